import PyProof.Rows.All
import Wide.All
import OpenK.AllK
import Wide.FinOn
import Lean
import PyProof.EqAt
import PyProof.EqKinds
import PyProof.TupleCall
import PyProof.CompFree
import PyProof.CompUse
import PyProof.CollectIter
import PyProof.ListNew
import KE.KRevIter
import PyProof.EnumMake
import PyProof.Draws
import PyProof.TupleIter
import PyProof.WalksMore
import PyProof.ReprRoads
import PyProof.P3Eq
import PyProof.NeData
import PyProof.EqLayable
import PyProof.Rows.RegFStrParts
import PyProof.AutoListH
import KE.KItemsList
import KE.KDictList
import PyProof.StrBlockG
import PyProof.StrLawsOcc
import PyProof.StrLawsTight
import PyProof.StrLawsChain
import PyProof.Rows.Range3
import PyProof.MinMaxWalk
import PyProof.WalkInts
import PyProof.ExcClass3
import PyProof.ExcInit
import PyProof.InstStoreFacts
import PyProof.ExcArgsOwn
import KE.KIsAll
import PyProof.RaisesMany
import PyProof.RulesTry
import PyProof.Raises
import PyProof.RulesAs
import PyProof.NsDelKeeps
import PyProof.PassesOwn
import PyProof.Rows.CatchHere
import KE.KSortTup
import PyProof.FactsAll.tuple_2
import PyProof.TupleKey
import PyProof.Rows.RowHeap
import PyProof.SetKind
import PyProof.SetNew
import PyProof.DictIter
import PyProof.CollectWalk
import PyProof.Walks
import PyProof.ZipIter
import KE.KRevSl
import KE.KStateDown
import PyProof.SetRoads
import PyProof.SumWalk
import PyProof.CallStr
import PyProof.FactsAll.tuple_3
import PyProof.StrLawsIn
import PyProof.Rows.RuleM_int
import PyProof.FactsAll.dict_3
import KE.KItemsList
import PyProof.Rows.TupDisplay
import PyProof.FactsAll.dict_itemiterator_1
import PyProof.DictWalks
import PyProof.IsiH_list
import KE.KDictOf
import PySem.Challenge.RW_pileduel_k27_whole_read_just_what_is_bro
set_option Elab.async false
set_option linter.all false
set_option compiler.extract_closed false
set_option maxRecDepth 100000
def A_:=@PySem.wpAny_bind
def B_:=@PySem.wpAny_pure
def C_:=@List.length_map
def DD:=@PySem.Heap.get?_push_of_some
def D_:=@List.mem_map
def E_:=@List.getElem?_eq_getElem
def F_:=@List.getElem?_eq_some_iff
def G_:=@Nat.le_refl
def H_:=@PySem.Heap.get?_push_size
abbrev I_:=@if_neg
def J_:=@PySem.Heap.lt_size
def K_:=@Nat.le_trans
def L_:=@Option.map_eq_some_iff
def M_:=@List.getElem?_map
abbrev N_:=@if_pos
def O_:=@List.mem_singleton
def P_:=@List.map_append
def Q_:=@Bool.false_ne_true
def R_:=@List.length_append
def S_:=@List.mem_append
def T_:=@Nat.ne_of_lt
def U_:=@PyProof.Rows.wpS_bind
def V_:=@List.mem_of_getElem?
def W_:=@PyProof.Rows.wpS_pure
def X_:=@List.map_map
def Y_:=@Nat.lt_of_lt_of_le
def Z_:=@Array.getElem?_toList
def aA:=@List.size_toArray
def aB:=@List.mem_cons
def aC:=@PySem.wpAny_newObj_type
def aD:=@List.mem_append_left
def aE:=@Nat.zero_le
def aF:=@Array.length_toList
def aG:=@PySem.Heap.get?_update_self
def aH:=@Array.getElem?_eq_getElem
def aJ:=@List.take_succ
def aK:=@List.take_length
def aL:=@PySem.PassesOwn.never
def aM:=@List.mem_cons_of_mem
def aN:=@List.mem_append_right
def aO:=@PySem.Heap.SameBut.update
def aP:=@List.map_cons
abbrev aQ:=@of_decide_eq_true
def aR:=@List.length_cons
abbrev aS:=@decide_eq_false
abbrev aT:=@Classical.byContradiction
def aU:=@PySem.wpAny_call_entry
def aV:=@List.mem_cons_self
abbrev aW:=@decide_eq_true_iff
def aX:=@Option.some.inj
def aY:=@List.length_take
abbrev aZ:=@decide_eq_true
def a_:=@List.mem_filter
def bA:=@Nat.le_succ_of_le
def bB:=@PySem.wpAny_holding
def bC:=@PySem.Heap.get?_update_other
def bD:=@PySem.wpAny_mono
def bE:=@List.nodup_append
def bF:=@PySem.wpAny_setState_of
def bG:=@PySem.wpAny_callSpecial?_slot
def bH:=@Bool.and_eq_true
def bI:=@List.length_filter_le
def bJ:=@List.getD_eq_getElem?_getD
def bK:=@List.mem_range
def bL:=@PySem.wpAny_field
def bM:=@PySem.Paired.length
def bN:=@Nat.lt_or_ge
def bO:=@List.drop_eq_getElem_cons
def bP:=@PySem.boot_len
def bQ:=@PyProof.Rows.callWith_type1
abbrev bR:=@congrArg
def bS:=@PySem.Around.under_plainId
def bT:=@PySem.wpAny_isInstance
def bU:=@PySem.Calls.spliced_cons
def bV:=@PySem.wpAny_Call_Name_kw
def bW:=@PySem.Heap.size_push
def bX:=@PySem.Obj.data_mapFields
def bY:=@PySem.W.mg_none_of
def bZ:=@PySem.builtinLookup_eq_fast
def b_:=@PyProof.Rows.boot_tuple
def cB:=@List.append_nil
def cD:=@Nat.le_add_right
abbrev cF:=@Exists.elim
def cH:=@Nat.le_of_lt
def cJ:=@PySem.Calls.spliced_nil
def cK:=@Array.getElem?_eq_none
def cL:=@Nat.lt_of_succ_lt
def cN:=@PySem.F.slot_list_append
def cP:=@PySem.F.type_list_append
def cQ:=@Array.getD_eq_getD_getElem?
def cU:=@PyProof.Rows.slot_tuple_getitem
def cV:=@PySem.wpAny_rule
def cW:=@List.getElem?_append_right
def cX:=@List.nodup_nil
def cY:=@PySem.wpAny_setField
def cZ:=@Array.getElem?_eq_some_iff
def c_:=@Nat.lt_irrefl
def dA:=@Nat.lt_succ_of_lt
def dB:=@Int.natCast_nonneg
def dC:=@Array.getElem?_setIfInBounds
def dD:=@PySem.codeAny_builtin
def dE:=@List.lookup_cons
def dF:=@PySem.plainId_quiet
def dG:=@List.mem_flatMap
def dH:=@PySem.wpAny_dictEntries
abbrev dI:=@Ne.symm
def dJ:=@PySem.isSubtype_type
def dL:=@List.nodup_cons
def dM:=@PySem.wpAny_specialOf
def dN:=@Nat.lt_succ_self
def dO:=@List.any_eq_true
def dP:=@List.getElem?_append_left
def dQ:=@List.eq_nil_of_length_eq_zero
def dS:=@List.length_range
def dU:=@List.getElem?_eq_none
def dW:=@PySem.Obj.isFreed_of_fields
def dX:=@List.any_cons
def dY:=@PySem.wpAny_fieldsOf
def dZ:=@Int.ofNat.inj
def d_:=@PySem.typeLookup_type
def eA:=@Nat.le_succ
def eB:=@PySem.wpAny_attempt
def eC:=@PySem.wpAny_truthy_bool
def eD:=@List.take_sublist
def eE:=@PySem.wpAny_pyIter_list
def eF:=@Nat.le_of_lt_succ
def eG:=@List.pairwise_map
def eI:=@List.getElem_of_mem
def eJ:=@Array.toList_append
def eK:=@PySem.wpAny_of_eq
def eL:=@Nat.lt_of_le_of_lt
def eM:=@List.all_eq_true
def eO:=@List.getElem_mem
def eQ:=@PySem.wpAny_typeNameOfWhole_itemiter
def eU:=@Option.isSome_iff_exists
def eV:=@Nat.lt_trans
def eX:=@PySem.wpAny_seqItems
def eY:=@List.mem_of_mem_take
def eZ:=@PySem.wpAny_typeNameOfWhole_keyiter
def e_:=@Int.toNat_natCast
def fA:=@PySem.wpAny_pyIter_slot
def fB:=@Bool.or_eq_true
def fC:=@List.foldl_cons
def fD:=@PySem.wpAny_dictEpoch
def fE:=@PyProof.Rows.wpS_modify
abbrev fF:=@beq_eq_false_iff_ne
def fG:=@PySem.wpAny_typeOf
def fH:=@Nat.le_of_eq
def fJ:=@List.take_of_length_le
def fK:=@List.drop_length
def fL:=@PyProof.Rows.assignInOrder_cons
def fM:=@PySem.tupleKind_room_in1
def fN:=@List.filter_append
def fO:=@PySem.wpAny_setField_rec
def fP:=@PySem.wpAny_notOrdered_dict
def fQ:=@PySem.wpAny_typeNameOf_itemiter
def fS:=@List.exists_mem_of_ne_nil
def fU:=@PySem.wpAny_passesOwn
def fV:=@Nat.ne_of_gt
def fW:=@List.append_assoc
def fX:=@PyProof.Rows.Reads.keeps
def fY:=@PySem.wpAny_typeNameOf_keyiter
def fZ:=@List.filterMap_cons
def f_:=@PySem.mem_of_lookup
def gA:=@Nat.add_le_add_left
def gB:=@PySem.W.looks_mroIn
def gD:=@PyProof.Rows.callWith_builtin1
def gE:=@List.length_drop
def gF:=@PySem.F.plainAttrs_dict
def gG:=@PySem.wpAny_getItem_str_slice
def gH:=@PySem.W.Looks.ld
def gI:=@List.filter_cons
def gJ:=@PySem.wpAny_forIn_list
def gK:=@PyProof.Rows.wpS_mono
abbrev gL:=@Sum.inl.inj
def gM:=@Int.le_refl
def gN:=@PySem.wpAny_typeNameOfWhole_valiter
def gO:=@PySem.Calls.callWith_builtin
def gP:=@List.pairwise_lt_range
def gQ:=@Nat.pos_of_ne_zero
def gR:=@PySem.wpAny_isOneOf_itemiter
def gS:=@PyProof.Rows.wpS_forRange
def gT:=@PySem.wpAny_execs_nil
def gU:=@PySem.wpAny_updateSeq
def gV:=@Bool.eq_iff_iff
def gW:=@PySem.W.mg_of
def gX:=@PyProof.Rows.boot_min
def gY:=@Option.isSome_map
def gZ:=@List.ext_getElem?
def g_:=@Nat.not_lt
def hJ:=@PySem.codeAny_call_builtin
def hV:=@PySem.codeAny_mono
def h_:=@Nat.succ.inj
def iA:=@PySem.Heap.size_update
def iB:=@Nat.succ_pos
def iC:=@List.extract_eq_take_drop
def iD:=@List.length_pos_iff
def iE:=@List.map_congr_left
def iF:=@PySem.wpAny_standAt
def iG:=@PySem.F.args_tuple_add_2
def iH:=@PySem.F.slot_dict_itemiterator_iter
def iI:=@PySem.F.slot_list_extend
def iJ:=@PySem.F.type_list_extend
def iK:=@Nat.not_lt_zero
def iL:=@List.mem_filterMap
def iM:=@Nat.sub_le
def iN:=@Array.forIn_toList
def iO:=@Nat.eq_or_lt_of_le
def iP:=@PySem.F.entry_tuple_add
def iQ:=@PySem.wpAny_letGo
def iR:=@PySem.wpAny_bindName
def iS:=@PySem.F.slot_tuple_add
def iT:=@List.reverse_cons
def iU:=@PySem.call_meetsIn
def iV:=@PySem.Heap.get?_push_at
def iW:=@Nat.le_of_succ_le
def iX:=@PySem.Obj.cls_mapFields
def iY:=@PySem.isSubtype_stop
def iZ:=@PySem.wpAny_storeSet_of
def i_:=@PySem.wpAny_runValue
def jA:=@PySem.eqIsQuiet_byValue
def jB:=@List.length_pos_of_mem
def jC:=@PyProof.Rows.wpS_get
def jD:=@List.length_singleton
def jE:=@PySem.F.slot_dict_get
def jF:=@List.take_append_drop
def jG:=@PySem.wpAny_isOneOf_keyiter
def jH:=@PySem.wpAny_isOneOf_valiter
def jI:=@PyProof.Rows.boot_max
def jJ:=@Nat.le_of_not_lt
def jK:=@PySem.SeqAt.eqAt_reads
def jL:=@PySem.entryFor_of_tree
def jM:=@Nat.succ_le_succ
def jN:=@PySem.wpAny_handled
def jO:=@Nat.add_assoc
def jP:=@List.sum_cons
def jQ:=@PySem.Calls.evalArgs_plain
def jR:=@PySem.wpAny_throw
def jS:=@List.mem_of_mem_drop
def jT:=@Array.toList_extract
def jU:=@Nat.mul_le_mul_right
def jV:=@List.of_mem_zip
def jW:=@List.length_nil
def jX:=@PySem.post_val_or_str
def jY:=@Nat.le_max_left
def jZ:=@PySem.wpAny_ite_split
def j_:=@List.length_reverse
def kA:=@Nat.add_sub_cancel'
def kD:=@PySem.W.callWith_K
def kE:=@List.drop_zero
abbrev kF:=@beq_iff_eq
def kG:=@PySem.Code.quiet_builtin
def kH:=@PySem.wpAny_pyIter_tuple
def kI:=@PySem.wpAny_tupleItemsOf
def kJ:=@List.Perm.refl
def kK:=@Int.emod_lt_of_pos
def kL:=@Nat.testBit_or
def kM:=@PySem.wpAny_tryCatch
def kN:=@List.length_range'
def kO:=@PyProof.Rows.assignInOrder_nil
def kP:=@PySem.sizeLine_eq
def kQ:=@PySem.Paired.snoc
def kR:=@PySem.wpAny_loadPart_at
def kS:=@Nat.lt_trichotomy
def kT:=@Array.toList_push
def kU:=@List.flatten_cons
def kW:=@List.set_comm
def kX:=@Bool.false_or
def kY:=@PySem.signature?_of
def kZ:=@List.map_take
def k_:=@List.map_drop
def lA:=@PySem.wpAny_execs_cons
def lB:=@PySem.noFill_tuple_add
def lC:=@Nat.min_le_right
abbrev lD:=@Prod.ext
def lE:=@PySem.wpAny_Dict_empty
abbrev lF:=@beq_self_eq_true
def lG:=@PySem.wpAny_askSetting
def lH:=@Nat.zero_testBit
def lI:=@List.nodup_range
def lJ:=@PyProof.Rows.wpS_lift
def lK:=@List.mem_flatten
def lL:=@PySem.wpAny_call
def lM:=@PySem.Walks.list
def lN:=@Nat.add_comm
def lO:=@Nat.sub_lt
abbrev lP:=@PySem.Value
abbrev lQ:=@PySem.Shared
abbrev lR:=@PySem.PyData
abbrev lT:=@PySem.Addr
abbrev lU:=@PySem.W.Frag
abbrev lV:=@PySem.Program
abbrev lW:=@PySem.World
abbrev lX:=@PySem.Expr
abbrev lY:=@PySem.Around
abbrev lZ:=@PySem.Heap
abbrev l_:=@PySem.Obj
abbrev mC:=@PySem.Stmt
abbrev mD:=@PySem.FuncData
abbrev mE:=@PyProof.Rows.Keyed
abbrev mF:=@PySem.Scope
abbrev mG:=@PySem.NameKind
abbrev mH:=@PySem.Result
abbrev mI:=@PyProof.Rows.SortSt
abbrev mJ:=@PyProof.Rows.SortKind
abbrev oA:=List
abbrev oB:=Option
abbrev oC:=Array
def oH{α:Type}{a:α}{p:Prop}:a=a∨p:=.inl rfl
def oI{α:Type}{a:α}{p:Prop}:p∨a=a:=.inr rfl
abbrev qU{α:Type}(p:PySem.Program)(w:PySem.World):=@PySem.wpAny α<|PySem.model p w
namespace L2
def EB{c:Sort _}{a b:c->Prop}{P:Prop}(h:∃x,a x/\b x)(k:∀x,a x->b x->P):P:=cF h λx y=>k x y.1 y.2
def Cc{e d:Sort _}{a b c:e->d->Prop}{P:Prop}(h:∃x y,a x y/\b x y/\c x y)(k:∀x y,a x y->b x y->c x y->P):P:=cF h λx h=>cF h λy h=>k x y h.1 h.2.1 h.2.2
def B1{f e g:Sort _}{a b c d:f->e->g->Prop}{P:Prop}(h:∃x y z,a x y z/\b x y z/\c x y z/\d x y z)(k:∀x y z,a x y z->b x y z->c x y z->d x y z->P):P:=cF h λx h=>cF h λy h=>cF h λz h=>k x y z h.1 h.2.1 h.2.2.1 h.2.2.2
def Fe{f j g i:Sort _}{a b c d e:f->j->g->i->Prop}{P:Prop}(h:∃x y z u,a x y z u/\b x y z u/\c x y z u/\d x y z u/\e x y z u)(k:∀x y z u,a x y z u->b x y z u->c x y z u->d x y z u->e x y z u->P):P:=cF h λx h=>cF h λy h=>cF h λz h=>cF h λu h=>k x y z u h.1 h.2.1 h.2.2.1 h.2.2.2.1 h.2.2.2.2
def Mx{g l i j:Sort _}{a b c d e f:g->l->i->j->Prop}{P:Prop}(h:∃x y z u,a x y z u/\b x y z u/\c x y z u/\d x y z u/\e x y z u/\f x y z u)(k:∀x y z u,a x y z u->b x y z u->c x y z u->d x y z u->e x y z u->f x y z u->P):P:=cF h λx h=>cF h λy h=>cF h λz h=>cF h λu h=>k x y z u h.1 h.2.1 h.2.2.1 h.2.2.2.1 h.2.2.2.2.1 h.2.2.2.2.2
def Gi{e i f g l j:Sort _}{a b c d:e->i->f->g->l->j->Prop}{P:Prop}(h:∃x y z u v w,a x y z u v w/\b x y z u v w/\c x y z u v w/\d x y z u v w)(k:∀x y z u v w,a x y z u v w->b x y z u v w->c x y z u v w->d x y z u v w->P):P:=cF h λx h=>cF h λy h=>cF h λz h=>cF h λu h=>cF h λv h=>cF h λw h=>k x y z u v w h.1 h.2.1 h.2.2.1 h.2.2.2
open PySem PySem.Spec PyProof.Rows
abbrev Key:=Sum Int Str
def Ih:Key->lP->Bool
 |.inl k,v=>Value.isInt k v
 |.inr x,v=>Value.isStrOf x v
def KL(w:lW):Key->Int
 |.inl k=>hashInt k
 |.inr x=>hashStr w x
def keyIs_shape:∀{k:Key} {v:lP},Ih k v=true->(∃i t,k=Sum.inl i/\v=Value.int i t)\/(∃x t,k=Sum.inr x/\v=Value.str x t)
 |.inl i,v,h=>by obtain⟨t,e⟩:=Value.isInt_shape (k:=i) (v:=v) h;exact .inl ⟨i,t,rfl,e⟩
 |.inr x,v,h=>by obtain⟨t,e⟩:=Value.isStrOf_shape (x:=x) (v:=v) h;exact .inr ⟨x,t,rfl,e⟩
def Vn(i:Int)(t:Tok):Ih (.inl i) (.int i t)=true:=by simp[Ih,Value.isInt]
def Vo(x:Str)(t:Tok):Ih (.inr x) (.str x t)=true:=by simp[Ih,Value.isStrOf]
def KM(a b:Int):decide ((Sum.inl a:Key)=Sum.inl b)=(a==b):=by
 by_cases e:a=b
 ·subst e;simp
 ·have h:¬(Sum.inl a:Key)=Sum.inl b:=λq=>e<|gL q;rw[aS h];exact(fF.mpr e).symm
def KN(a b:Str):decide ((Sum.inr a:Key)=Sum.inr b)=decide (a=b):=by
 by_cases e:a=b
 ·subst e;simp
 ·have h:¬(Sum.inr a:Key)=Sum.inr b:=λq=>e<|Sum.inr.inj q;rw[aS h,aS e]
def KO(a:Int)(b:Str):decide ((Sum.inl a:Key)=Sum.inr b)=false:=aS λq=>nomatch q
def KP(a:Str)(b:Int):decide ((Sum.inr a:Key)=Sum.inl b)=false:=aS λq=>nomatch q
def Az(prog:lV)(w:lW):PySem.KeyKind prog w Key where
 is:=Ih
 hash:=KL w
 inj:=λv a b ha hb=>by
  rcases keyIs_shape ha with⟨i,t,rfl,rfl⟩|⟨x,t,rfl,rfl⟩
  ·rcases keyIs_shape hb with⟨j,u,rfl,e⟩|⟨y,u,rfl,e⟩
   ·injection e with e1 _;rw[e1]
   ·exact nomatch e
  ·rcases keyIs_shape hb with⟨j,u,rfl,e⟩|⟨y,u,rfl,e⟩
   ·exact nomatch e
   ·injection e with e1 _;rw[e1]
 byValue:=λk v h=>by rcases keyIs_shape h with⟨i,t,rfl,rfl⟩|⟨x,t,rfl,rfl⟩<;>rfl
 pyHash:=λhv h=>by
  rcases keyIs_shape hv with⟨i,t,rfl,rfl⟩|⟨x,t,rfl,rfl⟩
  ·exact wpAny_pyHash_int h
  ·exact wpAny_pyHash_str h
 eqBool:=λhu hv h=>by
  rcases keyIs_shape hu with⟨i,t,rfl,rfl⟩|⟨x,t,rfl,rfl⟩
  ·rcases keyIs_shape hv with⟨j,u,rfl,rfl⟩|⟨y,u,rfl,rfl⟩
   ·rw[KM]at h;exact wpAny_eqBool_int h
   ·rw[KO]at h;exact SeqAt.EqAt.int_str i t y u _ _ _ _ h
  ·rcases keyIs_shape hv with⟨j,u,rfl,rfl⟩|⟨y,u,rfl,rfl⟩
   ·rw[KP]at h;exact SeqAt.EqAt.str_int x t j u _ _ _ _ h
   ·rw[KN]at h;exact wpAny_eqBool_str h
 «strs»:=λk x t v h=>by
  rcases keyIs_shape h with⟨i,u,rfl,e⟩|⟨y,u,rfl,e⟩
  ·exact nomatch e
  ·injection e with e1 _;subst e1;cases v<;>rfl
def Cl(prog:lV)(w:lW)(i:Int)(t:Tok):(Az prog w).is (.inl i) (.int i t)=true:=Vn i t
def Fs(prog:lV)(w:lW)(x:Str)(t:Tok):(Az prog w).is (.inr x) (.str x t)=true:=Vo x t
end L2
namespace L2
open PySem PySem.Spec PyProof.Rows
inductive V where
 |non|bl (b:Bool)|int (i:Int)|str (x:Str)|byt (b:oC UInt8)|flt (b:UInt64)|ref (a:lT)|ty (n:String)
 deriving DecidableEq
def Ba:V->lP->Prop
 |.non,u=>u=Value.none
 |.bl b,u=>u=Value.bool b
 |.int i,u=>∃t,u=Value.int i t
 |.str x,u=>∃t,u=Value.str x t
 |.byt b,u=>∃t,u=Value.bytes b t
 |.flt b,u=>∃t,u=Value.float b t
 |.ref a,u=>u=Value.ref a
 |.ty n,u=>u=Value.type n
abbrev Vals:oA V->oA lP->Prop:=Paired Ba
def Vals.length{xs:oA V}{a:oA lP}(r:Vals xs a):xs.length=a.length:=bM r
theorem Vals.get:∀{xs:oA V} {a:oA lP} {i:Nat} {x:V},Vals xs a->xs[i]?=some x->∃u,a[i]?=some u/\Ba x u
 |_,_,_,_,.nil,e=>by simp at e
 |_,_,0,_,.cons r _,e=>by simp at e;subst e;exact⟨_,rfl,r⟩
 |_,_,i+1,x,.cons _ t,e=>by obtain⟨u,h1,h2⟩:=Vals.get (i:=i) (x:=x) t (by simpa using e);exact⟨u,by simpa using h1,h2⟩
theorem Vals.append:∀{xs ys:oA V} {a b:oA lP},Vals xs a->Vals ys b->Vals (xs++ys) (a++b)
 |_,_,_,_,.nil,s=>s
 |_,_,_,_,.cons r t,s=>.cons r<|Vals.append t s
theorem Vals.take:∀{xs:oA V} {a:oA lP} (n:Nat),Vals xs a->Vals (xs.take n) (a.take n)
 |_,_,0,_=>.nil
 |_,_,_+1,.nil=>.nil
 |_,_,n+1,.cons r t=>.cons r<|Vals.take n t
theorem Vals.drop:∀{xs:oA V} {a:oA lP} (n:Nat),Vals xs a->Vals (xs.drop n) (a.drop n)
 |_,_,0,r=>r
 |_,_,_+1,.nil=>.nil
 |_,_,n+1,.cons _ t=>Vals.drop n t
def Gj:oB V->oB lP->Prop
 |some v,some u=>Ba v u
 |none,none=>True
 |_,_=>False
def KV{a:Type}:oA (a×V)->oA (a×lP)->Prop:=Paired λ(p:a×V) (q:a×lP)=>p.1=q.1/\Ba p.2 q.2
def kV:Key->V
 |.inl i=>.int i
 |.inr x=>.str x
mutual
def Be(w:lW):lR->Int
 |.int i=>KL w (.inl i)
 |.str x=>KL w (.inr x)
 |.tuple a=>reduceHash (Builtin.Tuple.tupleHashOf<|De w a)
 |_=>0
def De(w:lW):oA lR->oA Int
 |[]=>[]
 |d::a=>Be w d::De w a
end
def YR(w:lW)(x:lR×lT×lP):DictEntry:=⟨Be w x.1,.ref x.2.1,x.2.2⟩
def YS(w:lW)(h:lZ)(a:lT)(xs:oA<|lR×lT×lP):Prop :=
 ∃o b c,h.get? a=some o/\o.ExactDict/\o.data=.dict b c/\b.toList=xs.map (YR w)/\(xs.map (·.1)).Nodup/\(a==sysModules)=false/\xs.length<=sizeLine
inductive HO where
 |lst (xs:oA V)
 |tup (xs:oA V)
 |dK (kvs:oA<|Key×V)|dT (kvs:oA<|oA Key×V)
 |set (S:Int->Bool) (n:Nat)
 |ins (C dx:lT) (fs:oA<|Str×V)
 |own (x:lT)
 |xd (fs:oA<|Str×V)
 |met (f x:lT)
 |rng (lo hi:Int)
 |frz (o:l_) (u:HO)
 |tbl (ps:oC lP)
 |ext (φ:lZ->Prop)
 |dd (xs:oA<|lR×lT×lP)
abbrev Hp:=lT->oB HO
def upd(H:Hp)(a:lT)(o:HO):Hp:=λb=>if b=a then some o else H b
def Bc{H:Hp}{a:lT}{o:HO}:upd H a o a=some o:=by unfold upd;rw[N_ rfl]
def Ao{H:Hp}{a b:lT}{o:HO}(h:b≠a):upd H a o b=H b:=by unfold upd;rw[I_ h]
def N9{H:Hp}{a b:lT}{o u:HO}(h:H a=some o)(h':H b=some u)(d:o≠u):a≠b:=by intro e;subst e;rw[h]at h';exact d<|aX h'
def Bw{H:Hp}{a b:lT}{o:HO}(h:H a=some o)(h':H b=none):a≠b:=by intro e;subst e;rw[h]at h';cases h'
section
variable(P:lV)(w:lW)
def Bg(H:Hp)(h:lZ)(a:lT):HO->Prop
 |.lst c=>c.length<=sizeLine/\∃(e:oA lP) (n:Nat),Vals c e/\h.get? a=some {cls:=.type "list",data:=.seq e.toArray n}
 |.tup c=>c.length<=sizeLine/\∃e:oA lP,Vals c e/\IsTup h a e.toArray
 |.dK b=>b.length<=sizeLine/\(a==sysModules)=false/\∃k,KV b k/\h.DictOf (Az P w) a k
 |.dT b=>b.length<=sizeLine/\(a==sysModules)=false/\∃c:oA<|oA Key×lT×lP,
   Paired (λ(p:oA Key×V) (q:oA Key×lT×lP)=>p.1=q.1/\H q.2.1=some (.tup<|p.1.map kV)/\Ba p.2 q.2.2) b c /\
   ∃o l m,h.get? a=some o/\o.ExactDict/\o.data=.dict l m/\l.toList=c.map (entryOfKey<|tupleKind<|Az P w)/\(c.map (·.1)).Nodup
 |.set S n=>h.SetOf (intKind P w) a S n
 |.ins C i g=>H i=some (.own a)/\g.length<=1000/\i≠a/\h.get? a=some (PySem.W.instObj C i) /\
   ∃d,h.Ns1 i d/\(∀f,Gj (g.lookup f)<|d f)/\PySem.Within d (g.map (·.1))
 |.own _=>∃o,h.get? a=some o
 |.xd g=>∃d,h.Ns1 a d/\∀f,Gj (g.lookup f) (d f)
 |.rng lo s=>∃t u v,h.get? a=some {cls:=.type "range",data:=.fields #[.int lo t,.int s u,.int 1 v]}
 |.frz o u=>h.get? a=some o/\Bg H h a u
 |.tbl r=>h.get? a=some {cls:=.none,data:=.fields r}
 |.met f x=>h.get? a=some (PySem.W.methodObj (.ref f)<|.ref x)
 |.ext j=>j h/\(∃o,h.get? a=some o)/\∀h1 h2:lZ,j h1->(∀o,h1.get? a=some o->h2.get? a=some o)->j h2
 |.dd c=>YS w h a c
def HOk(H:Hp)(h:lZ):Prop:=∀a o,H a=some o->Bg P w H h a o
end
section
variable {P:lV}{w:lW}{H H':Hp}{h h':lZ}{a:lT}{o:HO}{x e:lT}{o':HO}{fs fs' ex ex':oA lT}{H1 H2:Hp}{h1 h2:lZ}
theorem Bg.lt(x:Bg P w H h a o):a<h.objs.size:=by
 cases o with
 |lst c=>obtain⟨_,_,_,_,e⟩:=x;exact J_ e
 |tup c=>obtain⟨_,_,_,p⟩:=x;exact p.lt
 |dK b=>obtain⟨_,_,_,_,o,_,_,e,_⟩:=x;exact J_ e
 |dT b=>obtain⟨_,_,_,_,o,_,_,e,_⟩:=x;exact J_ e
 |set S n=>obtain⟨o,_,_,_,e,_⟩:=x;exact J_ e
 |ins C g fs=>obtain⟨_,_,_,e,_⟩:=x;exact J_ e
 |own y=>obtain⟨_,e⟩:=x;exact J_ e
 |xd fs=>obtain⟨_,⟨_,_,_,e,_⟩,_⟩:=x;exact J_ e
 |rng lo j=>obtain⟨_,_,_,e⟩:=x;exact J_ e
 |frz d u=>obtain⟨e,_⟩:=x;exact J_ e
 |tbl k=>exact J_ (show h.get? a=some _ from x)
 |met f y=>exact J_ (show h.get? a=some _ from x)
 |ext i=>obtain⟨_,⟨_,e⟩,_⟩:=x;exact J_ e
 |dd c=>obtain⟨_,_,_,e,_⟩:=x;exact J_ e
theorem Paired.mapP{i g:Type}{F G:i->g->Prop}:∀{c:oA i} {d:oA g},Paired F c d->(∀a b,F a b->G a b)->Paired G c d
 |_,_,.nil,_=>.nil
 |_,_,.cons r t,f=>.cons (f _ _ r)<|Paired.mapP t f
def Bg.stay(x:Bg P w H h a o)(k:∀b u,(b=a\/H b=some (.own a))->h.get? b=some u->h'.get? b=some u) (E:∀b,H b=some (.own a)->H' b=some (.own a)) (I:∀b l,H b=some (.tup l)->H' b=some (.tup l)):Bg P w H' h' a o:=by
 induction o with
 |lst l=>obtain⟨z,s,n,r,e⟩:=x;exact⟨z,s,n,r,k _ _ (.inl rfl) e⟩
 |tup l=>obtain⟨z,s,r,j,e,c⟩:=x;exact⟨z,s,r,j,k _ _ (.inl rfl) e,c⟩
 |dK B=>obtain⟨z,y,F,r,j,i,g,e,c⟩:=x;exact⟨z,y,F,r,j,i,g,k _ _ (.inl rfl) e,c⟩
 |dT B=>obtain⟨z,y,l,r,j,i,g,e,c⟩:=x;exact⟨z,y,l,Paired.mapP r λp q z=>⟨z.1,I _ _ z.2.1,z.2.2⟩,j,i,g,k _ _ (.inl rfl) e,c⟩
 |set S n=>obtain⟨j,i,g,t,e,c⟩:=x;exact⟨j,i,g,t,k _ _ (.inl rfl) e,c⟩
 |ins C L fs=>obtain⟨d,z,ne,e,m,⟨A,i,g,J,c⟩,r⟩:=x;exact⟨E _ d,z,ne,k _ _ (.inl rfl) e,m,⟨A,i,g,k _ _ (.inr d) J,c⟩,r⟩
 |own y=>obtain⟨j,e⟩:=x;exact⟨j,k _ _ (.inl rfl) e⟩
 |xd fs=>obtain⟨m,⟨A,i,g,e,c⟩,r⟩:=x;exact⟨m,⟨A,i,g,k _ _ (.inl rfl) e,c⟩,r⟩
 |rng lo N=>obtain⟨t,u,v,e⟩:=x;exact⟨t,u,v,k _ _ (.inl rfl) e⟩
 |frz j u G=>obtain⟨e,q⟩:=x;exact⟨k _ _ (.inl rfl) e,G q⟩
 |tbl D=>have e:h.get? a=some {cls:=.none,data:=.fields D}:=x;show h'.get? a=some {cls:=.none,data:=.fields D};exact k a _ (.inl rfl) e
 |met f y=>have e:h.get? a=some (PySem.W.methodObj (.ref f)<|.ref y):=x;show h'.get? a=some (PySem.W.methodObj (.ref f)<|.ref y);exact k a _ (.inl rfl) e
 |ext M=>obtain⟨p,⟨o,e⟩,st⟩:=x;exact⟨st _ _ p λo q=>k _ _ (.inl rfl) q,⟨o,k _ _ (.inl rfl) e⟩,st⟩
 |dd l=>obtain⟨o,i,g,e,c⟩:=x;exact⟨o,i,g,k _ _ (.inl rfl) e,c⟩
theorem HOk.lt(x:HOk P w H h)(e:H a=some o):a<h.objs.size:=(x a o e).lt
def HOk.fresh(x:HOk P w H h)(e:h.objs.size<=a):H a=none:=by
 cases q:H a with
 |none=>rfl
 |some u=>exact absurd (Y_ (x.lt q) e)<|c_ _
def HOk.kept(x:HOk P w H h)(k:∀b u,h.get? b=some u->h'.get? b=some u):HOk P w H h':=λa o e=>
 (x a o e).stay (λb u _ q=>k b u q) (λ_ q=>q) λ_ _ q=>q
def HOk.laid(x:HOk P w H h)(k:∀b u,h.get? b=some u->h'.get? b=some u)(hp:h.objs.size<=a)(d:Bg P w (upd H a o) h' a o):HOk P w (upd H a o) h':=λb u e=>by
 have f:=x.fresh hp;by_cases hb:b=a
 ·subst hb;rw[Bc]at e;cases e;exact d
 ·rw[Ao hb]at e;exact(x b u e).stay (λc v _ q=>k c v q) (λc q=>by rw[Ao<|Bw q f];exact q) λc g q=>by rw[Ao<|Bw q f];exact q
def Rd(H:Hp)(a:lT)(u:HO):Prop:=H a=some u\/∃o,H a=some (.frz o u)
def Rd.ok{P:lV}{w:lW}{H:Hp}{h:lZ}{a:lT}{u:HO}(r:Rd H a u)(x:HOk P w H h):Bg P w H h a u:=by
 rcases r with r|⟨o,r⟩
 ·exact x a u r
 ·obtain⟨_,q⟩:=x a _ r;exact q
def Mut:oB HO->Prop
 |some (.lst _)=>True
 |some (.dK _)=>True
 |some (.dT _)=>True
 |some (.set _ _)=>True
 |some (.ins _ _ _)=>True
 |some (.ext _)=>True
 |some (.dd _)=>True
 |_=>False
def HOk.write(ok:HOk P w H h)(g:Mut<|H x)(he:e=x\/H e=some (.own x))(k:∀b u,b≠e->h.get? b=some u->h'.get? b=some u)(n:∃u,h'.get? e=some u)
  (i:Bg P w (upd H x o') h' x o'):HOk P w (upd H x o') h':=λb u q=>by
 have m:∀c y,H c=some (.own y)->c≠x:=λc y r z=>by subst z;rw[r]at g;exact g
 have j:∀c d,H c=some (.tup d)->c≠x:=λc d r z=>by subst z;rw[r]at g;exact g
 by_cases hb:b=x
 ·subst hb;rw[Bc]at q;cases q;exact i
 ·rw[Ao hb]at q;by_cases f:b=e
  ·have l:H b=some (.own x):=by
    rcases he with z|z
    ·exact absurd (f.trans z) hb
    ·rw[f];exact z
   rw[q]at l;cases l;obtain⟨v,hv⟩:=n;exact⟨v,by rw[f];exact hv⟩
  ·refine(ok b u q).stay (λc v hc r=>k c v ?_ r) (λc r=>by rw[Ao<|m c b r];exact r) λc d r=>by rw[Ao<|j c d r];exact r
   rcases hc with rfl|hc
   ·exact f
   ·rintro rfl;rcases he with z|z
    ·exact m c b hc z
    ·rw[hc]at z;cases z;exact hb rfl
structure Un(fs ex:oA lT)(H H':Hp)(h h':lZ):Prop where
 keep:∀b o,h.get? b=some o->H b=none->b∉fs->b∉ex->h'.get? b=some o
 slot:∀b o,h.get? b=some o->H b=none->b∈fs->b∉ex->∃sl,h'.get? b=some {o with slots:=sl}
 free:∀b o,h.get? b=some o->H b=none->b∉ex->H' b=none
 there:∀b o,h.get? b=some o->b∉ex->∃o',h'.get? b=some o'
 tups:∀b xs,H b=some (.tup xs)->H' b=some (.tup xs)
 frzs:∀b o u,H b=some (.frz o u)->H' b=some (.frz o u)
 tbls:∀b ps,H b=some (.tbl ps)->∃more,H' b=some (.tbl<|ps++more)
def Un.any(u:Un fs ex H H1 h h1){b:lT}{c:l_}(q:h.get? b=some c)(n:H b=none)(hx:b∉ex):∃d,h1.get? b=some {c with slots:=d}:=by
 by_cases hb:b∈fs
 ·exact u.slot b c q n hb hx
 ·exact⟨c.slots,u.keep b c q n hb hx⟩
def Un.kept(k:∀b u,h.get? b=some u->h'.get? b=some u):Un fs ex H H h h' :=
 ⟨λb c q _ _ _=>k b c q,λb c q _ _ _=>⟨c.slots,k b c q⟩,λ_ _ _ n _=>n,λb c q _=>⟨c,k b c q⟩,λ_ _ q=>q,λ_ _ _ q=>q,λ_ d q=>⟨#[],by rw[q];simp⟩⟩
def Un.refl:Un fs ex H H h h:=Un.kept λ_ _ q=>q
def Un.laid(k:∀b u,h.get? b=some u->h'.get? b=some u)(hp:h.objs.size<=a)(hn:H a=none):Un fs ex H (upd H a o) h h' where
 keep:=λb u q _ _ _=>k b u q
 slot:=λb u q _ _ _=>⟨u.slots,k b u q⟩
 free:=λb u q n _=>by rw[Ao<|T_<|Y_ (J_ q) hp];exact n
 there:=λb u q _=>⟨u,k b u q⟩
 tups:=λb c q=>by rw[Ao<|Bw q hn];exact q
 frzs:=λb u c q=>by rw[Ao<|Bw q hn];exact q
 tbls:=λb d q=>⟨#[],by rw[Ao<|Bw q hn,q];simp⟩
def Un.write(c:Mut<|H x)(he:e=x\/H e=some (.own x))(k:∀b u,b≠e->h.get? b=some u->h'.get? b=some u)(i:∃u,h'.get? e=some u):Un fs ex H (upd H x o) h h':=by
 have hx:∀b,H b=none->b≠x:=λb n z=>by subst z;rw[n]at c;exact c
 have hb:∀b,H b=none->b≠e:=λb n z=>by
  subst z;rcases he with r|r
  ·exact hx b n r
  ·rw[n]at r;cases r
 have d:∀b u,H b=some u->¬Mut (some u)->b≠x:=λb u q g z=>by subst z;rw[q]at c;exact g c
 refine⟨λb u q n _ _=>k b u (hb b n) q,λb u q n _ _=>⟨u.slots,k b u (hb b n) q⟩,λb u q n _=>by rw[Ao<|hx b n];exact n,λb u q _=>?_,
  λb j q=>by rw[Ao<|d b _ q λz=>z];exact q,λb u j q=>by rw[Ao<|d b _ q λz=>z];exact q,λb l q=>⟨#[],by rw[Ao<|d b _ q λz=>z,q];simp⟩⟩
 by_cases f:b=e
 ·subst f;exact i
 ·exact⟨u,k b u f q⟩
end
def trk(h:lZ)(H:Hp):oA lT:=(List.range h.objs.size).filter λa=>(H a).isSome
def My(h:lZ)(H:Hp):lZ:=PySem.W.hideAll h<|trk h H
def Vp(h:lZ)(H:Hp):(My h H).objs.size=h.objs.size:=PySem.W.hideAll_size _ _
def Xx{h:lZ}{H:Hp}{b:lT}{o:l_}(e:h.get? b=some o)(n:H b=none):(My h H).get? b=some o :=
 PySem.W.hideAll_get _ e λa=>by have q:(H b).isSome=true:=(a_.mp a).2;rw[n]at q;simp at q
def EC{h:lZ}{H:Hp}{b:lT}{o:l_}(e:(My h H).get? b=some o):h.get? b=some o/\H b=none:=by
 have a:h.get? b=some o:=PySem.W.of_hideAll (trk h H) e;refine⟨a,?_⟩;cases q:H b with
 |none=>rfl
 |some x=>have c:b∈trk h H:=a_.mpr ⟨bK.mpr<|J_ a,by simp[q]⟩;have z:(My h H).get? b=none:=PySem.W.hideAll_none (trk h H) c;rw[z]at e;cases e
def ED(g h:lZ)(L:lT):oA (lT×l_):=(List.range h.objs.size).filterMap λa=>if a=L\/(g.get? a).isSome=true then none else(h.get? a).map λo=>(a,o)
def rest(g h:lZ)(L d:lT):oA (lT×l_):=(ED g h L).filter λp=>decide (p.1≠d)
structure Mod(K:lU)(mg:Str->oB lP)(base:lZ):Prop where
 kin:K.In base
 glob:base.Ns mainGlobals mg
 blt:∃mb,base.Ns builtinsNs mb/\∀x:Str,x ≠ "__name__" -> mb x=bootBuiltins x
 nolimit:base.NoLimit
structure Cx where
 prog:lV
 w:lW
 K:lU
 mg:Str->oB lP
 base:lZ
 A:lY
 N:oA Str
 s₀:lQ
 H₀:Hp
 env:Env
 outer:oA Env
 stack:oA Env
 ex:oA lT
 fn:Str->Bool
 calm:Bool
 pn:oA (lT×l_)
 xe:lP->lQ->Prop
def frs(l:oA Env):oA lT:=l.filterMap (·.frame)
abbrev Cx.fs(X:Cx):oA lT:=frs X.outer
def Vis(sc:mF)(x:Str):Prop:=sc.names.lookup x=some .local\/sc.names.lookup x=some .cell\/sc.names.lookup x=some .free
def Loc(sc:mF)(x:Str):Prop:=sc.names.lookup x=some .local\/sc.names.lookup x=some .cell
def Look(env:Env)(h:lZ)(m:Str->oB lP)(x:Str)(u:lP):Prop :=
 (env.kindOf x=some .local/\m x=some u)\/((env.kindOf x=some .cell\/env.kindOf x=some .free)/\∃c,env.cells.lookup x=some c/\h.IsCell c (some u))
structure Cx.Ok(X:Cx):Prop where
 mod:Mod X.K X.mg X.base
 kind:X.env.scope.kind=.function
 glob:X.env.globals=mainGlobals
 blt:X.env.builtins=builtinsNs
 above:X.s₀.heap.objs.size<=X.env.locals
 inj:∀x y c,X.env.cells.lookup x=some c->X.env.cells.lookup y=some c->x=y
 has:∀x,(X.env.kindOf x=some .cell\/X.env.kindOf x=some .free)->∃c,X.env.cells.lookup x=some c
 cab:∀x c,X.fn x=true->X.env.cells.lookup x=some c->X.s₀.heap.objs.size<=c
 hd:X.calm=true->X.A.handled=none
 frames:X.A.frames=some X.stack
 stk:X.stack=X.outer\/(X.stack=X.env::X.outer/\X.env.frame=some X.env.locals)
 exf:∀b∈X.ex,b≠X.env.locals/\∀x c,X.env.cells.lookup x=some c->c≠b
 bs:∀b o,X.base.get? b=some o->X.s₀.heap.get? b=some o/\X.H₀ b=none
 bsz:X.base.objs.size<=X.s₀.heap.objs.size
 noex:∀b o,X.base.get? b=some o->b∉X.ex
 exfs:∀b∈X.ex,b∉X.fs
 funs:X.s₀.heap.FunFrames X.base X.outer
 frf:∀b∈X.fs,X.H₀ b=none
structure Inv(X:Cx)(aa:oA<|lT×l_)(σ:oA<|oB V)(H:Hp)(s:lQ):Prop where
 ok:X.Ok
 os:s.os=X.s₀.os
 bare:AllBare s.gens
 base:Un X.fs X.ex X.H₀ H X.s₀.heap s.heap
 loc:∃m,s.heap.Ns X.env.locals m/\∀(i:Nat) (x:Str) (v:V),X.N[i]?=some x->σ[i]?=some (some v)->Vis X.env.scope x->∃u,Ba v u/\Look X.env s.heap m x u
 cell:∀x c,X.env.cells.lookup x=some c->∃v,s.heap.IsCell c v
 free:H X.env.locals=none
 freeC:∀x c,X.env.cells.lookup x=some c->H c=none
 pin:∀p∈X.pn++aa,s.heap.get? p.1=some p.2/\H p.1=none/\p.1≠X.env.locals/\p.1∉X.fs/\∀v,p.2.data≠.cell v
 hok:HOk X.prog X.w H s.heap
 len:σ.length=X.N.length
section
variable {X:Cx}{aa:oA<|lT×l_}{σ:oA<|oB V}{H H':Hp}{s:lQ}{h':lZ}{a b:lX}{ta tb:TE}{pos:Pos}{tA mz:TT}{rest:oA lX}
def Cx.Ok.nofr(ok:X.Ok){b:lT}{o:l_}(e:X.base.get? b=some o):b∉X.fs:=λhb=>by have:=(ok.funs.mem hb).1;rw[e]at this;cases this
def Inv.bs(I:Inv X aa σ H s):∀b o,X.base.get? b=some o->s.heap.get? b=some o/\H b=none:=λb o e=>
 ⟨I.base.keep b o (I.ok.bs b o e).1 (I.ok.bs b o e).2 (I.ok.nofr e)<|I.ok.noex b o e,I.base.free b o (I.ok.bs b o e).1 (I.ok.bs b o e).2<|I.ok.noex b o e⟩
def Inv.bk(I:Inv X aa σ H s):∀b o,X.base.get? b=some o->s.heap.get? b=some o:=λb o e=>(I.bs b o e).1
def Inv.mod(I:Inv X aa σ H s):Mod X.K X.mg X.base:=I.ok.mod
def Inv.kIn(I:Inv X aa σ H s):X.K.In s.heap:=I.ok.mod.kin.keeps I.bk
def Inv.lt(I:Inv X aa σ H s):X.env.locals<s.heap.objs.size:=by obtain⟨_,c,_⟩:=I.loc;exact c.lt
def Inv.sz(I:Inv X aa σ H s):X.s₀.heap.objs.size<=s.heap.objs.size:=K_ I.ok.above<|cH I.lt
def Inv.nofs(I:Inv X aa σ H s){a:lT}(h:s.heap.objs.size<=a):a∉X.fs:=λhb=>by obtain⟨_,o,c,_⟩:=I.ok.funs.mem hb;exact absurd (Y_ (J_ c)<|K_ I.sz h)<|c_ _
def Inv.cne(I:Inv X aa σ H s):∀x c,X.env.cells.lookup x=some c->c≠X.env.locals:=λx c e z=>by obtain⟨v,o,d,f⟩:=I.cell x c e;obtain⟨m,⟨j,k,i,h,g,_⟩,_⟩:=I.loc;rw[z,h]at d;cases d;rw[g]at f;cases f
theorem Inv.funs(I:Inv X aa σ H s):s.heap.FunFrames X.base X.outer:=by
 have all:∀(l:oA Env),(∀b∈frs l,b∈X.fs)->X.s₀.heap.FunFrames X.base l->s.heap.FunFrames X.base l:=by
  intro l
  induction l with
  |nil=>intro _ _;trivial
  |cons h r n=>intro f g;obtain⟨hk,⟨L,o,d,m,i,j⟩,k⟩:=g;have c:L∈X.fs:=f L (by unfold frs;rw[fZ,d];exact aV);obtain⟨p,e⟩:=I.base.slot L o i (I.ok.frf L c) c λz=>I.ok.exfs L z c;exact⟨hk,⟨L,_,d,m,e,j⟩,n (λb hb=>f b<|by unfold frs;rw[fZ,d];exact aM _ hb) k⟩
 exact all X.outer (λ_ hb=>hb) I.ok.funs
def Inv.stack(I:Inv X aa σ H s):s.heap.FunFrames X.base X.stack:=by
 rcases I.ok.stk with e|⟨e,c⟩
 ·rw[e];exact I.funs
 ·rw[e];obtain⟨m,d,_⟩:=I.loc;refine .cons (by rw[I.ok.kind];decide) c d ?_ I.funs;exact Heap.get?_none_of_le<|K_ I.ok.bsz I.ok.above
def Inv.stkSub(I:Inv X aa σ H s):∀b∈frs X.stack,b∈X.env.locals::X.fs:=λb hb=>by
 rcases I.ok.stk with e|⟨e,c⟩
 ·rw[e]at hb;exact aM _ hb
 ·rw[e]at hb;unfold frs at hb;rw[fZ,c]at hb;exact hb
def Inv.stkFree(I:Inv X aa σ H s):∀b∈frs X.stack,H b=none:=λb hb=>by
 rcases aB.mp (I.stkSub b hb) with e|hb
 ·rw[e];exact I.free
 ·obtain⟨_,o,c,_⟩:=I.ok.funs.mem hb;exact I.base.free b o c (I.ok.frf b hb) λz=>I.ok.exfs b z hb
def Inv.step{g':oC GenState}{t':Nat}{d':Drawn}{ch:oA lT}(I:Inv X aa σ H s) (C:∀b∈ch,(b∈X.ex\/X.s₀.heap.objs.size<=b)/\b≠X.env.locals/\(∀x c,X.env.cells.lookup x=some c->c≠b)/\∀p∈X.pn++aa,p.1≠b)
  (g:∀b o,b≠X.env.locals->b∉X.fs->b∉ch->s.heap.get? b=some o->H b=none->h'.get? b=some o)
  (slot:∀b o,b≠X.env.locals->b∈X.fs->b∉ch->s.heap.get? b=some o->H b=none->∃O,h'.get? b=some {o with slots:=O}) (f:∀b o,b∉ch->s.heap.get? b=some o->H b=none->H' b=none)
  (t:∀b o,b∉ch->s.heap.get? b=some o->∃B,h'.get? b=some B) (D:∀b j,H b=some (.tup j)->H' b=some (.tup j)) (L:∀b o u,H b=some (.frz o u)->H' b=some (.frz o u)) (F:∀b N,H b=some (.tbl N)->∃E,H' b=some (.tbl<|N++E))
  (ns:∀m,s.heap.Ns X.env.locals m->h'.Ns X.env.locals m) (P:HOk X.prog X.w H' h') (W:AllBare g') :
  Inv X aa σ H' {s with heap:=h',gens:=g',drawn:=d',toks:=t'}:=by
 have J:∀b o,X.s₀.heap.get? b=some o->b≠X.env.locals:=λb o e=>T_<|Y_ (J_ e) I.ok.above;have M:∀b o,X.s₀.heap.get? b=some o->b∉X.ex->b∉ch:=λb o e hx hb=>by
  rcases(C b hb).1 with z|z
  ·exact hx z
  ·exact absurd (Y_ (J_ e) z)<|c_ _
 have S:∀x c,X.env.cells.lookup x=some c->∀v,s.heap.IsCell c v->h'.IsCell c v:=λx c e v ⟨o,y,Q⟩=>by
  have A:c∉ch:=λz=>(C c z).2.2.1 x c e rfl;by_cases hc:c∈X.fs
  ·obtain⟨O,q⟩:=slot c o (I.cne x c e) hc A y<|I.freeC x c e;exact⟨_,q,Q⟩
  ·exact⟨o,g c o (I.cne x c e) hc A y<|I.freeC x c e,Q⟩
 refine⟨I.ok,I.os,W,⟨λb o e n hb hx=>?_,λb o e n hb hx=>?_,λb o e n hx=>?_,λb o e hx=>?_,λb j e=>D b j<|I.base.tups b j e,λb o j e=>L b o j<|I.base.frzs b o j e,λb N e=>?_⟩,?_,λx c e=>?_,?_,λx c e=>?_,λp hp=>?_,P,I.len⟩
 ·exact g b o (J b o e) hb (M b o e hx) (I.base.keep b o e n hb hx)<|I.base.free b o e n hx
 ·obtain⟨O,h⟩:=I.base.slot b o e n hb hx;obtain⟨R,G⟩:=slot b _ (J b o e) hb (M b o e hx) h<|I.base.free b o e n hx;exact⟨R,G⟩
 ·obtain⟨B,h⟩:=I.base.there b o e hx;exact f b B (M b o e hx) h<|I.base.free b o e n hx
 ·obtain⟨B,h⟩:=I.base.there b o e hx;exact t b B (M b o e hx) h
 ·obtain⟨m1,h⟩:=I.base.tbls b N e;obtain⟨Z,G⟩:=F b _ h;exact⟨m1++Z,by rw[G,Array.append_assoc]⟩
 ·obtain⟨m,Y,U⟩:=I.loc;refine⟨m,ns m Y,λi x v h G e3=>?_⟩;obtain⟨u,r,l⟩:=U i x v h G e3;refine⟨u,r,?_⟩;rcases l with l|⟨k,c,e,z⟩
  ·exact .inl l
  ·exact .inr ⟨k,c,e,S x c e _ z⟩
 ·obtain⟨v,z⟩:=I.cell x c e;exact⟨v,S x c e v z⟩
 ·obtain⟨m,⟨o,_,_,y,_⟩,_⟩:=I.loc;exact f _ o (λz=>(C _ z).2.1 rfl) y I.free
 ·obtain⟨v,o,y,Q⟩:=I.cell x c e;exact f c o (λz=>(C c z).2.2.1 x c e rfl) y<|I.freeC x c e
 ·obtain⟨e,n,ne,T,d⟩:=I.pin p hp;have A:p.1∉ch:=λz=>(C p.1 z).2.2.2 p hp rfl;exact⟨g p.1 p.2 ne T A e n,f p.1 p.2 A e n,ne,T,d⟩
def Inv.un{t':Nat}(I:Inv X aa σ H s)(u:Un X.fs [] H H' s.heap h')(d:HOk X.prog X.w H' h'):Inv X aa σ H' {s with heap:=h',toks:=t'}:=by
 obtain⟨m,⟨o,v,q,f,r⟩,_⟩:=id I.loc;obtain⟨p,i⟩:=u.any f I.free (by simp);exact I.step (g':=s.gens) (d':=s.drawn) (ch:=[]) (λ_ z=>nomatch z) (λb o _ hb _ e n=>u.keep b o e n hb<|by simp) (λb o _ hb _ e n=>u.slot b o e n hb<|by simp) (λb o _ e n=>u.free b o e n<|by simp) (λb o _ e=>u.there b o e<|by simp) u.tups u.frzs u.tbls (λl h=>by
  obtain⟨t,j,c,g,k⟩:=h;rw[f]at g;cases g;exact⟨_,j,c,i,k⟩) d I.bare
def Inv.call{g':oC GenState}{t':Nat}{d':Drawn}{ch:oA lT}(I:Inv X aa σ H s)(u:Un (frs X.stack) ch H H' s.heap h')(g:HOk X.prog X.w H' h')(l:AllBare g')
  (j:∀b∈ch,(b∈X.ex\/X.s₀.heap.objs.size<=b)/\b≠X.env.locals/\(∀x c,X.env.cells.lookup x=some c->c≠b)/\∀p∈X.pn++aa,p.1≠b) :
  Inv X aa σ H' {s with heap:=h',gens:=g',drawn:=d',toks:=t'}:=by
 obtain⟨m,⟨o,C,A,h,r⟩,_⟩:=id I.loc;obtain⟨y,d⟩:=u.any h I.free λz=>(j _ z).2.1 rfl;exact I.step (ch:=ch) j (λb o d hb hc e n=>u.keep b o e n (λz=>(aB.mp<|I.stkSub b z).elim d hb) hc) (λb o _ _ hc e n=>u.any e n hc) (λb o hc e n=>u.free b o e n hc) (λb o hc e=>u.there b o e hc) u.tups u.frzs u.tbls (λv k=>by
  obtain⟨B,q,f,i,t⟩:=k;rw[h]at i;cases i;exact⟨_,q,f,d,t⟩) g l
def Inv.turned{t':Nat}{d:lT}(I:Inv X aa σ H s)(k:∀b o,b≠d->s.heap.get? b=some o->h'.get? b=some o)(hn:H d=none)(f:d≠X.env.locals)
  (h1:d∈X.ex\/X.s₀.heap.objs.size<=d) (h2:∀x c,X.env.cells.lookup x=some c->c≠d) (t:∀p∈X.pn++aa,p.1≠d):Inv X aa σ H {s with heap:=h',toks:=t'}:=by
 have g:∀b u,H b=some u->b≠d:=λb u e z=>by rw[z,hn]at e;cases e
 refine I.step (g':=s.gens) (d':=s.drawn) (ch:=[d]) (λb hb=>?_) (λb o _ _ hc e _=>k b o (λz=>hc<|by simp[z]) e) (λb o _ _ hc e _=>⟨o.slots,k b o (λz=>hc<|by simp[z]) e⟩) (λ_ _ _ _ n=>n)
  (λb o hc e=>⟨o,k b o (λz=>hc<|by simp[z]) e⟩) (λ_ _ e=>e) (λ_ _ _ e=>e) (λb w e=>⟨#[],by rw[e];simp⟩) (λm i=>?_) (λb u e=>?_) I.bare
 ·have e:b=d:=by simpa using hb
  subst e;exact⟨h1,f,h2,t⟩
 ·obtain⟨o,l,j,h,r⟩:=i;exact⟨o,l,j,k _ o (dI f) h,r⟩
 ·refine(I.hok b u e).stay (λc v hc q=>k c v ?_ q) (λ_ q=>q) λ_ _ q=>q;rcases hc with z|z
  ·rw[z];exact g b u e
  ·exact g c _ z
def Inv.tok(I:Inv X aa σ H s)(t:Nat):Inv X aa σ H {s with toks:=t}:=I.un (h':=s.heap) (t':=t) Un.refl I.hok
def Inv.kept{t':Nat}(I:Inv X aa σ H s)(k:∀b u,s.heap.get? b=some u->h'.get? b=some u):Inv X aa σ H {s with heap:=h',toks:=t'}:=I.un (Un.kept k)<|I.hok.kept k
def Inv.laid{a:lT}{o:HO}{t':Nat}(I:Inv X aa σ H s)(k:∀b u,s.heap.get? b=some u->h'.get? b=some u)(hp:s.heap.objs.size<=a)(c:Bg X.prog X.w (upd H a o) h' a o) :
  Inv X aa σ (upd H a o) {s with heap:=h',toks:=t'}:=I.un (Un.laid k hp<|I.hok.fresh hp)<|I.hok.laid k hp c
def Inv.write{x e:lT}{o:HO}{t':Nat}(I:Inv X aa σ H s)(f:Mut<|H x)(he:e=x\/H e=some (.own x))(k:∀b u,b≠e->s.heap.get? b=some u->h'.get? b=some u)(d:∃u,h'.get? e=some u)
  (c:Bg X.prog X.w (upd H x o) h' x o):Inv X aa σ (upd H x o) {s with heap:=h',toks:=t'}:=I.un (Un.write f he k d)<|I.hok.write f he k d c
def Inv.pins_of{c:oA<|lT×l_}(I:Inv X aa σ H s)(h:∀p∈c,s.heap.get? p.1=some p.2/\H p.1=none/\p.1≠X.env.locals/\p.1∉X.fs/\∀v,p.2.data≠.cell v):Inv X c σ H s :=
 ⟨I.ok,I.os,I.bare,I.base,I.loc,I.cell,I.free,I.freeC,λp hp=>(S_.mp hp).elim (λz=>I.pin p<|aD _ z)<|h p,I.hok,I.len⟩
def Oa{N:oA Str}(e:N.Nodup){i j:Nat}{x:Str}(a:N[i]?=some x)(b:N[j]?=some x):i=j:=by obtain⟨h1,d⟩:=F_.mp a;obtain⟨h2,c⟩:=F_.mp b;exact(List.getElem_inj e).mp<|d.trans c.symm
def Lq{M:Model}{A:lY}{E:lP->lQ->Prop}{i:Nat}{x:Str}{v:V}{u:lP}{Q:Unit->lQ->Prop}(I:Inv X aa σ H s)(hN:X.N.Nodup)(G:X.N[i]?=some x)(hx:Loc X.env.scope x)(r:Ba v u)
  (h:∀T,Inv X aa (σ.set i<|some v) H T->(∃a,Heap.SameBut a s.heap T.heap/\(a=X.env.locals\/X.env.cells.lookup x=some a))->Q () T) (hf:X.fn x=true\/X.env.scope.names.lookup x=some .local:=by first|exact .inl rfl|exact .inr rfl|assumption):wpAny M A (storeName X.env x u) Q E s:=by
 obtain⟨m,U,hl⟩:=id I.loc;have yy:(X.env.scope.kind==.class||(X.env.scope.kind==.module&&X.env.locals != X.env.globals))=false:=by rw[I.ok.kind];rfl
 have B:i<σ.length:=by rw[I.len];exact(F_.mp G).1
 have C:=I.cne;have jf:∀{a:lT} {h':lZ},(∃o,s.heap.get? a=some o/\H a=none)->Heap.SameBut a s.heap h'->HOk X.prog X.w H h':=λ{a h'} ha f b ob e=>by
  obtain⟨_,_,l⟩:=ha;refine(I.hok b ob e).stay (λc O hc q=>(f.2 c ?_).trans q) (λ_ q=>q) λ_ _ q=>q;rintro rfl;rcases hc with rfl|hc
  ·rw[l]at e;cases e
  ·rw[l]at hc;cases hc
 rcases hx with hk|hk
 ·refine wpAny_storeName_local hk U (λh' mj f=>?_) yy;obtain⟨oL,_,_,W,_⟩:=id U;refine h _ ⟨I.ok,I.os,I.bare,⟨λb o e n hb hx=>?_,λb o e n hb hx=>?_,I.base.free,λb o e hx=>?_,I.base.tups,I.base.frzs,I.base.tbls⟩,⟨_,mj,λj y Y g t e3=>?_⟩,λy c e=>?_,I.free,I.freeC,λp hp=>?_,jf ⟨oL,W,I.free⟩ f,by simpa using I.len⟩ ⟨_,f,.inl rfl⟩
  ·exact(f.2 b<|T_<|Y_ (J_ e) I.ok.above).trans<|I.base.keep b o e n hb hx
  ·obtain⟨P,g⟩:=I.base.slot b o e n hb hx;exact⟨P,(f.2 b<|T_<|Y_ (J_ e) I.ok.above).trans g⟩
  ·obtain⟨S,g⟩:=I.base.there b o e hx;exact⟨S,(f.2 b<|T_<|Y_ (J_ e) I.ok.above).trans g⟩
  ·by_cases hj:j=i
   ·subst hj;rw[G]at g;cases g;rw[List.getElem?_set_self B]at t;cases t;exact⟨u,r,.inl ⟨hk,by simp⟩⟩
   ·rw[List.getElem?_set_ne<|dI hj]at t;obtain⟨Z,r',q⟩:=hl j y Y g t e3;refine⟨Z,r',?_⟩;rcases q with⟨k,e⟩|⟨k,c,e,z⟩
    ·refine .inl ⟨k,?_⟩;have:y≠x:=λe=>hj<|Oa hN g<|e ▸ G;simp[this,e]
    ·exact .inr ⟨k,c,e,z.sameBut f<|C y c e⟩
  ·obtain⟨O,z⟩:=I.cell y c e;exact⟨O,z.sameBut f<|C y c e⟩
  ·obtain⟨e,n,ne,nf,d⟩:=I.pin p hp;exact⟨(f.2 p.1 ne).trans e,n,ne,nf,d⟩
 ·have R:X.fn x=true:=by
   rcases hf with z|z
   ·exact z
   ·rw[z]at hk;cases hk
  obtain⟨c,hc⟩:=I.ok.has x<|.inl hk;obtain⟨O,z⟩:=I.cell x c hc;refine wpAny_storeName_cell I.ok.kind hk hc z λh' bq f=>?_;obtain⟨oc,F,D⟩:=id z;refine h {s with heap:=h'} ⟨I.ok,I.os,I.bare,⟨λb o e n hb hx=>?_,λb o e n hb hx=>?_,I.base.free,λb o e hx=>?_,I.base.tups,I.base.frzs,I.base.tbls⟩,⟨m,U.sameBut f<|dI<|C x c hc,λj y Y g t e3=>?_⟩,λy L e=>?_,I.free,I.freeC,λp hp=>?_,jf ⟨oc,F,I.freeC x c hc⟩ f,by simpa using I.len⟩ ⟨c,f,.inr hc⟩
  ·exact(f.2 b<|T_<|Y_ (J_ e)<|I.ok.cab x c R hc).trans<|I.base.keep b o e n hb hx
  ·obtain⟨P,g⟩:=I.base.slot b o e n hb hx;exact⟨P,(f.2 b<|T_<|Y_ (J_ e)<|I.ok.cab x c R hc).trans g⟩
  ·obtain⟨S,g⟩:=I.base.there b o e hx;exact⟨S,(f.2 b<|T_<|Y_ (J_ e)<|I.ok.cab x c R hc).trans g⟩
  ·by_cases hj:j=i
   ·subst hj;rw[G]at g;cases g;rw[List.getElem?_set_self B]at t;cases t;exact⟨u,r,.inr ⟨.inl hk,c,hc,bq⟩⟩
   ·rw[List.getElem?_set_ne<|dI hj]at t;obtain⟨Z,r',q⟩:=hl j y Y g t e3;refine⟨Z,r',?_⟩;rcases q with q|⟨k,L,e,z'⟩
    ·exact .inl q
    ·refine .inr ⟨k,L,e,z'.sameBut f ?_⟩;rintro rfl;exact hj<|Oa hN g<|I.ok.inj _ _ _ e hc ▸ G
  ·by_cases J:L=c
   ·subst J;exact⟨_,bq⟩
   ·obtain⟨w2,z2⟩:=I.cell y L e;exact⟨w2,z2.sameBut f J⟩
  ·obtain⟨e,n,ne,nf,d⟩:=I.pin p hp;refine⟨(f.2 p.1 ?_).trans e,n,ne,nf,d⟩;intro q;rw[q,F]at e;have q':oc=p.2:=aX e;exact d O<|by rw[<- q'];exact D
def Dm{M:Model}{A:lY}{E:lP->lQ->Prop}{i:Nat}{x:Str}{v:V}{u:lP}{Q:Unit->lQ->Prop}(I:Inv X aa σ H s)(g:X.N.Nodup)(f:X.N[i]?=some x)(hx:Loc X.env.scope x)(r:Ba v u)
  (h:∀c,Inv X aa (σ.set i<|some v) H c->Q () c) (e:X.fn x=true\/X.env.scope.names.lookup x=some .local:=by first|exact .inl rfl|exact .inr rfl|assumption):wpAny M A (storeName X.env x u) Q E s :=
 Lq I g f hx r (λc d _=>h c d) e
def Inv.call'{d:lQ}{ch:oA lT}(I:Inv X aa σ H s)(i:d.os=s.os)(u:Un (frs X.stack) ch H H' s.heap d.heap)(f:HOk X.prog X.w H' d.heap)(g:AllBare d.gens)
  (j:∀b∈ch,(b∈X.ex\/X.s₀.heap.objs.size<=b)/\b≠X.env.locals/\(∀x c,X.env.cells.lookup x=some c->c≠b)/\∀p∈X.pn++aa,p.1≠b):Inv X aa σ H' d:=by
 obtain⟨h',g',d',t',h⟩:=d;have e:h=s.os:=i;subst e;exact I.call (g':=g') (t':=t') (d':=d') u f g j
abbrev XK:=lP->oB lT->Hp->Prop
abbrev St:=oA<|oB V
abbrev VK:=V->Hp->Prop
abbrev TE:=St->Hp->VK->Prop
abbrev TT:=St->Hp->(Bool->Hp->Prop)->Prop
abbrev TA:=St->Hp->(oA V->Hp->Prop)->Prop
structure Ends where
 nx:St->Hp->Prop
 rt:VK
 bk:St->Hp->Prop:=λ_ _=>False
 ct:St->Hp->Prop:=λ_ _=>False
abbrev TS:=Ends->St->Hp->Prop
def EP(X:Cx)(aa:oA<|lT×l_)(σ:St)(Q:VK)(u:lP)(c:lQ):Prop:=∃v H',Inv X aa σ H' c/\Ba v u/\Q v H'
def TP(X:Cx)(aa:oA<|lT×l_)(σ:St)(Q:Bool->Hp->Prop)(b:Bool)(c:lQ):Prop:=∃H',Inv X aa σ H' c/\Q b H'
def AP(X:Cx)(aa:oA<|lT×l_)(σ:St)(Q:oA V->Hp->Prop)(d:oA lP)(e:lQ):Prop:=∃c H',Inv X aa σ H' e/\Vals c d/\Q c H'
def SP(X:Cx)(aa:oA<|lT×l_)(D:Ends)(f:Flow)(d:lQ):Prop :=
 match f with
 |.next=>∃ c H',Inv X aa c H' d/\D.nx c H'
 |.brk=>∃ c H',Inv X aa c H' d/\D.bk c H'
 |.cont=>∃ c H',Inv X aa c H' d/\D.ct c H'
 |.ret u=>∃v c H',Inv X aa c H' d/\Ba v u/\D.rt v H'
def PE(X:Cx)(e:lX)(t:TE):Prop :=
 ∀(aa:oA<|lT×l_) (s:lQ) (σ:St) (H:Hp) (Q:VK),Inv X aa σ H s->t σ H Q->qU X.prog X.w X.A (eval e X.env) (EP X aa σ Q) X.xe s
def PT(X:Cx)(e:lX)(t:TT):Prop :=
 ∀(aa:oA<|lT×l_) (s:lQ) (σ:St) (H:Hp) (Q:Bool->Hp->Prop),Inv X aa σ H s->t σ H Q->qU X.prog X.w X.A (isTrue e X.env<|eval e X.env) (TP X aa σ Q) X.xe s
def PW(X:Cx)(e:lX)(t:TT):Prop :=
 ∀(c:Sem lP) (aa:oA<|lT×l_) (s:lQ) (σ:St) (H:Hp) (Q:Bool->Hp->Prop),Inv X aa σ H s->t σ H Q->qU X.prog X.w X.A (isTrue e X.env c) (TP X aa σ Q) X.xe s
def PW.pt{X:Cx}{e:lX}{t:TT}(h:PW X e t):PT X e t:=h _
def PA(X:Cx)(es:oA lX)(t:TA):Prop :=
 ∀(pos:Pos) (aa:oA<|lT×l_) (s:lQ) (σ:St) (H:Hp) (Q:oA V->Hp->Prop),Inv X aa σ H s->t σ H Q->qU X.prog X.w X.A (spliced<|backTo pos<|starEach es X.env) (AP X aa σ Q) X.xe s
def PS(X:Cx)(st:mC)(t:TS):Prop :=
 ∀(aa:oA<|lT×l_) (s:lQ) (σ:St) (H:Hp) (D:Ends),Inv X aa σ H s->t D σ H->qU X.prog X.w X.A (exec st X.env) (SP X aa D) X.xe s
def PSs(X:Cx)(st:oA mC)(t:TS):Prop :=
 ∀(aa:oA<|lT×l_) (s:lQ) (σ:St) (H:Hp) (D:Ends),Inv X aa σ H s->t D σ H->qU X.prog X.w X.A (execs st X.env) (SP X aa D) X.xe s
def thn{d:Type}{t:Sem d}{Q c:d->lQ->Prop}{M:Model}{A:lY}{E:lP->lQ->Prop}{s:lQ}(h:wpAny M A t Q E s)(e:∀a s,Q a s->c a s):wpAny M A t c E s:=bD h e λ_ _ x=>x
def KQ(i:Nat):TE:=λσ H Q=>∃v,σ[i]?=some (some v)/\Q v H
def tC(v:V):TE:=λ_ H Q=>Q v H
def Xy{i:Nat}{x:Str}{pos:Pos}(p:X.N[i]?=some x)(hv:Vis X.env.scope x)(g:(x==("__debug__" : Str))=false:=by decide) (j:(x==("__classdict__" : Str))=false:=by decide):PE X (.Name x pos) (KQ i):=by
 intro aa s σ H Q I h;obtain⟨v,e,h⟩:=h;obtain⟨m,o,k⟩:=I.loc;obtain⟨u,r,l⟩:=k i x v p e hv;have f:EP X aa σ Q u s:=⟨v,H,I,r,h⟩;rcases l with⟨hk,n⟩|⟨hk,c,hc,d⟩
 ·exact wpAny_Name (wpAny_loadName_local I.ok.kind hk o n f) g
 ·rcases hk with hk|hk
  ·exact wpAny_Name (wpAny_loadName_cell I.ok.kind hk hc d f) g
  ·exact wpAny_Name (wpAny_loadName_free I.ok.kind hk hc d f j) g
def KR{i j pos}:PE X (.Constant (.int i) j pos) (tC<|.int i):=λ_ _ _ H _ I h=>wpAny_Constant_int ⟨.int i,H,I.tok _,⟨_,rfl⟩,h⟩
def QU{b j pos}:PE X (.Constant (.bool b) j pos) (tC<|.bl b):=λ_ _ _ H _ I h=>Constant_bool ⟨.bl b,H,I,rfl,h⟩
def KS{j pos}:PE X (.Constant .none j pos) (tC .non):=λ_ _ _ H _ I h=>Constant_none ⟨.non,H,I,rfl,h⟩
def Xz{x j pos}:PE X (.Constant (.str x) j pos) (tC<|.str x):=λ_ _ _ H _ I h=>Calls.Constant_str ⟨.str x,H,I.tok _,⟨_,rfl⟩,h⟩
def Gl(X:Cx)(x:Str):Prop:=X.env.kindOf x=some .globalImplicit
def G5{E:lP->lQ->Prop}{aa:oA<|lT×l_}{s:lQ}{σ:St}{H:Hp}{x:Str}{u:lP}{pos:Pos}{Q:lP->lQ->Prop}(I:Inv X aa σ H s)(c:Gl X x)(e:X.mg x=some u)(h:Q u s)
  (d:(x==("__debug__" : Str))=false:=by decide):qU X.prog X.w X.A (eval (.Name x pos) X.env) Q E s :=
 Calls.Name_function_global I.ok.kind c (Calls.loadGlobal_global (by rw[I.ok.glob];exact I.mod.glob.keeps I.bk) e h) d
def Dy{E:lP->lQ->Prop}{aa:oA<|lT×l_}{s:lQ}{σ:St}{H:Hp}{x:Str}{u:lP}{pos:Pos}{Q:lP->lQ->Prop}(I:Inv X aa σ H s)(e:Gl X x)(d:X.mg x=none)(hv:bootBuiltins x=some u)(h:Q u s)
  (hn:x ≠ "__name__" := by decide) (c:(x==("__debug__" : Str))=false:=by decide):qU X.prog X.w X.A (eval (.Name x pos) X.env) Q E s:=by
 obtain⟨f,h1,h2⟩:=I.mod.blt;exact Calls.Name_function_global I.ok.kind e (Calls.loadGlobal_builtin (by rw[I.ok.glob];exact I.mod.glob.keeps I.bk) d (by rw[I.ok.blt];exact h1.keeps I.bk) ((h2 x hn).trans hv) h) c
def EE{x:Str}{v:V}{u:lP}{pos:Pos}(c:Gl X x)(e:X.mg x=some u)(r:Ba v u)(d:(x==("__debug__" : Str))=false:=by decide):PE X (.Name x pos) (tC v) :=
 λ_ _ _ H _ I h=>G5 I c e ⟨v,H,I,r,h⟩ d
def PC(X:Cx)(e:CmpOp)(a b:lX)(t:TE):Prop :=
 ∀(aa:oA<|lT×l_) (s:lQ) (σ:St) (H:Hp) (Q:VK),Inv X aa σ H s->t σ H Q ->
  qU X.prog X.w X.A (eval a X.env) (λv d=>qU X.prog X.w X.A (eval b X.env) (λu c=>qU X.prog X.w X.A (compareOp e v u) (EP X aa σ Q) X.xe c) X.xe d) X.xe s
def tB(t:TE):TT:=λσ H Q=>t σ H λx d=>∃c,x=.bl c/\Q c d
def KU{c:CmpOp}{t:TE}(h:PC X c a b t)(h1:behindInMarks c b=false:=by first|exact nobehind _ (by decide) (by decide)|rfl):PE X (.Compare a [c] [b] pos) t:=λaa s σ H Q I d=>wpAny_Compare1 (h aa s σ H Q I d) h1
def X0{e:CmpOp}{t:TE}(h:PC X e a b t)(h1:behindInMarks e b=false:=by first|exact nobehind _ (by decide) (by decide)|rfl):PT X (.Compare a [e] [b] pos) (tB t):=by intro aa s σ H Q I j;refine wpAny_isTrue_Compare1 (thn (h aa s σ H _ I j) λv o h1=>thn h1 λu m h2=>thn h2 λc n f=>Cc f λx i l k g=>?_) h1;obtain⟨d,rfl,q⟩:=g;cases k;exact eC ⟨i,l,q⟩
def KW{e:lX}{t:TE}(h:PE X e t)(he:∀c,isTrue e X.env c=(do let v <- c;standAt e.pos;holding [v]<|truthy v):=by intro _;rfl):PT X e (tB t):=by intro aa s σ H Q I i;refine isTrue_plain (thn (h aa s σ H _ I i) λv m k=>Cc k λx g l j f=>?_)<|he _;obtain⟨d,rfl,q⟩:=f;cases j;exact eC ⟨g,l,q⟩
def YT(t u:TT):TT:=λσ H Q=>t σ H λc d=>if c=true then u σ d Q else Q false d
def tOr(t u:TT):TT:=λσ H Q=>t σ H λc d=>if c=true then Q true d else u σ d Q
def YU(t:TT):TT:=λσ H Q=>t σ H λc d=>Q (!c) d
def EF(ha:PT X a tA):PW X (.BoolOp .And [a] pos) tA:=by
 intro d aa s σ H Q I h;refine isTrue_and<|thn (ha aa s σ H Q I h) λc f e=>?_;cases c with
 |true=>exact isTrue_and_nil e
 |false=>exact e
def KY(ha:PT X a tA):PW X (.BoolOp .Or [a] pos) tA:=by
 intro d aa s σ H Q I h;refine isTrue_or<|thn (ha aa s σ H Q I h) λc f e=>?_;cases c with
 |false=>exact isTrue_or_nil e
 |true=>exact e
def KZ(ha:PT X a tA)(hb:PW X (.BoolOp .And (b::rest) pos) mz):PW X (.BoolOp .And (a::b::rest) pos) (YT tA mz):=by
 intro g aa s σ H Q I h;refine isTrue_and<|thn (ha aa s σ H _ I h) λc i ⟨e,f,d⟩=>?_;cases c with
 |true=>exact hb g aa i σ e Q f d
 |false=>exact⟨e,f,d⟩
def QV(ha:PT X a tA)(hb:PW X (.BoolOp .Or (b::rest) pos) mz):PW X (.BoolOp .Or (a::b::rest) pos) (tOr tA mz):=by
 intro g aa s σ H Q I h;refine isTrue_or<|thn (ha aa s σ H _ I h) λc i ⟨e,f,d⟩=>?_;cases c with
 |true=>exact⟨e,f,d⟩
 |false=>exact hb g aa i σ e Q f d
def LD(ha:PT X a tA):PT X (.UnaryOp .Not a pos) (YU tA):=by intro aa s σ H Q I h;exact isTrue_not<|ha aa s σ H (λc d=>Q (!c) d) I h
def QW(ta tb:TE):TE:=λσ H Q=>ta σ H λx d=>∃c,x=.bl c/\if c=true then tb σ d Q else Q (.bl false) d
def LF{op}{t:TE}(h:PE X a t):PE X (.BoolOp op [a] pos) t:=λaa s σ H Q I c=>BoolOp_one<|h aa s σ H Q I c
def LG(ha:PE X a ta)(hb:PE X (.BoolOp .And (b::rest) pos) tb):PE X (.BoolOp .And (a::b::rest) pos) (QW ta tb):=by
 intro aa s σ H Q I h;refine BoolOp_and<|thn (ha aa s σ H _ I h) λv j g=>Cc g λx e f i d=>?_;obtain⟨c,rfl,d⟩:=d;cases i;refine eC ?_;cases c with
 |true=>exact hb aa j σ e Q f d
 |false=>exact⟨.bl false,e,f,rfl,d⟩
def tIf(t:TT)(ta tb:TE):TE:=λσ H Q=>t σ H λc d=>if c=true then ta σ d Q else tb σ d Q
def X1{c:lX}(hc:PT X c tA)(ha:PE X a ta)(hb:PE X b tb):PE X (.IfExp c a b pos) (tIf tA ta tb):=by
 intro aa s σ H Q I h;refine wpAny_IfExp<|thn (hc aa s σ H _ I h) λd g ⟨i,e,f⟩=>?_;cases d with
 |true=>exact ha aa g σ i Q e f
 |false=>exact hb aa g σ i Q e f
end
def Ff(K:lU)(H:Hp)(a:lT)(xs:oA V):Prop :=
 Rd H a (.lst xs) \/
  ∃(o:l_) (b:oC lP) (n:Nat),K.lookup a=some o/\o.cls=.type "list" /\ o.dict=none/\o.data=.seq b n/\b.size<=sizeLine/\Vals xs b.toList
def Iz(K:lU)(H:Hp)(a:lT)(xs:oA V):Prop :=
 Rd H a (.tup xs) \/
  ∃(o:l_) (b:oC lP) (n:Nat),K.lookup a=some o/\o.cls=.type "tuple" /\ o.data=.seq b n/\b.size<=sizeLine/\Vals xs b.toList
def YV:lP->oB V
 |.none=>some .non
 |.bool b=>some (.bl b)
 |.int i _=>some (.int i)
 |.str x _=>some (.str x)
 |.bytes b _=>some (.byt b)
 |.float b _=>some (.flt b)
 |.ref a=>some (.ref a)
 |.type n=>some (.ty n)
 |_=>none
def Ba.abs{x:V}{u:lP}(r:Ba x u):YV u=some x:=by
 cases x with
 |non=>cases r;rfl
 |bl _=>cases r;rfl
 |int _=>obtain⟨t,rfl⟩:=r;rfl
 |str _=>obtain⟨t,rfl⟩:=r;rfl
 |byt _=>obtain⟨t,rfl⟩:=r;rfl
 |flt _=>obtain⟨t,rfl⟩:=r;rfl
 |ref _=>cases r;rfl
 |ty _=>cases r;rfl
def Ba.inj{x y:V}{u:lP}(r:Ba x u)(q:Ba y u):x=y:=aX<|r.abs.symm.trans q.abs
theorem Vals.inj:∀{xs ys:oA V} {a:oA lP},Vals xs a->Vals ys a->xs=ys
 |_,_,_,.nil,.nil=>rfl
 |_,_,_,.cons r t,.cons c b=>by rw[r.inj c,Vals.inj t b]
section
variable {X:Cx}{aa:oA<|lT×l_}{σ:St}{H:Hp}{s:lQ}{a:lT}{xs ys:oA V}{E:lP->lQ->Prop}{st:mC}{rest:oA mC}{t u:TS}{e:lX}{te:TE}{pos:Pos}{tg:lX}
def Ff.of{K:lU}(h:H a=some (.lst xs)):Ff K H a xs:=.inl<|.inl h
def Iz.of{K:lU}(h:H a=some (.tup xs)):Iz K H a xs:=.inl<|.inl h
def Inv.list(I:Inv X aa σ H s)(h:Ff X.K H a xs):∃b:oA lP,Vals xs b/\PlainL s.heap a b.toArray/\xs.length<=sizeLine:=by
 rcases h with h|⟨o,b,n,hk,hc,c,d,hz,r⟩
 ·obtain⟨z,b,n,r,e⟩:=h.ok I.hok;exact⟨b,r,⟨_,n,e,rfl,rfl,rfl⟩,z⟩
 ·refine⟨b.toList,r,⟨o,n,I.kIn a o hk,hc,c,by simpa using d⟩,?_⟩;have e:=r.length;simp only[Array.length_toList]at e;omega
def Inv.tuple(I:Inv X aa σ H s)(h:Iz X.K H a xs):∃b:oA lP,Vals xs b/\IsTup s.heap a b.toArray/\xs.length<=sizeLine:=by
 rcases h with h|⟨o,b,n,hk,hc,c,hz,r⟩
 ·obtain⟨z,b,r,p⟩:=h.ok I.hok;exact⟨b,r,p,z⟩
 ·refine⟨b.toList,r,⟨o,I.kIn a o hk,hc,n,by simpa using c⟩,?_⟩;have e:=r.length;simp only[Array.length_toList]at e;omega
def Inv.list_inj(I:Inv X aa σ H s)(h:Ff X.K H a xs)(h':Ff X.K H a ys):xs=ys:=by
 obtain⟨i,r,⟨o,n,e,_,_,d⟩,_⟩:=I.list h;obtain⟨b,g,⟨j,k,f,_,_,c⟩,_⟩:=I.list h';rw[e]at f;cases f;rw[d]at c;injection c with d1 _;have:i=b:=by simpa using bR Array.toList d1
 subst this;exact r.inj g
def Inv.tuple_inj(I:Inv X aa σ H s)(h:Iz X.K H a xs)(h':Iz X.K H a ys):xs=ys:=by
 obtain⟨i,r,⟨o,e,_,n,d⟩,_⟩:=I.tuple h;obtain⟨b,g,⟨j,f,_,k,c⟩,_⟩:=I.tuple h';rw[e]at f;cases f;rw[d]at c;injection c with d1 _;have:i=b:=by simpa using bR Array.toList d1
 subst this;exact r.inj g
abbrev Cx.wish(X:Cx)(E:lP->lQ->Prop):Cx:={X with xe:=E}
abbrev Cx.nox(X:Cx):Cx:=X.wish λ_ _=>False
def Cx.Ok.wish{X:Cx}(ok:X.Ok)(E:lP->lQ->Prop):(X.wish E).Ok :=
 ⟨ok.mod,ok.kind,ok.glob,ok.blt,ok.above,ok.inj,ok.has,ok.cab,ok.hd,ok.frames,ok.stk,ok.exf,ok.bs,ok.bsz,ok.noex,ok.exfs,ok.funs,ok.frf⟩
def Cx.Ok.unwish{X:Cx}{E:lP->lQ->Prop}(ok:(X.wish E).Ok):X.Ok :=
 ⟨ok.mod,ok.kind,ok.glob,ok.blt,ok.above,ok.inj,ok.has,ok.cab,ok.hd,ok.frames,ok.stk,ok.exf,ok.bs,ok.bsz,ok.noex,ok.exfs,ok.funs,ok.frf⟩
def Inv.wish(I:Inv X aa σ H s)(E:lP->lQ->Prop):Inv (X.wish E) aa σ H s:=⟨I.ok.wish E,I.os,I.bare,I.base,I.loc,I.cell,I.free,I.freeC,I.pin,I.hok,I.len⟩
def Inv.unwish(I:Inv (X.wish E) aa σ H s):Inv X aa σ H s:=⟨I.ok.unwish,I.os,I.bare,I.base,I.loc,I.cell,I.free,I.freeC,I.pin,I.hok,I.len⟩
theorem SP.unwish{D:Ends}{f:Flow}{d:lQ}(h:SP (X.wish E) aa D f d):SP X aa D f d:=by
 cases f with
 |next=>obtain⟨b,c,I,q⟩:=h;exact⟨b,c,I.unwish,q⟩
 |brk=>obtain⟨b,c,I,q⟩:=h;exact⟨b,c,I.unwish,q⟩
 |cont=>obtain⟨b,c,I,q⟩:=h;exact⟨b,c,I.unwish,q⟩
 |ret u=>obtain⟨v,b,c,I,r,q⟩:=h;exact⟨v,b,c,I.unwish,r,q⟩
def PSs.nox{st:oA mC}{t:TS}(h:PSs X.nox st t):PSs X st t:=λaa s σ H D I b=>
 bD (h aa s σ H D (I.wish _) b) (λ_ _ q=>q.unwish) λ_ _ z=>False.elim z
def QX:TS:=λD σ H=>D.nx σ H
def YW(t u:TS):TS:=λD σ H=>t {D with nx:=u D} σ H
def EG:PSs X [] QX:=λ_ _ σ H _ I h=>gT ⟨σ,H,I,h⟩
def X2(h1:PS X st t)(h2:PSs X rest u):PSs X (st::rest) (YW t u):=by
 intro aa s σ H D I h;refine lA<|thn (h1 aa s σ H {D with nx:=u D} I h) λf d q=>?_;cases f with
 |next=>obtain⟨b,c,g,q⟩:=q;exact h2 aa d b c D g q
 |ret v=>exact q
 |brk=>exact q
 |cont=>exact q
def Tc(h1:PS X st t):PSs X [st] t:=by
 intro aa s σ H D I h;refine lA<|thn (h1 aa s σ H D I h) λf b q=>?_;cases f with
 |next=>exact gT q
 |ret v=>exact q
 |brk=>exact q
 |cont=>exact q
def Inv.quiet{aa:oA<|lT×l_}{σ:St}{H:Hp}{s:lQ}(I:Inv X aa σ H s):interactive X.env=false:=by simp[interactive,I.ok.kind]
def QY(te:TE):TS:=λD σ H=>te σ H λ_ b=>D.nx σ b
def EH(he:PE X e te)(hs:swapsWith e none pos.line X.env=pure false:=by rfl):PS X (.Expr e pos) (QY te):=by intro aa s σ H D I h;exact wpAny_Expr_any (thn (he aa s σ H _ I h) λv i b=>Cc b λx f d g c=>⟨σ,f,d,c⟩) I.quiet hs
def YX(te:TE):TS:=λD σ H=>te σ H D.rt
def LH(he:PE X e te):PS X (.Return (some e) pos) (YX te):=by intro aa s σ H D I h;exact wpAny_Return_some<|thn (he aa s σ H _ I h) λv i d=>Cc d λx g f b c=>⟨x,σ,g,f,b,c⟩
def YY(c:TT)(t u:TS):TS:=λD σ H=>c σ H λb d=>if b=true then t D σ d else u D σ d
def QZ{c:lX}{a b:oA mC}{f:TT}(hc:PT X c f)(ha:PSs X a t)(hb:PSs X b u):PS X (.If c a b pos) (YY f t u):=by
 intro aa s σ H D I h;refine wpAny_If<|thn (hc aa s σ H _ I h) λd k ⟨i,j,g⟩=>?_;cases d with
 |true=>exact ha aa k σ i D j g
 |false=>exact hb aa k σ i D j g
abbrev TG:=V->St->Hp->(St->Hp->Prop)->Prop
abbrev TGs:=oA V->St->Hp->(St->Hp->Prop)->Prop
def PG(X:Cx)(d:lX)(t:TG):Prop :=
 ∀(aa:oA<|lT×l_) (s:lQ) (σ:St) (H:Hp) (v:V) (u:lP) (Q:St->Hp->Prop),Inv X aa σ H s->Ba v u->t v σ H Q ->
  qU X.prog X.w X.A (assign d X.env u) (λ_ f=>∃ b c,Inv X aa b c f/\Q b c) X.xe s
def PGs(X:Cx)(ts:oA lX)(t:TGs):Prop :=
 ∀(aa:oA<|lT×l_) (s:lQ) (σ:St) (H:Hp) (f:oA V) (d:oA lP) (Q:St->Hp->Prop),Inv X aa σ H s->Vals f d->t f σ H Q ->
  qU X.prog X.w X.A (assignInOrder ((assignEach ts X.env).map (·.2)) d) (λ_ g=>∃ b c,Inv X aa b c g/\Q b c) X.xe s
def X3(i:Nat):TG:=λv σ H Q=>Q (σ.set i<|some v) H
def EI{i:Nat}{x:Str}(f:X.N.Nodup)(d:X.N[i]?=some x)(hx:Loc X.env.scope x)(c:X.fn x=true\/X.env.scope.names.lookup x=some .local:=by first|exact .inl rfl|exact .inr rfl|assumption):PG X (.Name x pos) (X3 i):=by intro aa s σ H v u Q I r h;exact wpAny_assign_Name<|Dm I f d hx r (λg b=>⟨_,H,b,h⟩) c
def YZ:TGs:=λb σ H Q=>b=[]/\Q σ H
def RA(t:TG)(u:TGs):TGs:=λd σ H Q=>∃v r,d=v::r/\t v σ H λb c=>u r b c Q
def EJ:PGs X [] YZ:=by intro aa s σ H c b Q I r h;obtain⟨e,h⟩:=h;subst e;cases r;exact kO ⟨σ,H,I,h⟩
def X4{e:lX}{es:oA lX}{t:TG}{u:TGs}(h1:PG X e t)(h2:PGs X es u)
  (hs:(assignEach (e::es) X.env).map (·.2)=assign e X.env::(assignEach es X.env).map (·.2):=by rfl):PGs X (e::es) (RA t u):=by
 intro aa s σ H n l Q I r h;obtain⟨v,m,c,h⟩:=h;subst c;cases r with
 |cons r d=>rw[hs];refine fL<|thn (h1 aa s σ H _ _ _ I r h) λ_ k i=>?_;obtain⟨b,g,j,f⟩:=i;exact h2 aa k b g _ _ Q j d f
def ZA(K:lU)(n:Nat)(t:TGs):TG:=λv σ H Q=>∃a xs,v=.ref a/\Iz K H a xs/\xs.length=n/\t xs σ H Q
def Qt{es:oA lX}{k:Nat}{t:TGs}{n:Nat}(hc:X.calm=true)(h:PGs X es t)
  (hn:(assignEach es X.env).length=n:=by rfl) (j:(assignEach es X.env).findIdx? (·.1)=none:=by rfl):PG X (.Tuple es k pos) (ZA X.K n t):=by
 intro aa s σ H v u Q I r c;obtain⟨a,xs,g,hq,f,c⟩:=c;subst g;cases r;obtain⟨p,d,m,hz⟩:=I.tuple hq;refine assign_Tuple_tuple (I.ok.hd hc) m (by simp[hn,<- f,d.length]) j λi hx=>?_;have l:Inv X aa σ H {s with heap:=i}:=I.kept (t':=s.toks) λb o e=>hx b o (T_<|J_ e) e;exact h aa _ σ H xs _ Q l (by simpa using d) c
def EK(te:TE)(g:TG):TS:=λD σ H=>te σ H λx b=>g x σ b D.nx
def X5{tg e:lX}{te:TE}{g:TG}(he:PE X e te)(f:PG X tg g)(hs:swapsWithSole [tg] e pos.line X.env=pure false:=by rfl)(d:swappedStores [tg] e X.env=pure none:=by rfl)
  (h1:(assignEach [tg] X.env).map (·.2)=[assign tg X.env]:=by rfl):PS X (.Assign [tg] e pos) (EK te g):=by
 intro aa s σ H D I h;refine wpAny_Assign_stores (thn (he aa s σ H _ I h) λv k l=>Cc l λx c j i b=>?_) hs d;rw[h1];exact thn (f aa k σ c x v _ j i b) λ_ m q=>q
def LI{i:Nat}{x:Str}{e:lX}{te:TE}{b:Pos}(n:X.N.Nodup)(j:X.N[i]?=some x)(hx:Loc X.env.scope x)(he:PE X e te)(hs:swapsWith e (some<|.Name x b) pos.line X.env=pure false:=by rfl)(f:X.fn x=true\/X.env.scope.names.lookup x=some .local:=by first|exact .inl rfl|exact .inr rfl|assumption) :
  PS X (.Assign [.Name x b] e pos) (EK te<|X3 i):=by
 intro aa s σ H D I h;refine wpAny_Assign_Name (thn (he aa s σ H _ I h) λv p m=>Cc m λy g l k d=>?_) hs;exact Dm l n j hx k (λo c=>⟨_,g,c,d⟩) f
def ZB(i j:Nat)(b:TA):TS:=λD σ H=>b σ H λd c=>∃v w,d=[v,w]/\D.nx ((σ.set i<|some v).set j<|some w) c
def LJ{i j:Nat}{x y:Str}{a b:lX}{n:TA}{l k m:Pos}{kt k2 gc}(hc:X.calm=true)(B:X.N.Nodup)(T:X.N[i]?=some x)(hj:X.N[j]?=some y)(J:i≠j)
  (hx:X.env.scope.names.lookup x=some .local) (hy:X.env.scope.names.lookup y=some .local) (ha:PA X [a,b] n) (R:swappedStores [.Tuple [.Name x l,.Name y k] kt m] (.Tuple [a,b] k2 gc) X.env=pure (some [x,y]))
  (hs:swapsWithSole [.Tuple [.Name x l,.Name y k] kt m] (.Tuple [a,b] k2 gc) pos.line X.env=pure false:=by rfl) :
  PS X (.Assign [.Tuple [.Name x l,.Name y k] kt m] (.Tuple [a,b] k2 gc) pos) (ZB i j n):=by
 intro aa s σ H D I h;rw[exec_Assign_arm];refine A_<|iF ?_;rw[hs];refine A_<|B_ ?_;rw[I_<|by decide];refine A_<|Tuple_<|thn (ha _ aa s σ H _ I h) λQ c Y=>Cc Y λvs z G U g=>?_;obtain⟨v,w,O,g⟩:=g;subst O;obtain⟨f,d,rfl,P,W⟩:∃f d,Q=[f,d]/\Ba v f/\Ba w d:=by
  cases U with
  |cons p q=>
   cases q with
   |cons F M=>cases M;exact⟨_,_,rfl,p,F⟩
 refine aC ?_ (by show 2<=sizeLine;decide);have L:Inv X aa σ z {c with heap:=c.heap.push {cls:=.type "tuple",data:=.seq [f,d].toArray}}:=G.kept (t':=c.toks) λb o e=>DD _ e;rw[R];refine A_<|B_ ?_;show qU X.prog X.w X.A (do rule "assign.swapped-stores";let items <- unpackItems (.ref c.heap.objs.size) 2 none;assignInOrder [λv=>bindName X.env y v,λv=>bindName X.env x v] items.reverse;pure Flow.next) _ _ _;refine A_<|cV<|A_<|unpackItems_tuple (items:=#[f,d]) (I.ok.hd hc) (IsTup.new c.heap _) λh' hx'=>?_;have C:=L.kept (h':=h') (t':=c.toks) λb o e=>hx' b o (T_<|J_ e) e;show wpAny _ _ (assignInOrder [λv=>bindName X.env y v,λv=>bindName X.env x v] [d,f]>>=λ_=>pure Flow.next) _ _ _;refine A_<|fL<|iR<|Dm C B hj (.inl hy) W (λZ S=>?_)<|.inr hy;refine fL<|iR<|Dm S B T (.inl hx) P (λs3 r=>kO<|B_ ?_)<|.inr hx;rw[kW _ _<|dI J]at r;exact⟨_,z,r,g⟩
def LK(c:TT)(i:TS):TS:=λD σ H=>∃W:Nat->St->Hp->Prop,(∃m,W m σ H)/\∀m σ H,W m σ H ->
 c σ H λb h=>if b=true then ∃N:St->Hp->Prop,(∀ d f,N d f->∃g,g<m/\W g d f)/\i {D with nx:=N,ct:=N,bk:=D.nx} σ h else D.nx σ h
def X6{c:lX}{i:oA mC}{z:TT}{G:TS}(hp:PassesOwn (model X.prog X.w) X.A X.env X.xe)(hc:PT X c z)(hb:PSs X i G):PS X (.While c i [] pos) (LK z G):=by
 intro aa s σ H D I h;obtain⟨W,⟨M,S⟩,T⟩:=h;refine wpAny_While<|codeAny_whileLoop (λn P=>∃ j F,Inv X aa j F P/\W n j F) ?_ M ⟨σ,H,I,S⟩;rintro n R ⟨g,C,Q,O⟩;refine fU hp<|thn (hc aa R g C _ Q<|T n g C O) λb L ⟨y,B,m⟩=>?_;cases b with
 |true=>
  obtain⟨N,J,m⟩:=m;rw[N_ rfl];refine fU hp<|thn (hb aa L g y _ B m) λf U l=>?_;cases f with
  |next=>obtain⟨d,k,o,p⟩:=l;obtain⟨q,r,x⟩:=J d k p;exact⟨q,r,d,k,o,x⟩
  |cont=>obtain⟨d,k,o,p⟩:=l;obtain⟨q,r,x⟩:=J d k p;exact⟨q,r,d,k,o,x⟩
  |brk=>exact l
  |ret v=>exact l
 |false=>rw[I_ Q_];exact gT ⟨g,y,B,m⟩
structure It where
 go:Nat->Hp->Prop
 yld:Nat->Hp->V->Hp->Prop
 stop:Nat->Hp->Prop
def Ja(X:Cx)(aa:oA<|lT×l_)(H:Hp)(b:lT):Prop :=
 H b=none/\b≠X.env.locals/\b∉X.fs/\(b∈X.ex\/X.s₀.heap.objs.size<=b)/\(∀x c,X.env.cells.lookup x=some c->c≠b)/\∀p∈X.pn++aa,p.1≠b
def Inv.fpOk{X:Cx}{aa:oA<|lT×l_}{σ:St}{H H':Hp}{s:lQ}{b:lT}(I:Inv X aa σ H s)(hb:s.heap.objs.size<=b)(hn:H' b=none):Ja X aa H' b:=by
 refine⟨hn,fV<|Y_ I.lt hb,I.nofs hb,.inr<|K_ I.sz hb,λx c e z=>?_,λp hp z=>?_⟩
 ·obtain⟨v,q⟩:=I.cell x c e;exact absurd (Y_ q.lt<|by rw[z];exact hb)<|c_ _
 ·exact absurd (Y_ (J_ (I.pin p hp).1)<|by rw[z];exact hb)<|c_ _
structure Turn(P:lV)(w:lW)(K:lU)(tg:lX)(J:It)(fp:oA lT)(it:lT)(tn:Nat->lZ->Prop):Prop where
 mem:it∈fp
 obj:∀i h,tn i h->∀b∈fp,∃o,h.get? b=some o/\∀v,o.data≠.cell v
 keep:∀i h h',tn i h->(∀b∈fp,∀o,h.get? b=some o->h'.get? b=some o)->tn i h'
 item:∀(X:Cx),X.prog=P->X.w=w->X.K=K->X.calm=true->∀(i:Nat) (aa:oA<|lT×l_) (s:lQ) (σ:St) (H:Hp) (E:lP->lQ->Prop),Inv X aa σ H s->(∀b∈fp,Ja X aa H b)->tn i s.heap->J.go i H ->
  qU P w X.A (pyNext<|.ref it) (λr s1=>∃u,r=some u /\
   qU P w X.A (letOwnedTupleGo tg (.ref it) u) (λ_ s2=>∃x H',Inv X aa σ H' s2/\Ba x u/\J.yld i H x H'/\tn (i+1) s2.heap/\∀b∈fp,H' b=none) E s1) E s
 done:∀(X:Cx),X.prog=P->X.w=w->X.K=K->X.calm=true->∀(i:Nat) (aa:oA<|lT×l_) (s:lQ) (σ:St) (H:Hp) (E:lP->lQ->Prop),Inv X aa σ H s->(∀b∈fp,Ja X aa H b)->tn i s.heap->J.stop i H ->
  qU P w X.A (pyNext<|.ref it) (λr s1=>r=none/\Inv X aa σ H s1) E s
 self:∀(A:lY) (i:Nat) (s:lQ) (Q:lP->lQ->Prop) (E:lP->lQ->Prop),tn i s.heap->Q (.ref it) s->qU P w A (pyIter<|.ref it) Q E s
abbrev TI:=St->Hp->(It->Hp->Prop)->Prop
def PIE(X:Cx)(aa:oA<|lT×l_)(σ:St)(tg:lX)(R:It->Hp->Prop)(f:lP)(c:lQ):Prop :=
 ∃(d:lT) (fp:oA lT) (tn:Nat->lZ->Prop) (J:It) (H':Hp),f=.ref d/\Inv X aa σ H' c/\Turn X.prog X.w X.K tg J fp d tn/\tn 0 c.heap/\(∀b∈fp,Ja X aa H' b)/\R J H'
def PI(X:Cx)(tg iter:lX)(c:TI):Prop :=
 ∀(aa:oA<|lT×l_) (s:lQ) (σ:St) (H:Hp) (R:It->Hp->Prop),Inv X aa σ H s->c σ H R ->
  qU X.prog X.w X.A (eval iter X.env) (λv b=>qU X.prog X.w X.A (pyIter v) (PIE X aa σ tg R) X.xe b) X.xe s
def Ob{M:Model}{A:lY}{E:lP->lQ->Prop}{s:lQ}{tg:lX}{d:lT}{u:lP}{o:l_}{n:String}{c:oC lP}{Q:Unit->lQ->Prop}(f:s.heap.get? d=some o)(hc:o.cls=.type n)(g:o.data=.fields c)
  (hn:["enumerate","zip","dict_itemiterator","dict_reverseitemiterator","odict_iterator","itertools.zip_longest","itertools.pairwise"].contains n=false) (b:Q () s):wpAny M A (letOwnedTupleGo tg (.ref d) u) Q E s:=by
 unfold letOwnedTupleGo;cases tg<;>first
  |exact B_ b
  | (cases u<;>first
    |exact B_ b
    | (refine A_ (wpAny_load f ?_)
       rw [hc, g];show wpAny M A (if (["enumerate", "zip", "dict_itemiterator", "dict_reverseitemiterator", "odict_iterator", "itertools.zip_longest", "itertools.pairwise"].contains n&&c[0]? == some (rawInt _)) = true then _ else _) Q E s;rw [I_<|by intro h; rw [hn, Bool.false_and] at h; cases h];exact B_ b))
def Itl(K:lU)(a:lT):It :=
 ⟨λi H=>∃xs x,Ff K H a xs/\xs[i]?=some x,λi H x b=>b=H/\∀xs,Ff K H a xs->xs[i]?=some x,λi H=>∃xs,Ff K H a xs/\xs.length<=i⟩
def Itt(K:lU)(a:lT):It :=
 ⟨λi H=>∃xs x,Iz K H a xs/\xs[i]?=some x,λi H x b=>b=H/\∀xs,Iz K H a xs->xs[i]?=some x,λi H=>∃xs,Iz K H a xs/\xs.length<=i⟩
def Itr(lo:Int)(n:Nat):It:=⟨λi _=>i<n,λi H x b=>b=H/\x=.int (lo+i),λi _=>n<=i⟩
def Vq{P:lV}{w:lW}{K:lU}{tg:lX}(a f:lT):Turn P w K tg (Itl K a) [f] f (λi h=>h.IsListIter f a i) where
 mem:=by simp
 obj:=λi h st b hb=>by
  have e:b=f:=by simpa using hb
  subst e;obtain⟨o,e,c,d⟩:=st;exact⟨o,e,λv z=>by rw[d]at z;cases z⟩
 keep:=λi h g st k=>st.at λo e=>k f (by simp) o e
 item:=by intro X D C y hc i aa s σ H E I j st n;subst D C y;obtain⟨xs,x,hq,hx⟩:=n;obtain⟨N,B,p,hz⟩:=I.list hq;obtain⟨u,hu,O⟩:=B.get hx;obtain⟨m,l,J,r,q,A⟩:=j f (by simp);refine wpAny_pyNext_list_item st p.isList (x:=u) (by simpa using hu) λg F L=>?_;have M:Inv X aa σ H {s with heap:=g}:=I.turned (t':=s.toks) (λb o hb e=>(L.2 b hb).trans e) m l r q A;obtain⟨o,e,c,d⟩:=id F;exact⟨u,rfl,Ob (s:={s with heap:=g}) e c d (by decide) ⟨x,H,M,O,⟨rfl,λys hy=>by rw[I.list_inj hy hq];exact hx⟩,F,λb hb=>(j b hb).1⟩⟩
 done:=by intro X D C y hc i aa s σ H E I j st n;subst D C y;obtain⟨xs,hq,hx⟩:=n;obtain⟨N,B,p,hz⟩:=I.list hq;obtain⟨m,l,J,r,q,A⟩:=j f (by simp);have Q:=B.length;exact wpAny_pyNext_list_end (I.ok.hd hc) st p.isList (by simp;omega) λg G=>⟨rfl,I.turned (t':=s.toks) (λb o hb e=>G b o hb e) m l r q A⟩
 self:=λ_ _ _ _ _ st h=>wpAny_pyIter_listiter st h
def Qu{P:lV}{w:lW}{K:lU}{tg:lX}(a f:lT):Turn P w K tg (Itt K a) [f] f (λi h=>h.IsTupleIter f a i) where
 mem:=by simp
 obj:=λi h st b hb=>by
  have e:b=f:=by simpa using hb
  subst e;obtain⟨o,e,c,d⟩:=st;exact⟨o,e,λv z=>by rw[d]at z;cases z⟩
 keep:=λi h g st k=>st.at λo e=>k f (by simp) o e
 item:=by intro X F D y hc i aa s σ H E I j st n;subst F D y;obtain⟨xs,x,hq,hx⟩:=n;obtain⟨B,C,p,hz⟩:=I.tuple hq;obtain⟨u,hu,O⟩:=C.get hx;obtain⟨m,l,L,r,q,A⟩:=j f (by simp);refine wpAny_pyNext_tuple_item st (show s.heap.IsTuple a B.toArray from p) (x:=u) (by simpa using hu) λg G M=>?_;have N:Inv X aa σ H {s with heap:=g}:=I.turned (t':=s.toks) (λb o hb e=>(M.2 b hb).trans e) m l r q A;obtain⟨o,e,c,d⟩:=id G;exact⟨u,rfl,Ob (s:={s with heap:=g}) e c d (by decide) ⟨x,H,N,O,⟨rfl,λys hy=>by rw[I.tuple_inj hy hq];exact hx⟩,G,λb hb=>(j b hb).1⟩⟩
 done:=by intro X F D y hc i aa s σ H E I j st n;subst F D y;obtain⟨xs,hq,hx⟩:=n;obtain⟨B,C,p,hz⟩:=I.tuple hq;obtain⟨m,l,L,r,q,A⟩:=j f (by simp);have Q:=C.length;exact wpAny_pyNext_tuple_end (I.ok.hd hc) st (show s.heap.IsTuple a B.toArray from p) (by simp;omega) λg J=>⟨rfl,I.turned (t':=s.toks) (λb o hb e=>J b o hb e) m l r q A⟩
 self:=λ_ _ _ _ _ st h=>wpAny_pyIter_tupleiter st h
def Qv{P:lV}{w:lW}{K:lU}{tg:lX}(c:lT)(lo:Int)(n:Nat):Turn P w K tg (Itr lo n) [c] c (λi h=>IsRangeIter h c (lo+(i:Nat)*1) ((n:Int)-(i:Nat)) 1) where
 mem:=by simp
 obj:=λi h st b hb=>by
  have e:b=c:=by simpa using hb
  subst e;exact⟨_,st,λv z=>by
   have G:Data.fields _=Data.cell v:=z;cases G⟩
 keep:=λi h d st k=>k c (by simp) _ st
 item:=by intro X y x q hc i aa s σ H E I f st l;subst y x q;obtain⟨j,g,D,p,m,r⟩:=f c (by simp);have W:=Walks.range (prog:=X.prog) (w:=X.w) (I.ok.hd hc) c lo 1 n;refine W.item i s _ _ l st λv d B hv A J=>?_;obtain⟨t,rfl⟩:=hv;have F:Inv X aa σ H {s with heap:=d,toks:=B}:=I.turned (λb o hb e=>J b o (by simpa using hb) e) j g p m r;refine⟨_,rfl,Ob (s:={s with heap:=d,toks:=B}) (n := "range_iterator") A rfl rfl (by decide) ⟨.int<|lo+i,H,F,⟨t,?_⟩,⟨rfl,rfl⟩,A,λb hb=>(f b hb).1⟩⟩;rw[Int.mul_one]
 done:=by intro X y x q hc i aa s σ H E I f st l;subst y x q;obtain⟨j,g,D,p,m,r⟩:=f c (by simp);exact wpAny_pyNext_range_end (I.ok.hd hc) st (by have:n<=i:=l;omega) λd C=>⟨rfl,I.turned (t':=s.toks) (λb o hb e=>C b o hb e) j g p m r⟩
 self:=λ_ _ _ _ _ st h=>wpAny_pyIter_rangeiter st h
def Oc{aa:oA<|lT×l_}{σ:St}{H:Hp}{s:lQ}{R:It->Hp->Prop}{E:lP->lQ->Prop}{lo c:Int}{t u v:Tok}{tk:Nat}(I:Inv X aa σ H s)(h1:-(2^62)<=lo)(h2:lo<2^62)(i:-(2^62)<=c)(f:c<2^62)
  (q:R (Itr lo (c-lo).toNat) H):qU X.prog X.w X.A (pyIter<|.ref s.heap.objs.size) (PIE X aa σ tg R) E {s with heap:=s.heap.push {cls:=.type "range",data:=.fields #[.int lo t,.int c u,.int 1 v]},toks:=tk}:=by
 refine wpAny_pyIter_range (IsRange.new ..) (small_one h1 h2 i f) ?_;have d:Inv X aa σ H {s with heap:=s.heap.push {cls:=.type "range",data:=.fields #[.int lo t,.int c u,.int 1 v]},toks:=tk}:=I.kept λb o e=>DD _ e;refine⟨(s.heap.push {cls:=.type "range",data:=.fields #[.int lo t,.int c u,.int 1 v]}).objs.size,[(s.heap.push {cls:=.type "range",data:=.fields #[.int lo t,.int c u,.int 1 v]}).objs.size],_,_,H,rfl,
  d.kept (t':=tk) λb o e=>DD _ e,Qv _ lo (c-lo).toNat,?_,λb hb=>?_,q⟩
 ·have g:lo+((0:Nat):Int)*1=lo:=by simp
  have h:(((c-lo).toNat:Nat):Int)-((0:Nat):Int)=Builtin.Range.rangeSize lo c 1:=by rw[rangeSize_one];split<;>omega
  show IsRangeIter _ _ (lo+((0:Nat):Int)*1) ((((c-lo).toNat:Nat):Int)-((0:Nat):Int)) 1;rw[g,h];exact H_ _ rfl
 ·have e:b=(s.heap.push {cls:=.type "range",data:=.fields #[.int lo t,.int c u,.int 1 v]}).objs.size:=by simpa using hb
  subst e;exact d.fpOk (G_ _)<|d.hok.fresh<|G_ _
def RB(b:TA):TI:=λσ H R=>b σ H λd c=>∃j:Int,d=[.int j]/\-(2^62)<=j/\j<2^62/\R (Itr 0 j.toNat) c
def RC(b:TA):TI:=λσ H R=>b σ H λd c=>∃i j:Int,d=[.int i,.int j]/\(-(2^62)<=i/\i<2^62/\-(2^62)<=j/\j<2^62)/\R (Itr i (j-i).toNat) c
def Vr{a:lX}{c:TA}{p pos:Pos}(g:Gl X "range") (f:X.mg "range" = none) (ha:PA X [a] c) (hs:starEach [a] X.env=[(false,eval a X.env)]:=by rfl):PI X tg (.Call (.Name "range" p) [a] [] pos) (RB c):=by
 intro aa s σ H R I h;refine Call_<|Dy I g f boot_range<|bQ (thn (ha pos aa s σ H _ I h) λn w l=>Cc l λv o k i b=>?_) hs rfl;obtain⟨j,e,b,m,q⟩:=b;subst e;cases i with
 |cons r d=>cases d;obtain⟨t,rfl⟩:=r;exact call_range_1<|Oc k (by omega) (by omega) b m<|by simpa using q
def Vs{a b:lX}{f:TA}{p pos:Pos}(g:Gl X "range") (n:X.mg "range" = none) (ha:PA X [a,b] f) (hs:starEach [a,b] X.env=[(false,eval a X.env),(false,eval b X.env)]:=by rfl) (hs2:starEach [b] X.env=[(false,eval b X.env)]:=by rfl) :
  PI X tg (.Call (.Name "range" p) [a,b] [] pos) (RC f):=by
 intro aa s σ H R I h;refine Call_ (Dy I g n boot_range<|bQ (thn (ha pos aa s σ H _ I h) λA z l=>Cc l λy C k o c=>?_) (by rw[hs,hs2])<|by rw[hs2];rfl);obtain⟨i,j,e,⟨c,w,m,v⟩,q⟩:=c;subst e;cases o with
 |cons r d=>
  cases d with
  |cons x d=>cases d;obtain⟨t,rfl⟩:=r;obtain⟨B,rfl⟩:=x;exact call_range_2<|Oc k c w m v q
def ZC(l:TI)(g:TG)(k:TS):TS:=λD σ H=>l σ H λJ j=>∃W:Nat->Nat->St->Hp->Prop,(∃m,W 0 m σ j)/\∀i m σ H,W i m σ H ->
 (J.stop i H/\D.nx σ H)\/(J.go i H/\∃N:St->Hp->Prop,(∀ c b,N c b->∃f,f<m/\W (i+1) f c b)/\∀x b,J.yld i H x b->g x σ b λd h=>k {D with nx:=N,ct:=N,bk:=D.nx} d h)
def Jm(fp:oA lT)(h:lZ):oA (lT×l_):=fp.filterMap λb=>(h.get? b).map λo=>(b,o)
def Fg{fp:oA lT}{h:lZ}{b:lT}{o:l_}(hb:b∈fp)(e:h.get? b=some o):(b,o)∈Jm fp h:=iL.mpr ⟨b,hb,by rw[e];rfl⟩
def Vt{fp:oA lT}{h:lZ}{p:lT×l_}(hp:p∈Jm fp h):p.1∈fp/\h.get? p.1=some p.2:=by
 obtain⟨b,hb,e⟩:=iL.mp hp;cases q:h.get? b with
 |none=>rw[q]at e;cases e
 |some o=>rw[q]at e;have c:(b,o)=p:=aX e;subst c;exact⟨hb,q⟩
def Inv.pinned{aa:oA<|lT×l_}{σ:St}{H:Hp}{s:lQ}{fp:oA lT}(I:Inv X aa σ H s)(g:∀b∈fp,Ja X aa H b)(f:∀b∈fp,∃o,s.heap.get? b=some o/\∀v,o.data≠.cell v):Inv X (aa++Jm fp s.heap) σ H s :=
 I.pins_of λp hp=>(S_.mp hp).elim (λz=>I.pin p<|aN _ z) λz=>by obtain⟨hb,e⟩:=Vt z;obtain⟨j,h,i,_⟩:=g p.1 hb;obtain⟨o,c,d⟩:=f p.1 hb;rw[e]at c;cases c;exact⟨e,j,h,i,d⟩
def Inv.unpinned{aa pl:oA<|lT×l_}{σ:St}{H:Hp}{s:lQ}(I:Inv X (aa++pl) σ H s):Inv X aa σ H s:=I.pins_of λp hp=>I.pin p<|aN _<|aD _ hp
def X7{iter:lX}{y:oA mC}{Y:TI}{g:TG}{tb:TS}{pos:Pos}(hp:PassesOwn (model X.prog X.w) X.A X.env X.xe)(hc:X.calm=true)(hi:PI X tg iter Y)(hg:PG X tg g)(hb:PSs X y tb)
  (hs:∀x,foldedSetIterable iter X.env x=pure x:=by intro _;rfl):PS X (.For tg iter y [] pos) (ZC Y g tb):=by
 intro aa s σ H D I h;refine wpAny_For (thn (hi aa s σ H _ I h) λv s1 h1=>thn h1 λyf s2 h2=>?_) hs;obtain⟨it,F,tn,J,H2,e,I2,T,ki,f2,W,⟨m0,w0⟩,iu⟩:=h2;subst e;have M:∀{H':Hp},(∀b∈F,H' b=none)->∀b∈F,Ja X aa H' b:=λhn b hb=>⟨hn b hb,(f2 b hb).2⟩;refine codeAny_forLoop_any (λn s'=>∃i l H',Inv X aa l H' s'/\tn i s'.heap/\(∀b∈F,H' b=none)/\W i n l H') ?_ m0 ⟨0,σ,H2,I2,ki,λb hb=>(f2 b hb).1,w0⟩;rintro n U ⟨i,p,L,Z,G,B,w3⟩;rcases iu i n p L w3 with⟨stop,qn⟩|⟨go,N,hN,step⟩
 ·refine fU hp<|thn (T.done X rfl rfl rfl hc i aa U p L X.xe Z (M B) G stop) λr s4 ⟨P,I4⟩=>?_;subst P;exact gT ⟨p,L,I4,qn⟩
 ·refine fU hp<|thn (T.item X rfl rfl rfl hc i aa U p L X.xe Z (M B) G go) λr s4 ⟨u,P,h4⟩=>?_;subst P;refine fU hp<|thn h4 λ_ s5 ua=>?_;obtain⟨x,H5,I5,r5,y5,z,Q⟩:=ua;have R:=I5.pinned (M Q)<|T.obj _ _ z;refine fU hp<|thn (hg _ s5 p H5 x u _ R r5<|step x H5 y5) λ_ s6 xx=>?_;obtain⟨O,H6,I6,q6⟩:=xx;refine fU hp<|thn (hb _ s6 O H6 _ I6 q6) λf S q=>?_;have again:∀{c:St} {j:Hp},Inv X (aa++Jm F s5.heap) c j S->N c j->∃m,m<n/\∃i l H',Inv X aa l H' S/\tn i S.heap/\(∀b∈F,H' b=none)/\W i m l H':=λ{c j} k C=>by
   obtain⟨m',hm,w7⟩:=hN c j C;refine⟨m',hm,i+1,c,j,k.unpinned,T.keep _ _ _ z λb hb o e=>(k.pin (b,o)<|aN _<|aN _<|Fg hb e).1,λb hb=>?_,w7⟩;obtain⟨o,e,d⟩:=T.obj _ _ z b hb;exact(k.pin (b,o)<|aN _<|aN _<|Fg hb e).2.1
  cases f with
  |next=>obtain⟨c,j,k,C⟩:=q;exact again k C
  |cont=>obtain⟨c,j,k,C⟩:=q;exact again k C
  |brk=>obtain⟨c,j,k,q⟩:=q;exact⟨c,j,k.unpinned,q⟩
  |ret v=>obtain⟨x7,c,j,k,r7,q⟩:=q;exact⟨x7,c,j,k.unpinned,r7,q⟩
end
abbrev R2:=V->V->Hp->VK->Prop
def Gv(X:Cx)(f:lP->lP->Sem lP)(r:R2):Prop :=
 ∀(b:oA<|lT×l_) (s:lQ) (a:St) (H:Hp) (x y:V) (v u:lP) (Q:VK),Inv X b a H s->Ba x v->Ba y u->r x y H Q ->
  qU X.prog X.w X.A (f v u) (EP X b a Q) X.xe s
def ZD(X:Cx)(f:lP->Sem lP)(r:V->Hp->VK->Prop):Prop :=
 ∀(b:oA<|lT×l_) (s:lQ) (a:St) (H:Hp) (x:V) (v:lP) (Q:VK),Inv X b a H s->Ba x v->r x H Q ->
  qU X.prog X.w X.A (f v) (EP X b a Q) X.xe s
def Ew(X:Cx)(f:lP)(r:oA V->Hp->VK->Prop):Prop :=
 ∀(b:oA<|lT×l_) (s:lQ) (a:St) (H:Hp) (xs:oA V) (c:oA lP) (Q:VK),Inv X b a H s->Vals xs c->r xs H Q ->
  qU X.prog X.w X.A (call f c) (EP X b a Q) X.xe s
def RD(r:R2)(b e:TE):TE:=λa H Q=>b a H λx d=>e a d λy c=>r x y c Q
def tUn(r:V->Hp->VK->Prop)(a:TE):TE:=λc H Q=>a c H λx b=>r x b Q
def rI(C:Int->Int->Prop)(g:Int->Int->V):R2:=λx y H Q=>∃i j,x=.int i/\y=.int j/\C i j/\Q (g i j) H
def X8(g:Int->Int->V):R2:=λx y H Q=>∃i j,x=.int i/\y=.int j/\Q (g i j) H
def rU(g:Int->V):V->Hp->VK->Prop:=λx H Q=>∃i,x=.int i/\Q (g i) H
section
variable {X:Cx}{a b c:lX}{ta tb tc:TE}{pos:Pos}{e:lX}{es:oA lX}{te:TE}{t:TA}{aa:oA<|lT×l_}{σ:St}{H:Hp}{s s':lQ}{CX:CXT}{k:Nat}{f C:lT}{fd:mD}{ps:oA Str}{sp:Sp}{nv:oA V}{ds:oA lP}{E:XK}{x m:Str}{p ap:Pos}{o:lX}{id T:String}{r:oA V->Hp->VK->Prop}
def LL(ha:PE X a ta)(hb:PE X b tb){aa:oA<|lT×l_}{s:lQ}{σ:St}{H:Hp}{R:V->V->Hp->Prop}(I:Inv X aa σ H s)
  (h:ta σ H λx l=>tb σ l λy d=>R x y d) {Q:lP->lQ->Prop} {f:lP->lP->Sem lP}
  (B:∀v u j x y d,Inv X aa σ d j->Ba x v->Ba y u->R x y d->qU X.prog X.w X.A (f v u) Q X.xe j) :
  qU X.prog X.w X.A (eval a X.env) (λv i=>qU X.prog X.w X.A (eval b X.env) (λu g=>qU X.prog X.w X.A (f v u) Q X.xe g) X.xe i) X.xe s:=by
 refine thn (ha aa s σ H _ I h) λv L G=>Cc G λx l J D z=>?_;refine thn (hb aa L σ l _ J z) λu j F=>Cc F λy d q n M=>?_;exact B v u j x y d q D n M
def RE{d:Operator}{r:R2}(l:Gv X (binaryOp d) r)(ha:PE X a ta)(hb:PE X b tb):PE X (.BinOp a d b pos) (RD r ta tb):=by intro aa s σ H Q I h;exact wpAny_BinOp<|LL ha hb I h λv u i x y n g j w q=>l aa i σ n x y v u Q g j w q
def RF{d:UnaryOp}{r:V->Hp->VK->Prop}(g:ZD X (unaryOp d) r)(ha:PE X a ta):PE X (.UnaryOp d a pos) (tUn r ta):=by intro aa s σ H Q I h;exact UnaryOp_<|thn (ha aa s σ H _ I h) λv u l=>Cc l λx j q n i=>g aa u σ j x v Q q n i
def QO{f:lP->lP->Sem lP}{C:Int->Int->Prop}{g:Int->Int->Int}
  (rule:∀(i j:Int) (t u:Tok) (s:lQ) (Q:lP->lQ->Prop) (E:lP->lQ->Prop),C i j->Q (.int (g i j) s.toks) {s with toks:=s.toks+1}->qU X.prog X.w X.A (f (.int i t)<|.int j u) Q E s) :
  Gv X f (rI C λi j=>.int<|g i j):=by
 intro aa s σ H x y v u Q I d n h;obtain⟨i,j,rfl,rfl,hc,q⟩:=h;obtain⟨t,rfl⟩:=d;obtain⟨l,rfl⟩:=n;exact rule i j t l s _ _ hc ⟨.int<|g i j,H,I.tok _,⟨_,rfl⟩,q⟩
def EM{f:lP->lP->Sem lP}{g:Int->Int->Int}
  (rule:∀(i j:Int) (t u:Tok) (s:lQ) (Q:lP->lQ->Prop) (E:lP->lQ->Prop),Q (.int (g i j) s.toks) {s with toks:=s.toks+1}->qU X.prog X.w X.A (f (.int i t)<|.int j u) Q E s) :
  Gv X f (X8 λi j=>.int<|g i j):=by
 intro aa s σ H x y v u Q I d n h;obtain⟨i,j,rfl,rfl,q⟩:=h;obtain⟨t,rfl⟩:=d;obtain⟨l,rfl⟩:=n;exact rule i j t l s _ _ ⟨.int<|g i j,H,I.tok _,⟨_,rfl⟩,q⟩
def EN{f:lP->lP->Sem lP}{g:Int->Int->Bool}
  (rule:∀(i j:Int) (t u:Tok) (s:lQ) (Q:lP->lQ->Prop) (E:lP->lQ->Prop),Q (.bool<|g i j) s->qU X.prog X.w X.A (f (.int i t)<|.int j u) Q E s) :
  Gv X f (X8 λi j=>.bl<|g i j):=by
 intro aa s σ H x y v u Q I d n h;obtain⟨i,j,rfl,rfl,q⟩:=h;obtain⟨t,rfl⟩:=d;obtain⟨l,rfl⟩:=n;exact rule i j t l s _ _ ⟨.bl<|g i j,H,I,rfl,q⟩
def CDiv(i j:Int):Prop:=0<j/\j<1073741824
def CPow(i j:Int):Prop:=0<=j/\j<=1000000/\i.natAbs<2^64
def CMul(i j:Int):Prop:=(-(2^64)<i/\i<2^64)\/(-(2^64)<j/\j<2^64)
def CMul.ok{i j:Int}(h:CMul i j):IntMulOk i j:=by
 rcases h with⟨h1,h2⟩|⟨h1,h2⟩
 ·exact .of_left<|intBits_le_64 h1 h2
 ·exact .of_right<|intBits_le_64 h1 h2
def Qw(k:Nat):(0:Int)<=2^k:=by rw[two_pow_cast];exact dB _
def LM:Gv X (binaryOp .Add) (X8 λi j=>.int<|i+j):=EM λ_ _ _ _ _ _ _ q=>add_int q
def LN:Gv X (binaryOp .Sub) (X8 λi j=>.int<|i-j):=EM λ_ _ _ _ _ _ _ q=>sub_int q
def LP:Gv X (binaryOp .Mult) (rI CMul λi j=>.int<|i*j):=QO λ_ _ _ _ _ _ _ hc q=>mul_int q hc.ok
def EO:Gv X (binaryOp .FloorDiv) (rI CDiv λi j=>.int<|i / j):=QO λi j _ _ _ _ _ hc q=>by have h1:(0:Int)<j:=hc.1;have h2:j<1073741824:=hc.2;exact floordiv_int (by omega) (by rw[Int.fdiv_eq_ediv_of_nonneg i<|by omega];exact q)<|.inl<|PyProof.noPylong_small<|by omega
def LQ:Gv X (binaryOp .Mod) (rI (λ_ j=>0<j) λi j=>.int<|i%j):=QO λi j _ _ _ _ _ hc q=>by have h1:(0:Int)<j:=hc;exact mod_int' (by omega)<|by rw[Int.fmod_eq_emod_of_nonneg i<|by omega];exact q
def LR:Gv X (binaryOp .Pow) (rI CPow λi j=>.int<|i^j.toNat):=QO λ_ _ _ _ _ _ _ hc q=>pow_int_small hc.1 hc.2.1 hc.2.2 q
def LU:Gv X (binaryOp .LShift) (rI CPow λi j=>.int<|i*2^j.toNat):=QO λ_ _ _ _ _ _ _ hc q=>lshift_int_small hc.1 hc.2.1 hc.2.2 q
def LW:Gv X (binaryOp .RShift) (rI (λ_ j=>0<=j) λi j=>.int<|i / 2^j.toNat):=QO λi j _ _ _ _ _ hc q=>
 rshift_int hc (by rw[Int.fdiv_eq_ediv_of_nonneg i<|Qw _];exact q)
def LX:Gv X (binaryOp .BitAnd) (X8 λi j=>.int<|Builtin.bitAnd i j):=EM λ_ _ _ _ _ _ _ q=>and_int q
def RG:Gv X (binaryOp .BitOr) (X8 λi j=>.int<|Builtin.bitOr i j):=EM λ_ _ _ _ _ _ _ q=>or_int q
def unI{f:lP->Sem lP}{g:Int->Int}
  (rule:∀(i:Int) (t:Tok) (s:lQ) (Q:lP->lQ->Prop) (E:lP->lQ->Prop),Q (.int (g i) s.toks) {s with toks:=s.toks+1}->qU X.prog X.w X.A (f<|.int i t) Q E s) :
  ZD X f (rU λi=>.int<|g i):=by
 intro aa s σ H x v Q I d h;obtain⟨i,rfl,q⟩:=h;obtain⟨t,rfl⟩:=d;exact rule i t s _ _ ⟨.int<|g i,H,I.tok _,⟨_,rfl⟩,q⟩
def LY:ZD X (unaryOp .USub) (rU λi=>.int<|-i):=unI λ_ _ _ _ _ q=>neg_int q
def X9{aa:oA<|lT×l_}{σ:St}{H:Hp}{s:lQ}{Q:VK}{k d:Bool}(I:Inv X aa σ H s)(q:Q (.bl k) H)(e:k=d):EP X aa σ Q (.bool d) s:=by subst e;exact⟨.bl k,H,I,rfl,q⟩
def RH:Gv X (compareOp .Lt) (X8 λi j=>.bl<|decide (i<j)):=EN λ_ _ _ _ _ _ _ q=>lt_int q
def RI:Gv X (compareOp .LtE) (X8 λi j=>.bl<|decide (i<=j)):=EN λ_ _ _ _ _ _ _ q=>le_int q
def RJ:Gv X (compareOp .Gt) (X8 λi j=>.bl<|decide (j<i)):=EN λ_ _ _ _ _ _ _ q=>gt_int q
def RK:Gv X (compareOp .GtE) (X8 λi j=>.bl<|decide (j<=i)):=EN λ_ _ _ _ _ _ _ q=>ge_int q
def Vu:Gv X (compareOp .In) (λx y H Q=>∃i j,x=.str i/\y=.str j/\Q (.bl<|!(Builtin.Str.occurrences j i 0 j.length 1).isEmpty) H):=by intro aa s σ H x y v u Q I d g h;obtain⟨i,j,rfl,rfl,q⟩:=h;obtain⟨t,rfl⟩:=d;obtain⟨l,rfl⟩:=g;exact in_str<|X9 I q rfl
def Td:Gv X (compareOp .IsNot) (λx y H Q=>y=.non/\Q (.bl<|!decide (x=.non)) H):=by
 intro aa s σ H x y v u Q I d g h;obtain⟨rfl,q⟩:=h;cases g;refine isnot_none_gen<|X9 I q ?_;cases x<;>first
  | (cases d;rfl)
  | (obtain⟨t,rfl⟩:=d;rfl)
def nomark(b:lX){d:CmpOp}(h:d≠.In:=by decide)(h2:d≠.NotIn:=by decide):behindInMarks d b=false:=by
 have i:(d==CmpOp.In)=false:=by cases d<;>first|rfl|exact absurd rfl h
 have g:(d==CmpOp.NotIn)=false:=by cases d<;>first|rfl|exact absurd rfl h2
 cases b<;>simp[behindInMarks,i,g]
def EQ{d:CmpOp}{r:R2}(l:Gv X (compareOp d) r)(ha:PE X a ta)(hb:PE X b tb)(w:behindInMarks d b=false):PE X (.Compare a [d] [b] pos) (RD r ta tb):=by intro aa s σ H Q I h;exact wpAny_Compare1 (LL ha hb I h λv u i x y n g j z q=>l aa i σ n x y v u Q g j z q) w
def Ya(t:TE):TT:=λσ H Q=>t σ H λx d=>∃k,x=.bl k/\Q k d
def ER{d:CmpOp}{r:R2}(j:Gv X (compareOp d) r)(ha:PE X a ta)(hb:PE X b tb)(M:behindInMarks d b=false):PT X (.Compare a [d] [b] pos) (Ya<|RD r ta tb):=by
 intro aa s σ H Q I h;refine wpAny_isTrue_Compare1 (thn (ha aa s σ H _ I h) λv B L=>Cc L λx N A O l=>thn (hb aa B σ N _ A l) λu g w=>Cc w λy n J F P=>
  thn (j aa g σ n x y v u _ J O F P) λc R ⟨z,D,i,q,k,e,G⟩=>?_) M
 subst e;cases q;exact eC ⟨D,i,G⟩
def Yb(r j:R2)(ta tb tc:TE):TE:=λσ H Q=>ta σ H λx i=>tb σ i λy h=>r x y h λz d=>∃k,z=.bl k /\
 (if k=true then tc σ d λl g=>j y l g Q else Q (.bl false) d)
def Yc{i g:CmpOp}{r w:R2}(D:Gv X (compareOp i) r)(L:Gv X (compareOp g) w)(ha:PE X a ta)(hb:PE X b tb)(hc:PE X c tc)
  (hm:lastMarks [i,g] [b,c]=false:=by with_unfolding_all rfl):PT X (.Compare a [i,g] [b,c] pos) (Ya<|Yb r w ta tb tc):=by
 intro aa s σ H Q I h;refine isTrue_chain (thn (ha aa s σ H _ I h) λv R vz=>Cc vz λx H1 P r1 G=>test_link<|thn (hb aa R σ H1 _ P G) λu B tq=>Cc tq λy J W n q2=>
  thn (D aa B σ J x y v u _ W r1 n q2) λd O ⟨z,l,j,M,k,e,q⟩=>?_) hm
 subst e;cases M;refine eC ?_;cases k with
 |false=>obtain⟨k',e',Y⟩:=q;cases e';exact ite_ff ⟨l,j,Y⟩
 |true=>refine ite_tt<|test_last<|thn (hc aa O σ l _ j q) λw' s4 N=>Cc N λS H4 I4 Z q4=>thn (L aa s4 σ H4 y S u w' _ I4 n Z q4) λd' s5 sf=>?_;obtain⟨z2,F,U,A,k2,e2,q5⟩:=sf;subst e2;cases A;exact eC ⟨F,U,q5⟩
def Jn:(sizeLine:Nat)<2^63:=by rw[kP];decide
def Qx:Gv X (binaryOp .Add) (λx y H Q=>∃i j,x=.str i/\y=.str j/\i.length+j.length<=sizeLine/\Q (.str<|i++j) H):=by intro aa s σ H x y v u Q I d l h;obtain⟨i,j,rfl,rfl,hz,q⟩:=h;obtain⟨t,rfl⟩:=d;obtain⟨g,rfl⟩:=l;exact add_str (λg n=>⟨.str<|i++j,H,I.tok _,⟨_,rfl⟩,q⟩) hz
def Ex{x:V}{d:oA lP}(r:Vals [x] d):∃u,d=[u]/\Ba x u:=by
 cases r with
 |cons h g=>cases g;exact⟨_,rfl,h⟩
def IP{x y:V}{d:oA lP}(r:Vals [x,y] d):∃u g,d=[u,g]/\Ba x u/\Ba y g:=by
 cases r with
 |cons j h=>
  cases h with
  |cons l i=>cases i;exact⟨_,_,rfl,j,l⟩
def Vv(hc:X.calm=true):Ew X (.builtin "max") (λd H Q=>∃i j,d=[.int i,.int j]/\Q (.int<|if j>i then j else i) H):=by
 intro aa s σ H d g Q I r h;obtain⟨i,j,rfl,q⟩:=h;obtain⟨u,w,rfl,⟨t,rfl⟩,⟨n,rfl⟩⟩:=IP r;refine max_two_ints (I.ok.hd hc) λl v k=>⟨_,H,I.kept k,?_,q⟩;by_cases hj:j>i
 ·rw[N_ hj,N_ hj];exact⟨_,rfl⟩
 ·rw[I_ hj,I_ hj];exact⟨_,rfl⟩
def Vw(hc:X.calm=true):Ew X (.builtin "min") (λd H Q=>∃i j,d=[.int i,.int j]/\Q (.int<|if j<i then j else i) H):=by
 intro aa s σ H d g Q I r h;obtain⟨i,j,rfl,q⟩:=h;obtain⟨u,w,rfl,⟨t,rfl⟩,⟨n,rfl⟩⟩:=IP r;refine min_two_ints (I.ok.hd hc) λl v k=>⟨_,H,I.kept k,?_,q⟩;by_cases hj:j<i
 ·rw[N_ hj,N_ hj];exact⟨_,rfl⟩
 ·rw[I_ hj,I_ hj];exact⟨_,rfl⟩
def Gj.some_of{v:V}{o:oB lP}(r:Gj (some v) o):∃u,o=some u/\Ba v u:=by
 cases o with
 |none=>exact(show False from r).elim
 |some u=>exact⟨u,rfl,r⟩
def Qz(K:lU)(C:lT)(f:Str):Prop:=PySem.W.findIn K (.ref C) f=some none
structure Room(k:Nat)(A:lY):Prop where
 hd:A.handled=none
 dp:A.depth+3*k+5<recursionLimit
 un:A.units+16*k+200<cLine
 gd:A.guards=some []
def Room.mono{j k:Nat}{A:lY}(r:Room k A)(h:j<=k):Room j A:=⟨r.hd,by have:=r.dp;omega,by have:=r.un;omega,r.gd⟩
def Room.deeper{k:Nat}{A:lY}(r:Room (k+1) A)(env:Env):Room k (A.deeper env) :=
 ⟨r.hd,by have:=r.dp;show A.depth+1+3*k+5<_;omega,by have:=r.un;show A.units+3+16*k+200<_;omega,r.gd⟩
def Q0{A:lY}{C:lT}{d:oA lP}{g:oA<|Str×lP}:(A.under<|.builtin "type.__call__" ⟨.ref C::d,g⟩).depth=A.depth+1:=by
 first|rfl|simp[Around.under,Code.weight,Code.isCreation,Code.isGuard,Code.isCaller,Code.frames,Code.isFrame,guardIds]
def Q3{A:lY}{C:lT}{d:oA lP}{g:oA<|Str×lP}:(A.under<|.builtin "type.__call__" ⟨.ref C::d,g⟩).units=A.units+1:=by
 first|rfl|simp[Around.under,Code.cUnits,Code.frames,Code.isFrame]
def Room.make{k:Nat}{A:lY}(r:Room (k+1) A)(C:lT)(d:oA lP)(g:oA<|Str×lP):Room k (A.under<|.builtin "type.__call__" ⟨.ref C::d,g⟩) :=
 ⟨r.hd,by have:=r.dp;rw[Q0];omega,by have:=r.un;rw[Q3];omega,r.gd⟩
def Room.depth{k:Nat}{A:lY}(r:Room k A):A.depth<recursionLimit:=by have:=r.dp;omega
def Room.units{k:Nat}{A:lY}(r:Room k A):A.units+64<cLine:=by have:=r.un;omega
def ZE:TA:=λ_ H Q=>Q [] H
def RL(ta:TE)(g:TA):TA:=λσ H Q=>ta σ H λx i=>g σ i λd h=>Q (x::d) h
def LZ:PA X [] ZE:=λ_ _ _ _ H Q I h=>cJ ⟨[],H,I,.nil,h⟩
def ES(ha:PE X e te)(q:PA X es t)(hs:starEach (e::es) X.env=(false,eval e X.env)::starEach es X.env:=by rfl):PA X (e::es) (RL te t):=by intro pos aa s σ H Q I h;rw[hs];show wpAny _ _ (spliced<|(false,eval e X.env)::backTo pos (starEach es X.env)) _ _ s;refine bU<|thn (ha aa s σ H _ I h) λu A i=>Cc i λx n z y j=>?_;exact thn (q pos aa A σ n _ z j) λF D w=>Cc w λv l g d B=>⟨x::v,l,g,.cons y d,B⟩
def ZF(t:TA):TE:=λσ H Q=>t σ H λd g=>d.length<=sizeLine/\∀p,g p=none->Q (.ref p) (upd g p<|.tup d)
def ZG(t:TA):TE:=λσ H Q=>t σ H λd g=>d.length<=sizeLine/\∀p,g p=none->Q (.ref p) (upd g p<|.lst d)
def Yd{x1}(h:PA X es t):PE X (.Tuple es x1 pos) (ZF t):=by intro aa s σ H Q I hq;refine wpAny_Tuple_spliced (thn (h pos aa s σ H _ I hq) λj d ⟨n,g,i,r,z,q⟩=>⟨by rw[<- r.length];exact z,?_⟩);have l:g d.heap.objs.size=none:=i.hok.fresh<|G_ _;refine⟨.ref d.heap.objs.size,upd g d.heap.objs.size<|.tup n,i.laid (t':=d.toks) (λb u e=>DD _ e) (G_ _) ?_,rfl,q _ l⟩;exact⟨z,j,r,⟨_,H_ _ rfl,rfl,_,rfl⟩⟩
def MA(h:PA X es t):PE X (.List es pos) (ZG t):=by intro aa s σ H Q I hq;refine wpAny_List_spliced (thn (h pos aa s σ H _ I hq) λj d ⟨n,g,i,r,z,q⟩=>⟨by rw[<- r.length];exact z,?_⟩);have l:g d.heap.objs.size=none:=i.hok.fresh<|G_ _;refine⟨.ref d.heap.objs.size,upd g d.heap.objs.size<|.lst n,i.laid (t':=d.toks) (λb u e=>DD _ e) (G_ _) ?_,rfl,q _ l⟩;exact⟨z,j,0,r,H_ _ rfl⟩
abbrev Sp:=oA V->Hp->VK->XK->Prop
abbrev CXT:=oA Env->Hp->lQ->XK->lP->lQ->Prop
structure Env0(P:lV)(w:lW)(K:lU)(mg:Str->oB lP)(base:lZ)(A:lY)(outer:oA Env)(s:lQ)(H:Hp):Prop where
 frames:A.frames=some outer
 mod:Mod K mg base
 bs:∀b o,base.get? b=some o->s.heap.get? b=some o/\H b=none
 bsz:base.objs.size<=s.heap.objs.size
 funs:s.heap.FunFrames base outer
 frf:∀b∈frs outer,H b=none
 hok:HOk P w H s.heap
 bare:AllBare s.gens
def CE(outer:oA Env)(P:lV)(w:lW)(H:Hp)(s:lQ)(Q:VK)(u:lP)(s':lQ):Prop :=
 ∃v d,s'.os=s.os/\AllBare s'.gens/\Un (frs outer) [] H d s.heap s'.heap/\HOk P w d s'.heap/\Ba v u/\Q v d
def CR(CX:CXT)(outer:oA Env)(P:lV)(w:lW)(H:Hp)(s:lQ)(Q:VK)(E:XK)(r:mH)(s':lQ):Prop :=
 match r with
 |.ok (.ret u)=>CE outer P w H s Q u s'
 |.ok _=>False
 |.error e=>CX outer H s E e s'
structure FnOk(P:lV)(w:lW)(K:lU)(mg:Str->oB lP)(base:lZ)(CX:CXT)(k:Nat)(f:lT)(fd:mD)(ps:oA Str)(sp:Sp):Prop where
 len:∀vs H Q E,sp vs H Q E->vs.length=ps.length
 run:∀(A:lY) (outer:oA Env) (s:lQ) (H:Hp) (args:Args) (us:oA lP) (vs:oA V) (Q:VK) (E:XK),Room k A->Env0 P w K mg base A outer s H->BindsTo s fd args (ps.zip us)->Vals vs us->sp vs H Q E ->
  codeAny (model P w) A (.call (.ref f) args) (CR CX outer P w H s Q E) s
def FnOk.mono{P:lV}{w:lW}{K:lU}{i:Str->oB lP}{base:lZ}{CX:CXT}{j k:Nat}{f:lT}{fd:mD}{ps:oA Str}{sp:Sp}(F:FnOk P w K i base CX j f fd ps sp)(h:j<=k) :
  FnOk P w K i base CX k f fd ps sp:=⟨F.len,λA d s H g l q Q E n=>F.run A d s H g l q Q E<|n.mono h⟩
def FnOk.imp{P:lV}{w:lW}{K:lU}{l:Str->oB lP}{base:lZ}{CX:CXT}{k:Nat}{f:lT}{fd:mD}{ps:oA Str}{sp j:Sp}(F:FnOk P w K l base CX k f fd ps sp)
  (h:∀g H Q E,j g H Q E->sp g H Q E):FnOk P w K l base CX k f fd ps j :=
 ⟨λg H Q E q=>F.len g H Q E<|h _ _ _ _ q,λA d s H i n g Q E u he hb hv v=>F.run A d s H i n g Q E u he hb hv<|h _ _ _ _ v⟩
def Env0.make{P:lV}{w:lW}{K:lU}{d:Str->oB lP}{base:lZ}{A:lY}{outer:oA Env}{s:lQ}{H:Hp}(e:Env0 P w K d base A outer s H)(C:lT)(h:oA lP)(g:oA<|Str×lP) :
  Env0 P w K d base (A.under<|.builtin "type.__call__" ⟨.ref C::h,g⟩) outer s H:=⟨by first|exact e.frames|(simpa [Around.under,Code.envs,Code.isFrame,pushEnvs] using e.frames),e.mod,e.bs,e.bsz,e.funs,e.frf,e.hok,e.bare⟩
def Inv.env0(I:Inv X aa σ H s):Env0 X.prog X.w X.K X.mg X.base X.A X.stack s H :=
 ⟨I.ok.frames,I.ok.mod,I.bs,K_ I.ok.bsz I.sz,I.stack,I.stkFree,I.hok,I.bare⟩
def Inv.after{Q:VK}{u:lP}(I:Inv X aa σ H s)(h:CE X.stack X.prog X.w H s Q u s'):EP X aa σ Q u s':=by obtain⟨v,A,os,i,n,l,r,q⟩:=h;obtain⟨y,g,d,t,j⟩:=s';obtain rfl:j=s.os:=os;exact⟨v,A,I.call (h':=y) (g':=g) (d':=d) (t':=t) (ch:=[]) n l i λb z=>absurd z<|by simp,r,q⟩
def RM(sp:Sp)(nv:oA V)(E:XK)(t:TA):TE:=λσ H Q=>t σ H λg d=>sp (g++nv) d Q E
def Binds(K:lU)(fd:mD)(ps:oA Str)(ds:oA lP):Prop :=
 ∀(s:lQ) (d:oA lP),K.In s.heap->(d++ds).length=ps.length->BindsTo s fd ⟨d,[]⟩ (ps.zip<|d++ds)
def Binds.all{K:lU}{fd:mD}{ps:oA Str}(h:∀d:oA lP,d.length=ps.length->bindArgs fd ⟨d,[]⟩=pure (ps.zip d)):Binds K fd ps []:=λs d _ g=>by rw[cB]at g ⊢;exact .of_eq<|h d g
def Passes(CX:CXT)(X:Cx)(E:XK):Prop:=∀(aa:oA<|lT×l_) (σ:St) (H:Hp) (s:lQ) (e:lP) (s':lQ),Inv X aa σ H s->CX X.stack H s E e s'->X.xe e s'
def MB{aa:oA<|lT×l_}{σ:St}{H:Hp}{s:lQ}{Q:VK}{d:oA lP}{g:oA V}(F:FnOk X.prog X.w X.K X.mg X.base CX k f fd ps sp)(n:Room k X.A)(hb:Binds X.K fd ps ds)(l:Vals nv ds)(hx:Passes CX X E) (I:Inv X aa σ H s) (r:Vals g d) (h:sp (g++nv) H Q E):qU X.prog X.w X.A (call (.ref f) d) (EP X aa σ Q) X.xe s:=by
 have i:Vals (g++nv) (d++ds):=r.append l;have j:(d++ds).length=ps.length:=by rw[<- i.length];exact F.len _ _ _ _ h
 refine lL<|hV (F.run X.A X.stack s H ⟨d,[]⟩ (d++ds) (g++nv) Q E n I.env0 (hb s d I.kIn j) i h) λr s' hq=>?_;cases r with
 |error e=>exact hx aa σ H s e s' I hq
 |ok fl=>
  cases fl with
  |ret u=>exact I.after hq
  |next=>exact False.elim hq
  |brk=>exact False.elim hq
  |cont=>exact False.elim hq
def ET(F:FnOk X.prog X.w X.K X.mg X.base CX k f fd ps sp)(j:Room k X.A)(l:Gl X x)(i:X.mg x=some (.ref f))(hk:PySem.W.keepIn X.K (.ref f)=true)(hb:Binds X.K fd ps ds)(g:Vals nv ds)(hx:Passes CX X E)
  (ha:PA X (e::es) t) (hdb:(x==("__debug__" : Str))=false:=by decide) (he:starEach (e::es) X.env=(false,eval e X.env)::starEach es X.env:=by rfl) (hpl:(backTo pos<|starEach es X.env).any (·.1)=false:=by rfl) :
  PE X (.Call (.Name x p) (e::es) [] pos) (RM sp nv E t):=by
 intro aa s σ H Q I h;refine bV<|G5 I l i ?_ hdb;refine kD (h₀:=X.base) I.ok.mod.kin hk (thn (ha pos aa s σ H _ I h) λu z n=>Cc n λy v d r q=>⟨d.kIn,?_⟩) he hpl;exact MB F j hb g hx d r q
structure FnScope(N P:oA Str)(sc:mF):Prop where
 kind:sc.kind=.function
 co:sc.isCoroutine=false
 gen:sc.isGenerator=false
 nd:N.Nodup
 pre:N.take P.length=P
 par:∀x∈P,sc.names.lookup x=some .local\/sc.names.lookup x=some .cell
 nofree:∀y∈sc.names,y.2≠.free
theorem Lr{kindOf:Str->oB mG}{x:Str}:∀{d:oA<|Str×lP} {m:Str->oB lP},(∀v,(x,v)∉d)->bindL kindOf d m x=m x
 |[],_,_=>rfl
 | (n,v)::r,m,h=>by
  unfold bindL;rw[Lr λw g=>h w<|aM _ g];split
  ·have:x≠n:=by rintro rfl;exact h v aV
   simp[this]
  ·rfl
theorem Lu{kindOf:Str->oB mG}{x:Str}:∀{d:oA<|Str×lP} {m:Str->oB lP},(∀v,(x,v)∉d)->bindC kindOf d m x=m x
 |[],_,_=>rfl
 | (n,v)::r,m,h=>by
  unfold bindC;rw[Lu λw g=>h w<|aM _ g];split
  ·rfl
  ·have:x≠n:=by rintro rfl;exact h v aV
   simp[this]
theorem Lv{kindOf:Str->oB mG}{x:Str}{v:lP}:∀{P:oA Str} {d:oA lP} {i:Nat} {m:Str->oB lP},P.Nodup->P[i]?=some x->d[i]?=some v->kindOf x=some .local ->
  bindL kindOf (P.zip d) m x=some v
 |[],_,_,_,_,h,_,_=>by simp at h
 |_::_,[],_,_,_,_,h,_=>by simp at h
 |p::P,w::d,0,m,nd,h1,h2,hk=>by simp at h1 h2;subst h1;subst h2;show bindL kindOf ((p,w)::P.zip d) m p=_;unfold bindL;rw[Lr λv hv=>(dL.mp nd).1 (jV hv).1,N_ hk];simp
 |p::P,w::d,i+1,m,nd,h1,h2,hk=>by show bindL kindOf ((p,w)::P.zip d) m x=_;unfold bindL;exact Lv (i:=i) (dL.mp nd).2 (by simpa using h1) (by simpa using h2) hk
theorem Lw{kindOf:Str->oB mG}{x:Str}{v:lP}:∀{P:oA Str} {d:oA lP} {i:Nat} {m:Str->oB lP},P.Nodup->P[i]?=some x->d[i]?=some v->kindOf x≠some .local ->
  bindC kindOf (P.zip d) m x=some v
 |[],_,_,_,_,h,_,_=>by simp at h
 |_::_,[],_,_,_,_,h,_=>by simp at h
 |p::P,w::d,0,m,nd,h1,h2,hk=>by simp at h1 h2;subst h1;subst h2;show bindC kindOf ((p,w)::P.zip d) m p=_;unfold bindC;rw[Lu λv hv=>(dL.mp nd).1 (jV hv).1,I_ hk];simp
 |p::P,w::d,i+1,m,nd,h1,h2,hk=>by show bindC kindOf ((p,w)::P.zip d) m x=_;unfold bindC;exact Lw (i:=i) (dL.mp nd).2 (by simpa using h1) (by simpa using h2) hk
def start(N:oA Str)(d:oA V):St:=d.map some++List.replicate (N.length-d.length) none
def Ld(CX:CXT)(P:lV)(w:lW)(K:lU)(mg:Str->oB lP)(base:lZ)(N:oA Str)(g:Str)(d:mF)(f:lT)(h:lP)(A:lY)(outer:oA Env)(s:lQ)(H:Hp)(E:XK):Cx where
 prog:=P
 w:=w
 K:=K
 mg:=mg
 base:=base
 A:=A.deeper (envOfC g d s.heap.objs.size f h)
 N:=N
 s₀:=s
 H₀:=H
 env:=envOfC g d s.heap.objs.size f h
 outer:=outer
 stack:=envOfC g d s.heap.objs.size f h::outer
 ex:=[]
 calm:=true
 fn:=λ_=>true
 pn:=[]
 xe:=λe s'=>qU P w (A.deeper<|envOfC g d s.heap.objs.size f h) («leaving» (envOfC g d s.heap.objs.size f h) e) (λ_ i=>CX outer H s E e i) (λj i=>CX outer H s E j i) s'
def Od{sc:mF}{n:Nat}{x:Str}(h:sc.names.lookup x=some .cell):∃c,(cellsFrom n sc.names []).lookup x=some c:=by have q:=PySem.W.cellsFrom_some sc.names n []<|.inl h;exact eU.mp q
def Vx{CX:CXT}{P:lV}{w:lW}{K:lU}{J:Str->oB lP}{base:lZ}{N ps:oA Str}{g:Str}{d:mF}{f:lT}{D:lP}{A:lY}{outer:oA Env}{s L:lQ}{H:Hp}{E:XK}{G:oA lP}{l:oA V}
  (S:FnScope N ps d) (Q:A.handled=none) (j:Env0 P w K J base A outer s H) (R:l.length=ps.length) (r:Vals l G)
  (x:InCallC s s.heap.objs.size (bindL (envOfC g d s.heap.objs.size f D).kindOf (ps.zip G) λ_=>none) (cellsFrom (s.heap.objs.size+1) d.names []) (bindC (envOfC g d s.heap.objs.size f D).kindOf (ps.zip G) λ_=>none) L) :
  Inv (Ld CX P w K J base N g d f D A outer s H E) [] (start N l) H L:=by
 have M:ps.length<=N.length:=by have:=bR List.length S.pre;rw[aY]at this;omega
 obtain⟨h1,W,rfl,hk⟩:=x.done;have I:∀b:lT,b∉(Ld CX P w K J base N g d f D A outer s H E).ex:=λb z=>absurd (show b∈([]:oA lT) from z) (by simp);refine⟨⟨j.mod,S.kind,rfl,rfl,G_ _,λy z c h1 h2=>?_,λy hy=>?_,λy c _ h=>?_,λ_=>Q,Around.frames_deeper j.frames,.inr ⟨rfl,rfl⟩,λb z=>absurd z<|I b,j.bs,j.bsz,λb _ _=>I b,λb z=>absurd z<|I b,j.funs,j.frf⟩,
  rfl,j.bare,Un.kept hk,⟨_,x.toInCall.ns,λi y v h1 h2 U=>?_⟩,λy c h=>⟨_,x.cell y c h⟩,j.hok.fresh<|G_ _,λy c h=>?_,λp hp=>absurd (show p∈([]:oA<|lT×l_) from hp)<|by simp,j.hok.kept hk,?_⟩
 ·exact name_of_addr x.apart (f_ h1)<|f_ h2
 ·have hy:d.names.lookup y=some .cell\/d.names.lookup y=some .free:=hy;rcases hy with hy|hy
  ·exact Od hy
  ·exact absurd rfl<|S.nofree _<|f_ hy
 ·exact cH<|x.above y c<|f_ h
 ·have F:i<l.length:=by
   unfold start at h2;by_cases F:i<l.length
   ·exact F
   ·rw[cW<|by simpa using F]at h2;rw[List.getElem?_replicate]at h2;split at h2<;>cases h2
  have ha:l[i]?=some v:=by
   unfold start at h2;rw[dP<|by simpa using F,M_]at h2;cases e:l[i]? with
   |none=>rw[e]at h2;cases h2
   |some a=>rw[e]at h2;cases h2;rfl
  obtain⟨u,hu,O⟩:=r.get ha;have hp:ps[i]?=some y:=by rw[<- S.pre,List.getElem?_take_of_lt<|by omega];exact h1
  have B:ps.Nodup:=by rw[<- S.pre];exact S.nd.sublist<|eD _ _
  refine⟨u,O,?_⟩;rcases S.par y (V_ hp) with k|k
  ·exact .inl ⟨k,Lv B hp hu k⟩
  ·obtain⟨c,e⟩:=Od (n:=s.heap.objs.size+1) k;refine .inr ⟨.inl k,c,e,?_⟩;have q:=x.cell y c e;rw[Lw B hp hu<|by show d.names.lookup y≠_;rw[k];decide]at q;exact q
 ·exact j.hok.fresh<|cH<|x.above y c<|f_ h
 ·unfold start;show _=N.length;rw[R_,C_,List.length_replicate];omega
def IQ{CX:CXT}{P:lV}{w:lW}{K:lU}{G:Str->oB lP}{base:lZ}{k:Nat}{f:lT}{name g:Str}{h:Arguments}{i:oA mC}{d:mF}{U kV Y pm z ct oc:lP}{Z od:oB lT}
  {f7:oC<|oB lP} {N ps:oA Str} {sp:Sp} (lk:K.lookup f=some ⟨oc,od,.func<|PySem.W.fnOf name g h i d U kV Y pm Z z ct,f7⟩) (ie:PySem.W.codeIn K z g=true) (S:FnScope N ps d)
  (len:∀j H Q E,sp j H Q E->j.length=ps.length)
  (ff:∀(A:lY) (outer:oA Env) (s:lQ) (H:Hp) (j:oA V) (Q:VK) (E:XK),Room k (A.deeper<|envOfC g d s.heap.objs.size f z)->sp j H Q E ->
   ∃t,PSs (Ld CX P w K G base N g d f z A outer s H E) i t/\t {nx:=λ_ H'=>Q .non H',rt:=Q} (start N j) H) :
  FnOk P w K G base CX (k+1) f (PySem.W.fnOf name g h i d U kV Y pm Z z ct) ps sp:=by
 refine⟨len,λA outer s H args us j Q E M D hb r gf=>?_⟩;have hl:=len _ _ _ _ gf;have KX:K.In s.heap:=D.mod.kin.keeps λb o e=>(D.bs b o e).1;have L:s.heap.NoLimit:=D.mod.nolimit.keeps λb o e=>(D.bs b o e).1;have vm:∀y∈ps.zip us,d.names.lookup y.1=some .local\/(d.names.lookup y.1=some .cell/\((cellsFrom (s.heap.objs.size+1) d.names []).lookup y.1).isSome=true):=λ⟨n,v⟩ hy=>by
  rcases S.par n (jV hy).1 with q|q
  ·exact .inl q
  ·exact .inr ⟨q,PySem.W.cellsFrom_some _ _ _<|.inl q⟩
 refine codeAny_call_function M.depth (KX _ _ lk) rfl S.co S.gen rfl (PySem.W.codeRec_of KX ie)<|hb _ _ _ _ ?_;refine wpAny_newFunctionEnv_cells S.kind vm λenv he R x=>?_;subst he;refine⟨L.keeps x.toInCall.keep,codeAny_func ?_⟩;obtain⟨t,ht,hq⟩:=ff A outer s H j Q E (M.deeper _) gf;have I:Inv (Ld CX P w K G base N g d f z A outer s H E) [] (start N j) H R:=Vx S M.hd D hl r x;refine bD (ht [] R (start N j) H _ I hq) (λfl s' B=>?_) λe s' B=>B;have F:∀{l:St} {H':Hp} {v:V} {u:lP},Inv (Ld CX P w K G base N g d f z A outer s H E) [] l H' s'->Ba v u->Q v H'->CE outer P w H s Q u s' :=
  λ{l H' v u} J O q=>⟨v,H',J.os,J.bare,J.base,J.hok,O,q⟩
 cases fl with
 |ret u=>obtain⟨v,l,H',J,O,q⟩:=B;exact F J O q
 |next=>obtain⟨l,H',J,q⟩:=B;exact F (v:=V.non) (u:=Value.none) J rfl q
 |brk=>obtain⟨_,_,_,q⟩:=B;exact False.elim q
 |cont=>obtain⟨_,_,_,q⟩:=B;exact False.elim q
def ZH(r:oA V->Hp->VK->Prop)(t:TA):TE:=λσ H Q=>t σ H λg d=>r g d Q
def Ye(hc:Ew X (.builtin id) r)(q:Gl X x)(j:X.mg x=none)(hv:bootBuiltins x=some (.builtin id))(ha:PA X (e::es) t)(hn:x ≠ "__name__" := by decide) (hdb:(x==("__debug__" : Str))=false:=by decide)
  (he:starEach (e::es) X.env=(false,eval e X.env)::starEach es X.env:=by rfl) (hpl:(backTo pos<|starEach es X.env).any (·.1)=false:=by rfl):PE X (.Call (.Name x p) (e::es) [] pos) (ZH r t):=by
 intro aa s σ H Q I h;refine bV<|Dy I q j hv ?_ hn hdb;exact gD (thn (ha pos aa s σ H _ I h) λi w d=>Cc d λn l v u g=>hc aa w σ l n i Q v u g) he hpl
def Vy(hc:Ew X (.type T) r)(q:Gl X x)(j:X.mg x=none)(hv:bootBuiltins x=some (.type T))(ha:PA X (e::es) t)(hn:x ≠ "__name__" := by decide) (hdb:(x==("__debug__" : Str))=false:=by decide)
  (he:starEach (e::es) X.env=(false,eval e X.env)::starEach es X.env:=by rfl) (hpl:(backTo pos<|starEach es X.env).any (·.1)=false:=by rfl):PE X (.Call (.Name x p) (e::es) [] pos) (ZH r t):=by
 intro aa s σ H Q I h;refine bV<|Dy I q j hv ?_ hn hdb;exact bQ (thn (ha pos aa s σ H _ I h) λi w d=>Cc d λn l v u g=>hc aa w σ l n i Q v u g) he hpl
end
end L2
namespace HT
open PySem PyProof.Rows
section
open PySem.SeqAt
open PySem.AutoSeq1 (wpAny_loadPart')
open PySem.MeetsSeq PySem.MeetsSeq2 PySem.MeetsSeq3
end
section
variable {prog:lV}{w:lW}{A:lY}{E:lP->lQ->Prop}{s:lQ}
def cat_tup{t b:lT}{c a:oA lP}{Q:lP->lQ->Prop}(q:IsTup s.heap t c.toArray)(hb:IsTup s.heap b a.toArray)(hv:c≠[])
  (h1:a=[]->Q (.ref t) s) (h2:a≠[]->Q (.ref s.heap.objs.size) {s with heap:=s.heap.push {cls:=.type "tuple",data:=.seq (c++a).toArray}})
  (hsz:c.length+a.length<=sizeLine):qU prog w A (binaryOp .Add (.ref t)<|.ref b) Q E s:=by
 obtain⟨⟨cls,dd,data,l⟩,i,hc,n,k⟩:=id q;obtain⟨⟨o,d,data2,f⟩,h,g,p,m⟩:=id hb;simp only at hc k g m;subst hc k g m;have e:c.toArray++a.toArray=(c++a).toArray:=by simp
 by_cases j:a=[]
 ·exact concat_meets ⟨_,i,rfl⟩ ⟨_,h,rfl⟩ lB seq_tuple_add iS iP (iG _ _)
   (tuple_addW1 t b c.toArray a.toArray n p dd d l f (by simpa using hv)<|by simp[j]) ⟨i,h,h1 j⟩
 ·refine concat_meets ⟨_,i,rfl⟩ ⟨_,h,rfl⟩ lB seq_tuple_add iS iP (iG _ _)
   (tuple_addW2 t b c.toArray a.toArray n p dd d l f (by simpa using hv) (by simpa using j)<|by rw[aA,aA];exact hsz) ⟨i,h,?_⟩
  rw[e];exact h2 j
def sIx(n d:Nat):oB Int->Nat
 |none=>d
 |some v=>if v<0 then(v+(n:Int)).toNat else min v.toNat n
def sIx_none(n d:Nat):sIx n d none=d:=rfl
def sIx_nat(n d k:Nat):sIx n d (some (k:Int))=min k n:=by show(if(k:Int)<0 then((k:Int)+(n:Int)).toNat else min (k:Int).toNat n)=min k n;rw[I_<|by omega,e_]
def MC(n d:Nat)(a:d<=n)(o:oB Int):sIx n d o<=n:=by
 cases o with
 |none=>exact a
 |some v=>
  show(if v<0 then(v+(n:Int)).toNat else min v.toNat n)<=n;by_cases hv:v<0
  ·rw[N_ hv];omega
  ·rw[I_ hv];exact lC _ _
def Te(v:Int)(n d:Nat):(if v<0 then max (v+(n:Int)) 0 else min v (n:Int))=((sIx n d (some v):Nat):Int):=by
 show(if v<0 then max (v+(n:Int)) 0 else min v (n:Int))=(((if v<0 then(v+(n:Int)).toNat else min v.toNat n):Nat):Int);by_cases hv:v<0
 ·simp only[if_pos hv];omega
 ·simp only[if_neg hv];omega
def Q4(lo a:oB Int)(n:Nat):Builtin.Slice.sliceAdjust lo a 1 (n:Int)=(((sIx n 0 lo:Nat):Int),((sIx n n a:Nat):Int)):=by
 have h1:¬((1:Int)<0):=by omega
 unfold Builtin.Slice.sliceAdjust;simp only[h1,if_false];refine lD ?_ ?_
 ·cases lo with
  |none=>rfl
  |some v=>exact Te v n 0
 ·cases a with
  |none=>rfl
  |some v=>exact Te v n n
def Q5(i j:Nat):Builtin.Slice.slicePlaces (i:Int) (j:Int) 1=j-i:=by
 unfold Builtin.Slice.slicePlaces;have h1:(1:Int)>0:=by omega
 simp only[h1,if_true,Int.ediv_one];split<;>omega
def Jo{v:lP}{o:oB Int}{Q:oB Int->lQ->Prop}(p:IsPart v o)(h:Q o s):qU prog w A (Builtin.Slice.slicePartIndex v) Q E s:=by
 cases p with
 |none=>exact slicePart_none h
 |int i t=>exact slicePart_int h
def Ey{f:lT}{e d:lP}{lo a:oB Int}{n:Nat}{Q:Int×Int×Nat->lQ->Prop}(hs:s.heap.IsSliceOf f e d .none)(pl:IsPart e lo)(g:IsPart d a)
  (h:Q (((sIx n 0 lo:Nat):Int),1,sIx n n a-sIx n 0 lo) s):qU prog w A (Builtin.Slice.sliceApplied (.ref f)<|pure (n:Int)) Q E s:=by
 obtain⟨os,c,i,b⟩:=id hs;unfold Builtin.Slice.sliceApplied Builtin.Slice.sliceFields;refine A_<|A_<|bL c b (x:=e) rfl<|A_<|bL c b (x:=d) rfl<|A_<|bL c b (x:=.none) rfl<|B_ ?_;refine A_<|slicePart_none ?_;show wpAny _ _ (if((1:Int)==0)=true then _ else _) _ _ s;rw[I_<|by decide];refine A_<|Jo pl<|A_<|Jo g<|A_<|B_ ?_;show wpAny _ _ (match Builtin.Slice.sliceAdjust lo a 1 (n:Int) with|(lo,a)=>pure (lo,(1:Int),Builtin.Slice.slicePlaces lo a 1)) _ _ s;rw[Q4 lo a n];show wpAny _ _ (pure (((sIx n 0 lo:Nat):Int),(1:Int),Builtin.Slice.slicePlaces ((sIx n 0 lo:Nat):Int) ((sIx n n a:Nat):Int) 1)) _ _ s;rw[Q5];exact B_ h
def Yf(xs:oC lP)(i k:Nat):((List.range k).filterMap λ(m:Nat)=>xs[((i:Int)+(m:Int)*1).toNat]?).toArray=((xs.toList.drop i).take k).toArray:=by
 have e:(λ(m:Nat)=>xs[((i:Int)+(m:Int)*1).toNat]?)=λm=>xs[i+m]?:=by
  funext m
  have:((i:Int)+(m:Int)*1).toNat=i+m:=by omega
  rw[this]
 rw[e];have:=pick_run xs i k;rw[List.filterMap_map]at this;have a:((λx=>xs[x]?) ∘ λx=>i+x)=λm=>xs[i+m]?:=rfl;rw[a]at this;rw[this]
def getItem_tuple_cut{t d:lT}{items:oC lP}{i g:lP}{lo a:oB Int}{Q:lP->lQ->Prop}(c:IsTup s.heap t items)(hs:s.heap.IsSliceOf d i g .none)(pl:IsPart i lo)(o:IsPart g a)
  (j:¬(sIx items.size 0 lo=0/\sIx items.size items.size a=items.size))
  (h:Q (.ref s.heap.objs.size) {s with heap:=s.heap.push {cls:=.type "tuple",data:=.seq ((items.toList.drop<|sIx items.size 0 lo).take<|sIx items.size items.size a-sIx items.size 0 lo).toArray}})
  (hsz:items.size<=sizeLine):qU prog w A (getItem (.ref t)<|.ref d) Q E s:=by
 have b:sizeOk (.seq ((items.toList.drop<|sIx items.size 0 lo).take<|sIx items.size items.size a-sIx items.size 0 lo).toArray):=by show((items.toList.drop<|sIx items.size 0 lo).take<|sIx items.size items.size a-sIx items.size 0 lo).toArray.size<=sizeLine;rw[aA,aY,gE,aF];omega
 have hj:sIx items.size items.size a<=items.size:=MC _ _ (G_ _) a;obtain⟨os,e,l,k⟩:=id hs;have f:s.TypeIs (.ref d) "slice" := ⟨os,e,l⟩;unfold getItem
 try with_reducible refine bB ?_
 first|refine A_ (B_ ?_)|skip
 refine A_ (wpAny_sequenceKey c.typeIs (by decide) ?_);refine A_<|bG (name:=Str.ofString "__getitem__") c.typeIs cU
  (aU cU c.typeIs entry_tuple_getitem ?_<|args_tuple_getitem _ _)
 show wpAny _ _ (Builtin.Tuple.tupleItemsOf (.ref t)>>=_) _ _ s;refine A_<|tupleItemsOf_ c ?_;refine A_<|fG f ?_;rw[N_<|by decide];refine A_<|Ey hs pl o ?_;have n:¬((((sIx items.size 0 lo:Nat):Int)==0&&(1:Int)==1&&(sIx items.size items.size a-sIx items.size 0 lo)==items.size)=true):=by intro q;rw[bH,bH]at q;have p:((sIx items.size 0 lo:Nat):Int)=0:=eq_of_beq q.1.1;have r:sIx items.size items.size a-sIx items.size 0 lo=items.size:=eq_of_beq q.2;exact j ⟨by omega,by omega⟩
 show wpAny _ _ (if(((sIx items.size 0 lo:Nat):Int)==0&&(1:Int)==1&&(sIx items.size items.size a-sIx items.size 0 lo)==items.size)=true then _ else _) _ _ s;rw[I_ n,Yf]
 first
  |exact A_ (m:=Builtin.Tuple.tupleExact _) (aC (B_ ⟨_,rfl,B_ h⟩) b)
  |exact A_ (m:=Builtin.Tuple.tupleExact _) (aC (A_<|B_<|B_ ⟨_,rfl,B_ h⟩) b)
  |exact A_ (A_ (m:=Builtin.Tuple.tupleExact _)<|aC (B_<|B_ ⟨_,rfl,B_ h⟩) b)
  |exact A_<|A_ (m:=Builtin.Tuple.tupleExact _)<|aC (B_ ⟨_,rfl,B_ h⟩) b
end
end HT
namespace L2
open PySem PySem.Spec PyProof.Rows
abbrev TO:=St->Hp->(oB Int->Hp->Prop)->Prop
def PO(X:Cx)(e:oB lX)(t:TO):Prop :=
 ∀(c:oA<|lT×l_) (s:lQ) (a:St) (H:Hp) (Q:oB Int->Hp->Prop),Inv X c a H s->t a H Q ->
  qU X.prog X.w X.A (evalPart e X.env) (λu d=>∃o b,Inv X c a b d/\IsPart u o/\Q o b) X.xe s
def EU:TO:=λ_ H Q=>Q none H
def RN(t:TE):TO:=λb H Q=>t b H λx a=>∃i,x=.int i/\Q (some i) a
section
variable {X:Cx}{e:lX}{te:TE}{lo hi:oB lX}{tl th:TO}{pos p2:Pos}{a b:lX}{ta tb:TE}{o:lX}{es:oA lX}{to:TE}{t:TA}{name:Str}{ap aj:Pos}{T id:String}{r:V->oA V->Hp->VK->Prop}
def EV:PO X none EU:=by intro d s c H Q I h;rw[evalPart_none];exact B_ ⟨none,H,I,.none,h⟩
def EW(h:PE X e te):PO X (some e) (RN te):=by intro d s k H Q I g;rw[evalPart_some];refine thn (h d s k H _ I g) λu n j=>Cc j λx f m l c=>?_;obtain⟨i,rfl,q⟩:=c;obtain⟨t,rfl⟩:=l;exact⟨some i,f,m,.int i t,q⟩
def RO(X:Cx)(r:V->oB Int->oB Int->Hp->VK->Prop):Prop :=
 ∀(g:oA<|lT×l_) (s:lQ) (d:St) (H:Hp) (x:V) (v h c:lP) (lo hi:oB Int) (f:lT) (Q:VK),Inv X g d H s->Ba x v->s.heap.IsSliceOf f h c .none->IsPart h lo->IsPart c hi->r x lo hi H Q ->
  ∃T id,typeLookup (.type T) "__getitem__" = pure (some<|.builtin id)/\s.TypeIs v T/\qU X.prog X.w X.A (getItem v<|.ref f) (EP X g d Q) X.xe s
def tSl(r:V->oB Int->oB Int->Hp->VK->Prop)(te:TE)(tl th:TO):TE:=λc H Q=>te c H λx g=>tl c g λl f=>th c f λu d=>r x l u d Q
def Yg{r:V->oB Int->oB Int->Hp->VK->Prop}(O:RO X r)(he:PE X e te)(k:PO X lo tl)(hu:PO X hi th):PE X (.Subscript e (.Slice lo hi none p2) pos) (tSl r te tl th):=by intro d s f H Q I h;refine Subscript_<|thn (he d s f H _ I h) λv F G=>Cc G λx N D R y=>?_;refine wpAny_Slice<|thn (k d F f N _ D y) λg m p=>Cc p λl B M E U=>thn (hu d m f B _ M U) λi c S=>Cc S λu j n W L=>?_;rw[evalPart_none];refine B_ ?_;have P:Inv X d f j {c with heap:=c.heap.push {cls:=.type "slice",data:=.fields #[g,i,.none]}}:=n.kept (t':=c.toks) λb Y q=>DD _ q;obtain⟨T,id,z,J,C⟩:=O d {c with heap:=c.heap.push {cls:=.type "slice",data:=.fields #[g,i,.none]}} f j x v g i l u c.heap.objs.size Q P R (Heap.IsSliceOf.new ..) E W L;show qU X.prog X.w X.A (subscriptTail e (.Slice lo hi none p2) v<|.ref c.heap.objs.size) (EP X d f Q) X.xe {c with heap:=c.heap.push {cls:=.type "slice",data:=.fields #[g,i,.none]}};exact tail_any (ops:=[.ref c.heap.objs.size,v]) J z C<|by with_unfolding_all rfl
def Le(xs:oA V)(lo hi:oB Int):oA V:=(xs.drop<|HT.sIx xs.length 0 lo).take<|HT.sIx xs.length xs.length hi-HT.sIx xs.length 0 lo
def Ii(xs:oA V)(lo hi:oB Int):(Le xs lo hi).length<=xs.length:=by unfold Le;rw[aY,gE];omega
def ZI(K:lU):V->oB Int->oB Int->Hp->VK->Prop:=λx lo hi H Q=>∃a c,x=.ref a/\Iz K H a c /\
 ¬(HT.sIx c.length 0 lo=0/\HT.sIx c.length c.length hi=c.length)/\∀p,H p=none->Q (.ref p) (upd H p<|.tup<|Le c lo hi)
def MD:RO X (ZI X.K):=by
 intro u s y H x v z n lo hi p Q I g j l m h;obtain⟨a,c,rfl,hx,i,q⟩:=h;cases g;obtain⟨k,r,f,hz⟩:=I.tuple hx;have d:k.toArray.size=c.length:=by rw[aA];exact r.length.symm
 refine⟨"tuple",_,cU.lookup,f.typeIs,?_⟩;refine HT.getItem_tuple_cut f j l m (by rw[d];exact i) ?_ (by rw[d];exact hz);rw[d];refine⟨.ref s.heap.objs.size,_,I.laid (t':=s.toks) (o:=.tup<|Le c lo hi) (λb w q=>DD _ q) (G_ _) ?_,rfl,q _<|I.hok.fresh<|G_ _⟩;exact⟨K_ (Ii c lo hi) hz,_,(r.drop<|HT.sIx c.length 0 lo).take<|HT.sIx c.length c.length hi-HT.sIx c.length 0 lo,IsTup.new _ _⟩
def Vals.nil_iff{xs:oA V}{c:oA lP}(r:Vals xs c):c=[]↔xs=[]:=by
 cases r with
 |nil=>simp
 |cons _ _=>simp
def EY(n:Nat)(i:Int):oB Nat:=if 0<=i then(if i<n then some i.toNat else none) else if -(n:Int)<=i then some (i+n).toNat else none
def atI{c:Type}(xs:oA c)(i:Int):oB c:=(EY xs.length i).bind λj=>xs[j]?
def EZ{n:Nat}{i:Int}{j:Nat}(h:EY n i=some j):seqIndex? i n=some j/\j<n/\-(n:Int)<=i/\i<n:=by
 unfold EY at h;by_cases c:0<=i
 ·rw[N_ c]at h;by_cases h1:i<n
  ·rw[N_ h1]at h;have e:i.toNat=j:=aX h;exact⟨by rw[seqIndex_of c h1,e],by omega,by omega,h1⟩
  ·rw[I_ h1]at h;cases h
 ·rw[I_ c]at h;by_cases h1:-(n:Int)<=i
  ·rw[N_ h1]at h;have e:(i+n).toNat=j:=aX h;exact⟨by rw[seqIndex_neg (by omega) h1,e],by omega,h1,by omega⟩
  ·rw[I_ h1]at h;cases h
def Mz{c:Type}{xs:oA c}{i:Int}{v:c}(h:atI xs i=some v):∃j,seqIndex? i xs.length=some j/\xs[j]?=some v/\j<xs.length/\-(xs.length:Int)<=i/\i<xs.length:=by
 unfold atI at h;cases e:EY xs.length i with
 |none=>rw[e]at h;cases h
 |some j=>rw[e]at h;obtain⟨h1,h2,f,d⟩:=EZ e;exact⟨j,h1,h,h2,f,d⟩
def A3{c:Type}{xs:oA c}{j:Nat}{v:c}(h:xs[j]?=some v):atI xs (j:Int)=some v:=by
 have hj:j<xs.length:=(F_.mp h).1;have e:EY xs.length (j:Int)=some j:=by unfold EY;rw[N_<|by omega,N_<|by omega];simp
 unfold atI;rw[e];exact h
def Tf(b:lX):Prop:=∀o i,subscripted b false o i=operate [o,i] (getItem o i)
def RP(X:Cx)(r:R2):Prop :=
 ∀(d c:lX) (g:oA<|lT×l_) (s:lQ) (f:St) (H:Hp) (x y:V) (v u:lP) (Q:VK),Inv X g f H s->Ba x v->Ba y u->r x y H Q ->
  subscripted c false v u=operate [v,u] (getItem v u)->qU X.prog X.w X.A (subscriptTail d c v u) (EP X g f Q) X.xe s
def IR(X:Cx)(id:String)(r:V->oA V->Hp->VK->Prop):Prop :=
 ∀(d:oA<|lT×l_) (s:lQ) (c:St) (H:Hp) (x:V) (xs:oA V) (v:lP) (f:oA lP) (Q:VK),Inv X d c H s->Ba x v->Vals xs f->r x xs H Q ->
  qU X.prog X.w X.A (call (.builtin id)<|v::f) (EP X d c Q) X.xe s
def RQ{r:R2}(j:RP X r)(ha:PE X a ta)(hb:PE X b tb)(hs:Tf b):PE X (.Subscript a b pos) (RD r ta tb):=by intro g s k H Q I h;exact Subscript_<|LL ha hb I h λv u d x y i c f l q=>j a b g d k i x y v u Q c f l q<|hs _ _
def ZJ(K:lU):R2:=λx y H Q=>∃p c i v,x=.ref p/\y=.int i/\Ff K H p c/\atI c i=some v/\Q v H
def ZK(K:lU):R2:=λx y H Q=>∃p c i v,x=.ref p/\y=.int i/\Iz K H p c/\atI c i=some v/\Q v H
def ZL:R2:=λx y H Q=>∃z i c,x=.str z/\y=.int i/\z.length<=sizeLine/\atI z.cps.toList i=some c/\Q (.str ⟨#[c]⟩) H
def Tg:RP X (ZJ X.K):=by
 intro g f k s n H x y v u Q I C E h m;obtain⟨p,O,i,z,rfl,rfl,hq,he,q⟩:=h;cases C;obtain⟨t,rfl⟩:=E;obtain⟨G,r,d,hz⟩:=I.list hq;obtain⟨j,h1,h2,N,D,J⟩:=Mz he;obtain⟨w,l,L⟩:=r.get h2;have B:=r.length;have M:=Jn;have c:EP X k n Q w s:=⟨z,H,I,L,q⟩;by_cases A:0<=i
 ·have hj:i.toNat=j:=by
   rw[seqIndex_of A J]at h1;exact aX h1
  exact item_listR d.isList A (by omega) (by rw[hj];simpa using l) c m
 ·have hj:(i+(G.toArray.size:Int)).toNat=j:=by
   rw[seqIndex_neg (by omega) D]at h1;rw[aA,<- B];exact aX h1
  exact subscriptTail_builtinR (x:=w) d.isList.typeIs slot_list_getitem.lookup
   (wpAny_getItem_list_neg (Q:=λr F=>r=w/\EP X k n Q r F) d.isList (by omega) (by rw[aA]<;>omega) (by omega) (by rw[hj];simpa using l) ⟨rfl,c⟩) m
def ME:RP X (ZK X.K):=by
 intro f d g s l H x y v u Q I n E h C;obtain⟨p,N,i,z,rfl,rfl,hq,he,q⟩:=h;cases n;obtain⟨t,rfl⟩:=E;obtain⟨J,r,k,hz⟩:=I.tuple hq;obtain⟨j,h1,h2,L,F,M⟩:=Mz he;obtain⟨w,A,D⟩:=r.get h2;have m:=r.length;have G:=Jn;have c:EP X g l Q w s:=⟨z,H,I,D,q⟩;exact subscriptTail_builtinR (x:=w) k.typeIs slot_tuple_getitem.lookup
  (getItem_tuple (j:=j) (Q:=λr B=>r=w/\EP X g l Q r B) k (by omega) (by omega) (by rw[aA,<- m];exact h1) (by simpa using A) ⟨rfl,c⟩) C
def MF:RP X ZL:=by
 intro f d B s D H x y v u Q I m A h w;obtain⟨z,i,c,rfl,rfl,hz,he,q⟩:=h;obtain⟨t,rfl⟩:=m;obtain⟨C,rfl⟩:=A;obtain⟨j,h1,h2,F,p,k⟩:=Mz he;have g:z.cps.toList.length=z.length:=by simp[Str.length]
 rw[g]at h1 p k;have E:=Jn;exact tail_any (typeIs_str s z t) slot_str_getitem.lookup (getItem_str (c:=c) (by
  have n:decide (i < -(2^63:Int))=false:=aS (by omega);have l:decide (i>=2^63)=false:=aS (by omega);rw[n,l,Bool.or_false]) (by rw[h1];simpa using h2) ⟨.str ⟨#[c]⟩,H,I.tok _,⟨_,rfl⟩,q⟩) w
def M3(lo hi:oB Int)(n:Nat):(sliceBounds lo hi none n).1=((HT.sIx n 0 lo:Nat):Int)/\(sliceBounds lo hi none n).2.1=((HT.sIx n n hi:Nat):Int)/\(sliceBounds lo hi none n).2.2=1:=by
 refine⟨?_,?_,rfl⟩
 ·cases lo with
  |none=>simp[sliceBounds,HT.sIx]
  |some i=>
   simp only[sliceBounds,HT.sIx,Option.getD_none,show(1:Int)>0 by decide,if_true];by_cases h:i<0
   ·simp only[h,if_true]<;>omega
   ·simp only[h,if_false]<;>omega
 ·cases hi with
  |none=>simp[sliceBounds,HT.sIx]
  |some i=>
   simp only[sliceBounds,HT.sIx,Option.getD_none,show(1:Int)>0 by decide,if_true];by_cases h:i<0
   ·simp only[h,if_true]<;>omega
   ·simp only[h,if_false]<;>omega
def Lf(c:oA lP)(lo hi:oB Int):slicePick c.toArray lo hi none=((c.drop<|HT.sIx c.length 0 lo).take<|HT.sIx c.length c.length hi-HT.sIx c.length 0 lo).toArray:=by obtain⟨h1,h2,d⟩:=M3 lo hi c.toArray.size;unfold slicePick;rw[h1,h2,d];simp only[sliceRange_one,pick_run,List.size_toArray]<;>rfl
def ZM(K:lU):V->oB Int->oB Int->Hp->VK->Prop:=λx lo hi H Q=>∃a c,x=.ref a/\Ff K H a c/\∀p,H p=none->Q (.ref p) (upd H p<|.lst<|Le c lo hi)
def FA:RO X (ZM X.K):=by intro n s w H x v y l lo hi m Q I f g j k h;obtain⟨a,c,rfl,hx,q⟩:=h;cases f;obtain⟨u,r,d,hz⟩:=I.list hx;have i:=r.length;refine⟨"list",_,slot_list_getitem.lookup,d.isList.typeIs,?_⟩;refine wpAny_getItem_list_slice d.isList g j k .none (by simp) ?_ (by rw[aA]<;>omega);rw[Lf,<- i];refine⟨.ref s.heap.objs.size,_,I.laid (t':=s.toks) (o:=.lst<|Le c lo hi) (λb p q=>DD _ q) (G_ _) ?_,rfl,q _<|I.hok.fresh<|G_ _⟩;exact⟨K_ (Ii c lo hi) hz,_,0,(r.drop<|HT.sIx c.length 0 lo).take<|HT.sIx c.length c.length hi-HT.sIx c.length 0 lo,H_ _ rfl⟩
def M4:Gv X (compareOp .NotIn) (λx y H Q=>∃i j,x=.str i/\y=.str j/\Q (.bl<|!(!(Builtin.Str.occurrences j i 0 j.length 1).isEmpty)) H):=by intro f s k H x y v u Q I c d h;obtain⟨i,j,rfl,rfl,q⟩:=h;obtain⟨t,rfl⟩:=c;obtain⟨g,rfl⟩:=d;exact notIn_str ⟨.bl _,H,I,rfl,q⟩
def Fh:Ew X (.builtin "len") (λi H Q=>∃p c,i=[.ref p]/\(Ff X.K H p c\/Iz X.K H p c)/\Q (.int c.length) H):=by
 intro l s n H i m Q I r h;obtain⟨p,c,rfl,hq,q⟩:=h;obtain⟨u,rfl,j⟩:=Ex r;cases j;have v:=Jn;rcases hq with hq|hq
 ·obtain⟨k,d,g,hz⟩:=I.list hq;have f:=d.length;exact Calls.call_len_list g.isList (by simp only[List.size_toArray]<;>omega) ⟨.int c.length,H,I.tok _,⟨s.toks+1,by rw[aA,f]⟩,q⟩
 ·obtain⟨k,d,g,hz⟩:=I.tuple hq;have f:=d.length;exact len_tuple g (by simp only[List.size_toArray]<;>omega) ⟨.int c.length,H,I.tok _,⟨s.toks+1,by rw[aA,f]⟩,q⟩
def M5:Ew X (.builtin "len") (λc H Q=>∃z,c=[.str z]/\z.length<=sizeLine/\Q (.int z.length) H):=by intro d s g H c f Q I r h;obtain⟨z,rfl,hz,q⟩:=h;obtain⟨u,rfl,t,rfl⟩:=Ex r;have i:=Jn;exact len_str (by omega) ⟨.int z.length,H,I.tok _,⟨_,rfl⟩,q⟩
def Gn:Ew X (.type "tuple") (λk H Q=>∃p c,k=[.ref p]/\((Ff X.K H p c/\∀l,H l=none->Q (.ref l) (upd H l<|.tup c))\/(Iz X.K H p c/\Q (.ref p) H))):=by
 intro j s m H k z Q I r h;obtain⟨p,c,rfl,h⟩:=h;obtain⟨u,rfl,x⟩:=Ex r;cases x;rcases h with⟨hq,q⟩|⟨hq,q⟩
 ·obtain⟨i,f,g,hz⟩:=I.list hq;have A:=f.length;refine call_tuple_list g.isList (λd y=>?_) (by simp only[List.size_toArray]<;>omega);have n:Inv X j m H {s with heap:=d}:=I.kept (t':=s.toks) y;have v:Inv X j m (upd H d.objs.size<|.tup c) {s with heap:=d.push {cls:=.type "tuple",data:=.seq i.toArray}} :=
   n.laid (t':=s.toks) (λb o e=>DD _ e) (G_ _) (show Bg X.prog X.w _ _ _ (.tup c) from⟨hz,i,f,IsTup.new _ _⟩)
  exact⟨.ref d.objs.size,_,v,rfl,q _<|n.hok.fresh<|G_ _⟩
 ·obtain⟨i,f,g,hz⟩:=I.tuple hq;exact call_tuple_same g ⟨.ref p,H,I,rfl,q⟩
def YB(K:lU)(T:String)(x:V)(H:Hp):Prop:=match x with
 |.str _=>T = "str"
 |.int _=>T = "int"
 |.ref p=>(T = "list" /\ ∃d,Ff K H p d)\/(T = "tuple" /\ ∃o,K.lookup p=some o/\o.cls=.type "tuple" /\ o.dict=none) \/
   (T = "dict" /\ ((∃c,H p=some (.dK c))\/∃c,H p=some (.dT c)))\/(T = "set" /\ ∃S n,H p=some (.set S n))
 |_=>False
def Yh{l:oA<|lT×l_}{m:St}{H:Hp}{s:lQ}{T:String}{x:V}{v:lP}(I:Inv X l m H s)(r:Ba x v)(ty:YB X.K T x H) :
  s.TypeIs v T/\∀a,v=.ref a->∃j,s.heap.get? a=some j/\j.dict=none:=by
 cases x with
 |str z=>obtain⟨t,rfl⟩:=r;cases (show T = "str" from ty);exact⟨typeIs_str s z t,λ_ e=>nomatch e⟩
 |int i=>obtain⟨t,rfl⟩:=r;cases (show T = "int" from ty);exact⟨typeIs_int s i t,λ_ e=>nomatch e⟩
 |ref p=>
  cases r;rcases ty with⟨rfl,q,hq⟩|⟨rfl,o,hk,hc,g⟩|⟨rfl,hk⟩|⟨rfl,S,n,hk⟩
  ·obtain⟨u,_,k,_⟩:=I.list hq;refine⟨k.isList.typeIs,λa e=>?_⟩;cases e;obtain⟨o,n,e,c,g,_⟩:=k;exact⟨o,e,g⟩
  ·refine⟨⟨o,I.kIn p o hk,hc⟩,λa e=>?_⟩;cases e;exact⟨o,I.kIn _ o hk,g⟩
  ·have z:∃o,s.heap.get? p=some o/\o.ExactDict:=by
    rcases hk with⟨h,hk⟩|⟨h,hk⟩
    ·obtain⟨_,_,_,_,o,_,_,e,d,_⟩:=I.hok p _ hk;exact⟨o,e,d⟩
    ·obtain⟨_,_,_,_,o,_,_,e,d,_⟩:=I.hok p _ hk;exact⟨o,e,d⟩
   obtain⟨o,e,d⟩:=z;refine⟨⟨o,e,d.1⟩,λa f=>?_⟩;cases f;exact⟨o,e,d.2.1⟩
  ·obtain⟨o,_,_,_,e,d,_⟩:=I.hok p _ hk;refine⟨⟨o,e,d.1⟩,λa f=>?_⟩;cases f;exact⟨o,e,d.2.1⟩
 |_=>exact False.elim ty
def MG(K:lU)(T:String)(r:V->oA V->Hp->VK->Prop)(to:TE):TE:=λd H Q=>to d H λx c=>YB K T x c/\r x [] c Q
def tBM(K:lU)(T:String)(r:V->oA V->Hp->VK->Prop)(to:TE)(t:TA):TE:=λc H Q=>to c H λx d=>YB K T x d/\t c d λf g=>r x f g Q
def M6(w:PlainAttrs T)(slot:Slot T name id)(l:typeOf (.builtin id)=pure (.type "method_descriptor")) (k:IR X id r) (i:PE X o to)
  (u:attributeBase o name X.env (eval o X.env)=eval o X.env:=by rfl) (p:(ap.endLine==aj.line)=true:=by rfl):PE X (.Call (.Attribute o name ap) [] [] aj) (MG X.K T r to):=by
 intro c s d H Q I h;refine wpAny_Call_method0_late u p<|thn (i c s d H _ I h) λv q m=>?_;obtain⟨x,n,g,f,ty,j⟩:=m;obtain⟨h1,h2⟩:=Yh g f ty;exact⟨T,id,w,slot,l,h1,h2,gO rfl<|PySem.evalArgs_none<|k c q d n x [] v [] Q g f .nil j⟩
def IS(J:PlainAttrs T)(slot:Slot T name id)(p:typeOf (.builtin id)=pure (.type "method_descriptor")) (E:IR X id r) (l:PE X o to) (ha:PA X (e::es) t) (G:attributeBase o name X.env (eval o X.env)=eval o X.env:=by rfl)
  (k:((backTo aj<|starEach (e::es) X.env).all (λx=>!x.1)&&(backToKw aj<|keywordEach [] X.env).all (λx=>x.1.isSome)
   && decide ((e::es).length+([]:oA Keyword).length+(if([]:oA Keyword).isEmpty then 0 else 1)<30))=true:=by rfl)
  (w:(ap.endLine==aj.line)=true:=by rfl) (hs:starEach (e::es) X.env=(false,eval e X.env)::starEach es X.env:=by rfl) (q:(backTo aj<|starEach es X.env).any (·.1)=false:=by rfl) :
  PE X (.Call (.Attribute o name ap) (e::es) [] aj) (tBM X.K T r to t):=by
 intro c s d H Q I h;refine wpAny_Call_method_late G k w rfl<|thn (l c s d H _ I h) λv A y=>?_;obtain⟨x,F,g,i,ty,m⟩:=y;obtain⟨h1,h2⟩:=Yh g i ty;refine⟨T,id,J,slot,p,h1,h2,?_⟩;have f:=ha aj c A d F _ g m;rw[hs]at f ⊢;refine gO (by show(false||(backTo aj<|starEach es X.env).any (·.1))=false;rw[q]<;>rfl)<|jQ ?_;exact thn f λD j z=>Cc z λu n C B L=>E c j d n x u v D Q C i B L
end
def ZN(X:Cx)(id:String)(r:V->oA V->Hp->VK->Prop):Prop :=
 ∀(b:oA<|lT×l_) (s:lQ) (a:St) (H:Hp) (x:V) (xs:oA V) (v:lP) (c:oA lP) (Q:VK),Inv X b a H s->Ba x v->Vals xs c->r x xs H Q ->
  qU X.prog X.w X.A (call (.builtin id)<|v::c) (EP X b a Q) X.xe s
def Vals.one:∀{x:V} {a:oA lP},Vals [x] a->∃u,a=[u]/\Ba x u
 |_,_,.cons r .nil=>⟨_,rfl,r⟩
def Vals.zero:∀{a:oA lP},Vals [] a->a=[]
 |_,.nil=>rfl
theorem Vals.dropLast{xs:oA V}{a:oA lP}(h:Vals xs a):Vals xs.dropLast a.dropLast:=by
 induction h with
 |nil=>exact .nil
 |cons r t b=>
  cases t with
  |nil=>exact .nil
  |cons q c=>exact .cons r b
theorem Vals.reverse{xs:oA V}{a:oA lP}(h:Vals xs a):Vals xs.reverse a.reverse:=by
 induction h with
 |nil=>exact .nil
 |cons r t b=>rw[iT,iT];exact Vals.append b<|.cons r .nil
def Q6{d:Type}(l:oA d):l.eraseIdx (l.length-1)=l.dropLast:=by
 induction l with
 |nil=>rfl
 |cons a r c=>
  cases r with
  |nil=>rfl
  |cons b r=>
   have e:(a::b::r).length-1=((b::r).length-1)+1:=by have h1:(a::b::r).length=r.length+2:=rfl;have h2:(b::r).length=r.length+1:=rfl;omega
   rw[e,List.eraseIdx_cons_succ,c]
   all_goals rfl
section
variable {X:Cx}{aa:oA<|lT×l_}{σ:St}{H:Hp}{s:lQ}{l b:lT}{xs ys zs:oA V}
def Inv.lset{a its':oA lP}{n:Nat}{f:oC lP->oC lP}{t':Nat}(I:Inv X aa σ H s)(c:H l=some (.lst xs))
  (e:s.heap.get? l=some {cls:=.type "list",data:=.seq a.toArray n}) (d:f a.toArray=its'.toArray) (hv:Vals ys its') (hz:ys.length<=sizeLine) :
  Inv X aa σ (upd H l<|.lst ys) {s with heap:=s.heap.update l<|Obj.mapSeq f,toks:=t'}:=by
 have q:=PySem.IsL.update e f;rw[d]at q;refine I.write (x:=l) (e:=l) (by rw[c];exact trivial) (.inl rfl) (λg u hb hu=>(bC s.heap (Obj.mapSeq f)<|dI hb).trans hu) ⟨_,q⟩ ?_;exact⟨hz,its',_,hv,q⟩
def Inv.lnew{a:oA lP}{t':Nat}(I:Inv X aa σ H s)(hv:Vals ys a)(hz:ys.length<=sizeLine) :
  Inv X aa σ (upd H s.heap.objs.size<|.lst ys) {s with heap:=s.heap.push {cls:=.type "list",data:=.seq a.toArray},toks:=t'} :=
 I.laid (λ_ _ q=>DD _ q) (G_ _) ⟨hz,a,0,hv,H_ _ rfl⟩
def Inv.fresh(I:Inv X aa σ H s):H s.heap.objs.size=none:=I.hok.fresh<|G_ _
def Inv.lstM(I:Inv X aa σ H s)(c:H l=some (.lst xs)):xs.length<=sizeLine/\∃(a:oA lP) (n:Nat),Vals xs a/\xs.length=a.length/\s.heap.get? l=some {cls:=.type "list",data:=.seq a.toArray n}:=by obtain⟨z,a,n,r,e⟩:=I.hok l _ c;exact⟨z,a,n,r,r.length,e⟩
def Yi{n:Nat}(h:n<=sizeLine):Builtin.List.listTooLong n=false:=by unfold Builtin.List.listTooLong;exact aS<|by omega
def FB:V->oA V->Hp->VK->Prop:=λx a H Q=>∃l xs y,x=.ref l/\a=[y]/\H l=some (.lst xs)/\xs.length<sizeLine/\Q .non (upd H l<|.lst<|xs++[y])
def Lx:ZN X "list.append" FB:=by intro aa s σ H x k v j Q I d f h;obtain⟨l,xs,y,rfl,rfl,a,hz,q⟩:=h;cases d;obtain⟨u,rfl,g⟩:=f.one;obtain⟨z,c,n,r,i,e⟩:=I.lstM a;refine call_meets F.slot_list_append ⟨_,e,rfl⟩ F.entry_list_append (F.args_list_append_2 _ _) (PySem.list_append l c.toArray n u<|by rw[aA];omega) ⟨e,?_⟩;refine⟨.non,_,I.lset (its':=c++[u]) a e (by simp) (r.append<|.cons g .nil) ?_,rfl,q⟩;rw[R_,jD];omega
def FC:V->oA V->Hp->VK->Prop:=λx a H Q=>∃l b xs zs,x=.ref l/\a=[.ref b]/\H l=some (.lst xs)/\H b=some (.lst zs)/\xs.length+zs.length<=sizeLine/\Q .non (upd H l<|.lst<|xs++zs)
def Vz:ZN X "list.extend" FC:=by
 intro aa s σ H x y v B Q I g o h;obtain⟨l,b,xs,zs,rfl,rfl,f,i,hz,q⟩:=h;cases g;obtain⟨u,rfl,t⟩:=o.one;cases t;obtain⟨z,c,n,r,w,e⟩:=I.lstM f;obtain⟨A,a,j,k,C,m⟩:=I.lstM i;have d:c.toArray.size+a.toArray.size<=sizeLine:=by rw[aA,aA];omega
 have p:¬(!c.toArray.isEmpty&&Builtin.List.listTooLong (c.toArray.size+a.toArray.size))=true:=by rw[Yi d,Bool.and_false];exact Q_
 refine call_meets F.slot_list_extend ⟨_,e,rfl⟩ F.entry_list_extend (F.args_list_extend_2 _ _) (AutoSeq1.list_extend_list_list_0 l c.toArray n b a.toArray j p (by rw[aA];omega)<|by omega) ⟨e,m,?_⟩
 refine⟨.non,_,I.lset (its':=c++a) f e (by simp) (r.append k) ?_,rfl,q⟩;rw[R_];omega
def ZO:V->oA V->Hp->VK->Prop:=λx a H Q=>∃l xs y,x=.ref l/\a=[]/\H l=some (.lst xs)/\xs[xs.length-1]?=some y/\Q y (upd H l<|.lst xs.dropLast)
def MH:ZN X "list.pop" ZO:=by
 intro aa s σ H x o v m Q I g i h;obtain⟨l,xs,y,rfl,rfl,d,hy,q⟩:=h;cases g;have k:=i.zero;subst k;obtain⟨z,a,n,r,f,e⟩:=I.lstM d;obtain⟨u,hu,j⟩:=r.get hy;have c:a.toArray[a.toArray.size-1]?=some u:=by show a.toArray[a.length-1]?=some u;rw[<- Z_,<- f];exact hu
 refine call_meets F.slot_list_pop ⟨_,e,rfl⟩ F.entry_list_pop (F.args_list_pop_1 _) (MeetsSeq.list_pop_last l a.toArray n u c<|by rw[aA];omega) ⟨e,?_⟩;refine⟨y,_,I.lset (its':=a.dropLast) d e ?_ r.dropLast ?_,j,q⟩
 ·show a.toArray.eraseIdxIfInBounds (a.toArray.size-1)=a.dropLast.toArray;rw[aA,List.eraseIdxIfInBounds_toArray,Q6]
 ·rw[List.length_dropLast];omega
def ZP:R2:=λx y H Q=>∃l b xs zs,x=.ref l/\y=.ref b/\H l=some (.lst xs)/\H b=some (.lst zs)/\xs.length+zs.length<=sizeLine/\∀p,H p=none->Q (.ref p) (upd H p<|.lst<|xs++zs)
def MJ:Gv X (binaryOp .Add) ZP:=by
 intro aa s σ H x y v u Q I f k h;obtain⟨l,b,xs,zs,rfl,rfl,i,j,hz,q⟩:=h;cases f;cases k;obtain⟨z,c,n,r,o,e⟩:=I.lstM i;obtain⟨p,a,w,d,t,g⟩:=I.lstM j;refine PySem.P.add_list e g ?_ (by rw[aA,aA];omega);have m:c.toArray++a.toArray=(c++a).toArray:=by simp
 rw[m];exact⟨.ref _,_,I.lnew (t':=s.toks) (r.append d)<|by rw[R_];omega,rfl,q _ I.fresh⟩
end
section
variable {κ:Type} [DecidableEq κ]
def Ep(kvs:oA<|κ×V)(k:κ):oB V:=(kvs.find? λa=>decide (a.1=k)).map (·.2)
def putK(kvs:oA<|κ×V)(k:κ)(v:V):oA (κ×V) :=
 if(kvs.any λa=>decide (a.1=k))=true then kvs.map (λa=>if a.1=k then(a.1,v) else a) else kvs++[(k,v)]
def Jp{p:κ×V}{r:oA<|κ×V}{k:κ}(e:p.1=k):Ep (p::r) k=some p.2:=by simp[Ep,List.find?_cons,e]
def Jq{p:κ×V}{r:oA<|κ×V}{k:κ}(e:¬p.1=k):Ep (p::r) k=Ep r k:=by simp[Ep,List.find?_cons,e]
theorem Oe(k:κ):∀a:oA<|κ×V,(a.any λb=>decide (b.1=k))=(Ep a k).isSome
 |[]=>rfl
 |p::r=>by
  rw[dX];by_cases e:p.1=k
  ·simp only[Jp e,decide_eq_true e,Bool.true_or,Option.isSome_some]
  ·rw[Jq e,aS e,kX];exact Oe k r
def Eg(kvs:oA<|κ×V)(k:κ)(v:V):(putK kvs k v).length<=kvs.length+1:=by
 unfold putK;split
 ·rw[C_];omega
 ·rw[R_,aR,jW];omega
def Gj.isSome_eq{o:oB V}{u:oB lP}(r:Gj o u):o.isSome=u.isSome:=by
 cases o with
 |none=>cases u with
  |none=>rfl
  |some _=>exact(show False from r).elim
 |some _=>cases u with
  |none=>exact(show False from r).elim
  |some _=>rfl
theorem Gj.getD{o:oB V}{u:oB lP}{d:V}{d':lP}(r:Gj o u)(a:Ba d d'):Ba (o.getD d) (u.getD d'):=by
 cases o with
 |none=>cases u with
  |none=>exact a
  |some _=>exact(show False from r).elim
 |some _=>cases u with
  |none=>exact(show False from r).elim
  |some _=>exact r
def KV.val{kvs:oA<|κ×V}{d:oA<|κ×lP}(r:KV kvs d)(k:κ):Gj (Ep kvs k) (valueAt d k):=by
 unfold KV at r
 induction r with
 |nil=>exact True.intro
 |@cons p q g a h t f=>
  obtain⟨h1,h2⟩:=h;by_cases e:p.1=k
  ·have c:q.1=k:=h1.symm.trans e;have b:valueAt (q::a) k=some q.2:=by simp[valueAt,List.find?_cons,c]
   rw[Jp e,b];exact h2
  ·have c:¬q.1=k:=λz=>e<|h1.trans z;have b:valueAt (q::a) k=valueAt a k:=by simp[valueAt,List.find?_cons,c]
   rw[Jq e,b];exact f
theorem KV.any{kvs:oA<|κ×V}{b:oA<|κ×lP}(r:KV kvs b)(k:κ):(kvs.any λa=>decide (a.1=k))=b.any λa=>decide (a.1=k):=by
 unfold KV at r
 induction r with
 |nil=>rfl
 |cons h t c=>rw[dX,dX,c,h.1]
def KV.repl{kvs:oA<|κ×V}{b:oA<|κ×lP}(r:KV kvs b)(k:κ){y:V}{u:lP}(d:Ba y u) :
  KV (kvs.map λa=>if a.1=k then(a.1,y) else a) (b.map λa=>if a.1=k then(a.1,u) else a):=by
 unfold KV at r ⊢
 induction r with
 |nil=>exact .nil
 |@cons p q g f h t c=>
  rw[aP,aP];refine .cons ?_ c;obtain⟨h1,h2⟩:=h;by_cases e:p.1=k
  ·rw[N_ e,N_<|h1.symm.trans e];exact⟨h1,d⟩
  ·rw[I_ e,I_ λz=>e<|h1.trans z];exact⟨h1,h2⟩
def KV.put{kvs:oA<|κ×V}{a:oA<|κ×lP}(r:KV kvs a)(k:κ){y:V}{u:lP}(b:Ba y u):KV (putK kvs k y) (stored a k u):=by
 unfold putK stored;rw[r.any k];by_cases e:(a.any λc=>decide (c.1=k))=true
 ·rw[N_ e,N_ e];exact r.repl k b
 ·rw[I_ e,I_ e];exact kQ r ⟨rfl,b⟩
def KV.length{kvs:oA<|κ×V}{a:oA<|κ×lP}(r:KV kvs a):kvs.length=a.length:=bM r
end
def Jr{P:lV}{w:lW}{k:Key}{u:lP}(r:Ba (kV k) u):(Az P w).is k u=true:=by
 cases k with
 |inl i=>obtain⟨t,e⟩:=(show ∃t,u=Value.int i t from r);subst e;exact Cl P w i t
 |inr x=>obtain⟨t,e⟩:=(show ∃t,u=Value.str x t from r);subst e;exact Fs P w x t
theorem Ly{P:lV}{w:lW}:∀{ks:oA Key} {a:oA lP},Vals (ks.map kV) a->ItemsAre (Az P w) ks a
 |[],_,r=>by rw[List.map_nil]at r;cases r;exact .nil
 |k::ks,_,r=>by
  rw[aP]at r;cases r with
  |cons h t=>exact .cons (Jr h)<|Ly t
abbrev KT(H:Hp):oA (oA Key×V)->oA (oA Key×lT×lP)->Prop:=Paired λp q=>p.1=q.1/\H q.2.1=some (.tup<|p.1.map kV)/\Ba p.2 q.2.2
def KT.val{H:Hp}{kvs:oA<|oA Key×V}{xs:oA<|oA Key×lT×lP}(r:KT H kvs xs)(k:oA Key):Gj (Ep kvs k) ((atKey xs k).map (·.2)):=by
 induction r with
 |nil=>exact True.intro
 |@cons p q f a h t d=>
  obtain⟨h1,_,h2⟩:=h;by_cases e:p.1=k
  ·have c:q.1=k:=h1.symm.trans e;have b:atKey (q::a) k=some q.2:=by simp[atKey,List.find?_cons,c]
   rw[Jp e,b];exact h2
  ·have c:¬q.1=k:=λz=>e<|h1.trans z;have b:atKey (q::a) k=atKey a k:=by simp[atKey,List.find?_cons,c]
   rw[Jq e,b];exact d
def KT.repl{H:Hp}{kvs:oA<|oA Key×V}{xs:oA<|oA Key×lT×lP}(r:KT H kvs xs)(k:oA Key){y:V}{u:lP}(c:Ba y u) :
  KT H (kvs.map λa=>if a.1=k then(a.1,y) else a) (xs.map<|putAt k u):=by
 induction r with
 |nil=>exact .nil
 |@cons p q g f h t b=>
  rw[aP,aP];refine .cons ?_ b;obtain⟨h1,h2,d⟩:=h;unfold putAt;by_cases e:p.1=k
  ·rw[N_ e,N_<|h1.symm.trans e];exact⟨h1,h2,c⟩
  ·rw[I_ e,I_ λz=>e<|h1.trans z];exact⟨h1,h2,d⟩
def KT.put{H:Hp}{kvs:oA<|oA Key×V}{xs:oA<|oA Key×lT×lP}(r:KT H kvs xs)(k:oA Key){b:lT}{y:V}{u:lP}(hb:H b=some (.tup<|k.map kV))(a:Ba y u) :
  KT H (putK kvs k y) (storedH xs k b u):=by
 have e:(kvs.any λc=>decide (c.1=k))=(atKey xs k).isSome:=by rw[Oe,(r.val k).isSome_eq,gY]
 unfold putK storedH;rw[e];by_cases q:(atKey xs k).isSome=true
 ·rw[N_ q,N_ q];exact r.repl k a
 ·rw[I_ q,I_ q];exact kQ r ⟨rfl,hb,a⟩
def KT.keeps{H H':Hp}{kvs:oA<|oA Key×V}{xs:oA<|oA Key×lT×lP}(r:KT H kvs xs)(c:∀b a,H b=some (.tup a)->H' b=some (.tup a)):KT H' kvs xs :=
 Paired.mapP r λ_ _ z=>⟨z.1,c _ _ z.2.1,z.2.2⟩
section
variable {P:lV}{w:lW}{H:Hp}{h:lZ}{a:lT}{X:Cx}{aa:oA<|lT×l_}{σ:St}{s:lQ}{y v:V}{u r:lP}{o:oB V}{A:lY}{E:lP->lQ->Prop}
def IT{u:HO}(ok:HOk P w H h)(e:Rd H a u):Bg P w H h a u:=e.ok ok
def Ij{kvs:oA<|Key×V}(ok:HOk P w H h)(e:Rd H a<|.dK kvs):kvs.length<=sizeLine/\(a==sysModules)=false/\∃b,KV kvs b/\h.DictOf (Az P w) a b :=
 show Bg P w H h a (.dK kvs) from IT ok e
def IU{kvs:oA<|Key×V}(ok:HOk P w H h)(e:H a=some (.dK kvs)):kvs.length<=sizeLine/\(a==sysModules)=false/\∃b,KV kvs b/\h.DictOf (Az P w) a b:=Ij ok<|.inl e
def Gw{ks:oA Key}(ok:HOk P w H h)(e:H a=some (.tup<|ks.map kV)):(tupleKind<|Az P w).is h ks a:=by obtain⟨_,c,r,o,h1,h2,n,b⟩:=(show Bg P w H h a (.tup<|ks.map kV) from ok a _ e);exact⟨o,c.toArray,n,h1,h2,b,by simpa using Ly r⟩
def Js{kvs:oA<|oA Key×V}(ok:HOk P w H h)(e:Rd H a<|.dT kvs):kvs.length<=sizeLine/\(a==sysModules)=false /\
  ∃b,KT H kvs b/\h.DictOfH (tupleKind<|Az P w) a b:=by
 obtain⟨z,y,b,r,o,j,f,h1,h2,g,d,c⟩:=(show Bg P w H h a (.dT kvs) from IT ok e);refine⟨z,y,b,r,o,j,f,h1,h2,g,d,λx hx=>?_,c⟩;have all:∀{l:oA<|oA Key×V} {m:oA<|oA Key×lT×lP},KT H l m->∀x∈m,(tupleKind<|Az P w).is h x.1 x.2.1:=by
  intro l m q
  induction q with
  |nil=>intro x hx;exact nomatch hx
  |@cons p q n k hq t i=>
   intro x hx;rcases aB.mp hx with e|hx
   ·subst e;exact Gw ok<|by rw[<- hq.1];exact hq.2.1
   ·exact i x hx
 exact all r x hx
def Of{kvs:oA<|oA Key×V}(ok:HOk P w H h)(e:H a=some (.dT kvs)):kvs.length<=sizeLine/\(a==sysModules)=false /\
  ∃b,KT H kvs b/\h.DictOfH (tupleKind<|Az P w) a b:=Js ok<|.inl e
def DGet(H:Hp)(a:lT)(y:V)(r:oB V):Prop :=
 (∃c k,Rd H a (.dK c)/\y=kV k/\r=Ep c k)\/∃c k b,Rd H a (.dT c)/\y=.ref b/\H b=some (.tup<|k.map kV)/\r=Ep c k
def DPut(H:Hp)(a:lT)(y v:V)(H':Hp):Prop :=
 (∃c k,H a=some (.dK c)/\y=kV k/\c.length<sizeLine/\H'=upd H a (.dK<|putK c k v)) \/
 ∃c k b,H a=some (.dT c)/\y=.ref b/\H b=some (.tup<|k.map kV)/\c.length<sizeLine/\H'=upd H a (.dT<|putK c k v)
def DGet.k{H:Hp}{a:lT}{kvs:oA<|Key×V}{k:Key}(e:H a=some (.dK kvs)):DGet H a (kV k) (Ep kvs k):=.inl ⟨kvs,k,.inl e,rfl,rfl⟩
def DGet.t{H:Hp}{a b:lT}{kvs:oA<|oA Key×V}{k:oA Key}(e:H a=some (.dT kvs))(c:H b=some (.tup<|k.map kV)):DGet H a (.ref b) (Ep kvs k):=.inr ⟨kvs,k,b,.inl e,rfl,c,rfl⟩
def DPut.k{H:Hp}{a:lT}{kvs:oA<|Key×V}{k:Key}{v:V}(e:H a=some (.dK kvs))(b:kvs.length<sizeLine):DPut H a (kV k) v (upd H a<|.dK<|putK kvs k v):=.inl ⟨kvs,k,e,rfl,b,rfl⟩
def DPut.t{H:Hp}{a b:lT}{kvs:oA<|oA Key×V}{k:oA Key}{v:V}(e:H a=some (.dT kvs))(d:H b=some (.tup<|k.map kV))(c:kvs.length<sizeLine) :
  DPut H a (.ref b) v (upd H a<|.dT<|putK kvs k v):=.inr ⟨kvs,k,b,e,rfl,d,c,rfl⟩
def Inv.big(I:Inv X aa σ H s):sysModules<s.heap.objs.size:=by have h:mainGlobals<s.heap.objs.size:=(I.mod.glob.keeps I.bk).lt;exact eV (by decide) h
def V0{Q:lP->lQ->Prop}(hu:A.units+1<cLine)(I:Inv X aa σ H s)(g:DGet H a y<|some v)(t:Ba y u)(h:∀d q,Inv X aa σ H q->Ba v d->Q d q) :
  qU X.prog X.w A (getItem (.ref a) u) Q E s:=by
 rcases g with⟨f,k,e,i,l⟩|⟨f,k,b,e,i,B,l⟩
 ·subst i;obtain⟨z,x,C,c,dd⟩:=Ij I.hok e;obtain⟨d,j,n⟩:=Gj.some_of (v:=v) (o:=valueAt C k) (by rw[l];exact c.val k);exact wpAny_getItem_of (Jr t) dd.mapOf j<|h d _ (I.tok _) n
 ·subst i;cases (show u=Value.ref b from t);obtain⟨z,x,D,c,dd⟩:=Js I.hok e;obtain⟨d,j,n⟩:=Gj.some_of (v:=v) (o:=(atKey D k).map (·.2)) (by rw[l];exact c.val k);obtain⟨p,hp,m⟩:=L_.mp j;refine wpAny_getItem_heap (fM hu) (Gw I.hok B) dd hp ?_;rw[m];exact h d _ (I.tok _) n
def ZQ{Q:lP->lQ->Prop}(hu:A.units+1<cLine)(I:Inv X aa σ H s)(g:DGet H a y o)(m:Ba y u)(h:∀j,Inv X aa σ H j->Q (.bool o.isSome) j) :
  qU X.prog X.w A (compareOp .In u<|.ref a) Q E s:=by
 rcases g with⟨f,k,e,i,l⟩|⟨f,k,b,e,i,n,l⟩
 ·subst i;obtain⟨z,d,p,c,dd⟩:=Ij I.hok e;refine wpAny_in_of (Jr m) d dd.mapOf ?_;rw[<- (c.val k).isSome_eq,<- l];exact h _<|I.tok _
 ·subst i;cases (show u=Value.ref b from m);obtain⟨z,d,t,c,dd⟩:=Js I.hok e;refine wpAny_in_heap (fM hu) (Gw I.hok n) d dd ?_;have q:=(c.val k).isSome_eq;rw[gY]at q;rw[<- q,<- l];exact h _<|I.tok _
def FD{Q:lP->lQ->Prop}(hu:A.units+1<cLine)(I:Inv X aa σ H s)(g:DGet H a y o)(m:Ba y u)(h:∀j,Inv X aa σ H j->Q (.bool<|!o.isSome) j) :
  qU X.prog X.w A (compareOp .NotIn u<|.ref a) Q E s:=by
 rcases g with⟨f,k,e,i,l⟩|⟨f,k,b,e,i,n,l⟩
 ·subst i;obtain⟨z,d,p,c,dd⟩:=Ij I.hok e;refine wpAny_notIn_of (Jr m) d dd.mapOf ?_;rw[<- (c.val k).isSome_eq,<- l];exact h _<|I.tok _
 ·subst i;cases (show u=Value.ref b from m);obtain⟨z,d,t,c,dd⟩:=Js I.hok e;refine wpAny_notIn_heap (fM hu) (Gw I.hok n) d dd ?_;have q:=(c.val k).isSome_eq;rw[gY]at q;rw[<- q,<- l];exact h _<|I.tok _
def Gc{h':lZ}{t':Nat}{d:HO}(I:Inv X aa σ H s)(f:Mut<|H a)(hs:Heap.SameBut a s.heap h')(he:∃q,h'.get? a=some q)(c:Bg X.prog X.w (upd H a d) h' a d) :
  Inv X aa σ (upd H a d) {s with heap:=h',toks:=t'} :=
 I.write (x:=a) (e:=a) f (.inl rfl) (λb q hb z=>(hs.2 b hb).trans z) he c
def Q7{P:lV}{w:lW}{H':Hp}{h':lZ}{kvs:oA<|Key×V}{c:oA<|Key×lP}(z:kvs.length<=sizeLine)(d:(a==sysModules)=false)(b:KV kvs c)(dd:h'.DictOf (Az P w) a c) :
  Bg P w H' h' a (.dK kvs):=⟨z,d,c,b,dd⟩
def V1{H':Hp}{Q:Unit->lQ->Prop}(hu:A.units+1<cLine)(I:Inv X aa σ H s)(g:DPut H a y v H')(G:Ba y u)(F:Ba v r)(h:∀C,Inv X aa σ H' C->Q () C) :
  qU X.prog X.w A (setItem (.ref a) u r) Q E s:=by
 rcases g with⟨f,k,e,p,l,n⟩|⟨f,k,b,e,p,B,l,n⟩
 ·subst p n;obtain⟨z,m,M,d,dd⟩:=IU I.hok e;have hz:M.length<=sizeLine:=by rw[<- d.length];exact z
  have j:(putK f k v).length<=sizeLine:=by have:=Eg f k v;omega
  refine wpAny_setItem_pairs (hsz:=hz) (Jr G) dd λx i t=>h _ ?_;have he:∃q,x.get? a=some q:=let⟨q,_,_,hq,_⟩:=i;⟨q,hq⟩
  exact Gc I (by rw[e];exact True.intro) t he<|Q7 j m (d.put k F) i
 ·subst p n;cases (show u=Value.ref b from G);obtain⟨z,m,R,d,dd⟩:=Of I.hok e;have hz:R.length<=sizeLine:=by rw[<- bM d];exact z
  have j:(putK f k v).length<=sizeLine:=by have:=Eg f k v;omega
  refine wpAny_setItem_heap (hsz:=hz) (fM hu) (Gw I.hok B) dd λx i t=>h _ ?_;obtain⟨q,S,L,hq,h2,N,J,_,O⟩:=i;refine Gc I (by rw[e];exact True.intro) t ⟨q,hq⟩ ⟨j,m,_,(d.put k B F).keeps λc T D=>?_,q,S,L,hq,h2,N,J,O⟩;rw[Ao<|N9 D e λz=>nomatch z];exact D
end
section
variable {X:Cx}{aa:oA<|lT×l_}{σ:St}{H:Hp}{s:lQ}{a:lT}{kvs:oA<|Key×V}{k:Key}{u:lP}{A:lY}{E:lP->lQ->Prop}{o i e value:lX}{pos bp qm:Pos}{td ty tv:TE}
def RS{Q:lP->lQ->Prop}(I:Inv X aa σ H s)(e:Rd H a<|.dK kvs)(h:∀t c,Inv X aa σ H c->Q (.int kvs.length t) c):qU X.prog X.w A (call (.builtin "len") [.ref a]) Q E s:=by obtain⟨z,d,f,b,dd⟩:=Ij I.hok e;refine call_len_dict d dd (by rw[<- b.length];rw[kP]at z;omega) ?_;rw[<- b.length];exact h _ _<|I.tok _
def FE(i:lX):Prop:=∀c b,subscripted i false c b=operate [c,b] (getItem c b)
def Th{prog:lV}{w:lW}{A:lY}{E:lP->lQ->Prop}{s:lQ}{env:Env}{value b:lX}{pos:Pos}{T id:String}{Q:lP->lQ->Prop}
  (p:typeLookup (.type T) "__getitem__" = pure (some<|.builtin id)) (hs:FE b)
  (h:qU prog w A (eval value env) (λo f=>qU prog w A (eval b env) (λi c=>c.TypeIs o T/\qU prog w A (getItem o i) Q E c) E f) E s) :
  qU prog w A (eval (.Subscript value b pos) env) Q E s:=by
 refine Subscript_<|bD h (λo f m=>bD m (λi c d=>?_) λ_ _ x=>x) λ_ _ x=>x;obtain⟨n,d⟩:=d;unfold subscriptTail;refine A_ ?_;rw[getitemInPython_of_ne n.not_modules];refine A_<|dM n p ?_;have j:qU prog w A (subscripted b false o i) (λr g=>qU prog w A (letTemporaryGo value o r>>=λ_=>pure r) Q E g) E c:=by rw[hs o i];exact wpAny_operating<|bD d (λr g l=>A_<|wpAny_letTemporaryGo<|B_ l) λ_ _ x=>x
 first
  |exact B_ (A_ j)
  |exact A_ (B_<|A_ j)
  |exact A_ j
def Og{X:Cx}{aa:oA<|lT×l_}{σ:St}{H:Hp}{s:lQ}{a:lT}{y:V}{o:oB V}(I:Inv X aa σ H s)(g:DGet H a y o):s.TypeIs (.ref a) "dict" := by
 rcases g with⟨kvs,k,e,_,_⟩|⟨kvs,k,b,e,_,_,_⟩
 ·obtain⟨_,_,c,_,dd⟩:=Ij I.hok e;exact dd.typeIs
 ·obtain⟨_,_,d,_,dd⟩:=Js I.hok e;exact dd.typeIs
def RT(td ty:TE):TE:=λσ H Q=>td σ H λx c=>ty σ c λy b=>∃a v,x=.ref a/\DGet b a y (some v)/\Q v b
def RU(ty td:TE):TE:=λσ H Q=>ty σ H λy c=>td σ c λx b=>∃a o,x=.ref a/\DGet b a y o/\Q (.bl o.isSome) b
def Ti(ty td:TE):TE:=λσ H Q=>ty σ H λy c=>td σ c λx b=>∃a o,x=.ref a/\DGet b a y o/\Q (.bl<|!o.isSome) b
def RV(td ty tv:TE):TS:=λD σ H=>tv σ H λv f=>td σ f λx d=>ty σ d λy c=>∃a b,x=.ref a/\DPut c a y v b/\D.nx σ b
def FF(hu:X.A.units+1<cLine)(f:PE X o td)(r:PE X i ty)(hs:FE i):PE X (.Subscript o i pos) (RT td ty):=by intro aa s σ H Q I h;refine Th PySem.F.slot_dict_getitem.lookup hs<|thn (f aa s σ H _ I h) λu z q=>Cc q λx p w c l=>thn (r aa z σ p _ w l) λG D d=>?_;obtain⟨y,n,b,C,a,v,m,g,B⟩:=d;subst m;obtain rfl:u=Value.ref a:=c;exact⟨Og b g,V0 hu b g C λL J j t=>⟨v,n,j,t,B⟩⟩
def MK(hu:X.A.units+1<cLine)(r:PE X i ty)(f:PE X o td):PC X .In i o (RU ty td):=by intro aa s σ H Q I h;refine thn (r aa s σ H _ I h) λD v w=>Cc w λy q t B l=>thn (f aa v σ q _ t l) λu C j=>?_;obtain⟨x,n,b,c,a,p,m,g,z⟩:=j;subst m;obtain rfl:u=Value.ref a:=c;exact ZQ hu b g B λF d=>⟨.bl p.isSome,n,d,rfl,z⟩
def V2(hu:X.A.units+1<cLine)(r:PE X i ty)(f:PE X o td):PC X .NotIn i o (Ti ty td):=by intro aa s σ H Q I h;refine thn (r aa s σ H _ I h) λD v w=>Cc w λy q t B l=>thn (f aa v σ q _ t l) λu C j=>?_;obtain⟨x,n,b,c,a,p,m,g,z⟩:=j;subst m;obtain rfl:u=Value.ref a:=c;exact FD hu b g B λF d=>⟨.bl<|!p.isSome,n,d,rfl,z⟩
def FG(hu:X.A.units+1<cLine)(d:PE X o td)(J:PE X i ty)(hv:PE X value tv)(hs:swapsWith value (some<|.Subscript o i bp) pos.line X.env=pure false) :
  PS X (.Assign [.Subscript o i bp] value pos) (RV td ty tv):=by
 intro aa s σ H D I h;refine wpAny_Assign_Subscript (thn (hv aa s σ H _ I h) λr p n=>Cc n λv F m z j=>thn (d aa p σ F _ m j) λu b q=>Cc q λx l t c M=>thn (J aa b σ l _ t M) λR O L=>?_) hs;obtain⟨y,P,f,N,a,B,C,g,w⟩:=L;subst C;obtain rfl:u=Value.ref a:=c;exact V1 hu f g N z λQ G=>⟨σ,B,G,w⟩
def Oh{P:lV}{w:lW}{H:Hp}(h:lZ)(hb:sysModules<h.objs.size):Bg P w H (h.push {cls:=.type "dict",data:=.dict #[]}) h.objs.size (.dK []) :=
 ⟨aE _,fF.mpr<|dI<|T_ hb,[],.nil,Heap.DictOf.new h⟩
def Yj{P:lV}{w:lW}{H:Hp}(h:lZ)(hb:sysModules<h.objs.size):Bg P w H (h.push {cls:=.type "dict",data:=.dict #[]}) h.objs.size (.dT []) :=
 ⟨aE _,fF.mpr<|dI<|T_ hb,[],.nil,_,#[],0,H_ _ rfl,⟨rfl,rfl,rfl⟩,rfl,rfl,cX⟩
def MM:TE:=λ_ H Q=>∀p,H p=none->Q (.ref p) (upd H p<|.dK [])
def MN:TE:=λ_ H Q=>∀p,H p=none->Q (.ref p) (upd H p<|.dT [])
def Yk:PE X (.Dict [] [] pos) MM:=λaa s σ H Q I h=>
 lE ⟨.ref s.heap.objs.size,_,I.laid (a:=s.heap.objs.size) (o:=.dK []) (t':=s.toks) (λ_ _ q=>DD _ q) (G_ _)<|Oh s.heap I.big,rfl,h _<|I.hok.fresh<|G_ _⟩
def Yl:PE X (.Dict [] [] pos) MN:=λaa s σ H Q I h=>
 lE ⟨.ref s.heap.objs.size,_,I.laid (a:=s.heap.objs.size) (o:=.dT []) (t':=s.toks) (λ_ _ q=>DD _ q) (G_ _)<|Yj s.heap I.big,rfl,h _<|I.hok.fresh<|G_ _⟩
end
def M7:oA (TE×TE)->St->Hp->(oA (V×V)->Hp->Prop)->Prop
 |[],_,H,Q=>Q [] H
 | (c,g)::r,a,H,Q=>c a H λx f=>g a f λy e=>M7 r a e λb d=>Q ((x,y)::b) d
abbrev VV:oA (V×V)->oA (lP×lP)->Prop:=Paired λp q=>Ba p.1 q.1/\Ba p.2 q.2
def PPs(X:Cx)(b:Pos)(i:oA<|oB lX)(a:oA lX)(g:oA<|TE×TE):Prop :=
 ∀(f:oA<|lT×l_) (s:lQ) (c:St) (H:Hp) (Q:oA (V×V)->Hp->Prop),Inv X f c H s->M7 g c H Q ->
  qU X.prog X.w X.A (evalPairs<|pairTrees i a X.env b) (λj h=>∃e d,Inv X f c d h/\VV e j/\Q e d) X.xe s
def FH{X:Cx}{a:Pos}:PPs X a [] [] []:=λc s b H Q I h=>pairTrees_nil_walk ⟨[],H,I,.nil,h⟩
def Ym{X:Cx}{a:Pos}{k v:lX}{ks:oA<|oB lX}{e:oA lX}{tk g:TE}{f:oA<|TE×TE}(hk:PE X k tk)(hv:PE X v g)(B:PPs X a ks e f) :
  PPs X a (some k::ks) (v::e) ((tk,g)::f):=λb s d H Q I h=>
 pairTrees_cons_walk (thn (hk b s d H _ I h) λu q z=>Cc z λx A p j m=>thn (hv b q d A _ p m) λL i C=>Cc C λy n w E D=>
  thn (B b i d n _ w D) λJ G F=>Cc F λo r l c t=>⟨(x,y)::o,r,l,.cons ⟨j,E⟩ c,t⟩)
def Gx(kvs more:oA<|Key×V):oA (Key×V):=more.foldl (λa b=>putK a b.1 b.2) kvs
def KV.merge:∀{more:oA<|Key×V} {b:oA<|Key×lP} {kvs:oA<|Key×V} {a:oA<|Key×lP},KV more b->KV kvs a->KV (Gx kvs more) (merged a b):=by
 intro more b kvs a r;unfold KV at r
 induction r generalizing kvs a with
 |nil=>intro q;exact q
 |@cons p q g f h t d=>
  intro c;have e:KV (putK kvs p.1 p.2) (stored a q.1 q.2):=by have:=c.put p.1 h.2;rw[<- h.1];exact this
  exact d e
theorem Go:∀(more kvs:oA<|Key×V),(Gx kvs more).length<=kvs.length+more.length
 |[],kvs=>by show kvs.length<=kvs.length+0;omega
 |p::r,kvs=>by have h1:=Go r<|putK kvs p.1 p.2;have h2:=Eg kvs p.1 p.2;show(Gx (putK kvs p.1 p.2) r).length<=_;rw[aR];omega
theorem Jt{P:lV}{w:lW}:∀{kvs:oA<|Key×V} {f:oA<|lP×lP},VV (kvs.map λe=>(kV e.1,e.2)) f->∃d,Carries (Az P w) f d/\KV kvs d
 |[],_,r=>by rw[List.map_nil]at r;cases r;exact⟨[],True.intro,.nil⟩
 |p::kvs,_,r=>by
  rw[aP]at r;cases r with
  |@cons a b i j h t=>obtain⟨d,c,q⟩:=Jt (P:=P) (w:=w) t;obtain⟨k,g⟩:=b;exact⟨(p.1,g)::d,⟨Jr h.1,rfl,c⟩,.cons ⟨rfl,h.2⟩ q⟩
def RW(d:oA<|TE×TE):TE:=λf H Q=>∀p,H p=none->M7 d f (upd H p<|.dK []) λe c=>c p=some (.dK [])/\∃a:oA<|Key×V,e=a.map (λb=>(kV b.1,b.2))/\a.length<=15/\Q (.ref p) (upd c p<|.dK<|Gx [] a)
def FI{X:Cx}{g:Pos}{d:oA<|oB lX}{b:oA lX}{k:oA<|TE×TE}(h:PPs X g d b k)(v:d.all (·.isSome)=true)(m:d.length=b.length)(h0:d≠[])
  (n:d.length<=15):PE X (.Dict d b g) (RW k):=by
 intro p s D H Q I q;have x:=I.hok.fresh<|G_ s.heap.objs.size;have y:=I.laid (a:=s.heap.objs.size) (o:=.dK []) (h':=s.heap.push {cls:=.type "dict",data:=.dict #[]}) (t':=s.toks) (λ_ _ q=>DD _ q) (G_ _)<|Oh s.heap I.big;refine wpAny_Dict_walk (knd:=Az X.prog X.w) v m h0 n<|thn (h p _ D _ _ y<|q _ x) λM G B=>?_;obtain⟨L,J,l,i,e,f,r,N,F⟩:=B;subst r;obtain⟨t,c,rk⟩:=Jt (P:=X.prog) (w:=X.w) i;obtain⟨z,A,E,u,dd⟩:=IU l.hok e;cases u;refine⟨t,c,dd,λh' j C=>⟨.ref s.heap.objs.size,_,?_,rfl,F⟩⟩;have hz:(Gx [] f).length<=sizeLine:=by have h1:=Go f [];rw[jW]at h1;rw[kP];omega
 have he:∃q,h'.get? s.heap.objs.size=some q:=by obtain⟨q,_,_,hq,_⟩:=j;exact⟨q,hq⟩
 exact Gc l (by rw[e];exact True.intro) C he<|Q7 hz A (rk.merge .nil) j
structure M1(X:Cx)(o:lX)(m:Str)(ap:Pos)(e:lX)(aj:Pos):Prop where
 base:attributeBase o m X.env (eval o X.env)=eval o X.env
 few:((backTo aj<|starEach [e] X.env).all (λx=>!x.1)&&(backToKw aj<|keywordEach [] X.env).all (λx=>x.1.isSome)
  && decide (([e]:oA lX).length+([]:oA Keyword).length+(if([]:oA Keyword).isEmpty then 0 else 1)<30))=true
 line:(ap.endLine==aj.line)=true
 trees:backTo aj (starEach [e] X.env)=[(false,eval e X.env)]
structure M2(X:Cx)(o:lX)(m:Str)(ap:Pos)(e f:lX)(aj:Pos):Prop where
 base:attributeBase o m X.env (eval o X.env)=eval o X.env
 few:((backTo aj<|starEach [e,f] X.env).all (λx=>!x.1)&&(backToKw aj<|keywordEach [] X.env).all (λx=>x.1.isSome)
  && decide (([e,f]:oA lX).length+([]:oA Keyword).length+(if([]:oA Keyword).isEmpty then 0 else 1)<30))=true
 line:(ap.endLine==aj.line)=true
 trees:backTo aj (starEach [e,f] X.env)=[(false,eval e X.env),(false,eval f X.env)]
def YC(H:Hp)(a:lT):Prop:=(∃b,Rd H a<|.dK b)\/∃b,Rd H a<|.dT b
def Yn{X:Cx}{h:oA<|lT×l_}{i:St}{H:Hp}{s:lQ}{a:lT}(I:Inv X h i H s)(d:YC H a) :
  s.TypeIs (.ref a) "dict" /\ (∀b,Value.ref a=.ref b->∃c,s.heap.get? b=some c/\c.dict=none)/\(a==sysModules)=false:=by
 rcases d with⟨g,e⟩|⟨g,e⟩
 ·obtain⟨_,f,j,_,dd⟩:=Ij I.hok e;refine⟨dd.typeIs,λb q=>?_,f⟩;cases q;obtain⟨c,_,_,h1,h2,_⟩:=dd;exact⟨c,h1,h2.2.1⟩
 ·obtain⟨_,f,k,_,dd⟩:=Js I.hok e;refine⟨dd.typeIs,λb q=>?_,f⟩;cases q;obtain⟨c,_,_,h1,h2,_⟩:=dd;exact⟨c,h1,h2.2.1⟩
section
variable {X:Cx}{aa:oA<|lT×l_}{σ:St}{H:Hp}{s:lQ}{a:lT}{y d:V}{u r:lP}{o:oB V}{A:lY}{E:lP->lQ->Prop}
def MP{Q:lP->lQ->Prop}(hu:A.units+1<cLine)(I:Inv X aa σ H s)(g:DGet H a y o)(p:Ba y u)(m:Ba d r)(h:∀q n,Inv X aa σ H n->Ba (o.getD d) q->Q q n) :
  qU X.prog X.w A (call (.builtin "dict.get") [.ref a,u,r]) Q E s:=by
 rcases g with⟨i,k,e,j,l⟩|⟨i,k,b,e,j,t,l⟩
 ·subst j;obtain⟨z,f,x,c,dd⟩:=Ij I.hok e;refine iU jE dd.typeIs PySem.F.entry_dict_get (PySem.F.args_dict_get_3 _ _ _) (meets_dict_get_default (Az X.prog X.w) a (Jr p) f r) ⟨_,dd.mapOf,h _ _ (I.tok _) ?_⟩;rw[l];exact(c.val k).getD m
 ·subst j;cases (show u=Value.ref b from p);obtain⟨z,f,v,c,dd⟩:=Js I.hok e;refine iU jE dd.typeIs PySem.F.entry_dict_get (PySem.F.args_dict_get_3 _ _ _) (meetsH_dict_get_default (tupleKind<|Az X.prog X.w) a b f r) ⟨fM hu,k,v,Gw I.hok t,dd,h _ _ (I.tok _) ?_⟩;rw[l];exact(c.val k).getD m
end
def MQ(td ty e:TE):TE:=λb H Q=>td b H λx d=>∃a,x=.ref a/\YC d a/\ty b d λy f=>e b f λz c=>∃o,DGet c a y o/\Q (o.getD z) c
section
variable {X:Cx}{o e f:lX}{ap aj:Pos}{td ty tx:TE}
def Yo(hu:X.A.units+1<cLine)(l:PE X o td)(he:PE X e ty)(E:PE X f tx)(m:M2 X o "get" ap e f aj):PE X (.Call (.Attribute o "get" ap) [e,f] [] aj) (MQ td ty tx):=by
 intro b s c H Q I h;refine wpAny_Call_method m.base m.few m.line gF jE PySem.F.type_dict_get<|thn (l b s c H _ I h) λu v t=>?_;obtain⟨x,G,i,k,a,D,d,p⟩:=t;subst D;obtain rfl:u=Value.ref a:=k;obtain⟨J,O,_⟩:=Yn i d;refine⟨J,O,?_⟩;rw[m.trees];refine gO rfl<|jQ<|bU<|thn (he b v c G _ i p) λW j N=>Cc N λy r C R P=>
  bU (thn (E b j c r _ C P) λS T ⟨z,w,n,q,U,g,B⟩=>cJ ?_)
 exact MP hu n g R q λY V L M=>⟨_,w,L,M,B⟩
end
end L2
namespace Att
open PySem PySem.W PySem.Calls PyProof.Rows
def Jb{P:Params}{h:lZ}:∀(ns:oA Int) (c:oA lP),WellAll P h c (ns.map WData.int)->IntsAre c ns:=by
 intro ns
 induction ns with
 |nil=>intro c w;rw[List.map_nil]at w;cases w;exact .nil
 |cons n ns d=>
  intro c w;rw[aP]at w;cases w with
  |cons a b=>cases a;exact .cons _ _<|d _ b
def V3{l:OpenLaw}{n:Nat}(hn:l.most=some n){P:Params}{h:lZ}{args:oA WData}{f:oA lP}
  (i:l.row.toRowW.claim.pre args=true) (o:WellAll P h f args) :
  ∃a g ns,f=[Value.ref a]/\args=[WData.list<|ns.map WData.int]/\h.get? a=some {cls:=.type "list",data:=.seq g.toArray}/\IntsAre g ns/\ns.length<=n:=by
 have e:WShape.hasAll [] args [.list .int]=true:=(pre_splitW i).1;have hc:l.pre.holds [] {args:=args}=true:=(pre_splitW i).2;obtain⟨d,r,rfl,h1,h2⟩:=hasAllW_cons e;obtain rfl:=hasAllW_nil h2;obtain⟨v,rfl,p⟩:=hasW_list h1;obtain⟨ns,rfl⟩:=items_int p;have t:ns.length<=n:=by
  unfold OpenLaw.pre at hc;have c:(WTm.not<|.lt (.lit<|.int (n:Int))<|.len<|.arg 0).holds [] {args:=[.list<|ns.map .int]}=true:=by have c:=(holds_andW hc).1;rw[hn]at c;exact c
  have b:=condW_of c<|w_not<|w_lt w_lit<|w_len_list<|w_arg rfl;rw[C_]at b;refine jJ λq=>?_;have k:(n:Int)<((ns.length:Nat):Int):=by omega
  first
   | (rw[aZ k]at b;exact absurd b<|by decide)
   | (simp at b;omega)
 cases o with
 |cons s j=>
  cases j;cases s with
  |list m u=>exact⟨_,_,ns,rfl,rfl,m,Jb ns _ u,t⟩
def V4(l:OpenLaw)(args:oA WData):l.row.toRowW.claim.post args (.bool true) args=true :=
 postW_of (r:=l.row.toRowW) (X:=(true==true))
  (show WShape.has [] (.bool true) .bool=true by first|rfl|decide|simp[WShape.has,WShape.arms,WShape.armsAll])
  (show(WTm.eq .res<|.lit<|.bool true).value [] {args:=args,res:=some<|.bool true,after:=args}=some (.bool<|true==true) from w_eq_bool (w_res rfl) w_lit) rfl
def attach_call{l:OpenLaw}{n:Nat}{q:lV}{u:oA Str}{v:(Str->oB lP)->lZ->Prop}{x:lW->lZ->Prop}{d:DefRec}
  (hn:l.most=some n) (P:d.params.defaults=[])
  (call:∀(w:lW) (s₀ b:lQ) (k p:Str->oB lP) (g:lT) (o:l_) (m j s:lP) (a:lT) (e:oA lP) (ns:oA Int),
   Ground q u [] v w s₀ k p b.heap->x w b.heap ->
   b.heap.get? g=some o->o.data=.func (docDef d.name d.params d.body d.scope m j s)->b.heap.CodeRec j d.name->k d.name=some (.ref g) ->
   b.heap.get? a=some {cls:=.type "list",data:=.seq e.toArray}->IntsAre e ns->ns.length<=n->b.gens=#[] ->
   codeAny (model l.prog w) callerA (.call (.ref g) ⟨[.ref a],[]⟩) (λr i=>r=.ok (.ret<|.bool true)/\OldK b.heap i.heap/\i.os=b.os/\AllBare i.gens) b) :
  WalkO q u v x l.row.toRowW d [] (λf e=>PySem.call f e):=by
 intro w s₀ b k p G Y g o m j s J kV D M B z t F A R S Q y L N E;obtain rfl:J=.none:=Dflts.none z P;obtain rfl:kV=.none:=Dflts.noKw z;obtain⟨a,e,ns,rfl,rfl,h,c,H⟩:=V3 hn Q N;refine enter_call<|hV (call w s₀ b k p g o m j s a e ns G Y D (fd_plain M) B t h c H F) λr i hq=>?_;obtain⟨rfl,h2,I,C⟩:=hq;exact⟨.inl ⟨.bool true,.bool true,[],rfl,λ_=>rfl,.bool true,V4 l _,λ_=>⟨List.Pairwise.nil,λ_ O=>(nomatch O)⟩⟩,h2,I,C⟩
end Att
namespace L2
open PySem PySem.Spec PyProof.Rows
theorem Lz:∀{a:oA lP} {ns:oA Int},IntsAre a ns->Vals (ns.map V.int) a
 |_,_,.nil=>.nil
 |_,_,.cons n t h=>.cons ⟨t,rfl⟩<|Lz h
def Only(H:Hp):Prop:=∀b,H b=none\/∃o a,H b=some (.frz o<|.lst a)
def Yp{P:lV}{w:lW}{K:lU}{t E:Str->oB lP}{CX:CXT}{k:Nat}{G a:lT}{L:mD}{x:Str}{sp:Sp}{c:lQ}{i:oA lP}{ns:oA Int}
  (U:K.In c.heap) (J:c.heap.Ns mainGlobals t) (hb:c.heap.Ns builtinsNs E) (I:∀x:Str,x ≠ "__name__" -> E x=bootBuiltins x) (zi:c.heap.NoLimit) (hg:c.gens=#[])
  (ha:c.heap.get? a=some {cls:=.type "list",data:=.seq i.toArray}) (O:IntsAre i ns) (Q:ns.length<=sizeLine) (hr:Room k callerA) (F:∀f:lZ,K.In f->f.Ns mainGlobals t->FnOk P w K t f CX k G L [x] sp) (ud:∀(s:lQ) (u:lP),BindsTo s L ⟨[u],[]⟩ [(x,u)])
  (gf:∀H:Hp,Only H->Ff K H a (ns.map V.int)->sp [.ref a] H (λv _=>v=.bl true) λ_ _ _=>False)
  (zc:∀H e g,CX [] H c (λ_ _ _=>False) e g->False) :
  codeAny (model P w) callerA (.call (.ref G) ⟨[.ref a],[]⟩) (λr g=>r=.ok (.ret<|.bool true)/\OldK c.heap g.heap/\g.os=c.os/\AllBare g.gens) c:=by
 have W:=Lz O;have D:=O.length;have S:∀H:Hp,Only H->Ff K H a (ns.map V.int)->HOk P w H c.heap->(∀b,H b≠none->b=a)->(H a≠none->K.lookup a=none) ->
   codeAny (model P w) callerA (.call (.ref G) ⟨[.ref a],[]⟩) (λr g=>r=.ok (.ret<|.bool true)/\OldK c.heap g.heap/\g.os=c.os/\AllBare g.gens) c:=by
  intro H X hS j R Z;have T:∀{b:lT} {o:l_},c.heap.get? b=some o->H b=none->(My c.heap H).get? b=some o:=λe n=>Xx e n;have wj:∀{b:lT} {o:l_} {es:oC DictEntry} {ep:Nat},c.heap.get? b=some o->o.data=.dict es ep->H b=none:=λ{b o es ep} e d=>by
   cases q:H b with
   |none=>rfl
   |some u=>have C:b=a:=R b (by rw[q];simp);subst C;rw[ha]at e;cases e;have d':Data.seq i.toArray _=Data.dict es ep:=d;cases d'
  have B:∀{b:lT} {m:Str->oB lP},c.heap.Ns b m->(My c.heap H).Ns b m:=λ{b m} ⟨o,es,ep,e,d,r⟩=>⟨o,es,ep,T e<|wj e d,d,r⟩;have A:K.In (My c.heap H):=λb o e=>T (U b o e) (by
   cases q:H b with
   |none=>rfl
   |some u=>
    have C:b=a:=R b (by rw[q];simp);subst C;rw[Z<|by rw[q];simp]at e;cases e)
  have hM:Mod K t (My c.heap H):=⟨A,B J,⟨E,B hb,I⟩,by obtain⟨mc,h1,h2⟩:=zi;exact⟨mc,B h1,h2⟩⟩;have e0:Env0 P w K t (My c.heap H) callerA [] c H:=⟨rfl,hM,λb o e=>EC e,fH<|Vp _ _,trivial,λb hb=>absurd (show b∈([]:oA lT) from hb)<|by simp,j,.of_eq hg⟩;refine hV ((F _ A<|B J).run callerA [] c H ⟨[.ref a],[]⟩ [.ref a] [.ref a] _ _ hr e0 (ud c<|.ref a) (.cons rfl .nil)<|gf H X hS) λr g h=>?_;cases r with
  |error e=>exact(zc H e g h).elim
  |ok fl=>
   cases fl with
   |next=>exact False.elim h
   |brk=>exact False.elim h
   |cont=>exact False.elim h
   |ret u=>
    obtain⟨v,H',os,y,M,p,r',q⟩:=h;have q':v=.bl true:=q;subst q';obtain rfl:u=Value.bool true:=r';refine⟨rfl,OldK.of_keep λb o e=>?_,os,y⟩;cases q:H b with
    |none=>exact M.keep b o e q (by intro z;exact absurd (show b∈([]:oA lT) from z)<|by simp) (by simp)
    |some u=>
     rcases X b with z|⟨ob,xs,z⟩
     ·rw[q]at z;cases z
     ·have Y:=M.frzs b ob _ z;obtain⟨N,_⟩:=j b _ z;obtain⟨e2,_⟩:=p b _ Y;rw[e]at N;cases N;exact e2
 cases hk:K.lookup a with
 |some o=>have e:=U a o hk;rw[ha]at e;cases e;refine S (λ_=>none) (λ_=>.inl rfl) (.inr ⟨_,i.toArray,_,hk,rfl,rfl,rfl,by rw[aA,D];exact Q,by simpa using W⟩) (λb u z=>by have l:(none:oB HO)=some u:=z;cases l) (λb z=>absurd rfl z) λz=>absurd rfl z
 |none=>
  refine S (λb=>if b=a then some (.frz {cls:=.type "list",data:=.seq i.toArray}<|.lst<|ns.map V.int) else none) (λb=>?_) (.inl<|.inr ⟨{cls:=.type "list",data:=.seq i.toArray},N_ rfl⟩) (λb u z=>?_) (λb z=>?_) λ_=>hk
  ·by_cases hb:b=a
   ·exact .inr ⟨_,_,N_ hb⟩
   ·exact .inl<|I_ hb
  ·by_cases hb:b=a
   ·have l:=(N_ hb).symm.trans z;cases l;subst hb;exact⟨ha,by rw[C_];exact Q,i,_,W,ha⟩
   ·have l:=(I_ hb).symm.trans z;cases l
  ·by_cases hb:b=a
   ·exact hb
   ·exact absurd (I_ hb) z
def walk_of{l:PySem.W.OpenLaw}{n k:Nat}{q:lV}{I:oA Str}{N:(Str->oB lP)->lZ->Prop}{D:lW->lZ->Prop}{d:DefRec}{K:Params->lU}{CX:lW->CXT}{sp:lW->Sp}{x:Str}
  (hn:l.most=some n) (P:n<=sizeLine) (R:d.params.defaults=[]) (Q:Room k callerA) (L:∀(w:lW) (h:lZ),D w h->(K w.params).In h) (F:∀(w:lW) (j:Str->oB lP) (r:lT) (h:lZ),(K w.params).In h->h.Ns mainGlobals j->j d.name=some (.ref r) ->
   ∃y:mD,(∀(s:lQ) (u:lP),BindsTo s y ⟨[u],[]⟩ [(x,u)]) /\
    ∀c:lZ,(K w.params).In c->c.Ns mainGlobals j->FnOk l.prog w (K w.params) j c (CX w) k r y [x] (sp w)) (X:∀(w:lW) (H:Hp) (a:lT) (ns:oA Int),ns.length<=n->Only H->Ff (K w.params) H a (ns.map V.int)->sp w [.ref a] H (λv _=>v=.bl true) λ_ _ _=>False) (O:∀(w:lW) (H:Hp) (s:lQ) (e:lP) (t:lQ),CX w [] H s (λ_ _ _=>False) e t->False) :
  PySem.W.WalkO q I N D l.row.toRowW d [] (λf A=>PySem.call f A):=by
 refine Att.attach_call hn R λw C p j mb r o Z cd bw a A ns G Y ho hd ie z m i B J=>?_;have E:=L w _ Y;obtain⟨y,hb,M⟩:=F w j r _ E G.T.g z;exact Yp E G.T.g G.T.b G.T.builtins G.T.nolimit J m i (K_ B P) Q M hb (λH S U=>X w H a ns B S U) λH e t=>O w H p e t
def Cz(s:mC):Arguments:=match s with
 |.FunctionDef _ a _ _ _ _ _ _ _ _=>a
 |_=>{posonlyargs:=[],args:=[],vararg:=none,kwonlyargs:=[],kw_defaults:=[],kwarg:=none,defaults:=[]}
def Cd(s:mC):oA mC:=match s with
 |.FunctionDef _ _ b _ _ _ _ _ _ _=>b
 |_=>[]
def Ah(s:mC):mF:=match s with
 |.FunctionDef _ _ _ _ _ _ sc _ _ _=>sc
 |_=>{kind:=.function,names:=[],isGenerator:=false,isCoroutine:=false}
abbrev Eh:CXT:=λ_ _ _ _ _ _=>False
abbrev E0:XK:=λ_ _ _=>False
def IV{X:Cx}:Passes Eh X E0:=λ_ _ _ _ _ _ _ h=>h.elim
structure Fun(K:lU)(x qual:Str)(st:mC)(f:lT)(fd:mD):Prop where
 ex:∃(oc:lP) (od:oB lT) (kV bw pm:lP) (an:oB lT) (aq ct:lP) (f7:oC<|oB lP),
  fd=PySem.W.fnOf x qual (Cz st) (Cd st) (Ah st) .none kV bw pm an aq ct/\K.lookup f=some ⟨oc,od,.func fd,f7⟩/\PySem.W.codeIn K aq qual=true
 kp:PySem.W.keepIn K (.ref f)=true
section
variable {P:lV}{w:lW}{K:lU}{mg:Str->oB lP}{base:lZ}{X:Cx}
def Fun.ok{x a:Str}{st:mC}{f:lT}{d:mD}{N ps:oA Str}{k:Nat}{sp:Sp}(F:Fun K x a st f d)(S:FnScope N ps<|Ah st)(len:∀b H Q E,sp b H Q E->b.length=ps.length)
  (g:∀(c:lP) (A:lY) (outer:oA Env) (s:lQ) (H:Hp) (b:oA V) (Q:VK) (E:XK),Room k (A.deeper<|envOfC a (Ah st) s.heap.objs.size f c)->sp b H Q E ->
   ∃t,PSs (Ld Eh P w K mg base N a (Ah st) f c A outer s H E).nox (Cd st) t/\t {nx:=λ_ l=>Q .non l,rt:=Q} (start N b) H):FnOk P w K mg base Eh (k+1) f d ps sp:=by
 obtain⟨r,u,kV,v,n,y,c,o,p,rfl,j,e⟩:=F.ex;refine IQ j e S len λA outer s H b Q E i m=>?_;obtain⟨t,h,q⟩:=g c A outer s H b Q E i m;exact⟨t,h.nox,q⟩
def Fun.binds{x a:Str}{st:mC}{f:lT}{i:mD}{ps:oA Str}(F:Fun K x a st f i)
  (h:∀(kV d b:lP) (g:oB lT) (e ct:lP) (c:oA lP),c.length=ps.length->bindArgs (PySem.W.fnOf x a (Cz st) (Cd st) (Ah st) .none kV d b g e ct) ⟨c,[]⟩=pure (ps.zip c)):Binds K i ps []:=by
 obtain⟨n,l,kV,d,b,g,e,ct,k,rfl,m,j⟩:=F.ex;exact .all<|h kV d b g e ct
def Yq{x a:Str}{st:mC}{f:lT}{j:lP}{i e:oB lT}{h:oC<|oB lP}{kV g d b ct:lP}(l:K.lookup f=some ⟨j,i,.func<|PySem.W.fnOf x a (Cz st) (Cd st) (Ah st) .none kV g d e b ct,h⟩)
  (c:PySem.W.codeIn K b a=true) (k:PySem.W.keepIn K (.ref f)=true):Fun K x a st f (PySem.W.fnOf x a (Cz st) (Cd st) (Ah st) .none kV g d e b ct):=⟨⟨j,i,kV,g,d,e,b,ct,h,rfl,l,c⟩,k⟩
def Bx{A:lY}{k:Nat}(a:Room k A):A.units+1<cLine:=eL (gA (by decide:1<=64) _) a.units
def A5{n:Nat}(h:n<=1000):n<sizeLine:=eL h<|by decide
def pv(i:Nat){x:Str}{a:Pos}(d:X.N[i]?=some x:=by rfl)(hv:Vis X.env.scope x:=by first|exact Or.inl rfl|exact Or.inr (Or.inl rfl)|exact Or.inr<|Or.inr rfl)(c:(x==("__debug__" : Str))=false:=by decide)
  (b:(x==("__classdict__" : Str))=false:=by decide):PE X (.Name x a) (KQ i):=Xy d hv c b
def V5:Ew X (.builtin "len") (λc H Q=>∃a b,c=[V.ref a]/\H a=some (.dK b)/\Q (.int b.length) H):=by intro f s j H c g Q I r h;obtain⟨a,b,rfl,ha,q⟩:=h;obtain⟨u,rfl,d⟩:=Ex r;cases d;exact RS I (.inl ha) λt i e=>⟨.int b.length,H,e,⟨t,rfl⟩,q⟩
end
section
variable {κ:Type} [DecidableEq κ]
end
end L2
set_option maxHeartbeats 4000000
namespace L2
open PySem
def Ez(a:oA<|Str×lT):oA (Str×mG)->oA (Str×lT)->oA (Str×lT)
 |[],b=>b
 | (n,k)::r,b=>if k=NameKind.free then Ez a r ((n,(a.lookup n).getD 0)::b) else Ez a r b
def Gp{a:mF}{env:Env}(h:∀x∈a.names,x.2=.free->∃c,env.cells.lookup x.1=some c) :
  closureFor a env=pure (Ez env.cells a.names []):=by
 have f:∀(names:oA<|Str×mG) (acc:oA<|Str×lT),(∀x∈names,x.2=.free->∃c,env.cells.lookup x.1=some c) ->
   (do
     let mut g:=acc
     for (b,d) in names do
      if d==.free then g:=(b,<- cellOf env b)::g
     return g:Sem<|oA<|Str×lT)=pure (Ez env.cells names acc):=by
  intro names
  induction names with
  |nil=>intro acc _;rfl
  |cons x r j=>
   intro acc h;obtain⟨n,k⟩:=x;have i:∀y∈r,y.2=.free->∃c,env.cells.lookup y.1=some c:=λy hy=>h y<|aM _ hy;by_cases hk:k=.free
   ·subst hk;obtain⟨c,hc⟩:=h (n,.free) aV rfl;have e:cellOf env n=pure c:=by unfold cellOf;rw[hc]
    have q:=j ((n,c)::acc) i;simp only[List.forIn_cons,beq_self_eq_true,if_true,e];unfold Ez;rw[N_ rfl,hc];exact q
   ·have hb:(k==NameKind.free)=false:=by simpa using hk
    have q:=j acc i;simp only[List.forIn_cons,hb,Bool.false_eq_true,if_false];unfold Ez;rw[I_ hk];exact q
 exact f a.names [] h
theorem G6{a:oA<|Str×lT}:∀{names:oA<|Str×mG} {acc:oA<|Str×lT},
  (∀x∈names,x.2=.free->∃c,a.lookup x.1=some c)->(∀x c,acc.lookup x=some c->a.lookup x=some c) ->
  ∀x c,(Ez a names acc).lookup x=some c->a.lookup x=some c
 |[],_,_,h,x,c,e=>h x c e
 | (n,k)::r,acc,f,h,x,c,e=>by
  unfold Ez at e;have g:∀y∈r,y.2=.free->∃c,a.lookup y.1=some c:=λy hy=>f y<|aM _ hy;by_cases hk:k=.free
  ·rw[N_ hk]at e;refine G6 g (λy d q=>?_) x c e;obtain⟨j,b⟩:=f (n,k) aV hk;have b:a.lookup n=some j:=b;rw[dE]at q;cases hy:y==n with
   |true=>
    rw[hy,b]at q;have i:y=n:=by simpa using hy
    rw[i,b];exact q
   |false=>rw[hy]at q;exact h y d q
  ·rw[I_ hk]at e;exact G6 g h x c e
theorem Gy{a:oA<|Str×lT}{x:Str}:∀{names:oA<|Str×mG} {acc:oA<|Str×lT},
  (∃c,acc.lookup x=some c)->∃c,(Ez a names acc).lookup x=some c
 |[],_,h=>h
 | (n,k)::r,acc,⟨c,h⟩=>by
  unfold Ez;split
  ·refine Gy ?_;rw[dE];cases x==n with
   |true=>exact⟨_,rfl⟩
   |false=>exact⟨c,h⟩
  ·exact Gy ⟨c,h⟩
theorem G7{a:oA<|Str×lT}{x:Str}:∀{names:oA<|Str×mG} {acc:oA<|Str×lT},
  (x,NameKind.free)∈names->∃c,(Ez a names acc).lookup x=some c
 | (n,k)::r,acc,h=>by
  unfold Ez;rcases aB.mp h with e|e
  ·cases e;rw[N_ rfl];refine Gy ?_;rw[dE,lF];exact⟨_,rfl⟩
  ·split
   ·exact G7 e
   ·exact G7 e
end L2
namespace PySem
open Sem (wp)
section
variable {prog:lV}{w:lW}{A:lY}{E:lP->lQ->Prop}{R:mH->lQ->Prop}{s:lQ}
def Oi{B z iter:lX}{C:oA lX}{f:mF}{u:Pos}{y acc:lP}{env:Env}(I:Nat->lQ->Prop) (F:∀n s,I n s->qU prog w A (pyNext y) (λr e=>match r with
   |none=>R (.ok .next) e
   |some v=>qU prog w A (letOwnedTupleGo z y v) (λ_ b=>qU prog w A (assign z env v) (λ_ l=>
     qU prog w A (forIn C true λc r=>if r=true then do let ok <- isTrue c env (eval c env);pure (ForInStep.yield ok) else pure<|ForInStep.yield r) (λok d=>
      if ok=true then qU prog w A (eval B env) (λx g=>
       qU prog w A (call (.builtin "list.append") [acc,x]) (λ_ i=>∃m,m<n/\I m i) (λ_ _=>False) g) (λ_ _=>False) d
      else ∃m,m<n/\I m d) (λ_ _=>False) l) (λ_ _=>False) b) (λ_ _=>False) e) (λ_ _=>False) s)
  (n:Nat) (h:I n s) :
  codeAny (model prog w) A (.compLoop (.ListComp B [⟨z,iter,C,0⟩] f u) 0 y acc env) R s:=by
 refine codeAny_loop rfl I (λn s D=>?_) n h;show wpAny _ A ((compTurn (.ListComp B [⟨z,iter,C,0⟩] f u) 0 y acc env).onRaise λx=>do noteFrame x env;theTreesLotGoes x) _ _ s;refine wpAny_noted ?_;rw[compTurn_list];refine A_<|iF<|A_<|bD (F n s D) (λr e k=>?_) λ_ _ a=>a.elim;cases r with
 |none=>exact B_ k
 |some v=>
  refine A_<|bD k (λ_ b o=>?_) λ_ _ a=>a.elim;refine A_<|bD o (λ_ l t=>A_<|bD t (λok d j=>?_) λ_ _ a=>a.elim) λ_ _ a=>a.elim;cases ok with
  |false=>exact B_ ⟨rfl,j⟩
  |true=>exact A_<|A_<|bD j (λx g p=>A_<|bD p (λ_ i q=>B_<|B_ ⟨rfl,q⟩) λ_ _ a=>a.elim) λ_ _ a=>a.elim
end
end PySem
namespace L2
open PySem PySem.Spec PyProof.Rows
def Oj(mp:oA<|oB Nat)(a:St):St:=mp.map λo=>match o with|some i=>(a[i]?).join|none=>none
def FJ(pn:oA<|Str×mG)(x:Str):Bool:=decide (pn.lookup x=some .cell)||decide (pn.lookup x=some .free)
def Ol{pn:oA<|Str×mG}{x:Str}(h:FJ pn x=true):pn.lookup x=some .cell\/pn.lookup x=some .free:=by
 unfold FJ at h;rcases(fB _ _).mp h with h|h
 ·exact .inl<|aQ h
 ·exact .inr<|aQ h
theorem M8{env:Env}:∀{names:oA<|Str×mG} {x:Str},names.lookup x=some .free ->
  (names.map λ(n,k)=>if(k==NameKind.free&&env.scope.kind==.function&&env.kindOf n==some .cell) then(n,NameKind.cell) else(n,k)).lookup x=some .cell \/
  (names.map λ(n,k)=>if(k==NameKind.free&&env.scope.kind==.function&&env.kindOf n==some .cell) then(n,NameKind.cell) else(n,k)).lookup x=some .free
 |[],_,h=>by simp at h
 | (n,k)::r,x,h=>by
  have a:=@M8 env r x;rw[aP];cases hx:x==n with
  |true=>
   simp only[List.lookup_cons,hx]at h;cases h;by_cases hc:(NameKind.free==NameKind.free&&env.scope.kind==.function&&env.kindOf n==some .cell)=true
   ·refine .inl ?_;simp only[hc,if_true,List.lookup_cons,hx]
   ·refine .inr ?_;simp only[if_neg hc,List.lookup_cons,hx]
  |false=>
   simp only[List.lookup_cons,hx]at h;by_cases hc:(k==NameKind.free&&env.scope.kind==.function&&env.kindOf n==some .cell)=true
   ·simp only[hc,if_true,List.lookup_cons,hx];exact a h
   ·simp only[if_neg hc,List.lookup_cons,hx];exact a h
end L2
namespace PySem
open Sem (wp)
section
variable {prog:lV}{w:lW}{A:lY}{E:lP->lQ->Prop}{R:mH->lQ->Prop}{s:lQ}{I:lT}{fp wr:oA lT}{G:oC GenState->oC GenState->Prop}{n:Nat}{P:Nat->lP->Prop}{St:Nat->lQ->Prop}
def M9:typeLookup (.type "list_reverseiterator") "__len__" = pure none:=by rw[d_,bZ];kernel_rfl
def Om:typeLookup (.type "list_reverseiterator") "__length_hint__" = pure (some<|.builtin "list_reverseiterator.__length_hint__"):=by rw[d_,bZ];kernel_rfl
set_option maxRecDepth 100000 in
def Lg(W:WalksS prog w A.in1 I fp wr G n P St)(h:∀i s,St i s->s.TypeIs (.ref I) "list_reverseiterator") (S:lT) (res:lP) (d:St 0 s) (m:S∉fp) (t:I∈fp)
  {c:Nat} (u:s.heap.get? S=some {cls:=.type "list",dict:=none,data:=.seq #[] c,slots:=#[]})
  (q:∀a j g,Moved (S::wr) G s a->a.heap.get? S=some {cls:=.type "list",dict:=none,data:=.seq j g,slots:=#[]}->ItemsOf P j n->R (.ok<|.ret res) a) (hn:n<=sizeLine:=by size_fits) :
  qU prog w A.in1 (Builtin.List.listExtendWith (.ref S) (.ref I) res)
   (λl a=>match l with|.done f=>R (.ok f) a|.again g=>g.quiet=true/\codeAny (model prog w) A g R a) (λe a=>R (.error e) a) s:=by
 have k:S≠I:=λe=>m<|e ▸ t;have h1:Builtin.List.listSameRef (.ref S) (.ref I)=false:=by simp[Builtin.List.listSameRef,k]
 unfold Builtin.List.listExtendWith;refine A_<|fG (h 0 _ d) ?_;rw[I_<|by rw[h1];decide];refine A_<|W.self 0 _ _ _ d ?_;refine A_<|bB ?_;unfold Builtin.List.listLengthHint;refine A_<|dM (h 0 _ d) M9 ?_;show wpAny _ A.in1 (specialOf (Value.ref I) (Str.ofString "__length_hint__")>>=_) _ _ _;refine A_<|dM (h 0 _ d) Om ?_;generalize o:("list_reverseiterator.__length_hint__" : String)=id0
 wp_delta
 rw[show splitId id0=some ("list_reverseiterator","__length_hint__") from by subst o;decide +kernel];subst o;refine A_ (bT (b:=true) (h 0 _ d) (by rw[dJ];kernel_rfl) ?_);refine B_ ?_;rw[I_<|by decide];exact B_ ⟨dF F.plain_extend_loop _,codeAny_extend_loopS W hn _ m _ n 0 _ _ _ rfl (aE _) d u (ItemsOf.nil P) λa j g r p v=>q a j g r p v⟩
set_option maxRecDepth 100000 in
def Hm(W:WalksS prog w A.in1 I fp wr G n P St)(r:∀i s,St i s->s.TypeIs (.ref I) "list_reverseiterator") (S:lT) (u:St 0 s) (l:S∉fp) (v:I∈fp)
  (k:s.heap.get? S=some {cls:=.type "list",data:=.seq #[]})
  (q:∀a g d,Moved (S::wr) G s a->a.heap.get? S=some {cls:=.type "list",dict:=none,data:=.seq g d,slots:=#[]}->ItemsOf P g n->R (.ok<|.ret .none) a) (hn:n<=sizeLine:=by size_fits) :
  qU prog w A.in1 (Builtin.«list.__init__» ⟨[.ref S,.ref I],[]⟩)
   (λj a=>match j with|.done f=>R (.ok f) a|.again d=>d.quiet=true/\codeAny (model prog w) A d R a) (λe a=>R (.error e) a) s:=by
 show wpAny _ A.in1 (do let x <- Builtin.List.listItems (.ref S);Builtin.List.listUpdate (.ref S) λ_=>#[];letGo x.toList.reverse;Builtin.List.listExtendWith (.ref S) (.ref I) .none) _ _ s;refine A_ ?_;unfold Builtin.List.listItems;refine A_<|eX k rfl<|B_ ?_;show wpAny _ A.in1 (updateSeq S (λ_=>#[])>>=λ_=>letGo (#[]:oC lP).toList.reverse>>=λ_=>Builtin.List.listExtendWith (.ref S) (.ref I) .none) _ _ s;refine A_<|gU k rfl ?_;have c:=aG (Obj.mapSeq λ_=>(#[]:oC lP)) k rfl;have m:∀b o,b≠S->s.heap.get? b=some o->(s.heap.update S<|Obj.mapSeq λ_=>(#[]:oC lP)).get? b=some o :=
  λb o hb e=>(bC _ _<|dI hb).trans e
 refine A_<|iQ ?_;refine Lg (hn:=hn) W r S .none (W.frame 0 s _ s.toks u (G_ _) λb hb o e=>m b o (λh=>l<|h ▸ hb) e) l v c λa g d t p y=>?_;exact q a g d (Moved.trans W.gtrans ((Moved.refl W.grefl).then_heap (G_ _) λb o hb e=>m b o (λh=>hb<|h ▸ aV) e) t) p y
def Hn{Q:lP->lQ->Prop}(W:WalksS prog w A.in1.in1 I fp wr G n P St)(q:∀i s,St i s->s.TypeIs (.ref I) "list_reverseiterator") (r:St 0 s) (j:∀b∈fp,b<s.heap.objs.size) (t:I∈fp)
  (v:∀d g k,Moved (s.heap.objs.size::wr) G {s with heap:=s.heap.push {cls:=.type "list",data:=.seq #[]}} d ->
   d.heap.get? s.heap.objs.size=some {cls:=.type "list",dict:=none,data:=.seq g k,slots:=#[]}->ItemsOf P g n->Q (.ref s.heap.objs.size) d) (hn:n<=sizeLine:=by size_fits) :
  qU prog w A (call (.type "list") [.ref I]) Q E s:=by
 have p:s.heap.objs.size∉fp:=λh=>c_ _<|j _ h;refine callType_codes (Q₁:=λf a=>f=.ref s.heap.objs.size/\a={s with heap:=s.heap.push {cls:=.type "list",data:=.seq #[]}}) F.called_list (F.typeCall_list_1 _) F.entry_list_init
  (code_list_new _ ⟨rfl,rfl⟩) λf a c=>?_
 obtain⟨rfl,rfl⟩:=c;have l:(s.heap.push {cls:=.type "list",data:=.seq #[]}).get? s.heap.objs.size=some {cls:=.type "list",data:=.seq #[]}:=H_ _ rfl;refine⟨⟨_,l,rfl⟩,F.args_list_init_2 _ _,Hm (hn:=hn) W q _ (W.frame 0 s _ s.toks r (G_ _) λb _ o e=>DD _ e) p t l λd g k h m u=>?_⟩;exact⟨rfl,v d g k h m u⟩
end
end PySem
namespace L2
open PySem PySem.Spec PyProof.Rows
def PIfs(X:Cx)(d:oA lX)(t:TT):Prop :=
 ∀(b:oA<|lT×l_) (s:lQ) (a:St) (H:Hp) (Q:Bool->Hp->Prop),Inv X b a H s->t a H Q ->
  qU X.prog X.w X.A (forIn d true λc r=>if r=true then do let ok <- isTrue c X.env (eval c X.env);pure (ForInStep.yield ok) else pure<|ForInStep.yield r) (TP X b a Q) X.xe s
def ZR:TT:=λ_ H Q=>Q true H
def Yr{X:Cx}:PIfs X [] ZR:=λ_ _ _ H _ I h=>wpAny_tests_nil ⟨H,I,h⟩
def Ys{X:Cx}{c:lX}{t:TT}(h:PT X c t):PIfs X [c] t:=λb s a H Q I d=>wpAny_tests_one<|h b s a H Q I d
def Yt(p:lT)(J:It)(g:TG)(tst:TT)(te:TE)(Q:Hp->Prop)(h:St)(H:Hp):Prop :=
 ∃W:Nat->Nat->oA V->St->Hp->Prop,(∃m,W 0 m [] h H)/\∀i m a e d,W i m a e d ->
  (J.stop i d/\Q d)\/(J.go i d/\∃N:oA V->St->Hp->Prop,(∀a h H,N a h H->∃j,j<m/\W (i+1) j a h H)/\∀x n,J.yld i d x n->g x e n λc o=>tst c o λb k=>
   if b=true then te c k λv l=>∃f,l p=some (.lst f)/\f.length<sizeLine/\N (f++[v]) c (upd l p<|.lst<|f++[v])
   else N a c k)
def Yu(mp:oA<|oB Nat)(d:TI)(g:TG)(tst:TT)(te:TE):TE:=λa H Q=>d a H λJ b=>∀p,b p=none ->
 Yt p J g tst te (λc=>Q (.ref p) c) (Oj mp a) (upd b p<|.lst [])
section
variable {X:Cx}{N':oA Str}{mp:oA<|oB Nat}{dy tg iter:lX}{c7:oA lX}{scope:mF}{pos:Pos}{wi:TI}{g:TG}{tst:TT}{te:TE}{K:lU}{a p:lT}{xs:oA V}{Q:Hp->Prop}{σ:St}{H:Hp}
def Inv.letgo{d:oA<|lT×l_}{σ:St}{H:Hp}{s:lQ}{C:lT}{h':lZ}(I:Inv X d σ H s)(hn:H C=none)(h1:X.s₀.heap.objs.size<=C)(f:C≠X.env.locals)(h2:∀x c,X.env.cells.lookup x=some c->c≠C)
  (h:∀q∈X.pn++d,q.1≠C) (hs:Heap.SameBut C s.heap h'):Inv X d σ H {s with heap:=h'} :=
 I.turned (t':=s.toks) (λb o hb e=>(hs.2 b hb).trans e) hn f (.inr h1) h2 h
def Tj{J:It}(n:Nat)(f:Nat->oA V->St->Hp->Prop)(h0:f 0 [] σ H)
  (r:∀i c σ H,i<n->f i c σ H->J.go i H) (s:∀c σ H,f n c σ H->J.stop n H/\Q H)
  (hs:∀i x c σ H h,i<n->f i c σ H->J.yld i H x h->g x σ h λd t=>tst d t λb l=>
   if b=true then te d l λv o=>∃j,o p=some (.lst j)/\j.length<sizeLine/\f (i+1) (j++[v]) d (upd o p<|.lst<|j++[v]) else f (i+1) c d l) :
  Yt p J g tst te Q σ H:=by
 refine⟨λi m c σ H=>m=n-i/\i<=n/\f i c σ H,⟨n,by simp,aE _,h0⟩,?_⟩;rintro i m c σ H ⟨rfl,u,pv⟩;by_cases k:i<n
 ·exact .inr ⟨r i c σ H k pv,f<|i+1,λc σ H q=>⟨n-(i+1),by omega,rfl,k,q⟩,λx h y=>hs i x c σ H h k pv y⟩
 ·have e:i=n:=by omega
  subst e;exact .inl<|s c σ H pv
def ZS:V->oB Int->oB Int->Hp->VK->Prop:=λx lo b H Q=>∃z,x=.str z/\z.length<=sizeLine/\Q (.str<|Txt.slice z lo b) H
def MR:RO X ZS:=by
 intro o s σ H x v B y lo r A Q I n c w m h;obtain⟨z,rfl,hz,q⟩:=h;obtain⟨t,rfl⟩:=n;refine⟨"str",_,F.slot_str_getitem.lookup,typeIs_str _ _ _,?_⟩;have b:∀f k,EP X o σ Q (.str (Txt.slice z lo r) f) {s with toks:=k}:=λf k=>⟨.str _,H,I.tok _,⟨_,rfl⟩,q⟩;cases w with
 |none=>
  cases m with
  |none=>exact gG (l:=none) (u:=none) (st:=none) c rfl (jX ⟨K_ (Txt.slice_le z _ _) hz,b⟩)
  |int j d=>exact gG (l:=none) (u:=some (j,d)) (st:=none) c rfl (jX ⟨K_ (Txt.slice_le z _ _) hz,b⟩)
 |int i e=>
  cases m with
  |none=>exact gG (l:=some (i,e)) (u:=none) (st:=none) c rfl (jX ⟨K_ (Txt.slice_le z _ _) hz,b⟩)
  |int j d=>exact gG (l:=some (i,e)) (u:=some (j,d)) (st:=none) c rfl<|jX ⟨K_ (Txt.slice_le z _ _) hz,b⟩
def Yv(hc:X.calm=true):Ew X (.builtin "all") (λxs H Q=>∃(p:lT) (c:oA Bool),xs=[.ref p]/\Ff X.K H p (c.map V.bl)/\Q (.bl<|c.all id) H):=by
 intro F s σ H xs J Q I r h;obtain⟨p,c,rfl,hq,q⟩:=h;obtain⟨u,rfl,w⟩:=Ex r;cases w;obtain⟨l,t,j,hz⟩:=I.list hq;have f:=t.length;rw[C_]at f;refine call_all_walk<|eE j.isList ?_;have B:p≠s.heap.objs.size:=T_ (by obtain⟨_,y,_⟩:=j.isList;exact J_ y);refine⟨s.heap.objs.size,_,_,_,_,_,λi=>c.getD i true,rfl,lM (show X.A.in1.handled=none from I.ok.hd hc) s.heap.objs.size p B l.toArray,?_,?_,λG L k=>?_⟩
 ·exact⟨⟨_,H_ _ rfl,rfl,rfl⟩,j.isList.at λo e=>DD _ e⟩
 ·intro i v z D M E m;have hv:l[i]?=some v:=by simpa using E
  have d:i<c.length:=by rw[f];exact(F_.mp hv).1
  obtain⟨u,hu,C⟩:=t.get (i:=i) (x:=V.bl c[i]) (by simp[d]);rw[hv]at hu;cases hu;cases (show v=Value.bool c[i] from C);refine eC ?_;have e:c.getD i true=c[i]:=by simp[d]
  have n:D (c.getD i true) z:=m;rw[e]at n;exact n
 ·have e:(List.range l.toArray.size).all (λi=>c.getD i true)=c.all id:=by
   rw[aA,<- f];rw[gV,eM,eM];constructor
   ·intro a x hx;obtain⟨i,d,rfl⟩:=List.mem_iff_getElem.mp hx;have:=a i<|bK.mpr d;simpa [d] using this
   ·intro a i d;have d:=bK.mp d;have:=a c[i]<|eO d;simpa [d] using this
  rw[e];exact⟨.bl _,H,I.kept λb o e=>k b o (by
   intro hb;have:b=s.heap.objs.size:=by simpa using hb
   exact absurd (J_ e)<|by rw[this];exact c_ _)<|DD _ e,rfl,q⟩
def Q8{ys:oA Str}{b:oA lP}(h:Vals (ys.map V.str) b):StrsAre b ys:=by
 induction ys generalizing b with
 |nil=>cases h;exact .nil
 |cons y ys d=>
  cases h with
  |cons r t=>obtain⟨c,rfl⟩:=r;exact .cons y c<|d t
def FK:IR X "str.join" (λx xs H Q=>∃z p b,x=.str z/\xs=[.ref p]/\Ff X.K H p (b.map V.str)/\(b.map (·.length)).sum+b.length*z.length<=16777216/\Q (.str<|Txt.join z b) H):=by intro i s σ H x xs v j Q I c r h;obtain⟨z,p,b,rfl,rfl,hq,hz,q⟩:=h;obtain⟨t,rfl⟩:=c;obtain⟨u,rfl,d⟩:=Ex r;cases d;obtain⟨m,e,f,_⟩:=I.list hq;exact join_list f.isList (Q8<|by simpa using e) hz λl k=>⟨.str _,H,I.tok _,⟨_,rfl⟩,q⟩
def RX(K:lU)(te:TE):TE:=λσ H Q=>te σ H λx b=>∃a xs,x=.ref a/\Ff K b a xs/\∀l,b l=none->Q (.ref l) (upd b l<|.lst xs.reverse)
def FL{e:lX}{te:TE}{p t pos y:Pos}(hc:X.calm=true)(M:Gl X "list") (D:X.mg "list" = none) (U:Gl X "reversed") (G:X.mg "reversed" = none) (he:PE X e te)
  (hs:starEach [.Call (.Name "reversed" t) [e] [] y] X.env=[(false,eval (.Call (.Name "reversed" t) [e] [] y) X.env)]:=by rfl) (hs2:starEach [e] X.env=[(false,eval e X.env)]:=by rfl) :
  PE X (.Call (.Name "list" p) [.Call (.Name "reversed" t) [e] [] y] [] pos) (RX X.K te):=by
 intro J s σ H Q I h;refine bV<|Dy I M D boot_list ?_;refine bQ ?_ hs rfl;rw[hs];refine bU ?_;refine bV<|Dy I U G boot_reversed ?_;refine bQ ?_ hs2 rfl;rw[hs2];refine bU<|thn (he J s σ H _ I h) λu c Y=>cJ ?_;obtain⟨v,H1,B,r1,F⟩:=Y;obtain⟨a,xs,rfl,hq,q⟩:=F;cases r1;obtain⟨d,E,m,hz⟩:=B.list hq;have O:=E.length;refine call_reversed_list m.isList<|cJ ?_;have Z:a≠c.heap.objs.size:=T_ (by obtain⟨_,r,_⟩:=m.isList;exact J_ r);have x:(c.heap.push<|revObj a<|(d.toArray.size:Int)-1).IsList a d.toArray:=m.isList.at λo e=>DD _ e;refine Hn (s:={c with heap:=c.heap.push<|revObj a<|(d.toArray.size:Int)-1}) (Walks.listRev (show X.A.in1.in1.handled=none from I.ok.hd hc) c.heap.objs.size a Z d.toArray).toS (λi s st=>st.2.1.typeIs) ?_ ?_ (by simp) (λN f c' n hS l=>?_)<|by rw[aA,<- O];exact hz
 ·refine⟨aE _,⟨_,H_ _ rfl,rfl,?_⟩,x⟩;simp[revObj]
 ·intro b hb;rw[bW];rcases aB.mp hb with rfl|hb
  ·exact dN _
  ·have:b=a:=by simpa using hb
   subst this;exact dA (by obtain⟨_,r,_⟩:=m.isList;exact J_ r)
 ·have C:(c.heap.push<|revObj a<|(d.toArray.size:Int)-1).objs.size=c.heap.objs.size+1:=bW ..;obtain⟨h',g',W,t',L⟩:=N;have P:g'=c.gens:=n.gens;have ed:W=c.drawn:=n.drawn;have R:L=c.os:=n.os;subst P ed R;have k:∀b o,c.heap.get? b=some o->h'.get? b=some o:=λb o e=>by
   have hb:=J_ e;refine n.heap b o (λD=>?_)<|DD _<|DD _ e;rcases aB.mp D with z|z
   ·have z:b=(c.heap.push<|revObj a<|(d.toArray.size:Int)-1).objs.size:=z;rw[z,C]at hb;exact absurd hb<|g_.mpr<|eA _
   ·have z:b=c.heap.objs.size:=by simpa using z
    rw[z]at hb;exact absurd hb<|c_ _
  have S:f.toList=d.reverse:=by
   refine gZ λj=>?_;have zao:f.toList.length=d.length:=by have:=l.1;simp at this ⊢;omega
   by_cases hj:j<d.length
   ·have h1:f[j]?=some (f[j]'(by have:=l.1;simp at this;omega)):=aH _;have h2:=l.2 j _ h1;rw[List.getElem?_reverse hj];have T:d[d.length-1-j]?=some (f[j]'(by have:=l.1;simp at this;omega)):=by simpa using h2
    rw[T];simpa using h1
   ·rw[dU<|by omega,dU<|by rw[j_];omega]
  refine⟨.ref (c.heap.push<|revObj a<|(d.toArray.size:Int)-1).objs.size,upd H1 (c.heap.push<|revObj a<|(d.toArray.size:Int)-1).objs.size<|.lst xs.reverse,
   B.laid (h':=h') (t':=t') k (by omega) (show Bg X.prog X.w _ h' _ (.lst xs.reverse) from⟨by rw[j_];exact hz,f.toList,c',by rw[S];exact E.reverse,by simpa using hS⟩),rfl,q _<|B.hok.fresh<|by omega⟩
end
def seven{n:Nat}(h:n<=1000):n<=sizeLine:=cH<|A5 h
end L2
namespace PySem
open Sem (wp)
open AutoSeq1 (wpAny_loadPart')
set_option maxRecDepth 100000
end PySem
namespace L2
open PySem PySem.Spec PyProof.Rows
def Na(ds:oA lR)(lo a:oB Int):oA lR:=(ds.drop<|HT.sIx ds.length 0 lo).take<|HT.sIx ds.length ds.length a-HT.sIx ds.length 0 lo
section
variable {X:Cx}{k:Nat}{aa:oA<|lT×l_}{σ:St}{H:Hp}{s:lQ}{h':lZ}
noncomputable def Qs(h:lZ)(e:lR)(u:lP):Bool:=@decide (∃d a,Reads h u d a/\d.canLay0=true/\PyData.eqv d e=true) (Classical.propDecidable _)
def MS{h:lZ}{e d:lR}{u:lP}{as:oA lT}(r:Reads h u d as)(c:d.canLay0=true):Qs h e u=PyData.eqv d e:=by
 unfold Qs;cases q:PyData.eqv d e with
 |true=>exact @aZ _ (Classical.propDecidable _) ⟨d,as,r,c,q⟩
 |false=>refine @aS _ (Classical.propDecidable _) λf=>?_;obtain⟨g,a,i,_,b⟩:=f;rw[SeqAt.Reads.unique d g u as a c r i,b]at q;cases q
theorem E1{A:lY}{s:lQ}{e:lR}{v:lP}{o:oA lT}(b:Reads s.heap v e o)(h:e.canLay0=true)(hu:A.units+64<cLine):∀{ds:oA lR} {a:oA lP} {as:oA lT},ReadsAll s.heap a ds as ->
  PyData.canLayAll0 ds=true->PyData.depthAll ds<=64->(∀u∈a,SeqAt.EqAt A s u v<|Qs s.heap e u)/\a.any (Qs s.heap e)=ds.any λd=>PyData.eqv d e
 |[],_,_,r,_,_=>by cases r;exact⟨(λ_ z=>nomatch z),rfl⟩
 |d::ds,_,_,r,c,m=>by
  cases r with
  |cons g i=>
   simp only[PyData.canLayAll0,Bool.and_eq_true]at c;simp only[PyData.depthAll]at m;obtain⟨n,j⟩:=E1 b h hu i c.2 (by omega);have f:=MS (e:=e) g c.1;refine⟨λu l=>?_,?_⟩
   ·rcases aB.mp l with rfl|z
    ·rw[f];exact jK d e A s _ v _ _ g b c.1 h<|by omega
    ·exact n u z
   ·rw[dX,dX,f,j]
def Inv.turnedL{t':Nat}{fp:oA lT}(I:Inv X aa σ H s)(k:∀b o,b∉fp->s.heap.get? b=some o->h'.get? b=some o)(a:∀b∈fp,Ja X aa H b):Inv X aa σ H {s with heap:=h',toks:=t'}:=by
 have d:∀b u,H b=some u->b∉fp:=λb u e z=>by rw[(a b z).1]at e;cases e
 have w:X.env.locals∉fp:=λz=>(a _ z).2.1 rfl;refine I.step (g':=s.gens) (d':=s.drawn) (ch:=fp) (λb hb=>?_) (λb o _ _ hc e _=>k b o hc e) (λb o _ _ hc e _=>⟨o.slots,k b o hc e⟩) (λ_ _ _ _ n=>n)
  (λb o hc e=>⟨o,k b o hc e⟩) (λ_ _ e=>e) (λ_ _ _ e=>e) (λb x e=>⟨#[],by rw[e];simp⟩) (λm g=>?_) (λb u e=>?_) I.bare
 ·obtain⟨_,h,_,l,j,p⟩:=a b hb;exact⟨l,h,j,p⟩
 ·obtain⟨o,t,i,f,r⟩:=g;exact⟨o,t,i,k _ o w f,r⟩
 ·refine(I.hok b u e).stay (λc v hc q=>k c v ?_ q) (λ_ q=>q) λ_ _ q=>q;rcases hc with z|z
  ·rw[z];exact d b u e
  ·exact d c _ z
def Inv.track{T:lT}{o:HO}(I:Inv X aa σ H s)(f:Ja X aa H T)(d:Bg X.prog X.w (upd H T o) s.heap T o):Inv X aa σ (upd H T o) s:=by
 obtain⟨i,h,_,p,l,r⟩:=f;have a:∀b u,H b=some u->b≠T:=λb u e z=>by rw[z,i]at e;cases e
 refine I.step (H':=upd H T o) (h':=s.heap) (g':=s.gens) (d':=s.drawn) (t':=s.toks) (ch:=[T]) (λb hb=>?_) (λb o _ _ _ e _=>e) (λb o _ _ _ e _=>⟨o.slots,e⟩)
  (λb u hc _ n=>by rw[Ao λz=>hc<|by simp[z]];exact n) (λb o _ e=>⟨o,e⟩) (λb j e=>by rw[Ao<|a b _ e];exact e) (λb u v e=>by rw[Ao<|a b _ e];exact e)
  (λb t e=>⟨#[],by rw[Ao<|a b _ e,e];simp⟩) (λm g=>g) (λb u e=>?_) I.bare
 ·have e:b=T:=by simpa using hb
  subst e;exact⟨p,h,l,r⟩
 ·by_cases hb:b=T
  ·subst hb;rw[Bc]at e;cases e;exact d
  ·rw[Ao hb]at e;exact(I.hok b u e).stay (λ_ _ _ q=>q) (λc q=>by rw[Ao<|a c _ q];exact q) λc j q=>by rw[Ao<|a c _ q];exact q
def Yw{J:It}{g:TG}{l:TS}{D:Ends}{σ:St}{H:Hp}(n:Nat)(b:Nat->St->Hp->Prop)(h0:b 0 σ H)(q:∀i σ H,i<n->b i σ H->J.go i H)(r:∀ σ H,b n σ H->J.stop n H/\D.nx σ H)
  (hs:∀i x σ H f,i<n->b i σ H->J.yld i H x f->g x σ f λd t=>l {D with nx:=b<|i+1,ct:=b<|i+1,bk:=D.nx} d t) :
  ∃W:Nat->Nat->St->Hp->Prop,(∃m,W 0 m σ H)/\∀i m σ H,W i m σ H ->
   (J.stop i H/\D.nx σ H)\/(J.go i H/\∃N:St->Hp->Prop,(∀ c a,N c a->∃j,j<m/\W (i+1) j c a)/\∀x a,J.yld i H x a->g x σ a λd f=>l {D with nx:=N,ct:=N,bk:=D.nx} d f):=by
 refine⟨λi m σ H=>m=n-i/\i<=n/\b i σ H,⟨n,by simp,aE _,h0⟩,?_⟩;rintro i m σ H ⟨rfl,u,p⟩;by_cases h:i<n
 ·exact .inr ⟨q i σ H h p,b<|i+1,λc a o=>⟨n-(i+1),by omega,rfl,h,o⟩,λx a y=>hs i x σ H a h p y⟩
 ·have e:i=n:=by omega
  subst e;exact .inl<|r σ H p
def RY(i j l:Nat)(a:TA):TS:=λD σ H=>a σ H λc b=>∃u v w,c=[u,v,w]/\D.nx (((σ.set i<|some u).set j<|some v).set l<|some w) b
def FM{i j l:Nat}{x y z:Str}{a b c:lX}{M:TA}{J t B L n:Pos}{kt k2 gc}(hc:X.calm=true)(F:X.N.Nodup)(U:X.N[i]?=some x)(hj:X.N[j]?=some y)(Z:X.N[l]?=some z)(j9:i≠j)(Y:i≠l)(G:j≠l)
  (hx:X.env.scope.names.lookup x=some .local) (hy:X.env.scope.names.lookup y=some .local) (hz:X.env.scope.names.lookup z=some .local) (ha:PA X [a,b,c] M)
  (hw:swappedStores [.Tuple [.Name x J,.Name y t,.Name z B] kt L] (.Tuple [a,b,c] k2 gc) X.env=pure (some [x,y,z]))
  (hs:swapsWithSole [.Tuple [.Name x J,.Name y t,.Name z B] kt L] (.Tuple [a,b,c] k2 gc) n.line X.env=pure false:=by rfl) :
  PS X (.Assign [.Tuple [.Name x J,.Name y t,.Name z B] kt L] (.Tuple [a,b,c] k2 gc) n) (RY i j l M):=by
 intro aa s σ H D I h;rw[exec_Assign_arm];refine A_<|iF ?_;rw[hs];refine A_<|B_ ?_;rw[I_<|by decide];refine A_<|Tuple_<|thn (ha _ aa s σ H _ I h) λus d xl=>?_;obtain⟨vs,O,I1,r1,r⟩:=xl;obtain⟨u,v,w,C,r⟩:=r;subst C;obtain⟨g,f,m,rfl,ru,rv,W⟩:∃g f m,us=[g,f,m]/\Ba u g/\Ba v f/\Ba w m:=by
  cases r1 with
  |cons p q=>
   cases q with
   |cons Q q'=>
    cases q' with
    |cons oq E=>cases E;exact⟨_,_,_,rfl,p,Q,oq⟩
 refine aC ?_ (by show 3<=sizeLine;decide);have S:Inv X aa σ O {d with heap:=d.heap.push {cls:=.type "tuple",data:=.seq [g,f,m].toArray}}:=I1.kept (t':=d.toks) λb o e=>DD _ e;rw[hw];refine A_<|B_ ?_;show qU X.prog X.w X.A (do rule "assign.swapped-stores";let items <- unpackItems (.ref d.heap.objs.size) 3 none;assignInOrder [λv=>bindName X.env z v,λv=>bindName X.env y v,λv=>bindName X.env x v] items.reverse;pure Flow.next) _ _ _;refine A_<|cV<|A_<|unpackItems_tuple (items:=#[g,f,m]) (I.ok.hd hc) (IsTup.new d.heap _) λh' hx'=>?_;have I3:=S.kept (h':=h') (t':=d.toks) λb o e=>hx' b o (T_<|J_ e) e;show wpAny _ _ (assignInOrder [λv=>bindName X.env z v,λv=>bindName X.env y v,λv=>bindName X.env x v] [m,f,g]>>=λ_=>pure Flow.next) _ _ _;refine A_<|fL<|iR<|Dm I3 F Z (.inl hz) W (λs2 I4=>?_)<|.inr hz;refine fL<|iR<|Dm I4 F hj (.inl hy) rv (λs3 R=>?_)<|.inr hy;refine fL<|iR<|Dm R F U (.inl hx) ru (λs4 P=>kO<|B_ ?_)<|.inr hx;have C:((σ.set l<|some w).set j<|some v).set i (some u)=((σ.set l<|some w).set i<|some u).set j (some v):=kW _ _<|dI j9;have T:(σ.set l<|some w).set i (some u)=(σ.set i<|some u).set l (some w):=kW _ _<|dI Y;have V:((σ.set i<|some u).set l<|some w).set j (some v)=((σ.set i<|some u).set j<|some v).set l (some w):=kW _ _<|dI G;rw[C,T,V]at P;exact⟨_,O,P,r⟩
def Nb:Gv X (binaryOp .Mult) (λx y H Q=>∃z n,x=.str z/\y=.int n/\(n=0\/n=1)/\Q (.str<|if n=0 then Str.empty else z) H):=by
 intro aa s σ H x y v u Q I a c h;obtain⟨z,n,rfl,rfl,b,q⟩:=h;obtain⟨t,rfl⟩:=a;obtain⟨d,rfl⟩:=c;rcases b with rfl|rfl
 ·exact P.mul_str_none (by decide) (by decide) ⟨.str Str.empty,H,I.tok _,⟨_,rfl⟩,by simpa using q⟩
 ·refine P.mul_str (by decide) (λ_ z=>by simp at z) (λ_ z=>by simp at z) ?_;rw[I_<|by decide,N_<|by simp];exact⟨.str z,H,I,⟨_,rfl⟩,by simpa using q⟩
end
end L2
namespace HT
open PySem PySem.Spec PyProof.Rows
section
variable {prog:lV}{w:lW}{A:lY}{E:lP->lQ->Prop}{s:lQ}
def getItem_tuple_all{t c:lT}{items:oC lP}{j g:lP}{lo b:oB Int}{Q:lP->lQ->Prop}(a:IsTup s.heap t items)(hs:s.heap.IsSliceOf c j g .none)(pl:IsPart j lo)(m:IsPart g b)
  (i:sIx items.size 0 lo=0/\sIx items.size items.size b=items.size)
  (h:Q (.ref t) s):qU prog w A (getItem (.ref t)<|.ref c) Q E s:=by
 obtain⟨os,d,l,k⟩:=id hs;have f:s.TypeIs (.ref c) "slice" := ⟨os,d,l⟩;unfold getItem
 try with_reducible refine bB ?_
 first|refine A_ (B_ ?_)|skip
 refine A_ (wpAny_sequenceKey a.typeIs (by decide) ?_);refine A_<|bG (name:=Str.ofString "__getitem__") a.typeIs cU
  (aU cU a.typeIs entry_tuple_getitem ?_<|args_tuple_getitem _ _)
 show wpAny _ _ (Builtin.Tuple.tupleItemsOf (.ref t)>>=_) _ _ s;refine A_<|tupleItemsOf_ a ?_;refine A_<|fG f ?_;rw[N_<|by decide];refine A_<|Ey hs pl m ?_;have e:(((sIx items.size 0 lo:Nat):Int)==0&&(1:Int)==1&&(sIx items.size items.size b-sIx items.size 0 lo)==items.size)=true:=by rw[i.1,i.2];simp
 show wpAny _ _ (if(((sIx items.size 0 lo:Nat):Int)==0&&(1:Int)==1&&(sIx items.size items.size b-sIx items.size 0 lo)==items.size)=true then _ else _) _ _ s;rw[N_ e];unfold Builtin.Tuple.tupleIsExact;refine A_<|A_<|fG a.typeIs<|B_ ?_;rw[N_<|by decide];refine A_<|cV ?_
 first
  |exact B_ ⟨_,rfl,B_ h⟩
  |exact A_ (B_<|B_ ⟨_,rfl,B_ h⟩)
  |exact A_<|B_ ⟨_,rfl,B_ h⟩
end
end HT
namespace L2
open PySem PySem.Spec PyProof.Rows
section
variable {X:Cx}
def Yx{ds:oA lR}{lo a:oB Int}(h:HT.sIx ds.length 0 lo=0/\HT.sIx ds.length ds.length a=ds.length):Na ds lo a=ds:=by unfold Na;rw[h.1,h.2,kE,Nat.sub_zero,fJ<|G_ _]
end
end L2
namespace PySem
open Sem (wp)
open AutoSeq1 (wpAny_loadPart')
set_option maxRecDepth 100000
section
variable {prog:lV}{w:lW}{K:Type} [DecidableEq K]
end
end PySem
namespace L2
open PySem PySem.Spec PyProof.Rows
section
variable {X:Cx}{K:lU}{o e:lX}{es:oA lX}{to:TE}{t:TA}{name:Str}{ap aj:Pos}{T id:String}{r:V->oA V->Hp->VK->Prop}
theorem Dz{f g:Type}{F:f->g->Prop}:∀{c:oA f} {d:oA g} {j:Nat} {a:f},Paired F c d->c[j]?=some a->∃b,d[j]?=some b/\F a b
 |_,_,_,_,.nil,e=>by simp at e
 |_,_,0,_,.cons r _,e=>by simp at e;subst e;exact⟨_,rfl,r⟩
 |_,_,j+1,a,.cons _ t,e=>by obtain⟨b,h1,h2⟩:=Dz (j:=j) (a:=a) t (by simpa using e);exact⟨b,by simpa using h1,h2⟩
def V6:IR X "str.join" (λx b H Q=>∃z p a,x=.str z/\b=[.ref p]/\H p=some (.lst<|a.map V.str)/\(a.map (·.length)).sum+a.length*z.length<=16777216/\Q (.str<|Txt.join z a) H):=by intro g s j H x b v i Q I d r h;obtain⟨z,p,a,f,c,hp,hz,q⟩:=h;exact FK g s j H x b v i Q I d r ⟨z,p,a,f,c,Ff.of hp,hz,q⟩
end
def Cal(P:lV)(w:lW)(K:lU)(b:Str->oB lP)(base:lZ)(n:Nat)(x:Str)(ps:oA Str)(sp:Sp):Prop :=
 ∃g a,FnOk P w K b base Eh n g a ps sp/\Binds K a ps []/\PySem.W.keepIn K (.ref g)=true/\b x=some (.ref g)
def Cal.mono{P:lV}{w:lW}{K:lU}{a:Str->oB lP}{base:lZ}{n m:Nat}{x:Str}{ps:oA Str}{sp:Sp}(c:Cal P w K a base n x ps sp)(h:n<=m):Cal P w K a base m x ps sp :=
 by obtain⟨g,b,G,r⟩:=c;exact⟨g,b,G.mono h,r⟩
end L2
namespace L2
open PySem PySem.Spec PySem.Calls PyProof.Rows
section
variable {prog:lV}{w:lW}{A:lY}{E:lP->lQ->Prop}{s:lQ}{K:lU}{x C:lT}{ox:l_}{od:oB l_}{name:Str}{h:lZ}{g:oC GenState}{d:Drawn}{t:Nat}{os:OsState}
def RZ{tk:Tok}{R:mH->lQ->Prop}(X:K.In s.heap)(I:PySem.W.InstAt s.heap x ox C od)(c:PySem.W.mroIn K C (.type "BaseException")=some true)
  (h:qU prog w A.in1 (Builtin.«object.__getattribute__» ⟨[.ref x,.str name tk],[]⟩)
   (λb a=>match b with|.done f=>R (.ok f) a|.again c'=>c'.quiet=true/\codeAny (model prog w) A c' R a) (λe a=>R (.error e) a) s) :
  codeAny (model prog w) A (.call (.builtin "BaseException.__getattribute__") ⟨[.ref x,.str name tk],[]⟩) R s:=by
 have hk:builtinKind "BaseException.__getattribute__" = some .slot:=by decide +kernel
 have i:splitId "BaseException.__getattribute__" = some ("BaseException","__getattribute__"):=by decide +kernel
 have sub:PySem.W.Looks (model prog w) s.heap (isInstance (.ref x)<|.type "BaseException") true:=I.type.andThen<|gB X c;exact hJ F.excAttr_ValueError.ga.plain F.entry_bexc_ga<|@PySem.W.check_slot (model prog w) _ _ s "BaseException.__getattribute__" "BaseException" "__getattribute__" (.ref x) [.str name tk] [] _ hk i sub (F.args_bexc_ga _ _) h
abbrev SB:oA lP:=[.type "ValueError",.type "Exception",.type "BaseException",.type "object"]
def SC(K:lU)(C:lT)(a:ClassData)(b:oC<|oB lP):Bool:=a.mro.head?==some (.ref C) && !a.hasDel&&PySem.W.tailIn K SB a.mro.tail&&b.size==6&&b[4]?==some (some<|.builtin "ValueError.__new__")
def Jc(K:lU)(C:lT):Bool:=match K.lookup C with
 |some o=>o.cls==.type "type" && (match o.data with
  |.cls a=>SC K C a o.slots
  |_=>false)
 |none=>false
def MT{i:oC<|oB lP}{v:oB lP}(h:i.size=6)(e:i[4]?=some v):∃y o z q u,i=#[y,o,z,q,v,u]:=by
 obtain⟨l⟩:=i;have s:∀{n:Nat} {l:oA<|oB lP},l.length=n+1->∃a t,l=a::t/\t.length=n:=λ{n l} h=>by
  cases l with
  |nil=>cases h
  |cons a t=>exact⟨a,t,rfl,h_ h⟩
 obtain⟨a,_,rfl,h1⟩:=s h;obtain⟨b,_,rfl,h2⟩:=s h1;obtain⟨c,_,rfl,r⟩:=s h2;obtain⟨d,_,rfl,p⟩:=s r;obtain⟨k,_,rfl,j⟩:=s p;obtain⟨f,_,rfl,m⟩:=s j;cases dQ m;have:k=v:=by simpa using e
 subst this;exact⟨a,b,c,d,f,rfl⟩
def Tk{K:lU}{h:lZ}{C:lT}(X:K.In h)(q:Jc K C=true):∃l n N k a G f sub v i dd j b u e r,
  h.get? C=some (excClassObj l n C N k a G f sub v i dd j b u e r "ValueError.__new__")/\OwnTail h SB a:=by
 unfold Jc at q;cases ho:K.lookup C with
 |none=>rw[ho]at q;cases q
 |some o=>
  rw[ho]at q;obtain⟨M,dd,od,L⟩:=o;dsimp only at q;rw[bH,kF]at q;obtain⟨H,q⟩:=q;cases od with
  |cls D=>
   unfold SC at q;simp only[Bool.and_eq_true,beq_iff_eq,Bool.not_eq_true']at q;obtain⟨⟨⟨⟨c,z⟩,y⟩,J⟩,I⟩:=q;obtain⟨j,b,u,e,r,rfl⟩:=MT J I;obtain⟨l,k,p,ns,n,F,f,sub,v,i,B⟩:=D;dsimp only at c z y;subst H z;cases p with
   |nil=>cases c
   |cons m a=>cases c;exact⟨l,n,ns,k,a,F,f,sub,v,i,dd,j,b,u,e,r,X _ _ ho,PySem.W.tail_of_in X y⟩
  |_=>cases q
def D1(C t:lT)(d:oB lT):l_:={cls:=.ref C,dict:=d,data:=.fields #[.ref t,.none,.none,.none,.bool false,.none]}
def C5(h:lZ)(C:lT)(rest:oA lP):lZ:=(h.push {cls:=.type "tuple",data:=.seq rest.toArray}).push<|D1 C h.objs.size none
def Q9{rest:oA lP}{k:lT}{Q:Fin->lQ->Prop}(X:K.In h)(q:Jc K C=true)(y:PySem.W.findIn K (.ref C) "__init__" = some (some<|.ref k)) (u:PySem.W.typeIn K (.ref k)=some (.type "function"))
  (hq:wpAny (model prog w) A (call (.ref k)<|.ref (h.objs.size+1)::rest) (λr m=>r=.none/\Q (.done<|.ret<|.ref<|h.objs.size+1) m) E ⟨C5 h C rest,g,d,t,os⟩) (B:rest.length<=sizeLine) :
  wpAny (model prog w) A (Builtin.«type.__call__» ⟨.ref C::rest,[]⟩) Q E ⟨h,g,d,t,os⟩:=by
 obtain⟨S,V,N,R,z,U,L,sub,Z,O,dd,P,H,I,J,Y,f,T⟩:=Tk X q;have i:=F.excBase_ValueError
 repeat (first|with_reducible refine kR f ?_|with_reducible refine wpAny_madeBy_exc f ?_|wp_step)
 refine codeAny_call_builtin_code (kG _ i.quiet) (wpAny_check_new_subU (bmB:=SB) i (by decide +kernel) T f ?_);refine codeAny_exc_new_subU (bmB:=SB) i (by decide +kernel) i T f ?_ B;show wpAny _ _ _ _ _ ⟨C5 h C rest,g,d,t,os⟩;have n:∀b o,h.get? b=some o->(C5 h C rest).get? b=some o:=λb o e=>DD _<|DD _ e;have a:=n _ _ f;have l:(C5 h C rest).get? (h.objs.size+1)=some (D1 C h.objs.size none):=by unfold C5;exact iV (by simp only[Heap.size_push]) rfl
 have j:(Value.ref C::z).contains (.ref C)=true:=by simp
 have c:K.In (C5 h C rest):=λb o e=>n b o<|X b o e;have p:=PySem.W.looks_findIn (M:=model prog w) c y;have L2:=PySem.W.bind_fn (M:=model prog w) c (.ref<|h.objs.size+1) u;generalize C5 h C rest=h₁ at a l p L2 hq ⊢;unfold isInstance;have D:(D1 C h.objs.size none).cls=.ref C:=rfl
 repeat (first|(with_reducible refine kR l ?_;rw[D])|(with_reducible refine wpAny_isSubtype_exc a ?_;rw[j])|wp_step)
 show wpAny _ _ (typeLookup (.ref C) _) _ _ _;refine p.at ?_;refine bB<|A_<|L2.at ?_;refine A_<|bD hq (λr m v=>?_) λ_ _ x=>x;obtain⟨rfl,G⟩:=v
 wp_walk
 exact G
def xmake{rest:oA lP}{a:lT}{Q:lP->lQ->Prop}(X:K.In h)(q:Jc K C=true)(f:PySem.W.findIn K (.ref C) "__init__" = some (some<|.ref a)) (e:PySem.W.typeIn K (.ref a)=some (.type "function"))
  (hq:wpAny (model prog w) (A.under<|.builtin "type.__call__" ⟨.ref C::rest,[]⟩) (call (.ref a)<|.ref (h.objs.size+1)::rest) (λr c=>r=.none/\Q (.ref<|h.objs.size+1) c) E ⟨C5 h C rest,g,d,t,os⟩) (i:rest.length<=sizeLine) :
  wpAny (model prog w) A (call (.ref C) rest) Q E ⟨h,g,d,t,os⟩:=by
 obtain⟨y,B,N,v,D,z,m,sub,H,p,dd,u,j,G,l,F,b,T⟩:=Tk X q;have n:=tc_lookup;have o:=tc_bind<|.ref C;have k:(⟨h,g,d,t,os⟩:lQ).TypeIs (.ref C) "type" := ⟨_,b,rfl⟩;refine lL<|codeAny_of_tree ?_;show wpAny _ _ (callAny (.ref C) _) _ _ _
 repeat (any_goals (first|assumption|with_reducible refine kR b ?_|wp_step))
 refine⟨rfl,?_⟩;exact codeAny_call_builtin_at (kG _<|by decide +kernel) entry_typeCall<|wpAny_check_type_call_sub b<|Q9 X q f e hq i
end
def SD:lP->Bool
 |.ref _=>true
 |_=>false
theorem Ik(self:lP)(a:Str):∀l:oA lP,refuseLoop self a l=refuseLoop self a (l.dropWhile SD)
 |[]=>rfl
 |v::r=>by
  cases v with
  |ref c=>
   rw[refuseLoop_ref,Ik self a r]
   rfl
  |_=>rfl
def Ra(K:lU)(C:lT):Bool:=(PySem.W.clsIn K C).any λa=>a.mro.dropWhile SD==SB && !a.mro.isEmpty&&a.mro.contains (.type "object")
section
open Builtin Builtin.ObjectAttr
variable {prog:lV}{w:lW}{A:lY}{E:lP->lQ->Prop}{s:lQ}{K:lU}{x C:lT}{ox:l_}{od:oB l_}{name:Str}{v:lP}{R:mH->lQ->Prop}
def V7{tk:Tok}(X:K.In s.heap)(I:PySem.W.InstAt s.heap x ox C od)(hp:Ra K C=true)(ha:PySem.W.findIn K (.ref C) name=some none)
  (h:qU prog w A.in1 (storeInOwnDict (.ref x) (.ref C) (.str name tk) name v false)
   (λc b=>match c with|.done f=>R (.ok f) b|.again c'=>c'.quiet=true/\codeAny (model prog w) A c' R b) (λe b=>R (.error e) b) s) :
  codeAny (model prog w) A (.call (.builtin "object.__setattr__") ⟨[.ref x,.str name tk,v],[]⟩) R s:=by
 have a:=PySem.F.store_object;obtain⟨i,hc,d⟩:=PySem.W.any_some hp;simp only[Bool.and_eq_true,beq_iff_eq,Bool.not_eq_true']at d;obtain⟨⟨h1,ne⟩,j⟩:=d;have sub:PySem.W.Looks (model prog w) s.heap (isInstance (.ref x)<|.type "object") true:=I.type.andThen (gB X<|by unfold PySem.W.mroIn;rw[hc,Option.bind_some,I_<|by rw[ne];decide,j]);refine hJ a.slot.plain a.entry<|@PySem.W.check_slot (model prog w) _ _ s "object.__setattr__" "object" "__setattr__" (.ref x) [.str name tk,v] [] _ a.kind a.split sub (a.args (.ref x) (.str name tk) v) ?_;have g:PySem.W.Looks (model prog w) s.heap (mroOf<|.ref C) i.mro:=(PySem.W.looks_clsIn X hc).andThen .now;rw[PySem.W.osa_eq,refuse_eq];refine A_<|A_<|I.type.here<|A_<|g.here ?_;rw[Ik,h1,F.store_ValueError.passes];refine B_<|A_<|I.type.here<|A_<|(PySem.W.looks_findIn X ha).here<|A_<|B_ ?_;exact h
end
def XO(e C t:lT)(d:oB lT):HO:=.ext λh=>h.get? e=some (D1 C t d)
def XD(c:lT)(b:oA<|Str×V):HO:=.ext λh=>∃a,h.Ns1 c a/\(∀f,Gj (b.lookup f)<|a f)/\PySem.Within a (b.map (·.1))
section
variable {P:lV}{w:lW}{H:Hp}{h:lZ}{e C t dx:lT}{d:oB lT}{fs:oA<|Str×V}{X:Cx}{aa:oA<|lT×l_}{σ:St}{s:lQ}{f:Str}{v:V}{A:lY}{E:lP->lQ->Prop}
def IW(hx:h.get? e=some (D1 C t d)):Bg P w H h e (XO e C t d):=⟨hx,⟨_,hx⟩,λ_ _ p k=>k _ p⟩
def Yy(ok:HOk P w H h)(q:H e=some (XO e C t d)):h.get? e=some (D1 C t d):=(show Bg P w H h e (XO e C t d) from ok e _ q).1
def IX{a:Str->oB lP}(n:h.Ns1 dx a)(r:∀f,Gj (fs.lookup f)<|a f)(c:PySem.Within a<|fs.map (·.1)):Bg P w H h dx (XD dx fs) :=
 ⟨⟨a,n,r,c⟩,(by obtain⟨o,_,_,q,_⟩:=n;exact⟨o,q⟩),by rintro _ _ ⟨b,n,r⟩ k;exact ⟨b,n.at k,r⟩⟩
def FN(hx:h.get? e=some (D1 C t none)):PySem.W.InstAt h e (D1 C t none) C none:=⟨hx,rfl,rfl,trivial⟩
structure XCls(K:lU)(C:lT):Prop where
 ga:PySem.W.findIn K (.ref C) "__getattribute__" = some (some<|.builtin "BaseException.__getattribute__")
 gn:PySem.W.findIn K (.ref C) "__getattr__" = some none
 sa:PySem.W.findIn K (.ref C) "__setattr__" = some (some<|.builtin "object.__setattr__")
 hd:PySem.W.hasDictIn K C=true
 mb:PySem.W.mroIn K C (.type "BaseException")=some true
 mo:PySem.W.mroIn K C (.type "object")=some true
 ve:Ra K C=true
def ZT{H:Hp}{a b:lT}{o1 g i:HO}:upd (upd (upd H a o1) b g) a i=upd (upd H b g) a i:=by
 funext c
 unfold upd;by_cases h:c=a
 ·rw[N_ h,N_ h]
 ·rw[I_ h,I_ h,I_ h]
def SE{y:V}{u:lP}{Q:Unit->lQ->Prop}(I:Inv X aa σ H s)(he:H e=some (XO e C t none))(c:XCls X.K C)(n:Qz X.K C f)(G:Ba y u)
  (h:∀dx z,H dx=none->dx≠e->Inv X aa σ (upd (upd H e<|XO e C t<|some dx) dx<|XD dx [(f,y)]) z->Q () z):qU X.prog X.w A (setAttr (.ref e) f u) Q E s:=by
 have hx:=Yy I.hok he;have J:=FN hx;refine PySem.W.set_plain I.kIn J c.sa<|V7 (s:={s with toks:=s.toks+1}) I.kIn J c.ve n ?_;obtain⟨Y,hc,T⟩:=PySem.W.any_some c.hd;have hx':s.heap.get? e=some ⟨.ref C,none,.fields #[.ref t,.none,.none,.none,.bool false,.none],#[]⟩:=hx;refine A_<|B_<|A_<|A_<|wpAny_loadPart hx'<|A_<|PySem.W.Looks.here (s:={s with toks:=s.toks+1}) (PySem.W.looks_clsIn I.kIn hc) ?_;rw[T];have D:(s.heap.push {cls:=.type "dict",data:=.dict #[]}).get? e=some (D1 C t none):=DD _ hx;have k:e≠s.heap.objs.size:=T_<|J_ hx;show wpAny _ _ (if(!true || !typeHasDict (Value.ref C))=true then _ else _) _ _ _;rw[I_<|by simp[typeHasDict]];refine A_<|wpAny_alloc' ?_;refine A_<|wpAny_update' D ?_;refine B_ ?_;have p:((s.heap.push {cls:=.type "dict",data:=.dict #[]}).update e λo=>{cls:=o.cls,dict:=some s.heap.objs.size,data:=o.data,slots:=o.slots}).get? e=some (D1 C t<|some s.heap.objs.size):=aG _ D rfl;have i:((s.heap.push {cls:=.type "dict",data:=.dict #[]}).update e λo=>{cls:=o.cls,dict:=some s.heap.objs.size,data:=o.data,slots:=o.slots}).get? s.heap.objs.size
   = some {cls:=.type "dict",data:=.dict #[]}:=(Heap.get?_update_ne _ _ _ _ k.symm).trans<|iV rfl rfl
 have hnd:((s.heap.push {cls:=.type "dict",data:=.dict #[]}).update e λo=>{cls:=o.cls,dict:=some s.heap.objs.size,data:=o.data,slots:=o.slots}).Ns s.heap.objs.size (λ_=>none) :=
  ⟨_,#[],_,i,rfl,λe he=>absurd he<|by simp,λ_=>rfl⟩
 have B:∀b o,b≠e->(s.heap.push {cls:=.type "dict",data:=.dict #[]}).get? b=some o->((s.heap.push {cls:=.type "dict",data:=.dict #[]}).update e λo=>{cls:=o.cls,dict:=some s.heap.objs.size,data:=o.data,slots:=o.slots}).get? b=some o :=
  λb o hb q=>(Heap.get?_update_ne _ _ _ _ hb).trans q
 have l:(s.heap.push {cls:=.type "dict",data:=.dict #[]}).Ns s.heap.objs.size (λ_=>none):=⟨_,#[],_,iV rfl rfl,rfl,λe he=>absurd he<|by simp,λ_=>rfl⟩;have M:=I.hok.fresh<|G_ s.heap.objs.size;have O:=I.laid (a:=s.heap.objs.size) (o:=XD s.heap.objs.size []) (h':=s.heap.push {cls:=.type "dict",data:=.dict #[]}) (t':=s.toks) (λb u q=>DD _ q) (G_ _)<|IX (Heap.Ns1.of_empty l) (λ_=>True.intro) λy hy=>absurd rfl hy;generalize va:(s.heap.push {cls:=.type "dict",data:=.dict #[]}).update e (λo=>{cls:=o.cls,dict:=some s.heap.objs.size,data:=o.data,slots:=o.slots})=h2 at p i hnd B ⊢;have R:=O.write (x:=e) (e:=e) (o:=XO e C t<|some s.heap.objs.size) (h':=h2) (t':=s.toks) (by rw[Ao k,he];exact True.intro) (.inl rfl) B ⟨_,p⟩<|IW p;show wpAny _ _ (Builtin.ObjectAttr.storeInDict s.heap.objs.size (.str f s.toks) f u) _ _ _;unfold Builtin.ObjectAttr.storeInDict Builtin.ObjectAttr.newKeyGuard;refine A_<|B_<|A_<|wpAny_nsSet1 (Heap.Ns1.of_empty hnd) λh' F U=>?_;obtain⟨Z,S,L,j,m,r⟩:=F.count<|PySem.Within.cons f u PySem.Within.nil;refine A_ (wpAny_lookBehind j (by rw[m];exact pastItsLine_dict<|K_ r<|by rw[aR,jW,kP];omega) ?_);refine B_ ?_;refine h s.heap.objs.size _ M k.symm ?_;rw[<- ZT (o1:=XD s.heap.objs.size [])];refine R.write (x:=s.heap.objs.size) (e:=s.heap.objs.size) (by rw[Ao k.symm,Bc];exact True.intro) (.inl rfl) (λb o hb q=>(U.2 b hb).trans q) ⟨_,j⟩<|IX F (λg=>?_) λg N=>?_
 ·show Gj (List.lookup g [(f,y)]) (if g=f then some u else none);by_cases q:g=f
  ·rw[N_ q,q];show Gj (List.lookup f [(f,y)]) (some u);have hb:(f==f)=true:=kF.mpr rfl;simp only[List.lookup,hb];exact G
  ·rw[I_ q];have hb:(g==f)=false:=fF.mpr q;simp only[List.lookup,hb];exact True.intro
 ·by_cases q:g=f
  ·rw[q];exact aV
  ·exact absurd (show(if g=f then some u else none)=none by rw[I_ q]) N
end
structure XMk(K:lU)(C f:lT):Prop where
 xc:Jc K C=true
 init:PySem.W.findIn K (.ref C) "__init__" = some (some<|.ref f)
 fn:PySem.W.isFn K (.ref f)=true
 kp:PySem.W.keepIn K (.ref C)=true
def MU(C:lT)(sp:Sp)(E:XK)(t:TA):TE:=λc H Q=>t c H λb a=>b.length<=1000/\∀x e,a x=none->sp (.ref x::b) (upd a x<|XO x C e none) (λv d=>v=.non/\Q (.ref x) d) E
section
variable {X:Cx}{CX:CXT}{k:Nat}{f C:lT}{fd:mD}{ps:oA Str}{sp:Sp}{E:XK}{x:Str}{p pos bp ap:Pos}{e o value:lX}{es:oA lX}{t:TA}{ta tv:TE}{fl:Str}
def V8{i:oA<|lT×l_}{j:St}{H:Hp}{s:lQ}{Q:VK}{c:oA lP}{m:oA V}(M:XMk X.K C f)(F:FnOk X.prog X.w X.K X.mg X.base CX k f fd ps sp)(T:Room (k+1) X.A)(hb:Binds X.K fd ps [])
  (hx:Passes CX X E) (I:Inv X i j H s) (r:Vals m c) (Z:m.length<=1000)
  (h:∀x P,H x=none->sp (.ref x::m) (upd H x<|XO x C P none) (λv D=>v=.non/\Q (.ref x) D) E) :
  qU X.prog X.w X.A (call (.ref C) c) (EP X i j Q) X.xe s:=by
 have hq:=h (s.heap.objs.size+1) s.heap.objs.size<|I.hok.fresh<|eA _;have O:Inv X i j H {s with heap:=s.heap.push {cls:=.type "tuple",data:=.seq c.toArray}}:=I.kept (t':=s.toks) λb u q=>DD _ q;have G:(C5 s.heap C c).get? (s.heap.objs.size+1)=some (D1 C s.heap.objs.size none):=by unfold C5;exact iV (by simp only[Heap.size_push]) rfl
 have n:Inv X i j (upd H (s.heap.objs.size+1)<|XO (s.heap.objs.size+1) C s.heap.objs.size none) {s with heap:=C5 s.heap C c} :=
  O.laid (a:=s.heap.objs.size+1) (t':=s.toks) (λb u q=>DD _ q) (fH<|bW _ _) (IW G)
 have z:Vals (V.ref (s.heap.objs.size+1)::m) (Value.ref (s.heap.objs.size+1)::c):=.cons rfl r;have Y:(Value.ref (s.heap.objs.size+1)::c++[]).length=ps.length:=by have e:=z.length;rw[F.len _ _ _ _ hq]at e;rw[cB];exact e.symm
 have y:=F.run _ X.stack _ _ ⟨Value.ref (s.heap.objs.size+1)::c,[]⟩ (Value.ref (s.heap.objs.size+1)::c++[]) _ _ E (T.make C c []) (n.env0.make C c []) (hb _ (Value.ref (s.heap.objs.size+1)::c) n.kIn Y) (by rw[cB];exact z) hq;have W:c.length<=sizeLine:=by have:=r.length;exact K_ (by omega)<|show 1000<=sizeLine by decide
 obtain⟨J,g,d,tt,os⟩:=s;refine xmake I.kIn M.xc M.init (kF.mp M.fn) (lL<|hV y λr N l=>?_) W;cases r with
 |error e=>exact hx i j _ _ e N n l
 |ok fl=>
  cases fl with
  |ret u=>obtain⟨v,U,B,S,L,R⟩:=n.after l;subst L;exact⟨S,⟨V.ref<|J.objs.size+1,U,B,rfl,R⟩⟩
  |next=>exact False.elim l
  |brk=>exact False.elim l
  |cont=>exact False.elim l
def Yz(M:XMk X.K C f)(F:FnOk X.prog X.w X.K X.mg X.base CX k f fd ps sp)(g:Room (k+1) X.A)(i:Gl X x)(d:X.mg x=some (.ref C))(hb:Binds X.K fd ps [])(hx:Passes CX X E)
  (ha:PA X (e::es) t) (hdb:(x==("__debug__" : Str))=false:=by decide) (he:starEach (e::es) X.env=(false,eval e X.env)::starEach es X.env:=by rfl) (hpl:(backTo pos<|starEach es X.env).any (·.1)=false:=by rfl) :
  PE X (.Call (.Name x p) (e::es) [] pos) (MU C sp E t):=by
 intro c s j H Q I h;refine bV<|G5 I i d ?_ hdb;refine kD (h₀:=X.base) I.ok.mod.kin M.kp (thn (ha pos c s j H _ I h) λl u ⟨n,m,a,r,b,q⟩=>⟨a.kIn,?_⟩) he hpl;exact V8 M F g hb hx a r b q
def sX1(K:lU)(ta tv:TE)(f:Str):TS:=λD b H=>tv b H λy d=>ta b d λx c=>∃e C t,x=.ref e/\c e=some (XO e C t none)/\XCls K C/\Qz K C f /\
 ∀a,c a=none->a≠e->D.nx b (upd (upd c e<|XO e C t<|some a) a<|XD a [(f,y)])
def SG(ha:PE X o ta)(hv:PE X value tv)(hs:swapsWith value (some<|.Attribute o fl bp) pos.line X.env=pure false):PS X (.Assign [.Attribute o fl bp] value pos) (sX1 X.K ta tv fl):=by intro b s a H D I h;refine plainObj_wpAny_Assign_Attribute (thn (hv b s a H _ I h) λu j ⟨y,A,i,G,q⟩=>thn (ha b j a A _ i q) λv L J=>?_) hs;obtain⟨x,M,m,g,e,C,t,r,l,c,n,F⟩:=J;subst r;obtain rfl:v=Value.ref e:=g;exact SE m l c n G λw N B z d=>⟨a,_,d,F w B z⟩
end
def XAt(H:Hp)(e C:lT):Prop:=∃t,H e=some (XO e C t none)\/∃a b,H e=some (XO e C t<|some a)/\H a=some (XD a b)
inductive Ctxs (h:lZ):lT->oA lT->Prop
 |nil {e:lT} {o:l_} {vs:oC lP}:h.get? e=some o->o.data=.fields vs->vs[2]?=some Value.none->Ctxs h e []
 |cons {e E:lT} {o:l_} {vs:oC lP} {l:oA lT}:h.get? e=some o->o.data=.fields vs->vs[2]?=some (Value.ref E)->Ctxs h E l->Ctxs h e (E::l)
def Ctxs.keep{h h':lZ}(k:∀b o (m:oC lP),h.get? b=some o->o.data=.fields m->∃f d,h'.get? b=some f/\f.data=.fields d/\d[2]?=m[2]?){e:lT}{l:oA lT}(c:Ctxs h e l):Ctxs h' e l:=by
 induction c with
 |nil a b c=>obtain⟨f,d,g,i,j⟩:=k _ _ _ a b;exact .nil g i (j.trans c)
 |cons a b c _ n=>obtain⟨f,d,g,i,j⟩:=k _ _ _ a b;exact .cons g i (j.trans c) n
def Ctxs.same{h h':lZ}(k:∀b o,h.get? b=some o->h'.get? b=some o){e:lT}{l:oA lT}(c:Ctxs h e l):Ctxs h' e l :=
 c.keep λb o f a d=>⟨o,f,k b o a,d,rfl⟩
structure ExcRec(h:lZ)(e:lT)(cls:lP)(d:oB lT)(vs:oC lP):Prop where
 at_:h.get? e=some ⟨cls,d,.fields vs,#[]⟩
 six:vs.size=6
 tb:vs[1]?=some .none\/∃T oT ts,vs[1]?=some (.ref T)/\T≠e/\h.get? T=some oT/\oT.data=.fields ts/\ts[3]?=some .none
 cx:∃l,Ctxs h e l
structure LeftBy(fs:oA lT)(e:lT)(cls:lP)(d:oB lT)(h h':lZ):Prop where
 size:h.objs.size<=h'.objs.size
 keep:∀b o,b∉fs->b≠e->h.get? b=some o->h'.get? b=some o
 slot:∀b o,b∈fs->h.get? b=some o->∃sl,h'.get? b=some {o with slots:=sl}
 rc:∃vs,ExcRec h' e cls d vs/\vs[1]?≠some .none
 wa:∃T,(∀vs,ExcRec h' e cls d vs->vs[1]?=some (.ref T))/\h.get? T=none
section
variable {M:Model}{A:lY}{E:lP->lQ->Prop}{s:lQ}{base:lZ}{env:Env}{outer:oA Env}{L e:lT}{cls:lP}{d:oB lT}{vs:oC lP}{prog:lV}{w:lW}{K:lU}{C:lT}{X:Cx}{aa:oA<|lT×l_}{σ:St}{H:Hp}{a:lT}{h':lZ}{D:lT}
def Tl{o:l_}(b:o.data=.fields vs)(g:oC lP->oC lP):o.mapFields g=⟨o.cls,o.dict,.fields<|g vs,o.slots⟩:=by obtain⟨c,f,dt,h⟩:=o;dsimp only at b;subst b;rfl
def Ei{g:lP}{lx:Bool}{Q:Unit->lQ->Prop}(Y:A.frames=some (env::outer))(N:s.heap.FunFrames base<|env::outer)(Z:env.frame=some L)(he:s.heap.get? e=some ⟨cls,d,.fields vs,#[]⟩)(k:vs.size=6)(B:∃l,Ctxs s.heap e l)
  (h:∀h',LeftBy (frs<|env::outer) e cls d s.heap h'->Q () {s with heap:=h'}) :
  wpAny M A (do let U <- frameOf env;let place <- entryPlaceOf L lx;let x <- EntryCells.newEntry g U .none (rawInt L) .none place;setField (.ref e) 1 x) (λ_ W=>wpAny M A (setFlight (.ref e) none) Q E W) E s:=by
 have n:e∉frs (env::outer):=λhm=>by obtain⟨_,o,q,nf⟩:=N.mem hm;rw[he]at q;cases q;exact nf vs rfl
 refine A_<|wpAny_frameOf_fun Y N Z λh1 i=>?_;refine A_<|wpAny_entryPlaceOf λP V=>?_;unfold EntryCells.newEntry newFields;have S:h1.get? e=some ⟨cls,d,.fields vs,#[]⟩:=(i.2.1 e n).trans he;have y:h1.objs.size≠e:=fV<|J_ S;refine A_<|aC ?_<|V.sizeOk5 _ _ _ _ _;generalize ym:([g,Value.ref L,Value.none,rawInt L,Value.none]++if P.isEmpty=true then List.replicate 6 Value.none else P).toArray=ts;have T:5<=ts.size:=by rw[<- ym];simp
 have p:=DD (h:=h1) {cls:=.type "traceback",dict:=none,data:=.fields ts} S;refine cY p rfl (by rw[k];decide) ?_;dsimp only;have J:=aG (Obj.mapFields (·.setIfInBounds 1 (Value.ref h1.objs.size))) p rfl;have F:((h1.push {cls:=.type "traceback",dict:=none,data:=.fields ts}).update e<|Obj.mapFields (·.setIfInBounds 1 (Value.ref h1.objs.size))).get? h1.objs.size=some {cls:=.type "traceback",dict:=none,data:=.fields ts} :=
  (bC _ _ y.symm).trans (H_ h1 rfl)
 unfold setFlight;refine A_ (bL J rfl (x:=.ref h1.objs.size) (by simp[k]) ?_);rw[N_<|by simp];refine cY F rfl (by omega)<|h _ ?_;generalize m:(h1.push {cls:=.type "traceback",dict:=none,data:=.fields ts}).update e (Obj.mapFields (·.setIfInBounds 1 (Value.ref h1.objs.size)))=h3 at J F;have eT:=aG (Obj.mapFields (·.setIfInBounds 3 ((none:oB lT).elim Value.none λf=>rawInt f))) F rfl;have t:∀b o,b≠e->h1.get? b=some o->(h3.update h1.objs.size<|Obj.mapFields (·.setIfInBounds 3 ((none:oB lT).elim Value.none λf=>rawInt f))).get? b=some o:=λb o hb q=>by have u:h1.objs.size≠b:=fV<|J_ q;rw[bC _ _ u,<- m,bC _ _<|dI hb];exact DD _ q
 have j:(h3.update h1.objs.size<|Obj.mapFields (·.setIfInBounds 3 ((none:oB lT).elim Value.none λf=>rawInt f))).get? e=some ⟨cls,d,.fields<|vs.setIfInBounds 1<|.ref h1.objs.size,#[]⟩:=by rw[bC _ _ y];exact J
 refine⟨?_,λb o hb r q=>t b o r<|(i.2.1 b hb).trans q,λb o hb q=>?_,⟨_,⟨j,by simp[k],.inr ⟨h1.objs.size,_,_,by simp[k],y,eT,rfl,?_⟩,B.imp λl c=>c.keep λb o G q I=>?_⟩,by simp[k]⟩,⟨h1.objs.size,λG R=>?_,?_⟩⟩
 ·rw[iA,<- m,iA,bW,i.1];exact eA _
 ·obtain⟨O,v⟩:=i.2.2 b o q;exact⟨O,t b _ (λz=>n<|z ▸ hb) v⟩
 ·show(ts.setIfInBounds 3 Value.none)[3]?=some Value.none;rw[dC,N_ rfl,N_<|by omega]
 ·have:=R.at_.symm.trans j;cases this;simp[k]
 ·exact Heap.get?_none_of_le<|by rw[i.1];exact G_ _
 ·by_cases r:b=e
  ·subst r;rw[he]at q;cases q;cases I;exact⟨_,_,j,rfl,by rw[dC,I_<|by decide]⟩
  ·by_cases hb:b∈frs (env::outer)
   ·obtain⟨O,v⟩:=i.2.2 b o q;exact⟨_,G,t b _ r v,I,rfl⟩
   ·exact⟨o,G,t b o r<|(i.2.1 b hb).trans q,I,rfl⟩
def Y0{Q:Unit->lQ->Prop}(u:A.frames=some (env::outer))(n:s.heap.FunFrames base<|env::outer)(l:env.frame=some L)(R:ExcRec s.heap e cls d vs)
  (h:∀h',LeftBy (frs<|env::outer) e cls d s.heap h'->Q () {s with heap:=h'}):wpAny M A («leaving» env<|.ref e) Q E s:=by
 unfold «leaving» noteFrame;simp only[l];rcases R.tb with h1|⟨T,G,ts,h1,I,i,g,j⟩
 ·refine A_<|A_<|bL R.at_ rfl h1 ?_;rw[I_<|by decide];exact Ei u n l R.at_ R.six R.cx h
 ·refine A_<|A_<|bL R.at_ rfl h1 ?_;rw[N_<|by simp];refine A_<|bL i g j ?_;rw[I_<|by simp[rawInt]];have p:3<ts.size:=(cZ.mp j).1;refine A_<|cY i g p ?_;have same:s.heap.update T (Obj.mapFields (·.setIfInBounds 3 Value.none))=s.heap\/True:=.inr trivial;have F:(s.heap.update T<|Obj.mapFields (·.setIfInBounds 3 Value.none)).get? T=some G:=by
   have q:=aG (Obj.mapFields (·.setIfInBounds 3 Value.none)) i<|dW<|bX g _;rw[q,Tl g];have:ts.setIfInBounds 3 Value.none=ts:=by
    apply Array.ext_getElem?;intro k;rw[dC];by_cases hk:3=k
    ·subst hk;rw[N_ rfl,N_ p,j]
    ·rw[I_ hk]
   rw[this,<- g]
  have f:∀b o,s.heap.get? b=some o->(s.heap.update T<|Obj.mapFields (·.setIfInBounds 3 Value.none)).get? b=some o:=λb o q=>by
   by_cases hb:T=b
   ·subst hb;rw[F,<- q,i]
   ·rw[bC _ _ hb];exact q
  refine Ei (s:={s with heap:=s.heap.update T<|Obj.mapFields (·.setIfInBounds 3 Value.none)}) u (n.of_keeps λb o q _=>⟨o,f b o q,rfl⟩) l (f _ _ R.at_) R.six (R.cx.imp λ_ c=>c.same f) λh' ⟨t,B,v,y,N⟩=>h h' ⟨?_,λb o hb J q=>B b o hb J<|f b o q,λb o hb q=>v b o hb<|f b o q,y,?_⟩
  ·rw[iA]at t;exact t
  ·obtain⟨m,x,r⟩:=N;refine⟨m,x,?_⟩;cases z:s.heap.get? m with
   |none=>rfl
   |some o=>rw[f _ _ z]at r;cases r
def Y1{x:Sem lP}{Q:Flow->lQ->Prop}(i:A.handled=none)
  (h:qU prog w A x (λv b=>∃e C d vs,v=.ref e/\K.In b.heap/\b.heap.get? e=some ⟨.ref C,d,.fields vs,#[]⟩/\vs[1]?=some .none/\Jc K C=true/\PySem.W.mroIn K C (.type "BaseException")=some true/\E (.ref e) b) E s) :
  qU prog w A (raiseStmt env (some x) none) Q E s:=by
 unfold raiseStmt;refine A_<|bD h (λv b h1=>?_) λ_ _ z=>z;obtain⟨e,C,d,vs,rfl,X,he,h1,hc,k,m⟩:=h1;obtain⟨B,G,N,y,J,F,r,sub,R,t,dd,u,o,P,p,O,j,_⟩:=Tk X hc;obtain⟨hp,g,q,I,os⟩:=b;have c:PySem.W.Looks (model prog w) hp (typeOf<|.ref e) (.ref C):=(gH he).andThen .now;have n:PySem.W.Looks (model prog w) hp (typeOf<|.ref C) (.type "type"):=(gH j).andThen .now;have f:PySem.W.Looks (model prog w) hp (isType<|.ref e) false:=(gH he).andThen .now;have l:PySem.W.Looks (model prog w) hp (isInstance (.ref e)<|.type "BaseException") true:=c.andThen<|gB X k;refine A_<|B_ ?_;refine A_<|bB ?_;unfold excFromValue isExcClass;refine A_<|A_<|f.at<|B_ ?_;rw[I_<|by decide];refine A_<|l.at ?_;rw[N_ rfl];refine B_ ?_;refine A_<|f.at ?_;dsimp only;rw[I_<|by decide];unfold raisedInstance;refine A_<|A_<|c.at<|A_<|n.at ?_;rw[N_<|by decide];refine B_ ?_;unfold setFlight;refine A_<|A_<|bL he rfl h1 ?_;rw[I_<|by decide];exact B_<|wpAny_raiseNew_none i m
def Rb{ex:lX}{b:Pos}{Q:Flow->lQ->Prop}(f:A.handled=none)
  (h:qU prog w A (eval ex env) (λv c=>∃e C d vs,v=.ref e/\K.In c.heap/\c.heap.get? e=some ⟨.ref C,d,.fields vs,#[]⟩/\vs[1]?=some .none/\Jc K C=true/\PySem.W.mroIn K C (.type "BaseException")=some true/\E (.ref e) c) E s) :
  qU prog w A (exec (.Raise (some ex) none b) env) Q E s:=by
 rw[arm_exec_Raise];refine A_<|iF ?_;show qU prog w A (raiseStmt env (some<|do let v <- eval ex env;standAt b;pure v) none) Q E s;refine Y1 (K:=K) f<|A_<|bD h (λv c h1=>A_<|iF<|B_ h1) λ_ _ z=>z
def XR(e C:lT)(d:oB lT):HO:=.ext λh=>∃vs:oC lP,h.get? e=some ⟨.ref C,d,.fields vs,#[]⟩/\vs.size=6
def IY{P:lV}{w:lW}{H:Hp}{h:lZ}{e C:lT}{d:oB lT}{vs:oC lP}(hx:h.get? e=some ⟨.ref C,d,.fields vs,#[]⟩)(b:vs.size=6):Bg P w H h e (XR e C d) :=
 ⟨⟨vs,hx,b⟩,⟨_,hx⟩,by rintro _ _ ⟨vs,p,q⟩ k;exact ⟨vs,k _ p,q⟩⟩
def MV(P:lV)(w:lW):CXT:=λouter H s E e b=>∃a C d c,e=.ref a/\b.os=s.os/\AllBare b.gens/\Un (frs outer) [] H c s.heap b.heap/\HOk P w c b.heap/\(∃vs,ExcRec b.heap a (.ref C) d vs)/\c a=some (XR a C d)/\E (.ref C) (some a) c
def Inv.left(I:Inv X aa σ H s)(hx:H a=some (XR a C d))(L:LeftBy (frs X.stack) a (.ref C) d s.heap h'):Inv X aa σ H {s with heap:=h'}:=by
 have f:∀b u,H b=some u->b∉frs X.stack:=λb u q z=>by rw[I.stkFree b z]at q;cases q
 obtain⟨vs,R,_⟩:=id L.rc;have g:Un (frs X.stack) [] H H s.heap h':=by
  refine⟨λb o q n hb _=>L.keep b o hb (λz=>by rw[z,hx]at n;cases n) q,λb o q n hb _=>L.slot b o hb q,λ_ _ _ n _=>n,λb o q _=>?_,λ_ _ q=>q,λ_ _ _ q=>q,λ_ j q=>⟨#[],by rw[q];simp⟩⟩;by_cases h1:b∈frs X.stack
  ·obtain⟨i,h⟩:=L.slot b o h1 q;exact⟨_,h⟩
  ·by_cases h2:b=a
   ·subst h2;exact⟨_,R.at_⟩
   ·exact⟨o,L.keep b o h1 h2 q⟩
 refine I.call (ch:=[]) (g':=s.gens) (d':=s.drawn) (t':=s.toks) g (λb u q=>?_) I.bare (λb z=>absurd z<|by simp);by_cases hb:b=a
 ·subst hb;rw[hx]at q;cases q;exact IY R.at_ R.six
 ·refine(I.hok b u q).stay (λc v hc r=>L.keep c v ?_ ?_ r) (λ_ q=>q) λ_ _ q=>q
  ·rcases hc with rfl|hc
   ·exact f _ _ q
   ·exact f _ _ hc
  ·rintro rfl;rcases hc with z|hc
   ·exact hb z.symm
   ·rw[hx]at hc;cases hc
def FO(X:Cx)(b:XK):Prop:=∀(aa:oA<|lT×l_) (σ:St) (H:Hp) (s:lQ) (a C:lT) (d:oB lT) (vs:oC lP),Inv X aa σ H s->H a=some (XR a C d)->ExcRec s.heap a (.ref C) d vs->b (.ref C) (some a) H->X.xe (.ref a) s
def FP{P:lV}{w:lW}{K:lU}{m:Str->oB lP}{base:lZ}{N:oA Str}{c:Str}{b:mF}{f:lT}{g:lP}{A:lY}{outer:oA Env}{s:lQ}{H:Hp}{E:XK} :
  FO (Ld (MV P w) P w K m base N c b f g A outer s H E) E:=by
 intro aa σ h l a C d vs I hx R k;show qU P w _ («leaving» (envOfC c b s.heap.objs.size f g)<|.ref a) _ _ l;refine Y0 (base:=base) (outer:=outer) I.ok.frames I.stack rfl R λh' L=>?_;have J:=I.left hx L;obtain⟨i,j,_⟩:=L.rc;exact⟨a,C,d,h,rfl,J.os,J.bare,J.base,J.hok,⟨i,j⟩,hx,k⟩
def Il{h:lZ}{T:lT}{c:l_}{ts:oC lP}(g:h.get? T=some c)(f:c.data=.fields ts)(i:ts[3]?=some .none) :
  ∀b o,h.get? b=some o->(h.update T<|Obj.mapFields (·.setIfInBounds 3 Value.none)).get? b=some o:=by
 have j:3<ts.size:=(cZ.mp i).1;have l:(h.update T<|Obj.mapFields (·.setIfInBounds 3 Value.none)).get? T=some c:=by
  have q:=aG (Obj.mapFields (·.setIfInBounds 3 Value.none)) g<|dW<|bX f _;rw[q,Tl f];have:ts.setIfInBounds 3 Value.none=ts:=by
   apply Array.ext_getElem?;intro k;rw[dC];by_cases hk:3=k
   ·subst hk;rw[N_ rfl,N_ j,i]
   ·rw[I_ hk]
  rw[this,<- f]
 intro b o q;by_cases hb:T=b
 ·subst hb;rw[l,<- q,g]
 ·rw[bC _ _ hb];exact q
def V9{Q:Unit->lQ->Prop}(t:A.frames=some (env::outer))(n:s.heap.FunFrames base<|env::outer)(l:env.frame=some L)(R:ExcRec s.heap e cls d vs)
  (h:∀h',LeftBy (frs<|env::outer) e cls d s.heap h'->Q () {s with heap:=h'}):wpAny M A (noteFrame (.ref e) env) (λ_ g=>wpAny M A (setFlight (.ref e) none) Q E g) E s:=by
 unfold noteFrame;simp only[l];rcases R.tb with h1|⟨T,J,ts,h1,F,i,k,j⟩
 ·refine A_<|bL R.at_ rfl h1 ?_;rw[I_<|by decide];exact Ei t n l R.at_ R.six R.cx h
 ·refine A_<|bL R.at_ rfl h1 ?_;rw[N_<|by simp];refine A_<|bL i k j ?_;rw[I_<|by simp[rawInt]];have v:3<ts.size:=(cZ.mp j).1;refine A_<|cY i k v ?_;have f:=Il i k j;refine Ei (s:={s with heap:=s.heap.update T<|Obj.mapFields (·.setIfInBounds 3 Value.none)}) t (n.of_keeps λb o q _=>⟨o,f b o q,rfl⟩) l (f _ _ R.at_) R.six (R.cx.imp λ_ c=>c.same f) λh' ⟨r,B,u,y,I⟩=>h h' ⟨?_,λb o hb G q=>B b o hb G<|f b o q,λb o hb q=>u b o hb<|f b o q,y,?_⟩
  ·rw[iA]at r;exact r
  ·obtain⟨m,x,p⟩:=I;refine⟨m,x,?_⟩;cases z:s.heap.get? m with
   |none=>rfl
   |some o=>rw[f _ _ z]at p;cases p
def Wa{Q:Unit->lQ->Prop}(R:ExcRec s.heap e cls d vs)(h:∀h',(∀b o,s.heap.get? b=some o->h'.get? b=some o)->Q () {s with heap:=h'}):wpAny M A (setFlight (.ref e) none) Q E s:=by
 unfold setFlight;rcases R.tb with h1|⟨T,j,ts,h1,i,f,c,g⟩
 ·refine A_<|bL R.at_ rfl h1 ?_;rw[I_<|by decide];exact B_<|h _ λ_ _ q=>q
 ·refine A_<|bL R.at_ rfl h1 ?_;rw[N_<|by simp];exact cY f c (cZ.mp g).1<|h _<|Il f c g
def On{b:Bool}{Q:Bool->lQ->Prop}(X:K.In s.heap)(m:Jc K D=true)(he:s.heap.get? e=some ⟨.ref C,d,.fields vs,#[]⟩)(hb:PySem.W.mroIn K D (.type "BaseException")=some true)
  (k:PySem.W.mroIn K C (.ref D)=some b) (h:Q b s):qU prog w A (excMatches (.ref e)<|.ref D) Q E s:=by
 obtain⟨v,y,N,u,B,x,q,sub,I,r,dd,t,n,G,o,F,c,_⟩:=Tk X m;obtain⟨hp,g,p,z,os⟩:=s;have i:PySem.W.Looks (model prog w) hp (typeOf<|.ref e) (.ref C):=(gH he).andThen .now;have l:PySem.W.Looks (model prog w) hp (typeOf<|.ref D) (.type "type"):=(gH c).andThen .now;have j:PySem.W.Looks (model prog w) hp (isType<|.ref D) true:=(gH c).andThen .now;have f:isSubtype (.type "type") (.type "tuple")=pure false:=isSubtype_of_subB rfl;unfold excMatches isExcClass isInstance;refine A_<|A_<|l.at ?_;rw[f];refine B_ ?_;rw[I_<|by decide];refine A_<|B_ ?_;simp only[List.forIn_cons,List.forIn_nil];refine A_<|A_<|A_<|A_<|j.at ?_;rw[N_ rfl];refine(gB X hb).at ?_;simp only[Bool.not_true,Bool.false_eq_true,if_false];refine B_ ?_;refine B_ ?_;refine A_<|i.at ?_;refine A_<|A_<|A_<|(gB X k).at ?_;cases b with
 |true=>simp only[if_true];exact B_ (B_<|B_ h)
 |false=>simp only[Bool.false_eq_true,if_false];exact B_<|B_<|B_ h
def Inv.retype{a:lT}{φ:lZ->Prop}{o:HO}(I:Inv X aa σ H s)(q:H a=some (.ext φ))(b:Bg X.prog X.w (upd H a o) s.heap a o):Inv X aa σ (upd H a o) s :=
 I.write (x:=a) (e:=a) (t':=s.toks) (h':=s.heap) (by rw[q];exact True.intro) (.inl rfl) (λ_ _ _ z=>z) (by obtain⟨_,q,_⟩:=(show Bg X.prog X.w H s.heap a (.ext φ) from I.hok a _ q);exact q) b
def MW(K:lU)(c:XK)(te:TE):TS:=λ_ σ H=>te σ H λx b=>∃a C t d,x=.ref a/\b a=some (XO a C t d)/\Jc K C=true/\PySem.W.mroIn K C (.type "BaseException")=some true/\c (.ref C) (some a) (upd b a<|XR a C d)
def Y2{ex:lX}{c:Pos}{te:TE}{g:XK}(hc:X.calm=true)(hx:FO X g)(he:PE X ex te):PS X (.Raise (some ex) none c) (MW X.K g te):=by intro aa s σ H D I h;refine Rb (K:=X.K) (I.ok.hd hc)<|thn (he aa s σ H _ I h) λv k l=>?_;obtain⟨x,n,f,r,a,C,t,d,ex,ha,m,j,i⟩:=l;subst ex;obtain rfl:v=Value.ref a:=r;have b:=Yy f.hok ha;exact⟨a,C,d,_,rfl,f.kIn,b,rfl,m,j,hx aa σ _ k a C d _ (f.retype ha<|IY b rfl) Bc ⟨b,rfl,.inl rfl,[],.nil b rfl rfl⟩ i⟩
abbrev Cx.suite(X:Cx)(e:lT):Cx:={X with A:=X.A.mark<|some<|.ref e,calm:=false,xe:=λ_ _=>False}
def Inv.suite{e:lT}(I:Inv X aa σ H s):Inv (X.suite e) aa σ H s :=
 ⟨⟨I.ok.mod,I.ok.kind,I.ok.glob,I.ok.blt,I.ok.above,I.ok.inj,I.ok.has,I.ok.cab,λz=>(nomatch z),I.ok.frames,I.ok.stk,I.ok.exf,I.ok.bs,I.ok.bsz,I.ok.noex,I.ok.exfs,I.ok.funs,I.ok.frf⟩,I.os,I.bare,I.base,I.loc,I.cell,I.free,I.freeC,I.pin,I.hok,I.len⟩
def Inv.unsuite{e:lT}(ok:X.Ok)(I:Inv (X.suite e) aa σ H s):Inv X aa σ H s:=⟨ok,I.os,I.bare,I.base,I.loc,I.cell,I.free,I.freeC,I.pin,I.hok,I.len⟩
abbrev Cx.taking(X:Cx)(xe:lP->lQ->Prop)(pn:oA<|lT×l_):Cx:={X with xe:=xe,pn:=pn}
def Inv.take{xe:lP->lQ->Prop}(I:Inv X aa σ H s):Inv (X.taking xe<|X.pn++aa) [] σ H s :=
 ⟨⟨I.ok.mod,I.ok.kind,I.ok.glob,I.ok.blt,I.ok.above,I.ok.inj,I.ok.has,I.ok.cab,I.ok.hd,I.ok.frames,I.ok.stk,I.ok.exf,I.ok.bs,I.ok.bsz,I.ok.noex,I.ok.exfs,I.ok.funs,I.ok.frf⟩,I.os,I.bare,I.base,I.loc,I.cell,I.free,I.freeC,λp hp=>I.pin p<|by rw[cB]at hp;exact hp,I.hok,I.len⟩
def Inv.untake{xe:lP->lQ->Prop}{b:oA<|lT×l_}(ok:X.Ok)(I:Inv (X.taking xe<|X.pn++aa) b σ H s):Inv X aa σ H s :=
 ⟨ok,I.os,I.bare,I.base,I.loc,I.cell,I.free,I.freeC,λp hp=>I.pin p<|aD _ hp,I.hok,I.len⟩
end
end L2
namespace L2
open PySem PySem.Spec PyProof.Rows
inductive AV where
 |D (d:lR)|R (a:lT)|C (ds:oA lR)|X (C:lT) (fs:oA<|Str×lR)
 deriving Inhabited
mutual
def Cano:lR->Bool
 |.int _=>true
 |.str _=>true
 |.tuple a=>A6 a
 |_=>false
def A6:oA lR->Bool
 |[]=>true
 |x::a=>Cano x&&A6 a
end
structure KeyTree(d:lR):Prop where
 can:Cano d=true
 lay:d.canLay0=true
 dep:d.depth<=6
def Xw(K:lU)(H:Hp)(a:lT)(xs:oA V):Prop :=
 (∃o,H a=some (.frz o<|.lst xs)) \/
  ∃(o:l_) (b:oC lP) (n:Nat),K.lookup a=some o/\o.cls=.type "list" /\ o.dict=none/\o.data=.seq b n/\b.size<=sizeLine/\Vals xs b.toList
def Xw.sq{K:lU}{H:Hp}{a:lT}{xs:oA V}(h:Xw K H a xs):Ff K H a xs:=by
 rcases h with⟨o,h⟩|h
 ·exact .inl<|.inr ⟨o,h⟩
 ·exact .inr h
def Lit:oA lR->Bool
 |.str _::_=>true
 |.tuple _::_=>true
 |_=>false
def Wb(K:lU)(H:Hp)(a:lT)(ds:oA lR)(xs:oA V):Prop :=
 H a=some (.tup xs)\/(Lit ds=true/\∃(o:l_) (b:oC lP) (n:Nat),K.lookup a=some o/\o.cls=.type "tuple" /\ o.data=.seq b n/\b.size<=sizeLine/\Vals xs b.toList)
def Wb.sq{K:lU}{H:Hp}{a:lT}{ds:oA lR}{xs:oA V}(h:Wb K H a ds xs):Iz K H a xs:=by
 rcases h with h|h
 ·exact Iz.of h
 ·exact .inr h.2
mutual
def Dk(K:lU)(H:Hp):lR->V->Prop
 |.none,x=>x=.non
 |.bool b,x=>x=.bl b
 |.int i,x=>x=.int i
 |.str z,x=>x=.str z
 |.list d,x=>∃a c,x=.ref a/\Xw K H a c/\An K H d c
 |.tuple d,x=>∃a c,x=.ref a/\Wb K H a d c/\An K H d c
 |.dict _,_=>False
def An(K:lU)(H:Hp):oA lR->oA V->Prop
 |[],a=>a=[]
 |d::b,a=>∃x r,a=x::r/\Dk K H d x/\An K H b r
end
structure Kp(H H':Hp):Prop where
 t:∀b xs,H b=some (.tup xs)->H' b=some (.tup xs)
 f:∀b o u,H b=some (.frz o u)->H' b=some (.frz o u)
def Kp.refl{H:Hp}:Kp H H:=⟨λ_ _ h=>h,λ_ _ _ h=>h⟩
def Kp.trans{H g e:Hp}(a:Kp H g)(b:Kp g e):Kp H e:=⟨λc d h=>b.t c d<|a.t c d h,λc o u h=>b.f c o u<|a.f c o u h⟩
def Kp.new{H:Hp}{p:lT}(h:H p=none)(o:HO):Kp H (upd H p o) :=
 ⟨λb a e=>by rw[Ao<|Bw e h];exact e,λb c u e=>by rw[Ao<|Bw e h];exact e⟩
def Mt:HO->Prop
 |.lst _=>True
 |.dK _=>True
 |.dT _=>True
 |.dd _=>True
 |_=>False
def Kp.put{H:Hp}{p:lT}{a:HO}(h:H p=some a)(m:Mt a)(o:HO):Kp H (upd H p o) :=
 ⟨λb c e=>by rw[Ao<|N9 e h<|by intro z;subst z;exact m];exact e,λb d u e=>by rw[Ao<|N9 e h<|by intro z;subst z;exact m];exact e⟩
def Xw.kp{K:lU}{H H':Hp}{a:lT}{xs:oA V}(S:Kp H H')(h:Xw K H a xs):Xw K H' a xs:=by
 rcases h with⟨o,h⟩|h
 ·exact .inl ⟨o,S.f _ _ _ h⟩
 ·exact .inr h
def Wb.kp{K:lU}{H H':Hp}{a:lT}{ds:oA lR}{xs:oA V}(S:Kp H H')(h:Wb K H a ds xs):Wb K H' a ds xs:=by
 rcases h with h|h
 ·exact .inl<|S.t _ _ h
 ·exact .inr h
section
variable {K:lU}{H H':Hp}{X:Cx}{a b c:lX}{ta tb tc:AE}{pos:Pos}{rest:oA lX}{tA mz:AT}{es:oA lX}{t:AA}{k:Nat}{x:Str}{p:Pos}{e:lX}{i5 T:String}{r:AC}{o:lX}{to:AE}{name:Str}{ap aj:Pos}{m:AV->AC}
mutual
theorem Dk.kp(S:Kp H H'):∀(d:lR) (x:V),Dk K H d x->Dk K H' d x
 |.none,x,h=>by simp only[Dk]at h ⊢;exact h
 |.bool b,x,h=>by simp only[Dk]at h ⊢;exact h
 |.int i,x,h=>by simp only[Dk]at h ⊢;exact h
 |.str z,x,h=>by simp only[Dk]at h ⊢;exact h
 |.list g,x,h=>by simp only[Dk]at h ⊢;obtain⟨a,f,e,q,r⟩:=h;exact⟨a,f,e,q.kp S,An.kp S g f r⟩
 |.tuple g,x,h=>by simp only[Dk]at h ⊢;obtain⟨a,f,e,q,r⟩:=h;exact⟨a,f,e,q.kp S,An.kp S g f r⟩
 |.dict _,x,h=>by simp only[Dk]at h
theorem An.kp(S:Kp H H'):∀(ds:oA lR) (xs:oA V),An K H ds xs->An K H' ds xs
 |[],xs,h=>by simp only[An]at h ⊢;exact h
 |d::ds,xs,h=>by simp only[An]at h ⊢;obtain⟨x,r,e,h1,h2⟩:=h;exact⟨x,r,e,Dk.kp S d x h1,An.kp S ds r h2⟩
end
def Df{i:Int}:Dk K H (.int i) (.int i):=by simp only[Dk]
def L0{b:Bool}:Dk K H (.bool b) (.bl b):=by simp only[Dk]
def Rc{z:Str}:Dk K H (.str z) (.str z):=by simp only[Dk]
def Y3:Dk K H .none .non:=by simp only[Dk]
def Dk.int{x:V}{i:Int}(h:Dk K H (.int i) x):x=.int i:=by simp only[Dk]at h;exact h
def Dk.bl{x:V}{i:Bool}(h:Dk K H (.bool i) x):x=.bl i:=by simp only[Dk]at h;exact h
def Dk.str{x:V}{i:Str}(h:Dk K H (.str i) x):x=.str i:=by simp only[Dk]at h;exact h
def Dk.non{x:V}(h:Dk K H .none x):x=.non:=by simp only[Dk]at h;exact h
def Dk.tup{x:V}{ds:oA lR}(h:Dk K H (.tuple ds) x):∃a d,x=.ref a/\Wb K H a ds d/\An K H ds d:=by simp only[Dk]at h;exact h
def Dk.lst{x:V}{ds:oA lR}(h:Dk K H (.list ds) x):∃a d,x=.ref a/\Xw K H a d/\An K H ds d:=by simp only[Dk]at h;exact h
def Ju{a:lT}{xs:oA V}{ds:oA lR}(h:H a=some (.tup xs))(r:An K H ds xs):Dk K H (.tuple ds) (.ref a):=by simp only[Dk];exact⟨a,xs,rfl,.inl h,r⟩
def MX{a:lT}{xs:oA V}{ds:oA lR}(h:Xw K H a xs)(r:An K H ds xs):Dk K H (.list ds) (.ref a):=by simp only[Dk];exact⟨a,xs,rfl,h,r⟩
def Ej:An K H [] []:=by simp only[An]
def D3{d:lR}{ds:oA lR}{x:V}{xs:oA V}(h:Dk K H d x)(r:An K H ds xs):An K H (d::ds) (x::xs):=by simp only[An];exact⟨x,xs,rfl,h,r⟩
def An.cons{d:lR}{ds:oA lR}{xs:oA V}(h:An K H (d::ds) xs):∃x r,xs=x::r/\Dk K H d x/\An K H ds r:=by simp only[An]at h;exact h
def An.nil{xs:oA V}(h:An K H [] xs):xs=[]:=by simp only[An]at h;exact h
theorem An.length:∀{ds:oA lR} {xs:oA V},An K H ds xs->xs.length=ds.length
 |[],_,h=>by rw[h.nil];rfl
 |_::ds,_,h=>by obtain⟨x,r,rfl,_,h2⟩:=h.cons;rw[aR,aR,An.length h2]
theorem An.get:∀{ds:oA lR} {xs:oA V} {i:Nat} {d:lR},An K H ds xs->ds[i]?=some d->∃x,xs[i]?=some x/\Dk K H d x
 |[],_,_,_,_,e=>by simp at e
 |_::ds,_,0,d,h,e=>by obtain⟨x,r,rfl,h1,_⟩:=h.cons;simp at e;subst e;exact⟨x,rfl,h1⟩
 |_::ds,_,i+1,d,h,e=>by obtain⟨x,r,rfl,_,h2⟩:=h.cons;obtain⟨y,g,f⟩:=An.get (i:=i) (d:=d) h2 (by simpa using e);exact⟨y,by simpa using g,f⟩
theorem An.append:∀{ds es:oA lR} {xs ys:oA V},An K H ds xs->An K H es ys->An K H (ds++es) (xs++ys)
 |[],_,_,_,h,k=>by rw[h.nil];exact k
 |_::ds,_,_,_,h,k=>by obtain⟨x,r,rfl,h1,h2⟩:=h.cons;exact D3 h1<|An.append h2 k
theorem An.drop:∀(n:Nat) {ds:oA lR} {xs:oA V},An K H ds xs->An K H (ds.drop n) (xs.drop n)
 | 0,_,_,h=>h
 |_+1,[],_,h=>by rw[h.nil];exact Ej
 |n+1,_::ds,_,h=>by obtain⟨x,r,rfl,_,h2⟩:=h.cons;exact An.drop n h2
theorem An.take:∀(n:Nat) {ds:oA lR} {xs:oA V},An K H ds xs->An K H (ds.take n) (xs.take n)
 | 0,_,_,_=>Ej
 |_+1,[],_,h=>by rw[h.nil];exact Ej
 |n+1,_::ds,_,h=>by obtain⟨x,r,rfl,h1,h2⟩:=h.cons;exact D3 h1<|An.take n h2
def An.cut{ds:oA lR}{xs:oA V}(h:An K H ds xs)(lo d:oB Int):An K H (Na ds lo d) (Le xs lo d):=by unfold Na Le;rw[h.length];exact(h.drop _).take _
theorem An.atI{ds:oA lR}{xs:oA V}{i:Int}{d:lR}(h:An K H ds xs)(e:atI ds i=some d):∃x,L2.atI xs i=some x/\Dk K H d x:=by
 unfold L2.atI at e ⊢;rw[h.length];cases q:EY ds.length i with
 |none=>rw[q]at e;cases e
 |some j=>rw[q]at e;obtain⟨x,hx,f⟩:=h.get<|show ds[j]?=some d from e;exact⟨x,hx,f⟩
def FQ(K:lU)(H:Hp):oA (Str×lR)->oA (Str×V)->Prop:=Paired λp q=>p.1=q.1/\Dk K H p.2 q.2
def FQ.kp{d:oA<|Str×lR}{f:oA<|Str×V}(S:Kp H H')(h:FQ K H d f):FQ K H' d f:=Paired.mapP h λp q r=>⟨r.1,Dk.kp S _ _ r.2⟩
def XFs(K:lU)(H:Hp)(d:oB lT)(g:oA<|Str×lR):Prop:=match d with
 |none=>g=[]
 |some d=>∃h f,H d=some (.frz h<|XD d f)/\FQ K H g f
theorem XFs.kp{d:oB lT}{i:oA<|Str×lR}(S:Kp H H')(h:XFs K H d i):XFs K H' d i:=by
 cases d with
 |none=>exact h
 |some d=>obtain⟨j,g,q,r⟩:=h;exact⟨j,g,S.f _ _ _ q,r.kp S⟩
def RelA(K:lU)(H:Hp):AV->V->Prop
 |.D d,v=>Dk K H d v
 |.R a,v=>v=.ref a
 |.C h,v=>∃a f,v=.ref a/\(∀H,Iz K H a f)/\An K H h f
 |.X C g,v=>∃a o d,v=.ref a/\H a=some (.frz o<|XR a C d)/\XFs K H d g
def Ci{i:Int}:RelA K H (.D<|.int i) (.int i):=Df (K:=K) (H:=H)
def D4{i:Bool}:RelA K H (.D<|.bool i) (.bl i):=L0 (K:=K) (H:=H)
def Jv{i:Str}:RelA K H (.D<|.str i) (.str i):=Rc (K:=K) (H:=H)
def Nc:RelA K H (.D .none) .non:=Y3 (K:=K) (H:=H)
def RelA.int{x:V}{i:Int}(h:RelA K H (.D<|.int i) x):x=.int i:=Dk.int (K:=K) (H:=H) h
def RelA.bl{x:V}{i:Bool}(h:RelA K H (.D<|.bool i) x):x=.bl i:=Dk.bl (K:=K) (H:=H) h
def RelA.str{x:V}{i:Str}(h:RelA K H (.D<|.str i) x):x=.str i:=Dk.str (K:=K) (H:=H) h
def RelA.non{x:V}(h:RelA K H (.D .none) x):x=.non:=Dk.non (K:=K) (H:=H) h
def RelA.tup{x:V}{ds:oA lR}(h:RelA K H (.D<|.tuple ds) x):∃a d,x=.ref a/\Wb K H a ds d/\An K H ds d:=Dk.tup (K:=K) (H:=H) h
def RelA.lst{x:V}{ds:oA lR}(h:RelA K H (.D<|.list ds) x):∃a d,x=.ref a/\Xw K H a d/\An K H ds d:=Dk.lst (K:=K) (H:=H) h
def RelA.ref{x:V}{a:lT}(h:RelA K H (.R a) x):x=.ref a:=h
def C7{a:lT}:RelA K H (.R a) (.ref a):=rfl
def Wc{d:lR}{v:V}(h:Dk K H d v):RelA K H (.D d) v:=h
def Y4{a:lT}{xs:oA V}{ds:oA lR}(h:H a=some (.tup xs))(r:An K H ds xs):RelA K H (.D<|.tuple ds) (.ref a):=Ju (K:=K) (H:=H) h r
abbrev Ax(K:lU)(H:Hp):oA AV->oA V->Prop:=Paired<|RelA K H
theorem RelA.kp(S:Kp H H'):∀{x:AV} {v:V},RelA K H x v->RelA K H' x v
 |.D d,v,h=>Dk.kp S d v h
 |.R a,_,h=>h
 |.C i,v,⟨a,g,e,q,r⟩=>⟨a,g,e,q,An.kp S i g r⟩
 |.X C j,v,⟨a,o,d,e,q,r⟩=>⟨a,o,d,e,S.f _ _ _ q,r.kp S⟩
def Ax.kp(S:Kp H H'){xs:oA AV}{d:oA V}(h:Ax K H xs d):Ax K H' xs d:=Paired.mapP h λ_ _ q=>q.kp S
def Ax.length{xs:oA AV}{d:oA V}(h:Ax K H xs d):xs.length=d.length:=bM h
def Ax.append{xs ys:oA AV}{d f:oA V}(h:Ax K H xs d)(s:Ax K H ys f):Ax K H (xs++ys) (d++f):=by
 induction h with
 |nil=>exact s
 |cons r t g=>exact .cons r g
theorem Ax.get:∀{xs:oA AV} {d:oA V} {i:Nat} {x:AV},Ax K H xs d->xs[i]?=some x->∃u,d[i]?=some u/\RelA K H x u
 |_,_,_,_,.nil,e=>by simp at e
 |_,_,0,_,.cons r _,e=>by simp at e;subst e;exact⟨_,rfl,r⟩
 |_,_,i+1,x,.cons _ t,e=>by obtain⟨u,h1,h2⟩:=Ax.get (i:=i) (x:=x) t (by simpa using e);exact⟨u,by simpa using h1,h2⟩
theorem Ax.drop:∀{xs:oA AV} {d:oA V} (n:Nat),Ax K H xs d->Ax K H (xs.drop n) (d.drop n)
 |_,_,0,r=>r
 |_,_,_+1,.nil=>.nil
 |_,_,n+1,.cons _ t=>Ax.drop n t
theorem Ax.take:∀{xs:oA AV} {d:oA V} (n:Nat),Ax K H xs d->Ax K H (xs.take n) (d.take n)
 |_,_,0,_=>.nil
 |_,_,_+1,.nil=>.nil
 |_,_,n+1,.cons r t=>.cons r<|Ax.take n t
theorem Ax.dropLast{xs:oA AV}{d:oA V}(h:Ax K H xs d):Ax K H xs.dropLast d.dropLast:=by
 induction h with
 |nil=>exact .nil
 |cons r t f=>
  cases t with
  |nil=>exact .nil
  |cons g t=>exact .cons r f
def Ax.rev{xs:oA AV}{d:oA V}(h:Ax K H xs d):Ax K H xs.reverse d.reverse:=by
 induction h with
 |nil=>exact .nil
 |cons r t f=>rw[iT,iT];exact f.append<|.cons r .nil
def Re(xs:oA AV)(lo d:oB Int):oA AV:=(xs.drop<|HT.sIx xs.length 0 lo).take<|HT.sIx xs.length xs.length d-HT.sIx xs.length 0 lo
def Ax.cut{xs:oA AV}{d:oA V}(h:Ax K H xs d)(lo f:oB Int):Ax K H (Re xs lo f) (Le d lo f):=by unfold Re Le;rw[h.length];exact(h.drop _).take _
theorem Ax.atI{xs:oA AV}{d:oA V}{i:Int}{x:AV}(h:Ax K H xs d)(e:atI xs i=some x):∃u,L2.atI d i=some u/\RelA K H x u:=by
 unfold L2.atI at e ⊢;rw[<- h.length];cases q:EY xs.length i with
 |none=>rw[q]at e;cases e
 |some j=>rw[q]at e;obtain⟨x,hx,f⟩:=h.get<|show xs[j]?=some x from e;exact⟨x,hx,f⟩
def dats:oA AV->oB (oA lR)
 |[]=>some []
 |.D d::r=>match dats r with
  |some f=>some (d::f)
  |none=>none
 |.R _::_=>none
 |.C _::_=>none
 |.X _ _::_=>none
@[simp] theorem dats_nil:dats []=some []:=rfl
theorem B8:∀(ds:oA lR),dats (ds.map .D)=some ds
 |[]=>rfl
 |d::ds=>by simp only[List.map_cons,dats,B8 ds]
theorem Tm:∀{xs:oA AV} {ds:oA lR},dats xs=some ds->xs=ds.map .D
 |[],ds,h=>by cases h;rfl
 |.D d::r,ds,h=>by
  simp only[dats]at h;cases q:dats r with
  |none=>rw[q]at h;cases h
  |some es=>rw[q]at h;cases h;rw[Tm q];rfl
 |.R _::_,_,h=>by simp[dats]at h
 |.C _::_,_,h=>by simp[dats]at h
 |.X _ _::_,_,h=>by simp[dats]at h
theorem Ax.dk:∀{ds:oA lR} {d:oA V},Ax K H (ds.map .D) d->An K H ds d
 |[],_,h=>by cases h;exact Ej
 |_::_,_,h=>by
  rw[aP]at h;cases h with
  |cons r t=>exact D3 r<|Ax.dk t
theorem An.rel:∀{ds:oA lR} {d:oA V},An K H ds d->Ax K H (ds.map .D) d
 |[],_,h=>by rw[h.nil];exact .nil
 |_::_,_,h=>by obtain⟨x,r,rfl,h1,h2⟩:=h.cons;exact .cons h1<|An.rel h2
def Ax.dats{xs:oA AV}{d:oA V}{ds:oA lR}(h:Ax K H xs d)(e:dats xs=some ds):An K H ds d:=by rw[Tm e]at h;exact h.dk
inductive MO where
 |lst (xs:oA AV)|dk (kvs:oA<|Key×AV)|dt (kvs:oA<|oA Key×AV)|dd (kvs:oA<|lR×AV)
abbrev M:=lT->oB MO
def Al(d:M)(a:lT)(m:MO):M:=λb=>if b=a then some m else d b
def Ab{d:M}{a:lT}{m:MO}:Al d a m a=some m:=by unfold Al;rw[N_ rfl]
def Ad{d:M}{a b:lT}{m:MO}(h:b≠a):Al d a m b=d b:=by unfold Al;rw[I_ h]
def Au{d:M}{a:lT}{m n:MO}:Al (Al d a m) a n=Al d a n:=by funext b;unfold Al;split<;>rfl
def Er{d:Type}(K:lU)(H:Hp):oA (d×AV)->oA (d×V)->Prop:=Paired λp q=>p.1=q.1/\RelA K H p.2 q.2
def Er.kp{d:Type}(S:Kp H H'){xs:oA<|d×AV}{f:oA<|d×V}(h:Er K H xs f):Er K H' xs f:=Paired.mapP h λ_ _ q=>⟨q.1,q.2.kp S⟩
def Ef(K:lU)(H:Hp):oA (lR×AV)->oA (lR×lT×lP)->Prop:=Paired λp q=>p.1=q.1/\KeyTree p.1/\Dk K H p.1 (.ref q.2.1)/\∃v,RelA K H p.2 v/\Ba v q.2.2
def Ef.kp(S:Kp H H'){xs:oA<|lR×AV}{d:oA<|lR×lT×lP}(h:Ef K H xs d):Ef K H' xs d:=Paired.mapP h<|by rintro _ _ ⟨a,b,c,v,r,q⟩;exact ⟨a,b,Dk.kp S _ _ c,v,r.kp S,q⟩
def Ho(K:lU)(H:Hp):MO->HO->Prop
 |.lst g,o=>∃f,o=.lst f/\Ax K H g f
 |.dk d,o=>∃f,o=.dK f/\Er K H d f
 |.dt d,o=>∃f,o=.dT f/\Er K H d f
 |.dd d,o=>∃g,o=.dd g/\Ef K H d g
theorem Ho.kp(S:Kp H H'){m:MO}{o:HO}(h:Ho K H m o):Ho K H' m o:=by
 cases m with
 |lst f=>obtain⟨d,e,r⟩:=h;exact⟨d,e,r.kp S⟩
 |dk f=>obtain⟨d,e,r⟩:=h;exact⟨d,e,r.kp S⟩
 |dt f=>obtain⟨d,e,r⟩:=h;exact⟨d,e,r.kp S⟩
 |dd f=>obtain⟨d,e,r⟩:=h;exact⟨d,e,r.kp S⟩
def C2{xs:oA AV}{d:oA V}(h:Ax K H xs d):Ho K H (.lst xs) (.lst d):=⟨d,rfl,h⟩
def Cn(K:lU)(d:M)(H:Hp):Prop:=∀a m,d a=some m->∃o,H a=some o/\Ho K H m o
theorem Cn.none{d:M}{p:lT}(c:Cn K d H)(h:H p=none):d p=none:=by
 cases q:d p with
 |none=>rfl
 |some m=>obtain⟨o,e,_⟩:=c p m q;rw[h]at e;cases e
def Cn.over{f:M}{p:lT}{o:HO}(c:Cn K f H)(h:H p=Option.none):Cn K f (upd H p o):=λa m e=>by obtain⟨g,d,r⟩:=c a m e;exact⟨g,by rw[Ao<|Bw d h];exact d,r.kp<|Kp.new h o⟩
def Cn.new{d:M}{p:lT}{m:MO}{o:HO}(c:Cn K d H)(h:H p=Option.none)(r:Ho K H m o):Cn K (Al d p m) (upd H p o):=λa f e=>by
 by_cases ha:a=p
 ·subst ha;rw[Ab]at e;cases e;exact⟨o,Bc,r.kp<|Kp.new h o⟩
 ·rw[Ad ha]at e;exact c.over h a f e
def Cn.put{g:M}{p:lT}{m:MO}{o d:HO}(c:Cn K g H)(h:H p=some d)(f:Mt d)(r:Ho K H m o):Cn K (Al g p m) (upd H p o):=λa l e=>by
 by_cases ha:a=p
 ·subst ha;rw[Ab]at e;cases e;exact⟨o,Bc,r.kp<|Kp.put h f o⟩
 ·rw[Ad ha]at e;obtain⟨j,n,i⟩:=c a l e;exact⟨j,by rw[Ao ha];exact n,i.kp<|Kp.put h f o⟩
def Sub(f d:M):Prop:=∀a m,f a=some m->d a=some m
def Sub.refl{d:M}:Sub d d:=λ_ _ h=>h
def Sub.trans{f d g:M}(h:Sub f d)(k:Sub d g):Sub f g:=λa m e=>k a m<|h a m e
def Sub.new{f g:M}{p:lT}{m:MO}(h:Sub f g)(e:f p=none):Sub f (Al g p m):=λa i d=>by rw[Ad<|by intro z;subst z;rw[e]at d;cases d];exact h a i d
theorem Sub.none{d f:M}{p:lT}(h:Sub d f)(e:f p=none):d p=none:=by
 cases q:d p with
 |none=>rfl
 |some m=>rw[h p m q]at e;cases e
def Cn.sub{f d:M}(c:Cn K d H)(h:Sub f d):Cn K f H:=λa m e=>c a m<|h a m e
abbrev ASt:=oA<|oB AV
def L3(K:lU)(H:Hp)(a:oB AV)(b:oB V):Prop:=∀x,a=some x->∃v,b=some v/\RelA K H x v
abbrev Dv(K:lU)(H:Hp):ASt->St->Prop:=Paired<|L3 K H
def L3.kp{a:oB AV}{b:oB V}(S:Kp H H')(h:L3 K H a b):L3 K H' a b:=λx e=>by obtain⟨v,d,r⟩:=h x e;exact⟨v,d,r.kp S⟩
def Dv.kp{τ:ASt}{d:St}(S:Kp H H')(h:Dv K H τ d):Dv K H' τ d:=Paired.mapP h λ_ _ q=>q.kp S
theorem Dv.get:∀{τ:ASt} {d:St} {i:Nat} {x:AV},Dv K H τ d->τ[i]?=some (some x)->∃v,d[i]?=some (some v)/\RelA K H x v
 |_,_,_,_,.nil,e=>by simp at e
 |_,_,0,_,.cons r _,e=>by simp at e;subst e;obtain⟨v,rfl,q⟩:=r _ rfl;exact⟨v,rfl,q⟩
 |_,_,i+1,x,.cons _ t,e=>by obtain⟨u,h1,h2⟩:=Dv.get (i:=i) (x:=x) t (by simpa using e);exact⟨u,by simpa using h1,h2⟩
def Jw{x:AV}{v:V}(r:RelA K H x v):L3 K H (some x) (some v):=λy e=>by cases e;exact⟨v,rfl,r⟩
def Jx{b:oB V}:L3 K H none b:=λy e=>nomatch e
theorem Dv.set{x:AV}{v:V}(r:RelA K H x v):∀{τ:ASt} {d:St} (i:Nat),Dv K H τ d->Dv K H (τ.set i<|some x) (d.set i<|some v)
 |_,_,_,.nil=>.nil
 |_,_,0,.cons _ t=>.cons (Jw r) t
 |_,_,i+1,.cons q t=>.cons q<|Dv.set r i t
def Hq(N:oA Str)(xs:oA AV):ASt:=xs.map some++List.replicate (N.length-xs.length) none
theorem Dv.rep:∀(n:Nat),Dv K H (List.replicate n none) (List.replicate n none)
 | 0=>.nil
 |n+1=>.cons Jx<|Dv.rep n
theorem Dv.somes:∀{xs:oA AV} {d:oA V},Ax K H xs d->Dv K H (xs.map some) (d.map some)
 |_,_,.nil=>.nil
 |_,_,.cons r t=>.cons (Jw r)<|Dv.somes t
def Dv.append{τ d:ASt}{g f:St}(h:Dv K H τ g)(s:Dv K H d f):Dv K H (τ++d) (g++f):=by
 induction h with
 |nil=>exact s
 |cons r t i=>exact .cons r i
def Dv.begin{N:oA Str}{xs:oA AV}{d:oA V}(h:Ax K H xs d):Dv K H (Hq N xs) (start N d):=by unfold Hq start;rw[h.length];exact(Dv.somes h).append<|Dv.rep _
def MY(mp:oA<|oB Nat)(τ:ASt):ASt:=mp.map λo=>match o with
 |none=>none
 |some j=>match τ[j]? with
  |some x=>x
  |none=>none
theorem Dv.sub{τ:ASt}{d:St}(h:Dv K H τ d):∀(mp:oA<|oB Nat),Dv K H (MY mp τ) (Oj mp d)
 |[]=>.nil
 |none::mp=>.cons Jx (Dv.sub h mp)
 |some j::mp=>by
  refine .cons (λx e=>?_)<|Dv.sub h mp;have f:τ[j]?=some (some x):=by
   dsimp only at e;cases q:τ[j]? with
   |none=>rw[q]at e;cases e
   |some y=>rw[q]at e;exact bR some e
  obtain⟨v,hv,r⟩:=h.get f;refine⟨v,?_,r⟩;show(d[j]?).join=some v;rw[hv];rfl
abbrev AE:=ASt->M->(AV->M->Prop)->Prop
abbrev AT:=ASt->M->(Bool->M->Prop)->Prop
abbrev AA:=ASt->M->(oA AV->M->Prop)->Prop
abbrev AO:=ASt->M->(oB Int->M->Prop)->Prop
abbrev AS:=(ASt->M->Prop)->(AV->M->Prop)->(ASt->M->Prop)->(ASt->M->Prop)->ASt->M->Prop
abbrev AG:=AV->ASt->M->(ASt->M->Prop)->Prop
abbrev AGs:=oA AV->ASt->M->(ASt->M->Prop)->Prop
abbrev A2:=AV->AV->M->(AV->M->Prop)->Prop
abbrev AC:=oA AV->M->(AV->M->Prop)->Prop
@[irreducible] def brP (b:Bool) (T F:Prop):Prop:=match b with
 |true=>T
 |false=>F
@[irreducible] def opt {d:Type} (o:oB d) (k:d->Prop):Prop:=match o with
 |some x=>k x
 |none=>False
def br{b:Bool}{T F:Prop}(h1:b=true->T)(h2:b=false->F):brP b T F:=by
 unfold brP;cases b with
 |true=>exact h1 rfl
 |false=>exact h2 rfl
def Jd{b:Bool}{T F:Prop}(hb:b=true)(h:T):brP b T F:=by subst hb;unfold brP;exact h
def Hr{b:Bool}{T F:Prop}(hb:b=false)(h:F):brP b T F:=by subst hb;unfold brP;exact h
def Y5{T F:Prop}:brP true T F=T:=by unfold brP;rfl
def br_e{b:Bool}{T F:Prop}(h:brP b T F):(b=true/\T)\/(b=false/\F):=by
 unfold brP at h;cases b with
 |true=>exact .inl ⟨rfl,h⟩
 |false=>exact .inr ⟨rfl,h⟩
def Ac{d:Type}{o:oB d}{x:d}{k:d->Prop}(h:o=some x)(q:k x):opt o k:=by subst h;unfold opt;exact q
def A0{d:Type}{o:oB d}{k:d->Prop}(h:opt o k):∃x,o=some x/\k x:=by
 unfold opt at h;cases o with
 |none=>exact h.elim
 |some x=>exact⟨x,rfl,h⟩
def dif{p:Prop} [Decidable p]{T F:Prop}(h1:p->T)(h2:¬p->F):brP (decide p) T F:=br (λh=>h1<|aQ h) λh=>h2<|of_decide_eq_false h
def LV(K:lU)(H:Hp)(R:AV->M->Prop)(Q:VK):Prop:=∀x d v H',Kp H H'->Cn K d H'->RelA K H' x v->R x d->Q v H'
def LB(K:lU)(H:Hp)(R:Bool->M->Prop)(Q:Bool->Hp->Prop):Prop:=∀b d H',Kp H H'->Cn K d H'->R b d->Q b H'
def LA(K:lU)(n:Nat)(H:Hp)(R:oA AV->M->Prop)(Q:oA V->Hp->Prop):Prop:=∀d f g H',Kp H H'->Cn K f H'->Ax K H' d g->d.length=n->R d f->Q g H'
def LO(K:lU)(H:Hp)(R:oB Int->M->Prop)(Q:oB Int->Hp->Prop):Prop:=∀b d H',Kp H H'->Cn K d H'->R b d->Q b H'
def LS(K:lU)(H:Hp)(R:ASt->M->Prop)(Q:St->Hp->Prop):Prop:=∀ d g f H',Kp H H'->Dv K H' d f->Cn K g H'->R d g->Q f H'
def LV.kp{K:lU}{H H':Hp}{R:AV->M->Prop}{Q:VK}(h:LV K H R Q)(S:Kp H H'):LV K H' R Q:=λx g v f d=>h x g v f<|S.trans d
def LB.kp{K:lU}{H H':Hp}{R:Bool->M->Prop}{Q:Bool->Hp->Prop}(h:LB K H R Q)(S:Kp H H'):LB K H' R Q:=λx g f d=>h x g f<|S.trans d
def LS.kp{K:lU}{H H':Hp}{R:ASt->M->Prop}{Q:St->Hp->Prop}(h:LS K H R Q)(S:Kp H H'):LS K H' R Q:=λx g v f d=>h x g v f<|S.trans d
structure LE'(K:lU)(H:Hp)(k:ASt->M->Prop)(r:AV->M->Prop)(b c:ASt->M->Prop)(D:Ends):Prop where
 nx:LS K H k D.nx
 rt:LV K H r D.rt
 bk:LS K H b D.bk
 ct:LS K H c D.ct
def LE'.kp{K:lU}{H H':Hp}{k:ASt->M->Prop}{r:AV->M->Prop}{b c:ASt->M->Prop}{D:Ends}(h:LE' K H k r b c D)(S:Kp H H'):LE' K H' k r b c D:=⟨h.nx.kp S,h.rt.kp S,h.bk.kp S,h.ct.kp S⟩
def cE(K:lU)(t:AE):TE:=λg H Q=>∃ f d R,Dv K H f g/\Cn K d H/\t f d R/\LV K H R Q
def cT(K:lU)(t:AT):TT:=λg H Q=>∃ f d R,Dv K H f g/\Cn K d H/\t f d R/\LB K H R Q
def cA(K:lU)(n:Nat)(t:AA):TA:=λg H Q=>∃ d f R,Dv K H d g/\Cn K f H/\t d f R/\LA K n H R Q
def cO(K:lU)(t:AO):TO:=λg H Q=>∃ f d R,Dv K H f g/\Cn K d H/\t f d R/\LO K H R Q
def cS(K:lU)(t:AS):TS:=λD g H=>∃ f d k r b c,Dv K H f g/\Cn K d H/\t k r b c f d/\LE' K H k r b c D
def cG(K:lU)(t:AG):TG:=λv g H Q=>∃x f d R,RelA K H x v/\Dv K H f g/\Cn K d H/\t x f d R/\LS K H R Q
def cGs(K:lU)(t:AGs):TGs:=λi h H Q=>∃d f g R,Ax K H d i/\Dv K H f h/\Cn K g H/\t d f g R/\LS K H R Q
def cR(K:lU)(r:A2):R2:=λx y H Q=>∃a b d R,RelA K H a x/\RelA K H b y/\Cn K d H/\r a b d R/\LV K H R Q
def cC(K:lU)(r:AC):oA V->Hp->VK->Prop:=λg H Q=>∃f d R,Ax K H f g/\Cn K d H/\r f d R/\LV K H R Q
def cM(K:lU)(r:AV->AC):V->oA V->Hp->VK->Prop:=λx g H Q=>∃a f d R,RelA K H a x/\Ax K H f g/\Cn K d H/\r a f d R/\LV K H R Q
def VE(X:Cx)(e:lX)(t:AE):Prop:=PE X e<|cE X.K t
def VT(X:Cx)(e:lX)(t:AT):Prop:=PT X e<|cT X.K t
def VW(X:Cx)(e:lX)(t:AT):Prop:=PW X e<|cT X.K t
def VA(X:Cx)(es:oA lX)(t:AA):Prop:=PA X es<|cA X.K es.length t
def VO(X:Cx)(e:oB lX)(t:AO):Prop:=PO X e<|cO X.K t
def VS(X:Cx)(st:mC)(t:AS):Prop:=PS X st<|cS X.K t
def VSs(X:Cx)(st:oA mC)(t:AS):Prop:=PSs X st<|cS X.K t
def VG(X:Cx)(e:lX)(t:AG):Prop:=PG X e<|cG X.K t
def VGs(X:Cx)(es:oA lX)(t:AGs):Prop:=PGs X es<|cGs X.K t
def VOp(X:Cx)(f:lP->lP->Sem lP)(r:A2):Prop:=Gv X f<|cR X.K r
def VIx(X:Cx)(r:A2):Prop:=RP X<|cR X.K r
def VCall(X:Cx)(f:lP)(r:AC):Prop:=Ew X f<|cC X.K r
def VMt(X:Cx)(id:String)(r:AV->AC):Prop:=IR X id<|cM X.K r
def PE.imp{e:lX}{t u:TE}(h:PE X e t)(i:∀ d H Q,u d H Q->t d H Q):PE X e u:=λf s d H Q I q=>h f s d H Q I<|i d H Q q
def PT.imp{e:lX}{t u:TT}(h:PT X e t)(i:∀ d H Q,u d H Q->t d H Q):PT X e u:=λf s d H Q I q=>h f s d H Q I<|i d H Q q
def PW.imp{e:lX}{t u:TT}(h:PW X e t)(i:∀ d H Q,u d H Q->t d H Q):PW X e u:=λf g s d H Q I q=>h f g s d H Q I<|i d H Q q
def PA.imp{e:oA lX}{t u:TA}(h:PA X e t)(i:∀ d H Q,u d H Q->t d H Q):PA X e u:=λpos f s d H Q I q=>h pos f s d H Q I<|i d H Q q
def PO.imp{e:oB lX}{t u:TO}(h:PO X e t)(i:∀ d H Q,u d H Q->t d H Q):PO X e u:=λf s d H Q I q=>h f s d H Q I<|i d H Q q
def PS.imp{e:mC}{t u:TS}(h:PS X e t)(i:∀D d H,u D d H->t D d H):PS X e u:=λf s d H D I q=>h f s d H D I<|i D d H q
def PSs.imp{e:oA mC}{t u:TS}(h:PSs X e t)(i:∀D d H,u D d H->t D d H):PSs X e u:=λf s d H D I q=>h f s d H D I<|i D d H q
def PG.imp{e:lX}{t u:TG}(h:PG X e t)(i:∀v d H Q,u v d H Q->t v d H Q):PG X e u:=λf s d H v w Q I r q=>h f s d H v w Q I r<|i v d H Q q
def PGs.imp{e:oA lX}{t u:TGs}(h:PGs X e t)(i:∀v d H Q,u v d H Q->t v d H Q):PGs X e u:=λf s d H v w Q I r q=>h f s d H v w Q I r<|i v d H Q q
def Ft(i:Nat):AE:=λf d R=>match f[i]? with
 |some (some x)=>R x d
 |_=>False
def Y6{K:lU}{i:Nat}{d:St}{H:Hp}{Q:VK}(h:cE K (Ft i) d H Q):KQ i d H Q:=by
 obtain⟨l,j,R,g,hc,h,hq⟩:=h;unfold Ft at h;split at h
 ·rename_i x e;obtain⟨v,f,r⟩:=g.get e;exact⟨v,f,hq _ _ _ _ Kp.refl hc r h⟩
 ·exact h.elim
def vv(i:Nat){x:Str}{pos:Pos}(g:X.N[i]?=some x:=by rfl)(hv:Vis X.env.scope x:=by first|exact Or.inl rfl|exact Or.inr (Or.inl rfl)|exact Or.inr<|Or.inr rfl)(f:(x==("__debug__" : Str))=false:=by decide)
  (d:(x==("__classdict__" : Str))=false:=by decide):VE X (.Name x pos) (Ft i):=(Xy g hv f d).imp λ_ _ _ h=>Y6 h
def vC(x:AV):AE:=λ_ d R=>R x d
def Fu{e:lX}{v:V}{d:lR}(h:PE X e<|tC v)(r:∀H,Dk X.K H d v):VE X e (vC<|.D d):=h.imp λg H Q f=>B1 f λl i R j hc h hq=>hq _ _ _ _ Kp.refl hc (Wc<|r H) h
def Ag{i j pos}:VE X (.Constant (.int i) j pos) (vC<|.D<|.int i):=Fu KR λ_=>Df
def E3{b j pos}:VE X (.Constant (.bool b) j pos) (vC<|.D<|.bool b):=Fu QU λ_=>L0
def Rf{j pos}:VE X (.Constant .none j pos) (vC<|.D .none):=Fu KS λ_=>Y3
def B9{x j pos}:VE X (.Constant (.str x) j pos) (vC<|.D<|.str x):=Fu Xz λ_=>Rc
def FR{x:Str}{v:V}{u:lP}{d:lR}{pos:Pos}(f:Gl X x)(h:X.mg x=some u)(r:Ba v u)(g:∀H,Dk X.K H d v)(h1:(x==("__debug__" : Str))=false:=by decide):VE X (.Name x pos) (vC<|.D d):=Fu (EE f h r h1) g
def Tn(r:A2)(ta tb:AE):AE:=λg h R=>ta g h λx f=>tb g f λy d=>r x y d R
def Jg{K:lU}{r:A2}{ta tb:AE}{j:St}{H:Hp}{Q:VK}(h:cE K (Tn r ta tb) j H Q):RD (cR K r) (cE K ta) (cE K tb) j H Q:=by obtain⟨n,s,R,i,hc,h,hq⟩:=h;exact⟨n,s,_,i,hc,h,λx f v B l w q hx=>⟨n,f,_,i.kp l,w,hx,λy d u A g c2 z hy=>⟨x,y,d,R,q.kp g,z,c2,hy,hq.kp<|l.trans g⟩⟩⟩
def A8{d:Operator}{r:A2}(f:VOp X (binaryOp d) r)(ha:VE X a ta)(hb:VE X b tb):VE X (.BinOp a d b pos) (Tn r ta tb):=(RE f ha hb).imp λ_ _ _ h=>Jg h
def Rg{d:CmpOp}{r:A2}(g:VOp X (compareOp d) r)(ha:VE X a ta)(hb:VE X b tb)(f:behindInMarks d b=false):VE X (.Compare a [d] [b] pos) (Tn r ta tb):=(EQ g ha hb f).imp λ_ _ _ h=>Jg h
def L4(t:AE):AT:=λf g R=>t f g λx d=>match x with
 |.D (.bool k)=>R k d
 |_=>False
def E5{K:lU}{t:AE}{u:TE}(hu:∀ d H Q,cE K t d H Q->u d H Q){d:St}{H:Hp}{Q:Bool->Hp->Prop}(h:cT K (L4 t) d H Q):Ya u d H Q:=by
 obtain⟨q,n,R,i,hc,h,hq⟩:=h;refine hu _ _ _ ⟨q,n,_,i,hc,h,λx j v s l g f hx=>?_⟩;split at hx
 ·cases RelA.bl f;exact⟨_,rfl,hq _ _ _ l g hx⟩
 ·exact hx.elim
def Bd{d:CmpOp}{r:A2}(f:VOp X (compareOp d) r)(ha:VE X a ta)(hb:VE X b tb)(g:behindInMarks d b=false):VT X (.Compare a [d] [b] pos) (L4<|Tn r ta tb) :=
 (ER f ha hb g).imp λ_ _ _ h=>E5 (λ_ _ _ q=>Jg q) h
def Y7(r l:A2)(ta tb tc:AE):AE:=λh j R=>ta h j λx i=>tb h i λy g=>r x y g λz d=>match z with
 |.D (.bool k)=>brP k (tc h d λw f=>l y w f R) (R (.D<|.bool false) d)
 |_=>False
def Rh{K:lU}{r J:A2}{ta tb tc:AE}{I:St}{H:Hp}{Q:VK}(h:cE K (Y7 r J ta tb tc) I H Q):Yb (cR K r) (cR K J) (cE K ta) (cE K tb) (cE K tc) I H Q:=by
 obtain⟨A,P,R,s,hc,h,hq⟩:=h;refine⟨A,P,_,s,hc,h,λx G v V g M N hx=>⟨A,G,_,s.kp g,M,hx,λy F u S f c2 D hy=>⟨x,y,F,_,N.kp f,D,c2,hy,λz n q U d B O hz=>?_⟩⟩⟩;split at hz
 ·cases RelA.bl O;rcases br_e hz with⟨rfl,j⟩|⟨rfl,j⟩
  ·exact⟨true,rfl,by
    first
     |exact⟨A,n,_,s.kp<|g.trans<|f.trans d,B,j,λw i p L l C rw E=>⟨y,w,i,R,D.kp<|d.trans l,rw,C,E,hq.kp<|g.trans<|f.trans<|d.trans l⟩⟩
     | (rw[N_ rfl];exact⟨A,n,_,s.kp<|g.trans<|f.trans d,B,j,λw i p L l C rw E=>⟨y,w,i,R,D.kp<|d.trans l,rw,C,E,hq.kp<|g.trans<|f.trans<|d.trans l⟩⟩)⟩
  ·exact⟨false,rfl,by
    first
     |exact hq _ _ _ _ (g.trans<|f.trans d) B D4 j
     | (rw[I_ Q_];exact hq _ _ _ _ (g.trans<|f.trans d) B D4 j)⟩
 ·exact hz.elim
def Y8{d f:CmpOp}{r g:A2}(i:VOp X (compareOp d) r)(j:VOp X (compareOp f) g)(ha:VE X a ta)(hb:VE X b tb)(hc:VE X c tc)(l:lastMarks [d,f] [b,c]=false:=by rfl):VT X (.Compare a [d,f] [b,c] pos) (L4<|Y7 r g ta tb tc) :=
 (Yc i j ha hb hc l).imp λ_ _ _ h=>E5 (λ_ _ _ q=>Rh q) h
def Fi{e:lX}{t:AE}(h:VE X e t)(he:∀d,isTrue e X.env d=(do let v <- d;standAt e.pos;holding [v]<|truthy v):=by intro _;rfl):VT X e (L4 t) :=
 (KW h he).imp λ_ _ _ h=>by have h:=E5 (λ_ _ _ q=>q) h;exact h
def ZU(t u:AT):AT:=λf g R=>t f g λk d=>brP k (u f d R)<|R false d
def vOr(t u:AT):AT:=λf g R=>t f g λk d=>brP k (R true d)<|u f d R
def ZV(t:AT):AT:=λg f R=>t g f λk d=>R (!k) d
def VW.pt{e:lX}{t:AT}(h:VW X e t):VT X e t:=PW.pt h
def Fj(ha:VT X a tA):VW X (.BoolOp .And [a] pos) tA:=EF ha
def Y9(ha:VT X a tA):VW X (.BoolOp .Or [a] pos) tA:=KY ha
def Fk(ha:VT X a tA)(hb:VW X (.BoolOp .And (b::rest) pos) mz):VW X (.BoolOp .And (a::b::rest) pos) (ZU tA mz) :=
 (KZ ha hb).imp λu H Q f=>B1 f λn q R l hc h hq=>⟨n,q,_,l,hc,h,λk g s i j hk=>by
  rcases br_e hk with⟨rfl,d⟩|⟨rfl,d⟩
  ·exact⟨n,g,R,l.kp i,j,d,hq.kp i⟩
  ·exact hq _ _ _ i j d⟩
def IZ(ha:VT X a tA)(hb:VW X (.BoolOp .Or (b::rest) pos) mz):VW X (.BoolOp .Or (a::b::rest) pos) (vOr tA mz) :=
 (QV ha hb).imp λu H Q f=>B1 f λn q R l hc h hq=>⟨n,q,_,l,hc,h,λk g s i j hk=>by
  rcases br_e hk with⟨rfl,d⟩|⟨rfl,d⟩
  ·exact hq _ _ _ i j d
  ·exact⟨n,g,R,l.kp i,j,d,hq.kp i⟩⟩
def Jy(ha:VT X a tA):VT X (.UnaryOp .Not a pos) (ZV tA):=(LD ha).imp λs H Q d=>B1 d λi n R g hc h hq=>⟨i,n,_,g,hc,h,λk j q l f hk=>hq _ _ _ l f hk⟩
def MZ{op}{t:AE}(h:VE X a t):VE X (.BoolOp op [a] pos) t:=LF h
def SH(ta tb:AE):AE:=λf g R=>ta f g λx d=>match x with
 |.D (.bool k)=>brP k (tb f d R) (R (.D<|.bool false) d)
 |_=>False
def NA(ha:VE X a ta)(hb:VE X (.BoolOp .And (b::rest) pos) tb):VE X (.BoolOp .And (a::b::rest) pos) (SH ta tb) :=
 (LG ha hb).imp λw H Q f=>B1 f λn s R l hc h hq=>⟨n,s,_,l,hc,h,λx g v u i j q hk=>by
  split at hk
  ·cases RelA.bl q;rcases br_e hk with⟨rfl,d⟩|⟨rfl,d⟩
   ·exact⟨true,rfl,⟨n,g,R,l.kp i,j,d,hq.kp i⟩⟩
   ·exact⟨false,rfl,hq _ _ _ _ i j D4 d⟩
  ·exact hk.elim⟩
def vIf(t:AT)(ta tb:AE):AE:=λf g R=>t f g λk d=>brP k (ta f d R)<|tb f d R
def Oo(hc:VT X c tA)(ha:VE X a ta)(hb:VE X b tb):VE X (.IfExp c a b pos) (vIf tA ta tb) :=
 (X1 hc ha hb).imp λu H Q j=>B1 j λl q R i hc h hq=>⟨l,q,_,i,hc,h,λk d s f n hk=>by
  rcases br_e hk with⟨rfl,g⟩|⟨rfl,g⟩
  ·exact⟨l,d,R,i.kp f,n,g,hq.kp f⟩
  ·exact⟨l,d,R,i.kp f,n,g,hq.kp f⟩⟩
def NB:AA:=λ_ d R=>R [] d
def JA(ta:AE)(i:AA):AA:=λg j R=>ta g j λx f=>i g f λh d=>R (x::h) d
def Ae:VA X [] NB:=LZ.imp λg H Q d=>B1 d λj f R i hc h hq=>hq [] f [] H Kp.refl hc .nil rfl h
def Aa{e:lX}{es:oA lX}{te:AE}{t:AA}(ha:VE X e te)(w:VA X es t)(hs:starEach (e::es) X.env=(false,eval e X.env)::starEach es X.env:=by rfl):VA X (e::es) (JA te t) :=
 (ES ha w hs).imp λE H Q d=>B1 d λj s R hs hc h hq=>⟨j,s,_,hs,hc,h,λx g v D l y q hx=>⟨j,g,_,hs.kp l,y,hx,λB f A u i c2 z n C=>
  hq (x::B) f (v::A) u (l.trans i) c2 (.cons (q.kp i) z) (by rw[aR,n];rfl) C⟩⟩
def ZW(t:AA):AE:=λg h R=>t g h λf d=>match dats f with
 |some i=>R (.D<|.tuple i) d
 |none=>False
def SI(t:AA):AE:=λh g R=>t h g λf d=>∀p,d p=none->R (.R p) (Al d p<|.lst f)
def Bl{k:Nat}(h:VA X es t)(hn:es.length<=sizeLine:=by decide):VE X (.Tuple es k pos) (ZW t) :=
 (Yd h).imp λy H Q d=>B1 d λl s R j hc h hq=>⟨l,s,_,j,hc,h,λw n v u q i f g hx=>⟨by rw[<- f.length,g];exact hn,λp hp=>by
  split at hx
  ·rename_i z e;refine hq _ _ _ _ (q.trans<|Kp.new hp _) (i.over hp) ?_ hx;exact Ju Bc (An.kp (Kp.new hp _) _ _<|f.dats e)
  ·exact hx.elim⟩⟩
def Br(h:VA X es t)(hn:es.length<=sizeLine:=by decide):VE X (.List es pos) (SI t) :=
 (MA h).imp λy H Q d=>B1 d λl s R j hc h hq=>⟨l,s,_,j,hc,h,λw n v u q f g i hx=>⟨by rw[<- g.length,i];exact hn,λp hp=>
  hq _ _ _ _ (q.trans<|Kp.new hp _) (f.new hp<|C2<|g) C7 (hx p<|f.none hp)⟩⟩
mutual
theorem Dk.reads{y:oA<|lT×l_}{A:St}{H:Hp}{s:lQ}(I:Inv X y A H s):∀(d:lR) (x:V) (u:lP),Dk X.K H d x->Ba x u->∃v,Reads s.heap u d v
 |.none,x,u,h,r=>by cases h.non;cases r;exact⟨_,.none⟩
 |.bool b,x,u,h,r=>by cases h.bl;cases r;exact⟨_,.bool b⟩
 |.int i,x,u,h,r=>by cases h.int;obtain⟨t,rfl⟩:=r;exact⟨_,.int i t⟩
 |.str z,x,u,h,r=>by cases h.str;obtain⟨t,rfl⟩:=r;exact⟨_,.str z t⟩
 |.list w,x,u,h,r=>by obtain⟨a,l,rfl,q,k⟩:=h.lst;cases r;obtain⟨g,j,⟨o,n,e,c,_,d⟩,_⟩:=I.list q.sq;obtain⟨v,f⟩:=An.reads I w l g k j;exact⟨_,.list e c d<|by simpa using f⟩
 |.tuple w,x,u,h,r=>by obtain⟨a,l,rfl,q,k⟩:=h.tup;cases r;obtain⟨g,j,⟨o,e,c,n,d⟩,_⟩:=I.tuple q.sq;obtain⟨v,f⟩:=An.reads I w l g k j;exact⟨_,.tuple e c d<|by simpa using f⟩
 |.dict _,x,u,h,_=>by simp only[Dk]at h
theorem An.reads{l:oA<|lT×l_}{q:St}{H:Hp}{s:lQ}(I:Inv X l q H s):∀(ds:oA lR) (xs:oA V) (f:oA lP),An X.K H ds xs->Vals xs f->∃g,ReadsAll s.heap f ds g
 |[],xs,f,h,r=>by have e:=h.nil;subst e;cases r;exact⟨_,.nil⟩
 |d::ds,xs,f,h,r=>by
  obtain⟨x,j,rfl,h1,h2⟩:=h.cons;cases r with
  |cons u i=>obtain⟨g,n⟩:=Dk.reads I d x _ h1 u;obtain⟨w,v⟩:=An.reads I ds j _ h2 i;exact⟨_,.cons n v⟩
end
def see(h:M):AV->oB lR
 |.X _ _=>none
 |.D d=>some d
 |.C f=>some (.tuple f)
 |.R a=>match h a with
  |some (.lst g)=>match dats g with
   |some f=>some (.list f)
   |none=>none
  |_=>none
@[simp] theorem see_D {f:M} {d:lR}:see f (.D d)=some d:=rfl
def Dx{A:oA<|lT×l_}{G:St}{H:Hp}{s:lQ}{y:M}{x:AV}{v:V}{u:lP}{d:lR}(I:Inv X A G H s)(hc:Cn X.K y H)(f:RelA X.K H x v)(r:Ba v u)(e:see y x=some d):∃j,Reads s.heap u d j:=by
 cases x with
 |X C L=>cases e
 |D N=>cases e;exact Dk.reads I _ _ _ f r
 |C l=>cases e;obtain⟨a,w,rfl,q,k⟩:=f;cases r;obtain⟨h,i,⟨o,e,c,n,d⟩,_⟩:=I.tuple<|q H;obtain⟨j,g⟩:=An.reads I l w h k i;exact⟨_,.tuple e c d<|by simpa using g⟩
 |R a=>
  dsimp only[see]at e;split at e
  ·rename_i w F;split at e
   ·rename_i l J;cases e;cases (show v=.ref a from f);cases r;obtain⟨o,z,E,rfl,B⟩:=hc a _ F;obtain⟨h,i,⟨o,n,e,c,_,dd⟩,_⟩:=I.list<|Ff.of z;obtain⟨j,g⟩:=An.reads I l E h (B.dats J) i;exact⟨_,.list e c dd<|by simpa using g⟩
   ·cases e
  ·cases e
def B6(d:lR):Prop:=d.canLay0=true/\d.depth<=64
def aEq:A2:=λx y f R=>match x,y with
 |.D d,.D e=>B6 d/\B6 e/\R (.D<|.bool<|PyData.eqv d e) f
 |x,y=>opt (see f x) λd=>opt (see f y) λe=>B6 d/\B6 e/\R (.D<|.bool<|PyData.eqv d e) f
def FS{x y:AV}{f:M}{R:AV->M->Prop}(h:aEq x y f R):∃d e,see f x=some d/\see f y=some e/\B6 d/\B6 e/\R (.D<|.bool<|PyData.eqv d e) f:=by
 have g:∀(h:opt (see f x) λd=>opt (see f y) λe=>B6 d/\B6 e/\R (.D<|.bool<|PyData.eqv d e) f),∃d e,see f x=some d/\see f y=some e/\B6 d/\B6 e/\R (.D<|.bool<|PyData.eqv d e) f:=by intro h;obtain⟨d,i,h⟩:=A0 h;obtain⟨e,j,h⟩:=A0 h;exact⟨d,e,i,j,h⟩
 cases x with
 |D d=>
  cases y with
  |D e=>exact⟨_,_,rfl,rfl,h⟩
  |_=>exact g h
 |_=>exact g h
def ZX:A2:=λx y f R=>match x,y with
 |.D d,.D e=>B6 d/\B6 e/\R (.D<|.bool<|!PyData.eqv d e) f
 |x,y=>opt (see f x) λd=>opt (see f y) λe=>B6 d/\B6 e/\R (.D<|.bool<|!PyData.eqv d e) f
def FT{x y:AV}{f:M}{R:AV->M->Prop}(h:ZX x y f R):∃d e,see f x=some d/\see f y=some e/\B6 d/\B6 e/\R (.D<|.bool<|!PyData.eqv d e) f:=by
 unfold ZX at h;split at h
 ·exact⟨_,_,rfl,rfl,h⟩
 ·obtain⟨d,g,h⟩:=A0 h;obtain⟨e,i,h⟩:=A0 h;exact⟨d,e,g,i,h⟩
def Fv(j:Room k X.A):VOp X (compareOp .Eq) aEq:=by
 intro C s F H x y v u Q I i z f;refine Fe f λa b D R n B hc h hq=>?_;obtain⟨d,e,w,l,h⟩:=FS h
 ·obtain⟨G,q⟩:=Dx I hc n i w;obtain⟨E,g⟩:=Dx I hc B z l;have hu:=j.un;have:=h.1.2;exact SeqAt.compareEq_reads q g h.1.1 h.2.1.1 (by omega) ⟨.bl _,H,I,rfl,hq _ _ _ _ Kp.refl hc D4 h.2.2⟩
def NC(j:Room k X.A):VOp X (compareOp .NotEq) ZX:=by
 intro C s F H x y v u Q I i z f;refine Fe f λa b D R n B hc h hq=>?_;obtain⟨d,e,w,l,h⟩:=FT h
 ·obtain⟨G,q⟩:=Dx I hc n i w;obtain⟨E,g⟩:=Dx I hc B z l;have hu:=j.un;have:=h.1.2;exact SeqAt.compareNe_reads q g h.1.1 h.2.1.1 (by omega) ⟨.bl _,H,I,rfl,hq _ _ _ _ Kp.refl hc D4 h.2.2⟩
def Op:lR->oB Key
 |.int i=>some (.inl i)
 |.str z=>some (.inr z)
 |_=>none
def items(g:M):AV->oB (oA AV)
 |.D (.tuple d)=>some (d.map .D)
 |.C d=>some (d.map .D)
 |.D (.list d)=>some (d.map .D)
 |.R a=>match g a with
  |some (.lst f)=>some f
  |_=>none
 |_=>none
def L5{H:Hp}{g:M}{x:AV}{v:V}{xs:oA AV}(hc:Cn X.K g H)(f:RelA X.K H x v)(e:items g x=some xs):∃p d,v=.ref p/\(Ff X.K H p d\/Iz X.K H p d)/\Ax X.K H xs d:=by
 unfold items at e;split at e
 ·cases e;obtain⟨a,d,rfl,q,r⟩:=RelA.tup f;exact⟨a,d,rfl,.inr q.sq,r.rel⟩
 ·cases e;obtain⟨a,d,rfl,q,r⟩:=f;exact⟨a,d,rfl,.inr<|q H,r.rel⟩
 ·cases e;obtain⟨a,d,rfl,q,r⟩:=RelA.lst f;exact⟨a,d,rfl,.inl q.sq,r.rel⟩
 ·split at e
  ·rename_i l i;cases e;obtain⟨o,h,d,rfl,j⟩:=hc _ _ i;exact⟨_,d,f,.inl<|Ff.of h,j⟩
  ·cases e
 ·cases e
def JB:AV->Bool
 |.D (.tuple _)=>true
 |.C _=>true
 |_=>false
def Ce{H:Hp}{g:M}{x:AV}{v:V}{xs:oA AV}(hc:Cn X.K g H)(f:RelA X.K H x v)(e:items g x=some xs):∃p d,v=.ref p/\((JB x=false/\Ff X.K H p d)\/(JB x=true/\Iz X.K H p d))/\Ax X.K H xs d:=by
 unfold items at e;split at e
 ·cases e;obtain⟨a,d,rfl,q,r⟩:=RelA.tup f;exact⟨a,d,rfl,.inr ⟨rfl,q.sq⟩,r.rel⟩
 ·cases e;obtain⟨a,d,rfl,q,r⟩:=f;exact⟨a,d,rfl,.inr ⟨rfl,q H⟩,r.rel⟩
 ·cases e;obtain⟨a,d,rfl,q,r⟩:=RelA.lst f;exact⟨a,d,rfl,.inl ⟨rfl,q.sq⟩,r.rel⟩
 ·split at e
  ·rename_i l i;cases e;obtain⟨o,h,d,rfl,j⟩:=hc _ _ i;exact⟨_,d,f,.inl ⟨rfl,Ff.of h⟩,j⟩
  ·cases e
 ·cases e
def QP(h:Bool->Bool):A2:=λx y f R=>match y with
 |.D (.str j)=>match x with
  |.D (.str i)=>R (.D<|.bool<|h<|!(Builtin.Str.occurrences j i 0 j.length 1).isEmpty) f
  |_=>False
 |.C g=>opt (see f x) λd=>B6 d/\B6 (.tuple g)/\R (.D<|.bool<|h<|g.any λe=>PyData.eqv e d) f
 |.D (.tuple g)=>opt (see f x) λd=>B6 d/\B6 (.tuple g)/\R (.D<|.bool<|h<|g.any λe=>PyData.eqv e d) f
 |y=>opt (see f x) λd=>opt (items f y) λl=>opt (dats l) λg=>B6 d/\B6 (.tuple g)/\R (.D<|.bool<|h<|g.any λe=>PyData.eqv e d) f
def To{n:Bool->Bool}{x y:AV}{i:M}{R:AV->M->Prop}(h:QP n x y i R)(hn:∀z,y≠.D (.str z)):∃d j g,see i x=some d/\items i y=some j/\dats j=some g/\B6 d/\B6 (.tuple g)/\R (.D<|.bool<|n<|g.any λe=>PyData.eqv e d) i:=by
 unfold QP at h;split at h
 ·exact absurd rfl<|hn _
 ·obtain⟨d,f,h⟩:=A0 h;exact⟨d,_,_,f,rfl,B8 _,h⟩
 ·obtain⟨d,f,h⟩:=A0 h;exact⟨d,_,_,f,rfl,B8 _,h⟩
 ·obtain⟨d,f,h⟩:=A0 h;obtain⟨j,q,h⟩:=A0 h;obtain⟨g,l,h⟩:=A0 h;exact⟨d,j,g,f,q,l,h⟩
def Oq{ds:oA lR}(h:B6<|.tuple ds):PyData.canLayAll0 ds=true/\PyData.depthAll ds<=64:=by obtain⟨h1,h2⟩:=h;simp only[PyData.canLay0]at h1;simp only[PyData.depth]at h2;exact⟨h1,iW h2⟩
def ND(V:Room k X.A):VOp X (compareOp .In) (QP λb=>b):=by
 intro O s Y H x y v u Q I E M i;refine Fe i λa b μ R G f hc h hq=>?_;by_cases hb:∃z,b=.D (.str z)
 ·obtain⟨z,rfl⟩:=hb;unfold QP at h;dsimp only at h;split at h
  ·cases RelA.str G;cases RelA.str f;exact Vu O s Y H _ _ v u Q I E M ⟨_,_,rfl,rfl,hq _ _ _ _ Kp.refl hc D4 h⟩
  ·exact h.elim
 ·obtain⟨d,ys,N,Z,W,n,h⟩:=To h λz e=>hb ⟨z,e⟩
  ·skip
   obtain⟨j,P,h⟩:=h;obtain⟨as,L⟩:=Dx I hc G E Z;obtain⟨p,F,rfl,hp,S⟩:=L5 hc f W;cases M;obtain⟨l,c2⟩:=Oq P;have J:=S.dats n;have hu:=V.un;have q:=hq _ _ _ _ Kp.refl hc D4 h;rcases hp with hp|hp
   ·obtain⟨g,r,B,hz⟩:=I.list hp;obtain⟨U,f⟩:=An.reads I N F g J r;have e:=λA=>E1 (A:=A) L j.1;refine SeqAt.in_listAt (Qs s.heap d) B.isList (λw C=>(e _ (by first|(show X.A.units+64<_;omega)|(show X.A.units+1+64<_;omega)|(show X.A.units+1+1+64<_;omega)) f l c2).1 w<|by simpa using C) ⟨.bl _,H,I,rfl,?_⟩;rw[show g.toArray.any (Qs s.heap d)=g.any (Qs s.heap d) by simp,(e X.A (by omega) f l c2).2];exact q
   ·obtain⟨g,r,B,hz⟩:=I.tuple hp;obtain⟨U,f⟩:=An.reads I N F g J r;have e:=λA=>E1 (A:=A) L j.1;refine SeqAt.in_tupleAt (Qs s.heap d) B (λw C=>(e _ (by first|(show X.A.units+64<_;omega)|(show X.A.units+1+64<_;omega)|(show X.A.units+1+1+64<_;omega)) f l c2).1 w<|by simpa using C) ⟨.bl _,H,I,rfl,?_⟩;rw[show g.toArray.any (Qs s.heap d)=g.any (Qs s.heap d) by simp,(e X.A (by omega) f l c2).2];exact q
def Tp(V:Room k X.A):VOp X (compareOp .NotIn) (QP λb=>!b):=by
 intro O s Y H x y v u Q I E M j;refine Fe j λa b μ R G f hc h hq=>?_;by_cases hb:∃z,b=.D (.str z)
 ·obtain⟨z,rfl⟩:=hb;unfold QP at h;dsimp only at h;split at h
  ·cases RelA.str G;cases RelA.str f;exact M4 O s Y H _ _ v u Q I E M ⟨_,_,rfl,rfl,hq _ _ _ _ Kp.refl hc D4 h⟩
  ·exact h.elim
 ·obtain⟨d,ys,N,Z,W,n,h⟩:=To h λz e=>hb ⟨z,e⟩
  ·skip
   obtain⟨i,P,h⟩:=h;obtain⟨as,L⟩:=Dx I hc G E Z;obtain⟨p,F,rfl,hp,S⟩:=L5 hc f W;cases M;obtain⟨l,c2⟩:=Oq P;have J:=S.dats n;have hu:=V.un;have q:=hq _ _ _ _ Kp.refl hc D4 h;rcases hp with hp|hp
   ·obtain⟨g,r,B,hz⟩:=I.list hp;obtain⟨U,f⟩:=An.reads I N F g J r;have e:=λA=>E1 (A:=A) L i.1;refine SeqAt.notIn_listAt (Qs s.heap d) B.isList (λw C=>(e _ (by first|(show X.A.units+64<_;omega)|(show X.A.units+1+64<_;omega)|(show X.A.units+1+1+64<_;omega)) f l c2).1 w<|by simpa using C) ⟨.bl _,H,I,rfl,?_⟩;rw[show g.toArray.any (Qs s.heap d)=g.any (Qs s.heap d) by simp,(e X.A (by omega) f l c2).2];exact q
   ·obtain⟨g,r,B,hz⟩:=I.tuple hp;obtain⟨U,f⟩:=An.reads I N F g J r;have e:=λA=>E1 (A:=A) L i.1;refine SeqAt.notIn_tupleAt (Qs s.heap d) B (λw C=>(e _ (by first|(show X.A.units+64<_;omega)|(show X.A.units+1+64<_;omega)|(show X.A.units+1+1+64<_;omega)) f l c2).1 w<|by simpa using C) ⟨.bl _,H,I,rfl,?_⟩;rw[show g.toArray.any (Qs s.heap d)=g.any (Qs s.heap d) by simp,(e X.A (by omega) f l c2).2];exact q
def Qcl:A2:=λx y d R=>match x,y with
 |.D .none,.D .none=>R (.D<|.bool true) d
 |_,.D .none=>R (.D<|.bool false) d
 |_,_=>False
def JC:A2:=λx y d R=>match x,y with
 |.D .none,.D .none=>R (.D<|.bool false) d
 |_,.D .none=>R (.D<|.bool true) d
 |_,_=>False
def Za{K:lU}{H:Hp}{x:AV}(h:RelA K H x .non):x=.D .none:=by
 cases x with
 |R a=>cases (show V.non=.ref a from h)
 |C g=>obtain⟨_,_,e,_⟩:=h;cases e
 |X C f=>obtain⟨_,_,_,e,_⟩:=h;cases e
 |D d=>
  cases d with
  |none=>rfl
  |bool b=>cases RelA.bl h
  |int b=>cases RelA.int h
  |str b=>cases RelA.str h
  |list b=>obtain⟨_,_,e,_⟩:=RelA.lst h;cases e
  |tuple b=>obtain⟨_,_,e,_⟩:=RelA.tup h;cases e
  |dict b=>exact absurd h<|by simp only[RelA,Dk];exact id
def NE:VOp X (compareOp .IsNot) JC:=by
 intro g s j H x y v u Q I f l d;refine Fe d λa b q R i n hc h hq=>?_;unfold JC at h;split at h
 ·cases RelA.non i;cases RelA.non n;exact Td g s j H _ _ v u Q I f l ⟨rfl,hq _ _ _ _ Kp.refl hc D4 h⟩
 ·rename_i ne;cases RelA.non n;refine Td g s j H _ _ v u Q I f l ⟨rfl,hq _ _ _ _ Kp.refl hc ?_ h⟩;have:x≠.non:=by intro e;subst e;exact ne<|Za i
  rw[aS this];exact D4
 ·exact h.elim
def aI(C:Int->Int->Prop)(g:Int->Int->lR):A2:=λx y d R=>match x,y with
 |.D (.int i),.D (.int j)=>C i j/\R (.D<|g i j) d
 |_,_=>False
def JD(g:Int->Int->lR):A2:=λx y d R=>match x,y with
 |.D (.int i),.D (.int j)=>R (.D<|g i j) d
 |_,_=>False
def SJ{f:lP->lP->Sem lP}{C:Int->Int->Prop}{g:Int->Int->V}{g':Int->Int->lR}(h:Gv X f<|rI C g)(A:∀i j H,Dk X.K H (g' i j)<|g i j):VOp X f (aI C g'):=by
 intro z s E H x y v u Q I q F n;refine Fe n λa b G R B w hc l hq=>?_;cases a with
 |D d=>
  cases d with
  |int i=>
   cases b with
   |D e=>
    cases e with
    |int j=>cases RelA.int B;cases RelA.int w;exact h z s E H _ _ v u Q I q F ⟨_,_,rfl,rfl,l.1,hq _ _ _ _ Kp.refl hc (Wc<|A _ _ _) l.2⟩
    |_=>exact False.elim l
   |_=>exact False.elim l
  |_=>exact False.elim l
 |_=>exact False.elim l
def Ri{f:lP->lP->Sem lP}{g:Int->Int->V}{g':Int->Int->lR}(h:Gv X f<|X8 g)(z:∀i j H,Dk X.K H (g' i j)<|g i j):VOp X f (JD g'):=by
 intro w s B H x y v u Q I q C l;refine Fe l λa b F R A E hc n hq=>?_;cases a with
 |D d=>
  cases d with
  |int i=>
   cases b with
   |D e=>
    cases e with
    |int j=>cases RelA.int A;cases RelA.int E;exact h w s B H _ _ v u Q I q C ⟨_,_,rfl,rfl,hq _ _ _ _ Kp.refl hc (Wc<|z _ _ _) n⟩
    |_=>exact False.elim n
   |_=>exact False.elim n
  |_=>exact False.elim n
 |_=>exact False.elim n
abbrev ZY:A2:=JD λi j=>.int<|i-j
abbrev JE:A2:=aI CDiv λi j=>.int<|i / j
abbrev NF:A2:=aI (λ_ j=>0<j) λi j=>.int<|i%j
abbrev ZZ:A2:=aI CPow λi j=>.int<|i^j.toNat
abbrev aLt:A2:=JD λi j=>.bool<|decide (i<j)
abbrev aLe:A2:=JD λi j=>.bool<|decide (i<=j)
abbrev aGt:A2:=JD λi j=>.bool<|decide (j<i)
abbrev aGe:A2:=JD λi j=>.bool<|decide (j<=i)
def JF:VOp X (binaryOp .Sub) ZY:=Ri LN λ_ _ _=>Df
def Zb:VOp X (binaryOp .FloorDiv) JE:=SJ EO λ_ _ _=>Df
def Gr:VOp X (binaryOp .Mod) NF:=SJ LQ λ_ _ _=>Df
def SK:VOp X (binaryOp .Pow) ZZ:=SJ LR λ_ _ _=>Df
def FU:VOp X (compareOp .Lt) aLt:=Ri RH λ_ _ _=>L0
def SL:VOp X (compareOp .LtE) aLe:=Ri RI λ_ _ _=>L0
def Os:VOp X (compareOp .Gt) aGt:=Ri RJ λ_ _ _=>L0
def Qaa:VOp X (compareOp .GtE) aGe:=Ri RK λ_ _ _=>L0
def Qab:A2:=λx y d R=>match x,y with
 |.D (.int i),.D (.int j)=>CMul i j/\R (.D<|.int<|i*j) d
 |.D (.str z),.D (.int n)=>(n=0\/n=1)/\R (.D<|.str<|if n=0 then Str.empty else z) d
 |_,_=>False
def L6:VOp X (binaryOp .Mult) Qab:=by
 intro l s q H x y v u Q I g w f;refine Fe f λa b B R n A hc h hq=>?_;cases a with
 |D d=>
  cases d with
  |int i=>
   cases b with
   |D e=>
    cases e with
    |int j=>cases RelA.int n;cases RelA.int A;exact LP l s q H _ _ v u Q I g w ⟨_,_,rfl,rfl,h.1,hq _ _ _ _ Kp.refl hc Ci h.2⟩
    |_=>exact False.elim h
   |_=>exact False.elim h
  |str z=>
   cases b with
   |D e=>
    cases e with
    |int j=>cases RelA.str n;cases RelA.int A;exact Nb l s q H _ _ v u Q I g w ⟨_,_,rfl,rfl,h.1,hq _ _ _ _ Kp.refl hc Jv h.2⟩
    |_=>exact False.elim h
   |_=>exact False.elim h
  |_=>exact False.elim h
 |_=>exact False.elim h
def FV:A2:=λx y d R=>match x,y with
 |.D (.int i),.D (.int j)=>R (.D<|.int<|i+j) d
 |.D (.str i),.D (.str j)=>i.length+j.length<=sizeLine/\R (.D<|.str<|i++j) d
 |.D (.tuple i),.D (.tuple j)=>i.length+j.length<=sizeLine/\R (.D<|.tuple<|i++j) d
 |.R i,.R j=>opt (d i) λm=>opt (d j) λn=>match m,n with
  |.lst f,.lst g=>f.length+g.length<=sizeLine/\∀p,d p=none->R (.R p) (Al d p<|.lst<|f++g)
  |_,_=>False
 |_,_=>False
def Qac{K:lU}{J:oA<|lT×l_}{Y:St}{H:Hp}{s:lQ}{v u:lP}{x y:V}{ds es:oA lR}{Q:VK}(hK:X.K=K)(I:Inv X J Y H s)(rx:Ba x v)(ry:Ba y u)(hx:Dk K H (.tuple ds) x)(hy:Dk K H (.tuple es) y)
  (hz:ds.length+es.length<=sizeLine) (q:∀z H',Kp H H'->(∀ Z,Cn K Z H->Cn K Z H')->Dk K H' (.tuple<|ds++es) z->Q z H'):qU X.prog X.w X.A (binaryOp .Add v u) (EP X J Y Q) X.xe s:=by
 subst hK;obtain⟨a,U,rfl,ha,W⟩:=hx.tup;obtain⟨b,M,rfl,hb,f⟩:=hy.tup;cases rx;cases ry;obtain⟨ae,h,L,_⟩:=I.tuple ha.sq;obtain⟨g,l,O,_⟩:=I.tuple hb.sq;have E:=W.length;have i:=f.length;by_cases hv:U=[]
 ·subst hv;have e:ae=[]:=h.nil_iff.mpr rfl;subst e;have D:ds=[]:=List.length_eq_zero_iff.mp E.symm;subst D;obtain⟨⟨cls,dd,R,sl⟩,G,hc,n,S⟩:=id L;obtain⟨⟨P,j,data2,C⟩,F,d,n2,N⟩:=id O;simp only at hc S d N;subst hc S d N;exact concat_meets ⟨_,G,rfl⟩ ⟨_,F,rfl⟩ lB seq_tuple_add iS iP (iG _ _)
   (tuple_addW0 a b [].toArray g.toArray n n2 dd j sl C rfl) ⟨G,F,.ref b,H,I,rfl,q _ _ Kp.refl (λ_ c=>c)<|by simpa using hy⟩
 ·refine HT.cat_tup L O (λz=>hv<|h.nil_iff.mp z) (λz=>⟨.ref a,H,I,rfl,q _ _ Kp.refl (λ_ c=>c) ?_⟩) (λz=>?_)<|by rw[<- h.length,<- l.length,E,i];exact hz
  ·have e:M=[]:=l.nil_iff.mp z;subst e;have D:es=[]:=List.length_eq_zero_iff.mp i.symm;subst D;simpa using hx
  ·have B:=I.hok.fresh<|G_ s.heap.objs.size;refine⟨.ref s.heap.objs.size,_,I.laid (t':=s.toks) (o:=.tup<|U++M) (λb ob q=>DD _ q) (G_ _) ?_,rfl,q _ _ (Kp.new B _) (λ_ c=>c.over B) ?_⟩
   ·exact⟨by rw[R_,E,i];exact hz,_,h.append l,IsTup.new _ _⟩
   ·exact Ju Bc<|An.kp (Kp.new B _) _ _<|W.append f
def B4:VOp X (binaryOp .Add) FV:=by
 intro B s C H x y v u Q I l A g;refine Fe g λa b W R w q hc h hq=>?_;cases a with
 |D d=>
  cases d with
  |int i=>
   cases b with
   |D e=>
    cases e with
    |int j=>cases RelA.int w;cases RelA.int q;exact LM B s C H _ _ v u Q I l A ⟨_,_,rfl,rfl,hq _ _ _ _ Kp.refl hc Ci h⟩
    |_=>exact False.elim h
   |_=>exact False.elim h
  |str z=>
   cases b with
   |D e=>
    cases e with
    |str j=>cases RelA.str w;cases RelA.str q;exact Qx B s C H _ _ v u Q I l A ⟨_,_,rfl,rfl,h.1,hq _ _ _ _ Kp.refl hc Jv h.2⟩
    |_=>exact False.elim h
   |_=>exact False.elim h
  |tuple Y=>
   cases b with
   |D e=>
    cases e with
    |tuple es=>exact Qac rfl I l A w q h.1 λz H' S c N=>hq _ _ _ _ S (c _ hc) (Wc N) h.2
    |_=>exact False.elim h
   |_=>exact False.elim h
  |_=>exact False.elim h
 |R i=>
  cases b with
  |R j=>
   obtain⟨m,L,h⟩:=A0 h;obtain⟨n,O,h⟩:=A0 h;cases m with
   |lst V=>
    cases n with
    |lst P=>cases (show x=.ref i from w);cases (show y=.ref j from q);obtain⟨o,F,J,rfl,E⟩:=hc i _ L;obtain⟨U,G,M,rfl,f⟩:=hc j _ O;exact MJ B s C H _ _ v u Q I l A ⟨i,j,J,M,rfl,rfl,F,G,by rw[<- E.length,<- f.length];exact h.1,λp hp=>hq _ _ _ _ (Kp.new hp _) (hc.new hp<|C2<|E.append f) C7<|h.2 p<|hc.none hp⟩
    |_=>exact False.elim h
   |_=>exact False.elim h
  |_=>exact False.elim h
 |_=>exact False.elim h
def QQ:A2:=λx y f R=>match x,y with
 |.D (.str z),.D (.int i)=>z.length<=sizeLine/\opt (atI z.cps.toList i) λc=>R (.D<|.str ⟨#[c]⟩) f
 |.D (.tuple g),.D (.int i)=>opt (atI g i) λd=>R (.D d) f
 |.D (.list g),.D (.int i)=>opt (atI g i) λd=>R (.D d) f
 |.R a,.D (.int i)=>opt (f a) λm=>match m with
  |.lst h=>opt (atI h i) λw=>R w f
  |_=>False
 |_,_=>False
def FW{x y:AV}{f:M}{R:AV->M->Prop}(h:QQ x y f R):∃i,y=.D (.int i):=by
 have g:(∀d,QQ (.D d) y f R->False)->(∀a,QQ (.R a) y f R->False)->False:=λh1 h2=>by
  cases x with
  |D d=>exact h1 d h
  |R a=>exact h2 a h
  |_=>exact h
 cases y with
 |D e=>
  cases e with
  |int i=>exact⟨i,rfl⟩
  |_=>exact(g (λd q=>by cases d<;>exact q) λa q=>q).elim
 |_=>exact(g (λd q=>by cases d<;>exact q) λa q=>q).elim
def B2:VIx X QQ:=by
 intro f g A s E H x y v u Q I q F O C;refine Fe O λa b V R B M hc h hq=>?_;obtain⟨i,rfl⟩:=FW h;cases RelA.int M;cases a with
 |D d=>
  cases d with
  |str z=>cases RelA.str B;obtain⟨h1,h⟩:=h;obtain⟨c,e,h⟩:=A0 h;exact MF f g A s E H _ _ v u Q I q F ⟨_,_,_,rfl,rfl,h1,e,hq _ _ _ _ Kp.refl hc Jv h⟩ C
  |tuple S=>obtain⟨d,G,h⟩:=A0 h;obtain⟨p,J,rfl,hp,l⟩:=RelA.tup B;obtain⟨z,n,j⟩:=l.atI G;exact ME f g A s E H _ _ v u Q I q F ⟨_,_,_,_,rfl,rfl,hp.sq,n,hq _ _ _ _ Kp.refl hc (Wc j) h⟩ C
  |list S=>obtain⟨d,G,h⟩:=A0 h;obtain⟨p,J,rfl,hp,l⟩:=RelA.lst B;obtain⟨z,n,j⟩:=l.atI G;exact Tg f g A s E H _ _ v u Q I q F ⟨_,_,_,_,rfl,rfl,hp.sq,n,hq _ _ _ _ Kp.refl hc (Wc j) h⟩ C
  |_=>exact False.elim h
 |R a=>
  obtain⟨m,P,h⟩:=A0 h;cases m with
  |lst U=>obtain⟨w,N,h⟩:=A0 h;obtain⟨o,L,J,rfl,l⟩:=hc _ _ P;cases (show x=.ref _ from B);obtain⟨z,n,j⟩:=l.atI N;exact Tg f g A s E H _ _ v u Q I q F ⟨_,_,_,_,rfl,rfl,Ff.of L,n,hq _ _ _ _ Kp.refl hc j h⟩ C
  |_=>exact False.elim h
 |_=>exact False.elim h
def Bh{r:A2}(d:VIx X r)(ha:VE X a ta)(hb:VE X b tb)(hs:Tf b:=by intro _ _;rfl):VE X (.Subscript a b pos) (Tn r ta tb):=(RQ d ha hb hs).imp λ_ _ _ h=>Jg h
def Tq:AO:=λ_ d R=>R none d
def JG(t:AE):AO:=λf g R=>t f g λx d=>match x with
 |.D (.int i)=>R (some i) d
 |_=>False
def Ek:VO X none Tq:=EV.imp λf H Q d=>B1 d λj g R i hc h hq=>hq _ _ _ Kp.refl hc h
def C0(h:VE X a ta):VO X (some a) (JG ta):=(EW h).imp λu H Q d=>B1 d λj q R i hc h hq=>⟨j,q,_,i,hc,h,λx l v s n g f hx=>by
 split at hx
 ·cases RelA.int f;exact⟨_,rfl,hq _ _ _ n g hx⟩
 ·exact hx.elim⟩
def aSl(x:AV)(lo f:oB Int):M->(AV->M->Prop)->Prop:=λd R=>match x with
 |.D (.str z)=>z.length<=sizeLine/\R (.D<|.str<|Txt.slice z lo f) d
 |.D (.tuple h)=>R (.D<|.tuple<|Na h lo f) d
 |.C _=>False
 |x=>opt (items d x) λg=>∀p,d p=none->R (.R p) (Al d p<|.lst<|Re g lo f)
def cSl(K:lU):V->oB Int->oB Int->Hp->VK->Prop:=λx lo f H Q=>∃a d R,RelA K H a x/\Cn K d H/\aSl a lo f d R/\LV K H R Q
def Qae:RO X (cSl X.K):=by
 intro w s C H x v y z lo f u Q I j q l n ⟨a,O,R,g,hc,h,hq⟩;unfold aSl at h;split at h
 ·cases RelA.str g;exact MR w s C H _ v y z lo f u Q I j q l n ⟨_,rfl,h.1,hq _ _ _ _ Kp.refl hc Jv h.2⟩
 ·rename_i i;by_cases A:HT.sIx i.length 0 lo=0/\HT.sIx i.length i.length f=i.length
  ·obtain⟨a,B,rfl,ha,hx⟩:=RelA.tup g;cases j;obtain⟨J,r,d,hz⟩:=I.tuple ha.sq;have E:J.toArray.size=i.length:=by rw[aA,<- r.length,hx.length]
   refine⟨"tuple",_,cU.lookup,d.typeIs,?_⟩;refine HT.getItem_tuple_all d q l n (by rw[E];exact A) ⟨.ref a,H,I,rfl,hq _ _ _ _ Kp.refl hc ?_ h⟩;rw[Yx A];exact g
  ·obtain⟨a,B,rfl,ha,hx⟩:=RelA.tup g;refine MD w s C H (.ref a) v y z lo f u Q I j q l n ⟨a,B,rfl,ha.sq,by rw[hx.length];exact A,λp hp=>?_⟩;exact hq _ _ _ _ (Kp.new hp _) (hc.over hp) (Y4 Bc<|An.kp (Kp.new hp _) _ _<|hx.cut lo f) h
 ·exact h.elim
 ·rename_i N G F;obtain⟨B,L,h⟩:=A0 h
  ·obtain⟨p,M,rfl,hp,D⟩:=Ce hc g L;rcases hp with⟨_,hp⟩|⟨d,hp⟩
   ·exact FA w s C H _ v y z lo f u Q I j q l n ⟨_,_,rfl,hp,λp hp=>hq _ _ _ _ (Kp.new hp _) (hc.new hp<|C2<|D.cut lo f) C7<|h p<|hc.none hp⟩
   ·exfalso;unfold JB at d;split at d
    ·exact G _ rfl
    ·exact F _ rfl
    ·cases d
def vSl(te:AE)(i n:AO):AE:=λh j R=>te h j λx g=>i h g λl d=>n h d λu f=>aSl x l u f R
def Cs{lo z:oB lX}{y B:AO}{D:Pos}(he:VE X a ta)(f:VO X lo y)(hu:VO X z B):VE X (.Subscript a (.Slice lo z none D) pos) (vSl ta y B) :=
 (Yg Qae he f hu).imp λM H Q d=>B1 d λs G R n hc h hq=>⟨s,G,_,n,hc,h,λx w v L i E C hx=>⟨s,w,_,n.kp i,E,hx,λl q I g c2 f=>⟨s,q,_,n.kp<|i.trans g,c2,f,λu j J A F hu=>
  ⟨x,j,R,C.kp<|g.trans A,F,hu,hq.kp<|i.trans<|g.trans A⟩⟩⟩⟩
def vCB(r:AC)(t:AA):AE:=λh f R=>t h f λg d=>r g d R
def Tr{K:lU}{n:Nat}{r:AC}{t:AA}{f:St}{H:Hp}{Q:VK}(h:cE K (vCB r t) f H Q):ZH (cC K r) (cA K n t) f H Q:=by obtain⟨s,g,R,l,hc,h,hq⟩:=h;exact⟨s,g,_,l,hc,h,λq d y w u i j v hx=>⟨q,d,R,j,i,hx,hq.kp u⟩⟩
def A7(hc:VCall X (.builtin i5) r)(d:Gl X x)(g:X.mg x=none)(hv:bootBuiltins x=some (.builtin i5))(ha:VA X (e::es) t)(hn:x ≠ "__name__" := by decide) (f:(x==("__debug__" : Str))=false:=by decide)
  (i:starEach (e::es) X.env=(false,eval e X.env)::starEach es X.env:=by rfl) (hpl:(backTo pos<|starEach es X.env).any (·.1)=false:=by rfl):VE X (.Call (.Name x p) (e::es) [] pos) (vCB r t) :=
 (Ye hc d g hv ha hn f i hpl).imp λ_ _ _ h=>Tr h
def Ca(hc:VCall X (.type T) r)(d:Gl X x)(g:X.mg x=none)(hv:bootBuiltins x=some (.type T))(ha:VA X (e::es) t)(hn:x ≠ "__name__" := by decide) (f:(x==("__debug__" : Str))=false:=by decide)
  (i:starEach (e::es) X.env=(false,eval e X.env)::starEach es X.env:=by rfl) (hpl:(backTo pos<|starEach es X.env).any (·.1)=false:=by rfl):VE X (.Call (.Name x p) (e::es) [] pos) (vCB r t) :=
 (Vy hc d g hv ha hn f i hpl).imp λ_ _ _ h=>Tr h
def SM:AC:=λh d R=>match h with
 |[.D<|.str z]=>z.length<=sizeLine/\R (.D<|.int z.length) d
 |[.D<|.tuple g]=>R (.D<|.int g.length) d
 |[.D<|.list g]=>R (.D<|.int g.length) d
 |[.R a]=>opt (d a) λm=>match m with
  |.lst i=>R (.D<|.int i.length) d
  |.dk f=>R (.D<|.int f.length) d
  |_=>False
 |_=>False
def Dt:VCall X (.builtin "len") SM:=by
 intro i s n H P j Q I r l;refine B1 l λS J R C hc h hq=>?_;have B:∀{y:AV} {t:oA AV} {x:AV},SM (x::y::t) J R->False:=λ{y t x} q=>by
  cases x with
  |D d=>cases d<;>exact q
  |_=>exact q
 cases C with
 |nil=>exact False.elim h
 |@cons x v N O u F=>
  cases F with
  |cons _ _=>exact(B h).elim
  |nil=>
   cases x with
   |D d=>
    cases d with
    |str z=>cases RelA.str u;exact M5 i s n H _ j Q I r ⟨_,rfl,h.1,hq _ _ _ _ Kp.refl hc Ci h.2⟩
    |tuple L=>obtain⟨p,g,rfl,hp,f⟩:=RelA.tup u;refine Fh i s n H _ j Q I r ⟨p,g,rfl,.inr hp.sq,hq _ _ _ _ Kp.refl hc ?_ h⟩;rw[f.length];exact Ci
    |list L=>obtain⟨p,g,rfl,hp,f⟩:=RelA.lst u;refine Fh i s n H _ j Q I r ⟨p,g,rfl,.inl hp.sq,hq _ _ _ _ Kp.refl hc ?_ h⟩;rw[f.length];exact Ci
    |_=>exact False.elim h
   |R a=>
    obtain⟨m,E,h⟩:=A0 h;cases (show _=V.ref _ from u);obtain⟨o,w,A⟩:=hc _ _ E;cases m with
    |lst M=>obtain⟨g,rfl,f⟩:=A;refine Fh i s n H _ j Q I r ⟨_,g,rfl,.inl<|Ff.of w,hq _ _ _ _ Kp.refl hc ?_ h⟩;rw[f.length];exact Ci
    |dk G=>obtain⟨g,rfl,f⟩:=A;refine V5 i s n H _ j Q I r ⟨_,g,rfl,w,hq _ _ _ _ Kp.refl hc ?_ h⟩;rw[bM f];exact Ci
    |_=>exact False.elim h
   |_=>exact False.elim h
def Nd:AC:=λg d R=>match g with
 |[.D<|.tuple f]=>R (.D<|.tuple f) d
 |[.C _]=>False
 |[y]=>opt (items d y) λh=>opt (dats h) λf=>R (.D<|.tuple f) d
 |_=>False
def Rj{x:AV}{t:oA AV}{f:M}{R:AV->M->Prop}(h:Nd (x::t) f R):t=[]:=by
 cases t with
 |nil=>rfl
 |cons y t=>
  refine False.elim ?_;cases x with
  |D d=>cases d<;>exact h
  |_=>exact h
def Wd{x:AV}{f:M}{R:AV->M->Prop}(g:JB x=false)(h:Nd [x] f R):opt (items f x) λj=>opt (dats j) λi=>R (.D<|.tuple i) f:=by
 cases x with
 |D d=>cases d<;>first|exact h|cases g
 |C i=>cases g
 |_=>exact h
def Zc{x:AV}{g:M}{R:AV->M->Prop}(i:JB x=true)(h:Nd [x] g R):∃f,x=.D (.tuple f)/\R (.D<|.tuple f) g:=by
 cases x with
 |D d=>
  cases d with
  |tuple f=>exact⟨f,rfl,h⟩
  |_=>cases i
 |C f=>exact False.elim h
 |_=>cases i
def Du:VCall X (.type "tuple") Nd:=by
 intro j s u H L q Q I r d;refine B1 d λN M R z hc h hq=>?_;cases z with
 |nil=>exact False.elim h
 |@cons y v C J i B=>
  have A:=Rj h;subst A;cases B;cases ht:JB y with
  |true=>obtain⟨F,rfl,h⟩:=Zc ht h;obtain⟨p,g,rfl,hp,n⟩:=RelA.tup i;exact Gn j s u H _ q Q I r ⟨p,g,rfl,.inr ⟨hp.sq,hq _ _ _ _ Kp.refl hc i h⟩⟩
  |false=>
   obtain⟨G,D,h⟩:=A0<|Wd ht h;obtain⟨F,E,h⟩:=A0 h;obtain⟨p,g,rfl,hp,n⟩:=Ce hc i D;rcases hp with⟨_,hp⟩|⟨w,_⟩
   ·exact Gn j s u H _ q Q I r ⟨p,g,rfl,.inl ⟨hp,λl f=>hq _ _ _ _ (Kp.new f _) (hc.over f) (Y4 Bc<|An.kp (Kp.new f _) _ _<|n.dats E) h⟩⟩
   ·rw[ht]at w;cases w
def bools:oA AV->oB (oA Bool)
 |[]=>some []
 |.D (.bool b)::r=>match bools r with
  |some d=>some (b::d)
  |none=>none
 |_::_=>none
theorem L7:∀(d:oA Bool),bools (d.map λb=>.D<|.bool b)=some d
 |[]=>rfl
 |b::d=>by simp only[List.map_cons,bools,L7 d]
theorem Ax.bools{K:lU}{H:Hp}{xs:oA AV}{g:oA V}{f:oA Bool}(h:Ax K H xs g)(e:L2.bools xs=some f):g=f.map V.bl:=by
 induction h generalizing f with
 |nil=>cases e;rfl
 |@cons x v xs g r t i=>
  cases x with
  |D d=>
   cases d with
   |bool b=>
    simp only[L2.bools]at e;cases q:L2.bools xs with
    |none=>rw[q]at e;cases e
    |some j=>rw[q]at e;cases e;cases RelA.bl r;rw[i q];rfl
   |_=>simp[L2.bools]at e
  |_=>simp[L2.bools]at e
def SN:AC:=λf d R=>match f with
 |[.R a]=>opt (d a) λm=>match m with
  |.lst g=>opt (bools g) λh=>R (.D<|.bool<|h.all id) d
  |_=>False
 |_=>False
def SO(l:X.calm=true):VCall X (.builtin "all") SN:=by
 intro i s w H B j Q I r d;refine B1 d λD C R v hc h hq=>?_;unfold SN at h;split at h
 ·cases v with
  |cons y f=>
   cases f;obtain⟨m,z,h⟩:=A0 h;split at h
   ·obtain⟨q,n,h⟩:=A0 h;obtain⟨o,g,A,rfl,u⟩:=hc _ _ z;cases (show _=V.ref _ from y);exact Yv l i s w H _ j Q I r ⟨_,q,rfl,Ff.of<|by rw[g,u.bools n],hq _ _ _ _ Kp.refl hc D4 h⟩
   ·exact h.elim
 ·exact h.elim
def JH:AC:=λd f R=>match d with
 |[.D<|.int i,.D<|.int j]=>R (.D<|.int<|if j>i then j else i) f
 |_=>False
def JI:AC:=λd f R=>match d with
 |[.D<|.int i,.D<|.int j]=>R (.D<|.int<|if j<i then j else i) f
 |_=>False
def Zd(j:X.calm=true):VCall X (.builtin "max") JH:=by
 intro g s q H w i Q I r d;refine B1 d λy v R n hc h hq=>?_;unfold JH at h;split at h
 ·cases n with
  |cons u f=>
   cases f with
   |cons f l=>cases l;cases RelA.int u;cases RelA.int f;exact Vv j g s q H _ i Q I r ⟨_,_,rfl,hq _ _ _ _ Kp.refl hc Ci h⟩
 ·exact h.elim
def NG(j:X.calm=true):VCall X (.builtin "min") JI:=by
 intro g s q H v i Q I r d;refine B1 d λy w R n hc h hq=>?_;unfold JI at h;split at h
 ·cases n with
  |cons u f=>
   cases f with
   |cons f l=>cases l;cases RelA.int u;cases RelA.int f;exact Vw j g s q H _ i Q I r ⟨_,_,rfl,hq _ _ _ _ Kp.refl hc Ci h⟩
 ·exact h.elim
def Ot(d:M):AV->Prop
 |.R a=>opt (d a) λm=>match m with
  |.lst _=>True
  |_=>False
 |.D (.list _)=>True
 |_=>False
def JJ:AV->Prop
 |.D (.str _)=>True
 |_=>False
def Ot.ty{H:Hp}{f:M}{x:AV}{v:V}(hc:Cn X.K f H)(d:RelA X.K H x v)(h:Ot f x):YB X.K "list" v H:=by
 unfold Ot at h;split at h
 ·obtain⟨m,e,h⟩:=A0 h;split at h
  ·obtain⟨o,j,i,rfl,_⟩:=hc _ _ e;cases (show v=.ref _ from d);exact .inl ⟨rfl,i,Ff.of j⟩
  ·exact h.elim
 ·obtain⟨a,g,rfl,q,_⟩:=RelA.lst d;exact .inl ⟨rfl,g,q.sq⟩
 ·exact h.elim
def Qag(m:AV->AC)(to:AE):AE:=λg f R=>to g f λx d=>Ot d x/\m x [] d R
def vBL(m:AV->AC)(to:AE)(t:AA):AE:=λg i R=>to g i λx d=>Ot d x/\t g d λh f=>m x h f R
def vBS(m:AV->AC)(to:AE)(t:AA):AE:=λg i R=>to g i λx f=>JJ x/\t g f λh d=>m x h d R
def NH(slot:Slot "list" name i5) (n:typeOf (.builtin i5)=pure (.type "method_descriptor")) (l:VMt X i5 m) (j:VE X o to)
  (u:attributeBase o name X.env (eval o X.env)=eval o X.env:=by rfl) (s:(ap.endLine==aj.line)=true:=by rfl):VE X (.Call (.Attribute o name ap) [] [] aj) (Qag m to) :=
 (M6 PySem.F.plainAttrs_list slot n l j u s).imp λB H Q d=>B1 d λz y R q hc h hq=>⟨z,y,_,q,hc,h,λx f v A w i g hx=>⟨hx.1.ty i g,x,[],f,R,g,.nil,i,hx.2,hq.kp w⟩⟩
def Fw(slot:Slot "list" name i5) (w:typeOf (.builtin i5)=pure (.type "method_descriptor")) (B:VMt X i5 m) (u:VE X o to) (ha:VA X (e::es) t) (E:attributeBase o name X.env (eval o X.env)=eval o X.env:=by rfl)
  (s:((backTo aj<|starEach (e::es) X.env).all (λx=>!x.1)&&(backToKw aj<|keywordEach [] X.env).all (λx=>x.1.isSome)
   && decide ((e::es).length+([]:oA Keyword).length+(if([]:oA Keyword).isEmpty then 0 else 1)<30))=true:=by rfl) (A:(ap.endLine==aj.line)=true:=by rfl) (hs:starEach (e::es) X.env=(false,eval e X.env)::starEach es X.env:=by rfl) (y:(backTo aj<|starEach es X.env).any (·.1)=false:=by rfl) :
  VE X (.Call (.Attribute o name ap) (e::es) [] aj) (vBL m to t) :=
 (IS PySem.F.plainAttrs_list slot w B u ha E s A hs y).imp λN H Q d=>B1 d λq G R hs hc h hq=>⟨q,G,_,hs,hc,h,λx g v M l n j hx=>⟨hx.1.ty n j,q,g,_,hs.kp l,n,hx.2,λC f L J i c2 z I D=>
  ⟨x,C,f,R,j.kp i,z,c2,D,hq.kp<|l.trans i⟩⟩⟩
def SQ(slot:Slot "str" name i5) (u:typeOf (.builtin i5)=pure (.type "method_descriptor")) (A:VMt X i5 m) (s:VE X o to) (ha:VA X (e::es) t) (E:attributeBase o name X.env (eval o X.env)=eval o X.env:=by rfl)
  (q:((backTo aj<|starEach (e::es) X.env).all (λx=>!x.1)&&(backToKw aj<|keywordEach [] X.env).all (λx=>x.1.isSome)
   && decide ((e::es).length+([]:oA Keyword).length+(if([]:oA Keyword).isEmpty then 0 else 1)<30))=true:=by rfl)
  (z:(ap.endLine==aj.line)=true:=by rfl) (hs:starEach (e::es) X.env=(false,eval e X.env)::starEach es X.env:=by rfl) (w:(backTo aj<|starEach es X.env).any (·.1)=false:=by rfl) :
  VE X (.Call (.Attribute o name ap) (e::es) [] aj) (vBS m to t) :=
 (IS PySem.F.plainAttrs_str slot u A s ha E q z hs w).imp λN H Q d=>B1 d λn G R hs hc h hq=>⟨n,G,_,hs,hc,h,λx g v M l B j hx=>⟨by
   obtain⟨hx,_⟩:=hx;unfold JJ at hx;split at hx
   ·cases RelA.str j;rfl
   ·exact hx.elim,n,g,_,hs.kp l,B,hx.2,λC f L J i c2 y I D=>
  ⟨x,C,f,R,j.kp i,y,c2,D,hq.kp<|l.trans i⟩⟩⟩
def Nf:AV->AC:=λx g d R=>match x,g with
 |.R a,[y]=>opt (d a) λm=>match m with
  |.lst f=>f.length<sizeLine/\R (.D .none) (Al d a<|.lst<|f++[y])
  |_=>False
 |_,_=>False
def Dn:VMt X "list.append" Nf:=by
 intro l s A H x D v n Q I j r d;refine Fe d λa E C R z u hc h hq=>?_;unfold Nf at h;split at h
 ·rename_i a y;obtain⟨m,q,h⟩:=A0 h;split at h
  ·cases u with
   |cons B i=>cases i;obtain⟨o,f,w,rfl,g⟩:=hc _ _ q;cases (show x=.ref a from z);exact Lx l s A H _ _ v n Q I j r ⟨a,w,_,rfl,rfl,f,by rw[<- g.length];exact h.1,hq _ _ _ _ (Kp.put f trivial _) (hc.put f trivial (C2<|g.append<|.cons B .nil)) Nc h.2⟩
  ·exact h.elim
 ·exact h.elim
def Ts:AV->AC:=λx h d R=>match x,h with
 |.R a,[.R b]=>opt (d a) λm=>opt (d b) λn=>match m,n with
  |.lst g,.lst f=>g.length+f.length<=sizeLine/\R (.D .none) (Al d a<|.lst<|g++f)
  |_,_=>False
 |_,_=>False
def Jz:VMt X "list.extend" Ts:=by
 intro l s E H x J v C Q I j r d;refine Fe d λa M L R y u hc h hq=>?_;unfold Ts at h;split at h
 ·rename_i a b;obtain⟨m,D,h⟩:=A0 h;obtain⟨n,A,h⟩:=A0 h;split at h
  ·cases u with
   |cons F B=>cases B;obtain⟨o,g,w,rfl,i⟩:=hc _ _ D;obtain⟨G,q,z,rfl,f⟩:=hc _ _ A;cases (show x=.ref a from y);cases (show _=V.ref b from F);exact Vz l s E H _ _ v C Q I j r ⟨a,b,w,z,rfl,rfl,g,q,by rw[<- i.length,<- f.length];exact h.1,hq _ _ _ _ (Kp.put g trivial _) (hc.put g trivial (C2<|i.append f)) Nc h.2⟩
  ·exact h.elim
 ·exact h.elim
def SR:AV->AC:=λx g f R=>match x,g with
 |.R a,[]=>opt (f a) λm=>match m with
  |.lst d=>opt d[d.length-1]? λy=>R y (Al f a<|.lst d.dropLast)
  |_=>False
 |_,_=>False
def SS:VMt X "list.pop" SR:=by
 intro n s D H x F v q Q I j r d;refine Fe d λa G E R C A hc h hq=>?_;unfold SR at h;split at h
 ·rename_i a;obtain⟨m,w,h⟩:=A0 h;split at h
  ·obtain⟨y,l,h⟩:=A0 h
   ·cases A;obtain⟨o,f,B,rfl,g⟩:=hc _ _ w;cases (show x=.ref a from C);obtain⟨z,u,i⟩:=g.get l;exact MH n s D H _ _ v q Q I j r ⟨a,B,z,rfl,rfl,f,by rw[<- g.length];exact u,hq _ _ _ _ (Kp.put f trivial _) (hc.put f trivial (C2<|g.dropLast)) (i.kp<|Kp.put f trivial _) h⟩
  ·exact h.elim
 ·exact h.elim
end
section
variable {X:Cx}{a b c:lX}{ta tb tc:AE}{pos:Pos}{x:Str}{p:Pos}{e:lX}{es:oA lX}{t:AA}{k:Nat}{ps:oA Str}{sp:ASp}{st:mC}{rest:oA mC}{s1 s2:AS}{tg:lX}{N':oA Str}{mp:oA<|oB Nat}{dy iter:lX}{c7:oA lX}{scope:mF}{wi:AI}{g:AG}{tst:AT}{te:AE}{P:lV}{w:lW}{K:lU}{mg:Str->oB lP}{base:lZ}
abbrev ASp:=oA AV->M->(AV->M->Prop)->Prop
def Gd(K:lU)(n:Nat)(sp:ASp):Sp:=λh H Q _=>∃d f R,d.length=n/\Ax K H d h/\Cn K f H/\sp d f R/\LV K H R Q
def VCal(P:lV)(w:lW)(K:lU)(mg:Str->oB lP)(base:lZ)(k:Nat)(x:Str)(ps:oA Str)(sp:ASp):Prop:=Cal P w K mg base k x ps<|Gd K ps.length sp
def ST(n:Nat)(sp:ASp)(t:AA):AE:=λf i R=>t f i λh d=>sp h d R
def Am(F:VCal X.prog X.w X.K X.mg X.base k x ps sp)(r:Room k X.A)(m:Gl X x)(ha:VA X (e::es) t)(i:(e::es).length=ps.length:=by rfl)(hdb:(x==("__debug__" : Str))=false:=by decide)
  (j:starEach (e::es) X.env=(false,eval e X.env)::starEach es X.env:=by rfl) (hpl:(backTo pos<|starEach es X.env).any (·.1)=false:=by rfl):VE X (.Call (.Name x p) (e::es) [] pos) (ST ps.length sp t):=by
 obtain⟨g,I,G,C,q,y⟩:=F;refine PE.imp (ET (E:=E0) G r m y q C .nil IV ha (hdb:=hdb) (he:=j) (hpl:=hpl)) λL H Q d=>B1 d λz B R u hc h hq=>?_;exact⟨z,B,_,u,hc,h,λv f D J o s l n hx=>⟨v,f,R,n.trans i,by rw[cB];exact l,s,hx,hq.kp o⟩⟩
def SU:AS:=λk _ _ _ f d=>k f d
def We(t u:AS):AS:=λk r b c f d=>t (u k r b c) r b c f d
def Bp:VSs X [] SU:=EG.imp λD i H d=>Gi d λo n j nr l m f hc h hq=>hq.nx _ _ _ _ Kp.refl f hc h
def Af(h1:VS X st s1)(h2:VSs X rest s2):VSs X (st::rest) (We s1 s2):=(X2 h1 h2).imp λD A H d=>Gi d λy s o nr q l m hc h hq=>
 ⟨y,s,_,_,_,_,m,hc,h,⟨λi f u z n v r j=>⟨i,f,o,nr,q,l,v,r,j,hq.kp n⟩,hq.rt,hq.bk,hq.ct⟩⟩
def Ai(h1:VS X st s1):VSs X [st] s1:=Tc h1
def JK(te:AE):AS:=λk _ _ _ f h=>te f h λ_ d=>k f d
def Ck(he:VE X a ta)(hs:swapsWith a none pos.line X.env=pure false:=by rfl):VS X (.Expr a pos) (JK ta):=(EH he hs).imp λD r H d=>Gi d λm l s nr u o hs hc h hq=>
 ⟨m,l,_,hs,hc,h,λx j v q f i n hx=>hq.nx _ _ _ _ f (hs.kp f) i hx⟩
def Qah(te:AE):AS:=λ_ r _ _ f d=>te f d r
def Bf(he:VE X a ta):VS X (.Return (some a) pos) (Qah ta):=(LH he).imp λD l H d=>Gi d λj f m nr n o i hc h hq=>⟨j,f,_,i,hc,h,hq.rt⟩
def Qai(ct:AT)(t u:AS):AS:=λk r b c f h=>ct f h λx d=>brP x (t k r b c f d)<|u k r b c f d
def Ct{c:lX}{a b:oA mC}{tc:AT}(hc:VT X c tc)(ha:VSs X a s1)(hb:VSs X b s2):VS X (.If c a b pos) (Qai tc s1 s2):=(QZ hc ha hb).imp λD v H d=>Gi d λm s q nr r n l hc h hq=>
 ⟨m,s,_,l,hc,h,λk f u i o hk=>by
  rcases br_e hk with⟨rfl,j⟩|⟨rfl,j⟩
  ·exact⟨m,f,q,nr,r,n,l.kp i,o,j,hq.kp i⟩
  ·exact⟨m,f,q,nr,r,n,l.kp i,o,j,hq.kp i⟩⟩
def Dd(i:Nat):AG:=λv f d R=>R (f.set i<|some v) d
def Aj{i:Nat}{x:Str}(n:X.N.Nodup)(m:X.N[i]?=some x)(hx:Loc X.env.scope x)(j:X.fn x=true\/X.env.scope.names.lookup x=some .local:=by first|exact .inl rfl|exact .inr rfl|assumption):VG X (.Name x pos) (Dd i) :=
 (EI n m hx j).imp λv r H Q d=>Fe d λx q o R f l hc h hq=>hq _ _ _ _ Kp.refl (l.set f i) hc h
def Ou:AGs:=λh f d R=>match h with
 |[]=>R f d
 |_::_=>False
def E6(t:AG)(u:AGs):AGs:=λi j h R=>match i with
 |[]=>False
 |v::r=>t v j h λd f=>u r d f R
def B7:VGs X [] Ou:=EJ.imp λn l H Q d=>Fe d λj o m R f i hc h hq=>by
 cases f with
 |nil=>exact⟨rfl,hq _ _ _ _ Kp.refl i hc h⟩
 |cons=>exact h.elim
def Aw{e:lX}{es:oA lX}{t:AG}{u:AGs}(h1:VG X e t)(h2:VGs X es u)
  (hs:(assignEach (e::es) X.env).map (·.2)=assign e X.env::(assignEach es X.env).map (·.2):=by rfl):VGs X (e::es) (E6 t u):=(X4 h1 h2 hs).imp λz C H Q d=>Fe d λB o s R m hs hc h hq=>by
 cases m with
 |nil=>exact h.elim
 |cons q l=>exact⟨_,_,rfl,_,o,s,_,q,hs,hc,h,λi f v A j y r n=>⟨_,i,f,R,Ax.kp j l,y,r,n,hq.kp j⟩⟩
def NI(n:Nat)(t:AGs):AG:=λv h f R=>match v with
 |.D (.tuple d)=>d.length=n/\t (d.map .D) h f R
 |_=>False
def Es{es:oA lX}{k:Nat}{t:AGs}{n:Nat}(j:X.calm=true)(h:VGs X es t)
  (hn:(assignEach es X.env).length=n:=by rfl) (l:(assignEach es X.env).findIdx? (·.1)=none:=by rfl):VG X (.Tuple es k pos) (NI n t):=(Qt j h hn l).imp λv u H Q d=>Fe d λx s i R f m hc h hq=>by
 unfold NI at h;split at h
 ·obtain⟨a,o,rfl,q,r⟩:=RelA.tup f;exact⟨a,o,rfl,q.sq,by rw[r.length];exact h.1,_,s,i,R,r.rel,m,hc,h.2,hq⟩
 ·exact h.elim
def Qcs(o i v:AV)(f:M)(R:M->Prop):Prop:=match o,i with
 |.R a,.D (.int k)=>opt (f a) λm=>match m with
  |.lst d=>opt (EY d.length k) λj=>R (Al f a<|.lst<|d.set j v)
  |_=>False
 |_,_=>False
def Lh(te:AE)(g:AG):AS:=λk _ _ _ f h=>te f h λx d=>g x f d k
def Ze{K:lU}{te:AE}{g:AG}{D:Ends}{i:St}{H:Hp}(h:cS K (Lh te g) D i H):EK (cE K te) (cG K g) D i H:=by obtain⟨l,o,s,nr,u,r,f,hc,h,hq⟩:=h;exact⟨l,o,_,f,hc,h,λx d v q j n m hx=>⟨x,l,d,_,m,f.kp j,n,hx,hq.nx.kp j⟩⟩
def NJ{tg:lX}{g:AG}(he:VE X a ta)(d:VG X tg g)(hs:swapsWithSole [tg] a pos.line X.env=pure false:=by rfl)(f:swappedStores [tg] a X.env=pure none:=by rfl)
  (h1:(assignEach [tg] X.env).map (·.2)=[assign tg X.env]:=by rfl):VS X (.Assign [tg] a pos) (Lh ta g):=(X5 he d hs f h1).imp λ_ _ _ h=>Ze h
def Aq{i:Nat}{x:Str}{f:Pos}(u:X.N.Nodup)(q:X.N[i]?=some x)(hx:Loc X.env.scope x)(he:VE X a ta)(hs:swapsWith a (some<|.Name x f) pos.line X.env=pure false:=by rfl)(n:X.fn x=true\/X.env.scope.names.lookup x=some .local:=by first|exact .inl rfl|exact .inr rfl|assumption) :
  VS X (.Assign [.Name x f] a pos) (Lh ta<|Dd i):=(LI u q hx he hs n).imp λD A H d=>Gi d λr m B nr C y hs hc h hq=>
 ⟨r,m,_,hs,hc,h,λx s v z j o l hx=>hq.nx _ _ _ _ j ((hs.kp j).set l i) o hx⟩
def Qaj(i j:Nat)(t:AA):AS:=λk _ _ _ f l=>t f l λh d=>match h with
 |[v,w]=>k ((f.set i<|some v).set j<|some w) d
 |_=>False
def NK{i j:Nat}{x y:Str}{t:AA}{m f n:Pos}{kt k2 gc}(hc:X.calm=true)(q:X.N.Nodup)(A:X.N[i]?=some x)(hj:X.N[j]?=some y)(u:i≠j)(hx:X.env.scope.names.lookup x=some .local)(hy:X.env.scope.names.lookup y=some .local)(ha:VA X [a,b] t)
  (v:swappedStores [.Tuple [.Name x m,.Name y f] kt n] (.Tuple [a,b] k2 gc) X.env=pure (some [x,y])) (hs:swapsWithSole [.Tuple [.Name x m,.Name y f] kt n] (.Tuple [a,b] k2 gc) pos.line X.env=pure false:=by rfl) :
  VS X (.Assign [.Tuple [.Name x m,.Name y f] kt n] (.Tuple [a,b] k2 gc) pos) (Qaj i j t):=(LJ hc q A hj u hx hy ha v hs).imp λD O H d=>Gi d λF E Q nr R J hs hc h hq=>
 ⟨F,E,_,hs,hc,h,λM C I L o z s G hx=>by
  split at hx
  ·cases s with
   |cons B l=>
    cases l with
    |cons l r=>cases r;exact⟨_,_,rfl,hq.nx _ _ _ _ o (((hs.kp o).set B i).set l j) z hx⟩
  ·exact hx.elim⟩
def SV(i j l:Nat)(t:AA):AS:=λk _ _ _ f m=>t f m λh d=>match h with
 |[u,v,w]=>k (((f.set i<|some u).set j<|some v).set l<|some w) d
 |_=>False
def FX{i j l:Nat}{x y z:Str}{t:AA}{r f n s:Pos}{kt k2 gc}(hc:X.calm=true)(Q:X.N.Nodup)(I:X.N[i]?=some x)(hj:X.N[j]?=some y)(u:X.N[l]?=some z)(C:i≠j)(A:i≠l)(q:j≠l)
  (hx:X.env.scope.names.lookup x=some .local) (hy:X.env.scope.names.lookup y=some .local) (hz:X.env.scope.names.lookup z=some .local) (ha:VA X [a,b,c] t) (F:swappedStores [.Tuple [.Name x r,.Name y f,.Name z n] kt s] (.Tuple [a,b,c] k2 gc) X.env=pure (some [x,y,z]))
  (hs:swapsWithSole [.Tuple [.Name x r,.Name y f,.Name z n] kt s] (.Tuple [a,b,c] k2 gc) pos.line X.env=pure false:=by rfl) :
  VS X (.Assign [.Tuple [.Name x r,.Name y f,.Name z n] kt s] (.Tuple [a,b,c] k2 gc) pos) (SV i j l t):=(FM hc Q I hj u C A q hx hy hz ha F hs).imp λD V H d=>Gi d λJ O W nr Y S hs hc h hq=>
 ⟨J,O,_,hs,hc,h,λU M R T v G B u hx=>by
  split at hx
  ·cases B with
   |cons L o=>
    cases o with
    |cons o m=>
     cases m with
     |cons m E=>cases E;exact⟨_,_,_,rfl,hq.nx _ _ _ _ v ((((hs.kp v).set L i).set o j).set m l) G hx⟩
  ·exact hx.elim⟩
def wl(c:AT)(tb:AS)(k:ASt->M->Prop)(r:AV->M->Prop):Nat->ASt->M->Prop
 | 0=>λ_ _=>False
 |n+1=>λf h=>c f h λx d=>brP x (tb (wl c tb k r n) r k (wl c tb k r n) f d)<|k f d
def NL(c:AT)(tb:AS):AS:=λk r _ _ f d=>∃n,wl c tb k r n f d
def J1{c:lX}{o:oA mC}{tc:AT}{tb:AS}(hp:PassesOwn (model X.prog X.w) X.A X.env X.xe)(hc:VT X c tc)(hb:VSs X o tb):VS X (.While c o [] pos) (NL tc tb):=(X6 hp hc hb).imp λD V H M=>Gi M λR Q L nr W U O hc N hq=>by
 obtain⟨n,h⟩:=N;refine⟨λm u y=>∃ i j,Kp H y/\Dv X.K y i u/\Cn X.K j y/\wl tc tb L nr m i j,⟨n,R,Q,Kp.refl,O,hc,h⟩,?_⟩;rintro m u y ⟨i,j,J,r,C,h1⟩;cases m with
 |zero=>exact h1.elim
 |succ m=>
  refine⟨i,j,_,r,C,h1,λk E T v c2 hk=>?_⟩;rcases br_e hk with⟨rfl,z⟩|⟨rfl,z⟩
  ·rw[N_ rfl];refine⟨λl s=>∃ d f,Kp H s/\Dv X.K s d l/\Cn X.K f s/\wl tc tb L nr m d f,by rintro l s ⟨d,f,q⟩;exact ⟨m,dN _,d,f,q⟩,i,E,_,_,_,_,r.kp v,c2,z,?_⟩;have S:=J.trans v;exact⟨λd f l s F I G B=>⟨d,f,S.trans F,I,G,B⟩,hq.rt.kp S,hq.nx.kp S,λd f l s F I G B=>⟨d,f,S.trans F,I,G,B⟩⟩
  ·rw[I_ Q_];exact hq.nx _ _ _ _ (J.trans v) (r.kp v) c2 z
structure ItOk(K:lU)(H0:Hp)(J:It)(xs:oA AV)(kp:M->Prop):Prop where
 go:∀i H μ,Kp H0 H->Cn K μ H->kp μ->i<xs.length->J.go i H
 yld:∀i H μ v H' x,Kp H0 H->Cn K μ H->kp μ->xs[i]?=some x->J.yld i H v H'->Kp H H'/\Cn K μ H'/\RelA K H' x v
 stop:∀H μ,Kp H0 H->Cn K μ H->kp μ->J.stop xs.length H
abbrev AI:=ASt->M->(oA AV->(M->Prop)->M->Prop)->Prop
def cI(K:lU)(wi:AI):TI:=λn H R=>∃ m j l,Dv K H m n/\Cn K j H/\wi m j l/\∀i h d J f,Kp H f->Cn K d f->ItOk K f J i h->l i h d->R J f
def VI(X:Cx)(tg iter:lX)(wi:AI):Prop:=PI X tg iter<|cI X.K wi
def PI.imp{tg e:lX}{t u:TI}(h:PI X tg e t)(i:∀ d H Q,u d H Q->t d H Q):PI X tg e u:=λf s d H Q I q=>h f s d H Q I<|i d H Q q
def Wg{K:lU}{j:Hp}{a:lT}{xs:oA AV}{l:M->Prop}(h:∀H f,Kp j H->Cn K f H->l f->∃d,Ff K H a d/\Ax K H xs d):ItOk K j (Itl K a) xs l:=by
 refine⟨λi H f S c k o=>?_,λi H f v s x S c k e y=>?_,λH f S c k=>?_⟩
 ·obtain⟨d,q,r⟩:=h H f S c k;exact⟨d,d[i]'(by rw[<- r.length];exact o),q,E_ _⟩
 ·obtain⟨d,q,r⟩:=h H f S c k;obtain⟨rfl,y⟩:=y;obtain⟨u,m,n⟩:=r.get e;rw[y d q]at m;cases m;exact⟨Kp.refl,c,n⟩
 ·obtain⟨d,q,r⟩:=h H f S c k;exact⟨d,q,by rw[r.length];exact G_ _⟩
def Zf{K:lU}{j:Hp}{a:lT}{xs:oA AV}{l:M->Prop}(h:∀H f,Kp j H->Cn K f H->l f->∃d,Iz K H a d/\Ax K H xs d):ItOk K j (Itt K a) xs l:=by
 refine⟨λi H f S c k o=>?_,λi H f v s x S c k e y=>?_,λH f S c k=>?_⟩
 ·obtain⟨d,q,r⟩:=h H f S c k;exact⟨d,d[i]'(by rw[<- r.length];exact o),q,E_ _⟩
 ·obtain⟨d,q,r⟩:=h H f S c k;obtain⟨rfl,y⟩:=y;obtain⟨u,m,n⟩:=r.get e;rw[y d q]at m;cases m;exact⟨Kp.refl,c,n⟩
 ·obtain⟨d,q,r⟩:=h H f S c k;exact⟨d,q,by rw[r.length];exact G_ _⟩
def Et(lo:Int):Nat->oA AV
 | 0=>[]
 |n+1=>.D (.int lo)::Et (lo+1) n
theorem Bm:∀(n:Nat) (lo:Int),(Et lo n).length=n
 | 0,_=>rfl
 |n+1,lo=>by rw[Et,aR,Bm n]
theorem G8:∀(n:Nat) (lo:Int) (i:Nat) {x:AV},(Et lo n)[i]?=some x->x=.D (.int<|lo+i)
 | 0,_,_,_,h=>by simp[Et]at h
 |n+1,lo,0,_,h=>by simp[Et]at h;rw[<- h];simp
 |n+1,lo,i+1,_,h=>by rw[Et,List.getElem?_cons_succ]at h;rw[G8 n (lo+1) i h];congr 2;omega
def Ov{K:lU}{h:Hp}{lo:Int}{n:Nat}:ItOk K h (Itr lo n) (Et lo n) (λ_=>True):=by
 refine⟨λi H f S c k d=>?_,λi H f v j x S c k e y=>?_,λH f S c k=>?_⟩
 ·show i<n;rw[Bm]at d;exact d
 ·obtain⟨rfl,rfl⟩:=y;rw[G8 n lo i e];exact⟨Kp.refl,c,Ci⟩
 ·show n<=_;rw[Bm];exact G_ _
def SW(t:AA):AI:=λh i R=>t h i λf d=>match f with
 |[.D<|.int j]=>-(2^62)<=j/\j<2^62/\R (Et 0 j.toNat) (λ_=>True) d
 |_=>False
def SX(t:AA):AI:=λh l R=>t h l λf d=>match f with
 |[.D<|.int i,.D<|.int j]=>(-(2^62)<=i/\i<2^62/\-(2^62)<=j/\j<2^62)/\R (Et i (j-i).toNat) (λ_=>True) d
 |_=>False
def Ch{t:AA}{p:Pos}(m:Gl X "range") (i:X.mg "range" = none) (ha:VA X [a] t) (hs:starEach [a] X.env=[(false,eval a X.env)]:=by rfl):VI X tg (.Call (.Name "range" p) [a] [] pos) (SW t) :=
 (Vr m i ha hs).imp λA H Q d=>B1 d λn s R hs hc h hq=>⟨n,s,_,hs,hc,h,λz q y v r j l u hx=>by
  split at hx
  ·cases l with
   |cons o f=>cases f;cases RelA.int o;exact⟨_,rfl,hx.1,hx.2.1,hq _ _ _ _ _ r j Ov hx.2.2⟩
  ·exact hx.elim⟩
def Wh{t:AA}{p:Pos}(n:Gl X "range") (i:X.mg "range" = none) (ha:VA X [a,b] t) (hs:starEach [a,b] X.env=[(false,eval a X.env),(false,eval b X.env)]:=by rfl) (hs2:starEach [b] X.env=[(false,eval b X.env)]:=by rfl):VI X tg (.Call (.Name "range" p) [a,b] [] pos) (SX t) :=
 (Vs n i ha hs (hs2:=hs2)).imp λB H Q d=>B1 d λo u R hs hc h hq=>⟨o,u,_,hs,hc,h,λA r z y s l m v hx=>by
  split at hx
  ·cases m with
   |cons q f=>
    cases f with
    |cons f j=>cases j;cases RelA.int q;cases RelA.int f;exact⟨_,_,rfl,hx.1,hq _ _ _ _ _ s l Ov hx.2⟩
  ·exact hx.elim⟩
def fl(g:AG)(tb:AS)(k:ASt->M->Prop)(r:AV->M->Prop)(f:M->Prop):oA AV->ASt->M->Prop
 |[]=>λj d=>f d/\k j d
 |x::l=>λj d=>f d/\g x j d λi h=>tb (fl g tb k r f l) r k (fl g tb k r f l) i h
def Qak(wi:AI)(g:AG)(tb:AS):AS:=λk r _ _ f j=>wi f j λi h d=>fl g tb k r h i f d
def SY{g:AG}{tb:AS}{k:ASt->M->Prop}{r:AV->M->Prop}{d:M->Prop}{xs:oA AV}{τ:ASt}{f:M}(h:fl g tb k r d xs τ f):d f:=by
 cases xs with
 |nil=>exact h.1
 |cons x xs=>exact h.1
def Cf{iter:lX}{o:oA mC}{wi:AI}{g:AG}{tb:AS}(hp:PassesOwn (model X.prog X.w) X.A X.env X.xe)(cu:X.calm=true)(u:VI X tg iter wi)(hg:VG X tg g)(hb:VSs X o tb)(E:∀x,foldedSetIterable iter X.env x=pure x:=by intro _;rfl) :
  VS X (.For tg iter o [] pos) (Qak wi g tb):=(X7 hp cu u hg hb E).imp λD σ H z=>Gi z λZ μ nk nr nb nc W hc h hq=>by
 refine⟨Z,μ,_,W,hc,h,λY kp O J V B c0 G h0=>?_⟩;refine Yw Y.length (λi n l=>∃ j d,Kp V l/\Dv X.K l j n/\Cn X.K d l/\fl g tb nk nr kp (Y.drop i) j d) ⟨Z,O,Kp.refl,W.kp B,c0,h0⟩ ?_ ?_ ?_
 ·rintro i n l u ⟨j,d,r,m,f,h1⟩;exact G.go i l d r f (SY h1) u
 ·rintro n l ⟨j,d,r,m,f,h1⟩;rw[fK]at h1;exact⟨G.stop l d r f h1.1,hq.nx _ _ _ _ (B.trans r) m f h1.2⟩
 ·rintro i v n l H2 u ⟨j,d,r,m,f,h1⟩ y;rw[bO u]at h1;obtain⟨hk,h1⟩:=h1;obtain⟨U,c2,rx⟩:=G.yld i l d v H2 _ r f hk (E_ u) y;refine⟨_,j,d,_,rx,m.kp U,c2,h1,λL N σ3 H3 S3 M C h3=>⟨L,N,_,_,_,_,M,C,h3,?_⟩⟩;have S:Kp V H3:=r.trans<|U.trans S3;exact⟨λq s I H' Q T R F=>⟨q,s,S.trans Q,T,R,F⟩,hq.rt.kp<|B.trans S,hq.nx.kp<|B.trans S,λq s I H' Q T R F=>⟨q,s,S.trans Q,T,R,F⟩⟩
def VIfs(X:Cx)(c7:oA lX)(t:AT):Prop:=PIfs X c7<|cT X.K t
def NM:AT:=λ_ d R=>R true d
def Bj:VIfs X [] NM:=λi s f H Q I d=>B1 d λm j R l hc h hq=>Yr i s f H Q I<|hq _ _ _ Kp.refl hc h
def Cm{t:AT}(h:VT X a t):VIfs X [a] t:=Ys h
def cl(p:lT)(g:AG)(tst:AT)(te:AE)(l:M->Prop)(R:M->Prop):oA AV->oA AV->ASt->M->Prop
 |[]=>λ_ _ j=>l j/\R j
 |x::n=>λd o j=>l j/\g x o j λf m=>tst f m λk h=>
  brP k (te f h λv i=>i p=some (.lst d)/\d.length<sizeLine/\cl p g tst te l R n (d++[v]) f (Al i p<|.lst<|d++[v])) (cl p g tst te l R n d f h)
def Ow(mp:oA<|oB Nat)(wi:AI)(g:AG)(tst:AT)(te:AE):AE:=λh l R=>wi h l λj i d=>∀p,d p=none->cl p g tst te i (λf=>R (.R p) f) j [] (MY mp h) (Al d p<|.lst [])
def SZ{p:lT}{g:AG}{tst:AT}{te:AE}{d:M->Prop}{R:M->Prop}{xs acc:oA AV}{τ:ASt}{f:M}(h:cl p g tst te d R xs acc τ f):d f:=by
 cases xs with
 |nil=>exact h.1
 |cons x xs=>exact h.1
def L8{K:lU}{mp:oA<|oB Nat}{wi:AI}{g:AG}{tst:AT}{te:AE}{σ:St}{H:Hp}{Q:VK}(h:cE K (Ow mp wi g tst te) σ H Q):Yu mp (cI K wi) (cG K g) (cT K tst) (cE K te) σ H Q:=by
 obtain⟨τ,μ,R,hs,hc,h,hq⟩:=h;refine⟨τ,μ,_,hs,hc,h,λxs kp T J G S0 c0 L h0=>?_⟩;intro p hp;have h0:=h0 p<|c0.none hp;have M:Cn K (Al T p<|.lst []) (upd G p<|.lst []):=c0.new hp<|C2<|.nil;have B:Kp G (upd G p<|.lst []):=Kp.new hp _;refine Tj xs.length (λi r n l=>∃ j d A,Kp G l/\Dv K l j n/\Cn K d l/\Ax K l A r/\cl p g tst te kp (λZ=>R (.R p) Z) (xs.drop i) A j d) ⟨_,_,[],B,((hs.kp S0).kp B).sub mp,M,.nil,h0⟩ ?_ ?_ ?_
 ·rintro i r n l F ⟨j,d,A,s,z,f,W,h1⟩;exact L.go i l d s f (SZ h1) F
 ·rintro r n l ⟨j,d,A,s,z,f,W,h1⟩;rw[fK]at h1;exact⟨L.stop l d s f h1.1,hq _ _ _ _ (S0.trans s) f C7 h1.2⟩
 ·rintro i v r n l H2 F ⟨j,d,A,s,z,f,W,h1⟩ y;rw[bO F]at h1;obtain⟨hk,h1⟩:=h1;obtain⟨U,c2,rx⟩:=L.yld i l d v H2 _ s f hk (E_ F) y;refine⟨_,j,d,_,rx,z.kp U,c2,h1,λm Y σ3 H3 S3 q I h3=>⟨m,Y,_,q,I,h3,λk E H4 D c4 h4=>?_⟩⟩;rcases br_e h4 with⟨rfl,N⟩|⟨rfl,N⟩
  ·rw[N_ rfl];refine⟨m,E,_,q.kp D,c4,N,λw μ5 u H5 S5 c5 rw O=>?_⟩;obtain⟨e5,hl,O⟩:=O;obtain⟨o,C,vs,rfl,V⟩:=c5 _ _ e5;have S:Kp l H5:=U.trans<|S3.trans<|D.trans S5;exact⟨vs,C,by rw[<- V.length];exact hl,m,_,_,(s.trans S).trans<|Kp.put C trivial _,(q.kp<|D.trans S5).kp<|Kp.put C trivial _,c5.put C trivial (C2<|V.append<|.cons rw .nil),(V.append<|.cons rw .nil).kp<|Kp.put C trivial _,O⟩
  ·rw[I_ Q_];have S:Kp l H4:=U.trans<|S3.trans D;exact⟨m,E,A,s.trans S,q.kp D,c4,W.kp S,N⟩
def aNx(R:AV->M->Prop):ASt->M->Prop:=λ_ d=>∃ f,Sub f d/\R (.D .none) f
def YD(R:AV->M->Prop):AV->M->Prop:=λv d=>∃ f,Sub f d/\R v f
def YE:ASt->M->Prop:=λ_ _=>False
def Fun.vok{x d:Str}{st:mC}{f:lT}{C:mD}{N ps:oA Str}{k:Nat}{sp:ASp}(F:Fun K x d st f C)(S:FnScope N ps<|Ah st) (G:∀(o:lP) (A:lY) (outer:oA Env) (s:lQ) (H:Hp) (E:XK),Room k (A.deeper<|envOfC d (Ah st) s.heap.objs.size f o) ->
   ∃t,VSs (Ld Eh P w K mg base N d (Ah st) f o A outer s H E).nox (Cd st) t/\∀j l R,j.length=ps.length->sp j l R->t (aNx R) (YD R) YE YE (Hq N j) l):FnOk P w K mg base Eh (k+1) f C ps (Gd K ps.length sp):=by
 refine F.ok S (λD H Q E h=>?_) λo A outer s H D Q E O h=>?_
 ·obtain⟨j,l,R,q,y,_⟩:=h;rw[<- y.length];exact q
 ·obtain⟨j,l,R,q,y,hc,M,hq⟩:=h;obtain⟨t,I,h⟩:=G o A outer s H E O;refine⟨_,I,Hq N j,l,_,_,_,_,Dv.begin y,hc,h j l R q M,⟨λV z U T B _ c n=>EB n λJ i r=>?_,λv z u T B c L m=>EB m λJ i r=>?_,λ_ _ _ _ _ _ _ h=>h.elim,λ_ _ _ _ _ _ _ h=>h.elim⟩⟩
  ·exact hq _ _ _ _ B (c.sub i) Nc r
  ·exact hq _ _ _ _ B (c.sub i) L r
def NN(t:AE):AI:=λi f R=>t i f λx d=>opt (items d x) λh=>R h (λf=>items f x=some h) d
def Bb(E:VE X a ta):VI X tg a (NN ta):=by
 intro F s O H R I r;refine B1 r λN y G M hc h hq=>?_;refine thn (E F s O H (λv i=>∃x d l,Kp H i/\Cn X.K d i/\RelA X.K i x v/\items d x=some l/\G l (λy=>items y x=some l) d) I ⟨N,y,_,M,hc,h,λx d v i z u m hx=>?_⟩) λv s1 J=>?_
 ·obtain⟨l,e,hx⟩:=A0 hx;exact⟨x,d,l,z,u,m,e,hx⟩
 obtain⟨V,i,f,Q,x,d,l,z,u,m,e,hx⟩:=J;obtain⟨p,U,rfl,hp,T⟩:=Ce u m e;cases Q;rcases hp with⟨k,hp⟩|⟨k,hp⟩
 ·obtain⟨D,L,A,hz⟩:=f.list hp;refine eE A.isList ?_;refine⟨s1.heap.objs.size,[s1.heap.objs.size],_,_,i,rfl,f.kept (t':=s1.toks) λb o e=>DD _ e,Vq p _,⟨_,H_ _ rfl,rfl,rfl⟩,λb hb=>?_,hq _ _ _ _ _ z u (Wg λH y S c C=>?_) hx⟩
  ·have e:b=s1.heap.objs.size:=by simpa using hb
   subst e;exact f.fpOk (G_ _)<|f.hok.fresh<|G_ _
  ·obtain⟨q,B,e,j,rw⟩:=Ce c (m.kp S) C;cases e;rcases j with⟨_,j⟩|⟨n,_⟩
   ·exact⟨B,j,rw⟩
   ·rw[k]at n;cases n
 ·obtain⟨D,L,A,hz⟩:=f.tuple hp;refine kH (show s1.heap.IsTuple p D.toArray from A) ?_;refine⟨s1.heap.objs.size,[s1.heap.objs.size],_,_,i,rfl,f.kept (t':=s1.toks) λb o e=>DD _ e,Qu p _,⟨_,H_ _ rfl,rfl,rfl⟩,λb hb=>?_,hq _ _ _ _ _ z u (Zf λH y S c C=>?_) hx⟩
  ·have e:b=s1.heap.objs.size:=by simpa using hb
   subst e;exact f.fpOk (G_ _)<|f.hok.fresh<|G_ _
  ·obtain⟨q,B,e,j,rw⟩:=Ce c (m.kp S) C;cases e;rcases j with⟨n,_⟩|⟨_,j⟩
   ·rw[k]at n;cases n
   ·exact⟨B,j,rw⟩
def Qal(t:AE):AE:=λf h R=>t f h λx d=>match x with
 |.D (.int i)=>R (.D<|.int<|-i) d
 |_=>False
def NO(h:VE X a ta):VE X (.UnaryOp .USub a pos) (Qal ta):=(RF LY h).imp λu H Q f=>B1 f λn r R m hc h hq=>⟨n,r,_,m,hc,h,λx o v s q l j hx=>by
 cases x with
 |D d=>
  cases d with
  |int i=>cases RelA.int j;exact⟨_,rfl,hq _ _ _ _ q l Ci hx⟩
  |_=>exact False.elim hx
 |_=>exact False.elim hx⟩
end
section
variable {c:AT}{g:AG}{tb:AS}{k:ASt->M->Prop}{r:AV->M->Prop}{bb cc:ASt->M->Prop}{tst:AT}{te:AE}{X:Cx}{K:lU}{H:Hp}{o i e value:lX}{pos bp:Pos}{td ty tv tx:AE}
def Ng{τ:ASt}{a:M}(I:Nat->ASt->M->Prop)(m:Nat)(h0:I m τ a)
  (step:∀m τ a (W:ASt->M->Prop),I m τ a->(∀j d b,j<m->I j d b->W d b)->c τ a λx f=>brP x (tb W r k W τ f)<|k τ f):∃n,wl c tb k r n τ a:=by
 have p:∀n m τ a,m<n->I m τ a->wl c tb k r n τ a:=by
  intro n
  induction n with
  |zero=>intro m τ a h _;omega
  |succ n s=>intro m τ a h q;exact step m τ a (wl c tb k r n) q λj d b t l=>s j d b (by omega) l
 exact⟨m+1,p (m+1) m τ a (dN _) h0⟩
def Ay{t u:AS}{τ:ASt}{d:M}(J:ASt->M->Prop)(h1:∀W:ASt->M->Prop,(∀ a b,J a b->W a b)->t W r bb cc τ d)(h2:∀ a b,J a b->u k r bb cc a b):We t u k r bb cc τ d:=h1 (u k r bb cc) h2
def Cr{t u:AS}{τ:ASt}{a:M}(h:t (u k r bb cc) r bb cc τ a):We t u k r bb cc τ a:=h
def C8{m:M->Prop}{xs:oA AV}{τ:ASt}{a:M}(I:Nat->ASt->M->Prop)(h0:I 0 τ a)(hk:∀i τ a,I i τ a->m a)
  (step:∀i x τ a (W:ASt->M->Prop),xs[i]?=some x->I i τ a->(∀ d b,I (i+1) d b->W d b)->g x τ a λj p=>tb W r k W j p)
  (done:∀ τ a,I xs.length τ a->k τ a):fl g tb k r m xs τ a:=by
 have l:∀n i τ a,n+i=xs.length->I i τ a->fl g tb k r m (xs.drop i) τ a:=by
  intro n
  induction n with
  |zero=>
   intro i τ a h f;have e:i=xs.length:=by omega
   subst e;rw[fK];exact⟨hk _ _ _ f,done τ a f⟩
  |succ n t=>
   intro i τ a h f;have s:i<xs.length:=by omega
   rw[bO s];exact⟨hk _ _ _ f,step i _ τ a _ (E_ s) f λd b q=>t (i+1) d b (by omega) q⟩
 exact l xs.length 0 τ a rfl h0
def D5{p:lT}{u:M->Prop}{R:M->Prop}{xs:oA AV}{τ:ASt}{b:M}(I:Nat->oA AV->ASt->M->Prop)(h0:I 0 [] τ b)(hk:∀i a τ b,I i a τ b->u b)
  (step:∀i x a τ b (W:oA AV->ASt->M->Prop),xs[i]?=some x->I i a τ b->(∀l f d,I (i+1) l f d->W l f d)->g x τ b λj y=>tst j y λk s=>
   brP k (te j s λv m=>m p=some (.lst a)/\a.length<sizeLine/\W (a++[v]) j (Al m p<|.lst<|a++[v])) (W a j s))
  (done:∀a τ b,I xs.length a τ b->R b):cl p g tst te u R xs [] τ b:=by
 have w:∀n i a τ b,n+i=xs.length->I i a τ b->cl p g tst te u R (xs.drop i) a τ b:=by
  intro n
  induction n with
  |zero=>
   intro i a τ b h t;have e:i=xs.length:=by omega
   subst e;rw[fK];exact⟨hk _ _ _ _ t,done a τ b t⟩
  |succ n A=>
   intro i a τ b h t;have z:i<xs.length:=by omega
   rw[bO z];exact⟨hk _ _ _ _ t,step i _ a τ b (λl f d=>cl p g tst te u R (xs.drop<|i+1) l f d) (E_ z) t λl f d q=>A (i+1) l f d (by omega) q⟩
 exact w xs.length 0 [] τ b rfl h0
def Zg{z:Str}(h:PyData.canLay0 (.str z)=true):B6 (.str z):=⟨h,by simp[PyData.depth]⟩
def Bn(i:Int):B6 (.int i):=⟨rfl,by simp[PyData.depth]⟩
def L9(i:Bool):B6 (.bool i):=⟨rfl,by simp[PyData.depth]⟩
def Nh(i j:Int):PyData.eqv (.int i) (.int j)=decide (i=j):=by rw[PyData.eqv];exact gV.mpr<|by simp
def Tt(i j:Str):PyData.eqv (.str i) (.str j)=decide (i=j):=by rw[PyData.eqv];exact gV.mpr<|by simp
def ieq{i j:Int}{T F:Prop}(h1:i=j->T)(h2:i≠j->F):B6 (.int i)/\B6 (.int j)/\brP (PyData.eqv (.int i)<|.int j) T F:=by refine⟨Bn _,Bn _,?_⟩;rw[Nh];exact dif h1 h2
def Ak{a:M}{p:lT}{xs:oA AV}(h:a p=some (.lst xs)):items a (.R p)=some xs:=by show(match a p with|some (.lst xs)=>some xs|_=>none)=_;rw[h]
def TB{d:lR}{ds:oA lR}:Na (d::ds) (some 1) none=ds:=by
 unfold Na;have a:HT.sIx (d::ds).length 0 (some 1)=1:=by show min (1:Int).toNat (d::ds).length=1;simp
 rw[a,HT.sIx_none,List.drop_succ_cons,kE,fJ<|by simp]
def Bu{a:Type} [DecidableEq a](kvs:oA<|a×AV)(k:a):oB AV:=(kvs.find? λb=>decide (b.1=k)).map (·.2)
def Dr{b:Type} [DecidableEq b](kvs:oA<|b×AV)(k:b)(v:AV):oA (b×AV) :=
 if(kvs.any λa=>decide (a.1=k))=true then kvs.map λa=>if a.1=k then(a.1,v) else a else kvs++[(k,v)]
def J3:oA lR->oB (oA Key)
 |[]=>some []
 |d::b=>match Op d,J3 b with
  |some k,some a=>some (k::a)
  |_,_=>none
def Ox(ds:oA lR):oB (oA Key):=match Lit ds with
 |true=>none
 |false=>J3 ds
def Ni{ds:oA lR}{ks:oA Key}(h:Ox ds=some ks):Lit ds=false/\J3 ds=some ks:=by
 unfold Ox at h;cases c:Lit ds with
 |true=>rw[c]at h;cases h
 |false=>rw[c]at h;exact⟨rfl,h⟩
def Wb.heap{K:lU}{H:Hp}{a:lT}{ds:oA lR}{xs:oA V}(h:Wb K H a ds xs)(b:Lit ds=false):H a=some (.tup xs):=by
 rcases h with h|h
 ·exact h
 ·rw[b]at h;cases h.1
def dget(m:MO)(d:lR):oB (oB AV):=match m with
 |.dk a=>(Op d).map (Bu a)
 |.dt a=>match d with
  |.tuple b=>(Ox b).map (Bu a)
  |_=>none
 |.lst _=>none
 |.dd _=>none
def dput(m:MO)(d:lR)(v:AV):oB MO:=match m with
 |.dk a=>(Op d).map λk=>.dk (Dr a k v)
 |.dt a=>match d with
  |.tuple b=>(Ox b).map λk=>.dt (Dr a k v)
  |_=>none
 |.lst _=>none
 |.dd _=>none
def dsize:MO->Nat
 |.dk a=>a.length
 |.dt a=>a.length
 |.lst b=>b.length
 |.dd a=>a.length
def Tu(K:lU)(H:Hp):oB AV->oB V->Prop
 |some x,some v=>RelA K H x v
 |none,none=>True
 |_,_=>False
def Er.val{a:Type} [DecidableEq a]{kvs:oA<|a×AV}{d:oA<|a×V}(h:Er K H kvs d)(k:a):Tu K H (Bu kvs k) (Ep d k):=by
 unfold Er at h
 induction h with
 |nil=>exact trivial
 |@cons p q f b r t j=>
  obtain⟨l,n⟩:=p;obtain⟨m,s⟩:=q;obtain⟨e,r⟩:=r;dsimp only at e;subst e;unfold Bu Ep at j ⊢;by_cases hk:l=k
  ·simp only[List.find?_cons,decide_eq_true hk];exact r
  ·simp only[List.find?_cons,decide_eq_false hk];exact j
def Er.put{l:Type} [DecidableEq l]{kvs:oA<|l×AV}{d:oA<|l×V}(h:Er K H kvs d)(k:l){x:AV}{v:V}(r:RelA K H x v):Er K H (Dr kvs k x) (putK d k v):=by
 have m:(kvs.any λa=>decide (a.1=k))=(d.any λa=>decide (a.1=k)):=by
  unfold Er at h
  induction h with
  |nil=>rfl
  |@cons p q f j b t n=>rw[dX,dX,n,b.1]
 have s:Er K H (kvs.map λa=>if a.1=k then(a.1,x) else a) (d.map λa=>if a.1=k then(a.1,v) else a):=by
  clear m;unfold Er at h ⊢
  induction h with
  |nil=>exact .nil
  |@cons p q f j b t n=>
   refine .cons ?_ n;obtain⟨e,b⟩:=b;dsimp only;by_cases hk:p.1=k
   ·rw[N_ hk,N_<|e ▸ hk];exact⟨e,r⟩
   ·rw[I_ hk,I_<|e ▸ hk];exact⟨e,b⟩
 have ha:Er K H (kvs++[(k,x)]) (d++[(k,v)]):=by clear m s;unfold Er at h ⊢;exact kQ h ⟨rfl,r⟩
 unfold Dr putK;rw[m];split
 ·exact s
 ·exact ha
def Nj{d:lR}{k:Key}{v:V}(h:Dk K H d v)(e:Op d=some k):v=kV k:=by
 unfold Op at e;split at e
 ·cases e;exact h.int
 ·cases e;exact h.str
 ·cases e
theorem G9:∀{ds:oA lR} {ks:oA Key} {a:oA V},An K H ds a->J3 ds=some ks->a=ks.map kV
 |[],ks,a,h,e=>by cases e;exact h.nil
 |d::ds,ks,a,h,e=>by
  obtain⟨x,r,rfl,h1,h2⟩:=h.cons;simp only[J3]at e;split at e
  ·rename_i k j f b;cases e;rw[Nj h1 f,G9 h2 b];rfl
  ·cases e
def Jh{p:M}{a:lT}{m:MO}{d:lR}{v:V}{o:oB AV}(hc:Cn K p H)(q:p a=some m)(j:Dk K H d v)(e:dget m d=some o):∃r,DGet H a v r/\Tu K H o r:=by
 obtain⟨x,l,n⟩:=hc a m q;unfold dget at e;split at e
 ·obtain⟨k,f,rfl⟩:=L_.mp e;obtain⟨u,rfl,h⟩:=n;rw[Nj j f];exact⟨_,DGet.k l,h.val k⟩
 ·split at e
  ·obtain⟨w,f,rfl⟩:=L_.mp e;obtain⟨u,rfl,h⟩:=n;obtain⟨b,y,rfl,hb,hx⟩:=j.tup;obtain⟨s,f⟩:=Ni f;have hb:=hb.heap s;rw[G9 hx f]at hb;exact⟨_,DGet.t l hb,h.val w⟩
  ·cases e
 ·cases e
 ·cases e
def FY{n:M}{a:lT}{m p:MO}{d:lR}{v w:V}{x:AV}(hc:Cn K n H)(u:n a=some m)(q:Dk K H d v)(hx:RelA K H x w)(e:dput m d x=some p)(hs:dsize m<sizeLine):∃l,DPut H a v w l/\Kp H l/\Cn K (Al n a p) l:=by
 obtain⟨C,f,s⟩:=hc a m u;unfold dput at e;split at e
 ·obtain⟨k,j,rfl⟩:=L_.mp e;obtain⟨z,rfl,h⟩:=s;rw[Nj q j];exact⟨_,DPut.k f<|by rw[<- bM h];exact hs,Kp.put f trivial _,hc.put f trivial ⟨_,rfl,h.put k hx⟩⟩
 ·split at e
  ·obtain⟨B,j,rfl⟩:=L_.mp e;obtain⟨z,rfl,h⟩:=s;obtain⟨b,D,rfl,hb,A⟩:=q.tup;obtain⟨y,j⟩:=Ni j;have hb:=hb.heap y;rw[G9 A j]at hb;exact⟨_,DPut.t f hb<|by rw[<- bM h];exact hs,Kp.put f trivial _,hc.put f trivial ⟨_,rfl,h.put B hx⟩⟩
  ·cases e
 ·cases e
 ·cases e
def TC(td ty:AE):AE:=λh j R=>td h j λx f=>ty h f λy b=>match x,y with
 |.R a,.D d=>opt (b a) λm=>opt (dget m d) λr=>opt r λv=>R v b
 |_,_=>False
def C9(hu:X.A.units+1<cLine)(q:VE X o td)(D:VE X i ty)(hs:FE i:=by intro _ _;rfl):VE X (.Subscript o i pos) (TC td ty):=(FF hu q D hs).imp λL H Q a=>B1 a λn s R hs hc h hq=>
 ⟨n,s,_,hs,hc,h,λx d v J l B p hx=>⟨n,d,_,hs.kp l,B,hx,λy C u I f c2 F hy=>by
  split at hy
  ·obtain⟨m,t,hy⟩:=A0 hy;obtain⟨r,E,hy⟩:=A0 hy;obtain⟨w,rfl,b⟩:=A0 hy;obtain⟨G,g,j⟩:=Jh c2 t F E;cases G with
   |none=>exact j.elim
   |some z=>exact⟨_,z,(p.kp f).ref,g,hq _ _ _ _ (l.trans f) c2 j b⟩
  ·exact hy.elim⟩⟩
def FZ(j:Bool->Bool)(ty td:AE):AE:=λh l R=>ty h l λy f=>td h f λx b=>match x,y with
 |.R a,.D d=>opt (b a) λm=>opt (dget m d) λr=>R (.D<|.bool<|j r.isSome) b
 |_,_=>False
def Tu.some{o:oB AV}{r:oB V}(h:Tu K H o r):o.isSome=r.isSome:=by cases o<;>cases r<;>first|rfl|exact h.elim
def Zh{K:lU}{j:St}{H:Hp}{Q:VK}(h:cE K (FZ (λb=>b) ty td) j H Q):RU (cE K ty) (cE K td) j H Q:=by
 obtain⟨n,s,R,f,hc,h,hq⟩:=h;refine⟨n,s,_,f,hc,h,λy a v E l t B hx=>⟨n,a,_,f.kp l,t,hx,λx w u D d c2 p hy=>?_⟩⟩;split at hy
 ·obtain⟨m,z,hy⟩:=A0 hy;obtain⟨r,A,hy⟩:=A0 hy;obtain⟨C,g,q⟩:=Jh c2 z (B.kp d) A;refine⟨_,C,p.ref,g,hq _ _ _ _ (l.trans d) c2 ?_ hy⟩;rw[q.some];exact D4
 ·exact hy.elim
def Oy{K:lU}{j:St}{H:Hp}{Q:VK}(h:cE K (FZ (λb=>!b) ty td) j H Q):Ti (cE K ty) (cE K td) j H Q:=by
 obtain⟨n,s,R,f,hc,h,hq⟩:=h;refine⟨n,s,_,f,hc,h,λy a v E l t B hx=>⟨n,a,_,f.kp l,t,hx,λx w u D d c2 p hy=>?_⟩⟩;split at hy
 ·obtain⟨m,z,hy⟩:=A0 hy;obtain⟨r,A,hy⟩:=A0 hy;obtain⟨C,g,q⟩:=Jh c2 z (B.kp d) A;refine⟨_,C,p.ref,g,hq _ _ _ _ (l.trans d) c2 ?_ hy⟩;rw[q.some];exact D4
 ·exact hy.elim
def Zi(hu:X.A.units+1<cLine)(a:VE X i ty)(d:VE X o td)(h1:behindInMarks .In o=false:=by rfl):VE X (.Compare i [.In] [o] pos) (FZ (λb=>b) ty td):=(KU (MK hu a d) h1).imp λ_ _ _ h=>Zh h
def Wi(hu:X.A.units+1<cLine)(a:VE X i ty)(d:VE X o td)(h1:behindInMarks .NotIn o=false:=by rfl):VT X (.Compare i [.NotIn] [o] pos) (L4<|FZ (λb=>!b) ty td):=(X0 (V2 hu a d) h1).imp λ_ _ _ h=>E5 (λ_ _ _ q=>Oy q) h
def Zj(td ty tv:AE):AS:=λk _ _ _ f n=>tv f n λv j=>td f j λx h=>ty f h λy b=>match x,y with
 |.R a,.D d=>opt (b a) λm=>opt (dput m d v) λl=>dsize m<sizeLine/\k f (Al b a l)
 |_,_=>False
def Dl(hu:X.A.units+1<cLine)(t:VE X o td)(I:VE X i ty)(hv:VE X value tv)(hs:swapsWith value (some<|.Subscript o i bp) pos.line X.env=pure false:=by rfl):VS X (.Assign [.Subscript o i bp] value pos) (Zj td ty tv):=(FG hu t I hv hs).imp λD V H b=>Gi b λq J W nr Y R hs hc h hq=>
 ⟨q,J,_,hs,hc,h,λv n vv T j F B h1=>⟨q,n,_,hs.kp j,F,h1,λx l Q N d c2 s h2=>⟨q,l,_,hs.kp<|j.trans d,c2,h2,λy z U O p G L a=>by
  split at a
  ·obtain⟨m,u,a⟩:=A0 a;obtain⟨P,f,a⟩:=A0 a;obtain⟨C,g,w,E⟩:=FY G u L (B.kp<|d.trans p) f a.1;have S:=j.trans<|d.trans<|p.trans w;exact⟨_,C,(s.kp p).ref,g,hq.nx _ _ _ _ S (hs.kp S) E a.2⟩
  ·exact a.elim⟩⟩⟩
def NP:AE:=λ_ a R=>∀p,a p=none->R (.R p) (Al a p<|.dk [])
def NQ:AE:=λ_ a R=>∀p,a p=none->R (.R p) (Al a p<|.dt [])
def Tv{kvs:oA<|Key×AV}{a:oA<|Key×V}(h:Er K H kvs a):Ho K H (.dk kvs) (.dK a):=⟨a,rfl,h⟩
def JL{kvs:oA<|oA Key×AV}{a:oA<|oA Key×V}(h:Er K H kvs a):Ho K H (.dt kvs) (.dT a):=⟨a,rfl,h⟩
def Oz:VE X (.Dict [] [] pos) NP:=Yk.imp λb H Q a=>B1 a λj d R f hc h hq=>λp hp=>hq _ _ _ _ (Kp.new hp _) (hc.new hp<|Tv .nil) C7<|h p<|hc.none hp
def E7:VE X (.Dict [] [] pos) NQ:=Yl.imp λb H Q a=>B1 a λj d R f hc h hq=>λp hp=>hq _ _ _ _ (Kp.new hp _) (hc.new hp<|JL .nil) C7<|h p<|hc.none hp
end
end L2
namespace L2
def Dp{c:Type}{b:oA c}{n:Nat}(h:b.length=n+1):∃a t,b=a::t/\t.length=n:=match b,h with|a::t,h=>⟨a,t,rfl,h_ h⟩
def Tw{c:Type}{b:oA c}(h:b.length=1):∃a,b=[a]:=by obtain⟨a,t,rfl,h2⟩:=Dp h;rw[dQ h2];exact⟨a,rfl⟩
def YF{d:Type}{c:oA d}(h:c.length=2):∃a b,c=[a,b]:=by obtain⟨a,t,rfl,h2⟩:=Dp h;obtain⟨b,rfl⟩:=Tw h2;exact⟨a,b,rfl⟩
open PySem PySem.Spec PySem.Calls PyProof.Rows
abbrev AX:=lT->oA (Str×lR)->M->Prop
def spI(C:lT)(d:oA Str):Sp:=λg H Q _=>∃(e t:lT) (ys:oA V),g=.ref e::ys/\ys.length=d.length/\H e=some (XO e C t none) /\
 ∀a f c,(∀b o,b≠e->H b=some o->a b=some o)->a e=some (XO e C f<|some c)->a c=some (XD c<|d.zip ys)->c≠e->Q .non a
def XCal(P:lV)(w:lW)(K:lU)(c:Str->oB lP)(base:lZ)(k:Nat)(x:Str)(C:lT)(d:oA Str):Prop :=
 ∃f b a,FnOk P w K c base Eh k f b a (spI C d)/\Binds K b a []/\XMk K C f/\c x=some (.ref C)/\PySem.W.mroIn K C (.type "BaseException")=some true
abbrev Qct:=oA AV->M->(AV->M->Prop)->AX->Prop
end L2
namespace L2
open PySem PySem.Spec PyProof.Rows
def J4{kvs:oA<|Key×V}{k:Key}{v:V}(h:k∉kvs.map (·.1)):putK kvs k v=kvs++[(k,v)]:=by unfold putK;rw[I_];intro q;rw[dO]at q;obtain⟨x,hx,e⟩:=q;exact h<|D_.mpr ⟨x,hx,aQ e⟩
theorem Ha:∀(more kvs:oA<|Key×V),((kvs++more).map (·.1)).Nodup->Gx kvs more=kvs++more
 |[],kvs,_=>by rw[cB];rfl
 | (k,v)::more,kvs,h=>by
  show Gx (putK kvs k v) more=_;have hk:k∉kvs.map (·.1):=λz=>by rw[P_,bE]at h;exact h.2.2 k z k (by simp) rfl
  rw[J4 hk,Ha more,fW]
  ·rfl
  ·rw[fW];exact h
def vPs:oA AE->ASt->M->(oA AV->M->Prop)->Prop
 |[],_,c,R=>R [] c
 |t::ts,d,c,R=>t d c λx b=>vPs ts d b λe a=>R (x::e) a
def JM(K:lU)(ks:oA Key)(ts:oA AE):oA (TE×TE):=(ks.zip ts).map λp=>(tC<|kV p.1,cE K p.2)
theorem O0{K:lU}:∀{ks:oA Key} {ts:oA AE} {τ:ASt} {a:M} {R:oA AV->M->Prop} {f:St} {H:Hp} {Q:oA (V×V)->Hp->Prop},ks.length=ts.length->Dv K H τ f->Cn K a H->vPs ts τ a R ->
  (∀c b d e,Kp H e->Cn K b e->Ax K e c d->c.length=ts.length->R c b->Q ((ks.zip d).map λl=>(kV l.1,l.2)) e)->M7 (JM K ks ts) f H Q
 |[],[],τ,a,R,f,H,Q,_,g,hc,h,q=>q [] a [] H Kp.refl hc .nil rfl h
 |k::ks,t::ts,τ,a,R,f,H,Q,n,g,hc,h,q=>
  ⟨τ,a,_,g,hc,h,λx y v z m w o hx=>O0 (ks:=ks) (ts:=ts) (by simpa using n) (g.kp m) w hx λc i d p j c2 r s u=>q (x::c) i (v::d) p (m.trans j) c2 (.cons (o.kp j) r) (by simp[s]) u⟩
def VPs(X:Cx)(b:Pos)(c:oA<|oB lX)(a:oA lX)(ks:oA Key)(ts:oA AE):Prop:=PPs X b c a<|JM X.K ks ts
def TD(ks:oA Key)(ts:oA AE):AE:=λd b R=>∀p,b p=none->vPs ts d (Al b p<|.dk []) λc a=>a p=some (.dk [])/\R (.R p) (Al a p<|.dk<|ks.zip c)
section
variable {X:Cx}{pos:Pos}{bo:oA<|oB lX}{values:oA lX}{ks:oA Key}{ts:oA AE}
def GA:VPs X pos [] [] [] []:=FH
def Nk{z:Str}{j}{p:Pos}{v:lX}{t:AE}(hv:VE X v t)(a:VPs X pos bo values ks ts):VPs X pos (some (.Constant (.str z) j p)::bo) (v::values) (.inr z::ks) (t::ts):=Ym (tk:=tC<|kV<|.inr z) Xz hv a
theorem Ax.zipK{K:lU}{H:Hp}:∀(ks:oA Key) {xs:oA AV} {a:oA V},Ax K H xs a->Er K H (ks.zip xs) (ks.zip a)
 |[],_,_,_=>.nil
 |_::_,_,_,.nil=>.nil
 |_::ks,_,_,.cons r t=>.cons ⟨rfl,r⟩<|Ax.zipK ks t
def GB(h:VPs X pos bo values ks ts)(hk:ks.Nodup)(c:ks.length=ts.length:=by rfl)(k:ks.length<=15:=by decide)(l:bo.all (·.isSome)=true:=by rfl)(g:bo.length=values.length:=by rfl)(h0:bo≠[]:=by intro z;cases z)(i:bo.length<=15:=by decide):VE X (.Dict bo values pos) (TD ks ts) :=
 (FI h l g h0 i).imp λu H Q a=>B1 a λx v R j hc h hq=>by
  intro p hp;refine O0 c (j.kp<|Kp.new hp _) (hc.new hp<|Tv .nil) (h p<|hc.none hp) λt n f s q d e m hx=>?_;obtain⟨o,b,w,rfl,rk⟩:=d _ _ hx.1;cases rk;have r:ks.length=f.length:=by rw[<- e.length,m];exact c
  refine⟨b,ks.zip f,rfl,by rw[List.length_zip];omega,?_⟩;rw[Ha _ _<|by rw[List.nil_append,List.map_fst_zip<|by omega];exact hk,List.nil_append];exact hq _ _ _ _ ((Kp.new hp _).trans<|q.trans<|Kp.put b trivial _) (d.put b trivial (Tv<|e.zipK ks)) C7 hx.2
end
def Da{a:Type} [DecidableEq a]{k:a}{v:AV}{r:oA<|a×AV}:Bu ((k,v)::r) k=some v:=by unfold Bu;simp only[List.find?_cons,decide_eq_true (rfl:k=k)];rfl
def Cp{a:Type} [DecidableEq a]{k b:a}{v:AV}{r:oA<|a×AV}(h:b≠k):Bu ((b,v)::r) k=Bu r k:=by unfold Bu;simp only[List.find?_cons,decide_eq_false h]
def Zk{a:Type}(g:a->Bool)(xs:oA a):bools (xs.map λx=>.D<|.bool<|g x)=some (xs.map g):=by rw[show(xs.map λx=>AV.D<|.bool<|g x)=(xs.map g).map λb=>.D (.bool b) by rw[X_];rfl];exact L7 _
def Wj{a:M}{p:lT}{m:MO}(h:a p=some m):Al a p m=a:=by
 funext b
 unfold Al;split
 ·rename_i e;rw[e,h]
 ·rfl
def cmapf{l:Type}{p:lT}{g:AG}{tst:AT}{te:AE}{u:M->Prop}{R:M->Prop}{τ:ASt}{j:M}(as:oA l)(s:l->AV)(b:l->Bool)(f:l->AV)(m:ASt->Prop)(h0:m τ)(hp:j p=some (.lst []))(hn:as.length<=sizeLine)(hk:∀acc,u<|Al j p<|.lst acc)
  (step:∀(i:Nat) (x:l) (c:ASt) (acc:oA AV) (W:ASt->AV->M->Prop) (t:ASt->M->Prop),as[i]?=some x->m c->(b x=true->∀ a,m a->W a (f x) (Al j p<|.lst acc))->(b x=false->∀ a,m a->t a (Al j p<|.lst acc)) ->
   g (s x) c (Al j p<|.lst acc) λa q=>tst a q λk h=>brP k (te a h<|W a)<|t a h)
  (done:R<|Al j p<|.lst<|(as.filter b).map f):cl p g tst te u R (as.map s) [] τ j:=by
 refine D5 (λi acc c d=>m c/\acc=((as.take i).filter b).map f/\d=Al j p (.lst acc)) ⟨h0,by simp,(Wj hp).symm⟩ (by rintro i acc τ d ⟨_,_,e⟩;rw[e];exact hk _) ?_ ?_
 ·rintro i y acc c d W hy ⟨w,rfl,rfl⟩ hW;rw[M_]at hy;obtain⟨x,hx,rfl⟩:=L_.mp hy;have z:i<as.length:=(F_.mp hx).1;have r:as.take (i+1)=as.take i++[x]:=by rw[aJ,hx];rfl
  refine step i x c _ (λa v n=>n p=some (.lst<|((as.take i).filter b).map f)/\(((as.take i).filter b).map f).length<sizeLine/\W ((((as.take i).filter b).map f)++[v]) a (Al n p<|.lst<|(((as.take i).filter b).map f)++[v])) (λa h=>W (((as.take i).filter b).map f) a h) hx w (λhb a o=>⟨Ab,?_,hW _ _ _ ⟨o,?_,Au⟩⟩) λhb a o=>hW _ _ _ ⟨o,?_,rfl⟩
  ·rw[C_];have h1:=bI b<|as.take i;rw[aY]at h1;omega
  ·rw[r,fN,P_,gI,N_ hb];rfl
  ·rw[r,fN,P_,gI,I_<|by rw[hb];exact Q_];simp
 ·rintro acc c d ⟨_,rfl,rfl⟩;rw[C_,aK];exact done
def cmap{h:Type}{p:lT}{g:AG}{te:AE}{k:M->Prop}{R:M->Prop}{τ:ASt}{c:M}(as:oA h)(e f:h->AV)(d:ASt->Prop)(h0:d τ)(hp:c p=some (.lst []))(hn:as.length<=sizeLine)(hk:∀acc,k<|Al c p<|.lst acc)
  (step:∀(i:Nat) (x:h) (b:ASt) (acc:oA AV) (W:ASt->AV->M->Prop),as[i]?=some x->d b->(∀ a,d a->W a (f x) (Al c p<|.lst acc))->g (e x) b (Al c p<|.lst acc) λa j=>te a j<|W a)
  (done:R<|Al c p<|.lst<|as.map f):cl p g NM te k R (as.map e) [] τ c:=by
 refine cmapf as e (λ_=>true) f d h0 hp hn hk (λi x b acc W m hx l h1 _=>?_) (by rw[List.filter_eq_self.mpr λ_ _=>rfl];exact done);have:=step i x b acc W hx l<|h1 rfl;simp only[NM,Y5];exact this
def Zl{k:ASt->M->Prop}{r:AV->M->Prop}{e d:ASt->M->Prop}{τ:ASt}{c:M}{m i j:Nat}{a b:lR}(h:τ[m]?=some (some<|.D<|.tuple [a,b]))(q:k ((τ.set i<|some<|.D a).set j<|some<|.D b) c):Lh (Ft m) (NI 2<|E6 (Dd i)<|E6 (Dd j) Ou) k r e d τ c:=by unfold Lh Ft;rw[h];exact⟨rfl,q⟩
def cdef:mC->mC
 |.ClassDef _ _ _ (b::_) _ _ _ _ _ _ _=>b
 |s=>s
def rk:lR->Nat
 |.none=>0|.bool _=>1|.int _=>2|.str _=>3|.list _=>4|.tuple _=>5|.dict _=>6
def TF(a b:Str):Bool:=decide (a.cps.toList<b.cps.toList)
mutual
def EA:lR->lR->Bool
 |.int a,.int b=>decide (a<b)
 |.str a,.str b=>TF a b
 |.tuple c,.tuple d=>Lj c d
 |x,y=>decide (rk x<rk y)
def Lj:oA lR->oA lR->Bool
 |[],[]=>false
 |[],_::_=>true
 |_::_,[]=>false
 |x::a,y::b=>if PyData.eqv x y then Lj a b else EA x y
end
mutual
theorem Zm:∀(x y:lR),Cano x=true->Cano y=true->PyData.eqv x y=true->x=y
 |.int a,.int b,_,_,h=>by simp[PyData.eqv]at h;rw[h]
 |.str a,.str b,_,_,h=>by simp[PyData.eqv]at h;rw[h]
 |.tuple d,.tuple c,h1,h2,h=>by simp only[Cano]at h1 h2;rw[PyData.eqv]at h;rw[Tx d c h1 h2 h]
 |.int _,.str _,_,_,h=>by simp[PyData.eqv]at h
 |.int _,.tuple _,_,_,h=>by simp[PyData.eqv]at h
 |.str _,.int _,_,_,h=>by simp[PyData.eqv]at h
 |.str _,.tuple _,_,_,h=>by simp[PyData.eqv]at h
 |.tuple _,.int _,_,_,h=>by simp[PyData.eqv]at h
 |.tuple _,.str _,_,_,h=>by simp[PyData.eqv]at h
 |.none,_,h,_,_=>by simp[Cano]at h
 |.bool _,_,h,_,_=>by simp[Cano]at h
 |.list _,_,h,_,_=>by simp[Cano]at h
 |.dict _,_,h,_,_=>by simp[Cano]at h
 |.int _,.none,_,h,_=>by simp[Cano]at h
 |.int _,.bool _,_,h,_=>by simp[Cano]at h
 |.int _,.list _,_,h,_=>by simp[Cano]at h
 |.int _,.dict _,_,h,_=>by simp[Cano]at h
 |.str _,.none,_,h,_=>by simp[Cano]at h
 |.str _,.bool _,_,h,_=>by simp[Cano]at h
 |.str _,.list _,_,h,_=>by simp[Cano]at h
 |.str _,.dict _,_,h,_=>by simp[Cano]at h
 |.tuple _,.none,_,h,_=>by simp[Cano]at h
 |.tuple _,.bool _,_,h,_=>by simp[Cano]at h
 |.tuple _,.list _,_,h,_=>by simp[Cano]at h
 |.tuple _,.dict _,_,h,_=>by simp[Cano]at h
theorem Tx:∀(xs ys:oA lR),A6 xs=true->A6 ys=true->PyData.eqvAll xs ys=true->xs=ys
 |[],[],_,_,_=>rfl
 |[],_::_,_,_,h=>by simp[PyData.eqvAll]at h
 |_::_,[],_,_,h=>by simp[PyData.eqvAll]at h
 |x::xs,y::ys,h1,h2,h=>by simp only[A6,Bool.and_eq_true]at h1 h2;rw[PyData.eqvAll,bH]at h;rw[Zm x y h1.1 h2.1 h.1,Tx xs ys h1.2 h2.2 h.2]
end
mutual
theorem J5:∀(x:lR),Cano x=true->PyData.eqv x x=true
 |.int a,_=>by simp[PyData.eqv]
 |.str a,_=>by simp[PyData.eqv]
 |.tuple b,h=>by rw[PyData.eqv];exact Ma b (by simpa only[Cano] using h)
 |.none,h=>by simp[Cano]at h
 |.bool _,h=>by simp[Cano]at h
 |.list _,h=>by simp[Cano]at h
 |.dict _,h=>by simp[Cano]at h
theorem Ma:∀(xs:oA lR),A6 xs=true->PyData.eqvAll xs xs=true
 |[],_=>rfl
 |x::xs,h=>by simp only[A6,Bool.and_eq_true]at h;rw[PyData.eqvAll,J5 x h.1,Ma xs h.2];rfl
end
def NR{x y:lR}(hx:Cano x=true)(hy:Cano y=true):PyData.eqv x y=false↔x≠y:=by
 constructor
 ·rintro h rfl;rw[J5 x hx]at h;cases h
 ·intro h;cases e:PyData.eqv x y with
  |false=>rfl
  |true=>exact absurd (Zm x y hx hy e) h
end L2
namespace L2
open PySem PySem.W PyProof.Rows
def gallop':Bool->mE->oC mE->Nat->Nat->Nat->StateT mI Sem (oB Nat):=sortPriv% PySem.Builtin.gallop
def setMinGallop':Nat->StateT mI Sem Unit:=sortPriv% PySem.Builtin.setMinGallop
def Rk(left:Bool)(b:mE)(e:oC mE)(base n a:Nat):gallop' left b e base n a=(do
 let d (i:Nat):StateT mI Sem (oB Bool):=do
  let x <- elem' e (base+i)
  if left then lt' x b else return (<- lt' b x).map (!·)
 let mut lastofs:=0
 let mut ofs:=1
 let mut lo:=0
 let mut hi:=0
 let some right <- d a|return none
 if right then
  let c:=n-a
  for _ in [0:n] do
   if ofs>=c then break
   let some more <- d (a+ofs)|return none
   if !more then break
   lastofs:=ofs
   ofs:=2*ofs+1
  lo:=a+lastofs+1
  hi:=a+min ofs c
 else
  let c:=a+1
  for _ in [0:n] do
   if ofs>=c then break
   let some found <- d (a-ofs)|return none
   if found then break
   lastofs:=ofs
   ofs:=2*ofs+1
  lo:=a+1-min ofs c
  hi:=a-lastofs
 for _ in [0:n] do
  if lo>=hi then break
  let m:=lo+(hi-lo) / 2
  let some more <- d m|return none
  if more then lo:=m+1 else hi:=m
 return some hi):=rfl
section
variable {prog:lV}{w:lW}{A:lY}{E:lP->lQ->Prop}{s:lQ}{κ:mJ}{it:oC mE}{n:Nat}{lt:Nat->Nat->Bool}
def byd(left:Bool)(a:mE)(b:oC mE)(base i:Nat):StateT mI Sem (oB Bool):=do
 let x <- elem' b (base+i)
 if left then lt' x a else return (<- lt' a x).map (!·)
end
def mergeLo':oC mE->oC mE->StateT mI Sem (oC mE):=sortPriv% PySem.Builtin.mergeLo
def mergeHi':oC mE->oC mE->StateT mI Sem (oC mE):=sortPriv% PySem.Builtin.mergeHi
def Cq(g:Nat):setMinGallop' g=modify λst=>SortSt.mk' (kindOf st) (arrOf st) (pendingOf st) g (failedOf st):=rfl
def O1(a b:oC mE):mergeLo' a b=(do
 rule "list.sort.merge-lo"
 let f:=a.size+b.size
 let done (out:oC mE) (c d:Nat):=out++a.extract c a.size++b.extract d b.size
 let e (out:oC mE) (c d:Nat):=out++b.extract d b.size++a.extract c a.size
 let mut out:oC mE:=#[<- elem' b 0]
 let mut c:=0
 let mut d:=1
 if d==b.size then return done out c d
 if c+1==a.size then return e out c d
 let mut minGallop:=gallopOf (<- get)
 for _ in [0:f] do
  let mut acount:=0
  let mut bcount:=0
  for _ in [0:f] do
   let some bWins <- lt' (<- elem' b d) (<- elem' a c)|return done out c d
   if bWins then
    out:=out.push<|<- elem' b d;d:=d+1;bcount:=bcount+1;acount:=0
    if d==b.size then return done out c d
    if bcount>=minGallop then break
   else
    out:=out.push<|<- elem' a c;c:=c+1;acount:=acount+1;bcount:=0
    if c+1==a.size then return e out c d
    if acount>=minGallop then break
  rule "list.sort.gallop"
  minGallop:=minGallop+1
  for _ in [0:f] do
   if minGallop>1 then minGallop:=minGallop-1
   setMinGallop' minGallop
   let some k <- gallop' false (<- elem' b d) a c (a.size-c) 0|return done out c d
   acount:=k
   if k>0 then
    out:=out++a.extract c (c+k);c:=c+k
    if c+1==a.size then return e out c d
    if c==a.size then return done out c d
   out:=out.push<|<- elem' b d;d:=d+1
   if d==b.size then return done out c d
   let some k <- gallop' true (<- elem' a c) b d (b.size-d) 0|return done out c d
   bcount:=k
   if k>0 then
    out:=out++b.extract d (d+k);d:=d+k
    if d==b.size then return done out c d
   out:=out.push<|<- elem' a c;c:=c+1
   if c+1==a.size then return e out c d
   if acount<7&&bcount<7 then break
  minGallop:=minGallop+1
  setMinGallop' minGallop
 unsupported "internal:list.sort.merge-bound"):=rfl
section
variable {prog:lV}{w:lW}{A:lY}{E:lP->lQ->Prop}{s:lQ}{κ:mJ}{it:oC mE}{n:Nat}{lt:Nat->Nat->Bool}
abbrev at0(p:oC Nat)(i:Nat):Nat:=p.getD i 0
def In(n:Nat)(p:oC Nat):Prop:=∀i,i<p.size->at0 p i<n
structure MI(lt:Nat->Nat->Bool)(a b out:oC Nat)(ia ib:Nat):Prop where
 ha:ia<=a.size
 hb:ib<=b.size
 sz:out.size=ia+ib
 perm:out.toList.Perm (a.toList.take ia++b.toList.take ib)
 srt:out.toList.Pairwise λx y=>lt y x=false
 lea:∀x∈out.toList,∀j,ia<=j->j<a.size->lt (at0 a j) x=false
 leb:∀x∈out.toList,∀j,ib<=j->j<b.size->lt (at0 b j) x=false
abbrev TH:=oB (oC mE)×oC mE×Nat×Nat×Nat×Nat×Nat
abbrev Cu(st:mI)(g:Nat):mI:=SortSt.mk' (kindOf st) (arrOf st) (pendingOf st) g<|failedOf st
def GC(a b c:oC mE)(d g h f e:Nat):StateT mI Sem (ForInStep TH) :=
 elem' a d>>=λy=>
  if(d+1+1==a.size)=true then pure (ForInStep.done (some<|c.push y++b.extract g b.size++a.extract (d+1) a.size,c.push y,d+1,g,h,f,e))
  else if(decide (f<7)&&decide (e<7))=true then pure (ForInStep.done (none,c.push y,d+1,g,h,f,e))
  else pure<|ForInStep.yield (none,c.push y,d+1,g,h,f,e)
def GD(a b d:oC mE)(e c g f h:Nat):StateT mI Sem (ForInStep TH) :=
 elem' b c>>=λy=>
  if(c+1==b.size)=true then pure (ForInStep.done (some<|d.push y++a.extract e a.size++b.extract (c+1) b.size,d.push y,e,c+1,g,f,h))
  else elem' a e>>=λz=>gallop' true z b (c+1) (b.size-(c+1)) 0>>=λx=>
   match x with
   |some k=>if k>0 then
     (if(c+1+k==b.size)=true then pure (ForInStep.done (some<|d.push y++b.extract (c+1) (c+1+k)++a.extract e a.size++b.extract (c+1+k) b.size,d.push y++b.extract (c+1) (c+1+k),e,c+1+k,g,f,k))
     else GC a b (d.push y++b.extract (c+1) (c+1+k)) e (c+1+k) g f k)
    else GC a b (d.push y) e (c+1) g f k
   |_=>pure<|ForInStep.done (some<|d.push y++a.extract e a.size++b.extract (c+1) b.size,d.push y,e,c+1,g,f,h)
def NS(a b d:oC mE)(c e f h g:Nat):StateT mI Sem (ForInStep TH) :=
 setMinGallop' f>>=λ_=>elem' b e>>=λy=>gallop' false y a c (a.size-c) 0>>=λx=>
  match x with
  |some k=>if k>0 then
    (if(c+k+1==a.size)=true then pure (ForInStep.done (some<|d++a.extract c (c+k)++b.extract e b.size++a.extract (c+k) a.size,d++a.extract c (c+k),c+k,e,f,k,g))
    else if(c+k==a.size)=true then pure (ForInStep.done (some<|d++a.extract c (c+k)++a.extract (c+k) a.size++b.extract e b.size,d++a.extract c (c+k),c+k,e,f,k,g))
    else GD a b (d++a.extract c (c+k)) (c+k) e f k g)
   else GD a b d c e f k g
  |_=>pure<|ForInStep.done (some<|d++a.extract c a.size++b.extract e b.size,d,c,e,f,h,g)
section
variable {a b:oC Nat}{st:mI}{Qd Qy:TH->mI->Prop}{out:oC Nat}{ia ib mg ac bc:Nat}
end
end
def O2(a b:oC mE):mergeHi' a b=(do
 rule "list.sort.merge-hi"
 let d:=a.size+b.size
 let done (out:oC mE) (na nb:Nat):=a.extract 0 na++b.extract 0 nb++out.reverse
 let c (out:oC mE) (na nb:Nat):=b.extract 0 nb++a.extract 0 na++out.reverse
 let mut na:=a.size-1
 let mut nb:=b.size
 let mut out:oC mE:=#[<- elem' a na]
 if na==0 then return done out na nb
 if nb==1 then return c out na nb
 let mut minGallop:=gallopOf (<- get)
 for _ in [0:d] do
  let mut acount:=0
  let mut bcount:=0
  for _ in [0:d] do
   let some aWins <- lt' (<- elem' b (nb-1)) (<- elem' a (na-1))|return done out na nb
   if aWins then
    na:=na-1;out:=out.push<|<- elem' a na;acount:=acount+1;bcount:=0
    if na==0 then return done out na nb
    if acount>=minGallop then break
   else
    nb:=nb-1;out:=out.push<|<- elem' b nb;bcount:=bcount+1;acount:=0
    if nb==1 then return c out na nb
    if bcount>=minGallop then break
  rule "list.sort.gallop"
  minGallop:=minGallop+1
  for _ in [0:d] do
   if minGallop>1 then minGallop:=minGallop-1
   setMinGallop' minGallop
   let some at_ <- gallop' false (<- elem' b (nb-1)) a 0 na (na-1)|return done out na nb
   let k:=na-at_
   acount:=k
   if k>0 then
    out:=out++(a.extract at_ na).reverse;na:=at_
    if na==0 then return done out na nb
   nb:=nb-1;out:=out.push (<- elem' b nb)
   if nb==1 then return c out na nb
   let some at_ <- gallop' true (<- elem' a (na-1)) b 0 nb (nb-1)|return done out na nb
   let k:=nb-at_
   bcount:=k
   if k>0 then
    out:=out++(b.extract at_ nb).reverse;nb:=at_
    if nb==1 then return c out na nb
    if nb==0 then return done out na nb
   na:=na-1;out:=out.push (<- elem' a na)
   if na==0 then return done out na nb
   if acount<7&&bcount<7 then break
  minGallop:=minGallop+1
  setMinGallop' minGallop
 unsupported "internal:list.sort.merge-bound"):=rfl
section
variable {prog:lV}{w:lW}{A:lY}{E:lP->lQ->Prop}{s:lQ}{κ:mJ}{it:oC mE}{n:Nat}{lt:Nat->Nat->Bool}
section
variable {a b out:oC Nat}{na nb:Nat}
end
abbrev TJ:=oB (oC mE)×Nat×Nat×oC mE×Nat×Nat×Nat
def GE(a b c:oC mE)(d f h g e:Nat):StateT mI Sem (ForInStep TJ) :=
 elem' a (d-1)>>=λy=>
  if(d-1==0)=true then pure (ForInStep.done (some<|a.extract 0 (d-1)++b.extract 0 f++(c.push y).reverse,d-1,f,c.push y,h,g,e))
  else if(decide (g<7)&&decide (e<7))=true then pure (ForInStep.done (none,d-1,f,c.push y,h,g,e))
  else pure<|ForInStep.yield (none,d-1,f,c.push y,h,g,e)
def GF(a b c:oC mE)(e d g f h:Nat):StateT mI Sem (ForInStep TJ) :=
 elem' b (d-1)>>=λy=>
  if(d-1==1)=true then pure (ForInStep.done (some<|b.extract 0 (d-1)++a.extract 0 e++(c.push y).reverse,e,d-1,c.push y,g,f,h))
  else elem' a (e-1)>>=λz=>gallop' true z b 0 (d-1) (d-1-1)>>=λx=>
   match x with
   |some k=>if d-1-k>0 then
     (if(k==1)=true then pure (ForInStep.done (some<|b.extract 0 k++a.extract 0 e++(c.push y++(b.extract k<|d-1).reverse).reverse,e,k,c.push y++(b.extract k<|d-1).reverse,g,f,d-1-k))
     else if(k==0)=true then pure (ForInStep.done (some<|a.extract 0 e++b.extract 0 k++(c.push y++(b.extract k<|d-1).reverse).reverse,e,k,c.push y++(b.extract k<|d-1).reverse,g,f,d-1-k))
     else GE a b (c.push y++(b.extract k<|d-1).reverse) e k g f<|d-1-k)
    else GE a b (c.push y) e (d-1) g f (d-1-k)
   |_=>pure<|ForInStep.done (some<|a.extract 0 e++b.extract 0 (d-1)++(c.push y).reverse,e,d-1,c.push y,g,f,h)
def NT(a b c:oC mE)(d e f h g:Nat):StateT mI Sem (ForInStep TJ) :=
 setMinGallop' f>>=λ_=>elem' b (e-1)>>=λy=>gallop' false y a 0 d (d-1)>>=λx=>
  match x with
  |some k=>if d-k>0 then
    (if(k==0)=true then pure (ForInStep.done (some<|a.extract 0 k++b.extract 0 e++(c++(a.extract k d).reverse).reverse,k,e,c++(a.extract k d).reverse,f,d-k,g))
    else GF a b (c++(a.extract k d).reverse) k e f (d-k) g)
   else GF a b c d e f (d-k) g
  |_=>pure<|ForInStep.done (some<|a.extract 0 d++b.extract 0 e++c.reverse,d,e,c,f,h,g)
section
variable {a b:oC Nat}{st:mI}{Qd Qy:TJ->mI->Prop}{out:oC Nat}{na nb mg ac bc:Nat}
end
end
def O3(i:Nat):mergeAt' i=(do
 let s <- get
 let(some (c,d,b),some (f,e,_)):=((pendingOf s)[i]?,(pendingOf s)[i+1]?)|unsupported "internal:list.sort.pending"
 set (setPending s<|((pendingOf s).setIfInBounds i (c,d+e,b)).eraseIdxIfInBounds<|i+1)
 let some k <- gallop' false (<- elem' (arrOf s) f) (arrOf s) c d 0|return false
 let(c,d):=(c+k,d-k)
 if d==0 then return true
 let some e <- gallop' true (<- elem' (arrOf s) (c+d-1)) (arrOf s) f e (e-1)|return false
 if e==0 then return true
 let x:=(arrOf s).extract c f
 let y:=(arrOf s).extract f (f+e)
 let merged <- if d<=e then mergeLo' x y else mergeHi' x y
 modify λs=>setArr s (merged.toList.zipIdx.foldl (λa (p,j)=>a.setIfInBounds (c+j) p)<|arrOf s)
 return (failedOf<|<- get).isNone):=rfl
section
variable {prog:lV}{w:lW}{A:lY}{E:lP->lQ->Prop}{s:lQ}{κ:mJ}{it:oC mE}{n:Nat}{lt:Nat->Nat->Bool}{p:oC Nat}{pd:oC<|Nat×Nat×Nat}{g:Nat}
def GG{a:Type}{M:Model}{x:a}{Q:PUnit->a->Prop}{st:a}(h:Q ⟨⟩ x):wpS M A E s (set x:StateT a Sem PUnit) Q st:=by unfold wpS;rw[StateT.run_set];exact B_ ⟨rfl,h⟩
def wr{a:Type}(b:Nat):oA a->Nat->oC a->oC a
 |[],_,p=>p
 |x::c,k,p=>wr b c (k+1)<|p.setIfInBounds (b+k) x
theorem Ty{c:Type}(b:Nat):∀(xs:oA c) (k:Nat) (p:oC c),(xs.zipIdx k).foldl (λa (z:c×Nat)=>a.setIfInBounds (b+z.2) z.1) p=wr b xs k p
 |[],_,_=>rfl
 |x::xs,k,p=>by rw[List.zipIdx_cons,fC,wr];exact Ty b xs (k+1) _
theorem Zn{b:Type}(a:Nat):∀(xs:oA b) (k:Nat) (p:oC b),a+k+xs.length<=p.size->∀i:Nat,(wr a xs k p)[i]?=if a+k<=i/\i<a+k+xs.length then xs[i-(a+k)]? else p[i]?
 |[],k,p,_,i=>by rw[wr,I_<|by simp only[List.length_nil];omega]
 |x::xs,k,p,h,i=>by
  rw[aR]at h;rw[wr,Zn a xs (k+1) _<|by rw[Array.size_setIfInBounds];omega,dC,aR];by_cases h1:a+k=i
  ·subst h1;rw[I_<|by omega,N_ rfl,N_<|by omega,N_<|by omega,Nat.sub_self];rfl
  ·by_cases h2:a+(k+1)<=i/\i<a+(k+1)+xs.length
   ·rw[N_ h2,N_<|by omega];rw[show i-(a+k)=i-(a+(k+1))+1 by omega,List.getElem?_cons_succ]
   ·rw[I_ h2,I_ h1,I_<|by omega]
def Zo(lo a n:Nat):StateT mI Sem (oB Nat):=do
 reverseSlice' lo (lo+n)
 let mut n:=n
 for _ in [n:a] do
  let some smaller <- ltAt' (lo+n) (lo+n-1)|return none
  if smaller then break
  n:=n+1
 return some n
def Zp(lo a n:Nat):StateT mI Sem (oB Nat):=do
 rule "list.sort.descending-run"
 let mut n:=n+1
 let mut neq:=0
 for _ in [n:a] do
  let some smaller <- ltAt' (lo+n) (lo+n-1)|return none
  if smaller then
   if neq>0 then reverseSlice' (lo+n-(neq+1)) (lo+n)
   neq:=0
  else
   let some larger <- ltAt' (lo+n-1) (lo+n)|return none
   if larger then break
   neq:=neq+1
  n:=n+1
 if neq>0 then reverseSlice' (lo+n-(neq+1)) (lo+n)
 Zo lo a n
def Nl(lo a:Nat):countRun' lo a=(do
 let mut n:=1
 for _ in [1:a] do
  let some smaller <- ltAt' (lo+n) (lo+n-1)|return none
  if smaller then break
  n:=n+1
 if n==a then return some n
 if n>1 then
  let some rose <- ltAt' lo (lo+n-1)|return none
  if rose then return some n
  reverseSlice' lo (lo+n)
 Zp lo a n):=rfl
def Chain:oA (Nat×Nat×Nat)->Nat->Nat->Prop
 |[],lo,b=>lo=b
 | (a,l,_)::r,lo,b=>a=lo/\0<l/\Chain r (lo+l) b
theorem Chain.le:∀{l:oA<|Nat×Nat×Nat} {lo b:Nat},Chain l lo b->lo+l.length<=b
 |[],_,_,h=>by cases h;simp
 | (a,l,_)::r,lo,b,h=>by have:=h.2.2.le;have:=h.2.1;rw[aR];omega
theorem Chain.app:∀{l m:oA<|Nat×Nat×Nat} {lo b:Nat},Chain (l++m) lo b↔∃k,Chain l lo k/\Chain m k b
 |[],m,lo,b=>⟨λh=>⟨lo,rfl,h⟩,λ⟨k,e,h⟩=>by cases e;exact h⟩
 | (a,l,q)::r,m,lo,b=>by
  constructor
  ·rintro⟨h1,h2,c⟩;obtain⟨k,d,i⟩:=Chain.app.mp c;exact⟨k,⟨h1,h2,d⟩,i⟩
  ·rintro⟨k,⟨h1,h2,c⟩,f⟩;exact⟨h1,h2,Chain.app.mpr ⟨k,c,f⟩⟩
def O4{l:oA<|Nat×Nat×Nat}{i:Nat}{a b:Nat×Nat×Nat}(h1:l[i]?=some a)(h2:l[i+1]?=some b):l=l.take i++a::b::l.drop (i+2):=by obtain⟨d,e⟩:=F_.mp h1;obtain⟨h,f⟩:=F_.mp h2;have c:=(jF i l).symm;rw[bO d,bO h,e,f]at c;exact c
def GH{pd:oC<|Nat×Nat×Nat}{i:Nat}{a b c:Nat×Nat×Nat}(h1:pd[i]?=some a)(h2:pd[i+1]?=some b):((pd.setIfInBounds i c).eraseIdxIfInBounds<|i+1).toList=pd.toList.take i++c::pd.toList.drop (i+2):=by
 have d:pd.toList[i]?=some a:=by rw[Z_];exact h1
 have f:pd.toList[i+1]?=some b:=by rw[Z_];exact h2
 have j:=(F_.mp d).1;have hj:=(F_.mp f).1;rw[Array.toList_eraseIdxIfInBounds,Array.toList_setIfInBounds,List.eraseIdx_eq_take_drop_succ,List.take_set,List.drop_set_of_lt<|by omega];have e:=O4 d f;have h:(pd.toList.take i).length=i:=by rw[aY];omega
 rw[show i+1+1=i+2 from rfl];have:(pd.toList.take<|i+1).set i c=pd.toList.take i++[c]:=by rw[aJ,d,List.set_append_right _ _<|fH h,h,Nat.sub_self];rfl
 rw[this,fW];rfl
theorem Chain.mod{f:Nat×Nat×Nat->Nat×Nat×Nat}(c:∀e,(f e).1=e.1/\(f e).2.1=e.2.1):∀{l:oA<|Nat×Nat×Nat} {i lo b:Nat},Chain l lo b->Chain (l.modify i f) lo b
 |[],i,lo,b,h=>by rw[List.modify_nil];exact h
 | (a,l,q)::r,0,lo,b,h=>by rw[List.modify_zero_cons];have:=c (a,l,q);generalize f (a,l,q)=e at this;obtain⟨d,k,j⟩:=e;obtain⟨h1,h2⟩:=this;dsimp only at h1 h2;subst h1;subst h2;exact h
 | (a,l,q)::r,i+1,lo,b,h=>by rw[List.modify_succ_cons];exact⟨h.1,h.2.1,h.2.2.mod c⟩
end
end L2
namespace L2
open PySem
def Zq(A:lY)(s:lQ)(u v:lP)(b:Bool):Prop:=∀(prog:lV) (w:lW) (E:lP->lQ->Prop) (Q:lP->lQ->Prop),Q (.bool b) s->qU prog w A (richCompare .Lt u v) Q E s
inductive LexAt (A:lY) (s:lQ):oA lP->oA lP->Bool->Prop
 |nil {ys:oA lP}:LexAt A s [] ys (decide (0<ys.length))
 |stop {x:lP} {xs:oA lP}:LexAt A s (x::xs) [] false
 |eq {x y:lP} {xs ys:oA lP} {r:Bool}:SeqAt.EqAt A s x y true->LexAt A s xs ys r->LexAt A s (x::xs) (y::ys) r
 |ne {x y:lP} {xs ys:oA lP} {r:Bool}:SeqAt.EqAt A s x y false->Zq A s x y r->LexAt A s (x::xs) (y::ys) r
section
variable {prog:lV}{w:lW}{A:lY}{E:lP->lQ->Prop}{s:lQ}
def LexAt.ends{xs ys:oA lP}{r:Bool}(h:LexAt A s xs ys r)(e:xs.zip ys=[]):r=decide (xs.length<ys.length):=by
 cases h with
 |nil=>simp
 |stop=>simp
 |eq=>simp at e
 |ne=>simp at e
def Lk{a b:lT}{p i:l_}{xs ys:oC lP}{n k:Nat}{P:PySem.Fin->lQ->Prop}{r:Bool}(ha:s.heap.get? a=some p)(hb:s.heap.get? b=some i)(y:i.cls=.type "tuple") (x:p.data=.seq xs n) (t:i.data=.seq ys k)
  (h:LexAt A s xs.toList ys.toList r) (q:P (.done<|.ret<|.bool r) s):qU prog w A (Builtin.«tuple.__lt__» ⟨[.ref a,.ref b],[]⟩) P E s:=by
 have z:s.TypeIs (.ref b) "tuple" := ⟨i,hb,y⟩;refine(show wpAny _ _ (isInstance (.ref b) (.type "tuple")>>=_) _ _ s from A_<|bT z isSubtype_tuple_tuple ?_);rw[show(!true)=false from rfl,I_ Q_];refine A_<|kI ha x<|A_<|kI hb t<|A_ ?_;refine gJ _ (λleft g m=>g.1=none/\m=s/\∃f d,left=List.zip f d/\LexAt A s f d r/\decide (f.length<d.length)=decide (xs.size<ys.size)) _ ?_ ?_ _ _ ⟨rfl,rfl,xs.toList,ys.toList,rfl,h,by simp⟩
 ·rintro⟨u,v⟩ left g m ⟨o,rfl,f,d,c,j,l⟩;cases j with
  |nil=>simp at c
  |stop=>simp at c
  |eq h1 h2=>simp only[List.zip_cons_cons,List.cons.injEq,Prod.mk.injEq]at c;obtain⟨⟨rfl,rfl⟩,rfl⟩:=c;refine A_<|h1 prog w _ _ ?_;dsimp only;rw[show(!true)=false from rfl,I_ Q_];exact B_ ⟨rfl,rfl,_,_,rfl,h2,by simpa using l⟩
  |ne h1 h2=>simp only[List.zip_cons_cons,List.cons.injEq,Prod.mk.injEq]at c;obtain⟨⟨rfl,rfl⟩,rfl⟩:=c;refine A_<|h1 prog w _ _ ?_;simp only[Bool.not_false,if_true];exact A_<|cV<|A_<|h2 prog w _ _<|A_<|B_<|B_<|B_ q
 ·rintro⟨B,a2⟩ m ⟨o,rfl,f,d,c,j,l⟩;simp only at o;subst o;have e:=j.ends c.symm;rw[e,l]at q;exact B_ q
def Rl{a b:lT}{c d:l_}{xs ys:oC lP}{n k:Nat}{r:Bool}(ha:s.heap.get? a=some c)(hb:s.heap.get? b=some d)(e:c.cls=.type "tuple") (f:d.cls=.type "tuple") (i:c.data=.seq xs n) (g:d.data=.seq ys k)
  (hu:A.units<cLine) (h:LexAt A.in1 s xs.toList ys.toList r):Zq A s (.ref a) (.ref b) r:=λprog w E Q q=>
 wpAny_richCompare_same_room (T := "tuple") ⟨c,ha,e⟩ ⟨d,hb,f⟩ F.slot_tuple_lt (aU F.slot_tuple_lt ⟨c,ha,e⟩ F.entry_tuple_lt (Lk ha hb f i g h ⟨_,rfl,(λz=>nomatch z),q⟩)<|F.args_tuple_lt_2 _ _) hu
end
mutual
def cmpb:lR->lR->Bool
 |.int _,.int _=>true
 |.tuple a,.tuple b=>cmpbs a b
 |_,_=>false
def cmpbs:oA lR->oA lR->Bool
 |[],_=>true
 |_::_,[]=>true
 |x::a,y::b=>if PyData.eqv x y then cmpbs a b else cmpb x y
end
def Rm{u a b c d:Nat}(h:u+min (max a b) (max c d)<cLine):u+min a c<cLine:=eL (gA (Nat.le_min_of_le_of_le (K_ (Nat.min_le_left _ _)<|jY _ _)<|K_ (lC _ _)<|jY _ _) u) h
def NU{u a b c d:Nat}(h:u+min (max a b) (max c d)<cLine):u+min b d<cLine:=Rm (b:=a) (d:=c) (by rw[Nat.max_comm b a,Nat.max_comm d c];exact h)
mutual
theorem J6:∀(x y:lR) (A:lY) (s:lQ) (u v:lP) (as d:oA lT),Reads s.heap u x as->Reads s.heap v y d->x.canLay0=true->y.canLay0=true->cmpb x y=true->A.units+min x.depth y.depth<cLine->Zq A s u v (EA x y)
 |.int a,.int b,A,s,u,v,as,d,i,f,_,_,_,_=>by
  cases i;cases f;intro j w E Q q;have e:EA (.int a) (.int b)=decide (a<b):=by simp[EA]
  rw[e]at q;exact wpAny_lt_int q
 |.tuple g,.tuple c,A,s,u,v,as,d,i,f,k,c2,hc,hu=>by
  cases i with
  |tuple m a2 p n=>
   cases f with
   |tuple o r l t=>
    have e:EA (.tuple g) (.tuple c)=Lj g c:=by simp[EA]
    rw[e];simp only[PyData.canLay0]at k c2;simp only[cmpb]at hc;simp only[PyData.depth]at hu;refine Rl m o a2 r p l (by omega)<|Fy g c A.in1 s _ _ _ _ n t k c2 hc ?_;show A.units+1+_<_;omega
 |.int _,.none,_,_,_,_,_,_,_,_,_,_,h,_=>by simp[cmpb]at h
 |.int _,.bool _,_,_,_,_,_,_,_,_,_,_,h,_=>by simp[cmpb]at h
 |.int _,.str _,_,_,_,_,_,_,_,_,_,_,h,_=>by simp[cmpb]at h
 |.int _,.list _,_,_,_,_,_,_,_,_,_,_,h,_=>by simp[cmpb]at h
 |.int _,.tuple _,_,_,_,_,_,_,_,_,_,_,h,_=>by simp[cmpb]at h
 |.int _,.dict _,_,_,_,_,_,_,_,_,_,_,h,_=>by simp[cmpb]at h
 |.tuple _,.none,_,_,_,_,_,_,_,_,_,_,h,_=>by simp[cmpb]at h
 |.tuple _,.bool _,_,_,_,_,_,_,_,_,_,_,h,_=>by simp[cmpb]at h
 |.tuple _,.str _,_,_,_,_,_,_,_,_,_,_,h,_=>by simp[cmpb]at h
 |.tuple _,.list _,_,_,_,_,_,_,_,_,_,_,h,_=>by simp[cmpb]at h
 |.tuple _,.int _,_,_,_,_,_,_,_,_,_,_,h,_=>by simp[cmpb]at h
 |.tuple _,.dict _,_,_,_,_,_,_,_,_,_,_,h,_=>by simp[cmpb]at h
 |.none,_,_,_,_,_,_,_,_,_,_,_,h,_=>by simp[cmpb]at h
 |.bool _,_,_,_,_,_,_,_,_,_,_,_,h,_=>by simp[cmpb]at h
 |.str _,_,_,_,_,_,_,_,_,_,_,_,h,_=>by simp[cmpb]at h
 |.list _,_,_,_,_,_,_,_,_,_,_,_,h,_=>by simp[cmpb]at h
 |.dict _,_,_,_,_,_,_,_,_,_,_,_,h,_=>by simp[cmpb]at h
theorem Fy:∀(xs ys:oA lR) (A:lY) (s:lQ) (c a:oA lP) (as f:oA lT),ReadsAll s.heap c xs as->ReadsAll s.heap a ys f->PyData.canLayAll0 xs=true->PyData.canLayAll0 ys=true->cmpbs xs ys=true->A.units+min (PyData.depthAll xs) (PyData.depthAll ys)<cLine->LexAt A s c a (Lj xs ys)
 |[],ys,A,s,c,a,as,f,d,b,_,_,_,_=>by
  cases d;have e:Lj [] ys=decide (0<a.length):=by cases b<;>simp[Lj]
  rw[e];exact .nil
 |x::xs,[],A,s,c,a,as,f,d,b,_,_,_,_=>by
  cases b;cases d with
  |cons h a2=>
   have e:Lj (x::xs) []=false:=by simp[Lj]
   rw[e];exact .stop
 |x::xs,y::ys,A,s,c,a,as,f,d,b,g,c2,hc,hu=>by
  simp only[PyData.canLayAll0,Bool.and_eq_true]at g c2;simp only[PyData.depthAll]at hu;cases d with
  |cons h a2=>
   cases b with
   |cons i j=>
    have q:=jK x y A s _ _ _ _ h i g.1 c2.1<|Rm hu;simp only[cmpbs]at hc;simp only[Lj];cases e:PyData.eqv x y with
    |true=>rw[e]at q hc;exact .eq q (Fy xs ys A s _ _ _ _ a2 j g.2 c2.2 hc<|NU hu)
    |false=>rw[e]at q hc;exact .ne q<|J6 x y A s _ _ _ _ h i g.1 c2.1 hc<|Rm hu
end
end L2
namespace L2
open PySem PySem.W PyProof.Rows
section
variable {prog:lV}{w:lW}{A:lY}{E:lP->lQ->Prop}{s:lQ}
def GI{a b:Bool}{Q:Bool->lQ->Prop}:∀{c f:oA lP} {r:Bool},LexAt A s c f r->a=decide (c.length<f.length)->∀i,(b&&i==0)=false->Q r s->KatLex prog w A b a Q (c.zip f) i s:=by
 intro c f r h
 induction h with
 |nil=>intro e i d q;have g:a=decide (0<_):=e;rw[<- g]at q;exact kat_nil q
 |stop=>
  intro e i d q;have g:a=false:=by rw[e];simp
  rw[<- g]at q;exact kat_nil q
 |eq h1 h2 j=>intro e i d q;exact kat_cons (h1 prog w _ _<|kat_yes<|j (by rw[e];simp) (i+1) (by simp) q)
 |ne h1 h2=>intro e i d q;refine kat_cons<|h1 prog w _ _<|kat_no ?_;rw[d];exact kat_one _ _<|h2 prog w _ _<|show PySem.W.BoolBack Q (.bool _) s from q
def NV{x y:lT}{a b:Int}{c d:oA lR}{as p:oA lT}{Q:Bool->lQ->Prop}(I:Reads s.heap (.ref x) (.tuple<|.int a::c) as)(u:Reads s.heap (.ref y) (.tuple<|.int b::d) p)(i:(PyData.tuple<|.int a::c).canLay0=true)(c2:(PyData.tuple<|.int b::d).canLay0=true)
  (hc:cmpb (.tuple<|.int a::c) (.tuple<|.int b::d)=true) (hu:A.units+64<cLine) (z:(PyData.tuple<|.int a::c).depth<=64) (q:Q (EA (.tuple<|.int a::c)<|.tuple<|.int b::d) s):qU prog w A (keyLt' (tuples' true) (.ref x)<|.ref y) Q E s:=by
 cases I with
 |@tuple _ L h n _ _ o a2 F k=>
  cases u with
  |@tuple _ J g m _ _ r M l j=>
   refine kat_lt o F r l ?_;simp only[PyData.canLay0,PyData.canLayAll0,Bool.and_eq_true]at i c2;simp only[PyData.depth,PyData.depthAll]at z;simp only[cmpb,cmpbs]at hc;simp only[EA,Lj]at q;have B:h.size=h.toList.length:=by simp
   have G:g.size=g.toList.length:=by simp
   rw[B,G];generalize h.toList=us at k ⊢;generalize g.toList=vs at j ⊢;cases k with
   |cons C v=>
    cases j with
    |cons v1 H=>
     cases C with
     |int _ t=>
      cases v1 with
      |int _ D=>
       rw[List.zip_cons_cons];have f:=jK (.int a) (.int b) A s _ _ _ _ (.int a t) (.int b D) rfl rfl (by simp[PyData.depth];omega);cases e:PyData.eqv (.int a) (.int b) with
       |true=>rw[e]at f hc q;refine kat_cons<|f prog w _ _<|kat_yes ?_;refine GI (Fy c d A s _ _ _ _ v H i.2 c2.2 hc<|by omega) (by simp) 1 rfl q
       |false=>rw[e]at f hc q;refine kat_cons<|f prog w _ _<|kat_no ?_;exact kat_lt_int q
end
end L2
namespace L2
open PySem PySem.Spec PyProof.Rows
theorem Gz:∀{ds:oA lR},PyData.canLayAll0 ds=true->∀d∈ds,d.canLay0=true
 |d::ds,h,e,he=>by
  simp only[PyData.canLayAll0,Bool.and_eq_true]at h;rcases aB.mp he with rfl|he
  ·exact h.1
  ·exact Gz h.2 e he
theorem Mb:∀{ds:oA lR},∀d∈ds,d.depth<=PyData.depthAll ds
 |d::ds,e,he=>by
  simp only[PyData.depthAll];rcases aB.mp he with rfl|he
  ·omega
  ·have:=Mb (ds:=ds) e he;omega
def Zr{a:Type}{xs:oA a}{i:Nat}{d:a}(h:i<xs.length):xs.getD i d∈xs:=by rw[bJ,E_ h];exact eO h
theorem Ht{h h':lZ}(hk:∀b o,h.get? b=some o->h'.get? b=some o):∀{a:oA lP} {ds:oA lR} {as:oA lT},ReadsAll h a ds as->ReadsAll h' a ds as
 |_,_,_,.nil=>.nil
 |_,_,_,.cons r t=>.cons (fX hk r)<|Ht hk t
theorem TK{h:lZ}:∀{a:oA lP} {ds:oA lR} {as:oA lT} {i:Nat},ReadsAll h a ds as->i<ds.length->∃c,Reads h (a.getD i .none) (ds.getD i .none) c
 |_,_,_,0,.cons r _,_=>⟨_,r⟩
 |_,_,_,i+1,.cons _ t,b=>TK (i:=i) t<|by simpa using b
theorem Tz{h:lZ}:∀{a:oA lP} {ds:oA lR} {as:oA lT},ReadsAll h a ds as->a.length=ds.length
 |_,_,_,.nil=>rfl
 |_,_,_,.cons _ t=>by simp[Tz t]
theorem O5{h:lZ}:∀{e:oA lP} {ds:oA lR} {as:oA lT},ReadsAll h e ds as->(∀d∈ds,∃i r,d=.tuple (.int i::r))->∃b:oA lP,PySem.W.KatTups h e b/\b.length=e.length/\∀v∈b,∃i t,v=.int i t
 |_,_,_,.nil,_=>⟨[],PySem.W.KatTups.nil,rfl,λ_ z=>nomatch z⟩
 |_,_,_,.cons r t,f=>by
  obtain⟨b,k,l,z⟩:=O5 t λd m=>f d<|aM _ m;obtain⟨i,y,rfl⟩:=f _ aV;cases r with
  |@tuple a o j n A as g a2 q c=>
   cases hv:j.toList with
   |nil=>rw[hv]at c;cases c
   |cons u w=>
    rw[hv]at c;cases c with
    |cons p x=>
     cases p with
     |int _ s=>
      refine⟨.int i s::b,PySem.W.KatTups.cons g a2 q ?_ k,by simp[l],λv hv'=>?_⟩
      ·rw[<- Z_,hv];rfl
      ·rcases aB.mp hv' with rfl|hv'
       ·exact⟨_,_,rfl⟩
       ·exact z v hv'
def O6(t:lT)(i:Int):l_:={cls:=.type "reversed",data:=.fields #[.ref t,rawInt i]}
def Fz(h:lZ)(a t:lT)(i:Int):Prop:=∃o,h.get? a=some o/\o.cls=.type "reversed" /\ o.data=.fields #[.ref t,rawInt i]
def O7:Manifest.owners.lookup (String.ofList ['d','e','s','r','e','v','e','r'].reverse)=some Manifest.sig_reversed:=by kernel_rfl
def Hb:Slot "reversed" "__next__" "reversed.__next__" := .of (owner := "reversed") (n := "__next__") (by rw[d_,bZ];kernel_rfl) (by decide +kernel) (by decide +kernel) (by decide +kernel) (.inl<|by decide +kernel)<|by rw[dJ];kernel_rfl
def O8:entryFor table "reversed.__next__" = some Builtin.«reversed.__next__»:=jL<|by kernel_rfl
def T7(a:lP):argsOk "reversed.__next__" ⟨[a],[]⟩:=by rw[argsOk,kY (id := "reversed.__next__") (n:=['_','_','t','x','e','n','_','_']) (o:=['d','e','s','r','e','v','e','r']) (by kernel_rfl) O7];kernel_rfl
def T8:Slot "reversed" "__iter__" "reversed.__iter__" := .of (owner := "reversed") (n := "__iter__") (by rw[d_,bZ];kernel_rfl) (by decide +kernel) (by decide +kernel) (by decide +kernel) (.inl<|by decide +kernel)<|by rw[dJ];kernel_rfl
def Zs(a:lP):argsOk "reversed.__iter__" ⟨[a],[]⟩:=by rw[argsOk,kY (id := "reversed.__iter__") (n:=['_','_','r','e','t','i','_','_']) (o:=['d','e','s','r','e','v','e','r']) (by kernel_rfl) O7];kernel_rfl
def Wl:entryFor table "reversed.__iter__" = some Builtin.«dict_keyiterator.__iter__»:=entryFor_alias (id' := "dict_keyiterator.__iter__") (by kernel_rfl) (by first|rfl|decide +kernel) (by decide +kernel)<|by kernel_rfl
def GJ:typeLookup (.type "tuple") "__reversed__" = pure none:=by rw[d_,bZ];kernel_rfl
def Wm:isSubtype (.type "tuple") (.type "dict")=pure false:=by rw[dJ];kernel_rfl
def Nm:Slot "reversed" "__init__" "object.__init__" := .of (owner := "object") (n := "__init__") (by rw[d_,bZ];kernel_rfl) (by decide +kernel) (by decide +kernel) (by decide +kernel) (.inl<|by decide +kernel)<|by rw[dJ];kernel_rfl
def Wo:TypeCalled "reversed" "reversed.__new__" "object.__init__" := ⟨by decide +kernel,F.create_reversed,⟨_,_,F.mro_reversed⟩,F.made_reversed,by decide +kernel,F.sub_reversed_self,Nm⟩
section
variable {prog:lV}{w:lW}{A:lY}{E:lP->lQ->Prop}{s:lQ}{X:Cx}{tg a:lX}{ta:AE}{pos p:Pos}{o e f:lX}{ap aj:Pos}{td ty tx te:AE}{p2 bu:Pos}
def Fz.typeIs{b t:lT}{i:Int}(x:Fz s.heap b t i):s.TypeIs (.ref b) "reversed" := by obtain⟨o,c,hc,_⟩:=x;exact⟨o,c,hc⟩
def Fz.at{h h':lZ}{b t:lT}{i:Int}(x:Fz h b t i)(e:∀o,h.get? b=some o->h'.get? b=some o):Fz h' b t i:=by obtain⟨o,c,r⟩:=x;exact⟨o,e _ c,r⟩
def Gk{t:lT}{items:oC lP}{Q:lP->lQ->Prop}(g:IsTup s.heap t items)(k:¬(items.size:Int)>=2^63)
  (h:∀b,Q (.ref s.heap.objs.size) {s with heap:=s.heap.push<|O6 t<|(items.size:Int)-1,toks:=b}):qU prog w A (call (.type "reversed") [.ref t]) Q E s:=by
 have d:s.TypeIs (.ref t) "tuple" := g.typeIs;refine callType_newIn Wo (by decide) (F.typeCall_reversed_1 _) (F.newCall_reversed_1 _) (λj=>by kernel_rfl) F.entry_reversed_new (S:=λi R c=>c=s/\∀b,R (.ok<|.ret<|.ref s.heap.objs.size) {s with heap:=s.heap.push<|O6 t<|(items.size:Int)-1,toks:=b})
  (.of_wp λi R c h1=>?_) ⟨rfl,λb=>⟨⟨_,H_ _ rfl,rfl⟩,h b⟩⟩
 obtain⟨rfl,h1⟩:=h1;rw[Builtin.«reversed.__new__»];refine A_<|eK (newClass_reversed _) ?_;refine A_ (eK (a:=()) (by first|rfl|kernel_rfl)<|A_<|eK (a:=()) (by first|rfl|kernel_rfl) ?_);refine A_<|dM d GJ<|A_ ?_;refine(show wpAny _ _ (isInstance (.ref t) (.type "dict")>>=_) _ _ c from A_<|bT d Wm ?_);rw[I_ Q_];refine A_<|dM d F.slot_tuple_getitem.lookup ?_;dsimp only;rw[N_<|by decide];refine B_ ?_;rw[show(!true)=false from rfl,I_ Q_];refine A_ (PyProof.Rows.len_tuple g (by omega)<|A_<|eK (a:=some (items.size:Int)) rfl ?_);refine(show wpAny _ _ (newObj (.type "reversed") (.fields #[.ref t,rawInt<|(items.size:Int)-1])>>=_) _ _ _ from A_<|aC<|B_ ⟨_,rfl,h1 _⟩)
def O9{b t:lT}{i:Nat}{items:oC lP}{x:lP}{Q:oB lP->lQ->Prop}(h:Fz s.heap b t (i:Int))(j:IsTup s.heap t items)(hx:items[i]?=some x)(u:t≠b)(k:(i:Int)<2^63)
  (r:∀g l,Fz g b t ((i:Int)-1)->Heap.SameBut b s.heap g->Q (some x) {s with heap:=g,toks:=l}):qU prog w A (pyNext<|.ref b) Q E s:=by
 obtain⟨o,d,hc,c⟩:=id h;have q:s.TypeIs (.ref t) "tuple" := j.typeIs;unfold pyNext;refine A_<|eB<|bG (name:=Str.ofString "__next__") h.typeIs Hb<|aU Hb h.typeIs O8 ?_<|T7 _;rw[Builtin.«reversed.__next__»];refine A_<|eK (a:=(Value.ref b,[])) rfl<|A_<|bL d c (x:=.ref t) rfl<|A_<|bL d c (x:=rawInt (i:Int)) rfl ?_;refine(show wpAny _ _ (if(i:Int)<0 then _ else _) _ _ s from ?_);rw[I_<|by omega];refine A_<|dM q F.slot_tuple_getitem.lookup ?_;have hk:seqIndex? (i:Int) items.size=some i:=by
  have m:i<items.size:=by
   rcases bN i items.size with z|z
   ·exact z
   ·rw[cK z]at hx;cases hx
  have n:¬((i:Int)<0):=by omega
  unfold seqIndex?;simp[m,n]
 refine(show wpAny _ _ (mkInt (i:Int)>>=_) _ _ s from A_<|wpAny_mkInt<|A_<|eB<|PyProof.Rows.getItem_tuple j (by omega) k hk hx ?_);refine A_<|bL d c (x:=rawInt (i:Int)) rfl ?_;refine(show wpAny _ _ (setField (.ref b) 1 (rawInt<|(i:Int)-1)>>=_) _ _ _ from A_<|cY d c (by simp)<|B_ ⟨x,rfl,B_<|r _ _ ?_<|aO ..⟩);exact⟨_,aG _ d<|dW<|bX c _,(iX ..).trans hc,by rw[bX c];simp⟩
def Rn{c t:lT}{Q:oB lP->lQ->Prop}(k:A.handled=none)(i:Fz s.heap c t<|-1)
  (l:∀j,Heap.ExtBut c s.heap j->Q none {s with heap:=j}):qU prog w A (pyNext<|.ref c) Q E s:=by
 obtain⟨o,g,hc,d⟩:=id i;unfold pyNext;refine A_<|eB<|bG (name:=Str.ofString "__next__") i.typeIs Hb<|aU Hb i.typeIs O8 ?_<|T7 _;rw[Builtin.«reversed.__next__»];refine A_<|eK (a:=(Value.ref c,[])) rfl<|A_<|bL g d (x:=.ref t) rfl<|A_<|bL g d (x:=rawInt<|-1) rfl ?_;refine(show wpAny _ _ (if(-1:Int)<0 then _ else _) _ _ s from ?_);rw[N_<|by decide];refine A_<|cV<|A_ ?_;have h1:(s.heap.update c<|Obj.mapFields λh=>h.set! 1<|rawInt<|-1).get? c=some (o.mapFields λh=>h.set! 1<|rawInt<|-1):=aG _ g<|dW<|bX d _;refine(show wpAny _ _ (setField (.ref c) 1 (rawInt<|-1)>>=λ_=>setField (.ref c) 0 .none) _ _ s from A_<|cY g d (by simp)<|cY h1 (bX d _) (by simp) ?_);refine A_<|show wpAny _ _ (newExc (.type "StopIteration") []>>=_) _ _ _ from A_ ?_;simp only[newExc,newTuple];refine A_ (aC (A_ (m:=firstArgMember _ _)<|eK (a:=Value.none) (by first|rfl|(simp only[firstArgMember];rfl))<|aC ?_<|by size_fits)<|by size_fits);simp only[raiseNew];refine A_<|jN<|show wpAny _ _ _ _ _ _ from ?_;rw[show A.in1.handled=none from k];refine A_<|B_<|jR<|show wpAny _ _ _ _ _ _ from ?_;refine A_<|bT (T := "StopIteration") (b:=true) ⟨_,H_ _ rfl,rfl⟩ iY<|B_<|l _ ?_;exact λb n hb e=>DD _<|DD _<|((aO _ c _).2 b hb).trans<|((aO s.heap c _).2 b hb).trans e
def Zt{c t:lT}{i:Int}{Q:lP->lQ->Prop}(b:Fz s.heap c t i)(h:Q (.ref c) s):qU prog w A (pyIter<|.ref c) Q E s :=
 fA b.typeIs T8 (aU T8 b.typeIs Wl (B_ ⟨_,rfl,"reversed",_,b.typeIs,Hb.lookup,h⟩)<|Zs _)
def Irv(K:lU)(a:lT)(n:Nat):It :=
 ⟨λi H=>∃b x,Iz K H a b/\b.length=n/\b.reverse[i]?=some x,λi H x c=>c=H/\∀b,Iz K H a b->b.reverse[i]?=some x,λi H=>∃b,Iz K H a b/\b.length=n/\n<=i⟩
def Ro{c:Type}{xs:oA c}{i:Nat}{x:c}(h:xs.reverse[i]?=some x):i<xs.length/\xs[xs.length-1-i]?=some x:=by
 have b:i<xs.length:=by have:=(F_.mp h).1;simpa using this
 rw[List.getElem?_reverse b]at h;exact⟨b,h⟩
def Zu{P:lV}{w:lW}{K:lU}{tg:lX}(a g:lT)(au:a≠g)(n:Nat)(hn:(n:Int)<2^63):Turn P w K tg (Irv K a n) [g] g (λi h=>i<=n/\Fz h g a ((n:Int)-1-i)) where
 mem:=by simp
 obj:=λi h st b hb=>by
  have e:b=g:=by simpa using hb
  subst e;obtain⟨_,o,e,c,d⟩:=st;exact⟨o,e,λv z=>by rw[d]at z;cases z⟩
 keep:=λi h l st k=>⟨st.1,st.2.at λo e=>k g (by simp) o e⟩
 item:=by
  intro X N J D hc i R s T H E I m st y;subst N J D;obtain⟨xs,x,hq,O,hx⟩:=y;obtain⟨Z,S,p,hz⟩:=I.tuple hq;have ag:=S.length;obtain⟨hi,j3⟩:=Ro hx;obtain⟨u,hu,ru⟩:=S.get j3;obtain⟨t,r,V,C,B,F⟩:=m g (by simp);have G:(n:Int)-1-i=((n-1-i:Nat):Int):=by omega
  have j:=st.2;rw[G]at j;refine O9 j (show IsTup s.heap a Z.toArray from p) (x:=u) (by rw[<- O];simpa using hu) au (by omega) λl M L W=>?_;have Y:Inv X R T H {s with heap:=l,toks:=M}:=I.turned (t':=M) (λb o hb e=>(W.2 b hb).trans e) t r C B F;have e2:((n-1-i:Nat):Int)-1=(n:Int)-1-((i+1:Nat):Int):=by omega
  rw[e2]at L;obtain⟨o,e,c,d⟩:=id L;exact⟨u,rfl,Ob (s:={s with heap:=l,toks:=M}) e c d (by decide) ⟨x,H,Y,ru,⟨rfl,λys hy=>by rw[I.tuple_inj hy hq];exact hx⟩,⟨by omega,L⟩,λb hb=>(m b hb).1⟩⟩
 done:=by
  intro X N J D hc i R s T H E I m st y;subst N J D;obtain⟨xs,hq,O,hx⟩:=y;obtain⟨t,r,V,C,B,F⟩:=m g (by simp);have G:(n:Int)-1-i=-1:=by have:=st.1;omega
  have j:=st.2;rw[G]at j;refine Rn (I.ok.hd hc) j λl U=>⟨rfl,?_⟩;exact I.turned (t':=s.toks) (λb o hb e=>U b o hb e) t r C B F
 self:=λA i s Q E st q=>Zt st.2 q
def Zv{K:lU}{g:Hp}{a:lT}{xs:oA AV}{n:Nat}{l:M->Prop}(hn:xs.length=n)(h:∀H d,Kp g H->Cn K d H->l d->∃b,Iz K H a b/\Ax K H xs b):ItOk K g (Irv K a n) xs.reverse l:=by
 refine⟨λi H d S c k m=>?_,λi H d v I x S c k e y=>?_,λH d S c k=>?_⟩
 ·obtain⟨b,q,r⟩:=h H d S c k;have j:=r.length;have D:i<b.reverse.length:=by simp at m ⊢;omega
  exact⟨b,b.reverse[i],q,by omega,E_ D⟩
 ·obtain⟨b,q,r⟩:=h H d S c k;obtain⟨rfl,y⟩:=y;have C:=y b q;have j:=r.length;obtain⟨m,B⟩:=Ro e;obtain⟨u,z,F⟩:=r.get B;obtain⟨G,t⟩:=Ro C;rw[<- j]at t;rw[t]at z;cases z;exact⟨Kp.refl,c,F⟩
 ·obtain⟨b,q,r⟩:=h H d S c k;exact⟨b,q,by rw[<- r.length];exact hn,by rw[j_];omega⟩
def Qao(t:AE):AI:=λc d R=>t c d λx b=>match x with
 |.D (.tuple g)=>R (g.map AV.D).reverse (λ_=>True) b
 |_=>False
def NW(Q:Gl X "reversed") (Y:X.mg "reversed" = none) (J:VE X a ta) (hs:starEach [a] X.env=[(false,eval a X.env)]:=by rfl):VI X tg (.Call (.Name "reversed" p) [a] [] pos) (Qao ta):=by
 intro M s σ H R I i;refine B1 i λτ C N O hc h hq=>?_;refine bV<|Dy I Q Y boot_reversed ?_;refine bQ ?_ hs rfl;rw[hs];refine bU<|thn (J M s σ H (λv l=>∃j d,Kp H l/\Cn X.K d l/\RelA X.K l (.D<|.tuple j) v/\N (j.map AV.D).reverse (λ_=>True) d) I ⟨τ,C,_,O,hc,h,λx d v l y t n hx=>?_⟩) λu g gl=>cJ ?_
 ·split at hx
  ·exact⟨_,d,y,t,n,hx⟩
  ·exact hx.elim
 obtain⟨xv,l,r,r1,j,d,y,t,n,hx⟩:=gl;have hi:items d (.D<|.tuple j)=some (j.map AV.D):=rfl;obtain⟨q,vs,rfl,hp,P⟩:=Ce t n hi;cases r1;rcases hp with⟨z,_⟩|⟨_,hp⟩
 ·exact absurd z<|by simp[JB]
 obtain⟨k,W,F,hz⟩:=r.tuple hp;have U:=W.length;have T:(k.length:Int)<2^63:=by
  have:sizeLine<2^62:=by decide
  omega
 refine Gk (show IsTup g.heap q k.toArray from F) (by rw[aA];omega) λtk=>?_;have Z:q<g.heap.objs.size:=by obtain⟨_,L,_⟩:=F;exact J_ L
 have m:∀b o,g.heap.get? b=some o->(g.heap.push<|O6 q<|(k.toArray.size:Int)-1).get? b=some o:=λb o e=>DD _ e;have G:Fz (g.heap.push<|O6 q<|(k.toArray.size:Int)-1) g.heap.objs.size q ((k.length:Int)-1-(0:Nat)):=⟨_,H_ _ rfl,rfl,by simp[O6]⟩;refine Zt G ?_;refine⟨g.heap.objs.size,[g.heap.objs.size],_,_,l,rfl,r.kept (t':=tk) m,Zu q _ (T_ Z) k.length T,⟨aE _,G⟩,λb hb=>?_,hq _ _ _ _ _ y t (Zv ?_ λH C S c _=>?_) hx⟩
 ·have e:b=g.heap.objs.size:=by simpa using hb
  subst e;exact r.fpOk (G_ _)<|r.hok.fresh<|G_ _
 ·rw[<- U,<- P.length]
 ·obtain⟨q2,V,e,B,rw⟩:=Ce c (n.kp S)<|show items C (.D<|.tuple j)=some (j.map AV.D) from rfl;cases e;rcases B with⟨z,_⟩|⟨_,B⟩
  ·exact absurd z<|by simp[JB]
  ·exact⟨V,B,rw⟩
def NX:MO->Prop
 |.dk _=>True
 |.dt _=>True
 |_=>False
def Zw(td ty tx:AE):AE:=λh i R=>td h i λx c=>match x with
 |.R a=>(∃m,c a=some m/\NX m)/\ty h c λy g=>tx h g λz b=>match y with
  |.D d=>opt (b a) λm=>opt (dget m d) λr=>R (r.getD z) b
  |_=>False
 |_=>False
def Zx{K:lU}{i:M}{H:Hp}{a:lT}{m:MO}(hc:Cn K i H)(e:i a=some m)(h:NX m):YC H a:=by
 obtain⟨j,d,g⟩:=hc a m e;cases m with
 |dk b=>obtain⟨c,rfl,_⟩:=g;exact .inl ⟨c,.inl d⟩
 |dt b=>obtain⟨c,rfl,_⟩:=g;exact .inr ⟨c,.inl d⟩
 |lst k=>exact h.elim
 |dd b=>exact h.elim
def F1(hu:X.A.units+1<cLine)(G:VE X o td)(he:VE X e ty)(N:VE X f tx)(m:M2 X o "get" ap e f aj:=by exact⟨rfl,rfl,rfl,rfl⟩):VE X (.Call (.Attribute o "get" ap) [e,f] [] aj) (Zw td ty tx):=(Yo hu G he N m).imp λY H Q b=>B1 b λq P R i hc h hq=>
 ⟨q,P,_,i,hc,h,λx l v W d B F hx=>by
  split at hx
  ·rename_i a;obtain⟨⟨U,k,M⟩,hx⟩:=hx;cases F;refine⟨a,rfl,Zx B k M,q,l,_,i.kp d,B,hx,λy j u T t c2 S hy=>⟨q,j,_,(i.kp d).kp t,c2,hy,λz L Z V D C I hz=>?_⟩⟩;split at hz
   ·obtain⟨m,J,hz⟩:=A0 hz;obtain⟨r,O,hz⟩:=A0 hz;obtain⟨n,g,c⟩:=Jh C J (Dk.kp D _ _ S) O;refine⟨n,g,hq _ _ _ _ ((d.trans t).trans D) C ?_ hz⟩;cases r with
    |none=>
     cases n with
     |none=>exact I
     |some _=>exact c.elim
    |some _=>
     cases n with
     |none=>exact c.elim
     |some _=>exact c
   ·exact hz.elim
  ·exact hx.elim⟩
def TL(te:AE):AE:=λd g R=>te d g λx b=>match x with
 |.R a=>opt (b a) λm=>match m with
  |.lst c=>∀l,b l=none->R (.R l) (Al b l<|.lst c.reverse)
  |_=>False
 |_=>False
def GK(hc:X.calm=true)(n:Gl X "list") (y:X.mg "list" = none) (u:Gl X "reversed") (j:X.mg "reversed" = none) (he:VE X e te)
  (hs:starEach [.Call (.Name "reversed" p2) [e] [] bu] X.env=[(false,eval (.Call (.Name "reversed" p2) [e] [] bu) X.env)]:=by rfl) (hs2:starEach [e] X.env=[(false,eval e X.env)]:=by rfl) :
  VE X (.Call (.Name "list" p) [.Call (.Name "reversed" p2) [e] [] bu] [] pos) (TL te):=(FL hc n y u j he hs hs2).imp λG H Q b=>B1 b λz C R hs hc h hq=>
 ⟨z,C,_,hs,hc,h,λx B v F r d g hx=>by
  split at hx
  ·rename_i a;obtain⟨m,q,hx⟩:=A0 hx;split at hx
   ·obtain⟨D,i,t,rfl,k⟩:=d _ _ q;cases g;exact⟨a,t,rfl,Ff.of i,λl c=>hq _ _ _ _ (r.trans<|Kp.new c _) (d.new c<|C2 k.rev) C7<|hx l<|d.none c⟩
   ·exact hx.elim
  ·exact hx.elim⟩
end
end L2
namespace L2
open PySem
def D7(xs:oC Nat):Prop:=xs.toList.Pairwise (· < ·)
def D7.lt{xs:oC Nat}(h:D7 xs){i j:Nat}{d:Nat}(a:i<j)(hj:j<xs.size):xs.getD i d<xs.getD j d:=by have:=List.pairwise_iff_getElem.mp h i j (by simp;exact eV a hj) (by simpa using hj) a;simp only[Array.getElem_toList]at this;simp only[Array.getD,show i<xs.size from Nat.lt_trans a hj,hj,dif_pos];exact this
theorem J7{xs:oC Nat}(h:D7 xs){j:Nat}:∀(f lo a:Nat),a-lo<=f->lo<=a->a<=xs.size->(∀i,i<lo->xs.getD i j<j)->(∀i,a<=i->i<xs.size->j<=xs.getD i j) ->
  SetTable.below.go xs j f lo a<=xs.size/\(∀i,i<SetTable.below.go xs j f lo a->xs.getD i j<j)/\∀i,SetTable.below.go xs j f lo a<=i->i<xs.size->j<=xs.getD i j
 | 0,lo,a,h1,h2,k,g,b=>by
  have e:lo=a:=by omega
  subst e;exact⟨k,g,b⟩
 |f+1,lo,a,h1,h2,k,g,b=>by
  rw[SetTable.below.go];by_cases c:lo<a
  ·rw[N_ c];dsimp only;by_cases c2:xs.getD ((lo+a) / 2) j<j
   ·rw[N_ c2];refine J7 h f _ _ (by omega) (by omega) k (λi m=>?_) b;by_cases e:i=(lo+a) / 2
    ·rw[e];exact c2
    ·have:=h.lt (d:=j) (show i<(lo+a) / 2 by omega) (show(lo+a) / 2<xs.size by omega);exact eV this c2
   ·rw[I_ c2];refine J7 h f _ _ (by omega) (by omega) (by omega) g λi m l=>?_;by_cases e:i=(lo+a) / 2
    ·rw[e];exact jJ c2
    ·have:=h.lt (d:=j) (show(lo+a) / 2<i by omega) l;omega
  ·rw[I_ c];have e:lo=a:=by omega
   subst e;exact⟨k,g,b⟩
def E8{xs:oC Nat}(h:D7 xs)(j:Nat):SetTable.below xs j<=xs.size/\(∀i,i<SetTable.below xs j->xs.getD i j<j)/\∀i,SetTable.below xs j<=i->i<xs.size->j<=xs.getD i j :=
 J7 h xs.size 0 xs.size (iM _ _) (aE _) (G_ _) (λi a=>absurd a<|iK _) λi a b=>by omega
def Rp{xs:oC Nat}(h:D7 xs){k:Nat}(hk:k<xs.size):SetTable.below xs (xs[k]+1)=k+1:=by
 obtain⟨e,b,f⟩:=E8 h<|xs[k]+1;have g:∀i,(a:i<xs.size)->xs.getD i (xs[k]+1)=xs[i]:=λi a=>by simp[Array.getD,a]
 rcases kS (SetTable.below xs<|xs[k]+1) (k+1) with c|c|c
 ·have:=f k (eF c) hk;rw[g k hk]at this;omega
 ·exact c
 ·have h1:k+1<xs.size:=Y_ c e;have:=b (k+1) c;rw[g _ h1]at this;have h2:=h.lt (d:=0) (dN k) h1;simp only[Array.getD,hk,h1,dif_pos]at h2;have j:xs[k]<xs[k+1]:=h2;omega
def Rr{xs:oC Nat}(h:D7 xs):SetTable.below xs 0=0:=by
 obtain⟨c,a,b⟩:=E8 h 0;rcases Nat.eq_zero_or_pos (SetTable.below xs 0) with e|e
 ·exact e
 ·have:=a 0 e;omega
def F2{a:Type}(xs:oC a)(p:Nat)(x:a)(hp:p<=xs.size):(SetTable.insertAt xs p x).toList=xs.toList.take p++x::xs.toList.drop p:=by rw[SetTable.toList_insertAt]
def Pa{xs:oC Nat}(h:D7 xs){j:Nat}(hj:xs[SetTable.below xs j]?≠some j):D7 (SetTable.insertAt xs (SetTable.below xs j) j):=by
 obtain⟨l,t,o⟩:=E8 h j;unfold D7;rw[F2 _ _ _ l];have p:∀a∈xs.toList.take (SetTable.below xs j),a<j:=λa ha=>by
  obtain⟨i,f,e⟩:=eI ha;have h1:i<SetTable.below xs j:=by rw[aY]at f;omega
  have:=t i h1;simp only[Array.getD,show i<xs.size from Nat.lt_of_lt_of_le h1 l,dif_pos]at this;rw[<- e];simpa using this
 have n:∀a∈xs.toList.drop (SetTable.below xs j),j<a:=λa ha=>by
  obtain⟨i,f,e⟩:=eI ha;have h1:SetTable.below xs j+i<xs.size:=by rw[gE]at f;simp at f;omega
  have h2:=o _ (cD _ i) h1;simp only[Array.getD,h1,dif_pos]at h2;have q:a=xs[SetTable.below xs j+i]:=by rw[<- e];simp
  have v:a≠j:=by
   intro z;by_cases c:i=0
   ·subst c;apply hj;rw[aH<|by omega];exact bR some<|q.symm.trans z
   ·have g:SetTable.below xs j<xs.size:=by omega
    have m:=o _ (G_ _) g;simp only[Array.getD,g,dif_pos]at m;have k:=h.lt (d:=0) (show SetTable.below xs j<SetTable.below xs j+i by omega) h1;simp only[Array.getD,g,h1,dif_pos]at k;have s:xs[SetTable.below xs j]<xs[SetTable.below xs j+i]:=k;have u:j<=xs[SetTable.below xs j]:=m;omega
  have r:j<=xs[SetTable.below xs j+i]:=h2;omega
 refine List.pairwise_append.mpr ⟨h.sublist<|eD _ _,List.pairwise_cons.mpr ⟨n,h.sublist<|List.drop_sublist _ _⟩,λa ha b hb=>?_⟩;rcases aB.mp hb with rfl|hb
 ·exact p a ha
 ·have:=p a ha;have:=n b hb;omega
structure TblOk(t:SetTable)(led:Bool):Prop where
 rise:D7 t.place
 dum:t.dummies=#[]
 led:t.led=led
def Rs(n:Nat):D7 (Array.range n):=by unfold D7;rw[Array.toList_range];exact gP
def TblOk.standIn{t:SetTable}{led:Bool}(h:TblOk t led)(n:Nat):TblOk (t.standIn n) led:=⟨Rs n,rfl,h.led⟩
def TblOk.orStandIn{t:SetTable}{led:Bool}(h:TblOk t led)(n:Nat):TblOk (t.orStandIn n) led:=by
 unfold SetTable.orStandIn;split
 ·exact h
 ·exact h.standIn n
def TblOk.plain{t:SetTable}{led:Bool}(h:TblOk t led)(b:Bool):TblOk {t with plain:=b} led:=⟨h.rise,h.dum,h.led⟩
def J8(j:Nat):SetTable.has #[] j=false:=by unfold SetTable.has;simp
def J9{t:SetTable}{led:Bool}(h:TblOk t led){j:Nat}(e:t.slot j=.empty):t.place[SetTable.below t.place j]?≠some j:=by
 unfold SetTable.slot at e;dsimp only at e;split at e
 ·cases e
 ·rename_i c;simpa using c
def Rt{t:SetTable}{led:Bool}(h:TblOk t led){j:Nat}:t.slot j≠.dummy:=by
 unfold SetTable.slot;dsimp only;rw[h.dum,J8];split
 ·intro z;cases z
 ·intro z;cases z
def Ll(t:SetTable)(p:SetTable.Probe):(t.advance p).dummy=p.dummy:=by unfold SetTable.advance;split<;>rfl
theorem Im{t:SetTable}{led:Bool}(h:TblOk t led){hashAt:Nat->Int}{b:Int}{j:Nat}{d:oB Nat}:∀(f:Nat) (p:SetTable.Probe),p.dummy=none->SetTable.probe.go t hashAt b f p=some (.empty j d)->d=none/\t.slot j=.empty
 | 0,_,_,e=>by simp[SetTable.probe.go]at e
 |f+1,p,hp,e=>by
  rw[SetTable.probe.go]at e;cases c:t.slot p.j with
  |empty=>rw[c]at e;have a:=aX e;injection a with e1 e2;exact⟨e2.symm.trans hp,by rw[<- e1];exact c⟩
  |dummy=>exact absurd c (Rt h)
  |live i=>
   rw[c]at e;dsimp only at e;split at e
   ·cases e
   ·exact Im h f _ ((Ll t p).trans hp) e
def GL{t:SetTable}{led:Bool}(h:TblOk t led){i:Int}{s:Nat}{b:Bool}(e:t.freeSlot i=some (s,b)):t.place[SetTable.below t.place s]?≠some s:=by
 unfold SetTable.freeSlot SetTable.probe at e;split at e
 ·rename_i j d c;obtain⟨rfl,g⟩:=Im h _ _ rfl c;have f:=aX e;have a:j=s:=bR Prod.fst f;rw[<- a];exact J9 h g
 ·cases e
def TblOk.put{t:SetTable}{led:Bool}(h:TblOk t led){s:Nat}(hs:t.place[SetTable.below t.place s]?≠some s):TblOk (t.put s).1 led:=by refine⟨Pa h.rise hs,?_,h.led⟩;show(if SetTable.has t.dummies s then _ else t.dummies)=#[];rw[h.dum,J8];rfl
def TblOk.layNew{t:SetTable}{led:Bool}(h:TblOk t led)(es:oC<|Int×lP)(a:Int)(x:lP):TblOk (layNew t es a x).2.1 led:=by
 unfold PySem.layNew;split
 ·rename_i s b c;exact(h.put<|GL h c).orStandIn _
 ·exact h.standIn _
theorem TblOk.laid{mask finger moves:Nat}{led plain:Bool}{hs:oC Int}{t:SetTable}{h:oC Nat}(e:SetTable.laid mask finger moves led plain hs=some (t,h)):TblOk t led:=by
 unfold SetTable.laid at e;cases c:SetTable.layClean mask hs with
 |none=>rw[c]at e;cases e
 |some d=>rw[c]at e;have i:=aX e;injection i with e1 _;subst e1;refine⟨?_,rfl,rfl⟩;unfold D7;show(List.map _ _).Pairwise _;rw[eG];refine List.Pairwise.filterMap _ (R:=(· < ·)) (λa j f b hb k g=>?_) gP;obtain⟨z,_,rfl⟩:=L_.mp hb;obtain⟨l,_,rfl⟩:=L_.mp g;exact f
def TblOk.relayAll{t:SetTable}{led:Bool}(h:TblOk t led)(es:oC<|Int×lP)(w:Nat):TblOk (relayAll t es w).2.1 led:=by
 unfold PySem.relayAll;split
 ·rename_i b a c;dsimp only;split
  ·have:=TblOk.laid c;rw[h.led]at this;exact this
  ·exact h.standIn _
 ·exact h.standIn _
def TblOk.fresh(led:Bool):TblOk (.fresh 0 0 led) led:=⟨List.Pairwise.nil,rfl,rfl⟩
section
variable {prog:lV}{w:lW}{Kt:Type} [DecidableEq Kt]{knd:KeyKind prog w Kt}{A:lY}{E:lP->lQ->Prop}{s:lQ}{a:lT}{led:Bool}
def D8(knd:KeyKind prog w Kt)(h:lZ)(a:lT)(l:oA<|Int×lP)(led:Bool):Prop :=
 ∃o b c t,h.get? a=some o/\o.ExactSet/\o.data=.set b c t/\b.toList=l/\ElemsOf knd l/\t.fits b.size=true/\TblOk t led
def Mc{h:lZ}{o:l_}{es:oC<|Int×lP}{ep:Nat}{t:SetTable}(g:h.get? a=some o)(d:o.ExactSet)(c:o.data=.set es ep t){b:oC<|Int×lP}{t':SetTable}(f:ElemsOf knd b.toList)(j:t'.fits b.size=true)(i:TblOk t' led) :
  (h.update a<|Obj.putSet b t').get? a=some {o with data:=.set b (ep+1) t'}/\D8 knd (h.update a<|Obj.putSet b t') a b.toList led:=by
 have e:=aG (Obj.putSet b t') g (by rw[putSet_of b t' c];rfl);rw[putSet_of b t' c]at e;exact⟨e,_,b,ep+1,t',e,d,rfl,rfl,f,j,i⟩
def Pb{g:Bool->Sem Unit}(D:∀(b:Bool) (p:lQ) (B:Unit->lQ->Prop),B () p->qU prog w A (g b) B E p){o:l_}{es:oC<|Int×lP}{ep:Nat}{t:SetTable}(m:s.heap.get? a=some o)(u:o.ExactSet)(v:o.data=.set es ep t)
  {c:oC<|Int×lP} {d:SetTable} (C:ElemsOf knd c.toList) (hb:c.size<scanBound) (H:d.fits c.size=true) (n:TblOk d led) {F:Bool} {R:oB Bool->lQ->Prop}
  (h:∀k y,Heap.SameBut a s.heap k->D8 knd k a y led->y.Perm c.toList->R (some true) {s with heap:=k}) :
  qU prog w A (do
   storeSet a c d
   if(!F&&d.tooFull)=true then do
    g (relayAll d c<|SetTable.grown c.size).2.2
    storeSet a (relayAll d c<|SetTable.grown c.size).1 (relayAll d c<|SetTable.grown c.size).2.1
    pure (some true)
   else pure<|some true) R E s:=by
 obtain⟨q,G⟩:=Mc (knd:=knd) (led:=led) m u v C H n;refine A_<|iZ m v ?_<|fits_of_scanBound hb;have r:=aO s.heap a<|Obj.putSet c d;split
 ·have f:=relayAll_perm d c<|SetTable.grown c.size;have l:=relayAll_fits d c<|SetTable.grown c.size;have j:=n.relayAll c<|SetTable.grown c.size;generalize relayAll d c (SetTable.grown c.size)=R1 at f l j ⊢;obtain⟨i,J,x⟩:=R1;dsimp only at f l j ⊢;have z:i.size<scanBound:=by
   have e:i.size=c.size:=by rw[<- aF,f.length_eq,aF]
   rw[e];exact hb
  obtain⟨_,I⟩:=Mc (knd:=knd) (led:=led) q u rfl (C.perm f) l j;exact A_<|D _ _ _<|A_<|iZ q rfl (B_<|h _ _ (r.trans<|aO _ a _) I f)<|fits_of_scanBound z
 ·exact B_<|h _ _ r G<|kJ _
def GM{l:oA<|Int×lP}{k:Kt}{x:lP}{Q:Bool->lQ->Prop}(hx:knd.is k x=true)(hs:x.scannable=true)(M:D8 knd s.heap a l led)(hb:l.length+1<scanBound)
  (h1:(∃e∈l,knd.is k e.2=true)->Q false s) (h2:(∀e∈l,knd.is k e.2=false)->∀d f,Heap.SameBut a s.heap d->D8 knd d a f led->f.Perm (l++[(knd.hash k,x)])->Q true {s with heap:=d}) :
  qU prog w A (setAddHashed a x<|knd.hash k) Q E s:=by
 obtain⟨o,h,P,t,z,G,B,rfl,C,I,J⟩:=M;rw[aF]at hb;have N:h.size<scanBound:=by omega
 unfold setAddHashed setAddHashedIn;refine bB<|A_<|bF z B I<|show wpAny _ _ _ _ _ _ from ?_;dsimp only;rw[byScan_of hs N C,N_ rfl];unfold setAddByScan;refine A_<|A_<|cV<|A_<|wpAny_setScan_of hx z B I C ?_;cases c:List.findIdx? (λe=>knd.is k e.2) h.toList with
 |some j=>obtain⟨hj,hp,_⟩:=List.findIdx?_eq_some_iff_getElem.mp c;exact B_ (B_<|h1 ⟨_,eO hj,hp⟩)
 |none=>
  have O:=List.findIdx?_eq_none_iff.mp c;have g:=layNew_perm t h (knd.hash k) x;have y:=layNew_fits t h (knd.hash k) x;have p:=J.layNew h (knd.hash k) x;dsimp only;generalize layNew t h (knd.hash k) x=L1 at g y p ⊢;obtain⟨D,S,R,T⟩:=L1;dsimp only at g y p ⊢;rw[kT]at g;have H:ElemsOf knd D.toList:=(C.push hx hs).perm g;have F:D.size<scanBound:=by rw[<- aF,g.length_eq,R_,aF];exact hb
  have L:∀(b:Bool) (m:lQ) (v:Unit->lQ->Prop),v () m->qU prog w A (match b with|true=>rule "set.scan.the-table-gave-way" |false=>pure ()) v E m:=λb m v q=>by
   cases b
   ·exact B_ q
   ·exact cV q
  have u:∀d f,Heap.SameBut a s.heap d->D8 knd d a f led->f.Perm D.toList->Q true {s with heap:=d}:=λd f n r i=>h2 (λe he=>by simpa using O e he) d f n r<|i.trans g;refine A_<|L _ _ _ ?_;split
  ·refine A_<|show wpAny _ _ (hashByValue 8 x) _ _ _ from ?_;rw[hashByValue_scannable 8 hs];refine B_<|Pb (led:=led) (λb m v q=>?_) z G B H F ?_ ?_ λd f n r i=>?_
   ·cases b
    ·exact B_ q
    ·exact cV q
   ·split
    ·exact y
    ·exact SetTable.fits_plain_off y
   ·split
    ·exact p
    ·exact p.plain false
   ·dsimp only;exact B_<|u d f n r i
  ·refine A_<|B_<|show wpAny _ _ _ _ _ _ from ?_;rw[N_ rfl];refine Pb (λb m v q=>?_) z G B H F y p λd f n r i=>?_
   ·cases b
    ·exact B_ q
    ·exact cV q
   ·dsimp only;exact B_<|u d f n r i
end
def Dq:plainId "set.update.loop" = true:=by decide +kernel
def Hc:entryFor table "set.update.loop" = some Builtin.«set.update.loop»:=jL<|by kernel_rfl
section
variable {prog:lV}{w:lW}{Kt:Type} [DecidableEq Kt]{knd:KeyKind prog w Kt}{A:lY}{R:mH->lQ->Prop}{sa it t:lT}{led:Bool}
def Unlike(knd:KeyKind prog w Kt)(l:oA<|Int×lP):Prop:=l.Pairwise λe a=>∀k,knd.is k e.2=true->knd.is k a.2=false
def Keys(knd:KeyKind prog w Kt)(l:oA<|Int×lP)(ks:oA Kt):Prop:=∀k,(∃e∈l,knd.is k e.2=true)↔k∈ks
def Unlike.add{l:oA<|Int×lP}{x:lP}{k:Kt}{h:Int}(f:Unlike knd l)(hx:knd.is k x=true)(hn:∀e∈l,knd.is k e.2=false):Unlike knd (l++[(h,x)]):=by
 refine List.pairwise_append.mpr ⟨f,List.pairwise_singleton _ _,λe he i d b a=>?_⟩;have g:i=(h,x):=by simpa using d
 subst g;cases c:knd.is b x with
 |false=>rfl
 |true=>have:=knd.inj x b k c hx;subst this;rw[hn e he]at a;cases a
def Unlike.perm{l b:oA<|Int×lP}(h:Unlike knd l)(p:b.Perm l):Unlike knd b:=by
 refine(List.Perm.pairwise_iff (R:=λ(e a:Int×lP)=>∀k,knd.is k e.2=true->knd.is k a.2=false) (λ{e a} hh k hk=>?_) p.symm).mp h;cases c:knd.is k e.2 with
 |false=>rfl
 |true=>rw[hh k c]at hk;cases hk
theorem Pc:∀{ks:oA Kt} {a:oA lP} {i:Nat} {x:lP},ItemsAre knd ks a->a[i]?=some x->∃k,ks[i]?=some k/\knd.is k x=true
 |_,_,_,_,.nil,h=>by simp at h
 |_,_,0,_,.cons h1 _,h=>by simp at h;subst h;exact⟨_,rfl,h1⟩
 |_,_,i+1,_,.cons _ t,h=>by simpa using Pc (i:=i) t (by simpa using h)
end
section
variable {prog:lV}{w:lW}{A:lY}{E:lP->lQ->Prop}{s:lQ}
def Zy{M:Model}{self v:lP}{Q:Unit->lQ->Prop}(a:s.TypeIs self "set") (q:Q () s):wpAny M A (checkBuiltinCall "set.__init__" ⟨[self,v],[]⟩) Q E s:=by
 simp only[checkBuiltinCall,kind_set_init,split_set_init,sig_set_init];refine A_<|bT a sub_set_self<|show wpAny _ _ _ _ _ _ from ?_;rw[show(!true)=false from rfl,I_ Q_];unfold Bind.checkArgs;dsimp only;refine A_ (m:=Bind.printed "set" true _ _) (PyProof.Rows.printed_name (by decide)<|A_ (m:=Bind.printed "*" false _ _)<|PyProof.Rows.printed_star (self:=self) rfl a λb=>?_);have e:(if(Manifest.Receiver.self==Manifest.Receiver.none)=true then [self,v].length else [self,v].length-1)=1:=rfl;rw[e];have hc:Bind.check ⟨.positional,"set","*",.self,[⟨"iterable",.posOnly,false⟩]⟩ "set" b 1 []=pure ():=by simp +decide [Bind.check,Bind.checkCount,Bind.isPositional]
 simp only[List.map_nil];rw[hc];exact B_ q
def GN(v:lP):checkTypeCall "set" ⟨[v],[]⟩=pure ():=by kernel_rfl
def NY(v:lP):checkBuiltinCall "set.__new__" ⟨[.type "set",v],[]⟩=pure ():=by kernel_rfl
def E9(w:lW):Bool:=!(w.params.followText "set-order")
def Bv(w:lW):l_:={cls:=.type "set",dict:=none,data:=.set #[] 0 (.fresh 0 0<|E9 w)}
def GO{v:lP}{Q1:lP->lQ->Prop}(h:Q1 (.ref s.heap.objs.size) {s with heap:=s.heap.push<|Bv w}) :
  codeAny (model prog w) A (.call (.builtin "set.__new__") ⟨[.type "set",v],[]⟩) (wants Q1 E) s:=by
 refine codeAny_of_tree<|show wpAny _ A.in1 (do checkBuiltinCall "set.__new__" ⟨[.type "set",v],[]⟩;again<|.builtin "set.__new__" ⟨[.type "set",v],[]⟩) _ _ s from ?_;refine A_<|eK (NY v)<|B_ ⟨dF F.plain_set_new _,dD F.entry_set_new<|show wpAny _ _ _ _ _ _ from ?_⟩;rw[bS F.plain_set_new _];unfold Builtin.«set.__new__» Builtin.Frozenset.newClass;have b:=sub_set_self;obtain⟨hp,g,d,a,os⟩:=s;dsimp only
 wp_walk
 refine lG<|B_<|show wpAny _ _ _ _ _ _ from ?_;dsimp only;simp only[newObj];exact A_<|wpAny_alloc<|B_<|B_ h
def Ka{v:lP}{Q:lP->lQ->Prop}(h:wpAny (model prog w) A.in1.in1 (Builtin.Frozenset.updateFrom "set.__init__" s.heap.objs.size v) (λ_ b=>Q (.ref s.heap.objs.size) b) E {s with heap:=s.heap.push<|Bv w}) :
  wpAny (model prog w) A (call (.type "set") [v]) Q E s:=by
 obtain⟨c,m,i⟩:=F.called_set.mro;have n:=F.called_set.made;have y:=F.called_set.sub;refine lL<|codeAny_of_tree<|show wpAny _ _ (callAny (.type "set") _) _ _ _ from ?_;refine B_ ⟨kG _<|by decide +kernel,dD F.entry_type_call ?_⟩;rw[Around.under_plain (weight_type_call_type "set" [v] []) rfl];have p:=F.called_set.notType;have t:=F.called_set.canCreate;have u:=GN v
 repeat any_goals first|assumption|wp_step
 refine hV (GO (E:=E) (Q1:=λj k=>j=.ref s.heap.objs.size/\k={s with heap:=s.heap.push<|Bv w}) ⟨rfl,rfl⟩) λr k f=>?_;cases r with
 |error e=>exact f
 |ok fl=>
  cases fl with
  |ret j=>
   obtain⟨rfl,rfl⟩:=f;have g:(s.heap.push<|Bv w).get? s.heap.objs.size=some (Bv w):=H_ _ rfl;have T:Shared.TypeIs {s with heap:=s.heap.push<|Bv w} (.ref s.heap.objs.size) "set" := ⟨_,g,rfl⟩;have x:=F.called_set.init.lookup;have B:=F.called_set.init.bind<|.ref s.heap.objs.size
   repeat any_goals first|assumption|wp_step
   refine hV (hJ (R:=wants (λr b=>r=.none/\Q (.ref s.heap.objs.size) b) E) F.called_set.init.plain F.entry_set_init<|Zy T ?_) λl b a=>?_
   ·unfold Builtin.«set.__init__» noKeywords;generalize o:Builtin.Frozenset.updateFrom=U at h ⊢;unfold Bv at g
    wp_walk
    exact bD h (λ_ _ q=>B_ ⟨rfl,q⟩) λ_ _ e=>e
   ·cases l with
    |error e=>exact a
    |ok d=>
     cases d with
     |ret z=>
      obtain⟨rfl,q⟩:=a
      repeat any_goals first|assumption|wp_step
     |_=>exact a.elim
  |_=>exact f.elim
def Io:isSubtype (.type "tuple") (.type "set")=pure false:=by rw[dJ];kernel_rfl
def Ip:isSubtype (.type "tuple") (.type "frozenset")=pure false:=by rw[dJ];kernel_rfl
end
section
variable {prog:lV}{w:lW}{Kt:Type} [DecidableEq Kt]{knd:KeyKind prog w Kt}{A:lY}{E:lP->lQ->Prop}{s:lQ}{sa t:lT}{led:Bool}
def Ru:ElemsOf knd []:=λe he=>by cases he
def Md:Keys knd [] []:=λk=>⟨by rintro ⟨e,he,_⟩;exact (by cases he),λh=>(by cases h)⟩
def Kc{h:lZ}:D8 knd (h.push<|Bv w) h.objs.size [] (E9 w) :=
 ⟨_,#[],0,_,H_ _ rfl,⟨rfl,rfl,rfl⟩,rfl,rfl,Ru,rfl,TblOk.fresh _⟩
end
def Pd:Manifest.owners.lookup (String.ofList ['r','o','t','a','r','e','t','i','_','t','e','s'].reverse)=some Manifest.sig_set_iterator:=by kernel_rfl
def El:Slot "set_iterator" "__next__" "set_iterator.__next__" := .of (owner := "set_iterator") (n := "__next__") (by rw[d_,bZ];kernel_rfl) (by decide +kernel) (by decide +kernel) (by decide +kernel) (.inl<|by decide +kernel)<|by rw[dJ];kernel_rfl
def Pe:entryFor table "set_iterator.__next__" = some Builtin.«set_iterator.__next__»:=jL<|by kernel_rfl
def Ua(a:lP):argsOk "set_iterator.__next__" ⟨[a],[]⟩:=by rw[argsOk,kY (id := "set_iterator.__next__") (n:=['_','_','t','x','e','n','_','_']) (o:=['r','o','t','a','r','e','t','i','_','t','e','s']) (by kernel_rfl) Pd];kernel_rfl
def Ub:Slot "set_iterator" "__iter__" "set_iterator.__iter__" := .of (owner := "set_iterator") (n := "__iter__") (by rw[d_,bZ];kernel_rfl) (by decide +kernel) (by decide +kernel) (by decide +kernel) (.inl<|by decide +kernel)<|by rw[dJ];kernel_rfl
def Zz(a:lP):argsOk "set_iterator.__iter__" ⟨[a],[]⟩:=by rw[argsOk,kY (id := "set_iterator.__iter__") (n:=['_','_','r','e','t','i','_','_']) (o:=['r','o','t','a','r','e','t','i','_','t','e','s']) (by kernel_rfl) Pd];kernel_rfl
def Wp:entryFor table "set_iterator.__iter__" = some Builtin.«dict_keyiterator.__iter__»:=entryFor_alias (id' := "dict_keyiterator.__iter__") (by kernel_rfl) (by first|rfl|decide +kernel) (by decide +kernel)<|by kernel_rfl
def Rv:entryFor table "set.__iter__" = some Builtin.«frozenset.__iter__»:=entryFor_alias (id' := "frozenset.__iter__") (by kernel_rfl) (by first|rfl|decide +kernel) (by decide +kernel)<|by kernel_rfl
section
variable {prog:lV}{w:lW}{A:lY}{E:lP->lQ->Prop}{s:lQ}
def Rw{M:Model}{a:Source}{n:Nat}{Q:Nat->lQ->Prop}(hn:n≠0)(h:∀i b,i<n->Q i {s with drawn:=b}):wpAny M A (choose a n) Q E s:=λΓ p _=>by unfold choose;rw[Sem.wp_choose];refine⟨hn,?_⟩;rw[Sem.wp_pure];exact h _ _<|Nat.mod_lt _<|gQ hn
theorem Hu{a:Type}:∀{xs:oA a} {i:Nat} {x:a},xs[i]?=some x->(x::xs.eraseIdx i).Perm xs
 |_::_,0,_,h=>by simp at h;subst h;exact kJ _
 |y::b,i+1,x,h=>by have:=Hu (xs:=b) (i:=i) (x:=x) (by simpa using h);exact(List.Perm.swap y x _).trans<|this.cons y
theorem Kd{M:Model}{c:Type}:∀(n:Nat) (xs:oA c) (s:lQ) (Q:oA c->lQ->Prop),xs.length=n->(∀b f,b.Perm xs->Q b {s with drawn:=f})->wpAny M A (drawOrder n xs) Q E s
 | 0,xs,s,Q,a,h=>by have:xs=[]:=dQ a;subst this;exact B_ (h [] s.drawn<|kJ _)
 |n+1,[],s,Q,a,h=>by cases a
 |n+1,x::xs,s,Q,a,h=>by unfold drawOrder;refine A_ (Rw (by simp) λi j d=>?_);have e:(x::xs)[i]?=some (x::xs)[i]:=E_ d;rw[e];refine A_<|Kd n _ _ _ ?_ λb g hp=>B_<|h _ g<|(hp.cons _).trans<|Hu e;rw[List.length_eraseIdx_of_lt d];simp at a ⊢;exact a
theorem Uc{d:Type}(next:Nat->Nat):∀(n k:Nat) (left:oA d) (a:oC d),left.length=n->(pickOrder.go next n k left a).toList.Perm (a.toList++left)
 | 0,k,left,a,c=>by have:left=[]:=dQ c;subst this;unfold pickOrder.go;simp
 |n+1,k,left,a,c=>by
  unfold pickOrder.go;have b:next k%left.length<left.length:=Nat.mod_lt _<|by omega
  have e:left[next k%left.length]?=some left[next k%left.length]:=E_ b;rw[e];dsimp only;refine(Uc next n (k+1) _ _ (by rw[List.length_eraseIdx_of_lt b];omega)).trans ?_;rw[kT,fW];exact(Hu e).append_left _
def Wq{a:Type}(next:Nat->Nat)(xs:oC a):(pickOrder next xs).toList.Perm xs.toList:=by unfold pickOrder;simpa using Uc next xs.size 0 xs.toList #[] (by simp)
def D9(h:lZ)(a:lT)(es:oC<|Int×lP)(ep:Nat)(t:SetTable):Prop:=∃o,h.get? a=some o/\o.cls=.type "set" /\ o.data=.set es ep t/\t.fits es.size=true
def D9.typeIs{a:lT}{es:oC<|Int×lP}{ep:Nat}{t:SetTable}(x:D9 s.heap a es ep t):s.TypeIs (.ref a) "set" := by obtain⟨o,b,hc,_⟩:=x;exact⟨o,b,hc⟩
def D9.at{h h':lZ}{a:lT}{es:oC<|Int×lP}{ep:Nat}{t:SetTable}(x:D9 h a es ep t)(e:∀o,h.get? a=some o->h'.get? a=some o):D9 h' a es ep t:=by obtain⟨o,b,r⟩:=x;exact⟨o,e _ b,r⟩
def F3(h:lZ)(b a:lT)(first:lP)(i n ep:Nat):Prop:=∃o,h.get? b=some o/\o.cls=.type "set_iterator" /\ o.data=.fields #[first,rawInt i,.ref a,rawInt n,rawInt ep]
def F3.typeIs{b a:lT}{first:lP}{i n ep:Nat}(x:F3 s.heap b a first i n ep):s.TypeIs (.ref b) "set_iterator" := by obtain⟨o,c,hc,_⟩:=x;exact⟨o,c,hc⟩
def F3.at{h h':lZ}{b a:lT}{first:lP}{i n ep:Nat}(x:F3 h b a first i n ep)(e:∀o,h.get? b=some o->h'.get? b=some o):F3 h' b a first i n ep:=by obtain⟨o,c,r⟩:=x;exact⟨o,e _ c,r⟩
def Ke(pl:oC Nat):Nat->Nat
 | 0=>0
 |i+1=>pl.getD i 0+1
inductive Mode (w:lW) (a:lT) (es:oC<|Int×lP) (ep:Nat) (t:SetTable) (h:lZ):Nat->lP->oA lP->Prop
 |text {i:Nat} (hb:w.params.followText "set-order" = true):Mode w a es ep t h i (rawInt 0) ((pickOrder (w.params.setOrder a ep) es).toList.map (·.2))
 |table {i:Nat} (hb:w.params.followText "set-order" = false) (hd:(!t.plain&&decide (es.size>1))=false):Mode w a es ep t h i (rawInt<|Ke t.place i) (es.toList.map (·.2))
 |drawn {i:Nat} {pt:lT} {ps:oA Nat} (hb:w.params.followText "set-order" = false) (hp:ps.Perm<|List.range es.size) (ht:h.IsTuple pt (ps.map λ(j:Nat)=>rawInt j).toArray):Mode w a es ep t h i (.ref pt)<|ps.map λj=>(es.getD j (0,.none)).2
def Wr{a:Type}(xs:oC a)(d:a):(List.range xs.size).map (λj=>xs.getD j d)=xs.toList:=by refine List.ext_getElem (by simp) λi h1 h2=>?_;simp at h1 h2 ⊢;simp[h1]
def Mode.perm{a:lT}{es:oC<|Int×lP}{ep:Nat}{t:SetTable}{h:lZ}{i:Nat}{first:lP}{ord:oA lP}(m:Mode w a es ep t h i first ord):ord.Perm (es.toList.map (·.2)):=by
 cases m with
 |text hb=>exact(Wq _ _).map _
 |table hb b=>exact kJ _
 |@drawn d c hb hp e=>have:=hp.map λj=>(es.getD j (0,Value.none)).2;refine this.trans<|List.Perm.of_eq ?_;rw[<- Wr es (0,Value.none),X_];rfl
def Ge{Q:Bool->lQ->Prop}(h:Q (w.params.followText "set-order") s):qU prog w A setsByText Q E s:=by unfold setsByText;exact A_<|lG<|B_ h
def Rx{a:lT}{es:oC<|Int×lP}{ep:Nat}{t:SetTable}{Q:lP->lQ->Prop}(l:D9 s.heap a es ep t)(hz:es.size<=1000000)
  (h:∀k j q first ord,s.heap.objs.size<=k->(∀b o,s.heap.get? b=some o->j.get? b=some o)->F3 j k a first 0 es.size ep->Mode w a es ep t j 0 first ord->(∀c,first=.ref c->s.heap.objs.size<=c/\c≠k)->Q (.ref k) {s with heap:=j,drawn:=q}) :
  qU prog w A (pyIter<|.ref a) Q E s:=by
 obtain⟨o,d,hc,f,g⟩:=id l;refine fA l.typeIs F.slot_set_iter<|aU F.slot_set_iter l.typeIs Rv ?_<|F.args_set_iter_1 _;unfold Builtin.«frozenset.__iter__» Builtin.Frozenset.sizeOf setEntries setDrawn setEpoch;refine(show wpAny _ _ (_>>=_) _ _ _ from A_<|show wpAny _ _ (pure a) _ _ _ from B_<|A_<|A_<|A_<|bF d f g<|B_<|B_ ?_);refine A_<|A_<|bF d f g<|A_<|Ge<|B_ ?_;cases hb:w.params.followText "set-order" with
 |true=>refine(show wpAny _ _ (if(!true&&_)=true then _ else _) _ _ _ from ?_);rw[Bool.not_true,Bool.false_and,I_ Q_];refine A_<|B_<|A_<|A_<|bF d f g<|B_<|A_<|aC<|B_ ⟨_,rfl,"set_iterator",_,⟨_,H_ _ rfl,rfl⟩,El.lookup,?_⟩;exact h _ _ s.drawn _ _ (G_ _) (λb o e=>DD _ e) ⟨_,H_ _ rfl,rfl,rfl⟩ (.text hb) λc e=>by cases e
 |false=>
  cases lv:(!t.plain&&decide (es.size>1)) with
  |false=>refine(show wpAny _ _ (if(!false&&(!t.plain&&decide (es.size>1)))=true then _ else _) _ _ _ from ?_);rw[lv,Bool.not_false,Bool.true_and,I_ Q_];refine A_<|B_<|A_<|A_<|bF d f g<|B_<|A_<|aC<|B_ ⟨_,rfl,"set_iterator",_,⟨_,H_ _ rfl,rfl⟩,El.lookup,?_⟩;exact h _ _ s.drawn _ _ (G_ _) (λb o e=>DD _ e) ⟨_,H_ _ rfl,rfl,rfl⟩ (.table hb lv) λc e=>by cases e
  |true=>
   refine(show wpAny _ _ (if(!false&&(!t.plain&&decide (es.size>1)))=true then _ else _) _ _ _ from ?_);rw[lv,Bool.not_false,Bool.true_and,N_ rfl];refine A_ (Kd _ _ _ _ (by simp) λn r hp=>?_);refine A_ (m:=newTuple _)<|show wpAny _ _ _ _ _ _ from ?_;simp only[newTuple];have u:n.length<=1000000:=by rw[hp.length_eq];simpa using hz
   refine aC ?_ (by size_fits);have p:=DD {cls:=Value.type "tuple",data:=Data.seq (List.map (λ(i:Nat)=>rawInt ↑i) n).toArray} d;refine A_<|A_<|bF p f g<|B_<|A_<|aC<|B_ ⟨_,rfl,"set_iterator",_,⟨_,H_ _ rfl,rfl⟩,El.lookup,?_⟩;refine h _ _ r _ _ (by rw[bW];exact eA _) (λb o e=>DD _<|DD _ e) ⟨_,H_ _ rfl,rfl,rfl⟩ (.drawn hb hp ⟨_,DD _<|H_ _ rfl,rfl,0,rfl⟩) λc e=>?_;cases e;exact⟨G_ _,T_<|by rw[bW];exact dN _⟩
def Ry{t:SetTable}(b:D7 t.place){i:Nat}(a:i<=t.place.size):SetTable.below t.place (Ke t.place i)=i:=by
 cases i with
 |zero=>exact Rr b
 |succ i=>have:=Rp b (k:=i)<|Nat.lt_of_succ_le a;show SetTable.below t.place (t.place.getD i 0+1)=i+1;rw[show t.place.getD i 0=t.place[i] by simp[show i<t.place.size from Nat.lt_of_succ_le a]];exact this
def Me{a:lT}{es:oC<|Int×lP}{ep slot i:Nat}{t:SetTable}{Q:oB (lP×Nat)->lQ->Prop}(f:D9 s.heap a es ep t)(hb:w.params.followText "set-order" = true) (h:Q (((pickOrder (w.params.setOrder a ep) es)[i]?).map λe=>(e.2,slot)) s) :
  qU prog w A (setNext a slot i ep) Q E s:=by
 obtain⟨g,b,_,c,d⟩:=f;unfold setNext;refine A_<|bF b c d<|A_<|Ge<|show wpAny _ _ (if _=true then _ else _) _ _ _ from ?_;rw[N_ hb];refine(show wpAny _ _ (if(ep != ep)=true then _ else _) _ _ _ from ?_);rw[I_<|by simp];unfold setWalk;refine A_<|A_<|bF b c d<|A_<|Ge<|show wpAny _ _ (if _=true then _ else _) _ _ _ from ?_;rw[N_ hb];exact A_<|lG<|B_<|B_ h
def Kf{a:lT}{es:oC<|Int×lP}{ep i g:Nat}{t:SetTable}{Q:oB (lP×Nat)->lQ->Prop}(e:D9 s.heap a es ep t)(d:TblOk t<|E9 w)(hb:w.params.followText "set-order" = false) (f:(!t.plain&&decide (es.size>1))=false) (m:i<=es.size)
  (h:Q (match es[i]?,t.place[i]? with|some (_,x),some j=>some (x,j+1)|_,_=>none) s):qU prog w A (setNext a (Ke t.place i) g ep) Q E s:=by
 obtain⟨n,c,_,k,b⟩:=e;have l:t.place.size=es.size:=by simp[SetTable.fits]at b;exact b.1
 unfold setNext;refine A_<|bF c k b<|A_<|Ge<|show wpAny _ _ (if _=true then _ else _) _ _ _ from ?_;rw[I_<|by rw[hb];exact Q_];refine(show wpAny _ _ (if(!t.plain&&decide (es.size>1))=true then _ else _) _ _ _ from ?_);rw[f,I_ Q_];refine A_<|show wpAny _ _ (if(!t.led && !es.isEmpty)=true then _ else _) _ _ _ from ?_;rw[I_<|by rw[d.led,E9,hb];simp];refine B_<|show wpAny _ _ (pure _) _ _ _ from B_ ?_;rw[Ry d.rise<|by omega];exact h
def Dg{a:lT}{o:l_}{e:oC lP}{i:Nat}{x:lP}{Q:Unit->lQ->Prop}(f:s.heap.get? a=some o)(c:o.data=.fields e)(g:i<e.size)
  (h:∀d b,d.get? a=some b->b.cls=o.cls->b.data=.fields (e.setIfInBounds i x)->Heap.SameBut a s.heap d->Q () {s with heap:=d}):qU prog w A (setField (.ref a) i x) Q E s :=
 cY f c g (h _ _ (aG _ f<|dW<|bX c _) (iX ..) (bX c _)<|aO ..)
def Z0{d a:lT}{es:oC<|Int×lP}{ep:Nat}{t:SetTable}{first x:lP}{i:Nat}{ord:oA lP}{Q:oB lP->lQ->Prop}(G:D9 s.heap a es ep t)(hT:TblOk t<|E9 w)(H:F3 s.heap d a first i es.size ep)(Z:Mode w a es ep t s.heap i first ord)(au:a≠d)(Y:∀g,first=.ref g->g≠d)(hx:ord[i]?=some x) (F:∀b L,F3 b d a L (i+1) es.size ep->Mode w a es ep t b (i+1) L ord->(∀g,L=.ref g->first=.ref g)->Heap.SameBut d s.heap b->Q (some x) {s with heap:=b}) :
  qU prog w A (pyNext<|.ref d) Q E s:=by
 obtain⟨o,u,hc,N⟩:=id H;obtain⟨oa,l,_,V,n⟩:=id G;have J:t.place.size=es.size:=by simp[SetTable.fits]at n;exact n.1
 unfold pyNext;refine A_<|eB<|bG (name:=Str.ofString "__next__") H.typeIs El<|aU El H.typeIs Pe ?_<|Ua _;unfold Builtin.«set_iterator.__next__»;refine(show wpAny _ _ (_>>=_) _ _ _ from A_<|show wpAny _ _ (pure (Value.ref d,[])) _ _ _ from B_<|show wpAny _ _ (fieldsOf (.ref d)>>=_) _ _ _ from A_<|dY u N<|show wpAny _ _ (setEntries a>>=_) _ _ _ from A_ ?_);refine(show wpAny _ _ (setState a>>=_) _ _ _ from A_<|bF l V n<|B_<|show wpAny _ _ (if((es.size:Int) != (es.size:Int))=true then _ else _) _ _ _ from ?_);rw[I_<|by simp];have m:∀(v:PySem.Fin->lQ->Prop) (U:lP->lQ->Prop) (nx:Nat),(∀b,F3 b d a (rawInt nx) (i+1) es.size ep->Heap.SameBut d s.heap b->v (.done<|.ret x) {s with heap:=b}) ->
   qU prog w A.in1 (setField (.ref d) 0 (rawInt (nx:Nat))>>=λ_=>setField (.ref d) 1 (rawInt<|(i:Int)+1)>>=λ_=>ret x) v U s:=λv U nx q=>by
  refine A_ (Dg u N (by simp) λh1 T h C P p=>A_<|Dg (s:={s with heap:=h1}) h P (by simp) λh2 o2 B c2 d2 b2=>B_<|q h2 ⟨o2,B,c2.trans<|C.trans hc,?_⟩<|p.trans b2);rw[d2];simp[rawInt]
 cases Z with
 |text hb=>
  refine(show wpAny _ _ (setNext a 0 i ep>>=_) _ _ _ from A_<|Me G hb ?_);obtain⟨e,he,rfl⟩:∃e,(pickOrder (w.params.setOrder a ep) es)[i]?=some e/\e.2=x:=by rw[M_,L_]at hx;obtain⟨e,he,r⟩:=hx;exact⟨e,by rw[<- Z_];exact he,r⟩
  rw[he];exact m _ _ 0 λb D I=>⟨_,rfl,B_<|F b _ D (.text hb) (λ_ z=>z) I⟩
 |table hb S=>
  have k:i<es.size:=by
   rw[M_]at hx;rcases bN i es.size with c|c
   ·exact c
   ·simp[List.getElem?_eq_none,c]at hx
  refine(show wpAny _ _ (setNext a (Ke t.place i) i ep>>=_) _ _ _ from A_<|Kf G hT hb S (cH k) ?_);have he:es[i]?=some es[i]:=aH k;have hp:t.place[i]?=some (t.place.getD i 0):=by simp[J,k]
  have R:es[i].2=x:=by rw[M_,Z_,he]at hx;exact aX hx
  rw[he,hp];dsimp only;rw[R];exact m _ _ (t.place.getD i 0+1) λb D I=>⟨_,rfl,B_<|F b _ D (.table (i:=i+1) hb S) (λ_ z=>by cases z) I⟩
 |@drawn g f hb hp W=>
  have k:i<f.length:=by
   rcases bN i f.length with c|c
   ·exact c
   ·rw[dU<|by simpa using c]at hx;cases hx
  have h:f[i]?=some f[i]:=E_ k;have X:f[i]<es.size:=by simpa using hp.mem_iff.mp (eO k)
  obtain⟨y,hy,R⟩:∃y,es[f[i]]?=some y/\y.2=x:=by rw[M_,h]at hx;have:=aX hx;exact⟨es[f[i]],aH X,by simpa [X] using this⟩
  obtain⟨ot,O,_,nt,M⟩:=id W;refine(show wpAny _ _ (seqItems? (.ref g)>>=_) _ _ _ from A_<|eX O M<|show wpAny _ _ _ _ _ _ from ?_);dsimp only;have B:((f.map λ(j:Nat)=>rawInt (j:Int)).toArray)[i]?=some (rawInt (f[i]:Int)):=by simp[h]
  rw[e_,B];refine(show wpAny _ _ (setNextDrawn a f[i] ep>>=_) _ _ _ from A_ ?_);unfold setNextDrawn;refine A_<|bF l V n<|show wpAny _ _ (if(ep != ep)=true then _ else _) _ _ _ from ?_;rw[I_<|by simp,hy];refine B_ ?_;rw[R];refine A_ (Dg u N (by simp) λh1 T h C P p=>B_ ⟨_,rfl,B_<|F h1 (.ref g) ⟨T,h,C.trans hc,?_⟩ (.drawn hb hp<|W.at λo e=>(p.2 g<|Y g rfl).trans e) (λ_ z=>z) p⟩);rw[P];simp[rawInt]
def GP{c a:lT}{es:oC<|Int×lP}{ep:Nat}{t:SetTable}{first:lP}{ord:oA lP}{Q:oB lP->lQ->Prop}(I:A.handled=none)(i:D9 s.heap a es ep t)(G:TblOk t<|E9 w)(l:F3 s.heap c a first es.size es.size ep)(C:Mode w a es ep t s.heap es.size first ord) (S:∀h',Heap.ExtBut c s.heap h'->Q none {s with heap:=h'}):qU prog w A (pyNext<|.ref c) Q E s:=by
 obtain⟨o,g,hc,h⟩:=id l;obtain⟨oa,y,_,J,v⟩:=id i;have O:t.place.size=es.size:=by simp[SetTable.fits]at v;exact v.1
 have n:ord.length=es.size:=by rw[C.perm.length_eq];simp
 unfold pyNext;refine A_<|eB<|bG (name:=Str.ofString "__next__") l.typeIs El<|aU El l.typeIs Pe ?_<|Ua _;unfold Builtin.«set_iterator.__next__»;refine(show wpAny _ _ (_>>=_) _ _ _ from A_<|show wpAny _ _ (pure (Value.ref c,[])) _ _ _ from B_<|show wpAny _ _ (fieldsOf (.ref c)>>=_) _ _ _ from A_<|dY g h<|show wpAny _ _ (setEntries a>>=_) _ _ _ from A_ ?_);refine(show wpAny _ _ (setState a>>=_) _ _ _ from A_<|bF y J v<|B_<|show wpAny _ _ (if((es.size:Int) != (es.size:Int))=true then _ else _) _ _ _ from ?_);rw[I_<|by simp];have d:∀(h1:lZ) (B:PySem.Fin->lQ->Prop) (j:lP->lQ->Prop) ,(∀e h',Heap.ExtBut c h1 h'->Shared.TypeIs {s with heap:=h'} e "StopIteration" -> j e {s with heap:=h'}) ->
   qU prog w A.in1 (newExc (.type "StopIteration") []>>=λe=>raiseNew e) B j {s with heap:=h1}:=λh1 B j q=>by
  refine A_ ?_;simp only[newExc,newTuple];refine A_ (aC (A_ (m:=firstArgMember _ _)<|eK (a:=Value.none) (by first|rfl|(simp only[firstArgMember];rfl))<|aC ?_<|by size_fits)<|by size_fits);simp only[raiseNew];refine A_<|jN ?_;rw[show A.in1.handled=none from I];have L:Heap.ExtBut c h1 h1:=λb o hb e=>e;refine A_<|B_<|jR ?_;exact q _ _ ((L.push _).push _) ⟨_,H_ _ rfl,rfl⟩
 have k:∀(h1:lZ) (e:lP) (h':lZ),Heap.ExtBut c s.heap h1->Heap.ExtBut c h1 h'->Shared.TypeIs {s with heap:=h'} e "StopIteration" -> qU prog w A (isInstance e (.type "StopIteration")>>=λb=>if b=true then pure none else throw e) Q E {s with heap:=h'}:=λh1 e h' M N T=>by refine A_<|bT (b:=true) T iY ?_;exact B_<|S h' λb o hb e=>N b o hb<|M b o hb e
 cases C with
 |text hb=>refine(show wpAny _ _ (setNext a 0 es.size ep>>=_) _ _ _ from A_<|Me i hb ?_);rw[C_,aF]at n;rw[cK<|fH n];exact A_ (Dg g h (by simp) λh1 F r D z f=>d h1 _ _ λe h' x T=>k h1 e h' f.extBut x T)
 |table hb H=>refine(show wpAny _ _ (setNext a (Ke t.place es.size) es.size ep>>=_) _ _ _ from A_<|Kf i G hb H (G_ _) ?_);rw[cK<|G_ _];exact A_ (Dg g h (by simp) λh1 F r D z f=>d h1 _ _ λe h' x T=>k h1 e h' f.extBut x T)
 |@drawn U W hb hp P=>obtain⟨X,u,_,nt,p⟩:=id P;refine(show wpAny _ _ (seqItems? (.ref U)>>=_) _ _ _ from A_<|eX u p<|show wpAny _ _ _ _ _ _ from ?_);dsimp only;rw[e_,cK<|by simpa using fH (by simpa using n)];exact A_<|Dg g h (by simp) λh1 F r D z f=>A_<|Dg (s:={s with heap:=h1}) r z (by simp) λh2 V Y c2 Z R=>d h2 _ _ λe h' x T=>k h2 e h' (f.trans R).extBut x T
end
end L2
namespace L2
open PySem PySem.Spec PyProof.Rows PySem.W
section
variable {prog:lV}{w:lW}{A:lY}{E:lP->lQ->Prop}{s:lQ}
theorem Mode.at{a:lT}{es:oC<|Int×lP}{ep:Nat}{t:SetTable}{h h':lZ}{i:Nat}{first:lP}{ord:oA lP}(m:Mode w a es ep t h i first ord)(hk:∀b,first=.ref b->∀o,h.get? b=some o->h'.get? b=some o):Mode w a es ep t h' i first ord:=by
 cases m with
 |text hb=>exact .text hb
 |table hb c=>exact .table hb c
 |@drawn b f hb hp d=>exact .drawn hb hp<|d.at λo e=>hk b rfl o e
def Ws(B:A.handled=none){f a:lT}{es:oC<|Int×lP}{ep:Nat}{t:SetTable}{ord:oA lP}(n:oA lT)(r:TblOk t<|E9 w)(u:a≠f)(y:f∉n)(G:ord.length=es.size) :
  Walks prog w A f (f::a::n) [f] es.size (λi v=>ord[i]?=some v) (λi h=>D9 h a es ep t/\∃first,F3 h f a first i es.size ep/\Mode w a es ep t h i first ord/\∀c,first=.ref c->c∈n) where
 sub:=λb hb=>by simp at hb;simp[hb]
 frame:=λi h l st hk=>by obtain⟨g,first,d,j,hp⟩:=st;exact⟨g.at λo e=>hk a (by simp) o e,first,d.at λo e=>hk f (by simp) o e,j.at λc z o e=>hk c (by simp[hp c z]) o e,hp⟩
 item:=λi s Q E H st k=>by obtain⟨g,first,d,j,hp⟩:=st;refine Z0 g r d j u (λc z q=>y<|q ▸ hp c z) (x:=ord[i]'(by omega)) (E_ _) λl C p m F hb=>?_;exact k _ l s.toks (E_ _) ⟨g.at λo e=>(hb.2 a u).trans e,C,p,m,λc z=>hp c<|F c z⟩ λb o D e=>hb.extBut b o (λz=>D<|by simp[z]) e
 done:=λs Q E st k=>by obtain⟨g,first,d,j,hp⟩:=st;exact GP B g r d j λl he=>k l s.toks λb o hb e=>he b o (λz=>hb<|by simp[z]) e
 self:=λi s Q E st k=>by obtain⟨g,first,d,j,hp⟩:=st;refine fA d.typeIs Ub<|aU Ub d.typeIs Wp (show wpAny _ _ (ret<|.ref f) _ _ s from ?_)<|Zz _;exact B_ ⟨_,rfl,"set_iterator",_,d.typeIs,El.lookup,k⟩
def Z1{a:lT}{Q:Bool->lQ->Prop}(c:s.TypeIs (.ref a) "set") (h:Q false s):qU prog w A (Builtin.List.listLengthHint<|.ref a) Q E s:=by
 unfold Builtin.List.listLengthHint;refine A_<|dM c PySem.F.slot_set_len.lookup ?_;generalize e:("set.__len__" : String)=id0
 wp_delta
 rw[show splitId id0=some ("set","__len__") from by subst e;decide +kernel];subst e;refine A_ (bT (T := "set") (b:=true) c sub_set_self<|jZ (λd=>absurd d<|by decide) λ_=>jZ (λ_=>?_) λd=>absurd (by decide +kernel) d);exact A_<|fG c<|B_ h
def Wu{ord:oA lP}{acc:oC lP}{n:Nat}(h:ItemsOf (λi v=>ord[i]?=some v) acc n)(a:ord.length=n):acc.toList=ord:=by
 refine gZ λi=>?_;rw[Z_];rcases bN i acc.size with c|c
 ·have:=h.2 i acc[i]<|aH c;rw[this,aH c]
 ·rw[cK c,dU<|by rw[a,<- h.1];exact c]
def Iq{a:lT}{es:oC<|Int×lP}{ep:Nat}{t:SetTable}{Q:oA lP->lQ->Prop}(X:A.handled=none)(D:D9 s.heap a es ep t)(V:TblOk t<|E9 w)(hz:es.size<=1000000)
  (h:∀v d' tk ord,(∀b o,s.heap.get? b=some o->v.get? b=some o)->s.heap.objs.size<=v.objs.size->ord.Perm (es.toList.map (·.2))->Q ord {s with heap:=v,drawn:=d',toks:=tk}) :
  qU prog w A (collect<|.ref a) Q E s:=by
 have T:a<s.heap.objs.size:=by obtain⟨o,e,_⟩:=D;exact J_ e
 unfold collect;refine A_<|i_<|dD F.entry_proto_collect ?_;rw[bS F.plain_proto_collect _];refine(show wpAny _ A.in1 (newList []>>=λl=>again<|.builtin "list.__iadd__" ⟨[l,.ref a],[]⟩) _ _ s from A_<|aC<|B_ ⟨dF F.plain_list_iadd _,dD F.entry_list_iadd ?_⟩);rw[bS F.plain_list_iadd _];generalize g:s.heap.objs.size=S;generalize n:s.heap.push {cls:=.type "list",data:=.seq ([]:oA lP).toArray}=h1;have I:∀b o,s.heap.get? b=some o->h1.get? b=some o:=λb o e=>by subst n;exact DD _ e
 have J:h1.get? S=some {cls:=.type "list",data:=.seq ([]:oA lP).toArray}:=by subst n;subst g;exact H_ _ rfl
 have y:S≠a:=dI<|T_<|g ▸ T;have Z:Builtin.List.listSameRef (.ref S) (.ref a)=false:=by simp[Builtin.List.listSameRef,y]
 have p:D9 h1 a es ep t:=D.at λo e=>I a o e;refine(show wpAny _ A.in1 (Builtin.List.listExtendWith (.ref S) (.ref a)<|.ref S) _ _ {s with heap:=h1} from ?_);unfold Builtin.List.listExtendWith;refine A_ (fG (D9.typeIs (s:={s with heap:=h1}) p)<|jZ (λC=>absurd C<|by rw[Z];decide) λ_=>?_);refine A_<|Rx (s:={s with heap:=h1}) p hz λd h2 r first ord Y u hI x et=>?_;refine A_<|bB<|Z1 (s:={s with heap:=h2,drawn:=r}) (D9.typeIs (s:={s with heap:=h2,drawn:=r})<|p.at λo e=>u a o e) ?_;refine jZ (λ_=>?_) λC=>absurd (by decide) C;have B:h2.get? S=some {cls:=.type "list",data:=.seq ([]:oA lP).toArray}:=u S _ J;refine A_<|cV<|A_<|show wpAny _ _ (updateSeq S (·.push .none)>>=λ_=>updateSeq S (·.pop)) _ _ _ from A_<|gU B rfl<|gU (aG (Obj.mapSeq (·.push Value.none)) B rfl) rfl ?_;have O:=aG (Obj.mapSeq (·.pop)) (aG (Obj.mapSeq (·.push Value.none)) B rfl) rfl;have m:∀b o,b≠S->h2.get? b=some o->((h2.update S<|Obj.mapSeq (·.push Value.none)).update S<|Obj.mapSeq (·.pop)).get? b=some o:=λb o hb e=>(bC _ _<|dI hb).trans<|(bC _ _<|dI hb).trans e;generalize ((h2.update S<|Obj.mapSeq (·.push Value.none)).update S<|Obj.mapSeq (·.pop))=h4 at O m ⊢;have N:S<h1.objs.size:=J_ J;have H:h1.objs.size<=d:=Y;have R:S≠d:=by intro z;subst z;omega
 have na:a≠d:=T_<|eV (g ▸ T)<|Y_ N H;obtain⟨j,U,f⟩:∃j:oA lT,(∀c,first=.ref c->c∈j)/\∀c∈j,h1.objs.size<=c/\c≠d:=by
  by_cases k:∃c,first=.ref c
  ·obtain⟨c,k⟩:=k;exact⟨[c],λq hq=>by rw[k]at hq;cases hq;simp,λq hq=>by rw[O_]at hq;subst hq;exact et q k⟩
  ·exact⟨[],λq hq=>absurd ⟨q,hq⟩ k,λ_ hq=>nomatch hq⟩
 have M:ord.length=es.size:=by rw[x.perm.length_eq];simp
 have W:=Ws (prog:=prog) (A:=A.in1) X (es:=es) (ep:=ep) (ord:=ord) j V na (λz=>(f d z).2 rfl) M;have js:S∉d::a::j:=by simp only[List.mem_cons,not_or];exact⟨R,y,λz=>by have:=(f S z).1;omega⟩
 refine B_ ⟨dF F.plain_extend_loop _,codeAny_extend_loopS W.toS (K_ hz<|by decide) S js (.ref S) es.size 0 {s with heap:=h4,drawn:=r} #[] _ rfl (aE _) ?_ O (ItemsOf.nil _) λL a7 c' P G bn=>?_⟩
 ·refine⟨p.at λo e=>m a o (dI y)<|u a o e,first,hI.at λo e=>m d o (dI R) e,x.at λc z o e=>m c o (λq=>?_) e,U⟩;have:=(f c<|U c z).1;subst q;omega
 ·rw[Moved.eq_with P];refine A_<|wpAny_load G<|B_ ?_;rw[Wu bn M];refine h L.heap r L.toks ord (λb o e=>P.heap b o ?_<|m b o ?_<|u b o<|I b o e) (cH ?_) x.perm
  ·have i:=J_ e;simp only[List.mem_cons,List.not_mem_nil,or_false,not_or];rw[g]at i;exact⟨T_ i,T_<|eV i<|Y_ N H⟩
  ·have i:=J_ e;rw[g]at i;exact T_ i
  ·rw[g];exact J_ G
def Ds:lP->Int
 |.int n _=>n
 |_=>0
def YG(v:lP):Prop:=∃n t,v=.int n t
theorem Pg:∀{a:oA lP},(∀v∈a,YG v)->IntsAre a (a.map Ds)
 |[],_=>.nil
 |v::a,h=>by obtain⟨n,t,rfl⟩:=h _ aV;exact .cons n t<|Pg λu hu=>h u<|aM _ hu
def GQ{k:Key}{n:Int}{t:Tok}(h:(Az prog w).is k (.int n t)=true):k=.inl n:=by
 rcases keyIs_shape (show Ih _ _=true from h) with⟨i,a,rfl,e⟩|⟨x,a,rfl,e⟩
 ·cases e;rfl
 ·cases e
def F4{l:oA<|Int×lP}{ns:oA Int}(f:ElemsOf (Az prog w) l)(c:Keys (Az prog w) l<|ns.map Sum.inl){e:Int×lP}(he:e∈l):∃n t,e.2=.int n t/\n∈ns:=by
 obtain⟨⟨k,hk,_⟩,_⟩:=f e he;have:=(c k).mp ⟨e,he,hk⟩;obtain⟨n,d,rfl⟩:=D_.mp this;rcases keyIs_shape (show Ih (Sum.inl n) e.2=true from hk) with⟨i,t,a,b⟩|⟨x,t,a,b⟩
 ·cases a;exact⟨n,t,b,d⟩
 ·cases a
end
end L2
namespace L2
open PySem PySem.Spec PyProof.Rows
section
variable {X:Cx}{aa:oA<|lT×l_}{σ:St}{H:Hp}{s:lQ}
def Inv.drw(I:Inv X aa σ H s)(d:Drawn):Inv X aa σ H {s with drawn:=d}:=⟨I.ok,I.os,I.bare,I.base,I.loc,I.cell,I.free,I.freeC,I.pin,I.hok,I.len⟩
theorem Hv{P:lV}{w:lW}:∀{ns:oA Int} {c:oA lP},Vals (ns.map V.int) c->ItemsAre (Az P w) (ns.map Sum.inl) c/\∀v∈c,v.scannable=true
 |[],_,h=>by cases h;exact⟨.nil,λ_ h=>nomatch h⟩
 |n::ns,_,h=>by
  cases h with
  |cons h1 h2=>
   obtain⟨t,rfl⟩:=h1;obtain⟨a,b⟩:=Hv (P:=P) (w:=w) h2;refine⟨.cons (Cl _ _ _ _) a,λv hv=>?_⟩;rcases aB.mp hv with rfl|hv
   ·rfl
   ·exact b v hv
theorem Ph:∀{a:oA lP},(∀v∈a,YG v)->Vals ((a.map Ds).map V.int) a
 |[],_=>.nil
 |v::a,h=>by obtain⟨n,t,rfl⟩:=h _ aV;exact .cons ⟨t,rfl⟩<|Ph λu hu=>h u<|aM _ hu
theorem Ud{K:lU}{H:Hp}:∀(ns:oA Int),Ax K H (ns.map λn=>AV.D<|.int n) (ns.map V.int)
 |[]=>.nil
 |_::ns=>.cons Ci<|Ud ns
end
noncomputable instance decPD:DecidableEq lR:=λa b=>Classical.propDecidable (a=b)
mutual
def Hw:lR->Nat
 |.tuple a=>C1 a+1
 |_=>1
def C1:oA lR->Nat
 |[]=>0
 |d::a=>Hw d+C1 a
end
theorem Kg(w:lW):∀(a b:oA lR),De w (a++b)=De w a++De w b
 |[],b=>rfl
 |x::a,b=>by simp only[List.cons_append,De,Kg w a b]
theorem Ir:∀(a b:oA lR),C1 (a++b)=C1 a+C1 b
 |[],b=>by simp[C1]
 |x::a,b=>by simp only[List.cons_append,C1,Ir a b];exact(jO _ _ _).symm
section
variable {prog:lV}{w:lW}
def GR:∀(n:Nat) (d:lR) (u:lP) (as:oA lT) (A:lY) (E:lP->lQ->Prop) (s:lQ) (Q:Int->lQ->Prop),d.depth<=n->Cano d=true->Reads s.heap u d as->A.units+n<cLine->Q (Be w d) {s with toks:=s.toks+Hw d} ->
  qU prog w A (pyHash u) Q E s:=by
 intro n
 induction n with
 |zero=>
  intro d u as A E s Q J hc f hu h;cases f with
  |int i t=>exact(Az prog w).pyHash (Cl _ _ _ _) h
  |str x t=>exact(Az prog w).pyHash (Fs _ _ _ _) h
  |tuple l a2 r q=>simp[PyData.depth]at J
  |none=>simp[Cano]at hc
  |bool b=>simp[Cano]at hc
  |list l a2 r q=>simp[Cano]at hc
  |dict l a2 r q P=>simp[Cano]at hc
 |succ n R=>
  intro d u as A E s Q J hc f hu h;cases f with
  |int i t=>exact(Az prog w).pyHash (Cl _ _ _ _) h
  |str x t=>exact(Az prog w).pyHash (Fs _ _ _ _) h
  |none=>simp[Cano]at hc
  |bool b=>simp[Cano]at hc
  |list l a2 r q=>simp[Cano]at hc
  |dict l a2 r q P=>simp[Cano]at hc
  |@tuple a o items m y as M g I T=>
   have p:s.TypeIs (.ref a) "tuple" := ⟨o,M,g⟩;have S:PyData.depthAll y<=n:=by simp only[PyData.depth]at J;omega
   have U:A6 y=true:=hc;unfold pyHash
   first|unfold pyHashByItsType|skip
   first|refine A_ (wpAny_cRoomFor_or (.inr<|by omega) ?_)|skip
   refine A_<|dM p F.slot_tuple_hash.lookup<|show wpAny _ _ (if(some (Value.builtin "tuple.__hash__")==some Value.none)=true then _ else _) Q E s from ?_;rw[I_<|by rw[beq_builtin_none];exact Q_];refine A_<|dM p F.slot_tuple_hash.lookup<|show wpAny _ _ (callSpecialIfBoundUnlessNone? (.ref a) "__hash__" _>>=_) Q E s from ?_;refine A_<|wpAny_callSpecialIfBoundUnlessNone?_slot p F.slot_tuple_hash<|aU F.slot_tuple_hash p F.entry_tuple_hash (show wpAny _ _ (Builtin.Tuple.tupleItemsOf (.ref a)>>=_) _ _ s from ?_)<|F.args_tuple_hash_1 _;refine A_<|kI M I<|A_ ?_;rw[<- iN];refine gJ _ (λrest (b:oC Int) D=>∃c e H,y=c++e/\ReadsAll s.heap rest e H/\A6 e=true/\PyData.depthAll e<=n/\b.toList=De w c/\D={s with toks:=s.toks+C1 c}) _ ?_ ?_ _ _ ⟨[],y,as,rfl,T,U,S,rfl,rfl⟩
   ·rintro x rest b D ⟨c,e,H,rfl,z,g,N,hb,rfl⟩;cases z with
    |@cons _ _ d j G B h1 O=>
     simp only[A6,Bool.and_eq_true]at g;simp only[PyData.depthAll]at N;refine A_ (R d x G A.in1 _ {s with toks:=s.toks+C1 c} _ (by omega) g.1 h1 (by show A.units+1+n<_;omega) ?_);have k:∃L v C,c++d::j=L++v/\ReadsAll s.heap rest v C/\A6 v=true/\PyData.depthAll v<=n/\(b.push<|Be w d).toList=De w L/\({s with toks:=s.toks+C1 c+Hw d}:lQ)={s with toks:=s.toks+C1 L} :=
      ⟨c++[d],j,B,by simp,O,g.2,by omega,by simp[hb,Kg,De],by simp[Ir,C1,Nat.add_assoc]⟩
     first
      |exact B_ k
      |exact A_<|B_<|B_ k
   ·rintro b D ⟨c,e,H,rfl,z,g,N,hb,rfl⟩;cases z;rw[cB]at h;simp only[Be,Hw]at h;refine(show wpAny _ _ (retInt<|Builtin.Tuple.tupleHashOf b.toList) _ _ _ from ?_);rw[hb];refine wpAny_ret_mkInt<|show wpAny _ _ (if(decide (-(2:Int)^63<=Builtin.Tuple.tupleHashOf (De w c))&&decide (Builtin.Tuple.tupleHashOf (De w c)<2^63))=true then _ else _) Q E _ from ?_;unfold reduceHash at h;by_cases f:(decide (-(2:Int)^63<=Builtin.Tuple.tupleHashOf (De w c))&&decide (Builtin.Tuple.tupleHashOf (De w c)<2^63))=true
    ·rw[N_ f]at h ⊢;exact B_<|by simpa [Nat.add_assoc] using h
    ·rw[I_ f]at h ⊢;exact A_<|cV<|B_<|by simpa [Nat.add_assoc] using h
def Kh:∀(n q:Nat) (d:lR) (u:lP) (as:oA lT) (A:lY) (E:lP->lQ->Prop) (s:lQ) (Q:Bool->lQ->Prop),d.depth<=n->n<q->Cano d=true->Reads s.heap u d as->Q true s->qU prog w A (eqIsQuiet q u) Q E s:=by
 intro n
 induction n with
 |zero=>
  intro q d u as A E s Q D hq hc c h;cases c with
  |int i t=>rw[jA _ rfl];exact B_ h
  |str x t=>rw[jA _ rfl];exact B_ h
  |tuple f a2 l j=>simp[PyData.depth]at D
  |none=>simp[Cano]at hc
  |bool b=>simp[Cano]at hc
  |list f a2 l j=>simp[Cano]at hc
  |dict f a2 l j N=>simp[Cano]at hc
 |succ n O=>
  intro q d u as A E s Q D hq hc c h;cases c with
  |int i t=>rw[jA _ rfl];exact B_ h
  |str x t=>rw[jA _ rfl];exact B_ h
  |none=>simp[Cano]at hc
  |bool b=>simp[Cano]at hc
  |list f a2 l j=>simp[Cano]at hc
  |dict f a2 l j N=>simp[Cano]at hc
  |@tuple a o items m G as H e B S=>
   have I:s.TypeIs (.ref a) "tuple" := ⟨o,H,e⟩;have R:PyData.depthAll G<=n:=by simp only[PyData.depth]at D;omega
   have T:A6 G=true:=hc;obtain⟨C,rfl⟩:∃C,q=C+1:=⟨q-1,by omega⟩;unfold eqIsQuiet;refine A_<|dM I F.slot_tuple_eq.lookup<|show wpAny _ _ (isInstance (.ref a) (.type "tuple")>>=_) _ _ s from A_<|bT I isSubtype_tuple_tuple ?_;simp only[Bool.not_true,Bool.false_eq_true,if_false];refine A_<|eX H B<|A_<|show wpAny _ _ (forIn items _ _) _ _ s from ?_;rw[<- iN];refine gJ _ (λrest r k=>r.1=none/\k=s/\∃g J,ReadsAll s.heap rest g J/\A6 g=true/\PyData.depthAll g<=n) _ ?_ ?_ _ _ ⟨rfl,rfl,G,as,S,T,R⟩
   ·rintro v rest r k ⟨c,rfl,g,J,L,e,P⟩;cases L with
    |@cons _ _ d y z p h1 M=>simp only[A6,Bool.and_eq_true]at e;simp only[PyData.depthAll]at P;refine A_ (O C d v z A _ k _ (by omega) (by omega) e.1 h1 ?_);simp only[Bool.not_true,Bool.false_eq_true,if_false];exact B_ ⟨rfl,rfl,y,p,M,e.2,by omega⟩
   ·rintro⟨V,U⟩ k ⟨c,rfl,_⟩;simp only at c;subst c;exact B_ h
mutual
theorem Mf{h:lZ}:∀{v:lP} {d e:lR} {as n:oA lT},Reads h v d as->Reads h v e n->Cano d=true->Cano e=true->d=e
 |_,_,_,_,_,.int i t,r,_,_=>by cases r;rfl
 |_,_,_,_,_,.str x t,r,_,_=>by cases r;rfl
 |_,_,_,_,_,.tuple g a2 k j,r,hc,a=>by
  cases r with
  |tuple f m c l=>rw[g]at f;cases f;rw[k]at c;cases c;rw[Hd j l hc a]
  |list f m c l=>simp[Cano]at a
  |dict f m c l p=>simp[Cano]at a
 |_,_,_,_,_,.none,_,hc,_=>by simp[Cano]at hc
 |_,_,_,_,_,.bool b,_,hc,_=>by simp[Cano]at hc
 |_,_,_,_,_,.list g a2 k j,_,hc,_=>by simp[Cano]at hc
 |_,_,_,_,_,.dict g a2 k j o,_,hc,_=>by simp[Cano]at hc
theorem Hd{h:lZ}:∀{b:oA lP} {ds es:oA lR} {as e:oA lT},ReadsAll h b ds as->ReadsAll h b es e->A6 ds=true->A6 es=true->ds=es
 |_,_,_,_,_,.nil,r,_,_=>by cases r;rfl
 |_,_,_,_,_,.cons g c,r,hc,a=>by
  cases r with
  |cons d f=>simp only[A6,Bool.and_eq_true]at hc a;rw[Mf g d hc.1 a.1,Hd c f hc.2 a.2]
end
mutual
theorem Hx{h h':lZ}{p:lT}(hk:∀b o,b≠p->h.get? b=some o->h'.get? b=some o)(hp:∀o f n,h.get? p=some o->o.data≠.seq f n):∀{v:lP} {d:lR} {as:oA lT},Reads h v d as->Cano d=true->Reads h' v d as
 |_,_,_,.int i t,_=>.int i t
 |_,_,_,.str x t,_=>.str x t
 |_,_,_,.tuple a a2 c e,hc=>.tuple (hk _ _ (λz=>by subst z;exact hp _ _ _ a c) a) a2 c (He hk hp e hc)
 |_,_,_,.none,hc=>by simp[Cano]at hc
 |_,_,_,.bool b,hc=>by simp[Cano]at hc
 |_,_,_,.list a a2 c e,hc=>by simp[Cano]at hc
 |_,_,_,.dict a a2 c e g,hc=>by simp[Cano]at hc
theorem He{h h':lZ}{p:lT}(hk:∀b o,b≠p->h.get? b=some o->h'.get? b=some o)(hp:∀o a n,h.get? p=some o->o.data≠.seq a n):∀{a:oA lP} {ds:oA lR} {as:oA lT},ReadsAll h a ds as->A6 ds=true->ReadsAll h' a ds as
 |_,_,_,.nil,_=>.nil
 |_,_,_,.cons d c,hc=>by simp only[A6,Bool.and_eq_true]at hc;exact .cons (Hx hk hp d hc.1)<|He hk hp c hc.2
end
def Ue{x y:lR}(hx:Cano x=true)(hy:Cano y=true):PyData.eqv x y=decide (x=y):=by
 by_cases h:x=y
 ·subst h;rw[J5 x hx,aZ rfl]
 ·rw[aS h];exact(NR hx hy).mpr h
variable(prog w) in
noncomputable def Ea:HeapKind prog w lR where
 is:=λh d a=>KeyTree d/\∃c,Reads h (.ref a) d c
 hash:=Be w
 draws:=Hw
 room:=λA=>A.units+6<cLine
 inj:=λ⟨f,_,i⟩ ⟨g,_,j⟩=>Mf i j f.can g.can
 keeps:=λ⟨k,c,r⟩ ho hd hs=>⟨k,c,Hx (λb o hb e=>(hs.2 b hb).trans e) (λl m n e q=>by rw[ho]at e;cases e;rw[hd]at q;cases q) r k.can⟩
 pyHash:=λhu ⟨k,c,r⟩ h=>GR 6 _ _ c _ _ _ _ k.dep k.can r hu h
 eqBool:=λhu ⟨f,c,i⟩ ⟨g,p,j⟩ h=>jK _ _ _ _ _ _ _ _ i j f.lay g.lay (by have:=f.dep;omega) _ _ _ _ (by rw[Ue f.can g.can];exact h)
 quiet:=λ⟨k,c,r⟩ h=>Kh 6 8 _ _ c _ _ _ _ k.dep (by decide) k.can r h
end
section
variable {X:Cx}{aa:oA<|lT×l_}{σ:St}{H:Hp}{s:lQ}{a:lT}{e:lX}{te:AE}{τ:ASt}{μ:M}{o i value:lX}{pos bp:Pos}{td ty tv:AE}
def VE.run{f:AV->M->Prop}(he:VE X e te)(I:Inv X aa σ H s)(hs:Dv X.K H τ σ)(hc:Cn X.K μ H)(h:te τ μ f) :
  qU X.prog X.w X.A (eval e X.env) (λu k=>∃x v b d,Inv X aa σ d k/\Ba v u/\Kp H d/\Cn X.K b d/\RelA X.K d x v/\f x b) X.xe s :=
 bD (he aa s σ H (λv d=>∃x b,Kp H d/\Cn X.K b d/\RelA X.K d x v/\f x b) I ⟨τ,μ,f,hs,hc,h,λx b v d S c r q=>⟨x,b,S,c,r,q⟩⟩)
  (λ_ _ z=>by obtain⟨v,d,j,g,x,b,S,c,r,q⟩:=z;exact⟨x,v,b,d,j,g,S,c,r,q⟩) λ_ _ e=>e
def Ef.mem{K:lU}{H:Hp}{kvs:oA<|lR×AV}{xs:oA<|lR×lT×lP}(h:Ef K H kvs xs):∀x∈xs,KeyTree x.1/\Dk K H x.1 (.ref x.2.1):=by
 unfold Ef at h
 induction h with
 |nil=>exact λ_ h=>nomatch h
 |@cons p q f c r t b=>
  intro x hx;rcases aB.mp hx with rfl|hx
  ·obtain⟨e,k,d,_⟩:=r;rw[<- e];exact⟨k,d⟩
  ·exact b x hx
def Z6{kvs:oA<|lR×AV}{xs:oA<|lR×lT×lP}(I:Inv X aa σ H s)(e:H a=some (.dd xs))(r:Ef X.K H kvs xs):(a==sysModules)=false/\xs.length<=sizeLine/\s.heap.DictOfH (Ea X.prog X.w) a xs:=by obtain⟨o,j,g,h1,h2,l,f,b,c,h⟩:=(show Bg X.prog X.w H s.heap a (.dd xs) from I.hok a _ e);refine⟨c,h,o,j,g,h1,h2,l,f,λx hx=>?_,b⟩;obtain⟨k,d⟩:=r.mem x hx;exact⟨k,Dk.reads I _ _ _ d rfl⟩
def Ef.val{K:lU}{H:Hp}{kvs:oA<|lR×AV}{xs:oA<|lR×lT×lP}(h:Ef K H kvs xs)(d:lR):match Bu kvs d with|some x=>∃p v,atKey xs d=some p/\RelA K H x v/\Ba v p.2|none=>atKey xs d=none:=by
 unfold Ef at h
 induction h with
 |nil=>exact rfl
 |@cons p q u m r t b=>
  obtain⟨j,n⟩:=p;obtain⟨l,g⟩:=q;obtain⟨e,k,dk,v,f,c⟩:=r;dsimp only at e;subst e;unfold Bu atKey at b ⊢;by_cases hk:j=d
  ·simp only[List.find?_cons,decide_eq_true hk];exact⟨g,v,rfl,f,c⟩
  ·simp only[List.find?_cons,decide_eq_false hk];exact b
def Ef.len{K:lU}{H:Hp}{kvs:oA<|lR×AV}{xs:oA<|lR×lT×lP}(h:Ef K H kvs xs):kvs.length=xs.length:=bM h
theorem Ef.any{K:lU}{H:Hp}{kvs:oA<|lR×AV}{xs:oA<|lR×lT×lP}(h:Ef K H kvs xs)(d:lR):(kvs.any λf=>decide (f.1=d))=(atKey xs d).isSome:=by
 unfold Ef at h
 induction h with
 |nil=>rfl
 |@cons p q m j r t g=>
  obtain⟨b,k⟩:=p;obtain⟨c,l⟩:=q;have e:b=c:=r.1;subst e;rw[dX,g];unfold atKey;by_cases hk:b=d
  ·simp only[List.find?_cons,decide_eq_true hk,Bool.true_or];rfl
  ·simp only[List.find?_cons,decide_eq_false hk,Bool.false_or]
def Ef.put{K:lU}{H:Hp}{kvs:oA<|lR×AV}{xs:oA<|lR×lT×lP}(h:Ef K H kvs xs){d:lR}{b:lT}{x:AV}{v:V}{u:lP}(k:KeyTree d)(dk:Dk K H d<|.ref b)(l:RelA K H x v)(n:Ba v u):Ef K H (Dr kvs d x) (storedH xs d b u):=by
 have z:Ef K H (kvs.map λf=>if f.1=d then(f.1,x) else f) (xs.map<|putAt d u):=by
  unfold Ef at h ⊢
  induction h with
  |nil=>exact .nil
  |@cons p q B A r t w=>
   refine .cons ?_ w;obtain⟨e,m,c,y,j,g⟩:=r;unfold putAt;dsimp only;by_cases hk:p.1=d
   ·rw[N_ hk,N_<|e ▸ hk];exact⟨e,m,c,v,l,n⟩
   ·rw[I_ hk,I_<|e ▸ hk];exact⟨e,m,c,y,j,g⟩
 unfold Dr storedH;rw[h.any d];split
 ·exact z
 ·exact kQ h ⟨rfl,k,dk,v,l,n⟩
def JN{K:lU}{H:Hp}{kvs:oA<|lR×AV}{xs:oA<|lR×lT×lP}(h:Ef K H kvs xs):Ho K H (.dd kvs) (.dd xs):=⟨xs,rfl,h⟩
def Pi(xs:oA<|lR×lT×lP)(d:lR)(b:lT)(u:lP):(storedH xs d b u).length<=xs.length+1:=by
 unfold storedH;split
 ·simp
 ·simp
def NZ(td ty:AE):AE:=λτ μ R=>td τ μ λx d=>ty τ d λy b=>match x,y with
 |.R a,.D (.tuple f)=>opt (b a) λm=>match m with
  |.dd c=>KeyTree (.tuple f)/\opt (Bu c<|.tuple f) λv=>R v b
  |_=>False
 |_,_=>False
def JO(g:Bool->Bool)(ty td:AE):AE:=λτ μ R=>ty τ μ λy d=>td τ d λx b=>match x,y with
 |.R a,.D (.tuple f)=>opt (b a) λm=>match m with
  |.dd c=>KeyTree (.tuple f)/\R (.D<|.bool<|g (Bu c<|.tuple f).isSome) b
  |_=>False
 |_,_=>False
def OA(td ty tv:AE):AS:=λk _ _ _ τ μ=>tv τ μ λv f=>td τ f λx d=>ty τ d λy b=>match x,y with
 |.R a,.D (.tuple g)=>opt (b a) λm=>match m with
  |.dd c=>KeyTree (.tuple g)/\c.length<sizeLine/\k τ (Al b a<|.dd<|Dr c (.tuple g) v)
  |_=>False
 |_,_=>False
def OB:AE:=λ_ μ R=>∀p,μ p=none->R (.R p) (Al μ p<|.dd [])
def Z7(hu:X.A.units+7<cLine)(B:VE X o td)(V:VE X i ty)(hs:FE i:=by intro _ _;rfl):VE X (.Subscript o i pos) (NZ td ty):=by
 rintro aa s σ H Q I ⟨τ,μ,R,k,hc,h,hq⟩;refine Th PySem.F.slot_dict_getitem.lookup hs<|bD (B.run I k hc h) (λu s1 W=>Mx W λx v Z H1 E P l T t h1=>bD (V.run E (k.kp l) T h1) (λu2 s2 N=>Mx N λy v2 U j d f g c2 q h2=>?_) λ_ _ e=>e) λ_ _ e=>e;split at h2
 ·rename_i a ds;obtain⟨m,G,h2⟩:=A0 h2;split at h2
  ·rename_i S;obtain⟨r,h2⟩:=h2;obtain⟨z,L,h2⟩:=A0 h2;obtain⟨ob,Y,D⟩:=c2 _ _ G;obtain⟨xs,rfl,n⟩:=D;have O:=t.kp g;cases O;cases P;obtain⟨b,ws,rfl,hb,J⟩:=Dk.tup (K:=X.K) (H:=j) q;cases f;obtain⟨mf,hz,dd⟩:=Z6 d Y n;have hv:=n.val<|.tuple ds;rw[L]at hv;obtain⟨p,vv,hp,C,c⟩:=hv;refine⟨dd.typeIs,wpAny_getItem_heap (knd:=Ea X.prog X.w) (show X.A.units+1+6<cLine by omega) ⟨r,Dk.reads d _ _ _ q rfl⟩ dd hp ?_⟩;exact⟨vv,j,d.tok _,c,hq _ _ _ _ (l.trans g) c2 C h2⟩
  ·exact h2.elim
 ·exact h2.elim
def Z8{H':Hp}{h':lZ}{xs:oA<|lR×lT×lP}(c:(a==sysModules)=false)(hz:xs.length<=sizeLine)(dd:h'.DictOfH (Ea X.prog X.w) a xs):Bg X.prog X.w H' h' a (.dd xs):=by obtain⟨o,h,f,h1,h2,g,d,_,b⟩:=dd;exact⟨o,h,f,h1,h2,g,d,b,c,hz⟩
def Z9(hu:X.A.units+7<cLine)(N:VE X o td)(hi:VE X i ty)(hv:VE X value tv)(hs:swapsWith value (some<|.Subscript o i bp) pos.line X.env=pure false:=by rfl):VS X (.Assign [.Subscript o i bp] value pos) (OA td ty tv):=by
 rintro aa s σ H D I ⟨τ,μ,nk,nr,nb,nc,d,hc,h,hq⟩;refine wpAny_Assign_Subscript (bD (hv.run I d hc h) (λu s1 Z=>Mx Z λz v μ1 H1 I1 rv t Y rz h1=>bD (N.run I1 (d.kp t) Y h1) (λu2 s2 wk=>Mx wk λx v2 μ2 H2 U B p c2 rx h2=>bD (hi.run U (d.kp<|t.trans p) c2 h2) (λu3 s3 V=>Mx V λy v3 μ3 T r g C J n c=>?_) λ_ _ e=>e) λ_ _ e=>e) λ_ _ e=>e) hs;split at c
 ·rename_i a E;obtain⟨m,Q,c⟩:=A0 c;split at c
  ·rename_i W;obtain⟨G,ck,c⟩:=c;obtain⟨ob,f,P⟩:=J _ _ Q;obtain⟨l,rfl,k⟩:=P;have y4:=rx.kp C;cases y4;cases B;obtain⟨b,ws,rfl,hb,R⟩:=Dk.tup (K:=X.K) (H:=T) n;cases g;obtain⟨L,hz,dd⟩:=Z6 r f k;refine wpAny_setItem_heap (knd:=Ea X.prog X.w) (hsz:=hz) (show X.A.units+1+6<cLine by omega) ⟨G,Dk.reads r _ _ _ n rfl⟩ dd λO F j=>?_;have he:∃q,O.get? a=some q:=let⟨q,_,_,hq,_⟩:=F;⟨q,hq⟩
   have hl:(storedH l (.tuple E) b u).length<=sizeLine:=by have:=Pi l (.tuple E) b u;have:=k.len;omega
   have S:=t.trans<|p.trans<|C.trans<|Kp.put (o:=.dd<|storedH l (.tuple E) b u) f trivial;refine⟨σ,_,Gc r (by rw[f];exact True.intro) j he<|Z8 L hl F,hq.nx _ _ _ _ S (d.kp S) (J.put f trivial (JN<|k.put G n (rz.kp<|p.trans C) rv)) c⟩
  ·exact c.elim
 ·exact c.elim
def AB:VE X (.Dict [] [] pos) OB:=by rintro aa s σ H Q I ⟨τ,μ,R,d,hc,h,hq⟩;have b:=I.hok.fresh<|G_ s.heap.objs.size;have c:(s.heap.objs.size==sysModules)=false:=fF.mpr<|dI<|T_ I.big;refine lE ⟨.ref s.heap.objs.size,_,I.laid (a:=s.heap.objs.size) (o:=.dd []) (t':=s.toks) (λ_ _ q=>DD _ q) (G_ _)<|Z8 c (aE _)<|Heap.DictOfH.new s.heap,rfl,?_⟩;exact hq _ _ _ _ (Kp.new b _) (hc.new b<|JN (kvs:=[]) .nil) C7<|h _<|hc.none b
def GS(hu:X.A.units+7<cLine)(T:VE X i ty)(E:VE X o td):PC X .In i o (cE X.K<|JO (λb=>b) ty td):=by
 rintro aa s σ H Q I ⟨τ,μ,R,q,hc,h,hq⟩;refine bD (T.run I q hc h) (λu s1 W=>Mx W λy v Y H1 J O r P Z h1=>bD (E.run J (q.kp r) P h1) (λu2 s2 F=>Mx F λx v2 S n j k l c2 D h2=>?_) λ_ _ e=>e) λ_ _ e=>e;split at h2
 ·rename_i a g;obtain⟨m,L,h2⟩:=A0 h2;split at h2
  ·rename_i f;obtain⟨C,h2⟩:=h2;obtain⟨ob,V,G⟩:=c2 _ _ L;obtain⟨U,rfl,t⟩:=G;have d:=RelA.kp l Z;cases D;cases k;obtain⟨b,ws,rfl,hb,N⟩:=Dk.tup (K:=X.K) (H:=n) d;cases O;obtain⟨B,hz,dd⟩:=Z6 j V t;refine wpAny_in_heap (knd:=Ea X.prog X.w) (show X.A.units+1+6<cLine by omega) ⟨C,Dk.reads j _ _ _ d rfl⟩ B dd ?_;have hv:=t.val<|.tuple g;have e:(atKey U<|.tuple g).isSome=(Bu f<|.tuple g).isSome:=by
    cases c:Bu f (.tuple g) with
    |none=>rw[c]at hv;dsimp only at hv;rw[hv];rfl
    |some z=>rw[c]at hv;obtain⟨p,_,hp,_⟩:=hv;rw[hp];rfl
   rw[e];exact⟨.bl _,n,j.tok _,rfl,hq _ _ _ _ (r.trans l) c2 D4 h2⟩
  ·exact h2.elim
 ·exact h2.elim
def GT(hu:X.A.units+7<cLine)(c:VE X i ty)(d:VE X o td)(h1:behindInMarks .In o=false:=by rfl):VT X (.Compare i [.In] [o] pos) (L4<|JO (λb=>b) ty td):=(X0 (GS hu c d) h1).imp λ_ _ _ h=>E5 (λ_ _ _ q=>q) h
def hu7{A:lY}{k:Nat}(b:Room k A):A.units+7<cLine:=eL (gA (by decide:7<=64) _) b.units
def Qb2(l p:AE):AE:=λτ μ R=>l τ μ λx f=>p τ f λy c=>match x,y with
 |.R a,.R b=>opt (c a) λm=>opt (c b) λn=>match m,n with
  |.lst j,.lst k=>opt (dats j) λg=>opt (dats k) λh=>(g.length=h.length/\g.length<=1000)/\R (.D<|.tuple<|List.zipWith (λd e=>PyData.tuple [d,e]) g h) c
  |_,_=>False
 |_,_=>False
def Qcu:AC:=λc μ R=>match c with
 |[.D<|.bool b]=>R (.D<|.int<|if b then 1 else 0) μ
 |[.D<|.int i]=>R (.D<|.int i) μ
 |_=>False
def txts:oA AV->oB (oA Str)
 |[]=>some []
 |.D (.str z)::b=>(txts b).map (z::·)
 |_::_=>none
theorem Pj{K:lU}{H:Hp}:∀{xs:oA AV} {c:oA V} {b:oA Str},Ax K H xs c->txts xs=some b->c=b.map V.str
 |[],_,b,r,e=>by cases r;cases e;rfl
 |x::xs,_,b,r,e=>by
  cases r with
  |cons g d=>
   unfold txts at e;split at e
   ·rename_i h;cases h
   ·rename_i z k h;cases h;obtain⟨j,f,rfl⟩:=L_.mp e;cases RelA.str g;rw[Pj d f];rfl
   ·cases e
def JP:AV->AC:=λx c μ R=>match x,c with
 |.D (.str z),[.R p]=>opt (μ p) λm=>match m with
  |.lst d=>opt (txts d) λb=>(b.map (·.length)).sum+b.length*z.length<=16777216/\R (.D<|.str<|Txt.join z b) μ
  |_=>False
 |_,_=>False
def OC:VMt X "str.join" JP:=by
 intro aa s σ H x u v g Q I d r l;refine Fe l λa w μ R n k hc h hq=>?_;unfold JP at h;split at h
 ·obtain⟨m,q,h⟩:=A0 h;split at h
  ·obtain⟨j,t,h⟩:=A0 h;obtain⟨o,b,y,rfl,f⟩:=hc _ _ q;cases RelA.str n;cases k with
   |cons p c=>cases c;cases p;rw[Pj f t]at b;exact V6 aa s σ H _ _ v g Q I d r ⟨_,_,j,rfl,rfl,b,h.1,hq _ _ _ _ Kp.refl hc Jv h.2⟩
  ·exact h.elim
 ·exact h.elim
end
def lets(z:Str):Prop:=∀c∈z.cps.toList,97<=c/\c<=122
def Nn(a b:Str):(a++b).cps.toList=a.cps.toList++b.cps.toList:=by show(a.cps++b.cps).toList=_;simp
def Gf(z:Str):z.length=z.cps.toList.length:=by simp[Str.length]
def Hf{a b:Str}(ha:lets a)(hb:lets b):lets (a++b):=λc hc=>by
 rw[Nn]at hc;rcases S_.mp hc with h|h
 ·exact ha c h
 ·exact hb c h
def Pk{x:Str}{j:Int}(h0:0<=j)(h1:j<=(x.length:Int)):(Txt.slice x none<|some j).cps.toList=x.cps.toList.take j.toNat:=by have:=StrLaws.sliceText_to (x:=x) (j:=j) ⟨h0,by rw[<- Gf];exact h1⟩;show(StrLaws.sliceText x none<|some j).cps.toList=_;rw[this];simp
def OD:("" : Str).cps.toList=[]:=by decide +kernel
def Wv:∀{a:oA Str},(∀z∈a,lets z)->lets (Txt.join "" a):=λ{a} h=>by
 show lets (PySem.Builtin.Str.glued "" a);rw[StrLaws.glued_eq_join]
 induction a with
 |nil=>exact λc hc=>by simp[Str.join,Str.empty]at hc
 |cons x a b=>
  cases a with
  |nil=>exact h x aV
  |cons y a=>show lets (x ++ "" ++ Str.join "" (y::a));exact Hf (Hf (h x aV) λc hc=>by rw[OD]at hc;simp at hc)<|b λz hz=>h z<|aM _ hz
end L2
namespace L2
open PySem PySem.SetTable
theorem F5{a:Type} [DecidableEq a]:∀{xs ys:oA a},xs.Nodup->(∀x∈xs,x∈ys)->xs.length<=ys.length
 |[],_,_,_=>aE _
 |x::xs,ys,c,h=>by have b:=dL.mp c;have hx:=h x<|.head _;have:=F5 (ys:=ys.erase x) b.2 λz hz=>(List.mem_erase_of_ne<|by rintro rfl;exact b.1 hz).mpr<|h z<|.tail _ hz;rw[List.length_erase_of_mem hx]at this;have:0<ys.length:=jB hx;rw[aR];omega
def advM(mask:Nat)(p:Probe):Probe :=
 if p.more>0 then {p with j:=p.j+1,more:=p.more-1} else
 {p with j:=(leap mask p.i p.perturb).1,more:=runEnd mask (leap mask p.i p.perturb).1-(leap mask p.i p.perturb).1,i:=(leap mask p.i p.perturb).1,perturb:=(leap mask p.i p.perturb).2}
def GU(t:SetTable)(p:Probe):t.advance p=advM t.mask p:=rfl
def Ww(mask i perturb l:Nat):Probe:={j:=i+l,more:=runEnd mask i-i-l,i:=i,perturb:=perturb,dummy:=none}
def No(mask:Nat)(h:Int):Nat->Probe
 | 0=>Ww mask (bits h%(mask+1)) (bits h) 0
 |n+1=>advM mask<|No mask h n
def sq(mask:Nat)(h:Int)(n:Nat):Nat:=(No mask h n).j
def rn(mask:Nat)(h:Int):Nat->Nat×Nat
 | 0=>(bits h%(mask+1),bits h)
 |r+1=>leap mask (rn mask h r).1 (rn mask h r).2
def nr(mask:Nat)(h:Int):Nat->Nat
 | 0=>0
 |r+1=>nr mask h r+(runEnd mask (rn mask h r).1-(rn mask h r).1)+1
def OE(mask i:Nat):runEnd mask i-i<=9:=by unfold runEnd;split<;>omega
def AD(mask i:Nat):i<=runEnd mask i:=by unfold runEnd;split<;>omega
def Pl{mask i:Nat}(h:i<=mask):runEnd mask i<=mask:=by unfold runEnd;split<;>omega
theorem JQ(mask:Nat)(h:Int):∀r,nr mask h r<=10*r
 | 0=>G_ _
 |r+1=>by have:=JQ mask h r;have:=OE mask (rn mask h r).1;rw[nr];omega
def AF(mask:Nat)(h:Int):∀r,(rn mask h r).1<=mask
 | 0=>by have:=Nat.mod_lt (bits h)<|show 0<mask+1 from iB _;rw[rn];dsimp only;exact eF this
 |r+1=>by rw[rn,leap];have:=Nat.mod_lt ((rn mask h r).1*5+1+(rn mask h r).2 / 32)<|show 0<mask+1 from iB _;dsimp only;exact eF this
theorem Rz{mask:Nat}{h:Int}{n i a:Nat}(e:No mask h n=Ww mask i a 0):∀l,l<=runEnd mask i-i->No mask h (n+l)=Ww mask i a l
 | 0,_=>e
 |l+1,b=>by rw[<- jO,No,Rz e l<|iW b];unfold advM;rw[N_<|show(Ww mask i a l).more>0 by show _-l>0;omega];show Probe.mk _ _ _ _ _=Probe.mk _ _ _ _ _;congr 1
theorem Uf(mask:Nat)(h:Int):∀r,No mask h (nr mask h r)=Ww mask (rn mask h r).1 (rn mask h r).2 0
 | 0=>rfl
 |r+1=>by
  rw[nr,No,Rz (Uf mask h r) _<|G_ _];unfold advM;rw[I_<|show ¬(Ww mask (rn mask h r).1 (rn mask h r).2<|runEnd mask (rn mask h r).1-(rn mask h r).1).more>0 by show ¬(_-_-_>0);omega]
  rfl
def Hy{mask:Nat}{h:Int}{r l:Nat}(a:l<=runEnd mask (rn mask h r).1-(rn mask h r).1):sq mask h (nr mask h r+l)=(rn mask h r).1+l:=by unfold sq;rw[Rz (Uf mask h r) l a];rfl
theorem Hz(mask:Nat)(h:Int):∀n,(No mask h n).dummy=none
 | 0=>rfl
 |n+1=>by
  rw[No,advM];split
  ·exact Hz mask h n
  ·exact Hz mask h n
theorem JR(mask:Nat)(h:Int):∀r,(rn mask h r).2=bits h / 32^r
 | 0=>by rw[rn,Nat.pow_zero,Nat.div_one]
 |r+1=>by rw[rn,leap];dsimp only;rw[JR mask h r,Nat.div_div_eq_div_mul,Nat.pow_succ]
def GV(h:Int):bits h<2^64:=by unfold bits;have h1:=kK h (show(0:Int)<2^64 by decide);have h2:=Int.emod_nonneg h (show(2^64:Int)≠0 by decide);omega
def GW(mask:Nat)(h:Int)(r:Nat):(rn mask h<|13+r+1).1=((rn mask h<|13+r).1*5+1)%(mask+1):=by
 rw[rn,leap];dsimp only;have e:(rn mask h<|13+r).2=0:=by rw[JR];refine Nat.div_eq_of_lt<|Y_ (GV h) ?_;exact K_ (show 2^64<=32^13 by decide)<|Nat.pow_le_pow_right (by decide)<|cD _ _
 rw[e]
def cyc(mask:Nat)(i:Nat):Nat->Nat
 | 0=>i
 |b+1=>(cyc mask i b*5+1)%(mask+1)
theorem AH(mask:Nat)(h:Int):∀b,(rn mask h<|13+b).1=cyc mask (rn mask h 13).1 b
 | 0=>rfl
 |b+1=>by rw[<- jO,GW,AH mask h b];rfl
theorem Hg(mask i:Nat)(a:Nat):∀b,cyc mask (cyc mask i a) b=cyc mask i (a+b)
 | 0=>rfl
 |b+1=>by rw[cyc,Hg mask i a b];rfl
def Msk(mask:Nat):Prop:=mask=7\/mask=31\/mask=127\/mask=511\/mask=2047\/mask=8191
def orbit(mask:Nat):Nat->Nat->oA Nat
 | 0,_=>[]
 |n+1,i=>i::orbit mask n ((i*5+1)%(mask+1))
theorem Mh(mask:Nat):∀(n i x:Nat),x∈orbit mask n i->∃b,b<n/\cyc mask i b=x
 | 0,_,_,h=>by cases h
 |n+1,i,x,h=>by
  rcases aB.mp h with rfl|h
  ·exact⟨0,iB _,rfl⟩
  ·obtain⟨b,hb,e⟩:=Mh mask n _ x h;refine⟨b+1,Nat.add_lt_add_right hb 1,?_⟩;rw[show b+1=1+b from lN _ _,<- Hg];exact e
def Lm(mask:Nat):Nat->Nat->Nat->Nat
 | 0,_,a=>a
 |n+1,i,a=>Lm mask n ((i*5+1)%(mask+1))<|a ||| 1 <<< i
theorem orbB_mem(mask:Nat):∀(n i a x:Nat),(Lm mask n i a).testBit x=true->a.testBit x=true\/x∈orbit mask n i
 | 0,_,_,_,h=>.inl h
 |n+1,i,a,x,h=>by
  rcases orbB_mem mask n _ _ x h with h|h
  ·rw[kL,fB]at h;rcases h with h|h
   ·exact .inl h
   ·right
    rw[Nat.one_shiftLeft,Nat.testBit_two_pow]at h;exact aB.mpr<|.inl (aQ h).symm
  ·exact .inr<|aM _ h
def orbs:(Lm 7 8 0 0=2^8-1/\cyc 7 0 8=0)/\(Lm 31 32 0 0=2^32-1/\cyc 31 0 32=0)/\(Lm 127 128 0 0=2^128-1/\cyc 127 0 128=0)/\(Lm 511 512 0 0=2^512-1/\cyc 511 0 512=0)/\(Lm 2047 2048 0 0=2^2048-1/\cyc 2047 0 2048=0)/\(Lm 8191 8192 0 0=2^8192-1/\cyc 8191 0 8192=0):=by decide +kernel
def orb{mask:Nat}(b:Msk mask):Lm mask (mask+1) 0 0=2^(mask+1)-1/\cyc mask 0 (mask+1)=0:=by
 obtain⟨h1,h2,e,d,a,c⟩:=orbs;rcases b with rfl|rfl|rfl|rfl|rfl|rfl
 ·exact h1
 ·exact h2
 ·exact e
 ·exact d
 ·exact a
 ·exact c
def GX{mask:Nat}(g:Msk mask){i x:Nat}(j:i<=mask)(hx:x<=mask):∃b,b<=mask+1/\cyc mask i b=x:=by
 obtain⟨h1,h2⟩:=orb g;have d:∀y,y<=mask->∃b,b<mask+1/\cyc mask 0 b=y:=λy hy=>Mh mask _ 0 y (by
  have k:(Lm mask (mask+1) 0 0).testBit y=true:=by rw[h1,Nat.testBit_two_pow_sub_one];exact aZ (Nat.lt_succ_of_le hy)
  rcases orbB_mem mask _ _ _ y k with h|h
  ·rw[lH]at h;cases h
  ·exact h)
 obtain⟨a,ha,f⟩:=d i j;obtain⟨c,hc,e⟩:=d x hx;rcases bN c a with h|h
 ·refine⟨mask+1-a+c,by omega,?_⟩;rw[<- f,Hg,show a+(mask+1-a+c)=(mask+1)+c by omega,<- Hg,h2,e]
 ·refine⟨c-a,by omega,?_⟩;rw[<- f,Hg,show a+(c-a)=c from kA h,e]
def reach{mask:Nat}(a:Msk mask)(h:Int){x:Nat}(hx:x<=mask):∃r,r<=mask+14/\(rn mask h r).1=x:=by obtain⟨b,hb,e⟩:=GX a (AF mask h 13) hx;exact⟨13+b,by omega,by rw[AH,e]⟩
theorem JS(mask:Nat)(h:Int):∀n,∃r l,l<=runEnd mask (rn mask h r).1-(rn mask h r).1/\n=nr mask h r+l
 | 0=>⟨0,0,aE _,rfl⟩
 |n+1=>by
  obtain⟨r,l,a,rfl⟩:=JS mask h n;rcases bN l (runEnd mask (rn mask h r).1-(rn mask h r).1) with c|c
  ·exact⟨r,l+1,c,rfl⟩
  ·exact⟨r+1,0,aE _,by rw[nr];omega⟩
def Ug(mask:Nat)(h:Int)(n:Nat):sq mask h n<=mask:=by obtain⟨r,l,a,rfl⟩:=JS mask h n;rw[Hy a];have:=Pl<|AF mask h r;have:=AD mask (rn mask h r).1;omega
def R0{mask:Nat}(g:Msk mask)(h:Int)(a:Nat->Prop) [DecidablePred a]{x:Nat}(hx:x<=mask)(hn:¬a x):∃n,n<10*turns mask/\¬a (sq mask h n)/\∀m,m<n->a (sq mask h m):=by
 obtain⟨r,l,e⟩:=reach g h hx;have d:¬a (sq mask h<|nr mask h r):=by rw[show nr mask h r=nr mask h r+0 from rfl,Hy<|aE _,e];exact hn
 have h1:nr mask h r<10*turns mask:=by have:=JQ mask h r;unfold turns;omega
 generalize nr mask h r=k at d h1
 induction k using Nat.strongRecOn with
 |_ k j=>
  by_cases c:∀m,m<k->a (sq mask h m)
  ·exact⟨k,h1,d,c⟩
  ·have⟨m,b,f⟩:∃m,m<k/\¬a (sq mask h m):=by
    refine aT λz=>c λm i=>aT λy=>z ⟨m,i,y⟩
   exact j m b f<|eV b h1
theorem Uh{mask:Nat}(h:Int)(owner:oC<|oB Nat)(hs:owner.size=mask+1):∀(fuel r:Nat),(∃k,r<=k/\k<r+fuel/\owner.getD (rn mask h k).1 none=none)->(∀m,m<nr mask h r->(owner.getD (sq mask h m) none).isSome=true) ->
  ∃n,layClean.free mask owner fuel (rn mask h r).1 (rn mask h r).2=some (sq mask h n)/\owner.getD (sq mask h n) none=none/\∀m,m<n->(owner.getD (sq mask h m) none).isSome=true
 | 0,r,⟨k,h1,h2,_⟩,_=>by omega
 |fuel+1,r,hk,d=>by
  have a:∀j,j<=mask->owner.getD j (some 0)=owner.getD j none:=λj hj=>by simp only[Array.getD,show j<owner.size by omega,dite_true]
  have v:=AF mask h r;have s:=Pl v;have o:=AD mask (rn mask h r).1;rw[layClean.free];cases c:(List.range<|runEnd mask (rn mask h r).1+1-(rn mask h r).1).find? λk=>(owner.getD ((rn mask h r).1+k)<|some 0).isNone with
  |some k=>
   obtain⟨i,c2,p⟩:=List.find?_range_eq_some.mp c;have t:=bK.mp c2;refine⟨nr mask h r+k,?_,?_,λm f=>?_⟩
   ·rw[Hy<|by omega]
   ·rw[Hy<|by omega,<- a _ (by omega)];exact Option.isNone_iff_eq_none.mp i
   ·rcases bN m (nr mask h r) with z|z
    ·exact d m z
    ·have e:m=nr mask h r+(m-nr mask h r):=by omega
     rw[e,Hy<|by omega,<- a _ (by omega)];have:=p (m-nr mask h r) (by omega);cases q:owner.getD ((rn mask h r).1+(m-nr mask h r)) (some 0) with
     |none=>rw[q]at this;cases this
     |some _=>rfl
  |none=>
   have u:=List.find?_range_eq_none.mp c;have b:∀l,l<=runEnd mask (rn mask h r).1-(rn mask h r).1->(owner.getD ((rn mask h r).1+l) none).isSome=true:=λl w=>by
    have:=u l (by omega);rw[a _<|by omega]at this;cases q:owner.getD ((rn mask h r).1+l) none with
    |none=>rw[q]at this;cases this
    |some _=>rfl
   refine Uh h owner hs fuel (r+1) ?_ λm f=>?_
   ·obtain⟨k,h1,h2,g⟩:=hk;rcases iO h1 with rfl|h1
    ·have:=b 0<|aE _;rw[Nat.add_zero,g]at this;cases this
    ·exact⟨k,h1,by omega,g⟩
   ·rcases bN m (nr mask h r) with z|z
    ·exact d m z
    ·have e:m=nr mask h r+(m-nr mask h r):=by omega
     rw[nr]at f;rw[e,Hy<|by omega];exact b _<|by omega
structure Own(mask:Nat)(hs:oA Int)(owner:oC<|oB Nat)(k:Nat):Prop where
 size:owner.size=mask+1
 lt:∀j x,owner.getD j none=some x->x<k
 has:∀x,x<k->∃j,owner.getD j none=some x
 inj:∀j j' x,owner.getD j none=some x->owner.getD j' none=some x->j=j'
 path:∀j x h,owner.getD j none=some x->hs[x]?=some h->∃n,sq mask h n=j/\∀m,m<n->(owner.getD (sq mask h m) none).isSome=true
def AJ(o:oC<|oB Nat)(j:Nat)(v:oB Nat)(hj:j<o.size)(i:Nat):(o.setIfInBounds j v).getD i none=if i=j then v else o.getD i none:=by
 rw[cQ,cQ,dC];by_cases e:i=j
 ·subst e;rw[N_ rfl,N_ hj,N_ rfl];rfl
 ·rw[I_ λz=>e z.symm,I_ e]
def Ui{o:oC<|oB Nat}{j x:Nat}(h:o.getD j none=some x):j<o.size:=by
 rw[cQ]at h;cases c:o[j]? with
 |none=>rw[c]at h;cases h
 |some y=>exact(cZ.mp c).1
def AK{mask k:Nat}{hs:oA Int}{owner:oC<|oB Nat}(o:Own mask hs owner k)(hk:k<=mask):∃x,x<=mask/\owner.getD x none=none:=by
 refine aT λz=>?_;have f:∀j,j<=mask->∃x,owner.getD j none=some x:=λj hj=>by
  cases c:owner.getD j none with
  |none=>exact absurd ⟨j,hj,c⟩ z
  |some x=>exact⟨x,rfl⟩
 have h1:((List.range<|mask+1).map λj=>(owner.getD j none).getD 0).Nodup:=by rw[List.Nodup,eG];refine List.Pairwise.imp_of_mem (R:=(· < ·)) (λ{a b} ha hb nq e=>?_) gP;obtain⟨x,d⟩:=f a (by have:=bK.mp ha;exact eF this);obtain⟨y,g⟩:=f b (by have:=bK.mp hb;exact eF this);rw[d,g]at e;have h:x=y:=e;subst h;have:=o.inj a b x d g;omega
 have h2:=F5 (ys:=List.range k) h1 λy hy=>by obtain⟨j,hj,rfl⟩:=D_.mp hy;obtain⟨x,d⟩:=f j (by have:=bK.mp hj;exact eF this);rw[d];exact bK.mpr<|o.lt j x d
 rw[C_,dS,dS]at h2;omega
def AL{mask k:Nat}{hs:oA Int}{owner:oC<|oB Nat}{h:Int}(B:Msk mask)(o:Own mask hs owner k)(hk:k<=mask)(u:hs[k]?=some h):∃j,layClean.free mask owner (turns mask) (bits h%(mask+1)) (bits h)=some j/\Own mask hs (owner.setIfInBounds j<|some k) (k+1):=by
 obtain⟨x,hx,A⟩:=AK o hk;obtain⟨r,G,E⟩:=reach B h hx;obtain⟨n,z,w,D⟩:=Uh h owner o.size (turns mask) 0 ⟨r,aE _,by unfold turns;omega,by rw[E];exact A⟩ λm d=>absurd d<|iK _;have hj:sq mask h n<owner.size:=by have:=Ug mask h n;rw[o.size];exact Nat.lt_succ_of_le this
 have c:=AJ owner (sq mask h n) (some k) hj;refine⟨_,z,by rw[Array.size_setIfInBounds];exact o.size,λj y e=>?_,λy hy=>?_,λj q y a b=>?_,λj y g a b=>?_⟩
 ·rw[c]at e;split at e
  ·cases e;exact dN _
  ·have:=o.lt j y e;exact dA this
 ·rcases(show y<k\/y=k by omega) with h'|rfl
  ·obtain⟨j,l⟩:=o.has y h';refine⟨j,?_⟩;rw[c,I_<|by rintro rfl;rw[w]at l;cases l];exact l
  ·exact⟨_,by rw[c,N_ rfl]⟩
 ·rw[c]at a b;split at a
  ·rename_i f;split at b
   ·rename_i F;exact f.trans F.symm
   ·cases a;have:=o.lt _ _ b;omega
  ·split at b
   ·cases b;have:=o.lt _ _ a;omega
   ·exact o.inj j q y a b
 ·have p:∀i,(owner.getD i none).isSome=true->((owner.setIfInBounds (sq mask h n)<|some k).getD i none).isSome=true:=λi C=>by
   rw[c];split
   ·rfl
   ·exact C
  rw[c]at a;split at a
  ·rename_i f;cases a;rw[u]at b;cases b;exact⟨n,f.symm,λm d=>p _<|D m d⟩
  ·obtain⟨v,s,t⟩:=o.path j y g a b;exact⟨v,s,λm d=>p _<|t m d⟩
def GY(mask:Nat)(acc:oB<|oC (oB Nat)×Nat)(h:Int):oB (oC (oB Nat)×Nat):=do
 let(a,k) <- acc
 let j <- layClean.free mask a (turns mask) (bits h%(mask+1)) (bits h)
 pure (a.setIfInBounds j<|some k,k+1)
theorem Pm{mask:Nat}(c:Msk mask){hs:oA Int}(b:hs.length<=mask+1):∀(rest a:oA Int) (owner:oC<|oB Nat),hs=a++rest->Own mask hs owner a.length->∃d,rest.foldl (GY mask) (some (owner,a.length))=some (d,hs.length)/\Own mask hs d hs.length
 |[],a,owner,e,o=>by rw[cB]at e;subst e;exact⟨owner,rfl,o⟩
 |h::rest,a,owner,e,o=>by
  have hk:a.length<=mask:=by rw[e,R_,aR]at b;omega
  obtain⟨j,g,i⟩:=AL c o hk (h:=h) (by rw[e];simp);have f:GY mask (some (owner,a.length)) h=some (owner.setIfInBounds j<|some a.length,(a++[h]).length):=by
   unfold GY;simp only[Option.bind_eq_bind,Option.bind_some,g,List.length_append]
   rfl
  rw[fC,f];exact Pm c b rest (a++[h]) _ (by rw[e];simp)<|by rw[R_];exact i
def OF{mask:Nat}(g:Msk mask)(hs:oC Int)(c:hs.size<=mask+1):∃a,layClean mask hs=some a/\Own mask hs.toList a hs.size:=by
 have f:Own mask hs.toList (Array.replicate (mask+1) none) 0:=by
  have b:∀j,(Array.replicate (mask+1) (none:oB Nat)).getD j none=none:=λj=>by rw[cQ,Array.getElem?_replicate];split<;>rfl
  exact⟨by simp,λj x e=>(by rw[b]at e;cases e),λx hx=>absurd hx<|iK _,λj i x e=>(by rw[b]at e;cases e),λj x h e=>(by rw[b]at e;cases e)⟩
 obtain⟨a,e,o⟩:=Pm g (hs:=hs.toList) (by simpa using c) hs.toList [] _ rfl f;refine⟨a,?_,by simpa using o⟩;unfold layClean;rw[<- Array.foldl_toList];have d:List.foldl (GY mask) (some (Array.replicate (mask+1) none,0)) hs.toList=some (a,hs.toList.length):=e;exact(bR (Option.map (·.1)) d).trans rfl
structure TabQ(t:SetTable)(hs:oA Int):Prop where
 msk:Msk t.mask
 len:t.place.size=hs.length
 le:∀j∈t.place.toList,j<=t.mask
 path:∀z∈t.place.toList.zip hs,∃n,sq t.mask z.2 n=z.1/\∀m,m<n->sq t.mask z.2 m∈t.place.toList
def GZ{mask f mv:Nat}{led pl:Bool}(s:Msk mask)(hs:oC Int)(u:hs.size<=mask+1):∃t k,laid mask f mv led pl hs=some (t,k)/\t.mask=mask/\k.toList.Perm (List.range hs.size)/\TabQ t (k.toList.map λi=>hs.getD i 0):=by
 obtain⟨c,e,o⟩:=OF s hs u;have d:∀j x,(j,x)∈((List.range<|mask+1).filterMap λj=>(c.getD j none).map (j,·))↔c.getD j none=some x:=λj x=>by
  rw[iL];constructor
  ·rintro⟨a,ha,q⟩;obtain⟨y,l,H⟩:=L_.mp q;cases H;exact l
  ·intro q;refine⟨j,bK.mpr ?_,by rw[q];rfl⟩;have:=Ui q;rw[o.size]at this;exact this
 have hnd:((List.range<|mask+1).filterMap λj=>(c.getD j none).map (j,·)).Pairwise λp q=>p.2≠q.2:=by refine List.Pairwise.filterMap _ (R:=(· < ·)) (λa A v b hb I C=>?_) gP;obtain⟨z,hz,rfl⟩:=L_.mp hb;obtain⟨w,g,rfl⟩:=L_.mp C;intro q;have B:z=w:=q;subst B;have:=o.inj a A z hz g;omega
 refine⟨_,_,by unfold laid;rw[e];rfl,rfl,?_,?_⟩
 ·show(List.map (λp:Nat×Nat=>p.2) _).Perm _;refine(List.perm_ext_iff_of_nodup ?_ lI).mpr λx=>?_
  ·rw[List.Nodup,eG];exact hnd
  ·rw[D_,bK];constructor
   ·rintro⟨⟨j,y⟩,hy,rfl⟩;exact o.lt j y<|(d j y).mp hy
   ·intro hx;obtain⟨j,F⟩:=o.has x hx;exact⟨(j,x),(d j x).mpr F,rfl⟩
 ·refine⟨s,?_,λj hj=>?_,λz hz=>?_⟩
  ·show(List.map _ _).toArray.size=(List.map _<|List.map _ _).length;simp
  ·have h:j∈List.map (·.1) ((List.range<|mask+1).filterMap λj=>(c.getD j none).map (j,·)):=hj;obtain⟨⟨a,b⟩,q,rfl⟩:=D_.mp h;have:=Ui<|(d a b).mp q;rw[o.size]at this;show a<=mask;exact eF this
  ·have g:z∈List.zip (List.map (·.1)<|(List.range<|mask+1).filterMap λj=>(c.getD j none).map (j,·)) (List.map (λi=>hs.getD i 0)<|List.map (·.2)<|(List.range<|mask+1).filterMap λj=>(c.getD j none).map (j,·)):=hz;rw[X_,List.zip_map',D_]at g;obtain⟨⟨a,b⟩,q,rfl⟩:=g;have r:=(d a b).mp q;have hb:=o.lt a b r;obtain⟨n,D,E⟩:=o.path a b (hs.getD b 0) r (by rw[Z_,cQ,aH hb];rfl);refine⟨n,D,λm G=>?_⟩;obtain⟨y,l⟩:=eU.mp<|E m G;exact D_.mpr ⟨(_,y),(d _ y).mpr l,rfl⟩
def Eb{xs:oC Nat}(h:D7 xs){j k:Nat}(e:xs[k]?=some j):SetTable.below xs j=k:=by
 obtain⟨hk,f⟩:=cZ.mp e;obtain⟨h1,h2,a⟩:=E8 h j;have b:xs.getD k j=j:=by rw[cQ,e];rfl
 rcases kS (SetTable.below xs j) k with c|c|c
 ·have:=h.lt (d:=j) c hk;have:=a _ (G_ _)<|eV c hk;omega
 ·exact c
 ·have:=h2 k c;omega
def Uj{t:SetTable}{led:Bool}(h:TblOk t led){j:Nat}(hj:j∈t.place.toList):∃i,t.slot j=.live i/\t.place[i]?=some j:=by obtain⟨i,a⟩:=List.getElem?_of_mem hj;rw[Z_]at a;refine⟨i,?_,a⟩;unfold SetTable.slot;dsimp only;rw[Eb h.rise a,a];simp
def Pn{t:SetTable}{led:Bool}(h:TblOk t led){j:Nat}(hj:j∉t.place.toList):t.slot j=.empty:=by
 unfold SetTable.slot;dsimp only;rw[h.dum,J8,I_]
 ·rfl
 ·intro c;have a:t.place[SetTable.below t.place j]?=some j:=by simpa using c
  rw[<- Z_]at a;exact hj<|V_ a
theorem Ki{d c:Type}(a:d)(b:c):∀(p:Nat) (xs:oA d) (ys:oA c),xs.length=ys.length->(xs.take p++a::xs.drop p).zip (ys.take p++b::ys.drop p)=(xs.zip ys).take p++(a,b)::(xs.zip ys).drop p
 | 0,xs,ys,_=>by simp
 |p+1,[],[],_=>by simp
 |p+1,x::xs,y::ys,h=>by have:=Ki a b p xs ys (by simpa using h);simpa using this
 |_+1,[],_::_,h=>by simp at h
 |_+1,_::_,[],h=>by simp at h
def TabQ.put{t:SetTable}{led:Bool}{hs:oA Int}{h:Int}{n:Nat}(q:TabQ t hs)(T:TblOk t led)(i:∀m,m<n->sq t.mask h m∈t.place.toList):TabQ (t.put<|sq t.mask h n).1 (hs.take (SetTable.below t.place<|sq t.mask h n)++h::hs.drop (SetTable.below t.place<|sq t.mask h n)):=by
 have hp:SetTable.below t.place (sq t.mask h n)<=t.place.size:=(E8 T.rise _).1;have e:(t.put<|sq t.mask h n).1.place.toList=t.place.toList.take (SetTable.below t.place<|sq t.mask h n)++sq t.mask h n::t.place.toList.drop (SetTable.below t.place<|sq t.mask h n):=F2 _ _ _ hp;have k:(t.put<|sq t.mask h n).1.mask=t.mask:=rfl;have o:=q.len;have f:∀j,j∈t.place.toList->j∈(t.put<|sq t.mask h n).1.place.toList:=λj hj=>by
  rw[e];rw[<- jF (SetTable.below t.place<|sq t.mask h n) t.place.toList]at hj;rcases S_.mp hj with hj|hj
  ·exact aD _ hj
  ·exact aN _<|aM _ hj
 have l:∀j,j∈(t.put<|sq t.mask h n).1.place.toList->j=sq t.mask h n\/j∈t.place.toList:=λj hj=>by
  rw[e]at hj;rcases S_.mp hj with hj|hj
  ·exact .inr<|eY hj
  ·rcases aB.mp hj with hj|hj
   ·exact .inl hj
   ·exact .inr<|jS hj
 refine⟨q.msk,?_,λj hj=>?_,λz hz=>?_⟩
 ·rw[<- aF,e];simp only[List.length_append,List.length_cons,List.length_take,List.length_drop,Array.length_toList];omega
 ·rcases l j hj with rfl|hj
  ·exact Ug _ _ _
  ·exact q.le j hj
 ·rw[e,Ki _ _ _ _ _<|by rw[aF];exact o]at hz;rw[k];have g:z∈t.place.toList.zip hs->∃c,sq t.mask z.2 c=z.1/\∀m,m<c->sq t.mask z.2 m∈(t.put<|sq t.mask h n).1.place.toList:=λhz=>by
   obtain⟨c,a,b⟩:=q.path z hz;exact⟨c,a,λm d=>f _<|b m d⟩
  rcases S_.mp hz with hz|hz
  ·exact g<|eY hz
  ·rcases aB.mp hz with rfl|hz
   ·exact⟨n,rfl,λm d=>f _<|i m d⟩
   ·exact g<|jS hz
def AM{t:SetTable}{led:Bool}{hs:oA Int}(q:TabQ t hs)(T:TblOk t led)(a:hs.length<=t.mask):∃x,x<=t.mask/\x∉t.place.toList:=by refine aT λz=>?_;have:=F5 (ys:=t.place.toList) (lI (n:=t.mask+1)) λx hx=>aT λy=>z ⟨x,by have:=bK.mp hx;exact eF this,y⟩;rw[dS,aF,q.len]at this;omega
theorem probe_ok{t:SetTable}{led:Bool}(T:TblOk t led){hashAt:Nat->Int}{h:Int}{e:Nat}(he:sq t.mask h e∉t.place.toList)(hb:∀m,m<e->sq t.mask h m∈t.place.toList):∀(f n:Nat),n<=e->e<n+f ->
  (SetTable.probe.go t hashAt h f (No t.mask h n)=some (.empty (sq t.mask h e) none)/\∀m i,n<=m->m<e->t.place[i]?=some (sq t.mask h m)->hashAt i≠h) \/
  ∃k i,n<=k/\k<e/\t.place[i]?=some (sq t.mask h k)/\hashAt i=h/\SetTable.probe.go t hashAt h f (No t.mask h n)=some (.candidate (sq t.mask h k) i<|No t.mask h<|k+1)/\∀m i,n<=m->m<k->t.place[i]?=some (sq t.mask h m)->hashAt i≠h
 | 0,n,h1,h2=>by omega
 |f+1,n,h1,h2=>by
  rw[SetTable.probe.go];have q:∀{i i' j:Nat},t.place[i]?=some j->t.place[i']?=some j->i=i':=λa b=>(Eb T.rise a).symm.trans<|Eb T.rise b;rcases iO h1 with rfl|h1
  ·rw[show t.slot (No t.mask h n).j=.empty from Pn T he];dsimp only;rw[Hz];exact .inl ⟨rfl,λm i a b=>by omega⟩
  ·obtain⟨i,w,hp⟩:=Uj T<|hb n h1;rw[show t.slot (No t.mask h n).j=.live i from w];dsimp only;by_cases c:hashAt i=h
   ·rw[N_<|by simpa using c];exact .inr ⟨n,i,G_ _,h1,hp,c,rfl,λm i a b=>by omega⟩
   ·rw[I_<|by simpa using c,GU];have g:∀i',t.place[i']?=some (sq t.mask h n)->hashAt i'≠h:=λi' v=>by rw[q v hp];exact c
    rcases probe_ok T he hb f (n+1) h1 (by omega) with⟨a,b⟩|⟨k,i',r,a2,u,x,s,p⟩
    ·refine .inl ⟨a,λm i' m1 o d=>?_⟩;rcases iO m1 with rfl|m1
     ·exact g i' d
     ·exact b m i' m1 o d
    ·refine .inr ⟨k,i',iW r,a2,u,x,s,λm l m1 o d=>?_⟩;rcases iO m1 with rfl|m1
     ·exact g l d
     ·exact p m l m1 o d
end L2
namespace L2
open PySem
section
variable {prog:lV}{w:lW}{A:lY}{E:lP->lQ->Prop}{s:lQ}
def AN:∀(n q:Nat) (d:lR) (u:lP) (as:oA lT) (A:lY) (E:lP->lQ->Prop) (s:lQ) (Q:Bool->lQ->Prop),d.depth<=n->n<q->Cano d=true->Reads s.heap u d as->Q false s->qU prog w A (ofAClassStatement q u) Q E s:=by
 intro n
 induction n with
 |zero=>
  intro q d u as A E s Q D hq hc c h;cases c with
  |int i t=>unfold ofAClassStatement;exact B_ h
  |str x t=>unfold ofAClassStatement;exact B_ h
  |tuple f a2 l j=>simp[PyData.depth]at D
  |none=>simp[Cano]at hc
  |bool b=>simp[Cano]at hc
  |list f a2 l j=>simp[Cano]at hc
  |dict f a2 l j M=>simp[Cano]at hc
 |succ n N=>
  intro q d u as A E s Q D hq hc c h;cases c with
  |int i t=>unfold ofAClassStatement;exact B_ h
  |str x t=>unfold ofAClassStatement;exact B_ h
  |none=>simp[Cano]at hc
  |bool b=>simp[Cano]at hc
  |list f a2 l j=>simp[Cano]at hc
  |dict f a2 l j M=>simp[Cano]at hc
  |@tuple a o items m F as G e B R=>
   have L:s.TypeIs (.ref a) "tuple" := ⟨o,G,e⟩;have P:PyData.depthAll F<=n:=by simp only[PyData.depth]at D;omega
   have S:A6 F=true:=hc;obtain⟨C,rfl⟩:∃C,q=C+1:=⟨q-1,by omega⟩;unfold ofAClassStatement;refine A_<|fG L ?_;dsimp only;rw[N_ (by decide:("tuple" == "tuple")=true)];refine A_<|B_ ?_;simp only[Bool.not_true,Bool.false_eq_true,if_false];refine A_<|eX G B ?_;dsimp only;refine A_<|show wpAny _ _ (forIn items _ _) _ _ s from ?_;rw[<- iN];refine gJ _ (λrest r k=>r.1=none/\k=s/\∃g H,ReadsAll s.heap rest g H/\A6 g=true/\PyData.depthAll g<=n) _ ?_ ?_ _ _ ⟨rfl,rfl,F,as,R,S,P⟩
   ·rintro v rest r k ⟨c,rfl,g,H,I,e,O⟩;cases I with
    |@cons _ _ d y z p h1 J=>simp only[A6,Bool.and_eq_true]at e;simp only[PyData.depthAll]at O;refine A_ (N C d v z A _ k _ (by omega) (by omega) e.1 h1 ?_);simp only[Bool.false_eq_true,if_false];exact B_ ⟨rfl,rfl,y,p,J,e.2,by omega⟩
   ·rintro⟨U,T⟩ k ⟨c,rfl,_⟩;simp only at c;subst c;exact B_ h
def OG:∀(n q:Nat) (d:lR) (u:lP) (as:oA lT) (A:lY) (E:lP->lQ->Prop) (s:lQ) (Q:Bool->lQ->Prop),d.depth<=n->Cano d=true->Reads s.heap u d as->(∀b,Q b s)->qU prog w A (hashByValue q u) Q E s:=by
 intro n
 induction n with
 |zero=>
  intro q d u as A E s Q C hc c h;cases c with
  |int i t=>unfold hashByValue;exact B_ (h _)
  |str x t=>unfold hashByValue;exact B_ (h _)
  |tuple f a2 l j=>simp[PyData.depth]at C
  |none=>simp[Cano]at hc
  |bool b=>simp[Cano]at hc
  |list f a2 l j=>simp[Cano]at hc
  |dict f a2 l j M=>simp[Cano]at hc
 |succ n N=>
  intro q d u as A E s Q C hc c h;cases c with
  |int i t=>unfold hashByValue;exact B_ (h _)
  |str x t=>unfold hashByValue;exact B_ (h _)
  |none=>simp[Cano]at hc
  |bool b=>simp[Cano]at hc
  |list f a2 l j=>simp[Cano]at hc
  |dict f a2 l j M=>simp[Cano]at hc
  |@tuple a o items m D as G e B S=>
   have L:s.TypeIs (.ref a) "tuple" := ⟨o,G,e⟩;have R:PyData.depthAll D<=n:=by simp only[PyData.depth]at C;omega
   have T:A6 D=true:=hc;cases q with
   |zero=>unfold hashByValue;exact B_ (h _)
   |succ P=>
    unfold hashByValue;refine A_<|dM L F.slot_tuple_hash.lookup<|show wpAny _ _ (seqItems? (.ref a)>>=_) _ _ s from ?_;refine A_<|eX G B<|A_<|show wpAny _ _ (forIn items _ _) _ _ s from ?_;rw[<- iN];refine gJ _ (λrest r k=>r.1=none/\k=s/\∃g H,ReadsAll s.heap rest g H/\A6 g=true/\PyData.depthAll g<=n) _ ?_ ?_ _ _ ⟨rfl,rfl,D,as,S,T,R⟩
    ·rintro v rest r k ⟨c,rfl,g,H,I,e,O⟩;cases I with
     |@cons _ _ d y z p h1 J=>
      simp only[A6,Bool.and_eq_true]at e;simp only[PyData.depthAll]at O;refine A_ (N P d v z A _ k _ (by omega) e.1 h1 λb=>?_);cases b
      ·exact B_<|B_<|h _
      ·exact B_ ⟨rfl,rfl,y,p,J,e.2,by omega⟩
    ·rintro⟨V,U⟩ k ⟨c,rfl,_⟩;simp only at c;subst c;exact B_<|h _
def Cj(h:lZ)(d:lR)(b:lT):Prop:=KeyTree d/\∃a,Reads h (.ref b) d a
def HA{d:lR}{b:lT}(hx:Cj s.heap d b):∀{j:oA lP} {Q:Bool->lQ->Prop},(∀v∈j,∃e c,v=.ref c/\Cj s.heap e c)->Q false s->qU prog w A (searchCouldBeSeen (.ref b) j) Q E s:=by
 intro j Q hv h;obtain⟨g,n,k⟩:=hx;unfold searchCouldBeSeen;refine A_<|gJ _ (λrest r f=>r.1=none/\f=s/\∀v∈rest,∃e c,v=.ref c/\Cj s.heap e c) _ ?_ ?_ _ _ ⟨rfl,rfl,hv⟩
 ·rintro v rest ⟨q,p⟩ f ⟨i,rfl,hv'⟩;obtain⟨e,c,rfl,a,o,l⟩:=hv' v<|.head _;have m:∀v∈rest,∃e c,v=.ref c/\Cj f.heap e c:=λv h=>hv' v<|.tail _ h;dsimp only;split
  ·exact B_ ⟨rfl,rfl,m⟩
  ·refine A_ (Kh 6 8 _ _ n _ _ _ _ g.dep (by decide) g.can k ?_);simp only[Bool.not_true,Bool.false_eq_true,if_false];refine A_ (Kh 6 8 _ _ o _ _ _ _ a.dep (by decide) a.can l ?_);simp only[Bool.not_true,Bool.false_eq_true,if_false];refine A_ (AN 6 8 _ _ n _ _ _ _ g.dep (by decide) g.can k ?_);simp only[Bool.false_eq_true,if_false];refine A_ (AN 6 8 _ _ o _ _ _ _ a.dep (by decide) a.can l ?_);simp only[Bool.false_eq_true,if_false];exact B_ ⟨rfl,rfl,m⟩
 ·rintro⟨q,p⟩ f ⟨i,rfl,_⟩;simp only at i;subst i;exact B_ h
def Np(w:lW)(x:lR×lT):Int×lP:=(Be w x.1,.ref x.2)
def Fl(w:lW)(h:lZ)(a:lT)(xs:oA<|lR×lT)(led:Bool):Prop :=
 ∃o b c t,h.get? a=some o/\o.ExactSet/\o.data=.set b c t/\b.toList=xs.map (Np w)/\(∀x∈xs,Cj h x.1 x.2)/\t.fits b.size=true/\TblOk t led/\TabQ t (xs.map λx=>Be w x.1)/\xs.length*5<t.mask*3
def R3{t:SetTable}{f g:Nat->Int}{h:Int}{p:SetTable.Probe}(e:∀i,f i=g i):t.probe f h p=t.probe g h p:=by rw[funext e]
def HB{t:SetTable}{hs:oA Int}(q:TabQ t hs):t.gaveWay=false:=by unfold SetTable.gaveWay;rcases q.msk with h|h|h|h|h|h<;>rw[h]<;>decide
def HC{b:Type}{c:Prop} [Decidable c]{m1 a:Sem b}{Q:b->lQ->Prop}(h:qU prog w A a Q E s)(h1:qU prog w A a Q E s->qU prog w A m1 Q E s):qU prog w A (if c then m1 else a) Q E s:=by
 split
 ·exact h1 h
 ·exact h
def Wx{a:lT}{o:l_}{es:oC<|Int×lP}{ep:Nat}{t:SetTable}{xs:oA<|lR×lT}{led:Bool}{d:lR}{b:lT}{Q:SetFound->lQ->Prop}{p:Nat}(hu:A.units+6<cLine)(U:s.heap.get? a=some o)(hd:o.data=.set es ep t)(O:es.toList=xs.map (Np w))(W:∀x∈xs,Cj s.heap x.1 x.2)(Y:t.fits es.size=true)(u:TblOk t led)(F:TabQ t<|xs.map λx=>Be w x.1)(hx:Cj s.heap d b)
  (he:sq t.mask (Be w d) p∉t.place.toList) (hb:∀m,m<p->sq t.mask (Be w d) m∈t.place.toList) (fq:p<10*SetTable.turns t.mask)
  (h1:d∈xs.map (·.1)->Q (.there none) s) (h2:d∉xs.map (·.1)->Q (.free (sq t.mask (Be w d) p) false) s) :
  ∀(k n fuel:Nat) (B:oB SetTable.Probe),n+k=p->k<fuel->(B=some (No t.mask (Be w d) n)\/B=none/\n=0)->(∀(m i:Nat) (x:lR×lT),m<n->t.place[i]?=some (sq t.mask (Be w d) m)->xs[i]?=some x->x.1≠d) ->
   qU prog w A (setSearchFrom a (.ref b) (Be w d) true fuel B) Q E s:=by
 intro k
 induction k using Nat.strongRecOn with
 |_ k ih=>
 intro n fuel B hn hfu ay Z;obtain⟨fuel,rfl⟩:∃f,fuel=f+1:=⟨fuel-1,by omega⟩;have V:∀{i:Nat} {x:lR×lT},xs[i]?=some x->es[i]?=some (Np w x):=λ{i x} h=>by rw[<- Z_,O,M_,h];rfl
 have S:∀{i j:Nat},t.place[i]?=some j->∃x,xs[i]?=some x:=λ{i j} h=>by have l:=(cZ.mp h).1;have:=F.len;rw[C_]at this;exact⟨_,E_<|by omega⟩
 unfold setSearchFrom;refine A_<|bF U hd Y ?_;dsimp only;rw[HB F,I_ Q_];have N:B.getD (t.probeStart<|Be w d)=No t.mask (Be w d) n:=by
  rcases ay with rfl|⟨rfl,rfl⟩
  ·rfl
  ·rfl
 rw[N,R3 (g:=λi=>((xs.map λx=>Be w x.1)[i]?).getD 0) ?_]
 ·have T:=probe_ok (hashAt:=λi=>((xs.map λx=>Be w x.1)[i]?).getD 0) u he hb (10*SetTable.turns t.mask) n (by omega) (by omega);rcases T with⟨a1,a2⟩|⟨z,i,b1,b2,P,b4,b5,b6⟩
  ·rw[show t.probe (λi=>((xs.map λx=>Be w x.1)[i]?).getD 0) (Be w d) (No t.mask (Be w d) n)=_ from a1];dsimp only;refine B_<|h2 λdg=>?_;obtain⟨x,D,rfl⟩:=D_.mp dg;obtain⟨i,l⟩:=List.getElem?_of_mem D;have t9:i<t.place.size:=by
    have:=F.len;have:=(F_.mp l).1;rw[C_]at *;omega
   have r:t.place[i]?=some t.place[i]:=aH t9;obtain⟨C,J,X⟩:=F.path (t.place[i],Be w x.1)<|V_ (i:=i)<|by
    rw[List.getElem?_zip_eq_some];exact⟨by rw[Z_];exact r,by rw[M_,l];rfl⟩
   dsimp only at J X;have ck:C<p:=by
    rcases kS C p with c|c|c
    ·exact c
    ·subst c;rw[J]at he;exact absurd (by rw[<- Z_]at r;exact V_ r) he
    ·exact absurd (X p c) he
   rw[<- J]at r;rcases bN C n with c|c
   ·exact Z C i x c r l rfl
   ·exact a2 C i c ck r<|by rw[M_,l];rfl
  ·rw[show t.probe (λi=>((xs.map λx=>Be w x.1)[i]?).getD 0) (Be w d) (No t.mask (Be w d) n)=_ from b5];obtain⟨x,l⟩:=S P;have D:=V_ l;dsimp only;rw[V l];dsimp only[Np];refine HC ?_ λgo=>A_<|HA hx (λv hv=>?_)<|by rw[I_ Q_];exact go
   ·refine A_<|bB<|(Ea prog w).eqBool hu (W x D) hx ?_;refine A_<|bF U hd Y ?_;dsimp only;by_cases q:x.1=d
    ·rw[aZ q,N_<|by rfl];exact B_<|h1<|D_.mpr ⟨x,D,q⟩
    ·rw[aS q,I_<|by decide,show t.sameMemory t.moves t.mask=some true by unfold SetTable.sameMemory;rw[N_<|by simp]];dsimp only;obtain⟨i2,I,M⟩:=Uj u<|hb z b2;have jv:i2=i:=(Eb u.rise M).symm.trans<|Eb u.rise P;subst jv;rw[N_ rfl,I];dsimp only;rw[V l];dsimp only[Np];refine A_<|wpAny_isSame_ref_self<|A_<|B_ ?_;show wpAny _ _ (if false=true then _ else setSearchFrom a (.ref b) (Be w d) true fuel<|some<|No t.mask (Be w d)<|z+1) _ _ _;rw[I_ Q_];refine ih (p-(z+1)) (by omega) (z+1) fuel _ (by omega) (by omega) (.inl rfl) λm H y L R G=>?_;rcases bN m n with c|c
     ·exact Z m H y c R G
     ·rcases bN m z with c2|c2
      ·intro e5;refine b6 m H c c2 R ?_;rw[M_,G,<- e5];rfl
      ·have e6:m=z:=by omega
       subst e6;have e7:H=i2:=(Eb u.rise R).symm.trans<|Eb u.rise P;subst e7;rw[l]at G;cases G;exact q
   ·obtain⟨e,av,rfl⟩:=D_.mp hv;have L:=(Array.mem_filter.mp<|Array.mem_toList_iff.mp av).1;rw[<- Array.mem_toList_iff,O]at L;obtain⟨y,hy,rfl⟩:=D_.mp L;exact⟨y.1,y.2,rfl,W y hy⟩
 ·intro i;show(es[i]?.map (·.1)).getD 0=_;rw[<- Z_,O,M_,M_];cases xs[i]?<;>rfl
def Cj.but{h h':lZ}{p:lT}{d:lR}{b:lT}(x:Cj h d b)(hk:∀c o,c≠p->h.get? c=some o->h'.get? c=some o)(hp:∀o a n,h.get? p=some o->o.data≠.seq a n):Cj h' d b:=by obtain⟨k,e,r⟩:=x;exact⟨k,e,Hx hk hp r k.can⟩
def Kj{a:lT}{led:Bool}{h:lZ}{o:l_}{es:oC<|Int×lP}{ep:Nat}{t:SetTable}(i:h.get? a=some o)(l:o.ExactSet)(g:o.data=.set es ep t){b:oC<|Int×lP}{t':SetTable}{d:oA<|lR×lT}(k:b.toList=d.map (Np w))(v:∀x∈d,Cj h x.1 x.2)(r:t'.fits b.size=true)(m:TblOk t' led)(y:TabQ t'<|d.map λx=>Be w x.1) :
  (h.update a<|Obj.putSet b t').get? a=some {o with data:=.set b (ep+1) t'}/\(∀x∈d,Cj (h.update a<|Obj.putSet b t') x.1 x.2)/\(d.length*5<t'.mask*3->Fl w (h.update a<|Obj.putSet b t') a d led):=by
 have e:=aG (Obj.putSet b t') i (by rw[putSet_of b t' g];rfl);rw[putSet_of b t' g]at e;have f:∀x∈d,Cj (h.update a<|Obj.putSet b t') x.1 x.2:=λx hx=>(v x hx).but (p:=a) (λc o hc e=>((aO h a<|Obj.putSet b t').2 c hc).trans e) (λz B n j q=>by rw[i]at j;cases j;rw[g]at q;cases q);exact⟨e,f,λu=>⟨_,b,ep+1,t',e,l,rfl,k,f,r,m,y,u⟩⟩
theorem Kk{b:Type}:∀(ys a:oA b),(List.range' a.length ys.length).filterMap (λi=>(a++ys)[i]?)=ys
 |[],a=>rfl
 |y::ys,a=>by have:=Kk ys<|a++[y];rw[R_,fW]at this;rw[aR,List.range'_succ,fZ,cW<|G_ _,Nat.sub_self];show y::_=_;exact bR (y::·) this
def R4{a:Type}{xs:oA a}{l:oA Nat}(hp:l.Perm<|List.range xs.length):(l.filterMap λi=>xs[i]?).Perm xs:=by have h1:=hp.filterMap λi=>xs[i]?;have h2:=Kk xs [];rw[List.nil_append,jW,<- List.range_eq_range']at h2;rwa[h2]at h1
theorem Mi{xs:oA<|lR×lT}{hs:oC Int}(a:hs.toList=xs.map λx=>Be w x.1):∀(l:oA Nat),(∀i∈l,i<xs.length)->(l.map λi=>hs.getD i 0)=(l.filterMap λi=>xs[i]?).map λx=>Be w x.1
 |[],_=>rfl
 |i::l,b=>by have c:=b i<|.head _;have e:xs[i]?=some xs[i]:=E_ c;rw[aP,fZ,e,aP,Mi a l λj hj=>b j<|.tail _ hj];rw[cQ,<- Z_,a,M_,e];rfl
def AQ{a:lT}{led:Bool}{o:l_}{es:oC<|Int×lP}{ep:Nat}{t:SetTable}{xs:oA<|lR×lT}{c:Nat}{Q:Unit->lQ->Prop}(p:s.heap.get? a=some o)(G:o.ExactSet)(u:o.data=.set es ep t)(n:es.toList=xs.map (Np w))(D:∀x∈xs,Cj s.heap x.1 x.2)(H:t.fits es.size=true)(C:TblOk t led) (I:Msk<|SetTable.sizeAbove c-1) (hz:SetTable.sizeAbove c<=sizeLine) (hn:xs.length*5<(SetTable.sizeAbove c-1)*3)
  (h:∀q B,Heap.SameBut a s.heap q->Fl w q a B led->B.Perm xs->Q () {s with heap:=q}):qU prog w A (setRelay a c) Q E s:=by
 have l:es.size=xs.length:=by rw[<- aF,n,C_]
 have r:(es.map (·.1)).toList=xs.map λx=>Be w x.1:=by rw[Array.toList_map,n,X_];rfl
 obtain⟨d,b,z,y,v,m⟩:=GZ (f:=t.finger) (mv:=t.movedTo<|SetTable.sizeAbove c-1) (led:=t.led) (pl:=t.plain) I (es.map (·.1)) (by rw[Array.size_map,l];omega);rw[Array.size_map,l]at v;have g:TblOk d led:=by have:=TblOk.laid z;rw[C.led]at this;exact this
 have M:∀i∈b.toList,i<xs.length:=λi L=>bK.mp<|v.mem_iff.mp L;rw[Mi r b.toList M]at m;have e:=R4 v;have k:(b.filterMap λi=>es[i]?).toList=(b.toList.filterMap λi=>xs[i]?).map (Np w):=by rw[Array.toList_filterMap,List.map_filterMap];congr 1;funext i;rw[<- Z_,n,M_]
 have j:(b.filterMap λi=>es[i]?).size=es.size:=by rw[<- aF,k,C_,e.length_eq,l]
 unfold setRelay;refine A_<|bF p u H<|show wpAny _ _ _ _ _ _ from ?_;dsimp only;rw[I_<|g_.mpr hz,show t.relaid (es.map (·.1)) c=some (d,b) from z];refine A_<|show wpAny _ _ (if((b.filterMap λi=>es[i]?).size != es.size)=true then _ else pure (b.filterMap λi=>es[i]?,d)) _ _ _ from ?_;rw[I_<|by rw[j];simp];refine B_<|show wpAny _ _ (storeSet a (b.filterMap λi=>es[i]?) d) _ _ _ from ?_;generalize (b.filterMap λi=>es[i]?)=es2 at k j;generalize (b.toList.filterMap λi=>xs[i]?)=xs2 at k e m;have P:=e.length_eq;have F:d.fits es2.size=true:=by have:=m.len;rw[C_]at this;simp only[SetTable.fits,SetTable.fill,g.dum,Bool.and_eq_true,beq_iff_eq,decide_eq_true_eq];rw[y,j];refine⟨by omega,?_⟩;show d.place.size+0<=_;omega
 obtain⟨N,O,J⟩:=Kj (led:=led) p G u k (λx hx=>D x<|e.mem_iff.mp hx) F g m;exact iZ p u (h _ _ (aO _ _ _) (J<|by rw[y];omega) e) (by rw[j,l];have:sizeLine=16777216:=rfl;omega)
def TabQ.pln{t:SetTable}{hs:oA Int}(q:TabQ t hs)(b:Bool):TabQ {t with plain:=b} hs:=⟨q.msk,q.len,q.le,q.path⟩
def HD{m n:Nat}(b:Msk m)(hn:n<4900)(h:n*5<m*3)(c:(n+1)*5>=m*3):Msk (SetTable.sizeAbove (SetTable.grown<|n+1)-1)/\SetTable.sizeAbove (SetTable.grown<|n+1)<=sizeLine/\(n+1)*5<(SetTable.sizeAbove (SetTable.grown<|n+1)-1)*3:=by obtain⟨i,e,a⟩:∃i,n+1=i/\(i=5\/i=19\/i=77\/i=307\/i=1229):=⟨_,rfl,by unfold Msk at b;omega⟩;rw[e];unfold Msk;rcases a with rfl|rfl|rfl|rfl|rfl<;>decide +kernel
def OH{m n:Nat}(h:n*5<m*3):n+1+0<=m:=by omega
def AR{m:Nat}(h:Msk m):10*SetTable.turns m<=100000:=by unfold SetTable.turns;unfold Msk at h;omega
def AU{a:lT}{led:Bool}{xs:oA<|lR×lT}{d:lR}{b:lT}{Q:Bool->lQ->Prop}(hu:A.units+6<cLine)(hx:Cj s.heap d b)(hS:Fl w s.heap a xs led)(hn:xs.length<4900)
  (h1:d∈xs.map (·.1)->Q false s) (h2:d∉xs.map (·.1)->∀v I,Heap.SameBut a s.heap v->Fl w v a I led->I.Perm ((d,b)::xs)->Q true {s with heap:=v}) :
  qU prog w A (setAddHashed a (.ref b)<|Be w d) Q E s:=by
 obtain⟨o,r,ep,t,u,dc,F,R,W,P,l,k,hB⟩:=hS;have ig:r.size=xs.length:=by rw[<- aF,R,C_]
 have hpl:t.place.size=xs.length:=by have:=k.len;rwa[C_]at this
 obtain⟨x0,jy,j3⟩:=AM k l (by rw[C_];omega);obtain⟨f,f1,f2,V⟩:=R0 k.msk (Be w d) (λj=>j∈t.place.toList) jy j3;unfold setAddHashed setAddHashedIn;refine bB<|A_<|bF u F P<|show wpAny _ _ _ _ _ _ from ?_;dsimp only;rw[show byScan (.ref b) r=false from rfl,I_ Q_];unfold setSearch;refine A_<|Wx hu u F R W P l k hx f2 V f1 (λdg=>?_) (λz=>?_) f 0 100000 none (by omega) ?_ (.inr ⟨rfl,rfl⟩) λm i x hm=>absurd hm<|iK _
 ·exact B_<|h1 dg
 ·dsimp only;refine A_<|bF u F P ?_;dsimp only;have hp:SetTable.below t.place (sq t.mask (Be w d) f)<=t.place.size:=(E8 l.rise _).1;have y:=k.put (h:=Be w d) (n:=f) l V;have L:=l.put<|J9 l<|Pn l f2;have Y:(t.put<|sq t.mask (Be w d) f).2=SetTable.below t.place (sq t.mask (Be w d) f):=rfl;have H:(t.put<|sq t.mask (Be w d) f).1.mask=t.mask:=rfl;rw[Y];have g:(t.put<|sq t.mask (Be w d) f).1.place.size=xs.length+1:=by
   have:=y.len;rw[this];simp only[List.length_append,List.length_cons,List.length_take,List.length_drop,List.length_map];omega
  generalize O:SetTable.below t.place (sq t.mask (Be w d) f)=p at hp y ⊢;generalize (t.put<|sq t.mask (Be w d) f).1=t1 at y L H g ⊢;have B:(SetTable.insertAt r p (Be w d,.ref b)).toList=(xs.take p++(d,b)::xs.drop p).map (Np w):=by rw[F2 _ _ _<|by omega,R,P_,aP,kZ,k_];rfl
  have J:TabQ t1 ((xs.take p++(d,b)::xs.drop p).map λx=>Be w x.1):=by rw[P_,aP,kZ,k_];exact y
  have C:(xs.take p++(d,b)::xs.drop p).Perm ((d,b)::xs):=by refine List.perm_middle.trans ?_;rw[jF]
  have G:=C.length_eq;rw[aR]at G;have D:∀x∈xs.take p++(d,b)::xs.drop p,Cj s.heap x.1 x.2:=λx hx'=>by
   rcases aB.mp (C.mem_iff.mp hx') with rfl|hx'
   ·exact hx
   ·exact W x hx'
  have tu:(SetTable.insertAt r p (Be w d,.ref b)).size=xs.length+1:=by rw[<- aF,B,C_,G]
  generalize SetTable.insertAt r p (Be w d,.ref b)=b9 at B tu ⊢;generalize xs.take p++(d,b)::xs.drop p=xs1 at B J C G D;clear O hp y Y;have hsl:sizeLine=16777216:=rfl;have q:∀e:SetTable,e.mask=t.mask->e.place.size=xs.length+1->TblOk e led->TabQ e (xs1.map λx=>Be w x.1)->qU prog w A (do
    storeSet a b9 e
    if(!false&&e.tooFull)=true then do
     setRelay a (SetTable.grown<|r.size+1)
     pure true
    else pure true) Q E s:=λe S T N g4=>by
   have X:e.fits b9.size=true:=by simp only[SetTable.fits,SetTable.fill,N.dum,Bool.and_eq_true,beq_iff_eq,decide_eq_true_eq];refine⟨T.trans tu.symm,?_⟩;show e.place.size+0<=_;rw[S,T];exact OH hB
   obtain⟨k1,k2,k3⟩:=Kj (led:=led) u dc F B D X N g4;have b1:=aO s.heap a<|Obj.putSet b9 e;refine A_ (iZ u F ?_<|by omega);have U:e.tooFull=decide ((xs.length+1)*5>=t.mask*3):=by unfold SetTable.tooFull SetTable.fill;rw[S,T,N.dum];rfl
   by_cases c:(xs.length+1)*5>=t.mask*3
   ·rw[N_<|by rw[U,aZ c];rfl];have M:=HD k.msk hn hB c;rw[<- ig]at M;refine A_ (AQ (s:={s with heap:=s.heap.update a<|Obj.putSet b9 e}) (o:={o with data:=.set b9 (ep+1) e}) k1 dc rfl B k2 X N M.1 M.2.1 (by rw[G,<- ig];exact M.2.2) λv I c1 c2 c3=>B_ ?_);exact h2 z v I (b1.trans c1) c2<|c3.trans C
   ·rw[I_<|by rw[U,aS c];decide];exact B_<|h2 z _ _ b1 (k3<|by rw[S];omega) C
  split
  ·obtain⟨Z,as,rx⟩:=hx;refine A_<|OG 6 8 _ _ as _ _ _ _ Z.dep Z.can rx λbv=>?_;cases bv
   ·exact q _ H g (L.plain false)<|J.pln false
   ·exact q _ H g L J
  ·exact A_<|B_<|q _ H g L J
 ·exact Y_ f1<|AR k.msk
end
end L2
namespace L2
open PySem PySem.Spec PyProof.Rows
section
variable {prog:lV}{w:lW}{A:lY}{R:mH->lQ->Prop}{sa it t:lT}{led:Bool}{X:Cx}{aa:oA<|lT×l_}{σ:St}{H:Hp}{s:lQ}{k:Nat}
structure StepIt(prog:lV)(w:lW)(it t:lT)(items:oC lP)(St:Nat->lZ->Prop):Prop where
 item:∀{A:lY} {E:lP->lQ->Prop} {s:lQ} {i:Nat} {x:lP} {Q:oB lP->lQ->Prop},St i s.heap->items[i]?=some x->(∀h',St (i+1) h'->Heap.SameBut it s.heap h'->Q (some x) {s with heap:=h'})->qU prog w A (pyNext<|.ref it) Q E s
 fin:∀{A:lY} {E:lP->lQ->Prop} {s:lQ} {i:Nat} {Q:oB lP->lQ->Prop},A.handled=none->St i s.heap->items[i]?=none->(∀h',Heap.ExtBut it s.heap h'->Q none {s with heap:=h'})->qU prog w A (pyNext<|.ref it) Q E s
 keep:∀{i:Nat} {h h':lZ} {p:lT},it≠p->t≠p->St i h->Heap.SameBut p h h'->St i h'
 noseq:∀{i:Nat} {h:lZ} {o:l_} {vs:oC lP} {n:Nat},St i h->h.get? it=some o->o.data≠.seq vs n
def Mj{items:oC lP}(j:t≠it):StepIt prog w it t items λi h=>h.IsListIter it t i/\h.IsList t items where
 item:=λst hx q=>wpAny_pyNext_list_item st.1 st.2 hx λf l a=>q f ⟨l,by obtain⟨o,e,r⟩:=st.2;exact⟨o,(a.2 t j).trans e,r⟩⟩ a
 fin:=λg st hx q=>wpAny_pyNext_list_end g st.1 st.2 hx q
 keep:=λh1 h2 st a=>⟨st.1.at λo e=>(a.2 it h1).trans e,by obtain⟨o,e,r⟩:=st.2;exact⟨o,(a.2 t h2).trans e,r⟩⟩
 noseq:=λst e q=>by obtain⟨⟨o,b,c,d⟩,_⟩:=st;rw[e]at b;cases b;rw[d]at q;cases q
def Kl{items:oC lP}(j:t≠it):StepIt prog w it t items λi h=>h.IsTupleIter it t i/\h.IsTuple t items where
 item:=λst hx q=>wpAny_pyNext_tuple_item st.1 st.2 hx λf l a=>q f ⟨l,st.2.at λo e=>(a.2 t j).trans e⟩ a
 fin:=λg st hx q=>wpAny_pyNext_tuple_end g st.1 st.2 hx q
 keep:=λh1 h2 st a=>⟨st.1.at λo e=>(a.2 it h1).trans e,st.2.at λo e=>(a.2 t h2).trans e⟩
 noseq:=λst e q=>by obtain⟨⟨o,b,c,d⟩,_⟩:=st;rw[e]at b;cases b;rw[d]at q;cases q
def Fl.at{h h':lZ}{xs:oA<|lR×lT}(x:Fl w h sa xs led)(hs:∀o,h.get? sa=some o->h'.get? sa=some o)(b:∀x∈xs,Cj h x.1 x.2->Cj h' x.1 x.2):Fl w h' sa xs led:=by obtain⟨o,i,a,d,e,c,a2,f,g,r⟩:=x;exact⟨o,i,a,d,hs o e,c,a2,f,λx hx=>b x hx<|g x hx,r⟩
def Fl.noseq{h:lZ}{xs:oA<|lR×lT}(x:Fl w h sa xs led){o:l_}{b:oC lP}{n:Nat}(e:h.get? sa=some o):o.data≠.seq b n:=λq=>by obtain⟨d,f,c,g,a,_,a2,_⟩:=x;rw[e]at a;cases a;rw[a2]at q;cases q
def Mk{St:Nat->lZ->Prop}{items:oC lP}(S:StepIt prog w it t items St)(hh:A.handled=none)(hu:A.units+20<cLine)(O:sa≠it)(ay:sa≠t){ks:oA<|lR×lT}(de:items.toList=ks.map λx=>.ref x.2)(kc:∀I:oA lR,I.Nodup->(∀d∈I,d∈ks.map (·.1))->I.length<4900) :
  ∀(m i:Nat) (s:lQ) (xs:oA<|lR×lT),m+i=items.size->St i s.heap->Fl w s.heap sa xs led->(∀x∈ks,Cj s.heap x.1 x.2)->(xs.map (·.1)).Nodup->(∀d,d∈xs.map (·.1)↔d∈(ks.take i).map (·.1))->(∀x∈xs,x∈ks)->xs.length<=i ->
   (∀a B f,(∀b o,b≠sa->b≠it->s.heap.get? b=some o->a.get? b=some o)->Fl w a sa f led->(f.map (·.1)).Nodup->(∀d,d∈f.map (·.1)↔d∈ks.map (·.1))->(∀x∈f,x∈ks)->f.length<=items.size->R (.ok<|.ret .none) {s with heap:=a,toks:=B}) ->
   codeAny (model prog w) A (.builtin "set.update.loop" ⟨[.ref sa,.ref it],[]⟩) R s:=by
 have bz:ks.length=items.size:=by rw[<- aF,de,C_]
 intro m
 induction m with
 |zero=>
  intro i s xs hm u Q C r F v hl q;refine dD Hc ?_;rw[bS Dq _];refine(show wpAny _ A.in1 (pyNext (.ref it)>>=_) _ _ s from A_<|S.fin (show A.in1.handled=none from hh) u (by rw[cK<|by omega]) λa hx=>?_);refine B_<|q a s.toks xs (λb o h1 h2 e=>hx b o h2 e) ?_ r (λd=>?_) v<|by omega
  ·exact Q.at (λo e=>hx sa o O e) λx _ g=>g.but (p:=it) (λc o hc e=>hx c o hc e) λo vs n e=>S.noseq u e
  ·rw[F d,fJ<|by omega]
 |succ m ih=>
  intro i s xs hm u Q C r F v hl q;have hi:i<items.size:=by omega
  have j:i<ks.length:=by omega
  have hx:items[i]?=some (.ref ks[i].2):=by rw[<- Z_,de,M_,E_ j];rfl
  have U:∀d,d∈(ks.take<|i+1).map (·.1)↔d=ks[i].1\/d∈(ks.take i).map (·.1):=λd=>by rw[aJ,E_ j,P_,S_];simp only[Option.toList_some,List.map_cons,List.map_nil,List.mem_singleton];exact Or.comm
  have J:=eO j;generalize ks[i]=kx at hx U J;obtain⟨d0,L⟩:=kx;refine dD Hc ?_;rw[bS Dq _];refine(show wpAny _ A.in1 (pyNext (.ref it)>>=_) _ _ s from A_<|S.item u hx λh1 r9 D=>?_);have G:∀{d:lR} {b:lT},Cj s.heap d b->Cj h1 d b:=λg=>g.but (p:=it) (λc o hc e=>(D.2 c hc).trans e) λo vs n e=>S.noseq u e;have W:Fl w h1 sa xs led:=Q.at (λo e=>(D.2 sa O).trans e) λx _ g=>G g;have ik:xs.length<4900:=by
   have:=kc (xs.map (·.1)) r λd T=>by obtain⟨y,hy,rfl⟩:=D_.mp T;exact D_.mpr ⟨y,v y hy,rfl⟩
   rwa[C_]at this
  have l:Cj h1 d0 L:=G<|C _ J;refine(show wpAny _ A.in1 (holding [.ref L] (setAdd sa<|.ref L)>>=_) _ _ _ from A_<|bB ?_);unfold setAdd;have yc:A.in1.units+6<cLine:=by show A.units+1+6<cLine;omega
  refine bB<|A_<|(Ea prog w).pyHash (s:={s with heap:=h1}) yc l ?_;refine AU (s:={s with heap:=h1,toks:=s.toks+Hw d0}) yc l W ik (λdc=>?_) λbt h2 f V z3 hp=>?_
  ·refine B_ ⟨dF Dq _,ih (i+1) _ xs (by omega) r9 W (λx hx'=>G<|C x hx') r (λd=>?_) v (bA hl) λa B M N Y a2 P a4 Z=>?_⟩
   ·rw[U d,<- F d];exact⟨.inr,λh=>h.elim (λe=>by rw[e];exact dc) id⟩
   ·exact q a B M (λb o E z e=>N b o E z<|(D.2 b z).trans e) Y a2 P a4 Z
  ·have ag:f.length=xs.length+1:=hp.length_eq;have tr2:∀{d:lR} {b:lT},Cj h1 d b->Cj h2 d b:=λg=>g.but (p:=sa) (λc o hc e=>(V.2 c hc).trans e) λo vs n e=>W.noseq e;have jx:=hp.map (·.1);refine B_ ⟨dF Dq _,ih (i+1) _ f (by omega) (S.keep O.symm ay.symm r9 V) z3 (λx hx'=>tr2<|G<|C x hx') (jx.nodup_iff.mpr<|dL.mpr ⟨bt,r⟩) (λd=>?_) (λx hx'=>?_) (by omega) λa B M N Y a2 P a4 Z=>?_⟩
   ·rw[jx.mem_iff,U d,<- F d];exact aB
   ·rcases aB.mp (hp.mem_iff.mp hx') with rfl|hx'
    ·exact J
    ·exact v x hx'
   ·exact q a B M (λb o E z e=>N b o E z<|(V.2 b E).trans<|(D.2 b z).trans e) Y a2 P a4 Z
def Is:isSubtype (.type "list") (.type "set")=pure false:=by rw[dJ];kernel_rfl
def Iu:isSubtype (.type "list") (.type "frozenset")=pure false:=by rw[dJ];kernel_rfl
def Po{h:lZ}:Fl w (h.push<|Bv w) h.objs.size [] (E9 w) :=
 ⟨_,#[],0,_,H_ _ rfl,⟨rfl,rfl,rfl⟩,rfl,rfl,(λ_ z=>nomatch z),rfl,TblOk.fresh _,⟨.inl rfl,rfl,(λ_ z=>nomatch z),(λ_ z=>nomatch z)⟩,(show 0*5<7*3 by decide)⟩
def AW{E:lP->lQ->Prop}{s:lQ}{id:String}{items:oC lP}{ks:oA<|lR×lT}{Q:Unit->lQ->Prop}(y:A.handled=none)(hu:A.units+20<cLine)(f:s.heap.IsList t items)(F:items.toList=ks.map λx=>.ref x.2)(C:∀x∈ks,Cj s.heap x.1 x.2)(I:∀g:oA lR,g.Nodup->(∀d∈g,d∈ks.map (·.1))->g.length<4900)
  (l:Fl w s.heap sa [] led) (u:sa≠t)
  (h:∀c i a,(∀b o,b≠sa->s.heap.get? b=some o->c.get? b=some o)->Fl w c sa a led->(a.map (·.1)).Nodup->(∀d,d∈a.map (·.1)↔d∈ks.map (·.1))->(∀x∈a,x∈ks)->a.length<=items.size->Q () {s with heap:=c,toks:=i}) :
  qU prog w A (Builtin.Frozenset.updateFrom id sa<|.ref t) Q E s:=by
 have T:s.TypeIs (.ref t) "list" := f.typeIs;have N:=Is;have P:=Iu;have O:(Value.type "list" == Value.type "dict")=false:=by decide
 unfold Builtin.Frozenset.updateFrom;generalize q:pyIter=PI
 wp_walk
 subst q;refine eE f<|show wpAny _ _ _ _ _ _ from A_<|i_ ?_;have J:t<s.heap.objs.size:=by obtain⟨o,e,_⟩:=f;exact J_ e
 have D:sa<s.heap.objs.size:=by obtain⟨o,_,_,_,e,_⟩:=l;exact J_ e
 have j:∀{d:lR} {b:lT},Cj s.heap d b->Cj (s.heap.push {cls:=.type "list_iterator",data:=.fields #[.ref t,.int 0 0]}) d b:=λ⟨k,L,r⟩=>⟨k,L,fX (λb o e=>DD _ e) r⟩;refine Mk (led:=led) (Mj (items:=items)<|T_ J) y hu (T_ D) u F I items.size 0 _ [] (by omega) ⟨⟨_,H_ _ rfl,rfl,rfl⟩,by obtain⟨o,e,r⟩:=f;exact⟨o,DD _ e,r⟩⟩ (l.at (λo e=>DD _ e) λ_ _ B=>j B) (λx hx=>j<|C x hx) cX (λd=>by simp) (λ_ z=>nomatch z) (aE _) λc i a p a2 G M v m=>?_;exact B_<|h c i a (λb o n e=>p b o n (T_<|J_ e)<|DD _ e) a2 G M v m
def Wy{E:lP->lQ->Prop}{s:lQ}{id:String}{items:oC lP}{ks:oA<|lR×lT}{Q:Unit->lQ->Prop}(B:A.handled=none)(hu:A.units+20<cLine)(f:s.heap.IsTuple t items)(G:items.toList=ks.map λx=>.ref x.2)(D:∀x∈ks,Cj s.heap x.1 x.2)(J:∀g:oA lR,g.Nodup->(∀d∈g,d∈ks.map (·.1))->g.length<4900)
  (l:Fl w s.heap sa [] led) (v:sa≠t)
  (h:∀c i a,(∀b o,b≠sa->s.heap.get? b=some o->c.get? b=some o)->Fl w c sa a led->(a.map (·.1)).Nodup->(∀d,d∈a.map (·.1)↔d∈ks.map (·.1))->(∀x∈a,x∈ks)->a.length<=items.size->Q () {s with heap:=c,toks:=i}) :
  qU prog w A (Builtin.Frozenset.updateFrom id sa<|.ref t) Q E s:=by
 have T:s.TypeIs (.ref t) "tuple" := f.typeIs;have O:=Io;have S:=Ip;have P:(Value.type "tuple" == Value.type "dict")=false:=by decide
 unfold Builtin.Frozenset.updateFrom;generalize q:pyIter=PI
 wp_walk
 subst q;refine kH f<|show wpAny _ _ _ _ _ _ from A_<|i_ ?_;have L:t<s.heap.objs.size:=by obtain⟨o,e,_⟩:=f;exact J_ e
 have F:sa<s.heap.objs.size:=by obtain⟨o,_,_,_,e,_⟩:=l;exact J_ e
 have j:∀{u:l_} {d:lR} {b:lT},Cj s.heap d b->Cj (s.heap.push u) d b:=λ⟨k,M,r⟩=>⟨k,M,fX (λb o e=>DD _ e) r⟩;refine Mk (led:=led) (Kl (items:=items)<|T_ L) B hu (T_ F) v G J items.size 0 _ [] (by omega) ⟨⟨_,H_ _ rfl,rfl,rfl⟩,f.push _⟩ (l.at (λo e=>DD _ e) λ_ _ C=>j C) (λx hx=>j<|D x hx) cX (λd=>by simp) (λ_ z=>nomatch z) (aE _) λc i a p a2 I N y m=>?_;exact B_<|h c i a (λb o n e=>p b o n (T_<|J_ e)<|DD _ e) a2 I N y m
def Cj.keeps{h h':lZ}{d:lR}{b:lT}(x:Cj h d b)(hk:∀b o,h.get? b=some o->h'.get? b=some o):Cj h' d b:=by obtain⟨k,a,r⟩:=x;exact⟨k,a,fX hk r⟩
def Db{n q:Type}{f:n->q}{l m:oA q}(h:l.Perm m):∀c:oA n,m=c.map f->∃g:oA n,l=g.map f/\g.Perm c:=by
 induction h with
 |nil=>
  intro c e;have:c=[]:=by simpa using e.symm
  subst this;exact⟨[],rfl,.nil⟩
 |cons a h v=>
  intro c e;cases c with
  |nil=>cases e
  |cons x c=>injection e with i d;obtain⟨g,rfl,p⟩:=v c d;exact⟨x::g,by rw[i];rfl,p.cons x⟩
 |swap a b l=>
  intro c e
  match c,e with
  |x::y::c,e=>injection e with i d;injection d with d e3;exact⟨y::x::c,by rw[i,d,e3];rfl,.swap x y c⟩
 |trans h1 h2 j o=>intro c e;obtain⟨g,i,z⟩:=o c e;obtain⟨r,d,u⟩:=j g i;exact⟨r,d,u.trans z⟩
theorem Iv{h:lZ}:∀{a:oA<|lR×lT},(∀x∈a,Cj h x.1 x.2)->∃b,ReadsAll h (a.map λx=>.ref x.2) (a.map (·.1)) b
 |[],_=>⟨_,.nil⟩
 |z::a,hx=>by obtain⟨b,r⟩:=Iv λx hx'=>hx x<|.tail _ hx';obtain⟨_,d,c⟩:=hx z<|.head _;exact⟨_,.cons c r⟩
structure TOk(ds:oA lR):Prop where
 len:ds.length<300
 key:∀d∈ds,KeyTree d
 fst:∀d∈ds,∃i r,d=.tuple (.int i::r)
 cmp:∀d∈ds,∀e∈ds,cmpb d e=true
def Few(ds:oA lR):Prop:=∀a:oA lR,a.Nodup->(∀d∈a,d∈ds)->a.length<4900
def OI{ds:oA lR}(h:ds.length<4900):Few ds:=λc b a=>by have:=F5 b a;exact eL this h
theorem Uk:∀{ds:oA lR},(∀d∈ds,KeyTree d)->PyData.canLayAll0 ds=true/\PyData.depthAll ds<=6/\A6 ds=true
 |[],_=>⟨rfl,aE _,rfl⟩
 |d::ds,h=>by
  obtain⟨a,b,c⟩:=Uk λe he=>h e<|.tail _ he;have k:=h d<|.head _;refine⟨?_,?_,?_⟩
  ·simp only[PyData.canLayAll0,k.lay,a];rfl
  ·simp only[PyData.depthAll];have:=k.dep;omega
  ·simp only[A6,k.can,c];rfl
theorem AY(I:Inv X aa σ H s):∀(ds:oA lR) (f:oA V) (c:oA lP),An X.K H ds f->Vals f c->(∀d∈ds,KeyTree d)->(∀d∈ds,∃r,d=.tuple r)->∃b:oA<|lR×lT,b.map (·.1)=ds/\c=b.map (λx=>.ref x.2)/\∀x∈b,Cj s.heap x.1 x.2/\Dk X.K H x.1 (.ref x.2)
 |[],f,c,h,r,_,_=>by have e:=h.nil;subst e;cases r;exact⟨[],rfl,rfl,λ_ z=>nomatch z⟩
 |d::ds,f,c,h,r,hk,i=>by
  obtain⟨x,q,rfl,h1,h2⟩:=An.cons (K:=X.K) (H:=H) h;cases r with
  |@cons _ _ u o p l=>
   obtain⟨b,n,m,v⟩:=AY I ds q o h2 l (λd g=>hk d<|.tail _ g) λd g=>i d<|.tail _ g;obtain⟨j,rfl⟩:=i d<|.head _;obtain⟨a,B,rfl,ha,g⟩:=Dk.tup (K:=X.K) (H:=H) h1;cases p;refine⟨(.tuple j,a)::b,by rw[aP,n],by rw[aP,<- m],λy hy=>?_⟩;rcases aB.mp hy with rfl|hy
   ·exact⟨⟨hk _<|.head _,Dk.reads I _ _ _ h1 rfl⟩,h1⟩
   ·exact v y hy
theorem AZ{K:lU}:∀{a:oA<|lR×lT},(∀x∈a,Dk K H x.1<|.ref x.2)->An K H (a.map (·.1)) (a.map λx=>.ref x.2)
 |[],_=>Ej
 |z::a,h=>D3 (h z<|.head _)<|AZ λx hx=>h x<|.tail _ hx
theorem Ul:∀(a:oA<|lR×lT),Vals (a.map λx=>V.ref x.2) (a.map λx=>Value.ref x.2)
 |[]=>.nil
 |z::a=>.cons rfl<|Ul a
end
section
variable {prog:lV}{w:lW}{Kt:Type} [DecidableEq Kt]{knd:KeyKind prog w Kt}{A:lY}{R:mH->lQ->Prop}{sa it t:lT}{led:Bool}
def Ml{St:Nat->lZ->Prop}{items:oC lP}(S:StepIt prog w it t items St)(hh:A.handled=none)(I:sa≠it)(Z:sa≠t){ks:oA Kt}(Y:ItemsAre knd ks items.toList)(wv:∀v∈items.toList,v.scannable=true)(hsz:items.size<1000) :
  ∀(m i:Nat) (s:lQ) (l:oA<|Int×lP) (f:oA Kt),m+i=items.size->St i s.heap->D8 knd s.heap sa l led->Unlike knd l->Keys knd l f->l.length<=i->(∀k,k∈f↔k∈ks.take i) ->
   (∀c n d,(∀b o,b≠sa->b≠it->s.heap.get? b=some o->c.get? b=some o)->D8 knd c sa d led->Unlike knd d->Keys knd d ks->d.length<=items.size->R (.ok<|.ret .none) {s with heap:=c,toks:=n}) ->
   codeAny (model prog w) A (.builtin "set.update.loop" ⟨[.ref sa,.ref it],[]⟩) R s:=by
 intro m
 induction m with
 |zero=>
  intro i s l f hm E M u g T z q;refine dD Hc ?_;rw[bS Dq _];refine(show wpAny _ A.in1 (pyNext (.ref it)>>=_) _ _ s from A_<|S.fin (show A.in1.handled=none from hh) E (by rw[cK<|by omega]) λc hx=>?_);refine B_<|q c s.toks l (λb o h1 h2 e=>hx b o h2 e) ?_ u ?_<|by omega
  ·obtain⟨o,P,D,L,e,r⟩:=M;exact⟨o,P,D,L,hx sa o I e,r⟩
  ·intro k;rw[g k,z k,fJ];have:=Y.length;simp at this;omega
 |succ m W=>
  intro i s l f hm E M u g T z q;have hi:i<items.size:=by omega
  have hx:items[i]?=some items[i]:=aH hi;obtain⟨k,ek,hk⟩:=Pc (i:=i) (x:=items[i]) Y (by rw[Z_];exact hx);have B:=wv items[i] (by simp);have Q:∀a,a∈ks.take (i+1)↔a∈ks.take i\/a=k:=λa=>by rw[aJ,ek,S_];simp
  refine dD Hc ?_;rw[bS Dq _];refine(show wpAny _ A.in1 (pyNext (.ref it)>>=_) _ _ s from A_<|S.item E hx λh1 X N=>?_);have V:D8 knd h1 sa l led:=by obtain⟨o,P,D,L,e,r⟩:=M;exact⟨o,P,D,L,(N.2 sa I).trans e,r⟩
  refine(show wpAny _ A.in1 (holding [items[i]] (setAdd sa items[i])>>=_) _ _ _ from A_<|bB ?_);unfold setAdd;refine bB<|A_<|knd.pyHash hk ?_;refine GM hk B (s:={s with heap:=h1,toks:=s.toks+1}) V (by have:scanBound=4096:=rfl;omega) (λdc=>?_) λbt h2 d U z3 hp=>?_
  ·refine B_ ⟨dF Dq _,W (i+1) _ l f (by omega) X V u g (bA T) (λa=>?_) λc n d F C a2 J O=>?_⟩
   ·rw[Q a,<- z a];refine⟨.inl,λh=>h.elim id λe=>?_⟩;rw[e];exact(g k).mp dc
   ·exact q c n d (λb o p j e=>F b o p j<|(N.2 b j).trans e) C a2 J O
  ·have ag:d.length=l.length+1:=by rw[hp.length_eq,R_];rfl
   refine B_ ⟨dF Dq _,W (i+1) _ d (f++[k]) (by omega) (S.keep I.symm Z.symm X U) z3 ((u.add hk bt).perm hp) (λa=>?_) (by omega) (λa=>?_) λc n H F C a2 J O=>?_⟩
   ·rw[S_,<- g a];constructor
    ·rintro⟨e,he,y⟩;rcases S_.mp (hp.mem_iff.mp he) with he|he
     ·exact .inl ⟨e,he,y⟩
     ·have G:e=(knd.hash k,items[i]):=by simpa using he
      subst G;exact .inr<|O_.mpr<|knd.inj _ a k y hk
    ·rintro(⟨e,he,y⟩|he)
     ·exact⟨e,hp.mem_iff.mpr<|aD _ he,y⟩
     ·have G:a=k:=by simpa using he
      subst G;exact⟨(knd.hash a,items[i]),hp.mem_iff.mpr<|aN _<|O_.mpr rfl,hk⟩
   ·rw[Q a,<- z a,S_,O_]
   ·exact q c n H (λb o p j e=>F b o p j<|(U.2 b p).trans<|(N.2 b j).trans e) C a2 J O
variable {E:lP->lQ->Prop}{s:lQ}
def R5{id:String}{items:oC lP}{ks:oA Kt}{Q:Unit->lQ->Prop}(q:A.handled=none)(d:s.heap.IsTuple t items)(y:ItemsAre knd ks items.toList)(u:∀v∈items.toList,v.scannable=true)(hsz:items.size<1000)
  (g:D8 knd s.heap sa [] led) (m:sa≠t)
  (h:∀c f a,(∀b o,b≠sa->s.heap.get? b=some o->c.get? b=some o)->D8 knd c sa a led->Unlike knd a->Keys knd a ks->a.length<=items.size->Q () {s with heap:=c,toks:=f}) :
  qU prog w A (Builtin.Frozenset.updateFrom id sa<|.ref t) Q E s:=by
 have T:s.TypeIs (.ref t) "tuple" := d.typeIs;have G:=Io;have I:=Ip;have H:(Value.type "tuple" == Value.type "dict")=false:=by decide
 unfold Builtin.Frozenset.updateFrom;generalize j:pyIter=PI
 wp_walk
 subst j;refine kH d<|show wpAny _ _ _ _ _ _ from A_<|i_ ?_;have C:t<s.heap.objs.size:=by obtain⟨o,e,_⟩:=d;exact J_ e
 have x:sa<s.heap.objs.size:=by obtain⟨o,_,_,_,e,_⟩:=g;exact J_ e
 refine Ml (led:=led) (Kl (items:=items)<|T_ C) q (T_ x) m y u hsz items.size 0 _ [] [] (by omega) ⟨⟨_,H_ _ rfl,rfl,rfl⟩,d.push _⟩ ?_ List.Pairwise.nil Md (aE _) (λk=>by simp) λc f a i a2 z D p=>?_
 ·obtain⟨o,F,l,B,e,r⟩:=g;exact⟨o,F,l,B,DD _ e,r⟩
 ·exact B_<|h c f a (λb o n e=>i b o n (T_<|J_ e)<|DD _ e) a2 z D p
def Wz{id:String}{items:oC lP}{ks:oA Kt}{Q:Unit->lQ->Prop}(q:A.handled=none)(d:s.heap.IsList t items)(y:ItemsAre knd ks items.toList)(u:∀v∈items.toList,v.scannable=true)(hsz:items.size<1000)
  (g:D8 knd s.heap sa [] led) (m:sa≠t)
  (h:∀c f a,(∀b o,b≠sa->s.heap.get? b=some o->c.get? b=some o)->D8 knd c sa a led->Unlike knd a->Keys knd a ks->a.length<=items.size->Q () {s with heap:=c,toks:=f}) :
  qU prog w A (Builtin.Frozenset.updateFrom id sa<|.ref t) Q E s:=by
 have T:s.TypeIs (.ref t) "list" := d.typeIs;have G:=Is;have I:=Iu;have H:(Value.type "list" == Value.type "dict")=false:=by decide
 unfold Builtin.Frozenset.updateFrom;generalize j:pyIter=PI
 wp_walk
 subst j;refine eE d<|show wpAny _ _ _ _ _ _ from A_<|i_ ?_;have C:t<s.heap.objs.size:=by obtain⟨o,e,_⟩:=d;exact J_ e
 have x:sa<s.heap.objs.size:=by obtain⟨o,_,_,_,e,_⟩:=g;exact J_ e
 refine Ml (led:=led) (Mj (items:=items)<|T_ C) q (T_ x) m y u hsz items.size 0 _ [] [] (by omega) ⟨⟨_,H_ _ rfl,rfl,rfl⟩,by obtain⟨o,e,r⟩:=d;exact⟨o,DD _ e,r⟩⟩ ?_ List.Pairwise.nil Md (aE _) (λk=>by simp) λc f a i a2 z D p=>?_
 ·obtain⟨o,F,l,B,e,r⟩:=g;exact⟨o,F,l,B,DD _ e,r⟩
 ·exact B_<|h c f a (λb o n e=>i b o n (T_<|J_ e)<|DD _ e) a2 z D p
end
theorem Iw{K:lU}{H:Hp}:∀{ns:oA Int} {a:oA V},Ax K H (ns.map λn=>AV.D<|.int n) a->a=ns.map V.int
 |[],_,h=>by cases h;rfl
 |n::ns,_,h=>by
  cases h with
  |cons c b=>cases RelA.int c;rw[Iw b];rfl
end L2
namespace L2
open PySem PySem.Spec PySem.Calls PyProof.Rows
def Qaq:AV->AC:=λx f b R=>match x,f with
 |.R a,[y]=>opt (see b y) λd=>opt (b a) λm=>match m with
  |.lst g=>opt (dats g) λc=>B6 d/\B6 (.tuple c)/\opt (c.findIdx? λe=>PyData.eqv e d) λj=>R (.D<|.int (j:Nat)) b
  |_=>False
 |_,_=>False
section
variable {X:Cx}{k:Nat}
def Qcv:A2:=λx y a R=>match x,y with
 |.D (.str i),.D (.str j)=>R (.D<|.bool<|!decide (i=j)) a
 |_,_=>False
def Qar(xs:oA AV)(n:Nat):oA AV:=(List.replicate n xs).flatten
def Qb3:A2:=λx y b R=>match x,y with
 |.R a,.D (.int n)=>opt (b a) λm=>match m with
  |.lst c=>(0<=n/\n<=1000/\c.length<=1000)/\∀p,b p=none->R (.R p) (Al b p<|.lst<|Qar c n.toNat)
  |_=>False
 |_,_=>False
def Km(ns:oA Int):Nat->Int:=preSum λi=>ns.getD i 0
theorem BA{ns:oA Int}(h:∀n∈ns,0<=n/\n<=1000):∀j,j<=ns.length->0<=Km ns j/\Km ns j<=1000*j
 | 0,_=>⟨gM _,gM _⟩
 |j+1,hj=>by
  have a:=BA h j (by omega);have b:=h (ns.getD j 0) (by rw[bJ,E_<|by omega];exact eO _);have e:Km ns (j+1)=Km ns j+ns.getD j 0:=rfl;rw[e];constructor
  ·omega
  ·push_cast;omega
theorem Um:∀(ns:oA Int) (j:Nat),Km ns j=(ns.take j).sum
 |ns,0=>by rw[List.take_zero];rfl
 |ns,j+1=>by
  have e:Km ns (j+1)=Km ns j+ns.getD j 0:=rfl;rw[e,Um ns j,aJ,List.sum_append];congr 1;rw[bJ];cases ns[j]? with
  |none=>rfl
  |some v=>simp
def BB(hc:X.calm=true):Ew X (.builtin "sum") (λl H Q=>∃(p:lT) (ns:oA Int),l=[.ref p]/\Ff X.K H p (ns.map V.int)/\(∀n∈ns,0<=n/\n<=1000)/\ns.length<=1000/\Q (.int ns.sum) H):=by
 intro F s O H l L Q I r h;obtain⟨p,ns,rfl,hq,hb,J,q⟩:=h;obtain⟨u,rfl,w⟩:=Ex r;cases w;obtain⟨f,g,c,hz⟩:=I.list hq;have a:=g.length;rw[C_]at a;refine call_sum_walk<|eE c.isList ?_;have B:p≠s.heap.objs.size:=T_ (by obtain⟨_,d,_⟩:=c.isList;exact J_ d);refine⟨s.heap.objs.size,_,_,_,_,_,λi=>ns.getD i 0,rfl,lM (show X.A.in1.handled=none from I.ok.hd hc) s.heap.objs.size p B f.toArray,?_,?_,?_,?_,λG N M k=>?_⟩
 ·exact⟨⟨_,H_ _ rfl,rfl,rfl⟩,c.isList.at λo e=>DD _ e⟩
 ·intro b hb;have D:p<s.heap.objs.size:=let⟨_,d,_⟩:=c.isList;J_ d
  simp only[List.mem_cons,List.not_mem_nil,or_false]at hb;have y:∀o:l_,(s.heap.push o).objs.size=s.heap.objs.size+1:=λo=>by simp[Heap.push]
  show b<(s.heap.push _).objs.size;rw[y];rcases hb with rfl|rfl
  ·exact dN _
  ·exact dA D
 ·intro i v E;have hv:f[i]?=some v:=by simpa using E
  have m:i<ns.length:=by rw[a];exact(F_.mp hv).1
  obtain⟨u,hu,C⟩:=g.get (i:=i) (x:=V.int ns[i]) (by simp[m]);rw[hv]at hu;cases hu;obtain⟨t,rfl⟩:=(show ∃t,v=Value.int ns[i] t from C);exact⟨t,by simp[m]⟩
 ·intro j hj;rw[aA,<- a]at hj;have h1:=hb (ns.getD j 0) (by rw[bJ,E_ hj];exact eO _);have h2:=BA hb (j+1) hj;have e:preSum (λi=>ns.getD i 0) (j+1)=Km ns (j+1):=rfl;rw[e];show InLong (ns.getD j 0)/\InLong (Km ns<|j+1);generalize Km ns (j+1)=z at h2 ⊢;refine⟨⟨by omega,by omega⟩,by omega,?_⟩;have:=h2.2
  push_cast at this
  omega
 ·have e:preSum (λi=>ns.getD i 0) f.toArray.size=ns.sum:=by
   rw[aA,<- a];show Km ns ns.length=_;rw[Um,aK]
  rw[e];exact⟨.int _,H,I.kept λb o e=>k b o (by
   intro hb;have:b=s.heap.objs.size:=by simpa using hb
   exact absurd (J_ e)<|by rw[this];exact c_ _)<|DD _ e,⟨_,rfl⟩,q⟩
def G1:oA AV->oB (oA Int)
 |[]=>some []
 |.D (.int i)::a=>(G1 a).map (i::·)
 |_=>none
theorem G2{K:lU}{H:Hp}:∀{xs:oA AV} {ns:oA Int} {a:oA V},G1 xs=some ns->Ax K H xs a->a=ns.map V.int
 |[],_,_,e,.nil=>by cases e;rfl
 |x::xs,ns,_,e,.cons c b=>by
  cases x with
  |D d=>
   cases d with
   |int i=>obtain⟨g,f,rfl⟩:=L_.mp<|show(G1 xs).map (i::·)=some ns from e;rw[G2 f b,RelA.int c];rfl
   |_=>cases e
  |_=>cases e
def TM:AC:=λc b R=>match c with
 |[.R a]=>opt (b a) λm=>match m with
  |.lst d=>opt (G1 d) λns=>((∀n∈ns,0<=n/\n<=1000)/\ns.length<=1000)/\R (.D<|.int ns.sum) b
  |_=>False
 |_=>False
def TN(e:X.calm=true):VCall X (.builtin "sum") TM:=by
 intro c s j H t d Q I r l;refine B1 l λv u R i hc h hq=>?_;unfold TM at h;split at h
 ·cases i with
  |cons n a=>
   cases a;obtain⟨m,p,h⟩:=A0 h;split at h
   ·obtain⟨ns,f,h⟩:=A0 h;obtain⟨o,b,q,rfl,g⟩:=hc _ _ p;cases (show _=V.ref _ from n);exact BB e c s j H _ d Q I r ⟨_,ns,rfl,Ff.of<|by rw[b,G2 f g],h.1.1,h.1.2,hq _ _ _ _ Kp.refl hc Ci h.2⟩
   ·exact h.elim
 ·exact h.elim
end
end L2
namespace L2
open PySem PySem.Spec PySem.Calls PyProof.Rows PySem.W
end L2
namespace L2
open PySem PySem.Spec PySem.Calls PyProof.Rows
end L2
namespace L2
open PySem PySem.Spec PySem.Calls PyProof.Rows PySem.W
end L2
namespace L2
open PySem
end L2
namespace L2
open PySem PySem.Spec PySem.Calls PyProof.Rows
def kyD:Key->lR
 |.inl i=>.int i
 |.inr z=>.str z
def TQ{K:lU}{H:Hp}(k:Key):Dk K H (kyD k) (kV k):=by
 cases k with
 |inl i=>exact Df
 |inr z=>exact Rc
section
variable {X:Cx}{k:Nat}
def TR(g:AGs)(t:AA):AS:=λk _ _ _ b d=>t b d λc a=>g c b a k
def HE{ts es:oA lX}{t:AA}{g:AGs}{a i:Nat}{c d b:Pos}(s:X.calm=true)(ha:VA X es t)(r:VGs X ts g)(hn:es.length<=sizeLine:=by decide)
  (n:(assignEach ts X.env).length=es.length:=by rfl) (o:(assignEach ts X.env).findIdx? (·.1)=none:=by rfl)
  (hs:swapsWithSole [.Tuple ts a c] (.Tuple es i d) b.line X.env=pure false:=by rfl) (v:swappedStores [.Tuple ts a c] (.Tuple es i d) X.env=pure none:=by rfl)
  (h1:(assignEach [.Tuple ts a c] X.env).map (·.2)=[assign (.Tuple ts a c) X.env]:=by rfl) :
  VS X (.Assign [.Tuple ts a c] (.Tuple es i d) b) (TR g t) :=
 (X5 (Yd ha) (Qt s r n o) hs v h1).imp λD C H u=>Gi u λm z y nr E A hs hc h hq=>
  ⟨m,z,_,hs,hc,h,λx f q B j w e l hx=>⟨by rw[<- e.length,l];exact hn,λp hp=>
   ⟨p,q,rfl,Iz.of Bc,by rw[<- e.length,l],x,m,f,y,Ax.kp (Kp.new hp _) e,hs.kp<|j.trans<|Kp.new hp _,w.over hp,hx,hq.nx.kp<|j.trans<|Kp.new hp _⟩⟩⟩
abbrev Qas:A2:=JD λi j=>.int<|Builtin.bitOr i j
abbrev TU:A2:=JD λi j=>.int<|Builtin.bitAnd i j
abbrev Qat:A2:=aI CPow λi j=>.int<|i*2^j.toNat
abbrev Qau:A2:=aI (λ_ j=>0<=j) λi j=>.int<|i / 2^j.toNat
def JT:VOp X (binaryOp .BitOr) Qas:=Ri RG λ_ _ _=>Df
def BC:VOp X (binaryOp .BitAnd) TU:=Ri LX λ_ _ _=>Df
def TV:VOp X (binaryOp .LShift) Qat:=SJ LU λ_ _ _=>Df
def TW:VOp X (binaryOp .RShift) Qau:=SJ LW λ_ _ _=>Df
def HF:IR X "int.bit_length" (λx c H Q=>∃i:Int,x=.int i/\c=[]/\Q (.int (Builtin.Int.intBits i:Nat)) H):=by intro d s j H x g v f Q I a r h;obtain⟨i,rfl,rfl,q⟩:=h;obtain⟨t,rfl⟩:=a;cases r;exact call_int_bit_length ⟨.int _,H,I.kept (t':=s.toks+1) λb o e=>e,⟨_,rfl⟩,q⟩
def JU:AV->AC:=λx a b R=>match x,a with
 |.D (.int i),[]=>R (.D<|.int (Builtin.Int.intBits i:Nat)) b
 |_,_=>False
def OJ:VMt X "int.bit_length" JU:=by
 intro c s i H x l v d Q I b r e;refine Fe e λa m j R g f hc h hq=>?_;unfold JU at h;split at h
 ·cases RelA.int g;cases f;exact HF c s i H _ _ v d Q I b r ⟨_,rfl,rfl,hq _ _ _ _ Kp.refl hc Ci h⟩
 ·exact h.elim
def isInt:AV->Prop
 |.D (.int _)=>True
 |_=>False
def Qav(m:AV->AC)(b:AE):AE:=λd c R=>b d c λx a=>isInt x/\m x [] a R
def OK{name:Str}{a:String}{o:lX}{f:AE}{m:AV->AC}{e c:Pos}(slot:Slot "int" name a) (j:typeOf (.builtin a)=pure (.type "method_descriptor")) (l:VMt X a m) (g:VE X o f)
  (r:attributeBase o name X.env (eval o X.env)=eval o X.env:=by rfl) (q:(e.endLine==c.line)=true:=by rfl):VE X (.Call (.Attribute o name e) [] [] c) (Qav m f) :=
 (M6 PySem.F.plainAttrs_int slot j l g r q).imp λy H Q i=>B1 i λu t R p hc h hq=>⟨u,t,_,p,hc,h,λx b v w s n d hx=>⟨by
   obtain⟨hx,_⟩:=hx;unfold isInt at hx;split at hx
   ·cases RelA.int d;exact rfl
   ·exact hx.elim,x,[],b,R,d,.nil,n,hx.2,hq.kp s⟩⟩
def Qaw:AV->AC:=λx c b R=>match x,c with
 |.R a,[]=>opt (b a) λm=>match m with
  |.lst _=>R (.D .none) (Al b a<|.lst [])
  |_=>False
 |_,_=>False
theorem Ix(f:Nat->Int):∀n,argBest (λi j=>decide (f i>f j)) n<=n/\∀i,i<=n->f i<=f (argBest (λi j=>decide (f i>f j)) n)
 | 0=>⟨G_ _,λi a=>by rw[Nat.le_zero.mp a];exact gM _⟩
 |n+1=>by
  obtain⟨h1,h2⟩:=Ix f n;rw[argBest];by_cases c:f (n+1)>f (argBest (λi j=>decide (f i>f j)) n)
  ·rw[N_<|aZ c];refine⟨G_ _,λi a=>?_⟩;rcases bN n i with h|h
   ·rw[show i=n+1 by omega];exact gM _
   ·have:=h2 i h;omega
  ·rw[I_<|by rw[aW];exact c];refine⟨by omega,λi a=>?_⟩;rcases bN n i with h|h
   ·rw[show i=n+1 by omega];omega
   ·exact h2 i h
def W0(hc:X.calm=true):Ew X (.builtin "max") (λy H Q=>∃(p:lT) (ns:oA Int),y=[.ref p]/\Ff X.K H p (ns.map V.int)/\0<ns.length/\∀m,m∈ns->(∀n∈ns,n<=m)->Q (.int m) H):=by
 intro N s R H y P Q I r h;obtain⟨p,ns,rfl,hq,C,q⟩:=h;obtain⟨u,rfl,B⟩:=Ex r;cases B;obtain⟨a,w,d,hz⟩:=I.list hq;have c:=w.length;rw[C_]at c;refine call_max_walk<|eE d.isList ?_;have G:p≠s.heap.objs.size:=T_ (by obtain⟨_,g,_⟩:=d.isList;exact J_ g);have l:∀(i:Nat) (v:lP),a.toArray[i]?=some v->∃n t,ns[i]?=some n/\v=.int n t:=λi v e=>by
  have e:a[i]?=some v:=by simpa using e
  have z:i<ns.length:=by rw[c];exact(F_.mp e).1
  obtain⟨u,hu,t,J⟩:=w.get (i:=i) (x:=.int ns[i]) (by rw[M_,E_ z];rfl);rw[e]at hu;cases hu;exact⟨ns[i],t,E_ z,J⟩
 refine⟨_,_,_,_,_,_,_,rfl,lM (show X.A.in1.handled=none from I.ok.hd hc) s.heap.objs.size p G a.toArray,⟨⟨_,H_ _ rfl,rfl,rfl⟩,d.isList.at λo e=>DD _ e⟩,λb hb=>?_,by rw[aA,<- c];exact C,
  CmpOf.ints_gt (λi=>ns.getD i 0) (λi v e=>by obtain⟨n,t,f,E⟩:=l i v e;exact⟨t,by rw[E,bJ,f];rfl⟩),λv O L M D=>?_⟩
 ·rw[bW];rcases aB.mp hb with rfl|hb
  ·exact dN _
  ·have:b=p:=by simpa using hb
   subst this;exact dA (by obtain⟨_,g,_⟩:=d.isList;exact J_ g)
 ·obtain⟨n,t,f,rfl⟩:=l _ v M;refine⟨.int n,H,I.kept (t':=L) λb o e=>D b o (λhb=>?_)<|DD _ e,⟨t,rfl⟩,q n (V_ f) λm F=>?_⟩
  ·have:b=s.heap.objs.size:=by simpa using hb
   rw[this]at e;exact absurd (J_ e)<|c_ _
  ·obtain⟨j,hj,rfl⟩:=eI F;have h2:=(Ix (λi=>ns.getD i 0)<|a.toArray.size-1).2 j (by rw[aA,<- c];omega);have h2:ns.getD j 0<=ns.getD (argBest (λi j=>decide (ns.getD i 0>ns.getD j 0))<|a.toArray.size-1) 0:=h2;rw[bJ,E_ hj]at h2;refine Int.le_trans h2 ?_;rw[bJ,f];exact gM _
def JV:AC:=λc b R=>match c with
 |[.R a]=>opt (b a) λm=>match m with
  |.lst d=>opt (G1 d) λns=>0<ns.length/\∀m,m∈ns->(∀n∈ns,n<=m)->R (.D<|.int m) b
  |_=>False
 |_=>False
def OL(e:X.calm=true):VCall X (.builtin "max") JV:=by
 intro c s j H t d Q I r l;refine B1 l λv u R i hc h hq=>?_;unfold JV at h;split at h
 ·cases i with
  |cons n a=>
   cases a;obtain⟨m,p,h⟩:=A0 h;split at h
   ·obtain⟨ns,f,h⟩:=A0 h;obtain⟨o,b,q,rfl,g⟩:=hc _ _ p;cases (show _=V.ref _ from n);exact W0 e c s j H _ d Q I r ⟨_,ns,rfl,Ff.of<|by rw[b,G2 f g],h.1,λm h1 h2=>hq _ _ _ _ Kp.refl hc Ci<|h.2 m h1 h2⟩
   ·exact h.elim
 ·exact h.elim
end
section
variable {s:lQ}{E:lP->lQ->Prop}{A:lY}{prog:lV}{w:lW}{K:Type} [DecidableEq K]{knd:HeapKind prog w K}
def sdH{d a:lT}{xs:oA<|K×lT×lP}{k:K}{v:lP}{Q:lP->lQ->Prop}(hu:knd.room A)(hk:knd.is s.heap k a)(B:s.heap.DictOfH knd d xs)(hz:xs.length<=sizeLine)
  (h1:∀p,atKey xs k=some p->Q p.2 {s with toks:=s.toks+knd.draws k})
  (h2:atKey xs k=none->∀i,i.DictOfH knd d (storedH xs k a v)->Heap.SameBut d s.heap i->Q v {s with heap:=i,toks:=s.toks+knd.draws k}):qU prog w A (dictSetDefault d (.ref a) v) Q E s:=by
 obtain⟨o,F,t,g,u,f,h,q,l⟩:=B;unfold dictSetDefault
 (try with_reducible refine bB ?_)
 refine A_<|knd.pyHash hu hk<|A_<|wpAny_dictFind_heap (s:={s with toks:=s.toks+knd.draws k}) hu hk g f h q l (λn=>?_) λj p hj=>?_
 ·have r:=atKey_none_of_get n;have C:k∉xs.map (·.1):=not_mem_keys_of_get n;have D:=size_of_entries h;refine A_ (cV<|A_<|wpAny_updateDictKeys (hz:=by omega) (s:={s with toks:=s.toks+knd.draws k}) g f<|B_<|h2 r _ ?_<|aO ..);have st:=storedH_new (a:=a) (v:=v) r;rw[st];refine⟨_,_,t+1,aG _ g<|Obj.isFreed_of_dict<|Obj.data_mapDictKeys f _,u.mapDictKeys _,Obj.data_mapDictKeys f _,by simp[h,entryOfKey],λx hx=>?_,?_⟩
  ·have c:∀{y:K} {b:lT},knd.is s.heap y b->knd.is (s.heap.update d<|Obj.mapDictKeys λx=>x.push ⟨knd.hash k,.ref a,v⟩) y b:=λhy=>knd.keeps hy g f<|aO ..;rcases S_.mp hx with m|m
   ·exact c<|q x m
   ·rw[O_.mp m];exact c hk
  ·rw[P_];exact bE.mpr ⟨l,by simp,λx hx y hy e=>C (by
    have hy:y=k:=by simpa using hy
    rw[hy]at e;rw[<- e];exact hx)⟩
 ·have z:=atKey_of_get l hj;refine A_<|dH (s:={s with toks:=s.toks+knd.draws k}) g f ?_;rw[entry_at h j,hj];exact A_<|cV<|B_<|h1 _ z
end
section
variable {w:lW}{prog:lV}{K:Type} [DecidableEq K](knd:HeapKind prog w K)(d a:lT)
def W5(h:(d==sysModules)=false)(dflt:lP):MeetsIn prog w (Builtin.«dict.setdefault» ⟨[.ref d,.ref a,dflt],[]⟩) (λA R s=>knd.room A.in1/\∃k c,knd.is s.heap k a/\s.heap.DictOfH knd d c/\c.length<=sizeLine /\
   (∀p,atKey c k=some p->R (.ok<|.ret p.2) {s with toks:=s.toks+knd.draws k}) /\
   (atKey c k=none->∀f,f.DictOfH knd d (storedH c k a dflt)->Heap.SameBut d s.heap f->R (.ok<|.ret dflt) {s with heap:=f,toks:=s.toks+knd.draws k})) :=
 .of_wp λA R s ⟨hu,k,c,hk,g,hz,h1,h2⟩=>by unfold Builtin.«dict.setdefault» Builtin.Dict.keyAndDefault;refine A_<|A_<|fP g.typeIs<|show wpAny _ _ (pure (d,Value.ref a,some dflt)) _ _ s from B_ ?_;show wpAny _ _ (if(d==sysModules)=true then _ else(dictSetDefault d (.ref a) dflt>>=_)) _ _ s;rw[h,I_ Q_];exact A_<|sdH hu hk g hz (λp e=>B_ ⟨_,rfl,h1 p e⟩) λe f m b=>B_ ⟨_,rfl,h2 e f m b⟩
end
section
variable {X:Cx}{aa:oA<|lT×l_}{σ:St}{H:Hp}{s:lQ}{A:lY}{E:lP->lQ->Prop}{a b:lT}{r:lP}{o e f:lX}{ap aj:Pos}{prog:lV}{w:lW}{d it:lT}{es:oC DictEntry}{ep i k:Nat}
def OM{Q:lP->lQ->Prop}{kvs:oA<|oA Key×V}{k:oA Key}{n:V}(hu:A.units+1<cLine)(I:Inv X aa σ H s)(e:H a=some (.dT kvs))(t:H b=some (.tup<|k.map kV))(l:kvs.length<sizeLine)(M:Ba n r)
  (h1:∀v,Ep kvs k=some v->∀y m,Inv X aa σ H m->Ba v y->Q y m) (h2:Ep kvs k=none->∀m,Inv X aa σ (upd H a<|.dT<|putK kvs k n) m->Q r m) :
  qU X.prog X.w A (call (.builtin "dict.setdefault") [.ref a,.ref b,r]) Q E s:=by
 obtain⟨z,x,B,h,dd⟩:=Of I.hok e;have hz:B.length<=sizeLine:=by rw[<- bM h];exact z
 have C:(putK kvs k n).length<=sizeLine:=by have:=Eg kvs k n;omega
 have g:=h.val k;refine iU PySem.F.slot_dict_setdefault dd.typeIs PySem.F.entry_dict_setdefault (PySem.F.args_dict_setdefault_3 _ _ _) (W5 (tupleKind<|Az X.prog X.w) a b x r) ⟨fM hu,k,B,Gw I.hok t,dd,hz,λp hp=>?_,λG R D O=>?_⟩
 ·rw[hp]at g;cases j:Ep kvs k with
  |none=>rw[j]at g;exact g.elim
  |some v=>rw[j]at g;exact h1 v j _ _ (I.tok _) g
 ·rw[G]at g;have j:Ep kvs k=none:=by
   cases j:Ep kvs k with
   |none=>rfl
   |some v=>rw[j]at g;exact g.elim
  refine h2 j _ ?_;obtain⟨q,es,ep,hq,J,N,P,_,L⟩:=D;refine Gc I (by rw[e];exact True.intro) O ⟨q,hq⟩ ⟨C,x,_,(h.put k t M).keeps λc S u=>?_,q,es,ep,hq,J,N,P,L⟩;rw[Ao<|N9 u e λz=>nomatch z];exact u
def Qax(td ty j:TE):TE:=λσ H Q=>td σ H λx h=>∃a,x=.ref a/\YC h a/\ty σ h λy l=>j σ l λz g=>∃c k b,g a=some (.dT c)/\y=.ref b/\g b=some (.tup<|k.map kV)/\c.length<sizeLine /\
 (∀v,Ep c k=some v->Q v g)/\(Ep c k=none->Q z (upd g a<|.dT<|putK c k z))
def ON{td ty p:TE}(hu:X.A.units+1<cLine)(B:PE X o td)(he:PE X e ty)(V:PE X f p)(m:M2 X o "setdefault" ap e f aj):PE X (.Call (.Attribute o "setdefault" ap) [e,f] [] aj) (Qax td ty p):=by intro aa s σ H Q I h;refine wpAny_Call_method m.base m.few m.line gF PySem.F.slot_dict_setdefault PySem.F.type_dict_setdefault<|thn (B aa s σ H _ I h) λu N L=>?_;obtain⟨x,W,n,t,a,T,d,D⟩:=L;subst T;cases (show u=Value.ref a from t);obtain⟨Z,t2,_⟩:=Yn n d;refine⟨Z,t2,?_⟩;rw[m.trees];refine gO rfl<|jQ<|bU<|thn (he aa N σ W _ n D) λiv q M=>Cc M λy G S ry q2=>bU<|thn (V aa q σ G _ S q2) λfv s3 gl=>cJ ?_;obtain⟨z,O,C,j,U,k,b,P,Y,J,l,R,q4⟩:=gl;subst Y;cases (show iv=Value.ref b from ry);exact OM hu C P J l j (λv c w' s4 g fo=>⟨v,O,g,fo,R v c⟩) λc s4 g=>⟨z,_,g,j,q4 c⟩
def Qay(td ty q:AE):AE:=λn p R=>td n p λx h=>match x with
 |.R a=>(∃m,h a=some m/\NX m)/\ty n h λy j=>q n j λz g=>match y with
  |.D (.tuple t)=>opt (Ox t) λl=>opt (g a) λm=>match m with
   |.dt c=>c.length<sizeLine/\(∀v,Bu c l=some v->R v g)/\(Bu c l=none->R z (Al g a<|.dt<|Dr c l z))
   |_=>False
  |_=>False
 |_=>False
def BD{td ty O:AE}(hu:X.A.units+1<cLine)(T:VE X o td)(he:VE X e ty)(hf:VE X f O)(m:M2 X o "setdefault" ap e f aj:=by exact⟨rfl,rfl,rfl,rfl⟩):VE X (.Call (.Attribute o "setdefault" ap) [e,f] [] aj) (Qay td ty O) :=
 (ON hu T he hf m).imp λσ H Q Z=>B1 Z λJ μ R F hc h hq=>⟨J,μ,_,F,hc,h,λx L v H1 p P S hx=>by
  split at hx
  ·rename_i a;obtain⟨⟨m0,I,Y⟩,hx⟩:=hx;cases S;refine⟨a,rfl,Zx P I Y,J,L,_,F.kp p,P,hx,λy G u H2 q c2 ry hy=>⟨J,G,_,(F.kp p).kp q,c2,hy,λz W zv H3 M D N hz=>?_⟩⟩;split at hz
   ·obtain⟨l,C,hz⟩:=A0 hz;obtain⟨m,V,hz⟩:=A0 hz;split at hz
    ·rename_i j;obtain⟨ob,n,U,rfl,t⟩:=D _ _ V;obtain⟨b,xs,rfl,hb,ji⟩:=(Dk.kp M _ _ ry).tup;obtain⟨e0,C⟩:=Ni C;have hb:=hb.heap e0;rw[G9 ji C]at hb;have c:=t.val l;refine⟨U,l,b,n,rfl,hb,by rw[<- bM t];exact hz.1,λv B=>?_,λB=>?_⟩
     ·rw[B]at c;cases g:Bu j l with
      |none=>rw[g]at c;exact c.elim
      |some w=>rw[g]at c;exact hq _ _ _ _ ((p.trans q).trans M) D c (hz.2.1 w g)
     ·rw[B]at c;have g:Bu j l=none:=by
       cases g:Bu j l with
       |none=>rfl
       |some w=>rw[g]at c;exact c.elim
      exact hq _ _ _ _ (((p.trans q).trans M).trans<|Kp.put n trivial _) (D.put n trivial (JL<|t.put l N)) (N.kp<|Kp.put n trivial _) (hz.2.2 g)
    ·exact hz.elim
   ·exact hz.elim
  ·exact hx.elim⟩
def Eu(h:lZ)(d:lT)(es:oC DictEntry)(ep:Nat):Prop:=∃o,h.get? d=some o/\o.ExactDict/\o.data=.dict es ep
def Eu.ty{s:lQ}{d:lT}{es:oC DictEntry}{ep:Nat}(x:Eu s.heap d es ep):s.TypeIs (.ref d) "dict" := by obtain⟨o,h1,h2,_⟩:=x;exact⟨o,h1,h2.1⟩
def Eu.mv{h h':lZ}{d:lT}{es:oC DictEntry}{ep:Nat}(x:Eu h d es ep)(k:∀o,h.get? d=some o->h'.get? d=some o):Eu h' d es ep:=by obtain⟨o,h1,r⟩:=x;exact⟨o,k o h1,r⟩
def Eu.lt{h:lZ}{d:lT}{es:oC DictEntry}{ep:Nat}(x:Eu h d es ep):d<h.objs.size:=by obtain⟨_,h1,_⟩:=x;exact J_ h1
def BE{Q:lP->lQ->Prop}(h:(d==sysModules)=false)(c:Eu s.heap d es ep)
  (q:Q (.ref s.heap.objs.size) {s with heap:=s.heap.push {cls:=.type "dict_keyiterator",data:=.fields #[.ref d,.int 0 0,.int es.size 0,.int ep 0]}}):qU prog w A (pyIter<|.ref d) Q E s:=by
 have T:=c.ty;obtain⟨o,h1,h2,g⟩:=c;refine fA T F.slot_dict_iter<|aU F.slot_dict_iter T F.entry_dict_iter ?_<|F.args_dict_iter_1 _;unfold Builtin.«dict.__iter__» Builtin.Dict.dictSlotNone;refine A_<|A_<|fP T<|show wpAny _ _ (pure<|Value.ref d) _ _ s from B_ ?_;show qU prog w _ (Builtin.Dict.showsAll d>>=_) _ _ s;unfold Builtin.Dict.showsAll;rw[h,I_ Q_];refine A_<|B_<|A_<|dH h1 g<|A_<|fD h1 g<|A_<|aC<|B_ ⟨_,rfl,"dict_keyiterator",_,⟨_,H_ _ rfl,rfl⟩,F.slot_dict_keyiterator_next.lookup,?_⟩;simpa [rawInt] using q
def BF{Q:oB lP->lQ->Prop}(l:s.heap.IsKeyIter it d i es.size ep)(n:Eu s.heap d es ep)(p:i<es.size)
  (q:∀h,h.IsKeyIter it d (i+1) es.size ep->Heap.SameBut it s.heap h->Q (some es[i].key) {s with heap:=h}):qU prog w A (pyNext<|.ref it) Q E s:=by
 have T:=l.typeIs;obtain⟨o,g,t,c⟩:=id l;obtain⟨u,h1,h2,m⟩:=n;unfold pyNext;refine A_<|eB<|bG (name:=Str.ofString "__next__") T F.slot_dict_keyiterator_next<|aU F.slot_dict_keyiterator_next T F.entry_dict_keyiterator_next ?_<|F.args_dict_keyiterator_next_1 _;refine A_<|B_<|A_<|A_ ?_
 first|refine A_ (eZ T<|B_<|A_<|dY g c ?_)|refine A_<|fY T<|B_<|A_<|dY g c ?_
 simp only[show Builtin.Dict_items.ownsTuple "dict_keyiterator" = false by decide,Bool.false_eq_true,if_false];show qU prog w _ (if(Value.ref d==Value.none)=true then _ else _) _ _ s;rw[I_<|by exact Q_];refine A_<|B_<|A_<|dH h1 m ?_;rw[I_<|by simp];refine A_<|B_<|A_<|fD h1 m ?_;rw[I_<|by simp];refine B_ ?_;simp only[show ¬((i:Int)<0) by omega,if_false,Int.toNat_natCast,Array.getElem?_eq_getElem p];refine A_ ?_
 first|refine A_ (eZ T<|B_<|A_<|jG T ?_)|refine A_<|fY T<|B_<|A_<|jG T ?_
 show qU prog w _ (setField (.ref it) 1 (rawInt<|(i:Int)+1)>>=_) _ _ s;refine A_ (cY g c (by simp)<|A_<|bB ?_);have j:(s.heap.update it<|Obj.mapFields (·.setIfInBounds 1 (rawInt<|(i:Int)+1))).IsKeyIter it d (i+1) es.size ep:=⟨_,aG _ g<|dW<|bX c _,(iX ..).trans t,by rw[bX c];simp[rawInt]⟩;refine A_<|jG (s:={s with heap:=s.heap.update it<|Obj.mapFields (·.setIfInBounds 1 (rawInt<|(i:Int)+1))}) j.typeIs<|show wpAny _ _ (pure es[i].key) _ _ _ from ?_;exact B_<|B_ ⟨_,rfl,B_<|q _ j<|aO ..⟩
def HG{Q:oB lP->lQ->Prop}(n:A.handled=none)(h:s.heap.IsKeyIter it d es.size es.size ep)(p:Eu s.heap d es ep)(q:∀j,Heap.ExtBut it s.heap j->Q none {s with heap:=j}):qU prog w A (pyNext<|.ref it) Q E s:=by
 have T:=h.typeIs;obtain⟨o,c,u,g⟩:=id h;obtain⟨t,h1,h2,l⟩:=p;unfold pyNext;refine A_<|eB<|bG (name:=Str.ofString "__next__") T F.slot_dict_keyiterator_next<|aU F.slot_dict_keyiterator_next T F.entry_dict_keyiterator_next ?_<|F.args_dict_keyiterator_next_1 _;refine A_<|B_<|A_<|A_ ?_
 first|refine A_ (eZ T<|B_<|A_<|dY c g ?_)|refine A_<|fY T<|B_<|A_<|dY c g ?_
 simp only[show Builtin.Dict_items.ownsTuple "dict_keyiterator" = false by decide,Bool.false_eq_true,if_false];show qU prog w _ (if(Value.ref d==Value.none)=true then _ else _) _ _ s;rw[I_<|by exact Q_];refine A_<|B_<|A_<|dH h1 l ?_;rw[I_<|by simp];refine A_<|B_<|A_<|fD h1 l ?_;rw[I_<|by simp];refine B_ ?_;simp only[show ¬((es.size:Int)<0) by omega,if_false,Int.toNat_natCast,Array.getElem?_eq_none<|Nat.le_refl es.size];refine A_ ?_
 first|refine A_ (eZ T<|B_ ?_)|refine A_<|fY T<|B_ ?_
 show qU prog w _ (setField (.ref it) 0 .none>>=_) _ _ s;refine A_ (cY c g (by simp)<|show wpAny _ _ (newExc (.type "StopIteration") []>>=_) _ _ _ from A_ ?_);simp only[newExc,newTuple];refine A_ (aC (A_ (m:=firstArgMember _ _)<|eK (a:=Value.none) (by first|rfl|(simp only[firstArgMember];rfl))<|aC ?_<|by size_fits)<|by size_fits);simp only[raiseNew];refine A_<|jN (?_:_);rw[show A.in1.handled=none from n];refine A_<|B_<|jR ?_;refine A_ (bT (T := "StopIteration") (b:=true) (by exact⟨_,H_ _ rfl,rfl⟩) iY ?_);exact B_<|q _<|((aO ..).extBut.push _).push _
def W7(n:A.handled=none)(I d:lT)(m:d≠I)(es:oC DictEntry)(ep:Nat) :
  Walks prog w A I [I,d] [I] es.size (λi v=>∃e,es[i]?=some e/\v=e.key) (λi h=>h.IsKeyIter I d i es.size ep/\Eu h d es ep) where
 sub:=λb hb=>by
  have:b=I:=by simpa using hb
  simp[this]
 frame:=λ_ _ _ st k=>⟨st.1.at λo e=>k I (by simp) o e,st.2.mv λo e=>k d (by simp) o e⟩
 item:=λi s Q E j st g=>BF st.1 st.2 j λc x l=>g _ c s.toks ⟨es[i],by simp[j],rfl⟩ ⟨x,st.2.mv λo e=>l.extBut d o m e⟩ λb o hb e=>l.extBut b o (λz=>hb<|by simp[z]) e
 done:=λs Q E st g=>HG n st.1 st.2 λc x=>g c s.toks λb o hb e=>x b o (λz=>hb<|by simp[z]) e
 self:=λ_ _ _ _ st q=>wpAny_pyIter_keyiter st.1 q
def HH(lo:(d==sysModules)=false):PySem.W.KdlSrc prog w "dict" d d es.size (λi v=>∃e,es[i]?=some e/\v=e.key) (λh=>Eu h d es ep) where
 type:=λ_ x=>x.ty
 there:=λ_ x=>⟨x.lt,x.lt⟩
 keep:=λ_ _ x k=>x.mv λo e=>k d (.inl rfl) o e
 notList:=by decide
 notTuple:=by decide
 hint:=λ_ _ _ _ x q=>PySem.W.kdl_hint_dict x.ty q
 iter:=λ_ _ c x=>⟨_,_,(λ_ _ q=>BE lo x q),W7 c _ d (T_ x.lt) es ep,⟨⟨_,H_ _ rfl,rfl,rfl⟩,x.mv λo e=>DD _ e⟩⟩
theorem JW:∀(c:oA lT),Vals (c.map V.ref) (c.map Value.ref)
 |[]=>.nil
 |_::c=>.cons rfl<|JW c
theorem Uo{h c j:Type}{F:h->c->Prop}{G:h->j->Prop}{f:c->j}:∀{l:oA h} {m:oA c},Paired F l m->(∀x y,F x y->G x (f y))->Paired G l (m.map f)
 |_,_,.nil,_=>.nil
 |_,_,.cons r t,g=>.cons (g _ _ r)<|Uo t g
def Nq(hc:X.calm=true):Ew X (.type "list") (λG H Q=>∃a g,G=[.ref a]/\H a=some (.dT g)/\∀l (x:oA lT),H l=none->Paired (λ(p:oA Key×V) b=>H b=some (.tup<|p.1.map kV)) g x->Q (.ref l) (upd H l<|.lst<|x.map V.ref)):=by
 intro aa s σ H G Y Q I r h;obtain⟨a,g,rfl,ha,q⟩:=h;obtain⟨u,rfl,L⟩:=Ex r;cases L;obtain⟨hz,n,t,v,o,es,ep,h1,h2,O,C,_⟩:=Of I.hok ha;have B:=bM v;have D:es.size=t.length:=by have:=bR List.length C;simpa using this
 refine PySem.W.kdl_call (HH (es:=es) (ep:=ep) n) (I.ok.hd hc) ⟨o,h1,h2,O⟩ (by rw[D,<- B];exact hz) λU T m c P M F=>?_;have N:m.toList=(t.map λy=>y.2.1).map Value.ref:=by
  refine gZ λj=>?_;rw[Z_];rcases(bN j m.size) with hj|hj
  ·obtain⟨e,S,R⟩:=F.2 j m[j] (by simp[hj]);have J:(t.map<|entryOfKey<|tupleKind<|Az X.prog X.w)[j]?=some e:=by rw[<- C,Z_];exact S
   rw[M_]at J;obtain⟨y,hy,rfl⟩:=L_.mp J;rw[M_,M_,hy,aH hj,R];rfl
  ·rw[cK hj,dU<|by rw[C_,C_,<- D,<- F.1];exact hj]
 have x:Paired (λ(p:oA Key×V) b=>H b=some (.tup<|p.1.map kV)) g (t.map λy=>y.2.1):=Uo v λp y z=>z.2.1;refine⟨.ref s.heap.objs.size,_,I.laid (t':=T) (o:=.lst<|(t.map λy=>y.2.1).map V.ref) P (G_ _) ?_,rfl,q _ _ (I.hok.fresh<|G_ _) x⟩;exact⟨by rw[C_,C_,<- B];exact hz,m.toList,c,by rw[N];exact JW _,by simpa using M⟩
def BG:AC:=λh g R=>match h with
 |[.R a]=>opt (g a) λm=>match m with
  |.dt c=>∀p,g p=none->R (.R p) (Al g p<|.lst<|c.map λq=>.D<|.tuple<|q.1.map kyD)
  |_=>False
 |_=>False
theorem R6{K:lU}{H:Hp}:∀(ks:oA Key),An K H (ks.map kyD) (ks.map kV)
 |[]=>Ej
 |k::ks=>D3 (TQ k)<|R6 ks
theorem Up{K:lU}{H:Hp}:∀{kvs:oA<|oA Key×AV} {g:oA<|oA Key×V} {c:oA lT},Er K H kvs g->Paired (λ(p:oA Key×V) b=>H b=some (.tup<|p.1.map kV)) g c->Ax K H (kvs.map λq=>.D<|.tuple<|q.1.map kyD) (c.map V.ref)
 |[],_,_,r,p=>by cases r;cases p;exact .nil
 |_::_,_,_,r,p=>by
  cases r with
  |cons l h=>
   cases p with
   |cons m j=>refine .cons ?_<|Up h j;dsimp only;rw[l.1];exact Ju m<|R6 _
def HI(t:X.calm=true):VCall X (.type "list") BG:=by
 intro aa s σ H C p Q I r q;refine B1 q λD B R v c h hq=>?_;unfold BG at h;split at h
 ·rename_i a;obtain⟨m,y,h⟩:=A0 h;split at h
  ·rename_i u;obtain⟨o,n,z,rfl,rk⟩:=c _ _ y;cases v with
   |cons x j=>cases j;cases x;exact Nq t aa s σ H _ p Q I r ⟨a,z,rfl,n,λl F g hp=>hq (.R l) _ _ _ (Kp.new g _) (c.new g<|C2<|Up rk hp) rfl<|h l<|c.none g⟩
  ·exact h.elim
 ·exact h.elim
end
end L2
namespace L2
open PySem PySem.Spec PyProof.Rows
def Uq(N:oA Str)(pn cn:oA<|Str×mG)(N':oA Str)(mp:oA<|oB Nat):Bool :=
 decide (N'.length=mp.length)&&decide N'.Nodup &&
 (List.range N'.length).all (λk=>match mp[k]?,N'[k]? with
  |some (some i),some x=>decide (N[i]?=some x)&&FJ pn x&&decide ((x,NameKind.free)∈cn)&&decide (cn.lookup x=some .free)
  |_,_=>true) &&
 cn.all (λp=>decide (p.2≠.cell)||decide (cn.lookup p.1=some .cell))&&cn.all (λp=>decide (p.2≠.free)||FJ pn p.1)&&cn.all (λp=>decide (p.2≠.local)||decide (cn.lookup p.1=some .local))
structure CompOkC(N:oA Str)(pn cn:oA<|Str×mG)(N':oA Str)(mp:oA<|oB Nat):Prop where
 len:N'.length=mp.length
 map:∀(k i:Nat) (x:Str),mp[k]?=some (some i)->N'[k]?=some x->N[i]?=some x/\(pn.lookup x=some .cell\/pn.lookup x=some .free)/\(x,NameKind.free)∈cn/\cn.lookup x=some .free
 ownc:∀p∈cn,p.2=.cell->cn.lookup p.1=some .cell
 free:∀p∈cn,p.2=.free->(pn.lookup p.1=some .cell\/pn.lookup p.1=some .free)
 loc:∀p∈cn,p.2=.local->cn.lookup p.1=some .local
def Ap{N:oA Str}{pn cn:oA<|Str×mG}{N':oA Str}{mp:oA<|oB Nat}(h:Uq N pn cn N' mp=true):CompOkC N pn cn N' mp:=by
 unfold Uq at h;obtain⟨h,d⟩:=(bH _ _).mp h;obtain⟨h,c⟩:=(bH _ _).mp h;obtain⟨h,g⟩:=(bH _ _).mp h;obtain⟨h,n⟩:=(bH _ _).mp h;obtain⟨h1,h2⟩:=(bH _ _).mp h;refine⟨aQ h1,λk i x f a=>?_,λp hp e=>?_,λp hp e=>?_,λp hp e=>?_⟩
 ·have hk:k<N'.length:=(F_.mp a).1;have q:=eM.mp n k<|bK.mpr hk;simp only[f,a]at q;obtain⟨q,l⟩:=(bH _ _).mp q;obtain⟨q,b⟩:=(bH _ _).mp q;obtain⟨j,m⟩:=(bH _ _).mp q;exact⟨aQ j,Ol m,aQ b,aQ l⟩
 ·rcases(fB _ _).mp (eM.mp g p hp) with z|z
  ·exact absurd e<|aQ z
  ·exact aQ z
 ·rcases(fB _ _).mp (eM.mp c p hp) with z|z
  ·exact absurd e<|aQ z
  ·exact Ol z
 ·rcases(fB _ _).mp (eM.mp d p hp) with z|z
  ·exact absurd e<|aQ z
  ·exact aQ z
def relabel_back2{env:Env}{names:oA<|Str×mG}{x:Str}(h:((names.map λ(n,k)=>if(k==NameKind.free&&env.scope.kind==.function&&env.kindOf n==some .cell) then(n,NameKind.cell) else(n,k)).lookup x=some .cell \/
  (names.map λ(n,k)=>if(k==NameKind.free&&env.scope.kind==.function&&env.kindOf n==some .cell) then(n,NameKind.cell) else(n,k)).lookup x=some .free)):(x,NameKind.free)∈names\/(x,NameKind.cell)∈names:=by
 have a:∀k,(names.map λ(n,k)=>if(k==NameKind.free&&env.scope.kind==.function&&env.kindOf n==some .cell) then(n,NameKind.cell) else(n,k)).lookup x=some k->(k=.cell\/k=.free)->(x,NameKind.free)∈names\/(x,NameKind.cell)∈names:=λk hk hc=>by
  obtain⟨⟨n,c⟩,b,e⟩:=D_.mp<|mem_of_lookup hk;dsimp only at e;split at e
  ·rename_i hb;cases e;simp only[Bool.and_eq_true]at hb;have:c=.free:=by simpa using hb.1.1
   subst this;exact .inl b
  ·cases e;rcases hc with rfl|rfl
   ·exact .inr b
   ·exact .inl b
 exact h.elim (λz=>a _ z<|.inl rfl) λz=>a _ z<|.inr rfl
theorem cf_dich:∀{names:oA<|Str×mG} {n:Nat} {acc:oA<|Str×lT} {x:Str} {c:lT},(cellsFrom n names acc).lookup x=some c->(n<=c/\(x,NameKind.cell)∈names)\/acc.lookup x=some c
 |[],_,_,_,_,h=>.inr h
 | (d,k)::r,n,acc,x,c,h=>by
  unfold cellsFrom at h;split at h
  ·rename_i hk;have hk:k=.cell:=by simpa using hk
   rcases cf_dich h with⟨a,b⟩|z
   ·exact .inl ⟨iW a,.tail _ b⟩
   ·rw[dE]at z;cases e:x==d with
    |true=>rw[e]at z;cases z;rw[kF.mp e,hk];exact .inl ⟨G_ _,.head _⟩
    |false=>rw[e]at z;exact .inr z
  ·rcases cf_dich h with⟨a,b⟩|z
   ·exact .inl ⟨a,.tail _ b⟩
   ·exact .inr z
theorem F6:∀{names:oA<|Str×mG} {n:Nat} {acc:oA<|Str×lT} {x:Str},(∃c,acc.lookup x=some c)->∃c,(cellsFrom n names acc).lookup x=some c
 |[],_,_,_,h=>h
 | (a,k)::r,n,acc,x,⟨c,h⟩=>by
  unfold cellsFrom;split
  ·refine F6 ?_;rw[dE];cases x==a with
   |true=>exact⟨_,rfl⟩
   |false=>exact⟨c,h⟩
  ·exact F6 ⟨c,h⟩
theorem R7:∀{names:oA<|Str×mG} {n:Nat} {acc:oA<|Str×lT} {x:Str},(x,NameKind.cell)∈names->∃c,(cellsFrom n names acc).lookup x=some c
 | (a,k)::r,n,acc,x,h=>by
  unfold cellsFrom;rcases aB.mp h with e|e
  ·cases e;rw[N_<|show(NameKind.cell==NameKind.cell)=true from rfl];refine F6 ?_;rw[dE,lF];exact⟨_,rfl⟩
  ·split
   ·exact R7 e
   ·exact R7 e
theorem R8:∀{names:oA<|Str×mG} {n:Nat} {acc:oA<|Str×lT},(∀x y c,acc.lookup x=some c->acc.lookup y=some c->x=y)->(∀x c,acc.lookup x=some c->c<n)->∀x y c,(cellsFrom n names acc).lookup x=some c->(cellsFrom n names acc).lookup y=some c->x=y
 |[],_,_,h,_,x,y,c,f,d=>h x y c f d
 | (g,k)::r,n,acc,h,i,x,y,c,f,d=>by
  unfold cellsFrom at f d;split at f
  ·rename_i hk;rw[N_ hk]at d;refine R8 (acc:=(g,n)::acc) (λx y c f d=>?_) (λx c e=>?_) x y c f d
   ·rw[dE]at f d;cases a:x==g<;>cases b:y==g<;>rw[a]at f<;>rw[b]at d
    ·exact h x y c f d
    ·cases d;exact absurd (i _ _ f)<|c_ _
    ·cases f;exact absurd (i _ _ d)<|c_ _
    ·rw[kF.mp a,kF.mp b]
   ·rw[dE]at e;cases a:x==g<;>rw[a]at e
    ·exact dA<|i x c e
    ·cases e;exact dN _
  ·rename_i hk;rw[I_ hk]at d;exact R8 h i x y c f d
theorem Nr:∀{names:oA<|Str×mG} {h:lZ} {acc:oA<|Str×lT},(∀x c,acc.lookup x=some c->∃v,h.IsCell c v)->∀x c,(cellsFrom h.objs.size names acc).lookup x=some c->∃v,(pushCells h names).IsCell c v
 |[],_,_,hc,x,c,e=>hc x c e
 | (f,k)::r,h,acc,hc,x,c,e=>by
  unfold cellsFrom at e;unfold pushCells;split at e
  ·rename_i hk;rw[N_ hk];have g:(cellsFrom (h.push {cls:=.type "cell",data:=.cell none}).objs.size r<|(f,h.objs.size)::acc).lookup x=some c:=by rw[bW];exact e
   refine Nr (λy d z=>?_) x c g;rw[dE]at z;cases a:y==f<;>rw[a]at z
   ·obtain⟨v,q⟩:=hc y d z;exact⟨v,q.keeps λb o e=>DD _ e⟩
   ·cases z;exact⟨none,_,H_ _ rfl,rfl⟩
  ·rename_i hk;rw[I_ hk];exact Nr hc x c e
def Nt(names:oA<|Str×mG)(x:Str):Bool:=match names.lookup x with
 |some .cell=>true
 |_=>false
theorem R9:∀{names:oA<|Str×mG} {n m:Nat} {acc:oA<|Str×lT} {x:Str} {c:lT},m<=n->(cellsFrom n names acc).lookup x=some c->((x,NameKind.cell)∈names\/∀b,acc.lookup x=some b->m<=b)->m<=c
 |[],_,_,_,_,_,_,h,z=>z.elim (λz=>nomatch z) λz=>z _ h
 | (f,k)::r,n,m,acc,x,c,d,h,z=>by
  unfold cellsFrom at h;split at h
  ·refine R9 (bA d) h ?_;cases a:x==f with
   |true=>refine .inr λb e=>?_;rw[dE,a]at e;cases e;exact d
   |false=>
    rcases z with z|z
    ·rcases aB.mp z with e|e
     ·cases e;rw[lF]at a;cases a
     ·exact .inl e
    ·refine .inr λb e=>?_;rw[dE,a]at e;exact z b e
  ·rename_i hk;refine R9 d h<|z.imp_left λz=>?_;rcases aB.mp z with e|e
   ·cases e;exact absurd rfl hk
   ·exact e
def Sa{names:oA<|Str×mG}{x:Str}(h:Nt names x=true):(x,NameKind.cell)∈names:=by
 unfold Nt at h;split at h
 ·rename_i e;exact mem_of_lookup e
 ·cases h
def Nu{M:Model}{A:lY}{E:lP->lQ->Prop}{s:lQ}{a:mF}{globals:lT}{cl:oA<|Str×lT}{b:Str}{outer:Env}{Q:Env->lQ->Prop}
  (f:Q (newEnv a s.heap.objs.size globals (cellsFrom (s.heap.objs.size+1) a.names cl) b none .none (some outer) builtinsNs) {s with heap:=pushCells (s.heap.push {cls:=.type "dict",data:=.dict #[]}) a.names}) :
  wpAny M A (newFunctionEnv a globals cl [] b none .none<|some outer) Q E s:=by
 simp only[newFunctionEnv,Option.isSome_some,if_true];refine A_<|wpAny_alloc ?_;refine A_ (wpAny_layCells _ (λe c d=>by cases yp:c==NameKind.cell<;>simp[yp]) _ _ _ _ ?_);rw[show({s with heap:=s.heap.push {cls:=.type "dict",data:=.dict #[]}}:lQ).heap.objs.size=s.heap.objs.size+1 from bW ..];exact A_<|by rw[List.forIn_nil];exact B_<|B_ f
def Bi(X:Cx)(N':oA Str)(a:mF)(C:lT)(s:lQ)(H:Hp)(fp:oA lT):Cx :=
 {X with N:=N',s₀:=s,H₀:=H,env:=compEnvC a (cellsFrom (C+1) a.names<|Ez X.env.cells a.names []) C X.env,outer:=X.stack,stack:=X.stack,ex:=fp,fn:=Nt a.names,pn:=[],xe:=λ_ _=>False}
section
variable {X:Cx}{N':oA Str}{mp:oA<|oB Nat}{dy tg iter:lX}{c7:oA lX}{scope:mF}{pos:Pos}{wi:TI}{g:TG}{tst:TT}{te:TE}
def Inv.comp0C{F:oA<|lT×l_}{h:St}{H:Hp}{s:lQ}{fp:oA lT}{tn:lZ->Prop}{a:lZ}{tk:Nat}{C:lT}(ok:CompOkC X.N X.env.scope.names scope.names N' mp)(hk:scope.kind=.function) (I:Inv X F h H s) (E:∀b∈fp,Ja X F H b) (jp:∀b∈fp,∃o,s.heap.get? b=some o) (hC:C=s.heap.objs.size+1) (S:∃m,a.Ns C m) (d:∀b o,s.heap.get? b=some o->a.get? b=some o) (bn:∃n,a.get? s.heap.objs.size=some {cls:=.type "list",data:=.seq #[] n}) (Z:∀x c,(cellsFrom (C+1) scope.names<|Ez X.env.cells scope.names []).lookup x=some c->∃v,a.IsCell c v) :
  Inv (Bi X N' scope C s H fp) [] (Oj mp h) (upd H s.heap.objs.size<|.lst []) {s with heap:=a,toks:=tk}:=by
 subst hC;have P:∀x∈scope.names,x.2=.free->∃c,X.env.cells.lookup x.1=some c:=λx hx e=>I.ok.has x.1<|ok.free x hx e;have sub:∀x c,(Ez X.env.cells scope.names []).lookup x=some c->X.env.cells.lookup x=some c:=G6 P (λx c e=>by simp at e);have w:∀x c,(cellsFrom (s.heap.objs.size+1+1) scope.names<|Ez X.env.cells scope.names []).lookup x=some c->(s.heap.objs.size+1+1<=c/\(x,NameKind.cell)∈scope.names)\/X.env.cells.lookup x=some c:=λx c e=>(cf_dich e).imp_right λz=>sub x c z;have J:∀b∈fp,b<s.heap.objs.size:=λb hb=>by obtain⟨_,e⟩:=jp b hb;exact J_ e
 have A:H (s.heap.objs.size+1)=none:=I.hok.fresh<|eA _;have V:H s.heap.objs.size=none:=I.hok.fresh<|G_ _;have W:∀b∈fp,b∉frs X.stack:=λb hb z=>by
  obtain⟨_,T,U,_⟩:=E b hb;rcases aB.mp (I.stkSub b z) with e|e
  ·exact T e
  ·exact U e
 refine⟨⟨I.ok.mod,hk,I.ok.glob,I.ok.blt,eA _,R8 (λx y c D B=>I.ok.inj x y c (sub x c D)<|sub y c B) (λx c e=>by obtain⟨_,z⟩:=I.cell x c<|sub x c e;exact dA<|dA z.lt),λx e=>?_,λx c R e=>K_ (bA<|eA _)<|R9 (G_ _) e<|.inl<|Sa R,I.ok.hd,I.ok.frames,.inl rfl,λb hb=>⟨?_,λx c e=>?_⟩,I.bs,K_ I.ok.bsz I.sz,λb o e hb=>?_,W,I.stack,I.stkFree⟩,
  rfl,I.bare,Un.laid d (G_ _) V,?_,λx c e=>?_,?_,λx c e=>?_,λp hp=>(nomatch hp),I.hok.laid d (G_ _) ?_,?_⟩
 ·rcases relabel_back2 e with z|z
  ·exact F6<|G7 z
  ·exact R7 z
 ·exact T_<|dA<|J b hb
 ·rcases w x c e with⟨z,_⟩|z
  ·exact λq=>absurd (q ▸ J b hb)<|Nat.not_lt_of_le<|K_ (bA<|eA _) z
  ·exact(E b hb).2.2.2.2.1 x c z
 ·rcases(E b hb).2.2.2.1 with z|z
  ·exact I.ok.noex b o e z
  ·exact absurd (Y_ (J_ e)<|K_ I.ok.bsz z)<|c_ _
 ·obtain⟨m,hm⟩:=S;refine⟨m,hm,λi x v D B e3=>?_⟩;have f:(Oj mp h)[i]?=some (some v):=B;unfold Oj at f;rw[M_]at f;cases hmp:mp[i]? with
  |none=>rw[hmp]at f;cases f
  |some o=>
   rw[hmp]at f;cases o with
   |none=>cases f
   |some j=>
    have e4:h[j]?=some (some v):=by
     have q:(h[j]?).join=some v:=aX f;cases hj:h[j]? with
     |none=>rw[hj]at q;cases q
     |some y=>rw[hj]at q;exact bR some q
    obtain⟨Q,a2,a3,L⟩:=ok.map i j x hmp D;obtain⟨m0,M,O⟩:=I.loc;obtain⟨u,r,l⟩:=O j x v Q e4<|a2.elim (λz=>.inr<|.inl z) λz=>.inr<|.inr z;refine⟨u,r,.inr ⟨?_,?_⟩⟩
    ·exact M8 L
    ·rcases l with⟨t,_⟩|⟨_,c,Y,l3⟩
     ·have t:X.env.scope.names.lookup x=some .local:=t;rcases a2 with a2|a2<;>rw[a2]at t<;>cases t
     ·obtain⟨k,G⟩:∃k,(cellsFrom (s.heap.objs.size+1+1) scope.names<|Ez X.env.cells scope.names []).lookup x=some k:=F6<|G7 a3;have:k=c:=by
       rcases w x k G with⟨_,z⟩|z
       ·have:=ok.ownc _ z rfl;rw[L]at this;cases this
       ·exact aX<|z.symm.trans Y
      subst this;exact⟨k,G,l3.keeps d⟩
 ·exact Z x c e
 ·show upd H s.heap.objs.size (.lst []) (s.heap.objs.size+1)=none;rw[Ao<|Nat.succ_ne_self _];exact A
 ·show upd H s.heap.objs.size (.lst []) c=none;rcases w x c e with⟨z,_⟩|z
  ·rw[Ao<|fV<|Y_ (dA<|dN _) z];exact I.hok.fresh<|K_ (bA<|eA _) z
  ·obtain⟨v,y⟩:=I.cell x c z;rw[Ao<|T_ y.lt];exact I.freeC x c z
 ·obtain⟨n,e⟩:=bn;exact⟨aE _,[],n,.nil,e⟩
 ·show(Oj mp h).length=N'.length;unfold Oj;rw[C_,ok.len]
def Mm{aa:oA<|lT×l_}{σ:St}{H:Hp}{s:lQ}{it:lT}{fp:oA lT}{tn:Nat->lZ->Prop}{J:It}{Q:lT->Hp->Prop}{E:lP->lQ->Prop}{RR:lP->lT->mH->lQ->Prop}
  (ok:CompOkC X.N X.env.scope.names scope.names N' mp) (hk:scope.kind=.function) (hc:X.calm=true) (I:Inv X aa σ H s) (T:Turn X.prog X.w X.K tg J fp it tn) (st:tn 0 s.heap) (hf:∀b∈fp,Ja X aa H b)
  (hg:∀C s H fp,PG (Bi X N' scope C s H fp) tg g) (ht:∀C s H fp,PIfs (Bi X N' scope C s H fp) c7 tst) (he:∀C s H fp,PE (Bi X N' scope C s H fp) dy te)
  (h:∀p,H p=none->Yt p J g tst te (Q p) (Oj mp σ) (upd H p<|.lst []))
  (hRR:∀C O H',Inv X aa σ H' O->(∃m,O.heap.Ns C m)->H' C=none->X.s₀.heap.objs.size<=C->C≠X.env.locals->(∀x c,X.env.cells.lookup x=some c->c≠C)->(∀q∈X.pn++aa,q.1≠C)->Q s.heap.objs.size H'->RR (.ref s.heap.objs.size) C (.ok .next) O) :
  qU X.prog X.w X.A (newList []) (λf a=>qU X.prog X.w X.A (newFunctionEnv scope X.env.globals (Ez X.env.cells scope.names []) [] X.env.qual none .none<|some X.env) (λxk U=>
   codeAny (model X.prog X.w) X.A (.compStart (.ListComp dy [⟨tg,iter,c7,0⟩] scope pos) 0 (.ref it) f {xk with scope:=relabel scope X.env}) (RR f xk.locals) U) E a) E s:=by
 refine aC<|Nu ?_;dsimp only;generalize va:s.heap.push {cls:=.type "list",dict:=none,data:=.seq ([]:oA lP).toArray}=H2;have hC:H2.objs.size=s.heap.objs.size+1:=by rw[<- va,bW]
 have v9:∀b o,H2.get? b=some o->(pushCells (H2.push {cls:=.type "dict",data:=.dict #[]}) scope.names).get? b=some o:=λb o e=>pushCells_keeps _ _ b o<|DD _ e;have k:∀b o,s.heap.get? b=some o->(pushCells (H2.push {cls:=.type "dict",data:=.dict #[]}) scope.names).get? b=some o:=λb o e=>v9 b o<|va ▸ DD _ e;have bn:∃n,(pushCells (H2.push {cls:=.type "dict",data:=.dict #[]}) scope.names).get? s.heap.objs.size=some {cls:=.type "list",data:=.seq #[] n} :=
  ⟨_,v9 _ _<|va ▸ H_ _ rfl⟩
 have j:(pushCells (H2.push {cls:=.type "dict",data:=.dict #[]}) scope.names).Ns H2.objs.size λ_=>none:=(Heap.Ns.new H2<|.type "dict").keeps<|pushCells_keeps _ _;have zag:∀x∈scope.names,x.2=.free->∃c,X.env.cells.lookup x.1=some c:=λx hx e=>I.ok.has x.1<|ok.free x hx e;have jr:∀x c,(cellsFrom (H2.objs.size+1) scope.names<|Ez X.env.cells scope.names []).lookup x=some c->∃v,(pushCells (H2.push {cls:=.type "dict",data:=.dict #[]}) scope.names).IsCell c v:=λx c e=>by refine Nr (h:=H2.push {cls:=.type "dict",data:=.dict #[]}) (λy d z=>?_) x c (by rw[bW];exact e);obtain⟨v,q⟩:=I.cell y d (G6 zag (λx c e=>by simp at e) y d z);exact⟨v,q.keeps λb o e=>DD _<|va ▸ DD _ e⟩
 generalize pushCells (H2.push {cls:=.type "dict",data:=.dict #[]}) scope.names=h₁ at k bn j jr;have jp:∀b∈fp,∃o,s.heap.get? b=some o:=λb hb=>by obtain⟨o,e,_⟩:=T.obj _ _ st b hb;exact⟨o,e⟩
 have my:s.heap.objs.size<=H2.objs.size:=by rw[hC];exact eA _
 have I0:=I.comp0C (tn:=tn 0) (C:=H2.objs.size) (tk:=s.toks) ok hk hf jp hC ⟨_,j⟩ k bn jr;have n8:tn 0 h₁:=T.keep _ _ _ st λb hb o e=>k b o e;obtain⟨W,⟨m0,w0⟩,iu⟩:=h _<|I.hok.fresh<|G_ _;have p7:∀b∈fp,b∉frs X.stack:=I0.ok.exfs;have i4:∀{H':Hp},(∀b∈fp,H' b=none)->∀b∈fp,Ja (Bi X N' scope H2.objs.size s H fp) [] H' b:=λhn b hb=>
  ⟨hn b hb,(I0.ok.exf b hb).1,p7 b hb,.inl hb,(I0.ok.exf b hb).2,λq hq=>(nomatch hq)⟩
 have D:∀a:lQ,a={s with heap:=h₁} ->
   codeAny (model X.prog X.w) X.A (.compLoop (.ListComp dy [⟨tg,iter,c7,0⟩] scope pos) 0 (.ref it) (.ref s.heap.objs.size)<|compEnvC scope (cellsFrom (H2.objs.size+1) scope.names<|Ez X.env.cells scope.names []) H2.objs.size X.env) (RR (.ref s.heap.objs.size) H2.objs.size) a:=by
  rintro a rfl;refine Oi (λn O=>∃i f l H',Inv (Bi X N' scope H2.objs.size s H fp) [] l H' O/\tn i O.heap/\(∀b∈fp,H' b=none)/\W i n f l H') ?_ m0
   ⟨0,[],_,_,I0,n8,λb hb=>by rw[Ao<|T_ (by obtain⟨_,e⟩:=jp b hb;exact J_ e)];exact(hf b hb).1,w0⟩
  rintro n s3 ⟨i,f,B,H3,I3,Y,S,w3⟩;rcases iu i n f B H3 w3 with⟨stop,qn⟩|⟨go,N,hN,step⟩
  ·refine thn (T.done (Bi X N' scope H2.objs.size s H fp) rfl rfl rfl hc i [] s3 B H3 _ I3 (i4 S) Y stop) λr s4 ⟨hr,P⟩=>?_;subst hr;refine hRR _ s4 H3 ?_ (by obtain⟨m,hm,_⟩:=P.loc;exact⟨m,hm⟩) P.free (K_ I.sz my) (fV<|Y_ I.lt my) (λx c e=>?_) (λq hq=>?_) qn
   ·exact I.call' P.os P.base P.hok P.bare λb hb=>by obtain⟨_,f1,_,f3,f4,f5⟩:=hf b hb;exact⟨f3,f1,f4,f5⟩
   ·obtain⟨v,z⟩:=I.cell x c e;exact T_<|Y_ z.lt my
   ·exact T_<|Y_ (J_ (I.pin q hq).1) my
  ·refine thn (T.item (Bi X N' scope H2.objs.size s H fp) rfl rfl rfl hc i [] s3 B H3 _ I3 (i4 S) Y go) λr s4 ⟨u,hr,h4⟩=>?_;subst hr;refine thn h4 λ_ s5 si=>?_;obtain⟨x,H5,I5,r5,y5,G,fr5⟩:=si;have I5':=I5.pinned (i4 fr5)<|T.obj _ _ G;refine thn (hg _ _ _ _ _ s5 B H5 x u _ I5' r5<|step x H5 y5) λ_ s6 tz=>?_;obtain⟨F,H6,I6,q6⟩:=tz;refine thn (ht _ _ _ _ _ s6 F H6 _ I6 q6) λb s7 ⟨H7,I7,Z⟩=>?_;have again:∀{t:St} {L:Hp} {qk:oA V} {M:lQ},Inv (Bi X N' scope H2.objs.size s H fp) ([]++Jm fp s5.heap) t L M->(∃m',m'<n/\W (i+1) m' qk t L) ->
     ∃m,m<n/\∃i f l H',Inv (Bi X N' scope H2.objs.size s H fp) [] l H' M/\tn i M.heap/\(∀b∈fp,H' b=none)/\W i m f l H':=λ{t L qk M} R hw=>by
    obtain⟨m',hm,w8⟩:=hw;refine⟨m',hm,i+1,qk,t,L,R.unpinned,T.keep _ _ _ G λb hb o e=>(R.pin (b,o)<|aN _<|aN _<|Fg hb e).1,λb hb=>?_,w8⟩;obtain⟨o,e,d⟩:=T.obj _ _ G b hb;exact(R.pin (b,o)<|aN _<|aN _<|Fg hb e).2.1
   cases b with
   |false=>rw[I_ Q_];rw[I_ Q_]at Z;exact again I7 (hN _ _ _ Z)
   |true=>rw[N_ rfl];rw[N_ rfl]at Z;refine thn (he _ _ _ _ _ s7 F H7 _ I7 Z) λy M se=>?_;obtain⟨v,L,R,r8,ac,e8,z8,w8⟩:=se;refine thn (Lx (X:=Bi X N' scope H2.objs.size s H fp) _ M F L (.ref s.heap.objs.size) [v] (.ref s.heap.objs.size) [y] (λ_ H9=>H9=upd L s.heap.objs.size (.lst<|ac++[v])) R rfl (.cons r8 .nil) ⟨_,ac,v,rfl,rfl,e8,z8,rfl⟩) λ_ s9 wy=>?_;obtain⟨_,H9,I9,_,e9⟩:=wy;subst e9;exact again I9<|hN _ _ _ w8
 exact codeAny_compStart_list (D _ rfl)<|T.self _ 0 _ _ _ n8<|D _ rfl
def Pp(hc:X.calm=true)(E:PI X tg iter wi)(r:∀C s H a,PG (Bi X N' scope C s H a) tg g)(u:∀C s H a,PIfs (Bi X N' scope C s H a) c7 tst)(he:∀C s H a,PE (Bi X N' scope C s H a) dy te)
  (ok:CompOkC X.N X.env.scope.names scope.names N' mp) (hk:scope.kind=.function:=by rfl) (hs:∀x,foldedSetIterable iter X.env x=pure x:=by intro _;rfl) :
  PE X (.ListComp dy [⟨tg,iter,c7,0⟩] scope pos) (Yu mp wi g tst te):=by
 intro d s f H Q I h;rw[eval_ListComp];refine wpAny_comprehension_free (use:=none) rfl hs (Gp λx hx e=>I.ok.has x.1<|ok.free x hx e) hk ok.loc<|thn (E d s f H _ I h) λv S h1=>thn h1 λU i h2=>?_;obtain⟨O,a,L,J,P,e,y,T,l,o,D⟩:=h2;subst e;refine Mm (Q:=λp c=>Q (.ref p) c) (RR:=λb C=>compPost (model X.prog X.w) X.A X.xe none (EP X d f Q) b C) ok hk hc y T l o r u he D ?_;intro C R c F n t h1 k j B q;obtain⟨m,z⟩:=n;exact⟨m,z,λM G=>⟨.ref i.heap.objs.size,c,F.letgo t h1 k j B G,rfl,q⟩⟩
def BH{i:Nat}{y:Str}{b z:Pos}(hc:X.calm=true)(hN:X.N.Nodup)(Y:X.N[i]?=some y)(hy:X.env.scope.names.lookup y=some .local) (Z:PI X tg iter wi) (L:∀C s H d,PG (Bi X N' scope C s H d) tg g) (P:∀C s H d,PIfs (Bi X N' scope C s H d) c7 tst) (he:∀C s H d,PE (Bi X N' scope C s H d) dy te)
  (ok:CompOkC X.N X.env.scope.names scope.names N' mp) (V:swapsWith (.ListComp dy [⟨tg,iter,c7,0⟩] scope pos) (some<|.Name y b) z.line X.env=pure true:=by rfl)
  (hk:scope.kind=.function:=by rfl) (hs:∀x,foldedSetIterable iter X.env x=pure x:=by intro _;rfl) :
  PS X (.Assign [.Name y b] (.ListComp dy [⟨tg,iter,c7,0⟩] scope pos) z) (EK (Yu mp wi g tst te)<|X3 i):=by
 intro f s B H D I h;rw[exec_Assign_Name_used _ _ _ _ V];refine A_<|iF<|A_ ?_;show wpAny _ _ (do let _ <- comprehension (.ListComp dy [⟨tg,iter,c7,0⟩] scope pos) scope X.env _ (newList []) false (eval iter X.env) (some<|assign (.Name y b) X.env)) _ _ s;refine A_<|bD (wpAny_comprehension_free (use:=some<|assign (.Name y b) X.env) (Q:=λ_ c=>SP X f D .next c) rfl hs (Gp λx hx e=>I.ok.has x.1<|ok.free x hx e) hk ok.loc
  (thn (Z f s B H _ I h) λv s1 h1=>thn h1 λyf r h2=>?_)) (λ_ c hq=>B_<|B_ hq) λ_ _ e=>e
 obtain⟨it,d,tn,J,H2,e,R,T,E,G,W⟩:=h2;subst e;refine Mm (Q:=λp n=>D.nx (B.set i<|some<|.ref p) n) (RR:=λk C=>compPost (model X.prog X.w) X.A X.xe (some<|assign (.Name y b) X.env) (λ_ c=>SP X f D .next c) k C) ok hk hc R T E G L P he W ?_;intro C c n I' F M h1 u t U q;obtain⟨m,S⟩:=F;show wpAny _ _ (assign (.Name y b) X.env<|.ref r.heap.objs.size) _ _ c;refine wpAny_assign_Name<|Lq I' hN Y (.inl hy) (v:=.ref r.heap.objs.size) rfl (λyg o O=>?_)<|.inr hy;obtain⟨a,j,ha⟩:=O;have l:C≠a:=by
  rcases ha with rfl|ha
  ·exact u
  ·exact(t _ _ ha).symm
 refine⟨m,S.sameBut j l,λh' fh=>?_⟩;exact⟨_,n,o.letgo M h1 u t U fh,q⟩
def Bk{wi:AI}{g:AG}{tst:AT}{te:AE}(hc:X.calm=true)(b:VI X tg iter wi)(c:∀C s H a,VG (Bi X N' scope C s H a) tg g)(d:∀C s H a,VIfs (Bi X N' scope C s H a) c7 tst)(he:∀C s H a,VE (Bi X N' scope C s H a) dy te)
  (ok:CompOkC X.N X.env.scope.names scope.names N' mp) (hk:scope.kind=.function:=by rfl) (hs:∀x,foldedSetIterable iter X.env x=pure x:=by intro _;rfl) :
  VE X (.ListComp dy [⟨tg,iter,c7,0⟩] scope pos) (Ow mp wi g tst te):=(Pp (g:=cG X.K g) (tst:=cT X.K tst) (te:=cE X.K te) hc b (λC s H a=>c C s H a) (λC s H a=>d C s H a) (λC s H a=>he C s H a) ok hk hs).imp λ_ _ _ h=>L8 h
def Dc{wi:AI}{g:AG}{tst:AT}{te:AE}{i:Nat}{y:Str}{c e:Pos}(hc:X.calm=true)(t:X.N.Nodup)(n:X.N[i]?=some y)(hy:X.env.scope.names.lookup y=some .local)
  (o:VI X tg iter wi) (j:∀C s H a,VG (Bi X N' scope C s H a) tg g) (k:∀C s H a,VIfs (Bi X N' scope C s H a) c7 tst) (he:∀C s H a,VE (Bi X N' scope C s H a) dy te)
  (ok:CompOkC X.N X.env.scope.names scope.names N' mp) (l:swapsWith (.ListComp dy [⟨tg,iter,c7,0⟩] scope pos) (some<|.Name y c) e.line X.env=pure true:=by rfl)
  (hk:scope.kind=.function:=by rfl) (hs:∀x,foldedSetIterable iter X.env x=pure x:=by intro _;rfl) :
  VS X (.Assign [.Name y c] (.ListComp dy [⟨tg,iter,c7,0⟩] scope pos) e) (Lh (Ow mp wi g tst te)<|Dd i):=(BH (g:=cG X.K g) (tst:=cT X.K tst) (te:=cE X.K te) hc t n hy o (λC s H a=>j C s H a) (λC s H a=>k C s H a) (λC s H a=>he C s H a) ok l hk hs).imp λD z H b=>Gi b λp r A nr B u hs hc h hq=>
 L8 (K:=X.K) ⟨p,r,_,hs,hc,h,λx q v w d m f hx=>hq.nx _ _ _ _ d ((hs.kp d).set f i) m hx⟩
end
end L2
namespace L2
open PySem PySem.Spec PySem.Calls PyProof.Rows
abbrev RIt(h:lZ)(it d:lT)(i n ep:Nat)(z:lP)(f:Bool)(ok ov:lP):Prop :=
 h.get? it=some {cls:=.type "dict_itemiterator",dict:=none,data:=.fields #[z,.bool f,.ref d,.int i 0,.int n 0,.int ep 0,ok,ov],slots:=#[]}
section
variable {prog:lV}{w:lW}{A:lY}{E:lP->lQ->Prop}{s:lQ}{d it v:lT}{es:oC DictEntry}{ep i:Nat}{z ok ov:lP}{f:Bool}{R:mH->lQ->Prop}{X:Cx}{k:Nat}{aa:oA<|lT×l_}{σ:St}{H:Hp}{o:lX}{ap aj qm pos:Pos}{tg:lX}{K:lU}{a:lT}{od:l_}{ws:oA<|oA Key×V}{N':oA Str}{mp:oA<|oB Nat}{dy:lX}{c7:oA lX}{scope:mF}
def W8(b:(d==sysModules)=false):MeetsIn prog w (Builtin.«dict.items» ⟨[.ref d],[]⟩) (λ_ R s=>(∃es ep,Eu s.heap d es ep)/\R (.ok<|.ret<|.ref s.heap.objs.size) {s with heap:=s.heap.push {cls:=.type "dict_items",data:=.fields #[.ref d]}}) :=
 .of_wp λA R s ⟨⟨_,_,c⟩,h⟩=>by unfold Builtin.«dict.items» Builtin.Dict.noArgs;refine A_<|A_<|fP c.ty<|show wpAny _ _ (pure d) _ _ s from B_ ?_;show wpAny _ _ (Builtin.Dict.showsAll d>>=_) _ _ s;unfold Builtin.Dict.showsAll;rw[b,I_ Q_];exact A_<|B_<|A_<|aC<|B_ ⟨_,rfl,h⟩
def W9{Q:lP->lQ->Prop}(hv:s.heap.IsItemsView v d)(g:Eu s.heap d es ep)
  (q:Q (.ref s.heap.objs.size) {s with heap:=s.heap.push {cls:=.type "dict_itemiterator",data:=.fields #[.none,.bool false,.ref d,.int 0 0,.int es.size 0,.int ep 0,.none,.none]}}):qU prog w A (pyIter<|.ref v) Q E s:=by
 obtain⟨h,e,_,c⟩:=id hv;obtain⟨o,h1,_,b⟩:=id g;refine fA hv.typeIs F.slot_dict_items_iter<|aU F.slot_dict_items_iter hv.typeIs F.entry_dict_items_iter ?_<|F.args_dict_items_iter_1 _;unfold Builtin.«dict_items.__iter__» Builtin.Dict_items.dictOf Builtin.Dict_items.newIterator;refine A_<|B_<|A_<|A_<|bL e c (x:=.ref d) rfl<|B_<|A_<|A_<|dH h1 b<|A_<|fD h1 b ?_;simp only[show Builtin.Dict_items.ownsTuple "dict_itemiterator" = true by decide,if_true];refine aC (B_ ⟨_,rfl,"dict_itemiterator",_,⟨_,H_ _ rfl,rfl⟩,F.slot_dict_itemiterator_next.lookup,?_⟩)
  (by simp only[sizeOk,Builtin.Dict_items.ownedTupleFields,List.size_toArray,List.length_append,List.length_cons,List.length_nil,sizeLine_eq];exact Nat.le_add_left _ _)
 simpa [rawInt,Builtin.Dict_items.ownedTupleFields] using q
def Xa{Q:oB lP->lQ->Prop}(G:RIt s.heap it d i es.size ep z f ok ov)(hz:(z=.none/\f=false)\/∃(a:lT) (Y:l_),z=rawInt a/\s.heap.get? a=some Y/\a≠it)(hm:Eu s.heap d es ep)(hi:i<es.size)
  (hQ:∀D j p J B,RIt D it d (i+1) es.size ep j p J B->((z=.none/\j=rawInt s.heap.objs.size/\p=false)\/∃a:lT,z=rawInt a/\j=rawInt a)->D.get? s.heap.objs.size=some {cls:=.type "tuple",data:=.seq #[es[i].key,es[i].val]}->D.objs.size=s.heap.objs.size+1 ->
   (∀b o,b≠it->s.heap.get? b=some o->D.get? b=some o)->Q (some<|.ref s.heap.objs.size) {s with heap:=D}):qU prog w A (pyNext<|.ref it) Q E s:=by
 obtain⟨hp,g,t,u,os⟩:=s;obtain⟨od,h1,_,Z⟩:=id hm;have T:Shared.TypeIs ⟨hp,g,t,u,os⟩ (.ref it) "dict_itemiterator" := ⟨_,G,rfl⟩;unfold pyNext;refine A_<|eB<|bG (name:=Str.ofString "__next__") T F.slot_dict_itemiterator_next<|aU F.slot_dict_itemiterator_next T F.entry_dict_itemiterator_next ?_<|F.args_dict_itemiterator_next_1 _;refine A_<|B_<|A_<|A_ ?_
 first|refine A_ (eQ T<|B_<|A_<|dY G rfl ?_)|refine A_<|fQ T<|B_<|A_<|dY G rfl ?_
 simp only[show Builtin.Dict_items.ownsTuple "dict_itemiterator" = true by decide,if_true];show qU prog w _ (if(Value.ref d==Value.none)=true then _ else _) _ _ _;rw[I_<|by exact Q_];refine A_<|B_<|A_<|dH h1 Z ?_;rw[I_<|by simp];refine A_<|B_<|A_<|fD h1 Z ?_;rw[I_<|by simp];refine B_ ?_;simp only[show ¬((i:Int)<0) by omega,if_false,Int.toNat_natCast,Array.getElem?_eq_getElem hi];refine A_ ?_
 first|refine A_ (eQ T<|B_<|A_<|gR T ?_)|refine A_<|fQ T<|B_<|A_<|gR T ?_
 show qU prog w _ (setField (.ref it) 3 (rawInt<|(i:Int)+1)>>=_) _ _ ⟨hp,g,t,u,os⟩;refine A_ (fO G (by simp) λn C I=>?_);replace I:Heap.SameBut it hp n:=I;replace C:RIt n it d (i+1) es.size ep z f ok ov:=by unfold RIt;rw[show((i+1:Nat):Int)=(i:Int)+1 by omega];simpa [rawInt] using C
 have O:Shared.TypeIs ⟨n,g,t,u,os⟩ (.ref it) "dict_itemiterator" := ⟨_,C,rfl⟩;refine A_<|bB<|A_<|gR O<|A_<|gR O ?_;show qU prog w _ (Builtin.Dict_items.pairFromOwner (.ref it) 6 es[i].key es[i].val) _ _ ⟨n,g,t,u,os⟩;unfold Builtin.Dict_items.pairFromOwner;refine A_<|wpAny_newTuple ?_;have m:RIt (n.push {cls:=.type "tuple",data:=.seq #[es[i].key,es[i].val]}) it d (i+1) es.size ep z f ok ov:=DD _ C;generalize M:n.push {cls:=.type "tuple",data:=.seq #[es[i].key,es[i].val]}=y at m;have L:n.objs.size=hp.objs.size:=I.1;have il:it<hp.objs.size:=J_ G;have t2:y.get? hp.objs.size=some {cls:=.type "tuple",data:=.seq #[es[i].key,es[i].val]}:=by rw[<- M,<- L];exact H_ _ rfl
 have z2:y.objs.size=hp.objs.size+1:=by rw[<- M,bW,L]
 have kk:∀b o,b≠it->hp.get? b=some o->y.get? b=some o:=λb o hb e=>by rw[<- M];exact DD _<|I.extBut b o hb e
 show qU prog w _ (Builtin.Dict_items.ownedTupleIsFree (.ref it)>>=_) _ _ ⟨y,g,t,u,os⟩;rw[L];clear M C I O L n;have r:∀(h:lZ) j p J B,RIt h it d (i+1) es.size ep j p J B->((z=.none/\j=rawInt hp.objs.size/\p=false)\/∃a:lT,z=rawInt a/\j=rawInt a)->Heap.SameBut it y h->Q (some<|.ref hp.objs.size) ⟨h,g,t,u,os⟩:=λh j p J B l c q=>
  hQ h j p J B l c (q.extBut _ _ (fV il) t2) (by show h.objs.size=_;rw[q.1,z2]) λb o hb e=>q.extBut b o hb<|kk b o hb e
 refine A_ ?_;unfold Builtin.Dict_items.ownedTupleIsFree;rcases hz with⟨rfl,rfl⟩|⟨a,Y,rfl,ha,N⟩
 ·refine A_<|bL m rfl (x:=.none) rfl<|B_ ?_;simp only[if_true];refine A_<|bL m rfl (x:=ok) rfl<|A_<|bL m rfl (x:=ov) rfl ?_;refine A_ (fO m (by simp) λh l q=>?_);replace l:RIt h it d (i+1) es.size ep .none false es[i].key ov:=l;refine A_ (fO l (by simp) λk4 U s4=>?_);replace U:RIt k4 it d (i+1) es.size ep .none false es[i].key es[i].val:=U;refine A_ (fO U (by simp) λk5 S s5=>?_);replace S:RIt k5 it d (i+1) es.size ep (rawInt hp.objs.size) false es[i].key es[i].val:=S;refine A_ (fO S (by simp) λk6 P s6=>?_);replace P:RIt k6 it d (i+1) es.size ep (rawInt hp.objs.size) false es[i].key es[i].val:=P;exact A_<|iQ<|B_<|B_ ⟨_,rfl,B_<|r k6 _ _ _ _ P (.inl ⟨rfl,rfl,rfl⟩)<|((Heap.SameBut.trans q s4).trans s5).trans s6⟩
 ·refine A_<|bL m rfl (x:=rawInt a) rfl ?_;show qU prog w _ (loadIfAlive ((a:Int).toNat)>>=_) _ _ _;rw[e_];refine A_<|PySem.W.kdx_alive (kk a Y N ha) ?_;simp only[Option.isNone_some,Bool.false_eq_true,if_false];refine A_<|bL m rfl (x:=.bool f) rfl ?_;cases f with
  |true=>rw[I_<|by exact Q_];refine B_ ?_;simp only[Bool.false_eq_true,if_false];exact B_ (B_ ⟨_,rfl,B_<|r y _ _ _ _ m (.inr ⟨a,rfl,rfl⟩)<|Heap.SameBut.refl _ _⟩)
  |false=>rw[N_<|by rfl];refine A_ (fO m (by simp) λh l q=>B_ ?_);replace l:RIt h it d (i+1) es.size ep (rawInt a) true ok ov:=l;simp only[Bool.false_eq_true,if_false];exact B_<|B_ ⟨_,rfl,B_<|r h _ _ _ _ l (.inr ⟨a,rfl,rfl⟩) q⟩
def BI{Q:oB lP->lQ->Prop}(j:A.handled=none)(c:RIt s.heap it d es.size es.size ep z f ok ov)(h:Eu s.heap d es ep)(q:∀e,Heap.ExtBut it s.heap e->Q none {s with heap:=e}):qU prog w A (pyNext<|.ref it) Q E s:=by
 obtain⟨od,h1,_,g⟩:=id h;have T:s.TypeIs (.ref it) "dict_itemiterator" := ⟨_,c,rfl⟩;unfold pyNext;refine A_<|eB<|bG (name:=Str.ofString "__next__") T F.slot_dict_itemiterator_next<|aU F.slot_dict_itemiterator_next T F.entry_dict_itemiterator_next ?_<|F.args_dict_itemiterator_next_1 _;refine A_<|B_<|A_<|A_ ?_
 first|refine A_ (eQ T<|B_<|A_<|dY c rfl ?_)|refine A_<|fQ T<|B_<|A_<|dY c rfl ?_
 simp only[show Builtin.Dict_items.ownsTuple "dict_itemiterator" = true by decide,if_true];show qU prog w _ (if(Value.ref d==Value.none)=true then _ else _) _ _ s;rw[I_<|by exact Q_];refine A_<|B_<|A_<|dH h1 g ?_;rw[I_<|by simp];refine A_<|B_<|A_<|fD h1 g ?_;rw[I_<|by simp];refine B_ ?_;simp only[show ¬((es.size:Int)<0) by omega,if_false,Int.toNat_natCast,Array.getElem?_eq_none<|Nat.le_refl es.size];refine A_ ?_
 first|refine A_ (eQ T<|B_ ?_)|refine A_<|fQ T<|B_ ?_
 show qU prog w _ (setField (.ref it) 2 .none>>=_) _ _ s;refine A_ (cY c rfl (by simp)<|show wpAny _ _ (newExc (.type "StopIteration") []>>=_) _ _ _ from A_ ?_);simp only[newExc,newTuple];refine A_ (aC (A_ (m:=firstArgMember _ _)<|eK (a:=Value.none) (by first|rfl|(simp only[firstArgMember];rfl))<|aC ?_<|by size_fits)<|by size_fits);simp only[raiseNew];refine A_<|jN (?_:_);rw[show A.in1.handled=none from j];refine A_<|B_<|jR ?_;refine A_ (bT (T := "StopIteration") (b:=true) (by exact⟨_,H_ _ rfl,rfl⟩) iY ?_);exact B_<|q _<|((aO ..).extBut.push _).push _
def Xb:IR X "dict.items" (λx n H Q=>∃a g,x=.ref a/\n=[]/\H a=some (.dT g)/\∀v,H v=none->Q (.ref v) (upd H v<|.ext λh=>h.IsItemsView v a)):=by intro aa s σ H x D v y Q I l r h;obtain⟨a,g,rfl,rfl,ha,q⟩:=h;cases l;have t:=Vals.zero r;subst t;obtain⟨hz,c,C,p,o,es,ep,h1,h2,m,u,_⟩:=Of I.hok ha;have j:Eu s.heap a es ep:=⟨o,h1,h2,m⟩;refine iU PySem.F.slot_dict_items j.ty PySem.F.entry_dict_items (PySem.F.args_dict_items_1 _) (W8 c) ⟨⟨es,ep,j⟩,?_⟩;refine⟨.ref s.heap.objs.size,_,I.laid (t':=s.toks) (o:=.ext λh=>h.IsItemsView s.heap.objs.size a) (λb B q=>DD _ q) (G_ _) ?_,rfl,q _<|I.hok.fresh<|G_ _⟩;exact⟨⟨_,H_ _ rfl,rfl,rfl⟩,⟨_,H_ _ rfl⟩,by rintro h1 h2 ⟨o,e,r⟩ k;exact ⟨o,k o e,r⟩⟩
def Inv.freezeT{a:lT}{od:l_}{ws:oA<|oA Key×V}(I:Inv X aa σ H s)(e:H a=some (.dT ws))(h:s.heap.get? a=some od):Inv X aa σ (upd H a<|.frz od<|.dT ws) s:=by obtain⟨z,n,j,b,o,es,ep,h1,h2,p,m,l⟩:=(show Bg X.prog X.w H s.heap a (.dT ws) from I.hok a _ e);refine Gc (h':=s.heap) (t':=s.toks) I (by rw[e];exact True.intro) (Heap.SameBut.refl _ _) ⟨od,h⟩ ⟨h,z,n,j,KT.keeps (show KT H ws j from b) λc q g=>?_,o,es,ep,h1,h2,p,m,l⟩;rw[Ao<|N9 g e λz=>nomatch z];exact g
def Iit(d:lT)(od:l_)(ws:oA<|oA Key×V):It :=
 ⟨λi H=> H d = some (.frz od<|.dT ws) /\ i<ws.length,
  λi H v c=> ∃ T b k y, H T = none /\ v = .ref T /\ ws[i]? = some (k, y) /\ H b = some (.tup<|k.map kV) /\ c = upd H T (.tup [.ref b, y]),
  λi H=> H d = some (.frz od<|.dT ws) /\ ws.length = i⟩
def Kn:PySem.entryFor PySem.table "dict_itemiterator.__iter__" = some Builtin.«dict_keyiterator.__iter__»:=PySem.entryFor_alias (id' := "dict_keyiterator.__iter__") (by kernel_rfl) rfl (by decide +kernel)<|by kernel_rfl
def Je{prog:lV}{w:lW}{A:lY}{E:lP->lQ->Prop}{s:lQ}{it d:lT}{i n ep:Nat}{ok ov:lP}{Q:lP->lQ->Prop}(c:IsItemIter s.heap it d i n ep ok ov)(h:Q (.ref it) s):qU prog w A (pyIter<|.ref it) Q E s:=by have b:s.TypeIs (.ref it) "dict_itemiterator" := ⟨_,c,rfl⟩;refine fA b iH<|aU iH b Kn ?_<|PySem.F.args_dict_itemiterator_iter_1 _;show wpAny _ _ (ret<|.ref it) _ _ s;exact B_ ⟨_,rfl,"dict_itemiterator",_,b,PySem.F.slot_dict_itemiterator_next.lookup,h⟩
def Sb{P:lV}{w:lW}{K:lU}{gu:oA lX}{k:Nat}{pos:Pos}(d it:lT)(od:l_)(ws:oA<|oA Key×V)(es:oC DictEntry)(ep:Nat)(y:od.data=.dict es ep)(hsz:es.size=ws.length) :
  Turn P w K (.Tuple gu k pos) (Iit d od ws) [it] it (λi h=>∃ok ov,IsItemIter h it d i es.size ep ok ov) where
 mem:=by simp
 obj:=λi h st b hb=>by
  have e:b=it:=by simpa using hb
  subst e;obtain⟨ok,ov,st⟩:=st;exact⟨_,st,λv z=>nomatch z⟩
 keep:=λi h x st k=>let⟨ok,ov,st⟩:=st;⟨ok,ov,k it (by simp) _ st⟩
 item:=by
  intro X F m B hc i aa s σ H E I t st G;subst F m B;obtain⟨ok,ov,g⟩:=st;obtain⟨J,ck⟩:=G;obtain⟨n,z,hd,c,j,o,cj,D,h1,h2,u,U,h5⟩:=(show Bg X.prog X.w H s.heap d (.frz od<|.dT ws) from I.hok d _ J);rw[n]at h1;cases h1;rw[y]at u;cases u;have M:i<es.size:=by omega
  have hxl:=bM j;have hx:c[i]?=some c[i]:=E_ (by omega);have m:ws[i]?=some ws[i]:=E_ ck;obtain⟨x',S,r1,r2,Y⟩:=Dz j m;rw[hx]at S;cases S;have rp:es[i]=entryOfKey (tupleKind<|Az X.prog X.w) c[i]:=by have O:=bR (λl=>l[i]?) U;simp only[Array.getElem?_toList,Array.getElem?_eq_getElem M,List.getElem?_map,hx,Option.map_some]at O;exact aX O
  refine Xa (z:=.none) (f:=false) g (.inl ⟨rfl,rfl⟩) ⟨od,n,h2,y⟩ M λx Z f' rh qz io fj hT fh C=>?_;have L:Z=rawInt s.heap.objs.size/\f'=false:=by
   rcases fj with⟨_,h⟩|⟨a,h,_⟩
   ·exact h
   ·cases h
  obtain⟨rfl,rfl⟩:=L;refine⟨_,rfl,wpAny_letOwnedTupleGo_items io λp zt r=>?_⟩;have I1:Inv X aa σ H {s with heap:=x,toks:=s.toks}:=I.turnedL (fp:=[it]) (λb o hb e=>C b o (λq=>hb<|by simp[q]) e) t;have I2:Inv X aa σ H {s with heap:=p,toks:=s.toks}:=I1.turnedL (s:={s with heap:=x,toks:=s.toks}) (t':=s.toks) (fp:=[it]) (λb o hb e=>r.extBut b o (λq=>hb<|by simp[q]) e) t;have W:Ja X aa H s.heap.objs.size:=I.fpOk (G_ _)<|I.hok.fresh<|G_ _;have N:it<s.heap.objs.size:=J_ g;have T:p.get? s.heap.objs.size=some {cls:=.type "tuple",data:=.seq #[es[i].key,es[i].val]}:=r.extBut _ _ (fV N) hT;rw[rp]at T;refine⟨.ref s.heap.objs.size,upd H s.heap.objs.size<|.tup [.ref c[i].2.1,ws[i].2],I2.track W ⟨by show 2<=sizeLine;decide,[.ref c[i].2.1,c[i].2.2],.cons rfl<|.cons Y .nil,_,T,rfl,_,rfl⟩,rfl,⟨s.heap.objs.size,c[i].2.1,ws[i].1,ws[i].2,W.1,rfl,m,r2,rfl⟩,⟨_,_,zt⟩,λb hb=>?_⟩;have e:b=it:=by simpa using hb
  subst e;rw[Ao<|T_ N];exact(t b hb).1
 done:=by intro X F m B hc i aa s σ H E I t st G;subst F m B;obtain⟨ok,ov,g⟩:=st;obtain⟨J,rfl⟩:=G;obtain⟨n,z,hd,c,j,o,cj,D,h1,h2,u,U,h5⟩:=(show Bg X.prog X.w H s.heap d (.frz od<|.dT ws) from I.hok d _ J);rw[n]at h1;cases h1;rw[y]at u;cases u;rw[<- hsz]at g;exact BI (I.ok.hd hc) g ⟨od,n,h2,y⟩ λx C=>⟨rfl,I.turnedL (t':=s.toks) (fp:=[it]) (λb o hb e=>C b o (λq=>hb<|by simp[q]) e) t⟩
 self:=λA i s Q E st h=>by obtain⟨_,_,g⟩:=st;exact Je g h
def Cb(c:M)(a:lT):M:=λb=>if b=a then none else c b
def A9{c:M}{a b:lT}(h:b≠a):Cb c a b=c b:=I_ h
def TX:V->oA V->Hp->VK->Prop:=λx c H Q=>∃a b,x=.ref a/\c=[]/\H a=some (.dT b)/\∀v,H v=none->Q (.ref v) (upd H v<|.ext λh=>h.IsItemsView v a)
def iIt(K:lU)(td:TE):TI:=λσ H R=>MG K "dict" TX td σ H λv b=>∃a ws vv,v=.ref vv/\b vv=some (.ext λh=>h.IsItemsView vv a)/\b a=some (.dT ws)/\∀od,R (Iit a od ws)<|upd b a<|.frz od<|.dT ws
def BJ{L:oA lX}{y:Nat}{td:TE}(C:PE X o td)(M:attributeBase o "items" X.env (eval o X.env)=eval o X.env:=by rfl) (D:(ap.endLine==aj.line)=true:=by rfl) :
  PI X (.Tuple L y qm) (.Call (.Attribute o "items" ap) [] [] aj) (iIt X.K td):=by
 intro aa s σ H R I h;refine thn (M6 (T := "dict") (r:=TX) gF PySem.F.slot_dict_items PySem.F.type_dict_items Xb C M D aa s σ H _ I h) λv c J=>?_;obtain⟨x,p,j,N,a,ws,vv,rfl,hv,ha,q⟩:=J;cases N;obtain⟨g,_,_⟩:=(show Bg X.prog X.w p c.heap vv (.ext λh=>h.IsItemsView vv a) from j.hok vv _ hv);obtain⟨hz,t,Q,m,od,es,ep,h1,h2,u,B,O⟩:=(show Bg X.prog X.w p c.heap a (.dT ws) from j.hok a _ ha);refine W9 g ⟨od,h1,h2,u⟩ ?_;have n:es.size=ws.length:=by have e:=bR List.length B;rw[C_]at e;rw[bM m,<- e];simp
 have G:=j.kept (t':=c.toks) (h':=c.heap.push {cls:=.type "dict_itemiterator",data:=.fields #[.none,.bool false,.ref a,.int 0 0,.int es.size 0,.int ep 0,.none,.none]}) λb P e=>DD _ e;have l:=j.hok.fresh<|G_ c.heap.objs.size;have f:=j.fpOk (G_ _) l;refine⟨c.heap.objs.size,[c.heap.objs.size],_,_,upd p a<|.frz od<|.dT ws,rfl,G.freezeT ha<|DD _ h1,Sb a _ od ws es ep u n,⟨.none,.none,H_ _ rfl⟩,λb hb=>?_,q od⟩;have e:b=c.heap.objs.size:=by simpa using hb
 subst e;exact⟨by rw[Ao λz=>by rw[z]at l;rw[ha]at l;cases l];exact f.1,f.2⟩
def QR(g:AGs)(e:AS)(k:ASt->M->Prop)(r:AV->M->Prop):oA (oA Key×AV)->ASt->M->Prop
 |[]=>k
 |p::h=>λl j=>g [.D<|.tuple<|p.1.map kyD,p.2] l j λc b=>e (QR g e k r h) r k (QR g e k r h) c b
def TY(td:AE)(g:AGs)(j:AS):AS:=λk r _ _ e h=>td e h λx b=>match x with
 |.R a=>opt (b a) λm=>match m with
  |.dt c=>QR g j k r c e (Cb b a)
  |_=>False
 |_=>False
def Hh{O:oA lX}{kt:Nat}{u:oA mC}{td:AE}{g:AGs}{Y:AS}(hp:PassesOwn (model X.prog X.w) X.A X.env X.xe)(cu:X.calm=true)(hd:VE X o td)(hg:VGs X O g)(hb:VSs X u Y)
  (hn:(assignEach O X.env).length=2:=by rfl) (ay:(assignEach O X.env).findIdx? (·.1)=none:=by rfl) (Q:∀x,foldedSetIterable (.Call (.Attribute o "items" ap) [] [] aj) X.env x=pure x:=by intro _;rfl)
  (a8:attributeBase o "items" X.env (eval o X.env)=eval o X.env:=by rfl) (az:(ap.endLine==aj.line)=true:=by rfl) :
  VS X (.For (.Tuple O kt qm) (.Call (.Attribute o "items" ap) [] [] aj) u [] pos) (TY td g Y) :=
 (X7 hp cu (BJ hd a8 az) (Qt cu hg hn ay) hb Q).imp λD σ H L=>Gi L λτ μ nk nr nb nc hs hc h hq=>by
 refine⟨τ,μ,_,hs,hc,h,λx μ1 v G S1 c1 rx hx=>?_⟩;split at hx
 ·rename_i a;obtain⟨m,em,hx⟩:=A0 hx;split at hx
  ·rename_i n;obtain⟨ob,J,ws,rfl,rk⟩:=c1 _ _ em;cases (show v=.ref a from rx);refine⟨.inr<|.inr<|.inl ⟨rfl,.inr ⟨ws,J⟩⟩,a,ws,rfl,rfl,J,λvv N=>?_⟩;have zu:a≠vv:=λz=>by rw[z]at J;rw[J]at N;cases N
   have cz:upd G vv (.ext λh=>h.IsItemsView vv a) a=some (.dT ws):=by rw[Ao zu];exact J
   refine⟨a,ws,vv,rfl,Bc,cz,λod=>?_⟩;have I:Kp G (upd (upd G vv<|.ext λh=>h.IsItemsView vv a) a<|.frz od<|.dT ws):=(Kp.new N _).trans<|Kp.put cz trivial _;have c2:Cn X.K (Cb μ1 a) (upd (upd G vv<|.ext λh=>h.IsItemsView vv a) a<|.frz od<|.dT ws):=λb m' e=>by
    have l9:b≠a:=λz=>by rw[z]at e;unfold Cb at e;rw[N_ rfl]at e;cases e
    rw[A9 l9]at e;obtain⟨o',e',r'⟩:=c1 b m' e;exact⟨o',by rw[Ao l9,Ao<|Bw e' N];exact e',r'.kp I⟩
   have iq:upd (upd G vv<|.ext λh=>h.IsItemsView vv a) a (.frz od<|.dT ws) a=some (.frz od<|.dT ws):=Bc;have oz:=rk.kp I;generalize upd (upd G vv<|.ext λh=>h.IsItemsView vv a) a (.frz od<|.dT ws)=H2 at I c2 iq oz;have hl:=bM oz;refine Yw ws.length (λi r B=>∃ c j,Kp H2 B/\Dv X.K B c r/\Cn X.K j B/\QR g Y nk nr (n.drop i) c j) ⟨τ,_,Kp.refl,hs.kp<|S1.trans I,c2,hx⟩ ?_ ?_ ?_
   ·rintro i r B hi ⟨c,j,F,q,p,h1⟩;exact⟨F.f _ _ _ iq,hi⟩
   ·rintro r B ⟨c,j,F,q,p,h1⟩;rw[<- hl,fK]at h1;exact⟨⟨F.f _ _ _ iq,rfl⟩,hq.nx _ _ _ _ (S1.trans<|I.trans F) q p h1⟩
   ·rintro i v' r B H'' hi ⟨c,j,F,q,p,h1⟩ ⟨T,b,k,y,hT,rfl,hw,jl,rfl⟩;have jv:i<n.length:=by omega
    rw[bO jv]at h1;obtain⟨q',e1,r1,r2⟩:=Dz oz<|E_ jv;rw[hw]at e1;cases e1;have M:Kp B (upd B T<|.tup [.ref b,y]):=Kp.new hT _;refine⟨T,[.ref b,y],rfl,Iz.of Bc,rfl,[.D<|.tuple<|n[i].1.map kyD,n[i].2],c,j,_,.cons ?_<|.cons (r2.kp<|F.trans M) .nil,q.kp M,p.over hT,h1,λW μ3 σ3 H3 S5 hs3 P h3=>⟨W,μ3,_,_,_,_,hs3,P,h3,?_⟩⟩
    ·have r1':n[i].1=k:=r1;rw[r1'];exact Ju (M.t _ _ jl)<|R6 _
    have S:Kp H2 H3:=F.trans<|M.trans S5;have S0:Kp H H3:=S1.trans<|I.trans S;exact⟨λC l σ' H4 S' fh Z U=>⟨C,l,S.trans S',fh,Z,U⟩,hq.rt.kp S0,hq.nx.kp S0,λC l σ' H4 S' fh Z U=>⟨C,l,S.trans S',fh,Z,U⟩⟩
  ·exact hx.elim
 ·exact hx.elim
def Ko{g:AGs}{u:AS}{k:ASt->M->Prop}{r:AV->M->Prop}{kvs:oA<|oA Key×AV}{τ:ASt}{b:M}(I:Nat->ASt->M->Prop)(h0:I 0 τ b)
  (step:∀i p τ b (W:ASt->M->Prop),kvs[i]?=some p->I i τ b->(∀ j c,I (i+1) j c->W j c)->g [.D<|.tuple<|p.1.map kyD,p.2] τ b λl q=>u W r k W l q)
  (done:∀ τ b,I kvs.length τ b->k τ b):QR g u k r kvs τ b:=by
 have m:∀n i τ b,n+i=kvs.length->I i τ b->QR g u k r (kvs.drop i) τ b:=by
  intro n
  induction n with
  |zero=>
   intro i τ b y t;have e:i=kvs.length:=by omega
   subst e;rw[fK];exact done τ b t
  |succ n B=>
   intro i τ b y t;have x:i<kvs.length:=by omega
   rw[bO x];exact step i _ τ b _ (E_ x) t λj c h=>B (i+1) j c (by omega) h
 have:=m kvs.length 0 τ b (by omega) h0;rwa[kE]at this
def Sc(b:(d==sysModules)=false):MeetsIn prog w (Builtin.«dict.values» ⟨[.ref d],[]⟩) (λ_ R s=>(∃es ep,Eu s.heap d es ep)/\R (.ok<|.ret<|.ref s.heap.objs.size) {s with heap:=s.heap.push {cls:=.type "dict_values",data:=.fields #[.ref d]}}) :=
 .of_wp λA R s ⟨⟨_,_,c⟩,h⟩=>A_<|by
  unfold Builtin.Dict.noArgs;refine A_<|fP c.ty<|show wpAny _ _ (pure d) _ _ s from B_<|show wpAny _ _ (Builtin.Dict.showsAll d>>=_) _ _ s from ?_;simp only[Builtin.Dict.showsAll,b,Bool.false_eq_true,ite_false];exact A_<|B_<|A_<|aC<|B_ ⟨_,rfl,h⟩
def JX:Builtin.Dict_items.ownsTuple "dict_valueiterator" = false:=by decide
def Sd{Q:lP->lQ->Prop}(hv:s.heap.IsValuesView v d)(g:Eu s.heap d es ep)
  (q:Q (.ref s.heap.objs.size) {s with heap:=s.heap.push {cls:=.type "dict_valueiterator",data:=.fields #[.ref d,.int 0 0,.int es.size 0,.int ep 0]}}):qU prog w A (pyIter<|.ref v) Q E s:=by
 obtain⟨ov,e,_,h⟩:=id hv;obtain⟨od,c,_,b⟩:=id g;refine fA hv.typeIs F.slot_dict_values_iter<|aU F.slot_dict_values_iter hv.typeIs F.entry_dict_values_iter (A_<|B_<|A_<|A_<|bL e h (x:=.ref d) rfl<|B_<|A_<|A_<|dH c b<|A_<|fD c b ?_)<|F.args_dict_values_iter_1 _
 simp only[JX,Bool.false_eq_true,if_false];exact aC<|B_ ⟨_,rfl,_,_,⟨_,H_ _ rfl,rfl⟩,F.slot_dict_valueiterator_next.lookup,by simpa [rawInt] using q⟩
def Mn{Q:oB lP->lQ->Prop}(y:A.handled=none)(c:s.heap.IsValIter it d i es.size ep)(u:Eu s.heap d es ep)
  (more:∀l:i<es.size,∀h,h.IsValIter it d (i+1) es.size ep->Heap.SameBut it s.heap h->Q (some es[i].val) {s with heap:=h})
  (n:es.size<=i->∀h,Heap.ExtBut it s.heap h->Q none {s with heap:=h}):qU prog w A (pyNext<|.ref it) Q E s:=by
 obtain⟨C,p,B,j⟩:=id c;obtain⟨od,t,_,r⟩:=id u;unfold pyNext;refine A_<|eB<|bG (name:=Str.ofString "__next__") c.typeIs F.slot_dict_valueiterator_next<|aU F.slot_dict_valueiterator_next c.typeIs F.entry_dict_valueiterator_next
  (A_<|B_<|A_<|A_<|A_<|gN c.typeIs<|B_<|A_<|dY p j ?_)  (F.args_dict_valueiterator_next_1 _)
 have x:(Value.ref d==Value.none)=false:=rfl;simp only[JX,List.drop_zero,List.take_succ_cons,List.take_zero,x,Bool.false_eq_true,if_false];refine A_<|B_<|A_<|dH t r ?_;rw[I_<|by simp];refine A_<|B_<|A_<|fD t r ?_;rw[I_<|by simp];refine B_ ?_;simp only[Int.not_lt.2<|Int.natCast_nonneg i,if_false,Int.toNat_natCast];by_cases l:i<es.size
 ·rw[aH l];refine A_ (A_<|gN c.typeIs<|B_<|A_<|jH c.typeIs<|show wpAny _ _ (setField (.ref it) 1 (rawInt<|(i:Int)+1)>>=_) _ _ s from A_<|cY p j (by simp) ?_);generalize e:s.heap.update it _=g;have q:g.IsValIter it d (i+1) es.size ep:=by
   rw[<- e];exact⟨_,aG _ p<|dW<|bX j _,(iX ..).trans B,(bX j _).trans<|by simp[rawInt]⟩
  have ty:=Heap.IsValIter.typeIs (s:={s with heap:=g}) q;exact A_<|bB<|A_<|jH ty<|A_<|jH ty<|show wpAny _ _ (pure es[i].val) _ _ _ from B_<|B_ ⟨_,rfl,B_<|more l _ q<|e ▸ aO ..⟩
 ·rw[cK<|g_.1 l];refine A_ (A_<|gN c.typeIs<|B_<|show wpAny _ _ (setField (.ref it) 0 .none>>=_) _ _ s from A_<|cY p j (by simp)<|show wpAny _ _ (newExc (.type "StopIteration") []>>=_) _ _ _ from A_ ?_);simp only[newExc,newTuple];refine A_ (aC (A_ (m:=firstArgMember _ _)<|eK (a:=Value.none) rfl<|aC ?_<|by size_fits)<|by size_fits);simp only[raiseNew];refine A_<|jN ?_;simp only[show A.in1.handled=A.handled from rfl,y];refine A_ <|B_ <|jR ?_;exact A_ <|bT (T := "StopIteration") (b:=true) ⟨_,H_ _ rfl,rfl⟩ iY (B_<|n (g_.1 l) _<|((aO ..).extBut.push _).push _)
def Vit(d:lT)(od:l_)(ws:oA<|oA Key×V):It :=
 ⟨λi H=> H d = some (.frz od<|.dT ws) /\ i<ws.length,
  λi H v b=> ∃ k, ws[i]? = some (k, v) /\ b = H,
  λi H=> H d = some (.frz od<|.dT ws) /\ ws.length = i⟩
def Pq{P:lV}{w:lW}{K:lU}{tg:lX}(d it:lT)(od:l_)(ws:oA<|oA Key×V)(es:oC DictEntry)(ep:Nat)(u:od.data=.dict es ep)(hsz:es.size=ws.length) :
  Turn P w K tg (Vit d od ws) [it] it (λi h=>h.IsValIter it d i es.size ep) where
 mem:=by simp
 obj:=λi h st b hb=>by
  have e:b=it:=by simpa using hb
  subst e;obtain⟨o,g,_,D⟩:=st;exact⟨o,g,λv z=>by rw[D]at z;cases z⟩
 keep:=λi h p st k=>st.at λo e=>k it (by simp) o e
 item:=by
  intro X B m x hc i aa s σ H E I r st C;subst B m x;obtain⟨F,ck⟩:=C;obtain⟨g,z,D,t,j,o,cj,y,h1,h2,n,M,h5⟩:=(show Bg X.prog X.w H s.heap d (.frz od<|.dT ws) from I.hok d _ F);rw[g]at h1;cases h1;rw[u]at n;cases n;have G:i<es.size:=by omega
  have hxl:=bM j;have hx:t[i]?=some t[i]:=E_ (by omega);have m:ws[i]?=some ws[i]:=E_ ck;obtain⟨x',L,r1,r2,O⟩:=Dz j m;rw[hx]at L;cases L;have Y:es[i]=entryOfKey (tupleKind<|Az X.prog X.w) t[i]:=by have J:=bR (λl=>l[i]?) M;simp only[Array.getElem?_toList,Array.getElem?_eq_getElem G,List.getElem?_map,hx,Option.map_some]at J;exact aX J
  refine Mn (I.ok.hd hc) st ⟨od,g,h2,u⟩ (λ_ p N fh=>?_) λz=>absurd G<|g_.2 z;obtain⟨S,f1,f2,U,T,W⟩:=r it (by simp);have I1:Inv X aa σ H {s with heap:=p}:=I.turned (t':=s.toks) (λb o hb e=>(fh.2 b hb).trans e) S f1 U T W;obtain⟨o,e,c,dd⟩:=id N;refine⟨_,rfl,Ob (s:={s with heap:=p}) e c dd (by decide) ⟨ws[i].2,H,I1,?_,⟨ws[i].1,m,rfl⟩,N,λb hb=>(r b hb).1⟩⟩;rw[Y];exact O
 done:=by intro X B m x hc i aa s σ H E I r st C;subst B m x;obtain⟨F,rfl⟩:=C;obtain⟨g,z,D,t,j,o,cj,y,h1,h2,n,M,h5⟩:=(show Bg X.prog X.w H s.heap d (.frz od<|.dT ws) from I.hok d _ F);rw[g]at h1;cases h1;rw[u]at n;cases n;rw[<- hsz]at st;exact Mn (I.ok.hd hc) st ⟨od,g,h2,u⟩ (λz=>absurd z<|c_ _) λ_ p Z=>⟨rfl,I.turnedL (t':=s.toks) (fp:=[it]) (λb o hb e=>Z b o (λq=>hb<|by simp[q]) e) r⟩
 self:=λA i s Q E st h=>wpAny_pyIter_valiter st h
def Inv.notFrz{a:lT}{ws:oA<|oA Key×V}(I:Inv X aa σ H s)(e:H a=some (.dT ws)):∀o u,X.H₀ a≠some (.frz o u):=λo u z=>by have:=I.base.frzs a o u z;rw[e]at this;cases this
def Inv.thawT{a:lT}{od:l_}{ws:oA<|oA Key×V}(I:Inv X aa σ H s)(e:H a=some (.frz od<|.dT ws))(hn:∀o u,X.H₀ a≠some (.frz o u)):Inv X aa σ (upd H a<|.dT ws) s:=by
 have l:∀{b:lT},H b=none->b≠a:=λh z=>by rw[z,e]at h;cases h
 have n:∀{b:lT} {xs:oA V},H b=some (.tup xs)->b≠a:=λh z=>by rw[z,e]at h;cases h
 have G:∀{b y:lT},H b=some (.own y)->b≠a:=λh z=>by rw[z,e]at h;cases h
 refine⟨I.ok,I.os,I.bare,⟨I.base.keep,I.base.slot,λb o h1 h2 j=>?_,I.base.there,λb xs h=>?_,λb o u h=>?_,λb C h=>?_⟩,I.loc,I.cell,?_,λx c h=>?_,λp hp=>?_,λb u q=>?_,I.len⟩
 ·have:=I.base.free b o h1 h2 j;rw[Ao<|l this];exact this
 ·have:=I.base.tups b xs h;rw[Ao<|n this];exact this
 ·have:=I.base.frzs b o u h;rw[Ao<|by rintro rfl;exact hn o u h];exact this
 ·obtain⟨g,this⟩:=I.base.tbls b C h;exact⟨g,by rw[Ao λz=>by rw[z,e]at this;cases this];exact this⟩
 ·rw[Ao<|l I.free];exact I.free
 ·rw[Ao<|l<|I.freeC x c h];exact I.freeC x c h
 ·obtain⟨h1,h2,j⟩:=I.pin p hp;exact⟨h1,by rw[Ao<|l h2];exact h2,j⟩
 ·by_cases hb:b=a
  ·subst hb;rw[Bc]at q;cases q;obtain⟨J,z,F,xs,m,o,es,ep,h1,h2,j,B,D⟩:=(show Bg X.prog X.w H s.heap b (.frz od<|.dT ws) from I.hok b _ e);exact⟨z,F,xs,KT.keeps (show KT H ws xs from m) λc L t=>by rw[Ao<|n t];exact t,o,es,ep,h1,h2,j,B,D⟩
  ·rw[Ao hb]at q;exact(I.hok b u q).stay (λc v _ r=>r) (λc r=>by rw[Ao<|G r];exact r) λc xs r=>by rw[Ao<|n r];exact r
def Se:IR X "dict.values" (λx n H Q=>∃a g,x=.ref a/\n=[]/\H a=some (.dT g)/\∀v,H v=none->Q (.ref v) (upd H v<|.ext λh=>h.IsValuesView v a)):=by intro aa s σ H x D v y Q I l r h;obtain⟨a,g,rfl,rfl,ha,q⟩:=h;cases l;have t:=Vals.zero r;subst t;obtain⟨hz,c,C,p,o,es,ep,h1,h2,m,u,_⟩:=Of I.hok ha;have j:Eu s.heap a es ep:=⟨o,h1,h2,m⟩;refine iU PySem.F.slot_dict_values j.ty PySem.F.entry_dict_values (PySem.F.args_dict_values_1 _) (Sc c) ⟨⟨es,ep,j⟩,?_⟩;refine⟨.ref s.heap.objs.size,_,I.laid (t':=s.toks) (o:=.ext λh=>h.IsValuesView s.heap.objs.size a) (λb B q=>DD _ q) (G_ _) ?_,rfl,q _<|I.hok.fresh<|G_ _⟩;exact⟨⟨_,H_ _ rfl,rfl,rfl⟩,⟨_,H_ _ rfl⟩,by rintro h1 h2 ⟨o,e,r⟩ k;exact ⟨o,k o e,r⟩⟩
def TZ:V->oA V->Hp->VK->Prop:=λx c H Q=>∃a b,x=.ref a/\c=[]/\H a=some (.dT b)/\∀v,H v=none->Q (.ref v) (upd H v<|.ext λh=>h.IsValuesView v a)
def iVa(X:Cx)(td:TE):TI:=λσ H R=>MG X.K "dict" TZ td σ H λv b=>∃a ws vv,v=.ref vv/\b vv=some (.ext λh=>h.IsValuesView vv a)/\b a=some (.dT ws)/\∀od,(∀o u,X.H₀ a≠some (.frz o u))->R (Vit a od ws) (upd b a<|.frz od<|.dT ws)
def Xc{td:TE}(B:PE X o td)(J:attributeBase o "values" X.env (eval o X.env)=eval o X.env:=by rfl) (C:(ap.endLine==aj.line)=true:=by rfl) :
  PI X tg (.Call (.Attribute o "values" ap) [] [] aj) (iVa X td):=by
 intro aa s σ H R I h;refine thn (M6 (T := "dict") (r:=TZ) gF PySem.F.slot_dict_values PySem.F.type_dict_values Se B J C aa s σ H _ I h) λv c G=>?_;obtain⟨x,p,j,L,a,ws,vv,rfl,hv,ha,q⟩:=G;cases L;obtain⟨g,_,_⟩:=(show Bg X.prog X.w p c.heap vv (.ext λh=>h.IsValuesView vv a) from j.hok vv _ hv);obtain⟨hz,t,O,m,od,es,ep,h1,h2,u,y,M⟩:=(show Bg X.prog X.w p c.heap a (.dT ws) from j.hok a _ ha);refine Sd g ⟨od,h1,h2,u⟩ ?_;have n:es.size=ws.length:=by have e:=bR List.length y;rw[C_]at e;rw[bM m,<- e];simp
 have D:=j.kept (t':=c.toks) (h':=c.heap.push {cls:=.type "dict_valueiterator",data:=.fields #[.ref a,.int 0 0,.int es.size 0,.int ep 0]}) λb N e=>DD _ e;have l:=j.hok.fresh<|G_ c.heap.objs.size;have f:=j.fpOk (G_ _) l;refine⟨c.heap.objs.size,[c.heap.objs.size],_,_,upd p a<|.frz od<|.dT ws,rfl,D.freezeT ha<|DD _ h1,Pq a _ od ws es ep u n,⟨_,H_ _ rfl,rfl,rfl⟩,λb hb=>?_,q od<|j.notFrz ha⟩;have e:b=c.heap.objs.size:=by simpa using hb
 subst e;exact⟨by rw[Ao λz=>by rw[z]at l;rw[ha]at l;cases l];exact f.1,f.2⟩
def Qaz(e:H a=some (.frz od<|.dT ws)){b:lT}{xs:oA V}(h:H b=some (.tup xs)):upd H a (.dT ws) b=some (.tup xs):=by rw[Ao λz=>by rw[z,e]at h;cases h];exact h
def OO(e:H a=some (.frz od<|.dT ws)){b:lT}{o:l_}{u:HO}(hu:∀w,u≠.dT w)(h:H b=some (.frz o u)):upd H a (.dT ws) b=some (.frz o u):=by rw[Ao λz=>by rw[z,e]at h;injection h with h;injection h with _ h;exact hu _ h.symm];exact h
def Xw.th(e:H a=some (.frz od<|.dT ws)){b:lT}{xs:oA V}(h:Xw K H b xs):Xw K (upd H a<|.dT ws) b xs:=by
 rcases h with⟨o,h⟩|h
 ·exact .inl ⟨o,OO e (λ_ z=>nomatch z) h⟩
 ·exact .inr h
def Wb.th(e:H a=some (.frz od<|.dT ws)){b:lT}{ds:oA lR}{xs:oA V}(h:Wb K H b ds xs):Wb K (upd H a<|.dT ws) b ds xs:=by
 rcases h with h|h
 ·exact .inl<|Qaz e h
 ·exact .inr h
mutual
theorem Dk.th(e:H a=some (.frz od<|.dT ws)):∀(d:lR) (x:V),Dk K H d x->Dk K (upd H a<|.dT ws) d x
 |.none,x,h=>by simp only[Dk]at h ⊢;exact h
 |.bool b,x,h=>by simp only[Dk]at h ⊢;exact h
 |.int i,x,h=>by simp only[Dk]at h ⊢;exact h
 |.str z,x,h=>by simp only[Dk]at h ⊢;exact h
 |.list j,x,h=>by simp only[Dk]at h ⊢;obtain⟨a,c,g,q,r⟩:=h;exact⟨a,c,g,q.th e,An.th e j c r⟩
 |.tuple j,x,h=>by simp only[Dk]at h ⊢;obtain⟨a,c,g,q,r⟩:=h;exact⟨a,c,g,q.th e,An.th e j c r⟩
 |.dict _,x,h=>by simp only[Dk]at h
theorem An.th(e:H a=some (.frz od<|.dT ws)):∀(ds:oA lR) (xs:oA V),An K H ds xs->An K (upd H a<|.dT ws) ds xs
 |[],xs,h=>by simp only[An]at h ⊢;exact h
 |d::ds,xs,h=>by simp only[An]at h ⊢;obtain⟨x,r,b,h1,h2⟩:=h;exact⟨x,r,b,Dk.th e d x h1,An.th e ds r h2⟩
end
theorem XFs.th(e:H a=some (.frz od<|.dT ws)){d:oB lT}{c:oA<|Str×lR}(h:XFs K H d c):XFs K (upd H a<|.dT ws) d c:=by
 cases d with
 |none=>exact h
 |some d=>obtain⟨od,b,q,r⟩:=h;exact⟨od,b,OO e (λ_ z=>nomatch z) q,Paired.mapP r λp q r=>⟨r.1,Dk.th e _ _ r.2⟩⟩
theorem RelA.th(e:H a=some (.frz od<|.dT ws)):∀{x:AV} {v:V},RelA K H x v->RelA K (upd H a<|.dT ws) x v
 |.D d,v,h=>Dk.th e d v h
 |.R a,_,h=>h
 |.C j,v,⟨b,g,c,q,r⟩=>⟨b,g,c,q,An.th e j g r⟩
 |.X C l,v,⟨b,o,d,c,q,r⟩=>⟨b,o,d,c,OO e (λ_ z=>nomatch z) q,r.th e⟩
theorem Ho.th(e:H a=some (.frz od<|.dT ws)){m:MO}{o:HO}(h:Ho K H m o):Ho K (upd H a<|.dT ws) m o:=by
 cases m with
 |lst j=>obtain⟨b,g,r⟩:=h;exact⟨b,g,Paired.mapP r λ_ _ q=>q.th e⟩
 |dk j=>obtain⟨b,g,r⟩:=h;exact⟨b,g,Paired.mapP r λ_ _ q=>⟨q.1,q.2.th e⟩⟩
 |dt j=>obtain⟨b,g,r⟩:=h;exact⟨b,g,Paired.mapP r λ_ _ q=>⟨q.1,q.2.th e⟩⟩
 |dd j=>obtain⟨b,g,r⟩:=h;exact⟨b,g,Paired.mapP r<|by rintro _ _ ⟨x,y,c,v,r,q⟩;exact ⟨x,y,Dk.th e _ _ c,v,r.th e,q⟩⟩
def UA(X:Cx)(t:TE):TE:=λσ H Q=>t σ H λv b=>∃a od ws,b a=some (.frz od<|.dT ws)/\(∀o u,X.H₀ a≠some (.frz o u))/\Q v (upd b a<|.dT ws)
def HJ{e:lX}{t:TE}(h:PE X e t):PE X e (UA X t):=by intro aa s σ H Q I hq;refine thn (h aa s σ H _ I hq) λv m b=>?_;obtain⟨x,c,l,j,a,od,ws,e,g,q⟩:=b;exact⟨x,upd c a<|.dT ws,l.thawT e g,j,q⟩
def OP(mp:oA<|oB Nat)(td:AE)(g:AG)(tst:AT)(te:AE):AE:=λh j R=>td h j λx b=>match x with
 |.R a=>opt (b a) λm=>match m with
  |.dt c=>∀p,b p=none->cl p g tst te (λ_=>True) (λe=>R (.R p)<|Al e a<|.dt c) (c.map (·.2)) [] (MY mp h) (Al (Cb b a) p<|.lst [])
  |_=>False
 |_=>False
def Ps{td:AE}{g:AG}{tst:AT}{te:AE}(hc:X.calm=true)(hd:VE X o td)(hg:∀C s H r,VG (Bi X N' scope C s H r) tg g)(ht:∀C s H r,VIfs (Bi X N' scope C s H r) c7 tst)(he:∀C s H r,VE (Bi X N' scope C s H r) dy te)
  (ok:CompOkC X.N X.env.scope.names scope.names N' mp) (hk:scope.kind=.function:=by rfl) (hs:∀x,foldedSetIterable (.Call (.Attribute o "values" ap) [] [] aj) X.env x=pure x:=by intro _;rfl)
  (a8:attributeBase o "values" X.env (eval o X.env)=eval o X.env:=by rfl) (az:(ap.endLine==aj.line)=true:=by rfl) :
  VE X (.ListComp dy [⟨tg,.Call (.Attribute o "values" ap) [] [] aj,c7,0⟩] scope pos) (OP mp td g tst te) :=
 (HJ<|Pp (g:=cG X.K g) (tst:=cT X.K tst) (te:=cE X.K te) hc (Xc hd a8 az) (λC s H r=>hg C s H r) (λC s H r=>ht C s H r) (λC s H r=>he C s H r) ok hk hs).imp λσ H Q zz=>B1 zz λτ μ R ay hcn h hq=>by
 refine⟨τ,μ,_,ay,hcn,h,λx μ1 v F S1 c1 rx hx=>?_⟩;split at hx
 ·rename_i a;obtain⟨m,em,hx⟩:=A0 hx;split at hx
  ·rename_i l;obtain⟨ob,O,ws,rfl,rk⟩:=c1 _ _ em;cases (show v=.ref a from rx);refine⟨.inr<|.inr<|.inl ⟨rfl,.inr ⟨ws,O⟩⟩,a,ws,rfl,rfl,O,λvv lz=>?_⟩;have zu:a≠vv:=λz=>by rw[z]at O;rw[O]at lz;cases lz
   have cz:upd F vv (.ext λh=>h.IsValuesView vv a) a=some (.dT ws):=by rw[Ao zu];exact O
   refine⟨a,ws,vv,rfl,Bc,cz,λod hnf=>?_⟩;have T:Kp F (upd (upd F vv<|.ext λh=>h.IsValuesView vv a) a<|.frz od<|.dT ws):=(Kp.new lz _).trans<|Kp.put cz trivial _;have c2:Cn X.K (Cb μ1 a) (upd (upd F vv<|.ext λh=>h.IsValuesView vv a) a<|.frz od<|.dT ws):=λb m' e=>by
    have P:b≠a:=λz=>by rw[z]at e;unfold Cb at e;rw[N_ rfl]at e;cases e
    rw[A9 P]at e;obtain⟨o',e',r'⟩:=c1 b m' e;exact⟨o',by rw[Ao P,Ao<|Bw e' lz];exact e',r'.kp T⟩
   have iq:upd (upd F vv<|.ext λh=>h.IsValuesView vv a) a (.frz od<|.dT ws) a=some (.frz od<|.dT ws):=Bc;have oz:=rk.kp T;have Z:∀b,upd (upd F vv<|.ext λh=>h.IsValuesView vv a) a (.frz od<|.dT ws) b=none->F b=none:=λb e=>by
    by_cases h1:b=a
    ·rw[h1,Bc]at e;cases e
    ·rw[Ao h1]at e;by_cases h2:b=vv
     ·rw[h2,Bc]at e;cases e
     ·rw[Ao h2]at e;exact e
   generalize upd (upd F vv<|.ext λh=>h.IsValuesView vv a) a (.frz od<|.dT ws)=H2 at T c2 iq oz Z;have hl:=bM oz;intro p hp;have hx:=hx p<|c1.none<|Z p hp;have c0':Cn X.K (Al (Cb μ1 a) p<|.lst []) (upd H2 p<|.lst []):=c2.new hp<|C2 .nil;have W:Kp H2 (upd H2 p<|.lst []):=Kp.new hp _;have lm:(l.map (·.2)).length=ws.length:=by rw[C_];exact hl
   refine Tj ws.length (λi J G y=>∃ c j U,Kp H2 y/\Dv X.K y c G/\Cn X.K j y/\Ax X.K y U J/\cl p g tst te (λ_=>True) (λμ2=>R (.R p)<|Al μ2 a<|.dt l) ((l.map λq:oA Key×AV=>q.2).drop i) U c j) ⟨_,_,[],W,(((ay.kp S1).kp T).kp W).sub mp,c0',.nil,hx⟩ ?_ ?_ ?_
   ·rintro i J G y hi ⟨c,j,U,L,M,B,ra,h1⟩;exact⟨L.f _ _ _ iq,hi⟩
   ·rintro J G y ⟨c,j,U,L,M,B,ra,h1⟩;rw[<- lm,fK]at h1;have ly:=L.f _ _ _ iq;refine⟨⟨ly,rfl⟩,a,od,ws,ly,hnf,?_⟩;have K1:∀b Y,y b=some (.tup Y)->upd y a (.dT ws) b=some (.tup Y):=λb Y e=>by
     rw[Ao λz=>by rw[z,ly]at e;cases e];exact e
    have K2:Kp F (upd y a<|.dT ws):=⟨λb Y e=>K1 b Y<|L.t _ _<|T.t _ _ e,λb o' u e=>by
     rw[Ao λz=>by rw[z,O]at e;cases e];exact L.f _ _ _<|T.f _ _ _ e⟩
    refine hq _ _ _ _ (S1.trans K2) (λb m' e=>?_) C7 h1.2;by_cases P:b=a
    ·subst P;rw[Ab]at e;cases e;exact⟨_,Bc,ws,rfl,rk.kp K2⟩
    ·rw[Ad P]at e;obtain⟨o',e',r'⟩:=B b m' e;exact⟨o',by rw[Ao P];exact e',r'.th ly⟩
   ·rintro i v' J G y H'' hi ⟨c,j,U,L,M,B,ra,h1⟩ ⟨k,hw,rfl⟩;have jv:i<(l.map (·.2)).length:=by omega
    rw[bO jv]at h1;obtain⟨_,h1⟩:=h1;have hi3:i<l.length:=by rw[C_]at jv;exact jv
    obtain⟨q',e1,r1,r2⟩:=Dz oz<|E_ hi3;rw[hw]at e1;cases e1;rw[List.getElem_map]at h1;refine⟨_,c,j,_,r2.kp L,M,B,h1,λD μ3 σ3 H3 S4 I hc3 h3=>⟨D,μ3,_,I,hc3,h3,λk μ4 H4 S5 c4 h4=>?_⟩⟩;rcases br_e h4 with⟨rfl,n5⟩|⟨rfl,n5⟩
    ·rw[N_ rfl];refine⟨D,μ4,_,I.kp S5,c4,n5,λw μ5 u H5 S6 c5 rw h5=>?_⟩;obtain⟨e5,xp,h5⟩:=h5;obtain⟨o5,n,vs,rfl,rs⟩:=c5 _ _ e5;have S:Kp H'' H5:=S4.trans<|S5.trans S6;exact⟨vs,n,by rw[<- rs.length];exact xp,D,_,_,(L.trans S).trans<|Kp.put n trivial _,(I.kp<|S5.trans S6).kp<|Kp.put n trivial _,c5.put n trivial (C2<|rs.append<|.cons rw .nil),(rs.append<|.cons rw .nil).kp<|Kp.put n trivial _,h5⟩
    ·rw[I_ Q_];have S:Kp H'' H4:=S4.trans S5;exact⟨D,μ4,U,L.trans S,I.kp S5,c4,ra.kp S,n5⟩
  ·exact hx.elim
 ·exact hx.elim
end
section
variable {prog:lV}{w:lW}{A:lY}{R:mH->lQ->Prop}{I S:lT}{fp wr:oA lT}{n:Nat}{P:Nat->lP->Prop}{St:Nat->lZ->Prop}{h0:lZ}{φ:Prop}{f:lP->Int}{X:Cx}{k:Nat}
def Fa(h0 h:lZ):Prop:=∀b o,h0.get? b=some o->h.get? b=some o
def BK(W:Walks prog w A.in1 I fp wr n P St)(U:S∉fp)(O:h0.objs.size<=S)(hw:∀b∈wr,h0.objs.size<=b)(hc:∀i j u v (s:lQ),P i u->P j v->Fa h0 s.heap->∃r,Zq A.in1 s u v r/\(φ->r=decide (f u<f v)))(Y:∀i u v,P i u->P i v->u=v) :
  ∀(k j:Nat) (s:lQ) (d:oB lP) (c:Nat),j+k=n->(d=none->0<k/\j=0)->(∀v,d=some v->(∃i,P i v)/\(φ->∀i<j,∀u,P i u->f v<=f u))->St j s.heap->Fa h0 s.heap ->
  s.heap.get? S=some {cls:=.type "list",data:=.seq (d.elim #[] λv=>#[v,v]) c} ->
  (∀i v m G,P i v->(φ->∀i<n,∀u,P i u->f v<=f u)->Fa h0 m->R (.ok<|.ret v) {s with heap:=m,toks:=G}) ->
  codeAny (model prog w) A (.builtin "min.loop" ⟨[.ref I,.none,.ref S],[]⟩) R s:=by
 have nw:∀{b o},h0.get? b=some o->b∉wr:=λe z=>absurd (J_ e)<|g_.2<|hw _ z;have nS:∀{b o},h0.get? b=some o->S≠b:=λe z=>absurd (J_ e)<|g_.2<|z ▸ O;have Q:S∉wr:=λz=>U<|W.sub _ z;have L:∀{h:lZ} (f:l_->l_),Fa h0 h->Fa h0 (h.update S f):=λf q b o e=>(bC _ _<|nS e).trans<|q b o e;have N:(toString "min" ++ toString ".loop" : String) = "min.loop" := by decide
 have hz:∀d:oB lP,(d.elim #[] λv=>#[v,v]).size<=sizeLine:=λd=>by cases d<;>exact(by decide:2<=sizeLine) |> K_ (by first|exact aE _|exact G_ _)
 intro k
 induction k with
 |zero=>
  intro j s d c hj h1 h2 st g B q;obtain⟨l,rfl⟩:∃l,d=some l:=by
   cases d with
   |none=>exact absurd (h1 rfl).1 (c_ _)
   |some v=>exact⟨v,rfl⟩
  obtain⟨⟨i,p⟩,H⟩:=h2 _ rfl;rw[show j=n from hj]at H;refine dD F.entry_min_loop ?_;rw[bS F.plain_min_loop _];refine(show wpAny _ A.in1 (seqItems? (.ref S)>>=_) _ _ s from A_<|eX B rfl<|show wpAny _ A.in1 (tryCatch (pyNext<|.ref I) _>>=_) _ _ s from A_<|kM<|W.done s _ _ (by rw[<- hj];exact st) λm G E=>?_);exact(show wpAny _ A.in1 (updateSeq S (λ_=>#[])>>=_) _ _ _ from A_<|gU (E S _ Q B) rfl (hz:=hz _)<|A_<|iQ<|B_<|q i l _ G p H<|L _ λb o e=>E b o (nw e)<|g b o e)
 |succ k M=>
  intro j s d c hj h1 h2 st g B q;refine dD F.entry_min_loop ?_;rw[bS F.plain_min_loop _];refine(show wpAny _ A.in1 (seqItems? (.ref S)>>=_) _ _ s from A_<|eX B rfl<|show wpAny _ A.in1 (tryCatch (pyNext<|.ref I) _>>=_) _ _ s from A_<|kM<|W.item j s _ _ (by omega) st λv m G t Z E=>?_);have C:=E S _ Q B;have J:Fa h0 m:=λb o e=>E b o (nw e)<|g b o e;have D:∀f,St (j+1) (m.update S f):=λf=>W.frame _ _ _ Z λb hb o e=>(bC _ _ λz:S=b=>U<|z ▸ hb).trans e;cases d with
  |none=>
   refine(show wpAny _ A.in1 (updateSeq S (λ_=>#[v,v])>>=_) _ _ _ from A_<|gU C rfl (hz:=hz _) ?_);rw[N];have h5:∀u,some v=some u->(∃i,P i u)/\(φ->∀i<j+1,∀x,P i x->f u<=f x):=λu e=>by
    cases e;refine⟨⟨j,t⟩,λ_ i p u hu=>?_⟩;obtain rfl:i=j:=by have:=(h1 rfl).2;omega
    rw[Y _ u _ hu t];exact gM _
   exact B_ ⟨dF F.plain_min_loop _,M (j+1) _ (some v) _ (by omega) (λz=>nomatch z) h5 (D _) (L _ J) (aG _ C rfl) q⟩
  |some l=>
   obtain⟨⟨i,p⟩,H⟩:=h2 l rfl;have T:∀x y,P j y->(φ->f x<=f l)->(φ->f x<=f y)->φ->∀i<j+1,∀u,P i u->f x<=f u:=λx y hy a1 a2 a i p u hu=>by
    rcases Nat.lt_succ_iff_lt_or_eq.mp p with z|rfl
    ·exact Int.le_trans (a1 a)<|H a i z u hu
    ·rw[Y _ u _ hu hy];exact a2 a
   obtain⟨r,hr,V⟩:=hc j i v l {s with heap:=m,toks:=G} t p J;refine(show wpAny _ A.in1 (tryCatch (holding [v,v]<|richCompare .Lt v l>>=_) _>>=_) _ _ _ from A_<|kM<|bB<|A_<|hr prog w _ _ ?_);refine A_<|bB<|eC<|A_<|iQ<|B_ ?_;cases r with
   |true=>simp only[if_true];refine A_<|gU C rfl (hz:=hz _)<|A_<|iQ ?_;rw[N];exact B_ ⟨dF F.plain_min_loop _,M (j+1) _ (some v) _ (by omega) (λz=>nomatch z) (λu e=>by cases e;exact⟨⟨j,t⟩,T _ _ t (λa=>Int.le_of_lt<|aQ (V a).symm) λ_=>gM _⟩) (D _) (L _ J) (aG _ C rfl) q⟩
   |false=>simp only[Bool.false_eq_true,if_false];refine A_<|iQ ?_;rw[N];exact B_ ⟨dF F.plain_min_loop _,M (j+1) _ (some l) _ (by omega) (λz=>nomatch z) (λu e=>by cases e;exact⟨⟨i,p⟩,T _ _ t (λ_=>gM _) λa=>Int.not_lt.mp<|of_decide_eq_false (V a).symm⟩) Z J C q⟩
def BL{E:lP->lQ->Prop}{s:lQ}{p:lT}{c:oA lP}{Q:lP->lQ->Prop}(C:A.handled=none)(m:s.heap.IsList p c.toArray)(hn:0<c.length)(hc:∀u∈c,∀v∈c,∀l:lQ,Fa s.heap l.heap->∃r,Zq A.in1 l u v r/\(φ->r=decide (f u<f v)))
  (q:∀v∈c,(φ->∀u∈c,f v<=f u)->∀h t,Fa s.heap h->Q v {s with heap:=h,toks:=t}):qU prog w A (call (.builtin "min") [.ref p]) Q E s:=by
 have hp:p<s.heap.objs.size:=by obtain⟨_,B,_⟩:=m;exact J_ B
 have H:p≠s.heap.objs.size:=T_ hp;refine call_function_tree F.kind_min F.plain_min F.entry_min (F.args_min1 _)<|show wpAny _ A.in1 (Builtin.Builtins.bindParams "min" ["key","default"] 0 ⟨[],[]⟩>>=_) _ _ s from A_<|eK (show _=pure [none,none] from rfl)<|A_<|B_<|A_<|eE m<|A_<|aC ?_;rw[show(toString "min" ++ toString ".loop" : String) = "min.loop" by decide];have d:∀{i:Nat} {v},c.toArray[i]?=some v->v∈c:=λ{i v} e=>V_ (i:=i) (by simpa using e);have x:Fa s.heap (s.heap.push {cls:=.type "list_iterator",data:=.fields #[.ref p,.int 0 0]}):=λb o e=>DD _ e;refine B_ ⟨dF F.plain_min_loop _,BK (h0:=s.heap) (lM (show A.in1.handled=none from C) s.heap.objs.size p H c.toArray) ?_ ?_ ?_ (λi j u v l J hj g=>hc u (d J) v (d hj) l g) (λi u v D y=>by rw[D]at y;exact aX y) c.toArray.size 0 _ none 0 (Nat.zero_add _) (λ_=>⟨by simpa using hn,rfl⟩) (λv e=>nomatch e) ?_ ?_ (H_ _ rfl) λi v h t L G g=>q v (d L) (λa u hu=>by obtain⟨k,hk,e⟩:=eI hu;exact G a k (by simpa using hk) u<|by rw[<- e];simp[hk]) h t g⟩
 ·intro z;rw[bW]at z;rcases aB.mp z with z|z
  ·exact absurd z<|Nat.succ_ne_self _
  ·exact absurd (O_.mp z)<|fV<|dA hp
 ·rw[bW];exact eA _
 ·exact λb hb=>by rw[O_.mp hb];exact G_ _
 ·exact⟨⟨_,DD _<|H_ _ rfl,rfl,rfl⟩,m.at λo e=>DD _<|x _ _ e⟩
 ·exact λb o e=>DD _<|x b o e
def JY:AC:=λg c R=>match g with
 |[.R a]=>opt (c a) λm=>match m with
  |.lst h=>opt (dats h) λb=>(0<b.length/\∀d∈b,B6 d/\∀e∈b,cmpb d e=true)/\∀d∈b,((∀e∈b,∃j,e=.int j)->∀i j,d=.int i->.int j∈b->i<=j)->R (.D d) c
  |_=>False
 |_=>False
def Sg(hr:Room k X.A)(cu:X.calm=true):VCall X (.builtin "min") JY:=by
 intro aa s σ H xs us Q I r zq;refine B1 zq λp μ R ra hc h hq=>?_;unfold JY at h;split at h
 ·cases ra with
  |cons r1 r2=>
   cases r2;obtain⟨m,em,h⟩:=A0 h;split at h
   ·obtain⟨z,ed,⟨hn,c⟩,h⟩:=A0 h;obtain⟨o,ho,ws,rfl,rs⟩:=hc _ _ em;cases (show _=V.ref _ from r1);obtain⟨u,rfl,E⟩:=Ex r;cases E;obtain⟨B,L,pl,hz⟩:=I.list<|Ff.of (K:=X.K) ho;have dk:=rs.dats ed;obtain⟨W,T⟩:=An.reads I z ws B dk L;have J:=Tz T;have hu:=hr.un;refine BL (φ:=∀e∈z,∃j,e=.int j) (f:=Ds) (I.ok.hd cu) pl.isList (by rw[J];exact hn) (λu F v hv U g=>?_) λv hv hm h' tk g=>?_
    ·have one:∀{x},x∈B->∃d∈z,∃p,Reads U.heap x d p:=λ{x} hx=>by
      obtain⟨i,C,rfl⟩:=eI hx;have b:i<z.length:=by rw[<- J];exact C
      obtain⟨p,q⟩:=TK (Ht g T) b;rw[show B.getD i .none=B[i] by rw[bJ,E_ C];rfl]at q;exact⟨_,Zr b,p,q⟩
     obtain⟨d,b,p,N⟩:=one F;obtain⟨e,he,W,Z⟩:=one hv;have h1:=(c d b).1;have h2:=(c e he).1;have:=h1.2;exact⟨_,J6 d e X.A.in1 U u v p W N Z h1.1 h2.1 ((c d b).2 e he)<|by show X.A.units+1+_<_;omega,λa=>by
      obtain⟨i,rfl⟩:=a d b;obtain⟨j,rfl⟩:=a e he;cases N;cases Z;show EA (.int i) (.int j)=decide (i<j);simp only[EA]⟩
    ·obtain⟨i,C,rfl⟩:=eI hv;have b:i<z.length:=by rw[<- J];exact C
     obtain⟨x,hx,G⟩:=dk.get<|E_ b;obtain⟨u,F,E⟩:=L.get hx;rw[E_ C]at F;cases F;refine⟨x,H,I.kept (t':=tk) g,E,hq (.D z[i]) _ _ _ Kp.refl hc G<|h _ (eO b) λa i' j ei M=>?_⟩;obtain⟨l,hl,M⟩:=eI M;obtain⟨y,hy,Y⟩:=dk.get<|E_ hl;obtain⟨v,hv',ry⟩:=L.get hy;rw[ei]at G;rw[M]at Y;cases Dk.int G;cases Dk.int Y;have O:=hm a v<|V_ hv';obtain⟨t,e⟩:=(show ∃t,B[i]=Value.int i' t from E);obtain⟨t',rfl⟩:=(show ∃t,v=Value.int j t from ry);rw[e]at O;exact O
   ·exact h.elim
 ·exact h.elim
end
structure FunD(K:lU)(x qual:Str)(st:mC)(f:lT)(fd:mD)(T:lT):Prop where
 ex:∃(oc:lP) (od:oB lT) (kV bw pm:lP) (an:oB lT) (aq ct:lP) (f7:oC<|oB lP),
  fd=PySem.W.fnOf x qual (Cz st) (Cd st) (Ah st) (.ref T) kV bw pm an aq ct/\K.lookup f=some ⟨oc,od,.func fd,f7⟩/\PySem.W.codeIn K aq qual=true
section
variable {P:lV}{w:lW}{K:lU}{mg:Str->oB lP}{base:lZ}{x qual:Str}{st:mC}{f T:lT}{fd:mD}{N ps:oA Str}{k:Nat}{sp:ASp}{prog:lV}{A:lY}{E:lP->lQ->Prop}{s:lQ}
def FunD.binds{d:Int}{tk:Tok}{n:Nat}{o:lP}{m:oB lT}{j:oC<|oB lP}(F:FunD K x qual st f fd T)(l:K.lookup T=some ⟨o,m,.seq #[.int d tk] n,j⟩)
  (h:∀(kV c b:lP) (g:oB lT) (e ct:lP) (a:oA lP),a.length+1=ps.length->∃k,bindArgs (PySem.W.fnOf x qual (Cz st) (Cd st) (Ah st) (.ref T) kV c b g e ct) ⟨a,[]⟩=seqItems? (.ref T)>>=k/\k (some #[.int d tk])=pure (ps.zip<|a++[.int d tk])):Binds K fd ps [.int d tk]:=by
 obtain⟨_,_,kV,c,b,g,e,ct,_,rfl,q,p⟩:=F.ex;intro s a X i;obtain⟨k,h1,h2⟩:=h kV c b g e ct a (by rw[R_]at i;exact i);exact .of_defaults rfl (X _ _ l) rfl h1 h2
def HK{d:lT}{o:l_}{es:oC DictEntry}{ep:Nat}{n:Nat}{Q:lP->lQ->Prop}(g:(d==sysModules)=false)(c:s.heap.get? d=some o)(hc:o.ExactDict)(b:o.data=.dict es ep)(hn:es.size=n)(j:(n:Int)<2^63)(h:∀t i,Q (.int n t) {s with toks:=i}):qU prog w A (call (.builtin "len") [.ref d]) Q E s:=by
 have ty:s.TypeIs (.ref d) "dict" := ⟨o,c,hc.1⟩;have mt:MeetsIn prog w (Builtin.«dict.__len__» ⟨[.ref d],[]⟩) (λ_ R a=>a.heap=s.heap/\R (.ok<|.ret<|.int n a.toks) {a with toks:=a.toks+1}):=.of_wp λA R a ⟨e,h⟩=>by show wpAny _ _ (dictSize d>>=_) _ _ a;unfold dictSize;exact A_<|A_<|dH (by rw[e];exact c) b<|B_<|show wpAny _ _ (Builtin.Dict.pendingCount d>>=_) _ _ a from A_<|wpAny_pendingCount_other g<|wpAny_ret_mkInt<|by rw[Nat.add_zero,hn];exact h
 refine Calls.call_function_entry kind_len plain_len entry_len (args_len1 _) ?_;unfold Builtin.«len»;refine A_ (m:=oneArg "len" _)<|B_<|A_ (m:=callSpecial? (.ref d)<|Str.ofString "__len__")<|bG (name:=Str.ofString "__len__") ty F.slot_dict_len<|iU F.slot_dict_len ty F.entry_dict_len (F.args_dict_len_1 _) mt ⟨rfl,?_⟩;show wpAny _ _ _ _ _ {s with toks:=s.toks+1};refine A_<|bB<|B_<|A_<|iQ<|show wpAny _ _ (if((n:Nat):Int)<0 then _ else _) _ _ _ from ?_;rw[I_<|by omega];refine(show wpAny _ _ (if((n:Nat):Int)>=2^63 then _ else _) _ _ _ from ?_);rw[I_<|by omega];exact A_<|wpAny_mkInt<|B_ ⟨_,rfl,h _ _⟩
end
def UB:AC:=λd c R=>match d with
 |[.R a]=>opt (c a) λm=>match m with
  |.dt b=>R (.D<|.int b.length) c
  |_=>False
 |_=>False
def OQ{X:Cx}:VCall X (.builtin "len") UB:=by
 intro D s O H A J Q I r b;refine B1 b λS P R g hc h hq=>?_;cases g with
 |nil=>exact False.elim h
 |@cons x v F M B n=>
  cases x with
  |R a=>
   cases n with
   |cons _ _=>exact False.elim h
   |nil=>
    obtain⟨m,k,h⟩:=A0 h;cases (show _=V.ref _ from B);obtain⟨o,d,i⟩:=hc _ _ k;cases m with
    |dt p=>
     obtain⟨c,rfl,f⟩:=i;obtain⟨u,rfl,q⟩:=Ex r;cases q;obtain⟨z,y,A,r,L,C,E,h1,h2,l,e,G⟩:=(show Bg X.prog X.w H s.heap a (.dT c) from I.hok a _ d);have j:C.size=c.length:=by rw[<- aF,e,C_,<- bM r]
     refine HK y h1 h2 l j (by rw[kP]at z;omega) λt N=>⟨.int c.length,H,I.tok _,⟨t,rfl⟩,hq _ _ _ _ Kp.refl hc ?_ h⟩;rw[bM f];exact Ci
    |_=>exact False.elim h
  |_=>exact False.elim h
section
variable(l:lT)(ae:oC lP)(n:Nat)(dd:oB lT)(sl:oC<|oB lP)(t:Tok)
end
end L2
namespace L2
open PySem PySem.W PyProof.Rows
noncomputable def cn(x:mE)(l:oA mE):Nat:=@List.count _ (@instBEqOfDecidableEq _ λa b=>Classical.propDecidable<|a=b) x l
def Si{l m:oA mE}:l.Perm m↔∀x,cn x l=cn x m:=@List.perm_iff_count _ (@instBEqOfDecidableEq _ λa b=>Classical.propDecidable<|a=b) _ l m
def Ev(x:mE)(l m:oA mE):cn x (l++m)=cn x l+cn x m:=@List.count_append _ (_) x l m
def BM(x:mE)(l:oA mE):cn x l.reverse=cn x l:=Si.mp (List.reverse_perm l) x
noncomputable def cx(x:mE)(a:oC mE)(i j:Nat):Nat:=cn x (a.extract i j).toList
def F7(x:mE)(a:oC mE){i j k:Nat}(h1:i<=j)(h2:j<=k):cx x a i k=cx x a i j+cx x a j k:=by unfold cx;rw[<- Ev,<- eJ,Array.extract_append_extract,Nat.min_eq_left h1,Nat.max_eq_right h2]
def Kq(x:mE)(a:oC mE):cx x a 0 a.size=cn x a.toList:=by unfold cx;rw[Array.extract_size]
def UC{a:oC mE}{i:Nat}(h:i<a.size):a.extract i (i+1)=#[a[i]]:=by
 apply Array.ext
 ·simp;omega
 ·intro j h1 h2;have:j=0:=by simpa using h2
  subst this;simp
def ML(a b o:oC mE)(i i' j c:Nat):Prop:=∀x,cn x o.toList+cx x a i i'+cx x b j c=cn x a.toList+cn x b.toList
def Mg(a b R:oC mE):Prop:=∀x,cn x R.toList=cn x a.toList+cn x b.toList
section
variable {a b o:oC mE}{i i' j j' m:Nat}
def ML.sw(h:ML a b o i i' j j'):ML b a o j j' i i':=λx=>by have:=h x;omega
def ML.loA(h:ML a b o i i' j j')(h1:i<=m)(h2:m<=i'):ML a b (o++a.extract i m) m i' j j':=λx=>by have:=h x;have:=F7 x a h1 h2;rw[eJ,Ev];unfold cx at *;omega
def ML.hiA(h:ML a b o i i' j j')(h1:i<=m)(h2:m<=i'):ML a b (o++(a.extract m i').reverse) i m j j':=λx=>by have:=h x;have:=F7 x a h1 h2;rw[eJ,Ev,Array.toList_reverse,BM];unfold cx at *;omega
def ML.loB(h:ML a b o i i' j j')(h1:j<=m)(h2:m<=j'):ML a b (o++b.extract j m) i i' m j':=(h.sw.loA h1 h2).sw
def ML.hiB(h:ML a b o i i' j j')(h1:j<=m)(h2:m<=j'):ML a b (o++(b.extract m j').reverse) i i' j m:=(h.sw.hiA h1 h2).sw
def ML.puA(h:ML a b o i i' j j')(h1:i<i')(h2:i<a.size):ML a b (o.push a[i]) (i+1) i' j j':=by have:=h.loA (eA i) h1;rw[UC h2]at this;simpa using this
def ML.puB(h:ML a b o i i' j j')(h1:j<j')(h2:j<b.size):ML a b (o.push b[j]) i i' (j+1) j':=(h.sw.puA h1 h2).sw
def ML.poA(h:ML a b o i i' j j')(h1:i<i')(h2:i'-1<a.size):ML a b (o.push a[i'-1]) i (i'-1) j j':=by have:=h.hiA (m:=i'-1) (Nat.le_sub_one_of_lt h1)<|iM _ _;rw[show a.extract (i'-1) i'=#[a[i'-1]] from by rw[<- UC h2];congr 1;omega]at this;simpa using this
def ML.poB(h:ML a b o i i' j j')(h1:j<j')(h2:j'-1<b.size):ML a b (o.push b[j'-1]) i i' j (j'-1):=(h.sw.poA h1 h2).sw
def ML.d1(h:ML a b o i i' j j'):Mg a b (o++a.extract i i'++b.extract j j'):=λx=>by have:=h x;rw[eJ,eJ,Ev,Ev];exact this
def ML.d2(h:ML a b o i i' j j'):Mg a b (o++b.extract j j'++a.extract i i'):=λx=>by rw[h.sw.d1 x];exact lN _ _
def ML.d3(h:ML a b o i i' j j'):Mg a b (a.extract i i'++b.extract j j'++o.reverse):=λx=>by have:=h x;rw[eJ,eJ,Ev,Ev,Array.toList_reverse,BM];unfold cx at this;omega
def ML.d4(h:ML a b o i i' j j'):Mg a b (b.extract j j'++a.extract i i'++o.reverse):=λx=>by rw[h.sw.d3 x];exact lN _ _
end
def AOk(a:oA lP)(p:oC mE):Prop:=∀x∈p.toList,x.1∈a
def AOk.at{a:oA lP}{p:oC mE}{i:Nat}(h:AOk a p)(b:i<p.size):p[i].1∈a:=h _<|by simp
def AOk.pm{a:oA lP}{p q:oC mE}(h:AOk a p)(k:q.toList.Perm p.toList):AOk a q:=λx hx=>h x<|k.mem_iff.mp hx
def AOk.ex{a:oA lP}{p:oC mE}{i j:Nat}(h:AOk a p):AOk a (p.extract i j):=λx hx=>h x<|by
 rw[jT]at hx;exact jS<|eY<|by rwa[iC]at hx
section
variable {prog:lV}{w:lW}{A:lY}{E:lP->lQ->Prop}{s:lQ}{κ:mJ}{vs:oA lP}
def Fb(prog:lV)(w:lW)(A:lY)(κ:mJ)(vs:oA lP)(s:lQ):Prop :=
 ∀u∈vs,∀v∈vs,∃c:Bool,∀C:Bool->lQ->Prop,C c s->qU prog w A (keyLt' κ u v) C (λ_ _=>False) s
def BN(hc:Fb prog w A κ vs s){st:mI}(hk:kindOf st=κ){x y:mE}(hx:x.1∈vs)(hy:y.1∈vs){Q:oB Bool->mI->Prop}(h:∀c,Q (some c) st):wpS (model prog w) A E s (lt' x y) Q st:=by obtain⟨c,hc⟩:=hc _ hx _ hy;rw[lt'_eq];refine U_<|jC ?_;rw[hk];refine U_<|lJ<|eB<|bD (hc (λb a=>a=s/\b=c) ⟨rfl,rfl⟩) (λc a d=>?_) λ_ _ e=>e.elim;obtain⟨rfl,rfl⟩:=d;exact⟨rfl,W_<|h _⟩
def Bz{st:mI}{p:oC mE}{i:Nat}(a:i<p.size){Q:mE->mI->Prop}(h:Q p[i] st):wpS (model prog w) A E s (elem' p i) Q st:=by rw[elem'_eq,aH a];exact W_ h
def OR{j:Type}{m n:Nat}{F:Nat->oB j×Nat×Nat->StateT mI Sem (ForInStep<|oB j×Nat×Nat)}{st:mI}
  (o:∀x lo d (Q:ForInStep (oB j×Nat×Nat)->mI->Prop),lo<=d->d<=m->(lo=d->Q (.done (none,lo,d)) st)->(∀i g,i<=g->g<=m->g-i<d-lo->Q (.yield (none,i,g)) st)->wpS (model prog w) A E s (F x (none,lo,d)) Q st)
  {lo d:Nat} (h1:lo<=d) (h2:d<=m) (l:d-lo<=n) {Q:oB j×Nat×Nat->mI->Prop} (h:∀k,k<=m->Q (none,k,k) st):wpS (model prog w) A E s (forIn [0:n] ((none,lo,d):oB j×Nat×Nat) F) Q st:=by
 refine gK (gS (I:=λx c f=>f=st/\∃lo d,c=(none,lo,d)/\lo<=d/\d<=m/\d-lo<=n-x) (Q:=λc f=>f=st/\∃k,c=(none,k,k)/\k<=m) ?_ ?_ ⟨rfl,lo,d,rfl,h1,h2,l⟩) ?_
 ·rintro x c f _ hx ⟨rfl,lo,d,rfl,h1,h2,l⟩;exact o x lo d _ h1 h2 (λe=>⟨rfl,lo,by rw[e],K_ h1 h2⟩) λi g a b c=>⟨rfl,i,g,rfl,a,b,by omega⟩
 ·rintro c f ⟨rfl,lo,d,rfl,h1,h2,l⟩;exact⟨rfl,lo,by rw[show d=lo by omega],K_ h1 h2⟩
 ·rintro c f ⟨rfl,k,rfl,hk⟩;exact h k hk
def BO{left:Bool}{l:mE}{q:oC mE}{base m e:Nat}{st:mI}(o:e<m)
  (j:∀i Q,i<m->(∀c,Q (some c) st)->wpS (model prog w) A E s (byd left l q base i) Q st) {Q:oB Nat->mI->Prop} (h:∀k,k<=m->Q (some k) st):wpS (model prog w) A E s (gallop' left l q base m e) Q st:=by
 rw[Rk];dsimp only;refine U_<|j e _ o λr=>?_;dsimp only;cases r with
 |true=>
  rw[N_ rfl];refine U_<|gK (gS (I:=λx c g=>g=st/\∃f d,c=(none,f,d)/\f<d/\f<m-e) (Q:=λc g=>g=st/\∃f d,c=(none,f,d)/\f<d/\f<m-e) ?_ (λ_ _ z=>z) ⟨rfl,0,1,rfl,iB _,Nat.sub_pos_of_lt o⟩) ?_
  ·rintro x c g _ hx ⟨rfl,f,d,rfl,h1,h2⟩;dsimp only;by_cases c:d>=m-e
   ·rw[N_ c];exact W_ ⟨rfl,f,d,rfl,h1,h2⟩
   ·rw[I_ c];refine U_ (j _ _ (by omega) λc=>?_);cases c
    ·exact W_ ⟨rfl,f,d,rfl,h1,h2⟩
    ·exact W_ ⟨rfl,d,_,rfl,by omega,Nat.lt_of_not_le c⟩
  ·rintro c g ⟨rfl,f,d,rfl,h1,h2⟩;dsimp only;refine U_ (OR (m:=m) (λx lo p t a b n hy=>?_) (by omega) (by omega) (by omega) λk hk=>W_<|h k hk);dsimp only;by_cases c:lo>=p
   ·rw[N_ c];exact W_<|n<|by omega
   ·rw[I_ c];refine U_ (j _ _ (by omega) λc=>?_);cases c
    ·exact W_<|hy _ _ (cD _ _) (by omega)<|by omega
    ·exact W_ (hy _ _ (by omega) (b)<|by omega)
 |false=>
  rw[I_ Q_];refine U_<|gK (gS (I:=λx c g=>g=st/\∃f d,c=(none,f,d)/\f<d/\f<=e) (Q:=λc g=>g=st/\∃f d,c=(none,f,d)/\f<d/\f<=e) ?_ (λ_ _ z=>z) ⟨rfl,0,1,rfl,iB _,aE _⟩) ?_
  ·rintro x c g _ hx ⟨rfl,f,d,rfl,h1,h2⟩;dsimp only;by_cases c:d>=e+1
   ·rw[N_ c];exact W_ ⟨rfl,f,d,rfl,h1,h2⟩
   ·rw[I_ c];refine U_<|j _ _ (eL (iM e d) o) λc=>?_;cases c
    ·exact W_ ⟨rfl,d,_,rfl,by omega,by omega⟩
    ·exact W_ ⟨rfl,f,d,rfl,h1,h2⟩
  ·rintro c g ⟨rfl,f,d,rfl,h1,h2⟩;dsimp only;refine U_ (OR (m:=m) (λx lo p t a b n hy=>?_) (by omega) (by omega) (by omega) λk hk=>W_<|h k hk);dsimp only;by_cases c:lo>=p
   ·rw[N_ c];exact W_<|n<|by omega
   ·rw[I_ c];refine U_ (j _ _ (by omega) λc=>?_);cases c
    ·exact W_<|hy _ _ (cD _ _) (by omega)<|by omega
    ·exact W_<|hy _ _ (by omega) (b)<|by omega
def QS{left:Bool}(hc:Fb prog w A κ vs s){st:mI}(hk:kindOf st=κ){p:oC mE}{b:mE}{base m a:Nat}(e:a<m)(hb:base+m<=p.size)(hp:AOk vs p)(d:b.1∈vs){Q:oB Nat->mI->Prop}(h:∀k,k<=m->Q (some k) st):wpS (model prog w) A E s (gallop' left b p base m a) Q st:=by
 refine BO e (λi g f q=>?_) h;unfold byd;refine U_ (Bz (by omega) ?_);cases left
 ·exact U_<|BN hc hk d (hp.at _) λc=>W_<|q _
 ·exact BN hc hk (hp.at _) d q
structure LMid(a b:oC mE)(q:Nat)(o:oC mE)(ia ib:Nat):Prop where
 m:ML a b o ia a.size ib b.size
 ha:ia+1<a.size
 hb:ib<b.size
 q:q<=ia+ib
structure RMid(a b:oC mE)(q:Nat)(o:oC mE)(na nb:Nat):Prop where
 m:ML a b o 0 na 0 nb
 h1:na<=a.size
 h2:nb<=b.size
 ha:0<na
 hb:1<nb
 q:na+nb+q<=a.size+b.size
section
variable {a b out:oC mE}{st:mI}{Qd Qy:TH->mI->Prop}{ia ib mg ac bc:Nat}
def UD(M:ML a b out ia a.size ib b.size)(ha:ia+1<a.size)(hb:ib<b.size)(d:∀R c,Mg a b R->c.1=some R->Qd c st)(h:∀o i j m x y,LMid a b (ia+ib+1) o i j->Qd (none,o,i,j,m,x,y) st/\Qy (none,o,i,j,m,x,y) st) :
  wpS (model prog w) A E s (GC a b out ia ib mg ac bc) (λr f=>match r with|.done c'=>Qd c' f|.yield c'=>Qy c' f) st:=by
 unfold GC;refine U_<|Bz (cL ha) ?_;have M1:=M.puA (cL ha)<|cL ha;by_cases e:ia+1+1=a.size
 ·rw[N_<|by simpa using e];exact W_<|d _ _ M1.d2 rfl
 ·rw[I_<|by simpa using e];have g:=h _ _ _ mg ac bc ⟨M1,by omega,hb,by omega⟩;split
  ·exact W_ g.1
  ·exact W_ g.2
def UE(hc:Fb prog w A κ vs s)(hk:kindOf st=κ)(u:AOk vs a)(p:AOk vs b)(M:ML a b out ia a.size ib b.size)(ha:ia+1<a.size)(hb:ib<b.size)(d:∀R c,Mg a b R->c.1=some R->Qd c st)(t:∀o i j m x y,LMid a b (ia+ib+1) o i j->Qd (none,o,i,j,m,x,y) st/\Qy (none,o,i,j,m,x,y) st) :
  wpS (model prog w) A E s (GD a b out ia ib mg ac bc) (λr l=>match r with|.done c'=>Qd c' l|.yield c'=>Qy c' l) st:=by
 unfold GD;refine U_<|Bz hb ?_;have M1:=M.puB hb hb;have f:∀k,∀o i j m x y,LMid a b (ia+(ib+1+k)+1) o i j->Qd (none,o,i,j,m,x,y) st/\Qy (none,o,i,j,m,x,y) st:=λk o i j m x y h=>t o i j m x y ⟨h.m,h.ha,h.hb,by have:=h.q;omega⟩;by_cases e:ib+1=b.size
 ·rw[N_<|by simpa using e];exact W_<|d _ _ M1.d1 rfl
 ·rw[I_<|by simpa using e];refine U_ (Bz (cL ha)<|U_<|QS hc hk (by omega) (by omega) p (u.at _) λk v=>?_);dsimp only;by_cases n:k>0
  ·rw[N_ n];have M2:=M1.loB (m:=ib+1+k) (cD _ _) (by omega);by_cases g:ib+1+k=b.size
   ·rw[N_<|by simpa using g];exact W_<|d _ _ M2.d1 rfl
   ·rw[I_<|by simpa using g];exact UD M2 ha (by omega) d<|f k
  ·rw[I_ n];exact UD M1 ha (by omega) d<|f 0
def Qa0(hc:Fb prog w A κ vs s)(hk:kindOf st=κ)(f:AOk vs a)(e:AOk vs b)(M:ML a b out ia a.size ib b.size)(ha:ia+1<a.size)(hb:ib<b.size)(d:∀R c,Mg a b R->c.1=some R->Qd c (Cu st mg))(t:∀o i j m x y,LMid a b (ia+ib+1) o i j->Qd (none,o,i,j,m,x,y) (Cu st mg)/\Qy (none,o,i,j,m,x,y) (Cu st mg)) :
  wpS (model prog w) A E s (NS a b out ia ib mg ac bc) (λr n=>match r with|.done c'=>Qd c' n|.yield c'=>Qy c' n) st:=by
 unfold NS;rw[Cq];refine U_ (fE<|U_<|Bz hb<|U_<|QS hc (st:=Cu st mg) hk (by omega) (by omega) f (e.at _) λk u=>?_);dsimp only;by_cases p:k>0
 ·rw[N_ p];have M1:=M.loA (m:=ia+k) (cD _ _) (by omega);by_cases l:ia+k+1=a.size
  ·rw[N_<|by simpa using l];exact W_<|d _ _ M1.d2 rfl
  ·rw[I_<|by simpa using l];by_cases g:ia+k=a.size
   ·rw[N_<|by simpa using g];exact W_<|d _ _ M1.d1 rfl
   ·rw[I_<|by simpa using g];exact UE hc (st:=Cu st mg) hk f e M1 (by omega) hb d λo i j m x y h=>t o i j m x y ⟨h.m,h.ha,h.hb,by have:=h.q;omega⟩
 ·rw[I_ p];exact UE hc (st:=Cu st mg) hk f e M ha hb d t
end
section
variable {a b out:oC mE}{st:mI}{Qd Qy:TJ->mI->Prop}{na nb mg ac bc q:Nat}
def UF(M:RMid a b q out na nb)(d:∀R c,Mg a b R->c.1=some R->Qd c st)(k:∀o i j m x y,RMid a b (q+1) o i j->Qd (none,i,j,o,m,x,y) st/\Qy (none,i,j,o,m,x,y) st) :
  wpS (model prog w) A E s (GE a b out na nb mg ac bc) (λr h=>match r with|.done c'=>Qd c' h|.yield c'=>Qy c' h) st:=by
 obtain⟨M,h1,h2,ha,hb,hq⟩:=M;unfold GE;refine U_ (Bz (by omega) ?_);have M1:=M.poA ha (by omega);by_cases e:na-1=0
 ·rw[N_<|by simpa using e];exact W_<|d _ _ M1.d3 rfl
 ·rw[I_<|by simpa using e];have g:=k _ _ _ mg ac bc ⟨M1,K_ (iM na 1) h1,h2,gQ e,hb,by omega⟩;by_cases f:(decide (ac<7)&&decide (bc<7))=true
  ·rw[N_ f];exact W_ g.1
  ·rw[I_ f];exact W_ g.2
def UG(hc:Fb prog w A κ vs s)(hk:kindOf st=κ)(u:AOk vs a)(t:AOk vs b)(M:RMid a b q out na nb)(d:∀R c,Mg a b R->c.1=some R->Qd c st)(n:∀o i j m x y,RMid a b (q+1) o i j->Qd (none,i,j,o,m,x,y) st/\Qy (none,i,j,o,m,x,y) st) :
  wpS (model prog w) A E s (GF a b out na nb mg ac bc) (λr h=>match r with|.done c'=>Qd c' h|.yield c'=>Qy c' h) st:=by
 obtain⟨M,h1,h2,ha,hb,hq⟩:=M;unfold GF;refine U_ (Bz (by omega) ?_);have M1:=M.poB (cL hb) (by omega);by_cases e:nb-1=1
 ·rw[N_<|by simpa using e];exact W_<|d _ _ M1.d4 rfl
 ·rw[I_<|by simpa using e];refine U_ (Bz (by omega)<|U_<|QS hc hk (by omega) (by omega) t (u.at _) λk p=>?_);dsimp only;by_cases l:nb-1-k>0
  ·rw[N_ l];have M2:=M1.hiB (m:=k) (aE _) p;by_cases g:k=1
   ·rw[N_<|by simpa using g];exact W_<|d _ _ M2.d4 rfl
   ·rw[I_<|by simpa using g];by_cases f:k=0
    ·rw[N_<|by simpa using f];exact W_<|d _ _ M2.d3 rfl
    ·rw[I_<|by simpa using f];exact UF ⟨M2,h1,by omega,ha,by omega,by omega⟩ d n
  ·rw[I_ l];exact UF ⟨M1,h1,K_ (iM nb 1) h2,ha,by omega,by omega⟩ d n
def Qa1(hc:Fb prog w A κ vs s)(hk:kindOf st=κ)(g:AOk vs a)(f:AOk vs b)(M:RMid a b q out na nb)(d:∀R c,Mg a b R->c.1=some R->Qd c (Cu st mg))(p:∀o i j m x y,RMid a b (q+1) o i j->Qd (none,i,j,o,m,x,y) (Cu st mg)/\Qy (none,i,j,o,m,x,y) (Cu st mg)) :
  wpS (model prog w) A E s (NT a b out na nb mg ac bc) (λr l=>match r with|.done c'=>Qd c' l|.yield c'=>Qy c' l) st:=by
 obtain⟨M,h1,h2,ha,hb,hq⟩:=M;unfold NT;rw[Cq];refine U_ (fE<|U_<|Bz (by omega)<|U_<|QS hc (st:=Cu st mg) hk (lO ha<|by decide) (by omega) g (f.at _) λk h=>?_);dsimp only;by_cases n:na-k>0
 ·rw[N_ n];have M1:=M.hiA (m:=k) (aE _) h;by_cases e:k=0
  ·rw[N_<|by simpa using e];exact W_<|d _ _ M1.d3 rfl
  ·rw[I_<|by simpa using e];exact UG hc (st:=Cu st mg) hk g f ⟨M1,K_ h h1,h2,gQ e,hb,by omega⟩ d p
 ·rw[I_ n];exact UG hc (st:=Cu st mg) hk g f ⟨M,h1,h2,ha,hb,hq⟩ d p
end
def LMid.dn{a b o:oC mE}{q y i j:Nat}(M:LMid a b (q+(y+1)) o i j):LMid a b (q+1) o i j:=⟨M.m,M.ha,M.hb,K_ (by omega) M.q⟩
def RMid.dn{a b o:oC mE}{q y i j:Nat}(M:RMid a b (q+(y+1)) o i j):RMid a b (q+1) o i j:=⟨M.m,M.h1,M.h2,M.ha,M.hb,K_ (by omega) M.q⟩
def Ia{b e d j τ:Type}{P:oC mE->Prop}{L:Nat->b->e->d->Prop}{N n m g:Nat}{f:Nat->(oB (oC mE)×b×e×d×j)->StateT mI Sem (ForInStep<|oB (oC mE)×b×e×d×j)}{k:(oB (oC mE)×b×e×d×j)->StateT mI Sem τ}{Q:τ->mI->Prop}{st l:mI}{u:b}{v:e}{x:d}{r:j}(hs:l=Cu st g)(h0:L n u v x)
  (step:∀y u v x r g,L (n+y) u v x->wpS (model prog w) A E s (f y (none,u,v,x,r)) (λz a=>match z with
   |.done c=>(∃g,a=Cu st g)/\((∃R,c.1=some R/\P R)\/(c.1=none/\L m c.2.1 c.2.2.1 c.2.2.2.1))
   |.yield c=>(∃g,a=Cu st g)/\c.1=none/\L (n+(y+1)) c.2.1 c.2.2.1 c.2.2.2.1) (Cu st g))
  (i:∀u v x,L (n+N) u v x->L m u v x) (p:∀R c g,P R->wpS (model prog w) A E s (k (some R,c)) Q (Cu st g)) (C:∀u v x r g,L m u v x->wpS (model prog w) A E s (k (none,u,v,x,r)) Q (Cu st g)):wpS (model prog w) A E s (forIn [0:N] (none,u,v,x,r) f>>=k) Q l:=by
 refine U_<|gK (gS (I:=λy c a=>(∃g,a=Cu st g)/\c.1=none/\L (n+y) c.2.1 c.2.2.1 c.2.2.2.1) (Q:=λc a=>(∃g,a=Cu st g)/\((∃R,c.1=some R/\P R)\/(c.1=none/\L m c.2.1 c.2.2.1 c.2.2.2.1))) ?_ ?_ ⟨⟨g,hs⟩,rfl,h0⟩) ?_
 ·rintro y ⟨B,u,v,x,r⟩ a _ _ ⟨⟨g,rfl⟩,rfl,h⟩;refine gK (step y u v x r g h) ?_;rintro(c|c) a hh<;>exact hh
 ·rintro c a ⟨q,h1,h2⟩;rw[Nat.zero_max]at h2;exact⟨q,.inr ⟨h1,i _ _ _ h2⟩⟩
 ·rintro⟨B,u,v,x,r⟩ a ⟨⟨g,rfl⟩,⟨R,rfl,o⟩|⟨rfl,t⟩⟩
  ·exact p R _ g o
  ·exact C u v x r g t
def BP{a b o:oC mE}{q i j:Nat}{p:Prop}(M:LMid a b (q+(a.size+b.size)) o i j):p:=by have h1:=M.ha;have h2:=M.hb;have c:=M.q;omega
def Xd(hc:Fb prog w A κ vs s){a b:oC mE}{st:mI}(hk:kindOf st=κ)(H:AOk vs a)(G:AOk vs b)(N:0<a.size)(C:0<b.size){Q:oC mE->mI->Prop}(h:∀R g,Mg a b R->Q R (Cu st g)):wpS (model prog w) A E s (mergeLo' a b) Q st:=by
 have B:ML a b #[b[0]] 0 a.size 1 b.size:=ML.puB (o:=#[]) (j:=0) (λx=>by rw[Kq,Kq];show 0+_+_=_;omega) C C;rw[O1];refine U_<|lJ<|cV ⟨rfl,?_⟩;refine U_<|Bz C ?_;dsimp only;by_cases F:1=b.size
 ·rw[N_<|by simpa using F];exact W_<|h _ (gallopOf st) B.d1
 rw[I_<|by simpa using F];by_cases D:0+1=a.size
 ·rw[N_<|by simpa using D];exact W_<|h _ (gallopOf st) B.d2
 rw[I_<|by simpa using D];refine U_<|jC ?_;refine Ia (P:=Mg a b) (L:=LMid a b) (n:=1) (m:=1+(a.size+b.size)) (g:=gallopOf st) rfl ⟨B,by show 0+1<_;omega,by show 1<_;omega,G_ _⟩ (λx o I J f g M=>?_) (λ_ _ _ M=>M) (λR c g k=>W_<|h R g k) λo i j r g M=>BP M;dsimp only;refine Ia (P:=Mg a b) (L:=LMid a b) (n:=1+x) (m:=1+x+1) (g:=g) rfl M (λy o l p r g M=>?_) (λ_ _ _ M=>BP M) (λR c g k=>W_ ⟨⟨g,rfl⟩,.inl ⟨R,rfl,k⟩⟩) λo l p r g M=>?_
 ·have ha:=M.ha;have hb:=M.hb;have hq:=M.q;have M:=M.m;dsimp only;refine U_<|Bz hb<|U_<|Bz (cL ha)<|U_<|BN hc (st:=Cu st g) hk (G.at _) (H.at _) λc=>?_;dsimp only;cases c with
  |true=>
   rw[N_ rfl];refine U_<|Bz hb ?_;have M1:=M.puB hb hb;by_cases z:p+1=b.size
   ·rw[N_<|by simpa using z];exact W_ ⟨⟨g,rfl⟩,.inl ⟨_,rfl,M1.d1⟩⟩
   ·rw[I_<|by simpa using z];have h1:LMid a b (1+x+(y+1)) _ l (p+1):=⟨M1,ha,by omega,by omega⟩;by_cases t:r.2+1>=f<;>simp only[t,if_true,if_false]
    ·exact W_ ⟨⟨g,rfl⟩,.inr ⟨rfl,h1.dn⟩⟩
    ·exact W_ ⟨⟨g,rfl⟩,rfl,h1⟩
  |false=>
   rw[I_ Q_];refine U_<|Bz (cL ha) ?_;have M1:=M.puA (cL ha)<|cL ha;by_cases z:l+1+1=a.size
   ·rw[N_<|by simpa using z];exact W_ ⟨⟨g,rfl⟩,.inl ⟨_,rfl,M1.d2⟩⟩
   ·rw[I_<|by simpa using z];have h1:LMid a b (1+x+(y+1)) _ (l+1) p:=⟨M1,by omega,hb,by omega⟩;by_cases t:r.1+1>=f<;>simp only[t,if_true,if_false]
    ·exact W_ ⟨⟨g,rfl⟩,.inr ⟨rfl,h1.dn⟩⟩
    ·exact W_ ⟨⟨g,rfl⟩,rfl,h1⟩
 ·dsimp only;refine U_<|lJ<|cV ⟨rfl,?_⟩;refine Ia (P:=Mg a b) (L:=LMid a b) (n:=1+x+1) (m:=1+x+1) (g:=g) rfl M (λy o l p r g M=>?_) (λ_ _ _ M=>BP M) (λR c g k=>W_ ⟨⟨g,rfl⟩,.inl ⟨R,rfl,k⟩⟩) λo l p r g M=>?_
  ·dsimp only;have v:∀f,wpS (model prog w) A E s (NS a b o l p f r.2.1 r.2.2) _ (Cu st g):=λf=>
    Qa0 (Qd:=λc u=>(∃g,u=Cu st g)/\((∃R,c.1=some R/\Mg a b R)\/(c.1=none/\LMid a b (1+x+1) c.2.1 c.2.2.1 c.2.2.2.1))) (Qy:=λc u=>(∃g,u=Cu st g)/\c.1=none/\LMid a b (1+x+1+(y+1)) c.2.1 c.2.2.1 c.2.2.2.1) hc (st:=Cu st g) hk H G M.m M.ha M.hb (λR c k e=>⟨⟨f,rfl⟩,.inl ⟨R,e,k⟩⟩)
     λo i j m x y d=>⟨⟨⟨f,rfl⟩,.inr ⟨rfl,d.m,d.ha,d.hb,by have:=d.q;have:=M.q;show _<=i+j;omega⟩⟩,⟨f,rfl⟩,rfl,d.m,d.ha,d.hb,by have:=d.q;have:=M.q;show _<=i+j;omega⟩
   by_cases t:r.1>1
   ·rw[N_ t];refine gK (v<|r.1-1) ?_;rintro(c|c) u hh<;>exact hh
   ·rw[I_ t];refine gK (v r.1) ?_;rintro(c|c) u hh<;>exact hh
  ·dsimp only;rw[Cq];exact U_<|fE<|W_ ⟨⟨_,rfl⟩,rfl,M⟩
def BQ{a b o:oC mE}{q i j:Nat}{p:Prop}(M:RMid a b (q+(a.size+b.size)) o i j):p:=by have h1:=M.ha;have c:=M.q;omega
def Xe(hc:Fb prog w A κ vs s){a b:oC mE}{st:mI}(hk:kindOf st=κ)(H:AOk vs a)(G:AOk vs b)(B:0<a.size)(N:0<b.size){Q:oC mE->mI->Prop}(h:∀R g,Mg a b R->Q R (Cu st g)):wpS (model prog w) A E s (mergeHi' a b) Q st:=by
 have C:ML a b #[a[a.size-1]'(lO B<|by decide)] 0 (a.size-1) 0 b.size:=ML.poA (o:=#[]) (i:=0) (i':=a.size) (λx=>by rw[Kq,Kq];show 0+_+_=_;omega) B (lO B<|by decide);rw[O2];refine U_<|lJ<|cV ⟨rfl,?_⟩;refine U_ (Bz (lO B<|by decide) ?_);dsimp only;by_cases D:a.size-1=0
 ·rw[N_<|by simpa using D];exact W_<|h _ (gallopOf st) C.d3
 rw[I_<|by simpa using D];by_cases F:b.size=1
 ·rw[N_<|by simpa using F];exact W_<|h _ (gallopOf st) C.d4
 rw[I_<|by simpa using F];refine U_<|jC ?_;refine Ia (P:=Mg a b) (L:=λq i j o=>RMid a b q o i j) (n:=1) (m:=1+(a.size+b.size)) (g:=gallopOf st) rfl ⟨C,iM _ _,G_ _,gQ D,by show 1<b.size;omega,by show a.size-1+b.size+1<=_;omega⟩ (λx I J o l g M=>?_) (λ_ _ _ M=>M) (λR c g p=>W_<|h R g p) λi j o r g M=>BQ M;dsimp only;refine Ia (P:=Mg a b) (L:=λq i j o=>RMid a b q o i j) (n:=1+x) (m:=1+x+1) (g:=g) rfl M (λy f k o r g M=>?_) (λ_ _ _ M=>BQ M) (λR c g p=>W_ ⟨⟨g,rfl⟩,.inl ⟨R,rfl,p⟩⟩) λf k o r g M=>?_
 ·have h1:=M.h1;have h2:=M.h2;have ha:=M.ha;have hb:=M.hb;have hq:=M.q;have M:=M.m;dsimp only;refine U_ (Bz (by omega)<|U_<|Bz (by omega)<|U_<|BN hc (st:=Cu st g) hk (G.at _) (H.at _) λc=>?_);dsimp only;cases c with
  |true=>
   rw[N_ rfl];refine U_ (Bz (by omega) ?_);have M1:=M.poA ha (by omega);by_cases u:f-1=0
   ·rw[N_<|by simpa using u];exact W_ ⟨⟨g,rfl⟩,.inl ⟨_,rfl,M1.d3⟩⟩
   ·rw[I_<|by simpa using u];have h1:RMid a b (1+x+(y+1)) _ (f-1) k:=⟨M1,K_ (iM f 1) h1,h2,gQ u,hb,by omega⟩;by_cases t:r.1+1>=l<;>simp only[t,if_true,if_false]
    ·exact W_ ⟨⟨g,rfl⟩,.inr ⟨rfl,h1.dn⟩⟩
    ·exact W_ ⟨⟨g,rfl⟩,rfl,h1⟩
  |false=>
   rw[I_ Q_];refine U_ (Bz (by omega) ?_);have M1:=M.poB (cL hb) (by omega);by_cases u:k-1=1
   ·rw[N_<|by simpa using u];exact W_ ⟨⟨g,rfl⟩,.inl ⟨_,rfl,M1.d4⟩⟩
   ·rw[I_<|by simpa using u];have h1:RMid a b (1+x+(y+1)) _ f (k-1):=⟨M1,h1,K_ (iM k 1) h2,ha,by omega,by omega⟩;by_cases t:r.2+1>=l<;>simp only[t,if_true,if_false]
    ·exact W_ ⟨⟨g,rfl⟩,.inr ⟨rfl,h1.dn⟩⟩
    ·exact W_ ⟨⟨g,rfl⟩,rfl,h1⟩
 ·dsimp only;refine U_<|lJ<|cV ⟨rfl,?_⟩;refine Ia (P:=Mg a b) (L:=λq i j o=>RMid a b q o i j) (n:=1+x+1) (m:=1+x+1) (g:=g) rfl M (λy f k o r g M=>?_) (λ_ _ _ M=>BQ M) (λR c g p=>W_ ⟨⟨g,rfl⟩,.inl ⟨R,rfl,p⟩⟩) λf k o r g M=>?_
  ·dsimp only;have z:∀l,wpS (model prog w) A E s (NT a b o f k l r.2.1 r.2.2) _ (Cu st g):=λl=>
    Qa1 (Qd:=λc v=>(∃g,v=Cu st g)/\((∃R,c.1=some R/\Mg a b R)\/(c.1=none/\RMid a b (1+x+1) c.2.2.2.1 c.2.1 c.2.2.1))) (Qy:=λc v=>(∃g,v=Cu st g)/\c.1=none/\RMid a b (1+x+1+(y+1)) c.2.2.2.1 c.2.1 c.2.2.1) hc (st:=Cu st g) hk H G (q:=1+x+1+y) M (λR c p e=>⟨⟨l,rfl⟩,.inl ⟨R,e,p⟩⟩)
     λo i j m x y d=>⟨⟨⟨l,rfl⟩,.inr ⟨rfl,d.m,d.h1,d.h2,d.ha,d.hb,by have:=d.q;show i+j+_<=_;omega⟩⟩,⟨l,rfl⟩,rfl,d.m,d.h1,d.h2,d.ha,d.hb,by have:=d.q;show i+j+_<=_;omega⟩
   by_cases t:r.1>1
   ·rw[N_ t];refine gK (z<|r.1-1) ?_;rintro(c|c) v hh<;>exact hh
   ·rw[I_ t];refine gK (z r.1) ?_;rintro(c|c) v hh<;>exact hh
  ·dsimp only;rw[Cq];exact U_<|fE<|W_ ⟨⟨_,rfl⟩,rfl,M⟩
def SZq(κ:mJ)(p:oC mE)(a:oC<|Nat×Nat×Nat)(g:Nat):mI:=SortSt.mk' κ p a g none
def OS{c:Type}(a:Nat)(R:oA c)(p:oC c)(h:a+R.length<=p.size):(wr a R 0 p).toList=p.toList.take a++R++p.toList.drop (a+R.length):=by
 apply gZ;intro i;rw[Z_,Zn a R 0 p h];simp only[Nat.add_zero];have b:(p.toList.take a).length=a:=by rw[aY,aF];omega
 by_cases h1:i<a
 ·rw[I_<|by omega,fW,dP<|by omega,List.getElem?_take_of_lt h1,Z_]
 ·by_cases h2:i<a+R.length
  ·rw[N_<|by omega,dP<|by rw[R_];omega,cW<|by omega,b]
  ·rw[I_<|by omega,cW<|by rw[R_];omega,R_,b,List.getElem?_drop,Z_];congr 1;omega
def UH(x:mE)(a:Nat)(R:oA mE)(p:oC mE)(h:a+R.length<=p.size):cn x (wr a R 0 p).toList=cx x p 0 a+cn x R+cx x p (a+R.length) p.size:=by rw[OS a R p h,Ev,Ev];unfold cx;rw[jT,jT,iC,iC,Nat.sub_zero,kE];congr 2;rw[fJ<|by rw[gE,aF];exact G_ _]
def Xf(hc:Fb prog w A κ vs s){p:oC mE}{d:oC<|Nat×Nat×Nat}{g i b c n f q:Nat}(hp:AOk vs p)(h1:d[i]?=some (b,c,n))(h2:d[i+1]?=some (b+c,f,q))(ha:0<c)(hb:0<f)(hs:b+c+f<=p.size){Q:Bool->mI->Prop}
  (h:∀r g',r.toList.Perm p.toList->Q true (SZq κ r ((d.setIfInBounds i (b,c+f,n)).eraseIdxIfInBounds<|i+1) g')):wpS (model prog w) A E s (mergeAt' i) Q (SZq κ p d g):=by
 rw[O3];refine U_<|jC ?_;have G:(pendingOf<|SZq κ p d g)[i]?=some (b,c,n):=h1;have F:(pendingOf<|SZq κ p d g)[i+1]?=some (b+c,f,q):=h2;rw[G,F];dsimp only;rw[show arrOf (SZq κ p d g)=p from rfl];refine U_ (GG<|U_<|Bz (by omega)<|U_<|QS hc (st:=SZq κ p ((d.setIfInBounds i (b,c+f,n)).eraseIdxIfInBounds<|i+1) g) rfl ha (K_ (cD (b+c) f) hs) hp (hp.at _) λk B=>?_);dsimp only;by_cases t:c-k=0
 ·rw[N_<|by simpa using t];exact W_<|h p g<|.refl _
 rw[I_<|by simpa using t];refine U_ (Bz (by omega)<|U_<|QS hc (st:=SZq κ p ((d.setIfInBounds i (b,c+f,n)).eraseIdxIfInBounds<|i+1) g) rfl (lO hb<|by decide) hs hp (hp.at _) λm m1=>?_);dsimp only;by_cases c2:m=0
 ·rw[N_<|by simpa using c2];exact W_<|h p g<|.refl _
 rw[I_<|by simpa using c2];have C:(p.extract (b+k)<|b+c).size=c-k:=by rw[Array.size_extract];omega
 have D:(p.extract (b+c)<|b+c+m).size=m:=by rw[Array.size_extract];omega
 have v:∀(R:oC mE) (g':Nat),Mg (p.extract (b+k)<|b+c) (p.extract (b+c)<|b+c+m) R->∀o,o=SZq κ p ((d.setIfInBounds i (b,c+f,n)).eraseIdxIfInBounds<|i+1) g' ->
   wpS (model prog w) A E s (do
    modify λs=>setArr s (R.toList.zipIdx.foldl (λa (p,j)=>a.setIfInBounds (b+k+j) p)<|arrOf s)
    return (failedOf<|<- get).isNone) Q o:=λR g' l o e=>by
  subst e;refine U_<|fE<|U_<|jC<|W_ ?_;show Q true (SortSt.mk' κ (R.toList.zipIdx.foldl (λa (z:mE×Nat)=>a.setIfInBounds (b+k+z.2) z.1) p) _ g' none);rw[Ty];refine h _ g'<|Si.mpr λx=>?_;have y:R.toList.length=c-k+m:=by have:=(Si.mpr λx=>by rw[Ev];exact l x:R.toList.Perm<|(p.extract (b+k)<|b+c).toList++(p.extract (b+c)<|b+c+m).toList).length_eq;simp only[List.length_append,Array.length_toList,C,D]at this;rw[aF];exact this
  have H:=l x;have I:=Kq x p;have a2:=F7 x p (aE<|b+k) (show b+k<=p.size by omega);have L:=F7 x p (show b+k<=b+c from gA B b)<|show b+c<=p.size from K_ (cD (b+c) f) hs;have J:=F7 x p (show b+c<=b+c+m from cD _ _) (show b+c+m<=p.size by omega);rw[UH x _ _ _<|by omega,y,show b+k+(c-k+m)=b+c+m by omega];unfold cx at *;omega
 by_cases u:c-k<=m
 ·rw[N_ u];exact U_<|Xd hc rfl hp.ex hp.ex (by omega) (by omega) λR g' l=>v R g' l _ rfl
 ·rw[I_ u];exact U_<|Xe hc rfl hp.ex hp.ex (by omega) (by omega) λR g' l=>v R g' l _ rfl
section
variable {p:oC mE}{pd:oC<|Nat×Nat×Nat}{g:Nat}
def Ib(hc:Fb prog w A κ vs s)(hp:AOk vs p){i j:Nat}(a:i<p.size)(hj:j<p.size){Q:oB Bool->mI->Prop}(h:∀c,Q (some c)<|SZq κ p pd g):wpS (model prog w) A E s (ltAt' i j) Q (SZq κ p pd g):=by rw[ltAt'_eq];refine U_<|jC ?_;exact(show wpS _ _ _ _ (do let x <- elem' p i;let y <- elem' p j;lt' x y) Q _ from U_<|Bz a<|U_<|Bz hj<|BN hc rfl (hp.at _) (hp.at _) h)
def Ur{i j:Nat}{Q:Unit->mI->Prop}(h:∀a,a.toList.Perm p.toList->Q () (SZq κ a pd g)):wpS (model prog w) A E s (reverseSlice' i j) Q (SZq κ p pd g):=by rw[reverseSlice'_eq];exact fE<|h _ (mirror_perm p i j _).toList
def F8{p q:oC mE}(h:q.toList.Perm p.toList):q.size=p.size:=by have:=h.length_eq;rwa[aF,aF]at this
def JZ{e:Type}{b m:Nat}{st:mI}(h1:1<=m)(f:m<=b){F:Nat->oB e×Nat->StateT mI Sem (ForInStep<|oB e×Nat)}
  (h:∀x k (Q:ForInStep (oB e×Nat)->mI->Prop),1<=k->k<b->Q (.done (none,k)) st->Q (.yield (none,k+1)) st->wpS (model prog w) A E s (F x (none,k)) Q st)
  {Q:oB e×Nat->mI->Prop} (i:∀k,1<=k->k<=b->Q (none,k) st):wpS (model prog w) A E s (forIn [m:b] ((none,m):oB e×Nat) F) Q st:=by
 refine gK (gS (I:=λx c d=>d=st/\c=(none,x)/\1<=x/\x<=b) (Q:=λc d=>d=st/\∃k,c=(none,k)/\1<=k/\k<=b) ?_ ?_ ⟨rfl,rfl,h1,f⟩) ?_
 ·rintro x c d _ hx ⟨rfl,rfl,a,a2⟩;exact h x x _ a hx ⟨rfl,x,rfl,a,a2⟩ ⟨rfl,rfl,bA a,hx⟩
 ·rintro c d ⟨rfl,rfl,a,a2⟩;exact⟨rfl,_,rfl,a,a2⟩
 ·rintro c d ⟨rfl,k,rfl,a,a2⟩;exact i k a a2
def BR(hc:Fb prog w A κ vs s)(hp:AOk vs p){lo a m:Nat}(h1:1<=m)(i:m<=a)(hs:lo+a<=p.size){Q:oB Nat->mI->Prop}
  (l:∀k d,1<=k->k<=a->d.toList.Perm p.toList->Q (some k) (SZq κ d pd g)):wpS (model prog w) A E s (Zo lo a m) Q (SZq κ p pd g):=by
 unfold Zo;refine U_<|Ur λd b=>?_;have hz:=F8 b;refine U_ (JZ h1 i (λx k n e f h j=>U_<|Ib hc (hp.pm b) (by omega) (by omega) λc=>?_) λk e f=>W_<|l k _ e f b);cases c
 ·exact W_ j
 ·exact W_ h
def BS(hc:Fb prog w A κ vs s)(hp:AOk vs p){lo d m:Nat}(h1:1<=m)(u:m+1<=d)(hs:lo+d<=p.size){Q:oB Nat->mI->Prop}
  (t:∀k a,1<=k->k<=d->a.toList.Perm p.toList->Q (some k) (SZq κ a pd g)):wpS (model prog w) A E s (Zp lo d m) Q (SZq κ p pd g):=by
 unfold Zp;refine U_<|lJ<|cV ⟨rfl,?_⟩;refine U_<|gK (gS (I:=λx c e=>∃a q,e=SZq κ a pd g/\c=(none,x,q)/\a.toList.Perm p.toList/\1<=x/\x<=d) (Q:=λc e=>∃a k q,e=SZq κ a pd g/\c=(none,k,q)/\a.toList.Perm p.toList/\1<=k/\k<=d) ?_ ?_ ⟨p,0,rfl,rfl,.refl _,bA h1,u⟩) ?_
 ·rintro x c e _ hx ⟨a,q,rfl,rfl,K,b,f⟩;have i:=hp.pm K;have hz:=F8 K;dsimp only;refine U_ (Ib hc i (by omega) (by omega) λv=>?_);dsimp only;cases v with
  |true=>
   rw[N_ rfl];by_cases hq:q>0
   ·rw[N_ hq];exact U_<|Ur λr h=>W_ ⟨r,0,rfl,rfl,h.trans K,bA b,hx⟩
   ·rw[I_ hq];exact W_ ⟨a,0,rfl,rfl,K,bA b,hx⟩
  |false=>
   rw[I_ Q_];refine U_ (Ib hc i (by omega) (by omega) λc2=>?_);cases c2
   ·exact W_ ⟨a,_,rfl,rfl,K,bA b,hx⟩
   ·exact W_ ⟨a,x,q,rfl,rfl,K,b,f⟩
 ·rintro c e ⟨a,q,rfl,rfl,K,b,f⟩;exact⟨a,_,q,rfl,rfl,K,b,f⟩
 ·rintro c e ⟨a,k,q,rfl,rfl,K,b,f⟩;have i:=hp.pm K;have hz:=F8 K;dsimp only;by_cases hq:q>0
  ·rw[N_ hq];exact U_<|Ur λr h=>BR hc (i.pm h) b f (by rw[F8 h];omega) λl n j a2 o=>t l n j a2<|o.trans<|h.trans K
  ·rw[I_ hq];exact BR hc i b f (by omega) λl n j a2 o=>t l n j a2<|o.trans K
def HL(hc:Fb prog w A κ vs s)(hp:AOk vs p){lo b:Nat}(h1:1<=b)(hs:lo+b<=p.size){Q:oB Nat->mI->Prop}
  (d:∀k j,1<=k->k<=b->j.toList.Perm p.toList->Q (some k) (SZq κ j pd g)):wpS (model prog w) A E s (countRun' lo b) Q (SZq κ p pd g):=by
 rw[Nl];refine U_<|JZ (G_ 1) h1 (λx k u a h m r=>U_<|Ib hc hp (by omega) (by omega) λc=>?_) λk a h=>?_
 ·cases c
  ·exact W_ r
  ·exact W_ m
 dsimp only;by_cases e:k=b
 ·rw[N_<|by simpa using e];exact W_<|d k p a h<|.refl _
 rw[I_<|by simpa using e];by_cases i:k>1
 ·rw[N_ i];refine U_ (Ib hc hp (by omega) (by omega) λc=>?_);dsimp only;cases c with
  |true=>exact W_ (d k p a h<|.refl _)
  |false=>rw[I_ Q_];exact U_<|Ur λt f=>BS hc (hp.pm f) a (by omega) (by rw[F8 f];exact hs) λq n l a2 o=>d q n l a2<|o.trans f
 ·rw[I_ i];exact BS hc hp a (by omega) hs d
def BT(hc:Fb prog w A κ vs s)(hp:AOk vs p){lo m ok:Nat}(n:ok<=m)(hs:lo+m<=p.size){Q:Bool->mI->Prop}
  (i:∀a,a.toList.Perm p.toList->Q true (SZq κ a pd g)):wpS (model prog w) A E s (binarySort' lo m ok) Q (SZq κ p pd g):=by
 rw[binarySort'_eq];refine U_<|gK (gS (I:=λx c b=>∃a,b=SZq κ a pd g/\c=(none,())/\a.toList.Perm p.toList) (Q:=λc b=>∃a,b=SZq κ a pd g/\c=(none,())/\a.toList.Perm p.toList) ?_ (λ_ _ z=>z) ⟨p,rfl,rfl,.refl _⟩) ?_
 ·rintro x c b h hx ⟨a,rfl,rfl,K⟩;have f:=hp.pm K;have hz:=F8 K;refine U_<|OR (m:=x) (λy l r o j a2 d hy=>?_) (aE _) (G_ _) (G_ _) λk hk=>?_
  ·dsimp only;by_cases e:l>=r
   ·rw[N_ e];exact W_<|d<|by omega
   ·rw[I_ e];refine U_ (Ib hc f (by omega) (by omega) λc=>?_);cases c
    ·exact W_<|hy _ _ (by omega) a2<|by omega
    ·exact W_<|hy _ _ (by omega) (by omega)<|by omega
  ·dsimp only;rw[moveDown'_eq];exact U_<|fE<|W_ ⟨_,rfl,rfl,((bubble_perm a _ _).toList).trans K⟩
 ·rintro c b ⟨a,rfl,rfl,K⟩;exact W_<|i a K
def Kr(hc:Fb prog w A κ vs s)(hp:AOk vs p){i e:Nat}(t:Chain pd.toList 0 e)(hs:e<=p.size)(m:i+1<pd.size){Q:Bool->mI->Prop}
  (h:∀d l o,d.toList.Perm p.toList->Chain l.toList 0 e->l.size+1=pd.size->Q true (SZq κ d l o)):wpS (model prog w) A E s (mergeAt' i) Q (SZq κ p pd g):=by
 have b:pd[i]?=some pd[i]:=aH<|cL m;have a:pd[i+1]?=some pd[i+1]:=aH m;generalize pd[i]'(cL m)=ea at b;generalize pd[i+1]=eb at a;obtain⟨f,j,r⟩:=ea;obtain⟨D,n,y⟩:=eb;have G:pd.toList[i]?=some (f,j,r):=by rw[Z_];exact b
 have C:pd.toList[i+1]?=some (D,n,y):=by rw[Z_];exact a
 have q:=O4 G C;rw[q]at t;obtain⟨k,B,c2,u,z,F,v⟩:=Chain.app.mp t;subst c2;subst z;have H:=v.le;refine Xf hc hp b a u F (by omega) λd o K=>?_;have x:=GH (c:=(f,j+n,r)) b a;refine h d _ o K ?_ ?_
 ·rw[x];exact Chain.app.mpr ⟨f,B,rfl,Y_ u<|cD j n,by rw[<- jO];exact v⟩
 ·have:=bR List.length x;have hz:=bR List.length q;simp only[List.length_append,List.length_cons,Array.length_toList]at this hz;omega
def Chain.pu{lo m:Nat}(h:Chain pd.toList 0 lo)(a:0<m):Chain (pd.push (lo,m,0)).toList 0 (lo+m):=by rw[kT];exact Chain.app.mpr ⟨lo,h,rfl,a,rfl⟩
end
section
variable {p:oC mE}{pd:oC<|Nat×Nat×Nat}{g:Nat}
def Nv{d b e τ:Type}{N:Nat}{f:Nat->b->StateT d Sem (ForInStep b)}{k:b->StateT d Sem τ}{Q:τ->d->Prop}{S:e->d}{C:e->b}{I:Nat->e->Prop}{J:e->Prop}{st:d}{c:b}(l:e)(hs:st=S l)(hc:c=C l)(h0:I 0 l)
  (step:∀x i,x<N->I x i->wpS (model prog w) A E s (f x<|C i) (λz a=>match z with
   |.done c=>∃i,a=S i/\c=C i/\J i
   |.yield c=>∃i,a=S i/\c=C i/\I (x+1) i) (S i))
  (j:∀i,I N i->J i) (m:∀i,J i->wpS (model prog w) A E s (k<|C i) Q (S i)):wpS (model prog w) A E s (forIn [0:N] c f>>=k) Q st:=by
 refine U_<|gK (gS (I:=λx c a=>∃i,a=S i/\c=C i/\I x i) (Q:=λc a=>∃i,a=S i/\c=C i/\J i) ?_ ?_ ⟨l,hs,hc,h0⟩) ?_
 ·rintro x c a _ hx ⟨i,rfl,rfl,h⟩;refine gK (step x i hx h) ?_;rintro(c|c) a hh<;>exact hh
 ·rintro c a ⟨i,h1,h2,h⟩;rw[Nat.zero_max]at h;exact⟨i,h1,h2,j i h⟩
 ·rintro c a ⟨i,rfl,rfl,h⟩;exact m i h
def Sj(hc:Fb prog w A κ vs s)(hp:AOk vs p){Q:Unit->mI->Prop}(Y:∀F Z g',F.toList.Perm p.toList->Q () (SZq κ F Z g')):wpS (model prog w) A E s sortRuns' Q (SZq κ p #[] g):=by
 rw[sortRuns'_eq];refine U_<|jC ?_;rw[show arrOf (SZq κ p #[] g)=p from rfl];generalize hN:p.size=N;dsimp only;generalize minRun' N N 0=mr;refine Nv (S:=λi:oC mE×oC (Nat×Nat×Nat)×Nat×Nat=>SZq κ i.1 i.2.1 i.2.2.1) (C:=λi=>(none,i.2.2.2)) (I:=λx i=>i.1.toList.Perm p.toList/\Chain i.2.1.toList 0 i.2.2.2/\i.2.2.2<=N/\x<=i.2.2.2) (J:=λi=>i.1.toList.Perm p.toList/\Chain i.2.1.toList 0 N) (p,#[],g,0) rfl rfl ⟨.refl _,rfl,aE _,G_ _⟩ (λx i hx h=>?_) (λi h=>?_) λi h=>?_
 ·have hz:=F8 h.1;dsimp only;by_cases e:i.2.2.2>=N
  ·rw[N_ e];have M:i.2.2.2=N:=Nat.le_antisymm h.2.2.1 e;exact W_ ⟨i,rfl,rfl,h.1,M ▸ h.2.1⟩
  rw[I_ e];refine U_ (HL hc (hp.pm h.1) (show 1<=N-i.2.2.2 by omega) (by omega) λk n L k2 l=>?_);have z1:=F8 l;dsimp only;by_cases b:k<mr
  ·rw[N_ b];refine U_<|lJ<|cV ⟨rfl,?_⟩;refine U_ (BT hc ((hp.pm h.1).pm l) (m:=min (N-i.2.2.2) mr) (by omega) (by omega) λq H=>?_);rw[I_<|show ¬(!true)=true by decide];have hq:q.toList.Perm p.toList/\1<=min (N-i.2.2.2) mr/\i.2.2.2+min (N-i.2.2.2) mr<=N:=⟨H.trans<|l.trans h.1,by omega,by omega⟩;refine U_<|jC ?_;show wpS _ _ _ _ (match i.2.1.back? with
    |some (r,D,_)=>_
    |_=>_) _ _
   have d:x+1<=i.2.2.2+min (N-i.2.2.2) mr:=Nat.add_le_add h.2.2.2 hq.2.1;cases eb:i.2.1.back? with
   |none=>dsimp only;exact U_ (fE<|W_ ⟨(q,_,i.2.2.1,_),rfl,rfl,hq.1,h.2.1.pu hq.2.1,hq.2.2,d⟩)
   |some e=>
    obtain⟨r,D,O⟩:=e;dsimp only;refine Nv (S:=λj:oC mE×oC (Nat×Nat×Nat)×Nat=>SZq κ j.1 j.2.1 j.2.2) (C:=λ_=>(none,())) (I:=λ_ j=>j.1.toList.Perm p.toList/\Chain j.2.1.toList 0 i.2.2.2) (J:=λj=>j.1.toList.Perm p.toList/\Chain j.2.1.toList 0 i.2.2.2) (q,i.2.1,i.2.2.1) rfl rfl ⟨hq.1,h.2.1⟩ (λy j _ W=>?_) (λ_ W=>W) λj W=>?_
    ·refine U_<|jC ?_;rw[show pendingOf (SZq κ j.1 j.2.1 j.2.2)=j.2.1 from rfl];by_cases f:j.2.1.size>1
     ·rw[N_ f,aH<|by omega];generalize j.2.1[j.2.1.size-2]'(by omega)=e3;obtain⟨V,T,U⟩:=e3;dsimp only;split
      ·exact W_ ⟨j,rfl,rfl,W⟩
      ·refine U_ (Kr hc (hp.pm W.1) (i:=j.2.1.size-2) W.2 (by rw[F8 W.1];omega) (by omega) λv a B t u _=>?_);rw[I_<|show ¬(!true)=true by decide];exact W_ ⟨(v,a,B),rfl,rfl,t.trans W.1,u⟩
     ·rw[I_ f];exact W_ ⟨j,rfl,rfl,W⟩
    ·dsimp only;refine U_<|fE<|U_<|fE<|W_ ⟨(j.1,_,j.2.2,_),rfl,rfl,W.1,Chain.pu ?_ hq.2.1,hq.2.2,d⟩;show Chain (j.2.1.modify (j.2.1.size-1) _).toList 0 _;rw[Array.toList_modify];refine Chain.mod ?_ W.2;exact λe=>⟨rfl,rfl⟩
  ·rw[I_ b];have hq:n.toList.Perm p.toList/\1<=k/\i.2.2.2+k<=N:=⟨l.trans h.1,L,by omega⟩;refine U_<|jC ?_;show wpS _ _ _ _ (match i.2.1.back? with
    |some (r,D,_)=>_
    |_=>_) _ _
   have d:x+1<=i.2.2.2+k:=Nat.add_le_add h.2.2.2 hq.2.1;cases eb:i.2.1.back? with
   |none=>dsimp only;exact U_ (fE<|W_ ⟨(n,_,i.2.2.1,_),rfl,rfl,hq.1,h.2.1.pu hq.2.1,hq.2.2,d⟩)
   |some e=>
    obtain⟨r,D,O⟩:=e;dsimp only;refine Nv (S:=λj:oC mE×oC (Nat×Nat×Nat)×Nat=>SZq κ j.1 j.2.1 j.2.2) (C:=λ_=>(none,())) (I:=λ_ j=>j.1.toList.Perm p.toList/\Chain j.2.1.toList 0 i.2.2.2) (J:=λj=>j.1.toList.Perm p.toList/\Chain j.2.1.toList 0 i.2.2.2) (n,i.2.1,i.2.2.1) rfl rfl ⟨hq.1,h.2.1⟩ (λy j _ W=>?_) (λ_ W=>W) λj W=>?_
    ·refine U_<|jC ?_;rw[show pendingOf (SZq κ j.1 j.2.1 j.2.2)=j.2.1 from rfl];by_cases f:j.2.1.size>1
     ·rw[N_ f,aH<|by omega];generalize j.2.1[j.2.1.size-2]'(by omega)=e3;obtain⟨V,T,U⟩:=e3;dsimp only;split
      ·exact W_ ⟨j,rfl,rfl,W⟩
      ·refine U_ (Kr hc (hp.pm W.1) (i:=j.2.1.size-2) W.2 (by rw[F8 W.1];omega) (by omega) λv a B t u _=>?_);rw[I_<|show ¬(!true)=true by decide];exact W_ ⟨(v,a,B),rfl,rfl,t.trans W.1,u⟩
     ·rw[I_ f];exact W_ ⟨j,rfl,rfl,W⟩
    ·dsimp only;refine U_<|fE<|U_<|fE<|W_ ⟨(j.1,_,j.2.2,_),rfl,rfl,W.1,Chain.pu ?_ hq.2.1,hq.2.2,d⟩;show Chain (j.2.1.modify (j.2.1.size-1) _).toList 0 _;rw[Array.toList_modify];refine Chain.mod ?_ W.2;exact λe=>⟨rfl,rfl⟩
 ·have e:i.2.2.2=N:=Nat.le_antisymm h.2.2.1 h.2.2.2;exact⟨h.1,e ▸ h.2.1⟩
 ·dsimp only;refine Nv (S:=λj:oC mE×oC (Nat×Nat×Nat)×Nat=>SZq κ j.1 j.2.1 j.2.2) (C:=λ_=>(none,())) (I:=λ_ j=>j.1.toList.Perm p.toList/\Chain j.2.1.toList 0 N) (J:=λj=>j.1.toList.Perm p.toList/\Chain j.2.1.toList 0 N) (i.1,i.2.1,i.2.2.1) rfl rfl h (λx j _ W=>?_) (λ_ W=>W) λj W=>W_<|Y j.1 j.2.1 j.2.2 W.1;refine U_<|jC ?_;rw[show pendingOf (SZq κ j.1 j.2.1 j.2.2)=j.2.1 from rfl];by_cases b:j.2.1.size<=1
  ·rw[N_ b];exact W_ ⟨j,rfl,rfl,W⟩
  rw[I_ b];refine U_<|Kr hc (hp.pm W.1) W.2 (by rw[F8 W.1];exact fH<|Eq.symm hN) ?_ λP o R G X _=>?_
  ·have z:∀(c:Prop) [Decidable c],(if c then j.2.1.size-2-1 else j.2.1.size-2)+1<j.2.1.size:=λc _=>by
    by_cases h:c
    ·rw[N_ h];omega
    ·rw[I_ h];omega
   exact z _
  ·rw[I_<|show ¬(!true)=true by decide];exact W_ ⟨(P,o,R),rfl,rfl,G.trans W.1,X⟩
end
def UI(hc:Fb prog w A κ vs s){Q:mI->lQ->Prop}(b:∀st:mI,(arrOf st).toList.Perm (vs.toArray.zip vs.toArray).toList->failedOf st=none->Q st s) :
  qU prog w A ((sortRuns').run<|SortSt.mk' κ (vs.toArray.zip vs.toArray) #[] 7 none) (λr a=>Q r.2 a) E s:=by
 refine bD (Sj (E:=E) (g:=7) hc (λx hx=>?_) (Q:=λ_ st=>Q st s) λd f c K=>b _ K rfl) (λr a h=>?_) λ_ _ e=>e
 ·rw[Array.toList_zip]at hx;exact(jV hx).1
 ·obtain⟨rfl,h⟩:=h;exact h
end
section
variable {prog:lV}{w:lW}{A:lY}{E:lP->lQ->Prop}{s:lQ}{X:Cx}{aa:oA<|lT×l_}{σ:St}{H:Hp}{k:Nat}
def Sk{a:lT}{d:oA lP}{n:Nat}{P:PySem.Fin->lQ->Prop}(p:s.heap.get? a=some (seqObj "list" d.toArray n)) (C:d.length<1000000)
  (hk:2<=d.length->∀h':lZ,(∀b o,b≠a->s.heap.get? b=some o->h'.get? b=some o)->∃ m,(∀Q:mJ->lQ->Prop,Q m {s with heap:=h'}->qU prog w A (keyKind' d.toArray) Q E {s with heap:=h'})/\Fb prog w A m d {s with heap:=h'})
  (h:∀(x:oA lP) (h':lZ) (c:Nat),x.Perm d->(∀b o,b≠a->s.heap.get? b=some o->h'.get? b=some o)->h'.get? a=some (seqObj "list" x.toArray c)->P (.done<|.ret .none) {s with heap:=h'}) :
  qU prog w A (Builtin.«list.sort» ⟨[.ref a],[]⟩) P E s:=by
 obtain⟨t,g⟩:∃t,(s.heap.update a<|Obj.mapSeq λ_=>(#[]:oC lP)).get? a=some (seqObj "list" #[] t):=⟨_,get?_update_seq p λ_=>#[]⟩;have j:d.toArray.size<=sizeLine:=by rw[aA];exact K_ (cH C)<|by decide
 have u:∀b o,b≠a->s.heap.get? b=some o->(((s.heap.update a<|Obj.mapSeq λ_=>(#[]:oC lP)).push<|seqObj "tuple" d.toArray 0).push<|seqObj "list" #[] 0).get? b=some o:=λb o hb e=>
  DD _ (DD _<|((aO s.heap a _).2 b hb).trans e)
 have f:(((s.heap.update a<|Obj.mapSeq λ_=>(#[]:oC lP)).push<|seqObj "tuple" d.toArray 0).push<|seqObj "list" #[] 0).get? a=some (seqObj "list" #[] t):=DD _<|DD _ g;rw[list_sort_plain];refine A_ (listItems_at p rfl<|A_<|listUpdate_at p rfl (A_<|seqEpoch_at g rfl<|A_<|wpAny_newTuple (A_<|wpAny_newList (bB ?_)<|aE _)<|by simpa using j) j<|aE _);show qU prog w A _ P E {s with heap:=(((s.heap.update a<|Obj.mapSeq λ_=>(#[]:oC lP)).push<|seqObj "tuple" d.toArray 0).push<|seqObj "list" #[] 0)};generalize ((s.heap.update a<|Obj.mapSeq λ_=>(#[]:oC lP)).push<|seqObj "tuple" d.toArray 0).push (seqObj "list" #[] 0)=h2 at u f ⊢;dsimp only;have y:((d.toArray.zip d.toArray).toList.map (·.2))=d:=by rw[Array.toList_zip];exact List.map_snd_zip<|G_ _
 have i:∀st:mI,(arrOf st).toList.Perm (d.toArray.zip d.toArray).toList->P (.done<|.ret .none) {s with heap:=h2.update a<|Obj.mapSeq λ_=>(arrOf st).map (·.2)}/\((arrOf st).map (·.2)).size=d.length:=λst hp=>by
  have pv:((arrOf st).map (·.2)).toList.Perm d:=by rw[Array.toList_map,<- y];exact(hp.map _).trans<|by rw[y]
  refine⟨h _ _ _ pv (λb o hb B=>((aO h2 a _).2 b hb).trans<|u b o hb B)<|get?_update_seq f _,?_⟩;rw[<- aF];exact pv.length_eq
 by_cases h1:d.toArray.size<2
 ·rw[N_ h1,N_ h1];refine A_<|B_ ?_;rw[StateT.run_pure];obtain⟨r,q⟩:=i (SortSt.mk' general' (d.toArray.zip d.toArray) #[] 7 none)<|.refl _;refine A_<|B_<|A_<|seqEpoch_at f rfl<|A_<|listUpdate_at f rfl ?_ (aE _) ?_
  ·rw[show failedOf (SortSt.mk' general' (d.toArray.zip d.toArray) #[] 7 none)=none from rfl,bne_self_eq_false,I_ Q_];exact B_ r
  ·refine K_ ?_<|bA j;rw[aA];exact fH q
 ·rw[I_ h1,I_ h1];obtain⟨m,z,D⟩:=hk (by rw[aA]at h1;exact jJ h1) h2 u;refine A_<|z _<|A_<|bD (UI D (Q:=λst v=>v={s with heap:=h2}/\(arrOf st).toList.Perm (d.toArray.zip d.toArray).toList/\failedOf st=none) λst hp l=>⟨rfl,hp,l⟩) ?_ λ_ _ e=>e;rintro⟨⟨⟩,st⟩ v ⟨rfl,hp,l⟩;dsimp only;obtain⟨r,q⟩:=i st hp;refine A_<|seqEpoch_at f rfl<|A_<|listUpdate_at f rfl ?_ (aE _) ?_
  ·rw[l,bne_self_eq_false,I_ Q_];exact B_ r
  ·refine K_ ?_<|bA j;rw[aA];exact fH q
def Fm{v:lP}{Q:lP->lQ->Prop}(g:qU prog w A.in1 (collect v) (λd a=>d.length<1000000 /\
   (2<=d.length->∀h':lZ,(∀b o,a.heap.get? b=some o->h'.get? b=some o)->∃ j,(∀Q:mJ->lQ->Prop,Q j {a with heap:=h'}->qU prog w A.in1.in1 (keyKind' d.toArray) Q E {a with heap:=h'})/\Fb prog w A.in1.in1 j d {a with heap:=h'}) /\
   ∀(f:oA lP) (h':lZ) (l c:Nat),f.Perm d->a.heap.objs.size<=l->(∀b o,a.heap.get? b=some o->h'.get? b=some o)->h'.get? l=some (seqObj "list" f.toArray c)->Q (.ref l) {a with heap:=h'}) E s) :
  qU prog w A (call (.builtin "sorted") [v]) Q E s:=by
 refine Calls.call_function_entry kind_sorted plain_sorted entry_sorted (args_sorted1 _) ?_;unfold Builtin.«sorted»;refine A_ (m:=checkCount "sorted" 1 1 _)<|B_<|A_<|bD g (λd a hx=>?_) λ_ _ e=>e;obtain⟨p,hk,h⟩:=hx;have r:d.length<=sizeLine:=K_ (cH p) (by decide);have n:(a.heap.push<|seqObj "list" d.toArray 0).get? a.heap.objs.size=some (seqObj "list" d.toArray 0):=H_ _ rfl;refine A_<|wpAny_newList (A_<|bB<|aU slot_list_sort ⟨_,n,rfl⟩ entry_list_sort ?_<|args_list_sort _) r;have i:∀(h':lZ),(∀b o,b≠a.heap.objs.size->(a.heap.push<|seqObj "list" d.toArray 0).get? b=some o->h'.get? b=some o)->∀b o,a.heap.get? b=some o->h'.get? b=some o:=λh' k b o q=>k b o (T_<|J_ q)<|DD _ q;exact Sk (s:={a with heap:=a.heap.push<|seqObj "list" d.toArray 0}) n p (λh2 h' k=>hk h2 h'<|i h' k) λf h' c t k e=>⟨_,rfl,B_ ⟨_,rfl,h f h' _ c t (G_ _) (i h' k) e⟩⟩
structure SortOkP(ds:oA lR):Prop where
 len:ds.length<1000000
 can:PyData.canLayAll0 ds=true
 dp:PyData.depthAll ds<=64
 fst:∀d∈ds,∃i r,d=.tuple (.int i::r)
 cmp:∀d∈ds,∀e∈ds,cmpb d e=true
theorem BU{h:lZ}{v:lP}:∀{a:oA lP} {ds:oA lR} {as:oA lT},ReadsAll h a ds as->v∈a->∃d∈ds,∃e,Reads h v d e
 |_,_,_,.cons r t,hv=>by
  rcases aB.mp hv with rfl|hv
  ·exact⟨_,.head _,_,r⟩
  ·obtain⟨d,c,b⟩:=BU t hv;exact⟨d,.tail _ c,b⟩
def Us{c:oA lP}{ds:oA lR}{p:oA lT}(ok:SortOkP ds)(b:ReadsAll s.heap c ds p)(h2:2<=ds.length)(hu:A.units+64<cLine):∃ f,(∀Q:mJ->lQ->Prop,Q f s->qU prog w A (keyKind' c.toArray) Q E s)/\Fb prog w A f c s:=by
 have I:=Tz b;obtain⟨M,j,N,D⟩:=O5 b ok.fst;refine⟨tuples' true,λQ q=>?_,λu z v hv'=>?_⟩
 ·refine PySem.W.kat_kind (T:=.type "int") j (by omega) (λv hv=>?_) rfl q;obtain⟨i,t,rfl⟩:=D v hv;exact PySem.W.Looks.of_pure rfl
 ·obtain⟨d,a,g,l⟩:=BU b z;obtain⟨e,he,h,F⟩:=BU b hv';have y:=Gz ok.can _ a;have c2:=Gz ok.can _ he;have r:=ok.cmp _ a _ he;have G:=K_ (Mb _ a) ok.dp;obtain⟨P,O,rfl⟩:=ok.fst d a;obtain⟨L,J,rfl⟩:=ok.fst e he;cases l with
  |tuple m a2 x o=>
   cases F with
   |tuple g h n B=>exact⟨_,λC q=>NV (.tuple m a2 x o) (.tuple g h n B) y c2 r hu G q⟩
def Pt{a:lT}{l:oA<|Int×lP}{ns:oA Int}{Q:lP->lQ->Prop}(J:A.handled=none)(Z:D8 (Az prog w) s.heap a l<|E9 w)(U:Unlike (Az prog w) l)(g:Keys (Az prog w) l<|ns.map Sum.inl)(B:l.length<1000)
  (h:∀(h':lZ) (d':Drawn) (tk p c:Nat) (f:oA lP),(∀b o,s.heap.get? b=some o->h'.get? b=some o)->s.heap.objs.size<=p->h'.get? p=some (seqObj "list" f.toArray c)->(∀v∈f,YG v)->(f.map Ds).Nodup->(∀n,n∈f.map Ds↔n∈ns)->f.length<1000->Q (.ref p) {s with heap:=h',drawn:=d',toks:=tk}) :
  qU prog w A (call (.builtin "sorted") [.ref a]) Q E s:=by
 obtain⟨o,r,ep,t,F,T,V,rfl,j,Y,G⟩:=Z;have hz:r.size<1000:=by simpa using B
 refine Fm (Iq (show A.in1.handled=none from J) ⟨o,F,T.1,V,Y⟩ G (by omega) λh1 d1 y ord D L hp=>?_);have i:∀v∈ord,YG v:=λv hv=>by obtain⟨e,he,rfl⟩:=D_.mp<|hp.mem_iff.mp hv;obtain⟨n,t,d,_⟩:=F4 j g he;exact⟨n,t,d⟩
 have I:∀n,n∈ord.map Ds↔n∈ns:=λn=>by
  rw[D_];constructor
  ·rintro⟨v,hv,rfl⟩;obtain⟨e,he,rfl⟩:=D_.mp<|hp.mem_iff.mp hv;obtain⟨n,t,d,m⟩:=F4 j g he;rw[d];exact m
  ·intro N;obtain⟨e,he,hk⟩:=(g<|.inl n).mpr<|D_.mpr ⟨n,N,rfl⟩;obtain⟨x,t,d,_⟩:=F4 j g he;rw[d]at hk;have:=GQ hk;cases this;exact⟨e.2,hp.mem_iff.mpr<|D_.mpr ⟨e,he,rfl⟩,by rw[d];rfl⟩
 have hnd:(ord.map Ds).Nodup:=by have d:(ord.map Ds).Perm ((r.toList.map (·.2)).map Ds):=hp.map _;refine d.nodup_iff.mpr ?_;unfold List.Nodup;rw[eG,eG];refine List.Pairwise.imp_of_mem (λ{e e'} he av hu q=>?_) U;obtain⟨n,t,d,_⟩:=F4 j g he;obtain⟨x,t',m,_⟩:=F4 j g av;rw[d,m]at q;have S:n=x:=q;subst S;have:=hu (.inl n) (by rw[d];exact Cl _ _ _ _);rw[m,Cl]at this;cases this
 have M:ord.length<1000:=by rw[hp.length_eq];simpa using hz
 refine⟨by omega,λh2 h' z=>⟨oneType',λQ q=>?_,λu hu v hv=>?_⟩,λW h' P c pv R z e=>?_⟩
 ·match ord,i,h2 with
  |v1::v2::f,i,_=>rw[keyKind_ints<|Pg i];exact B_ q
 ·obtain⟨n1,y,rfl⟩:=i u hu;obtain⟨O,t2,rfl⟩:=i v hv;refine⟨decide (n1<O),λC q=>?_⟩;rw[keyLt'_oneType];exact oneLt_int q
 ·exact h h' d1 y P c W (λb o q=>z b o<|D b o q) (K_ L R) e (λv hv=>i v<|pv.mem_iff.mp hv) ((pv.map _).nodup_iff.mpr hnd) (λn=>by rw[<- I n,(pv.map _).mem_iff])<|by rw[pv.length_eq];exact M
def Nw{E:lP->lQ->Prop}{s:lQ}{a:lT}{xs:oA<|lR×lT}{Q:lP->lQ->Prop}(I:A.handled=none)(hu:A.units+100<cLine)(R:Fl w s.heap a xs<|E9 w)(g:∀d:oA<|lR×lT,d.Perm xs->SortOkP (d.map (·.1)))
  (h:∀(h':lZ) (d':Drawn) (tk p c:Nat) (i:oA<|lR×lT),(∀b o,s.heap.get? b=some o->h'.get? b=some o)->s.heap.objs.size<=p->h'.get? p=some (seqObj "list" (i.map λx=>Value.ref x.2).toArray c)->i.Perm xs->Q (.ref p) {s with heap:=h',drawn:=d',toks:=tk}) :
  qU prog w A (call (.builtin "sorted") [.ref a]) Q E s:=by
 obtain⟨o,S,V,t,F,N,O,y,M,P,G,hQ,W⟩:=R;have Y:S.size=xs.length:=by rw[<- aF,y,C_]
 have n:xs.length<1000000:=by have:=(g xs<|.refl _).len;rwa[C_]at this
 refine Fm (Iq (show A.in1.handled=none from I) ⟨o,F,N.1,O,P⟩ G (by omega) λh1 C B ord z J hp=>?_);rw[y,X_]at hp;obtain⟨d,rfl,j⟩:=Db hp xs (f:=λx=>Value.ref x.2) rfl;have ok:=g d j;have m:d.length<1000000:=by rw[j.length_eq];exact n
 have D:(d.map λx=>Value.ref x.2).length=(d.map (·.1)).length:=by rw[C_,C_]
 have v:∀x∈d,Cj h1 x.1 x.2:=λx hx=>(M x<|j.mem_iff.mp hx).keeps z;refine⟨by rw[C_];exact m,λh2 h' u=>?_,λus h' l c T U u e=>?_⟩
 ·obtain⟨Z,r⟩:=Iv (h:=h') λx hx=>(v x hx).keeps u;exact Us (s:={s with heap:=h',drawn:=C,toks:=B}) ok r (by rw[<- D];exact h2)<|by show A.units+1+1+64<_;omega
 ·obtain⟨i,rfl,L⟩:=Db T d rfl;exact h h' C B l c i (λb o q=>u b o<|z b o q) (K_ J U) e<|L.trans j
def TOk.sortP{ds es:oA lR}(h:TOk ds)(hs:∀d∈es,d∈ds)(hn:es.Nodup):SortOkP es:=by obtain⟨a,b,c⟩:=Uk λd f=>h.key d<|hs d f;have:=F5 hn hs;have:=h.len;exact⟨by omega,a,by omega,λd f=>h.fst d<|hs d f,λd f e he=>h.cmp d (hs d f) e<|hs e he⟩
def OT(te:AE):AE:=λf c R=>te f c λx a=>opt (items a x) λe=>opt (dats e) λb=>TOk b/\∀(es:oA lR) (p:lT),es.Nodup->(∀d,d∈es↔d∈b)->a p=none->R (.R p) (Al a p<|.lst<|es.map .D)
def Pu{e:lX}{te:AE}{p S P L:Pos}(hr:Room k X.A)(hg:Gl X "sorted") (hm:X.mg "sorted" = none) (j2:Gl X "set") (fw:X.mg "set" = none) (he:VE X e te)
  (hs:starEach [.Call (.Name "set" S) [e] [] L] X.env=[(false,eval (.Call (.Name "set" S) [e] [] L) X.env)]:=by rfl) (hs2:starEach [e] X.env=[(false,eval e X.env)]:=by rfl) :
  VE X (.Call (.Name "sorted" p) [.Call (.Name "set" S) [e] [] L] [] P) (OT te):=by
 intro aa s σ H Q I l;refine B1 l λτ μ R ay T h hq=>?_;refine bV<|Dy I hg hm boot_sorted<|gD ?_ hs rfl;rw[hs];refine bU<|bV<|Dy I j2 fw boot_set<|bQ ?_ hs2 rfl;rw[hs2];refine bU<|bD (he.run I ay T h) (λu a ku=>Mx ku λx v μ1 H1 z rv S1 O rx h1=>cJ ?_) λ_ _ e=>e;obtain⟨g,ey,h1⟩:=A0 h1;obtain⟨Y,ed,ok,h1⟩:=A0 h1;have ag:=OI (eV ok.len<|by decide);obtain⟨p0,ws,rfl,hk,rs⟩:=Ce O rx ey;cases rv;have dk:=rs.dats ed;have f:X.A.handled=none:=hr.hd;have hun:=hr.un;have l2:=dk.length;have G:∀(ks:oA<|lR×lT),ks.map (·.1)=Y->(∀x∈ks,Cj a.heap x.1 x.2/\Dk X.K H1 x.1 (.ref x.2))->∀(h1:lZ) (tk:Nat) (xs:oA<|lR×lT),(∀b o,a.heap.get? b=some o->h1.get? b=some o)->Fl X.w h1 a.heap.objs.size xs (E9 X.w)->(xs.map (·.1)).Nodup->(∀d,d∈xs.map (·.1)↔d∈ks.map (·.1))->(∀x∈xs,x∈ks) ->
   qU X.prog X.w X.A (call (.builtin "sorted") [.ref a.heap.objs.size]) (EP X aa σ Q) X.xe {a with heap:=h1,toks:=tk}:=λks j de h2 tk xs C y n M2 F=>by
  rw[j]at M2;refine Nw (s:={a with heap:=h2,toks:=tk}) f (by omega) y (λg Z=>ok.sortP (λd f=>(M2 d).mp<|(Z.map (·.1)).mem_iff.mp f)<|(Z.map (·.1)).nodup_iff.mpr n) λh3 d3 t3 q c t k2 hp m B=>?_;have lS:a.heap.objs.size<h2.objs.size:=by obtain⟨o,_,_,_,e,_⟩:=y;exact J_ e
  have fx:a.heap.objs.size<=q:=K_ (cH lS) hp;have mq:t.length<1000000:=by have:=(ok.sortP (es:=t.map (·.1)) (λd f=>(M2 d).mp<|(B.map (·.1)).mem_iff.mp f)<|(B.map (·.1)).nodup_iff.mpr n).len;rwa[C_]at this
  have hz:(t.map λx=>V.ref x.2).length<=sizeLine:=by rw[C_];exact K_ (cH mq)<|by decide
  have J:=z.hok.fresh fx;refine⟨.ref q,_,(Inv.drw z d3).laid (t':=t3) (λb o e=>k2 b o<|C b o e) fx<|show Bg X.prog X.w _ h3 _ (.lst<|t.map λx=>V.ref x.2) from⟨hz,_,c,Ul t,m⟩,rfl,?_⟩;refine hq _ _ _ _ (S1.trans<|Kp.new J _) (O.new J<|C2 ?_) C7<|h1 (t.map (·.1)) q ((B.map (·.1)).nodup_iff.mpr n) (λd=>((B.map (·.1)).mem_iff).trans<|M2 d)<|O.none J;exact(AZ λx hx=>(de x<|F x<|B.mem_iff.mp hx).2).rel
 refine Ka (s:=a) ?_;rcases hk with⟨_,hk⟩|⟨_,hk⟩
 ·obtain⟨M,U,D,hz⟩:=z.list hk;obtain⟨ks,j,N,m⟩:=AY z Y ws M dk U ok.key (λd f=>by obtain⟨_,_,e⟩:=ok.fst d f;exact⟨_,e⟩);have W:p0<a.heap.objs.size:=by obtain⟨o,e,_⟩:=D.isList;exact J_ e
  have i:∀g:oA lR,g.Nodup->(∀d∈g,d∈ks.map (·.1))->g.length<4900:=by rw[j];exact ag
  refine AW (s:={a with heap:=a.heap.push<|Bv X.w}) (show X.A.in1.in1.handled=none from f) (show X.A.units+1+1+20<cLine by omega) (by obtain⟨o,e,r⟩:=D.isList;exact⟨o,DD _ e,r⟩) (ks:=ks) (by simpa using N) (λx hx=>(m x hx).1.keeps λb o e=>DD _ e) i Po (dI<|T_ W) λh2 tk xs C y n M2 F L2=>cJ ?_;exact G ks j m h2 tk xs (λb o e=>C b o (T_<|J_ e)<|DD _ e) y n M2 F
 ·obtain⟨M,U,D,hz⟩:=z.tuple hk;obtain⟨ks,j,N,m⟩:=AY z Y ws M dk U ok.key (λd f=>by obtain⟨_,_,e⟩:=ok.fst d f;exact⟨_,e⟩);have W:p0<a.heap.objs.size:=by obtain⟨o,e,_⟩:=D;exact J_ e
  have i:∀g:oA lR,g.Nodup->(∀d∈g,d∈ks.map (·.1))->g.length<4900:=by rw[j];exact ag
  refine Wy (s:={a with heap:=a.heap.push<|Bv X.w}) (show X.A.in1.in1.handled=none from f) (show X.A.units+1+1+20<cLine by omega) (Heap.IsTuple.push D _) (ks:=ks) (by simpa using N) (λx hx=>(m x hx).1.keeps λb o e=>DD _ e) i Po (dI<|T_ W) λh2 tk xs C y n M2 F L2=>cJ ?_;exact G ks j m h2 tk xs (λb o e=>C b o (T_<|J_ e)<|DD _ e) y n M2 F
def OU(te:AE):AE:=λe d R=>te e d λx a=>opt (items a x) λc=>∃ns:oA Int,c=(ns.map λn=>AV.D<|.int n)/\ns.length<900/\∀(l:lT) (b:oA Int),a l=none->b.Nodup->(∀n,n∈b↔n∈ns)->R (.R l) (Al a l<|.lst<|b.map λn=>.D<|.int n)
def BV{e:lX}{te:AE}{p M L D:Pos}(hr:Room k X.A)(hg:Gl X "sorted") (hm:X.mg "sorted" = none) (j2:Gl X "set") (fw:X.mg "set" = none) (he:VE X e te)
  (hs:starEach [.Call (.Name "set" M) [e] [] D] X.env=[(false,eval (.Call (.Name "set" M) [e] [] D) X.env)]:=by rfl) (hs2:starEach [e] X.env=[(false,eval e X.env)]:=by rfl) :
  VE X (.Call (.Name "sorted" p) [.Call (.Name "set" M) [e] [] D] [] L) (OU te):=by
 intro aa s σ H Q I d;refine B1 d λτ μ R ay N h hq=>?_;refine bV<|Dy I hg hm boot_sorted<|gD ?_ hs rfl;rw[hs];refine bU<|bV<|Dy I j2 fw boot_set<|bQ ?_ hs2 rfl;rw[hs2];refine bU<|bD (he.run I ay N h) (λu a Z=>Mx Z λx v μ1 H1 B rv S1 J rx h1=>cJ ?_) λ_ _ e=>e;obtain⟨us,ey,h1⟩:=A0 h1;obtain⟨ns,rfl,hl,h1⟩:=h1;obtain⟨Y,ws,rfl,hk,rs⟩:=Ce J rx ey;cases rv;have ew:=Iw rs;subst ew;have S:X.A.handled=none:=hr.hd;have t:∀(h2:lZ) (tk:Nat) (l:oA<|Int×lP),(∀b o,a.heap.get? b=some o->h2.get? b=some o)->D8 (Az X.prog X.w) h2 a.heap.objs.size l (E9 X.w)->Unlike (Az X.prog X.w) l->Keys (Az X.prog X.w) l (ns.map Sum.inl)->l.length<1000 ->
   qU X.prog X.w X.A (call (.builtin "sorted") [.ref a.heap.objs.size]) (EP X aa σ Q) X.xe {a with heap:=h2,toks:=tk}:=λh2 tk l m f i j L2=>by
  refine Pt (s:={a with heap:=h2,toks:=tk}) S f i j L2 λh3 d3 t3 q c z k2 hp e3 hi uy f6 g=>?_;have lS:a.heap.objs.size<h2.objs.size:=by obtain⟨o,_,_,_,e,_⟩:=f;exact J_ e
  have W:a.heap.objs.size<=q:=K_ (cH lS) hp;have hz:((z.map Ds).map V.int).length<=sizeLine:=by simp;exact K_ (cH g)<|by decide
  have C:=B.hok.fresh W;refine⟨.ref q,_,(Inv.drw B d3).laid (t':=t3) (λb o e=>k2 b o<|m b o e) W<|show Bg X.prog X.w _ h3 _ (.lst<|(z.map Ds).map V.int) from⟨hz,z,c,Ph hi,e3⟩,rfl,?_⟩;exact hq _ _ _ _ (S1.trans<|Kp.new C _) (J.new C<|C2<|Ud _) C7<|h1 q (z.map Ds) (J.none C) uy f6
 refine Ka (s:=a) ?_;rcases hk with⟨_,hk⟩|⟨_,hk⟩
 ·obtain⟨F,y,n,hz⟩:=B.list hk;obtain⟨U,O⟩:=Hv (P:=X.prog) (w:=X.w) y;have g:=y.length;have G:F.toArray.size<900:=by simp at g ⊢;omega
  have T:Y<a.heap.objs.size:=by obtain⟨o,e,_⟩:=n.isList;exact J_ e
  refine Wz (s:={a with heap:=a.heap.push<|Bv X.w}) (show X.A.in1.in1.handled=none from S) (by obtain⟨o,e,r⟩:=n.isList;exact⟨o,DD _ e,r⟩) (by simpa using U) (by simpa using O) (by omega) Kc (dI<|T_ T) λh2 tk l m f i j L2=>cJ ?_;exact t h2 tk l (λb o e=>m b o (T_<|J_ e)<|DD _ e) f i j<|by omega
 ·obtain⟨F,y,n,hz⟩:=B.tuple hk;obtain⟨U,O⟩:=Hv (P:=X.prog) (w:=X.w) y;have g:=y.length;have G:F.toArray.size<900:=by simp at g ⊢;omega
  have T:Y<a.heap.objs.size:=by obtain⟨o,e,_⟩:=n;exact J_ e
  refine R5 (s:={a with heap:=a.heap.push<|Bv X.w}) (show X.A.in1.in1.handled=none from S) (Heap.IsTuple.push n _) (by simpa using U) (by simpa using O) (by omega) Kc (dI<|T_ T) λh2 tk l m f i j L2=>cJ ?_;exact t h2 tk l (λb o e=>m b o (T_<|J_ e)<|DD _ e) f i j<|by omega
theorem UJ{K:lU}{H:Hp}:∀{ds:oA lR} {c:oA V} {b:oA lP},An K H ds c->Vals c b->∃a:oA<|lR×V×lP,ds=a.map (·.1)/\b=a.map (·.2.2)/\∀z∈a,Dk K H z.1 z.2.1/\Ba z.2.1 z.2.2
 |[],c,b,h,r=>by have e:=h.nil;subst e;cases r;exact⟨[],rfl,rfl,λ_ z=>nomatch z⟩
 |d::ds,c,b,h,r=>by
  obtain⟨x,j,rfl,h1,h2⟩:=An.cons (K:=K) (H:=H) h;cases r with
  |cons g f=>
   obtain⟨a,rfl,rfl,i⟩:=UJ h2 f;refine⟨(d,x,_)::a,rfl,rfl,λy hy=>?_⟩;rcases aB.mp hy with rfl|hy
   ·exact⟨h1,g⟩
   ·exact i y hy
theorem BW{K:lU}{H:Hp}:∀{e:oA<|lR×V×lP},(∀z∈e,Dk K H z.1 z.2.1/\Ba z.2.1 z.2.2)->An K H (e.map (·.1)) (e.map (·.2.1))/\Vals (e.map (·.2.1)) (e.map (·.2.2))
 |[],_=>⟨Ej,.nil⟩
 |z::e,h=>by obtain⟨a,b⟩:=BW λy hy=>h y<|.tail _ hy;obtain⟨c,d⟩:=h z<|.head _;exact⟨D3 c a,.cons d b⟩
def Pw:AC:=λd b R=>match d with
 |[.R a]=>opt (b a) λm=>match m with
  |.lst e=>opt (dats e) λc=>SortOkP c/\∀(es:oA lR) (p:lT),es.Perm c->b p=none->R (.R p) (Al b p<|.lst<|es.map .D)
  |_=>False
 |_=>False
def Mo(Z:Room k X.A):VCall X (.builtin "sorted") Pw:=by
 intro aa s σ H xs Y Q I r i;refine B1 i λas μ R N hc h hq=>?_;unfold Pw at h;split at h
 ·rename_i a;cases N with
  |cons r1 V=>
  cases V;obtain⟨m,S,h⟩:=A0 h;split at h
  ·rename_i j;obtain⟨ds,ed,ok,h⟩:=A0 h;obtain⟨o,L,U,rfl,M⟩:=hc _ _ S;cases r1;obtain⟨u,rfl,J⟩:=Ex r;cases J;obtain⟨T,C,P,hz⟩:=I.list<|Ff.of (K:=X.K) L;have dk:=M.dats ed;obtain⟨bs,D⟩:=An.reads I ds U T dk C;obtain⟨g,rfl,rfl,v⟩:=UJ dk C;have l1:=Tz D;have B:(g.map (·.2.2)).length<1000000:=by rw[l1];exact ok.len
   have F:(g.map (·.2.2)).length<=sizeLine:=K_ (cH B) (by decide);have d:∀b o,s.heap.get? b=some o->((s.heap.push<|seqObj "list" #[] 0).update s.heap.objs.size<|Obj.mapSeq (·++(g.map (·.2.2)).toArray)).get? b=some o:=λb o q=>
    ((aO (s.heap.push<|seqObj "list" #[] 0) s.heap.objs.size _).2 b<|T_<|J_ q).trans (DD _ q)
   refine Fm<|collect_list P.isList ⟨B,λh2 n x=>?_,λY n l c pu G x e=>?_⟩ F
   ·have hu:=Z.un;exact Us (s:={s with heap:=n,toks:=s.toks}) ok (Ht (λb o q=>x b o<|d b o q) D) (by omega)<|by show X.A.units+1+1+64<_;omega
   ·obtain⟨j,rfl,p⟩:=Db pu g rfl;obtain⟨W,hv⟩:=BW λz hz=>v z<|p.mem_iff.mp hz;have y:s.heap.objs.size<=l:=by
     refine K_ ?_ G;rw[iA];exact K_ (eA _)<|fH (bW _ _).symm
    have O:(j.map (·.2.1)).length<=sizeLine:=by rw[C_,p.length_eq,<- C_ (f:=(·.2.2)) (as:=g)];exact F
    have t:=I.hok.fresh y;refine⟨.ref l,_,I.laid (t':=s.toks) (λb o q=>x b o<|d b o q) y<|show Bg X.prog X.w _ n _ (.lst<|j.map (·.2.1)) from⟨O,_,c,hv,e⟩,rfl,?_⟩;exact hq _ _ _ _ (Kp.new t _) (hc.new t<|C2 W.rel) C7<|h (j.map (·.1)) l (p.map _)<|hc.none t
  ·exact h.elim
 ·exact h.elim
end
end L2
namespace L2
open PySem PySem.Spec PySem.Calls PyProof.Rows
def EL(K:lU)(C:lT)(b:M->Prop):XK:=λc d H=>∃ a,c=.ref C/\Cn K a H/\b a
def HM(e:M->Prop)(d:oA Str)(t:AA):AS:=λ_ _ _ _ f b=>t f b λc a=>c.length=d.length/\e a
section
variable {X:Cx}{x:Str}{p pos bp:Pos}{e:lX}{es:oA lX}{t:AA}{k:Nat}{C:lT}{m6:oA Str}{EX:M->Prop}{P:lV}{w:lW}{K:lU}{mg:Str->oB lP}{base:lZ}{qual:Str}{st:mC}{f T:lT}{fd:mD}{N ps:oA Str}{sp:Xh}{y n:Str}{p0 p1 p2 su bu:Pos}{i:Nat}{d:Int}{b₀:mC}{suite:oA mC}{th:AS}
def Xg(F:XCal X.prog X.w X.K X.mg X.base k x C m6)(S:Room (k+1) X.A)(hc:X.calm=true)(hx:FO X<|EL X.K C EX)(L:Gl X x)(ha:VA X (e::es) t)(hn:(e::es).length<=1000:=by decide)(hdb:(x==("__debug__" : Str))=false:=by decide) (I:starEach (e::es) X.env=(false,eval e X.env)::starEach es X.env:=by rfl) (hpl:(backTo pos<|starEach es X.env).any (·.1)=false:=by rfl):VS X (.Raise (some<|.Call (.Name x p) (e::es) [] pos) none bp) (HM EX m6 t):=by
 obtain⟨f,fd,ps,G,Z,mk,gm,mr⟩:=F;refine PS.imp (Y2 hc hx<|Yz (E:=E0) mk G S L gm Z IV ha hdb I hpl) λD σ H z=>Gi z λτ μ nk nr nb nc Y hc h hq=>?_;refine⟨τ,μ,_,Y,hc,h,λxs j J R S1 V l u ⟨Q,W⟩=>⟨by rw[<- l.length,u];exact hn,λa O ha=>?_⟩⟩;refine⟨a,O,J,rfl,by rw[<- l.length];exact Q,Bc,λB U s c v q2 ne=>⟨rfl,a,C,U,some s,rfl,v,mk.xc,mr,j,rfl,λb m hb=>?_,W⟩⟩;obtain⟨o,q,r⟩:=V b m hb;have g:∀b o,R b=some o->upd B a (XR a C<|some s) b=some o:=λb o q=>by
  have hb:b≠a:=by rintro rfl;rw[ha]at q;cases q
  rw[Ao hb];exact c b o hb<|by rw[Ao hb];exact q
 exact⟨o,g b o q,r.kp ⟨λb _ e=>g b _ e,λb _ _ e=>g b _ e⟩⟩
abbrev Xh:=oA AV->M->(AV->M->Prop)->(M->Prop)->Prop
def BX(K:lU)(C:lT)(n:Nat)(sp:Xh):Sp:=λj H Q E=>∃b h R EX,b.length=n/\Ax K H b j/\Cn K h H/\sp b h R EX/\LV K H R Q/\∀c a g,EL K C EX c a g->E c a g
def FunD.vokL(F:FunD K x qual st f fd T)(S:FnScope N ps<|Ah st) (V:∀(l:lP) (A:lY) (outer:oA Env) (s:lQ) (H:Hp) (E:XK) (EX:M->Prop),Room k (A.deeper<|envOfC qual (Ah st) s.heap.objs.size f l)->FO (Ld (MV P w) P w K mg base N qual (Ah st) f l A outer s H E) (EL K C EX) ->
   ∃t,VSs (Ld (MV P w) P w K mg base N qual (Ah st) f l A outer s H E) (Cd st) t/\∀g j R,g.length=ps.length->sp g j R EX->t (aNx R) (YD R) YE YE (Hq N g) j):FnOk P w K mg base (MV P w) (k+1) f fd ps (BX K C ps.length sp):=by
 obtain⟨oc,od,kV,bw,pm,an,l,ct,f7,rfl,lk,L⟩:=F.ex;refine IQ lk L S (λo H Q E h=>?_) λA outer s H o Q E hr h=>?_
 ·obtain⟨g,j,R,EX,m,B,_⟩:=h;rw[<- B.length];exact m
 ·obtain⟨g,j,R,EX,m,B,hc,gf,hq,hE⟩:=h;obtain⟨t,W,h⟩:=V l A outer s H E EX hr λO J H1 U a C d o I q R h=>FP O J H1 U a C d o I q R<|hE _ _ _ h;exact⟨_,W,Hq N g,j,_,_,_,_,Dv.begin B,hc,h g j R m gf,⟨λτ D J H' G _ c z=>EB z λY b r=>hq _ _ _ _ G (c.sub b) Nc r,λv D u H' G c Z z=>EB z λY b r=>hq _ _ _ _ G (c.sub b) Z r,λ_ _ _ _ _ _ _ h=>h.elim,λ_ _ _ _ _ _ _ h=>h.elim⟩⟩
def Ks(P:lV)(w:lW)(K:lU)(mg:Str->oB lP)(base:lZ)(k:Nat)(x:Str)(ps:oA Str)(d:Int)(C:lT)(sp:Xh):Prop :=
 ∃g a b,FnOk P w K mg base (MV P w) k g a ps (BX K C ps.length sp)/\Binds K a ps [.int d b]/\PySem.W.keepIn K (.ref g)=true/\mg x=some (.ref g)
def Ks.mono{d:Int}{n m:Nat}(c:Ks P w K mg base n x ps d C sp)(h:n<=m):Ks P w K mg base m x ps d C sp:=by obtain⟨g,b,a,G,r⟩:=c;exact⟨g,b,a,G.mono h,r⟩
structure ErL(K:lU)(C:lT):Prop extends XCls K C where
 xc:Jc K C=true
 kp:PySem.W.keepIn K (.ref C)=true
 me:PySem.W.mroIn K C (.ref C)=some true
def BY(K:lU)(C:lT):Bool :=
 PySem.W.findIn K (.ref C) "__getattribute__" == some (some<|.builtin "BaseException.__getattribute__")&&PySem.W.findIn K (.ref C) "__getattr__" == some none&&PySem.W.findIn K (.ref C) "__setattr__" == some (some<|.builtin "object.__setattr__")&&PySem.W.hasDictIn K C &&
 PySem.W.mroIn K C (.type "BaseException")==some true&&PySem.W.mroIn K C (.type "object")==some true&&Ra K C&&Jc K C&&PySem.W.keepIn K (.ref C)&&PySem.W.mroIn K C (.ref C)==some true
def OV{K:lU}{C:lT}(h:BY K C=true):ErL K C:=by unfold BY at h;simp only[Bool.and_eq_true,beq_iff_eq]at h;obtain⟨⟨⟨⟨⟨⟨⟨⟨⟨h1,h2⟩,o⟩,m⟩,b⟩,j⟩,c⟩,g⟩,l⟩,a⟩:=h;exact⟨⟨h1,h2,o,m,b,j,c⟩,g,l,a⟩
def UK(sp:Xh)(d:Int)(t:AA)(i:Nat)(th:AS):AS:=λk r b c h l=>t h l λj g=>sp (j++[.D<|.int d]) g (λv a=>k (h.set i<|some v) a) λa=>th k r b c h a
def HN(F:Ks X.prog X.w X.K X.mg X.base k y ps d C sp)(hr:Room k X.A)(j2:Gl X y)(ha:∀O pn,VA (X.taking O pn) (e::es) t)(hh:∀a,VSs (X.suite a) (b₀::suite) th)
  (hg:Gl X x) (hm:X.mg x=some (.ref C)) (hC:Jc X.K C=true) (hB:PySem.W.mroIn X.K C (.type "BaseException")=some true) (hme:PySem.W.mroIn X.K C (.ref C)=some true) (ay:X.stack=X.env::X.outer) (fq:X.env.frame=some X.env.locals)
  (hN:X.N.Nodup) (hi:X.N[i]?=some n) (hk:X.env.scope.names.lookup n=some .local) (hl:(e::es).length+1=ps.length:=by rfl) (hdb:(x==("__debug__" : Str))=false:=by decide) (zah:(y==("__debug__" : Str))=false:=by decide)
  (hse:starEach (e::es) X.env=(false,eval e X.env)::starEach es X.env:=by rfl) (hpl:(backTo pos<|starEach es X.env).any (·.1)=false:=by rfl) (uw:swapsWith (.Call (.Name y p) (e::es) [] pos) (some<|.Name n p0) su.line X.env=pure false:=by rfl) :
  VS X (.Try [.Assign [.Name n p0] (.Call (.Name y p) (e::es) [] pos) su] [.ExceptHandler (some<|.Name x p1) none (b₀::suite) p2] [] [] bu) (UK sp d t i th):=by
 obtain⟨g,gd,tk,G,gb,gk,gm⟩:=F;intro E s U H D I z;refine Gi z λZ μ nk nr nb nc hs hc h hq=>?_;refine wpAny_Try_except<|lA ?_;have ok:=I.ok;generalize hxe:(λ(e:lP) (s₁:lQ)=>qU X.prog X.w X.A (noteFrame e X.env) (λ_ s₂=>qU X.prog X.w X.A (setFlight e none) (λ_ Y=>
  qU X.prog X.w X.A (handleBy e X.env [.ExceptHandler (some<|.Name x p1) none (b₀::suite) p2]) (SP X E D) X.xe Y) X.xe s₂) X.xe s₁)=O
 have I':Inv (X.taking O<|X.pn++E) [] U H s:=I.take;refine wpAny_Assign_Name (bV<|G5 (X:=X.taking O<|X.pn++E) I' j2 gm (kD (h₀:=X.base) I'.ok.mod.kin gk (thn (ha O _ pos [] s U H (λV B=>∃Q l,Kp H B/\Cn X.K l B/\Ax X.K B Q V/\Q.length=(e::es).length/\sp (Q++[.D<|.int d]) l (λv j=>nk (Z.set i<|some v) j) λj=>th nk nr nb nc Z j) I' ⟨Z,μ,_,hs,hc,h,λQ l V B S1 c1 rs hn hx=>⟨Q,l,S1,c1,rs,hn,hx⟩⟩) λus s1 z=>Cc z λV B I1 r ⟨Q,l,S1,c1,rs,hn,hx⟩=>⟨I1.kIn,?_⟩) hse hpl) zah) uw;have r2:Vals (V++[.int d]) (us++[.int d tk]):=r.append<|.cons ⟨tk,rfl⟩ .nil;have gf:BX X.K C ps.length sp (V++[.int d]) B (λv m=>D.nx (U.set i<|some v) m) (λc _ m=>c=.ref C/\∃ j,Cn X.K j m/\th nk nr nb nc Z j):=⟨_,l,_,_,by rw[R_,hn];exact hl,rs.append<|.cons Ci .nil,c1,hx,λv j u m S2 c2 rv h2=>hq.nx _ _ _ _ (S1.trans S2) ((hs.kp<|S1.trans S2).set rv i) c2 h2,by rintro c _ m ⟨j,e1,e2,e3⟩;exact ⟨e1,j,e2,e3⟩⟩;refine lL (hV (G.run X.A X.stack s1 B ⟨us,[]⟩ _ _ _ _ hr I1.env0 (gb s1 us I1.kIn<|by rw[<- r2.length];exact G.len _ _ _ _ gf) r2 gf) λr s' hz=>?_);cases r with
 |ok fl=>
  cases fl with
  |ret u=>obtain⟨v,m,I2,r3,q2⟩:=I1.after hz;exact Dm (X:=X.taking O<|X.pn++E) I2 hN hi (.inl hk) r3 (λs3 I3=>gT<|gT ⟨_,m,I3.untake ok,q2⟩) (.inr hk)
  |next=>exact False.elim hz
  |brk=>exact False.elim hz
  |cont=>exact False.elim hz
 |error e=>
  obtain⟨a,C',d',H',rfl,os,bare,un,hok,⟨iw,R⟩,hx',ec,μ',bq,hth⟩:=hz;cases ec;have J0:Inv X E U H' s':=(I1.call' os un hok bare λb z=>absurd z<|by simp).untake ok;show O (.ref a) s';rw[<- hxe];refine V9 (base:=X.base) (outer:=X.outer) (L:=X.env.locals) (by rw[<- ay];exact ok.frames) (by rw[<- ay];exact J0.stack) fq R λh' L=>?_;have J:=J0.left hx' (by rw[ay];exact L);obtain⟨iw,R',_⟩:=L.rc;refine wpAny_handleBy_cons (codeAny_handlers_test ?_) (by intro q;cases q);refine G5 (X:=X.suite a) J.suite hg hm ?_ hdb;refine On (K:=X.K) J.kIn hC R'.at_ hB hme ?_;refine codeAny_handlers_suite<|Wa R' λh2 k2=>?_;have J2:Inv X E U H' {s' with heap:=h2}:=J.kept (t':=s'.toks) k2;have S:Kp H H':=S1.trans ⟨un.tups,un.frzs⟩;refine bD (hh a E _ U H' D J2.suite ⟨Z,μ',_,_,_,_,hs.kp S,bq,hth,hq.kp S⟩) (λfl s5 hf=>?_) λ_ _ z=>z.elim;cases fl with
  |ret u=>obtain⟨v,o,H6,I6,q⟩:=hf;exact⟨v,o,H6,I6.unsuite ok,q⟩
  |_=>obtain⟨o,H6,I6,q⟩:=hf;exact⟨o,H6,I6.unsuite ok,q⟩
end
def Nx:typeLookup (.type "list") "keys" = pure none:=by rw[d_,bZ];kernel_rfl
def Sl:typeLookup (.type "list") "__getattr__" = pure none:=by rw[d_,bZ];kernel_rfl
section
variable {prog:lV}{w:lW}{A:lY}{E:lP->lQ->Prop}{h:lZ}{g:oC GenState}{d:Drawn}{t:Nat}{os:OsState}{a:lT}{o:l_}{R:mH->lQ->Prop}{I D:lT}{fp wr:oA lT}{n:Nat}{P:Nat->lP->Prop}{St:Nat->lZ->Prop}{h0:lZ}{ks:oA Int}
def Sm:isSubtype (.type "AttributeError") (.type "AttributeError")=pure true:=by rw[dJ];kernel_rfl
def BZ{j:Type}{s:lQ}{e:lT}{u x f:lP}{Q:j->lQ->Prop}(k:A.handled=none)(he:s.heap.get? e=some {cls:=.type "AttributeError",data:=.fields<|#[u,.none,.none,.none,.bool false,.none]++#[unsetMember,unsetMember]})
  (hq:∀c,(∀b o,b≠e->s.heap.get? b=some o->c.get? b=some o)->(∃o,c.get? e=some o/\o.cls=.type "AttributeError")->E (.ref e) {s with heap:=c}) :
  qU prog w A (do noteAttr (.ref e) x f;raiseNew (.ref e):Sem j) Q E s:=by
 have i:s.TypeIs (.ref e) "AttributeError" := ⟨_,he,rfl⟩;unfold noteAttr lacksNameAndObj;refine A_<|A_<|A_<|bT i Sm ?_;simp only[Bool.not_true,Bool.false_eq_true,if_false];refine A_<|wpAny_load he ?_;refine(show wpAny _ _ (if(false||false)=true then _ else if(false||false)=true then _ else pure true) _ _ _ from B_<|A_<|cV<|A_<|fG i<|show wpAny _ _ (layMembers e 6 #[f,x]) _ _ _ from ?_);unfold layMembers;refine A_<|wpAny_load he<|show wpAny _ _ (update e _) _ _ _ from wpAny_update he<|wpAny_raiseNew_none k<|hq _ (λb o hb q=>(bC _ _<|dI hb).trans q) ⟨_,aG _ he rfl,rfl⟩
def Sn{tk:Tok}{xs:oC lP}{n:Nat}{Q:PySem.Fin->lQ->Prop}(i:A.handled=none)(hx:h.get? a=some {cls:=.type "list",data:=.seq xs n})
  (hq:∀e c f,(∀b o,h.get? b=some o->c.get? b=some o)->(∃o,c.get? e=some o/\o.cls=.type "AttributeError")->E (.ref e) ⟨c,g,d,f,os⟩) :
  wpAny (model prog w) A (Builtin.«object.__getattribute__» ⟨[.ref a,.str "keys" tk],[]⟩) Q E ⟨h,g,d,t,os⟩:=by
 have j:(⟨h,g,d,t,os⟩:lQ).TypeIs (.ref a) "list" := ⟨_,hx,rfl⟩;have l:=Nx
 repeat (any_goals (first|assumption|wp_step))
 unfold raiseAttrError;refine A_ (wpAny_mkStr ?_ (hx:=by decide +kernel));refine A_ ?_;unfold newExc;refine A_<|wpAny_newTuple ?_;refine A_ (m:=firstArgMember _ _)<|B_<|aC ?_;refine A_<|wpAny_mkText<|BZ i (H_ _ rfl) λc k r=>?_;exact hq _ c _ (λb o z=>k b o (T_<|by rw[bW];exact dA<|J_ z)<|DD _<|DD _ z) r
def Xi{tk:Tok}{xs:oC lP}{n:Nat}{R:mH->lQ->Prop}(i:A.handled=none)(hx:h.get? a=some {cls:=.type "list",data:=.seq xs n})
  (hq:∀e c f,(∀b o,h.get? b=some o->c.get? b=some o)->(∃o,c.get? e=some o/\o.cls=.type "AttributeError")->R (.error<|.ref e) ⟨c,g,d,f,os⟩) :
  codeAny (model prog w) A (.call (.builtin "list.__getattribute__") ⟨[.ref a,.str "keys" tk],[]⟩) R ⟨h,g,d,t,os⟩ :=
 hJ F.slot_list_getattribute.plain F.entry_list_ga (F.slot_list_getattribute.check _ _ _ _ _ _ _ _ (show(⟨h,g,d,t,os⟩:lQ).TypeIs (.ref a) "list" from⟨_,hx,rfl⟩) (F.args_list_getattribute_2 _ _)<|Sn i hx hq)
def HP{xs:oC lP}{n:Nat}{Q:oB lP->lQ->Prop}(l:A.handled=none)(hx:h.get? a=some {cls:=.type "list",data:=.seq xs n})
  (hq:∀c f,(∀b o,h.get? b=some o->c.get? b=some o)->Q none ⟨c,g,d,f,os⟩):wpAny (model prog w) A (getAttr? (.ref a) "keys") Q E ⟨h,g,d,t,os⟩:=by
 have m:(⟨h,g,d,t,os⟩:lQ).TypeIs (.ref a) "list" := ⟨_,hx,rfl⟩;have p:=F.slot_list_getattribute.lookup;have q:=F.slot_list_getattribute.bind<|.ref a;unfold getAttr? getAttrBy?
 repeat (any_goals (first|assumption|wp_step))
 refine Xi l hx λe c f k ⟨o,j,hc⟩=>?_;have i:∀t,(⟨c,g,d,t,os⟩:lQ).TypeIs (.ref e) "AttributeError" := λ_=>⟨_,j,hc⟩;refine(show wpAny _ _ (getattributeRaised (.ref a) _ (.type "list") (.ref e) none false false) _ _ _ from A_<|bT (i _) Sm<|show wpAny _ _ (typeLookup (.type "list") "__getattr__" >>= _) _ _ _ from ?_);rw[Sl];exact A_<|B_<|show wpAny _ _ (throw _) _ _ _ from jR<|A_<|bT (i _) Sm<|B_<|hq c _ k
def Ut:entryFor table "dict.update.loop" = some Builtin.«dict.update.loop»:=jL<|by kernel_rfl
def Ny:plainId "dict.update.loop" = true:=by decide +kernel
def zk(k:Int):Key×V:=(.inl k,.int 0)
def CA(W:Walks prog w A.in1 I fp wr n P St)(p:D∉fp)(H:h0.objs.size<=D)(hw:∀b∈wr,h0.objs.size<=b)(hn:ks.Nodup)(hl:ks.length=n)(hz:n<=1000)
  (hP:∀i v,P i v->∃b o m k t C,v=.ref b/\ks[i]?=some k/\h0.get? b=some o/\o.cls=.type "tuple" /\ o.data=.seq #[.int k t,.int 0 C] m) :
  ∀(k j:Nat) (s:lQ) (i:Int) (kvs:oA<|Key×lP),j+k=n->St j s.heap->Fa h0 s.heap->KV ((ks.take j).map zk) kvs->s.heap.DictOf (Az prog w) D kvs ->
  (∀f B Q,Fa h0 f->KV (ks.map zk) Q->f.DictOf (Az prog w) D Q->R (.ok<|.ret .none) {s with heap:=f,toks:=B}) ->
  codeAny (model prog w) A (.builtin "dict.update.loop" ⟨[.ref D,.ref I,rawInt i,.none],[]⟩) R s:=by
 have S:∀{b o},h0.get? b=some o->b∉wr:=λe z=>absurd (J_ e)<|g_.2<|hw _ z;have X:∀{b o},h0.get? b=some o->b≠D:=λe z=>absurd (J_ e)<|g_.2<|z ▸ H;have N:D∉wr:=λz=>p<|W.sub _ z;intro k
 induction k with
 |zero=>intro j s i kvs hj st g c dd q;refine dD Ut ?_;rw[bS Ny _];refine(show wpAny _ A.in1 (pyNext (.ref I)>>=_) _ _ s from A_<|W.done s _ _ (by rw[<- hj];exact st) λf B u=>A_<|B_<|B_ ?_);rw[show j=ks.length by omega,aK]at c;exact q f B kvs (λb o e=>u b o (S e)<|g b o e) c (by obtain⟨o,L,F,l,r⟩:=dd;exact⟨o,L,F,u D o N l,r⟩)
 |succ k Y=>
  intro j s i kvs hj st g c dd q;refine dD Ut ?_;rw[bS Ny _];refine(show wpAny _ A.in1 (pyNext (.ref I)>>=_) _ _ s from A_<|W.item j s _ _ (by omega) st λv f B G ak u=>?_);obtain⟨b,o,m,x,t,C,rfl,hx,l,hc,hd⟩:=hP j v G;have J:Fa h0 f:=λb o e=>u b o (S e)<|g b o e;have U:(⟨f,s.gens,s.drawn,B,s.os⟩:lQ).TypeIs (.ref b) "tuple" := ⟨o,J b o l,hc⟩;have V:f.DictOf (Az prog w) D kvs:=let⟨o,L,F,l,r⟩:=dd;⟨o,L,F,u D o N l,r⟩
  refine A_<|bB<|A_<|kM<|show wpAny _ _ (typeOf (.ref b)>>=_) _ _ _ from A_<|fG U ?_;rw[N_<|by decide];have T:(ks.take<|j+1).map zk=(ks.take j).map zk++[(.inl x,.int 0)]:=by rw[aJ,hx,P_];rfl
  have hf:(Sum.inl x:Key)∉((ks.take j).map zk).map (·.1):=λz=>by rw[X_]at z;obtain⟨y,hy,e⟩:=D_.mp z;cases (gL e:y=x);have:=hn.sublist<|eD (j+1) ks;rw[aJ,hx,bE]at this;exact this.2.2 _ hy _ (.head _) rfl
  have O:=c.put (.inl x)<|show Ba (.int 0) (.int 0 C) from⟨C,rfl⟩;rw[J4 hf,<- T]at O;have Z:kvs.length<=sizeLine:=by rw[<- c.length,C_,aY];exact K_ (lC _ _)<|K_ (by omega) (by decide:1000<=sizeLine)
  refine A_<|eX (J b o l) hd<|B_<|bB<|wpAny_dictSet_pairs (Cl prog w x t) V (λh2 d2 M=>B_ ⟨dF Ny _,Y (j+1) _ (i+1) _ (by omega) (W.frame _ _ _ ak λb hb o e=>(M.2 b λz=>p<|z ▸ hb).trans e) (λb o e=>(M.2 b<|X e).trans<|J b o e) O d2 q⟩) Z
def So{E:lP->lQ->Prop}{s:lQ}{p:lT}{l:oA lP}{m:Nat}{Q:lP->lQ->Prop}(M:A.handled=none)(hb:sysModules<s.heap.objs.size)(u:s.heap.get? p=some {cls:=.type "list",data:=.seq l.toArray m}) (hn:ks.Nodup) (he:ks.length=l.length) (hz:ks.length<=1000) (T:∀(i:Nat) (v:lP),l[i]?=some v->∃b o m k t S,v=.ref b/\ks[i]?=some k/\s.heap.get? b=some o/\o.cls=.type "tuple" /\ o.data=.seq #[.int k t,.int 0 S] m)
  (q:∀y L c,Fa s.heap y->KV (ks.map zk) c->y.DictOf (Az prog w) s.heap.objs.size c->Q (.ref s.heap.objs.size) {s with heap:=y,toks:=L}):qU prog w A (call (.type "dict") [.ref p]) Q E s:=by
 refine callType_codes (Q₁:=λB f=>B=.ref s.heap.objs.size/\f={s with heap:=s.heap.push {cls:=.type "dict",data:=.dict #[]}}) F.kt_called_dict (F.kt_typeCall_dict_1 _) F.entry_dict_init (kt_code_dict_new _ ⟨rfl,rfl⟩) ?_;rintro B f ⟨rfl,rfl⟩;have C:(s.heap.push {cls:=.type "dict",data:=.dict #[]}).DictOf (Az prog w) s.heap.objs.size []:=Heap.DictOf.new s.heap;refine⟨C.typeIs,F.args_dict_init_2 _ _,?_⟩;unfold Builtin.«dict.__init__»;refine A_ ?_;unfold Builtin.Dict.selfAndRest;refine A_<|fP C.typeIs ?_;refine(show wpAny _ _ (pure (s.heap.objs.size,[Value.ref p])) _ _ _ from B_<|show wpAny _ _ (Builtin.Dict.updateFrom "dict.__init__" s.heap.objs.size (.ref p) [] .none) _ _ _ from ?_);unfold Builtin.Dict.updateFrom;have N:∀t,(⟨s.heap.push {cls:=.type "dict",data:=.dict #[]},s.gens,s.drawn,t,s.os⟩:lQ).TypeIs (.ref p) "list" := λ_=>⟨_,DD _ u,rfl⟩;refine A_<|fG (N _) ?_;rw[N_<|by decide];refine A_ (HP (by exact M) (DD _ u) λh1 V x=>A_<|cV<|A_<|eE ⟨_,x _ _<|DD _ u,rfl,m,rfl⟩ ?_);have hp:p<s.heap.objs.size:=J_ u;have j:s.heap.objs.size<h1.objs.size:=by obtain⟨o,_,_,G,_⟩:=C;exact J_<|x _ _ G
 have H:∀{i:Nat} {v},l.toArray[i]?=some v->l[i]?=some v:=λ{i v} e=>by simpa using e
 refine B_ ⟨dF Ny _,CA (h0:=s.heap) (lM (show A.in1.in1.handled=none from M) h1.objs.size p (T_<|eV hp j) l.toArray) ?_ (G_ _) ?_ hn (by rw[he];simp) (by rw[aA,<- he];exact hz) (λi v hv=>T i v<|H hv) l.toArray.size 0 _ 0 [] (Nat.zero_add _) ⟨⟨_,H_ _ rfl,rfl,rfl⟩,_,DD _<|x _ _<|DD _ u,rfl,m,rfl⟩ (λb o e=>DD _<|x _ _<|DD _ e) .nil ?_ λy L c g J dd=>⟨rfl,q y L c g J dd⟩⟩
 ·intro z;rcases aB.mp z with z|z
  ·exact absurd z<|T_ j
  ·exact absurd (O_.mp z)<|fV hp
 ·exact λb hb=>by rw[O_.mp hb];exact cH j
 ·obtain⟨o,U,O,G,r⟩:=C;exact⟨o,U,O,DD _<|x _ _ G,r⟩
end
def CB:AC:=λd c R=>match d with
 |[.R a]=>∃b:oA Int,c a=some (.lst<|b.map λk=>.D<|.tuple [.int k,.int 0])/\b.Nodup/\b.length<=1000/\∀p,c p=none->R (.R p) (Al c p<|.dk<|b.map λk=>(.inl k,.D<|.int 0))
 |_=>False
theorem CC{K:lU}{H:Hp}:∀a:oA Int,Er K H (a.map λk=>(.inl k,.D<|.int 0)) (a.map zk)
 |[]=>.nil
 |_::a=>.cons ⟨rfl,Ci⟩<|CC a
def HQ{X:Cx}(J:X.calm=true):VCall X (.type "dict") CB:=by
 intro aa s σ H xs us Q I r E;refine B1 E λas μ R U hc h hq=>?_;unfold CB at h;split at h
 ·cases U with
  |cons r1 Y=>
   cases Y;obtain⟨ks,G,F,hz,h⟩:=h;obtain⟨o,B,W,rfl,A⟩:=hc _ _ G;cases (show _=V.ref _ from r1);obtain⟨u,rfl,T⟩:=Ex r;cases T;obtain⟨z,ae,n,p,e⟩:=(show Bg X.prog X.w H s.heap _ (.lst W) from I.hok _ _ B);have j:=A.length;rw[C_]at j;refine So (ks:=ks) (I.ok.hd J) I.big e F (j.trans p.length) hz (λi v hv=>?_) λh' tk L g k dd=>?_
   ·have q:i<ks.length:=by rw[j.trans p.length];exact(F_.mp hv).1
    obtain⟨y,hy,P⟩:=A.get (i:=i) (x:=.D<|.tuple [.int ks[i],.int 0]) (by rw[M_,E_ q];rfl);obtain⟨b,ys,rfl,hp,dk⟩:=RelA.tup P;obtain⟨v',hv',l⟩:=p.get hy;rw[hv]at hv';cases hv';cases l;obtain⟨M,c,⟨o,S,O,m,Z⟩,_⟩:=I.tuple hp.sq;obtain⟨x1,y1,rfl,d1,d⟩:=dk.cons;obtain⟨x2,y2,rfl,d2,f⟩:=d.cons;cases Dk.int d1;cases Dk.int d2;cases f.nil;cases c with
    |cons C c=>
     cases c with
     |cons N c=>cases c;obtain⟨t,rfl⟩:=C;obtain⟨t',rfl⟩:=N;exact⟨b,o,m,ks[i],t,t',rfl,E_ q,S,O,Z⟩
   ·exact⟨.ref s.heap.objs.size,_,I.laid (a:=s.heap.objs.size) (o:=.dK<|ks.map zk) g (G_ _)<|Q7 (by rw[C_];exact K_ hz<|by decide) (fF.mpr<|dI<|T_ I.big) k dd,rfl,hq _ _ _ _ (Kp.new (I.hok.fresh<|G_ _) _) (hc.new (I.hok.fresh<|G_ _)<|Tv<|CC ks) C7<|h _<|hc.none<|I.hok.fresh<|G_ _⟩
 ·exact h.elim
def fsb(N P:oA Str)(sc:mF):Bool:=sc.kind==.function && !sc.isCoroutine && !sc.isGenerator&&decide N.Nodup&&decide (N.take P.length=P)&&P.all (λx=>sc.names.lookup x==some .local||sc.names.lookup x==some .cell)&&sc.names.all λy=>y.2 != .free
def B5{N P:oA Str}{sc:mF}(h:fsb N P sc=true):FnScope N P sc:=by unfold fsb at h;simp only[Bool.and_eq_true,Bool.not_eq_true',beq_iff_eq,decide_eq_true_iff,List.all_eq_true,Bool.or_eq_true,bne_iff_ne]at h;exact⟨h.1.1.1.1.1.1,h.1.1.1.1.1.2,h.1.1.1.1.2,h.1.1.1.2,h.1.1.2,h.1.2,h.2⟩
end L2
namespace L2
open PySem PySem.Spec PyProof.Rows
end L2
abbrev oD(a:PySem.Addr):Option L2.AV:=some<|.R a
abbrev oE(a:Int):Option L2.AV:=some<|.D<|.int a
abbrev oF(a:PySem.PyData):Option L2.AV:=some<|.D a
abbrev oG(a:List L2.AV):Option L2.MO:=some<|.lst a
abbrev oJ:List PySem.Str:=["_law_deal_here","_law_many"]
abbrev oK:List PySem.Str:=["pairs"]
abbrev oM:List PySem.Str:=["_law_game_here","_law_begun","_law_ends","_law_spot","_law_k","_law_known"]
abbrev oN:List PySem.Str:=["groups","least"]
abbrev oO:List PySem.Str:=["tops"]
abbrev oP:List PySem.Str:=["pairs","least"]
abbrev oQ:List PySem.Str:=["_law_arrows","_law_ends","_law_pile"]
abbrev oR:List PySem.Str:=["_law_script"]
abbrev oS:List PySem.Str:=["self","most"]
abbrev oU:List PySem.Str:=["_law_script","_law_base"]
abbrev oV:List PySem.Str:=["_law_cell"]
abbrev oW:List PySem.Str:=["lows","bits"]
abbrev oX:List PySem.Str:=["cost","bits"]
abbrev oY:List PySem.Str:=["game","saying","most"]
abbrev oZ:List PySem.Str:=["_law_deal_here"]
abbrev qA:List PySem.Str:=["_law_rule"]
abbrev qB:List PySem.Str:=["_law_deal_here","_law_begin","_law_end"]
abbrev qC:List PySem.Str:=["_law_deal_here","_law_game_here"]
abbrev qD:List PySem.Str:=["_law_one"]
abbrev qE:List PySem.Str:=["_law_one","_law_found"]
abbrev qF:List PySem.Str:=["_law_target","_law_found"]
abbrev qG:List PySem.Str:=["_law_deal_here","_law_game_here","_law_saying_here","_law_arrows"]
abbrev qH:List PySem.Str:=["pairs","others"]
abbrev qI:List PySem.Str:=["tops","stand","w","least"]
abbrev qJ:List PySem.Str:=["game","tops","least"]
abbrev qK:List PySem.Str:=["kept","found"]
abbrev qL:List PySem.Str:=["kept","waiting"]
abbrev qM:List PySem.Str:=["groups","least","found","group"]
abbrev qN:List PySem.Str:=["rest_cost","rest_bits","cost"]
abbrev qO:List PySem.Str:=["_law_j","_law_letters","_law_deal_here"]
abbrev qP:List PySem.Str:=["_law_k","_law_words","_law_deal_here"]
abbrev qQ:List PySem.Str:=["_law_j","_law_deal_here","_law_signs"]
abbrev qR:List PySem.Str:=["_law_one","_law_stand","_law_top"]
abbrev qS:List PySem.Str:=["_law_rule","_law_place","_law_pile"]
abbrev qT:List PySem.Str:=["_law_k","_law_deal_here","_law_game_here"]
namespace K27
open PySem L2
def top(i:Nat):mC:=PySem.Challenge.pw_pileduel_k27_whole_read_just_what_is_bro.main.body.getD i<|.Pass ⟨0,0,0,0⟩
abbrev sAb:mC:=top 5
abbrev YH:mC:=top 6
abbrev sHw:mC:=top 7
abbrev sLa:mC:=top 8
abbrev sTh:mC:=top 9
abbrev sOa:mC:=top 10
abbrev sOe:mC:=top 11
abbrev sEe:mC:=top 12
abbrev sAt:mC:=top 14
abbrev UL:mC:=top 15
abbrev YI:mC:=top 17
abbrev YJ:mC:=top 18
abbrev YK:mC:=top 19
abbrev UM:mC:=top 20
abbrev sRt:mC:=top 21
abbrev UN:mC:=top 22
abbrev UO:mC:=top 23
abbrev UP:mC:=top 25
abbrev sDr:mC:=top 26
abbrev YL:mC:=top 27
abbrev OW:mC:=top 28
abbrev YM:mC:=top 29
abbrev YN:mC:=top 30
abbrev KA:mC:=top 31
abbrev OX:mC:=top 32
abbrev UQ:mC:=top 33
abbrev HR:mC:=top 34
section
variable {P:lV}{w:lW}{K:lU}{mg:Str->oB lP}{base:lZ}{f:lT}{fd:mD}
abbrev Xj:mC:=cdef<|top 2
abbrev Qbc:oA Str:=oS
def UR:FnScope Qbc oS (Ah Xj):=B5<|by decide +kernel
def OY{n:Nat}{C:lT}(F:Fun K "__init__" "TooMany.__init__" Xj f fd) (c:XCls K C) (d:Qz K C "most"):FnOk P w K mg base Eh (n+1) f fd oS (spI C ["most"]):=by
 refine F.ok UR (λm H Q E h=>?_) λv A g s H m Q E u h=>?_
 ·obtain⟨e,t,l,rfl,a,_⟩:=h;rw[aR,a];rfl
 obtain⟨e,t,l,rfl,a,he,q⟩:=h;obtain⟨r,rfl⟩:=Tw a;refine⟨_,Tc<|SG (pv 0) (pv 1) rfl,?_⟩;refine⟨_,rfl,_,rfl,e,C,t,rfl,he,c,d,λk p i=>?_⟩;refine q _ t k (λb o hb j=>?_) (by rw[Ao<|dI i,Bc]) Bc i;rw[Ao<|Bw j p,Ao hb];exact j
def G3(i:Int):AV:=.D<|.int i
def Gu(b a:Int)(l:lT):MO:=.dk [(.inr "seed",.D<|.int b),(.inr "number",.D<|.int a),(.inr "left",.R l)]
structure PotAt(μ:M)(a l:lT)(sd nm:Int)(ns:oA Int):Prop where
 ha:μ a=some (Gu sd nm l)
 hl:μ l=oG (ns.map G3)
 s0:0<=sd
 s1:sd<2147483648
 n0:0<=nm
 p0:∀n∈ns,0<=n
 ne:a≠l
def Pot(d:M)(a l:lT):Prop:=∃c b ns,PotAt d a l c b ns
def Qbd:(.inr "seed" : Key)≠.inr "number" := by decide +kernel
def Qbe:(.inr "seed" : Key)≠.inr "left" := by decide +kernel
def Qbf:(.inr "number" : Key)≠.inr "left" := by decide +kernel
def US:("seed" : Str) ≠ "number" := by decide +kernel
def Qbg:("seed" : Str) ≠ "left" := by decide +kernel
def Qbh:("number" : Str) ≠ "left" := by decide +kernel
def Sq{a b:Int}{l:lT}:dget (Gu a b l) (.str "seed")=some (oE a):=bR some Da
def KB{b a:Int}{l:lT}:dget (Gu b a l) (.str "number")=some (oE a):=bR some<|(Cp Qbd).trans Da
def CD{b a:Int}{l:lT}:dget (Gu b a l) (.str "left")=some (oD l):=bR some<|(Cp Qbe).trans<|(Cp Qbf).trans Da
def OZ{b a v:Int}{l:lT}:dput (Gu b a l) (.str "seed") (.D<|.int v)=some (Gu v a l):=by refine bR some<|bR MO.dk ?_;simp[Dr,US.symm,Qbg.symm]
def KC{a b v:Int}{l:lT}:dput (Gu a b l) (.str "number") (.D<|.int v)=some (Gu a v l):=by refine bR some<|bR MO.dk ?_;simp[Dr,US,Qbh.symm]
def Nz{b a:Int}{l:lT}:dsize (Gu b a l)<sizeLine:=A5 (n:=3)<|by decide
def Bo(a l:lT)(d c:M):Prop:=∀b m,b≠a->b≠l->d b=some m->c b=some m
def Bo.refl{a l:lT}{b:M}:Bo a l b b:=λ_ _ _ _ h=>h
def Bo.trans{a l:lT}{g c d:M}(h:Bo a l g c)(k:Bo a l c d):Bo a l g d:=λb m h1 h2 e=>k b m h1 h2<|h b m h1 h2 e
def Bo.new{a l p:lT}{d c:M}{o:MO}(h:Bo a l d c)(e:c p=none):Bo a l d (Al c p o):=λb m h1 h2 q=>by have:=h b m h1 h2 q;rw[Ad<|by intro z;subst z;rw[e]at this;cases this];exact this
def Bo.put{a l p:lT}{c d:M}{o:MO}(h:Bo a l c d)(e:c p=none):Bo a l c (Al d p o):=λb m h1 h2 q=>by rw[Ad<|by intro z;subst z;rw[e]at q;cases q];exact h b m h1 h2 q
def Bo.a{a l:lT}{d c:M}{o:MO}(h:Bo a l d c):Bo a l d (Al c a o):=λb m h1 h2 q=>by rw[Ad h1];exact h b m h1 h2 q
def Bo.l{a l:lT}{d c:M}{o:MO}(h:Bo a l d c):Bo a l d (Al c l o):=λb m h1 h2 q=>by rw[Ad h2];exact h b m h1 h2 q
theorem Bo.none{a l p:lT}{b c:M}(h:Bo a l b c)(h1:a≠p)(h2:l≠p)(e:c p=none):b p=none:=by
 cases q:b p with
 |none=>rfl
 |some m=>rw[h p m h1.symm h2.symm q]at e;cases e
def PotAt.other{d:M}{a l p:lT}{c b:Int}{ns:oA Int}{o:MO}(h:PotAt d a l c b ns)(h1:a≠p)(h2:l≠p):PotAt (Al d p o) a l c b ns :=
 ⟨by rw[Ad h1];exact h.ha,by rw[Ad h2];exact h.hl,h.s0,h.s1,h.n0,h.p0,h.ne⟩
def Pot.other{b:M}{a l p:lT}{o:MO}(h:Pot b a l)(h1:a≠p)(h2:l≠p):Pot (Al b p o) a l:=by obtain⟨d,c,ns,h⟩:=h;exact⟨d,c,ns,h.other h1 h2⟩
def Pot.ne{b:M}{a l p:lT}(h:Pot b a l)(e:b p=none):a≠p/\l≠p:=by obtain⟨d,c,ns,h⟩:=h;exact⟨λz=>by(subst z;rw[h.ha]at e;cases e),λz=>by(subst z;rw[h.hl]at e;cases e)⟩
def Pot.new{b:M}{a l p:lT}{o:MO}(h:Pot b a l)(e:b p=none):Pot (Al b p o) a l:=h.other (h.ne e).1 (h.ne e).2
abbrev nDr:oA Str:=["_law_deal_here","_law_many","_law_number","_law_one","_law_other"]
def HS:FnScope nDr oJ (Ah sDr):=B5<|by decide +kernel
def Xk:ASp:=λe d R=>∃(a l:lT) (c:Nat),e=[.R a,.D<|.int c]/\Pot d a l/\0<c/\c<=1000000/\∀(v:Nat) (b:M),v<c->Pot b a l->Bo a l d b->R (.D<|.int v) b
def PB{v:Int}{a:Nat}(h0:0<=v)(h1:v<a):∃n:Nat,v=n/\n<a:=⟨v.toNat,by omega,by omega⟩
def CF(x:Int){m:Int}(h:0<m):0<=x%m:=Int.emod_nonneg x<|by omega
def CG(x:Int){m:Int}(h:0<m)(h2:m<=2147483648):x%m<2147483648:=Int.lt_of_lt_of_le (kK x h) h2
def KD{x:Int}{a:Nat}{Q:Int->Prop}(h0:0<a)(h:∀v:Nat,v<a->Q v):Q (x%a):=by obtain⟨v,b,hv⟩:=PB (Int.emod_nonneg x<|show(a:Int)≠0 by omega) (kK x<|show 0<(a:Int) by omega);rw[b];exact h v hv
def UT{n:Nat}(F:Fun K "_law_draw" "_law_draw" sDr f fd) (G:mg "len" = none):FnOk P w K mg base Eh (n+1) f fd oJ (Gd K 2 Xk):=by
 refine F.vok HS λT A B s H E g=>⟨_,(Af (J1 aL (VW.pt<|Fk (Bd (Fv g) (C9 (Bx g) (vv 0) B9) Ag<|nomark _)<|Fj<|Bd Os (A7 Dt rfl G bP<|Aa (C9 (Bx g) (vv 0) B9) Ae) Ag<|nomark _)<|Ai<|Dl (Bx g) (vv 0) B9<|NH PySem.F.slot_list_pop PySem.F.type_list_pop SS<|C9 (Bx g) (vv 0) B9)<|Af (Aq (i:=2) HS.nd rfl oH<|C9 (Bx g) (vv 0) B9)<|Af (Ct (Bd Os (vv 2) Ag<|nomark _) (Af (Dl (Bx g) (vv 0) B9<|A8 Zb (vv 2)<|vv 1)<|Ai<|Bf<|A8 Gr (vv 2)<|vv 1) Bp)<|Af (Aq (i:=3) HS.nd rfl oH<|A8 Gr (A8 B4 (A8 L6 (C9 (Bx g) (vv 0) B9) Ag) Ag) Ag)<|Af (Dl (Bx g) (vv 0) B9<|A8 Gr (A8 B4 (A8 L6 (vv 3) Ag) Ag) Ag)<|Af (Aq (i:=4) HS.nd rfl oH<|A8 Gr (A8 L6 (C9 (Bx g) (vv 0) B9)<|C9 (Bx g) (vv 0) B9) Ag)<|Ai<|Bf<|A8 Gr (A8 B4 (A8 L6 (A8 Gr (A8 L6 (vv 3)<|vv 3) Ag) Ag)<|vv 4)<|vv 1),?_⟩
 rintro Y x R _ ⟨a,l,p,rfl,⟨e,d,ns,L⟩,C,h1,q⟩;refine Ay (λh b=>∃e d ns,h=[oD a,oE p,none,none,none]/\PotAt b a l e d ns/\Bo a l x b) (λZ r=>?_) ?_
 ·refine Ng (λm h b=>∃e d ns,h=[oD a,oE p,none,none,none]/\m=ns.length/\PotAt b a l e d ns/\Bo a l x b) ns.length ⟨e,d,ns,rfl,rfl,L,Bo.refl⟩ ?_;rintro m h b W ⟨e,d,ns,rfl,rfl,D,S⟩ u;refine Ac D.ha<|Ac KB<|Ac rfl<|ieq (λc=>?_) λc=>Hr rfl<|r _ _ ⟨e,d,ns,rfl,D,S⟩;refine Ac D.ha<|Ac CD<|Ac rfl<|Ac D.hl<|dif (λc2=>?_) λc2=>r _ _ ⟨e,d,ns,rfl,D,S⟩;have t:ns≠[]:=by rintro rfl;exact absurd c2<|by decide
  have N:(ns.map G3)[(ns.map G3).length-1]?=some (G3<|ns.getLast t):=by rw[<- List.getLast?_eq_getElem?,List.getLast?_map,List.getLast?_eq_some_getLast t];rfl
  have M:(ns.map G3).dropLast=ns.dropLast.map G3:=by rw[List.map_dropLast]
  have y:Al b l (.lst (ns.map G3).dropLast) a=some (Gu e d l):=by rw[Ad D.ne];exact D.ha
  have J:0<ns.length:=iD.mpr t;refine Ac D.ha (Ac CD<|Ac rfl ⟨Ac D.hl trivial,Ac D.hl<|Ac N<|Ac y<|Ac KC ⟨Nz,u ns.dropLast.length _ _ (by rw[List.length_dropLast];omega) ⟨e,ns.getLast t,ns.dropLast,rfl,rfl,?_,S.l.a⟩⟩⟩);exact⟨Ab,by rw[Ad D.ne.symm,Ab,M],D.s0,D.s1,D.p0 _<|List.getLast_mem t,λz hz=>D.p0 z<|(List.dropLast_sublist ns).subset hz,D.ne⟩
 ·rintro h b ⟨e,d,ns,rfl,D,S⟩;refine Cr<|Ac D.ha<|Ac KB<|Ac rfl<|Cr<|dif (λc=>?_) λc=>?_
  ·refine Cr ⟨⟨by omega,by omega⟩,Ac D.ha<|Ac KC ⟨Nz,(by show(0:Int)<_;omega),_,Sub.refl,?_⟩⟩;refine KD (Q:=λi=>R (.D<|.int i) _) C λv hv=>?_;exact q v _ hv ⟨e,d / p,ns,Ab,by rw[Ad D.ne.symm];exact D.hl,D.s0,D.s1,Int.ediv_nonneg D.n0<|dB _,D.p0,D.ne⟩ S.a
  ·refine Ay (λh j=>∃one:Int,h=[oD a,oE p,oE d,oE one,none]/\b=j/\0<=one/\one<2147483648) (λW u=>?_) ?_
   ·exact Ac D.ha<|Ac Sq<|Ac rfl ⟨.inr ⟨by decide,by decide⟩,(by show(0:Int)<_;decide),u _ _ ⟨_,rfl,rfl,CF _<|by decide,CG _ (by decide)<|by decide⟩⟩
   rintro h j ⟨one,rfl,rfl,o0,X⟩;refine Ay (λh j=>∃k:Int,h=[oD a,oE p,oE d,oE one,none]/\PotAt j a l k d ns/\Bo a l x j) (λW u=>?_) ?_
   ·exact⟨.inr ⟨by decide,by decide⟩,(by show(0:Int)<_;decide),Ac D.ha<|Ac OZ ⟨Nz,u _ _ ⟨_,rfl,⟨Ab,by rw[Ad D.ne.symm];exact D.hl,CF _<|by decide,CG _ (by decide)<|by decide,D.n0,D.p0,D.ne⟩,S.a⟩⟩⟩
   rintro h O ⟨k,rfl,o,I⟩;have V:=o.s0;have U:=o.s1;refine Cr (Ac o.ha<|Ac Sq<|Ac rfl<|Ac o.ha<|Ac Sq<|Ac rfl ⟨.inl ⟨by omega,by omega⟩,(by show(0:Int)<_;decide),?_⟩);refine⟨.inl ⟨by omega,by omega⟩,(by show(0:Int)<_;decide),.inr ⟨by decide,by decide⟩,(by show(0:Int)<_;omega),_,Sub.refl,?_⟩;exact KD (Q:=λi=>R (.D<|.int i) _) C λv hv=>q v _ hv ⟨k,d,ns,o⟩ I
abbrev nDe:oA Str:=["_law_script","_law_base","_law_cell","_law_cells","_law_number"]
def CH:FnScope nDe oU (Ah UP):=B5<|by decide +kernel
def UU:(oV:oA Str).Nodup:=by decide +kernel
def UV:(oV:oA Str).Nodup:=by decide +kernel
def Ku(ns:oA Int):lR:=.list<|ns.map .int
def Xl(a:M)(ns:oA Int):items a (.D<|Ku ns)=some (ns.map G3):=by show some ((ns.map PyData.int).map AV.D)=_;rw[X_];rfl
def CI{a:Type}(g:a->AV)(xs:oA a)(lo b:oB Int):∃c:oA a,Re (xs.map g) lo b=c.map g/\c.length<=xs.length:=by
 refine⟨(xs.drop<|HT.sIx (xs.map g).length 0 lo).take<|HT.sIx (xs.map g).length (xs.map g).length b-HT.sIx (xs.map g).length 0 lo,?_,?_⟩
 ·unfold Re;rw[<- k_,<- kZ]
 ·rw[aY,gE];omega
def PD:ASp:=λe d R=>∃(ns:oA Int) (b:Nat),e=[.D<|Ku ns,.D<|.int b]/\b<1000/\ns.length<=63/\∀(a l:lT) (c:M),d a=none->d l=none->Pot c a l->Sub d c->R (.R a) c
def Sr(i:Int):Int:=if 0-i>i then 0-i else i
def PF(i:Int):0<=Sr i:=by unfold Sr;split<;>omega
def UW{n:Nat}(F:Fun K "_law_deal" "_law_deal" UP f fd) (cq:mg "max" = none) (cy:mg "list" = none) (be:mg "reversed" = none):FnOk P w K mg base Eh (n+1) f fd oU (Gd K 2 PD):=by
 refine F.vok CH λaq A S s H E hr=>⟨_,(Af (Dc (i:=3) (N':=oV) (mp:=[none]) rfl CH.nd rfl rfl (Bb<|Cs (vv 0) (C0<|vv 1)<|C0 Ag) (λ_ _ _ _=>(Aj (i:=0) UU rfl oH oI)) (λ_ _ _ _=>Bj) (λ_ _ _ _=>(A7 (Zd rfl) rfl cq jI<|Aa (vv 0)<|Aa (A8 JF Ag<|vv 0) Ae))<|Ap (N:=nDe) (pn:=(Ah UP).names)<|by decide +kernel)<|Af (Aq (i:=4) CH.nd rfl oH<|A8 B4 Ag<|vv 1)<|Af (Cf aL rfl (Bb<|vv 3) (Aj (i:=2) CH.nd rfl oH)<|Ai<|Aq (i:=4) CH.nd rfl oH<|A8 Gr (A8 B4 (A8 L6 (vv 4) Ag)<|A8 Gr (vv 2) Ag) Ag)<|Ai<|Bf<|GB (Nk (vv 4)<|Nk Ag<|Nk (GK rfl rfl cy rfl be<|Bk (N':=oV) (mp:=[none]) rfl (Bb<|vv 3) (λ_ _ _ _=>(Aj (i:=0) UV rfl oH oI)) (λ_ _ _ _=>(Cm<|Bd Qaa (vv 0) (A8 SK Ag Ag)<|nomark _)) (λ_ _ _ _=>(vv 0))<|Ap (N:=nDe) (pn:=(Ah UP).names)<|by decide +kernel) GA)<|by decide +kernel),?_⟩
 rintro T μ R _ ⟨ns,b,rfl,hb,hn,q⟩;obtain⟨J,ecs,bj⟩:=CI G3 ns (some (b:Int))<|some 63;refine Ay (λe B=>∃h,e=[oF<|Ku ns,oE b,none,oD h,none]/\μ h=none/\B h=oG ((J.map Sr).map G3)/\Sub μ B) (λW G=>?_) ?_
 ·refine Ac (Xl _ ns) λp hp=>?_;rw[ecs];refine Ac (Ak Ab) λh m=>?_;have Q:p≠h:=by intro z;subst z;rw[Ab]at m;cases m
  have U:μ h=none:=by rw[Ad Q.symm]at m;exact m
  refine cmap J G3 (λi=>G3<|Sr i) (λe=>∃o,e=[o]) ⟨_,rfl⟩ Ab (seven<|by omega) (λu=>Ak<|by rw[Ad Q,Ad Q,Ab]) ?_ ?_
  ·rintro i x X u W2 hi ⟨o,rfl⟩ hW2;exact hW2 _ ⟨_,rfl⟩
  ·refine G _ _ ⟨h,rfl,U,?_,((Sub.refl.new hp).new U).new U⟩;rw[Ab,X_];rfl
 rintro e k ⟨h,rfl,gr,m,r⟩;refine Ay (λe d=>∃g:Int,e=[oF<|Ku ns,oE b,none,oD h,oE g]/\k=d/\0<=g/\g<2147483648) (λW G=>id<|G _ _ ⟨_,rfl,rfl,by omega,by omega⟩) ?_;rintro e d ⟨sd0,rfl,rfl,z0,z1⟩;refine Ay (λe d=>∃(t:oB AV) (g:Int),e=[oF<|Ku ns,oE b,t,oD h,oE g]/\k=d/\0<=g/\g<2147483648) (λW G=>?_) ?_
 ·refine Ac (Ak m) ?_;refine C8 (λi e d=>∃(t:oB AV) (g:Int),e=[oF<|Ku ns,oE b,t,oD h,oE g]/\k=d/\0<=g/\g<2147483648) ⟨none,sd0,rfl,rfl,z0,z1⟩ ?_ ?_ ?_
  ·rintro i e d ⟨t,g,rfl,rfl,_⟩;exact Ak m
  ·rintro i y e d W2 hy ⟨t,g,rfl,rfl,O,h1⟩ hW2;rw[M_]at hy;obtain⟨c,hc,rfl⟩:=L_.mp hy;exact⟨.inr ⟨by decide,by decide⟩,(by show(0:Int)<_;decide),(by show(0:Int)<_;decide),hW2 _ _ ⟨_,_,rfl,rfl,CF _<|by decide,CG _ (by decide)<|by decide⟩⟩
  ·rintro e d ⟨t,g,rfl,rfl,O,h1⟩;exact G _ _ ⟨_,_,rfl,rfl,O,h1⟩
 rintro e d ⟨t,g,rfl,rfl,O,h1⟩;intro a ha;have V:a≠h:=by intro z;subst z;rw[m]at ha;cases ha
 have Z:Al k a (.dk []) h=oG ((J.map Sr).map G3):=by rw[Ad V.symm];exact m
 refine Ac (Ak Z) λM j=>?_;have I:a≠M:=by intro z;subst z;rw[Ab]at j;cases j
 have xy:h≠M:=by intro z;subst z;rw[Z]at j;cases j
 have w9:k M=none:=by rw[Ad I.symm]at j;exact j
 refine cmapf (J.map Sr) G3 (λx=>decide ((10:Int)^(18:Int).toNat<=x)) G3 (λe=>∃o,e=[o]) ⟨none,rfl⟩ Ab (seven<|by rw[C_];omega) (λu=>Ak<|by rw[Ad xy,Ad xy];exact Z) ?_ ?_
 ·rintro i x X u W2 W3 hi ⟨o,rfl⟩ h2 h3;exact⟨⟨by decide,by decide,by decide⟩,br (λc=>h2 c _ ⟨_,rfl⟩) λc=>h3 c _ ⟨_,rfl⟩⟩
 generalize ji:(J.map Sr).filter (λx=>decide ((10:Int)^(18:Int).toNat<=x))=T;have Y:∀x∈T,0<=x:=λx hx=>by rw[<- ji]at hx;obtain⟨z,_,rfl⟩:=D_.mp (a_.mp hx).1;exact PF z
 refine Ac Ab λl v=>?_;have dz:M≠l:=by intro z;subst z;rw[Ab]at v;cases v
 have L:a≠l:=by intro z;subst z;rw[Ad I,Ad I,Ab]at v;cases v
 have C:k l=none:=by rw[Ad dz.symm,Ad dz.symm,Ad L.symm]at v;exact v
 refine⟨by rw[Ad L,Ad I,Ad I,Ab],_,Sub.refl,q a l _ (r.none ha) (r.none C) ⟨g,0,T.reverse,Ab,?_,O,h1,gM 0,λz hz=>Y z<|List.mem_reverse.mp hz,L⟩ ?_⟩
 ·rw[Ad L.symm,Ab,List.map_reverse]
 ·exact((((r.new<|r.none ha).new<|r.none w9).new<|r.none w9).new<|r.none C).new<|r.none ha
def Av(ns:oA Nat):lR:=.tuple<|ns.map λ(n:Nat)=>.int n
theorem Fo{a:Type} [DecidableEq a]:∀{xs ys:oA a},xs.Nodup->(∀x∈xs,x∈ys)->xs.length<=ys.length
 |[],_,_,_=>aE _
 |x::xs,ys,d,h=>by have hx:=h x aV;obtain⟨c,b⟩:=dL.mp d;have:=Fo (xs:=xs) (ys:=ys.erase x) b λz hz=>(List.mem_erase_of_ne<|by rintro rfl;exact c hz).mpr<|h z<|aM _ hz;rw[List.length_erase_of_mem hx]at this;have hp:0<ys.length:=jB hx;simp only[List.length_cons];omega
def Hi{l:Type} [DecidableEq l](k g:l)(v:AV):∀(kvs:oA<|l×AV),Bu (Dr kvs k v) g=if g=k then some v else Bu kvs g:=by
 intro kvs;unfold Dr;split
 ·rename_i h
  induction kvs with
  |nil=>simp at h
  |cons d kvs j=>
   rw[aP];by_cases e:d.1=k
   ·rw[N_ e];by_cases c:g=k
    ·rw[N_ c,c,e];exact Da
    ·rw[I_ c];obtain⟨a,b⟩:=d;have n:a=k:=e;subst n;rw[Cp<|dI c,Cp<|dI c];by_cases h2:(kvs.any λd=>decide (d.1=a))=true
     ·rw[j h2,I_ c]
     ·congr 1
      refine(iE λz hz=>?_).trans<|List.map_id kvs;rw[I_]
      ·rfl
      ·intro m;exact h2<|dO.mpr ⟨z,hz,aZ m⟩
   ·rw[I_ e];obtain⟨a,b⟩:=d;have h2:(kvs.any λd=>decide (d.1=k))=true:=by
     rw[dX,aS e,kX]at h;exact h
    by_cases i:a=g
    ·subst i;rw[Da,I_ e];exact Da.symm
    ·rw[Cp i,Cp i,j h2]
 ·rename_i h
  induction kvs with
  |nil=>
   by_cases c:g=k
   ·rw[N_ c,c];exact Da
   ·rw[I_ c];show Bu ((k,v)::[]) g=_;rw[Cp<|dI c]
  |cons d kvs j=>
   obtain⟨a,b⟩:=d;have h1:a≠k:=by intro z;apply h;rw[dX,aZ z];rfl
   have h2:¬(kvs.any λd=>decide (d.1=k))=true:=by intro z;apply h;rw[dX,z,Bool.or_true]
   show Bu ((a,b)::(kvs++[(k,v)])) g=_;by_cases i:a=g
   ·subst i;rw[Da,I_ h1];exact Da.symm
   ·rw[Cp i,j h2,Cp i]
def Cg{a:M}(ns:oA Nat):items a (.D<|Av ns)=some (ns.map λ(n:Nat)=>.D<|.int n):=by show some ((ns.map λ(n:Nat)=>PyData.int n).map AV.D)=_;rw[X_];rfl
def N0{ns:oA Nat}:PyData.canLayAll0 (ns.map λ(n:Nat)=>.int n)=true/\PyData.depthAll (ns.map λ(n:Nat)=>.int n)<=1:=by
 induction ns with
 |nil=>exact⟨rfl,by simp[PyData.depthAll]⟩
 |cons n ns a=>simp only[List.map_cons,PyData.canLayAll0,PyData.depthAll,a.1,Bool.and_true];refine⟨rfl,?_⟩;have:=a.2;simp only[PyData.depth];omega
def CJ{a:Type}{L:oA a}{g:a->Bool}{i:Nat}{x:a}(h:L[i]?=some x):(L.take<|i+1).any g=((L.take i).any g||g x):=by rw[aJ,h,List.any_append];simp
def Kv{a:Type} [DecidableEq a](kvs:oA<|a×AV)(k:a)(v:AV):(Dr kvs k v).length<=kvs.length+1:=by
 unfold Dr;split
 ·rw[C_];omega
 ·rw[R_];exact G_ _
def Bt(n:Nat):AV:=.D<|.int n
def Ec(ns:oA Nat):dats (ns.map Bt)=some (ns.map λ(n:Nat)=>.int n):=by rw[show ns.map Bt=(ns.map λ(n:Nat)=>PyData.int n).map .D by rw[X_];rfl];exact B8 _
theorem Ic:∀(ns:oA Nat),A6 (ns.map λ(n:Nat)=>.int n)=true
 |[]=>rfl
 |n::ns=>by simp only[List.map_cons,A6,Cano,Ic ns,Bool.and_self]
theorem Px:∀(a ns:oA Nat),cmpbs (a.map λ(n:Nat)=>.int n) (ns.map λ(n:Nat)=>.int n)=true
 |[],_=>by simp only[List.map_nil,cmpbs]
 |_::_,[]=>by simp only[List.map_nil,List.map_cons,cmpbs]
 |m::a,n::ns=>by simp only[List.map_cons,cmpbs,cmpb,Px a ns,ite_self]
def PH{x:AV}{i:Nat}{u:AS}{k:ASt->M->Prop}{r:AV->M->Prop}{b c:ASt->M->Prop}{τ:ASt}{a:M}(h:u k r b c (τ.set i<|some x) a):We (Lh (vC x)<|Dd i) u k r b c τ a:=h
def Uu(m n:Nat):Builtin.bitOr (m:Int) (n:Int)=((m |||n:Nat):Int):=by
 have a:∀k:Nat,Builtin.bitNot (k:Int)=-(k:Int)-1:=λ_=>rfl;unfold Builtin.bitOr;rw[a,a];unfold Builtin.bitAnd;rw[aS<|by omega,aS<|by omega];show Builtin.bitNot (Builtin.bitNot (((Builtin.bitNot<|-(m:Int)-1).toNat ||| (Builtin.bitNot<|-(n:Int)-1).toNat:Nat):Int))=_;have b:∀k:Nat,(Builtin.bitNot<|-(k:Int)-1).toNat=k:=λk=>by show(-(-(k:Int)-1)-1).toNat=k;omega
 rw[b,b];show -(-((m |||n:Nat):Int)-1)-1=_;omega
def CK(m n:Nat):Builtin.bitAnd (m:Int) (n:Int)=((m &&& n:Nat):Int):=by
 unfold Builtin.bitAnd;rw[aZ<|dB _,aZ<|dB _]
 rfl
def bts:oA Nat->Nat:=List.foldl (λb k=>b ||| 2^k) 0
abbrev nAb:oA Str:=["stands","bits","stand"]
def HU:FnScope nAb ["stands"] (Ah sAb):=B5<|by decide +kernel
def PJ:ASp:=λb a R=>∃(x:AV) (ts:oA Nat),b=[x]/\items a x=some (ts.map Bt)/\(∀t∈ts,t<60)/\R (.D<|.int (bts ts:Nat)) a
def UX{n:Nat}(F:Fun K "as_bits" "as_bits" sAb f fd):FnOk P w K mg base Eh (n+1) f fd ["stands"] (Gd K 1 PJ):=by
 refine F.vok HU λm A d s H E o=>⟨_,(Af (Aq (i:=1) HU.nd rfl oH Ag)<|Af (Cf aL rfl (Bb<|vv 0) (Aj (i:=2) HU.nd rfl oH)<|Ai<|Aq (i:=1) HU.nd rfl oH<|A8 JT (vv 1)<|A8 TV Ag<|vv 2)<|Ai<|Bf<|vv 1),?_⟩
 rintro p g R _ ⟨x,ts,rfl,hx,j,q⟩;refine PH<|Ay (λc a=>∃b,c=[some x,oE (bts ts:Nat),b]/\g=a) (λZ k=>?_) ?_
 ·refine Ac hx ?_;refine C8 (λi c a=>∃b,c=[some x,oE (bts (ts.take i):Nat),b]/\g=a) ⟨none,rfl,rfl⟩ (by rintro _ _ _ ⟨_,_,e⟩;subst e;exact hx) ?_ ?_
  ·rintro i y c _ l hy ⟨b,rfl,rfl⟩ hZ2;rw[M_]at hy;obtain⟨t,h1,rfl⟩:=L_.mp hy;have h:=j t<|V_ h1;refine⟨⟨dB _,by omega,by decide⟩,hZ2 _ _ ⟨some<|Bt t,?_,rfl⟩⟩;have e:Builtin.bitOr (bts (ts.take i):Nat) (1*2^(t:Int).toNat)=((bts (ts.take<|i+1):Nat):Int):=by
    rw[Int.one_mul,e_,show((2:Int)^t)=((2^t:Nat):Int) by rw[Int.natCast_pow];rfl,Uu,aJ,h1];unfold bts;rw[List.foldl_append];rfl
   rw[<- e];rfl
  ·rintro c _ ⟨b,rfl,rfl⟩;rw[C_,aK];exact k _ _ ⟨_,rfl,rfl⟩
 rintro c _ ⟨b,rfl,rfl⟩;exact⟨_,Sub.refl,q⟩
def HV(k:Nat):Et 0 k=(List.range k).map Bt:=by
 refine gZ λj=>?_;rcases bN j k with h|h
 ·have h1:j<(Et 0 k).length:=by rw[Bm];exact h
  rw[E_ h1,G8 _ _ _<|E_ h1,M_,List.getElem?_range h];show some _=some (Bt j);unfold Bt;rw[Int.zero_add]
 ·rw[dU<|by rw[Bm];exact h,dU<|by rw[C_,dS];exact h]
def B3(n:Nat):oA Nat:=(List.range 5).filter λk=>n.testBit k
abbrev nAs:oA Str:=["bits"]
def Qbj:FnScope nAs ["bits"] (Ah YH):=B5<|by decide +kernel
def UY:(["stand","bits"]:oA Str).Nodup:=by decide +kernel
def PK:ASp:=λb c R=>∃(n:Nat),b=[.D<|.int n]/\n<32/\∀ a,Sub c a->R (.D<|Av<|B3 n) a
def UZ{n:Nat}(F:Fun K "as_stands" "as_stands" YH f fd) (t:mg "tuple" = none) (p:mg "range" = none):FnOk P w K mg base Eh (n+1) f fd ["bits"] (Gd K 1 PK):=by
 refine F.vok Qbj λy A g s H E u=>⟨_,(Ai<|Bf<|Ca Du rfl t b_<|Aa (Bk (N':=["stand","bits"]) (mp:=[none,some 0]) rfl (Ch rfl p<|Aa (OK PyProof.Rows.slot_int_bit_length PyProof.Rows.type_int_bit_length OJ<|vv 0) Ae) (λ_ _ _ _=>(Aj (i:=0) UY rfl oH oI)) (λ_ _ _ _=>(Cm<|Bd (Fv u) (A8 BC (A8 TW (vv 1)<|vv 0) Ag) Ag<|nomark _)) (λ_ _ _ _=>(vv 0))<|Ap (N:=nAs) (pn:=(Ah YH).names)<|by decide +kernel) Ae),?_⟩;rintro C G R _ ⟨n,rfl,m,q⟩;have hb:∀n:Fin 32,Builtin.Int.intBits ((n.val:Nat):Int)<=5/\(List.range<|Builtin.Int.intBits ((n.val:Nat):Int)).filter (λk=>n.val.testBit k)=B3 n.val:=by decide +kernel
 obtain⟨b,a⟩:=hb ⟨n,m⟩;have b:Builtin.Int.intBits (n:Int)<=5:=b;have a:(List.range<|Builtin.Int.intBits (n:Int)).filter (λk=>n.testBit k)=B3 n:=a;refine⟨trivial,by omega,by omega,λz d=>?_⟩;rw[e_,HV];refine cmapf (List.range<|Builtin.Int.intBits (n:Int)) Bt (λk=>n.testBit k) Bt (λx=>∃o,x=[o,oE n]) ⟨none,rfl⟩ Ab (seven<|by rw[dS];omega) (λ_=>trivial) ?_ ?_
 ·rintro i k l v W B hk ⟨o,rfl⟩ w1 w2;have e:Builtin.bitAnd ((n:Int) / 2^(k:Int).toNat) 1=((n / 2^k%2:Nat):Int):=by
   rw[e_,show((n:Int) / 2^k)=((n / 2^k:Nat):Int) by rw[Int.natCast_ediv,Int.natCast_pow];rfl,show(1:Int)=((1:Nat):Int) from rfl,CK,Nat.and_one_is_mod]
  have r:n.testBit k=decide (n / 2^k%2=1):=Nat.testBit_eq_decide_div_mod_eq;have j:PyData.eqv (.int<|Builtin.bitAnd ((n:Int) / 2^(k:Int).toNat) 1) (.int 1)=n.testBit k:=by rw[e,Nh,r];exact decide_eq_decide.mpr ⟨λh=>by omega,λh=>by omega⟩
  exact⟨dB _,Bn _,Bn _,br (λc=>w1 (j.symm.trans c) _ ⟨_,rfl⟩) λc=>w2 (j.symm.trans c) _ ⟨_,rfl⟩⟩
 ·rw[a];refine Ac (Ak Ab)<|Ac (Ec _) ⟨_,Sub.refl,q _<|(Sub.refl.new d).new d⟩
def PL{n:Nat}(h:n<=300000):n<sizeLine:=eL h<|by decide
abbrev Pr:=Nat×Nat
def Gm(p:Pr):lR:=.tuple [.int (p.1:Nat),.int (p.2:Nat)]
def A4(p:Pr):AV:=.D<|Gm p
def ewe(p o:Pr):Pr:=(max p.1 o.1,p.2 |||o.2)
def Py(p:Pr):oA Key×AV:=([.inl (p.1:Nat),.inl (p.2:Nat)],.D<|.bool true)
def adz(a:oA Pr)(z:Pr):oA Pr:=if z∈a then a else a++[z]
def PM{p q:Pr}(h:(Py p).1=(Py q).1):p=q:=by obtain⟨a,b⟩:=p;obtain⟨c,d⟩:=q;have h:([.inl ((a:Nat):Int),.inl ((b:Nat):Int)]:oA Key)=[.inl ((c:Nat):Int),.inl ((d:Nat):Int)]:=h;injection h with h1 h2;injection h2 with h2 _;have h1:=dZ<|gL h1;have h2:=dZ<|gL h2;rw[h1,h2]
def PN(b:oA Pr)(z:Pr):Dr (b.map Py) (Py z).1 (.D<|.bool true)=(adz b z).map Py:=by
 unfold Dr adz;by_cases h:z∈b
 ·rw[N_<|dO.mpr ⟨Py z,D_.mpr ⟨z,h,rfl⟩,aZ rfl⟩,N_ h,X_];refine iE λp _=>?_;show(if(Py p).1=(Py z).1 then((Py p).1,AV.D<|.bool true) else Py p)=Py p;split<;>rfl
 ·rw[I_,I_ h,P_]
  ·rfl
  ·intro a;obtain⟨c,h1,h2⟩:=dO.mp a;obtain⟨p,hp,rfl⟩:=D_.mp h1;rw[<- PM (aQ h2)]at h;exact h hp
def HW{a:oA Pr}{z y:Pr}:y∈adz a z↔y∈a\/y=z:=by
 unfold adz;split
 ·rename_i h;exact⟨.inl,λc=>c.elim id λe=>by rw[e];exact h⟩
 ·rw[S_,O_]
def PP{c:oA Pr}{z:Pr}(h:c.Nodup):(adz c z).Nodup:=by
 unfold adz;split
 ·exact h
 ·rename_i d;exact bE.mpr ⟨h,dL.mpr ⟨by simp,cX⟩,λa ha b hb e=>d<|by rw[O_.mp hb]at e;rw[<- e];exact ha⟩
def HX(a:oA Pr)(z:Pr):(adz a z).length<=a.length+1:=by
 unfold adz;split
 ·exact eA _
 ·rw[R_];exact G_ _
def Pz{a b:lR}{i j:Nat}{τ:ASt}{c:M}{R:ASt->M->Prop}(h:R ((τ.set i<|oF a).set j<|oF b) c):E6 (Dd i) (E6 (Dd j) Ou) (List.map AV.D [a,b]) τ c R:=h
def Bq{c b:M}{x:AV}{g:oA AV}(h:items c x=some g)(S:Sub c b):items b x=some g:=by
 cases x with
 |R a=>
  have h:(match c a with|some (.lst i)=>some i|_=>none)=some g:=h;cases e:c a with
  |none=>rw[e]at h;cases h
  |some m=>
   rw[e]at h;cases m with
   |lst i=>cases h;exact Ak (S a _ e)
   |_=>cases h
 |D d=>cases d<;>exact h
 |_=>exact h
abbrev nEe:oA Str:=["pairs","others","found","cost","bits","other_cost","other_bits"]
def Xm:FnScope nEe qH (Ah sEe):=B5<|by decide +kernel
def VB:ASp:=λc b R=>∃(x y:AV) (P O:oA Pr),c=[x,y]/\items b x=some (P.map A4)/\items b y=some (O.map A4)/\P.length*O.length<=200000/\∀(a:oA Pr) (l:lT) μ',(∀z,z∈a↔∃p∈P,∃o∈O,z=ewe p o)->a.Nodup->a.length<=P.length*O.length->b l=none->μ' l=oG (a.map A4)->Sub b μ'->R (.R l) μ'
def VC{n:Nat}(F:Fun K "each_with_each" "each_with_each" sEe f fd) (cq:mg "max" = none) (cy:mg "list" = none):FnOk P w K mg base Eh (n+1) f fd qH (Gd K 2 VB):=by
 refine F.vok Xm λaq A S s H E hr=>⟨_,(Af (Aq (i:=2) Xm.nd rfl oH E7)<|Af (Cf aL rfl (Bb<|vv 0) (Es (n:=2) rfl<|Aw (Aj (i:=3) Xm.nd rfl oH)<|Aw (Aj (i:=4) Xm.nd rfl oH) B7)<|Ai<|Cf aL rfl (Bb<|vv 1) (Es (n:=2) rfl<|Aw (Aj (i:=5) Xm.nd rfl oH)<|Aw (Aj (i:=6) Xm.nd rfl oH) B7)<|Ai<|Dl (Bx hr) (vv 2) (Bl<|Aa (A7 (Zd rfl) rfl cq jI<|Aa (vv 3)<|Aa (vv 5) Ae)<|Aa (A8 JT (vv 4)<|vv 6) Ae) E3)<|Ai<|Bf<|Ca (HI rfl) rfl cy PyProof.Rows.boot_list<|Aa (vv 2) Ae),?_⟩
 rintro xs t R _ ⟨x,y,P,O,rfl,hx,hy,hn,q⟩;intro d B;have X:Sub t (Al t d<|.dt []):=Sub.refl.new B;refine Ay (λr g=>∃J I k m,∃a:oA Pr,r=[some x,some y,oD d,J,I,k,m]/\(∀z,z∈a↔∃p∈P,∃o∈O,z=ewe p o)/\a.Nodup/\a.length<=P.length*O.length/\g=Al t d (.dt<|a.map Py)) (λZ hZ=>?_) ?_
 ·refine Ac (Bq hx X) ?_;refine C8 (λi r g=>∃J I k m,∃a:oA Pr,r=[some x,some y,oD d,J,I,k,m]/\(∀z,z∈a↔∃p∈P.take i,∃o∈O,z=ewe p o)/\a.Nodup/\a.length<=i*O.length/\g=Al t d (.dt<|a.map Py)) ⟨none,none,none,none,[],rfl,by simp,cX,aE _,rfl⟩ (by rintro _ _ _ ⟨_,_,_,_,_,_,_,_,_,e⟩;subst e;exact Bq hx<|Sub.refl.new B) ?_ ?_
  ·rintro i v r _ Z2 hv ⟨J,I,k,m,a,rfl,C,hnd,G,rfl⟩ hZ2;rw[M_]at hv;obtain⟨p,hp,rfl⟩:=L_.mp hv;have hi:=(F_.mp hp).1;have W:P.take (i+1)=P.take i++[p]:=by rw[aJ,hp];rfl
   refine⟨rfl,Pz ?_⟩;dsimp only[List.set];refine Ac (Bq hy<|Sub.refl.new B) ?_;have z4:(i+1)*O.length<=P.length*O.length:=jU _ hi;have mf:(i+1)*O.length=i*O.length+O.length:=Nat.succ_mul _ _;refine C8 (λj r g=>∃k m,∃b:oA Pr,r=[some x,some y,oD d,oE (p.1:Nat),oE (p.2:Nat),k,m]/\(∀z,z∈b↔z∈a\/∃o∈O.take j,z=ewe p o)/\b.Nodup/\b.length<=i*O.length+j/\g=Al t d (.dt<|b.map Py)) ⟨k,m,a,rfl,by simp,hnd,G,rfl⟩ (by rintro _ _ _ ⟨_,_,_,_,_,_,_,e⟩;subst e;exact Bq hy<|Sub.refl.new B) ?_ ?_
   ·rintro j u r _ Z3 hu ⟨k,m,b,rfl,L,c,V,rfl⟩ a9;rw[M_]at hu;obtain⟨o,U,rfl⟩:=L_.mp hu;have hj:=(F_.mp U).1;have N:O.take (j+1)=O.take j++[o]:=by rw[aJ,U];rfl
    refine⟨rfl,Pz ?_⟩;dsimp only[List.set];have ec:(if((o.1:Nat):Int)>((p.1:Nat):Int) then((o.1:Nat):Int) else((p.1:Nat):Int))=(((ewe p o).1:Nat):Int):=by show _=((max p.1 o.1:Nat):Int);split<;>omega
    have eb:Builtin.bitOr ((p.2:Nat):Int) ((o.2:Nat):Int)=(((ewe p o).2:Nat):Int):=Uu _ _;have Y:dput (.dt<|b.map Py) (.tuple [.int<|if((o.1:Nat):Int)>((p.1:Nat):Int) then((o.1:Nat):Int) else((p.1:Nat):Int),.int<|Builtin.bitOr ((p.2:Nat):Int) ((o.2:Nat):Int)]) (.D<|.bool true)=some (.dt<|(adz b<|ewe p o).map Py):=by rw[ec,eb,<- PN];rfl
    refine Ac Ab<|Ac Y ⟨PL<|show(b.map Py).length<=300000 by rw[C_];omega,a9 _ _ ⟨_,_,adz b<|ewe p o,rfl,λz=>?_,PP c,?_,?_⟩⟩
    ·rw[HW,L,N];constructor
     ·rintro((h|⟨Q,h1,h2⟩)|h)
      ·exact .inl h
      ·exact .inr ⟨Q,aD _ h1,h2⟩
      ·exact .inr ⟨o,by simp,h⟩
     ·rintro(h|⟨Q,h1,h2⟩)
      ·exact .inl<|.inl h
      ·rcases S_.mp h1 with h1|h1
       ·exact .inl<|.inr ⟨Q,h1,h2⟩
       ·rw[O_.mp h1]at h2;exact .inr h2
    ·have:=HX b<|ewe p o;omega
    ·rw[Au]
   ·rintro r _ ⟨k,m,b,rfl,L,c,V,rfl⟩;rw[C_]at L V;rw[aK]at L;refine hZ2 _ _ ⟨_,_,_,_,b,rfl,λz=>?_,c,by omega,rfl⟩;rw[L,C,W];constructor
    ·rintro(⟨M,h1,h2⟩|h)
     ·exact⟨M,aD _ h1,h2⟩
     ·exact⟨p,by simp,h⟩
    ·rintro⟨M,h1,h2⟩;rcases S_.mp h1 with h1|h1
     ·exact .inl ⟨M,h1,h2⟩
     ·rw[O_.mp h1]at h2;exact .inr h2
  ·rintro r _ ⟨J,I,k,m,a,rfl,C,hnd,G,rfl⟩;rw[C_]at C G;rw[aK]at C;exact hZ _ _ ⟨_,_,_,_,a,rfl,C,hnd,G,rfl⟩
 rintro r _ ⟨J,I,k,m,a,rfl,C,hnd,G,rfl⟩;refine Ac Ab λl T=>⟨_,Sub.refl,q a l _ C hnd G ((Sub.refl.new B:Sub t _).none T) ?_<|(Sub.refl.new B:Sub t _).new<|(Sub.refl.new B:Sub t _).none T⟩;rw[Ab,X_];rfl
def P0(P:oA Pr):dats (P.map A4)=some (P.map Gm):=by rw[show P.map A4=(P.map Gm).map .D by rw[X_];rfl];exact B8 _
def Uv(p q:Pr):cmpb (Gm p) (Gm q)=true:=by
 show cmpbs [.int _,.int _] [.int _,.int _]=true;simp only[cmpbs];split
 ·split<;>simp only[cmpb]
 ·simp only[cmpb]
def Qa(p:Pr):B6 (Gm p):=⟨rfl,by show PyData.depth (.tuple [.int _,.int _])<=64;simp[PyData.depth,PyData.depthAll]⟩
theorem Uw:∀P:oA Pr,PyData.canLayAll0 (P.map Gm)=true/\PyData.depthAll (P.map Gm)<=64
 |[]=>⟨rfl,by simp[PyData.depthAll]⟩
 |p::P=>by
  obtain⟨a,b⟩:=Uw P;obtain⟨c,d⟩:=Qa p;refine⟨?_,?_⟩
  ·simp only[List.map_cons,PyData.canLayAll0,c,a,Bool.and_self]
  ·simp only[List.map_cons,PyData.depthAll];omega
def CL{P:oA Pr}(h:P.length<=5000):SortOkP (P.map Gm):=by
 obtain⟨a,b⟩:=Uw P;refine⟨by rw[C_];omega,a,b,λd c=>?_,λd c e he=>?_⟩
 ·obtain⟨p,_,rfl⟩:=D_.mp c;exact⟨_,_,rfl⟩
 ·obtain⟨p,_,rfl⟩:=D_.mp c;obtain⟨q,_,rfl⟩:=D_.mp he;exact Uv p q
def CM{es:oA lR}{P:oA Pr}(h:es.Perm<|P.map Gm):∃a:oA Pr,es=a.map Gm/\a.Perm P:=by obtain⟨a,e,hp⟩:=Db h P rfl;exact⟨a,e,hp⟩
def Wn(z y:Pr):Prop:=∀t,z.2.testBit t=true->y.2.testBit t=true
def N1{z y:Pr}:z.2 &&& y.2=z.2↔Wn z y:=by
 constructor
 ·intro h t a;have:=bR (λn=>n.testBit t) h;simp only[Nat.testBit_and,a,Bool.true_and]at this;exact this
 ·intro h;refine Nat.eq_of_testBit_eq λt=>?_;rw[Nat.testBit_and];cases e:z.2.testBit t with
  |true=>rw[h t e];rfl
  |false=>rfl
def Wn.refl(z:Pr):Wn z z:=λ_ h=>h
def Wn.trans{a b c:Pr}(h:Wn a b)(k:Wn b c):Wn a c:=λt d=>k t<|h t d
def Ed{a c:M}{p:lT}{o:MO}(S:Sub a c)(h:a p=none):Sub a (Al c p o):=λb m hb=>by rw[Ad<|by rintro rfl;rw[h]at hb;cases hb];exact S b m hb
abbrev nHw:oA Str:=["lows","bits","low"]
def VD:FnScope nHw oW (Ah sHw):=B5<|by decide +kernel
def PQ:ASp:=λe d R=>∃(a:lT) (c:oA Nat) (b:Nat),e=[.R a,.D<|.int (b:Nat)]/\d a=oG (c.map Bt)/\R (.D<|.bool<|c.any λl=>decide (l &&& b=l)) d
def VF{n:Nat}(F:Fun K "has_within" "has_within" sHw f fd):FnOk P w K mg base Eh (n+1) f fd oW (Gd K 2 PQ):=by
 refine F.vok VD λx A j s H E r=>⟨_,(Af (Cf aL rfl (Bb<|vv 0) (Aj (i:=2) VD.nd rfl oH)<|Ai<|Ct (Bd (Fv r) (A8 BC (vv 2)<|vv 1) (vv 2)<|nomark _) (Ai<|Bf E3) Bp)<|Ai<|Bf E3),?_⟩
 rintro y p R _ ⟨a,m,b,rfl,ha,q⟩;refine Ay (λh d=>p=d/\(m.any λl=>decide (l &&& b=l))=false) (λZ t=>?_) ?_
 ·refine Ac (Ak ha) ?_;refine C8 (λi h d=>∃o,h=[oD a,oE (b:Nat),o]/\p=d/\((m.take i).any λl=>decide (l &&& b=l))=false) ⟨none,rfl,rfl,rfl⟩ (by rintro _ _ _ ⟨_,_,e,_⟩;rw[<- e];exact Ak ha) ?_ ?_
  ·rintro i v h _ u hv ⟨o,rfl,rfl,g⟩ hZ2;rw[M_]at hv;obtain⟨l,k,rfl⟩:=L_.mp hv;have hb:Builtin.bitAnd ((l:Nat):Int) ((b:Nat):Int)=((l &&& b:Nat):Int):=rfl;refine ieq (λc=>⟨_,Sub.refl,?_⟩) λc=>hZ2 _ _ ⟨_,rfl,rfl,?_⟩
   ·rw[dO.mpr ⟨l,V_ k,aZ<|dZ c⟩]at q;exact q
   ·rw[CJ k,g,kX];exact aS λe=>c<|bR Int.ofNat e
  ·rintro h _ ⟨o,rfl,rfl,g⟩;rw[C_,aK]at g;exact t _ _ ⟨rfl,g⟩
 rintro h _ ⟨rfl,g⟩;rw[g]at q;exact⟨_,Sub.refl,q⟩
abbrev nLa:oA Str:=["pairs","kept","lows","cost","bits"]
def CN:FnScope nLa oK (Ah sLa):=B5<|by decide +kernel
structure CvA(P zs:oA Pr):Prop where
 m:∀z∈zs,z∈P
 c:∀y∈P,∃z∈zs,Wn z y
 u:(zs.map (·.2)).Nodup
def Ss{a:oA Pr}(h:(a.map (·.2)).Nodup)(hb:∀z∈a,z.2<32):a.length<=32:=by
 have:=Fo (ys:=List.range 32) h λb c=>by obtain⟨z,hz,rfl⟩:=D_.mp c;exact bK.mpr<|hb z hz
 rwa[C_,dS]at this
def PR:ASp:=λd b R=>∃(a:lT) (P:oA Pr),d=[.R a]/\b a=oG (P.map A4)/\P.length<=5000/\(∀p∈P,p.2<32)/\∀(c:oA Pr) (l:lT) μ',CvA P c->b l=none->μ' l=oG (c.map A4)->Sub b μ'->R (.R l) μ'
def VH{n:Nat}(F:Fun K "least_alone" "least_alone" sLa f fd) (cHw:VCal P w K mg base n "has_within" oW PQ) (am:mg "sorted" = none):FnOk P w K mg base Eh (n+1) f fd oK (Gd K 1 PR):=by
 refine F.vok CN λaq A outer s H E hr=>⟨_,(Af (Aq (i:=1) CN.nd rfl oH<|Br Ae)<|Af (Aq (i:=2) CN.nd rfl oH<|Br Ae)<|Af (Cf aL rfl (Bb<|A7 (Mo hr) rfl am PyProof.Rows.boot_sorted<|Aa (vv 0) Ae) (Es (n:=2) rfl<|Aw (Aj (i:=3) CN.nd rfl oH)<|Aw (Aj (i:=4) CN.nd rfl oH) B7)<|Ai<|Ct (Jy<|Fi<|Am cHw hr rfl<|Aa (vv 2)<|Aa (vv 4) Ae) (Af (Ck<|Fw cN cP Dn (vv 1)<|Aa (Bl<|Aa (vv 3)<|Aa (vv 4) Ae) Ae)<|Ai<|Ck<|Fw cN cP Dn (vv 2)<|Aa (vv 4) Ae) Bp)<|Ai<|Bf<|vv 1),?_⟩
 rintro xs o R _ ⟨a,P,rfl,ha,hP,hb,q⟩;intro j J k r;have V:Sub o (Al (Al o j<|.lst []) k<|.lst []):=(Sub.refl.new J).new<|(Sub.refl.new J:Sub o _).none r;have bz:j≠k:=by rintro rfl;rw[Ab]at r;cases r
 have l0:o k=none:=(Sub.refl.new J:Sub o<|Al o j<|.lst []).none r;have Y:Al (Al o j<|.lst []) k (.lst []) j=oG []:=by rw[Ad bz,Ab]
 have el:Al (Al o j<|.lst []) k (.lst []) k=oG []:=Ab;generalize Al (Al o j<|.lst []) k (.lst [])=μ1 at V Y el;refine Ay (λB g=>∃x G,∃d:oA Pr,B=[oD a,oD j,oD k,x,G]/\g j=oG (d.map A4)/\CvA P d/\Sub o g) (λZ hZ=>?_) ?_
 ·refine Ac (V _ _ ha)<|Ac (P0 P) ⟨CL hP,λes p hp S=>?_⟩;obtain⟨Q,rfl,hQ⟩:=CM hp;have ln:j≠p:=by rintro rfl;rw[Y]at S;cases S
  have M:k≠p:=by rintro rfl;rw[el]at S;cases S
  have L:Al μ1 p (.lst<|(Q.map Gm).map .D) p=oG (Q.map A4):=by rw[Ab,X_];rfl
  have k2:Al μ1 p (.lst<|(Q.map Gm).map .D) j=oG []:=by rw[Ad ln];exact Y
  have l2:Al μ1 p (.lst<|(Q.map Gm).map .D) k=oG []:=by rw[Ad M];exact el
  have U:Sub o (Al μ1 p<|.lst<|(Q.map Gm).map .D):=V.new<|V.none S;generalize Al μ1 p (.lst<|(Q.map Gm).map .D)=O at L k2 l2 U;refine Ac (Ak L) ?_;refine C8 (λi B g=>∃x G,∃d:oA Pr,B=[oD a,oD j,oD k,x,G]/\g j=oG (d.map A4)/\g k=oG ((d.map (·.2)).map Bt)/\g p=oG (Q.map A4)/\d.length<=i/\CvA (Q.take i) d/\Sub o g) ⟨none,none,[],rfl,k2,l2,L,G_ _,⟨(λ_ h=>nomatch h),(λ_ h=>nomatch h),cX⟩,U⟩ (by rintro _ _ _ ⟨_,_,_,_,_,_,e,_⟩;exact Ak e) ?_ ?_
  ·rintro i v B N Z2 hv ⟨x,G,d,rfl,I,W,e3,mq,C,X⟩ hZ2;rw[M_]at hv;obtain⟨y,hy,rfl⟩:=L_.mp hv;have hi:=(F_.mp hy).1;have hQl:Q.length=P.length:=hQ.length_eq;have T:Q.take (i+1)=Q.take i++[y]:=by rw[aJ,hy];rfl
   refine⟨rfl,Pz ⟨k,d.map (·.2),y.2,rfl,W,?_⟩⟩;cases hh:(d.map (·.2)).any λl=>decide (l &&& y.2=l) with
   |true=>
    refine Hr rfl<|hZ2 _ _ ⟨_,_,d,rfl,I,W,e3,bA mq,⟨λz hz=>?_,λu hu=>?_,C.u⟩,X⟩
    ·rw[T];exact aD _<|C.m z hz
    ·rw[T]at hu;rcases S_.mp hu with hu|hu
     ·exact C.c u hu
     ·rw[O_.mp hu];obtain⟨b,jl,e⟩:=dO.mp hh;obtain⟨z,hz,rfl⟩:=D_.mp jl;exact⟨z,hz,N1.mp<|aQ e⟩
   |false=>
    have bt:∀z∈d,¬Wn z y:=λz hz hw=>by have:=List.any_eq_false.mp hh z.2<|D_.mpr ⟨z,hz,rfl⟩;exact this<|aZ<|N1.mpr hw
    refine Jd rfl (Cr ⟨Ac I trivial,Ac I ⟨PL<|by rw[C_];omega,?_⟩⟩);have l4:Al N j (.lst<|d.map A4++[A4 y]) k=oG ((d.map (·.2)).map Bt):=by rw[Ad bz.symm];exact W
    refine⟨Ac l4 trivial,Ac l4 ⟨PL<|by rw[C_,C_];omega,hZ2 _ _ ⟨_,_,d++[y],rfl,by rw[Ad bz,Ab,P_];rfl,by rw[Ab,P_,P_];rfl,by rw[Ad M.symm,Ad ln.symm];exact e3,by rw[R_];exact jM mq,⟨λz hz=>?_,λu hu=>?_,?_⟩,Ed (Ed X J) l0⟩⟩⟩
    ·rw[T];rcases S_.mp hz with hz|hz
     ·exact aD _<|C.m z hz
     ·exact aN _ hz
    ·rw[T]at hu;rcases S_.mp hu with hu|hu
     ·obtain⟨z,hz,h⟩:=C.c u hu;exact⟨z,aD _ hz,h⟩
     ·rw[O_.mp hu];exact⟨y,by simp,Wn.refl y⟩
    ·rw[P_,bE];refine⟨C.u,by simp,λb jl c hc e=>?_⟩;obtain⟨z,hz,rfl⟩:=D_.mp jl;have hc:c=y.2:=by simpa using hc
     exact bt z hz λt ht=>by rw[<- hc,<- e];exact ht
  ·rintro B N ⟨x,G,d,rfl,I,W,e3,mq,C,X⟩;rw[C_,aK]at C;exact hZ _ _ ⟨_,_,d,rfl,I,⟨λz hz=>hQ.mem_iff.mp<|C.m z hz,λy hy=>C.c y<|hQ.mem_iff.mpr hy,C.u⟩,X⟩
 rintro B O ⟨x,G,d,rfl,L,C,U⟩;exact⟨_,Sub.refl,q d j O C J L U⟩
abbrev nTh:oA Str:=oP
def Qbk:FnScope nTh oP (Ah sTh):=B5<|by decide +kernel
def HY:ASp:=λd b R=>∃(a:lT) (P:oA Pr),d=[.R a,.D<|.bool true]/\b a=oG (P.map A4)/\P.length<=5000/\(∀p∈P,p.2<32)/\∀(c:oA Pr) (l:lT) μ',CvA P c->b l=none->μ' l=oG (c.map A4)->Sub b μ'->R (.R l) μ'
def VJ{n:Nat}(F:Fun K "thinned" "thinned" sTh f fd) (m:VCal P w K mg base n "least_alone" oK PR) (h:mg "sorted" = none) (k:mg "set" = none):FnOk P w K mg base Eh (n+1) f fd oP (Gd K 2 HY):=by refine F.vok Qbk λo A c s H E d=>⟨_,(Ai<|Bf<|Oo (Fi<|vv 1) (Am m d rfl<|Aa (vv 0) Ae)<|Pu d rfl h rfl k<|vv 0),?_⟩;rintro p r R _ ⟨a,P,rfl,ha,j,hb,q⟩;exact Jd rfl ⟨a,P,rfl,ha,j,hb,λi l b C g e S=>⟨_,Sub.refl,q i l b C g e S⟩⟩
def cho:oA (oA Pr)->oA Pr:=List.foldl (λF G=>F.flatMap λp=>G.map<|ewe p) [(0,0)]
structure GrAt(μ:M)(ps:oA lT)(Gs:oA<|oA Pr):Prop where
 l:ps.length=Gs.length
 a:∀(i:Nat) p G,ps[i]?=some p->Gs[i]?=some G->μ p=oG (G.map A4)
structure Cv(P zs:oA Pr):Prop where
 m:∀z∈zs,z∈P
 c:∀y∈P,∃z∈zs,Wn z y
 u:(zs.map (·.2)).Nodup
 b:∀z∈zs,z.2<32
def Cv.len{P a:oA Pr}(h:Cv P a):a.length<=32:=Ss h.u h.b
def CO{p q r s:Pr}(h:Wn p q)(k:Wn r s):Wn (ewe p r) (ewe q s):=λt a=>by have a:(p.2 |||r.2).testBit t=true:=a;show(q.2 |||s.2).testBit t=true;rw[kL,fB]at a ⊢;exact a.imp (h t)<|k t
def Qb{Gs:oA<|oA Pr}{G:oA Pr}{z:Pr}:z∈cho (Gs++[G])↔∃y∈cho Gs,∃o∈G,z=ewe y o:=by
 unfold cho;rw[List.foldl_append,fC,List.foldl_nil,dG];constructor
 ·rintro⟨y,h1,h2⟩;obtain⟨o,a,rfl⟩:=D_.mp h2;exact⟨y,h1,o,a,rfl⟩
 ·rintro⟨y,h1,o,h2,rfl⟩;exact⟨y,h1,D_.mpr ⟨o,h2,rfl⟩⟩
abbrev nOe:oA Str:=qM
def HZ:FnScope nOe oN (Ah sOe):=B5<|by decide +kernel
def PU:ASp:=λc a R=>∃(x:AV) (ps:oA lT) (Gs:oA<|oA Pr),c=[x,.D<|.bool true]/\items a x=some (ps.map .R)/\GrAt a ps Gs/\(∀G∈Gs,G.length<=32/\∀p∈G,p.2<32)/\∀(b:oA Pr) (l:lT) μ',Cv (cho Gs) b->a l=none->μ' l=oG (b.map A4)->Sub a μ'->R (.R l) μ'
def VL{n:Nat}(F:Fun K "one_of_each" "one_of_each" sOe f fd) (qt:VCal P w K mg base n "thinned" oP HY) (V:VCal P w K mg base n "each_with_each" qH VB):FnOk P w K mg base Eh (n+1) f fd oN (Gd K 2 PU):=by
 refine F.vok HZ λaq A O s H E hr=>⟨_,(Af (Aq (i:=2) HZ.nd rfl oH<|Br<|Aa (Bl<|Aa Ag<|Aa Ag Ae) Ae)<|Af (Cf aL rfl (Bb<|vv 0) (Aj (i:=3) HZ.nd rfl oH)<|Ai<|Aq (i:=2) HZ.nd rfl oH<|Am qt hr rfl<|Aa (Am V hr rfl<|Aa (vv 2)<|Aa (vv 3) Ae)<|Aa (vv 1) Ae)<|Ai<|Bf<|vv 2),?_⟩
 rintro xs h R _ ⟨x,ps,j,rfl,hx,hG,hb,q⟩;intro l0 iy;refine Ay (λr e=>∃l k,∃d:oA Pr,r=[some x,oF<|.bool true,oD l,k]/\Cv (cho j) d/\h l=none/\e l=oG (d.map A4)/\Sub h e) (λZ hZ=>?_) ?_
 ·have S0:Sub h (Al h l0<|.lst [A4 (0,0)]):=Sub.refl.new iy;refine Ac (Bq hx S0) ?_;refine C8 (λi r e=>∃l k,∃d:oA Pr,r=[some x,oF<|.bool true,oD l,k]/\Cv (cho<|j.take i) d/\h l=none/\e l=oG (d.map A4)/\Sub h e) ⟨l0,none,[(0,0)],rfl,⟨λz hz=>hz,λy hy=>⟨y,hy,Wn.refl y⟩,by simp,λz hz=>by rw[O_.mp hz];decide⟩,iy,Ab,S0⟩ (by rintro _ _ _ ⟨_,_,_,_,_,_,_,S⟩;exact Bq hx S) ?_ ?_
  ·rintro i v r g Z2 hv ⟨l,k,d,rfl,C,N,J,t⟩ hZ2;rw[M_]at hv;obtain⟨p,hp,rfl⟩:=L_.mp hv;have hi:i<j.length:=by rw[<- hG.l];exact(F_.mp hp).1
   have M:=E_ hi;generalize j[i]=G at M;have bh:j.take (i+1)=j.take i++[G]:=by rw[aJ,M];rfl
   have eg:=t _ _<|hG.a i p G hp M;obtain⟨W,T⟩:=hb G<|V_ M;have z4:d.length*G.length<=32*32:=Nat.mul_le_mul C.len W;refine⟨.R l,.R p,d,G,rfl,Ak J,Ak eg,by omega,λY l2 X U hnd2 dz vn e2 S2=>?_⟩;have I:∀z∈Y,z.2<32:=λz hz=>by obtain⟨y,h1,o,h2,rfl⟩:=(U z).mp hz;exact Nat.or_lt_two_pow (n:=5) (C.b y h1)<|T o h2
   refine⟨l2,Y,rfl,e2,by omega,I,λus l3 μ3 L Q e3 S3=>?_⟩;have B:Sub h X:=λb m hb=>S2 b m<|t b m hb;refine hZ2 _ _ ⟨l3,_,us,rfl,⟨λz hz=>?_,λy hy=>?_,L.u,λz hz=>I z<|L.m z hz⟩,B.none Q,e3,λb m hb=>S3 b m<|B b m hb⟩
   ·obtain⟨y,h1,o,h2,rfl⟩:=(U z).mp<|L.m z hz;rw[bh];exact Qb.mpr ⟨y,C.m y h1,o,h2,rfl⟩
   ·rw[bh]at hy;obtain⟨u,h1,o,h2,rfl⟩:=Qb.mp hy;obtain⟨y,h3,h4⟩:=C.c u h1;obtain⟨z,h5,h6⟩:=L.c (ewe y o)<|(U _).mpr ⟨y,h3,o,h2,rfl⟩;exact⟨z,h5,h6.trans<|CO h4<|Wn.refl o⟩
  ·rintro r g ⟨l,k,d,rfl,C,N,J,t⟩;rw[C_,hG.l,aK]at C;exact hZ _ _ ⟨l,_,d,rfl,C,N,J,t⟩
 rintro r g ⟨l,k,d,rfl,C,N,J,t⟩;exact⟨_,Sub.refl,q d l g C N J t⟩
abbrev nOa:oA Str:=qM
def PV:FnScope nOa oN (Ah sOa):=B5<|by decide +kernel
def Xn{a:Type}{Gs:oA<|oA a}{i:Nat}{G:oA a}(h:Gs[i]?=some G):(Gs.take<|i+1).flatten=(Gs.take i).flatten++G:=by rw[aJ,h,List.flatten_append];simp
theorem Kw{b:Type}:∀{Gs:oA<|oA b},(∀G∈Gs,G.length<=32)->Gs.flatten.length<=32*Gs.length
 |[],_=>by simp
 |G::Gs,h=>by have h1:=h G aV;have h2:=Kw (Gs:=Gs) λa hG=>h a<|aM _ hG;rw[kU,R_,aR];omega
def VM:ASp:=λc a R=>∃(x:AV) (ps:oA lT) (Gs:oA<|oA Pr),c=[x,.D<|.bool true]/\items a x=some (ps.map .R)/\GrAt a ps Gs/\Gs.length<=20/\(∀G∈Gs,G.length<=32/\∀p∈G,p.2<32)/\∀(b:oA Pr) (l:lT) μ',Cv Gs.flatten b->a l=none->μ' l=oG (b.map A4)->Sub a μ'->R (.R l) μ'
def VN{n:Nat}(F:Fun K "one_of_any" "one_of_any" sOa f fd) (U:VCal P w K mg base n "thinned" oP HY):FnOk P w K mg base Eh (n+1) f fd oN (Gd K 2 VM):=by
 refine F.vok PV λaq A J s H E hr=>⟨_,(Af (Aq (i:=2) PV.nd rfl oH<|Br Ae)<|Af (Cf aL rfl (Bb<|vv 0) (Aj (i:=3) PV.nd rfl oH)<|Ai<|Ck<|Fw iI iJ Jz (vv 2)<|Aa (vv 3) Ae)<|Ai<|Bf<|Am U hr rfl<|Aa (vv 2)<|Aa (vv 1) Ae),?_⟩
 rintro xs r R _ ⟨x,ps,Gs,rfl,hx,hG,X,hb,q⟩;intro j L;have o:∀z∈Gs.flatten,z.2<32:=λz hz=>by obtain⟨G,h1,h2⟩:=lK.mp hz;exact(hb G h1).2 z h2
 refine Ay (λh b=>∃g,h=[some x,oF<|.bool true,oD j,g]/\b j=oG (Gs.flatten.map A4)/\Sub r b) (λZ hZ=>?_) ?_
 ·have M:Sub r (Al r j<|.lst []):=Sub.refl.new L;refine Ac (Bq hx M) ?_;refine C8 (λi h b=>∃g,h=[some x,oF<|.bool true,oD j,g]/\b j=oG ((Gs.take i).flatten.map A4)/\Sub r b) ⟨none,rfl,Ab,M⟩ (by rintro _ _ _ ⟨_,_,_,S⟩;exact Bq hx S) ?_ ?_
  ·rintro i v h k Z2 hv ⟨g,rfl,e,d⟩ hZ2;rw[M_]at hv;obtain⟨p,hp,rfl⟩:=L_.mp hv;have hi:i<Gs.length:=by rw[<- hG.l];exact(F_.mp hp).1
   have t:=E_ hi;generalize Gs[i]=G at t;have W:=d _ _<|hG.a i p G hp t;have T:=(hb G<|V_ t).1;have y:=Kw (Gs:=Gs.take i) λV B=>(hb V<|eY B).1;have htl:(Gs.take i).length<=20:=by rw[aY];omega
   refine⟨Ac e trivial,Ac e<|Ac W ⟨cH<|PL<|by rw[C_,C_];omega,hZ2 _ _ ⟨_,rfl,?_,d.new L⟩⟩⟩;rw[Ab,Xn t,P_]
  ·rintro h k ⟨g,rfl,e,d⟩;rw[C_,hG.l,aK]at e;exact hZ _ _ ⟨_,rfl,e,d⟩
 rintro h k ⟨g,rfl,e,d⟩;have y:=Kw λG hG=>(hb G hG).1;exact⟨_,Gs.flatten,rfl,e,by omega,o,λQ l I C N Y O=>⟨_,Sub.refl,q Q l I ⟨C.m,C.c,C.u,λz hz=>o z<|C.m z hz⟩ (d.none N) Y<|d.trans O⟩⟩
structure Ar where
 p:Nat
 x:Nat
 ts:oA Nat
 c:Nat
def Ux(a:Ar):lR:=.tuple [.int (a.p:Nat),.int (a.x:Nat),Av a.ts,.int (a.c:Nat)]
def Gg(a:Ar):AV:=.D<|Ux a
def Em(k:Nat×Nat)(a:Ar):Bool:=decide (a.p=k.1)&&decide (a.x=k.2)
def grp(A:oA Ar)(k:Nat×Nat):oA Pr:=(A.filter<|Em k).map λa=>(a.c,bts a.ts)
def kvT(e:(Nat×Nat)×lT):oA Key×AV:=([.inl (e.1.1:Nat),.inl (e.1.2:Nat)],.R e.2)
structure TopW(μ0 μ:M)(d:lT)(A:oA Ar)(K:Nat×Nat->Prop)(kvs:oA<|(Nat×Nat)×lT):Prop where
 dd:μ d=some (.dt<|kvs.map kvT)
 ll:∀e∈kvs,μ e.2=oG ((grp A e.1).map A4)
 kk:∀k,(∃e∈kvs,e.1=k)↔K k
 uu:(kvs.map (·.1)).Nodup
 vv:(kvs.map (·.2)).Nodup
 fd:μ0 d=none
 fe:∀e∈kvs,μ0 e.2=none/\e.2≠d
 ss:Sub μ0 μ
def CP(a b:M)(d:lT)(A:oA Ar)(kvs:oA<|(Nat×Nat)×lT):Prop:=TopW a b d A (λk=>grp A k≠[]) kvs
def N3{k l:Nat×Nat}(h:([.inl (k.1:Nat),.inl (k.2:Nat)]:oA Key)=[.inl (l.1:Nat),.inl (l.2:Nat)]):k=l:=by injection h with h1 h2;injection h2 with h2 _;exact lD (dZ<|gL h1)<|dZ<|gL h2
theorem Gh:∀{kvs:oA<|(Nat×Nat)×lT} {e:(Nat×Nat)×lT},(kvs.map (·.1)).Nodup->e∈kvs->Bu (kvs.map kvT) [.inl (e.1.1:Nat),.inl (e.1.2:Nat)]=oD e.2
 |x::kvs,e,a,he=>by
  rw[aP];rw[aP,dL]at a;by_cases h:x.1=e.1
  ·have hx:e=x:=by
    rcases aB.mp he with rfl|he
    ·rfl
    ·exact absurd (D_.mpr ⟨e,he,h.symm⟩) a.1
   subst hx;exact Da
  ·have b:e∈kvs:=by
    rcases aB.mp he with rfl|he
    ·exact absurd rfl h
    ·exact he
   rw[show Bu (kvT x::kvs.map kvT) [.inl (e.1.1:Nat),.inl (e.1.2:Nat)]=Bu (kvs.map kvT) [.inl (e.1.1:Nat),.inl (e.1.2:Nat)] from Cp λz=>h<|N3 z];exact Gh a.2 b
theorem Hj:∀{kvs:oA<|(Nat×Nat)×lT} {k:Nat×Nat},(∀e∈kvs,e.1≠k)->Bu (kvs.map kvT) [.inl (k.1:Nat),.inl (k.2:Nat)]=none
 |[],_,_=>rfl
 |x::kvs,k,h=>by rw[aP,show Bu (kvT x::kvs.map kvT) [.inl (k.1:Nat),.inl (k.2:Nat)]=Bu (kvs.map kvT) [.inl (k.1:Nat),.inl (k.2:Nat)] from Cp λz=>h x aV<|N3 z];exact Hj λe he=>h e<|aM _ he
def F9{kvs:oA<|(Nat×Nat)×lT}{k:Nat×Nat}{z:lT}(h:∀e∈kvs,e.1≠k):Dr (kvs.map kvT) [.inl (k.1:Nat),.inl (k.2:Nat)] (.R z)=(kvs++[(k,z)]).map kvT:=by
 unfold Dr;rw[I_,P_]
 ·rfl
 ·intro a;obtain⟨b,h1,h2⟩:=dO.mp a;obtain⟨e,he,rfl⟩:=D_.mp h1;exact h e he<|N3<|aQ h2
def Qc{kvs:oA<|(Nat×Nat)×lT}{e f:(Nat×Nat)×lT}(h:(kvs.map (·.1)).Nodup)(he:e∈kvs)(b:f∈kvs)(c:e.1=f.1):e=f:=by
 induction kvs with
 |nil=>cases he
 |cons x r a=>
  rw[aP,dL]at h;rcases aB.mp he with h1|h1<;>rcases aB.mp b with h2|h2
  ·rw[h1,h2]
  ·exact absurd (D_.mpr ⟨f,h2,by rw[<- h1];exact c.symm⟩) h.1
  ·exact absurd (D_.mpr ⟨e,h1,by rw[<- h2];exact c⟩) h.1
  ·exact a h.2 h1 h2
def Mp{kvs:oA<|(Nat×Nat)×lT}{e f:(Nat×Nat)×lT}(h:(kvs.map (·.2)).Nodup)(he:e∈kvs)(b:f∈kvs)(c:e.2=f.2):e=f:=by
 induction kvs with
 |nil=>cases he
 |cons x r a=>
  rw[aP,dL]at h;rcases aB.mp he with h1|h1<;>rcases aB.mp b with h2|h2
  ·rw[h1,h2]
  ·exact absurd (D_.mpr ⟨f,h2,by rw[<- h1];exact c.symm⟩) h.1
  ·exact absurd (D_.mpr ⟨e,h1,by rw[<- h2];exact c⟩) h.1
  ·exact a h.2 h1 h2
def Qe(A:oA Ar)(a:Ar)(k:Nat×Nat):grp (A++[a]) k=grp A k++(if Em k a then [(a.c,bts a.ts)] else []):=by unfold grp;rw[fN,P_,gI,List.filter_nil];split<;>rfl
def Kx(a:Ar):Em (a.p,a.x) a=true:=by unfold Em;simp
def CQ{a:Ar}{k:Nat×Nat}(h:k≠(a.p,a.x)):Em k a=false:=by unfold Em;rw[<- Bool.decide_and];exact aS λc=>h<|lD c.1.symm c.2.symm
def Qbl{a b c d:lR}{i j k l:Nat}{τ:ASt}{e:M}{R:ASt->M->Prop}(h:R ((((τ.set i<|oF a).set j<|oF b).set k<|oF c).set l<|oF d) e):E6 (Dd i) (E6 (Dd j)<|E6 (Dd k)<|E6 (Dd l) Ou) (List.map AV.D [a,b,c,d]) τ e R:=h
abbrev nAt:oA Str:=["arrows","tops","stand","letter","targets","cost"]
def Xo:FnScope nAt ["arrows"] (Ah sAt):=B5<|by decide +kernel
def VP:ASp:=λg e R=>∃(x:AV) (A:oA Ar),g=[x]/\items e x=some (A.map Gg)/\A.length<=300/\(∀a∈A,∀t∈a.ts,t<5)/\∀d c b,CP e b d A c->R (.R d) b
def VQ{n:Nat}(F:Fun K "arrows_by_top" "arrows_by_top" sAt f fd) (cAb:VCal P w K mg base n "as_bits" ["stands"] PJ):FnOk P w K mg base Eh (n+1) f fd ["arrows"] (Gd K 1 VP):=by
 refine F.vok Xo λaq A outer s H E X=>⟨_,(Af (Aq (i:=1) Xo.nd rfl oH E7)<|Af (Cf aL rfl (Bb<|vv 0) (Es (n:=4) rfl<|Aw (Aj (i:=2) Xo.nd rfl oH)<|Aw (Aj (i:=3) Xo.nd rfl oH)<|Aw (Aj (i:=4) Xo.nd rfl oH)<|Aw (Aj (i:=5) Xo.nd rfl oH) B7)<|Af (Ck<|BD (Bx X) (vv 1) (Bl<|Aa (vv 2)<|Aa (vv 3) Ae)<|Br Ae)<|Ai<|Ck<|Fw cN cP Dn (C9 (Bx X) (vv 1)<|Bl<|Aa (vv 2)<|Aa (vv 3) Ae)<|Aa (Bl<|Aa (vv 5)<|Aa (Am cAb X rfl<|Aa (vv 4) Ae) Ae) Ae)<|Ai<|Bf<|vv 1),?_⟩
 rintro xs V R _ ⟨x,A,rfl,hx,hn,ht,q⟩;intro d hd;refine Ay (λI r=>∃O N Q M,∃g:oA<|(Nat×Nat)×lT,I=[some x,oD d,O,N,Q,M]/\CP V r d A g) (λZ hZ=>?_) ?_
 ·refine Ac (Bq hx<|Sub.refl.new hd) ?_;refine C8 (λi I r=>∃O N Q M,∃g:oA<|(Nat×Nat)×lT,I=[some x,oD d,O,N,Q,M]/\g.length<=i/\CP V r d (A.take i) g) ⟨none,none,none,none,[],rfl,aE _,⟨Ab,(λ_ h=>nomatch h),λk=>⟨(by rintro ⟨_,h,_⟩;exact nomatch h),λh=>absurd rfl h⟩,cX,cX,hd,(λ_ h=>nomatch h),Sub.refl.new hd⟩⟩ (by rintro _ _ _ ⟨_,_,_,_,_,_,_,T⟩;exact Bq hx T.ss) ?_ ?_
  ·rintro i v I j Z2 hv ⟨O,N,Q,M,g,rfl,S,T⟩ hZ2;rw[M_]at hv;obtain⟨a,ha,rfl⟩:=L_.mp hv;have hi:=(F_.mp ha).1;have bh:A.take (i+1)=A.take i++[a]:=by rw[aJ,ha];rfl
   refine⟨rfl,Qbl ?_⟩;dsimp only[List.set];generalize hB:A.take i=B at T bh;refine Ay (λI r=>∃g:oA<|(Nat×Nat)×lT,I=[some x,oD d,oE (a.p:Nat),oE (a.x:Nat),oF<|Av a.ts,oE (a.c:Nat)]/\g.length<=i+1/\TopW V r d B (λk=>grp B k≠[]\/k=(a.p,a.x)) g) (λZ3 a9=>?_) ?_
   ·refine⟨⟨_,T.dd,trivial⟩,λz hz=>Ac (x:=[.inl (a.p:Nat),.inl (a.x:Nat)]) rfl ?_⟩;have L:Sub j (Al j z<|.lst []):=Sub.refl.new hz;have ez:Al j z (.lst []) z=oG []:=Ab;have zd:z≠d:=by rintro rfl;rw[T.dd]at hz;cases hz
    have z0:V z=none:=T.ss.none hz;have zk:∀e∈g,e.2≠z:=λe he c=>by have:=T.ll e he;rw[c,hz]at this;cases this
    generalize Al j z (.lst [])=u at L ez;refine Ac (L _ _ T.dd) ⟨A5<|by rw[C_];omega,λv hv=>?_,λhv=>?_⟩
    ·have dg:∃e∈g,e.1=(a.p,a.x):=aT λU=>by
      rw[Hj (k:=(a.p,a.x)) λe he c=>U ⟨e,he,c⟩]at hv;cases hv
     refine a9 _ _ ⟨g,rfl,bA S,⟨L _ _ T.dd,λe he=>L _ _<|T.ll e he,λk=>?_,T.uu,T.vv,T.fd,T.fe,λb m hb=>L b m<|T.ss b m hb⟩⟩;rw[T.kk];refine⟨.inl,λc=>c.elim id λc=>?_⟩;rw[c];exact(T.kk _).mp dg
    ·have U:∀e∈g,e.1≠(a.p,a.x):=λe he c=>by
      have:=Gh T.uu he;rw[c]at this;rw[this]at hv;cases hv
     rw[F9 (k:=(a.p,a.x)) U];have g0:grp B (a.p,a.x)=[]:=aT λc=>by obtain⟨e,he,h⟩:=(T.kk _).mpr c;exact U e he h
     have ne:∀{b:lT},b≠d->Al u d (.dt<|(g++[((a.p,a.x),z)]).map kvT) b=u b:=λh=>Ad h;refine a9 _ _ ⟨g++[((a.p,a.x),z)],rfl,by rw[R_];show g.length+1<=_;exact jM S,⟨Ab,λe he=>?_,λk=>?_,?_,?_,T.fd,λe he=>?_,λb m hb=>?_⟩⟩
     ·rcases S_.mp he with he|he
      ·rw[ne (T.fe e he).2];exact L _ _<|T.ll e he
      ·rw[O_.mp he,ne zd,g0];exact ez
     ·constructor
      ·rintro⟨e,he,rfl⟩;rcases S_.mp he with he|he
       ·exact .inl<|(T.kk _).mp ⟨e,he,rfl⟩
       ·rw[O_.mp he];exact .inr rfl
      ·rintro(h|rfl)
       ·obtain⟨e,he,h⟩:=(T.kk k).mpr h;exact⟨e,aD _ he,h⟩
       ·exact⟨((a.p,a.x),z),by simp,rfl⟩
     ·rw[P_,bE];refine⟨T.uu,by simp,λx hx y hy e=>?_⟩;obtain⟨Y,W,rfl⟩:=D_.mp hx;have hy:y=(a.p,a.x):=by simpa using hy
      exact U Y W<|e.trans hy
     ·rw[P_,bE];refine⟨T.vv,by simp,λx hx y hy e=>?_⟩;obtain⟨Y,W,rfl⟩:=D_.mp hx;have hy:y=z:=by simpa using hy
      exact zk Y W<|e.trans hy
     ·rcases S_.mp he with he|he
      ·exact T.fe e he
      ·rw[O_.mp he];exact⟨z0,zd⟩
     ·rw[Ad<|by rintro rfl;rw[T.fd]at hb;cases hb];exact L b m<|T.ss b m hb
   clear S T;rintro I u ⟨g,rfl,S,T⟩;obtain⟨C,l,G⟩:=(T.kk (a.p,a.x)).mpr<|.inr rfl;have kg:=Gh T.uu l;rw[G]at kg;have n9:=T.ll C l;have ed:dget (.dt<|g.map kvT) (.tuple [.int (a.p:Nat),.int (a.x:Nat)])=some (some<|AV.R C.2):=by show some (Bu (g.map kvT) [.inl (a.p:Nat),.inl (a.x:Nat)])=_;rw[kg]
   refine Ac T.dd<|Ac ed<|Ac (x:=AV.R C.2) rfl ⟨Ac n9 trivial,_,a.ts,rfl,Cg a.ts,λt h=>eV (ht a (V_ ha) t h)<|by decide,Ac n9 ⟨?_,hZ2 _ _ ⟨_,_,_,_,g,rfl,S,?_⟩⟩⟩
   ·rw[C_];refine A5 ?_;unfold grp;rw[C_];have:=bI (Em C.1) B;rw[<- hB,aY]at this;rw[<- hB];omega
   ·rw[bh];have ne:∀{b:lT} {o:MO},b≠C.2->Al u C.2 o b=u b:=λh=>Ad h;refine⟨by rw[ne (T.fe C l).2.symm];exact T.dd,λe he=>?_,λk=>?_,T.uu,T.vv,T.fd,T.fe,λb m hb=>?_⟩
    ·rw[Qe];by_cases J:e.1=(a.p,a.x)
     ·have:e=C:=Qc T.uu he l<|J.trans G.symm;subst this;rw[Ab,G,Kx,N_ rfl,P_];rfl
     ·have:e.2≠C.2:=λc=>J (by rw[Mp T.vv he l c];exact G);rw[ne this,CQ J,I_ Q_,cB];exact T.ll e he
    ·rw[T.kk,Qe];by_cases hk:k=(a.p,a.x)
     ·rw[hk,Kx,N_ rfl];exact⟨λ_=>by simp,λ_=>.inr rfl⟩
     ·rw[CQ hk,I_ Q_,cB];exact⟨λc=>c.elim id λc=>absurd c hk,.inl⟩
    ·rw[ne<|by rintro rfl;rw[(T.fe C l).1]at hb;cases hb];exact T.ss b m hb
  ·rintro I j ⟨O,N,Q,M,g,rfl,S,T⟩;rw[C_,aK]at T;exact hZ _ _ ⟨_,_,_,_,g,rfl,T⟩
 rintro I j ⟨O,N,Q,M,g,rfl,T⟩;exact⟨_,Sub.refl,q d g j T⟩
structure Rq where
 p:Nat
 x:Nat
 q:Nat
 w:oA Nat
deriving DecidableEq
def N8(r:Rq):lR:=.tuple [.int (r.p:Nat),.int (r.x:Nat),.int (r.q:Nat),Av r.w]
def Fr(r:Rq):AV:=.D<|N8 r
structure Gq where
 pl:oA (Str×Nat)
 le:oA Str
 rs:oA Rq
def Lb(p:Str×Nat):lR:=.tuple [.str p.1,.int (p.2:Nat)]
def Ee(g:Gq):lR:=.tuple [.tuple<|g.pl.map Lb,.tuple<|g.le.map .str,.tuple<|g.rs.map N8]
def En(k:Nat×Nat)(a:Rq):Bool:=decide (a.p=k.1)&&decide (a.x=k.2)
def rgp(A:oA Rq)(k:Nat×Nat):oA Rq:=A.filter<|En k
structure TpW(μ0 μ:M)(d:lT)(A:oA Rq)(K:Nat×Nat->Prop)(kvs:oA<|(Nat×Nat)×lT):Prop where
 dd:μ d=some (.dt<|kvs.map kvT)
 ll:∀e∈kvs,μ e.2=oG ((rgp A e.1).map Fr)
 kk:∀k,(∃e∈kvs,e.1=k)↔K k
 uu:(kvs.map (·.1)).Nodup
 vv:(kvs.map (·.2)).Nodup
 fd:μ0 d=none
 fe:∀e∈kvs,μ0 e.2=none/\e.2≠d
 ss:Sub μ0 μ
def PX(a b:M)(d:lT)(A:oA Rq)(kvs:oA<|(Nat×Nat)×lT):Prop:=TpW a b d A (λk=>rgp A k≠[]) kvs
def Qf(A:oA Rq)(a:Rq)(k:Nat×Nat):rgp (A++[a]) k=rgp A k++(if En k a then [a] else []):=by unfold rgp;rw[fN,gI,List.filter_nil]
def Qg(a:Rq):En (a.p,a.x) a=true:=by unfold En;simp
def CS{a:Rq}{k:Nat×Nat}(h:k≠(a.p,a.x)):En k a=false:=by unfold En;rw[<- Bool.decide_and];exact aS λc=>h<|lD c.1.symm c.2.symm
abbrev nRt:oA Str:=["game","tops","rule"]
def PY:FnScope nRt ["game"] (Ah sRt):=B5<|by decide +kernel
def VR:ASp:=λc e R=>∃(g:Gq),c=[.D<|Ee g]/\g.rs.length<=300/\∀d b a,PX e a d g.rs b->R (.R d) a
def VU{n:Nat}(F:Fun K "rules_by_top" "rules_by_top" sRt f fd):FnOk P w K mg base Eh (n+1) f fd ["game"] (Gd K 1 VR):=by
 refine F.vok PY λaq A Y s H E hr=>⟨_,(Af (Aq (i:=1) PY.nd rfl oH E7)<|Af (Cf aL rfl (Bb<|Bh B2 (vv 0) Ag) (Aj (i:=2) PY.nd rfl oH)<|Af (Ck<|BD (Bx hr) (vv 1) (Cs (vv 2) Ek<|C0 Ag)<|Br Ae)<|Ai<|Ck<|Fw cN cP Dn (C9 (Bx hr) (vv 1)<|Cs (vv 2) Ek<|C0 Ag)<|Aa (vv 2) Ae)<|Ai<|Bf<|vv 1),?_⟩
 rintro xs U R _ ⟨g,rfl,hn,q⟩;generalize X:g.rs=A at hn q;have Q:∀ ν:M,items ν (.D<|.tuple<|A.map N8)=some (A.map Fr):=λν=>by show some ((A.map N8).map AV.D)=_;rw[X_];rfl
 have j2:atI ([.tuple<|g.pl.map Lb,.tuple<|g.le.map .str,.tuple<|g.rs.map N8]:oA lR) (2:Int)=some (.tuple<|A.map N8):=by rw[X];rfl
 intro d hd;refine Ay (λI t=>∃N,∃j:oA<|(Nat×Nat)×lT,I=[oF<|Ee g,oD d,N]/\PX U t d A j) (λZ hZ=>?_) ?_
 ·refine Ac j2<|Ac (Q _) ?_;refine C8 (λi I t=>∃N,∃j:oA<|(Nat×Nat)×lT,I=[oF<|Ee g,oD d,N]/\j.length<=i/\PX U t d (A.take i) j) ⟨none,[],rfl,aE _,⟨Ab,(λ_ h=>nomatch h),λk=>⟨(by rintro ⟨_,h,_⟩;exact nomatch h),λh=>absurd rfl h⟩,cX,cX,hd,(λ_ h=>nomatch h),Sub.refl.new hd⟩⟩ (λ_ _ _ _=>Q _) ?_ ?_
  ·rintro i v I l Z2 hv ⟨N,j,rfl,O,T⟩ hZ2;rw[M_]at hv;obtain⟨a,ha,rfl⟩:=L_.mp hv;have hi:=(F_.mp ha).1;have bh:A.take (i+1)=A.take i++[a]:=by rw[aJ,ha];rfl
   generalize hB:A.take i=B at T bh;refine Ay (λI t=>∃j:oA<|(Nat×Nat)×lT,I=[oF<|Ee g,oD d,some<|Fr a]/\j.length<=i+1/\TpW U t d B (λk=>rgp B k≠[]\/k=(a.p,a.x)) j) (λZ3 a9=>?_) ?_
   ·refine⟨⟨_,T.dd,trivial⟩,λz hz=>Ac (x:=[.inl (a.p:Nat),.inl (a.x:Nat)]) rfl ?_⟩;have L:Sub l (Al l z<|.lst []):=Sub.refl.new hz;have ez:Al l z (.lst []) z=oG []:=Ab;have zd:z≠d:=by rintro rfl;rw[T.dd]at hz;cases hz
    have z0:U z=none:=T.ss.none hz;have zk:∀e∈j,e.2≠z:=λe he c=>by have:=T.ll e he;rw[c,hz]at this;cases this
    generalize Al l z (.lst [])=u at L ez;refine Ac (L _ _ T.dd) ⟨A5<|by rw[C_];omega,λv hv=>?_,λhv=>?_⟩
    ·have dg:∃e∈j,e.1=(a.p,a.x):=aT λS=>by
      rw[Hj (k:=(a.p,a.x)) λe he c=>S ⟨e,he,c⟩]at hv;cases hv
     refine a9 _ _ ⟨j,rfl,bA O,⟨L _ _ T.dd,λe he=>L _ _<|T.ll e he,λk=>?_,T.uu,T.vv,T.fd,T.fe,λb m hb=>L b m<|T.ss b m hb⟩⟩;rw[T.kk];refine⟨.inl,λc=>c.elim id λc=>?_⟩;rw[c];exact(T.kk _).mp dg
    ·have S:∀e∈j,e.1≠(a.p,a.x):=λe he c=>by
      have:=Gh T.uu he;rw[c]at this;rw[this]at hv;cases hv
     rw[F9 (k:=(a.p,a.x)) S];have g0:rgp B (a.p,a.x)=[]:=aT λc=>by obtain⟨e,he,h⟩:=(T.kk _).mpr c;exact S e he h
     have ne:∀{b:lT},b≠d->Al u d (.dt<|(j++[((a.p,a.x),z)]).map kvT) b=u b:=λh=>Ad h;refine a9 _ _ ⟨j++[((a.p,a.x),z)],rfl,by rw[R_];show j.length+1<=_;exact jM O,⟨Ab,λe he=>?_,λk=>?_,?_,?_,T.fd,λe he=>?_,λb m hb=>?_⟩⟩
     ·rcases S_.mp he with he|he
      ·rw[ne (T.fe e he).2];exact L _ _<|T.ll e he
      ·rw[O_.mp he,ne zd,g0];exact ez
     ·constructor
      ·rintro⟨e,he,rfl⟩;rcases S_.mp he with he|he
       ·exact .inl<|(T.kk _).mp ⟨e,he,rfl⟩
       ·rw[O_.mp he];exact .inr rfl
      ·rintro(h|rfl)
       ·obtain⟨e,he,h⟩:=(T.kk k).mpr h;exact⟨e,aD _ he,h⟩
       ·exact⟨((a.p,a.x),z),by simp,rfl⟩
     ·rw[P_,bE];refine⟨T.uu,by simp,λx hx y hy e=>?_⟩;obtain⟨W,V,rfl⟩:=D_.mp hx;have hy:y=(a.p,a.x):=by simpa using hy
      exact S W V<|e.trans hy
     ·rw[P_,bE];refine⟨T.vv,by simp,λx hx y hy e=>?_⟩;obtain⟨W,V,rfl⟩:=D_.mp hx;have hy:y=z:=by simpa using hy
      exact zk W V<|e.trans hy
     ·rcases S_.mp he with he|he
      ·exact T.fe e he
      ·rw[O_.mp he];exact⟨z0,zd⟩
     ·rw[Ad<|by rintro rfl;rw[T.fd]at hb;cases hb];exact L b m<|T.ss b m hb
   clear O T;rintro I u ⟨j,rfl,O,T⟩;obtain⟨C,r,G⟩:=(T.kk (a.p,a.x)).mpr<|.inr rfl;have kg:=Gh T.uu r;rw[G]at kg;have n9:=T.ll C r;have ed:dget (.dt<|j.map kvT) (.tuple [.int (a.p:Nat),.int (a.x:Nat)])=some (some<|AV.R C.2):=by show some (Bu (j.map kvT) [.inl (a.p:Nat),.inl (a.x:Nat)])=_;rw[kg]
   refine Ac T.dd<|Ac ed<|Ac (x:=AV.R C.2) rfl ⟨Ac n9 trivial,Ac n9 ⟨?_,hZ2 _ _ ⟨_,j,rfl,O,?_⟩⟩⟩
   ·rw[C_];refine A5 ?_;unfold rgp;have:=bI (En C.1) B;rw[<- hB,aY]at this;rw[<- hB];omega
   ·rw[bh];have ne:∀{b:lT} {o:MO},b≠C.2->Al u C.2 o b=u b:=λh=>Ad h;refine⟨by rw[ne (T.fe C r).2.symm];exact T.dd,λe he=>?_,λk=>?_,T.uu,T.vv,T.fd,T.fe,λb m hb=>?_⟩
    ·rw[Qf];by_cases J:e.1=(a.p,a.x)
     ·have:e=C:=Qc T.uu he r<|J.trans G.symm;subst this;rw[Ab,G,Qg,N_ rfl,P_];rfl
     ·have:e.2≠C.2:=λc=>J (by rw[Mp T.vv he r c];exact G);rw[ne this,CS J,I_ Q_,cB];exact T.ll e he
    ·rw[T.kk,Qf];by_cases hk:k=(a.p,a.x)
     ·rw[hk,Qg,N_ rfl];exact⟨λ_=>by simp,λ_=>.inr rfl⟩
     ·rw[CS hk,I_ Q_,cB];exact⟨λc=>c.elim id λc=>absurd c hk,.inl⟩
    ·rw[ne<|by rintro rfl;rw[(T.fe C r).1]at hb;cases hb];exact T.ss b m hb
  ·rintro I l ⟨N,j,rfl,O,T⟩;rw[C_,aK]at T;exact hZ _ _ ⟨_,j,rfl,T⟩
 rintro I l ⟨N,j,rfl,T⟩;exact⟨_,Sub.refl,q d j l T⟩
def hnd(g:Gq)(k:Nat×Nat):Nat:=(g.pl.map (·.2)).getD k.1 0
abbrev Tops:=Nat×Nat->oA Pr
def Ln(G:Tops)(s:Nat):oA Nat->oA Pr
 |[]=>[(0,bts [s])]
 |[x]=>G (s,x)
 |x::y::_=>(G (s,x)).flatMap λp=>(cho<|(B3 p.2).map λt=>G (t,y)).map λq=>(p.1+q.1,q.2)
def Ga(g:Gq)(G:Tops)(k:Nat×Nat):oA Pr:=if hnd g k=1 then cho ((rgp g.rs k).map λr=>Ln G r.q r.w) else((rgp g.rs k).map λr=>Ln G r.q r.w).flatten
def Fp(G:Tops)(E:oA Nat):oA Nat->Nat->Prop
 |[],s=>s∈E
 |x::v,s=>∃p∈G (s,x),∀t∈B3 p.2,Fp G E v t
inductive Pre (g:Gq) (S:Nat->oA Nat->Prop):Nat->oA Nat->Prop where
 |say {p:Nat} {w:oA Nat}:p<g.pl.length->S p w->Pre g S p w
 |one {p x:Nat} {v:oA Nat} {r:Rq}:r∈rgp g.rs (p,x)->hnd g (p,x)≠1->Pre g S r.q (r.w++v)->Pre g S p (x::v)
 |all {p x:Nat} {v:oA Nat}:hnd g (p,x)=1->rgp g.rs (p,x)≠[]->(∀r∈rgp g.rs (p,x),Pre g S r.q<|r.w++v)->Pre g S p (x::v)
def Co{n t:Nat}:t∈B3 n↔t<5/\n.testBit t=true:=by unfold B3;rw[a_,bK]
def N4(p q:Pr)(t:Nat):(ewe p q).2.testBit t=(p.2.testBit t||q.2.testBit t):=kL ..
def CT{Q:Nat->Prop}{Gs:oA<|oA Pr}(h:∀G∈Gs,∃p∈G,∀t∈B3 p.2,Q t):∃z∈cho Gs,∀t∈B3 z.2,Q t:=by
 have a:∀(Gs:oA<|oA Pr) (F:oA Pr),(∀G∈Gs,∃p∈G,∀t∈B3 p.2,Q t)->(∃f∈F,∀t∈B3 f.2,Q t)->∃z∈Gs.foldl (λF G=>F.flatMap λp=>G.map<|ewe p) F,∀t∈B3 z.2,Q t:=by
  intro Gs
  induction Gs with
  |nil=>exact λF _ h=>h
  |cons G Gs e=>intro F h g;obtain⟨f,d,h1⟩:=g;obtain⟨p,hp,h2⟩:=h G<|.head _;refine e _ (λi hG=>h i<|.tail _ hG) ⟨ewe f p,dG.mpr ⟨f,d,D_.mpr ⟨p,hp,rfl⟩⟩,λt b=>?_⟩;obtain⟨c,hb⟩:=Co.mp b;rw[N4,fB]at hb;exact hb.elim (λhb=>h1 t<|Co.mpr ⟨c,hb⟩) λhb=>h2 t<|Co.mpr ⟨c,hb⟩
 exact a Gs _ h ⟨(0,0),.head _,λt b=>absurd (Co.mp b).2<|by rw[lH];decide⟩
def CU{s:Nat}(hs:s<5):B3 (bts [s])=[s]:=by
 have a:∀i:_root_.Fin 5,B3 (bts [i.val])=[i.val]:=by decide +kernel
 exact a ⟨s,hs⟩
def Uy{G:Tops}{E:oA Nat}{s:Nat}(hs:s<5){u:oA Nat}(hu:u.length<=2){v:oA Nat}(h:Fp G E (u++v) s):∃z∈Ln G s u,∀t∈B3 z.2,Fp G E v t:=by
 match u,hu with
 |[],_=>refine⟨(0,bts [s]),.head _,λt a=>?_⟩;rw[CU hs]at a;rw[O_.mp a];exact h
 |[x],_=>exact h
 |[x,y],_=>
  obtain⟨p,hp,h⟩:=h;obtain⟨q,hq,hb⟩:=CT (Q:=Fp G E v) (Gs:=(B3 p.2).map λt=>G (t,y)) λK b=>by obtain⟨t,a,rfl⟩:=D_.mp b;exact h t a
  exact⟨(p.1+q.1,q.2),dG.mpr ⟨p,hp,D_.mpr ⟨q,hq,rfl⟩⟩,hb⟩
structure RsOk(g:Gq):Prop where
 p:g.pl.length<=5
 q:∀r∈g.rs,r.q<g.pl.length/\r.w.length<=2
def Under(P Q:oA Pr):Prop:=∀y∈P,∃z∈Q,∀t∈B3 z.2,t∈B3 y.2
theorem Mq{G K:Tops}{E:oA Nat}(h:∀k,Under (G k)<|K k):∀{w:oA Nat} {s:Nat},Fp G E w s->Fp K E w s
 |[],_,a=>a
 |x::_,s,⟨p,hp,a⟩=>by obtain⟨z,hz,hb⟩:=h (s,x) p hp;exact⟨z,hz,λt b=>Mq h<|a t<|hb t b⟩
def IA{g:Gq}(m:RsOk g){B G:Tops}{E:oA Nat}(h1:∀k,Under (B k)<|G k)(h2:∀k,rgp g.rs k≠[]->Under (Ga g G k) (G k)){p:Nat}{w:oA Nat}(h:Pre g (λp w=>Fp B E w p) p w):Fp G E w p:=by
 have e:∀k,∀r∈rgp g.rs k,r.q<5/\r.w.length<=2:=λk r e=>by obtain⟨a,b⟩:=m.q r (a_.mp e).1;have:=m.p;exact⟨by omega,b⟩
 have d:∀{p x:Nat} {v:oA Nat} {y:Pr},rgp g.rs (p,x)≠[]->y∈Ga g G (p,x)->(∀t∈B3 y.2,Fp G E v t)->Fp G E (x::v) p:=λ{p x v y} j hy hv=>by obtain⟨z,hz,hb⟩:=h2 (p,x) j y hy;exact⟨z,hz,λt o=>hv t<|hb t o⟩
 induction h with
 |say _ s=>exact Mq h1 s
 |@one p x v r c i _ l=>obtain⟨a,b⟩:=e _ r c;obtain⟨y,hy,hv⟩:=Uy a b l;refine d (λz=>by rw[z]at c;cases c) (?_:y∈_) hv;unfold Ga;rw[I_ i];exact lK.mpr ⟨_,D_.mpr ⟨r,c,rfl⟩,hy⟩
 |@all p x v i j _ l=>
  obtain⟨y,hy,hv⟩:=CT (Q:=Fp G E v) (Gs:=(rgp g.rs (p,x)).map λr=>Ln G r.q r.w) λK n=>by obtain⟨r,c,rfl⟩:=D_.mp n;obtain⟨a,b⟩:=e _ r c;exact Uy a b<|l r c
  refine d j (?_:y∈_) hv;unfold Ga;rw[N_ i];exact hy
structure TopK(μ:M)(d:lT)(G:Tops):Prop where
 at':∃kvs:oA<|(Nat×Nat)×lT,μ d=some (.dt<|kvs.map kvT)/\(∀e∈kvs,μ e.2=oG ((G e.1).map A4))/\(∀k,(∀e∈kvs,e.1≠k)->G k=[])/\(kvs.map (·.1)).Nodup
def TopK.sub{c b:M}{d:lT}{G:Tops}(h:TopK c d G)(S:Sub c b):TopK b d G:=by obtain⟨a,h1,h2,i,g⟩:=h.at';exact⟨a,S _ _ h1,λe he=>S _ _<|h2 e he,i,g⟩
def Su(G:Tops):Prop:=∀k,(G k).length<=32/\∀z∈G k,z.2<32
def Hk{g a:M}{d:lT}{G:Tops}{td ty:AE}{τ:ASt}{R:AV->M->Prop}(h:TopK g d G)(m:Sub g a)(p x:Nat)(r:∀Q:AV->M->Prop,Q (.R d) a->td τ a Q)(o:∀Q:AV->M->Prop,Q (.D<|.tuple [.int (p:Nat),.int (x:Nat)]) a->ty τ a Q)(q:∀l i,i l=oG ((G (p,x)).map A4)->Sub a i->(g l≠none\/a l=none)->R (.R l) i):Zw td ty (SI NB) τ a R:=by
 obtain⟨b,h1,h2,t,s⟩:=h.at';refine r _ ⟨⟨_,m _ _ h1,trivial⟩,o _ λz hz=>?_⟩;have S:Sub a (Al a z<|.lst []):=Sub.refl.new hz;refine Ac (S _ _<|m _ _ h1) ?_;by_cases hk:∀e∈b,e.1≠(p,x)
 ·have j:=Hj (k:=(p,x)) hk;refine Ac (x:=none) (by show some (Bu (b.map kvT) [.inl (p:Nat),.inl (x:Nat)])=_;rw[j])<|q z _ ?_ S<|.inr hz;rw[Ab,t _ hk];rfl
 ·obtain⟨e,he,n⟩:∃e∈b,e.1=(p,x):=aT λc=>hk λe he z=>c ⟨e,he,z⟩;have j:=Gh s he;rw[n]at j;refine Ac (x:=some<|AV.R e.2) (by show some (Bu (b.map kvT) [.inl (p:Nat),.inl (x:Nat)])=_;rw[j]) (show R (AV.R e.2) _ from q e.2 _ ?_ S<|.inl λc=>by rw[h2 e he]at c;cases c);have:=S _ _<|m _ _<|h2 e he;rw[n]at this;exact this
theorem Sv:∀{ts:oA Nat},(∀t∈ts,t<5)->∀{b:Nat},b<32->ts.foldl (λb k=>b ||| 2^k) b<32
 |[],_,_,hb=>hb
 |t::ts,h,b,hb=>by refine Sv (ts:=ts) (λu hu=>h u<|aM _ hu) ?_;have a:=h t aV;exact Nat.or_lt_two_pow (n:=5) hb<|Nat.pow_lt_pow_right (by decide) a
def YO(G:Tops)(y b:Nat):oA Pr:=cho<|(B3 b).map λt=>G (t,y)
def VX(G:Tops)(y:Nat)(f r:lT)(kvs:oA<|Key×AV)(b:M):Prop:=∀(k:Nat) v,Bu kvs (.inl (k:Nat))=some v->∃(a:lT) (ys:oA Pr),v=.R a/\a≠f/\a≠r/\b a=oG (ys.map A4)/\Cv (YO G y k) ys
structure Cw(P zs:oA Pr):Prop where
 m:∀z∈zs,z∈P
 c:∀y∈P,∃z∈zs,Wn z y
 b:∀z∈zs,z.2<32
def Cw.thin{P d e:oA Pr}(h:Cw P d)(k:CvA d e):Cv P e:=⟨λu hu=>h.m u<|k.m u hu,λy hy=>by obtain⟨z,hz,a⟩:=h.c y hy;obtain⟨u,hu,b⟩:=k.c z hz;exact⟨u,hu,b.trans a⟩,k.u,λu hu=>h.b u<|k.m u hu⟩
def Cw.app{P Q a ys:oA Pr}(h:Cw P a)(k:Cw Q ys):Cw (P++Q) (a++ys):=by
 refine⟨λz hz=>?_,λy hy=>?_,λz hz=>(S_.mp hz).elim (h.b z)<|k.b z⟩
 ·exact S_.mpr<|(S_.mp hz).imp (h.m z)<|k.m z
 ·rcases S_.mp hy with hy|hy
  ·obtain⟨z,hz,e⟩:=h.c y hy;exact⟨z,aD _ hz,e⟩
  ·obtain⟨z,hz,e⟩:=k.c y hy;exact⟨z,aN _ hz,e⟩
def Cv.up{P a:oA Pr}(h:Cv P a)(c:Nat):Cw (P.map λq=>(c+q.1,q.2)) (a.map λq=>(c+q.1,q.2)):=by
 refine⟨λz hz=>?_,λy hy=>?_,λz hz=>?_⟩
 ·obtain⟨q,hq,rfl⟩:=D_.mp hz;exact D_.mpr ⟨q,h.m q hq,rfl⟩
 ·obtain⟨q,hq,rfl⟩:=D_.mp hy;obtain⟨z,hz,e⟩:=h.c q hq;exact⟨_,D_.mpr ⟨z,hz,rfl⟩,e⟩
 ·obtain⟨q,hq,rfl⟩:=D_.mp hz;exact h.b q hq
abbrev nRb:oA Str:=["tops","stand","w","least","firsts","found","rests","cost","bits"]
def Xp:FnScope nRb qI (Ah UL):=B5<|by decide +kernel
def VY:(["target","tops","w"]:oA Str).Nodup:=by decide +kernel
def KF:(qN:oA Str).Nodup:=by decide +kernel
def VZ:ASp:=λc a R=>∃(d:lT) (G:Tops) (s:Nat) (w:oA Nat),c=[.R d,.D<|.int (s:Nat),.D<|Av w,.D<|.bool true]/\TopK a d G/\Su G/\s<5/\w.length<=2/\∀(b:oA Pr) (l:lT) μ',Cv (Ln G s w) b->a l=none->μ' l=oG (b.map A4)->Sub a μ'->R (.R l) μ'
def WA{n:Nat}(F:Fun K "readings_by" "readings_by" UL f fd) (cAb:VCal P w K mg base n "as_bits" ["stands"] PJ) (cAs:VCal P w K mg base n "as_stands" ["bits"] PK) (qt:VCal P w K mg base n "thinned" oP HY) (zm:VCal P w K mg base n "one_of_each" oN PU) (ai:mg "len" = none):FnOk P w K mg base Eh (n+1) f fd qI (Gd K 4 VZ):=by
 refine F.vok Xp λaq A outer s H E L=>⟨_,(Af (Ct (Bd (Fv L) (A7 Dt rfl ai bP<|Aa (vv 2) Ae) Ag<|nomark _) (Ai<|Bf<|Br<|Aa (Bl<|Aa Ag<|Aa (Am cAb L rfl<|Aa (Bl<|Aa (vv 1) Ae) Ae) Ae) Ae) Bp)<|Af (Aq (i:=4) Xp.nd rfl oH<|F1 (Bx L) (vv 0) (Bl<|Aa (vv 1)<|Aa (Bh B2 (vv 2) Ag) Ae)<|Br Ae)<|Af (Ct (Bd (Fv L) (A7 Dt rfl ai bP<|Aa (vv 2) Ae) Ag<|nomark _) (Ai<|Bf<|Am qt L rfl<|Aa (vv 4)<|Aa (vv 3) Ae) Bp)<|Af (Aq (i:=5) Xp.nd rfl oH<|Br Ae)<|Af (Aq (i:=6) Xp.nd rfl oH Oz)<|Af (Cf aL rfl (Bb<|vv 4) (Es (n:=2) rfl<|Aw (Aj (i:=7) Xp.nd rfl oI)<|Aw (Aj (i:=8) Xp.nd rfl oH) B7)<|Af (Ct (Wi (Bx L) (vv 8)<|vv 6) (Ai<|Dl (Bx L) (vv 6) (vv 8)<|Am zm L rfl<|Aa (Bk (N':=["target","tops","w"]) (mp:=[none,some 0,some 2]) rfl (Bb<|Am cAs L rfl<|Aa (vv 8) Ae) (λ_ _ _ _=>(Aj (i:=0) VY rfl oH oI)) (λ_ _ _ _=>Bj) (λ_ _ _ _=>(F1 (Bx L) (vv 1) (Bl<|Aa (vv 0)<|Aa (Bh B2 (vv 2) Ag) Ae)<|Br Ae))<|Ap (N:=nRb) (pn:=(Ah UL).names)<|by decide +kernel)<|Aa (vv 3) Ae) Bp)<|Ai<|Ck<|Fw iI iJ Jz (vv 5)<|Aa (Bk (N':=qN) (mp:=[none,none,some 7]) rfl (Bb<|C9 (Bx L) (vv 6)<|vv 8) (λ_ _ _ _=>(Es (n:=2) rfl<|Aw (Aj (i:=0) KF rfl oH oI)<|Aw (Aj (i:=1) KF rfl oH oI) B7)) (λ_ _ _ _=>Bj) (λ_ _ _ _=>(Bl<|Aa (A8 B4 (vv 2)<|vv 0)<|Aa (vv 1) Ae))<|Ap (N:=nRb) (pn:=(Ah UL).names)<|by decide +kernel) Ae)<|Ai<|Bf<|Am qt L rfl<|Aa (vv 5)<|Aa (vv 3) Ae),?_⟩
 rintro xs μ R _ ⟨d,T,s,w,rfl,hT,hB,hs,hw,q⟩
 match w,hw,q with
 |[],_,q=>refine Cr ⟨Bn _,Bn _,Jd rfl ⟨_,[s],rfl,rfl,λt h=>by rw[O_.mp h];omega,λl hl=>⟨_,Sub.refl,q [(0,bts [s])] l _ ⟨λz hz=>hz,λy hy=>⟨y,hy,Wn.refl y⟩,by simp,λz hz=>by rw[O_.mp hz];exact Sv (ts:=[s]) (λt h=>by rw[O_.mp h];exact hs)<|by decide⟩ hl Ab<|Sub.refl.new hl⟩⟩⟩
 |[x],_,q=>refine Cr ⟨Bn _,Bn _,Hr rfl ?_⟩;refine Cr<|Hk hT Sub.refl s x (λQ h=>h) (λQ h=>Ac (x:=PyData.int (x:Nat)) rfl h) λl I hl S hlo=>?_;refine Cr ⟨Bn _,Bn _,Jd rfl ?_⟩;obtain⟨hg,hgb⟩:=hB (s,x);exact⟨l,T (s,x),rfl,hl,by omega,hgb,λO p μ2 C hp e2 S2=>⟨_,Sub.refl,q O p μ2 ⟨C.m,C.c,C.u,λz hz=>hgb z<|C.m z hz⟩ (S.none hp) e2 λb m hb=>S2 b m<|S b m hb⟩⟩
 |[x,y],_,q=>
  refine Cr ⟨Bn _,Bn _,Hr rfl ?_⟩;refine Cr<|Hk hT Sub.refl s x (λQ h=>h) (λQ h=>Ac (x:=PyData.int (x:Nat)) rfl h) λl I hl S hlo=>?_;refine Cr ⟨Bn _,Bn _,Hr rfl ?_⟩;intro f hf r L;have S1:Sub μ (Al I f<|.lst []):=S.new<|S.none hf;have ef:Al I f (.lst []) f=oG []:=Ab;have jm:Al I f (.lst []) l=oG ((T (s,x)).map A4):=Sub.refl.new hf _ _ hl;have fr:f≠r:=by rintro rfl;rw[ef]at L;cases L
  have f0:μ f=none:=S.none hf;have r0:μ r=none:=S1.none L;have S2:Sub μ (Al (Al I f<|.lst []) r<|.dk []):=S1.new r0;have ef2:Al (Al I f<|.lst []) r (.dk []) f=oG []:=by rw[Ad fr];exact ef
  have er2:Al (Al I f<|.lst []) r (.dk []) r=some (.dk []):=Ab;have dz:Al (Al I f<|.lst []) r (.dk []) l=oG ((T (s,x)).map A4):=Sub.refl.new L _ _ jm;have lf:l≠f:=by rintro rfl;rw[hf]at hl;cases hl
  have lr:l≠r:=by rintro rfl;rw[L]at jm;cases jm
  generalize Al (Al I f<|.lst []) r (.dk [])=μ2 at S2 ef2 er2 dz;clear jm ef S1;obtain⟨hG,hGl⟩:=hB (s,x);show We _ _ _ _ _ _ [oD d,oE (s:Nat),oF<|Av [x,y],oF<|.bool true,oD l,oD f,oD r,none,none] μ2;have eq:Ln T s [x,y]=(T (s,x)).flatMap λp=>(YO T y p.2).map λq=>(p.1+q.1,q.2):=rfl;rw[eq]at q;generalize T (s,x)=G at hG hGl q dz;refine Ay (λτ B=>∃o7 o8,∃O:oA Pr,τ=[oD d,oE (s:Nat),oF<|Av [x,y],oF<|.bool true,oD l,oD f,oD r,o7,o8]/\B f=oG (O.map A4)/\Cw (G.flatMap λp=>(YO T y p.2).map λq=>(p.1+q.1,q.2)) O/\O.length<=1024/\Sub μ B) (λZ hZ=>?_) ?_
  ·refine Ac (Ak dz) ?_;refine C8 (λi τ B=>∃o7 o8,∃(O:oA Pr) (kvs:oA<|Key×AV),τ=[oD d,oE (s:Nat),oF<|Av [x,y],oF<|.bool true,oD l,oD f,oD r,o7,o8]/\B f=oG (O.map A4)/\B r=some (.dk kvs)/\B l=oG (G.map A4)/\Cw ((G.take i).flatMap λp=>(YO T y p.2).map λq=>(p.1+q.1,q.2)) O/\O.length<=32*i/\kvs.length<=i/\VX T y f r kvs B/\Sub μ B) ⟨none,none,[],[],rfl,ef2,er2,dz,⟨(λ_ h=>nomatch h),(λ_ h=>nomatch h),(λ_ h=>nomatch h)⟩,G_ _,G_ _,(λ_ _ h=>nomatch h),S2⟩ (by rintro _ _ _ ⟨_,_,_,_,_,_,_,e,_⟩;exact Ak e) ?_ ?_
   ·rintro i v τ μ3 Z2 hv ⟨o7,o8,O,kvs,rfl,e3f,e3r,e3l,hm,mq,bz,hR,S3⟩ hZ2;rw[M_]at hv;obtain⟨⟨c,b⟩,hp,rfl⟩:=L_.mp hv;have hb:b<32:=hGl _<|V_ hp;have hi:=(F_.mp hp).1;refine⟨rfl,Pz ?_⟩;dsimp only[List.set];refine Ay (λτ B=>∃(kvs:oA<|Key×AV) (v:AV),τ=[oD d,oE (s:Nat),oF<|Av [x,y],oF<|.bool true,oD l,oD f,oD r,oE (c:Nat),oE (b:Nat)]/\B f=oG (O.map A4)/\B r=some (.dk kvs)/\B l=oG (G.map A4)/\Bu kvs (.inl (b:Nat))=some v/\kvs.length<=i+1/\VX T y f r kvs B/\Sub μ B) (λZ3 a9=>?_) ?_
    ·refine Ac e3r<|Ac (x:=Bu kvs<|.inl (b:Nat)) rfl ?_;cases hv:Bu kvs (.inl (b:Nat)) with
     |some v=>exact Hr rfl (a9 _ _ ⟨kvs,v,rfl,e3f,e3r,e3l,hv,bA bz,hR,S3⟩)
     |none=>
      refine Jd rfl ⟨b,rfl,hb,λJ S4=>Ac (Cg _) λY M=>?_⟩;have hTB:TopK J d T:=hT.sub λb m hb=>S4 b m<|S3 b m hb;have h5:(B3 b).length<=5:=K_ (bI _ _) (by rw[dS];exact G_ _);refine D5 (λi U τ' B=>∃o,∃ps:oA lT,τ'=[o,oD d,oF<|Av [x,y]]/\U=ps.map .R/\ps.length=i/\(∀(j:Nat) p t,ps[j]?=some p->(B3 b)[j]?=some t->p≠Y/\B p=oG ((T (t,y)).map A4))/\B Y=oG U/\Sub J B) ⟨none,[],rfl,rfl,rfl,(λ_ _ _ h=>nomatch h),Ab,Sub.refl.new M⟩ (λ_ _ _ _ _=>Cg _) ?_ ?_
      ·rintro j0 v U τ' μ5 W hv' ⟨o,ps,rfl,rfl,ag,lu,e5,V⟩ hW;rw[M_]at hv';obtain⟨t,ay,rfl⟩:=L_.mp hv';have hj5:=(F_.mp ay).1;refine Jd rfl<|Hk hTB V t y (λQ h=>h) (λQ h=>Ac (x:=PyData.int (y:Nat)) rfl h) λl5 μ6 xp S6 ho=>⟨S6 _ _ e5,A5<|by rw[C_];omega,hW _ _ _ ⟨_,ps++[l5],rfl,by rw[P_];rfl,by rw[R_,ag];rfl,?_,Ab,λb m hb=>?_⟩⟩
       ·have au:l5≠Y:=by
         rintro rfl;rcases ho with h|h
         ·exact h M
         ·rw[e5]at h;cases h
        intro j p t' h1 h2;rcases bN j ps.length with h|h
        ·rw[dP h]at h1;obtain⟨n,e⟩:=lu j p t' h1 h2;exact⟨n,by rw[Ad n];exact S6 _ _ e⟩
        ·rw[cW h]at h1;have h3:=(F_.mp h1).1;rw[jD]at h3;have h4:j=j0:=by omega
         rw[show j-ps.length=0 by omega]at h1;have h6:l5=p:=aX h1;rw[h4,ay]at h2;have h7:t=t':=aX h2;rw[<- h6,<- h7];exact⟨au,by rw[Ad au];exact xp⟩
       ·rw[Ad<|by rintro rfl;rw[M]at hb;cases hb];exact S6 _ _<|V _ _ hb
      ·rintro U τ' μ5 ⟨o,ps,rfl,rfl,ag,lu,e5,V⟩;rw[C_]at ag;refine⟨.R Y,ps,(B3 b).map λt=>T (t,y),rfl,Ak e5,⟨by rw[C_];exact ag,λj p g h1 h2=>?_⟩,λG' hG'=>?_,λus l6 μ6 C6 hl6 e6 S6=>?_⟩
       ·rw[M_]at h2;obtain⟨t,h3,rfl⟩:=L_.mp h2;exact(lu j p t h1 h3).2
       ·obtain⟨t,_,rfl⟩:=D_.mp hG';exact hB (t,y)
       ·have S36:Sub μ3 μ6:=λb m hb=>S6 _ _<|V _ _<|S4 _ _ hb;have lf6:l6≠f:=by rintro rfl;rw[V _ _<|S4 _ _ e3f]at hl6;cases hl6
        have lr6:l6≠r:=by rintro rfl;rw[V _ _<|S4 _ _ e3r]at hl6;cases hl6
        have gr:=Kv kvs (.inl (b:Nat))<|.R l6;refine Ac (S36 _ _ e3r)<|Ac (x:=MO.dk<|Dr kvs (.inl (b:Nat))<|.R l6) rfl ⟨A5<|show kvs.length<=_ by omega,a9 _ _ ⟨Dr kvs (.inl (b:Nat))<|.R l6,.R l6,rfl,by rw[Ad fr];exact S36 _ _ e3f,Ab,by rw[Ad lr];exact S36 _ _ e3l,by rw[Hi,N_ rfl],by omega,λk v hk=>?_,λb m hb=>?_⟩⟩
        ·rw[Hi]at hk;by_cases e:(Sum.inl (k:Int):Key)=.inl (b:Int)
         ·rw[N_ e]at hk;have e:k=b:=dZ<|gL e;subst e;exact⟨l6,us,(aX hk).symm,lf6,lr6,by rw[Ad lr6];exact e6,C6⟩
         ·rw[I_ e]at hk;obtain⟨a,ys,rfl,af,ar,ea,X⟩:=hR _ _ hk;exact⟨a,ys,rfl,af,ar,by rw[Ad ar];exact S36 _ _ ea,X⟩
        ·rw[Ad<|by rintro rfl;rw[r0]at hb;cases hb];exact S36 _ _<|S3 _ _ hb
    clear bz hR;rintro τ J ⟨kvs,v,rfl,e4f,e4r,e4l,hv,bz,hR,S4⟩;obtain⟨a,ys,rfl,af,ar,ea,X⟩:=hR _ _ hv;have yh:=X.len;refine⟨Ac e4f trivial,Ac e4r<|Ac (x:=some<|AV.R a) (by show some (Bu kvs<|.inl (b:Nat))=_;rw[hv])<|Ac (x:=AV.R a) rfl<|Ac (Ak ea) λY M=>?_⟩;have pa:a≠Y:=by rintro rfl;rw[M]at ea;cases ea
    have pf:f≠Y:=by rintro rfl;rw[M]at e4f;cases e4f
    have p0:μ Y=none:=S4.none M;refine cmap ys A4 (λq=>A4 (c+q.1,q.2)) (λτ=>∃o1 o2,τ=[o1,o2,oE (c:Nat)]) ⟨none,none,rfl⟩ Ab (seven<|by omega) (λU=>Ak<|by rw[Au,Ad pa];exact ea) ?_ ?_
    ·rintro j ⟨c2,b2⟩ τ' U W hq ⟨o1,o2,rfl⟩ hW;refine⟨rfl,Pz ?_⟩;exact hW _ ⟨_,_,rfl⟩
    ·rw[Au];have V:Sub J (Al J Y<|.lst<|ys.map λq=>A4 (c+q.1,q.2)):=Sub.refl.new M;have e5:Al J Y (.lst<|ys.map λq=>A4 (c+q.1,q.2)) Y=oG (ys.map λq=>A4 (c+q.1,q.2)):=Ab;generalize Al J Y (.lst<|ys.map λq=>A4 (c+q.1,q.2))=μ5 at V e5;have bh:G.take (i+1)=G.take i++[(c,b)]:=by rw[aJ,hp];rfl
     refine Ac (V _ _ e4f)<|Ac e5 ⟨cH<|PL<|by rw[C_,C_];omega,hZ2 _ _ ⟨_,_,O++ys.map (λq=>(c+q.1,q.2)),kvs,rfl,?_,by rw[Ad fr.symm];exact V _ _ e4r,by rw[Ad lf];exact V _ _ e4l,?_,by rw[R_,C_];omega,bz,λk v hk=>?_,λb m hb=>?_⟩⟩
     ·rw[Ab,P_,X_];rfl
     ·rw[bh,List.flatMap_append,List.flatMap_singleton];exact hm.app<|X.up c
     ·obtain⟨a,ys,rfl,af,ar,ea,X⟩:=hR _ _ hk;exact⟨a,ys,rfl,af,ar,by rw[Ad af];exact V _ _ ea,X⟩
     ·rw[Ad<|by rintro rfl;rw[f0]at hb;cases hb];exact V _ _<|S4 _ _ hb
   ·rintro τ μ3 ⟨o7,o8,O,kvs,rfl,e3f,e3r,e3l,hm,mq,bz,hR,S3⟩;rw[C_]at hm mq;rw[aK]at hm;exact hZ _ _ ⟨_,_,O,rfl,e3f,hm,by omega,S3⟩
  rintro τ μ3 ⟨o7,o8,O,rfl,e3,hm,mq,S3⟩;exact⟨f,O,rfl,e3,by omega,hm.b,λus p J C4 hp e4 S4=>⟨_,Sub.refl,q us p J (hm.thin C4) (S3.none hp) e4 λb m hb=>S4 b m<|S3 b m hb⟩⟩
theorem CV:∀{Gs a:oA<|oA Pr} {F F':oA Pr},Paired (λc P=>Cv P c) Gs a->(∀z∈F,z∈F')->∀z∈Gs.foldl (λF G=>F.flatMap λp=>G.map<|ewe p) F,z∈a.foldl (λF G=>F.flatMap λp=>G.map<|ewe p) F'
 |_,_,_,_,.nil,h=>h
 |_,_,_,_,.cons r t,h=>by rw[fC,fC];refine CV t λz hz=>?_;obtain⟨p,hp,hz⟩:=dG.mp hz;obtain⟨o,b,rfl⟩:=D_.mp hz;exact dG.mpr ⟨p,h p hp,D_.mpr ⟨o,r.m o b,rfl⟩⟩
theorem CW:∀{Gs a:oA<|oA Pr} {F F':oA Pr},Paired (λj P=>Cv P j) Gs a->(∀y∈F',∃z∈F,Wn z y)->∀y∈a.foldl (λF G=>F.flatMap λp=>G.map<|ewe p) F',∃z∈Gs.foldl (λF G=>F.flatMap λp=>G.map<|ewe p) F,Wn z y
 |_,_,_,_,.nil,h=>h
 |_,_,_,_,.cons r t,h=>by rw[fC,fC];refine CW t λy hy=>?_;obtain⟨p,hp,hy⟩:=dG.mp hy;obtain⟨o,i,rfl⟩:=D_.mp hy;obtain⟨d,k,g⟩:=h p hp;obtain⟨b,l,e⟩:=r.c o i;exact⟨ewe d b,dG.mpr ⟨d,k,D_.mpr ⟨b,l,rfl⟩⟩,CO g e⟩
def PZ{Gs d:oA<|oA Pr}(h:Paired (λa P=>Cv P a) Gs d){a:oA Pr}(C:Cv (cho Gs) a):Cv (cho d) a:=by
 refine⟨λz hz=>?_,λy hy=>?_,C.u,C.b⟩
 ·exact CV h (F:=[(0,0)]) (F':=[(0,0)]) (λz hz=>hz) z<|C.m z hz
 ·obtain⟨u,hu,e⟩:=CW h (F:=[(0,0)]) (F':=[(0,0)]) (λz hz=>⟨z,hz,Wn.refl z⟩) y hy;obtain⟨z,hz,g⟩:=C.c u hu;exact⟨z,hz,g.trans e⟩
theorem Uz:∀{Gs a:oA<|oA Pr},Paired (λd P=>Cv P d) Gs a->Cw a.flatten Gs.flatten
 |_,_,.nil=>⟨(λ_ h=>nomatch h),(λ_ h=>nomatch h),(λ_ h=>nomatch h)⟩
 |_,_,.cons r t=>by rw[kU,kU];exact Cw.app ⟨r.m,r.c,r.b⟩<|Uz t
def IB{Gs d:oA<|oA Pr}(h:Paired (λa P=>Cv P a) Gs d){a:oA Pr}(C:Cv Gs.flatten a):Cv d.flatten a:=by
 have k:=Uz h;refine⟨λz hz=>?_,λy hy=>?_,C.u,C.b⟩
 ·exact k.m z<|C.m z hz
 ·obtain⟨u,hu,e⟩:=k.c y hy;obtain⟨z,hz,g⟩:=C.c u hu;exact⟨z,hz,g.trans e⟩
def up1(z:Pr):Pr:=(z.1+1,z.2)
def Cv.up1{P a:oA Pr}(h:Cv P a):Cv (P.map up1) (a.map up1):=by
 refine⟨λz hz=>?_,λy hy=>?_,by rw[X_];exact h.u,λz hz=>?_⟩
 ·obtain⟨u,hu,rfl⟩:=D_.mp hz;exact D_.mpr ⟨u,h.m u hu,rfl⟩
 ·obtain⟨u,hu,rfl⟩:=D_.mp hy;obtain⟨z,hz,e⟩:=h.c u hu;exact⟨_,D_.mpr ⟨z,hz,rfl⟩,e⟩
 ·obtain⟨u,hu,rfl⟩:=D_.mp hz;exact h.b u hu
structure GqOk(g:Gq):Prop where
 p:g.pl.length<=5
 r:g.rs.length<=8
 ok:∀r∈g.rs,r.p<g.pl.length/\r.q<5/\r.w.length<=2
structure FlwK(μ0 μ:M)(d:lT)(g:Gq)(G Pf:Tops)(kvs:oA<|(Nat×Nat)×lT):Prop where
 dd:μ d=some (.dt<|kvs.map kvT)
 ll:∀e∈kvs,μ e.2=oG ((Pf e.1).map A4)/\e.2≠d
 n:kvs.length<=9
 kk:∀k,(∃e∈kvs,e.1=k)↔rgp g.rs k≠[]
 uu:(kvs.map (·.1)).Nodup
 pf:∀e∈kvs,Cv ((Ga g G e.1).map up1) (Pf e.1)
 nd:μ0 d=none
 ss:Sub μ0 μ
abbrev nFg:oA Str:=["game","tops","least","found","top","rules","groups","chosen"]
def Xq:FnScope nFg qJ (Ah UM):=B5<|by decide +kernel
def WB:(["rule","tops","least"]:oA Str).Nodup:=by decide +kernel
def KG:(oX:oA Str).Nodup:=by decide +kernel
def QA:ASp:=λh e R=>∃(g:Gq) (d:lT) (G:Tops),h=[.D<|Ee g,.R d,.D<|.bool true]/\GqOk g/\TopK e d G/\Su G/\∀c i b a,FlwK e a c g G i b->R (.R c) a
def WC{n:Nat}(F:Fun K "following" "following" UM f fd) (cRt:VCal P w K mg base n "rules_by_top" ["game"] VR) (cRb:VCal P w K mg base n "readings_by" qI VZ) (zm:VCal P w K mg base n "one_of_each" oN PU) (cOa:VCal P w K mg base n "one_of_any" oN VM) {t1:Tok} (mOH:mg "OTHER_HAND" = some (.int 1 t1)):FnOk P w K mg base Eh (n+1) f fd qJ (Gd K 3 QA):=by
 refine F.vok Xq λaq A outer s H E hr=>⟨_,(Af (Aq (i:=3) Xq.nd rfl oH E7)<|Af (Hh aL rfl (Am cRt hr rfl<|Aa (vv 0) Ae) (Aw (Aj (i:=4) Xq.nd rfl oH)<|Aw (Aj (i:=5) Xq.nd rfl oH) B7)<|Af (Dc (i:=6) (N':=["rule","tops","least"]) (mp:=[none,some 1,some 2]) rfl Xq.nd rfl rfl (Bb<|vv 5) (λ_ _ _ _=>(Aj (i:=0) WB rfl oH oI)) (λ_ _ _ _=>Bj) (λ_ _ _ _=>(Am cRb hr rfl<|Aa (vv 1)<|Aa (Bh B2 (vv 0) Ag)<|Aa (Bh B2 (vv 0) Ag)<|Aa (vv 2) Ae))<|Ap (N:=nFg) (pn:=(Ah UM).names)<|by decide +kernel)<|Af (Aq (i:=7) Xq.nd rfl oH<|Oo (Bd (Fv hr) (Bh B2 (Bh B2 (Bh B2 (vv 0) Ag)<|Bh B2 (vv 4) Ag) Ag) (FR rfl mOH (v:=.int 1) ⟨_,rfl⟩ λ_=>Df)<|nomark _) (Am zm hr rfl<|Aa (vv 6)<|Aa (vv 2) Ae)<|Am cOa hr rfl<|Aa (vv 6)<|Aa (vv 2) Ae)<|Ai<|Dl (Bx hr) (vv 3) (vv 4)<|Bk (N':=oX) (mp:=[none,none]) rfl (Bb<|vv 7) (λ_ _ _ _=>(Es (n:=2) rfl<|Aw (Aj (i:=0) KG rfl oH oI)<|Aw (Aj (i:=1) KG rfl oH oI) B7)) (λ_ _ _ _=>Bj) (λ_ _ _ _=>(Bl<|Aa (A8 B4 (vv 0) Ag)<|Aa (vv 1) Ae))<|Ap (N:=nFg) (pn:=(Ah UM).names)<|by decide +kernel)<|Ai<|Bf<|vv 3),?_⟩
 rintro xs μ R _ ⟨g,d,G,rfl,hg,hT,hB,q⟩;have hp3:=hg.p;have hr8:=hg.r;intro f hf;refine Ay (λB t=>∃o4 o5 o6 o7 a U,B=[oF<|Ee g,oD d,oF<|.bool true,oD f,o4,o5,o6,o7]/\FlwK μ t f g G U a) (λZ hZ=>?_) ?_
 ·refine⟨g,rfl,by omega,λdR m5 M T=>Ac T.dd ?_⟩;have Sf:Sub μ (Al μ f<|.dt []):=Sub.refl.new hf;have dR0:μ dR=none:=Sf.none T.fd;have fR:f≠dR:=by rintro rfl;have:=T.fd;rw[Ab]at this;cases this
  have S1:Sub μ (Cb M dR):=λb m hb=>by rw[A9<|by rintro rfl;rw[dR0]at hb;cases hb];exact T.ss _ _<|Sf _ _ hb
  have ef:Cb M dR f=some (.dt<|([]:oA<|(Nat×Nat)×lT).map kvT):=by rw[A9 fR];exact T.ss _ _ Ab
  have eR:∀e∈m5,Cb M dR e.2=oG ((rgp g.rs e.1).map Fr)/\e.2≠f:=λe he=>by obtain⟨h1,h2⟩:=T.fe e he;refine⟨by rw[A9 h2];exact T.ll e he,λz=>?_⟩;rw[z,Ab]at h1;cases h1
  have bz:m5.length<=8:=by
   have:=Fo (xs:=m5.map (·.1)) (ys:=g.rs.map λr=>(r.p,r.x)) T.uu λk hk=>by obtain⟨e,he,rfl⟩:=D_.mp hk;have h1:=(T.kk e.1).mp ⟨e,he,rfl⟩;obtain⟨r,h2⟩:=fS _ h1;obtain⟨h3,h4⟩:=a_.mp h2;refine D_.mpr ⟨r,h3,?_⟩;unfold En at h4;rw[bH,aW,aW]at h4;exact lD h4.1 h4.2
   rw[C_,C_]at this;exact K_ this hr8
  refine Ko (λi B t=>∃o4 o5 o6 o7 a U,B=[oF<|Ee g,oD d,oF<|.bool true,oD f,o4,o5,o6,o7]/\t f=some (.dt<|a.map kvT)/\(∀e∈a,t e.2=oG ((U e.1).map A4)/\e.2≠f)/\a.map (·.1)=(m5.take i).map (·.1)/\(∀e∈a,Cv ((Ga g G e.1).map up1)<|U e.1)/\(∀e∈m5,t e.2=oG ((rgp g.rs e.1).map Fr))/\Sub μ t) ⟨none,none,none,none,[],λ_=>[],rfl,ef,(λ_ h=>nomatch h),rfl,(λ_ h=>nomatch h),λe he=>(eR e he).1,S1⟩ ?_ ?_
  ·rintro i v B S W hv ⟨o4,o5,o6,o7,a,U,rfl,e2,hll,de,ii,hRs,S2⟩ hW;rw[M_]at hv;obtain⟨e,he,rfl⟩:=L_.mp hv;have ic:=V_ he;have ya:=hRs e ic;dsimp only[E6,Dd,Ou,List.set,kvT];refine Ay (λB t=>∃L ps Gs,B=[oF<|Ee g,oD d,oF<|.bool true,oD f,oF<|.tuple [.int (e.1.1:Nat),.int (e.1.2:Nat)],oD e.2,oD L,o7]/\t L=oG (ps.map .R)/\GrAt t ps Gs/\Paired (λu P=>Cv P u) Gs ((rgp g.rs e.1).map λr=>Ln G r.q r.w)/\(∀K∈Gs,K.length<=32/\∀p∈K,p.2<32)/\Sub S t) (λZ3 a9=>?_) ?_
   ·have nu:(rgp g.rs e.1).length<=8:=K_ (bI _ _) hr8;refine Ac (Ak ya) λL hpl=>?_;have xj:e.2≠L:=by intro z;rw[z,hpl]at ya;cases ya
    refine D5 (λj O Y t=>∃o,∃(ps:oA lT) (Gs:oA<|oA Pr),Y=[o,oD d,oF<|.bool true]/\O=ps.map .R/\ps.length=j/\Gs.length=j/\(∀(k:Nat) p G,ps[k]?=some p->Gs[k]?=some G->p≠L/\t p=oG (G.map A4))/\Paired (λu P=>Cv P u) Gs (((rgp g.rs e.1).take j).map λr=>Ln G r.q r.w)/\(∀K∈Gs,K.length<=32/\∀p∈K,p.2<32)/\t L=oG O/\t e.2=oG ((rgp g.rs e.1).map Fr)/\Sub S t) ⟨none,[],[],rfl,rfl,rfl,rfl,(λ_ _ _ h=>by simp at h),.nil,(λ_ h=>nomatch h),Ab,by rw[Ad xj];exact ya,Sub.refl.new hpl⟩ (by rintro _ _ _ _ ⟨_,_,_,_,_,_,_,_,_,_,_,X,_⟩;exact Ak X) ?_ ?_
    ·rintro j v O Y μ3 W2 ni ⟨o,ps,Gs,rfl,rfl,jm,dz,lu,ju,I,X,f3,S3⟩ hW2;rw[M_]at ni;obtain⟨r,uy,rfl⟩:=L_.mp ni;have hj:=(F_.mp uy).1;obtain⟨h1,_⟩:=a_.mp<|V_ uy;obtain⟨_,hq5,hw2⟩:=hg.ok r h1;refine Jd rfl<|Ac (A3 (j:=2) rfl)<|Ac (A3 (j:=3) rfl) ⟨d,G,r.q,r.w,rfl,hT.sub<|S2.trans S3,hB,hq5,hw2,λu l J C hl e4 V=>?_⟩;have vf:l≠L:=by rintro rfl;rw[X]at hl;cases hl
     refine⟨V _ _ X,A5<|by rw[C_];omega,hW2 _ _ _ ⟨_,ps++[l],Gs++[u],rfl,by rw[P_];rfl,by rw[R_,jm];rfl,by rw[R_,dz];rfl,λk p G k1 k2=>?_,?_,λG hG=>?_,Ab,by rw[Ad xj];exact V _ _ f3,(S3.trans V).new hpl⟩⟩
     ·rcases bN k ps.length with h|h
      ·rw[dP h]at k1;rw[dP<|by omega]at k2;obtain⟨n1,n2⟩:=lu k p G k1 k2;exact⟨n1,by rw[Ad n1];exact V _ _ n2⟩
      ·rw[cW h]at k1;rw[cW<|by omega]at k2;have h3:=(F_.mp k1).1;rw[jD]at h3;rw[show k-ps.length=0 by omega]at k1;rw[show k-Gs.length=0 by omega]at k2;cases k1;cases k2;exact⟨vf,by rw[Ad vf];exact e4⟩
     ·rw[aJ,uy,P_];exact kQ ju C
     ·rcases S_.mp hG with h|h
      ·exact I G h
      ·rw[O_.mp h];exact⟨C.len,C.b⟩
    ·rintro O Y μ3 ⟨o,ps,Gs,rfl,rfl,jm,dz,lu,ju,I,X,f3,S3⟩;rw[C_,aK]at ju;exact a9 _ _ ⟨L,ps,Gs,rfl,X,⟨by omega,λk p G h1 h2=>(lu k p G h1 h2).2⟩,ju,I,S3⟩
   rintro B μ3 ⟨L,ps,Gs,rfl,X,hGr,jx,I,S3⟩;have ln:e.1.1<g.pl.length:=by obtain⟨r,h2⟩:=fS _<|(T.kk e.1).mp ⟨e,ic,rfl⟩;obtain⟨h3,h4⟩:=a_.mp h2;unfold En at h4;rw[bH,aW,aW]at h4;rw[<- h4.1];exact(hg.ok r h3).1
   have hat:atI (g.pl.map Lb) ((e.1.1:Nat):Int)=some (Lb g.pl[e.1.1]):=A3 (by rw[M_,E_ ln];rfl);have rg:hnd g e.1=(g.pl[e.1.1]).2:=by unfold hnd;rw[bJ,M_,E_ ln];rfl
   have z5:Gs.length<=20:=by have h1:=bM jx;rw[C_]at h1;have:=bI (En e.1) g.rs;unfold rgp at h1;omega
   generalize g.pl[e.1.1]=pp at hat rg;refine Ay (λB t=>∃lc,∃u:oA Pr,B=[oF<|Ee g,oD d,oF<|.bool true,oD f,oF<|.tuple [.int (e.1.1:Nat),.int (e.1.2:Nat)],oD e.2,oD L,oD lc]/\t lc=oG (u.map A4)/\Cv (Ga g G e.1) u/\Sub μ3 t) (λZ3 a9=>?_) ?_
   ·refine Ac (A3 (j:=0) rfl)<|Ac (A3 (j:=0) rfl)<|Ac hat<|Ac (A3 (j:=1) rfl)<|ieq (λc=>?_) λc=>?_
    ·refine⟨.R L,ps,Gs,rfl,Ak X,hGr,I,λu l J C hl e4 V=>a9 _ _ ⟨l,u,rfl,e4,?_,V⟩⟩;unfold Ga;rw[N_<|by rw[rg];omega];exact PZ jx C
    ·refine⟨.R L,ps,Gs,rfl,Ak X,hGr,z5,I,λu l J C hl e4 V=>a9 _ _ ⟨l,u,rfl,e4,?_,V⟩⟩;unfold Ga;rw[I_<|by rw[rg];omega];exact IB jx C
   rintro B J ⟨lc,u,rfl,e4,C,V⟩;have hz9:=C.len;have bt:∀y∈a,y.1≠e.1:=λy av c=>by
    have h1:e.1∈(m5.take i).map (·.1):=by rw[<- de,<- c];exact D_.mpr ⟨y,av,rfl⟩
    have h2:((m5.take<|i+1).map (·.1)).Nodup:=T.uu.sublist<|(eD _ _).map _;rw[aJ,he,P_,bE]at h2;exact h2.2.2 _ h1 e.1 (by simp) rfl
   refine Ac (Ak e4) λpn gr=>?_;have lcn:lc≠pn:=by rintro rfl;rw[e4]at gr;cases gr
   have S24:=S3.trans V;have x8:S pn=none:=S24.none gr;have pnf:pn≠f:=by rintro rfl;rw[e2]at x8;cases x8
   refine cmap u A4 (λz=>A4 (z.1+1,z.2)) (λB=>∃o1 o2,B=[o1,o2]) ⟨none,none,rfl⟩ Ab (seven<|by omega) (λ_=>Ak<|by rw[Ad lcn,Ad lcn];exact e4) ?_ ?_
   ·rintro j ⟨c,b⟩ Y O W2 hj ⟨o1,o2,rfl⟩ hW2;exact⟨rfl,Pz<|hW2 _ ⟨_,_,rfl⟩⟩
   ·have S5:Sub S (Al (Al J pn<|.lst []) pn<|.lst<|u.map λz=>A4 (z.1+1,z.2)):=(S24.new x8).new x8;have e5:Al (Al J pn<|.lst []) pn (.lst<|u.map λz=>A4 (z.1+1,z.2)) pn=oG (u.map λz=>A4 (z.1+1,z.2)):=Ab;generalize Al (Al J pn<|.lst []) pn (.lst<|u.map λz=>A4 (z.1+1,z.2))=μ5 at S5 e5;have ep:dput (.dt<|a.map kvT) (.tuple [.int (e.1.1:Nat),.int (e.1.2:Nat)]) (.R pn)=some (.dt<|(a++[(e.1,pn)]).map kvT):=by rw[<- F9 bt];rfl
    have zau:a.length<=8:=by have:=bR List.length de;rw[C_,C_,aY]at this;omega
    refine Ac (S5 _ _ e2)<|Ac ep ⟨A5<|show(a.map kvT).length<=1000 by rw[C_];omega,hW _ _ ⟨_,_,_,_,a++[(e.1,pn)],λk=>if k=e.1 then u.map up1 else U k,rfl,Ab,λy av=>?_,?_,λy av=>?_,λy av=>?_,(S2.trans S5).new hf⟩⟩
    ·rcases S_.mp av with h|h
     ·obtain⟨h1,h2⟩:=hll y h;dsimp only;rw[I_<|bt y h,Ad h2];exact⟨S5 _ _ h1,h2⟩
     ·rw[O_.mp h];dsimp only;rw[N_ rfl,Ad pnf];exact⟨by rw[e5,X_];rfl,pnf⟩
    ·rw[P_,de,aJ,he,P_];rfl
    ·rcases S_.mp av with h|h
     ·dsimp only;rw[I_<|bt y h];exact ii y h
     ·rw[O_.mp h];dsimp only;rw[N_ rfl];exact C.up1
    ·rw[Ad (eR y av).2];exact S5 _ _<|hRs y av
  ·rintro B S ⟨o4,o5,o6,o7,a,U,rfl,e2,hll,de,ii,hRs,S2⟩;rw[C_,aK]at de;have uh:a.length=m5.length:=by have:=bR List.length de;rwa[C_,C_]at this
   refine hZ _ _ ⟨_,_,_,_,a,U,rfl,⟨e2,hll,by omega,λk=>?_,by rw[de];exact T.uu,ii,hf,S2⟩⟩;rw[<- T.kk k];constructor
   ·rintro⟨e,he,rfl⟩;have:e.1∈m5.map (·.1):=by rw[<- de];exact D_.mpr ⟨e,he,rfl⟩
    obtain⟨y,h1,h2⟩:=D_.mp this;exact⟨y,h1,h2⟩
   ·rintro⟨e,he,rfl⟩;have:e.1∈a.map (·.1):=by rw[de];exact D_.mpr ⟨e,he,rfl⟩
    obtain⟨y,h1,h2⟩:=D_.mp this;exact⟨y,h1,h2⟩
 rintro B M ⟨o4,o5,o6,o7,a,U,rfl,Q⟩;exact⟨_,Sub.refl,q f U a M Q⟩
structure DcK(μ:M)(d:lT)(Pf:Tops)(kvs:oA<|(Nat×Nat)×lT):Prop where
 dd:μ d=some (.dt<|kvs.map kvT)
 ll:∀e∈kvs,μ e.2=oG ((Pf e.1).map A4)/\e.2≠d
 n:kvs.length<=20
 uu:(kvs.map (·.1)).Nodup
structure WtOk(G Pf:Tops)(kvs:oA<|(Nat×Nat)×lT)(Wf:Tops)(kw:oA<|(Nat×Nat)×lT):Prop where
 k:∀e∈kw,∃e'∈kvs,e'.1=e.1
 w:∀e∈kw,Wf e.1≠[]/\(Wf e.1).Sublist (Pf e.1)/\∀z∈Wf e.1,∀y∈G e.1,¬Wn y z
 c:∀e'∈kvs,∀z∈Pf e'.1,(∃y∈G e'.1,Wn y z)\/∃e∈kw,e.1=e'.1/\z∈Wf e.1
def TopK.del{a:M}{d f:lT}{G:Tops}(h:TopK a d G)(g:f≠d){kvs:oA<|oA Key×AV}(e:a f=some (.dt kvs)):TopK (Cb a f) d G:=by obtain⟨k,h1,h2,i,b⟩:=h.at';refine⟨k,by rw[A9 g.symm];exact h1,λx hx=>?_,i,b⟩;have:=h2 x hx;rw[A9 λc=>by rw[c,e]at this;cases this];exact this
abbrev nNk:oA Str:=["kept","found","waiting","top","pairs","lows","left"]
def Xr:FnScope nNk qK (Ah UO):=B5<|by decide +kernel
def KH:(oX:oA Str).Nodup:=by decide +kernel
def WD:(["pair","lows"]:oA Str).Nodup:=by decide +kernel
def QB:ASp:=λi b R=>∃(dk c:lT) (G Pf:Tops) (kvs:oA<|(Nat×Nat)×lT),i=[.R dk,.R c]/\TopK b dk G/\Su G/\DcK b c Pf kvs/\(∀e∈kvs,(Pf e.1).length<=32/\∀z∈Pf e.1,z.2<32)/\c≠dk/\∀d g h a,DcK a d g h->WtOk G Pf kvs g h->b d=none->Sub (Cb b c) a->R (.R d) a
def WE{n:Nat}(F:Fun K "not_kept" "not_kept" UO f fd) (cHw:VCal P w K mg base n "has_within" oW PQ) (ai:mg "len" = none):FnOk P w K mg base Eh (n+1) f fd qK (Gd K 2 QB):=by
 refine F.vok Xr λaq A outer s H E hr=>⟨_,(Af (Aq (i:=2) Xr.nd rfl oH E7)<|Af (Hh aL rfl (vv 1) (Aw (Aj (i:=3) Xr.nd rfl oH)<|Aw (Aj (i:=4) Xr.nd rfl oH) B7)<|Af (Aq (i:=5) Xr.nd rfl oI<|Bk (N':=oX) (mp:=[none,none]) rfl (Bb<|F1 (Bx hr) (vv 0) (vv 3)<|Br Ae) (λ_ _ _ _=>(Es (n:=2) rfl<|Aw (Aj (i:=0) KH rfl oH oI)<|Aw (Aj (i:=1) KH rfl oH oI) B7)) (λ_ _ _ _=>Bj) (λ_ _ _ _=>(vv 1))<|Ap (N:=nNk) (pn:=(Ah UO).names)<|by decide +kernel)<|Af (Dc (i:=6) (N':=["pair","lows"]) (mp:=[none,some 5]) rfl Xr.nd rfl rfl (Bb<|vv 4) (λ_ _ _ _=>(Aj (i:=0) WD rfl oH oI)) (λ_ _ _ _=>(Cm<|Jy<|Fi<|Am cHw hr rfl<|Aa (vv 1)<|Aa (Bh B2 (vv 0) Ag) Ae)) (λ_ _ _ _=>(vv 0))<|Ap (N:=nNk) (pn:=(Ah UO).names)<|by decide +kernel)<|Ai<|Ct (Bd Os (A7 Dt rfl ai bP<|Aa (vv 6) Ae) Ag<|nomark _) (Ai<|Dl (Bx hr) (vv 2) (vv 3)<|vv 6) Bp)<|Ai<|Bf<|vv 2),?_⟩
 rintro xs μ R _ ⟨dk,M,G,L,u,rfl,hT,hB,D,hPB,pg,q⟩;intro J lp;have wf:J≠M:=by rintro rfl;rw[D.dd]at lp;cases lp
 have S0:Sub (Cb μ M) (Cb (Al μ J<|.dt []) M):=λb m hb=>by
  have gh:b≠M:=λz=>by rw[z]at hb;unfold Cb at hb;rw[N_ rfl]at hb;cases hb
  rw[A9 gh]at hb ⊢;rw[Ad<|by rintro rfl;rw[lp]at hb;cases hb];exact hb
 have hTd:=hT.del pg D.dd;have zan:=D.n;refine Ay (λτ d=>∃o3 o4 Y V C p,τ=[oD dk,oD M,oD J,o3,o4,Y,V]/\DcK d J C p/\WtOk G L u C p/\Sub (Cb μ M) d) (λZ hZ=>?_) ?_
 ·refine Ac (x:=MO.dt<|u.map kvT) (by rw[Ad wf.symm];exact D.dd) ?_;refine Ko (λi τ d=>∃o3 o4 Y V C p,τ=[oD dk,oD M,oD J,o3,o4,Y,V]/\p.length<=i/\DcK d J C p/\WtOk G L (u.take i) C p/\Sub (Cb μ M) d) ⟨none,none,none,none,λ_=>[],[],rfl,G_ _,⟨by rw[A9 wf];exact Ab,(λ_ h=>nomatch h),aE _,cX⟩,⟨(λ_ h=>nomatch h),(λ_ h=>nomatch h),(λ_ h=>nomatch h)⟩,S0⟩ ?_ ?_
  ·rintro i v τ r W hv ⟨o3,o4,Y,V,C,p,rfl,bz,B,I,U⟩ hW;rw[M_]at hv;obtain⟨e,he,rfl⟩:=L_.mp hv;have ic:=V_ he;have hi:=(F_.mp he).1;obtain⟨lq,hed⟩:=D.ll e ic;have eP:r e.2=oG ((L e.1).map A4):=U _ _ (by rw[A9 hed];exact lq);obtain⟨hg32,hgb⟩:=hB e.1;obtain⟨hp32,hpb⟩:=hPB e ic;have bh:u.take (i+1)=u.take i++[e]:=by rw[aJ,he];rfl
   have bt:∀g∈p,g.1≠e.1:=λg o c=>by obtain⟨e2,h1,h2⟩:=I.k g o;have S:((u.take<|i+1).map (·.1)).Nodup:=D.uu.sublist<|(eD _ _).map _;rw[bh,P_,bE]at S;exact S.2.2 e2.1 (D_.mpr ⟨e2,h1,rfl⟩) e.1 (by simp)<|h2.trans c
   dsimp only[E6,Dd,Ou,List.set,kvT];refine Ay (λτ d=>∃O,τ=[oD dk,oD M,oD J,oF<|.tuple [.int (e.1.1:Nat),.int (e.1.2:Nat)],oD e.2,oD O,V]/\d O=oG (((G e.1).map (·.2)).map Bt)/\Sub r d) (λZ3 a9=>?_) ?_
   ·dsimp only[Lh,Ow,NN];refine Hk (td:=Ft 0) (ty:=Ft 3) (τ:=[oD dk,oD M,oD J,oF<|.tuple [.int (e.1.1:Nat),.int (e.1.2:Nat)],oD e.2,Y,V]) hTd U e.1.1 e.1.2 (λQ h=>h) (λQ h=>h) ?_;intro l μ2 hl S2 _;refine Ac (Ak hl) λO X=>?_;have llw:l≠O:=by rintro rfl;rw[hl]at X;cases X
    refine cmap (G e.1) A4 (λz=>Bt z.2) (λτ=>∃o1 o2,τ=[o1,o2]) ⟨none,none,rfl⟩ Ab (seven<|by omega) (λ_=>Ak<|by rw[Au,Ad llw];exact hl) ?_ ?_
    ·rintro j z τ' acc W2 hj ⟨o1,o2,rfl⟩ hW2;exact⟨rfl,Pz<|hW2 _ ⟨_,_,rfl⟩⟩
    ·rw[Au];exact a9 _ _ ⟨O,rfl,by rw[Ab,X_];rfl,S2.new<|S2.none X⟩
   rintro τ μ2 ⟨O,rfl,e2,S2⟩;have yi:=S2 _ _ eP;refine Ay (λτ d=>∃t,τ=[oD dk,oD M,oD J,oF<|.tuple [.int (e.1.1:Nat),.int (e.1.2:Nat)],oD e.2,oD O,oD t]/\d t=oG (((L e.1).filter λz=>!((G e.1).map (·.2)).any λl=>decide (l &&& z.2=l)).map A4)/\r t=none/\Sub r d) (λZ3 a9=>?_) ?_
   ·refine Ac (Ak yi) λt T=>?_;have l1:e.2≠t:=by intro c;rw[c,T]at yi;cases yi
    have l2:O≠t:=by rintro rfl;rw[e2]at T;cases T
    refine cmapf (L e.1) A4 (λz=>!((G e.1).map (·.2)).any λl=>decide (l &&& z.2=l)) A4 (λτ=>∃o1,τ=[o1,oD O]) ⟨none,rfl⟩ Ab (seven<|by omega) (λ_=>Ak<|by rw[Au,Ad l1];exact yi) ?_ ?_
    ·rintro j z τ' acc W1 W2 hj ⟨o1,rfl⟩ w1 w2;refine Ac (x:=PyData.int (z.2:Nat)) (A3 (j:=1) rfl) ⟨O,(G e.1).map (·.2),z.2,rfl,by rw[Au,Ad l2];exact e2,?_⟩;rw[Au]at w1 w2 ⊢;cases hh:((G e.1).map (·.2)).any λl=>decide (l &&& z.2=l) with
     |true=>exact Hr rfl (w2 (by rw[hh];rfl) _ ⟨_,rfl⟩)
     |false=>exact Jd rfl<|w1 (by rw[hh];rfl) _ ⟨_,rfl⟩
    ·rw[Au];exact a9 _ _ ⟨t,rfl,Ab,S2.none T,S2.new<|S2.none T⟩
   rintro τ μ3 ⟨t,rfl,e3,T,S3⟩;have zae:∀z:Pr,(((G e.1).map (·.2)).any λl=>decide (l &&& z.2=l))=true↔∃y∈G e.1,Wn y z:=λz=>by
    rw[dO];constructor
    ·rintro⟨b,hb,h⟩;obtain⟨y,hy,rfl⟩:=D_.mp hb;exact⟨y,hy,N1.mp<|aQ h⟩
    ·rintro⟨y,hy,h⟩;exact⟨y.2,D_.mpr ⟨y,hy,rfl⟩,aZ<|N1.mpr h⟩
   have lm:∀z,z∈((L e.1).filter λz=>!((G e.1).map (·.2)).any λl=>decide (l &&& z.2=l))↔z∈L e.1/\¬ ∃y∈G e.1,Wn y z:=λz=>by rw[a_,<- zae z,Bool.not_eq_true',Bool.not_eq_true]
   have n9:((L e.1).filter λz=>!((G e.1).map (·.2)).any λl=>decide (l &&& z.2=l)).Sublist (L e.1):=List.filter_sublist;generalize ((L e.1).filter λz=>!((G e.1).map (·.2)).any λl=>decide (l &&& z.2=l))=lf0 at e3 lm n9;have wx:∀z∈L e.1,(∃y∈G e.1,Wn y z)\/z∈lf0:=λz hz=>(Classical.em (∃y∈G e.1,Wn y z)).imp id λh=>(lm z).mpr ⟨hz,h⟩;refine Ac e3<|dif (λc=>?_) λc=>?_
   ·have au:lf0≠[]:=by
     rintro rfl;exact absurd c<|by decide
    have lfw:t≠J:=by rintro rfl;rw[B.dd]at T;cases T
    have ep:dput (.dt<|p.map kvT) (.tuple [.int (e.1.1:Nat),.int (e.1.2:Nat)]) (.R t)=some (.dt<|(p++[(e.1,t)]).map kvT):=by rw[<- F9 bt];rfl
    refine Ac (S3 _ _ B.dd)<|Ac ep ⟨A5<|show(p.map kvT).length<=1000 by rw[C_];omega,hW _ _ ⟨_,_,_,_,λk=>if k=e.1 then lf0 else C k,p++[(e.1,t)],rfl,by rw[R_];exact jM bz,⟨Ab,λg o=>?_,by rw[R_];show p.length+1<=20;omega,?_⟩,⟨λg o=>?_,λg o=>?_,λg o z hz=>?_⟩,Ed (U.trans S3)<|by rw[A9 wf];exact lp⟩⟩
    ·rcases S_.mp o with h|h
     ·obtain⟨h1,h2⟩:=B.ll g h;rw[I_<|bt g h,Ad h2];exact⟨S3 _ _ h1,h2⟩
     ·rw[O_.mp h];rw[N_ rfl,Ad lfw];exact⟨e3,lfw⟩
    ·rw[P_,bE];refine⟨B.uu,by simp,λx hx y hy c2=>?_⟩;obtain⟨g,o,rfl⟩:=D_.mp hx;have hy:y=e.1:=by simpa using hy
     exact bt g o<|c2.trans hy
    ·rw[bh];rcases S_.mp o with h|h
     ·obtain⟨i9,h1,h2⟩:=I.k g h;exact⟨i9,aD _ h1,h2⟩
     ·rw[O_.mp h];exact⟨e,by simp,rfl⟩
    ·rcases S_.mp o with h|h
     ·rw[I_<|bt g h];exact I.w g h
     ·rw[O_.mp h];rw[N_ rfl];exact⟨au,n9,λz hz y hy hw=>((lm z).mp hz).2 ⟨y,hy,hw⟩⟩
    ·rw[bh]at o;rcases S_.mp o with h|h
     ·refine(I.c g h z hz).imp id λ⟨i9,h1,h2,S⟩=>⟨i9,aD _ h1,h2,?_⟩;rw[I_<|bt i9 h1];exact S
     ·rw[O_.mp h]at hz ⊢;refine(wx z hz).imp id λS=>⟨(e.1,t),by simp,rfl,?_⟩;rw[N_ rfl];exact S
   ·have rf:lf0=[]:=by
     cases lf0 with
     |nil=>rfl
     |cons a l=>exact absurd (show(0:Int)<(((a::l).map A4).length:Nat) from by rw[C_,aR];omega) c
    refine hW _ _ ⟨_,_,_,_,C,p,rfl,bA bz,⟨S3 _ _ B.dd,λg o=>⟨S3 _ _ (B.ll g o).1,(B.ll g o).2⟩,B.n,B.uu⟩,⟨λg o=>?_,I.w,λg o z hz=>?_⟩,U.trans S3⟩
    ·rw[bh];obtain⟨i9,h1,h2⟩:=I.k g o;exact⟨i9,aD _ h1,h2⟩
    ·rw[bh]at o;rcases S_.mp o with h|h
     ·exact I.c g h z hz
     ·rw[O_.mp h]at hz ⊢;refine(wx z hz).imp id λS=>?_;rw[rf]at S;cases S
  ·rintro τ r ⟨o3,o4,Y,V,C,p,rfl,bz,B,I,U⟩;rw[C_,aK]at I;exact hZ _ _ ⟨_,_,_,_,C,p,rfl,B,I,U⟩
 rintro τ r ⟨o3,o4,Y,V,C,p,rfl,B,I,U⟩;exact⟨_,Sub.refl,q J C p r B I lp U⟩
def U0(l:oA Nat):G1 (l.map Bt)=some (l.map λ(n:Nat)=>(n:Int)):=by
 induction l with
 |nil=>rfl
 |cons n l a=>show(G1<|l.map Bt).map _=_;rw[a];rfl
theorem Qh:∀ns:oA Nat,(ns.map λ(n:Nat)=>(n:Int)).sum=((ns.sum:Nat):Int)
 |[]=>rfl
 |n::ns=>by rw[aP,jP,jP,Qh ns];rfl
abbrev nHm:oA Str:=oO
def Qbp:FnScope nHm oO (Ah YJ):=B5<|by decide +kernel
def WF:(oK:oA Str).Nodup:=by decide +kernel
def WG:ASp:=λc b R=>∃(d:lT) (G:Tops) (kvs:oA<|(Nat×Nat)×lT),c=[.R d]/\DcK b d G kvs/\(∀e∈kvs,(G e.1).length<=32)/\∀ a,Sub b a->R (.D<|.int ((kvs.map λe=>(G e.1).length).sum:Nat)) a
def WH{n:Nat}(F:Fun K "how_many" "how_many" YJ f fd) (u:mg "sum" = none) (l:mg "len" = none):FnOk P w K mg base Eh (n+1) f fd oO (Gd K 1 WG):=by
 refine F.vok Qbp λB A j s H E C=>⟨_,(Ai<|Bf<|A7 (TN rfl) rfl u PyProof.Rows.boot_sum<|Aa (Ps (N':=oK) (mp:=[none]) rfl (vv 0) (λ_ _ _ _=>(Aj (i:=0) WF rfl oH oI)) (λ_ _ _ _=>Bj) (λ_ _ _ _=>(A7 Dt rfl l bP<|Aa (vv 0) Ae))<|Ap (N:=nHm) (pn:=(Ah YJ).names)<|by decide +kernel) Ae),?_⟩;rintro I J R _ ⟨d,G,a,rfl,D,hb,q⟩;refine Ac D.dd λp hp=>?_;have v:d≠p:=by rintro rfl;rw[D.dd]at hp;cases hp
 rw[show(a.map kvT).map (λx=>x.2)=a.map λe=>AV.R e.2 by rw[X_];rfl];have k:=D.n;refine cmap a (λe=>AV.R e.2) (λe=>.D<|.int ((G e.1).length:Nat)) (λy=>∃o,y=[o]) ⟨none,rfl⟩ Ab (seven<|by omega) (λ_=>trivial) ?_ ?_
 ·rintro i e r t W he ⟨o,rfl⟩ hW;obtain⟨h1,h2⟩:=D.ll e<|V_ he;have h:e.2≠p:=λz=>by rw[z,hp]at h1;cases h1
  refine Ac (x:=MO.lst<|(G e.1).map A4) (by rw[Au,Ad h,A9 h2];exact h1) ?_;show W _ (.D<|.int (((G e.1).map A4).length:Nat)) _;rw[C_];exact hW _ ⟨_,rfl⟩
 ·refine Ac (x:=MO.lst<|(a.map λe=>(G e.1).length).map Bt) (by rw[Ad v.symm,Ab,X_];rfl)<|Ac (U0 _) ⟨⟨λn k=>?_,by rw[C_,C_];omega⟩,_,Sub.refl,?_⟩
  ·obtain⟨m,c,rfl⟩:=D_.mp k;obtain⟨e,he,rfl⟩:=D_.mp c;have:=hb e he;omega
  ·rw[Qh];refine q _ λb m c=>?_;by_cases g:b=d
   ·rw[g,Ab,<- c,g,D.dd]
   ·rw[Ad g,Ad (by rintro rfl;rw[hp]at c;cases c),Ad (by rintro rfl;rw[hp]at c;cases c),A9 g];exact c
structure Kpt(μ:M)(d:lT)(G:Tops)(kk:oA<|(Nat×Nat)×lT):Prop where
 D:DcK μ d G kk
 o:∀k,(∀e∈kk,e.1≠k)->G k=[]
 b:∀e∈kk,e.1.1<5/\e.1.2<4
def Kpt.top{b:M}{d:lT}{G:Tops}{a:oA<|(Nat×Nat)×lT}(h:Kpt b d G a):TopK b d G:=⟨a,h.D.dd,λe he=>(h.D.ll e he).1,h.o,h.D.uu⟩
def QC{ks:oA<|Nat×Nat}(h:ks.Nodup)(hb:∀k∈ks,k.1<5/\k.2<4):ks.length<=20:=by have:=Fo (ys:=(List.range 5).flatMap λi=>(List.range 4).map λj=>(i,j)) h λk hk=>dG.mpr ⟨k.1,bK.mpr (hb k hk).1,D_.mpr ⟨k.2,bK.mpr (hb k hk).2,rfl⟩⟩;exact this
def putK(kvs:oA<|(Nat×Nat)×lT)(k:Nat×Nat)(z:lT):oA ((Nat×Nat)×lT):=if ∃e∈kvs,e.1=k then kvs.map λe=>if e.1=k then(k,z) else e else kvs++[(k,z)]
def WI{kvs:oA<|(Nat×Nat)×lT}{k:Nat×Nat}{z:lT}:Dr (kvs.map kvT) [.inl (k.1:Nat),.inl (k.2:Nat)] (.R z)=(putK kvs k z).map kvT:=by
 unfold putK;split
 ·rename_i h;obtain⟨e,he,rfl⟩:=h;unfold Dr;rw[N_<|dO.mpr ⟨kvT e,D_.mpr ⟨e,he,rfl⟩,aZ rfl⟩,X_,X_];refine iE λx _=>?_;by_cases c:x.1=e.1
  ·show ite _ _ _=kvT (ite _ _ _);rw[N_ c,N_<|by rw[<- c];rfl,<- c];rfl
  ·show ite _ _ _=kvT (ite _ _ _);rw[I_ c];exact I_ λz=>c<|N3 z
 ·rename_i h;exact F9 λe he c=>h ⟨e,he,c⟩
def put_mem{kvs:oA<|(Nat×Nat)×lT}{k:Nat×Nat}{z:lT}{e:(Nat×Nat)×lT}(h:e∈putK kvs k z):e=(k,z)\/(e∈kvs/\e.1≠k):=by
 unfold putK at h;split at h
 ·obtain⟨x,hx,rfl⟩:=D_.mp h;by_cases c:x.1=k
  ·rw[N_ c];exact .inl rfl
  ·rw[I_ c];exact .inr ⟨hx,c⟩
 ·rename_i a;rcases S_.mp h with h|h
  ·exact .inr ⟨h,λc=>a ⟨e,h,c⟩⟩
  ·exact .inl<|O_.mp h
def put_keys{kvs:oA<|(Nat×Nat)×lT}{k:Nat×Nat}{z:lT}:(putK kvs k z).map (·.1)=kvs.map (·.1)\/(k∉kvs.map (·.1)/\(putK kvs k z).map (·.1)=kvs.map (·.1)++[k]):=by
 unfold putK;split
 ·refine .inl ?_;rw[X_];refine iE λx _=>?_;show(ite _ _ _:(Nat×Nat)×lT).1=x.1;split
  ·rename_i c;exact c.symm
  ·rfl
 ·rename_i a;refine .inr ⟨λz=>?_,by rw[P_];rfl⟩;obtain⟨e,he,c⟩:=D_.mp z;exact a ⟨e,he,c⟩
def IC{kvs:oA<|(Nat×Nat)×lT}{k:Nat×Nat}{z:lT}:k∈(putK kvs k z).map (·.1):=by
 rcases put_keys (kvs:=kvs) (k:=k) (z:=z) with h|h
 ·unfold putK at h ⊢;split
  ·rename_i a;obtain⟨e,he,rfl⟩:=a;rw[N_ ⟨e,he,rfl⟩]at h;rw[h];exact D_.mpr ⟨e,he,rfl⟩
  ·rw[P_];exact aN _<|.head _
 ·rw[h.2];exact aN _<|.head _
def Kpt.put{m:M}{d z:lT}{G p:Tops}{g:oA<|(Nat×Nat)×lT}{k:Nat×Nat}(h:Kpt m d G g)(hk:k.1<5/\k.2<4)(hz:m z=oG ((p k).map A4))(i:z≠d)(s:∀j,j≠k->p j=G j):Kpt (Al m d<|.dt<|(putK g k z).map kvT) d p (putK g k z):=by
 have hb:∀e∈putK g k z,e.1.1<5/\e.1.2<4:=λe he=>(put_mem he).elim (λc=>by rw[c];exact hk) λc=>h.b e c.1;have hu:((putK g k z).map (·.1)).Nodup:=by
  rcases put_keys (kvs:=g) (k:=k) (z:=z) with e|⟨n,e⟩
  ·rw[e];exact h.D.uu
  ·rw[e,bE];exact⟨h.D.uu,by simp,λa ha b hb c=>n<|by rw[<- O_.mp hb,<- c];exact ha⟩
 refine⟨⟨Ab,λe he=>?_,?_,hu⟩,λj hj=>?_,hb⟩
 ·rcases put_mem he with rfl|⟨h1,h2⟩
  ·exact⟨by rw[Ad i];exact hz,i⟩
  ·obtain⟨v,r⟩:=h.D.ll e h1;exact⟨by rw[Ad r,s _ h2];exact v,r⟩
 ·have:=QC hu λk hk=>by
   obtain⟨e,he,rfl⟩:=D_.mp hk;exact hb e he
  rwa[C_]at this
 ·have l:j≠k:=λc=>by
   obtain⟨e,he,u⟩:=D_.mp<|IC (kvs:=g) (k:=k) (z:=z);exact hj e he<|u.trans c.symm
  rw[s j l];refine h.o j λe he c=>?_;have:e.1∈(putK g k z).map (·.1):=by
   rcases put_keys (kvs:=g) (k:=k) (z:=z) with q|⟨_,q⟩
   ·rw[q];exact D_.mpr ⟨e,he,rfl⟩
   ·rw[q];exact aD _<|D_.mpr ⟨e,he,rfl⟩
  obtain⟨x,t,y⟩:=D_.mp this;exact hj x t<|y.trans c
abbrev nKc:oA Str:=["kept","waiting","pairs","cheapest","top"]
def ID:FnScope nKc qL (Ah UN):=B5<|by decide +kernel
def WJ:(oK:oA Str).Nodup:=by decide +kernel
def WK:(["pair","cheapest"]:oA Str).Nodup:=by decide +kernel
structure Chp(Wf N:Tops)(kw:oA<|(Nat×Nat)×lT)(c:Nat):Prop where
 i:∀e∈kw,N e.1=(Wf e.1).filter λz=>decide (z.1=c)
 o:∀k,(∀e∈kw,e.1≠k)->N k=[]
def WL:ASp:=λj h R=>∃(dk g:lT) (G d:Tops) (i a:oA<|(Nat×Nat)×lT),j=[.R dk,.R g]/\Kpt h dk G i/\DcK h g d a/\a≠[]/\(∀e∈a,d e.1≠[])/\(∀e∈a,e.1.1<5/\e.1.2<4)/\Su G/\(∀e∈a,(d e.1).length<=32/\∀z∈d e.1,z.2<32)/\dk≠g /\
 ∀c N l b,(∃e∈a,∃z∈d e.1,z.1=c)->Chp d N a c->Kpt b dk (λk=>G k++N k) l->Sub (Cb (Cb h g) dk) b->R (.D .none) b
def WM{n:Nat}(F:Fun K "keep_cheapest" "keep_cheapest" UN f fd) (b7:mg "min" = none):FnOk P w K mg base Eh (n+1) f fd qL (Gd K 2 WL):=by
 refine F.vok ID λaq A outer s H E hr=>⟨_,(Af (Aq (i:=3) ID.nd rfl oI<|A7 (Sg hr rfl) rfl b7 gX<|Aa (Ps (N':=oK) (mp:=[none]) rfl (vv 1) (λ_ _ _ _=>(Aj (i:=0) WJ rfl oH oI)) (λ_ _ _ _=>Bj) (λ_ _ _ _=>(Bh B2 (A7 (Sg hr rfl) rfl b7 gX<|Aa (vv 0) Ae) Ag))<|Ap (N:=nKc) (pn:=(Ah UN).names)<|by decide +kernel) Ae)<|Ai<|Hh aL rfl (vv 1) (Aw (Aj (i:=4) ID.nd rfl oH)<|Aw (Aj (i:=2) ID.nd rfl oH) B7)<|Ai<|Dl (Bx hr) (vv 0) (vv 4)<|A8 B4 (F1 (Bx hr) (vv 0) (vv 4)<|Br Ae)<|Bk (N':=["pair","cheapest"]) (mp:=[none,some 3]) rfl (Bb<|vv 2) (λ_ _ _ _=>(Aj (i:=0) WK rfl oH oI)) (λ_ _ _ _=>(Cm<|Bd (Fv hr) (Bh B2 (vv 0) Ag) (vv 1)<|nomark _)) (λ_ _ _ _=>(vv 0))<|Ap (N:=nKc) (pn:=(Ah UN).names)<|by decide +kernel),?_⟩
 rintro xs Y R _ ⟨dk,r,G,g,kk,U,rfl,T,D,au,hW0,hbw,hGB,hWB,lp,q⟩;refine Ay (λτ a=>∃c:Nat,τ=[oD dk,oD r,none,oE (c:Nat),none]/\Sub Y a/\∃e∈U,∃z∈g e.1,z.1=c) (λZ hZ=>?_) ?_
 ·refine Ac D.dd λp hp=>?_;have z6:r≠p:=by rintro rfl;rw[D.dd]at hp;cases hp
  rw[show(U.map kvT).map (λx=>x.2)=U.map λe=>AV.R e.2 by rw[X_];rfl];have hn:=D.n;refine D5 (λi L τ a=>∃(o:oB AV) (S:oA Nat),τ=[o]/\L=S.map Bt/\S.length=i/\(∀c∈S,∃e∈U,∃z∈g e.1,z.1=c)/\a=Al (Cb Y r) p (.lst L)) ⟨none,[],rfl,rfl,rfl,(λ_ h=>nomatch h),rfl⟩ (λ_ _ _ _ _=>trivial) ?_ ?_
  ·rintro i x L τ a W hx ⟨o,S,rfl,rfl,bj,jr,rfl⟩ hW;rw[M_]at hx;obtain⟨e,he,rfl⟩:=L_.mp hx;have V:=V_ he;obtain⟨h1,h2⟩:=D.ll e V;have hep:e.2≠p:=λz=>by rw[z,hp]at h1;cases h1
   refine Jd rfl<|Ac (x:=MO.lst<|(g e.1).map A4) (by rw[Ad hep,A9 h2];exact h1)<|Ac (P0 _) ⟨⟨?_,λd J=>?_⟩,λd J _=>?_⟩
   ·rw[C_];exact iD.mpr<|hW0 e V
   ·obtain⟨z,_,rfl⟩:=D_.mp J;exact⟨Qa z,λd J=>by obtain⟨y,_,rfl⟩:=D_.mp J;exact Uv z y⟩
   ·obtain⟨z,hz,rfl⟩:=D_.mp J;refine Ac (x:=PyData.int (z.1:Nat)) (A3 (j:=0) rfl) ⟨Ab,by rw[C_,bj];exact Y_ (F_.mp he).1<|K_ hn<|by decide,hW _ _ _ ⟨_,S++[z.1],rfl,by rw[P_];rfl,by rw[R_,bj];rfl,λc hc=>?_,Au⟩⟩;rcases S_.mp hc with hc|hc
    ·exact jr c hc
    ·exact⟨e,V,z,hz,(O_.mp hc).symm⟩
  ·rintro L τ a ⟨o,S,rfl,rfl,bj,jr,rfl⟩;have hc0:0<S.length:=by rw[bj,C_];exact iD.mpr au
   refine Ac (x:=MO.lst<|S.map Bt) (by rw[Ad z6.symm,Ab])<|Ac (Ec S) ⟨⟨by rw[C_];exact hc0,λd J=>?_⟩,λd J _=>?_⟩
   ·obtain⟨c,_,rfl⟩:=D_.mp J;refine⟨Bn _,λd J=>?_⟩;obtain⟨c',_,rfl⟩:=D_.mp J;simp only[cmpb]
   ·obtain⟨c,hc,rfl⟩:=D_.mp J;refine hZ _ _ ⟨c,rfl,λb m hm=>?_,jr c hc⟩;by_cases gh:b=r
    ·rw[gh,Ab,<- hm,gh,D.dd]
    ·rw[Ad gh,Ad (by rintro rfl;rw[hp]at hm;cases hm),A9 gh];exact hm
 rintro τ μ1 ⟨c,rfl,S1,cu⟩;refine Ac (S1 _ _ D.dd) ?_;have S0:Sub (Cb (Cb Y r) dk) (Cb μ1 r):=λb m hb=>by
  have h1:b≠dk:=λz=>by rw[z]at hb;unfold Cb at hb;rw[N_ rfl]at hb;cases hb
  rw[A9 h1]at hb;have h2:b≠r:=λz=>by rw[z]at hb;unfold Cb at hb;rw[N_ rfl]at hb;cases hb
  rw[A9 h2]at hb ⊢;exact S1 _ _ hb
 have T0:Kpt (Cb μ1 r) dk (λk=>G k++[]) kk:=⟨⟨by rw[A9 lp];exact S1 _ _ T.D.dd,λe he=>?_,T.D.n,T.D.uu⟩,λk hk=>by rw[T.o k hk];rfl,T.b⟩
 ·refine Ko (λi τ a=>∃o2 o4 N sy,τ=[oD dk,oD r,o2,oE (c:Nat),o4]/\Chp g N (U.take i) c/\Kpt a dk (λk=>G k++N k) sy/\Sub (Cb (Cb Y r) dk) a) ⟨none,none,λ_=>[],kk,rfl,⟨(λ_ h=>nomatch h),λ_ _=>rfl⟩,T0,S0⟩ ?_ ?_
  ·rintro i v τ M W hv ⟨o2,o4,N,t,rfl,C,u,S2⟩ hW;rw[M_]at hv;obtain⟨e,he,rfl⟩:=L_.mp hv;have V:=V_ he;have bh:U.take (i+1)=U.take i++[e]:=by rw[aJ,he];rfl
   obtain⟨lq,hed⟩:=D.ll e V;have qu:e.2≠dk:=λz=>by rw[z,T.D.dd]at lq;cases lq
   have eW:M e.2=oG ((g e.1).map A4):=S2 _ _ (by rw[A9 qu,A9 hed];exact lq);have dk0:Cb (Cb Y r) dk dk=none:=N_ rfl;have bt:∀B∈U.take i,B.1≠e.1:=λB O c=>by have X:((U.take<|i+1).map (·.1)).Nodup:=D.uu.sublist<|(eD _ _).map _;rw[bh,P_,bE]at X;exact X.2.2 B.1 (D_.mpr ⟨B,O,rfl⟩) e.1 (by simp) c
   have hN:N e.1=[]:=C.o _ bt;dsimp only[E6,Dd,Ou,List.set,kvT,Zj,Tn,Ow,NN];refine Hk (td:=Ft 0) (ty:=Ft 4) (τ:=[oD dk,oD r,oD e.2,oE (c:Nat),oF<|.tuple [.int (e.1.1:Nat),.int (e.1.2:Nat)]]) u.top Sub.refl e.1.1 e.1.2 (λQ h=>h) (λQ h=>h) ?_;intro l I hl S3 _;have hl:I l=oG ((G e.1).map A4):=by rw[hl];show some (MO.lst<|(G e.1++N e.1).map A4)=_;rw[hN,cB]
   have yw:=S3 _ _ eW;obtain⟨hg32,hgb⟩:=hGB e.1;obtain⟨hw32,hwb⟩:=hWB e V;refine Ac (Ak yw) λp hp=>?_;have l1:e.2≠p:=by intro z;rw[z,hp]at yw;cases yw
   have l2:l≠p:=by rintro rfl;rw[hl]at hp;cases hp
   refine cmapf (g e.1) A4 (λz=>decide (z.1=c)) A4 (λτ=>∃o1,τ=[o1,oE (c:Nat)]) ⟨none,rfl⟩ Ab (seven<|by omega) (λ_=>Ak<|by rw[Au,Ad l1];exact yw) ?_ ?_
   ·rintro j z τ' L W1 W2 hj ⟨o1,rfl⟩ w1 w2;exact Ac (x:=PyData.int (z.1:Nat)) (A3 (j:=0) rfl)<|ieq (λe=>w1 (aZ<|dZ e) _ ⟨_,rfl⟩) λe=>w2 (aS λh=>e<|bR Int.ofNat h) _ ⟨_,rfl⟩
   ·rw[Au];have ag:((g e.1).filter λz=>decide (z.1=c)).length<=32:=K_ (bI _ _) hw32;have S4:Sub M (Al I p<|.lst<|((g e.1).filter λz=>decide (z.1=c)).map A4):=S3.new<|S3.none hp;have e4:Al I p (.lst<|((g e.1).filter λz=>decide (z.1=c)).map A4) l=oG ((G e.1).map A4):=by rw[Ad l2];exact hl
    have p4:Al I p (.lst<|((g e.1).filter λz=>decide (z.1=c)).map A4) p=oG (((g e.1).filter λz=>decide (z.1=c)).map A4):=Ab;generalize Al I p (.lst<|((g e.1).filter λz=>decide (z.1=c)).map A4)=μ4 at S4 e4 p4;refine Ac e4 (Ac p4 ⟨by rw[C_,C_];exact seven<|by omega,λz hz=>?_⟩);have z2:=S4.none hz;have zd:z≠dk:=by rintro rfl;rw[u.D.dd]at z2;cases z2
    have S5:Sub M (Al μ4 z<|.lst<|(G e.1).map A4++((g e.1).filter λz=>decide (z.1=c)).map A4):=S4.new z2;have e5:Al μ4 z (.lst<|(G e.1).map A4++((g e.1).filter λz=>decide (z.1=c)).map A4) z=oG ((G e.1++(g e.1).filter λz=>decide (z.1=c)).map A4):=by rw[Ab,P_]
    generalize Al μ4 z (.lst<|(G e.1).map A4++((g e.1).filter λz=>decide (z.1=c)).map A4)=μ5 at S5 e5;have ep:dput (.dt<|t.map kvT) (.tuple [.int (e.1.1:Nat),.int (e.1.2:Nat)]) (.R z)=some (.dt<|(putK t e.1 z).map kvT):=by rw[<- WI];rfl
    have zak:=u.D.n;refine Ac (S5 _ _ u.D.dd)<|Ac ep ⟨A5<|show(t.map kvT).length<=1000 by rw[C_];omega,hW _ _ ⟨_,_,λk=>if k=e.1 then(g e.1).filter (λz=>decide (z.1=c)) else N k,putK t e.1 z,rfl,⟨λB O=>?_,λk hk=>?_⟩,?_,Ed (S2.trans S5) dk0⟩⟩
    ·rw[bh]at O;rcases S_.mp O with h|h
     ·rw[I_<|bt B h];exact C.i B h
     ·rw[O_.mp h,N_ rfl]
    ·rw[bh]at hk;rw[I_ λz=>hk e (by simp) z.symm];exact C.o k λB O=>hk B<|aD _ O
    ·refine Kpt.put (G:=λk=>G k++N k) ⟨⟨S5 _ _ u.D.dd,λB O=>⟨S5 _ _ (u.D.ll B O).1,(u.D.ll B O).2⟩,u.D.n,u.D.uu⟩,u.o,u.b⟩ (hbw e V) (by dsimp only;rw[N_ rfl];exact e5) zd λj hj=>by dsimp only;rw[I_ hj]
  ·rintro τ M ⟨o2,o4,N,t,rfl,C,u,S2⟩;rw[C_,aK]at C;exact⟨_,Sub.refl,q c N t M cu C u S2⟩
 ·obtain⟨h1,h2⟩:=T.D.ll e he;have X:=S1 _ _ h1;have h4:e.2≠r:=λz=>by rw[z,S1 _ _ D.dd]at X;cases X
  exact⟨by rw[A9 h4];show _=some (MO.lst<|(G e.1++[]).map A4);rw[cB];exact X,h2⟩
end
section
variable {P:lV}{w:lW}{K:lU}{mg:Str->oB lP}{base:lZ}{f:lT}{fd:mD}
def Dh(g:Gq)(S:Nat->oA Nat->Prop):Nat->Nat->oA Nat->Prop
 | 0,p,w=>S p w
 |n+1,p,w=>S p w\/∃x v,w=x::v/\((hnd g (p,x)=1/\rgp g.rs (p,x)≠[]/\∀r∈rgp g.rs (p,x),Dh g S n r.q<|r.w++v)\/(hnd g (p,x)≠1/\∃r∈rgp g.rs (p,x),Dh g S n r.q<|r.w++v))
section
variable {g:Gq}{S:Nat->oA Nat->Prop}
def Dh.say{p:Nat}{w:oA Nat}(h:S p w):∀n,Dh g S n p w
 | 0=>h
 |_+1=>.inl h
theorem Dh.up:∀{n p:Nat} {w:oA Nat},Dh g S n p w->Dh g S (n+1) p w
 | 0,_,_,h=>.inl h
 |_+1,_,_,h=>h.imp id<|by rintro ⟨x,v,e,h⟩;exact ⟨x,v,e,h.imp (by rintro ⟨a,b,c⟩;exact ⟨a,b,λr d=>(c r d).up⟩)<|by rintro ⟨a,r,d,c⟩;exact ⟨a,r,d,c.up⟩⟩
def Dh.le{n m p:Nat}{w:oA Nat}(h:n<=m)(k:Dh g S n p w):Dh g S m p w:=by
 induction h with
 |refl=>exact k
 |step _ a=>exact a.up
theorem Dh.pre(i:RsOk g):∀{n p:Nat} {w:oA Nat},p<g.pl.length->Dh g S n p w->Pre g S p w
 | 0,_,_,hp,h=>.say hp h
 |_+1,_,_,hp,.inl h=>.say hp h
 |_+1,_,_,hp,.inr ⟨x,v,e,.inl ⟨a,b,c⟩⟩=>by subst e;exact .all a b λr d=>(c r d).pre i (i.q r (a_.mp d).1).1
 |_+1,_,_,hp,.inr ⟨x,v,e,.inr ⟨a,r,d,c⟩⟩=>by subst e;exact .one d a<|c.pre i (i.q r (a_.mp d).1).1
def LC(g:Gq)(S:Nat->oA Nat->Prop)(m s:Nat)(w:oA Nat):Prop:=(s<g.pl.length/\Dh g S m s w)\/(g.pl.length<=s/\S s w)
def LC.le{n m s:Nat}{w:oA Nat}(h:n<=m)(k:LC g S n s w):LC g S m s w:=k.imp (by rintro ⟨a,b⟩;exact ⟨a,b.le h⟩) id
def CY(g:Gq)(S:Nat->oA Nat->Prop)(G:Tops):Prop:=∀k,∀p∈G k,∀v m,(∀t∈B3 p.2,LC g S m t v)->LC g S (p.1+m) k.1 (k.2::v)
def U1{Gs:oA<|oA Pr}{z:Pr}(hz:z∈cho Gs):∀G∈Gs,∃p∈G,p.1<=z.1/\∀t,p.2.testBit t=true->z.2.testBit t=true:=by
 have b:∀(Gs:oA<|oA Pr) (F:oA Pr),z∈Gs.foldl (λF G=>F.flatMap λp=>G.map<|ewe p) F->(∃f∈F,f.1<=z.1/\∀t,f.2.testBit t=true->z.2.testBit t=true)/\∀G∈Gs,∃p∈G,p.1<=z.1/\∀t,p.2.testBit t=true->z.2.testBit t=true:=by
  intro Gs
  induction Gs with
  |nil=>exact λF h=>⟨⟨z,h,G_ _,λ_ h=>h⟩,λ_ h=>nomatch h⟩
  |cons G Gs i=>
   intro F h;obtain⟨⟨f,a,d,h1⟩,h2⟩:=i _ h;obtain⟨y,hy,a⟩:=dG.mp a;obtain⟨o,e,rfl⟩:=D_.mp a;have d:max y.1 o.1<=z.1:=d;refine⟨⟨y,hy,by omega,λt c=>h1 t<|by rw[N4,c];rfl⟩,λj hG=>?_⟩;rcases aB.mp hG with rfl|hG
   ·exact⟨o,e,by omega,λt c=>h1 t<|by rw[N4,c,Bool.or_true]⟩
   ·exact h2 j hG
 exact(b Gs _ hz).2
def CZ{G:Tops}(h:CY g S G){s:Nat}(hs:s<5){u:oA Nat}(hu:u.length<=2){z:Pr}(hz:z∈Ln G s u){v:oA Nat}{m:Nat}(hv:∀t∈B3 z.2,LC g S m t v):LC g S (z.1+m) s (u++v):=by
 match u,hu with
 |[],_=>rw[O_.mp hz,CU hs]at hv;exact(hv s<|.head _).le (Nat.le_add_left _ _)
 |[x],_=>exact h (s,x) z hz v m hv
 |[x,y],_=>
  obtain⟨p,hp,hz⟩:=dG.mp hz;obtain⟨q,hq,rfl⟩:=D_.mp hz;have:=h (s,x) p hp (y::v) (q.1+m) λt c=>by obtain⟨o,b,hc,hb⟩:=U1 hq _<|D_.mpr ⟨t,c,rfl⟩;exact(h (t,y) o b v m λi a=>hv i<|Co.mpr ⟨(Co.mp a).1,hb i (Co.mp a).2⟩).le<|Nat.add_le_add_right hc m
  exact this.le<|by show p.1+(q.1+m)<=p.1+q.1+m;omega
def DA(d:RsOk g){G:Tops}(h:CY g S G){k:Nat×Nat}(hk:k.1<g.pl.length)(hn:rgp g.rs k≠[]){z:Pr}(hz:z∈Ga g G k){v:oA Nat}{m:Nat}(hv:∀t∈B3 z.2,LC g S m t v):LC g S (z.1+1+m) k.1 (k.2::v):=by
 have b:∀r∈rgp g.rs k,∀y∈Ln G r.q r.w,y.1<=z.1->(∀t∈B3 y.2,LC g S m t v)->Dh g S (z.1+m) r.q (r.w++v):=λr b y hy hc hv=>by obtain⟨h1,h2⟩:=d.q r (a_.mp b).1;have:=d.p;exact((CZ h (by omega) h2 hy hv).le<|Nat.add_le_add_right hc m).elim (λz=>z.2) λz=>absurd h1<|by omega
 rw[show z.1+1+m=z.1+m+1 by omega];unfold Ga at hz;split at hz
 ·rename_i c;refine .inl ⟨hk,.inr ⟨k.2,v,rfl,.inl ⟨c,hn,λr a=>?_⟩⟩⟩;obtain⟨y,hy,hc,hb⟩:=U1 hz _<|D_.mpr ⟨r,a,rfl⟩;exact b r a y hy hc λt e=>hv t<|Co.mpr ⟨(Co.mp e).1,hb t (Co.mp e).2⟩
 ·rename_i c;obtain⟨K,i,hz⟩:=lK.mp hz;obtain⟨r,a,rfl⟩:=D_.mp i;exact .inl ⟨hk,.inr ⟨k.2,v,rfl,.inr ⟨c,r,a,b r a z hz (G_ _) hv⟩⟩⟩
def Sw(G:Tops)(E:oA Nat):oA Nat->Nat->Nat->Prop
 |[],s,c=>s∈E/\c=0
 |x::v,s,c=>∃p∈G (s,x),∃m,c=p.1+m/\∀t∈B3 p.2,∃d,d<=m/\Sw G E v t d
theorem Qi{G:Tops}{E:oA Nat}(h:CY g S G)(i:∀s∈E,LC g S 0 s []):∀{w:oA Nat} {s c:Nat},Sw G E w s c->LC g S c s w
 |[],s,_,⟨a,e⟩=>by rw[e];exact i s a
 |x::v,s,_,⟨p,hp,m,e,a⟩=>by rw[e];exact h (s,x) p hp v m λt k=>by obtain⟨d,j,b⟩:=a t k;exact(Qi h i b).le j
theorem Ky{G:Tops}{E:oA Nat}:∀{w:oA Nat} {s:Nat},Fp G E w s->∃c,Sw G E w s c
 |[],s,h=>⟨0,h,rfl⟩
 |x::v,s,⟨p,hp,h⟩=>by
  have i:∀l:oA Nat,(∀t∈l,Fp G E v t)->∃m,∀t∈l,∃d,d<=m/\Sw G E v t d:=by
   intro l
   induction l with
   |nil=>exact λ_=>⟨0,λ_ h=>nomatch h⟩
   |cons t l n=>
    intro j;obtain⟨m,b⟩:=n λu hu=>j u<|.tail _ hu;obtain⟨d,k⟩:=Ky<|j t<|.head _;refine⟨max d m,λu hu=>?_⟩;rcases aB.mp hu with rfl|hu
    ·exact⟨d,jY _ _,k⟩
    ·obtain⟨e,he,a⟩:=b u hu;exact⟨e,K_ he<|Nat.le_max_right _ _,a⟩
  obtain⟨m,b⟩:=i (B3 p.2) h;exact⟨p.1+m,p,hp,m,rfl,b⟩
theorem Qj{B G:Tops}{E:oA Nat}(h:∀k,∀y∈B k,∃z∈G k,z.1=0/\∀t∈B3 z.2,t∈B3 y.2):∀{w:oA Nat} {s:Nat},Fp B E w s->Sw G E w s 0
 |[],s,a=>⟨a,rfl⟩
 |x::v,s,⟨p,hp,a⟩=>by obtain⟨z,hz,e,hb⟩:=h (s,x) p hp;exact⟨z,hz,0,by rw[e],λt b=>⟨0,G_ _,Qj h<|a t<|hb t b⟩⟩
def DB{B:Tops}{E:oA Nat}(h:∀k,∀p∈B k,∀t∈B3 p.2,g.pl.length<=t):CY g (λp w=>Fp B E w p) B:=λk p hp v m hv=>by
 have a:Fp B E (k.2::v) k.1:=⟨p,hp,λt b=>(hv t b).elim (λz=>absurd (h k p hp t b)<|Nat.not_le_of_lt z.1) λz=>z.2⟩;rcases bN k.1 g.pl.length with hk|hk
 ·exact .inl ⟨hk,.say a _⟩
 ·exact .inr ⟨hk,a⟩
end
end
section
variable {P:lV}{w:lW}{K:lU}{mg:Str->oB lP}{base:lZ}{f:lT}{fd:mD}
def Cy(Pf:Nat×Nat->oA Pr)(kvs:oA<|(Nat×Nat)×lT):oA Ar:=kvs.flatMap λe=>(Pf e.1).map λz=>⟨e.1.1,e.1.2,B3 z.2,z.1⟩
theorem U3{Pf:Nat×Nat->oA Pr}:∀{kvs:oA<|(Nat×Nat)×lT},(∀e∈kvs,(Pf e.1).length<=992)->(Cy Pf kvs).length<=992*kvs.length
 |[],_=>by simp[Cy]
 |e::kvs,h=>by have h1:=h e aV;have h2:=U3 (kvs:=kvs) λa he=>h a<|aM _ he;unfold Cy at h2 ⊢;rw[List.flatMap_cons,R_,C_,aR];omega
abbrev nAw:oA Str:=["tops","arrows","top","pairs"]
def IE:FnScope nAw oO (Ah YK):=B5<|by decide +kernel
def KI:(["cost","bits","top"]:oA Str).Nodup:=by decide +kernel
structure TopQ(μ:M)(d:lT)(Pf:Nat×Nat->oA Pr)(kvs:oA<|(Nat×Nat)×lT):Prop where
 dd:μ d=some (.dt<|kvs.map kvT)
 ll:∀e∈kvs,μ e.2=oG ((Pf e.1).map A4)/\e.2≠d/\(Pf e.1).length<=992/\∀z∈Pf e.1,z.2<32
 n:kvs.length<=20
def WN:ASp:=λb a R=>∃(d:lT) (Pf:Nat×Nat->oA Pr) (kvs:oA<|(Nat×Nat)×lT),b=[.R d]/\TopQ a d Pf kvs/\∀(l:lT) μ',a l=none->μ' l=oG ((Cy Pf kvs).map Gg)->Sub (Cb a d) μ'->R (.R l) μ'
def WO{n:Nat}(F:Fun K "as_arrows" "as_arrows" YK f fd) (cAs:VCal P w K mg base n "as_stands" ["bits"] PK):FnOk P w K mg base Eh (n+1) f fd oO (Gd K 1 WN):=by
 refine F.vok IE λaq A outer s H E hr=>⟨_,(Af (Aq (i:=1) IE.nd rfl oH<|Br Ae)<|Af (Hh aL rfl (vv 0) (Aw (Aj (i:=2) IE.nd rfl oI)<|Aw (Aj (i:=3) IE.nd rfl oH) B7)<|Ai<|Ck<|Fw iI iJ Jz (vv 1)<|Aa (Bk (N':=["cost","bits","top"]) (mp:=[none,none,some 2]) rfl (Bb<|vv 3) (λ_ _ _ _=>(Es (n:=2) rfl<|Aw (Aj (i:=0) KI rfl oH oI)<|Aw (Aj (i:=1) KI rfl oH oI) B7)) (λ_ _ _ _=>Bj) (λ_ _ _ _=>(A8 B4 (vv 2)<|Bl<|Aa (Am cAs hr rfl<|Aa (vv 1) Ae)<|Aa (vv 0) Ae))<|Ap (N:=nAw) (pn:=(Ah YK).names)<|by decide +kernel) Ae)<|Ai<|Bf<|vv 1),?_⟩
 rintro xs L R _ ⟨d,Pf,kvs,rfl,T,q⟩;intro l J;have ld:l≠d:=by rintro rfl;rw[T.dd]at J;cases J
 refine Ay (λG a=>∃g C,G=[oD d,oD l,g,C]/\a l=oG ((Cy Pf kvs).map Gg)/\Sub (Cb L d) a) (λZ hZ=>?_) ?_
 ·refine Ac (x:=MO.dt<|kvs.map kvT) (by rw[Ad ld.symm];exact T.dd) ?_;refine Ko (λi G a=>∃g C,G=[oD d,oD l,g,C]/\a l=oG ((Cy Pf<|kvs.take i).map Gg)/\Sub (Cb L d) a) ⟨none,none,rfl,?_,?_⟩ ?_ ?_
  ·rw[A9 ld];exact Ab
  ·intro b m hb;have gh:b≠d:=λz=>by rw[z]at hb;unfold Cb at hb;rw[N_ rfl]at hb;cases hb
   rw[A9 gh]at hb ⊢;rw[Ad<|by rintro rfl;rw[J]at hb;cases hb];exact hb
  ·rintro i v G r W hv ⟨g,C,rfl,t,B⟩ hW;rw[M_]at hv;obtain⟨e,he,rfl⟩:=L_.mp hv;obtain⟨lq,Y,f9,heb⟩:=T.ll e<|V_ he;have O:r e.2=oG ((Pf e.1).map A4):=B _ _ (by rw[A9 Y];exact lq);have hi:=(F_.mp he).1;have hn9:=T.n;have bh:Cy Pf (kvs.take<|i+1)=Cy Pf (kvs.take i)++(Pf e.1).map λz=>⟨e.1.1,e.1.2,B3 z.2,z.1⟩:=by
    unfold Cy;rw[aJ,he,List.flatMap_append];simp
   have qp:=U3 (Pf:=Pf) (kvs:=kvs.take i) λe' av=>(T.ll e'<|eY av).2.2.1;rw[aY]at qp;refine⟨Ac t trivial,Ac (Ak O) λU k=>?_⟩;have vf:l≠U:=by rintro rfl;rw[t]at k;cases k
   have xj:e.2≠U:=by rintro h;rw[h,k]at O;cases O
   have I:∀{ν:M} {o:MO},Sub (Cb L d) ν->Sub (Cb L d) (Al ν U o):=λS=>S.new<|B.none k;refine D5 (λj p y a=>∃o1 g,y=[o1,g,oF<|.tuple [.int (e.1.1:Nat),.int (e.1.2:Nat)]]/\p=(((Pf e.1).take j).map λz=>Gg ⟨e.1.1,e.1.2,B3 z.2,z.1⟩)/\a U=oG p/\a e.2=oG ((Pf e.1).map A4)/\a l=oG ((Cy Pf<|kvs.take i).map Gg)/\Sub (Cb L d) a) ⟨none,none,rfl,rfl,Ab,by rw[Ad xj];exact O,by rw[Ad vf];exact t,I B⟩ (by rintro _ _ _ _ ⟨_,_,_,_,_,e2,_⟩;exact Ak e2) ?_ ?_
   ·rintro j v p y μ2 W2 ni ⟨o1,g,rfl,rfl,Q,f2,X,S2⟩ hW2;rw[M_]at ni;obtain⟨⟨c,b⟩,u,rfl⟩:=L_.mp ni;have hj:=(F_.mp u).1;refine⟨rfl,Pz<|Jd rfl ⟨b,rfl,heb _<|V_ u,λμ3 V=>⟨by show 2+2<=sizeLine;decide,V _ _ Q,PL<|by rw[C_,aY];omega,hW2 _ _ _ ⟨_,_,rfl,?_,Ab,by rw[Ad xj];exact V _ _ f2,by rw[Ad vf];exact V _ _ X,I<|S2.trans V⟩⟩⟩⟩;rw[aJ,u,P_];rfl
   ·rintro p y μ2 ⟨o1,g,rfl,rfl,Q,f2,X,S2⟩;rw[C_,aK]at Q;refine Ac X<|Ac Q ⟨cH<|PL<|by rw[C_,C_];omega,hW _ _ ⟨_,_,rfl,?_,?_⟩⟩
    ·rw[Ab,bh,P_,X_];rfl
    ·exact S2.new<|by rw[A9 ld];exact J
  ·rintro G r ⟨g,C,rfl,t,B⟩;rw[C_,aK]at t;exact hZ _ _ ⟨_,_,rfl,t,B⟩
 rintro G r ⟨g,C,rfl,t,B⟩;exact⟨_,Sub.refl,q l r J t B⟩
structure Arw where
 p:Nat
 x:Nat
 ts:oA Nat
 c:oB Nat
def Qk(a:Arw):oA lR:=.int a.p::.int a.x::Av a.ts::(match a.c with|none=>[]|some c=>[.int c])
def Di(a:Arw):lR:=.tuple<|Qk a
def Mr{b:M}(A:oA Arw):items b (.D<|.tuple<|A.map Di)=some (A.map λa=>.D<|Di a):=by show some ((A.map Di).map AV.D)=_;rw[X_];rfl
def DC(a:Arw):(Di a).canLay0=true/\(Di a).depth<=3/\Cano (Di a)=true:=by
 obtain⟨p,x,ts,c⟩:=a;have h1:=N0 (ns:=ts);have h2:=Ic ts;cases c with
 |none=>simp only[Di,Qk,Av,PyData.canLay0,PyData.canLayAll0,PyData.depth,PyData.depthAll,Cano,A6,h1.1,h2,Bool.and_true,Bool.true_and,true_and,and_true];have:=h1.2;omega
 |some c=>simp only[Di,Qk,Av,PyData.canLay0,PyData.canLayAll0,PyData.depth,PyData.depthAll,Cano,A6,h1.1,h2,Bool.and_true,Bool.true_and,true_and,and_true];have:=h1.2;omega
def U4{a b:Arw}(h:a.c.isSome=b.c.isSome):cmpb (Di a) (Di b)=true:=by obtain⟨p,x,ts,c⟩:=a;obtain⟨g,i,d,e⟩:=b;cases c<;>cases e<;>simp at h<;>simp only[Di,Qk,Av,cmpb,cmpbs,Px,ite_self]
theorem U5:∀(B:oA Arw),PyData.canLayAll0 (B.map Di)=true/\PyData.depthAll (B.map Di)<=3/\A6 (B.map Di)=true
 |[]=>⟨rfl,by simp[PyData.depthAll],rfl⟩
 |a::B=>by obtain⟨h1,h2,d⟩:=DC a;obtain⟨b,e,c⟩:=U5 B;simp only[List.map_cons,PyData.canLayAll0,PyData.depthAll,A6,h1,d,b,c,Bool.and_self,true_and,and_true];omega
def DE(B:oA Arw):dats (B.map λa=>.D<|Di a)=some (B.map Di):=by rw[show(B.map λa=>AV.D<|Di a)=(B.map Di).map .D by rw[X_];rfl];exact B8 _
end
section
variable {P:lV}{w:lW}{K:lU}{mg:Str->oB lP}{base:lZ}{f:lT}{fd:mD}
structure GmOk(g:Gq):Prop where
 p:g.pl.length<=3
 r:g.rs.length<=8
 ok:∀r∈g.rs,r.p<g.pl.length/\r.q<g.pl.length/\r.x<3/\r.w.length<=2
def GmOk.gq{g:Gq}(h:GmOk g):GqOk g:=⟨K_ h.p<|by decide,h.r,λr d=>by obtain⟨a,b,_,c⟩:=h.ok r d;exact⟨a,Y_ b<|K_ h.p<|by decide,c⟩⟩
def GmOk.rs{g:Gq}(h:GmOk g):RsOk g:=⟨K_ h.p<|by decide,λr a=>by obtain⟨_,b,_,c⟩:=h.ok r a;exact⟨b,c⟩⟩
def T9:oA (Nat×Nat):=(List.range 9).map λi=>(i / 3,i%3)
def GmOk.pt{g:Gq}(h:GmOk g){k:Nat×Nat}(hk:rgp g.rs k≠[]):k.1<g.pl.length/\k.2<3/\k∈T9:=by obtain⟨r,h2⟩:=fS _ hk;obtain⟨d,b⟩:=a_.mp h2;unfold En at b;rw[bH,aW,aW]at b;obtain⟨a,_,c,_⟩:=h.ok r d;rw[b.1]at a;rw[b.2]at c;have:=h.p;exact⟨a,c,D_.mpr ⟨3*k.1+k.2,bK.mpr<|by omega,lD (by show _ / 3=_;omega)<|by show _%3=_;omega⟩⟩
structure MI(g:Gq)(B:Tops)(E:oA Nat)(G:Tops):Prop where
 n:∀k,((G k).map (·.2)).Nodup
 b:∀k,∀z∈G k,z.2<32
 z:∀k,∀y∈B k,∃z∈G k,z.1=0/\∀t∈B3 z.2,t∈B3 y.2
 s:CY g (λp w=>Fp B E w p) G
structure More(g:Gq)(G N:Tops):Prop where
 k:∀k,N k≠[]->k.1<g.pl.length/\rgp g.rs k≠[]
 f:∀k,∀z∈N k,(∃y∈Ga g G k,up1 y=z)/\z.2<32/\∀y∈G k,¬Wn y z
 u:∀k,((N k).map (·.2)).Nodup
section
variable {g:Gq}{B G N Wf Pf:Tops}{E:oA Nat}{kvs kw:oA<|(Nat×Nat)×lT}
def DF{P Q:oA Pr}(h:∀y∈P,∃z∈Q,Wn z y):Under P Q:=λy hy=>by obtain⟨z,hz,b⟩:=h y hy;exact⟨z,hz,λt a=>Co.mpr ⟨(Co.mp a).1,b t (Co.mp a).2⟩⟩
def MI.tb(h:MI g B E G):Su G:=λk=>⟨Ss (h.n k)<|h.b k,h.b k⟩
def MI.more(d:GmOk g)(h:MI g B E G)(m:More g G N):MI g B E (λk=>G k++N k):=by
 refine⟨λk=>?_,λk z hz=>(S_.mp hz).elim (h.b k z) λhz=>(m.f k z hz).2.1,λk y hy=>by obtain⟨z,hz,r⟩:=h.z k y hy;exact⟨z,aD _ hz,r⟩,λk p hp v c hv=>?_⟩
 ·rw[P_,bE];refine⟨h.n k,m.u k,λa ha b hb e=>?_⟩;obtain⟨y,hy,rfl⟩:=D_.mp ha;obtain⟨z,hz,rfl⟩:=D_.mp hb;exact(m.f k z hz).2.2 y hy λt i=>by rw[<- e];exact i
 ·rcases S_.mp hp with hp|hp
  ·exact h.s k p hp v c hv
  ·obtain⟨⟨y,hy,rfl⟩,_,_⟩:=m.f k p hp;obtain⟨h1,h2⟩:=m.k k λz=>by rw[z]at hp;cases hp
   exact DA d.rs h.s h1 h2 hy hv
def MI.start(a:∀k,CvA (B k)<|G k)(h0:∀k,∀z∈B k,z.1=0)(hb:∀k,∀z∈B k,z.2<32)(d:∀k,∀p∈B k,∀t∈B3 p.2,g.pl.length<=t):MI g B E G :=
 ⟨λk=>(a k).u,λk z hz=>hb k z<|(a k).m z hz,λk y hy=>by
  obtain⟨z,hz,e⟩:=(a k).c y hy;exact⟨z,hz,h0 k z<|(a k).m z hz,λt b=>Co.mpr ⟨(Co.mp b).1,e t (Co.mp b).2⟩⟩,λk p hp v m hv=>DB d k p ((a k).m p hp) v m hv⟩
structure Wt(g:Gq)(G Wf:Tops)(kw:oA<|(Nat×Nat)×lT):Prop where
 k:∀e∈kw,rgp g.rs e.1≠[]
 w:∀e∈kw,Wf e.1≠[]/\(∀z∈Wf e.1,(∃y∈Ga g G e.1,up1 y=z)/\z.2<32/\∀y∈G e.1,¬Wn y z)/\((Wf e.1).map (·.2)).Nodup
 c:kw=[]->∀k,rgp g.rs k≠[]->Under (Ga g G k) (G k)
def WP(hk:∀k,(∃e∈kvs,e.1=k)↔rgp g.rs k≠[])(hp:∀e∈kvs,Cv ((Ga g G e.1).map up1)<|Pf e.1)(W:WtOk G Pf kvs Wf kw):Wt g G Wf kw:=by
 refine⟨λe he=>(hk _).mp<|W.k e he,λe he=>?_,λh k l=>?_⟩
 ·obtain⟨d,h1,h2⟩:=W.k e he;obtain⟨n,i,j⟩:=W.w e he;have C:=hp d h1;rw[h2]at C;exact⟨n,λz hz=>⟨D_.mp<|C.m z<|i.subset hz,C.b z<|i.subset hz,j z hz⟩,C.u.sublist<|i.map _⟩
 ·obtain⟨d,h1,rfl⟩:=(hk k).mpr l;refine DF λy hy=>?_;obtain⟨z,hz,a⟩:=(hp d h1).c _<|D_.mpr ⟨y,hy,rfl⟩;rcases W.c d h1 z hz with⟨x,hx,b⟩|⟨e,he,_⟩
  ·exact⟨x,hx,b.trans a⟩
  ·rw[h]at he;cases he
def IF{c:Nat}(b:GmOk g)(W:Wt g G Wf kw)(C:Chp Wf N kw c):More g G N:=by
 have a:∀k,N k≠[]->∃e∈kw,e.1=k:=λk hk=>aT λz=>hk<|C.o k λe he h=>z ⟨e,he,h⟩;refine⟨λk hk=>?_,λk z hz=>?_,λk=>?_⟩
 ·obtain⟨e,he,rfl⟩:=a k hk;exact⟨(b.pt<|W.k e he).1,W.k e he⟩
 ·obtain⟨e,he,rfl⟩:=a k λc=>by rw[c]at hz;cases hz
  rw[C.i e he]at hz;exact(W.w e he).2.1 z (a_.mp hz).1
 ·by_cases h:N k=[]
  ·rw[h];exact cX
  ·obtain⟨e,he,rfl⟩:=a k h;rw[C.i e he];exact(W.w e he).2.2.sublist (List.filter_sublist.map _)
def cnt(G:Tops):Nat:=(T9.map λk=>(G k).length).sum
theorem DG{f g:Nat×Nat->Nat}(a:∀k,f k<=g k){k:Nat×Nat}(hk:f k<g k):∀{l:oA<|Nat×Nat},(l.map f).sum<=(l.map g).sum/\(k∈l->(l.map f).sum<(l.map g).sum)
 |[]=>⟨G_ _,λh=>nomatch h⟩
 |x::l=>by
  obtain⟨h1,h2⟩:=DG a hk (l:=l);have b:=a x;rw[aP,aP,jP,jP];refine⟨Nat.add_le_add b h1,λh=>?_⟩;rcases aB.mp h with rfl|h
  ·exact Nat.add_lt_add_of_lt_of_le hk h1
  ·exact Nat.add_lt_add_of_le_of_lt b<|h2 h
def DH{c:Nat}(a:GmOk g)(W:Wt g G Wf kw)(C:Chp Wf N kw c)(hc:∃e∈kw,∃z∈Wf e.1,z.1=c):cnt G<cnt λk=>G k++N k:=by
 obtain⟨e,he,z,hz,b⟩:=hc;have h1:z∈N e.1:=by rw[C.i e he];exact a_.mpr ⟨hz,aZ b⟩
 refine(DG (λk=>?_) (k:=e.1) ?_).2 (a.pt<|W.k e he).2.2
 ·rw[R_];exact cD _ _
 ·rw[R_];exact Nat.lt_add_of_pos_right<|jB h1
theorem U6{f:Nat×Nat->Nat}(h:∀k,f k<=32):∀l:oA<|Nat×Nat,(l.map f).sum<=32*l.length
 |[]=>G_ _
 |k::l=>by have h1:=U6 h l;have h2:=h k;rw[aP,jP,aR];omega
def DI(h:Su G):cnt G<=288:=U6 (λk=>(h k).1) T9
end
def Dj(a:Arw):Ar:=⟨a.p,a.x,a.ts,0⟩
def toW(a:Ar):Arw:=⟨a.p,a.x,a.ts,some a.c⟩
theorem U7(t:Nat):∀(ts:oA Nat) (b:Nat),(ts.foldl (λb k=>b ||| 2^k) b).testBit t=(b.testBit t||ts.contains t)
 |[],b=>by simp
 |u::ts,b=>by rw[fC,U7 t ts,kL,Nat.testBit_two_pow,List.contains_cons,Bool.or_assoc];congr 2;exact decide_eq_decide.mpr ⟨Eq.symm,Eq.symm⟩
def Sx{ts:oA Nat}(h:∀t∈ts,t<5)(t:Nat):t∈ts↔t∈B3 (bts ts):=by rw[Co];unfold bts;rw[U7,lH,kX,List.contains_iff_mem];exact⟨λz=>⟨h t z,z⟩,λz=>z.2⟩
def Ie{S:oA Arw}{k:Nat×Nat}{z:Pr}:z∈grp (S.map Dj) k↔∃a∈S,a.p=k.1/\a.x=k.2/\z=(0,bts a.ts):=by
 unfold grp;rw[D_];constructor
 ·rintro⟨a,ha,rfl⟩;obtain⟨h1,h2⟩:=a_.mp ha;obtain⟨b,hb,rfl⟩:=D_.mp h1;unfold Em at h2;rw[bH,aW,aW]at h2;exact⟨b,hb,h2.1,h2.2,rfl⟩
 ·rintro⟨a,ha,h1,h2,rfl⟩;exact⟨Dj a,a_.mpr ⟨D_.mpr ⟨a,ha,rfl⟩,by rw[show k=((Dj a).p,(Dj a).x) from lD h1.symm h2.symm];exact Kx _⟩,rfl⟩
def N5{Pf:Tops}{kvs:oA<|(Nat×Nat)×lT}{a:Ar}:a∈Cy Pf kvs↔∃e∈kvs,∃z∈Pf e.1,a=⟨e.1.1,e.1.2,B3 z.2,z.1⟩:=by
 unfold Cy;rw[dG];constructor
 ·rintro⟨e,he,h⟩;obtain⟨z,hz,rfl⟩:=D_.mp h;exact⟨e,he,z,hz,rfl⟩
 ·rintro⟨e,he,z,hz,rfl⟩;exact⟨e,he,D_.mpr ⟨z,hz,rfl⟩⟩
structure Tpd(As:oA Ar)(G:Tops):Prop where
 i:∀k,∀z∈G k,∃a∈As,a.p=k.1/\a.x=k.2/\a.c=z.1/\∀t,t∈a.ts↔t∈B3 z.2
 o:∀a∈As,∃z∈G (a.p,a.x),a.c=z.1/\∀t,t∈a.ts↔t∈B3 z.2
def Ql(b:oA Ar)(E:oA Nat):oA Nat->Nat->Nat->Prop
 |[],s,c=>s∈E/\c=0
 |x::v,s,c=>∃a∈b,a.p=s/\a.x=x/\∃m,c=a.c+m/\∀t∈a.ts,∃d,d<=m/\Ql b E v t d
theorem G4{l:oA Ar}{G:Tops}{E:oA Nat}(h:Tpd l G):∀(w:oA Nat) (s c:Nat),Ql l E w s c↔Sw G E w s c
 |[],s,c=>Iff.rfl
 |x::v,s,c=>by
  constructor
  ·rintro⟨a,ha,rfl,rfl,m,rfl,k⟩;obtain⟨z,hz,e,b⟩:=h.o a ha;exact⟨z,hz,m,by rw[e],λt j=>by obtain⟨d,g,r⟩:=k t<|(b t).mpr j;exact⟨d,g,(G4 h v t d).mp r⟩⟩
  ·rintro⟨z,hz,m,rfl,k⟩;obtain⟨a,ha,e,b,p,n⟩:=h.i (s,x) z hz;exact⟨a,ha,e,b,m,by rw[p],λt j=>by obtain⟨d,g,r⟩:=k t<|(n t).mp j;exact⟨d,g,(G4 h v t d).mpr r⟩⟩
theorem DJ{G:Tops}{E:oA Nat}:∀{w:oA Nat} {s c:Nat},Sw G E w s c->Fp G E w s
 |[],_,_,h=>h.1
 |_::_,_,_,⟨p,hp,m,_,h⟩=>⟨p,hp,λt a=>by obtain⟨_,_,r⟩:=h t a;exact DJ r⟩
def IG{S:oA Arw}(h:∀a∈S,∀t∈a.ts,t<5):Tpd (S.map Dj) (grp<|S.map Dj) :=
 ⟨λk z hz=>by
  obtain⟨a,ha,h1,h2,rfl⟩:=Ie.mp hz;exact⟨Dj a,D_.mpr ⟨a,ha,rfl⟩,h1,h2,rfl,Sx<|h a ha⟩,λb hb=>by
  obtain⟨a,ha,rfl⟩:=D_.mp hb;exact⟨(0,bts a.ts),Ie.mpr ⟨a,ha,rfl,rfl,rfl⟩,rfl,Sx<|h a ha⟩⟩
def DK{G:Tops}{b:oA<|(Nat×Nat)×lT}(i:∀k,(∀e∈b,e.1≠k)->G k=[]){g:oA Ar}(d:∀a,a∈g↔a∈Cy G b):Tpd g G :=
 ⟨λk z hz=>by
  obtain⟨e,he,rfl⟩:∃e∈b,e.1=k:=aT λc=>by rw[i k λe he h=>c ⟨e,he,h⟩]at hz;cases hz
  exact⟨_,(d _).mpr<|N5.mpr ⟨e,he,z,hz,rfl⟩,rfl,rfl,rfl,λ_=>Iff.rfl⟩,λa ha=>by
  obtain⟨e,he,z,hz,rfl⟩:=N5.mp<|(d a).mp ha;exact⟨z,hz,rfl,λ_=>Iff.rfl⟩⟩
structure MOk(g:Gq)(S:oA Arw)(E:oA Nat)(Ms:oA Ar):Prop where
 z:∀w s,(∃c,Ql (S.map Dj) E w s c)->Ql Ms E w s 0
 r:∀n w p,p<g.pl.length->Dh g (λp w=>∃c,Ql (S.map Dj) E w p c) n p w->∃c,Ql Ms E w p c
 c:∀w p c,p<g.pl.length->Ql Ms E w p c->Dh g (λp w=>∃c,Ql (S.map Dj) E w p c) c p w
def QD{g:Gq}{S:oA Arw}{E:oA Nat}{m:oA Ar}{G:Tops}(j:RsOk g)(o:∀a∈S,∀t∈a.ts,t<5)(b:Tpd m G)(d:MI g (grp<|S.map Dj) E G)(q:∀k,rgp g.rs k≠[]->Under (Ga g G k) (G k)):MOk g S E m:=by
 have l:=IG o;have e:(λp w=>∃c,Ql (S.map Dj) E w p c)=λp w=>Fp (grp<|S.map Dj) E w p:=funext λp=>funext λw=>propext ⟨by rintro ⟨c,h⟩;exact DJ<|(G4 l w p c).mp h,λh=>by obtain⟨c,h⟩:=Ky h;exact⟨c,(G4 l w p c).mpr h⟩⟩;refine⟨λw s h=>(G4 b w s 0).mpr<|Qj d.z<|Eq.mp (congrFun (congrFun e s) w) h,λn w p hp h=>?_,λw p c hp h=>?_⟩
 ·rw[e]at h;obtain⟨c,k⟩:=Ky (IA j (λk y hy=>by obtain⟨z,hz,_,r⟩:=d.z k y hy;exact⟨z,hz,r⟩) q<|h.pre j hp);exact⟨c,(G4 b w p c).mpr k⟩
 ·rw[e];exact(Qi d.s (λs i=>(bN s g.pl.length).elim (λh=>.inl ⟨h,i⟩) λh=>.inr ⟨h,i⟩)<|(G4 b w p c).mp h).elim (λz=>z.2) λz=>absurd hp<|Nat.not_lt_of_le z.1
end
section
variable {P:lV}{w:lW}{K:lU}{mg:Str->oB lP}{base:lZ}{f:lT}{fd:mD}{h:lZ}{x:Str}{st:mC}{oc kV bw pm aq ct:lP}{od an:oB lT}{f7:oC<|oB lP}{n:Nat}{ps:oA Str}{sp:ASp}
structure Say where
 own:Nat
 as:oA Arw
 es:oA Nat
def Fc(s:Say):lR:=.tuple [.int s.own,.tuple<|s.as.map Di,Av s.es]
structure SyOk(g:Gq)(s:Say):Prop where
 n:s.as.length<=8
 p:∀a∈s.as,a.p<g.pl.length+s.own
 t:∀a∈s.as,∀t∈a.ts,g.pl.length<=t/\t<g.pl.length+s.own
 c:∀a∈s.as,a.c=none
 x:∀a∈s.as,a.x<3
 o:g.pl.length+s.own<=5
 e:s.es.length<=5
 u:s.es.Nodup
 l:∀a∈s.as,a.ts.length<=5
def Kpt.sub{g a:M}{d:lT}{G:Tops}{c:oA<|(Nat×Nat)×lT}(h:Kpt g d G c)(S:Sub g a):Kpt a d G c:=⟨⟨S _ _ h.D.dd,λe he=>⟨S _ _ (h.D.ll e he).1,(h.D.ll e he).2⟩,h.D.n,h.D.uu⟩,h.o,h.b⟩
def DL{g:Gq}{G:Tops}{s:oA<|(Nat×Nat)×lT}{dk:lT}{a:M}{R:AV->M->Prop}(y:GmOk g)(T:Kpt a dk G s)(t:Su G)(q:∀d l o c,Kpt c dk G s->DcK c d l o->Wt g G l o->d≠dk->a d=none->Sub a c->R (.R d) c):QA [.D<|Ee g,.R dk,.D<|.bool true] a λv k=>QB [.R dk,v] k R:=by
 refine⟨g,dk,G,rfl,y.gq,T.top,t,λu z p k Q=>⟨dk,u,G,z,p,rfl,T.top.sub Q.ss,t,⟨Q.dd,Q.ll,K_ Q.n<|by decide,Q.uu⟩,λe he=>⟨(Q.pf e he).len,(Q.pf e he).b⟩,?_,λd l o j D W r S=>?_⟩⟩
 ·rintro rfl;have:=T.D.dd;rw[Q.nd]at this;cases this
 ·have i:Sub a j:=λb m hb=>S _ _<|by
   rw[A9<|by rintro rfl;rw[Q.nd]at hb;cases hb];exact Q.ss _ _ hb
  refine q d l o j (T.sub i) D (WP Q.kk Q.pf W) ?_ (Q.ss.none r) i;rintro rfl;rw[Q.ss _ _ T.D.dd]at r;cases r
abbrev nMc:oA Str:=["game","saying","most","kept","top","pairs","waiting"]
def Xs:FnScope nMc oY (Ah YI):=B5<|by decide +kernel
def WQ:(["arrow"]:oA Str).Nodup:=by decide +kernel
def QE:Xh:=λe d R i=>∃(g:Gq) (s:Say),e=[.D<|Ee g,.D<|Fc s,.D<|.int 200]/\GmOk g/\SyOk g s/\(∀ b,Sub d b->i b)/\∀(c:oA Ar) b,c.length<=200->(∀a∈c,a.ts.length<=5)->MOk g s.as s.es c->Sub d b->R (.D<|.tuple<|c.map Ux) b
def WR{n:Nat}{T C:lT}(F:FunD K "machine" "machine" YI f fd T) (cAt:VCal P w K mg base (n+1) "arrows_by_top" ["arrows"] VP) (yz:VCal P w K mg base (n+1) "least_alone" oK PR) (cNk:VCal P w K mg base (n+1) "not_kept" qK QB) (cFg:VCal P w K mg base (n+1) "following" qJ QA) (cHm:VCal P w K mg base (n+1) "how_many" oO WG) (cKc:VCal P w K mg base (n+1) "keep_cheapest" qL WL) (cAw:VCal P w K mg base (n+1) "as_arrows" oO WN) (ai:mg "len" = none) (al:mg "tuple" = none) (am:mg "sorted" = none) (li:XCal P w K mg base n "TooMany" C ["most"]):FnOk P w K mg base (MV P w) (n+1+1) f fd oY (BX K C 3 QE):=by
 refine F.vokL Xs λaq A outer s H E EX Q hX=>⟨_,(Af (Aq (i:=3) Xs.nd rfl oH E7)<|Af (Hh PassesOwn.leaving rfl (Am cAt Q rfl<|Aa (Bk (N':=["arrow"]) (mp:=[none]) rfl (Bb<|Bh B2 (vv 1) Ag) (λ_ _ _ _=>(Aj (i:=0) WQ rfl oH oI)) (λ_ _ _ _=>Bj) (λ_ _ _ _=>(A8 B4 (vv 0)<|Bl<|Aa Ag Ae))<|Ap (N:=nMc) (pn:=(Ah YI).names)<|by decide +kernel) Ae) (Aw (Aj (i:=4) Xs.nd rfl oH)<|Aw (Aj (i:=5) Xs.nd rfl oH) B7)<|Ai<|Dl (Bx Q) (vv 3) (vv 4)<|Am yz Q rfl<|Aa (vv 5) Ae)<|Af (Aq (i:=6) Xs.nd rfl oH<|Am cNk Q rfl<|Aa (vv 3)<|Aa (Am cFg Q rfl<|Aa (vv 0)<|Aa (vv 3)<|Aa E3 Ae) Ae)<|Af (J1 PassesOwn.leaving (VW.pt<|Fk (Bd Os (A7 OQ rfl ai bP<|Aa (vv 6) Ae) Ag<|nomark _)<|Fj<|Bd SL (Am cHm Q rfl<|Aa (vv 3) Ae) (vv 2)<|nomark _)<|Af (Ck<|Am cKc Q rfl<|Aa (vv 3)<|Aa (vv 6) Ae)<|Ai<|Aq (i:=6) Xs.nd rfl oH<|Am cNk Q rfl<|Aa (vv 3)<|Aa (Am cFg Q rfl<|Aa (vv 0)<|Aa (vv 3)<|Aa E3 Ae) Ae)<|Af (Ct (Bd Os (Am cHm Q rfl<|Aa (vv 3) Ae) (vv 2)<|nomark _) (Ai<|Xg li Q rfl hX rfl<|Aa (vv 2) Ae) Bp)<|Ai<|Bf<|Ca Du rfl al b_<|Aa (A7 (Mo Q) rfl am PyProof.Rows.boot_sorted<|Aa (Am cAw Q rfl<|Aa (vv 3) Ae) Ae) Ae),?_⟩
 rintro xs I R _ ⟨g,s,rfl,hg,hs,hE,q⟩;have t5:∀a∈s.as,∀t∈a.ts,t<5:=λa ha t ht=>Y_ (hs.t a ha t ht).2 hs.o;have y7:s.as.length<=15:=K_ hs.n (by decide);have hAl:(s.as.map Dj).length<=15:=by rw[C_];exact y7
 have hB0:∀k,∀z∈grp (s.as.map Dj) k,z.1=0:=λk z hz=>by
  obtain⟨a,_,_,_,rfl⟩:=Ie.mp hz
  rfl
 have hB1:∀k,∀z∈grp (s.as.map Dj) k,z.2<32:=λk z hz=>by obtain⟨a,ha,_,_,rfl⟩:=Ie.mp hz;exact Sv (t5 a ha)<|by decide
 have hB2:∀k,∀z∈grp (s.as.map Dj) k,∀t∈B3 z.2,g.pl.length<=t:=λk z hz t ht=>by obtain⟨a,ha,_,_,rfl⟩:=Ie.mp hz;exact(hs.t a ha t<|(Sx (t5 a ha) t).mpr ht).1
 have hB3:∀k,grp (s.as.map Dj) k≠[]->k.1<5/\k.2<4:=λk hk=>by obtain⟨z,hz⟩:=fS _ hk;obtain⟨a,ha,e1,e2,_⟩:=Ie.mp hz;rw[<- e1,<- e2];exact⟨Y_ (hs.p a ha) hs.o,eV (hs.x a ha)<|by decide⟩
 have hBl:∀k,(grp (s.as.map Dj) k).length<=15:=λk=>by unfold grp;rw[C_];exact K_ (bI _ _) hAl
 intro dk yt;refine Ay (λB r=>∃Y V G u,B=[oF<|Ee g,oF<|Fc s,oE 200,oD dk,Y,V,none]/\Kpt r dk G u/\MI g (grp<|s.as.map Dj) s.es G/\Sub I r) (λZ hZ=>?_) ?_
 ·refine Ac (A3 (j:=1) rfl)<|Ac (Mr s.as) λpc ba=>?_;have S0:Sub I (Al I dk<|.dt []):=Sub.refl.new yt;have e0:Al I dk (.dt []) dk=some (.dt []):=Ab;generalize Al I dk (.dt [])=μ0 at ba S0 e0;refine cmap s.as _ (λa=>Gg<|Dj a) (λB=>∃o,B=[o]) ⟨none,rfl⟩ Ab (seven<|by omega) (λ_=>Mr s.as) ?_ ?_
  ·rintro i a τ' acc W ha ⟨o,rfl⟩ hW;have hc:=hs.c a<|V_ ha;obtain⟨p,x,ts,c⟩:=a;dsimp only at hc;subst hc;exact⟨by show 3+1<=sizeLine;decide,hW _ ⟨_,rfl⟩⟩
  ·rw[Au];have gj:dk≠pc:=by rintro rfl;rw[e0]at ba;cases ba
   have S1:Sub I (Al μ0 pc<|.lst<|s.as.map λa=>Gg<|Dj a):=S0.new<|S0.none ba;have e1:Al μ0 pc (.lst<|s.as.map λa=>Gg<|Dj a) dk=some (.dt []):=by rw[Ad gj];exact e0
   have p1:Al μ0 pc (.lst<|s.as.map λa=>Gg<|Dj a) pc=oG ((s.as.map Dj).map Gg):=by rw[Ab,X_];rfl
   generalize Al μ0 pc (.lst<|s.as.map λa=>Gg<|Dj a)=μ1 at S1 e1 p1;refine⟨.R pc,s.as.map Dj,rfl,Ak p1,K_ hAl<|by decide,λa ha t ht=>?_,λd y μ2 T=>?_⟩
   ·obtain⟨b,hb,rfl⟩:=D_.mp ha;exact t5 b hb t ht
   refine Ac T.dd ?_;have dkd:dk≠d:=by rintro rfl;have:=T.fd;rw[e1]at this;cases this
   have d0:I d=none:=S1.none T.fd;have S2:Sub I (Cb μ2 d):=λb m hb=>by rw[A9<|by rintro rfl;rw[d0]at hb;cases hb];exact T.ss _ _<|S1 _ _ hb
   have e2:Cb μ2 d dk=some (.dt<|([]:oA<|(Nat×Nat)×lT).map kvT):=by rw[A9 dkd];exact T.ss _ _ e1
   have l2:∀e∈y,Cb μ2 d e.2=oG ((grp (s.as.map Dj) e.1).map A4)/\e.2≠dk:=λe he=>by obtain⟨h1,h2⟩:=T.fe e he;exact⟨by rw[A9 h2];exact T.ll e he,λz=>by rw[z,e1]at h1;cases h1⟩
   refine Ko (λi B r=>∃Y V G u,B=[oF<|Ee g,oF<|Fc s,oE 200,oD dk,Y,V,none]/\Kpt r dk G u/\(∀e∈y.take i,CvA (grp (s.as.map Dj) e.1)<|G e.1)/\(∀k,(∀e∈y.take i,e.1≠k)->G k=[])/\(∀e∈y,r e.2=oG ((grp (s.as.map Dj) e.1).map A4))/\Sub I r) ⟨none,none,λ_=>[],[],rfl,⟨⟨e2,(λ_ h=>nomatch h),aE _,cX⟩,λ_ _=>rfl,(λ_ h=>nomatch h)⟩,(λ_ h=>nomatch h),λ_ _=>rfl,λe he=>(l2 e he).1,S2⟩ ?_ ?_
   ·rintro i v B μ3 W hv ⟨Y,V,G,u,rfl,T3,hC,hO,hL,S3⟩ hW;rw[M_]at hv;obtain⟨e,he,rfl⟩:=L_.mp hv;have ic:=V_ he;have bh:y.take (i+1)=y.take i++[e]:=by rw[aJ,he];rfl
    have bt:∀U∈y.take i,U.1≠e.1:=λU av c=>by have h3:((y.take<|i+1).map (·.1)).Nodup:=T.uu.sublist<|(eD _ _).map _;rw[bh,P_,bE]at h3;exact h3.2.2 U.1 (D_.mpr ⟨U,av,rfl⟩) e.1 (by simp) c
    dsimp only[E6,Dd,Ou,List.set,kvT,Zj];refine⟨e.2,grp (s.as.map Dj) e.1,rfl,hL e ic,K_ (hBl e.1)<|by decide,hB1 e.1,λzs l μ4 C hl e4 L=>?_⟩;have ep:dput (.dt<|u.map kvT) (.tuple [.int (e.1.1:Nat),.int (e.1.2:Nat)]) (.R l)=some (.dt<|(putK u e.1 l).map kvT):=by rw[<- WI];rfl
    have ldk:l≠dk:=by rintro rfl;rw[T3.D.dd]at hl;cases hl
    have zak:=T3.D.n;refine Ac (L _ _ T3.D.dd)<|Ac ep ⟨A5<|show(u.map kvT).length<=1000 by rw[C_];omega,hW _ _ ⟨_,_,λk=>if k=e.1 then zs else G k,putK u e.1 l,rfl,?_,λU av=>?_,λk hk=>?_,λU av=>?_,Ed (S3.trans L) yt⟩⟩
    ·exact(T3.sub L).put (hB3 _<|(T.kk e.1).mp ⟨e,ic,rfl⟩) (by rw[N_ rfl];exact e4) ldk λj hj=>I_ hj
    ·rw[bh]at av;dsimp only;rcases S_.mp av with h|h
     ·rw[I_<|bt U h];exact hC U h
     ·rw[O_.mp h,N_ rfl];exact C
    ·rw[bh]at hk;dsimp only;rw[I_ λz=>hk e (by simp) z.symm];exact hO k λU av=>hk U<|aD _ av
    ·rw[Ad (l2 U av).2];exact L _ _<|hL U av
   ·rintro B μ3 ⟨Y,V,G,u,rfl,T3,hC,hO,hL,S3⟩;rw[C_,aK]at hC hO;refine hZ _ _ ⟨_,_,G,u,rfl,T3,MI.start (λk=>?_) hB0 hB1 hB2,S3⟩;by_cases h:∃e∈y,e.1=k
    ·obtain⟨e,he,rfl⟩:=h;exact hC e he
    ·rw[hO k λe he c=>h ⟨e,he,c⟩,show grp (s.as.map Dj) k=[] from aT λc=>h<|(T.kk k).mpr c];exact⟨(λ_ h=>nomatch h),(λ_ h=>nomatch h),cX⟩
 rintro B μ1 ⟨Y,V,G,u,rfl,T,M,S1⟩;refine Ay (λB r=>∃J X O,B=[oF<|Ee g,oF<|Fc s,oE 200,oD dk,Y,V,oD J]/\Kpt r dk G u/\DcK r J X O/\Wt g G X O/\J≠dk/\I J=none/\Sub I r) (λZ hZ=>?_) ?_
 ·exact DL (R:=λv r=>Z [oF<|Ee g,oF<|Fc s,oE 200,oD dk,Y,V,some v] r) hg T M.tb λJ X O μ2 T2 D2 W2 h1 h2 S2=>hZ _ _ ⟨J,X,O,rfl,T2,D2,W2,h1,S1.none h2,S1.trans S2⟩
 clear T S1;rintro B μ2 ⟨J,X,O,rfl,T2,D2,W2,lp,w0,S2⟩;refine Ay (λB r=>∃o6 G u,B=[oF<|Ee g,oF<|Fc s,oE 200,oD dk,Y,V,o6]/\Kpt r dk G u/\MI g (grp<|s.as.map Dj) s.es G/\((u.map λe=>(G e.1).length).sum<=200->∀k,rgp g.rs k≠[]->Under (Ga g G k) (G k))/\Sub I r) (λZ hZ=>?_) ?_
 ·refine Ng (λm B r=>∃J X O G u,B=[oF<|Ee g,oF<|Fc s,oE 200,oD dk,Y,V,oD J]/\Kpt r dk G u/\DcK r J X O/\Wt g G X O/\MI g (grp<|s.as.map Dj) s.es G/\J≠dk/\I J=none/\cnt G+m=288/\Sub I r) (288-cnt G) ⟨J,X,O,G,u,rfl,T2,D2,W2,M,lp,w0,kA<|DI M.tb,S2⟩ ?_;clear T2 D2 W2 M lp w0 S2;rintro m B μ3 W ⟨J,X,O,G,u,rfl,T,D,Wk,M,hd,w0,hm,S⟩ hW;refine Ac D.dd<|dif (λc=>?_) λc=>?_
  ·have zl:O≠[]:=by
    rintro rfl;exact absurd c<|by decide
   refine⟨dk,G,u,rfl,T.D,λe he=>(M.tb e.1).1,λμ4 L=>dif (λc2=>?_) λc2=>hZ _ _ ⟨_,G,u,rfl,T.sub L,M,λc3=>absurd (Int.ofNat_le.mpr c3) c2,S.trans L⟩⟩;have hP:=λe he=>hg.pt<|Wk.k e he;refine⟨dk,J,G,X,u,O,rfl,T.sub L,⟨L _ _ D.dd,λe he=>⟨L _ _ (D.ll e he).1,(D.ll e he).2⟩,D.n,D.uu⟩,zl,λe he=>(Wk.w e he).1,λe he=>?_,M.tb,λe he=>?_,hd.symm,λc N sy μ5 cu C T5 S5=>?_⟩
   ·obtain⟨h1,h2,_⟩:=hP e he;have:=hg.p;omega
   ·obtain⟨_,h2,h3⟩:=Wk.w e he;exact⟨Ss h3 λz hz=>(h2 z hz).2.1,λz hz=>(h2 z hz).2.1⟩
   have wm:=M.more hg<|IF hg Wk C;have hc5:=DH hg Wk C cu;have xp:=DI wm.tb;have S05:Sub I μ5:=λb m hb=>S5 _ _<|by
    rw[A9 (by rintro rfl;rw[yt]at hb;cases hb),A9<|by rintro rfl;rw[w0]at hb;cases hb];exact L _ _<|S _ _ hb
   exact DL (R:=λv r=>W [oF<|Ee g,oF<|Fc s,oE 200,oD dk,Y,V,some v] r) hg T5 wm.tb λdw2 Wf2 kw2 μ6 T6 D6 W6 h1 h2 S6=>hW (288-cnt λk=>G k++N k) _ _ (by omega) ⟨dw2,Wf2,kw2,_,sy,rfl,T6,D6,W6,wm,h1,S05.none h2,kA xp,S05.trans S6⟩
  ·have zl:O=[]:=by
    cases O with
    |nil=>rfl
    |cons e l=>exact absurd (show(0:Int)<(((e::l).map kvT).length:Nat) from by rw[C_,aR];omega) c
   exact Hr rfl<|hZ _ _ ⟨_,G,u,rfl,T,M,λ_=>Wk.c zl,S⟩
 rintro B μ3 ⟨o6,G,u,rfl,T,M,hU,S⟩;refine Cr ⟨dk,G,u,rfl,T.D,λe he=>(M.tb e.1).1,λμ4 L=>dif (λc=>⟨rfl,hE _<|S.trans L⟩) λc=>?_⟩;have T4:=T.sub L;have hmn:(u.map λe=>(G e.1).length).sum<=200:=jJ λz=>c<|Int.ofNat_lt.mpr z;refine⟨dk,G,u,rfl,⟨T4.D.dd,λe he=>⟨(T4.D.ll e he).1,(T4.D.ll e he).2,K_ (M.tb e.1).1<|by decide,M.b e.1⟩,T4.D.n⟩,λl μ5 hl e5 S5=>?_⟩;have ag:(Cy G u).length<=200:=by unfold Cy;rw[List.length_flatMap];simp only[List.length_map];exact hmn
 have km:dats ((Cy G u).map Gg)=some (((Cy G u).map toW).map Di):=by rw[show(Cy G u).map Gg=(((Cy G u).map toW).map Di).map .D by rw[X_,X_];rfl];exact B8 _
 refine Ac e5<|Ac km ⟨?_,λes p hp gr=>?_⟩
 ·obtain⟨k1,k2,_⟩:=U5<|(Cy G u).map toW;refine⟨by rw[C_,C_];omega,k1,by omega,λd hd=>?_,λd hd e he=>?_⟩
  ·obtain⟨a,_,rfl⟩:=D_.mp hd;exact⟨a.p,_,rfl⟩
  ·obtain⟨a,ha,rfl⟩:=D_.mp hd;obtain⟨b,hb,rfl⟩:=D_.mp he;obtain⟨a',_,rfl⟩:=D_.mp ha;obtain⟨b',_,rfl⟩:=D_.mp hb;exact U4 rfl
 rw[X_]at hp;obtain⟨Ms,rfl,hp2⟩:=Db hp (Cy G u) rfl;have dz:=hp2.length_eq;have S6:Sub I μ5:=λb m hb=>S5 _ _<|by
  rw[A9<|by rintro rfl;rw[yt]at hb;cases hb];exact L _ _<|S _ _ hb
 refine Ac (Ak Ab) (Ac (B8 _) ⟨_,Sub.refl,q Ms _ (by omega) (λa ha=>?_) (QD hg.rs t5 (DK T.o λa=>hp2.mem_iff) M<|hU hmn)<|S6.new<|S6.none gr⟩);obtain⟨e,he,z,hz,rfl⟩:=N5.mp<|hp2.mem_iff.mp ha;exact K_ (bI _ _)<|by rw[dS];decide
def Qm{a b:oA Nat}(h:Av a=Av b):a=b:=by unfold Av at h;injection h with h;exact List.map_inj_right (λx y e=>by injection e with e;omega) |>.mp h
def Hl(a b c d:Nat):PyData.eqv (.tuple [.int (a:Nat),.int (b:Nat)]) (.tuple [.int (c:Nat),.int (d:Nat)])=(decide (a=c)&&decide (b=d)):=by
 rw[Ue rfl rfl,gV,aW,bH,aW,aW];constructor
 ·intro h;have:=Qm (a:=[a,b]) (b:=[c,d]) h;simp at this;exact this
 ·rintro⟨rfl,rfl⟩;rfl
def N6(a b:Nat):B6 (.tuple [.int (a:Nat),.int (b:Nat)]):=⟨rfl,by simp[PyData.depth,PyData.depthAll]⟩
theorem Kz{a d:Type}{f:a->d}{B:oA a}:∀{es:oA d},(∀e∈es,e∈B.map f)->∃C:oA a,es=C.map f/\∀c∈C,c∈B
 |[],_=>⟨[],rfl,λ_ z=>nomatch z⟩
 |e::es,h=>by
  obtain⟨b,hb,rfl⟩:=D_.mp<|h e<|.head _;obtain⟨C,rfl,j⟩:=Kz λi g=>h i<|.tail _ g;exact⟨b::C,rfl,λc hc=>by
   rcases aB.mp hc with rfl|hc
   ·exact hb
   ·exact j c hc⟩
def DM{B:oA Arw}(j:B.length<300)(hc:∀a∈B,a.c=none):TOk (B.map Di):=by
 refine⟨by rw[C_];omega,λd g=>?_,λd g=>?_,λd g e he=>?_⟩
 ·obtain⟨a,ha,rfl⟩:=D_.mp g;obtain⟨h1,h2,i⟩:=DC a;exact⟨i,h1,by omega⟩
 ·obtain⟨a,ha,rfl⟩:=D_.mp g;exact⟨a.p,_,rfl⟩
 ·obtain⟨a,ha,rfl⟩:=D_.mp g;obtain⟨b,hb,rfl⟩:=D_.mp he;exact U4<|by rw[hc a ha,hc b hb]
def Bs(z:Str):AV:=.D<|.str z
def U8{z:Str}(h:lets z):PyData.canLay0 (.str z)=true:=by show PyData.strOk z=true;unfold PyData.strOk;rw[Array.all_eq_true];intro i a;have:=h z.cps[i] (by simp);simp;omega
def Mu{z:Str}(h:lets z):B6 (.str z):=Zg<|U8 h
def K0(a:oA Str):dats (a.map Bs)=some (a.map PyData.str):=by rw[show a.map Bs=(a.map PyData.str).map .D by rw[X_];rfl];exact B8 _
theorem Qn:∀(a:oA Str),txts (a.map Bs)=some a
 |[]=>rfl
 |z::a=>by simp only[List.map_cons,Bs,txts,Option.map_eq_some_iff];exact⟨a,Qn a,rfl⟩
def IH:∀i:Fin 26,∃c,("abcdefghijklmnopqrstuvwxyz" : Str).cps.toList[i.val]?=some c/\97<=c/\c<=122:=by decide +kernel
def QF{v:Nat}(h:v<26):∃c,atI ("abcdefghijklmnopqrstuvwxyz" : Str).cps.toList (v:Int)=some c/\97<=c/\c<=122:=by obtain⟨c,e,h1⟩:=IH ⟨v,h⟩;exact⟨c,A3 e,h1⟩
def K7{c:Nat}(h:97<=c/\c<=122):lets ⟨#[c]⟩:=λd a=>by
 have:d=c:=by simpa using a
 rw[this];exact h
def Sy:("abcdefghijklmnopqrstuvwxyz" : Str).length<=sizeLine:=by decide +kernel
def DN:("" : Str).length=0:=by decide +kernel
def Ji(x y:Str):(x++y).length=x.length+y.length:=by rw[Gf,Gf,Gf,Nn,R_]
theorem Qo:∀{a:oA Str},(∀z∈a,z.length=1)->(a.map (·.length)).sum=a.length
 |[],_=>rfl
 |z::a,h=>by simp only[List.map_cons,List.sum_cons,List.length_cons];rw[h z aV,Qo λy hy=>h y<|aM _ hy];exact lN _ _
def Xt(a:oA Str):(Txt.join "" a).length=(a.map (·.length)).sum:=by
 show(PySem.Builtin.Str.glued "" a).length=_;rw[StrLaws.glued_eq_join]
 induction a with
 |nil=>rfl
 |cons x a b=>
  cases a with
  |nil=>simp[Str.join]
  |cons y a=>have e:Str.join "" (x::y::a)=x ++ "" ++ Str.join "" (y::a):=rfl;rw[e,Ji,Ji,DN,b];simp
def YQ{x:Str}{j:Nat}(h:lets x)(hj:j<=x.length):lets (Txt.slice x none<|some (j:Int)):=λc hc=>by rw[Pk (dB _)<|by omega]at hc;exact h c<|eY hc
def QG{x:Str}{j:Nat}(hj:j<=x.length):(Txt.slice x none<|some (j:Int)).length=j:=by rw[Gf,Pk (dB _)<|by omega,aY,<- Gf];omega
abbrev Fd:oA Str:=["place","letter","rule","own","arrow","ends","one","other"]
def Qp(a:oA Str)(z:Str):((a.map PyData.str).any λe=>PyData.eqv e<|.str z)=true↔z∈a:=by
 rw[dO];constructor
 ·rintro⟨e,he,h⟩;obtain⟨y,hy,rfl⟩:=D_.mp he;rw[Tt]at h;rw[<- aQ h];exact hy
 ·exact λh=>⟨_,D_.mpr ⟨z,h,rfl⟩,by rw[Tt];exact aZ rfl⟩
theorem U9:∀{c:oA Str},(∀z∈c,lets z)->PyData.canLayAll0 (c.map PyData.str)=true/\PyData.depthAll (c.map PyData.str)<=1
 |[],_=>⟨rfl,by simp[PyData.depthAll]⟩
 |z::c,h=>by
  obtain⟨a,b⟩:=U9 λy hy=>h y<|.tail _ hy;have:=U8<|h z<|.head _;refine⟨?_,?_⟩
  ·simp only[List.map_cons,PyData.canLayAll0,this,a,Bool.and_self]
  ·simp only[List.map_cons,PyData.depthAll,PyData.depth];omega
def Mv{c:oA Str}(h:∀z∈c,lets z):B6 (.tuple<|c.map PyData.str):=by obtain⟨a,b⟩:=U9 h;exact⟨by simp only[PyData.canLay0];exact a,by simp only[PyData.depth];omega⟩
def DO{x:Str}(h:lets x):lets (Txt.slice x none<|some (4:Int)):=λc hc=>by
 have hc:c∈(StrLaws.sliceText x none<|some (4:Int)).cps.toList:=hc;unfold StrLaws.sliceText at hc;split at hc
 ·exact h c hc
 ·rw[List.toList_toArray]at hc;obtain⟨i,_,a⟩:=iL.mp hc;refine h c ?_;rw[<- Z_]at a;exact V_ a
def II(x:Str):(Txt.slice x none<|some (4:Int)).length<=4:=by
 rcases bN x.length 4 with h|h
 ·exact K_ (Txt.slice_le x none<|some (4:Int))<|cH h
 ·exact fH<|QG (j:=4) h
def DP:∀i:Fin 26,("abcdefghijklmnopqrstuvwxyz" : Str).cps.toList[i.val]?=some (97+i.val):=by decide +kernel
def Xu:∀z∈Fd,(z.cps.toList.all λc=>decide (97<=c/\c<=122))=true:=by decide +kernel
def Mw(z:Str):Nat:=(z.cps.toList.getLast?).getD 0
def DQ(x:Str)(c:Nat):Mw (x++(⟨#[c]⟩:Str))=c:=by unfold Mw;rw[Nn];simp
def DR{ys:oA Str}{sp:Nat}(h:∀j,j<sp->∃z∈ys,Mw z=97+j):sp<=ys.length:=by
 have hnd:((List.range sp).map λj=>97+j).Nodup:=by unfold List.Nodup;rw[eG];exact List.Pairwise.imp (λa e=>a<|by omega) lI
 have:=Fo hnd (ys:=ys.map Mw) λx hx=>by obtain⟨j,hj,rfl⟩:=D_.mp hx;obtain⟨z,hz,e⟩:=h j<|bK.mp hj;exact D_.mpr ⟨z,hz,e⟩
 rwa[C_,dS,C_]at this
abbrev nNa:oA Str:=["_law_deal_here","_law_many","_law_letters","_law_words","_law_found","_law_k","_law_size","_law_word","_law_spare"]
def Lo:FnScope nNa oJ (Ah YL):=B5<|by decide +kernel
def WS:(qO:oA Str).Nodup:=by decide +kernel
def WT:ASp:=λe c R=>∃(a l:lT) (b:Nat),e=[.R a,.D<|.int b]/\b<=6/\Pot c a l/\∀(d:oA Str) (p:lT) μ',d.length=b->c p=none->μ' p=oG (d.map Bs)->Pot μ' a l->Bo a l c μ'->R (.R p) μ'
def WU{n:Nat}(F:Fun K "_law_names" "_law_names" YL f fd) (dh:VCal P w K mg base n "_law_draw" oJ Xk) (ah:mg "range" = none):FnOk P w K mg base Eh (n+1) f fd oJ (Gd K 2 WT):=by
 refine F.vok Lo λaq A outer s H E hr=>⟨_,(Af (Aq (i:=2) Lo.nd rfl oI B9)<|Af (Aq (i:=3) Lo.nd rfl oH<|Br<|Aa B9<|Aa B9<|Aa B9<|Aa B9<|Aa B9<|Aa B9<|Aa B9<|Aa B9 Ae)<|Af (Aq (i:=4) Lo.nd rfl oH<|Br Ae)<|Af (Cf aL rfl (Ch rfl ah<|Aa (vv 1) Ae) (Aj (i:=5) Lo.nd rfl oH)<|Af (Aq (i:=6) Lo.nd rfl oH<|A8 B4 Ag<|Am dh hr rfl<|Aa (vv 0)<|Aa (Bh B2 (Br<|Aa Ag<|Aa Ag Ae)<|Am dh hr rfl<|Aa (vv 0)<|Aa Ag Ae) Ae)<|Af (Aq (i:=7) Lo.nd rfl oH<|SQ PySem.F.slot_str_join PySem.F.type_str_join OC B9<|Aa (Bk (N':=qO) (mp:=[none,some 2,some 0]) rfl (Ch rfl ah<|Aa (vv 6) Ae) (λ_ _ _ _=>(Aj (i:=0) WS rfl oH oI)) (λ_ _ _ _=>Bj) (λ_ _ _ _=>(Bh B2 (vv 1)<|Am dh hr rfl<|Aa (vv 2)<|Aa Ag Ae))<|Ap (N:=nNa) (pn:=(Ah YL).names)<|by decide +kernel) Ae)<|Af (Aq (i:=8) Lo.nd rfl oH Ag)<|Af (J1 aL (VW.pt<|IZ (Bd (ND hr) (vv 7) (vv 4)<|by with_unfolding_all rfl)<|Y9<|Bd (ND hr) (vv 7) (vv 3)<|by with_unfolding_all rfl)<|Af (Aq (i:=7) Lo.nd rfl oH<|A8 B4 (A8 B4 (Cs (vv 7) Ek<|C0 Ag)<|Bh B2 (vv 2)<|A8 Gr (A8 Zb (vv 8) Ag) Ag)<|Bh B2 (vv 2)<|A8 Gr (vv 8) Ag)<|Ai<|Aq (i:=8) Lo.nd rfl oH<|A8 B4 (vv 8) Ag)<|Ai<|Ck<|Fw cN cP Dn (vv 4)<|Aa (vv 7) Ae)<|Ai<|Bf<|vv 4),?_⟩
 rintro xs O R _ ⟨a,l,u,rfl,hm,hP,q⟩;refine PH<|Ay (λd b=>∃e,d=[oD a,oE u,some<|Bs "abcdefghijklmnopqrstuvwxyz",oD e,none,none,none,none,none]/\O e=none/\b e=oG (Fd.map Bs)/\Pot b a l/\Bo a l O b) (λZ hZ=>λe gj=>hZ _ _ ⟨e,rfl,gj,Ab,hP.new gj,Bo.refl.new gj⟩) ?_;rintro d μ1 ⟨e,rfl,gj,e1,P1,S1⟩;intro p ii;have i6:=hP.ne gj;have I:=P1.ne ii;have md:O p=none:=S1.none I.1 I.2 ii;have hkf:e≠p:=by rintro rfl;rw[e1]at ii;cases ii
 refine Ay (λd b=>∃Y o6 S G,∃k:oA Str,d=[oD a,oE u,some<|Bs "abcdefghijklmnopqrstuvwxyz",oD e,oD p,Y,o6,S,G]/\k.length=u/\b p=oG (k.map Bs)/\Pot b a l/\Bo a l O b) (λZ hZ=>?_) ?_
 ·refine⟨by omega,by omega,?_⟩;have ag:(Et 0 (u:Int).toNat).length=u:=by rw[Bm];omega
  refine C8 (λi d b=>∃Y o6 S G,∃k:oA Str,d=[oD a,oE u,some<|Bs "abcdefghijklmnopqrstuvwxyz",oD e,oD p,Y,o6,S,G]/\k.length=i/\(∀z∈k,lets z)/\b p=oG (k.map Bs)/\b e=oG (Fd.map Bs)/\Pot b a l/\Bo a l O b) ⟨none,none,none,none,[],rfl,rfl,(λ_ z=>nomatch z),Ab,by rw[Ad hkf];exact e1,P1.new ii,S1.new ii⟩ (λ_ _ _ _=>trivial) ?_ ?_
  ·rintro i y d μ2 Z2 hy ⟨Y,o6,S,G,k,rfl,Q,hz,X,k2,V,S2⟩ hZ2;have hi:i<u:=by rw[<- ag];exact(F_.mp hy).1
   refine Ay (λd b=>∃B:Nat,d=[oD a,oE u,some<|Bs "abcdefghijklmnopqrstuvwxyz",oD e,oD p,some y,oE B,S,G]/\B<=6/\b p=oG (k.map Bs)/\b e=oG (Fd.map Bs)/\Pot b a l/\Bo a l O b) (λZ3 a9=>?_) ?_
   ·intro pt U;have nj:=V.ne U;have hft:p≠pt:=by rintro rfl;rw[X]at U;cases U
    have hkt:e≠pt:=by rintro rfl;rw[k2]at U;cases U
    refine⟨a,l,2,rfl,V.new U,by decide,by decide,λc μ3 hc P3 S3=>?_⟩;obtain⟨m,hm0,hm6,hix⟩:∃m:Nat,0<m/\m<=6/\atI [AV.D<|.int 2,.D<|.int 6] (c:Int)=oE (m:Nat):=by
     match c,hc with
     | 0,_=>exact⟨2,by decide,by decide,rfl⟩
     | 1,_=>exact⟨6,by decide,by decide,rfl⟩
    refine Ac (S3 pt _ nj.1.symm nj.2.symm Ab)<|Ac hix ⟨a,l,m,rfl,P3,hm0,by omega,λv μ4 hv P4 S4=>a9 _ _ ⟨1+v,rfl,by omega,?_,?_,P4,(S2.new U).trans<|S3.trans S4⟩⟩
    ·exact S4 p _ I.1.symm I.2.symm<|S3 p _ I.1.symm I.2.symm<|by rw[Ad hft];exact X
    ·exact S4 e _ i6.1.symm i6.2.symm<|S3 e _ i6.1.symm i6.2.symm<|by rw[Ad hkt];exact k2
   rintro d μ4 ⟨B,rfl,hsz,e4,k4,P4,S4⟩;refine Ay (λd b=>∃g:Str,d=[oD a,oE u,some<|Bs "abcdefghijklmnopqrstuvwxyz",oD e,oD p,some y,oE B,some<|Bs g,G]/\lets g/\g.length<=6/\b p=oG (k.map Bs)/\b e=oG (Fd.map Bs)/\Pot b a l/\Bo a l O b) (λZ3 a9=>?_) ?_
   ·refine⟨trivial,by omega,by omega,λpl t=>?_⟩;have jh:=P4.ne t;have lh:p≠pl:=by rintro rfl;rw[e4]at t;cases t
    have uh:e≠pl:=by rintro rfl;rw[k4]at t;cases t
    have oh:(Et 0 (B:Int).toNat).length=B:=by rw[Bm];omega
    refine D5 (λj L d b=>∃(o:oB AV) (ys:oA Str),d=[o,some<|Bs "abcdefghijklmnopqrstuvwxyz",oD a]/\L=ys.map Bs/\ys.length=j/\(∀z∈ys,lets z/\z.length=1)/\b pl=oG L/\b p=oG (k.map Bs)/\b e=oG (Fd.map Bs)/\Pot b a l/\Bo a l μ4 b) ⟨none,[],rfl,rfl,rfl,(λ_ z=>nomatch z),Ab,by rw[Ad lh];exact e4,by rw[Ad uh];exact k4,P4.new t,Bo.refl.new t⟩ (λ_ _ _ _ _=>trivial) ?_ ?_
    ·rintro j x L d μ6 Z4 hx ⟨o,ys,rfl,rfl,yh,hb,l6,e6,k6,P6,S6⟩ ol;refine Jd rfl ⟨a,l,26,rfl,P6,by decide,by decide,λv μ7 hv P7 S7=>?_⟩;have l7:=S7 pl _ jh.1.symm jh.2.symm l6;obtain⟨ch,ec,jg⟩:=QF hv;have hj:j<B:=by rw[<- oh];exact(F_.mp hx).1
     refine⟨Sy,Ac ec ⟨l7,A5<|by rw[C_];omega,ol _ _ _ ⟨_,ys++[⟨#[ch]⟩],rfl,by rw[P_];rfl,by rw[R_,yh];rfl,λz J=>?_,Ab,by rw[Ad lh];exact S7 p _ I.1.symm I.2.symm e6,by rw[Ad uh];exact S7 e _ i6.1.symm i6.2.symm k6,P7.other jh.1 jh.2,(S6.trans S7).put t⟩⟩⟩;rcases S_.mp J with h|h
     ·exact hb z h
     ·rw[O_.mp h];exact⟨K7 jg,rfl⟩
    ·rintro L d μ6 ⟨o,ys,rfl,rfl,yh,hb,l6,e6,k6,P6,S6⟩;rw[oh]at yh;have wt:=Qo λz J=>(hb z J).2;refine Ac l6<|Ac (Qn ys) ⟨?_,a9 _ _ ⟨Txt.join "" ys,rfl,Wv λz J=>(hb z J).1,?_,e6,k6,P6,S4.trans S6⟩⟩
     ·rw[wt,DN];omega
     ·rw[Xt,wt];omega
   rintro d M ⟨g,rfl,r,C,e5,k5,P5,S5⟩;refine PH<|Ay (λd b=>∃G,∃g:Str,d=[oD a,oE u,some<|Bs "abcdefghijklmnopqrstuvwxyz",oD e,oD p,some y,oE B,some<|Bs g,G]/\lets g/\M=b) (λZ3 a9=>?_) ?_
   ·refine Ng (λm d b=>∃sp:Nat,∃g:Str,d=[oD a,oE u,some<|Bs "abcdefghijklmnopqrstuvwxyz",oD e,oD p,some y,oE B,some<|Bs g,oE (sp:Nat)]/\lets g/\g.length<=6/\m+sp=20/\(∀j,j<sp->g∈k++Fd->∃z∈k++Fd,Mw z=97+j)/\sp<=15/\M=b) 20 ⟨0,g,rfl,r,C,rfl,(λj h=>absurd h<|iK _),aE _,rfl⟩ ?_;clear r C;rintro m d _ W ⟨sp,g,rfl,r,C,hmm,dg,gf,rfl⟩ hW;have go:g∈k++Fd->We (Lh (Tn FV (Tn FV (vSl (Ft 7) Tq<|JG<|vC<|AV.D<|PyData.int 4)<|Tn QQ (Ft 2)<|Tn NF (Tn JE (Ft 8)<|vC<|AV.D<|PyData.int 26)<|vC<|AV.D<|PyData.int 26)<|Tn QQ (Ft 2)<|Tn NF (Ft 8)<|vC<|AV.D<|PyData.int 26)<|Dd 7) (Lh (Tn FV (Ft 8)<|vC<|AV.D<|PyData.int 1)<|Dd 8) W (YD R) Z3 W [oD a,oE u,some<|Bs "abcdefghijklmnopqrstuvwxyz",oD e,oD p,some y,oE B,some<|Bs g,oE (sp:Nat)] M:=λf6=>by
     have zai:sp<=(k++Fd).length:=DR λj hj=>dg j hj f6;rw[R_,Q]at zai;have h8:Fd.length=8:=rfl;have e26:((sp:Int)%26)=(sp:Nat):=Int.emod_eq_of_lt (dB _) (by omega);have zr:((sp:Int) / 26)%26=(0:Nat):=by rw[Int.ediv_eq_zero_of_lt (dB _)<|by omega];rfl
     have ec:atI ("abcdefghijklmnopqrstuvwxyz" : Str).cps.toList ((sp:Int)%26)=some (97+sp):=by rw[e26];exact A3<|DP ⟨sp,by omega⟩
     have ed:atI ("abcdefghijklmnopqrstuvwxyz" : Str).cps.toList ((sp:Int) / 26%26)=some 97:=by rw[zr];exact A3<|DP ⟨0,iB _⟩
     have l4:=DO r;have n4:=II g;refine Ay (λd b=>∃T:Str,d=[oD a,oE u,some<|Bs "abcdefghijklmnopqrstuvwxyz",oD e,oD p,some y,oE B,some<|Bs T,oE (sp:Nat)]/\lets T/\T.length<=6/\Mw T=97+sp/\M=b) (λZ4 ol=>⟨K_ C<|by decide,?_⟩) ?_
     ·generalize Txt.slice g none (some (4:Int))=s4 at l4 n4;have m1:(s4++(⟨#[97]⟩:Str)).length=s4.length+1:=by rw[Ji];rfl
      have m2:(s4++(⟨#[97]⟩:Str)++(⟨#[97+sp]⟩:Str)).length=s4.length+1+1:=by rw[Ji,m1];rfl
      refine⟨⟨by decide,by decide⟩,(show(0:Int)<26 by decide),Sy,Ac ed ⟨?_,(show(0:Int)<26 by decide),Sy,Ac ec ⟨?_,ol _ _ ⟨s4++(⟨#[97]⟩:Str)++(⟨#[97+sp]⟩:Str),rfl,Hf (Hf l4<|K7 ⟨by decide,by decide⟩)<|K7 ⟨cD _ _,by omega⟩,by omega,DQ _ _,rfl⟩⟩⟩⟩
      ·show s4.length+1<=sizeLine;exact K_ (show _<=10 by omega)<|by decide
      ·rw[m1];show s4.length+1+1<=sizeLine;exact K_ (show _<=10 by omega)<|by decide
     rintro d _ ⟨T,rfl,ln',mj,jt,rfl⟩;refine hW (m-1) _ _ (by omega) ⟨sp+1,T,rfl,ln',mj,by omega,λj hj J=>?_,by omega,rfl⟩;rcases bN j sp with h|h
     ·exact dg j h f6
     ·exact⟨T,J,by rw[jt,show j=sp by omega]⟩
    refine Ac rfl<|Ac (Ak e5)<|Ac (K0 k) ⟨Mu r,Mv hz,br (λc=>Jd rfl<|go<|aD _<|(Qp k g).mp c) λc=>Ac rfl<|Ac (Ak k5)<|Ac (K0 Fd) ⟨Mu r,Mv λz h=>λc hc=>aQ<|eM.mp (Xu z h) c hc,br (λc2=>go<|aN _<|(Qp Fd g).mp c2) λc2=>a9 _ _ ⟨_,g,rfl,r,rfl⟩⟩⟩
   clear r C;rintro d _ ⟨G,g,rfl,r,rfl⟩;refine⟨Ac e5 trivial,Ac e5 ⟨A5<|by rw[C_];omega,hZ2 _ _ ⟨_,_,_,_,k++[g],rfl,by rw[R_,Q];rfl,λz J=>?_,by rw[Ab,P_];rfl,by rw[Ad hkf];exact k5,P5.other I.1 I.2,S5.put md⟩⟩⟩;rcases S_.mp J with h|h
   ·exact hz z h
   ·rw[O_.mp h];exact r
  ·rintro d μ2 ⟨Y,o6,S,G,k,rfl,Q,hz,X,k2,V,S2⟩;rw[ag]at Q;exact hZ _ _ ⟨_,_,_,_,k,rfl,Q,X,V,S2⟩
 rintro d μ2 ⟨Y,o6,S,G,k,rfl,Q,X,V,S2⟩;exact⟨_,Sub.refl,q k p _ Q md X V S2⟩
def plA(p:Str×Nat):AV:=.D<|Lb p
def IJ(B:oA<|Str×Nat):dats (B.map plA)=some (B.map Lb):=by rw[show B.map plA=(B.map Lb).map .D by rw[X_];rfl];exact B8 _
def Va(B:oA Rq):dats (B.map Fr)=some (B.map N8):=by rw[show B.map Fr=(B.map N8).map .D by rw[X_];rfl];exact B8 _
def DS(r:Rq):PyData.canLay0 (N8 r)=true/\(N8 r).depth<=3:=by
 have h1:=N0 (ns:=r.w);refine⟨?_,?_⟩
 ·simp only[N8,Av,PyData.canLay0,PyData.canLayAll0,h1.1,Bool.and_true,Bool.true_and]
 ·have:=h1.2;simp only[N8,Av,PyData.depth,PyData.depthAll];omega
def IK(r:Rq):B6 (N8 r):=⟨(DS r).1,K_ (DS r).2<|by decide⟩
theorem DT:∀B:oA Rq,PyData.canLayAll0 (B.map N8)=true/\PyData.depthAll (B.map N8)<=3
 |[]=>⟨rfl,by simp[PyData.depthAll]⟩
 |r::B=>by
  obtain⟨a,b⟩:=DT B;obtain⟨c,d⟩:=DS r;refine⟨?_,?_⟩
  ·simp only[List.map_cons,PyData.canLayAll0,c,a,Bool.and_self]
  ·simp only[List.map_cons,PyData.depthAll];omega
def DU(B:oA Rq):B6 (.tuple<|B.map N8):=by obtain⟨a,b⟩:=DT B;exact⟨by simp only[PyData.canLay0];exact a,by simp only[PyData.depth];omega⟩
structure RqL(np nl:Nat)(r:Rq):Prop where
 p:r.p<np
 x:r.x<nl
 q:r.q<np
 w:r.w.length<=2
structure GqL(g:Gq):Prop where
 p0:0<g.pl.length
 p3:g.pl.length<=3
 l0:0<g.le.length
 l3:g.le.length<=3
 r8:g.rs.length<=8
 ok:∀r∈g.rs,RqL g.pl.length g.le.length r
def WV{b:oA Str}{a:Nat}(h:b.length=6)(g:a<=3):∃c:oA Str,Re (b.map Bs) (some 3) (some<|3+(a:Int))=c.map Bs/\c.length=a:=by
 refine⟨(b.drop 3).take a,?_,by rw[aY,gE];omega⟩;have e:HT.sIx (b.map Bs).length 0 (some 3)=3:=by rw[show(some (3:Int))=some ((3:Nat):Int) from rfl,HT.sIx_nat,C_,h];rfl
 have d:HT.sIx (b.map Bs).length (b.map Bs).length (some<|3+(a:Int))=3+a:=by rw[show(3+(a:Int))=((3+a:Nat):Int) by omega,HT.sIx_nat,C_,h];omega
 unfold Re;rw[e,d,show 3+a-3=a by omega,<- k_,<- kZ]
def Vb(u r:Rq):PyData.eqv (.tuple [.int (u.p:Nat),.int (u.x:Nat)]) (.tuple [.int (r.p:Nat),.int (r.x:Nat)])=En (r.p,r.x) u:=Hl _ _ _ _
abbrev WW:oA Str:=["_law_deal_here","_law_words","_law_many","_law_signs","_law_k","_law_places","_law_rules","_law_size","_law_rule","_law_place","_law_top","_law_to","_law_alike"]
def Jf:FnScope WW oZ (Ah OW):=B5<|by decide +kernel
def WX:(qP:oA Str).Nodup:=by decide +kernel
def WY:(qA:oA Str).Nodup:=by decide +kernel
def WZ:(qQ:oA Str).Nodup:=by decide +kernel
def XA:(["_law_one","_law_rule"]:oA Str).Nodup:=by decide +kernel
def QH:ASp:=λc b R=>∃(a l:lT),c=[.R a]/\Pot b a l/\∀(g:Gq) μ',GqL g->Pot μ' a l->Bo a l b μ'->R (.D<|Ee g) μ'
def XB{n:Nat}(F:Fun K "_law_game" "_law_game" OW f fd) (dh:VCal P w K mg base n "_law_draw" oJ Xk) (cNa:VCal P w K mg base n "_law_names" oJ WT) (ah:mg "range" = none) (ai:mg "len" = none) (al:mg "tuple" = none) (b7:mg "min" = none):FnOk P w K mg base Eh (n+1) f fd oZ (Gd K 1 QH):=by
 refine F.vok Jf λaq A outer s H E Y=>⟨_,(Af (Aq (i:=1) Jf.nd rfl oI<|Am cNa Y rfl<|Aa (vv 0)<|Aa Ag Ae)<|Af (HE rfl (Aa (A8 B4 Ag<|Am dh Y rfl<|Aa (vv 0)<|Aa Ag Ae)<|Aa (A8 B4 Ag<|Am dh Y rfl<|Aa (vv 0)<|Aa Ag Ae) Ae)<|Aw (Aj (i:=2) Jf.nd rfl oH)<|Aw (Aj (i:=3) Jf.nd rfl oI) B7)<|Af (Aq (i:=5) Jf.nd rfl oH<|Ca Du rfl al b_<|Aa (Bk (N':=qP) (mp:=[none,some 1,some 0]) rfl (Ch rfl ah<|Aa (vv 2) Ae) (λ_ _ _ _=>(Aj (i:=0) WX rfl oH oI)) (λ_ _ _ _=>Bj) (λ_ _ _ _=>(Bl<|Aa (Bh B2 (vv 1)<|vv 0)<|Aa (Am dh Y rfl<|Aa (vv 2)<|Aa Ag Ae) Ae))<|Ap (N:=WW) (pn:=(Ah OW).names)<|by decide +kernel) Ae)<|Af (Aq (i:=6) Jf.nd rfl oH<|Br Ae)<|Af (Cf aL rfl (Ch rfl ah<|Aa (Bh B2 (Br<|Aa Ag<|Aa Ag Ae)<|Am dh Y rfl<|Aa (vv 0)<|Aa Ag Ae) Ae) (Aj (i:=4) Jf.nd rfl oH)<|Af (Aq (i:=7) Jf.nd rfl oH<|Bh B2 (Br<|Aa Ag<|Aa Ag<|Aa Ag<|Aa Ag<|Aa Ag Ae)<|Am dh Y rfl<|Aa (vv 0)<|Aa Ag Ae)<|Af (Ct (Bd (Fv Y) (A7 Dt rfl ai bP<|Aa (Bk (N':=qA) (mp:=[none]) rfl (Bb<|vv 6) (λ_ _ _ _=>(Aj (i:=0) WY rfl oH oI)) (λ_ _ _ _=>(Cm<|Bd (Fv Y) (A7 Dt rfl ai bP<|Aa (Bh B2 (vv 0) Ag) Ae) Ag<|nomark _)) (λ_ _ _ _=>(vv 0))<|Ap (N:=WW) (pn:=(Ah OW).names)<|by decide +kernel) Ae) Ag<|nomark _) (Ai<|Aq (i:=7) Jf.nd rfl oH<|A7 (NG rfl) rfl b7 gX<|Aa (vv 7)<|Aa Ag Ae) Bp)<|Af (FX (i:=9) (j:=10) (l:=11) rfl Jf.nd rfl rfl rfl (by decide) (by decide) (by decide) rfl rfl rfl (Aa (Am dh Y rfl<|Aa (vv 0)<|Aa (vv 2) Ae)<|Aa (Am dh Y rfl<|Aa (vv 0)<|Aa (vv 3) Ae)<|Aa (Am dh Y rfl<|Aa (vv 0)<|Aa (vv 2) Ae) Ae) rfl)<|Af (Aq (i:=8) Jf.nd rfl oI<|Bl<|Aa (vv 9)<|Aa (vv 10)<|Aa (vv 11)<|Aa (Ca Du rfl al b_<|Aa (Bk (N':=qQ) (mp:=[none,some 0,some 3]) rfl (Ch rfl ah<|Aa (vv 7) Ae) (λ_ _ _ _=>(Aj (i:=0) WZ rfl oH oI)) (λ_ _ _ _=>Bj) (λ_ _ _ _=>(Am dh Y rfl<|Aa (vv 1)<|Aa (vv 2) Ae))<|Ap (N:=WW) (pn:=(Ah OW).names)<|by decide +kernel) Ae) Ae)<|Af (Aq (i:=12) Jf.nd rfl oH<|A7 Dt rfl ai bP<|Aa (Bk (N':=["_law_one","_law_rule"]) (mp:=[none,some 8]) rfl (Bb<|vv 6) (λ_ _ _ _=>(Aj (i:=0) XA rfl oH oI)) (λ_ _ _ _=>(Cm<|Bd (Fv Y) (Cs (vv 0) Ek<|C0 Ag) (Cs (vv 1) Ek<|C0 Ag)<|nomark _)) (λ_ _ _ _=>(vv 0))<|Ap (N:=WW) (pn:=(Ah OW).names)<|by decide +kernel) Ae)<|Ai<|Ct (VW.pt<|Fk (Bd (Tp Y) (vv 8) (vv 6)<|by with_unfolding_all rfl)<|Fk (Bd FU (A7 Dt rfl ai bP<|Aa (vv 6) Ae) Ag<|nomark _)<|Fj<|VW.pt<|IZ (Bd (Fv Y) (Bh B2 (Bh B2 (vv 5)<|vv 9) Ag) Ag<|nomark _)<|Y9<|Bd FU (vv 12) Ag<|nomark _) (Ai<|Ck<|Fw cN cP Dn (vv 6)<|Aa (vv 8) Ae) Bp)<|Ai<|Bf<|Bl<|Aa (vv 5)<|Aa (Ca Du rfl al b_<|Aa (Cs (vv 1) (C0 Ag)<|C0<|A8 B4 Ag<|vv 3) Ae)<|Aa (Ca Du rfl al b_<|Aa (vv 6) Ae) Ae),?_⟩
 rintro xs μ R _ ⟨a,l,rfl,hP,q⟩;refine Cr ⟨a,l,6,rfl,by decide,hP,λzs d μ1 hz hpw e1 P1 S1=>?_⟩;have X:=hP.ne hpw;refine Ay (λg b=>∃(L Q:Nat),g=[oD a,oD d,oE L,oE Q,none,none,none,none,none,none,none,none,none]/\0<L/\L<=3/\0<Q/\Q<=3/\b d=oG (zs.map Bs)/\Pot b a l/\Bo a l μ b) (λZ hZ=>?_) ?_
 ·refine⟨a,l,3,rfl,P1,by decide,by decide,λv μ2 hv P2 S2=>⟨a,l,3,rfl,P2,by decide,by decide,λu V hu P3 S3=>hZ _ _ ⟨1+v,1+u,rfl,by omega,by omega,by omega,by omega,S3 d _ X.1.symm X.2.symm<|S2 d _ X.1.symm X.2.symm e1,P3,S1.trans<|S2.trans S3⟩⟩⟩
 rintro g μ2 ⟨L,Q,rfl,zj,hp3,iy,nh,e2,P2,S2⟩;refine Ay (λg b=>∃ps:oA<|Str×Nat,g=[oD a,oD d,oE L,oE Q,none,oF<|.tuple<|ps.map Lb,none,none,none,none,none,none,none]/\ps.length=L/\b d=oG (zs.map Bs)/\Pot b a l/\Bo a l μ b) (λZ hZ=>?_) ?_
 ·refine⟨by omega,by omega,λpl C=>?_⟩;have jh:=P2.ne C;have mn:d≠pl:=by rintro rfl;rw[e2]at C;cases C
  have ag:(Et 0 (L:Int).toNat).length=L:=by rw[Bm];omega
  refine D5 (λj J T b=>∃o,∃ps:oA<|Str×Nat,T=[o,oD d,oD a]/\J=ps.map plA/\ps.length=j/\b pl=oG J/\b d=oG (zs.map Bs)/\Pot b a l/\Bo a l μ2 b) ⟨none,[],rfl,rfl,rfl,Ab,by rw[Ad mn];exact e2,P2.new C,Bo.refl.new C⟩ (λ_ _ _ _ _=>trivial) ?_ ?_
  ·rintro j x J T V W hx ⟨o,ps,rfl,rfl,hn,e3,w3,P3,S3⟩ hW;have hj:j<L:=by rw[<- ag];exact(F_.mp hx).1
   have ex:=G8 _ _ _ hx;rw[Int.zero_add]at ex;subst ex;obtain⟨z,ez⟩:∃z,zs[j]?=some z:=⟨_,E_<|by omega⟩;have ea:atI (zs.map Bs) ((j:Nat):Int)=some (Bs z):=A3 (by rw[M_,ez];rfl);refine Jd rfl (Ac w3<|Ac ea ⟨a,l,2,rfl,P3,by decide,by decide,λv μ4 hv P4 S4=>?_⟩);refine⟨S4 pl _ jh.1.symm jh.2.symm e3,A5<|by rw[C_];omega,hW _ _ _ ⟨_,ps++[(z,v)],rfl,by rw[P_];rfl,by rw[R_,hn];rfl,Ab,by rw[Ad mn];exact S4 d _ X.1.symm X.2.symm w3,P4.other jh.1 jh.2,(S3.trans S4).put C⟩⟩
  ·rintro J T V ⟨o,ps,rfl,rfl,hn,e3,w3,P3,S3⟩;rw[ag]at hn;exact Ac (Ak e3)<|Ac (IJ _)<|hZ _ _ ⟨ps,rfl,hn,w3,P3,S2.trans S3⟩
 rintro g V ⟨ps,rfl,lu,e3,P3,S3⟩;intro e ju;have g8:=P3.ne ju;have y9:d≠e:=by rintro rfl;rw[e3]at ju;cases ju
 have hr0:μ e=none:=S3.none g8.1 g8.2 ju;refine Ay (λg b=>∃o4 o7 o8 o9 i8 jk dj,∃B:oA Rq,g=[oD a,oD d,oE L,oE Q,o4,oF<|.tuple<|ps.map Lb,oD e,o7,o8,o9,i8,jk,dj]/\B.length<=8/\(∀r∈B,RqL L Q r)/\b e=oG (B.map Fr)/\b d=oG (zs.map Bs)/\Pot b a l/\Bo a l μ b) (λZ hZ=>?_) ?_
 ·intro pt et;have P4:Pot (Al (Al V e<|.lst []) pt<|.lst [.D<|.int 9,.D<|.int 13]) a l:=(P3.new ju).new et;have nj:=(P3.new (o:=.lst []) ju).ne et;have hrt:e≠pt:=by rintro rfl;rw[Ab]at et;cases et
  have hwt:d≠pt:=by rintro rfl;rw[Ad y9,e3]at et;cases et
  have E4:Bo a l μ (Al (Al V e<|.lst []) pt<|.lst [.D<|.int 9,.D<|.int 13]):=(S3.new ju).new et;have r4:Al (Al V e<|.lst []) pt (.lst [.D<|.int 9,.D<|.int 13]) e=oG []:=by rw[Ad hrt,Ab]
  have w4:Al (Al V e<|.lst []) pt (.lst [.D<|.int 9,.D<|.int 13]) d=oG (zs.map Bs):=by rw[Ad hwt,Ad y9];exact e3
  have t4:Al (Al V e<|.lst []) pt (.lst [.D<|.int 9,.D<|.int 13]) pt=oG [.D<|.int 9,.D<|.int 13]:=Ab;generalize Al (Al V e<|.lst []) pt (.lst [.D<|.int 9,.D<|.int 13])=μ4 at P4 E4 r4 w4 t4;refine⟨a,l,2,rfl,P4,by decide,by decide,λc μ5 hc P5 S5=>?_⟩;obtain⟨m,hm13,hix⟩:∃m:Nat,m<=13/\atI [AV.D<|.int 9,.D<|.int 13] (c:Int)=oE (m:Nat):=by
   match c,hc with
   | 0,_=>exact⟨9,by decide,rfl⟩
   | 1,_=>exact⟨13,by decide,rfl⟩
  refine Ac (S5 pt _ nj.1.symm nj.2.symm t4) (Ac hix ⟨by omega,by omega,?_⟩);have ag:(Et 0 (m:Int).toNat).length=m:=by rw[Bm];omega
  refine C8 (λi g b=>∃o4 o7 o8 o9 i8 jk dj,∃B:oA Rq,g=[oD a,oD d,oE L,oE Q,o4,oF<|.tuple<|ps.map Lb,oD e,o7,o8,o9,i8,jk,dj]/\B.length<=8/\(∀r∈B,RqL L Q r)/\b e=oG (B.map Fr)/\b d=oG (zs.map Bs)/\Pot b a l/\Bo a l μ b) ⟨none,none,none,none,none,none,none,[],rfl,aE _,(λ_ h=>nomatch h),S5 e _ g8.1.symm g8.2.symm r4,S5 d _ X.1.symm X.2.symm w4,P5,E4.trans S5⟩ (λ_ _ _ _=>trivial) ?_ ?_
  ·clear t4 r4 w4 E4 P4 S5 P5;rintro i y g U Z2 hy ⟨o4,o7,o8,o9,i8,jk,dj,B,rfl,hB,kB,G,M,O,S⟩ hZ2;refine Ay (λg b=>∃I:Nat,g=[oD a,oD d,oE L,oE Q,some y,oF<|.tuple<|ps.map Lb,oD e,oE (I:Nat),o8,o9,i8,jk,dj]/\I<=2/\b e=oG (B.map Fr)/\b d=oG (zs.map Bs)/\Pot b a l/\Bo a l μ b) (λZ3 a9=>?_) ?_
   ·intro pq pj;have hnq:=O.ne pj;have hrq:e≠pq:=by rintro rfl;rw[G]at pj;cases pj
    have hwq:d≠pq:=by rintro rfl;rw[M]at pj;cases pj
    refine⟨a,l,5,rfl,O.new pj,by decide,by decide,λc2 μ7 hc2 P7 S7=>?_⟩;obtain⟨I,hs2,hix2⟩:∃I:Nat,I<=2/\atI [AV.D<|.int 0,.D<|.int 0,.D<|.int 1,.D<|.int 1,.D<|.int 2] (c2:Int)=oE (I:Nat):=by
     match c2,hc2 with
     | 0,_=>exact⟨0,by decide,rfl⟩
     | 1,_=>exact⟨0,by decide,rfl⟩
     | 2,_=>exact⟨1,by decide,rfl⟩
     | 3,_=>exact⟨1,by decide,rfl⟩
     | 4,_=>exact⟨2,by decide,rfl⟩
    exact Ac (S7 pq _ hnq.1.symm hnq.2.symm Ab)<|Ac hix2<|a9 _ _ ⟨I,rfl,hs2,S7 e _ g8.1.symm g8.2.symm<|by rw[Ad hrq];exact G,S7 d _ X.1.symm X.2.symm<|by rw[Ad hwq];exact M,P7,(S.new pj).trans S7⟩
   clear G M O S;rintro g U ⟨I,rfl,hs2,G,M,O,S⟩;refine Ay (λg b=>∃I:Nat,g=[oD a,oD d,oE L,oE Q,some y,oF<|.tuple<|ps.map Lb,oD e,oE (I:Nat),o8,o9,i8,jk,dj]/\I<=2/\b e=oG (B.map Fr)/\b d=oG (zs.map Bs)/\Pot b a l/\Bo a l μ b) (λZ3 a9=>?_) ?_
   ·refine Ac (Ak G) λp8 fm=>?_;have qr:e≠p8:=by rintro rfl;rw[G]at fm;cases fm
    have yd:d≠p8:=by rintro rfl;rw[M]at fm;cases fm
    have y8:=O.ne fm;refine cmapf B Fr (λu=>decide (u.w.length=2)) Fr (λg=>∃o,g=[o]) ⟨none,rfl⟩ Ab (seven<|by omega) (λJ=>Ak<|by rw[Au,Ad qr];exact G) ?_ ?_
    ·rintro k u T J W1 W2 hu ⟨o,rfl⟩ w1 w2;refine Ac (x:=Av u.w) rfl<|ieq (λc=>w1 (aZ ?_) _ ⟨_,rfl⟩) λc=>w2 (aS λc2=>c ?_) _ ⟨_,rfl⟩
     ·have c:(((u.w.map λ(n:Nat)=>PyData.int n).length:Nat):Int)=2:=c;rw[C_]at c;omega
     ·show(((u.w.map λ(n:Nat)=>PyData.int n).length:Nat):Int)=2;rw[C_,c2];rfl
    ·rw[Au];have P8:=O.new (o:=.lst<|(B.filter λu=>decide (u.w.length=2)).map Fr) fm;have S8:=S.new (o:=.lst<|(B.filter λu=>decide (u.w.length=2)).map Fr) fm;refine Ac Ab (ieq (λc=>?_) λc=>a9 _ _ ⟨I,rfl,hs2,by rw[Ad qr];exact G,by rw[Ad yd];exact M,P8,S8⟩);have fin:∀v:Int,(v=(I:Nat)\/v=1)->∃yn:Nat,v=(yn:Nat)/\yn<=2:=λv hv=>hv.elim (λh=>⟨I,h,hs2⟩) λh=>⟨1,h,by decide⟩;have hv:(if(1:Int)<(I:Nat) then(1:Int) else(I:Nat))=(I:Nat)\/(if(1:Int)<(I:Nat) then(1:Int) else(I:Nat))=1:=by split<;>simp
     obtain⟨yn,e',h'⟩:=fin _ hv;refine a9 _ _ ⟨yn,?_,h',by rw[Ad qr];exact G,by rw[Ad yd];exact M,P8,S8⟩;rw[<- e'];rfl
   clear G M O S hs2;rintro g U ⟨I,rfl,hs2,G,M,O,S⟩;refine Ay (λg b=>∃p x t:Nat,g=[oD a,oD d,oE L,oE Q,some y,oF<|.tuple<|ps.map Lb,oD e,oE (I:Nat),o8,oE (p:Nat),oE (x:Nat),oE (t:Nat),dj]/\p<L/\x<Q/\t<L/\b e=oG (B.map Fr)/\b d=oG (zs.map Bs)/\Pot b a l/\Bo a l μ b) (λZ3 a9=>?_) ?_
   ·refine⟨a,l,L,rfl,O,zj,by omega,λp μ7 hp P7 S7=>⟨a,l,Q,rfl,P7,iy,by omega,λx μ8 hx P8 S8=>⟨a,l,L,rfl,P8,zj,by omega,λt μ9 ht P9 S9=>a9 _ _ ⟨p,x,t,rfl,hp,hx,ht,?_,?_,P9,S.trans<|S7.trans<|S8.trans S9⟩⟩⟩⟩
    ·exact S9 e _ g8.1.symm g8.2.symm<|S8 e _ g8.1.symm g8.2.symm<|S7 e _ g8.1.symm g8.2.symm G
    ·exact S9 d _ X.1.symm X.2.symm<|S8 d _ X.1.symm X.2.symm<|S7 d _ X.1.symm X.2.symm M
   clear G M O S;rintro g U ⟨p,x,t,rfl,hp,hx,ht,G,M,O,S⟩;refine Ay (λg b=>∃w:oA Nat,g=[oD a,oD d,oE L,oE Q,some y,oF<|.tuple<|ps.map Lb,oD e,oE (I:Nat),some<|Fr ⟨p,x,t,w⟩,oE (p:Nat),oE (x:Nat),oE (t:Nat),dj]/\w.length<=2/\b e=oG (B.map Fr)/\b d=oG (zs.map Bs)/\Pot b a l/\Bo a l μ b) (λZ3 a9=>?_) ?_
   ·refine⟨by omega,by omega,λpl C=>?_⟩;have jh:=O.ne C;have nu:e≠pl:=by rintro rfl;rw[G]at C;cases C
    have mn:d≠pl:=by rintro rfl;rw[M]at C;cases C
    have ag:(Et 0 (I:Int).toNat).length=I:=by rw[Bm];omega
    refine D5 (λj J T b=>∃o,∃ws:oA Nat,T=[o,oD a,oE Q]/\J=ws.map Bt/\ws.length=j/\b pl=oG J/\b e=oG (B.map Fr)/\b d=oG (zs.map Bs)/\Pot b a l/\Bo a l U b) ⟨none,[],rfl,rfl,rfl,Ab,by rw[Ad nu];exact G,by rw[Ad mn];exact M,O.new C,Bo.refl.new C⟩ (λ_ _ _ _ _=>trivial) ?_ ?_
    ·rintro j x J T μ7 W hx ⟨o,ws,rfl,rfl,hn,e7,r7,w7,P7,S7⟩ hW;have hj:j<I:=by rw[<- ag];exact(F_.mp hx).1
     refine Jd rfl ⟨a,l,Q,rfl,P7,iy,by omega,λv μ8 hv P8 S8=>⟨S8 pl _ jh.1.symm jh.2.symm e7,A5<|by rw[C_];omega,hW _ _ _ ⟨_,ws++[v],rfl,by rw[P_];rfl,by rw[R_,hn];rfl,Ab,by rw[Ad nu];exact S8 e _ g8.1.symm g8.2.symm r7,by rw[Ad mn];exact S8 d _ X.1.symm X.2.symm w7,P8.other jh.1 jh.2,(S7.trans S8).put C⟩⟩⟩
    ·rintro J T μ7 ⟨o,ws,rfl,rfl,hn,e7,r7,w7,P7,S7⟩;rw[ag]at hn;exact Ac (Ak e7)<|Ac (Ec _)<|a9 _ _ ⟨ws,rfl,by omega,r7,w7,P7,S.trans S7⟩
   clear G M O S;rintro g U ⟨w,rfl,hw,G,M,O,S⟩;have kr:RqL L Q ⟨p,x,t,w⟩:=⟨hp,hx,ht,hw⟩;have hrp:(⟨p,x,t,w⟩:Rq).p=p:=rfl;refine Ay (λg b=>g=[oD a,oD d,oE L,oE Q,some y,oF<|.tuple<|ps.map Lb,oD e,oE (I:Nat),some<|Fr ⟨p,x,t,w⟩,oE (p:Nat),oE (x:Nat),oE (t:Nat),oE ((rgp B (p,x)).length:Nat)]/\b e=oG (B.map Fr)/\b d=oG (zs.map Bs)/\Pot b a l/\Bo a l μ b) (λZ3 a9=>?_) ?_
   ·refine Ac (Ak G) λp8 fm=>?_;have qr:e≠p8:=by rintro rfl;rw[G]at fm;cases fm
    have yd:d≠p8:=by rintro rfl;rw[M]at fm;cases fm
    have y8:=O.ne fm;refine cmapf B Fr (En (p,x)) Fr (λg=>∃o,g=[o,some<|Fr ⟨p,x,t,w⟩]) ⟨none,rfl⟩ Ab (seven<|by omega) (λJ=>Ak<|by rw[Au,Ad qr];exact G) ?_ ?_
    ·rintro k u T J W1 W2 hu ⟨o,rfl⟩ w1 w2;have qv:∀x y:Nat,B6 (.tuple [.int (x:Nat),.int (y:Nat)]):=λx y=>⟨rfl,by simp[PyData.depth,PyData.depthAll]⟩;refine⟨qv u.p u.x,qv p x,br (λc=>w1 ?_ _ ⟨_,rfl⟩) λc=>w2 ?_ _ ⟨_,rfl⟩⟩
     ·exact(Vb u ⟨p,x,t,w⟩).symm.trans c
     ·exact(Vb u ⟨p,x,t,w⟩).symm.trans c
    ·rw[Au];refine Ac Ab (a9 _ _ ⟨?_,by rw[Ad qr];exact G,by rw[Ad yd];exact M,O.new fm,S.new fm⟩);rw[C_];rfl
   clear G M O S;rintro g U ⟨rfl,G,M,O,S⟩;have jw:Z2 [oD a,oD d,oE L,oE Q,some y,oF<|.tuple<|ps.map Lb,oD e,oE (I:Nat),some<|Fr ⟨p,x,t,w⟩,oE (p:Nat),oE (x:Nat),oE (t:Nat),oE ((rgp B (p,x)).length:Nat)] U:=hZ2 _ _ ⟨_,_,_,_,_,_,_,B,rfl,hB,kB,G,M,O,S⟩;obtain⟨z,ez⟩:∃z,ps[p]?=some z:=⟨_,E_<|by omega⟩;have ea:atI (ps.map Lb) ((p:Nat):Int)=some (Lb z):=A3 (by rw[M_,ez];rfl);have fin:B.length<8->JK (vBL Nf (Ft 6)<|JA (Ft 8) NB) Z2 (YD R) Z Z2 [oD a,oD d,oE L,oE Q,some y,oF<|.tuple<|ps.map Lb,oD e,oE (I:Nat),some<|Fr ⟨p,x,t,w⟩,oE (p:Nat),oE (x:Nat),oE (t:Nat),oE ((rgp B (p,x)).length:Nat)] U:=λh8=>by
    refine⟨Ac G trivial,Ac G ⟨A5<|by rw[C_];omega,hZ2 _ _ ⟨_,_,_,_,_,_,_,B++[⟨p,x,t,w⟩],rfl,by rw[R_];show B.length+1<=_;exact Nat.succ_le_of_lt h8,λr Y=>?_,by rw[Ab,P_];rfl,by rw[Ad y9];exact M,O.other g8.1 g8.2,S.put hr0⟩⟩⟩;rcases S_.mp Y with h|h
    ·exact kB r h
    ·rw[O_.mp h];exact kr
   refine Ac rfl<|Ac (Ak G)<|Ac (Va B) ⟨IK _,DU B,br (λc=>?_) λc=>Hr rfl jw⟩;refine Ac G<|dif (λc8=>?_) λ_=>Hr rfl jw;have c8:B.length<8:=by have c8:(((B.map Fr).length:Nat):Int)<8:=c8;rw[C_]at c8;omega
   refine Ac ea<|Ac (x:=PyData.int (z.2:Nat)) (A3 (j:=1) rfl)<|ieq (λc2=>Jd rfl<|fin c8) λc2=>dif (λc3=>fin c8) λ_=>jw
  ·rintro g U ⟨o4,o7,o8,o9,i8,jk,dj,B,rfl,hB,kB,G,M,O,S⟩;exact hZ _ _ ⟨_,_,_,_,_,_,_,B,rfl,hB,kB,G,M,O,S⟩
 rintro g μ4 ⟨o4,o7,o8,o9,i8,jk,dj,B,rfl,hB,kB,r4,e4,P4,S4⟩;obtain⟨ys,ey,hys⟩:=WV hz nh;refine Ac (Ak e4) λpc ba=>?_;rw[ey];have hrc:e≠pc:=by rintro rfl;rw[r4]at ba;cases ba
 have im:=P4.ne ba;refine Ac (Ak Ab)<|Ac (K0 ys)<|Ac (Ak<|by rw[Ad hrc];exact r4)<|Ac (Va B) ⟨_,Sub.refl,q ⟨ps,ys,B⟩ _ ⟨?_,?_,?_,?_,hB,?_⟩ (P4.other im.1 im.2)<|S4.new ba⟩
 ·show 0<ps.length;omega
 ·show ps.length<=3;omega
 ·show 0<ys.length;omega
 ·show ys.length<=3;omega
 ·rw[lu,hys];exact kB
abbrev nSo:oA Str:=qB
def Qbt:FnScope nSo qB (Ah YM):=B5<|by decide +kernel
def XC:(["_law_k","_law_deal_here"]:oA Str).Nodup:=by decide +kernel
theorem Vc:∀(n lo:Nat),Et (lo:Int) n=(List.range' lo n).map Bt
 | 0,_=>rfl
 |n+1,lo=>by rw[Et,List.range'_succ,aP];have:=Vc n<|lo+1;rw[<- this];rfl
def XE:ASp:=λd c R=>∃(a l:lT) (b m:Nat),d=[.R a,.D<|.int b,.D<|.int (b+m:Int)]/\b+m<=5/\Pot c a l/\∀(ns:oA Nat) μ',ns.Sublist (List.range' b m)->Pot μ' a l->Bo a l c μ'->R (.D<|Av ns) μ'
def XF{n:Nat}(F:Fun K "_law_some" "_law_some" YM f fd) (Q:VCal P w K mg base n "_law_draw" oJ Xk) (V:mg "tuple" = none) (U:mg "range" = none):FnOk P w K mg base Eh (n+1) f fd qB (Gd K 3 XE):=by
 refine F.vok Qbt λaq A D s H E J=>⟨_,(Ai<|Bf<|Ca Du rfl V b_<|Aa (Bk (N':=["_law_k","_law_deal_here"]) (mp:=[none,some 0]) rfl (Wh rfl U<|Aa (vv 1)<|Aa (vv 2) Ae) (λ_ _ _ _=>(Aj (i:=0) XC rfl oH oI)) (λ_ _ _ _=>(Cm<|Bd (Fv J) (Am Q J rfl<|Aa (vv 1)<|Aa Ag Ae) Ag<|nomark _)) (λ_ _ _ _=>(vv 0))<|Ap (N:=nSo) (pn:=(Ah YM).names)<|by decide +kernel) Ae),?_⟩;rintro Y T R _ ⟨a,l,b,m,rfl,hb,O,q⟩;refine⟨⟨by omega,by omega,by omega,by omega⟩,λM k=>?_⟩;rw[show((b:Int)+(m:Int)-(b:Int)).toNat=m by omega,Vc];have p:=O.ne k;refine D5 (λj e B g=>∃(o:oB AV) (ns:oA Nat),B=[o,oD a]/\e=ns.map Bt/\ns.Sublist ((List.range' b m).take j)/\g M=oG e/\Pot g a l/\Bo a l T g) ⟨none,[],rfl,rfl,by simp,Ab,O.new k,Bo.refl.new k⟩ (λ_ _ _ _ _=>trivial) ?_ ?_
 ·rintro j y e B u X hy ⟨o,ns,rfl,rfl,d,z,C,r⟩ hZ2;rw[M_]at hy;obtain⟨x,hx,rfl⟩:=L_.mp hy;have G:(List.range' b m).take (j+1)=(List.range' b m).take j++[x]:=by rw[aJ,hx];rfl
  refine⟨a,l,2,rfl,C,by decide,by decide,λv W hv I t=>?_⟩;have L:=t M _ p.1.symm p.2.symm z;have S:=d.length_le;rw[aY,kN]at S;refine ieq (λc=>⟨L,A5<|by rw[C_];omega,hZ2 _ _ _ ⟨_,ns++[x],rfl,by rw[P_];rfl,by rw[G];exact d.append<|List.Sublist.refl _,Ab,I.other p.1 p.2,(r.trans t).put k⟩⟩) λc=>hZ2 _ _ _ ⟨_,ns,rfl,rfl,by rw[G];exact d.trans<|List.sublist_append_left _ _,L,I,r.trans t⟩
 ·rintro e B u ⟨o,ns,rfl,rfl,d,z,C,r⟩;rw[C_,aK]at d;exact Ac (Ak z)<|Ac (Ec ns) ⟨_,Sub.refl,q ns _ d C r⟩
abbrev nSa:oA Str:=["_law_deal_here","_law_game_here","_law_places","_law_own","_law_arrows","_law_k","_law_stand","_law_top"]
def Sz:FnScope nSa qC (Ah YN):=B5<|by decide +kernel
def XG:(qA:oA Str).Nodup:=by decide +kernel
structure AwS(np ao:Nat)(a:Arw):Prop where
 c:a.c=none
 p:a.p<np+ao
 x:a.x<3
 t:∀t∈a.ts,np<=t/\t<np+ao
 l:a.ts.length<=5
def QI:ASp:=λc b R=>∃(a l:lT) (g:Gq),c=[.R a,.D<|Ee g]/\GqL g/\Pot b a l/\∀(s:Say) μ',SyOk g s->Pot μ' a l->Bo a l b μ'->R (.D<|Fc s) μ'
def XH{n:Nat}(F:Fun K "_law_saying" "_law_saying" YN f fd) (dh:VCal P w K mg base n "_law_draw" oJ Xk) (X:VCal P w K mg base n "_law_some" qB XE) (ai:mg "len" = none) (ah:mg "range" = none) (al:mg "tuple" = none) (am:mg "sorted" = none) (cr:mg "set" = none):FnOk P w K mg base Eh (n+1) f fd qC (Gd K 2 QI):=by
 refine F.vok Sz λaq A outer s H E J=>⟨_,(Af (Aq (i:=2) Sz.nd rfl oH<|A7 Dt rfl ai bP<|Aa (Bh B2 (vv 1) Ag) Ae)<|Af (Aq (i:=3) Sz.nd rfl oH<|Am dh J rfl<|Aa (vv 0)<|Aa Ag Ae)<|Af (Ct (VW.pt<|Fk (Bd (Fv J) (A8 B4 (vv 2)<|vv 3) Ag<|nomark _)<|Fj<|Bd Os (A7 Dt rfl ai bP<|Aa (Bk (N':=qA) (mp:=[none]) rfl (Bb<|Bh B2 (vv 1) Ag) (λ_ _ _ _=>(Aj (i:=0) XG rfl oH oI)) (λ_ _ _ _=>(Cm<|Bd (Fv J) (A7 Dt rfl ai bP<|Aa (Bh B2 (vv 0) Ag) Ae) Ag<|nomark _)) (λ_ _ _ _=>(vv 0))<|Ap (N:=nSa) (pn:=(Ah YN).names)<|by decide +kernel) Ae) Ag<|nomark _) (Ai<|Aq (i:=3) Sz.nd rfl oH Ag) Bp)<|Af (Aq (i:=4) Sz.nd rfl oH<|Br Ae)<|Af (Cf aL rfl (Ch rfl ah<|Aa (Bh B2 (Br<|Aa Ag<|Aa Ag<|Aa Ag Ae)<|Am dh J rfl<|Aa (vv 0)<|Aa Ag Ae) Ae) (Aj (i:=5) Sz.nd rfl oH)<|Af (NK (i:=6) (j:=7) rfl Sz.nd rfl rfl (by decide) rfl rfl (Aa (Am dh J rfl<|Aa (vv 0)<|Aa (A8 B4 (vv 2)<|vv 3) Ae)<|Aa (Am dh J rfl<|Aa (vv 0)<|Aa (A7 Dt rfl ai bP<|Aa (Bh B2 (vv 1) Ag) Ae) Ae) Ae) rfl)<|Ai<|Ck<|Fw cN cP Dn (vv 4)<|Aa (Bl<|Aa (vv 6)<|Aa (vv 7)<|Aa (Am X J rfl<|Aa (vv 0)<|Aa (vv 2)<|Aa (A8 B4 (vv 2)<|vv 3) Ae) Ae) Ae)<|Ai<|Bf<|Bl<|Aa (vv 3)<|Aa (Ca Du rfl al b_<|Aa (Pu J rfl am rfl cr<|vv 4) Ae)<|Aa (Am X J rfl<|Aa (vv 0)<|Aa Ag<|Aa (A8 B4 (vv 2)<|vv 3) Ae) Ae),?_⟩
 rintro xs μ R _ ⟨a,l,g,rfl,hg,hP,q⟩;have zj:=hg.p0;have hp3:=hg.p3;have iy:=hg.l0;have nh:=hg.l3;have hr8:=hg.r8;refine Ay (λv r=>v=[oD a,oF<|Ee g,oE g.pl.length,none,none,none,none,none]/\μ=r) (λZ L=>Ac (A3 (j:=0) rfl)<|by rw[<- C_ (f:=Lb)]at L;exact L _ _ ⟨rfl,rfl⟩) ?_;rintro v _ ⟨rfl,rfl⟩;refine Cr ⟨a,l,3,rfl,hP,by decide,by decide,λao μ1 hm P1 S1=>?_⟩;refine Ay (λv r=>∃own:Nat,v=[oD a,oF<|Ee g,oE g.pl.length,oE (own:Nat),none,none,none,none]/\own<=2/\Pot r a l/\Bo a l μ r) (λZ L=>?_) ?_
 ·refine ieq (λc=>?_) (λc=>Hr rfl<|L _ _ ⟨ao,rfl,by omega,P1,S1⟩);refine Ac (A3 (j:=2) rfl)<|Ac rfl λpc ba=>?_;rw[X_];refine cmapf g.rs Fr (λu=>decide (u.w.length=2)) Fr (λv=>∃o,v=[o]) ⟨none,rfl⟩ Ab (seven<|by omega) (λacc=>bR some<|X_ (f:=N8) (g:=AV.D) (l:=g.rs)) ?_ ?_
  ·rintro k u τ' acc W1 W2 hu ⟨o,rfl⟩ w1 w2;refine Ac (x:=Av u.w) rfl<|ieq (λc=>w1 (aZ ?_) _ ⟨_,rfl⟩) λc=>w2 (aS λc2=>c ?_) _ ⟨_,rfl⟩
   ·have c:(((u.w.map λ(n:Nat)=>PyData.int n).length:Nat):Int)=2:=c;rw[C_]at c;omega
   ·show(((u.w.map λ(n:Nat)=>PyData.int n).length:Nat):Int)=2;rw[C_,c2];rfl
  ·rw[Au];have T:=P1.new (o:=.lst<|(g.rs.filter λu=>decide (u.w.length=2)).map Fr) ba;have M:=S1.new (o:=.lst<|(g.rs.filter λu=>decide (u.w.length=2)).map Fr) ba;exact Ac Ab<|dif (λc=>L _ _ ⟨1,rfl,by decide,T,M⟩) λc=>L _ _ ⟨ao,rfl,by omega,T,M⟩
 rintro v μ2 ⟨own,rfl,ho,P2,S2⟩;refine λI ii=>?_;have G:=P2.ne ii;have md:μ I=none:=S2.none G.1 G.2 ii;refine Ay (λv r=>∃O U S,∃B:oA Arw,v=[oD a,oF<|Ee g,oE g.pl.length,oE (own:Nat),oD I,O,U,S]/\r I=oG (B.map λb=>.D<|Di b)/\B.length<=8/\(∀b∈B,AwS g.pl.length own b)/\Pot r a l/\Bo a l μ r) (λZ L=>?_) ?_
 ·refine λpt et=>?_;have nj:=(P2.new (o:=.lst []) ii).ne et;have hft:I≠pt:=by rintro rfl;rw[Ab]at et;cases et
  refine⟨a,l,3,rfl,(P2.new ii).new et,by decide,by decide,λc μ3 hc T M=>?_⟩;obtain⟨m,hm8,hix⟩:∃m:Nat,m<=8/\atI [AV.D<|.int 2,.D<|.int 4,.D<|.int 8] (c:Int)=oE (m:Nat):=by
   match c,hc with
   | 0,_=>exact⟨2,by decide,rfl⟩
   | 1,_=>exact⟨4,by decide,rfl⟩
   | 2,_=>exact⟨8,by decide,rfl⟩
  refine Ac (M pt _ nj.1.symm nj.2.symm Ab) (Ac hix ⟨by omega,by omega,?_⟩);have ag:(Et 0 (m:Int).toNat).length=m:=by rw[Bm];omega
  refine C8 (λi v r=>∃O U S,∃B:oA Arw,v=[oD a,oF<|Ee g,oE g.pl.length,oE (own:Nat),oD I,O,U,S]/\r I=oG (B.map λb=>.D<|Di b)/\B.length<=i/\(∀b∈B,AwS g.pl.length own b)/\Pot r a l/\Bo a l μ r) ⟨none,none,none,[],rfl,M I _ G.1.symm G.2.symm<|by rw[Ad hft];exact Ab,G_ _,(λ_ z=>nomatch z),T,((S2.new ii).new et).trans M⟩ (λ_ _ _ _=>trivial) ?_ ?_
  ·rintro i y v μ4 Z2 hy ⟨O,U,S,B,rfl,e4,hB,Q,V,S4⟩ hZ2;have hi:i<m:=by rw[<- ag];exact(F_.mp hy).1
   refine Cr ⟨a,l,g.pl.length+own,rfl,V,by omega,by omega,λp μ5 hp P5 S5=>Ac (A3 (j:=1) rfl) ⟨a,l,g.le.length,by rw[C_],P5,iy,by omega,λx μ6 hx P6 S6=>?_⟩⟩;have e6:=S6 I _ G.1.symm G.2.symm<|S5 I _ G.1.symm G.2.symm e4;refine⟨Ac e6 trivial,a,l,g.pl.length,own,rfl,by omega,P6,λts μ7 ym P7 S7=>?_⟩;have e7:=S7 I _ G.1.symm G.2.symm e6;refine Ac e7 ⟨A5<|by rw[C_];omega,hZ2 _ _ ⟨_,_,_,B++[⟨p,x,ts,none⟩],rfl,by rw[Ab,P_];rfl,by rw[R_];show B.length+1<=_;omega,λb hb=>?_,P7.other G.1 G.2,(((S4.trans S5).trans S6).trans S7).put md⟩⟩;rcases S_.mp hb with hb|hb
   ·exact Q b hb
   ·rw[O_.mp hb];exact⟨rfl,hp,Y_ hx nh,λt ht=>List.mem_range'_1.mp<|ym.subset ht,K_ ym.length_le<|by rw[kN];omega⟩
  ·rintro v μ4 ⟨O,U,S,B,rfl,e4,hB,Q,V,S4⟩;rw[ag]at hB;exact L _ _ ⟨_,_,_,B,rfl,e4,by omega,Q,V,S4⟩
 rintro v μ3 ⟨O,U,S,B,rfl,e3,hB,Q,T,M⟩;refine Ac (Ak e3) (Ac (DE B) ⟨DM (by omega) λb hb=>(Q b hb).c,λes p hnd f6 hp=>?_⟩);obtain⟨C,rfl,hC⟩:=Kz (f:=Di) (B:=B) λe he=>(f6 e).mp he;have W:=Fo hnd λd hd=>(f6 d).mp hd;rw[C_,C_]at W;have Y:=λb hb=>Q b<|hC b hb;refine Ac (Ak Ab) (Ac (B8 _) ⟨a,l,0,g.pl.length+own,by rw[Int.ofNat_zero,Int.zero_add];rfl,by omega,T.new hp,λns μ4 g9 V S4=>?_⟩);have f9:=g9.length_le;rw[kN]at f9;exact⟨_,Sub.refl,q ⟨own,C,ns⟩ _ ⟨K_ W hB,λb hb=>(Y b hb).p,λb hb=>(Y b hb).t,λb hb=>(Y b hb).c,λb hb=>(Y b hb).x,(by show g.pl.length+own<=5;omega),(by show ns.length<=5;omega),List.Nodup.sublist g9<|List.nodup_range' 1,λb hb=>(Y b hb).l⟩ V<|(M.new hp).trans S4⟩
def KJ{q:Type}{p:lT}{g:AG}{tst:AT}{te:AE}{A:M->Prop}{R:M->Prop}{τ:ASt}{m:M}(as:oA q)(v:q->AV)(b:q->Bool)(f:q->AV)(r:ASt->Prop)(h0:r τ)(hp:m p=none)(hn:as.length<=999)(hk:∀ a,Sub m a->A a)
  (step:∀(x:q) (j:ASt) (a:M) (W:ASt->AV->M->Prop) (z:ASt->M->Prop),x∈as->r j->Sub m a->(b x=true->∀ c d,r c->Sub a d->W c (f x) d)->(b x=false->∀ c d,r c->Sub a d->z c d) ->
   g (v x) j a λc t=>tst c t λk d=>brP k (te c d<|W c)<|z c d)
  (done:∀ a,a p=oG ((as.filter b).map f)->Sub m a->R a):cl p g tst te A R (as.map v) [] τ (Al m p<|.lst []):=by
 refine D5 (λi l j a=>r j/\l=((as.take i).filter b).map f/\a p=oG l/\Sub m a) ⟨h0,by simp,Ab,Sub.refl.new hp⟩ (by rintro i l τ a ⟨_,_,_,S⟩;exact hk _ S) ?_ ?_
 ·rintro i y l j a W hy ⟨B,rfl,e,S⟩ hW;rw[M_]at hy;obtain⟨x,hx,rfl⟩:=L_.mp hy;have C:i<as.length:=(F_.mp hx).1;have u:as.take (i+1)=as.take i++[x]:=by rw[aJ,hx];rfl
  refine step x j a _ (λc d=>W (((as.take i).filter b).map f) c d) (V_ hx) B S (λhb c d s o=>⟨o _ _ e,A5 ?_,hW _ _ _ ⟨s,?_,Ab,Ed (S.trans o) hp⟩⟩) λhb c d s o=>hW _ _ _ ⟨s,?_,o _ _ e,S.trans o⟩
  ·rw[C_];have h1:=bI b<|as.take i;rw[aY]at h1;omega
  ·rw[u,fN,P_,gI,N_ hb];rfl
  ·rw[u,fN,P_,gI,I_<|by rw[hb];exact Q_];simp
 ·rintro l j a ⟨_,rfl,e,S⟩;rw[C_,aK]at e;exact done _ e S
def Lst(a:oA Ar)(E u:oA Nat)(b:Nat->oB Nat):Prop:=∀s,(b s=none->∀c,¬Ql a E u s c)/\∀c,b s=some c->Ql a E u s c/\∀d,Ql a E u s d->c<=d
def XI(kvs:oA<|Key×AV)(a:Nat->oB Nat):Prop:=∀s:Nat,Bu kvs (.inl (s:Int))=(a s).map λc=>.D<|.int (c:Nat)
def mxL:oA Nat->Nat
 |[]=>0
 |x::l=>max x<|mxL l
theorem Ta:∀{l:oA Nat} {x:Nat},x∈l->x<=mxL l
 |_::_,_,.head _=>jY _ _
 |_::_,_,.tail _ h=>K_ (Ta h)<|Nat.le_max_right _ _
theorem N7:∀{l:oA Nat} {m:Nat},(∀x∈l,x<=m)->mxL l<=m
 |[],_,_=>aE _
 |x::_,_,h=>Nat.max_le.mpr ⟨h x<|.head _,N7 λy hy=>h y<|.tail _ hy⟩
def QJ{l:oA Nat}{m:Int}(c:m∈(0::l).map λ(n:Nat)=>(n:Int))(b:∀n∈(0::l).map (λ(n:Nat)=>(n:Int)),n<=m):m=((mxL l:Nat):Int):=by obtain⟨a,ha,rfl⟩:=D_.mp c;have h1:a<=mxL l:=(aB.mp ha).elim (λe=>by rw[e];exact aE _) Ta;rw[Nat.le_antisymm h1<|N7 λx hx=>Int.ofNat_le.mp<|b x<|D_.mpr ⟨x,.tail _ hx,rfl⟩]
def Jj{a:M}{l:lT}{xs:oA AV}{ds:oA lR}(e:a l=oG xs)(b:dats xs=some ds):see a (.R l)=some (.list ds):=by show(match a l with|some (.lst xs)=>(match dats xs with|some ds=>some (PyData.list ds)|none=>none)|_=>none)=some (PyData.list ds);rw[e];dsimp only;rw[b]
def Vd(ds:oA lR):PyData.eqv (.list ds) (.list [])=ds.isEmpty:=by cases ds<;>simp[PyData.eqv,PyData.eqvAll]
theorem Gb{a:Type}{f:a->lR}(h:∀x,PyData.canLay0 (f x)=true/\(f x).depth=0):∀l:oA a,PyData.canLayAll0 (l.map f)=true/\PyData.depthAll (l.map f)=0
 |[]=>⟨rfl,rfl⟩
 |x::l=>by obtain⟨h1,h2⟩:=Gb h l;simp only[List.map_cons,PyData.canLayAll0,PyData.depthAll,h x,h1,h2];exact⟨rfl,rfl⟩
def Jk{a:Type}{f:a->lR}(h:∀x,PyData.canLay0 (f x)=true/\(f x).depth=0)(l:oA a):B6 (.list<|l.map f) :=
 ⟨by simp only[PyData.canLay0];exact(Gb h l).1,by simp only[PyData.depth,(Gb h l).2];decide⟩
def cAt(b:Nat->oB Nat)(a:Ar):Nat:=a.c+mxL (a.ts.map λt=>(b t).getD 0)
def Ve(c:oA Ar)(b:Nat->oB Nat)(s x:Nat):oA Ar:=(c.filter<|Em (s,x)).filter λa=>a.ts.all λt=>(b t).isSome
def Jl{g:oA Ar}{i:Nat->oB Nat}{s x:Nat}{a:Ar}:a∈Ve g i s x↔a∈g/\a.p=s/\a.x=x/\∀t∈a.ts,∃c,i t=some c:=by unfold Ve Em;rw[a_,a_,bH,aW,aW,eM];exact⟨by rintro ⟨⟨h1,h2,e⟩,d⟩;exact ⟨h1,h2,e,λt b=>eU.mp<|d t b⟩,by rintro ⟨h1,h2,e,d⟩;exact ⟨⟨h1,h2,e⟩,λt b=>eU.mpr<|d t b⟩⟩
def Lst.step{j:oA Ar}{E u:oA Nat}{g v:Nat->oB Nat}{x:Nat}(h:Lst j E u g)(h1:∀s,v s=none->Ve j g s x=[])(h2:∀s c,v s=some c->(∃a∈Ve j g s x,c=cAt g a)/\∀a∈Ve j g s x,c<=cAt g a):Lst j E (x::u) v:=λs=>by
 have p:∀d,Ql j E (x::u) s d->∃a∈Ve j g s x,cAt g a<=d:=by
  rintro d ⟨a,ha,z,q,m,rfl,k⟩;have A:∀t∈a.ts,∃c,g t=some c/\c<=m:=λt i=>by
   obtain⟨d,o,r⟩:=k t i;cases e:g t with
   |none=>exact absurd r ((h t).1 e d)
   |some c=>exact⟨c,rfl,K_ (((h t).2 c e).2 d r) o⟩
  refine⟨a,Jl.mpr ⟨ha,z,q,λt i=>by obtain⟨c,e,_⟩:=A t i;exact⟨c,e⟩⟩,gA (N7 λy hy=>?_) _⟩;obtain⟨t,i,rfl⟩:=D_.mp hy;obtain⟨c,e,hc⟩:=A t i;rw[e];exact hc
 refine⟨λe d o=>?_,λc e=>?_⟩
 ·obtain⟨a,ha,_⟩:=p d o;rw[h1 s e]at ha;cases ha
 ·obtain⟨⟨a,ha,rfl⟩,B⟩:=h2 s c e;refine⟨?_,λd o=>by obtain⟨b,hb,l⟩:=p d o;exact K_ (B b hb) l⟩;obtain⟨C,z,q,D⟩:=Jl.mp ha;refine⟨a,C,z,q,_,rfl,λt i=>?_⟩;obtain⟨c,e⟩:=D t i;exact⟨c,Ta<|D_.mpr ⟨t,i,by rw[e];rfl⟩,((h t).2 c e).1⟩
def Stp(d:oA Ar)(b:Nat->oB Nat)(x s:Nat)(o:oB Nat):Prop:=(o=none->Ve d b s x=[])/\∀c,o=some c->(∃a∈Ve d b s x,c=cAt b a)/\∀a∈Ve d b s x,c<=cAt b a
theorem DV:∀(E:oA Nat) (s:Nat),Bu (E.map<|(λk:Int=>((.inl k:Key),AV.D<|.int 0)) ∘ λ(e:Nat)=>(e:Int)) (.inl (s:Int))=(if s∈E then some 0 else none).map λc=>AV.D (.int (c:Nat))
 |[],_=>rfl
 |e::E,s=>by
  by_cases h:e=s
  ·subst h;rw[N_<|.head _];exact Da
  ·rw[aP];refine(Cp λc=>h<|dZ<|gL c).trans<|(DV E s).trans ?_;by_cases a:s∈E
   ·rw[N_ a,N_<|.tail _ a]
   ·rw[I_ a,I_ λz=>(aB.mp z).elim (λz=>h z.symm) a]
abbrev QT:oA Str:=["_law_arrows","_law_ends","_law_pile","_law_stand","_law_found","_law_stands","_law_top","_law_longer","_law_some_here","_law_costs_here"]
def Lp:FnScope QT oQ (Ah KA):=B5<|by decide +kernel
def XJ:(["_law_stand"]:oA Str).Nodup:=by decide +kernel
def XL:(qD:oA Str).Nodup:=by decide +kernel
def XM:(qR:oA Str).Nodup:=by decide +kernel
def XN:(qE:oA Str).Nodup:=by decide +kernel
def XQ:(qF:oA Str).Nodup:=by decide +kernel
def XS:(qE:oA Str).Nodup:=by decide +kernel
def XT:(qF:oA Str).Nodup:=by decide +kernel
def DW:ASp:=λj g R=>∃(x:AV) (e:oA Ar) (E w:oA Nat),j=[x,.D<|Av E,.D<|Av w]/\items g x=some (e.map Gg)/\e.length<=200/\(∀a∈e,a.ts.length<=5)/\E.Nodup/\E.length<=5/\w.length<=12/\∀d c i b,g d=none->b d=some (.dk c)->XI c i->Lst e E w i->Sub g b->R (.R d) b
def XU{n:Nat}(F:Fun K "_law_costs" "_law_costs" KA f fd) (ir:mg "dict" = none) (am:mg "sorted" = none) (cr:mg "set" = none) (be:mg "reversed" = none) (kf:mg "all" = none) (cq:mg "max" = none) (b7:mg "min" = none):FnOk P w K mg base Eh (n+1) f fd oQ (Gd K 3 DW):=by
 refine F.vok Lp λaq A outer s H E hr=>⟨_,(Af (Aq (i:=4) Lp.nd rfl oI<|Ca (HQ rfl) rfl ir PyProof.Rows.boot_dict<|Aa (Bk (N':=["_law_stand"]) (mp:=[none]) rfl (Bb<|vv 1) (λ_ _ _ _=>(Aj (i:=0) XJ rfl oH oI)) (λ_ _ _ _=>Bj) (λ_ _ _ _=>(Bl<|Aa (vv 0)<|Aa Ag Ae))<|Ap (N:=QT) (pn:=(Ah KA).names)<|by decide +kernel) Ae)<|Af (Aq (i:=5) Lp.nd rfl oH<|BV hr rfl am rfl cr<|Bk (N':=qD) (mp:=[none]) rfl (Bb<|vv 0) (λ_ _ _ _=>(Aj (i:=0) XL rfl oH oI)) (λ_ _ _ _=>Bj) (λ_ _ _ _=>(Bh B2 (vv 0) Ag))<|Ap (N:=QT) (pn:=(Ah KA).names)<|by decide +kernel)<|Af (Cf aL rfl (NW rfl be<|vv 2) (Aj (i:=6) Lp.nd rfl oI)<|Af (Aq (i:=7) Lp.nd rfl oH Oz)<|Af (Cf aL rfl (Bb<|vv 5) (Aj (i:=3) Lp.nd rfl oI)<|Af (Dc (i:=8) (N':=qR) (mp:=[none,some 3,some 6]) rfl Lp.nd rfl rfl (Bb<|vv 0) (λ_ _ _ _=>(Aj (i:=0) XM rfl oH oI)) (λ_ _ _ _=>(Cm<|Bd (Fv hr) (Cs (vv 0) Ek<|C0 Ag) (Bl<|Aa (vv 1)<|Aa (vv 2) Ae)<|nomark _)) (λ_ _ _ _=>(vv 0))<|Ap (N:=QT) (pn:=(Ah KA).names)<|by decide +kernel)<|Af (Dc (i:=8) (N':=qE) (mp:=[none,some 4]) rfl Lp.nd rfl rfl (Bb<|vv 8) (λ_ _ _ _=>(Aj (i:=0) XN rfl oH oI)) (λ_ _ _ _=>(Cm<|Fi<|A7 (SO rfl) rfl kf PyProof.Rows.boot_all<|Aa (Bk (N':=qF) (mp:=[none,some 1]) rfl (Bb<|Bh B2 (vv 0) Ag) (λ_ _ _ _=>(Aj (i:=0) XQ rfl oH oI)) (λ_ _ _ _=>Bj) (λ_ _ _ _=>(Zi (Bx hr) (vv 0)<|vv 1))<|Ap<|by kernel_rfl) Ae)) (λ_ _ _ _=>(vv 0))<|Ap (N:=QT) (pn:=(Ah KA).names)<|by decide +kernel)<|Af (Dc (i:=9) (N':=qE) (mp:=[none,some 4]) rfl Lp.nd rfl rfl (Bb<|vv 8) (λ_ _ _ _=>(Aj (i:=0) XS rfl oH oI)) (λ_ _ _ _=>Bj) (λ_ _ _ _=>(A8 B4 (Bh B2 (vv 0) Ag)<|A7 (OL rfl) rfl cq jI<|Aa (A8 B4 (Br<|Aa Ag Ae)<|Bk (N':=qF) (mp:=[none,some 1]) rfl (Bb<|Bh B2 (vv 0) Ag) (λ_ _ _ _=>(Aj (i:=0) XT rfl oH oI)) (λ_ _ _ _=>Bj) (λ_ _ _ _=>(C9 (Bx hr) (vv 1)<|vv 0))<|Ap<|by kernel_rfl) Ae))<|Ap (N:=QT) (pn:=(Ah KA).names)<|by decide +kernel)<|Ai<|Ct (Bd (NC hr) (vv 9) (Br Ae)<|nomark _) (Ai<|Dl (Bx hr) (vv 7) (vv 3)<|A7 (Sg hr rfl) rfl b7 gX<|Aa (vv 9) Ae) Bp)<|Ai<|Aq (i:=4) Lp.nd rfl oI<|vv 7)<|Ai<|Bf<|vv 4),?_⟩
 rintro xs μ R _ ⟨x,G,E,w,rfl,hx,hA,ht,hE,hE5,hw,q⟩;refine Ay (λg b=>∃d,g=[some x,oF<|Av E,oF<|Av w,none,oD d,none,none,none,none,none]/\b d=some (.dk<|(E.map λ(e:Nat)=>(e:Int)).map λk=>(.inl k,.D<|.int 0))/\μ d=none/\Sub μ b) (λZ hZ=>?_) ?_
 ·refine Ac (Cg E) λpc Y=>?_;refine cmap E Bt (λe=>.D<|.tuple [.int (e:Nat),.int 0]) (λg=>∃o,g=[o]) ⟨none,rfl⟩ Ab (seven<|by omega) (λC=>Cg E) ?_ ?_
  ·rintro k e M C W1 hu ⟨o,rfl⟩ w1;exact w1 _ ⟨_,rfl⟩
  ·rw[Au];refine⟨E.map λ(e:Nat)=>(e:Int),by rw[Ab,X_];rfl,eG.mpr<|hE.imp λh e=>h<|dZ e,by rw[C_];omega,λd hd=>?_⟩;have S1:Sub μ (Al μ pc<|.lst<|E.map λe=>.D<|.tuple [.int (e:Nat),.int 0]):=Sub.refl.new Y;exact hZ _ _ ⟨d,rfl,Ab,S1.none hd,S1.new<|S1.none hd⟩
 rintro g μ1 ⟨d0,rfl,e1,hd0,S1⟩;refine Ay (λg b=>∃ps,∃T:oA Nat,g=[some x,oF<|Av E,oF<|Av w,none,oD d0,oD ps,none,none,none,none]/\b ps=oG (T.map Bt)/\T.Nodup/\T.length<=200/\(∀a∈G,a.p∈T)/\Sub μ1 b) (λZ hZ=>?_) ?_
 ·refine Ac (Bq hx S1) λpc Y=>?_;refine cmap G Gg (λa=>Bt a.p) (λg=>∃o,g=[o]) ⟨none,rfl⟩ Ab (seven<|by omega) (λC=>Bq hx<|by rw[Au];exact S1.new<|S1.none Y) ?_ ?_
  ·rintro k e M C W1 hu ⟨o,rfl⟩ w1;exact Ac (A3 (j:=0) rfl)<|w1 _ ⟨_,rfl⟩
  ·rw[Au];refine Ac (Ak Ab) ⟨(G.map (·.p)).map λ(n:Nat)=>(n:Int),by rw[X_,X_];rfl,by rw[C_,C_];omega,λl ms hl hnd hms=>?_⟩;obtain⟨T,rfl,hT⟩:=Kz (f:=λ(n:Nat)=>(n:Int)) (B:=G.map (·.p)) λe he=>(hms e).mp he;have x9:T.Nodup:=(eG.mp hnd).imp λh e=>h<|bR _ e;have hTl:=Fo x9 hT;rw[C_]at hTl;refine hZ _ _ ⟨l,T,rfl,by rw[Ab,X_];rfl,x9,by omega,λa ha=>?_,?_⟩
   ·obtain⟨t,ht,e⟩:=D_.mp<|(hms _).mpr<|D_.mpr ⟨a.p,D_.mpr ⟨a,ha,rfl⟩,rfl⟩;rw[<- dZ e];exact ht
   ·have S2:Sub μ1 (Al μ1 pc<|.lst<|G.map λa=>Bt a.p):=Sub.refl.new Y;exact S2.new<|S2.none hl
 rintro g μ2 ⟨ps,T,rfl,e2,x9,hTl,hTm,S2⟩;refine Ay (λg b=>∃U o6 o7 X J d v r,g=[some x,oF<|Av E,oF<|Av w,U,oD d,oD ps,o6,o7,X,J]/\b d=some (.dk v)/\μ d=none/\XI v r/\Lst G E w r/\Sub μ b) (λZ hZ=>?_) (by rintro g b ⟨_,_,_,_,_,d,v,r,h1,h2,h3,h4,h5,h6⟩;subst h1;exact⟨_,Sub.refl,q d v r b h3 h2 h4 h5 h6⟩);have er:((w.map λ(n:Nat)=>PyData.int n).map AV.D).reverse=w.reverse.map Bt:=by rw[X_,List.map_reverse];rfl
 show fl _ _ _ _ _ ((w.map λ(n:Nat)=>PyData.int n).map AV.D).reverse _ _;rw[er];refine C8 (λi g b=>∃U o6 o7 X J d v r,g=[some x,oF<|Av E,oF<|Av w,U,oD d,oD ps,o6,o7,X,J]/\b d=some (.dk v)/\μ d=none/\XI v r/\Lst G E ((w.reverse.take i).reverse) r/\b ps=oG (T.map Bt)/\Sub μ b) ⟨none,none,none,none,none,d0,_,λs=>if s∈E then some 0 else none,rfl,S2 _ _ e1,hd0,λs=>?_,λs=>⟨λe c hc=>?_,λc e=>?_⟩,e2,S1.trans S2⟩ (λ_ _ _ _=>trivial) ?_ ?_
 ·rw[X_];exact DV E s
 ·dsimp only at e;split at e
  ·cases e
  ·rename_i h;exact h hc.1
 ·dsimp only at e;split at e
  ·rename_i h;cases e;exact⟨⟨h,rfl⟩,λ_ _=>aE _⟩
  ·cases e
 ·rintro i y g μ3 Z2 hy ⟨U,o6,o7,X,J,d,v,r,rfl,h1,h2,h3,h4,h5,h6⟩ hZ2;rw[M_]at hy;obtain⟨z,hz,rfl⟩:=L_.mp hy;have bh:(w.reverse.take<|i+1).reverse=z::(w.reverse.take i).reverse:=by rw[aJ,hz,List.reverse_append];rfl
  refine λdl gg=>?_;have hdd:d≠dl:=by rintro rfl;rw[h1]at gg;cases gg
  refine Ay (λg b=>∃U X J I O,g=[some x,oF<|Av E,oF<|Av w,U,oD d,oD ps,some<|Bt z,oD dl,X,J]/\b dl=some (.dk I)/\XI I O/\Lst G E (z::(w.reverse.take i).reverse) O/\Sub μ3 b) (λZ3 a9=>?_) ?_
  ·refine Ac (Ak<|by rw[Ad<|by rintro rfl;rw[h5]at gg;cases gg];exact h5) ?_;refine C8 (λj g b=>∃U X J I O,g=[some x,oF<|Av E,oF<|Av w,U,oD d,oD ps,some<|Bt z,oD dl,X,J]/\b dl=some (.dk I)/\I.length<=j/\XI I O/\(∀s,s∉T.take j->O s=none)/\(∀s∈T.take j,Stp G r z s<|O s)/\Sub μ3 b) ⟨_,_,_,[],λ_=>none,rfl,Ab,G_ _,λ_=>rfl,λ_ _=>rfl,(λ_ h=>nomatch h),Sub.refl.new gg⟩ (by rintro _ _ _ ⟨_,_,_,_,_,_,_,_,_,_,_,S⟩;exact Ak<|S _ _ h5) ?_ ?_
   ·rintro j y g Q Z4 hy ⟨U,X,J,I,O,rfl,k1,k2,k3,k4,k5,V⟩ ol;rw[M_]at hy;obtain⟨s,hs,rfl⟩:=L_.mp hy;have hj:j<T.length:=(F_.mp hs).1;have vx:T.take (j+1)=T.take j++[s]:=by rw[aJ,hs];rfl
    refine Ay (λg b=>∃p8,g=[some x,oF<|Av E,oF<|Av w,some<|Bt s,oD d,oD ps,some<|Bt z,oD dl,oD p8,J]/\b p8=oG ((G.filter<|Em (s,z)).map Gg)/\Sub Q b) (λZ5 vt=>?_) ?_
    ·refine Ac (Bq hx<|h6.trans V) λpc Y=>?_;refine cmapf G Gg (Em (s,z)) Gg (λg=>∃o,g=[o,some<|Bt s,some<|Bt z]) ⟨none,rfl⟩ Ab (seven<|by omega) (λC=>Bq hx<|by rw[Au];exact(h6.trans V).new<|(h6.trans V).none Y) ?_ ?_
     ·rintro k u M C W1 W2 hu ⟨o,rfl⟩ w1 w2;exact⟨N6 u.p u.x,N6 s z,br (λc=>w1 ((Hl u.p u.x s z).symm.trans c) _ ⟨_,rfl⟩) λc=>w2 ((Hl u.p u.x s z).symm.trans c) _ ⟨_,rfl⟩⟩
     ·rw[Au];exact vt _ _ ⟨pc,rfl,Ab,Sub.refl.new Y⟩
    rintro g μ5 ⟨p8,rfl,e5,S5⟩;have hfl:=bI (Em (s,z)) G;refine Ay (λg b=>∃p8,g=[some x,oF<|Av E,oF<|Av w,some<|Bt s,oD d,oD ps,some<|Bt z,oD dl,oD p8,J]/\b p8=oG ((Ve G r s z).map Gg)/\Sub Q b) (λZ5 vt=>?_) ?_
    ·refine Ac (Ak e5) λpc Y=>?_;refine KJ (G.filter<|Em (s,z)) Gg (λa=>a.ts.all λt=>(r t).isSome) Gg (λg=>∃o,g=[o,oD d]) ⟨none,rfl⟩ Y (by omega) (λb S=>Ak<|S _ _ e5) ?_ λb e S=>vt _ _ ⟨pc,rfl,e,S5.trans S⟩;rintro u M μ6 W1 W2 hu ⟨o,rfl⟩ S6 w1 w2;have ed:=S6 _ _<|S5 _ _<|V _ _ h1;have hu5:=ht u (a_.mp hu).1;refine Ac (A3 (j:=2) rfl)<|Ac (Cg u.ts) λpi gt=>?_;refine cmap u.ts Bt (λt=>.D<|.bool (r t).isSome) (λg=>∃o,g=[o,oD d]) ⟨none,rfl⟩ Ab (seven<|by omega) (λC=>Cg u.ts) ?_ ?_
     ·rintro k t M C W hk ⟨o,rfl⟩ hW;refine Ac (by rw[Au,Ad<|by rintro rfl;rw[ed]at gt;cases gt];exact ed)<|Ac (x:=Bu v<|.inl (t:Int)) rfl ?_;rw[h3 t,gY];exact hW _ ⟨_,rfl⟩
     ·rw[Au];refine Ac Ab<|Ac (Zk (λt=>(r t).isSome) u.ts) ?_;dsimp only;rw[List.all_map];exact br (λc=>w1 c _ _ ⟨_,rfl⟩<|Sub.refl.new gt) λc=>w2 c _ _ ⟨_,rfl⟩<|Sub.refl.new gt
    clear e5 S5;rintro g μ5 ⟨p8,rfl,e5,S5⟩;have zas:(Ve G r s z).length<=200:=K_ (bI _ _) (by omega);refine Ay (λg b=>∃p9,g=[some x,oF<|Av E,oF<|Av w,some<|Bt s,oD d,oD ps,some<|Bt z,oD dl,oD p8,oD p9]/\b p9=oG (((Ve G r s z).map<|cAt r).map Bt)/\Sub Q b) (λZ5 vt=>?_) ?_
    ·refine Ac (Ak e5) λpc Y=>?_;refine KJ (Ve G r s z) Gg (λ_=>true) (λa=>Bt<|cAt r a) (λg=>∃o,g=[o,oD d]) ⟨none,rfl⟩ Y (by omega) (λb S=>Ak<|S _ _ e5) ?_ λb e S=>vt _ _ ⟨pc,rfl,?_,S5.trans S⟩
     ·rintro u M μ6 W1 W2 hu ⟨o,rfl⟩ S6 w1 w2;have ed:=S6 _ _<|S5 _ _<|V _ _ h1;obtain⟨yc,_,_,hu4⟩:=Jl.mp hu;have hu5:=ht u yc;refine Jd rfl<|Ac (A3 (j:=3) rfl) λpz hpz=>Ac (A3 (j:=2) rfl)<|Ac (Cg u.ts) λpi gt=>?_;have hdz:d≠pz:=by rintro rfl;rw[ed]at hpz;cases hpz
      have ed2:Al μ6 pz (.lst [.D<|.int 0]) d=some (.dk v):=by rw[Ad hdz];exact ed
      refine cmap u.ts Bt (λt=>Bt<|(r t).getD 0) (λg=>∃o,g=[o,oD d]) ⟨none,rfl⟩ Ab (seven<|by omega) (λC=>Cg u.ts) ?_ ?_
      ·rintro k t M C W hk ⟨o,rfl⟩ hW;obtain⟨c,ec⟩:=hu4 t<|V_ hk;refine Ac (by rw[Au,Ad<|by rintro rfl;rw[ed2]at gt;cases gt];exact ed2) (Ac (x:=Bu v<|.inl (t:Int)) rfl<|Ac (x:=Bt c) (by rw[h3 t,ec];rfl) ?_);have:=hW [some<|Bt t,oD d] ⟨_,rfl⟩;rw[ec]at this;exact this
      ·rw[Au];have hzi:pz≠pi:=by rintro rfl;rw[Ab]at gt;cases gt
       refine Ac (x:=MO.lst [.D<|.int 0]) (by rw[Ad hzi];exact Ab) (Ac Ab ⟨seven<|by rw[C_];show 1+_<=_;omega,λpm jx=>Ac Ab<|Ac (x:=(0::u.ts.map λt=>(r t).getD 0).map λ(n:Nat)=>(n:Int)) (by rw[<- U0,aP,X_];rfl) ⟨iB _,λm hm rf=>?_⟩⟩);rw[QJ hm rf];have S7:Sub μ6 (Al μ6 pz<|.lst [.D<|.int 0]):=Sub.refl.new hpz;have S8:=S7.new (m:=.lst<|u.ts.map λt=>Bt<|(r t).getD 0)<|S7.none gt;exact w1 rfl _ _ ⟨_,rfl⟩<|S8.new<|S8.none jx
     ·rw[e,X_,List.filter_eq_self.mpr λ_ _=>rfl];rfl
    clear e5 S5;rintro g μ5 ⟨p9,rfl,e5,S5⟩;have hsj:s∉T.take j:=λz=>by have h:=x9.sublist<|eD (j+1) T;rw[vx,bE]at h;exact h.2.2 s z s (.head _) rfl
    refine λpn gr=>Ac (Jj (Sub.refl.new gr _ _ e5)<|Ec _)<|Ac (Jj Ab rfl) ⟨Jk (λ_=>⟨rfl,rfl⟩) _,Jk (f:=PyData.int) (λ_=>⟨rfl,rfl⟩) [],?_⟩;rw[Vd];have S6:Sub Q (Al μ5 pn<|.lst []):=S5.new<|S5.none gr;have hp9:Al μ5 pn (.lst []) p9=_:=Sub.refl.new gr _ _ e5;by_cases hh:Ve G r s z=[]
    ·refine Hr (by rw[hh];rfl) (ol _ _ ⟨_,_,_,I,O,rfl,S6 _ _ k1,by omega,k3,λL h=>k4 L λz=>h<|by rw[vx];exact aD _ z,λL h=>?_,V.trans S6⟩);rw[vx]at h;rcases S_.mp h with h|h
     ·exact k5 L h
     ·rw[O_.mp h];exact⟨λ_=>hh,λc e=>by rw[k4 s hsj]at e;cases e⟩
    ·refine Jd (by obtain⟨a,l,e⟩:=List.exists_cons_of_ne_nil hh;rw[e];rfl)<|Ac hp9<|Ac (Ec _) ⟨⟨?_,λe he=>?_⟩,λe he hm=>?_⟩
     ·rw[C_,C_];exact iD.mpr hh
     ·obtain⟨c,_,rfl⟩:=D_.mp he;exact⟨Bn _,λe' av=>by obtain⟨c',_,rfl⟩:=D_.mp av;rfl⟩
     ·obtain⟨c,hc,rfl⟩:=D_.mp he;obtain⟨a0,ha0,rfl⟩:=D_.mp hc;have hm:=hm (λe he=>by obtain⟨c,_,e⟩:=D_.mp he;exact⟨_,e.symm⟩) ((cAt r a0:Nat):Int);refine Ac (S6 _ _ k1)<|Ac rfl ⟨A5<|show I.length<=1000 by omega,ol _ _ ⟨_,_,_,Dr I (.inl (s:Int))<|Bt<|cAt r a0,λL=>if L=s then some (cAt r a0) else O L,rfl,Ab,?_,λL=>?_,λL h=>?_,λL h=>?_,?_⟩⟩
      ·have:=Kv I (.inl (s:Int))<|Bt<|cAt r a0;omega
      ·rw[Hi];dsimp only;by_cases e:L=s
       ·rw[N_ e,N_<|by rw[e]];rfl
       ·rw[I_ e,I_ (λc:(Sum.inl (L:Int):Key)=.inl (s:Int)=>e<|dZ<|gL c)];exact k3 L
      ·rw[vx]at h;dsimp only;rw[I_ λe=>h<|by rw[e];simp];exact k4 L λz=>h<|aD _ z
      ·rw[vx]at h;dsimp only;rcases S_.mp h with h2|h2
       ·rw[I_ λe=>hsj<|by rw[<- e];exact h2];exact k5 L h2
       ·rw[O_.mp h2,N_ rfl];refine⟨nofun,λc e=>?_⟩;cases e;exact⟨⟨a0,ha0,rfl⟩,λa ha=>Int.ofNat_le.mp<|hm _ rfl<|D_.mpr ⟨_,D_.mpr ⟨a,ha,rfl⟩,rfl⟩⟩
      ·exact Ed (V.trans S6) gg
   ·rintro g Q ⟨U,X,J,I,O,rfl,k1,k2,k3,k4,k5,V⟩;rw[C_,aK]at k4 k5;refine a9 _ _ ⟨_,_,_,I,O,rfl,k1,k3,h4.step (λs e=>?_) λs c e=>?_,V⟩
    ·by_cases h:s∈T
     ·exact(k5 s h).1 e
     ·refine List.eq_nil_iff_forall_not_mem.mpr λa ha=>h ?_;obtain⟨h1,rfl,_⟩:=Jl.mp ha;exact hTm a h1
    ·by_cases h:s∈T
     ·exact(k5 s h).2 c e
     ·rw[k4 s h]at e;cases e
  rintro g Q ⟨U,X,J,I,O,rfl,k1,k3,k4,V⟩;exact hZ2 _ _ ⟨_,_,_,_,_,dl,I,O,rfl,k1,h6.none gg,k3,by rw[bh];exact k4,V _ _ h5,h6.trans V⟩
 ·rintro g μ3 ⟨U,o6,o7,X,J,d,v,r,rfl,h1,h2,h3,h4,_,h6⟩;rw[C_,aK,List.reverse_reverse]at h4;exact hZ _ _ ⟨_,_,_,_,_,d,v,r,rfl,h1,h2,h3,h4,h6⟩
def Fq(d:lT)(c a:M):Prop:=∀b m,b≠d->c b=some m->a b=some m
def Fq.trans{a:lT}{g c d:M}(h:Fq a g c)(k:Fq a c d):Fq a g d:=λb m h1 e=>k b m h1<|h b m h1 e
def Fq.new{c p:lT}{d a:M}{o:MO}(h:Fq c d a)(e:a p=none):Fq c d (Al a p o):=λb m h1 q=>by have:=h b m h1 q;rw[Ad<|by intro z;subst z;rw[e]at this;cases this];exact this
def Fq.put{d p:lT}{a c:M}{o:MO}(h:Fq d a c)(e:a p=none):Fq d a (Al c p o):=λb m h1 q=>by rw[Ad<|by intro z;subst z;rw[e]at q;cases q];exact h b m h1 q
def Fq.k{a:lT}{d c:M}{o:MO}(h:Fq a d c):Fq a d (Al c a o):=λb m h1 q=>by rw[Ad h1];exact h b m h1 q
def K8{d:lT}{c a:M}(h:Sub c a):Fq d c a:=λb m _ e=>h b m e
def Eo(p:Nat)(w:oA Nat):lR:=.tuple [.int (p:Nat),Av w]
def kyD(p:Nat)(w:oA Nat)(k:Nat):lR:=.tuple [.int (p:Nat),Av w,.int (k:Nat)]
def DX(p:Nat)(w:oA Nat)(k:Nat):KeyTree (kyD p w k):=by
 have h1:=N0 (ns:=w);have h2:=Ic w;refine⟨?_,?_,?_⟩
 ·simp only[kyD,Av,Cano,A6,h2,Bool.and_true,Bool.true_and]
 ·simp only[kyD,Av,PyData.canLay0,PyData.canLayAll0,h1.1,Bool.and_true,Bool.true_and]
 ·have:=h1.2;simp only[kyD,Av,PyData.depth,PyData.depthAll];omega
def IL{p b:Nat}{w c:oA Nat}{k a:Nat}(h:kyD p w k=kyD b c a):p=b/\w=c/\k=a:=by injection h with h;injection h with h1 h;injection h with h2 h;injection h with h3 _;injection h1 with h1;injection h3 with h3;exact⟨by omega,Qm h2,by omega⟩
def cst:Nat->Nat
 | 0=>1
 |k+1=>1+8*cst k
def SA(a:oA Ar)(E:oA Nat)(p:Nat)(w:oA Nat):Prop:=∃c,Ql a E w p c
structure KnD(g:Gq)(As:oA Ar)(E:oA Nat)(μ:M)(kn:lT)(N:Nat)(kvs:oA<|lR×AV):Prop where
 a:μ kn=some (.dd kvs)
 n:kvs.length<=N
 v:∀p w k v,Bu kvs (kyD p w k)=some v->∃b:Bool,v=.D (.bool b)/\(b=true↔Dh g (SA As E) k p w)
def KnD.mono{g:Gq}{c:oA Ar}{E:oA Nat}{d:M}{b:lT}{N N':Nat}{kvs:oA<|lR×AV}(h:KnD g c E d b N kvs)(e:N<=N'):KnD g c E d b N' kvs:=⟨h.a,K_ h.n e,h.v⟩
def Qq(a:oA Bool)(b:Bool):((a.map PyData.bool).any λe=>PyData.eqv e<|.bool b)=decide (b∈a):=by
 induction a with
 |nil=>rfl
 |cons x a c=>
  have e:PyData.eqv (.bool x) (.bool b)=decide (x=b):=by cases x<;>cases b<;>rfl
  rw[aP,dX,c,e,gV,fB,aW,aW,aW,aB];exact or_congr ⟨Eq.symm,Eq.symm⟩ Iff.rfl
def K9(a:oA Bool):B6 (.tuple<|a.map PyData.bool) :=
 ⟨by simp only[PyData.canLay0];exact(Gb (λ_=>⟨rfl,rfl⟩) a).1,by simp only[PyData.depth,(Gb (f:=PyData.bool) (λ_=>⟨rfl,rfl⟩) a).2];decide⟩
def Ig(a:oA Bool):dats (a.map λb=>AV.D<|.bool b)=some (a.map PyData.bool):=by rw[show(a.map λb=>AV.D<|.bool b)=(a.map PyData.bool).map .D by rw[X_];rfl];exact B8 _
def Xv{g:Gq}{S:Nat->oA Nat->Prop}{n p x:Nat}{v:oA Nat}(h:¬S p (x::v)):Dh g S (n+1) p (x::v)↔((hnd g (p,x)=1/\rgp g.rs (p,x)≠[]/\∀r∈rgp g.rs (p,x),Dh g S n r.q<|r.w++v)\/(hnd g (p,x)≠1/\∃r∈rgp g.rs (p,x),Dh g S n r.q<|r.w++v)) :=
 ⟨λz=>z.elim (λz=>absurd z h) λ⟨_,_,e,k⟩=>by cases e;exact k,λk=>.inr ⟨_,_,rfl,k⟩⟩
def DY(k:Nat):ASp:=λi e R=>∃(g:Gq) (c:oA Ar) (E:oA Nat) (p:Nat) (w:oA Nat) (l d:lT) (N:Nat) (kvs:oA<|lR×AV),i=[.D<|Ee g,.R l,.D<|Av E,.D<|Eo p w,.D<|.int (k:Nat),.R d]/\GqL g/\e l=oG (c.map Gg)/\c.length<=200/\(∀a∈c,a.ts.length<=5)/\E.Nodup/\E.length<=5/\p<g.pl.length/\w.length+k<=12/\KnD g c E e d N kvs/\N+cst k<=16000000/\∀(b:Bool) bg μ',(b=true↔Dh g (SA c E) k p w)->KnD g c E μ' d (N+cst k) bg->Fq d e μ'->R (.D<|.bool b) μ'
abbrev nBr:oA Str:=["_law_game_here","_law_begun","_law_ends","_law_spot","_law_k","_law_known","_law_place","_law_pile","_law_told","_law_rules","_law_spots","_law_some_here","_law_one"]
def La:FnScope nBr oM (Ah OX):=B5<|by decide +kernel
def XV:(qS:oA Str).Nodup:=by decide +kernel
def XW:(["_law_rule","_law_pile"]:oA Str).Nodup:=by decide +kernel
def Vf{n:Nat}(F:Fun K "_law_brings" "_law_brings" OX f fd) (k:Nat) (wc:ASp) (gf:∀G,k=G+1->wc=DY G) (n6:VCal P w K mg base n "_law_costs" oQ DW) (wz:VCal P w K mg base n "_law_brings" oM wc) (ai:mg "len" = none):FnOk P w K mg base Eh (n+1) f fd oM (Gd K 6<|DY k):=by
 refine F.vok La λaq A outer s H E C=>⟨_,(Af (Ct (GT (hu7 C) (A8 B4 (vv 3)<|Bl<|Aa (vv 4) Ae)<|vv 5) (Ai<|Bf<|Z7 (hu7 C) (vv 5)<|A8 B4 (vv 3)<|Bl<|Aa (vv 4) Ae) Bp)<|Af (NJ (vv 3)<|Es (n:=2) rfl<|Aw (Aj (i:=6) La.nd rfl oI)<|Aw (Aj (i:=7) La.nd rfl oI) B7)<|Af (Aq (i:=8) La.nd rfl oH<|Zi (Bx C) (vv 6)<|Am n6 C rfl<|Aa (vv 1)<|Aa (vv 2)<|Aa (vv 7) Ae)<|Af (Ct (VW.pt<|Fk (Jy<|Fi<|vv 8)<|Fk (Bd Os (vv 4) Ag<|nomark _)<|Fj<|Bd Os (A7 Dt rfl ai bP<|Aa (vv 7) Ae) Ag<|nomark _) (Af (Dc (i:=9) (N':=qS) (mp:=[none,some 6,some 7]) rfl La.nd rfl rfl (Bb<|Bh B2 (vv 0) Ag) (λ_ _ _ _=>(Aj (i:=0) XV rfl oH oI)) (λ_ _ _ _=>(Cm<|Bd (Fv C) (Cs (vv 0) Ek<|C0 Ag) (Bl<|Aa (vv 1)<|Aa (Bh B2 (vv 2) Ag) Ae)<|nomark _)) (λ_ _ _ _=>(vv 0))<|Ap (N:=nBr) (pn:=(Ah OX).names)<|by decide +kernel)<|Af (Dc (i:=10) (N':=["_law_rule","_law_pile"]) (mp:=[none,some 7]) rfl La.nd rfl rfl (Bb<|vv 9) (λ_ _ _ _=>(Aj (i:=0) XW rfl oH oI)) (λ_ _ _ _=>Bj) (λ_ _ _ _=>(Bl<|Aa (Bh B2 (vv 0) Ag)<|Aa (A8 B4 (Bh B2 (vv 0) Ag)<|Cs (vv 1) (C0 Ag) Ek) Ae))<|Ap (N:=nBr) (pn:=(Ah OX).names)<|by decide +kernel)<|Af (Aq (i:=11) La.nd rfl oH<|Br Ae)<|Af (Cf aL rfl (Bb<|vv 10) (Aj (i:=12) La.nd rfl oH)<|Ai<|Ck<|Fw cN cP Dn (vv 11)<|Aa (Am wz C rfl<|Aa (vv 0)<|Aa (vv 1)<|Aa (vv 2)<|Aa (vv 12)<|Aa (A8 JF (vv 4) Ag)<|Aa (vv 5) Ae) Ae)<|Af (Aq (i:=8) La.nd rfl oH<|Rg (ND C) E3 (vv 11)<|by with_unfolding_all rfl)<|Ai<|Ct (Bd (Fv C) (Bh B2 (Bh B2 (Bh B2 (vv 0) Ag)<|vv 6) Ag) Ag<|nomark _) (Ai<|Aq (i:=8) La.nd rfl oH<|NA (Rg (NC C) (vv 11) (Br Ae)<|nomark _)<|MZ<|Rg (Tp C) E3 (vv 11)<|by with_unfolding_all rfl) Bp) Bp)<|Af (Z9 (hu7 C) (vv 5) (A8 B4 (vv 3)<|Bl<|Aa (vv 4) Ae)<|vv 8)<|Ai<|Bf<|vv 8),?_⟩
 rintro xs μ R _ ⟨g,T,E,p,w,l,M,N,X,rfl,hG,hl,hA,ht,hE,hE5,hp,hw,hK,hN,q⟩;have hc:1<=cst k:=by cases k<;>simp[cst]
 have hsz:sizeLine=16777216:=rfl;have h3:3<=sizeLine:=by decide
 have y8:=hG.r8;refine Ay (λJ t=>J=[oF<|Ee g,oD l,oF<|Av E,oF<|Eo p w,oE (k:Nat),oD M,none,none,none,none,none,none,none]/\μ=t) (λZ hZ=>⟨h3,Ac hK.a ⟨DX p w k,br (λc=>?_) λc=>hZ _ _ ⟨rfl,rfl⟩⟩⟩) ?_
 ·obtain⟨v,ev⟩:=eU.mp<|show(Bu X<|kyD p w k).isSome=true from c;obtain⟨b,rfl,hb⟩:=hK.v _ _ _ _ ev;exact⟨h3,Ac hK.a ⟨DX p w k,Ac ev ⟨_,Sub.refl,q b X μ hb (hK.mono<|cD _ _)<|K8 Sub.refl⟩⟩⟩
 rintro J _ ⟨rfl,rfl⟩;refine Cr<|Zl rfl ?_;refine Ay (λJ t=>∃b:Bool,J=[oF<|Ee g,oD l,oF<|Av E,oF<|Eo p w,oE (k:Nat),oD M,oE (p:Nat),oF<|Av w,oF<|.bool b,none,none,none,none]/\(b=true↔SA T E p w)/\Sub μ t) (λZ hZ=>?_) ?_
 ·refine⟨.R l,T,E,w,rfl,Ak hl,hA,ht,hE,hE5,by omega,λd kv3 cf V hd ed hF hL S1=>Ac ed<|Ac (x:=Bu kv3<|.inl (p:Int)) rfl<|hZ _ _ ⟨_,rfl,?_,S1⟩⟩;rw[hF p,gY];cases e:cf p with
  |none=>exact⟨nofun,by rintro ⟨c,h⟩;exact absurd h<|(hL p).1 e c⟩
  |some c=>exact⟨λ_=>⟨c,((hL p).2 c e).1⟩,λ_=>rfl⟩
 rintro J V ⟨b1,rfl,hb1,S1⟩;have K1:KnD g T E V M N X:=⟨S1 _ _ hK.a,hK.n,hK.v⟩;refine Ay (λJ t=>∃o9 i8 jk U Q,∃b:Bool,J=[oF<|Ee g,oD l,oF<|Av E,oF<|Eo p w,oE (k:Nat),oD M,oE (p:Nat),oF<|Av w,oF<|.bool b,o9,i8,jk,U]/\(b=true↔Dh g (SA T E) k p w)/\KnD g T E t M (N+cst k-1) Q/\Fq M μ t) (λZ hZ=>?_) ?_
 ·have fin:(Dh g (SA T E) k p w->SA T E p w)->∀o9 i8 jk U,Z [oF<|Ee g,oD l,oF<|Av E,oF<|Eo p w,oE (k:Nat),oD M,oE (p:Nat),oF<|Av w,oF<|.bool b1,o9,i8,jk,U] V:=λh o9 i8 jk U=>hZ _ _ ⟨_,_,_,_,X,b1,rfl,⟨λz=>(hb1.mp z).elim λc hc=>Dh.say ⟨c,hc⟩ _,λz=>hb1.mpr<|h z⟩,K1.mono<|by omega,K8 S1⟩;refine br (λc1=>?_) (λc1=>Hr rfl<|fin (λ_=>hb1.mp<|by simpa using c1) _ _ _ _);have z7:¬SA T E p w:=λz=>by rw[hb1.mpr z]at c1;cases c1
  cases k with
  |zero=>exact Hr rfl (Hr rfl<|fin id _ _ _ _)
  |succ G=>
  cases w with
  |nil=>exact Jd (aZ<|by omega) (Hr rfl<|fin (λz=>z.elim id<|by rintro ⟨_,_,e,_⟩;exact nomatch e) _ _ _ _)
  |cons I O=>
  have e:=gf G rfl;subst e;have zar:cst (G+1)=1+8*cst G:=rfl;have gj:=Xv (g:=g) (S:=SA T E) (n:=G) z7;refine Jd (aZ<|by omega) (Jd (aZ<|show(0:Int)<(((I::O).map λ(n:Nat)=>PyData.int n).length:Nat) by rw[C_,aR];omega) ?_);rw[aR]at hw;refine Ay (λJ t=>∃p9,J=[oF<|Ee g,oD l,oF<|Av E,oF<|Eo p<|I::O,oE ((G+1:Nat):Int),oD M,oE (p:Nat),oF<|Av<|I::O,oF<|.bool b1,oD p9,none,none,none]/\t p9=oG ((rgp g.rs (p,I)).map Fr)/\Sub V t) (λZ3 a9=>?_) ?_
  ·refine Ac (A3 (j:=2) rfl)<|Ac rfl λpc ba=>?_;rw[X_];refine cmapf g.rs Fr (En (p,I)) Fr (λJ=>∃o,J=[o,oE (p:Nat),oF<|Av<|I::O]) ⟨none,rfl⟩ Ab (seven<|by omega) (λacc=>bR some<|X_ (f:=N8) (g:=AV.D) (l:=g.rs)) ?_ ?_
   ·rintro k u τ' acc W1 W2 hu ⟨o,rfl⟩ w1 w2;exact Ac (A3 (j:=0) rfl) ⟨N6 u.p u.x,N6 p I,br (λc=>w1 ((Hl u.p u.x p I).symm.trans c) _ ⟨_,rfl⟩) λc=>w2 ((Hl u.p u.x p I).symm.trans c) _ ⟨_,rfl⟩⟩
   ·rw[Au];exact a9 _ _ ⟨pc,rfl,Ab,Sub.refl.new ba⟩
  rintro J μ2 ⟨p9,rfl,e2,W⟩;have nu:(rgp g.rs (p,I)).length<=8:=K_ (bI _ _) y8;have g7:∀r∈rgp g.rs (p,I),RqL g.pl.length g.le.length r:=λr C=>hG.ok r (a_.mp C).1;generalize rgp g.rs (p,I)=L at gj e2 nu g7;refine Ay (λJ t=>∃lj,J=[oF<|Ee g,oD l,oF<|Av E,oF<|Eo p<|I::O,oE ((G+1:Nat):Int),oD M,oE (p:Nat),oF<|Av<|I::O,oF<|.bool b1,oD p9,oD lj,none,none]/\t lj=oG (L.map λr=>.D<|Eo r.q<|r.w++O)/\V lj=none/\Sub V t) (λZ3 a9=>?_) ?_
  ·refine Ac (Ak e2) λpc ba=>?_;have h9c:p9≠pc:=by rintro rfl;rw[e2]at ba;cases ba
   refine cmap L Fr (λr=>.D<|Eo r.q<|r.w++O) (λJ=>∃o,J=[o,oF<|Av<|I::O]) ⟨none,rfl⟩ Ab (seven<|by omega) (λacc=>Ak<|by rw[Au,Ad h9c];exact e2) ?_ ?_
   ·rintro k u τ' acc W1 hu ⟨o,rfl⟩ w1;have hw2:=(g7 u<|V_ hu).w;refine Ac (A3 (j:=2) rfl)<|Ac (x:=Av u.w) (A3 (j:=3) rfl) ?_;show _<=_/\W1 _ (.D<|.tuple [.int (u.q:Nat),.tuple<|(u.w.map λ(n:Nat)=>PyData.int n)++Na (.int (I:Nat)::O.map λ(n:Nat)=>PyData.int n) (some 1) none]) _;rw[TB,<- P_];exact⟨seven<|by rw[C_];show _+(Na (.int (I:Nat)::O.map λ(n:Nat)=>PyData.int n) (some 1) none).length<=_;rw[TB,C_];omega,w1 _ ⟨_,rfl⟩⟩
   ·rw[Au];exact a9 _ _ ⟨pc,rfl,Ab,W.none ba,W.new<|W.none ba⟩
  clear e2 W;rintro J μ2 ⟨lj,rfl,e2,n10,W⟩;have zb:lj≠M:=by rintro rfl;rw[K1.a]at n10;cases n10
  obtain⟨B,hB⟩:∃B:Rq->Bool,∀r,B r=true↔Dh g (SA T E) G r.q (r.w++O):=⟨λr=>@decide (Dh g (SA T E) G r.q<|r.w++O) (Classical.propDecidable _),λr=>by simp⟩;refine λm7 ka=>?_;have pe:m7≠M:=by rintro rfl;rw[W _ _ K1.a]at ka;cases ka
  have y3:l≠M:=by rintro rfl;have z:=hK.a;rw[hl]at z;cases z
  have k8:lj≠m7:=by rintro rfl;rw[e2]at ka;cases ka
  have n11:μ m7=none:=S1.none<|W.none ka;refine Ay (λJ t=>∃U Q,J=[oF<|Ee g,oD l,oF<|Av E,oF<|Eo p<|I::O,oE ((G+1:Nat):Int),oD M,oE (p:Nat),oF<|Av<|I::O,oF<|.bool b1,oD p9,oD lj,oD m7,U]/\t m7=oG ((L.map B).map λb=>.D<|.bool b)/\KnD g T E t M (N+8*cst G) Q/\Fq M μ t) (λZ3 a9=>?_) ?_
  ·refine Ac (Ak<|by rw[Ad k8];exact e2) ?_;refine C8 (λj J t=>∃U Q,J=[oF<|Ee g,oD l,oF<|Av E,oF<|Eo p<|I::O,oE ((G+1:Nat):Int),oD M,oE (p:Nat),oF<|Av<|I::O,oF<|.bool b1,oD p9,oD lj,oD m7,U]/\t m7=oG (((L.take j).map B).map λb=>.D<|.bool b)/\KnD g T E t M (N+j*cst G) Q/\t lj=oG (L.map λr=>.D<|Eo r.q<|r.w++O)/\Fq M μ t) ⟨_,X,rfl,Ab,⟨by rw[Ad pe.symm];exact W _ _ K1.a,by rw[Nat.zero_mul];exact K1.n,K1.v⟩,by rw[Ad k8];exact e2,(K8<|S1.trans W).put n11⟩ (by rintro _ _ _ ⟨_,_,_,_,_,e,_⟩;exact Ak e) ?_ ?_
   ·rintro j y J μ3 Z4 hy ⟨U,Q,rfl,Y,K3,f3,S3⟩ ol;rw[M_]at hy;obtain⟨r,C,rfl⟩:=L_.mp hy;have hj:j<L.length:=(F_.mp C).1;obtain⟨_,_,hq1,hq2⟩:=g7 r<|V_ C;have hjc:(j+1)*cst G=j*cst G+cst G:=by rw[Nat.add_mul,Nat.one_mul]
    have hj8:(j+1)*cst G<=8*cst G:=jU _ (by omega);refine⟨Ac Y trivial,g,T,E,r.q,r.w++O,l,M,N+j*cst G,Q,by dsimp only;rw[show((G+1:Nat):Int)-1=(G:Nat) by omega],hG,S3 _ _ y3 hl,hA,ht,hE,hE5,hq1,by rw[R_];omega,K3,by omega,λb kv3 μ4 hb K4 S4=>?_⟩;have e4:=S4 _ _ pe Y;have eb:b=B r:=gV.mpr<|hb.trans (hB r).symm;refine Ac e4 ⟨A5<|by rw[C_,C_,aY];omega,ol _ _ ⟨_,kv3,rfl,by rw[Ab,eb,aJ,C,P_,P_];rfl,⟨by rw[Ad pe.symm];exact K4.a,by rw[hjc,<- jO];exact K4.n,K4.v⟩,by rw[Ad k8];exact S4 _ _ zb f3,(S3.trans S4).put n11⟩⟩
   ·rintro J μ3 ⟨U,Q,rfl,Y,K3,f3,S3⟩;rw[C_]at K3 Y;rw[aK]at Y;refine a9 _ _ ⟨_,Q,rfl,Y,K3.mono ?_,S3⟩;have:=jU (cst G) nu;omega
  clear e2 W;rintro J μ3 ⟨U,Q,rfl,Y,K3,S3⟩;have hgp:(g.pl.map Lb)[p]?=some (Lb g.pl[p]):=by rw[M_,E_ hp];rfl
  have rg:hnd g (p,I)=g.pl[p].2:=by unfold hnd;rw[bJ,M_,E_ hp];rfl
  refine Ac rfl<|Ac (Ak Y)<|Ac (Ig _) ⟨L9 _,K9 _,?_⟩;rw[Qq];refine Ac (A3 (j:=0) rfl)<|Ac (A3 hgp)<|Ac (x:=PyData.int (g.pl[p].2:Nat)) (A3 (j:=1) rfl)<|ieq (λc=>?_) λc=>?_
  ·have h1:hnd g (p,I)=1:=by rw[rg];exact dZ c
   refine λp8 fm=>Ac (Jj (Sub.refl.new fm _ _ Y)<|Ig _)<|Ac (Jj Ab rfl) ⟨Jk (λ_=>⟨rfl,rfl⟩) _,Jk (f:=PyData.int) (λ_=>⟨rfl,rfl⟩) [],?_⟩;rw[Vd];have K4:KnD g T E (Al μ3 p8<|.lst []) M (N+cst (G+1)-1) Q:=⟨by rw[Ad<|by rintro rfl;rw[K3.a]at fm;cases fm];exact K3.a,K_ K3.n<|by omega,K3.v⟩;have put:∀b:Bool,(b=true↔L≠[]/\∀r∈L,B r=true)->Z [oF<|Ee g,oD l,oF<|Av E,oF<|Eo p<|I::O,oE ((G+1:Nat):Int),oD M,oE (p:Nat),oF<|Av<|I::O,oF<|.bool b,oD p9,oD lj,oD m7,U] (Al μ3 p8<|.lst []):=λb h=>hZ _ _ ⟨_,_,_,_,Q,b,rfl,by
    rw[h,gj];exact⟨λz=>.inl ⟨h1,z.1,λr C=>(hB r).mp<|z.2 r C⟩,λz=>z.elim (λz=>⟨z.2.1,λr C=>(hB r).mpr<|z.2.2 r C⟩) λz=>absurd h1 z.1⟩,K4,S3.new fm⟩
   by_cases hL:L=[]
   ·subst hL;exact Hr rfl<|put false ⟨nofun,λz=>absurd rfl z.1⟩
   ·refine Jd (by obtain⟨a,m,e⟩:=List.exists_cons_of_ne_nil hL;rw[e];rfl)<|Ac rfl<|Ac (Ak<|Sub.refl.new fm _ _ Y)<|Ac (Ig _) ⟨L9 _,K9 _,?_⟩;rw[Qq];refine put _ ?_;rw[Bool.not_eq_true',decide_eq_false_iff_not,D_];exact⟨λz=>⟨hL,λr C=>by
     cases e:B r with
     |true=>rfl
     |false=>exact absurd ⟨r,C,e⟩ z⟩,λz ⟨r,C,e⟩=>by rw[z.2 r C]at e;cases e⟩
  ·refine hZ _ _ ⟨_,_,_,_,Q,_,rfl,?_,K3.mono<|by omega,S3⟩;have h1:hnd g (p,I)≠1:=λz=>c (by rw[<- rg,z];rfl);rw[gj,aW,D_];exact⟨by rintro ⟨r,C,e⟩;exact .inr ⟨h1,r,C,(hB r).mp e⟩,λz=>z.elim (λz=>absurd z.1 h1)<|by rintro ⟨_,r,C,z⟩;exact ⟨r,C,(hB r).mpr z⟩⟩
 rintro J μ2 ⟨o9,i8,jk,U,Q,b,rfl,hb,K2,W⟩;have k2n:=K2.n;refine Cr ⟨h3,Ac K2.a ⟨DX p w k,by omega,⟨_,Sub.refl,q b _ _ hb ⟨Ab,?_,λp' w' G v h=>?_⟩ W.k⟩⟩⟩
 ·have:=Kv Q (kyD p w k)<|.D<|.bool b;show(Dr Q (kyD p w k)<|.D<|.bool b).length<=_;omega
 ·have h2:Bu (Dr Q (kyD p w k)<|.D<|.bool b) (kyD p' w' G)=some v:=h;clear h;rw[Hi]at h2;split at h2
  ·rename_i e;obtain⟨rfl,rfl,rfl⟩:=IL e;exact⟨b,(aX h2).symm,hb⟩
  ·exact K2.v _ _ _ _ h2
def QK{n:Nat}(F:Fun K "_law_brings" "_law_brings" OX f fd) (g:Binds K fd oM []) (d:PySem.W.keepIn K (.ref f)=true) (a:mg "_law_brings" = some (.ref f)) (e:VCal P w K mg base (n+1) "_law_costs" oQ DW) (c:mg "len" = none) :
  ∀k:Nat,FnOk P w K mg base Eh (n+2+k) f fd oM (Gd K 6<|DY k):=by
 intro k
 induction k with
 |zero=>
  refine Vf F 0 (λ_ _ _=>False) (by intro i h;cases h) e ⟨f,fd,F.ok La (λj H Q E h=>?_) λaq A b s H j Q E m h=>?_,g,d,a⟩ c
  ·obtain⟨_,_,_,_,_,_,h,_⟩:=h;exact h.elim
  ·obtain⟨_,_,_,_,_,_,h,_⟩:=h;exact h.elim
 |succ k l=>exact Vf (n:=n+2+k) F (k+1) (DY k) (by rintro i h;cases h;rfl) (e.mono<|by omega) ⟨f,fd,l,g,d,a⟩ c
def IM{n m:Nat}{ps:oA Str}{sp:Nat->ASp}(h:∀k,k<=m->FnOk P w K mg base Eh n f fd ps (Gd K ps.length<|sp k)):FnOk P w K mg base Eh n f fd ps (Gd K ps.length (λb d R=>∃k,k<=m/\sp k b d R)) :=
 ⟨by rintro i H Q E ⟨b,d,R,e,g,hc,⟨k,hk,j⟩,hq⟩;exact (h k hk).len i H Q E ⟨b,d,R,e,g,hc,j,hq⟩,by rintro A a s H c l i Q E g he hb hv ⟨b,d,R,e,hx,hc,⟨k,hk,j⟩,hq⟩;exact (h k hk).run A a s H c l i Q E g he hb hv ⟨b,d,R,e,hx,hc,j,hq⟩⟩
def DZ:ASp:=λa b R=>∃k,k<=4/\DY k a b R
def XX{n:Nat}(F:Fun K "_law_brings" "_law_brings" OX f fd) (d:Binds K fd oM []) (c:PySem.W.keepIn K (.ref f)=true) (a:mg "_law_brings" = some (.ref f)) (e:VCal P w K mg base (n+1) "_law_costs" oQ DW) (b:mg "len" = none) :
  FnOk P w K mg base Eh (n+6) f fd oM (Gd K 6 DZ) :=
 IM (m:=4) λk hk=>(QK F d c a e b k).mono<|by omega
abbrev nRi:oA Str:=["_law_deal_here","_law_game_here","_law_saying_here","_law_arrows","_law_begun","_law_known","_law_turn","_law_pile","_law_place","_law_cost"]
def Tb:FnScope nRi qG (Ah UQ):=B5<|by decide +kernel
def XY:(qD:oA Str).Nodup:=by decide +kernel
def XZ:(qT:oA Str).Nodup:=by decide +kernel
def Pot.kp{c b:M}{a l:lT}(h:Pot c a l)(ha:∀m,c a=some m->b a=some m)(e:∀m,c l=some m->b l=some m):Pot b a l :=
 by obtain⟨g,d,ns,h⟩:=h;exact⟨g,d,ns,ha _ h.ha,e _ h.hl,h.s0,h.s1,h.n0,h.p0,h.ne⟩
def QL:∀{k:Nat},k<=4->cst k<=4700
 | 0,_=>by decide
 | 1,_=>by decide
 | 2,_=>by decide
 | 3,_=>by decide
 | 4,_=>by decide
def QM:ASp:=λd e R=>∃(a l:lT) (g:Gq) (s:Say) (c:oA Ar),d=[.R a,.D<|Ee g,.D<|Fc s,.D<|.tuple<|c.map Ux]/\GqL g/\SyOk g s/\c.length<=200/\(∀a∈c,a.ts.length<=5)/\MOk g s.as s.es c/\Pot e a l/\∀ b,Pot b a l->R (.D<|.bool true) b
def YA{n:Nat}(F:Fun K "_law_right" "_law_right" UQ f fd) (dh:VCal P w K mg base n "_law_draw" oJ Xk) (n6:VCal P w K mg base n "_law_costs" oQ DW) (wz:VCal P w K mg base n "_law_brings" oM DZ) (ah:mg "range" = none) (al:mg "tuple" = none) (ai:mg "len" = none):FnOk P w K mg base Eh (n+1) f fd qG (Gd K 4 QM):=by
 refine F.vok Tb λaq A outer s H E hr=>⟨_,(Af (Dc (i:=4) (N':=qD) (mp:=[none]) rfl Tb.nd rfl rfl (Bb<|Bh B2 (vv 2) Ag) (λ_ _ _ _=>(Aj (i:=0) XY rfl oH oI)) (λ_ _ _ _=>Bj) (λ_ _ _ _=>(A8 B4 (vv 0)<|Bl<|Aa Ag Ae))<|Ap (N:=nRi) (pn:=(Ah UQ).names)<|by decide +kernel)<|Af (Aq (i:=5) Tb.nd rfl oH AB)<|Af (Cf aL rfl (Ch rfl ah<|Aa Ag Ae) (Aj (i:=6) Tb.nd rfl oH)<|Af (Aq (i:=7) Tb.nd rfl oH<|Ca Du rfl al b_<|Aa (Bk (N':=qT) (mp:=[none,some 0,some 1]) rfl (Ch rfl ah<|Aa (Am dh hr rfl<|Aa (vv 0)<|Aa Ag Ae) Ae) (λ_ _ _ _=>(Aj (i:=0) XZ rfl oH oI)) (λ_ _ _ _=>Bj) (λ_ _ _ _=>(Am dh hr rfl<|Aa (vv 1)<|Aa (A7 Dt rfl ai bP<|Aa (Bh B2 (vv 2) Ag) Ae) Ae))<|Ap (N:=nRi) (pn:=(Ah UQ).names)<|by decide +kernel) Ae)<|Af (Aq (i:=8) Tb.nd rfl oH<|Am dh hr rfl<|Aa (vv 0)<|Aa (A7 Dt rfl ai bP<|Aa (Bh B2 (vv 1) Ag) Ae) Ae)<|Af (Aq (i:=9) Tb.nd rfl oH<|F1 (Bx hr) (Am n6 hr rfl<|Aa (vv 3)<|Aa (Bh B2 (vv 2) Ag)<|Aa (vv 7) Ae) (vv 8)<|NO Ag)<|Af (Ct (VW.pt<|Fk (Fi<|Am wz hr rfl<|Aa (vv 1)<|Aa (vv 4)<|Aa (Bh B2 (vv 2) Ag)<|Aa (Bl<|Aa (vv 8)<|Aa (vv 7) Ae)<|Aa Ag<|Aa (vv 5) Ae)<|Fj<|Bd (NC hr) (vv 9) Ag<|nomark _) (Ai<|Bf E3) Bp)<|Af (Ct (VW.pt<|Fk (Fi<|Am wz hr rfl<|Aa (vv 1)<|Aa (vv 4)<|Aa (Bh B2 (vv 2) Ag)<|Aa (Bl<|Aa (vv 8)<|Aa (vv 7) Ae)<|Aa Ag<|Aa (vv 5) Ae)<|Fj<|Bd FU (vv 9) Ag<|nomark _) (Ai<|Bf E3) Bp)<|Ai<|Ct (Y8 SL FU Ag (vv 9) Ag) (Ai<|Ct (Jy<|Fi<|Am wz hr rfl<|Aa (vv 1)<|Aa (vv 4)<|Aa (Bh B2 (vv 2) Ag)<|Aa (Bl<|Aa (vv 8)<|Aa (vv 7) Ae)<|Aa (vv 9)<|Aa (vv 5) Ae) (Ai<|Bf E3) Bp) Bp)<|Ai<|Bf E3),?_⟩
 rintro xs μ R _ ⟨a,l,g,s,O,rfl,hg,hs,hM,wm,hO,hP,q⟩;refine Ay (λG t=>∃B,G=[oD a,oF<|Ee g,oF<|Fc s,oF<|.tuple<|O.map Ux,oD B,none,none,none,none,none]/\t B=oG ((s.as.map Dj).map Gg)/\B≠a/\B≠l/\Pot t a l) (λZ hZ=>?_) ?_
 ·refine Ac (A3 (j:=1) rfl)<|Ac rfl λpc Y=>?_;rw[X_];have im:=hP.ne Y;refine cmap s.as (AV.D ∘ Di) (λb=>Gg<|Dj b) (λG=>∃o,G=[o]) ⟨none,rfl⟩ Ab (seven<|K_ hs.n<|by decide) (λS=>bR some<|X_ (f:=Di) (g:=AV.D) (l:=s.as)) ?_ ?_
  ·rintro k u τ' S W1 hu ⟨o,rfl⟩ w1;have e:Qk u=[.int (u.p:Nat),.int (u.x:Nat),Av u.ts]:=by unfold Qk;rw[hs.c u<|V_ hu]
   show(Qk u).length+1<=_/\W1 _ (.D<|.tuple<|Qk u++[.int 0]) _;rw[e];exact⟨seven<|show 4<=1000 by decide,w1 _ ⟨_,rfl⟩⟩
  ·rw[Au];exact hZ _ _ ⟨pc,rfl,by rw[Ab,X_];rfl,im.1.symm,im.2.symm,hP.new Y⟩
 rintro G μ1 ⟨B,rfl,e1,hpa,hpl,P1⟩;refine λC vq=>?_;have i6:=P1.ne vq;have hbk:B≠C:=by rintro rfl;rw[e1]at vq;cases vq
 refine Ay (λG t=>∃o6 o7 o8 o9,G=[oD a,oF<|Ee g,oF<|Fc s,oF<|.tuple<|O.map Ux,oD B,oD C,o6,o7,o8,o9]/\Pot t a l) (λZ hZ=>⟨by decide,by decide,?_⟩) (by rintro G t ⟨_,_,_,_,_,X⟩;exact ⟨_,Sub.refl,q t X⟩);refine C8 (λi G t=>∃o6 o7 o8 o9 J,G=[oD a,oF<|Ee g,oF<|Fc s,oF<|.tuple<|O.map Ux,oD B,oD C,o6,o7,o8,o9]/\KnD g (s.as.map Dj) s.es t C (i*15000) J/\t B=oG ((s.as.map Dj).map Gg)/\Pot t a l) ⟨none,none,none,none,[],rfl,⟨Ab,G_ _,λ_ _ _ _ h=>nomatch h⟩,by rw[Ad hbk];exact e1,P1.new vq⟩ (λ_ _ _ _=>trivial) ?_ (by rintro G t ⟨_,_,_,_,_,e,_,_,X⟩;exact hZ _ _ ⟨_,_,_,_,e,X⟩);clear P1 e1 vq;rintro i y G L Z2 hy ⟨o6,o7,o8,o9,J,rfl,K2,e2,X⟩ hZ2;have hi:i<6:=(F_.mp hy).1;refine Ay (λG t=>∃W:oA Nat,G=[oD a,oF<|Ee g,oF<|Fc s,oF<|.tuple<|O.map Ux,oD B,oD C,some y,oF<|Av W,o8,o9]/\W.length<=4/\KnD g (s.as.map Dj) s.es t C (i*15000) J/\t B=oG ((s.as.map Dj).map Gg)/\Pot t a l) (λZ3 a9=>?_) ?_
 ·refine⟨a,l,5,rfl,X,by decide,by decide,λm μ3 hm P3 S3=>⟨by omega,by omega,λpc Y=>?_⟩⟩;have im:=P3.ne Y;have k3:=S3 C _ i6.1.symm i6.2.symm K2.a;have e3:=S3 B _ hpa hpl e2;have yp:C≠pc:=by rintro rfl;rw[k3]at Y;cases Y
  have hbc:B≠pc:=by rintro rfl;rw[e3]at Y;cases Y
  have ag:(Et 0 (m:Int).toNat).length=m:=by rw[Bm];omega
  refine D5 (λj S τ' t=>∃o,∃ws:oA Nat,τ'=[o,oD a,oF<|Ee g]/\S=ws.map Bt/\ws.length=j/\t pc=oG S/\t C=some (.dd J)/\t B=oG ((s.as.map Dj).map Gg)/\Pot t a l) ⟨none,[],rfl,rfl,rfl,Ab,by rw[Ad yp];exact k3,by rw[Ad hbc];exact e3,P3.new Y⟩ (λ_ _ _ _ _=>trivial) ?_ ?_
  ·rintro j x S τ' I W hx ⟨o,ws,rfl,rfl,hn,c4,k4,U,T⟩ hW;have hj:j<m:=by rw[<- ag];exact(F_.mp hx).1
   exact Jd rfl<|Ac (A3 (j:=1) rfl) ⟨a,l,g.le.length,by rw[C_],T,hg.l0,by have:=hg.l3;omega,λv μ5 hv V S5=>⟨S5 pc _ im.1.symm im.2.symm c4,A5<|by rw[C_];omega,hW _ _ _ ⟨_,ws++[v],rfl,by rw[P_];rfl,by rw[R_,hn];rfl,Ab,by rw[Ad yp];exact S5 C _ i6.1.symm i6.2.symm k4,by rw[Ad hbc];exact S5 B _ hpa hpl U,V.other im.1 im.2⟩⟩⟩
  ·rintro S τ' I ⟨o,ws,rfl,rfl,hn,c4,k4,U,T⟩;rw[ag]at hn;exact Ac (Ak c4)<|Ac (Ec _)<|a9 _ _ ⟨ws,rfl,by omega,⟨k4,K2.n,K2.v⟩,U,T⟩
 clear K2 e2 X;rintro G L ⟨W,rfl,hW,K2,e2,X⟩;refine Cr (Ac (A3 (j:=0) rfl) ⟨a,l,g.pl.length,by rw[C_],X,hg.p0,by have:=hg.p3;omega,λp μ3 hp P3 S3=>?_⟩);have K3:KnD g (s.as.map Dj) s.es μ3 C (i*15000) J:=⟨S3 C _ i6.1.symm i6.2.symm K2.a,K2.n,K2.v⟩;have e3:=S3 B _ hpa hpl e2;clear K2 e2 X S3;refine Ay (λG t=>∃ci:Int,G=[oD a,oF<|Ee g,oF<|Fc s,oF<|.tuple<|O.map Ux,oD B,oD C,some y,oF<|Av W,oE (p:Nat),oE ci]/\(ci=-1/\(∀c,¬Ql O s.es W p c)\/∃c:Nat,ci=(c:Nat)/\Ql O s.es W p c/\∀d,Ql O s.es W p d->c<=d)/\Sub μ3 t) (λZ3 a9=>?_) ?_
 ·refine Ac (A3 (j:=2) rfl) ⟨.D<|.tuple<|O.map Ux,O,s.es,W,rfl,bR some<|X_ (f:=Ux) (g:=AV.D) (l:=O),hM,wm,hs.u,hs.e,by omega,λd kvs cf I hd ed hF hL S4=>⟨⟨_,ed,trivial⟩,Ac ed<|Ac (x:=Bu kvs<|.inl (p:Int)) rfl ?_⟩⟩;rw[hF p];cases e:cf p with
  |none=>exact a9 _ _ ⟨-1,rfl,.inl ⟨rfl,(hL p).1 e⟩,S4⟩
  |some c=>exact a9 _ _ ⟨(c:Nat),rfl,.inr ⟨c,rfl,(hL p).2 c e⟩,S4⟩
 rintro G I ⟨ci,rfl,hci,S4⟩;have K4:KnD g (s.as.map Dj) s.es I C (i*15000) J:=⟨S4 _ _ K3.a,K3.n,K3.v⟩;have U:=S4 _ _ e3;have T:Pot I a l:=P3.kp (S4 _)<|S4 _;clear K3 e3 P3 S4;have ask:∀(k:Nat) (N:Nat) (J:oA<|lR×AV) (t:M) (R':AV->M->Prop),k<=4->N<=110000->KnD g (s.as.map Dj) s.es t C N J->t B=oG ((s.as.map Dj).map Gg)->Pot t a l->(∀(b:Bool) Q L,(b=true↔Dh g (SA (s.as.map Dj) s.es) k p W)->KnD g (s.as.map Dj) s.es L C (N+4700) Q->L B=oG ((s.as.map Dj).map Gg)->Pot L a l->R' (.D<|.bool b) L)->DZ [.D<|Ee g,.R B,.D<|Av s.es,.D<|Eo p W,.D<|.int (k:Nat),.R C] t R':=λk N J t R' hk hN K5 e5 V h=>by have hc:=QL hk;refine⟨k,hk,g,s.as.map Dj,s.es,p,W,B,C,N,J,rfl,hg,e5,by rw[C_];exact K_ hs.n<|by decide,λb hb=>?_,hs.u,hs.e,hp,by omega,K5,by omega,λb Q L hb K6 S6=>h b Q L hb (K6.mono<|by omega) (S6 _ _ hbk e5)<|V.kp (λm=>S6 _ m i6.1) λm=>S6 _ m i6.2⟩;obtain⟨c,hc,rfl⟩:=D_.mp hb;exact hs.l c hc
 refine Ay (λG t=>∃J,G=[oD a,oF<|Ee g,oF<|Fc s,oF<|.tuple<|O.map Ux,oD B,oD C,some y,oF<|Av W,oE (p:Nat),oE ci]/\KnD g (s.as.map Dj) s.es t C (i*15000+4700) J/\t B=oG ((s.as.map Dj).map Gg)/\Pot t a l) (λZ3 a9=>?_) ?_
 ·refine Ac (A3 (j:=2) rfl) (ask 0 _ J I _ (by decide) (by omega) K4 U T λb Q μ5 hb K5 e5 V=>?_);have jw:=a9 _ _ ⟨Q,rfl,K5,e5,V⟩;cases b with
  |false=>exact Hr rfl (Hr rfl jw)
  |true=>
   have h0:=hO.z W p<|hb.mp rfl;have hz:ci=0:=hci.elim (λz=>absurd h0<|z.2 0) λ⟨c,e,_,z⟩=>by have:=z 0 h0;omega
   exact Jd rfl ⟨Bn _,Bn _,Hr (by rw[Nh,hz];rfl) jw⟩
 clear K4 U T J;rintro G I ⟨J,rfl,K4,U,T⟩;refine Ay (λG t=>∃J,G=[oD a,oF<|Ee g,oF<|Fc s,oF<|.tuple<|O.map Ux,oD B,oD C,some y,oF<|Av W,oE (p:Nat),oE ci]/\KnD g (s.as.map Dj) s.es t C (i*15000+4700+4700) J/\t B=oG ((s.as.map Dj).map Gg)/\Pot t a l) (λZ3 a9=>?_) ?_
 ·refine Ac (A3 (j:=2) rfl) (ask 4 _ J I _ (by decide) (by omega) K4 U T λb Q μ5 hb K5 e5 V=>?_);have jw:=a9 _ _ ⟨Q,rfl,K5,e5,V⟩;cases b with
  |false=>exact Hr rfl (Hr rfl jw)
  |true=>
   obtain⟨c,h0⟩:=hO.r 4 W p hp<|hb.mp rfl;have hz:0<=ci:=hci.elim (λz=>absurd h0<|z.2 c) λ⟨c,e,_,z⟩=>by omega
   exact Jd rfl<|Hr (aS<|Int.not_lt.mpr hz) jw
 clear K4 U T J;rintro G I ⟨J,rfl,K4,U,T⟩;have fin:∀Q t,KnD g (s.as.map Dj) s.es t C (i*15000+4700+4700+4700) Q->t B=oG ((s.as.map Dj).map Gg)->Pot t a l->Z2 [oD a,oF<|Ee g,oF<|Fc s,oF<|.tuple<|O.map Ux,oD B,oD C,some y,oF<|Av W,oE (p:Nat),oE ci] t:=λQ t K' e' P'=>hZ2 _ _ ⟨_,_,_,_,Q,rfl,K'.mono<|by omega,e',P'⟩;have jw:=fin J I (K4.mono<|by omega) U T;refine dif (λc1=>dif (λc2=>?_) λ_=>jw) λ_=>Hr rfl jw;obtain⟨c,rfl,hc,_⟩:=hci.elim (λz=>absurd z.1<|by omega) id;refine Ac (A3 (j:=2) rfl) (ask c _ J I _ (by omega) (by omega) K4 U T λb Q μ5 hb K5 e5 V=>?_);rw[hb.mpr<|hO.c W p c hp hc];exact Hr rfl<|fin Q μ5 K5 e5 V
abbrev Qbw:oA Str:=["_law_script","_law_deal_here","_law_k","_law_game_here","_law_saying_here","_law_arrows"]
def Iy:FnScope Qbw oR (Ah HR):=B5<|by decide +kernel
def spL:ASp:=λb c R=>∃(ns:oA Int),b=[.D<|Ku ns]/\ns.length<=63/\∀ a,R (.D<|.bool true) a
def IN{n:Nat}{C:lT}(F:Fun K "law" "law" HR f fd) (M:VCal P w K mg base n "_law_deal" oU PD) (G:VCal P w K mg base n "_law_game" oZ QH) (zf:VCal P w K mg base n "_law_saying" qC QI) (z:Ks P w K mg base n "machine" oY 200 C QE) (v:VCal P w K mg base n "_law_right" qG QM) (ah:mg "range" = none) (J:mg "TooMany" = some (.ref C)) (L:ErL K C):FnOk P w K mg base Eh (n+1) f fd oR (Gd K 1 spL):=by
 refine F.vok Iy λaq A N s H E j=>⟨_,(Af (Aq (i:=1) Iy.nd rfl oH<|Am M j rfl<|Aa (vv 0)<|Aa Ag Ae)<|Af (Cf aL rfl (Ch rfl ah<|Aa Ag Ae) (Aj (i:=2) Iy.nd rfl oH)<|Af (Aq (i:=3) Iy.nd rfl oH<|Am G j rfl<|Aa (vv 1) Ae)<|Af (Aq (i:=4) Iy.nd rfl oH<|Am zf j rfl<|Aa (vv 1)<|Aa (vv 3) Ae)<|Af (Aq (i:=5) Iy.nd rfl oH Rf)<|Af (HN (i:=5) z j rfl (λxe pn=>(Aa (vv 3)<|Aa (vv 4) Ae)) (λe=>(Ai<|Aq (i:=5) Iy.nd rfl oH Rf)) rfl J L.xc L.mb L.me rfl rfl Iy.nd rfl rfl)<|Ai<|Ct (Bd NE (vv 5) Rf<|nomark _) (Ai<|Ct (Jy<|Fi<|Am v j rfl<|Aa (vv 1)<|Aa (vv 3)<|Aa (vv 4)<|Aa (vv 5) Ae) (Ai<|Bf E3) Bp) Bp)<|Ai<|Bf E3),?_⟩
 rintro xs μ R _ ⟨ns,rfl,Y,q⟩;refine Cr ⟨ns,0,rfl,by decide,Y,λa l μ1 _ _ T _=>?_⟩;refine Ay (λd b=>True) (λZ hZ=>⟨by decide,by decide,?_⟩) λd b _=>⟨_,Sub.refl,q _⟩;refine C8 (λi d b=>∃O X U W,d=[oF<|Ku ns,oD a,O,X,U,W]/\Pot b a l) ⟨none,none,none,none,rfl,T⟩ (λ_ _ _ _=>trivial) ?_ λd b _=>hZ _ _ trivial;clear T;rintro i y d μ2 Z2 hy ⟨O,X,U,W,rfl,P2⟩ hZ2;refine Cr ⟨a,l,rfl,P2,λg μ3 k P3 _=>?_⟩;refine Cr ⟨a,l,g,rfl,k,P3,λs I V S _=>?_⟩;refine Ay (λd b=>d=[oF<|Ku ns,oD a,some y,oF<|Ee g,oF<|Fc s,oF .none]/\I=b) (λZ3 u=>u _ _ ⟨rfl,rfl⟩) ?_;rintro d _ ⟨rfl,rfl⟩;refine Ay (λd b=>∃c:oB<|oA Ar,d=[oF<|Ku ns,oD a,some y,oF<|Ee g,oF<|Fc s,oF (match c with|none=>.none|some c=>.tuple<|c.map Ux)]/\(∀m,c=some m->m.length<=200/\(∀a∈m,a.ts.length<=5)/\MOk g s.as s.es m)/\Pot b a l) (λZ3 u=>?_) ?_
 ·exact⟨g,s,rfl,⟨k.p3,k.r8,λr j=>let h:=k.ok r j;⟨h.p,h.q,Y_ h.x k.l3,h.w⟩⟩,V,λt o=>u _ _ ⟨none,rfl,nofun,S.kp (o _)<|o _⟩,λc t h1 h2 B o=>u _ _ ⟨some c,rfl,λm e=>by cases e;exact⟨h1,h2,B⟩,S.kp (o _)<|o _⟩⟩
 rintro d t ⟨c,rfl,hM,Q⟩;cases c with
 |none=>exact Hr rfl (hZ2 _ _ ⟨_,_,_,_,rfl,Q⟩)
 |some c=>obtain⟨h1,h2,B⟩:=hM c rfl;exact Jd rfl ⟨a,l,g,s,c,rfl,k,V,h1,h2,B,Q,λμ6 P6=>Hr rfl<|hZ2 _ _ ⟨_,_,_,_,rfl,P6⟩⟩
def Vg(K:lU):Sp:=λc H Q _=>∃(a:lT) (ns:oA Int),c=[.ref a]/\Ff K H a (ns.map V.int)/\Only H/\ns.length<=63/\∀b,Q (.bl true) b
theorem Vh{H:Hp}:∀(ns:oA Int),An K H (ns.map .int) (ns.map V.int)
 |[]=>Ej
 |n::ns=>D3 Df<|Vh ns
def QN{n:Nat}{C:lT}(F:Fun K "law" "law" HR f fd) (g:VCal P w K mg base n "_law_deal" oU PD) (c:VCal P w K mg base n "_law_game" oZ QH) (k:VCal P w K mg base n "_law_saying" qC QI) (d:Ks P w K mg base n "machine" oY 200 C QE) (b:VCal P w K mg base n "_law_right" qG QM) (p:mg "range" = none) (e:mg "TooMany" = some (.ref C)) (r:ErL K C):FnOk P w K mg base Eh (n+1) f fd oR (Vg K):=by
 refine(IN F g c k d b p e r).imp ?_;rintro t H Q E ⟨a,ns,rfl,m,l,i,q⟩;refine⟨[.D<|Ku ns],λ_=>none,λv _=>v=.D (.bool true),rfl,.cons ?_ .nil,(λ_ _ z=>nomatch z),⟨ns,rfl,i,λ_=>rfl⟩,?_⟩
 ·refine MX (xs:=ns.map V.int) ?_<|Vh ns;rcases m with(h|h)|h
  ·rcases l a with z|⟨o,xs,z⟩
   ·rw[z]at h;cases h
   ·rw[z]at h;cases h
  ·exact .inl h
  ·exact .inr h
 ·rintro x s v u _ _ j rfl;cases RelA.bl j;exact q _
def Vi{b:oA lP}(h:b.length=1):∃a,b=[a]:=by obtain⟨a,t,rfl,h2⟩:=Dp h;rw[dQ h2];exact⟨a,rfl⟩
def Qr{c:oA lP}(h:c.length=2):∃b a,c=[b,a]:=by obtain⟨b,t,rfl,h2⟩:=Dp h;obtain⟨a,rfl⟩:=Vi h2;exact⟨b,a,rfl⟩
def Vj{c:oA lP}(h:c.length=3):∃b a a2,c=[b,a,a2]:=by obtain⟨b,t,rfl,h2⟩:=Dp h;obtain⟨a,a2,rfl⟩:=Qr h2;exact⟨b,a,a2,rfl⟩
def Vk{d:oA lP}(h:d.length=4):∃c a a2 b,d=[c,a,a2,b]:=by obtain⟨c,t,rfl,h2⟩:=Dp h;obtain⟨a,a2,b,rfl⟩:=Vj h2;exact⟨c,a,a2,b,rfl⟩
def Vl{e:oA lP}(h:e.length=5):∃d a a2 b c,e=[d,a,a2,b,c]:=by obtain⟨d,t,rfl,h2⟩:=Dp h;obtain⟨a,a2,b,c,rfl⟩:=Vk h2;exact⟨d,a,a2,b,c,rfl⟩
def KK{g:oA lP}(h:g.length=6):∃e a a2 b d c,g=[e,a,a2,b,d,c]:=by obtain⟨e,t,rfl,h2⟩:=Dp h;obtain⟨a,a2,b,d,c,rfl⟩:=Vl h2;exact⟨e,a,a2,b,d,c,rfl⟩
def B0(K:lU)(x:Str)(st:mC):Prop:=∃f fd,PySem.W.nsIn K mainGlobals x=some (some<|.ref f)/\Fun K x x st f fd
def defat(a:PySem.W.nsIn K mainGlobals x=some (some<|.ref f))(l:K.lookup f=some ⟨oc,od,.func<|PySem.W.fnOf x x (Cz st) (Cd st) (Ah st) .none kV bw pm an aq ct,f7⟩)(c:PySem.W.codeIn K aq x=true)(k:PySem.W.keepIn K (.ref f)=true):B0 K x st:=⟨f,_,a,Yq l c k⟩
def B0.cal(d:B0 K x st)(X:K.In h)(G:h.Ns mainGlobals mg)(ok:∀{f fd},Fun K x x st f fd->FnOk P w K mg base Eh n f fd ps (Gd K ps.length sp))(hb:∀(kV bw pm:lP) (an:oB lT) (aq ct:lP) (g:oA lP),g.length=ps.length->bindArgs (PySem.W.fnOf x x (Cz st) (Cd st) (Ah st) .none kV bw pm an aq ct) ⟨g,[]⟩=pure (ps.zip g):=by intro _ _ _ _ _ _ g b;first|(obtain⟨c,rfl⟩:=Vi b;rfl)|(obtain⟨c,e,rfl⟩:=Qr b;rfl)|(obtain⟨c,e,a2,rfl⟩:=Vj b;rfl)|(obtain⟨c,e,a2,i,rfl⟩:=Vk b;rfl)|(obtain⟨c,e,a2,i,j,rfl⟩:=Vl b;rfl)|(obtain⟨c,e,a2,i,j,k,rfl⟩:=KK b;rfl)):VCal P w K mg base n x ps sp :=
 by obtain⟨f,fd,a,F⟩:=d;exact⟨f,fd,ok F,F.binds hb,F.kp,gW X G a⟩
def Vm(K:lU)(x:Str)(st:mC)(v:Int):Prop:=∃f fd T t,PySem.W.nsIn K mainGlobals x=some (some<|.ref f)/\FunD K x x st f fd T/\PySem.W.keepIn K (.ref f)=true/\∃oc od n f7,K.lookup T=some ⟨oc,od,.seq #[.int v t] n,f7⟩
def defad{v:Int}{T:lT}{t:Tok}{m:Nat}{d:lP}{b:oB lT}{e:oC<|oB lP}(a:PySem.W.nsIn K mainGlobals x=some (some<|.ref f))(l:K.lookup f=some ⟨oc,od,.func<|PySem.W.fnOf x x (Cz st) (Cd st) (Ah st) (.ref T) kV bw pm an aq ct,f7⟩)(c:PySem.W.codeIn K aq x=true)(k:PySem.W.keepIn K (.ref f)=true)(g:K.lookup T=some ⟨d,b,.seq #[.int v t] m,e⟩):Vm K x st v:=⟨f,_,T,t,a,⟨_,_,_,_,_,_,_,_,_,rfl,l,c⟩,k,_,_,_,_,g⟩
def Vm.cal{v:Int}{C:lT}{i:Xh}(d:Vm K x st v)(X:K.In h)(G:h.Ns mainGlobals mg)(ok:∀{f fd T},FunD K x x st f fd T->FnOk P w K mg base (MV P w) n f fd ps (BX K C ps.length i))(hb:∀(T:lT) (tk:Tok) (kV bw pm:lP) (an:oB lT) (aq ct:lP) (c:oA lP),c.length+1=ps.length->∃k,bindArgs (PySem.W.fnOf x x (Cz st) (Cd st) (Ah st) (.ref T) kV bw pm an aq ct) ⟨c,[]⟩=seqItems? (.ref T)>>=k/\k (some #[.int v tk])=pure (ps.zip<|c++[.int v tk]):=by intro _ _ _ _ _ _ _ _ c b;first|(obtain⟨e,rfl⟩:=Vi<|h_ b;exact⟨_,rfl,rfl⟩)|(obtain⟨e,g,rfl⟩:=Qr<|h_ b;exact⟨_,rfl,rfl⟩)|(obtain⟨e,g,a2,rfl⟩:=Vj<|h_ b;exact⟨_,rfl,rfl⟩)|(obtain⟨e,g,a2,j,rfl⟩:=Vk<|h_ b;exact⟨_,rfl,rfl⟩)|(obtain⟨e,g,a2,j,m,rfl⟩:=Vl<|h_ b;exact⟨_,rfl,rfl⟩)):Ks P w K mg base n x ps v C i :=
 by obtain⟨f,fd,T,t,a,F,k,_,_,_,_,l⟩:=d;exact⟨f,fd,t,ok F,F.binds l<|hb T t,k,gW X G a⟩
def B0.calR(d:B0 K x st)(X:K.In h)(G:h.Ns mainGlobals mg)(ok:∀{f fd},Fun K x x st f fd->Binds K fd ps []->PySem.W.keepIn K (.ref f)=true->mg x=some (.ref f)->FnOk P w K mg base Eh n f fd ps (Gd K ps.length sp))(hb:∀(kV bw pm:lP) (an:oB lT) (aq ct:lP) (g:oA lP),g.length=ps.length->bindArgs (PySem.W.fnOf x x (Cz st) (Cd st) (Ah st) .none kV bw pm an aq ct) ⟨g,[]⟩=pure (ps.zip g):=by intro _ _ _ _ _ _ g b;first|(obtain⟨c,rfl⟩:=Vi b;rfl)|(obtain⟨c,e,rfl⟩:=Qr b;rfl)|(obtain⟨c,e,a2,rfl⟩:=Vj b;rfl)|(obtain⟨c,e,a2,i,rfl⟩:=Vk b;rfl)|(obtain⟨c,e,a2,i,j,rfl⟩:=Vl b;rfl)|(obtain⟨c,e,a2,i,j,k,rfl⟩:=KK b;rfl)):VCal P w K mg base n x ps sp :=
 by obtain⟨f,fd,a,F⟩:=d;exact⟨f,fd,ok F (F.binds hb) F.kp<|gW X G a,F.binds hb,F.kp,gW X G a⟩
def XAt(K:lU):Prop:=∃C g a,PySem.W.nsIn K mainGlobals "TooMany" = some (some<|.ref C)/\ErL K C/\PySem.W.findIn K (.ref C) "__init__" = some (some<|.ref g)/\PySem.W.isFn K (.ref g)=true/\Fun K "__init__" "TooMany.__init__" Xj g a/\PySem.W.findIn K (.ref C) "most" = some none
def xat{C g:lT}(u:PySem.W.nsIn K mainGlobals "TooMany" = some (some<|.ref C)) (e:BY K C=true) (i:PySem.W.findIn K (.ref C) "__init__" = some (some<|.ref g)) (n:PySem.W.isFn K (.ref g)=true) (l:K.lookup g=some ⟨oc,od,.func<|PySem.W.fnOf "__init__" "TooMany.__init__" (Cz Xj) (Cd Xj) (Ah Xj) .none kV bw pm an aq ct,f7⟩) (c:PySem.W.codeIn K aq "TooMany.__init__" = true) (k:PySem.W.keepIn K (.ref g)=true) (a:PySem.W.findIn K (.ref C) "most" = some none):XAt K:=⟨C,g,_,u,OV e,i,n,Yq l c k,a⟩
end
def all_mk{l:PySem.W.OpenLaw}{w:lW}{K:lU}{h:lZ}{m:Str->oB lP}{fa:lT}(X:K.In h)(G:h.Ns mainGlobals m)(y:m "law" = some (.ref fa))
  {t1:Tok}
  (d1:B0 K "as_bits" sAb)
  (d2:B0 K "as_stands" YH)
  (d3:B0 K "has_within" sHw)
  (d4:B0 K "least_alone" sLa)
  (d5:B0 K "thinned" sTh)
  (d6:B0 K "one_of_any" sOa)
  (d7:B0 K "one_of_each" sOe)
  (d8:B0 K "each_with_each" sEe)
  (d9:B0 K "arrows_by_top" sAt)
  (d10:B0 K "readings_by" UL) (O:Vm K "machine" YI 200)
  (t:B0 K "how_many" YJ)
  (d13:B0 K "as_arrows" YK) (E:B0 K "following" UM) (S:B0 K "rules_by_top" sRt) (D:B0 K "keep_cheapest" UN) (Z:B0 K "not_kept" UO)
  (d18:B0 K "_law_deal" UP)
  (d19:B0 K "_law_draw" sDr) (U:B0 K "_law_names" YL)
  (d21:B0 K "_law_game" OW) (N:B0 K "_law_some" YM)
  (u:B0 K "_law_saying" YN) (V:B0 K "_law_costs" KA)
  (q:B0 K "_law_brings" OX)
  (zr:B0 K "_law_right" UQ) (A:B0 K "law" HR)
  (mh:PySem.W.nsIn K mainGlobals "tuple" = some none)
  (mi:PySem.W.nsIn K mainGlobals "range" = some none)
  (kd:PySem.W.nsIn K mainGlobals "sorted" = some none)
  (xo:PySem.W.nsIn K mainGlobals "set" = some none)
  (vp:PySem.W.nsIn K mainGlobals "max" = some none)
  (ow:PySem.W.nsIn K mainGlobals "list" = some none)
  (v8:PySem.W.nsIn K mainGlobals "len" = some none)
  (w5:PySem.W.nsIn K mainGlobals "sum" = some none)
  (wu:PySem.W.nsIn K mainGlobals "min" = some none)
  (iz:PySem.W.nsIn K mainGlobals "reversed" = some none)
  (qf:PySem.W.nsIn K mainGlobals "dict" = some none)
  (ut:PySem.W.nsIn K mainGlobals "all" = some none)
  (y1:PySem.W.nsIn K mainGlobals "OTHER_HAND" = some (some<|.int 1 t1))
  (dx:XAt K) :
  ∃fd:mD,(∀(s:lQ) (v:lP),BindsTo s fd ⟨[v],[]⟩ [("_law_script",v)])/\∀base:lZ,K.In base->base.Ns mainGlobals m->FnOk l.prog w K m base Eh 65 fa fd oR (Vg K):=by
 have f:=bY X G mh;have d:=bY X G mi;have o:=bY X G kd;have J:=bY X G xo;have r:=bY X G vp;have cy:=bY X G ow;have c:=bY X G v8;have j7:=bY X G w5;have p:=bY X G wu;have be:=bY X G iz;have ir:=bY X G qf;have kf:=bY X G ut;obtain⟨C,gC,gd,ux,j,ix,nx,Fx,ax⟩:=dx;have mx:=gW X G ux;have mOH:=gW X G y1;obtain⟨f0,T,a0,F0⟩:=A;have e:=y.symm.trans<|gW X G a0;cases e;refine⟨T,λs v=>?_,λbase _ _=>?_⟩
 ·obtain⟨_,_,_,_,_,_,_,_,_,rfl,_,_⟩:=F0.ex;exact .of_eq rfl
 have q1:=d1.cal (P:=l.prog) (w:=w) (base:=base) X G λF=>UX (n:=0) F;have q2:=d2.cal (P:=l.prog) (w:=w) (base:=base) X G λF=>UZ (n:=0) F f d;have q3:=d3.cal (P:=l.prog) (w:=w) (base:=base) X G λF=>VF (n:=0) F;have q4:=d4.cal (P:=l.prog) (w:=w) (base:=base) X G λF=>VH (n:=1) F (q3.mono<|by decide) o;have q5:=d5.cal (P:=l.prog) (w:=w) (base:=base) X G λF=>VJ (n:=2) F (q4.mono<|by decide) o J;have q6:=d6.cal (P:=l.prog) (w:=w) (base:=base) X G λF=>VN (n:=3) F (q5.mono<|by decide);have q8:=d8.cal (P:=l.prog) (w:=w) (base:=base) X G λF=>VC (n:=0) F r cy;have q7:=d7.cal (P:=l.prog) (w:=w) (base:=base) X G λF=>VL (n:=3) F (q5.mono<|by decide) (q8.mono<|by decide);have q9:=d9.cal (P:=l.prog) (w:=w) (base:=base) X G λF=>VQ (n:=1) F (q1.mono<|by decide);have q10:=d10.cal (P:=l.prog) (w:=w) (base:=base) X G λF=>WA (n:=4) F (q1.mono<|by decide) (q2.mono<|by decide) (q5.mono<|by decide) (q7.mono<|by decide) c;have q17:=Z.cal (P:=l.prog) (w:=w) (base:=base) X G λF=>WE (n:=1) F (q3.mono<|by decide) c;have Q:=S.cal (P:=l.prog) (w:=w) (base:=base) X G λF=>VU (n:=0) F;have x:=E.cal (P:=l.prog) (w:=w) (base:=base) X G λF=>WC (n:=5) F (Q.mono<|by decide) (q10.mono<|by decide) (q7.mono<|by decide) (q6.mono<|by decide) mOH;have q12:=t.cal (P:=l.prog) (w:=w) (base:=base) X G λF=>WH (n:=0) F j7 c;have z:=D.cal (P:=l.prog) (w:=w) (base:=base) X G λF=>WM (n:=0) F p;have I:=d13.cal (P:=l.prog) (w:=w) (base:=base) X G λF=>WO (n:=1) F (q2.mono<|by decide);have x1:XCal l.prog w K m base 5 "TooMany" C ["most"]:=⟨_,_,_,(OY (n:=0) Fx j.toXCls ax).mono<|by decide,Fx.binds (ps:=oS) λ_ _ _ _ _ _ us hl=>by obtain⟨a0,a1,rfl⟩:=Qr hl;rfl,⟨j.xc,ix,nx,j.kp⟩,mx,j.toXCls.mb⟩;have q11:=O.cal (P:=l.prog) (w:=w) (base:=base) X G λF=>WR (n:=5) F (q9.mono<|by decide) (q4.mono<|by decide) (q17.mono<|by decide) (x.mono<|by decide) (q12.mono<|by decide) (z.mono<|by decide) (I.mono<|by decide) c f o x1;have H:=d18.cal (P:=l.prog) (w:=w) (base:=base) X G λF=>UW (n:=0) F r cy be;have g:=d19.cal (P:=l.prog) (w:=w) (base:=base) X G λF=>UT (n:=0) F c;have Y:=U.cal (P:=l.prog) (w:=w) (base:=base) X G λF=>WU (n:=1) F (g.mono<|by decide) d;have R:=d21.cal (P:=l.prog) (w:=w) (base:=base) X G λF=>XB (n:=2) F (g.mono<|by decide) (Y.mono<|by decide) d c f p;have L:=N.cal (P:=l.prog) (w:=w) (base:=base) X G λF=>XF (n:=1) F (g.mono<|by decide) f d;have M:=u.cal (P:=l.prog) (w:=w) (base:=base) X G λF=>XH (n:=2) F (g.mono<|by decide) (L.mono<|by decide) c d f o J;have i:=V.cal (P:=l.prog) (w:=w) (base:=base) X G λF=>XU (n:=0) F ir o J be kf r p;have B:=q.calR (P:=l.prog) (w:=w) (base:=base) X G λF b k a=>XX (n:=1) F b k a (i.mono<|by decide) c;have q26:=zr.cal (P:=l.prog) (w:=w) (base:=base) X G λF=>YA (n:=7) F (g.mono<|by decide) (i.mono<|by decide) (B.mono<|by decide) d f c;exact(QN (n:=8) F0 (H.mono<|by decide) (R.mono<|by decide) (M.mono<|by decide) (q11.mono<|by decide) (q26.mono<|by decide) d mx j).mono<|by decide
def walk{l:PySem.W.OpenLaw}{q:lV}{j:oA Str}{y:(Str->oB lP)->lZ->Prop}{e:lW->lZ->Prop}{d:DefRec}{K:Params->lU}(hn:l.most=some 63)(o:d.params.defaults=[])
  (v:∀(w:lW) (h:lZ),e w h->(K w.params).In h) (F:∀(w:lW) (c:Str->oB lP) (g:lT) (h:lZ),(K w.params).In h->h.Ns mainGlobals c->c d.name=some (.ref g) ->
   ∃i:mD,(∀(s:lQ) (u:lP),BindsTo s i ⟨[u],[]⟩ [("_law_script",u)])/\∀b:lZ,(K w.params).In b->b.Ns mainGlobals c->FnOk l.prog w (K w.params) c b Eh 65 g i oR (Vg<|K w.params)) :
  PySem.W.WalkO q j y e l.row.toRowW d [] (λf p=>PySem.call f p) :=
 L2.walk_of (n:=63) (k:=65) (x := "_law_script") (CX:=λ_=>Eh) (sp:=λw=>Vg<|K w.params) hn (by decide) o ⟨rfl,by decide,by decide,rfl⟩ v F (λ_ _ a ns m r t=>⟨a,ns,rfl,t,r,m,λ_=>rfl⟩) λ_ _ _ _ _ z=>z
end K27
namespace PySem.W.Fast
def tw4538914398138898291:True:=trivial
def tw4995146032034920517:True:=trivial
def tw2777722731135300494:True:=trivial
def tw1850338203916152581:True:=trivial
def tw1127986162146660070:True:=trivial
def tw12048386051223364948:True:=trivial
def tw16202284978018935374:True:=trivial
def tw7022586414444740302:True:=trivial
def tw16053859700486136513:True:=trivial
def tw5209500132801665980:True:=trivial
def tw291891037601445025:True:=trivial
def tw6669620140047892533:True:=trivial
def tw10609083016734465188:True:=trivial
def tw9377501664276414302:True:=trivial
def tw11751000889153469347:True:=trivial
def tw17861138384764769604:True:=trivial
def tw3130155094508170918:True:=trivial
def tw13048427747467211884:True:=trivial
def tw5477911389311562182:True:=trivial
def tw17185513349200704297:True:=trivial
def tw8546070327929653672:True:=trivial
def tw13953024451516034958:True:=trivial
def tw10138793288027551641:True:=trivial
def tw14257183823134990966:True:=trivial
def tw17739792604356687117:True:=trivial
def tw3876146184859201379:True:=trivial
def tw6062820341580058930:True:=trivial
def tw8532581419979244868:True:=trivial
def tw6996292523715791773:True:=trivial
def tw12493050521831355464:True:=trivial
def tw4540994516315777461:True:=trivial
def tw11151498486482047808:True:=trivial
def tw5926576909931835361:True:=trivial
def tw12593717477257393752:True:=trivial
def tw14734866925468038421:True:=trivial
def tw11225808871967868119:True:=trivial
def tw14041063360367276992:True:=trivial
def tw5282562324944177545:True:=trivial
def tw7327444267812230100:True:=trivial
def tw14610290608853383946:True:=trivial
def tw742686121062662188:True:=trivial
def tw14136329319147521736:True:=trivial
def tw2941495647763645188:True:=trivial
def tw7331438211767802608:True:=trivial
def tw11084708794407587095:True:=trivial
def tw7895793106253890668:True:=trivial
def tw4237120900211636497:True:=trivial
def tw8656966584722800341:True:=trivial
def tw15075374209895497083:True:=trivial
def tw9973857450968552910:True:=trivial
def tw9193784186171350956:True:=trivial
def tw16811426952946136214:True:=trivial
def tw13489535574190642438:True:=trivial
def tw7003226431390631538:True:=trivial
def tw8712679188223974832:True:=trivial
def tw14885105270878651974:True:=trivial
def tw12903222021931844189:True:=trivial
def tw6703909916875340015:True:=trivial
def tw17289588654221509571:True:=trivial
def tw15127104128419993792:True:=trivial
def tw8733112308547355143:True:=trivial
def tw15200862061827626315:True:=trivial
def tw11162370561609582058:True:=trivial
def tw10578058170311432667:True:=trivial
def tw14176440346858583713:True:=trivial
def tw15458830251156178581:True:=trivial
def tw17701879169705241332:True:=trivial
def tw16198105311827409159:True:=trivial
end PySem.W.Fast
open PySem PySem.W PyProof.Rows
set_option maxRecDepth 100000 in
set_option maxHeartbeats 0 in
theorem PySem.Challenge.cw_pileduel_k27_whole_read_just_what_is_bro_holds : PySem.Challenge.rw_pileduel_k27_whole_read_just_what_is_bro.Holds := by
 w_on;o_law;k_head;(case hw=>w_witness2)
 k_fill
 refine K27.walk (l:=PySem.Challenge.rw_pileduel_k27_whole_read_just_what_is_bro) rfl rfl (fun w h Y=>PySem.W.kIn_of Y) ?F
 case F =>
  intro w mg fa h KX G hmg
  refine' K27.all_mk KX G hmg ?_ ?_ ?_ ?_ ?_ ?_ ?_ ?_ ?_ ?_ ?_ ?_ ?_ ?_ ?_ ?_ ?_ ?_ ?_ ?_ ?_ ?_ ?_ ?_ ?_ ?_ ?_ ?_ ?_ ?_ ?_ ?_ ?_ ?_ ?_ ?_ ?_ ?_ ?_ ?_ ?_
  all_goals first | (refine' K27.defat ?a ?l ?c ?k;(case a=>k_is);(case l=>k_is);(case c=>k_is);(case k=>k_is)) | (refine' K27.defad ?a ?l ?c ?k ?l2;(case a=>k_is);(case l=>k_is);(case c=>k_is);(case k=>k_is);(case l2=>k_is)) | (refine' K27.xat ?u ?e ?i ?n ?l ?c ?k ?a;(case u=>k_is);(case e=>kernel_rfl);(case i=>k_is);(case n=>k_is);(case l=>k_is);(case c=>k_is);(case k=>k_is);(case a=>k_is)) | k_is | skip
