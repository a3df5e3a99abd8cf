import PyProof.Rows.All
import Wide.All
import OpenK.AllK
import Wide.FinOn
import Lean
import PyProof.EqAt
import PyProof.EqKinds
import PyProof.TupleCall
import PyProof.CompFree
import PyProof.CompUse
import PyProof.CollectIter
import PyProof.ListNew
import KE.KRevIter
import PyProof.EnumMake
import PyProof.Draws
import PyProof.TupleIter
import PyProof.WalksMore
import PyProof.ReprRoads
import PyProof.P3Eq
import PyProof.NeData
import PyProof.EqLayable
import PyProof.Rows.RegFStrParts
import PyProof.AutoListH
import KE.KItemsList
import KE.KDictList
import PyProof.StrBlockG
import PyProof.StrLawsOcc
import PyProof.StrLawsTight
import PyProof.StrLawsChain
import PyProof.Rows.Range3
import PyProof.MinMaxWalk
import PyProof.WalkInts
import PyProof.ExcClass3
import PyProof.ExcInit
import PyProof.InstStoreFacts
import PyProof.ExcArgsOwn
import KE.KIsAll
import PyProof.RaisesMany
import PyProof.RulesTry
import PyProof.Raises
import PyProof.RulesAs
import PyProof.NsDelKeeps
import PyProof.PassesOwn
import PyProof.Rows.CatchHere
import KE.KSortTup
import PyProof.FactsAll.tuple_2
import PyProof.TupleKey
import PyProof.Rows.RowHeap
import PyProof.SetKind
import PyProof.SetNew
import PyProof.DictIter
import PyProof.CollectWalk
import PyProof.Walks
import PyProof.ZipIter
import KE.KRevSl
import KE.KStateDown
import PyProof.SetRoads
import PyProof.SumWalk
import PyProof.CallStr
import PyProof.FactsAll.tuple_3
import PyProof.StrLawsIn
import PyProof.Rows.RuleM_int
import PyProof.FactsAll.dict_3
import KE.KItemsList
import PyProof.Rows.TupDisplay
import PyProof.FactsAll.dict_itemiterator_1
import PyProof.DictWalks
import PyProof.IsiH_list
import KE.KDictOf
import PySem.Challenge.RW_pileduel_k51_whole_a_set_of_its_own
set_option Elab.async false
set_option linter.all false
set_option compiler.extract_closed false
set_option maxRecDepth 100000
def A_:=@PySem.wpAny_bind
def B_:=@List.length_map
def C_:=@PySem.wpAny_pure
def DD:=@PySem.Heap.get?_push_of_some
def D_:=@List.mem_map
def E_:=@List.getElem?_eq_some_iff
def F_:=@Nat.le_refl
def G_:=@Option.map_eq_some_iff
def H_:=@List.mem_singleton
def I_:=@PySem.Heap.get?_push_size
def J_:=@List.getElem?_eq_getElem
def K_:=@Nat.le_trans
def L_:=@List.getElem?_map
abbrev M_:=@if_neg
def N_:=@List.map_append
def O_:=@PySem.Heap.lt_size
def P_:=@List.length_append
def Q_:=@List.mem_append
def R_:=@Nat.lt_of_lt_of_le
def S_:=@Bool.false_ne_true
abbrev T_:=@if_pos
def U_:=@PyProof.Rows.wpS_bind
def V_:=@PyProof.Rows.wpS_pure
def W_:=@List.mem_of_getElem?
def X_:=@Array.getElem?_toList
def Y_:=@Nat.ne_of_lt
def Z_:=@PySem.wpAny_newObj_type
def aA:=@List.size_toArray
def aB:=@List.mem_cons
def aC:=@Array.getElem?_eq_getElem
def aD:=@List.map_map
def aE:=@List.mem_append_left
def aF:=@PySem.PassesOwn.never
abbrev aG:=@of_decide_eq_true
def aH:=@List.mem_cons_of_mem
def aJ:=@Nat.zero_le
def aK:=@List.take_length
abbrev aL:=@Classical.byContradiction
def aM:=@PySem.Heap.get?_update_self
def aN:=@PySem.wpAny_call_entry
def aO:=@List.take_succ
def aP:=@List.map_cons
abbrev aQ:=@decide_eq_false
def aR:=@Array.length_toList
def aS:=@List.mem_cons_self
def aT:=@List.mem_append_right
def aU:=@PySem.wpAny_callSpecial?_slot
def aV:=@PySem.Heap.SameBut.update
abbrev aW:=@decide_eq_true
def aX:=@List.nodup_append
def aY:=@Bool.and_eq_true
def aZ:=@List.length_cons
def a_:=@List.nodup_nil
def bA:=@Option.some.inj
def bB:=@Nat.le_succ_of_le
def bC:=@List.mem_range
def bD:=@PySem.boot_len
def bE:=@PyProof.Rows.callWith_type1
def bF:=@PySem.Paired.length
def bG:=@PySem.Calls.spliced_cons
def bH:=@PySem.wpAny_setState_of
def bI:=@List.length_take
def bJ:=@List.mem_filter
def bK:=@PySem.wpAny_holding
def bL:=@List.drop_eq_getElem_cons
def bM:=@List.eq_nil_of_length_eq_zero
abbrev bN:=@Ne.symm
abbrev bO:=@congrArg
def bP:=@List.any_eq_true
def bQ:=@Nat.le_add_right
def bR:=@List.length_range
def bS:=@PyProof.Rows.boot_tuple
def bT:=@List.mem_flatMap
def bU:=@List.length_filter_le
abbrev bV:=@decide_eq_true_iff
def bW:=@PySem.W.mg_none_of
def bX:=@PySem.Around.under_plainId
def bY:=@PySem.F.slot_list_append
def bZ:=@PySem.F.type_list_append
def b_:=@PySem.Calls.spliced_nil
def cB:=@List.nodup_cons
def cD:=@PySem.wpAny_mono
def cF:=@PySem.wpAny_Call_Name_kw
def cH:=@List.getElem?_append_right
def cJ:=@PySem.builtinLookup_eq_fast
def cK:=@PySem.wpAny_field
def cL:=@List.append_nil
abbrev cN:=@Exists.elim
def cP:=@Int.toNat_natCast
def cQ:=@PySem.Heap.get?_update_other
def cU:=@Nat.lt_or_ge
def cV:=@Array.getElem?_eq_none
def cW:=@Nat.lt_of_succ_lt
def cX:=@Nat.lt_irrefl
def cY:=@Array.getD_eq_getD_getElem?
def cZ:=@PyProof.Rows.slot_tuple_getitem
def c_:=@PySem.wpAny_specialOf
def dA:=@PySem.wpAny_isInstance
def dB:=@List.all_eq_true
def dC:=@List.getElem?_append_left
def dD:=@Nat.le_of_lt
def dE:=@List.take_of_length_le
def dF:=@PySem.Obj.data_mapFields
def dG:=@PySem.Heap.size_push
def dH:=@PySem.codeAny_builtin
def dI:=@List.lookup_cons
def dJ:=@PySem.wpAny_dictEntries
def dL:=@List.getD_eq_getElem?_getD
def dM:=@PySem.plainId_quiet
def dN:=@PySem.wpAny_attempt
def dO:=@Nat.lt_succ_self
def dP:=@List.exists_mem_of_ne_nil
def dQ:=@Nat.lt_succ_of_lt
def dS:=@List.getElem?_eq_none
def dU:=@PySem.isSubtype_type
def dW:=@PySem.wpAny_fieldsOf
def dX:=@PySem.typeLookup_type
def dY:=@Int.natCast_nonneg
def dZ:=@List.length_drop
def d_:=@List.drop_length
def eB:=@PySem.wpAny_seqItems
def eC:=@PySem.wpAny_rule
def eD:=@PySem.wpAny_pyIter_slot
def eE:=@Nat.le_of_lt_succ
def eF:=@List.getElem_of_mem
def eG:=@Array.toList_append
def eI:=@PySem.wpAny_updateSeq
def eJ:=@Nat.le_succ
def eK:=@PySem.wpAny_of_eq
def eL:=@PySem.wpAny_setField_rec
def eM:=@PySem.wpAny_typeNameOfWhole_itemiter
def eO:=@List.any_cons
def eQ:=@PySem.F.slot_list_extend
def eT:=@PySem.F.type_list_extend
def eU:=@PySem.wpAny_setField
def eV:=@List.mem_of_mem_take
def eX:=@PySem.wpAny_typeNameOfWhole_keyiter
def eY:=@List.take_sublist
def eZ:=@List.append_assoc
def e_:=@Bool.or_eq_true
def fA:=@List.foldl_cons
def fB:=@PySem.wpAny_dictEpoch
def fC:=@PyProof.Rows.wpS_modify
def fD:=@List.map_congr_left
def fE:=@Nat.ne_of_gt
def fF:=@Nat.lt_trans
def fG:=@List.getElem_mem
def fH:=@PySem.tupleKind_room_in1
def fI:=@Nat.lt_of_le_of_lt
def fJ:=@Array.forIn_toList
def fK:=@PySem.Obj.isFreed_of_fields
def fL:=@PySem.wpAny_typeNameOf_itemiter
def fM:=@PySem.wpAny_passesOwn
def fN:=@PySem.wpAny_typeOf
def fO:=@List.mem_of_mem_drop
def fP:=@PyProof.Rows.Reads.keeps
def fQ:=@PySem.wpAny_typeNameOf_keyiter
def fS:=@Int.ofNat.inj
def fU:=@List.filterMap_cons
def fV:=@PySem.mem_of_lookup
def fW:=@PySem.F.plainAttrs_dict
def fX:=@PySem.wpAny_getItem_str_slice
def fY:=@PySem.wpAny_forIn_list
def fZ:=@PyProof.Rows.wpS_mono
def f_:=@PySem.wpAny_typeNameOfWhole_valiter
def gA:=@PySem.Calls.callWith_builtin
def gB:=@Nat.le_of_eq
def gC:=@List.filter_append
def gD:=@Nat.pos_of_ne_zero
def gE:=@PySem.wpAny_isOneOf_itemiter
def gF:=@PyProof.Rows.wpS_forRange
def gG:=@Bool.eq_iff_iff
def gH:=@Int.emod_nonneg
def gI:=@List.sum_cons
def gJ:=@PySem.wpAny_notOrdered_dict
def gK:=@PySem.wpAny_truthy_bool
def gL:=@PySem.wpAny_pyIter_list
def gM:=@List.ext_getElem?
def gN:=@List.drop_zero
def gO:=@PySem.isSubtype_stop
def gP:=@Array.getElem?_eq_some_iff
def gQ:=@List.filter_cons
def gR:=@Int.emod_eq_emod_iff_emod_sub_eq_zero
def gS:=@Nat.succ_le_succ
def gT:=@List.extract_eq_take_drop
def gU:=@List.length_reverse
def gV:=@PySem.F.args_tuple_add_2
def gW:=@PySem.F.slot_dict_itemiterator_iter
def gX:=@PyProof.Rows.boot_sorted
def gY:=@PySem.wpAny_execs_nil
def gZ:=@List.of_mem_zip
def g_:=@PySem.wpAny_ite_split
def hJ:=@PyProof.Rows.assignInOrder_cons
def h_:=@Nat.sub_le
def iA:=@Int.emod_lt_of_pos
def iB:=@Nat.eq_or_lt_of_le
abbrev iC:=@Sum.inl.inj
def iD:=@PySem.F.entry_tuple_add
def iE:=@PySem.wpAny_letGo
def iF:=@PySem.F.slot_tuple_add
def iG:=@List.reverse_cons
def iH:=@Option.isSome_map
def iI:=@PySem.call_meetsIn
def iJ:=@Nat.succ.inj
def iK:=@Nat.le_of_succ_le
def iL:=@PySem.Obj.cls_mapFields
def iM:=@List.pairwise_map
def iN:=@List.pairwise_lt_range
def iO:=@PySem.eqIsQuiet_byValue
def iP:=@List.length_pos_of_mem
def iQ:=@PyProof.Rows.wpS_get
def iR:=@List.length_singleton
def iS:=@PySem.F.slot_dict_get
def iT:=@List.take_append_drop
def iU:=@PySem.wpAny_isOneOf_keyiter
def iV:=@PySem.wpAny_isOneOf_valiter
def iW:=@PyProof.Rows.callWith_builtin1
def iX:=@Nat.not_lt
def iY:=@PySem.SeqAt.eqAt_reads
def iZ:=@PySem.Heap.size_update
def i_:=@Nat.zero_testBit
def jA:=@Nat.not_lt_of_le
abbrev jB:=@decide_eq_decide
def jC:=@List.mem_flatten
def jD:=@PySem.wpAny_handled
def jE:=@List.map_take
def jF:=@PySem.Calls.evalArgs_plain
def jG:=@List.length_dropLast
def jH:=@PySem.Paired.snoc
def jI:=@Int.le_refl
def jJ:=@Array.toList_extract
def jK:=@PySem.post_val_or_str
def jL:=@Nat.not_lt_zero
def jM:=@Nat.min_eq_left
abbrev jN:=@beq_eq_false_iff_ne
def jO:=@Nat.add_le_add_left
def jP:=@Nat.add_sub_cancel'
def jQ:=@List.length_pos_iff
def jR:=@Nat.add_left_cancel
def jS:=@List.flatMap_append
def jT:=@List.filter_sublist
def jU:=@PySem.codeAny_mono
def jV:=@Nat.sub_zero
def jW:=@Nat.succ_pos
def jX:=@List.mem_filterMap
def jY:=@PySem.wpAny_tupleItemsOf
def jZ:=@Nat.eq_zero_or_pos
def j_:=@List.pairwise_cons
def kC:=@PySem.wpAny_runValue
def kD:=@Nat.testBit_or
def kE:=@Nat.add_le_add
def kF:=@PySem.wpAny_throw
def kG:=@Nat.lt_trichotomy
def kH:=@Array.toList_push
def kI:=@PySem.Heap.SameBut.refl
def kJ:=@List.flatten_cons
def kK:=@Bool.false_or
def kL:=@PySem.signature?_of
def kM:=@Nat.add_assoc
def kN:=@List.map_drop
def kO:=@PySem.W.mg_of
def kP:=@PySem.noFill_tuple_add
def kQ:=@Nat.le_of_not_lt
abbrev kS:=@beq_self_eq_true
def kT:=@PySem.entryFor_of_tree
def kU:=@PySem.wpAny_askSetting
def kW:=@PyProof.Rows.wpS_lift
def kX:=@Nat.min_eq_right
def kY:=@PySem.Txt.slice_le
def kZ:=@Nat.sub_self
def k_:=@Nat.sub_lt
def lA:=@PySem.sizeLine_eq
abbrev lB:=@Prod.ext
abbrev lC:=@PySem.Value
abbrev lD:=@PySem.Shared
abbrev lE:=@PySem.PyData
abbrev lF:=@PySem.Addr
abbrev lG:=@PySem.W.Frag
abbrev lH:=@PySem.Program
abbrev lI:=@PySem.World
abbrev lJ:=@PySem.Expr
abbrev lK:=@PySem.Around
abbrev lL:=@PySem.Heap
abbrev lM:=@PySem.Obj
abbrev lN:=@PySem.Stmt
abbrev lO:=@PySem.FuncData
abbrev lP:=@PyProof.Rows.Keyed
abbrev lQ:=@PySem.Scope
abbrev lR:=@PySem.NameKind
abbrev lT:=@PySem.Result
abbrev lU:=@PyProof.Rows.SortSt
abbrev lV:=@PyProof.Rows.SortKind
abbrev oA:=List
abbrev oB:=Option
abbrev oC:=Array
def oH{α:Type}{a:α}{p:Prop}:a=a∨p:=.inl rfl
def oI{α:Type}{a:α}{p:Prop}:p∨a=a:=.inr rfl
abbrev qV{α:Type}(p:PySem.Program)(w:PySem.World):=@PySem.wpAny α<|PySem.model p w
namespace L2
def S9{c:Sort _}{a b:c->Prop}{P:Prop}(h:∃x,a x/\b x)(k:∀x,a x->b x->P):P:=cN h λx y=>k x y.1 y.2
def C1{e d:Sort _}{a b c:e->d->Prop}{P:Prop}(h:∃x y,a x y/\b x y/\c x y)(k:∀x y,a x y->b x y->c x y->P):P:=cN h λx h=>cN h λy h=>k x y h.1 h.2.1 h.2.2
def B1{g e f:Sort _}{a b c d:g->e->f->Prop}{P:Prop}(h:∃x y z,a x y z/\b x y z/\c x y z/\d x y z)(k:∀x y z,a x y z->b x y z->c x y z->d x y z->P):P:=cN h λx h=>cN h λy h=>cN h λz h=>k x y z h.1 h.2.1 h.2.2.1 h.2.2.2
def En{j g i f:Sort _}{a b c d e:j->g->i->f->Prop}{P:Prop}(h:∃x y z u,a x y z u/\b x y z u/\c x y z u/\d x y z u/\e x y z u)(k:∀x y z u,a x y z u->b x y z u->c x y z u->d x y z u->e x y z u->P):P:=cN h λx h=>cN h λy h=>cN h λz h=>cN h λu h=>k x y z u h.1 h.2.1 h.2.2.1 h.2.2.2.1 h.2.2.2.2
def UM{l i j g:Sort _}{a b c d e f:l->i->j->g->Prop}{P:Prop}(h:∃x y z u,a x y z u/\b x y z u/\c x y z u/\d x y z u/\e x y z u/\f x y z u)(k:∀x y z u,a x y z u->b x y z u->c x y z u->d x y z u->e x y z u->f x y z u->P):P:=cN h λx h=>cN h λy h=>cN h λz h=>cN h λu h=>k x y z u h.1 h.2.1 h.2.2.1 h.2.2.2.1 h.2.2.2.2.1 h.2.2.2.2.2
def F4{l g i f j e:Sort _}{a b c d:l->g->i->f->j->e->Prop}{P:Prop}(h:∃x y z u v w,a x y z u v w/\b x y z u v w/\c x y z u v w/\d x y z u v w)(k:∀x y z u v w,a x y z u v w->b x y z u v w->c x y z u v w->d x y z u v w->P):P:=cN h λx h=>cN h λy h=>cN h λz h=>cN h λu h=>cN h λv h=>cN h λw h=>k x y z u v w h.1 h.2.1 h.2.2.1 h.2.2.2
open PySem PySem.Spec PyProof.Rows
abbrev Key:=Sum Int Str
def Ke:Key->lC->Bool
 |.inl k,v=>Value.isInt k v
 |.inr x,v=>Value.isStrOf x v
def GU(w:lI):Key->Int
 |.inl k=>hashInt k
 |.inr x=>hashStr w x
def keyIs_shape:∀{k:Key} {v:lC},Ke k v=true->(∃i t,k=Sum.inl i/\v=Value.int i t)\/(∃x t,k=Sum.inr x/\v=Value.str x t)
 |.inl i,v,h=>by obtain⟨t,e⟩:=Value.isInt_shape (k:=i) (v:=v) h;exact .inl ⟨i,t,rfl,e⟩
 |.inr x,v,h=>by obtain⟨t,e⟩:=Value.isStrOf_shape (x:=x) (v:=v) h;exact .inr ⟨x,t,rfl,e⟩
def Ta(i:Int)(t:Tok):Ke (.inl i) (.int i t)=true:=by simp[Ke,Value.isInt]
def Tb(x:Str)(t:Tok):Ke (.inr x) (.str x t)=true:=by simp[Ke,Value.isStrOf]
def GV(a b:Int):decide ((Sum.inl a:Key)=Sum.inl b)=(a==b):=by by_cases e:a=b;subst e;simp;have h:¬(Sum.inl a:Key)=Sum.inl b:=λq=>e<|iC q;rw[aQ h];exact(jN.mpr e).symm
def GW(a b:Str):decide ((Sum.inr a:Key)=Sum.inr b)=decide (a=b):=by by_cases e:a=b;subst e;simp;have h:¬(Sum.inr a:Key)=Sum.inr b:=λq=>e<|Sum.inr.inj q;rw[aQ h,aQ e]
def GX(a:Int)(b:Str):decide ((Sum.inl a:Key)=Sum.inr b)=false:=aQ λq=>nomatch q
def GY(a:Str)(b:Int):decide ((Sum.inr a:Key)=Sum.inl b)=false:=aQ λq=>nomatch q
def Bf(prog:lH)(w:lI):PySem.KeyKind prog w Key where
 is:=Ke
 hash:=GU w
 inj:=λv a b ha hb=>by rcases keyIs_shape ha with⟨i,t,rfl,rfl⟩|⟨x,t,rfl,rfl⟩;rcases keyIs_shape hb with⟨j,u,rfl,e⟩|⟨y,u,rfl,e⟩;injection e with e1 _;rw[e1];exact nomatch e;rcases keyIs_shape hb with⟨j,u,rfl,e⟩|⟨y,u,rfl,e⟩;exact nomatch e;injection e with e1 _;rw[e1]
 byValue:=λk v h=>by rcases keyIs_shape h with⟨i,t,rfl,rfl⟩|⟨x,t,rfl,rfl⟩<;>rfl
 pyHash:=λhv h=>by rcases keyIs_shape hv with⟨i,t,rfl,rfl⟩|⟨x,t,rfl,rfl⟩;exact wpAny_pyHash_int h;exact wpAny_pyHash_str h
 eqBool:=λhu hv h=>by rcases keyIs_shape hu with⟨i,t,rfl,rfl⟩|⟨x,t,rfl,rfl⟩;rcases keyIs_shape hv with⟨j,u,rfl,rfl⟩|⟨y,u,rfl,rfl⟩;rw[GV]at h;exact wpAny_eqBool_int h;rw[GX]at h;exact SeqAt.EqAt.int_str i t y u _ _ _ _ h;rcases keyIs_shape hv with⟨j,u,rfl,rfl⟩|⟨y,u,rfl,rfl⟩;rw[GY]at h;exact SeqAt.EqAt.str_int x t j u _ _ _ _ h;rw[GW]at h;exact wpAny_eqBool_str h
 «strs»:=λk x t v h=>by rcases keyIs_shape h with⟨i,u,rfl,e⟩|⟨y,u,rfl,e⟩;exact nomatch e;injection e with e1 _;subst e1;cases v<;>rfl
def Ff(prog:lH)(w:lI)(i:Int)(t:Tok):(Bf prog w).is (.inl i) (.int i t)=true:=Ta i t
def Fg(prog:lH)(w:lI)(x:Str)(t:Tok):(Bf prog w).is (.inr x) (.str x t)=true:=Tb x t
end L2
namespace L2
open PySem PySem.Spec PyProof.Rows
inductive V where
 |non|bl (b:Bool)|int (i:Int)|str (x:Str)|byt (b:oC UInt8)|flt (b:UInt64)|ref (a:lF)|ty (n:String)
 deriving DecidableEq
def Ba:V->lC->Prop
 |.non,u=>u=Value.none
 |.bl b,u=>u=Value.bool b
 |.int i,u=>∃t,u=Value.int i t
 |.str x,u=>∃t,u=Value.str x t
 |.byt b,u=>∃t,u=Value.bytes b t
 |.flt b,u=>∃t,u=Value.float b t
 |.ref a,u=>u=Value.ref a
 |.ty n,u=>u=Value.type n
abbrev Vals:oA V->oA lC->Prop:=Paired Ba
def Vals.length{xs:oA V}{a:oA lC}(r:Vals xs a):xs.length=a.length:=bF r
theorem Vals.get:∀{xs:oA V} {a:oA lC} {i:Nat} {x:V},Vals xs a->xs[i]?=some x->∃u,a[i]?=some u/\Ba x u
 |_,_,_,_,.nil,e=>by simp at e
 |_,_,0,_,.cons r _,e=>by simp at e;subst e;exact⟨_,rfl,r⟩
 |_,_,i+1,x,.cons _ t,e=>by obtain⟨u,h1,h2⟩:=Vals.get (i:=i) (x:=x) t (by simpa using e);exact⟨u,by simpa using h1,h2⟩
theorem Vals.append:∀{xs ys:oA V} {b a:oA lC},Vals xs b->Vals ys a->Vals (xs++ys) (b++a)
 |_,_,_,_,.nil,s=>s
 |_,_,_,_,.cons r t,s=>.cons r<|Vals.append t s
theorem Vals.take:∀{xs:oA V} {a:oA lC} (n:Nat),Vals xs a->Vals (xs.take n) (a.take n)
 |_,_,0,_=>.nil
 |_,_,_+1,.nil=>.nil
 |_,_,n+1,.cons r t=>.cons r<|Vals.take n t
theorem Vals.drop:∀{xs:oA V} {a:oA lC} (n:Nat),Vals xs a->Vals (xs.drop n) (a.drop n)
 |_,_,0,r=>r
 |_,_,_+1,.nil=>.nil
 |_,_,n+1,.cons _ t=>Vals.drop n t
def Hi:oB V->oB lC->Prop
 |some v,some u=>Ba v u
 |none,none=>True
 |_,_=>False
def KV{a:Type}:oA (a×V)->oA (a×lC)->Prop:=Paired λ(p:a×V) (q:a×lC)=>p.1=q.1/\Ba p.2 q.2
def kV:Key->V
 |.inl i=>.int i
 |.inr x=>.str x
mutual
def Bb(w:lI):lE->Int
 |.int i=>GU w (.inl i)
 |.str x=>GU w (.inr x)
 |.tuple a=>reduceHash (Builtin.Tuple.tupleHashOf<|Df w a)
 |_=>0
def Df(w:lI):oA lE->oA Int
 |[]=>[]
 |d::a=>Bb w d::Df w a
end
def UN(w:lI)(x:lE×lF×lC):DictEntry:=⟨Bb w x.1,.ref x.2.1,x.2.2⟩
def UO(w:lI)(h:lL)(a:lF)(xs:oA<|lE×lF×lC):Prop :=
 ∃o b c,h.get? a=some o/\o.ExactDict/\o.data=.dict b c/\b.toList=xs.map (UN w)/\(xs.map (·.1)).Nodup/\(a==sysModules)=false/\xs.length<=sizeLine
inductive HO where
 |lst (xs:oA V)
 |tup (xs:oA V)
 |dK (kvs:oA<|Key×V)|dT (kvs:oA<|oA Key×V)
 |set (S:Int->Bool) (n:Nat)
 |ins (C dx:lF) (fs:oA<|Str×V)
 |own (x:lF)
 |xd (fs:oA<|Str×V)
 |met (f x:lF)
 |rng (lo hi:Int)
 |frz (o:lM) (u:HO)
 |tbl (ps:oC lC)
 |ext (φ:lL->Prop)
 |dd (xs:oA<|lE×lF×lC)
abbrev Hp:=lF->oB HO
def upd(H:Hp)(a:lF)(o:HO):Hp:=λb=>if b=a then some o else H b
def Bi{H:Hp}{a:lF}{o:HO}:upd H a o a=some o:=by unfold upd;rw[T_ rfl]
def Aq{H:Hp}{a b:lF}{o:HO}(h:b≠a):upd H a o b=H b:=by unfold upd;rw[M_ h]
def Mq{H:Hp}{a b:lF}{o u:HO}(h:H a=some o)(h':H b=some u)(d:o≠u):a≠b:=by intro e;subst e;rw[h]at h';exact d<|bA h'
def Bv{H:Hp}{a b:lF}{o:HO}(h:H a=some o)(h':H b=none):a≠b:=by intro e;subst e;rw[h]at h';cases h'
section
variable(P:lH)(w:lI)
def Bp(H:Hp)(h:lL)(a:lF):HO->Prop
 |.lst b=>b.length<=sizeLine/\∃(e:oA lC) (n:Nat),Vals b e/\h.get? a=some {cls:=.type "list",data:=.seq e.toArray n}
 |.tup b=>b.length<=sizeLine/\∃e:oA lC,Vals b e/\IsTup h a e.toArray
 |.dK c=>c.length<=sizeLine/\(a==sysModules)=false/\∃l,KV c l/\h.DictOf (Bf P w) a l
 |.dT c=>c.length<=sizeLine/\(a==sysModules)=false/\∃b:oA<|oA Key×lF×lC,
   Paired (λ(p:oA Key×V) (q:oA Key×lF×lC)=>p.1=q.1/\H q.2.1=some (.tup<|p.1.map kV)/\Ba p.2 q.2.2) c b /\
   ∃o k m,h.get? a=some o/\o.ExactDict/\o.data=.dict k m/\k.toList=b.map (entryOfKey<|tupleKind<|Bf P w)/\(b.map (·.1)).Nodup
 |.set S n=>h.SetOf (intKind P w) a S n
 |.ins C i g=>H i=some (.own a)/\g.length<=1000/\i≠a/\h.get? a=some (PySem.W.instObj C i) /\
   ∃d,h.Ns1 i d/\(∀f,Hi (g.lookup f)<|d f)/\PySem.Within d (g.map (·.1))
 |.own _=>∃o,h.get? a=some o
 |.xd g=>∃d,h.Ns1 a d/\∀f,Hi (g.lookup f) (d f)
 |.rng lo hi=>∃t u v,h.get? a=some {cls:=.type "range",data:=.fields #[.int lo t,.int hi u,.int 1 v]}
 |.frz o u=>h.get? a=some o/\Bp H h a u
 |.tbl r=>h.get? a=some {cls:=.none,data:=.fields r}
 |.met f x=>h.get? a=some (PySem.W.methodObj (.ref f)<|.ref x)
 |.ext j=>j h/\(∃o,h.get? a=some o)/\∀h1 h2:lL,j h1->(∀o,h1.get? a=some o->h2.get? a=some o)->j h2
 |.dd b=>UO w h a b
def HOk(H:Hp)(h:lL):Prop:=∀a o,H a=some o->Bp P w H h a o
end
section
variable {P:lH}{w:lI}{H H':Hp}{h h':lL}{a:lF}{o:HO}{x e:lF}{o':HO}{fs fs' ex ex':oA lF}{H1 H2:Hp}{h1 h2:lL}
theorem Bp.lt(x:Bp P w H h a o):a<h.objs.size:=by
 cases o with
 |lst c=>obtain⟨_,_,_,_,e⟩:=x;exact O_ e
 |tup c=>obtain⟨_,_,_,p⟩:=x;exact p.lt
 |dK b=>obtain⟨_,_,_,_,o,_,_,e,_⟩:=x;exact O_ e
 |dT b=>obtain⟨_,_,_,_,o,_,_,e,_⟩:=x;exact O_ e
 |set S n=>obtain⟨o,_,_,_,e,_⟩:=x;exact O_ e
 |ins C d fs=>obtain⟨_,_,_,e,_⟩:=x;exact O_ e
 |own y=>obtain⟨_,e⟩:=x;exact O_ e
 |xd fs=>obtain⟨_,⟨_,_,_,e,_⟩,_⟩:=x;exact O_ e
 |rng lo hi=>obtain⟨_,_,_,e⟩:=x;exact O_ e
 |frz i u=>obtain⟨e,_⟩:=x;exact O_ e
 |tbl j=>exact O_ (show h.get? a=some _ from x)
 |met f y=>exact O_ (show h.get? a=some _ from x)
 |ext g=>obtain⟨_,⟨_,e⟩,_⟩:=x;exact O_ e
 |dd c=>obtain⟨_,_,_,e,_⟩:=x;exact O_ e
theorem Paired.mapP{i g:Type}{F G:i->g->Prop}:∀{d:oA i} {c:oA g},Paired F d c->(∀a b,F a b->G a b)->Paired G d c
 |_,_,.nil,_=>.nil
 |_,_,.cons r t,f=>.cons (f _ _ r)<|Paired.mapP t f
def Bp.stay(x:Bp P w H h a o)(k:∀b u,(b=a\/H b=some (.own a))->h.get? b=some u->h'.get? b=some u) (E:∀b,H b=some (.own a)->H' b=some (.own a)) (G:∀b l,H b=some (.tup l)->H' b=some (.tup l)):Bp P w H' h' a o:=by
 induction o with
 |lst l=>obtain⟨z,m,n,r,e⟩:=x;exact⟨z,m,n,r,k _ _ (.inl rfl) e⟩
 |tup l=>obtain⟨z,m,r,j,e,c⟩:=x;exact⟨z,m,r,j,k _ _ (.inl rfl) e,c⟩
 |dK s=>obtain⟨z,y,F,r,j,g,i,e,c⟩:=x;exact⟨z,y,F,r,j,g,i,k _ _ (.inl rfl) e,c⟩
 |dT s=>obtain⟨z,y,l,r,j,g,i,e,c⟩:=x;exact⟨z,y,l,Paired.mapP r λp q z=>⟨z.1,G _ _ z.2.1,z.2.2⟩,j,g,i,k _ _ (.inl rfl) e,c⟩
 |set S n=>obtain⟨j,g,i,t,e,c⟩:=x;exact⟨j,g,i,t,k _ _ (.inl rfl) e,c⟩
 |ins C L fs=>obtain⟨d,z,ne,e,A,⟨B,g,i,J,c⟩,r⟩:=x;exact⟨E _ d,z,ne,k _ _ (.inl rfl) e,A,⟨B,g,i,k _ _ (.inr d) J,c⟩,r⟩
 |own y=>obtain⟨j,e⟩:=x;exact⟨j,k _ _ (.inl rfl) e⟩
 |xd fs=>obtain⟨A,⟨B,g,i,e,c⟩,r⟩:=x;exact⟨A,⟨B,g,i,k _ _ (.inl rfl) e,c⟩,r⟩
 |rng lo hi=>obtain⟨t,u,v,e⟩:=x;exact⟨t,u,v,k _ _ (.inl rfl) e⟩
 |frz j u I=>obtain⟨e,q⟩:=x;exact⟨k _ _ (.inl rfl) e,I q⟩
 |tbl D=>have e:h.get? a=some {cls:=.none,data:=.fields D}:=x;show h'.get? a=some {cls:=.none,data:=.fields D};exact k a _ (.inl rfl) e
 |met f y=>have e:h.get? a=some (PySem.W.methodObj (.ref f)<|.ref y):=x;show h'.get? a=some (PySem.W.methodObj (.ref f)<|.ref y);exact k a _ (.inl rfl) e
 |ext M=>obtain⟨p,⟨o,e⟩,st⟩:=x;exact⟨st _ _ p λo q=>k _ _ (.inl rfl) q,⟨o,k _ _ (.inl rfl) e⟩,st⟩
 |dd l=>obtain⟨o,g,i,e,c⟩:=x;exact⟨o,g,i,k _ _ (.inl rfl) e,c⟩
theorem HOk.lt(x:HOk P w H h)(e:H a=some o):a<h.objs.size:=(x a o e).lt
def HOk.fresh(x:HOk P w H h)(e:h.objs.size<=a):H a=none:=by
 cases q:H a with
 |none=>rfl
 |some u=>exact absurd (R_ (x.lt q) e)<|cX _
def HOk.kept(x:HOk P w H h)(k:∀b u,h.get? b=some u->h'.get? b=some u):HOk P w H h':=λa o e=>
 (x a o e).stay (λb u _ q=>k b u q) (λ_ q=>q) λ_ _ q=>q
def HOk.laid(x:HOk P w H h)(k:∀b u,h.get? b=some u->h'.get? b=some u)(hp:h.objs.size<=a)(d:Bp P w (upd H a o) h' a o):HOk P w (upd H a o) h':=λb u e=>by have f:=x.fresh hp;by_cases hb:b=a;subst hb;rw[Bi]at e;cases e;exact d;rw[Aq hb]at e;exact(x b u e).stay (λc v _ q=>k c v q) (λc q=>by rw[Aq<|Bv q f];exact q) λc g q=>by rw[Aq<|Bv q f];exact q
def Rd(H:Hp)(a:lF)(u:HO):Prop:=H a=some u\/∃o,H a=some (.frz o u)
def Rd.ok{P:lH}{w:lI}{H:Hp}{h:lL}{a:lF}{u:HO}(r:Rd H a u)(x:HOk P w H h):Bp P w H h a u:=by rcases r with r|⟨o,r⟩;exact x a u r;obtain⟨_,q⟩:=x a _ r;exact q
def Mut:oB HO->Prop
 |some (.lst _)=>True
 |some (.dK _)=>True
 |some (.dT _)=>True
 |some (.set _ _)=>True
 |some (.ins _ _ _)=>True
 |some (.ext _)=>True
 |some (.dd _)=>True
 |_=>False
def HOk.write(ok:HOk P w H h)(g:Mut<|H x)(he:e=x\/H e=some (.own x))(k:∀b u,b≠e->h.get? b=some u->h'.get? b=some u)(n:∃u,h'.get? e=some u)
  (i:Bp P w (upd H x o') h' x o'):HOk P w (upd H x o') h':=λb u q=>by
 have j:∀c y,H c=some (.own y)->c≠x:=λc y r z=>by subst z;rw[r]at g;exact g
 have m:∀c f,H c=some (.tup f)->c≠x:=λc f r z=>by subst z;rw[r]at g;exact g
 by_cases hb:b=x;subst hb;rw[Bi]at q;cases q;exact i;rw[Aq hb]at q;by_cases d:b=e;have l:H b=some (.own x):=by rcases he with z|z;exact absurd (d.trans z) hb;rw[d];exact z
 rw[q]at l;cases l;obtain⟨v,hv⟩:=n;exact⟨v,by rw[d];exact hv⟩;refine(ok b u q).stay (λc v hc r=>k c v ?_ r) (λc r=>by rw[Aq<|j c b r];exact r) λc f r=>by rw[Aq<|m c f r];exact r
 rcases hc with rfl|hc;exact d;rintro rfl;rcases he with z|z;exact j c b hc z;rw[hc]at z;cases z;exact hb rfl
structure Un(fs ex:oA lF)(H H':Hp)(h h':lL):Prop where
 keep:∀b o,h.get? b=some o->H b=none->b∉fs->b∉ex->h'.get? b=some o
 slot:∀b o,h.get? b=some o->H b=none->b∈fs->b∉ex->∃sl,h'.get? b=some {o with slots:=sl}
 free:∀b o,h.get? b=some o->H b=none->b∉ex->H' b=none
 there:∀b o,h.get? b=some o->b∉ex->∃o',h'.get? b=some o'
 tups:∀b xs,H b=some (.tup xs)->H' b=some (.tup xs)
 frzs:∀b o u,H b=some (.frz o u)->H' b=some (.frz o u)
 tbls:∀b ps,H b=some (.tbl ps)->∃more,H' b=some (.tbl<|ps++more)
def Un.any(u:Un fs ex H H1 h h1){b:lF}{c:lM}(q:h.get? b=some c)(n:H b=none)(hx:b∉ex):∃d,h1.get? b=some {c with slots:=d}:=by by_cases hb:b∈fs;exact u.slot b c q n hb hx;exact⟨c.slots,u.keep b c q n hb hx⟩
def Un.kept(k:∀b u,h.get? b=some u->h'.get? b=some u):Un fs ex H H h h' :=
 ⟨λb c q _ _ _=>k b c q,λb c q _ _ _=>⟨c.slots,k b c q⟩,λ_ _ _ n _=>n,λb c q _=>⟨c,k b c q⟩,λ_ _ q=>q,λ_ _ _ q=>q,λ_ d q=>⟨#[],by rw[q];simp⟩⟩
def Un.refl:Un fs ex H H h h:=Un.kept λ_ _ q=>q
def Un.laid(k:∀b u,h.get? b=some u->h'.get? b=some u)(hp:h.objs.size<=a)(hn:H a=none):Un fs ex H (upd H a o) h h' where
 keep:=λb u q _ _ _=>k b u q
 slot:=λb u q _ _ _=>⟨u.slots,k b u q⟩
 free:=λb u q n _=>by rw[Aq<|Y_<|R_ (O_ q) hp];exact n
 there:=λb u q _=>⟨u,k b u q⟩
 tups:=λb c q=>by rw[Aq<|Bv q hn];exact q
 frzs:=λb u c q=>by rw[Aq<|Bv q hn];exact q
 tbls:=λb d q=>⟨#[],by rw[Aq<|Bv q hn,q];simp⟩
def Un.write(d:Mut<|H x)(he:e=x\/H e=some (.own x))(k:∀b u,b≠e->h.get? b=some u->h'.get? b=some u)(j:∃u,h'.get? e=some u):Un fs ex H (upd H x o) h h':=by
 have hx:∀b,H b=none->b≠x:=λb n z=>by subst z;rw[n]at d;exact d
 have hb:∀b,H b=none->b≠e:=λb n z=>by subst z;rcases he with r|r;exact hx b n r;rw[n]at r;cases r
 have f:∀b u,H b=some u->¬Mut (some u)->b≠x:=λb u q i z=>by subst z;rw[q]at d;exact i d
 refine⟨λb u q n _ _=>k b u (hb b n) q,λb u q n _ _=>⟨u.slots,k b u (hb b n) q⟩,λb u q n _=>by rw[Aq<|hx b n];exact n,λb u q _=>?_,
  λb g q=>by rw[Aq<|f b _ q λz=>z];exact q,λb u g q=>by rw[Aq<|f b _ q λz=>z];exact q,λb l q=>⟨#[],by rw[Aq<|f b _ q λz=>z,q];simp⟩⟩
 by_cases c:b=e;subst c;exact j;exact⟨u,k b u c q⟩
end
def trk(h:lL)(H:Hp):oA lF:=(List.range h.objs.size).filter λa=>(H a).isSome
def Lf(h:lL)(H:Hp):lL:=PySem.W.hideAll h<|trk h H
def Tc(h:lL)(H:Hp):(Lf h H).objs.size=h.objs.size:=PySem.W.hideAll_size _ _
def Vm{h:lL}{H:Hp}{b:lF}{o:lM}(e:h.get? b=some o)(n:H b=none):(Lf h H).get? b=some o :=
 PySem.W.hideAll_get _ e λa=>by have q:(H b).isSome=true:=(bJ.mp a).2;rw[n]at q;simp at q
def AN{h:lL}{H:Hp}{b:lF}{o:lM}(e:(Lf h H).get? b=some o):h.get? b=some o/\H b=none:=by
 have a:h.get? b=some o:=PySem.W.of_hideAll (trk h H) e;refine⟨a,?_⟩;cases q:H b with
 |none=>rfl
 |some x=>have c:b∈trk h H:=bJ.mpr ⟨bC.mpr<|O_ a,by simp[q]⟩;have z:(Lf h H).get? b=none:=PySem.W.hideAll_none (trk h H) c;rw[z]at e;cases e
def AQ(g h:lL)(L:lF):oA (lF×lM):=(List.range h.objs.size).filterMap λa=>if a=L\/(g.get? a).isSome=true then none else(h.get? a).map λo=>(a,o)
def rest(g h:lL)(L d:lF):oA (lF×lM):=(AQ g h L).filter λp=>decide (p.1≠d)
structure Mod(K:lG)(mg:Str->oB lC)(base:lL):Prop where
 kin:K.In base
 glob:base.Ns mainGlobals mg
 blt:∃mb,base.Ns builtinsNs mb/\∀x:Str,x ≠ "__name__" -> mb x=bootBuiltins x
 nolimit:base.NoLimit
structure Cx where
 prog:lH
 w:lI
 K:lG
 mg:Str->oB lC
 base:lL
 A:lK
 N:oA Str
 s₀:lD
 H₀:Hp
 env:Env
 outer:oA Env
 stack:oA Env
 ex:oA lF
 fn:Str->Bool
 calm:Bool
 pn:oA (lF×lM)
 xe:lC->lD->Prop
def frs(l:oA Env):oA lF:=l.filterMap (·.frame)
abbrev Cx.fs(X:Cx):oA lF:=frs X.outer
def Vis(sc:lQ)(x:Str):Prop:=sc.names.lookup x=some .local\/sc.names.lookup x=some .cell\/sc.names.lookup x=some .free
def Loc(sc:lQ)(x:Str):Prop:=sc.names.lookup x=some .local\/sc.names.lookup x=some .cell
def Look(env:Env)(h:lL)(m:Str->oB lC)(x:Str)(u:lC):Prop :=
 (env.kindOf x=some .local/\m x=some u)\/((env.kindOf x=some .cell\/env.kindOf x=some .free)/\∃c,env.cells.lookup x=some c/\h.IsCell c (some u))
structure Cx.Ok(X:Cx):Prop where
 mod:Mod X.K X.mg X.base
 kind:X.env.scope.kind=.function
 glob:X.env.globals=mainGlobals
 blt:X.env.builtins=builtinsNs
 above:X.s₀.heap.objs.size<=X.env.locals
 inj:∀x y c,X.env.cells.lookup x=some c->X.env.cells.lookup y=some c->x=y
 has:∀x,(X.env.kindOf x=some .cell\/X.env.kindOf x=some .free)->∃c,X.env.cells.lookup x=some c
 cab:∀x c,X.fn x=true->X.env.cells.lookup x=some c->X.s₀.heap.objs.size<=c
 hd:X.calm=true->X.A.handled=none
 frames:X.A.frames=some X.stack
 stk:X.stack=X.outer\/(X.stack=X.env::X.outer/\X.env.frame=some X.env.locals)
 exf:∀b∈X.ex,b≠X.env.locals/\∀x c,X.env.cells.lookup x=some c->c≠b
 bs:∀b o,X.base.get? b=some o->X.s₀.heap.get? b=some o/\X.H₀ b=none
 bsz:X.base.objs.size<=X.s₀.heap.objs.size
 noex:∀b o,X.base.get? b=some o->b∉X.ex
 exfs:∀b∈X.ex,b∉X.fs
 funs:X.s₀.heap.FunFrames X.base X.outer
 frf:∀b∈X.fs,X.H₀ b=none
structure Inv(X:Cx)(aa:oA<|lF×lM)(σ:oA<|oB V)(H:Hp)(s:lD):Prop where
 ok:X.Ok
 os:s.os=X.s₀.os
 bare:AllBare s.gens
 base:Un X.fs X.ex X.H₀ H X.s₀.heap s.heap
 loc:∃m,s.heap.Ns X.env.locals m/\∀(i:Nat) (x:Str) (v:V),X.N[i]?=some x->σ[i]?=some (some v)->Vis X.env.scope x->∃u,Ba v u/\Look X.env s.heap m x u
 cell:∀x c,X.env.cells.lookup x=some c->∃v,s.heap.IsCell c v
 free:H X.env.locals=none
 freeC:∀x c,X.env.cells.lookup x=some c->H c=none
 pin:∀p∈X.pn++aa,s.heap.get? p.1=some p.2/\H p.1=none/\p.1≠X.env.locals/\p.1∉X.fs/\∀v,p.2.data≠.cell v
 hok:HOk X.prog X.w H s.heap
 len:σ.length=X.N.length
section
variable {X:Cx}{aa:oA<|lF×lM}{σ:oA<|oB V}{H H':Hp}{s:lD}{h':lL}{a b:lJ}{ta tb:TE}{pos:Pos}{tA j2:TT}{rest:oA lJ}
def Cx.Ok.nofr(ok:X.Ok){b:lF}{o:lM}(e:X.base.get? b=some o):b∉X.fs:=λhb=>by have:=(ok.funs.mem hb).1;rw[e]at this;cases this
def Inv.bs(I:Inv X aa σ H s):∀b o,X.base.get? b=some o->s.heap.get? b=some o/\H b=none:=λb o e=>
 ⟨I.base.keep b o (I.ok.bs b o e).1 (I.ok.bs b o e).2 (I.ok.nofr e)<|I.ok.noex b o e,I.base.free b o (I.ok.bs b o e).1 (I.ok.bs b o e).2<|I.ok.noex b o e⟩
def Inv.bk(I:Inv X aa σ H s):∀b o,X.base.get? b=some o->s.heap.get? b=some o:=λb o e=>(I.bs b o e).1
def Inv.mod(I:Inv X aa σ H s):Mod X.K X.mg X.base:=I.ok.mod
def Inv.kIn(I:Inv X aa σ H s):X.K.In s.heap:=I.ok.mod.kin.keeps I.bk
def Inv.lt(I:Inv X aa σ H s):X.env.locals<s.heap.objs.size:=by obtain⟨_,c,_⟩:=I.loc;exact c.lt
def Inv.sz(I:Inv X aa σ H s):X.s₀.heap.objs.size<=s.heap.objs.size:=K_ I.ok.above<|dD I.lt
def Inv.nofs(I:Inv X aa σ H s){a:lF}(h:s.heap.objs.size<=a):a∉X.fs:=λhb=>by obtain⟨_,o,c,_⟩:=I.ok.funs.mem hb;exact absurd (R_ (O_ c)<|K_ I.sz h)<|cX _
def Inv.cne(I:Inv X aa σ H s):∀x c,X.env.cells.lookup x=some c->c≠X.env.locals:=λx c e z=>by obtain⟨v,o,f,g⟩:=I.cell x c e;obtain⟨m,⟨j,k,i,d,h,_⟩,_⟩:=I.loc;rw[z,d]at f;cases f;rw[h]at g;cases g
theorem Inv.funs(I:Inv X aa σ H s):s.heap.FunFrames X.base X.outer:=by
 have all:∀(l:oA Env),(∀b∈frs l,b∈X.fs)->X.s₀.heap.FunFrames X.base l->s.heap.FunFrames X.base l:=by
  intro l
  induction l with
  |nil=>intro _ _;trivial
  |cons h r n=>intro f j;obtain⟨hk,⟨L,o,d,g,k,m⟩,i⟩:=j;have c:L∈X.fs:=f L (by unfold frs;rw[fU,d];exact aS);obtain⟨p,e⟩:=I.base.slot L o k (I.ok.frf L c) c λz=>I.ok.exfs L z c;exact⟨hk,⟨L,_,d,g,e,m⟩,n (λb hb=>f b<|by unfold frs;rw[fU,d];exact aH _ hb) i⟩
 exact all X.outer (λ_ hb=>hb) I.ok.funs
def Inv.stack(I:Inv X aa σ H s):s.heap.FunFrames X.base X.stack:=by rcases I.ok.stk with e|⟨e,c⟩;rw[e];exact I.funs;rw[e];obtain⟨m,d,_⟩:=I.loc;refine .cons (by rw[I.ok.kind];decide) c d ?_ I.funs;exact Heap.get?_none_of_le<|K_ I.ok.bsz I.ok.above
def Inv.stkSub(I:Inv X aa σ H s):∀b∈frs X.stack,b∈X.env.locals::X.fs:=λb hb=>by rcases I.ok.stk with e|⟨e,c⟩;rw[e]at hb;exact aH _ hb;rw[e]at hb;unfold frs at hb;rw[fU,c]at hb;exact hb
def Inv.stkFree(I:Inv X aa σ H s):∀b∈frs X.stack,H b=none:=λb hb=>by rcases aB.mp (I.stkSub b hb) with e|hb;rw[e];exact I.free;obtain⟨_,o,c,_⟩:=I.ok.funs.mem hb;exact I.base.free b o c (I.ok.frf b hb) λz=>I.ok.exfs b z hb
def Inv.step{g':oC GenState}{t':Nat}{d':Drawn}{ch:oA lF}(I:Inv X aa σ H s) (J:∀b∈ch,(b∈X.ex\/X.s₀.heap.objs.size<=b)/\b≠X.env.locals/\(∀x c,X.env.cells.lookup x=some c->c≠b)/\∀p∈X.pn++aa,p.1≠b)
  (g:∀b o,b≠X.env.locals->b∉X.fs->b∉ch->s.heap.get? b=some o->H b=none->h'.get? b=some o)
  (slot:∀b o,b≠X.env.locals->b∈X.fs->b∉ch->s.heap.get? b=some o->H b=none->∃P,h'.get? b=some {o with slots:=P}) (f:∀b o,b∉ch->s.heap.get? b=some o->H b=none->H' b=none)
  (t:∀b o,b∉ch->s.heap.get? b=some o->∃A,h'.get? b=some A) (E:∀b j,H b=some (.tup j)->H' b=some (.tup j)) (C:∀b o u,H b=some (.frz o u)->H' b=some (.frz o u)) (G:∀b M,H b=some (.tbl M)->∃B,H' b=some (.tbl<|M++B))
  (ns:∀m,s.heap.Ns X.env.locals m->h'.Ns X.env.locals m) (N:HOk X.prog X.w H' h') (W:AllBare g') :
  Inv X aa σ H' {s with heap:=h',gens:=g',drawn:=d',toks:=t'}:=by
 have T:∀b o,X.s₀.heap.get? b=some o->b≠X.env.locals:=λb o e=>Y_<|R_ (O_ e) I.ok.above;have L:∀b o,X.s₀.heap.get? b=some o->b∉X.ex->b∉ch:=λb o e hx hb=>by rcases(J b hb).1 with z|z;exact hx z;exact absurd (R_ (O_ e) z)<|cX _
 have S:∀x c,X.env.cells.lookup x=some c->∀v,s.heap.IsCell c v->h'.IsCell c v:=λx c e v ⟨o,y,Q⟩=>by have F:c∉ch:=λz=>(J c z).2.2.1 x c e rfl;by_cases hc:c∈X.fs;obtain⟨P,q⟩:=slot c o (I.cne x c e) hc F y<|I.freeC x c e;exact⟨_,q,Q⟩;exact⟨o,g c o (I.cne x c e) hc F y<|I.freeC x c e,Q⟩
 refine⟨I.ok,I.os,W,⟨λb o e n hb hx=>?_,λb o e n hb hx=>?_,λb o e n hx=>?_,λb o e hx=>?_,λb j e=>E b j<|I.base.tups b j e,λb o j e=>C b o j<|I.base.frzs b o j e,λb M e=>?_⟩,?_,λx c e=>?_,?_,λx c e=>?_,λp hp=>?_,N,I.len⟩;exact g b o (T b o e) hb (L b o e hx) (I.base.keep b o e n hb hx)<|I.base.free b o e n hx;obtain⟨P,h⟩:=I.base.slot b o e n hb hx;obtain⟨O,D⟩:=slot b _ (T b o e) hb (L b o e hx) h<|I.base.free b o e n hx;exact⟨O,D⟩;obtain⟨A,h⟩:=I.base.there b o e hx;exact f b A (L b o e hx) h<|I.base.free b o e n hx;obtain⟨A,h⟩:=I.base.there b o e hx;exact t b A (L b o e hx) h;obtain⟨m1,h⟩:=I.base.tbls b M e;obtain⟨Y,D⟩:=G b _ h;exact⟨m1++Y,by rw[D,Array.append_assoc]⟩;obtain⟨m,U,Z⟩:=I.loc;refine⟨m,ns m U,λi x v h D e3=>?_⟩;obtain⟨u,r,l⟩:=Z i x v h D e3;refine⟨u,r,?_⟩;rcases l with l|⟨k,c,e,z⟩;exact .inl l;exact .inr ⟨k,c,e,S x c e _ z⟩;obtain⟨v,z⟩:=I.cell x c e;exact⟨v,S x c e v z⟩;obtain⟨m,⟨o,_,_,y,_⟩,_⟩:=I.loc;exact f _ o (λz=>(J _ z).2.1 rfl) y I.free;obtain⟨v,o,y,Q⟩:=I.cell x c e;exact f c o (λz=>(J c z).2.2.1 x c e rfl) y<|I.freeC x c e;obtain⟨e,n,ne,R,d⟩:=I.pin p hp;have F:p.1∉ch:=λz=>(J p.1 z).2.2.2 p hp rfl;exact⟨g p.1 p.2 ne R F e n,f p.1 p.2 F e n,ne,R,d⟩
def Inv.un{t':Nat}(I:Inv X aa σ H s)(u:Un X.fs [] H H' s.heap h')(d:HOk X.prog X.w H' h'):Inv X aa σ H' {s with heap:=h',toks:=t'}:=by
 obtain⟨m,⟨o,p,t,g,r⟩,_⟩:=id I.loc;obtain⟨q,i⟩:=u.any g I.free (by simp);exact I.step (g':=s.gens) (d':=s.drawn) (ch:=[]) (λ_ z=>nomatch z) (λb o _ hb _ e n=>u.keep b o e n hb<|by simp) (λb o _ hb _ e n=>u.slot b o e n hb<|by simp) (λb o _ e n=>u.free b o e n<|by simp) (λb o _ e=>u.there b o e<|by simp) u.tups u.frzs u.tbls (λv k=>by
  obtain⟨l,h,f,c,j⟩:=k;rw[g]at c;cases c;exact⟨_,h,f,i,j⟩) d I.bare
def Inv.call{g':oC GenState}{t':Nat}{d':Drawn}{ch:oA lF}(I:Inv X aa σ H s)(u:Un (frs X.stack) ch H H' s.heap h')(f:HOk X.prog X.w H' h')(l:AllBare g')
  (j:∀b∈ch,(b∈X.ex\/X.s₀.heap.objs.size<=b)/\b≠X.env.locals/\(∀x c,X.env.cells.lookup x=some c->c≠b)/\∀p∈X.pn++aa,p.1≠b) :
  Inv X aa σ H' {s with heap:=h',gens:=g',drawn:=d',toks:=t'}:=by
 obtain⟨m,⟨o,y,B,i,r⟩,_⟩:=id I.loc;obtain⟨A,g⟩:=u.any i I.free λz=>(j _ z).2.1 rfl;exact I.step (ch:=ch) j (λb o g hb hc e n=>u.keep b o e n (λz=>(aB.mp<|I.stkSub b z).elim g hb) hc) (λb o _ _ hc e n=>u.any e n hc) (λb o hc e n=>u.free b o e n hc) (λb o hc e=>u.there b o e hc) u.tups u.frzs u.tbls (λC t=>by
  obtain⟨v,k,h,d,q⟩:=t;rw[i]at d;cases d;exact⟨_,k,h,g,q⟩) f l
def Inv.turned{t':Nat}{d:lF}(I:Inv X aa σ H s)(k:∀b o,b≠d->s.heap.get? b=some o->h'.get? b=some o)(hn:H d=none)(f:d≠X.env.locals)
  (h1:d∈X.ex\/X.s₀.heap.objs.size<=d) (h2:∀x c,X.env.cells.lookup x=some c->c≠d) (i:∀p∈X.pn++aa,p.1≠d):Inv X aa σ H {s with heap:=h',toks:=t'}:=by
 have g:∀b u,H b=some u->b≠d:=λb u e z=>by rw[z,hn]at e;cases e
 refine I.step (g':=s.gens) (d':=s.drawn) (ch:=[d]) (λb hb=>?_) (λb o _ _ hc e _=>k b o (λz=>hc<|by simp[z]) e) (λb o _ _ hc e _=>⟨o.slots,k b o (λz=>hc<|by simp[z]) e⟩) (λ_ _ _ _ n=>n)
  (λb o hc e=>⟨o,k b o (λz=>hc<|by simp[z]) e⟩) (λ_ _ e=>e) (λ_ _ _ e=>e) (λb w e=>⟨#[],by rw[e];simp⟩) (λm t=>?_) (λb u e=>?_) I.bare
 have e:b=d:=by simpa using hb
 subst e;exact⟨h1,f,h2,i⟩;obtain⟨o,h,l,j,r⟩:=t;exact⟨o,h,l,k _ o (bN f) j,r⟩;refine(I.hok b u e).stay (λc v hc q=>k c v ?_ q) (λ_ q=>q) λ_ _ q=>q;rcases hc with z|z;rw[z];exact g b u e;exact g c _ z
def Inv.tok(I:Inv X aa σ H s)(t:Nat):Inv X aa σ H {s with toks:=t}:=I.un (h':=s.heap) (t':=t) Un.refl I.hok
def Inv.kept{t':Nat}(I:Inv X aa σ H s)(k:∀b u,s.heap.get? b=some u->h'.get? b=some u):Inv X aa σ H {s with heap:=h',toks:=t'}:=I.un (Un.kept k)<|I.hok.kept k
def Inv.laid{a:lF}{o:HO}{t':Nat}(I:Inv X aa σ H s)(k:∀b u,s.heap.get? b=some u->h'.get? b=some u)(hp:s.heap.objs.size<=a)(c:Bp X.prog X.w (upd H a o) h' a o) :
  Inv X aa σ (upd H a o) {s with heap:=h',toks:=t'}:=I.un (Un.laid k hp<|I.hok.fresh hp)<|I.hok.laid k hp c
def Inv.write{x e:lF}{o:HO}{t':Nat}(I:Inv X aa σ H s)(f:Mut<|H x)(he:e=x\/H e=some (.own x))(k:∀b u,b≠e->s.heap.get? b=some u->h'.get? b=some u)(d:∃u,h'.get? e=some u)
  (c:Bp X.prog X.w (upd H x o) h' x o):Inv X aa σ (upd H x o) {s with heap:=h',toks:=t'}:=I.un (Un.write f he k d)<|I.hok.write f he k d c
def Inv.pins_of{c:oA<|lF×lM}(I:Inv X aa σ H s)(h:∀p∈c,s.heap.get? p.1=some p.2/\H p.1=none/\p.1≠X.env.locals/\p.1∉X.fs/\∀v,p.2.data≠.cell v):Inv X c σ H s :=
 ⟨I.ok,I.os,I.bare,I.base,I.loc,I.cell,I.free,I.freeC,λp hp=>(Q_.mp hp).elim (λz=>I.pin p<|aE _ z)<|h p,I.hok,I.len⟩
def Mr{N:oA Str}(e:N.Nodup){i j:Nat}{x:Str}(a:N[i]?=some x)(b:N[j]?=some x):i=j:=by obtain⟨h1,d⟩:=E_.mp a;obtain⟨h2,c⟩:=E_.mp b;exact(List.getElem_inj e).mp<|d.trans c.symm
def Kf{M:Model}{A:lK}{E:lC->lD->Prop}{i:Nat}{x:Str}{v:V}{u:lC}{Q:Unit->lD->Prop}(I:Inv X aa σ H s)(hN:X.N.Nodup)(hi:X.N[i]?=some x)(hx:Loc X.env.scope x)(r:Ba v u)
  (h:∀O,Inv X aa (σ.set i<|some v) H O->(∃a,Heap.SameBut a s.heap O.heap/\(a=X.env.locals\/X.env.cells.lookup x=some a))->Q () O) (hf:X.fn x=true\/X.env.scope.names.lookup x=some .local:=by first|exact .inl rfl|exact .inr rfl|assumption):wpAny M A (storeName X.env x u) Q E s:=by
 obtain⟨m,R,hl⟩:=id I.loc;have wx:(X.env.scope.kind==.class||(X.env.scope.kind==.module&&X.env.locals != X.env.globals))=false:=by rw[I.ok.kind];rfl
 have B:i<σ.length:=by rw[I.len];exact(E_.mp hi).1
 have C:=I.cne;have gy:∀{a:lF} {h':lL},(∃o,s.heap.get? a=some o/\H a=none)->Heap.SameBut a s.heap h'->HOk X.prog X.w H h':=λ{a h'} ha f b ob e=>by obtain⟨_,_,l⟩:=ha;refine(I.hok b ob e).stay (λc J hc q=>(f.2 c ?_).trans q) (λ_ q=>q) λ_ _ q=>q;rintro rfl;rcases hc with rfl|hc;rw[l]at e;cases e;rw[l]at hc;cases hc
 rcases hx with hk|hk;refine wpAny_storeName_local hk R (λh' m8 f=>?_) wx;obtain⟨oL,_,_,hoL,_⟩:=id R;refine h _ ⟨I.ok,I.os,I.bare,⟨λb o e n hb hx=>?_,λb o e n hb hx=>?_,I.base.free,λb o e hx=>?_,I.base.tups,I.base.frzs,I.base.tbls⟩,⟨_,m8,λj y Z g t e3=>?_⟩,λy c e=>?_,I.free,I.freeC,λp hp=>?_,gy ⟨oL,hoL,I.free⟩ f,by simpa using I.len⟩ ⟨_,f,.inl rfl⟩;exact(f.2 b<|Y_<|R_ (O_ e) I.ok.above).trans<|I.base.keep b o e n hb hx;obtain⟨W,g⟩:=I.base.slot b o e n hb hx;exact⟨W,(f.2 b<|Y_<|R_ (O_ e) I.ok.above).trans g⟩;obtain⟨P,g⟩:=I.base.there b o e hx;exact⟨P,(f.2 b<|Y_<|R_ (O_ e) I.ok.above).trans g⟩;by_cases hj:j=i;subst hj;rw[hi]at g;cases g;rw[List.getElem?_set_self B]at t;cases t;exact⟨u,r,.inl ⟨hk,by simp⟩⟩;rw[List.getElem?_set_ne<|bN hj]at t;obtain⟨S,T,q⟩:=hl j y Z g t e3;refine⟨S,T,?_⟩;rcases q with⟨k,e⟩|⟨k,c,e,z⟩;refine .inl ⟨k,?_⟩;have:y≠x:=λe=>hj<|Mr hN g<|e ▸ hi;simp[this,e];exact .inr ⟨k,c,e,z.sameBut f<|C y c e⟩;obtain⟨J,z⟩:=I.cell y c e;exact⟨J,z.sameBut f<|C y c e⟩;obtain⟨e,n,ne,Y,d⟩:=I.pin p hp;exact⟨(f.2 p.1 ne).trans e,n,ne,Y,d⟩;have U:X.fn x=true:=by rcases hf with z|z;exact z;rw[z]at hk;cases hk
 obtain⟨c,hc⟩:=I.ok.has x<|.inl hk;obtain⟨J,z⟩:=I.cell x c hc;refine wpAny_storeName_cell I.ok.kind hk hc z λh' bm f=>?_;obtain⟨oc,G,F⟩:=id z;refine h {s with heap:=h'} ⟨I.ok,I.os,I.bare,⟨λb o e n hb hx=>?_,λb o e n hb hx=>?_,I.base.free,λb o e hx=>?_,I.base.tups,I.base.frzs,I.base.tbls⟩,⟨m,R.sameBut f<|bN<|C x c hc,λj y Z g t e3=>?_⟩,λy L e=>?_,I.free,I.freeC,λp hp=>?_,gy ⟨oc,G,I.freeC x c hc⟩ f,by simpa using I.len⟩ ⟨c,f,.inr hc⟩;exact(f.2 b<|Y_<|R_ (O_ e)<|I.ok.cab x c U hc).trans<|I.base.keep b o e n hb hx;obtain⟨W,g⟩:=I.base.slot b o e n hb hx;exact⟨W,(f.2 b<|Y_<|R_ (O_ e)<|I.ok.cab x c U hc).trans g⟩;obtain⟨P,g⟩:=I.base.there b o e hx;exact⟨P,(f.2 b<|Y_<|R_ (O_ e)<|I.ok.cab x c U hc).trans g⟩;by_cases hj:j=i;subst hj;rw[hi]at g;cases g;rw[List.getElem?_set_self B]at t;cases t;exact⟨u,r,.inr ⟨.inl hk,c,hc,bm⟩⟩;rw[List.getElem?_set_ne<|bN hj]at t;obtain⟨S,T,q⟩:=hl j y Z g t e3;refine⟨S,T,?_⟩;rcases q with q|⟨k,L,e,z'⟩;exact .inl q;refine .inr ⟨k,L,e,z'.sameBut f ?_⟩;rintro rfl;exact hj<|Mr hN g<|I.ok.inj _ _ _ e hc ▸ hi;by_cases D:L=c;subst D;exact⟨_,bm⟩;obtain⟨w2,z2⟩:=I.cell y L e;exact⟨w2,z2.sameBut f D⟩;obtain⟨e,n,ne,Y,d⟩:=I.pin p hp;refine⟨(f.2 p.1 ?_).trans e,n,ne,Y,d⟩;intro q;rw[q,G]at e;have q':oc=p.2:=bA e;exact d J<|by rw[<- q'];exact F
def Fh{M:Model}{A:lK}{E:lC->lD->Prop}{i:Nat}{x:Str}{v:V}{u:lC}{Q:Unit->lD->Prop}(I:Inv X aa σ H s)(f:X.N.Nodup)(hi:X.N[i]?=some x)(hx:Loc X.env.scope x)(r:Ba v u)
  (h:∀c,Inv X aa (σ.set i<|some v) H c->Q () c) (e:X.fn x=true\/X.env.scope.names.lookup x=some .local:=by first|exact .inl rfl|exact .inr rfl|assumption):wpAny M A (storeName X.env x u) Q E s :=
 Kf I f hi hx r (λc d _=>h c d) e
def Inv.call'{d:lD}{ch:oA lF}(I:Inv X aa σ H s)(g:d.os=s.os)(u:Un (frs X.stack) ch H H' s.heap d.heap)(f:HOk X.prog X.w H' d.heap)(i:AllBare d.gens)
  (j:∀b∈ch,(b∈X.ex\/X.s₀.heap.objs.size<=b)/\b≠X.env.locals/\(∀x c,X.env.cells.lookup x=some c->c≠b)/\∀p∈X.pn++aa,p.1≠b):Inv X aa σ H' d:=by
 obtain⟨h',g',d',t',h⟩:=d;have e:h=s.os:=g;subst e;exact I.call (g':=g') (t':=t') (d':=d') u f i j
abbrev XK:=lC->oB lF->Hp->Prop
abbrev St:=oA<|oB V
abbrev VK:=V->Hp->Prop
abbrev TE:=St->Hp->VK->Prop
abbrev TT:=St->Hp->(Bool->Hp->Prop)->Prop
abbrev TA:=St->Hp->(oA V->Hp->Prop)->Prop
structure Ends where
 nx:St->Hp->Prop
 rt:VK
 bk:St->Hp->Prop:=λ_ _=>False
 ct:St->Hp->Prop:=λ_ _=>False
abbrev TS:=Ends->St->Hp->Prop
def EP(X:Cx)(aa:oA<|lF×lM)(σ:St)(Q:VK)(u:lC)(c:lD):Prop:=∃v H',Inv X aa σ H' c/\Ba v u/\Q v H'
def TP(X:Cx)(aa:oA<|lF×lM)(σ:St)(Q:Bool->Hp->Prop)(b:Bool)(c:lD):Prop:=∃H',Inv X aa σ H' c/\Q b H'
def AP(X:Cx)(aa:oA<|lF×lM)(σ:St)(Q:oA V->Hp->Prop)(d:oA lC)(e:lD):Prop:=∃c H',Inv X aa σ H' e/\Vals c d/\Q c H'
def SP(X:Cx)(aa:oA<|lF×lM)(D:Ends)(f:Flow)(d:lD):Prop :=
 match f with
 |.next=>∃ c H',Inv X aa c H' d/\D.nx c H'
 |.brk=>∃ c H',Inv X aa c H' d/\D.bk c H'
 |.cont=>∃ c H',Inv X aa c H' d/\D.ct c H'
 |.ret u=>∃v c H',Inv X aa c H' d/\Ba v u/\D.rt v H'
def PE(X:Cx)(e:lJ)(t:TE):Prop :=
 ∀(aa:oA<|lF×lM) (s:lD) (σ:St) (H:Hp) (Q:VK),Inv X aa σ H s->t σ H Q->qV X.prog X.w X.A (eval e X.env) (EP X aa σ Q) X.xe s
def PT(X:Cx)(e:lJ)(t:TT):Prop :=
 ∀(aa:oA<|lF×lM) (s:lD) (σ:St) (H:Hp) (Q:Bool->Hp->Prop),Inv X aa σ H s->t σ H Q->qV X.prog X.w X.A (isTrue e X.env<|eval e X.env) (TP X aa σ Q) X.xe s
def PW(X:Cx)(e:lJ)(t:TT):Prop :=
 ∀(c:Sem lC) (aa:oA<|lF×lM) (s:lD) (σ:St) (H:Hp) (Q:Bool->Hp->Prop),Inv X aa σ H s->t σ H Q->qV X.prog X.w X.A (isTrue e X.env c) (TP X aa σ Q) X.xe s
def PW.pt{X:Cx}{e:lJ}{t:TT}(h:PW X e t):PT X e t:=h _
def PA(X:Cx)(es:oA lJ)(t:TA):Prop :=
 ∀(pos:Pos) (aa:oA<|lF×lM) (s:lD) (σ:St) (H:Hp) (Q:oA V->Hp->Prop),Inv X aa σ H s->t σ H Q->qV X.prog X.w X.A (spliced<|backTo pos<|starEach es X.env) (AP X aa σ Q) X.xe s
def PS(X:Cx)(st:lN)(t:TS):Prop :=
 ∀(aa:oA<|lF×lM) (s:lD) (σ:St) (H:Hp) (D:Ends),Inv X aa σ H s->t D σ H->qV X.prog X.w X.A (exec st X.env) (SP X aa D) X.xe s
def PSs(X:Cx)(st:oA lN)(t:TS):Prop :=
 ∀(aa:oA<|lF×lM) (s:lD) (σ:St) (H:Hp) (D:Ends),Inv X aa σ H s->t D σ H->qV X.prog X.w X.A (execs st X.env) (SP X aa D) X.xe s
def thn{c:Type}{t:Sem c}{Q d:c->lD->Prop}{M:Model}{A:lK}{E:lC->lD->Prop}{s:lD}(h:wpAny M A t Q E s)(e:∀a s,Q a s->d a s):wpAny M A t d E s:=cD h e λ_ _ x=>x
def MS(i:Nat):TE:=λσ H Q=>∃v,σ[i]?=some (some v)/\Q v H
def tC(v:V):TE:=λ_ H Q=>Q v H
def GZ{i:Nat}{x:Str}{pos:Pos}(p:X.N[i]?=some x)(hv:Vis X.env.scope x)(g:(x==("__debug__" : Str))=false:=by decide) (k:(x==("__classdict__" : Str))=false:=by decide):PE X (.Name x pos) (MS i):=by intro aa s σ H Q I h;obtain⟨v,e,h⟩:=h;obtain⟨m,j,n⟩:=I.loc;obtain⟨u,r,l⟩:=n i x v p e hv;have f:EP X aa σ Q u s:=⟨v,H,I,r,h⟩;rcases l with⟨hk,o⟩|⟨hk,c,hc,d⟩;exact wpAny_Name (wpAny_loadName_local I.ok.kind hk j o f) g;rcases hk with hk|hk;exact wpAny_Name (wpAny_loadName_cell I.ok.kind hk hc d f) g;exact wpAny_Name (wpAny_loadName_free I.ok.kind hk hc d f k) g
def HA{i j pos}:PE X (.Constant (.int i) j pos) (tC<|.int i):=λ_ _ _ H _ I h=>wpAny_Constant_int ⟨.int i,H,I.tok _,⟨_,rfl⟩,h⟩
def MT{b j pos}:PE X (.Constant (.bool b) j pos) (tC<|.bl b):=λ_ _ _ H _ I h=>Constant_bool ⟨.bl b,H,I,rfl,h⟩
def HB{j pos}:PE X (.Constant .none j pos) (tC .non):=λ_ _ _ H _ I h=>Constant_none ⟨.non,H,I,rfl,h⟩
def Vn{x j pos}:PE X (.Constant (.str x) j pos) (tC<|.str x):=λ_ _ _ H _ I h=>Calls.Constant_str ⟨.str x,H,I.tok _,⟨_,rfl⟩,h⟩
def Gl(X:Cx)(x:Str):Prop:=X.env.kindOf x=some .globalImplicit
def Q6{E:lC->lD->Prop}{aa:oA<|lF×lM}{s:lD}{σ:St}{H:Hp}{x:Str}{u:lC}{pos:Pos}{Q:lC->lD->Prop}(I:Inv X aa σ H s)(e:Gl X x)(c:X.mg x=some u)(h:Q u s)
  (d:(x==("__debug__" : Str))=false:=by decide):qV X.prog X.w X.A (eval (.Name x pos) X.env) Q E s :=
 Calls.Name_function_global I.ok.kind e (Calls.loadGlobal_global (by rw[I.ok.glob];exact I.mod.glob.keeps I.bk) c h) d
def Dt{E:lC->lD->Prop}{aa:oA<|lF×lM}{s:lD}{σ:St}{H:Hp}{x:Str}{u:lC}{pos:Pos}{Q:lC->lD->Prop}(I:Inv X aa σ H s)(c:Gl X x)(d:X.mg x=none)(hv:bootBuiltins x=some u)(h:Q u s)
  (hn:x ≠ "__name__" := by decide) (e:(x==("__debug__" : Str))=false:=by decide):qV X.prog X.w X.A (eval (.Name x pos) X.env) Q E s:=by
 obtain⟨f,h1,h2⟩:=I.mod.blt;exact Calls.Name_function_global I.ok.kind c (Calls.loadGlobal_builtin (by rw[I.ok.glob];exact I.mod.glob.keeps I.bk) d (by rw[I.ok.blt];exact h1.keeps I.bk) ((h2 x hn).trans hv) h) e
def AR{x:Str}{v:V}{u:lC}{pos:Pos}(e:Gl X x)(c:X.mg x=some u)(r:Ba v u)(d:(x==("__debug__" : Str))=false:=by decide):PE X (.Name x pos) (tC v) :=
 λ_ _ _ H _ I h=>Q6 I e c ⟨v,H,I,r,h⟩ d
def PC(X:Cx)(e:CmpOp)(a b:lJ)(t:TE):Prop :=
 ∀(aa:oA<|lF×lM) (s:lD) (σ:St) (H:Hp) (Q:VK),Inv X aa σ H s->t σ H Q ->
  qV X.prog X.w X.A (eval a X.env) (λv c=>qV X.prog X.w X.A (eval b X.env) (λu d=>qV X.prog X.w X.A (compareOp e v u) (EP X aa σ Q) X.xe d) X.xe c) X.xe s
def tB(t:TE):TT:=λσ H Q=>t σ H λx d=>∃c,x=.bl c/\Q c d
def HC{c:CmpOp}{t:TE}(h:PC X c a b t)(h1:behindInMarks c b=false:=by first|exact nobehind _ (by decide) (by decide)|rfl):PE X (.Compare a [c] [b] pos) t:=λaa s σ H Q I d=>wpAny_Compare1 (h aa s σ H Q I d) h1
def HD{e:CmpOp}{t:TE}(h:PC X e a b t)(h1:behindInMarks e b=false:=by first|exact nobehind _ (by decide) (by decide)|rfl):PT X (.Compare a [e] [b] pos) (tB t):=by intro aa s σ H Q I g;refine wpAny_isTrue_Compare1 (thn (h aa s σ H _ I g) λv o h1=>thn h1 λu m h2=>thn h2 λc n f=>C1 f λx k j l i=>?_) h1;obtain⟨d,rfl,q⟩:=i;cases l;exact gK ⟨k,j,q⟩
def HE{e:lJ}{t:TE}(h:PE X e t)(he:∀c,isTrue e X.env c=(do let v <- c;standAt e.pos;holding [v]<|truthy v):=by intro _;rfl):PT X e (tB t):=by intro aa s σ H Q I f;refine isTrue_plain (thn (h aa s σ H _ I f) λv m k=>C1 k λx j i l g=>?_)<|he _;obtain⟨d,rfl,q⟩:=g;cases l;exact gK ⟨j,i,q⟩
def UP(t u:TT):TT:=λσ H Q=>t σ H λc d=>if c=true then u σ d Q else Q false d
def ZJ(t u:TT):TT:=λσ H Q=>t σ H λc d=>if c=true then Q true d else u σ d Q
def UQ(t:TT):TT:=λσ H Q=>t σ H λc d=>Q (!c) d
def AU(ha:PT X a tA):PW X (.BoolOp .And [a] pos) tA:=by
 intro f aa s σ H Q I h;refine isTrue_and<|thn (ha aa s σ H Q I h) λc d e=>?_;cases c with
 |true=>exact isTrue_and_nil e
 |false=>exact e
def HF(ha:PT X a tA):PW X (.BoolOp .Or [a] pos) tA:=by
 intro f aa s σ H Q I h;refine isTrue_or<|thn (ha aa s σ H Q I h) λc d e=>?_;cases c with
 |false=>exact isTrue_or_nil e
 |true=>exact e
def HG(ha:PT X a tA)(hb:PW X (.BoolOp .And (b::rest) pos) j2):PW X (.BoolOp .And (a::b::rest) pos) (UP tA j2):=by
 intro i aa s σ H Q I h;refine isTrue_and<|thn (ha aa s σ H _ I h) λc g ⟨f,e,d⟩=>?_;cases c with
 |true=>exact hb i aa g σ f Q e d
 |false=>exact⟨f,e,d⟩
def MU(ha:PT X a tA)(hb:PW X (.BoolOp .Or (b::rest) pos) j2):PW X (.BoolOp .Or (a::b::rest) pos) (ZJ tA j2):=by
 intro i aa s σ H Q I h;refine isTrue_or<|thn (ha aa s σ H _ I h) λc g ⟨f,e,d⟩=>?_;cases c with
 |true=>exact⟨f,e,d⟩
 |false=>exact hb i aa g σ f Q e d
def HH(ha:PT X a tA):PT X (.UnaryOp .Not a pos) (UQ tA):=by intro aa s σ H Q I h;exact isTrue_not<|ha aa s σ H (λc d=>Q (!c) d) I h
def ZK(t:TT)(ta tb:TE):TE:=λσ H Q=>t σ H λc d=>if c=true then ta σ d Q else tb σ d Q
def Vo{c:lJ}(hc:PT X c tA)(ha:PE X a ta)(hb:PE X b tb):PE X (.IfExp c a b pos) (ZK tA ta tb):=by
 intro aa s σ H Q I h;refine wpAny_IfExp<|thn (hc aa s σ H _ I h) λd e ⟨g,f,i⟩=>?_;cases d with
 |true=>exact ha aa e σ g Q f i
 |false=>exact hb aa e σ g Q f i
end
def E4(K:lG)(H:Hp)(a:lF)(xs:oA V):Prop :=
 Rd H a (.lst xs) \/
  ∃(o:lM) (b:oC lC) (n:Nat),K.lookup a=some o/\o.cls=.type "list" /\ o.dict=none/\o.data=.seq b n/\b.size<=sizeLine/\Vals xs b.toList
def Il(K:lG)(H:Hp)(a:lF)(xs:oA V):Prop :=
 Rd H a (.tup xs) \/
  ∃(o:lM) (b:oC lC) (n:Nat),K.lookup a=some o/\o.cls=.type "tuple" /\ o.data=.seq b n/\b.size<=sizeLine/\Vals xs b.toList
def UR:lC->oB V
 |.none=>some .non
 |.bool b=>some (.bl b)
 |.int i _=>some (.int i)
 |.str x _=>some (.str x)
 |.bytes b _=>some (.byt b)
 |.float b _=>some (.flt b)
 |.ref a=>some (.ref a)
 |.type n=>some (.ty n)
 |_=>none
def Ba.abs{x:V}{u:lC}(r:Ba x u):UR u=some x:=by
 cases x with
 |non=>cases r;rfl
 |bl _=>cases r;rfl
 |int _=>obtain⟨t,rfl⟩:=r;rfl
 |str _=>obtain⟨t,rfl⟩:=r;rfl
 |byt _=>obtain⟨t,rfl⟩:=r;rfl
 |flt _=>obtain⟨t,rfl⟩:=r;rfl
 |ref _=>cases r;rfl
 |ty _=>cases r;rfl
def Ba.inj{x y:V}{u:lC}(r:Ba x u)(q:Ba y u):x=y:=bA<|r.abs.symm.trans q.abs
theorem Vals.inj:∀{xs ys:oA V} {a:oA lC},Vals xs a->Vals ys a->xs=ys
 |_,_,_,.nil,.nil=>rfl
 |_,_,_,.cons r t,.cons b c=>by rw[r.inj b,Vals.inj t c]
section
variable {X:Cx}{aa:oA<|lF×lM}{σ:St}{H:Hp}{s:lD}{a:lF}{xs ys:oA V}{E:lC->lD->Prop}{st:lN}{rest:oA lN}{t u:TS}{e:lJ}{te:TE}{pos:Pos}{tg:lJ}
def E4.of{K:lG}(h:H a=some (.lst xs)):E4 K H a xs:=.inl<|.inl h
def Il.of{K:lG}(h:H a=some (.tup xs)):Il K H a xs:=.inl<|.inl h
def Inv.list(I:Inv X aa σ H s)(h:E4 X.K H a xs):∃b:oA lC,Vals xs b/\PlainL s.heap a b.toArray/\xs.length<=sizeLine:=by rcases h with h|⟨o,b,n,hk,hc,c,d,hz,r⟩;obtain⟨z,b,n,r,e⟩:=h.ok I.hok;exact⟨b,r,⟨_,n,e,rfl,rfl,rfl⟩,z⟩;refine⟨b.toList,r,⟨o,n,I.kIn a o hk,hc,c,by simpa using d⟩,?_⟩;have e:=r.length;simp only[Array.length_toList]at e;omega
def Inv.tuple(I:Inv X aa σ H s)(h:Il X.K H a xs):∃b:oA lC,Vals xs b/\IsTup s.heap a b.toArray/\xs.length<=sizeLine:=by rcases h with h|⟨o,b,n,hk,hc,c,hz,r⟩;obtain⟨z,b,r,p⟩:=h.ok I.hok;exact⟨b,r,p,z⟩;refine⟨b.toList,r,⟨o,I.kIn a o hk,hc,n,by simpa using c⟩,?_⟩;have e:=r.length;simp only[Array.length_toList]at e;omega
def Inv.list_inj(I:Inv X aa σ H s)(h:E4 X.K H a xs)(h':E4 X.K H a ys):xs=ys:=by
 obtain⟨i,r,⟨o,n,e,_,_,d⟩,_⟩:=I.list h;obtain⟨b,g,⟨k,j,f,_,_,c⟩,_⟩:=I.list h';rw[e]at f;cases f;rw[d]at c;injection c with d1 _;have:i=b:=by simpa using bO Array.toList d1
 subst this;exact r.inj g
def Inv.tuple_inj(I:Inv X aa σ H s)(h:Il X.K H a xs)(h':Il X.K H a ys):xs=ys:=by
 obtain⟨i,r,⟨o,e,_,n,d⟩,_⟩:=I.tuple h;obtain⟨b,g,⟨k,f,_,j,c⟩,_⟩:=I.tuple h';rw[e]at f;cases f;rw[d]at c;injection c with d1 _;have:i=b:=by simpa using bO Array.toList d1
 subst this;exact r.inj g
abbrev Cx.wish(X:Cx)(E:lC->lD->Prop):Cx:={X with xe:=E}
abbrev Cx.nox(X:Cx):Cx:=X.wish λ_ _=>False
def Cx.Ok.wish{X:Cx}(ok:X.Ok)(E:lC->lD->Prop):(X.wish E).Ok :=
 ⟨ok.mod,ok.kind,ok.glob,ok.blt,ok.above,ok.inj,ok.has,ok.cab,ok.hd,ok.frames,ok.stk,ok.exf,ok.bs,ok.bsz,ok.noex,ok.exfs,ok.funs,ok.frf⟩
def Cx.Ok.unwish{X:Cx}{E:lC->lD->Prop}(ok:(X.wish E).Ok):X.Ok :=
 ⟨ok.mod,ok.kind,ok.glob,ok.blt,ok.above,ok.inj,ok.has,ok.cab,ok.hd,ok.frames,ok.stk,ok.exf,ok.bs,ok.bsz,ok.noex,ok.exfs,ok.funs,ok.frf⟩
def Inv.wish(I:Inv X aa σ H s)(E:lC->lD->Prop):Inv (X.wish E) aa σ H s:=⟨I.ok.wish E,I.os,I.bare,I.base,I.loc,I.cell,I.free,I.freeC,I.pin,I.hok,I.len⟩
def Inv.unwish(I:Inv (X.wish E) aa σ H s):Inv X aa σ H s:=⟨I.ok.unwish,I.os,I.bare,I.base,I.loc,I.cell,I.free,I.freeC,I.pin,I.hok,I.len⟩
theorem SP.unwish{D:Ends}{f:Flow}{d:lD}(h:SP (X.wish E) aa D f d):SP X aa D f d:=by
 cases f with
 |next=>obtain⟨b,c,I,q⟩:=h;exact⟨b,c,I.unwish,q⟩
 |brk=>obtain⟨b,c,I,q⟩:=h;exact⟨b,c,I.unwish,q⟩
 |cont=>obtain⟨b,c,I,q⟩:=h;exact⟨b,c,I.unwish,q⟩
 |ret u=>obtain⟨v,b,c,I,r,q⟩:=h;exact⟨v,b,c,I.unwish,r,q⟩
def PSs.nox{st:oA lN}{t:TS}(h:PSs X.nox st t):PSs X st t:=λaa s σ H D I b=>
 cD (h aa s σ H D (I.wish _) b) (λ_ _ q=>q.unwish) λ_ _ z=>False.elim z
def MV:TS:=λD σ H=>D.nx σ H
def US(t u:TS):TS:=λD σ H=>t {D with nx:=u D} σ H
def AW:PSs X [] MV:=λ_ _ σ H _ I h=>gY ⟨σ,H,I,h⟩
def Mu(h1:PS X st t)(h2:PSs X rest u):PSs X (st::rest) (US t u):=by
 intro aa s σ H D I h;refine wpAny_execs_cons<|thn (h1 aa s σ H {D with nx:=u D} I h) λf g q=>?_;cases f with
 |next=>obtain⟨b,c,d,q⟩:=q;exact h2 aa g b c D d q
 |ret v=>exact q
 |brk=>exact q
 |cont=>exact q
def Q7(h1:PS X st t):PSs X [st] t:=by
 intro aa s σ H D I h;refine wpAny_execs_cons<|thn (h1 aa s σ H D I h) λf b q=>?_;cases f with
 |next=>exact gY q
 |ret v=>exact q
 |brk=>exact q
 |cont=>exact q
def Inv.quiet{aa:oA<|lF×lM}{σ:St}{H:Hp}{s:lD}(I:Inv X aa σ H s):interactive X.env=false:=by simp[interactive,I.ok.kind]
def MW(te:TE):TS:=λD σ H=>te σ H λ_ b=>D.nx σ b
def AY(he:PE X e te)(hs:swapsWith e none pos.line X.env=pure false:=by rfl):PS X (.Expr e pos) (MW te):=by intro aa s σ H D I h;exact wpAny_Expr_any (thn (he aa s σ H _ I h) λv g b=>C1 b λx f c i d=>⟨σ,f,c,d⟩) I.quiet hs
def UT(te:TE):TS:=λD σ H=>te σ H D.rt
def HI(he:PE X e te):PS X (.Return (some e) pos) (UT te):=by intro aa s σ H D I h;exact wpAny_Return_some<|thn (he aa s σ H _ I h) λv i b=>C1 b λx f c g d=>⟨x,σ,f,c,g,d⟩
def UU(c:TT)(t u:TS):TS:=λD σ H=>c σ H λb d=>if b=true then t D σ d else u D σ d
def MX{c:lJ}{a b:oA lN}{g:TT}(hc:PT X c g)(ha:PSs X a t)(hb:PSs X b u):PS X (.If c a b pos) (UU g t u):=by
 intro aa s σ H D I h;refine wpAny_If<|thn (hc aa s σ H _ I h) λd i ⟨k,j,f⟩=>?_;cases d with
 |true=>exact ha aa i σ k D j f
 |false=>exact hb aa i σ k D j f
def HJ:TS:=λ_ _ _=>False
def Vp:PS X st HJ:=λ_ _ _ _ _ _ h=>h.elim
abbrev TG:=V->St->Hp->(St->Hp->Prop)->Prop
abbrev TGs:=oA V->St->Hp->(St->Hp->Prop)->Prop
def PG(X:Cx)(f:lJ)(t:TG):Prop :=
 ∀(aa:oA<|lF×lM) (s:lD) (σ:St) (H:Hp) (v:V) (u:lC) (Q:St->Hp->Prop),Inv X aa σ H s->Ba v u->t v σ H Q ->
  qV X.prog X.w X.A (assign f X.env u) (λ_ d=>∃ b c,Inv X aa b c d/\Q b c) X.xe s
def PGs(X:Cx)(ts:oA lJ)(t:TGs):Prop :=
 ∀(aa:oA<|lF×lM) (s:lD) (σ:St) (H:Hp) (d:oA V) (f:oA lC) (Q:St->Hp->Prop),Inv X aa σ H s->Vals d f->t d σ H Q ->
  qV X.prog X.w X.A (assignInOrder ((assignEach ts X.env).map (·.2)) f) (λ_ g=>∃ b c,Inv X aa b c g/\Q b c) X.xe s
def Vq(i:Nat):TG:=λv σ H Q=>Q (σ.set i<|some v) H
def AZ{i:Nat}{x:Str}(d:X.N.Nodup)(hi:X.N[i]?=some x)(hx:Loc X.env.scope x)(c:X.fn x=true\/X.env.scope.names.lookup x=some .local:=by first|exact .inl rfl|exact .inr rfl|assumption):PG X (.Name x pos) (Vq i):=by intro aa s σ H v u Q I r h;exact wpAny_assign_Name<|Fh I d hi hx r (λf b=>⟨_,H,b,h⟩) c
def UV:TGs:=λb σ H Q=>b=[]/\Q σ H
def MY(t:TG)(u:TGs):TGs:=λd σ H Q=>∃v r,d=v::r/\t v σ H λb c=>u r b c Q
def BA:PGs X [] UV:=by intro aa s σ H b c Q I r h;obtain⟨e,h⟩:=h;subst e;cases r;exact assignInOrder_nil ⟨σ,H,I,h⟩
def Vr{e:lJ}{es:oA lJ}{t:TG}{u:TGs}(h1:PG X e t)(h2:PGs X es u)
  (hs:(assignEach (e::es) X.env).map (·.2)=assign e X.env::(assignEach es X.env).map (·.2):=by rfl):PGs X (e::es) (MY t u):=by
 intro aa s σ H m n Q I r h;obtain⟨v,l,i,h⟩:=h;subst i;cases r with
 |cons r f=>rw[hs];refine hJ<|thn (h1 aa s σ H _ _ _ I r h) λ_ g c=>?_;obtain⟨b,k,j,d⟩:=c;exact h2 aa g b k _ _ Q j f d
def UW(K:lG)(n:Nat)(t:TGs):TG:=λv σ H Q=>∃a xs,v=.ref a/\Il K H a xs/\xs.length=n/\t xs σ H Q
def Vs{es:oA lJ}{k:Nat}{t:TGs}{n:Nat}(hc:X.calm=true)(h:PGs X es t)
  (hn:(assignEach es X.env).length=n:=by rfl) (f:(assignEach es X.env).findIdx? (·.1)=none:=by rfl):PG X (.Tuple es k pos) (UW X.K n t):=by
 intro aa s σ H v u Q I r c;obtain⟨a,xs,i,hq,g,c⟩:=c;subst i;cases r;obtain⟨p,d,l,hz⟩:=I.tuple hq;refine assign_Tuple_tuple (I.ok.hd hc) l (by simp[hn,<- g,d.length]) f λm hx=>?_;have j:Inv X aa σ H {s with heap:=m}:=I.kept (t':=s.toks) λb o e=>hx b o (Y_<|O_ e) e;exact h aa _ σ H xs _ Q j (by simpa using d) c
def BB(te:TE)(g:TG):TS:=λD σ H=>te σ H λx b=>g x σ b D.nx
def HK{tg e:lJ}{te:TE}{g:TG}(he:PE X e te)(c:PG X tg g)(hs:swapsWithSole [tg] e pos.line X.env=pure false:=by rfl)(b:swappedStores [tg] e X.env=pure none:=by rfl)
  (h1:(assignEach [tg] X.env).map (·.2)=[assign tg X.env]:=by rfl):PS X (.Assign [tg] e pos) (BB te g):=by
 intro aa s σ H D I h;refine wpAny_Assign_stores (thn (he aa s σ H _ I h) λv i d=>C1 d λx k j l f=>?_) hs b;rw[h1];exact thn (c aa i σ k x v _ j l f) λ_ m q=>q
def HL{i:Nat}{x:Str}{e:lJ}{te:TE}{b:Pos}(c:X.N.Nodup)(hi:X.N[i]?=some x)(hx:Loc X.env.scope x)(he:PE X e te)(hs:swapsWith e (some<|.Name x b) pos.line X.env=pure false:=by rfl)(k:X.fn x=true\/X.env.scope.names.lookup x=some .local:=by first|exact .inl rfl|exact .inr rfl|assumption) :
  PS X (.Assign [.Name x b] e pos) (BB te<|Vq i):=by
 intro aa s σ H D I h;refine wpAny_Assign_Name (thn (he aa s σ H _ I h) λv o f=>C1 f λy l j m d=>?_) hs;exact Fh j c hi hx m (λn g=>⟨_,l,g,d⟩) k
def HM(c:TT)(tb:TS):TS:=λD σ H=>∃W:Nat->St->Hp->Prop,(∃m,W m σ H)/\∀m σ H,W m σ H ->
 c σ H λb h=>if b=true then ∃N:St->Hp->Prop,(∀ d f,N d f->∃g,g<m/\W g d f)/\tb {D with nx:=N,ct:=N,bk:=D.nx} σ h else D.nx σ h
def Vt{c:lJ}{i:oA lN}{G:TT}{tb:TS}(hp:PassesOwn (model X.prog X.w) X.A X.env X.xe)(hc:PT X c G)(hb:PSs X i tb):PS X (.While c i [] pos) (HM G tb):=by
 intro aa s σ H D I h;obtain⟨W,⟨J,P⟩,M⟩:=h;refine wpAny_While<|codeAny_whileLoop (λn L=>∃ k y,Inv X aa k y L/\W n k y) ?_ J ⟨σ,H,I,P⟩;rintro n Q ⟨g,C,R,S⟩;refine fM hp<|thn (hc aa Q g C _ R<|M n g C S) λb O ⟨z,B,l⟩=>?_;cases b with
 |true=>
  obtain⟨N,F,l⟩:=l;rw[T_ rfl];refine fM hp<|thn (hb aa O g z _ B l) λf T m=>?_;cases f with
  |next=>obtain⟨d,j,x,o⟩:=m;obtain⟨q,r,p⟩:=F d j o;exact⟨q,r,d,j,x,p⟩
  |cont=>obtain⟨d,j,x,o⟩:=m;obtain⟨q,r,p⟩:=F d j o;exact⟨q,r,d,j,x,p⟩
  |brk=>exact m
  |ret v=>exact m
 |false=>rw[M_ S_];exact gY ⟨g,z,B,l⟩
structure It where
 go:Nat->Hp->Prop
 yld:Nat->Hp->V->Hp->Prop
 stop:Nat->Hp->Prop
def Gr(X:Cx)(aa:oA<|lF×lM)(H:Hp)(b:lF):Prop :=
 H b=none/\b≠X.env.locals/\b∉X.fs/\(b∈X.ex\/X.s₀.heap.objs.size<=b)/\(∀x c,X.env.cells.lookup x=some c->c≠b)/\∀p∈X.pn++aa,p.1≠b
def Inv.fpOk{X:Cx}{aa:oA<|lF×lM}{σ:St}{H H':Hp}{s:lD}{b:lF}(I:Inv X aa σ H s)(hb:s.heap.objs.size<=b)(hn:H' b=none):Gr X aa H' b:=by refine⟨hn,fE<|R_ I.lt hb,I.nofs hb,.inr<|K_ I.sz hb,λx c e z=>?_,λp hp z=>?_⟩;obtain⟨v,q⟩:=I.cell x c e;exact absurd (R_ q.lt<|by rw[z];exact hb)<|cX _;exact absurd (R_ (O_ (I.pin p hp).1)<|by rw[z];exact hb)<|cX _
structure Turn(P:lH)(w:lI)(K:lG)(tg:lJ)(J:It)(fp:oA lF)(it:lF)(tn:Nat->lL->Prop):Prop where
 mem:it∈fp
 obj:∀i h,tn i h->∀b∈fp,∃o,h.get? b=some o/\∀v,o.data≠.cell v
 keep:∀i h h',tn i h->(∀b∈fp,∀o,h.get? b=some o->h'.get? b=some o)->tn i h'
 item:∀(X:Cx),X.prog=P->X.w=w->X.K=K->X.calm=true->∀(i:Nat) (aa:oA<|lF×lM) (s:lD) (σ:St) (H:Hp) (E:lC->lD->Prop),Inv X aa σ H s->(∀b∈fp,Gr X aa H b)->tn i s.heap->J.go i H ->
  qV P w X.A (pyNext<|.ref it) (λr s1=>∃u,r=some u /\
   qV P w X.A (letOwnedTupleGo tg (.ref it) u) (λ_ s2=>∃x H',Inv X aa σ H' s2/\Ba x u/\J.yld i H x H'/\tn (i+1) s2.heap/\∀b∈fp,H' b=none) E s1) E s
 done:∀(X:Cx),X.prog=P->X.w=w->X.K=K->X.calm=true->∀(i:Nat) (aa:oA<|lF×lM) (s:lD) (σ:St) (H:Hp) (E:lC->lD->Prop),Inv X aa σ H s->(∀b∈fp,Gr X aa H b)->tn i s.heap->J.stop i H ->
  qV P w X.A (pyNext<|.ref it) (λr s1=>r=none/\Inv X aa σ H s1) E s
 self:∀(A:lK) (i:Nat) (s:lD) (Q:lC->lD->Prop) (E:lC->lD->Prop),tn i s.heap->Q (.ref it) s->qV P w A (pyIter<|.ref it) Q E s
abbrev TI:=St->Hp->(It->Hp->Prop)->Prop
def PIE(X:Cx)(aa:oA<|lF×lM)(σ:St)(tg:lJ)(R:It->Hp->Prop)(f:lC)(d:lD):Prop :=
 ∃(c:lF) (fp:oA lF) (tn:Nat->lL->Prop) (J:It) (H':Hp),f=.ref c/\Inv X aa σ H' d/\Turn X.prog X.w X.K tg J fp c tn/\tn 0 d.heap/\(∀b∈fp,Gr X aa H' b)/\R J H'
def PI(X:Cx)(tg iter:lJ)(b:TI):Prop :=
 ∀(aa:oA<|lF×lM) (s:lD) (σ:St) (H:Hp) (R:It->Hp->Prop),Inv X aa σ H s->b σ H R ->
  qV X.prog X.w X.A (eval iter X.env) (λv c=>qV X.prog X.w X.A (pyIter v) (PIE X aa σ tg R) X.xe c) X.xe s
def Mv{M:Model}{A:lK}{E:lC->lD->Prop}{s:lD}{tg:lJ}{c:lF}{u:lC}{o:lM}{n:String}{d:oC lC}{Q:Unit->lD->Prop}(f:s.heap.get? c=some o)(hc:o.cls=.type n)(g:o.data=.fields d)
  (hn:["enumerate","zip","dict_itemiterator","dict_reverseitemiterator","odict_iterator","itertools.zip_longest","itertools.pairwise"].contains n=false) (b:Q () s):wpAny M A (letOwnedTupleGo tg (.ref c) u) Q E s:=by
 unfold letOwnedTupleGo;cases tg<;>first
  |exact C_ b
  | (cases u<;>first
    |exact C_ b
    | (refine A_ (wpAny_load f ?_)
       rw [hc, g];show wpAny M A (if (["enumerate", "zip", "dict_itemiterator", "dict_reverseitemiterator", "odict_iterator", "itertools.zip_longest", "itertools.pairwise"].contains n&&d[0]? == some (rawInt _)) = true then _ else _) Q E s;rw [M_<|by intro h; rw [hn, Bool.false_and] at h; cases h];exact C_ b))
def Itl(K:lG)(a:lF):It :=
 ⟨λi H=>∃xs x,E4 K H a xs/\xs[i]?=some x,λi H x b=>b=H/\∀xs,E4 K H a xs->xs[i]?=some x,λi H=>∃xs,E4 K H a xs/\xs.length<=i⟩
def Itt(K:lG)(a:lF):It :=
 ⟨λi H=>∃xs x,Il K H a xs/\xs[i]?=some x,λi H x b=>b=H/\∀xs,Il K H a xs->xs[i]?=some x,λi H=>∃xs,Il K H a xs/\xs.length<=i⟩
def Itr(lo:Int)(n:Nat):It:=⟨λi _=>i<n,λi H x b=>b=H/\x=.int (lo+i),λi _=>n<=i⟩
def Td{P:lH}{w:lI}{K:lG}{tg:lJ}(a f:lF):Turn P w K tg (Itl K a) [f] f (λi h=>h.IsListIter f a i) where
 mem:=by simp
 obj:=λi h st b hb=>by
  have e:b=f:=by simpa using hb
  subst e;obtain⟨o,e,c,d⟩:=st;exact⟨o,e,λv z=>by rw[d]at z;cases z⟩
 keep:=λi h g st k=>st.at λo e=>k f (by simp) o e
 item:=by intro X D m B hc i aa s σ H E I j st n;subst D m B;obtain⟨xs,x,hq,hx⟩:=n;obtain⟨J,l,p,hz⟩:=I.list hq;obtain⟨u,hu,O⟩:=l.get hx;obtain⟨y,q,N,r,A,C⟩:=j f (by simp);refine wpAny_pyNext_list_item st p.isList (x:=u) (by simpa using hu) λg F L=>?_;have M:Inv X aa σ H {s with heap:=g}:=I.turned (t':=s.toks) (λb o hb e=>(L.2 b hb).trans e) y q r A C;obtain⟨o,e,c,d⟩:=id F;exact⟨u,rfl,Mv (s:={s with heap:=g}) e c d (by decide) ⟨x,H,M,O,⟨rfl,λys hy=>by rw[I.list_inj hy hq];exact hx⟩,F,λb hb=>(j b hb).1⟩⟩
 done:=by intro X D m B hc i aa s σ H E I j st n;subst D m B;obtain⟨xs,hq,hx⟩:=n;obtain⟨J,l,p,hz⟩:=I.list hq;obtain⟨y,q,N,r,A,C⟩:=j f (by simp);have Q:=l.length;exact wpAny_pyNext_list_end (I.ok.hd hc) st p.isList (by simp;omega) λg G=>⟨rfl,I.turned (t':=s.toks) (λb o hb e=>G b o hb e) y q r A C⟩
 self:=λ_ _ _ _ _ st h=>wpAny_pyIter_listiter st h
def O9{P:lH}{w:lI}{K:lG}{tg:lJ}(a f:lF):Turn P w K tg (Itt K a) [f] f (λi h=>h.IsTupleIter f a i) where
 mem:=by simp
 obj:=λi h st b hb=>by
  have e:b=f:=by simpa using hb
  subst e;obtain⟨o,e,c,d⟩:=st;exact⟨o,e,λv z=>by rw[d]at z;cases z⟩
 keep:=λi h g st k=>st.at λo e=>k f (by simp) o e
 item:=by intro X F m C hc i aa s σ H E I j st q;subst F m C;obtain⟨xs,x,hq,hx⟩:=q;obtain⟨n,l,p,hz⟩:=I.tuple hq;obtain⟨u,hu,O⟩:=l.get hx;obtain⟨A,r,N,y,B,D⟩:=j f (by simp);refine wpAny_pyNext_tuple_item st (show s.heap.IsTuple a n.toArray from p) (x:=u) (by simpa using hu) λg G L=>?_;have M:Inv X aa σ H {s with heap:=g}:=I.turned (t':=s.toks) (λb o hb e=>(L.2 b hb).trans e) A r y B D;obtain⟨o,e,c,d⟩:=id G;exact⟨u,rfl,Mv (s:={s with heap:=g}) e c d (by decide) ⟨x,H,M,O,⟨rfl,λys hy=>by rw[I.tuple_inj hy hq];exact hx⟩,G,λb hb=>(j b hb).1⟩⟩
 done:=by intro X F m C hc i aa s σ H E I j st q;subst F m C;obtain⟨xs,hq,hx⟩:=q;obtain⟨n,l,p,hz⟩:=I.tuple hq;obtain⟨A,r,N,y,B,D⟩:=j f (by simp);have Q:=l.length;exact wpAny_pyNext_tuple_end (I.ok.hd hc) st (show s.heap.IsTuple a n.toArray from p) (by simp;omega) λg J=>⟨rfl,I.turned (t':=s.toks) (λb o hb e=>J b o hb e) A r y B D⟩
 self:=λ_ _ _ _ _ st h=>wpAny_pyIter_tupleiter st h
def Pa{P:lH}{w:lI}{K:lG}{tg:lJ}(c:lF)(lo:Int)(n:Nat):Turn P w K tg (Itr lo n) [c] c (λi h=>IsRangeIter h c (lo+(i:Nat)*1) ((n:Int)-(i:Nat)) 1) where
 mem:=by simp
 obj:=λi h st b hb=>by
  have e:b=c:=by simpa using hb
  subst e;exact⟨_,st,λv z=>by
   have D:Data.fields _=Data.cell v:=z;cases D⟩
 keep:=λi h d st k=>k c (by simp) _ st
 item:=by intro X y g r hc i aa s σ H E I f st j;subst y g r;obtain⟨p,l,G,m,q,x⟩:=f c (by simp);have W:=Walks.range (prog:=X.prog) (w:=X.w) (I.ok.hd hc) c lo 1 n;refine W.item i s _ _ j st λv d B hv A J=>?_;obtain⟨t,rfl⟩:=hv;have F:Inv X aa σ H {s with heap:=d,toks:=B}:=I.turned (λb o hb e=>J b o (by simpa using hb) e) p l m q x;refine⟨_,rfl,Mv (s:={s with heap:=d,toks:=B}) (n := "range_iterator") A rfl rfl (by decide) ⟨.int<|lo+i,H,F,⟨t,?_⟩,⟨rfl,rfl⟩,A,λb hb=>(f b hb).1⟩⟩;rw[Int.mul_one]
 done:=by intro X y g r hc i aa s σ H E I f st j;subst y g r;obtain⟨p,l,G,m,q,x⟩:=f c (by simp);exact wpAny_pyNext_range_end (I.ok.hd hc) st (by have:n<=i:=j;omega) λd C=>⟨rfl,I.turned (t':=s.toks) (λb o hb e=>C b o hb e) p l m q x⟩
 self:=λ_ _ _ _ _ st h=>wpAny_pyIter_rangeiter st h
def Vu{aa:oA<|lF×lM}{σ:St}{H:Hp}{s:lD}{R:It->Hp->Prop}{E:lC->lD->Prop}{lo hi:Int}{t u v:Tok}{tk:Nat}(I:Inv X aa σ H s)(h1:-(2^62)<=lo)(h2:lo<2^62)(f:-(2^62)<=hi)(g:hi<2^62)
  (q:R (Itr lo (hi-lo).toNat) H):qV X.prog X.w X.A (pyIter<|.ref s.heap.objs.size) (PIE X aa σ tg R) E {s with heap:=s.heap.push {cls:=.type "range",data:=.fields #[.int lo t,.int hi u,.int 1 v]},toks:=tk}:=by
 refine wpAny_pyIter_range (IsRange.new ..) (small_one h1 h2 f g) ?_;have c:Inv X aa σ H {s with heap:=s.heap.push {cls:=.type "range",data:=.fields #[.int lo t,.int hi u,.int 1 v]},toks:=tk}:=I.kept λb o e=>DD _ e;refine⟨(s.heap.push {cls:=.type "range",data:=.fields #[.int lo t,.int hi u,.int 1 v]}).objs.size,[(s.heap.push {cls:=.type "range",data:=.fields #[.int lo t,.int hi u,.int 1 v]}).objs.size],_,_,H,rfl,
  c.kept (t':=tk) λb o e=>DD _ e,Pa _ lo (hi-lo).toNat,?_,λb hb=>?_,q⟩
 have h:lo+((0:Nat):Int)*1=lo:=by simp
 have d:(((hi-lo).toNat:Nat):Int)-((0:Nat):Int)=Builtin.Range.rangeSize lo hi 1:=by rw[rangeSize_one];split<;>omega
 show IsRangeIter _ _ (lo+((0:Nat):Int)*1) ((((hi-lo).toNat:Nat):Int)-((0:Nat):Int)) 1;rw[h,d];exact I_ _ rfl;have e:b=(s.heap.push {cls:=.type "range",data:=.fields #[.int lo t,.int hi u,.int 1 v]}).objs.size:=by simpa using hb
 subst e;exact c.fpOk (F_ _)<|c.hok.fresh<|F_ _
def MZ(c:TA):TI:=λσ H R=>c σ H λd b=>∃j:Int,d=[.int j]/\-(2^62)<=j/\j<2^62/\R (Itr 0 j.toNat) b
def Te{a:lJ}{c:TA}{p pos:Pos}(d:Gl X "range") (i:X.mg "range" = none) (ha:PA X [a] c) (hs:starEach [a] X.env=[(false,eval a X.env)]:=by rfl):PI X tg (.Call (.Name "range" p) [a] [] pos) (MZ c):=by
 intro aa s σ H R I h;refine Call_<|Dt I d i boot_range<|bE (thn (ha pos aa s σ H _ I h) λv o f=>C1 f λn w k m b=>?_) hs rfl;obtain⟨j,e,b,l,q⟩:=b;subst e;cases m with
 |cons r g=>cases g;obtain⟨t,rfl⟩:=r;exact call_range_1<|Vu k (by omega) (by omega) b l<|by simpa using q
def UX(j:TI)(g:TG)(tb:TS):TS:=λD σ H=>j σ H λJ k=>∃W:Nat->Nat->St->Hp->Prop,(∃m,W 0 m σ k)/\∀i m σ H,W i m σ H ->
 (J.stop i H/\D.nx σ H)\/(J.go i H/\∃N:St->Hp->Prop,(∀ c b,N c b->∃f,f<m/\W (i+1) f c b)/\∀x b,J.yld i H x b->g x σ b λd h=>tb {D with nx:=N,ct:=N,bk:=D.nx} d h)
def Iu(fp:oA lF)(h:lL):oA (lF×lM):=fp.filterMap λb=>(h.get? b).map λo=>(b,o)
def E5{fp:oA lF}{h:lL}{b:lF}{o:lM}(hb:b∈fp)(e:h.get? b=some o):(b,o)∈Iu fp h:=jX.mpr ⟨b,hb,by rw[e];rfl⟩
def Tf{fp:oA lF}{h:lL}{p:lF×lM}(hp:p∈Iu fp h):p.1∈fp/\h.get? p.1=some p.2:=by
 obtain⟨b,hb,e⟩:=jX.mp hp;cases q:h.get? b with
 |none=>rw[q]at e;cases e
 |some o=>rw[q]at e;have c:(b,o)=p:=bA e;subst c;exact⟨hb,q⟩
def Inv.pinned{aa:oA<|lF×lM}{σ:St}{H:Hp}{s:lD}{fp:oA lF}(I:Inv X aa σ H s)(i:∀b∈fp,Gr X aa H b)(g:∀b∈fp,∃o,s.heap.get? b=some o/\∀v,o.data≠.cell v):Inv X (aa++Iu fp s.heap) σ H s :=
 I.pins_of λp hp=>(Q_.mp hp).elim (λz=>I.pin p<|aT _ z) λz=>by obtain⟨hb,e⟩:=Tf z;obtain⟨j,h,f,_⟩:=i p.1 hb;obtain⟨o,c,d⟩:=g p.1 hb;rw[e]at c;cases c;exact⟨e,j,h,f,d⟩
def Inv.unpinned{aa pl:oA<|lF×lM}{σ:St}{H:Hp}{s:lD}(I:Inv X (aa++pl) σ H s):Inv X aa σ H s:=I.pins_of λp hp=>I.pin p<|aT _<|aE _ hp
def Vv{iter:lJ}{q:oA lN}{wi:TI}{g:TG}{tb:TS}{pos:Pos}(hp:PassesOwn (model X.prog X.w) X.A X.env X.xe)(hc:X.calm=true)(hi:PI X tg iter wi)(hg:PG X tg g)(hb:PSs X q tb)
  (hs:∀x,foldedSetIterable iter X.env x=pure x:=by intro _;rfl):PS X (.For tg iter q [] pos) (UX wi g tb):=by
 intro aa s σ H D I h;refine wpAny_For (thn (hi aa s σ H _ I h) λv s1 h1=>thn h1 λu9 s2 h2=>?_) hs;obtain⟨it,B,Y,J,H2,e,I2,T,ir,f2,W,⟨m0,w0⟩,fq⟩:=h2;subst e;have R:∀{H':Hp},(∀b∈B,H' b=none)->∀b∈B,Gr X aa H' b:=λhn b hb=>⟨hn b hb,(f2 b hb).2⟩;refine codeAny_forLoop_any (λn U=>∃i p H',Inv X aa p H' U/\Y i U.heap/\(∀b∈B,H' b=none)/\W i n p H') ?_ m0 ⟨0,σ,H2,I2,ir,λb hb=>(f2 b hb).1,w0⟩;rintro n s3 ⟨i,l,L,I3,F,C,w3⟩;rcases fq i n l L w3 with⟨stop,qn⟩|⟨go,N,hN,step⟩;refine fM hp<|thn (T.done X rfl rfl rfl hc i aa s3 l L X.xe I3 (R C) F stop) λr s4 ⟨P,I4⟩=>?_;subst P;exact gY ⟨l,L,I4,qn⟩
 ·refine fM hp<|thn (T.item X rfl rfl rfl hc i aa s3 l L X.xe I3 (R C) F go) λr s4 ⟨u,P,h4⟩=>?_;subst P;refine fM hp<|thn h4 λ_ s5 uk=>?_;obtain⟨x,Z,I5,r5,y5,z,Q⟩:=uk;have M:=I5.pinned (R Q)<|T.obj _ _ z;refine fM hp<|thn (hg _ s5 l Z x u _ M r5<|step x Z y5) λ_ s6 pr=>?_;obtain⟨S,H6,I6,q6⟩:=pr;refine fM hp<|thn (hb _ s6 S H6 _ I6 q6) λf O y=>?_;have again:∀{c:St} {k:Hp},Inv X (aa++Iu B s5.heap) c k O->N c k->∃m,m<n/\∃i p H',Inv X aa p H' O/\Y i O.heap/\(∀b∈B,H' b=none)/\W i m p H':=λ{c k} j G=>by
   obtain⟨m',hm,w7⟩:=hN c k G;refine⟨m',hm,i+1,c,k,j.unpinned,T.keep _ _ _ z λb hb o e=>(j.pin (b,o)<|aT _<|aT _<|E5 hb e).1,λb hb=>?_,w7⟩;obtain⟨o,e,d⟩:=T.obj _ _ z b hb;exact(j.pin (b,o)<|aT _<|aT _<|E5 hb e).2.1
  cases f with
  |next=>obtain⟨c,k,j,G⟩:=y;exact again j G
  |cont=>obtain⟨c,k,j,G⟩:=y;exact again j G
  |brk=>obtain⟨c,k,j,y⟩:=y;exact⟨c,k,j.unpinned,y⟩
  |ret v=>obtain⟨x7,c,k,j,r7,y⟩:=y;exact⟨x7,c,k,j.unpinned,r7,y⟩
end
abbrev R2:=V->V->Hp->VK->Prop
def Gq(X:Cx)(f:lC->lC->Sem lC)(r:R2):Prop :=
 ∀(a:oA<|lF×lM) (s:lD) (b:St) (H:Hp) (x y:V) (v u:lC) (Q:VK),Inv X a b H s->Ba x v->Ba y u->r x y H Q ->
  qV X.prog X.w X.A (f v u) (EP X a b Q) X.xe s
def Fd(X:Cx)(f:lC)(r:oA V->Hp->VK->Prop):Prop :=
 ∀(b:oA<|lF×lM) (s:lD) (c:St) (H:Hp) (xs:oA V) (a:oA lC) (Q:VK),Inv X b c H s->Vals xs a->r xs H Q ->
  qV X.prog X.w X.A (call f a) (EP X b c Q) X.xe s
def NA(r:R2)(d tb:TE):TE:=λa H Q=>d a H λx c=>tb a c λy b=>r x y b Q
def rI(C:Int->Int->Prop)(g:Int->Int->V):R2:=λx y H Q=>∃i j,x=.int i/\y=.int j/\C i j/\Q (g i j) H
def Vw(g:Int->Int->V):R2:=λx y H Q=>∃i j,x=.int i/\y=.int j/\Q (g i j) H
section
variable {X:Cx}{a b c:lJ}{ta tb tc:TE}{pos:Pos}{e:lJ}{es:oA lJ}{te:TE}{t:TA}{aa:oA<|lF×lM}{σ:St}{H:Hp}{s s':lD}{CX:CXT}{k:Nat}{f C:lF}{fd:lO}{ps:oA Str}{sp:Sp}{dvs:oA V}{ds:oA lC}{E:XK}{x m:Str}{p au:Pos}{o:lJ}{id T:String}{r:oA V->Hp->VK->Prop}
def HN(ha:PE X a ta)(hb:PE X b tb){aa:oA<|lF×lM}{s:lD}{σ:St}{H:Hp}{R:V->V->Hp->Prop}(I:Inv X aa σ H s)
  (h:ta σ H λx l=>tb σ l λy d=>R x y d) {Q:lC->lD->Prop} {f:lC->lC->Sem lC}
  (J:∀v u j x y d,Inv X aa σ d j->Ba x v->Ba y u->R x y d->qV X.prog X.w X.A (f v u) Q X.xe j) :
  qV X.prog X.w X.A (eval a X.env) (λv i=>qV X.prog X.w X.A (eval b X.env) (λu g=>qV X.prog X.w X.A (f v u) Q X.xe g) X.xe i) X.xe s:=by
 refine thn (ha aa s σ H _ I h) λv F n=>C1 n λx l G M z=>?_;refine thn (hb aa F σ l _ G z) λu j q=>C1 q λy d D B L=>?_;exact J v u j x y d D M B L
def NB{d:Operator}{r:R2}(l:Gq X (binaryOp d) r)(ha:PE X a ta)(hb:PE X b tb):PE X (.BinOp a d b pos) (NA r ta tb):=by intro aa s σ H Q I h;exact wpAny_BinOp<|HN ha hb I h λv u i x y j w n g q=>l aa i σ j x y v u Q w n g q
def MF{f:lC->lC->Sem lC}{C:Int->Int->Prop}{g:Int->Int->Int}
  (rule:∀(i j:Int) (t u:Tok) (s:lD) (Q:lC->lD->Prop) (E:lC->lD->Prop),C i j->Q (.int (g i j) s.toks) {s with toks:=s.toks+1}->qV X.prog X.w X.A (f (.int i t)<|.int j u) Q E s) :
  Gq X f (rI C λi j=>.int<|g i j):=by
 intro aa s σ H x y v u Q I l d h;obtain⟨i,j,rfl,rfl,hc,q⟩:=h;obtain⟨t,rfl⟩:=l;obtain⟨n,rfl⟩:=d;exact rule i j t n s _ _ hc ⟨.int<|g i j,H,I.tok _,⟨_,rfl⟩,q⟩
def BC{f:lC->lC->Sem lC}{g:Int->Int->Int}
  (rule:∀(i j:Int) (t u:Tok) (s:lD) (Q:lC->lD->Prop) (E:lC->lD->Prop),Q (.int (g i j) s.toks) {s with toks:=s.toks+1}->qV X.prog X.w X.A (f (.int i t)<|.int j u) Q E s) :
  Gq X f (Vw λi j=>.int<|g i j):=by
 intro aa s σ H x y v u Q I l d h;obtain⟨i,j,rfl,rfl,q⟩:=h;obtain⟨t,rfl⟩:=l;obtain⟨n,rfl⟩:=d;exact rule i j t n s _ _ ⟨.int<|g i j,H,I.tok _,⟨_,rfl⟩,q⟩
def BD{f:lC->lC->Sem lC}{g:Int->Int->Bool}
  (rule:∀(i j:Int) (t u:Tok) (s:lD) (Q:lC->lD->Prop) (E:lC->lD->Prop),Q (.bool<|g i j) s->qV X.prog X.w X.A (f (.int i t)<|.int j u) Q E s) :
  Gq X f (Vw λi j=>.bl<|g i j):=by
 intro aa s σ H x y v u Q I l d h;obtain⟨i,j,rfl,rfl,q⟩:=h;obtain⟨t,rfl⟩:=l;obtain⟨n,rfl⟩:=d;exact rule i j t n s _ _ ⟨.bl<|g i j,H,I,rfl,q⟩
def CDiv(i j:Int):Prop:=0<j/\j<1073741824
def CPow(i j:Int):Prop:=0<=j/\j<=1000000/\i.natAbs<2^64
def CMul(i j:Int):Prop:=(-(2^64)<i/\i<2^64)\/(-(2^64)<j/\j<2^64)
def CMul.ok{i j:Int}(h:CMul i j):IntMulOk i j:=by rcases h with⟨h1,h2⟩|⟨h1,h2⟩;exact .of_left<|intBits_le_64 h1 h2;exact .of_right<|intBits_le_64 h1 h2
def Pb(k:Nat):(0:Int)<=2^k:=by rw[two_pow_cast];exact dY _
def HP:Gq X (binaryOp .Add) (Vw λi j=>.int<|i+j):=BC λ_ _ _ _ _ _ _ q=>add_int q
def HQ:Gq X (binaryOp .Sub) (Vw λi j=>.int<|i-j):=BC λ_ _ _ _ _ _ _ q=>sub_int q
def HR:Gq X (binaryOp .Mult) (rI CMul λi j=>.int<|i*j):=MF λ_ _ _ _ _ _ _ hc q=>mul_int q hc.ok
def BE:Gq X (binaryOp .FloorDiv) (rI CDiv λi j=>.int<|i / j):=MF λi j _ _ _ _ _ hc q=>by have h1:(0:Int)<j:=hc.1;have h2:j<1073741824:=hc.2;exact floordiv_int (by omega) (by rw[Int.fdiv_eq_ediv_of_nonneg i<|by omega];exact q)<|.inl<|PyProof.noPylong_small<|by omega
def HS:Gq X (binaryOp .Mod) (rI (λ_ j=>0<j) λi j=>.int<|i%j):=MF λi j _ _ _ _ _ hc q=>by have h1:(0:Int)<j:=hc;exact mod_int' (by omega)<|by rw[Int.fmod_eq_emod_of_nonneg i<|by omega];exact q
def HU:Gq X (binaryOp .Pow) (rI CPow λi j=>.int<|i^j.toNat):=MF λ_ _ _ _ _ _ _ hc q=>pow_int_small hc.1 hc.2.1 hc.2.2 q
def HV:Gq X (binaryOp .LShift) (rI CPow λi j=>.int<|i*2^j.toNat):=MF λ_ _ _ _ _ _ _ hc q=>lshift_int_small hc.1 hc.2.1 hc.2.2 q
def HW:Gq X (binaryOp .RShift) (rI (λ_ j=>0<=j) λi j=>.int<|i / 2^j.toNat):=MF λi j _ _ _ _ _ hc q=>
 rshift_int hc (by rw[Int.fdiv_eq_ediv_of_nonneg i<|Pb _];exact q)
def HX:Gq X (binaryOp .BitAnd) (Vw λi j=>.int<|Builtin.bitAnd i j):=BC λ_ _ _ _ _ _ _ q=>and_int q
def NC:Gq X (binaryOp .BitOr) (Vw λi j=>.int<|Builtin.bitOr i j):=BC λ_ _ _ _ _ _ _ q=>or_int q
def Pc{aa:oA<|lF×lM}{σ:St}{H:Hp}{s:lD}{Q:VK}{k d:Bool}(I:Inv X aa σ H s)(q:Q (.bl k) H)(e:k=d):EP X aa σ Q (.bool d) s:=by subst e;exact⟨.bl k,H,I,rfl,q⟩
def ND:Gq X (compareOp .Lt) (Vw λi j=>.bl<|decide (i<j)):=BD λ_ _ _ _ _ _ _ q=>lt_int q
def NE:Gq X (compareOp .LtE) (Vw λi j=>.bl<|decide (i<=j)):=BD λ_ _ _ _ _ _ _ q=>le_int q
def NF:Gq X (compareOp .Gt) (Vw λi j=>.bl<|decide (j<i)):=BD λ_ _ _ _ _ _ _ q=>gt_int q
def NG:Gq X (compareOp .GtE) (Vw λi j=>.bl<|decide (j<=i)):=BD λ_ _ _ _ _ _ _ q=>ge_int q
def Tg:Gq X (compareOp .In) (λx y H Q=>∃i j,x=.str i/\y=.str j/\Q (.bl<|!(Builtin.Str.occurrences j i 0 j.length 1).isEmpty) H):=by intro aa s σ H x y v u Q I g d h;obtain⟨i,j,rfl,rfl,q⟩:=h;obtain⟨t,rfl⟩:=g;obtain⟨l,rfl⟩:=d;exact in_str<|Pc I q rfl
def Vx:Gq X (compareOp .Is) (λx y H Q=>y=.non/\Q (.bl<|decide (x=.non)) H):=by
 intro aa s σ H x y v u Q I d g h;obtain⟨rfl,q⟩:=h;cases g;refine is_none_gen<|Pc I q ?_;cases x<;>first
  | (cases d;rfl)
  | (obtain⟨t,rfl⟩:=d;rfl)
def Q8:Gq X (compareOp .IsNot) (λx y H Q=>y=.non/\Q (.bl<|!decide (x=.non)) H):=by
 intro aa s σ H x y v u Q I d g h;obtain⟨rfl,q⟩:=h;cases g;refine isnot_none_gen<|Pc I q ?_;cases x<;>first
  | (cases d;rfl)
  | (obtain⟨t,rfl⟩:=d;rfl)
def nomark(b:lJ){d:CmpOp}(h:d≠.In:=by decide)(h2:d≠.NotIn:=by decide):behindInMarks d b=false:=by
 have i:(d==CmpOp.In)=false:=by cases d<;>first|rfl|exact absurd rfl h
 have g:(d==CmpOp.NotIn)=false:=by cases d<;>first|rfl|exact absurd rfl h2
 cases b<;>simp[behindInMarks,i,g]
def BF{d:CmpOp}{r:R2}(l:Gq X (compareOp d) r)(ha:PE X a ta)(hb:PE X b tb)(z:behindInMarks d b=false):PE X (.Compare a [d] [b] pos) (NA r ta tb):=by intro aa s σ H Q I h;exact wpAny_Compare1 (HN ha hb I h λv u i x y j w n g q=>l aa i σ j x y v u Q w n g q) z
def FL(t:TE):TT:=λσ H Q=>t σ H λx d=>∃k,x=.bl k/\Q k d
def BG{d:CmpOp}{r:R2}(n:Gq X (compareOp d) r)(ha:PE X a ta)(hb:PE X b tb)(M:behindInMarks d b=false):PT X (.Compare a [d] [b] pos) (FL<|NA r ta tb):=by
 intro aa s σ H Q I h;refine wpAny_isTrue_Compare1 (thn (ha aa s σ H _ I h) λv w O=>C1 O λx D A P i=>thn (hb aa w σ D _ A i) λu g F=>C1 F λy l q L B=>
  thn (n aa g σ l x y v u _ q P L B) λc R ⟨z,J,N,j,k,e,G⟩=>?_) M
 subst e;cases j;exact gK ⟨J,N,G⟩
def Iv:(sizeLine:Nat)<2^63:=by rw[lA];decide
def Pd:Gq X (binaryOp .Add) (λx y H Q=>∃i j,x=.str i/\y=.str j/\i.length+j.length<=sizeLine/\Q (.str<|i++j) H):=by intro aa s σ H x y v u Q I g d h;obtain⟨i,j,rfl,rfl,hz,q⟩:=h;obtain⟨t,rfl⟩:=g;obtain⟨l,rfl⟩:=d;exact add_str (λl n=>⟨.str<|i++j,H,I.tok _,⟨_,rfl⟩,q⟩) hz
def Eo{x:V}{d:oA lC}(r:Vals [x] d):∃u,d=[u]/\Ba x u:=by
 cases r with
 |cons g h=>cases h;exact⟨_,rfl,g⟩
def NH{x y:V}{g:oA lC}(r:Vals [x,y] g):∃u d,g=[u,d]/\Ba x u/\Ba y d:=by
 cases r with
 |cons i j=>
  cases j with
  |cons l h=>cases h;exact⟨_,_,rfl,i,l⟩
def Th(hc:X.calm=true):Fd X (.builtin "max") (λd H Q=>∃i j,d=[.int i,.int j]/\Q (.int<|if j>i then j else i) H):=by intro aa s σ H d n Q I r h;obtain⟨i,j,rfl,q⟩:=h;obtain⟨u,g,rfl,⟨t,rfl⟩,⟨w,rfl⟩⟩:=NH r;refine max_two_ints (I.ok.hd hc) λv l k=>⟨_,H,I.kept k,?_,q⟩;by_cases hj:j>i;rw[T_ hj,T_ hj];exact⟨_,rfl⟩;rw[M_ hj,M_ hj];exact⟨_,rfl⟩
def Kg:Fd X (.type "int") (λd H Q=>(∃i,d=[.int i]/\Q (.int i) H)\/∃k,d=[.bl k]/\Q (.int<|if k then 1 else 0) H):=by intro aa s σ H d j Q I r h;rcases h with⟨i,rfl,q⟩|⟨k,rfl,q⟩;obtain⟨u,rfl,t,rfl⟩:=Eo r;exact call_int_int ⟨.int i,H,I,⟨_,rfl⟩,q⟩;obtain⟨u,rfl,g⟩:=Eo r;cases g;exact call_int_bool ⟨.int<|if k then 1 else 0,H,I.tok _,⟨_,rfl⟩,q⟩
def Hi.some_of{v:V}{o:oB lC}(r:Hi (some v) o):∃u,o=some u/\Ba v u:=by
 cases o with
 |none=>exact(show False from r).elim
 |some u=>exact⟨u,rfl,r⟩
structure Room(k:Nat)(A:lK):Prop where
 hd:A.handled=none
 dp:A.depth+3*k+5<recursionLimit
 un:A.units+16*k+200<cLine
 gd:A.guards=some []
def Room.mono{j k:Nat}{A:lK}(r:Room k A)(h:j<=k):Room j A:=⟨r.hd,by have:=r.dp;omega,by have:=r.un;omega,r.gd⟩
def Room.deeper{k:Nat}{A:lK}(r:Room (k+1) A)(env:Env):Room k (A.deeper env) :=
 ⟨r.hd,by have:=r.dp;show A.depth+1+3*k+5<_;omega,by have:=r.un;show A.units+3+16*k+200<_;omega,r.gd⟩
def Room.depth{k:Nat}{A:lK}(r:Room k A):A.depth<recursionLimit:=by have:=r.dp;omega
def Room.units{k:Nat}{A:lK}(r:Room k A):A.units+64<cLine:=by have:=r.un;omega
def UY:TA:=λ_ H Q=>Q [] H
def NI(ta:TE)(i:TA):TA:=λσ H Q=>ta σ H λx g=>i σ g λh d=>Q (x::h) d
def HY:PA X [] UY:=λ_ _ _ _ H Q I h=>b_ ⟨[],H,I,.nil,h⟩
def BH(ha:PE X e te)(g:PA X es t)(hs:starEach (e::es) X.env=(false,eval e X.env)::starEach es X.env:=by rfl):PA X (e::es) (NI te t):=by intro pos aa s σ H Q I h;rw[hs];show wpAny _ _ (spliced<|(false,eval e X.env)::backTo pos (starEach es X.env)) _ _ s;refine bG<|thn (ha aa s σ H _ I h) λu v d=>C1 d λx z w B j=>?_;exact thn (g pos aa v σ z _ w j) λF D A=>C1 A λi n q l y=>⟨x::i,n,q,.cons B l,y⟩
def UZ(t:TA):TE:=λσ H Q=>t σ H λg d=>g.length<=sizeLine/\∀p,d p=none->Q (.ref p) (upd d p<|.tup g)
def VB(t:TA):TE:=λσ H Q=>t σ H λg d=>g.length<=sizeLine/\∀p,d p=none->Q (.ref p) (upd d p<|.lst g)
def HZ{x1}(h:PA X es t):PE X (.Tuple es x1 pos) (UZ t):=by intro aa s σ H Q I hq;refine wpAny_Tuple_spliced (thn (h pos aa s σ H _ I hq) λl d ⟨j,i,g,r,z,q⟩=>⟨by rw[<- r.length];exact z,?_⟩);have n:i d.heap.objs.size=none:=g.hok.fresh<|F_ _;refine⟨.ref d.heap.objs.size,upd i d.heap.objs.size<|.tup j,g.laid (t':=d.toks) (λb u e=>DD _ e) (F_ _) ?_,rfl,q _ n⟩;exact⟨z,l,r,⟨_,I_ _ rfl,rfl,_,rfl⟩⟩
def IA(h:PA X es t):PE X (.List es pos) (VB t):=by intro aa s σ H Q I hq;refine wpAny_List_spliced (thn (h pos aa s σ H _ I hq) λl d ⟨j,i,g,r,z,q⟩=>⟨by rw[<- r.length];exact z,?_⟩);have n:i d.heap.objs.size=none:=g.hok.fresh<|F_ _;refine⟨.ref d.heap.objs.size,upd i d.heap.objs.size<|.lst j,g.laid (t':=d.toks) (λb u e=>DD _ e) (F_ _) ?_,rfl,q _ n⟩;exact⟨z,l,0,r,I_ _ rfl⟩
abbrev Sp:=oA V->Hp->VK->XK->Prop
abbrev CXT:=oA Env->Hp->lD->XK->lC->lD->Prop
structure Env0(P:lH)(w:lI)(K:lG)(mg:Str->oB lC)(base:lL)(A:lK)(outer:oA Env)(s:lD)(H:Hp):Prop where
 frames:A.frames=some outer
 mod:Mod K mg base
 bs:∀b o,base.get? b=some o->s.heap.get? b=some o/\H b=none
 bsz:base.objs.size<=s.heap.objs.size
 funs:s.heap.FunFrames base outer
 frf:∀b∈frs outer,H b=none
 hok:HOk P w H s.heap
 bare:AllBare s.gens
def CE(outer:oA Env)(P:lH)(w:lI)(H:Hp)(s:lD)(Q:VK)(u:lC)(s':lD):Prop :=
 ∃v d,s'.os=s.os/\AllBare s'.gens/\Un (frs outer) [] H d s.heap s'.heap/\HOk P w d s'.heap/\Ba v u/\Q v d
def CR(CX:CXT)(outer:oA Env)(P:lH)(w:lI)(H:Hp)(s:lD)(Q:VK)(E:XK)(r:lT)(s':lD):Prop :=
 match r with
 |.ok (.ret u)=>CE outer P w H s Q u s'
 |.ok _=>False
 |.error e=>CX outer H s E e s'
structure FnOk(P:lH)(w:lI)(K:lG)(mg:Str->oB lC)(base:lL)(CX:CXT)(k:Nat)(f:lF)(fd:lO)(ps:oA Str)(sp:Sp):Prop where
 len:∀vs H Q E,sp vs H Q E->vs.length=ps.length
 run:∀(A:lK) (outer:oA Env) (s:lD) (H:Hp) (args:Args) (us:oA lC) (vs:oA V) (Q:VK) (E:XK),Room k A->Env0 P w K mg base A outer s H->BindsTo s fd args (ps.zip us)->Vals vs us->sp vs H Q E ->
  codeAny (model P w) A (.call (.ref f) args) (CR CX outer P w H s Q E) s
def FnOk.mono{P:lH}{w:lI}{K:lG}{i:Str->oB lC}{base:lL}{CX:CXT}{j k:Nat}{f:lF}{fd:lO}{ps:oA Str}{sp:Sp}(F:FnOk P w K i base CX j f fd ps sp)(h:j<=k) :
  FnOk P w K i base CX k f fd ps sp:=⟨F.len,λA d s H g q n Q E l=>F.run A d s H g q n Q E<|l.mono h⟩
def FnOk.imp{P:lH}{w:lI}{K:lG}{l:Str->oB lC}{base:lL}{CX:CXT}{k:Nat}{f:lF}{fd:lO}{ps:oA Str}{sp j:Sp}(F:FnOk P w K l base CX k f fd ps sp)
  (h:∀g H Q E,j g H Q E->sp g H Q E):FnOk P w K l base CX k f fd ps j :=
 ⟨λg H Q E q=>F.len g H Q E<|h _ _ _ _ q,λA d s H i u g Q E n he hb hv v=>F.run A d s H i u g Q E n he hb hv<|h _ _ _ _ v⟩
def Inv.env0(I:Inv X aa σ H s):Env0 X.prog X.w X.K X.mg X.base X.A X.stack s H :=
 ⟨I.ok.frames,I.ok.mod,I.bs,K_ I.ok.bsz I.sz,I.stack,I.stkFree,I.hok,I.bare⟩
def Inv.after{Q:VK}{u:lC}(I:Inv X aa σ H s)(h:CE X.stack X.prog X.w H s Q u s'):EP X aa σ Q u s':=by obtain⟨v,A,os,i,n,j,r,q⟩:=h;obtain⟨y,g,d,t,l⟩:=s';obtain rfl:l=s.os:=os;exact⟨v,A,I.call (h':=y) (g':=g) (d':=d) (t':=t) (ch:=[]) n j i λb z=>absurd z<|by simp,r,q⟩
def NJ(sp:Sp)(dvs:oA V)(E:XK)(t:TA):TE:=λσ H Q=>t σ H λd g=>sp (d++dvs) g Q E
def Binds(K:lG)(fd:lO)(ps:oA Str)(ds:oA lC):Prop :=
 ∀(s:lD) (d:oA lC),K.In s.heap->(d++ds).length=ps.length->BindsTo s fd ⟨d,[]⟩ (ps.zip<|d++ds)
def Binds.all{K:lG}{fd:lO}{ps:oA Str}(h:∀d:oA lC,d.length=ps.length->bindArgs fd ⟨d,[]⟩=pure (ps.zip d)):Binds K fd ps []:=λs d _ g=>by rw[cL]at g ⊢;exact .of_eq<|h d g
def Passes(CX:CXT)(X:Cx)(E:XK):Prop:=∀(aa:oA<|lF×lM) (σ:St) (H:Hp) (s:lD) (e:lC) (s':lD),Inv X aa σ H s->CX X.stack H s E e s'->X.xe e s'
def IB{aa:oA<|lF×lM}{σ:St}{H:Hp}{s:lD}{Q:VK}{d:oA lC}{g:oA V}(F:FnOk X.prog X.w X.K X.mg X.base CX k f fd ps sp)(j:Room k X.A)(hb:Binds X.K fd ps ds)(n:Vals dvs ds)(hx:Passes CX X E) (I:Inv X aa σ H s) (r:Vals g d) (h:sp (g++dvs) H Q E):qV X.prog X.w X.A (call (.ref f) d) (EP X aa σ Q) X.xe s:=by
 have i:Vals (g++dvs) (d++ds):=r.append n;have l:(d++ds).length=ps.length:=by rw[<- i.length];exact F.len _ _ _ _ h
 refine wpAny_call<|jU (F.run X.A X.stack s H ⟨d,[]⟩ (d++ds) (g++dvs) Q E j I.env0 (hb s d I.kIn l) i h) λr s' hq=>?_;cases r with
 |error e=>exact hx aa σ H s e s' I hq
 |ok fl=>
  cases fl with
  |ret u=>exact I.after hq
  |next=>exact False.elim hq
  |brk=>exact False.elim hq
  |cont=>exact False.elim hq
def Q9(F:FnOk X.prog X.w X.K X.mg X.base CX k f fd ps sp)(g:Room k X.A)(i:Gl X x)(l:X.mg x=some (.ref f))(hk:PySem.W.keepIn X.K (.ref f)=true)(hb:Binds X.K fd ps ds)(n:Vals dvs ds)(hx:Passes CX X E)
  (ha:PA X (e::es) t) (hdb:(x==("__debug__" : Str))=false:=by decide) (he:starEach (e::es) X.env=(false,eval e X.env)::starEach es X.env:=by rfl) (hpl:(backTo pos<|starEach es X.env).any (·.1)=false:=by rfl) :
  PE X (.Call (.Name x p) (e::es) [] pos) (NJ sp dvs E t):=by
 intro aa s σ H Q I h;refine cF<|Q6 I i l ?_ hdb;refine PySem.W.callWith_K (h₀:=X.base) I.ok.mod.kin hk (thn (ha pos aa s σ H _ I h) λy v j=>C1 j λu z d r q=>⟨d.kIn,?_⟩) he hpl;exact IB F g hb n hx d r q
structure FnScope(N P:oA Str)(sc:lQ):Prop where
 kind:sc.kind=.function
 co:sc.isCoroutine=false
 gen:sc.isGenerator=false
 nd:N.Nodup
 pre:N.take P.length=P
 par:∀x∈P,sc.names.lookup x=some .local\/sc.names.lookup x=some .cell
 nofree:∀y∈sc.names,y.2≠.free
theorem Kh{kindOf:Str->oB lR}{x:Str}:∀{d:oA<|Str×lC} {m:Str->oB lC},(∀v,(x,v)∉d)->bindL kindOf d m x=m x
 |[],_,_=>rfl
 | (n,v)::r,m,h=>by
  unfold bindL;rw[Kh λw g=>h w<|aH _ g];split;have:x≠n:=by rintro rfl;exact h v aS
  simp[this]
  rfl
theorem Ki{kindOf:Str->oB lR}{x:Str}:∀{d:oA<|Str×lC} {m:Str->oB lC},(∀v,(x,v)∉d)->bindC kindOf d m x=m x
 |[],_,_=>rfl
 | (n,v)::r,m,h=>by
  unfold bindC;rw[Ki λw g=>h w<|aH _ g];split
  rfl
  have:x≠n:=by rintro rfl;exact h v aS
  simp[this]
theorem Kj{kindOf:Str->oB lR}{x:Str}{v:lC}:∀{P:oA Str} {d:oA lC} {i:Nat} {m:Str->oB lC},P.Nodup->P[i]?=some x->d[i]?=some v->kindOf x=some .local ->
  bindL kindOf (P.zip d) m x=some v
 |[],_,_,_,_,h,_,_=>by simp at h
 |_::_,[],_,_,_,_,h,_=>by simp at h
 |p::P,w::d,0,m,nd,h1,h2,hk=>by simp at h1 h2;subst h1;subst h2;show bindL kindOf ((p,w)::P.zip d) m p=_;unfold bindL;rw[Kh λv hv=>(cB.mp nd).1 (gZ hv).1,T_ hk];simp
 |p::P,w::d,i+1,m,nd,h1,h2,hk=>by show bindL kindOf ((p,w)::P.zip d) m x=_;unfold bindL;exact Kj (i:=i) (cB.mp nd).2 (by simpa using h1) (by simpa using h2) hk
theorem Kk{kindOf:Str->oB lR}{x:Str}{v:lC}:∀{P:oA Str} {d:oA lC} {i:Nat} {m:Str->oB lC},P.Nodup->P[i]?=some x->d[i]?=some v->kindOf x≠some .local ->
  bindC kindOf (P.zip d) m x=some v
 |[],_,_,_,_,h,_,_=>by simp at h
 |_::_,[],_,_,_,_,h,_=>by simp at h
 |p::P,w::d,0,m,nd,h1,h2,hk=>by simp at h1 h2;subst h1;subst h2;show bindC kindOf ((p,w)::P.zip d) m p=_;unfold bindC;rw[Ki λv hv=>(cB.mp nd).1 (gZ hv).1,M_ hk];simp
 |p::P,w::d,i+1,m,nd,h1,h2,hk=>by show bindC kindOf ((p,w)::P.zip d) m x=_;unfold bindC;exact Kk (i:=i) (cB.mp nd).2 (by simpa using h1) (by simpa using h2) hk
def start(N:oA Str)(d:oA V):St:=d.map some++List.replicate (N.length-d.length) none
def Lg(CX:CXT)(P:lH)(w:lI)(K:lG)(mg:Str->oB lC)(base:lL)(N:oA Str)(g:Str)(d:lQ)(f:lF)(h:lC)(A:lK)(outer:oA Env)(s:lD)(H:Hp)(E:XK):Cx where
 prog:=P
 w:=w
 K:=K
 mg:=mg
 base:=base
 A:=A.deeper (envOfC g d s.heap.objs.size f h)
 N:=N
 s₀:=s
 H₀:=H
 env:=envOfC g d s.heap.objs.size f h
 outer:=outer
 stack:=envOfC g d s.heap.objs.size f h::outer
 ex:=[]
 calm:=true
 fn:=λ_=>true
 pn:=[]
 xe:=λe s'=>qV P w (A.deeper<|envOfC g d s.heap.objs.size f h) («leaving» (envOfC g d s.heap.objs.size f h) e) (λ_ i=>CX outer H s E e i) (λj i=>CX outer H s E j i) s'
def Mw{sc:lQ}{n:Nat}{x:Str}(h:sc.names.lookup x=some .cell):∃c,(cellsFrom n sc.names []).lookup x=some c:=by have q:=PySem.W.cellsFrom_some sc.names n []<|.inl h;exact Option.isSome_iff_exists.mp q
def Ti{CX:CXT}{P:lH}{w:lI}{K:lG}{G:Str->oB lC}{base:lL}{N ps:oA Str}{g:Str}{d:lQ}{f:lF}{B:lC}{A:lK}{outer:oA Env}{s J:lD}{H:Hp}{E:XK}{D:oA lC}{l:oA V}
  (S:FnScope N ps d) (O:A.handled=none) (j:Env0 P w K G base A outer s H) (U:l.length=ps.length) (r:Vals l D)
  (x:InCallC s s.heap.objs.size (bindL (envOfC g d s.heap.objs.size f B).kindOf (ps.zip D) λ_=>none) (cellsFrom (s.heap.objs.size+1) d.names []) (bindC (envOfC g d s.heap.objs.size f B).kindOf (ps.zip D) λ_=>none) J) :
  Inv (Lg CX P w K G base N g d f B A outer s H E) [] (start N l) H J:=by
 have M:ps.length<=N.length:=by have:=bO List.length S.pre;rw[bI]at this;omega
 obtain⟨h1,Q,rfl,hk⟩:=x.done;have F:∀b:lF,b∉(Lg CX P w K G base N g d f B A outer s H E).ex:=λb z=>absurd (show b∈([]:oA lF) from z) (by simp);refine⟨⟨j.mod,S.kind,rfl,rfl,F_ _,λy z c h1 h2=>?_,λy hy=>?_,λy c _ h=>?_,λ_=>O,Around.frames_deeper j.frames,.inr ⟨rfl,rfl⟩,λb z=>absurd z<|F b,j.bs,j.bsz,λb _ _=>F b,λb z=>absurd z<|F b,j.funs,j.frf⟩,
  rfl,j.bare,Un.kept hk,⟨_,x.toInCall.ns,λi y v h1 h2 R=>?_⟩,λy c h=>⟨_,x.cell y c h⟩,j.hok.fresh<|F_ _,λy c h=>?_,λp hp=>absurd (show p∈([]:oA<|lF×lM) from hp)<|by simp,j.hok.kept hk,?_⟩
 exact name_of_addr x.apart (fV h1)<|fV h2
 have hy:d.names.lookup y=some .cell\/d.names.lookup y=some .free:=hy;rcases hy with hy|hy;exact Mw hy;exact absurd rfl<|S.nofree _<|fV hy;exact dD<|x.above y c<|fV h
 ·have hi:i<l.length:=by
   unfold start at h2;by_cases hi:i<l.length;exact hi;rw[cH<|by simpa using hi]at h2;rw[List.getElem?_replicate]at h2;split at h2<;>cases h2
  have ha:l[i]?=some v:=by
   unfold start at h2;rw[dC<|by simpa using hi,L_]at h2;cases e:l[i]? with
   |none=>rw[e]at h2;cases h2
   |some a=>rw[e]at h2;cases h2;rfl
  obtain⟨u,hu,L⟩:=r.get ha;have hp:ps[i]?=some y:=by rw[<- S.pre,List.getElem?_take_of_lt<|by omega];exact h1
  have I:ps.Nodup:=by rw[<- S.pre];exact S.nd.sublist<|eY _ _
  refine⟨u,L,?_⟩;rcases S.par y (W_ hp) with k|k;exact .inl ⟨k,Kj I hp hu k⟩;obtain⟨c,e⟩:=Mw (n:=s.heap.objs.size+1) k;refine .inr ⟨.inl k,c,e,?_⟩;have q:=x.cell y c e;rw[Kk I hp hu<|by show d.names.lookup y≠_;rw[k];decide]at q;exact q
 exact j.hok.fresh<|dD<|x.above y c<|fV h
 unfold start;show _=N.length;rw[P_,B_,List.length_replicate];omega
def FM{CX:CXT}{P:lH}{w:lI}{K:lG}{G:Str->oB lC}{base:lL}{k:Nat}{f:lF}{name g:Str}{h:Arguments}{i:oA lN}{d:lQ}{U kV bw Y z ct oc:lC}{R od:oB lF}
  {fj:oC<|oB lC} {N ps:oA Str} {sp:Sp} (lk:K.lookup f=some ⟨oc,od,.func<|PySem.W.fnOf name g h i d U kV bw Y R z ct,fj⟩) (g7:PySem.W.codeIn K z g=true) (S:FnScope N ps d)
  (len:∀j H Q E,sp j H Q E->j.length=ps.length)
  (bz:∀(A:lK) (outer:oA Env) (s:lD) (H:Hp) (j:oA V) (Q:VK) (E:XK),Room k (A.deeper<|envOfC g d s.heap.objs.size f z)->sp j H Q E ->
   ∃t,PSs (Lg CX P w K G base N g d f z A outer s H E) i t/\t {nx:=λ_ H'=>Q .non H',rt:=Q} (start N j) H) :
  FnOk P w K G base CX (k+1) f (PySem.W.fnOf name g h i d U kV bw Y R z ct) ps sp:=by
 refine⟨len,λA outer s H Z us j Q E O D hb r gw=>?_⟩;have hl:=len _ _ _ _ gw;have KX:K.In s.heap:=D.mod.kin.keeps λb o e=>(D.bs b o e).1;have L:s.heap.NoLimit:=D.mod.nolimit.keeps λb o e=>(D.bs b o e).1;have rf:∀y∈ps.zip us,d.names.lookup y.1=some .local\/(d.names.lookup y.1=some .cell/\((cellsFrom (s.heap.objs.size+1) d.names []).lookup y.1).isSome=true):=λ⟨n,v⟩ hy=>by rcases S.par n (gZ hy).1 with q|q;exact .inl q;exact .inr ⟨q,PySem.W.cellsFrom_some _ _ _<|.inl q⟩
 refine codeAny_call_function O.depth (KX _ _ lk) rfl S.co S.gen rfl (PySem.W.codeRec_of KX g7)<|hb _ _ _ _ ?_;refine wpAny_newFunctionEnv_cells S.kind rf λenv he s1 x=>?_;subst he;refine⟨L.keeps x.toInCall.keep,codeAny_func ?_⟩;obtain⟨t,ht,hq⟩:=bz A outer s H j Q E (O.deeper _) gw;have I:Inv (Lg CX P w K G base N g d f z A outer s H E) [] (start N j) H s1:=Ti S O.hd D hl r x;refine cD (ht [] s1 (start N j) H _ I hq) (λfl s' B=>?_) λe s' B=>B;have F:∀{l:St} {H':Hp} {v:V} {u:lC},Inv (Lg CX P w K G base N g d f z A outer s H E) [] l H' s'->Ba v u->Q v H'->CE outer P w H s Q u s' :=
  λ{l H' v u} J M q=>⟨v,H',J.os,J.bare,J.base,J.hok,M,q⟩
 cases fl with
 |ret u=>obtain⟨v,l,H',J,M,q⟩:=B;exact F J M q
 |next=>obtain⟨l,H',J,q⟩:=B;exact F (v:=V.non) (u:=Value.none) J rfl q
 |brk=>obtain⟨_,_,_,q⟩:=B;exact False.elim q
 |cont=>obtain⟨_,_,_,q⟩:=B;exact False.elim q
def VC(r:oA V->Hp->VK->Prop)(t:TA):TE:=λσ H Q=>t σ H λg d=>r g d Q
def Vy(hc:Fd X (.builtin id) r)(g:Gl X x)(n:X.mg x=none)(hv:bootBuiltins x=some (.builtin id))(ha:PA X (e::es) t)(hn:x ≠ "__name__" := by decide) (hdb:(x==("__debug__" : Str))=false:=by decide)
  (he:starEach (e::es) X.env=(false,eval e X.env)::starEach es X.env:=by rfl) (hpl:(backTo pos<|starEach es X.env).any (·.1)=false:=by rfl):PE X (.Call (.Name x p) (e::es) [] pos) (VC r t):=by
 intro aa s σ H Q I h;refine cF<|Dt I g n hv ?_ hn hdb;exact iW (thn (ha pos aa s σ H _ I h) λq l d=>C1 d λj v u w i=>hc aa l σ v j q Q u w i) he hpl
def Tj(hc:Fd X (.type T) r)(d:Gl X x)(n:X.mg x=none)(hv:bootBuiltins x=some (.type T))(ha:PA X (e::es) t)(hn:x ≠ "__name__" := by decide) (hdb:(x==("__debug__" : Str))=false:=by decide)
  (he:starEach (e::es) X.env=(false,eval e X.env)::starEach es X.env:=by rfl) (hpl:(backTo pos<|starEach es X.env).any (·.1)=false:=by rfl):PE X (.Call (.Name x p) (e::es) [] pos) (VC r t):=by
 intro aa s σ H Q I h;refine cF<|Dt I d n hv ?_ hn hdb;exact bE (thn (ha pos aa s σ H _ I h) λq l g=>C1 g λj v u w i=>hc aa l σ v j q Q u w i) he hpl
end
end L2
namespace HT
open PySem PyProof.Rows
section
open PySem.SeqAt
open PySem.AutoSeq1 (wpAny_loadPart')
open PySem.MeetsSeq PySem.MeetsSeq2 PySem.MeetsSeq3
end
section
variable {prog:lH}{w:lI}{A:lK}{E:lC->lD->Prop}{s:lD}
def cat_tup{t b:lF}{c a:oA lC}{Q:lC->lD->Prop}(q:IsTup s.heap t c.toArray)(hb:IsTup s.heap b a.toArray)(hv:c≠[])
  (h1:a=[]->Q (.ref t) s) (h2:a≠[]->Q (.ref s.heap.objs.size) {s with heap:=s.heap.push {cls:=.type "tuple",data:=.seq (c++a).toArray}})
  (hsz:c.length+a.length<=sizeLine):qV prog w A (binaryOp .Add (.ref t)<|.ref b) Q E s:=by
 obtain⟨⟨cls,dd,data,l⟩,j,hc,n,o⟩:=id q;obtain⟨⟨k,d,data2,f⟩,i,g,m,p⟩:=id hb;simp only at hc o g p;subst hc o g p;have e:c.toArray++a.toArray=(c++a).toArray:=by simp
 by_cases h:a=[];exact concat_meets ⟨_,j,rfl⟩ ⟨_,i,rfl⟩ kP seq_tuple_add iF iD (gV _ _)
  (tuple_addW1 t b c.toArray a.toArray n m dd d l f (by simpa using hv)<|by simp[h]) ⟨j,i,h1 h⟩
 refine concat_meets ⟨_,j,rfl⟩ ⟨_,i,rfl⟩ kP seq_tuple_add iF iD (gV _ _)
  (tuple_addW2 t b c.toArray a.toArray n m dd d l f (by simpa using hv) (by simpa using h)<|by rw[aA,aA];exact hsz) ⟨j,i,?_⟩
 rw[e];exact h2 h
def sIx(n d:Nat):oB Int->Nat
 |none=>d
 |some v=>if v<0 then(v+(n:Int)).toNat else min v.toNat n
def sIx_none(n d:Nat):sIx n d none=d:=rfl
def sIx_nat(n d k:Nat):sIx n d (some (k:Int))=min k n:=by show(if(k:Int)<0 then((k:Int)+(n:Int)).toNat else min (k:Int).toNat n)=min k n;rw[M_<|by omega,cP]
def IC(n d:Nat)(a:d<=n)(o:oB Int):sIx n d o<=n:=by
 cases o with
 |none=>exact a
 |some v=>show(if v<0 then(v+(n:Int)).toNat else min v.toNat n)<=n;by_cases hv:v<0;rw[T_ hv];omega;rw[M_ hv];exact Nat.min_le_right _ _
def Ra(v:Int)(n d:Nat):(if v<0 then max (v+(n:Int)) 0 else min v (n:Int))=((sIx n d (some v):Nat):Int):=by show(if v<0 then max (v+(n:Int)) 0 else min v (n:Int))=(((if v<0 then(v+(n:Int)).toNat else min v.toNat n):Nat):Int);by_cases hv:v<0;simp only[if_pos hv];omega;simp only[if_neg hv];omega
def Pe(lo hi:oB Int)(n:Nat):Builtin.Slice.sliceAdjust lo hi 1 (n:Int)=(((sIx n 0 lo:Nat):Int),((sIx n n hi:Nat):Int)):=by
 have h1:¬((1:Int)<0):=by omega
 unfold Builtin.Slice.sliceAdjust;simp only[h1,if_false];refine lB ?_ ?_
 ·cases lo with
  |none=>rfl
  |some v=>exact Ra v n 0
 ·cases hi with
  |none=>rfl
  |some v=>exact Ra v n n
def Pg(i j:Nat):Builtin.Slice.slicePlaces (i:Int) (j:Int) 1=j-i:=by
 unfold Builtin.Slice.slicePlaces;have h1:(1:Int)>0:=by omega
 simp only[h1,if_true,Int.ediv_one];split<;>omega
def Iw{v:lC}{o:oB Int}{Q:oB Int->lD->Prop}(p:IsPart v o)(h:Q o s):qV prog w A (Builtin.Slice.slicePartIndex v) Q E s:=by
 cases p with
 |none=>exact slicePart_none h
 |int i t=>exact slicePart_int h
def Ep{e:lF}{c d:lC}{lo hi:oB Int}{n:Nat}{Q:Int×Int×Nat->lD->Prop}(hs:s.heap.IsSliceOf e c d .none)(pl:IsPart c lo)(f:IsPart d hi)
  (h:Q (((sIx n 0 lo:Nat):Int),1,sIx n n hi-sIx n 0 lo) s):qV prog w A (Builtin.Slice.sliceApplied (.ref e)<|pure (n:Int)) Q E s:=by
 obtain⟨os,b,g,a⟩:=id hs;unfold Builtin.Slice.sliceApplied Builtin.Slice.sliceFields;refine A_<|A_<|cK b a (x:=c) rfl<|A_<|cK b a (x:=d) rfl<|A_<|cK b a (x:=.none) rfl<|C_ ?_;refine A_<|slicePart_none ?_;show wpAny _ _ (if((1:Int)==0)=true then _ else _) _ _ s;rw[M_<|by decide];refine A_<|Iw pl<|A_<|Iw f<|A_<|C_ ?_;show wpAny _ _ (match Builtin.Slice.sliceAdjust lo hi 1 (n:Int) with|(lo,hi)=>pure (lo,(1:Int),Builtin.Slice.slicePlaces lo hi 1)) _ _ s;rw[Pe lo hi n];show wpAny _ _ (pure (((sIx n 0 lo:Nat):Int),(1:Int),Builtin.Slice.slicePlaces ((sIx n 0 lo:Nat):Int) ((sIx n n hi:Nat):Int) 1)) _ _ s;rw[Pg];exact C_ h
def Vz(xs:oC lC)(i k:Nat):((List.range k).filterMap λ(m:Nat)=>xs[((i:Int)+(m:Int)*1).toNat]?).toArray=((xs.toList.drop i).take k).toArray:=by
 have e:(λ(m:Nat)=>xs[((i:Int)+(m:Int)*1).toNat]?)=λm=>xs[i+m]?:=by
  funext m
  have:((i:Int)+(m:Int)*1).toNat=i+m:=by omega
  rw[this]
 rw[e];have:=pick_run xs i k;rw[List.filterMap_map]at this;have a:((λx=>xs[x]?) ∘ λx=>i+x)=λm=>xs[i+m]?:=rfl;rw[a]at this;rw[this]
def getItem_tuple_cut{t c:lF}{items:oC lC}{f e:lC}{lo hi:oB Int}{Q:lC->lD->Prop}(a:IsTup s.heap t items)(hs:s.heap.IsSliceOf c f e .none)(pl:IsPart f lo)(n:IsPart e hi)
  (j:¬(sIx items.size 0 lo=0/\sIx items.size items.size hi=items.size))
  (h:Q (.ref s.heap.objs.size) {s with heap:=s.heap.push {cls:=.type "tuple",data:=.seq ((items.toList.drop<|sIx items.size 0 lo).take<|sIx items.size items.size hi-sIx items.size 0 lo).toArray}})
  (hsz:items.size<=sizeLine):qV prog w A (getItem (.ref t)<|.ref c) Q E s:=by
 have b:sizeOk (.seq ((items.toList.drop<|sIx items.size 0 lo).take<|sIx items.size items.size hi-sIx items.size 0 lo).toArray):=by show((items.toList.drop<|sIx items.size 0 lo).take<|sIx items.size items.size hi-sIx items.size 0 lo).toArray.size<=sizeLine;rw[aA,bI,dZ,aR];omega
 have hj:sIx items.size items.size hi<=items.size:=IC _ _ (F_ _) hi;obtain⟨os,d,i,k⟩:=id hs;have l:s.TypeIs (.ref c) "slice" := ⟨os,d,i⟩;unfold getItem
 try with_reducible refine bK ?_
 first|refine A_ (C_ ?_)|skip
 refine A_ (wpAny_sequenceKey a.typeIs (by decide) ?_);refine A_<|aU (name:=Str.ofString "__getitem__") a.typeIs cZ
  (aN cZ a.typeIs entry_tuple_getitem ?_<|args_tuple_getitem _ _)
 show wpAny _ _ (Builtin.Tuple.tupleItemsOf (.ref t)>>=_) _ _ s;refine A_<|tupleItemsOf_ a ?_;refine A_<|fN l ?_;rw[T_<|by decide];refine A_<|Ep hs pl n ?_;have g:¬((((sIx items.size 0 lo:Nat):Int)==0&&(1:Int)==1&&(sIx items.size items.size hi-sIx items.size 0 lo)==items.size)=true):=by intro q;rw[aY,aY]at q;have o:((sIx items.size 0 lo:Nat):Int)=0:=eq_of_beq q.1.1;have p:sIx items.size items.size hi-sIx items.size 0 lo=items.size:=eq_of_beq q.2;exact j ⟨by omega,by omega⟩
 show wpAny _ _ (if(((sIx items.size 0 lo:Nat):Int)==0&&(1:Int)==1&&(sIx items.size items.size hi-sIx items.size 0 lo)==items.size)=true then _ else _) _ _ s;rw[M_ g,Vz]
 first
  |exact A_ (m:=Builtin.Tuple.tupleExact _) (Z_ (C_ ⟨_,rfl,C_ h⟩) b)
  |exact A_ (m:=Builtin.Tuple.tupleExact _) (Z_ (A_<|C_<|C_ ⟨_,rfl,C_ h⟩) b)
  |exact A_ (A_ (m:=Builtin.Tuple.tupleExact _)<|Z_ (C_<|C_ ⟨_,rfl,C_ h⟩) b)
  |exact A_<|A_ (m:=Builtin.Tuple.tupleExact _)<|Z_ (C_ ⟨_,rfl,C_ h⟩) b
end
end HT
namespace L2
open PySem PySem.Spec PyProof.Rows
abbrev TO:=St->Hp->(oB Int->Hp->Prop)->Prop
def PO(X:Cx)(e:oB lJ)(t:TO):Prop :=
 ∀(c:oA<|lF×lM) (s:lD) (a:St) (H:Hp) (Q:oB Int->Hp->Prop),Inv X c a H s->t a H Q ->
  qV X.prog X.w X.A (evalPart e X.env) (λu d=>∃o b,Inv X c a b d/\IsPart u o/\Q o b) X.xe s
def BI:TO:=λ_ H Q=>Q none H
def NK(t:TE):TO:=λb H Q=>t b H λx a=>∃i,x=.int i/\Q (some i) a
section
variable {X:Cx}{e:lJ}{te:TE}{lo hi:oB lJ}{tl th:TO}{pos p2:Pos}{a b:lJ}{ta tb:TE}{o:lJ}{es:oA lJ}{to:TE}{t:TA}{name:Str}{au ak:Pos}{T id:String}{r:V->oA V->Hp->VK->Prop}
def BJ:PO X none BI:=by intro c s d H Q I h;rw[evalPart_none];exact C_ ⟨none,H,I,.none,h⟩
def BK(h:PE X e te):PO X (some e) (NK te):=by intro g s l H Q I d;rw[evalPart_some];refine thn (h g s l H _ I d) λu n c=>C1 c λx k j m f=>?_;obtain⟨i,rfl,q⟩:=f;obtain⟨t,rfl⟩:=m;exact⟨some i,k,j,.int i t,q⟩
def NL(X:Cx)(r:V->oB Int->oB Int->Hp->VK->Prop):Prop :=
 ∀(g:oA<|lF×lM) (s:lD) (h:St) (H:Hp) (x:V) (v c d:lC) (lo hi:oB Int) (f:lF) (Q:VK),Inv X g h H s->Ba x v->s.heap.IsSliceOf f c d .none->IsPart c lo->IsPart d hi->r x lo hi H Q ->
  ∃T id,typeLookup (.type T) "__getitem__" = pure (some<|.builtin id)/\s.TypeIs v T/\qV X.prog X.w X.A (getItem v<|.ref f) (EP X g h Q) X.xe s
def ZL(r:V->oB Int->oB Int->Hp->VK->Prop)(te:TE)(tl th:TO):TE:=λc H Q=>te c H λx f=>tl c f λl d=>th c d λu g=>r x l u g Q
def V0{r:V->oB Int->oB Int->Hp->VK->Prop}(k:NL X r)(he:PE X e te)(S:PO X lo tl)(hu:PO X hi th):PE X (.Subscript e (.Slice lo hi none p2) pos) (ZL r te tl th):=by intro d s f H Q I h;refine Subscript_<|thn (he d s f H _ I h) λv C G=>C1 G λx L E W p=>?_;refine wpAny_Slice<|thn (S d C f L _ E p) λi n P=>C1 P λl y B O F=>thn (hu d n f y _ B F) λg c R=>C1 R λu j U z M=>?_;rw[evalPart_none];refine C_ ?_;have D:Inv X d f j {c with heap:=c.heap.push {cls:=.type "slice",data:=.fields #[i,g,.none]}}:=U.kept (t':=c.toks) λb Y q=>DD _ q;obtain⟨T,id,N,J,m⟩:=k d {c with heap:=c.heap.push {cls:=.type "slice",data:=.fields #[i,g,.none]}} f j x v i g l u c.heap.objs.size Q D W (Heap.IsSliceOf.new ..) O z M;show qV X.prog X.w X.A (subscriptTail e (.Slice lo hi none p2) v<|.ref c.heap.objs.size) (EP X d f Q) X.xe {c with heap:=c.heap.push {cls:=.type "slice",data:=.fields #[i,g,.none]}};exact tail_any (ops:=[.ref c.heap.objs.size,v]) J N m<|by with_unfolding_all rfl
def J7(xs:oA V)(lo hi:oB Int):oA V:=(xs.drop<|HT.sIx xs.length 0 lo).take<|HT.sIx xs.length xs.length hi-HT.sIx xs.length 0 lo
def Ib(xs:oA V)(lo hi:oB Int):(J7 xs lo hi).length<=xs.length:=by unfold J7;rw[bI,dZ];omega
def VD(K:lG):V->oB Int->oB Int->Hp->VK->Prop:=λx lo hi H Q=>∃a c,x=.ref a/\Il K H a c /\
 ¬(HT.sIx c.length 0 lo=0/\HT.sIx c.length c.length hi=c.length)/\∀p,H p=none->Q (.ref p) (upd H p<|.tup<|J7 c lo hi)
def ID:NL X (VD X.K):=by
 intro u s z H x v w n lo hi p Q I k m g l h;obtain⟨a,c,rfl,hx,i,q⟩:=h;cases k;obtain⟨j,r,f,hz⟩:=I.tuple hx;have d:j.toArray.size=c.length:=by rw[aA];exact r.length.symm
 refine⟨"tuple",_,cZ.lookup,f.typeIs,?_⟩;refine HT.getItem_tuple_cut f m g l (by rw[d];exact i) ?_ (by rw[d];exact hz);rw[d];refine⟨.ref s.heap.objs.size,_,I.laid (t':=s.toks) (o:=.tup<|J7 c lo hi) (λb y q=>DD _ q) (F_ _) ?_,rfl,q _<|I.hok.fresh<|F_ _⟩;exact⟨K_ (Ib c lo hi) hz,_,(r.drop<|HT.sIx c.length 0 lo).take<|HT.sIx c.length c.length hi-HT.sIx c.length 0 lo,IsTup.new _ _⟩
def Vals.nil_iff{xs:oA V}{c:oA lC}(r:Vals xs c):c=[]↔xs=[]:=by
 cases r with
 |nil=>simp
 |cons _ _=>simp
def BL(n:Nat)(i:Int):oB Nat:=if 0<=i then(if i<n then some i.toNat else none) else if -(n:Int)<=i then some (i+n).toNat else none
def atI{c:Type}(xs:oA c)(i:Int):oB c:=(BL xs.length i).bind λj=>xs[j]?
def BM{n:Nat}{i:Int}{j:Nat}(h:BL n i=some j):seqIndex? i n=some j/\j<n/\-(n:Int)<=i/\i<n:=by unfold BL at h;by_cases h0:0<=i;rw[T_ h0]at h;by_cases h1:i<n;rw[T_ h1]at h;have e:i.toNat=j:=bA h;exact⟨by rw[seqIndex_of h0 h1,e],by omega,by omega,h1⟩;rw[M_ h1]at h;cases h;rw[M_ h0]at h;by_cases h1:-(n:Int)<=i;rw[T_ h1]at h;have e:(i+n).toNat=j:=bA h;exact⟨by rw[seqIndex_neg (by omega) h1,e],by omega,h1,by omega⟩;rw[M_ h1]at h;cases h
def Lh{c:Type}{xs:oA c}{i:Int}{v:c}(h:atI xs i=some v):∃j,seqIndex? i xs.length=some j/\xs[j]?=some v/\j<xs.length/\-(xs.length:Int)<=i/\i<xs.length:=by
 unfold atI at h;cases e:BL xs.length i with
 |none=>rw[e]at h;cases h
 |some j=>rw[e]at h;obtain⟨h1,h2,f,d⟩:=BM e;exact⟨j,h1,h,h2,f,d⟩
def A0{c:Type}{xs:oA c}{j:Nat}{v:c}(h:xs[j]?=some v):atI xs (j:Int)=some v:=by
 have hj:j<xs.length:=(E_.mp h).1;have e:BL xs.length (j:Int)=some j:=by unfold BL;rw[T_<|by omega,T_<|by omega];simp
 unfold atI;rw[e];exact h
def Rb(b:lJ):Prop:=∀o i,subscripted b false o i=operate [o,i] (getItem o i)
def NM(X:Cx)(r:R2):Prop :=
 ∀(d c:lJ) (f:oA<|lF×lM) (s:lD) (g:St) (H:Hp) (x y:V) (v u:lC) (Q:VK),Inv X f g H s->Ba x v->Ba y u->r x y H Q ->
  subscripted c false v u=operate [v,u] (getItem v u)->qV X.prog X.w X.A (subscriptTail d c v u) (EP X f g Q) X.xe s
def FN(X:Cx)(id:String)(r:V->oA V->Hp->VK->Prop):Prop :=
 ∀(d:oA<|lF×lM) (s:lD) (f:St) (H:Hp) (x:V) (xs:oA V) (v:lC) (c:oA lC) (Q:VK),Inv X d f H s->Ba x v->Vals xs c->r x xs H Q ->
  qV X.prog X.w X.A (call (.builtin id)<|v::c) (EP X d f Q) X.xe s
def NN{r:R2}(d:NM X r)(ha:PE X a ta)(hb:PE X b tb)(hs:Rb b):PE X (.Subscript a b pos) (NA r ta tb):=by intro g s l H Q I h;exact Subscript_<|HN ha hb I h λv u f x y i k j c q=>d a b g f l i x y v u Q k j c q<|hs _ _
def VF(K:lG):R2:=λx y H Q=>∃p c i v,x=.ref p/\y=.int i/\E4 K H p c/\atI c i=some v/\Q v H
def VH(K:lG):R2:=λx y H Q=>∃p c i v,x=.ref p/\y=.int i/\Il K H p c/\atI c i=some v/\Q v H
def VJ:R2:=λx y H Q=>∃z i c,x=.str z/\y=.int i/\z.length<=sizeLine/\atI z.cps.toList i=some c/\Q (.str ⟨#[c]⟩) H
def Rc:NM X (VF X.K):=by
 intro f g k s m H x y v u Q I D B h l;obtain⟨p,M,i,z,rfl,rfl,hq,he,q⟩:=h;cases D;obtain⟨t,rfl⟩:=B;obtain⟨C,r,d,hz⟩:=I.list hq;obtain⟨j,h1,h2,N,J,E⟩:=Lh he;obtain⟨w,n,F⟩:=r.get h2;have G:=r.length;have L:=Iv;have c:EP X k m Q w s:=⟨z,H,I,F,q⟩;by_cases h0:0<=i;have hj:i.toNat=j:=by rw[seqIndex_of h0 E]at h1;exact bA h1
 exact item_listR d.isList h0 (by omega) (by rw[hj];simpa using n) c l
 have hj:(i+(C.toArray.size:Int)).toNat=j:=by rw[seqIndex_neg (by omega) J]at h1;rw[aA,<- G];exact bA h1
 exact subscriptTail_builtinR (x:=w) d.isList.typeIs slot_list_getitem.lookup
  (wpAny_getItem_list_neg (Q:=λr A=>r=w/\EP X k m Q r A) d.isList (by omega) (by rw[aA]<;>omega) (by omega) (by rw[hj];simpa using n) ⟨rfl,c⟩) l
def IE:NM X (VH X.K):=by
 intro d f g s k H x y v u Q I A n h B;obtain⟨p,J,i,z,rfl,rfl,hq,he,q⟩:=h;cases A;obtain⟨t,rfl⟩:=n;obtain⟨G,r,l,hz⟩:=I.tuple hq;obtain⟨j,h1,h2,M,N,L⟩:=Lh he;obtain⟨w,E,C⟩:=r.get h2;have D:=r.length;have F:=Iv;have c:EP X g k Q w s:=⟨z,H,I,C,q⟩;exact subscriptTail_builtinR (x:=w) l.typeIs slot_tuple_getitem.lookup
  (getItem_tuple (j:=j) (Q:=λr m=>r=w/\EP X g k Q r m) l (by omega) (by omega) (by rw[aA,<- D];exact h1) (by simpa using E) ⟨rfl,c⟩) B
def IF:NM X VJ:=by
 intro d f C s F H x y v u Q I l g h p;obtain⟨z,i,c,rfl,rfl,hz,he,q⟩:=h;obtain⟨t,rfl⟩:=l;obtain⟨E,rfl⟩:=g;obtain⟨j,h1,h2,D,m,w⟩:=Lh he;have k:z.cps.toList.length=z.length:=by simp[Str.length]
 rw[k]at h1 m w;have B:=Iv;exact tail_any (typeIs_str s z t) slot_str_getitem.lookup (getItem_str (c:=c) (by
  have n:decide (i < -(2^63:Int))=false:=aQ (by omega);have A:decide (i>=2^63)=false:=aQ (by omega);rw[n,A,Bool.or_false]) (by rw[h1];simpa using h2) ⟨.str ⟨#[c]⟩,H,I.tok _,⟨_,rfl⟩,q⟩) p
def Li(lo hi:oB Int)(n:Nat):(sliceBounds lo hi none n).1=((HT.sIx n 0 lo:Nat):Int)/\(sliceBounds lo hi none n).2.1=((HT.sIx n n hi:Nat):Int)/\(sliceBounds lo hi none n).2.2=1:=by
 refine⟨?_,?_,rfl⟩
 ·cases lo with
  |none=>simp[sliceBounds,HT.sIx]
  |some i=>simp only[sliceBounds,HT.sIx,Option.getD_none,show(1:Int)>0 by decide,if_true];by_cases h:i<0;simp only[h,if_true]<;>omega;simp only[h,if_false]<;>omega
 ·cases hi with
  |none=>simp[sliceBounds,HT.sIx]
  |some i=>simp only[sliceBounds,HT.sIx,Option.getD_none,show(1:Int)>0 by decide,if_true];by_cases h:i<0;simp only[h,if_true]<;>omega;simp only[h,if_false]<;>omega
def J8(c:oA lC)(lo hi:oB Int):slicePick c.toArray lo hi none=((c.drop<|HT.sIx c.length 0 lo).take<|HT.sIx c.length c.length hi-HT.sIx c.length 0 lo).toArray:=by obtain⟨h1,h2,d⟩:=Li lo hi c.toArray.size;unfold slicePick;rw[h1,h2,d];simp only[sliceRange_one,pick_run,List.size_toArray]<;>rfl
def VL(K:lG):V->oB Int->oB Int->Hp->VK->Prop:=λx lo hi H Q=>∃a c,x=.ref a/\E4 K H a c/\∀p,H p=none->Q (.ref p) (upd H p<|.lst<|J7 c lo hi)
def BN:NL X (VL X.K):=by intro p s y H x v u m lo hi n Q I g k f j h;obtain⟨a,c,rfl,hx,q⟩:=h;cases g;obtain⟨l,r,d,hz⟩:=I.list hx;have i:=r.length;refine⟨"list",_,slot_list_getitem.lookup,d.isList.typeIs,?_⟩;refine wpAny_getItem_list_slice d.isList k f j .none (by simp) ?_ (by rw[aA]<;>omega);rw[J8,<- i];refine⟨.ref s.heap.objs.size,_,I.laid (t':=s.toks) (o:=.lst<|J7 c lo hi) (λb w q=>DD _ q) (F_ _) ?_,rfl,q _<|I.hok.fresh<|F_ _⟩;exact⟨K_ (Ib c lo hi) hz,_,0,(r.drop<|HT.sIx c.length 0 lo).take<|HT.sIx c.length c.length hi-HT.sIx c.length 0 lo,I_ _ rfl⟩
def Lj:Gq X (compareOp .NotIn) (λx y H Q=>∃i j,x=.str i/\y=.str j/\Q (.bl<|!(!(Builtin.Str.occurrences j i 0 j.length 1).isEmpty)) H):=by intro f s k H x y v u Q I d c h;obtain⟨i,j,rfl,rfl,q⟩:=h;obtain⟨t,rfl⟩:=d;obtain⟨g,rfl⟩:=c;exact notIn_str ⟨.bl _,H,I,rfl,q⟩
def E6:Fd X (.builtin "len") (λi H Q=>∃p c,i=[.ref p]/\(E4 X.K H p c\/Il X.K H p c)/\Q (.int c.length) H):=by intro m s v H i n Q I r h;obtain⟨p,c,rfl,hq,q⟩:=h;obtain⟨u,rfl,k⟩:=Eo r;cases k;have l:=Iv;rcases hq with hq|hq;obtain⟨j,g,d,hz⟩:=I.list hq;have f:=g.length;exact Calls.call_len_list d.isList (by simp only[List.size_toArray]<;>omega) ⟨.int c.length,H,I.tok _,⟨s.toks+1,by rw[aA,f]⟩,q⟩;obtain⟨j,g,d,hz⟩:=I.tuple hq;have f:=g.length;exact len_tuple d (by simp only[List.size_toArray]<;>omega) ⟨.int c.length,H,I.tok _,⟨s.toks+1,by rw[aA,f]⟩,q⟩
def Lk:Fd X (.builtin "len") (λc H Q=>∃z,c=[.str z]/\z.length<=sizeLine/\Q (.int z.length) H):=by intro f s i H c g Q I r h;obtain⟨z,rfl,hz,q⟩:=h;obtain⟨u,rfl,t,rfl⟩:=Eo r;have d:=Iv;exact len_str (by omega) ⟨.int z.length,H,I.tok _,⟨_,rfl⟩,q⟩
def F7:Fd X (.type "tuple") (λj H Q=>∃p c,j=[.ref p]/\((E4 X.K H p c/\∀l,H l=none->Q (.ref l) (upd H l<|.tup c))\/(Il X.K H p c/\Q (.ref p) H))):=by
 intro k s n H j A Q I r h;obtain⟨p,c,rfl,h⟩:=h;obtain⟨u,rfl,v⟩:=Eo r;cases v;rcases h with⟨hq,q⟩|⟨hq,q⟩;obtain⟨g,i,f,hz⟩:=I.list hq;have z:=i.length;refine call_tuple_list f.isList (λd y=>?_) (by simp only[List.size_toArray]<;>omega);have m:Inv X k n H {s with heap:=d}:=I.kept (t':=s.toks) y;have x:Inv X k n (upd H d.objs.size<|.tup c) {s with heap:=d.push {cls:=.type "tuple",data:=.seq g.toArray}} :=
  m.laid (t':=s.toks) (λb o e=>DD _ e) (F_ _) (show Bp X.prog X.w _ _ _ (.tup c) from⟨hz,g,i,IsTup.new _ _⟩)
 exact⟨.ref d.objs.size,_,x,rfl,q _<|m.hok.fresh<|F_ _⟩
 obtain⟨g,i,f,hz⟩:=I.tuple hq;exact call_tuple_same f ⟨.ref p,H,I,rfl,q⟩
def TW(K:lG)(T:String)(x:V)(H:Hp):Prop:=match x with
 |.str _=>T = "str"
 |.int _=>T = "int"
 |.ref p=>(T = "list" /\ ∃d,E4 K H p d)\/(T = "tuple" /\ ∃o,K.lookup p=some o/\o.cls=.type "tuple" /\ o.dict=none) \/
   (T = "dict" /\ ((∃c,H p=some (.dK c))\/∃c,H p=some (.dT c)))\/(T = "set" /\ ∃S n,H p=some (.set S n))
 |_=>False
def V1{l:oA<|lF×lM}{m:St}{H:Hp}{s:lD}{T:String}{x:V}{v:lC}(I:Inv X l m H s)(r:Ba x v)(ty:TW X.K T x H) :
  s.TypeIs v T/\∀a,v=.ref a->∃k,s.heap.get? a=some k/\k.dict=none:=by
 cases x with
 |str z=>obtain⟨t,rfl⟩:=r;cases (show T = "str" from ty);exact⟨typeIs_str s z t,λ_ e=>nomatch e⟩
 |int i=>obtain⟨t,rfl⟩:=r;cases (show T = "int" from ty);exact⟨typeIs_int s i t,λ_ e=>nomatch e⟩
 |ref p=>
  cases r;rcases ty with⟨rfl,u,hq⟩|⟨rfl,o,hk,hc,g⟩|⟨rfl,hk⟩|⟨rfl,S,n,hk⟩;obtain⟨q,_,j,_⟩:=I.list hq;refine⟨j.isList.typeIs,λa e=>?_⟩;cases e;obtain⟨o,n,e,c,g,_⟩:=j;exact⟨o,e,g⟩;refine⟨⟨o,I.kIn p o hk,hc⟩,λa e=>?_⟩;cases e;exact⟨o,I.kIn _ o hk,g⟩;have z:∃o,s.heap.get? p=some o/\o.ExactDict:=by rcases hk with⟨f,hk⟩|⟨f,hk⟩;obtain⟨_,_,_,_,o,_,_,e,d,_⟩:=I.hok p _ hk;exact⟨o,e,d⟩;obtain⟨_,_,_,_,o,_,_,e,d,_⟩:=I.hok p _ hk;exact⟨o,e,d⟩
  obtain⟨o,e,d⟩:=z;refine⟨⟨o,e,d.1⟩,λa h=>?_⟩;cases h;exact⟨o,e,d.2.1⟩;obtain⟨o,_,_,_,e,d,_⟩:=I.hok p _ hk;refine⟨⟨o,e,d.1⟩,λa h=>?_⟩;cases h;exact⟨o,e,d.2.1⟩
 |_=>exact False.elim ty
def IG(K:lG)(T:String)(r:V->oA V->Hp->VK->Prop)(to:TE):TE:=λd H Q=>to d H λx c=>TW K T x c/\r x [] c Q
def ZM(K:lG)(T:String)(r:V->oA V->Hp->VK->Prop)(to:TE)(t:TA):TE:=λd H Q=>to d H λx c=>TW K T x c/\t d c λg f=>r x g f Q
def Ll(u:PlainAttrs T)(slot:Slot T name id)(l:typeOf (.builtin id)=pure (.type "method_descriptor")) (q:FN X id r) (m:PE X o to)
  (n:attributeBase o name X.env (eval o X.env)=eval o X.env:=by rfl) (j:(au.endLine==ak.line)=true:=by rfl):PE X (.Call (.Attribute o name au) [] [] ak) (IG X.K T r to):=by
 intro c s f H Q I h;refine wpAny_Call_method0_late n j<|thn (m c s f H _ I h) λv p i=>?_;obtain⟨x,w,d,g,ty,k⟩:=i;obtain⟨h1,h2⟩:=V1 d g ty;exact⟨T,id,u,slot,l,h1,h2,gA rfl<|PySem.evalArgs_none<|q c p f w x [] v [] Q d g .nil k⟩
def FO(A:PlainAttrs T)(slot:Slot T name id)(l:typeOf (.builtin id)=pure (.type "method_descriptor")) (J:FN X id r) (n:PE X o to) (ha:PA X (e::es) t)
  (w:attributeBase o name X.env (eval o X.env)=eval o X.env:=by rfl) (E:((backTo ak<|starEach (e::es) X.env).all (λx=>!x.1)&&(backToKw ak<|keywordEach [] X.env).all (λx=>x.1.isSome)
   && decide ((e::es).length+([]:oA Keyword).length+(if([]:oA Keyword).isEmpty then 0 else 1)<30))=true:=by rfl) (D:(au.endLine==ak.line)=true:=by rfl) (hs:starEach (e::es) X.env=(false,eval e X.env)::starEach es X.env:=by rfl) (L:(backTo ak<|starEach es X.env).any (·.1)=false:=by rfl) :
  PE X (.Call (.Attribute o name au) (e::es) [] ak) (ZM X.K T r to t):=by
 intro c s d H Q I h;refine wpAny_Call_method_late w E D rfl<|thn (n c s d H _ I h) λv y G=>?_;obtain⟨x,C,g,i,ty,k⟩:=G;obtain⟨h1,h2⟩:=V1 g i ty;refine⟨T,id,A,slot,l,h1,h2,?_⟩;have f:=ha ak c y d C _ g k;rw[hs]at f ⊢;refine gA (by show(false||(backTo ak<|starEach es X.env).any (·.1))=false;rw[L]<;>rfl)<|jF ?_;exact thn f λz j p=>C1 p λu m q F B=>J c j d m x u v z Q q i F B
end
def VM(X:Cx)(id:String)(r:V->oA V->Hp->VK->Prop):Prop :=
 ∀(b:oA<|lF×lM) (s:lD) (c:St) (H:Hp) (x:V) (xs:oA V) (v:lC) (a:oA lC) (Q:VK),Inv X b c H s->Ba x v->Vals xs a->r x xs H Q ->
  qV X.prog X.w X.A (call (.builtin id)<|v::a) (EP X b c Q) X.xe s
def Vals.one:∀{x:V} {a:oA lC},Vals [x] a->∃u,a=[u]/\Ba x u
 |_,_,.cons r .nil=>⟨_,rfl,r⟩
def Vals.zero:∀{a:oA lC},Vals [] a->a=[]
 |_,.nil=>rfl
theorem Vals.dropLast{xs:oA V}{a:oA lC}(h:Vals xs a):Vals xs.dropLast a.dropLast:=by
 induction h with
 |nil=>exact .nil
 |cons r t b=>
  cases t with
  |nil=>exact .nil
  |cons q c=>exact .cons r b
theorem Vals.reverse{xs:oA V}{a:oA lC}(h:Vals xs a):Vals xs.reverse a.reverse:=by
 induction h with
 |nil=>exact .nil
 |cons r t b=>rw[iG,iG];exact Vals.append b<|.cons r .nil
def Ph{d:Type}(l:oA d):l.eraseIdx (l.length-1)=l.dropLast:=by
 induction l with
 |nil=>rfl
 |cons a r c=>
  cases r with
  |nil=>rfl
  |cons b r=>
   have e:(a::b::r).length-1=((b::r).length-1)+1:=by have h1:(a::b::r).length=r.length+2:=rfl;have h2:(b::r).length=r.length+1:=rfl;omega
   rw[e,List.eraseIdx_cons_succ,c]
   all_goals rfl
section
variable {X:Cx}{aa:oA<|lF×lM}{σ:St}{H:Hp}{s:lD}{l b:lF}{xs ys zs:oA V}
def Inv.lset{a its':oA lC}{n:Nat}{f:oC lC->oC lC}{t':Nat}(I:Inv X aa σ H s)(c:H l=some (.lst xs))
  (e:s.heap.get? l=some {cls:=.type "list",data:=.seq a.toArray n}) (d:f a.toArray=its'.toArray) (hv:Vals ys its') (hz:ys.length<=sizeLine) :
  Inv X aa σ (upd H l<|.lst ys) {s with heap:=s.heap.update l<|Obj.mapSeq f,toks:=t'}:=by
 have q:=PySem.IsL.update e f;rw[d]at q;refine I.write (x:=l) (e:=l) (by rw[c];exact trivial) (.inl rfl) (λg u hb hu=>(cQ s.heap (Obj.mapSeq f)<|bN hb).trans hu) ⟨_,q⟩ ?_;exact⟨hz,its',_,hv,q⟩
def Inv.lnew{a:oA lC}{t':Nat}(I:Inv X aa σ H s)(hv:Vals ys a)(hz:ys.length<=sizeLine) :
  Inv X aa σ (upd H s.heap.objs.size<|.lst ys) {s with heap:=s.heap.push {cls:=.type "list",data:=.seq a.toArray},toks:=t'} :=
 I.laid (λ_ _ q=>DD _ q) (F_ _) ⟨hz,a,0,hv,I_ _ rfl⟩
def Inv.fresh(I:Inv X aa σ H s):H s.heap.objs.size=none:=I.hok.fresh<|F_ _
def Inv.lstM(I:Inv X aa σ H s)(c:H l=some (.lst xs)):xs.length<=sizeLine/\∃(a:oA lC) (n:Nat),Vals xs a/\xs.length=a.length/\s.heap.get? l=some {cls:=.type "list",data:=.seq a.toArray n}:=by obtain⟨z,a,n,r,e⟩:=I.hok l _ c;exact⟨z,a,n,r,r.length,e⟩
def V2{n:Nat}(h:n<=sizeLine):Builtin.List.listTooLong n=false:=by unfold Builtin.List.listTooLong;exact aQ<|by omega
def BO:V->oA V->Hp->VK->Prop:=λx a H Q=>∃l xs y,x=.ref l/\a=[y]/\H l=some (.lst xs)/\xs.length<sizeLine/\Q .non (upd H l<|.lst<|xs++[y])
def Kl:VM X "list.append" BO:=by intro aa s σ H x j v k Q I f d h;obtain⟨l,xs,y,rfl,rfl,a,hz,q⟩:=h;cases f;obtain⟨u,rfl,g⟩:=d.one;obtain⟨z,c,n,r,i,e⟩:=I.lstM a;refine call_meets F.slot_list_append ⟨_,e,rfl⟩ F.entry_list_append (F.args_list_append_2 _ _) (PySem.list_append l c.toArray n u<|by rw[aA];omega) ⟨e,?_⟩;refine⟨.non,_,I.lset (its':=c++[u]) a e (by simp) (r.append<|.cons g .nil) ?_,rfl,q⟩;rw[P_,iR];omega
def BP:V->oA V->Hp->VK->Prop:=λx a H Q=>∃l b xs zs,x=.ref l/\a=[.ref b]/\H l=some (.lst xs)/\H b=some (.lst zs)/\xs.length+zs.length<=sizeLine/\Q .non (upd H l<|.lst<|xs++zs)
def Tk:VM X "list.extend" BP:=by
 intro aa s σ H x w v y Q I i g h;obtain⟨l,b,xs,zs,rfl,rfl,f,p,hz,q⟩:=h;cases i;obtain⟨u,rfl,t⟩:=g.one;cases t;obtain⟨z,c,n,r,C,e⟩:=I.lstM f;obtain⟨B,a,o,m,A,j⟩:=I.lstM p;have d:c.toArray.size+a.toArray.size<=sizeLine:=by rw[aA,aA];omega
 have k:¬(!c.toArray.isEmpty&&Builtin.List.listTooLong (c.toArray.size+a.toArray.size))=true:=by rw[V2 d,Bool.and_false];exact S_
 refine call_meets F.slot_list_extend ⟨_,e,rfl⟩ F.entry_list_extend (F.args_list_extend_2 _ _) (AutoSeq1.list_extend_list_list_0 l c.toArray n b a.toArray o k (by rw[aA];omega)<|by omega) ⟨e,j,?_⟩
 refine⟨.non,_,I.lset (its':=c++a) f e (by simp) (r.append m) ?_,rfl,q⟩;rw[P_];omega
def VN:V->oA V->Hp->VK->Prop:=λx a H Q=>∃l xs y,x=.ref l/\a=[]/\H l=some (.lst xs)/\xs[xs.length-1]?=some y/\Q y (upd H l<|.lst xs.dropLast)
def IH:VM X "list.pop" VN:=by
 intro aa s σ H x m v o Q I j f h;obtain⟨l,xs,y,rfl,rfl,d,hy,q⟩:=h;cases j;have g:=f.zero;subst g;obtain⟨z,a,n,r,i,e⟩:=I.lstM d;obtain⟨u,hu,k⟩:=r.get hy;have c:a.toArray[a.toArray.size-1]?=some u:=by show a.toArray[a.length-1]?=some u;rw[<- X_,<- i];exact hu
 refine call_meets F.slot_list_pop ⟨_,e,rfl⟩ F.entry_list_pop (F.args_list_pop_1 _) (MeetsSeq.list_pop_last l a.toArray n u c<|by rw[aA];omega) ⟨e,?_⟩;refine⟨y,_,I.lset (its':=a.dropLast) d e ?_ r.dropLast ?_,k,q⟩;show a.toArray.eraseIdxIfInBounds (a.toArray.size-1)=a.dropLast.toArray;rw[aA,List.eraseIdxIfInBounds_toArray,Ph];rw[jG];omega
def VP:R2:=λx y H Q=>∃l b xs zs,x=.ref l/\y=.ref b/\H l=some (.lst xs)/\H b=some (.lst zs)/\xs.length+zs.length<=sizeLine/\∀p,H p=none->Q (.ref p) (upd H p<|.lst<|xs++zs)
def II:Gq X (binaryOp .Add) VP:=by
 intro aa s σ H x y v u Q I k g h;obtain⟨l,b,xs,zs,rfl,rfl,f,i,hz,q⟩:=h;cases k;cases g;obtain⟨z,c,n,r,p,e⟩:=I.lstM f;obtain⟨o,a,t,j,w,d⟩:=I.lstM i;refine PySem.P.add_list e d ?_ (by rw[aA,aA];omega);have m:c.toArray++a.toArray=(c++a).toArray:=by simp
 rw[m];exact⟨.ref _,_,I.lnew (t':=s.toks) (r.append j)<|by rw[P_];omega,rfl,q _ I.fresh⟩
end
section
variable {κ:Type} [DecidableEq κ]
def Ei(kvs:oA<|κ×V)(k:κ):oB V:=(kvs.find? λa=>decide (a.1=k)).map (·.2)
def putK(kvs:oA<|κ×V)(k:κ)(v:V):oA (κ×V) :=
 if(kvs.any λa=>decide (a.1=k))=true then kvs.map (λa=>if a.1=k then(a.1,v) else a) else kvs++[(k,v)]
def Ix{p:κ×V}{r:oA<|κ×V}{k:κ}(e:p.1=k):Ei (p::r) k=some p.2:=by simp[Ei,List.find?_cons,e]
def Iy{p:κ×V}{r:oA<|κ×V}{k:κ}(e:¬p.1=k):Ei (p::r) k=Ei r k:=by simp[Ei,List.find?_cons,e]
theorem Mx(k:κ):∀a:oA<|κ×V,(a.any λb=>decide (b.1=k))=(Ei a k).isSome
 |[]=>rfl
 |p::r=>by rw[eO];by_cases e:p.1=k;simp only[Ix e,decide_eq_true e,Bool.true_or,Option.isSome_some];rw[Iy e,aQ e,kK];exact Mx k r
def Ec(kvs:oA<|κ×V)(k:κ)(v:V):(putK kvs k v).length<=kvs.length+1:=by unfold putK;split;rw[B_];omega;rw[P_,aZ,List.length_nil];omega
def Hi.isSome_eq{o:oB V}{u:oB lC}(r:Hi o u):o.isSome=u.isSome:=by
 cases o with
 |none=>cases u with
  |none=>rfl
  |some _=>exact(show False from r).elim
 |some _=>cases u with
  |none=>exact(show False from r).elim
  |some _=>rfl
theorem Hi.getD{o:oB V}{u:oB lC}{d:V}{d':lC}(r:Hi o u)(rd:Ba d d'):Ba (o.getD d) (u.getD d'):=by
 cases o with
 |none=>cases u with
  |none=>exact rd
  |some _=>exact(show False from r).elim
 |some _=>cases u with
  |none=>exact(show False from r).elim
  |some _=>exact r
def KV.val{kvs:oA<|κ×V}{d:oA<|κ×lC}(r:KV kvs d)(k:κ):Hi (Ei kvs k) (valueAt d k):=by
 unfold KV at r
 induction r with
 |nil=>exact True.intro
 |@cons p q g a h t f=>
  obtain⟨h1,h2⟩:=h;by_cases e:p.1=k;have c:q.1=k:=h1.symm.trans e;have b:valueAt (q::a) k=some q.2:=by simp[valueAt,List.find?_cons,c]
  rw[Ix e,b];exact h2;have c:¬q.1=k:=λz=>e<|h1.trans z;have b:valueAt (q::a) k=valueAt a k:=by simp[valueAt,List.find?_cons,c]
  rw[Iy e,b];exact f
theorem KV.any{kvs:oA<|κ×V}{b:oA<|κ×lC}(r:KV kvs b)(k:κ):(kvs.any λa=>decide (a.1=k))=b.any λa=>decide (a.1=k):=by
 unfold KV at r
 induction r with
 |nil=>rfl
 |cons h t c=>rw[eO,eO,c,h.1]
def KV.repl{kvs:oA<|κ×V}{b:oA<|κ×lC}(r:KV kvs b)(k:κ){y:V}{u:lC}(c:Ba y u) :
  KV (kvs.map λa=>if a.1=k then(a.1,y) else a) (b.map λa=>if a.1=k then(a.1,u) else a):=by
 unfold KV at r ⊢
 induction r with
 |nil=>exact .nil
 |@cons p q f g h t d=>rw[aP,aP];refine .cons ?_ d;obtain⟨h1,h2⟩:=h;by_cases e:p.1=k;rw[T_ e,T_<|h1.symm.trans e];exact⟨h1,c⟩;rw[M_ e,M_ λz=>e<|h1.trans z];exact⟨h1,h2⟩
def KV.put{kvs:oA<|κ×V}{a:oA<|κ×lC}(r:KV kvs a)(k:κ){y:V}{u:lC}(b:Ba y u):KV (putK kvs k y) (stored a k u):=by unfold putK stored;rw[r.any k];by_cases e:(a.any λc=>decide (c.1=k))=true;rw[T_ e,T_ e];exact r.repl k b;rw[M_ e,M_ e];exact jH r ⟨rfl,b⟩
def KV.length{kvs:oA<|κ×V}{a:oA<|κ×lC}(r:KV kvs a):kvs.length=a.length:=bF r
end
def Iz{P:lH}{w:lI}{k:Key}{u:lC}(r:Ba (kV k) u):(Bf P w).is k u=true:=by
 cases k with
 |inl i=>obtain⟨t,e⟩:=(show ∃t,u=Value.int i t from r);subst e;exact Ff P w i t
 |inr x=>obtain⟨t,e⟩:=(show ∃t,u=Value.str x t from r);subst e;exact Fg P w x t
theorem Km{P:lH}{w:lI}:∀{ks:oA Key} {a:oA lC},Vals (ks.map kV) a->ItemsAre (Bf P w) ks a
 |[],_,r=>by rw[List.map_nil]at r;cases r;exact .nil
 |k::ks,_,r=>by
  rw[aP]at r;cases r with
  |cons h t=>exact .cons (Iz h)<|Km t
abbrev KT(H:Hp):oA (oA Key×V)->oA (oA Key×lF×lC)->Prop:=Paired λp q=>p.1=q.1/\H q.2.1=some (.tup<|p.1.map kV)/\Ba p.2 q.2.2
def KT.val{H:Hp}{kvs:oA<|oA Key×V}{xs:oA<|oA Key×lF×lC}(r:KT H kvs xs)(k:oA Key):Hi (Ei kvs k) ((atKey xs k).map (·.2)):=by
 induction r with
 |nil=>exact True.intro
 |@cons p q f a h t d=>
  obtain⟨h1,_,h2⟩:=h;by_cases e:p.1=k;have c:q.1=k:=h1.symm.trans e;have b:atKey (q::a) k=some q.2:=by simp[atKey,List.find?_cons,c]
  rw[Ix e,b];exact h2;have c:¬q.1=k:=λz=>e<|h1.trans z;have b:atKey (q::a) k=atKey a k:=by simp[atKey,List.find?_cons,c]
  rw[Iy e,b];exact d
def KT.repl{H:Hp}{kvs:oA<|oA Key×V}{xs:oA<|oA Key×lF×lC}(r:KT H kvs xs)(k:oA Key){y:V}{u:lC}(b:Ba y u) :
  KT H (kvs.map λa=>if a.1=k then(a.1,y) else a) (xs.map<|putAt k u):=by
 induction r with
 |nil=>exact .nil
 |@cons p q f g h t d=>rw[aP,aP];refine .cons ?_ d;obtain⟨h1,h2,c⟩:=h;unfold putAt;by_cases e:p.1=k;rw[T_ e,T_<|h1.symm.trans e];exact⟨h1,h2,b⟩;rw[M_ e,M_ λz=>e<|h1.trans z];exact⟨h1,h2,c⟩
def KT.put{H:Hp}{kvs:oA<|oA Key×V}{xs:oA<|oA Key×lF×lC}(r:KT H kvs xs)(k:oA Key){b:lF}{y:V}{u:lC}(hb:H b=some (.tup<|k.map kV))(a:Ba y u) :
  KT H (putK kvs k y) (storedH xs k b u):=by
 have e:(kvs.any λc=>decide (c.1=k))=(atKey xs k).isSome:=by rw[Mx,(r.val k).isSome_eq,iH]
 unfold putK storedH;rw[e];by_cases q:(atKey xs k).isSome=true;rw[T_ q,T_ q];exact r.repl k a;rw[M_ q,M_ q];exact jH r ⟨rfl,hb,a⟩
def KT.keeps{H H':Hp}{kvs:oA<|oA Key×V}{xs:oA<|oA Key×lF×lC}(r:KT H kvs xs)(c:∀b a,H b=some (.tup a)->H' b=some (.tup a)):KT H' kvs xs :=
 Paired.mapP r λ_ _ z=>⟨z.1,c _ _ z.2.1,z.2.2⟩
section
variable {P:lH}{w:lI}{H:Hp}{h:lL}{a:lF}{X:Cx}{aa:oA<|lF×lM}{σ:St}{s:lD}{y v:V}{u r:lC}{o:oB V}{A:lK}{E:lC->lD->Prop}
def FP{u:HO}(ok:HOk P w H h)(e:Rd H a u):Bp P w H h a u:=e.ok ok
def Ic{kvs:oA<|Key×V}(ok:HOk P w H h)(e:Rd H a<|.dK kvs):kvs.length<=sizeLine/\(a==sysModules)=false/\∃b,KV kvs b/\h.DictOf (Bf P w) a b :=
 show Bp P w H h a (.dK kvs) from FP ok e
def FQ{kvs:oA<|Key×V}(ok:HOk P w H h)(e:H a=some (.dK kvs)):kvs.length<=sizeLine/\(a==sysModules)=false/\∃b,KV kvs b/\h.DictOf (Bf P w) a b:=Ic ok<|.inl e
def Gf{ks:oA Key}(ok:HOk P w H h)(e:H a=some (.tup<|ks.map kV)):(tupleKind<|Bf P w).is h ks a:=by obtain⟨_,b,r,o,h1,h2,n,c⟩:=(show Bp P w H h a (.tup<|ks.map kV) from ok a _ e);exact⟨o,b.toArray,n,h1,h2,c,by simpa using Km r⟩
def Ja{kvs:oA<|oA Key×V}(ok:HOk P w H h)(e:Rd H a<|.dT kvs):kvs.length<=sizeLine/\(a==sysModules)=false /\
  ∃b,KT H kvs b/\h.DictOfH (tupleKind<|Bf P w) a b:=by
 obtain⟨z,y,b,r,o,c,f,h1,h2,d,g,i⟩:=(show Bp P w H h a (.dT kvs) from FP ok e);refine⟨z,y,b,r,o,c,f,h1,h2,d,g,λx hx=>?_,i⟩;have all:∀{l:oA<|oA Key×V} {m:oA<|oA Key×lF×lC},KT H l m->∀x∈m,(tupleKind<|Bf P w).is h x.1 x.2.1:=by
  intro l m q
  induction q with
  |nil=>intro x hx;exact nomatch hx
  |@cons p q k n hq t j=>intro x hx;rcases aB.mp hx with e|hx;subst e;exact Gf ok (by rw[<- hq.1];exact hq.2.1);exact j x hx
 exact all r x hx
def My{kvs:oA<|oA Key×V}(ok:HOk P w H h)(e:H a=some (.dT kvs)):kvs.length<=sizeLine/\(a==sysModules)=false /\
  ∃b,KT H kvs b/\h.DictOfH (tupleKind<|Bf P w) a b:=Ja ok<|.inl e
def DGet(H:Hp)(a:lF)(y:V)(r:oB V):Prop :=
 (∃c k,Rd H a (.dK c)/\y=kV k/\r=Ei c k)\/∃c k b,Rd H a (.dT c)/\y=.ref b/\H b=some (.tup<|k.map kV)/\r=Ei c k
def DPut(H:Hp)(a:lF)(y v:V)(H':Hp):Prop :=
 (∃c k,H a=some (.dK c)/\y=kV k/\c.length<sizeLine/\H'=upd H a (.dK<|putK c k v)) \/
 ∃c k b,H a=some (.dT c)/\y=.ref b/\H b=some (.tup<|k.map kV)/\c.length<sizeLine/\H'=upd H a (.dT<|putK c k v)
def DGet.k{H:Hp}{a:lF}{kvs:oA<|Key×V}{k:Key}(e:H a=some (.dK kvs)):DGet H a (kV k) (Ei kvs k):=.inl ⟨kvs,k,.inl e,rfl,rfl⟩
def DGet.t{H:Hp}{a b:lF}{kvs:oA<|oA Key×V}{k:oA Key}(e:H a=some (.dT kvs))(c:H b=some (.tup<|k.map kV)):DGet H a (.ref b) (Ei kvs k):=.inr ⟨kvs,k,b,.inl e,rfl,c,rfl⟩
def DPut.k{H:Hp}{a:lF}{kvs:oA<|Key×V}{k:Key}{v:V}(e:H a=some (.dK kvs))(b:kvs.length<sizeLine):DPut H a (kV k) v (upd H a<|.dK<|putK kvs k v):=.inl ⟨kvs,k,e,rfl,b,rfl⟩
def DPut.t{H:Hp}{a b:lF}{kvs:oA<|oA Key×V}{k:oA Key}{v:V}(e:H a=some (.dT kvs))(d:H b=some (.tup<|k.map kV))(c:kvs.length<sizeLine) :
  DPut H a (.ref b) v (upd H a<|.dT<|putK kvs k v):=.inr ⟨kvs,k,b,e,rfl,d,c,rfl⟩
def Inv.big(I:Inv X aa σ H s):sysModules<s.heap.objs.size:=by have h:mainGlobals<s.heap.objs.size:=(I.mod.glob.keeps I.bk).lt;exact fF (by decide) h
def Tl{Q:lC->lD->Prop}(hu:A.units+1<cLine)(I:Inv X aa σ H s)(g:DGet H a y<|some v)(q:Ba y u)(h:∀d n,Inv X aa σ H n->Ba v d->Q d n) :
  qV X.prog X.w A (getItem (.ref a) u) Q E s:=by
 rcases g with⟨j,k,e,m,l⟩|⟨j,k,b,e,m,t,l⟩;subst m;obtain⟨z,D,C,c,dd⟩:=Ic I.hok e;obtain⟨d,i,f⟩:=Hi.some_of (v:=v) (o:=valueAt C k) (by rw[l];exact c.val k);exact wpAny_getItem_of (Iz q) dd.mapOf i<|h d _ (I.tok _) f;subst m;cases (show u=Value.ref b from q);obtain⟨z,D,x,c,dd⟩:=Ja I.hok e;obtain⟨d,i,f⟩:=Hi.some_of (v:=v) (o:=(atKey x k).map (·.2)) (by rw[l];exact c.val k);obtain⟨p,hp,B⟩:=G_.mp i;refine wpAny_getItem_heap (fH hu) (Gf I.hok t) dd hp ?_;rw[B];exact h d _ (I.tok _) f
def VQ{Q:lC->lD->Prop}(hu:A.units+1<cLine)(I:Inv X aa σ H s)(g:DGet H a y o)(m:Ba y u)(h:∀j,Inv X aa σ H j->Q (.bool o.isSome) j) :
  qV X.prog X.w A (compareOp .In u<|.ref a) Q E s:=by
 rcases g with⟨d,k,e,i,l⟩|⟨d,k,b,e,i,n,l⟩;subst i;obtain⟨z,f,t,c,dd⟩:=Ic I.hok e;refine wpAny_in_of (Iz m) f dd.mapOf ?_;rw[<- (c.val k).isSome_eq,<- l];exact h _<|I.tok _;subst i;cases (show u=Value.ref b from m);obtain⟨z,f,p,c,dd⟩:=Ja I.hok e;refine wpAny_in_heap (fH hu) (Gf I.hok n) f dd ?_;have q:=(c.val k).isSome_eq;rw[iH]at q;rw[<- q,<- l];exact h _<|I.tok _
def BQ{Q:lC->lD->Prop}(hu:A.units+1<cLine)(I:Inv X aa σ H s)(g:DGet H a y o)(m:Ba y u)(h:∀j,Inv X aa σ H j->Q (.bool<|!o.isSome) j) :
  qV X.prog X.w A (compareOp .NotIn u<|.ref a) Q E s:=by
 rcases g with⟨d,k,e,i,l⟩|⟨d,k,b,e,i,n,l⟩;subst i;obtain⟨z,f,t,c,dd⟩:=Ic I.hok e;refine wpAny_notIn_of (Iz m) f dd.mapOf ?_;rw[<- (c.val k).isSome_eq,<- l];exact h _<|I.tok _;subst i;cases (show u=Value.ref b from m);obtain⟨z,f,p,c,dd⟩:=Ja I.hok e;refine wpAny_notIn_heap (fH hu) (Gf I.hok n) f dd ?_;have q:=(c.val k).isSome_eq;rw[iH]at q;rw[<- q,<- l];exact h _<|I.tok _
def Gu{h':lL}{t':Nat}{d:HO}(I:Inv X aa σ H s)(f:Mut<|H a)(hs:Heap.SameBut a s.heap h')(he:∃q,h'.get? a=some q)(c:Bp X.prog X.w (upd H a d) h' a d) :
  Inv X aa σ (upd H a d) {s with heap:=h',toks:=t'} :=
 I.write (x:=a) (e:=a) f (.inl rfl) (λb q hb z=>(hs.2 b hb).trans z) he c
def V3{P:lH}{w:lI}{H':Hp}{h':lL}{kvs:oA<|Key×V}{b:oA<|Key×lC}(z:kvs.length<=sizeLine)(d:(a==sysModules)=false)(c:KV kvs b)(dd:h'.DictOf (Bf P w) a b) :
  Bp P w H' h' a (.dK kvs):=⟨z,d,b,c,dd⟩
def Tm{H':Hp}{Q:Unit->lD->Prop}(hu:A.units+1<cLine)(I:Inv X aa σ H s)(g:DPut H a y v H')(D:Ba y u)(x:Ba v r)(h:∀B,Inv X aa σ H' B->Q () B) :
  qV X.prog X.w A (setItem (.ref a) u r) Q E s:=by
 rcases g with⟨d,k,e,t,l,j⟩|⟨d,k,b,e,t,C,l,j⟩;subst t j;obtain⟨z,p,N,f,dd⟩:=FQ I.hok e;have hz:N.length<=sizeLine:=by rw[<- f.length];exact z
 have n:(putK d k v).length<=sizeLine:=by have:=Ec d k v;omega
 refine wpAny_setItem_pairs (hsz:=hz) (Iz D) dd λF i m=>h _ ?_;have he:∃q,F.get? a=some q:=let⟨q,_,_,hq,_⟩:=i;⟨q,hq⟩
 exact Gu I (by rw[e];exact True.intro) m he<|V3 n p (f.put k x) i
 subst t j;cases (show u=Value.ref b from D);obtain⟨z,p,L,f,dd⟩:=My I.hok e;have hz:L.length<=sizeLine:=by rw[<- bF f];exact z
 have n:(putK d k v).length<=sizeLine:=by have:=Ec d k v;omega
 refine wpAny_setItem_heap (hsz:=hz) (fH hu) (Gf I.hok C) dd λF i m=>h _ ?_;obtain⟨q,J,M,hq,h2,R,S,_,O⟩:=i;refine Gu I (by rw[e];exact True.intro) m ⟨q,hq⟩ ⟨n,p,_,(f.put k C x).keeps λc T G=>?_,q,J,M,hq,h2,R,S,O⟩;rw[Aq<|Mq G e λz=>nomatch z];exact G
end
section
variable {X:Cx}{aa:oA<|lF×lM}{σ:St}{H:Hp}{s:lD}{a:lF}{kvs:oA<|Key×V}{k:Key}{u:lC}{A:lK}{E:lC->lD->Prop}{o i e value:lJ}{pos cu mh:Pos}{td ty tv:TE}
def NO{Q:lC->lD->Prop}(I:Inv X aa σ H s)(e:Rd H a<|.dK kvs)(h:∀t c,Inv X aa σ H c->Q (.int kvs.length t) c):qV X.prog X.w A (call (.builtin "len") [.ref a]) Q E s:=by obtain⟨z,d,f,b,dd⟩:=Ic I.hok e;refine call_len_dict d dd (by rw[<- b.length];rw[lA]at z;omega) ?_;rw[<- b.length];exact h _ _<|I.tok _
def IJ(i:lJ):Prop:=∀b c,subscripted i false b c=operate [b,c] (getItem b c)
def BR{prog:lH}{w:lI}{A:lK}{E:lC->lD->Prop}{s:lD}{env:Env}{value b:lJ}{pos:Pos}{T id:String}{Q:lC->lD->Prop}
  (p:typeLookup (.type T) "__getitem__" = pure (some<|.builtin id)) (hs:IJ b)
  (h:qV prog w A (eval value env) (λo g=>qV prog w A (eval b env) (λi c=>c.TypeIs o T/\qV prog w A (getItem o i) Q E c) E g) E s) :
  qV prog w A (eval (.Subscript value b pos) env) Q E s:=by
 refine Subscript_<|cD h (λo g m=>cD m (λi c d=>?_) λ_ _ x=>x) λ_ _ x=>x;obtain⟨n,d⟩:=d;unfold subscriptTail;refine A_ ?_;rw[getitemInPython_of_ne n.not_modules];refine A_<|c_ n p ?_;have j:qV prog w A (subscripted b false o i) (λr f=>qV prog w A (letTemporaryGo value o r>>=λ_=>pure r) Q E f) E c:=by rw[hs o i];exact wpAny_operating<|cD d (λr f l=>A_<|wpAny_letTemporaryGo<|C_ l) λ_ _ x=>x
 first
  |exact C_ (A_ j)
  |exact A_ (C_<|A_ j)
  |exact A_ j
def Mz{X:Cx}{aa:oA<|lF×lM}{σ:St}{H:Hp}{s:lD}{a:lF}{y:V}{o:oB V}(I:Inv X aa σ H s)(g:DGet H a y o):s.TypeIs (.ref a) "dict" := by rcases g with⟨kvs,k,e,_,_⟩|⟨kvs,k,b,e,_,_,_⟩;obtain⟨_,_,d,_,dd⟩:=Ic I.hok e;exact dd.typeIs;obtain⟨_,_,c,_,dd⟩:=Ja I.hok e;exact dd.typeIs
def NP(td ty:TE):TE:=λσ H Q=>td σ H λx c=>ty σ c λy b=>∃a v,x=.ref a/\DGet b a y (some v)/\Q v b
def NQ(ty td:TE):TE:=λσ H Q=>ty σ H λy c=>td σ c λx b=>∃a o,x=.ref a/\DGet b a y o/\Q (.bl o.isSome) b
def Re(ty td:TE):TE:=λσ H Q=>ty σ H λy c=>td σ c λx b=>∃a o,x=.ref a/\DGet b a y o/\Q (.bl<|!o.isSome) b
def NR(td ty tv:TE):TS:=λD σ H=>tv σ H λv d=>td σ d λx c=>ty σ c λy f=>∃a b,x=.ref a/\DPut f a y v b/\D.nx σ b
def BS(hu:X.A.units+1<cLine)(l:PE X o td)(hi:PE X i ty)(hs:IJ i):PE X (.Subscript o i pos) (NP td ty):=by intro aa s σ H Q I h;refine BR PySem.F.slot_dict_getitem.lookup hs<|thn (l aa s σ H _ I h) λu q B=>C1 B λx z t m j=>thn (hi aa q σ z _ t j) λJ D n=>?_;obtain⟨y,p,b,d,a,v,f,g,w⟩:=n;subst f;obtain rfl:u=Value.ref a:=m;exact⟨Mz b g,Tl hu b g d λC G r c=>⟨v,p,r,c,w⟩⟩
def IK(hu:X.A.units+1<cLine)(hi:PE X i ty)(l:PE X o td):PC X .In i o (NQ ty td):=by intro aa s σ H Q I h;refine thn (hi aa s σ H _ I h) λD q r=>C1 r λy z v c j=>thn (l aa q σ z _ v j) λu B b=>?_;obtain⟨x,m,p,n,a,d,f,g,w⟩:=b;subst f;obtain rfl:u=Value.ref a:=n;exact VQ hu p g c λC t=>⟨.bl d.isSome,m,t,rfl,w⟩
def Tn(hu:X.A.units+1<cLine)(hi:PE X i ty)(l:PE X o td):PC X .NotIn i o (Re ty td):=by intro aa s σ H Q I h;refine thn (hi aa s σ H _ I h) λD q w=>C1 w λy z t c j=>thn (l aa q σ z _ t j) λu B b=>?_;obtain⟨x,m,p,n,a,d,f,g,v⟩:=b;subst f;obtain rfl:u=Value.ref a:=n;exact BQ hu p g c λC r=>⟨.bl<|!d.isSome,m,r,rfl,v⟩
def BT(hu:X.A.units+1<cLine)(l:PE X o td)(hi:PE X i ty)(hv:PE X value tv)(hs:swapsWith value (some<|.Subscript o i cu) pos.line X.env=pure false) :
  PS X (.Assign [.Subscript o i cu] value pos) (NR td ty tv):=by
 intro aa s σ H D I h;refine wpAny_Assign_Subscript (thn (hv aa s σ H _ I h) λr p B=>C1 B λv z t b f=>thn (l aa p σ z _ t f) λu d L=>C1 L λx j n m w=>thn (hi aa d σ j _ n w) λO Q J=>?_) hs;obtain⟨y,P,M,c,a,F,G,g,C⟩:=J;subst G;obtain rfl:u=Value.ref a:=m;exact Tm hu M g c b λN q=>⟨σ,F,q,C⟩
def M3{P:lH}{w:lI}{H:Hp}(h:lL)(hb:sysModules<h.objs.size):Bp P w H (h.push {cls:=.type "dict",data:=.dict #[]}) h.objs.size (.dK []) :=
 ⟨aJ _,jN.mpr<|bN<|Y_ hb,[],.nil,Heap.DictOf.new h⟩
def V4{P:lH}{w:lI}{H:Hp}(h:lL)(hb:sysModules<h.objs.size):Bp P w H (h.push {cls:=.type "dict",data:=.dict #[]}) h.objs.size (.dT []) :=
 ⟨aJ _,jN.mpr<|bN<|Y_ hb,[],.nil,_,#[],0,I_ _ rfl,⟨rfl,rfl,rfl⟩,rfl,rfl,a_⟩
def IL:TE:=λ_ H Q=>∀p,H p=none->Q (.ref p) (upd H p<|.dK [])
def IM:TE:=λ_ H Q=>∀p,H p=none->Q (.ref p) (upd H p<|.dT [])
def V5:PE X (.Dict [] [] pos) IL:=λaa s σ H Q I h=>
 wpAny_Dict_empty ⟨.ref s.heap.objs.size,_,I.laid (a:=s.heap.objs.size) (o:=.dK []) (t':=s.toks) (λ_ _ q=>DD _ q) (F_ _)<|M3 s.heap I.big,rfl,h _<|I.hok.fresh<|F_ _⟩
def V6:PE X (.Dict [] [] pos) IM:=λaa s σ H Q I h=>
 wpAny_Dict_empty ⟨.ref s.heap.objs.size,_,I.laid (a:=s.heap.objs.size) (o:=.dT []) (t':=s.toks) (λ_ _ q=>DD _ q) (F_ _)<|V4 s.heap I.big,rfl,h _<|I.hok.fresh<|F_ _⟩
end
def Lm:oA (TE×TE)->St->Hp->(oA (V×V)->Hp->Prop)->Prop
 |[],_,H,Q=>Q [] H
 | (c,e)::r,a,H,Q=>c a H λx f=>e a f λy b=>Lm r a b λd g=>Q ((x,y)::d) g
abbrev VV:oA (V×V)->oA (lC×lC)->Prop:=Paired λp q=>Ba p.1 q.1/\Ba p.2 q.2
def PPs(X:Cx)(b:Pos)(j:oA<|oB lJ)(a:oA lJ)(g:oA<|TE×TE):Prop :=
 ∀(f:oA<|lF×lM) (s:lD) (c:St) (H:Hp) (Q:oA (V×V)->Hp->Prop),Inv X f c H s->Lm g c H Q ->
  qV X.prog X.w X.A (evalPairs<|pairTrees j a X.env b) (λi h=>∃e d,Inv X f c d h/\VV e i/\Q e d) X.xe s
def BU{X:Cx}{a:Pos}:PPs X a [] [] []:=λb s c H Q I h=>pairTrees_nil_walk ⟨[],H,I,.nil,h⟩
def V7{X:Cx}{a:Pos}{k v:lJ}{ks:oA<|oB lJ}{f:oA lJ}{tk g:TE}{e:oA<|TE×TE}(hk:PE X k tk)(hv:PE X v g)(j:PPs X a ks f e) :
  PPs X a (some k::ks) (v::f) ((tk,g)::e):=λb s c H Q I h=>
 pairTrees_cons_walk (thn (hk b s c H _ I h) λu z o=>C1 o λx C A q n=>thn (hv b z c C _ A n) λJ m l=>C1 l λy p t i B=>
  thn (j b m c p _ t B) λG L r=>C1 r λw E F d D=>⟨(x,y)::w,E,F,.cons ⟨q,i⟩ d,D⟩)
def Gg(kvs more:oA<|Key×V):oA (Key×V):=more.foldl (λa b=>putK a b.1 b.2) kvs
def KV.merge:∀{more:oA<|Key×V} {b:oA<|Key×lC} {kvs:oA<|Key×V} {a:oA<|Key×lC},KV more b->KV kvs a->KV (Gg kvs more) (merged a b):=by
 intro more b kvs a r;unfold KV at r
 induction r generalizing kvs a with
 |nil=>intro q;exact q
 |@cons p q f g h t c=>
  intro d;have e:KV (putK kvs p.1 p.2) (stored a q.1 q.2):=by have:=d.put p.1 h.2;rw[<- h.1];exact this
  exact c e
theorem F8:∀(more kvs:oA<|Key×V),(Gg kvs more).length<=kvs.length+more.length
 |[],kvs=>by show kvs.length<=kvs.length+0;omega
 |p::r,kvs=>by have h1:=F8 r<|putK kvs p.1 p.2;have h2:=Ec kvs p.1 p.2;show(Gg (putK kvs p.1 p.2) r).length<=_;rw[aZ];omega
theorem Jb{P:lH}{w:lI}:∀{kvs:oA<|Key×V} {e:oA<|lC×lC},VV (kvs.map λf=>(kV f.1,f.2)) e->∃d,Carries (Bf P w) e d/\KV kvs d
 |[],_,r=>by rw[List.map_nil]at r;cases r;exact⟨[],True.intro,.nil⟩
 |p::kvs,_,r=>by
  rw[aP]at r;cases r with
  |@cons a b as i h t=>obtain⟨d,c,q⟩:=Jb (P:=P) (w:=w) t;obtain⟨j,g⟩:=b;exact⟨(p.1,g)::d,⟨Iz h.1,rfl,c⟩,.cons ⟨rfl,h.2⟩ q⟩
def NS(d:oA<|TE×TE):TE:=λf H Q=>∀p,H p=none->Lm d f (upd H p<|.dK []) λe b=>b p=some (.dK [])/\∃a:oA<|Key×V,e=a.map (λc=>(kV c.1,c.2))/\a.length<=15/\Q (.ref p) (upd b p<|.dK<|Gg [] a)
def BV{X:Cx}{g:Pos}{d:oA<|oB lJ}{b:oA lJ}{j:oA<|TE×TE}(h:PPs X g d b j)(D:d.all (·.isSome)=true)(E:d.length=b.length)(h0:d≠[])
  (p:d.length<=15):PE X (.Dict d b g) (NS j):=by
 intro n s B H Q I q;have m:=I.hok.fresh<|F_ s.heap.objs.size;have u:=I.laid (a:=s.heap.objs.size) (o:=.dK []) (h':=s.heap.push {cls:=.type "dict",data:=.dict #[]}) (t':=s.toks) (λ_ _ q=>DD _ q) (F_ _)<|M3 s.heap I.big;refine wpAny_Dict_walk (knd:=Bf X.prog X.w) D E h0 p<|thn (h n _ B _ _ u<|q _ m) λG J r=>?_;obtain⟨M,L,k,i,e,f,t,N,v⟩:=r;subst t;obtain⟨y,c,rk⟩:=Jb (P:=X.prog) (w:=X.w) i;obtain⟨z,F,C,A,dd⟩:=FQ k.hok e;cases A;refine⟨y,c,dd,λh' l x=>⟨.ref s.heap.objs.size,_,?_,rfl,v⟩⟩;have hz:(Gg [] f).length<=sizeLine:=by have h1:=F8 f [];rw[List.length_nil]at h1;rw[lA];omega
 have he:∃q,h'.get? s.heap.objs.size=some q:=by obtain⟨q,_,_,hq,_⟩:=l;exact⟨q,hq⟩
 exact Gu k (by rw[e];exact True.intro) x he<|V3 hz F (rk.merge .nil) l
structure M1(X:Cx)(o:lJ)(m:Str)(au:Pos)(e:lJ)(ak:Pos):Prop where
 base:attributeBase o m X.env (eval o X.env)=eval o X.env
 few:((backTo ak<|starEach [e] X.env).all (λx=>!x.1)&&(backToKw ak<|keywordEach [] X.env).all (λx=>x.1.isSome)
  && decide (([e]:oA lJ).length+([]:oA Keyword).length+(if([]:oA Keyword).isEmpty then 0 else 1)<30))=true
 line:(au.endLine==ak.line)=true
 trees:backTo ak (starEach [e] X.env)=[(false,eval e X.env)]
structure M2(X:Cx)(o:lJ)(m:Str)(au:Pos)(e f:lJ)(ak:Pos):Prop where
 base:attributeBase o m X.env (eval o X.env)=eval o X.env
 few:((backTo ak<|starEach [e,f] X.env).all (λx=>!x.1)&&(backToKw ak<|keywordEach [] X.env).all (λx=>x.1.isSome)
  && decide (([e,f]:oA lJ).length+([]:oA Keyword).length+(if([]:oA Keyword).isEmpty then 0 else 1)<30))=true
 line:(au.endLine==ak.line)=true
 trees:backTo ak (starEach [e,f] X.env)=[(false,eval e X.env),(false,eval f X.env)]
def TX(H:Hp)(a:lF):Prop:=(∃b,Rd H a<|.dK b)\/∃b,Rd H a<|.dT b
def V8{X:Cx}{h:oA<|lF×lM}{i:St}{H:Hp}{s:lD}{a:lF}(I:Inv X h i H s)(d:TX H a) :
  s.TypeIs (.ref a) "dict" /\ (∀b,Value.ref a=.ref b->∃c,s.heap.get? b=some c/\c.dict=none)/\(a==sysModules)=false:=by
 rcases d with⟨f,e⟩|⟨f,e⟩;obtain⟨_,g,k,_,dd⟩:=Ic I.hok e;refine⟨dd.typeIs,λb q=>?_,g⟩;cases q;obtain⟨c,_,_,h1,h2,_⟩:=dd;exact⟨c,h1,h2.2.1⟩;obtain⟨_,g,j,_,dd⟩:=Ja I.hok e;refine⟨dd.typeIs,λb q=>?_,g⟩;cases q;obtain⟨c,_,_,h1,h2,_⟩:=dd;exact⟨c,h1,h2.2.1⟩
section
variable {X:Cx}{aa:oA<|lF×lM}{σ:St}{H:Hp}{s:lD}{a:lF}{y d:V}{u r:lC}{o:oB V}{A:lK}{E:lC->lD->Prop}
def IN{Q:lC->lD->Prop}(hu:A.units+1<cLine)(I:Inv X aa σ H s)(g:DGet H a y o)(p:Ba y u)(rd:Ba d r)(h:∀m n,Inv X aa σ H n->Ba (o.getD d) m->Q m n) :
  qV X.prog X.w A (call (.builtin "dict.get") [.ref a,u,r]) Q E s:=by
 rcases g with⟨f,k,e,j,l⟩|⟨f,k,b,e,j,q,l⟩;subst j;obtain⟨z,i,v,c,dd⟩:=Ic I.hok e;refine iI iS dd.typeIs PySem.F.entry_dict_get (PySem.F.args_dict_get_3 _ _ _) (meets_dict_get_default (Bf X.prog X.w) a (Iz p) i r) ⟨_,dd.mapOf,h _ _ (I.tok _) ?_⟩;rw[l];exact(c.val k).getD rd;subst j;cases (show u=Value.ref b from p);obtain⟨z,i,t,c,dd⟩:=Ja I.hok e;refine iI iS dd.typeIs PySem.F.entry_dict_get (PySem.F.args_dict_get_3 _ _ _) (meetsH_dict_get_default (tupleKind<|Bf X.prog X.w) a b i r) ⟨fH hu,k,t,Gf I.hok q,dd,h _ _ (I.tok _) ?_⟩;rw[l];exact(c.val k).getD rd
end
def IP(td ty f:TE):TE:=λb H Q=>td b H λx c=>∃a,x=.ref a/\TX c a/\ty b c λy e=>f b e λz d=>∃o,DGet d a y o/\Q (o.getD z) d
section
variable {X:Cx}{o e f:lJ}{au ak:Pos}{td ty tx:TE}
def V9(hu:X.A.units+1<cLine)(p:PE X o td)(he:PE X e ty)(R:PE X f tx)(m:M2 X o "get" au e f ak):PE X (.Call (.Attribute o "get" au) [e,f] [] ak) (IP td ty tx):=by
 intro b s c H Q I h;refine wpAny_Call_method m.base m.few m.line fW iS PySem.F.type_dict_get<|thn (p b s c H _ I h) λu t M=>?_;obtain⟨x,C,i,q,a,N,d,l⟩:=M;subst N;obtain rfl:u=Value.ref a:=q;obtain⟨G,J,_⟩:=V8 i d;refine⟨G,J,?_⟩;rw[m.trees];refine gA rfl<|jF<|bG<|thn (he b t c C _ i l) λV k v=>C1 v λy n r j B=>
  bG (thn (R b k c n _ r B) λW Y ⟨z,O,P,D,T,g,E⟩=>b_ ?_)
 exact IN hu P g j D λS U w L=>⟨_,O,w,L,E⟩
end
end L2
namespace Att
open PySem PySem.W PySem.Calls PyProof.Rows
def Ih{P:Params}{h:lL}:∀(ns:oA Int) (c:oA lC),WellAll P h c (ns.map WData.int)->IntsAre c ns:=by
 intro ns
 induction ns with
 |nil=>intro c w;rw[List.map_nil]at w;cases w;exact .nil
 |cons n ns d=>
  intro c w;rw[aP]at w;cases w with
  |cons a b=>cases a;exact .cons _ _<|d _ b
def To{l:OpenLaw}{n:Nat}(hn:l.most=some n){P:Params}{h:lL}{args:oA WData}{f:oA lC}
  (i:l.row.toRowW.claim.pre args=true) (k:WellAll P h f args) :
  ∃a g ns,f=[Value.ref a]/\args=[WData.list<|ns.map WData.int]/\h.get? a=some {cls:=.type "list",data:=.seq g.toArray}/\IntsAre g ns/\ns.length<=n:=by
 have e:WShape.hasAll [] args [.list .int]=true:=(pre_splitW i).1;have hc:l.pre.holds [] {args:=args}=true:=(pre_splitW i).2;obtain⟨d,r,rfl,h1,h2⟩:=hasAllW_cons e;obtain rfl:=hasAllW_nil h2;obtain⟨v,rfl,m⟩:=hasW_list h1;obtain⟨ns,rfl⟩:=items_int m;have p:ns.length<=n:=by
  unfold OpenLaw.pre at hc;have b:(WTm.not<|.lt (.lit<|.int (n:Int))<|.len<|.arg 0).holds [] {args:=[.list<|ns.map .int]}=true:=by have b:=(holds_andW hc).1;rw[hn]at b;exact b
  have c:=condW_of b<|w_not<|w_lt w_lit<|w_len_list<|w_arg rfl;rw[B_]at c;refine kQ λq=>?_;have u:(n:Int)<((ns.length:Nat):Int):=by omega
  first
   | (rw[aW u]at c;exact absurd c<|by decide)
   | (simp at c;omega)
 cases k with
 |cons t j=>
  cases j;cases t with
  |list s o=>exact⟨_,_,ns,rfl,rfl,s,Ih ns _ o,p⟩
def Tp(l:OpenLaw)(args:oA WData):l.row.toRowW.claim.post args (.bool true) args=true :=
 postW_of (r:=l.row.toRowW) (X:=(true==true))
  (show WShape.has [] (.bool true) .bool=true by first|rfl|decide|simp[WShape.has,WShape.arms,WShape.armsAll])
  (show(WTm.eq .res<|.lit<|.bool true).value [] {args:=args,res:=some<|.bool true,after:=args}=some (.bool<|true==true) from w_eq_bool (w_res rfl) w_lit) rfl
def attach_call{l:OpenLaw}{n:Nat}{q:lH}{v:oA Str}{x:(Str->oB lC)->lL->Prop}{y:lI->lL->Prop}{d:DefRec}
  (hn:l.most=some n) (D:d.params.defaults=[])
  (call:∀(w:lI) (s₀ b:lD) (k m:Str->oB lC) (h:lF) (o:lM) (p j s:lC) (a:lF) (e:oA lC) (ns:oA Int),
   Ground q v [] x w s₀ k m b.heap->y w b.heap ->
   b.heap.get? h=some o->o.data=.func (docDef d.name d.params d.body d.scope p j s)->b.heap.CodeRec j d.name->k d.name=some (.ref h) ->
   b.heap.get? a=some {cls:=.type "list",data:=.seq e.toArray}->IntsAre e ns->ns.length<=n->b.gens=#[] ->
   codeAny (model l.prog w) callerA (.call (.ref h) ⟨[.ref a],[]⟩) (λr i=>r=.ok (.ret<|.bool true)/\OldK b.heap i.heap/\i.os=b.os/\AllBare i.gens) b) :
  WalkO q v x y l.row.toRowW d [] (λf e=>PySem.call f e):=by
 intro w s₀ b k m G Y h o p j s E kV C O F A t B z R as H u P I Q;obtain rfl:E=.none:=Dflts.none A D;obtain rfl:kV=.none:=Dflts.noKw A;obtain⟨a,e,ns,rfl,rfl,g,c,L⟩:=To hn H I;refine enter_call<|jU (call w s₀ b k m h o p j s a e ns G Y C (fd_plain O) F t g c L B) λr i hq=>?_;obtain⟨rfl,h2,J,M⟩:=hq;exact⟨.inl ⟨.bool true,.bool true,[],rfl,λ_=>rfl,.bool true,Tp l _,λ_=>⟨List.Pairwise.nil,λ_ N=>(nomatch N)⟩⟩,h2,J,M⟩
end Att
namespace L2
open PySem PySem.Spec PyProof.Rows
theorem Kn:∀{a:oA lC} {ns:oA Int},IntsAre a ns->Vals (ns.map V.int) a
 |_,_,.nil=>.nil
 |_,_,.cons n t h=>.cons ⟨t,rfl⟩<|Kn h
def Only(H:Hp):Prop:=∀b,H b=none\/∃o a,H b=some (.frz o<|.lst a)
def Wa{P:lH}{w:lI}{K:lG}{p C:Str->oB lC}{CX:CXT}{k:Nat}{D a:lF}{I:lO}{x:Str}{sp:Sp}{c:lD}{i:oA lC}{ns:oA Int}
  (O:K.In c.heap) (L:c.heap.Ns mainGlobals p) (hb:c.heap.Ns builtinsNs C) (B:∀x:Str,x ≠ "__name__" -> C x=bootBuiltins x) (Y:c.heap.NoLimit) (X:c.gens=#[])
  (ha:c.heap.get? a=some {cls:=.type "list",data:=.seq i.toArray}) (hi:IntsAre i ns) (N:ns.length<=sizeLine) (hr:Room k callerA) (F:∀g:lL,K.In g->g.Ns mainGlobals p->FnOk P w K p g CX k D I [x] sp) (sy:∀(s:lD) (u:lC),BindsTo s I ⟨[u],[]⟩ [(x,u)])
  (gw:∀H:Hp,Only H->E4 K H a (ns.map V.int)->sp [.ref a] H (λv _=>v=.bl true) λ_ _ _=>False)
  (xl:∀H e f,CX [] H c (λ_ _ _=>False) e f->False) :
  codeAny (model P w) callerA (.call (.ref D) ⟨[.ref a],[]⟩) (λr f=>r=.ok (.ret<|.bool true)/\OldK c.heap f.heap/\f.os=c.os/\AllBare f.gens) c:=by
 have Q:=Kn hi;have W:=hi.length;have T:∀H:Hp,Only H->E4 K H a (ns.map V.int)->HOk P w H c.heap->(∀b,H b≠none->b=a)->(H a≠none->K.lookup a=none) ->
   codeAny (model P w) callerA (.call (.ref D) ⟨[.ref a],[]⟩) (λr f=>r=.ok (.ret<|.bool true)/\OldK c.heap f.heap/\f.os=c.os/\AllBare f.gens) c:=by
  intro H U hS t R hK;have G:∀{b:lF} {o:lM},c.heap.get? b=some o->H b=none->(Lf c.heap H).get? b=some o:=λe n=>Vm e n;have tp:∀{b:lF} {o:lM} {es:oC DictEntry} {ep:Nat},c.heap.get? b=some o->o.data=.dict es ep->H b=none:=λ{b o es ep} e d=>by
   cases q:H b with
   |none=>rfl
   |some u=>have E:b=a:=R b (by rw[q];simp);subst E;rw[ha]at e;cases e;have d':Data.seq i.toArray _=Data.dict es ep:=d;cases d'
  have A:∀{b:lF} {m:Str->oB lC},c.heap.Ns b m->(Lf c.heap H).Ns b m:=λ{b m} ⟨o,es,ep,e,d,r⟩=>⟨o,es,ep,G e<|tp e d,d,r⟩;have M:K.In (Lf c.heap H):=λb o e=>G (O b o e) (by
   cases q:H b with
   |none=>rfl
   |some u=>
    have E:b=a:=R b (by rw[q];simp);subst E;rw[hK<|by rw[q];simp]at e;cases e)
  have hM:Mod K p (Lf c.heap H):=⟨M,A L,⟨C,A hb,B⟩,by obtain⟨mc,h1,h2⟩:=Y;exact⟨mc,A h1,h2⟩⟩;have e0:Env0 P w K p (Lf c.heap H) callerA [] c H:=⟨rfl,hM,λb o e=>AN e,gB<|Tc _ _,trivial,λb hb=>absurd (show b∈([]:oA lF) from hb)<|by simp,t,.of_eq X⟩;refine jU ((F _ M<|A L).run callerA [] c H ⟨[.ref a],[]⟩ [.ref a] [.ref a] _ _ hr e0 (sy c<|.ref a) (.cons rfl .nil)<|gw H U hS) λr f h=>?_;cases r with
  |error e=>exact(xl H e f h).elim
  |ok fl=>
   cases fl with
   |next=>exact False.elim h
   |brk=>exact False.elim h
   |cont=>exact False.elim h
   |ret u=>
    obtain⟨v,H',os,y,J,l,r',q⟩:=h;have q':v=.bl true:=q;subst q';obtain rfl:u=Value.bool true:=r';refine⟨rfl,OldK.of_keep λb o e=>?_,os,y⟩;cases q:H b with
    |none=>exact J.keep b o e q (by intro z;exact absurd (show b∈([]:oA lF) from z)<|by simp) (by simp)
    |some u=>rcases U b with z|⟨Z,xs,z⟩;rw[q]at z;cases z;have z2:=J.frzs b Z _ z;obtain⟨S,_⟩:=t b _ z;obtain⟨e2,_⟩:=l b _ z2;rw[e]at S;cases S;exact e2
 cases hk:K.lookup a with
 |some o=>have e:=O a o hk;rw[ha]at e;cases e;refine T (λ_=>none) (λ_=>.inl rfl) (.inr ⟨_,i.toArray,_,hk,rfl,rfl,rfl,by rw[aA,W];exact N,by simpa using Q⟩) (λb u z=>by have j:(none:oB HO)=some u:=z;cases j) (λb z=>absurd rfl z) λz=>absurd rfl z
 |none=>refine T (λb=>if b=a then some (.frz {cls:=.type "list",data:=.seq i.toArray}<|.lst<|ns.map V.int) else none) (λb=>?_) (.inl<|.inr ⟨{cls:=.type "list",data:=.seq i.toArray},T_ rfl⟩) (λb u z=>?_) (λb z=>?_) λ_=>hk;by_cases hb:b=a;exact .inr ⟨_,_,T_ hb⟩;exact .inl<|M_ hb;by_cases hb:b=a;have j:=(T_ hb).symm.trans z;cases j;subst hb;exact⟨ha,by rw[B_];exact N,i,_,Q,ha⟩;have j:=(M_ hb).symm.trans z;cases j;by_cases hb:b=a;exact hb;exact absurd (M_ hb) z
def walk_of{l:PySem.W.OpenLaw}{n k:Nat}{q:lH}{P:oA Str}{Q:(Str->oB lC)->lL->Prop}{B:lI->lL->Prop}{d:DefRec}{K:Params->lG}{CX:lI->CXT}{sp:lI->Sp}{x:Str}
  (hn:l.most=some n) (I:n<=sizeLine) (M:d.params.defaults=[]) (J:Room k callerA) (R:∀(w:lI) (h:lL),B w h->(K w.params).In h) (F:∀(w:lI) (j:Str->oB lC) (r:lF) (h:lL),(K w.params).In h->h.Ns mainGlobals j->j d.name=some (.ref r) ->
   ∃y:lO,(∀(s:lD) (u:lC),BindsTo s y ⟨[u],[]⟩ [(x,u)]) /\
    ∀c:lL,(K w.params).In c->c.Ns mainGlobals j->FnOk l.prog w (K w.params) j c (CX w) k r y [x] (sp w)) (N:∀(w:lI) (H:Hp) (a:lF) (ns:oA Int),ns.length<=n->Only H->E4 (K w.params) H a (ns.map V.int)->sp w [.ref a] H (λv _=>v=.bl true) λ_ _ _=>False) (O:∀(w:lI) (H:Hp) (s:lD) (e:lC) (t:lD),CX w [] H s (λ_ _ _=>False) e t->False) :
  PySem.W.WalkO q P Q B l.row.toRowW d [] (λf A=>PySem.call f A):=by
 refine Att.attach_call hn M λw C m j mb r o pm cd bw a A ns G Y Z hd g7 z p i D L=>?_;have E:=R w _ Y;obtain⟨y,hb,X⟩:=F w j r _ E G.T.g z;exact Wa E G.T.g G.T.b G.T.builtins G.T.nolimit L p i (K_ D I) J X hb (λH U S=>N w H a ns D U S) λH e t=>O w H m e t
def Dj(s:lN):Arguments:=match s with
 |.FunctionDef _ a _ _ _ _ _ _ _ _=>a
 |_=>{posonlyargs:=[],args:=[],vararg:=none,kwonlyargs:=[],kw_defaults:=[],kwarg:=none,defaults:=[]}
def Cj(s:lN):oA lN:=match s with
 |.FunctionDef _ _ b _ _ _ _ _ _ _=>b
 |_=>[]
def Ah(s:lN):lQ:=match s with
 |.FunctionDef _ _ _ _ _ _ sc _ _ _=>sc
 |_=>{kind:=.function,names:=[],isGenerator:=false,isCoroutine:=false}
abbrev Dx:CXT:=λ_ _ _ _ _ _=>False
abbrev E0:XK:=λ_ _ _=>False
def FR{X:Cx}:Passes Dx X E0:=λ_ _ _ _ _ _ _ h=>h.elim
structure Fun(K:lG)(x qual:Str)(st:lN)(f:lF)(fd:lO):Prop where
 ex:∃(oc:lC) (od:oB lF) (kV bw pm:lC) (an:oB lF) (aq ct:lC) (fj:oC<|oB lC),
  fd=PySem.W.fnOf x qual (Dj st) (Cj st) (Ah st) .none kV bw pm an aq ct/\K.lookup f=some ⟨oc,od,.func fd,fj⟩/\PySem.W.codeIn K aq qual=true
 kp:PySem.W.keepIn K (.ref f)=true
section
variable {P:lH}{w:lI}{K:lG}{mg:Str->oB lC}{base:lL}{X:Cx}
def Fun.ok{x a:Str}{st:lN}{f:lF}{e:lO}{N d:oA Str}{k:Nat}{sp:Sp}(F:Fun K x a st f e)(S:FnScope N d<|Ah st)(len:∀b H Q E,sp b H Q E->b.length=d.length)
  (m:∀(c:lC) (A:lK) (outer:oA Env) (s:lD) (H:Hp) (b:oA V) (Q:VK) (E:XK),Room k (A.deeper<|envOfC a (Ah st) s.heap.objs.size f c)->sp b H Q E ->
   ∃t,PSs (Lg Dx P w K mg base N a (Ah st) f c A outer s H E).nox (Cj st) t/\t {nx:=λ_ i=>Q .non i,rt:=Q} (start N b) H):FnOk P w K mg base Dx (k+1) f e d sp:=by
 obtain⟨u,v,kV,y,r,p,c,z,o,rfl,n,l⟩:=F.ex;refine FM n l S len λA outer s H b Q E g j=>?_;obtain⟨t,h,q⟩:=m c A outer s H b Q E g j;exact⟨t,h.nox,q⟩
def Fun.binds{x a:Str}{st:lN}{f:lF}{j:lO}{d:oA Str}(F:Fun K x a st f j)
  (h:∀(kV c i:lC) (b:oB lF) (g ct:lC) (e:oA lC),e.length=d.length->bindArgs (PySem.W.fnOf x a (Dj st) (Cj st) (Ah st) .none kV c i b g ct) ⟨e,[]⟩=pure (d.zip e)):Binds K j d []:=by
 obtain⟨k,n,kV,c,i,b,g,ct,l,rfl,o,m⟩:=F.ex;exact .all<|h kV c i b g ct
def IQ{x a:Str}{st:lN}{f:lF}{h:lC}{j d:oB lF}{i:oC<|oB lC}{kV e g b ct:lC}(l:K.lookup f=some ⟨h,j,.func<|PySem.W.fnOf x a (Dj st) (Cj st) (Ah st) .none kV e g d b ct,i⟩)
  (c:PySem.W.codeIn K b a=true) (k:PySem.W.keepIn K (.ref f)=true):Fun K x a st f (PySem.W.fnOf x a (Dj st) (Cj st) (Ah st) .none kV e g d b ct):=⟨⟨h,j,kV,e,g,d,b,ct,i,rfl,l,c⟩,k⟩
def B0{A:lK}{k:Nat}(a:Room k A):A.units+1<cLine:=fI (jO (by decide:1<=64) _) a.units
def A5{n:Nat}(h:n<=1000):n<sizeLine:=fI h<|by decide
def Tq:Fd X (.builtin "len") (λc H Q=>∃a b,c=[V.ref a]/\H a=some (.dK b)/\Q (.int b.length) H):=by intro g s j H c i Q I r h;obtain⟨a,b,rfl,ha,q⟩:=h;obtain⟨u,rfl,e⟩:=Eo r;cases e;exact NO I (.inl ha) λt f d=>⟨.int b.length,H,d,⟨t,rfl⟩,q⟩
end
section
variable {κ:Type} [DecidableEq κ]
end
end L2
set_option maxHeartbeats 4000000
namespace L2
open PySem
def Er(a:oA<|Str×lF):oA (Str×lR)->oA (Str×lF)->oA (Str×lF)
 |[],b=>b
 | (n,k)::r,b=>if k=NameKind.free then Er a r ((n,(a.lookup n).getD 0)::b) else Er a r b
def F9{a:lQ}{env:Env}(h:∀x∈a.names,x.2=.free->∃c,env.cells.lookup x.1=some c) :
  closureFor a env=pure (Er env.cells a.names []):=by
 have f:∀(names:oA<|Str×lR) (acc:oA<|Str×lF),(∀x∈names,x.2=.free->∃c,env.cells.lookup x.1=some c) ->
   (do
     let mut g:=acc
     for (b,d) in names do
      if d==.free then g:=(b,<- cellOf env b)::g
     return g:Sem<|oA<|Str×lF)=pure (Er env.cells names acc):=by
  intro names
  induction names with
  |nil=>intro acc _;rfl
  |cons x r j=>
   intro acc h;obtain⟨n,k⟩:=x;have i:∀y∈r,y.2=.free->∃c,env.cells.lookup y.1=some c:=λy hy=>h y<|aH _ hy;by_cases hk:k=.free;subst hk;obtain⟨c,hc⟩:=h (n,.free) aS rfl;have e:cellOf env n=pure c:=by unfold cellOf;rw[hc]
   have q:=j ((n,c)::acc) i;simp only[List.forIn_cons,beq_self_eq_true,if_true,e];unfold Er;rw[T_ rfl,hc];exact q;have hb:(k==NameKind.free)=false:=by simpa using hk
   have q:=j acc i;simp only[List.forIn_cons,hb,Bool.false_eq_true,if_false];unfold Er;rw[M_ hk];exact q
 exact f a.names [] h
theorem Gv{a:oA<|Str×lF}:∀{names:oA<|Str×lR} {acc:oA<|Str×lF},
  (∀x∈names,x.2=.free->∃c,a.lookup x.1=some c)->(∀x c,acc.lookup x=some c->a.lookup x=some c) ->
  ∀x c,(Er a names acc).lookup x=some c->a.lookup x=some c
 |[],_,_,h,x,c,e=>h x c e
 | (n,k)::r,acc,g,h,x,c,e=>by
  unfold Er at e;have f:∀y∈r,y.2=.free->∃c,a.lookup y.1=some c:=λy hy=>g y<|aH _ hy;by_cases hk:k=.free
  ·rw[T_ hk]at e;refine Gv f (λy d q=>?_) x c e;obtain⟨i,b⟩:=g (n,k) aS hk;have b:a.lookup n=some i:=b;rw[dI]at q;cases hy:y==n with
   |true=>
    rw[hy,b]at q;have j:y=n:=by simpa using hy
    rw[j,b];exact q
   |false=>rw[hy]at q;exact h y d q
  rw[M_ hk]at e;exact Gv f h x c e
theorem Gh{a:oA<|Str×lF}{x:Str}:∀{names:oA<|Str×lR} {acc:oA<|Str×lF},
  (∃c,acc.lookup x=some c)->∃c,(Er a names acc).lookup x=some c
 |[],_,h=>h
 | (n,k)::r,acc,⟨c,h⟩=>by
  unfold Er;split
  ·refine Gh ?_;rw[dI];cases x==n with
   |true=>exact⟨_,rfl⟩
   |false=>exact⟨c,h⟩
  exact Gh ⟨c,h⟩
theorem Gw{a:oA<|Str×lF}{x:Str}:∀{names:oA<|Str×lR} {acc:oA<|Str×lF},
  (x,NameKind.free)∈names->∃c,(Er a names acc).lookup x=some c
 | (n,k)::r,acc,h=>by unfold Er;rcases aB.mp h with e|e;cases e;rw[T_ rfl];refine Gh ?_;rw[dI,kS];exact⟨_,rfl⟩;split;exact Gw e;exact Gw e
end L2
namespace PySem
open Sem (wp)
section
variable {prog:lH}{w:lI}{A:lK}{E:lC->lD->Prop}{R:lT->lD->Prop}{s:lD}
def M4{C y iter:lJ}{B:oA lJ}{a:lQ}{u:Pos}{z acc:lC}{env:Env}(I:Nat->lD->Prop) (D:∀n s,I n s->qV prog w A (pyNext z) (λr d=>match r with
   |none=>R (.ok .next) d
   |some v=>qV prog w A (letOwnedTupleGo y z v) (λ_ f=>qV prog w A (assign y env v) (λ_ l=>
     qV prog w A (forIn B true λc r=>if r=true then do let ok <- isTrue c env (eval c env);pure (ForInStep.yield ok) else pure<|ForInStep.yield r) (λok e=>
      if ok=true then qV prog w A (eval C env) (λx j=>
       qV prog w A (call (.builtin "list.append") [acc,x]) (λ_ k=>∃m,m<n/\I m k) (λ_ _=>False) j) (λ_ _=>False) e
      else ∃m,m<n/\I m e) (λ_ _=>False) l) (λ_ _=>False) f) (λ_ _=>False) d) (λ_ _=>False) s)
  (n:Nat) (h:I n s) :
  codeAny (model prog w) A (.compLoop (.ListComp C [⟨y,iter,B,0⟩] a u) 0 z acc env) R s:=by
 refine codeAny_loop rfl I (λn s F=>?_) n h;show wpAny _ A ((compTurn (.ListComp C [⟨y,iter,B,0⟩] a u) 0 z acc env).onRaise λx=>do noteFrame x env;theTreesLotGoes x) _ _ s;refine wpAny_noted ?_;rw[compTurn_list];refine A_<|wpAny_standAt<|A_<|cD (D n s F) (λr d i=>?_) λ_ _ b=>b.elim;cases r with
 |none=>exact C_ i
 |some v=>
  refine A_<|cD i (λ_ f o=>?_) λ_ _ b=>b.elim;refine A_<|cD o (λ_ l q=>A_<|cD q (λok e g=>?_) λ_ _ b=>b.elim) λ_ _ b=>b.elim;cases ok with
  |false=>exact C_ ⟨rfl,g⟩
  |true=>exact A_<|A_<|cD g (λx j t=>A_<|cD t (λ_ k p=>C_<|C_ ⟨rfl,p⟩) λ_ _ b=>b.elim) λ_ _ b=>b.elim
end
end PySem
namespace L2
open PySem PySem.Spec PyProof.Rows
def M5(mp:oA<|oB Nat)(a:St):St:=mp.map λo=>match o with|some i=>(a[i]?).join|none=>none
def BW(pn:oA<|Str×lR)(x:Str):Bool:=decide (pn.lookup x=some .cell)||decide (pn.lookup x=some .free)
def M6{pn:oA<|Str×lR}{x:Str}(h:BW pn x=true):pn.lookup x=some .cell\/pn.lookup x=some .free:=by unfold BW at h;rcases(e_ _ _).mp h with h|h;exact .inl<|aG h;exact .inr<|aG h
theorem Ln{env:Env}:∀{names:oA<|Str×lR} {x:Str},names.lookup x=some .free ->
  (names.map λ(n,k)=>if(k==NameKind.free&&env.scope.kind==.function&&env.kindOf n==some .cell) then(n,NameKind.cell) else(n,k)).lookup x=some .cell \/
  (names.map λ(n,k)=>if(k==NameKind.free&&env.scope.kind==.function&&env.kindOf n==some .cell) then(n,NameKind.cell) else(n,k)).lookup x=some .free
 |[],_,h=>by simp at h
 | (n,k)::r,x,h=>by
  have a:=@Ln env r x;rw[aP];cases hx:x==n with
  |true=>simp only[List.lookup_cons,hx]at h;cases h;by_cases hc:(NameKind.free==NameKind.free&&env.scope.kind==.function&&env.kindOf n==some .cell)=true;refine .inl ?_;simp only[hc,if_true,List.lookup_cons,hx];refine .inr ?_;simp only[if_neg hc,List.lookup_cons,hx]
  |false=>simp only[List.lookup_cons,hx]at h;by_cases hc:(k==NameKind.free&&env.scope.kind==.function&&env.kindOf n==some .cell)=true;simp only[hc,if_true,List.lookup_cons,hx];exact a h;simp only[if_neg hc,List.lookup_cons,hx];exact a h
end L2
namespace PySem
open Sem (wp)
section
variable {prog:lH}{w:lI}{A:lK}{E:lC->lD->Prop}{R:lT->lD->Prop}{s:lD}{I:lF}{fp wr:oA lF}{G:oC GenState->oC GenState->Prop}{n:Nat}{P:Nat->lC->Prop}{St:Nat->lD->Prop}
def Lo:typeLookup (.type "list_reverseiterator") "__len__" = pure none:=by rw[dX,cJ];kernel_rfl
def M7:typeLookup (.type "list_reverseiterator") "__length_hint__" = pure (some<|.builtin "list_reverseiterator.__length_hint__"):=by rw[dX,cJ];kernel_rfl
set_option maxRecDepth 100000 in
def J9(W:WalksS prog w A.in1 I fp wr G n P St)(h:∀i s,St i s->s.TypeIs (.ref I) "list_reverseiterator") (S:lF) (res:lC) (g:St 0 s) (m:S∉fp) (v:I∈fp)
  {c:Nat} (t:s.heap.get? S=some {cls:=.type "list",dict:=none,data:=.seq #[] c,slots:=#[]})
  (r:∀a j d,Moved (S::wr) G s a->a.heap.get? S=some {cls:=.type "list",dict:=none,data:=.seq j d,slots:=#[]}->ItemsOf P j n->R (.ok<|.ret res) a) (hn:n<=sizeLine:=by size_fits) :
  qV prog w A.in1 (Builtin.List.listExtendWith (.ref S) (.ref I) res)
   (λk a=>match k with|.done f=>R (.ok f) a|.again d=>d.quiet=true/\codeAny (model prog w) A d R a) (λe a=>R (.error e) a) s:=by
 have l:S≠I:=λe=>m<|e ▸ v;have h1:Builtin.List.listSameRef (.ref S) (.ref I)=false:=by simp[Builtin.List.listSameRef,l]
 unfold Builtin.List.listExtendWith;refine A_<|fN (h 0 _ g) ?_;rw[M_<|by rw[h1];decide];refine A_<|W.self 0 _ _ _ g ?_;refine A_<|bK ?_;unfold Builtin.List.listLengthHint;refine A_<|c_ (h 0 _ g) Lo ?_;show wpAny _ A.in1 (specialOf (Value.ref I) (Str.ofString "__length_hint__")>>=_) _ _ _;refine A_<|c_ (h 0 _ g) M7 ?_;generalize o:("list_reverseiterator.__length_hint__" : String)=id0
 wp_delta
 rw[show splitId id0=some ("list_reverseiterator","__length_hint__") from by subst o;decide +kernel];subst o;refine A_ (dA (b:=true) (h 0 _ g) (by rw[dU];kernel_rfl) ?_);refine C_ ?_;rw[M_<|by decide];exact C_ ⟨dM F.plain_extend_loop _,codeAny_extend_loopS W hn _ m _ n 0 _ _ _ rfl (aJ _) g t (ItemsOf.nil P) λa j d u q p=>r a j d u q p⟩
set_option maxRecDepth 100000 in
def Hj(W:WalksS prog w A.in1 I fp wr G n P St)(p:∀i s,St i s->s.TypeIs (.ref I) "list_reverseiterator") (S:lF) (u:St 0 s) (m:S∉fp) (y:I∈fp)
  (l:s.heap.get? S=some {cls:=.type "list",data:=.seq #[]})
  (v:∀a j d,Moved (S::wr) G s a->a.heap.get? S=some {cls:=.type "list",dict:=none,data:=.seq j d,slots:=#[]}->ItemsOf P j n->R (.ok<|.ret .none) a) (hn:n<=sizeLine:=by size_fits) :
  qV prog w A.in1 (Builtin.«list.__init__» ⟨[.ref S,.ref I],[]⟩)
   (λk a=>match k with|.done f=>R (.ok f) a|.again d=>d.quiet=true/\codeAny (model prog w) A d R a) (λe a=>R (.error e) a) s:=by
 show wpAny _ A.in1 (do let t <- Builtin.List.listItems (.ref S);Builtin.List.listUpdate (.ref S) λ_=>#[];letGo t.toList.reverse;Builtin.List.listExtendWith (.ref S) (.ref I) .none) _ _ s;refine A_ ?_;unfold Builtin.List.listItems;refine A_<|eB l rfl<|C_ ?_;show wpAny _ A.in1 (updateSeq S (λ_=>#[])>>=λ_=>letGo (#[]:oC lC).toList.reverse>>=λ_=>Builtin.List.listExtendWith (.ref S) (.ref I) .none) _ _ s;refine A_<|eI l rfl ?_;have c:=aM (Obj.mapSeq λ_=>(#[]:oC lC)) l rfl;have g:∀b o,b≠S->s.heap.get? b=some o->(s.heap.update S<|Obj.mapSeq λ_=>(#[]:oC lC)).get? b=some o :=
  λb o hb e=>(cQ _ _<|bN hb).trans e
 refine A_<|iE ?_;refine J9 (hn:=hn) W p S .none (W.frame 0 s _ s.toks u (F_ _) λb hb o e=>g b o (λh=>m<|h ▸ hb) e) m y c λa j d x r q=>?_;exact v a j d (Moved.trans W.gtrans ((Moved.refl W.grefl).then_heap (F_ _) λb o hb e=>g b o (λh=>hb<|h ▸ aS) e) x) r q
def Hk{Q:lC->lD->Prop}(W:WalksS prog w A.in1.in1 I fp wr G n P St)(l:∀i s,St i s->s.TypeIs (.ref I) "list_reverseiterator") (t:St 0 s) (q:∀b∈fp,b<s.heap.objs.size) (v:I∈fp)
  (u:∀d g h,Moved (s.heap.objs.size::wr) G {s with heap:=s.heap.push {cls:=.type "list",data:=.seq #[]}} d ->
   d.heap.get? s.heap.objs.size=some {cls:=.type "list",dict:=none,data:=.seq g h,slots:=#[]}->ItemsOf P g n->Q (.ref s.heap.objs.size) d) (hn:n<=sizeLine:=by size_fits) :
  qV prog w A (call (.type "list") [.ref I]) Q E s:=by
 have p:s.heap.objs.size∉fp:=λj=>cX _<|q _ j;refine callType_codes (Q₁:=λc a=>c=.ref s.heap.objs.size/\a={s with heap:=s.heap.push {cls:=.type "list",data:=.seq #[]}}) F.called_list (F.typeCall_list_1 _) F.entry_list_init
  (code_list_new _ ⟨rfl,rfl⟩) λc a f=>?_
 obtain⟨rfl,rfl⟩:=f;have k:(s.heap.push {cls:=.type "list",data:=.seq #[]}).get? s.heap.objs.size=some {cls:=.type "list",data:=.seq #[]}:=I_ _ rfl;refine⟨⟨_,k,rfl⟩,F.args_list_init_2 _ _,Hj (hn:=hn) W l _ (W.frame 0 s _ s.toks t (F_ _) λb _ o e=>DD _ e) p v k λd g h j r m=>?_⟩;exact⟨rfl,u d g h j r m⟩
end
end PySem
namespace L2
open PySem PySem.Spec PyProof.Rows
def PIfs(X:Cx)(d:oA lJ)(t:TT):Prop :=
 ∀(b:oA<|lF×lM) (s:lD) (a:St) (H:Hp) (Q:Bool->Hp->Prop),Inv X b a H s->t a H Q ->
  qV X.prog X.w X.A (forIn d true λc r=>if r=true then do let ok <- isTrue c X.env (eval c X.env);pure (ForInStep.yield ok) else pure<|ForInStep.yield r) (TP X b a Q) X.xe s
def VR:TT:=λ_ H Q=>Q true H
def Wb{X:Cx}:PIfs X [] VR:=λ_ _ _ H _ I h=>wpAny_tests_nil ⟨H,I,h⟩
def Wc{X:Cx}{c:lJ}{t:TT}(h:PT X c t):PIfs X [c] t:=λb s d H Q I a=>wpAny_tests_one<|h b s d H Q I a
def Wd(p:lF)(J:It)(g:TG)(tst:TT)(te:TE)(Q:Hp->Prop)(h:St)(H:Hp):Prop :=
 ∃W:Nat->Nat->oA V->St->Hp->Prop,(∃m,W 0 m [] h H)/\∀i m a e d,W i m a e d ->
  (J.stop i d/\Q d)\/(J.go i d/\∃N:oA V->St->Hp->Prop,(∀a h H,N a h H->∃l,l<m/\W (i+1) l a h H)/\∀x k,J.yld i d x k->g x e k λc o=>tst c o λb j=>
   if b=true then te c j λv n=>∃f,n p=some (.lst f)/\f.length<sizeLine/\N (f++[v]) c (upd n p<|.lst<|f++[v])
   else N a c j)
def We(mp:oA<|oB Nat)(d:TI)(g:TG)(tst:TT)(te:TE):TE:=λb H Q=>d b H λJ a=>∀p,a p=none ->
 Wd p J g tst te (λc=>Q (.ref p) c) (M5 mp b) (upd a p<|.lst [])
section
variable {X:Cx}{N':oA Str}{mp:oA<|oB Nat}{cz tg iter:lJ}{cf:oA lJ}{scope:lQ}{pos:Pos}{wi:TI}{g:TG}{tst:TT}{te:TE}{K:lG}{a p:lF}{xs:oA V}{Q:Hp->Prop}{σ:St}{H:Hp}
def Inv.letgo{d:oA<|lF×lM}{σ:St}{H:Hp}{s:lD}{C:lF}{h':lL}(I:Inv X d σ H s)(hn:H C=none)(h1:X.s₀.heap.objs.size<=C)(f:C≠X.env.locals)(h2:∀x c,X.env.cells.lookup x=some c->c≠C)
  (h:∀q∈X.pn++d,q.1≠C) (hs:Heap.SameBut C s.heap h'):Inv X d σ H {s with heap:=h'} :=
 I.turned (t':=s.toks) (λb o hb e=>(hs.2 b hb).trans e) hn f (.inr h1) h2 h
def Rf{J:It}(n:Nat)(f:Nat->oA V->St->Hp->Prop)(h0:f 0 [] σ H)
  (t:∀i c σ H,i<n->f i c σ H->J.go i H) (s:∀c σ H,f n c σ H->J.stop n H/\Q H)
  (hs:∀i x c σ H h,i<n->f i c σ H->J.yld i H x h->g x σ h λd u=>tst d u λb o=>
   if b=true then te d o λv r=>∃j,r p=some (.lst j)/\j.length<sizeLine/\f (i+1) (j++[v]) d (upd r p<|.lst<|j++[v]) else f (i+1) c d o) :
  Wd p J g tst te Q σ H:=by
 refine⟨λi m c σ H=>m=n-i/\i<=n/\f i c σ H,⟨n,by simp,aJ _,h0⟩,?_⟩;rintro i m c σ H ⟨rfl,hi,k⟩;by_cases l:i<n;exact .inr ⟨t i c σ H l k,f<|i+1,λc σ H q=>⟨n-(i+1),by omega,rfl,l,q⟩,λx h y=>hs i x c σ H h l k y⟩;have e:i=n:=by omega
 subst e;exact .inl<|s c σ H k
def VU:V->oB Int->oB Int->Hp->VK->Prop:=λx lo hi H Q=>∃z,x=.str z/\z.length<=sizeLine/\Q (.str<|Txt.slice z lo hi) H
def IR:NL X VU:=by
 intro o s σ H x v A w lo hi y Q I r c n e h;obtain⟨z,rfl,hz,q⟩:=h;obtain⟨t,rfl⟩:=r;refine⟨"str",_,F.slot_str_getitem.lookup,typeIs_str _ _ _,?_⟩;have b:∀m k,EP X o σ Q (.str (Txt.slice z lo hi) m) {s with toks:=k}:=λm k=>⟨.str _,H,I.tok _,⟨_,rfl⟩,q⟩;cases n with
 |none=>
  cases e with
  |none=>exact fX (l:=none) (u:=none) (st:=none) c rfl (jK ⟨K_ (kY z _ _) hz,b⟩)
  |int j d=>exact fX (l:=none) (u:=some (j,d)) (st:=none) c rfl (jK ⟨K_ (kY z _ _) hz,b⟩)
 |int i f=>
  cases e with
  |none=>exact fX (l:=some (i,f)) (u:=none) (st:=none) c rfl (jK ⟨K_ (kY z _ _) hz,b⟩)
  |int j d=>exact fX (l:=some (i,f)) (u:=some (j,d)) (st:=none) c rfl<|jK ⟨K_ (kY z _ _) hz,b⟩
def Wg(hc:X.calm=true):Fd X (.builtin "all") (λxs H Q=>∃(p:lF) (c:oA Bool),xs=[.ref p]/\E4 X.K H p (c.map V.bl)/\Q (.bl<|c.all id) H):=by
 intro E s σ H xs F Q I r h;obtain⟨p,c,rfl,hq,q⟩:=h;obtain⟨u,rfl,w⟩:=Eo r;cases w;obtain⟨d,m,j,hz⟩:=I.list hq;have l:=m.length;rw[B_]at l;refine call_all_walk<|gL j.isList ?_;have B:p≠s.heap.objs.size:=Y_ (by obtain⟨_,y,_⟩:=j.isList;exact O_ y);refine⟨s.heap.objs.size,_,_,_,_,_,λi=>c.getD i true,rfl,Walks.list (show X.A.in1.handled=none from I.ok.hd hc) s.heap.objs.size p B d.toArray,?_,?_,λG J k=>?_⟩;exact⟨⟨_,I_ _ rfl,rfl,rfl⟩,j.isList.at λo e=>DD _ e⟩;intro i v t D L C f;have hv:d[i]?=some v:=by simpa using C
 have hi:i<c.length:=by rw[l];exact(E_.mp hv).1
 obtain⟨u,hu,z⟩:=m.get (i:=i) (x:=V.bl c[i]) (by simp[hi]);rw[hv]at hu;cases hu;cases (show v=Value.bool c[i] from z);refine gK ?_;have e:c.getD i true=c[i]:=by simp[hi]
 have n:D (c.getD i true) t:=f;rw[e]at n;exact n;have e:(List.range d.toArray.size).all (λi=>c.getD i true)=c.all id:=by rw[aA,<- l];rw[gG,dB,dB];constructor;intro a x hx;obtain⟨i,hi,rfl⟩:=List.mem_iff_getElem.mp hx;have:=a i<|bC.mpr hi;simpa [hi] using this;intro a i hi;have hi:=bC.mp hi;have:=a c[i]<|fG hi;simpa [hi] using this
 rw[e];exact⟨.bl _,H,I.kept λb o e=>k b o (by
  intro hb;have:b=s.heap.objs.size:=by simpa using hb
  exact absurd (O_ e)<|by rw[this];exact cX _)<|DD _ e,rfl,q⟩
def Pi{ys:oA Str}{b:oA lC}(h:Vals (ys.map V.str) b):StrsAre b ys:=by
 induction ys generalizing b with
 |nil=>cases h;exact .nil
 |cons y ys d=>
  cases h with
  |cons r t=>obtain⟨c,rfl⟩:=r;exact .cons y c<|d t
def BX:FN X "str.join" (λx xs H Q=>∃z p b,x=.str z/\xs=[.ref p]/\E4 X.K H p (b.map V.str)/\(b.map (·.length)).sum+b.length*z.length<=16777216/\Q (.str<|Txt.join z b) H):=by intro j s σ H x xs v l Q I d r h;obtain⟨z,p,b,rfl,rfl,hq,hz,q⟩:=h;obtain⟨t,rfl⟩:=d;obtain⟨u,rfl,f⟩:=Eo r;cases f;obtain⟨i,e,c,_⟩:=I.list hq;exact join_list c.isList (Pi<|by simpa using e) hz λm k=>⟨.str _,H,I.tok _,⟨_,rfl⟩,q⟩
def NT(K:lG)(te:TE):TE:=λσ H Q=>te σ H λx b=>∃a xs,x=.ref a/\E4 K b a xs/\∀l,b l=none->Q (.ref l) (upd b l<|.lst xs.reverse)
def BY{e:lJ}{te:TE}{p y pos D:Pos}(hc:X.calm=true)(L:Gl X "list") (C:X.mg "list" = none) (P:Gl X "reversed") (O:X.mg "reversed" = none) (he:PE X e te)
  (hs:starEach [.Call (.Name "reversed" y) [e] [] D] X.env=[(false,eval (.Call (.Name "reversed" y) [e] [] D) X.env)]:=by rfl) (F:starEach [e] X.env=[(false,eval e X.env)]:=by rfl) :
  PE X (.Call (.Name "list" p) [.Call (.Name "reversed" y) [e] [] D] [] pos) (NT X.K te):=by
 intro M s σ H Q I h;refine cF<|Dt I L C boot_list ?_;refine bE ?_ hs rfl;rw[hs];refine bG ?_;refine cF<|Dt I P O boot_reversed ?_;refine bE ?_ F rfl;rw[F];refine bG<|thn (he M s σ H _ I h) λu c Y=>b_ ?_;obtain⟨v,U,x,r1,N⟩:=Y;obtain⟨a,xs,rfl,hq,q⟩:=N;cases r1;obtain⟨d,E,n,hz⟩:=x.list hq;have ag:=E.length;refine call_reversed_list n.isList<|b_ ?_;have Z:a≠c.heap.objs.size:=Y_ (by obtain⟨_,t,_⟩:=n.isList;exact O_ t);have r:(c.heap.push<|revObj a<|(d.toArray.size:Int)-1).IsList a d.toArray:=n.isList.at λo e=>DD _ e;refine Hk (s:={c with heap:=c.heap.push<|revObj a<|(d.toArray.size:Int)-1}) (Walks.listRev (show X.A.in1.in1.handled=none from I.ok.hd hc) c.heap.objs.size a Z d.toArray).toS (λi s st=>st.2.1.typeIs) ?_ ?_ (by simp) (λG f W l hS m=>?_) (by rw[aA,<- ag];exact hz);refine⟨aJ _,⟨_,I_ _ rfl,rfl,?_⟩,r⟩;simp[revObj];intro b hb;rw[dG];rcases aB.mp hb with rfl|hb;exact dO _;have:b=a:=by simpa using hb
 subst this;exact dQ (by obtain⟨_,t,_⟩:=n.isList;exact O_ t);have B:(c.heap.push<|revObj a<|(d.toArray.size:Int)-1).objs.size=c.heap.objs.size+1:=dG ..;obtain⟨h',g',d',t',J⟩:=G;have T:g'=c.gens:=l.gens;have S:d'=c.drawn:=l.drawn;have eo:J=c.os:=l.os;subst T S eo;have k:∀b o,c.heap.get? b=some o->h'.get? b=some o:=λb o e=>by
  have hb:=O_ e;refine l.heap b o (λC=>?_)<|DD _<|DD _ e;rcases aB.mp C with z|z;have z:b=(c.heap.push<|revObj a<|(d.toArray.size:Int)-1).objs.size:=z;rw[z,B]at hb;exact absurd hb<|iX.mpr<|eJ _;have z:b=c.heap.objs.size:=by simpa using z
  rw[z]at hb;exact absurd hb<|cX _
 have R:f.toList=d.reverse:=by
  refine gM λj=>?_;have zaf:f.toList.length=d.length:=by have:=m.1;simp at this ⊢;omega
  by_cases hj:j<d.length;have h1:f[j]?=some (f[j]'(by have:=m.1;simp at this;omega)):=aC _;have h2:=m.2 j _ h1;rw[List.getElem?_reverse hj];have h3:d[d.length-1-j]?=some (f[j]'(by have:=m.1;simp at this;omega)):=by simpa using h2
  rw[h3];simpa using h1;rw[dS<|by omega,dS<|by rw[gU];omega]
 refine⟨.ref (c.heap.push<|revObj a<|(d.toArray.size:Int)-1).objs.size,upd U (c.heap.push<|revObj a<|(d.toArray.size:Int)-1).objs.size<|.lst xs.reverse,
  x.laid (h':=h') (t':=t') k (by omega) (show Bp X.prog X.w _ h' _ (.lst xs.reverse) from⟨by rw[gU];exact hz,f.toList,W,by rw[R];exact E.reverse,by simpa using hS⟩),rfl,q _<|x.hok.fresh<|by omega⟩
end
def seven{n:Nat}(h:n<=1000):n<=sizeLine:=dD<|A5 h
end L2
namespace PySem
open Sem (wp)
open AutoSeq1 (wpAny_loadPart')
set_option maxRecDepth 100000
end PySem
namespace L2
open PySem PySem.Spec PyProof.Rows
def Pj(ds:oA lE)(lo hi:oB Int):oA lE:=(ds.drop<|HT.sIx ds.length 0 lo).take<|HT.sIx ds.length ds.length hi-HT.sIx ds.length 0 lo
section
variable {X:Cx}{k:Nat}{aa:oA<|lF×lM}{σ:St}{H:Hp}{s:lD}{h':lL}
noncomputable def O7(h:lL)(e:lE)(u:lC):Bool:=@decide (∃d as,Reads h u d as/\d.canLay0=true/\PyData.eqv d e=true) (Classical.propDecidable _)
def IS{h:lL}{e d:lE}{u:lC}{as:oA lF}(r:Reads h u d as)(c:d.canLay0=true):O7 h e u=PyData.eqv d e:=by
 unfold O7;cases q:PyData.eqv d e with
 |true=>exact @aW _ (Classical.propDecidable _) ⟨d,as,r,c,q⟩
 |false=>refine @aQ _ (Classical.propDecidable _) λb=>?_;obtain⟨i,f,a,_,g⟩:=b;rw[SeqAt.Reads.unique d i u as f c r a,g]at q;cases q
theorem Et{A:lK}{s:lD}{e:lE}{v:lC}{i:oA lF}(b:Reads s.heap v e i)(g:e.canLay0=true)(hu:A.units+64<cLine):∀{ds:oA lE} {a:oA lC} {as:oA lF},ReadsAll s.heap a ds as ->
  PyData.canLayAll0 ds=true->PyData.depthAll ds<=64->(∀u∈a,SeqAt.EqAt A s u v<|O7 s.heap e u)/\a.any (O7 s.heap e)=ds.any λd=>PyData.eqv d e
 |[],_,_,r,_,_=>by cases r;exact⟨(λ_ z=>nomatch z),rfl⟩
 |d::ds,_,_,r,c,m=>by
  cases r with
  |cons h l=>simp only[PyData.canLayAll0,Bool.and_eq_true]at c;simp only[PyData.depthAll]at m;obtain⟨n,o⟩:=Et b g hu l c.2 (by omega);have f:=IS (e:=e) h c.1;refine⟨λu j=>?_,?_⟩;rcases aB.mp j with rfl|z;rw[f];exact iY d e A s _ v _ _ h b c.1 g (by omega);exact n u z;rw[eO,eO,f,o]
def Inv.turnedL{t':Nat}{fp:oA lF}(I:Inv X aa σ H s)(k:∀b o,b∉fp->s.heap.get? b=some o->h'.get? b=some o)(a:∀b∈fp,Gr X aa H b):Inv X aa σ H {s with heap:=h',toks:=t'}:=by
 have d:∀b u,H b=some u->b∉fp:=λb u e z=>by rw[(a b z).1]at e;cases e
 have f:X.env.locals∉fp:=λz=>(a _ z).2.1 rfl;refine I.step (g':=s.gens) (d':=s.drawn) (ch:=fp) (λb hb=>?_) (λb o _ _ hc e _=>k b o hc e) (λb o _ _ hc e _=>⟨o.slots,k b o hc e⟩) (λ_ _ _ _ n=>n)
  (λb o hc e=>⟨o,k b o hc e⟩) (λ_ _ e=>e) (λ_ _ _ e=>e) (λb x e=>⟨#[],by rw[e];simp⟩) (λm p=>?_) (λb u e=>?_) I.bare
 obtain⟨_,t,_,w,h,l⟩:=a b hb;exact⟨w,t,h,l⟩;obtain⟨o,g,j,i,r⟩:=p;exact⟨o,g,j,k _ o f i,r⟩;refine(I.hok b u e).stay (λc v hc q=>k c v ?_ q) (λ_ q=>q) λ_ _ q=>q;rcases hc with z|z;rw[z];exact d b u e;exact d c _ z
def Inv.track{T:lF}{o:HO}(I:Inv X aa σ H s)(f:Gr X aa H T)(d:Bp X.prog X.w (upd H T o) s.heap T o):Inv X aa σ (upd H T o) s:=by
 obtain⟨r,l,_,p,h,i⟩:=f;have a:∀b u,H b=some u->b≠T:=λb u e z=>by rw[z,r]at e;cases e
 refine I.step (H':=upd H T o) (h':=s.heap) (g':=s.gens) (d':=s.drawn) (t':=s.toks) (ch:=[T]) (λb hb=>?_) (λb o _ _ _ e _=>e) (λb o _ _ _ e _=>⟨o.slots,e⟩)
  (λb u hc _ n=>by rw[Aq λz=>hc<|by simp[z]];exact n) (λb o _ e=>⟨o,e⟩) (λb g e=>by rw[Aq<|a b _ e];exact e) (λb u v e=>by rw[Aq<|a b _ e];exact e)
  (λb t e=>⟨#[],by rw[Aq<|a b _ e,e];simp⟩) (λm j=>j) (λb u e=>?_) I.bare
 have e:b=T:=by simpa using hb
 subst e;exact⟨p,l,h,i⟩;by_cases hb:b=T;subst hb;rw[Bi]at e;cases e;exact d;rw[Aq hb]at e;exact(I.hok b u e).stay (λ_ _ _ q=>q) (λc q=>by rw[Aq<|a c _ q];exact q) λc g q=>by rw[Aq<|a c _ q];exact q
def Wh{J:It}{g:TG}{tb:TS}{D:Ends}{σ:St}{H:Hp}(n:Nat)(a:Nat->St->Hp->Prop)(h0:a 0 σ H)(q:∀i σ H,i<n->a i σ H->J.go i H)(l:∀ σ H,a n σ H->J.stop n H/\D.nx σ H)
  (hs:∀i x σ H f,i<n->a i σ H->J.yld i H x f->g x σ f λc o=>tb {D with nx:=a<|i+1,ct:=a<|i+1,bk:=D.nx} c o) :
  ∃W:Nat->Nat->St->Hp->Prop,(∃m,W 0 m σ H)/\∀i m σ H,W i m σ H ->
   (J.stop i H/\D.nx σ H)\/(J.go i H/\∃N:St->Hp->Prop,(∀ d b,N d b->∃j,j<m/\W (i+1) j d b)/\∀x b,J.yld i H x b->g x σ b λc f=>tb {D with nx:=N,ct:=N,bk:=D.nx} c f):=by
 refine⟨λi m σ H=>m=n-i/\i<=n/\a i σ H,⟨n,by simp,aJ _,h0⟩,?_⟩;rintro i m σ H ⟨rfl,hi,p⟩;by_cases h:i<n;exact .inr ⟨q i σ H h p,a<|i+1,λd b r=>⟨n-(i+1),by omega,rfl,h,r⟩,λx b y=>hs i x σ H b h p y⟩;have e:i=n:=by omega
 subst e;exact .inl<|l σ H p
def NU(i j l:Nat)(c:TA):TS:=λD σ H=>c σ H λa b=>∃u v w,a=[u,v,w]/\D.nx (((σ.set i<|some u).set j<|some v).set l<|some w) b
def BZ{i j l:Nat}{x y z:Str}{a b c:lJ}{M:TA}{E t J C n:Pos}{kt k2 pt2}(hc:X.calm=true)(r:X.N.Nodup)(hi:X.N[i]?=some x)(hj:X.N[j]?=some y)(T:X.N[l]?=some z)(mj:i≠j)(qm:i≠l)(vx:j≠l)
  (hx:X.env.scope.names.lookup x=some .local) (hy:X.env.scope.names.lookup y=some .local) (hz:X.env.scope.names.lookup z=some .local) (ha:PA X [a,b,c] M) (P:swappedStores [.Tuple [.Name x E,.Name y t,.Name z J] kt C] (.Tuple [a,b,c] k2 pt2) X.env=pure (some [x,y,z]))
  (hs:swapsWithSole [.Tuple [.Name x E,.Name y t,.Name z J] kt C] (.Tuple [a,b,c] k2 pt2) n.line X.env=pure false:=by rfl) :
  PS X (.Assign [.Tuple [.Name x E,.Name y t,.Name z J] kt C] (.Tuple [a,b,c] k2 pt2) n) (NU i j l M):=by
 intro aa s σ H D I h;rw[exec_Assign_arm];refine A_<|wpAny_standAt ?_;rw[hs];refine A_<|C_ ?_;rw[M_<|by decide];refine A_<|Tuple_<|thn (ha _ aa s σ H _ I h) λR f Y=>?_;obtain⟨vs,O,S,r1,F⟩:=Y;obtain⟨u,v,w,G,F⟩:=F;subst G;obtain⟨d,m,g,rfl,ru,rv,fm⟩:∃d m g,R=[d,m,g]/\Ba u d/\Ba v m/\Ba w g:=by
  cases r1 with
  |cons p q=>
   cases q with
   |cons V q'=>
    cases q' with
    |cons U B=>cases B;exact⟨_,_,_,rfl,p,V,U⟩
 refine Z_ ?_ (by show 3<=sizeLine;decide);have Q:Inv X aa σ O {f with heap:=f.heap.push {cls:=.type "tuple",data:=.seq [d,m,g].toArray}}:=S.kept (t':=f.toks) λb o e=>DD _ e;rw[P];refine A_<|C_ ?_;show qV X.prog X.w X.A (do rule "assign.swapped-stores";let items <- unpackItems (.ref f.heap.objs.size) 3 none;assignInOrder [λv=>bindName X.env z v,λv=>bindName X.env y v,λv=>bindName X.env x v] items.reverse;pure Flow.next) _ _ _;refine A_<|eC<|A_<|unpackItems_tuple (items:=#[d,m,g]) (I.ok.hd hc) (IsTup.new f.heap _) λh' hx'=>?_;have Z:=Q.kept (h':=h') (t':=f.toks) λb o e=>hx' b o (Y_<|O_ e) e;show wpAny _ _ (assignInOrder [λv=>bindName X.env z v,λv=>bindName X.env y v,λv=>bindName X.env x v] [g,m,d]>>=λ_=>pure Flow.next) _ _ _;refine A_<|hJ<|wpAny_bindName<|Fh Z r T (.inl hz) fm (λs2 I4=>?_)<|.inr hz;refine hJ<|wpAny_bindName<|Fh I4 r hj (.inl hy) rv (λs3 I5=>?_)<|.inr hy;refine hJ<|wpAny_bindName<|Fh I5 r hi (.inl hx) ru (λs4 L=>assignInOrder_nil<|C_ ?_)<|.inr hx;have G:((σ.set l<|some w).set j<|some v).set i (some u)=((σ.set l<|some w).set i<|some u).set j (some v):=List.set_comm _ _<|bN mj;have e2:(σ.set l<|some w).set i (some u)=(σ.set i<|some u).set l (some w):=List.set_comm _ _<|bN qm;have W:((σ.set i<|some u).set l<|some w).set j (some v)=((σ.set i<|some u).set j<|some v).set l (some w):=List.set_comm _ _<|bN vx;rw[G,e2,W]at L;exact⟨_,O,L,F⟩
def Lp:Gq X (binaryOp .Mult) (λx y H Q=>∃z n,x=.str z/\y=.int n/\(n=0\/n=1)/\Q (.str<|if n=0 then Str.empty else z) H):=by intro aa s σ H x y v u Q I c b h;obtain⟨z,n,rfl,rfl,a,q⟩:=h;obtain⟨t,rfl⟩:=c;obtain⟨d,rfl⟩:=b;rcases a with rfl|rfl;exact P.mul_str_none (by decide) (by decide) ⟨.str Str.empty,H,I.tok _,⟨_,rfl⟩,by simpa using q⟩;refine P.mul_str (by decide) (λ_ z=>by simp at z) (λ_ z=>by simp at z) ?_;rw[M_<|by decide,T_<|by simp];exact⟨.str z,H,I,⟨_,rfl⟩,by simpa using q⟩
end
end L2
namespace HT
open PySem PySem.Spec PyProof.Rows
section
variable {prog:lH}{w:lI}{A:lK}{E:lC->lD->Prop}{s:lD}
def getItem_tuple_all{t b:lF}{items:oC lC}{f e:lC}{lo hi:oB Int}{Q:lC->lD->Prop}(a:IsTup s.heap t items)(hs:s.heap.IsSliceOf b f e .none)(pl:IsPart f lo)(k:IsPart e hi)
  (d:sIx items.size 0 lo=0/\sIx items.size items.size hi=items.size)
  (h:Q (.ref t) s):qV prog w A (getItem (.ref t)<|.ref b) Q E s:=by
 obtain⟨os,c,g,i⟩:=id hs;have j:s.TypeIs (.ref b) "slice" := ⟨os,c,g⟩;unfold getItem
 try with_reducible refine bK ?_
 first|refine A_ (C_ ?_)|skip
 refine A_ (wpAny_sequenceKey a.typeIs (by decide) ?_);refine A_<|aU (name:=Str.ofString "__getitem__") a.typeIs cZ
  (aN cZ a.typeIs entry_tuple_getitem ?_<|args_tuple_getitem _ _)
 show wpAny _ _ (Builtin.Tuple.tupleItemsOf (.ref t)>>=_) _ _ s;refine A_<|tupleItemsOf_ a ?_;refine A_<|fN j ?_;rw[T_<|by decide];refine A_<|Ep hs pl k ?_;have l:(((sIx items.size 0 lo:Nat):Int)==0&&(1:Int)==1&&(sIx items.size items.size hi-sIx items.size 0 lo)==items.size)=true:=by rw[d.1,d.2];simp
 show wpAny _ _ (if(((sIx items.size 0 lo:Nat):Int)==0&&(1:Int)==1&&(sIx items.size items.size hi-sIx items.size 0 lo)==items.size)=true then _ else _) _ _ s;rw[T_ l];unfold Builtin.Tuple.tupleIsExact;refine A_<|A_<|fN a.typeIs<|C_ ?_;rw[T_<|by decide];refine A_<|eC ?_
 first
  |exact C_ ⟨_,rfl,C_ h⟩
  |exact A_ (C_<|C_ ⟨_,rfl,C_ h⟩)
  |exact A_<|C_ ⟨_,rfl,C_ h⟩
end
end HT
namespace L2
open PySem PySem.Spec PyProof.Rows
section
variable {X:Cx}
def Wi{ds:oA lE}{lo hi:oB Int}(h:HT.sIx ds.length 0 lo=0/\HT.sIx ds.length ds.length hi=ds.length):Pj ds lo hi=ds:=by unfold Pj;rw[h.1,h.2,gN,jV,dE<|F_ _]
end
end L2
namespace PySem
open Sem (wp)
open AutoSeq1 (wpAny_loadPart')
set_option maxRecDepth 100000
section
variable {prog:lH}{w:lI}{K:Type} [DecidableEq K]
end
end PySem
namespace L2
open PySem PySem.Spec PyProof.Rows
section
variable {X:Cx}{K:lG}{o e:lJ}{es:oA lJ}{to:TE}{t:TA}{name:Str}{au ak:Pos}{T id:String}{r:V->oA V->Hp->VK->Prop}
theorem D1{f g:Type}{F:f->g->Prop}:∀{d:oA f} {c:oA g} {j:Nat} {a:f},Paired F d c->d[j]?=some a->∃b,c[j]?=some b/\F a b
 |_,_,_,_,.nil,e=>by simp at e
 |_,_,0,_,.cons r _,e=>by simp at e;subst e;exact⟨_,rfl,r⟩
 |_,_,j+1,a,.cons _ t,e=>by obtain⟨b,h1,h2⟩:=D1 (j:=j) (a:=a) t (by simpa using e);exact⟨b,by simpa using h1,h2⟩
def CA{a b:Str}(h:a.cps.toList=b.cps.toList):a=b:=PySem.Str.ext'<|by simpa using bO List.toArray h
def Tr:FN X "str.join" (λx b H Q=>∃z p a,x=.str z/\b=[.ref p]/\H p=some (.lst<|a.map V.str)/\(a.map (·.length)).sum+a.length*z.length<=16777216/\Q (.str<|Txt.join z a) H):=by intro c s i H x b v g Q I d r h;obtain⟨z,p,a,f,j,hp,hz,q⟩:=h;exact BX c s i H x b v g Q I d r ⟨z,p,a,f,j,E4.of hp,hz,q⟩
end
def Cal(P:lH)(w:lI)(K:lG)(b:Str->oB lC)(base:lL)(n:Nat)(x:Str)(c:oA Str)(sp:Sp):Prop :=
 ∃g a,FnOk P w K b base Dx n g a c sp/\Binds K a c []/\PySem.W.keepIn K (.ref g)=true/\b x=some (.ref g)
def Cal.mono{P:lH}{w:lI}{K:lG}{a:Str->oB lC}{base:lL}{n m:Nat}{x:Str}{b:oA Str}{sp:Sp}(c:Cal P w K a base n x b sp)(h:n<=m):Cal P w K a base m x b sp :=
 by obtain⟨g,d,G,r⟩:=c;exact⟨g,d,G.mono h,r⟩
end L2
namespace L2
open PySem PySem.Spec PySem.Calls PyProof.Rows
abbrev ZN:oA lC:=[.type "ValueError",.type "Exception",.type "BaseException",.type "object"]
def ZO(K:lG)(C:lF)(a:ClassData)(b:oC<|oB lC):Bool:=a.mro.head?==some (.ref C) && !a.hasDel&&PySem.W.tailIn K ZN a.mro.tail&&b.size==6&&b[4]?==some (some<|.builtin "ValueError.__new__")
def VX{g:oC<|oB lC}{v:oB lC}(h:g.size=6)(e:g[4]?=some v):∃w i j q m,g=#[w,i,j,q,v,m]:=by
 obtain⟨l⟩:=g;have s:∀{n:Nat} {l:oA<|oB lC},l.length=n+1->∃a t,l=a::t/\t.length=n:=λ{n l} h=>by
  cases l with
  |nil=>cases h
  |cons a t=>exact⟨a,t,rfl,iJ h⟩
 obtain⟨a,_,rfl,h1⟩:=s h;obtain⟨b,_,rfl,h2⟩:=s h1;obtain⟨c,_,rfl,p⟩:=s h2;obtain⟨d,_,rfl,r⟩:=s p;obtain⟨k,_,rfl,u⟩:=s r;obtain⟨f,_,rfl,o⟩:=s u;cases bM o;have:k=v:=by simpa using e
 subst this;exact⟨a,b,c,d,f,rfl⟩
section
open Builtin Builtin.ObjectAttr
variable {prog:lH}{w:lI}{A:lK}{E:lC->lD->Prop}{s:lD}{K:lG}{x C:lF}{ox:lM}{od:oB lM}{name:Str}{v:lC}{R:lT->lD->Prop}
end
def XD(c:lF)(b:oA<|Str×V):HO:=.ext λh=>∃a,h.Ns1 c a/\(∀f,Hi (b.lookup f)<|a f)/\PySem.Within a (b.map (·.1))
inductive Ctxs (h:lL):lF->oA lF->Prop
 |nil {e:lF} {o:lM} {vs:oC lC}:h.get? e=some o->o.data=.fields vs->vs[2]?=some Value.none->Ctxs h e []
 |cons {e E:lF} {o:lM} {vs:oC lC} {l:oA lF}:h.get? e=some o->o.data=.fields vs->vs[2]?=some (Value.ref E)->Ctxs h E l->Ctxs h e (E::l)
structure ExcRec(h:lL)(e:lF)(cls:lC)(d:oB lF)(vs:oC lC):Prop where
 at_:h.get? e=some ⟨cls,d,.fields vs,#[]⟩
 six:vs.size=6
 tb:vs[1]?=some .none\/∃T oT ts,vs[1]?=some (.ref T)/\T≠e/\h.get? T=some oT/\oT.data=.fields ts/\ts[3]?=some .none
 cx:∃l,Ctxs h e l
def XR(e C:lF)(d:oB lF):HO:=.ext λh=>∃a:oC lC,h.get? e=some ⟨.ref C,d,.fields a,#[]⟩/\a.size=6
section
variable {X:Cx}{aa:oA<|lF×lM}{σ:St}{H:Hp}{s:lD}{a C:lF}{d:oB lF}{h':lL}
def VY(X:Cx)(b:XK):Prop:=∀(aa:oA<|lF×lM) (σ:St) (H:Hp) (s:lD) (a C:lF) (d:oB lF) (c:oC lC),Inv X aa σ H s->H a=some (XR a C d)->ExcRec s.heap a (.ref C) d c->b (.ref C) (some a) H->X.xe (.ref a) s
abbrev Cx.suite(X:Cx)(e:lF):Cx:={X with A:=X.A.mark<|some<|.ref e,calm:=false,xe:=λ_ _=>False}
abbrev Cx.taking(X:Cx)(xe:lC->lD->Prop)(pn:oA<|lF×lM):Cx:={X with xe:=xe,pn:=pn}
def Inv.take{xe:lC->lD->Prop}(I:Inv X aa σ H s):Inv (X.taking xe<|X.pn++aa) [] σ H s :=
 ⟨⟨I.ok.mod,I.ok.kind,I.ok.glob,I.ok.blt,I.ok.above,I.ok.inj,I.ok.has,I.ok.cab,I.ok.hd,I.ok.frames,I.ok.stk,I.ok.exf,I.ok.bs,I.ok.bsz,I.ok.noex,I.ok.exfs,I.ok.funs,I.ok.frf⟩,I.os,I.bare,I.base,I.loc,I.cell,I.free,I.freeC,λp hp=>I.pin p<|by rw[cL]at hp;exact hp,I.hok,I.len⟩
def Inv.untake{xe:lC->lD->Prop}{b:oA<|lF×lM}(ok:X.Ok)(I:Inv (X.taking xe<|X.pn++aa) b σ H s):Inv X aa σ H s :=
 ⟨ok,I.os,I.bare,I.base,I.loc,I.cell,I.free,I.freeC,λp hp=>I.pin p<|aE _ hp,I.hok,I.len⟩
end
end L2
namespace L2
open PySem PySem.Spec PyProof.Rows
inductive AV where
 |D (d:lE)|R (a:lF)|C (ds:oA lE)|X (C:lF) (fs:oA<|Str×lE)
 deriving Inhabited
mutual
def Cano:lE->Bool
 |.int _=>true
 |.str _=>true
 |.tuple a=>A3 a
 |_=>false
def A3:oA lE->Bool
 |[]=>true
 |x::a=>Cano x&&A3 a
end
structure KeyTree(d:lE):Prop where
 can:Cano d=true
 lay:d.canLay0=true
 dep:d.depth<=6
def Vk(K:lG)(H:Hp)(a:lF)(xs:oA V):Prop :=
 (∃o,H a=some (.frz o<|.lst xs)) \/
  ∃(o:lM) (b:oC lC) (n:Nat),K.lookup a=some o/\o.cls=.type "list" /\ o.dict=none/\o.data=.seq b n/\b.size<=sizeLine/\Vals xs b.toList
def Vk.sq{K:lG}{H:Hp}{a:lF}{xs:oA V}(h:Vk K H a xs):E4 K H a xs:=by rcases h with⟨o,h⟩|h;exact .inl<|.inr ⟨o,h⟩;exact .inr h
def Lit:oA lE->Bool
 |.str _::_=>true
 |.tuple _::_=>true
 |_=>false
def Ts(K:lG)(H:Hp)(a:lF)(ds:oA lE)(xs:oA V):Prop :=
 H a=some (.tup xs)\/(Lit ds=true/\∃(o:lM) (b:oC lC) (n:Nat),K.lookup a=some o/\o.cls=.type "tuple" /\ o.data=.seq b n/\b.size<=sizeLine/\Vals xs b.toList)
def Ts.sq{K:lG}{H:Hp}{a:lF}{ds:oA lE}{xs:oA V}(h:Ts K H a ds xs):Il K H a xs:=by rcases h with h|h;exact Il.of h;exact .inr h.2
mutual
def Dk(K:lG)(H:Hp):lE->V->Prop
 |.none,x=>x=.non
 |.bool b,x=>x=.bl b
 |.int i,x=>x=.int i
 |.str z,x=>x=.str z
 |.list d,x=>∃a c,x=.ref a/\Vk K H a c/\An K H d c
 |.tuple d,x=>∃a c,x=.ref a/\Ts K H a d c/\An K H d c
 |.dict _,_=>False
def An(K:lG)(H:Hp):oA lE->oA V->Prop
 |[],a=>a=[]
 |d::b,a=>∃x r,a=x::r/\Dk K H d x/\An K H b r
end
structure Kp(H H':Hp):Prop where
 t:∀b xs,H b=some (.tup xs)->H' b=some (.tup xs)
 f:∀b o u,H b=some (.frz o u)->H' b=some (.frz o u)
def Kp.refl{H:Hp}:Kp H H:=⟨λ_ _ h=>h,λ_ _ _ h=>h⟩
def Kp.trans{H e d:Hp}(a:Kp H e)(b:Kp e d):Kp H d:=⟨λc g h=>b.t c g<|a.t c g h,λc o u h=>b.f c o u<|a.f c o u h⟩
def Kp.new{H:Hp}{p:lF}(h:H p=none)(o:HO):Kp H (upd H p o) :=
 ⟨λb c e=>by rw[Aq<|Bv e h];exact e,λb a u e=>by rw[Aq<|Bv e h];exact e⟩
def Mt:HO->Prop
 |.lst _=>True
 |.dK _=>True
 |.dT _=>True
 |.dd _=>True
 |_=>False
def Kp.put{H:Hp}{p:lF}{a:HO}(h:H p=some a)(m:Mt a)(o:HO):Kp H (upd H p o) :=
 ⟨λb d e=>by rw[Aq<|Mq e h<|by intro z;subst z;exact m];exact e,λb c u e=>by rw[Aq<|Mq e h<|by intro z;subst z;exact m];exact e⟩
def Vk.kp{K:lG}{H H':Hp}{a:lF}{xs:oA V}(S:Kp H H')(h:Vk K H a xs):Vk K H' a xs:=by rcases h with⟨o,h⟩|h;exact .inl ⟨o,S.f _ _ _ h⟩;exact .inr h
def Ts.kp{K:lG}{H H':Hp}{a:lF}{ds:oA lE}{xs:oA V}(S:Kp H H')(h:Ts K H a ds xs):Ts K H' a ds xs:=by rcases h with h|h;exact .inl<|S.t _ _ h;exact .inr h
section
variable {K:lG}{H H':Hp}{X:Cx}{a b c:lJ}{ta tb tc:AE}{pos:Pos}{rest:oA lJ}{tA j2:AT}{es:oA lJ}{t:AA}{k:Nat}{x:Str}{p:Pos}{e:lJ}{gg T:String}{r:AC}{o:lJ}{to:AE}{name:Str}{au ak:Pos}{m:AV->AC}
mutual
theorem Dk.kp(S:Kp H H'):∀(d:lE) (x:V),Dk K H d x->Dk K H' d x
 |.none,x,h=>by simp only[Dk]at h ⊢;exact h
 |.bool b,x,h=>by simp only[Dk]at h ⊢;exact h
 |.int i,x,h=>by simp only[Dk]at h ⊢;exact h
 |.str z,x,h=>by simp only[Dk]at h ⊢;exact h
 |.list g,x,h=>by simp only[Dk]at h ⊢;obtain⟨a,f,e,q,r⟩:=h;exact⟨a,f,e,q.kp S,An.kp S g f r⟩
 |.tuple g,x,h=>by simp only[Dk]at h ⊢;obtain⟨a,f,e,q,r⟩:=h;exact⟨a,f,e,q.kp S,An.kp S g f r⟩
 |.dict _,x,h=>by simp only[Dk]at h
theorem An.kp(S:Kp H H'):∀(ds:oA lE) (xs:oA V),An K H ds xs->An K H' ds xs
 |[],xs,h=>by simp only[An]at h ⊢;exact h
 |d::ds,xs,h=>by simp only[An]at h ⊢;obtain⟨x,r,e,h1,h2⟩:=h;exact⟨x,r,e,Dk.kp S d x h1,An.kp S ds r h2⟩
end
def Dg{i:Int}:Dk K H (.int i) (.int i):=by simp only[Dk]
def Ko{b:Bool}:Dk K H (.bool b) (.bl b):=by simp only[Dk]
def Pk{z:Str}:Dk K H (.str z) (.str z):=by simp only[Dk]
def Wj:Dk K H .none .non:=by simp only[Dk]
def Dk.int{x:V}{i:Int}(h:Dk K H (.int i) x):x=.int i:=by simp only[Dk]at h;exact h
def Dk.bl{x:V}{i:Bool}(h:Dk K H (.bool i) x):x=.bl i:=by simp only[Dk]at h;exact h
def Dk.str{x:V}{i:Str}(h:Dk K H (.str i) x):x=.str i:=by simp only[Dk]at h;exact h
def Dk.non{x:V}(h:Dk K H .none x):x=.non:=by simp only[Dk]at h;exact h
def Dk.tup{x:V}{ds:oA lE}(h:Dk K H (.tuple ds) x):∃a d,x=.ref a/\Ts K H a ds d/\An K H ds d:=by simp only[Dk]at h;exact h
def Dk.lst{x:V}{ds:oA lE}(h:Dk K H (.list ds) x):∃a d,x=.ref a/\Vk K H a d/\An K H ds d:=by simp only[Dk]at h;exact h
def Gi{a:lF}{xs:oA V}{ds:oA lE}(h:H a=some (.tup xs))(r:An K H ds xs):Dk K H (.tuple ds) (.ref a):=by simp only[Dk];exact⟨a,xs,rfl,.inl h,r⟩
def IT{a:lF}{xs:oA V}{ds:oA lE}(h:Vk K H a xs)(r:An K H ds xs):Dk K H (.list ds) (.ref a):=by simp only[Dk];exact⟨a,xs,rfl,h,r⟩
def C7:An K H [] []:=by simp only[An]
def Ct{d:lE}{ds:oA lE}{x:V}{xs:oA V}(h:Dk K H d x)(r:An K H ds xs):An K H (d::ds) (x::xs):=by simp only[An];exact⟨x,xs,rfl,h,r⟩
def An.cons{d:lE}{ds:oA lE}{xs:oA V}(h:An K H (d::ds) xs):∃x r,xs=x::r/\Dk K H d x/\An K H ds r:=by simp only[An]at h;exact h
def An.nil{xs:oA V}(h:An K H [] xs):xs=[]:=by simp only[An]at h;exact h
theorem An.length:∀{ds:oA lE} {xs:oA V},An K H ds xs->xs.length=ds.length
 |[],_,h=>by rw[h.nil];rfl
 |_::ds,_,h=>by obtain⟨x,r,rfl,_,h2⟩:=h.cons;rw[aZ,aZ,An.length h2]
theorem An.get:∀{ds:oA lE} {xs:oA V} {i:Nat} {d:lE},An K H ds xs->ds[i]?=some d->∃x,xs[i]?=some x/\Dk K H d x
 |[],_,_,_,_,e=>by simp at e
 |_::ds,_,0,d,h,e=>by obtain⟨x,r,rfl,h1,_⟩:=h.cons;simp at e;subst e;exact⟨x,rfl,h1⟩
 |_::ds,_,i+1,d,h,e=>by obtain⟨x,r,rfl,_,h2⟩:=h.cons;obtain⟨y,f,g⟩:=An.get (i:=i) (d:=d) h2 (by simpa using e);exact⟨y,by simpa using f,g⟩
theorem An.append:∀{ds es:oA lE} {xs ys:oA V},An K H ds xs->An K H es ys->An K H (ds++es) (xs++ys)
 |[],_,_,_,h,k=>by rw[h.nil];exact k
 |_::ds,_,_,_,h,k=>by obtain⟨x,r,rfl,h1,h2⟩:=h.cons;exact Ct h1<|An.append h2 k
theorem An.drop:∀(n:Nat) {ds:oA lE} {xs:oA V},An K H ds xs->An K H (ds.drop n) (xs.drop n)
 | 0,_,_,h=>h
 |_+1,[],_,h=>by rw[h.nil];exact C7
 |n+1,_::ds,_,h=>by obtain⟨x,r,rfl,_,h2⟩:=h.cons;exact An.drop n h2
theorem An.take:∀(n:Nat) {ds:oA lE} {xs:oA V},An K H ds xs->An K H (ds.take n) (xs.take n)
 | 0,_,_,_=>C7
 |_+1,[],_,h=>by rw[h.nil];exact C7
 |n+1,_::ds,_,h=>by obtain⟨x,r,rfl,h1,h2⟩:=h.cons;exact Ct h1<|An.take n h2
def An.cut{ds:oA lE}{xs:oA V}(h:An K H ds xs)(lo hi:oB Int):An K H (Pj ds lo hi) (J7 xs lo hi):=by unfold Pj J7;rw[h.length];exact(h.drop _).take _
theorem An.atI{ds:oA lE}{xs:oA V}{i:Int}{d:lE}(h:An K H ds xs)(e:atI ds i=some d):∃x,L2.atI xs i=some x/\Dk K H d x:=by
 unfold L2.atI at e ⊢;rw[h.length];cases q:BL ds.length i with
 |none=>rw[q]at e;cases e
 |some j=>rw[q]at e;obtain⟨x,hx,f⟩:=h.get<|show ds[j]?=some d from e;exact⟨x,hx,f⟩
def Wl(K:lG)(H:Hp):oA (Str×lE)->oA (Str×V)->Prop:=Paired λp q=>p.1=q.1/\Dk K H p.2 q.2
def Wl.kp{d:oA<|Str×lE}{f:oA<|Str×V}(S:Kp H H')(h:Wl K H d f):Wl K H' d f:=Paired.mapP h λp q r=>⟨r.1,Dk.kp S _ _ r.2⟩
def XFs(K:lG)(H:Hp)(d:oB lF)(g:oA<|Str×lE):Prop:=match d with
 |none=>g=[]
 |some d=>∃h f,H d=some (.frz h<|XD d f)/\Wl K H g f
theorem XFs.kp{d:oB lF}{i:oA<|Str×lE}(S:Kp H H')(h:XFs K H d i):XFs K H' d i:=by
 cases d with
 |none=>exact h
 |some d=>obtain⟨j,g,q,r⟩:=h;exact⟨j,g,S.f _ _ _ q,r.kp S⟩
def RelA(K:lG)(H:Hp):AV->V->Prop
 |.D d,v=>Dk K H d v
 |.R a,v=>v=.ref a
 |.C g,v=>∃a f,v=.ref a/\(∀H,Il K H a f)/\An K H g f
 |.X C h,v=>∃a o d,v=.ref a/\H a=some (.frz o<|XR a C d)/\XFs K H d h
def Cs{i:Int}:RelA K H (.D<|.int i) (.int i):=Dg (K:=K) (H:=H)
def Eu{i:Bool}:RelA K H (.D<|.bool i) (.bl i):=Ko (K:=K) (H:=H)
def Jc{i:Str}:RelA K H (.D<|.str i) (.str i):=Pk (K:=K) (H:=H)
def Jd:RelA K H (.D .none) .non:=Wj (K:=K) (H:=H)
def RelA.int{x:V}{i:Int}(h:RelA K H (.D<|.int i) x):x=.int i:=Dk.int (K:=K) (H:=H) h
def RelA.bl{x:V}{i:Bool}(h:RelA K H (.D<|.bool i) x):x=.bl i:=Dk.bl (K:=K) (H:=H) h
def RelA.str{x:V}{i:Str}(h:RelA K H (.D<|.str i) x):x=.str i:=Dk.str (K:=K) (H:=H) h
def RelA.non{x:V}(h:RelA K H (.D .none) x):x=.non:=Dk.non (K:=K) (H:=H) h
def RelA.tup{x:V}{ds:oA lE}(h:RelA K H (.D<|.tuple ds) x):∃a d,x=.ref a/\Ts K H a ds d/\An K H ds d:=Dk.tup (K:=K) (H:=H) h
def RelA.lst{x:V}{ds:oA lE}(h:RelA K H (.D<|.list ds) x):∃a d,x=.ref a/\Vk K H a d/\An K H ds d:=Dk.lst (K:=K) (H:=H) h
def RelA.ref{x:V}{a:lF}(h:RelA K H (.R a) x):x=.ref a:=h
def Du{a:lF}:RelA K H (.R a) (.ref a):=rfl
def Tt{d:lE}{v:V}(h:Dk K H d v):RelA K H (.D d) v:=h
def Wm{a:lF}{xs:oA V}{ds:oA lE}(h:H a=some (.tup xs))(r:An K H ds xs):RelA K H (.D<|.tuple ds) (.ref a):=Gi (K:=K) (H:=H) h r
abbrev Aw(K:lG)(H:Hp):oA AV->oA V->Prop:=Paired<|RelA K H
theorem RelA.kp(S:Kp H H'):∀{x:AV} {v:V},RelA K H x v->RelA K H' x v
 |.D d,v,h=>Dk.kp S d v h
 |.R a,_,h=>h
 |.C i,v,⟨a,g,e,q,r⟩=>⟨a,g,e,q,An.kp S i g r⟩
 |.X C j,v,⟨a,o,d,e,q,r⟩=>⟨a,o,d,e,S.f _ _ _ q,r.kp S⟩
def Aw.kp(S:Kp H H'){xs:oA AV}{d:oA V}(h:Aw K H xs d):Aw K H' xs d:=Paired.mapP h λ_ _ q=>q.kp S
def Aw.length{xs:oA AV}{d:oA V}(h:Aw K H xs d):xs.length=d.length:=bF h
def Aw.append{xs ys:oA AV}{f d:oA V}(h:Aw K H xs f)(s:Aw K H ys d):Aw K H (xs++ys) (f++d):=by
 induction h with
 |nil=>exact s
 |cons r t g=>exact .cons r g
theorem Aw.get:∀{xs:oA AV} {d:oA V} {i:Nat} {x:AV},Aw K H xs d->xs[i]?=some x->∃u,d[i]?=some u/\RelA K H x u
 |_,_,_,_,.nil,e=>by simp at e
 |_,_,0,_,.cons r _,e=>by simp at e;subst e;exact⟨_,rfl,r⟩
 |_,_,i+1,x,.cons _ t,e=>by obtain⟨u,h1,h2⟩:=Aw.get (i:=i) (x:=x) t (by simpa using e);exact⟨u,by simpa using h1,h2⟩
theorem Aw.drop:∀{xs:oA AV} {d:oA V} (n:Nat),Aw K H xs d->Aw K H (xs.drop n) (d.drop n)
 |_,_,0,r=>r
 |_,_,_+1,.nil=>.nil
 |_,_,n+1,.cons _ t=>Aw.drop n t
theorem Aw.take:∀{xs:oA AV} {d:oA V} (n:Nat),Aw K H xs d->Aw K H (xs.take n) (d.take n)
 |_,_,0,_=>.nil
 |_,_,_+1,.nil=>.nil
 |_,_,n+1,.cons r t=>.cons r<|Aw.take n t
theorem Aw.dropLast{xs:oA AV}{d:oA V}(h:Aw K H xs d):Aw K H xs.dropLast d.dropLast:=by
 induction h with
 |nil=>exact .nil
 |cons r t f=>
  cases t with
  |nil=>exact .nil
  |cons g t=>exact .cons r f
def Aw.rev{xs:oA AV}{d:oA V}(h:Aw K H xs d):Aw K H xs.reverse d.reverse:=by
 induction h with
 |nil=>exact .nil
 |cons r t f=>rw[iG,iG];exact f.append<|.cons r .nil
def Lq(xs:oA AV)(lo hi:oB Int):oA AV:=(xs.drop<|HT.sIx xs.length 0 lo).take<|HT.sIx xs.length xs.length hi-HT.sIx xs.length 0 lo
def Aw.cut{xs:oA AV}{d:oA V}(h:Aw K H xs d)(lo hi:oB Int):Aw K H (Lq xs lo hi) (J7 d lo hi):=by unfold Lq J7;rw[h.length];exact(h.drop _).take _
theorem Aw.atI{xs:oA AV}{d:oA V}{i:Int}{x:AV}(h:Aw K H xs d)(e:atI xs i=some x):∃u,L2.atI d i=some u/\RelA K H x u:=by
 unfold L2.atI at e ⊢;rw[<- h.length];cases q:BL xs.length i with
 |none=>rw[q]at e;cases e
 |some j=>rw[q]at e;obtain⟨x,hx,f⟩:=h.get<|show xs[j]?=some x from e;exact⟨x,hx,f⟩
def dats:oA AV->oB (oA lE)
 |[]=>some []
 |.D d::r=>match dats r with
  |some f=>some (d::f)
  |none=>none
 |.R _::_=>none
 |.C _::_=>none
 |.X _ _::_=>none
@[simp] theorem dats_nil:dats []=some []:=rfl
theorem Cc:∀(ds:oA lE),dats (ds.map .D)=some ds
 |[]=>rfl
 |d::ds=>by simp only[List.map_cons,dats,Cc ds]
theorem Rg:∀{xs:oA AV} {ds:oA lE},dats xs=some ds->xs=ds.map .D
 |[],ds,h=>by cases h;rfl
 |.D d::r,ds,h=>by
  simp only[dats]at h;cases q:dats r with
  |none=>rw[q]at h;cases h
  |some es=>rw[q]at h;cases h;rw[Rg q];rfl
 |.R _::_,_,h=>by simp[dats]at h
 |.C _::_,_,h=>by simp[dats]at h
 |.X _ _::_,_,h=>by simp[dats]at h
theorem Aw.dk:∀{ds:oA lE} {d:oA V},Aw K H (ds.map .D) d->An K H ds d
 |[],_,h=>by cases h;exact C7
 |_::_,_,h=>by
  rw[aP]at h;cases h with
  |cons r t=>exact Ct r<|Aw.dk t
theorem An.rel:∀{ds:oA lE} {d:oA V},An K H ds d->Aw K H (ds.map .D) d
 |[],_,h=>by rw[h.nil];exact .nil
 |_::_,_,h=>by obtain⟨x,r,rfl,h1,h2⟩:=h.cons;exact .cons h1<|An.rel h2
def Aw.dats{xs:oA AV}{d:oA V}{ds:oA lE}(h:Aw K H xs d)(e:dats xs=some ds):An K H ds d:=by rw[Rg e]at h;exact h.dk
inductive MO where
 |lst (xs:oA AV)|dk (kvs:oA<|Key×AV)|dt (kvs:oA<|oA Key×AV)|dd (kvs:oA<|lE×AV)
abbrev M:=lF->oB MO
def Al(d:M)(a:lF)(m:MO):M:=λb=>if b=a then some m else d b
def Ab{d:M}{a:lF}{m:MO}:Al d a m a=some m:=by unfold Al;rw[T_ rfl]
def Ae{d:M}{a b:lF}{m:MO}(h:b≠a):Al d a m b=d b:=by unfold Al;rw[M_ h]
def Bl{d:M}{a:lF}{m n:MO}:Al (Al d a m) a n=Al d a n:=by funext b;unfold Al;split<;>rfl
def Ev{d:Type}(K:lG)(H:Hp):oA (d×AV)->oA (d×V)->Prop:=Paired λp q=>p.1=q.1/\RelA K H p.2 q.2
def Ev.kp{d:Type}(S:Kp H H'){xs:oA<|d×AV}{f:oA<|d×V}(h:Ev K H xs f):Ev K H' xs f:=Paired.mapP h λ_ _ q=>⟨q.1,q.2.kp S⟩
def CB(K:lG)(H:Hp):oA (lE×AV)->oA (lE×lF×lC)->Prop:=Paired λp q=>p.1=q.1/\KeyTree p.1/\Dk K H p.1 (.ref q.2.1)/\∃v,RelA K H p.2 v/\Ba v q.2.2
def CB.kp(S:Kp H H'){xs:oA<|lE×AV}{d:oA<|lE×lF×lC}(h:CB K H xs d):CB K H' xs d:=Paired.mapP h<|by rintro _ _ ⟨a,b,c,v,r,q⟩;exact ⟨a,b,Dk.kp S _ _ c,v,r.kp S,q⟩
def Ii(K:lG)(H:Hp):MO->HO->Prop
 |.lst g,o=>∃f,o=.lst f/\Aw K H g f
 |.dk d,o=>∃f,o=.dK f/\Ev K H d f
 |.dt d,o=>∃f,o=.dT f/\Ev K H d f
 |.dd d,o=>∃g,o=.dd g/\CB K H d g
theorem Ii.kp(S:Kp H H'){m:MO}{o:HO}(h:Ii K H m o):Ii K H' m o:=by
 cases m with
 |lst f=>obtain⟨d,e,r⟩:=h;exact⟨d,e,r.kp S⟩
 |dk f=>obtain⟨d,e,r⟩:=h;exact⟨d,e,r.kp S⟩
 |dt f=>obtain⟨d,e,r⟩:=h;exact⟨d,e,r.kp S⟩
 |dd f=>obtain⟨d,e,r⟩:=h;exact⟨d,e,r.kp S⟩
def C2{xs:oA AV}{d:oA V}(h:Aw K H xs d):Ii K H (.lst xs) (.lst d):=⟨d,rfl,h⟩
def Cn(K:lG)(d:M)(H:Hp):Prop:=∀a m,d a=some m->∃o,H a=some o/\Ii K H m o
theorem Cn.none{d:M}{p:lF}(c:Cn K d H)(h:H p=none):d p=none:=by
 cases q:d p with
 |none=>rfl
 |some m=>obtain⟨o,e,_⟩:=c p m q;rw[h]at e;cases e
def Cn.over{d:M}{p:lF}{o:HO}(c:Cn K d H)(h:H p=Option.none):Cn K d (upd H p o):=λa m e=>by obtain⟨g,f,r⟩:=c a m e;exact⟨g,by rw[Aq<|Bv f h];exact f,r.kp<|Kp.new h o⟩
def Cn.new{d:M}{p:lF}{m:MO}{o:HO}(c:Cn K d H)(h:H p=Option.none)(r:Ii K H m o):Cn K (Al d p m) (upd H p o):=λa f e=>by by_cases ha:a=p;subst ha;rw[Ab]at e;cases e;exact⟨o,Bi,r.kp<|Kp.new h o⟩;rw[Ae ha]at e;exact c.over h a f e
def Cn.put{f:M}{p:lF}{m:MO}{o g:HO}(c:Cn K f H)(h:H p=some g)(d:Mt g)(r:Ii K H m o):Cn K (Al f p m) (upd H p o):=λa l e=>by by_cases ha:a=p;subst ha;rw[Ab]at e;cases e;exact⟨o,Bi,r.kp<|Kp.put h d o⟩;rw[Ae ha]at e;obtain⟨j,n,i⟩:=c a l e;exact⟨j,by rw[Aq ha];exact n,i.kp<|Kp.put h d o⟩
def Sub(d f:M):Prop:=∀a m,d a=some m->f a=some m
def Sub.refl{d:M}:Sub d d:=λ_ _ h=>h
def Sub.trans{d f g:M}(h:Sub d f)(k:Sub f g):Sub d g:=λa m e=>k a m<|h a m e
def Sub.new{d g:M}{p:lF}{m:MO}(h:Sub d g)(e:d p=none):Sub d (Al g p m):=λa i f=>by rw[Ae<|by intro z;subst z;rw[e]at f;cases f];exact h a i f
theorem Sub.none{d f:M}{p:lF}(h:Sub d f)(e:f p=none):d p=none:=by
 cases q:d p with
 |none=>rfl
 |some m=>rw[h p m q]at e;cases e
def Cn.sub{d f:M}(c:Cn K f H)(h:Sub d f):Cn K d H:=λa m e=>c a m<|h a m e
abbrev ASt:=oA<|oB AV
def Kq(K:lG)(H:Hp)(a:oB AV)(b:oB V):Prop:=∀x,a=some x->∃v,b=some v/\RelA K H x v
abbrev Dv(K:lG)(H:Hp):ASt->St->Prop:=Paired<|Kq K H
def Kq.kp{a:oB AV}{b:oB V}(S:Kp H H')(h:Kq K H a b):Kq K H' a b:=λx e=>by obtain⟨v,d,r⟩:=h x e;exact⟨v,d,r.kp S⟩
def Dv.kp{τ:ASt}{d:St}(S:Kp H H')(h:Dv K H τ d):Dv K H' τ d:=Paired.mapP h λ_ _ q=>q.kp S
theorem Dv.get:∀{τ:ASt} {d:St} {i:Nat} {x:AV},Dv K H τ d->τ[i]?=some (some x)->∃v,d[i]?=some (some v)/\RelA K H x v
 |_,_,_,_,.nil,e=>by simp at e
 |_,_,0,_,.cons r _,e=>by simp at e;subst e;obtain⟨v,rfl,q⟩:=r _ rfl;exact⟨v,rfl,q⟩
 |_,_,i+1,x,.cons _ t,e=>by obtain⟨u,h1,h2⟩:=Dv.get (i:=i) (x:=x) t (by simpa using e);exact⟨u,by simpa using h1,h2⟩
def Je{x:AV}{v:V}(r:RelA K H x v):Kq K H (some x) (some v):=λy e=>by cases e;exact⟨v,rfl,r⟩
def Jf{b:oB V}:Kq K H none b:=λy e=>nomatch e
theorem Dv.set{x:AV}{v:V}(r:RelA K H x v):∀{τ:ASt} {d:St} (i:Nat),Dv K H τ d->Dv K H (τ.set i<|some x) (d.set i<|some v)
 |_,_,_,.nil=>.nil
 |_,_,0,.cons _ t=>.cons (Je r) t
 |_,_,i+1,.cons q t=>.cons q<|Dv.set r i t
def Fi(N:oA Str)(xs:oA AV):ASt:=xs.map some++List.replicate (N.length-xs.length) none
theorem Dv.rep:∀(n:Nat),Dv K H (List.replicate n none) (List.replicate n none)
 | 0=>.nil
 |n+1=>.cons Jf<|Dv.rep n
theorem Dv.somes:∀{xs:oA AV} {d:oA V},Aw K H xs d->Dv K H (xs.map some) (d.map some)
 |_,_,.nil=>.nil
 |_,_,.cons r t=>.cons (Je r)<|Dv.somes t
def Dv.append{τ f:ASt}{g d:St}(h:Dv K H τ g)(s:Dv K H f d):Dv K H (τ++f) (g++d):=by
 induction h with
 |nil=>exact s
 |cons r t i=>exact .cons r i
def Dv.begin{N:oA Str}{xs:oA AV}{d:oA V}(h:Aw K H xs d):Dv K H (Fi N xs) (start N d):=by unfold Fi start;rw[h.length];exact(Dv.somes h).append<|Dv.rep _
def IU(mp:oA<|oB Nat)(τ:ASt):ASt:=mp.map λo=>match o with
 |none=>none
 |some j=>match τ[j]? with
  |some x=>x
  |none=>none
theorem Dv.sub{τ:ASt}{d:St}(h:Dv K H τ d):∀(mp:oA<|oB Nat),Dv K H (IU mp τ) (M5 mp d)
 |[]=>.nil
 |none::mp=>.cons Jf (Dv.sub h mp)
 |some j::mp=>by
  refine .cons (λx e=>?_)<|Dv.sub h mp;have f:τ[j]?=some (some x):=by
   dsimp only at e;cases q:τ[j]? with
   |none=>rw[q]at e;cases e
   |some y=>rw[q]at e;exact bO some e
  obtain⟨v,hv,r⟩:=h.get f;refine⟨v,?_,r⟩;show(d[j]?).join=some v;rw[hv];rfl
abbrev AE:=ASt->M->(AV->M->Prop)->Prop
abbrev AT:=ASt->M->(Bool->M->Prop)->Prop
abbrev AA:=ASt->M->(oA AV->M->Prop)->Prop
abbrev AO:=ASt->M->(oB Int->M->Prop)->Prop
abbrev AS:=(ASt->M->Prop)->(AV->M->Prop)->(ASt->M->Prop)->(ASt->M->Prop)->ASt->M->Prop
abbrev AG:=AV->ASt->M->(ASt->M->Prop)->Prop
abbrev AGs:=oA AV->ASt->M->(ASt->M->Prop)->Prop
abbrev A2:=AV->AV->M->(AV->M->Prop)->Prop
abbrev AC:=oA AV->M->(AV->M->Prop)->Prop
@[irreducible] def brP (b:Bool) (T F:Prop):Prop:=match b with
 |true=>T
 |false=>F
@[irreducible] def opt {d:Type} (o:oB d) (k:d->Prop):Prop:=match o with
 |some x=>k x
 |none=>False
def br{b:Bool}{T F:Prop}(h1:b=true->T)(h2:b=false->F):brP b T F:=by
 unfold brP;cases b with
 |true=>exact h1 rfl
 |false=>exact h2 rfl
def Pl{b:Bool}{T F:Prop}(hb:b=true)(h:T):brP b T F:=by subst hb;unfold brP;exact h
def O8{b:Bool}{T F:Prop}(hb:b=false)(h:F):brP b T F:=by subst hb;unfold brP;exact h
def Wo{T F:Prop}:brP true T F=T:=by unfold brP;rfl
def br_e{b:Bool}{T F:Prop}(h:brP b T F):(b=true/\T)\/(b=false/\F):=by
 unfold brP at h;cases b with
 |true=>exact .inl ⟨rfl,h⟩
 |false=>exact .inr ⟨rfl,h⟩
def Ac{d:Type}{o:oB d}{x:d}{k:d->Prop}(h:o=some x)(q:k x):opt o k:=by subst h;unfold opt;exact q
def Ay{d:Type}{o:oB d}{k:d->Prop}(h:opt o k):∃x,o=some x/\k x:=by
 unfold opt at h;cases o with
 |none=>exact h.elim
 |some x=>exact⟨x,rfl,h⟩
def dif{p:Prop} [Decidable p]{T F:Prop}(h1:p->T)(h2:¬p->F):brP (decide p) T F:=br (λh=>h1<|aG h) λh=>h2<|of_decide_eq_false h
def LV(K:lG)(H:Hp)(R:AV->M->Prop)(Q:VK):Prop:=∀x d v H',Kp H H'->Cn K d H'->RelA K H' x v->R x d->Q v H'
def LB(K:lG)(H:Hp)(R:Bool->M->Prop)(Q:Bool->Hp->Prop):Prop:=∀b d H',Kp H H'->Cn K d H'->R b d->Q b H'
def LA(K:lG)(n:Nat)(H:Hp)(R:oA AV->M->Prop)(Q:oA V->Hp->Prop):Prop:=∀d g f H',Kp H H'->Cn K g H'->Aw K H' d f->d.length=n->R d g->Q f H'
def LO(K:lG)(H:Hp)(R:oB Int->M->Prop)(Q:oB Int->Hp->Prop):Prop:=∀b d H',Kp H H'->Cn K d H'->R b d->Q b H'
def LS(K:lG)(H:Hp)(R:ASt->M->Prop)(Q:St->Hp->Prop):Prop:=∀ d f g H',Kp H H'->Dv K H' d g->Cn K f H'->R d f->Q g H'
def LV.kp{K:lG}{H H':Hp}{R:AV->M->Prop}{Q:VK}(h:LV K H R Q)(S:Kp H H'):LV K H' R Q:=λx g v d f=>h x g v d<|S.trans f
def LB.kp{K:lG}{H H':Hp}{R:Bool->M->Prop}{Q:Bool->Hp->Prop}(h:LB K H R Q)(S:Kp H H'):LB K H' R Q:=λx g d f=>h x g d<|S.trans f
def LS.kp{K:lG}{H H':Hp}{R:ASt->M->Prop}{Q:St->Hp->Prop}(h:LS K H R Q)(S:Kp H H'):LS K H' R Q:=λx g v d f=>h x g v d<|S.trans f
structure LE'(K:lG)(H:Hp)(k:ASt->M->Prop)(r:AV->M->Prop)(b c:ASt->M->Prop)(D:Ends):Prop where
 nx:LS K H k D.nx
 rt:LV K H r D.rt
 bk:LS K H b D.bk
 ct:LS K H c D.ct
def LE'.kp{K:lG}{H H':Hp}{k:ASt->M->Prop}{r:AV->M->Prop}{b c:ASt->M->Prop}{D:Ends}(h:LE' K H k r b c D)(S:Kp H H'):LE' K H' k r b c D:=⟨h.nx.kp S,h.rt.kp S,h.bk.kp S,h.ct.kp S⟩
def cE(K:lG)(t:AE):TE:=λg H Q=>∃ f d R,Dv K H f g/\Cn K d H/\t f d R/\LV K H R Q
def cT(K:lG)(t:AT):TT:=λg H Q=>∃ f d R,Dv K H f g/\Cn K d H/\t f d R/\LB K H R Q
def cA(K:lG)(n:Nat)(t:AA):TA:=λg H Q=>∃ d f R,Dv K H d g/\Cn K f H/\t d f R/\LA K n H R Q
def cO(K:lG)(t:AO):TO:=λg H Q=>∃ f d R,Dv K H f g/\Cn K d H/\t f d R/\LO K H R Q
def cS(K:lG)(t:AS):TS:=λD g H=>∃ d f k r b c,Dv K H d g/\Cn K f H/\t k r b c d f/\LE' K H k r b c D
def cG(K:lG)(t:AG):TG:=λv g H Q=>∃x d f R,RelA K H x v/\Dv K H d g/\Cn K f H/\t x d f R/\LS K H R Q
def ZP(K:lG)(t:AGs):TGs:=λh i H Q=>∃g d f R,Aw K H g h/\Dv K H d i/\Cn K f H/\t g d f R/\LS K H R Q
def cR(K:lG)(r:A2):R2:=λx y H Q=>∃a b d R,RelA K H a x/\RelA K H b y/\Cn K d H/\r a b d R/\LV K H R Q
def cC(K:lG)(r:AC):oA V->Hp->VK->Prop:=λf H Q=>∃as d R,Aw K H as f/\Cn K d H/\r as d R/\LV K H R Q
def cM(K:lG)(r:AV->AC):V->oA V->Hp->VK->Prop:=λx f H Q=>∃a as d R,RelA K H a x/\Aw K H as f/\Cn K d H/\r a as d R/\LV K H R Q
def VE(X:Cx)(e:lJ)(t:AE):Prop:=PE X e<|cE X.K t
def VT(X:Cx)(e:lJ)(t:AT):Prop:=PT X e<|cT X.K t
def VW(X:Cx)(e:lJ)(t:AT):Prop:=PW X e<|cT X.K t
def VA(X:Cx)(es:oA lJ)(t:AA):Prop:=PA X es<|cA X.K es.length t
def VO(X:Cx)(e:oB lJ)(t:AO):Prop:=PO X e<|cO X.K t
def VS(X:Cx)(st:lN)(t:AS):Prop:=PS X st<|cS X.K t
def VSs(X:Cx)(st:oA lN)(t:AS):Prop:=PSs X st<|cS X.K t
def VG(X:Cx)(e:lJ)(t:AG):Prop:=PG X e<|cG X.K t
def VGs(X:Cx)(es:oA lJ)(t:AGs):Prop:=PGs X es<|ZP X.K t
def VOp(X:Cx)(f:lC->lC->Sem lC)(r:A2):Prop:=Gq X f<|cR X.K r
def VIx(X:Cx)(r:A2):Prop:=NM X<|cR X.K r
def VCall(X:Cx)(f:lC)(r:AC):Prop:=Fd X f<|cC X.K r
def VMt(X:Cx)(id:String)(r:AV->AC):Prop:=FN X id<|cM X.K r
def PE.imp{e:lJ}{t u:TE}(h:PE X e t)(i:∀ d H Q,u d H Q->t d H Q):PE X e u:=λf s d H Q I q=>h f s d H Q I<|i d H Q q
def PT.imp{e:lJ}{t u:TT}(h:PT X e t)(i:∀ d H Q,u d H Q->t d H Q):PT X e u:=λf s d H Q I q=>h f s d H Q I<|i d H Q q
def PW.imp{e:lJ}{t u:TT}(h:PW X e t)(i:∀ d H Q,u d H Q->t d H Q):PW X e u:=λg f s d H Q I q=>h g f s d H Q I<|i d H Q q
def PA.imp{e:oA lJ}{t u:TA}(h:PA X e t)(i:∀ d H Q,u d H Q->t d H Q):PA X e u:=λpos f s d H Q I q=>h pos f s d H Q I<|i d H Q q
def PO.imp{e:oB lJ}{t u:TO}(h:PO X e t)(i:∀ d H Q,u d H Q->t d H Q):PO X e u:=λf s d H Q I q=>h f s d H Q I<|i d H Q q
def PS.imp{e:lN}{t u:TS}(h:PS X e t)(i:∀D d H,u D d H->t D d H):PS X e u:=λf s d H D I q=>h f s d H D I<|i D d H q
def PSs.imp{e:oA lN}{t u:TS}(h:PSs X e t)(i:∀D d H,u D d H->t D d H):PSs X e u:=λf s d H D I q=>h f s d H D I<|i D d H q
def PG.imp{e:lJ}{t u:TG}(h:PG X e t)(i:∀v d H Q,u v d H Q->t v d H Q):PG X e u:=λf s d H v w Q I r q=>h f s d H v w Q I r<|i v d H Q q
def PGs.imp{e:oA lJ}{t u:TGs}(h:PGs X e t)(i:∀v d H Q,u v d H Q->t v d H Q):PGs X e u:=λf s d H v w Q I r q=>h f s d H v w Q I r<|i v d H Q q
def Pm(i:Nat):AE:=λf d R=>match f[i]? with
 |some (some x)=>R x d
 |_=>False
def Wp{K:lG}{i:Nat}{d:St}{H:Hp}{Q:VK}(h:cE K (Pm i) d H Q):MS i d H Q:=by obtain⟨j,l,R,g,hc,h,hq⟩:=h;unfold Pm at h;split at h;rename_i x e;obtain⟨v,f,r⟩:=g.get e;exact⟨v,f,hq _ _ _ _ Kp.refl hc r h⟩;exact h.elim
def vv(i:Nat){x:Str}{pos:Pos}(g:X.N[i]?=some x:=by rfl)(hv:Vis X.env.scope x:=by first|exact Or.inl rfl|exact Or.inr (Or.inl rfl)|exact Or.inr<|Or.inr rfl)(d:(x==("__debug__" : Str))=false:=by decide)
  (f:(x==("__classdict__" : Str))=false:=by decide):VE X (.Name x pos) (Pm i):=(GZ g hv d f).imp λ_ _ _ h=>Wp h
def vC(x:AV):AE:=λ_ d R=>R x d
def Fj{e:lJ}{v:V}{d:lE}(h:PE X e<|tC v)(r:∀H,Dk X.K H d v):VE X e (vC<|.D d):=h.imp λl H Q f=>B1 f λg j R i hc h hq=>hq _ _ _ _ Kp.refl hc (Tt<|r H) h
def Ai{i j pos}:VE X (.Constant (.int i) j pos) (vC<|.D<|.int i):=Fj HA λ_=>Dg
def Fk{b j pos}:VE X (.Constant (.bool b) j pos) (vC<|.D<|.bool b):=Fj MT λ_=>Ko
def Lr{j pos}:VE X (.Constant .none j pos) (vC<|.D .none):=Fj HB λ_=>Wj
def B6{x j pos}:VE X (.Constant (.str x) j pos) (vC<|.D<|.str x):=Fj Vn λ_=>Pk
def CC{x:Str}{v:V}{u:lC}{d:lE}{pos:Pos}(h:Gl X x)(f:X.mg x=some u)(r:Ba v u)(g:∀H,Dk X.K H d v)(h1:(x==("__debug__" : Str))=false:=by decide):VE X (.Name x pos) (vC<|.D d):=Fj (AR h f r h1) g
def MG(r:A2)(ta tb:AE):AE:=λg h R=>ta g h λx f=>tb g f λy d=>r x y d R
def Im{K:lG}{r:A2}{ta tb:AE}{n:St}{H:Hp}{Q:VK}(h:cE K (MG r ta tb) n H Q):NA (cR K r) (cE K ta) (cE K tb) n H Q:=by obtain⟨j,z,R,l,hc,h,hq⟩:=h;exact⟨j,z,_,l,hc,h,λx f v B i s w hx=>⟨j,f,_,l.kp i,s,hx,λy d u A g c2 q hy=>⟨x,y,d,R,w.kp g,q,c2,hy,hq.kp<|i.trans g⟩⟩⟩
def A6{d:Operator}{r:A2}(f:VOp X (binaryOp d) r)(ha:VE X a ta)(hb:VE X b tb):VE X (.BinOp a d b pos) (MG r ta tb):=(NB f ha hb).imp λ_ _ _ h=>Im h
def Wq{d:CmpOp}{r:A2}(f:VOp X (compareOp d) r)(ha:VE X a ta)(hb:VE X b tb)(g:behindInMarks d b=false):VE X (.Compare a [d] [b] pos) (MG r ta tb):=(BF f ha hb g).imp λ_ _ _ h=>Im h
def Rh(t:AE):AT:=λf g R=>t f g λx d=>match x with
 |.D (.bool k)=>R k d
 |_=>False
def Hl{K:lG}{t:AE}{u:TE}(hu:∀ d H Q,cE K t d H Q->u d H Q){d:St}{H:Hp}{Q:Bool->Hp->Prop}(h:cT K (Rh t) d H Q):FL u d H Q:=by obtain⟨j,q,R,l,hc,h,hq⟩:=h;refine hu _ _ _ ⟨j,q,_,l,hc,h,λx n v s g f i hx=>?_⟩;split at hx;cases RelA.bl i;exact⟨_,rfl,hq _ _ _ g f hx⟩;exact hx.elim
def Bg{d:CmpOp}{r:A2}(f:VOp X (compareOp d) r)(ha:VE X a ta)(hb:VE X b tb)(g:behindInMarks d b=false):VT X (.Compare a [d] [b] pos) (Rh<|MG r ta tb) :=
 (BG f ha hb g).imp λ_ _ _ h=>Hl (λ_ _ _ q=>Im q) h
def Lu{e:lJ}{t:AE}(h:VE X e t)(he:∀d,isTrue e X.env d=(do let v <- d;standAt e.pos;holding [v]<|truthy v):=by intro _;rfl):VT X e (Rh t) :=
 (HE h he).imp λ_ _ _ h=>by have h:=Hl (λ_ _ _ q=>q) h;exact h
def VZ(t u:AT):AT:=λf g R=>t f g λk d=>brP k (u f d R)<|R false d
def ZQ(t u:AT):AT:=λf g R=>t f g λk d=>brP k (R true d)<|u f d R
def WA(t:AT):AT:=λg f R=>t g f λk d=>R (!k) d
def VW.pt{e:lJ}{t:AT}(h:VW X e t):VT X e t:=PW.pt h
def E7(ha:VT X a tA):VW X (.BoolOp .And [a] pos) tA:=AU ha
def IV(ha:VT X a tA):VW X (.BoolOp .Or [a] pos) tA:=HF ha
def Gj(ha:VT X a tA)(hb:VW X (.BoolOp .And (b::rest) pos) j2):VW X (.BoolOp .And (a::b::rest) pos) (VZ tA j2) :=
 (HG ha hb).imp λu H Q f=>B1 f λl q R n hc h hq=>⟨l,q,_,n,hc,h,λk i s g j hk=>by
  rcases br_e hk with⟨rfl,d⟩|⟨rfl,d⟩;exact⟨l,i,R,n.kp g,j,d,hq.kp g⟩;exact hq _ _ _ g j d⟩
def NV(ha:VT X a tA)(hb:VW X (.BoolOp .Or (b::rest) pos) j2):VW X (.BoolOp .Or (a::b::rest) pos) (ZQ tA j2) :=
 (MU ha hb).imp λu H Q f=>B1 f λl q R n hc h hq=>⟨l,q,_,n,hc,h,λk i s g j hk=>by
  rcases br_e hk with⟨rfl,d⟩|⟨rfl,d⟩;exact hq _ _ _ g j d;exact⟨l,i,R,n.kp g,j,d,hq.kp g⟩⟩
def Wr(ha:VT X a tA):VT X (.UnaryOp .Not a pos) (WA tA):=(HH ha).imp λs H Q d=>B1 d λi l R j hc h hq=>⟨i,l,_,j,hc,h,λk n q g f hk=>hq _ _ _ g f hk⟩
def ZR(t:AT)(ta tb:AE):AE:=λf g R=>t f g λk d=>brP k (ta f d R)<|tb f d R
def M8(hc:VT X c tA)(ha:VE X a ta)(hb:VE X b tb):VE X (.IfExp c a b pos) (ZR tA ta tb) :=
 (Vo hc ha hb).imp λu H Q i=>B1 i λj q R l hc h hq=>⟨j,q,_,l,hc,h,λk d s f n hk=>by
  rcases br_e hk with⟨rfl,g⟩|⟨rfl,g⟩;exact⟨j,d,R,l.kp f,n,g,hq.kp f⟩;exact⟨j,d,R,l.kp f,n,g,hq.kp f⟩⟩
def IW:AA:=λ_ d R=>R [] d
def NW(ta:AE)(j:AA):AA:=λg h R=>ta g h λx f=>j g f λi d=>R (x::i) d
def Ad:VA X [] IW:=HY.imp λj H Q d=>B1 d λg f R i hc h hq=>hq [] f [] H Kp.refl hc .nil rfl h
def Aa{e:lJ}{es:oA lJ}{te:AE}{t:AA}(ha:VE X e te)(n:VA X es t)(hs:starEach (e::es) X.env=(false,eval e X.env)::starEach es X.env:=by rfl):VA X (e::es) (NW te t) :=
 (BH ha n hs).imp λE H Q d=>B1 d λl A R hs hc h hq=>⟨l,A,_,hs,hc,h,λx f v D j s w hx=>⟨l,f,_,hs.kp j,s,hx,λq g z y i c2 B u C=>
  hq (x::q) g (v::z) y (j.trans i) c2 (.cons (w.kp i) B) (by rw[aZ,u];rfl) C⟩⟩
def WB(t:AA):AE:=λg h R=>t g h λi d=>match dats i with
 |some f=>R (.D<|.tuple f) d
 |none=>False
def NX(t:AA):AE:=λh f R=>t h f λg d=>∀p,d p=none->R (.R p) (Al d p<|.lst g)
def Bn{k:Nat}(h:VA X es t)(hn:es.length<=sizeLine:=by decide):VE X (.Tuple es k pos) (WB t) :=
 (HZ h).imp λz H Q d=>B1 d λn s R q hc h hq=>⟨n,s,_,q,hc,h,λu g v y l i f j hx=>⟨by rw[<- f.length,j];exact hn,λp hp=>by
  split at hx;rename_i w e;refine hq _ _ _ _ (l.trans<|Kp.new hp _) (i.over hp) ?_ hx;exact Gi Bi<|An.kp (Kp.new hp _) _ _<|f.dats e;exact hx.elim⟩⟩
def B2(h:VA X es t)(hn:es.length<=sizeLine:=by decide):VE X (.List es pos) (NX t) :=
 (IA h).imp λy H Q d=>B1 d λn s R q hc h hq=>⟨n,s,_,q,hc,h,λu i v w l f g j hx=>⟨by rw[<- g.length,j];exact hn,λp hp=>
  hq _ _ _ _ (l.trans<|Kp.new hp _) (f.new hp<|C2<|g) Du (hx p<|f.none hp)⟩⟩
mutual
theorem Dk.reads{w:oA<|lF×lM}{y:St}{H:Hp}{s:lD}(I:Inv X w y H s):∀(d:lE) (x:V) (u:lC),Dk X.K H d x->Ba x u->∃as,Reads s.heap u d as
 |.none,x,u,h,r=>by cases h.non;cases r;exact⟨_,.none⟩
 |.bool b,x,u,h,r=>by cases h.bl;cases r;exact⟨_,.bool b⟩
 |.int i,x,u,h,r=>by cases h.int;obtain⟨t,rfl⟩:=r;exact⟨_,.int i t⟩
 |.str z,x,u,h,r=>by cases h.str;obtain⟨t,rfl⟩:=r;exact⟨_,.str z t⟩
 |.list v,x,u,h,r=>by obtain⟨a,l,rfl,q,k⟩:=h.lst;cases r;obtain⟨j,f,⟨o,n,e,c,_,d⟩,_⟩:=I.list q.sq;obtain⟨as,g⟩:=An.reads I v l j k f;exact⟨_,.list e c d<|by simpa using g⟩
 |.tuple v,x,u,h,r=>by obtain⟨a,l,rfl,q,k⟩:=h.tup;cases r;obtain⟨j,f,⟨o,e,c,n,d⟩,_⟩:=I.tuple q.sq;obtain⟨as,g⟩:=An.reads I v l j k f;exact⟨_,.tuple e c d<|by simpa using g⟩
 |.dict _,x,u,h,_=>by simp only[Dk]at h
theorem An.reads{i:oA<|lF×lM}{q:St}{H:Hp}{s:lD}(I:Inv X i q H s):∀(ds:oA lE) (xs:oA V) (f:oA lC),An X.K H ds xs->Vals xs f->∃as,ReadsAll s.heap f ds as
 |[],xs,f,h,r=>by have e:=h.nil;subst e;cases r;exact⟨_,.nil⟩
 |d::ds,xs,f,h,r=>by
  obtain⟨x,l,rfl,h1,h2⟩:=h.cons;cases r with
  |cons u j=>obtain⟨as,g⟩:=Dk.reads I d x _ h1 u;obtain⟨v,n⟩:=An.reads I ds l _ h2 j;exact⟨_,.cons g n⟩
end
def see(g:M):AV->oB lE
 |.X _ _=>none
 |.D d=>some d
 |.C f=>some (.tuple f)
 |.R a=>match g a with
  |some (.lst h)=>match dats h with
   |some f=>some (.list f)
   |none=>none
  |_=>none
@[simp] theorem see_D {f:M} {d:lE}:see f (.D d)=some d:=rfl
def Dy{y:oA<|lF×lM}{F:St}{H:Hp}{s:lD}{w:M}{x:AV}{v:V}{u:lC}{d:lE}(I:Inv X y F H s)(hc:Cn X.K w H)(i:RelA X.K H x v)(r:Ba v u)(e:see w x=some d):∃as,Reads s.heap u d as:=by
 cases x with
 |X C J=>cases e
 |D L=>cases e;exact Dk.reads I _ _ _ i r
 |C j=>cases e;obtain⟨a,l,rfl,q,k⟩:=i;cases r;obtain⟨h,f,⟨o,e,c,n,d⟩,_⟩:=I.tuple<|q H;obtain⟨as,g⟩:=An.reads I j l h k f;exact⟨_,.tuple e c d<|by simpa using g⟩
 |R a=>dsimp only[see]at e;split at e;rename_i l G;split at e;rename_i j B;cases e;cases (show v=.ref a from i);cases r;obtain⟨o,z,A,rfl,E⟩:=hc a _ G;obtain⟨h,f,⟨o,n,e,c,_,dd⟩,_⟩:=I.list<|E4.of z;obtain⟨as,g⟩:=An.reads I j A h (E.dats B) f;exact⟨_,.list e c dd<|by simpa using g⟩;cases e;cases e
def B9(d:lE):Prop:=d.canLay0=true/\d.depth<=64
def YV:A2:=λx y f R=>match x,y with
 |.D d,.D e=>B9 d/\B9 e/\R (.D<|.bool<|PyData.eqv d e) f
 |x,y=>opt (see f x) λd=>opt (see f y) λe=>B9 d/\B9 e/\R (.D<|.bool<|PyData.eqv d e) f
def CD{x y:AV}{f:M}{R:AV->M->Prop}(h:YV x y f R):∃d e,see f x=some d/\see f y=some e/\B9 d/\B9 e/\R (.D<|.bool<|PyData.eqv d e) f:=by
 have g:∀(h:opt (see f x) λd=>opt (see f y) λe=>B9 d/\B9 e/\R (.D<|.bool<|PyData.eqv d e) f),∃d e,see f x=some d/\see f y=some e/\B9 d/\B9 e/\R (.D<|.bool<|PyData.eqv d e) f:=by intro h;obtain⟨d,j,h⟩:=Ay h;obtain⟨e,i,h⟩:=Ay h;exact⟨d,e,j,i,h⟩
 cases x with
 |D d=>
  cases y with
  |D e=>exact⟨_,_,rfl,rfl,h⟩
  |_=>exact g h
 |_=>exact g h
def WC:A2:=λx y f R=>match x,y with
 |.D d,.D e=>B9 d/\B9 e/\R (.D<|.bool<|!PyData.eqv d e) f
 |x,y=>opt (see f x) λd=>opt (see f y) λe=>B9 d/\B9 e/\R (.D<|.bool<|!PyData.eqv d e) f
def CF{x y:AV}{f:M}{R:AV->M->Prop}(h:WC x y f R):∃d e,see f x=some d/\see f y=some e/\B9 d/\B9 e/\R (.D<|.bool<|!PyData.eqv d e) f:=by unfold WC at h;split at h;exact⟨_,_,rfl,rfl,h⟩;obtain⟨d,i,h⟩:=Ay h;obtain⟨e,g,h⟩:=Ay h;exact⟨d,e,i,g,h⟩
def Hm(j:Room k X.A):VOp X (compareOp .Eq) YV:=by intro D s F H x y v u Q I n i f;refine En f λa b E R g w hc h hq=>?_;obtain⟨d,e,z,q,h⟩:=CD h;obtain⟨as,B⟩:=Dy I hc g n z;obtain⟨C,l⟩:=Dy I hc w i q;have hu:=j.un;have:=h.1.2;exact SeqAt.compareEq_reads B l h.1.1 h.2.1.1 (by omega) ⟨.bl _,H,I,rfl,hq _ _ _ _ Kp.refl hc Eu h.2.2⟩
def NY(j:Room k X.A):VOp X (compareOp .NotEq) WC:=by intro D s F H x y v u Q I q i f;refine En f λa b E R g z hc h hq=>?_;obtain⟨d,e,B,w,h⟩:=CF h;obtain⟨as,l⟩:=Dy I hc g q B;obtain⟨C,n⟩:=Dy I hc z i w;have hu:=j.un;have:=h.1.2;exact SeqAt.compareNe_reads l n h.1.1 h.2.1.1 (by omega) ⟨.bl _,H,I,rfl,hq _ _ _ _ Kp.refl hc Eu h.2.2⟩
def M9:lE->oB Key
 |.int i=>some (.inl i)
 |.str z=>some (.inr z)
 |_=>none
def items(f:M):AV->oB (oA AV)
 |.D (.tuple d)=>some (d.map .D)
 |.C d=>some (d.map .D)
 |.D (.list d)=>some (d.map .D)
 |.R a=>match f a with
  |some (.lst g)=>some g
  |_=>none
 |_=>none
def Kr{H:Hp}{g:M}{x:AV}{v:V}{xs:oA AV}(hc:Cn X.K g H)(f:RelA X.K H x v)(e:items g x=some xs):∃p d,v=.ref p/\(E4 X.K H p d\/Il X.K H p d)/\Aw X.K H xs d:=by unfold items at e;split at e;cases e;obtain⟨a,d,rfl,q,r⟩:=RelA.tup f;exact⟨a,d,rfl,.inr q.sq,r.rel⟩;cases e;obtain⟨a,d,rfl,q,r⟩:=f;exact⟨a,d,rfl,.inr<|q H,r.rel⟩;cases e;obtain⟨a,d,rfl,q,r⟩:=RelA.lst f;exact⟨a,d,rfl,.inl q.sq,r.rel⟩;split at e;rename_i l j;cases e;obtain⟨o,h,d,rfl,i⟩:=hc _ _ j;exact⟨_,d,f,.inl<|E4.of h,i⟩;cases e;cases e
def FS:AV->Bool
 |.D (.tuple _)=>true
 |.C _=>true
 |_=>false
def Cm{H:Hp}{g:M}{x:AV}{v:V}{xs:oA AV}(hc:Cn X.K g H)(f:RelA X.K H x v)(e:items g x=some xs):∃p d,v=.ref p/\((FS x=false/\E4 X.K H p d)\/(FS x=true/\Il X.K H p d))/\Aw X.K H xs d:=by unfold items at e;split at e;cases e;obtain⟨a,d,rfl,q,r⟩:=RelA.tup f;exact⟨a,d,rfl,.inr ⟨rfl,q.sq⟩,r.rel⟩;cases e;obtain⟨a,d,rfl,q,r⟩:=f;exact⟨a,d,rfl,.inr ⟨rfl,q H⟩,r.rel⟩;cases e;obtain⟨a,d,rfl,q,r⟩:=RelA.lst f;exact⟨a,d,rfl,.inl ⟨rfl,q.sq⟩,r.rel⟩;split at e;rename_i l j;cases e;obtain⟨o,h,d,rfl,i⟩:=hc _ _ j;exact⟨_,d,f,.inl ⟨rfl,E4.of h⟩,i⟩;cases e;cases e
def MH(h:Bool->Bool):A2:=λx y g R=>match y with
 |.D (.str j)=>match x with
  |.D (.str i)=>R (.D<|.bool<|h<|!(Builtin.Str.occurrences j i 0 j.length 1).isEmpty) g
  |_=>False
 |.C f=>opt (see g x) λd=>B9 d/\B9 (.tuple f)/\R (.D<|.bool<|h<|f.any λe=>PyData.eqv e d) g
 |.D (.tuple f)=>opt (see g x) λd=>B9 d/\B9 (.tuple f)/\R (.D<|.bool<|h<|f.any λe=>PyData.eqv e d) g
 |y=>opt (see g x) λd=>opt (items g y) λl=>opt (dats l) λf=>B9 d/\B9 (.tuple f)/\R (.D<|.bool<|h<|f.any λe=>PyData.eqv e d) g
def Ri{n:Bool->Bool}{x y:AV}{j:M}{R:AV->M->Prop}(h:MH n x y j R)(hn:∀z,y≠.D (.str z)):∃d i f,see j x=some d/\items j y=some i/\dats i=some f/\B9 d/\B9 (.tuple f)/\R (.D<|.bool<|n<|f.any λe=>PyData.eqv e d) j:=by unfold MH at h;split at h;exact absurd rfl<|hn _;obtain⟨d,g,h⟩:=Ay h;exact⟨d,_,_,g,rfl,Cc _,h⟩;obtain⟨d,g,h⟩:=Ay h;exact⟨d,_,_,g,rfl,Cc _,h⟩;obtain⟨d,g,h⟩:=Ay h;obtain⟨i,q,h⟩:=Ay h;obtain⟨f,l,h⟩:=Ay h;exact⟨d,i,f,g,q,l,h⟩
def Na{ds:oA lE}(h:B9<|.tuple ds):PyData.canLayAll0 ds=true/\PyData.depthAll ds<=64:=by obtain⟨h1,h2⟩:=h;simp only[PyData.canLay0]at h1;simp only[PyData.depth]at h2;exact⟨h1,iK h2⟩
def WD(P:Room k X.A):VOp X (compareOp .In) (MH λb=>b):=by
 intro S s W H x y v u Q I J G i;refine En i λa b μ R F f hc h hq=>?_;by_cases hb:∃z,b=.D (.str z);obtain⟨z,rfl⟩:=hb;unfold MH at h;dsimp only at h;split at h;cases RelA.str F;cases RelA.str f;exact Tg S s W H _ _ v u Q I J G ⟨_,_,rfl,rfl,hq _ _ _ _ Kp.refl hc Eu h⟩;exact h.elim;obtain⟨d,ys,M,U,Z,n,h⟩:=Ri h λz e=>hb ⟨z,e⟩
 skip
 obtain⟨j,C,h⟩:=h;obtain⟨as,O⟩:=Dy I hc F J U;obtain⟨p,L,rfl,hp,V⟩:=Kr hc f Z;cases G;obtain⟨l,c2⟩:=Na C;have N:=V.dats n;have hu:=P.un;have q:=hq _ _ _ _ Kp.refl hc Eu h;rcases hp with hp|hp;obtain⟨g,r,E,hz⟩:=I.list hp;obtain⟨Y,f⟩:=An.reads I M L g N r;have e:=λA=>Et (A:=A) O j.1;refine SeqAt.in_listAt (O7 s.heap d) E.isList (λw B=>(e _ (by first|(show X.A.units+64<_;omega)|(show X.A.units+1+64<_;omega)|(show X.A.units+1+1+64<_;omega)) f l c2).1 w<|by simpa using B) ⟨.bl _,H,I,rfl,?_⟩;rw[show g.toArray.any (O7 s.heap d)=g.any (O7 s.heap d) by simp,(e X.A (by omega) f l c2).2];exact q;obtain⟨g,r,E,hz⟩:=I.tuple hp;obtain⟨Y,f⟩:=An.reads I M L g N r;have e:=λA=>Et (A:=A) O j.1;refine SeqAt.in_tupleAt (O7 s.heap d) E (λw B=>(e _ (by first|(show X.A.units+64<_;omega)|(show X.A.units+1+64<_;omega)|(show X.A.units+1+1+64<_;omega)) f l c2).1 w<|by simpa using B) ⟨.bl _,H,I,rfl,?_⟩;rw[show g.toArray.any (O7 s.heap d)=g.any (O7 s.heap d) by simp,(e X.A (by omega) f l c2).2];exact q
def Rj(P:Room k X.A):VOp X (compareOp .NotIn) (MH λb=>!b):=by
 intro S s W H x y v u Q I J G i;refine En i λa b μ R F f hc h hq=>?_;by_cases hb:∃z,b=.D (.str z);obtain⟨z,rfl⟩:=hb;unfold MH at h;dsimp only at h;split at h;cases RelA.str F;cases RelA.str f;exact Lj S s W H _ _ v u Q I J G ⟨_,_,rfl,rfl,hq _ _ _ _ Kp.refl hc Eu h⟩;exact h.elim;obtain⟨d,ys,M,U,Z,n,h⟩:=Ri h λz e=>hb ⟨z,e⟩
 skip
 obtain⟨j,C,h⟩:=h;obtain⟨as,O⟩:=Dy I hc F J U;obtain⟨p,L,rfl,hp,V⟩:=Kr hc f Z;cases G;obtain⟨l,c2⟩:=Na C;have N:=V.dats n;have hu:=P.un;have q:=hq _ _ _ _ Kp.refl hc Eu h;rcases hp with hp|hp;obtain⟨g,r,E,hz⟩:=I.list hp;obtain⟨Y,f⟩:=An.reads I M L g N r;have e:=λA=>Et (A:=A) O j.1;refine SeqAt.notIn_listAt (O7 s.heap d) E.isList (λw B=>(e _ (by first|(show X.A.units+64<_;omega)|(show X.A.units+1+64<_;omega)|(show X.A.units+1+1+64<_;omega)) f l c2).1 w<|by simpa using B) ⟨.bl _,H,I,rfl,?_⟩;rw[show g.toArray.any (O7 s.heap d)=g.any (O7 s.heap d) by simp,(e X.A (by omega) f l c2).2];exact q;obtain⟨g,r,E,hz⟩:=I.tuple hp;obtain⟨Y,f⟩:=An.reads I M L g N r;have e:=λA=>Et (A:=A) O j.1;refine SeqAt.notIn_tupleAt (O7 s.heap d) E (λw B=>(e _ (by first|(show X.A.units+64<_;omega)|(show X.A.units+1+64<_;omega)|(show X.A.units+1+1+64<_;omega)) f l c2).1 w<|by simpa using B) ⟨.bl _,H,I,rfl,?_⟩;rw[show g.toArray.any (O7 s.heap d)=g.any (O7 s.heap d) by simp,(e X.A (by omega) f l c2).2];exact q
def NZ:A2:=λx y d R=>match x,y with
 |.D .none,.D .none=>R (.D<|.bool true) d
 |_,.D .none=>R (.D<|.bool false) d
 |_,_=>False
def FT:A2:=λx y d R=>match x,y with
 |.D .none,.D .none=>R (.D<|.bool false) d
 |_,.D .none=>R (.D<|.bool true) d
 |_,_=>False
def Nb{K:lG}{H:Hp}{x:AV}(h:RelA K H x .non):x=.D .none:=by
 cases x with
 |R a=>cases (show V.non=.ref a from h)
 |C g=>obtain⟨_,_,e,_⟩:=h;cases e
 |X C f=>obtain⟨_,_,_,e,_⟩:=h;cases e
 |D d=>
  cases d with
  |none=>rfl
  |bool b=>cases RelA.bl h
  |int b=>cases RelA.int h
  |str b=>cases RelA.str h
  |list b=>obtain⟨_,_,e,_⟩:=RelA.lst h;cases e
  |tuple b=>obtain⟨_,_,e,_⟩:=RelA.tup h;cases e
  |dict b=>exact absurd h<|by simp only[RelA,Dk];exact id
def FU:VOp X (compareOp .Is) NZ:=by
 intro i s n H x y v u Q I j g d;refine En d λa b q R f l hc h hq=>?_;unfold NZ at h;split at h;cases RelA.non f;cases RelA.non l;exact Vx i s n H _ _ v u Q I j g ⟨rfl,hq _ _ _ _ Kp.refl hc Eu h⟩;rename_i ne;cases RelA.non l;refine Vx i s n H _ _ v u Q I j g ⟨rfl,hq _ _ _ _ Kp.refl hc ?_ h⟩;have:x≠.non:=by intro e;subst e;exact ne<|Nb f
 rw[aQ this];exact Eu;exact h.elim
def IX:VOp X (compareOp .IsNot) FT:=by
 intro i s n H x y v u Q I j g d;refine En d λa b q R f l hc h hq=>?_;unfold FT at h;split at h;cases RelA.non f;cases RelA.non l;exact Q8 i s n H _ _ v u Q I j g ⟨rfl,hq _ _ _ _ Kp.refl hc Eu h⟩;rename_i ne;cases RelA.non l;refine Q8 i s n H _ _ v u Q I j g ⟨rfl,hq _ _ _ _ Kp.refl hc ?_ h⟩;have:x≠.non:=by intro e;subst e;exact ne<|Nb f
 rw[aQ this];exact Eu;exact h.elim
def aI(C:Int->Int->Prop)(g:Int->Int->lE):A2:=λx y d R=>match x,y with
 |.D (.int i),.D (.int j)=>C i j/\R (.D<|g i j) d
 |_,_=>False
def FV(g:Int->Int->lE):A2:=λx y d R=>match x,y with
 |.D (.int i),.D (.int j)=>R (.D<|g i j) d
 |_,_=>False
def OA{f:lC->lC->Sem lC}{C:Int->Int->Prop}{g:Int->Int->V}{g':Int->Int->lE}(h:Gq X f<|rI C g)(z:∀i j H,Dk X.K H (g' i j)<|g i j):VOp X f (aI C g'):=by
 intro A s E H x y v u Q I B w n;refine En n λa b G R q F hc l hq=>?_;cases a with
 |D d=>
  cases d with
  |int i=>
   cases b with
   |D e=>
    cases e with
    |int j=>cases RelA.int q;cases RelA.int F;exact h A s E H _ _ v u Q I B w ⟨_,_,rfl,rfl,l.1,hq _ _ _ _ Kp.refl hc (Tt<|z _ _ _) l.2⟩
    |_=>exact False.elim l
   |_=>exact False.elim l
  |_=>exact False.elim l
 |_=>exact False.elim l
def Pn{f:lC->lC->Sem lC}{g:Int->Int->V}{g':Int->Int->lE}(h:Gq X f<|Vw g)(z:∀i j H,Dk X.K H (g' i j)<|g i j):VOp X f (FV g'):=by
 intro A s E H x y v u Q I B w l;refine En l λa b F R q C hc n hq=>?_;cases a with
 |D d=>
  cases d with
  |int i=>
   cases b with
   |D e=>
    cases e with
    |int j=>cases RelA.int q;cases RelA.int C;exact h A s E H _ _ v u Q I B w ⟨_,_,rfl,rfl,hq _ _ _ _ Kp.refl hc (Tt<|z _ _ _) n⟩
    |_=>exact False.elim n
   |_=>exact False.elim n
  |_=>exact False.elim n
 |_=>exact False.elim n
abbrev WE:A2:=FV λi j=>.int<|i-j
abbrev OB:A2:=aI CDiv λi j=>.int<|i / j
abbrev WF:A2:=aI (λ_ j=>0<j) λi j=>.int<|i%j
abbrev WG:A2:=aI CPow λi j=>.int<|i^j.toNat
abbrev ZS:A2:=FV λi j=>.bool<|decide (i<j)
abbrev ZT:A2:=FV λi j=>.bool<|decide (i<=j)
abbrev ZU:A2:=FV λi j=>.bool<|decide (j<i)
abbrev ZV:A2:=FV λi j=>.bool<|decide (j<=i)
def FW:VOp X (binaryOp .Sub) WE:=Pn HQ λ_ _ _=>Dg
def IY:VOp X (binaryOp .FloorDiv) OB:=OA BE λ_ _ _=>Dg
def Gx:VOp X (binaryOp .Mod) WF:=OA HS λ_ _ _=>Dg
def OC:VOp X (binaryOp .Pow) WG:=OA HU λ_ _ _=>Dg
def CG:VOp X (compareOp .Lt) ZS:=Pn ND λ_ _ _=>Ko
def WH:VOp X (compareOp .LtE) ZT:=Pn NE λ_ _ _=>Ko
def Wu:VOp X (compareOp .Gt) ZU:=Pn NF λ_ _ _=>Ko
def OD:VOp X (compareOp .GtE) ZV:=Pn NG λ_ _ _=>Ko
def WI:A2:=λx y d R=>match x,y with
 |.D (.int i),.D (.int j)=>CMul i j/\R (.D<|.int<|i*j) d
 |.D (.str z),.D (.int n)=>(n=0\/n=1)/\R (.D<|.str<|if n=0 then Str.empty else z) d
 |_,_=>False
def Gy:VOp X (binaryOp .Mult) WI:=by
 intro n s A H x y v u Q I q l f;refine En f λa b B R g w hc h hq=>?_;cases a with
 |D d=>
  cases d with
  |int i=>
   cases b with
   |D e=>
    cases e with
    |int j=>cases RelA.int g;cases RelA.int w;exact HR n s A H _ _ v u Q I q l ⟨_,_,rfl,rfl,h.1,hq _ _ _ _ Kp.refl hc Cs h.2⟩
    |_=>exact False.elim h
   |_=>exact False.elim h
  |str z=>
   cases b with
   |D e=>
    cases e with
    |int j=>cases RelA.str g;cases RelA.int w;exact Lp n s A H _ _ v u Q I q l ⟨_,_,rfl,rfl,h.1,hq _ _ _ _ Kp.refl hc Jc h.2⟩
    |_=>exact False.elim h
   |_=>exact False.elim h
  |_=>exact False.elim h
 |_=>exact False.elim h
def WJ:A2:=λx y d R=>match x,y with
 |.D (.int i),.D (.int j)=>R (.D<|.int<|i+j) d
 |.D (.str i),.D (.str j)=>i.length+j.length<=sizeLine/\R (.D<|.str<|i++j) d
 |.D (.tuple i),.D (.tuple j)=>i.length+j.length<=sizeLine/\R (.D<|.tuple<|i++j) d
 |.R i,.R j=>opt (d i) λm=>opt (d j) λn=>match m,n with
  |.lst g,.lst f=>g.length+f.length<=sizeLine/\∀p,d p=none->R (.R p) (Al d p<|.lst<|g++f)
  |_,_=>False
 |_,_=>False
def WK{K:lG}{L:oA<|lF×lM}{U:St}{H:Hp}{s:lD}{v u:lC}{x y:V}{ds es:oA lE}{Q:VK}(hK:X.K=K)(I:Inv X L U H s)(rx:Ba x v)(ry:Ba y u)(hx:Dk K H (.tuple ds) x)(hy:Dk K H (.tuple es) y)
  (hz:ds.length+es.length<=sizeLine) (q:∀z H',Kp H H'->(∀ R,Cn K R H->Cn K R H')->Dk K H' (.tuple<|ds++es) z->Q z H'):qV X.prog X.w X.A (binaryOp .Add v u) (EP X L U Q) X.xe s:=by
 subst hK;obtain⟨a,J,rfl,ha,P⟩:=hx.tup;obtain⟨b,F,rfl,hb,d⟩:=hy.tup;cases rx;cases ry;obtain⟨ae,h,G,_⟩:=I.tuple ha.sq;obtain⟨f,C,S,_⟩:=I.tuple hb.sq;have B:=P.length;have D:=d.length;by_cases hv:J=[];subst hv;have e:ae=[]:=h.nil_iff.mpr rfl;subst e;have j:ds=[]:=List.length_eq_zero_iff.mp B.symm;subst j;obtain⟨⟨cls,dd,O,sl⟩,N,hc,n,Y⟩:=id G;obtain⟨⟨W,i,data2,l⟩,M,g,n2,Z⟩:=id S;simp only at hc Y g Z;subst hc Y g Z;exact concat_meets ⟨_,N,rfl⟩ ⟨_,M,rfl⟩ kP seq_tuple_add iF iD (gV _ _)
  (tuple_addW0 a b [].toArray f.toArray n n2 dd i sl l rfl) ⟨N,M,.ref b,H,I,rfl,q _ _ Kp.refl (λ_ c=>c)<|by simpa using hy⟩
 refine HT.cat_tup G S (λz=>hv<|h.nil_iff.mp z) (λz=>⟨.ref a,H,I,rfl,q _ _ Kp.refl (λ_ c=>c) ?_⟩) (λz=>?_) (by rw[<- h.length,<- C.length,B,D];exact hz);have e:F=[]:=C.nil_iff.mp z;subst e;have j:es=[]:=List.length_eq_zero_iff.mp D.symm;subst j;simpa using hx;have E:=I.hok.fresh<|F_ s.heap.objs.size;refine⟨.ref s.heap.objs.size,_,I.laid (t':=s.toks) (o:=.tup<|J++F) (λb ob q=>DD _ q) (F_ _) ?_,rfl,q _ _ (Kp.new E _) (λ_ c=>c.over E) ?_⟩;exact⟨by rw[P_,B,D];exact hz,_,h.append C,IsTup.new _ _⟩;exact Gi Bi<|An.kp (Kp.new E _) _ _<|P.append d
def B7:VOp X (binaryOp .Add) WJ:=by
 intro B s E H x y v u Q I w q f;refine En f λa b Y R l A hc h hq=>?_;cases a with
 |D d=>
  cases d with
  |int i=>
   cases b with
   |D e=>
    cases e with
    |int j=>cases RelA.int l;cases RelA.int A;exact HP B s E H _ _ v u Q I w q ⟨_,_,rfl,rfl,hq _ _ _ _ Kp.refl hc Cs h⟩
    |_=>exact False.elim h
   |_=>exact False.elim h
  |str z=>
   cases b with
   |D e=>
    cases e with
    |str j=>cases RelA.str l;cases RelA.str A;exact Pd B s E H _ _ v u Q I w q ⟨_,_,rfl,rfl,h.1,hq _ _ _ _ Kp.refl hc Jc h.2⟩
    |_=>exact False.elim h
   |_=>exact False.elim h
  |tuple W=>
   cases b with
   |D e=>
    cases e with
    |tuple es=>exact WK rfl I w q l A h.1 λz H' S c O=>hq _ _ _ _ S (c _ hc) (Tt O) h.2
    |_=>exact False.elim h
   |_=>exact False.elim h
  |_=>exact False.elim h
 |R i=>
  cases b with
  |R j=>
   obtain⟨m,J,h⟩:=Ay h;obtain⟨n,N,h⟩:=Ay h;cases m with
   |lst V=>
    cases n with
    |lst P=>cases (show x=.ref i from l);cases (show y=.ref j from A);obtain⟨o,L,M,rfl,F⟩:=hc i _ J;obtain⟨U,C,G,rfl,g⟩:=hc j _ N;exact II B s E H _ _ v u Q I w q ⟨i,j,M,G,rfl,rfl,L,C,by rw[<- F.length,<- g.length];exact h.1,λp hp=>hq _ _ _ _ (Kp.new hp _) (hc.new hp<|C2<|F.append g) Du<|h.2 p<|hc.none hp⟩
    |_=>exact False.elim h
   |_=>exact False.elim h
  |_=>exact False.elim h
 |_=>exact False.elim h
def TY:A2:=λx y f R=>match x,y with
 |.D (.str z),.D (.int i)=>z.length<=sizeLine/\opt (atI z.cps.toList i) λc=>R (.D<|.str ⟨#[c]⟩) f
 |.D (.tuple g),.D (.int i)=>opt (atI g i) λd=>R (.D d) f
 |.D (.list g),.D (.int i)=>opt (atI g i) λd=>R (.D d) f
 |.R a,.D (.int i)=>opt (f a) λm=>match m with
  |.lst h=>opt (atI h i) λw=>R w f
  |_=>False
 |_,_=>False
def CH{x y:AV}{f:M}{R:AV->M->Prop}(h:TY x y f R):∃i,y=.D (.int i):=by
 have g:(∀d,TY (.D d) y f R->False)->(∀a,TY (.R a) y f R->False)->False:=λh1 h2=>by
  cases x with
  |D d=>exact h1 d h
  |R a=>exact h2 a h
  |_=>exact h
 cases y with
 |D e=>
  cases e with
  |int i=>exact⟨i,rfl⟩
  |_=>exact(g (λd q=>by cases d<;>exact q) λa q=>q).elim
 |_=>exact(g (λd q=>by cases d<;>exact q) λa q=>q).elim
def Cb:VIx X TY:=by
 intro f g B s F H x y v u Q I C A O E;refine En O λa b V R q S hc h hq=>?_;obtain⟨i,rfl⟩:=CH h;cases RelA.int S;cases a with
 |D d=>
  cases d with
  |str z=>cases RelA.str q;obtain⟨h1,h⟩:=h;obtain⟨c,e,h⟩:=Ay h;exact IF f g B s F H _ _ v u Q I C A ⟨_,_,_,rfl,rfl,h1,e,hq _ _ _ _ Kp.refl hc Jc h⟩ E
  |tuple N=>obtain⟨d,G,h⟩:=Ay h;obtain⟨p,J,rfl,hp,l⟩:=RelA.tup q;obtain⟨z,j,n⟩:=l.atI G;exact IE f g B s F H _ _ v u Q I C A ⟨_,_,_,_,rfl,rfl,hp.sq,j,hq _ _ _ _ Kp.refl hc (Tt n) h⟩ E
  |list N=>obtain⟨d,G,h⟩:=Ay h;obtain⟨p,J,rfl,hp,l⟩:=RelA.lst q;obtain⟨z,j,n⟩:=l.atI G;exact Rc f g B s F H _ _ v u Q I C A ⟨_,_,_,_,rfl,rfl,hp.sq,j,hq _ _ _ _ Kp.refl hc (Tt n) h⟩ E
  |_=>exact False.elim h
 |R a=>
  obtain⟨m,M,h⟩:=Ay h;cases m with
  |lst U=>obtain⟨w,P,h⟩:=Ay h;obtain⟨o,L,J,rfl,l⟩:=hc _ _ M;cases (show x=.ref _ from q);obtain⟨z,j,n⟩:=l.atI P;exact Rc f g B s F H _ _ v u Q I C A ⟨_,_,_,_,rfl,rfl,E4.of L,j,hq _ _ _ _ Kp.refl hc n h⟩ E
  |_=>exact False.elim h
 |_=>exact False.elim h
def Bk{r:A2}(d:VIx X r)(ha:VE X a ta)(hb:VE X b tb)(hs:Rb b:=by intro _ _;rfl):VE X (.Subscript a b pos) (MG r ta tb):=(NN d ha hb hs).imp λ_ _ _ h=>Im h
def CI:AO:=λ_ d R=>R none d
def OE(t:AE):AO:=λf g R=>t f g λx d=>match x with
 |.D (.int i)=>R (some i) d
 |_=>False
def Ed:VO X none CI:=BJ.imp λj H Q d=>B1 d λf i R g hc h hq=>hq _ _ _ Kp.refl hc h
def Dl(h:VE X a ta):VO X (some a) (OE ta):=(BK h).imp λu H Q d=>B1 d λl q R n hc h hq=>⟨l,q,_,n,hc,h,λx f v s i g j hx=>by
 split at hx;cases RelA.int j;exact⟨_,rfl,hq _ _ _ i g hx⟩;exact hx.elim⟩
def WL(x:AV)(lo hi:oB Int):M->(AV->M->Prop)->Prop:=λd R=>match x with
 |.D (.str z)=>z.length<=sizeLine/\R (.D<|.str<|Txt.slice z lo hi) d
 |.D (.tuple f)=>R (.D<|.tuple<|Pj f lo hi) d
 |.C _=>False
 |x=>opt (items d x) λg=>∀p,d p=none->R (.R p) (Al d p<|.lst<|Lq g lo hi)
def ZW(K:lG):V->oB Int->oB Int->Hp->VK->Prop:=λx lo hi H Q=>∃a d R,RelA K H a x/\Cn K d H/\WL a lo hi d R/\LV K H R Q
def WM:NL X (ZW X.K):=by
 intro y s z H x v B w lo hi A Q I i l n j ⟨a,N,R,f,hc,h,hq⟩;unfold WL at h;split at h;cases RelA.str f;exact IR y s z H _ v B w lo hi A Q I i l n j ⟨_,rfl,h.1,hq _ _ _ _ Kp.refl hc Jc h.2⟩;rename_i g;by_cases q:HT.sIx g.length 0 lo=0/\HT.sIx g.length g.length hi=g.length;obtain⟨a,u,rfl,ha,hx⟩:=RelA.tup f;cases i;obtain⟨C,r,d,hz⟩:=I.tuple ha.sq;have J:C.toArray.size=g.length:=by rw[aA,<- r.length,hx.length]
 refine⟨"tuple",_,cZ.lookup,d.typeIs,?_⟩;refine HT.getItem_tuple_all d l n j (by rw[J];exact q) ⟨.ref a,H,I,rfl,hq _ _ _ _ Kp.refl hc ?_ h⟩;rw[Wi q];exact f;obtain⟨a,u,rfl,ha,hx⟩:=RelA.tup f;refine ID y s z H (.ref a) v B w lo hi A Q I i l n j ⟨a,u,rfl,ha.sq,by rw[hx.length];exact q,λp hp=>?_⟩;exact hq _ _ _ _ (Kp.new hp _) (hc.over hp) (Wm Bi<|An.kp (Kp.new hp _) _ _<|hx.cut lo hi) h;exact h.elim;rename_i L G D;obtain⟨u,F,h⟩:=Ay h;obtain⟨p,M,rfl,hp,E⟩:=Cm hc f F;rcases hp with⟨_,hp⟩|⟨d,hp⟩;exact BN y s z H _ v B w lo hi A Q I i l n j ⟨_,_,rfl,hp,λp hp=>hq _ _ _ _ (Kp.new hp _) (hc.new hp<|C2<|E.cut lo hi) Du<|h p<|hc.none hp⟩;exfalso;unfold FS at d;split at d;exact G _ rfl;exact D _ rfl;cases d
def ZX(te:AE)(i n:AO):AE:=λf j R=>te f j λx h=>i f h λl d=>n f d λu g=>WL x l u g R
def C8{lo hi:oB lJ}{A z:AO}{E:Pos}(he:VE X a ta)(q:VO X lo A)(hu:VO X hi z):VE X (.Subscript a (.Slice lo hi none E) pos) (ZX ta A z) :=
 (V0 WM he q hu).imp λJ H Q d=>B1 d λs D R j hc h hq=>⟨s,D,_,j,hc,h,λx w v I i B C hx=>⟨s,w,_,j.kp i,B,hx,λl n G f c2 q=>⟨s,n,_,j.kp<|i.trans f,c2,q,λu g L y F hu=>
  ⟨x,g,R,C.kp<|f.trans y,F,hu,hq.kp<|i.trans<|f.trans y⟩⟩⟩⟩
def WN(r:AC)(t:AA):AE:=λh f R=>t h f λg d=>r g d R
def Rk{K:lG}{n:Nat}{r:AC}{t:AA}{f:St}{H:Hp}{Q:VK}(h:cE K (WN r t) f H Q):VC (cC K r) (cA K n t) f H Q:=by obtain⟨l,u,R,s,hc,h,hq⟩:=h;exact⟨l,u,_,s,hc,h,λg d w y j i q v hx=>⟨g,d,R,q,i,hx,hq.kp j⟩⟩
def Az(hc:VCall X (.builtin gg) r)(g:Gl X x)(d:X.mg x=none)(hv:bootBuiltins x=some (.builtin gg))(ha:VA X (e::es) t)(hn:x ≠ "__name__" := by decide) (f:(x==("__debug__" : Str))=false:=by decide)
  (i:starEach (e::es) X.env=(false,eval e X.env)::starEach es X.env:=by rfl) (hpl:(backTo pos<|starEach es X.env).any (·.1)=false:=by rfl):VE X (.Call (.Name x p) (e::es) [] pos) (WN r t) :=
 (Vy hc g d hv ha hn f i hpl).imp λ_ _ _ h=>Rk h
def Bu(hc:VCall X (.type T) r)(g:Gl X x)(d:X.mg x=none)(hv:bootBuiltins x=some (.type T))(ha:VA X (e::es) t)(hn:x ≠ "__name__" := by decide) (f:(x==("__debug__" : Str))=false:=by decide)
  (i:starEach (e::es) X.env=(false,eval e X.env)::starEach es X.env:=by rfl) (hpl:(backTo pos<|starEach es X.env).any (·.1)=false:=by rfl):VE X (.Call (.Name x p) (e::es) [] pos) (WN r t) :=
 (Tj hc g d hv ha hn f i hpl).imp λ_ _ _ h=>Rk h
def OF:AC:=λi d R=>match i with
 |[.D<|.str z]=>z.length<=sizeLine/\R (.D<|.int z.length) d
 |[.D<|.tuple f]=>R (.D<|.int f.length) d
 |[.D<|.list f]=>R (.D<|.int f.length) d
 |[.R a]=>opt (d a) λm=>match m with
  |.lst h=>R (.D<|.int h.length) d
  |.dk g=>R (.D<|.int g.length) d
  |_=>False
 |_=>False
def C5:VCall X (.builtin "len") OF:=by
 intro i s n H O l Q I r j;refine B1 j λas L R C hc h hq=>?_;have E:∀{y:AV} {t:oA AV} {x:AV},OF (x::y::t) L R->False:=λ{y t x} q=>by
  cases x with
  |D d=>cases d<;>exact q
  |_=>exact q
 cases C with
 |nil=>exact False.elim h
 |@cons x v P B u M=>
  cases M with
  |cons _ _=>exact(E h).elim
  |nil=>
   cases x with
   |D d=>
    cases d with
    |str z=>cases RelA.str u;exact Lk i s n H _ l Q I r ⟨_,rfl,h.1,hq _ _ _ _ Kp.refl hc Cs h.2⟩
    |tuple G=>obtain⟨p,f,rfl,hp,g⟩:=RelA.tup u;refine E6 i s n H _ l Q I r ⟨p,f,rfl,.inr hp.sq,hq _ _ _ _ Kp.refl hc ?_ h⟩;rw[g.length];exact Cs
    |list G=>obtain⟨p,f,rfl,hp,g⟩:=RelA.lst u;refine E6 i s n H _ l Q I r ⟨p,f,rfl,.inl hp.sq,hq _ _ _ _ Kp.refl hc ?_ h⟩;rw[g.length];exact Cs
    |_=>exact False.elim h
   |R a=>
    obtain⟨m,F,h⟩:=Ay h;cases (show _=V.ref _ from u);obtain⟨o,w,A⟩:=hc _ _ F;cases m with
    |lst N=>obtain⟨f,rfl,g⟩:=A;refine E6 i s n H _ l Q I r ⟨_,f,rfl,.inl<|E4.of w,hq _ _ _ _ Kp.refl hc ?_ h⟩;rw[g.length];exact Cs
    |dk J=>obtain⟨f,rfl,g⟩:=A;refine Tq i s n H _ l Q I r ⟨_,f,rfl,w,hq _ _ _ _ Kp.refl hc ?_ h⟩;rw[bF g];exact Cs
    |_=>exact False.elim h
   |_=>exact False.elim h
def Lv:AC:=λh f R=>match h with
 |[.D<|.tuple d]=>R (.D<|.tuple d) f
 |[.C _]=>False
 |[y]=>opt (items f y) λg=>opt (dats g) λd=>R (.D<|.tuple d) f
 |_=>False
def Po{x:AV}{t:oA AV}{f:M}{R:AV->M->Prop}(h:Lv (x::t) f R):t=[]:=by
 cases t with
 |nil=>rfl
 |cons y t=>
  refine False.elim ?_;cases x with
  |D d=>cases d<;>exact h
  |_=>exact h
def Tu{x:AV}{f:M}{R:AV->M->Prop}(i:FS x=false)(h:Lv [x] f R):opt (items f x) λj=>opt (dats j) λg=>R (.D<|.tuple g) f:=by
 cases x with
 |D d=>cases d<;>first|exact h|cases i
 |C g=>cases i
 |_=>exact h
def Wv{x:AV}{i:M}{R:AV->M->Prop}(g:FS x=true)(h:Lv [x] i R):∃f,x=.D (.tuple f)/\R (.D<|.tuple f) i:=by
 cases x with
 |D d=>
  cases d with
  |tuple f=>exact⟨f,rfl,h⟩
  |_=>cases g
 |C f=>exact False.elim h
 |_=>cases g
def Dm:VCall X (.type "tuple") Lv:=by
 intro j s u H L n Q I r d;refine B1 d λas M R B hc h hq=>?_;cases B with
 |nil=>exact False.elim h
 |@cons y v F z i E=>
  have A:=Po h;subst A;cases E;cases ht:FS y with
  |true=>obtain⟨C,rfl,h⟩:=Wv ht h;obtain⟨p,f,rfl,hp,q⟩:=RelA.tup i;exact F7 j s u H _ n Q I r ⟨p,f,rfl,.inr ⟨hp.sq,hq _ _ _ _ Kp.refl hc i h⟩⟩
  |false=>obtain⟨J,G,h⟩:=Ay<|Tu ht h;obtain⟨C,D,h⟩:=Ay h;obtain⟨p,f,rfl,hp,q⟩:=Cm hc i G;rcases hp with⟨_,hp⟩|⟨w,_⟩;exact F7 j s u H _ n Q I r ⟨p,f,rfl,.inl ⟨hp,λl g=>hq _ _ _ _ (Kp.new g _) (hc.over g) (Wm Bi<|An.kp (Kp.new g _) _ _<|q.dats D) h⟩⟩;rw[ht]at w;cases w
def bools:oA AV->oB (oA Bool)
 |[]=>some []
 |.D (.bool b)::r=>match bools r with
  |some d=>some (b::d)
  |none=>none
 |_::_=>none
theorem Ks:∀(d:oA Bool),bools (d.map λb=>.D<|.bool b)=some d
 |[]=>rfl
 |b::d=>by simp only[List.map_cons,bools,Ks d]
theorem Aw.bools{K:lG}{H:Hp}{xs:oA AV}{g:oA V}{f:oA Bool}(h:Aw K H xs g)(e:L2.bools xs=some f):g=f.map V.bl:=by
 induction h generalizing f with
 |nil=>cases e;rfl
 |@cons x v xs g r t i=>
  cases x with
  |D d=>
   cases d with
   |bool b=>
    simp only[L2.bools]at e;cases q:L2.bools xs with
    |none=>rw[q]at e;cases e
    |some j=>rw[q]at e;cases e;cases RelA.bl r;rw[i q];rfl
   |_=>simp[L2.bools]at e
  |_=>simp[L2.bools]at e
def IZ:AC:=λh d R=>match h with
 |[.R a]=>opt (d a) λm=>match m with
  |.lst f=>opt (bools f) λg=>R (.D<|.bool<|g.all id) d
  |_=>False
 |_=>False
def OG(q:X.calm=true):VCall X (.builtin "all") IZ:=by
 intro j s y H A v Q I r d;refine B1 d λas C R g hc h hq=>?_;unfold IZ at h;split at h
 ·cases g with
  |cons z l=>cases l;obtain⟨m,u,h⟩:=Ay h;split at h;obtain⟨f,i,h⟩:=Ay h;obtain⟨o,n,B,rfl,w⟩:=hc _ _ u;cases (show _=V.ref _ from z);exact Wg q j s y H _ v Q I r ⟨_,f,rfl,E4.of<|by rw[n,w.bools i],hq _ _ _ _ Kp.refl hc Eu h⟩;exact h.elim
 exact h.elim
def FX:AC:=λd f R=>match d with
 |[.D<|.int i,.D<|.int j]=>R (.D<|.int<|if j>i then j else i) f
 |_=>False
def Ww(l:X.calm=true):VCall X (.builtin "max") FX:=by
 intro i s q H v n Q I r d;refine B1 d λas w R g hc h hq=>?_;unfold FX at h;split at h
 ·cases g with
  |cons u f=>
   cases f with
   |cons f j=>cases j;cases RelA.int u;cases RelA.int f;exact Th l i s q H _ n Q I r ⟨_,_,rfl,hq _ _ _ _ Kp.refl hc Cs h⟩
 exact h.elim
def Ku(d:M):AV->Prop
 |.R a=>opt (d a) λm=>match m with
  |.lst _=>True
  |_=>False
 |.D (.list _)=>True
 |_=>False
def FY:AV->Prop
 |.D (.str _)=>True
 |_=>False
def Ku.ty{H:Hp}{f:M}{x:AV}{v:V}(hc:Cn X.K f H)(d:RelA X.K H x v)(h:Ku f x):TW X.K "list" v H:=by unfold Ku at h;split at h;obtain⟨m,e,h⟩:=Ay h;split at h;obtain⟨o,g,i,rfl,_⟩:=hc _ _ e;cases (show v=.ref _ from d);exact .inl ⟨rfl,i,E4.of g⟩;exact h.elim;obtain⟨a,j,rfl,q,_⟩:=RelA.lst d;exact .inl ⟨rfl,j,q.sq⟩;exact h.elim
def WO(m:AV->AC)(to:AE):AE:=λg f R=>to g f λx d=>Ku d x/\m x [] d R
def ZY(m:AV->AC)(to:AE)(t:AA):AE:=λg h R=>to g h λx d=>Ku d x/\t g d λi f=>m x i f R
def ZZ(m:AV->AC)(to:AE)(t:AA):AE:=λg h R=>to g h λx f=>FY x/\t g f λi d=>m x i d R
def JA(slot:Slot "list" name gg) (l:typeOf (.builtin gg)=pure (.type "method_descriptor")) (u:VMt X gg m) (q:VE X o to)
  (s:attributeBase o name X.env (eval o X.env)=eval o X.env:=by rfl) (j:(au.endLine==ak.line)=true:=by rfl):VE X (.Call (.Attribute o name au) [] [] ak) (WO m to) :=
 (Ll PySem.F.plainAttrs_list slot l u q s j).imp λB H Q d=>B1 d λw z R y hc h hq=>⟨w,z,_,y,hc,h,λx f v A n g i hx=>⟨hx.1.ty g i,x,[],f,R,i,.nil,g,hx.2,hq.kp n⟩⟩
def Ee(slot:Slot "list" name gg) (u:typeOf (.builtin gg)=pure (.type "method_descriptor")) (E:VMt X gg m) (w:VE X o to) (ha:VA X (e::es) t)
  (y:attributeBase o name X.env (eval o X.env)=eval o X.env:=by rfl) (D:((backTo ak<|starEach (e::es) X.env).all (λx=>!x.1)&&(backToKw ak<|keywordEach [] X.env).all (λx=>x.1.isSome)
   && decide ((e::es).length+([]:oA Keyword).length+(if([]:oA Keyword).isEmpty then 0 else 1)<30))=true:=by rfl) (C:(au.endLine==ak.line)=true:=by rfl) (hs:starEach (e::es) X.env=(false,eval e X.env)::starEach es X.env:=by rfl) (G:(backTo ak<|starEach es X.env).any (·.1)=false:=by rfl) :
  VE X (.Call (.Attribute o name au) (e::es) [] ak) (ZY m to t) :=
 (FO PySem.F.plainAttrs_list slot u E w ha y D C hs G).imp λM H Q d=>B1 d λq A R hs hc h hq=>⟨q,A,_,hs,hc,h,λx g v L l j n hx=>⟨hx.1.ty j n,q,g,_,hs.kp l,j,hx.2,λs f J I i c2 z N B=>
  ⟨x,s,f,R,n.kp i,z,c2,B,hq.kp<|l.trans i⟩⟩⟩
def OH(slot:Slot "str" name gg) (u:typeOf (.builtin gg)=pure (.type "method_descriptor")) (E:VMt X gg m) (w:VE X o to) (ha:VA X (e::es) t)
  (y:attributeBase o name X.env (eval o X.env)=eval o X.env:=by rfl) (D:((backTo ak<|starEach (e::es) X.env).all (λx=>!x.1)&&(backToKw ak<|keywordEach [] X.env).all (λx=>x.1.isSome)
   && decide ((e::es).length+([]:oA Keyword).length+(if([]:oA Keyword).isEmpty then 0 else 1)<30))=true:=by rfl) (C:(au.endLine==ak.line)=true:=by rfl) (hs:starEach (e::es) X.env=(false,eval e X.env)::starEach es X.env:=by rfl) (G:(backTo ak<|starEach es X.env).any (·.1)=false:=by rfl) :
  VE X (.Call (.Attribute o name au) (e::es) [] ak) (ZZ m to t) :=
 (FO PySem.F.plainAttrs_str slot u E w ha y D C hs G).imp λM H Q d=>B1 d λn A R hs hc h hq=>⟨n,A,_,hs,hc,h,λx g v L j s l hx=>⟨by
   obtain⟨hx,_⟩:=hx;unfold FY at hx;split at hx;cases RelA.str l;rfl;exact hx.elim,n,g,_,hs.kp j,s,hx.2,λq f J I i c2 z N B=>
  ⟨x,q,f,R,l.kp i,z,c2,B,hq.kp<|j.trans i⟩⟩⟩
def Lw:AV->AC:=λx g f R=>match x,g with
 |.R a,[y]=>opt (f a) λm=>match m with
  |.lst d=>d.length<sizeLine/\R (.D .none) (Al f a<|.lst<|d++[y])
  |_=>False
 |_,_=>False
def C9:VMt X "list.append" Lw:=by
 intro l s B H x C v w Q I q r d;refine En d λa as D R i z hc h hq=>?_;unfold Lw at h;split at h
 ·rename_i a y;obtain⟨m,A,h⟩:=Ay h;split at h
  ·cases z with
   |cons j n=>cases n;obtain⟨o,f,u,rfl,g⟩:=hc _ _ A;cases (show x=.ref a from i);exact Kl l s B H _ _ v w Q I q r ⟨a,u,_,rfl,rfl,f,by rw[<- g.length];exact h.1,hq _ _ _ _ (Kp.put f trivial _) (hc.put f trivial (C2<|g.append<|.cons j .nil)) Jd h.2⟩
  exact h.elim
 exact h.elim
def Rl:AV->AC:=λx h d R=>match x,h with
 |.R a,[.R b]=>opt (d a) λm=>opt (d b) λn=>match m,n with
  |.lst f,.lst g=>f.length+g.length<=sizeLine/\R (.D .none) (Al d a<|.lst<|f++g)
  |_,_=>False
 |_,_=>False
def Fl:VMt X "list.extend" Rl:=by
 intro w s C H x J v A Q I y r d;refine En d λa as L R q B hc h hq=>?_;unfold Rl at h;split at h
 ·rename_i a b;obtain⟨m,F,h⟩:=Ay h;obtain⟨n,u,h⟩:=Ay h;split at h
  ·cases B with
   |cons D E=>cases E;obtain⟨o,i,z,rfl,j⟩:=hc _ _ F;obtain⟨G,g,l,rfl,f⟩:=hc _ _ u;cases (show x=.ref a from q);cases (show _=V.ref b from D);exact Tk w s C H _ _ v A Q I y r ⟨a,b,z,l,rfl,rfl,i,g,by rw[<- j.length,<- f.length];exact h.1,hq _ _ _ _ (Kp.put i trivial _) (hc.put i trivial (C2<|j.append f)) Jd h.2⟩
  exact h.elim
 exact h.elim
def OI:AV->AC:=λx g f R=>match x,g with
 |.R a,[]=>opt (f a) λm=>match m with
  |.lst d=>opt d[d.length-1]? λy=>R y (Al f a<|.lst d.dropLast)
  |_=>False
 |_,_=>False
def OJ:VMt X "list.pop" OI:=by intro l s D H x E v w Q I n r d;refine En d λa as F R i A hc h hq=>?_;unfold OI at h;split at h;rename_i a;obtain⟨m,B,h⟩:=Ay h;split at h;obtain⟨y,u,h⟩:=Ay h;cases A;obtain⟨o,f,q,rfl,g⟩:=hc _ _ B;cases (show x=.ref a from i);obtain⟨z,j,C⟩:=g.get u;exact IH l s D H _ _ v w Q I n r ⟨a,q,z,rfl,rfl,f,by rw[<- g.length];exact j,hq _ _ _ _ (Kp.put f trivial _) (hc.put f trivial (C2<|g.dropLast)) (C.kp<|Kp.put f trivial _) h⟩;exact h.elim;exact h.elim
end
section
variable {X:Cx}{a b c:lJ}{ta tb tc:AE}{pos:Pos}{x:Str}{p:Pos}{e:lJ}{es:oA lJ}{t:AA}{k:Nat}{ps:oA Str}{sp:ASp}{st:lN}{rest:oA lN}{s1 s2:AS}{tg:lJ}{N':oA Str}{mp:oA<|oB Nat}{cz iter:lJ}{cf:oA lJ}{scope:lQ}{wi:AI}{g:AG}{tst:AT}{te:AE}{P:lH}{w:lI}{K:lG}{mg:Str->oB lC}{base:lL}
abbrev ASp:=oA AV->M->(AV->M->Prop)->Prop
def E8(K:lG)(n:Nat)(sp:ASp):Sp:=λh H Q _=>∃d f R,d.length=n/\Aw K H d h/\Cn K f H/\sp d f R/\LV K H R Q
def VCal(P:lH)(w:lI)(K:lG)(mg:Str->oB lC)(base:lL)(k:Nat)(x:Str)(ps:oA Str)(sp:ASp):Prop:=Cal P w K mg base k x ps<|E8 K ps.length sp
def OK(n:Nat)(sp:ASp)(t:AA):AE:=λi f R=>t i f λh d=>sp h d R
def Am(F:VCal X.prog X.w X.K X.mg X.base k x ps sp)(l:Room k X.A)(m:Gl X x)(ha:VA X (e::es) t)(z:(e::es).length=ps.length:=by rfl)(hdb:(x==("__debug__" : Str))=false:=by decide)
  (y:starEach (e::es) X.env=(false,eval e X.env)::starEach es X.env:=by rfl) (hpl:(backTo pos<|starEach es X.env).any (·.1)=false:=by rfl):VE X (.Call (.Name x p) (e::es) [] pos) (OK ps.length sp t):=by
 obtain⟨g,L,G,j,B,o⟩:=F;refine PE.imp (Q9 (E:=E0) G l m o B j .nil FR ha (hdb:=hdb) (he:=y) (hpl:=hpl)) λJ H Q d=>B1 d λC u R s hc h hq=>?_;exact⟨C,u,_,s,hc,h,λn f D I r q v i hx=>⟨n,f,R,i.trans z,by rw[cL];exact v,q,hx,hq.kp r⟩⟩
def OL:AS:=λk _ _ _ f d=>k f d
def Tv(t u:AS):AS:=λk r b c d f=>t (u k r b c) r b c d f
def B4:VSs X [] OL:=AW.imp λD o H d=>F4 d λl m i nr n j f hc h hq=>hq.nx _ _ _ _ Kp.refl f hc h
def Af(h1:VS X st s1)(h2:VSs X rest s2):VSs X (st::rest) (Tv s1 s2):=(Mu h1 h2).imp λD A H d=>F4 d λq s j nr v l r hc h hq=>
 ⟨q,s,_,_,_,_,r,hc,h,⟨λi f o z n u m y=>⟨i,f,j,nr,v,l,u,m,y,hq.kp n⟩,hq.rt,hq.bk,hq.ct⟩⟩
def Aj(h1:VS X st s1):VSs X [st] s1:=Q7 h1
def OM(te:AE):AS:=λk _ _ _ f h=>te f h λ_ d=>k f d
def B5(he:VE X a ta)(hs:swapsWith a none pos.line X.env=pure false:=by rfl):VS X (.Expr a pos) (OM ta):=(AY he hs).imp λD u H d=>F4 d λl m n nr s o hs hc h hq=>
 ⟨l,m,_,hs,hc,h,λx i v r f j q hx=>hq.nx _ _ _ _ f (hs.kp f) j hx⟩
def WP(te:AE):AS:=λ_ r _ _ f d=>te f d r
def A8(he:VE X a ta):VS X (.Return (some a) pos) (WP ta):=(HI he).imp λD o H d=>F4 d λf j l nr n m i hc h hq=>⟨f,j,_,i,hc,h,hq.rt⟩
def WQ(ct:AT)(t u:AS):AS:=λk r b c f h=>ct f h λx d=>brP x (t k r b c f d)<|u k r b c f d
def Dq{c:lJ}{a b:oA lN}{tc:AT}(hc:VT X c tc)(ha:VSs X a s1)(hb:VSs X b s2):VS X (.If c a b pos) (WQ tc s1 s2):=(MX hc ha hb).imp λD v H d=>F4 d λl s n nr r o m hc h hq=>
 ⟨l,s,_,m,hc,h,λk f u i q hk=>by
  rcases br_e hk with⟨rfl,j⟩|⟨rfl,j⟩;exact⟨l,f,n,nr,r,o,m.kp i,q,j,hq.kp i⟩;exact⟨l,f,n,nr,r,o,m.kp i,q,j,hq.kp i⟩⟩
def JB:AS:=λ_ _ _ _ _ _=>False
def Wx:VS X st JB:=Vp.imp λD o H d=>F4 d λj m f nr n i l hc h hq=>h.elim
def D3(i:Nat):AG:=λv f d R=>R (f.set i<|some v) d
def Ak{i:Nat}{x:Str}(m:X.N.Nodup)(hi:X.N[i]?=some x)(hx:Loc X.env.scope x)(j:X.fn x=true\/X.env.scope.names.lookup x=some .local:=by first|exact .inl rfl|exact .inr rfl|assumption):VG X (.Name x pos) (D3 i) :=
 (AZ m hi hx j).imp λv q H Q d=>En d λx n o R f l hc h hq=>hq _ _ _ _ Kp.refl (l.set f i) hc h
def Nc:AGs:=λh f d R=>match h with
 |[]=>R f d
 |_::_=>False
def Fe(t:AG)(u:AGs):AGs:=λh i j R=>match h with
 |[]=>False
 |v::r=>t v i j λd f=>u r d f R
def B8:VGs X [] Nc:=BA.imp λj o H Q d=>En d λn l m R f i hc h hq=>by
 cases f with
 |nil=>exact⟨rfl,hq _ _ _ _ Kp.refl i hc h⟩
 |cons=>exact h.elim
def Au{e:lJ}{es:oA lJ}{t:AG}{u:AGs}(h1:VG X e t)(h2:VGs X es u)
  (hs:(assignEach (e::es) X.env).map (·.2)=assign e X.env::(assignEach es X.env).map (·.2):=by rfl):VGs X (e::es) (Fe t u):=(Vr h1 h2 hs).imp λB C H Q d=>En d λz q r R n hs hc h hq=>by
 cases n with
 |nil=>exact h.elim
 |cons y m=>exact⟨_,_,rfl,_,q,r,_,y,hs,hc,h,λi f o A j s l v=>⟨_,i,f,R,Aw.kp j m,s,l,v,hq.kp j⟩⟩
def ON(n:Nat)(t:AGs):AG:=λv f h R=>match v with
 |.D (.tuple d)=>d.length=n/\t (d.map .D) f h R
 |_=>False
def D4{es:oA lJ}{k:Nat}{t:AGs}{n:Nat}(j:X.calm=true)(h:VGs X es t)
  (hn:(assignEach es X.env).length=n:=by rfl) (f:(assignEach es X.env).findIdx? (·.1)=none:=by rfl):VG X (.Tuple es k pos) (ON n t):=(Vs j h hn f).imp λv u H Q d=>En d λx m s R i o hc h hq=>by
 unfold ON at h;split at h;obtain⟨a,l,rfl,q,r⟩:=RelA.tup i;exact⟨a,l,rfl,q.sq,by rw[r.length];exact h.1,_,m,s,R,r.rel,o,hc,h.2,hq⟩;exact h.elim
def Qaa(o i v:AV)(d:M)(R:M->Prop):Prop:=match o,i with
 |.R a,.D (.int k)=>opt (d a) λm=>match m with
  |.lst f=>opt (BL f.length k) λj=>R (Al d a<|.lst<|f.set j v)
  |_=>False
 |_,_=>False
def Tw(te:AE)(g:AG):AS:=λk _ _ _ f h=>te f h λx d=>g x f d k
def Wy{K:lG}{te:AE}{g:AG}{D:Ends}{l:St}{H:Hp}(h:cS K (Tw te g) D l H):BB (cE K te) (cG K g) D l H:=by obtain⟨i,o,q,nr,s,r,j,hc,h,hq⟩:=h;exact⟨i,o,_,j,hc,h,λx d v u f m n hx=>⟨x,i,d,_,n,j.kp f,m,hx,hq.nx.kp f⟩⟩
def JC{tg:lJ}{g:AG}(he:VE X a ta)(f:VG X tg g)(hs:swapsWithSole [tg] a pos.line X.env=pure false:=by rfl)(d:swappedStores [tg] a X.env=pure none:=by rfl)
  (h1:(assignEach [tg] X.env).map (·.2)=[assign tg X.env]:=by rfl):VS X (.Assign [tg] a pos) (Tw ta g):=(HK he f hs d h1).imp λ_ _ _ h=>Wy h
def Ap{i:Nat}{x:Str}{f:Pos}(m:X.N.Nodup)(hi:X.N[i]?=some x)(hx:Loc X.env.scope x)(he:VE X a ta)(hs:swapsWith a (some<|.Name x f) pos.line X.env=pure false:=by rfl)(r:X.fn x=true\/X.env.scope.names.lookup x=some .local:=by first|exact .inl rfl|exact .inr rfl|assumption) :
  VS X (.Assign [.Name x f] a pos) (Tw ta<|D3 i):=(HL m hi hx he hs r).imp λD B H d=>F4 d λq s u nr z y hs hc h hq=>
 ⟨q,s,_,hs,hc,h,λx l v A j n o hx=>hq.nx _ _ _ _ j ((hs.kp j).set o i) n hx⟩
def Qab(i j:Nat)(t:AA):AS:=λk _ _ _ f h=>t f h λl d=>match l with
 |[v,w]=>k ((f.set i<|some v).set j<|some w) d
 |_=>False
def OO(i j l:Nat)(t:AA):AS:=λk _ _ _ f h=>t f h λm d=>match m with
 |[u,v,w]=>k (((f.set i<|some u).set j<|some v).set l<|some w) d
 |_=>False
def CJ{i j l:Nat}{x y z:Str}{t:AA}{r m q n:Pos}{kt k2 pt2}(hc:X.calm=true)(I:X.N.Nodup)(hi:X.N[i]?=some x)(hj:X.N[j]?=some y)(u:X.N[l]?=some z)(B:i≠j)(C:i≠l)(M:j≠l)
  (hx:X.env.scope.names.lookup x=some .local) (hy:X.env.scope.names.lookup y=some .local) (hz:X.env.scope.names.lookup z=some .local) (ha:VA X [a,b,c] t) (A:swappedStores [.Tuple [.Name x r,.Name y m,.Name z q] kt n] (.Tuple [a,b,c] k2 pt2) X.env=pure (some [x,y,z]))
  (hs:swapsWithSole [.Tuple [.Name x r,.Name y m,.Name z q] kt n] (.Tuple [a,b,c] k2 pt2) pos.line X.env=pure false:=by rfl) :
  VS X (.Assign [.Tuple [.Name x r,.Name y m,.Name z q] kt n] (.Tuple [a,b,c] k2 pt2) pos) (OO i j l t):=(BZ hc I hi hj u B C M hx hy hz ha A hs).imp λD U H d=>F4 d λL G V nr W Q hs hc h hq=>
 ⟨L,G,_,hs,hc,h,λR v S T s E F u hx=>by
  split at hx
  ·cases F with
   |cons O o=>
    cases o with
    |cons o f=>
     cases f with
     |cons f J=>cases J;exact⟨_,_,_,rfl,hq.nx _ _ _ _ s ((((hs.kp s).set O i).set o j).set f l) E hx⟩
  exact hx.elim⟩
def wl(c:AT)(tb:AS)(k:ASt->M->Prop)(r:AV->M->Prop):Nat->ASt->M->Prop
 | 0=>λ_ _=>False
 |n+1=>λf h=>c f h λx d=>brP x (tb (wl c tb k r n) r k (wl c tb k r n) f d)<|k f d
def JD(c:AT)(tb:AS):AS:=λk r _ _ f d=>∃n,wl c tb k r n f d
def Nd{c:lJ}{o:oA lN}{tc:AT}{tb:AS}(hp:PassesOwn (model X.prog X.w) X.A X.env X.xe)(hc:VT X c tc)(hb:VSs X o tb):VS X (.While c o [] pos) (JD tc tb):=(Vt hp hc hb).imp λD V H M=>F4 M λR O L nr W T N hc Q hq=>by
 obtain⟨n,h⟩:=Q;refine⟨λm s v=>∃ i l,Kp H v/\Dv X.K v i s/\Cn X.K l v/\wl tc tb L nr m i l,⟨n,R,O,Kp.refl,N,hc,h⟩,?_⟩;rintro m s v ⟨i,l,J,I,z,h1⟩;cases m with
 |zero=>exact h1.elim
 |succ m=>refine⟨i,l,_,I,z,h1,λk F U u c2 hk=>?_⟩;rcases br_e hk with⟨rfl,E⟩|⟨rfl,E⟩;rw[T_ rfl];refine⟨λj r=>∃ f d,Kp H r/\Dv X.K r f j/\Cn X.K d r/\wl tc tb L nr m f d,by rintro j r ⟨f,d,q⟩;exact ⟨m,dO _,f,d,q⟩,i,F,_,_,_,_,I.kp u,c2,E,?_⟩;have S:=J.trans u;exact⟨λf d j r G B y C=>⟨f,d,S.trans G,B,y,C⟩,hq.rt.kp S,hq.nx.kp S,λf d j r G B y C=>⟨f,d,S.trans G,B,y,C⟩⟩;rw[M_ S_];exact hq.nx _ _ _ _ (J.trans u) (I.kp u) c2 E
structure ItOk(K:lG)(H0:Hp)(J:It)(xs:oA AV)(kp:M->Prop):Prop where
 go:∀i H μ,Kp H0 H->Cn K μ H->kp μ->i<xs.length->J.go i H
 yld:∀i H μ v H' x,Kp H0 H->Cn K μ H->kp μ->xs[i]?=some x->J.yld i H v H'->Kp H H'/\Cn K μ H'/\RelA K H' x v
 stop:∀H μ,Kp H0 H->Cn K μ H->kp μ->J.stop xs.length H
abbrev AI:=ASt->M->(oA AV->(M->Prop)->M->Prop)->Prop
def cI(K:lG)(wi:AI):TI:=λn H R=>∃ j l i,Dv K H j n/\Cn K l H/\wi j l i/\∀m h d J f,Kp H f->Cn K d f->ItOk K f J m h->i m h d->R J f
def VI(X:Cx)(tg iter:lJ)(wi:AI):Prop:=PI X tg iter<|cI X.K wi
def PI.imp{tg e:lJ}{t u:TI}(h:PI X tg e t)(i:∀ d H Q,u d H Q->t d H Q):PI X tg e u:=λf s d H Q I q=>h f s d H Q I<|i d H Q q
def Tx{K:lG}{m:Hp}{a:lF}{xs:oA AV}{l:M->Prop}(h:∀H f,Kp m H->Cn K f H->l f->∃d,E4 K H a d/\Aw K H xs d):ItOk K m (Itl K a) xs l:=by refine⟨λi H f S c k hi=>?_,λi H f v o x S c k e y=>?_,λH f S c k=>?_⟩;obtain⟨d,q,r⟩:=h H f S c k;exact⟨d,d[i]'(by rw[<- r.length];exact hi),q,J_ _⟩;obtain⟨d,q,r⟩:=h H f S c k;obtain⟨rfl,y⟩:=y;obtain⟨u,j,n⟩:=r.get e;rw[y d q]at j;cases j;exact⟨Kp.refl,c,n⟩;obtain⟨d,q,r⟩:=h H f S c k;exact⟨d,q,by rw[r.length];exact F_ _⟩
def Wz{K:lG}{m:Hp}{a:lF}{xs:oA AV}{l:M->Prop}(h:∀H f,Kp m H->Cn K f H->l f->∃d,Il K H a d/\Aw K H xs d):ItOk K m (Itt K a) xs l:=by refine⟨λi H f S c k hi=>?_,λi H f v o x S c k e y=>?_,λH f S c k=>?_⟩;obtain⟨d,q,r⟩:=h H f S c k;exact⟨d,d[i]'(by rw[<- r.length];exact hi),q,J_ _⟩;obtain⟨d,q,r⟩:=h H f S c k;obtain⟨rfl,y⟩:=y;obtain⟨u,j,n⟩:=r.get e;rw[y d q]at j;cases j;exact⟨Kp.refl,c,n⟩;obtain⟨d,q,r⟩:=h H f S c k;exact⟨d,q,by rw[r.length];exact F_ _⟩
def Ej(lo:Int):Nat->oA AV
 | 0=>[]
 |n+1=>.D (.int lo)::Ej (lo+1) n
theorem Bq:∀(n:Nat) (lo:Int),(Ej lo n).length=n
 | 0,_=>rfl
 |n+1,lo=>by rw[Ej,aZ,Bq n]
theorem Gz:∀(n:Nat) (lo:Int) (i:Nat) {x:AV},(Ej lo n)[i]?=some x->x=.D (.int<|lo+i)
 | 0,_,_,_,h=>by simp[Ej]at h
 |n+1,lo,0,_,h=>by simp[Ej]at h;rw[<- h];simp
 |n+1,lo,i+1,_,h=>by rw[Ej,List.getElem?_cons_succ]at h;rw[Gz n (lo+1) i h];congr 2;omega
def W0{K:lG}{f:Hp}{lo:Int}{n:Nat}:ItOk K f (Itr lo n) (Ej lo n) (λ_=>True):=by refine⟨λi H d S c k hi=>?_,λi H d v h x S c k e y=>?_,λH d S c k=>?_⟩;show i<n;rw[Bq]at hi;exact hi;obtain⟨rfl,rfl⟩:=y;rw[Gz n lo i e];exact⟨Kp.refl,c,Cs⟩;show n<=_;rw[Bq];exact F_ _
def OP(t:AA):AI:=λf h R=>t f h λi d=>match i with
 |[.D<|.int j]=>-(2^62)<=j/\j<2^62/\R (Ej 0 j.toNat) (λ_=>True) d
 |_=>False
def Cd{t:AA}{p:Pos}(i:Gl X "range") (n:X.mg "range" = none) (ha:VA X [a] t) (hs:starEach [a] X.env=[(false,eval a X.env)]:=by rfl):VI X tg (.Call (.Name "range" p) [a] [] pos) (OP t) :=
 (Te i n ha hs).imp λA H Q d=>B1 d λo r R hs hc h hq=>⟨o,r,_,hs,hc,h,λu f y z m j q v hx=>by
  split at hx
  ·cases q with
   |cons s l=>cases l;cases RelA.int s;exact⟨_,rfl,hx.1,hx.2.1,hq _ _ _ _ _ m j W0 hx.2.2⟩
  exact hx.elim⟩
def fl(g:AG)(tb:AS)(k:ASt->M->Prop)(r:AV->M->Prop)(f:M->Prop):oA AV->ASt->M->Prop
 |[]=>λj d=>f d/\k j d
 |x::l=>λj d=>f d/\g x j d λh i=>tb (fl g tb k r f l) r k (fl g tb k r f l) h i
def WR(wi:AI)(g:AG)(tb:AS):AS:=λk r _ _ f i=>wi f i λj h d=>fl g tb k r h j f d
def OQ{g:AG}{tb:AS}{k:ASt->M->Prop}{r:AV->M->Prop}{d:M->Prop}{xs:oA AV}{τ:ASt}{f:M}(h:fl g tb k r d xs τ f):d f:=by
 cases xs with
 |nil=>exact h.1
 |cons x xs=>exact h.1
def B3{iter:lJ}{n:oA lN}{wi:AI}{g:AG}{tb:AS}(hp:PassesOwn (model X.prog X.w) X.A X.env X.xe)(dg:X.calm=true)(hi:VI X tg iter wi)(W:VG X tg g)(hb:VSs X n tb)(yc:∀x,foldedSetIterable iter X.env x=pure x:=by intro _;rfl) :
  VS X (.For tg iter n [] pos) (WR wi g tb):=(Vv hp dg hi W hb yc).imp λD σ H s=>F4 s λV μ nk nr nb nc T hc h hq=>by
 refine⟨V,μ,_,T,hc,h,λQ kp I J U u Z N h0=>?_⟩;refine Wh Q.length (λi m l=>∃ j d,Kp U l/\Dv X.K l j m/\Cn X.K d l/\fl g tb nk nr kp (Q.drop i) j d) ⟨V,I,Kp.refl,T.kp u,Z,h0⟩ ?_ ?_ ?_;rintro i m l hi ⟨j,d,o,z,f,h1⟩;exact N.go i l d o f (OQ h1) hi;rintro m l ⟨j,d,o,z,f,h1⟩;rw[d_]at h1;exact⟨N.stop l d o f h1.1,hq.nx _ _ _ _ (u.trans o) z f h1.2⟩;rintro i v m l H2 hi ⟨j,d,o,z,f,h1⟩ y;rw[bL hi]at h1;obtain⟨hk,h1⟩:=h1;obtain⟨R,c2,rx⟩:=N.yld i l d v H2 _ o f hk (J_ hi) y;refine⟨_,j,d,_,rx,z.kp R,c2,h1,λE B σ3 H3 Y dz M h3=>⟨E,B,_,_,_,_,dz,M,h3,?_⟩⟩;have S:Kp U H3:=o.trans<|R.trans Y;exact⟨λr q O H' L F C G=>⟨r,q,S.trans L,F,C,G⟩,hq.rt.kp<|u.trans S,hq.nx.kp<|u.trans S,λr q O H' L F C G=>⟨r,q,S.trans L,F,C,G⟩⟩
def VIfs(X:Cx)(cf:oA lJ)(t:AT):Prop:=PIfs X cf<|cT X.K t
def JE:AT:=λ_ d R=>R true d
def Br:VIfs X [] JE:=λf s i H Q I d=>B1 d λj m R l hc h hq=>Wb f s i H Q I<|hq _ _ _ Kp.refl hc h
def Dr{t:AT}(h:VT X a t):VIfs X [a] t:=Wc h
def cl(p:lF)(g:AG)(tst:AT)(te:AE)(l:M->Prop)(R:M->Prop):oA AV->oA AV->ASt->M->Prop
 |[]=>λ_ _ j=>l j/\R j
 |x::n=>λd o j=>l j/\g x o j λf m=>tst f m λk h=>
  brP k (te f h λv i=>i p=some (.lst d)/\d.length<sizeLine/\cl p g tst te l R n (d++[v]) f (Al i p<|.lst<|d++[v])) (cl p g tst te l R n d f h)
def Nf(mp:oA<|oB Nat)(wi:AI)(g:AG)(tst:AT)(te:AE):AE:=λh j R=>wi h j λl i d=>∀p,d p=none->cl p g tst te i (λf=>R (.R p) f) l [] (IU mp h) (Al d p<|.lst [])
def OR{p:lF}{g:AG}{tst:AT}{te:AE}{d:M->Prop}{R:M->Prop}{xs acc:oA AV}{τ:ASt}{f:M}(h:cl p g tst te d R xs acc τ f):d f:=by
 cases xs with
 |nil=>exact h.1
 |cons x xs=>exact h.1
def Kv{K:lG}{mp:oA<|oB Nat}{wi:AI}{g:AG}{tst:AT}{te:AE}{σ:St}{H:Hp}{Q:VK}(h:cE K (Nf mp wi g tst te) σ H Q):We mp (cI K wi) (cG K g) (cT K tst) (cE K te) σ H Q:=by obtain⟨τ,μ,R,Z,hc,h,hq⟩:=h;refine⟨τ,μ,_,Z,hc,h,λW kp F J D S0 Y G h0=>?_⟩;intro p hp;have h0:=h0 p<|Y.none hp;have v9:Cn K (Al F p<|.lst []) (upd D p<|.lst []):=Y.new hp<|C2<|.nil;have z:Kp D (upd D p<|.lst []):=Kp.new hp _;refine Rf W.length (λi m q l=>∃ j d as,Kp D l/\Dv K l j q/\Cn K d l/\Aw K l as m/\cl p g tst te kp (λO=>R (.R p) O) (W.drop i) as j d) ⟨_,_,[],z,((Z.kp S0).kp z).sub mp,v9,.nil,h0⟩ ?_ ?_ ?_;rintro i m q l hi ⟨j,d,as,r,V,f,I,h1⟩;exact G.go i l d r f (OR h1) hi;rintro m q l ⟨j,d,as,r,V,f,I,h1⟩;rw[d_]at h1;exact⟨G.stop l d r f h1.1,hq _ _ _ _ (S0.trans r) f Du h1.2⟩;rintro i v m q l H2 hi ⟨j,d,as,r,V,f,I,h1⟩ y;rw[bL hi]at h1;obtain⟨hk,h1⟩:=h1;obtain⟨M,c2,rx⟩:=G.yld i l d v H2 _ r f hk (J_ hi) y;refine⟨_,j,d,_,rx,V.kp M,c2,h1,λn L σ3 H3 S3 C T h3=>⟨n,L,_,C,T,h3,λk A H4 s c4 h4=>?_⟩⟩;rcases br_e h4 with⟨rfl,U⟩|⟨rfl,U⟩;rw[T_ rfl];refine⟨n,A,_,C.kp s,c4,U,λw μ5 u H5 S5 c5 rw N=>?_⟩;obtain⟨e5,hl,N⟩:=N;obtain⟨o,B,vs,rfl,E⟩:=c5 _ _ e5;have S:Kp l H5:=M.trans<|S3.trans<|s.trans S5;exact⟨vs,B,by rw[<- E.length];exact hl,n,_,_,(r.trans S).trans<|Kp.put B trivial _,(C.kp<|s.trans S5).kp<|Kp.put B trivial _,c5.put B trivial (C2<|E.append<|.cons rw .nil),(E.append<|.cons rw .nil).kp<|Kp.put B trivial _,N⟩;rw[M_ S_];have S:Kp l H4:=M.trans<|S3.trans s;exact⟨n,A,as,r.trans S,C.kp s,c4,I.kp S,U⟩
def WS(R:AV->M->Prop):ASt->M->Prop:=λ_ d=>∃ f,Sub f d/\R (.D .none) f
def WT(R:AV->M->Prop):AV->M->Prop:=λv d=>∃ f,Sub f d/\R v f
def MJ:ASt->M->Prop:=λ_ _=>False
def Fun.vok{x d:Str}{st:lN}{f:lF}{C:lO}{N ps:oA Str}{k:Nat}{sp:ASp}(F:Fun K x d st f C)(S:FnScope N ps<|Ah st) (T:∀(o:lC) (A:lK) (outer:oA Env) (s:lD) (H:Hp) (E:XK),Room k (A.deeper<|envOfC d (Ah st) s.heap.objs.size f o) ->
   ∃t,VSs (Lg Dx P w K mg base N d (Ah st) f o A outer s H E).nox (Cj st) t/\∀i l R,i.length=ps.length->sp i l R->t (WS R) (WT R) MJ MJ (Fi N i) l):FnOk P w K mg base Dx (k+1) f C ps (E8 K ps.length sp):=by
 refine F.ok S (λL H Q E h=>?_) λo A outer s H L Q E G h=>?_;obtain⟨i,l,R,B,q,_⟩:=h;rw[<- q.length];exact B;obtain⟨i,l,R,B,q,hc,M,hq⟩:=h;obtain⟨t,O,h⟩:=T o A outer s H E G;refine⟨_,O,Fi N i,l,_,_,_,_,Dv.begin q,hc,h i l R B M,⟨λV z U I y _ c n=>S9 n λJ j r=>?_,λv z u I y c D m=>S9 m λJ j r=>?_,λ_ _ _ _ _ _ _ h=>h.elim,λ_ _ _ _ _ _ _ h=>h.elim⟩⟩;exact hq _ _ _ _ y (c.sub j) Jd r;exact hq _ _ _ _ y (c.sub j) D r
def JF(t:AE):AI:=λi f R=>t i f λx d=>opt (items d x) λh=>R h (λf=>items f x=some h) d
def Bd(M:VE X a ta):VI X tg a (JF ta):=by
 intro F s J H R I y;refine B1 y λO u N G hc h hq=>?_;refine thn (M F s J H (λv j=>∃x d l,Kp H j/\Cn X.K d j/\RelA X.K j x v/\items d x=some l/\N l (λu=>items u x=some l) d) I ⟨O,u,_,G,hc,h,λx d v j z m n hx=>?_⟩) λv s1 L=>?_;obtain⟨l,e,hx⟩:=Ay hx;exact⟨x,d,l,z,m,n,e,hx⟩;obtain⟨T,j,f,Q,x,d,l,z,m,n,e,hx⟩:=L;obtain⟨p,U,rfl,hp,V⟩:=Cm m n e;cases Q;rcases hp with⟨k,hp⟩|⟨k,hp⟩;obtain⟨D,E,C,hz⟩:=f.list hp;refine gL C.isList ?_;refine⟨s1.heap.objs.size,[s1.heap.objs.size],_,_,j,rfl,f.kept (t':=s1.toks) λb o e=>DD _ e,Td p _,⟨_,I_ _ rfl,rfl,rfl⟩,λb hb=>?_,hq _ _ _ _ _ z m (Tx λH u S c B=>?_) hx⟩;have e:b=s1.heap.objs.size:=by simpa using hb
 subst e;exact f.fpOk (F_ _)<|f.hok.fresh<|F_ _;obtain⟨q,A,e,i,rw⟩:=Cm c (n.kp S) B;cases e;rcases i with⟨_,i⟩|⟨r,_⟩;exact⟨A,i,rw⟩;rw[k]at r;cases r;obtain⟨D,E,C,hz⟩:=f.tuple hp;refine wpAny_pyIter_tuple (show s1.heap.IsTuple p D.toArray from C) ?_;refine⟨s1.heap.objs.size,[s1.heap.objs.size],_,_,j,rfl,f.kept (t':=s1.toks) λb o e=>DD _ e,O9 p _,⟨_,I_ _ rfl,rfl,rfl⟩,λb hb=>?_,hq _ _ _ _ _ z m (Wz λH u S c B=>?_) hx⟩;have e:b=s1.heap.objs.size:=by simpa using hb
 subst e;exact f.fpOk (F_ _)<|f.hok.fresh<|F_ _;obtain⟨q,A,e,i,rw⟩:=Cm c (n.kp S) B;cases e;rcases i with⟨r,_⟩|⟨_,i⟩;rw[k]at r;cases r;exact⟨A,i,rw⟩
end
section
variable {c:AT}{g:AG}{tb:AS}{k:ASt->M->Prop}{r:AV->M->Prop}{bb cc:ASt->M->Prop}{tst:AT}{te:AE}{X:Cx}{K:lG}{H:Hp}{o i e value:lJ}{pos cu:Pos}{td ty tv tx:AE}
def Rm{τ:ASt}{a:M}(I:Nat->ASt->M->Prop)(m:Nat)(h0:I m τ a)
  (step:∀m τ a (W:ASt->M->Prop),I m τ a->(∀j d b,j<m->I j d b->W d b)->c τ a λx f=>brP x (tb W r k W τ f)<|k τ f):∃n,wl c tb k r n τ a:=by
 have l:∀n m τ a,m<n->I m τ a->wl c tb k r n τ a:=by
  intro n
  induction n with
  |zero=>intro m τ a h _;omega
  |succ n s=>intro m τ a h p;exact step m τ a (wl c tb k r n) p λj d b t q=>s j d b (by omega) q
 exact⟨m+1,l (m+1) m τ a (dO _) h0⟩
def Ax{t u:AS}{τ:ASt}{d:M}(J:ASt->M->Prop)(h1:∀W:ASt->M->Prop,(∀ a b,J a b->W a b)->t W r bb cc τ d)(h2:∀ a b,J a b->u k r bb cc a b):Tv t u k r bb cc τ d:=h1 (u k r bb cc) h2
def Ck{t u:AS}{τ:ASt}{a:M}(h:t (u k r bb cc) r bb cc τ a):Tv t u k r bb cc τ a:=h
def Cp{p:M->Prop}{xs:oA AV}{τ:ASt}{a:M}(I:Nat->ASt->M->Prop)(h0:I 0 τ a)(hk:∀i τ a,I i τ a->p a)
  (step:∀i x τ a (W:ASt->M->Prop),xs[i]?=some x->I i τ a->(∀ d b,I (i+1) d b->W d b)->g x τ a λm j=>tb W r k W m j)
  (done:∀ τ a,I xs.length τ a->k τ a):fl g tb k r p xs τ a:=by
 have l:∀n i τ a,n+i=xs.length->I i τ a->fl g tb k r p (xs.drop i) τ a:=by
  intro n
  induction n with
  |zero=>
   intro i τ a h f;have e:i=xs.length:=by omega
   subst e;rw[d_];exact⟨hk _ _ _ f,done τ a f⟩
  |succ n s=>
   intro i τ a h f;have hi:i<xs.length:=by omega
   rw[bL hi];exact⟨hk _ _ _ f,step i _ τ a _ (J_ hi) f λd b q=>s (i+1) d b (by omega) q⟩
 exact l xs.length 0 τ a rfl h0
def E9{p:lF}{u:M->Prop}{R:M->Prop}{xs:oA AV}{τ:ASt}{b:M}(I:Nat->oA AV->ASt->M->Prop)(h0:I 0 [] τ b)(hk:∀i a τ b,I i a τ b->u b)
  (step:∀i x a τ b (W:oA AV->ASt->M->Prop),xs[i]?=some x->I i a τ b->(∀l f d,I (i+1) l f d->W l f d)->g x τ b λj y=>tst j y λk m=>
   brP k (te j m λv s=>s p=some (.lst a)/\a.length<sizeLine/\W (a++[v]) j (Al s p<|.lst<|a++[v])) (W a j m))
  (done:∀a τ b,I xs.length a τ b->R b):cl p g tst te u R xs [] τ b:=by
 have w:∀n i a τ b,n+i=xs.length->I i a τ b->cl p g tst te u R (xs.drop i) a τ b:=by
  intro n
  induction n with
  |zero=>
   intro i a τ b h t;have e:i=xs.length:=by omega
   subst e;rw[d_];exact⟨hk _ _ _ _ t,done a τ b t⟩
  |succ n z=>
   intro i a τ b h t;have hi:i<xs.length:=by omega
   rw[bL hi];exact⟨hk _ _ _ _ t,step i _ a τ b (λl f d=>cl p g tst te u R (xs.drop<|i+1) l f d) (J_ hi) t λl f d q=>z (i+1) l f d (by omega) q⟩
 exact w xs.length 0 [] τ b rfl h0
def W5{z:Str}(h:PyData.canLay0 (.str z)=true):B9 (.str z):=⟨h,by simp[PyData.depth]⟩
def Bw(i:Int):B9 (.int i):=⟨rfl,by simp[PyData.depth]⟩
def F1(i:Bool):B9 (.bool i):=⟨rfl,by simp[PyData.depth]⟩
def Rn(i j:Int):PyData.eqv (.int i) (.int j)=decide (i=j):=by rw[PyData.eqv];exact gG.mpr<|by simp
def ieq{i j:Int}{T F:Prop}(h1:i=j->T)(h2:i≠j->F):B9 (.int i)/\B9 (.int j)/\brP (PyData.eqv (.int i)<|.int j) T F:=by refine⟨Bw _,Bw _,?_⟩;rw[Rn];exact dif h1 h2
def Ao{a:M}{p:lF}{xs:oA AV}(h:a p=some (.lst xs)):items a (.R p)=some xs:=by show(match a p with|some (.lst xs)=>some xs|_=>none)=_;rw[h]
def Cl{a:Type} [DecidableEq a](kvs:oA<|a×AV)(k:a):oB AV:=(kvs.find? λb=>decide (b.1=k)).map (·.2)
def Ek{b:Type} [DecidableEq b](kvs:oA<|b×AV)(k:b)(v:AV):oA (b×AV) :=
 if(kvs.any λa=>decide (a.1=k))=true then kvs.map λa=>if a.1=k then(a.1,v) else a else kvs++[(k,v)]
def Jg:oA lE->oB (oA Key)
 |[]=>some []
 |d::b=>match M9 d,Jg b with
  |some k,some a=>some (k::a)
  |_,_=>none
def Ng(ds:oA lE):oB (oA Key):=match Lit ds with
 |true=>none
 |false=>Jg ds
def Lx{ds:oA lE}{ks:oA Key}(h:Ng ds=some ks):Lit ds=false/\Jg ds=some ks:=by
 unfold Ng at h;cases c:Lit ds with
 |true=>rw[c]at h;cases h
 |false=>rw[c]at h;exact⟨rfl,h⟩
def Ts.heap{K:lG}{H:Hp}{a:lF}{ds:oA lE}{xs:oA V}(h:Ts K H a ds xs)(b:Lit ds=false):H a=some (.tup xs):=by rcases h with h|h;exact h;rw[b]at h;cases h.1
def dget(m:MO)(d:lE):oB (oB AV):=match m with
 |.dk a=>(M9 d).map (Cl a)
 |.dt a=>match d with
  |.tuple b=>(Ng b).map (Cl a)
  |_=>none
 |.lst _=>none
 |.dd _=>none
def dput(m:MO)(d:lE)(v:AV):oB MO:=match m with
 |.dk a=>(M9 d).map λk=>.dk (Ek a k v)
 |.dt a=>match d with
  |.tuple b=>(Ng b).map λk=>.dt (Ek a k v)
  |_=>none
 |.lst _=>none
 |.dd _=>none
def dsize:MO->Nat
 |.dk a=>a.length
 |.dt a=>a.length
 |.lst b=>b.length
 |.dd a=>a.length
def Ro(K:lG)(H:Hp):oB AV->oB V->Prop
 |some x,some v=>RelA K H x v
 |none,none=>True
 |_,_=>False
def Ev.val{a:Type} [DecidableEq a]{kvs:oA<|a×AV}{f:oA<|a×V}(h:Ev K H kvs f)(k:a):Ro K H (Cl kvs k) (Ei f k):=by
 unfold Ev at h
 induction h with
 |nil=>exact trivial
 |@cons p q d b r t j=>obtain⟨l,s⟩:=p;obtain⟨m,n⟩:=q;obtain⟨e,r⟩:=r;dsimp only at e;subst e;unfold Cl Ei at j ⊢;by_cases hk:l=k;simp only[List.find?_cons,decide_eq_true hk];exact r;simp only[List.find?_cons,decide_eq_false hk];exact j
def Ev.put{l:Type} [DecidableEq l]{kvs:oA<|l×AV}{j:oA<|l×V}(h:Ev K H kvs j)(k:l){x:AV}{v:V}(r:RelA K H x v):Ev K H (Ek kvs k x) (putK j k v):=by
 have m:(kvs.any λa=>decide (a.1=k))=(j.any λa=>decide (a.1=k)):=by
  unfold Ev at h
  induction h with
  |nil=>rfl
  |@cons p q d b f t n=>rw[eO,eO,n,f.1]
 have s:Ev K H (kvs.map λa=>if a.1=k then(a.1,x) else a) (j.map λa=>if a.1=k then(a.1,v) else a):=by
  clear m;unfold Ev at h ⊢
  induction h with
  |nil=>exact .nil
  |@cons p q d b f t n=>refine .cons ?_ n;obtain⟨e,f⟩:=f;dsimp only;by_cases hk:p.1=k;rw[T_ hk,T_<|e ▸ hk];exact⟨e,r⟩;rw[M_ hk,M_<|e ▸ hk];exact⟨e,f⟩
 have ha:Ev K H (kvs++[(k,x)]) (j++[(k,v)]):=by clear m s;unfold Ev at h ⊢;exact jH h ⟨rfl,r⟩
 unfold Ek putK;rw[m];split;exact s;exact ha
def Ly{d:lE}{k:Key}{v:V}(h:Dk K H d v)(e:M9 d=some k):v=kV k:=by unfold M9 at e;split at e;cases e;exact h.int;cases e;exact h.str;cases e
theorem G1:∀{ds:oA lE} {ks:oA Key} {a:oA V},An K H ds a->Jg ds=some ks->a=ks.map kV
 |[],ks,a,h,e=>by cases e;exact h.nil
 |d::ds,ks,a,h,e=>by obtain⟨x,r,rfl,h1,h2⟩:=h.cons;simp only[Jg]at e;split at e;rename_i k f b j;cases e;rw[Ly h1 b,G1 h2 j];rfl;cases e
def Io{p:M}{a:lF}{m:MO}{d:lE}{v:V}{o:oB AV}(hc:Cn K p H)(u:p a=some m)(l:Dk K H d v)(e:dget m d=some o):∃r,DGet H a v r/\Ro K H o r:=by obtain⟨y,j,n⟩:=hc a m u;unfold dget at e;split at e;obtain⟨k,f,rfl⟩:=G_.mp e;obtain⟨s,rfl,h⟩:=n;rw[Ly l f];exact⟨_,DGet.k j,h.val k⟩;split at e;obtain⟨q,f,rfl⟩:=G_.mp e;obtain⟨s,rfl,h⟩:=n;obtain⟨b,x,rfl,hb,hx⟩:=l.tup;obtain⟨w,f⟩:=Lx f;have hb:=hb.heap w;rw[G1 hx f]at hb;exact⟨_,DGet.t j hb,h.val q⟩;cases e;cases e;cases e
def CK{n:M}{a:lF}{m p:MO}{d:lE}{v w:V}{x:AV}(hc:Cn K n H)(z:n a=some m)(q:Dk K H d v)(hx:RelA K H x w)(e:dput m d x=some p)(hs:dsize m<sizeLine):∃l,DPut H a v w l/\Kp H l/\Cn K (Al n a p) l:=by obtain⟨D,f,s⟩:=hc a m z;unfold dput at e;split at e;obtain⟨k,h,rfl⟩:=G_.mp e;obtain⟨y,rfl,j⟩:=s;rw[Ly q h];exact⟨_,DPut.k f<|by rw[<- bF j];exact hs,Kp.put f trivial _,hc.put f trivial ⟨_,rfl,j.put k hx⟩⟩;split at e;obtain⟨u,h,rfl⟩:=G_.mp e;obtain⟨y,rfl,j⟩:=s;obtain⟨b,C,rfl,hb,A⟩:=q.tup;obtain⟨B,h⟩:=Lx h;have hb:=hb.heap B;rw[G1 A h]at hb;exact⟨_,DPut.t f hb<|by rw[<- bF j];exact hs,Kp.put f trivial _,hc.put f trivial ⟨_,rfl,j.put u hx⟩⟩;cases e;cases e;cases e
def OS(td ty:AE):AE:=λh j R=>td h j λx f=>ty h f λy b=>match x,y with
 |.R a,.D d=>opt (b a) λm=>opt (dget m d) λr=>opt r λv=>R v b
 |_,_=>False
def Dn(hu:X.A.units+1<cLine)(s:VE X o td)(hi:VE X i ty)(hs:IJ i:=by intro _ _;rfl):VE X (.Subscript o i pos) (OS td ty):=(BS hu s hi hs).imp λJ H Q a=>B1 a λn D R hs hc h hq=>
 ⟨n,D,_,hs,hc,h,λx d v I j q t hx=>⟨n,d,_,hs.kp j,q,hx,λy E u G f c2 p hy=>by
  split at hy
  ·obtain⟨m,C,hy⟩:=Ay hy;obtain⟨r,F,hy⟩:=Ay hy;obtain⟨w,rfl,b⟩:=Ay hy;obtain⟨B,g,l⟩:=Io c2 C p F;cases B with
   |none=>exact l.elim
   |some z=>exact⟨_,z,(t.kp f).ref,g,hq _ _ _ _ (j.trans f) c2 l b⟩
  exact hy.elim⟩⟩
def CL(l:Bool->Bool)(ty td:AE):AE:=λh j R=>ty h j λy f=>td h f λx b=>match x,y with
 |.R a,.D d=>opt (b a) λm=>opt (dget m d) λr=>R (.D<|.bool<|l r.isSome) b
 |_,_=>False
def Ro.some{o:oB AV}{r:oB V}(h:Ro K H o r):o.isSome=r.isSome:=by cases o<;>cases r<;>first|rfl|exact h.elim
def W7{K:lG}{n:St}{H:Hp}{Q:VK}(h:cE K (CL (λb=>b) ty td) n H Q):NQ (cE K ty) (cE K td) n H Q:=by obtain⟨j,C,R,l,hc,h,hq⟩:=h;refine⟨j,C,_,l,hc,h,λy a v E f w s hx=>⟨j,a,_,l.kp f,w,hx,λx p u D d c2 z hy=>?_⟩⟩;split at hy;obtain⟨m,B,hy⟩:=Ay hy;obtain⟨r,t,hy⟩:=Ay hy;obtain⟨A,g,q⟩:=Io c2 B (s.kp d) t;refine⟨_,A,z.ref,g,hq _ _ _ _ (f.trans d) c2 ?_ hy⟩;rw[q.some];exact Eu;exact hy.elim
def Nh{K:lG}{n:St}{H:Hp}{Q:VK}(h:cE K (CL (λb=>!b) ty td) n H Q):Re (cE K ty) (cE K td) n H Q:=by obtain⟨j,C,R,l,hc,h,hq⟩:=h;refine⟨j,C,_,l,hc,h,λy a v E f w s hx=>⟨j,a,_,l.kp f,w,hx,λx p u D d c2 z hy=>?_⟩⟩;split at hy;obtain⟨m,B,hy⟩:=Ay hy;obtain⟨r,t,hy⟩:=Ay hy;obtain⟨A,g,q⟩:=Io c2 B (s.kp d) t;refine⟨_,A,z.ref,g,hq _ _ _ _ (f.trans d) c2 ?_ hy⟩;rw[q.some];exact Eu;exact hy.elim
def W8(hu:X.A.units+1<cLine)(hi:VE X i ty)(a:VE X o td)(h1:behindInMarks .In o=false:=by rfl):VE X (.Compare i [.In] [o] pos) (CL (λb=>b) ty td):=(HC (IK hu hi a) h1).imp λ_ _ _ h=>W7 h
def Ty(hu:X.A.units+1<cLine)(hi:VE X i ty)(a:VE X o td)(h1:behindInMarks .NotIn o=false:=by rfl):VT X (.Compare i [.NotIn] [o] pos) (Rh<|CL (λb=>!b) ty td):=(HD (Tn hu hi a) h1).imp λ_ _ _ h=>Hl (λ_ _ _ q=>Nh q) h
def W9(td ty tv:AE):AS:=λk _ _ _ f n=>tv f n λv j=>td f j λx h=>ty f h λy b=>match x,y with
 |.R a,.D d=>opt (b a) λm=>opt (dput m d v) λl=>dsize m<sizeLine/\k f (Al b a l)
 |_,_=>False
def Da(hu:X.A.units+1<cLine)(B:VE X o td)(hi:VE X i ty)(hv:VE X value tv)(hs:swapsWith value (some<|.Subscript o i cu) pos.line X.env=pure false:=by rfl):VS X (.Assign [.Subscript o i cu] value pos) (W9 td ty tv):=(BT hu B hi hv hs).imp λD R H b=>F4 b λn F T nr V L hs hc h hq=>
 ⟨n,F,_,hs,hc,h,λv q vv Q j z s h1=>⟨n,q,_,hs.kp j,z,h1,λx l O N d c2 C h2=>⟨n,l,_,hs.kp<|j.trans d,c2,h2,λy u P U f J t a=>by
  split at a;obtain⟨m,E,a⟩:=Ay a;obtain⟨W,p,a⟩:=Ay a;obtain⟨G,g,w,I⟩:=CK J E t (s.kp<|d.trans f) p a.1;have S:=j.trans<|d.trans<|f.trans w;exact⟨_,G,(C.kp f).ref,g,hq.nx _ _ _ _ S (hs.kp S) I a.2⟩;exact a.elim⟩⟩⟩
def JG:AE:=λ_ a R=>∀p,a p=none->R (.R p) (Al a p<|.dk [])
def JH:AE:=λ_ a R=>∀p,a p=none->R (.R p) (Al a p<|.dt [])
def Xa{kvs:oA<|Key×AV}{a:oA<|Key×V}(h:Ev K H kvs a):Ii K H (.dk kvs) (.dK a):=⟨a,rfl,h⟩
def FZ{kvs:oA<|oA Key×AV}{a:oA<|oA Key×V}(h:Ev K H kvs a):Ii K H (.dt kvs) (.dT a):=⟨a,rfl,h⟩
def Jh:VE X (.Dict [] [] pos) JG:=V5.imp λj H Q a=>B1 a λb f R d hc h hq=>λp hp=>hq _ _ _ _ (Kp.new hp _) (hc.new hp<|Xa .nil) Du<|h p<|hc.none hp
def Ew:VE X (.Dict [] [] pos) JH:=V6.imp λj H Q a=>B1 a λb f R d hc h hq=>λp hp=>hq _ _ _ _ (Kp.new hp _) (hc.new hp<|FZ .nil) Du<|h p<|hc.none hp
end
end L2
namespace L2
def D5{c:Type}{b:oA c}{n:Nat}(h:b.length=n+1):∃a t,b=a::t/\t.length=n:=match b,h with|a::t,h=>⟨a,t,rfl,iJ h⟩
def CM{c:Type}{b:oA c}(h:b.length=1):∃a,b=[a]:=by obtain⟨a,t,rfl,h2⟩:=D5 h;rw[bM h2];exact⟨a,rfl⟩
def TZ{d:Type}{c:oA d}(h:c.length=2):∃a b,c=[a,b]:=by obtain⟨a,t,rfl,h2⟩:=D5 h;obtain⟨b,rfl⟩:=CM h2;exact⟨a,b,rfl⟩
open PySem PySem.Spec PySem.Calls PyProof.Rows
abbrev AX:=lF->oA (Str×lE)->M->Prop
def XFx(K:lG)(H:Hp)(d:oB lF)(b:oA<|Str×lE):Prop:=match d with
 |none=>b=[]
 |some d=>∃a,H d=some (XD d a)/\Wl K H b a
def EK(K:lG)(f:AX):XK:=λc g H=>∃a C e b d,c=.ref C/\g=some a/\H a=some (XR a C d)/\XFx K H d e/\Cn K b H/\f C e b
def XA(X:Cx)(a:AX):Prop:=VY X<|EK X.K a
abbrev Qac:=oA AV->M->(AV->M->Prop)->AX->Prop
def YW(K:lG)(e:Hp)(t:AS):TS:=λD f H=>∃ a d k r b c,Dv K H a f/\Cn K d H/\t k r b c a d/\LE' K e k r b c D
def OT(X:Cx)(st:lN)(t:AS):Prop:=PS X st<|YW X.K X.H₀ t
def CN(X:Cx)(st:oA lN)(t:AS):Prop:=PSs X st<|YW X.K X.H₀ t
section
variable {X:Cx}{aa:oA<|lF×lM}{σ:St}{H:Hp}{s:lD}{st:lN}{rest:oA lN}{t s1 s2:AS}
def Inv.kp0(I:Inv X aa σ H s):Kp X.H₀ H:=⟨I.base.tups,I.base.frzs⟩
def VS.z(h:VS X st t):OT X st t:=λaa s σ H D I a=>F4 a λd f k r b c e hc g hq=>h aa s σ H D I ⟨d,f,k,r,b,c,e,hc,g,hq.kp I.kp0⟩
def Kw(h1:OT X st s1)(h2:CN X rest s2):CN X (st::rest) (Tv s1 s2):=(Mu h1 h2).imp λD σ H a=>F4 a λi k d nr m e j hc h hq=>
 ⟨i,k,_,_,_,_,j,hc,h,⟨λc b g p o l f n=>⟨c,b,d,nr,m,e,l,f,n,hq⟩,hq.rt,hq.bk,hq.ct⟩⟩
def Xb(h1:OT X st s1):CN X [st] s1:=Q7 h1
end
def Fun.vok0{P:lH}{w:lI}{K:lG}{y:Str->oB lC}{base:lL}{x a:Str}{st:lN}{f:lF}{q:lO}{N j:oA Str}{k:Nat}{sp:ASp}(F:Fun K x a st f q)(S:FnScope N j<|Ah st) (L:∀(l:lC) (A:lK) (outer:oA Env) (s:lD) (H:Hp) (E:XK),Room k (A.deeper<|envOfC a (Ah st) s.heap.objs.size f l) ->
   ∃t,CN (Lg Dx P w K y base N a (Ah st) f l A outer s H E).nox (Cj st) t/\∀b e R,b.length=j.length->sp b e R->t (WS R) (WT R) MJ MJ (Fi N b) e):FnOk P w K y base Dx (k+1) f q j (E8 K j.length sp):=by
 refine F.ok S (λG H Q E h=>?_) λl A outer s H G Q E B h=>?_;obtain⟨b,e,R,p,m,_⟩:=h;rw[<- m.length];exact p;obtain⟨b,e,R,p,m,hc,I,hq⟩:=h;obtain⟨t,J,h⟩:=L l A outer s H E B;refine⟨_,J,Fi N b,e,_,_,_,_,Dv.begin m,hc,h b e R p I,⟨λO o M C n _ c g=>S9 g λD d r=>?_,λv o u C n c z i=>S9 i λD d r=>?_,λ_ _ _ _ _ _ _ h=>h.elim,λ_ _ _ _ _ _ _ h=>h.elim⟩⟩;exact hq _ _ _ _ n (c.sub d) Jd r;exact hq _ _ _ _ n (c.sub d) z r
end L2
namespace L2
open PySem PySem.Spec PyProof.Rows
def Pp{kvs:oA<|Key×V}{k:Key}{v:V}(h:k∉kvs.map (·.1)):putK kvs k v=kvs++[(k,v)]:=by unfold putK;rw[M_];intro q;rw[bP]at q;obtain⟨x,hx,e⟩:=q;exact h<|D_.mpr ⟨x,hx,aG e⟩
theorem G2:∀(more kvs:oA<|Key×V),((kvs++more).map (·.1)).Nodup->Gg kvs more=kvs++more
 |[],kvs,_=>by rw[cL];rfl
 | (k,v)::more,kvs,h=>by
  show Gg (putK kvs k v) more=_;have hk:k∉kvs.map (·.1):=λz=>by rw[N_,aX]at h;exact h.2.2 k z k (by simp) rfl
  rw[Pp hk,G2 more,eZ]
  rfl
  rw[eZ];exact h
def WU:oA AE->ASt->M->(oA AV->M->Prop)->Prop
 |[],_,b,R=>R [] b
 |t::ts,d,b,R=>t d b λx c=>WU ts d c λe a=>R (x::e) a
def GA(K:lG)(ks:oA Key)(ts:oA AE):oA (TE×TE):=(ks.zip ts).map λp=>(tC<|kV p.1,cE K p.2)
theorem Ni{K:lG}:∀{ks:oA Key} {ts:oA AE} {τ:ASt} {a:M} {R:oA AV->M->Prop} {f:St} {H:Hp} {Q:oA (V×V)->Hp->Prop},ks.length=ts.length->Dv K H τ f->Cn K a H->WU ts τ a R ->
  (∀b c e d,Kp H d->Cn K c d->Aw K d b e->b.length=ts.length->R b c->Q ((ks.zip e).map λl=>(kV l.1,l.2)) d)->Lm (GA K ks ts) f H Q
 |[],[],τ,a,R,f,H,Q,_,g,hc,h,q=>q [] a [] H Kp.refl hc .nil rfl h
 |k::ks,t::ts,τ,a,R,f,H,Q,w,g,hc,h,q=>
  ⟨τ,a,_,g,hc,h,λx y v z m p r hx=>Ni (ks:=ks) (ts:=ts) (by simpa using w) (g.kp m) p hx λb i e s j c2 u n o=>q (x::b) i (v::e) s (m.trans j) c2 (.cons (r.kp j) u) (by simp[n]) o⟩
def VPs(X:Cx)(b:Pos)(c:oA<|oB lJ)(a:oA lJ)(ks:oA Key)(ts:oA AE):Prop:=PPs X b c a<|GA X.K ks ts
def OU(ks:oA Key)(ts:oA AE):AE:=λc b R=>∀p,b p=none->WU ts c (Al b p<|.dk []) λd a=>a p=some (.dk [])/\R (.R p) (Al a p<|.dk<|ks.zip d)
section
variable {X:Cx}{pos:Pos}{bi:oA<|oB lJ}{values:oA lJ}{ks:oA Key}{ts:oA AE}
def CO:VPs X pos [] [] [] []:=BU
def Lz{z:Str}{j}{p:Pos}{v:lJ}{t:AE}(hv:VE X v t)(a:VPs X pos bi values ks ts):VPs X pos (some (.Constant (.str z) j p)::bi) (v::values) (.inr z::ks) (t::ts):=V7 (tk:=tC<|kV<|.inr z) Vn hv a
theorem Aw.zipK{K:lG}{H:Hp}:∀(ks:oA Key) {xs:oA AV} {a:oA V},Aw K H xs a->Ev K H (ks.zip xs) (ks.zip a)
 |[],_,_,_=>.nil
 |_::_,_,_,.nil=>.nil
 |_::ks,_,_,.cons r t=>.cons ⟨rfl,r⟩<|Aw.zipK ks t
def CP(h:VPs X pos bi values ks ts)(hk:ks.Nodup)(e:ks.length=ts.length:=by rfl)(i:ks.length<=15:=by decide)(k:bi.all (·.isSome)=true:=by rfl)(m:bi.length=values.length:=by rfl)(h0:bi≠[]:=by intro z;cases z)(l:bi.length<=15:=by decide):VE X (.Dict bi values pos) (OU ks ts) :=
 (BV h k m h0 l).imp λx H Q a=>B1 a λu v R q hc h hq=>by
  intro p hp;refine Ni e (q.kp<|Kp.new hp _) (hc.new hp<|Xa .nil) (h p<|hc.none hp) λt g d w n c f j hx=>?_;obtain⟨o,b,r,rfl,rk⟩:=c _ _ hx.1;cases rk;have s:ks.length=d.length:=by rw[<- f.length,j];exact e
  refine⟨b,ks.zip d,rfl,by rw[List.length_zip];omega,?_⟩;rw[G2 _ _<|by rw[List.nil_append,List.map_fst_zip<|by omega];exact hk,List.nil_append];exact hq _ _ _ _ ((Kp.new hp _).trans<|n.trans<|Kp.put b trivial _) (c.put b trivial (Xa<|f.zipK ks)) Du hx.2
end
def Dp{a:Type} [DecidableEq a]{k:a}{v:AV}{r:oA<|a×AV}:Cl ((k,v)::r) k=some v:=by unfold Cl;simp only[List.find?_cons,decide_eq_true (rfl:k=k)];rfl
def Cy{a:Type} [DecidableEq a]{k b:a}{v:AV}{r:oA<|a×AV}(h:b≠k):Cl ((b,v)::r) k=Cl r k:=by unfold Cl;simp only[List.find?_cons,decide_eq_false h]
def Xc{a:Type}(g:a->Bool)(xs:oA a):bools (xs.map λx=>.D<|.bool<|g x)=some (xs.map g):=by rw[show(xs.map λx=>AV.D<|.bool<|g x)=(xs.map g).map λb=>.D (.bool b) by rw[aD];rfl];exact Ks _
def Tz{a:M}{p:lF}{m:MO}(h:a p=some m):Al a p m=a:=by
 funext b
 unfold Al;split;rename_i e;rw[e,h]
 rfl
def cmapf{n:Type}{p:lF}{g:AG}{tst:AT}{te:AE}{s:M->Prop}{R:M->Prop}{τ:ASt}{j:M}(as:oA n)(r:n->AV)(b:n->Bool)(f:n->AV)(m:ASt->Prop)(h0:m τ)(hp:j p=some (.lst []))(hn:as.length<=sizeLine)(hk:∀acc,s<|Al j p<|.lst acc)
  (step:∀(i:Nat) (x:n) (c:ASt) (acc:oA AV) (W:ASt->AV->M->Prop) (t:ASt->M->Prop),as[i]?=some x->m c->(b x=true->∀ a,m a->W a (f x) (Al j p<|.lst acc))->(b x=false->∀ a,m a->t a (Al j p<|.lst acc)) ->
   g (r x) c (Al j p<|.lst acc) λa q=>tst a q λk d=>brP k (te a d<|W a)<|t a d)
  (done:R<|Al j p<|.lst<|(as.filter b).map f):cl p g tst te s R (as.map r) [] τ j:=by
 refine E9 (λi acc c h=>m c/\acc=((as.take i).filter b).map f/\h=Al j p (.lst acc)) ⟨h0,by simp,(Tz hp).symm⟩ (by rintro i acc τ h ⟨_,_,e⟩;rw[e];exact hk _) ?_ ?_;rintro i y acc c h W hy ⟨w,rfl,rfl⟩ hW;rw[L_]at hy;obtain⟨x,hx,rfl⟩:=G_.mp hy;have hi:i<as.length:=(E_.mp hx).1;have u:as.take (i+1)=as.take i++[x]:=by rw[aO,hx];rfl
 refine step i x c _ (λa v l=>l p=some (.lst<|((as.take i).filter b).map f)/\(((as.take i).filter b).map f).length<sizeLine/\W ((((as.take i).filter b).map f)++[v]) a (Al l p<|.lst<|(((as.take i).filter b).map f)++[v])) (λa d=>W (((as.take i).filter b).map f) a d) hx w (λhb a o=>⟨Ab,?_,hW _ _ _ ⟨o,?_,Bl⟩⟩) λhb a o=>hW _ _ _ ⟨o,?_,rfl⟩;rw[B_];have h1:=bU b<|as.take i;rw[bI]at h1;omega;rw[u,gC,N_,gQ,T_ hb];rfl;rw[u,gC,N_,gQ,M_<|by rw[hb];exact S_];simp;rintro acc c h ⟨_,rfl,rfl⟩;rw[B_,aK];exact done
def cmap{h:Type}{p:lF}{g:AG}{te:AE}{k:M->Prop}{R:M->Prop}{τ:ASt}{c:M}(as:oA h)(e f:h->AV)(d:ASt->Prop)(h0:d τ)(hp:c p=some (.lst []))(hn:as.length<=sizeLine)(hk:∀acc,k<|Al c p<|.lst acc)
  (step:∀(i:Nat) (x:h) (b:ASt) (acc:oA AV) (W:ASt->AV->M->Prop),as[i]?=some x->d b->(∀ a,d a->W a (f x) (Al c p<|.lst acc))->g (e x) b (Al c p<|.lst acc) λa j=>te a j<|W a)
  (done:R<|Al c p<|.lst<|as.map f):cl p g JE te k R (as.map e) [] τ c:=by
 refine cmapf as e (λ_=>true) f d h0 hp hn hk (λi x b acc W m hx l h1 _=>?_) (by rw[List.filter_eq_self.mpr λ_ _=>rfl];exact done);have:=step i x b acc W hx l<|h1 rfl;simp only[JE,Wo];exact this
def OV{b:Type}{g:b->Bool}{as:oA b}{a:M}{p:lF}{R:AV->M->Prop}(h:a p=some (.lst<|as.map λx=>.D<|.bool<|g x))(q:R (.D<|.bool<|as.all g) a):IZ [.R p] a R:=by refine Ac h<|Ac (Xc g as) ?_;rw[List.all_map];exact q
def rk:lE->Nat
 |.none=>0|.bool _=>1|.int _=>2|.str _=>3|.list _=>4|.tuple _=>5|.dict _=>6
def OW(a b:Str):Bool:=decide (a.cps.toList<b.cps.toList)
mutual
def AM:lE->lE->Bool
 |.int a,.int b=>decide (a<b)
 |.str a,.str b=>OW a b
 |.tuple d,.tuple c=>Ka d c
 |x,y=>decide (rk x<rk y)
def Ka:oA lE->oA lE->Bool
 |[],[]=>false
 |[],_::_=>true
 |_::_,[]=>false
 |x::a,y::b=>if PyData.eqv x y then Ka a b else AM x y
end
mutual
theorem Xd:∀(x y:lE),Cano x=true->Cano y=true->PyData.eqv x y=true->x=y
 |.int a,.int b,_,_,h=>by simp[PyData.eqv]at h;rw[h]
 |.str a,.str b,_,_,h=>by simp[PyData.eqv]at h;rw[h]
 |.tuple d,.tuple c,h1,h2,h=>by simp only[Cano]at h1 h2;rw[PyData.eqv]at h;rw[Rp d c h1 h2 h]
 |.int _,.str _,_,_,h=>by simp[PyData.eqv]at h
 |.int _,.tuple _,_,_,h=>by simp[PyData.eqv]at h
 |.str _,.int _,_,_,h=>by simp[PyData.eqv]at h
 |.str _,.tuple _,_,_,h=>by simp[PyData.eqv]at h
 |.tuple _,.int _,_,_,h=>by simp[PyData.eqv]at h
 |.tuple _,.str _,_,_,h=>by simp[PyData.eqv]at h
 |.none,_,h,_,_=>by simp[Cano]at h
 |.bool _,_,h,_,_=>by simp[Cano]at h
 |.list _,_,h,_,_=>by simp[Cano]at h
 |.dict _,_,h,_,_=>by simp[Cano]at h
 |.int _,.none,_,h,_=>by simp[Cano]at h
 |.int _,.bool _,_,h,_=>by simp[Cano]at h
 |.int _,.list _,_,h,_=>by simp[Cano]at h
 |.int _,.dict _,_,h,_=>by simp[Cano]at h
 |.str _,.none,_,h,_=>by simp[Cano]at h
 |.str _,.bool _,_,h,_=>by simp[Cano]at h
 |.str _,.list _,_,h,_=>by simp[Cano]at h
 |.str _,.dict _,_,h,_=>by simp[Cano]at h
 |.tuple _,.none,_,h,_=>by simp[Cano]at h
 |.tuple _,.bool _,_,h,_=>by simp[Cano]at h
 |.tuple _,.list _,_,h,_=>by simp[Cano]at h
 |.tuple _,.dict _,_,h,_=>by simp[Cano]at h
theorem Rp:∀(xs ys:oA lE),A3 xs=true->A3 ys=true->PyData.eqvAll xs ys=true->xs=ys
 |[],[],_,_,_=>rfl
 |[],_::_,_,_,h=>by simp[PyData.eqvAll]at h
 |_::_,[],_,_,h=>by simp[PyData.eqvAll]at h
 |x::xs,y::ys,h1,h2,h=>by simp only[A3,Bool.and_eq_true]at h1 h2;rw[PyData.eqvAll,aY]at h;rw[Xd x y h1.1 h2.1 h.1,Rp xs ys h1.2 h2.2 h.2]
end
mutual
theorem Fm:∀(x:lE),Cano x=true->PyData.eqv x x=true
 |.int a,_=>by simp[PyData.eqv]
 |.str a,_=>by simp[PyData.eqv]
 |.tuple b,h=>by rw[PyData.eqv];exact Kx b (by simpa only[Cano] using h)
 |.none,h=>by simp[Cano]at h
 |.bool _,h=>by simp[Cano]at h
 |.list _,h=>by simp[Cano]at h
 |.dict _,h=>by simp[Cano]at h
theorem Kx:∀(xs:oA lE),A3 xs=true->PyData.eqvAll xs xs=true
 |[],_=>rfl
 |x::xs,h=>by simp only[A3,Bool.and_eq_true]at h;rw[PyData.eqvAll,Fm x h.1,Kx xs h.2];rfl
end
def JI{x y:lE}(hx:Cano x=true)(hy:Cano y=true):PyData.eqv x y=false↔x≠y:=by
 constructor;rintro h rfl;rw[Fm x hx]at h;cases h
 ·intro h;cases e:PyData.eqv x y with
  |false=>rfl
  |true=>exact absurd (Xd x y hx hy e) h
end L2
namespace L2
open PySem PySem.W PyProof.Rows
def gallop':Bool->lP->oC lP->Nat->Nat->Nat->StateT lU Sem (oB Nat):=sortPriv% PySem.Builtin.gallop
def setMinGallop':Nat->StateT lU Sem Unit:=sortPriv% PySem.Builtin.setMinGallop
def Pq(left:Bool)(b:lP)(e:oC lP)(base n a:Nat):gallop' left b e base n a=(do
 let d (i:Nat):StateT lU Sem (oB Bool):=do
  let x <- elem' e (base+i)
  if left then lt' x b else return (<- lt' b x).map (!·)
 let mut lastofs:=0
 let mut ofs:=1
 let mut lo:=0
 let mut hi:=0
 let some right <- d a|return none
 if right then
  let c:=n-a
  for _ in [0:n] do
   if ofs>=c then break
   let some more <- d (a+ofs)|return none
   if !more then break
   lastofs:=ofs
   ofs:=2*ofs+1
  lo:=a+lastofs+1
  hi:=a+min ofs c
 else
  let c:=a+1
  for _ in [0:n] do
   if ofs>=c then break
   let some found <- d (a-ofs)|return none
   if found then break
   lastofs:=ofs
   ofs:=2*ofs+1
  lo:=a+1-min ofs c
  hi:=a-lastofs
 for _ in [0:n] do
  if lo>=hi then break
  let m:=lo+(hi-lo) / 2
  let some more <- d m|return none
  if more then lo:=m+1 else hi:=m
 return some hi):=rfl
section
variable {prog:lH}{w:lI}{A:lK}{E:lC->lD->Prop}{s:lD}{κ:lV}{it:oC lP}{n:Nat}{lt:Nat->Nat->Bool}
def byd(left:Bool)(a:lP)(b:oC lP)(base i:Nat):StateT lU Sem (oB Bool):=do
 let x <- elem' b (base+i)
 if left then lt' x a else return (<- lt' a x).map (!·)
end
def mergeLo':oC lP->oC lP->StateT lU Sem (oC lP):=sortPriv% PySem.Builtin.mergeLo
def mergeHi':oC lP->oC lP->StateT lU Sem (oC lP):=sortPriv% PySem.Builtin.mergeHi
def Co(g:Nat):setMinGallop' g=modify λst=>SortSt.mk' (kindOf st) (arrOf st) (pendingOf st) g (failedOf st):=rfl
def Nj(a b:oC lP):mergeLo' a b=(do
 rule "list.sort.merge-lo"
 let f:=a.size+b.size
 let done (out:oC lP) (c d:Nat):=out++a.extract c a.size++b.extract d b.size
 let e (out:oC lP) (c d:Nat):=out++b.extract d b.size++a.extract c a.size
 let mut out:oC lP:=#[<- elem' b 0]
 let mut c:=0
 let mut d:=1
 if d==b.size then return done out c d
 if c+1==a.size then return e out c d
 let mut minGallop:=gallopOf (<- get)
 for _ in [0:f] do
  let mut acount:=0
  let mut bcount:=0
  for _ in [0:f] do
   let some bWins <- lt' (<- elem' b d) (<- elem' a c)|return done out c d
   if bWins then
    out:=out.push<|<- elem' b d;d:=d+1;bcount:=bcount+1;acount:=0
    if d==b.size then return done out c d
    if bcount>=minGallop then break
   else
    out:=out.push<|<- elem' a c;c:=c+1;acount:=acount+1;bcount:=0
    if c+1==a.size then return e out c d
    if acount>=minGallop then break
  rule "list.sort.gallop"
  minGallop:=minGallop+1
  for _ in [0:f] do
   if minGallop>1 then minGallop:=minGallop-1
   setMinGallop' minGallop
   let some k <- gallop' false (<- elem' b d) a c (a.size-c) 0|return done out c d
   acount:=k
   if k>0 then
    out:=out++a.extract c (c+k);c:=c+k
    if c+1==a.size then return e out c d
    if c==a.size then return done out c d
   out:=out.push<|<- elem' b d;d:=d+1
   if d==b.size then return done out c d
   let some k <- gallop' true (<- elem' a c) b d (b.size-d) 0|return done out c d
   bcount:=k
   if k>0 then
    out:=out++b.extract d (d+k);d:=d+k
    if d==b.size then return done out c d
   out:=out.push<|<- elem' a c;c:=c+1
   if c+1==a.size then return e out c d
   if acount<7&&bcount<7 then break
  minGallop:=minGallop+1
  setMinGallop' minGallop
 unsupported "internal:list.sort.merge-bound"):=rfl
section
variable {prog:lH}{w:lI}{A:lK}{E:lC->lD->Prop}{s:lD}{κ:lV}{it:oC lP}{n:Nat}{lt:Nat->Nat->Bool}
abbrev WV(p:oC Nat)(i:Nat):Nat:=p.getD i 0
def In(n:Nat)(p:oC Nat):Prop:=∀i,i<p.size->WV p i<n
structure MI(lt:Nat->Nat->Bool)(a b out:oC Nat)(ia ib:Nat):Prop where
 ha:ia<=a.size
 hb:ib<=b.size
 sz:out.size=ia+ib
 perm:out.toList.Perm (a.toList.take ia++b.toList.take ib)
 srt:out.toList.Pairwise λx y=>lt y x=false
 lea:∀x∈out.toList,∀j,ia<=j->j<a.size->lt (WV a j) x=false
 leb:∀x∈out.toList,∀j,ib<=j->j<b.size->lt (WV b j) x=false
abbrev OX:=oB (oC lP)×oC lP×Nat×Nat×Nat×Nat×Nat
abbrev Cu(st:lU)(g:Nat):lU:=SortSt.mk' (kindOf st) (arrOf st) (pendingOf st) g<|failedOf st
def CQ(a b c:oC lP)(d e h f g:Nat):StateT lU Sem (ForInStep OX) :=
 elem' a d>>=λy=>
  if(d+1+1==a.size)=true then pure (ForInStep.done (some<|c.push y++b.extract e b.size++a.extract (d+1) a.size,c.push y,d+1,e,h,f,g))
  else if(decide (f<7)&&decide (g<7))=true then pure (ForInStep.done (none,c.push y,d+1,e,h,f,g))
  else pure<|ForInStep.yield (none,c.push y,d+1,e,h,f,g)
def CS(a b d:oC lP)(e c f g h:Nat):StateT lU Sem (ForInStep OX) :=
 elem' b c>>=λy=>
  if(c+1==b.size)=true then pure (ForInStep.done (some<|d.push y++a.extract e a.size++b.extract (c+1) b.size,d.push y,e,c+1,f,g,h))
  else elem' a e>>=λz=>gallop' true z b (c+1) (b.size-(c+1)) 0>>=λx=>
   match x with
   |some k=>if k>0 then
     (if(c+1+k==b.size)=true then pure (ForInStep.done (some<|d.push y++b.extract (c+1) (c+1+k)++a.extract e a.size++b.extract (c+1+k) b.size,d.push y++b.extract (c+1) (c+1+k),e,c+1+k,f,g,k))
     else CQ a b (d.push y++b.extract (c+1) (c+1+k)) e (c+1+k) f g k)
    else CQ a b (d.push y) e (c+1) f g k
   |_=>pure<|ForInStep.done (some<|d.push y++a.extract e a.size++b.extract (c+1) b.size,d.push y,e,c+1,f,g,h)
def JJ(a b d:oC lP)(c e f h g:Nat):StateT lU Sem (ForInStep OX) :=
 setMinGallop' f>>=λ_=>elem' b e>>=λy=>gallop' false y a c (a.size-c) 0>>=λx=>
  match x with
  |some k=>if k>0 then
    (if(c+k+1==a.size)=true then pure (ForInStep.done (some<|d++a.extract c (c+k)++b.extract e b.size++a.extract (c+k) a.size,d++a.extract c (c+k),c+k,e,f,k,g))
    else if(c+k==a.size)=true then pure (ForInStep.done (some<|d++a.extract c (c+k)++a.extract (c+k) a.size++b.extract e b.size,d++a.extract c (c+k),c+k,e,f,k,g))
    else CS a b (d++a.extract c (c+k)) (c+k) e f k g)
   else CS a b d c e f k g
  |_=>pure<|ForInStep.done (some<|d++a.extract c a.size++b.extract e b.size,d,c,e,f,h,g)
section
variable {a b:oC Nat}{st:lU}{Qd Qy:OX->lU->Prop}{out:oC Nat}{ia ib mg ac bc:Nat}
end
end
def Nk(a b:oC lP):mergeHi' a b=(do
 rule "list.sort.merge-hi"
 let d:=a.size+b.size
 let done (out:oC lP) (na nb:Nat):=a.extract 0 na++b.extract 0 nb++out.reverse
 let c (out:oC lP) (na nb:Nat):=b.extract 0 nb++a.extract 0 na++out.reverse
 let mut na:=a.size-1
 let mut nb:=b.size
 let mut out:oC lP:=#[<- elem' a na]
 if na==0 then return done out na nb
 if nb==1 then return c out na nb
 let mut minGallop:=gallopOf (<- get)
 for _ in [0:d] do
  let mut acount:=0
  let mut bcount:=0
  for _ in [0:d] do
   let some aWins <- lt' (<- elem' b (nb-1)) (<- elem' a (na-1))|return done out na nb
   if aWins then
    na:=na-1;out:=out.push<|<- elem' a na;acount:=acount+1;bcount:=0
    if na==0 then return done out na nb
    if acount>=minGallop then break
   else
    nb:=nb-1;out:=out.push<|<- elem' b nb;bcount:=bcount+1;acount:=0
    if nb==1 then return c out na nb
    if bcount>=minGallop then break
  rule "list.sort.gallop"
  minGallop:=minGallop+1
  for _ in [0:d] do
   if minGallop>1 then minGallop:=minGallop-1
   setMinGallop' minGallop
   let some at_ <- gallop' false (<- elem' b (nb-1)) a 0 na (na-1)|return done out na nb
   let k:=na-at_
   acount:=k
   if k>0 then
    out:=out++(a.extract at_ na).reverse;na:=at_
    if na==0 then return done out na nb
   nb:=nb-1;out:=out.push (<- elem' b nb)
   if nb==1 then return c out na nb
   let some at_ <- gallop' true (<- elem' a (na-1)) b 0 nb (nb-1)|return done out na nb
   let k:=nb-at_
   bcount:=k
   if k>0 then
    out:=out++(b.extract at_ nb).reverse;nb:=at_
    if nb==1 then return c out na nb
    if nb==0 then return done out na nb
   na:=na-1;out:=out.push (<- elem' a na)
   if na==0 then return done out na nb
   if acount<7&&bcount<7 then break
  minGallop:=minGallop+1
  setMinGallop' minGallop
 unsupported "internal:list.sort.merge-bound"):=rfl
section
variable {prog:lH}{w:lI}{A:lK}{E:lC->lD->Prop}{s:lD}{κ:lV}{it:oC lP}{n:Nat}{lt:Nat->Nat->Bool}
section
variable {a b out:oC Nat}{na nb:Nat}
end
abbrev OY:=oB (oC lP)×Nat×Nat×oC lP×Nat×Nat×Nat
def CT(a b c:oC lP)(d f h e g:Nat):StateT lU Sem (ForInStep OY) :=
 elem' a (d-1)>>=λy=>
  if(d-1==0)=true then pure (ForInStep.done (some<|a.extract 0 (d-1)++b.extract 0 f++(c.push y).reverse,d-1,f,c.push y,h,e,g))
  else if(decide (e<7)&&decide (g<7))=true then pure (ForInStep.done (none,d-1,f,c.push y,h,e,g))
  else pure<|ForInStep.yield (none,d-1,f,c.push y,h,e,g)
def CU(a b c:oC lP)(e d f g h:Nat):StateT lU Sem (ForInStep OY) :=
 elem' b (d-1)>>=λy=>
  if(d-1==1)=true then pure (ForInStep.done (some<|b.extract 0 (d-1)++a.extract 0 e++(c.push y).reverse,e,d-1,c.push y,f,g,h))
  else elem' a (e-1)>>=λz=>gallop' true z b 0 (d-1) (d-1-1)>>=λx=>
   match x with
   |some k=>if d-1-k>0 then
     (if(k==1)=true then pure (ForInStep.done (some<|b.extract 0 k++a.extract 0 e++(c.push y++(b.extract k<|d-1).reverse).reverse,e,k,c.push y++(b.extract k<|d-1).reverse,f,g,d-1-k))
     else if(k==0)=true then pure (ForInStep.done (some<|a.extract 0 e++b.extract 0 k++(c.push y++(b.extract k<|d-1).reverse).reverse,e,k,c.push y++(b.extract k<|d-1).reverse,f,g,d-1-k))
     else CT a b (c.push y++(b.extract k<|d-1).reverse) e k f g<|d-1-k)
    else CT a b (c.push y) e (d-1) f g (d-1-k)
   |_=>pure<|ForInStep.done (some<|a.extract 0 e++b.extract 0 (d-1)++(c.push y).reverse,e,d-1,c.push y,f,g,h)
def JK(a b c:oC lP)(d e f h g:Nat):StateT lU Sem (ForInStep OY) :=
 setMinGallop' f>>=λ_=>elem' b (e-1)>>=λy=>gallop' false y a 0 d (d-1)>>=λx=>
  match x with
  |some k=>if d-k>0 then
    (if(k==0)=true then pure (ForInStep.done (some<|a.extract 0 k++b.extract 0 e++(c++(a.extract k d).reverse).reverse,k,e,c++(a.extract k d).reverse,f,d-k,g))
    else CU a b (c++(a.extract k d).reverse) k e f (d-k) g)
   else CU a b c d e f (d-k) g
  |_=>pure<|ForInStep.done (some<|a.extract 0 d++b.extract 0 e++c.reverse,d,e,c,f,h,g)
section
variable {a b:oC Nat}{st:lU}{Qd Qy:OY->lU->Prop}{out:oC Nat}{na nb mg ac bc:Nat}
end
end
def Nl(i:Nat):mergeAt' i=(do
 let s <- get
 let(some (c,b,d),some (f,e,_)):=((pendingOf s)[i]?,(pendingOf s)[i+1]?)|unsupported "internal:list.sort.pending"
 set (setPending s<|((pendingOf s).setIfInBounds i (c,b+e,d)).eraseIdxIfInBounds<|i+1)
 let some k <- gallop' false (<- elem' (arrOf s) f) (arrOf s) c b 0|return false
 let(c,b):=(c+k,b-k)
 if b==0 then return true
 let some e <- gallop' true (<- elem' (arrOf s) (c+b-1)) (arrOf s) f e (e-1)|return false
 if e==0 then return true
 let x:=(arrOf s).extract c f
 let y:=(arrOf s).extract f (f+e)
 let merged <- if b<=e then mergeLo' x y else mergeHi' x y
 modify λs=>setArr s (merged.toList.zipIdx.foldl (λa (p,j)=>a.setIfInBounds (c+j) p)<|arrOf s)
 return (failedOf<|<- get).isNone):=rfl
section
variable {prog:lH}{w:lI}{A:lK}{E:lC->lD->Prop}{s:lD}{κ:lV}{it:oC lP}{n:Nat}{lt:Nat->Nat->Bool}{p:oC Nat}{pd:oC<|Nat×Nat×Nat}{g:Nat}
def CV{a:Type}{M:Model}{x:a}{Q:PUnit->a->Prop}{st:a}(h:Q ⟨⟩ x):wpS M A E s (set x:StateT a Sem PUnit) Q st:=by unfold wpS;rw[StateT.run_set];exact C_ ⟨rfl,h⟩
def wr{a:Type}(b:Nat):oA a->Nat->oC a->oC a
 |[],_,p=>p
 |x::c,k,p=>wr b c (k+1)<|p.setIfInBounds (b+k) x
theorem Rq{c:Type}(b:Nat):∀(xs:oA c) (k:Nat) (p:oC c),(xs.zipIdx k).foldl (λa (z:c×Nat)=>a.setIfInBounds (b+z.2) z.1) p=wr b xs k p
 |[],_,_=>rfl
 |x::xs,k,p=>by rw[List.zipIdx_cons,fA,wr];exact Rq b xs (k+1) _
theorem Xe{b:Type}(a:Nat):∀(xs:oA b) (k:Nat) (p:oC b),a+k+xs.length<=p.size->∀i:Nat,(wr a xs k p)[i]?=if a+k<=i/\i<a+k+xs.length then xs[i-(a+k)]? else p[i]?
 |[],k,p,_,i=>by rw[wr,M_<|by simp only[List.length_nil];omega]
 |x::xs,k,p,h,i=>by rw[aZ]at h;rw[wr,Xe a xs (k+1) _<|by rw[Array.size_setIfInBounds];omega,Array.getElem?_setIfInBounds,aZ];by_cases h1:a+k=i;subst h1;rw[M_<|by omega,T_ rfl,T_<|by omega,T_<|by omega,kZ];rfl;by_cases h2:a+(k+1)<=i/\i<a+(k+1)+xs.length;rw[T_ h2,T_<|by omega];rw[show i-(a+k)=i-(a+(k+1))+1 by omega,List.getElem?_cons_succ];rw[M_ h2,M_ h1,M_<|by omega]
def Xf(lo a n:Nat):StateT lU Sem (oB Nat):=do
 reverseSlice' lo (lo+n)
 let mut n:=n
 for _ in [n:a] do
  let some smaller <- ltAt' (lo+n) (lo+n-1)|return none
  if smaller then break
  n:=n+1
 return some n
def Xg(lo a n:Nat):StateT lU Sem (oB Nat):=do
 rule "list.sort.descending-run"
 let mut n:=n+1
 let mut neq:=0
 for _ in [n:a] do
  let some smaller <- ltAt' (lo+n) (lo+n-1)|return none
  if smaller then
   if neq>0 then reverseSlice' (lo+n-(neq+1)) (lo+n)
   neq:=0
  else
   let some larger <- ltAt' (lo+n-1) (lo+n)|return none
   if larger then break
   neq:=neq+1
  n:=n+1
 if neq>0 then reverseSlice' (lo+n-(neq+1)) (lo+n)
 Xf lo a n
def L0(lo a:Nat):countRun' lo a=(do
 let mut n:=1
 for _ in [1:a] do
  let some smaller <- ltAt' (lo+n) (lo+n-1)|return none
  if smaller then break
  n:=n+1
 if n==a then return some n
 if n>1 then
  let some rose <- ltAt' lo (lo+n-1)|return none
  if rose then return some n
  reverseSlice' lo (lo+n)
 Xg lo a n):=rfl
def Chain:oA (Nat×Nat×Nat)->Nat->Nat->Prop
 |[],lo,hi=>lo=hi
 | (a,l,_)::r,lo,hi=>a=lo/\0<l/\Chain r (lo+l) hi
theorem Chain.le:∀{l:oA<|Nat×Nat×Nat} {lo hi:Nat},Chain l lo hi->lo+l.length<=hi
 |[],_,_,h=>by cases h;simp
 | (a,l,_)::r,lo,hi,h=>by have:=h.2.2.le;have:=h.2.1;rw[aZ];omega
theorem Chain.app:∀{l m:oA<|Nat×Nat×Nat} {lo hi:Nat},Chain (l++m) lo hi↔∃k,Chain l lo k/\Chain m k hi
 |[],m,lo,hi=>⟨λh=>⟨lo,rfl,h⟩,λ⟨k,e,h⟩=>by cases e;exact h⟩
 | (a,l,q)::r,m,lo,hi=>by constructor;rintro⟨h1,h2,b⟩;obtain⟨k,c,d⟩:=Chain.app.mp b;exact⟨k,⟨h1,h2,c⟩,d⟩;rintro⟨k,⟨h1,h2,b⟩,f⟩;exact⟨h1,h2,Chain.app.mpr ⟨k,b,f⟩⟩
def Nm{l:oA<|Nat×Nat×Nat}{i:Nat}{a b:Nat×Nat×Nat}(h1:l[i]?=some a)(h2:l[i+1]?=some b):l=l.take i++a::b::l.drop (i+2):=by obtain⟨d,h⟩:=E_.mp h1;obtain⟨f,e⟩:=E_.mp h2;have c:=(iT i l).symm;rw[bL d,bL f,h,e]at c;exact c
def CW{pd:oC<|Nat×Nat×Nat}{i:Nat}{a b c:Nat×Nat×Nat}(h1:pd[i]?=some a)(h2:pd[i+1]?=some b):((pd.setIfInBounds i c).eraseIdxIfInBounds<|i+1).toList=pd.toList.take i++c::pd.toList.drop (i+2):=by
 have d:pd.toList[i]?=some a:=by rw[X_];exact h1
 have h:pd.toList[i+1]?=some b:=by rw[X_];exact h2
 have hi:=(E_.mp d).1;have hj:=(E_.mp h).1;rw[Array.toList_eraseIdxIfInBounds,Array.toList_setIfInBounds,List.eraseIdx_eq_take_drop_succ,List.take_set,List.drop_set_of_lt<|by omega];have e:=Nm d h;have f:(pd.toList.take i).length=i:=by rw[bI];omega
 rw[show i+1+1=i+2 from rfl];have:(pd.toList.take<|i+1).set i c=pd.toList.take i++[c]:=by rw[aO,d,List.set_append_right _ _<|gB f,f,kZ];rfl
 rw[this,eZ];rfl
theorem Chain.mod{f:Nat×Nat×Nat->Nat×Nat×Nat}(b:∀e,(f e).1=e.1/\(f e).2.1=e.2.1):∀{l:oA<|Nat×Nat×Nat} {i lo hi:Nat},Chain l lo hi->Chain (l.modify i f) lo hi
 |[],i,lo,hi,h=>by rw[List.modify_nil];exact h
 | (a,l,q)::r,0,lo,hi,h=>by rw[List.modify_zero_cons];have:=b (a,l,q);generalize f (a,l,q)=e at this;obtain⟨c,j,d⟩:=e;obtain⟨h1,h2⟩:=this;dsimp only at h1 h2;subst h1;subst h2;exact h
 | (a,l,q)::r,i+1,lo,hi,h=>by rw[List.modify_succ_cons];exact⟨h.1,h.2.1,h.2.2.mod b⟩
end
end L2
namespace L2
open PySem
def Xh(A:lK)(s:lD)(u v:lC)(b:Bool):Prop:=∀(prog:lH) (w:lI) (E:lC->lD->Prop) (Q:lC->lD->Prop),Q (.bool b) s->qV prog w A (richCompare .Lt u v) Q E s
inductive LexAt (A:lK) (s:lD):oA lC->oA lC->Bool->Prop
 |nil {ys:oA lC}:LexAt A s [] ys (decide (0<ys.length))
 |stop {x:lC} {xs:oA lC}:LexAt A s (x::xs) [] false
 |eq {x y:lC} {xs ys:oA lC} {r:Bool}:SeqAt.EqAt A s x y true->LexAt A s xs ys r->LexAt A s (x::xs) (y::ys) r
 |ne {x y:lC} {xs ys:oA lC} {r:Bool}:SeqAt.EqAt A s x y false->Xh A s x y r->LexAt A s (x::xs) (y::ys) r
section
variable {prog:lH}{w:lI}{A:lK}{E:lC->lD->Prop}{s:lD}
def LexAt.ends{xs ys:oA lC}{r:Bool}(h:LexAt A s xs ys r)(e:xs.zip ys=[]):r=decide (xs.length<ys.length):=by
 cases h with
 |nil=>simp
 |stop=>simp
 |eq=>simp at e
 |ne=>simp at e
def Kc{a b:lF}{p i:lM}{xs ys:oC lC}{n k:Nat}{P:PySem.Fin->lD->Prop}{r:Bool}(ha:s.heap.get? a=some p)(hb:s.heap.get? b=some i)(y:i.cls=.type "tuple") (z:p.data=.seq xs n) (t:i.data=.seq ys k)
  (h:LexAt A s xs.toList ys.toList r) (q:P (.done<|.ret<|.bool r) s):qV prog w A (Builtin.«tuple.__lt__» ⟨[.ref a,.ref b],[]⟩) P E s:=by
 have x:s.TypeIs (.ref b) "tuple" := ⟨i,hb,y⟩;refine(show wpAny _ _ (isInstance (.ref b) (.type "tuple")>>=_) _ _ s from A_<|dA x isSubtype_tuple_tuple ?_);rw[show(!true)=false from rfl,M_ S_];refine A_<|jY ha z<|A_<|jY hb t<|A_ ?_;refine fY _ (λleft d l=>d.1=none/\l=s/\∃g f,left=List.zip g f/\LexAt A s g f r/\decide (g.length<f.length)=decide (xs.size<ys.size)) _ ?_ ?_ _ _ ⟨rfl,rfl,xs.toList,ys.toList,rfl,h,by simp⟩
 ·rintro⟨u,v⟩ left d l ⟨m,rfl,g,f,c,o,j⟩;cases o with
  |nil=>simp at c
  |stop=>simp at c
  |eq h1 h2=>simp only[List.zip_cons_cons,List.cons.injEq,Prod.mk.injEq]at c;obtain⟨⟨rfl,rfl⟩,rfl⟩:=c;refine A_<|h1 prog w _ _ ?_;dsimp only;rw[show(!true)=false from rfl,M_ S_];exact C_ ⟨rfl,rfl,_,_,rfl,h2,by simpa using j⟩
  |ne h1 h2=>simp only[List.zip_cons_cons,List.cons.injEq,Prod.mk.injEq]at c;obtain⟨⟨rfl,rfl⟩,rfl⟩:=c;refine A_<|h1 prog w _ _ ?_;simp only[Bool.not_false,if_true];exact A_<|eC<|A_<|h2 prog w _ _<|A_<|C_<|C_<|C_ q
 rintro⟨B,a2⟩ l ⟨m,rfl,g,f,c,o,j⟩;simp only at m;subst m;have e:=o.ends c.symm;rw[e,j]at q;exact C_ q
def Ps{a b:lF}{c d:lM}{xs ys:oC lC}{n k:Nat}{r:Bool}(ha:s.heap.get? a=some c)(hb:s.heap.get? b=some d)(e:c.cls=.type "tuple") (f:d.cls=.type "tuple") (i:c.data=.seq xs n) (g:d.data=.seq ys k)
  (hu:A.units<cLine) (h:LexAt A.in1 s xs.toList ys.toList r):Xh A s (.ref a) (.ref b) r:=λprog w E Q q=>
 wpAny_richCompare_same_room (T := "tuple") ⟨c,ha,e⟩ ⟨d,hb,f⟩ F.slot_tuple_lt (aN F.slot_tuple_lt ⟨c,ha,e⟩ F.entry_tuple_lt (Kc ha hb f i g h ⟨_,rfl,(λz=>nomatch z),q⟩)<|F.args_tuple_lt_2 _ _) hu
end
mutual
def cmpb:lE->lE->Bool
 |.int _,.int _=>true
 |.tuple a,.tuple b=>cmpbs a b
 |_,_=>false
def cmpbs:oA lE->oA lE->Bool
 |[],_=>true
 |_::_,[]=>true
 |x::a,y::b=>if PyData.eqv x y then cmpbs a b else cmpb x y
end
def Pt{u a b c d:Nat}(h:u+min (max a b) (max c d)<cLine):u+min a c<cLine:=fI (jO (Nat.le_min_of_le_of_le (K_ (Nat.min_le_left _ _)<|Nat.le_max_left _ _)<|K_ (Nat.min_le_right _ _)<|Nat.le_max_left _ _) u) h
def JL{u a b c d:Nat}(h:u+min (max a b) (max c d)<cLine):u+min b d<cLine:=Pt (b:=a) (d:=c) (by rw[Nat.max_comm b a,Nat.max_comm d c];exact h)
mutual
theorem Ji:∀(x y:lE) (A:lK) (s:lD) (u v:lC) (as f:oA lF),Reads s.heap u x as->Reads s.heap v y f->x.canLay0=true->y.canLay0=true->cmpb x y=true->A.units+min x.depth y.depth<cLine->Xh A s u v (AM x y)
 |.int a,.int b,A,s,u,v,as,f,i,g,_,_,_,_=>by
  cases i;cases g;intro k w E Q q;have e:AM (.int a) (.int b)=decide (a<b):=by simp[AM]
  rw[e]at q;exact wpAny_lt_int q
 |.tuple d,.tuple c,A,s,u,v,as,f,i,g,j,c2,hc,hu=>by
  cases i with
  |tuple m a2 o t=>
   cases g with
   |tuple p n l r=>
    have e:AM (.tuple d) (.tuple c)=Ka d c:=by simp[AM]
    rw[e];simp only[PyData.canLay0]at j c2;simp only[cmpb]at hc;simp only[PyData.depth]at hu;refine Ps m p a2 n o l (by omega)<|Fn d c A.in1 s _ _ _ _ t r j c2 hc ?_;show A.units+1+_<_;omega
 |.int _,.none,_,_,_,_,_,_,_,_,_,_,h,_=>by simp[cmpb]at h
 |.int _,.bool _,_,_,_,_,_,_,_,_,_,_,h,_=>by simp[cmpb]at h
 |.int _,.str _,_,_,_,_,_,_,_,_,_,_,h,_=>by simp[cmpb]at h
 |.int _,.list _,_,_,_,_,_,_,_,_,_,_,h,_=>by simp[cmpb]at h
 |.int _,.tuple _,_,_,_,_,_,_,_,_,_,_,h,_=>by simp[cmpb]at h
 |.int _,.dict _,_,_,_,_,_,_,_,_,_,_,h,_=>by simp[cmpb]at h
 |.tuple _,.none,_,_,_,_,_,_,_,_,_,_,h,_=>by simp[cmpb]at h
 |.tuple _,.bool _,_,_,_,_,_,_,_,_,_,_,h,_=>by simp[cmpb]at h
 |.tuple _,.str _,_,_,_,_,_,_,_,_,_,_,h,_=>by simp[cmpb]at h
 |.tuple _,.list _,_,_,_,_,_,_,_,_,_,_,h,_=>by simp[cmpb]at h
 |.tuple _,.int _,_,_,_,_,_,_,_,_,_,_,h,_=>by simp[cmpb]at h
 |.tuple _,.dict _,_,_,_,_,_,_,_,_,_,_,h,_=>by simp[cmpb]at h
 |.none,_,_,_,_,_,_,_,_,_,_,_,h,_=>by simp[cmpb]at h
 |.bool _,_,_,_,_,_,_,_,_,_,_,_,h,_=>by simp[cmpb]at h
 |.str _,_,_,_,_,_,_,_,_,_,_,_,h,_=>by simp[cmpb]at h
 |.list _,_,_,_,_,_,_,_,_,_,_,_,h,_=>by simp[cmpb]at h
 |.dict _,_,_,_,_,_,_,_,_,_,_,_,h,_=>by simp[cmpb]at h
theorem Fn:∀(xs ys:oA lE) (A:lK) (s:lD) (b a:oA lC) (as g:oA lF),ReadsAll s.heap b xs as->ReadsAll s.heap a ys g->PyData.canLayAll0 xs=true->PyData.canLayAll0 ys=true->cmpbs xs ys=true->A.units+min (PyData.depthAll xs) (PyData.depthAll ys)<cLine->LexAt A s b a (Ka xs ys)
 |[],ys,A,s,b,a,as,g,d,c,_,_,_,_=>by
  cases d;have e:Ka [] ys=decide (0<a.length):=by cases c<;>simp[Ka]
  rw[e];exact .nil
 |x::xs,[],A,s,b,a,as,g,d,c,_,_,_,_=>by
  cases c;cases d with
  |cons h a2=>
   have e:Ka (x::xs) []=false:=by simp[Ka]
   rw[e];exact .stop
 |x::xs,y::ys,A,s,b,a,as,g,d,c,f,c2,hc,hu=>by
  simp only[PyData.canLayAll0,Bool.and_eq_true]at f c2;simp only[PyData.depthAll]at hu;cases d with
  |cons h a2=>
   cases c with
   |cons i j=>
    have q:=iY x y A s _ _ _ _ h i f.1 c2.1<|Pt hu;simp only[cmpbs]at hc;simp only[Ka];cases e:PyData.eqv x y with
    |true=>rw[e]at q hc;exact .eq q (Fn xs ys A s _ _ _ _ a2 j f.2 c2.2 hc<|JL hu)
    |false=>rw[e]at q hc;exact .ne q<|Ji x y A s _ _ _ _ h i f.1 c2.1 hc<|Pt hu
end
end L2
namespace L2
open PySem PySem.W PyProof.Rows
section
variable {prog:lH}{w:lI}{A:lK}{E:lC->lD->Prop}{s:lD}
def CY{a b:Bool}{Q:Bool->lD->Prop}:∀{f d:oA lC} {r:Bool},LexAt A s f d r->a=decide (f.length<d.length)->∀i,(b&&i==0)=false->Q r s->KatLex prog w A b a Q (f.zip d) i s:=by
 intro f d r h
 induction h with
 |nil=>intro e i c q;have g:a=decide (0<_):=e;rw[<- g]at q;exact kat_nil q
 |stop=>
  intro e i c q;have g:a=false:=by rw[e];simp
  rw[<- g]at q;exact kat_nil q
 |eq h1 h2 j=>intro e i c q;exact kat_cons (h1 prog w _ _<|kat_yes<|j (by rw[e];simp) (i+1) (by simp) q)
 |ne h1 h2=>intro e i c q;refine kat_cons<|h1 prog w _ _<|kat_no ?_;rw[c];exact kat_one _ _<|h2 prog w _ _<|show PySem.W.BoolBack Q (.bool _) s from q
def JM{x y:lF}{a b:Int}{c d:oA lE}{as z:oA lF}{Q:Bool->lD->Prop}(J:Reads s.heap (.ref x) (.tuple<|.int a::c) as)(F:Reads s.heap (.ref y) (.tuple<|.int b::d) z)(i:(PyData.tuple<|.int a::c).canLay0=true)(c2:(PyData.tuple<|.int b::d).canLay0=true)
  (hc:cmpb (.tuple<|.int a::c) (.tuple<|.int b::d)=true) (hu:A.units+64<cLine) (H:(PyData.tuple<|.int a::c).depth<=64) (q:Q (AM (.tuple<|.int a::c)<|.tuple<|.int b::d) s):qV prog w A (keyLt' (tuples' true) (.ref x)<|.ref y) Q E s:=by
 cases J with
 |@tuple _ N h n _ _ o a2 C k=>
  cases F with
  |@tuple _ M g m _ _ G L l j=>
   refine kat_lt o C G l ?_;simp only[PyData.canLay0,PyData.canLayAll0,Bool.and_eq_true]at i c2;simp only[PyData.depth,PyData.depthAll]at H;simp only[cmpb,cmpbs]at hc;simp only[AM,Ka]at q;have D:h.size=h.toList.length:=by simp
   have I:g.size=g.toList.length:=by simp
   rw[D,I];generalize h.toList=us at k ⊢;generalize g.toList=vs at j ⊢;cases k with
   |cons r u=>
    cases j with
    |cons B p=>
     cases r with
     |int _ t=>
      cases B with
      |int _ v=>
       rw[List.zip_cons_cons];have f:=iY (.int a) (.int b) A s _ _ _ _ (.int a t) (.int b v) rfl rfl (by simp[PyData.depth];omega);cases e:PyData.eqv (.int a) (.int b) with
       |true=>rw[e]at f hc q;refine kat_cons<|f prog w _ _<|kat_yes ?_;refine CY (Fn c d A s _ _ _ _ u p i.2 c2.2 hc<|by omega) (by simp) 1 rfl q
       |false=>rw[e]at f hc q;refine kat_cons<|f prog w _ _<|kat_no ?_;exact kat_lt_int q
end
end L2
namespace L2
open PySem PySem.Spec PyProof.Rows
theorem Gk:∀{ds:oA lE},PyData.canLayAll0 ds=true->∀d∈ds,d.canLay0=true
 |d::ds,h,e,he=>by simp only[PyData.canLayAll0,Bool.and_eq_true]at h;rcases aB.mp he with rfl|he;exact h.1;exact Gk h.2 e he
theorem Ky:∀{ds:oA lE},∀d∈ds,d.depth<=PyData.depthAll ds
 |d::ds,e,he=>by simp only[PyData.depthAll];rcases aB.mp he with rfl|he;omega;have:=Ky (ds:=ds) e he;omega
def Xi{a:Type}{xs:oA a}{i:Nat}{d:a}(h:i<xs.length):xs.getD i d∈xs:=by rw[dL,J_ h];exact fG h
theorem Hn{h h':lL}(hk:∀b o,h.get? b=some o->h'.get? b=some o):∀{a:oA lC} {ds:oA lE} {as:oA lF},ReadsAll h a ds as->ReadsAll h' a ds as
 |_,_,_,.nil=>.nil
 |_,_,_,.cons r t=>.cons (fP hk r)<|Hn hk t
theorem OZ{h:lL}:∀{a:oA lC} {ds:oA lE} {as:oA lF} {i:Nat},ReadsAll h a ds as->i<ds.length->∃b,Reads h (a.getD i .none) (ds.getD i .none) b
 |_,_,_,0,.cons r _,_=>⟨_,r⟩
 |_,_,_,i+1,.cons _ t,hi=>OZ (i:=i) t<|by simpa using hi
theorem Rr{h:lL}:∀{a:oA lC} {ds:oA lE} {as:oA lF},ReadsAll h a ds as->a.length=ds.length
 |_,_,_,.nil=>rfl
 |_,_,_,.cons _ t=>by simp[Rr t]
theorem Nn{h:lL}:∀{e:oA lC} {ds:oA lE} {as:oA lF},ReadsAll h e ds as->(∀d∈ds,∃i r,d=.tuple (.int i::r))->∃b:oA lC,PySem.W.KatTups h e b/\b.length=e.length/\∀v∈b,∃i t,v=.int i t
 |_,_,_,.nil,_=>⟨[],PySem.W.KatTups.nil,rfl,λ_ z=>nomatch z⟩
 |_,_,_,.cons r t,f=>by
  obtain⟨b,k,l,z⟩:=Nn t λd j=>f d<|aH _ j;obtain⟨i,w,rfl⟩:=f _ aS;cases r with
  |@tuple a o p n u as g a2 s c=>
   cases hv:p.toList with
   |nil=>rw[hv]at c;cases c
   |cons A x=>
    rw[hv]at c;cases c with
    |cons m y=>
     cases m with
     |int _ q=>refine⟨.int i q::b,PySem.W.KatTups.cons g a2 s ?_ k,by simp[l],λv hv'=>?_⟩;rw[<- X_,hv];rfl;rcases aB.mp hv' with rfl|hv';exact⟨_,_,rfl⟩;exact z v hv'
def No(t:lF)(i:Int):lM:={cls:=.type "reversed",data:=.fields #[.ref t,rawInt i]}
def Fo(h:lL)(a t:lF)(i:Int):Prop:=∃o,h.get? a=some o/\o.cls=.type "reversed" /\ o.data=.fields #[.ref t,rawInt i]
def Np:Manifest.owners.lookup (String.ofList ['d','e','s','r','e','v','e','r'].reverse)=some Manifest.sig_reversed:=by kernel_rfl
def G3:Slot "reversed" "__next__" "reversed.__next__" := .of (owner := "reversed") (n := "__next__") (by rw[dX,cJ];kernel_rfl) (by decide +kernel) (by decide +kernel) (by decide +kernel) (.inl<|by decide +kernel)<|by rw[dU];kernel_rfl
def Nq:entryFor table "reversed.__next__" = some Builtin.«reversed.__next__»:=kT<|by kernel_rfl
def Rs(a:lC):argsOk "reversed.__next__" ⟨[a],[]⟩:=by rw[argsOk,kL (id := "reversed.__next__") (n:=['_','_','t','x','e','n','_','_']) (o:=['d','e','s','r','e','v','e','r']) (by kernel_rfl) Np];kernel_rfl
def Rt:Slot "reversed" "__iter__" "reversed.__iter__" := .of (owner := "reversed") (n := "__iter__") (by rw[dX,cJ];kernel_rfl) (by decide +kernel) (by decide +kernel) (by decide +kernel) (.inl<|by decide +kernel)<|by rw[dU];kernel_rfl
def Xj(a:lC):argsOk "reversed.__iter__" ⟨[a],[]⟩:=by rw[argsOk,kL (id := "reversed.__iter__") (n:=['_','_','r','e','t','i','_','_']) (o:=['d','e','s','r','e','v','e','r']) (by kernel_rfl) Np];kernel_rfl
def T7:entryFor table "reversed.__iter__" = some Builtin.«dict_keyiterator.__iter__»:=entryFor_alias (id' := "dict_keyiterator.__iter__") (by kernel_rfl) (by first|rfl|decide +kernel) (by decide +kernel)<|by kernel_rfl
def CZ:typeLookup (.type "tuple") "__reversed__" = pure none:=by rw[dX,cJ];kernel_rfl
def T8:isSubtype (.type "tuple") (.type "dict")=pure false:=by rw[dU];kernel_rfl
def L1:Slot "reversed" "__init__" "object.__init__" := .of (owner := "object") (n := "__init__") (by rw[dX,cJ];kernel_rfl) (by decide +kernel) (by decide +kernel) (by decide +kernel) (.inl<|by decide +kernel)<|by rw[dU];kernel_rfl
def T9:TypeCalled "reversed" "reversed.__new__" "object.__init__" := ⟨by decide +kernel,F.create_reversed,⟨_,_,F.mro_reversed⟩,F.made_reversed,by decide +kernel,F.sub_reversed_self,L1⟩
section
variable {prog:lH}{w:lI}{A:lK}{E:lC->lD->Prop}{s:lD}{X:Cx}{tg a:lJ}{ta:AE}{pos p:Pos}{o e f:lJ}{au ak:Pos}{td ty tx te:AE}{p2 bh:Pos}
def Fo.typeIs{b t:lF}{i:Int}(x:Fo s.heap b t i):s.TypeIs (.ref b) "reversed" := by obtain⟨o,c,hc,_⟩:=x;exact⟨o,c,hc⟩
def Fo.at{h h':lL}{b t:lF}{i:Int}(x:Fo h b t i)(e:∀o,h.get? b=some o->h'.get? b=some o):Fo h' b t i:=by obtain⟨o,c,r⟩:=x;exact⟨o,e _ c,r⟩
def F5{t:lF}{items:oC lC}{Q:lC->lD->Prop}(g:IsTup s.heap t items)(k:¬(items.size:Int)>=2^63)
  (h:∀b,Q (.ref s.heap.objs.size) {s with heap:=s.heap.push<|No t<|(items.size:Int)-1,toks:=b}):qV prog w A (call (.type "reversed") [.ref t]) Q E s:=by
 have d:s.TypeIs (.ref t) "tuple" := g.typeIs;refine callType_newIn T9 (by decide) (F.typeCall_reversed_1 _) (F.newCall_reversed_1 _) (λi=>by kernel_rfl) F.entry_reversed_new (S:=λj R c=>c=s/\∀b,R (.ok<|.ret<|.ref s.heap.objs.size) {s with heap:=s.heap.push<|No t<|(items.size:Int)-1,toks:=b})
  (.of_wp λj R c h1=>?_) ⟨rfl,λb=>⟨⟨_,I_ _ rfl,rfl⟩,h b⟩⟩
 obtain⟨rfl,h1⟩:=h1;rw[Builtin.«reversed.__new__»];refine A_<|eK (newClass_reversed _) ?_;refine A_ (eK (a:=()) (by first|rfl|kernel_rfl)<|A_<|eK (a:=()) (by first|rfl|kernel_rfl) ?_);refine A_<|c_ d CZ<|A_ ?_;refine(show wpAny _ _ (isInstance (.ref t) (.type "dict")>>=_) _ _ c from A_<|dA d T8 ?_);rw[M_ S_];refine A_<|c_ d F.slot_tuple_getitem.lookup ?_;dsimp only;rw[T_<|by decide];refine C_ ?_;rw[show(!true)=false from rfl,M_ S_];refine A_ (PyProof.Rows.len_tuple g (by omega)<|A_<|eK (a:=some (items.size:Int)) rfl ?_);refine(show wpAny _ _ (newObj (.type "reversed") (.fields #[.ref t,rawInt<|(items.size:Int)-1])>>=_) _ _ _ from A_<|Z_<|C_ ⟨_,rfl,h1 _⟩)
def Nr{b t:lF}{i:Nat}{items:oC lC}{x:lC}{Q:oB lC->lD->Prop}(g:Fo s.heap b t (i:Int))(j:IsTup s.heap t items)(hx:items[i]?=some x)(q:t≠b)(hi:(i:Int)<2^63)
  (m:∀h k,Fo h b t ((i:Int)-1)->Heap.SameBut b s.heap h->Q (some x) {s with heap:=h,toks:=k}):qV prog w A (pyNext<|.ref b) Q E s:=by
 obtain⟨o,d,hc,c⟩:=id g;have l:s.TypeIs (.ref t) "tuple" := j.typeIs;unfold pyNext;refine A_<|dN<|aU (name:=Str.ofString "__next__") g.typeIs G3<|aN G3 g.typeIs Nq ?_<|Rs _;rw[Builtin.«reversed.__next__»];refine A_<|eK (a:=(Value.ref b,[])) rfl<|A_<|cK d c (x:=.ref t) rfl<|A_<|cK d c (x:=rawInt (i:Int)) rfl ?_;refine(show wpAny _ _ (if(i:Int)<0 then _ else _) _ _ s from ?_);rw[M_<|by omega];refine A_<|c_ l F.slot_tuple_getitem.lookup ?_;have hk:seqIndex? (i:Int) items.size=some i:=by
  have n:i<items.size:=by rcases cU i items.size with z|z;exact z;rw[cV z]at hx;cases hx
  have h0:¬((i:Int)<0):=by omega
  unfold seqIndex?;simp[n,h0]
 refine(show wpAny _ _ (mkInt (i:Int)>>=_) _ _ s from A_<|wpAny_mkInt<|A_<|dN<|PyProof.Rows.getItem_tuple j (by omega) hi hk hx ?_);refine A_<|cK d c (x:=rawInt (i:Int)) rfl ?_;refine(show wpAny _ _ (setField (.ref b) 1 (rawInt<|(i:Int)-1)>>=_) _ _ _ from A_<|eU d c (by simp)<|C_ ⟨x,rfl,C_<|m _ _ ?_<|aV ..⟩);exact⟨_,aM _ d<|fK<|dF c _,(iL ..).trans hc,by rw[dF c];simp⟩
def Pu{c t:lF}{Q:oB lC->lD->Prop}(k:A.handled=none)(h:Fo s.heap c t<|-1)
  (l:∀j,Heap.ExtBut c s.heap j->Q none {s with heap:=j}):qV prog w A (pyNext<|.ref c) Q E s:=by
 obtain⟨o,g,hc,d⟩:=id h;unfold pyNext;refine A_<|dN<|aU (name:=Str.ofString "__next__") h.typeIs G3<|aN G3 h.typeIs Nq ?_<|Rs _;rw[Builtin.«reversed.__next__»];refine A_<|eK (a:=(Value.ref c,[])) rfl<|A_<|cK g d (x:=.ref t) rfl<|A_<|cK g d (x:=rawInt<|-1) rfl ?_;refine(show wpAny _ _ (if(-1:Int)<0 then _ else _) _ _ s from ?_);rw[T_<|by decide];refine A_<|eC<|A_ ?_;have h1:(s.heap.update c<|Obj.mapFields λi=>i.set! 1<|rawInt<|-1).get? c=some (o.mapFields λi=>i.set! 1<|rawInt<|-1):=aM _ g<|fK<|dF d _;refine(show wpAny _ _ (setField (.ref c) 1 (rawInt<|-1)>>=λ_=>setField (.ref c) 0 .none) _ _ s from A_<|eU g d (by simp)<|eU h1 (dF d _) (by simp) ?_);refine A_<|show wpAny _ _ (newExc (.type "StopIteration") []>>=_) _ _ _ from A_ ?_;simp only[newExc,newTuple];refine A_ (Z_ (A_ (m:=firstArgMember _ _)<|eK (a:=Value.none) (by first|rfl|(simp only[firstArgMember];rfl))<|Z_ ?_<|by size_fits)<|by size_fits);simp only[raiseNew];refine A_<|jD<|show wpAny _ _ _ _ _ _ from ?_;rw[show A.in1.handled=none from k];refine A_<|C_<|kF<|show wpAny _ _ _ _ _ _ from ?_;refine A_<|dA (T := "StopIteration") (b:=true) ⟨_,I_ _ rfl,rfl⟩ gO<|C_<|l _ ?_;exact λb n hb e=>DD _<|DD _<|((aV _ c _).2 b hb).trans<|((aV s.heap c _).2 b hb).trans e
def Xk{b t:lF}{i:Int}{Q:lC->lD->Prop}(c:Fo s.heap b t i)(h:Q (.ref b) s):qV prog w A (pyIter<|.ref b) Q E s :=
 eD c.typeIs Rt (aN Rt c.typeIs T7 (C_ ⟨_,rfl,"reversed",_,c.typeIs,G3.lookup,h⟩)<|Xj _)
def Irv(K:lG)(a:lF)(n:Nat):It :=
 ⟨λi H=>∃b x,Il K H a b/\b.length=n/\b.reverse[i]?=some x,λi H x c=>c=H/\∀b,Il K H a b->b.reverse[i]?=some x,λi H=>∃b,Il K H a b/\b.length=n/\n<=i⟩
def L3{b:Type}{xs:oA b}{i:Nat}{x:b}(h:xs.reverse[i]?=some x):i<xs.length/\xs[xs.length-1-i]?=some x:=by
 have hi:i<xs.length:=by have:=(E_.mp h).1;simpa using this
 rw[List.getElem?_reverse hi]at h;exact⟨hi,h⟩
def Xl{P:lH}{w:lI}{K:lG}{tg:lJ}(a g:lF)(am:a≠g)(n:Nat)(hn:(n:Int)<2^63):Turn P w K tg (Irv K a n) [g] g (λi h=>i<=n/\Fo h g a ((n:Int)-1-i)) where
 mem:=by simp
 obj:=λi h st b hb=>by
  have e:b=g:=by simpa using hb
  subst e;obtain⟨_,o,e,c,d⟩:=st;exact⟨o,e,λv z=>by rw[d]at z;cases z⟩
 keep:=λi h l st k=>⟨st.1,st.2.at λo e=>k g (by simp) o e⟩
 item:=by
  intro X N r L hc i R s S H E I m st t;subst N r L;obtain⟨W,x,hq,T,hx⟩:=t;obtain⟨V,O,p,hz⟩:=I.tuple hq;have ag:=O.length;obtain⟨hi,l9⟩:=L3 hx;obtain⟨u,hu,ru⟩:=O.get l9;obtain⟨F,B,f2,D,J,M⟩:=m g (by simp);have y:(n:Int)-1-i=((n-1-i:Nat):Int):=by omega
  have j:=st.2;rw[y]at j;refine Nr j (show IsTup s.heap a V.toArray from p) (x:=u) (by rw[<- T];simpa using hu) am (by omega) λl G C Y=>?_;have Z:Inv X R S H {s with heap:=l,toks:=G}:=I.turned (t':=G) (λb o hb e=>(Y.2 b hb).trans e) F B D J M;have e2:((n-1-i:Nat):Int)-1=(n:Int)-1-((i+1:Nat):Int):=by omega
  rw[e2]at C;obtain⟨o,e,c,d⟩:=id C;exact⟨u,rfl,Mv (s:={s with heap:=l,toks:=G}) e c d (by decide) ⟨x,H,Z,ru,⟨rfl,λys hy=>by rw[I.tuple_inj hy hq];exact hx⟩,⟨by omega,C⟩,λb hb=>(m b hb).1⟩⟩
 done:=by
  intro X N r L hc i R s S H E I m st t;subst N r L;obtain⟨W,hq,T,hx⟩:=t;obtain⟨F,B,f2,D,J,M⟩:=m g (by simp);have y:(n:Int)-1-i=-1:=by have:=st.1;omega
  have j:=st.2;rw[y]at j;refine Pu (I.ok.hd hc) j λl U=>⟨rfl,?_⟩;exact I.turned (t':=s.toks) (λb o hb e=>U b o hb e) F B D J M
 self:=λA i s Q E st q=>Xk st.2 q
def Xm{K:lG}{t:Hp}{a:lF}{xs:oA AV}{n:Nat}{l:M->Prop}(hn:xs.length=n)(h:∀H d,Kp t H->Cn K d H->l d->∃b,Il K H a b/\Aw K H xs b):ItOk K t (Irv K a n) xs.reverse l:=by
 refine⟨λi H d S c k hi=>?_,λi H d v F x S c k e y=>?_,λH d S c k=>?_⟩;obtain⟨b,q,r⟩:=h H d S c k;have g:=r.length;have z:i<b.reverse.length:=by simp at hi ⊢;omega
 exact⟨b,b.reverse[i],q,by omega,J_ z⟩
 obtain⟨b,q,r⟩:=h H d S c k;obtain⟨rfl,y⟩:=y;have B:=y b q;have g:=r.length;obtain⟨hi,D⟩:=L3 e;obtain⟨u,j,C⟩:=r.get D;obtain⟨G,m⟩:=L3 B;rw[<- g]at m;rw[m]at j;cases j;exact⟨Kp.refl,c,C⟩;obtain⟨b,q,r⟩:=h H d S c k;exact⟨b,q,by rw[<- r.length];exact hn,by rw[gU];omega⟩
def WW(t:AE):AI:=λc g R=>t c g λx b=>match x with
 |.D (.tuple d)=>R (d.map AV.D).reverse (λ_=>True) b
 |_=>False
def JN(O:Gl X "reversed") (hm:X.mg "reversed" = none) (Z:VE X a ta) (hs:starEach [a] X.env=[(false,eval a X.env)]:=by rfl):VI X tg (.Call (.Name "reversed" p) [a] [] pos) (WW ta):=by
 intro P s V H R I j;refine B1 j λτ C R' Y hc h hq=>?_;refine cF<|Dt I O hm boot_reversed ?_;refine bE ?_ hs rfl;rw[hs];refine bG<|thn (Z P s V H (λv l=>∃i d,Kp H l/\Cn X.K d l/\RelA X.K l (.D<|.tuple i) v/\R' (i.map AV.D).reverse (λ_=>True) d) I ⟨τ,C,_,Y,hc,h,λx d v l B n r hx=>?_⟩) λu g N=>b_ ?_;split at hx;exact⟨_,d,B,n,r,hx⟩;exact hx.elim;obtain⟨xv,l,t,r1,i,d,B,n,r,hx⟩:=N;have hi:items d (.D<|.tuple i)=some (i.map AV.D):=rfl;obtain⟨q,vs,rfl,hp,U⟩:=Cm n r hi;cases r1;rcases hp with⟨z,_⟩|⟨_,hp⟩;exact absurd z (by simp[FS]);obtain⟨k,J,F,hz⟩:=t.tuple hp;have ag:=J.length;have T:(k.length:Int)<2^63:=by
  have:sizeLine<2^62:=by decide
  omega
 refine F5 (show IsTup g.heap q k.toArray from F) (by rw[aA];omega) λW=>?_;have L:q<g.heap.objs.size:=by obtain⟨_,Q,_⟩:=F;exact O_ Q
 have m:∀b o,g.heap.get? b=some o->(g.heap.push<|No q<|(k.toArray.size:Int)-1).get? b=some o:=λb o e=>DD _ e;have G:Fo (g.heap.push<|No q<|(k.toArray.size:Int)-1) g.heap.objs.size q ((k.length:Int)-1-(0:Nat)):=⟨_,I_ _ rfl,rfl,by simp[No]⟩;refine Xk G ?_;refine⟨g.heap.objs.size,[g.heap.objs.size],_,_,l,rfl,t.kept (t':=W) m,Xl q _ (Y_ L) k.length T,⟨aJ _,G⟩,λb hb=>?_,hq _ _ _ _ _ B n (Xm ?_ λH C S c _=>?_) hx⟩;have e:b=g.heap.objs.size:=by simpa using hb
 subst e;exact t.fpOk (F_ _)<|t.hok.fresh<|F_ _;rw[<- ag,<- U.length];obtain⟨q2,M,e,y,rw⟩:=Cm c (r.kp S)<|show items C (.D<|.tuple i)=some (i.map AV.D) from rfl;cases e;rcases y with⟨z,_⟩|⟨_,y⟩;exact absurd z (by simp[FS]);exact⟨M,y,rw⟩
def JO:MO->Prop
 |.dk _=>True
 |.dt _=>True
 |_=>False
def Xn(td ty tx:AE):AE:=λh i R=>td h i λx c=>match x with
 |.R a=>(∃m,c a=some m/\JO m)/\ty h c λy g=>tx h g λz b=>match y with
  |.D d=>opt (b a) λm=>opt (dget m d) λr=>R (r.getD z) b
  |_=>False
 |_=>False
def Xo{K:lG}{i:M}{H:Hp}{a:lF}{m:MO}(hc:Cn K i H)(e:i a=some m)(h:JO m):TX H a:=by
 obtain⟨k,d,g⟩:=hc a m e;cases m with
 |dk b=>obtain⟨c,rfl,_⟩:=g;exact .inl ⟨c,.inl d⟩
 |dt b=>obtain⟨c,rfl,_⟩:=g;exact .inr ⟨c,.inl d⟩
 |lst j=>exact h.elim
 |dd b=>exact h.elim
def G4(hu:X.A.units+1<cLine)(I:VE X o td)(he:VE X e ty)(S:VE X f tx)(m:M2 X o "get" au e f ak:=by exact⟨rfl,rfl,rfl,rfl⟩):VE X (.Call (.Attribute o "get" au) [e,f] [] ak) (Xn td ty tx):=(V9 hu I he S m).imp λY H Q b=>B1 b λl M R i hc h hq=>
 ⟨l,M,_,i,hc,h,λx n v W c C J hx=>by
  split at hx
  ·rename_i a;obtain⟨⟨T,q,P⟩,hx⟩:=hx;cases J;refine⟨a,rfl,Xo C q P,l,n,_,i.kp c,C,hx,λy j u V t c2 F hy=>⟨l,j,_,(i.kp c).kp t,c2,hy,λz G U Z B D N hz=>?_⟩⟩;split at hz
   ·obtain⟨m,L,hz⟩:=Ay hz;obtain⟨r,O,hz⟩:=Ay hz;obtain⟨d,g,k⟩:=Io D L (Dk.kp B _ _ F) O;refine⟨d,g,hq _ _ _ _ ((c.trans t).trans B) D ?_ hz⟩;cases r with
    |none=>
     cases d with
     |none=>exact N
     |some _=>exact k.elim
    |some _=>
     cases d with
     |none=>exact k.elim
     |some _=>exact k
   exact hz.elim
  exact hx.elim⟩
def PB(te:AE):AE:=λc d R=>te c d λx b=>match x with
 |.R a=>opt (b a) λm=>match m with
  |.lst g=>∀l,b l=none->R (.R l) (Al b l<|.lst g.reverse)
  |_=>False
 |_=>False
def DA(hc:X.calm=true)(i:Gl X "list") (B:X.mg "list" = none) (r:Gl X "reversed") (j:X.mg "reversed" = none) (he:VE X e te)
  (hs:starEach [.Call (.Name "reversed" p2) [e] [] bh] X.env=[(false,eval (.Call (.Name "reversed" p2) [e] [] bh) X.env)]:=by rfl) (z:starEach [e] X.env=[(false,eval e X.env)]:=by rfl) :
  VE X (.Call (.Name "list" p) [.Call (.Name "reversed" p2) [e] [] bh] [] pos) (PB te):=(BY hc i B r j he hs z).imp λI H Q b=>B1 b λC y R hs hc h hq=>
 ⟨C,y,_,hs,hc,h,λx D v G k c n hx=>by
  split at hx;rename_i a;obtain⟨m,t,hx⟩:=Ay hx;split at hx;obtain⟨F,q,g,rfl,u⟩:=c _ _ t;cases n;exact⟨a,g,rfl,E4.of q,λl d=>hq _ _ _ _ (k.trans<|Kp.new d _) (c.new d<|C2 u.rev) Du<|hx l<|c.none d⟩;exact hx.elim;exact hx.elim⟩
end
end L2
namespace L2
open PySem
def Ex(xs:oC Nat):Prop:=xs.toList.Pairwise (· < ·)
def Ex.lt{xs:oC Nat}(h:Ex xs){i j:Nat}{d:Nat}(a:i<j)(hj:j<xs.size):xs.getD i d<xs.getD j d:=by have:=List.pairwise_iff_getElem.mp h i j (by simp;exact fF a hj) (by simpa using hj) a;simp only[Array.getElem_toList]at this;simp only[Array.getD,show i<xs.size from Nat.lt_trans a hj,hj,dif_pos];exact this
theorem Jj{xs:oC Nat}(h:Ex xs){j:Nat}:∀(f lo hi:Nat),hi-lo<=f->lo<=hi->hi<=xs.size->(∀i,i<lo->xs.getD i j<j)->(∀i,hi<=i->i<xs.size->j<=xs.getD i j) ->
  SetTable.below.go xs j f lo hi<=xs.size/\(∀i,i<SetTable.below.go xs j f lo hi->xs.getD i j<j)/\∀i,SetTable.below.go xs j f lo hi<=i->i<xs.size->j<=xs.getD i j
 | 0,lo,hi,h1,h2,a,b,g=>by
  have e:lo=hi:=by omega
  subst e;exact⟨a,b,g⟩
 |f+1,lo,hi,h1,h2,a,b,g=>by
  rw[SetTable.below.go];by_cases c:lo<hi;rw[T_ c];dsimp only;by_cases c2:xs.getD ((lo+hi) / 2) j<j;rw[T_ c2];refine Jj h f _ _ (by omega) (by omega) a (λi k=>?_) g;by_cases e:i=(lo+hi) / 2;rw[e];exact c2;have:=h.lt (d:=j) (show i<(lo+hi) / 2 by omega) (show(lo+hi) / 2<xs.size by omega);exact fF this c2;rw[M_ c2];refine Jj h f _ _ (by omega) (by omega) (by omega) b λi k l=>?_;by_cases e:i=(lo+hi) / 2;rw[e];exact kQ c2;have:=h.lt (d:=j) (show(lo+hi) / 2<i by omega) l;omega;rw[M_ c];have e:lo=hi:=by omega
  subst e;exact⟨a,b,g⟩
def Ey{xs:oC Nat}(h:Ex xs)(j:Nat):SetTable.below xs j<=xs.size/\(∀i,i<SetTable.below xs j->xs.getD i j<j)/\∀i,SetTable.below xs j<=i->i<xs.size->j<=xs.getD i j :=
 Jj h xs.size 0 xs.size (h_ _ _) (aJ _) (F_ _) (λi hi=>absurd hi<|jL _) λi hi a=>by omega
def Pw{xs:oC Nat}(h:Ex xs){k:Nat}(hk:k<xs.size):SetTable.below xs (xs[k]+1)=k+1:=by
 obtain⟨e,b,a⟩:=Ey h<|xs[k]+1;have g:∀i,(hi:i<xs.size)->xs.getD i (xs[k]+1)=xs[i]:=λi hi=>by simp[Array.getD,hi]
 rcases kG (SetTable.below xs<|xs[k]+1) (k+1) with c|c|c;have:=a k (eE c) hk;rw[g k hk]at this;omega;exact c;have h1:k+1<xs.size:=R_ c e;have:=b (k+1) c;rw[g _ h1]at this;have h2:=h.lt (d:=0) (dO k) h1;simp only[Array.getD,hk,h1,dif_pos]at h2;have f:xs[k]<xs[k+1]:=h2;omega
def Px{xs:oC Nat}(h:Ex xs):SetTable.below xs 0=0:=by obtain⟨c,a,b⟩:=Ey h 0;rcases jZ (SetTable.below xs 0) with e|e;exact e;have:=a 0 e;omega
def Fp{a:Type}(xs:oC a)(p:Nat)(x:a)(hp:p<=xs.size):(SetTable.insertAt xs p x).toList=xs.toList.take p++x::xs.toList.drop p:=by rw[SetTable.toList_insertAt]
def Nt{xs:oC Nat}(h:Ex xs){j:Nat}(hj:xs[SetTable.below xs j]?≠some j):Ex (SetTable.insertAt xs (SetTable.below xs j) j):=by
 obtain⟨g,o,f⟩:=Ey h j;unfold Ex;rw[Fp _ _ _ g];have m:∀a∈xs.toList.take (SetTable.below xs j),a<j:=λa ha=>by
  obtain⟨i,hi,e⟩:=eF ha;have h1:i<SetTable.below xs j:=by rw[bI]at hi;omega
  have:=o i h1;simp only[Array.getD,show i<xs.size from Nat.lt_of_lt_of_le h1 g,dif_pos]at this;rw[<- e];simpa using this
 have l:∀a∈xs.toList.drop (SetTable.below xs j),j<a:=λa ha=>by
  obtain⟨i,hi,e⟩:=eF ha;have h1:SetTable.below xs j+i<xs.size:=by rw[dZ]at hi;simp at hi;omega
  have h2:=f _ (bQ _ i) h1;simp only[Array.getD,h1,dif_pos]at h2;have q:a=xs[SetTable.below xs j+i]:=by rw[<- e];simp
  have t:a≠j:=by
   intro z;by_cases c:i=0;subst c;apply hj;rw[aC<|by omega];exact bO some<|q.symm.trans z;have h0:SetTable.below xs j<xs.size:=by omega
   have k:=f _ (F_ _) h0;simp only[Array.getD,h0,dif_pos]at k;have n:=h.lt (d:=0) (show SetTable.below xs j<SetTable.below xs j+i by omega) h1;simp only[Array.getD,h0,h1,dif_pos]at n;have p:xs[SetTable.below xs j]<xs[SetTable.below xs j+i]:=n;have s:j<=xs[SetTable.below xs j]:=k;omega
  have r:j<=xs[SetTable.below xs j+i]:=h2;omega
 refine List.pairwise_append.mpr ⟨h.sublist<|eY _ _,j_.mpr ⟨l,h.sublist<|List.drop_sublist _ _⟩,λa ha b hb=>?_⟩;rcases aB.mp hb with rfl|hb;exact m a ha;have:=m a ha;have:=l b hb;omega
structure TblOk(t:SetTable)(led:Bool):Prop where
 rise:Ex t.place
 dum:t.dummies=#[]
 led:t.led=led
def TblOk.plain{t:SetTable}{led:Bool}(h:TblOk t led)(b:Bool):TblOk {t with plain:=b} led:=⟨h.rise,h.dum,h.led⟩
def Nu(j:Nat):SetTable.has #[] j=false:=by unfold SetTable.has;simp
def Py{t:SetTable}{led:Bool}(h:TblOk t led){j:Nat}(e:t.slot j=.empty):t.place[SetTable.below t.place j]?≠some j:=by unfold SetTable.slot at e;dsimp only at e;split at e;cases e;rename_i c;simpa using c
def TblOk.put{t:SetTable}{led:Bool}(h:TblOk t led){s:Nat}(hs:t.place[SetTable.below t.place s]?≠some s):TblOk (t.put s).1 led:=by refine⟨Nt h.rise hs,?_,h.led⟩;show(if SetTable.has t.dummies s then _ else t.dummies)=#[];rw[h.dum,Nu];rfl
theorem TblOk.laid{mask finger moves:Nat}{led plain:Bool}{hs:oC Int}{t:SetTable}{h:oC Nat}(e:SetTable.laid mask finger moves led plain hs=some (t,h)):TblOk t led:=by
 unfold SetTable.laid at e;cases c:SetTable.layClean mask hs with
 |none=>rw[c]at e;cases e
 |some d=>rw[c]at e;have i:=bA e;injection i with e1 _;subst e1;refine⟨?_,rfl,rfl⟩;unfold Ex;show(List.map _ _).Pairwise _;rw[iM];refine List.Pairwise.filterMap _ (R:=(· < ·)) (λa l f b hb j g=>?_) iN;obtain⟨z,_,rfl⟩:=G_.mp hb;obtain⟨k,_,rfl⟩:=G_.mp g;exact f
def TblOk.fresh(led:Bool):TblOk (.fresh 0 0 led) led:=⟨List.Pairwise.nil,rfl,rfl⟩
section
variable {prog:lH}{w:lI}{Kt:Type} [DecidableEq Kt]{knd:KeyKind prog w Kt}{A:lK}{E:lC->lD->Prop}{s:lD}{a:lF}{led:Bool}
end
def G5:plainId "set.update.loop" = true:=by decide +kernel
def Nv:entryFor table "set.update.loop" = some Builtin.«set.update.loop»:=kT<|by kernel_rfl
section
variable {prog:lH}{w:lI}{Kt:Type} [DecidableEq Kt]{knd:KeyKind prog w Kt}{A:lK}{R:lT->lD->Prop}{sa it t:lF}{led:Bool}
end
section
variable {prog:lH}{w:lI}{A:lK}{E:lC->lD->Prop}{s:lD}
def Xp{M:Model}{self v:lC}{Q:Unit->lD->Prop}(a:s.TypeIs self "set") (q:Q () s):wpAny M A (checkBuiltinCall "set.__init__" ⟨[self,v],[]⟩) Q E s:=by
 simp only[checkBuiltinCall,kind_set_init,split_set_init,sig_set_init];refine A_<|dA a sub_set_self<|show wpAny _ _ _ _ _ _ from ?_;rw[show(!true)=false from rfl,M_ S_];unfold Bind.checkArgs;dsimp only;refine A_ (m:=Bind.printed "set" true _ _) (PyProof.Rows.printed_name (by decide)<|A_ (m:=Bind.printed "*" false _ _)<|PyProof.Rows.printed_star (self:=self) rfl a λb=>?_);have e:(if(Manifest.Receiver.self==Manifest.Receiver.none)=true then [self,v].length else [self,v].length-1)=1:=rfl;rw[e];have hc:Bind.check ⟨.positional,"set","*",.self,[⟨"iterable",.posOnly,false⟩]⟩ "set" b 1 []=pure ():=by simp +decide [Bind.check,Bind.checkCount,Bind.isPositional]
 simp only[List.map_nil];rw[hc];exact C_ q
def DB(v:lC):checkTypeCall "set" ⟨[v],[]⟩=pure ():=by kernel_rfl
def JP(v:lC):checkBuiltinCall "set.__new__" ⟨[.type "set",v],[]⟩=pure ():=by kernel_rfl
def Ga(w:lI):Bool:=!(w.params.followText "set-order")
def Ce(w:lI):lM:={cls:=.type "set",dict:=none,data:=.set #[] 0 (.fresh 0 0<|Ga w)}
def DC{v:lC}{Q1:lC->lD->Prop}(h:Q1 (.ref s.heap.objs.size) {s with heap:=s.heap.push<|Ce w}) :
  codeAny (model prog w) A (.call (.builtin "set.__new__") ⟨[.type "set",v],[]⟩) (wants Q1 E) s:=by
 refine codeAny_of_tree<|show wpAny _ A.in1 (do checkBuiltinCall "set.__new__" ⟨[.type "set",v],[]⟩;again<|.builtin "set.__new__" ⟨[.type "set",v],[]⟩) _ _ s from ?_;refine A_<|eK (JP v)<|C_ ⟨dM F.plain_set_new _,dH F.entry_set_new<|show wpAny _ _ _ _ _ _ from ?_⟩;rw[bX F.plain_set_new _];unfold Builtin.«set.__new__» Builtin.Frozenset.newClass;have a:=sub_set_self;obtain⟨hp,g,d,b,os⟩:=s;dsimp only
 wp_walk
 refine kU<|C_<|show wpAny _ _ _ _ _ _ from ?_;dsimp only;simp only[newObj];exact A_<|wpAny_alloc<|C_<|C_ h
def Pz{v:lC}{Q:lC->lD->Prop}(h:wpAny (model prog w) A.in1.in1 (Builtin.Frozenset.updateFrom "set.__init__" s.heap.objs.size v) (λ_ a=>Q (.ref s.heap.objs.size) a) E {s with heap:=s.heap.push<|Ce w}) :
  wpAny (model prog w) A (call (.type "set") [v]) Q E s:=by
 obtain⟨c,y,k⟩:=F.called_set.mro;have m:=F.called_set.made;have n:=F.called_set.sub;refine wpAny_call<|codeAny_of_tree<|show wpAny _ _ (callAny (.type "set") _) _ _ _ from ?_;refine C_ ⟨Code.quiet_builtin _<|by decide +kernel,dH F.entry_type_call ?_⟩;rw[Around.under_plain (weight_type_call_type "set" [v] []) rfl];have t:=F.called_set.notType;have u:=F.called_set.canCreate;have o:=DB v
 repeat any_goals first|assumption|wp_step
 refine jU (DC (E:=E) (Q1:=λi j=>i=.ref s.heap.objs.size/\j={s with heap:=s.heap.push<|Ce w}) ⟨rfl,rfl⟩) λr j b=>?_;cases r with
 |error e=>exact b
 |ok fl=>
  cases fl with
  |ret i=>
   obtain⟨rfl,rfl⟩:=b;have g:(s.heap.push<|Ce w).get? s.heap.objs.size=some (Ce w):=I_ _ rfl;have T:Shared.TypeIs {s with heap:=s.heap.push<|Ce w} (.ref s.heap.objs.size) "set" := ⟨_,g,rfl⟩;have x:=F.called_set.init.lookup;have p:=F.called_set.init.bind<|.ref s.heap.objs.size
   repeat any_goals first|assumption|wp_step
   refine jU (codeAny_call_builtin (R:=wants (λr a=>r=.none/\Q (.ref s.heap.objs.size) a) E) F.called_set.init.plain F.entry_set_init<|Xp T ?_) λl a d=>?_
   ·unfold Builtin.«set.__init__» noKeywords;generalize hU:Builtin.Frozenset.updateFrom=U at h ⊢;unfold Ce at g
    wp_walk
    exact cD h (λ_ _ q=>C_ ⟨rfl,q⟩) λ_ _ e=>e
   ·cases l with
    |error e=>exact d
    |ok f=>
     cases f with
     |ret z=>
      obtain⟨rfl,q⟩:=d
      repeat any_goals first|assumption|wp_step
     |_=>exact d.elim
  |_=>exact b.elim
def Nw:isSubtype (.type "tuple") (.type "set")=pure false:=by rw[dU];kernel_rfl
def Nx:isSubtype (.type "tuple") (.type "frozenset")=pure false:=by rw[dU];kernel_rfl
end
section
variable {prog:lH}{w:lI}{Kt:Type} [DecidableEq Kt]{knd:KeyKind prog w Kt}{A:lK}{E:lC->lD->Prop}{s:lD}{sa t:lF}{led:Bool}
end
def Ny:Manifest.owners.lookup (String.ofList ['r','o','t','a','r','e','t','i','_','t','e','s'].reverse)=some Manifest.sig_set_iterator:=by kernel_rfl
def Ef:Slot "set_iterator" "__next__" "set_iterator.__next__" := .of (owner := "set_iterator") (n := "__next__") (by rw[dX,cJ];kernel_rfl) (by decide +kernel) (by decide +kernel) (by decide +kernel) (.inl<|by decide +kernel)<|by rw[dU];kernel_rfl
def Nz:entryFor table "set_iterator.__next__" = some Builtin.«set_iterator.__next__»:=kT<|by kernel_rfl
def Ru(a:lC):argsOk "set_iterator.__next__" ⟨[a],[]⟩:=by rw[argsOk,kL (id := "set_iterator.__next__") (n:=['_','_','t','x','e','n','_','_']) (o:=['r','o','t','a','r','e','t','i','_','t','e','s']) (by kernel_rfl) Ny];kernel_rfl
def Rv:Slot "set_iterator" "__iter__" "set_iterator.__iter__" := .of (owner := "set_iterator") (n := "__iter__") (by rw[dX,cJ];kernel_rfl) (by decide +kernel) (by decide +kernel) (by decide +kernel) (.inl<|by decide +kernel)<|by rw[dU];kernel_rfl
def Xq(a:lC):argsOk "set_iterator.__iter__" ⟨[a],[]⟩:=by rw[argsOk,kL (id := "set_iterator.__iter__") (n:=['_','_','r','e','t','i','_','_']) (o:=['r','o','t','a','r','e','t','i','_','t','e','s']) (by kernel_rfl) Ny];kernel_rfl
def Ua:entryFor table "set_iterator.__iter__" = some Builtin.«dict_keyiterator.__iter__»:=entryFor_alias (id' := "dict_keyiterator.__iter__") (by kernel_rfl) (by first|rfl|decide +kernel) (by decide +kernel)<|by kernel_rfl
def P0:entryFor table "set.__iter__" = some Builtin.«frozenset.__iter__»:=entryFor_alias (id' := "frozenset.__iter__") (by kernel_rfl) (by first|rfl|decide +kernel) (by decide +kernel)<|by kernel_rfl
section
variable {prog:lH}{w:lI}{A:lK}{E:lC->lD->Prop}{s:lD}
def P7{M:Model}{a:Source}{n:Nat}{Q:Nat->lD->Prop}(hn:n≠0)(h:∀i b,i<n->Q i {s with drawn:=b}):wpAny M A (choose a n) Q E s:=λΓ p _=>by unfold choose;rw[Sem.wp_choose];refine⟨hn,?_⟩;rw[Sem.wp_pure];exact h _ _<|Nat.mod_lt _<|gD hn
theorem Ho{a:Type}:∀{xs:oA a} {i:Nat} {x:a},xs[i]?=some x->(x::xs.eraseIdx i).Perm xs
 |_::_,0,_,h=>by simp at h;subst h;exact List.Perm.refl _
 |y::b,i+1,x,h=>by have:=Ho (xs:=b) (i:=i) (x:=x) (by simpa using h);exact(List.Perm.swap y x _).trans<|this.cons y
theorem Jk{M:Model}{c:Type}:∀(n:Nat) (xs:oA c) (s:lD) (Q:oA c->lD->Prop),xs.length=n->(∀b f,b.Perm xs->Q b {s with drawn:=f})->wpAny M A (drawOrder n xs) Q E s
 | 0,xs,s,Q,a,h=>by have:xs=[]:=bM a;subst this;exact C_ (h [] s.drawn<|List.Perm.refl _)
 |n+1,[],s,Q,a,h=>by cases a
 |n+1,x::xs,s,Q,a,h=>by unfold drawOrder;refine A_ (P7 (by simp) λi g hi=>?_);have e:(x::xs)[i]?=some (x::xs)[i]:=J_ hi;rw[e];refine A_<|Jk n _ _ _ ?_ λb d hp=>C_<|h _ d<|(hp.cons _).trans<|Ho e;rw[List.length_eraseIdx_of_lt hi];simp at a ⊢;exact a
theorem Rw{d:Type}(next:Nat->Nat):∀(n k:Nat) (left:oA d) (a:oC d),left.length=n->(pickOrder.go next n k left a).toList.Perm (a.toList++left)
 | 0,k,left,a,c=>by have:left=[]:=bM c;subst this;unfold pickOrder.go;simp
 |n+1,k,left,a,c=>by
  unfold pickOrder.go;have b:next k%left.length<left.length:=Nat.mod_lt _<|by omega
  have e:left[next k%left.length]?=some left[next k%left.length]:=J_ b;rw[e];dsimp only;refine(Rw next n (k+1) _ _ (by rw[List.length_eraseIdx_of_lt b];omega)).trans ?_;rw[kH,eZ];exact(Ho e).append_left _
def Ub{a:Type}(next:Nat->Nat)(xs:oC a):(pickOrder next xs).toList.Perm xs.toList:=by unfold pickOrder;simpa using Rw next xs.size 0 xs.toList #[] (by simp)
def D7(h:lL)(a:lF)(es:oC<|Int×lC)(ep:Nat)(t:SetTable):Prop:=∃o,h.get? a=some o/\o.cls=.type "set" /\ o.data=.set es ep t/\t.fits es.size=true
def D7.typeIs{a:lF}{es:oC<|Int×lC}{ep:Nat}{t:SetTable}(x:D7 s.heap a es ep t):s.TypeIs (.ref a) "set" := by obtain⟨o,b,hc,_⟩:=x;exact⟨o,b,hc⟩
def D7.at{h h':lL}{a:lF}{es:oC<|Int×lC}{ep:Nat}{t:SetTable}(x:D7 h a es ep t)(e:∀o,h.get? a=some o->h'.get? a=some o):D7 h' a es ep t:=by obtain⟨o,b,r⟩:=x;exact⟨o,e _ b,r⟩
def Fq(h:lL)(b a:lF)(first:lC)(i n ep:Nat):Prop:=∃o,h.get? b=some o/\o.cls=.type "set_iterator" /\ o.data=.fields #[first,rawInt i,.ref a,rawInt n,rawInt ep]
def Fq.typeIs{b a:lF}{first:lC}{i n ep:Nat}(x:Fq s.heap b a first i n ep):s.TypeIs (.ref b) "set_iterator" := by obtain⟨o,c,hc,_⟩:=x;exact⟨o,c,hc⟩
def Fq.at{h h':lL}{b a:lF}{first:lC}{i n ep:Nat}(x:Fq h b a first i n ep)(e:∀o,h.get? b=some o->h'.get? b=some o):Fq h' b a first i n ep:=by obtain⟨o,c,r⟩:=x;exact⟨o,e _ c,r⟩
def Jl(pl:oC Nat):Nat->Nat
 | 0=>0
 |i+1=>pl.getD i 0+1
inductive Mode (w:lI) (a:lF) (es:oC<|Int×lC) (ep:Nat) (t:SetTable) (h:lL):Nat->lC->oA lC->Prop
 |text {i:Nat} (hb:w.params.followText "set-order" = true):Mode w a es ep t h i (rawInt 0) ((pickOrder (w.params.setOrder a ep) es).toList.map (·.2))
 |table {i:Nat} (hb:w.params.followText "set-order" = false) (hd:(!t.plain&&decide (es.size>1))=false):Mode w a es ep t h i (rawInt<|Jl t.place i) (es.toList.map (·.2))
 |drawn {i:Nat} {pt:lF} {ps:oA Nat} (hb:w.params.followText "set-order" = false) (hp:ps.Perm<|List.range es.size) (ht:h.IsTuple pt (ps.map λ(j:Nat)=>rawInt j).toArray):Mode w a es ep t h i (.ref pt)<|ps.map λj=>(es.getD j (0,.none)).2
def Uc{a:Type}(xs:oC a)(d:a):(List.range xs.size).map (λj=>xs.getD j d)=xs.toList:=by refine List.ext_getElem (by simp) λi h1 h2=>?_;simp at h1 h2 ⊢;simp[h1]
def Mode.perm{a:lF}{es:oC<|Int×lC}{ep:Nat}{t:SetTable}{h:lL}{i:Nat}{first:lC}{ord:oA lC}(m:Mode w a es ep t h i first ord):ord.Perm (es.toList.map (·.2)):=by
 cases m with
 |text hb=>exact(Ub _ _).map _
 |table hb d=>exact List.Perm.refl _
 |@drawn b c hb hp e=>have:=hp.map λj=>(es.getD j (0,Value.none)).2;refine this.trans<|List.Perm.of_eq ?_;rw[<- Uc es (0,Value.none),aD];rfl
def F2{Q:Bool->lD->Prop}(h:Q (w.params.followText "set-order") s):qV prog w A setsByText Q E s:=by unfold setsByText;exact A_<|kU<|C_ h
def P8{a:lF}{es:oC<|Int×lC}{ep:Nat}{t:SetTable}{Q:lC->lD->Prop}(l:D7 s.heap a es ep t)(hz:es.size<=1000000)
  (h:∀j k r first ord,s.heap.objs.size<=j->(∀b o,s.heap.get? b=some o->k.get? b=some o)->Fq k j a first 0 es.size ep->Mode w a es ep t k 0 first ord->(∀c,first=.ref c->s.heap.objs.size<=c/\c≠j)->Q (.ref j) {s with heap:=k,drawn:=r}) :
  qV prog w A (pyIter<|.ref a) Q E s:=by
 obtain⟨o,d,hc,f,g⟩:=id l;refine eD l.typeIs F.slot_set_iter<|aN F.slot_set_iter l.typeIs P0 ?_<|F.args_set_iter_1 _;unfold Builtin.«frozenset.__iter__» Builtin.Frozenset.sizeOf setEntries setDrawn setEpoch;refine(show wpAny _ _ (_>>=_) _ _ _ from A_<|show wpAny _ _ (pure a) _ _ _ from C_<|A_<|A_<|A_<|bH d f g<|C_<|C_ ?_);refine A_<|A_<|bH d f g<|A_<|F2<|C_ ?_;cases hb:w.params.followText "set-order" with
 |true=>refine(show wpAny _ _ (if(!true&&_)=true then _ else _) _ _ _ from ?_);rw[Bool.not_true,Bool.false_and,M_ S_];refine A_<|C_<|A_<|A_<|bH d f g<|C_<|A_<|Z_<|C_ ⟨_,rfl,"set_iterator",_,⟨_,I_ _ rfl,rfl⟩,Ef.lookup,?_⟩;exact h _ _ s.drawn _ _ (F_ _) (λb o e=>DD _ e) ⟨_,I_ _ rfl,rfl,rfl⟩ (.text hb) λc e=>by cases e
 |false=>
  cases jn:(!t.plain&&decide (es.size>1)) with
  |false=>refine(show wpAny _ _ (if(!false&&(!t.plain&&decide (es.size>1)))=true then _ else _) _ _ _ from ?_);rw[jn,Bool.not_false,Bool.true_and,M_ S_];refine A_<|C_<|A_<|A_<|bH d f g<|C_<|A_<|Z_<|C_ ⟨_,rfl,"set_iterator",_,⟨_,I_ _ rfl,rfl⟩,Ef.lookup,?_⟩;exact h _ _ s.drawn _ _ (F_ _) (λb o e=>DD _ e) ⟨_,I_ _ rfl,rfl,rfl⟩ (.table hb jn) λc e=>by cases e
  |true=>
   refine(show wpAny _ _ (if(!false&&(!t.plain&&decide (es.size>1)))=true then _ else _) _ _ _ from ?_);rw[jn,Bool.not_false,Bool.true_and,T_ rfl];refine A_ (Jk _ _ _ _ (by simp) λn p hp=>?_);refine A_ (m:=newTuple _)<|show wpAny _ _ _ _ _ _ from ?_;simp only[newTuple];have u:n.length<=1000000:=by rw[hp.length_eq];simpa using hz
   refine Z_ ?_ (by size_fits);have q:=DD {cls:=Value.type "tuple",data:=Data.seq (List.map (λ(i:Nat)=>rawInt ↑i) n).toArray} d;refine A_<|A_<|bH q f g<|C_<|A_<|Z_<|C_ ⟨_,rfl,"set_iterator",_,⟨_,I_ _ rfl,rfl⟩,Ef.lookup,?_⟩;refine h _ _ p _ _ (by rw[dG];exact eJ _) (λb o e=>DD _<|DD _ e) ⟨_,I_ _ rfl,rfl,rfl⟩ (.drawn hb hp ⟨_,DD _<|I_ _ rfl,rfl,0,rfl⟩) λc e=>?_;cases e;exact⟨F_ _,Y_<|by rw[dG];exact dO _⟩
def P9{t:SetTable}(a:Ex t.place){i:Nat}(hi:i<=t.place.size):SetTable.below t.place (Jl t.place i)=i:=by
 cases i with
 |zero=>exact Px a
 |succ i=>have:=Pw a (k:=i)<|Nat.lt_of_succ_le hi;show SetTable.below t.place (t.place.getD i 0+1)=i+1;rw[show t.place.getD i 0=t.place[i] by simp[show i<t.place.size from Nat.lt_of_succ_le hi]];exact this
def Kz{a:lF}{es:oC<|Int×lC}{ep slot i:Nat}{t:SetTable}{Q:oB (lC×Nat)->lD->Prop}(f:D7 s.heap a es ep t)(hb:w.params.followText "set-order" = true) (h:Q (((pickOrder (w.params.setOrder a ep) es)[i]?).map λe=>(e.2,slot)) s) :
  qV prog w A (setNext a slot i ep) Q E s:=by
 obtain⟨g,b,_,d,c⟩:=f;unfold setNext;refine A_<|bH b d c<|A_<|F2<|show wpAny _ _ (if _=true then _ else _) _ _ _ from ?_;rw[T_ hb];refine(show wpAny _ _ (if(ep != ep)=true then _ else _) _ _ _ from ?_);rw[M_<|by simp];unfold setWalk;refine A_<|A_<|bH b d c<|A_<|F2<|show wpAny _ _ (if _=true then _ else _) _ _ _ from ?_;rw[T_ hb];exact A_<|kU<|C_<|C_ h
def Jm{a:lF}{es:oC<|Int×lC}{ep i g:Nat}{t:SetTable}{Q:oB (lC×Nat)->lD->Prop}(k:D7 s.heap a es ep t)(d:TblOk t<|Ga w)(hb:w.params.followText "set-order" = false) (f:(!t.plain&&decide (es.size>1))=false) (hi:i<=es.size)
  (h:Q (match es[i]?,t.place[i]? with|some (_,x),some j=>some (x,j+1)|_,_=>none) s):qV prog w A (setNext a (Jl t.place i) g ep) Q E s:=by
 obtain⟨m,b,_,l,c⟩:=k;have e:t.place.size=es.size:=by simp[SetTable.fits]at c;exact c.1
 unfold setNext;refine A_<|bH b l c<|A_<|F2<|show wpAny _ _ (if _=true then _ else _) _ _ _ from ?_;rw[M_<|by rw[hb];exact S_];refine(show wpAny _ _ (if(!t.plain&&decide (es.size>1))=true then _ else _) _ _ _ from ?_);rw[f,M_ S_];refine A_<|show wpAny _ _ (if(!t.led && !es.isEmpty)=true then _ else _) _ _ _ from ?_;rw[M_<|by rw[d.led,Ga,hb];simp];refine C_<|show wpAny _ _ (pure _) _ _ _ from C_ ?_;rw[P9 d.rise<|by omega];exact h
def Dh{a:lF}{o:lM}{c:oC lC}{i:Nat}{x:lC}{Q:Unit->lD->Prop}(f:s.heap.get? a=some o)(d:o.data=.fields c)(hi:i<c.size)
  (h:∀e b,e.get? a=some b->b.cls=o.cls->b.data=.fields (c.setIfInBounds i x)->Heap.SameBut a s.heap e->Q () {s with heap:=e}):qV prog w A (setField (.ref a) i x) Q E s :=
 eU f d hi (h _ _ (aM _ f<|fK<|dF d _) (iL ..) (dF d _)<|aV ..)
def Xr{b a:lF}{es:oC<|Int×lC}{ep:Nat}{t:SetTable}{first x:lC}{i:Nat}{ord:oA lC}{Q:oB lC->lD->Prop}(O:D7 s.heap a es ep t)(hT:TblOk t<|Ga w)(H:Fq s.heap b a first i es.size ep)(hM:Mode w a es ep t s.heap i first ord)(am:a≠b)(Y:∀f,first=.ref f->f≠b)(hx:ord[i]?=some x) (D:∀d C,Fq d b a C (i+1) es.size ep->Mode w a es ep t d (i+1) C ord->(∀f,C=.ref f->first=.ref f)->Heap.SameBut b s.heap d->Q (some x) {s with heap:=d}) :
  qV prog w A (pyNext<|.ref b) Q E s:=by
 obtain⟨o,u,hc,I⟩:=id H;obtain⟨oa,l,_,X,p⟩:=id O;have N:t.place.size=es.size:=by simp[SetTable.fits]at p;exact p.1
 unfold pyNext;refine A_<|dN<|aU (name:=Str.ofString "__next__") H.typeIs Ef<|aN Ef H.typeIs Nz ?_<|Ru _;unfold Builtin.«set_iterator.__next__»;refine(show wpAny _ _ (_>>=_) _ _ _ from A_<|show wpAny _ _ (pure (Value.ref b,[])) _ _ _ from C_<|show wpAny _ _ (fieldsOf (.ref b)>>=_) _ _ _ from A_<|dW u I<|show wpAny _ _ (setEntries a>>=_) _ _ _ from A_ ?_);refine(show wpAny _ _ (setState a>>=_) _ _ _ from A_<|bH l X p<|C_<|show wpAny _ _ (if((es.size:Int) != (es.size:Int))=true then _ else _) _ _ _ from ?_);rw[M_<|by simp];have m:∀(R:PySem.Fin->lD->Prop) (V:lC->lD->Prop) (nx:Nat),(∀d,Fq d b a (rawInt nx) (i+1) es.size ep->Heap.SameBut b s.heap d->R (.done<|.ret x) {s with heap:=d}) ->
   qV prog w A.in1 (setField (.ref b) 0 (rawInt (nx:Nat))>>=λ_=>setField (.ref b) 1 (rawInt<|(i:Int)+1)>>=λ_=>ret x) R V s:=λR V nx q=>by
  refine A_ (Dh u I (by simp) λh1 W h M L n=>A_<|Dh (s:={s with heap:=h1}) h L (by simp) λh2 o2 J c2 d2 Z=>C_<|q h2 ⟨o2,J,c2.trans<|M.trans hc,?_⟩<|n.trans Z);rw[d2];simp[rawInt]
 cases hM with
 |text hb=>
  refine(show wpAny _ _ (setNext a 0 i ep>>=_) _ _ _ from A_<|Kz O hb ?_);obtain⟨e,he,rfl⟩:∃e,(pickOrder (w.params.setOrder a ep) es)[i]?=some e/\e.2=x:=by rw[L_,G_]at hx;obtain⟨e,he,r⟩:=hx;exact⟨e,by rw[<- X_];exact he,r⟩
  rw[he];exact m _ _ 0 λd F G=>⟨_,rfl,C_<|D d _ F (.text hb) (λ_ z=>z) G⟩
 |table hb S=>
  have k:i<es.size:=by rw[L_]at hx;rcases cU i es.size with c|c;exact c;simp[List.getElem?_eq_none,c]at hx
  refine(show wpAny _ _ (setNext a (Jl t.place i) i ep>>=_) _ _ _ from A_<|Jm O hT hb S (dD k) ?_);have he:es[i]?=some es[i]:=aC k;have hp:t.place[i]?=some (t.place.getD i 0):=by simp[N,k]
  have B:es[i].2=x:=by rw[L_,X_,he]at hx;exact bA hx
  rw[he,hp];dsimp only;rw[B];exact m _ _ (t.place.getD i 0+1) λd F G=>⟨_,rfl,C_<|D d _ F (.table (i:=i+1) hb S) (λ_ z=>by cases z) G⟩
 |@drawn f g hb hp U=>
  have k:i<g.length:=by rcases cU i g.length with c|c;exact c;rw[dS<|by simpa using c]at hx;cases hx
  have h:g[i]?=some g[i]:=J_ k;have T:g[i]<es.size:=by simpa using hp.mem_iff.mp (fG k)
  obtain⟨y,hy,B⟩:∃y,es[g[i]]?=some y/\y.2=x:=by rw[L_,h]at hx;have:=bA hx;exact⟨es[g[i]],aC T,by simpa [T] using this⟩
  obtain⟨ot,P,_,nt,v⟩:=id U;refine(show wpAny _ _ (seqItems? (.ref f)>>=_) _ _ _ from A_<|eB P v<|show wpAny _ _ _ _ _ _ from ?_);dsimp only;have J:((g.map λ(j:Nat)=>rawInt (j:Int)).toArray)[i]?=some (rawInt (g[i]:Int)):=by simp[h]
  rw[cP,J];refine(show wpAny _ _ (setNextDrawn a g[i] ep>>=_) _ _ _ from A_ ?_);unfold setNextDrawn;refine A_<|bH l X p<|show wpAny _ _ (if(ep != ep)=true then _ else _) _ _ _ from ?_;rw[M_<|by simp,hy];refine C_ ?_;rw[B];refine A_ (Dh u I (by simp) λh1 W h M L n=>C_ ⟨_,rfl,C_<|D h1 (.ref f) ⟨W,h,M.trans hc,?_⟩ (.drawn hb hp<|U.at λo e=>(n.2 f<|Y f rfl).trans e) (λ_ z=>z) n⟩);rw[L];simp[rawInt]
def DE{c a:lF}{es:oC<|Int×lC}{ep:Nat}{t:SetTable}{first:lC}{ord:oA lC}{Q:oB lC->lD->Prop}(O:A.handled=none)(k:D7 s.heap a es ep t)(N:TblOk t<|Ga w)(y:Fq s.heap c a first es.size es.size ep)(C:Mode w a es ep t s.heap es.size first ord) (U:∀h',Heap.ExtBut c s.heap h'->Q none {s with heap:=h'}):qV prog w A (pyNext<|.ref c) Q E s:=by
 obtain⟨o,g,hc,h⟩:=id y;obtain⟨Y,i,_,M,z⟩:=id k;have H:t.place.size=es.size:=by simp[SetTable.fits]at z;exact z.1
 have v:ord.length=es.size:=by rw[C.perm.length_eq];simp
 unfold pyNext;refine A_<|dN<|aU (name:=Str.ofString "__next__") y.typeIs Ef<|aN Ef y.typeIs Nz ?_<|Ru _;unfold Builtin.«set_iterator.__next__»;refine(show wpAny _ _ (_>>=_) _ _ _ from A_<|show wpAny _ _ (pure (Value.ref c,[])) _ _ _ from C_<|show wpAny _ _ (fieldsOf (.ref c)>>=_) _ _ _ from A_<|dW g h<|show wpAny _ _ (setEntries a>>=_) _ _ _ from A_ ?_);refine(show wpAny _ _ (setState a>>=_) _ _ _ from A_<|bH i M z<|C_<|show wpAny _ _ (if((es.size:Int) != (es.size:Int))=true then _ else _) _ _ _ from ?_);rw[M_<|by simp];have d:∀(h1:lL) (D:PySem.Fin->lD->Prop) (p:lC->lD->Prop) ,(∀e h',Heap.ExtBut c h1 h'->Shared.TypeIs {s with heap:=h'} e "StopIteration" -> p e {s with heap:=h'}) ->
   qV prog w A.in1 (newExc (.type "StopIteration") []>>=λe=>raiseNew e) D p {s with heap:=h1}:=λh1 D p q=>by
  refine A_ ?_;simp only[newExc,newTuple];refine A_ (Z_ (A_ (m:=firstArgMember _ _)<|eK (a:=Value.none) (by first|rfl|(simp only[firstArgMember];rfl))<|Z_ ?_<|by size_fits)<|by size_fits);simp only[raiseNew];refine A_<|jD ?_;rw[show A.in1.handled=none from O];have P:Heap.ExtBut c h1 h1:=λb o hb e=>e;refine A_<|C_<|kF ?_;exact q _ _ ((P.push _).push _) ⟨_,I_ _ rfl,rfl⟩
 have r:∀(h1:lL) (e:lC) (h':lL),Heap.ExtBut c s.heap h1->Heap.ExtBut c h1 h'->Shared.TypeIs {s with heap:=h'} e "StopIteration" -> qV prog w A (isInstance e (.type "StopIteration")>>=λb=>if b=true then pure none else throw e) Q E {s with heap:=h'}:=λh1 e h' R G T=>by refine A_<|dA (b:=true) T gO ?_;exact C_<|U h' λb o hb e=>G b o hb<|R b o hb e
 cases C with
 |text hb=>refine(show wpAny _ _ (setNext a 0 es.size ep>>=_) _ _ _ from A_<|Kz k hb ?_);rw[B_,aR]at v;rw[cV<|gB v];exact A_ (Dh g h (by simp) λh1 F l B j f=>d h1 _ _ λe h' x T=>r h1 e h' f.extBut x T)
 |table hb I=>refine(show wpAny _ _ (setNext a (Jl t.place es.size) es.size ep>>=_) _ _ _ from A_<|Jm k N hb I (F_ _) ?_);rw[cV<|F_ _];exact A_ (Dh g h (by simp) λh1 F l B j f=>d h1 _ _ λe h' x T=>r h1 e h' f.extBut x T)
 |@drawn S W hb hp L=>obtain⟨ot,u,_,V,n⟩:=id L;refine(show wpAny _ _ (seqItems? (.ref S)>>=_) _ _ _ from A_<|eB u n<|show wpAny _ _ _ _ _ _ from ?_);dsimp only;rw[cP,cV<|by simpa using gB (by simpa using v)];exact A_<|Dh g h (by simp) λh1 F l B j f=>A_<|Dh (s:={s with heap:=h1}) l j (by simp) λh2 Z X c2 d2 J=>d h2 _ _ λe h' x T=>r h2 e h' (f.trans J).extBut x T
end
end L2
namespace L2
open PySem PySem.Spec PyProof.Rows PySem.W
section
variable {prog:lH}{w:lI}{A:lK}{E:lC->lD->Prop}{s:lD}
theorem Mode.at{a:lF}{es:oC<|Int×lC}{ep:Nat}{t:SetTable}{h h':lL}{i:Nat}{first:lC}{ord:oA lC}(m:Mode w a es ep t h i first ord)(hk:∀b,first=.ref b->∀o,h.get? b=some o->h'.get? b=some o):Mode w a es ep t h' i first ord:=by
 cases m with
 |text hb=>exact .text hb
 |table hb c=>exact .table hb c
 |@drawn b f hb hp d=>exact .drawn hb hp<|d.at λo e=>hk b rfl o e
def Ud(D:A.handled=none){f a:lF}{es:oC<|Int×lC}{ep:Nat}{t:SetTable}{ord:oA lC}(n:oA lF)(p:TblOk t<|Ga w)(r:a≠f)(u:f∉n)(G:ord.length=es.size) :
  Walks prog w A f (f::a::n) [f] es.size (λi v=>ord[i]?=some v) (λi h=>D7 h a es ep t/\∃first,Fq h f a first i es.size ep/\Mode w a es ep t h i first ord/\∀c,first=.ref c->c∈n) where
 sub:=λb hb=>by simp at hb;simp[hb]
 frame:=λi h l st hk=>by obtain⟨g,first,d,j,hp⟩:=st;exact⟨g.at λo e=>hk a (by simp) o e,first,d.at λo e=>hk f (by simp) o e,j.at λc z o e=>hk c (by simp[hp c z]) o e,hp⟩
 item:=λi s Q E hi st k=>by obtain⟨g,first,d,j,hp⟩:=st;refine Xr g p d j r (λc z q=>u<|q ▸ hp c z) (x:=ord[i]'(by omega)) (J_ _) λl F C m y hb=>?_;exact k _ l s.toks (J_ _) ⟨g.at λo e=>(hb.2 a r).trans e,F,C,m,λc z=>hp c<|y c z⟩ λb o B e=>hb.extBut b o (λz=>B<|by simp[z]) e
 done:=λs Q E st k=>by obtain⟨g,first,d,j,hp⟩:=st;exact DE D g p d j λl he=>k l s.toks λb o hb e=>he b o (λz=>hb<|by simp[z]) e
 self:=λi s Q E st k=>by obtain⟨g,first,d,j,hp⟩:=st;refine eD d.typeIs Rv<|aN Rv d.typeIs Ua (show wpAny _ _ (ret<|.ref f) _ _ s from ?_)<|Xq _;exact C_ ⟨_,rfl,"set_iterator",_,d.typeIs,Ef.lookup,k⟩
def Xs{a:lF}{Q:Bool->lD->Prop}(c:s.TypeIs (.ref a) "set") (h:Q false s):qV prog w A (Builtin.List.listLengthHint<|.ref a) Q E s:=by
 unfold Builtin.List.listLengthHint;refine A_<|c_ c PySem.F.slot_set_len.lookup ?_;generalize e:("set.__len__" : String)=id0
 wp_delta
 rw[show splitId id0=some ("set","__len__") from by subst e;decide +kernel];subst e;refine A_ (dA (T := "set") (b:=true) c sub_set_self<|g_ (λd=>absurd d<|by decide) λ_=>g_ (λ_=>?_) λd=>absurd (by decide +kernel) d);exact A_<|fN c<|C_ h
def Ue{ord:oA lC}{acc:oC lC}{n:Nat}(h:ItemsOf (λi v=>ord[i]?=some v) acc n)(a:ord.length=n):acc.toList=ord:=by refine gM λi=>?_;rw[X_];rcases cU i acc.size with c|c;have:=h.2 i acc[i]<|aC c;rw[this,aC c];rw[cV c,dS<|by rw[a,<- h.1];exact c]
def N0{a:lF}{es:oC<|Int×lC}{ep:Nat}{t:SetTable}{Q:oA lC->lD->Prop}(hh:A.handled=none)(L:D7 s.heap a es ep t)(Z:TblOk t<|Ga w)(hz:es.size<=1000000)
  (h:∀u d' tk ord,(∀b o,s.heap.get? b=some o->u.get? b=some o)->s.heap.objs.size<=u.objs.size->ord.Perm (es.toList.map (·.2))->Q ord {s with heap:=u,drawn:=d',toks:=tk}) :
  qV prog w A (collect<|.ref a) Q E s:=by
 have R:a<s.heap.objs.size:=by obtain⟨o,e,_⟩:=L;exact O_ e
 unfold collect;refine A_<|kC<|dH F.entry_proto_collect ?_;rw[bX F.plain_proto_collect _];refine(show wpAny _ A.in1 (newList []>>=λl=>again<|.builtin "list.__iadd__" ⟨[l,.ref a],[]⟩) _ _ s from A_<|Z_<|C_ ⟨dM F.plain_list_iadd _,dH F.entry_list_iadd ?_⟩);rw[bX F.plain_list_iadd _];generalize g:s.heap.objs.size=S;generalize G:s.heap.push {cls:=.type "list",data:=.seq ([]:oA lC).toArray}=h1;have N:∀b o,s.heap.get? b=some o->h1.get? b=some o:=λb o e=>by subst G;exact DD _ e
 have C:h1.get? S=some {cls:=.type "list",data:=.seq ([]:oA lC).toArray}:=by subst G;subst g;exact I_ _ rfl
 have r:S≠a:=bN<|Y_<|g ▸ R;have jk:Builtin.List.listSameRef (.ref S) (.ref a)=false:=by simp[Builtin.List.listSameRef,r]
 have n:D7 h1 a es ep t:=L.at λo e=>N a o e;refine(show wpAny _ A.in1 (Builtin.List.listExtendWith (.ref S) (.ref a)<|.ref S) _ _ {s with heap:=h1} from ?_);unfold Builtin.List.listExtendWith;refine A_ (fN (D7.typeIs (s:={s with heap:=h1}) n)<|g_ (λx=>absurd x<|by rw[jk];decide) λ_=>?_);refine A_<|P8 (s:={s with heap:=h1}) n hz λd h2 p first ord X m hI v u6=>?_;refine A_<|bK<|Xs (s:={s with heap:=h2,drawn:=p}) (D7.typeIs (s:={s with heap:=h2,drawn:=p})<|n.at λo e=>m a o e) ?_;refine g_ (λ_=>?_) λx=>absurd (by decide) x;have y:h2.get? S=some {cls:=.type "list",data:=.seq ([]:oA lC).toArray}:=m S _ C;refine A_<|eC<|A_<|show wpAny _ _ (updateSeq S (·.push .none)>>=λ_=>updateSeq S (·.pop)) _ _ _ from A_<|eI y rfl<|eI (aM (Obj.mapSeq (·.push Value.none)) y rfl) rfl ?_;have M:=aM (Obj.mapSeq (·.pop)) (aM (Obj.mapSeq (·.push Value.none)) y rfl) rfl;have j:∀b o,b≠S->h2.get? b=some o->((h2.update S<|Obj.mapSeq (·.push Value.none)).update S<|Obj.mapSeq (·.pop)).get? b=some o:=λb o hb e=>(cQ _ _<|bN hb).trans<|(cQ _ _<|bN hb).trans e;generalize ((h2.update S<|Obj.mapSeq (·.push Value.none)).update S<|Obj.mapSeq (·.pop))=h4 at M j ⊢;have J:S<h1.objs.size:=O_ C;have P:h1.objs.size<=d:=X;have I:S≠d:=by intro z;subst z;omega
 have Y:a≠d:=Y_<|fF (g ▸ R)<|R_ J P;obtain⟨i,H,B⟩:∃i:oA lF,(∀c,first=.ref c->c∈i)/\∀c∈i,h1.objs.size<=c/\c≠d:=by
  by_cases k:∃c,first=.ref c
  obtain⟨c,k⟩:=k;exact⟨[c],λq hq=>by rw[k]at hq;cases hq;simp,λq hq=>by rw[H_]at hq;subst hq;exact u6 q k⟩;exact⟨[],λq hq=>absurd ⟨q,hq⟩ k,λ_ hq=>nomatch hq⟩
 have T:ord.length=es.size:=by rw[v.perm.length_eq];simp
 have W:=Ud (prog:=prog) (A:=A.in1) hh (es:=es) (ep:=ep) (ord:=ord) i Z Y (λz=>(B d z).2 rfl) T;have V:S∉d::a::i:=by simp only[List.mem_cons,not_or];exact⟨I,r,λz=>by have:=(B S z).1;omega⟩
 refine C_ ⟨dM F.plain_extend_loop _,codeAny_extend_loopS W.toS (K_ hz<|by decide) S V (.ref S) es.size 0 {s with heap:=h4,drawn:=p} #[] _ rfl (aJ _) ?_ M (ItemsOf.nil _) λD av c' U O bf=>?_⟩;refine⟨n.at λo e=>j a o (bN r)<|m a o e,first,hI.at λo e=>j d o (bN I) e,v.at λc z o e=>j c o (λq=>?_) e,H⟩;have:=(B c<|H c z).1;subst q;omega;rw[Moved.eq_with U];refine A_<|wpAny_load O<|C_ ?_;rw[Ue bf T];refine h D.heap p D.toks ord (λb o e=>U.heap b o ?_<|j b o ?_<|m b o<|N b o e) (dD ?_) v.perm;have f:=O_ e;simp only[List.mem_cons,List.not_mem_nil,or_false,not_or];rw[g]at f;exact⟨Y_ f,Y_<|fF f<|R_ J P⟩;have f:=O_ e;rw[g]at f;exact Y_ f;rw[g];exact O_ O
def JQ:lC->Int
 |.int n _=>n
 |_=>0
end
end L2
namespace L2
open PySem PySem.Spec PyProof.Rows
section
variable {X:Cx}{aa:oA<|lF×lM}{σ:St}{H:Hp}{s:lD}
def Inv.drw(I:Inv X aa σ H s)(d:Drawn):Inv X aa σ H {s with drawn:=d}:=⟨I.ok,I.os,I.bare,I.base,I.loc,I.cell,I.free,I.freeC,I.pin,I.hok,I.len⟩
end
noncomputable instance decPD:DecidableEq lE:=λa b=>Classical.propDecidable (a=b)
mutual
def Hq:lE->Nat
 |.tuple a=>Cz a+1
 |_=>1
def Cz:oA lE->Nat
 |[]=>0
 |d::a=>Hq d+Cz a
end
theorem Jn(w:lI):∀(a b:oA lE),Df w (a++b)=Df w a++Df w b
 |[],b=>rfl
 |x::a,b=>by simp only[List.cons_append,Df,Jn w a b]
theorem Ie:∀(a b:oA lE),Cz (a++b)=Cz a+Cz b
 |[],b=>by simp[Cz]
 |x::a,b=>by simp only[List.cons_append,Cz,Ie a b];exact(kM _ _ _).symm
section
variable {prog:lH}{w:lI}
def DF:∀(n:Nat) (d:lE) (u:lC) (as:oA lF) (A:lK) (E:lC->lD->Prop) (s:lD) (Q:Int->lD->Prop),d.depth<=n->Cano d=true->Reads s.heap u d as->A.units+n<cLine->Q (Bb w d) {s with toks:=s.toks+Hq d} ->
  qV prog w A (pyHash u) Q E s:=by
 intro n
 induction n with
 |zero=>
  intro d u as A E s Q L hc e hu h;cases e with
  |int i t=>exact(Bf prog w).pyHash (Ff _ _ _ _) h
  |str x t=>exact(Bf prog w).pyHash (Fg _ _ _ _) h
  |tuple l a2 v p=>simp[PyData.depth]at L
  |none=>simp[Cano]at hc
  |bool b=>simp[Cano]at hc
  |list l a2 v p=>simp[Cano]at hc
  |dict l a2 v p O=>simp[Cano]at hc
 |succ n S=>
  intro d u as A E s Q L hc e hu h;cases e with
  |int i t=>exact(Bf prog w).pyHash (Ff _ _ _ _) h
  |str x t=>exact(Bf prog w).pyHash (Fg _ _ _ _) h
  |none=>simp[Cano]at hc
  |bool b=>simp[Cano]at hc
  |list l a2 v p=>simp[Cano]at hc
  |dict l a2 v p O=>simp[Cano]at hc
  |@tuple a o items m q as M g C hi=>
   have r:s.TypeIs (.ref a) "tuple" := ⟨o,M,g⟩;have P:PyData.depthAll q<=n:=by simp only[PyData.depth]at L;omega
   have R:A3 q=true:=hc;unfold pyHash
   first|unfold pyHashByItsType|skip
   first|refine A_ (wpAny_cRoomFor_or (.inr<|by omega) ?_)|skip
   refine A_<|c_ r F.slot_tuple_hash.lookup<|show wpAny _ _ (if(some (Value.builtin "tuple.__hash__")==some Value.none)=true then _ else _) Q E s from ?_;rw[M_<|by rw[beq_builtin_none];exact S_];refine A_<|c_ r F.slot_tuple_hash.lookup<|show wpAny _ _ (callSpecialIfBoundUnlessNone? (.ref a) "__hash__" _>>=_) Q E s from ?_;refine A_<|wpAny_callSpecialIfBoundUnlessNone?_slot r F.slot_tuple_hash<|aN F.slot_tuple_hash r F.entry_tuple_hash (show wpAny _ _ (Builtin.Tuple.tupleItemsOf (.ref a)>>=_) _ _ s from ?_)<|F.args_tuple_hash_1 _;refine A_<|jY M C<|A_ ?_;rw[<- fJ];refine fY _ (λrest (b:oC Int) z=>∃c f D,q=c++f/\ReadsAll s.heap rest f D/\A3 f=true/\PyData.depthAll f<=n/\b.toList=Df w c/\z={s with toks:=s.toks+Cz c}) _ ?_ ?_ _ _ ⟨[],q,as,rfl,hi,R,P,rfl,rfl⟩
   ·rintro x rest b z ⟨c,f,D,rfl,J,g,N,hb,rfl⟩;cases J with
    |@cons _ _ d j I B h1 T=>
     simp only[A3,Bool.and_eq_true]at g;simp only[PyData.depthAll]at N;refine A_ (S d x I A.in1 _ {s with toks:=s.toks+Cz c} _ (by omega) g.1 h1 (by show A.units+1+n<_;omega) ?_);have k:∃G y H,c++d::j=G++y/\ReadsAll s.heap rest y H/\A3 y=true/\PyData.depthAll y<=n/\(b.push<|Bb w d).toList=Df w G/\({s with toks:=s.toks+Cz c+Hq d}:lD)={s with toks:=s.toks+Cz G} :=
      ⟨c++[d],j,B,by simp,T,g.2,by omega,by simp[hb,Jn,Df],by simp[Ie,Cz,Nat.add_assoc]⟩
     first
      |exact C_ k
      |exact A_<|C_<|C_ k
   rintro b z ⟨c,f,D,rfl,J,g,N,hb,rfl⟩;cases J;rw[cL]at h;simp only[Bb,Hq]at h;refine(show wpAny _ _ (retInt<|Builtin.Tuple.tupleHashOf b.toList) _ _ _ from ?_);rw[hb];refine wpAny_ret_mkInt<|show wpAny _ _ (if(decide (-(2:Int)^63<=Builtin.Tuple.tupleHashOf (Df w c))&&decide (Builtin.Tuple.tupleHashOf (Df w c)<2^63))=true then _ else _) Q E _ from ?_;unfold reduceHash at h;by_cases e:(decide (-(2:Int)^63<=Builtin.Tuple.tupleHashOf (Df w c))&&decide (Builtin.Tuple.tupleHashOf (Df w c)<2^63))=true;rw[T_ e]at h ⊢;exact C_ (by simpa [Nat.add_assoc] using h);rw[M_ e]at h ⊢;exact A_<|eC<|C_<|by simpa [Nat.add_assoc] using h
def Jo:∀(n q:Nat) (d:lE) (u:lC) (as:oA lF) (A:lK) (E:lC->lD->Prop) (s:lD) (Q:Bool->lD->Prop),d.depth<=n->n<q->Cano d=true->Reads s.heap u d as->Q true s->qV prog w A (eqIsQuiet q u) Q E s:=by
 intro n
 induction n with
 |zero=>
  intro q d u as A E s Q G hq hc c h;cases c with
  |int i t=>rw[iO _ rfl];exact C_ h
  |str x t=>rw[iO _ rfl];exact C_ h
  |tuple g a2 k l=>simp[PyData.depth]at G
  |none=>simp[Cano]at hc
  |bool b=>simp[Cano]at hc
  |list g a2 k l=>simp[Cano]at hc
  |dict g a2 k l L=>simp[Cano]at hc
 |succ n O=>
  intro q d u as A E s Q G hq hc c h;cases c with
  |int i t=>rw[iO _ rfl];exact C_ h
  |str x t=>rw[iO _ rfl];exact C_ h
  |none=>simp[Cano]at hc
  |bool b=>simp[Cano]at hc
  |list g a2 k l=>simp[Cano]at hc
  |dict g a2 k l L=>simp[Cano]at hc
  |@tuple a o items m y as H e z hi=>
   have I:s.TypeIs (.ref a) "tuple" := ⟨o,H,e⟩;have M:PyData.depthAll y<=n:=by simp only[PyData.depth]at G;omega
   have N:A3 y=true:=hc;obtain⟨C,rfl⟩:∃C,q=C+1:=⟨q-1,by omega⟩;unfold eqIsQuiet;refine A_<|c_ I F.slot_tuple_eq.lookup<|show wpAny _ _ (isInstance (.ref a) (.type "tuple")>>=_) _ _ s from A_<|dA I isSubtype_tuple_tuple ?_;simp only[Bool.not_true,Bool.false_eq_true,if_false];refine A_<|eB H z<|A_<|show wpAny _ _ (forIn items _ _) _ _ s from ?_;rw[<- fJ];refine fY _ (λrest r f=>r.1=none/\f=s/\∃j J,ReadsAll s.heap rest j J/\A3 j=true/\PyData.depthAll j<=n) _ ?_ ?_ _ _ ⟨rfl,rfl,y,as,hi,N,M⟩
   ·rintro v rest r f ⟨c,rfl,j,J,R,e,S⟩;cases R with
    |@cons _ _ d B D p h1 P=>simp only[A3,Bool.and_eq_true]at e;simp only[PyData.depthAll]at S;refine A_ (O C d v D A _ f _ (by omega) (by omega) e.1 h1 ?_);simp only[Bool.not_true,Bool.false_eq_true,if_false];exact C_ ⟨rfl,rfl,B,p,P,e.2,by omega⟩
   rintro⟨U,T⟩ f ⟨c,rfl,_⟩;simp only at c;subst c;exact C_ h
mutual
theorem K0{h:lL}:∀{v:lC} {d e:lE} {as n:oA lF},Reads h v d as->Reads h v e n->Cano d=true->Cano e=true->d=e
 |_,_,_,_,_,.int i t,r,_,_=>by cases r;rfl
 |_,_,_,_,_,.str x t,r,_,_=>by cases r;rfl
 |_,_,_,_,_,.tuple g a2 k j,r,hc,a=>by
  cases r with
  |tuple f m c l=>rw[g]at f;cases f;rw[k]at c;cases c;rw[G6 j l hc a]
  |list f m c l=>simp[Cano]at a
  |dict f m c l p=>simp[Cano]at a
 |_,_,_,_,_,.none,_,hc,_=>by simp[Cano]at hc
 |_,_,_,_,_,.bool b,_,hc,_=>by simp[Cano]at hc
 |_,_,_,_,_,.list g a2 k j,_,hc,_=>by simp[Cano]at hc
 |_,_,_,_,_,.dict g a2 k j o,_,hc,_=>by simp[Cano]at hc
theorem G6{h:lL}:∀{b:oA lC} {ds es:oA lE} {as c:oA lF},ReadsAll h b ds as->ReadsAll h b es c->A3 ds=true->A3 es=true->ds=es
 |_,_,_,_,_,.nil,r,_,_=>by cases r;rfl
 |_,_,_,_,_,.cons g e,r,hc,a=>by
  cases r with
  |cons d f=>simp only[A3,Bool.and_eq_true]at hc a;rw[K0 g d hc.1 a.1,G6 e f hc.2 a.2]
end
mutual
theorem Hr{h h':lL}{p:lF}(hk:∀b o,b≠p->h.get? b=some o->h'.get? b=some o)(hp:∀o f n,h.get? p=some o->o.data≠.seq f n):∀{v:lC} {d:lE} {as:oA lF},Reads h v d as->Cano d=true->Reads h' v d as
 |_,_,_,.int i t,_=>.int i t
 |_,_,_,.str x t,_=>.str x t
 |_,_,_,.tuple a a2 c e,hc=>.tuple (hk _ _ (λz=>by subst z;exact hp _ _ _ a c) a) a2 c (G7 hk hp e hc)
 |_,_,_,.none,hc=>by simp[Cano]at hc
 |_,_,_,.bool b,hc=>by simp[Cano]at hc
 |_,_,_,.list a a2 c e,hc=>by simp[Cano]at hc
 |_,_,_,.dict a a2 c e g,hc=>by simp[Cano]at hc
theorem G7{h h':lL}{p:lF}(hk:∀b o,b≠p->h.get? b=some o->h'.get? b=some o)(hp:∀o a n,h.get? p=some o->o.data≠.seq a n):∀{a:oA lC} {ds:oA lE} {as:oA lF},ReadsAll h a ds as->A3 ds=true->ReadsAll h' a ds as
 |_,_,_,.nil,_=>.nil
 |_,_,_,.cons d c,hc=>by simp only[A3,Bool.and_eq_true]at hc;exact .cons (Hr hk hp d hc.1)<|G7 hk hp c hc.2
end
def DG{x y:lE}(hx:Cano x=true)(hy:Cano y=true):PyData.eqv x y=decide (x=y):=by by_cases h:x=y;subst h;rw[Fm x hx,aW rfl];rw[aQ h];exact(JI hx hy).mpr h
variable(prog w) in
noncomputable def N1:HeapKind prog w lE where
 is:=λh d a=>KeyTree d/\∃as,Reads h (.ref a) d as
 hash:=Bb w
 draws:=Hq
 room:=λA=>A.units+6<cLine
 inj:=λ⟨c,_,i⟩ ⟨f,_,g⟩=>K0 i g c.can f.can
 keeps:=λ⟨k,as,r⟩ ho hd hs=>⟨k,as,Hr (λb o hb e=>(hs.2 b hb).trans e) (λj m n e q=>by rw[ho]at e;cases e;rw[hd]at q;cases q) r k.can⟩
 pyHash:=λhu ⟨k,as,r⟩ h=>DF 6 _ _ as _ _ _ _ k.dep k.can r hu h
 eqBool:=λhu ⟨c,as,i⟩ ⟨f,l,g⟩ h=>iY _ _ _ _ _ _ _ _ i g c.lay f.lay (by have:=c.dep;omega) _ _ _ _ (by rw[DG c.can f.can];exact h)
 quiet:=λ⟨k,as,r⟩ h=>Jo 6 8 _ _ as _ _ _ _ k.dep (by decide) k.can r h
end
section
variable {X:Cx}{aa:oA<|lF×lM}{σ:St}{H:Hp}{s:lD}{a:lF}{e:lJ}{te:AE}{τ:ASt}{μ:M}{o i value:lJ}{pos cu:Pos}{td ty tv:AE}{prog:lH}{w:lI}{A:lK}{E:lC->lD->Prop}{ao lg:Str}{at' fq:Int}
def VE.run{f:AV->M->Prop}(he:VE X e te)(I:Inv X aa σ H s)(hs:Dv X.K H τ σ)(hc:Cn X.K μ H)(h:te τ μ f) :
  qV X.prog X.w X.A (eval e X.env) (λu j=>∃x v b d,Inv X aa σ d j/\Ba v u/\Kp H d/\Cn X.K b d/\RelA X.K d x v/\f x b) X.xe s :=
 cD (he aa s σ H (λv d=>∃x b,Kp H d/\Cn X.K b d/\RelA X.K d x v/\f x b) I ⟨τ,μ,f,hs,hc,h,λx b v d S c r q=>⟨x,b,S,c,r,q⟩⟩)
  (λ_ _ z=>by obtain⟨v,d,k,g,x,b,S,c,r,q⟩:=z;exact⟨x,v,b,d,k,g,S,c,r,q⟩) λ_ _ e=>e
abbrev ZObj(h:lL)(z TI TO:lF)(f0:lC)(b1:Bool):Prop :=
 h.get? z=some {cls:=.type "zip",dict:=none,data:=.fields #[f0,.bool b1,.bool false,.ref TI,.ref TO],slots:=#[]}
def Uf{M:Model}{a:lF}{Q:oB lM->lD->Prop}(h:Q (s.heap.get? a) s):wpAny M A (loadIfAlive a) Q E s:=λ_ _ _=>h
def Jp{z TI TO T:lF}{d:Bool}{Q:Bool->lD->Prop}(hz:ZObj s.heap z TI TO (rawInt T) d)(f:∃o,s.heap.get? T=some o)(h:∀c,ZObj c z TI TO (rawInt T) true->Heap.SameBut z s.heap c->Q false {s with heap:=c}) :
  qV prog w A (Builtin.SmallTypes.ownedTupleIsFree<|.ref z) Q E s:=by
 obtain⟨k,b⟩:=f;unfold Builtin.SmallTypes.ownedTupleIsFree;refine A_<|cK hz rfl (x:=rawInt T) rfl<|show wpAny _ _ (loadIfAlive ((T:Int).toNat)>>=_) _ _ _ from A_<|Uf ?_;rw[cP,b];refine(show wpAny _ _ (field (.ref z) 1>>=_) _ _ _ from A_<|cK hz rfl (x:=.bool d) rfl ?_);cases d with
 |true=>exact C_ (h s.heap hz<|kI _ _)
 |false=>exact A_<|eL hz (by simp) λh1 j g=>C_<|h h1 j g
def Xt{z TI TO b d k l T:lF}{q m:Nat}{O:Bool}{xs ys:oC lC}{x y:lC}{Q:lC->lD->Prop}(D:ZipApart z TI TO b d k l)
  (hz:ZObj s.heap z TI TO (rawInt T) O) (L:∃o,s.heap.get? T=some o) (F:IsPair s.heap TI (.ref b)<|.ref d)
  (h1:s.heap.IsListIter b k q) (h2:s.heap.IsListIter d l m) (N:s.heap.IsList k xs) (J:s.heap.IsList l ys) (hx:xs[q]?=some x) (hy:ys[m]?=some y) (P:∀f,ZObj f z TI TO (rawInt T) true->f.IsListIter b k (q+1)->f.IsListIter d l (m+1)->IsPair f s.heap.objs.size x y ->
   (∀c o,c≠z->c≠b->c≠d->s.heap.get? c=some o->f.get? c=some o)->Q (.ref s.heap.objs.size) {s with heap:=f}) :
  qV prog w A (Builtin.«zip.__next__» ⟨[.ref z],[]⟩) (λr G=>∃v,r=.done (.ret v)/\Q v G) E s:=by
 refine(show wpAny _ _ (field (.ref z) 2>>=_) _ _ _ from A_<|cK hz rfl (x:=.bool false) rfl<|show wpAny _ _ (field (.ref z) 3>>=_) _ _ _ from A_<|cK hz rfl (x:=.ref TI) rfl<|A_<|eB F rfl<|show wpAny _ _ (Builtin.SmallTypes.ownedTupleIsFree (.ref z)>>=_) _ _ _ from A_<|Jp hz L λS R g=>?_);simp only[Bool.false_eq_true,if_false];refine A_ ?_;rw[<- fJ];simp only[List.forIn_cons,List.forIn_nil];refine A_<|A_<|bK<|show wpAny _ _ (Builtin.SmallTypes.nextOf (.ref b)>>=_) _ _ _ from A_<|wpAny_nextOf_list_item (h1.extBut g.extBut D.i1z) (N.extBut g.extBut D.l1z) hx λU p h=>C_<|C_ ?_;refine A_ (A_<|bK<|show wpAny _ _ (Builtin.SmallTypes.nextOf (.ref d)>>=_) _ _ _ from A_<|wpAny_nextOf_list_item ((h2.extBut g.extBut D.i2z).extBut h.extBut D.i12.symm) ((J.extBut g.extBut D.l2z).extBut h.extBut D.l2i1) hy λB t j=>C_<|C_<|C_<|A_<|wpAny_newTuple (C_ ⟨_,rfl,?_⟩) (hsz:=(show 2<=sizeLine by decide)));have C:B.objs.size=s.heap.objs.size:=by rw[j.1,h.1,g.1]
 rw[C];have I:∀c o,c≠z->c≠b->c≠d->s.heap.get? c=some o->B.get? c=some o:=λc o n c2 u e=>j.extBut _ _ u<|h.extBut _ _ c2<|g.extBut _ _ n e;refine P _ (DD _<|j.extBut _ _ D.i2z.symm<|h.extBut _ _ D.i1z.symm R) ((p.extBut j.extBut D.i12).at λo e=>DD _ e) (t.at λo e=>DD _ e) ?_ λc o n c2 u e=>DD _<|I c o n c2 u e;rw[<- C];exact I_ _ rfl
def Xu{z TI TO b g d u T:lF}{j:Nat}{r:Bool}{xs:oC lC}{Q:PySem.Fin->lD->Prop}(n:A.handled=none)(D:ZipApart z TI TO b g d u)
  (hz:ZObj s.heap z TI TO (rawInt T) r) (k:∃o,s.heap.get? T=some o) (l:IsPair s.heap TI (.ref b)<|.ref g)
  (h1:s.heap.IsListIter b d j) (m:s.heap.IsList d xs) (hx:xs[j]?=none)
  (v:∀h e,(∀c o,c≠z->c≠b->c≠g->s.heap.get? c=some o->h.get? c=some o)->(∃o,h.get? e=some o/\o.cls=.type "StopIteration")->E (.ref e) {s with heap:=h}) :
  qV prog w A (Builtin.«zip.__next__» ⟨[.ref z],[]⟩) Q E s:=by
 refine(show wpAny _ _ (field (.ref z) 2>>=_) _ _ _ from A_<|cK hz rfl (x:=.bool false) rfl<|show wpAny _ _ (field (.ref z) 3>>=_) _ _ _ from A_<|cK hz rfl (x:=.ref TI) rfl<|A_<|eB l rfl<|show wpAny _ _ (Builtin.SmallTypes.ownedTupleIsFree (.ref z)>>=_) _ _ _ from A_<|Jp hz k λC F f=>?_);simp only[Bool.false_eq_true,if_false];refine A_ ?_;rw[<- fJ];simp only[List.forIn_cons,List.forIn_nil];refine A_<|A_<|bK<|show wpAny _ _ (Builtin.SmallTypes.nextOf (.ref b)>>=_) _ _ _ from A_<|wpAny_nextOf_list_end n (h1.extBut f.extBut D.i1z) (m.extBut f.extBut D.l1z) hx λt e y he=>?_;exact v t e (λc o p c2 B q=>y c o c2<|f.extBut _ _ p q) he
def JR:typeLookup (.type "zip") "__len__" = pure none:=by rw[dX,cJ];kernel_rfl
def DH:typeLookup (.type "zip") "__length_hint__" = pure none:=by rw[dX,cJ];kernel_rfl
structure PairsAt(h:lL)(no:oA lF)(base:Nat)(as:oA lF)(ps:oA<|lC×lC):Prop where
 rise:as.Pairwise (· < ·)
 new:∀T∈as,base<=T/\T∉no
 at_:Paired (λT p=>IsPair h T p.1 p.2) as ps
def PairsAt.kp{h h':lL}{d:oA lF}{base:Nat}{as:oA lF}{f:oA<|lC×lC}(x:PairsAt h d base as f)(hk:∀b o,b∉d->h.get? b=some o->h'.get? b=some o):PairsAt h' d base as f:=by
 obtain⟨a,b,c⟩:=x;refine⟨a,b,?_⟩;clear a
 induction c with
 |nil=>exact .nil
 |@cons T p j k r t g=>exact .cons (hk T _ (b T aS).2 r)<|g λU hU=>b U<|aH _ hU
def Qa{d c:Type}{F:d->c->Prop}{xs:oA d}{ys:oA c}(h:Paired F xs ys):∀x∈xs,∃y,F x y:=by
 induction h with
 |nil=>exact λ_ h=>nomatch h
 |@cons a b g j r t f=>intro x hx;rcases aB.mp hx with rfl|hx;exact⟨b,r⟩;exact f x hx
def ZSt(h:lL)(z TI TO c d g f:lF)(xs ys:oC lC)(i:Nat):Prop :=
 IsPair h TI (.ref c) (.ref d)/\h.IsListIter c g i/\h.IsListIter d f i/\h.IsList g xs/\h.IsList f ys/\((ZObj h z TI TO .none false/\∃a b,IsPair h TO a b)\/∃(T:lF) (j:Bool),ZObj h z TI TO (rawInt T) j/\(∃o,h.get? T=some o)/\(∃o,h.get? TO=some o)/\T≠z/\T≠TO/\T≠c/\T≠d)
def Xv{z TI TO f g C J:lF}{i:Nat}{xs ys:oC lC}{x y:lC}{Q:oB lC->lD->Prop}(D:ZipApart z TI TO f g C J)(st:ZSt s.heap z TI TO f g C J xs ys i)(hx:xs[i]?=some x)(hy:ys[i]?=some y) (S:∀d T,ZSt d z TI TO f g C J xs ys (i+1)->IsPair d T x y->s.heap.objs.size<=T->(∀c o,c≠z->c≠TO->c≠f->c≠g->s.heap.get? c=some o->d.get? c=some o)->Q (some<|.ref T) {s with heap:=d}) :
  qV prog w A (pyNext<|.ref z) Q E s:=by
 obtain⟨j,a2,u,n,k,U⟩:=st;have m:∀{c o},s.heap.get? c=some o->s.heap.objs.size≠c:=λe=>fE<|O_ e;have r:s.heap.objs.size≠f:=by obtain⟨_,e,_⟩:=a2;exact m e
 have q:s.heap.objs.size≠g:=by obtain⟨_,e,_⟩:=u;exact m e
 rcases U with⟨hz,a,b,h⟩|⟨T,b1,hz,P,⟨W,B⟩,O,Z,L,R⟩;refine wpAny_pyNext_zip_item D hz j h a2 u n k hx hy λd p Y I t l _ hk=>?_;refine S d _ ⟨hk _ _ D.TIz D.TITO D.TIi1 D.TIi2 j,I,t,n.at λo e=>hk _ o D.l1z D.l1TO D.l1i1 D.l1i2 e,k.at λo e=>hk _ o D.l2z D.l2TO D.l2i1 D.l2i2 e,.inr ⟨_,false,p,⟨_,l⟩,⟨_,Y⟩,m hz,m h,r,q⟩⟩ l (F_ _) hk;have N:s.TypeIs (.ref z) "zip" := ⟨_,hz,rfl⟩;unfold pyNext;refine A_<|dN<|aU (name:=Str.ofString "__next__") N F.slot_zip_next<|aN F.slot_zip_next N F.entry_zip_next (Xt D hz P j a2 u n k hx hy λd p I t l hk=>?_)<|F.args_zip_next_1 _;have v:∀c o,c≠z->c≠TO->c≠f->c≠g->s.heap.get? c=some o->d.get? c=some o:=λc o V _ c3 c4 e=>hk c o V c3 c4 e;obtain⟨oT,G⟩:=P;exact C_<|S d _ ⟨hk _ _ D.TIz D.TIi1 D.TIi2 j,I,t,n.at λo e=>v _ o D.l1z D.l1TO D.l1i1 D.l1i2 e,k.at λo e=>v _ o D.l2z D.l2TO D.l2i1 D.l2i2 e,.inr ⟨T,true,p,⟨oT,hk _ _ O L R G⟩,⟨W,hk _ _ D.TOz D.TOi1 D.TOi2 B⟩,O,Z,L,R⟩⟩ l (F_ _) v
def Xw{z TI TO f h n q:lF}{xs ys:oC lC}{i:Nat}{Q:oB lC->lD->Prop}(m:A.handled=none)(D:ZipApart z TI TO f h n q)(st:ZSt s.heap z TI TO f h n q xs ys i)(hx:xs[i]?=none)
  (p:∀g,(∀c o,c≠z->c≠TO->c≠f->c≠h->s.heap.get? c=some o->g.get? c=some o)->Q none {s with heap:=g}):qV prog w A (pyNext<|.ref z) Q E s:=by
 obtain⟨j,a2,y,l,r,t⟩:=st;rcases t with⟨hz,a,b,d⟩|⟨T,P,hz,x,⟨J,B⟩,L,O,I,N⟩;exact wpAny_pyNext_zip_end m D hz j d a2 y l r (.inl hx) p;have k:s.TypeIs (.ref z) "zip" := ⟨_,hz,rfl⟩;unfold pyNext;refine A_<|dN<|aU (name:=Str.ofString "__next__") k F.slot_zip_next<|aN F.slot_zip_next k F.entry_zip_next (Xu m D hz x j a2 l hx λg e hk he=>?_)<|F.args_zip_next_1 _;obtain⟨o,v,hc⟩:=he;refine A_<|dA (T := "StopIteration") (b:=true) ⟨o,v,hc⟩ gO ?_;exact C_<|p _ λc o u _ G C e=>hk c o u G C e
def Xx{R:lT->lD->Prop}{base:Nat}{z TI TO g h O P S:lF}{xs ys:oC lC}{res:lC}(hh:A.handled=none)(D:ZipApart z TI TO g h O P)(zg:S∉[z,TI,TO,g,h,O,P])(hz:xs.size=ys.size)(hn:xs.size<=1000) :
  ∀(m i:Nat) (s:lD) (acc:oC lC) (c:Nat) (as:oA lF),m+i=xs.size->ZSt s.heap z TI TO g h O P xs ys i->s.heap.get? S=some {cls:=.type "list",dict:=none,data:=.seq acc c,slots:=#[]}->acc.toList=as.map Value.ref->PairsAt s.heap [S,z,TO,g,h] base as ((xs.toList.zip ys.toList).take i)->base<=s.heap.objs.size ->
   (∀f x L t,(∀b o,b∉[S,z,TO,g,h]->s.heap.get? b=some o->f.get? b=some o)->f.get? S=some {cls:=.type "list",dict:=none,data:=.seq x L,slots:=#[]}->x.toList=t.map Value.ref->PairsAt f [S,z,TO,g,h] base t (xs.toList.zip ys.toList)->R (.ok<|.ret res) {s with heap:=f}) ->
   codeAny (model prog w) A (.builtin "list.extend.loop" ⟨[.ref S,.ref z,res],[]⟩) R s:=by
 simp only[List.mem_cons,List.not_mem_nil,or_false,not_or]at zg;obtain⟨r,n2,y,W,G,n6,n7⟩:=zg;intro m
 induction m with
 |zero=>
  intro i s acc c as hm st v C k Q J;refine dH F.entry_extend_loop ?_;rw[bX F.plain_extend_loop _];refine(show wpAny _ A.in1 (pyNext (.ref z)>>=_) _ _ s from A_<|Xw (show A.in1.handled=none from hh) D st (by rw[cV<|by omega]) λf hk=>?_);have u:∀b o,b∉[S,z,TO,g,h]->s.heap.get? b=some o->f.get? b=some o:=λb o hb e=>by simp only[List.mem_cons,List.not_mem_nil,or_false,not_or]at hb;exact hk b o hb.2.1 hb.2.2.1 hb.2.2.2.1 hb.2.2.2.2 e
  refine C_<|J f acc c as u (hk S _ r y W G v) C ?_;have:=k.kp u;rwa[dE<|by simp;omega]at this
 |succ m ih=>
  intro i s acc c as hm st v C k Q J;have bq:i<xs.size:=by omega
  have hx:xs[i]?=some xs[i]:=aC bq;have ge:i<ys.size:=by omega
  have hy:ys[i]?=some ys[i]:=aC ge;have bf:acc.size=i:=by have h1:=bF k.at_;have h2:=bO List.length C;simp at h1 h2;omega
  refine dH F.entry_extend_loop ?_;rw[bX F.plain_extend_loop _];refine(show wpAny _ A.in1 (pyNext (.ref z)>>=_) _ _ s from A_<|Xv D st hx hy λf T al hp B hk=>?_);have N:=hk S _ r y W G v;have d:∀b o,b≠S->f.get? b=some o->(f.update S<|Obj.mapSeq (·.push (Value.ref T))).get? b=some o:=λb o hb e=>(cQ _ _<|bN hb).trans e;have kk:∀b o,b∉[S,z,TO,g,h]->s.heap.get? b=some o->(f.update S<|Obj.mapSeq (·.push (Value.ref T))).get? b=some o:=λb o hb e=>by simp only[List.mem_cons,List.not_mem_nil,or_false,not_or]at hb;exact d b o hb.1<|hk b o hb.2.1 hb.2.2.1 hb.2.2.2.1 hb.2.2.2.2 e
  refine(show wpAny _ A.in1 (updateSeq S (·.push (.ref T))>>=_) _ _ _ from A_<|eI N rfl (C_ ⟨dM F.plain_extend_loop _,ih (i+1) _ (acc.push<|.ref T) _ (as++[T]) (by omega) ?_ (aM _ N rfl) (by rw[kH,C,N_];rfl) ?_ ?_ λh2 x L t u xa I hP2=>?_⟩) (by rw[bf];exact K_ (by omega)<|show 1000<=sizeLine by decide)<|by show(acc.push _).size<=sizeLine+1;rw[Array.size_push,bf];exact K_ (by omega)<|show 1001<=sizeLine+1 by decide);obtain⟨a1,a2,a3,a4,a5,a6⟩:=al;refine⟨d _ _ (bN n2) a1,a2.at λo e=>d _ o (bN W) e,a3.at λo e=>d _ o (bN G) e,a4.at λo e=>d _ o (bN n6) e,a5.at λo e=>d _ o (bN n7) e,?_⟩;rcases a6 with⟨hz,a,b,l⟩|⟨T,b1,hz,⟨oT,Z⟩,⟨oO,n⟩,t1⟩;exact .inl ⟨d _ _ (bN r) hz,a,b,d _ _ (bN y) l⟩;refine .inr ⟨T,b1,d _ _ (bN r) hz,?_,⟨oO,d _ _ (bN y) n⟩,t1⟩;by_cases p:T=S;subst p;exact⟨_,aM _ N rfl⟩;exact⟨oT,d _ _ p Z⟩;have j:∀{c o},s.heap.get? c=some o->T≠c:=λe=>fE<|R_ (O_ e) B;have t0:T≠S:=j v;have e1:(xs.toList.zip ys.toList).take (i+1)=(xs.toList.zip ys.toList).take i++[(xs[i],ys[i])]:=by
   rw[aO];have:(xs.toList.zip ys.toList)[i]?=some (xs[i],ys[i]):=by rw[J_<|by simp;omega,List.getElem_zip];rfl
   rw[this];rfl
  obtain⟨_,⟨_,b2,_⟩,⟨_,b3,_⟩,_,_,b6⟩:=st;have tz:T≠z/\T≠TO:=by rcases b6 with⟨hz,a,b,l⟩|⟨T,b1,hz,_,⟨oO,n⟩,_⟩;exact⟨j hz,j l⟩;exact⟨j hz,j n⟩
  have Y:=k.kp kk;rw[e1];refine⟨?_,λU hU=>?_,jH Y.at_<|d _ _ t0 hp⟩;rw[List.pairwise_append];refine⟨k.rise,List.pairwise_singleton _ _,λU hU V hV=>?_⟩;rw[H_.mp hV];obtain⟨_,q⟩:=Qa k.at_ U hU;exact R_ (O_ q) B;rcases Q_.mp hU with hU|hU;exact k.new U hU;rw[H_.mp hU];refine⟨K_ Q B,?_⟩;simp only[List.mem_cons,List.not_mem_nil,or_false,not_or];exact⟨t0,tz.1,tz.2,j b2,j b3⟩;have:=O_ hp;rw[iZ];exact K_ Q<|K_ B<|dD this;exact J h2 x L t (λb o hb e=>u b o hb<|kk b o hb e) xa I hP2
def N3{z TI TO m p C I:lF}{xs ys:oC lC}{Q:oA lC->lD->Prop}(hh:A.handled=none)(D:ZipApart z TI TO m p C I)(st:ZSt s.heap z TI TO m p C I xs ys 0)(hz:xs.size=ys.size)(hn:xs.size<=1000)(j:s.TypeIs (.ref z) "zip")
  (h:∀n as,(∀b o,b∉[s.heap.objs.size,z,TO,m,p]->s.heap.get? b=some o->n.get? b=some o)->PairsAt n [s.heap.objs.size,z,TO,m,p] s.heap.objs.size as (xs.toList.zip ys.toList)->Q (as.map Value.ref) {s with heap:=n}) :
  qV prog w A (collect<|.ref z) Q E s:=by
 have f:∀{c o},s.heap.get? c=some o->s.heap.objs.size≠c:=λe=>fE<|O_ e;unfold collect;refine A_<|kC<|dH F.entry_proto_collect ?_;rw[bX F.plain_proto_collect _];refine(show wpAny _ A.in1 (newList []>>=λl=>again<|.builtin "list.__iadd__" ⟨[l,.ref z],[]⟩) _ _ s from A_<|Z_<|C_ ⟨dM F.plain_list_iadd _,dH F.entry_list_iadd ?_⟩);rw[bX F.plain_list_iadd _];obtain⟨L,a2,Y,R,N,O⟩:=st;have k:s.heap.objs.size≠z:=by obtain⟨o,e,_⟩:=(show ∃o,s.heap.get? z=some o/\_ from j);exact f e
 have x:s.heap.objs.size≠m:=by obtain⟨_,e,_⟩:=a2;exact f e
 have u:s.heap.objs.size≠p:=by obtain⟨_,e,_⟩:=Y;exact f e
 have B:s.heap.objs.size≠C:=by obtain⟨_,e,_⟩:=R;exact f e
 have G:s.heap.objs.size≠I:=by obtain⟨_,e,_⟩:=N;exact f e
 have y:s.heap.objs.size≠TI:=f L;have t:s.heap.objs.size≠TO:=by rcases O with⟨_,a,b,e⟩|⟨T,Z,_,_,⟨P,e⟩,_⟩;exact f e;exact f e
 generalize hS:s.heap.objs.size=S at k x u B G y t h ⊢;generalize J:s.heap.push {cls:=.type "list",data:=.seq ([]:oA lC).toArray}=h1;have W:∀b o,s.heap.get? b=some o->h1.get? b=some o:=λb o e=>by subst J;exact DD _ e
 have q:h1.get? S=some {cls:=.type "list",data:=.seq ([]:oA lC).toArray}:=by subst J;subst hS;exact I_ _ rfl
 have g:Shared.TypeIs {s with heap:=h1} (.ref z) "zip" := by obtain⟨o,e,c⟩:=(show ∃o,s.heap.get? z=some o/\_ from j);exact⟨o,W z o e,c⟩
 have jk:Builtin.List.listSameRef (.ref S) (.ref z)=false:=by simp[Builtin.List.listSameRef,k]
 refine(show wpAny _ A.in1 (Builtin.List.listExtendWith (.ref S) (.ref z)<|.ref S) _ _ {s with heap:=h1} from ?_);unfold Builtin.List.listExtendWith;refine A_ (fN g<|g_ (λgc=>absurd gc<|by rw[jk];decide) λ_=>A_ ?_);refine eD g F.slot_zip_iter<|aN F.slot_zip_iter g F.entry_zip_iter (show wpAny _ _ (ret<|.ref z) _ _ _ from C_ ⟨_,rfl,"zip",_,g,F.slot_zip_next.lookup,?_⟩)<|F.args_zip_iter_1 _;refine A_<|bK ?_;unfold Builtin.List.listLengthHint;refine A_<|c_ g JR<|show wpAny _ A.in1 (specialOf (Value.ref z) (Str.ofString "__length_hint__")>>=_) _ _ _ from A_<|c_ g DH<|C_ ?_;refine(show wpAny _ A.in1 (rule "list.extend.makes-room" >>= λ_=>Builtin.List.listTouch (.ref S)>>=λ_=>again<|.builtin "list.extend.loop" ⟨[.ref S,.ref z,.ref S],[]⟩) _ _ _ from A_<|eC<|A_<|show wpAny _ _ (updateSeq S (·.push .none)>>=λ_=>updateSeq S (·.pop)) _ _ _ from A_<|eI q rfl<|eI (aM (Obj.mapSeq (·.push Value.none)) q rfl) rfl ?_);have U:=aM (Obj.mapSeq (·.pop)) (aM (Obj.mapSeq (·.push Value.none)) q rfl) rfl;have V:∀b o,b≠S->h1.get? b=some o->((h1.update S<|Obj.mapSeq (·.push Value.none)).update S<|Obj.mapSeq (·.pop)).get? b=some o:=λb o hb e=>(cQ _ _<|bN hb).trans<|(cQ _ _<|bN hb).trans e;have z4:S<=((h1.update S<|Obj.mapSeq (·.push Value.none)).update S<|Obj.mapSeq (·.pop)).objs.size:=by rw[iZ,iZ];exact dD<|O_ q
 generalize ((h1.update S<|Obj.mapSeq (·.push Value.none)).update S<|Obj.mapSeq (·.pop))=h4 at U V z4 ⊢;have d:∀b o,b≠S->s.heap.get? b=some o->h4.get? b=some o:=λb o hb e=>V b o hb<|W b o e;refine C_ ⟨dM F.plain_extend_loop _,Xx (base:=S) hh D ?_ hz hn xs.size 0 {s with heap:=h4} #[] _ [] (by omega) ⟨d _ _ (bN y) L,a2.at λo e=>d _ o (bN x) e,Y.at λo e=>d _ o (bN u) e,R.at λo e=>d _ o (bN B) e,N.at λo e=>d _ o (bN G) e,?_⟩ U rfl ⟨List.Pairwise.nil,(λ_ h=>nomatch h),.nil⟩ z4 λn av c' k8 dm gx eA hP=>?_⟩;simp only[List.mem_cons,List.not_mem_nil,or_false,not_or];exact⟨k,y,t,x,u,B,G⟩;rcases O with⟨v,a,b,r⟩|⟨T,Z,v,⟨oT,r⟩,⟨P,q3⟩,q4⟩;exact .inl ⟨d _ _ (bN k) v,a,b,d _ _ (bN t) r⟩;exact .inr ⟨T,Z,d _ _ (bN k) v,⟨oT,d _ _ (λz=>by subst z;exact absurd (O_ r)<|by rw[hS];exact cX _) r⟩,⟨P,d _ _ (bN t) q3⟩,q4⟩;refine A_<|wpAny_load gx<|C_ ?_;rw[eA];refine h n k8 (λb o hb e=>dm b o hb<|d b o ?_ e) hP;exact λz=>hb<|by simp[z]
def Ug(z TI TO c d n q:lF)(xs ys:oC lC)(D:ZipApart z TI TO c d n q)(hz:xs.size=ys.size)(hn:xs.size<=1000) :
  MeetsIn prog w (Builtin.«tuple.__new__» ⟨[.type "tuple",.ref z],[]⟩) (λA R s=>A.handled=none/\ZSt s.heap z TI TO c d n q xs ys 0/\(∃k p,ZObj s.heap z TI TO k p) /\
   ∀(h':lL) (as:oA lF),(∀b o,b∉[s.heap.objs.size,z,TO,c,d]->s.heap.get? b=some o->h'.get? b=some o)->PairsAt h' [s.heap.objs.size,z,TO,c,d] s.heap.objs.size as (xs.toList.zip ys.toList) ->
    R (.ok<|.ret<|.ref h'.objs.size) {s with heap:=h'.push {cls:=.type "tuple",data:=.seq (as.map Value.ref).toArray}}) :=
 .of_wp λA R s h=>by
  obtain⟨hp,g,j,m,os⟩:=s;obtain⟨t,st,⟨k,p,f⟩,h⟩:=h;have x:=sub_tuple_self;have y:=init_tuple_lookup;have B:=madeHere_tuple;have l:Shared.TypeIs ⟨hp,g,j,m,os⟩ (.ref z) "zip" := ⟨_,f,rfl⟩
  wp_walk using wpAny_loadPart' f,fN l,N3 (A:=A.in1) (s:=⟨hp,g,j,m,os⟩) t D st hz hn l
  intro h' as hk r;have u:(as.map Value.ref).toArray.size<=sizeLine:=by have:=bF r.at_;simp at this ⊢;exact K_ (by omega)<|show 1000<=sizeLine by decide
  refine(show wpAny _ _ (Builtin.Tuple.tupleExact (as.map Value.ref).toArray>>=λv=>ret v) _ _ _ from ?_);unfold Builtin.Tuple.tupleExact;exact A_<|Z_ (C_ ⟨_,rfl,h h' as hk r⟩) u
theorem Inv.trackP:∀{as:oA lF} {d:oA<|V×V} {f:oA<|lC×lC} {H:Hp},Inv X aa σ H s->as.Pairwise (· < ·)->(∀a∈as,Gr X aa H a)->Paired (λT p=>IsPair s.heap T p.1 p.2) as f->Paired (λ(p:V×V) (u:lC×lC)=>Ba p.1 u.1/\Ba p.2 u.2) d f ->
  ∃c,Inv X aa σ c s/\(∀b o,H b=some o->c b=some o)/\Paired (λa (p:V×V)=>c a=some (.tup [p.1,p.2])) as d/\∀b,b∉as->c b=H b
 |[],_,_,H,I,_,_,h1,h2=>by cases h1;cases h2;exact⟨H,I,λ_ _ e=>e,.nil,λ_ _=>rfl⟩
 |a::as,_,_,H,I,hp,l,h1,h2=>by
  cases h1 with
  |@cons _ u _ f D y=>
  cases h2 with
  |@cons p _ d _ j B=>
   have m:=l a aS;have r:Inv X aa σ (upd H a<|.tup [p.1,p.2]) s:=I.track m ⟨by show 2<=sizeLine;decide,[u.1,u.2],.cons j.1<|.cons j.2 .nil,_,D,rfl,_,rfl⟩;have k:=(j_.mp hp).1;obtain⟨c,C,n,v,g⟩:=Inv.trackP r (j_.mp hp).2 (λb hb=>by
    obtain⟨x,t⟩:=l b<|aH _ hb;exact⟨by rw[Aq<|fE<|k b hb];exact x,t⟩) y B
   have q:a∉as:=λh=>cX _<|k a h;refine⟨c,C,λb o e=>n b o<|by rw[Aq<|Bv e m.1];exact e,.cons (by rw[g a q];exact Bi) v,λb hb=>?_⟩;rw[g b λh=>hb<|aH _ h,Aq λz=>hb<|by simp[z]]
def Kp.all{H H':Hp}(h:∀b o,H b=some o->H' b=some o):Kp H H':=⟨λb c e=>h b _ e,λb o u e=>h b _ e⟩
def Cn.allK{K:lG}{μ:M}{H H':Hp}(c:Cn K μ H)(h:∀b o,H b=some o->H' b=some o):Cn K μ H':=λa m e=>by obtain⟨o,d,r⟩:=c a m e;exact⟨o,h a o d,r.kp<|Kp.all h⟩
def PD(j tb:AE):AE:=λτ μ R=>j τ μ λx g=>tb τ g λy c=>match x,y with
 |.R a,.R b=>opt (c a) λm=>opt (c b) λn=>match m,n with
  |.lst l,.lst k=>opt (dats l) λf=>opt (dats k) λh=>(f.length=h.length/\f.length<=1000)/\R (.D<|.tuple<|List.zipWith (λd e=>PyData.tuple [d,e]) f h) c
  |_,_=>False
 |_,_=>False
def Uh{xs ys:oA V}{c b:oA lC}(h:Vals xs c)(k:Vals ys b):Paired (λ(p:V×V) (u:lC×lC)=>Ba p.1 u.1/\Ba p.2 u.2) (xs.zip ys) (c.zip b):=by
 induction h generalizing ys b with
 |nil=>simp;exact .nil
 |cons g l f=>
  cases k with
  |nil=>simp;exact .nil
  |cons j d=>exact .cons ⟨g,j⟩<|f d
theorem N4{K:lG}{H':Hp}:∀{as:oA lF} {xs ys:oA V} {ds es:oA lE},Paired (λa (p:V×V)=>H' a=some (.tup [p.1,p.2])) as (xs.zip ys)->An K H' ds xs->An K H' es ys->An K H' (List.zipWith (λd e=>PyData.tuple [d,e]) ds es) (as.map V.ref)
 |as,xs,ys,[],es,h,h1,h2=>by have:=h1.nil;subst this;simp at h;cases h;exact C7
 |as,xs,ys,d::ds,[],h,h1,h2=>by have:=h2.nil;subst this;simp at h;cases h;exact C7
 |as,xs,ys,d::ds,e::es,h,h1,h2=>by
  obtain⟨x,r,rfl,b,a2⟩:=h1.cons;obtain⟨y,q,rfl,c,f⟩:=h2.cons;cases h with
  |cons g j=>exact Ct (Gi g<|Ct b<|Ct c C7)<|N4 j a2 f
def DI{C l:lJ}{ta tb:AE}{p p2 pos U:Pos}(hc:X.calm=true)(hg:Gl X "tuple") (hm:X.mg "tuple" = none) (iw:Gl X "zip") (dj:X.mg "zip" = none) (h1:VE X C ta) (h2:VE X l tb)
  (hs:starEach [.Call (.Name "zip" p2) [C,l] [] U] X.env=[(false,eval (.Call (.Name "zip" p2) [C,l] [] U) X.env)]:=by rfl) (b8:starEach [C,l] X.env=(false,eval C X.env)::starEach [l] X.env:=by rfl) (dz:starEach [l] X.env=[(false,eval l X.env)]:=by rfl) (hpl:(backTo U<|starEach [l] X.env).any (·.1)=false:=by rfl) :
  VE X (.Call (.Name "tuple" p) [.Call (.Name "zip" p2) [C,l] [] U] [] pos) (PD ta tb):=by
 intro aa s σ H Q I fo;refine B1 fo λτ μ R bd hcn h hq=>?_;refine cF<|Dt I hg hm boot_tuple<|bE ?_ hs rfl;rw[hs];refine bG<|cF<|Dt I iw dj boot_zip<|bE ?_ b8 hpl;rw[b8];refine bG<|cD (h1.run I bd hcn h) (λu1 s1 zu=>?_) λ_ _ e=>e;obtain⟨x,v,μ1,H1,I1,rv,S1,c1,rx,q1⟩:=zu;rw[dz];refine bG<|cD (h2.run I1 (bd.kp S1) c1 q1) (λu2 q zu=>b_ ?_) λ_ _ e=>e;obtain⟨y,v2,μ2,H2,G,rv2,S2,c2,ry,g⟩:=zu;split at g
 ·rename_i a b;obtain⟨m,em,g⟩:=Ay g;obtain⟨n,en,g⟩:=Ay g;split at g
  ·rename_i us vs;obtain⟨ds,ed,g⟩:=Ay g;obtain⟨es,ee,g⟩:=Ay g;obtain⟨⟨ag,hmax⟩,g⟩:=g;obtain⟨oa,ha,ws,rfl,ra⟩:=c2 _ _ em;obtain⟨ob,hb,zs,rfl,rb⟩:=c2 _ _ en;have rx2:=rx.kp S2;cases rx2;cases rv;cases ry;cases rv2;obtain⟨j,r1,z,_⟩:=G.list<|E4.of (K:=X.K) ha;obtain⟨r,r2,u,_⟩:=G.list<|E4.of (K:=X.K) hb;have da:=ra.dats ed;have db:=rb.dats ee;have l1:=r1.length;have l2:=r2.length;have l3:=da.length;have l4:=db.length;have J:a<q.heap.objs.size:=by obtain⟨o,_,e,_⟩:=z;exact O_ e
   have L:b<q.heap.objs.size:=by obtain⟨o,_,e,_⟩:=u;exact O_ e
   refine call_zip_2 z.isList u.isList λW z1 z2 z3 z4 z5 z6 kz=>b_ ?_;generalize hB:q.heap.objs.size=B at J L z1 z2 z3 z4 z5 z6;have D:ZipApart (B+4) (B+2) (B+3) B (B+1) a b:=by have f:∀{c:lF} (k:Nat),c<B->c≠B+k:=λk h=>Y_<|R_ h<|bQ B k;exact⟨(show(B+2:Nat)≠B+4 by omega),(show(B+3:Nat)≠B+4 by omega),(show(B:Nat)≠B+4 by omega),(show(B+1:Nat)≠B+4 by omega),(show(B+2:Nat)≠B+3 by omega),(show(B+2:Nat)≠B by omega),(show(B+2:Nat)≠B+1 by omega),(show(B+3:Nat)≠B by omega),(show(B+3:Nat)≠B+1 by omega),(show(B:Nat)≠B+1 by omega),f 4 J,f 3 J,f 0 J,f 1 J,f 4 L,f 3 L,f 0 L,f 1 L⟩
   have l7:j.toArray.size=r.toArray.size:=by simp;omega
   have vq:j.toArray.size<=1000:=by simp;omega
   refine callType_newIn F.called_tuple (by decide) (F.typeCall_tuple_1 _) (F.newCall_tuple_1 _) (λY=>F.args_object_init_2 Y _) F.entry_tuple_new
    (Ug (B+4) (B+2) (B+3) B (B+1) a b j.toArray r.toArray D l7 vq) ⟨I.ok.hd hc,⟨z2,z4,z5,z.isList.at λo e=>kz _ o e,u.isList.at λo e=>kz _ o e,.inl ⟨z1,_,_,z3⟩⟩,⟨_,_,z1⟩,λt as hk S=>⟨⟨_,I_ _ rfl,rfl⟩,?_⟩⟩
   have kk:∀c o,q.heap.get? c=some o->t.get? c=some o:=λc o e=>by
    have lc:=O_ e;rw[hB]at lc;refine hk c o ?_<|kz c o e;simp only[List.mem_cons,List.not_mem_nil,or_false,not_or];have N:W.objs.size=B+5:=z6;refine⟨?_,?_,?_,?_,?_⟩
    ·show ¬c=W.objs.size;rw[N];exact Y_<|R_ lc<|by omega
    all_goals exact Y_<|R_ lc<|by omega
   have I3:Inv X aa σ H2 {q with heap:=t}:=G.kept kk;have wo:∀T∈as,Gr X aa H2 T:=λT hT=>by
    have P:q.heap.objs.size<=T:=by have:=(S.new T hT).1;have N:W.objs.size=B+5:=z6;have:W.objs.size<=T:=this;rw[hB];omega
    exact G.fpOk P<|G.hok.fresh P
   have hpv:=Uh r1 r2;obtain⟨H4,I4,k4,p4,_⟩:=Inv.trackP (s:={q with heap:=t}) I3 S.rise wo S.at_ (by simpa using hpv);have Z:=Kp.all k4;have O:=I4.hok.fresh<|F_ t.objs.size;have dk:=N4 p4 (An.kp Z _ _ da)<|An.kp Z _ _ db;have ij:(as.map V.ref).length<=sizeLine:=by have:=bF S.at_;simp at this ⊢;exact K_ (by omega)<|show 1000<=sizeLine by decide
   refine⟨.ref t.objs.size,_,I4.laid (a:=t.objs.size) (o:=.tup<|as.map V.ref) (t':=q.toks) (λb o e=>DD _ e) (F_ _) ⟨ij,as.map Value.ref,refsV as,IsTup.new _ _⟩,rfl,?_⟩;have S5:Kp H4 (upd H4 t.objs.size<|.tup<|as.map V.ref):=Kp.new O _;exact hq (.D<|.tuple<|List.zipWith (λd e=>PyData.tuple [d,e]) ds es) _ _ _ (((S1.trans S2).trans Z).trans S5) ((c2.allK k4).over O) (Gi (K:=X.K) Bi<|An.kp S5 _ _ dk) g
  ·exact g.elim
 ·exact g.elim
where
 refsV:∀(as:oA lF),Vals (as.map V.ref) (as.map Value.ref)
  |[]=>.nil
  |a::as=>.cons rfl<|refsV as
def WX:AC:=λc μ R=>match c with
 |[.D<|.bool b]=>R (.D<|.int<|if b then 1 else 0) μ
 |[.D<|.int i]=>R (.D<|.int i) μ
 |_=>False
def GB:VCall X (.type "int") WX:=by
 intro aa s σ H m f Q I r c;refine B1 c λas μ R k hc h hq=>?_;cases k with
 |nil=>exact False.elim h
 |@cons x v n j g l=>
  cases l with
  |nil=>
   cases x with
   |D d=>
    cases d with
    |bool b=>cases RelA.bl g;exact Kg aa s σ H _ f Q I r (.inr ⟨_,rfl,hq _ _ _ _ Kp.refl hc Cs h⟩)
    |int i=>cases RelA.int g;exact Kg aa s σ H _ f Q I r (.inl ⟨_,rfl,hq _ _ _ _ Kp.refl hc Cs h⟩)
    |_=>exact False.elim h
   |_=>exact False.elim h
  |cons _ _=>
   refine False.elim ?_;cases x with
   |D d=>cases d<;>exact h
   |_=>exact h
def txts:oA AV->oB (oA Str)
 |[]=>some []
 |.D (.str z)::b=>(txts b).map (z::·)
 |_::_=>none
theorem N5{K:lG}{H:Hp}:∀{xs:oA AV} {c:oA V} {b:oA Str},Aw K H xs c->txts xs=some b->c=b.map V.str
 |[],_,b,r,e=>by cases r;cases e;rfl
 |x::xs,_,b,r,e=>by
  cases r with
  |cons g d=>unfold txts at e;split at e;rename_i h;cases h;rename_i z k h;cases h;obtain⟨j,f,rfl⟩:=G_.mp e;cases RelA.str g;rw[N5 d f];rfl;cases e
def GC:AV->AC:=λx d μ R=>match x,d with
 |.D (.str z),[.R p]=>opt (μ p) λm=>match m with
  |.lst c=>opt (txts c) λb=>(b.map (·.length)).sum+b.length*z.length<=16777216/\R (.D<|.str<|Txt.join z b) μ
  |_=>False
 |_,_=>False
def JS:VMt X "str.join" GC:=by
 intro aa s σ H x y v p Q I k r b;refine En b λa as μ R d q hc h hq=>?_;unfold GC at h;split at h
 ·obtain⟨m,n,h⟩:=Ay h;split at h
  ·obtain⟨g,f,h⟩:=Ay h;obtain⟨o,c,u,rfl,l⟩:=hc _ _ n;cases RelA.str d;cases q with
   |cons t j=>cases j;cases t;rw[N5 l f]at c;exact Tr aa s σ H _ _ v p Q I k r ⟨_,_,g,rfl,rfl,c,h.1,hq _ _ _ _ Kp.refl hc Jc h.2⟩
  exact h.elim
 exact h.elim
def JT(c:AE):AE:=λτ μ R=>c τ μ λx b=>match x with
 |.D (.int n)=>(0<=n/\n<=1000)/\∀p,b p=none->R (.R p) (Al b p<|.lst<|Ej 0 n.toNat)
 |_=>False
theorem Rx{K:lG}{H:Hp}:∀(n:Nat) (lo:Int),Aw K H (Ej lo n) ((List.range n).map λ(i:Nat)=>V.int<|lo+i)
 | 0,lo=>.nil
 |n+1,lo=>by
  rw[List.range_succ_eq_map,aP,aD];refine .cons (by simpa using Cs) ?_;have:=Rx (K:=K) (H:=H) n<|lo+1;have e:(λ(i:Nat)=>V.int<|lo+1+i)=(λ(i:Nat)=>V.int<|lo+i) ∘ Nat.succ:=by
   funext i
   simp only[Function.comp];congr 1;omega
  rw[e]at this;exact this
def Xy{acc:oC lC}{n:Nat}{lo:Int}(h:ItemsOf (λi v=>∃t,v=.int (lo+i*1) t) acc n):Vals ((List.range n).map λ(i:Nat)=>V.int<|lo+i) acc.toList:=by
 obtain⟨h1,h2⟩:=h;have f:∀(m:Nat) (b:oA lC),b.length=m->(∀j v,b[j]?=some v->∃t,v=Value.int (lo+(j:Nat)*1) t)->Vals ((List.range m).map λ(i:Nat)=>V.int<|lo+i) b:=by
  intro m
  induction m with
  |zero=>intro b c _;rw[bM c];exact .nil
  |succ m k=>
   intro b c hu;have d:b≠[]:=by intro z;rw[z]at c;cases c
   rw[<- List.dropLast_concat_getLast d,List.range_succ,N_];have g:b.dropLast.length=m:=by rw[jG];omega
   refine jH (k b.dropLast g λj v e=>?_) ?_;have hj:j<b.dropLast.length:=(E_.mp e).1;rw[List.getElem?_dropLast,T_<|by omega]at e;exact hu j v e;obtain⟨t,e⟩:=hu m (b.getLast d) (by rw[List.getLast_eq_getElem];simp[c]);rw[e];exact⟨t,by rw[Int.mul_one]⟩
 exact f n acc.toList (by simpa using h1) λj v e=>h2 j v<|by rw[<- X_];exact e
def Xz{h:Hp}{lo hi:Int}{tk:Nat}{t u v:Tok}{Q:VK}{d:lD}(r:X.calm=true)(g:Inv X aa σ h d)(z:-1000<=lo)(B:lo<=hi)(p:hi<=1000)
  (q:∀l,h l=none->Q (.ref l) (upd h l<|.lst<|(List.range (hi-lo).toNat).map λ(i:Nat)=>V.int<|lo+i)) :
  qV X.prog X.w X.A (call (.type "list") [.ref d.heap.objs.size]) (EP X aa σ Q) X.xe {d with heap:=d.heap.push {cls:=.type "range",data:=.fields #[.int lo t,.int hi u,.int 1 v]},toks:=tk}:=by
 have x:Builtin.Range.rangeSize lo hi 1=((hi-lo).toNat:Nat):=by rw[rangeSize_one];split<;>omega
 have j:(hi-lo).toNat<=2000:=by omega
 refine call_list_range (s:={d with heap:=d.heap.push {cls:=.type "range",data:=.fields #[.int lo t,.int hi u,.int 1 v]},toks:=tk}) (g.ok.hd r) (IsRange.new ..) (small_one (by omega) (by omega) (by omega)<|by omega) x (K_ j<|by decide) λh2 k f c n y m=>?_;have hp:d.heap.objs.size<=(d.heap.push {cls:=.type "range",data:=.fields #[.int lo t,.int hi u,.int 1 v]}).objs.size:=by rw[dG];exact eJ _
 have hz:((List.range (hi-lo).toNat).map λ(i:Nat)=>V.int<|lo+i).length<=sizeLine:=by rw[B_,bR];exact K_ j<|show 2000<=sizeLine by decide
 refine⟨.ref _,_,g.laid (t':=k) (o:=.lst _) (λb o e=>n b o<|DD _ e) hp ⟨hz,f.toList,c,Xy m,by simpa using y⟩,rfl,q _<|g.hok.fresh hp⟩
def X0{b:lJ}{q:AE}{p d pos j:Pos}(hc:X.calm=true)(y:Gl X "list") (N:X.mg "list" = none) (D:Gl X "range") (z:X.mg "range" = none) (h1:VE X b q)
  (hs:starEach [.Call (.Name "range" d) [b] [] j] X.env=[(false,eval (.Call (.Name "range" d) [b] [] j) X.env)]:=by rfl) (m:starEach [b] X.env=[(false,eval b X.env)]:=by rfl) :
  VE X (.Call (.Name "list" p) [.Call (.Name "range" d) [b] [] j] [] pos) (JT q):=by
 intro aa s σ H Q I J;refine B1 J λτ μ R L f h hq=>?_;refine cF<|Dt I y N boot_list<|bE ?_ hs rfl;rw[hs];refine bG<|cF<|Dt I D z boot_range<|bE ?_ m rfl;rw[m];refine bG<|cD (h1.run I L f h) (λP S ⟨x,v,O,T,G,r,B,k,C,c⟩=>b_ ?_) λ_ _ e=>e;split at c;rename_i n _;obtain⟨⟨F,u⟩,c⟩:=c;cases RelA.int C;obtain⟨t,rfl⟩:=r;refine call_range_1 (b_<|Xz hc G (by omega) F u λl g=>?_);refine hq _ _ _ _ (B.trans<|Kp.new g _) (k.new g<|C2<|Rx _ 0) Du ?_;rw[Int.sub_zero];exact c l<|k.none g;exact c.elim
def lets(z:Str):Prop:=∀c∈z.cps.toList,97<=c/\c<=122
def G8(a b:Str):(a++b).cps.toList=a.cps.toList++b.cps.toList:=by show(a.cps++b.cps).toList=_;simp
def C0(z:Str):z.length=z.cps.toList.length:=by simp[Str.length]
def Fr{a b:Str}(ha:lets a)(hb:lets b):lets (a++b):=λc hc=>by rw[G8]at hc;rcases Q_.mp hc with h|h;exact ha c h;exact hb c h
def Jq{x:Str}{j:Int}(h0:0<=j)(h1:j<=(x.length:Int)):(Txt.slice x none<|some j).cps.toList=x.cps.toList.take j.toNat:=by have:=StrLaws.sliceText_to (x:=x) (j:=j) ⟨h0,by rw[<- C0];exact h1⟩;show(StrLaws.sliceText x none<|some j).cps.toList=_;rw[this];simp
def Gm{x:Str}{j:Int}(h0:0<=j)(h1:j<=(x.length:Int)):(Txt.slice x (some j) none).cps.toList=x.cps.toList.drop j.toNat:=by
 have b:j<=(x.cps.toList.length:Int):=by rw[<- C0];exact h1
 have:=StrLaws.sliceText_from (x:=x) (i:=j) ⟨h0,b⟩;show(StrLaws.sliceText x (some j) none).cps.toList=_;rw[this];show(((x.cps.toList.drop j.toNat).take ((x.cps.toList.length:Int)-j).toNat).toArray).toList=_;rw[List.toList_toArray,dE<|by rw[dZ];omega]
def JU:("" : Str).cps.toList=[]:=by decide +kernel
def Ui:∀{b:oA Str},(∀z∈b,lets z)->lets (Txt.join "" b):=λ{b} h=>by
 show lets (PySem.Builtin.Str.glued "" b);rw[StrLaws.glued_eq_join]
 induction b with
 |nil=>exact λc hc=>by simp[Str.join,Str.empty]at hc
 |cons x b d=>
  cases b with
  |nil=>exact h x aS
  |cons y b=>show lets (x ++ "" ++ Str.join "" (y::b));exact Fr (Fr (h x aS) λc hc=>by rw[JU]at hc;simp at hc)<|d λz hz=>h z<|aH _ hz
def PF:("q" : Str).cps.toList=[113]:=by decide +kernel
end
end L2
namespace L2
open PySem PySem.SetTable
theorem Fs{a:Type} [DecidableEq a]:∀{xs ys:oA a},xs.Nodup->(∀x∈xs,x∈ys)->xs.length<=ys.length
 |[],_,_,_=>aJ _
 |x::xs,ys,c,h=>by have b:=cB.mp c;have hx:=h x<|.head _;have:=Fs (ys:=ys.erase x) b.2 λz hz=>(List.mem_erase_of_ne<|by rintro rfl;exact b.1 hz).mpr<|h z<|.tail _ hz;rw[List.length_erase_of_mem hx]at this;have:0<ys.length:=iP hx;rw[aZ];omega
def advM(mask:Nat)(p:Probe):Probe :=
 if p.more>0 then {p with j:=p.j+1,more:=p.more-1} else
 {p with j:=(leap mask p.i p.perturb).1,more:=runEnd mask (leap mask p.i p.perturb).1-(leap mask p.i p.perturb).1,i:=(leap mask p.i p.perturb).1,perturb:=(leap mask p.i p.perturb).2}
def DJ(t:SetTable)(p:Probe):t.advance p=advM t.mask p:=rfl
def Uj(mask i perturb l:Nat):Probe:={j:=i+l,more:=runEnd mask i-i-l,i:=i,perturb:=perturb,dummy:=none}
def L4(mask:Nat)(h:Int):Nat->Probe
 | 0=>Uj mask (bits h%(mask+1)) (bits h) 0
 |n+1=>advM mask<|L4 mask h n
def sq(mask:Nat)(h:Int)(n:Nat):Nat:=(L4 mask h n).j
def rn(mask:Nat)(h:Int):Nat->Nat×Nat
 | 0=>(bits h%(mask+1),bits h)
 |r+1=>leap mask (rn mask h r).1 (rn mask h r).2
def nr(mask:Nat)(h:Int):Nat->Nat
 | 0=>0
 |r+1=>nr mask h r+(runEnd mask (rn mask h r).1-(rn mask h r).1)+1
def JV(mask i:Nat):runEnd mask i-i<=9:=by unfold runEnd;split<;>omega
def X1(mask i:Nat):i<=runEnd mask i:=by unfold runEnd;split<;>omega
def N6{mask i:Nat}(h:i<=mask):runEnd mask i<=mask:=by unfold runEnd;split<;>omega
theorem GD(mask:Nat)(h:Int):∀r,nr mask h r<=10*r
 | 0=>F_ _
 |r+1=>by have:=GD mask h r;have:=JV mask (rn mask h r).1;rw[nr];omega
def X2(mask:Nat)(h:Int):∀r,(rn mask h r).1<=mask
 | 0=>by have:=Nat.mod_lt (bits h)<|show 0<mask+1 from jW _;rw[rn];dsimp only;exact eE this
 |r+1=>by rw[rn,leap];have:=Nat.mod_lt ((rn mask h r).1*5+1+(rn mask h r).2 / 32)<|show 0<mask+1 from jW _;dsimp only;exact eE this
theorem Qb{mask:Nat}{h:Int}{n i a:Nat}(e:L4 mask h n=Uj mask i a 0):∀l,l<=runEnd mask i-i->L4 mask h (n+l)=Uj mask i a l
 | 0,_=>e
 |l+1,b=>by rw[<- kM,L4,Qb e l<|iK b];unfold advM;rw[T_<|show(Uj mask i a l).more>0 by show _-l>0;omega];show Probe.mk _ _ _ _ _=Probe.mk _ _ _ _ _;congr 1
theorem Ry(mask:Nat)(h:Int):∀r,L4 mask h (nr mask h r)=Uj mask (rn mask h r).1 (rn mask h r).2 0
 | 0=>rfl
 |r+1=>by
  rw[nr,L4,Qb (Ry mask h r) _<|F_ _];unfold advM;rw[M_<|show ¬(Uj mask (rn mask h r).1 (rn mask h r).2<|runEnd mask (rn mask h r).1-(rn mask h r).1).more>0 by show ¬(_-_-_>0);omega]
  rfl
def Ht{mask:Nat}{h:Int}{r l:Nat}(a:l<=runEnd mask (rn mask h r).1-(rn mask h r).1):sq mask h (nr mask h r+l)=(rn mask h r).1+l:=by unfold sq;rw[Qb (Ry mask h r) l a];rfl
theorem Hu(mask:Nat)(h:Int):∀n,(L4 mask h n).dummy=none
 | 0=>rfl
 |n+1=>by rw[L4,advM];split;exact Hu mask h n;exact Hu mask h n
theorem GE(mask:Nat)(h:Int):∀r,(rn mask h r).2=bits h / 32^r
 | 0=>by rw[rn,Nat.pow_zero,Nat.div_one]
 |r+1=>by rw[rn,leap];dsimp only;rw[GE mask h r,Nat.div_div_eq_div_mul,Nat.pow_succ]
def DK(h:Int):bits h<2^64:=by unfold bits;have h1:=iA h (show(0:Int)<2^64 by decide);have h2:=gH h (show(2^64:Int)≠0 by decide);omega
def DL(mask:Nat)(h:Int)(r:Nat):(rn mask h<|13+r+1).1=((rn mask h<|13+r).1*5+1)%(mask+1):=by
 rw[rn,leap];dsimp only;have e:(rn mask h<|13+r).2=0:=by rw[GE];refine Nat.div_eq_of_lt<|R_ (DK h) ?_;exact K_ (show 2^64<=32^13 by decide)<|Nat.pow_le_pow_right (by decide)<|bQ _ _
 rw[e]
def cyc(mask:Nat)(i:Nat):Nat->Nat
 | 0=>i
 |b+1=>(cyc mask i b*5+1)%(mask+1)
theorem X3(mask:Nat)(h:Int):∀b,(rn mask h<|13+b).1=cyc mask (rn mask h 13).1 b
 | 0=>rfl
 |b+1=>by rw[<- kM,DL,X3 mask h b];rfl
theorem G9(mask i:Nat)(a:Nat):∀b,cyc mask (cyc mask i a) b=cyc mask i (a+b)
 | 0=>rfl
 |b+1=>by rw[cyc,G9 mask i a b];rfl
def Msk(mask:Nat):Prop:=mask=7\/mask=31\/mask=127\/mask=511\/mask=2047\/mask=8191
def orbit(mask:Nat):Nat->Nat->oA Nat
 | 0,_=>[]
 |n+1,i=>i::orbit mask n ((i*5+1)%(mask+1))
theorem K3(mask:Nat):∀(n i x:Nat),x∈orbit mask n i->∃b,b<n/\cyc mask i b=x
 | 0,_,_,h=>by cases h
 |n+1,i,x,h=>by rcases aB.mp h with rfl|h;exact⟨0,jW _,rfl⟩;obtain⟨b,hb,e⟩:=K3 mask n _ x h;refine⟨b+1,Nat.add_lt_add_right hb 1,?_⟩;rw[show b+1=1+b from Nat.add_comm _ _,<- G9];exact e
def Kd(mask:Nat):Nat->Nat->Nat->Nat
 | 0,_,a=>a
 |n+1,i,a=>Kd mask n ((i*5+1)%(mask+1))<|a ||| 1 <<< i
theorem orbB_mem(mask:Nat):∀(n i a x:Nat),(Kd mask n i a).testBit x=true->a.testBit x=true\/x∈orbit mask n i
 | 0,_,_,_,h=>.inl h
 |n+1,i,a,x,h=>by
  rcases orbB_mem mask n _ _ x h with h|h;rw[kD,e_]at h;rcases h with h|h;exact .inl h
  right
  rw[Nat.one_shiftLeft,Nat.testBit_two_pow]at h;exact aB.mpr<|.inl (aG h).symm;exact .inr<|aH _ h
def orbs:(Kd 7 8 0 0=2^8-1/\cyc 7 0 8=0)/\(Kd 31 32 0 0=2^32-1/\cyc 31 0 32=0)/\(Kd 127 128 0 0=2^128-1/\cyc 127 0 128=0)/\(Kd 511 512 0 0=2^512-1/\cyc 511 0 512=0)/\(Kd 2047 2048 0 0=2^2048-1/\cyc 2047 0 2048=0)/\(Kd 8191 8192 0 0=2^8192-1/\cyc 8191 0 8192=0):=by decide +kernel
def orb{mask:Nat}(e:Msk mask):Kd mask (mask+1) 0 0=2^(mask+1)-1/\cyc mask 0 (mask+1)=0:=by obtain⟨h1,h2,d,c,b,a⟩:=orbs;rcases e with rfl|rfl|rfl|rfl|rfl|rfl;exact h1;exact h2;exact d;exact c;exact b;exact a
def DM{mask:Nat}(j:Msk mask){i x:Nat}(hi:i<=mask)(hx:x<=mask):∃b,b<=mask+1/\cyc mask i b=x:=by
 obtain⟨h1,h2⟩:=orb j;have d:∀y,y<=mask->∃b,b<mask+1/\cyc mask 0 b=y:=λy hy=>K3 mask _ 0 y (by
  have g:(Kd mask (mask+1) 0 0).testBit y=true:=by rw[h1,Nat.testBit_two_pow_sub_one];exact aW (Nat.lt_succ_of_le hy)
  rcases orbB_mem mask _ _ _ y g with h|h;rw[i_]at h;cases h;exact h)
 obtain⟨a,ha,e⟩:=d i hi;obtain⟨c,hc,f⟩:=d x hx;rcases cU c a with h|h;refine⟨mask+1-a+c,by omega,?_⟩;rw[<- e,G9,show a+(mask+1-a+c)=(mask+1)+c by omega,<- G9,h2,f];refine⟨c-a,by omega,?_⟩;rw[<- e,G9,show a+(c-a)=c from jP h,f]
def reach{mask:Nat}(a:Msk mask)(h:Int){x:Nat}(hx:x<=mask):∃r,r<=mask+14/\(rn mask h r).1=x:=by obtain⟨b,hb,e⟩:=DM a (X2 mask h 13) hx;exact⟨13+b,by omega,by rw[X3,e]⟩
theorem GF(mask:Nat)(h:Int):∀n,∃r l,l<=runEnd mask (rn mask h r).1-(rn mask h r).1/\n=nr mask h r+l
 | 0=>⟨0,0,aJ _,rfl⟩
 |n+1=>by obtain⟨r,l,a,rfl⟩:=GF mask h n;rcases cU l (runEnd mask (rn mask h r).1-(rn mask h r).1) with c|c;exact⟨r,l+1,c,rfl⟩;exact⟨r+1,0,aJ _,by rw[nr];omega⟩
def Rz(mask:Nat)(h:Int)(n:Nat):sq mask h n<=mask:=by obtain⟨r,l,a,rfl⟩:=GF mask h n;rw[Ht a];have:=N6<|X2 mask h r;have:=X1 mask (rn mask h r).1;omega
def Qc{mask:Nat}(g:Msk mask)(h:Int)(a:Nat->Prop) [DecidablePred a]{x:Nat}(hx:x<=mask)(hn:¬a x):∃n,n<10*turns mask/\¬a (sq mask h n)/\∀m,m<n->a (sq mask h m):=by
 obtain⟨r,j,e⟩:=reach g h hx;have h0:¬a (sq mask h<|nr mask h r):=by rw[show nr mask h r=nr mask h r+0 from rfl,Ht<|aJ _,e];exact hn
 have h1:nr mask h r<10*turns mask:=by have:=GD mask h r;unfold turns;omega
 generalize nr mask h r=k at h0 h1
 induction k using Nat.strongRecOn with
 |_ k i=>
  by_cases c:∀m,m<k->a (sq mask h m);exact⟨k,h1,h0,c⟩;have⟨m,b,f⟩:∃m,m<k/\¬a (sq mask h m):=by refine aL λz=>c λm d=>aL λy=>z ⟨m,d,y⟩
  exact i m b f<|fF b h1
theorem R0{mask:Nat}(h:Int)(owner:oC<|oB Nat)(hs:owner.size=mask+1):∀(fuel r:Nat),(∃k,r<=k/\k<r+fuel/\owner.getD (rn mask h k).1 none=none)->(∀m,m<nr mask h r->(owner.getD (sq mask h m) none).isSome=true) ->
  ∃n,layClean.free mask owner fuel (rn mask h r).1 (rn mask h r).2=some (sq mask h n)/\owner.getD (sq mask h n) none=none/\∀m,m<n->(owner.getD (sq mask h m) none).isSome=true
 | 0,r,⟨k,h1,h2,_⟩,_=>by omega
 |fuel+1,r,hk,d=>by
  have a:∀j,j<=mask->owner.getD j (some 0)=owner.getD j none:=λj hj=>by simp only[Array.getD,show j<owner.size by omega,dite_true]
  have p:=X2 mask h r;have u:=N6 p;have o:=X1 mask (rn mask h r).1;rw[layClean.free];cases c:(List.range<|runEnd mask (rn mask h r).1+1-(rn mask h r).1).find? λk=>(owner.getD ((rn mask h r).1+k)<|some 0).isNone with
  |some k=>
   obtain⟨t,c2,s⟩:=List.find?_range_eq_some.mp c;have v:=bC.mp c2;refine⟨nr mask h r+k,?_,?_,λm f=>?_⟩;rw[Ht<|by omega];rw[Ht<|by omega,<- a _ (by omega)];exact Option.isNone_iff_eq_none.mp t
   ·rcases cU m (nr mask h r) with z|z;exact d m z
    ·have e:m=nr mask h r+(m-nr mask h r):=by omega
     rw[e,Ht<|by omega,<- a _ (by omega)];have:=s (m-nr mask h r) (by omega);cases q:owner.getD ((rn mask h r).1+(m-nr mask h r)) (some 0) with
     |none=>rw[q]at this;cases this
     |some _=>rfl
  |none=>
   have i:=List.find?_range_eq_none.mp c;have g:∀l,l<=runEnd mask (rn mask h r).1-(rn mask h r).1->(owner.getD ((rn mask h r).1+l) none).isSome=true:=λl w=>by
    have:=i l (by omega);rw[a _<|by omega]at this;cases q:owner.getD ((rn mask h r).1+l) none with
    |none=>rw[q]at this;cases this
    |some _=>rfl
   refine R0 h owner hs fuel (r+1) ?_ λm f=>?_;obtain⟨k,h1,h2,b⟩:=hk;rcases iB h1 with rfl|h1;have:=g 0<|aJ _;rw[Nat.add_zero,b]at this;cases this;exact⟨k,h1,by omega,b⟩;rcases cU m (nr mask h r) with z|z;exact d m z;have e:m=nr mask h r+(m-nr mask h r):=by omega
   rw[nr]at f;rw[e,Ht<|by omega];exact g _<|by omega
structure Own(mask:Nat)(hs:oA Int)(owner:oC<|oB Nat)(k:Nat):Prop where
 size:owner.size=mask+1
 lt:∀j x,owner.getD j none=some x->x<k
 has:∀x,x<k->∃j,owner.getD j none=some x
 inj:∀j j' x,owner.getD j none=some x->owner.getD j' none=some x->j=j'
 path:∀j x h,owner.getD j none=some x->hs[x]?=some h->∃n,sq mask h n=j/\∀m,m<n->(owner.getD (sq mask h m) none).isSome=true
def X4(o:oC<|oB Nat)(j:Nat)(v:oB Nat)(hj:j<o.size)(i:Nat):(o.setIfInBounds j v).getD i none=if i=j then v else o.getD i none:=by rw[cY,cY,Array.getElem?_setIfInBounds];by_cases e:i=j;subst e;rw[T_ rfl,T_ hj,T_ rfl];rfl;rw[M_ λz=>e z.symm,M_ e]
def R3{o:oC<|oB Nat}{j x:Nat}(h:o.getD j none=some x):j<o.size:=by
 rw[cY]at h;cases c:o[j]? with
 |none=>rw[c]at h;cases h
 |some y=>exact(gP.mp c).1
def X5{mask k:Nat}{hs:oA Int}{owner:oC<|oB Nat}(o:Own mask hs owner k)(hk:k<=mask):∃x,x<=mask/\owner.getD x none=none:=by
 refine aL λz=>?_;have f:∀j,j<=mask->∃x,owner.getD j none=some x:=λj hj=>by
  cases c:owner.getD j none with
  |none=>exact absurd ⟨j,hj,c⟩ z
  |some x=>exact⟨x,rfl⟩
 have h1:((List.range<|mask+1).map λj=>(owner.getD j none).getD 0).Nodup:=by rw[List.Nodup,iM];refine List.Pairwise.imp_of_mem (R:=(· < ·)) (λ{a b} ha hb gc e=>?_) iN;obtain⟨x,d⟩:=f a (by have:=bC.mp ha;exact eE this);obtain⟨y,g⟩:=f b (by have:=bC.mp hb;exact eE this);rw[d,g]at e;have h:x=y:=e;subst h;have:=o.inj a b x d g;omega
 have h2:=Fs (ys:=List.range k) h1 λy hy=>by obtain⟨j,hj,rfl⟩:=D_.mp hy;obtain⟨x,d⟩:=f j (by have:=bC.mp hj;exact eE this);rw[d];exact bC.mpr<|o.lt j x d
 rw[B_,bR,bR]at h2;omega
def X6{mask k:Nat}{hs:oA Int}{owner:oC<|oB Nat}{h:Int}(D:Msk mask)(o:Own mask hs owner k)(hk:k<=mask)(u:hs[k]?=some h):∃j,layClean.free mask owner (turns mask) (bits h%(mask+1)) (bits h)=some j/\Own mask hs (owner.setIfInBounds j<|some k) (k+1):=by
 obtain⟨x,hx,w⟩:=X5 o hk;obtain⟨r,F,v⟩:=reach D h hx;obtain⟨n,q,E,C⟩:=R0 h owner o.size (turns mask) 0 ⟨r,aJ _,by unfold turns;omega,by rw[v];exact w⟩ λm d=>absurd d<|jL _;have hj:sq mask h n<owner.size:=by have:=Rz mask h n;rw[o.size];exact Nat.lt_succ_of_le this
 have c:=X4 owner (sq mask h n) (some k) hj;refine⟨_,q,by rw[Array.size_setIfInBounds];exact o.size,λj y e=>?_,λy hy=>?_,λj B y a b=>?_,λj y g a b=>?_⟩;rw[c]at e;split at e;cases e;exact dO _;have:=o.lt j y e;exact dQ this;rcases(show y<k\/y=k by omega) with h'|rfl;obtain⟨j,l⟩:=o.has y h';refine⟨j,?_⟩;rw[c,M_<|by rintro rfl;rw[E]at l;cases l];exact l;exact⟨_,by rw[c,T_ rfl]⟩;rw[c]at a b;split at a;rename_i f;split at b;rename_i s;exact f.trans s.symm;cases a;have:=o.lt _ _ b;omega;split at b;cases b;have:=o.lt _ _ a;omega;exact o.inj j B y a b;have p:∀i,(owner.getD i none).isSome=true->((owner.setIfInBounds (sq mask h n)<|some k).getD i none).isSome=true:=λi hi=>by
  rw[c];split
  rfl
  exact hi
 rw[c]at a;split at a;rename_i f;cases a;rw[u]at b;cases b;exact⟨n,f.symm,λm d=>p _<|C m d⟩;obtain⟨A,t,z⟩:=o.path j y g a b;exact⟨A,t,λm d=>p _<|z m d⟩
def DN(mask:Nat)(acc:oB<|oC (oB Nat)×Nat)(h:Int):oB (oC (oB Nat)×Nat):=do
 let(a,k) <- acc
 let j <- layClean.free mask a (turns mask) (bits h%(mask+1)) (bits h)
 pure (a.setIfInBounds j<|some k,k+1)
theorem N7{mask:Nat}(d:Msk mask){hs:oA Int}(c:hs.length<=mask+1):∀(rest a:oA Int) (owner:oC<|oB Nat),hs=a++rest->Own mask hs owner a.length->∃b,rest.foldl (DN mask) (some (owner,a.length))=some (b,hs.length)/\Own mask hs b hs.length
 |[],a,owner,e,o=>by rw[cL]at e;subst e;exact⟨owner,rfl,o⟩
 |h::rest,a,owner,e,o=>by
  have hk:a.length<=mask:=by rw[e,P_,aZ]at c;omega
  obtain⟨j,f,g⟩:=X6 d o hk (h:=h) (by rw[e];simp);have i:DN mask (some (owner,a.length)) h=some (owner.setIfInBounds j<|some a.length,(a++[h]).length):=by
   unfold DN;simp only[Option.bind_eq_bind,Option.bind_some,f,List.length_append]
   rfl
  rw[fA,i];exact N7 d c rest (a++[h]) _ (by rw[e];simp)<|by rw[P_];exact g
def JW{mask:Nat}(d:Msk mask)(hs:oC Int)(c:hs.size<=mask+1):∃a,layClean mask hs=some a/\Own mask hs.toList a hs.size:=by
 have g:Own mask hs.toList (Array.replicate (mask+1) none) 0:=by
  have b:∀j,(Array.replicate (mask+1) (none:oB Nat)).getD j none=none:=λj=>by rw[cY,Array.getElem?_replicate];split<;>rfl
  exact⟨by simp,λj x e=>(by rw[b]at e;cases e),λx hx=>absurd hx<|jL _,λj i x e=>(by rw[b]at e;cases e),λj x h e=>(by rw[b]at e;cases e)⟩
 obtain⟨a,e,o⟩:=N7 d (hs:=hs.toList) (by simpa using c) hs.toList [] _ rfl g;refine⟨a,?_,by simpa using o⟩;unfold layClean;rw[<- Array.foldl_toList];have f:List.foldl (DN mask) (some (Array.replicate (mask+1) none,0)) hs.toList=some (a,hs.toList.length):=e;exact(bO (Option.map (·.1)) f).trans rfl
structure TabQ(t:SetTable)(hs:oA Int):Prop where
 msk:Msk t.mask
 len:t.place.size=hs.length
 le:∀j∈t.place.toList,j<=t.mask
 path:∀z∈t.place.toList.zip hs,∃n,sq t.mask z.2 n=z.1/\∀m,m<n->sq t.mask z.2 m∈t.place.toList
def DO{mask f mv:Nat}{led pl:Bool}(s:Msk mask)(hs:oC Int)(F:hs.size<=mask+1):∃t h,laid mask f mv led pl hs=some (t,h)/\t.mask=mask/\h.toList.Perm (List.range hs.size)/\TabQ t (h.toList.map λi=>hs.getD i 0):=by
 obtain⟨c,e,o⟩:=JW s hs F;have d:∀j x,(j,x)∈((List.range<|mask+1).filterMap λj=>(c.getD j none).map (j,·))↔c.getD j none=some x:=λj x=>by rw[jX];constructor;rintro⟨a,ha,q⟩;obtain⟨y,l,B⟩:=G_.mp q;cases B;exact l;intro q;refine⟨j,bC.mpr ?_,by rw[q];rfl⟩;have:=R3 q;rw[o.size]at this;exact this
 have hnd:((List.range<|mask+1).filterMap λj=>(c.getD j none).map (j,·)).Pairwise λp q=>p.2≠q.2:=by refine List.Pairwise.filterMap _ (R:=(· < ·)) (λa G H b hb I v=>?_) iN;obtain⟨z,hz,rfl⟩:=G_.mp hb;obtain⟨w,g,rfl⟩:=G_.mp v;intro q;have C:z=w:=q;subst C;have:=o.inj a G z hz g;omega
 refine⟨_,_,by unfold laid;rw[e];rfl,rfl,?_,?_⟩;show(List.map (λp:Nat×Nat=>p.2) _).Perm _;refine(List.perm_ext_iff_of_nodup ?_ List.nodup_range).mpr λx=>?_;rw[List.Nodup,iM];exact hnd;rw[D_,bC];constructor;rintro⟨⟨j,y⟩,hy,rfl⟩;exact o.lt j y<|(d j y).mp hy;intro hx;obtain⟨j,D⟩:=o.has x hx;exact⟨(j,x),(d j x).mpr D,rfl⟩;refine⟨s,?_,λj hj=>?_,λz hz=>?_⟩;show(List.map _ _).toArray.size=(List.map _<|List.map _ _).length;simp;have k:j∈List.map (·.1) ((List.range<|mask+1).filterMap λj=>(c.getD j none).map (j,·)):=hj;obtain⟨⟨a,b⟩,q,rfl⟩:=D_.mp k;have:=R3<|(d a b).mp q;rw[o.size]at this;show a<=mask;exact eE this;have g:z∈List.zip (List.map (·.1)<|(List.range<|mask+1).filterMap λj=>(c.getD j none).map (j,·)) (List.map (λi=>hs.getD i 0)<|List.map (·.2)<|(List.range<|mask+1).filterMap λj=>(c.getD j none).map (j,·)):=hz;rw[aD,List.zip_map',D_]at g;obtain⟨⟨a,b⟩,q,rfl⟩:=g;have r:=(d a b).mp q;have hb:=o.lt a b r;obtain⟨n,A,E⟩:=o.path a b (hs.getD b 0) r (by rw[X_,cY,aC hb];rfl);refine⟨n,A,λm u=>?_⟩;obtain⟨y,l⟩:=Option.isSome_iff_exists.mp<|E m u;exact D_.mpr ⟨(_,y),(d _ y).mpr l,rfl⟩
def D8{xs:oC Nat}(h:Ex xs){j k:Nat}(e:xs[k]?=some j):SetTable.below xs j=k:=by
 obtain⟨hk,b⟩:=gP.mp e;obtain⟨h1,h2,a⟩:=Ey h j;have f:xs.getD k j=j:=by rw[cY,e];rfl
 rcases kG (SetTable.below xs j) k with c|c|c;have:=h.lt (d:=j) c hk;have:=a _ (F_ _)<|fF c hk;omega;exact c;have:=h2 k c;omega
def R4{t:SetTable}{led:Bool}(h:TblOk t led){j:Nat}(hj:j∈t.place.toList):∃i,t.slot j=.live i/\t.place[i]?=some j:=by obtain⟨i,hi⟩:=List.getElem?_of_mem hj;rw[X_]at hi;refine⟨i,?_,hi⟩;unfold SetTable.slot;dsimp only;rw[D8 h.rise hi,hi];simp
def N8{t:SetTable}{led:Bool}(h:TblOk t led){j:Nat}(hj:j∉t.place.toList):t.slot j=.empty:=by
 unfold SetTable.slot;dsimp only;rw[h.dum,Nu,M_]
 rfl
 intro c;have a:t.place[SetTable.below t.place j]?=some j:=by simpa using c
 rw[<- X_]at a;exact hj<|W_ a
theorem Jr{d c:Type}(a:d)(b:c):∀(p:Nat) (xs:oA d) (ys:oA c),xs.length=ys.length->(xs.take p++a::xs.drop p).zip (ys.take p++b::ys.drop p)=(xs.zip ys).take p++(a,b)::(xs.zip ys).drop p
 | 0,xs,ys,_=>by simp
 |p+1,[],[],_=>by simp
 |p+1,x::xs,y::ys,h=>by have:=Jr a b p xs ys (by simpa using h);simpa using this
 |_+1,[],_::_,h=>by simp at h
 |_+1,_::_,[],h=>by simp at h
def TabQ.put{t:SetTable}{led:Bool}{hs:oA Int}{h:Int}{n:Nat}(q:TabQ t hs)(T:TblOk t led)(k:∀m,m<n->sq t.mask h m∈t.place.toList):TabQ (t.put<|sq t.mask h n).1 (hs.take (SetTable.below t.place<|sq t.mask h n)++h::hs.drop (SetTable.below t.place<|sq t.mask h n)):=by
 have hp:SetTable.below t.place (sq t.mask h n)<=t.place.size:=(Ey T.rise _).1;have e:(t.put<|sq t.mask h n).1.place.toList=t.place.toList.take (SetTable.below t.place<|sq t.mask h n)++sq t.mask h n::t.place.toList.drop (SetTable.below t.place<|sq t.mask h n):=Fp _ _ _ hp;have o:(t.put<|sq t.mask h n).1.mask=t.mask:=rfl;have l:=q.len;have g:∀j,j∈t.place.toList->j∈(t.put<|sq t.mask h n).1.place.toList:=λj hj=>by rw[e];rw[<- iT (SetTable.below t.place<|sq t.mask h n) t.place.toList]at hj;rcases Q_.mp hj with hj|hj;exact aE _ hj;exact aT _<|aH _ hj
 have i:∀j,j∈(t.put<|sq t.mask h n).1.place.toList->j=sq t.mask h n\/j∈t.place.toList:=λj hj=>by rw[e]at hj;rcases Q_.mp hj with hj|hj;exact .inr<|eV hj;rcases aB.mp hj with hj|hj;exact .inl hj;exact .inr<|fO hj
 refine⟨q.msk,?_,λj hj=>?_,λz hz=>?_⟩;rw[<- aR,e];simp only[List.length_append,List.length_cons,List.length_take,List.length_drop,Array.length_toList];omega;rcases i j hj with rfl|hj;exact Rz _ _ _;exact q.le j hj;rw[e,Jr _ _ _ _ _<|by rw[aR];exact l]at hz;rw[o];have f:z∈t.place.toList.zip hs->∃c,sq t.mask z.2 c=z.1/\∀m,m<c->sq t.mask z.2 m∈(t.put<|sq t.mask h n).1.place.toList:=λhz=>by obtain⟨c,a,b⟩:=q.path z hz;exact⟨c,a,λm d=>g _<|b m d⟩
 rcases Q_.mp hz with hz|hz;exact f<|eV hz;rcases aB.mp hz with rfl|hz;exact⟨n,rfl,λm d=>g _<|k m d⟩;exact f<|fO hz
def X7{t:SetTable}{led:Bool}{hs:oA Int}(q:TabQ t hs)(T:TblOk t led)(a:hs.length<=t.mask):∃x,x<=t.mask/\x∉t.place.toList:=by refine aL λz=>?_;have:=Fs (ys:=t.place.toList) (List.nodup_range (n:=t.mask+1)) λx hx=>aL λy=>z ⟨x,by have:=bC.mp hx;exact eE this,y⟩;rw[bR,aR,q.len]at this;omega
theorem probe_ok{t:SetTable}{led:Bool}(T:TblOk t led){hashAt:Nat->Int}{h:Int}{e:Nat}(he:sq t.mask h e∉t.place.toList)(hb:∀m,m<e->sq t.mask h m∈t.place.toList):∀(f n:Nat),n<=e->e<n+f ->
  (SetTable.probe.go t hashAt h f (L4 t.mask h n)=some (.empty (sq t.mask h e) none)/\∀m i,n<=m->m<e->t.place[i]?=some (sq t.mask h m)->hashAt i≠h) \/
  ∃k i,n<=k/\k<e/\t.place[i]?=some (sq t.mask h k)/\hashAt i=h/\SetTable.probe.go t hashAt h f (L4 t.mask h n)=some (.candidate (sq t.mask h k) i<|L4 t.mask h<|k+1)/\∀m i,n<=m->m<k->t.place[i]?=some (sq t.mask h m)->hashAt i≠h
 | 0,n,h1,h2=>by omega
 |f+1,n,h1,h2=>by
  rw[SetTable.probe.go];have s:∀{i i' j:Nat},t.place[i]?=some j->t.place[i']?=some j->i=i':=λa b=>(D8 T.rise a).symm.trans<|D8 T.rise b;rcases iB h1 with rfl|h1;rw[show t.slot (L4 t.mask h n).j=.empty from N8 T he];dsimp only;rw[Hu];exact .inl ⟨rfl,λm i a b=>by omega⟩;obtain⟨i,hi,hp⟩:=R4 T<|hb n h1;rw[show t.slot (L4 t.mask h n).j=.live i from hi];dsimp only;by_cases c:hashAt i=h;rw[T_<|by simpa using c];exact .inr ⟨n,i,F_ _,h1,hp,c,rfl,λm i a b=>by omega⟩;rw[M_<|by simpa using c,DJ];have d:∀i',t.place[i']?=some (sq t.mask h n)->hashAt i'≠h:=λi' v=>by rw[s v hp];exact c
  rcases probe_ok T he hb f (n+1) h1 (by omega) with⟨a,b⟩|⟨k,i',p,a2,u,w,q,r⟩;refine .inl ⟨a,λm i' m1 l g=>?_⟩;rcases iB m1 with rfl|m1;exact d i' g;exact b m i' m1 l g;refine .inr ⟨k,i',iK p,a2,u,w,q,λm o m1 l g=>?_⟩;rcases iB m1 with rfl|m1;exact d o g;exact r m o m1 l g
end L2
namespace L2
open PySem
section
variable {prog:lH}{w:lI}{A:lK}{E:lC->lD->Prop}{s:lD}
def X8:∀(n q:Nat) (d:lE) (u:lC) (as:oA lF) (A:lK) (E:lC->lD->Prop) (s:lD) (Q:Bool->lD->Prop),d.depth<=n->n<q->Cano d=true->Reads s.heap u d as->Q false s->qV prog w A (ofAClassStatement q u) Q E s:=by
 intro n
 induction n with
 |zero=>
  intro q d u as A E s Q F hq hc c h;cases c with
  |int i t=>unfold ofAClassStatement;exact C_ h
  |str x t=>unfold ofAClassStatement;exact C_ h
  |tuple g a2 k l=>simp[PyData.depth]at F
  |none=>simp[Cano]at hc
  |bool b=>simp[Cano]at hc
  |list g a2 k l=>simp[Cano]at hc
  |dict g a2 k l I=>simp[Cano]at hc
 |succ n M=>
  intro q d u as A E s Q F hq hc c h;cases c with
  |int i t=>unfold ofAClassStatement;exact C_ h
  |str x t=>unfold ofAClassStatement;exact C_ h
  |none=>simp[Cano]at hc
  |bool b=>simp[Cano]at hc
  |list g a2 k l=>simp[Cano]at hc
  |dict g a2 k l I=>simp[Cano]at hc
  |@tuple a o items m y as G e z hi=>
   have N:s.TypeIs (.ref a) "tuple" := ⟨o,G,e⟩;have J:PyData.depthAll y<=n:=by simp only[PyData.depth]at F;omega
   have L:A3 y=true:=hc;obtain⟨C,rfl⟩:∃C,q=C+1:=⟨q-1,by omega⟩;unfold ofAClassStatement;refine A_<|fN N ?_;dsimp only;rw[T_ (by decide:("tuple" == "tuple")=true)];refine A_<|C_ ?_;simp only[Bool.not_true,Bool.false_eq_true,if_false];refine A_<|eB G z ?_;dsimp only;refine A_<|show wpAny _ _ (forIn items _ _) _ _ s from ?_;rw[<- fJ];refine fY _ (λrest r f=>r.1=none/\f=s/\∃j H,ReadsAll s.heap rest j H/\A3 j=true/\PyData.depthAll j<=n) _ ?_ ?_ _ _ ⟨rfl,rfl,y,as,hi,L,J⟩
   ·rintro v rest r f ⟨c,rfl,j,H,P,e,R⟩;cases P with
    |@cons _ _ d B D p h1 O=>simp only[A3,Bool.and_eq_true]at e;simp only[PyData.depthAll]at R;refine A_ (M C d v D A _ f _ (by omega) (by omega) e.1 h1 ?_);simp only[Bool.false_eq_true,if_false];exact C_ ⟨rfl,rfl,B,p,O,e.2,by omega⟩
   rintro⟨T,S⟩ f ⟨c,rfl,_⟩;simp only at c;subst c;exact C_ h
def JX:∀(n q:Nat) (d:lE) (u:lC) (as:oA lF) (A:lK) (E:lC->lD->Prop) (s:lD) (Q:Bool->lD->Prop),d.depth<=n->Cano d=true->Reads s.heap u d as->(∀b,Q b s)->qV prog w A (hashByValue q u) Q E s:=by
 intro n
 induction n with
 |zero=>
  intro q d u as A E s Q D hc c h;cases c with
  |int i t=>unfold hashByValue;exact C_ (h _)
  |str x t=>unfold hashByValue;exact C_ (h _)
  |tuple g a2 l k=>simp[PyData.depth]at D
  |none=>simp[Cano]at hc
  |bool b=>simp[Cano]at hc
  |list g a2 l k=>simp[Cano]at hc
  |dict g a2 l k I=>simp[Cano]at hc
 |succ n N=>
  intro q d u as A E s Q D hc c h;cases c with
  |int i t=>unfold hashByValue;exact C_ (h _)
  |str x t=>unfold hashByValue;exact C_ (h _)
  |none=>simp[Cano]at hc
  |bool b=>simp[Cano]at hc
  |list g a2 l k=>simp[Cano]at hc
  |dict g a2 l k I=>simp[Cano]at hc
  |@tuple a o items m y as G e z hi=>
   have O:s.TypeIs (.ref a) "tuple" := ⟨o,G,e⟩;have J:PyData.depthAll y<=n:=by simp only[PyData.depth]at D;omega
   have L:A3 y=true:=hc;cases q with
   |zero=>unfold hashByValue;exact C_ (h _)
   |succ M=>
    unfold hashByValue;refine A_<|c_ O F.slot_tuple_hash.lookup<|show wpAny _ _ (seqItems? (.ref a)>>=_) _ _ s from ?_;refine A_<|eB G z<|A_<|show wpAny _ _ (forIn items _ _) _ _ s from ?_;rw[<- fJ];refine fY _ (λrest r f=>r.1=none/\f=s/\∃j H,ReadsAll s.heap rest j H/\A3 j=true/\PyData.depthAll j<=n) _ ?_ ?_ _ _ ⟨rfl,rfl,y,as,hi,L,J⟩
    ·rintro v rest r f ⟨c,rfl,j,H,R,e,S⟩;cases R with
     |@cons _ _ d B C p h1 P=>simp only[A3,Bool.and_eq_true]at e;simp only[PyData.depthAll]at S;refine A_ (N M d v C A _ f _ (by omega) e.1 h1 λb=>?_);cases b;exact C_<|C_<|h _;exact C_ ⟨rfl,rfl,B,p,P,e.2,by omega⟩
    rintro⟨U,T⟩ f ⟨c,rfl,_⟩;simp only at c;subst c;exact C_<|h _
def Cg(h:lL)(d:lE)(b:lF):Prop:=KeyTree d/\∃as,Reads h (.ref b) d as
def DP{d:lE}{b:lF}(hx:Cg s.heap d b):∀{j:oA lC} {Q:Bool->lD->Prop},(∀v∈j,∃e c,v=.ref c/\Cg s.heap e c)->Q false s->qV prog w A (searchCouldBeSeen (.ref b) j) Q E s:=by intro j Q hv h;obtain⟨g,as,n⟩:=hx;unfold searchCouldBeSeen;refine A_<|fY _ (λrest r a=>r.1=none/\a=s/\∀v∈rest,∃e c,v=.ref c/\Cg s.heap e c) _ ?_ ?_ _ _ ⟨rfl,rfl,hv⟩;rintro v rest ⟨p,o⟩ a ⟨i,rfl,hv'⟩;obtain⟨e,c,rfl,f,k,l⟩:=hv' v<|.head _;have m:∀v∈rest,∃e c,v=.ref c/\Cg a.heap e c:=λv h=>hv' v<|.tail _ h;dsimp only;split;exact C_ ⟨rfl,rfl,m⟩;refine A_ (Jo 6 8 _ _ as _ _ _ _ g.dep (by decide) g.can n ?_);simp only[Bool.not_true,Bool.false_eq_true,if_false];refine A_ (Jo 6 8 _ _ k _ _ _ _ f.dep (by decide) f.can l ?_);simp only[Bool.not_true,Bool.false_eq_true,if_false];refine A_ (X8 6 8 _ _ as _ _ _ _ g.dep (by decide) g.can n ?_);simp only[Bool.false_eq_true,if_false];refine A_ (X8 6 8 _ _ k _ _ _ _ f.dep (by decide) f.can l ?_);simp only[Bool.false_eq_true,if_false];exact C_ ⟨rfl,rfl,m⟩;rintro⟨p,o⟩ a ⟨i,rfl,_⟩;simp only at i;subst i;exact C_ h
def L5(w:lI)(x:lE×lF):Int×lC:=(Bb w x.1,.ref x.2)
def Fa(w:lI)(h:lL)(a:lF)(xs:oA<|lE×lF)(led:Bool):Prop :=
 ∃o b c t,h.get? a=some o/\o.ExactSet/\o.data=.set b c t/\b.toList=xs.map (L5 w)/\(∀x∈xs,Cg h x.1 x.2)/\t.fits b.size=true/\TblOk t led/\TabQ t (xs.map λx=>Bb w x.1)/\xs.length*5<t.mask*3
def Qe{t:SetTable}{f g:Nat->Int}{h:Int}{p:SetTable.Probe}(e:∀i,f i=g i):t.probe f h p=t.probe g h p:=by rw[funext e]
def DQ{t:SetTable}{hs:oA Int}(q:TabQ t hs):t.gaveWay=false:=by unfold SetTable.gaveWay;rcases q.msk with h|h|h|h|h|h<;>rw[h]<;>decide
def DR{b:Type}{c:Prop} [Decidable c]{m1 a:Sem b}{Q:b->lD->Prop}(h:qV prog w A a Q E s)(h1:qV prog w A a Q E s->qV prog w A m1 Q E s):qV prog w A (if c then m1 else a) Q E s:=by split;exact h1 h;exact h
def Uk{a:lF}{o:lM}{es:oC<|Int×lC}{ep:Nat}{t:SetTable}{xs:oA<|lE×lF}{led:Bool}{d:lE}{b:lF}{Q:SetFound->lD->Prop}{l:Nat}(hu:A.units+6<cLine)(R:s.heap.get? a=some o)(T:o.data=.set es ep t)(I:es.toList=xs.map (L5 w))(X:∀x∈xs,Cg s.heap x.1 x.2)(U:t.fits es.size=true)(r:TblOk t led)(C:TabQ t<|xs.map λx=>Bb w x.1)(hx:Cg s.heap d b)
  (he:sq t.mask (Bb w d) l∉t.place.toList) (hb:∀m,m<l->sq t.mask (Bb w d) m∈t.place.toList) (jq:l<10*SetTable.turns t.mask)
  (h1:d∈xs.map (·.1)->Q (.there none) s) (h2:d∉xs.map (·.1)->Q (.free (sq t.mask (Bb w d) l) false) s) :
  ∀(k n fuel:Nat) (z:oB SetTable.Probe),n+k=l->k<fuel->(z=some (L4 t.mask (Bb w d) n)\/z=none/\n=0)->(∀(m i:Nat) (x:lE×lF),m<n->t.place[i]?=some (sq t.mask (Bb w d) m)->xs[i]?=some x->x.1≠d) ->
   qV prog w A (setSearchFrom a (.ref b) (Bb w d) true fuel z) Q E s:=by
 intro k
 induction k using Nat.strongRecOn with
 |_ k ih=>
 intro n fuel z hn hfu bd P;obtain⟨fuel,rfl⟩:∃f,fuel=f+1:=⟨fuel-1,by omega⟩;have S:∀{i:Nat} {x:lE×lF},xs[i]?=some x->es[i]?=some (L5 w x):=λ{i x} h=>by rw[<- X_,I,L_,h];rfl
 have G:∀{i j:Nat},t.place[i]?=some j->∃x,xs[i]?=some x:=λ{i j} h=>by have hi:=(gP.mp h).1;have:=C.len;rw[B_]at this;exact⟨_,J_<|by omega⟩
 unfold setSearchFrom;refine A_<|bH R T U ?_;dsimp only;rw[DQ C,M_ S_];have Z:z.getD (t.probeStart<|Bb w d)=L4 t.mask (Bb w d) n:=by
  rcases bd with rfl|⟨rfl,rfl⟩
  rfl
  rfl
 rw[Z,Qe (g:=λi=>((xs.map λx=>Bb w x.1)[i]?).getD 0) ?_];have N:=probe_ok (hashAt:=λi=>((xs.map λx=>Bb w x.1)[i]?).getD 0) r he hb (10*SetTable.turns t.mask) n (by omega) (by omega);rcases N with⟨a1,a2⟩|⟨q,i,b1,b2,M,b4,b5,b6⟩;rw[show t.probe (λi=>((xs.map λx=>Bb w x.1)[i]?).getD 0) (Bb w d) (L4 t.mask (Bb w d) n)=_ from a1];dsimp only;refine C_<|h2 λcr=>?_;obtain⟨x,F,rfl⟩:=D_.mp cr;obtain⟨i,hi⟩:=List.getElem?_of_mem F;have qm:i<t.place.size:=by have:=C.len;have:=(E_.mp hi).1;rw[B_]at *;omega
 have u:t.place[i]?=some t.place[i]:=aC qm;obtain⟨B,O,W⟩:=C.path (t.place[i],Bb w x.1)<|W_ (i:=i)<|by
  rw[List.getElem?_zip_eq_some];exact⟨by rw[X_];exact u,by rw[L_,hi];rfl⟩
 dsimp only at O W;have bq:B<l:=by rcases kG B l with c|c|c;exact c;subst c;rw[O]at he;exact absurd (by rw[<- X_]at u;exact W_ u) he;exact absurd (W l c) he
 rw[<- O]at u;rcases cU B n with c|c;exact P B i x c u hi rfl;exact a2 B i c bq u (by rw[L_,hi];rfl);rw[show t.probe (λi=>((xs.map λx=>Bb w x.1)[i]?).getD 0) (Bb w d) (L4 t.mask (Bb w d) n)=_ from b5];obtain⟨x,hi⟩:=G M;have F:=W_ hi;dsimp only;rw[S hi];dsimp only[L5];refine DR ?_ λgo=>A_ (DP hx (λv hv=>?_)<|by rw[M_ S_];exact go);refine A_<|bK<|(N1 prog w).eqBool hu (X x F) hx ?_;refine A_<|bH R T U ?_;dsimp only;by_cases p:x.1=d;rw[aW p,T_<|by rfl];exact C_<|h1<|D_.mpr ⟨x,F,p⟩;rw[aQ p,M_<|by decide,show t.sameMemory t.moves t.mask=some true by unfold SetTable.sameMemory;rw[T_<|by simp]];dsimp only;obtain⟨V,b8,di⟩:=R4 r<|hb q b2;have io:V=i:=(D8 r.rise di).symm.trans<|D8 r.rise M;subst io;rw[T_ rfl,b8];dsimp only;rw[S hi];dsimp only[L5];refine A_<|wpAny_isSame_ref_self<|A_<|C_ ?_;show wpAny _ _ (if false=true then _ else setSearchFrom a (.ref b) (Bb w d) true fuel<|some<|L4 t.mask (Bb w d)<|q+1) _ _ _;rw[M_ S_];refine ih (l-(q+1)) (by omega) (q+1) fuel _ (by omega) (by omega) (.inl rfl) λm J y L H D=>?_;rcases cU m n with c|c;exact P m J y c H D;rcases cU m q with c2|c2;intro e5;refine b6 m J c c2 H ?_;rw[L_,D,<- e5];rfl;have e6:m=q:=by omega
 subst e6;have e7:J=V:=(D8 r.rise H).symm.trans<|D8 r.rise M;subst e7;rw[hi]at D;cases D;exact p;obtain⟨e,Y,rfl⟩:=D_.mp hv;have L:=(Array.mem_filter.mp<|Array.mem_toList_iff.mp Y).1;rw[<- Array.mem_toList_iff,I]at L;obtain⟨y,hy,rfl⟩:=D_.mp L;exact⟨y.1,y.2,rfl,X y hy⟩;intro i;show(es[i]?.map (·.1)).getD 0=_;rw[<- X_,I,L_,L_];cases xs[i]?<;>rfl
def Cg.but{h h':lL}{p:lF}{d:lE}{b:lF}(x:Cg h d b)(hk:∀c o,c≠p->h.get? c=some o->h'.get? c=some o)(hp:∀o a n,h.get? p=some o->o.data≠.seq a n):Cg h' d b:=by obtain⟨k,as,r⟩:=x;exact⟨k,as,Hr hk hp r k.can⟩
def Js{a:lF}{led:Bool}{h:lL}{o:lM}{es:oC<|Int×lC}{ep:Nat}{t:SetTable}(i:h.get? a=some o)(y:o.ExactSet)(f:o.data=.set es ep t){b:oC<|Int×lC}{t':SetTable}{d:oA<|lE×lF}(m:b.toList=d.map (L5 w))(r:∀x∈d,Cg h x.1 x.2)(u:t'.fits b.size=true)(k:TblOk t' led)(l:TabQ t'<|d.map λx=>Bb w x.1) :
  (h.update a<|Obj.putSet b t').get? a=some {o with data:=.set b (ep+1) t'}/\(∀x∈d,Cg (h.update a<|Obj.putSet b t') x.1 x.2)/\(d.length*5<t'.mask*3->Fa w (h.update a<|Obj.putSet b t') a d led):=by
 have e:=aM (Obj.putSet b t') i (by rw[putSet_of b t' f];rfl);rw[putSet_of b t' f]at e;have g:∀x∈d,Cg (h.update a<|Obj.putSet b t') x.1 x.2:=λx hx=>(r x hx).but (p:=a) (λc o hc e=>((aV h a<|Obj.putSet b t').2 c hc).trans e) (λz B n j q=>by rw[i]at j;cases j;rw[f]at q;cases q);exact⟨e,g,λv=>⟨_,b,ep+1,t',e,y,rfl,m,g,u,k,l,v⟩⟩
theorem Jt{b:Type}:∀(ys a:oA b),(List.range' a.length ys.length).filterMap (λi=>(a++ys)[i]?)=ys
 |[],a=>rfl
 |y::ys,a=>by have:=Jt ys<|a++[y];rw[P_,eZ]at this;rw[aZ,List.range'_succ,fU,cH<|F_ _,kZ];show y::_=_;exact bO (y::·) this
def Qf{a:Type}{xs:oA a}{l:oA Nat}(hp:l.Perm<|List.range xs.length):(l.filterMap λi=>xs[i]?).Perm xs:=by have h1:=hp.filterMap λi=>xs[i]?;have h2:=Jt xs [];rw[List.nil_append,List.length_nil,<- List.range_eq_range']at h2;rwa[h2]at h1
theorem K5{xs:oA<|lE×lF}{hs:oC Int}(b:hs.toList=xs.map λx=>Bb w x.1):∀(l:oA Nat),(∀i∈l,i<xs.length)->(l.map λi=>hs.getD i 0)=(l.filterMap λi=>xs[i]?).map λx=>Bb w x.1
 |[],_=>rfl
 |i::l,a=>by have hi:=a i<|.head _;have e:xs[i]?=some xs[i]:=J_ hi;rw[aP,fU,e,aP,K5 b l λj hj=>a j<|.tail _ hj];rw[cY,<- X_,b,L_,e];rfl
def X9{a:lF}{led:Bool}{o:lM}{es:oC<|Int×lC}{ep:Nat}{t:SetTable}{xs:oA<|lE×lF}{c:Nat}{Q:Unit->lD->Prop}(n:s.heap.get? a=some o)(L:o.ExactSet)(v:o.data=.set es ep t)(r:es.toList=xs.map (L5 w))(G:∀x∈xs,Cg s.heap x.1 x.2)(I:t.fits es.size=true)(D:TblOk t led) (H:Msk<|SetTable.sizeAbove c-1) (hz:SetTable.sizeAbove c<=sizeLine) (hn:xs.length*5<(SetTable.sizeAbove c-1)*3)
  (h:∀p z,Heap.SameBut a s.heap p->Fa w p a z led->z.Perm xs->Q () {s with heap:=p}):qV prog w A (setRelay a c) Q E s:=by
 have l:es.size=xs.length:=by rw[<- aR,r,B_]
 have q:(es.map (·.1)).toList=xs.map λx=>Bb w x.1:=by rw[Array.toList_map,r,aD];rfl
 obtain⟨d,b,y,B,u,j⟩:=DO (f:=t.finger) (mv:=t.movedTo<|SetTable.sizeAbove c-1) (led:=t.led) (pl:=t.plain) H (es.map (·.1)) (by rw[Array.size_map,l];omega);rw[Array.size_map,l]at u;have e:TblOk d led:=by have:=TblOk.laid y;rw[D.led]at this;exact this
 have J:∀i∈b.toList,i<xs.length:=λi hi=>bC.mp<|u.mem_iff.mp hi;rw[K5 q b.toList J]at j;have g:=Qf u;have k:(b.filterMap λi=>es[i]?).toList=(b.toList.filterMap λi=>xs[i]?).map (L5 w):=by rw[Array.toList_filterMap,List.map_filterMap];congr 1;funext i;rw[<- X_,r,L_]
 have m:(b.filterMap λi=>es[i]?).size=es.size:=by rw[<- aR,k,B_,g.length_eq,l]
 unfold setRelay;refine A_<|bH n v I<|show wpAny _ _ _ _ _ _ from ?_;dsimp only;rw[M_<|iX.mpr hz,show t.relaid (es.map (·.1)) c=some (d,b) from y];refine A_<|show wpAny _ _ (if((b.filterMap λi=>es[i]?).size != es.size)=true then _ else pure (b.filterMap λi=>es[i]?,d)) _ _ _ from ?_;rw[M_<|by rw[m];simp];refine C_<|show wpAny _ _ (storeSet a (b.filterMap λi=>es[i]?) d) _ _ _ from ?_;generalize (b.filterMap λi=>es[i]?)=es2 at k m;generalize (b.toList.filterMap λi=>xs[i]?)=xs2 at k g j;have M:=g.length_eq;have F:d.fits es2.size=true:=by have:=j.len;rw[B_]at this;simp only[SetTable.fits,SetTable.fill,e.dum,Bool.and_eq_true,beq_iff_eq,decide_eq_true_eq];rw[B,m];refine⟨by omega,?_⟩;show d.place.size+0<=_;omega
 obtain⟨N,O,C⟩:=Js (led:=led) n L v k (λx hx=>G x<|g.mem_iff.mp hx) F e j;exact wpAny_storeSet_of n v (h _ _ (aV _ _ _) (C<|by rw[B];omega) g) (by rw[m,l];have:sizeLine=16777216:=rfl;omega)
def TabQ.pln{t:SetTable}{hs:oA Int}(q:TabQ t hs)(b:Bool):TabQ {t with plain:=b} hs:=⟨q.msk,q.len,q.le,q.path⟩
def DS{m n:Nat}(a:Msk m)(hn:n<4900)(h:n*5<m*3)(c:(n+1)*5>=m*3):Msk (SetTable.sizeAbove (SetTable.grown<|n+1)-1)/\SetTable.sizeAbove (SetTable.grown<|n+1)<=sizeLine/\(n+1)*5<(SetTable.sizeAbove (SetTable.grown<|n+1)-1)*3:=by obtain⟨i,e,hi⟩:∃i,n+1=i/\(i=5\/i=19\/i=77\/i=307\/i=1229):=⟨_,rfl,by unfold Msk at a;omega⟩;rw[e];unfold Msk;rcases hi with rfl|rfl|rfl|rfl|rfl<;>decide +kernel
def JY{m n:Nat}(h:n*5<m*3):n+1+0<=m:=by omega
def Ya{m:Nat}(h:Msk m):10*SetTable.turns m<=100000:=by unfold SetTable.turns;unfold Msk at h;omega
def Yb{a:lF}{led:Bool}{xs:oA<|lE×lF}{d:lE}{b:lF}{Q:Bool->lD->Prop}(hu:A.units+6<cLine)(hx:Cg s.heap d b)(hS:Fa w s.heap a xs led)(hn:xs.length<4900)
  (h1:d∈xs.map (·.1)->Q false s) (h2:d∉xs.map (·.1)->∀B L,Heap.SameBut a s.heap B->Fa w B a L led->L.Perm ((d,b)::xs)->Q true {s with heap:=B}) :
  qV prog w A (setAddHashed a (.ref b)<|Bb w d) Q E s:=by
 obtain⟨o,r,ep,t,u,ic,y,M,hX,N,l,k,Z⟩:=hS;have T:r.size=xs.length:=by rw[<- aR,M,B_]
 have hpl:t.place.size=xs.length:=by have:=k.len;rwa[B_]at this
 obtain⟨x0,j7,l9⟩:=X7 k l (by rw[B_];omega);obtain⟨g,f1,W,f3⟩:=Qc k.msk (Bb w d) (λj=>j∈t.place.toList) j7 l9;unfold setAddHashed setAddHashedIn;refine bK<|A_<|bH u y N<|show wpAny _ _ _ _ _ _ from ?_;dsimp only;rw[show byScan (.ref b) r=false from rfl,M_ S_];unfold setSearch;refine A_ (Uk hu u y M hX N l k hx W f3 f1 (λcr=>?_) (λU=>?_) g 0 100000 none (by omega) ?_ (.inr ⟨rfl,rfl⟩) λm i x hm=>absurd hm<|jL _);exact C_<|h1 cr;dsimp only;refine A_<|bH u y N ?_;dsimp only;have hp:SetTable.below t.place (sq t.mask (Bb w d) g)<=t.place.size:=(Ey l.rise _).1;have z:=k.put (h:=Bb w d) (n:=g) l f3;have I:=l.put<|Py l<|N8 l W;have e2:(t.put<|sq t.mask (Bb w d) g).2=SetTable.below t.place (sq t.mask (Bb w d) g):=rfl;have H:(t.put<|sq t.mask (Bb w d) g).1.mask=t.mask:=rfl;rw[e2];have f:(t.put<|sq t.mask (Bb w d) g).1.place.size=xs.length+1:=by have:=z.len;rw[this];simp only[List.length_append,List.length_cons,List.length_take,List.length_drop,List.length_map];omega
 generalize O:SetTable.below t.place (sq t.mask (Bb w d) g)=p at hp z ⊢;generalize (t.put<|sq t.mask (Bb w d) g).1=t1 at z I H f ⊢;have C:(SetTable.insertAt r p (Bb w d,.ref b)).toList=(xs.take p++(d,b)::xs.drop p).map (L5 w):=by rw[Fp _ _ _<|by omega,M,N_,aP,jE,kN];rfl
 have F:TabQ t1 ((xs.take p++(d,b)::xs.drop p).map λx=>Bb w x.1):=by rw[N_,aP,jE,kN];exact z
 have v:(xs.take p++(d,b)::xs.drop p).Perm ((d,b)::xs):=by refine List.perm_middle.trans ?_;rw[iT]
 have G:=v.length_eq;rw[aZ]at G;have S:∀x∈xs.take p++(d,b)::xs.drop p,Cg s.heap x.1 x.2:=λx hx'=>by rcases aB.mp (v.mem_iff.mp hx') with rfl|hx';exact hx;exact hX x hx'
 have V:(SetTable.insertAt r p (Bb w d,.ref b)).size=xs.length+1:=by rw[<- aR,C,B_,G]
 generalize SetTable.insertAt r p (Bb w d,.ref b)=es1 at C V ⊢;generalize xs.take p++(d,b)::xs.drop p=xs1 at C F v G S;clear O hp z e2;have u4:sizeLine=16777216:=rfl;have q:∀e:SetTable,e.mask=t.mask->e.place.size=xs.length+1->TblOk e led->TabQ e (xs1.map λx=>Bb w x.1)->qV prog w A (do
   storeSet a es1 e
   if(!false&&e.tooFull)=true then do
    setRelay a (SetTable.grown<|r.size+1)
    pure true
   else pure true) Q E s:=λe P R J g4=>by
  have uz:e.fits es1.size=true:=by simp only[SetTable.fits,SetTable.fill,J.dum,Bool.and_eq_true,beq_iff_eq,decide_eq_true_eq];refine⟨R.trans V.symm,?_⟩;show e.place.size+0<=_;rw[P,R];exact JY Z
  obtain⟨k1,k2,k3⟩:=Js (led:=led) u ic y C S uz J g4;have X:=aV s.heap a<|Obj.putSet es1 e;refine A_ (wpAny_storeSet_of u y ?_<|by omega);have kq:e.tooFull=decide ((xs.length+1)*5>=t.mask*3):=by unfold SetTable.tooFull SetTable.fill;rw[P,R,J.dum];rfl
  by_cases c:(xs.length+1)*5>=t.mask*3;rw[T_<|by rw[kq,aW c];rfl];have D:=DS k.msk hn Z c;rw[<- T]at D;refine A_ (X9 (s:={s with heap:=s.heap.update a<|Obj.putSet es1 e}) (o:={o with data:=.set es1 (ep+1) e}) k1 ic rfl C k2 uz J D.1 D.2.1 (by rw[G,<- T];exact D.2.2) λB L c1 c2 c3=>C_ ?_);exact h2 U B L (X.trans c1) c2<|c3.trans v;rw[M_<|by rw[kq,aQ c];decide];exact C_<|h2 U _ _ X (k3<|by rw[P];omega) v
 split;obtain⟨Y,as,rx⟩:=hx;refine A_<|JX 6 8 _ _ as _ _ _ _ Y.dep Y.can rx λbv=>?_;cases bv;exact q _ H f (I.plain false)<|F.pln false;exact q _ H f I F;exact A_<|C_<|q _ H f I F;exact R_ f1<|Ya k.msk
end
end L2
namespace L2
open PySem PySem.Spec PyProof.Rows
section
variable {prog:lH}{w:lI}{A:lK}{R:lT->lD->Prop}{sa it t:lF}{led:Bool}{X:Cx}{aa:oA<|lF×lM}{σ:St}{H:Hp}{s:lD}{k:Nat}
structure StepIt(prog:lH)(w:lI)(it t:lF)(items:oC lC)(St:Nat->lL->Prop):Prop where
 item:∀{A:lK} {E:lC->lD->Prop} {s:lD} {i:Nat} {x:lC} {Q:oB lC->lD->Prop},St i s.heap->items[i]?=some x->(∀h',St (i+1) h'->Heap.SameBut it s.heap h'->Q (some x) {s with heap:=h'})->qV prog w A (pyNext<|.ref it) Q E s
 fin:∀{A:lK} {E:lC->lD->Prop} {s:lD} {i:Nat} {Q:oB lC->lD->Prop},A.handled=none->St i s.heap->items[i]?=none->(∀h',Heap.ExtBut it s.heap h'->Q none {s with heap:=h'})->qV prog w A (pyNext<|.ref it) Q E s
 keep:∀{i:Nat} {h h':lL} {p:lF},it≠p->t≠p->St i h->Heap.SameBut p h h'->St i h'
 noseq:∀{i:Nat} {h:lL} {o:lM} {vs:oC lC} {n:Nat},St i h->h.get? it=some o->o.data≠.seq vs n
def Ul{items:oC lC}(g:t≠it):StepIt prog w it t items λi h=>h.IsListIter it t i/\h.IsList t items where
 item:=λst hx q=>wpAny_pyNext_list_item st.1 st.2 hx λl j a=>q l ⟨j,by obtain⟨o,e,r⟩:=st.2;exact⟨o,(a.2 t g).trans e,r⟩⟩ a
 fin:=λf st hx q=>wpAny_pyNext_list_end f st.1 st.2 hx q
 keep:=λh1 h2 st a=>⟨st.1.at λo e=>(a.2 it h1).trans e,by obtain⟨o,e,r⟩:=st.2;exact⟨o,(a.2 t h2).trans e,r⟩⟩
 noseq:=λst e q=>by obtain⟨⟨o,b,c,d⟩,_⟩:=st;rw[e]at b;cases b;rw[d]at q;cases q
def Qg{items:oC lC}(g:t≠it):StepIt prog w it t items λi h=>h.IsTupleIter it t i/\h.IsTuple t items where
 item:=λst hx q=>wpAny_pyNext_tuple_item st.1 st.2 hx λl j a=>q l ⟨j,st.2.at λo e=>(a.2 t g).trans e⟩ a
 fin:=λf st hx q=>wpAny_pyNext_tuple_end f st.1 st.2 hx q
 keep:=λh1 h2 st a=>⟨st.1.at λo e=>(a.2 it h1).trans e,st.2.at λo e=>(a.2 t h2).trans e⟩
 noseq:=λst e q=>by obtain⟨⟨o,b,c,d⟩,_⟩:=st;rw[e]at b;cases b;rw[d]at q;cases q
def Fa.at{h h':lL}{xs:oA<|lE×lF}(x:Fa w h sa xs led)(hs:∀o,h.get? sa=some o->h'.get? sa=some o)(d:∀x∈xs,Cg h x.1 x.2->Cg h' x.1 x.2):Fa w h' sa xs led:=by obtain⟨o,f,b,a,e,c,a2,g,i,r⟩:=x;exact⟨o,f,b,a,hs o e,c,a2,g,λx hx=>d x hx<|i x hx,r⟩
def Fa.noseq{h:lL}{xs:oA<|lE×lF}(x:Fa w h sa xs led){o:lM}{b:oC lC}{n:Nat}(e:h.get? sa=some o):o.data≠.seq b n:=λq=>by obtain⟨f,g,d,c,a,_,a2,_⟩:=x;rw[e]at a;cases a;rw[a2]at q;cases q
def K6{St:Nat->lL->Prop}{items:oC lC}(S:StepIt prog w it t items St)(hh:A.handled=none)(hu:A.units+20<cLine)(Z:sa≠it)(bd:sa≠t){ks:oA<|lE×lF}(fk:items.toList=ks.map λx=>.ref x.2)(iz:∀I:oA lE,I.Nodup->(∀d∈I,d∈ks.map (·.1))->I.length<4900) :
  ∀(m i:Nat) (s:lD) (xs:oA<|lE×lF),m+i=items.size->St i s.heap->Fa w s.heap sa xs led->(∀x∈ks,Cg s.heap x.1 x.2)->(xs.map (·.1)).Nodup->(∀d,d∈xs.map (·.1)↔d∈(ks.take i).map (·.1))->(∀x∈xs,x∈ks)->xs.length<=i ->
   (∀a z f,(∀b o,b≠sa->b≠it->s.heap.get? b=some o->a.get? b=some o)->Fa w a sa f led->(f.map (·.1)).Nodup->(∀d,d∈f.map (·.1)↔d∈ks.map (·.1))->(∀x∈f,x∈ks)->f.length<=items.size->R (.ok<|.ret .none) {s with heap:=a,toks:=z}) ->
   codeAny (model prog w) A (.builtin "set.update.loop" ⟨[.ref sa,.ref it],[]⟩) R s:=by
 have bx:ks.length=items.size:=by rw[<- aR,fk,B_]
 intro m
 induction m with
 |zero=>intro i s xs hm u N G r E j hl q;refine dH Nv ?_;rw[bX G5 _];refine(show wpAny _ A.in1 (pyNext (.ref it)>>=_) _ _ s from A_<|S.fin (show A.in1.handled=none from hh) u (by rw[cV<|by omega]) λa hx=>?_);refine C_ (q a s.toks xs (λb o h1 h2 e=>hx b o h2 e) ?_ r (λd=>?_) j<|by omega);exact N.at (λo e=>hx sa o Z e) λx _ g=>g.but (p:=it) (λc o hc e=>hx c o hc e) λo vs n e=>S.noseq u e;rw[E d,dE<|by omega]
 |succ m ih=>
  intro i s xs hm u N G r E j hl q;have hi:i<items.size:=by omega
  have J:i<ks.length:=by omega
  have hx:items[i]?=some (.ref ks[i].2):=by rw[<- X_,fk,L_,J_ J];rfl
  have be:∀d,d∈(ks.take<|i+1).map (·.1)↔d=ks[i].1\/d∈(ks.take i).map (·.1):=λd=>by rw[aO,J_ J,N_,Q_];simp only[Option.toList_some,List.map_cons,List.map_nil,List.mem_singleton];exact Or.comm
  have Y:=fG J;generalize ks[i]=kx at hx be Y;obtain⟨d0,M⟩:=kx;refine dH Nv ?_;rw[bX G5 _];refine(show wpAny _ A.in1 (pyNext (.ref it)>>=_) _ _ s from A_<|S.item u hx λh1 B F=>?_);have C:∀{d:lE} {b:lF},Cg s.heap d b->Cg h1 d b:=λg=>g.but (p:=it) (λc o hc e=>(F.2 c hc).trans e) λo vs n e=>S.noseq u e;have V:Fa w h1 sa xs led:=N.at (λo e=>(F.2 sa Z).trans e) λx _ g=>C g;have gn:xs.length<4900:=by
   have:=iz (xs.map (·.1)) r λd T=>by obtain⟨y,hy,rfl⟩:=D_.mp T;exact D_.mpr ⟨y,j y hy,rfl⟩
   rwa[B_]at this
  have zt:Cg h1 d0 M:=C<|G _ Y;refine(show wpAny _ A.in1 (holding [.ref M] (setAdd sa<|.ref M)>>=_) _ _ _ from A_<|bK ?_);unfold setAdd;have v:A.in1.units+6<cLine:=by show A.units+1+6<cLine;omega
  refine bK<|A_<|(N1 prog w).pyHash (s:={s with heap:=h1}) v zt ?_;refine Yb (s:={s with heap:=h1,toks:=s.toks+Hq d0}) v zt V gn (λic=>?_) λbp h2 f vo xa hp=>?_;refine C_ ⟨dM G5 _,ih (i+1) _ xs (by omega) B V (λx hx'=>C<|G x hx') r (λd=>?_) j (bB hl) λa z U L Q a2 W a4 P=>?_⟩;rw[be d,<- E d];exact⟨.inr,λh=>h.elim (λe=>by rw[e];exact ic) id⟩;exact q a z U (λb o D l e=>L b o D l<|(F.2 b l).trans e) Q a2 W a4 P;have ag:f.length=xs.length+1:=hp.length_eq;have O:∀{d:lE} {b:lF},Cg h1 d b->Cg h2 d b:=λg=>g.but (p:=sa) (λc o hc e=>(vo.2 c hc).trans e) λo vs n e=>V.noseq e;have jm:=hp.map (·.1);refine C_ ⟨dM G5 _,ih (i+1) _ f (by omega) (S.keep Z.symm bd.symm B vo) xa (λx hx'=>O<|C<|G x hx') (jm.nodup_iff.mpr<|cB.mpr ⟨bp,r⟩) (λd=>?_) (λx hx'=>?_) (by omega) λa z U L Q a2 W a4 P=>?_⟩;rw[jm.mem_iff,be d,<- E d];exact aB;rcases aB.mp (hp.mem_iff.mp hx') with rfl|hx';exact Y;exact j x hx';exact q a z U (λb o D l e=>L b o D l<|(vo.2 b D).trans<|(F.2 b l).trans e) Q a2 W a4 P
def N9:isSubtype (.type "list") (.type "set")=pure false:=by rw[dU];kernel_rfl
def Oa:isSubtype (.type "list") (.type "frozenset")=pure false:=by rw[dU];kernel_rfl
def Ob{h:lL}:Fa w (h.push<|Ce w) h.objs.size [] (Ga w) :=
 ⟨_,#[],0,_,I_ _ rfl,⟨rfl,rfl,rfl⟩,rfl,rfl,(λ_ z=>nomatch z),rfl,TblOk.fresh _,⟨.inl rfl,rfl,(λ_ z=>nomatch z),(λ_ z=>nomatch z)⟩,(show 0*5<7*3 by decide)⟩
def Yc{E:lC->lD->Prop}{s:lD}{id:String}{items:oC lC}{ks:oA<|lE×lF}{Q:Unit->lD->Prop}(y:A.handled=none)(hu:A.units+20<cLine)(f:s.heap.IsList t items)(I:items.toList=ks.map λx=>.ref x.2)(J:∀x∈ks,Cg s.heap x.1 x.2)(m:∀g:oA lE,g.Nodup->(∀d∈g,d∈ks.map (·.1))->g.length<4900)
  (l:Fa w s.heap sa [] led) (F:sa≠t)
  (h:∀c i a,(∀b o,b≠sa->s.heap.get? b=some o->c.get? b=some o)->Fa w c sa a led->(a.map (·.1)).Nodup->(∀d,d∈a.map (·.1)↔d∈ks.map (·.1))->(∀x∈a,x∈ks)->a.length<=items.size->Q () {s with heap:=c,toks:=i}) :
  qV prog w A (Builtin.Frozenset.updateFrom id sa<|.ref t) Q E s:=by
 have T:s.TypeIs (.ref t) "list" := f.typeIs;have O:=N9;have M:=Oa;have N:(Value.type "list" == Value.type "dict")=false:=by decide
 unfold Builtin.Frozenset.updateFrom;generalize u:pyIter=PI
 wp_walk
 subst u;refine gL f<|show wpAny _ _ _ _ _ _ from A_<|kC ?_;have D:t<s.heap.objs.size:=by obtain⟨o,e,_⟩:=f;exact O_ e
 have B:sa<s.heap.objs.size:=by obtain⟨o,_,_,_,e,_⟩:=l;exact O_ e
 have j:∀{d:lE} {b:lF},Cg s.heap d b->Cg (s.heap.push {cls:=.type "list_iterator",data:=.fields #[.ref t,.int 0 0]}) d b:=λ⟨k,as,r⟩=>⟨k,as,fP (λb o e=>DD _ e) r⟩;refine K6 (led:=led) (Ul (items:=items)<|Y_ D) y hu (Y_ B) F I m items.size 0 _ [] (by omega) ⟨⟨_,I_ _ rfl,rfl,rfl⟩,by obtain⟨o,e,r⟩:=f;exact⟨o,DD _ e,r⟩⟩ (l.at (λo e=>DD _ e) λ_ _ G=>j G) (λx hx=>j<|J x hx) a_ (λd=>by simp) (λ_ z=>nomatch z) (aJ _) λc i a q a2 C L p v=>?_;exact C_<|h c i a (λb o n e=>q b o n (Y_<|O_ e)<|DD _ e) a2 C L p v
def Um{E:lC->lD->Prop}{s:lD}{id:String}{items:oC lC}{ks:oA<|lE×lF}{Q:Unit->lD->Prop}(C:A.handled=none)(hu:A.units+20<cLine)(f:s.heap.IsTuple t items)(L:items.toList=ks.map λx=>.ref x.2)(M:∀x∈ks,Cg s.heap x.1 x.2)(m:∀g:oA lE,g.Nodup->(∀d∈g,d∈ks.map (·.1))->g.length<4900)
  (l:Fa w s.heap sa [] led) (I:sa≠t)
  (h:∀c i a,(∀b o,b≠sa->s.heap.get? b=some o->c.get? b=some o)->Fa w c sa a led->(a.map (·.1)).Nodup->(∀d,d∈a.map (·.1)↔d∈ks.map (·.1))->(∀x∈a,x∈ks)->a.length<=items.size->Q () {s with heap:=c,toks:=i}) :
  qV prog w A (Builtin.Frozenset.updateFrom id sa<|.ref t) Q E s:=by
 have T:s.TypeIs (.ref t) "tuple" := f.typeIs;have P:=Nw;have N:=Nx;have O:(Value.type "tuple" == Value.type "dict")=false:=by decide
 unfold Builtin.Frozenset.updateFrom;generalize v:pyIter=PI
 wp_walk
 subst v;refine wpAny_pyIter_tuple f<|show wpAny _ _ _ _ _ _ from A_<|kC ?_;have G:t<s.heap.objs.size:=by obtain⟨o,e,_⟩:=f;exact O_ e
 have D:sa<s.heap.objs.size:=by obtain⟨o,_,_,_,e,_⟩:=l;exact O_ e
 have j:∀{u:lM} {d:lE} {b:lF},Cg s.heap d b->Cg (s.heap.push u) d b:=λ⟨k,as,r⟩=>⟨k,as,fP (λb o e=>DD _ e) r⟩;refine K6 (led:=led) (Qg (items:=items)<|Y_ G) C hu (Y_ D) I L m items.size 0 _ [] (by omega) ⟨⟨_,I_ _ rfl,rfl,rfl⟩,f.push _⟩ (l.at (λo e=>DD _ e) λ_ _ J=>j J) (λx hx=>j<|M x hx) a_ (λd=>by simp) (λ_ z=>nomatch z) (aJ _) λc i a q a2 F B p y=>?_;exact C_<|h c i a (λb o n e=>q b o n (Y_<|O_ e)<|DD _ e) a2 F B p y
def Cg.keeps{h h':lL}{d:lE}{b:lF}(x:Cg h d b)(hk:∀b o,h.get? b=some o->h'.get? b=some o):Cg h' d b:=by obtain⟨k,as,r⟩:=x;exact⟨k,as,fP hk r⟩
def Db{j q:Type}{f:j->q}{l m:oA q}(h:l.Perm m):∀c:oA j,m=c.map f->∃g:oA j,l=g.map f/\g.Perm c:=by
 induction h with
 |nil=>
  intro c e;have:c=[]:=by simpa using e.symm
  subst this;exact⟨[],rfl,.nil⟩
 |cons a h r=>
  intro c e;cases c with
  |nil=>cases e
  |cons x c=>injection e with i d;obtain⟨g,rfl,p⟩:=r c d;exact⟨x::g,by rw[i];rfl,p.cons x⟩
 |swap a b l=>
  intro c e
  match c,e with
  |x::y::c,e=>injection e with i d;injection d with d e3;exact⟨y::x::c,by rw[i,d,e3];rfl,.swap x y c⟩
 |trans h1 h2 n o=>intro c e;obtain⟨g,i,u⟩:=o c e;obtain⟨v,d,z⟩:=n g i;exact⟨v,d,z.trans u⟩
theorem Ig{h:lL}:∀{a:oA<|lE×lF},(∀x∈a,Cg h x.1 x.2)->∃as,ReadsAll h (a.map λx=>.ref x.2) (a.map (·.1)) as
 |[],_=>⟨_,.nil⟩
 |z::a,hx=>by obtain⟨as,r⟩:=Ig λx hx'=>hx x<|.tail _ hx';obtain⟨_,c,b⟩:=hx z<|.head _;exact⟨_,.cons b r⟩
structure TOk(ds:oA lE):Prop where
 len:ds.length<300
 key:∀d∈ds,KeyTree d
 fst:∀d∈ds,∃i r,d=.tuple (.int i::r)
 cmp:∀d∈ds,∀e∈ds,cmpb d e=true
def Few(ds:oA lE):Prop:=∀a:oA lE,a.Nodup->(∀d∈a,d∈ds)->a.length<4900
def JZ{ds:oA lE}(h:ds.length<4900):Few ds:=λc b a=>by have:=Fs b a;exact fI this h
theorem R5:∀{ds:oA lE},(∀d∈ds,KeyTree d)->PyData.canLayAll0 ds=true/\PyData.depthAll ds<=6/\A3 ds=true
 |[],_=>⟨rfl,aJ _,rfl⟩
 |d::ds,h=>by obtain⟨a,b,c⟩:=R5 λe he=>h e<|.tail _ he;have k:=h d<|.head _;refine⟨?_,?_,?_⟩;simp only[PyData.canLayAll0,k.lay,a];rfl;simp only[PyData.depthAll];have:=k.dep;omega;simp only[A3,k.can,c];rfl
theorem Yd(I:Inv X aa σ H s):∀(ds:oA lE) (c:oA V) (f:oA lC),An X.K H ds c->Vals c f->(∀d∈ds,KeyTree d)->(∀d∈ds,∃r,d=.tuple r)->∃b:oA<|lE×lF,b.map (·.1)=ds/\f=b.map (λx=>.ref x.2)/\∀x∈b,Cg s.heap x.1 x.2/\Dk X.K H x.1 (.ref x.2)
 |[],c,f,h,r,_,_=>by have e:=h.nil;subst e;cases r;exact⟨[],rfl,rfl,λ_ z=>nomatch z⟩
 |d::ds,c,f,h,r,hk,i=>by
  obtain⟨x,m,rfl,h1,h2⟩:=An.cons (K:=X.K) (H:=H) h;cases r with
  |@cons _ _ u l v n=>obtain⟨b,j,q,o⟩:=Yd I ds m l h2 n (λd g=>hk d<|.tail _ g) λd g=>i d<|.tail _ g;obtain⟨p,rfl⟩:=i d<|.head _;obtain⟨a,B,rfl,ha,g⟩:=Dk.tup (K:=X.K) (H:=H) h1;cases v;refine⟨(.tuple p,a)::b,by rw[aP,j],by rw[aP,<- q],λy hy=>?_⟩;rcases aB.mp hy with rfl|hy;exact⟨⟨hk _<|.head _,Dk.reads I _ _ _ h1 rfl⟩,h1⟩;exact o y hy
theorem Ye{K:lG}:∀{a:oA<|lE×lF},(∀x∈a,Dk K H x.1<|.ref x.2)->An K H (a.map (·.1)) (a.map λx=>.ref x.2)
 |[],_=>C7
 |z::a,h=>Ct (h z<|.head _)<|Ye λx hx=>h x<|.tail _ hx
theorem R6:∀(a:oA<|lE×lF),Vals (a.map λx=>V.ref x.2) (a.map λx=>Value.ref x.2)
 |[]=>.nil
 |z::a=>.cons rfl<|R6 a
end
section
variable {prog:lH}{w:lI}{Kt:Type} [DecidableEq Kt]{knd:KeyKind prog w Kt}{A:lK}{R:lT->lD->Prop}{sa it t:lF}{led:Bool}
variable {E:lC->lD->Prop}{s:lD}
end
end L2
namespace L2
open PySem PySem.Spec PySem.Calls PyProof.Rows
def WY:AV->AC:=λx g b R=>match x,g with
 |.R a,[y]=>opt (see b y) λd=>opt (b a) λm=>match m with
  |.lst f=>opt (dats f) λc=>B9 d/\B9 (.tuple c)/\opt (c.findIdx? λe=>PyData.eqv e d) λj=>R (.D<|.int (j:Nat)) b
  |_=>False
 |_,_=>False
section
variable {X:Cx}{k:Nat}
def Qad:A2:=λx y a R=>match x,y with
 |.D (.str i),.D (.str j)=>R (.D<|.bool<|!decide (i=j)) a
 |_,_=>False
def WZ(xs:oA AV)(n:Nat):oA AV:=(List.replicate n xs).flatten
def YX:A2:=λx y b R=>match x,y with
 |.R a,.D (.int n)=>opt (b a) λm=>match m with
  |.lst c=>(0<=n/\n<=1000/\c.length<=1000)/\∀p,b p=none->R (.R p) (Al b p<|.lst<|WZ c n.toNat)
  |_=>False
 |_,_=>False
def Ju(ns:oA Int):Nat->Int:=preSum λi=>ns.getD i 0
theorem Yf{ns:oA Int}(h:∀n∈ns,0<=n/\n<=1000):∀j,j<=ns.length->0<=Ju ns j/\Ju ns j<=1000*j
 | 0,_=>⟨jI _,jI _⟩
 |j+1,hj=>by
  have b:=Yf h j (by omega);have a:=h (ns.getD j 0) (by rw[dL,J_<|by omega];exact fG _);have e:Ju ns (j+1)=Ju ns j+ns.getD j 0:=rfl;rw[e];constructor;omega
  push_cast;omega
theorem R7:∀(ns:oA Int) (j:Nat),Ju ns j=(ns.take j).sum
 |ns,0=>by rw[List.take_zero];rfl
 |ns,j+1=>by
  have e:Ju ns (j+1)=Ju ns j+ns.getD j 0:=rfl;rw[e,R7 ns j,aO,List.sum_append];congr 1;rw[dL];cases ns[j]? with
  |none=>rfl
  |some v=>simp
def Yg(hc:X.calm=true):Fd X (.builtin "sum") (λg H Q=>∃(p:lF) (ns:oA Int),g=[.ref p]/\E4 X.K H p (ns.map V.int)/\(∀n∈ns,0<=n/\n<=1000)/\ns.length<=1000/\Q (.int ns.sum) H):=by
 intro F s M H g G Q I r h;obtain⟨p,ns,rfl,hq,hb,E,q⟩:=h;obtain⟨u,rfl,m⟩:=Eo r;cases m;obtain⟨d,l,a,hz⟩:=I.list hq;have c:=l.length;rw[B_]at c;refine call_sum_walk<|gL a.isList ?_;have y:p≠s.heap.objs.size:=Y_ (by obtain⟨_,f,_⟩:=a.isList;exact O_ f);refine⟨s.heap.objs.size,_,_,_,_,_,λi=>ns.getD i 0,rfl,Walks.list (show X.A.in1.handled=none from I.ok.hd hc) s.heap.objs.size p y d.toArray,?_,?_,?_,?_,λJ N L k=>?_⟩;exact⟨⟨_,I_ _ rfl,rfl,rfl⟩,a.isList.at λo e=>DD _ e⟩;intro b hb;have B:p<s.heap.objs.size:=let⟨_,f,_⟩:=a.isList;O_ f
 simp only[List.mem_cons,List.not_mem_nil,or_false]at hb;have w:∀o:lM,(s.heap.push o).objs.size=s.heap.objs.size+1:=λo=>by simp[Heap.push]
 show b<(s.heap.push _).objs.size;rw[w];rcases hb with rfl|rfl;exact dO _;exact dQ B;intro i v C;have hv:d[i]?=some v:=by simpa using C
 have hi:i<ns.length:=by rw[c];exact(E_.mp hv).1
 obtain⟨u,hu,D⟩:=l.get (i:=i) (x:=V.int ns[i]) (by simp[hi]);rw[hv]at hu;cases hu;obtain⟨t,rfl⟩:=(show ∃t,v=Value.int ns[i] t from D);exact⟨t,by simp[hi]⟩;intro j hj;rw[aA,<- c]at hj;have h1:=hb (ns.getD j 0) (by rw[dL,J_ hj];exact fG _);have h2:=Yf hb (j+1) hj;have e:preSum (λi=>ns.getD i 0) (j+1)=Ju ns (j+1):=rfl;rw[e];show InLong (ns.getD j 0)/\InLong (Ju ns<|j+1);generalize Ju ns (j+1)=z at h2 ⊢;refine⟨⟨by omega,by omega⟩,by omega,?_⟩;have:=h2.2
 push_cast at this
 omega;have e:preSum (λi=>ns.getD i 0) d.toArray.size=ns.sum:=by rw[aA,<- c];show Ju ns ns.length=_;rw[R7,aK]
 rw[e];exact⟨.int _,H,I.kept λb o e=>k b o (by
  intro hb;have:b=s.heap.objs.size:=by simpa using hb
  exact absurd (O_ e)<|by rw[this];exact cX _)<|DD _ e,⟨_,rfl⟩,q⟩
def Hv:oA AV->oB (oA Int)
 |[]=>some []
 |.D (.int i)::a=>(Hv a).map (i::·)
 |_=>none
theorem Jv{K:lG}{H:Hp}:∀{xs:oA AV} {ns:oA Int} {a:oA V},Hv xs=some ns->Aw K H xs a->a=ns.map V.int
 |[],_,_,e,.nil=>by cases e;rfl
 |x::xs,ns,_,e,.cons f b=>by
  cases x with
  |D d=>
   cases d with
   |int i=>obtain⟨g,c,rfl⟩:=G_.mp<|show(Hv xs).map (i::·)=some ns from e;rw[Jv c b,RelA.int f];rfl
   |_=>cases e
  |_=>cases e
def PH:AC:=λd b R=>match d with
 |[.R a]=>opt (b a) λm=>match m with
  |.lst c=>opt (Hv c) λns=>((∀n∈ns,0<=n/\n<=1000)/\ns.length<=1000)/\R (.D<|.int ns.sum) b
  |_=>False
 |_=>False
def PJ(g:X.calm=true):VCall X (.builtin "sum") PH:=by
 intro d s n H q j Q I r c;refine B1 c λas u R a hc h hq=>?_;unfold PH at h;split at h
 ·cases a with
  |cons p e=>cases e;obtain⟨m,i,h⟩:=Ay h;split at h;obtain⟨ns,b,h⟩:=Ay h;obtain⟨o,f,t,rfl,l⟩:=hc _ _ i;cases (show _=V.ref _ from p);exact Yg g d s n H _ j Q I r ⟨_,ns,rfl,E4.of<|by rw[f,Jv b l],h.1.1,h.1.2,hq _ _ _ _ Kp.refl hc Cs h.2⟩;exact h.elim
 exact h.elim
end
end L2
namespace L2
open PySem PySem.Spec PySem.Calls PyProof.Rows PySem.W
end L2
namespace L2
open PySem PySem.Spec PySem.Calls PyProof.Rows
end L2
namespace L2
open PySem PySem.Spec PySem.Calls PyProof.Rows PySem.W
end L2
namespace L2
open PySem
end L2
namespace L2
open PySem PySem.Spec PySem.Calls PyProof.Rows
def KA:Key->lE
 |.inl i=>.int i
 |.inr z=>.str z
def PK{K:lG}{H:Hp}(k:Key):Dk K H (KA k) (kV k):=by
 cases k with
 |inl i=>exact Dg
 |inr z=>exact Pk
section
variable {X:Cx}{k:Nat}
abbrev XB:A2:=FV λi j=>.int<|Builtin.bitOr i j
abbrev PL:A2:=FV λi j=>.int<|Builtin.bitAnd i j
abbrev XC:A2:=aI CPow λi j=>.int<|i*2^j.toNat
abbrev XE:A2:=aI (λ_ j=>0<=j) λi j=>.int<|i / 2^j.toNat
def GG:VOp X (binaryOp .BitOr) XB:=Pn NC λ_ _ _=>Dg
def Yh:VOp X (binaryOp .BitAnd) PL:=Pn HX λ_ _ _=>Dg
def PM:VOp X (binaryOp .LShift) XC:=OA HV λ_ _ _=>Dg
def PN:VOp X (binaryOp .RShift) XE:=OA HW λ_ _ _=>Dg
def DT:FN X "int.bit_length" (λx c H Q=>∃i:Int,x=.int i/\c=[]/\Q (.int (Builtin.Int.intBits i:Nat)) H):=by intro f s j H x d v g Q I a r h;obtain⟨i,rfl,rfl,q⟩:=h;obtain⟨t,rfl⟩:=a;cases r;exact call_int_bit_length ⟨.int _,H,I.kept (t':=s.toks+1) λb o e=>e,⟨_,rfl⟩,q⟩
def GH:AV->AC:=λx a b R=>match x,a with
 |.D (.int i),[]=>R (.D<|.int (Builtin.Int.intBits i:Nat)) b
 |_,_=>False
def KB:VMt X "int.bit_length" GH:=by intro c s i H x j v f Q I e r d;refine En d λa as l R b g hc h hq=>?_;unfold GH at h;split at h;cases RelA.int b;cases g;exact DT c s i H _ _ v f Q I e r ⟨_,rfl,rfl,hq _ _ _ _ Kp.refl hc Cs h⟩;exact h.elim
def isInt:AV->Prop
 |.D (.int _)=>True
 |_=>False
def XF(m:AV->AC)(c:AE):AE:=λd b R=>c d b λx a=>isInt x/\m x [] a R
def KC{name:Str}{b:String}{o:lJ}{f:AE}{m:AV->AC}{c d:Pos}(slot:Slot "int" name b) (l:typeOf (.builtin b)=pure (.type "method_descriptor")) (r:VMt X b m) (p:VE X o f)
  (q:attributeBase o name X.env (eval o X.env)=eval o X.env:=by rfl) (g:(c.endLine==d.line)=true:=by rfl):VE X (.Call (.Attribute o name c) [] [] d) (XF m f) :=
 (Ll PySem.F.plainAttrs_int slot l r p q g).imp λy H Q i=>B1 i λs u R t hc h hq=>⟨s,u,_,t,hc,h,λx a v w n j e hx=>⟨by
   obtain⟨hx,_⟩:=hx;unfold isInt at hx;split at hx;cases RelA.int e;exact rfl;exact hx.elim,x,[],a,R,e,.nil,j,hx.2,hq.kp n⟩⟩
end
section
variable {s:lD}{E:lC->lD->Prop}{A:lK}{prog:lH}{w:lI}{K:Type} [DecidableEq K]{knd:HeapKind prog w K}
def sdH{d a:lF}{xs:oA<|K×lF×lC}{k:K}{v:lC}{Q:lC->lD->Prop}(hu:knd.room A)(hk:knd.is s.heap k a)(C:s.heap.DictOfH knd d xs)(hz:xs.length<=sizeLine)
  (h1:∀p,atKey xs k=some p->Q p.2 {s with toks:=s.toks+knd.draws k})
  (h2:atKey xs k=none->∀i,i.DictOfH knd d (storedH xs k a v)->Heap.SameBut d s.heap i->Q v {s with heap:=i,toks:=s.toks+knd.draws k}):qV prog w A (dictSetDefault d (.ref a) v) Q E s:=by
 obtain⟨o,D,t,g,B,f,h,q,l⟩:=C;unfold dictSetDefault
 (try with_reducible refine bK ?_)
 refine A_<|knd.pyHash hu hk<|A_<|wpAny_dictFind_heap (s:={s with toks:=s.toks+knd.draws k}) hu hk g f h q l (λn=>?_) λj p hj=>?_;have r:=atKey_none_of_get n;have z:k∉xs.map (·.1):=not_mem_keys_of_get n;have F:=size_of_entries h;refine A_ (eC<|A_<|wpAny_updateDictKeys (hz:=by omega) (s:={s with toks:=s.toks+knd.draws k}) g f<|C_<|h2 r _ ?_<|aV ..);have st:=storedH_new (a:=a) (v:=v) r;rw[st];refine⟨_,_,t+1,aM _ g<|Obj.isFreed_of_dict<|Obj.data_mapDictKeys f _,B.mapDictKeys _,Obj.data_mapDictKeys f _,by simp[h,entryOfKey],λx hx=>?_,?_⟩;have c:∀{y:K} {b:lF},knd.is s.heap y b->knd.is (s.heap.update d<|Obj.mapDictKeys λx=>x.push ⟨knd.hash k,.ref a,v⟩) y b:=λhy=>knd.keeps hy g f<|aV ..;rcases Q_.mp hx with m|m;exact c<|q x m;rw[H_.mp m];exact c hk;rw[N_];exact aX.mpr ⟨l,by simp,λx hx y hy e=>z (by
  have hy:y=k:=by simpa using hy
  rw[hy]at e;rw[<- e];exact hx)⟩
 have u:=atKey_of_get l hj;refine A_<|dJ (s:={s with toks:=s.toks+knd.draws k}) g f ?_;rw[entry_at h j,hj];exact A_<|eC<|C_<|h1 _ u
end
section
variable {w:lI}{prog:lH}{K:Type} [DecidableEq K](knd:HeapKind prog w K)(d a:lF)
def Uo(h:(d==sysModules)=false)(dflt:lC):MeetsIn prog w (Builtin.«dict.setdefault» ⟨[.ref d,.ref a,dflt],[]⟩) (λA R s=>knd.room A.in1/\∃k c,knd.is s.heap k a/\s.heap.DictOfH knd d c/\c.length<=sizeLine /\
   (∀p,atKey c k=some p->R (.ok<|.ret p.2) {s with toks:=s.toks+knd.draws k}) /\
   (atKey c k=none->∀f,f.DictOfH knd d (storedH c k a dflt)->Heap.SameBut d s.heap f->R (.ok<|.ret dflt) {s with heap:=f,toks:=s.toks+knd.draws k})) :=
 .of_wp λA R s ⟨hu,k,c,hk,g,hz,h1,h2⟩=>by unfold Builtin.«dict.setdefault» Builtin.Dict.keyAndDefault;refine A_<|A_<|gJ g.typeIs<|show wpAny _ _ (pure (d,Value.ref a,some dflt)) _ _ s from C_ ?_;show wpAny _ _ (if(d==sysModules)=true then _ else(dictSetDefault d (.ref a) dflt>>=_)) _ _ s;rw[h,M_ S_];exact A_<|sdH hu hk g hz (λp e=>C_ ⟨_,rfl,h1 p e⟩) λe f m b=>C_ ⟨_,rfl,h2 e f m b⟩
end
section
variable {X:Cx}{aa:oA<|lF×lM}{σ:St}{H:Hp}{s:lD}{A:lK}{E:lC->lD->Prop}{a b:lF}{r:lC}{o e f:lJ}{au ak:Pos}{prog:lH}{w:lI}{d it:lF}{es:oC DictEntry}{ep i k:Nat}
def KD{Q:lC->lD->Prop}{kvs:oA<|oA Key×V}{k:oA Key}{n:V}(hu:A.units+1<cLine)(I:Inv X aa σ H s)(e:H a=some (.dT kvs))(u:H b=some (.tup<|k.map kV))(l:kvs.length<sizeLine)(rd:Ba n r)
  (h1:∀v,Ei kvs k=some v->∀t m,Inv X aa σ H m->Ba v t->Q t m) (h2:Ei kvs k=none->∀m,Inv X aa σ (upd H a<|.dT<|putK kvs k n) m->Q r m) :
  qV X.prog X.w A (call (.builtin "dict.setdefault") [.ref a,.ref b,r]) Q E s:=by
 obtain⟨z,B,x,j,dd⟩:=My I.hok e;have hz:x.length<=sizeLine:=by rw[<- bF j];exact z
 have M:(putK kvs k n).length<=sizeLine:=by have:=Ec kvs k n;omega
 have g:=j.val k;refine iI PySem.F.slot_dict_setdefault dd.typeIs PySem.F.entry_dict_setdefault (PySem.F.args_dict_setdefault_3 _ _ _) (Uo (tupleKind<|Bf X.prog X.w) a b B r) ⟨fH hu,k,x,Gf I.hok u,dd,hz,λp hp=>?_,λC R N G=>?_⟩
 ·rw[hp]at g;cases h:Ei kvs k with
  |none=>rw[h]at g;exact g.elim
  |some v=>rw[h]at g;exact h1 v h _ _ (I.tok _) g
 ·rw[C]at g;have h:Ei kvs k=none:=by
   cases h:Ei kvs k with
   |none=>rfl
   |some v=>rw[h]at g;exact g.elim
  refine h2 h _ ?_;obtain⟨q,es,ep,hq,O,D,J,_,L⟩:=N;refine Gu I (by rw[e];exact True.intro) G ⟨q,hq⟩ ⟨M,B,_,(j.put k u rd).keeps λc P y=>?_,q,es,ep,hq,O,D,J,L⟩;rw[Aq<|Mq y e λz=>nomatch z];exact y
def XG(td ty l:TE):TE:=λσ H Q=>td σ H λx h=>∃a,x=.ref a/\TX h a/\ty σ h λy j=>l σ j λz g=>∃c k b,g a=some (.dT c)/\y=.ref b/\g b=some (.tup<|k.map kV)/\c.length<sizeLine /\
 (∀v,Ei c k=some v->Q v g)/\(Ei c k=none->Q z (upd g a<|.dT<|putK c k z))
def KF{td ty p:TE}(hu:X.A.units+1<cLine)(L:PE X o td)(he:PE X e ty)(hf:PE X f p)(m:M2 X o "setdefault" au e f ak):PE X (.Call (.Attribute o "setdefault" au) [e,f] [] ak) (XG td ty p):=by intro aa s σ H Q I h;refine wpAny_Call_method m.base m.few m.line fW PySem.F.slot_dict_setdefault PySem.F.type_dict_setdefault<|thn (L aa s σ H _ I h) λu P G=>?_;obtain⟨x,U,j,N,a,ex,d,D⟩:=G;subst ex;cases (show u=Value.ref a from N);obtain⟨Z,t2,_⟩:=V8 j d;refine⟨Z,t2,?_⟩;rw[m.trees];refine gA rfl<|jF<|bG<|thn (he aa P σ U _ j D) λV C Y=>C1 Y λy J O B T=>bG<|thn (hf aa C σ J _ O T) λfv s3 t=>b_ ?_;obtain⟨z,H3,I3,n,R,k,b,S,ey,q,l,W,q4⟩:=t;subst ey;cases (show V=Value.ref b from B);exact KD hu I3 S q l n (λv g w' M c fm=>⟨v,H3,c,fm,W v g⟩) λg M c=>⟨z,_,c,n,q4 g⟩
def XI(td ty p:AE):AE:=λn t R=>td n t λx h=>match x with
 |.R a=>(∃m,h a=some m/\JO m)/\ty n h λy l=>p n l λz g=>match y with
  |.D (.tuple q)=>opt (Ng q) λj=>opt (g a) λm=>match m with
   |.dt c=>c.length<sizeLine/\(∀v,Cl c j=some v->R v g)/\(Cl c j=none->R z (Al g a<|.dt<|Ek c j z))
   |_=>False
  |_=>False
 |_=>False
def Yi{td ty P:AE}(hu:X.A.units+1<cLine)(U:VE X o td)(he:VE X e ty)(hf:VE X f P)(m:M2 X o "setdefault" au e f ak:=by exact⟨rfl,rfl,rfl,rfl⟩):VE X (.Call (.Attribute o "setdefault" au) [e,f] [] ak) (XI td ty P) :=
 (KF hu U he hf m).imp λσ H Q zz=>B1 zz λJ Z R D hc h hq=>⟨J,Z,_,D,hc,h,λx L v H1 p N V hx=>by
  split at hx
  ·rename_i a;obtain⟨⟨m0,M,hd⟩,hx⟩:=hx;cases V;refine⟨a,rfl,Xo N M hd,J,L,_,D.kp p,N,hx,λy G u H2 q c2 S hy=>⟨J,G,_,(D.kp p).kp q,c2,hy,λz T zv H3 t I O hz=>?_⟩⟩;split at hz
   ·obtain⟨l,F,hz⟩:=Ay hz;obtain⟨m,Y,hz⟩:=Ay hz;split at hz
    ·rename_i g;obtain⟨ob,n,W,rfl,C⟩:=I _ _ Y;obtain⟨b,xs,rfl,hb,gu⟩:=(Dk.kp t _ _ S).tup;obtain⟨e0,F⟩:=Lx F;have hb:=hb.heap e0;rw[G1 gu F]at hb;have c:=C.val l;refine⟨W,l,b,n,rfl,hb,by rw[<- bF C];exact hz.1,λv B=>?_,λB=>?_⟩
     ·rw[B]at c;cases j:Cl g l with
      |none=>rw[j]at c;exact c.elim
      |some w=>rw[j]at c;exact hq _ _ _ _ ((p.trans q).trans t) I c (hz.2.1 w j)
     ·rw[B]at c;have j:Cl g l=none:=by
       cases j:Cl g l with
       |none=>rfl
       |some w=>rw[j]at c;exact c.elim
      exact hq _ _ _ _ (((p.trans q).trans t).trans<|Kp.put n trivial _) (I.put n trivial (FZ<|C.put l O)) (O.kp<|Kp.put n trivial _) (hz.2.2 j)
    exact hz.elim
   exact hz.elim
  exact hx.elim⟩
def El(h:lL)(d:lF)(es:oC DictEntry)(ep:Nat):Prop:=∃o,h.get? d=some o/\o.ExactDict/\o.data=.dict es ep
def El.ty{s:lD}{d:lF}{es:oC DictEntry}{ep:Nat}(x:El s.heap d es ep):s.TypeIs (.ref d) "dict" := by obtain⟨o,h1,h2,_⟩:=x;exact⟨o,h1,h2.1⟩
def El.mv{h h':lL}{d:lF}{es:oC DictEntry}{ep:Nat}(x:El h d es ep)(k:∀o,h.get? d=some o->h'.get? d=some o):El h' d es ep:=by obtain⟨o,h1,r⟩:=x;exact⟨o,k o h1,r⟩
def El.lt{h:lL}{d:lF}{es:oC DictEntry}{ep:Nat}(x:El h d es ep):d<h.objs.size:=by obtain⟨_,h1,_⟩:=x;exact O_ h1
def Yj{Q:lC->lD->Prop}(h:(d==sysModules)=false)(c:El s.heap d es ep)
  (q:Q (.ref s.heap.objs.size) {s with heap:=s.heap.push {cls:=.type "dict_keyiterator",data:=.fields #[.ref d,.int 0 0,.int es.size 0,.int ep 0]}}):qV prog w A (pyIter<|.ref d) Q E s:=by
 have T:=c.ty;obtain⟨o,h1,h2,g⟩:=c;refine eD T F.slot_dict_iter<|aN F.slot_dict_iter T F.entry_dict_iter ?_<|F.args_dict_iter_1 _;unfold Builtin.«dict.__iter__» Builtin.Dict.dictSlotNone;refine A_<|A_<|gJ T<|show wpAny _ _ (pure<|Value.ref d) _ _ s from C_ ?_;show qV prog w _ (Builtin.Dict.showsAll d>>=_) _ _ s;unfold Builtin.Dict.showsAll;rw[h,M_ S_];refine A_<|C_<|A_<|dJ h1 g<|A_<|fB h1 g<|A_<|Z_<|C_ ⟨_,rfl,"dict_keyiterator",_,⟨_,I_ _ rfl,rfl⟩,F.slot_dict_keyiterator_next.lookup,?_⟩;simpa [rawInt] using q
def Yk{Q:oB lC->lD->Prop}(l:s.heap.IsKeyIter it d i es.size ep)(p:El s.heap d es ep)(hi:i<es.size)
  (q:∀h,h.IsKeyIter it d (i+1) es.size ep->Heap.SameBut it s.heap h->Q (some es[i].key) {s with heap:=h}):qV prog w A (pyNext<|.ref it) Q E s:=by
 have T:=l.typeIs;obtain⟨o,g,n,c⟩:=id l;obtain⟨t,h1,h2,j⟩:=p;unfold pyNext;refine A_<|dN<|aU (name:=Str.ofString "__next__") T F.slot_dict_keyiterator_next<|aN F.slot_dict_keyiterator_next T F.entry_dict_keyiterator_next ?_<|F.args_dict_keyiterator_next_1 _;refine A_<|C_<|A_<|A_ ?_
 first|refine A_ (eX T<|C_<|A_<|dW g c ?_)|refine A_<|fQ T<|C_<|A_<|dW g c ?_
 simp only[show Builtin.Dict_items.ownsTuple "dict_keyiterator" = false by decide,Bool.false_eq_true,if_false];show qV prog w _ (if(Value.ref d==Value.none)=true then _ else _) _ _ s;rw[M_<|by exact S_];refine A_<|C_<|A_<|dJ h1 j ?_;rw[M_<|by simp];refine A_<|C_<|A_<|fB h1 j ?_;rw[M_<|by simp];refine C_ ?_;simp only[show ¬((i:Int)<0) by omega,if_false,Int.toNat_natCast,Array.getElem?_eq_getElem hi];refine A_ ?_
 first|refine A_ (eX T<|C_<|A_<|iU T ?_)|refine A_<|fQ T<|C_<|A_<|iU T ?_
 show qV prog w _ (setField (.ref it) 1 (rawInt<|(i:Int)+1)>>=_) _ _ s;refine A_ (eU g c (by simp)<|A_<|bK ?_);have m:(s.heap.update it<|Obj.mapFields (·.setIfInBounds 1 (rawInt<|(i:Int)+1))).IsKeyIter it d (i+1) es.size ep:=⟨_,aM _ g<|fK<|dF c _,(iL ..).trans n,by rw[dF c];simp[rawInt]⟩;refine A_<|iU (s:={s with heap:=s.heap.update it<|Obj.mapFields (·.setIfInBounds 1 (rawInt<|(i:Int)+1))}) m.typeIs<|show wpAny _ _ (pure es[i].key) _ _ _ from ?_;exact C_<|C_ ⟨_,rfl,C_<|q _ m<|aV ..⟩
def DU{Q:oB lC->lD->Prop}(n:A.handled=none)(h:s.heap.IsKeyIter it d es.size es.size ep)(p:El s.heap d es ep)(q:∀j,Heap.ExtBut it s.heap j->Q none {s with heap:=j}):qV prog w A (pyNext<|.ref it) Q E s:=by
 have T:=h.typeIs;obtain⟨o,c,t,g⟩:=id h;obtain⟨u,h1,h2,l⟩:=p;unfold pyNext;refine A_<|dN<|aU (name:=Str.ofString "__next__") T F.slot_dict_keyiterator_next<|aN F.slot_dict_keyiterator_next T F.entry_dict_keyiterator_next ?_<|F.args_dict_keyiterator_next_1 _;refine A_<|C_<|A_<|A_ ?_
 first|refine A_ (eX T<|C_<|A_<|dW c g ?_)|refine A_<|fQ T<|C_<|A_<|dW c g ?_
 simp only[show Builtin.Dict_items.ownsTuple "dict_keyiterator" = false by decide,Bool.false_eq_true,if_false];show qV prog w _ (if(Value.ref d==Value.none)=true then _ else _) _ _ s;rw[M_<|by exact S_];refine A_<|C_<|A_<|dJ h1 l ?_;rw[M_<|by simp];refine A_<|C_<|A_<|fB h1 l ?_;rw[M_<|by simp];refine C_ ?_;simp only[show ¬((es.size:Int)<0) by omega,if_false,Int.toNat_natCast,Array.getElem?_eq_none<|Nat.le_refl es.size];refine A_ ?_
 first|refine A_ (eX T<|C_ ?_)|refine A_<|fQ T<|C_ ?_
 show qV prog w _ (setField (.ref it) 0 .none>>=_) _ _ s;refine A_ (eU c g (by simp)<|show wpAny _ _ (newExc (.type "StopIteration") []>>=_) _ _ _ from A_ ?_);simp only[newExc,newTuple];refine A_ (Z_ (A_ (m:=firstArgMember _ _)<|eK (a:=Value.none) (by first|rfl|(simp only[firstArgMember];rfl))<|Z_ ?_<|by size_fits)<|by size_fits);simp only[raiseNew];refine A_<|jD (?_:_);rw[show A.in1.handled=none from n];refine A_<|C_<|kF ?_;refine A_ (dA (T := "StopIteration") (b:=true) (by exact⟨_,I_ _ rfl,rfl⟩) gO ?_);exact C_<|q _<|((aV ..).extBut.push _).push _
def Up(l:A.handled=none)(I d:lF)(m:d≠I)(es:oC DictEntry)(ep:Nat) :
  Walks prog w A I [I,d] [I] es.size (λi v=>∃e,es[i]?=some e/\v=e.key) (λi h=>h.IsKeyIter I d i es.size ep/\El h d es ep) where
 sub:=λb hb=>by
  have:b=I:=by simpa using hb
  simp[this]
 frame:=λ_ _ _ st k=>⟨st.1.at λo e=>k I (by simp) o e,st.2.mv λo e=>k d (by simp) o e⟩
 item:=λi s Q E hi st c=>Yk st.1 st.2 hi λg x j=>c _ g s.toks ⟨es[i],by simp[hi],rfl⟩ ⟨x,st.2.mv λo e=>j.extBut d o m e⟩ λb o hb e=>j.extBut b o (λz=>hb<|by simp[z]) e
 done:=λs Q E st c=>DU l st.1 st.2 λg x=>c g s.toks λb o hb e=>x b o (λz=>hb<|by simp[z]) e
 self:=λ_ _ _ _ st q=>wpAny_pyIter_keyiter st.1 q
def DV(lo:(d==sysModules)=false):PySem.W.KdlSrc prog w "dict" d d es.size (λi v=>∃e,es[i]?=some e/\v=e.key) (λh=>El h d es ep) where
 type:=λ_ x=>x.ty
 there:=λ_ x=>⟨x.lt,x.lt⟩
 keep:=λ_ _ x k=>x.mv λo e=>k d (.inl rfl) o e
 notList:=by decide
 notTuple:=by decide
 hint:=λ_ _ _ _ x q=>PySem.W.kdl_hint_dict x.ty q
 iter:=λ_ _ c x=>⟨_,_,(λ_ _ q=>Yj lo x q),Up c _ d (Y_ x.lt) es ep,⟨⟨_,I_ _ rfl,rfl,rfl⟩,x.mv λo e=>DD _ e⟩⟩
theorem GI:∀(c:oA lF),Vals (c.map V.ref) (c.map Value.ref)
 |[]=>.nil
 |_::c=>.cons rfl<|GI c
theorem R8{h c j:Type}{F:h->c->Prop}{G:h->j->Prop}{f:c->j}:∀{l:oA h} {m:oA c},Paired F l m->(∀x y,F x y->G x (f y))->Paired G l (m.map f)
 |_,_,.nil,_=>.nil
 |_,_,.cons r t,g=>.cons (g _ _ r)<|R8 t g
def L6(hc:X.calm=true):Fd X (.type "list") (λC H Q=>∃a m,C=[.ref a]/\H a=some (.dT m)/\∀l (x:oA lF),H l=none->Paired (λ(p:oA Key×V) b=>H b=some (.tup<|p.1.map kV)) m x->Q (.ref l) (upd H l<|.lst<|x.map V.ref)):=by
 intro aa s σ H C U Q I r h;obtain⟨a,m,rfl,ha,q⟩:=h;obtain⟨u,rfl,L⟩:=Eo r;cases L;obtain⟨hz,t,n,v,o,es,ep,h1,h2,R,J,_⟩:=My I.hok ha;have F:=bF v;have D:es.size=n.length:=by have:=bO List.length J;simpa using this
 refine PySem.W.kdl_call (DV (es:=es) (ep:=ep) t) (I.ok.hd hc) ⟨o,h1,h2,R⟩ (by rw[D,<- F];exact hz) λY P g c S N B=>?_;have O:g.toList=(n.map λy=>y.2.1).map Value.ref:=by
  refine gM λj=>?_;rw[X_];rcases(cU j g.size) with hj|hj;obtain⟨e,M,T⟩:=B.2 j g[j] (by simp[hj]);have G:(n.map<|entryOfKey<|tupleKind<|Bf X.prog X.w)[j]?=some e:=by rw[<- J,X_];exact M
  rw[L_]at G;obtain⟨y,hy,rfl⟩:=G_.mp G;rw[L_,L_,hy,aC hj,T];rfl;rw[cV hj,dS<|by rw[B_,B_,<- D,<- B.1];exact hj]
 have x:Paired (λ(p:oA Key×V) b=>H b=some (.tup<|p.1.map kV)) m (n.map λy=>y.2.1):=R8 v λp y z=>z.2.1;refine⟨.ref s.heap.objs.size,_,I.laid (t':=P) (o:=.lst<|(n.map λy=>y.2.1).map V.ref) S (F_ _) ?_,rfl,q _ _ (I.hok.fresh<|F_ _) x⟩;exact⟨by rw[B_,B_,<- F];exact hz,g.toList,c,by rw[O];exact GI _,by simpa using N⟩
def Yl:AC:=λh g R=>match h with
 |[.R a]=>opt (g a) λm=>match m with
  |.dt c=>∀p,g p=none->R (.R p) (Al g p<|.lst<|c.map λq=>.D<|.tuple<|q.1.map KA)
  |_=>False
 |_=>False
theorem Qh{K:lG}{H:Hp}:∀(ks:oA Key),An K H (ks.map KA) (ks.map kV)
 |[]=>C7
 |k::ks=>Ct (PK k)<|Qh ks
theorem R9{K:lG}{H:Hp}:∀{kvs:oA<|oA Key×AV} {c:oA<|oA Key×V} {g:oA lF},Ev K H kvs c->Paired (λ(p:oA Key×V) b=>H b=some (.tup<|p.1.map kV)) c g->Aw K H (kvs.map λq=>.D<|.tuple<|q.1.map KA) (g.map V.ref)
 |[],_,_,r,p=>by cases r;cases p;exact .nil
 |_::_,_,_,r,p=>by
  cases r with
  |cons l m=>
   cases p with
   |cons h j=>refine .cons ?_<|R9 m j;dsimp only;rw[l.1];exact Gi h<|Qh _
def DW(u:X.calm=true):VCall X (.type "list") Yl:=by
 intro aa s σ H C y Q I r q;refine B1 q λas D R n c h hq=>?_;unfold Yl at h;split at h
 ·rename_i a;obtain⟨m,v,h⟩:=Ay h;split at h
  ·rename_i x;obtain⟨o,t,j,rfl,rk⟩:=c _ _ v;cases n with
   |cons z p=>cases p;cases z;exact L6 u aa s σ H _ y Q I r ⟨a,j,rfl,t,λl B g hp=>hq (.R l) _ _ _ (Kp.new g _) (c.new g<|C2<|R9 rk hp) rfl<|h l<|c.none g⟩
  exact h.elim
 exact h.elim
end
end L2
namespace L2
open PySem PySem.Spec PyProof.Rows
def Sa(N:oA Str)(pn cn:oA<|Str×lR)(N':oA Str)(mp:oA<|oB Nat):Bool :=
 decide (N'.length=mp.length)&&decide N'.Nodup &&
 (List.range N'.length).all (λk=>match mp[k]?,N'[k]? with
  |some (some i),some x=>decide (N[i]?=some x)&&BW pn x&&decide ((x,NameKind.free)∈cn)&&decide (cn.lookup x=some .free)
  |_,_=>true) &&
 cn.all (λp=>decide (p.2≠.cell)||decide (cn.lookup p.1=some .cell))&&cn.all (λp=>decide (p.2≠.free)||BW pn p.1)&&cn.all (λp=>decide (p.2≠.local)||decide (cn.lookup p.1=some .local))
structure CompOkC(N:oA Str)(pn cn:oA<|Str×lR)(N':oA Str)(mp:oA<|oB Nat):Prop where
 len:N'.length=mp.length
 map:∀(k i:Nat) (x:Str),mp[k]?=some (some i)->N'[k]?=some x->N[i]?=some x/\(pn.lookup x=some .cell\/pn.lookup x=some .free)/\(x,NameKind.free)∈cn/\cn.lookup x=some .free
 ownc:∀p∈cn,p.2=.cell->cn.lookup p.1=some .cell
 free:∀p∈cn,p.2=.free->(pn.lookup p.1=some .cell\/pn.lookup p.1=some .free)
 loc:∀p∈cn,p.2=.local->cn.lookup p.1=some .local
def Av{N:oA Str}{pn cn:oA<|Str×lR}{N':oA Str}{mp:oA<|oB Nat}(h:Sa N pn cn N' mp=true):CompOkC N pn cn N' mp:=by unfold Sa at h;obtain⟨h,d⟩:=(aY _ _).mp h;obtain⟨h,n⟩:=(aY _ _).mp h;obtain⟨h,g⟩:=(aY _ _).mp h;obtain⟨h,f⟩:=(aY _ _).mp h;obtain⟨h1,h2⟩:=(aY _ _).mp h;refine⟨aG h1,λk i x j a=>?_,λp hp e=>?_,λp hp e=>?_,λp hp e=>?_⟩;have hk:k<N'.length:=(E_.mp a).1;have q:=dB.mp f k<|bC.mpr hk;simp only[j,a]at q;obtain⟨q,l⟩:=(aY _ _).mp q;obtain⟨q,b⟩:=(aY _ _).mp q;obtain⟨c,m⟩:=(aY _ _).mp q;exact⟨aG c,M6 m,aG b,aG l⟩;rcases(e_ _ _).mp (dB.mp g p hp) with z|z;exact absurd e<|aG z;exact aG z;rcases(e_ _ _).mp (dB.mp n p hp) with z|z;exact absurd e<|aG z;exact M6 z;rcases(e_ _ _).mp (dB.mp d p hp) with z|z;exact absurd e<|aG z;exact aG z
def relabel_back2{env:Env}{names:oA<|Str×lR}{x:Str}(h:((names.map λ(n,k)=>if(k==NameKind.free&&env.scope.kind==.function&&env.kindOf n==some .cell) then(n,NameKind.cell) else(n,k)).lookup x=some .cell \/
  (names.map λ(n,k)=>if(k==NameKind.free&&env.scope.kind==.function&&env.kindOf n==some .cell) then(n,NameKind.cell) else(n,k)).lookup x=some .free)):(x,NameKind.free)∈names\/(x,NameKind.cell)∈names:=by
 have a:∀k,(names.map λ(n,k)=>if(k==NameKind.free&&env.scope.kind==.function&&env.kindOf n==some .cell) then(n,NameKind.cell) else(n,k)).lookup x=some k->(k=.cell\/k=.free)->(x,NameKind.free)∈names\/(x,NameKind.cell)∈names:=λk hk hc=>by
  obtain⟨⟨n,c⟩,b,e⟩:=D_.mp<|mem_of_lookup hk;dsimp only at e;split at e;rename_i hb;cases e;simp only[Bool.and_eq_true]at hb;have:c=.free:=by simpa using hb.1.1
  subst this;exact .inl b;cases e;rcases hc with rfl|rfl;exact .inr b;exact .inl b
 exact h.elim (λz=>a _ z<|.inl rfl) λz=>a _ z<|.inr rfl
theorem cf_dich:∀{names:oA<|Str×lR} {n:Nat} {acc:oA<|Str×lF} {x:Str} {c:lF},(cellsFrom n names acc).lookup x=some c->(n<=c/\(x,NameKind.cell)∈names)\/acc.lookup x=some c
 |[],_,_,_,_,h=>.inr h
 | (d,k)::r,n,acc,x,c,h=>by
  unfold cellsFrom at h;split at h
  ·rename_i hk;have hk:k=.cell:=by simpa using hk
   rcases cf_dich h with⟨a,b⟩|z;exact .inl ⟨iK a,.tail _ b⟩
   ·rw[dI]at z;cases e:x==d with
    |true=>rw[e]at z;cases z;rw[beq_iff_eq.mp e,hk];exact .inl ⟨F_ _,.head _⟩
    |false=>rw[e]at z;exact .inr z
  rcases cf_dich h with⟨a,b⟩|z;exact .inl ⟨a,.tail _ b⟩;exact .inr z
theorem Ft:∀{names:oA<|Str×lR} {n:Nat} {acc:oA<|Str×lF} {x:Str},(∃c,acc.lookup x=some c)->∃c,(cellsFrom n names acc).lookup x=some c
 |[],_,_,_,h=>h
 | (a,k)::r,n,acc,x,⟨c,h⟩=>by
  unfold cellsFrom;split
  ·refine Ft ?_;rw[dI];cases x==a with
   |true=>exact⟨_,rfl⟩
   |false=>exact⟨c,h⟩
  exact Ft ⟨c,h⟩
theorem Qi:∀{names:oA<|Str×lR} {n:Nat} {acc:oA<|Str×lF} {x:Str},(x,NameKind.cell)∈names->∃c,(cellsFrom n names acc).lookup x=some c
 | (a,k)::r,n,acc,x,h=>by unfold cellsFrom;rcases aB.mp h with e|e;cases e;rw[T_<|show(NameKind.cell==NameKind.cell)=true from rfl];refine Ft ?_;rw[dI,kS];exact⟨_,rfl⟩;split;exact Qi e;exact Qi e
theorem Qj:∀{names:oA<|Str×lR} {n:Nat} {acc:oA<|Str×lF},(∀x y c,acc.lookup x=some c->acc.lookup y=some c->x=y)->(∀x c,acc.lookup x=some c->c<n)->∀x y c,(cellsFrom n names acc).lookup x=some c->(cellsFrom n names acc).lookup y=some c->x=y
 |[],_,_,h,_,x,y,c,f,d=>h x y c f d
 | (i,k)::r,n,acc,h,g,x,y,c,f,d=>by unfold cellsFrom at f d;split at f;rename_i hk;rw[T_ hk]at d;refine Qj (acc:=(i,n)::acc) (λx y c f d=>?_) (λx c e=>?_) x y c f d;rw[dI]at f d;cases a:x==i<;>cases b:y==i<;>rw[a]at f<;>rw[b]at d;exact h x y c f d;cases d;exact absurd (g _ _ f)<|cX _;cases f;exact absurd (g _ _ d)<|cX _;rw[beq_iff_eq.mp a,beq_iff_eq.mp b];rw[dI]at e;cases a:x==i<;>rw[a]at e;exact dQ<|g x c e;cases e;exact dO _;rename_i hk;rw[M_ hk]at d;exact Qj h g x y c f d
theorem L7:∀{names:oA<|Str×lR} {h:lL} {acc:oA<|Str×lF},(∀x c,acc.lookup x=some c->∃v,h.IsCell c v)->∀x c,(cellsFrom h.objs.size names acc).lookup x=some c->∃v,(pushCells h names).IsCell c v
 |[],_,_,hc,x,c,e=>hc x c e
 | (f,k)::r,h,acc,hc,x,c,e=>by
  unfold cellsFrom at e;unfold pushCells;split at e;rename_i hk;rw[T_ hk];have g:(cellsFrom (h.push {cls:=.type "cell",data:=.cell none}).objs.size r<|(f,h.objs.size)::acc).lookup x=some c:=by rw[dG];exact e
  refine L7 (λy d z=>?_) x c g;rw[dI]at z;cases a:y==f<;>rw[a]at z;obtain⟨v,q⟩:=hc y d z;exact⟨v,q.keeps λb o e=>DD _ e⟩;cases z;exact⟨none,_,I_ _ rfl,rfl⟩;rename_i hk;rw[M_ hk];exact L7 hc x c e
def L8(names:oA<|Str×lR)(x:Str):Bool:=match names.lookup x with
 |some .cell=>true
 |_=>false
theorem Qk:∀{names:oA<|Str×lR} {n m:Nat} {acc:oA<|Str×lF} {x:Str} {c:lF},m<=n->(cellsFrom n names acc).lookup x=some c->((x,NameKind.cell)∈names\/∀b,acc.lookup x=some b->m<=b)->m<=c
 |[],_,_,_,_,_,_,h,z=>z.elim (λz=>nomatch z) λz=>z _ h
 | (f,k)::r,n,m,acc,x,c,d,h,z=>by
  unfold cellsFrom at h;split at h
  ·refine Qk (bB d) h ?_;cases a:x==f with
   |true=>refine .inr λb e=>?_;rw[dI,a]at e;cases e;exact d
   |false=>rcases z with z|z;rcases aB.mp z with e|e;cases e;rw[kS]at a;cases a;exact .inl e;refine .inr λb e=>?_;rw[dI,a]at e;exact z b e
  rename_i hk;refine Qk d h<|z.imp_left λz=>?_;rcases aB.mp z with e|e;cases e;exact absurd rfl hk;exact e
def Ql{names:oA<|Str×lR}{x:Str}(h:L8 names x=true):(x,NameKind.cell)∈names:=by unfold L8 at h;split at h;rename_i e;exact mem_of_lookup e;cases h
def L9{M:Model}{A:lK}{E:lC->lD->Prop}{s:lD}{a:lQ}{globals:lF}{cl:oA<|Str×lF}{b:Str}{outer:Env}{Q:Env->lD->Prop}
  (f:Q (newEnv a s.heap.objs.size globals (cellsFrom (s.heap.objs.size+1) a.names cl) b none .none (some outer) builtinsNs) {s with heap:=pushCells (s.heap.push {cls:=.type "dict",data:=.dict #[]}) a.names}) :
  wpAny M A (newFunctionEnv a globals cl [] b none .none<|some outer) Q E s:=by
 simp only[newFunctionEnv,Option.isSome_some,if_true];refine A_<|wpAny_alloc ?_;refine A_ (wpAny_layCells _ (λe c d=>by cases hkc:c==NameKind.cell<;>simp[hkc]) _ _ _ _ ?_);rw[show({s with heap:=s.heap.push {cls:=.type "dict",data:=.dict #[]}}:lD).heap.objs.size=s.heap.objs.size+1 from dG ..];exact A_<|by rw[List.forIn_nil];exact C_<|C_ f
def Be(X:Cx)(N':oA Str)(a:lQ)(C:lF)(s:lD)(H:Hp)(fp:oA lF):Cx :=
 {X with N:=N',s₀:=s,H₀:=H,env:=compEnvC a (cellsFrom (C+1) a.names<|Er X.env.cells a.names []) C X.env,outer:=X.stack,stack:=X.stack,ex:=fp,fn:=L8 a.names,pn:=[],xe:=λ_ _=>False}
section
variable {X:Cx}{N':oA Str}{mp:oA<|oB Nat}{cz tg iter:lJ}{cf:oA lJ}{scope:lQ}{pos:Pos}{wi:TI}{g:TG}{tst:TT}{te:TE}
def Inv.comp0C{G:oA<|lF×lM}{h:St}{H:Hp}{s:lD}{fp:oA lF}{tn:lL->Prop}{a:lL}{tk:Nat}{C:lF}(ok:CompOkC X.N X.env.scope.names scope.names N' mp)(hk:scope.kind=.function) (I:Inv X G h H s) (D:∀b∈fp,Gr X G H b) (P:∀b∈fp,∃o,s.heap.get? b=some o) (T:C=s.heap.objs.size+1)
  (gh:∃m,a.Ns C m) (d:∀b o,s.heap.get? b=some o->a.get? b=some o) (V:∃n,a.get? s.heap.objs.size=some {cls:=.type "list",data:=.seq #[] n}) (Y:∀x c,(cellsFrom (C+1) scope.names<|Er X.env.cells scope.names []).lookup x=some c->∃v,a.IsCell c v) :
  Inv (Be X N' scope C s H fp) [] (M5 mp h) (upd H s.heap.objs.size<|.lst []) {s with heap:=a,toks:=tk}:=by
 subst T;have U:∀x∈scope.names,x.2=.free->∃c,X.env.cells.lookup x.1=some c:=λx hx e=>I.ok.has x.1<|ok.free x hx e;have sub:∀x c,(Er X.env.cells scope.names []).lookup x=some c->X.env.cells.lookup x=some c:=Gv U (λx c e=>by simp at e);have w:∀x c,(cellsFrom (s.heap.objs.size+1+1) scope.names<|Er X.env.cells scope.names []).lookup x=some c->(s.heap.objs.size+1+1<=c/\(x,NameKind.cell)∈scope.names)\/X.env.cells.lookup x=some c:=λx c e=>(cf_dich e).imp_right λz=>sub x c z;have L:∀b∈fp,b<s.heap.objs.size:=λb hb=>by obtain⟨_,e⟩:=P b hb;exact O_ e
 have B:H (s.heap.objs.size+1)=none:=I.hok.fresh<|eJ _;have M:H s.heap.objs.size=none:=I.hok.fresh<|F_ _;have Q:∀b∈fp,b∉frs X.stack:=λb hb z=>by obtain⟨_,S,f2,_⟩:=D b hb;rcases aB.mp (I.stkSub b z) with e|e;exact S e;exact f2 e
 refine⟨⟨I.ok.mod,hk,I.ok.glob,I.ok.blt,eJ _,Qj (λx y c A E=>I.ok.inj x y c (sub x c A)<|sub y c E) (λx c e=>by obtain⟨_,z⟩:=I.cell x c<|sub x c e;exact dQ<|dQ z.lt),λx e=>?_,λx c Z e=>K_ (bB<|eJ _)<|Qk (F_ _) e<|.inl<|Ql Z,I.ok.hd,I.ok.frames,.inl rfl,λb hb=>⟨?_,λx c e=>?_⟩,I.bs,K_ I.ok.bsz I.sz,λb o e hb=>?_,Q,I.stack,I.stkFree⟩,
  rfl,I.bare,Un.laid d (F_ _) M,?_,λx c e=>?_,?_,λx c e=>?_,λp hp=>(nomatch hp),I.hok.laid d (F_ _) ?_,?_⟩
 rcases relabel_back2 e with z|z;exact Ft<|Gw z;exact Qi z;exact Y_<|dQ<|L b hb;rcases w x c e with⟨z,_⟩|z;exact λq=>absurd (q ▸ L b hb)<|jA<|K_ (bB<|eJ _) z;exact(D b hb).2.2.2.2.1 x c z;rcases(D b hb).2.2.2.1 with z|z;exact I.ok.noex b o e z;exact absurd (R_ (O_ e)<|K_ I.ok.bsz z)<|cX _
 ·obtain⟨m,hm⟩:=gh;refine⟨m,hm,λi x v A E e3=>?_⟩;have f:(M5 mp h)[i]?=some (some v):=E;unfold M5 at f;rw[L_]at f;cases hmp:mp[i]? with
  |none=>rw[hmp]at f;cases f
  |some o=>
   rw[hmp]at f;cases o with
   |none=>cases f
   |some j=>
    have R:h[j]?=some (some v):=by
     have q:(h[j]?).join=some v:=bA f;cases hj:h[j]? with
     |none=>rw[hj]at q;cases q
     |some y=>rw[hj]at q;exact bO some q
    obtain⟨O,a2,a3,J⟩:=ok.map i j x hmp A;obtain⟨m0,hn0,fc⟩:=I.loc;obtain⟨u,r,l⟩:=fc j x v O R<|a2.elim (λz=>.inr<|.inl z) λz=>.inr<|.inr z;refine⟨u,r,.inr ⟨?_,?_⟩⟩;exact Ln J;rcases l with⟨t,_⟩|⟨_,c,l2,W⟩;have t:X.env.scope.names.lookup x=some .local:=t;rcases a2 with a2|a2<;>rw[a2]at t<;>cases t;obtain⟨k,F⟩:∃k,(cellsFrom (s.heap.objs.size+1+1) scope.names<|Er X.env.cells scope.names []).lookup x=some k:=Ft<|Gw a3;have:k=c:=by rcases w x k F with⟨_,z⟩|z;have:=ok.ownc _ z rfl;rw[J]at this;cases this;exact bA<|z.symm.trans l2
    subst this;exact⟨k,F,W.keeps d⟩
 exact Y x c e
 show upd H s.heap.objs.size (.lst []) (s.heap.objs.size+1)=none;rw[Aq<|Nat.succ_ne_self _];exact B;show upd H s.heap.objs.size (.lst []) c=none;rcases w x c e with⟨z,_⟩|z;rw[Aq<|fE<|R_ (dQ<|dO _) z];exact I.hok.fresh<|K_ (bB<|eJ _) z;obtain⟨v,y⟩:=I.cell x c z;rw[Aq<|Y_ y.lt];exact I.freeC x c z;obtain⟨n,e⟩:=V;exact⟨aJ _,[],n,.nil,e⟩;show(M5 mp h).length=N'.length;unfold M5;rw[B_,ok.len]
def K7{aa:oA<|lF×lM}{σ:St}{H:Hp}{s:lD}{it:lF}{fp:oA lF}{tn:Nat->lL->Prop}{J:It}{Q:lF->Hp->Prop}{E:lC->lD->Prop}{RR:lC->lF->lT->lD->Prop}
  (ok:CompOkC X.N X.env.scope.names scope.names N' mp) (hk:scope.kind=.function) (hc:X.calm=true) (I:Inv X aa σ H s) (T:Turn X.prog X.w X.K tg J fp it tn) (st:tn 0 s.heap) (hf:∀b∈fp,Gr X aa H b)
  (hg:∀C s H fp,PG (Be X N' scope C s H fp) tg g) (ht:∀C s H fp,PIfs (Be X N' scope C s H fp) cf tst) (he:∀C s H fp,PE (Be X N' scope C s H fp) cz te)
  (h:∀p,H p=none->Wd p J g tst te (Q p) (M5 mp σ) (upd H p<|.lst []))
  (hRR:∀C M H',Inv X aa σ H' M->(∃m,M.heap.Ns C m)->H' C=none->X.s₀.heap.objs.size<=C->C≠X.env.locals->(∀x c,X.env.cells.lookup x=some c->c≠C)->(∀q∈X.pn++aa,q.1≠C)->Q s.heap.objs.size H'->RR (.ref s.heap.objs.size) C (.ok .next) M) :
  qV X.prog X.w X.A (newList []) (λa f=>qV X.prog X.w X.A (newFunctionEnv scope X.env.globals (Er X.env.cells scope.names []) [] X.env.qual none .none<|some X.env) (λnu S=>
   codeAny (model X.prog X.w) X.A (.compStart (.ListComp cz [⟨tg,iter,cf,0⟩] scope pos) 0 (.ref it) a {nu with scope:=relabel scope X.env}) (RR a nu.locals) S) E f) E s:=by
 refine Z_<|L9 ?_;dsimp only;generalize u7:s.heap.push {cls:=.type "list",dict:=none,data:=.seq ([]:oA lC).toArray}=H2;have hC:H2.objs.size=s.heap.objs.size+1:=by rw[<- u7,dG]
 have h8:∀b o,H2.get? b=some o->(pushCells (H2.push {cls:=.type "dict",data:=.dict #[]}) scope.names).get? b=some o:=λb o e=>pushCells_keeps _ _ b o<|DD _ e;have k:∀b o,s.heap.get? b=some o->(pushCells (H2.push {cls:=.type "dict",data:=.dict #[]}) scope.names).get? b=some o:=λb o e=>h8 b o<|u7 ▸ DD _ e;have bf:∃n,(pushCells (H2.push {cls:=.type "dict",data:=.dict #[]}) scope.names).get? s.heap.objs.size=some {cls:=.type "list",data:=.seq #[] n} :=
  ⟨_,h8 _ _<|u7 ▸ I_ _ rfl⟩
 have j:(pushCells (H2.push {cls:=.type "dict",data:=.dict #[]}) scope.names).Ns H2.objs.size λ_=>none:=(Heap.Ns.new H2<|.type "dict").keeps<|pushCells_keeps _ _;have vw:∀x∈scope.names,x.2=.free->∃c,X.env.cells.lookup x.1=some c:=λx hx e=>I.ok.has x.1<|ok.free x hx e;have fh:∀x c,(cellsFrom (H2.objs.size+1) scope.names<|Er X.env.cells scope.names []).lookup x=some c->∃v,(pushCells (H2.push {cls:=.type "dict",data:=.dict #[]}) scope.names).IsCell c v:=λx c e=>by refine L7 (h:=H2.push {cls:=.type "dict",data:=.dict #[]}) (λy d z=>?_) x c (by rw[dG];exact e);obtain⟨v,q⟩:=I.cell y d (Gv vw (λx c e=>by simp at e) y d z);exact⟨v,q.keeps λb o e=>DD _<|u7 ▸ DD _ e⟩
 generalize pushCells (H2.push {cls:=.type "dict",data:=.dict #[]}) scope.names=h₁ at k bf j fh;have vf:∀b∈fp,∃o,s.heap.get? b=some o:=λb hb=>by obtain⟨o,e,_⟩:=T.obj _ _ st b hb;exact⟨o,e⟩
 have j5:s.heap.objs.size<=H2.objs.size:=by rw[hC];exact eJ _
 have Z:=I.comp0C (tn:=tn 0) (C:=H2.objs.size) (tk:=s.toks) ok hk hf vf hC ⟨_,j⟩ k bf fh;have km:tn 0 h₁:=T.keep _ _ _ st λb hb o e=>k b o e;obtain⟨W,⟨m0,w0⟩,fq⟩:=h _<|I.hok.fresh<|F_ _;have lj:∀b∈fp,b∉frs X.stack:=Z.ok.exfs;have gf:∀{H':Hp},(∀b∈fp,H' b=none)->∀b∈fp,Gr (Be X N' scope H2.objs.size s H fp) [] H' b:=λhn b hb=>
  ⟨hn b hb,(Z.ok.exf b hb).1,lj b hb,.inl hb,(Z.ok.exf b hb).2,λq hq=>(nomatch hq)⟩
 have D:∀f:lD,f={s with heap:=h₁} ->
   codeAny (model X.prog X.w) X.A (.compLoop (.ListComp cz [⟨tg,iter,cf,0⟩] scope pos) 0 (.ref it) (.ref s.heap.objs.size)<|compEnvC scope (cellsFrom (H2.objs.size+1) scope.names<|Er X.env.cells scope.names []) H2.objs.size X.env) (RR (.ref s.heap.objs.size) H2.objs.size) f:=by
  rintro f rfl;refine M4 (λn M=>∃i a l H',Inv (Be X N' scope H2.objs.size s H fp) [] l H' M/\tn i M.heap/\(∀b∈fp,H' b=none)/\W i n a l H') ?_ m0
   ⟨0,[],_,_,Z,km,λb hb=>by rw[Aq<|Y_ (by obtain⟨_,e⟩:=vf b hb;exact O_ e)];exact(hf b hb).1,w0⟩
  rintro n s3 ⟨i,a,B,H3,I3,U,R,w3⟩;rcases fq i n a B H3 w3 with⟨stop,qn⟩|⟨go,N,hN,step⟩;refine thn (T.done (Be X N' scope H2.objs.size s H fp) rfl rfl rfl hc i [] s3 B H3 _ I3 (gf R) U stop) λr s4 ⟨hr,P⟩=>?_;subst hr;refine hRR _ s4 H3 ?_ (by obtain⟨m,hm,_⟩:=P.loc;exact⟨m,hm⟩) P.free (K_ I.sz j5) (fE<|R_ I.lt j5) (λx c e=>?_) (λq hq=>?_) qn;exact I.call' P.os P.base P.hok P.bare λb hb=>by obtain⟨_,f1,_,f3,f4,f5⟩:=hf b hb;exact⟨f3,f1,f4,f5⟩
  obtain⟨v,z⟩:=I.cell x c e;exact Y_<|R_ z.lt j5;exact Y_<|R_ (O_ (I.pin q hq).1) j5
  ·refine thn (T.item (Be X N' scope H2.objs.size s H fp) rfl rfl rfl hc i [] s3 B H3 _ I3 (gf R) U go) λr s4 ⟨u,hr,h4⟩=>?_;subst hr;refine thn h4 λ_ s5 rj=>?_;obtain⟨x,H5,I5,r5,y5,G,fr5⟩:=rj;have I5':=I5.pinned (gf fr5)<|T.obj _ _ G;refine thn (hg _ _ _ _ _ s5 B H5 x u _ I5' r5<|step x H5 y5) λ_ s6 uq=>?_;obtain⟨L,H6,I6,q6⟩:=uq;refine thn (ht _ _ _ _ _ s6 L H6 _ I6 q6) λb s7 ⟨H7,I7,q7⟩=>?_;have again:∀{t:St} {F:Hp} {lx:oA V} {O:lD},Inv (Be X N' scope H2.objs.size s H fp) ([]++Iu fp s5.heap) t F O->(∃m',m'<n/\W (i+1) m' lx t F) ->
     ∃m,m<n/\∃i a l H',Inv (Be X N' scope H2.objs.size s H fp) [] l H' O/\tn i O.heap/\(∀b∈fp,H' b=none)/\W i m a l H':=λ{t F lx O} Y hw=>by
    obtain⟨m',hm,w8⟩:=hw;refine⟨m',hm,i+1,lx,t,F,Y.unpinned,T.keep _ _ _ G λb hb o e=>(Y.pin (b,o)<|aT _<|aT _<|E5 hb e).1,λb hb=>?_,w8⟩;obtain⟨o,e,d⟩:=T.obj _ _ G b hb;exact(Y.pin (b,o)<|aT _<|aT _<|E5 hb e).2.1
   cases b with
   |false=>rw[M_ S_];rw[M_ S_]at q7;exact again I7 (hN _ _ _ q7)
   |true=>rw[T_ rfl];rw[T_ rfl]at q7;refine thn (he _ _ _ _ _ s7 L H7 _ I7 q7) λy O t6=>?_;obtain⟨v,F,Y,r8,ac,e8,z8,w8⟩:=t6;refine thn (Kl (X:=Be X N' scope H2.objs.size s H fp) _ O L F (.ref s.heap.objs.size) [v] (.ref s.heap.objs.size) [y] (λ_ H9=>H9=upd F s.heap.objs.size (.lst<|ac++[v])) Y rfl (.cons r8 .nil) ⟨_,ac,v,rfl,rfl,e8,z8,rfl⟩) λ_ s9 so=>?_;obtain⟨_,H9,I9,_,e9⟩:=so;subst e9;exact again I9<|hN _ _ _ w8
 exact codeAny_compStart_list (D _ rfl)<|T.self _ 0 _ _ _ km<|D _ rfl
def Oc(hc:X.calm=true)(hi:PI X tg iter wi)(k:∀C s H a,PG (Be X N' scope C s H a) tg g)(r:∀C s H a,PIfs (Be X N' scope C s H a) cf tst)(he:∀C s H a,PE (Be X N' scope C s H a) cz te)
  (ok:CompOkC X.N X.env.scope.names scope.names N' mp) (hk:scope.kind=.function:=by rfl) (hs:∀x,foldedSetIterable iter X.env x=pure x:=by intro _;rfl) :
  PE X (.ListComp cz [⟨tg,iter,cf,0⟩] scope pos) (We mp wi g tst te):=by
 intro d s f H Q I h;rw[eval_ListComp];refine wpAny_comprehension_free (use:=none) rfl hs (F9 λx hx e=>I.ok.has x.1<|ok.free x hx e) hk ok.loc<|thn (hi d s f H _ I h) λv O h1=>thn h1 λR l h2=>?_;obtain⟨S,a,L,J,M,e,n,T,o,z,j⟩:=h2;subst e;refine K7 (Q:=λp c=>Q (.ref p) c) (RR:=λb C=>compPost (model X.prog X.w) X.A X.xe none (EP X d f Q) b C) ok hk hc n T o z k r he j ?_;intro C G c D y i h1 B u E q;obtain⟨m,F⟩:=y;exact⟨m,F,λP t=>⟨.ref l.heap.objs.size,c,D.letgo i h1 B u E t,rfl,q⟩⟩
def Ym{i:Nat}{y:Str}{d t:Pos}(hc:X.calm=true)(S:X.N.Nodup)(U:X.N[i]?=some y)(hy:X.env.scope.names.lookup y=some .local)
  (hi:PI X tg iter wi) (G:∀C s H c,PG (Be X N' scope C s H c) tg g) (P:∀C s H c,PIfs (Be X N' scope C s H c) cf tst) (he:∀C s H c,PE (Be X N' scope C s H c) cz te)
  (ok:CompOkC X.N X.env.scope.names scope.names N' mp) (L:swapsWith (.ListComp cz [⟨tg,iter,cf,0⟩] scope pos) (some<|.Name y d) t.line X.env=pure true:=by rfl)
  (hk:scope.kind=.function:=by rfl) (hs:∀x,foldedSetIterable iter X.env x=pure x:=by intro _;rfl) :
  PS X (.Assign [.Name y d] (.ListComp cz [⟨tg,iter,cf,0⟩] scope pos) t) (BB (We mp wi g tst te)<|Vq i):=by
 intro k s u H D I h;rw[exec_Assign_Name_used _ _ _ _ L];refine A_<|wpAny_standAt<|A_ ?_;show wpAny _ _ (do let _ <- comprehension (.ListComp cz [⟨tg,iter,cf,0⟩] scope pos) scope X.env _ (newList []) false (eval iter X.env) (some<|assign (.Name y d) X.env)) _ _ s;refine A_<|cD (wpAny_comprehension_free (use:=some<|assign (.Name y d) X.env) (Q:=λ_ b=>SP X k D .next b) rfl hs (F9 λx hx e=>I.ok.has x.1<|ok.free x hx e) hk ok.loc
  (thn (hi k s u H _ I h) λv s1 h1=>thn h1 λu9 r h2=>?_)) (λ_ b hq=>C_<|C_ hq) λ_ _ e=>e
 obtain⟨it,c,tn,J,H2,e,M,T,O,W,F⟩:=h2;subst e;refine K7 (Q:=λp l=>D.nx (u.set i<|some<|.ref p) l) (RR:=λj C=>compPost (model X.prog X.w) X.A X.xe (some<|assign (.Name y d) X.env) (λ_ b=>SP X k D .next b) j C) ok hk hc M T O W G P he F ?_;intro C b l Y V E h1 B z Z q;obtain⟨m,hm⟩:=V;show wpAny _ _ (assign (.Name y d) X.env<|.ref r.heap.objs.size) _ _ b;refine wpAny_assign_Name<|Kf Y S U (.inl hy) (v:=.ref r.heap.objs.size) rfl (λut o fg=>?_)<|.inr hy;obtain⟨a,n,ha⟩:=fg;have f:C≠a:=by rcases ha with rfl|ha;exact B;exact(z _ _ ha).symm
 refine⟨m,hm.sameBut n f,λh' R=>?_⟩;exact⟨_,l,o.letgo E h1 B z Z R,q⟩
def Bm{wi:AI}{g:AG}{tst:AT}{te:AE}(hc:X.calm=true)(hi:VI X tg iter wi)(b:∀C s H a,VG (Be X N' scope C s H a) tg g)(c:∀C s H a,VIfs (Be X N' scope C s H a) cf tst)(he:∀C s H a,VE (Be X N' scope C s H a) cz te)
  (ok:CompOkC X.N X.env.scope.names scope.names N' mp) (hk:scope.kind=.function:=by rfl) (hs:∀x,foldedSetIterable iter X.env x=pure x:=by intro _;rfl) :
  VE X (.ListComp cz [⟨tg,iter,cf,0⟩] scope pos) (Nf mp wi g tst te):=(Oc (g:=cG X.K g) (tst:=cT X.K tst) (te:=cE X.K te) hc hi (λC s H a=>b C s H a) (λC s H a=>c C s H a) (λC s H a=>he C s H a) ok hk hs).imp λ_ _ _ h=>Kv h
def Fu{wi:AI}{g:AG}{tst:AT}{te:AE}{i:Nat}{y:Str}{e d:Pos}(hc:X.calm=true)(p:X.N.Nodup)(q:X.N[i]?=some y)(hy:X.env.scope.names.lookup y=some .local)
  (hi:VI X tg iter wi) (j:∀C s H a,VG (Be X N' scope C s H a) tg g) (n:∀C s H a,VIfs (Be X N' scope C s H a) cf tst) (he:∀C s H a,VE (Be X N' scope C s H a) cz te)
  (ok:CompOkC X.N X.env.scope.names scope.names N' mp) (k:swapsWith (.ListComp cz [⟨tg,iter,cf,0⟩] scope pos) (some<|.Name y e) d.line X.env=pure true:=by rfl)
  (hk:scope.kind=.function:=by rfl) (hs:∀x,foldedSetIterable iter X.env x=pure x:=by intro _;rfl) :
  VS X (.Assign [.Name y e] (.ListComp cz [⟨tg,iter,cf,0⟩] scope pos) d) (Tw (Nf mp wi g tst te)<|D3 i):=(Ym (g:=cG X.K g) (tst:=cT X.K tst) (te:=cE X.K te) hc p q hy hi (λC s H a=>j C s H a) (λC s H a=>n C s H a) (λC s H a=>he C s H a) ok k hk hs).imp λD w H b=>F4 b λr o z nr A t hs hc h hq=>
 Kv (K:=X.K) ⟨r,o,_,hs,hc,h,λx f v u c l m hx=>hq.nx _ _ _ _ c ((hs.kp c).set m i) l hx⟩
end
end L2
namespace L2
open PySem PySem.Spec PySem.Calls PyProof.Rows
abbrev RIt(h:lL)(it d:lF)(i n ep:Nat)(z:lC)(f:Bool)(ok ov:lC):Prop :=
 h.get? it=some {cls:=.type "dict_itemiterator",dict:=none,data:=.fields #[z,.bool f,.ref d,.int i 0,.int n 0,.int ep 0,ok,ov],slots:=#[]}
section
variable {prog:lH}{w:lI}{A:lK}{E:lC->lD->Prop}{s:lD}{d it v:lF}{es:oC DictEntry}{ep i:Nat}{z ok ov:lC}{f:Bool}{R:lT->lD->Prop}{X:Cx}{k:Nat}{aa:oA<|lF×lM}{σ:St}{H:Hp}{o:lJ}{au ak mh pos:Pos}{tg:lJ}{K:lG}{a:lF}{od:lM}{ws:oA<|oA Key×V}{N':oA Str}{mp:oA<|oB Nat}{cz:lJ}{cf:oA lJ}{scope:lQ}
def Uq(c:(d==sysModules)=false):MeetsIn prog w (Builtin.«dict.items» ⟨[.ref d],[]⟩) (λ_ R s=>(∃es ep,El s.heap d es ep)/\R (.ok<|.ret<|.ref s.heap.objs.size) {s with heap:=s.heap.push {cls:=.type "dict_items",data:=.fields #[.ref d]}}) :=
 .of_wp λA R s ⟨⟨_,_,b⟩,h⟩=>by unfold Builtin.«dict.items» Builtin.Dict.noArgs;refine A_<|A_<|gJ b.ty<|show wpAny _ _ (pure d) _ _ s from C_ ?_;show wpAny _ _ (Builtin.Dict.showsAll d>>=_) _ _ s;unfold Builtin.Dict.showsAll;rw[c,M_ S_];exact A_<|C_<|A_<|Z_<|C_ ⟨_,rfl,h⟩
def Ur{Q:lC->lD->Prop}(hv:s.heap.IsItemsView v d)(c:El s.heap d es ep)
  (q:Q (.ref s.heap.objs.size) {s with heap:=s.heap.push {cls:=.type "dict_itemiterator",data:=.fields #[.none,.bool false,.ref d,.int 0 0,.int es.size 0,.int ep 0,.none,.none]}}):qV prog w A (pyIter<|.ref v) Q E s:=by
 obtain⟨h,e,_,g⟩:=id hv;obtain⟨o,h1,_,b⟩:=id c;refine eD hv.typeIs F.slot_dict_items_iter<|aN F.slot_dict_items_iter hv.typeIs F.entry_dict_items_iter ?_<|F.args_dict_items_iter_1 _;unfold Builtin.«dict_items.__iter__» Builtin.Dict_items.dictOf Builtin.Dict_items.newIterator;refine A_<|C_<|A_<|A_<|cK e g (x:=.ref d) rfl<|C_<|A_<|A_<|dJ h1 b<|A_<|fB h1 b ?_;simp only[show Builtin.Dict_items.ownsTuple "dict_itemiterator" = true by decide,if_true];refine Z_ (C_ ⟨_,rfl,"dict_itemiterator",_,⟨_,I_ _ rfl,rfl⟩,F.slot_dict_itemiterator_next.lookup,?_⟩)
  (by simp only[sizeOk,Builtin.Dict_items.ownedTupleFields,List.size_toArray,List.length_append,List.length_cons,List.length_nil,sizeLine_eq];exact Nat.le_add_left _ _)
 simpa [rawInt,Builtin.Dict_items.ownedTupleFields] using q
def Us{Q:oB lC->lD->Prop}(C:RIt s.heap it d i es.size ep z f ok ov)(hz:(z=.none/\f=false)\/∃(a:lF) (S:lM),z=rawInt a/\s.heap.get? a=some S/\a≠it)(hm:El s.heap d es ep)(hi:i<es.size)
  (hQ:∀G j q I J,RIt G it d (i+1) es.size ep j q I J->((z=.none/\j=rawInt s.heap.objs.size/\q=false)\/∃a:lF,z=rawInt a/\j=rawInt a)->G.get? s.heap.objs.size=some {cls:=.type "tuple",data:=.seq #[es[i].key,es[i].val]}->G.objs.size=s.heap.objs.size+1 ->
   (∀b o,b≠it->s.heap.get? b=some o->G.get? b=some o)->Q (some<|.ref s.heap.objs.size) {s with heap:=G}):qV prog w A (pyNext<|.ref it) Q E s:=by
 obtain⟨hp,g,u,y,os⟩:=s;obtain⟨od,h1,_,Z⟩:=id hm;have T:Shared.TypeIs ⟨hp,g,u,y,os⟩ (.ref it) "dict_itemiterator" := ⟨_,C,rfl⟩;unfold pyNext;refine A_<|dN<|aU (name:=Str.ofString "__next__") T F.slot_dict_itemiterator_next<|aN F.slot_dict_itemiterator_next T F.entry_dict_itemiterator_next ?_<|F.args_dict_itemiterator_next_1 _;refine A_<|C_<|A_<|A_ ?_
 first|refine A_ (eM T<|C_<|A_<|dW C rfl ?_)|refine A_<|fL T<|C_<|A_<|dW C rfl ?_
 simp only[show Builtin.Dict_items.ownsTuple "dict_itemiterator" = true by decide,if_true];show qV prog w _ (if(Value.ref d==Value.none)=true then _ else _) _ _ _;rw[M_<|by exact S_];refine A_<|C_<|A_<|dJ h1 Z ?_;rw[M_<|by simp];refine A_<|C_<|A_<|fB h1 Z ?_;rw[M_<|by simp];refine C_ ?_;simp only[show ¬((i:Int)<0) by omega,if_false,Int.toNat_natCast,Array.getElem?_eq_getElem hi];refine A_ ?_
 first|refine A_ (eM T<|C_<|A_<|gE T ?_)|refine A_<|fL T<|C_<|A_<|gE T ?_
 show qV prog w _ (setField (.ref it) 3 (rawInt<|(i:Int)+1)>>=_) _ _ ⟨hp,g,u,y,os⟩;refine A_ (eL C (by simp) λn B D=>?_);replace D:Heap.SameBut it hp n:=D;replace B:RIt n it d (i+1) es.size ep z f ok ov:=by unfold RIt;rw[show((i+1:Nat):Int)=(i:Int)+1 by omega];simpa [rawInt] using B
 have P:Shared.TypeIs ⟨n,g,u,y,os⟩ (.ref it) "dict_itemiterator" := ⟨_,B,rfl⟩;refine A_<|bK<|A_<|gE P<|A_<|gE P ?_;show qV prog w _ (Builtin.Dict_items.pairFromOwner (.ref it) 6 es[i].key es[i].val) _ _ ⟨n,g,u,y,os⟩;unfold Builtin.Dict_items.pairFromOwner;refine A_<|wpAny_newTuple ?_;have l:RIt (n.push {cls:=.type "tuple",data:=.seq #[es[i].key,es[i].val]}) it d (i+1) es.size ep z f ok ov:=DD _ B;generalize M:n.push {cls:=.type "tuple",data:=.seq #[es[i].key,es[i].val]}=t at l;have L:n.objs.size=hp.objs.size:=D.1;have il:it<hp.objs.size:=O_ C;have t2:t.get? hp.objs.size=some {cls:=.type "tuple",data:=.seq #[es[i].key,es[i].val]}:=by rw[<- M,<- L];exact I_ _ rfl
 have z2:t.objs.size=hp.objs.size+1:=by rw[<- M,dG,L]
 have kk:∀b o,b≠it->hp.get? b=some o->t.get? b=some o:=λb o hb e=>by rw[<- M];exact DD _<|D.extBut b o hb e
 show qV prog w _ (Builtin.Dict_items.ownedTupleIsFree (.ref it)>>=_) _ _ ⟨t,g,u,y,os⟩;rw[L];clear M B D P L n;have p:∀(h:lL) j q I J,RIt h it d (i+1) es.size ep j q I J->((z=.none/\j=rawInt hp.objs.size/\q=false)\/∃a:lF,z=rawInt a/\j=rawInt a)->Heap.SameBut it t h->Q (some<|.ref hp.objs.size) ⟨h,g,u,y,os⟩:=λh j q I J m c r=>
  hQ h j q I J m c (r.extBut _ _ (fE il) t2) (by show h.objs.size=_;rw[r.1,z2]) λb o hb e=>r.extBut b o hb<|kk b o hb e
 refine A_ ?_;unfold Builtin.Dict_items.ownedTupleIsFree;rcases hz with⟨rfl,rfl⟩|⟨a,S,rfl,ha,U⟩;refine A_<|cK l rfl (x:=.none) rfl<|C_ ?_;simp only[if_true];refine A_<|cK l rfl (x:=ok) rfl<|A_<|cK l rfl (x:=ov) rfl ?_;refine A_ (eL l (by simp) λh m r=>?_);replace m:RIt h it d (i+1) es.size ep .none false es[i].key ov:=m;refine A_ (eL m (by simp) λk4 Y s4=>?_);replace Y:RIt k4 it d (i+1) es.size ep .none false es[i].key es[i].val:=Y;refine A_ (eL Y (by simp) λk5 N s5=>?_);replace N:RIt k5 it d (i+1) es.size ep (rawInt hp.objs.size) false es[i].key es[i].val:=N;refine A_ (eL N (by simp) λk6 O s6=>?_);replace O:RIt k6 it d (i+1) es.size ep (rawInt hp.objs.size) false es[i].key es[i].val:=O;exact A_<|iE<|C_<|C_ ⟨_,rfl,C_<|p k6 _ _ _ _ O (.inl ⟨rfl,rfl,rfl⟩)<|((Heap.SameBut.trans r s4).trans s5).trans s6⟩
 ·refine A_<|cK l rfl (x:=rawInt a) rfl ?_;show qV prog w _ (loadIfAlive ((a:Int).toNat)>>=_) _ _ _;rw[cP];refine A_<|PySem.W.kdx_alive (kk a S U ha) ?_;simp only[Option.isNone_some,Bool.false_eq_true,if_false];refine A_<|cK l rfl (x:=.bool f) rfl ?_;cases f with
  |true=>rw[M_<|by exact S_];refine C_ ?_;simp only[Bool.false_eq_true,if_false];exact C_ (C_ ⟨_,rfl,C_<|p t _ _ _ _ l (.inr ⟨a,rfl,rfl⟩)<|kI _ _⟩)
  |false=>rw[T_<|by rfl];refine A_ (eL l (by simp) λh m r=>C_ ?_);replace m:RIt h it d (i+1) es.size ep (rawInt a) true ok ov:=m;simp only[Bool.false_eq_true,if_false];exact C_<|C_ ⟨_,rfl,C_<|p h _ _ _ _ m (.inr ⟨a,rfl,rfl⟩) r⟩
def Yn{Q:oB lC->lD->Prop}(h:A.handled=none)(c:RIt s.heap it d es.size es.size ep z f ok ov)(j:El s.heap d es ep)(q:∀e,Heap.ExtBut it s.heap e->Q none {s with heap:=e}):qV prog w A (pyNext<|.ref it) Q E s:=by
 obtain⟨od,h1,_,g⟩:=id j;have T:s.TypeIs (.ref it) "dict_itemiterator" := ⟨_,c,rfl⟩;unfold pyNext;refine A_<|dN<|aU (name:=Str.ofString "__next__") T F.slot_dict_itemiterator_next<|aN F.slot_dict_itemiterator_next T F.entry_dict_itemiterator_next ?_<|F.args_dict_itemiterator_next_1 _;refine A_<|C_<|A_<|A_ ?_
 first|refine A_ (eM T<|C_<|A_<|dW c rfl ?_)|refine A_<|fL T<|C_<|A_<|dW c rfl ?_
 simp only[show Builtin.Dict_items.ownsTuple "dict_itemiterator" = true by decide,if_true];show qV prog w _ (if(Value.ref d==Value.none)=true then _ else _) _ _ s;rw[M_<|by exact S_];refine A_<|C_<|A_<|dJ h1 g ?_;rw[M_<|by simp];refine A_<|C_<|A_<|fB h1 g ?_;rw[M_<|by simp];refine C_ ?_;simp only[show ¬((es.size:Int)<0) by omega,if_false,Int.toNat_natCast,Array.getElem?_eq_none<|Nat.le_refl es.size];refine A_ ?_
 first|refine A_ (eM T<|C_ ?_)|refine A_<|fL T<|C_ ?_
 show qV prog w _ (setField (.ref it) 2 .none>>=_) _ _ s;refine A_ (eU c rfl (by simp)<|show wpAny _ _ (newExc (.type "StopIteration") []>>=_) _ _ _ from A_ ?_);simp only[newExc,newTuple];refine A_ (Z_ (A_ (m:=firstArgMember _ _)<|eK (a:=Value.none) (by first|rfl|(simp only[firstArgMember];rfl))<|Z_ ?_<|by size_fits)<|by size_fits);simp only[raiseNew];refine A_<|jD (?_:_);rw[show A.in1.handled=none from h];refine A_<|C_<|kF ?_;refine A_ (dA (T := "StopIteration") (b:=true) (by exact⟨_,I_ _ rfl,rfl⟩) gO ?_);exact C_<|q _<|((aV ..).extBut.push _).push _
def Ut:FN X "dict.items" (λx t H Q=>∃a g,x=.ref a/\t=[]/\H a=some (.dT g)/\∀v,H v=none->Q (.ref v) (upd H v<|.ext λh=>h.IsItemsView v a)):=by intro aa s σ H x y v D Q I p r h;obtain⟨a,g,rfl,rfl,ha,q⟩:=h;cases p;have m:=Vals.zero r;subst m;obtain⟨hz,c,u,l,o,es,ep,h1,h2,n,C,_⟩:=My I.hok ha;have j:El s.heap a es ep:=⟨o,h1,h2,n⟩;refine iI PySem.F.slot_dict_items j.ty PySem.F.entry_dict_items (PySem.F.args_dict_items_1 _) (Uq c) ⟨⟨es,ep,j⟩,?_⟩;refine⟨.ref s.heap.objs.size,_,I.laid (t':=s.toks) (o:=.ext λh=>h.IsItemsView s.heap.objs.size a) (λb B q=>DD _ q) (F_ _) ?_,rfl,q _<|I.hok.fresh<|F_ _⟩;exact⟨⟨_,I_ _ rfl,rfl,rfl⟩,⟨_,I_ _ rfl⟩,by rintro h1 h2 ⟨o,e,r⟩ k;exact ⟨o,k o e,r⟩⟩
def Inv.freezeT{a:lF}{od:lM}{ws:oA<|oA Key×V}(I:Inv X aa σ H s)(e:H a=some (.dT ws))(h:s.heap.get? a=some od):Inv X aa σ (upd H a<|.frz od<|.dT ws) s:=by obtain⟨z,n,g,b,o,es,ep,h1,h2,l,m,p⟩:=(show Bp X.prog X.w H s.heap a (.dT ws) from I.hok a _ e);refine Gu (h':=s.heap) (t':=s.toks) I (by rw[e];exact True.intro) (kI _ _) ⟨od,h⟩ ⟨h,z,n,g,KT.keeps (show KT H ws g from b) λc q j=>?_,o,es,ep,h1,h2,l,m,p⟩;rw[Aq<|Mq j e λz=>nomatch z];exact j
def Iit(d:lF)(od:lM)(ws:oA<|oA Key×V):It :=
 ⟨λi H=> H d = some (.frz od<|.dT ws) /\ i<ws.length,
  λi H v c=> ∃ T b k y, H T = none /\ v = .ref T /\ ws[i]? = some (k, y) /\ H b = some (.tup<|k.map kV) /\ c = upd H T (.tup [.ref b, y]),
  λi H=> H d = some (.frz od<|.dT ws) /\ ws.length = i⟩
def Jw:PySem.entryFor PySem.table "dict_itemiterator.__iter__" = some Builtin.«dict_keyiterator.__iter__»:=PySem.entryFor_alias (id' := "dict_keyiterator.__iter__") (by kernel_rfl) rfl (by decide +kernel)<|by kernel_rfl
def Ij{prog:lH}{w:lI}{A:lK}{E:lC->lD->Prop}{s:lD}{it d:lF}{i n ep:Nat}{ok ov:lC}{Q:lC->lD->Prop}(c:IsItemIter s.heap it d i n ep ok ov)(h:Q (.ref it) s):qV prog w A (pyIter<|.ref it) Q E s:=by have b:s.TypeIs (.ref it) "dict_itemiterator" := ⟨_,c,rfl⟩;refine eD b gW<|aN gW b Jw ?_<|PySem.F.args_dict_itemiterator_iter_1 _;show wpAny _ _ (ret<|.ref it) _ _ s;exact C_ ⟨_,rfl,"dict_itemiterator",_,b,PySem.F.slot_dict_itemiterator_next.lookup,h⟩
def Qm{P:lH}{w:lI}{K:lG}{fu:oA lJ}{k:Nat}{pos:Pos}(d it:lF)(od:lM)(ws:oA<|oA Key×V)(es:oC DictEntry)(ep:Nat)(u:od.data=.dict es ep)(hsz:es.size=ws.length) :
  Turn P w K (.Tuple fu k pos) (Iit d od ws) [it] it (λi h=>∃ok ov,IsItemIter h it d i es.size ep ok ov) where
 mem:=by simp
 obj:=λi h st b hb=>by
  have e:b=it:=by simpa using hb
  subst e;obtain⟨ok,ov,st⟩:=st;exact⟨_,st,λv z=>nomatch z⟩
 keep:=λi h t st k=>let⟨ok,ov,st⟩:=st;⟨ok,ov,k it (by simp) _ st⟩
 item:=by
  intro X B m D hc i aa s σ H E I r st x;subst B m D;obtain⟨ok,ov,g⟩:=st;obtain⟨C,bq⟩:=x;obtain⟨n,z,hd,c,j,o,W,y,h1,h2,p,G,h5⟩:=(show Bp X.prog X.w H s.heap d (.frz od<|.dT ws) from I.hok d _ C);rw[n]at h1;cases h1;rw[u]at p;cases p;have S:i<es.size:=by omega
  have hxl:=bF j;have hx:c[i]?=some c[i]:=J_ (by omega);have m:ws[i]?=some ws[i]:=J_ bq;obtain⟨x',L,r1,r2,Y⟩:=D1 j m;rw[hx]at L;cases L;have m7:es[i]=entryOfKey (tupleKind<|Bf X.prog X.w) c[i]:=by have J:=bO (λl=>l[i]?) G;simp only[Array.getElem?_toList,Array.getElem?_eq_getElem S,List.getElem?_map,hx,Option.map_some]at J;exact bA J
  refine Us (z:=.none) (f:=false) g (.inl ⟨rfl,rfl⟩) ⟨od,n,h2,u⟩ S λt Z f' mz m5 gp im hT cp F=>?_;have vq:Z=rawInt s.heap.objs.size/\f'=false:=by rcases im with⟨_,h⟩|⟨a,h,_⟩;exact h;cases h
  obtain⟨rfl,rfl⟩:=vq;refine⟨_,rfl,wpAny_letOwnedTupleGo_items gp λM yd N=>?_⟩;have I1:Inv X aa σ H {s with heap:=t,toks:=s.toks}:=I.turnedL (fp:=[it]) (λb o hb e=>F b o (λq=>hb<|by simp[q]) e) r;have I2:Inv X aa σ H {s with heap:=M,toks:=s.toks}:=I1.turnedL (s:={s with heap:=t,toks:=s.toks}) (t':=s.toks) (fp:=[it]) (λb o hb e=>N.extBut b o (λq=>hb<|by simp[q]) e) r;have T:Gr X aa H s.heap.objs.size:=I.fpOk (F_ _)<|I.hok.fresh<|F_ _;have O:it<s.heap.objs.size:=O_ g;have U:M.get? s.heap.objs.size=some {cls:=.type "tuple",data:=.seq #[es[i].key,es[i].val]}:=N.extBut _ _ (fE O) hT;rw[m7]at U;refine⟨.ref s.heap.objs.size,upd H s.heap.objs.size<|.tup [.ref c[i].2.1,ws[i].2],I2.track T ⟨by show 2<=sizeLine;decide,[.ref c[i].2.1,c[i].2.2],.cons rfl<|.cons Y .nil,_,U,rfl,_,rfl⟩,rfl,⟨s.heap.objs.size,c[i].2.1,ws[i].1,ws[i].2,T.1,rfl,m,r2,rfl⟩,⟨_,_,yd⟩,λb hb=>?_⟩;have e:b=it:=by simpa using hb
  subst e;rw[Aq<|Y_ O];exact(r b hb).1
 done:=by intro X B m D hc i aa s σ H E I r st x;subst B m D;obtain⟨ok,ov,g⟩:=st;obtain⟨C,rfl⟩:=x;obtain⟨n,z,hd,c,j,o,W,y,h1,h2,p,G,h5⟩:=(show Bp X.prog X.w H s.heap d (.frz od<|.dT ws) from I.hok d _ C);rw[n]at h1;cases h1;rw[u]at p;cases p;rw[<- hsz]at g;exact Yn (I.ok.hd hc) g ⟨od,n,h2,u⟩ λt F=>⟨rfl,I.turnedL (t':=s.toks) (fp:=[it]) (λb o hb e=>F b o (λq=>hb<|by simp[q]) e) r⟩
 self:=λA i s Q E st h=>by obtain⟨_,_,g⟩:=st;exact Ij g h
def Ca(c:M)(a:lF):M:=λb=>if b=a then none else c b
def A7{c:M}{a b:lF}(h:b≠a):Ca c a b=c b:=M_ h
def PP:V->oA V->Hp->VK->Prop:=λx c H Q=>∃a b,x=.ref a/\c=[]/\H a=some (.dT b)/\∀v,H v=none->Q (.ref v) (upd H v<|.ext λh=>h.IsItemsView v a)
def iIt(K:lG)(td:TE):TI:=λσ H R=>IG K "dict" PP td σ H λv b=>∃a ws vv,v=.ref vv/\b vv=some (.ext λh=>h.IsItemsView vv a)/\b a=some (.dT ws)/\∀od,R (Iit a od ws)<|upd b a<|.frz od<|.dT ws
def Yo{B:oA lJ}{y:Nat}{td:TE}(C:PE X o td)(J:attributeBase o "items" X.env (eval o X.env)=eval o X.env:=by rfl) (L:(au.endLine==ak.line)=true:=by rfl) :
  PI X (.Tuple B y mh) (.Call (.Attribute o "items" au) [] [] ak) (iIt X.K td):=by
 intro aa s σ H R I h;refine thn (Ll (T := "dict") (r:=PP) fW PySem.F.slot_dict_items PySem.F.type_dict_items Ut C J L aa s σ H _ I h) λv c M=>?_;obtain⟨x,m,j,D,a,ws,vv,rfl,hv,ha,q⟩:=M;cases D;obtain⟨g,_,_⟩:=(show Bp X.prog X.w m c.heap vv (.ext λh=>h.IsItemsView vv a) from j.hok vv _ hv);obtain⟨hz,t,O,n,od,es,ep,h1,h2,u,N,Q⟩:=(show Bp X.prog X.w m c.heap a (.dT ws) from j.hok a _ ha);refine Ur g ⟨od,h1,h2,u⟩ ?_;have p:es.size=ws.length:=by have e:=bO List.length N;rw[B_]at e;rw[bF n,<- e];simp
 have G:=j.kept (t':=c.toks) (h':=c.heap.push {cls:=.type "dict_itemiterator",data:=.fields #[.none,.bool false,.ref a,.int 0 0,.int es.size 0,.int ep 0,.none,.none]}) λb P e=>DD _ e;have l:=j.hok.fresh<|F_ c.heap.objs.size;have f:=j.fpOk (F_ _) l;refine⟨c.heap.objs.size,[c.heap.objs.size],_,_,upd m a<|.frz od<|.dT ws,rfl,G.freezeT ha<|DD _ h1,Qm a _ od ws es ep u p,⟨.none,.none,I_ _ rfl⟩,λb hb=>?_,q od⟩;have e:b=c.heap.objs.size:=by simpa using hb
 subst e;exact⟨by rw[Aq λz=>by rw[z]at l;rw[ha]at l;cases l];exact f.1,f.2⟩
def MK(g:AGs)(tb:AS)(k:ASt->M->Prop)(r:AV->M->Prop):oA (oA Key×AV)->ASt->M->Prop
 |[]=>k
 |p::e=>λh j=>g [.D<|.tuple<|p.1.map KA,p.2] h j λb c=>tb (MK g tb k r e) r k (MK g tb k r e) b c
def PQ(td:AE)(g:AGs)(tb:AS):AS:=λk r _ _ e h=>td e h λx b=>match x with
 |.R a=>opt (b a) λm=>match m with
  |.dt c=>MK g tb k r c e (Ca b a)
  |_=>False
 |_=>False
def Ha{N:oA lJ}{kt:Nat}{u:oA lN}{td:AE}{g:AGs}{tb:AS}(hp:PassesOwn (model X.prog X.w) X.A X.env X.xe)(dg:X.calm=true)(hd:VE X o td)(hg:VGs X N g)(hb:VSs X u tb)
  (hn:(assignEach N X.env).length=2:=by rfl) (bd:(assignEach N X.env).findIdx? (·.1)=none:=by rfl) (yc:∀x,foldedSetIterable (.Call (.Attribute o "items" au) [] [] ak) X.env x=pure x:=by intro _;rfl)
  (a7:attributeBase o "items" X.env (eval o X.env)=eval o X.env:=by rfl) (az:(au.endLine==ak.line)=true:=by rfl) :
  VS X (.For (.Tuple N kt mh) (.Call (.Attribute o "items" au) [] [] ak) u [] pos) (PQ td g tb) :=
 (Vv hp dg (Yo hd a7 az) (Vs dg hg hn bd) hb yc).imp λD σ H J=>F4 J λτ μ nk nr nb nc hs hc h hq=>by
 refine⟨τ,μ,_,hs,hc,h,λx W v G Q c1 rx hx=>?_⟩;split at hx;rename_i a;obtain⟨m,em,hx⟩:=Ay hx;split at hx;rename_i n;obtain⟨ob,I,ws,rfl,rk⟩:=c1 _ _ em;cases (show v=.ref a from rx);refine⟨.inr<|.inr<|.inl ⟨rfl,.inr ⟨ws,I⟩⟩,a,ws,rfl,rfl,I,λvv M=>?_⟩;have x9:a≠vv:=λz=>by rw[z]at I;rw[I]at M;cases M
 have b9:upd G vv (.ext λh=>h.IsItemsView vv a) a=some (.dT ws):=by rw[Aq x9];exact I
 refine⟨a,ws,vv,rfl,Bi,b9,λod=>?_⟩;have F:Kp G (upd (upd G vv<|.ext λh=>h.IsItemsView vv a) a<|.frz od<|.dT ws):=(Kp.new M _).trans<|Kp.put b9 trivial _;have c2:Cn X.K (Ca W a) (upd (upd G vv<|.ext λh=>h.IsItemsView vv a) a<|.frz od<|.dT ws):=λb m' e=>by
  have jx:b≠a:=λz=>by rw[z]at e;unfold Ca at e;rw[T_ rfl]at e;cases e
  rw[A7 jx]at e;obtain⟨o',e',r'⟩:=c1 b m' e;exact⟨o',by rw[Aq jx,Aq<|Bv e' M];exact e',r'.kp F⟩
 have Y:upd (upd G vv<|.ext λh=>h.IsItemsView vv a) a (.frz od<|.dT ws) a=some (.frz od<|.dT ws):=Bi;have lp:=rk.kp F;generalize upd (upd G vv<|.ext λh=>h.IsItemsView vv a) a (.frz od<|.dT ws)=H2 at F c2 Y lp;have hl:=bF lp;refine Wh ws.length (λi p r=>∃ j c,Kp H2 r/\Dv X.K r j p/\Cn X.K c r/\MK g tb nk nr (n.drop i) j c) ⟨τ,_,Kp.refl,hs.kp<|Q.trans F,c2,hx⟩ ?_ ?_ ?_;rintro i p r hi ⟨j,c,C,O,q,h1⟩;exact⟨C.f _ _ _ Y,hi⟩;rintro p r ⟨j,c,C,O,q,h1⟩;rw[<- hl,d_]at h1;exact⟨⟨C.f _ _ _ Y,rfl⟩,hq.nx _ _ _ _ (Q.trans<|F.trans C) O q h1⟩;rintro i v' p r H'' hi ⟨j,c,C,O,q,h1⟩ ⟨T,b,k,y,hT,rfl,hw,ga,rfl⟩;have io:i<n.length:=by omega
 rw[bL io]at h1;obtain⟨q',e1,r1,r2⟩:=D1 lp<|J_ io;rw[hw]at e1;cases e1;have L:Kp r (upd r T<|.tup [.ref b,y]):=Kp.new hT _;refine⟨T,[.ref b,y],rfl,Il.of Bi,rfl,[.D<|.tuple<|n[i].1.map KA,n[i].2],j,c,_,.cons ?_<|.cons (r2.kp<|C.trans L) .nil,O.kp L,q.over hT,h1,λP Z σ3 H3 S5 dz hc3 h3=>⟨P,Z,_,_,_,_,dz,hc3,h3,?_⟩⟩;have U:n[i].1=k:=r1;rw[U];exact Gi (L.t _ _ ga)<|Qh _;have S:Kp H2 H3:=C.trans<|L.trans S5;have S0:Kp H H3:=Q.trans<|F.trans S;exact⟨λB l σ' H4 S' cp bm h'=>⟨B,l,S.trans S',cp,bm,h'⟩,hq.rt.kp S0,hq.nx.kp S0,λB l σ' H4 S' cp bm h'=>⟨B,l,S.trans S',cp,bm,h'⟩⟩;exact hx.elim;exact hx.elim
def Jx{g:AGs}{tb:AS}{k:ASt->M->Prop}{r:AV->M->Prop}{kvs:oA<|oA Key×AV}{τ:ASt}{b:M}(I:Nat->ASt->M->Prop)(h0:I 0 τ b)
  (step:∀i p τ b (W:ASt->M->Prop),kvs[i]?=some p->I i τ b->(∀ j c,I (i+1) j c->W j c)->g [.D<|.tuple<|p.1.map KA,p.2] τ b λq l=>tb W r k W q l)
  (done:∀ τ b,I kvs.length τ b->k τ b):MK g tb k r kvs τ b:=by
 have m:∀n i τ b,n+i=kvs.length->I i τ b->MK g tb k r (kvs.drop i) τ b:=by
  intro n
  induction n with
  |zero=>
   intro i τ b u t;have e:i=kvs.length:=by omega
   subst e;rw[d_];exact done τ b t
  |succ n x=>
   intro i τ b u t;have hi:i<kvs.length:=by omega
   rw[bL hi];exact step i _ τ b _ (J_ hi) t λj c h=>x (i+1) j c (by omega) h
 have:=m kvs.length 0 τ b (by omega) h0;rwa[gN]at this
def Qn(c:(d==sysModules)=false):MeetsIn prog w (Builtin.«dict.values» ⟨[.ref d],[]⟩) (λ_ R s=>(∃es ep,El s.heap d es ep)/\R (.ok<|.ret<|.ref s.heap.objs.size) {s with heap:=s.heap.push {cls:=.type "dict_values",data:=.fields #[.ref d]}}) :=
 .of_wp λA R s ⟨⟨_,_,b⟩,h⟩=>A_<|by
  unfold Builtin.Dict.noArgs;refine A_<|gJ b.ty<|show wpAny _ _ (pure d) _ _ s from C_<|show wpAny _ _ (Builtin.Dict.showsAll d>>=_) _ _ s from ?_;simp only[Builtin.Dict.showsAll,c,Bool.false_eq_true,ite_false];exact A_<|C_<|A_<|Z_<|C_ ⟨_,rfl,h⟩
def GJ:Builtin.Dict_items.ownsTuple "dict_valueiterator" = false:=by decide
def Qo{Q:lC->lD->Prop}(hv:s.heap.IsValuesView v d)(e:El s.heap d es ep)
  (q:Q (.ref s.heap.objs.size) {s with heap:=s.heap.push {cls:=.type "dict_valueiterator",data:=.fields #[.ref d,.int 0 0,.int es.size 0,.int ep 0]}}):qV prog w A (pyIter<|.ref v) Q E s:=by
 obtain⟨ov,h,_,g⟩:=id hv;obtain⟨od,b,_,c⟩:=id e;refine eD hv.typeIs F.slot_dict_values_iter<|aN F.slot_dict_values_iter hv.typeIs F.entry_dict_values_iter (A_<|C_<|A_<|A_<|cK h g (x:=.ref d) rfl<|C_<|A_<|A_<|dJ b c<|A_<|fB b c ?_)<|F.args_dict_values_iter_1 _
 simp only[GJ,Bool.false_eq_true,if_false];exact Z_<|C_ ⟨_,rfl,_,_,⟨_,I_ _ rfl,rfl⟩,F.slot_dict_valueiterator_next.lookup,by simpa [rawInt] using q⟩
def K8{Q:oB lC->lD->Prop}(t:A.handled=none)(c:s.heap.IsValIter it d i es.size ep)(y:El s.heap d es ep)
  (more:∀hi:i<es.size,∀h,h.IsValIter it d (i+1) es.size ep->Heap.SameBut it s.heap h->Q (some es[i].val) {s with heap:=h})
  (j:es.size<=i->∀h,Heap.ExtBut it s.heap h->Q none {s with heap:=h}):qV prog w A (pyNext<|.ref it) Q E s:=by
 obtain⟨B,n,u,l⟩:=id c;obtain⟨od,p,_,r⟩:=id y;unfold pyNext;refine A_<|dN<|aU (name:=Str.ofString "__next__") c.typeIs F.slot_dict_valueiterator_next<|aN F.slot_dict_valueiterator_next c.typeIs F.entry_dict_valueiterator_next
  (A_<|C_<|A_<|A_<|A_<|f_ c.typeIs<|C_<|A_<|dW n l ?_)  (F.args_dict_valueiterator_next_1 _)
 have x:(Value.ref d==Value.none)=false:=rfl;simp only[GJ,List.drop_zero,List.take_succ_cons,List.take_zero,x,Bool.false_eq_true,if_false];refine A_<|C_<|A_<|dJ p r ?_;rw[M_<|by simp];refine A_<|C_<|A_<|fB p r ?_;rw[M_<|by simp];refine C_ ?_;simp only[Int.not_lt.2<|Int.natCast_nonneg i,if_false,Int.toNat_natCast];by_cases hi:i<es.size;rw[aC hi];refine A_ (A_<|f_ c.typeIs<|C_<|A_<|iV c.typeIs<|show wpAny _ _ (setField (.ref it) 1 (rawInt<|(i:Int)+1)>>=_) _ _ s from A_<|eU n l (by simp) ?_);generalize e:s.heap.update it _=g;have q:g.IsValIter it d (i+1) es.size ep:=by rw[<- e];exact⟨_,aM _ n<|fK<|dF l _,(iL ..).trans u,(dF l _).trans<|by simp[rawInt]⟩
 have ty:=Heap.IsValIter.typeIs (s:={s with heap:=g}) q;exact A_<|bK<|A_<|iV ty<|A_<|iV ty<|show wpAny _ _ (pure es[i].val) _ _ _ from C_<|C_ ⟨_,rfl,C_<|more hi _ q<|e ▸ aV ..⟩;rw[cV<|iX.1 hi];refine A_ (A_<|f_ c.typeIs<|C_<|show wpAny _ _ (setField (.ref it) 0 .none>>=_) _ _ s from A_<|eU n l (by simp)<|show wpAny _ _ (newExc (.type "StopIteration") []>>=_) _ _ _ from A_ ?_);simp only[newExc,newTuple];refine A_ (Z_ (A_ (m:=firstArgMember _ _)<|eK (a:=Value.none) rfl<|Z_ ?_<|by size_fits)<|by size_fits);simp only[raiseNew];refine A_<|jD ?_;simp only[show A.in1.handled=A.handled from rfl,t];refine A_ <|C_ <|kF ?_;exact A_ <|dA (T := "StopIteration") (b:=true) ⟨_,I_ _ rfl,rfl⟩ gO (C_<|j (iX.1 hi) _<|((aV ..).extBut.push _).push _)
def Vit(d:lF)(od:lM)(ws:oA<|oA Key×V):It :=
 ⟨λi H=> H d = some (.frz od<|.dT ws) /\ i<ws.length,
  λi H v b=> ∃ k, ws[i]? = some (k, v) /\ b = H,
  λi H=> H d = some (.frz od<|.dT ws) /\ ws.length = i⟩
def Od{P:lH}{w:lI}{K:lG}{tg:lJ}(d it:lF)(od:lM)(ws:oA<|oA Key×V)(es:oC DictEntry)(ep:Nat)(u:od.data=.dict es ep)(hsz:es.size=ws.length) :
  Turn P w K tg (Vit d od ws) [it] it (λi h=>h.IsValIter it d i es.size ep) where
 mem:=by simp
 obj:=λi h st b hb=>by
  have e:b=it:=by simpa using hb
  subst e;obtain⟨o,g,_,B⟩:=st;exact⟨o,g,λv z=>by rw[B]at z;cases z⟩
 keep:=λi h t st k=>st.at λo e=>k it (by simp) o e
 item:=by
  intro X C m F hc i aa s σ H E I r st x;subst C m F;obtain⟨D,bq⟩:=x;obtain⟨g,z,B,p,j,o,O,y,h1,h2,n,G,h5⟩:=(show Bp X.prog X.w H s.heap d (.frz od<|.dT ws) from I.hok d _ D);rw[g]at h1;cases h1;rw[u]at n;cases n;have M:i<es.size:=by omega
  have hxl:=bF j;have hx:p[i]?=some p[i]:=J_ (by omega);have m:ws[i]?=some ws[i]:=J_ bq;obtain⟨x',L,r1,r2,S⟩:=D1 j m;rw[hx]at L;cases L;have U:es[i]=entryOfKey (tupleKind<|Bf X.prog X.w) p[i]:=by have J:=bO (λl=>l[i]?) G;simp only[Array.getElem?_toList,Array.getElem?_eq_getElem M,List.getElem?_map,hx,Option.map_some]at J;exact bA J
  refine K8 (I.ok.hd hc) st ⟨od,g,h2,u⟩ (λ_ t N Z=>?_) λz=>absurd M<|iX.2 z;obtain⟨f0,Y,f2,f3,f4,W⟩:=r it (by simp);have T:Inv X aa σ H {s with heap:=t}:=I.turned (t':=s.toks) (λb o hb e=>(Z.2 b hb).trans e) f0 Y f3 f4 W;obtain⟨o,e,c,dd⟩:=id N;refine⟨_,rfl,Mv (s:={s with heap:=t}) e c dd (by decide) ⟨ws[i].2,H,T,?_,⟨ws[i].1,m,rfl⟩,N,λb hb=>(r b hb).1⟩⟩;rw[U];exact S
 done:=by intro X C m F hc i aa s σ H E I r st x;subst C m F;obtain⟨D,rfl⟩:=x;obtain⟨g,z,B,p,j,o,O,y,h1,h2,n,G,h5⟩:=(show Bp X.prog X.w H s.heap d (.frz od<|.dT ws) from I.hok d _ D);rw[g]at h1;cases h1;rw[u]at n;cases n;rw[<- hsz]at st;exact K8 (I.ok.hd hc) st ⟨od,g,h2,u⟩ (λz=>absurd z<|cX _) λ_ t kk=>⟨rfl,I.turnedL (t':=s.toks) (fp:=[it]) (λb o hb e=>kk b o (λq=>hb<|by simp[q]) e) r⟩
 self:=λA i s Q E st h=>wpAny_pyIter_valiter st h
def Inv.notFrz{a:lF}{ws:oA<|oA Key×V}(I:Inv X aa σ H s)(e:H a=some (.dT ws)):∀o u,X.H₀ a≠some (.frz o u):=λo u z=>by have:=I.base.frzs a o u z;rw[e]at this;cases this
def Inv.thawT{a:lF}{od:lM}{ws:oA<|oA Key×V}(I:Inv X aa σ H s)(e:H a=some (.frz od<|.dT ws))(hn:∀o u,X.H₀ a≠some (.frz o u)):Inv X aa σ (upd H a<|.dT ws) s:=by
 have l:∀{b:lF},H b=none->b≠a:=λh z=>by rw[z,e]at h;cases h
 have m:∀{b:lF} {xs:oA V},H b=some (.tup xs)->b≠a:=λh z=>by rw[z,e]at h;cases h
 have D:∀{b y:lF},H b=some (.own y)->b≠a:=λh z=>by rw[z,e]at h;cases h
 refine⟨I.ok,I.os,I.bare,⟨I.base.keep,I.base.slot,λb o h1 h2 j=>?_,I.base.there,λb xs h=>?_,λb o u h=>?_,λb B h=>?_⟩,I.loc,I.cell,?_,λx c h=>?_,λp hp=>?_,λb u q=>?_,I.len⟩;have:=I.base.free b o h1 h2 j;rw[Aq<|l this];exact this;have:=I.base.tups b xs h;rw[Aq<|m this];exact this;have:=I.base.frzs b o u h;rw[Aq<|by rintro rfl;exact hn o u h];exact this;obtain⟨g,this⟩:=I.base.tbls b B h;exact⟨g,by rw[Aq λz=>by rw[z,e]at this;cases this];exact this⟩;rw[Aq<|l I.free];exact I.free;rw[Aq<|l<|I.freeC x c h];exact I.freeC x c h;obtain⟨h1,h2,j⟩:=I.pin p hp;exact⟨h1,by rw[Aq<|l h2];exact h2,j⟩;by_cases hb:b=a;subst hb;rw[Bi]at q;cases q;obtain⟨L,z,G,xs,n,o,es,ep,h1,h2,j,F,C⟩:=(show Bp X.prog X.w H s.heap b (.frz od<|.dT ws) from I.hok b _ e);exact⟨z,G,xs,KT.keeps (show KT H ws xs from n) λc J t=>by rw[Aq<|m t];exact t,o,es,ep,h1,h2,j,F,C⟩;rw[Aq hb]at q;exact(I.hok b u q).stay (λc v _ r=>r) (λc r=>by rw[Aq<|D r];exact r) λc xs r=>by rw[Aq<|m r];exact r
def Qp:FN X "dict.values" (λx t H Q=>∃a g,x=.ref a/\t=[]/\H a=some (.dT g)/\∀v,H v=none->Q (.ref v) (upd H v<|.ext λh=>h.IsValuesView v a)):=by intro aa s σ H x y v D Q I p r h;obtain⟨a,g,rfl,rfl,ha,q⟩:=h;cases p;have m:=Vals.zero r;subst m;obtain⟨hz,c,u,l,o,es,ep,h1,h2,n,C,_⟩:=My I.hok ha;have j:El s.heap a es ep:=⟨o,h1,h2,n⟩;refine iI PySem.F.slot_dict_values j.ty PySem.F.entry_dict_values (PySem.F.args_dict_values_1 _) (Qn c) ⟨⟨es,ep,j⟩,?_⟩;refine⟨.ref s.heap.objs.size,_,I.laid (t':=s.toks) (o:=.ext λh=>h.IsValuesView s.heap.objs.size a) (λb B q=>DD _ q) (F_ _) ?_,rfl,q _<|I.hok.fresh<|F_ _⟩;exact⟨⟨_,I_ _ rfl,rfl,rfl⟩,⟨_,I_ _ rfl⟩,by rintro h1 h2 ⟨o,e,r⟩ k;exact ⟨o,k o e,r⟩⟩
def PR:V->oA V->Hp->VK->Prop:=λx c H Q=>∃a b,x=.ref a/\c=[]/\H a=some (.dT b)/\∀v,H v=none->Q (.ref v) (upd H v<|.ext λh=>h.IsValuesView v a)
def iVa(X:Cx)(td:TE):TI:=λσ H R=>IG X.K "dict" PR td σ H λv b=>∃a ws vv,v=.ref vv/\b vv=some (.ext λh=>h.IsValuesView vv a)/\b a=some (.dT ws)/\∀od,(∀o u,X.H₀ a≠some (.frz o u))->R (Vit a od ws) (upd b a<|.frz od<|.dT ws)
def Uu{td:TE}(y:PE X o td)(D:attributeBase o "values" X.env (eval o X.env)=eval o X.env:=by rfl) (G:(au.endLine==ak.line)=true:=by rfl) :
  PI X tg (.Call (.Attribute o "values" au) [] [] ak) (iVa X td):=by
 intro aa s σ H R I h;refine thn (Ll (T := "dict") (r:=PR) fW PySem.F.slot_dict_values PySem.F.type_dict_values Qp y D G aa s σ H _ I h) λv c J=>?_;obtain⟨x,m,j,B,a,ws,vv,rfl,hv,ha,q⟩:=J;cases B;obtain⟨g,_,_⟩:=(show Bp X.prog X.w m c.heap vv (.ext λh=>h.IsValuesView vv a) from j.hok vv _ hv);obtain⟨hz,t,M,n,od,es,ep,h1,h2,u,L,O⟩:=(show Bp X.prog X.w m c.heap a (.dT ws) from j.hok a _ ha);refine Qo g ⟨od,h1,h2,u⟩ ?_;have p:es.size=ws.length:=by have e:=bO List.length L;rw[B_]at e;rw[bF n,<- e];simp
 have C:=j.kept (t':=c.toks) (h':=c.heap.push {cls:=.type "dict_valueiterator",data:=.fields #[.ref a,.int 0 0,.int es.size 0,.int ep 0]}) λb N e=>DD _ e;have l:=j.hok.fresh<|F_ c.heap.objs.size;have f:=j.fpOk (F_ _) l;refine⟨c.heap.objs.size,[c.heap.objs.size],_,_,upd m a<|.frz od<|.dT ws,rfl,C.freezeT ha<|DD _ h1,Od a _ od ws es ep u p,⟨_,I_ _ rfl,rfl,rfl⟩,λb hb=>?_,q od<|j.notFrz ha⟩;have e:b=c.heap.objs.size:=by simpa using hb
 subst e;exact⟨by rw[Aq λz=>by rw[z]at l;rw[ha]at l;cases l];exact f.1,f.2⟩
def XJ(e:H a=some (.frz od<|.dT ws)){b:lF}{xs:oA V}(h:H b=some (.tup xs)):upd H a (.dT ws) b=some (.tup xs):=by rw[Aq λz=>by rw[z,e]at h;cases h];exact h
def KG(e:H a=some (.frz od<|.dT ws)){b:lF}{o:lM}{u:HO}(hu:∀w,u≠.dT w)(h:H b=some (.frz o u)):upd H a (.dT ws) b=some (.frz o u):=by rw[Aq λz=>by rw[z,e]at h;injection h with h;injection h with _ h;exact hu _ h.symm];exact h
def Vk.th(e:H a=some (.frz od<|.dT ws)){b:lF}{xs:oA V}(h:Vk K H b xs):Vk K (upd H a<|.dT ws) b xs:=by rcases h with⟨o,h⟩|h;exact .inl ⟨o,KG e (λ_ z=>nomatch z) h⟩;exact .inr h
def Ts.th(e:H a=some (.frz od<|.dT ws)){b:lF}{ds:oA lE}{xs:oA V}(h:Ts K H b ds xs):Ts K (upd H a<|.dT ws) b ds xs:=by rcases h with h|h;exact .inl<|XJ e h;exact .inr h
mutual
theorem Dk.th(e:H a=some (.frz od<|.dT ws)):∀(d:lE) (x:V),Dk K H d x->Dk K (upd H a<|.dT ws) d x
 |.none,x,h=>by simp only[Dk]at h ⊢;exact h
 |.bool b,x,h=>by simp only[Dk]at h ⊢;exact h
 |.int i,x,h=>by simp only[Dk]at h ⊢;exact h
 |.str z,x,h=>by simp only[Dk]at h ⊢;exact h
 |.list g,x,h=>by simp only[Dk]at h ⊢;obtain⟨a,c,j,q,r⟩:=h;exact⟨a,c,j,q.th e,An.th e g c r⟩
 |.tuple g,x,h=>by simp only[Dk]at h ⊢;obtain⟨a,c,j,q,r⟩:=h;exact⟨a,c,j,q.th e,An.th e g c r⟩
 |.dict _,x,h=>by simp only[Dk]at h
theorem An.th(e:H a=some (.frz od<|.dT ws)):∀(ds:oA lE) (xs:oA V),An K H ds xs->An K (upd H a<|.dT ws) ds xs
 |[],xs,h=>by simp only[An]at h ⊢;exact h
 |d::ds,xs,h=>by simp only[An]at h ⊢;obtain⟨x,r,b,h1,h2⟩:=h;exact⟨x,r,b,Dk.th e d x h1,An.th e ds r h2⟩
end
theorem XFs.th(e:H a=some (.frz od<|.dT ws)){d:oB lF}{c:oA<|Str×lE}(h:XFs K H d c):XFs K (upd H a<|.dT ws) d c:=by
 cases d with
 |none=>exact h
 |some d=>obtain⟨od,b,q,r⟩:=h;exact⟨od,b,KG e (λ_ z=>nomatch z) q,Paired.mapP r λp q r=>⟨r.1,Dk.th e _ _ r.2⟩⟩
theorem RelA.th(e:H a=some (.frz od<|.dT ws)):∀{x:AV} {v:V},RelA K H x v->RelA K (upd H a<|.dT ws) x v
 |.D d,v,h=>Dk.th e d v h
 |.R a,_,h=>h
 |.C j,v,⟨b,g,c,q,r⟩=>⟨b,g,c,q,An.th e j g r⟩
 |.X C l,v,⟨b,o,d,c,q,r⟩=>⟨b,o,d,c,KG e (λ_ z=>nomatch z) q,r.th e⟩
theorem Ii.th(e:H a=some (.frz od<|.dT ws)){m:MO}{o:HO}(h:Ii K H m o):Ii K (upd H a<|.dT ws) m o:=by
 cases m with
 |lst j=>obtain⟨b,g,r⟩:=h;exact⟨b,g,Paired.mapP r λ_ _ q=>q.th e⟩
 |dk j=>obtain⟨b,g,r⟩:=h;exact⟨b,g,Paired.mapP r λ_ _ q=>⟨q.1,q.2.th e⟩⟩
 |dt j=>obtain⟨b,g,r⟩:=h;exact⟨b,g,Paired.mapP r λ_ _ q=>⟨q.1,q.2.th e⟩⟩
 |dd j=>obtain⟨b,g,r⟩:=h;exact⟨b,g,Paired.mapP r<|by rintro _ _ ⟨x,y,c,v,r,q⟩;exact ⟨x,y,Dk.th e _ _ c,v,r.th e,q⟩⟩
def PU(X:Cx)(t:TE):TE:=λσ H Q=>t σ H λv b=>∃a od ws,b a=some (.frz od<|.dT ws)/\(∀o u,X.H₀ a≠some (.frz o u))/\Q v (upd b a<|.dT ws)
def DX{e:lJ}{t:TE}(h:PE X e t):PE X e (PU X t):=by intro aa s σ H Q I hq;refine thn (h aa s σ H _ I hq) λv m c=>?_;obtain⟨x,g,l,j,a,od,ws,e,b,q⟩:=c;exact⟨x,upd g a<|.dT ws,l.thawT e b,j,q⟩
def KH(mp:oA<|oB Nat)(td:AE)(g:AG)(tst:AT)(te:AE):AE:=λh j R=>td h j λx b=>match x with
 |.R a=>opt (b a) λm=>match m with
  |.dt c=>∀p,b p=none->cl p g tst te (λ_=>True) (λe=>R (.R p)<|Al e a<|.dt c) (c.map (·.2)) [] (IU mp h) (Al (Ca b a) p<|.lst [])
  |_=>False
 |_=>False
def Oe{td:AE}{g:AG}{tst:AT}{te:AE}(hc:X.calm=true)(hd:VE X o td)(hg:∀C s H l,VG (Be X N' scope C s H l) tg g)(ht:∀C s H l,VIfs (Be X N' scope C s H l) cf tst)(he:∀C s H l,VE (Be X N' scope C s H l) cz te)
  (ok:CompOkC X.N X.env.scope.names scope.names N' mp) (hk:scope.kind=.function:=by rfl) (hs:∀x,foldedSetIterable (.Call (.Attribute o "values" au) [] [] ak) X.env x=pure x:=by intro _;rfl)
  (a7:attributeBase o "values" X.env (eval o X.env)=eval o X.env:=by rfl) (az:(au.endLine==ak.line)=true:=by rfl) :
  VE X (.ListComp cz [⟨tg,.Call (.Attribute o "values" au) [] [] ak,cf,0⟩] scope pos) (KH mp td g tst te) :=
 (DX<|Oc (g:=cG X.K g) (tst:=cT X.K tst) (te:=cE X.K te) hc (Uu hd a7 az) (λC s H l=>hg C s H l) (λC s H l=>ht C s H l) (λC s H l=>he C s H l) ok hk hs).imp λσ H Q zz=>B1 zz λτ μ R bd hcn h hq=>by
 refine⟨τ,μ,_,bd,hcn,h,λx Y v J S1 c1 rx hx=>?_⟩;split at hx;rename_i a;obtain⟨m,em,hx⟩:=Ay hx;split at hx;rename_i n;obtain⟨ob,L,ws,rfl,rk⟩:=c1 _ _ em;cases (show v=.ref a from rx);refine⟨.inr<|.inr<|.inl ⟨rfl,.inr ⟨ws,L⟩⟩,a,ws,rfl,rfl,L,λvv jz=>?_⟩;have x9:a≠vv:=λz=>by rw[z]at L;rw[L]at jz;cases jz
 have b9:upd J vv (.ext λh=>h.IsValuesView vv a) a=some (.dT ws):=by rw[Aq x9];exact L
 refine⟨a,ws,vv,rfl,Bi,b9,λod hnf=>?_⟩;have O:Kp J (upd (upd J vv<|.ext λh=>h.IsValuesView vv a) a<|.frz od<|.dT ws):=(Kp.new jz _).trans<|Kp.put b9 trivial _;have c2:Cn X.K (Ca Y a) (upd (upd J vv<|.ext λh=>h.IsValuesView vv a) a<|.frz od<|.dT ws):=λb m' e=>by
  have M:b≠a:=λz=>by rw[z]at e;unfold Ca at e;rw[T_ rfl]at e;cases e
  rw[A7 M]at e;obtain⟨o',e',r'⟩:=c1 b m' e;exact⟨o',by rw[Aq M,Aq<|Bv e' jz];exact e',r'.kp O⟩
 have gl:upd (upd J vv<|.ext λh=>h.IsValuesView vv a) a (.frz od<|.dT ws) a=some (.frz od<|.dT ws):=Bi;have lp:=rk.kp O;have W:∀b,upd (upd J vv<|.ext λh=>h.IsValuesView vv a) a (.frz od<|.dT ws) b=none->J b=none:=λb e=>by by_cases h1:b=a;rw[h1,Bi]at e;cases e;rw[Aq h1]at e;by_cases h2:b=vv;rw[h2,Bi]at e;cases e;rw[Aq h2]at e;exact e
 generalize upd (upd J vv<|.ext λh=>h.IsValuesView vv a) a (.frz od<|.dT ws)=H2 at O c2 gl lp W;have hl:=bF lp;intro p hp;have hx:=hx p<|c1.none<|W p hp;have v9:Cn X.K (Al (Ca Y a) p<|.lst []) (upd H2 p<|.lst []):=c2.new hp<|C2 .nil;have T:Kp H2 (upd H2 p<|.lst []):=Kp.new hp _;have jr:(n.map (·.2)).length=ws.length:=by rw[B_];exact hl
 refine Rf ws.length (λi B F y=>∃ j c as,Kp H2 y/\Dv X.K y j F/\Cn X.K c y/\Aw X.K y as B/\cl p g tst te (λ_=>True) (λμ2=>R (.R p)<|Al μ2 a<|.dt n) ((n.map λq:oA Key×AV=>q.2).drop i) as j c) ⟨_,_,[],T,(((bd.kp S1).kp O).kp T).sub mp,v9,.nil,hx⟩ ?_ ?_ ?_;rintro i B F y hi ⟨j,c,as,G,bo,I,ra,h1⟩;exact⟨G.f _ _ _ gl,hi⟩;rintro B F y ⟨j,c,as,G,bo,I,ra,h1⟩;rw[<- jr,d_]at h1;have jt:=G.f _ _ _ gl;refine⟨⟨jt,rfl⟩,a,od,ws,jt,hnf,?_⟩;have K1:∀b P,y b=some (.tup P)->upd y a (.dT ws) b=some (.tup P):=λb P e=>by rw[Aq λz=>by rw[z,jt]at e;cases e];exact e
 have K2:Kp J (upd y a<|.dT ws):=⟨λb P e=>K1 b P<|G.t _ _<|O.t _ _ e,λb o' u e=>by
  rw[Aq λz=>by rw[z,L]at e;cases e];exact G.f _ _ _<|O.f _ _ _ e⟩
 refine hq _ _ _ _ (S1.trans K2) (λb m' e=>?_) Du h1.2;by_cases M:b=a;subst M;rw[Ab]at e;cases e;exact⟨_,Bi,ws,rfl,rk.kp K2⟩;rw[Ae M]at e;obtain⟨o',e',r'⟩:=I b m' e;exact⟨o',by rw[Aq M];exact e',r'.th jt⟩;rintro i v' B F y H'' hi ⟨j,c,as,G,bo,I,ra,h1⟩ ⟨k,hw,rfl⟩;have io:i<(n.map (·.2)).length:=by omega
 rw[bL io]at h1;obtain⟨_,h1⟩:=h1;have ze:i<n.length:=by rw[B_]at io;exact io
 obtain⟨q',e1,r1,r2⟩:=D1 lp<|J_ ze;rw[hw]at e1;cases e1;rw[List.getElem_map]at h1;refine⟨_,j,c,_,r2.kp G,bo,I,h1,λD μ3 σ3 H3 S4 dz hc3 h3=>⟨D,μ3,_,dz,hc3,h3,λk U H4 Z c4 h4=>?_⟩⟩;rcases br_e h4 with⟨rfl,ko⟩|⟨rfl,ko⟩;rw[T_ rfl];refine⟨D,U,_,dz.kp Z,c4,ko,λw μ5 u H5 S6 c5 rw h5=>?_⟩;obtain⟨e5,kb,h5⟩:=h5;obtain⟨o5,r,vs,rfl,rs⟩:=c5 _ _ e5;have S:Kp H'' H5:=S4.trans<|Z.trans S6;exact⟨vs,r,by rw[<- rs.length];exact kb,D,_,_,(G.trans S).trans<|Kp.put r trivial _,(dz.kp<|Z.trans S6).kp<|Kp.put r trivial _,c5.put r trivial (C2<|rs.append<|.cons rw .nil),(rs.append<|.cons rw .nil).kp<|Kp.put r trivial _,h5⟩;rw[M_ S_];have S:Kp H'' H4:=S4.trans Z;exact⟨D,U,as,G.trans S,dz.kp Z,c4,ra.kp S,ko⟩;exact hx.elim;exact hx.elim
end
section
variable {prog:lH}{w:lI}{A:lK}{R:lT->lD->Prop}{I S:lF}{fp wr:oA lF}{n:Nat}{P:Nat->lC->Prop}{St:Nat->lL->Prop}{h0:lL}{φ:Prop}{f:lC->Int}{X:Cx}{k:Nat}
def Hb(h0 h:lL):Prop:=∀b o,h0.get? b=some o->h.get? b=some o
def Yp(W:Walks prog w A.in1 I fp wr n P St)(N:S∉fp)(M:h0.objs.size<=S)(hw:∀b∈wr,h0.objs.size<=b)(hc:∀i j u v (s:lD),P i u->P j v->Hb h0 s.heap->∃r,Xh A.in1 s u v r/\(φ->r=decide (f u<f v)))(Z:∀i u v,P i u->P i v->u=v) :
  ∀(k j:Nat) (s:lD) (d:oB lC) (c:Nat),j+k=n->(d=none->0<k/\j=0)->(∀v,d=some v->(∃i,P i v)/\(φ->∀i<j,∀u,P i u->f v<=f u))->St j s.heap->Hb h0 s.heap ->
  s.heap.get? S=some {cls:=.type "list",data:=.seq (d.elim #[] λv=>#[v,v]) c} ->
  (∀i v m B,P i v->(φ->∀i<n,∀u,P i u->f v<=f u)->Hb h0 m->R (.ok<|.ret v) {s with heap:=m,toks:=B}) ->
  codeAny (model prog w) A (.builtin "min.loop" ⟨[.ref I,.none,.ref S],[]⟩) R s:=by
 have U:∀{b o},h0.get? b=some o->b∉wr:=λe z=>absurd (O_ e)<|iX.2<|hw _ z;have nS:∀{b o},h0.get? b=some o->S≠b:=λe z=>absurd (O_ e)<|iX.2<|z ▸ M;have V:S∉wr:=λz=>N<|W.sub _ z;have H:∀{h:lL} (f:lM->lM),Hb h0 h->Hb h0 (h.update S f):=λf q b o e=>(cQ _ _<|nS e).trans<|q b o e;have J:(toString "min" ++ toString ".loop" : String) = "min.loop" := by decide
 have hz:∀d:oB lC,(d.elim #[] λv=>#[v,v]).size<=sizeLine:=λd=>by cases d<;>exact(by decide:2<=sizeLine) |> K_ (by first|exact aJ _|exact F_ _)
 intro k
 induction k with
 |zero=>
  intro j s d c hj h1 h2 st g t q;obtain⟨l,rfl⟩:∃l,d=some l:=by
   cases d with
   |none=>exact absurd (h1 rfl).1 (cX _)
   |some v=>exact⟨v,rfl⟩
  obtain⟨⟨i,hi⟩,G⟩:=h2 _ rfl;rw[show j=n from hj]at G;refine dH F.entry_min_loop ?_;rw[bX F.plain_min_loop _];refine(show wpAny _ A.in1 (seqItems? (.ref S)>>=_) _ _ s from A_<|eB t rfl<|show wpAny _ A.in1 (tryCatch (pyNext<|.ref I) _>>=_) _ _ s from A_<|wpAny_tryCatch<|W.done s _ _ (by rw[<- hj];exact st) λm B C=>?_);exact(show wpAny _ A.in1 (updateSeq S (λ_=>#[])>>=_) _ _ _ from A_<|eI (C S _ V t) rfl (hz:=hz _)<|A_<|iE<|C_<|q i l _ B hi G<|H _ λb o e=>C b o (U e)<|g b o e)
 |succ k L=>
  intro j s d c hj h1 h2 st g t q;refine dH F.entry_min_loop ?_;rw[bX F.plain_min_loop _];refine(show wpAny _ A.in1 (seqItems? (.ref S)>>=_) _ _ s from A_<|eB t rfl<|show wpAny _ A.in1 (tryCatch (pyNext<|.ref I) _>>=_) _ _ s from A_<|wpAny_tryCatch<|W.item j s _ _ (by omega) st λv m B p Q C=>?_);have D:=C S _ V t;have E:Hb h0 m:=λb o e=>C b o (U e)<|g b o e;have O:∀f,St (j+1) (m.update S f):=λf=>W.frame _ _ _ Q λb hb o e=>(cQ _ _ λz:S=b=>N<|z ▸ hb).trans e;cases d with
  |none=>
   refine(show wpAny _ A.in1 (updateSeq S (λ_=>#[v,v])>>=_) _ _ _ from A_<|eI D rfl (hz:=hz _) ?_);rw[J];have h5:∀u,some v=some u->(∃i,P i u)/\(φ->∀i<j+1,∀x,P i x->f u<=f x):=λu e=>by
    cases e;refine⟨⟨j,p⟩,λ_ i hi u hu=>?_⟩;obtain rfl:i=j:=by have:=(h1 rfl).2;omega
    rw[Z _ u _ hu p];exact jI _
   exact C_ ⟨dM F.plain_min_loop _,L (j+1) _ (some v) _ (by omega) (λz=>nomatch z) h5 (O _) (H _ E) (aM _ D rfl) q⟩
  |some l=>
   obtain⟨⟨i,hi⟩,G⟩:=h2 l rfl;have T:∀x y,P j y->(φ->f x<=f l)->(φ->f x<=f y)->φ->∀i<j+1,∀u,P i u->f x<=f u:=λx y hy a1 a2 a i hi u hu=>by rcases Nat.lt_succ_iff_lt_or_eq.mp hi with z|rfl;exact Int.le_trans (a1 a)<|G a i z u hu;rw[Z _ u _ hu hy];exact a2 a
   obtain⟨r,hr,Y⟩:=hc j i v l {s with heap:=m,toks:=B} p hi E;refine(show wpAny _ A.in1 (tryCatch (holding [v,v]<|richCompare .Lt v l>>=_) _>>=_) _ _ _ from A_<|wpAny_tryCatch<|bK<|A_<|hr prog w _ _ ?_);refine A_<|bK<|gK<|A_<|iE<|C_ ?_;cases r with
   |true=>simp only[if_true];refine A_<|eI D rfl (hz:=hz _)<|A_<|iE ?_;rw[J];exact C_ ⟨dM F.plain_min_loop _,L (j+1) _ (some v) _ (by omega) (λz=>nomatch z) (λu e=>by cases e;exact⟨⟨j,p⟩,T _ _ p (λa=>Int.le_of_lt<|aG (Y a).symm) λ_=>jI _⟩) (O _) (H _ E) (aM _ D rfl) q⟩
   |false=>simp only[Bool.false_eq_true,if_false];refine A_<|iE ?_;rw[J];exact C_ ⟨dM F.plain_min_loop _,L (j+1) _ (some l) _ (by omega) (λz=>nomatch z) (λu e=>by cases e;exact⟨⟨i,hi⟩,T _ _ p (λ_=>jI _) λa=>Int.not_lt.mp<|of_decide_eq_false (Y a).symm⟩) Q E D q⟩
def Yq{E:lC->lD->Prop}{s:lD}{p:lF}{c:oA lC}{Q:lC->lD->Prop}(D:A.handled=none)(t:s.heap.IsList p c.toArray)(hn:0<c.length)(hc:∀u∈c,∀v∈c,∀h:lD,Hb s.heap h.heap->∃r,Xh A.in1 h u v r/\(φ->r=decide (f u<f v)))
  (q:∀v∈c,(φ->∀u∈c,f v<=f u)->∀l m,Hb s.heap l->Q v {s with heap:=l,toks:=m}):qV prog w A (call (.builtin "min") [.ref p]) Q E s:=by
 have hp:p<s.heap.objs.size:=by obtain⟨_,B,_⟩:=t;exact O_ B
 have G:p≠s.heap.objs.size:=Y_ hp;refine call_function_tree F.kind_min F.plain_min F.entry_min (F.args_min1 _)<|show wpAny _ A.in1 (Builtin.Builtins.bindParams "min" ["key","default"] 0 ⟨[],[]⟩>>=_) _ _ s from A_<|eK (show _=pure [none,none] from rfl)<|A_<|C_<|A_<|gL t<|A_<|Z_ ?_;rw[show(toString "min" ++ toString ".loop" : String) = "min.loop" by decide];have d:∀{i:Nat} {v},c.toArray[i]?=some v->v∈c:=λ{i v} e=>W_ (i:=i) (by simpa using e);have x:Hb s.heap (s.heap.push {cls:=.type "list_iterator",data:=.fields #[.ref p,.int 0 0]}):=λb o e=>DD _ e;refine C_ ⟨dM F.plain_min_loop _,Yp (h0:=s.heap) (Walks.list (show A.in1.handled=none from D) s.heap.objs.size p G c.toArray) ?_ ?_ ?_ (λi j u v h hi hj g=>hc u (d hi) v (d hj) h g) (λi u v C y=>by rw[C]at y;exact bA y) c.toArray.size 0 _ none 0 (Nat.zero_add _) (λ_=>⟨by simpa using hn,rfl⟩) (λv e=>nomatch e) ?_ ?_ (I_ _ rfl) λi v l m J H g=>q v (d J) (λa u hu=>by obtain⟨k,hk,e⟩:=eF hu;exact H a k (by simpa using hk) u<|by rw[<- e];simp[hk]) l m g⟩;intro z;rw[dG]at z;rcases aB.mp z with z|z;exact absurd z<|Nat.succ_ne_self _;exact absurd (H_.mp z)<|fE<|dQ hp;rw[dG];exact eJ _;exact λb hb=>by rw[H_.mp hb];exact F_ _
 exact⟨⟨_,DD _<|I_ _ rfl,rfl,rfl⟩,t.at λo e=>DD _<|x _ _ e⟩
 exact λb o e=>DD _<|x b o e
def GK:AC:=λh c R=>match h with
 |[.R a]=>opt (c a) λm=>match m with
  |.lst g=>opt (dats g) λb=>(0<b.length/\∀d∈b,B9 d/\∀e∈b,cmpb d e=true)/\∀d∈b,((∀e∈b,∃j,e=.int j)->∀i j,d=.int i->.int j∈b->i<=j)->R (.D d) c
  |_=>False
 |_=>False
def Yr(hr:Room k X.A)(dg:X.calm=true):VCall X (.builtin "min") GK:=by
 intro aa s σ H xs us Q I r zq;refine B1 zq λas μ R ra hc h hq=>?_;unfold GK at h;split at h
 ·cases ra with
  |cons r1 r2=>
   cases r2;obtain⟨m,em,h⟩:=Ay h;split at h;obtain⟨p,ed,⟨Y,c⟩,h⟩:=Ay h;obtain⟨o,ho,W,rfl,rs⟩:=hc _ _ em;cases (show _=V.ref _ from r1);obtain⟨u,rfl,C⟩:=Eo r;cases C;obtain⟨z,G,pl,hz⟩:=I.list<|E4.of (K:=X.K) ho;have dk:=rs.dats ed;obtain⟨M,rd⟩:=An.reads I p W z dk G;have E:=Rr rd;have hu:=hr.un;refine Yq (φ:=∀e∈p,∃j,e=.int j) (f:=JQ) (I.ok.hd dg) pl.isList (by rw[E];exact Y) (λu B v hv L g=>?_) λv hv hm h' tk g=>?_;have one:∀{x},x∈z->∃d∈p,∃as,Reads L.heap x d as:=λ{x} hx=>by
    obtain⟨i,hi,rfl⟩:=eF hx;have b:i<p.length:=by rw[<- E];exact hi
    obtain⟨as,q⟩:=OZ (Hn g rd) b;rw[show z.getD i .none=z[i] by rw[dL,J_ hi];rfl]at q;exact⟨_,Xi b,as,q⟩
   obtain⟨d,b,as,O⟩:=one B;obtain⟨e,he,M,T⟩:=one hv;have h1:=(c d b).1;have h2:=(c e he).1;have:=h1.2;exact⟨_,Ji d e X.A.in1 L u v as M O T h1.1 h2.1 ((c d b).2 e he)<|by show X.A.units+1+_<_;omega,λa=>by
    obtain⟨i,rfl⟩:=a d b;obtain⟨j,rfl⟩:=a e he;cases O;cases T;show AM (.int i) (.int j)=decide (i<j);simp only[AM]⟩
   obtain⟨i,hi,rfl⟩:=eF hv;have b:i<p.length:=by rw[<- E];exact hi
   obtain⟨x,hx,F⟩:=dk.get<|J_ b;obtain⟨u,B,C⟩:=G.get hx;rw[J_ hi]at B;cases B;refine⟨x,H,I.kept (t':=tk) g,C,hq (.D p[i]) _ _ _ Kp.refl hc F<|h _ (fG b) λa i' j ei J=>?_⟩;obtain⟨l,hl,J⟩:=eF J;obtain⟨y,hy,N⟩:=dk.get<|J_ hl;obtain⟨v,hv',Z⟩:=G.get hy;rw[ei]at F;rw[J]at N;cases Dk.int F;cases Dk.int N;have U:=hm a v<|W_ hv';obtain⟨t,e⟩:=(show ∃t,z[i]=Value.int i' t from C);obtain⟨t',rfl⟩:=(show ∃t,v=Value.int j t from Z);rw[e]at U;exact U;exact h.elim
 exact h.elim
end
structure FunD(K:lG)(x qual:Str)(st:lN)(f:lF)(fd:lO)(T:lF):Prop where
 ex:∃(oc:lC) (od:oB lF) (kV bw pm:lC) (an:oB lF) (aq ct:lC) (fj:oC<|oB lC),
  fd=PySem.W.fnOf x qual (Dj st) (Cj st) (Ah st) (.ref T) kV bw pm an aq ct/\K.lookup f=some ⟨oc,od,.func fd,fj⟩/\PySem.W.codeIn K aq qual=true
section
variable {P:lH}{w:lI}{K:lG}{mg:Str->oB lC}{base:lL}{x qual:Str}{st:lN}{f T:lF}{fd:lO}{N ps:oA Str}{k:Nat}{sp:ASp}{prog:lH}{A:lK}{E:lC->lD->Prop}{s:lD}
def FunD.vok(F:FunD K x qual st f fd T)(S:FnScope N ps<|Ah st) (D:∀(e:lC) (A:lK) (outer:oA Env) (s:lD) (H:Hp) (E:XK),Room k (A.deeper<|envOfC qual (Ah st) s.heap.objs.size f e) ->
   ∃t,VSs (Lg Dx P w K mg base N qual (Ah st) f e A outer s H E).nox (Cj st) t/\∀a d R,a.length=ps.length->sp a d R->t (WS R) (WT R) MJ MJ (Fi N a) d):FnOk P w K mg base Dx (k+1) f fd ps (E8 K ps.length sp):=by
 obtain⟨O,U,kV,V,M,J,e,X,I,rfl,G,C⟩:=F.ex;refine FM G C S (λq H Q E h=>?_) λA outer s H q Q E n h=>?_;obtain⟨a,d,R,l,g,_⟩:=h;rw[<- g.length];exact l;obtain⟨a,d,R,l,g,hc,y,hq⟩:=h;obtain⟨t,B,h⟩:=D e A outer s H E n;refine⟨_,B.nox,Fi N a,d,_,_,_,_,Dv.begin g,hc,h a d R l y,⟨λW j L o i _ c z=>S9 z λp b r=>hq _ _ _ _ i (c.sub b) Jd r,λv j u o i c m z=>S9 z λp b r=>hq _ _ _ _ i (c.sub b) m r,λ_ _ _ _ _ _ _ h=>h.elim,λ_ _ _ _ _ _ _ h=>h.elim⟩⟩
def FunD.binds{d:Int}{tk:Tok}{n:Nat}{j:lC}{m:oB lF}{l:oC<|oB lC}(F:FunD K x qual st f fd T)(o:K.lookup T=some ⟨j,m,.seq #[.int d tk] n,l⟩)
  (h:∀(kV c g:lC) (b:oB lF) (e ct:lC) (a:oA lC),a.length+1=ps.length->∃k,bindArgs (PySem.W.fnOf x qual (Dj st) (Cj st) (Ah st) (.ref T) kV c g b e ct) ⟨a,[]⟩=seqItems? (.ref T)>>=k/\k (some #[.int d tk])=pure (ps.zip<|a++[.int d tk])):Binds K fd ps [.int d tk]:=by
 obtain⟨_,_,kV,c,g,b,e,ct,_,rfl,q,p⟩:=F.ex;intro s a X i;obtain⟨k,h1,h2⟩:=h kV c g b e ct a (by rw[P_]at i;exact i);exact .of_defaults rfl (X _ _ o) rfl h1 h2
def K9(P:lH)(w:lI)(K:lG)(mg:Str->oB lC)(base:lL)(k:Nat)(x:Str)(ps:oA Str)(d:Int)(sp:ASp):Prop :=
 ∃g a b,FnOk P w K mg base Dx k g a ps (E8 K ps.length sp)/\Binds K a ps [.int d b]/\PySem.W.keepIn K (.ref g)=true/\mg x=some (.ref g)
def K9.mono{d:Int}{n m:Nat}(c:K9 P w K mg base n x ps d sp)(h:n<=m):K9 P w K mg base m x ps d sp:=by obtain⟨g,a,b,G,r⟩:=c;exact⟨g,a,b,G.mono h,r⟩
def KI(sp:ASp)(d:Int)(t:AA):AE:=λe b R=>t e b λc a=>sp (c++[.D<|.int d]) a R
def Ys{X:Cx}{d:Int}{p a:Pos}{e:lJ}{es:oA lJ}{t:AA}(F:K9 X.prog X.w X.K X.mg X.base k x ps d sp)(j:Room k X.A)(l:Gl X x)(ha:VA X (e::es) t)(B:(e::es).length+1=ps.length:=by rfl)(hdb:(x==("__debug__" : Str))=false:=by decide)
  (y:starEach (e::es) X.env=(false,eval e X.env)::starEach es X.env:=by rfl) (hpl:(backTo a<|starEach es X.env).any (·.1)=false:=by rfl):VE X (.Call (.Name x p) (e::es) [] a) (KI sp d t):=by
 obtain⟨g,O,v,G,i,C,m⟩:=F;refine PE.imp (Q9 (dvs:=[.int d]) (E:=E0) G j l m C i (.cons ⟨v,rfl⟩ .nil) FR ha (hdb:=hdb) (he:=y) (hpl:=hpl)) λM H Q z=>B1 z λD r R q hc h hq=>?_;exact⟨D,r,_,q,hc,h,λI b J L o n u c hx=>⟨_,b,R,by rw[P_,c];exact B,u.append<|.cons Cs .nil,n,hx,hq.kp o⟩⟩
def DY{d:lF}{o:lM}{es:oC DictEntry}{ep:Nat}{n:Nat}{Q:lC->lD->Prop}(i:(d==sysModules)=false)(b:s.heap.get? d=some o)(hc:o.ExactDict)(g:o.data=.dict es ep)(hn:es.size=n)(j:(n:Int)<2^63)(h:∀t c,Q (.int n t) {s with toks:=c}):qV prog w A (call (.builtin "len") [.ref d]) Q E s:=by
 have ty:s.TypeIs (.ref d) "dict" := ⟨o,b,hc.1⟩;have mt:MeetsIn prog w (Builtin.«dict.__len__» ⟨[.ref d],[]⟩) (λ_ R a=>a.heap=s.heap/\R (.ok<|.ret<|.int n a.toks) {a with toks:=a.toks+1}):=.of_wp λA R a ⟨e,h⟩=>by show wpAny _ _ (dictSize d>>=_) _ _ a;unfold dictSize;exact A_<|A_<|dJ (by rw[e];exact b) g<|C_<|show wpAny _ _ (Builtin.Dict.pendingCount d>>=_) _ _ a from A_<|wpAny_pendingCount_other i<|wpAny_ret_mkInt<|by rw[Nat.add_zero,hn];exact h
 refine Calls.call_function_entry kind_len plain_len entry_len (args_len1 _) ?_;unfold Builtin.«len»;refine A_ (m:=oneArg "len" _)<|C_<|A_ (m:=callSpecial? (.ref d)<|Str.ofString "__len__")<|aU (name:=Str.ofString "__len__") ty F.slot_dict_len<|iI F.slot_dict_len ty F.entry_dict_len (F.args_dict_len_1 _) mt ⟨rfl,?_⟩;show wpAny _ _ _ _ _ {s with toks:=s.toks+1};refine A_<|bK<|C_<|A_<|iE<|show wpAny _ _ (if((n:Nat):Int)<0 then _ else _) _ _ _ from ?_;rw[M_<|by omega];refine(show wpAny _ _ (if((n:Nat):Int)>=2^63 then _ else _) _ _ _ from ?_);rw[M_<|by omega];exact A_<|wpAny_mkInt<|C_ ⟨_,rfl,h _ _⟩
end
def PV:AC:=λd c R=>match d with
 |[.R a]=>opt (c a) λm=>match m with
  |.dt b=>R (.D<|.int b.length) c
  |_=>False
 |_=>False
def KJ{X:Cx}:VCall X (.builtin "len") PV:=by
 intro E s M H i G Q I r b;refine B1 b λas J R f hc h hq=>?_;cases f with
 |nil=>exact False.elim h
 |@cons x v P d D q=>
  cases x with
  |R a=>
   cases q with
   |cons _ _=>exact False.elim h
   |nil=>
    obtain⟨m,k,h⟩:=Ay h;cases (show _=V.ref _ from D);obtain⟨o,j,B⟩:=hc _ _ k;cases m with
    |dt l=>
     obtain⟨c,rfl,n⟩:=B;obtain⟨u,rfl,C⟩:=Eo r;cases C;obtain⟨z,y,i,r,O,g,F,h1,h2,p,A,L⟩:=(show Bp X.prog X.w H s.heap a (.dT c) from I.hok a _ j);have e:g.size=c.length:=by rw[<- aR,A,B_,<- bF r]
     refine DY y h1 h2 p e (by rw[lA]at z;omega) λt N=>⟨.int c.length,H,I.tok _,⟨t,rfl⟩,hq _ _ _ _ Kp.refl hc ?_ h⟩;rw[bF n];exact Cs
    |_=>exact False.elim h
  |_=>exact False.elim h
section
variable(l:lF)(ae:oC lC)(n:Nat)(dd:oB lF)(sl:oC<|oB lC)(t:Tok)
end
end L2
namespace L2
open PySem PySem.W PyProof.Rows
noncomputable def cn(x:lP)(l:oA lP):Nat:=@List.count _ (@instBEqOfDecidableEq _ λa b=>Classical.propDecidable<|a=b) x l
def Qq{l m:oA lP}:l.Perm m↔∀x,cn x l=cn x m:=@List.perm_iff_count _ (@instBEqOfDecidableEq _ λa b=>Classical.propDecidable<|a=b) _ l m
def Em(x:lP)(l m:oA lP):cn x (l++m)=cn x l+cn x m:=@List.count_append _ (_) x l m
def Yt(x:lP)(l:oA lP):cn x l.reverse=cn x l:=Qq.mp (List.reverse_perm l) x
noncomputable def cx(x:lP)(a:oC lP)(i j:Nat):Nat:=cn x (a.extract i j).toList
def Fv(x:lP)(a:oC lP){i j k:Nat}(h1:i<=j)(h2:j<=k):cx x a i k=cx x a i j+cx x a j k:=by unfold cx;rw[<- Em,<- eG,Array.extract_append_extract,jM h1,Nat.max_eq_right h2]
def Jy(x:lP)(a:oC lP):cx x a 0 a.size=cn x a.toList:=by unfold cx;rw[Array.extract_size]
def PX{a:oC lP}{i:Nat}(h:i<a.size):a.extract i (i+1)=#[a[i]]:=by
 apply Array.ext;simp;omega;intro j h1 h2;have:j=0:=by simpa using h2
 subst this;simp
def ML(a b o:oC lP)(i i' j c:Nat):Prop:=∀x,cn x o.toList+cx x a i i'+cx x b j c=cn x a.toList+cn x b.toList
def Mg(a b R:oC lP):Prop:=∀x,cn x R.toList=cn x a.toList+cn x b.toList
section
variable {a b o:oC lP}{i i' j j' m:Nat}
def ML.sw(h:ML a b o i i' j j'):ML b a o j j' i i':=λx=>by have:=h x;omega
def ML.loA(h:ML a b o i i' j j')(h1:i<=m)(h2:m<=i'):ML a b (o++a.extract i m) m i' j j':=λx=>by have:=h x;have:=Fv x a h1 h2;rw[eG,Em];unfold cx at *;omega
def ML.hiA(h:ML a b o i i' j j')(h1:i<=m)(h2:m<=i'):ML a b (o++(a.extract m i').reverse) i m j j':=λx=>by have:=h x;have:=Fv x a h1 h2;rw[eG,Em,Array.toList_reverse,Yt];unfold cx at *;omega
def ML.loB(h:ML a b o i i' j j')(h1:j<=m)(h2:m<=j'):ML a b (o++b.extract j m) i i' m j':=(h.sw.loA h1 h2).sw
def ML.hiB(h:ML a b o i i' j j')(h1:j<=m)(h2:m<=j'):ML a b (o++(b.extract m j').reverse) i i' j m:=(h.sw.hiA h1 h2).sw
def ML.puA(h:ML a b o i i' j j')(h1:i<i')(h2:i<a.size):ML a b (o.push a[i]) (i+1) i' j j':=by have:=h.loA (eJ i) h1;rw[PX h2]at this;simpa using this
def ML.puB(h:ML a b o i i' j j')(h1:j<j')(h2:j<b.size):ML a b (o.push b[j]) i i' (j+1) j':=(h.sw.puA h1 h2).sw
def ML.poA(h:ML a b o i i' j j')(h1:i<i')(h2:i'-1<a.size):ML a b (o.push a[i'-1]) i (i'-1) j j':=by have:=h.hiA (m:=i'-1) (Nat.le_sub_one_of_lt h1)<|h_ _ _;rw[show a.extract (i'-1) i'=#[a[i'-1]] from by rw[<- PX h2];congr 1;omega]at this;simpa using this
def ML.poB(h:ML a b o i i' j j')(h1:j<j')(h2:j'-1<b.size):ML a b (o.push b[j'-1]) i i' j (j'-1):=(h.sw.poA h1 h2).sw
def ML.d1(h:ML a b o i i' j j'):Mg a b (o++a.extract i i'++b.extract j j'):=λx=>by have:=h x;rw[eG,eG,Em,Em];exact this
def ML.d2(h:ML a b o i i' j j'):Mg a b (o++b.extract j j'++a.extract i i'):=λx=>by rw[h.sw.d1 x];exact Nat.add_comm _ _
def ML.d3(h:ML a b o i i' j j'):Mg a b (a.extract i i'++b.extract j j'++o.reverse):=λx=>by have:=h x;rw[eG,eG,Em,Em,Array.toList_reverse,Yt];unfold cx at this;omega
def ML.d4(h:ML a b o i i' j j'):Mg a b (b.extract j j'++a.extract i i'++o.reverse):=λx=>by rw[h.sw.d3 x];exact Nat.add_comm _ _
end
def AOk(a:oA lC)(p:oC lP):Prop:=∀x∈p.toList,x.1∈a
def AOk.at{a:oA lC}{p:oC lP}{i:Nat}(h:AOk a p)(hi:i<p.size):p[i].1∈a:=h _<|by simp
def AOk.pm{a:oA lC}{p q:oC lP}(h:AOk a p)(k:q.toList.Perm p.toList):AOk a q:=λx hx=>h x<|k.mem_iff.mp hx
def AOk.ex{a:oA lC}{p:oC lP}{i j:Nat}(h:AOk a p):AOk a (p.extract i j):=λx hx=>h x<|by
 rw[jJ]at hx;exact fO<|eV<|by rwa[gT]at hx
section
variable {prog:lH}{w:lI}{A:lK}{E:lC->lD->Prop}{s:lD}{κ:lV}{vs:oA lC}
def Ez(prog:lH)(w:lI)(A:lK)(κ:lV)(vs:oA lC)(s:lD):Prop :=
 ∀u∈vs,∀v∈vs,∃c:Bool,∀C:Bool->lD->Prop,C c s->qV prog w A (keyLt' κ u v) C (λ_ _=>False) s
def Yu(hc:Ez prog w A κ vs s){st:lU}(hk:kindOf st=κ){x y:lP}(hx:x.1∈vs)(hy:y.1∈vs){Q:oB Bool->lU->Prop}(h:∀c,Q (some c) st):wpS (model prog w) A E s (lt' x y) Q st:=by obtain⟨c,hc⟩:=hc _ hx _ hy;rw[lt'_eq];refine U_<|iQ ?_;rw[hk];refine U_<|kW<|dN<|cD (hc (λb a=>a=s/\b=c) ⟨rfl,rfl⟩) (λc a e=>?_) λ_ _ d=>d.elim;obtain⟨rfl,rfl⟩:=e;exact⟨rfl,V_<|h _⟩
def Bx{st:lU}{p:oC lP}{i:Nat}(hi:i<p.size){Q:lP->lU->Prop}(h:Q p[i] st):wpS (model prog w) A E s (elem' p i) Q st:=by rw[elem'_eq,aC hi];exact V_ h
def KK{i:Type}{m n:Nat}{F:Nat->oB i×Nat×Nat->StateT lU Sem (ForInStep<|oB i×Nat×Nat)}{st:lU}
  (l:∀x lo hi (Q:ForInStep (oB i×Nat×Nat)->lU->Prop),lo<=hi->hi<=m->(lo=hi->Q (.done (none,lo,hi)) st)->(∀g d,g<=d->d<=m->d-g<hi-lo->Q (.yield (none,g,d)) st)->wpS (model prog w) A E s (F x (none,lo,hi)) Q st)
  {lo hi:Nat} (h1:lo<=hi) (h2:hi<=m) (j:hi-lo<=n) {Q:oB i×Nat×Nat->lU->Prop} (h:∀k,k<=m->Q (none,k,k) st):wpS (model prog w) A E s (forIn [0:n] ((none,lo,hi):oB i×Nat×Nat) F) Q st:=by
 refine fZ (gF (I:=λx c f=>f=st/\∃lo hi,c=(none,lo,hi)/\lo<=hi/\hi<=m/\hi-lo<=n-x) (Q:=λc f=>f=st/\∃k,c=(none,k,k)/\k<=m) ?_ ?_ ⟨rfl,lo,hi,rfl,h1,h2,j⟩) ?_;rintro x c f _ hx ⟨rfl,lo,hi,rfl,h1,h2,j⟩;exact l x lo hi _ h1 h2 (λe=>⟨rfl,lo,by rw[e],K_ h1 h2⟩) λg d a b c=>⟨rfl,g,d,rfl,a,b,by omega⟩;rintro c f ⟨rfl,lo,hi,rfl,h1,h2,j⟩;exact⟨rfl,lo,by rw[show hi=lo by omega],K_ h1 h2⟩;rintro c f ⟨rfl,k,rfl,hk⟩;exact h k hk
def Yv{left:Bool}{j:lP}{p:oC lP}{base m e:Nat}{st:lU}(n:e<m)
  (l:∀i Q,i<m->(∀c,Q (some c) st)->wpS (model prog w) A E s (byd left j p base i) Q st) {Q:oB Nat->lU->Prop} (h:∀k,k<=m->Q (some k) st):wpS (model prog w) A E s (gallop' left j p base m e) Q st:=by
 rw[Pq];dsimp only;refine U_<|l e _ n λq=>?_;dsimp only;cases q with
 |true=>rw[T_ rfl];refine U_<|fZ (gF (I:=λx c g=>g=st/\∃f d,c=(none,f,d)/\f<d/\f<m-e) (Q:=λc g=>g=st/\∃f d,c=(none,f,d)/\f<d/\f<m-e) ?_ (λ_ _ z=>z) ⟨rfl,0,1,rfl,jW _,Nat.sub_pos_of_lt n⟩) ?_;rintro x c g _ hx ⟨rfl,f,d,rfl,h1,h2⟩;dsimp only;by_cases c:d>=m-e;rw[T_ c];exact V_ ⟨rfl,f,d,rfl,h1,h2⟩;rw[M_ c];refine U_ (l _ _ (by omega) λc=>?_);cases c;exact V_ ⟨rfl,f,d,rfl,h1,h2⟩;exact V_ ⟨rfl,d,_,rfl,by omega,Nat.lt_of_not_le c⟩;rintro c g ⟨rfl,f,d,rfl,h1,h2⟩;dsimp only;refine U_ (KK (m:=m) (λx lo hi r a b o hy=>?_) (by omega) (by omega) (by omega) λk hk=>V_<|h k hk);dsimp only;by_cases c:lo>=hi;rw[T_ c];exact V_ (o<|by omega);rw[M_ c];refine U_ (l _ _ (by omega) λc=>?_);cases c;exact V_ (hy _ _ (bQ _ _) (by omega)<|by omega);exact V_ (hy _ _ (by omega) (b)<|by omega)
 |false=>rw[M_ S_];refine U_<|fZ (gF (I:=λx c g=>g=st/\∃f d,c=(none,f,d)/\f<d/\f<=e) (Q:=λc g=>g=st/\∃f d,c=(none,f,d)/\f<d/\f<=e) ?_ (λ_ _ z=>z) ⟨rfl,0,1,rfl,jW _,aJ _⟩) ?_;rintro x c g _ hx ⟨rfl,f,d,rfl,h1,h2⟩;dsimp only;by_cases c:d>=e+1;rw[T_ c];exact V_ ⟨rfl,f,d,rfl,h1,h2⟩;rw[M_ c];refine U_<|l _ _ (fI (h_ e d) n) λc=>?_;cases c;exact V_ ⟨rfl,d,_,rfl,by omega,by omega⟩;exact V_ ⟨rfl,f,d,rfl,h1,h2⟩;rintro c g ⟨rfl,f,d,rfl,h1,h2⟩;dsimp only;refine U_ (KK (m:=m) (λx lo hi r a b o hy=>?_) (by omega) (by omega) (by omega) λk hk=>V_<|h k hk);dsimp only;by_cases c:lo>=hi;rw[T_ c];exact V_ (o<|by omega);rw[M_ c];refine U_ (l _ _ (by omega) λc=>?_);cases c;exact V_ (hy _ _ (bQ _ _) (by omega)<|by omega);exact V_<|hy _ _ (by omega) (b)<|by omega
def MM{left:Bool}(hc:Ez prog w A κ vs s){st:lU}(hk:kindOf st=κ){p:oC lP}{b:lP}{base m a:Nat}(e:a<m)(hb:base+m<=p.size)(hp:AOk vs p)(d:b.1∈vs){Q:oB Nat->lU->Prop}(h:∀k,k<=m->Q (some k) st):wpS (model prog w) A E s (gallop' left b p base m a) Q st:=by refine Yv e (λi f hi q=>?_) h;unfold byd;refine U_ (Bx (by omega) ?_);cases left;exact U_<|Yu hc hk d (hp.at _) λc=>V_<|q _;exact Yu hc hk (hp.at _) d q
structure LMid(a b:oC lP)(q:Nat)(o:oC lP)(ia ib:Nat):Prop where
 m:ML a b o ia a.size ib b.size
 ha:ia+1<a.size
 hb:ib<b.size
 q:q<=ia+ib
structure RMid(a b:oC lP)(q:Nat)(o:oC lP)(na nb:Nat):Prop where
 m:ML a b o 0 na 0 nb
 h1:na<=a.size
 h2:nb<=b.size
 ha:0<na
 hb:1<nb
 q:na+nb+q<=a.size+b.size
section
variable {a b out:oC lP}{st:lU}{Qd Qy:OX->lU->Prop}{ia ib mg ac bc:Nat}
def PY(M:ML a b out ia a.size ib b.size)(ha:ia+1<a.size)(hb:ib<b.size)(d:∀R c,Mg a b R->c.1=some R->Qd c st)(h:∀o i j m x y,LMid a b (ia+ib+1) o i j->Qd (none,o,i,j,m,x,y) st/\Qy (none,o,i,j,m,x,y) st) :
  wpS (model prog w) A E s (CQ a b out ia ib mg ac bc) (λr f=>match r with|.done c'=>Qd c' f|.yield c'=>Qy c' f) st:=by
 unfold CQ;refine U_<|Bx (cW ha) ?_;have M1:=M.puA (cW ha)<|cW ha;by_cases e:ia+1+1=a.size;rw[T_<|by simpa using e];exact V_<|d _ _ M1.d2 rfl;rw[M_<|by simpa using e];have g:=h _ _ _ mg ac bc ⟨M1,by omega,hb,by omega⟩;split;exact V_ g.1;exact V_ g.2
def PZ(hc:Ez prog w A κ vs s)(hk:kindOf st=κ)(p:AOk vs a)(t:AOk vs b)(M:ML a b out ia a.size ib b.size)(ha:ia+1<a.size)(hb:ib<b.size)(d:∀R c,Mg a b R->c.1=some R->Qd c st)(u:∀o i j m x y,LMid a b (ia+ib+1) o i j->Qd (none,o,i,j,m,x,y) st/\Qy (none,o,i,j,m,x,y) st) :
  wpS (model prog w) A E s (CS a b out ia ib mg ac bc) (λr l=>match r with|.done c'=>Qd c' l|.yield c'=>Qy c' l) st:=by
 unfold CS;refine U_<|Bx hb ?_;have M1:=M.puB hb hb;have f:∀k,∀o i j m x y,LMid a b (ia+(ib+1+k)+1) o i j->Qd (none,o,i,j,m,x,y) st/\Qy (none,o,i,j,m,x,y) st:=λk o i j m x y h=>u o i j m x y ⟨h.m,h.ha,h.hb,by have:=h.q;omega⟩;by_cases e:ib+1=b.size;rw[T_<|by simpa using e];exact V_<|d _ _ M1.d1 rfl;rw[M_<|by simpa using e];refine U_ (Bx (cW ha)<|U_<|MM hc hk (by omega) (by omega) t (p.at _) λk v=>?_);dsimp only;by_cases g:k>0;rw[T_ g];have M2:=M1.loB (m:=ib+1+k) (bQ _ _) (by omega);by_cases n:ib+1+k=b.size;rw[T_<|by simpa using n];exact V_<|d _ _ M2.d1 rfl;rw[M_<|by simpa using n];exact PY M2 ha (by omega) d<|f k;rw[M_ g];exact PY M1 ha (by omega) d<|f 0
def XL(hc:Ez prog w A κ vs s)(hk:kindOf st=κ)(e:AOk vs a)(f:AOk vs b)(M:ML a b out ia a.size ib b.size)(ha:ia+1<a.size)(hb:ib<b.size)(d:∀R c,Mg a b R->c.1=some R->Qd c (Cu st mg))(n:∀o i j m x y,LMid a b (ia+ib+1) o i j->Qd (none,o,i,j,m,x,y) (Cu st mg)/\Qy (none,o,i,j,m,x,y) (Cu st mg)) :
  wpS (model prog w) A E s (JJ a b out ia ib mg ac bc) (λr p=>match r with|.done c'=>Qd c' p|.yield c'=>Qy c' p) st:=by
 unfold JJ;rw[Co];refine U_ (fC<|U_<|Bx hb<|U_<|MM hc (st:=Cu st mg) hk (by omega) (by omega) e (f.at _) λk u=>?_);dsimp only;by_cases g:k>0;rw[T_ g];have M1:=M.loA (m:=ia+k) (bQ _ _) (by omega);by_cases l:ia+k+1=a.size;rw[T_<|by simpa using l];exact V_<|d _ _ M1.d2 rfl;rw[M_<|by simpa using l];by_cases t:ia+k=a.size;rw[T_<|by simpa using t];exact V_<|d _ _ M1.d1 rfl;rw[M_<|by simpa using t];exact PZ hc (st:=Cu st mg) hk e f M1 (by omega) hb d λo i j m x y h=>n o i j m x y ⟨h.m,h.ha,h.hb,by have:=h.q;omega⟩;rw[M_ g];exact PZ hc (st:=Cu st mg) hk e f M ha hb d n
end
section
variable {a b out:oC lP}{st:lU}{Qd Qy:OY->lU->Prop}{na nb mg ac bc q:Nat}
def QA(M:RMid a b q out na nb)(d:∀R c,Mg a b R->c.1=some R->Qd c st)(k:∀o i j m x y,RMid a b (q+1) o i j->Qd (none,i,j,o,m,x,y) st/\Qy (none,i,j,o,m,x,y) st) :
  wpS (model prog w) A E s (CT a b out na nb mg ac bc) (λr h=>match r with|.done c'=>Qd c' h|.yield c'=>Qy c' h) st:=by
 obtain⟨M,h1,h2,ha,hb,hq⟩:=M;unfold CT;refine U_ (Bx (by omega) ?_);have M1:=M.poA ha (by omega);by_cases e:na-1=0;rw[T_<|by simpa using e];exact V_<|d _ _ M1.d3 rfl;rw[M_<|by simpa using e];have g:=k _ _ _ mg ac bc ⟨M1,K_ (h_ na 1) h1,h2,gD e,hb,by omega⟩;by_cases f:(decide (ac<7)&&decide (bc<7))=true;rw[T_ f];exact V_ g.1;rw[M_ f];exact V_ g.2
def QB(hc:Ez prog w A κ vs s)(hk:kindOf st=κ)(t:AOk vs a)(u:AOk vs b)(M:RMid a b q out na nb)(d:∀R c,Mg a b R->c.1=some R->Qd c st)(h:∀o i j m x y,RMid a b (q+1) o i j->Qd (none,i,j,o,m,x,y) st/\Qy (none,i,j,o,m,x,y) st) :
  wpS (model prog w) A E s (CU a b out na nb mg ac bc) (λr l=>match r with|.done c'=>Qd c' l|.yield c'=>Qy c' l) st:=by
 obtain⟨M,h1,h2,ha,hb,hq⟩:=M;unfold CU;refine U_ (Bx (by omega) ?_);have M1:=M.poB (cW hb) (by omega);by_cases e:nb-1=1;rw[T_<|by simpa using e];exact V_<|d _ _ M1.d4 rfl;rw[M_<|by simpa using e];refine U_ (Bx (by omega)<|U_<|MM hc hk (by omega) (by omega) u (t.at _) λk p=>?_);dsimp only;by_cases f:nb-1-k>0;rw[T_ f];have M2:=M1.hiB (m:=k) (aJ _) p;by_cases g:k=1;rw[T_<|by simpa using g];exact V_<|d _ _ M2.d4 rfl;rw[M_<|by simpa using g];by_cases n:k=0;rw[T_<|by simpa using n];exact V_<|d _ _ M2.d3 rfl;rw[M_<|by simpa using n];exact QA ⟨M2,h1,by omega,ha,by omega,by omega⟩ d h;rw[M_ f];exact QA ⟨M1,h1,K_ (h_ nb 1) h2,ha,by omega,by omega⟩ d h
def XM(hc:Ez prog w A κ vs s)(hk:kindOf st=κ)(e:AOk vs a)(f:AOk vs b)(M:RMid a b q out na nb)(d:∀R c,Mg a b R->c.1=some R->Qd c (Cu st mg))(n:∀o i j m x y,RMid a b (q+1) o i j->Qd (none,i,j,o,m,x,y) (Cu st mg)/\Qy (none,i,j,o,m,x,y) (Cu st mg)) :
  wpS (model prog w) A E s (JK a b out na nb mg ac bc) (λr p=>match r with|.done c'=>Qd c' p|.yield c'=>Qy c' p) st:=by
 obtain⟨M,h1,h2,ha,hb,hq⟩:=M;unfold JK;rw[Co];refine U_ (fC<|U_<|Bx (by omega)<|U_<|MM hc (st:=Cu st mg) hk (k_ ha<|by decide) (by omega) e (f.at _) λk h=>?_);dsimp only;by_cases l:na-k>0;rw[T_ l];have M1:=M.hiA (m:=k) (aJ _) h;by_cases g:k=0;rw[T_<|by simpa using g];exact V_<|d _ _ M1.d3 rfl;rw[M_<|by simpa using g];exact QB hc (st:=Cu st mg) hk e f ⟨M1,K_ h h1,h2,gD g,hb,by omega⟩ d n;rw[M_ l];exact QB hc (st:=Cu st mg) hk e f ⟨M,h1,h2,ha,hb,hq⟩ d n
end
def LMid.dn{a b o:oC lP}{q y i j:Nat}(M:LMid a b (q+(y+1)) o i j):LMid a b (q+1) o i j:=⟨M.m,M.ha,M.hb,K_ (by omega) M.q⟩
def RMid.dn{a b o:oC lP}{q y i j:Nat}(M:RMid a b (q+(y+1)) o i j):RMid a b (q+1) o i j:=⟨M.m,M.h1,M.h2,M.ha,M.hb,K_ (by omega) M.q⟩
def Hw{i e b j τ:Type}{P:oC lP->Prop}{L:Nat->i->e->b->Prop}{N n m g:Nat}{f:Nat->(oB (oC lP)×i×e×b×j)->StateT lU Sem (ForInStep<|oB (oC lP)×i×e×b×j)}{k:(oB (oC lP)×i×e×b×j)->StateT lU Sem τ}{Q:τ->lU->Prop}{st l:lU}{u:i}{v:e}{x:b}{r:j}(hs:l=Cu st g)(h0:L n u v x)
  (step:∀y u v x r g,L (n+y) u v x->wpS (model prog w) A E s (f y (none,u,v,x,r)) (λz a=>match z with
   |.done c=>(∃g,a=Cu st g)/\((∃R,c.1=some R/\P R)\/(c.1=none/\L m c.2.1 c.2.2.1 c.2.2.2.1))
   |.yield c=>(∃g,a=Cu st g)/\c.1=none/\L (n+(y+1)) c.2.1 c.2.2.1 c.2.2.2.1) (Cu st g))
  (d:∀u v x,L (n+N) u v x->L m u v x) (C:∀R c g,P R->wpS (model prog w) A E s (k (some R,c)) Q (Cu st g)) (o:∀u v x r g,L m u v x->wpS (model prog w) A E s (k (none,u,v,x,r)) Q (Cu st g)):wpS (model prog w) A E s (forIn [0:N] (none,u,v,x,r) f>>=k) Q l:=by
 refine U_<|fZ (gF (I:=λy c a=>(∃g,a=Cu st g)/\c.1=none/\L (n+y) c.2.1 c.2.2.1 c.2.2.2.1) (Q:=λc a=>(∃g,a=Cu st g)/\((∃R,c.1=some R/\P R)\/(c.1=none/\L m c.2.1 c.2.2.1 c.2.2.2.1))) ?_ ?_ ⟨⟨g,hs⟩,rfl,h0⟩) ?_;rintro y ⟨q,u,v,x,r⟩ a _ _ ⟨⟨g,rfl⟩,rfl,h⟩;refine fZ (step y u v x r g h) ?_;rintro(c|c) a hh<;>exact hh;rintro c a ⟨p,h1,h2⟩;rw[Nat.zero_max]at h2;exact⟨p,.inr ⟨h1,d _ _ _ h2⟩⟩;rintro⟨q,u,v,x,r⟩ a ⟨⟨g,rfl⟩,⟨R,rfl,t⟩|⟨rfl,B⟩⟩;exact C R _ g t;exact o u v x r g B
def Yw{a b o:oC lP}{q i j:Nat}{p:Prop}(M:LMid a b (q+(a.size+b.size)) o i j):p:=by have h1:=M.ha;have h2:=M.hb;have c:=M.q;omega
def Uv(hc:Ez prog w A κ vs s){a b:oC lP}{st:lU}(hk:kindOf st=κ)(G:AOk vs a)(D:AOk vs b)(J:0<a.size)(C:0<b.size){Q:oC lP->lU->Prop}(h:∀R g,Mg a b R->Q R (Cu st g)):wpS (model prog w) A E s (mergeLo' a b) Q st:=by
 have B:ML a b #[b[0]] 0 a.size 1 b.size:=ML.puB (o:=#[]) (j:=0) (λx=>by rw[Jy,Jy];show 0+_+_=_;omega) C C;rw[Nj];refine U_<|kW<|eC ⟨rfl,?_⟩;refine U_<|Bx C ?_;dsimp only;by_cases F:1=b.size;rw[T_<|by simpa using F];exact V_<|h _ (gallopOf st) B.d1;rw[M_<|by simpa using F];by_cases H:0+1=a.size;rw[T_<|by simpa using H];exact V_<|h _ (gallopOf st) B.d2;rw[M_<|by simpa using H];refine U_<|iQ ?_;refine Hw (P:=Mg a b) (L:=LMid a b) (n:=1) (m:=1+(a.size+b.size)) (g:=gallopOf st) rfl ⟨B,by show 0+1<_;omega,by show 1<_;omega,F_ _⟩ (λx o I N d g M=>?_) (λ_ _ _ M=>M) (λR c g k=>V_<|h R g k) λo i j r g M=>Yw M;dsimp only;refine Hw (P:=Mg a b) (L:=LMid a b) (n:=1+x) (m:=1+x+1) (g:=g) rfl M (λy o l p r g M=>?_) (λ_ _ _ M=>Yw M) (λR c g k=>V_ ⟨⟨g,rfl⟩,.inl ⟨R,rfl,k⟩⟩) λo l p r g M=>?_
 ·have ha:=M.ha;have hb:=M.hb;have hq:=M.q;have M:=M.m;dsimp only;refine U_<|Bx hb<|U_<|Bx (cW ha)<|U_<|Yu hc (st:=Cu st g) hk (D.at _) (G.at _) λc=>?_;dsimp only;cases c with
  |true=>rw[T_ rfl];refine U_<|Bx hb ?_;have M1:=M.puB hb hb;by_cases z:p+1=b.size;rw[T_<|by simpa using z];exact V_ ⟨⟨g,rfl⟩,.inl ⟨_,rfl,M1.d1⟩⟩;rw[M_<|by simpa using z];have h1:LMid a b (1+x+(y+1)) _ l (p+1):=⟨M1,ha,by omega,by omega⟩;by_cases t:r.2+1>=d<;>simp only[t,if_true,if_false];exact V_ ⟨⟨g,rfl⟩,.inr ⟨rfl,h1.dn⟩⟩;exact V_ ⟨⟨g,rfl⟩,rfl,h1⟩
  |false=>rw[M_ S_];refine U_<|Bx (cW ha) ?_;have M1:=M.puA (cW ha)<|cW ha;by_cases z:l+1+1=a.size;rw[T_<|by simpa using z];exact V_ ⟨⟨g,rfl⟩,.inl ⟨_,rfl,M1.d2⟩⟩;rw[M_<|by simpa using z];have h1:LMid a b (1+x+(y+1)) _ (l+1) p:=⟨M1,by omega,hb,by omega⟩;by_cases t:r.1+1>=d<;>simp only[t,if_true,if_false];exact V_ ⟨⟨g,rfl⟩,.inr ⟨rfl,h1.dn⟩⟩;exact V_ ⟨⟨g,rfl⟩,rfl,h1⟩
 dsimp only;refine U_<|kW<|eC ⟨rfl,?_⟩;refine Hw (P:=Mg a b) (L:=LMid a b) (n:=1+x+1) (m:=1+x+1) (g:=g) rfl M (λy o l p r g M=>?_) (λ_ _ _ M=>Yw M) (λR c g k=>V_ ⟨⟨g,rfl⟩,.inl ⟨R,rfl,k⟩⟩) λo l p r g M=>?_;dsimp only;have u:∀d,wpS (model prog w) A E s (JJ a b o l p d r.2.1 r.2.2) _ (Cu st g):=λd=>
  XL (Qd:=λc v=>(∃g,v=Cu st g)/\((∃R,c.1=some R/\Mg a b R)\/(c.1=none/\LMid a b (1+x+1) c.2.1 c.2.2.1 c.2.2.2.1))) (Qy:=λc v=>(∃g,v=Cu st g)/\c.1=none/\LMid a b (1+x+1+(y+1)) c.2.1 c.2.2.1 c.2.2.2.1) hc (st:=Cu st g) hk G D M.m M.ha M.hb (λR c k e=>⟨⟨d,rfl⟩,.inl ⟨R,e,k⟩⟩)
   λo i j m x y f=>⟨⟨⟨d,rfl⟩,.inr ⟨rfl,f.m,f.ha,f.hb,by have:=f.q;have:=M.q;show _<=i+j;omega⟩⟩,⟨d,rfl⟩,rfl,f.m,f.ha,f.hb,by have:=f.q;have:=M.q;show _<=i+j;omega⟩
 by_cases t:r.1>1;rw[T_ t];refine fZ (u<|r.1-1) ?_;rintro(c|c) v hh<;>exact hh;rw[M_ t];refine fZ (u r.1) ?_;rintro(c|c) v hh<;>exact hh;dsimp only;rw[Co];exact U_<|fC<|V_ ⟨⟨_,rfl⟩,rfl,M⟩
def Yx{a b o:oC lP}{q i j:Nat}{p:Prop}(M:RMid a b (q+(a.size+b.size)) o i j):p:=by have h1:=M.ha;have c:=M.q;omega
def Uw(hc:Ez prog w A κ vs s){a b:oC lP}{st:lU}(hk:kindOf st=κ)(H:AOk vs a)(F:AOk vs b)(B:0<a.size)(N:0<b.size){Q:oC lP->lU->Prop}(h:∀R g,Mg a b R->Q R (Cu st g)):wpS (model prog w) A E s (mergeHi' a b) Q st:=by
 have C:ML a b #[a[a.size-1]'(k_ B<|by decide)] 0 (a.size-1) 0 b.size:=ML.poA (o:=#[]) (i:=0) (i':=a.size) (λx=>by rw[Jy,Jy];show 0+_+_=_;omega) B (k_ B<|by decide);rw[Nk];refine U_<|kW<|eC ⟨rfl,?_⟩;refine U_ (Bx (k_ B<|by decide) ?_);dsimp only;by_cases D:a.size-1=0;rw[T_<|by simpa using D];exact V_<|h _ (gallopOf st) C.d3;rw[M_<|by simpa using D];by_cases G:b.size=1;rw[T_<|by simpa using G];exact V_<|h _ (gallopOf st) C.d4;rw[M_<|by simpa using G];refine U_<|iQ ?_;refine Hw (P:=Mg a b) (L:=λq i j o=>RMid a b q o i j) (n:=1) (m:=1+(a.size+b.size)) (g:=gallopOf st) rfl ⟨C,h_ _ _,F_ _,gD D,by show 1<b.size;omega,by show a.size-1+b.size+1<=_;omega⟩ (λx I J o k g M=>?_) (λ_ _ _ M=>M) (λR c g p=>V_<|h R g p) λi j o r g M=>Yx M;dsimp only;refine Hw (P:=Mg a b) (L:=λq i j o=>RMid a b q o i j) (n:=1+x) (m:=1+x+1) (g:=g) rfl M (λy f l o r g M=>?_) (λ_ _ _ M=>Yx M) (λR c g p=>V_ ⟨⟨g,rfl⟩,.inl ⟨R,rfl,p⟩⟩) λf l o r g M=>?_
 ·have h1:=M.h1;have h2:=M.h2;have ha:=M.ha;have hb:=M.hb;have hq:=M.q;have M:=M.m;dsimp only;refine U_ (Bx (by omega)<|U_<|Bx (by omega)<|U_<|Yu hc (st:=Cu st g) hk (F.at _) (H.at _) λc=>?_);dsimp only;cases c with
  |true=>rw[T_ rfl];refine U_ (Bx (by omega) ?_);have M1:=M.poA ha (by omega);by_cases u:f-1=0;rw[T_<|by simpa using u];exact V_ ⟨⟨g,rfl⟩,.inl ⟨_,rfl,M1.d3⟩⟩;rw[M_<|by simpa using u];have h1:RMid a b (1+x+(y+1)) _ (f-1) l:=⟨M1,K_ (h_ f 1) h1,h2,gD u,hb,by omega⟩;by_cases t:r.1+1>=k<;>simp only[t,if_true,if_false];exact V_ ⟨⟨g,rfl⟩,.inr ⟨rfl,h1.dn⟩⟩;exact V_ ⟨⟨g,rfl⟩,rfl,h1⟩
  |false=>rw[M_ S_];refine U_ (Bx (by omega) ?_);have M1:=M.poB (cW hb) (by omega);by_cases u:l-1=1;rw[T_<|by simpa using u];exact V_ ⟨⟨g,rfl⟩,.inl ⟨_,rfl,M1.d4⟩⟩;rw[M_<|by simpa using u];have h1:RMid a b (1+x+(y+1)) _ f (l-1):=⟨M1,h1,K_ (h_ l 1) h2,ha,by omega,by omega⟩;by_cases t:r.2+1>=k<;>simp only[t,if_true,if_false];exact V_ ⟨⟨g,rfl⟩,.inr ⟨rfl,h1.dn⟩⟩;exact V_ ⟨⟨g,rfl⟩,rfl,h1⟩
 dsimp only;refine U_<|kW<|eC ⟨rfl,?_⟩;refine Hw (P:=Mg a b) (L:=λq i j o=>RMid a b q o i j) (n:=1+x+1) (m:=1+x+1) (g:=g) rfl M (λy f l o r g M=>?_) (λ_ _ _ M=>Yx M) (λR c g p=>V_ ⟨⟨g,rfl⟩,.inl ⟨R,rfl,p⟩⟩) λf l o r g M=>?_;dsimp only;have v:∀k,wpS (model prog w) A E s (JK a b o f l k r.2.1 r.2.2) _ (Cu st g):=λk=>
  XM (Qd:=λc z=>(∃g,z=Cu st g)/\((∃R,c.1=some R/\Mg a b R)\/(c.1=none/\RMid a b (1+x+1) c.2.2.2.1 c.2.1 c.2.2.1))) (Qy:=λc z=>(∃g,z=Cu st g)/\c.1=none/\RMid a b (1+x+1+(y+1)) c.2.2.2.1 c.2.1 c.2.2.1) hc (st:=Cu st g) hk H F (q:=1+x+1+y) M (λR c p e=>⟨⟨k,rfl⟩,.inl ⟨R,e,p⟩⟩)
   λo i j m x y d=>⟨⟨⟨k,rfl⟩,.inr ⟨rfl,d.m,d.h1,d.h2,d.ha,d.hb,by have:=d.q;show i+j+_<=_;omega⟩⟩,⟨k,rfl⟩,rfl,d.m,d.h1,d.h2,d.ha,d.hb,by have:=d.q;show i+j+_<=_;omega⟩
 by_cases t:r.1>1;rw[T_ t];refine fZ (v<|r.1-1) ?_;rintro(c|c) z hh<;>exact hh;rw[M_ t];refine fZ (v r.1) ?_;rintro(c|c) z hh<;>exact hh;dsimp only;rw[Co];exact U_<|fC<|V_ ⟨⟨_,rfl⟩,rfl,M⟩
def SZq(κ:lV)(p:oC lP)(a:oC<|Nat×Nat×Nat)(g:Nat):lU:=SortSt.mk' κ p a g none
def KL{c:Type}(a:Nat)(R:oA c)(p:oC c)(h:a+R.length<=p.size):(wr a R 0 p).toList=p.toList.take a++R++p.toList.drop (a+R.length):=by
 apply gM;intro i;rw[X_,Xe a R 0 p h];simp only[Nat.add_zero];have b:(p.toList.take a).length=a:=by rw[bI,aR];omega
 by_cases h1:i<a;rw[M_<|by omega,eZ,dC<|by omega,List.getElem?_take_of_lt h1,X_];by_cases h2:i<a+R.length;rw[T_<|by omega,dC<|by rw[P_];omega,cH<|by omega,b];rw[M_<|by omega,cH<|by rw[P_];omega,P_,b,List.getElem?_drop,X_];congr 1;omega
def QC(x:lP)(a:Nat)(R:oA lP)(p:oC lP)(h:a+R.length<=p.size):cn x (wr a R 0 p).toList=cx x p 0 a+cn x R+cx x p (a+R.length) p.size:=by rw[KL a R p h,Em,Em];unfold cx;rw[jJ,jJ,gT,gT,jV,gN];congr 2;rw[dE<|by rw[dZ,aR];exact F_ _]
def Ux(hc:Ez prog w A κ vs s){p:oC lP}{d:oC<|Nat×Nat×Nat}{g i b c n f t:Nat}(hp:AOk vs p)(h1:d[i]?=some (b,c,n))(h2:d[i+1]?=some (b+c,f,t))(ha:0<c)(hb:0<f)(hs:b+c+f<=p.size){Q:Bool->lU->Prop}
  (h:∀v g',v.toList.Perm p.toList->Q true (SZq κ v ((d.setIfInBounds i (b,c+f,n)).eraseIdxIfInBounds<|i+1) g')):wpS (model prog w) A E s (mergeAt' i) Q (SZq κ p d g):=by
 rw[Nl];refine U_<|iQ ?_;have B:(pendingOf<|SZq κ p d g)[i]?=some (b,c,n):=h1;have G:(pendingOf<|SZq κ p d g)[i+1]?=some (b+c,f,t):=h2;rw[B,G];dsimp only;rw[show arrOf (SZq κ p d g)=p from rfl];refine U_ (CV<|U_<|Bx (by omega)<|U_<|MM hc (st:=SZq κ p ((d.setIfInBounds i (b,c+f,n)).eraseIdxIfInBounds<|i+1) g) rfl ha (K_ (bQ (b+c) f) hs) hp (hp.at _) λk D=>?_);dsimp only;by_cases q:c-k=0;rw[T_<|by simpa using q];exact V_<|h p g<|.refl _;rw[M_<|by simpa using q];refine U_ (Bx (by omega)<|U_<|MM hc (st:=SZq κ p ((d.setIfInBounds i (b,c+f,n)).eraseIdxIfInBounds<|i+1) g) rfl (k_ hb<|by decide) hs hp (hp.at _) λm m1=>?_);dsimp only;by_cases c2:m=0;rw[T_<|by simpa using c2];exact V_<|h p g<|.refl _;rw[M_<|by simpa using c2];have y:(p.extract (b+k)<|b+c).size=c-k:=by rw[Array.size_extract];omega
 have C:(p.extract (b+c)<|b+c+m).size=m:=by rw[Array.size_extract];omega
 have r:∀(R:oC lP) (g':Nat),Mg (p.extract (b+k)<|b+c) (p.extract (b+c)<|b+c+m) R->∀o,o=SZq κ p ((d.setIfInBounds i (b,c+f,n)).eraseIdxIfInBounds<|i+1) g' ->
   wpS (model prog w) A E s (do
    modify λs=>setArr s (R.toList.zipIdx.foldl (λa (p,j)=>a.setIfInBounds (b+k+j) p)<|arrOf s)
    return (failedOf<|<- get).isNone) Q o:=λR g' l o e=>by
  subst e;refine U_<|fC<|U_<|iQ<|V_ ?_;show Q true (SortSt.mk' κ (R.toList.zipIdx.foldl (λa (z:lP×Nat)=>a.setIfInBounds (b+k+z.2) z.1) p) _ g' none);rw[Rq];refine h _ g'<|Qq.mpr λx=>?_;have F:R.toList.length=c-k+m:=by have:=(Qq.mpr λx=>by rw[Em];exact l x:R.toList.Perm<|(p.extract (b+k)<|b+c).toList++(p.extract (b+c)<|b+c+m).toList).length_eq;simp only[List.length_append,Array.length_toList,y,C]at this;rw[aR];exact this
  have H:=l x;have J:=Jy x p;have a2:=Fv x p (aJ<|b+k) (show b+k<=p.size by omega);have L:=Fv x p (show b+k<=b+c from jO D b)<|show b+c<=p.size from K_ (bQ (b+c) f) hs;have I:=Fv x p (show b+c<=b+c+m from bQ _ _) (show b+c+m<=p.size by omega);rw[QC x _ _ _<|by omega,F,show b+k+(c-k+m)=b+c+m by omega];unfold cx at *;omega
 by_cases u:c-k<=m;rw[T_ u];exact U_ (Uv hc rfl hp.ex hp.ex (by omega) (by omega) λR g' l=>r R g' l _ rfl);rw[M_ u];exact U_<|Uw hc rfl hp.ex hp.ex (by omega) (by omega) λR g' l=>r R g' l _ rfl
section
variable {p:oC lP}{pd:oC<|Nat×Nat×Nat}{g:Nat}
def Hx(hc:Ez prog w A κ vs s)(hp:AOk vs p){i j:Nat}(hi:i<p.size)(hj:j<p.size){Q:oB Bool->lU->Prop}(h:∀c,Q (some c)<|SZq κ p pd g):wpS (model prog w) A E s (ltAt' i j) Q (SZq κ p pd g):=by rw[ltAt'_eq];refine U_<|iQ ?_;exact(show wpS _ _ _ _ (do let x <- elem' p i;let y <- elem' p j;lt' x y) Q _ from U_<|Bx hi<|U_<|Bx hj<|Yu hc rfl (hp.at _) (hp.at _) h)
def Sb{i j:Nat}{Q:Unit->lU->Prop}(h:∀a,a.toList.Perm p.toList->Q () (SZq κ a pd g)):wpS (model prog w) A E s (reverseSlice' i j) Q (SZq κ p pd g):=by rw[reverseSlice'_eq];exact fC<|h _ (mirror_perm p i j _).toList
def Fw{p q:oC lP}(h:q.toList.Perm p.toList):q.size=p.size:=by have:=h.length_eq;rwa[aR,aR]at this
def GL{e:Type}{b m:Nat}{st:lU}(h1:1<=m)(h:m<=b){F:Nat->oB e×Nat->StateT lU Sem (ForInStep<|oB e×Nat)}
  (i:∀x k (Q:ForInStep (oB e×Nat)->lU->Prop),1<=k->k<b->Q (.done (none,k)) st->Q (.yield (none,k+1)) st->wpS (model prog w) A E s (F x (none,k)) Q st)
  {Q:oB e×Nat->lU->Prop} (f:∀k,1<=k->k<=b->Q (none,k) st):wpS (model prog w) A E s (forIn [m:b] ((none,m):oB e×Nat) F) Q st:=by
 refine fZ (gF (I:=λx c d=>d=st/\c=(none,x)/\1<=x/\x<=b) (Q:=λc d=>d=st/\∃k,c=(none,k)/\1<=k/\k<=b) ?_ ?_ ⟨rfl,rfl,h1,h⟩) ?_;rintro x c d _ hx ⟨rfl,rfl,a,a2⟩;exact i x x _ a hx ⟨rfl,x,rfl,a,a2⟩ ⟨rfl,rfl,bB a,hx⟩;rintro c d ⟨rfl,rfl,a,a2⟩;exact⟨rfl,_,rfl,a,a2⟩;rintro c d ⟨rfl,k,rfl,a,a2⟩;exact f k a a2
def Yy(hc:Ez prog w A κ vs s)(hp:AOk vs p){lo a m:Nat}(h1:1<=m)(j:m<=a)(hs:lo+a<=p.size){Q:oB Nat->lU->Prop}
  (i:∀k d,1<=k->k<=a->d.toList.Perm p.toList->Q (some k) (SZq κ d pd g)):wpS (model prog w) A E s (Xf lo a m) Q (SZq κ p pd g):=by
 unfold Xf;refine U_<|Sb λd b=>?_;have hz:=Fw b;refine U_ (GL h1 j (λx k n e f h l=>U_<|Hx hc (hp.pm b) (by omega) (by omega) λc=>?_) λk e f=>V_<|i k _ e f b);cases c;exact V_ l;exact V_ h
def Yz(hc:Ez prog w A κ vs s)(hp:AOk vs p){lo d m:Nat}(h1:1<=m)(v:m+1<=d)(hs:lo+d<=p.size){Q:oB Nat->lU->Prop}
  (t:∀k a,1<=k->k<=d->a.toList.Perm p.toList->Q (some k) (SZq κ a pd g)):wpS (model prog w) A E s (Xg lo d m) Q (SZq κ p pd g):=by
 unfold Xg;refine U_<|kW<|eC ⟨rfl,?_⟩;refine U_<|fZ (gF (I:=λx c f=>∃a q,f=SZq κ a pd g/\c=(none,x,q)/\a.toList.Perm p.toList/\1<=x/\x<=d) (Q:=λc f=>∃a k q,f=SZq κ a pd g/\c=(none,k,q)/\a.toList.Perm p.toList/\1<=k/\k<=d) ?_ ?_ ⟨p,0,rfl,rfl,.refl _,bB h1,v⟩) ?_
 ·rintro x c f _ hx ⟨a,q,rfl,rfl,K,b,e⟩;have i:=hp.pm K;have hz:=Fw K;dsimp only;refine U_ (Hx hc i (by omega) (by omega) λu=>?_);dsimp only;cases u with
  |true=>rw[T_ rfl];by_cases hq:q>0;rw[T_ hq];exact U_<|Sb λr h=>V_ ⟨r,0,rfl,rfl,h.trans K,bB b,hx⟩;rw[M_ hq];exact V_ ⟨a,0,rfl,rfl,K,bB b,hx⟩
  |false=>rw[M_ S_];refine U_ (Hx hc i (by omega) (by omega) λc2=>?_);cases c2;exact V_ ⟨a,_,rfl,rfl,K,bB b,hx⟩;exact V_ ⟨a,x,q,rfl,rfl,K,b,e⟩
 rintro c f ⟨a,q,rfl,rfl,K,b,e⟩;exact⟨a,_,q,rfl,rfl,K,b,e⟩;rintro c f ⟨a,k,q,rfl,rfl,K,b,e⟩;have i:=hp.pm K;have hz:=Fw K;dsimp only;by_cases hq:q>0;rw[T_ hq];exact U_ (Sb λr h=>Yy hc (i.pm h) b e (by rw[Fw h];omega) λl o j a2 n=>t l o j a2<|n.trans<|h.trans K);rw[M_ hq];exact Yy hc i b e (by omega) λl o j a2 n=>t l o j a2<|n.trans K
def DZ(hc:Ez prog w A κ vs s)(hp:AOk vs p){lo b:Nat}(h1:1<=b)(hs:lo+b<=p.size){Q:oB Nat->lU->Prop}
  (d:∀k i,1<=k->k<=b->i.toList.Perm p.toList->Q (some k) (SZq κ i pd g)):wpS (model prog w) A E s (countRun' lo b) Q (SZq κ p pd g):=by
 rw[L0];refine U_ (GL (F_ 1) h1 (λx k u a f o r=>U_<|Hx hc hp (by omega) (by omega) λc=>?_) λk a f=>?_);cases c;exact V_ r;exact V_ o;dsimp only;by_cases e:k=b;rw[T_<|by simpa using e];exact V_<|d k p a f<|.refl _;rw[M_<|by simpa using e];by_cases j:k>1
 ·rw[T_ j];refine U_ (Hx hc hp (by omega) (by omega) λc=>?_);dsimp only;cases c with
  |true=>exact V_ (d k p a f<|.refl _)
  |false=>rw[M_ S_];exact U_<|Sb λt h=>Yz hc (hp.pm h) a (by omega) (by rw[Fw h];exact hs) λn q l a2 m=>d n q l a2<|m.trans h
 rw[M_ j];exact Yz hc hp a (by omega) hs d
def Y0(hc:Ez prog w A κ vs s)(hp:AOk vs p){lo m ok:Nat}(n:ok<=m)(hs:lo+m<=p.size){Q:Bool->lU->Prop}
  (h:∀a,a.toList.Perm p.toList->Q true (SZq κ a pd g)):wpS (model prog w) A E s (binarySort' lo m ok) Q (SZq κ p pd g):=by
 rw[binarySort'_eq];refine U_<|fZ (gF (I:=λx c b=>∃a,b=SZq κ a pd g/\c=(none,())/\a.toList.Perm p.toList) (Q:=λc b=>∃a,b=SZq κ a pd g/\c=(none,())/\a.toList.Perm p.toList) ?_ (λ_ _ z=>z) ⟨p,rfl,rfl,.refl _⟩) ?_;rintro x c b d hx ⟨a,rfl,rfl,K⟩;have f:=hp.pm K;have hz:=Fw K;refine U_<|KK (m:=x) (λy l r o j a2 i hy=>?_) (aJ _) (F_ _) (F_ _) λk hk=>?_;dsimp only;by_cases e:l>=r;rw[T_ e];exact V_ (i<|by omega);rw[M_ e];refine U_ (Hx hc f (by omega) (by omega) λc=>?_);cases c;exact V_ (hy _ _ (by omega) a2<|by omega);exact V_ (hy _ _ (by omega) (by omega)<|by omega);dsimp only;rw[moveDown'_eq];exact U_<|fC<|V_ ⟨_,rfl,rfl,((bubble_perm a _ _).toList).trans K⟩;rintro c b ⟨a,rfl,rfl,K⟩;exact V_<|h a K
def Jz(hc:Ez prog w A κ vs s)(hp:AOk vs p){i hi:Nat}(q:Chain pd.toList 0 hi)(hs:hi<=p.size)(j:i+1<pd.size){Q:Bool->lU->Prop}
  (h:∀a f m,a.toList.Perm p.toList->Chain f.toList 0 hi->f.size+1=pd.size->Q true (SZq κ a f m)):wpS (model prog w) A E s (mergeAt' i) Q (SZq κ p pd g):=by
 have b:pd[i]?=some pd[i]:=aC<|cW j;have d:pd[i+1]?=some pd[i+1]:=aC j;generalize pd[i]'(cW j)=ea at b;generalize pd[i+1]=eb at d;obtain⟨e,l,u⟩:=ea;obtain⟨B,n,y⟩:=eb;have x:pd.toList[i]?=some (e,l,u):=by rw[X_];exact b
 have F:pd.toList[i+1]?=some (B,n,y):=by rw[X_];exact d
 have r:=Nm x F;rw[r]at q;obtain⟨k,C,c2,t,z,D,o⟩:=Chain.app.mp q;subst c2;subst z;have G:=o.le;refine Ux hc hp b d t D (by omega) λa m K=>?_;have v:=CW (c:=(e,l+n,u)) b d;refine h a _ m K ?_ ?_;rw[v];exact Chain.app.mpr ⟨e,C,rfl,R_ t<|bQ l n,by rw[<- kM];exact o⟩;have:=bO List.length v;have hz:=bO List.length r;simp only[List.length_append,List.length_cons,Array.length_toList]at this hz;omega
def Chain.pu{lo m:Nat}(h:Chain pd.toList 0 lo)(a:0<m):Chain (pd.push (lo,m,0)).toList 0 (lo+m):=by rw[kH];exact Chain.app.mpr ⟨lo,h,rfl,a,rfl⟩
end
section
variable {p:oC lP}{pd:oC<|Nat×Nat×Nat}{g:Nat}
def Ma{j b d τ:Type}{N:Nat}{f:Nat->b->StateT j Sem (ForInStep b)}{k:b->StateT j Sem τ}{Q:τ->j->Prop}{S:d->j}{C:d->b}{I:Nat->d->Prop}{J:d->Prop}{st:j}{c:b}(l:d)(hs:st=S l)(hc:c=C l)(h0:I 0 l)
  (step:∀x i,x<N->I x i->wpS (model prog w) A E s (f x<|C i) (λz a=>match z with
   |.done c=>∃i,a=S i/\c=C i/\J i
   |.yield c=>∃i,a=S i/\c=C i/\I (x+1) i) (S i))
  (e:∀i,I N i->J i) (m:∀i,J i->wpS (model prog w) A E s (k<|C i) Q (S i)):wpS (model prog w) A E s (forIn [0:N] c f>>=k) Q st:=by
 refine U_<|fZ (gF (I:=λx c a=>∃i,a=S i/\c=C i/\I x i) (Q:=λc a=>∃i,a=S i/\c=C i/\J i) ?_ ?_ ⟨l,hs,hc,h0⟩) ?_;rintro x c a _ hx ⟨i,rfl,rfl,h⟩;refine fZ (step x i hx h) ?_;rintro(c|c) a hh<;>exact hh;rintro c a ⟨i,h1,h2,h⟩;rw[Nat.zero_max]at h;exact⟨i,h1,h2,e i h⟩;rintro c a ⟨i,rfl,rfl,h⟩;exact m i h
def Qr(hc:Ez prog w A κ vs s)(hp:AOk vs p){Q:Unit->lU->Prop}(Z:∀F Y g',F.toList.Perm p.toList->Q () (SZq κ F Y g')):wpS (model prog w) A E s sortRuns' Q (SZq κ p #[] g):=by
 rw[sortRuns'_eq];refine U_<|iQ ?_;rw[show arrOf (SZq κ p #[] g)=p from rfl];generalize V:p.size=N;dsimp only;generalize minRun' N N 0=mr;refine Ma (S:=λi:oC lP×oC (Nat×Nat×Nat)×Nat×Nat=>SZq κ i.1 i.2.1 i.2.2.1) (C:=λi=>(none,i.2.2.2)) (I:=λx i=>i.1.toList.Perm p.toList/\Chain i.2.1.toList 0 i.2.2.2/\i.2.2.2<=N/\x<=i.2.2.2) (J:=λi=>i.1.toList.Perm p.toList/\Chain i.2.1.toList 0 N) (p,#[],g,0) rfl rfl ⟨.refl _,rfl,aJ _,F_ _⟩ (λx i hx h=>?_) (λi h=>?_) λi h=>?_
 ·have hz:=Fw h.1;dsimp only;by_cases e:i.2.2.2>=N;rw[T_ e];have G:i.2.2.2=N:=Nat.le_antisymm h.2.2.1 e;exact V_ ⟨i,rfl,rfl,h.1,G ▸ h.2.1⟩;rw[M_ e];refine U_ (DZ hc (hp.pm h.1) (show 1<=N-i.2.2.2 by omega) (by omega) λk l X k2 f=>?_);have z1:=Fw f;dsimp only;by_cases b:k<mr
  ·rw[T_ b];refine U_<|kW<|eC ⟨rfl,?_⟩;refine U_ (Y0 hc ((hp.pm h.1).pm f) (m:=min (N-i.2.2.2) mr) (by omega) (by omega) λq H=>?_);rw[M_<|show ¬(!true)=true by decide];have hq:q.toList.Perm p.toList/\1<=min (N-i.2.2.2) mr/\i.2.2.2+min (N-i.2.2.2) mr<=N:=⟨H.trans<|f.trans h.1,by omega,by omega⟩;refine U_<|iQ ?_;show wpS _ _ _ _ (match i.2.1.back? with
    |some (t,n,_)=>_
    |_=>_) _ _
   have d:x+1<=i.2.2.2+min (N-i.2.2.2) mr:=kE h.2.2.2 hq.2.1;cases eb:i.2.1.back? with
   |none=>dsimp only;exact U_ (fC<|V_ ⟨(q,_,i.2.2.1,_),rfl,rfl,hq.1,h.2.1.pu hq.2.1,hq.2.2,d⟩)
   |some e=>obtain⟨t,n,M⟩:=e;dsimp only;refine Ma (S:=λj:oC lP×oC (Nat×Nat×Nat)×Nat=>SZq κ j.1 j.2.1 j.2.2) (C:=λ_=>(none,())) (I:=λ_ j=>j.1.toList.Perm p.toList/\Chain j.2.1.toList 0 i.2.2.2) (J:=λj=>j.1.toList.Perm p.toList/\Chain j.2.1.toList 0 i.2.2.2) (q,i.2.1,i.2.2.1) rfl rfl ⟨hq.1,h.2.1⟩ (λy j _ W=>?_) (λ_ W=>W) λj W=>?_;refine U_<|iQ ?_;rw[show pendingOf (SZq κ j.1 j.2.1 j.2.2)=j.2.1 from rfl];by_cases a:j.2.1.size>1;rw[T_ a,aC<|by omega];generalize j.2.1[j.2.1.size-2]'(by omega)=e3;obtain⟨O,T,R⟩:=e3;dsimp only;split;exact V_ ⟨j,rfl,rfl,W⟩;refine U_ (Jz hc (hp.pm W.1) (i:=j.2.1.size-2) W.2 (by rw[Fw W.1];omega) (by omega) λr z v D u _=>?_);rw[M_<|show ¬(!true)=true by decide];exact V_ ⟨(r,z,v),rfl,rfl,D.trans W.1,u⟩;rw[M_ a];exact V_ ⟨j,rfl,rfl,W⟩;dsimp only;refine U_<|fC<|U_<|fC<|V_ ⟨(j.1,_,j.2.2,_),rfl,rfl,W.1,Chain.pu ?_ hq.2.1,hq.2.2,d⟩;show Chain (j.2.1.modify (j.2.1.size-1) _).toList 0 _;rw[Array.toList_modify];refine Chain.mod ?_ W.2;exact λe=>⟨rfl,rfl⟩
  ·rw[M_ b];have hq:l.toList.Perm p.toList/\1<=k/\i.2.2.2+k<=N:=⟨f.trans h.1,X,by omega⟩;refine U_<|iQ ?_;show wpS _ _ _ _ (match i.2.1.back? with
    |some (t,n,_)=>_
    |_=>_) _ _
   have d:x+1<=i.2.2.2+k:=kE h.2.2.2 hq.2.1;cases eb:i.2.1.back? with
   |none=>dsimp only;exact U_ (fC<|V_ ⟨(l,_,i.2.2.1,_),rfl,rfl,hq.1,h.2.1.pu hq.2.1,hq.2.2,d⟩)
   |some e=>obtain⟨t,n,M⟩:=e;dsimp only;refine Ma (S:=λj:oC lP×oC (Nat×Nat×Nat)×Nat=>SZq κ j.1 j.2.1 j.2.2) (C:=λ_=>(none,())) (I:=λ_ j=>j.1.toList.Perm p.toList/\Chain j.2.1.toList 0 i.2.2.2) (J:=λj=>j.1.toList.Perm p.toList/\Chain j.2.1.toList 0 i.2.2.2) (l,i.2.1,i.2.2.1) rfl rfl ⟨hq.1,h.2.1⟩ (λy j _ W=>?_) (λ_ W=>W) λj W=>?_;refine U_<|iQ ?_;rw[show pendingOf (SZq κ j.1 j.2.1 j.2.2)=j.2.1 from rfl];by_cases a:j.2.1.size>1;rw[T_ a,aC<|by omega];generalize j.2.1[j.2.1.size-2]'(by omega)=e3;obtain⟨O,T,R⟩:=e3;dsimp only;split;exact V_ ⟨j,rfl,rfl,W⟩;refine U_ (Jz hc (hp.pm W.1) (i:=j.2.1.size-2) W.2 (by rw[Fw W.1];omega) (by omega) λr z v D u _=>?_);rw[M_<|show ¬(!true)=true by decide];exact V_ ⟨(r,z,v),rfl,rfl,D.trans W.1,u⟩;rw[M_ a];exact V_ ⟨j,rfl,rfl,W⟩;dsimp only;refine U_<|fC<|U_<|fC<|V_ ⟨(j.1,_,j.2.2,_),rfl,rfl,W.1,Chain.pu ?_ hq.2.1,hq.2.2,d⟩;show Chain (j.2.1.modify (j.2.1.size-1) _).toList 0 _;rw[Array.toList_modify];refine Chain.mod ?_ W.2;exact λe=>⟨rfl,rfl⟩
 have e:i.2.2.2=N:=Nat.le_antisymm h.2.2.1 h.2.2.2;exact⟨h.1,e ▸ h.2.1⟩;dsimp only;refine Ma (S:=λj:oC lP×oC (Nat×Nat×Nat)×Nat=>SZq κ j.1 j.2.1 j.2.2) (C:=λ_=>(none,())) (I:=λ_ j=>j.1.toList.Perm p.toList/\Chain j.2.1.toList 0 N) (J:=λj=>j.1.toList.Perm p.toList/\Chain j.2.1.toList 0 N) (i.1,i.2.1,i.2.2.1) rfl rfl h (λx j _ W=>?_) (λ_ W=>W) λj W=>V_<|Z j.1 j.2.1 j.2.2 W.1;refine U_<|iQ ?_;rw[show pendingOf (SZq κ j.1 j.2.1 j.2.2)=j.2.1 from rfl];by_cases b:j.2.1.size<=1;rw[T_ b];exact V_ ⟨j,rfl,rfl,W⟩;rw[M_ b];refine U_ (Jz hc (hp.pm W.1) W.2 (by rw[Fw W.1];exact gB<|Eq.symm V) ?_ λU B g2 L P _=>?_);have o:∀(c:Prop) [Decidable c],(if c then j.2.1.size-2-1 else j.2.1.size-2)+1<j.2.1.size:=λc _=>by by_cases h:c;rw[T_ h];omega;rw[M_ h];omega
 exact o _
 rw[M_<|show ¬(!true)=true by decide];exact V_ ⟨(U,B,g2),rfl,rfl,L.trans W.1,P⟩
end
def QD(hc:Ez prog w A κ vs s){Q:lU->lD->Prop}(b:∀st:lU,(arrOf st).toList.Perm (vs.toArray.zip vs.toArray).toList->failedOf st=none->Q st s) :
  qV prog w A ((sortRuns').run<|SortSt.mk' κ (vs.toArray.zip vs.toArray) #[] 7 none) (λr a=>Q r.2 a) E s:=by
 refine cD (Qr (E:=E) (g:=7) hc (λx hx=>?_) (Q:=λ_ st=>Q st s) λc f d K=>b _ K rfl) (λr a h=>?_) λ_ _ e=>e;rw[Array.toList_zip]at hx;exact(gZ hx).1;obtain⟨rfl,h⟩:=h;exact h
end
section
variable {prog:lH}{w:lI}{A:lK}{E:lC->lD->Prop}{s:lD}{X:Cx}{aa:oA<|lF×lM}{σ:St}{H:Hp}{k:Nat}
def Qs{a:lF}{d:oA lC}{n:Nat}{P:PySem.Fin->lD->Prop}(q:s.heap.get? a=some (seqObj "list" d.toArray n)) (F:d.length<1000000)
  (hk:2<=d.length->∀h':lL,(∀b o,b≠a->s.heap.get? b=some o->h'.get? b=some o)->∃ m,(∀Q:lV->lD->Prop,Q m {s with heap:=h'}->qV prog w A (keyKind' d.toArray) Q E {s with heap:=h'})/\Ez prog w A m d {s with heap:=h'})
  (h:∀(z:oA lC) (h':lL) (c:Nat),z.Perm d->(∀b o,b≠a->s.heap.get? b=some o->h'.get? b=some o)->h'.get? a=some (seqObj "list" z.toArray c)->P (.done<|.ret .none) {s with heap:=h'}) :
  qV prog w A (Builtin.«list.sort» ⟨[.ref a],[]⟩) P E s:=by
 obtain⟨r,g⟩:∃r,(s.heap.update a<|Obj.mapSeq λ_=>(#[]:oC lC)).get? a=some (seqObj "list" #[] r):=⟨_,get?_update_seq q λ_=>#[]⟩;have j:d.toArray.size<=sizeLine:=by rw[aA];exact K_ (dD F)<|by decide
 have l:∀b o,b≠a->s.heap.get? b=some o->(((s.heap.update a<|Obj.mapSeq λ_=>(#[]:oC lC)).push<|seqObj "tuple" d.toArray 0).push<|seqObj "list" #[] 0).get? b=some o:=λb o hb e=>
  DD _ (DD _<|((aV s.heap a _).2 b hb).trans e)
 have f:(((s.heap.update a<|Obj.mapSeq λ_=>(#[]:oC lC)).push<|seqObj "tuple" d.toArray 0).push<|seqObj "list" #[] 0).get? a=some (seqObj "list" #[] r):=DD _<|DD _ g;rw[list_sort_plain];refine A_ (listItems_at q rfl<|A_<|listUpdate_at q rfl (A_<|seqEpoch_at g rfl<|A_<|wpAny_newTuple (A_<|wpAny_newList (bK ?_)<|aJ _)<|by simpa using j) j<|aJ _);show qV prog w A _ P E {s with heap:=(((s.heap.update a<|Obj.mapSeq λ_=>(#[]:oC lC)).push<|seqObj "tuple" d.toArray 0).push<|seqObj "list" #[] 0)};generalize ((s.heap.update a<|Obj.mapSeq λ_=>(#[]:oC lC)).push<|seqObj "tuple" d.toArray 0).push (seqObj "list" #[] 0)=h2 at l f ⊢;dsimp only;have x:((d.toArray.zip d.toArray).toList.map (·.2))=d:=by rw[Array.toList_zip];exact List.map_snd_zip<|F_ _
 have i:∀st:lU,(arrOf st).toList.Perm (d.toArray.zip d.toArray).toList->P (.done<|.ret .none) {s with heap:=h2.update a<|Obj.mapSeq λ_=>(arrOf st).map (·.2)}/\((arrOf st).map (·.2)).size=d.length:=λst hp=>by
  have v:((arrOf st).map (·.2)).toList.Perm d:=by rw[Array.toList_map,<- x];exact(hp.map _).trans<|by rw[x]
  refine⟨h _ _ _ v (λb o hb B=>((aV h2 a _).2 b hb).trans<|l b o hb B)<|get?_update_seq f _,?_⟩;rw[<- aR];exact v.length_eq
 by_cases h1:d.toArray.size<2;rw[T_ h1,T_ h1];refine A_<|C_ ?_;rw[StateT.run_pure];obtain⟨p,t⟩:=i (SortSt.mk' general' (d.toArray.zip d.toArray) #[] 7 none)<|.refl _;refine A_<|C_<|A_<|seqEpoch_at f rfl<|A_<|listUpdate_at f rfl ?_ (aJ _) ?_;rw[show failedOf (SortSt.mk' general' (d.toArray.zip d.toArray) #[] 7 none)=none from rfl,bne_self_eq_false,M_ S_];exact C_ p;refine K_ ?_<|bB j;rw[aA];exact gB t;rw[M_ h1,M_ h1];obtain⟨m,C,D⟩:=hk (by rw[aA]at h1;exact kQ h1) h2 l;refine A_<|C _<|A_<|cD (QD D (Q:=λst y=>y={s with heap:=h2}/\(arrOf st).toList.Perm (d.toArray.zip d.toArray).toList/\failedOf st=none) λst hp u=>⟨rfl,hp,u⟩) ?_ λ_ _ e=>e;rintro⟨⟨⟩,st⟩ y ⟨rfl,hp,u⟩;dsimp only;obtain⟨p,t⟩:=i st hp;refine A_<|seqEpoch_at f rfl<|A_<|listUpdate_at f rfl ?_ (aJ _) ?_;rw[u,bne_self_eq_false,M_ S_];exact C_ p;refine K_ ?_<|bB j;rw[aA];exact gB t
def Hc{v:lC}{Q:lC->lD->Prop}(t:qV prog w A.in1 (collect v) (λd a=>d.length<1000000 /\
   (2<=d.length->∀h':lL,(∀b o,a.heap.get? b=some o->h'.get? b=some o)->∃ g,(∀Q:lV->lD->Prop,Q g {a with heap:=h'}->qV prog w A.in1.in1 (keyKind' d.toArray) Q E {a with heap:=h'})/\Ez prog w A.in1.in1 g d {a with heap:=h'}) /\
   ∀(f:oA lC) (h':lL) (l c:Nat),f.Perm d->a.heap.objs.size<=l->(∀b o,a.heap.get? b=some o->h'.get? b=some o)->h'.get? l=some (seqObj "list" f.toArray c)->Q (.ref l) {a with heap:=h'}) E s) :
  qV prog w A (call (.builtin "sorted") [v]) Q E s:=by
 refine Calls.call_function_entry kind_sorted plain_sorted entry_sorted (args_sorted1 _) ?_;unfold Builtin.«sorted»;refine A_ (m:=checkCount "sorted" 1 1 _)<|C_<|A_<|cD t (λd a hx=>?_) λ_ _ e=>e;obtain⟨n,hk,h⟩:=hx;have p:d.length<=sizeLine:=K_ (dD n) (by decide);have i:(a.heap.push<|seqObj "list" d.toArray 0).get? a.heap.objs.size=some (seqObj "list" d.toArray 0):=I_ _ rfl;refine A_<|wpAny_newList (A_<|bK<|aN slot_list_sort ⟨_,i,rfl⟩ entry_list_sort ?_<|args_list_sort _) p;have j:∀(h':lL),(∀b o,b≠a.heap.objs.size->(a.heap.push<|seqObj "list" d.toArray 0).get? b=some o->h'.get? b=some o)->∀b o,a.heap.get? b=some o->h'.get? b=some o:=λh' k b o q=>k b o (Y_<|O_ q)<|DD _ q;exact Qs (s:={a with heap:=a.heap.push<|seqObj "list" d.toArray 0}) i n (λh2 h' k=>hk h2 h'<|j h' k) λf h' c r k e=>⟨_,rfl,C_ ⟨_,rfl,h f h' _ c r (F_ _) (j h' k) e⟩⟩
structure SortOkP(ds:oA lE):Prop where
 len:ds.length<1000000
 can:PyData.canLayAll0 ds=true
 dp:PyData.depthAll ds<=64
 fst:∀d∈ds,∃i r,d=.tuple (.int i::r)
 cmp:∀d∈ds,∀e∈ds,cmpb d e=true
theorem Y1{h:lL}{v:lC}:∀{a:oA lC} {ds:oA lE} {as:oA lF},ReadsAll h a ds as->v∈a->∃d∈ds,∃c,Reads h v d c
 |_,_,_,.cons r t,hv=>by rcases aB.mp hv with rfl|hv;exact⟨_,.head _,_,r⟩;obtain⟨d,e,b⟩:=Y1 t hv;exact⟨d,.tail _ e,b⟩
def Sc{b:oA lC}{ds:oA lE}{y:oA lF}(ok:SortOkP ds)(rd:ReadsAll s.heap b ds y)(h2:2<=ds.length)(hu:A.units+64<cLine):∃ c,(∀Q:lV->lD->Prop,Q c s->qV prog w A (keyKind' b.toArray) Q E s)/\Ez prog w A c b s:=by
 have I:=Rr rd;obtain⟨J,l,M,z⟩:=Nn rd ok.fst;refine⟨tuples' true,λQ q=>?_,λu n v hv'=>?_⟩;refine PySem.W.kat_kind (T:=.type "int") l (by omega) (λv hv=>?_) rfl q;obtain⟨i,t,rfl⟩:=z v hv;exact PySem.W.Looks.of_pure rfl
 ·obtain⟨d,a,g,p⟩:=Y1 rd n;obtain⟨e,he,f,x⟩:=Y1 rd hv';have r:=Gk ok.can _ a;have c2:=Gk ok.can _ he;have h:=ok.cmp _ a _ he;have o:=K_ (Ky _ a) ok.dp;obtain⟨G,O,rfl⟩:=ok.fst d a;obtain⟨N,L,rfl⟩:=ok.fst e he;cases p with
  |tuple m a2 B F=>
   cases x with
   |tuple g f j D=>exact⟨_,λC q=>JM (.tuple m a2 B F) (.tuple g f j D) r c2 h hu o q⟩
def Mb{E:lC->lD->Prop}{s:lD}{a:lF}{xs:oA<|lE×lF}{Q:lC->lD->Prop}(M:A.handled=none)(hu:A.units+100<cLine)(P:Fa w s.heap a xs<|Ga w)(g:∀d:oA<|lE×lF,d.Perm xs->SortOkP (d.map (·.1)))
  (h:∀(h':lL) (d':Drawn) (tk p c:Nat) (i:oA<|lE×lF),(∀b o,s.heap.get? b=some o->h'.get? b=some o)->s.heap.objs.size<=p->h'.get? p=some (seqObj "list" (i.map λx=>Value.ref x.2).toArray c)->i.Perm xs->Q (.ref p) {s with heap:=h',drawn:=d',toks:=tk}) :
  qV prog w A (call (.builtin "sorted") [.ref a]) Q E s:=by
 obtain⟨o,F,V,t,I,U,S,C,R,T,L,hQ,hB⟩:=P;have Z:F.size=xs.length:=by rw[<- aR,C,B_]
 have D:xs.length<1000000:=by have:=(g xs<|.refl _).len;rwa[B_]at this
 refine Hc (N0 (show A.in1.handled=none from M) ⟨o,I,U.1,S,T⟩ L (by omega) λh1 y z ord B G hp=>?_);rw[C,aD]at hp;obtain⟨d,rfl,j⟩:=Db hp xs (f:=λx=>Value.ref x.2) rfl;have ok:=g d j;have m:d.length<1000000:=by rw[j.length_eq];exact D
 have N:(d.map λx=>Value.ref x.2).length=(d.map (·.1)).length:=by rw[B_,B_]
 have v:∀x∈d,Cg h1 x.1 x.2:=λx hx=>(R x<|j.mem_iff.mp hx).keeps B;refine⟨by rw[B_];exact m,λh2 h' n=>?_,λW h' l c J r n e=>?_⟩;obtain⟨Y,u⟩:=Ig (h:=h') λx hx=>(v x hx).keeps n;exact Sc (s:={s with heap:=h',drawn:=y,toks:=z}) ok u (by rw[<- N];exact h2) (by show A.units+1+1+64<_;omega);obtain⟨i,rfl,O⟩:=Db J d rfl;exact h h' y z l c i (λb o q=>n b o<|B b o q) (K_ G r) e<|O.trans j
def TOk.sortP{ds es:oA lE}(h:TOk ds)(hs:∀d∈es,d∈ds)(hn:es.Nodup):SortOkP es:=by obtain⟨a,b,c⟩:=R5 λd f=>h.key d<|hs d f;have:=Fs hn hs;have:=h.len;exact⟨by omega,a,by omega,λd f=>h.fst d<|hs d f,λd f e he=>h.cmp d (hs d f) e<|hs e he⟩
def KM(te:AE):AE:=λe f R=>te e f λx a=>opt (items a x) λc=>opt (dats c) λb=>TOk b/\∀(es:oA lE) (p:lF),es.Nodup->(∀d,d∈es↔d∈b)->a p=none->R (.R p) (Al a p<|.lst<|es.map .D)
def Y2{e:lJ}{te:AE}{p U Y P:Pos}(hr:Room k X.A)(hg:Gl X "sorted") (hm:X.mg "sorted" = none) (iw:Gl X "set") (dj:X.mg "set" = none) (he:VE X e te)
  (hs:starEach [.Call (.Name "set" U) [e] [] P] X.env=[(false,eval (.Call (.Name "set" U) [e] [] P) X.env)]:=by rfl) (b8:starEach [e] X.env=[(false,eval e X.env)]:=by rfl) :
  VE X (.Call (.Name "sorted" p) [.Call (.Name "set" U) [e] [] P] [] Y) (KM te):=by
 intro aa s σ H Q I m;refine B1 m λτ μ R bd W h hq=>?_;refine cF<|Dt I hg hm boot_sorted<|iW ?_ hs rfl;rw[hs];refine bG<|cF<|Dt I iw dj boot_set<|bE ?_ b8 rfl;rw[b8];refine bG<|cD (he.run I bd W h) (λu a rc=>UM rc λx v μ1 H1 y rv S1 S rx h1=>b_ ?_) λ_ _ e=>e;obtain⟨g,ey,h1⟩:=Ay h1;obtain⟨M,ed,ok,h1⟩:=Ay h1;have ag:=JZ (fF ok.len<|by decide);obtain⟨p0,Z,rfl,hk,rs⟩:=Cm S rx ey;cases rv;have dk:=rs.dats ed;have f:X.A.handled=none:=hr.hd;have hun:=hr.un;have l2:=dk.length;have D:∀(ks:oA<|lE×lF),ks.map (·.1)=M->(∀x∈ks,Cg a.heap x.1 x.2/\Dk X.K H1 x.1 (.ref x.2))->∀(h1:lL) (tk:Nat) (xs:oA<|lE×lF),(∀b o,a.heap.get? b=some o->h1.get? b=some o)->Fa X.w h1 a.heap.objs.size xs (Ga X.w)->(xs.map (·.1)).Nodup->(∀d,d∈xs.map (·.1)↔d∈ks.map (·.1))->(∀x∈xs,x∈ks) ->
   qV X.prog X.w X.A (call (.builtin "sorted") [.ref a.heap.objs.size]) (EP X aa σ Q) X.xe {a with heap:=h1,toks:=tk}:=λks n fk h2 tk xs C z i M2 B=>by
  rw[n]at M2;refine Mb (s:={a with heap:=h2,toks:=tk}) f (by omega) z (λg py=>ok.sortP (λd f=>(M2 d).mp<|(py.map (·.1)).mem_iff.mp f)<|(py.map (·.1)).nodup_iff.mpr i) λh3 d3 t3 q c t k2 hp l G=>?_;have lS:a.heap.objs.size<h2.objs.size:=by obtain⟨o,_,_,_,e,_⟩:=z;exact O_ e
  have f8:a.heap.objs.size<=q:=K_ (dD lS) hp;have kc:t.length<1000000:=by have:=(ok.sortP (es:=t.map (·.1)) (λd f=>(M2 d).mp<|(G.map (·.1)).mem_iff.mp f)<|(G.map (·.1)).nodup_iff.mpr i).len;rwa[B_]at this
  have hz:(t.map λx=>V.ref x.2).length<=sizeLine:=by rw[B_];exact K_ (dD kc)<|by decide
  have J:=y.hok.fresh f8;refine⟨.ref q,_,(Inv.drw y d3).laid (t':=t3) (λb o e=>k2 b o<|C b o e) f8<|show Bp X.prog X.w _ h3 _ (.lst<|t.map λx=>V.ref x.2) from⟨hz,_,c,R6 t,l⟩,rfl,?_⟩;refine hq _ _ _ _ (S1.trans<|Kp.new J _) (S.new J<|C2 ?_) Du<|h1 (t.map (·.1)) q ((G.map (·.1)).nodup_iff.mpr i) (λd=>((G.map (·.1)).mem_iff).trans<|M2 d)<|S.none J;exact(Ye λx hx=>(fk x<|B x<|G.mem_iff.mp hx).2).rel
 refine Pz (s:=a) ?_;rcases hk with⟨_,hk⟩|⟨_,hk⟩;obtain⟨L,T,F,hz⟩:=y.list hk;obtain⟨ks,n,O,l⟩:=Yd y M Z L dk T ok.key (λd f=>by obtain⟨_,_,e⟩:=ok.fst d f;exact⟨_,e⟩);have N:p0<a.heap.objs.size:=by obtain⟨o,e,_⟩:=F.isList;exact O_ e
 have j:∀g:oA lE,g.Nodup->(∀d∈g,d∈ks.map (·.1))->g.length<4900:=by rw[n];exact ag
 refine Yc (s:={a with heap:=a.heap.push<|Ce X.w}) (show X.A.in1.in1.handled=none from f) (show X.A.units+1+1+20<cLine by omega) (by obtain⟨o,e,r⟩:=F.isList;exact⟨o,DD _ e,r⟩) (ks:=ks) (by simpa using O) (λx hx=>(l x hx).1.keeps λb o e=>DD _ e) j Ob (bN<|Y_ N) λh2 tk xs C z i M2 B L2=>b_ ?_;exact D ks n l h2 tk xs (λb o e=>C b o (Y_<|O_ e)<|DD _ e) z i M2 B;obtain⟨L,T,F,hz⟩:=y.tuple hk;obtain⟨ks,n,O,l⟩:=Yd y M Z L dk T ok.key (λd f=>by obtain⟨_,_,e⟩:=ok.fst d f;exact⟨_,e⟩);have N:p0<a.heap.objs.size:=by obtain⟨o,e,_⟩:=F;exact O_ e
 have j:∀g:oA lE,g.Nodup->(∀d∈g,d∈ks.map (·.1))->g.length<4900:=by rw[n];exact ag
 refine Um (s:={a with heap:=a.heap.push<|Ce X.w}) (show X.A.in1.in1.handled=none from f) (show X.A.units+1+1+20<cLine by omega) (Heap.IsTuple.push F _) (ks:=ks) (by simpa using O) (λx hx=>(l x hx).1.keeps λb o e=>DD _ e) j Ob (bN<|Y_ N) λh2 tk xs C z i M2 B L2=>b_ ?_;exact D ks n l h2 tk xs (λb o e=>C b o (Y_<|O_ e)<|DD _ e) z i M2 B
theorem QE{K:lG}{H:Hp}:∀{ds:oA lE} {b:oA V} {c:oA lC},An K H ds b->Vals b c->∃a:oA<|lE×V×lC,ds=a.map (·.1)/\c=a.map (·.2.2)/\∀z∈a,Dk K H z.1 z.2.1/\Ba z.2.1 z.2.2
 |[],b,c,h,r=>by have e:=h.nil;subst e;cases r;exact⟨[],rfl,rfl,λ_ z=>nomatch z⟩
 |d::ds,b,c,h,r=>by
  obtain⟨x,j,rfl,h1,h2⟩:=An.cons (K:=K) (H:=H) h;cases r with
  |cons i f=>obtain⟨a,rfl,rfl,g⟩:=QE h2 f;refine⟨(d,x,_)::a,rfl,rfl,λy hy=>?_⟩;rcases aB.mp hy with rfl|hy;exact⟨h1,i⟩;exact g y hy
theorem Y3{K:lG}{H:Hp}:∀{e:oA<|lE×V×lC},(∀z∈e,Dk K H z.1 z.2.1/\Ba z.2.1 z.2.2)->An K H (e.map (·.1)) (e.map (·.2.1))/\Vals (e.map (·.2.1)) (e.map (·.2.2))
 |[],_=>⟨C7,.nil⟩
 |z::e,h=>by obtain⟨a,b⟩:=Y3 λy hy=>h y<|.tail _ hy;obtain⟨c,d⟩:=h z<|.head _;exact⟨Ct c a,.cons d b⟩
def Of:AC:=λe b R=>match e with
 |[.R a]=>opt (b a) λm=>match m with
  |.lst d=>opt (dats d) λc=>SortOkP c/\∀(es:oA lE) (p:lF),es.Perm c->b p=none->R (.R p) (Al b p<|.lst<|es.map .D)
  |_=>False
 |_=>False
def Hy(L:Room k X.A):VCall X (.builtin "sorted") Of:=by
 intro aa s σ H xs T Q I r i;refine B1 i λas μ R G hc h hq=>?_;unfold Of at h;split at h
 ·rename_i a;cases G with
  |cons r1 Z=>
  cases Z;obtain⟨m,P,h⟩:=Ay h;split at h;rename_i j;obtain⟨S,U,ok,h⟩:=Ay h;obtain⟨o,M,F,rfl,V⟩:=hc _ _ P;cases r1;obtain⟨u,rfl,O⟩:=Eo r;cases O;obtain⟨J,y,W,hz⟩:=I.list<|E4.of (K:=X.K) M;have dk:=V.dats U;obtain⟨bs,rd⟩:=An.reads I S F J dk y;obtain⟨g,rfl,rfl,p⟩:=QE dk y;have Y:=Rr rd;have D:(g.map (·.2.2)).length<1000000:=by rw[Y];exact ok.len
  have B:(g.map (·.2.2)).length<=sizeLine:=K_ (dD D) (by decide);have d:∀b o,s.heap.get? b=some o->((s.heap.push<|seqObj "list" #[] 0).update s.heap.objs.size<|Obj.mapSeq (·++(g.map (·.2.2)).toArray)).get? b=some o:=λb o q=>
   ((aV (s.heap.push<|seqObj "list" #[] 0) s.heap.objs.size _).2 b<|Y_<|O_ q).trans (DD _ q)
  refine Hc<|collect_list W.isList ⟨D,λh2 v t=>?_,λT v l c N hl t e=>?_⟩ B;have hu:=L.un;exact Sc (s:={s with heap:=v,toks:=s.toks}) ok (Hn (λb o q=>t b o<|d b o q) rd) (by omega) (by show X.A.units+1+1+64<_;omega);obtain⟨j,rfl,x⟩:=Db N g rfl;obtain⟨hd,hv⟩:=Y3 λz hz=>p z<|x.mem_iff.mp hz;have C:s.heap.objs.size<=l:=by refine K_ ?_ hl;rw[iZ];exact K_ (eJ _)<|gB (dG _ _).symm
  have ag:(j.map (·.2.1)).length<=sizeLine:=by rw[B_,x.length_eq,<- B_ (f:=(·.2.2)) (as:=g)];exact B
  have n:=I.hok.fresh C;refine⟨.ref l,_,I.laid (t':=s.toks) (λb o q=>t b o<|d b o q) C<|show Bp X.prog X.w _ v _ (.lst<|j.map (·.2.1)) from⟨ag,_,c,hv,e⟩,rfl,?_⟩;exact hq _ _ _ _ (Kp.new n _) (hc.new n<|C2 hd.rel) Du<|h (j.map (·.1)) l (x.map _)<|hc.none n;exact h.elim
 exact h.elim
end
end L2
namespace L2
open PySem PySem.Spec PySem.Calls PyProof.Rows
abbrev Qah:=oA AV->M->(AV->M->Prop)->(M->Prop)->Prop
def zk(k:Int):Key×V:=(.inl k,.int 0)
def fsb(N P:oA Str)(sc:lQ):Bool:=sc.kind==.function && !sc.isCoroutine && !sc.isGenerator&&decide N.Nodup&&decide (N.take P.length=P)&&P.all (λx=>sc.names.lookup x==some .local||sc.names.lookup x==some .cell)&&sc.names.all λy=>y.2 != .free
def Bt{N P:oA Str}{sc:lQ}(h:fsb N P sc=true):FnScope N P sc:=by unfold fsb at h;simp only[Bool.and_eq_true,Bool.not_eq_true',beq_iff_eq,decide_eq_true_iff,List.all_eq_true,Bool.or_eq_true,bne_iff_ne]at h;exact⟨h.1.1.1.1.1.1,h.1.1.1.1.1.2,h.1.1.1.1.2,h.1.1.1.2,h.1.1.2,h.1.2,h.2⟩
def vNo:AE:=λ_ _ _=>False
section
variable {X:Cx}{body suite:oA lN}{pos:Pos}{tb:AX->AS}
def GM{e:lJ}:VE X e vNo:=λc s d H Q I z=>B1 z λa b R _ _ h _=>h.elim
def QF:XA X λ_ _ _=>False:=by rintro c e H s a C d b I q R ⟨_,_,_,_,_,_,_,_,_,_,h⟩;exact h.elim
def XH(X:Cx)(d:oA<|lF×lM)(D:Ends)(hs:oA ExceptHandler):lC->lD->Prop:=λe b=>qV X.prog X.w X.A (noteFrame e X.env) (λ_ c=>qV X.prog X.w X.A (setFlight e none) (λ_ a=>
  qV X.prog X.w X.A (handleBy e X.env hs) (SP X d D) X.xe a) X.xe c) X.xe b
def Y4{h₀:ExceptHandler}{hs:oA ExceptHandler}{EXf:(ASt->M->Prop)->(AV->M->Prop)->(ASt->M->Prop)->(ASt->M->Prop)->AX}(hb:∀t w x,XA (X.taking t w) x->VSs (X.taking t w) body (tb x)) (C:∀d j H s D l nr m i,Inv X d j H s->LE' X.K X.H₀ l nr m i D->XA (X.taking (XH X d D<|h₀::hs)<|X.pn++d) (EXf l nr m i)):OT X (.Try body (h₀::hs) [] [] pos) λk r b c o n=>tb (EXf k r b c) k r b c o n:=by
 intro d s j H D I z;refine F4 z λo n l nr m i B hc h hq=>?_;refine wpAny_Try_except ?_;have ok:=I.ok;refine cD (hb _ (X.pn++d) _ (C d j H s D l nr m i I hq) [] s j H D I.take ⟨o,n,_,_,_,_,B,hc,h,hq.kp I.kp0⟩) (λfl A p=>?_) λe A he=>he;cases fl with
 |ret u=>obtain⟨v,a,f,g,y,q⟩:=p;exact⟨v,a,f,g.untake ok,y,q⟩
 |next=>obtain⟨a,f,g,q⟩:=p;exact gY ⟨a,f,g.untake ok,q⟩
 |_=>obtain⟨a,f,g,q⟩:=p;exact⟨a,f,g.untake ok,q⟩
def Y5{h₀:ExceptHandler}{hs:oA ExceptHandler}{t:AS}(hb:∀b a,VSs (X.taking b a) body t):OT X (.Try body (h₀::hs) [] [] pos) t :=
 Y4 (tb:=λ_=>t) (EXf:=λ_ _ _ _ _ _ _=>False) (λb a _ _=>hb b a) λ_ _ _ _ _ _ _ _ _ _ _=>QF
end
end L2
namespace L2
open PySem PySem.Spec PyProof.Rows
end L2
abbrev oD(a:PySem.Addr):Option L2.AV:=some<|.R a
abbrev oE(a:Int):Option L2.AV:=some<|.D<|.int a
abbrev oF(a:PySem.PyData):Option L2.AV:=some<|.D a
abbrev oG(a:List L2.AV):Option L2.MO:=some<|.lst a
abbrev oJ:List PySem.Str:=["_law_deal_here","_law_many_here"]
abbrev oK:List PySem.Str:=["pairs"]
abbrev oM:List PySem.Str:=["groups","least"]
abbrev oN:List PySem.Str:=["tops"]
abbrev oP:List PySem.Str:=["pairs","least"]
abbrev oQ:List PySem.Str:=["arrows","ends","stand","pile"]
abbrev oR:List PySem.Str:=["saying","place","pile"]
abbrev oS:List PySem.Str:=["_law_script"]
abbrev oU:List PySem.Str:=["_law_script","_law_base"]
abbrev oV:List PySem.Str:=["_law_cell"]
abbrev oW:List PySem.Str:=["_law_deal_here","_law_sizes","_law_hand"]
abbrev oX:List PySem.Str:=["_law_deal_here","_law_game_here","_law_own","_law_many_here","_law_most"]
abbrev oY:List PySem.Str:=["game","saying","arrows"]
abbrev oZ:List PySem.Str:=["end","places"]
abbrev qA:List PySem.Str:=["lows","bits"]
abbrev qB:List PySem.Str:=["cost","bits"]
abbrev qC:List PySem.Str:=["_law_game_here","_law_saying_here"]
abbrev qD:List PySem.Str:=["_law_many_here"]
abbrev qE:List PySem.Str:=["_law_deal_here","_law_sizes","_law_found"]
abbrev qF:List PySem.Str:=["_law_deal_here","_law_hands","_law_letters","_law_many_here","_law_most"]
abbrev qG:List PySem.Str:=["_law_deal_here","_law_stands","_law_most"]
abbrev qH:List PySem.Str:=["arrows","reading","letter"]
abbrev qI:List PySem.Str:=["pairs","others"]
abbrev qJ:List PySem.Str:=["tops","stand","w","least"]
abbrev qK:List PySem.Str:=["game","tops","least"]
abbrev qL:List PySem.Str:=["kept","found"]
abbrev qM:List PySem.Str:=["kept","waiting"]
abbrev qN:List PySem.Str:=["game","saying","most"]
abbrev qO:List PySem.Str:=["_law_k","_law_letters","_law_deal_here"]
abbrev qP:List PySem.Str:=["_law_k","_law_deal_here","_law_letters"]
abbrev qQ:List PySem.Str:=["_law_k","_law_hand","_law_deal_here"]
abbrev qR:List PySem.Str:=["_law_stand","_law_deal_here"]
abbrev qS:List PySem.Str:=["groups","least","found","group"]
abbrev qT:List PySem.Str:=["rest_cost","rest_bits","cost"]
abbrev qU:List PySem.Str:=["_law_letter","_law_pile_here"]
namespace K51
open PySem L2
def top(i:Nat):lN:=PySem.Challenge.pw_pileduel_k51_whole_a_set_of_its_own.main.body.getD i<|.Pass ⟨0,0,0,0⟩
abbrev MN:lN:=top 1
abbrev XN:lN:=top 7
abbrev UA:lN:=top 8
abbrev XO:lN:=top 9
abbrev XQ:lN:=top 10
abbrev XS:lN:=top 11
abbrev XT:lN:=top 12
abbrev XU:lN:=top 13
abbrev XV:lN:=top 14
abbrev XW:lN:=top 16
abbrev QG:lN:=top 17
abbrev UB:lN:=top 19
abbrev UC:lN:=top 20
abbrev UD:lN:=top 21
abbrev QH:lN:=top 22
abbrev XX:lN:=top 23
abbrev QI:lN:=top 24
abbrev QJ:lN:=top 25
abbrev XY:lN:=top 27
abbrev UE:lN:=top 28
abbrev XZ:lN:=top 29
abbrev QK:lN:=top 31
abbrev YA:lN:=top 32
abbrev UF:lN:=top 33
abbrev QL:lN:=top 34
abbrev UG:lN:=top 35
abbrev UH:lN:=top 36
abbrev UI:lN:=top 37
abbrev YB:lN:=top 38
abbrev YC:lN:=top 40
abbrev UJ:lN:=top 49
abbrev EA:lN:=top 50
section
variable {P:lH}{w:lI}{K:lG}{mg:Str->oB lC}{base:lL}{f:lF}{fd:lO}
def Gn(i:Int):AV:=.D<|.int i
def Gb(b a:Int)(l:lF):MO:=.dk [(.inr "seed",.D<|.int b),(.inr "number",.D<|.int a),(.inr "left",.R l)]
structure PotAt(μ:M)(a l:lF)(sd nm:Int)(ns:oA Int):Prop where
 ha:μ a=some (Gb sd nm l)
 hl:μ l=oG (ns.map Gn)
 s0:0<=sd
 s1:sd<2147483648
 n0:0<=nm
 p0:∀n∈ns,0<=n
 ne:a≠l
def Pot(b:M)(a l:lF):Prop:=∃d c ns,PotAt b a l d c ns
def YD:(.inr "seed" : Key)≠.inr "number" := by decide +kernel
def YE:(.inr "seed" : Key)≠.inr "left" := by decide +kernel
def YF:(.inr "number" : Key)≠.inr "left" := by decide +kernel
def QM:("seed" : Str) ≠ "number" := by decide +kernel
def YG:("seed" : Str) ≠ "left" := by decide +kernel
def YH:("number" : Str) ≠ "left" := by decide +kernel
def Qt{a b:Int}{l:lF}:dget (Gb a b l) (.str "seed")=some (oE a):=bO some Dp
def GN{b a:Int}{l:lF}:dget (Gb b a l) (.str "number")=some (oE a):=bO some<|(Cy YD).trans Dp
def Y6{b a:Int}{l:lF}:dget (Gb b a l) (.str "left")=some (oD l):=bO some<|(Cy YE).trans<|(Cy YF).trans Dp
def KN{b a v:Int}{l:lF}:dput (Gb b a l) (.str "seed") (.D<|.int v)=some (Gb v a l):=by refine bO some<|bO MO.dk ?_;simp[Ek,QM.symm,YG.symm]
def GO{a b v:Int}{l:lF}:dput (Gb a b l) (.str "number") (.D<|.int v)=some (Gb a v l):=by refine bO some<|bO MO.dk ?_;simp[Ek,QM,YH.symm]
def Mc{b a:Int}{l:lF}:dsize (Gb b a l)<sizeLine:=A5 (n:=3)<|by decide
def Bj(a l:lF)(d c:M):Prop:=∀b m,b≠a->b≠l->d b=some m->c b=some m
def Bj.refl{a l:lF}{b:M}:Bj a l b b:=λ_ _ _ _ h=>h
def Bj.trans{a l:lF}{g c d:M}(h:Bj a l g c)(k:Bj a l c d):Bj a l g d:=λb m h1 h2 e=>k b m h1 h2<|h b m h1 h2 e
def Bj.new{a l p:lF}{d c:M}{o:MO}(h:Bj a l d c)(e:c p=none):Bj a l d (Al c p o):=λb m h1 h2 q=>by have:=h b m h1 h2 q;rw[Ae<|by intro z;subst z;rw[e]at this;cases this];exact this
def Bj.put{a l p:lF}{c d:M}{o:MO}(h:Bj a l c d)(e:c p=none):Bj a l c (Al d p o):=λb m h1 h2 q=>by rw[Ae<|by intro z;subst z;rw[e]at q;cases q];exact h b m h1 h2 q
def Bj.a{a l:lF}{d c:M}{o:MO}(h:Bj a l d c):Bj a l d (Al c a o):=λb m h1 h2 q=>by rw[Ae h1];exact h b m h1 h2 q
def Bj.l{a l:lF}{d c:M}{o:MO}(h:Bj a l d c):Bj a l d (Al c l o):=λb m h1 h2 q=>by rw[Ae h2];exact h b m h1 h2 q
theorem Bj.none{a l p:lF}{b c:M}(h:Bj a l b c)(h1:a≠p)(h2:l≠p)(e:c p=none):b p=none:=by
 cases q:b p with
 |none=>rfl
 |some m=>rw[h p m h1.symm h2.symm q]at e;cases e
def PotAt.other{c:M}{a l p:lF}{d b:Int}{ns:oA Int}{o:MO}(h:PotAt c a l d b ns)(h1:a≠p)(h2:l≠p):PotAt (Al c p o) a l d b ns :=
 ⟨by rw[Ae h1];exact h.ha,by rw[Ae h2];exact h.hl,h.s0,h.s1,h.n0,h.p0,h.ne⟩
def Pot.other{b:M}{a l p:lF}{o:MO}(h:Pot b a l)(h1:a≠p)(h2:l≠p):Pot (Al b p o) a l:=by obtain⟨d,c,ns,h⟩:=h;exact⟨d,c,ns,h.other h1 h2⟩
def Pot.ne{b:M}{a l p:lF}(h:Pot b a l)(e:b p=none):a≠p/\l≠p:=by obtain⟨d,c,ns,h⟩:=h;exact⟨λz=>by(subst z;rw[h.ha]at e;cases e),λz=>by(subst z;rw[h.hl]at e;cases e)⟩
def Pot.new{b:M}{a l p:lF}{o:MO}(h:Pot b a l)(e:b p=none):Pot (Al b p o) a l:=h.other (h.ne e).1 (h.ne e).2
abbrev nDr:oA Str:=["_law_deal_here","_law_many_here","_law_number","_law_one","_law_other"]
def EB:FnScope nDr oJ (Ah YA):=Bt<|by decide +kernel
def Uy:ASp:=λd c R=>∃(a l:lF) (many:Nat),d=[.R a,.D<|.int many]/\Pot c a l/\0<many/\many<=1000000/\∀(v:Nat) (b:M),v<many->Pot b a l->Bj a l c b->R (.D<|.int v) b
def Y7{v:Int}{many:Nat}(h0:0<=v)(h1:v<many):∃n:Nat,v=n/\n<many:=⟨v.toNat,by omega,by omega⟩
def Y8(x:Int){m:Int}(h:0<m):0<=x%m:=gH x<|by omega
def Y9(x:Int){m:Int}(h:0<m)(h2:m<=2147483648):x%m<2147483648:=Int.lt_of_lt_of_le (iA x h) h2
def GP{x:Int}{many:Nat}{Q:Int->Prop}(h0:0<many)(h:∀v:Nat,v<many->Q v):Q (x%many):=by obtain⟨v,a,hv⟩:=Y7 (gH x<|show(many:Int)≠0 by omega) (iA x<|show 0<(many:Int) by omega);rw[a];exact h v hv
def QN{n:Nat}(F:Fun K "_law_draw" "_law_draw" YA f fd) (J:mg "len" = none):FnOk P w K mg base Dx (n+1) f fd oJ (E8 K 2 Uy):=by
 refine F.vok EB λV A t s H E h=>⟨_,(Af (Nd aF (VW.pt<|Gj (Bg (Hm h) (Dn (B0 h) (vv 0) B6) Ai<|nomark _)<|E7<|Bg Wu (Az C5 rfl J bD<|Aa (Dn (B0 h) (vv 0) B6) Ad) Ai<|nomark _)<|Aj<|Da (B0 h) (vv 0) B6<|JA PySem.F.slot_list_pop PySem.F.type_list_pop OJ<|Dn (B0 h) (vv 0) B6)<|Af (Ap (i:=2) EB.nd rfl oH<|Dn (B0 h) (vv 0) B6)<|Af (Dq (Bg Wu (vv 2) Ai<|nomark _) (Af (Da (B0 h) (vv 0) B6<|A6 IY (vv 2)<|vv 1)<|Aj<|A8<|A6 Gx (vv 2)<|vv 1) B4)<|Af (Ap (i:=3) EB.nd rfl oH<|A6 Gx (A6 B7 (A6 Gy (Dn (B0 h) (vv 0) B6) Ai) Ai) Ai)<|Af (Da (B0 h) (vv 0) B6<|A6 Gx (A6 B7 (A6 Gy (vv 3) Ai) Ai) Ai)<|Af (Ap (i:=4) EB.nd rfl oH<|A6 Gx (A6 Gy (Dn (B0 h) (vv 0) B6)<|Dn (B0 h) (vv 0) B6) Ai)<|Aj<|A8<|A6 Gx (A6 B7 (A6 Gy (A6 Gx (A6 Gy (vv 3)<|vv 3) Ai) Ai)<|vv 4)<|vv 1),?_⟩
 rintro O x R _ ⟨a,l,d,rfl,⟨g,e,ns,N⟩,h0,h1,q⟩;refine Ax (λj b=>∃g e ns,j=[oD a,oE d,none,none,none]/\PotAt b a l g e ns/\Bj a l x b) (λT B=>?_) ?_;refine Rm (λm j b=>∃g e ns,j=[oD a,oE d,none,none,none]/\m=ns.length/\PotAt b a l g e ns/\Bj a l x b) ns.length ⟨g,e,ns,rfl,rfl,N,Bj.refl⟩ ?_;rintro m j b W ⟨g,e,ns,rfl,rfl,D,S⟩ p;refine Ac D.ha<|Ac GN<|Ac rfl<|ieq (λc=>?_) λc=>O8 rfl<|B _ _ ⟨g,e,ns,rfl,D,S⟩;refine Ac D.ha<|Ac Y6<|Ac rfl<|Ac D.hl<|dif (λc2=>?_) λc2=>B _ _ ⟨g,e,ns,rfl,D,S⟩;have r:ns≠[]:=by rintro rfl;exact absurd c2<|by decide
 have I:(ns.map Gn)[(ns.map Gn).length-1]?=some (Gn<|ns.getLast r):=by rw[<- List.getLast?_eq_getElem?,List.getLast?_map,List.getLast?_eq_some_getLast r];rfl
 have M:(ns.map Gn).dropLast=ns.dropLast.map Gn:=by rw[List.map_dropLast]
 have y:Al b l (.lst (ns.map Gn).dropLast) a=some (Gb g e l):=by rw[Ae D.ne];exact D.ha
 have G:0<ns.length:=jQ.mpr r;refine Ac D.ha (Ac Y6<|Ac rfl ⟨Ac D.hl trivial,Ac D.hl<|Ac I<|Ac y<|Ac GO ⟨Mc,p ns.dropLast.length _ _ (by rw[jG];omega) ⟨g,ns.getLast r,ns.dropLast,rfl,rfl,?_,S.l.a⟩⟩⟩);exact⟨Ab,by rw[Ae D.ne.symm,Ab,M],D.s0,D.s1,D.p0 _<|List.getLast_mem r,λz hz=>D.p0 z<|(List.dropLast_sublist ns).subset hz,D.ne⟩;rintro j b ⟨g,e,ns,rfl,D,S⟩;refine Ck<|Ac D.ha<|Ac GN<|Ac rfl<|Ck<|dif (λc=>?_) λc=>?_;refine Ck ⟨⟨by omega,by omega⟩,Ac D.ha<|Ac GO ⟨Mc,(by show(0:Int)<_;omega),_,Sub.refl,?_⟩⟩;refine GP (Q:=λi=>R (.D<|.int i) _) h0 λv hv=>?_;exact q v _ hv ⟨g,e / d,ns,Ab,by rw[Ae D.ne.symm];exact D.hl,D.s0,D.s1,Int.ediv_nonneg D.n0<|dY _,D.p0,D.ne⟩ S.a;refine Ax (λj k=>∃one:Int,j=[oD a,oE d,oE e,oE one,none]/\b=k/\0<=one/\one<2147483648) (λW p=>?_) ?_;exact Ac D.ha (Ac Qt<|Ac rfl ⟨.inr ⟨by decide,by decide⟩,(by show(0:Int)<_;decide),p _ _ ⟨_,rfl,rfl,Y8 _<|by decide,Y9 _ (by decide)<|by decide⟩⟩);rintro j k ⟨one,rfl,rfl,X,Z⟩;refine Ax (λj k=>∃u:Int,j=[oD a,oE d,oE e,oE one,none]/\PotAt k a l u e ns/\Bj a l x k) (λW p=>?_) ?_;exact⟨.inr ⟨by decide,by decide⟩,(by show(0:Int)<_;decide),Ac D.ha<|Ac KN ⟨Mc,p _ _ ⟨_,rfl,⟨Ab,by rw[Ae D.ne.symm];exact D.hl,Y8 _<|by decide,Y9 _ (by decide)<|by decide,D.n0,D.p0,D.ne⟩,S.a⟩⟩⟩;rintro j L ⟨u,rfl,o,C⟩;have U:=o.s0;have Y:=o.s1;refine Ck (Ac o.ha<|Ac Qt<|Ac rfl<|Ac o.ha<|Ac Qt<|Ac rfl ⟨.inl ⟨by omega,by omega⟩,(by show(0:Int)<_;decide),?_⟩);refine⟨.inl ⟨by omega,by omega⟩,(by show(0:Int)<_;decide),.inr ⟨by decide,by decide⟩,(by show(0:Int)<_;omega),_,Sub.refl,?_⟩;exact GP (Q:=λi=>R (.D<|.int i) _) h0 λv hv=>q v _ hv ⟨u,e,ns,o⟩ C
abbrev YI:oA Str:=["_law_script","_law_base","_law_cell","_law_cells","_law_number"]
def Za:FnScope YI oU (Ah QK):=Bt<|by decide +kernel
def QO:(oV:oA Str).Nodup:=by decide +kernel
def QP:(oV:oA Str).Nodup:=by decide +kernel
def Hz(ns:oA Int):lE:=.list<|ns.map .int
def Uz(a:M)(ns:oA Int):items a (.D<|Hz ns)=some (ns.map Gn):=by show some ((ns.map PyData.int).map AV.D)=_;rw[aD];rfl
def Zb{a:Type}(g:a->AV)(xs:oA a)(lo hi:oB Int):∃b:oA a,Lq (xs.map g) lo hi=b.map g/\b.length<=xs.length:=by refine⟨(xs.drop<|HT.sIx (xs.map g).length 0 lo).take<|HT.sIx (xs.map g).length (xs.map g).length hi-HT.sIx (xs.map g).length 0 lo,?_,?_⟩;unfold Lq;rw[<- kN,<- jE];rw[bI,dZ];omega
def KO:ASp:=λe d R=>∃(ns:oA Int) (b:Nat),e=[.D<|Hz ns,.D<|.int b]/\b<1000/\ns.length<=63/\∀(a l:lF) (c:M),d a=none->d l=none->Pot c a l->Sub d c->R (.R a) c
def Qu(i:Int):Int:=if 0-i>i then 0-i else i
def KP(i:Int):0<=Qu i:=by unfold Qu;split<;>omega
def QQ{c:Int}{Q:Prop}(h:Q){x:Int}(hc:-(2^64)<c/\c<2^64:=by decide):CMul c x/\Q:=⟨.inl hc,h⟩
def QR{n:Nat}(F:Fun K "_law_deal" "_law_deal" QK f fd) (du:mg "max" = none) (bj:mg "list" = none) (a8:mg "reversed" = none):FnOk P w K mg base Dx (n+1) f fd oU (E8 K 2 KO):=by
 refine F.vok Za λaq A Q s H E hr=>⟨_,(Af (Fu (i:=3) (N':=oV) (mp:=[none]) rfl Za.nd rfl rfl (Bd<|C8 (vv 0) (Dl<|vv 1)<|Dl Ai) (λ_ _ _ _=>(Ak (i:=0) QO rfl oH oI)) (λ_ _ _ _=>Br) (λ_ _ _ _=>(Az (Ww rfl) rfl du PyProof.Rows.boot_max<|Aa (vv 0)<|Aa (A6 FW Ai<|vv 0) Ad))<|Av (N:=YI) (pn:=(Ah QK).names)<|by decide +kernel)<|Af (Ap (i:=4) Za.nd rfl oH<|A6 B7 Ai<|A6 Gy Ai<|vv 1)<|Af (B3 aF rfl (Bd<|vv 3) (Ak (i:=2) Za.nd rfl oH)<|Aj<|Ap (i:=4) Za.nd rfl oH<|A6 Gx (A6 B7 (A6 B7 (A6 Gy (vv 4) Ai)<|A6 Gx (vv 2) Ai) Ai) Ai)<|Aj<|A8<|CP (Lz (vv 4)<|Lz Ai<|Lz (DA rfl rfl bj rfl a8<|Bm (N':=oV) (mp:=[none]) rfl (Bd<|vv 3) (λ_ _ _ _=>(Ak (i:=0) QP rfl oH oI)) (λ_ _ _ _=>(Dr<|Bg OD (vv 0) (A6 OC Ai Ai)<|nomark _)) (λ_ _ _ _=>(vv 0))<|Av (N:=YI) (pn:=(Ah QK).names)<|by decide +kernel) CO)<|by decide +kernel),?_⟩
 rintro S T R _ ⟨ns,b,rfl,hb,hn,q⟩;obtain⟨G,Y,bn⟩:=Zb Gn ns (some (b:Int))<|some 63;refine Ax (λe C=>∃h,e=[oF<|Hz ns,oE b,none,oD h,none]/\T h=none/\C h=oG ((G.map Qu).map Gn)/\Sub T C) (λW I=>?_) ?_;refine Ac (Uz _ ns) λp hp=>?_;rw[Y];refine Ac (Ao Ab) λh m=>?_;have am:p≠h:=by intro z;subst z;rw[Ab]at m;cases m
 have X:T h=none:=by rw[Ae am.symm]at m;exact m
 refine cmap G Gn (λi=>Gn<|Qu i) (λe=>∃o,e=[o]) ⟨_,rfl⟩ Ab (seven<|by omega) (λt=>Ao<|by rw[Ae am,Ae am,Ab]) ?_ ?_;rintro i x V t W2 hi ⟨o,rfl⟩ hW2;exact hW2 _ ⟨_,rfl⟩;refine I _ _ ⟨h,rfl,X,?_,((Sub.refl.new hp).new X).new X⟩;rw[Ab,aD];rfl;rintro e j ⟨h,rfl,ff,m,r⟩;refine Ax (λe d=>∃g:Int,e=[oF<|Hz ns,oE b,none,oD h,oE g]/\j=d/\0<=g/\g<2147483648) (λW I=>QQ<|I _ _ ⟨_,rfl,rfl,by omega,by omega⟩) ?_;rintro e d ⟨Z,rfl,rfl,z0,z1⟩;refine Ax (λe d=>∃(u:oB AV) (g:Int),e=[oF<|Hz ns,oE b,u,oD h,oE g]/\j=d/\0<=g/\g<2147483648) (λW I=>?_) ?_;refine Ac (Ao m) ?_;refine Cp (λi e d=>∃(u:oB AV) (g:Int),e=[oF<|Hz ns,oE b,u,oD h,oE g]/\j=d/\0<=g/\g<2147483648) ⟨none,Z,rfl,rfl,z0,z1⟩ ?_ ?_ ?_;rintro i e d ⟨u,g,rfl,rfl,_⟩;exact Ao m;rintro i y e d W2 hy ⟨u,g,rfl,rfl,h0,h1⟩ hW2;rw[L_]at hy;obtain⟨c,hc,rfl⟩:=G_.mp hy;exact⟨.inr ⟨by decide,by decide⟩,(by show(0:Int)<_;decide),(by show(0:Int)<_;decide),hW2 _ _ ⟨_,_,rfl,rfl,Y8 _<|by decide,Y9 _ (by decide)<|by decide⟩⟩;rintro e d ⟨u,g,rfl,rfl,h0,h1⟩;exact I _ _ ⟨_,_,rfl,rfl,h0,h1⟩;rintro e d ⟨u,g,rfl,rfl,h0,h1⟩;intro a ha;have wb:a≠h:=by intro z;subst z;rw[m]at ha;cases ha
 have U:Al j a (.dk []) h=oG ((G.map Qu).map Gn):=by rw[Ae wb.symm];exact m
 refine Ac (Ao U) λM k=>?_;have J:a≠M:=by intro z;subst z;rw[Ab]at k;cases k
 have tw:h≠M:=by intro z;subst z;rw[U]at k;cases k
 have pi:j M=none:=by rw[Ae J.symm]at k;exact k
 refine cmapf (G.map Qu) Gn (λx=>decide ((10:Int)^(18:Int).toNat<=x)) Gn (λe=>∃o,e=[o]) ⟨none,rfl⟩ Ab (seven<|by rw[B_];omega) (λt=>Ao<|by rw[Ae tw,Ae tw];exact U) ?_ ?_;rintro i x V t W2 W3 hi ⟨o,rfl⟩ h2 h3;exact⟨⟨by decide,by decide,by decide⟩,br (λc=>h2 c _ ⟨_,rfl⟩) λc=>h3 c _ ⟨_,rfl⟩⟩;generalize gu:(G.map Qu).filter (λx=>decide ((10:Int)^(18:Int).toNat<=x))=S;have O:∀x∈S,0<=x:=λx hx=>by rw[<- gu]at hx;obtain⟨z,_,rfl⟩:=D_.mp (bJ.mp hx).1;exact KP z
 refine Ac Ab λl v=>?_;have cw:M≠l:=by intro z;subst z;rw[Ab]at v;cases v
 have L:a≠l:=by intro z;subst z;rw[Ae J,Ae J,Ab]at v;cases v
 have B:j l=none:=by rw[Ae cw.symm,Ae cw.symm,Ae L.symm]at v;exact v
 refine⟨by rw[Ae L,Ae J,Ae J,Ab],_,Sub.refl,q a l _ (r.none ha) (r.none B) ⟨g,0,S.reverse,Ab,?_,h0,h1,jI 0,λz hz=>O z<|List.mem_reverse.mp hz,L⟩ ?_⟩;rw[Ae L.symm,Ab,List.map_reverse];exact((((r.new<|r.none ha).new<|r.none pi).new<|r.none pi).new<|r.none B).new<|r.none ha
def Bc(ns:oA Nat):lE:=.tuple<|ns.map λ(n:Nat)=>.int n
theorem Eg{a:Type} [DecidableEq a]:∀{xs ys:oA a},xs.Nodup->(∀x∈xs,x∈ys)->xs.length<=ys.length
 |[],_,_,_=>aJ _
 |x::xs,ys,c,h=>by have hx:=h x aS;obtain⟨d,b⟩:=cB.mp c;have:=Eg (xs:=xs) (ys:=ys.erase x) b λz hz=>(List.mem_erase_of_ne<|by rintro rfl;exact d hz).mpr<|h z<|aH _ hz;rw[List.length_erase_of_mem hx]at this;have hp:0<ys.length:=iP hx;simp only[List.length_cons];omega
def Og{l:Type} [DecidableEq l](k g:l)(v:AV):∀(kvs:oA<|l×AV),Cl (Ek kvs k v) g=if g=k then some v else Cl kvs g:=by
 intro kvs;unfold Ek;split
 ·rename_i h
  induction kvs with
  |nil=>simp at h
  |cons d kvs j=>
   rw[aP];by_cases e:d.1=k;rw[T_ e];by_cases c:g=k;rw[T_ c,c,e];exact Dp;rw[M_ c];obtain⟨a,b⟩:=d;have n:a=k:=e;subst n;rw[Cy<|bN c,Cy<|bN c];by_cases h2:(kvs.any λd=>decide (d.1=a))=true;rw[j h2,M_ c];congr 1;refine(fD λz hz=>?_).trans<|List.map_id kvs;rw[M_]
   rfl
   intro m;exact h2<|bP.mpr ⟨z,hz,aW m⟩;rw[M_ e];obtain⟨a,b⟩:=d;have h2:(kvs.any λd=>decide (d.1=k))=true:=by rw[eO,aQ e,kK]at h;exact h
   by_cases i:a=g;subst i;rw[Dp,M_ e];exact Dp.symm;rw[Cy i,Cy i,j h2]
 ·rename_i h
  induction kvs with
  |nil=>by_cases c:g=k;rw[T_ c,c];exact Dp;rw[M_ c];show Cl ((k,v)::[]) g=_;rw[Cy<|bN c]
  |cons d kvs j=>
   obtain⟨a,b⟩:=d;have h1:a≠k:=by intro z;apply h;rw[eO,aW z];rfl
   have h2:¬(kvs.any λd=>decide (d.1=k))=true:=by intro z;apply h;rw[eO,z,Bool.or_true]
   show Cl ((a,b)::(kvs++[(k,v)])) g=_;by_cases i:a=g;subst i;rw[Dp,M_ h1];exact Dp.symm;rw[Cy i,j h2,Cy i]
def Bo{a:M}(ns:oA Nat):items a (.D<|Bc ns)=some (ns.map λ(n:Nat)=>.D<|.int n):=by show some ((ns.map λ(n:Nat)=>PyData.int n).map AV.D)=_;rw[aD];rfl
def Ip{ns:oA Nat}:PyData.canLayAll0 (ns.map λ(n:Nat)=>.int n)=true/\PyData.depthAll (ns.map λ(n:Nat)=>.int n)<=1:=by
 induction ns with
 |nil=>exact⟨rfl,by simp[PyData.depthAll]⟩
 |cons n ns a=>simp only[List.map_cons,PyData.canLayAll0,PyData.depthAll,a.1,Bool.and_true];refine⟨rfl,?_⟩;have:=a.2;simp only[PyData.depth];omega
def La{ns:oA Nat}:B9 (Bc ns):=⟨by simp only[Bc,PyData.canLay0];exact Ip.1,by have:=(Ip (ns:=ns)).2;simp only[Bc,PyData.depth];omega⟩
def Zc{a:Type}{L:oA a}{g:a->Bool}{i:Nat}{x:a}(h:L[i]?=some x):(L.take<|i+1).any g=((L.take i).any g||g x):=by rw[aO,h,List.any_append];simp
def Zd{a:Type} [DecidableEq a](kvs:oA<|a×AV)(k:a)(v:AV):(Ek kvs k v).length<=kvs.length+1:=by unfold Ek;split;rw[B_];omega;rw[P_];exact F_ _
def Bh(n:Nat):AV:=.D<|.int n
def D9(ns:oA Nat):dats (ns.map Bh)=some (ns.map λ(n:Nat)=>.int n):=by rw[show ns.map Bh=(ns.map λ(n:Nat)=>PyData.int n).map .D by rw[aD];rfl];exact Cc _
theorem Ia:∀(ns:oA Nat),A3 (ns.map λ(n:Nat)=>.int n)=true
 |[]=>rfl
 |n::ns=>by simp only[List.map_cons,A3,Cano,Ia ns,Bool.and_self]
theorem Oh:∀(a ns:oA Nat),cmpbs (a.map λ(n:Nat)=>.int n) (ns.map λ(n:Nat)=>.int n)=true
 |[],_=>by simp only[List.map_nil,cmpbs]
 |_::_,[]=>by simp only[List.map_nil,List.map_cons,cmpbs]
 |m::a,n::ns=>by simp only[List.map_cons,cmpbs,cmpb,Oh a ns,ite_self]
theorem unmap{c d:Type}{g:c->d}{B:oA c}:∀{es:oA d},(∀e∈es,e∈B.map g)->∃A:oA c,es=A.map g/\A.length=es.length/\∀a∈A,a∈B
 |[],_=>⟨[],rfl,rfl,λ_ z=>nomatch z⟩
 |e::es,h=>by obtain⟨A,rfl,j,i⟩:=unmap (es:=es) λx hx=>h x<|aH _ hx;obtain⟨a,ha,rfl⟩:=D_.mp<|h e aS;refine⟨a::A,rfl,by simp,λb hb=>?_⟩;rcases aB.mp hb with rfl|hb;exact ha;exact i b hb
def Dc(z:Str):AV:=.D<|.str z
def EC{z:Str}(h:lets z):PyData.canLay0 (.str z)=true:=by show PyData.strOk z=true;unfold PyData.strOk;rw[Array.all_eq_true];intro i hi;have:=h z.cps[i] (by simp);simp;omega
def U0{z:Str}(h:lets z):B9 (.str z):=W5<|EC h
def Oi(a:oA Str):dats (a.map Dc)=some (a.map PyData.str):=by rw[show a.map Dc=(a.map PyData.str).map .D by rw[aD];rfl];exact Cc _
theorem Oj:∀(a:oA Str),txts (a.map Dc)=some a
 |[]=>rfl
 |z::a=>by simp only[List.map_cons,Dc,txts,Option.map_eq_some_iff];exact⟨a,Oj a,rfl⟩
def ED:∀i:Fin 26,∃c,("abcdefghijklmnopqrstuvwxyz" : Str).cps.toList[i.val]?=some c/\97<=c/\c<=122:=by decide +kernel
def Ze{v:Nat}(h:v<26):∃c,atI ("abcdefghijklmnopqrstuvwxyz" : Str).cps.toList (v:Int)=some c/\97<=c/\c<=122:=by obtain⟨c,e,h1⟩:=ED ⟨v,h⟩;exact⟨c,A0 e,h1⟩
def Ol{c:Nat}(h:97<=c/\c<=122):lets ⟨#[c]⟩:=λd a=>by
 have:d=c:=by simpa using a
 rw[this];exact h
def Zf:("abcdefghijklmnopqrstuvwxyz" : Str).length<=sizeLine:=by decide +kernel
def Zg:("" : Str).length=0:=by decide +kernel
def Fb(x y:Str):(x++y).length=x.length+y.length:=by rw[C0,C0,C0,G8,P_]
theorem Om:∀{a:oA Str},(∀z∈a,z.length=1)->(a.map (·.length)).sum=a.length
 |[],_=>rfl
 |z::a,h=>by simp only[List.map_cons,List.sum_cons,List.length_cons];rw[h z aS,Om λy hy=>h y<|aH _ hy];omega
def U1(a:oA Str):(Txt.join "" a).length=(a.map (·.length)).sum:=by
 show(PySem.Builtin.Str.glued "" a).length=_;rw[StrLaws.glued_eq_join]
 induction a with
 |nil=>rfl
 |cons x a b=>
  cases a with
  |nil=>simp[Str.join]
  |cons y a=>have e:Str.join "" (x::y::a)=x ++ "" ++ Str.join "" (y::a):=rfl;rw[e,Fb,Fb,Zg,b];simp
def EE{x:Str}{j:Nat}(h:lets x)(hj:j<=x.length):lets (Txt.slice x none<|some (j:Int)):=λc hc=>by rw[Jq (by omega)<|by omega]at hc;exact h c<|eV hc
def U2{x:Str}{j:Nat}(h:lets x)(hj:j<=x.length):lets (Txt.slice x (some (j:Int)) none):=λc hc=>by rw[Gm (by omega)<|by omega]at hc;exact h c<|fO hc
def KQ{x:Str}{j:Nat}(hj:j<=x.length):(Txt.slice x none<|some (j:Int)).length=j:=by rw[C0,Jq (by omega)<|by omega,bI,<- C0];omega
def Zh{x:Str}{j:Nat}(hj:j<=x.length):(Txt.slice x (some (j:Int)) none).length=x.length-j:=by rw[C0,Gm (by omega)<|by omega,dZ,<- C0];omega
def KR:lets "q" := λc h=>by rw[PF,H_]at h;omega
abbrev Gc:oA Str:=["place","letter","rule","own","arrow","ends","one","other"]
def U3:B9 (.tuple<|Gc.map PyData.str):=⟨by decide +kernel,by decide +kernel⟩
def QS{x:AV}{i:Nat}{u:AS}{k:ASt->M->Prop}{r:AV->M->Prop}{b c:ASt->M->Prop}{τ:ASt}{a:M}(h:u k r b c (τ.set i<|some x) a):Tv (Tw (vC x)<|D3 i) u k r b c τ a:=h
abbrev YY:oA Str:=["_law_deal_here","_law_many_here","_law_letters","_law_kept","_law_k","_law_core","_law_at","_law_turn","_law_found","_law_name"]
def Md:FnScope YY oJ (Ah UF):=Bt<|by decide +kernel
def QT:(qO:oA Str).Nodup:=by decide +kernel
structure Nms(zs:oA Str):Prop where
 l:∀z∈zs,lets z
 n:∀z∈zs,z.length<=7
 d:zs.Nodup
def KS:∀i:Fin 26,("abcdefghijklmnopqrstuvwxyz" : Str).cps.toList[i.val]?=some (97+i.val):=by decide +kernel
def Vl(b:Str)(a tn k:Nat):Str:=Txt.slice b none (some (a:Int))++(⟨#[97+(((tn:Int)+7*(0+(k:Int)))%26).toNat]⟩:Str)++Txt.slice b (some (a:Int)) none
def Sd{b:Str}{a tn:Nat}(h:a<=b.length)(k:Nat):(Vl b a tn k).cps.toList=b.cps.toList.take a++[97+(((tn:Int)+7*(0+(k:Int)))%26).toNat]++b.cps.toList.drop a:=by unfold Vl;rw[G8,G8,Jq (by omega)<|by omega,Gm (by omega)<|by omega,cP]
def Se{b:Str}{a tn:Nat}(h:a<=b.length)(k:Nat):(Vl b a tn k).length=b.length+1:=by rw[C0,Sd h,C0 b];rw[C0]at h;simp only[List.length_append,List.length_take,List.length_drop,List.length_singleton];omega
def n26{t i j:Int}(a:0<=i)(hi:i<26)(b:0<=j)(hj:j<26)(e:(t+7*(0+i))%26=(t+7*(0+j))%26):i=j:=by have d:=Int.dvd_of_emod_eq_zero<|gR.mp e;rw[Int.add_sub_add_left,<- Int.mul_sub,Int.zero_add,Int.zero_add]at d;have d:=Int.dvd_sub (Int.dvd_trans d<|Int.dvd_mul_left 15 _)<|Int.dvd_mul_right 26<|4*(i-j);rw[<- Int.mul_assoc,<- Int.mul_assoc,<- Int.sub_mul,show(15*7-26*4:Int)=1 from rfl,Int.one_mul]at d;have d:=gR.mpr<|Int.emod_eq_zero_of_dvd d;rwa[Int.emod_eq_of_lt a hi,Int.emod_eq_of_lt b hj]at d
def EF{b:Str}{a tn i j:Nat}(h:a<=b.length)(hi:i<26)(hj:j<26)(e:Vl b a tn i=Vl b a tn j):i=j:=by have e:=bO (λs:Str=>s.cps.toList) e;simp only[Sd h]at e;have e:=List.append_cancel_left<|List.append_cancel_right e;injection e with e;have e:=bO Int.ofNat<|jR e;rw[Int.ofNat_eq_natCast,Int.ofNat_eq_natCast,Int.toNat_of_nonneg<|gH _<|by decide,Int.toNat_of_nonneg<|gH _<|by decide]at e;exact fS<|n26 (dY _) (Int.ofNat_lt.mpr hi) (dY _) (Int.ofNat_lt.mpr hj) e
def MP(b:Str)(a tn n:Nat)(c:oA Str):Prop:=∀x∈c,∃j,j<n/\∃z:Str,(z = "q" \/ z=Str.empty)/\x=Vl b a tn j++z
def qe_len{z:Str}(h:z = "q" \/ z=Str.empty):(z = "q" /\ z.length=1)\/(z=Str.empty/\z.length=0):=by rcases h with rfl|rfl;exact .inl ⟨rfl,by decide +kernel⟩;exact .inr ⟨rfl,rfl⟩
def MP.new{i:Str}{g tn n:Nat}{k:oA Str}(D:MP i g tn n k)(h:g<=i.length)(hn:n<26){z:Str}(hz:z = "q" \/ z=Str.empty):Vl i g tn n++z∉k:=λr=>by
 obtain⟨j,hj,q,t,e⟩:=D _ r;have m:=bO Str.length e;rw[Fb,Fb,Se h,Se h]at m;have o:z=q:=by rcases qe_len hz with⟨a,b⟩|⟨a,b⟩<;>rcases qe_len t with⟨c,d⟩|⟨c,d⟩<;>first|(rw[a,c];done)|(exfalso;omega)
 subst o;have l:=bO (λs:Str=>s.cps.toList) e;simp only[G8]at l;have p:Vl i g tn n=Vl i g tn j:=CA<|List.append_cancel_right l;have:=EF h hn (by omega) p;omega
def MP.step{b:Str}{a tn n:Nat}{c:oA Str}(D:MP b a tn n c){z:Str}(hz:z = "q" \/ z=Str.empty):MP b a tn (n+1) (c++[Vl b a tn n++z]):=λx hx=>by rcases Q_.mp hx with h|h;obtain⟨j,hj,r⟩:=D x h;exact⟨j,by omega,r⟩;rw[H_.mp h];exact⟨n,dO _,z,hz,rfl⟩
def J0{c:Type}{xs:oA c}{x:c}(h:xs.Nodup)(hx:x∉xs):(xs++[x]).Nodup:=by rw[aX];refine⟨h,cB.mpr ⟨by simp,a_⟩,λa ha b hb e=>?_⟩;rw[H_.mp hb]at e;exact hx<|e ▸ ha
def QU:ASp:=λd c R=>∃(a l:lF) (many:Nat),d=[.R a,.D<|.int many]/\many<=5/\Pot c a l/\∀(b:oA Str) (p:lF) μ',b.length=many->Nms b->c p=none->μ' p=oG (b.map Dc)->Pot μ' a l->Bj a l c μ'->R (.R p) μ'
def QV{n:Nat}(F:Fun K "_law_names" "_law_names" UF f fd) (dh:VCal P w K mg base n "_law_draw" oJ Uy) (ah:mg "range" = none) (ai:mg "len" = none) (dq:mg "int" = none):FnOk P w K mg base Dx (n+1) f fd oJ (E8 K 2 QU):=by
 refine F.vok Md λaq A outer s H E hr=>⟨_,(Af (Ap (i:=2) Md.nd rfl oI B6)<|Af (Ap (i:=3) Md.nd rfl oH<|Bn<|Aa B6<|Aa B6<|Aa B6<|Aa B6<|Aa B6<|Aa B6<|Aa B6<|Aa B6 Ad)<|Af (Ap (i:=5) Md.nd rfl oH<|OH PySem.F.slot_str_join PySem.F.type_str_join JS B6<|Aa (Bm (N':=qO) (mp:=[none,some 2,some 0]) rfl (Cd rfl ah<|Aa (Am dh hr rfl<|Aa (vv 0)<|Aa Ai Ad) Ad) (λ_ _ _ _=>(Ak (i:=0) QT rfl oH oI)) (λ_ _ _ _=>Br) (λ_ _ _ _=>(Bk Cb (vv 1)<|Am dh hr rfl<|Aa (vv 2)<|Aa Ai Ad))<|Av (N:=YY) (pn:=(Ah UF).names)<|by decide +kernel) Ad)<|Af (Ap (i:=6) Md.nd rfl oH<|Am dh hr rfl<|Aa (vv 0)<|Aa (A6 B7 (Az C5 rfl ai bD<|Aa (vv 5) Ad) Ai) Ad)<|Af (Ap (i:=7) Md.nd rfl oH<|Am dh hr rfl<|Aa (vv 0)<|Aa Ai Ad)<|Af (Ap (i:=8) Md.nd rfl oH<|B2 Ad)<|Af (B3 aF rfl (Cd rfl ah<|Aa (vv 1) Ad) (Ak (i:=4) Md.nd rfl oH)<|Af (Ap (i:=9) Md.nd rfl oH<|A6 B7 (A6 B7 (C8 (vv 5) Ed<|Dl<|vv 6)<|Bk Cb (vv 2)<|A6 Gx (A6 B7 (vv 7)<|A6 Gy Ai<|vv 4) Ai)<|C8 (vv 5) (Dl<|vv 6) Ed)<|Aj<|B5<|Ee bY bZ C9 (vv 8)<|Aa (A6 B7 (vv 9)<|A6 Gy B6<|Bu GB rfl dq PyProof.Rows.boot_int<|Aa (Wq (WD hr) (vv 9) (vv 3)<|by with_unfolding_all rfl) Ad) Ad)<|Aj<|A8<|vv 8),?_⟩
 rintro xs M R _ ⟨a,l,many,rfl,hm,hP,q⟩;refine QS<|Ax (λk b=>k=[oD a,oE many,some<|Dc "abcdefghijklmnopqrstuvwxyz",oF<|.tuple<|Gc.map PyData.str,none,none,none,none,none,none]/\M=b) (λZ C=>C _ _ ⟨rfl,rfl⟩) ?_;rintro k _ ⟨rfl,rfl⟩;refine Ax (λk b=>∃r:Str,k=[oD a,oE many,some<|Dc "abcdefghijklmnopqrstuvwxyz",oF<|.tuple<|Gc.map PyData.str,none,some<|Dc r,none,none,none,none]/\lets r/\r.length<=4/\Pot b a l/\Bj a l M b) (λZ C=>?_) ?_;refine⟨trivial,a,l,5,rfl,hP,by decide,by decide,λc μ1 hc P1 S1=>⟨by omega,by omega,λpl I=>?_⟩⟩;have J:=P1.ne I;have ag:(Ej 0 (c:Int).toNat).length=c:=by rw[Bq];omega
 refine E9 (λj G k b=>∃(o:oB AV) (p:oA Str),k=[o,some<|Dc "abcdefghijklmnopqrstuvwxyz",oD a]/\G=p.map Dc/\p.length=j/\(∀z∈p,lets z/\z.length=1)/\b pl=oG G/\Pot b a l/\Bj a l μ1 b) ⟨none,[],rfl,rfl,rfl,(λ_ z=>nomatch z),Ab,P1.new I,Bj.refl.new I⟩ (λ_ _ _ _ _=>trivial) ?_ ?_;rintro j x G k T Z2 hx ⟨o,p,rfl,rfl,u,hb,e2,O,Q⟩ hZ2;refine Pl rfl ⟨a,l,26,rfl,O,by decide,by decide,λv μ3 hv X S=>?_⟩;have e3:=S pl _ J.1.symm J.2.symm e2;obtain⟨L,ec,fg⟩:=Ze hv;have hj:j<c:=by rw[<- ag];exact(E_.mp hx).1
 refine⟨Zf,Ac ec ⟨e3,A5<|by rw[B_];omega,hZ2 _ _ _ ⟨_,p++[⟨#[L]⟩],rfl,by rw[N_];rfl,by rw[P_,u];rfl,λz hz=>?_,Ab,X.other J.1 J.2,(Q.trans S).put I⟩⟩⟩;rcases Q_.mp hz with h|h;exact hb z h;rw[H_.mp h];exact⟨Ol fg,rfl⟩;rintro G k T ⟨o,p,rfl,rfl,u,hb,e2,O,Q⟩;rw[ag]at u;have on:=Om λz hz=>(hb z hz).2;refine Ac e2<|Ac (Oj p) ⟨?_,C _ _ ⟨Txt.join "" p,rfl,Ui λz hz=>(hb z hz).1,?_,O,S1.trans Q⟩⟩;rw[on,Zg];omega;rw[U1,on];omega;rintro k μ1 ⟨r,rfl,lc,hc4,P1,S1⟩;have fh:r.length<=sizeLine:=K_ hc4 (by decide);refine Ax (λk b=>∃g:Nat,k=[oD a,oE many,some<|Dc "abcdefghijklmnopqrstuvwxyz",oF<|.tuple<|Gc.map PyData.str,none,some<|Dc r,oE g,none,none,none]/\g<=r.length/\Pot b a l/\Bj a l M b) (λZ C=>?_) ?_;exact⟨fh,a,l,r.length+1,rfl,P1,by omega,by omega,λv T hv O Q=>C _ _ ⟨v,rfl,by omega,O,S1.trans Q⟩⟩;rintro k T ⟨g,rfl,kg,O,Q⟩;refine Ax (λk b=>∃tn:Nat,k=[oD a,oE many,some<|Dc "abcdefghijklmnopqrstuvwxyz",oF<|.tuple<|Gc.map PyData.str,none,some<|Dc r,oE g,oE tn,none,none]/\Pot b a l/\Bj a l M b) (λZ C=>?_) ?_;exact⟨a,l,26,rfl,O,by decide,by decide,λv μ3 hv X S=>C _ _ ⟨v,rfl,X,Q.trans S⟩⟩;rintro k μ3 ⟨tn,rfl,X,S⟩;intro B cq;have J:=X.ne cq;have jv:M B=none:=S.none J.1 J.2 cq;refine Ax (λk b=>∃W U p,k=[oD a,oE many,some<|Dc "abcdefghijklmnopqrstuvwxyz",oF<|.tuple<|Gc.map PyData.str,W,some<|Dc r,oE g,oE tn,oD B,U]/\p.length=many/\Nms p/\b B=oG (p.map Dc)/\Pot b a l/\Bj a l M b) (λZ C=>?_) ?_
 ·refine⟨by omega,by omega,?_⟩;have ag:(Ej 0 (many:Int).toNat).length=many:=by rw[Bq];omega
  refine Cp (λi k b=>∃W U p,k=[oD a,oE many,some<|Dc "abcdefghijklmnopqrstuvwxyz",oF<|.tuple<|Gc.map PyData.str,W,some<|Dc r,oE g,oE tn,oD B,U]/\p.length=i/\Nms p/\MP r g tn i p/\b B=oG (p.map Dc)/\Pot b a l/\Bj a l M b) ⟨none,none,[],rfl,rfl,⟨(λ_ z=>nomatch z),(λ_ z=>nomatch z),a_⟩,(λ_ z=>nomatch z),Ab,X.new cq,S.new cq⟩ (λ_ _ _ _=>trivial) ?_ ?_
  ·rintro i y k t Z2 hy ⟨W,U,p,rfl,u,hz,hD,V,P4,S4⟩ hZ2;have hi:i<many:=by rw[<- ag];exact(E_.mp hy).1
   have ey:=Gz _ _ _ hy;subst ey;obtain⟨v,ev,hv⟩:=Y7 (many:=26) (v:=((tn:Int)+7*(0+(i:Int)))%26) (gH _<|by decide) (iA _<|by decide);obtain⟨L,ec,fg⟩:=Ze hv;have hcv:L=97+v:=by have:=A0<|KS ⟨v,hv⟩;exact(bA<|ec.symm.trans this)
   rw[<- ev]at ec;have sm:Txt.slice r none (some (g:Int))++(⟨#[L]⟩:Str)++Txt.slice r (some (g:Int)) none=Vl r g tn i:=by unfold Vl;rw[ev,cP,hcv]
   have Y:=EE lc kg;have zn:=U2 lc kg;have ln1:=KQ kg;have ln2:=Zh kg;generalize bo:Txt.slice r none (some (g:Int))=s1 at Y ln1 sm;generalize b8:Txt.slice r (some (g:Int)) none=s2 at zn ln2 sm;have l1:(s1++(⟨#[L]⟩:Str)).length=s1.length+1:=by rw[Fb];rfl
   have l2:(s1++(⟨#[L]⟩:Str)++s2).length=s1.length+1+s2.length:=by rw[Fb,l1]
   have wz:lets (s1++(⟨#[L]⟩:Str)++s2):=Fr (Fr Y<|Ol fg) zn;refine Ax (λk b=>k=[oD a,oE many,some<|Dc "abcdefghijklmnopqrstuvwxyz",oF<|.tuple<|Gc.map PyData.str,oE<|0+(i:Int),some<|Dc r,oE g,oE tn,oD B,some<|Dc<|s1++(⟨#[L]⟩:Str)++s2]/\t=b) (λZ3 bu=>?_) ?_;subst bo b8;refine⟨fh,.inl<|by decide,(show(0:Int)<26 by decide),Zf,Ac ec ⟨?_,fh,?_,bu _ _ ⟨rfl,rfl⟩⟩⟩;show _+1<=sizeLine;exact K_ (show _<=10 by omega) (by decide);rw[l1];exact K_ (show _<=10 by omega) (by decide);rintro k _ ⟨rfl,rfl⟩;generalize (s1++(⟨#[L]⟩:Str)++s2)=nm at l2 wz sm;refine⟨Ac V trivial,Ac rfl ⟨U0 wz,U3,?_⟩⟩;have fin:∀z:Str,lets z->z.length<=1->(z = "q" \/ z=Str.empty)->nm.length+z.length<=sizeLine/\opt (t B) λm=>match m with
     |.lst ys=>ys.length<sizeLine/\Z2 [oD a,oE many,some<|Dc "abcdefghijklmnopqrstuvwxyz",oF<|.tuple<|Gc.map PyData.str,oE<|0+(i:Int),some<|Dc r,oE g,oE tn,oD B,some<|Dc nm] (Al t B<|.lst<|ys++[Dc<|nm++z])
     |_=>False:=λz lz l7 zf=>by
    refine⟨K_ (show _<=10 by omega)<|by decide,Ac V ⟨A5<|by rw[B_];omega,hZ2 _ _ ⟨_,_,p++[nm++z],rfl,by rw[P_,u];rfl,⟨λx hx=>?_,λx hx=>?_,J0 hz.d<|by rw[sm];exact hD.new kg (by omega) zf⟩,by rw[sm];exact hD.step zf,by rw[Ab,N_];rfl,P4.other J.1 J.2,S4.put jv⟩⟩⟩;rcases Q_.mp hx with h|h;exact hz.l x h;rw[H_.mp h];exact Fr wz lz;rcases Q_.mp hx with h|h;exact hz.n x h;rw[H_.mp h,Fb];omega
   cases hb:(Gc.map PyData.str).any λe=>PyData.eqv e (.str nm) with
   |true=>exact⟨.inr rfl,fin "q" KR (by decide +kernel)<|.inl rfl⟩
   |false=>exact⟨.inl rfl,fin Str.empty (λc h=>by simp[Str.empty]at h) (by decide +kernel)<|.inr rfl⟩
  rintro k t ⟨W,U,p,rfl,u,hz,_,V,P4,S4⟩;rw[ag]at u;exact C _ _ ⟨_,_,p,rfl,u,hz,V,P4,S4⟩
 rintro k t ⟨W,U,p,rfl,u,hz,V,P4,S4⟩;exact⟨_,Sub.refl,q p B _ u hz jv V P4 S4⟩
structure Rul where
 p:Nat
 x:Nat
 q:Nat
 w:oA Nat
deriving DecidableEq
def De(r:Rul):lE:=.tuple [.int r.p,.int r.x,.int r.q,Bc r.w]
def Di(r:Rul):AV:=.D<|De r
structure RulOk(pl le:Nat)(r:Rul):Prop where
 p:r.p<pl
 x:r.x<le
 q:r.q<pl
 w:∀z∈r.w,z<le
 n:r.w.length<=2
theorem On:∀(ns:oA Nat),PyData.depthAll (ns.map λ(n:Nat)=>.int n)<=0
 |[]=>F_ _
 |n::ns=>by have:=On ns;simp only[List.map_cons,PyData.depthAll,PyData.depth];omega
def Me(r:Rul):(De r).canLay0=true/\(De r).depth<=2/\Cano (De r)=true:=by have h1:=Ip (ns:=r.w);have h2:=Ia r.w;refine⟨?_,?_,?_⟩;simp only[De,Bc,PyData.canLay0,PyData.canLayAll0,h1.1,Bool.and_true];have:=h1.2;simp only[De,Bc,PyData.depth,PyData.depthAll];have e:PyData.depthAll (r.w.map λ(n:Nat)=>.int n)<=0:=On r.w;omega;simp only[De,Bc,Cano,A3,h2,Bool.and_true,Bool.true_and]
theorem Mf:∀(B:oA Rul),PyData.canLayAll0 (B.map De)=true/\PyData.depthAll (B.map De)<=2/\A3 (B.map De)=true
 |[]=>⟨rfl,by simp[PyData.depthAll],rfl⟩
 |a::B=>by obtain⟨h1,h2,d⟩:=Me a;obtain⟨b,e,c⟩:=Mf B;simp only[List.map_cons,PyData.canLayAll0,PyData.depthAll,A3,h1,d,b,c,Bool.and_self,true_and,and_true];omega
def Zi(a:Rul):B9 (De a):=⟨(Me a).1,K_ (Me a).2.1 (by decide)⟩
def U4(B:oA Rul):B9 (.tuple<|B.map De):=⟨by simp only[PyData.canLay0];exact(Mf B).1,by have:=(Mf B).2.1;simp only[PyData.depth];omega⟩
def Oo(B:oA Rul):dats (B.map Di)=some (B.map De):=by rw[show(B.map Di)=(B.map De).map .D by rw[aD];rfl];exact Cc _
def pushes(B:oA Rul):Nat:=(B.filter λr=>decide (r.w.length=2)).length
def eights:∀v:Fin 8,∃w,([0,0,1,1,1,2,2,2]:oA Nat)[v.val]?=some w/\w<=2:=by decide +kernel
abbrev YJ:oA Str:=["_law_deal_here","_law_sizes","_law_found","_law_places","_law_letters","_law_most","_law_word","_law_p","_law_x","_law_q"]
def Qv:FnScope YJ qE (Ah QL):=Bt<|by decide +kernel
def QW:(["_law_rule_here"]:oA Str).Nodup:=by decide +kernel
def QX:(qP:oA Str).Nodup:=by decide +kernel
def Zj(pl b a:Nat):lE:=.tuple [.int pl,.int b,.int a]
def QY:ASp:=λh d R=>∃(a l:lF) (e:AV) (pl c g:Nat) (B:oA Rul),h=[.R a,.D<|Zj pl c g,e]/\0<pl/\pl<=5/\0<c/\c<=5/\B.length<=20/\Pot d a l/\(∀ b,Bj a l d b->items b e=some (B.map Di))/\∀(r:Rul) b,RulOk pl c r->(r.w.length=2->pushes B<g)->Pot b a l->Bj a l d b->R (Di r) b
def QZ{n:Nat}(F:Fun K "_law_rule" "_law_rule" QL f fd) (O:VCal P w K mg base n "_law_draw" oJ Uy) (ai:mg "len" = none) (aj:mg "tuple" = none) (ah:mg "range" = none):FnOk P w K mg base Dx (n+1) f fd qE (E8 K 3 QY):=by
 refine F.vok Qv λaq A outer s H E L=>⟨_,(Af (JC (vv 1)<|D4 (n:=3) rfl<|Au (Ak (i:=3) Qv.nd rfl oH)<|Au (Ak (i:=4) Qv.nd rfl oI)<|Au (Ak (i:=5) Qv.nd rfl oH) B8)<|Af (Ap (i:=6) Qv.nd rfl oH<|Bk Cb (B2<|Aa Ai<|Aa Ai<|Aa Ai<|Aa Ai<|Aa Ai<|Aa Ai<|Aa Ai<|Aa Ai Ad)<|Am O L rfl<|Aa (vv 0)<|Aa Ai Ad)<|Af (Dq (VW.pt<|Gj (Bg (Hm L) (vv 6) Ai<|nomark _)<|E7<|Bg OD (Az C5 rfl ai bD<|Aa (Bm (N':=["_law_rule_here"]) (mp:=[none]) rfl (Bd<|vv 2) (λ_ _ _ _=>(Ak (i:=0) QW rfl oH oI)) (λ_ _ _ _=>(Dr<|Bg (Hm L) (Az C5 rfl ai bD<|Aa (Bk Cb (vv 0) Ai) Ad) Ai<|nomark _)) (λ_ _ _ _=>(vv 0))<|Av (N:=YJ) (pn:=(Ah QL).names)<|by decide +kernel) Ad) (vv 5)<|nomark _) (Aj<|Ap (i:=6) Qv.nd rfl oH Ai) B4)<|Af (CJ (i:=7) (j:=8) (l:=9) rfl Qv.nd rfl rfl rfl (by decide) (by decide) (by decide) rfl rfl rfl (Aa (Am O L rfl<|Aa (vv 0)<|Aa (vv 3) Ad)<|Aa (Am O L rfl<|Aa (vv 0)<|Aa (vv 4) Ad)<|Aa (Am O L rfl<|Aa (vv 0)<|Aa (vv 3) Ad) Ad) rfl)<|Aj<|A8<|Bn<|Aa (vv 7)<|Aa (vv 8)<|Aa (vv 9)<|Aa (Bu Dm rfl aj bS<|Aa (Bm (N':=qP) (mp:=[none,some 0,some 4]) rfl (Cd rfl ah<|Aa (vv 6) Ad) (λ_ _ _ _=>(Ak (i:=0) QX rfl oH oI)) (λ_ _ _ _=>Br) (λ_ _ _ _=>(Am O L rfl<|Aa (vv 1)<|Aa (vv 2) Ad))<|Av (N:=YJ) (pn:=(Ah QL).names)<|by decide +kernel) Ad) Ad),?_⟩
 rintro xs μ R _ ⟨a,l,xf,u,m,J,B,rfl,T,hp5,fc,kb,hB,hP,V,q⟩;refine Ax (λe b=>e=[oD a,oF<|Zj u m J,some xf,oE u,oE m,oE J,none,none,none,none]/\μ=b) (λZ I=>⟨rfl,I _ _ ⟨rfl,rfl⟩⟩) ?_;rintro e _ ⟨rfl,rfl⟩;refine Ax (λe b=>∃G:Nat,e=[oD a,oF<|Zj u m J,some xf,oE u,oE m,oE J,oE G,none,none,none]/\G<=2/\Pot b a l/\Bj a l μ b) (λZ I=>?_) ?_;intro p8 j9;have d:=hP.ne j9;refine⟨a,l,8,rfl,hP.new j9,by decide,by decide,λv μ1 hv M C=>?_⟩;obtain⟨G,ew,hw⟩:=eights ⟨v,hv⟩;have e8:=C p8 _ d.1.symm d.2.symm Ab;refine Ac e8 (Ac (A0 (j:=v) (xs:=[0,0,1,1,1,2,2,2].map Bh)<|by rw[L_,ew];rfl)<|I _ _ ⟨G,rfl,hw,M,(Bj.refl.new j9).trans C⟩);rintro e μ1 ⟨G,rfl,X,M,C⟩;refine Ax (λe b=>∃G:Nat,e=[oD a,oF<|Zj u m J,some xf,oE u,oE m,oE J,oE G,none,none,none]/\G<=2/\(G=2->pushes B<J)/\Pot b a l/\Bj a l μ b) (λZ I=>?_) ?_;refine ieq (λc=>?_) (λc=>O8 rfl<|I _ _ ⟨G,rfl,X,λz=>absurd (by rw[z];rfl) c,M,C⟩);refine Ac (V _ C) λpc g=>?_;have d:=M.ne g;refine cmapf B Di (λr=>decide (r.w.length=2)) Di (λe=>∃o,e=[o]) ⟨none,rfl⟩ Ab (seven<|by omega) (λk=>?_) ?_ ?_;exact V _<|(C.new g).put<|C.none d.1 d.2 g;rintro i r τ' k W W2 hi ⟨o,rfl⟩ h1 h2;refine Ac (A0 (j:=3) rfl) (ieq (λc1=>h1 (aW<|by rw[B_]at c1;omega) _ ⟨_,rfl⟩) λc1=>h2 (aQ λz=>c1<|by rw[B_,z];rfl) _ ⟨_,rfl⟩);refine Ac Ab<|dif (λ_=>?_) λc3=>?_;exact I _ _ ⟨1,rfl,by decide,(λz=>nomatch z),(M.new g).other d.1 d.2,(C.new g).put<|C.none d.1 d.2 g⟩;exact I _ _ ⟨G,rfl,X,λ_=>by rw[B_]at c3;unfold pushes;omega,(M.new g).other d.1 d.2,(C.new g).put<|C.none d.1 d.2 g⟩;rintro e μ2 ⟨vc,rfl,hwd2,hpu,P2,S2⟩;refine Ax (λe b=>∃p x t:Nat,e=[oD a,oF<|Zj u m J,some xf,oE u,oE m,oE J,oE vc,oE p,oE x,oE t]/\p<u/\x<m/\t<u/\Pot b a l/\Bj a l μ b) (λZ I=>?_) ?_;exact⟨a,l,u,rfl,P2,T,by omega,λp U hp P3 S3=>⟨a,l,m,rfl,P3,fc,by omega,λx S hx Y Q=>⟨a,l,u,rfl,Y,T,by omega,λt μ5 ht P5 S5=>I _ _ ⟨p,x,t,rfl,hp,hx,ht,P5,((S2.trans S3).trans Q).trans S5⟩⟩⟩⟩;rintro e U ⟨p,x,t,rfl,hp,hx,ht,P3,S3⟩;refine⟨by omega,by omega,λpc g=>?_⟩;have d:=P3.ne g;have ag:(Ej 0 (vc:Int).toNat).length=vc:=by rw[Bq];omega
 refine E9 (λj k e b=>∃(o:oB AV) (ns:oA Nat),e=[o,oD a,oE m]/\k=ns.map Bh/\ns.length=j/\(∀n∈ns,n<m)/\b pc=oG k/\Pot b a l/\Bj a l U b) ⟨none,[],rfl,rfl,rfl,(λ_ z=>nomatch z),Ab,P3.new g,Bj.refl.new g⟩ (λ_ _ _ _ _=>trivial) ?_ ?_;rintro j y k e S Z2 hy ⟨o,ns,rfl,rfl,hn,hb,e4,Y,Q⟩ hZ2;have hj:j<vc:=by rw[<- ag];exact(E_.mp hy).1
 refine Pl rfl ⟨a,l,m,rfl,Y,fc,by omega,λv μ5 hv P5 S5=>?_⟩;have e5:=S5 pc _ d.1.symm d.2.symm e4;refine⟨e5,A5<|by rw[B_];omega,hZ2 _ _ _ ⟨_,ns++[v],rfl,by rw[N_];rfl,by rw[P_,hn];rfl,λn m8=>?_,Ab,P5.other d.1 d.2,(Q.trans S5).put g⟩⟩;rcases Q_.mp m8 with h|h;exact hb n h;rw[H_.mp h];exact hv;rintro k e S ⟨o,ns,rfl,rfl,hn,hb,e4,Y,Q⟩;rw[ag]at hn;exact Ac (Ao e4)<|Ac (D9 ns) ⟨_,Sub.refl,q ⟨p,x,t,ns⟩ _ ⟨hp,hx,ht,hb,(show ns.length<=2 by omega)⟩ (λz=>hpu (by have z:ns.length=2:=z;omega)) Y<|S3.trans Q⟩
abbrev YZ:oA Str:=["_law_deal_here","_law_hands","_law_letters","_law_many_here","_law_most","_law_found","_law_k","_law_rule_here","_law_there"]
def Zk:FnScope YZ qF (Ah UG):=Bt<|by decide +kernel
def RA:(["_law_one","_law_rule_here"]:oA Str).Nodup:=by decide +kernel
def Op(E:oA Rul)(v:Rul):Nat:=(E.filter λr=>decide (r.p=v.p/\r.x=v.x)).length
def ZA(r v:Rul):PyData.eqv (Bc [r.p,r.x]) (Bc [v.p,v.x])=decide (r.p=v.p/\r.x=v.x):=by show(decide ((r.p:Int)=v.p)&&(decide ((r.x:Int)=v.x)&&true))=_;rw[Bool.and_true,<- Bool.decide_and];exact jB.mpr ⟨λh=>⟨by omega,by omega⟩,λh=>⟨by omega,by omega⟩⟩
structure RsOk(hs:oA Nat)(mo:Nat)(B:oA Rul):Prop where
 nd:B.Nodup
 ps:pushes B<=mo
 an:∀i r,B[i]?=some r->hs.getD r.p 0≠0->Op (B.take i) r<2
def RsOk.nil{hs:oA Nat}{a:Nat}:RsOk hs a []:=⟨a_,aJ _,λi r h=>by simp at h⟩
def RsOk.snoc{hs:oA Nat}{a:Nat}{B:oA Rul}{v:Rul}(h:RsOk hs a B)(h1:v∉B)(h2:v.w.length=2->pushes B<a)(d:hs.getD v.p 0≠0->Op B v<2):RsOk hs a (B++[v]):=by
 refine⟨J0 h.nd h1,?_,λi r e b=>?_⟩;unfold pushes;rw[gC,P_];by_cases c:v.w.length=2;have:=h2 c;unfold pushes at this;rw[List.filter_cons_of_pos<|by simpa using c];show _+1<=a;omega;rw[List.filter_cons_of_neg<|by simpa using c];exact h.ps;rcases cU i B.length with hi|hi;rw[dC hi]at e;rw[List.take_append_of_le_length<|by omega];exact h.an i r e b;have:i=B.length:=by have:=(E_.mp e).1;rw[P_]at this;simp at this;omega
 subst this;rw[cH<|F_ _]at e;simp at e;subst e;rw[List.take_left];exact d b
def RB:ASp:=λg d R=>∃(a l c:lF) (hs:oA Nat) (b many e:Nat),g=[.R a,.R c,.D<|.int b,.D<|.int many,.D<|.int e]/\0<hs.length/\hs.length<=5/\0<b/\b<=5/\many<=20/\Pot d a l/\c≠a/\c≠l/\d c=oG (hs.map Bh)/\∀(B:oA Rul) μ',(∀r∈B,RulOk hs.length b r)->B.length<=many->(many=0\/0<B.length)->RsOk hs e B->Pot μ' a l->Bj a l d μ'->R (.D<|.tuple<|B.map De) μ'
def Zl{B:oA Rul}{a:Rul}(h:((B.map De).any λe=>PyData.eqv e<|De a)=false):De a∉B.map De:=λb=>by have:((B.map De).any λe=>PyData.eqv e<|De a)=true:=bP.mpr ⟨_,b,Fm (De a) (Me a).2.2⟩;rw[this]at h;cases h
def RC{n:Nat}(F:Fun K "_law_rules" "_law_rules" UG f fd) (cRu:VCal P w K mg base n "_law_rule" qE QY) (ah:mg "range" = none) (ai:mg "len" = none) (aj:mg "tuple" = none):FnOk P w K mg base Dx (n+1) f fd qF (E8 K 5 RB):=by
 refine F.vok Zk λaq A outer s H E hr=>⟨_,(Af (Ap (i:=5) Zk.nd rfl oH<|B2 Ad)<|Af (B3 aF rfl (Cd rfl ah<|Aa (vv 3) Ad) (Ak (i:=6) Zk.nd rfl oH)<|Af (Ap (i:=7) Zk.nd rfl oI<|Am cRu hr rfl<|Aa (vv 0)<|Aa (Bn<|Aa (Az C5 rfl ai bD<|Aa (vv 1) Ad)<|Aa (vv 2)<|Aa (vv 4) Ad)<|Aa (vv 5) Ad)<|Af (Ap (i:=8) Zk.nd rfl oH<|Az C5 rfl ai bD<|Aa (Bm (N':=["_law_one","_law_rule_here"]) (mp:=[none,some 7]) rfl (Bd<|vv 5) (λ_ _ _ _=>(Ak (i:=0) RA rfl oH oI)) (λ_ _ _ _=>(Dr<|Bg (Hm hr) (C8 (vv 0) Ed<|Dl Ai) (C8 (vv 1) Ed<|Dl Ai)<|nomark _)) (λ_ _ _ _=>(vv 0))<|Av (N:=YZ) (pn:=(Ah UG).names)<|by decide +kernel) Ad)<|Aj<|Dq (VW.pt<|Gj (Bg (Rj hr) (vv 7) (vv 5)<|by with_unfolding_all rfl)<|E7<|VW.pt<|NV (Bg (Hm hr) (Bk Cb (vv 1)<|Bk Cb (vv 7) Ai) Ai<|nomark _)<|IV<|Bg CG (vv 8) Ai<|nomark _) (Aj<|B5<|Ee bY bZ C9 (vv 5)<|Aa (vv 7) Ad) B4)<|Aj<|A8<|Bu Dm rfl aj bS<|Aa (vv 5) Ad),?_⟩
 rintro xs μ R _ ⟨a,l,k,g,t,many,m,rfl,hh0,hh5,fc,kb,hm,hP,na,nl,eH,q⟩;intro d U;have V:=hP.ne U;have Y:k≠d:=by rintro rfl;rw[eH]at U;cases U
 refine Ax (λe b=>∃M X J,∃B:oA Rul,e=[oD a,oD k,oE t,oE many,oE m,oD d,M,X,J]/\b d=oG (B.map Di)/\B.length<=many/\(many=0\/0<B.length)/\(∀r∈B,RulOk g.length t r)/\RsOk g m B/\Pot b a l/\Bj a l μ b) (λZ hZ=>?_) ?_;refine⟨by omega,by omega,?_⟩;have ag:(Ej 0 (many:Int).toNat).length=many:=by rw[Bq];omega
 refine Cp (λi e b=>∃M X J,∃B:oA Rul,e=[oD a,oD k,oE t,oE many,oE m,oD d,M,X,J]/\b d=oG (B.map Di)/\b k=oG (g.map Bh)/\B.length<=i/\(i=0\/0<B.length)/\(∀r∈B,RulOk g.length t r)/\RsOk g m B/\Pot b a l/\Bj a l μ b) ⟨none,none,none,[],rfl,Ab,by rw[Ae Y];exact eH,F_ _,.inl rfl,(λ_ z=>nomatch z),RsOk.nil,hP.new U,Bj.refl.new U⟩ (λ_ _ _ _=>trivial) ?_ ?_;rintro i y e μ3 Z2 hy ⟨M,X,J,B,rfl,Q,h3,hB,u,O,T,P3,S3⟩ hZ2;have hi:i<many:=by rw[<- ag];exact(E_.mp hy).1
 refine Ax (λe b=>∃v:Rul,e=[oD a,oD k,oE t,oE many,oE m,oD d,some y,some<|Di v,J]/\RulOk g.length t v/\(v.w.length=2->pushes B<m)/\b d=oG (B.map Di)/\b k=oG (g.map Bh)/\Pot b a l/\Bj a l μ b) (λZ3 bu=>?_) ?_;refine Ac h3 ⟨a,l,.R d,g.length,t,m,B,by rw[B_];rfl,hh0,hh5,fc,kb,by omega,P3,λb S=>Ao<|S d _ V.1.symm V.2.symm Q,λv μ4 hv ip P4 L=>bu _ _ ⟨v,rfl,hv,ip,L d _ V.1.symm V.2.symm Q,L k _ na nl h3,P4,S3.trans L⟩⟩;rintro e μ4 ⟨v,rfl,hv,ip,e4,h4,P4,L⟩;refine Ax (λe b=>∃I:Nat,e=[oD a,oD k,oE t,oE many,oE m,oD d,some y,some<|Di v,oE I]/\I=Op B v/\b d=oG (B.map Di)/\b k=oG (g.map Bh)/\Pot b a l/\Bj a l μ b) (λZ3 bu=>?_) ?_;refine Ac (Ao e4) λpc G=>?_;have kr:=P4.ne G;have mq:d≠pc:=by rintro rfl;rw[e4]at G;cases G
 have fg:k≠pc:=by rintro rfl;rw[h4]at G;cases G
 refine cmapf B Di (λr=>decide (r.p=v.p/\r.x=v.x)) Di (λe=>∃o,e=[o,some<|Di v]) ⟨none,rfl⟩ Ab (seven<|by omega) (λacc=>Ao<|by rw[Ae mq,Ae mq];exact e4) ?_ ?_;rintro j r τ' acc W W2 hj ⟨o,rfl⟩ h1 h2;exact⟨La (ns:=[r.p,r.x]),La (ns:=[v.p,v.x]),br (λc=>h1 ((ZA r v).symm.trans c) _ ⟨_,rfl⟩) λc=>h2 ((ZA r v).symm.trans c) _ ⟨_,rfl⟩⟩;refine Ac Ab (bu _ _ ⟨_,rfl,by rw[B_];rfl,by rw[Ae mq,Ae mq];exact e4,by rw[Ae fg,Ae fg];exact h4,(P4.new G).other kr.1 kr.2,(L.new G).put<|L.none kr.1 kr.2 G⟩);rintro e C ⟨I,rfl,hth,e5,h5,P5,S5⟩;have yes:v∉B->(g.getD v.p 0≠0->Op B v<2)->Z2 [oD a,oD k,oE t,oE many,oE m,oD d,some y,some<|Di v,oE I] (Al C d<|.lst<|B.map Di++[Di v]):=λn1 n2=>by refine hZ2 _ _ ⟨_,_,_,B++[v],rfl,by rw[Ab,N_];rfl,by rw[Ae Y];exact h5,by rw[P_];show B.length+1<=_;omega,.inr<|by simp,λr ug=>?_,T.snoc n1 ip n2,P5.other V.1 V.2,S5.put U⟩;rcases Q_.mp ug with h|h;exact O r h;rw[H_.mp h];exact hv
 have no:0<B.length->Z2 [oD a,oD k,oE t,oE many,oE m,oD d,some y,some<|Di v,oE I] C:=λh0=>
  hZ2 _ _ ⟨_,_,_,B,rfl,e5,h5,by omega,.inr h0,O,T,P5,S5⟩
 have put:v∉B->(g.getD v.p 0≠0->Op B v<2)->Ku C (.R d)/\Lw (.R d) [Di v] C λ_ μ1=>Z2 [oD a,oD k,oE t,oE many,oE m,oD d,some y,some<|Di v,oE I] μ1:=λn1 n2=>⟨Ac e5 trivial,Ac e5 ⟨A5<|by rw[B_];omega,yes n1 n2⟩⟩;have hgt:(g.map Bh)[v.p]?=some (Bh<|g.getD v.p 0):=by rw[L_,J_ hv.p];simp[hv.p]
 refine Ac rfl<|Ac (Ao e5)<|Ac (Oo B) ⟨Zi v,U4 B,br (λc1=>?_) λc1=>?_⟩;have nv:v∉B:=λhm=>by rw[Bool.not_eq_true']at c1;exact Zl c1<|D_.mpr ⟨v,hm,rfl⟩
 refine Ac (A0 (j:=0) rfl) (Ac h5<|Ac (A0 hgt)<|ieq (λc2=>Pl rfl<|put nv λz=>absurd (by omega) z) λc2=>dif (λc3=>put nv λ_=>by omega) λc3=>no ?_);rcases jZ B.length with h0|h0;exact absurd (show(I:Int)<2 by rw[hth,bM h0];show(0:Int)<2;decide) c3;exact h0;refine O8 rfl<|no ?_;rcases jZ B.length with h0|h0;rw[bM h0]at c1;cases c1;exact h0;rintro e μ3 ⟨M,X,J,B,rfl,Q,h3,hB,u,O,T,P3,S3⟩;rw[ag]at hB u;exact hZ _ _ ⟨_,_,_,B,rfl,Q,hB,u,O,T,P3,S3⟩;rintro e μ3 ⟨M,X,J,B,rfl,Q,hB,u,O,T,P3,S3⟩;exact Ac (Ao Q)<|Ac (Oo B) ⟨_,Sub.refl,q B _ O hB u T P3 S3⟩
abbrev ZB:oA Str:=["_law_deal_here","_law_sizes","_law_hand","_law_hands","_law_letters","_law_rules_here"]
def EG:FnScope ZB oW (Ah UH):=Bt<|by decide +kernel
def RD:(qQ:oA Str).Nodup:=by decide +kernel
structure Gam where
 pl:oA (Str×Nat)
 le:oA Str
 rs:oA Rul
def KU(p:Str×Nat):lE:=.tuple [.str p.1,.int p.2]
def Ch(g:Gam):lE:=.tuple [.tuple<|g.pl.map KU,.tuple<|g.le.map PyData.str,.tuple<|g.rs.map De]
structure GamOk(g:Gam)(np nl nr:Nat)(mo:Nat):Prop where
 p0:0<g.pl.length
 p1:g.pl.length<=np
 l0:0<g.le.length
 l1:g.le.length<=nl
 r0:0<g.rs.length
 r1:g.rs.length<=nr
 hd:∀p∈g.pl,p.2<2
 pn:Nms (g.pl.map (·.1))
 ln:Nms g.le
 ru:∀r∈g.rs,RulOk g.pl.length g.le.length r
 ro:RsOk (g.pl.map (·.2)) mo g.rs
def KW:ASp:=λh d R=>∃(a l:lF) (b c nr e:Nat),h=[.R a,.D<|.tuple [.int b,.int c,.int nr,.int e],.D<|.int 2]/\0<b/\b<=3/\0<c/\c<=3/\0<nr/\nr<=8/\Pot d a l/\∀(g:Gam) μ',GamOk g b c nr e->Pot μ' a l->Bj a l d μ'->R (.D<|Ch g) μ'
theorem Zm:∀(ys:oA Str) (hs:oA Nat),List.zipWith (λd e=>PyData.tuple [d,e]) (ys.map PyData.str) (hs.map λ(n:Nat)=>PyData.int n)=(ys.zip hs).map KU
 |[],_=>rfl
 |_::_,[]=>rfl
 |y::ys,h::hs=>by simp only[List.map_cons,List.zipWith_cons_cons,List.zip_cons_cons,Zm ys hs];rfl
def RE{n:Nat}(F:Fun K "_law_game" "_law_game" UH f fd) (dh:VCal P w K mg base n "_law_draw" oJ Uy) (W:VCal P w K mg base n "_law_names" oJ QU) (cRs:VCal P w K mg base n "_law_rules" qF RB) (ah:mg "range" = none) (dq:mg "int" = none) (ai:mg "len" = none) (aj:mg "tuple" = none) (jd:mg "zip" = none):FnOk P w K mg base Dx (n+1) f fd oW (E8 K 3 KW):=by
 refine F.vok EG λaq A outer s H E Q=>⟨_,(Af (Fu (i:=3) (N':=qQ) (mp:=[none,some 2,some 0]) rfl EG.nd rfl rfl (Cd rfl ah<|Aa (A6 B7 Ai<|Am dh Q rfl<|Aa (vv 0)<|Aa (Bk Cb (vv 1) Ai) Ad) Ad) (λ_ _ _ _=>(Ak (i:=0) RD rfl oH oI)) (λ_ _ _ _=>Br) (λ_ _ _ _=>(Bk Cb (B2<|Aa (Am dh Q rfl<|Aa (vv 2)<|Aa Ai Ad)<|Aa (vv 1) Ad)<|Bu GB rfl dq PyProof.Rows.boot_int<|Aa (Wq CG (vv 1) Ai<|nomark _) Ad))<|Av (N:=ZB) (pn:=(Ah UH).names)<|by decide +kernel)<|Af (Ap (i:=4) EG.nd rfl oH<|Am W Q rfl<|Aa (vv 0)<|Aa (A6 B7 Ai<|Am dh Q rfl<|Aa (vv 0)<|Aa (Bk Cb (vv 1) Ai) Ad) Ad)<|Af (Ap (i:=5) EG.nd rfl oH<|Am cRs Q rfl<|Aa (vv 0)<|Aa (vv 3)<|Aa (Az C5 rfl ai bD<|Aa (vv 4) Ad)<|Aa (A6 B7 Ai<|Am dh Q rfl<|Aa (vv 0)<|Aa (Bk Cb (vv 1) Ai) Ad)<|Aa (Bk Cb (vv 1) Ai) Ad)<|Aj<|A8<|Bn<|Aa (DI rfl rfl aj rfl jd (Am W Q rfl<|Aa (vv 0)<|Aa (Az C5 rfl ai bD<|Aa (vv 3) Ad) Ad)<|vv 3)<|Aa (Bu Dm rfl aj bS<|Aa (vv 4) Ad)<|Aa (vv 5) Ad),?_⟩
 rintro xs μ R _ ⟨a,l,V,nl,nr,T,rfl,hp0,ni,fc,mf,hr0,xy,hP,q⟩;refine Ax (λt b=>∃(hs:oA Nat) (c:lF),t=[oD a,oF<|.tuple [.int V,.int nl,.int nr,.int T],oE 2,oD c,none,none]/\0<hs.length/\hs.length<=V/\(∀h∈hs,h<2)/\c≠a/\c≠l/\b c=oG (hs.map Bh)/\Pot b a l/\Bj a l μ b) (λZ X=>?_) ?_;refine Ac (A0 (j:=0) rfl) ⟨a,l,V,rfl,hP,hp0,by omega,λv μ1 hv P1 S1=>⟨by omega,by omega,λpc ay=>?_⟩⟩;have C:=P1.ne ay;have ag:(Ej 0 (1+(v:Int)).toNat).length=1+v:=by rw[Bq];omega
 refine E9 (λj u t b=>∃(o:oB AV) (hs:oA Nat),t=[o,oE 2,oD a]/\u=hs.map Bh/\hs.length=j/\(∀h∈hs,h<2)/\b pc=oG u/\Pot b a l/\Bj a l μ1 b) ⟨none,[],rfl,rfl,rfl,(λ_ z=>nomatch z),Ab,P1.new ay,Bj.refl.new ay⟩ (λ_ _ _ _ _=>trivial) ?_ ?_;rintro j y u t S Z2 hy ⟨o,hs,rfl,rfl,hn,hb,U,I,J⟩ hZ2;have hj:j<1+v:=by rw[<- ag];exact(E_.mp hy).1
 refine Pl rfl ⟨a,l,2,rfl,I,by decide,by decide,λd x hd L k=>λp8 j9=>?_⟩;have e3:=k pc _ C.1.symm C.2.symm U;have hn8:=L.ne j9;have hc8:pc≠p8:=by rintro rfl;rw[e3]at j9;cases j9
 have e8:Al x p8 (.lst [Bh d,.D<|.int 2]) pc=oG (hs.map Bh):=by rw[Ae hc8];exact e3
 refine Ac Ab (Ac (A0 (j:=0) (v:=Bh d) rfl) ⟨e8,A5<|by rw[B_];omega,hZ2 _ _ _ ⟨_,hs++[d],rfl,by rw[N_];rfl,by rw[P_,hn];rfl,λh hh=>?_,Ab,(L.new j9).other C.1 C.2,((J.trans k).new j9).put ay⟩⟩);rcases Q_.mp hh with h1|h1;exact hb h h1;rw[H_.mp h1];exact hd;rintro u t S ⟨o,hs,rfl,rfl,hn,hb,U,I,J⟩;rw[ag]at hn;exact X _ _ ⟨hs,pc,rfl,by omega,by omega,hb,C.1.symm,C.2.symm,U,I,S1.trans J⟩;rintro t μ1 ⟨hs,c,rfl,hh0,hhn,hh2,O,e,e1,P1,S1⟩;refine Ax (λt b=>∃(g:oA Str) (m:lF),t=[oD a,oF<|.tuple [.int V,.int nl,.int nr,.int T],oE 2,oD c,oD m,none]/\0<g.length/\g.length<=nl/\Nms g/\m≠a/\m≠l/\b m=oG (g.map Dc)/\b c=oG (hs.map Bh)/\Pot b a l/\Bj a l μ b) (λZ X=>?_) ?_;refine Ac (A0 (j:=1) rfl) ⟨a,l,nl,rfl,P1,fc,by omega,λv S hv I J=>⟨a,l,1+v,rfl,by omega,I,λg m x hz hN hf ez L k=>?_⟩⟩;have C:=I.ne hf;exact X _ _ ⟨g,m,rfl,by omega,by omega,hN,C.1.symm,C.2.symm,ez,k c _ O e<|J c _ O e e1,L,(S1.trans J).trans k⟩;rintro t S ⟨g,m,rfl,Y,hzn,hN,za,zl,ez,U,I,J⟩;refine Ax (λt b=>∃B:oA Rul,t=[oD a,oF<|.tuple [.int V,.int nl,.int nr,.int T],oE 2,oD c,oD m,oF<|.tuple<|B.map De]/\0<B.length/\B.length<=nr/\(∀r∈B,RulOk hs.length g.length r)/\RsOk hs T B/\b m=oG (g.map Dc)/\b c=oG (hs.map Bh)/\Pot b a l/\Bj a l μ b) (λZ X=>?_) ?_;refine Ac ez (Ac (A0 (j:=2) rfl) ⟨a,l,nr,rfl,I,hr0,by omega,λv x hv L k=>Ac (A0 (j:=3) rfl) ⟨a,l,c,hs,g.length,1+v,T,by rw[B_];rfl,hh0,by omega,Y,by omega,by omega,L,O,e,k c _ O e U,λB μ4 kB hB hB0 kR P4 M=>?_⟩⟩);exact X _ _ ⟨B,rfl,by omega,by omega,kB,kR,M m _ za zl<|k m _ za zl ez,M c _ O e<|k c _ O e U,P4,(J.trans k).trans M⟩;rintro t x ⟨B,rfl,hB0,hBn,kB,kR,ez3,e3,L,k⟩;refine Ac e3 ⟨a,l,hs.length,by rw[B_],by omega,L,λG py μ4 hy hNy hf ey P4 M=>?_⟩;have e4:=M c _ O e e3;have ez4:=M m _ za zl ez3;refine Ac ey (Ac e4<|Ac (Oi G)<|Ac (D9 hs) ⟨⟨by simp[hy],by simp;omega⟩,Ac (Ao ez4)<|Ac (Oi g) ⟨_,Sub.refl,?_⟩⟩);rw[Zm];have c8:(G.zip hs).length=hs.length:=by rw[List.length_zip];omega
 refine q ⟨G.zip hs,g,B⟩ _ ⟨?_,?_,Y,hzn,hB0,hBn,λp hp=>?_,?_,hN,?_,?_⟩ P4<|k.trans M;show 0<(G.zip hs).length;omega;show(G.zip hs).length<=V;omega;exact hh2 p.2 (gZ hp).2;show Nms ((G.zip hs).map (·.1));rw[List.map_fst_zip<|by omega];exact hNy;show ∀r∈B,RulOk (G.zip hs).length g.length r;rw[c8];exact kB;show RsOk ((G.zip hs).map (·.2)) T B;rw[List.map_snd_zip<|by omega];exact kR
def MQ{a:Type}(g:a->lE)(xs:oA a)(n:Nat):Pj (xs.map g) none (some (n:Int))=(xs.take n).map g:=by unfold Pj;rw[HT.sIx_none,HT.sIx_nat,gN,jV,<- jE,B_];by_cases h:n<=xs.length;rw[jM h];rw[kX<|by omega,aK,dE<|by omega]
def U5{a:Type}(g:a->AV)(xs:oA a)(n:Nat):Lq (xs.map g) none (some (n:Int))=(xs.take n).map g:=by unfold Lq;rw[HT.sIx_none,HT.sIx_nat,gN,jV,<- jE,B_];by_cases h:n<=xs.length;rw[jM h];rw[kX<|by omega,aK,dE<|by omega]
def U6{a:Type}(g:a->AV)(xs:oA a)(n:Nat):Lq (xs.map g) (some (n:Int)) none=(xs.drop n).map g:=by unfold Lq;rw[HT.sIx_none,HT.sIx_nat,<- kN,B_];by_cases h:n<=xs.length;rw[jM h,dE<|by rw[B_,dZ];exact F_ _];rw[kX<|by omega,d_,List.drop_of_length_le<|by omega];simp
structure Arw where
 p:Nat
 x:Nat
 ts:oA Nat
 c:oB Nat
def Qw(a:Arw):oA lE:=.int a.p::.int a.x::Bc a.ts::(match a.c with|none=>[]|some c=>[.int c])
def A9(a:Arw):lE:=.tuple<|Qw a
def Dz{b:M}(A:oA Arw):items b (.D<|.tuple<|A.map A9)=some (A.map λa=>.D<|A9 a):=by show some ((A.map A9).map AV.D)=_;rw[aD];rfl
def KY{a:Arw}:atI (Qw a) 2=some (Bc a.ts):=A0 (j:=2) rfl
def J1(a:Arw):(A9 a).canLay0=true/\(A9 a).depth<=3/\Cano (A9 a)=true:=by
 obtain⟨p,x,ts,c⟩:=a;have h1:=Ip (ns:=ts);have h2:=Ia ts;cases c with
 |none=>simp only[A9,Qw,Bc,PyData.canLay0,PyData.canLayAll0,PyData.depth,PyData.depthAll,Cano,A3,h1.1,h2,Bool.and_true,Bool.true_and,true_and,and_true];have:=h1.2;omega
 |some c=>simp only[A9,Qw,Bc,PyData.canLay0,PyData.canLayAll0,PyData.depth,PyData.depthAll,Cano,A3,h1.1,h2,Bool.and_true,Bool.true_and,true_and,and_true];have:=h1.2;omega
def Sg{a b:Arw}(h:a.c.isSome=b.c.isSome):cmpb (A9 a) (A9 b)=true:=by obtain⟨p,x,ts,c⟩:=a;obtain⟨g,i,e,d⟩:=b;cases c<;>cases d<;>simp at h<;>simp only[A9,Qw,Bc,cmpb,cmpbs,Oh,ite_self]
theorem Iq:∀(B:oA Arw),PyData.canLayAll0 (B.map A9)=true/\PyData.depthAll (B.map A9)<=3/\A3 (B.map A9)=true
 |[]=>⟨rfl,by simp[PyData.depthAll],rfl⟩
 |a::B=>by obtain⟨h1,h2,d⟩:=J1 a;obtain⟨b,e,c⟩:=Iq B;simp only[List.map_cons,PyData.canLayAll0,PyData.depthAll,A3,h1,d,b,c,Bool.and_self,true_and,and_true];omega
def EH{B:oA Arw}{a:Arw}(h:((B.map A9).any λe=>PyData.eqv e<|A9 a)=false):A9 a∉B.map A9:=λb=>by have:((B.map A9).any λe=>PyData.eqv e<|A9 a)=true:=bP.mpr ⟨_,b,Fm (A9 a) (J1 a).2.2⟩;rw[this]at h;cases h
def J2(B:oA Arw):dats (B.map λa=>.D<|A9 a)=some (B.map A9):=by rw[show(B.map λa=>AV.D<|A9 a)=(B.map A9).map .D by rw[aD];rfl];exact Cc _
def Zn(a:Arw):B9 (A9 a):=⟨(J1 a).1,K_ (J1 a).2.1 (by decide)⟩
def U7(B:oA Arw):B9 (.tuple<|B.map A9):=⟨by simp only[PyData.canLay0];exact(Iq B).1,by have:=(Iq B).2.1;simp only[PyData.depth];omega⟩
abbrev ZC:oA Str:=["_law_deal_here","_law_stands","_law_most","_law_found"]
def RF:FnScope ZC qG (Ah UI):=Bt<|by decide +kernel
def RG:(qR:oA Str).Nodup:=by decide +kernel
def RH:ASp:=λg d R=>∃(a l b:lF) (c:oA Nat) (e:Nat),g=[.R a,.R b,.D<|.int e]/\c.length<=20/\b≠a/\b≠l/\d b=oG (c.map Bh)/\Pot d a l/\∀(ns:oA Nat) μ',ns.Sublist c->ns.length<=e->Pot μ' a l->Bj a l d μ'->R (.D<|Bc ns) μ'
def RI{n:Nat}(F:Fun K "_law_some" "_law_some" UI f fd) (dh:VCal P w K mg base n "_law_draw" oJ Uy) (aj:mg "tuple" = none):FnOk P w K mg base Dx (n+1) f fd qG (E8 K 3 RH):=by
 refine F.vok RF λaq A C s H E O=>⟨_,(Af (Fu (i:=3) (N':=qR) (mp:=[none,some 0]) rfl RF.nd rfl rfl (Bd<|vv 1) (λ_ _ _ _=>(Ak (i:=0) RG rfl oH oI)) (λ_ _ _ _=>(Dr<|Bg (Hm O) (Am dh O rfl<|Aa (vv 1)<|Aa Ai Ad) Ai<|nomark _)) (λ_ _ _ _=>(vv 0))<|Av (N:=ZC) (pn:=(Ah UI).names)<|by decide +kernel)<|Aj<|A8<|Bu Dm rfl aj bS<|Aa (C8 (vv 3) Ed<|Dl<|vv 2) Ad),?_⟩
 rintro xs S R _ ⟨a,l,r,h,mo,rfl,hs,na,nl,B,M,q⟩;refine Ax (λm d=>∃(ns:oA Nat) (G:lF),m=[oD a,oD r,oE mo,oD G]/\ns.Sublist h/\d G=oG (ns.map Bh)/\Pot d a l/\Bj a l S d) (λZ hZ=>?_) ?_;refine Ac (Ao B) λz k=>?_;have u:=M.ne k;have V:r≠z:=by rintro rfl;rw[B]at k;cases k
 refine E9 (λj g m d=>∃(o:oB AV) (ns:oA Nat),m=[o,oD a]/\g=ns.map Bh/\ns.Sublist (h.take j)/\d z=oG g/\d r=oG (h.map Bh)/\Pot d a l/\Bj a l S d) ⟨none,[],rfl,rfl,by simp,Ab,by rw[Ae V];exact B,M.new k,Bj.refl.new k⟩ (by rintro _ _ _ _ ⟨_,_,_,_,_,_,e,_⟩;exact Ao e) ?_ ?_;rintro j y g m I Z2 hy ⟨o,ns,rfl,rfl,b,L,Q,J,t⟩ hZ2;rw[L_]at hy;obtain⟨x,hx,rfl⟩:=G_.mp hy;have hj:j<h.length:=(E_.mp hx).1;have Y:h.take (j+1)=h.take j++[x]:=by rw[aO,hx];rfl
 refine⟨a,l,2,rfl,J,by decide,by decide,λv μ3 hv T p=>?_⟩;have X:=p z _ u.1.symm u.2.symm L;have W:=p r _ na nl Q;have hl:=b.length_le;rw[bI]at hl;refine ieq (λc=>⟨X,A5<|by rw[B_];omega,hZ2 _ _ _ ⟨_,ns++[x],rfl,by rw[N_];rfl,by rw[Y];exact b.append<|List.Sublist.refl _,Ab,by rw[Ae V];exact W,T.other u.1 u.2,(t.trans p).put k⟩⟩) (λc=>hZ2 _ _ _ ⟨_,ns,rfl,rfl,by rw[Y];exact b.trans<|List.sublist_append_left _ _,X,W,T,t.trans p⟩);rintro g m I ⟨o,ns,rfl,rfl,b,L,Q,J,t⟩;rw[B_,aK]at b;exact hZ _ _ ⟨ns,z,rfl,b,L,J,t⟩;rintro m μ1 ⟨ns,G,rfl,b,e1,P1,S1⟩;refine Ac (Ao e1) λp2 U=>?_;rw[U5];exact Ac (Ao Ab)<|Ac (D9 _) ⟨_,Sub.refl,q _ _ ((eY _ _).trans b) (List.length_take_le _ _) (P1.new U)<|S1.new U⟩
abbrev nSa:oA Str:=["_law_deal_here","_law_game_here","_law_own","_law_many_here","_law_most","_law_places","_law_stands","_law_arrows","_law_k","_law_arrow"]
def U8:FnScope nSa oX (Ah YB):=Bt<|by decide +kernel
structure Say where
 own:Nat
 as:oA Arw
 es:oA Nat
def Ds(s:Say):lE:=.tuple [.int s.own,.tuple<|s.as.map A9,Bc s.es]
structure SayOk(g:Gam)(s:Say)(own many:Nat):Prop where
 o:s.own<=own
 n:s.as.length<=many
 c:∀a∈s.as,a.c=none
 p:∀a∈s.as,a.p<g.pl.length+s.own
 x:∀a∈s.as,a.x<g.le.length
 t:∀a∈s.as,∀t∈a.ts,g.pl.length<=t/\t<g.pl.length+s.own
 tn:∀a∈s.as,a.ts.length<=own
 e:∀t∈s.es,t<g.pl.length+s.own
 en:s.es.length<=g.pl.length+s.own
def KZ:ASp:=λc b R=>∃(a l:lF) (g:Gam) (own many d:Nat),c=[.R a,.D<|Ch g,.D<|.int own,.D<|.int many,.D<|.int d]/\0<g.pl.length/\g.pl.length<=5/\0<g.le.length/\g.le.length<=5/\own<=5/\many<=20/\Pot b a l/\∀(s:Say) μ',SayOk g s own many->Pot μ' a l->Bj a l b μ'->R (.D<|Ds s) μ'
structure AwOk(g:Gam)(ow own:Nat)(a:Arw):Prop where
 c:a.c=none
 p:a.p<g.pl.length+ow
 x:a.x<g.le.length
 t:∀t∈a.ts,g.pl.length<=t/\t<g.pl.length+ow
 tn:a.ts.length<=own
def Lb{B:oA Arw}{k:Bool}(i:B.length<=400)(hc:∀a∈B,a.c.isSome=k):SortOkP (B.map A9):=by obtain⟨h,j,_⟩:=Iq B;refine⟨by rw[B_];omega,h,by omega,λd g=>?_,λd g e he=>?_⟩;obtain⟨a,ha,rfl⟩:=D_.mp g;exact⟨a.p,_,rfl⟩;obtain⟨a,ha,rfl⟩:=D_.mp g;obtain⟨b,hb,rfl⟩:=D_.mp he;exact Sg<|(hc a ha).trans (hc b hb).symm
theorem Si:∀(n k:Nat),Ej (k:Int) n=(List.range' k n).map Bh
 | 0,k=>rfl
 |n+1,k=>by
  rw[List.range'_succ,aP,<- Si n (k+1)]
  rfl
def Zo(n:Nat):Ej 0 n=(List.range n).map Bh:=by rw[List.range_eq_range'];exact Si n 0
def RJ{n:Nat}(F:Fun K "_law_saying" "_law_saying" YB f fd) (dh:VCal P w K mg base n "_law_draw" oJ Uy) (zi:VCal P w K mg base n "_law_some" qG RH) (ai:mg "len" = none) (bj:mg "list" = none) (ah:mg "range" = none) (aj:mg "tuple" = none) (ap:mg "sorted" = none):FnOk P w K mg base Dx (n+1) f fd oX (E8 K 5 KZ):=by
 refine F.vok U8 λaq A outer s H E M=>⟨_,(Af (Ap (i:=5) U8.nd rfl oH<|Az C5 rfl ai bD<|Aa (Bk Cb (vv 1) Ai) Ad)<|Af (Ap (i:=6) U8.nd rfl oH<|X0 rfl rfl bj rfl ah<|A6 B7 (vv 5)<|Am dh M rfl<|Aa (vv 0)<|Aa (A6 B7 (vv 2) Ai) Ad)<|Af (Ap (i:=7) U8.nd rfl oH<|B2 Ad)<|Af (B3 aF rfl (Cd rfl ah<|Aa (Am dh M rfl<|Aa (vv 0)<|Aa (A6 B7 (vv 3) Ai) Ad) Ad) (Ak (i:=8) U8.nd rfl oH)<|Af (Ap (i:=9) U8.nd rfl oH<|Bn<|Aa (Am dh M rfl<|Aa (vv 0)<|Aa (Az C5 rfl ai bD<|Aa (vv 6) Ad) Ad)<|Aa (Am dh M rfl<|Aa (vv 0)<|Aa (Az C5 rfl ai bD<|Aa (Bk Cb (vv 1) Ai) Ad) Ad)<|Aa (Am zi M rfl<|Aa (vv 0)<|Aa (C8 (vv 6) (Dl<|vv 5) Ed)<|Aa (vv 4) Ad) Ad)<|Aj<|Dq (Bg (Rj M) (vv 9) (vv 7)<|by with_unfolding_all rfl) (Aj<|B5<|Ee bY bZ C9 (vv 7)<|Aa (vv 9) Ad) B4)<|Aj<|A8<|Bn<|Aa (A6 FW (Az C5 rfl ai bD<|Aa (vv 6) Ad)<|vv 5)<|Aa (Bu Dm rfl aj bS<|Aa (Az (Hy M) rfl ap gX<|Aa (vv 7) Ad) Ad)<|Aa (Am zi M rfl<|Aa (vv 0)<|Aa (vv 6)<|Aa (Az C5 rfl ai bD<|Aa (vv 6) Ad) Ad) Ad),?_⟩
 rintro xs U R _ ⟨a,l,g,own,h,V,rfl,hp0,hp5,fc,kb,ho,hm,hP,q⟩;refine Ax (λu d=>u=[oD a,oF<|Ch g,oE own,oE h,oE V,oE g.pl.length,none,none,none,none]/\U=d) (λZ Q=>Ac (A0 (j:=0) rfl)<|by rw[<- B_ (f:=KU)]at Q;exact Q _ _ ⟨rfl,rfl⟩) ?_;rintro u _ ⟨rfl,rfl⟩;refine Ax (λu d=>∃(o:Nat) (m:lF),u=[oD a,oF<|Ch g,oE own,oE h,oE V,oE g.pl.length,oD m,none,none,none]/\o<=own/\m≠a/\m≠l/\d m=oG ((List.range<|g.pl.length+o).map Bh)/\Pot d a l/\Bj a l U d) (λZ Q=>?_) ?_;refine⟨a,l,own+1,rfl,hP,by omega,by omega,λv μ1 hv P1 S1=>⟨by omega,λm fy=>?_⟩⟩;have r:=P1.ne fy;refine Q _ _ ⟨v,m,rfl,by omega,r.1.symm,r.2.symm,?_,P1.new fy,S1.new fy⟩;rw[Ab,show((g.pl.length:Int)+(v:Int)).toNat=g.pl.length+v by omega,Zo];rintro u μ1 ⟨o,m,rfl,how,sa,sl,s1,P1,S1⟩;intro G X;have r:=P1.ne X;have jv:U G=none:=S1.none r.1 r.2 X;have yu:m≠G:=by rintro rfl;rw[s1]at X;cases X
 have u4:((List.range<|g.pl.length+o).map Bh).length=g.pl.length+o:=by simp
 refine Ax (λu d=>∃W T,∃B:oA Arw,u=[oD a,oF<|Ch g,oE own,oE h,oE V,oE g.pl.length,oD m,oD G,W,T]/\d G=oG (B.map λb=>.D<|A9 b)/\d m=oG ((List.range<|g.pl.length+o).map Bh)/\B.length<=h/\(B.map A9).Nodup/\(∀b∈B,AwOk g o own b)/\Pot d a l/\Bj a l U d) (λZ Q=>?_) ?_;refine⟨a,l,h+1,rfl,P1.new X,by omega,by omega,λc μ2 hc P2 S2=>⟨by omega,by omega,?_⟩⟩;have ag:(Ej 0 (c:Int).toNat).length=c:=by rw[Bq];omega
 have e2:=S2 G _ r.1.symm r.2.symm Ab;have s2:=S2 m _ sa sl (by rw[Ae yu];exact s1);refine Cp (λi u d=>∃W T,∃B:oA Arw,u=[oD a,oF<|Ch g,oE own,oE h,oE V,oE g.pl.length,oD m,oD G,W,T]/\d G=oG (B.map λb=>.D<|A9 b)/\d m=oG ((List.range<|g.pl.length+o).map Bh)/\B.length<=i/\(B.map A9).Nodup/\(∀b∈B,AwOk g o own b)/\Pot d a l/\Bj a l U d) ⟨none,none,[],rfl,e2,s2,F_ _,a_,(λ_ z=>nomatch z),P2,(S1.new X).trans S2⟩ (λ_ _ _ _=>trivial) ?_ ?_;rintro i y u O Z2 hy ⟨W,T,B,rfl,e3,L,hB,Y,I,P3,S3⟩ hZ2;have hi:i<c:=by rw[<- ag];exact(E_.mp hy).1
 refine Ax (λu d=>∃v:Arw,u=[oD a,oF<|Ch g,oE own,oE h,oE V,oE g.pl.length,oD m,oD G,some y,oF<|A9 v]/\AwOk g o own v/\d G=oG (B.map λb=>.D<|A9 b)/\d m=oG ((List.range<|g.pl.length+o).map Bh)/\Pot d a l/\Bj a l U d) (λZ3 bu=>?_) ?_;refine Ac L ⟨a,l,g.pl.length+o,by rw[u4],P3,by omega,by omega,λp μ4 hp P4 S=>Ac (A0 (j:=1) rfl) ⟨a,l,g.le.length,by rw[B_],P4,fc,by omega,λx μ5 hx P5 S5=>?_⟩⟩;have s5:=S5 m _ sa sl<|S m _ sa sl L;have e5:=S5 G _ r.1.symm r.2.symm<|S G _ r.1.symm r.2.symm e3;refine Ac (Ao s5) λpc N=>?_;have kr:=P5.ne N;have mq:G≠pc:=by rintro rfl;rw[e5]at N;cases N
 have fh:m≠pc:=by rintro rfl;rw[s5]at N;cases N
 rw[U6];refine⟨a,l,pc,(List.range<|g.pl.length+o).drop g.pl.length,V,rfl,by simp;omega,kr.1.symm,kr.2.symm,Ab,P5.new N,λts μ6 C hts P6 S6=>bu _ _ ⟨⟨p,x,ts,none⟩,rfl,⟨rfl,hp,hx,λt ht=>?_,?_⟩,S6 G _ r.1.symm r.2.symm<|by rw[Ae mq];exact e5,S6 m _ sa sl<|by rw[Ae fh];exact s5,P6,(((S3.trans S).trans S5).new N).trans S6⟩⟩;have h1:=C.subset ht;refine⟨?_,bC.mp<|fO h1⟩;obtain⟨i,hi,e⟩:=eF h1;rw[List.getElem_drop,List.getElem_range]at e;omega;have:=C.length_le;rw[dZ,bR]at this;show ts.length<=own;omega;rintro u μ4 ⟨v,rfl,hv,e4,s4,P4,S⟩;refine Ac rfl<|Ac (Ao e4)<|Ac (J2 B) ⟨Zn v,U7 B,br (λc1=>?_) λc1=>?_⟩;have c1':((B.map A9).any λe=>PyData.eqv e<|A9 v)=false:=by simpa using c1
 refine⟨Ac e4 trivial,Ac e4 ⟨A5<|by rw[B_];omega,hZ2 _ _ ⟨_,_,B++[v],rfl,by rw[Ab,N_];rfl,by rw[Ae yu];exact s4,by rw[P_];show B.length+1<=_;omega,?_,λb hb=>?_,P4.other r.1 r.2,S.put jv⟩⟩⟩;rw[N_];refine aX.mpr ⟨Y,cB.mpr ⟨by simp,a_⟩,λz hz z' im e=>?_⟩;have e':z'=A9 v:=by simpa using im
 rw[e,e']at hz;exact EH c1' hz;rcases Q_.mp hb with hb|hb;exact I b hb;rw[H_.mp hb];exact hv;exact hZ2 _ _ ⟨_,_,B,rfl,e4,s4,by omega,Y,I,P4,S⟩;rintro u O ⟨W,T,B,rfl,e3,L,hB,Y,I,P3,S3⟩;rw[ag]at hB;exact Q _ _ ⟨_,_,B,rfl,e3,L,by omega,Y,I,P3,S3⟩;rintro u O ⟨W,T,B,rfl,e3,L,hB,Y,I,P3,S3⟩;refine Ac L (Ac e3<|Ac (J2 B) ⟨Lb (k:=false) (by omega) λb hb=>by rw[(I b hb).c];rfl,λes p ck hp=>?_⟩);obtain⟨A',rfl,i5,J⟩:=unmap (g:=A9) (B:=B) (es:=es) λe he=>ck.mem_iff.mp he;have cw:=ck.length_eq;rw[B_,B_]at cw;have fy:m≠p:=by rintro rfl;rw[L]at hp;cases hp
 have s4:Al O p (.lst<|(A'.map A9).map .D) m=oG ((List.range<|g.pl.length+o).map Bh):=by rw[Ae fy];exact L
 refine Ac (Ao Ab) (Ac (Cc _)<|Ac s4 ⟨a,l,m,List.range<|g.pl.length+o,g.pl.length+o,by rw[u4],by simp;omega,sa,sl,s4,P3.new hp,λns μ5 C gh P5 S5=>⟨_,Sub.refl,?_⟩⟩);rw[u4];dsimp only;rw[show((g.pl.length+o:Nat):Int)-(g.pl.length:Int)=(o:Nat) by omega];refine q ⟨o,A',ns⟩ _ ⟨how,by show A'.length<=_;omega,λb hb=>(I b<|J b hb).c,λb hb=>(I b<|J b hb).p,λb hb=>(I b<|J b hb).x,λb hb=>(I b<|J b hb).t,λb hb=>(I b<|J b hb).tn,λt ht=>bC.mp<|C.subset ht,?_⟩ P5<|(S3.new hp).trans S5;exact gh
def rd(A:oA Arw)(b:oA Nat):oA Nat->Nat->Bool
 |[],s=>decide (s∈b)
 |x::w,s=>A.any λa=>decide (a.p=s/\a.x=x)&&a.ts.all λt=>rd A b w t
def Fits(b:oA Nat)(x:Nat)(a:Arw)(s:Nat):Prop:=a.p=s/\a.x=x/\∀t∈a.ts,t∈b
def EI{A:oA Arw}{b w g:oA Nat}{x s:Nat}(h:∀t,t∈g↔rd A b w t=true):rd A b (x::w) s=true↔∃a∈A,Fits g x a s:=by rw[rd,bP];constructor;rintro⟨a,ha,e⟩;rw[aY,dB]at e;have d:=aG e.1;exact⟨a,ha,d.1,d.2,λt c=>(h t).mpr<|e.2 t c⟩;rintro⟨a,ha,h1,h2,i⟩;exact⟨a,ha,by rw[aY,dB];exact⟨aW ⟨h1,h2⟩,λt c=>(h t).mp<|i t c⟩⟩
def U9{a:Type} [DecidableEq a](kvs:oA<|a×AV)(k:a)(v:AV):(Ek kvs k v).map (·.1)=if k∈kvs.map (·.1) then kvs.map (·.1) else kvs.map (·.1)++[k]:=by
 unfold Ek;by_cases h:k∈kvs.map (·.1);obtain⟨z,hz,e⟩:=D_.mp h;rw[T_ h,T_<|bP.mpr ⟨z,hz,aW e⟩,aD];exact fD λz _=>by show(if z.1=k then(z.1,v) else z).1=_;split<;>rfl
 rw[M_ h,M_,N_]
 rfl
 intro q;obtain⟨z,hz,e⟩:=bP.mp q;exact h<|D_.mpr ⟨z,hz,aG e⟩
def Va{a:Type} [DecidableEq a](kvs:oA<|a×AV)(k:a):(Cl kvs k).isSome=decide (k∈kvs.map (·.1)):=by unfold Cl;rw[iH,gG,List.find?_isSome,bV,D_];exact⟨by rintro ⟨x,hx,e⟩;exact ⟨x,hx,aG e⟩,by rintro ⟨x,hx,e⟩;exact ⟨x,hx,aW e⟩⟩
def MR(n:Nat):Key:=.inl (n:Int)
def Mh{s:Nat}{a:oA Nat}:MR s∈a.map MR↔s∈a:=by
 constructor;intro h;obtain⟨z,hz,e⟩:=D_.mp h;have:z=s:=by unfold MR at e;have:=iC e;omega
 rw[<- this];exact hz;exact λh=>D_.mpr ⟨s,h,rfl⟩
def Dd(d:M)(c:lF)(b:oA Nat):Prop:=∃a,d c=some (.dk a)/\a.map (·.1)=b.map MR/\b.Nodup
def Dd.has{d:M}{b:lF}{c:oA Nat}(h:Dd d b c):∃a,d b=some (.dk a)/\∀t:Nat,∃r,dget (.dk a) (.int (t:Nat))=some r/\r.isSome=decide (t∈c):=by obtain⟨a,e,k,_⟩:=h;refine⟨a,e,λt=>⟨Cl a<|MR t,rfl,?_⟩⟩;rw[Va,k];exact jB.mpr Mh
def Dd.put{m:M}{d:lF}{b:oA Nat}(p:Nat)(h:Dd m d b):∃a l i,m d=some (.dk a)/\a.length=b.length/\dput (.dk a) (.int (p:Nat)) (.D<|.bool true)=some l/\(∀ g,Dd (Al g d l) d i)/\i.length<=b.length+1/\∀s,s∈i↔s∈b\/s=p:=by
 obtain⟨a,e,k,nd⟩:=h;have c:=U9 a (MR p)<|.D<|.bool true;rw[k]at c;have j:a.length=b.length:=by rw[<- B_ (f:=(·.1)) (as:=a),k,B_]
 by_cases hp:p∈b;rw[T_<|Mh.mpr hp]at c;exact⟨a,_,b,e,j,rfl,λ_=>⟨_,Ab,c,nd⟩,by omega,λs=>⟨.inl,λh=>h.elim id λz=>by rw[z];exact hp⟩⟩;rw[M_ λz=>hp<|Mh.mp z]at c;refine⟨a,_,b++[p],e,j,rfl,λ_=>⟨_,Ab,c.trans<|by rw[N_];rfl,aX.mpr ⟨nd,cB.mpr ⟨by simp,a_⟩,λz hz n r q=>?_⟩⟩,by simp,λs=>by simp⟩;have o:n=p:=by simpa using r
 rw[q,o]at hz;exact hp hz
abbrev ZD:oA Str:=["arrows","reading","letter","above","arrow"]
def LC:FnScope ZD qH (Ah UE):=Bt<|by decide +kernel
def RK:(["target","reading"]:oA Str).Nodup:=by decide +kernel
def RL:ASp:=λi h R=>∃(A:oA Arw) (e:lF) (g:oA Nat) (x:Nat),i=[.D<|.tuple<|A.map A9,.R e,.D<|.int (x:Nat)]/\A.length<=400/\(∀a∈A,a.ts.length<=400)/\Dd h e g/\∀d c b,Dd b d c->c.length<=400->(∀s,s∈c↔∃a∈A,Fits g x a s)->Sub h b->R (.R d) b
def RM{n:Nat}(F:Fun K "reading_with" "reading_with" UE f fd) (jh:mg "all" = none):FnOk P w K mg base Dx (n+1) f fd qH (E8 K 3 RL):=by
 refine F.vok LC λaq A U s H E hr=>⟨_,(Af (Ap (i:=3) LC.nd rfl oH Jh)<|Af (B3 aF rfl (Bd<|vv 0) (Ak (i:=4) LC.nd rfl oH)<|Aj<|Dq (VW.pt<|Gj (Bg (Hm hr) (Bk Cb (vv 4) Ai) (vv 2)<|nomark _)<|E7<|Lu<|Az (OG rfl) rfl jh PyProof.Rows.boot_all<|Aa (Bm (N':=["target","reading"]) (mp:=[none,some 1]) rfl (Bd<|Bk Cb (vv 4) Ai) (λ_ _ _ _=>(Ak (i:=0) RK rfl oH oI)) (λ_ _ _ _=>Br) (λ_ _ _ _=>(W8 (B0 hr) (vv 0)<|vv 1))<|Av (N:=ZD) (pn:=(Ah UE).names)<|by decide +kernel) Ad) (Aj<|Da (B0 hr) (vv 3) (Bk Cb (vv 4) Ai) Fk) B4)<|Aj<|A8<|vv 3),?_⟩
 rintro xs Y R _ ⟨A,L,u,x,rfl,hA,kA,O,q⟩;obtain⟨rkv,er,hr1⟩:=O.has;intro l Q;have yk:L≠l:=by rintro rfl;rw[er]at Q;cases Q
 refine Ax (λB k=>∃J d,B=[oF<|.tuple<|A.map A9,oD L,oE (x:Nat),oD l,J]/\Dd k l d/\d.length<=400/\(∀s,s∈d↔∃a∈A,Fits u x a s)/\Sub Y k) (λZ hZ=>?_) ?_;refine Ac (Dz A) ?_;refine Cp (λi B k=>∃J d,B=[oF<|.tuple<|A.map A9,oD L,oE (x:Nat),oD l,J]/\Dd k l d/\d.length<=i/\(∀s,s∈d↔∃a∈A.take i,Fits u x a s)/\Sub Y k) ⟨none,[],rfl,⟨[],Ab,rfl,a_⟩,F_ _,(λs=>by simp),Sub.refl.new Q⟩ (λ_ _ _ _=>Dz A) ?_ ?_;rintro i y B v Z2 hy ⟨J,d,rfl,I,T,z,S⟩ hZ2;rw[L_]at hy;obtain⟨a,ha,rfl⟩:=G_.mp hy;have hi:i<A.length:=(E_.mp ha).1;have kA1:=kA a<|W_ ha;have be:A.take (i+1)=A.take i++[a]:=by rw[aO,ha];rfl
 have y3:=S L _ er;have bp:(∀s,¬Fits u x a s)->∀s,s∈d↔∃a∈A.take (i+1),Fits u x a s:=λhn s=>by rw[z s,be];constructor;rintro⟨b,hb,e⟩;exact⟨b,aE _ hb,e⟩;rintro⟨b,hb,e⟩;rcases Q_.mp hb with hb|hb;exact⟨b,hb,e⟩;rw[H_.mp hb]at e;exact absurd e<|hn s
 refine Ac (A0 (j:=1) rfl) (ieq (λc=>?_) λc=>O8 rfl<|hZ2 _ _ ⟨_,d,rfl,I,by omega,bp λs h=>c<|by rw[h.2.1],S⟩);refine Ac KY<|Ac (Bo a.ts) λG g=>?_;have ij:l≠G:=by rintro rfl;obtain⟨_,M,_⟩:=I;rw[M]at g;cases g
 have um:L≠G:=by rintro rfl;rw[y3]at g;cases g
 refine cmap a.ts _ (λt=>.D<|.bool<|decide (t∈u)) (λB=>∃o,B=[o,oD L]) ⟨none,rfl⟩ Ab (seven<|by omega) (λ_=>Bo a.ts) ?_ ?_;rintro j t τ' acc W hj ⟨o,rfl⟩ hW;obtain⟨r,e1,e2⟩:=hr1 t;refine Ac (x:=MO.dk rkv) (by rw[Ae um,Ae um];exact y3)<|Ac e1 ?_;rw[e2];exact hW _ ⟨_,rfl⟩;dsimp only[IW];have nj:Sub Y (Al (Al v G<|.lst []) G<|.lst<|a.ts.map λt=>.D<|.bool<|decide (t∈u)):=λb m hb=>by
  have h1:=S b m hb;have b2:b≠G:=by rintro rfl;rw[h1]at g;cases g
  rw[Ae b2,Ae b2];exact h1
 have yq:Dd (Al (Al v G<|.lst []) G<|.lst<|a.ts.map λt=>.D<|.bool<|decide (t∈u)) l d:=by obtain⟨C,M,r⟩:=I;exact⟨C,by rw[Ae ij,Ae ij];exact M,r⟩
 refine OV Ab<|br (λc2=>?_) λc2=>?_;have jf:Fits u x a a.p:=⟨rfl,by omega,λt X=>aG<|(dB.mp c2) t X⟩;obtain⟨C,m',md,M,el,ep,hI3,mf,V⟩:=yq.put a.p;refine Ac (A0 (j:=0) rfl) (Ac M<|Ac ep ⟨A5<|show C.length<=1000 by omega,hZ2 _ _ ⟨_,md,rfl,hI3 _,by omega,λs=>?_,λb m hb=>?_⟩⟩);rw[V s,z s,be];constructor;rintro(⟨b,hb,e⟩|rfl);exact⟨b,aE _ hb,e⟩;exact⟨a,aT _<|by simp,jf⟩;rintro⟨b,hb,e⟩;rcases Q_.mp hb with hb|hb;exact .inl ⟨b,hb,e⟩;rw[H_.mp hb]at e;exact .inr e.1.symm;have b1:b≠l:=by rintro rfl;rw[Q]at hb;cases hb
 rw[Ae b1];exact nj b m hb;refine hZ2 _ _ ⟨_,d,rfl,yq,by omega,bp λs h=>?_,nj⟩;have y4:(a.ts.all λt=>decide (t∈u))=false:=c2;rw[dB.mpr λt X=>aW<|h.2.2 t X]at y4;cases y4;rintro B v ⟨J,d,rfl,O,T,z,S⟩;rw[B_]at T z;rw[aK]at z;exact hZ _ _ ⟨_,d,rfl,O,by omega,z,S⟩;rintro B v ⟨J,d,rfl,O,T,z,S⟩;exact⟨_,Sub.refl,q l d _ O T z S⟩
def EJ{W:oA Nat}{i:Nat}{y:AV}(hy:((W.map λ(n:Nat)=>PyData.int n).map AV.D).reverse[i]?=some y):i<W.length/\∃x,W[W.length-1-i]?=some x/\y=.D (.int (x:Nat)):=by obtain⟨hi,e⟩:=L3 hy;rw[B_,B_]at hi e;rw[L_,L_]at e;obtain⟨c,a,rfl⟩:=G_.mp e;obtain⟨x,b,rfl⟩:=G_.mp a;exact⟨hi,x,b,rfl⟩
abbrev nRe:oA Str:=["arrows","ends","stand","pile","reading","end","letter"]
def Zp:FnScope nRe oQ (Ah XY):=Bt<|by decide +kernel
def EL:ASp:=λd e R=>∃(A:oA Arw) (b:oA Nat) (s:Nat) (W:oA Nat),d=[.D<|.tuple<|A.map A9,.D<|Bc b,.D<|.int (s:Nat),.D<|Bc W]/\A.length<=400/\(∀a∈A,a.ts.length<=400)/\b.length<=400/\∀ c,Sub e c->R (.D<|.bool<|rd A b W s) c
def RN{n:Nat}(F:Fun K "reads" "reads" XY f fd) (N:VCal P w K mg base n "reading_with" qH RL) (a8:mg "reversed" = none):FnOk P w K mg base Dx (n+1) f fd oQ (E8 K 4 EL):=by
 refine F.vok Zp λaq A L s H E Q=>⟨_,(Af (Ap (i:=4) Zp.nd rfl oH Jh)<|Af (B3 aF rfl (Bd<|vv 1) (Ak (i:=5) Zp.nd rfl oH)<|Aj<|Da (B0 Q) (vv 4) (vv 5) Fk)<|Af (B3 aF rfl (JN rfl a8<|vv 3) (Ak (i:=6) Zp.nd rfl oH)<|Aj<|Ap (i:=4) Zp.nd rfl oH<|Am N Q rfl<|Aa (vv 0)<|Aa (vv 4)<|Aa (vv 6) Ad)<|Aj<|A8<|W8 (B0 Q) (vv 2)<|vv 4),?_⟩
 rintro xs I R _ ⟨A,a,s,W,rfl,hA,kA,he,q⟩;intro h yk;refine Ax (λg c=>∃o d,g=[oF<|.tuple<|A.map A9,oF<|Bc a,oE (s:Nat),oF<|Bc W,oD h,o,none]/\Dd c h d/\(∀t,t∈d↔t∈a)/\Sub I c) (λZ J=>?_) ?_;refine Ac (Bo a) ?_;refine Cp (λi g c=>∃o d,g=[oF<|.tuple<|A.map A9,oF<|Bc a,oE (s:Nat),oF<|Bc W,oD h,o,none]/\Dd c h d/\d.length<=i/\(∀t,t∈d↔t∈a.take i)/\Sub I c) ⟨none,[],rfl,⟨[],Ab,rfl,a_⟩,F_ _,(λt=>by simp),Sub.refl.new yk⟩ (λ_ _ _ _=>Bo a) ?_ ?_;rintro i y g B Z2 hy ⟨o,d,rfl,k,hl,j,S⟩ hZ2;rw[L_]at hy;obtain⟨e,Y,rfl⟩:=G_.mp hy;have hi:i<a.length:=(E_.mp Y).1;obtain⟨z,m',md,M,el,ep,u,mf,p⟩:=k.put e;refine Ac M (Ac ep ⟨A5<|show z.length<=1000 by omega,hZ2 _ _ ⟨_,md,rfl,u _,by omega,λt=>?_,λb m hb=>?_⟩⟩);rw[p t,j t,aO,Y,Q_];simp;have b1:b≠h:=by rintro rfl;rw[yk]at hb;cases hb
 rw[Ae b1];exact S b m hb;rintro g B ⟨o,d,rfl,k,hl,j,S⟩;rw[B_,aK]at j;exact J _ _ ⟨_,d,rfl,k,j,S⟩;rintro g B ⟨o,X,rfl,T,U,S1⟩;refine Ax (λg c=>∃v h d,g=[oF<|.tuple<|A.map A9,oF<|Bc a,oE (s:Nat),oF<|Bc W,oD h,o,v]/\Dd c h d/\(∀t,t∈d↔rd A a W t=true)/\Sub I c) (λZ J=>?_) ?_;refine Cp (λi g c=>∃v h d,g=[oF<|.tuple<|A.map A9,oF<|Bc a,oE (s:Nat),oF<|Bc W,oD h,o,v]/\Dd c h d/\(∀t,t∈d↔rd A a (W.drop<|W.length-i) t=true)/\Sub I c) ⟨none,h,X,rfl,T,(λt=>by rw[U t,jV,d_];exact(bV).symm),S1⟩ (λ_ _ _ _=>trivial) ?_ ?_;rintro i y g G Z2 hy ⟨v,l,d,rfl,k,j,C⟩ hZ2;obtain⟨hi,x,ex,rfl⟩:=EJ hy;have sg:W.drop (W.length-(i+1))=x::W.drop (W.length-i):=by
  obtain⟨h1,h2⟩:=E_.mp ex;have V:W.length-(i+1)=W.length-1-i:=by omega
  have O:W.length-i=W.length-1-i+1:=by omega
  rw[V,O,bL h1,h2]
 refine⟨A,l,d,x,rfl,hA,kA,k,λab ps μ3 u _ p S3=>hZ2 _ _ ⟨_,ab,ps,rfl,u,λt=>?_,λb m hb=>S3 b m<|C b m hb⟩⟩;rw[p t,sg];exact(EI j).symm;rintro g G ⟨v,l,d,rfl,k,j,C⟩;rw[gU,B_,B_,kZ,gN]at j;exact J _ _ ⟨_,l,d,rfl,k,j,C⟩;rintro g G ⟨v,l,d,rfl,k,j,C⟩;obtain⟨z,M,hg⟩:=k.has;obtain⟨r,V,O⟩:=hg s;refine Ac M<|Ac V ⟨_,Sub.refl,?_⟩;rw[O,show decide (s∈d)=rd A a W s by rw[gG,bV];exact j s];exact q _ C
def shf(k:Nat)(ts:oA Nat):oA Nat:=ts.map (k+·)
def Hd(pl:Nat)(a:Arw):oA Arw:=⟨pl+a.p,a.x,shf pl a.ts,none⟩::(if a.p<pl then [⟨a.p,a.x,shf pl a.ts,none⟩] else [])
def Cq(pl:Nat)(C:oA Arw):oA Arw:=C.flatMap<|Hd pl
def Fx(pl:Nat)(es:oA Nat):oA Nat:=es.filter (λe=>decide (e<pl))++es.map (pl+·)
def Vb(pl:Nat)(a:Arw):(Hd pl a).length<=2:=by unfold Hd;split<;>simp
theorem E1(pl:Nat):∀(C:oA Arw),(Cq pl C).length<=2*C.length
 |[]=>F_ _
 |a::C=>by have:=E1 pl C;have:=Vb pl a;unfold Cq at *;rw[List.flatMap_cons,P_,aZ];omega
def EM{pl:Nat}{C:oA Arw}{b:Arw}(h:b∈Cq pl C):b.c=none:=by
 obtain⟨a,_,hb⟩:=bT.mp h;unfold Hd at hb;rcases aB.mp hb with rfl|hb
 rfl
 split at hb;rw[H_.mp hb];cases hb
def Vc(a:Arw):AV:=.D<|A9 a
def EN{B:oA Arw}{k:Bool}(i:B.length<100)(hc:∀a∈B,a.c.isSome=k):TOk (B.map A9):=by refine⟨by rw[B_];omega,λd g=>?_,λd g=>?_,λd g e he=>?_⟩;obtain⟨a,ha,rfl⟩:=D_.mp g;obtain⟨h1,h2,h⟩:=J1 a;exact⟨h,h1,by omega⟩;obtain⟨a,ha,rfl⟩:=D_.mp g;exact⟨a.p,_,rfl⟩;obtain⟨a,ha,rfl⟩:=D_.mp g;obtain⟨b,hb,rfl⟩:=D_.mp he;exact Sg<|(hc a ha).trans (hc b hb).symm
def EO{b a:M}{p:lF}{m:MO}(h:Sub b a)(e:a p=none):Sub b (Al a p m):=h.new (by
 cases c:b p with
 |none=>rfl
 |some x=>rw[h p x c]at e;cases e)
theorem Oq{a d:Type}{f:a->d}{B:oA a}:∀{es:oA d},(∀e∈es,e∈B.map f)->∃C:oA a,es=C.map f/\∀c∈C,c∈B
 |[],_=>⟨[],rfl,λ_ z=>nomatch z⟩
 |e::es,h=>by
  obtain⟨b,hb,rfl⟩:=D_.mp<|h e<|.head _;obtain⟨C,rfl,i⟩:=Oq λj g=>h j<|.tail _ g;exact⟨b::C,rfl,λc hc=>by
   rcases aB.mp hc with rfl|hc;exact hb;exact i c hc⟩
abbrev UK:oA Str:=["game","saying","arrows","places","told","stand","letter","targets","cost","moved","ends"]
def Mi:FnScope UK oY (Ah MN):=Bt<|by decide +kernel
def RO:(["target","places"]:oA Str).Nodup:=by decide +kernel
def RP:(oZ:oA Str).Nodup:=by decide +kernel
def RQ:(oZ:oA Str).Nodup:=by decide +kernel
structure AsIn(C:oA Arw)(es:oA Nat):Prop where
 n:C.length<=40
 c:∀a∈C,a.c.isSome=true
 t:∀a∈C,a.ts.length<=10
 e:es.length<=10
def LD:ASp:=λa b R=>∃(g:Gam) (S:Say) (C:oA Arw),a=[.D<|Ch g,.D<|Ds S,.D<|.tuple<|C.map A9]/\AsIn C S.es/\∀(es:oA lE) μ',es.Nodup->(∀d,d∈es↔d∈(Cq g.pl.length C).map A9)->Sub b μ'->R (.D<|.tuple [.int ((g.pl.length:Nat)+(S.own:Nat):Int),.tuple es,Bc<|Fx g.pl.length S.es]) μ'
def RS{n:Nat}(F:Fun K "as_saying" "as_saying" MN f fd) (ai:mg "len" = none) (aj:mg "tuple" = none) (ap:mg "sorted" = none) (ft:mg "set" = none):FnOk P w K mg base Dx (n+1) f fd oY (E8 K 3 LD):=by
 refine F.vok Mi λaq A outer s H E hr=>⟨_,(Af (Ap (i:=3) Mi.nd rfl oI<|Az C5 rfl ai bD<|Aa (Bk Cb (vv 0) Ai) Ad)<|Af (Ap (i:=4) Mi.nd rfl oH<|B2 Ad)<|Af (B3 aF rfl (Bd<|vv 2) (D4 (n:=4) rfl<|Au (Ak (i:=5) Mi.nd rfl oH)<|Au (Ak (i:=6) Mi.nd rfl oH)<|Au (Ak (i:=7) Mi.nd rfl oH)<|Au (Ak (i:=8) Mi.nd rfl oH) B8)<|Af (Ap (i:=9) Mi.nd rfl oH<|Bu Dm rfl aj bS<|Aa (Bm (N':=["target","places"]) (mp:=[none,some 3]) rfl (Bd<|vv 7) (λ_ _ _ _=>(Ak (i:=0) RO rfl oH oI)) (λ_ _ _ _=>Br) (λ_ _ _ _=>(A6 B7 (vv 1)<|vv 0))<|Av (N:=UK) (pn:=(Ah MN).names)<|by decide +kernel) Ad)<|Af (B5<|Ee bY bZ C9 (vv 4)<|Aa (Bn<|Aa (A6 B7 (vv 3)<|vv 5)<|Aa (vv 6)<|Aa (vv 9) Ad) Ad)<|Aj<|Dq (Bg CG (vv 5) (vv 3)<|nomark _) (Aj<|B5<|Ee bY bZ C9 (vv 4)<|Aa (Bn<|Aa (vv 5)<|Aa (vv 6)<|Aa (vv 9) Ad) Ad) B4)<|Af (Ap (i:=10) Mi.nd rfl oH<|A6 B7 (Bm (N':=oZ) (mp:=[none,some 3]) rfl (Bd<|Bk Cb (vv 1) Ai) (λ_ _ _ _=>(Ak (i:=0) RP rfl oH oI)) (λ_ _ _ _=>(Dr<|Bg CG (vv 0) (vv 1)<|nomark _)) (λ_ _ _ _=>(vv 0))<|Av (N:=UK) (pn:=(Ah MN).names)<|by decide +kernel)<|Bm (N':=oZ) (mp:=[none,some 3]) rfl (Bd<|Bk Cb (vv 1) Ai) (λ_ _ _ _=>(Ak (i:=0) RQ rfl oH oI)) (λ_ _ _ _=>Br) (λ_ _ _ _=>(A6 B7 (vv 1)<|vv 0))<|Av (N:=UK) (pn:=(Ah MN).names)<|by decide +kernel)<|Aj<|A8<|Bn<|Aa (A6 B7 (vv 3)<|Bk Cb (vv 1) Ai)<|Aa (Bu Dm rfl aj bS<|Aa (Y2 hr rfl ap rfl ft<|vv 4) Ad)<|Aa (Bu Dm rfl aj bS<|Aa (vv 10) Ad) Ad),?_⟩
 rintro xs L R _ ⟨g,S,C,rfl,I,q⟩;have hI:=I.n;refine Ax (λh d=>h=[oF<|Ch g,oF<|Ds S,oF<|.tuple<|C.map A9,oE g.pl.length,none,none,none,none,none,none,none]/\L=d) (λZ hZ=>Ac (A0 (j:=0) rfl)<|by rw[<- B_ (f:=KU)]at hZ;exact hZ _ _ ⟨rfl,rfl⟩) ?_;rintro h _ ⟨rfl,rfl⟩;generalize hpl:g.pl.length=pl at q ⊢;intro l u6;refine Ax (λh d=>∃V T Y U Q,h=[oF<|Ch g,oF<|Ds S,oF<|.tuple<|C.map A9,oE pl,oD l,V,T,Y,U,Q,none]/\d l=oG ((Cq pl C).map Vc)/\Sub L d) (λZ hZ=>?_) ?_
 ·refine Ac (Dz C) ?_;refine Cp (λi h d=>∃V T Y U Q,h=[oF<|Ch g,oF<|Ds S,oF<|.tuple<|C.map A9,oE pl,oD l,V,T,Y,U,Q,none]/\d l=oG ((Cq pl<|C.take i).map Vc)/\Sub L d) ⟨none,none,none,none,none,rfl,Ab,Sub.refl.new u6⟩ (λ_ _ _ _=>Dz C) ?_ ?_
  ·rintro i y h r Z2 hy ⟨V,T,Y,U,Q,rfl,O,S1⟩ hZ2;rw[L_]at hy;obtain⟨a,ha,rfl⟩:=G_.mp hy;have yy:=W_ ha;have xt:=I.t a yy;have wb:=I.c a yy;have hi:i<C.length:=(E_.mp ha).1;have be:Cq pl (C.take<|i+1)=Cq pl (C.take i)++Hd pl a:=by unfold Cq;rw[aO,ha,jS];simp
   have my:=E1 pl<|C.take i;rw[bI]at my;obtain⟨p,x,ts,c⟩:=a;cases c with
   |none=>cases wb
   |some c=>
    refine⟨rfl,?_⟩;rw[show List.map AV.D (Qw ⟨p,x,ts,some c⟩)=[.D<|.int p,.D<|.int x,.D<|Bc ts,.D<|.int c] from rfl];dsimp only[Fe,D3,Nc,List.set];refine Ax (λh d=>h=[oF<|Ch g,oF<|Ds S,oF<|.tuple<|C.map A9,oE pl,oD l,oE p,oE x,oF<|Bc ts,oE c,oF<|Bc<|shf pl ts,none]/\d l=oG ((Cq pl<|C.take i).map Vc)/\Sub L d) (λZ3 bu=>?_) ?_;refine Ac (Bo ts) λpc ay=>?_;have zc:l≠pc:=by rintro rfl;rw[O]at ay;cases ay
    refine cmap ts _ (λt=>Bh<|pl+t) (λh=>∃o,h=[o,oE pl]) ⟨none,rfl⟩ Ab (seven<|by simpa using K_ xt (by decide)) (λ_=>Bo ts) ?_ ?_;rintro k t τ' acc W hk ⟨o,rfl⟩ hW;exact hW _ ⟨_,rfl⟩;refine Ac (Ao Ab) (Ac (x:=(shf pl ts).map λ(n:Nat)=>PyData.int n) ?_<|bu _ _ ⟨rfl,by rw[Ae zc,Ae zc];exact O,λb m hb=>?_⟩);rw[show(ts.map λt=>Bh<|pl+t)=(shf pl ts).map Bh by rw[shf,aD];rfl];exact D9 _;have h1:=S1 b m hb;have B:b≠pc:=by rintro rfl;rw[h1]at ay;cases ay
    rw[Ae B,Ae B];exact h1;rintro h z ⟨rfl,G,X⟩;have v:∀(d:M) o,Sub L d->Sub L (Al d l o):=λd o Sx b m hb=>by
     have B:b≠l:=by rintro rfl;rw[u6]at hb;cases hb
     rw[Ae B];exact Sx b m hb
    refine Ck ⟨Ac G trivial,Ac G ⟨A5<|by rw[B_];omega,?_⟩⟩;refine dif (λc1=>⟨Ac Ab trivial,Ac Ab ⟨A5<|by rw[P_,B_];show _+1<=_;omega,hZ2 _ _ ⟨_,_,_,_,_,rfl,?_,v _ _<|v _ _ X⟩⟩⟩) λc1=>hZ2 _ _ ⟨_,_,_,_,_,rfl,?_,v _ _ X⟩;rw[Ab,be,N_,Hd,T_<|show p<pl by omega,eZ];rfl;rw[Ab,be,N_,Hd,M_<|show ¬p<pl by omega];rfl
  rintro h r ⟨V,T,Y,U,Q,rfl,O,S1⟩;rw[B_,aK]at O;exact hZ _ _ ⟨_,_,_,_,_,rfl,O,S1⟩
 rintro h r ⟨V,T,Y,U,Q,rfl,O,S1⟩;refine Ax (λh d=>∃pe,h=[oF<|Ch g,oF<|Ds S,oF<|.tuple<|C.map A9,oE pl,oD l,V,T,Y,U,Q,oD pe]/\d pe=oG ((Fx pl S.es).map Bh)/\d l=oG ((Cq pl C).map Vc)/\Sub L d) (λZ hZ=>?_) ?_;have hSe:=I.e;refine Ac (A0 (j:=2) rfl)<|Ac (Bo S.es) λu h8=>?_;have h1t:l≠u:=by rintro rfl;rw[O]at h8;cases h8
 refine cmapf S.es _ (λe=>decide (e<pl)) Bh (λh=>∃o,h=[o,oE pl]) ⟨none,rfl⟩ Ab (seven<|by omega) (λ_=>Bo S.es) ?_ ?_;rintro k e τ' acc W W2 hk ⟨o,rfl⟩ w1 w2;exact dif (λc=>w1 (aW<|by omega) _ ⟨_,rfl⟩) (λc=>w2 (aQ<|by omega) _ ⟨_,rfl⟩);have G:Al (Al r u<|.lst []) u (.lst<|(S.es.filter λe=>decide (e<pl)).map Bh) l=oG ((Cq pl C).map Vc):=by rw[Ae h1t,Ae h1t];exact O
 have f2:Al (Al r u<|.lst []) u (.lst<|(S.es.filter λe=>decide (e<pl)).map Bh) u=oG ((S.es.filter λe=>decide (e<pl)).map Bh):=Ab;have X:Sub L (Al (Al r u<|.lst []) u<|.lst<|(S.es.filter λe=>decide (e<pl)).map Bh):=λb m hb=>by
  have h1:=S1 b m hb;have B:b≠u:=by rintro rfl;rw[h1]at h8;cases h8
  rw[Ae B,Ae B];exact h1
 generalize Al (Al r u<|.lst []) u (.lst<|(S.es.filter λe=>decide (e<pl)).map Bh)=z at G f2 X;refine Ac (A0 (j:=2) rfl)<|Ac (Bo S.es) λJ di=>?_;have zb:l≠J:=by rintro rfl;rw[G]at di;cases di
 have h21:u≠J:=by rintro rfl;rw[f2]at di;cases di
 refine cmap S.es _ (λe=>Bh<|pl+e) (λh=>∃o,h=[o,oE pl]) ⟨none,rfl⟩ Ab (seven<|by omega) (λ_=>Bo S.es) ?_ ?_;rintro k e τ' acc W hk ⟨o,rfl⟩ hW;exact hW _ ⟨_,rfl⟩;have e3:Al (Al z J<|.lst []) J (.lst<|S.es.map λe=>Bh<|pl+e) l=oG ((Cq pl C).map Vc):=by rw[Ae zb,Ae zb];exact G
 have f3:Al (Al z J<|.lst []) J (.lst<|S.es.map λe=>Bh<|pl+e) u=oG ((S.es.filter λe=>decide (e<pl)).map Bh):=by rw[Ae h21,Ae h21];exact f2
 have lq:=bU (λe=>decide (e<pl)) S.es;refine Ac f3 (Ac Ab ⟨seven<|by rw[B_,B_];omega,λp3 ni=>hZ _ _ ⟨p3,rfl,?_,?_,λb m hb=>?_⟩⟩);rw[Ab,Fx,N_,aD];rfl;rw[Ae<|by rintro rfl;rw[e3]at ni;cases ni];exact e3;have h1:=X b m hb;have B:b≠J:=by rintro rfl;rw[h1]at di;cases di
 have h2:Al (Al z J<|.lst []) J (.lst<|S.es.map λe=>Bh<|pl+e) b=some m:=by rw[Ae B,Ae B];exact h1
 rw[Ae<|by rintro rfl;rw[h2]at ni;cases ni];exact h2;rintro h z ⟨pe,rfl,G,f2,X⟩;have my:=E1 pl C;refine Ac (A0 (j:=0) rfl) (Ac (Ao f2)<|Ac (J2<|Cq pl C) ⟨EN (k:=false) (by omega) λb hb=>by rw[EM hb];rfl,λes p hnd ix hp=>?_⟩);have hpe:pe≠p:=by rintro rfl;rw[G]at hp;cases hp
 refine Ac (Ao Ab)<|Ac (Cc _)<|Ac (Ao<|by rw[Ae hpe];exact G)<|Ac (D9 _) ⟨_,Sub.refl,q es _ hnd ix<|EO X hp⟩
def Sj(m n:Nat):Builtin.bitOr (m:Int) (n:Int)=((m |||n:Nat):Int):=by
 have b:∀k:Nat,Builtin.bitNot (k:Int)=-(k:Int)-1:=λ_=>rfl;unfold Builtin.bitOr;rw[b,b];unfold Builtin.bitAnd;rw[aQ<|by omega,aQ<|by omega];show Builtin.bitNot (Builtin.bitNot (((Builtin.bitNot<|-(m:Int)-1).toNat ||| (Builtin.bitNot<|-(n:Int)-1).toNat:Nat):Int))=_;have a:∀k:Nat,(Builtin.bitNot<|-(k:Int)-1).toNat=k:=λk=>by show(-(-(k:Int)-1)-1).toNat=k;omega
 rw[a,a];show -(-((m |||n:Nat):Int)-1)-1=_;omega
def Zq(m n:Nat):Builtin.bitAnd (m:Int) (n:Int)=((m &&& n:Nat):Int):=by
 unfold Builtin.bitAnd;rw[aW<|dY _,aW<|dY _]
 rfl
def bts:oA Nat->Nat:=List.foldl (λb k=>b ||| 2^k) 0
abbrev nAb:oA Str:=["stands","bits","stand"]
def EQ:FnScope nAb ["stands"] (Ah XN):=Bt<|by decide +kernel
def LF:ASp:=λb a R=>∃(x:AV) (ts:oA Nat),b=[x]/\items a x=some (ts.map Bh)/\(∀t∈ts,t<60)/\R (.D<|.int (bts ts:Nat)) a
def RT{n:Nat}(F:Fun K "as_bits" "as_bits" XN f fd):FnOk P w K mg base Dx (n+1) f fd ["stands"] (E8 K 1 LF):=by
 refine F.vok EQ λo A d s H E l=>⟨_,(Af (Ap (i:=1) EQ.nd rfl oH Ai)<|Af (B3 aF rfl (Bd<|vv 0) (Ak (i:=2) EQ.nd rfl oH)<|Aj<|Ap (i:=1) EQ.nd rfl oH<|A6 GG (vv 1)<|A6 PM Ai<|vv 2)<|Aj<|A8<|vv 1),?_⟩
 rintro m g R _ ⟨x,ts,rfl,hx,j,q⟩;refine QS<|Ax (λc a=>∃b,c=[some x,oE (bts ts:Nat),b]/\g=a) (λZ h=>?_) ?_;refine Ac hx ?_;refine Cp (λi c a=>∃b,c=[some x,oE (bts (ts.take i):Nat),b]/\g=a) ⟨none,rfl,rfl⟩ (by rintro _ _ _ ⟨_,_,e⟩;subst e;exact hx) ?_ ?_;rintro i y c _ p hy ⟨b,rfl,rfl⟩ hZ2;rw[L_]at hy;obtain⟨t,h1,rfl⟩:=G_.mp hy;have k:=j t<|W_ h1;refine⟨⟨dY _,by omega,by decide⟩,hZ2 _ _ ⟨some<|Bh t,?_,rfl⟩⟩;have e:Builtin.bitOr (bts (ts.take i):Nat) (1*2^(t:Int).toNat)=((bts (ts.take<|i+1):Nat):Int):=by rw[Int.one_mul,cP,show((2:Int)^t)=((2^t:Nat):Int) by rw[Int.natCast_pow];rfl,Sj,aO,h1];unfold bts;rw[List.foldl_append];rfl
 rw[<- e];rfl;rintro c _ ⟨b,rfl,rfl⟩;rw[B_,aK];exact h _ _ ⟨_,rfl,rfl⟩;rintro c _ ⟨b,rfl,rfl⟩;exact⟨_,Sub.refl,q⟩
def Mj(k:Nat):Ej 0 k=(List.range k).map Bh:=by
 refine gM λj=>?_;rcases cU j k with h|h;have h1:j<(Ej 0 k).length:=by rw[Bq];exact h
 rw[J_ h1,Gz _ _ _<|J_ h1,L_,List.getElem?_range h];show some _=some (Bh j);unfold Bh;rw[Int.zero_add];rw[dS<|by rw[Bq];exact h,dS<|by rw[B_,bR];exact h]
def Bz(n:Nat):oA Nat:=(List.range 5).filter λk=>n.testBit k
abbrev ZE:oA Str:=["bits"]
def YK:FnScope ZE ["bits"] (Ah UA):=Bt<|by decide +kernel
def RU:(["stand","bits"]:oA Str).Nodup:=by decide +kernel
def LG:ASp:=λc b R=>∃(n:Nat),c=[.D<|.int n]/\n<32/\∀ a,Sub b a->R (.D<|Bc<|Bz n) a
def RV{n:Nat}(F:Fun K "as_stands" "as_stands" UA f fd) (r:mg "tuple" = none) (t:mg "range" = none):FnOk P w K mg base Dx (n+1) f fd ["bits"] (E8 K 1 LG):=by
 refine F.vok YK λC A d s H E m=>⟨_,(Aj<|A8<|Bu Dm rfl r bS<|Aa (Bm (N':=["stand","bits"]) (mp:=[none,some 0]) rfl (Cd rfl t<|Aa (KC PyProof.Rows.slot_int_bit_length PyProof.Rows.type_int_bit_length KB<|vv 0) Ad) (λ_ _ _ _=>(Ak (i:=0) RU rfl oH oI)) (λ_ _ _ _=>(Dr<|Bg (Hm m) (A6 Yh (A6 PN (vv 1)<|vv 0) Ai) Ai<|nomark _)) (λ_ _ _ _=>(vv 0))<|Av (N:=ZE) (pn:=(Ah UA).names)<|by decide +kernel) Ad),?_⟩;rintro y B R _ ⟨n,rfl,l,q⟩;have hb:∀n:Fin 32,Builtin.Int.intBits ((n.val:Nat):Int)<=5/\(List.range<|Builtin.Int.intBits ((n.val:Nat):Int)).filter (λk=>n.val.testBit k)=Bz n.val:=by decide +kernel
 obtain⟨a,g⟩:=hb ⟨n,l⟩;have a:Builtin.Int.intBits (n:Int)<=5:=a;have g:(List.range<|Builtin.Int.intBits (n:Int)).filter (λk=>n.testBit k)=Bz n:=g;refine⟨trivial,by omega,by omega,λG b=>?_⟩;rw[cP,Mj];refine cmapf (List.range<|Builtin.Int.intBits (n:Int)) Bh (λk=>n.testBit k) Bh (λu=>∃o,u=[o,oE n]) ⟨none,rfl⟩ Ab (seven<|by rw[bR];omega) (λ_=>trivial) ?_ ?_;rintro i k v p W z hk ⟨o,rfl⟩ w1 w2;have e:Builtin.bitAnd ((n:Int) / 2^(k:Int).toNat) 1=((n / 2^k%2:Nat):Int):=by rw[cP,show((n:Int) / 2^k)=((n / 2^k:Nat):Int) by rw[Int.natCast_ediv,Int.natCast_pow];rfl,show(1:Int)=((1:Nat):Int) from rfl,Zq,Nat.and_one_is_mod]
 have x:n.testBit k=decide (n / 2^k%2=1):=Nat.testBit_eq_decide_div_mod_eq;have j:PyData.eqv (.int<|Builtin.bitAnd ((n:Int) / 2^(k:Int).toNat) 1) (.int 1)=n.testBit k:=by rw[e,Rn,x];exact jB.mpr ⟨λh=>by omega,λh=>by omega⟩
 exact⟨dY _,Bw _,Bw _,br (λc=>w1 (j.symm.trans c) _ ⟨_,rfl⟩) λc=>w2 (j.symm.trans c) _ ⟨_,rfl⟩⟩
 rw[g];refine Ac (Ao Ab)<|Ac (D9 _) ⟨_,Sub.refl,q _<|(Sub.refl.new b).new b⟩
def LH{n:Nat}(h:n<=300000):n<sizeLine:=fI h<|by decide
abbrev Pr:=Nat×Nat
def F6(p:Pr):lE:=.tuple [.int (p.1:Nat),.int (p.2:Nat)]
def A4(p:Pr):AV:=.D<|F6 p
def ewe(p o:Pr):Pr:=(max p.1 o.1,p.2 |||o.2)
def Os(p:Pr):oA Key×AV:=([.inl (p.1:Nat),.inl (p.2:Nat)],.D<|.bool true)
def adz(a:oA Pr)(z:Pr):oA Pr:=if z∈a then a else a++[z]
def LI{p q:Pr}(h:(Os p).1=(Os q).1):p=q:=by obtain⟨a,b⟩:=p;obtain⟨c,d⟩:=q;have h:([.inl ((a:Nat):Int),.inl ((b:Nat):Int)]:oA Key)=[.inl ((c:Nat):Int),.inl ((d:Nat):Int)]:=h;injection h with h1 h2;injection h2 with h2 _;have h1:=fS<|iC h1;have h2:=fS<|iC h2;rw[h1,h2]
def LJ(b:oA Pr)(z:Pr):Ek (b.map Os) (Os z).1 (.D<|.bool true)=(adz b z).map Os:=by
 unfold Ek adz;by_cases h:z∈b;rw[T_<|bP.mpr ⟨Os z,D_.mpr ⟨z,h,rfl⟩,aW rfl⟩,T_ h,aD];refine fD λp _=>?_;show(if(Os p).1=(Os z).1 then((Os p).1,AV.D<|.bool true) else Os p)=Os p;split<;>rfl;rw[M_,M_ h,N_]
 rfl
 intro a;obtain⟨c,h1,h2⟩:=bP.mp a;obtain⟨p,hp,rfl⟩:=D_.mp h1;rw[<- LI (aG h2)]at h;exact h hp
def ER{a:oA Pr}{z y:Pr}:y∈adz a z↔y∈a\/y=z:=by unfold adz;split;rename_i h;exact⟨.inl,λc=>c.elim id λe=>by rw[e];exact h⟩;rw[Q_,H_]
def LK{c:oA Pr}{z:Pr}(h:c.Nodup):(adz c z).Nodup:=by unfold adz;split;exact h;rename_i d;exact aX.mpr ⟨h,cB.mpr ⟨by simp,a_⟩,λa ha b hb e=>d<|by rw[H_.mp hb]at e;rw[<- e];exact ha⟩
def ES(a:oA Pr)(z:Pr):(adz a z).length<=a.length+1:=by unfold adz;split;exact eJ _;rw[P_];exact F_ _
def Ot{a b:lE}{i j:Nat}{τ:ASt}{c:M}{R:ASt->M->Prop}(h:R ((τ.set i<|oF a).set j<|oF b) c):Fe (D3 i) (Fe (D3 j) Nc) (List.map AV.D [a,b]) τ c R:=h
def Cf{c b:M}{x:AV}{g:oA AV}(h:items c x=some g)(S:Sub c b):items b x=some g:=by
 cases x with
 |R a=>
  have h:(match c a with|some (.lst i)=>some i|_=>none)=some g:=h;cases e:c a with
  |none=>rw[e]at h;cases h
  |some m=>
   rw[e]at h;cases m with
   |lst i=>cases h;exact Ao (S a _ e)
   |_=>cases h
 |D d=>cases d<;>exact h
 |_=>exact h
abbrev nEe:oA Str:=["pairs","others","found","cost","bits","other_cost","other_bits"]
def Vd:FnScope nEe qI (Ah XV):=Bt<|by decide +kernel
def RW:ASp:=λc b R=>∃(x y:AV) (P O:oA Pr),c=[x,y]/\items b x=some (P.map A4)/\items b y=some (O.map A4)/\P.length*O.length<=200000/\∀(a:oA Pr) (l:lF) μ',(∀z,z∈a↔∃p∈P,∃o∈O,z=ewe p o)->a.Nodup->a.length<=P.length*O.length->b l=none->μ' l=oG (a.map A4)->Sub b μ'->R (.R l) μ'
def RX{n:Nat}(F:Fun K "each_with_each" "each_with_each" XV f fd) (du:mg "max" = none) (X:mg "list" = none):FnOk P w K mg base Dx (n+1) f fd qI (E8 K 2 RW):=by
 refine F.vok Vd λaq A M s H E hr=>⟨_,(Af (Ap (i:=2) Vd.nd rfl oH Ew)<|Af (B3 aF rfl (Bd<|vv 0) (D4 (n:=2) rfl<|Au (Ak (i:=3) Vd.nd rfl oH)<|Au (Ak (i:=4) Vd.nd rfl oH) B8)<|Aj<|B3 aF rfl (Bd<|vv 1) (D4 (n:=2) rfl<|Au (Ak (i:=5) Vd.nd rfl oH)<|Au (Ak (i:=6) Vd.nd rfl oH) B8)<|Aj<|Da (B0 hr) (vv 2) (Bn<|Aa (Az (Ww rfl) rfl du PyProof.Rows.boot_max<|Aa (vv 3)<|Aa (vv 5) Ad)<|Aa (A6 GG (vv 4)<|vv 6) Ad) Fk)<|Aj<|A8<|Bu (DW rfl) rfl X PyProof.Rows.boot_list<|Aa (vv 2) Ad),?_⟩
 rintro xs t R _ ⟨x,y,P,O,rfl,hx,hy,hn,q⟩;intro d B;have Y:Sub t (Al t d<|.dt []):=Sub.refl.new B;refine Ax (λr k=>∃G I c g,∃a:oA Pr,r=[some x,some y,oD d,G,I,c,g]/\(∀z,z∈a↔∃p∈P,∃o∈O,z=ewe p o)/\a.Nodup/\a.length<=P.length*O.length/\k=Al t d (.dt<|a.map Os)) (λZ W=>?_) ?_;refine Ac (Cf hx Y) ?_;refine Cp (λi r k=>∃G I c g,∃a:oA Pr,r=[some x,some y,oD d,G,I,c,g]/\(∀z,z∈a↔∃p∈P.take i,∃o∈O,z=ewe p o)/\a.Nodup/\a.length<=i*O.length/\k=Al t d (.dt<|a.map Os)) ⟨none,none,none,none,[],rfl,by simp,a_,aJ _,rfl⟩ (by rintro _ _ _ ⟨_,_,_,_,_,_,_,_,_,e⟩;subst e;exact Cf hx<|Sub.refl.new B) ?_ ?_;rintro i v r _ Z2 hv ⟨G,I,c,g,a,rfl,C,hnd,J,rfl⟩ hZ2;rw[L_]at hv;obtain⟨p,hp,rfl⟩:=G_.mp hv;have hi:=(E_.mp hp).1;have be:P.take (i+1)=P.take i++[p]:=by rw[aO,hp];rfl
 refine⟨rfl,Ot ?_⟩;dsimp only[List.set];refine Ac (Cf hy<|Sub.refl.new B) ?_;have x8:(i+1)*O.length<=P.length*O.length:=Nat.mul_le_mul_right _ hi;have hsm:(i+1)*O.length=i*O.length+O.length:=Nat.succ_mul _ _;refine Cp (λj r k=>∃c g,∃b:oA Pr,r=[some x,some y,oD d,oE (p.1:Nat),oE (p.2:Nat),c,g]/\(∀z,z∈b↔z∈a\/∃o∈O.take j,z=ewe p o)/\b.Nodup/\b.length<=i*O.length+j/\k=Al t d (.dt<|b.map Os)) ⟨c,g,a,rfl,by simp,hnd,J,rfl⟩ (by rintro _ _ _ ⟨_,_,_,_,_,_,_,e⟩;subst e;exact Cf hy<|Sub.refl.new B) ?_ ?_;rintro j u r _ Z3 hu ⟨c,g,b,rfl,L,m,U,rfl⟩ bu;rw[L_]at hu;obtain⟨o,T,rfl⟩:=G_.mp hu;have hj:=(E_.mp T).1;have N:O.take (j+1)=O.take j++[o]:=by rw[aO,T];rfl
 refine⟨rfl,Ot ?_⟩;dsimp only[List.set];have ec:(if((o.1:Nat):Int)>((p.1:Nat):Int) then((o.1:Nat):Int) else((p.1:Nat):Int))=(((ewe p o).1:Nat):Int):=by show _=((max p.1 o.1:Nat):Int);split<;>omega
 have eb:Builtin.bitOr ((p.2:Nat):Int) ((o.2:Nat):Int)=(((ewe p o).2:Nat):Int):=Sj _ _;have ep:dput (.dt<|b.map Os) (.tuple [.int<|if((o.1:Nat):Int)>((p.1:Nat):Int) then((o.1:Nat):Int) else((p.1:Nat):Int),.int<|Builtin.bitOr ((p.2:Nat):Int) ((o.2:Nat):Int)]) (.D<|.bool true)=some (.dt<|(adz b<|ewe p o).map Os):=by rw[ec,eb,<- LJ];rfl
 refine Ac Ab (Ac ep ⟨LH<|show(b.map Os).length<=300000 by rw[B_];omega,bu _ _ ⟨_,_,adz b<|ewe p o,rfl,λz=>?_,LK m,?_,?_⟩⟩);rw[ER,L,N];constructor;rintro((h|⟨S,h1,h2⟩)|h);exact .inl h;exact .inr ⟨S,aE _ h1,h2⟩;exact .inr ⟨o,by simp,h⟩;rintro(h|⟨S,h1,h2⟩);exact .inl<|.inl h;rcases Q_.mp h1 with h1|h1;exact .inl<|.inr ⟨S,h1,h2⟩;rw[H_.mp h1]at h2;exact .inr h2;have:=ES b<|ewe p o;omega;rw[Bl];rintro r _ ⟨c,g,b,rfl,L,m,U,rfl⟩;rw[B_]at L U;rw[aK]at L;refine hZ2 _ _ ⟨_,_,_,_,b,rfl,λz=>?_,m,by omega,rfl⟩;rw[L,C,be];constructor;rintro(⟨Q,h1,h2⟩|h);exact⟨Q,aE _ h1,h2⟩;exact⟨p,by simp,h⟩;rintro⟨Q,h1,h2⟩;rcases Q_.mp h1 with h1|h1;exact .inl ⟨Q,h1,h2⟩;rw[H_.mp h1]at h2;exact .inr h2;rintro r _ ⟨G,I,c,g,a,rfl,C,hnd,J,rfl⟩;rw[B_]at C J;rw[aK]at C;exact W _ _ ⟨_,_,_,_,a,rfl,C,hnd,J,rfl⟩;rintro r _ ⟨G,I,c,g,a,rfl,C,hnd,J,rfl⟩;refine Ac Ab λl V=>⟨_,Sub.refl,q a l _ C hnd J ((Sub.refl.new B:Sub t _).none V) ?_<|(Sub.refl.new B:Sub t _).new<|(Sub.refl.new B:Sub t _).none V⟩;rw[Ab,aD];rfl
def Ou(P:oA Pr):dats (P.map A4)=some (P.map F6):=by rw[show P.map A4=(P.map F6).map .D by rw[aD];rfl];exact Cc _
def Sk(p q:Pr):cmpb (F6 p) (F6 q)=true:=by show cmpbs [.int _,.int _] [.int _,.int _]=true;simp only[cmpbs];split;split<;>simp only[cmpb];simp only[cmpb]
def Ov(p:Pr):B9 (F6 p):=⟨rfl,by show PyData.depth (.tuple [.int _,.int _])<=64;simp[PyData.depth,PyData.depthAll]⟩
theorem Sl:∀P:oA Pr,PyData.canLayAll0 (P.map F6)=true/\PyData.depthAll (P.map F6)<=64
 |[]=>⟨rfl,by simp[PyData.depthAll]⟩
 |p::P=>by obtain⟨a,b⟩:=Sl P;obtain⟨c,d⟩:=Ov p;refine⟨?_,?_⟩;simp only[List.map_cons,PyData.canLayAll0,c,a,Bool.and_self];simp only[List.map_cons,PyData.depthAll];omega
def Zr{P:oA Pr}(h:P.length<=5000):SortOkP (P.map F6):=by obtain⟨a,b⟩:=Sl P;refine⟨by rw[B_];omega,a,b,λd c=>?_,λd c e he=>?_⟩;obtain⟨p,_,rfl⟩:=D_.mp c;exact⟨_,_,rfl⟩;obtain⟨p,_,rfl⟩:=D_.mp c;obtain⟨q,_,rfl⟩:=D_.mp he;exact Sk p q
def Zs{es:oA lE}{P:oA Pr}(h:es.Perm<|P.map F6):∃a:oA Pr,es=a.map F6/\a.Perm P:=by obtain⟨a,e,hp⟩:=Db h P rfl;exact⟨a,e,hp⟩
def Wn(z y:Pr):Prop:=∀t,z.2.testBit t=true->y.2.testBit t=true
def Mk{z y:Pr}:z.2 &&& y.2=z.2↔Wn z y:=by
 constructor;intro h t a;have:=bO (λn=>n.testBit t) h;simp only[Nat.testBit_and,a,Bool.true_and]at this;exact this
 ·intro h;refine Nat.eq_of_testBit_eq λt=>?_;rw[Nat.testBit_and];cases e:z.2.testBit t with
  |true=>rw[h t e];rfl
  |false=>rfl
def Wn.refl(z:Pr):Wn z z:=λ_ h=>h
def Wn.trans{a b c:Pr}(h:Wn a b)(k:Wn b c):Wn a c:=λt d=>k t<|h t d
def Ea{a c:M}{p:lF}{o:MO}(S:Sub a c)(h:a p=none):Sub a (Al c p o):=λb m hb=>by rw[Ae<|by rintro rfl;rw[h]at hb;cases hb];exact S b m hb
abbrev nHw:oA Str:=["lows","bits","low"]
def RY:FnScope nHw qA (Ah XO):=Bt<|by decide +kernel
def LL:ASp:=λe d R=>∃(a:lF) (c:oA Nat) (b:Nat),e=[.R a,.D<|.int (b:Nat)]/\d a=oG (c.map Bh)/\R (.D<|.bool<|c.any λl=>decide (l &&& b=l)) d
def RZ{n:Nat}(F:Fun K "has_within" "has_within" XO f fd):FnOk P w K mg base Dx (n+1) f fd qA (E8 K 2 LL):=by
 refine F.vok RY λy A j s H E t=>⟨_,(Af (B3 aF rfl (Bd<|vv 0) (Ak (i:=2) RY.nd rfl oH)<|Aj<|Dq (Bg (Hm t) (A6 Yh (vv 2)<|vv 1) (vv 2)<|nomark _) (Aj<|A8 Fk) B4)<|Aj<|A8 Fk),?_⟩
 rintro u p R _ ⟨a,k,b,rfl,ha,q⟩;refine Ax (λh d=>p=d/\(k.any λl=>decide (l &&& b=l))=false) (λZ r=>?_) ?_;refine Ac (Ao ha) ?_;refine Cp (λi h d=>∃o,h=[oD a,oE (b:Nat),o]/\p=d/\((k.take i).any λl=>decide (l &&& b=l))=false) ⟨none,rfl,rfl,rfl⟩ (by rintro _ _ _ ⟨_,_,e,_⟩;rw[<- e];exact Ao ha) ?_ ?_;rintro i v h _ x hv ⟨o,rfl,rfl,g⟩ hZ2;rw[L_]at hv;obtain⟨l,m,rfl⟩:=G_.mp hv;have hb:Builtin.bitAnd ((l:Nat):Int) ((b:Nat):Int)=((l &&& b:Nat):Int):=rfl;refine ieq (λc=>⟨_,Sub.refl,?_⟩) λc=>hZ2 _ _ ⟨_,rfl,rfl,?_⟩;rw[bP.mpr ⟨l,W_ m,aW<|fS c⟩]at q;exact q;rw[Zc m,g,kK];exact aQ λe=>c<|bO Int.ofNat e;rintro h _ ⟨o,rfl,rfl,g⟩;rw[B_,aK]at g;exact r _ _ ⟨rfl,g⟩;rintro h _ ⟨rfl,g⟩;rw[g]at q;exact⟨_,Sub.refl,q⟩
abbrev nLa:oA Str:=["pairs","kept","lows","cost","bits"]
def Zt:FnScope nLa oK (Ah XQ):=Bt<|by decide +kernel
structure CvA(P zs:oA Pr):Prop where
 m:∀z∈zs,z∈P
 c:∀y∈P,∃z∈zs,Wn z y
 u:(zs.map (·.2)).Nodup
def Qx{a:oA Pr}(h:(a.map (·.2)).Nodup)(hb:∀z∈a,z.2<32):a.length<=32:=by
 have:=Eg (ys:=List.range 32) h λb c=>by obtain⟨z,hz,rfl⟩:=D_.mp c;exact bC.mpr<|hb z hz
 rwa[B_,bR]at this
def LM:ASp:=λd b R=>∃(a:lF) (P:oA Pr),d=[.R a]/\b a=oG (P.map A4)/\P.length<=5000/\(∀p∈P,p.2<32)/\∀(c:oA Pr) (l:lF) μ',CvA P c->b l=none->μ' l=oG (c.map A4)->Sub b μ'->R (.R l) μ'
def SA{n:Nat}(F:Fun K "least_alone" "least_alone" XQ f fd) (vy:VCal P w K mg base n "has_within" qA LL) (ap:mg "sorted" = none):FnOk P w K mg base Dx (n+1) f fd oK (E8 K 1 LM):=by
 refine F.vok Zt λaq A outer s H E hr=>⟨_,(Af (Ap (i:=1) Zt.nd rfl oH<|B2 Ad)<|Af (Ap (i:=2) Zt.nd rfl oH<|B2 Ad)<|Af (B3 aF rfl (Bd<|Az (Hy hr) rfl ap gX<|Aa (vv 0) Ad) (D4 (n:=2) rfl<|Au (Ak (i:=3) Zt.nd rfl oH)<|Au (Ak (i:=4) Zt.nd rfl oH) B8)<|Aj<|Dq (Wr<|Lu<|Am vy hr rfl<|Aa (vv 2)<|Aa (vv 4) Ad) (Af (B5<|Ee bY bZ C9 (vv 1)<|Aa (Bn<|Aa (vv 3)<|Aa (vv 4) Ad) Ad)<|Aj<|B5<|Ee bY bZ C9 (vv 2)<|Aa (vv 4) Ad) B4)<|Aj<|A8<|vv 1),?_⟩
 rintro xs o R _ ⟨a,P,rfl,ha,hP,hb,q⟩;intro g O k r;have T:Sub o (Al (Al o g<|.lst []) k<|.lst []):=(Sub.refl.new O).new<|(Sub.refl.new O:Sub o _).none r;have bx:g≠k:=by rintro rfl;rw[Ab]at r;cases r
 have l0:o k=none:=(Sub.refl.new O:Sub o<|Al o g<|.lst []).none r;have ek:Al (Al o g<|.lst []) k (.lst []) g=oG []:=by rw[Ae bx,Ab]
 have Y:Al (Al o g<|.lst []) k (.lst []) k=oG []:=Ab;generalize Al (Al o g<|.lst []) k (.lst [])=μ1 at T ek Y;refine Ax (λG j=>∃B x,∃d:oA Pr,G=[oD a,oD g,oD k,B,x]/\j g=oG (d.map A4)/\CvA P d/\Sub o j) (λZ hZ=>?_) ?_
 ·refine Ac (T _ _ ha)<|Ac (Ou P) ⟨Zr hP,λes p hp M=>?_⟩;obtain⟨Q,rfl,hQ⟩:=Zs hp;have pq:g≠p:=by rintro rfl;rw[ek]at M;cases M
  have I:k≠p:=by rintro rfl;rw[Y]at M;cases M
  have J:Al μ1 p (.lst<|(Q.map F6).map .D) p=oG (Q.map A4):=by rw[Ab,aD];rfl
  have k2:Al μ1 p (.lst<|(Q.map F6).map .D) g=oG []:=by rw[Ae pq];exact ek
  have l2:Al μ1 p (.lst<|(Q.map F6).map .D) k=oG []:=by rw[Ae I];exact Y
  have V:Sub o (Al μ1 p<|.lst<|(Q.map F6).map .D):=T.new<|T.none M;generalize Al μ1 p (.lst<|(Q.map F6).map .D)=S at J k2 l2 V;refine Ac (Ao J) ?_;refine Cp (λi G j=>∃B x,∃d:oA Pr,G=[oD a,oD g,oD k,B,x]/\j g=oG (d.map A4)/\j k=oG ((d.map (·.2)).map Bh)/\j p=oG (Q.map A4)/\d.length<=i/\CvA (Q.take i) d/\Sub o j) ⟨none,none,[],rfl,k2,l2,J,F_ _,⟨(λ_ h=>nomatch h),(λ_ h=>nomatch h),a_⟩,V⟩ (by rintro _ _ _ ⟨_,_,_,_,_,_,e,_⟩;exact Ao e) ?_ ?_
  ·rintro i v G L Z2 hv ⟨B,x,d,rfl,N,U,e3,kc,C,W⟩ hZ2;rw[L_]at hv;obtain⟨y,hy,rfl⟩:=G_.mp hv;have hi:=(E_.mp hy).1;have hQl:Q.length=P.length:=hQ.length_eq;have X:Q.take (i+1)=Q.take i++[y]:=by rw[aO,hy];rfl
   refine⟨rfl,Ot ⟨k,d.map (·.2),y.2,rfl,U,?_⟩⟩;cases hh:(d.map (·.2)).any λl=>decide (l &&& y.2=l) with
   |true=>refine O8 rfl<|hZ2 _ _ ⟨_,_,d,rfl,N,U,e3,bB kc,⟨λz hz=>?_,λu hu=>?_,C.u⟩,W⟩;rw[X];exact aE _<|C.m z hz;rw[X]at hu;rcases Q_.mp hu with hu|hu;exact C.c u hu;rw[H_.mp hu];obtain⟨b,ga,e⟩:=bP.mp hh;obtain⟨z,hz,rfl⟩:=D_.mp ga;exact⟨z,hz,Mk.mp<|aG e⟩
   |false=>
    have bp:∀z∈d,¬Wn z y:=λz hz hw=>by have:=List.any_eq_false.mp hh z.2<|D_.mpr ⟨z,hz,rfl⟩;exact this<|aW<|Mk.mpr hw
    refine Pl rfl (Ck ⟨Ac N trivial,Ac N ⟨LH<|by rw[B_];omega,?_⟩⟩);have l4:Al L g (.lst<|d.map A4++[A4 y]) k=oG ((d.map (·.2)).map Bh):=by rw[Ae bx.symm];exact U
    refine⟨Ac l4 trivial,Ac l4 ⟨LH<|by rw[B_,B_];omega,hZ2 _ _ ⟨_,_,d++[y],rfl,by rw[Ae bx,Ab,N_];rfl,by rw[Ab,N_,N_];rfl,by rw[Ae I.symm,Ae pq.symm];exact e3,by rw[P_];exact gS kc,⟨λz hz=>?_,λu hu=>?_,?_⟩,Ea (Ea W O) l0⟩⟩⟩;rw[X];rcases Q_.mp hz with hz|hz;exact aE _<|C.m z hz;exact aT _ hz;rw[X]at hu;rcases Q_.mp hu with hu|hu;obtain⟨z,hz,h⟩:=C.c u hu;exact⟨z,aE _ hz,h⟩;rw[H_.mp hu];exact⟨y,by simp,Wn.refl y⟩;rw[N_,aX];refine⟨C.u,by simp,λb ga c hc e=>?_⟩;obtain⟨z,hz,rfl⟩:=D_.mp ga;have hc:c=y.2:=by simpa using hc
    exact bp z hz λt ht=>by rw[<- hc,<- e];exact ht
  rintro G L ⟨B,x,d,rfl,N,U,e3,kc,C,W⟩;rw[B_,aK]at C;exact hZ _ _ ⟨_,_,d,rfl,N,⟨λz hz=>hQ.mem_iff.mp<|C.m z hz,λy hy=>C.c y<|hQ.mem_iff.mpr hy,C.u⟩,W⟩
 rintro G S ⟨B,x,d,rfl,J,C,V⟩;exact⟨_,Sub.refl,q d g S C O J V⟩
abbrev nTh:oA Str:=oP
def YL:FnScope nTh oP (Ah XS):=Bt<|by decide +kernel
def ET:ASp:=λd b R=>∃(a:lF) (P:oA Pr),d=[.R a,.D<|.bool true]/\b a=oG (P.map A4)/\P.length<=5000/\(∀p∈P,p.2<32)/\∀(c:oA Pr) (l:lF) μ',CvA P c->b l=none->μ' l=oG (c.map A4)->Sub b μ'->R (.R l) μ'
def SB{n:Nat}(F:Fun K "thinned" "thinned" XS f fd) (i:VCal P w K mg base n "least_alone" oK LM) (o:mg "sorted" = none) (k:mg "set" = none):FnOk P w K mg base Dx (n+1) f fd oP (E8 K 2 ET):=by refine F.vok YL λr A b s H E d=>⟨_,(Aj<|A8<|M8 (Lu<|vv 1) (Am i d rfl<|Aa (vv 0) Ad) GM),?_⟩;rintro m p R _ ⟨a,P,rfl,ha,j,hb,q⟩;exact Pl rfl ⟨a,P,rfl,ha,j,hb,λg l c C h e S=>⟨_,Sub.refl,q g l c C h e S⟩⟩
def cho:oA (oA Pr)->oA Pr:=List.foldl (λF G=>F.flatMap λp=>G.map<|ewe p) [(0,0)]
structure GrAt(μ:M)(ps:oA lF)(Gs:oA<|oA Pr):Prop where
 l:ps.length=Gs.length
 a:∀(i:Nat) p G,ps[i]?=some p->Gs[i]?=some G->μ p=oG (G.map A4)
structure Cv(P zs:oA Pr):Prop where
 m:∀z∈zs,z∈P
 c:∀y∈P,∃z∈zs,Wn z y
 u:(zs.map (·.2)).Nodup
 b:∀z∈zs,z.2<32
def Cv.len{P a:oA Pr}(h:Cv P a):a.length<=32:=Qx h.u h.b
def Zu{p q r s:Pr}(h:Wn p q)(k:Wn r s):Wn (ewe p r) (ewe q s):=λt a=>by have a:(p.2 |||r.2).testBit t=true:=a;show(q.2 |||s.2).testBit t=true;rw[kD,e_]at a ⊢;exact a.imp (h t)<|k t
def Ow{Gs:oA<|oA Pr}{G:oA Pr}{z:Pr}:z∈cho (Gs++[G])↔∃y∈cho Gs,∃o∈G,z=ewe y o:=by unfold cho;rw[List.foldl_append,fA,List.foldl_nil,bT];constructor;rintro⟨y,h1,h2⟩;obtain⟨o,a,rfl⟩:=D_.mp h2;exact⟨y,h1,o,a,rfl⟩;rintro⟨y,h1,o,h2,rfl⟩;exact⟨y,h1,D_.mpr ⟨o,h2,rfl⟩⟩
abbrev nOe:oA Str:=qS
def EU:FnScope nOe oM (Ah XU):=Bt<|by decide +kernel
def LN:ASp:=λd a R=>∃(x:AV) (b:oA lF) (Gs:oA<|oA Pr),d=[x,.D<|.bool true]/\items a x=some (b.map .R)/\GrAt a b Gs/\(∀G∈Gs,G.length<=32/\∀p∈G,p.2<32)/\∀(c:oA Pr) (l:lF) μ',Cv (cho Gs) c->a l=none->μ' l=oG (c.map A4)->Sub a μ'->R (.R l) μ'
def SC{n:Nat}(F:Fun K "one_of_each" "one_of_each" XU f fd) (m4:VCal P w K mg base n "thinned" oP ET) (U:VCal P w K mg base n "each_with_each" qI RW):FnOk P w K mg base Dx (n+1) f fd oM (E8 K 2 LN):=by
 refine F.vok EU λaq A N s H E hr=>⟨_,(Af (Ap (i:=2) EU.nd rfl oH<|B2<|Aa (Bn<|Aa Ai<|Aa Ai Ad) Ad)<|Af (B3 aF rfl (Bd<|vv 0) (Ak (i:=3) EU.nd rfl oH)<|Aj<|Ap (i:=2) EU.nd rfl oH<|Am m4 hr rfl<|Aa (Am U hr rfl<|Aa (vv 2)<|Aa (vv 3) Ad)<|Aa (vv 1) Ad)<|Aj<|A8<|vv 2),?_⟩
 rintro xs g R _ ⟨x,ps,k,rfl,hx,hG,hb,q⟩;intro l0 fc;refine Ax (λt e=>∃l r,∃d:oA Pr,t=[some x,oF<|.bool true,oD l,r]/\Cv (cho k) d/\g l=none/\e l=oG (d.map A4)/\Sub g e) (λZ hZ=>?_) ?_;have S0:Sub g (Al g l0<|.lst [A4 (0,0)]):=Sub.refl.new fc;refine Ac (Cf hx S0) ?_;refine Cp (λi t e=>∃l r,∃d:oA Pr,t=[some x,oF<|.bool true,oD l,r]/\Cv (cho<|k.take i) d/\g l=none/\e l=oG (d.map A4)/\Sub g e) ⟨l0,none,[(0,0)],rfl,⟨λz hz=>hz,λy hy=>⟨y,hy,Wn.refl y⟩,by simp,λz hz=>by rw[H_.mp hz];decide⟩,fc,Ab,S0⟩ (by rintro _ _ _ ⟨_,_,_,_,_,_,_,S⟩;exact Cf hx S) ?_ ?_;rintro i v t h Z2 hv ⟨l,r,d,rfl,C,M,B,j⟩ hZ2;rw[L_]at hv;obtain⟨p,hp,rfl⟩:=G_.mp hv;have hi:i<k.length:=by rw[<- hG.l];exact(E_.mp hp).1
 have J:=J_ hi;generalize k[i]=G at J;have be:k.take (i+1)=k.take i++[G]:=by rw[aO,J];rfl
 have eg:=j _ _<|hG.a i p G hp J;obtain⟨Q,V⟩:=hb G<|W_ J;have x8:d.length*G.length<=32*32:=Nat.mul_le_mul C.len Q;refine⟨.R l,.R p,d,G,rfl,Ao B,Ao eg,by omega,λX l2 T O Y cw rq e2 S2=>?_⟩;have zm:∀z∈X,z.2<32:=λz hz=>by obtain⟨y,h1,o,h2,rfl⟩:=(O z).mp hz;exact Nat.or_lt_two_pow (n:=5) (C.b y h1)<|V o h2
 refine⟨l2,X,rfl,e2,by omega,zm,λus l3 μ3 L W e3 S3=>?_⟩;have I:Sub g T:=λb m hb=>S2 b m<|j b m hb;refine hZ2 _ _ ⟨l3,_,us,rfl,⟨λz hz=>?_,λy hy=>?_,L.u,λz hz=>zm z<|L.m z hz⟩,I.none W,e3,λb m hb=>S3 b m<|I b m hb⟩;obtain⟨y,h1,o,h2,rfl⟩:=(O z).mp<|L.m z hz;rw[be];exact Ow.mpr ⟨y,C.m y h1,o,h2,rfl⟩;rw[be]at hy;obtain⟨u,h1,o,h2,rfl⟩:=Ow.mp hy;obtain⟨y,h3,h4⟩:=C.c u h1;obtain⟨z,h5,h6⟩:=L.c (ewe y o)<|(O _).mpr ⟨y,h3,o,h2,rfl⟩;exact⟨z,h5,h6.trans<|Zu h4<|Wn.refl o⟩;rintro t h ⟨l,r,d,rfl,C,M,B,j⟩;rw[B_,hG.l,aK]at C;exact hZ _ _ ⟨l,_,d,rfl,C,M,B,j⟩;rintro t h ⟨l,r,d,rfl,C,M,B,j⟩;exact⟨_,Sub.refl,q d l h C M B j⟩
abbrev nOa:oA Str:=qS
def LP:FnScope nOa oM (Ah XT):=Bt<|by decide +kernel
def Ve{a:Type}{Gs:oA<|oA a}{i:Nat}{G:oA a}(h:Gs[i]?=some G):(Gs.take<|i+1).flatten=(Gs.take i).flatten++G:=by rw[aO,h,List.flatten_append];simp
theorem J3{a:Type}:∀{Gs:oA<|oA a},(∀G∈Gs,G.length<=32)->Gs.flatten.length<=32*Gs.length
 |[],_=>by simp
 |G::Gs,h=>by have h1:=h G aS;have h2:=J3 (Gs:=Gs) λb hG=>h b<|aH _ hG;rw[kJ,P_,aZ];omega
def SD:ASp:=λd a R=>∃(x:AV) (b:oA lF) (Gs:oA<|oA Pr),d=[x,.D<|.bool true]/\items a x=some (b.map .R)/\GrAt a b Gs/\Gs.length<=20/\(∀G∈Gs,G.length<=32/\∀p∈G,p.2<32)/\∀(c:oA Pr) (l:lF) μ',Cv Gs.flatten c->a l=none->μ' l=oG (c.map A4)->Sub a μ'->R (.R l) μ'
def SE{n:Nat}(F:Fun K "one_of_any" "one_of_any" XT f fd) (X:VCal P w K mg base n "thinned" oP ET):FnOk P w K mg base Dx (n+1) f fd oM (E8 K 2 SD):=by
 refine F.vok LP λaq A t s H E M=>⟨_,(Af (Ap (i:=2) LP.nd rfl oH<|B2 Ad)<|Af (B3 aF rfl (Bd<|vv 0) (Ak (i:=3) LP.nd rfl oH)<|Aj<|B5<|Ee eQ eT Fl (vv 2)<|Aa (vv 3) Ad)<|Aj<|A8<|Am X M rfl<|Aa (vv 2)<|Aa (vv 1) Ad),?_⟩
 rintro xs r R _ ⟨x,ps,Gs,rfl,hx,hG,V,hb,q⟩;intro j I;have J:∀z∈Gs.flatten,z.2<32:=λz hz=>by obtain⟨G,h1,h2⟩:=jC.mp hz;exact(hb G h1).2 z h2
 refine Ax (λh b=>∃g,h=[some x,oF<|.bool true,oD j,g]/\b j=oG (Gs.flatten.map A4)/\Sub r b) (λZ L=>?_) ?_;have B:Sub r (Al r j<|.lst []):=Sub.refl.new I;refine Ac (Cf hx B) ?_;refine Cp (λi h b=>∃g,h=[some x,oF<|.bool true,oD j,g]/\b j=oG ((Gs.take i).flatten.map A4)/\Sub r b) ⟨none,rfl,Ab,B⟩ (by rintro _ _ _ ⟨_,_,_,S⟩;exact Cf hx S) ?_ ?_;rintro i v h k Z2 hv ⟨g,rfl,e,d⟩ hZ2;rw[L_]at hv;obtain⟨p,hp,rfl⟩:=G_.mp hv;have hi:i<Gs.length:=by rw[<- hG.l];exact(E_.mp hp).1
 have o:=J_ hi;generalize Gs[i]=G at o;have T:=d _ _<|hG.a i p G hp o;have W:=(hb G<|W_ o).1;have lq:=J3 (Gs:=Gs.take i) λG' U=>(hb G'<|eV U).1;have Q:(Gs.take i).length<=20:=by rw[bI];omega
 refine⟨Ac e trivial,Ac e<|Ac T ⟨dD<|LH<|by rw[B_,B_];omega,hZ2 _ _ ⟨_,rfl,?_,d.new I⟩⟩⟩;rw[Ab,Ve o,N_];rintro h k ⟨g,rfl,e,d⟩;rw[B_,hG.l,aK]at e;exact L _ _ ⟨_,rfl,e,d⟩;rintro h k ⟨g,rfl,e,d⟩;have lq:=J3 λG hG=>(hb G hG).1;exact⟨_,Gs.flatten,rfl,e,by omega,J,λO l y C Y e2 N=>⟨_,Sub.refl,q O l y ⟨C.m,C.c,C.u,λz hz=>J z<|C.m z hz⟩ (d.none Y) e2<|d.trans N⟩⟩
structure Ar where
 p:Nat
 x:Nat
 ts:oA Nat
 c:Nat
def arD(a:Ar):lE:=.tuple [.int (a.p:Nat),.int (a.x:Nat),Bc a.ts,.int (a.c:Nat)]
def Sm(a:Ar):AV:=.D<|arD a
def Eh(k:Nat×Nat)(a:Ar):Bool:=decide (a.p=k.1)&&decide (a.x=k.2)
def grp(A:oA Ar)(k:Nat×Nat):oA Pr:=(A.filter<|Eh k).map λa=>(a.c,bts a.ts)
def kvT(e:(Nat×Nat)×lF):oA Key×AV:=([.inl (e.1.1:Nat),.inl (e.1.2:Nat)],.R e.2)
structure TopW(μ0 μ:M)(d:lF)(A:oA Ar)(K:Nat×Nat->Prop)(kvs:oA<|(Nat×Nat)×lF):Prop where
 dd:μ d=some (.dt<|kvs.map kvT)
 ll:∀e∈kvs,μ e.2=oG ((grp A e.1).map A4)
 kk:∀k,(∃e∈kvs,e.1=k)↔K k
 uu:(kvs.map (·.1)).Nodup
 vv:(kvs.map (·.2)).Nodup
 fd:μ0 d=none
 fe:∀e∈kvs,μ0 e.2=none/\e.2≠d
 ss:Sub μ0 μ
def Zv(a b:M)(d:lF)(A:oA Ar)(kvs:oA<|(Nat×Nat)×lF):Prop:=TopW a b d A (λk=>grp A k≠[]) kvs
def Ml{k l:Nat×Nat}(h:([.inl (k.1:Nat),.inl (k.2:Nat)]:oA Key)=[.inl (l.1:Nat),.inl (l.2:Nat)]):k=l:=by injection h with h1 h2;injection h2 with h2 _;exact lB (fS<|iC h1)<|fS<|iC h2
theorem F3:∀{kvs:oA<|(Nat×Nat)×lF} {e:(Nat×Nat)×lF},(kvs.map (·.1)).Nodup->e∈kvs->Cl (kvs.map kvT) [.inl (e.1.1:Nat),.inl (e.1.2:Nat)]=oD e.2
 |x::kvs,e,a,he=>by
  rw[aP];rw[aP,cB]at a;by_cases h:x.1=e.1;have hx:e=x:=by
   rcases aB.mp he with rfl|he
   rfl
   exact absurd (D_.mpr ⟨e,he,h.symm⟩) a.1
  subst hx;exact Dp;have b:e∈kvs:=by rcases aB.mp he with rfl|he;exact absurd rfl h;exact he
  rw[show Cl (kvT x::kvs.map kvT) [.inl (e.1.1:Nat),.inl (e.1.2:Nat)]=Cl (kvs.map kvT) [.inl (e.1.1:Nat),.inl (e.1.2:Nat)] from Cy λz=>h<|Ml z];exact F3 a.2 b
theorem He:∀{kvs:oA<|(Nat×Nat)×lF} {k:Nat×Nat},(∀e∈kvs,e.1≠k)->Cl (kvs.map kvT) [.inl (k.1:Nat),.inl (k.2:Nat)]=none
 |[],_,_=>rfl
 |x::kvs,k,h=>by rw[aP,show Cl (kvT x::kvs.map kvT) [.inl (k.1:Nat),.inl (k.2:Nat)]=Cl (kvs.map kvT) [.inl (k.1:Nat),.inl (k.2:Nat)] from Cy λz=>h x aS<|Ml z];exact He λe he=>h e<|aH _ he
def Fy{kvs:oA<|(Nat×Nat)×lF}{k:Nat×Nat}{z:lF}(h:∀e∈kvs,e.1≠k):Ek (kvs.map kvT) [.inl (k.1:Nat),.inl (k.2:Nat)] (.R z)=(kvs++[(k,z)]).map kvT:=by
 unfold Ek;rw[M_,N_]
 rfl
 intro a;obtain⟨b,h1,h2⟩:=bP.mp a;obtain⟨e,he,rfl⟩:=D_.mp h1;exact h e he<|Ml<|aG h2
def Ox{kvs:oA<|(Nat×Nat)×lF}{e f:(Nat×Nat)×lF}(h:(kvs.map (·.1)).Nodup)(he:e∈kvs)(a:f∈kvs)(c:e.1=f.1):e=f:=by
 induction kvs with
 |nil=>cases he
 |cons x r b=>rw[aP,cB]at h;rcases aB.mp he with h1|h1<;>rcases aB.mp a with h2|h2;rw[h1,h2];exact absurd (D_.mpr ⟨f,h2,by rw[<- h1];exact c.symm⟩) h.1;exact absurd (D_.mpr ⟨e,h1,by rw[<- h2];exact c⟩) h.1;exact b h.2 h1 h2
def Lc{kvs:oA<|(Nat×Nat)×lF}{e f:(Nat×Nat)×lF}(h:(kvs.map (·.2)).Nodup)(he:e∈kvs)(a:f∈kvs)(c:e.2=f.2):e=f:=by
 induction kvs with
 |nil=>cases he
 |cons x r b=>rw[aP,cB]at h;rcases aB.mp he with h1|h1<;>rcases aB.mp a with h2|h2;rw[h1,h2];exact absurd (D_.mpr ⟨f,h2,by rw[<- h1];exact c.symm⟩) h.1;exact absurd (D_.mpr ⟨e,h1,by rw[<- h2];exact c⟩) h.1;exact b h.2 h1 h2
def Oy(A:oA Ar)(a:Ar)(k:Nat×Nat):grp (A++[a]) k=grp A k++(if Eh k a then [(a.c,bts a.ts)] else []):=by unfold grp;rw[gC,N_,gQ,List.filter_nil];split<;>rfl
def J4(a:Ar):Eh (a.p,a.x) a=true:=by unfold Eh;simp
def Mm{a:Ar}{k:Nat×Nat}(h:k≠(a.p,a.x)):Eh k a=false:=by unfold Eh;rw[<- Bool.decide_and];exact aQ λc=>h<|lB c.1.symm c.2.symm
def YM{a b c d:lE}{i j k l:Nat}{τ:ASt}{e:M}{R:ASt->M->Prop}(h:R ((((τ.set i<|oF a).set j<|oF b).set k<|oF c).set l<|oF d) e):Fe (D3 i) (Fe (D3 j)<|Fe (D3 k)<|Fe (D3 l) Nc) (List.map AV.D [a,b,c,d]) τ e R:=h
abbrev nAt:oA Str:=["arrows","tops","stand","letter","targets","cost"]
def Vf:FnScope nAt ["arrows"] (Ah XW):=Bt<|by decide +kernel
def SF:ASp:=λg e R=>∃(x:AV) (A:oA Ar),g=[x]/\items e x=some (A.map Sm)/\A.length<=300/\(∀a∈A,∀t∈a.ts,t<5)/\∀d c b,Zv e b d A c->R (.R d) b
def SG{n:Nat}(F:Fun K "arrows_by_top" "arrows_by_top" XW f fd) (v8:VCal P w K mg base n "as_bits" ["stands"] LF):FnOk P w K mg base Dx (n+1) f fd ["arrows"] (E8 K 1 SF):=by
 refine F.vok Vf λaq A W s H E hr=>⟨_,(Af (Ap (i:=1) Vf.nd rfl oH Ew)<|Af (B3 aF rfl (Bd<|vv 0) (D4 (n:=4) rfl<|Au (Ak (i:=2) Vf.nd rfl oH)<|Au (Ak (i:=3) Vf.nd rfl oH)<|Au (Ak (i:=4) Vf.nd rfl oH)<|Au (Ak (i:=5) Vf.nd rfl oH) B8)<|Af (B5<|Yi (B0 hr) (vv 1) (Bn<|Aa (vv 2)<|Aa (vv 3) Ad)<|B2 Ad)<|Aj<|B5<|Ee bY bZ C9 (Dn (B0 hr) (vv 1)<|Bn<|Aa (vv 2)<|Aa (vv 3) Ad)<|Aa (Bn<|Aa (vv 5)<|Aa (Am v8 hr rfl<|Aa (vv 4) Ad) Ad) Ad)<|Aj<|A8<|vv 1),?_⟩
 rintro xs V R _ ⟨x,A,rfl,hx,hn,ht,q⟩;intro d Y;refine Ax (λI r=>∃M Q N O,∃g:oA<|(Nat×Nat)×lF,I=[some x,oD d,M,Q,N,O]/\Zv V r d A g) (λZ hZ=>?_) ?_;refine Ac (Cf hx<|Sub.refl.new Y) ?_;refine Cp (λi I r=>∃M Q N O,∃g:oA<|(Nat×Nat)×lF,I=[some x,oD d,M,Q,N,O]/\g.length<=i/\Zv V r d (A.take i) g) ⟨none,none,none,none,[],rfl,aJ _,⟨Ab,(λ_ h=>nomatch h),λk=>⟨(by rintro ⟨_,h,_⟩;exact nomatch h),λh=>absurd rfl h⟩,a_,a_,Y,(λ_ h=>nomatch h),Sub.refl.new Y⟩⟩ (by rintro _ _ _ ⟨_,_,_,_,_,_,_,T⟩;exact Cf hx T.ss) ?_ ?_;rintro i v I j Z2 hv ⟨M,Q,N,O,g,rfl,S,T⟩ hZ2;rw[L_]at hv;obtain⟨a,ha,rfl⟩:=G_.mp hv;have hi:=(E_.mp ha).1;have be:A.take (i+1)=A.take i++[a]:=by rw[aO,ha];rfl
 refine⟨rfl,YM ?_⟩;dsimp only[List.set];generalize hB:A.take i=B at T be;refine Ax (λI r=>∃g:oA<|(Nat×Nat)×lF,I=[some x,oD d,oE (a.p:Nat),oE (a.x:Nat),oF<|Bc a.ts,oE (a.c:Nat)]/\g.length<=i+1/\TopW V r d B (λk=>grp B k≠[]\/k=(a.p,a.x)) g) (λZ3 bu=>?_) ?_;refine⟨⟨_,T.dd,trivial⟩,λz hz=>Ac (x:=[.inl (a.p:Nat),.inl (a.x:Nat)]) rfl ?_⟩;have J:Sub j (Al j z<|.lst []):=Sub.refl.new hz;have ez:Al j z (.lst []) z=oG []:=Ab;have zd:z≠d:=by rintro rfl;rw[T.dd]at hz;cases hz
 have z0:V z=none:=T.ss.none hz;have zk:∀e∈g,e.2≠z:=λe he c=>by have:=T.ll e he;rw[c,hz]at this;cases this
 generalize Al j z (.lst [])=u at J ez;refine Ac (J _ _ T.dd) ⟨A5<|by rw[B_];omega,λv hv=>?_,λhv=>?_⟩;have cr:∃e∈g,e.1=(a.p,a.x):=aL λU=>by rw[He (k:=(a.p,a.x)) λe he c=>U ⟨e,he,c⟩]at hv;cases hv
 refine bu _ _ ⟨g,rfl,bB S,⟨J _ _ T.dd,λe he=>J _ _<|T.ll e he,λk=>?_,T.uu,T.vv,T.fd,T.fe,λb m hb=>J b m<|T.ss b m hb⟩⟩;rw[T.kk];refine⟨.inl,λc=>c.elim id λc=>?_⟩;rw[c];exact(T.kk _).mp cr;have U:∀e∈g,e.1≠(a.p,a.x):=λe he c=>by have:=F3 T.uu he;rw[c]at this;rw[this]at hv;cases hv
 rw[Fy (k:=(a.p,a.x)) U];have g0:grp B (a.p,a.x)=[]:=aL λc=>by obtain⟨e,he,h⟩:=(T.kk _).mpr c;exact U e he h
 have ne:∀{b:lF},b≠d->Al u d (.dt<|(g++[((a.p,a.x),z)]).map kvT) b=u b:=λh=>Ae h;refine bu _ _ ⟨g++[((a.p,a.x),z)],rfl,by rw[P_];show g.length+1<=_;exact gS S,⟨Ab,λe he=>?_,λk=>?_,?_,?_,T.fd,λe he=>?_,λb m hb=>?_⟩⟩;rcases Q_.mp he with he|he;rw[ne (T.fe e he).2];exact J _ _<|T.ll e he;rw[H_.mp he,ne zd,g0];exact ez;constructor;rintro⟨e,he,rfl⟩;rcases Q_.mp he with he|he;exact .inl<|(T.kk _).mp ⟨e,he,rfl⟩;rw[H_.mp he];exact .inr rfl;rintro(h|rfl);obtain⟨e,he,h⟩:=(T.kk k).mpr h;exact⟨e,aE _ he,h⟩;exact⟨((a.p,a.x),z),by simp,rfl⟩;rw[N_,aX];refine⟨T.uu,by simp,λx hx y hy e=>?_⟩;obtain⟨e',X,rfl⟩:=D_.mp hx;have hy:y=(a.p,a.x):=by simpa using hy
 exact U e' X<|e.trans hy
 rw[N_,aX];refine⟨T.vv,by simp,λx hx y hy e=>?_⟩;obtain⟨e',X,rfl⟩:=D_.mp hx;have hy:y=z:=by simpa using hy
 exact zk e' X<|e.trans hy
 rcases Q_.mp he with he|he;exact T.fe e he;rw[H_.mp he];exact⟨z0,zd⟩;rw[Ae<|by rintro rfl;rw[T.fd]at hb;cases hb];exact J b m<|T.ss b m hb;clear S T;rintro I u ⟨g,rfl,S,T⟩;obtain⟨C,l,G⟩:=(T.kk (a.p,a.x)).mpr<|.inr rfl;have i7:=F3 T.uu l;rw[G]at i7;have kd:=T.ll C l;have ed:dget (.dt<|g.map kvT) (.tuple [.int (a.p:Nat),.int (a.x:Nat)])=some (some<|AV.R C.2):=by show some (Cl (g.map kvT) [.inl (a.p:Nat),.inl (a.x:Nat)])=_;rw[i7]
 refine Ac T.dd (Ac ed<|Ac (x:=AV.R C.2) rfl ⟨Ac kd trivial,_,a.ts,rfl,Bo a.ts,λt h=>fF (ht a (W_ ha) t h)<|by decide,Ac kd ⟨?_,hZ2 _ _ ⟨_,_,_,_,g,rfl,S,?_⟩⟩⟩);rw[B_];refine A5 ?_;unfold grp;rw[B_];have:=bU (Eh C.1) B;rw[<- hB,bI]at this;rw[<- hB];omega;rw[be];have ne:∀{b:lF} {o:MO},b≠C.2->Al u C.2 o b=u b:=λh=>Ae h;refine⟨by rw[ne (T.fe C l).2.symm];exact T.dd,λe he=>?_,λk=>?_,T.uu,T.vv,T.fd,T.fe,λb m hb=>?_⟩;rw[Oy];by_cases L:e.1=(a.p,a.x);have:e=C:=Ox T.uu he l<|L.trans G.symm;subst this;rw[Ab,G,J4,T_ rfl,N_];rfl;have:e.2≠C.2:=λc=>L (by rw[Lc T.vv he l c];exact G);rw[ne this,Mm L,M_ S_,cL];exact T.ll e he;rw[T.kk,Oy];by_cases hk:k=(a.p,a.x);rw[hk,J4,T_ rfl];exact⟨λ_=>by simp,λ_=>.inr rfl⟩;rw[Mm hk,M_ S_,cL];exact⟨λc=>c.elim id λc=>absurd c hk,.inl⟩;rw[ne<|by rintro rfl;rw[(T.fe C l).1]at hb;cases hb];exact T.ss b m hb;rintro I j ⟨M,Q,N,O,g,rfl,S,T⟩;rw[B_,aK]at T;exact hZ _ _ ⟨_,_,_,_,g,rfl,T⟩;rintro I j ⟨M,Q,N,O,g,rfl,T⟩;exact⟨_,Sub.refl,q d g j T⟩
def Fz(k:Nat×Nat)(a:Rul):Bool:=decide (a.p=k.1)&&decide (a.x=k.2)
def rgp(A:oA Rul)(k:Nat×Nat):oA Rul:=A.filter<|Fz k
structure TpW(μ0 μ:M)(d:lF)(A:oA Rul)(K:Nat×Nat->Prop)(kvs:oA<|(Nat×Nat)×lF):Prop where
 dd:μ d=some (.dt<|kvs.map kvT)
 ll:∀e∈kvs,μ e.2=oG ((rgp A e.1).map Di)
 kk:∀k,(∃e∈kvs,e.1=k)↔K k
 uu:(kvs.map (·.1)).Nodup
 vv:(kvs.map (·.2)).Nodup
 fd:μ0 d=none
 fe:∀e∈kvs,μ0 e.2=none/\e.2≠d
 ss:Sub μ0 μ
def LQ(a b:M)(d:lF)(A:oA Rul)(kvs:oA<|(Nat×Nat)×lF):Prop:=TpW a b d A (λk=>rgp A k≠[]) kvs
def Oz(A:oA Rul)(a:Rul)(k:Nat×Nat):rgp (A++[a]) k=rgp A k++(if Fz k a then [a] else []):=by unfold rgp;rw[gC,gQ,List.filter_nil]
def O0(a:Rul):Fz (a.p,a.x) a=true:=by unfold Fz;simp
def Zw{a:Rul}{k:Nat×Nat}(h:k≠(a.p,a.x)):Fz k a=false:=by unfold Fz;rw[<- Bool.decide_and];exact aQ λc=>h<|lB c.1.symm c.2.symm
abbrev nRt:oA Str:=["game","tops","rule"]
def LR:FnScope nRt ["game"] (Ah XX):=Bt<|by decide +kernel
def SH:ASp:=λe c R=>∃(g:Gam),e=[.D<|Ch g]/\g.rs.length<=300/\∀d b a,LQ c a d g.rs b->R (.R d) a
def SI{n:Nat}(F:Fun K "rules_by_top" "rules_by_top" XX f fd):FnOk P w K mg base Dx (n+1) f fd ["game"] (E8 K 1 SH):=by
 refine F.vok LR λaq A V s H E hr=>⟨_,(Af (Ap (i:=1) LR.nd rfl oH Ew)<|Af (B3 aF rfl (Bd<|Bk Cb (vv 0) Ai) (Ak (i:=2) LR.nd rfl oH)<|Af (B5<|Yi (B0 hr) (vv 1) (C8 (vv 2) Ed<|Dl Ai)<|B2 Ad)<|Aj<|B5<|Ee bY bZ C9 (Dn (B0 hr) (vv 1)<|C8 (vv 2) Ed<|Dl Ai)<|Aa (vv 2) Ad)<|Aj<|A8<|vv 1),?_⟩
 rintro xs U R _ ⟨g,rfl,hn,q⟩;generalize Y:g.rs=A at hn q;have S:∀ ν:M,items ν (.D<|.tuple<|A.map De)=some (A.map Di):=λν=>by show some ((A.map De).map AV.D)=_;rw[aD];rfl
 have iw:atI ([.tuple<|g.pl.map KU,.tuple<|g.le.map .str,.tuple<|g.rs.map De]:oA lE) (2:Int)=some (.tuple<|A.map De):=by rw[Y];rfl
 intro d hd;refine Ax (λI t=>∃N,∃j:oA<|(Nat×Nat)×lF,I=[oF<|Ch g,oD d,N]/\LQ U t d A j) (λZ hZ=>?_) ?_;refine Ac iw<|Ac (S _) ?_;refine Cp (λi I t=>∃N,∃j:oA<|(Nat×Nat)×lF,I=[oF<|Ch g,oD d,N]/\j.length<=i/\LQ U t d (A.take i) j) ⟨none,[],rfl,aJ _,⟨Ab,(λ_ h=>nomatch h),λk=>⟨(by rintro ⟨_,h,_⟩;exact nomatch h),λh=>absurd rfl h⟩,a_,a_,hd,(λ_ h=>nomatch h),Sub.refl.new hd⟩⟩ (λ_ _ _ _=>S _) ?_ ?_;rintro i v I l Z2 hv ⟨N,j,rfl,O,T⟩ hZ2;rw[L_]at hv;obtain⟨a,ha,rfl⟩:=G_.mp hv;have hi:=(E_.mp ha).1;have be:A.take (i+1)=A.take i++[a]:=by rw[aO,ha];rfl
 generalize hB:A.take i=B at T be;refine Ax (λI t=>∃j:oA<|(Nat×Nat)×lF,I=[oF<|Ch g,oD d,some<|Di a]/\j.length<=i+1/\TpW U t d B (λk=>rgp B k≠[]\/k=(a.p,a.x)) j) (λZ3 bu=>?_) ?_;refine⟨⟨_,T.dd,trivial⟩,λz hz=>Ac (x:=[.inl (a.p:Nat),.inl (a.x:Nat)]) rfl ?_⟩;have J:Sub l (Al l z<|.lst []):=Sub.refl.new hz;have ez:Al l z (.lst []) z=oG []:=Ab;have zd:z≠d:=by rintro rfl;rw[T.dd]at hz;cases hz
 have z0:U z=none:=T.ss.none hz;have zk:∀e∈j,e.2≠z:=λe he c=>by have:=T.ll e he;rw[c,hz]at this;cases this
 generalize Al l z (.lst [])=u at J ez;refine Ac (J _ _ T.dd) ⟨A5<|by rw[B_];omega,λv hv=>?_,λhv=>?_⟩;have cr:∃e∈j,e.1=(a.p,a.x):=aL λQ=>by rw[He (k:=(a.p,a.x)) λe he c=>Q ⟨e,he,c⟩]at hv;cases hv
 refine bu _ _ ⟨j,rfl,bB O,⟨J _ _ T.dd,λe he=>J _ _<|T.ll e he,λk=>?_,T.uu,T.vv,T.fd,T.fe,λb m hb=>J b m<|T.ss b m hb⟩⟩;rw[T.kk];refine⟨.inl,λc=>c.elim id λc=>?_⟩;rw[c];exact(T.kk _).mp cr;have Q:∀e∈j,e.1≠(a.p,a.x):=λe he c=>by have:=F3 T.uu he;rw[c]at this;rw[this]at hv;cases hv
 rw[Fy (k:=(a.p,a.x)) Q];have g0:rgp B (a.p,a.x)=[]:=aL λc=>by obtain⟨e,he,h⟩:=(T.kk _).mpr c;exact Q e he h
 have ne:∀{b:lF},b≠d->Al u d (.dt<|(j++[((a.p,a.x),z)]).map kvT) b=u b:=λh=>Ae h;refine bu _ _ ⟨j++[((a.p,a.x),z)],rfl,by rw[P_];show j.length+1<=_;exact gS O,⟨Ab,λe he=>?_,λk=>?_,?_,?_,T.fd,λe he=>?_,λb m hb=>?_⟩⟩;rcases Q_.mp he with he|he;rw[ne (T.fe e he).2];exact J _ _<|T.ll e he;rw[H_.mp he,ne zd,g0];exact ez;constructor;rintro⟨e,he,rfl⟩;rcases Q_.mp he with he|he;exact .inl<|(T.kk _).mp ⟨e,he,rfl⟩;rw[H_.mp he];exact .inr rfl;rintro(h|rfl);obtain⟨e,he,h⟩:=(T.kk k).mpr h;exact⟨e,aE _ he,h⟩;exact⟨((a.p,a.x),z),by simp,rfl⟩;rw[N_,aX];refine⟨T.uu,by simp,λx hx y hy e=>?_⟩;obtain⟨X,W,rfl⟩:=D_.mp hx;have hy:y=(a.p,a.x):=by simpa using hy
 exact Q X W<|e.trans hy
 rw[N_,aX];refine⟨T.vv,by simp,λx hx y hy e=>?_⟩;obtain⟨X,W,rfl⟩:=D_.mp hx;have hy:y=z:=by simpa using hy
 exact zk X W<|e.trans hy
 rcases Q_.mp he with he|he;exact T.fe e he;rw[H_.mp he];exact⟨z0,zd⟩;rw[Ae<|by rintro rfl;rw[T.fd]at hb;cases hb];exact J b m<|T.ss b m hb;clear O T;rintro I u ⟨j,rfl,O,T⟩;obtain⟨C,r,G⟩:=(T.kk (a.p,a.x)).mpr<|.inr rfl;have i7:=F3 T.uu r;rw[G]at i7;have kd:=T.ll C r;have ed:dget (.dt<|j.map kvT) (.tuple [.int (a.p:Nat),.int (a.x:Nat)])=some (some<|AV.R C.2):=by show some (Cl (j.map kvT) [.inl (a.p:Nat),.inl (a.x:Nat)])=_;rw[i7]
 refine Ac T.dd<|Ac ed<|Ac (x:=AV.R C.2) rfl ⟨Ac kd trivial,Ac kd ⟨?_,hZ2 _ _ ⟨_,j,rfl,O,?_⟩⟩⟩;rw[B_];refine A5 ?_;unfold rgp;have:=bU (Fz C.1) B;rw[<- hB,bI]at this;rw[<- hB];omega;rw[be];have ne:∀{b:lF} {o:MO},b≠C.2->Al u C.2 o b=u b:=λh=>Ae h;refine⟨by rw[ne (T.fe C r).2.symm];exact T.dd,λe he=>?_,λk=>?_,T.uu,T.vv,T.fd,T.fe,λb m hb=>?_⟩;rw[Oz];by_cases L:e.1=(a.p,a.x);have:e=C:=Ox T.uu he r<|L.trans G.symm;subst this;rw[Ab,G,O0,T_ rfl,N_];rfl;have:e.2≠C.2:=λc=>L (by rw[Lc T.vv he r c];exact G);rw[ne this,Zw L,M_ S_,cL];exact T.ll e he;rw[T.kk,Oz];by_cases hk:k=(a.p,a.x);rw[hk,O0,T_ rfl];exact⟨λ_=>by simp,λ_=>.inr rfl⟩;rw[Zw hk,M_ S_,cL];exact⟨λc=>c.elim id λc=>absurd c hk,.inl⟩;rw[ne<|by rintro rfl;rw[(T.fe C r).1]at hb;cases hb];exact T.ss b m hb;rintro I l ⟨N,j,rfl,O,T⟩;rw[B_,aK]at T;exact hZ _ _ ⟨_,j,rfl,T⟩;rintro I l ⟨N,j,rfl,T⟩;exact⟨_,Sub.refl,q d j l T⟩
def hnd(g:Gam)(k:Nat×Nat):Nat:=(g.pl.map (·.2)).getD k.1 0
abbrev Tops:=Nat×Nat->oA Pr
def Ik(G:Tops)(s:Nat):oA Nat->oA Pr
 |[]=>[(0,bts [s])]
 |[x]=>G (s,x)
 |x::y::_=>(G (s,x)).flatMap λp=>(cho<|(Bz p.2).map λt=>G (t,y)).map λq=>(p.1+q.1,q.2)
def Fc(g:Gam)(G:Tops)(k:Nat×Nat):oA Pr:=if hnd g k=1 then cho ((rgp g.rs k).map λr=>Ik G r.q r.w) else((rgp g.rs k).map λr=>Ik G r.q r.w).flatten
def Eb(G:Tops)(E:oA Nat):oA Nat->Nat->Prop
 |[],s=>s∈E
 |x::v,s=>∃p∈G (s,x),∀t∈Bz p.2,Eb G E v t
inductive Pre (g:Gam) (S:Nat->oA Nat->Prop):Nat->oA Nat->Prop where
 |say {p:Nat} {w:oA Nat}:p<g.pl.length->S p w->Pre g S p w
 |one {p x:Nat} {v:oA Nat} {r:Rul}:r∈rgp g.rs (p,x)->hnd g (p,x)≠1->Pre g S r.q (r.w++v)->Pre g S p (x::v)
 |all {p x:Nat} {v:oA Nat}:hnd g (p,x)=1->rgp g.rs (p,x)≠[]->(∀r∈rgp g.rs (p,x),Pre g S r.q<|r.w++v)->Pre g S p (x::v)
def Pre.mono{g:Gam}{S T:Nat->oA Nat->Prop}(h:∀p w,p<g.pl.length->S p w->T p w){p:Nat}{w:oA Nat}(hp:Pre g S p w):Pre g T p w:=by
 induction hp with
 |say hp e=>exact .say hp (h _ _ hp e)
 |one d a _ b=>exact .one d a b
 |all a c _ b=>exact .all a c b
def Ci{n t:Nat}:t∈Bz n↔t<5/\n.testBit t=true:=by unfold Bz;rw[bJ,bC]
def Ir(p q:Pr)(t:Nat):(ewe p q).2.testBit t=(p.2.testBit t||q.2.testBit t):=kD ..
def Zx{Gs:oA<|oA Pr}{z:Pr}(hz:z∈cho Gs):∀G∈Gs,∃p∈G,∀t,p.2.testBit t=true->z.2.testBit t=true:=by
 have a:∀(Gs:oA<|oA Pr) (F:oA Pr),z∈Gs.foldl (λF G=>F.flatMap λp=>G.map<|ewe p) F->(∃f∈F,∀t,f.2.testBit t=true->z.2.testBit t=true)/\∀G∈Gs,∃p∈G,∀t,p.2.testBit t=true->z.2.testBit t=true:=by
  intro Gs
  induction Gs with
  |nil=>exact λF h=>⟨⟨z,h,λ_ h=>h⟩,λ_ h=>nomatch h⟩
  |cons G Gs d=>intro F h;obtain⟨⟨f,b,h1⟩,h2⟩:=d _ h;obtain⟨y,hy,b⟩:=bT.mp b;obtain⟨o,e,rfl⟩:=D_.mp b;refine⟨⟨y,hy,λt c=>h1 t<|by rw[Ir,c];rfl⟩,λg hG=>?_⟩;rcases aB.mp hG with rfl|hG;exact⟨o,e,λt c=>h1 t<|by rw[Ir,c,Bool.or_true]⟩;exact h2 g hG
 exact(a Gs _ hz).2
def Zy{Q:Nat->Prop}{Gs:oA<|oA Pr}(h:∀G∈Gs,∃p∈G,∀t∈Bz p.2,Q t):∃z∈cho Gs,∀t∈Bz z.2,Q t:=by
 have a:∀(Gs:oA<|oA Pr) (F:oA Pr),(∀G∈Gs,∃p∈G,∀t∈Bz p.2,Q t)->(∃f∈F,∀t∈Bz f.2,Q t)->∃z∈Gs.foldl (λF G=>F.flatMap λp=>G.map<|ewe p) F,∀t∈Bz z.2,Q t:=by
  intro Gs
  induction Gs with
  |nil=>exact λF _ h=>h
  |cons G Gs d=>intro F h e;obtain⟨f,g,h1⟩:=e;obtain⟨p,hp,h2⟩:=h G<|.head _;refine d _ (λi hG=>h i<|.tail _ hG) ⟨ewe f p,bT.mpr ⟨f,g,D_.mpr ⟨p,hp,rfl⟩⟩,λt b=>?_⟩;obtain⟨c,hb⟩:=Ci.mp b;rw[Ir,e_]at hb;exact hb.elim (λhb=>h1 t<|Ci.mpr ⟨c,hb⟩) λhb=>h2 t<|Ci.mpr ⟨c,hb⟩
 exact a Gs _ h ⟨(0,0),.head _,λt b=>absurd (Ci.mp b).2<|by rw[i_];decide⟩
def Qz{s:Nat}(hs:s<5):Bz (bts [s])=[s]:=by
 have a:∀i:_root_.Fin 5,Bz (bts [i.val])=[i.val]:=by decide +kernel
 exact a ⟨s,hs⟩
def O1(G:Tops)(L:Nat->oA Nat->Prop):Prop:=∀k,∀p∈G k,∀v,(∀t∈Bz p.2,L t v)->L k.1 (k.2::v)
def EV{G:Tops}{L:Nat->oA Nat->Prop}(h:O1 G L){s:Nat}(hs:s<5){u:oA Nat}(hu:u.length<=2){z:Pr}(hz:z∈Ik G s u){v:oA Nat}(hv:∀t∈Bz z.2,L t v):L s (u++v):=by
 match u,hu with
 |[],_=>rw[H_.mp hz,Qz hs]at hv;exact hv s (.head _)
 |[x],_=>exact h (s,x) z hz v hv
 |[x,y],_=>obtain⟨p,hp,hz⟩:=bT.mp hz;obtain⟨q,hq,rfl⟩:=D_.mp hz;refine h (s,x) p hp (y::v) λt b=>?_;obtain⟨o,a,hb⟩:=Zx hq _<|D_.mpr ⟨t,b,rfl⟩;exact h (t,y) o a v λi hi=>hv i<|Ci.mpr ⟨(Ci.mp hi).1,hb i (Ci.mp hi).2⟩
def Sn{G:Tops}{E:oA Nat}{s:Nat}(hs:s<5){u:oA Nat}(hu:u.length<=2){v:oA Nat}(h:Eb G E (u++v) s):∃z∈Ik G s u,∀t∈Bz z.2,Eb G E v t:=by
 match u,hu with
 |[],_=>refine⟨(0,bts [s]),.head _,λt a=>?_⟩;rw[Qz hs]at a;rw[H_.mp a];exact h
 |[x],_=>exact h
 |[x,y],_=>
  obtain⟨p,hp,h⟩:=h;obtain⟨q,hq,hb⟩:=Zy (Q:=Eb G E v) (Gs:=(Bz p.2).map λt=>G (t,y)) λK b=>by obtain⟨t,a,rfl⟩:=D_.mp b;exact h t a
  exact⟨(p.1+q.1,q.2),bT.mpr ⟨p,hp,D_.mpr ⟨q,hq,rfl⟩⟩,hb⟩
structure RgOk(g:Gam):Prop where
 p:g.pl.length<=5
 q:∀r∈g.rs,r.q<g.pl.length/\r.w.length<=2
def LPre(g:Gam)(S:Nat->oA Nat->Prop)(s:Nat)(w:oA Nat):Prop:=(s<g.pl.length/\Pre g S s w)\/(g.pl.length<=s/\S s w)
def EW{g:Gam}(d:RgOk g){S:Nat->oA Nat->Prop}{G:Tops}(h:O1 G<|LPre g S){k:Nat×Nat}(hk:k.1<g.pl.length)(hn:rgp g.rs k≠[]){z:Pr}(hz:z∈Fc g G k){v:oA Nat}(hv:∀t∈Bz z.2,LPre g S t v):LPre g S k.1 (k.2::v):=by
 have b:∀r∈rgp g.rs k,∀y∈Ik G r.q r.w,(∀t∈Bz y.2,LPre g S t v)->Pre g S r.q (r.w++v):=λr b y hy hv=>by obtain⟨h1,h2⟩:=d.q r (bJ.mp b).1;have:=d.p;exact(EV h (by omega) h2 hy hv).elim (λz=>z.2) λz=>absurd h1<|by omega
 unfold Fc at hz;split at hz;rename_i c;refine .inl ⟨hk,.all c hn λr a=>?_⟩;obtain⟨y,hy,hb⟩:=Zx hz _<|D_.mpr ⟨r,a,rfl⟩;exact b r a y hy λt e=>hv t<|Ci.mpr ⟨(Ci.mp e).1,hb t (Ci.mp e).2⟩;rename_i c;obtain⟨K,i,hz⟩:=jC.mp hz;obtain⟨r,a,rfl⟩:=D_.mp i;exact .inl ⟨hk,.one a c<|b r a z hz hv⟩
theorem So{G:Tops}{E:oA Nat}{L:Nat->oA Nat->Prop}(h:O1 G L)(b:∀s∈E,L s []):∀{w:oA Nat} {s:Nat},Eb G E w s->L s w
 |[],s,a=>b s a
 |x::v,s,⟨p,hp,a⟩=>h (s,x) p hp v λt c=>So h b<|a t c
def Under(P Q:oA Pr):Prop:=∀y∈P,∃z∈Q,∀t∈Bz z.2,t∈Bz y.2
theorem Ld{G K:Tops}{E:oA Nat}(h:∀k,Under (G k)<|K k):∀{w:oA Nat} {s:Nat},Eb G E w s->Eb K E w s
 |[],_,a=>a
 |x::_,s,⟨p,hp,a⟩=>by obtain⟨z,hz,hb⟩:=h (s,x) p hp;exact⟨z,hz,λt b=>Ld h<|a t<|hb t b⟩
def EY{g:Gam}(m:RgOk g){B G:Tops}{E:oA Nat}(h1:∀k,Under (B k)<|G k)(h2:∀k,rgp g.rs k≠[]->Under (Fc g G k) (G k)){p:Nat}{w:oA Nat}(h:Pre g (λp w=>Eb B E w p) p w):Eb G E w p:=by
 have e:∀k,∀r∈rgp g.rs k,r.q<5/\r.w.length<=2:=λk r e=>by obtain⟨a,b⟩:=m.q r (bJ.mp e).1;have:=m.p;exact⟨by omega,b⟩
 have d:∀{p x:Nat} {v:oA Nat} {y:Pr},rgp g.rs (p,x)≠[]->y∈Fc g G (p,x)->(∀t∈Bz y.2,Eb G E v t)->Eb G E (x::v) p:=λ{p x v y} i hy hv=>by obtain⟨z,hz,hb⟩:=h2 (p,x) i y hy;exact⟨z,hz,λt n=>hv t<|hb t n⟩
 induction h with
 |say _ o=>exact Ld h1 o
 |@one p x v r c l _ j=>obtain⟨a,b⟩:=e _ r c;obtain⟨y,hy,hv⟩:=Sn a b j;refine d (λz=>by rw[z]at c;cases c) (?_:y∈_) hv;unfold Fc;rw[M_ l];exact jC.mpr ⟨_,D_.mpr ⟨r,c,rfl⟩,hy⟩
 |@all p x v l i _ j=>
  obtain⟨y,hy,hv⟩:=Zy (Q:=Eb G E v) (Gs:=(rgp g.rs (p,x)).map λr=>Ik G r.q r.w) λK s=>by obtain⟨r,c,rfl⟩:=D_.mp s;obtain⟨a,b⟩:=e _ r c;exact Sn a b<|j r c
  refine d i (?_:y∈_) hv;unfold Fc;rw[T_ l];exact hy
def Q0{g:Gam}(c:RgOk g){B G:Tops}{E:oA Nat}(h1:∀k,Under (B k)<|G k)(h2:∀k,rgp g.rs k≠[]->Under (Fc g G k) (G k))(d:O1 G<|LPre g λp w=>Eb B E w p){p:Nat}(hp:p<g.pl.length)(w:oA Nat):Eb G E w p↔Pre g (λp w=>Eb B E w p) p w :=
 ⟨λa=>(So d (λs b=>(cU s g.pl.length).elim (λh=>.inl ⟨h,.say h b⟩) λh=>.inr ⟨h,b⟩) a).elim (λz=>z.2) λz=>absurd hp<|jA z.1,EY c h1 h2⟩
def EZ{g:Gam}{B:Tops}{E:oA Nat}(h:∀k,∀p∈B k,∀t∈Bz p.2,g.pl.length<=t):O1 B (LPre g λp w=>Eb B E w p):=λk p hp v hv=>by have a:Eb B E (k.2::v) k.1:=⟨p,hp,λt b=>(hv t b).elim (λz=>absurd (h k p hp t b)<|Nat.not_le_of_lt z.1) λz=>z.2⟩;rcases cU k.1 g.pl.length with hk|hk;exact .inl ⟨hk,.say hk a⟩;exact .inr ⟨hk,a⟩
structure TopK(μ:M)(d:lF)(G:Tops):Prop where
 at':∃kvs:oA<|(Nat×Nat)×lF,μ d=some (.dt<|kvs.map kvT)/\(∀e∈kvs,μ e.2=oG ((G e.1).map A4))/\(∀k,(∀e∈kvs,e.1≠k)->G k=[])/\(kvs.map (·.1)).Nodup
def TopK.sub{c b:M}{d:lF}{G:Tops}(h:TopK c d G)(S:Sub c b):TopK b d G:=by obtain⟨a,h1,h2,i,g⟩:=h.at';exact⟨a,S _ _ h1,λe he=>S _ _<|h2 e he,i,g⟩
def Q3(G:Tops):Prop:=∀k,(G k).length<=32/\∀z∈G k,z.2<32
def Hf{g a:M}{d:lF}{G:Tops}{td ty:AE}{τ:ASt}{R:AV->M->Prop}(h:TopK g d G)(m:Sub g a)(p x:Nat)(s:∀Q:AV->M->Prop,Q (.R d) a->td τ a Q)(t:∀Q:AV->M->Prop,Q (.D<|.tuple [.int (p:Nat),.int (x:Nat)]) a->ty τ a Q)(q:∀l i,i l=oG ((G (p,x)).map A4)->Sub a i->(g l≠none\/a l=none)->R (.R l) i):Xn td ty (NX IW) τ a R:=by obtain⟨b,h1,h2,o,r⟩:=h.at';refine s _ ⟨⟨_,m _ _ h1,trivial⟩,t _ λz hz=>?_⟩;have S:Sub a (Al a z<|.lst []):=Sub.refl.new hz;refine Ac (S _ _<|m _ _ h1) ?_;by_cases hk:∀e∈b,e.1≠(p,x);have j:=He (k:=(p,x)) hk;refine Ac (x:=none) (by show some (Cl (b.map kvT) [.inl (p:Nat),.inl (x:Nat)])=_;rw[j])<|q z _ ?_ S<|.inr hz;rw[Ab,o _ hk];rfl;obtain⟨e,he,n⟩:∃e∈b,e.1=(p,x):=aL λc=>hk λe he z=>c ⟨e,he,z⟩;have j:=F3 r he;rw[n]at j;refine Ac (x:=some<|AV.R e.2) (by show some (Cl (b.map kvT) [.inl (p:Nat),.inl (x:Nat)])=_;rw[j]) (show R (AV.R e.2) _ from q e.2 _ ?_ S<|.inl λc=>by rw[h2 e he]at c;cases c);have:=S _ _<|m _ _<|h2 e he;rw[n]at this;exact this
theorem Q4:∀{ts:oA Nat},(∀t∈ts,t<5)->∀{b:Nat},b<32->ts.foldl (λb k=>b ||| 2^k) b<32
 |[],_,_,hb=>hb
 |t::ts,h,b,hb=>by refine Q4 (ts:=ts) (λu hu=>h u<|aH _ hu) ?_;have a:=h t aS;exact Nat.or_lt_two_pow (n:=5) hb<|Nat.pow_lt_pow_right (by decide) a
def UL(G:Tops)(y b:Nat):oA Pr:=cho<|(Bz b).map λt=>G (t,y)
def SJ(G:Tops)(y:Nat)(f r:lF)(kvs:oA<|Key×AV)(b:M):Prop:=∀(k:Nat) v,Cl kvs (.inl (k:Nat))=some v->∃(a:lF) (ys:oA Pr),v=.R a/\a≠f/\a≠r/\b a=oG (ys.map A4)/\Cv (UL G y k) ys
structure Cw(P zs:oA Pr):Prop where
 m:∀z∈zs,z∈P
 c:∀y∈P,∃z∈zs,Wn z y
 b:∀z∈zs,z.2<32
def Cw.thin{P e d:oA Pr}(h:Cw P e)(k:CvA e d):Cv P d:=⟨λu hu=>h.m u<|k.m u hu,λy hy=>by obtain⟨z,hz,a⟩:=h.c y hy;obtain⟨u,hu,b⟩:=k.c z hz;exact⟨u,hu,b.trans a⟩,k.u,λu hu=>h.b u<|k.m u hu⟩
def Cw.app{P Q a ys:oA Pr}(h:Cw P a)(k:Cw Q ys):Cw (P++Q) (a++ys):=by refine⟨λz hz=>?_,λy hy=>?_,λz hz=>(Q_.mp hz).elim (h.b z)<|k.b z⟩;exact Q_.mpr<|(Q_.mp hz).imp (h.m z)<|k.m z;rcases Q_.mp hy with hy|hy;obtain⟨z,hz,e⟩:=h.c y hy;exact⟨z,aE _ hz,e⟩;obtain⟨z,hz,e⟩:=k.c y hy;exact⟨z,aT _ hz,e⟩
def Cv.up{P a:oA Pr}(h:Cv P a)(c:Nat):Cw (P.map λq=>(c+q.1,q.2)) (a.map λq=>(c+q.1,q.2)):=by refine⟨λz hz=>?_,λy hy=>?_,λz hz=>?_⟩;obtain⟨q,hq,rfl⟩:=D_.mp hz;exact D_.mpr ⟨q,h.m q hq,rfl⟩;obtain⟨q,hq,rfl⟩:=D_.mp hy;obtain⟨z,hz,e⟩:=h.c q hq;exact⟨_,D_.mpr ⟨z,hz,rfl⟩,e⟩;obtain⟨q,hq,rfl⟩:=D_.mp hz;exact h.b q hq
abbrev YN:oA Str:=["tops","stand","w","least","firsts","found","rests","cost","bits"]
def Vg:FnScope YN qJ (Ah QG):=Bt<|by decide +kernel
def SK:(["target","tops","w"]:oA Str).Nodup:=by decide +kernel
def GQ:(qT:oA Str).Nodup:=by decide +kernel
def SL:ASp:=λc a R=>∃(d:lF) (G:Tops) (s:Nat) (w:oA Nat),c=[.R d,.D<|.int (s:Nat),.D<|Bc w,.D<|.bool true]/\TopK a d G/\Q3 G/\s<5/\w.length<=2/\∀(b:oA Pr) (l:lF) μ',Cv (Ik G s w) b->a l=none->μ' l=oG (b.map A4)->Sub a μ'->R (.R l) μ'
def SM{n:Nat}(F:Fun K "readings_by" "readings_by" QG f fd) (v8:VCal P w K mg base n "as_bits" ["stands"] LF) (yi:VCal P w K mg base n "as_stands" ["bits"] LG) (m4:VCal P w K mg base n "thinned" oP ET) (wa:VCal P w K mg base n "one_of_each" oM LN) (ai:mg "len" = none):FnOk P w K mg base Dx (n+1) f fd qJ (E8 K 4 SL):=by
 refine F.vok Vg λaq A outer s H E L=>⟨_,(Af (Dq (Bg (Hm L) (Az C5 rfl ai bD<|Aa (vv 2) Ad) Ai<|nomark _) (Aj<|A8<|B2<|Aa (Bn<|Aa Ai<|Aa (Am v8 L rfl<|Aa (Bn<|Aa (vv 1) Ad) Ad) Ad) Ad) B4)<|Af (Ap (i:=4) Vg.nd rfl oH<|G4 (B0 L) (vv 0) (Bn<|Aa (vv 1)<|Aa (Bk Cb (vv 2) Ai) Ad)<|B2 Ad)<|Af (Dq (Bg (Hm L) (Az C5 rfl ai bD<|Aa (vv 2) Ad) Ai<|nomark _) (Aj<|A8<|Am m4 L rfl<|Aa (vv 4)<|Aa (vv 3) Ad) B4)<|Af (Ap (i:=5) Vg.nd rfl oH<|B2 Ad)<|Af (Ap (i:=6) Vg.nd rfl oH Jh)<|Af (B3 aF rfl (Bd<|vv 4) (D4 (n:=2) rfl<|Au (Ak (i:=7) Vg.nd rfl oI)<|Au (Ak (i:=8) Vg.nd rfl oH) B8)<|Af (Dq (Ty (B0 L) (vv 8)<|vv 6) (Aj<|Da (B0 L) (vv 6) (vv 8)<|Am wa L rfl<|Aa (Bm (N':=["target","tops","w"]) (mp:=[none,some 0,some 2]) rfl (Bd<|Am yi L rfl<|Aa (vv 8) Ad) (λ_ _ _ _=>(Ak (i:=0) SK rfl oH oI)) (λ_ _ _ _=>Br) (λ_ _ _ _=>(G4 (B0 L) (vv 1) (Bn<|Aa (vv 0)<|Aa (Bk Cb (vv 2) Ai) Ad)<|B2 Ad))<|Av (N:=YN) (pn:=(Ah QG).names)<|by decide +kernel)<|Aa (vv 3) Ad) B4)<|Aj<|B5<|Ee eQ eT Fl (vv 5)<|Aa (Bm (N':=qT) (mp:=[none,none,some 7]) rfl (Bd<|Dn (B0 L) (vv 6)<|vv 8) (λ_ _ _ _=>(D4 (n:=2) rfl<|Au (Ak (i:=0) GQ rfl oH oI)<|Au (Ak (i:=1) GQ rfl oH oI) B8)) (λ_ _ _ _=>Br) (λ_ _ _ _=>(Bn<|Aa (A6 B7 (vv 2)<|vv 0)<|Aa (vv 1) Ad))<|Av (N:=YN) (pn:=(Ah QG).names)<|by decide +kernel) Ad)<|Aj<|A8<|Am m4 L rfl<|Aa (vv 5)<|Aa (vv 3) Ad),?_⟩
 rintro xs μ R _ ⟨d,T,s,w,rfl,hT,hB,hs,hw,q⟩
 match w,hw,q with
 |[],_,q=>refine Ck ⟨Bw _,Bw _,Pl rfl ⟨_,[s],rfl,rfl,λt h=>by rw[H_.mp h];omega,λl hl=>⟨_,Sub.refl,q [(0,bts [s])] l _ ⟨λz hz=>hz,λy hy=>⟨y,hy,Wn.refl y⟩,by simp,λz hz=>by rw[H_.mp hz];exact Q4 (ts:=[s]) (λt h=>by rw[H_.mp h];exact hs)<|by decide⟩ hl Ab<|Sub.refl.new hl⟩⟩⟩
 |[x],_,q=>refine Ck ⟨Bw _,Bw _,O8 rfl ?_⟩;refine Ck<|Hf hT Sub.refl s x (λQ h=>h) (λQ h=>Ac (x:=PyData.int (x:Nat)) rfl h) λl J hl S xh=>?_;refine Ck ⟨Bw _,Bw _,Pl rfl ?_⟩;obtain⟨hg,hgb⟩:=hB (s,x);exact⟨l,T (s,x),rfl,hl,by omega,hgb,λO p μ2 C hp e2 S2=>⟨_,Sub.refl,q O p μ2 ⟨C.m,C.c,C.u,λz hz=>hgb z<|C.m z hz⟩ (S.none hp) e2 λb m hb=>S2 b m<|S b m hb⟩⟩
 |[x,y],_,q=>
  refine Ck ⟨Bw _,Bw _,O8 rfl ?_⟩;refine Ck<|Hf hT Sub.refl s x (λQ h=>h) (λQ h=>Ac (x:=PyData.int (x:Nat)) rfl h) λl J hl S xh=>?_;refine Ck ⟨Bw _,Bw _,O8 rfl ?_⟩;intro f hf r L;have S1:Sub μ (Al J f<|.lst []):=S.new<|S.none hf;have ef:Al J f (.lst []) f=oG []:=Ab;have c8:Al J f (.lst []) l=oG ((T (s,x)).map A4):=Sub.refl.new hf _ _ hl;have fr:f≠r:=by rintro rfl;rw[ef]at L;cases L
  have f0:μ f=none:=S.none hf;have r0:μ r=none:=S1.none L;have S2:Sub μ (Al (Al J f<|.lst []) r<|.dk []):=S1.new r0;have ef2:Al (Al J f<|.lst []) r (.dk []) f=oG []:=by rw[Ae fr];exact ef
  have yx:Al (Al J f<|.lst []) r (.dk []) r=some (.dk []):=Ab;have cw:Al (Al J f<|.lst []) r (.dk []) l=oG ((T (s,x)).map A4):=Sub.refl.new L _ _ c8;have lf:l≠f:=by rintro rfl;rw[hf]at hl;cases hl
  have lr:l≠r:=by rintro rfl;rw[L]at c8;cases c8
  generalize Al (Al J f<|.lst []) r (.dk [])=μ2 at S2 ef2 yx cw;clear c8 ef S1;obtain⟨hG,hGl⟩:=hB (s,x);show Tv _ _ _ _ _ _ [oD d,oE (s:Nat),oF<|Bc [x,y],oF<|.bool true,oD l,oD f,oD r,none,none] μ2;have eq:Ik T s [x,y]=(T (s,x)).flatMap λp=>(UL T y p.2).map λq=>(p.1+q.1,q.2):=rfl;rw[eq]at q;generalize T (s,x)=G at hG hGl q cw;refine Ax (λτ B=>∃o7 o8,∃O:oA Pr,τ=[oD d,oE (s:Nat),oF<|Bc [x,y],oF<|.bool true,oD l,oD f,oD r,o7,o8]/\B f=oG (O.map A4)/\Cw (G.flatMap λp=>(UL T y p.2).map λq=>(p.1+q.1,q.2)) O/\O.length<=1024/\Sub μ B) (λZ hZ=>?_) ?_
  ·refine Ac (Ao cw) ?_;refine Cp (λi τ B=>∃o7 o8,∃(O:oA Pr) (kvs:oA<|Key×AV),τ=[oD d,oE (s:Nat),oF<|Bc [x,y],oF<|.bool true,oD l,oD f,oD r,o7,o8]/\B f=oG (O.map A4)/\B r=some (.dk kvs)/\B l=oG (G.map A4)/\Cw ((G.take i).flatMap λp=>(UL T y p.2).map λq=>(p.1+q.1,q.2)) O/\O.length<=32*i/\kvs.length<=i/\SJ T y f r kvs B/\Sub μ B) ⟨none,none,[],[],rfl,ef2,yx,cw,⟨(λ_ h=>nomatch h),(λ_ h=>nomatch h),(λ_ h=>nomatch h)⟩,F_ _,F_ _,(λ_ _ h=>nomatch h),S2⟩ (by rintro _ _ _ ⟨_,_,_,_,_,_,_,e,_⟩;exact Ao e) ?_ ?_
   ·rintro i v τ μ3 Z2 hv ⟨o7,o8,O,kvs,rfl,e3f,e3r,e3l,hm,kc,bx,hR,S3⟩ hZ2;rw[L_]at hv;obtain⟨⟨c,b⟩,hp,rfl⟩:=G_.mp hv;have hb:b<32:=hGl _<|W_ hp;have hi:=(E_.mp hp).1;refine⟨rfl,Ot ?_⟩;dsimp only[List.set];refine Ax (λτ B=>∃(kvs:oA<|Key×AV) (v:AV),τ=[oD d,oE (s:Nat),oF<|Bc [x,y],oF<|.bool true,oD l,oD f,oD r,oE (c:Nat),oE (b:Nat)]/\B f=oG (O.map A4)/\B r=some (.dk kvs)/\B l=oG (G.map A4)/\Cl kvs (.inl (b:Nat))=some v/\kvs.length<=i+1/\SJ T y f r kvs B/\Sub μ B) (λZ3 bu=>?_) ?_
    ·refine Ac e3r<|Ac (x:=Cl kvs<|.inl (b:Nat)) rfl ?_;cases hv:Cl kvs (.inl (b:Nat)) with
     |some v=>exact O8 rfl (bu _ _ ⟨kvs,v,rfl,e3f,e3r,e3l,hv,bB bx,hR,S3⟩)
     |none=>
      refine Pl rfl ⟨b,rfl,hb,λI S4=>Ac (Bo _) λY M=>?_⟩;have hTB:TopK I d T:=hT.sub λb m hb=>S4 b m<|S3 b m hb;have h5:(Bz b).length<=5:=K_ (bU _ _) (by rw[bR];exact F_ _);refine E9 (λi V τ' B=>∃o,∃ps:oA lF,τ'=[o,oD d,oF<|Bc [x,y]]/\V=ps.map .R/\ps.length=i/\(∀(j:Nat) p t,ps[j]?=some p->(Bz b)[j]?=some t->p≠Y/\B p=oG ((T (t,y)).map A4))/\B Y=oG V/\Sub I B) ⟨none,[],rfl,rfl,rfl,(λ_ _ _ h=>nomatch h),Ab,Sub.refl.new M⟩ (λ_ _ _ _ _=>Bo _) ?_ ?_;rintro j0 v V τ' μ5 W hv' ⟨o,ps,rfl,rfl,ag,fy,e5,U⟩ hW;rw[L_]at hv';obtain⟨t,bd,rfl⟩:=G_.mp hv';have hj5:=(E_.mp bd).1;refine Pl rfl (Hf hTB U t y (λQ h=>h) (λQ h=>Ac (x:=PyData.int (y:Nat)) rfl h) λl5 μ6 kb S6 ho=>⟨S6 _ _ e5,A5<|by rw[B_];omega,hW _ _ _ ⟨_,ps++[l5],rfl,by rw[N_];rfl,by rw[P_,ag];rfl,?_,Ab,λb m hb=>?_⟩⟩);have am:l5≠Y:=by rintro rfl;rcases ho with h|h;exact h M;rw[e5]at h;cases h
      intro j p t' h1 h2;rcases cU j ps.length with h|h;rw[dC h]at h1;obtain⟨n,e⟩:=fy j p t' h1 h2;exact⟨n,by rw[Ae n];exact S6 _ _ e⟩;rw[cH h]at h1;have h3:=(E_.mp h1).1;rw[iR]at h3;have h4:j=j0:=by omega
      rw[show j-ps.length=0 by omega]at h1;have h6:l5=p:=bA h1;rw[h4,bd]at h2;have h7:t=t':=bA h2;rw[<- h6,<- h7];exact⟨am,by rw[Ae am];exact kb⟩;rw[Ae<|by rintro rfl;rw[M]at hb;cases hb];exact S6 _ _<|U _ _ hb;rintro V τ' μ5 ⟨o,ps,rfl,rfl,ag,fy,e5,U⟩;rw[B_]at ag;refine⟨.R Y,ps,(Bz b).map λt=>T (t,y),rfl,Ao e5,⟨by rw[B_];exact ag,λj p g h1 h2=>?_⟩,λG' xx=>?_,λus l6 μ6 C6 hl6 e6 S6=>?_⟩;rw[L_]at h2;obtain⟨t,h3,rfl⟩:=G_.mp h2;exact(fy j p t h1 h3).2;obtain⟨t,_,rfl⟩:=D_.mp xx;exact hB (t,y);have S36:Sub μ3 μ6:=λb m hb=>S6 _ _<|U _ _<|S4 _ _ hb;have lf6:l6≠f:=by rintro rfl;rw[U _ _<|S4 _ _ e3f]at hl6;cases hl6
      have z9:l6≠r:=by rintro rfl;rw[U _ _<|S4 _ _ e3r]at hl6;cases hl6
      have ff:=Zd kvs (.inl (b:Nat))<|.R l6;refine Ac (S36 _ _ e3r) (Ac (x:=MO.dk<|Ek kvs (.inl (b:Nat))<|.R l6) rfl ⟨A5<|show kvs.length<=_ by omega,bu _ _ ⟨Ek kvs (.inl (b:Nat))<|.R l6,.R l6,rfl,by rw[Ae fr];exact S36 _ _ e3f,Ab,by rw[Ae lr];exact S36 _ _ e3l,by rw[Og,T_ rfl],by omega,λk v hk=>?_,λb m hb=>?_⟩⟩);rw[Og]at hk;by_cases e:(Sum.inl (k:Int):Key)=.inl (b:Int);rw[T_ e]at hk;have e:k=b:=fS<|iC e;subst e;exact⟨l6,us,(bA hk).symm,lf6,z9,by rw[Ae z9];exact e6,C6⟩;rw[M_ e]at hk;obtain⟨a,ys,rfl,af,ar,ea,X⟩:=hR _ _ hk;exact⟨a,ys,rfl,af,ar,by rw[Ae ar];exact S36 _ _ ea,X⟩;rw[Ae<|by rintro rfl;rw[r0]at hb;cases hb];exact S36 _ _<|S3 _ _ hb
    clear bx hR;rintro τ I ⟨kvs,v,rfl,e4f,e4r,e4l,hv,bx,hR,S4⟩;obtain⟨a,ys,rfl,af,ar,ea,X⟩:=hR _ _ hv;have hyl:=X.len;refine⟨Ac e4f trivial,Ac e4r<|Ac (x:=some<|AV.R a) (by show some (Cl kvs<|.inl (b:Nat))=_;rw[hv])<|Ac (x:=AV.R a) rfl<|Ac (Ao ea) λY M=>?_⟩;have pa:a≠Y:=by rintro rfl;rw[M]at ea;cases ea
    have pf:f≠Y:=by rintro rfl;rw[M]at e4f;cases e4f
    have p0:μ Y=none:=S4.none M;refine cmap ys A4 (λq=>A4 (c+q.1,q.2)) (λτ=>∃o1 o2,τ=[o1,o2,oE (c:Nat)]) ⟨none,none,rfl⟩ Ab (seven<|by omega) (λV=>Ao<|by rw[Bl,Ae pa];exact ea) ?_ ?_;rintro j ⟨c2,b2⟩ τ' V W hq ⟨o1,o2,rfl⟩ hW;refine⟨rfl,Ot ?_⟩;exact hW _ ⟨_,_,rfl⟩;rw[Bl];have U:Sub I (Al I Y<|.lst<|ys.map λq=>A4 (c+q.1,q.2)):=Sub.refl.new M;have e5:Al I Y (.lst<|ys.map λq=>A4 (c+q.1,q.2)) Y=oG (ys.map λq=>A4 (c+q.1,q.2)):=Ab;generalize Al I Y (.lst<|ys.map λq=>A4 (c+q.1,q.2))=μ5 at U e5;have be:G.take (i+1)=G.take i++[(c,b)]:=by rw[aO,hp];rfl
    refine Ac (U _ _ e4f) (Ac e5 ⟨dD<|LH<|by rw[B_,B_];omega,hZ2 _ _ ⟨_,_,O++ys.map (λq=>(c+q.1,q.2)),kvs,rfl,?_,by rw[Ae fr.symm];exact U _ _ e4r,by rw[Ae lf];exact U _ _ e4l,?_,by rw[P_,B_];omega,bx,λk v hk=>?_,λb m hb=>?_⟩⟩);rw[Ab,N_,aD];rfl;rw[be,jS,List.flatMap_singleton];exact hm.app<|X.up c;obtain⟨a,ys,rfl,af,ar,ea,X⟩:=hR _ _ hk;exact⟨a,ys,rfl,af,ar,by rw[Ae af];exact U _ _ ea,X⟩;rw[Ae<|by rintro rfl;rw[f0]at hb;cases hb];exact U _ _<|S4 _ _ hb
   rintro τ μ3 ⟨o7,o8,O,kvs,rfl,e3f,e3r,e3l,hm,kc,bx,hR,S3⟩;rw[B_]at hm kc;rw[aK]at hm;exact hZ _ _ ⟨_,_,O,rfl,e3f,hm,by omega,S3⟩
  rintro τ μ3 ⟨o7,o8,O,rfl,e3,hm,kc,S3⟩;exact⟨f,O,rfl,e3,by omega,hm.b,λus p I C4 hp e4 S4=>⟨_,Sub.refl,q us p I (hm.thin C4) (S3.none hp) e4 λb m hb=>S4 b m<|S3 b m hb⟩⟩
theorem Zz:∀{Gs a:oA<|oA Pr} {F F':oA Pr},Paired (λb P=>Cv P b) Gs a->(∀z∈F,z∈F')->∀z∈Gs.foldl (λF G=>F.flatMap λp=>G.map<|ewe p) F,z∈a.foldl (λF G=>F.flatMap λp=>G.map<|ewe p) F'
 |_,_,_,_,.nil,h=>h
 |_,_,_,_,.cons r t,h=>by rw[fA,fA];refine Zz t λz hz=>?_;obtain⟨p,hp,hz⟩:=bT.mp hz;obtain⟨o,c,rfl⟩:=D_.mp hz;exact bT.mpr ⟨p,h p hp,D_.mpr ⟨o,r.m o c,rfl⟩⟩
theorem Z0:∀{Gs b:oA<|oA Pr} {F F':oA Pr},Paired (λi P=>Cv P i) Gs b->(∀y∈F',∃z∈F,Wn z y)->∀y∈b.foldl (λF G=>F.flatMap λp=>G.map<|ewe p) F',∃z∈Gs.foldl (λF G=>F.flatMap λp=>G.map<|ewe p) F,Wn z y
 |_,_,_,_,.nil,h=>h
 |_,_,_,_,.cons r t,h=>by rw[fA,fA];refine Z0 t λy hy=>?_;obtain⟨p,hp,hy⟩:=bT.mp hy;obtain⟨o,j,rfl⟩:=D_.mp hy;obtain⟨e,g,k⟩:=h p hp;obtain⟨d,a,l⟩:=r.c o j;exact⟨ewe e d,bT.mpr ⟨e,g,D_.mpr ⟨d,a,rfl⟩⟩,Zu k l⟩
def LU{Gs d:oA<|oA Pr}(h:Paired (λa P=>Cv P a) Gs d){a:oA Pr}(C:Cv (cho Gs) a):Cv (cho d) a:=by refine⟨λz hz=>?_,λy hy=>?_,C.u,C.b⟩;exact Zz h (F:=[(0,0)]) (F':=[(0,0)]) (λz hz=>hz) z<|C.m z hz;obtain⟨u,hu,e⟩:=Z0 h (F:=[(0,0)]) (F':=[(0,0)]) (λz hz=>⟨z,hz,Wn.refl z⟩) y hy;obtain⟨z,hz,g⟩:=C.c u hu;exact⟨z,hz,g.trans e⟩
theorem Sq:∀{Gs a:oA<|oA Pr},Paired (λd P=>Cv P d) Gs a->Cw a.flatten Gs.flatten
 |_,_,.nil=>⟨(λ_ h=>nomatch h),(λ_ h=>nomatch h),(λ_ h=>nomatch h)⟩
 |_,_,.cons r t=>by rw[kJ,kJ];exact Cw.app ⟨r.m,r.c,r.b⟩<|Sq t
def FA{Gs d:oA<|oA Pr}(h:Paired (λa P=>Cv P a) Gs d){a:oA Pr}(C:Cv Gs.flatten a):Cv d.flatten a:=by have k:=Sq h;refine⟨λz hz=>?_,λy hy=>?_,C.u,C.b⟩;exact k.m z<|C.m z hz;obtain⟨u,hu,e⟩:=k.c y hy;obtain⟨z,hz,g⟩:=C.c u hu;exact⟨z,hz,g.trans e⟩
def up1(z:Pr):Pr:=(z.1+1,z.2)
def Cv.up1{P a:oA Pr}(h:Cv P a):Cv (P.map up1) (a.map up1):=by refine⟨λz hz=>?_,λy hy=>?_,by rw[aD];exact h.u,λz hz=>?_⟩;obtain⟨u,hu,rfl⟩:=D_.mp hz;exact D_.mpr ⟨u,h.m u hu,rfl⟩;obtain⟨u,hu,rfl⟩:=D_.mp hy;obtain⟨z,hz,e⟩:=h.c u hu;exact⟨_,D_.mpr ⟨z,hz,rfl⟩,e⟩;obtain⟨u,hu,rfl⟩:=D_.mp hz;exact h.b u hu
structure GqOk(g:Gam):Prop where
 p:g.pl.length<=5
 r:g.rs.length<=8
 ok:∀r∈g.rs,r.p<g.pl.length/\r.q<5/\r.w.length<=2
structure FlwK(μ0 μ:M)(d:lF)(g:Gam)(G Pf:Tops)(kvs:oA<|(Nat×Nat)×lF):Prop where
 dd:μ d=some (.dt<|kvs.map kvT)
 ll:∀e∈kvs,μ e.2=oG ((Pf e.1).map A4)/\e.2≠d
 n:kvs.length<=9
 kk:∀k,(∃e∈kvs,e.1=k)↔rgp g.rs k≠[]
 uu:(kvs.map (·.1)).Nodup
 pf:∀e∈kvs,Cv ((Fc g G e.1).map up1) (Pf e.1)
 nd:μ0 d=none
 ss:Sub μ0 μ
abbrev YO:oA Str:=["game","tops","least","found","top","rules","groups","chosen"]
def Vh:FnScope YO qK (Ah QH):=Bt<|by decide +kernel
def SN:(["rule","tops","least"]:oA Str).Nodup:=by decide +kernel
def GR:(qB:oA Str).Nodup:=by decide +kernel
def LW:ASp:=λh e R=>∃(g:Gam) (d:lF) (G:Tops),h=[.D<|Ch g,.R d,.D<|.bool true]/\GqOk g/\TopK e d G/\Q3 G/\∀c i b a,FlwK e a c g G i b->R (.R c) a
def SO{n:Nat}(F:Fun K "following" "following" QH f fd) (cRt:VCal P w K mg base n "rules_by_top" ["game"] SH) (cRb:VCal P w K mg base n "readings_by" qJ SL) (wa:VCal P w K mg base n "one_of_each" oM LN) (cOa:VCal P w K mg base n "one_of_any" oM SD) {t1:Tok} (xo:mg "OTHER_HAND" = some (.int 1 t1)):FnOk P w K mg base Dx (n+1) f fd qK (E8 K 3 LW):=by
 refine F.vok Vh λaq A outer s H E hr=>⟨_,(Af (Ap (i:=3) Vh.nd rfl oH Ew)<|Af (Ha aF rfl (Am cRt hr rfl<|Aa (vv 0) Ad) (Au (Ak (i:=4) Vh.nd rfl oH)<|Au (Ak (i:=5) Vh.nd rfl oH) B8)<|Af (Fu (i:=6) (N':=["rule","tops","least"]) (mp:=[none,some 1,some 2]) rfl Vh.nd rfl rfl (Bd<|vv 5) (λ_ _ _ _=>(Ak (i:=0) SN rfl oH oI)) (λ_ _ _ _=>Br) (λ_ _ _ _=>(Am cRb hr rfl<|Aa (vv 1)<|Aa (Bk Cb (vv 0) Ai)<|Aa (Bk Cb (vv 0) Ai)<|Aa (vv 2) Ad))<|Av (N:=YO) (pn:=(Ah QH).names)<|by decide +kernel)<|Af (Ap (i:=7) Vh.nd rfl oH<|M8 (Bg (Hm hr) (Bk Cb (Bk Cb (Bk Cb (vv 0) Ai)<|Bk Cb (vv 4) Ai) Ai) (CC rfl xo (v:=.int 1) ⟨_,rfl⟩ λ_=>Dg)<|nomark _) (Am wa hr rfl<|Aa (vv 6)<|Aa (vv 2) Ad)<|Am cOa hr rfl<|Aa (vv 6)<|Aa (vv 2) Ad)<|Aj<|Da (B0 hr) (vv 3) (vv 4)<|Bm (N':=qB) (mp:=[none,none]) rfl (Bd<|vv 7) (λ_ _ _ _=>(D4 (n:=2) rfl<|Au (Ak (i:=0) GR rfl oH oI)<|Au (Ak (i:=1) GR rfl oH oI) B8)) (λ_ _ _ _=>Br) (λ_ _ _ _=>(Bn<|Aa (A6 B7 (vv 0) Ai)<|Aa (vv 1) Ad))<|Av (N:=YO) (pn:=(Ah QH).names)<|by decide +kernel)<|Aj<|A8<|vv 3),?_⟩
 rintro xs μ R _ ⟨g,d,G,rfl,hg,hT,hB,q⟩;have ni:=hg.p;have xy:=hg.r;intro f hf;refine Ax (λI t=>∃o4 o5 o6 o7 a X,I=[oF<|Ch g,oD d,oF<|.bool true,oD f,o4,o5,o6,o7]/\FlwK μ t f g G X a) (λZ hZ=>?_) ?_;refine⟨g,rfl,by omega,λdR Y O T=>Ac T.dd ?_⟩;have Sf:Sub μ (Al μ f<|.dt []):=Sub.refl.new hf;have dR0:μ dR=none:=Sf.none T.fd;have fR:f≠dR:=by rintro rfl;have:=T.fd;rw[Ab]at this;cases this
 have S1:Sub μ (Ca O dR):=λb m hb=>by rw[A7<|by rintro rfl;rw[dR0]at hb;cases hb];exact T.ss _ _<|Sf _ _ hb
 have ef:Ca O dR f=some (.dt<|([]:oA<|(Nat×Nat)×lF).map kvT):=by rw[A7 fR];exact T.ss _ _ Ab
 have eR:∀e∈Y,Ca O dR e.2=oG ((rgp g.rs e.1).map Di)/\e.2≠f:=λe he=>by obtain⟨h1,h2⟩:=T.fe e he;refine⟨by rw[A7 h2];exact T.ll e he,λz=>?_⟩;rw[z,Ab]at h1;cases h1
 have bx:Y.length<=8:=by
  have:=Eg (xs:=Y.map (·.1)) (ys:=g.rs.map λr=>(r.p,r.x)) T.uu λk hk=>by obtain⟨e,he,rfl⟩:=D_.mp hk;have h1:=(T.kk e.1).mp ⟨e,he,rfl⟩;obtain⟨r,h2⟩:=dP _ h1;obtain⟨h3,h4⟩:=bJ.mp h2;refine D_.mpr ⟨r,h3,?_⟩;unfold Fz at h4;rw[aY,bV,bV]at h4;exact lB h4.1 h4.2
  rw[B_,B_]at this;exact K_ this xy
 refine Jx (λi I t=>∃o4 o5 o6 o7 a X,I=[oF<|Ch g,oD d,oF<|.bool true,oD f,o4,o5,o6,o7]/\t f=some (.dt<|a.map kvT)/\(∀e∈a,t e.2=oG ((X e.1).map A4)/\e.2≠f)/\a.map (·.1)=(Y.take i).map (·.1)/\(∀e∈a,Cv ((Fc g G e.1).map up1)<|X e.1)/\(∀e∈Y,t e.2=oG ((rgp g.rs e.1).map Di))/\Sub μ t) ⟨none,none,none,none,[],λ_=>[],rfl,ef,(λ_ h=>nomatch h),rfl,(λ_ h=>nomatch h),λe he=>(eR e he).1,S1⟩ ?_ ?_;rintro i v I S W hv ⟨o4,o5,o6,o7,a,X,rfl,e2,hll,fk,cq,hRs,S2⟩ hW;rw[L_]at hv;obtain⟨e,he,rfl⟩:=G_.mp hv;have f7:=W_ he;have u0:=hRs e f7;dsimp only[Fe,D3,Nc,List.set,kvT];refine Ax (λI t=>∃M B Gs,I=[oF<|Ch g,oD d,oF<|.bool true,oD f,oF<|.tuple [.int (e.1.1:Nat),.int (e.1.2:Nat)],oD e.2,oD M,o7]/\t M=oG (B.map .R)/\GrAt t B Gs/\Paired (λu P=>Cv P u) Gs ((rgp g.rs e.1).map λr=>Ik G r.q r.w)/\(∀K∈Gs,K.length<=32/\∀p∈K,p.2<32)/\Sub S t) (λZ3 bu=>?_) ?_;have um:(rgp g.rs e.1).length<=8:=K_ (bU _ _) xy;refine Ac (Ao u0) λM hpl=>?_;have tq:e.2≠M:=by intro z;rw[z,hpl]at u0;cases u0
 refine E9 (λj U τ' t=>∃o,∃(B:oA lF) (Gs:oA<|oA Pr),τ'=[o,oD d,oF<|.bool true]/\U=B.map .R/\B.length=j/\Gs.length=j/\(∀(k:Nat) p G,B[k]?=some p->Gs[k]?=some G->p≠M/\t p=oG (G.map A4))/\Paired (λu P=>Cv P u) Gs (((rgp g.rs e.1).take j).map λr=>Ik G r.q r.w)/\(∀K∈Gs,K.length<=32/\∀p∈K,p.2<32)/\t M=oG U/\t e.2=oG ((rgp g.rs e.1).map Di)/\Sub S t) ⟨none,[],[],rfl,rfl,rfl,rfl,(λ_ _ _ h=>by simp at h),.nil,(λ_ h=>nomatch h),Ab,by rw[Ae tq];exact u0,Sub.refl.new hpl⟩ (by rintro _ _ _ _ ⟨_,_,_,_,_,_,_,_,_,_,_,e3,_⟩;exact Ao e3) ?_ ?_;rintro j v U τ' μ3 W2 ip ⟨o,B,Gs,rfl,rfl,c8,cw,fy,hpr,J,e3,f3,S3⟩ hW2;rw[L_]at ip;obtain⟨r,ug,rfl⟩:=G_.mp ip;have hj:=(E_.mp ug).1;obtain⟨h1,_⟩:=bJ.mp<|W_ ug;obtain⟨_,hq5,hw2⟩:=hg.ok r h1;refine Pl rfl<|Ac (A0 (j:=2) rfl)<|Ac (A0 (j:=3) rfl) ⟨d,G,r.q,r.w,rfl,hT.sub<|S2.trans S3,hB,hq5,hw2,λu l L C hl e4 V=>?_⟩;have p7:l≠M:=by rintro rfl;rw[e3]at hl;cases hl
 refine⟨V _ _ e3,A5<|by rw[B_];omega,hW2 _ _ _ ⟨_,B++[l],Gs++[u],rfl,by rw[N_];rfl,by rw[P_,c8];rfl,by rw[P_,cw];rfl,λk p G k1 k2=>?_,?_,λG hG=>?_,Ab,by rw[Ae tq];exact V _ _ f3,(S3.trans V).new hpl⟩⟩;rcases cU k B.length with h|h;rw[dC h]at k1;rw[dC<|by omega]at k2;obtain⟨n1,n2⟩:=fy k p G k1 k2;exact⟨n1,by rw[Ae n1];exact V _ _ n2⟩;rw[cH h]at k1;rw[cH<|by omega]at k2;have h3:=(E_.mp k1).1;rw[iR]at h3;rw[show k-B.length=0 by omega]at k1;rw[show k-Gs.length=0 by omega]at k2;cases k1;cases k2;exact⟨p7,by rw[Ae p7];exact e4⟩;rw[aO,ug,N_];exact jH hpr C;rcases Q_.mp hG with h|h;exact J G h;rw[H_.mp h];exact⟨C.len,C.b⟩;rintro U τ' μ3 ⟨o,B,Gs,rfl,rfl,c8,cw,fy,hpr,J,e3,f3,S3⟩;rw[B_,aK]at hpr;exact bu _ _ ⟨M,B,Gs,rfl,e3,⟨by omega,λk p G h1 h2=>(fy k p G h1 h2).2⟩,hpr,J,S3⟩;rintro I μ3 ⟨M,B,Gs,rfl,e3,hGr,jm,J,S3⟩;have pq:e.1.1<g.pl.length:=by obtain⟨r,h2⟩:=dP _<|(T.kk e.1).mp ⟨e,f7,rfl⟩;obtain⟨h3,h4⟩:=bJ.mp h2;unfold Fz at h4;rw[aY,bV,bV]at h4;rw[<- h4.1];exact(hg.ok r h3).1
 have kg:atI (g.pl.map KU) ((e.1.1:Nat):Int)=some (KU g.pl[e.1.1]):=A0 (by rw[L_,J_ pq];rfl);have xb:hnd g e.1=(g.pl[e.1.1]).2:=by unfold hnd;rw[dL,L_,J_ pq];rfl
 have wy:Gs.length<=20:=by have h1:=bF jm;rw[B_]at h1;have:=bU (Fz e.1) g.rs;unfold rgp at h1;omega
 generalize g.pl[e.1.1]=pp at kg xb;refine Ax (λI t=>∃lc,∃u:oA Pr,I=[oF<|Ch g,oD d,oF<|.bool true,oD f,oF<|.tuple [.int (e.1.1:Nat),.int (e.1.2:Nat)],oD e.2,oD M,oD lc]/\t lc=oG (u.map A4)/\Cv (Fc g G e.1) u/\Sub μ3 t) (λZ3 bu=>?_) ?_;refine Ac (A0 (j:=0) rfl)<|Ac (A0 (j:=0) rfl)<|Ac kg<|Ac (A0 (j:=1) rfl)<|ieq (λc=>?_) λc=>?_;refine⟨.R M,B,Gs,rfl,Ao e3,hGr,J,λu l L C hl e4 V=>bu _ _ ⟨l,u,rfl,e4,?_,V⟩⟩;unfold Fc;rw[T_<|by rw[xb];omega];exact LU jm C;refine⟨.R M,B,Gs,rfl,Ao e3,hGr,wy,J,λu l L C hl e4 V=>bu _ _ ⟨l,u,rfl,e4,?_,V⟩⟩;unfold Fc;rw[M_<|by rw[xb];omega];exact FA jm C;rintro I L ⟨lc,u,rfl,e4,C,V⟩;have hz9:=C.len;have bp:∀y∈a,y.1≠e.1:=λy ax c=>by
  have h1:e.1∈(Y.take i).map (·.1):=by rw[<- fk,<- c];exact D_.mpr ⟨y,ax,rfl⟩
  have h2:((Y.take<|i+1).map (·.1)).Nodup:=T.uu.sublist<|(eY _ _).map _;rw[aO,he,N_,aX]at h2;exact h2.2.2 _ h1 e.1 (by simp) rfl
 refine Ac (Ao e4) λpn ff=>?_;have z7:lc≠pn:=by rintro rfl;rw[e4]at ff;cases ff
 have S24:=S3.trans V;have ve:S pn=none:=S24.none ff;have pnf:pn≠f:=by rintro rfl;rw[e2]at ve;cases ve
 refine cmap u A4 (λz=>A4 (z.1+1,z.2)) (λI=>∃o1 o2,I=[o1,o2]) ⟨none,none,rfl⟩ Ab (seven<|by omega) (λ_=>Ao<|by rw[Ae z7,Ae z7];exact e4) ?_ ?_;rintro j ⟨c,b⟩ τ' U W2 hj ⟨o1,o2,rfl⟩ hW2;exact⟨rfl,Ot<|hW2 _ ⟨_,_,rfl⟩⟩;have S5:Sub S (Al (Al L pn<|.lst []) pn<|.lst<|u.map λz=>A4 (z.1+1,z.2)):=(S24.new ve).new ve;have e5:Al (Al L pn<|.lst []) pn (.lst<|u.map λz=>A4 (z.1+1,z.2)) pn=oG (u.map λz=>A4 (z.1+1,z.2)):=Ab;generalize Al (Al L pn<|.lst []) pn (.lst<|u.map λz=>A4 (z.1+1,z.2))=μ5 at S5 e5;have ep:dput (.dt<|a.map kvT) (.tuple [.int (e.1.1:Nat),.int (e.1.2:Nat)]) (.R pn)=some (.dt<|(a++[(e.1,pn)]).map kvT):=by rw[<- Fy bp];rfl
 have zac:a.length<=8:=by have:=bO List.length fk;rw[B_,B_,bI]at this;omega
 refine Ac (S5 _ _ e2) (Ac ep ⟨A5<|show(a.map kvT).length<=1000 by rw[B_];omega,hW _ _ ⟨_,_,_,_,a++[(e.1,pn)],λk=>if k=e.1 then u.map up1 else X k,rfl,Ab,λy ax=>?_,?_,λy ax=>?_,λy ax=>?_,(S2.trans S5).new hf⟩⟩);rcases Q_.mp ax with h|h;obtain⟨h1,h2⟩:=hll y h;dsimp only;rw[M_<|bp y h,Ae h2];exact⟨S5 _ _ h1,h2⟩;rw[H_.mp h];dsimp only;rw[T_ rfl,Ae pnf];exact⟨by rw[e5,aD];rfl,pnf⟩;rw[N_,fk,aO,he,N_];rfl;rcases Q_.mp ax with h|h;dsimp only;rw[M_<|bp y h];exact cq y h;rw[H_.mp h];dsimp only;rw[T_ rfl];exact C.up1;rw[Ae (eR y ax).2];exact S5 _ _<|hRs y ax;rintro I S ⟨o4,o5,o6,o7,a,X,rfl,e2,hll,fk,cq,hRs,S2⟩;rw[B_,aK]at fk;have hlk:a.length=Y.length:=by have:=bO List.length fk;rwa[B_,B_]at this
 refine hZ _ _ ⟨_,_,_,_,a,X,rfl,⟨e2,hll,by omega,λk=>?_,by rw[fk];exact T.uu,cq,hf,S2⟩⟩;rw[<- T.kk k];constructor;rintro⟨e,he,rfl⟩;have:e.1∈Y.map (·.1):=by rw[<- fk];exact D_.mpr ⟨e,he,rfl⟩
 obtain⟨y,h1,h2⟩:=D_.mp this;exact⟨y,h1,h2⟩;rintro⟨e,he,rfl⟩;have:e.1∈a.map (·.1):=by rw[fk];exact D_.mpr ⟨e,he,rfl⟩
 obtain⟨y,h1,h2⟩:=D_.mp this;exact⟨y,h1,h2⟩;rintro I O ⟨o4,o5,o6,o7,a,X,rfl,Q⟩;exact⟨_,Sub.refl,q f X a O Q⟩
structure DcK(μ:M)(d:lF)(Pf:Tops)(kvs:oA<|(Nat×Nat)×lF):Prop where
 dd:μ d=some (.dt<|kvs.map kvT)
 ll:∀e∈kvs,μ e.2=oG ((Pf e.1).map A4)/\e.2≠d
 n:kvs.length<=20
 uu:(kvs.map (·.1)).Nodup
structure WtOk(G Pf:Tops)(kvs:oA<|(Nat×Nat)×lF)(Wf:Tops)(kw:oA<|(Nat×Nat)×lF):Prop where
 k:∀e∈kw,∃e'∈kvs,e'.1=e.1
 w:∀e∈kw,Wf e.1≠[]/\(Wf e.1).Sublist (Pf e.1)/\∀z∈Wf e.1,∀y∈G e.1,¬Wn y z
 c:∀e'∈kvs,∀z∈Pf e'.1,(∃y∈G e'.1,Wn y z)\/∃e∈kw,e.1=e'.1/\z∈Wf e.1
def TopK.del{a:M}{d f:lF}{G:Tops}(h:TopK a d G)(g:f≠d){kvs:oA<|oA Key×AV}(e:a f=some (.dt kvs)):TopK (Ca a f) d G:=by obtain⟨k,h1,h2,i,b⟩:=h.at';refine⟨k,by rw[A7 g.symm];exact h1,λx hx=>?_,i,b⟩;have:=h2 x hx;rw[A7 λc=>by rw[c,e]at this;cases this];exact this
abbrev YQ:oA Str:=["kept","found","waiting","top","pairs","lows","left"]
def Vi:FnScope YQ qL (Ah QJ):=Bt<|by decide +kernel
def GS:(qB:oA Str).Nodup:=by decide +kernel
def SQ:(["pair","lows"]:oA Str).Nodup:=by decide +kernel
def LX:ASp:=λi c R=>∃(dk b:lF) (G Pf:Tops) (kvs:oA<|(Nat×Nat)×lF),i=[.R dk,.R b]/\TopK c dk G/\Q3 G/\DcK c b Pf kvs/\(∀e∈kvs,(Pf e.1).length<=32/\∀z∈Pf e.1,z.2<32)/\b≠dk/\∀d g h a,DcK a d g h->WtOk G Pf kvs g h->c d=none->Sub (Ca c b) a->R (.R d) a
def SR{n:Nat}(F:Fun K "not_kept" "not_kept" QJ f fd) (vy:VCal P w K mg base n "has_within" qA LL) (ai:mg "len" = none):FnOk P w K mg base Dx (n+1) f fd qL (E8 K 2 LX):=by
 refine F.vok Vi λaq A outer s H E hr=>⟨_,(Af (Ap (i:=2) Vi.nd rfl oH Ew)<|Af (Ha aF rfl (vv 1) (Au (Ak (i:=3) Vi.nd rfl oH)<|Au (Ak (i:=4) Vi.nd rfl oH) B8)<|Af (Ap (i:=5) Vi.nd rfl oI<|Bm (N':=qB) (mp:=[none,none]) rfl (Bd<|G4 (B0 hr) (vv 0) (vv 3)<|B2 Ad) (λ_ _ _ _=>(D4 (n:=2) rfl<|Au (Ak (i:=0) GS rfl oH oI)<|Au (Ak (i:=1) GS rfl oH oI) B8)) (λ_ _ _ _=>Br) (λ_ _ _ _=>(vv 1))<|Av (N:=YQ) (pn:=(Ah QJ).names)<|by decide +kernel)<|Af (Fu (i:=6) (N':=["pair","lows"]) (mp:=[none,some 5]) rfl Vi.nd rfl rfl (Bd<|vv 4) (λ_ _ _ _=>(Ak (i:=0) SQ rfl oH oI)) (λ_ _ _ _=>(Dr<|Wr<|Lu<|Am vy hr rfl<|Aa (vv 1)<|Aa (Bk Cb (vv 0) Ai) Ad)) (λ_ _ _ _=>(vv 0))<|Av (N:=YQ) (pn:=(Ah QJ).names)<|by decide +kernel)<|Aj<|Dq (Bg Wu (Az C5 rfl ai bD<|Aa (vv 6) Ad) Ai<|nomark _) (Aj<|Da (B0 hr) (vv 2) (vv 3)<|vv 6) B4)<|Aj<|A8<|vv 2),?_⟩
 rintro xs μ R _ ⟨dk,J,G,M,t,rfl,hT,hB,D,hPB,ml,q⟩;intro L jo;have wf:L≠J:=by rintro rfl;rw[D.dd]at jo;cases jo
 have S0:Sub (Ca μ J) (Ca (Al μ L<|.dt []) J):=λb m hb=>by
  have ii:b≠J:=λz=>by rw[z]at hb;unfold Ca at hb;rw[T_ rfl]at hb;cases hb
  rw[A7 ii]at hb ⊢;rw[Ae<|by rintro rfl;rw[jo]at hb;cases hb];exact hb
 have hTd:=hT.del ml D.dd;have zad:=D.n;refine Ax (λτ d=>∃o3 o4 X U C p,τ=[oD dk,oD J,oD L,o3,o4,X,U]/\DcK d L C p/\WtOk G M t C p/\Sub (Ca μ J) d) (λZ hZ=>?_) ?_
 ·refine Ac (x:=MO.dt<|t.map kvT) (by rw[Ae wf.symm];exact D.dd) ?_;refine Jx (λi τ d=>∃o3 o4 X U C p,τ=[oD dk,oD J,oD L,o3,o4,X,U]/\p.length<=i/\DcK d L C p/\WtOk G M (t.take i) C p/\Sub (Ca μ J) d) ⟨none,none,none,none,λ_=>[],[],rfl,F_ _,⟨by rw[A7 wf];exact Ab,(λ_ h=>nomatch h),aJ _,a_⟩,⟨(λ_ h=>nomatch h),(λ_ h=>nomatch h),(λ_ h=>nomatch h)⟩,S0⟩ ?_ ?_
  ·rintro i v τ r W hv ⟨o3,o4,X,U,C,p,rfl,bx,B,I,T⟩ hW;rw[L_]at hv;obtain⟨e,he,rfl⟩:=G_.mp hv;have f7:=W_ he;have hi:=(E_.mp he).1;obtain⟨he1,hed⟩:=D.ll e f7;have eP:r e.2=oG ((M e.1).map A4):=T _ _ (by rw[A7 hed];exact he1);obtain⟨hg32,hgb⟩:=hB e.1;obtain⟨hp32,hpb⟩:=hPB e f7;have be:t.take (i+1)=t.take i++[e]:=by rw[aO,he];rfl
   have bp:∀g∈p,g.1≠e.1:=λg o c=>by obtain⟨e2,h1,h2⟩:=I.k g o;have S:((t.take<|i+1).map (·.1)).Nodup:=D.uu.sublist<|(eY _ _).map _;rw[be,N_,aX]at S;exact S.2.2 e2.1 (D_.mpr ⟨e2,h1,rfl⟩) e.1 (by simp)<|h2.trans c
   dsimp only[Fe,D3,Nc,List.set,kvT];refine Ax (λτ d=>∃O,τ=[oD dk,oD J,oD L,oF<|.tuple [.int (e.1.1:Nat),.int (e.1.2:Nat)],oD e.2,oD O,U]/\d O=oG (((G e.1).map (·.2)).map Bh)/\Sub r d) (λZ3 bu=>?_) ?_;dsimp only[Tw,Nf,JF];refine Hf (td:=Pm 0) (ty:=Pm 3) (τ:=[oD dk,oD J,oD L,oF<|.tuple [.int (e.1.1:Nat),.int (e.1.2:Nat)],oD e.2,X,U]) hTd T e.1.1 e.1.2 (λQ h=>h) (λQ h=>h) ?_;intro l μ2 hl Y _;refine Ac (Ao hl) λO wk=>?_;have llw:l≠O:=by rintro rfl;rw[hl]at wk;cases wk
   refine cmap (G e.1) A4 (λz=>Bh z.2) (λτ=>∃o1 o2,τ=[o1,o2]) ⟨none,none,rfl⟩ Ab (seven<|by omega) (λ_=>Ao<|by rw[Bl,Ae llw];exact hl) ?_ ?_;rintro j z τ' acc W2 hj ⟨o1,o2,rfl⟩ hW2;exact⟨rfl,Ot<|hW2 _ ⟨_,_,rfl⟩⟩;rw[Bl];exact bu _ _ ⟨O,rfl,by rw[Ab,aD];rfl,Y.new<|Y.none wk⟩;rintro τ μ2 ⟨O,rfl,e2,Y⟩;have vd:=Y _ _ eP;refine Ax (λτ d=>∃u,τ=[oD dk,oD J,oD L,oF<|.tuple [.int (e.1.1:Nat),.int (e.1.2:Nat)],oD e.2,oD O,oD u]/\d u=oG (((M e.1).filter λz=>!((G e.1).map (·.2)).any λl=>decide (l &&& z.2=l)).map A4)/\r u=none/\Sub r d) (λZ3 bu=>?_) ?_
   ·refine Ac (Ao vd) λu V=>?_;have l1:e.2≠u:=by intro c;rw[c,V]at vd;cases vd
    have l2:O≠u:=by rintro rfl;rw[e2]at V;cases V
    refine cmapf (M e.1) A4 (λz=>!((G e.1).map (·.2)).any λl=>decide (l &&& z.2=l)) A4 (λτ=>∃o1,τ=[o1,oD O]) ⟨none,rfl⟩ Ab (seven<|by omega) (λ_=>Ao<|by rw[Bl,Ae l1];exact vd) ?_ ?_
    ·rintro j z τ' acc W1 W2 hj ⟨o1,rfl⟩ w1 w2;refine Ac (x:=PyData.int (z.2:Nat)) (A0 (j:=1) rfl) ⟨O,(G e.1).map (·.2),z.2,rfl,by rw[Bl,Ae l2];exact e2,?_⟩;rw[Bl]at w1 w2 ⊢;cases hh:((G e.1).map (·.2)).any λl=>decide (l &&& z.2=l) with
     |true=>exact O8 rfl (w2 (by rw[hh];rfl) _ ⟨_,rfl⟩)
     |false=>exact Pl rfl<|w1 (by rw[hh];rfl) _ ⟨_,rfl⟩
    rw[Bl];exact bu _ _ ⟨u,rfl,Ab,Y.none V,Y.new<|Y.none V⟩
   rintro τ μ3 ⟨u,rfl,e3,V,S3⟩;have wj:∀z:Pr,(((G e.1).map (·.2)).any λl=>decide (l &&& z.2=l))=true↔∃y∈G e.1,Wn y z:=λz=>by rw[bP];constructor;rintro⟨b,hb,h⟩;obtain⟨y,hy,rfl⟩:=D_.mp hb;exact⟨y,hy,Mk.mp<|aG h⟩;rintro⟨y,hy,h⟩;exact⟨y.2,D_.mpr ⟨y,hy,rfl⟩,aW<|Mk.mpr h⟩
   have jr:∀z,z∈((M e.1).filter λz=>!((G e.1).map (·.2)).any λl=>decide (l &&& z.2=l))↔z∈M e.1/\¬ ∃y∈G e.1,Wn y z:=λz=>by rw[bJ,<- wj z,Bool.not_eq_true',Bool.not_eq_true]
   have kd:((M e.1).filter λz=>!((G e.1).map (·.2)).any λl=>decide (l &&& z.2=l)).Sublist (M e.1):=jT;generalize ((M e.1).filter λz=>!((G e.1).map (·.2)).any λl=>decide (l &&& z.2=l))=lf0 at e3 jr kd;have su:∀z∈M e.1,(∃y∈G e.1,Wn y z)\/z∈lf0:=λz hz=>(Classical.em (∃y∈G e.1,Wn y z)).imp id λh=>(jr z).mpr ⟨hz,h⟩;refine Ac e3<|dif (λc=>?_) λc=>?_;have am:lf0≠[]:=by rintro rfl;exact absurd c<|by decide
   have yw:u≠L:=by rintro rfl;rw[B.dd]at V;cases V
   have ep:dput (.dt<|p.map kvT) (.tuple [.int (e.1.1:Nat),.int (e.1.2:Nat)]) (.R u)=some (.dt<|(p++[(e.1,u)]).map kvT):=by rw[<- Fy bp];rfl
   refine Ac (S3 _ _ B.dd) (Ac ep ⟨A5<|show(p.map kvT).length<=1000 by rw[B_];omega,hW _ _ ⟨_,_,_,_,λk=>if k=e.1 then lf0 else C k,p++[(e.1,u)],rfl,by rw[P_];exact gS bx,⟨Ab,λg o=>?_,by rw[P_];show p.length+1<=20;omega,?_⟩,⟨λg o=>?_,λg o=>?_,λg o z hz=>?_⟩,Ea (T.trans S3)<|by rw[A7 wf];exact jo⟩⟩);rcases Q_.mp o with h|h;obtain⟨h1,h2⟩:=B.ll g h;rw[M_<|bp g h,Ae h2];exact⟨S3 _ _ h1,h2⟩;rw[H_.mp h];rw[T_ rfl,Ae yw];exact⟨e3,yw⟩;rw[N_,aX];refine⟨B.uu,by simp,λx hx y hy c2=>?_⟩;obtain⟨g,o,rfl⟩:=D_.mp hx;have hy:y=e.1:=by simpa using hy
   exact bp g o<|c2.trans hy
   rw[be];rcases Q_.mp o with h|h;obtain⟨g9,h1,h2⟩:=I.k g h;exact⟨g9,aE _ h1,h2⟩;rw[H_.mp h];exact⟨e,by simp,rfl⟩;rcases Q_.mp o with h|h;rw[M_<|bp g h];exact I.w g h;rw[H_.mp h];rw[T_ rfl];exact⟨am,kd,λz hz y hy hw=>((jr z).mp hz).2 ⟨y,hy,hw⟩⟩;rw[be]at o;rcases Q_.mp o with h|h;refine(I.c g h z hz).imp id λ⟨g9,h1,h2,S⟩=>⟨g9,aE _ h1,h2,?_⟩;rw[M_<|bp g9 h1];exact S;rw[H_.mp h]at hz ⊢;refine(su z hz).imp id λS=>⟨(e.1,u),by simp,rfl,?_⟩;rw[T_ rfl];exact S
   ·have wq:lf0=[]:=by
     cases lf0 with
     |nil=>rfl
     |cons a l=>exact absurd (show(0:Int)<(((a::l).map A4).length:Nat) from by rw[B_,aZ];omega) c
    refine hW _ _ ⟨_,_,_,_,C,p,rfl,bB bx,⟨S3 _ _ B.dd,λg o=>⟨S3 _ _ (B.ll g o).1,(B.ll g o).2⟩,B.n,B.uu⟩,⟨λg o=>?_,I.w,λg o z hz=>?_⟩,T.trans S3⟩;rw[be];obtain⟨g9,h1,h2⟩:=I.k g o;exact⟨g9,aE _ h1,h2⟩;rw[be]at o;rcases Q_.mp o with h|h;exact I.c g h z hz;rw[H_.mp h]at hz ⊢;refine(su z hz).imp id λS=>?_;rw[wq]at S;cases S
  rintro τ r ⟨o3,o4,X,U,C,p,rfl,bx,B,I,T⟩;rw[B_,aK]at I;exact hZ _ _ ⟨_,_,_,_,C,p,rfl,B,I,T⟩
 rintro τ r ⟨o3,o4,X,U,C,p,rfl,B,I,T⟩;exact⟨_,Sub.refl,q L C p r B I jo T⟩
theorem Le(p:Ar->Bool):∀A:oA Ar,(A.filter p).length+(A.filter λa=>!p a).length=A.length
 |[]=>rfl
 |a::A=>by have:=Le p A;cases h:p a<;>simp[List.filter_cons,h]<;>omega
def Z1{A:oA Ar}{k l:Nat×Nat}(h:l≠k):grp (A.filter λa=>!Eh k a) l=grp A l:=by
 unfold grp;rw[List.filter_filter];congr 1;refine List.filter_congr λa _=>?_;cases c:Eh l a
 rfl
 have e:l=(a.p,a.x):=aL λz=>by rw[Mm z]at c;cases c
 rw[Mm (a:=a) (k:=k) λz=>h<|e.trans z.symm];rfl
theorem Sr:∀{ks:oA<|Nat×Nat} {A:oA Ar},ks.Nodup->(ks.map λk=>(grp A k).length).sum<=A.length
 |[],_,_=>aJ _
 |k::ks,A,h=>by
  rw[cB]at h;have e:(ks.map λl=>(grp A l).length)=ks.map λl=>(grp (A.filter λa=>!Eh k a) l).length:=fD λl b=>by rw[Z1 λc=>h.1<|by rw[<- c];exact b]
  have:=Sr (ks:=ks) (A:=A.filter λa=>!Eh k a) h.2;have hp:=Le (Eh k) A;have d:(grp A k).length=(A.filter<|Eh k).length:=by unfold grp;rw[B_]
  rw[aP,gI,e];omega
def O2{P Q:oA Pr}(h:∀y∈P,∃z∈Q,Wn z y):Under P Q:=λy hy=>by obtain⟨z,hz,b⟩:=h y hy;exact⟨z,hz,λt a=>Ci.mpr ⟨(Ci.mp a).1,b t (Ci.mp a).2⟩⟩
def Under.more{P Q N:oA Pr}(h:Under P Q):Under P (Q++N):=λy hy=>by obtain⟨z,hz,hb⟩:=h y hy;exact⟨z,aE _ hz,hb⟩
structure More(g:Gam)(G N:Tops):Prop where
 k:∀k,N k≠[]->k.1<g.pl.length/\rgp g.rs k≠[]
 f:∀k,∀z∈N k,(∃y∈Fc g G k,y.2=z.2)/\z.2<32/\∀y∈G k,¬Wn y z
 u:∀k,((N k).map (·.2)).Nodup
def More.snd{g:Gam}(a:RgOk g){S:Nat->oA Nat->Prop}{G N:Tops}(h:O1 G<|LPre g S)(m:More g G N):O1 (λk=>G k++N k) (LPre g S):=λk p hp v hv=>by
 rcases Q_.mp hp with hp|hp;exact h k p hp v hv;obtain⟨⟨y,hy,e⟩,_,_⟩:=m.f k p hp;obtain⟨h1,h2⟩:=m.k k λz=>by rw[z]at hp;cases hp
 exact EW a h h1 h2 hy<|by rw[e];exact hv
def More.nd{g:Gam}{G N:Tops}(m:More g G N)(h:∀k,((G k).map (·.2)).Nodup)(k:Nat×Nat):((G k++N k).map (·.2)).Nodup:=by rw[N_,aX];refine⟨h k,m.u k,λa ha b hb e=>?_⟩;obtain⟨y,hy,rfl⟩:=D_.mp ha;obtain⟨z,hz,rfl⟩:=D_.mp hb;exact(m.f k z hz).2.2 y hy λt c=>by rw[<- e];exact c
def FB(l:oA Nat):Hv (l.map Bh)=some (l.map λ(n:Nat)=>(n:Int)):=by
 induction l with
 |nil=>rfl
 |cons n l a=>show(Hv<|l.map Bh).map _=_;rw[a];rfl
theorem O3:∀ns:oA Nat,(ns.map λ(n:Nat)=>(n:Int)).sum=((ns.sum:Nat):Int)
 |[]=>rfl
 |n::ns=>by rw[aP,gI,gI,O3 ns];rfl
abbrev ZF:oA Str:=oN
def YR:FnScope ZF oN (Ah UC):=Bt<|by decide +kernel
def SS:(oK:oA Str).Nodup:=by decide +kernel
def ST:ASp:=λc b R=>∃(d:lF) (G:Tops) (kvs:oA<|(Nat×Nat)×lF),c=[.R d]/\DcK b d G kvs/\(∀e∈kvs,(G e.1).length<=32)/\∀ a,Sub b a->R (.D<|.int ((kvs.map λe=>(G e.1).length).sum:Nat)) a
def SU{n:Nat}(F:Fun K "how_many" "how_many" UC f fd) (u:mg "sum" = none) (r:mg "len" = none):FnOk P w K mg base Dx (n+1) f fd oN (E8 K 1 ST):=by
 refine F.vok YR λJ A h s H E B=>⟨_,(Aj<|A8<|Az (PJ rfl) rfl u PyProof.Rows.boot_sum<|Aa (Oe (N':=oK) (mp:=[none]) rfl (vv 0) (λ_ _ _ _=>(Ak (i:=0) SS rfl oH oI)) (λ_ _ _ _=>Br) (λ_ _ _ _=>(Az C5 rfl r bD<|Aa (vv 0) Ad))<|Av (N:=ZF) (pn:=(Ah UC).names)<|by decide +kernel) Ad),?_⟩;rintro C I R _ ⟨d,G,a,rfl,D,hb,q⟩;refine Ac D.dd λp hp=>?_;have l:d≠p:=by rintro rfl;rw[D.dd]at hp;cases hp
 rw[show(a.map kvT).map (λx=>x.2)=a.map λe=>AV.R e.2 by rw[aD];rfl];have j:=D.n;refine cmap a (λe=>AV.R e.2) (λe=>.D<|.int ((G e.1).length:Nat)) (λv=>∃o,v=[o]) ⟨none,rfl⟩ Ab (seven<|by omega) (λ_=>trivial) ?_ ?_;rintro i e y k W he ⟨o,rfl⟩ hW;obtain⟨h1,h2⟩:=D.ll e<|W_ he;have t:e.2≠p:=λz=>by rw[z,hp]at h1;cases h1
 refine Ac (x:=MO.lst<|(G e.1).map A4) (by rw[Bl,Ae t,A7 h2];exact h1) ?_;show W _ (.D<|.int (((G e.1).map A4).length:Nat)) _;rw[B_];exact hW _ ⟨_,rfl⟩;refine Ac (x:=MO.lst<|(a.map λe=>(G e.1).length).map Bh) (by rw[Ae l.symm,Ab,aD];rfl) (Ac (FB _) ⟨⟨λn j=>?_,by rw[B_,B_];omega⟩,_,Sub.refl,?_⟩);obtain⟨m,c,rfl⟩:=D_.mp j;obtain⟨e,he,rfl⟩:=D_.mp c;have:=hb e he;omega;rw[O3];refine q _ λb m c=>?_;by_cases g:b=d;rw[g,Ab,<- c,g,D.dd];rw[Ae g,Ae (by rintro rfl;rw[hp]at c;cases c),Ae (by rintro rfl;rw[hp]at c;cases c),A7 g];exact c
structure Kpt(μ:M)(d:lF)(G:Tops)(kk:oA<|(Nat×Nat)×lF):Prop where
 D:DcK μ d G kk
 o:∀k,(∀e∈kk,e.1≠k)->G k=[]
 b:∀e∈kk,e.1.1<5/\e.1.2<4
def Kpt.top{a:M}{d:lF}{G:Tops}{b:oA<|(Nat×Nat)×lF}(h:Kpt a d G b):TopK a d G:=⟨b,h.D.dd,λe he=>(h.D.ll e he).1,h.o,h.D.uu⟩
def LY{ks:oA<|Nat×Nat}(h:ks.Nodup)(hb:∀k∈ks,k.1<5/\k.2<4):ks.length<=20:=by have:=Eg (ys:=(List.range 5).flatMap λi=>(List.range 4).map λj=>(i,j)) h λk hk=>bT.mpr ⟨k.1,bC.mpr (hb k hk).1,D_.mpr ⟨k.2,bC.mpr (hb k hk).2,rfl⟩⟩;exact this
def putK(kvs:oA<|(Nat×Nat)×lF)(k:Nat×Nat)(z:lF):oA ((Nat×Nat)×lF):=if ∃e∈kvs,e.1=k then kvs.map λe=>if e.1=k then(k,z) else e else kvs++[(k,z)]
def SV{kvs:oA<|(Nat×Nat)×lF}{k:Nat×Nat}{z:lF}:Ek (kvs.map kvT) [.inl (k.1:Nat),.inl (k.2:Nat)] (.R z)=(putK kvs k z).map kvT:=by unfold putK;split;rename_i h;obtain⟨e,he,rfl⟩:=h;unfold Ek;rw[T_<|bP.mpr ⟨kvT e,D_.mpr ⟨e,he,rfl⟩,aW rfl⟩,aD,aD];refine fD λx _=>?_;by_cases c:x.1=e.1;show ite _ _ _=kvT (ite _ _ _);rw[T_ c,T_<|by rw[<- c];rfl,<- c];rfl;show ite _ _ _=kvT (ite _ _ _);rw[M_ c];exact M_ λz=>c<|Ml z;rename_i h;exact Fy λe he c=>h ⟨e,he,c⟩
def put_mem{kvs:oA<|(Nat×Nat)×lF}{k:Nat×Nat}{z:lF}{e:(Nat×Nat)×lF}(h:e∈putK kvs k z):e=(k,z)\/(e∈kvs/\e.1≠k):=by unfold putK at h;split at h;obtain⟨x,hx,rfl⟩:=D_.mp h;by_cases c:x.1=k;rw[T_ c];exact .inl rfl;rw[M_ c];exact .inr ⟨hx,c⟩;rename_i a;rcases Q_.mp h with h|h;exact .inr ⟨h,λc=>a ⟨e,h,c⟩⟩;exact .inl<|H_.mp h
def put_keys{kvs:oA<|(Nat×Nat)×lF}{k:Nat×Nat}{z:lF}:(putK kvs k z).map (·.1)=kvs.map (·.1)\/(k∉kvs.map (·.1)/\(putK kvs k z).map (·.1)=kvs.map (·.1)++[k]):=by
 unfold putK;split;refine .inl ?_;rw[aD];refine fD λx _=>?_;show(ite _ _ _:(Nat×Nat)×lF).1=x.1;split;rename_i c;exact c.symm
 rfl
 rename_i a;refine .inr ⟨λz=>?_,by rw[N_];rfl⟩;obtain⟨e,he,c⟩:=D_.mp z;exact a ⟨e,he,c⟩
def FC{kvs:oA<|(Nat×Nat)×lF}{k:Nat×Nat}{z:lF}:k∈(putK kvs k z).map (·.1):=by rcases put_keys (kvs:=kvs) (k:=k) (z:=z) with h|h;unfold putK at h ⊢;split;rename_i a;obtain⟨e,he,rfl⟩:=a;rw[T_ ⟨e,he,rfl⟩]at h;rw[h];exact D_.mpr ⟨e,he,rfl⟩;rw[N_];exact aT _<|.head _;rw[h.2];exact aT _<|.head _
def Kpt.put{m:M}{d z:lF}{G p:Tops}{g:oA<|(Nat×Nat)×lF}{k:Nat×Nat}(h:Kpt m d G g)(hk:k.1<5/\k.2<4)(hz:m z=oG ((p k).map A4))(i:z≠d)(r:∀j,j≠k->p j=G j):Kpt (Al m d<|.dt<|(putK g k z).map kvT) d p (putK g k z):=by
 have hb:∀e∈putK g k z,e.1.1<5/\e.1.2<4:=λe he=>(put_mem he).elim (λc=>by rw[c];exact hk) λc=>h.b e c.1;have hu:((putK g k z).map (·.1)).Nodup:=by rcases put_keys (kvs:=g) (k:=k) (z:=z) with e|⟨n,e⟩;rw[e];exact h.D.uu;rw[e,aX];exact⟨h.D.uu,by simp,λa ha b hb c=>n<|by rw[<- H_.mp hb,<- c];exact ha⟩
 refine⟨⟨Ab,λe he=>?_,?_,hu⟩,λj hj=>?_,hb⟩;rcases put_mem he with rfl|⟨h1,h2⟩;exact⟨by rw[Ae i];exact hz,i⟩;obtain⟨v,s⟩:=h.D.ll e h1;exact⟨by rw[Ae s,r _ h2];exact v,s⟩;have:=LY hu λk hk=>by obtain⟨e,he,rfl⟩:=D_.mp hk;exact hb e he
 rwa[B_]at this;have l:j≠k:=λc=>by obtain⟨e,he,x⟩:=D_.mp<|FC (kvs:=g) (k:=k) (z:=z);exact hj e he<|x.trans c.symm
 rw[r j l];refine h.o j λe he c=>?_;have:e.1∈(putK g k z).map (·.1):=by rcases put_keys (kvs:=g) (k:=k) (z:=z) with q|⟨_,q⟩;rw[q];exact D_.mpr ⟨e,he,rfl⟩;rw[q];exact aE _<|D_.mpr ⟨e,he,rfl⟩
 obtain⟨y,u,t⟩:=D_.mp this;exact hj y u<|t.trans c
abbrev YS:oA Str:=["kept","waiting","pairs","cheapest","top"]
def FD:FnScope YS qM (Ah QI):=Bt<|by decide +kernel
def SW:(oK:oA Str).Nodup:=by decide +kernel
def SX:(["pair","cheapest"]:oA Str).Nodup:=by decide +kernel
structure Chp(Wf N:Tops)(kw:oA<|(Nat×Nat)×lF)(c:Nat):Prop where
 i:∀e∈kw,N e.1=(Wf e.1).filter λz=>decide (z.1=c)
 o:∀k,(∀e∈kw,e.1≠k)->N k=[]
def SY:ASp:=λl h R=>∃(dk g:lF) (G d:Tops) (j a:oA<|(Nat×Nat)×lF),l=[.R dk,.R g]/\Kpt h dk G j/\DcK h g d a/\a≠[]/\(∀e∈a,d e.1≠[])/\(∀e∈a,e.1.1<5/\e.1.2<4)/\Q3 G/\(∀e∈a,(d e.1).length<=32/\∀z∈d e.1,z.2<32)/\dk≠g /\
 ∀c N i b,(∃e∈a,∃z∈d e.1,z.1=c)->Chp d N a c->Kpt b dk (λk=>G k++N k) i->Sub (Ca (Ca h g) dk) b->R (.D .none) b
def SZ{n:Nat}(F:Fun K "keep_cheapest" "keep_cheapest" QI f fd) (gz:mg "min" = none):FnOk P w K mg base Dx (n+1) f fd qM (E8 K 2 SY):=by
 refine F.vok FD λaq A outer s H E hr=>⟨_,(Af (Ap (i:=3) FD.nd rfl oI<|Az (Yr hr rfl) rfl gz PyProof.Rows.boot_min<|Aa (Oe (N':=oK) (mp:=[none]) rfl (vv 1) (λ_ _ _ _=>(Ak (i:=0) SW rfl oH oI)) (λ_ _ _ _=>Br) (λ_ _ _ _=>(Bk Cb (Az (Yr hr rfl) rfl gz PyProof.Rows.boot_min<|Aa (vv 0) Ad) Ai))<|Av (N:=YS) (pn:=(Ah QI).names)<|by decide +kernel) Ad)<|Aj<|Ha aF rfl (vv 1) (Au (Ak (i:=4) FD.nd rfl oH)<|Au (Ak (i:=2) FD.nd rfl oH) B8)<|Aj<|Da (B0 hr) (vv 0) (vv 4)<|A6 B7 (G4 (B0 hr) (vv 0) (vv 4)<|B2 Ad)<|Bm (N':=["pair","cheapest"]) (mp:=[none,some 3]) rfl (Bd<|vv 2) (λ_ _ _ _=>(Ak (i:=0) SX rfl oH oI)) (λ_ _ _ _=>(Dr<|Bg (Hm hr) (Bk Cb (vv 0) Ai) (vv 1)<|nomark _)) (λ_ _ _ _=>(vv 0))<|Av (N:=YS) (pn:=(Ah QI).names)<|by decide +kernel),?_⟩
 rintro xs μ R _ ⟨dk,u,G,g,kk,U,rfl,T,D,am,hW0,hbw,hGB,hWB,jo,q⟩;refine Ax (λτ a=>∃c:Nat,τ=[oD dk,oD u,none,oE (c:Nat),none]/\Sub μ a/\∃e∈U,∃z∈g e.1,z.1=c) (λZ hZ=>?_) ?_;refine Ac D.dd λp hp=>?_;have yf:u≠p:=by rintro rfl;rw[D.dd]at hp;cases hp
 rw[show(U.map kvT).map (λx=>x.2)=U.map λe=>AV.R e.2 by rw[aD];rfl];have hn:=D.n;refine E9 (λi I τ a=>∃(o:oB AV) (S:oA Nat),τ=[o]/\I=S.map Bh/\S.length=i/\(∀c∈S,∃e∈U,∃z∈g e.1,z.1=c)/\a=Al (Ca μ u) p (.lst I)) ⟨none,[],rfl,rfl,rfl,(λ_ h=>nomatch h),rfl⟩ (λ_ _ _ _ _=>trivial) ?_ ?_;rintro i x I τ a W hx ⟨o,S,rfl,rfl,bn,fh,rfl⟩ hW;rw[L_]at hx;obtain⟨e,he,rfl⟩:=G_.mp hx;have V:=W_ he;obtain⟨h1,h2⟩:=D.ll e V;have ya:e.2≠p:=λz=>by rw[z,hp]at h1;cases h1
 refine Pl rfl (Ac (x:=MO.lst<|(g e.1).map A4) (by rw[Ae ya,A7 h2];exact h1)<|Ac (Ou _) ⟨⟨?_,λd J=>?_⟩,λd J _=>?_⟩);rw[B_];exact jQ.mpr<|hW0 e V;obtain⟨z,_,rfl⟩:=D_.mp J;exact⟨Ov z,λd J=>by obtain⟨y,_,rfl⟩:=D_.mp J;exact Sk z y⟩;obtain⟨z,hz,rfl⟩:=D_.mp J;refine Ac (x:=PyData.int (z.1:Nat)) (A0 (j:=0) rfl) ⟨Ab,by rw[B_,bn];exact R_ (E_.mp he).1<|K_ hn<|by decide,hW _ _ _ ⟨_,S++[z.1],rfl,by rw[N_];rfl,by rw[P_,bn];rfl,λc hc=>?_,Bl⟩⟩;rcases Q_.mp hc with hc|hc;exact fh c hc;exact⟨e,V,z,hz,(H_.mp hc).symm⟩;rintro I τ a ⟨o,S,rfl,rfl,bn,fh,rfl⟩;have hc0:0<S.length:=by rw[bn,B_];exact jQ.mpr am
 refine Ac (x:=MO.lst<|S.map Bh) (by rw[Ae yf.symm,Ab]) (Ac (D9 S) ⟨⟨by rw[B_];exact hc0,λd J=>?_⟩,λd J _=>?_⟩);obtain⟨c,_,rfl⟩:=D_.mp J;refine⟨Bw _,λd J=>?_⟩;obtain⟨c',_,rfl⟩:=D_.mp J;simp only[cmpb];obtain⟨c,hc,rfl⟩:=D_.mp J;refine hZ _ _ ⟨c,rfl,λb m hm=>?_,fh c hc⟩;by_cases ii:b=u;rw[ii,Ab,<- hm,ii,D.dd];rw[Ae ii,Ae (by rintro rfl;rw[hp]at hm;cases hm),A7 ii];exact hm;rintro τ μ1 ⟨c,rfl,S1,dg⟩;refine Ac (S1 _ _ D.dd) ?_;have S0:Sub (Ca (Ca μ u) dk) (Ca μ1 u):=λb m hb=>by
  have h1:b≠dk:=λz=>by rw[z]at hb;unfold Ca at hb;rw[T_ rfl]at hb;cases hb
  rw[A7 h1]at hb;have h2:b≠u:=λz=>by rw[z]at hb;unfold Ca at hb;rw[T_ rfl]at hb;cases hb
  rw[A7 h2]at hb ⊢;exact S1 _ _ hb
 have T0:Kpt (Ca μ1 u) dk (λk=>G k++[]) kk:=⟨⟨by rw[A7 jo];exact S1 _ _ T.D.dd,λe he=>?_,T.D.n,T.D.uu⟩,λk hk=>by rw[T.o k hk];rfl,T.b⟩;refine Jx (λi τ a=>∃o2 o4 N sx,τ=[oD dk,oD u,o2,oE (c:Nat),o4]/\Chp g N (U.take i) c/\Kpt a dk (λk=>G k++N k) sx/\Sub (Ca (Ca μ u) dk) a) ⟨none,none,λ_=>[],kk,rfl,⟨(λ_ h=>nomatch h),λ_ _=>rfl⟩,T0,S0⟩ ?_ ?_;rintro i v τ M W hv ⟨o2,o4,N,r,rfl,C,t,S2⟩ hW;rw[L_]at hv;obtain⟨e,he,rfl⟩:=G_.mp hv;have V:=W_ he;have be:U.take (i+1)=U.take i++[e]:=by rw[aO,he];rfl
 obtain⟨X,hed⟩:=D.ll e V;have hek:e.2≠dk:=λz=>by rw[z,T.D.dd]at X;cases X
 have eW:M e.2=oG ((g e.1).map A4):=S2 _ _ (by rw[A7 hek,A7 hed];exact X);have dk0:Ca (Ca μ u) dk dk=none:=T_ rfl;have bp:∀B∈U.take i,B.1≠e.1:=λB O c=>by have Y:((U.take<|i+1).map (·.1)).Nodup:=D.uu.sublist<|(eY _ _).map _;rw[be,N_,aX]at Y;exact Y.2.2 B.1 (D_.mpr ⟨B,O,rfl⟩) e.1 (by simp) c
 have hN:N e.1=[]:=C.o _ bp;dsimp only[Fe,D3,Nc,List.set,kvT,W9,MG,Nf,JF];refine Hf (td:=Pm 0) (ty:=Pm 4) (τ:=[oD dk,oD u,oD e.2,oE (c:Nat),oF<|.tuple [.int (e.1.1:Nat),.int (e.1.2:Nat)]]) t.top Sub.refl e.1.1 e.1.2 (λQ h=>h) (λQ h=>h) ?_;intro l L hl S3 _;have hl:L l=oG ((G e.1).map A4):=by rw[hl];show some (MO.lst<|(G e.1++N e.1).map A4)=_;rw[hN,cL]
 have uv:=S3 _ _ eW;obtain⟨hg32,hgb⟩:=hGB e.1;obtain⟨hw32,hwb⟩:=hWB e V;refine Ac (Ao uv) λp hp=>?_;have l1:e.2≠p:=by intro z;rw[z,hp]at uv;cases uv
 have l2:l≠p:=by rintro rfl;rw[hl]at hp;cases hp
 refine cmapf (g e.1) A4 (λz=>decide (z.1=c)) A4 (λτ=>∃o1,τ=[o1,oE (c:Nat)]) ⟨none,rfl⟩ Ab (seven<|by omega) (λ_=>Ao<|by rw[Bl,Ae l1];exact uv) ?_ ?_;rintro j z τ' I W1 W2 hj ⟨o1,rfl⟩ w1 w2;exact Ac (x:=PyData.int (z.1:Nat)) (A0 (j:=0) rfl)<|ieq (λe=>w1 (aW<|fS e) _ ⟨_,rfl⟩) λe=>w2 (aQ λh=>e<|bO Int.ofNat h) _ ⟨_,rfl⟩;rw[Bl];have ag:((g e.1).filter λz=>decide (z.1=c)).length<=32:=K_ (bU _ _) hw32;have S4:Sub M (Al L p<|.lst<|((g e.1).filter λz=>decide (z.1=c)).map A4):=S3.new<|S3.none hp;have e4:Al L p (.lst<|((g e.1).filter λz=>decide (z.1=c)).map A4) l=oG ((G e.1).map A4):=by rw[Ae l2];exact hl
 have p4:Al L p (.lst<|((g e.1).filter λz=>decide (z.1=c)).map A4) p=oG (((g e.1).filter λz=>decide (z.1=c)).map A4):=Ab;generalize Al L p (.lst<|((g e.1).filter λz=>decide (z.1=c)).map A4)=μ4 at S4 e4 p4;refine Ac e4 (Ac p4 ⟨by rw[B_,B_];exact seven<|by omega,λz hz=>?_⟩);have z2:=S4.none hz;have zd:z≠dk:=by rintro rfl;rw[t.D.dd]at z2;cases z2
 have S5:Sub M (Al μ4 z<|.lst<|(G e.1).map A4++((g e.1).filter λz=>decide (z.1=c)).map A4):=S4.new z2;have e5:Al μ4 z (.lst<|(G e.1).map A4++((g e.1).filter λz=>decide (z.1=c)).map A4) z=oG ((G e.1++(g e.1).filter λz=>decide (z.1=c)).map A4):=by rw[Ab,N_]
 generalize Al μ4 z (.lst<|(G e.1).map A4++((g e.1).filter λz=>decide (z.1=c)).map A4)=μ5 at S5 e5;have ep:dput (.dt<|r.map kvT) (.tuple [.int (e.1.1:Nat),.int (e.1.2:Nat)]) (.R z)=some (.dt<|(putK r e.1 z).map kvT):=by rw[<- SV];rfl
 have yb:=t.D.n;refine Ac (S5 _ _ t.D.dd) (Ac ep ⟨A5<|show(r.map kvT).length<=1000 by rw[B_];omega,hW _ _ ⟨_,_,λk=>if k=e.1 then(g e.1).filter (λz=>decide (z.1=c)) else N k,putK r e.1 z,rfl,⟨λB O=>?_,λk hk=>?_⟩,?_,Ea (S2.trans S5) dk0⟩⟩);rw[be]at O;rcases Q_.mp O with h|h;rw[M_<|bp B h];exact C.i B h;rw[H_.mp h,T_ rfl];rw[be]at hk;rw[M_ λz=>hk e (by simp) z.symm];exact C.o k λB O=>hk B<|aE _ O;refine Kpt.put (G:=λk=>G k++N k) ⟨⟨S5 _ _ t.D.dd,λB O=>⟨S5 _ _ (t.D.ll B O).1,(t.D.ll B O).2⟩,t.D.n,t.D.uu⟩,t.o,t.b⟩ (hbw e V) (by dsimp only;rw[T_ rfl];exact e5) zd λj hj=>by dsimp only;rw[M_ hj]
 rintro τ M ⟨o2,o4,N,r,rfl,C,t,S2⟩;rw[B_,aK]at C;exact⟨_,Sub.refl,q c N r M dg C t S2⟩;obtain⟨h1,h2⟩:=T.D.ll e he;have Y:=S1 _ _ h1;have h4:e.2≠u:=λz=>by rw[z,S1 _ _ D.dd]at Y;cases Y
 exact⟨by rw[A7 h4];show _=some (MO.lst<|(G e.1++[]).map A4);rw[cL];exact Y,h2⟩
def Cr(Pf:Nat×Nat->oA Pr)(kvs:oA<|(Nat×Nat)×lF):oA Ar:=kvs.flatMap λe=>(Pf e.1).map λz=>⟨e.1.1,e.1.2,Bz z.2,z.1⟩
theorem Ss{Pf:Nat×Nat->oA Pr}:∀{kvs:oA<|(Nat×Nat)×lF},(∀e∈kvs,(Pf e.1).length<=992)->(Cr Pf kvs).length<=992*kvs.length
 |[],_=>by simp[Cr]
 |e::kvs,h=>by have h1:=h e aS;have h2:=Ss (kvs:=kvs) λa he=>h a<|aH _ he;unfold Cr at h2 ⊢;rw[List.flatMap_cons,P_,B_,aZ];omega
abbrev ZG:oA Str:=["tops","arrows","top","pairs"]
def FE:FnScope ZG oN (Ah UD):=Bt<|by decide +kernel
def GT:(["cost","bits","top"]:oA Str).Nodup:=by decide +kernel
structure TopQ(μ:M)(d:lF)(Pf:Nat×Nat->oA Pr)(kvs:oA<|(Nat×Nat)×lF):Prop where
 dd:μ d=some (.dt<|kvs.map kvT)
 ll:∀e∈kvs,μ e.2=oG ((Pf e.1).map A4)/\e.2≠d/\(Pf e.1).length<=992/\∀z∈Pf e.1,z.2<32
 n:kvs.length<=20
def TB:ASp:=λb a R=>∃(d:lF) (Pf:Nat×Nat->oA Pr) (kvs:oA<|(Nat×Nat)×lF),b=[.R d]/\TopQ a d Pf kvs/\∀(l:lF) μ',a l=none->μ' l=oG ((Cr Pf kvs).map Sm)->Sub (Ca a d) μ'->R (.R l) μ'
def TC{n:Nat}(F:Fun K "as_arrows" "as_arrows" UD f fd) (yi:VCal P w K mg base n "as_stands" ["bits"] LG):FnOk P w K mg base Dx (n+1) f fd oN (E8 K 1 TB):=by
 refine F.vok FE λaq A X s H E hr=>⟨_,(Af (Ap (i:=1) FE.nd rfl oH<|B2 Ad)<|Af (Ha aF rfl (vv 0) (Au (Ak (i:=2) FE.nd rfl oI)<|Au (Ak (i:=3) FE.nd rfl oH) B8)<|Aj<|B5<|Ee eQ eT Fl (vv 1)<|Aa (Bm (N':=["cost","bits","top"]) (mp:=[none,none,some 2]) rfl (Bd<|vv 3) (λ_ _ _ _=>(D4 (n:=2) rfl<|Au (Ak (i:=0) GT rfl oH oI)<|Au (Ak (i:=1) GT rfl oH oI) B8)) (λ_ _ _ _=>Br) (λ_ _ _ _=>(A6 B7 (vv 2)<|Bn<|Aa (Am yi hr rfl<|Aa (vv 1) Ad)<|Aa (vv 0) Ad))<|Av (N:=ZG) (pn:=(Ah UD).names)<|by decide +kernel) Ad)<|Aj<|A8<|vv 1),?_⟩
 rintro xs I R _ ⟨d,Pf,kvs,rfl,T,q⟩;intro l J;have ld:l≠d:=by rintro rfl;rw[T.dd]at J;cases J
 refine Ax (λG a=>∃g C,G=[oD d,oD l,g,C]/\a l=oG ((Cr Pf kvs).map Sm)/\Sub (Ca I d) a) (λZ hZ=>?_) ?_;refine Ac (x:=MO.dt<|kvs.map kvT) (by rw[Ae ld.symm];exact T.dd) ?_;refine Jx (λi G a=>∃g C,G=[oD d,oD l,g,C]/\a l=oG ((Cr Pf<|kvs.take i).map Sm)/\Sub (Ca I d) a) ⟨none,none,rfl,?_,?_⟩ ?_ ?_;rw[A7 ld];exact Ab;intro b m hb;have ii:b≠d:=λz=>by rw[z]at hb;unfold Ca at hb;rw[T_ rfl]at hb;cases hb
 rw[A7 ii]at hb ⊢;rw[Ae<|by rintro rfl;rw[J]at hb;cases hb];exact hb;rintro i v G p W hv ⟨g,C,rfl,t,y⟩ hW;rw[L_]at hv;obtain⟨e,he,rfl⟩:=G_.mp hv;obtain⟨he1,Y,hel,heb⟩:=T.ll e<|W_ he;have V:p e.2=oG ((Pf e.1).map A4):=y _ _ (by rw[A7 Y];exact he1);have hi:=(E_.mp he).1;have hn9:=T.n;have be:Cr Pf (kvs.take<|i+1)=Cr Pf (kvs.take i)++(Pf e.1).map λz=>⟨e.1.1,e.1.2,Bz z.2,z.1⟩:=by unfold Cr;rw[aO,he,jS];simp
 have ij:=Ss (Pf:=Pf) (kvs:=kvs.take i) λe' ax=>(T.ll e'<|eV ax).2.2.1;rw[bI]at ij;refine⟨Ac t trivial,Ac (Ao V) λU r=>?_⟩;have p7:l≠U:=by rintro rfl;rw[t]at r;cases r
 have tq:e.2≠U:=by rintro h;rw[h,r]at V;cases V
 have L:∀{ν:M} {o:MO},Sub (Ca I d) ν->Sub (Ca I d) (Al ν U o):=λS=>S.new<|y.none r;refine E9 (λj k B a=>∃o1 g,B=[o1,g,oF<|.tuple [.int (e.1.1:Nat),.int (e.1.2:Nat)]]/\k=(((Pf e.1).take j).map λz=>Sm ⟨e.1.1,e.1.2,Bz z.2,z.1⟩)/\a U=oG k/\a e.2=oG ((Pf e.1).map A4)/\a l=oG ((Cr Pf<|kvs.take i).map Sm)/\Sub (Ca I d) a) ⟨none,none,rfl,rfl,Ab,by rw[Ae tq];exact V,by rw[Ae p7];exact t,L y⟩ (by rintro _ _ _ _ ⟨_,_,_,_,_,e2,_⟩;exact Ao e2) ?_ ?_;rintro j v k B μ2 W2 ip ⟨o1,g,rfl,rfl,Q,f2,f3,S2⟩ hW2;rw[L_]at ip;obtain⟨⟨c,b⟩,u,rfl⟩:=G_.mp ip;have hj:=(E_.mp u).1;refine⟨rfl,Ot<|Pl rfl ⟨b,rfl,heb _<|W_ u,λμ3 O=>⟨by show 2+2<=sizeLine;decide,O _ _ Q,LH<|by rw[B_,bI];omega,hW2 _ _ _ ⟨_,_,rfl,?_,Ab,by rw[Ae tq];exact O _ _ f2,by rw[Ae p7];exact O _ _ f3,L<|S2.trans O⟩⟩⟩⟩;rw[aO,u,N_];rfl;rintro k B μ2 ⟨o1,g,rfl,rfl,Q,f2,f3,S2⟩;rw[B_,aK]at Q;refine Ac f3 (Ac Q ⟨dD<|LH<|by rw[B_,B_];omega,hW _ _ ⟨_,_,rfl,?_,?_⟩⟩);rw[Ab,be,N_,aD];rfl;exact S2.new (by rw[A7 ld];exact J);rintro G p ⟨g,C,rfl,t,y⟩;rw[B_,aK]at t;exact hZ _ _ ⟨_,_,rfl,t,y⟩;rintro G p ⟨g,C,rfl,t,y⟩;exact⟨_,Sub.refl,q l p J t y⟩
end
section
variable {P:lH}{w:lI}{K:lG}{mg:Str->oB lC}{base:lL}{f:lF}{fd:lO}
structure GmOk(g:Gam):Prop where
 p:g.pl.length<=2
 r:g.rs.length<=8
 ok:∀r∈g.rs,r.p<g.pl.length/\r.q<g.pl.length/\r.x<2/\r.w.length<=2
def GmOk.gq{g:Gam}(h:GmOk g):GqOk g:=⟨K_ h.p<|by decide,h.r,λr d=>by obtain⟨a,b,_,c⟩:=h.ok r d;exact⟨a,R_ b<|K_ h.p<|by decide,c⟩⟩
def GmOk.rs{g:Gam}(h:GmOk g):RgOk g:=⟨K_ h.p<|by decide,λr a=>by obtain⟨_,b,_,c⟩:=h.ok r a;exact⟨b,c⟩⟩
def T4:oA (Nat×Nat):=[(0,0),(0,1),(1,0),(1,1)]
def in4{k:Nat×Nat}(h1:k.1<2)(h2:k.2<2):k∈T4:=by
 obtain⟨i,j⟩:=k;have h1:i<2:=h1;have h2:j<2:=h2
 match i,j,h1,h2 with
 | 0,0,_,_=>decide
 | 0,1,_,_=>decide
 | 1,0,_,_=>decide
 | 1,1,_,_=>decide
def GmOk.pt{g:Gam}(h:GmOk g){k:Nat×Nat}(hk:rgp g.rs k≠[]):k.1<g.pl.length/\k∈T4:=by obtain⟨r,h2⟩:=dP _ hk;obtain⟨d,b⟩:=bJ.mp h2;unfold Fz at b;rw[aY,bV,bV]at b;obtain⟨a,_,c,_⟩:=h.ok r d;rw[b.1]at a;rw[b.2]at c;exact⟨a,in4 (R_ a h.p) c⟩
def LZ:∀k∈T4,k.2<2:=by decide
def O4{Gs:oA<|oA Pr}{z:Pr}{t:Nat}(hz:z∈cho Gs)(e:z.2.testBit t=true):∃G∈Gs,∃p∈G,p.2.testBit t=true:=by
 have b:∀(Gs:oA<|oA Pr) (F:oA Pr),z∈Gs.foldl (λF G=>F.flatMap λp=>G.map<|ewe p) F->(∃f∈F,f.2.testBit t=true)\/∃G∈Gs,∃p∈G,p.2.testBit t=true:=by
  intro Gs
  induction Gs with
  |nil=>exact λF h=>.inl ⟨z,h,e⟩
  |cons G Gs c=>intro F h;rcases c _ h with⟨f,a,h1⟩|⟨g,hG,h1⟩;obtain⟨y,hy,a⟩:=bT.mp a;obtain⟨o,d,rfl⟩:=D_.mp a;rw[Ir,e_]at h1;exact h1.elim (λh1=>.inl ⟨y,hy,h1⟩) λh1=>.inr ⟨G,.head _,o,d,h1⟩;exact .inr ⟨g,.tail _ hG,h1⟩
 rcases b Gs _ hz with⟨f,a,h⟩|h;rw[H_.mp a,i_]at h;cases h;exact h
def Z4{G:Tops}{m:Nat}(h:∀k,∀z∈G k,∀t∈Bz z.2,t<m){s:Nat}(hs:s<m)(g:s<5){u:oA Nat}(hu:u.length<=2){z:Pr}(hz:z∈Ik G s u):∀t∈Bz z.2,t<m:=λt c=>by
 match u,hu with
 |[],_=>rw[H_.mp hz,Qz g]at c;rw[H_.mp c];exact hs
 |[x],_=>exact h (s,x) z hz t c
 |[x,y],_=>obtain⟨p,hp,hz⟩:=bT.mp hz;obtain⟨q,hq,rfl⟩:=D_.mp hz;obtain⟨a,b⟩:=Ci.mp c;obtain⟨K,e,o,d,hb⟩:=O4 hq b;obtain⟨i,_,rfl⟩:=D_.mp e;exact h (i,y) o d t<|Ci.mpr ⟨a,hb⟩
def Z5{g:Gam}(i:GmOk g){G:Tops}{m:Nat}(n:g.pl.length<=m)(h:∀k,∀z∈G k,∀t∈Bz z.2,t<m){k:Nat×Nat}{z:Pr}(hz:z∈Fc g G k):∀t∈Bz z.2,t<m:=λt j=>by
 have d:∀r∈rgp g.rs k,∀y∈Ik G r.q r.w,∀t∈Bz y.2,t<m:=λr c y hy=>by obtain⟨_,a,_,b⟩:=i.ok r (bJ.mp c).1;exact Z4 h (R_ a n) (R_ a<|K_ i.p<|by decide) b hy
 unfold Fc at hz;split at hz;obtain⟨a,b⟩:=Ci.mp j;obtain⟨K,e,o,l,hb⟩:=O4 hz b;obtain⟨r,c,rfl⟩:=D_.mp e;exact d r c o l t<|Ci.mpr ⟨a,hb⟩;obtain⟨K,e,hz⟩:=jC.mp hz;obtain⟨r,c,rfl⟩:=D_.mp e;exact d r c z hz t j
structure MI(g:Gam)(B:Tops)(E:oA Nat)(m:Nat)(G:Tops):Prop where
 n:∀k,((G k).map (·.2)).Nodup
 b:∀k,∀z∈G k,z.2<32
 u:∀k,Under (B k) (G k)
 s:O1 G (LPre g λp w=>Eb B E w p)
 l:∀k,k∉T4->(G k).length<=(B k).length
 p:g.pl.length<=m
 v:∀k,∀z∈G k,∀t∈Bz z.2,t<m
 w:∀k,G k≠[]->k.1<m/\k.2<2
section
variable {g:Gam}{B G N Wf Pf:Tops}{E:oA Nat}{m:Nat}{kvs kw:oA<|(Nat×Nat)×lF}
def MI.tb(h:MI g B E m G):Q3 G:=λk=>⟨Qx (h.n k)<|h.b k,h.b k⟩
theorem MI.more(d:GmOk g)(h:MI g B E m G)(M:More g G N):MI g B E m (λk=>G k++N k) :=
 ⟨M.nd h.n,λk z hz=>(Q_.mp hz).elim (h.b k z) λhz=>(M.f k z hz).2.1,λk=>(h.u k).more,M.snd d.rs h.s,λk hk=>by
  have e:N k=[]:=aL λc=>hk (d.pt (M.k k c).2).2;rw[e,cL];exact h.l k hk,h.p,λk z hz=>(Q_.mp hz).elim (h.v k z) λhz t i=>by
  obtain⟨⟨y,hy,e⟩,_⟩:=M.f k z hz;exact Z5 d h.p h.v hy t<|by rw[e];exact i,λk hk=>by
  by_cases c:N k=[];rw[c,cL]at hk;exact h.w k hk;obtain⟨a,b⟩:=d.pt (M.k k c).2;exact⟨R_ a h.p,LZ k b⟩⟩
def TD{P:oA Pr}(h:(P.map (·.2)).Nodup):P.Nodup:=(iM.mp h).imp λh e=>h<|bO _ e
def MI.start(a:∀k,CvA (B k)<|G k)(hb:∀k,∀z∈B k,z.2<32)(b:∀k,∀p∈B k,∀t∈Bz p.2,g.pl.length<=t)(hp:g.pl.length<=m)(hv:∀k,∀z∈B k,∀t∈Bz z.2,t<m)(d:∀k,B k≠[]->k.1<m/\k.2<2):MI g B E m G :=
 ⟨λk=>(a k).u,λk z hz=>hb k z<|(a k).m z hz,λk=>O2 (a k).c,λk p hp v hv=>EZ b k p ((a k).m p hp) v hv,λk _=>Eg (TD (a k).u) (a k).m,hp,λk z hz=>hv k z<|(a k).m z hz,λk hk=>by
  obtain⟨z,hz⟩:=dP _ hk;exact d k<|List.ne_nil_of_mem<|(a k).m z hz⟩
structure Wt(g:Gam)(G Wf:Tops)(kw:oA<|(Nat×Nat)×lF):Prop where
 k:∀e∈kw,rgp g.rs e.1≠[]
 w:∀e∈kw,Wf e.1≠[]/\(∀z∈Wf e.1,(∃y∈Fc g G e.1,y.2=z.2)/\z.2<32/\∀y∈G e.1,¬Wn y z)/\((Wf e.1).map (·.2)).Nodup
 c:kw=[]->∀k,rgp g.rs k≠[]->Under (Fc g G k) (G k)
def TF(hk:∀k,(∃e∈kvs,e.1=k)↔rgp g.rs k≠[])(hp:∀e∈kvs,Cv ((Fc g G e.1).map up1)<|Pf e.1)(W:WtOk G Pf kvs Wf kw):Wt g G Wf kw:=by refine⟨λe he=>?_,λe he=>?_,λh k j=>?_⟩;obtain⟨d,h1,h2⟩:=W.k e he;exact(hk _).mp ⟨d,h1,h2⟩;obtain⟨d,h1,h2⟩:=W.k e he;obtain⟨l,i,n⟩:=W.w e he;have C:=hp d h1;rw[h2]at C;exact⟨l,λz hz=>⟨by obtain⟨y,hy,e⟩:=D_.mp<|C.m z<|i.subset hz;exact⟨y,hy,bO (·.2) e⟩,C.b z<|i.subset hz,n z hz⟩,C.u.sublist<|i.map _⟩;obtain⟨d,h1,rfl⟩:=(hk k).mpr j;refine O2 λy hy=>?_;obtain⟨z,hz,a⟩:=(hp d h1).c _<|D_.mpr ⟨y,hy,rfl⟩;rcases W.c d h1 z hz with⟨x,hx,b⟩|⟨e,he,_⟩;exact⟨x,hx,b.trans a⟩;rw[h]at he;cases he
def FF{c:Nat}(b:GmOk g)(W:Wt g G Wf kw)(C:Chp Wf N kw c):More g G N:=by
 have a:∀k,N k≠[]->∃e∈kw,e.1=k:=λk hk=>aL λz=>hk<|C.o k λe he h=>z ⟨e,he,h⟩;refine⟨λk hk=>?_,λk z hz=>?_,λk=>?_⟩;obtain⟨e,he,rfl⟩:=a k hk;exact⟨(b.pt<|W.k e he).1,W.k e he⟩;obtain⟨e,he,rfl⟩:=a k λc=>by rw[c]at hz;cases hz
 rw[C.i e he]at hz;exact(W.w e he).2.1 z (bJ.mp hz).1;by_cases h:N k=[];rw[h];exact a_;obtain⟨e,he,rfl⟩:=a k h;rw[C.i e he];exact(W.w e he).2.2.sublist (jT.map _)
def cnt(G:Tops):Nat:=(T4.map λk=>(G k).length).sum
theorem Z6{f g:Nat×Nat->Nat}(a:∀k,f k<=g k){k:Nat×Nat}(hk:f k<g k):∀{l:oA<|Nat×Nat},(l.map f).sum<=(l.map g).sum/\(k∈l->(l.map f).sum<(l.map g).sum)
 |[]=>⟨F_ _,λh=>nomatch h⟩
 |x::l=>by obtain⟨h1,h2⟩:=Z6 a hk (l:=l);have b:=a x;rw[aP,aP,gI,gI];refine⟨kE b h1,λh=>?_⟩;rcases aB.mp h with rfl|h;exact Nat.add_lt_add_of_lt_of_le hk h1;exact Nat.add_lt_add_of_le_of_lt b<|h2 h
def Z7{c:Nat}(b:GmOk g)(W:Wt g G Wf kw)(C:Chp Wf N kw c)(hc:∃e∈kw,∃z∈Wf e.1,z.1=c):cnt G<cnt λk=>G k++N k:=by
 obtain⟨e,he,z,hz,a⟩:=hc;have h1:z∈N e.1:=by rw[C.i e he];exact bJ.mpr ⟨hz,aW a⟩
 refine(Z6 (λk=>?_) (k:=e.1) ?_).2 (b.pt<|W.k e he).2;rw[P_];exact bQ _ _;rw[P_];exact Nat.lt_add_of_pos_right<|iP h1
theorem Su{A:oA Ar}{b:Nat}(d:∀k,(G k).length<=b)(h:∀k,k∉T4->(G k).length<=(grp A k).length):∀a:oA<|Nat×Nat,(a.map λk=>(G k).length).sum<=b*(a.filter λk=>decide (k∈T4)).length+(a.map λk=>(grp A k).length).sum
 |[]=>aJ _
 |k::a=>by have e:=Su d h a;have h1:=d k;rw[aP,aP,gI,gI,gQ];by_cases c:k∈T4;rw[T_<|aW c,aZ,Nat.mul_succ];omega;rw[M_<|by rw[aQ c];decide];have:=h k c;omega
def Sv{A:oA Ar}{b:Nat}(a:∀k,(G k).length<=b)(h:∀k,k∉T4->(G k).length<=(grp A k).length){ks:oA<|Nat×Nat}(hn:ks.Nodup):(ks.map λk=>(G k).length).sum<=b*4+A.length:=by have h1:=Su a h ks;have h2:=Sr (A:=A) hn;have c:(ks.filter λk=>decide (k∈T4)).length<=4:=Eg (ys:=T4) (hn.sublist jT) λk hk=>aG (bJ.mp hk).2;exact K_ h1<|kE (Nat.mul_le_mul_left b c) h2
def MI.few(h:MI g B E m G)(d:m<=3)(k:Nat×Nat):(G k).length<=8:=by
 have a:∀i:_root_.Fin 32,(∀t∈Bz i.val,t<3)->i.val<8:=by decide +kernel
 have:=Eg (ys:=List.range 8) (h.n k) λb c=>by obtain⟨z,hz,rfl⟩:=D_.mp c;exact bC.mpr<|a ⟨z.2,h.b k z hz⟩ λt e=>R_ (h.v k z hz t e) d
 rwa[B_,bR]at this
def Z8(h:Q3 G):cnt G<=128:=by have a:=(h (0,0)).1;have b:=(h (0,1)).1;have c:=(h (1,0)).1;have d:=(h (1,1)).1;show(G (0,0)).length+((G (0,1)).length+((G (1,0)).length+((G (1,1)).length+0)))<=128;omega
def J5{A:oA Arw}{b w:oA Nat}{x q:Nat}:rd A b (x::w) q=true↔∃a∈A,a.p=q/\a.x=x/\∀t∈a.ts,rd A b w t=true:=by rw[rd,bP];constructor;rintro⟨a,ha,e⟩;rw[aY,dB]at e;have c:=aG e.1;exact⟨a,ha,c.1,c.2,e.2⟩;rintro⟨a,ha,h1,h2,d⟩;exact⟨a,ha,by rw[aY,dB];exact⟨aW ⟨h1,h2⟩,d⟩⟩
def J6{A:oA Arw}{a:oA Nat}{q:Nat}:rd A a [] q=true↔q∈a:=bV
theorem Mn{b:oA Arw}(h1:∀k,∀z∈G k,∃a∈b,a.p=k.1/\a.x=k.2/\∀t,t∈a.ts↔t∈Bz z.2)(h2:∀a∈b,∃z∈G (a.p,a.x),∀t,t∈a.ts↔t∈Bz z.2):∀(w:oA Nat) (s:Nat),rd b E w s=true↔Eb G E w s
 |[],s=>J6
 |x::w,s=>by rw[J5];constructor;rintro⟨a,ha,rfl,rfl,h⟩;obtain⟨z,hz,e⟩:=h2 a ha;exact⟨z,hz,λt c=>(Mn h1 h2 w t).mp<|h t<|(e t).mpr c⟩;rintro⟨z,hz,h⟩;obtain⟨a,ha,d,i,e⟩:=h1 (s,x) z hz;exact⟨a,ha,d,i,λt c=>(Mn h1 h2 w t).mpr<|h t<|(e t).mp c⟩
end
def Hg(a:Arw):Ar:=⟨a.p,a.x,a.ts,0⟩
def TH(a:Ar):Arw:=⟨a.p,a.x,a.ts,some a.c⟩
theorem Sw(t:Nat):∀(ts:oA Nat) (b:Nat),(ts.foldl (λb k=>b ||| 2^k) b).testBit t=(b.testBit t||ts.contains t)
 |[],b=>by simp
 |u::ts,b=>by rw[fA,Sw t ts,kD,Nat.testBit_two_pow,List.contains_cons,Bool.or_assoc];congr 2;exact jB.mpr ⟨Eq.symm,Eq.symm⟩
def Mo{ts:oA Nat}(h:∀t∈ts,t<5)(t:Nat):t∈ts↔t∈Bz (bts ts):=by rw[Ci];unfold bts;rw[Sw,i_,kK,List.contains_iff_mem];exact⟨λz=>⟨h t z,z⟩,λz=>z.2⟩
def Go{S:oA Arw}{k:Nat×Nat}{z:Pr}:z∈grp (S.map Hg) k↔∃a∈S,a.p=k.1/\a.x=k.2/\z=(0,bts a.ts):=by unfold grp;rw[D_];constructor;rintro⟨a,ha,rfl⟩;obtain⟨h1,h2⟩:=bJ.mp ha;obtain⟨b,hb,rfl⟩:=D_.mp h1;unfold Eh at h2;rw[aY,bV,bV]at h2;exact⟨b,hb,h2.1,h2.2,rfl⟩;rintro⟨a,ha,h1,h2,rfl⟩;exact⟨Hg a,bJ.mpr ⟨D_.mpr ⟨a,ha,rfl⟩,by rw[show k=((Hg a).p,(Hg a).x) from lB h1.symm h2.symm];exact J4 _⟩,rfl⟩
def FG{S:oA Arw}{E:oA Nat}(h:∀a∈S,∀t∈a.ts,t<5)(w:oA Nat)(s:Nat):rd S E w s=true↔Eb (grp<|S.map Hg) E w s :=
 Mn (λk z hz=>by
  obtain⟨a,ha,h1,h2,rfl⟩:=Go.mp hz;exact⟨a,ha,h1,h2,Mo<|h a ha⟩) (λa ha=>⟨(0,bts a.ts),Go.mpr ⟨a,ha,rfl,rfl,rfl⟩,Mo<|h a ha⟩) w s
def Mp{Pf:Tops}{kvs:oA<|(Nat×Nat)×lF}{a:Ar}:a∈Cr Pf kvs↔∃e∈kvs,∃z∈Pf e.1,a=⟨e.1.1,e.1.2,Bz z.2,z.1⟩:=by unfold Cr;rw[bT];constructor;rintro⟨e,he,h⟩;obtain⟨z,hz,rfl⟩:=D_.mp h;exact⟨e,he,z,hz,rfl⟩;rintro⟨e,he,z,hz,rfl⟩;exact⟨e,he,D_.mpr ⟨z,hz,rfl⟩⟩
def Z9{G:Tops}{E:oA Nat}{d:oA<|(Nat×Nat)×lF}(j:∀k,(∀e∈d,e.1≠k)->G k=[]){g:oA Arw}(i:∀a,a∈g↔∃b∈Cr G d,TH b=a)(w:oA Nat)(s:Nat):rd g E w s=true↔Eb G E w s :=
 Mn (λk z hz=>by
  obtain⟨e,he,rfl⟩:∃e∈d,e.1=k:=aL λc=>by rw[j k λe he h=>c ⟨e,he,h⟩]at hz;cases hz
  exact⟨_,(i _).mpr ⟨_,Mp.mpr ⟨e,he,z,hz,rfl⟩,rfl⟩,rfl,rfl,λ_=>Iff.rfl⟩) (λa ha=>by
  obtain⟨b,hb,rfl⟩:=(i a).mp ha;obtain⟨e,he,z,hz,rfl⟩:=Mp.mp hb;exact⟨z,hz,λ_=>Iff.rfl⟩) w s
end
section
variable {P:lH}{w:lI}{K:lG}{mg:Str->oB lC}{base:lL}{f:lF}{fd:lO}
structure Gd(np:Nat)(s:Say):Prop where
 t:∀a∈s.as,∀t∈a.ts,np<=t/\t<np+s.own
 p:∀a∈s.as,a.p<np+s.own
 c:∀a∈s.as,a.c=none
structure MsOk(g:Gam)(s:Say)(Ms:oA Arw):Prop where
 n:Ms.length<=400
 f:g.pl.length+s.own<=3->Ms.length<=32+s.as.length
 l:∀a∈Ms,a.ts.length<=5
 a:∀a∈Ms,a.p<g.pl.length+s.own/\a.x<2/\a.c.isSome=true/\∀t∈a.ts,t<g.pl.length+s.own
 r:∀p w,p<g.pl.length->(rd Ms s.es w p=true↔Pre g (λp w=>rd s.as s.es w p=true) p w)
structure SyOk(g:Gam)(s:Say):Prop where
 d:Gd g.pl.length s
 n:s.as.length<=72
 x:∀a∈s.as,a.x<2
 o:g.pl.length+s.own<=5
def Kpt.sub{g a:M}{d:lF}{G:Tops}{c:oA<|(Nat×Nat)×lF}(h:Kpt g d G c)(S:Sub g a):Kpt a d G c:=⟨⟨S _ _ h.D.dd,λe he=>⟨S _ _ (h.D.ll e he).1,(h.D.ll e he).2⟩,h.D.n,h.D.uu⟩,h.o,h.b⟩
def AB{g:Gam}{G:Tops}{r:oA<|(Nat×Nat)×lF}{dk:lF}{a:M}{R:AV->M->Prop}(t:GmOk g)(T:Kpt a dk G r)(s:Q3 G)(q:∀d k l c,Kpt c dk G r->DcK c d k l->Wt g G k l->d≠dk->a d=none->Sub a c->R (.R d) c):LW [.D<|Ch g,.R dk,.D<|.bool true] a λv h=>LX [.R dk,v] h R:=by
 refine⟨g,dk,G,rfl,t.gq,T.top,s,λu x p h Q=>⟨dk,u,G,x,p,rfl,T.top.sub Q.ss,s,⟨Q.dd,Q.ll,K_ Q.n<|by decide,Q.uu⟩,λe he=>⟨(Q.pf e he).len,(Q.pf e he).b⟩,?_,λd k l i D W o S=>?_⟩⟩;rintro rfl;have:=T.D.dd;rw[Q.nd]at this;cases this;have j:Sub a i:=λb m hb=>S _ _<|by
  rw[A7<|by rintro rfl;rw[Q.nd]at hb;cases hb];exact Q.ss _ _ hb
 refine q d k l i (T.sub j) D (TF Q.kk Q.pf W) ?_ (Q.ss.none o) j;rintro rfl;rw[Q.ss _ _ T.D.dd]at o;cases o
abbrev ZH:oA Str:=["game","saying","most","kept","top","pairs","waiting"]
def Vj:FnScope ZH qN (Ah UB):=Bt<|by decide +kernel
def TJ:(["arrow"]:oA Str).Nodup:=by decide +kernel
def TK:ASp:=λb c R=>∃(g:Gam) (s:Say),b=[.D<|Ch g,.D<|Ds s,.D<|.int 200]/\GmOk g/\SyOk g s/\∀(a:oA Arw) μ',MsOk g s a->Sub c μ'->R (.D<|.tuple<|a.map A9) μ'
def TL{n:Nat}{T:lF}(F:FunD K "machine" "machine" UB f fd T) (cAt:VCal P w K mg base n "arrows_by_top" ["arrows"] SF) (xw:VCal P w K mg base n "least_alone" oK LM) (y7:VCal P w K mg base n "not_kept" qL LX) (zx:VCal P w K mg base n "following" qK LW) (y8:VCal P w K mg base n "how_many" oN ST) (cKc:VCal P w K mg base n "keep_cheapest" qM SY) (cAw:VCal P w K mg base n "as_arrows" oN TB) (ai:mg "len" = none) (aj:mg "tuple" = none) (ap:mg "sorted" = none):FnOk P w K mg base Dx (n+1) f fd qN (E8 K 3 TK):=by
 refine F.vok Vj λaq A outer s H E V=>⟨_,(Af (Ap (i:=3) Vj.nd rfl oH Ew)<|Af (Ha aF rfl (Am cAt V rfl<|Aa (Bm (N':=["arrow"]) (mp:=[none]) rfl (Bd<|Bk Cb (vv 1) Ai) (λ_ _ _ _=>(Ak (i:=0) TJ rfl oH oI)) (λ_ _ _ _=>Br) (λ_ _ _ _=>(A6 B7 (vv 0)<|Bn<|Aa Ai Ad))<|Av (N:=ZH) (pn:=(Ah UB).names)<|by decide +kernel) Ad) (Au (Ak (i:=4) Vj.nd rfl oH)<|Au (Ak (i:=5) Vj.nd rfl oH) B8)<|Aj<|Da (B0 V) (vv 3) (vv 4)<|Am xw V rfl<|Aa (vv 5) Ad)<|Af (Ap (i:=6) Vj.nd rfl oH<|Am y7 V rfl<|Aa (vv 3)<|Aa (Am zx V rfl<|Aa (vv 0)<|Aa (vv 3)<|Aa Fk Ad) Ad)<|Af (Nd aF (VW.pt<|Gj (Bg Wu (Az KJ rfl ai bD<|Aa (vv 6) Ad) Ai<|nomark _)<|E7<|Bg WH (Am y8 V rfl<|Aa (vv 3) Ad) (vv 2)<|nomark _)<|Af (B5<|Am cKc V rfl<|Aa (vv 3)<|Aa (vv 6) Ad)<|Aj<|Ap (i:=6) Vj.nd rfl oH<|Am y7 V rfl<|Aa (vv 3)<|Aa (Am zx V rfl<|Aa (vv 0)<|Aa (vv 3)<|Aa Fk Ad) Ad)<|Af (Dq (Bg Wu (Am y8 V rfl<|Aa (vv 3) Ad) (vv 2)<|nomark _) (Aj Wx) B4)<|Aj<|A8<|Bu Dm rfl aj bS<|Aa (Az (Hy V) rfl ap gX<|Aa (Am cAw V rfl<|Aa (vv 3) Ad) Ad) Ad),?_⟩
 rintro xs J R _ ⟨g,s,rfl,hg,Y,q⟩;have t5:∀a∈s.as,∀t∈a.ts,t<5:=λa ha t ht=>R_ (Y.d.t a ha t ht).2 Y.o;have yl:=Y.n;have hAl:(s.as.map Hg).length<=72:=by rw[B_];exact yl
 have zr:∀k,∀z∈grp (s.as.map Hg) k,z.2<32:=λk z hz=>by obtain⟨a,ha,_,_,rfl⟩:=Go.mp hz;exact Q4 (t5 a ha)<|by decide
 have hB2:∀k,∀z∈grp (s.as.map Hg) k,∀t∈Bz z.2,g.pl.length<=t:=λk z hz t ht=>by obtain⟨a,ha,_,_,rfl⟩:=Go.mp hz;exact(Y.d.t a ha t<|(Mo (t5 a ha) t).mpr ht).1
 have hB3:∀k,grp (s.as.map Hg) k≠[]->k.1<5/\k.2<4:=λk hk=>by obtain⟨z,hz⟩:=dP _ hk;obtain⟨a,ha,e1,e2,_⟩:=Go.mp hz;rw[<- e1,<- e2];exact⟨R_ (Y.d.p a ha) Y.o,fF (Y.x a ha)<|by decide⟩
 have hB4:∀k,∀z∈grp (s.as.map Hg) k,∀t∈Bz z.2,t<g.pl.length+s.own:=λk z hz t ht=>by obtain⟨a,ha,_,_,rfl⟩:=Go.mp hz;exact(Y.d.t a ha t<|(Mo (t5 a ha) t).mpr ht).2
 have hB5:∀k,grp (s.as.map Hg) k≠[]->k.1<g.pl.length+s.own/\k.2<2:=λk hk=>by obtain⟨z,hz⟩:=dP _ hk;obtain⟨a,ha,e1,e2,_⟩:=Go.mp hz;rw[<- e1,<- e2];exact⟨Y.d.p a ha,Y.x a ha⟩
 have hBl:∀k,(grp (s.as.map Hg) k).length<=72:=λk=>by unfold grp;rw[B_];exact K_ (bU _ _) hAl
 intro dk vg;refine Ax (λL r=>∃o4 o5 G y,L=[oF<|Ch g,oF<|Ds s,oE 200,oD dk,o4,o5,none]/\Kpt r dk G y/\MI g (grp<|s.as.map Hg) s.es (g.pl.length+s.own) G/\Sub J r) (λZ hZ=>?_) ?_;refine Ac (A0 (j:=1) rfl)<|Ac (Dz s.as) λpc ay=>?_;have S0:Sub J (Al J dk<|.dt []):=Sub.refl.new vg;have e0:Al J dk (.dt []) dk=some (.dt []):=Ab;generalize Al J dk (.dt [])=μ0 at ay S0 e0;refine cmap s.as _ (λa=>Sm<|Hg a) (λL=>∃o,L=[o]) ⟨none,rfl⟩ Ab (seven<|by omega) (λ_=>Dz s.as) ?_ ?_;rintro i a τ' acc W ha ⟨o,rfl⟩ hW;have hc:=Y.d.c a<|W_ ha;obtain⟨p,x,ts,c⟩:=a;dsimp only at hc;subst hc;exact⟨by show 3+1<=sizeLine;decide,hW _ ⟨_,rfl⟩⟩;rw[Bl];have l8:dk≠pc:=by rintro rfl;rw[e0]at ay;cases ay
 have S1:Sub J (Al μ0 pc<|.lst<|s.as.map λa=>Sm<|Hg a):=S0.new<|S0.none ay;have e1:Al μ0 pc (.lst<|s.as.map λa=>Sm<|Hg a) dk=some (.dt []):=by rw[Ae l8];exact e0
 have p1:Al μ0 pc (.lst<|s.as.map λa=>Sm<|Hg a) pc=oG ((s.as.map Hg).map Sm):=by rw[Ab,aD];rfl
 generalize Al μ0 pc (.lst<|s.as.map λa=>Sm<|Hg a)=μ1 at S1 e1 p1;refine⟨.R pc,s.as.map Hg,rfl,Ao p1,K_ hAl<|by decide,λa ha t ht=>?_,λd I X T=>?_⟩;obtain⟨b,hb,rfl⟩:=D_.mp ha;exact t5 b hb t ht;refine Ac T.dd ?_;have dkd:dk≠d:=by rintro rfl;have:=T.fd;rw[e1]at this;cases this
 have d0:J d=none:=S1.none T.fd;have S2:Sub J (Ca X d):=λb m hb=>by rw[A7<|by rintro rfl;rw[d0]at hb;cases hb];exact T.ss _ _<|S1 _ _ hb
 have e2:Ca X d dk=some (.dt<|([]:oA<|(Nat×Nat)×lF).map kvT):=by rw[A7 dkd];exact T.ss _ _ e1
 have l2:∀e∈I,Ca X d e.2=oG ((grp (s.as.map Hg) e.1).map A4)/\e.2≠dk:=λe he=>by obtain⟨h1,h2⟩:=T.fe e he;exact⟨by rw[A7 h2];exact T.ll e he,λz=>by rw[z,e1]at h1;cases h1⟩
 refine Jx (λi L r=>∃o4 o5 G y,L=[oF<|Ch g,oF<|Ds s,oE 200,oD dk,o4,o5,none]/\Kpt r dk G y/\(∀e∈I.take i,CvA (grp (s.as.map Hg) e.1)<|G e.1)/\(∀k,(∀e∈I.take i,e.1≠k)->G k=[])/\(∀e∈I,r e.2=oG ((grp (s.as.map Hg) e.1).map A4))/\Sub J r) ⟨none,none,λ_=>[],[],rfl,⟨⟨e2,(λ_ h=>nomatch h),aJ _,a_⟩,λ_ _=>rfl,(λ_ h=>nomatch h)⟩,(λ_ h=>nomatch h),λ_ _=>rfl,λe he=>(l2 e he).1,S2⟩ ?_ ?_;rintro i v L μ3 W hv ⟨o4,o5,G,y,rfl,T3,hC,hO,hL,S3⟩ hW;rw[L_]at hv;obtain⟨e,he,rfl⟩:=G_.mp hv;have f7:=W_ he;have be:I.take (i+1)=I.take i++[e]:=by rw[aO,he];rfl
 have bp:∀U∈I.take i,U.1≠e.1:=λU ax c=>by have h3:((I.take<|i+1).map (·.1)).Nodup:=T.uu.sublist<|(eY _ _).map _;rw[be,N_,aX]at h3;exact h3.2.2 U.1 (D_.mpr ⟨U,ax,rfl⟩) e.1 (by simp) c
 dsimp only[Fe,D3,Nc,List.set,kvT,W9];refine⟨e.2,grp (s.as.map Hg) e.1,rfl,hL e f7,K_ (hBl e.1)<|by decide,zr e.1,λzs l μ4 C hl e4 Q=>?_⟩;have ep:dput (.dt<|y.map kvT) (.tuple [.int (e.1.1:Nat),.int (e.1.2:Nat)]) (.R l)=some (.dt<|(putK y e.1 l).map kvT):=by rw[<- SV];rfl
 have ldk:l≠dk:=by rintro rfl;rw[T3.D.dd]at hl;cases hl
 have yb:=T3.D.n;refine Ac (Q _ _ T3.D.dd) (Ac ep ⟨A5<|show(y.map kvT).length<=1000 by rw[B_];omega,hW _ _ ⟨_,_,λk=>if k=e.1 then zs else G k,putK y e.1 l,rfl,?_,λU ax=>?_,λk hk=>?_,λU ax=>?_,Ea (S3.trans Q) vg⟩⟩);exact(T3.sub Q).put (hB3 _<|(T.kk e.1).mp ⟨e,f7,rfl⟩) (by rw[T_ rfl];exact e4) ldk λj hj=>M_ hj;rw[be]at ax;dsimp only;rcases Q_.mp ax with h|h;rw[M_<|bp U h];exact hC U h;rw[H_.mp h,T_ rfl];exact C;rw[be]at hk;dsimp only;rw[M_ λz=>hk e (by simp) z.symm];exact hO k λU ax=>hk U<|aE _ ax;rw[Ae (l2 U ax).2];exact Q _ _<|hL U ax;rintro L μ3 ⟨o4,o5,G,y,rfl,T3,hC,hO,hL,S3⟩;rw[B_,aK]at hC hO;refine hZ _ _ ⟨_,_,G,y,rfl,T3,MI.start (λk=>?_) zr hB2 (bQ _ _) hB4 hB5,S3⟩;by_cases h:∃e∈I,e.1=k;obtain⟨e,he,rfl⟩:=h;exact hC e he;rw[hO k λe he c=>h ⟨e,he,c⟩,show grp (s.as.map Hg) k=[] from aL λc=>h<|(T.kk k).mpr c];exact⟨(λ_ h=>nomatch h),(λ_ h=>nomatch h),a_⟩;rintro L μ1 ⟨o4,o5,G,y,rfl,T,B,S1⟩;refine Ax (λL r=>∃M Wf O,L=[oF<|Ch g,oF<|Ds s,oE 200,oD dk,o4,o5,oD M]/\Kpt r dk G y/\DcK r M Wf O/\Wt g G Wf O/\M≠dk/\J M=none/\Sub J r) (λZ hZ=>?_) ?_;exact AB (R:=λv r=>Z [oF<|Ch g,oF<|Ds s,oE 200,oD dk,o4,o5,some v] r) hg T B.tb λM Wf O X T2 D2 W2 h1 h2 S2=>hZ _ _ ⟨M,Wf,O,rfl,T2,D2,W2,h1,S1.none h2,S1.trans S2⟩;clear T S1;rintro L X ⟨M,Wf,O,rfl,T2,D2,W2,jo,w0,S2⟩;have i4:∀{J G y},Kpt J dk G y->MI g (grp<|s.as.map Hg) s.es (g.pl.length+s.own) G->(y.map λe=>(G e.1).length).sum<=200:=λ{J G y} T B=>by have:=Sv (λk=>(B.tb k).1) B.l T.D.uu;rw[aD]at this;exact K_ this<|by omega
 refine Ax (λL r=>∃o6 G y,L=[oF<|Ch g,oF<|Ds s,oE 200,oD dk,o4,o5,o6]/\Kpt r dk G y/\MI g (grp<|s.as.map Hg) s.es (g.pl.length+s.own) G/\(∀k,rgp g.rs k≠[]->Under (Fc g G k) (G k))/\Sub J r) (λZ hZ=>?_) ?_
 ·refine Rm (λm L r=>∃M Wf O G y,L=[oF<|Ch g,oF<|Ds s,oE 200,oD dk,o4,o5,oD M]/\Kpt r dk G y/\DcK r M Wf O/\Wt g G Wf O/\MI g (grp<|s.as.map Hg) s.es (g.pl.length+s.own) G/\M≠dk/\J M=none/\cnt G+m=128/\Sub J r) (128-cnt G) ⟨M,Wf,O,G,y,rfl,T2,D2,W2,B,jo,w0,jP<|Z8 B.tb,S2⟩ ?_;clear T2 D2 W2 B jo w0 S2;rintro m L μ3 W ⟨M,Wf,O,G,y,rfl,T,D,Wk,B,hd,w0,hm,S⟩ hW;refine Ac D.dd<|dif (λc=>?_) λc=>?_;have x4:O≠[]:=by
   rintro rfl;exact absurd c<|by decide
  refine⟨dk,G,y,rfl,T.D,λe he=>(B.tb e.1).1,λμ4 Q=>dif (λc2=>?_) λc2=>absurd (Int.ofNat_le.mpr<|i4 T B) c2⟩;have hP:=λe he=>hg.pt<|Wk.k e he;refine⟨dk,M,G,Wf,y,O,rfl,T.sub Q,⟨Q _ _ D.dd,λe he=>⟨Q _ _ (D.ll e he).1,(D.ll e he).2⟩,D.n,D.uu⟩,x4,λe he=>(Wk.w e he).1,λe he=>?_,B.tb,λe he=>?_,hd.symm,λc N sx μ5 dg C T5 S5=>?_⟩;have h1:=(hP e he).2;simp only[T4,List.mem_cons,List.not_mem_nil,or_false]at h1;rcases h1 with h|h|h|h<;>rw[h]<;>decide;obtain⟨_,h2,h3⟩:=Wk.w e he;exact⟨Qx h3 λz hz=>(h2 z hz).2.1,λz hz=>(h2 z hz).2.1⟩;have vn:=B.more hg<|FF hg Wk C;have hc5:=Z7 hg Wk C dg;have kb:=Z8 vn.tb;have S05:Sub J μ5:=λb m hb=>S5 _ _<|by
   rw[A7 (by rintro rfl;rw[vg]at hb;cases hb),A7<|by rintro rfl;rw[w0]at hb;cases hb];exact Q _ _<|S _ _ hb
  exact AB (R:=λv r=>W [oF<|Ch g,oF<|Ds s,oE 200,oD dk,o4,o5,some v] r) hg T5 vn.tb λdw2 Wf2 kw2 μ6 T6 D6 W6 h1 h2 S6=>hW (128-cnt λk=>G k++N k) _ _ (by omega) ⟨dw2,Wf2,kw2,_,sx,rfl,T6,D6,W6,vn,h1,S05.none h2,jP kb,S05.trans S6⟩
  ·have x4:O=[]:=by
    cases O with
    |nil=>rfl
    |cons e l=>exact absurd (show(0:Int)<(((e::l).map kvT).length:Nat) from by rw[B_,aZ];omega) c
   exact O8 rfl<|hZ _ _ ⟨_,G,y,rfl,T,B,Wk.c x4,S⟩
 rintro L μ3 ⟨o6,G,y,rfl,T,B,hU,S⟩;refine Ck ⟨dk,G,y,rfl,T.D,λe he=>(B.tb e.1).1,λμ4 Q=>dif (λc=>absurd (Int.ofNat_lt.mp c)<|jA<|i4 T B) λc=>?_⟩;have T4:=T.sub Q;have hmn:=i4 T B;refine⟨dk,G,y,rfl,⟨T4.D.dd,λe he=>⟨(T4.D.ll e he).1,(T4.D.ll e he).2,K_ (B.tb e.1).1<|by decide,B.b e.1⟩,T4.D.n⟩,λl μ5 hl e5 S5=>?_⟩;have ag:(Cr G y).length<=200:=by unfold Cr;rw[List.length_flatMap];simp only[List.length_map];exact hmn
 have iy:dats ((Cr G y).map Sm)=some (((Cr G y).map TH).map A9):=by rw[show(Cr G y).map Sm=(((Cr G y).map TH).map A9).map .D by rw[aD,aD];rfl];exact Cc _
 refine Ac e5<|Ac iy ⟨?_,λes p hp ff=>?_⟩;exact Lb (k:=true) (by rw[B_];omega) λa ha=>by
  obtain⟨a',_,rfl⟩:=D_.mp ha
  rfl
 obtain⟨Ms,rfl,di⟩:=Db hp ((Cr G y).map TH) rfl;have cw:=di.length_eq;rw[B_]at cw;have hmm:∀a,a∈Ms↔∃b∈Cr G y,TH b=a:=λa=>by rw[di.mem_iff,D_]
 have S6:Sub J μ5:=λb m hb=>S5 _ _<|by
  rw[A7<|by rintro rfl;rw[vg]at hb;cases hb];exact Q _ _<|S _ _ hb
 have cr:∀a∈Ms,∃k,∃z∈G k,a=⟨k.1,k.2,Bz z.2,some z.1⟩:=λa ha=>by obtain⟨b,hb,rfl⟩:=(hmm a).mp ha;obtain⟨e,he,z,hz,rfl⟩:=Mp.mp hb;exact⟨e.1,z,hz,rfl⟩
 refine Ac (Ao Ab) (Ac (Cc _) ⟨_,Sub.refl,q Ms _ ⟨by omega,λh3=>?_,λa ha=>?_,λa ha=>?_,λp w hp=>?_⟩<|S6.new<|S6.none ff⟩);have h1:=Sv (B.few h3) B.l T.D.uu;rw[aD,B_]at h1;rw[cw];refine K_ ?_ h1;unfold Cr;rw[List.length_flatMap];simp only[List.length_map];exact F_ _;obtain⟨k,z,hz,rfl⟩:=cr a ha;exact K_ (bU _ _) (by rw[bR];decide);obtain⟨k,z,hz,rfl⟩:=cr a ha;obtain⟨h1,h2⟩:=B.w k<|List.ne_nil_of_mem hz;exact⟨h1,h2,rfl,B.v k z hz⟩;rw[Z9 T.o hmm w p,Q0 hg.rs B.u hU B.s hp w,show(λp w=>Eb (grp<|s.as.map Hg) s.es w p)=(λp w=>rd s.as s.es w p=true) from funext λp=>funext λw=>propext (FG t5 w p).symm]
end
section
variable {P:lH}{w:lI}{K:lG}{mg:Str->oB lC}{base:lL}{f:lF}{fd:lO}
abbrev nIi:oA Str:=oR
def YT:FnScope nIi oR (Ah XZ):=Bt<|by decide +kernel
structure SayLe(s:Say):Prop where
 a:s.as.length<=400
 t:∀a∈s.as,a.ts.length<=400
 e:s.es.length<=400
def MA:ASp:=λb c R=>∃(s:Say) (p:Nat) (W:oA Nat),b=[.D<|Ds s,.D<|.int p,.D<|Bc W]/\SayLe s/\∀ a,Sub c a->R (.D<|.bool<|rd s.as s.es W p) a
def TM{n:Nat}(F:Fun K "is_in" "is_in" XZ f fd) (d:VCal P w K mg base n "reads" oQ EL):FnOk P w K mg base Dx (n+1) f fd oR (E8 K 3 MA):=by refine F.vok YT λm A b s H E g=>⟨_,(Aj<|A8<|Am d g rfl<|Aa (Bk Cb (vv 0) Ai)<|Aa (Bk Cb (vv 0) Ai)<|Aa (vv 1)<|Aa (vv 2) Ad),?_⟩;rintro k l R _ ⟨S,p,W,rfl,c,q⟩;exact Ac (A0 (j:=1) rfl)<|Ac (A0 (j:=2) rfl) ⟨S.as,S.es,p,W,rfl,c.a,c.t,c.e,λi h=>⟨_,Sub.refl,q _ h⟩⟩
def AD{a b:oA Nat}(h:Bc a=Bc b):a=b:=by
 unfold Bc at h;rw[PyData.tuple.injEq]at h
 induction a generalizing b with
 |nil=>cases b with
  |nil=>rfl
  |cons y b=>cases h
 |cons x a c=>cases b with
  |nil=>cases h
  |cons y b=>simp only[List.map_cons,List.cons.injEq,PyData.int.injEq]at h;rw[c h.2,show x=y by omega]
def AF{a b:Arw}(h:A9 a=A9 b):a=b:=by
 obtain⟨p,x,ts,c⟩:=a;obtain⟨j,g,k,e⟩:=b;unfold A9 Qw at h;rw[PyData.tuple.injEq]at h;simp only[List.cons.injEq,PyData.int.injEq]at h;obtain⟨h1,h2,i,d⟩:=h;rw[show p=j by omega,show x=g by omega,AD i];cases c with
 |none=>cases e with
  |none=>rfl
  |some _=>cases d
 |some u=>cases e with
  |none=>cases d
  |some v=>simp only[List.cons.injEq,PyData.int.injEq,and_true]at d;rw[show u=v by omega]
section
variable {pl:Nat}{C T:oA Arw}{es:oA Nat}
def E3(b:∀a,a∈T↔a∈Cq pl C){a:Arw}:a∈T↔∃c∈C,a=⟨pl+c.p,c.x,shf pl c.ts,none⟩\/(c.p<pl/\a=⟨c.p,c.x,shf pl c.ts,none⟩):=by rw[b];unfold Cq;rw[bT];constructor;rintro⟨c,hc,h⟩;unfold Hd at h;rcases aB.mp h with rfl|h;exact⟨c,hc,.inl rfl⟩;by_cases k:c.p<pl;rw[T_ k]at h;exact⟨c,hc,.inr ⟨k,H_.mp h⟩⟩;rw[M_ k]at h;cases h;rintro⟨c,hc,rfl|⟨h,rfl⟩⟩;exact⟨c,hc,aS ..⟩;exact⟨c,hc,by unfold Hd;rw[T_ h];simp⟩
def O5{e:Nat}:e∈Fx pl es↔(e<pl/\e∈es)\/∃d∈es,pl+d=e:=by unfold Fx;rw[Q_,bJ,D_,bV,and_comm]
theorem Hh(b:∀a,a∈T↔a∈Cq pl C):∀(w:oA Nat) (s:Nat),rd T (Fx pl es) w (pl+s)=true↔rd C es w s=true
 |[],s=>by rw[J6,J6,O5];exact⟨λh=>h.elim (λz=>absurd z.1<|jA<|bQ _ _) λ⟨d,j,e⟩=>by rw[<- jR e];exact j,λh=>.inr ⟨s,h,rfl⟩⟩
 |x::w,s=>by
  rw[J5,J5];constructor;rintro⟨a,ha,h1,h2,g⟩;obtain⟨c,hc,rfl|⟨h,rfl⟩⟩:=(E3 b).mp ha;exact⟨c,hc,jR h1,h2,λt i=>(Hh b w t).mp<|g _<|D_.mpr ⟨t,i,rfl⟩⟩;dsimp only at h1;omega;rintro⟨c,hc,rfl,rfl,g⟩;exact⟨_,(E3 b).mpr ⟨c,hc,.inl rfl⟩,rfl,rfl,λt i=>by
   obtain⟨u,hu,rfl⟩:=D_.mp i;exact(Hh b w u).mpr<|g u hu⟩
def FH(b:∀a,a∈T↔a∈Cq pl C){p:Nat}(hp:p<pl):∀w:oA Nat,rd T (Fx pl es) w p=true↔rd C es w p=true
 |[]=>by rw[J6,J6,O5];exact⟨λh=>h.elim (λz=>z.2)<|by rintro ⟨d,_,e⟩;exact absurd hp<|by omega,λh=>.inl ⟨hp,h⟩⟩
 |x::w=>by
  rw[J5,J5];constructor;rintro⟨a,ha,h1,h2,g⟩;obtain⟨c,hc,rfl|⟨h,rfl⟩⟩:=(E3 b).mp ha;dsimp only at h1;omega;exact⟨c,hc,h1,h2,λt i=>(Hh b w t).mp<|g _<|D_.mpr ⟨t,i,rfl⟩⟩;rintro⟨c,hc,rfl,rfl,g⟩;exact⟨_,(E3 b).mpr ⟨c,hc,.inr ⟨hp,rfl⟩⟩,rfl,rfl,λt i=>by
   obtain⟨u,hu,rfl⟩:=D_.mp i;exact(Hh b w u).mpr<|g u hu⟩
end
def Pre.idem{g:Gam}{S:Nat->oA Nat->Prop}{p:Nat}{w:oA Nat}(h:Pre g (λp w=>Pre g S p w) p w):Pre g S p w:=by
 induction h with
 |say _ h=>exact h
 |one d a _ b=>exact .one d a b
 |all a c _ b=>exact .all a c b
def O6{g:Gam}{S T:Nat->oA Nat->Prop}(h:∀p w,p<g.pl.length->(T p w↔Pre g S p w)){p:Nat}{w:oA Nat}(hp:p<g.pl.length):Pre g T p w↔T p w :=
 ⟨λz=>(h p w hp).mpr<|Pre.idem<|z.mono λp w hp a=>(h p w hp).mp a,λz=>.say hp z⟩
def FI{g:Gam}{s:Say}{d T:oA Arw}(l:g.pl.length<=2)(n:s.own<=1)(hn:s.as.length<=4)(i:MsOk g s d)(k:∀a,a∈T↔a∈Cq g.pl.length d)(m:T.length<=(Cq g.pl.length d).length):SyOk g ⟨g.pl.length+s.own,T,Fx g.pl.length s.es⟩:=by
 have o:=i.f (by omega);have h2:=E1 g.pl.length d;have b:∀a∈T,∃c∈d,(a.p=g.pl.length+c.p\/a.p=c.p)/\a.x=c.x/\a.ts=shf g.pl.length c.ts/\a.c=none:=λa ha=>by obtain⟨c,hc,rfl|⟨h,rfl⟩⟩:=(E3 k).mp ha;exact⟨c,hc,.inl rfl,rfl,rfl,rfl⟩;exact⟨c,hc,.inr rfl,rfl,rfl,rfl⟩
 refine⟨⟨λa ha t j=>?_,λa ha=>?_,λa ha=>?_⟩,by show T.length<=72;omega,λa ha=>?_,by show g.pl.length+(g.pl.length+s.own)<=5;omega⟩;obtain⟨c,hc,_,_,e,_⟩:=b a ha;rw[e]at j;obtain⟨u,hu,rfl⟩:=D_.mp j;exact⟨bQ _ _,Nat.add_lt_add_left ((i.a c hc).2.2.2 u hu) _⟩;obtain⟨c,hc,e,_⟩:=b a ha;have:=(i.a c hc).1;show a.p<g.pl.length+(g.pl.length+s.own);omega;obtain⟨c,hc,_,_,_,e⟩:=b a ha;exact e;obtain⟨c,hc,_,e,_⟩:=b a ha;rw[e];exact(i.a c hc).2.1
abbrev nMd:oA Str:=["_law_game_here","_law_saying_here","_law_found"]
def MB:FnScope nMd qC (Ah YC):=Bt<|by decide +kernel
def MC:ASp:=λb c R=>∃(g:Gam) (s:Say),b=[.D<|Ch g,.D<|Ds s]/\GmOk g/\SyOk g s/\∀(a:oA Arw) μ',MsOk g s a->Sub c μ'->R (.D<|.tuple<|a.map A9) μ'
def TN{n:Nat}(F:Fun K "_law_made" "_law_made" YC f fd) (c:K9 P w K mg base n "machine" qN 200 TK):FnOk P w K mg base Dx (n+1) f fd qC (E8 K 2 MC):=by
 refine F.vok0 MB λr A b s H E e=>⟨_,(Kw (VS.z<|Ap (i:=2) MB.nd rfl oH Lr)<|Kw (Y5 λo l=>(Aj<|Ap (i:=2) MB.nd rfl oH<|Ys c e rfl<|Aa (vv 0)<|Aa (vv 1) Ad))<|Xb<|VS.z<|A8<|vv 2),?_⟩
 rintro m p R _ ⟨g,s,rfl,j,k,q⟩;refine Ck<|Ck ?_;exact⟨g,s,rfl,j,k,λd a h S=>⟨a,Sub.refl,q d a h S⟩⟩
abbrev ZI:oA Str:=["_law_many_here","_law_found","_law_last","_law_turn","_law_longer","_law_pile_here"]
def Q5:FnScope ZI qD (Ah UJ):=Bt<|by decide +kernel
def TQ:(qU:oA Str).Nodup:=by decide +kernel
def Gp(w:oA Nat):AV:=.D<|Bc w
def FJ{n:Nat}:n<=4->2^n<=16:=λh=>Nat.pow_le_pow_right (by decide) h
def MD:ASp:=λb c R=>∃(m:Nat),b=[.D<|.int (m:Nat)]/\m<=2/\∀(a:oA<|oA Nat) (p:lF) μ',μ' p=oG (a.map Gp)->Sub c μ'->R (.R p) μ'
def TR{n:Nat}(F:Fun K "_law_piles" "_law_piles" UJ f fd) (ah:mg "range" = none):FnOk P w K mg base Dx (n+1) f fd qD (E8 K 1 MD):=by
 refine F.vok Q5 λaq A Y s H E hr=>⟨_,(Af (Ap (i:=1) Q5.nd rfl oH<|B2<|Aa (Bn Ad) Ad)<|Af (Ap (i:=2) Q5.nd rfl oH<|B2<|Aa (Bn Ad) Ad)<|Af (B3 aF rfl (Cd rfl ah<|Aa Ai Ad) (Ak (i:=3) Q5.nd rfl oH)<|Af (Ap (i:=4) Q5.nd rfl oH<|B2 Ad)<|Af (B3 aF rfl (Bd<|vv 2) (Ak (i:=5) Q5.nd rfl oI)<|Aj<|B5<|Ee eQ eT Fl (vv 4)<|Aa (Bm (N':=qU) (mp:=[none,some 5]) rfl (Cd rfl ah<|Aa (vv 0) Ad) (λ_ _ _ _=>(Ak (i:=0) TQ rfl oH oI)) (λ_ _ _ _=>Br) (λ_ _ _ _=>(A6 B7 (vv 1)<|Bn<|Aa (vv 0) Ad))<|Av (N:=ZI) (pn:=(Ah UJ).names)<|by decide +kernel) Ad)<|Af (Ap (i:=2) Q5.nd rfl oH<|vv 4)<|Aj<|B5<|Ee eQ eT Fl (vv 1)<|Aa (vv 4) Ad)<|Aj<|A8<|vv 1),?_⟩
 rintro xs J R _ ⟨m,rfl,hm,q⟩;intro h cq pl p;have V:h≠pl:=by rintro rfl;rw[Ab]at p;cases p
 refine Ax (λb a=>∃(o2 G B d:oB AV) (g:oA<|oA Nat),b=[oE (m:Nat),oD h,o2,G,B,d]/\a h=oG (g.map Gp)/\Sub J a) (λZ X=>⟨by decide,by decide,?_⟩) (by rintro b a ⟨_,_,_,_,g,e,h1,h2⟩;subst e;exact⟨_,Sub.refl,q g h a h1 h2⟩);refine Cp (λi b a=>∃(pl:lF) (G B d:oB AV) (g z:oA<|oA Nat),b=[oE (m:Nat),oD h,oD pl,G,B,d]/\a h=oG (g.map Gp)/\a pl=oG (z.map Gp)/\h≠pl/\g.length<=2^(i+1)/\z.length<=2^i/\(∀w∈z,w.length<=i)/\Sub J a) ⟨pl,none,none,none,[[]],[[]],rfl,by rw[Ae V,Ab];rfl,Ab,V,by decide,by decide,λw O=>by rw[H_.mp O];exact F_ _,(Sub.refl.new cq).new<|(Sub.refl.new cq).none p⟩ (λ_ _ _ _=>trivial) ?_ (by rintro b a ⟨pl,G,B,d,g,z,e,h1,_,_,_,_,_,S⟩;exact X _ _ ⟨_,G,B,d,g,e,h1,S⟩);clear V p pl;rintro i y b μ1 Z2 hy ⟨pl,G,B,d,g,z,rfl,e1,f1,V,hW,hL,hLi,S1⟩ hZ2;have hi:i<3:=(E_.mp hy).1;have h16:=FJ (n:=i) (by omega);have h8:2^(i+1)=2^i+2^i:=by rw[Nat.pow_succ];omega
 have di:2^(i+1+1)=2^(i+1)+2^(i+1):=by rw[Nat.pow_succ];omega
 intro pn M;have ub:J pn=none:=S1.none M;have U:h≠pn:=by rintro rfl;rw[e1]at M;cases M
 have my:pl≠pn:=by rintro rfl;rw[f1]at M;cases M
 refine Ax (λb a=>∃(d:oB AV) (c:oA<|oA Nat),b=[oE (m:Nat),oD h,oD pl,some y,oD pn,d]/\a h=oG (g.map Gp)/\a pn=oG (c.map Gp)/\c.length<=2*z.length/\(∀w∈c,w.length<=i+1)/\Sub J a) (λZ X=>?_) ?_;refine Ac (Ao<|by rw[Ae my];exact f1) ?_;refine Cp (λj b a=>∃(d:oB AV) (c:oA<|oA Nat),b=[oE (m:Nat),oD h,oD pl,some y,oD pn,d]/\a h=oG (g.map Gp)/\a pl=oG (z.map Gp)/\a pn=oG (c.map Gp)/\c.length<=2*j/\(∀w∈c,w.length<=i+1)/\Sub J a) ⟨_,[],rfl,by rw[Ae U];exact e1,by rw[Ae my];exact f1,Ab,F_ _,nofun,S1.new ub⟩ (by rintro _ _ _ ⟨_,_,_,_,e,_⟩;exact Ao e) ?_ ?_;rintro j u b r Z3 hu ⟨d,c,rfl,C,f2,t,Q,l,L⟩ bu;rw[L_]at hu;obtain⟨w,O,rfl⟩:=G_.mp hu;have hj:=(E_.mp O).1;have hwi:=hLi w<|W_ O;refine⟨Ac t trivial,by omega,by omega,λpc ay=>?_⟩;rw[cP,Mj];have kr:pn≠pc:=by rintro rfl;rw[t]at ay;cases ay
 refine cmap (List.range m) Bh (λx=>Gp<|w++[x]) (λb=>∃o,b=[o,some<|Gp w]) ⟨none,rfl⟩ Ab (seven<|by rw[bR];omega) (λ_=>trivial) ?_ ?_;rintro k x τ' acc W hk ⟨o,rfl⟩ I;have e:Gp (w++[x])=.D (.tuple<|(w.map λ(n:Nat)=>PyData.int n)++[.int (x:Nat)]):=by unfold Gp Bc;rw[N_];rfl
 rw[e]at I;exact⟨seven<|show(w.map λ(n:Nat)=>PyData.int n).length+1<=1000 by rw[B_];omega,I _ ⟨_,rfl⟩⟩;rw[Bl];have T:Sub r (Al r pc<|.lst<|(List.range m).map λx=>Gp<|w++[x]):=Sub.refl.new ay;refine Ac (T _ _ t) (Ac Ab ⟨seven<|by rw[B_,B_,bR];omega,bu _ _ ⟨_,c++(List.range m).map (λx=>w++[x]),rfl,by rw[Ae U];exact T _ _ C,by rw[Ae my];exact T _ _ f2,by rw[Ab,N_,aD];rfl,by rw[P_,B_,bR];omega,λv hv=>?_,Ea (L.trans T) ub⟩⟩);rcases Q_.mp hv with hv|hv;exact l v hv;obtain⟨x,_,rfl⟩:=D_.mp hv;rw[P_];exact gS hwi;rintro b r ⟨d,c,rfl,C,f2,t,Q,l,L⟩;rw[B_]at Q;exact X _ _ ⟨_,c,rfl,C,t,Q,l,L⟩;rintro b r ⟨d,c,rfl,C,t,Q,l,L⟩;refine Ck ⟨Ac C trivial,Ac C<|Ac t ⟨seven<|by rw[B_,B_];omega,hZ2 _ _ ⟨pn,_,_,_,g++c,c,rfl,by rw[Ab,N_],by rw[Ae U.symm];exact t,U,by rw[P_];omega,by omega,l,Ea L cq⟩⟩⟩
end
section
variable {P:lH}{w:lI}{K:lG}{mg:Str->oB lC}{base:lL}{f:lF}{fd:lO}{h:lL}{x:Str}{st:lN}{oc kV bw pm aq ct:lC}{od an:oB lF}{fj:oC<|oB lC}{n:Nat}{ps:oA Str}{sp:ASp}
def TU{X:Cx}{e:lJ}:VT X e λ_ _ _=>False:=λa s b H Q I z=>B1 z λ_ _ _ _ _ h _=>h.elim
abbrev YU:oA Str:=["_law_script","_law_deal_here","_law_game_here","_law_saying_here","_law_made_here","_law_told","_law_again","_law_place","_law_pile_here","_law_due"]
def Ge:FnScope YU oS (Ah EA):=Bt<|by decide +kernel
def spL:ASp:=λb c R=>∃(ns:oA Int),b=[.D<|Hz ns]/\ns.length<=63/\∀ a,R (.D<|.bool true) a
def FK{n:Nat}(F:Fun K "law" "law" EA f fd) (xc:VCal P w K mg base n "_law_deal" oU KO) (wv:VCal P w K mg base n "_law_game" oW KW) (yh:VCal P w K mg base n "_law_saying" oX KZ) (u5:VCal P w K mg base n "_law_made" qC MC) (xm:VCal P w K mg base n "as_saying" oY LD) (wc:VCal P w K mg base n "_law_piles" qD MD) (mw:VCal P w K mg base n "reads" oQ EL) (x5:VCal P w K mg base n "is_in" oR MA) (ah:mg "range" = none) (ai:mg "len" = none):FnOk P w K mg base Dx (n+1) f fd oS (E8 K 1 spL):=by
 refine F.vok Ge λaq A W s H E v=>⟨_,(Af (Ap (i:=1) Ge.nd rfl oH<|Am xc v rfl<|Aa (vv 0)<|Aa Ai Ad)<|Af (Ap (i:=2) Ge.nd rfl oH<|Am wv v rfl<|Aa (vv 1)<|Aa (Bn<|Aa Ai<|Aa Ai<|Aa Ai<|Aa Ai Ad)<|Aa Ai Ad)<|Af (Ap (i:=3) Ge.nd rfl oH<|Am yh v rfl<|Aa (vv 1)<|Aa (vv 2)<|Aa Ai<|Aa Ai<|Aa Ai Ad)<|Af (Ap (i:=4) Ge.nd rfl oH<|Am u5 v rfl<|Aa (vv 2)<|Aa (vv 3) Ad)<|Af (Dq (Bg FU (vv 4) Lr<|nomark _) (Aj<|A8 GM) B4)<|Af (Ap (i:=5) Ge.nd rfl oH<|Am xm v rfl<|Aa (vv 2)<|Aa (vv 3)<|Aa (vv 4) Ad)<|Af (Ap (i:=6) Ge.nd rfl oH<|Am u5 v rfl<|Aa (vv 2)<|Aa (vv 5) Ad)<|Af (Dq (VW.pt<|Gj (Bg FU (vv 6) Lr<|nomark _)<|E7 TU) (Aj<|A8 Fk) B4)<|Af (B3 aF rfl (Cd rfl ah<|Aa (Az C5 rfl ai bD<|Aa (Bk Cb (vv 2) Ai) Ad) Ad) (Ak (i:=7) Ge.nd rfl oH)<|Aj<|B3 aF rfl (Bd<|Am wc v rfl<|Aa (Az C5 rfl ai bD<|Aa (Bk Cb (vv 2) Ai) Ad) Ad) (Ak (i:=8) Ge.nd rfl oH)<|Af (Ap (i:=9) Ge.nd rfl oH<|Am mw v rfl<|Aa (vv 4)<|Aa (Bk Cb (vv 3) Ai)<|Aa (vv 7)<|Aa (vv 8) Ad)<|Af (Dq (Bg (NY v) (Am x5 v rfl<|Aa (vv 5)<|Aa (vv 7)<|Aa (vv 8) Ad) (vv 9)<|nomark _) (Aj<|A8 Fk) B4)<|Aj<|Dq (VW.pt<|Gj (Bg IX (vv 6) Lr<|nomark _)<|E7<|Bg (NY v) (Am mw v rfl<|Aa (vv 6)<|Aa (Bk Cb (vv 5) Ai)<|Aa (vv 7)<|Aa (vv 8) Ad) (vv 9)<|nomark _) (Aj<|A8 Fk) B4)<|Aj<|A8 Fk),?_⟩
 rintro xs μ R _ ⟨ns,rfl,gh,q⟩;refine Ck ⟨ns,0,rfl,by decide,gh,λa l μ1 _ _ P1 _=>?_⟩;refine Ck ⟨a,l,2,2,4,1,rfl,by decide,by decide,by decide,by decide,by decide,by decide,P1,λg μ2 z P2 _=>?_⟩;have h8:=z.p1;have c8:=z.l1;have hr1:=z.r1;refine Ck ⟨a,l,g,1,4,1,rfl,z.p0,by omega,z.l0,by omega,by decide,by decide,P2,λs μ3 J _ _=>?_⟩;have ho:=J.o;have hsn:=J.n;have hen:=J.en;have hG:GmOk g:=⟨h8,by omega,λr v=>⟨(z.ru r v).p,(z.ru r v).q,R_ (z.ru r v).x c8,(z.ru r v).n⟩⟩;have hS:SyOk g s:=⟨⟨J.t,J.p,J.c⟩,by omega,λa ha=>R_ (J.x a ha) c8,by omega⟩;refine Ax (λu k=>∃m:oA Arw,u=[oF<|Hz ns,oD a,oF<|Ch g,oF<|Ds s,oF<|.tuple<|m.map A9,none,none,none,none,none]/\MsOk g s m) (λZ G=>⟨g,s,rfl,hG,hS,λm k h S=>G _ _ ⟨m,rfl,h⟩⟩) ?_;rintro u μ4 ⟨m,rfl,C⟩;refine Ck<|O8 rfl ?_;refine Ax (λu k=>∃t:Say,u=[oF<|Hz ns,oD a,oF<|Ch g,oF<|Ds s,oF<|.tuple<|m.map A9,oF<|Ds t,none,none,none,none]/\SyOk g t/\SayLe t/\∀p w,p<g.pl.length->(rd t.as t.es w p=true↔rd m s.es w p=true)) (λZ G=>?_) ?_
 ·have hf:=C.f (by omega);refine⟨g,s,m,rfl,⟨by omega,λa ha=>(C.a a ha).2.2.1,λa ha=>K_ (C.l a ha)<|by decide,by omega⟩,λes μ5 hnd ix S5=>?_⟩;obtain⟨T,rfl,nh⟩:=Oq (f:=A9) (B:=Cq g.pl.length m) λe he=>(ix e).mp he;have hT:∀a,a∈T↔a∈Cq g.pl.length m:=λa=>⟨nh a,λha=>by
   obtain⟨b,hb,e⟩:=D_.mp<|(ix<|A9 a).mpr<|D_.mpr ⟨a,ha,rfl⟩;rw[<- AF e];exact hb⟩
  have hl:=Eg hnd λd hd=>(ix d).mp hd;rw[B_,B_]at hl;have h2:=E1 g.pl.length m;have he2:(Fx g.pl.length s.es).length<=400:=by unfold Fx;rw[P_,B_];have:=bU (λe=>decide (e<g.pl.length)) s.es;omega
  refine G _ _ ⟨⟨g.pl.length+s.own,T,Fx g.pl.length s.es⟩,rfl,FI h8 ho hsn C hT hl,⟨by show T.length<=400;omega,λa ha=>?_,he2⟩,λp w hp=>FH hT hp w⟩;obtain⟨c,hc,h⟩:=(E3 hT).mp ha;have hc5:=C.l c hc;have:a.ts=shf g.pl.length c.ts:=by rcases h with rfl|⟨_,rfl⟩<;>rfl
  rw[this];unfold shf;rw[B_];omega
 rintro u μ5 ⟨t,rfl,qx,Q,M⟩;refine Ax (λu k=>∃O:oA Arw,u=[oF<|Hz ns,oD a,oF<|Ch g,oF<|Ds s,oF<|.tuple<|m.map A9,oF<|Ds t,oF<|.tuple<|O.map A9,none,none,none]/\MsOk g t O) (λZ G=>⟨g,t,rfl,hG,qx,λm k h S=>G _ _ ⟨m,rfl,h⟩⟩) ?_;rintro u μ6 ⟨O,rfl,hA⟩;have hAr:∀p w,p<g.pl.length->(rd O t.es w p=true↔rd m s.es w p=true):=λp w hp=>by rw[hA.r p w hp,<- M p w hp];exact O6 (S:=λp w=>rd s.as s.es w p=true) (T:=λp w=>rd t.as t.es w p=true) (λp w hp=>(M p w hp).trans<|C.r p w hp) hp
 refine Ck<|O8 rfl<|O8 rfl ?_;have ie:s.es.length<=400:=by omega
 have l5:∀{L:oA Arw},(∀a∈L,a.ts.length<=5)->∀a∈L,a.ts.length<=400:=λh a ha=>K_ (h a ha) (by decide);refine Ax (λu k=>True) (λZ G=>?_) λu k _=>⟨_,Sub.refl,q _⟩;refine Ac (A0 (j:=0) rfl) ⟨by rw[B_];omega,by rw[B_];omega,?_⟩;rw[B_,cP,Mj];refine Cp (λi u k=>∃o7 N I,u=[oF<|Hz ns,oD a,oF<|Ch g,oF<|Ds s,oF<|.tuple<|m.map A9,oF<|Ds t,oF<|.tuple<|O.map A9,o7,N,I]) ⟨none,none,none,rfl⟩ (λ_ _ _ _=>trivial) ?_ λu k _=>G _ _ trivial;rintro i y u μ7 Z2 hy ⟨o7,N,I,rfl⟩ hZ2;rw[L_]at hy;obtain⟨p,hp,rfl⟩:=G_.mp hy;have U:=bC.mp<|W_ hp;refine Ac (A0 (j:=1) rfl) ⟨g.le.length,by rw[B_],c8,λWs pw μ8 X S8=>Ac (Ao X) ?_⟩;refine Cp (λi u k=>∃N I,u=[oF<|Hz ns,oD a,oF<|Ch g,oF<|Ds s,oF<|.tuple<|m.map A9,oF<|Ds t,oF<|.tuple<|O.map A9,some<|Bh p,N,I]/\k pw=oG (Ws.map Gp)) ⟨_,_,rfl,X⟩ (by rintro _ _ _ ⟨_,_,_,e⟩;exact Ao e) ?_ (by rintro u k ⟨N,I,e,_⟩;exact hZ2 _ _ ⟨_,N,I,e⟩);clear X S8;rintro j y u μ9 Z3 hy ⟨N,I,rfl,e9⟩ bu;rw[L_]at hy;obtain⟨w,_,rfl⟩:=G_.mp hy;refine Ck<|Ac (A0 (j:=2) rfl) ⟨m,s.es,p,w,rfl,C.n,l5 C.l,ie,λμ10 Y=>?_⟩;refine Ck ⟨t,p,w,rfl,Q,λμ11 V=>⟨F1 _,F1 _,O8 ?_ ?_⟩⟩
 ·rw[gG.mpr<|M p w U]
  all_goals (generalize rd m s.es w p=b;cases b<;>rfl)
 refine Pl rfl<|Ac (A0 (j:=2) rfl) ⟨O,t.es,p,w,rfl,hA.n,l5 hA.l,Q.e,λμ12 S12=>⟨F1 _,F1 _,O8 ?_<|bu _ _ ⟨_,_,rfl,S12 _ _<|V _ _<|Y _ _ e9⟩⟩⟩;rw[gG.mpr<|hAr p w U]
 all_goals (generalize rd m s.es w p=b;cases b<;>rfl)
def Sy(K:lG):Sp:=λc H Q _=>∃(a:lF) (ns:oA Int),c=[.ref a]/\E4 K H a (ns.map V.int)/\Only H/\ns.length<=63/\∀b,Q (.bl true) b
theorem Sz{H:Hp}:∀(ns:oA Int),An K H (ns.map .int) (ns.map V.int)
 |[]=>C7
 |n::ns=>Ct Dg<|Sz ns
def ME{n:Nat}(F:Fun K "law" "law" EA f fd) (t:VCal P w K mg base n "_law_deal" oU KO) (r:VCal P w K mg base n "_law_game" oW KW) (s:VCal P w K mg base n "_law_saying" oX KZ) (p:VCal P w K mg base n "_law_made" qC MC) (e:VCal P w K mg base n "as_saying" oY LD) (m:VCal P w K mg base n "_law_piles" qD MD) (c:VCal P w K mg base n "reads" oQ EL) (b:VCal P w K mg base n "is_in" oR MA) (d:mg "range" = none) (g:mg "len" = none):FnOk P w K mg base Dx (n+1) f fd oS (Sy K):=by refine(FK F t r s p e m c b d g).imp ?_;rintro y H Q E ⟨a,ns,rfl,k,l,j,q⟩;refine⟨[.D<|Hz ns],λ_=>none,λv _=>v=.D (.bool true),rfl,.cons ?_ .nil,(λ_ _ z=>nomatch z),⟨ns,rfl,j,λ_=>rfl⟩,?_⟩;refine IT (xs:=ns.map V.int) ?_<|Sz ns;rcases k with(h|h)|h;rcases l a with z|⟨o,xs,z⟩;rw[z]at h;cases h;rw[z]at h;cases h;exact .inl h;exact .inr h;rintro x A v u _ _ i rfl;cases RelA.bl i;exact q _
def AH{b:oA lC}(h:b.length=1):∃a,b=[a]:=by obtain⟨a,t,rfl,h2⟩:=D5 h;rw[bM h2];exact⟨a,rfl⟩
def AJ{c:oA lC}(h:c.length=2):∃b a,c=[b,a]:=by obtain⟨b,t,rfl,h2⟩:=D5 h;obtain⟨a,rfl⟩:=AH h2;exact⟨b,a,rfl⟩
def AK{c:oA lC}(h:c.length=3):∃b a a2,c=[b,a,a2]:=by obtain⟨b,t,rfl,h2⟩:=D5 h;obtain⟨a,a2,rfl⟩:=AJ h2;exact⟨b,a,a2,rfl⟩
def AL{d:oA lC}(h:d.length=4):∃c a a2 b,d=[c,a,a2,b]:=by obtain⟨c,t,rfl,h2⟩:=D5 h;obtain⟨a,a2,b,rfl⟩:=AK h2;exact⟨c,a,a2,b,rfl⟩
def TV{e:oA lC}(h:e.length=5):∃c a a2 b d,e=[c,a,a2,b,d]:=by obtain⟨c,t,rfl,h2⟩:=D5 h;obtain⟨a,a2,b,d,rfl⟩:=AL h2;exact⟨c,a,a2,b,d,rfl⟩
def Bs(K:lG)(x:Str)(st:lN):Prop:=∃f fd,PySem.W.nsIn K mainGlobals x=some (some<|.ref f)/\Fun K x x st f fd
def defat(a:PySem.W.nsIn K mainGlobals x=some (some<|.ref f))(l:K.lookup f=some ⟨oc,od,.func<|PySem.W.fnOf x x (Dj st) (Cj st) (Ah st) .none kV bw pm an aq ct,fj⟩)(c:PySem.W.codeIn K aq x=true)(k:PySem.W.keepIn K (.ref f)=true):Bs K x st:=⟨f,_,a,IQ l c k⟩
def Bs.cal(d:Bs K x st)(X:K.In h)(G:h.Ns mainGlobals mg)(ok:∀{f fd},Fun K x x st f fd->FnOk P w K mg base Dx n f fd ps (E8 K ps.length sp))(hb:∀(kV bw pm:lC) (an:oB lF) (aq ct:lC) (c:oA lC),c.length=ps.length->bindArgs (PySem.W.fnOf x x (Dj st) (Cj st) (Ah st) .none kV bw pm an aq ct) ⟨c,[]⟩=pure (ps.zip c):=by intro _ _ _ _ _ _ c b;first|(obtain⟨e,rfl⟩:=AH b;rfl)|(obtain⟨e,g,rfl⟩:=AJ b;rfl)|(obtain⟨e,g,a2,rfl⟩:=AK b;rfl)|(obtain⟨e,g,a2,i,rfl⟩:=AL b;rfl)|(obtain⟨e,g,a2,i,j,rfl⟩:=TV b;rfl)):VCal P w K mg base n x ps sp :=
 by obtain⟨f,fd,a,F⟩:=d;exact⟨f,fd,ok F,F.binds hb,F.kp,kO X G a⟩
def S7(K:lG)(x:Str)(st:lN)(v:Int):Prop:=∃f fd T t,PySem.W.nsIn K mainGlobals x=some (some<|.ref f)/\FunD K x x st f fd T/\PySem.W.keepIn K (.ref f)=true/\∃oc od n fj,K.lookup T=some ⟨oc,od,.seq #[.int v t] n,fj⟩
def defad{v:Int}{T:lF}{t:Tok}{m:Nat}{b:lC}{e:oB lF}{d:oC<|oB lC}(a:PySem.W.nsIn K mainGlobals x=some (some<|.ref f))(l:K.lookup f=some ⟨oc,od,.func<|PySem.W.fnOf x x (Dj st) (Cj st) (Ah st) (.ref T) kV bw pm an aq ct,fj⟩)(c:PySem.W.codeIn K aq x=true)(k:PySem.W.keepIn K (.ref f)=true)(g:K.lookup T=some ⟨b,e,.seq #[.int v t] m,d⟩):S7 K x st v:=⟨f,_,T,t,a,⟨_,_,_,_,_,_,_,_,_,rfl,l,c⟩,k,_,_,_,_,g⟩
def S7.cal{v:Int}(d:S7 K x st v)(X:K.In h)(G:h.Ns mainGlobals mg)(ok:∀{f fd T},FunD K x x st f fd T->FnOk P w K mg base Dx n f fd ps (E8 K ps.length sp))(hb:∀(T:lF) (tk:Tok) (kV bw pm:lC) (an:oB lF) (aq ct:lC) (c:oA lC),c.length+1=ps.length->∃k,bindArgs (PySem.W.fnOf x x (Dj st) (Cj st) (Ah st) (.ref T) kV bw pm an aq ct) ⟨c,[]⟩=seqItems? (.ref T)>>=k/\k (some #[.int v tk])=pure (ps.zip<|c++[.int v tk]):=by intro _ _ _ _ _ _ _ _ c b;first|(obtain⟨e,rfl⟩:=AH<|iJ b;exact⟨_,rfl,rfl⟩)|(obtain⟨e,g,rfl⟩:=AJ<|iJ b;exact⟨_,rfl,rfl⟩)|(obtain⟨e,g,a2,rfl⟩:=AK<|iJ b;exact⟨_,rfl,rfl⟩)|(obtain⟨e,g,a2,i,rfl⟩:=AL<|iJ b;exact⟨_,rfl,rfl⟩)):K9 P w K mg base n x ps v sp :=
 by obtain⟨f,fd,T,t,a,F,k,_,_,_,_,l⟩:=d;exact⟨f,fd,t,ok F,F.binds l<|hb T t,k,kO X G a⟩
end
def all_mk{l:PySem.W.OpenLaw}{w:lI}{K:lG}{h:lL}{g:Str->oB lC}{fa:lF}(X:K.In h)(G:h.Ns mainGlobals g)(V:g "law" = some (.ref fa))
  {t1:Tok}
  (d1:Bs K "as_saying" MN)
  (d2:Bs K "as_bits" XN)
  (d3:Bs K "as_stands" UA)
  (d4:Bs K "has_within" XO)
  (d5:Bs K "least_alone" XQ)
  (d6:Bs K "thinned" XS)
  (d7:Bs K "one_of_any" XT)
  (d8:Bs K "one_of_each" XU)
  (d9:Bs K "each_with_each" XV)
  (z:Bs K "arrows_by_top" XW)
  (d11:Bs K "readings_by" QG)
  (d12:S7 K "machine" UB 200) (M:Bs K "how_many" UC)
  (d14:Bs K "as_arrows" UD)
  (d15:Bs K "following" QH) (Z:Bs K "rules_by_top" XX)
  (d17:Bs K "keep_cheapest" QI)
  (d18:Bs K "not_kept" QJ) (Q:Bs K "reads" XY)
  (d20:Bs K "reading_with" UE)
  (y:Bs K "is_in" XZ) (N:Bs K "_law_deal" QK)
  (d23:Bs K "_law_draw" YA)
  (d24:Bs K "_law_names" UF)
  (d25:Bs K "_law_rule" QL)
  (r:Bs K "_law_rules" UG) (D:Bs K "_law_game" UH) (E:Bs K "_law_some" UI)
  (x:Bs K "_law_saying" YB) (Y:Bs K "_law_made" YC) (J:Bs K "_law_piles" UJ) (L:Bs K "law" EA)
  (oz:PySem.W.nsIn K mainGlobals "len" = some none)
  (j3:PySem.W.nsIn K mainGlobals "tuple" = some none)
  (jg:PySem.W.nsIn K mainGlobals "sorted" = some none)
  (sr:PySem.W.nsIn K mainGlobals "set" = some none)
  (j6:PySem.W.nsIn K mainGlobals "range" = some none)
  (og:PySem.W.nsIn K mainGlobals "max" = some none)
  (me:PySem.W.nsIn K mainGlobals "list" = some none)
  (sf:PySem.W.nsIn K mainGlobals "sum" = some none)
  (rh:PySem.W.nsIn K mainGlobals "min" = some none)
  (gj:PySem.W.nsIn K mainGlobals "reversed" = some none)
  (p5:PySem.W.nsIn K mainGlobals "all" = some none)
  (oo:PySem.W.nsIn K mainGlobals "int" = some none)
  (r6:PySem.W.nsIn K mainGlobals "zip" = some none)
  (y1:PySem.W.nsIn K mainGlobals "OTHER_HAND" = some (some<|.int 1 t1)) :
  ∃fd:lO,(∀(s:lD) (v:lC),BindsTo s fd ⟨[v],[]⟩ [("_law_script",v)])/\∀base:lL,K.In base->base.Ns mainGlobals g->FnOk l.prog w K g base Dx 65 fa fd oS (Sy K):=by
 have a:=bW X G oz;have b:=bW X G j3;have f:=bW X G jg;have ft:=bW X G sr;have c:=bW X G j6;have du:=bW X G og;have k:=bW X G me;have i6:=bW X G sf;have gz:=bW X G rh;have a8:=bW X G gj;have jh:=bW X G p5;have dq:=bW X G oo;have jd:=bW X G r6;have xo:=kO X G y1;obtain⟨f0,A,a0,F0⟩:=L;have e:=V.symm.trans<|kO X G a0;cases e;refine⟨A,λs v=>?_,λbase _ _=>?_⟩;obtain⟨_,_,_,_,_,_,_,_,_,rfl,_,_⟩:=F0.ex;exact .of_eq rfl;have q1:=d1.cal (P:=l.prog) (w:=w) (base:=base) X G λF=>RS (n:=0) F a b f ft;have q2:=d2.cal (P:=l.prog) (w:=w) (base:=base) X G λF=>RT (n:=0) F;have q3:=d3.cal (P:=l.prog) (w:=w) (base:=base) X G λF=>RV (n:=0) F b c;have q4:=d4.cal (P:=l.prog) (w:=w) (base:=base) X G λF=>RZ (n:=0) F;have q5:=d5.cal (P:=l.prog) (w:=w) (base:=base) X G λF=>SA (n:=1) F (q4.mono<|by decide) f;have B:=d6.cal (P:=l.prog) (w:=w) (base:=base) X G λF=>SB (n:=2) F (q5.mono<|by decide) f ft;have q7:=d7.cal (P:=l.prog) (w:=w) (base:=base) X G λF=>SE (n:=3) F (B.mono<|by decide);have q9:=d9.cal (P:=l.prog) (w:=w) (base:=base) X G λF=>RX (n:=0) F du k;have q8:=d8.cal (P:=l.prog) (w:=w) (base:=base) X G λF=>SC (n:=3) F (B.mono<|by decide) (q9.mono<|by decide);have I:=z.cal (P:=l.prog) (w:=w) (base:=base) X G λF=>SG (n:=1) F (q2.mono<|by decide);have O:=d11.cal (P:=l.prog) (w:=w) (base:=base) X G λF=>SM (n:=4) F (q2.mono<|by decide) (q3.mono<|by decide) (B.mono<|by decide) (q8.mono<|by decide) a;have H:=d18.cal (P:=l.prog) (w:=w) (base:=base) X G λF=>SR (n:=1) F (q4.mono<|by decide) a;have R:=Z.cal (P:=l.prog) (w:=w) (base:=base) X G λF=>SI (n:=0) F;have S:=d15.cal (P:=l.prog) (w:=w) (base:=base) X G λF=>SO (n:=5) F (R.mono<|by decide) (O.mono<|by decide) (q8.mono<|by decide) (q7.mono<|by decide) xo;have C:=M.cal (P:=l.prog) (w:=w) (base:=base) X G λF=>SU (n:=0) F i6 a;have U:=d17.cal (P:=l.prog) (w:=w) (base:=base) X G λF=>SZ (n:=0) F gz;have q14:=d14.cal (P:=l.prog) (w:=w) (base:=base) X G λF=>TC (n:=1) F (q3.mono<|by decide);have j:=d12.cal (P:=l.prog) (w:=w) (base:=base) X G λF=>TL (n:=6) F (I.mono<|by decide) (q5.mono<|by decide) (H.mono<|by decide) (S.mono<|by decide) (C.mono<|by decide) (U.mono<|by decide) (q14.mono<|by decide) a b f;have t:=d20.cal (P:=l.prog) (w:=w) (base:=base) X G λF=>RM (n:=0) F jh;have yp:=Q.cal (P:=l.prog) (w:=w) (base:=base) X G λF=>RN (n:=1) F (t.mono<|by decide) a8;have q21:=y.cal (P:=l.prog) (w:=w) (base:=base) X G λF=>TM (n:=2) F (yp.mono<|by decide);have q22:=N.cal (P:=l.prog) (w:=w) (base:=base) X G λF=>QR (n:=0) F du k a8;have d:=d23.cal (P:=l.prog) (w:=w) (base:=base) X G λF=>QN (n:=0) F a;have m:=d24.cal (P:=l.prog) (w:=w) (base:=base) X G λF=>QV (n:=1) F (d.mono<|by decide) c a dq;have p:=d25.cal (P:=l.prog) (w:=w) (base:=base) X G λF=>QZ (n:=1) F (d.mono<|by decide) a b c;have o:=r.cal (P:=l.prog) (w:=w) (base:=base) X G λF=>RC (n:=2) F (p.mono<|by decide) c a b;have q:=D.cal (P:=l.prog) (w:=w) (base:=base) X G λF=>RE (n:=3) F (d.mono<|by decide) (m.mono<|by decide) (o.mono<|by decide) c dq a b jd;have q28:=E.cal (P:=l.prog) (w:=w) (base:=base) X G λF=>RI (n:=1) F (d.mono<|by decide) b;have u:=x.cal (P:=l.prog) (w:=w) (base:=base) X G λF=>RJ (n:=2) F (d.mono<|by decide) (q28.mono<|by decide) a k c b f;have T:=Y.cal (P:=l.prog) (w:=w) (base:=base) X G λF=>TN (n:=7) F (j.mono<|by decide);have i:=J.cal (P:=l.prog) (w:=w) (base:=base) X G λF=>TR (n:=0) F c;exact(ME (n:=8) F0 (q22.mono<|by decide) (q.mono<|by decide) (u.mono<|by decide) (T.mono<|by decide) (q1.mono<|by decide) (i.mono<|by decide) (yp.mono<|by decide) (q21.mono<|by decide) c a).mono<|by decide
def walk{l:PySem.W.OpenLaw}{q:lH}{v:oA Str}{y:(Str->oB lC)->lL->Prop}{g:lI->lL->Prop}{d:DefRec}{K:Params->lG}(hn:l.most=some 63)(p:d.params.defaults=[])
  (j:∀(w:lI) (h:lL),g w h->(K w.params).In h) (F:∀(w:lI) (c:Str->oB lC) (i:lF) (h:lL),(K w.params).In h->h.Ns mainGlobals c->c d.name=some (.ref i) ->
   ∃e:lO,(∀(s:lD) (u:lC),BindsTo s e ⟨[u],[]⟩ [("_law_script",u)])/\∀b:lL,(K w.params).In b->b.Ns mainGlobals c->FnOk l.prog w (K w.params) c b Dx 65 i e oS (Sy<|K w.params)) :
  PySem.W.WalkO q v y g l.row.toRowW d [] (λf o=>PySem.call f o) :=
 L2.walk_of (n:=63) (k:=65) (x := "_law_script") (CX:=λ_=>Dx) (sp:=λw=>Sy<|K w.params) hn (by decide) p ⟨rfl,by decide,by decide,rfl⟩ j F (λ_ _ a ns m t r=>⟨a,ns,rfl,r,t,m,λ_=>rfl⟩) λ_ _ _ _ _ z=>z
end K51
namespace PySem.W.Fast
def tw18048965350860802095:True:=trivial
def tw958986912280531152:True:=trivial
def tw7156460917370870698:True:=trivial
def tw4116083217279720684:True:=trivial
def tw2131505212627469847:True:=trivial
def tw16305057822254158359:True:=trivial
def tw13573341575662243208:True:=trivial
def tw7437825577371569786:True:=trivial
def tw16680407641000125417:True:=trivial
def tw6656202892108712031:True:=trivial
def tw2546844854045891208:True:=trivial
def tw12190958943825513479:True:=trivial
def tw9495639677725922374:True:=trivial
def tw9567715576117890204:True:=trivial
def tw2134244786161968033:True:=trivial
def tw4494761820292884403:True:=trivial
def tw3307574615673553597:True:=trivial
def tw7785720290219986057:True:=trivial
def tw14744581346414427984:True:=trivial
def tw4137136340832650421:True:=trivial
def tw12377160121760327506:True:=trivial
def tw16526998674650442734:True:=trivial
def tw1267968728933560918:True:=trivial
def tw6887902468016205079:True:=trivial
def tw16501337932205828410:True:=trivial
def tw14745366022989195642:True:=trivial
def tw15212244002247415056:True:=trivial
def tw7155427463633506340:True:=trivial
def tw12485076216719975683:True:=trivial
def tw17318297682751942601:True:=trivial
def tw10937646566102735262:True:=trivial
def tw9001327206941300941:True:=trivial
def tw1554142525889766554:True:=trivial
def tw9663197716812026837:True:=trivial
def tw2881171417823562286:True:=trivial
def tw3954968784164661582:True:=trivial
def tw4272732612748354337:True:=trivial
def tw15669069915219556707:True:=trivial
def tw1506603820023790978:True:=trivial
def tw9186746316033656957:True:=trivial
def tw7526854653908943807:True:=trivial
def tw1402559807190662536:True:=trivial
def tw3898295888819831792:True:=trivial
def tw15368174080647971115:True:=trivial
def tw9293602958146508068:True:=trivial
def tw11166047646500639375:True:=trivial
def tw17950720962851317858:True:=trivial
def tw15841269343905569311:True:=trivial
def tw7785916694916489992:True:=trivial
def tw959338176909458019:True:=trivial
def tw11637608334996747753:True:=trivial
def tw3652120052481644441:True:=trivial
def tw15332354122097146336:True:=trivial
def tw5864605845540023737:True:=trivial
def tw15421086684304646308:True:=trivial
def tw11652407998295265923:True:=trivial
def tw10974986299400352736:True:=trivial
def tw7626739095324155969:True:=trivial
def tw1130195124881652194:True:=trivial
def tw3420715551955657457:True:=trivial
def tw13924279880439328513:True:=trivial
def tw1436560670096539191:True:=trivial
def tw10219308490034046722:True:=trivial
def tw6922088976092012277:True:=trivial
def tw6710515509694315404:True:=trivial
def tw8929769099471420471:True:=trivial
def tw12560807688537138937:True:=trivial
def tw8033664600408250795:True:=trivial
def tw12149034783028221928:True:=trivial
def tw2312045075985765224:True:=trivial
def tw4209649374980364202:True:=trivial
def tw11767865848697235121:True:=trivial
def tw1811550007600198928:True:=trivial
def tw85803686236358928:True:=trivial
def tw16622940344161622163:True:=trivial
def tw1232375667829244629:True:=trivial
def tw16466940338023941396:True:=trivial
def tw16789325067863916043:True:=trivial
def tw16091098894011397197:True:=trivial
def tw3812130678293191091:True:=trivial
def tw8004980629923980814:True:=trivial
def tw9700816811862823496:True:=trivial
def tw10570128922289029963:True:=trivial
def tw7026254793728979013:True:=trivial
def tw15713208788523425140:True:=trivial
def tw17236154330658716639:True:=trivial
def tw3872697377352309445:True:=trivial
def tw9566220284796824729:True:=trivial
def tw3378311235163961516:True:=trivial
def tw15663480517015628135:True:=trivial
def tw8332495399983018313:True:=trivial
def tw8756993023294595770:True:=trivial
def tw5505657622349782126:True:=trivial
def tw5144637438747890447:True:=trivial
def tw17097316871971438700:True:=trivial
def tw1961084795260716388:True:=trivial
def tw15135596909790218259:True:=trivial
def tw5723208161629095880:True:=trivial
def tw15193170403277903694:True:=trivial
def tw3855389566415212850:True:=trivial
def tw11927912418522815197:True:=trivial
def tw2133441174306066846:True:=trivial
end PySem.W.Fast
open PySem PySem.W PyProof.Rows
set_option maxRecDepth 100000 in
set_option maxHeartbeats 0 in
theorem PySem.Challenge.cw_pileduel_k51_whole_a_set_of_its_own_holds : PySem.Challenge.rw_pileduel_k51_whole_a_set_of_its_own.Holds := by
 w_on;o_law;k_head;(case hw=>w_witness2)
 k_fill
 refine K51.walk (l:=PySem.Challenge.rw_pileduel_k51_whole_a_set_of_its_own) rfl rfl (fun w h Y=>PySem.W.kIn_of Y) ?F
 case F =>
  intro w mg fa h KX G hmg
  refine' K51.all_mk KX G hmg ?_ ?_ ?_ ?_ ?_ ?_ ?_ ?_ ?_ ?_ ?_ ?_ ?_ ?_ ?_ ?_ ?_ ?_ ?_ ?_ ?_ ?_ ?_ ?_ ?_ ?_ ?_ ?_ ?_ ?_ ?_ ?_ ?_ ?_ ?_ ?_ ?_ ?_ ?_ ?_ ?_ ?_ ?_ ?_ ?_ ?_
  all_goals first | (refine' K51.defat ?a ?l ?c ?k;(case a=>k_is);(case l=>k_is);(case c=>k_is);(case k=>k_is)) | (refine' K51.defad ?a ?l ?c ?k ?l2;(case a=>k_is);(case l=>k_is);(case c=>k_is);(case k=>k_is);(case l2=>k_is)) | k_is | skip
