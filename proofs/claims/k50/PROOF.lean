import PyProof.Rows.All
import Wide.All
import OpenK.AllK
import Wide.FinOn
import Lean
import PyProof.EqAt
import PyProof.EqKinds
import PyProof.TupleCall
import PyProof.CompFree
import PyProof.CompUse
import PyProof.CollectIter
import PyProof.ListNew
import KE.KRevIter
import PyProof.EnumMake
import PyProof.Draws
import PyProof.TupleIter
import PyProof.WalksMore
import PyProof.ReprRoads
import PyProof.P3Eq
import PyProof.NeData
import PyProof.EqLayable
import PyProof.Rows.RegFStrParts
import PyProof.AutoListH
import KE.KItemsList
import KE.KDictList
import PyProof.StrBlockG
import PyProof.StrLawsOcc
import PyProof.StrLawsTight
import PyProof.StrLawsChain
import PyProof.Rows.Range3
import PyProof.MinMaxWalk
import PyProof.WalkInts
import PyProof.ExcClass3
import PyProof.ExcInit
import PyProof.InstStoreFacts
import PyProof.ExcArgsOwn
import KE.KIsAll
import PyProof.RaisesMany
import PyProof.RulesTry
import PyProof.Raises
import PyProof.RulesAs
import PyProof.NsDelKeeps
import PyProof.PassesOwn
import PyProof.Rows.CatchHere
import KE.KSortTup
import PyProof.FactsAll.tuple_2
import PyProof.TupleKey
import PyProof.Rows.RowHeap
import PyProof.SetKind
import PyProof.SetNew
import PyProof.DictIter
import PyProof.CollectWalk
import PyProof.Walks
import PyProof.ZipIter
import KE.KRevSl
import KE.KStateDown
import PyProof.SetRoads
import PyProof.SumWalk
import PyProof.CallStr
import PyProof.FactsAll.tuple_3
import PyProof.StrLawsIn
import PyProof.Rows.RuleM_int
import PyProof.FactsAll.dict_3
import KE.KItemsList
import PyProof.Rows.TupDisplay
import PyProof.FactsAll.dict_itemiterator_1
import PyProof.DictWalks
import PyProof.IsiH_list
import KE.KDictOf
import PySem.Challenge.RW_pileduel_k50_whole_nothing_is_lost
set_option Elab.async false
set_option linter.all false
set_option compiler.extract_closed false
set_option maxRecDepth 100000
def A_:=@PySem.wpAny_bind
def B_:=@List.length_map
def C_:=@PySem.wpAny_pure
def DD:=@PySem.Heap.get?_push_of_some
def D_:=@List.getElem?_eq_some_iff
def E_:=@List.mem_map
def F_:=@Nat.le_refl
def G_:=@List.mem_singleton
abbrev H_:=@if_neg
def I_:=@Nat.le_trans
def J_:=@Option.map_eq_some_iff
def K_:=@List.getElem?_eq_getElem
def L_:=@List.map_append
def M_:=@List.getElem?_map
def N_:=@List.length_append
def O_:=@PySem.Heap.get?_push_size
abbrev P_:=@if_pos
def Q_:=@PySem.Heap.lt_size
def R_:=@List.mem_append
def S_:=@Nat.lt_of_lt_of_le
def T_:=@PyProof.Rows.wpS_bind
def U_:=@Bool.false_ne_true
def V_:=@PySem.W.mg_of
def W_:=@PyProof.Rows.wpS_pure
def X_:=@List.size_toArray
def Y_:=@PySem.Heap.get?_update_self
def Z_:=@Bool.and_eq_true
def aA:=@List.mem_of_getElem?
def aB:=@List.map_map
abbrev aC:=@of_decide_eq_true
def aD:=@PySem.Heap.get?_update_other
def aE:=@List.mem_cons_of_mem
def aF:=@List.mem_append_left
def aG:=@PySem.boot_len
def aH:=@PySem.wpAny_field
def aJ:=@PySem.wpAny_newObj_type
def aK:=@List.mem_cons
abbrev aL:=@decide_eq_false
def aM:=@Nat.ne_of_lt
def aN:=@List.take_length
def aO:=@PySem.PassesOwn.never
abbrev aP:=@decide_eq_true
def aQ:=@Array.getElem?_setIfInBounds
def aR:=@List.mem_cons_self
def aS:=@List.take_succ
def aT:=@List.mem_append_right
def aU:=@List.length_take
def aV:=@PySem.wpAny_callSpecial?_slot
def aW:=@PySem.wpAny_call_entry
def aX:=@List.length_cons
def aY:=@PySem.Obj.data_mapFields
abbrev aZ:=@decide_eq_true_iff
def a_:=@List.map_cons
def bA:=@Nat.le_succ_of_le
def bB:=@List.nodup_append
def bC:=@Option.some.inj
def bD:=@PySem.Calls.spliced_cons
def bE:=@PySem.W.mg_none_of
def bF:=@PySem.Heap.SameBut.update
def bG:=@List.length_range
def bH:=@Nat.zero_le
def bI:=@PySem.wpAny_setField
def bJ:=@PyProof.Rows.callWith_type1
def bK:=@List.mem_filter
def bL:=@PySem.Paired.length
def bM:=@PySem.wpAny_holding
def bN:=@PySem.wpAny_Call_Name_kw
def bO:=@List.nodup_nil
def bP:=@List.any_eq_true
def bQ:=@Array.getElem?_eq_getElem
def bR:=@List.drop_eq_getElem_cons
abbrev bS:=@Classical.byContradiction
def bT:=@Array.getElem?_toList
def bU:=@PySem.wpAny_mono
abbrev bV:=@congrArg
abbrev bW:=@Ne.symm
def bX:=@List.length_filter_le
def bY:=@List.all_eq_true
def bZ:=@Bool.not_eq_true'
def b_:=@List.getElem?_append_right
def cB:=@PySem.Heap.size_push
def cD:=@List.getD_eq_getElem?_getD
def cF:=@Nat.le_succ
def cH:=@List.append_nil
def cJ:=@List.nodup_cons
abbrev cK:=@Exists.elim
def cL:=@PySem.Calls.spliced_nil
def cN:=@Nat.lt_of_succ_lt
def cP:=@Nat.lt_irrefl
def cQ:=@PySem.F.slot_list_append
def cU:=@PySem.F.type_list_append
def cV:=@PyProof.Rows.slot_tuple_getitem
def cW:=@PySem.Obj.isFreed_of_fields
def cX:=@Int.toNat_natCast
def cY:=@Nat.lt_succ_of_lt
def cZ:=@List.eq_nil_of_length_eq_zero
def c_:=@List.getElem?_append_left
def dA:=@List.take_of_length_le
def dB:=@List.lookup_cons
def dC:=@PySem.Heap.size_update
def dD:=@PySem.W.Looks.ld
def dE:=@List.mem_flatMap
def dF:=@PySem.builtinLookup_eq_fast
def dG:=@PySem.wpAny_truthy_bool
def dH:=@PySem.wpAny_dictEntries
def dI:=@PyProof.Rows.boot_tuple
def dJ:=@Array.getElem?_eq_some_iff
def dL:=@List.filter_append
def dM:=@PySem.W.kia_one
def dN:=@List.length_drop
def dO:=@List.drop_length
def dP:=@Nat.le_add_right
def dQ:=@List.exists_mem_of_ne_nil
def dS:=@Array.length_toList
def dU:=@List.getElem_of_mem
def dW:=@List.mem_range
def dX:=@Nat.ne_of_gt
def dY:=@Int.natCast_nonneg
def dZ:=@List.mem_of_mem_take
def d_:=@PySem.wpAny_attempt
def eB:=@Nat.le_of_lt
def eC:=@PySem.wpAny_rule
abbrev eD:=@beq_eq_false_iff_ne
def eE:=@Array.toList_append
def eF:=@PySem.wpAny_of_eq
def eG:=@PySem.wpAny_isInstance
abbrev eI:=@of_decide_eq_false
def eJ:=@PySem.wpAny_setField_rec
def eK:=@PySem.wpAny_typeNameOfWhole_itemiter
def eL:=@List.any_cons
def eM:=@PySem.F.slot_list_extend
def eO:=@PySem.F.type_list_extend
def eQ:=@PySem.Around.under_plainId
def eU:=@PySem.wpAny_typeNameOfWhole_keyiter
def eV:=@PySem.wpAny_fieldsOf
def eX:=@List.take_sublist
def eY:=@PySem.wpAny_specialOf
def eZ:=@PySem.typeLookup_type
def e_:=@PySem.codeAny_builtin
def fA:=@PySem.wpAny_dictEpoch
def fB:=@PyProof.Rows.wpS_modify
def fC:=@PySem.W.looks_mroIn
def fD:=@List.map_congr_left
def fE:=@Nat.lt_succ_self
def fF:=@List.filter_cons
abbrev fG:=@decide_eq_decide
def fH:=@PySem.tupleKind_room_in1
def fJ:=@Nat.lt_of_le_of_lt
def fK:=@PySem.Code.quiet_builtin
def fL:=@List.getElem?_eq_none
def fM:=@PySem.wpAny_typeNameOf_itemiter
def fN:=@PySem.wpAny_passesOwn
def fO:=@PySem.wpAny_updateSeq
def fP:=@List.foldl_cons
def fQ:=@PySem.wpAny_loadPart_at
def fS:=@PySem.wpAny_pyIter_slot
def fU:=@PySem.wpAny_standAt
def fV:=@PySem.plainId_quiet
def fW:=@PySem.wpAny_typeNameOf_keyiter
def fX:=@Int.ofNat.inj
def fY:=@List.sum_cons
def fZ:=@PySem.mem_of_lookup
def f_:=@PySem.F.plainAttrs_dict
def gA:=@PySem.wpAny_seqItems
def gB:=@PySem.wpAny_getItem_str_slice
def gC:=@PyProof.Rows.wpS_mono
def gD:=@Nat.succ_le_succ
def gE:=@PySem.wpAny_typeNameOfWhole_valiter
def gF:=@PySem.Calls.callWith_builtin
def gG:=@Nat.le_of_eq
def gH:=@Nat.lt_or_ge
def gI:=@Array.getElem?_eq_none
def gJ:=@PySem.wpAny_isOneOf_itemiter
def gK:=@PyProof.Rows.wpS_forRange
def gL:=@PySem.wpAny_execs_nil
def gM:=@Bool.or_eq_true
def gN:=@PySem.wpAny_notOrdered_dict
def gO:=@PyProof.Rows.boot_all
def gP:=@PySem.Heap.get?_push_at
abbrev gQ:=@beq_iff_eq
def gR:=@List.drop_zero
def gS:=@List.mem_of_mem_drop
def gT:=@List.getElem_mem
def gU:=@Int.emod_eq_emod_iff_emod_sub_eq_zero
def gV:=@List.extract_eq_take_drop
def gW:=@List.length_reverse
def gX:=@List.filter_sublist
def gY:=@PySem.F.args_tuple_add_2
def gZ:=@PySem.wpAny_handled
def g_:=@PySem.F.slot_dict_itemiterator_iter
def hJ:=@List.map_take
def h_:=@PyProof.Rows.boot_sorted
def iA:=@List.of_mem_zip
def iB:=@Bool.eq_iff_iff
def iC:=@PySem.wpAny_loadPart'
def iE:=@Nat.min_eq_left
def iF:=@Int.emod_nonneg
def iG:=@PyProof.Rows.assignInOrder_cons
def iH:=@PySem.wpAny_pyIter_tuple
def iI:=@Nat.pos_of_ne_zero
def iJ:=@Bool.not_eq_false'
abbrev iK:=@Sum.inl.inj
def iL:=@PySem.sizeLine_eq
def iM:=@PySem.F.entry_tuple_add
def iN:=@PySem.wpAny_letGo
def iO:=@List.getElem?_cons_succ
def iP:=@PySem.F.slot_tuple_add
def iQ:=@PySem.wpAny_typeOf
def iR:=@List.reverse_cons
def iS:=@Option.isSome_map
def iT:=@PySem.call_meetsIn
def iU:=@PySem.isSubtype_type
def iW:=@PySem.wpAny_pyIter_list
def iX:=@List.ext_getElem?
def iY:=@PySem.Obj.cls_mapFields
def iZ:=@PySem.WalksT.enumerateD
def i_:=@PySem.wpAny_pyIter_enum
def jA:=@List.append_assoc
def jB:=@PySem.isSubtype_stop
def jC:=@PyProof.Rows.wpS_get
def jD:=@Bool.eq_false_iff
def jE:=@PySem.plainObj_wpAny_Assign_Attribute
def jF:=@List.eraseIdx_eq_take_drop_succ
def jG:=@List.length_singleton
def jH:=@PySem.F.slot_dict_get
def jI:=@PySem.wpAny_isOneOf_keyiter
def jJ:=@PySem.wpAny_isOneOf_valiter
def jK:=@PyProof.Rows.callWith_builtin1
abbrev jL:=@beq_self_eq_true
def jM:=@Nat.succ_ne_self
def jN:=@Nat.not_lt_of_le
def jO:=@Nat.sub_le
def jP:=@Nat.min_eq_right
def jQ:=@PySem.Heap.get?_none_of_le
def jR:=@PySem.Calls.evalArgs_plain
def jS:=@List.length_dropLast
def jT:=@PySem.Paired.snoc
def jU:=@PySem.wpAny_throw
def jV:=@PySem.codeAny_call_builtin
def jW:=@PySem.W.looks_findIn
def jX:=@Int.le_refl
def jY:=@Array.toList_extract
def jZ:=@PySem.post_val_or_str
def j_:=@Bool.decide_and
def kC:=@List.filterMap_cons
def kD:=@Nat.add_le_add_left
def kE:=@PySem.W.looks_clsIn
def kF:=@List.length_pos_iff
def kG:=@Int.toNat_of_nonneg
def kH:=@List.take_succ_cons
def kI:=@Nat.sub_zero
def kJ:=@Nat.zero_add
abbrev kK:=@Prod.ext
def kL:=@Nat.not_lt
def kM:=@Int.emod_lt_of_pos
def kN:=@List.ne_nil_of_mem
def kO:=@PySem.W.kitx_dict
def kP:=@PySem.Heap.SameBut.refl
def kQ:=@List.flatten_cons
def kS:=@List.filter_congr
def kT:=@Bool.false_or
def kU:=@List.map_drop
def kW:=@List.getElem_inj
def kX:=@PySem.wpAny_execs_cons
def kY:=@PySem.noFill_tuple_add
def kZ:=@PySem.SeqAt.eqAt_reads
def k_:=@PySem.W.any_some
def lA:=@PyProof.Rows.wpS_lift
def lB:=@List.mem_flatten
def lC:=@PySem.wpAny_call
def lD:=@PySem.codeAny_mono
def lE:=@PySem.Txt.slice_le
def lF:=@Nat.sub_self
def lG:=@Nat.sub_lt
def lH:=@Int.zero_add
def lI:=@Int.ofNat_lt
abbrev lJ:=@PySem.Value
abbrev lK:=@PySem.Shared
abbrev lL:=@PySem.PyData
abbrev lM:=@PySem.Addr
abbrev lN:=@PySem.W.Frag
abbrev lO:=@PySem.Program
abbrev lP:=@PySem.World
abbrev lQ:=@PySem.Expr
abbrev lR:=@PySem.Around
abbrev lS:=@PySem.Heap
abbrev lT:=@PySem.Obj
abbrev lU:=@PySem.Stmt
abbrev lV:=@PySem.FuncData
abbrev lW:=@PyProof.Rows.Keyed
abbrev lX:=@PySem.Scope
abbrev lY:=@PySem.NameKind
abbrev lZ:=@PySem.Result
abbrev l_:=@PyProof.Rows.SortSt
abbrev mC:=@PyProof.Rows.SortKind
abbrev oA:=List
abbrev oB:=Option
abbrev oC:=Array
def oI{α:Type}{a:α}{p:Prop}:a=a∨p:=.inl rfl
def oJ{α:Type}{a:α}{p:Prop}:p∨a=a:=.inr rfl
abbrev yL{α:Type}(p:PySem.Program)(w:PySem.World):=@PySem.wpAny α<|PySem.model p w
namespace L2
def K9{c:Sort _}{a b:c->Prop}{P:Prop}(h:∃x,a x/\b x)(k:∀x,a x->b x->P):P:=cK h λx y=>k x y.1 y.2
def Cm{e d:Sort _}{a b c:e->d->Prop}{P:Prop}(h:∃x y,a x y/\b x y/\c x y)(k:∀x y,a x y->b x y->c x y->P):P:=cK h λx h=>cK h λy h=>k x y h.1 h.2.1 h.2.2
def B5{g e f:Sort _}{a b c d:g->e->f->Prop}{P:Prop}(h:∃x y z,a x y z/\b x y z/\c x y z/\d x y z)(k:∀x y z,a x y z->b x y z->c x y z->d x y z->P):P:=cK h λx h=>cK h λy h=>cK h λz h=>k x y z h.1 h.2.1 h.2.2.1 h.2.2.2
def Ev{j i f g:Sort _}{a b c d e:j->i->f->g->Prop}{P:Prop}(h:∃x y z u,a x y z u/\b x y z u/\c x y z u/\d x y z u/\e x y z u)(k:∀x y z u,a x y z u->b x y z u->c x y z u->d x y z u->e x y z u->P):P:=cK h λx h=>cK h λy h=>cK h λz h=>cK h λu h=>k x y z u h.1 h.2.1 h.2.2.1 h.2.2.2.1 h.2.2.2.2
def Qcj{l j g i:Sort _}{a b c d e f:l->j->g->i->Prop}{P:Prop}(h:∃x y z u,a x y z u/\b x y z u/\c x y z u/\d x y z u/\e x y z u/\f x y z u)(k:∀x y z u,a x y z u->b x y z u->c x y z u->d x y z u->e x y z u->f x y z u->P):P:=cK h λx h=>cK h λy h=>cK h λz h=>cK h λu h=>k x y z u h.1 h.2.1 h.2.2.1 h.2.2.2.1 h.2.2.2.2.1 h.2.2.2.2.2
def Fc{l j e i f g:Sort _}{a b c d:l->j->e->i->f->g->Prop}{P:Prop}(h:∃x y z u v w,a x y z u v w/\b x y z u v w/\c x y z u v w/\d x y z u v w)(k:∀x y z u v w,a x y z u v w->b x y z u v w->c x y z u v w->d x y z u v w->P):P:=cK h λx h=>cK h λy h=>cK h λz h=>cK h λu h=>cK h λv h=>cK h λw h=>k x y z u v w h.1 h.2.1 h.2.2.1 h.2.2.2
open PySem PySem.Spec PyProof.Rows
abbrev Key:=Sum Int Str
def Lk:Key->lJ->Bool
 |.inl k,v=>Value.isInt k v
 |.inr x,v=>Value.isStrOf x v
def HY(w:lP):Key->Int
 |.inl k=>hashInt k
 |.inr x=>hashStr w x
def keyIs_shape:∀{k:Key} {v:lJ},Lk k v=true->(∃i t,k=Sum.inl i/\v=Value.int i t)\/(∃x t,k=Sum.inr x/\v=Value.str x t)
 |.inl i,v,h=>by obtain⟨t,e⟩:=Value.isInt_shape (k:=i) (v:=v) h;exact .inl ⟨i,t,rfl,e⟩
 |.inr x,v,h=>by obtain⟨t,e⟩:=Value.isStrOf_shape (x:=x) (v:=v) h;exact .inr ⟨x,t,rfl,e⟩
def Tu(i:Int)(t:Tok):Lk (.inl i) (.int i t)=true:=by simp[Lk,Value.isInt]
def Tv(x:Str)(t:Tok):Lk (.inr x) (.str x t)=true:=by simp[Lk,Value.isStrOf]
def HZ(a b:Int):decide ((Sum.inl a:Key)=Sum.inl b)=(a==b):=by by_cases e:a=b;subst e;simp;have h:¬(Sum.inl a:Key)=Sum.inl b:=λq=>e<|iK q;rw[aL h];exact(eD.mpr e).symm
def IA(a b:Str):decide ((Sum.inr a:Key)=Sum.inr b)=decide (a=b):=by by_cases e:a=b;subst e;simp;have h:¬(Sum.inr a:Key)=Sum.inr b:=λq=>e<|Sum.inr.inj q;rw[aL h,aL e]
def IB(a:Int)(b:Str):decide ((Sum.inl a:Key)=Sum.inr b)=false:=aL λq=>nomatch q
def IC(a:Str)(b:Int):decide ((Sum.inr a:Key)=Sum.inl b)=false:=aL λq=>nomatch q
def Bx(prog:lO)(w:lP):PySem.KeyKind prog w Key where
 is:=Lk
 hash:=HY w
 inj:=λv a b ha hb=>by rcases keyIs_shape ha with⟨i,t,rfl,rfl⟩|⟨x,t,rfl,rfl⟩;rcases keyIs_shape hb with⟨j,u,rfl,e⟩|⟨y,u,rfl,e⟩;injection e with e1 _;rw[e1];exact nomatch e;rcases keyIs_shape hb with⟨j,u,rfl,e⟩|⟨y,u,rfl,e⟩;exact nomatch e;injection e with e1 _;rw[e1]
 byValue:=λk v h=>by rcases keyIs_shape h with⟨i,t,rfl,rfl⟩|⟨x,t,rfl,rfl⟩<;>rfl
 pyHash:=λhv h=>by rcases keyIs_shape hv with⟨i,t,rfl,rfl⟩|⟨x,t,rfl,rfl⟩;exact wpAny_pyHash_int h;exact wpAny_pyHash_str h
 eqBool:=λhu hv h=>by rcases keyIs_shape hu with⟨i,t,rfl,rfl⟩|⟨x,t,rfl,rfl⟩;rcases keyIs_shape hv with⟨j,u,rfl,rfl⟩|⟨y,u,rfl,rfl⟩;rw[HZ]at h;exact wpAny_eqBool_int h;rw[IB]at h;exact SeqAt.EqAt.int_str i t y u _ _ _ _ h;rcases keyIs_shape hv with⟨j,u,rfl,rfl⟩|⟨y,u,rfl,rfl⟩;rw[IC]at h;exact SeqAt.EqAt.str_int x t j u _ _ _ _ h;rw[IA]at h;exact wpAny_eqBool_str h
 «strs»:=λk x t v h=>by rcases keyIs_shape h with⟨i,u,rfl,e⟩|⟨y,u,rfl,e⟩;exact nomatch e;injection e with e1 _;subst e1;cases v<;>rfl
def N4(prog:lO)(w:lP)(i:Int)(t:Tok):(Bx prog w).is (.inl i) (.int i t)=true:=Tu i t
def N5(prog:lO)(w:lP)(x:Str)(t:Tok):(Bx prog w).is (.inr x) (.str x t)=true:=Tv x t
end L2
namespace L2
open PySem PySem.Spec PyProof.Rows
inductive V where
 |non|bl (b:Bool)|int (i:Int)|str (x:Str)|byt (b:oC UInt8)|flt (b:UInt64)|ref (a:lM)|ty (n:String)
 deriving DecidableEq
def Bf:V->lJ->Prop
 |.non,u=>u=Value.none
 |.bl b,u=>u=Value.bool b
 |.int i,u=>∃t,u=Value.int i t
 |.str x,u=>∃t,u=Value.str x t
 |.byt b,u=>∃t,u=Value.bytes b t
 |.flt b,u=>∃t,u=Value.float b t
 |.ref a,u=>u=Value.ref a
 |.ty n,u=>u=Value.type n
abbrev Vals:oA V->oA lJ->Prop:=Paired Bf
def Vals.length{xs:oA V}{a:oA lJ}(r:Vals xs a):xs.length=a.length:=bL r
theorem Vals.get:∀{xs:oA V} {a:oA lJ} {i:Nat} {x:V},Vals xs a->xs[i]?=some x->∃u,a[i]?=some u/\Bf x u
 |_,_,_,_,.nil,e=>by simp at e
 |_,_,0,_,.cons r _,e=>by simp at e;subst e;exact⟨_,rfl,r⟩
 |_,_,i+1,x,.cons _ t,e=>by obtain⟨u,h1,h2⟩:=Vals.get (i:=i) (x:=x) t (by simpa using e);exact⟨u,by simpa using h1,h2⟩
theorem Vals.append:∀{xs ys:oA V} {a b:oA lJ},Vals xs a->Vals ys b->Vals (xs++ys) (a++b)
 |_,_,_,_,.nil,s=>s
 |_,_,_,_,.cons r t,s=>.cons r<|Vals.append t s
theorem Vals.take:∀{xs:oA V} {a:oA lJ} (n:Nat),Vals xs a->Vals (xs.take n) (a.take n)
 |_,_,0,_=>.nil
 |_,_,_+1,.nil=>.nil
 |_,_,n+1,.cons r t=>.cons r<|Vals.take n t
theorem Vals.drop:∀{xs:oA V} {a:oA lJ} (n:Nat),Vals xs a->Vals (xs.drop n) (a.drop n)
 |_,_,0,r=>r
 |_,_,_+1,.nil=>.nil
 |_,_,n+1,.cons _ t=>Vals.drop n t
def Fs:oB V->oB lJ->Prop
 |some v,some u=>Bf v u
 |none,none=>True
 |_,_=>False
def KV{a:Type}:oA (a×V)->oA (a×lJ)->Prop:=Paired λ(p:a×V) (q:a×lJ)=>p.1=q.1/\Bf p.2 q.2
def kV:Key->V
 |.inl i=>.int i
 |.inr x=>.str x
mutual
def GI(w:lP):lL->Int
 |.int i=>HY w (.inl i)
 |.str x=>HY w (.inr x)
 |.tuple a=>reduceHash (Builtin.Tuple.tupleHashOf<|V7 w a)
 |_=>0
def V7(w:lP):oA lL->oA Int
 |[]=>[]
 |d::a=>GI w d::V7 w a
end
def ZD(w:lP)(x:lL×lM×lJ):DictEntry:=⟨GI w x.1,.ref x.2.1,x.2.2⟩
def ZE(w:lP)(h:lS)(a:lM)(xs:oA<|lL×lM×lJ):Prop :=
 ∃o b c,h.get? a=some o/\o.ExactDict/\o.data=.dict b c/\b.toList=xs.map (ZD w)/\(xs.map (·.1)).Nodup/\(a==sysModules)=false/\xs.length<=sizeLine
inductive HO where
 |lst (xs:oA V)
 |tup (xs:oA V)
 |dK (kvs:oA<|Key×V)|dT (kvs:oA<|oA Key×V)
 |set (S:Int->Bool) (n:Nat)
 |ins (C dx:lM) (fs:oA<|Str×V)
 |own (x:lM)
 |xd (fs:oA<|Str×V)
 |met (f x:lM)
 |rng (lo hi:Int)
 |frz (o:lT) (u:HO)
 |tbl (ps:oC lJ)
 |ext (φ:lS->Prop)
 |dd (xs:oA<|lL×lM×lJ)
abbrev Hp:=lM->oB HO
def upd(H:Hp)(a:lM)(o:HO):Hp:=λb=>if b=a then some o else H b
def A3{H:Hp}{a:lM}{o:HO}:upd H a o a=some o:=by unfold upd;rw[P_ rfl]
def An{H:Hp}{a b:lM}{o:HO}(h:b≠a):upd H a o b=H b:=by unfold upd;rw[H_ h]
def N6{H:Hp}{a b:lM}{o u:HO}(h:H a=some o)(h':H b=some u)(d:o≠u):a≠b:=by intro e;subst e;rw[h]at h';exact d<|bC h'
def Bw{H:Hp}{a b:lM}{o:HO}(h:H a=some o)(h':H b=none):a≠b:=by intro e;subst e;rw[h]at h';cases h'
section
variable(P:lO)(w:lP)
def Bh(H:Hp)(h:lS)(a:lM):HO->Prop
 |.lst c=>c.length<=sizeLine/\∃(e:oA lJ) (n:Nat),Vals c e/\h.get? a=some {cls:=.type "list",data:=.seq e.toArray n}
 |.tup c=>c.length<=sizeLine/\∃e:oA lJ,Vals c e/\IsTup h a e.toArray
 |.dK b=>b.length<=sizeLine/\(a==sysModules)=false/\∃k,KV b k/\h.DictOf (Bx P w) a k
 |.dT b=>b.length<=sizeLine/\(a==sysModules)=false/\∃c:oA<|oA Key×lM×lJ,
   Paired (λ(p:oA Key×V) (q:oA Key×lM×lJ)=>p.1=q.1/\H q.2.1=some (.tup<|p.1.map kV)/\Bf p.2 q.2.2) b c /\
   ∃o l r,h.get? a=some o/\o.ExactDict/\o.data=.dict l r/\l.toList=c.map (entryOfKey<|tupleKind<|Bx P w)/\(c.map (·.1)).Nodup
 |.set S n=>h.SetOf (intKind P w) a S n
 |.ins C i g=>H i=some (.own a)/\g.length<=1000/\i≠a/\h.get? a=some (PySem.W.instObj C i) /\
   ∃d,h.Ns1 i d/\(∀f,Fs (g.lookup f)<|d f)/\PySem.Within d (g.map (·.1))
 |.own _=>∃o,h.get? a=some o
 |.xd g=>∃d,h.Ns1 a d/\∀f,Fs (g.lookup f) (d f)
 |.rng lo hi=>∃t u v,h.get? a=some {cls:=.type "range",data:=.fields #[.int lo t,.int hi u,.int 1 v]}
 |.frz o u=>h.get? a=some o/\Bh H h a u
 |.tbl m=>h.get? a=some {cls:=.none,data:=.fields m}
 |.met f x=>h.get? a=some (PySem.W.methodObj (.ref f)<|.ref x)
 |.ext j=>j h/\(∃o,h.get? a=some o)/\∀h1 h2:lS,j h1->(∀o,h1.get? a=some o->h2.get? a=some o)->j h2
 |.dd c=>ZE w h a c
def HOk(H:Hp)(h:lS):Prop:=∀a o,H a=some o->Bh P w H h a o
end
section
variable {P:lO}{w:lP}{H H':Hp}{h h':lS}{a:lM}{o:HO}{x e:lM}{o':HO}{fs fs' ex ex':oA lM}{H1 H2:Hp}{h1 h2:lS}
theorem Bh.lt(x:Bh P w H h a o):a<h.objs.size:=by
 cases o with
 |lst c=>obtain⟨_,_,_,_,e⟩:=x;exact Q_ e
 |tup c=>obtain⟨_,_,_,p⟩:=x;exact p.lt
 |dK b=>obtain⟨_,_,_,_,o,_,_,e,_⟩:=x;exact Q_ e
 |dT b=>obtain⟨_,_,_,_,o,_,_,e,_⟩:=x;exact Q_ e
 |set S n=>obtain⟨o,_,_,_,e,_⟩:=x;exact Q_ e
 |ins C j fs=>obtain⟨_,_,_,e,_⟩:=x;exact Q_ e
 |own y=>obtain⟨_,e⟩:=x;exact Q_ e
 |xd fs=>obtain⟨_,⟨_,_,_,e,_⟩,_⟩:=x;exact Q_ e
 |rng lo hi=>obtain⟨_,_,_,e⟩:=x;exact Q_ e
 |frz i u=>obtain⟨e,_⟩:=x;exact Q_ e
 |tbl g=>exact Q_ (show h.get? a=some _ from x)
 |met f y=>exact Q_ (show h.get? a=some _ from x)
 |ext d=>obtain⟨_,⟨_,e⟩,_⟩:=x;exact Q_ e
 |dd c=>obtain⟨_,_,_,e,_⟩:=x;exact Q_ e
theorem Paired.mapP{i g:Type}{F G:i->g->Prop}:∀{d:oA i} {c:oA g},Paired F d c->(∀a b,F a b->G a b)->Paired G d c
 |_,_,.nil,_=>.nil
 |_,_,.cons r t,f=>.cons (f _ _ r)<|Paired.mapP t f
def Bh.stay(x:Bh P w H h a o)(k:∀b u,(b=a\/H b=some (.own a))->h.get? b=some u->h'.get? b=some u) (G:∀b,H b=some (.own a)->H' b=some (.own a)) (F:∀b l,H b=some (.tup l)->H' b=some (.tup l)):Bh P w H' h' a o:=by
 induction o with
 |lst l=>obtain⟨z,m,n,r,e⟩:=x;exact⟨z,m,n,r,k _ _ (.inl rfl) e⟩
 |tup l=>obtain⟨z,m,r,j,e,c⟩:=x;exact⟨z,m,r,j,k _ _ (.inl rfl) e,c⟩
 |dK s=>obtain⟨z,y,E,r,j,g,i,e,c⟩:=x;exact⟨z,y,E,r,j,g,i,k _ _ (.inl rfl) e,c⟩
 |dT s=>obtain⟨z,y,l,r,j,g,i,e,c⟩:=x;exact⟨z,y,l,Paired.mapP r λp q z=>⟨z.1,F _ _ z.2.1,z.2.2⟩,j,g,i,k _ _ (.inl rfl) e,c⟩
 |set S n=>obtain⟨j,g,i,t,e,c⟩:=x;exact⟨j,g,i,t,k _ _ (.inl rfl) e,c⟩
 |ins C M fs=>obtain⟨d,z,ne,e,B,⟨A,g,i,I,c⟩,r⟩:=x;exact⟨G _ d,z,ne,k _ _ (.inl rfl) e,B,⟨A,g,i,k _ _ (.inr d) I,c⟩,r⟩
 |own y=>obtain⟨j,e⟩:=x;exact⟨j,k _ _ (.inl rfl) e⟩
 |xd fs=>obtain⟨B,⟨A,g,i,e,c⟩,r⟩:=x;exact⟨B,⟨A,g,i,k _ _ (.inl rfl) e,c⟩,r⟩
 |rng lo hi=>obtain⟨t,u,v,e⟩:=x;exact⟨t,u,v,k _ _ (.inl rfl) e⟩
 |frz j u J=>obtain⟨e,q⟩:=x;exact⟨k _ _ (.inl rfl) e,J q⟩
 |tbl D=>have e:h.get? a=some {cls:=.none,data:=.fields D}:=x;show h'.get? a=some {cls:=.none,data:=.fields D};exact k a _ (.inl rfl) e
 |met f y=>have e:h.get? a=some (PySem.W.methodObj (.ref f)<|.ref y):=x;show h'.get? a=some (PySem.W.methodObj (.ref f)<|.ref y);exact k a _ (.inl rfl) e
 |ext L=>obtain⟨p,⟨o,e⟩,st⟩:=x;exact⟨st _ _ p λo q=>k _ _ (.inl rfl) q,⟨o,k _ _ (.inl rfl) e⟩,st⟩
 |dd l=>obtain⟨o,g,i,e,c⟩:=x;exact⟨o,g,i,k _ _ (.inl rfl) e,c⟩
theorem HOk.lt(x:HOk P w H h)(e:H a=some o):a<h.objs.size:=(x a o e).lt
def HOk.fresh(x:HOk P w H h)(e:h.objs.size<=a):H a=none:=by
 cases q:H a with
 |none=>rfl
 |some u=>exact absurd (S_ (x.lt q) e)<|cP _
def HOk.kept(x:HOk P w H h)(k:∀b u,h.get? b=some u->h'.get? b=some u):HOk P w H h':=λa o e=>
 (x a o e).stay (λb u _ q=>k b u q) (λ_ q=>q) λ_ _ q=>q
def HOk.laid(x:HOk P w H h)(k:∀b u,h.get? b=some u->h'.get? b=some u)(hp:h.objs.size<=a)(d:Bh P w (upd H a o) h' a o):HOk P w (upd H a o) h':=λb u e=>by have f:=x.fresh hp;by_cases hb:b=a;subst hb;rw[A3]at e;cases e;exact d;rw[An hb]at e;exact(x b u e).stay (λc v _ q=>k c v q) (λc q=>by rw[An<|Bw q f];exact q) λc g q=>by rw[An<|Bw q f];exact q
def Rd(H:Hp)(a:lM)(u:HO):Prop:=H a=some u\/∃o,H a=some (.frz o u)
def Rd.ok{P:lO}{w:lP}{H:Hp}{h:lS}{a:lM}{u:HO}(r:Rd H a u)(x:HOk P w H h):Bh P w H h a u:=by rcases r with r|⟨o,r⟩;exact x a u r;obtain⟨_,q⟩:=x a _ r;exact q
def Mut:oB HO->Prop
 |some (.lst _)=>True
 |some (.dK _)=>True
 |some (.dT _)=>True
 |some (.set _ _)=>True
 |some (.ins _ _ _)=>True
 |some (.ext _)=>True
 |some (.dd _)=>True
 |_=>False
def HOk.write(ok:HOk P w H h)(d:Mut<|H x)(he:e=x\/H e=some (.own x))(k:∀b u,b≠e->h.get? b=some u->h'.get? b=some u)(n:∃u,h'.get? e=some u)
  (i:Bh P w (upd H x o') h' x o'):HOk P w (upd H x o') h':=λb u q=>by
 have m:∀c y,H c=some (.own y)->c≠x:=λc y r z=>by subst z;rw[r]at d;exact d
 have j:∀c f,H c=some (.tup f)->c≠x:=λc f r z=>by subst z;rw[r]at d;exact d
 by_cases hb:b=x;subst hb;rw[A3]at q;cases q;exact i;rw[An hb]at q;by_cases g:b=e;have l:H b=some (.own x):=by rcases he with z|z;exact absurd (g.trans z) hb;rw[g];exact z
 rw[q]at l;cases l;obtain⟨v,hv⟩:=n;exact⟨v,by rw[g];exact hv⟩;refine(ok b u q).stay (λc v hc r=>k c v ?_ r) (λc r=>by rw[An<|m c b r];exact r) λc f r=>by rw[An<|j c f r];exact r
 rcases hc with rfl|hc;exact g;rintro rfl;rcases he with z|z;exact m c b hc z;rw[hc]at z;cases z;exact hb rfl
structure Un(fs ex:oA lM)(H H':Hp)(h h':lS):Prop where
 keep:∀b o,h.get? b=some o->H b=none->b∉fs->b∉ex->h'.get? b=some o
 slot:∀b o,h.get? b=some o->H b=none->b∈fs->b∉ex->∃sl,h'.get? b=some {o with slots:=sl}
 free:∀b o,h.get? b=some o->H b=none->b∉ex->H' b=none
 there:∀b o,h.get? b=some o->b∉ex->∃o',h'.get? b=some o'
 tups:∀b xs,H b=some (.tup xs)->H' b=some (.tup xs)
 frzs:∀b o u,H b=some (.frz o u)->H' b=some (.frz o u)
 tbls:∀b ps,H b=some (.tbl ps)->∃more,H' b=some (.tbl<|ps++more)
def Un.any(u:Un fs ex H H1 h h1){b:lM}{c:lT}(q:h.get? b=some c)(n:H b=none)(hx:b∉ex):∃d,h1.get? b=some {c with slots:=d}:=by by_cases hb:b∈fs;exact u.slot b c q n hb hx;exact⟨c.slots,u.keep b c q n hb hx⟩
def Un.kept(k:∀b u,h.get? b=some u->h'.get? b=some u):Un fs ex H H h h' :=
 ⟨λb c q _ _ _=>k b c q,λb c q _ _ _=>⟨c.slots,k b c q⟩,λ_ _ _ n _=>n,λb c q _=>⟨c,k b c q⟩,λ_ _ q=>q,λ_ _ _ q=>q,λ_ d q=>⟨#[],by rw[q];simp⟩⟩
def Un.refl:Un fs ex H H h h:=Un.kept λ_ _ q=>q
def Un.laid(k:∀b u,h.get? b=some u->h'.get? b=some u)(hp:h.objs.size<=a)(hn:H a=none):Un fs ex H (upd H a o) h h' where
 keep:=λb u q _ _ _=>k b u q
 slot:=λb u q _ _ _=>⟨u.slots,k b u q⟩
 free:=λb u q n _=>by rw[An<|aM<|S_ (Q_ q) hp];exact n
 there:=λb u q _=>⟨u,k b u q⟩
 tups:=λb c q=>by rw[An<|Bw q hn];exact q
 frzs:=λb u c q=>by rw[An<|Bw q hn];exact q
 tbls:=λb d q=>⟨#[],by rw[An<|Bw q hn,q];simp⟩
def Un.write(c:Mut<|H x)(he:e=x\/H e=some (.own x))(k:∀b u,b≠e->h.get? b=some u->h'.get? b=some u)(f:∃u,h'.get? e=some u):Un fs ex H (upd H x o) h h':=by
 have hx:∀b,H b=none->b≠x:=λb n z=>by subst z;rw[n]at c;exact c
 have hb:∀b,H b=none->b≠e:=λb n z=>by subst z;rcases he with r|r;exact hx b n r;rw[n]at r;cases r
 have hm:∀b u,H b=some u->¬Mut (some u)->b≠x:=λb u q g z=>by subst z;rw[q]at c;exact g c
 refine⟨λb u q n _ _=>k b u (hb b n) q,λb u q n _ _=>⟨u.slots,k b u (hb b n) q⟩,λb u q n _=>by rw[An<|hx b n];exact n,λb u q _=>?_,
  λb i q=>by rw[An<|hm b _ q λz=>z];exact q,λb u i q=>by rw[An<|hm b _ q λz=>z];exact q,λb j q=>⟨#[],by rw[An<|hm b _ q λz=>z,q];simp⟩⟩
 by_cases d:b=e;subst d;exact f;exact⟨u,k b u d q⟩
end
def trk(h:lS)(H:Hp):oA lM:=(List.range h.objs.size).filter λa=>(H a).isSome
def Mk(h:lS)(H:Hp):lS:=PySem.W.hideAll h<|trk h H
def Tx(h:lS)(H:Hp):(Mk h H).objs.size=h.objs.size:=PySem.W.hideAll_size _ _
def V8{h:lS}{H:Hp}{b:lM}{o:lT}(e:h.get? b=some o)(n:H b=none):(Mk h H).get? b=some o :=
 PySem.W.hideAll_get _ e λhm=>by have q:(H b).isSome=true:=(bK.mp hm).2;rw[n]at q;simp at q
def BU{h:lS}{H:Hp}{b:lM}{o:lT}(e:(Mk h H).get? b=some o):h.get? b=some o/\H b=none:=by
 have a:h.get? b=some o:=PySem.W.of_hideAll (trk h H) e;refine⟨a,?_⟩;cases q:H b with
 |none=>rfl
 |some x=>have hm:b∈trk h H:=bK.mpr ⟨dW.mpr<|Q_ a,by simp[q]⟩;have z:(Mk h H).get? b=none:=PySem.W.hideAll_none (trk h H) hm;rw[z]at e;cases e
def BV(g h:lS)(L:lM):oA (lM×lT):=(List.range h.objs.size).filterMap λa=>if a=L\/(g.get? a).isSome=true then none else(h.get? a).map λo=>(a,o)
def rest(g h:lS)(L d:lM):oA (lM×lT):=(BV g h L).filter λp=>decide (p.1≠d)
structure Mod(K:lN)(mg:Str->oB lJ)(base:lS):Prop where
 kin:K.In base
 glob:base.Ns mainGlobals mg
 blt:∃mb,base.Ns builtinsNs mb/\∀x:Str,x ≠ "__name__" -> mb x=bootBuiltins x
 nolimit:base.NoLimit
structure Cx where
 prog:lO
 w:lP
 K:lN
 mg:Str->oB lJ
 base:lS
 A:lR
 N:oA Str
 s₀:lK
 H₀:Hp
 env:Env
 outer:oA Env
 stack:oA Env
 ex:oA lM
 fn:Str->Bool
 calm:Bool
 pn:oA (lM×lT)
 xe:lJ->lK->Prop
def frs(l:oA Env):oA lM:=l.filterMap (·.frame)
abbrev Cx.fs(X:Cx):oA lM:=frs X.outer
def Vis(sc:lX)(x:Str):Prop:=sc.names.lookup x=some .local\/sc.names.lookup x=some .cell\/sc.names.lookup x=some .free
def Loc(sc:lX)(x:Str):Prop:=sc.names.lookup x=some .local\/sc.names.lookup x=some .cell
def Look(env:Env)(h:lS)(m:Str->oB lJ)(x:Str)(u:lJ):Prop :=
 (env.kindOf x=some .local/\m x=some u)\/((env.kindOf x=some .cell\/env.kindOf x=some .free)/\∃c,env.cells.lookup x=some c/\h.IsCell c (some u))
structure Cx.Ok(X:Cx):Prop where
 mod:Mod X.K X.mg X.base
 kind:X.env.scope.kind=.function
 glob:X.env.globals=mainGlobals
 blt:X.env.builtins=builtinsNs
 above:X.s₀.heap.objs.size<=X.env.locals
 inj:∀x y c,X.env.cells.lookup x=some c->X.env.cells.lookup y=some c->x=y
 has:∀x,(X.env.kindOf x=some .cell\/X.env.kindOf x=some .free)->∃c,X.env.cells.lookup x=some c
 cab:∀x c,X.fn x=true->X.env.cells.lookup x=some c->X.s₀.heap.objs.size<=c
 hd:X.calm=true->X.A.handled=none
 frames:X.A.frames=some X.stack
 stk:X.stack=X.outer\/(X.stack=X.env::X.outer/\X.env.frame=some X.env.locals)
 exf:∀b∈X.ex,b≠X.env.locals/\∀x c,X.env.cells.lookup x=some c->c≠b
 bs:∀b o,X.base.get? b=some o->X.s₀.heap.get? b=some o/\X.H₀ b=none
 bsz:X.base.objs.size<=X.s₀.heap.objs.size
 noex:∀b o,X.base.get? b=some o->b∉X.ex
 exfs:∀b∈X.ex,b∉X.fs
 funs:X.s₀.heap.FunFrames X.base X.outer
 frf:∀b∈X.fs,X.H₀ b=none
structure Inv(X:Cx)(aa:oA<|lM×lT)(σ:oA<|oB V)(H:Hp)(s:lK):Prop where
 ok:X.Ok
 os:s.os=X.s₀.os
 bare:AllBare s.gens
 base:Un X.fs X.ex X.H₀ H X.s₀.heap s.heap
 loc:∃m,s.heap.Ns X.env.locals m/\∀(i:Nat) (x:Str) (v:V),X.N[i]?=some x->σ[i]?=some (some v)->Vis X.env.scope x->∃u,Bf v u/\Look X.env s.heap m x u
 cell:∀x c,X.env.cells.lookup x=some c->∃v,s.heap.IsCell c v
 free:H X.env.locals=none
 freeC:∀x c,X.env.cells.lookup x=some c->H c=none
 pin:∀p∈X.pn++aa,s.heap.get? p.1=some p.2/\H p.1=none/\p.1≠X.env.locals/\p.1∉X.fs/\∀v,p.2.data≠.cell v
 hok:HOk X.prog X.w H s.heap
 len:σ.length=X.N.length
section
variable {X:Cx}{aa:oA<|lM×lT}{σ:oA<|oB V}{H H':Hp}{s:lK}{h':lS}{a b:lQ}{ta tb:TE}{pos:Pos}{tA kf:TT}{rest:oA lQ}
def Cx.Ok.nofr(ok:X.Ok){b:lM}{o:lT}(e:X.base.get? b=some o):b∉X.fs:=λhb=>by have:=(ok.funs.mem hb).1;rw[e]at this;cases this
def Inv.bs(I:Inv X aa σ H s):∀b o,X.base.get? b=some o->s.heap.get? b=some o/\H b=none:=λb o e=>
 ⟨I.base.keep b o (I.ok.bs b o e).1 (I.ok.bs b o e).2 (I.ok.nofr e)<|I.ok.noex b o e,I.base.free b o (I.ok.bs b o e).1 (I.ok.bs b o e).2<|I.ok.noex b o e⟩
def Inv.bk(I:Inv X aa σ H s):∀b o,X.base.get? b=some o->s.heap.get? b=some o:=λb o e=>(I.bs b o e).1
def Inv.mod(I:Inv X aa σ H s):Mod X.K X.mg X.base:=I.ok.mod
def Inv.kIn(I:Inv X aa σ H s):X.K.In s.heap:=I.ok.mod.kin.keeps I.bk
def Inv.lt(I:Inv X aa σ H s):X.env.locals<s.heap.objs.size:=by obtain⟨_,c,_⟩:=I.loc;exact c.lt
def Inv.sz(I:Inv X aa σ H s):X.s₀.heap.objs.size<=s.heap.objs.size:=I_ I.ok.above<|eB I.lt
def Inv.nofs(I:Inv X aa σ H s){a:lM}(h:s.heap.objs.size<=a):a∉X.fs:=λhb=>by obtain⟨_,o,c,_⟩:=I.ok.funs.mem hb;exact absurd (S_ (Q_ c)<|I_ I.sz h)<|cP _
def Inv.cne(I:Inv X aa σ H s):∀x c,X.env.cells.lookup x=some c->c≠X.env.locals:=λx c e z=>by obtain⟨v,o,d,f⟩:=I.cell x c e;obtain⟨m,⟨i,k,j,g,h,_⟩,_⟩:=I.loc;rw[z,g]at d;cases d;rw[h]at f;cases f
theorem Inv.funs(I:Inv X aa σ H s):s.heap.FunFrames X.base X.outer:=by
 have all:∀(l:oA Env),(∀b∈frs l,b∈X.fs)->X.s₀.heap.FunFrames X.base l->s.heap.FunFrames X.base l:=by
  intro l
  induction l with
  |nil=>intro _ _;trivial
  |cons h r k=>intro f i;obtain⟨hk,⟨L,o,c,j,g,n⟩,m⟩:=i;have d:L∈X.fs:=f L (by unfold frs;rw[kC,c];exact aR);obtain⟨p,e⟩:=I.base.slot L o g (I.ok.frf L d) d λz=>I.ok.exfs L z d;exact⟨hk,⟨L,_,c,j,e,n⟩,k (λb hb=>f b<|by unfold frs;rw[kC,c];exact aE _ hb) m⟩
 exact all X.outer (λ_ hb=>hb) I.ok.funs
def Inv.stack(I:Inv X aa σ H s):s.heap.FunFrames X.base X.stack:=by rcases I.ok.stk with e|⟨e,c⟩;rw[e];exact I.funs;rw[e];obtain⟨m,d,_⟩:=I.loc;refine .cons (by rw[I.ok.kind];decide) c d ?_ I.funs;exact jQ<|I_ I.ok.bsz I.ok.above
def Inv.stkSub(I:Inv X aa σ H s):∀b∈frs X.stack,b∈X.env.locals::X.fs:=λb hb=>by rcases I.ok.stk with e|⟨e,c⟩;rw[e]at hb;exact aE _ hb;rw[e]at hb;unfold frs at hb;rw[kC,c]at hb;exact hb
def Inv.stkFree(I:Inv X aa σ H s):∀b∈frs X.stack,H b=none:=λb hb=>by rcases aK.mp (I.stkSub b hb) with e|hb;rw[e];exact I.free;obtain⟨_,o,c,_⟩:=I.ok.funs.mem hb;exact I.base.free b o c (I.ok.frf b hb) λz=>I.ok.exfs b z hb
def Inv.step{g':oC GenState}{t':Nat}{d':Drawn}{ch:oA lM}(I:Inv X aa σ H s) (E:∀b∈ch,(b∈X.ex\/X.s₀.heap.objs.size<=b)/\b≠X.env.locals/\(∀x c,X.env.cells.lookup x=some c->c≠b)/\∀p∈X.pn++aa,p.1≠b)
  (g:∀b o,b≠X.env.locals->b∉X.fs->b∉ch->s.heap.get? b=some o->H b=none->h'.get? b=some o)
  (slot:∀b o,b≠X.env.locals->b∈X.fs->b∉ch->s.heap.get? b=some o->H b=none->∃P,h'.get? b=some {o with slots:=P}) (f:∀b o,b∉ch->s.heap.get? b=some o->H b=none->H' b=none)
  (t:∀b o,b∉ch->s.heap.get? b=some o->∃C,h'.get? b=some C) (J:∀b j,H b=some (.tup j)->H' b=some (.tup j)) (L:∀b o u,H b=some (.frz o u)->H' b=some (.frz o u)) (F:∀b N,H b=some (.tbl N)->∃B,H' b=some (.tbl<|N++B))
  (ns:∀m,s.heap.Ns X.env.locals m->h'.Ns X.env.locals m) (R:HOk X.prog X.w H' h') (Z:AllBare g') :
  Inv X aa σ H' {s with heap:=h',gens:=g',drawn:=d',toks:=t'}:=by
 have G:∀b o,X.s₀.heap.get? b=some o->b≠X.env.locals:=λb o e=>aM<|S_ (Q_ e) I.ok.above;have M:∀b o,X.s₀.heap.get? b=some o->b∉X.ex->b∉ch:=λb o e hx hb=>by rcases(E b hb).1 with z|z;exact hx z;exact absurd (S_ (Q_ e) z)<|cP _
 have S:∀x c,X.env.cells.lookup x=some c->∀v,s.heap.IsCell c v->h'.IsCell c v:=λx c e v ⟨o,y,Q⟩=>by have A:c∉ch:=λz=>(E c z).2.2.1 x c e rfl;by_cases hc:c∈X.fs;obtain⟨P,q⟩:=slot c o (I.cne x c e) hc A y<|I.freeC x c e;exact⟨_,q,Q⟩;exact⟨o,g c o (I.cne x c e) hc A y<|I.freeC x c e,Q⟩
 refine⟨I.ok,I.os,Z,⟨λb o e n hb hx=>?_,λb o e n hb hx=>?_,λb o e n hx=>?_,λb o e hx=>?_,λb j e=>J b j<|I.base.tups b j e,λb o j e=>L b o j<|I.base.frzs b o j e,λb N e=>?_⟩,?_,λx c e=>?_,?_,λx c e=>?_,λp hp=>?_,R,I.len⟩;exact g b o (G b o e) hb (M b o e hx) (I.base.keep b o e n hb hx)<|I.base.free b o e n hx;obtain⟨P,h⟩:=I.base.slot b o e n hb hx;obtain⟨O,D⟩:=slot b _ (G b o e) hb (M b o e hx) h<|I.base.free b o e n hx;exact⟨O,D⟩;obtain⟨C,h⟩:=I.base.there b o e hx;exact f b C (M b o e hx) h<|I.base.free b o e n hx;obtain⟨C,h⟩:=I.base.there b o e hx;exact t b C (M b o e hx) h;obtain⟨m1,h⟩:=I.base.tbls b N e;obtain⟨m2,D⟩:=F b _ h;exact⟨m1++m2,by rw[D,Array.append_assoc]⟩;obtain⟨m,Y,U⟩:=I.loc;refine⟨m,ns m Y,λi x v h D W=>?_⟩;obtain⟨u,r,l⟩:=U i x v h D W;refine⟨u,r,?_⟩;rcases l with l|⟨k,c,e,z⟩;exact .inl l;exact .inr ⟨k,c,e,S x c e _ z⟩;obtain⟨v,z⟩:=I.cell x c e;exact⟨v,S x c e v z⟩;obtain⟨m,⟨o,_,_,y,_⟩,_⟩:=I.loc;exact f _ o (λz=>(E _ z).2.1 rfl) y I.free;obtain⟨v,o,y,Q⟩:=I.cell x c e;exact f c o (λz=>(E c z).2.2.1 x c e rfl) y<|I.freeC x c e;obtain⟨e,n,ne,T,d⟩:=I.pin p hp;have A:p.1∉ch:=λz=>(E p.1 z).2.2.2 p hp rfl;exact⟨g p.1 p.2 ne T A e n,f p.1 p.2 A e n,ne,T,d⟩
def Inv.un{t':Nat}(I:Inv X aa σ H s)(u:Un X.fs [] H H' s.heap h')(f:HOk X.prog X.w H' h'):Inv X aa σ H' {s with heap:=h',toks:=t'}:=by
 obtain⟨m,⟨o,t,q,g,r⟩,_⟩:=id I.loc;obtain⟨l,j⟩:=u.any g I.free (by simp);exact I.step (g':=s.gens) (d':=s.drawn) (ch:=[]) (λ_ z=>nomatch z) (λb o _ hb _ e n=>u.keep b o e n hb<|by simp) (λb o _ hb _ e n=>u.slot b o e n hb<|by simp) (λb o _ e n=>u.free b o e n<|by simp) (λb o _ e=>u.there b o e<|by simp) u.tups u.frzs u.tbls (λp hm=>by
  obtain⟨k,d,c,h,i⟩:=hm;rw[g]at h;cases h;exact⟨_,d,c,j,i⟩) f I.bare
def Inv.call{g':oC GenState}{t':Nat}{d':Drawn}{ch:oA lM}(I:Inv X aa σ H s)(u:Un (frs X.stack) ch H H' s.heap h')(g:HOk X.prog X.w H' h')(l:AllBare g')
  (k:∀b∈ch,(b∈X.ex\/X.s₀.heap.objs.size<=b)/\b≠X.env.locals/\(∀x c,X.env.cells.lookup x=some c->c≠b)/\∀p∈X.pn++aa,p.1≠b) :
  Inv X aa σ H' {s with heap:=h',gens:=g',drawn:=d',toks:=t'}:=by
 obtain⟨m,⟨o,B,A,i,r⟩,_⟩:=id I.loc;obtain⟨v,h⟩:=u.any i I.free λz=>(k _ z).2.1 rfl;exact I.step (ch:=ch) k (λb o h hb hc e n=>u.keep b o e n (λz=>(aK.mp<|I.stkSub b z).elim h hb) hc) (λb o _ _ hc e n=>u.any e n hc) (λb o hc e n=>u.free b o e n hc) (λb o hc e=>u.there b o e hc) u.tups u.frzs u.tbls (λy hm=>by
  obtain⟨t,f,d,j,q⟩:=hm;rw[i]at j;cases j;exact⟨_,f,d,h,q⟩) g l
def Inv.turned{t':Nat}{d:lM}(I:Inv X aa σ H s)(k:∀b o,b≠d->s.heap.get? b=some o->h'.get? b=some o)(hn:H d=none)(g:d≠X.env.locals)
  (h1:d∈X.ex\/X.s₀.heap.objs.size<=d) (h2:∀x c,X.env.cells.lookup x=some c->c≠d) (h:∀p∈X.pn++aa,p.1≠d):Inv X aa σ H {s with heap:=h',toks:=t'}:=by
 have f:∀b u,H b=some u->b≠d:=λb u e z=>by rw[z,hn]at e;cases e
 refine I.step (g':=s.gens) (d':=s.drawn) (ch:=[d]) (λb hb=>?_) (λb o _ _ hc e _=>k b o (λz=>hc<|by simp[z]) e) (λb o _ _ hc e _=>⟨o.slots,k b o (λz=>hc<|by simp[z]) e⟩) (λ_ _ _ _ n=>n)
  (λb o hc e=>⟨o,k b o (λz=>hc<|by simp[z]) e⟩) (λ_ _ e=>e) (λ_ _ _ e=>e) (λb t e=>⟨#[],by rw[e];simp⟩) (λm hm=>?_) (λb u e=>?_) I.bare
 have e:b=d:=by simpa using hb
 subst e;exact⟨h1,g,h2,h⟩;obtain⟨o,l,j,i,r⟩:=hm;exact⟨o,l,j,k _ o (bW g) i,r⟩;refine(I.hok b u e).stay (λc v hc q=>k c v ?_ q) (λ_ q=>q) λ_ _ q=>q;rcases hc with z|z;rw[z];exact f b u e;exact f c _ z
def Inv.tok(I:Inv X aa σ H s)(t:Nat):Inv X aa σ H {s with toks:=t}:=I.un (h':=s.heap) (t':=t) Un.refl I.hok
def Inv.kept{t':Nat}(I:Inv X aa σ H s)(k:∀b u,s.heap.get? b=some u->h'.get? b=some u):Inv X aa σ H {s with heap:=h',toks:=t'}:=I.un (Un.kept k)<|I.hok.kept k
def Inv.laid{a:lM}{o:HO}{t':Nat}(I:Inv X aa σ H s)(k:∀b u,s.heap.get? b=some u->h'.get? b=some u)(hp:s.heap.objs.size<=a)(c:Bh X.prog X.w (upd H a o) h' a o) :
  Inv X aa σ (upd H a o) {s with heap:=h',toks:=t'}:=I.un (Un.laid k hp<|I.hok.fresh hp)<|I.hok.laid k hp c
def Inv.write{x e:lM}{o:HO}{t':Nat}(I:Inv X aa σ H s)(d:Mut<|H x)(he:e=x\/H e=some (.own x))(k:∀b u,b≠e->s.heap.get? b=some u->h'.get? b=some u)(f:∃u,h'.get? e=some u)
  (c:Bh X.prog X.w (upd H x o) h' x o):Inv X aa σ (upd H x o) {s with heap:=h',toks:=t'}:=I.un (Un.write d he k f)<|I.hok.write d he k f c
def Inv.pins_of{c:oA<|lM×lT}(I:Inv X aa σ H s)(h:∀p∈c,s.heap.get? p.1=some p.2/\H p.1=none/\p.1≠X.env.locals/\p.1∉X.fs/\∀v,p.2.data≠.cell v):Inv X c σ H s :=
 ⟨I.ok,I.os,I.bare,I.base,I.loc,I.cell,I.free,I.freeC,λp hp=>(R_.mp hp).elim (λz=>I.pin p<|aF _ z)<|h p,I.hok,I.len⟩
def N7{N:oA Str}(d:N.Nodup){i j:Nat}{x:Str}(a:N[i]?=some x)(b:N[j]?=some x):i=j:=by obtain⟨h1,c⟩:=D_.mp a;obtain⟨h2,e⟩:=D_.mp b;exact(kW d).mp<|c.trans e.symm
def Ll{M:Model}{A:lR}{E:lJ->lK->Prop}{i:Nat}{x:Str}{v:V}{u:lJ}{Q:Unit->lK->Prop}(I:Inv X aa σ H s)(hN:X.N.Nodup)(hi:X.N[i]?=some x)(hx:Loc X.env.scope x)(r:Bf v u)
  (h:∀s',Inv X aa (σ.set i<|some v) H s'->(∃a,Heap.SameBut a s.heap s'.heap/\(a=X.env.locals\/X.env.cells.lookup x=some a))->Q () s') (hf:X.fn x=true\/X.env.scope.names.lookup x=some .local:=by first|exact .inl rfl|exact .inr rfl|assumption):wpAny M A (storeName X.env x u) Q E s:=by
 obtain⟨m,W,hl⟩:=id I.loc;have O:(X.env.scope.kind==.class||(X.env.scope.kind==.module&&X.env.locals != X.env.globals))=false:=by rw[I.ok.kind];rfl
 have B:i<σ.length:=by rw[I.len];exact(D_.mp hi).1
 have C:=I.cne;have iu:∀{a:lM} {h':lS},(∃o,s.heap.get? a=some o/\H a=none)->Heap.SameBut a s.heap h'->HOk X.prog X.w H h':=λ{a h'} ha f b ob e=>by obtain⟨_,_,l⟩:=ha;refine(I.hok b ob e).stay (λc J hc q=>(f.2 c ?_).trans q) (λ_ q=>q) λ_ _ q=>q;rintro rfl;rcases hc with rfl|hc;rw[l]at e;cases e;rw[l]at hc;cases hc
 rcases hx with hk|hk;refine wpAny_storeName_local hk W (λh' lj f=>?_) O;obtain⟨oL,_,_,hoL,_⟩:=id W;refine h _ ⟨I.ok,I.os,I.bare,⟨λb o e n hb hx=>?_,λb o e n hb hx=>?_,I.base.free,λb o e hx=>?_,I.base.tups,I.base.frzs,I.base.tbls⟩,⟨_,lj,λj y P g t T=>?_⟩,λy c e=>?_,I.free,I.freeC,λp hp=>?_,iu ⟨oL,hoL,I.free⟩ f,by simpa using I.len⟩ ⟨_,f,.inl rfl⟩;exact(f.2 b<|aM<|S_ (Q_ e) I.ok.above).trans<|I.base.keep b o e n hb hx;obtain⟨S,g⟩:=I.base.slot b o e n hb hx;exact⟨S,(f.2 b<|aM<|S_ (Q_ e) I.ok.above).trans g⟩;obtain⟨Z,g⟩:=I.base.there b o e hx;exact⟨Z,(f.2 b<|aM<|S_ (Q_ e) I.ok.above).trans g⟩;by_cases hj:j=i;subst hj;rw[hi]at g;cases g;rw[List.getElem?_set_self B]at t;cases t;exact⟨u,r,.inl ⟨hk,by simp⟩⟩;rw[List.getElem?_set_ne<|bW hj]at t;obtain⟨R,U,q⟩:=hl j y P g t T;refine⟨R,U,?_⟩;rcases q with⟨k,e⟩|⟨k,c,e,z⟩;refine .inl ⟨k,?_⟩;have:y≠x:=λe=>hj<|N7 hN g<|e ▸ hi;simp[this,e];exact .inr ⟨k,c,e,z.sameBut f<|C y c e⟩;obtain⟨J,z⟩:=I.cell y c e;exact⟨J,z.sameBut f<|C y c e⟩;obtain⟨e,n,ne,Y,d⟩:=I.pin p hp;exact⟨(f.2 p.1 ne).trans e,n,ne,Y,d⟩;have rh:X.fn x=true:=by rcases hf with z|z;exact z;rw[z]at hk;cases hk
 obtain⟨c,hc⟩:=I.ok.has x<|.inl hk;obtain⟨J,z⟩:=I.cell x c hc;refine wpAny_storeName_cell I.ok.kind hk hc z λh' cj f=>?_;obtain⟨oc,D,G⟩:=id z;refine h {s with heap:=h'} ⟨I.ok,I.os,I.bare,⟨λb o e n hb hx=>?_,λb o e n hb hx=>?_,I.base.free,λb o e hx=>?_,I.base.tups,I.base.frzs,I.base.tbls⟩,⟨m,W.sameBut f<|bW<|C x c hc,λj y P g t T=>?_⟩,λy L e=>?_,I.free,I.freeC,λp hp=>?_,iu ⟨oc,D,I.freeC x c hc⟩ f,by simpa using I.len⟩ ⟨c,f,.inr hc⟩;exact(f.2 b<|aM<|S_ (Q_ e)<|I.ok.cab x c rh hc).trans<|I.base.keep b o e n hb hx;obtain⟨S,g⟩:=I.base.slot b o e n hb hx;exact⟨S,(f.2 b<|aM<|S_ (Q_ e)<|I.ok.cab x c rh hc).trans g⟩;obtain⟨Z,g⟩:=I.base.there b o e hx;exact⟨Z,(f.2 b<|aM<|S_ (Q_ e)<|I.ok.cab x c rh hc).trans g⟩;by_cases hj:j=i;subst hj;rw[hi]at g;cases g;rw[List.getElem?_set_self B]at t;cases t;exact⟨u,r,.inr ⟨.inl hk,c,hc,cj⟩⟩;rw[List.getElem?_set_ne<|bW hj]at t;obtain⟨R,U,q⟩:=hl j y P g t T;refine⟨R,U,?_⟩;rcases q with q|⟨k,L,e,z'⟩;exact .inl q;refine .inr ⟨k,L,e,z'.sameBut f ?_⟩;rintro rfl;exact hj<|N7 hN g<|I.ok.inj _ _ _ e hc ▸ hi;by_cases F:L=c;subst F;exact⟨_,cj⟩;obtain⟨w2,z2⟩:=I.cell y L e;exact⟨w2,z2.sameBut f F⟩;obtain⟨e,n,ne,Y,d⟩:=I.pin p hp;refine⟨(f.2 p.1 ?_).trans e,n,ne,Y,d⟩;intro q;rw[q,D]at e;have q':oc=p.2:=bC e;exact d J<|by rw[<- q'];exact G
def Ft{M:Model}{A:lR}{E:lJ->lK->Prop}{i:Nat}{x:Str}{v:V}{u:lJ}{Q:Unit->lK->Prop}(I:Inv X aa σ H s)(d:X.N.Nodup)(hi:X.N[i]?=some x)(hx:Loc X.env.scope x)(r:Bf v u)
  (h:∀c,Inv X aa (σ.set i<|some v) H c->Q () c) (f:X.fn x=true\/X.env.scope.names.lookup x=some .local:=by first|exact .inl rfl|exact .inr rfl|assumption):wpAny M A (storeName X.env x u) Q E s :=
 Ll I d hi hx r (λc e _=>h c e) f
def Inv.call'{d:lK}{ch:oA lM}(I:Inv X aa σ H s)(h:d.os=s.os)(u:Un (frs X.stack) ch H H' s.heap d.heap)(f:HOk X.prog X.w H' d.heap)(i:AllBare d.gens)
  (j:∀b∈ch,(b∈X.ex\/X.s₀.heap.objs.size<=b)/\b≠X.env.locals/\(∀x c,X.env.cells.lookup x=some c->c≠b)/\∀p∈X.pn++aa,p.1≠b):Inv X aa σ H' d:=by
 obtain⟨h',g',d',t',g⟩:=d;have e:g=s.os:=h;subst e;exact I.call (g':=g') (t':=t') (d':=d') u f i j
abbrev XK:=lJ->oB lM->Hp->Prop
abbrev St:=oA<|oB V
abbrev VK:=V->Hp->Prop
abbrev TE:=St->Hp->VK->Prop
abbrev TT:=St->Hp->(Bool->Hp->Prop)->Prop
abbrev TA:=St->Hp->(oA V->Hp->Prop)->Prop
structure Ends where
 nx:St->Hp->Prop
 rt:VK
 bk:St->Hp->Prop:=λ_ _=>False
 ct:St->Hp->Prop:=λ_ _=>False
abbrev TS:=Ends->St->Hp->Prop
def EP(X:Cx)(aa:oA<|lM×lT)(σ:St)(Q:VK)(u:lJ)(c:lK):Prop:=∃v H',Inv X aa σ H' c/\Bf v u/\Q v H'
def TP(X:Cx)(aa:oA<|lM×lT)(σ:St)(Q:Bool->Hp->Prop)(b:Bool)(c:lK):Prop:=∃H',Inv X aa σ H' c/\Q b H'
def AP(X:Cx)(aa:oA<|lM×lT)(σ:St)(Q:oA V->Hp->Prop)(d:oA lJ)(e:lK):Prop:=∃c H',Inv X aa σ H' e/\Vals c d/\Q c H'
def SP(X:Cx)(aa:oA<|lM×lT)(D:Ends)(f:Flow)(d:lK):Prop :=
 match f with
 |.next=>∃ c H',Inv X aa c H' d/\D.nx c H'
 |.brk=>∃ c H',Inv X aa c H' d/\D.bk c H'
 |.cont=>∃ c H',Inv X aa c H' d/\D.ct c H'
 |.ret u=>∃v c H',Inv X aa c H' d/\Bf v u/\D.rt v H'
def PE(X:Cx)(e:lQ)(t:TE):Prop :=
 ∀(aa:oA<|lM×lT) (s:lK) (σ:St) (H:Hp) (Q:VK),Inv X aa σ H s->t σ H Q->yL X.prog X.w X.A (eval e X.env) (EP X aa σ Q) X.xe s
def PT(X:Cx)(e:lQ)(t:TT):Prop :=
 ∀(aa:oA<|lM×lT) (s:lK) (σ:St) (H:Hp) (Q:Bool->Hp->Prop),Inv X aa σ H s->t σ H Q->yL X.prog X.w X.A (isTrue e X.env<|eval e X.env) (TP X aa σ Q) X.xe s
def PW(X:Cx)(e:lQ)(t:TT):Prop :=
 ∀(c:Sem lJ) (aa:oA<|lM×lT) (s:lK) (σ:St) (H:Hp) (Q:Bool->Hp->Prop),Inv X aa σ H s->t σ H Q->yL X.prog X.w X.A (isTrue e X.env c) (TP X aa σ Q) X.xe s
def PW.pt{X:Cx}{e:lQ}{t:TT}(h:PW X e t):PT X e t:=h _
def PA(X:Cx)(es:oA lQ)(t:TA):Prop :=
 ∀(pos:Pos) (aa:oA<|lM×lT) (s:lK) (σ:St) (H:Hp) (Q:oA V->Hp->Prop),Inv X aa σ H s->t σ H Q->yL X.prog X.w X.A (spliced<|backTo pos<|starEach es X.env) (AP X aa σ Q) X.xe s
def PS(X:Cx)(st:lU)(t:TS):Prop :=
 ∀(aa:oA<|lM×lT) (s:lK) (σ:St) (H:Hp) (D:Ends),Inv X aa σ H s->t D σ H->yL X.prog X.w X.A (exec st X.env) (SP X aa D) X.xe s
def PSs(X:Cx)(st:oA lU)(t:TS):Prop :=
 ∀(aa:oA<|lM×lT) (s:lK) (σ:St) (H:Hp) (D:Ends),Inv X aa σ H s->t D σ H->yL X.prog X.w X.A (execs st X.env) (SP X aa D) X.xe s
def thn{c:Type}{t:Sem c}{Q d:c->lK->Prop}{M:Model}{A:lR}{E:lJ->lK->Prop}{s:lK}(h:wpAny M A t Q E s)(e:∀a s,Q a s->d a s):wpAny M A t d E s:=bU h e λ_ _ x=>x
def ID(i:Nat):TE:=λσ H Q=>∃v,σ[i]?=some (some v)/\Q v H
def tC(v:V):TE:=λ_ H Q=>Q v H
def V9{i:Nat}{x:Str}{pos:Pos}(j:X.N[i]?=some x)(hv:Vis X.env.scope x)(g:(x==("__debug__" : Str))=false:=by decide) (k:(x==("__classdict__" : Str))=false:=by decide):PE X (.Name x pos) (ID i):=by intro aa s σ H Q I h;obtain⟨v,e,h⟩:=h;obtain⟨m,o,n⟩:=I.loc;obtain⟨u,r,l⟩:=n i x v j e hv;have f:EP X aa σ Q u s:=⟨v,H,I,r,h⟩;rcases l with⟨hk,hm⟩|⟨hk,c,hc,d⟩;exact wpAny_Name (wpAny_loadName_local I.ok.kind hk o hm f) g;rcases hk with hk|hk;exact wpAny_Name (wpAny_loadName_cell I.ok.kind hk hc d f) g;exact wpAny_Name (wpAny_loadName_free I.ok.kind hk hc d f k) g
def IE{i j pos}:PE X (.Constant (.int i) j pos) (tC<|.int i):=λ_ _ _ H _ I h=>wpAny_Constant_int ⟨.int i,H,I.tok _,⟨_,rfl⟩,h⟩
def QG{b j pos}:PE X (.Constant (.bool b) j pos) (tC<|.bl b):=λ_ _ _ H _ I h=>Constant_bool ⟨.bl b,H,I,rfl,h⟩
def IF{j pos}:PE X (.Constant .none j pos) (tC .non):=λ_ _ _ H _ I h=>Constant_none ⟨.non,H,I,rfl,h⟩
def Wa{x j pos}:PE X (.Constant (.str x) j pos) (tC<|.str x):=λ_ _ _ H _ I h=>Calls.Constant_str ⟨.str x,H,I.tok _,⟨_,rfl⟩,h⟩
def Gl(X:Cx)(x:Str):Prop:=X.env.kindOf x=some .globalImplicit
def Fd{E:lJ->lK->Prop}{aa:oA<|lM×lT}{s:lK}{σ:St}{H:Hp}{x:Str}{u:lJ}{pos:Pos}{Q:lJ->lK->Prop}(I:Inv X aa σ H s)(c:Gl X x)(hm:X.mg x=some u)(h:Q u s)
  (d:(x==("__debug__" : Str))=false:=by decide):yL X.prog X.w X.A (eval (.Name x pos) X.env) Q E s :=
 Calls.Name_function_global I.ok.kind c (Calls.loadGlobal_global (by rw[I.ok.glob];exact I.mod.glob.keeps I.bk) hm h) d
def Dr{E:lJ->lK->Prop}{aa:oA<|lM×lT}{s:lK}{σ:St}{H:Hp}{x:Str}{u:lJ}{pos:Pos}{Q:lJ->lK->Prop}(I:Inv X aa σ H s)(c:Gl X x)(hm:X.mg x=none)(hv:bootBuiltins x=some u)(h:Q u s)
  (hn:x ≠ "__name__" := by decide) (d:(x==("__debug__" : Str))=false:=by decide):yL X.prog X.w X.A (eval (.Name x pos) X.env) Q E s:=by
 obtain⟨e,h1,h2⟩:=I.mod.blt;exact Calls.Name_function_global I.ok.kind c (Calls.loadGlobal_builtin (by rw[I.ok.glob];exact I.mod.glob.keeps I.bk) hm (by rw[I.ok.blt];exact h1.keeps I.bk) ((h2 x hn).trans hv) h) d
def BW{x:Str}{v:V}{u:lJ}{pos:Pos}(c:Gl X x)(hm:X.mg x=some u)(r:Bf v u)(d:(x==("__debug__" : Str))=false:=by decide):PE X (.Name x pos) (tC v) :=
 λ_ _ _ H _ I h=>Fd I c hm ⟨v,H,I,r,h⟩ d
def PC(X:Cx)(e:CmpOp)(a b:lQ)(t:TE):Prop :=
 ∀(aa:oA<|lM×lT) (s:lK) (σ:St) (H:Hp) (Q:VK),Inv X aa σ H s->t σ H Q ->
  yL X.prog X.w X.A (eval a X.env) (λv c=>yL X.prog X.w X.A (eval b X.env) (λu d=>yL X.prog X.w X.A (compareOp e v u) (EP X aa σ Q) X.xe d) X.xe c) X.xe s
def tB(t:TE):TT:=λσ H Q=>t σ H λx d=>∃c,x=.bl c/\Q c d
def IG{c:CmpOp}{t:TE}(h:PC X c a b t)(h1:behindInMarks c b=false:=by first|exact nobehind _ (by decide) (by decide)|rfl):PE X (.Compare a [c] [b] pos) t:=λaa s σ H Q I d=>wpAny_Compare1 (h aa s σ H Q I d) h1
def IH{e:CmpOp}{t:TE}(h:PC X e a b t)(h1:behindInMarks e b=false:=by first|exact nobehind _ (by decide) (by decide)|rfl):PT X (.Compare a [e] [b] pos) (tB t):=by intro aa s σ H Q I i;refine wpAny_isTrue_Compare1 (thn (h aa s σ H _ I i) λv n h1=>thn h1 λu o h2=>thn h2 λc m j=>Cm j λx f l k g=>?_) h1;obtain⟨d,rfl,q⟩:=g;cases k;exact dG ⟨f,l,q⟩
def II{e:lQ}{t:TE}(h:PE X e t)(he:∀c,isTrue e X.env c=(do let v <- c;standAt e.pos;holding [v]<|truthy v):=by intro _;rfl):PT X e (tB t):=by intro aa s σ H Q I j;refine isTrue_plain (thn (h aa s σ H _ I j) λv m f=>Cm f λx g l k i=>?_)<|he _;obtain⟨d,rfl,q⟩:=i;cases k;exact dG ⟨g,l,q⟩
def ZF(t u:TT):TT:=λσ H Q=>t σ H λc d=>if c=true then u σ d Q else Q false d
def tOr(t u:TT):TT:=λσ H Q=>t σ H λc d=>if c=true then Q true d else u σ d Q
def ZG(t:TT):TT:=λσ H Q=>t σ H λc d=>Q (!c) d
def BX(ha:PT X a tA):PW X (.BoolOp .And [a] pos) tA:=by
 intro d aa s σ H Q I h;refine isTrue_and<|thn (ha aa s σ H Q I h) λc f e=>?_;cases c with
 |true=>exact isTrue_and_nil e
 |false=>exact e
def IJ(ha:PT X a tA):PW X (.BoolOp .Or [a] pos) tA:=by
 intro d aa s σ H Q I h;refine isTrue_or<|thn (ha aa s σ H Q I h) λc f e=>?_;cases c with
 |false=>exact isTrue_or_nil e
 |true=>exact e
def IK(ha:PT X a tA)(hb:PW X (.BoolOp .And (b::rest) pos) kf):PW X (.BoolOp .And (a::b::rest) pos) (ZF tA kf):=by
 intro g aa s σ H Q I h;refine isTrue_and<|thn (ha aa s σ H _ I h) λc i ⟨d,f,e⟩=>?_;cases c with
 |true=>exact hb g aa i σ d Q f e
 |false=>exact⟨d,f,e⟩
def QH(ha:PT X a tA)(hb:PW X (.BoolOp .Or (b::rest) pos) kf):PW X (.BoolOp .Or (a::b::rest) pos) (tOr tA kf):=by
 intro g aa s σ H Q I h;refine isTrue_or<|thn (ha aa s σ H _ I h) λc i ⟨d,f,e⟩=>?_;cases c with
 |true=>exact⟨d,f,e⟩
 |false=>exact hb g aa i σ d Q f e
def IL(ha:PT X a tA):PT X (.UnaryOp .Not a pos) (ZG tA):=by intro aa s σ H Q I h;exact isTrue_not<|ha aa s σ H (λc d=>Q (!c) d) I h
def QI(ta tb:TE):TE:=λσ H Q=>ta σ H λx d=>∃c,x=.bl c/\if c=true then tb σ d Q else Q (.bl false) d
def QJ(ta:TE):TE:=λσ H Q=>ta σ H λx d=>∃c,x=.bl c/\Q (.bl<|!c) d
def IM{op}{t:TE}(h:PE X a t):PE X (.BoolOp op [a] pos) t:=λaa s σ H Q I c=>BoolOp_one<|h aa s σ H Q I c
def IN(ha:PE X a ta)(hb:PE X (.BoolOp .And (b::rest) pos) tb):PE X (.BoolOp .And (a::b::rest) pos) (QI ta tb):=by
 intro aa s σ H Q I h;refine BoolOp_and<|thn (ha aa s σ H _ I h) λv g i=>Cm i λx e f j d=>?_;obtain⟨c,rfl,d⟩:=d;cases j;refine dG ?_;cases c with
 |true=>exact hb aa g σ e Q f d
 |false=>exact⟨.bl false,e,f,rfl,d⟩
def IP(ha:PE X a ta):PE X (.UnaryOp .Not a pos) (QJ ta):=by intro aa s σ H Q I h;refine UnaryOp_<|thn (ha aa s σ H _ I h) λv j e=>Cm e λx f i g d=>?_;obtain⟨c,rfl,d⟩:=d;cases g;exact not_of<|dG ⟨.bl<|!c,f,i,rfl,d⟩
def tIf(t:TT)(ta tb:TE):TE:=λσ H Q=>t σ H λc d=>if c=true then ta σ d Q else tb σ d Q
def Wb{c:lQ}(hc:PT X c tA)(ha:PE X a ta)(hb:PE X b tb):PE X (.IfExp c a b pos) (tIf tA ta tb):=by
 intro aa s σ H Q I h;refine wpAny_IfExp<|thn (hc aa s σ H _ I h) λd g ⟨f,i,e⟩=>?_;cases d with
 |true=>exact ha aa g σ f Q i e
 |false=>exact hb aa g σ f Q i e
end
def Ei(K:lN)(H:Hp)(a:lM)(xs:oA V):Prop :=
 Rd H a (.lst xs) \/
  ∃(o:lT) (b:oC lJ) (n:Nat),K.lookup a=some o/\o.cls=.type "list" /\ o.dict=none/\o.data=.seq b n/\b.size<=sizeLine/\Vals xs b.toList
def Il(K:lN)(H:Hp)(a:lM)(xs:oA V):Prop :=
 Rd H a (.tup xs) \/
  ∃(o:lT) (b:oC lJ) (n:Nat),K.lookup a=some o/\o.cls=.type "tuple" /\ o.data=.seq b n/\b.size<=sizeLine/\Vals xs b.toList
def ZH:lJ->oB V
 |.none=>some .non
 |.bool b=>some (.bl b)
 |.int i _=>some (.int i)
 |.str x _=>some (.str x)
 |.bytes b _=>some (.byt b)
 |.float b _=>some (.flt b)
 |.ref a=>some (.ref a)
 |.type n=>some (.ty n)
 |_=>none
def Bf.abs{x:V}{u:lJ}(r:Bf x u):ZH u=some x:=by
 cases x with
 |non=>cases r;rfl
 |bl _=>cases r;rfl
 |int _=>obtain⟨t,rfl⟩:=r;rfl
 |str _=>obtain⟨t,rfl⟩:=r;rfl
 |byt _=>obtain⟨t,rfl⟩:=r;rfl
 |flt _=>obtain⟨t,rfl⟩:=r;rfl
 |ref _=>cases r;rfl
 |ty _=>cases r;rfl
def Bf.inj{x y:V}{u:lJ}(r:Bf x u)(q:Bf y u):x=y:=bC<|r.abs.symm.trans q.abs
theorem Vals.inj:∀{xs ys:oA V} {a:oA lJ},Vals xs a->Vals ys a->xs=ys
 |_,_,_,.nil,.nil=>rfl
 |_,_,_,.cons r t,.cons b c=>by rw[r.inj b,Vals.inj t c]
section
variable {X:Cx}{aa:oA<|lM×lT}{σ:St}{H:Hp}{s:lK}{a:lM}{xs ys:oA V}{E:lJ->lK->Prop}{st:lU}{rest:oA lU}{t u:TS}{e:lQ}{te:TE}{pos:Pos}{tg:lQ}
def Ei.of{K:lN}(h:H a=some (.lst xs)):Ei K H a xs:=.inl<|.inl h
def Il.of{K:lN}(h:H a=some (.tup xs)):Il K H a xs:=.inl<|.inl h
def Inv.list(I:Inv X aa σ H s)(h:Ei X.K H a xs):∃b:oA lJ,Vals xs b/\PlainL s.heap a b.toArray/\xs.length<=sizeLine:=by rcases h with h|⟨o,b,n,hk,hc,d,c,hz,r⟩;obtain⟨z,b,n,r,e⟩:=h.ok I.hok;exact⟨b,r,⟨_,n,e,rfl,rfl,rfl⟩,z⟩;refine⟨b.toList,r,⟨o,n,I.kIn a o hk,hc,d,by simpa using c⟩,?_⟩;have e:=r.length;simp only[Array.length_toList]at e;omega
def Inv.tuple(I:Inv X aa σ H s)(h:Il X.K H a xs):∃b:oA lJ,Vals xs b/\IsTup s.heap a b.toArray/\xs.length<=sizeLine:=by rcases h with h|⟨o,b,n,hk,hc,c,hz,r⟩;obtain⟨z,b,r,p⟩:=h.ok I.hok;exact⟨b,r,p,z⟩;refine⟨b.toList,r,⟨o,I.kIn a o hk,hc,n,by simpa using c⟩,?_⟩;have e:=r.length;simp only[Array.length_toList]at e;omega
def Inv.list_inj(I:Inv X aa σ H s)(h:Ei X.K H a xs)(h':Ei X.K H a ys):xs=ys:=by
 obtain⟨i,r,⟨o,n,e,_,_,d⟩,_⟩:=I.list h;obtain⟨b,g,⟨j,k,c,_,_,f⟩,_⟩:=I.list h';rw[e]at c;cases c;rw[d]at f;injection f with d1 _;have:i=b:=by simpa using bV Array.toList d1
 subst this;exact r.inj g
def Inv.tuple_inj(I:Inv X aa σ H s)(h:Il X.K H a xs)(h':Il X.K H a ys):xs=ys:=by
 obtain⟨i,r,⟨o,e,_,n,d⟩,_⟩:=I.tuple h;obtain⟨b,g,⟨j,c,_,k,f⟩,_⟩:=I.tuple h';rw[e]at c;cases c;rw[d]at f;injection f with d1 _;have:i=b:=by simpa using bV Array.toList d1
 subst this;exact r.inj g
abbrev Cx.wish(X:Cx)(E:lJ->lK->Prop):Cx:={X with xe:=E}
abbrev Cx.nox(X:Cx):Cx:=X.wish λ_ _=>False
def Cx.Ok.wish{X:Cx}(ok:X.Ok)(E:lJ->lK->Prop):(X.wish E).Ok :=
 ⟨ok.mod,ok.kind,ok.glob,ok.blt,ok.above,ok.inj,ok.has,ok.cab,ok.hd,ok.frames,ok.stk,ok.exf,ok.bs,ok.bsz,ok.noex,ok.exfs,ok.funs,ok.frf⟩
def Cx.Ok.unwish{X:Cx}{E:lJ->lK->Prop}(ok:(X.wish E).Ok):X.Ok :=
 ⟨ok.mod,ok.kind,ok.glob,ok.blt,ok.above,ok.inj,ok.has,ok.cab,ok.hd,ok.frames,ok.stk,ok.exf,ok.bs,ok.bsz,ok.noex,ok.exfs,ok.funs,ok.frf⟩
def Inv.wish(I:Inv X aa σ H s)(E:lJ->lK->Prop):Inv (X.wish E) aa σ H s:=⟨I.ok.wish E,I.os,I.bare,I.base,I.loc,I.cell,I.free,I.freeC,I.pin,I.hok,I.len⟩
def Inv.unwish(I:Inv (X.wish E) aa σ H s):Inv X aa σ H s:=⟨I.ok.unwish,I.os,I.bare,I.base,I.loc,I.cell,I.free,I.freeC,I.pin,I.hok,I.len⟩
theorem SP.unwish{D:Ends}{f:Flow}{d:lK}(h:SP (X.wish E) aa D f d):SP X aa D f d:=by
 cases f with
 |next=>obtain⟨b,c,I,q⟩:=h;exact⟨b,c,I.unwish,q⟩
 |brk=>obtain⟨b,c,I,q⟩:=h;exact⟨b,c,I.unwish,q⟩
 |cont=>obtain⟨b,c,I,q⟩:=h;exact⟨b,c,I.unwish,q⟩
 |ret u=>obtain⟨v,b,c,I,r,q⟩:=h;exact⟨v,b,c,I.unwish,r,q⟩
def PSs.nox{st:oA lU}{t:TS}(h:PSs X.nox st t):PSs X st t:=λaa s σ H D I b=>
 bU (h aa s σ H D (I.wish _) b) (λ_ _ q=>q.unwish) λ_ _ z=>False.elim z
def QK:TS:=λD σ H=>D.nx σ H
def ZI(t u:TS):TS:=λD σ H=>t {D with nx:=u D} σ H
def BY:PSs X [] QK:=λ_ _ σ H _ I h=>gL ⟨σ,H,I,h⟩
def Jx(h1:PS X st t)(h2:PSs X rest u):PSs X (st::rest) (ZI t u):=by
 intro aa s σ H D I h;refine kX<|thn (h1 aa s σ H {D with nx:=u D} I h) λf c q=>?_;cases f with
 |next=>obtain⟨b,d,g,q⟩:=q;exact h2 aa c b d D g q
 |ret v=>exact q
 |brk=>exact q
 |cont=>exact q
def Ml(h1:PS X st t):PSs X [st] t:=by
 intro aa s σ H D I h;refine kX<|thn (h1 aa s σ H D I h) λf b q=>?_;cases f with
 |next=>exact gL q
 |ret v=>exact q
 |brk=>exact q
 |cont=>exact q
def Inv.quiet{aa:oA<|lM×lT}{σ:St}{H:Hp}{s:lK}(I:Inv X aa σ H s):interactive X.env=false:=by simp[interactive,I.ok.kind]
def QL(te:TE):TS:=λD σ H=>te σ H λ_ b=>D.nx σ b
def BZ(he:PE X e te)(c:swapsWith e none pos.line X.env=pure false:=by rfl):PS X (.Expr e pos) (QL te):=by intro aa s σ H D I h;exact wpAny_Expr_any (thn (he aa s σ H _ I h) λv i b=>Cm b λx d f j g=>⟨σ,d,f,g⟩) I.quiet c
def ZJ(te:TE):TS:=λD σ H=>te σ H D.rt
def IQ(he:PE X e te):PS X (.Return (some e) pos) (ZJ te):=by intro aa s σ H D I h;exact wpAny_Return_some<|thn (he aa s σ H _ I h) λv i b=>Cm b λx c f d g=>⟨x,σ,c,f,d,g⟩
def ZK(c:TT)(t u:TS):TS:=λD σ H=>c σ H λb d=>if b=true then t D σ d else u D σ d
def QM{c:lQ}{a b:oA lU}{j:TT}(hc:PT X c j)(ha:PSs X a t)(hb:PSs X b u):PS X (.If c a b pos) (ZK j t u):=by
 intro aa s σ H D I h;refine wpAny_If<|thn (hc aa s σ H _ I h) λd g ⟨f,k,i⟩=>?_;cases d with
 |true=>exact ha aa g σ f D k i
 |false=>exact hb aa g σ f D k i
def IR:TS:=λ_ _ _=>False
def Wc:PS X st IR:=λ_ _ _ _ _ _ h=>h.elim
abbrev TG:=V->St->Hp->(St->Hp->Prop)->Prop
abbrev TGs:=oA V->St->Hp->(St->Hp->Prop)->Prop
def PG(X:Cx)(f:lQ)(t:TG):Prop :=
 ∀(aa:oA<|lM×lT) (s:lK) (σ:St) (H:Hp) (v:V) (u:lJ) (Q:St->Hp->Prop),Inv X aa σ H s->Bf v u->t v σ H Q ->
  yL X.prog X.w X.A (assign f X.env u) (λ_ d=>∃ b c,Inv X aa b c d/\Q b c) X.xe s
def PGs(X:Cx)(ts:oA lQ)(t:TGs):Prop :=
 ∀(aa:oA<|lM×lT) (s:lK) (σ:St) (H:Hp) (c:oA V) (d:oA lJ) (Q:St->Hp->Prop),Inv X aa σ H s->Vals c d->t c σ H Q ->
  yL X.prog X.w X.A (assignInOrder ((assignEach ts X.env).map (·.2)) d) (λ_ g=>∃ b f,Inv X aa b f g/\Q b f) X.xe s
def Wd(i:Nat):TG:=λv σ H Q=>Q (σ.set i<|some v) H
def CA{i:Nat}{x:Str}(b:X.N.Nodup)(hi:X.N[i]?=some x)(hx:Loc X.env.scope x)(d:X.fn x=true\/X.env.scope.names.lookup x=some .local:=by first|exact .inl rfl|exact .inr rfl|assumption):PG X (.Name x pos) (Wd i):=by intro aa s σ H v u Q I r h;exact wpAny_assign_Name<|Ft I b hi hx r (λf c=>⟨_,H,c,h⟩) d
def ZL:TGs:=λb σ H Q=>b=[]/\Q σ H
def QN(t:TG)(u:TGs):TGs:=λc σ H Q=>∃v r,c=v::r/\t v σ H λb d=>u r b d Q
def CB:PGs X [] ZL:=by intro aa s σ H c b Q I r h;obtain⟨e,h⟩:=h;subst e;cases r;exact assignInOrder_nil ⟨σ,H,I,h⟩
def We{e:lQ}{es:oA lQ}{t:TG}{u:TGs}(h1:PG X e t)(h2:PGs X es u)
  (f:(assignEach (e::es) X.env).map (·.2)=assign e X.env::(assignEach es X.env).map (·.2):=by rfl):PGs X (e::es) (QN t u):=by
 intro aa s σ H n o Q I r h;obtain⟨v,m,d,h⟩:=h;subst d;cases r with
 |cons r c=>rw[f];refine iG<|thn (h1 aa s σ H _ _ _ I r h) λ_ j g=>?_;obtain⟨b,i,l,k⟩:=g;exact h2 aa j b i _ _ Q l c k
def ZM(K:lN)(n:Nat)(t:TGs):TG:=λv σ H Q=>∃a xs,v=.ref a/\Il K H a xs/\xs.length=n/\t xs σ H Q
def Wg{es:oA lQ}{k:Nat}{t:TGs}{n:Nat}(hc:X.calm=true)(h:PGs X es t)
  (hn:(assignEach es X.env).length=n:=by rfl) (i:(assignEach es X.env).findIdx? (·.1)=none:=by rfl):PG X (.Tuple es k pos) (ZM X.K n t):=by
 intro aa s σ H v u Q I r c;obtain⟨a,xs,f,hq,g,c⟩:=c;subst f;cases r;obtain⟨p,d,l,hz⟩:=I.tuple hq;refine assign_Tuple_tuple (I.ok.hd hc) l (by simp[hn,<- g,d.length]) i λj hx=>?_;have m:Inv X aa σ H {s with heap:=j}:=I.kept (t':=s.toks) λb o e=>hx b o (aM<|Q_ e) e;exact h aa _ σ H xs _ Q m (by simpa using d) c
def CC(te:TE)(g:TG):TS:=λD σ H=>te σ H λx b=>g x σ b D.nx
def IS{tg e:lQ}{te:TE}{g:TG}(he:PE X e te)(b:PG X tg g)(c:swapsWithSole [tg] e pos.line X.env=pure false:=by rfl)(j:swappedStores [tg] e X.env=pure none:=by rfl)
  (h1:(assignEach [tg] X.env).map (·.2)=[assign tg X.env]:=by rfl):PS X (.Assign [tg] e pos) (CC te g):=by
 intro aa s σ H D I h;refine wpAny_Assign_stores (thn (he aa s σ H _ I h) λv f l=>Cm l λx d m k i=>?_) c j;rw[h1];exact thn (b aa f σ d x v _ m k i) λ_ n q=>q
def IT{i:Nat}{x:Str}{e:lQ}{te:TE}{b:Pos}(d:X.N.Nodup)(hi:X.N[i]?=some x)(hx:Loc X.env.scope x)(he:PE X e te)(c:swapsWith e (some<|.Name x b) pos.line X.env=pure false:=by rfl)(m:X.fn x=true\/X.env.scope.names.lookup x=some .local:=by first|exact .inl rfl|exact .inr rfl|assumption) :
  PS X (.Assign [.Name x b] e pos) (CC te<|Wd i):=by
 intro aa s σ H D I h;refine wpAny_Assign_Name (thn (he aa s σ H _ I h) λv o n=>Cm n λy g f j k=>?_) c;exact Ft f d hi hx j (λp l=>⟨_,g,l,k⟩) m
def IU(c:TT)(tb:TS):TS:=λD σ H=>∃W:Nat->St->Hp->Prop,(∃m,W m σ H)/\∀m σ H,W m σ H ->
 c σ H λb g=>if b=true then ∃N:St->Hp->Prop,(∀ d h,N d h->∃f,f<m/\W f d h)/\tb {D with nx:=N,ct:=N,bk:=D.nx} σ g else D.nx σ g
def Wh{c:lQ}{i:oA lU}{B:TT}{tb:TS}(hp:PassesOwn (model X.prog X.w) X.A X.env X.xe)(hc:PT X c B)(hb:PSs X i tb):PS X (.While c i [] pos) (IU B tb):=by
 intro aa s σ H D I h;obtain⟨W,⟨G,J⟩,P⟩:=h;refine wpAny_While<|codeAny_whileLoop (λn O=>∃ k y,Inv X aa k y O/\W n k y) ?_ G ⟨σ,H,I,J⟩;rintro n L ⟨g,C,R,Q⟩;refine fN hp<|thn (hc aa L g C _ R<|P n g C Q) λb M ⟨F,z,l⟩=>?_;cases b with
 |true=>
  obtain⟨N,x,l⟩:=l;rw[P_ rfl];refine fN hp<|thn (hb aa M g F _ z l) λf S m=>?_;cases f with
  |next=>obtain⟨d,j,r,o⟩:=m;obtain⟨p,hm,q⟩:=x d j o;exact⟨p,hm,d,j,r,q⟩
  |cont=>obtain⟨d,j,r,o⟩:=m;obtain⟨p,hm,q⟩:=x d j o;exact⟨p,hm,d,j,r,q⟩
  |brk=>exact m
  |ret v=>exact m
 |false=>rw[H_ U_];exact gL ⟨g,F,z,l⟩
structure It where
 go:Nat->Hp->Prop
 yld:Nat->Hp->V->Hp->Prop
 stop:Nat->Hp->Prop
def Fu(X:Cx)(aa:oA<|lM×lT)(H:Hp)(b:lM):Prop :=
 H b=none/\b≠X.env.locals/\b∉X.fs/\(b∈X.ex\/X.s₀.heap.objs.size<=b)/\(∀x c,X.env.cells.lookup x=some c->c≠b)/\∀p∈X.pn++aa,p.1≠b
def Inv.fpOk{X:Cx}{aa:oA<|lM×lT}{σ:St}{H H':Hp}{s:lK}{b:lM}(I:Inv X aa σ H s)(hb:s.heap.objs.size<=b)(hn:H' b=none):Fu X aa H' b:=by refine⟨hn,dX<|S_ I.lt hb,I.nofs hb,.inr<|I_ I.sz hb,λx c e z=>?_,λp hp z=>?_⟩;obtain⟨v,q⟩:=I.cell x c e;exact absurd (S_ q.lt<|by rw[z];exact hb)<|cP _;exact absurd (S_ (Q_ (I.pin p hp).1)<|by rw[z];exact hb)<|cP _
structure Turn(P:lO)(w:lP)(K:lN)(tg:lQ)(J:It)(fp:oA lM)(it:lM)(tn:Nat->lS->Prop):Prop where
 mem:it∈fp
 obj:∀i h,tn i h->∀b∈fp,∃o,h.get? b=some o/\∀v,o.data≠.cell v
 keep:∀i h h',tn i h->(∀b∈fp,∀o,h.get? b=some o->h'.get? b=some o)->tn i h'
 item:∀(X:Cx),X.prog=P->X.w=w->X.K=K->X.calm=true->∀(i:Nat) (aa:oA<|lM×lT) (s:lK) (σ:St) (H:Hp) (E:lJ->lK->Prop),Inv X aa σ H s->(∀b∈fp,Fu X aa H b)->tn i s.heap->J.go i H ->
  yL P w X.A (pyNext<|.ref it) (λr s1=>∃u,r=some u /\
   yL P w X.A (letOwnedTupleGo tg (.ref it) u) (λ_ s2=>∃x H',Inv X aa σ H' s2/\Bf x u/\J.yld i H x H'/\tn (i+1) s2.heap/\∀b∈fp,H' b=none) E s1) E s
 done:∀(X:Cx),X.prog=P->X.w=w->X.K=K->X.calm=true->∀(i:Nat) (aa:oA<|lM×lT) (s:lK) (σ:St) (H:Hp) (E:lJ->lK->Prop),Inv X aa σ H s->(∀b∈fp,Fu X aa H b)->tn i s.heap->J.stop i H ->
  yL P w X.A (pyNext<|.ref it) (λr s1=>r=none/\Inv X aa σ H s1) E s
 self:∀(A:lR) (i:Nat) (s:lK) (Q:lJ->lK->Prop) (E:lJ->lK->Prop),tn i s.heap->Q (.ref it) s->yL P w A (pyIter<|.ref it) Q E s
abbrev TI:=St->Hp->(It->Hp->Prop)->Prop
def PIE(X:Cx)(aa:oA<|lM×lT)(σ:St)(tg:lQ)(R:It->Hp->Prop)(f:lJ)(d:lK):Prop :=
 ∃(c:lM) (fp:oA lM) (tn:Nat->lS->Prop) (J:It) (H':Hp),f=.ref c/\Inv X aa σ H' d/\Turn X.prog X.w X.K tg J fp c tn/\tn 0 d.heap/\(∀b∈fp,Fu X aa H' b)/\R J H'
def PI(X:Cx)(tg iter:lQ)(b:TI):Prop :=
 ∀(aa:oA<|lM×lT) (s:lK) (σ:St) (H:Hp) (R:It->Hp->Prop),Inv X aa σ H s->b σ H R ->
  yL X.prog X.w X.A (eval iter X.env) (λv c=>yL X.prog X.w X.A (pyIter v) (PIE X aa σ tg R) X.xe c) X.xe s
def N8{M:Model}{A:lR}{E:lJ->lK->Prop}{s:lK}{tg:lQ}{d:lM}{u:lJ}{o:lT}{n:String}{c:oC lJ}{Q:Unit->lK->Prop}(f:s.heap.get? d=some o)(hc:o.cls=.type n)(g:o.data=.fields c)
  (hn:["enumerate","zip","dict_itemiterator","dict_reverseitemiterator","odict_iterator","itertools.zip_longest","itertools.pairwise"].contains n=false) (b:Q () s):wpAny M A (letOwnedTupleGo tg (.ref d) u) Q E s:=by
 unfold letOwnedTupleGo;cases tg<;>first
  |exact C_ b
  | (cases u<;>first
    |exact C_ b
    | (refine A_ (wpAny_load f ?_)
       rw [hc, g];show wpAny M A (if (["enumerate", "zip", "dict_itemiterator", "dict_reverseitemiterator", "odict_iterator", "itertools.zip_longest", "itertools.pairwise"].contains n&&c[0]? == some (rawInt _)) = true then _ else _) Q E s;rw [H_<|by intro h; rw [hn, Bool.false_and] at h; cases h];exact C_ b))
def Itl(K:lN)(a:lM):It :=
 ⟨λi H=>∃xs x,Ei K H a xs/\xs[i]?=some x,λi H x b=>b=H/\∀xs,Ei K H a xs->xs[i]?=some x,λi H=>∃xs,Ei K H a xs/\xs.length<=i⟩
def Itt(K:lN)(a:lM):It :=
 ⟨λi H=>∃xs x,Il K H a xs/\xs[i]?=some x,λi H x b=>b=H/\∀xs,Il K H a xs->xs[i]?=some x,λi H=>∃xs,Il K H a xs/\xs.length<=i⟩
def Itr(lo:Int)(n:Nat):It:=⟨λi _=>i<n,λi H x b=>b=H/\x=.int (lo+i),λi _=>n<=i⟩
def Ty{P:lO}{w:lP}{K:lN}{tg:lQ}(a f:lM):Turn P w K tg (Itl K a) [f] f (λi h=>h.IsListIter f a i) where
 mem:=by simp
 obj:=λi h st b hb=>by
  have e:b=f:=by simpa using hb
  subst e;obtain⟨o,e,c,d⟩:=st;exact⟨o,e,λv z=>by rw[d]at z;cases z⟩
 keep:=λi h j st k=>st.at λo e=>k f (by simp) o e
 item:=by intro X l y n hc i aa s σ H E I g st A;subst l y n;obtain⟨xs,x,hq,hx⟩:=A;obtain⟨J,r,p,hz⟩:=I.list hq;obtain⟨u,hu,M⟩:=r.get hx;obtain⟨m,C,N,B,q,D⟩:=g f (by simp);refine wpAny_pyNext_list_item st p.isList (x:=u) (by simpa using hu) λj F L=>?_;have O:Inv X aa σ H {s with heap:=j}:=I.turned (t':=s.toks) (λb o hb e=>(L.2 b hb).trans e) m C B q D;obtain⟨o,e,c,d⟩:=id F;exact⟨u,rfl,N8 (s:={s with heap:=j}) e c d (by decide) ⟨x,H,O,M,⟨rfl,λys hy=>by rw[I.list_inj hy hq];exact hx⟩,F,λb hb=>(g b hb).1⟩⟩
 done:=by intro X l y n hc i aa s σ H E I g st A;subst l y n;obtain⟨xs,hq,hx⟩:=A;obtain⟨J,r,p,hz⟩:=I.list hq;obtain⟨m,C,N,B,q,D⟩:=g f (by simp);have Q:=r.length;exact wpAny_pyNext_list_end (I.ok.hd hc) st p.isList (by simp;omega) λj G=>⟨rfl,I.turned (t':=s.toks) (λb o hb e=>G b o hb e) m C B q D⟩
 self:=λ_ _ _ _ _ st h=>wpAny_pyIter_listiter st h
def Qf{P:lO}{w:lP}{K:lN}{tg:lQ}(a f:lM):Turn P w K tg (Itt K a) [f] f (λi h=>h.IsTupleIter f a i) where
 mem:=by simp
 obj:=λi h st b hb=>by
  have e:b=f:=by simpa using hb
  subst e;obtain⟨o,e,c,d⟩:=st;exact⟨o,e,λv z=>by rw[d]at z;cases z⟩
 keep:=λi h j st k=>st.at λo e=>k f (by simp) o e
 item:=by intro X l A n hc i aa s σ H E I g st B;subst l A n;obtain⟨xs,x,hq,hx⟩:=B;obtain⟨r,y,p,hz⟩:=I.tuple hq;obtain⟨u,hu,M⟩:=y.get hx;obtain⟨m,D,N,C,q,F⟩:=g f (by simp);refine wpAny_pyNext_tuple_item st (show s.heap.IsTuple a r.toArray from p) (x:=u) (by simpa using hu) λj G L=>?_;have O:Inv X aa σ H {s with heap:=j}:=I.turned (t':=s.toks) (λb o hb e=>(L.2 b hb).trans e) m D C q F;obtain⟨o,e,c,d⟩:=id G;exact⟨u,rfl,N8 (s:={s with heap:=j}) e c d (by decide) ⟨x,H,O,M,⟨rfl,λys hy=>by rw[I.tuple_inj hy hq];exact hx⟩,G,λb hb=>(g b hb).1⟩⟩
 done:=by intro X l A n hc i aa s σ H E I g st B;subst l A n;obtain⟨xs,hq,hx⟩:=B;obtain⟨r,y,p,hz⟩:=I.tuple hq;obtain⟨m,D,N,C,q,F⟩:=g f (by simp);have Q:=y.length;exact wpAny_pyNext_tuple_end (I.ok.hd hc) st (show s.heap.IsTuple a r.toArray from p) (by simp;omega) λj J=>⟨rfl,I.turned (t':=s.toks) (λb o hb e=>J b o hb e) m D C q F⟩
 self:=λ_ _ _ _ _ st h=>wpAny_pyIter_tupleiter st h
def Qg{P:lO}{w:lP}{K:lN}{tg:lQ}(c:lM)(lo:Int)(n:Nat):Turn P w K tg (Itr lo n) [c] c (λi h=>IsRangeIter h c (lo+(i:Nat)*1) ((n:Int)-(i:Nat)) 1) where
 mem:=by simp
 obj:=λi h st b hb=>by
  have e:b=c:=by simpa using hb
  subst e;exact⟨_,st,λv z=>by
   have G:Data.fields _=Data.cell v:=z;cases G⟩
 keep:=λi h f st k=>k c (by simp) _ st
 item:=by intro X g p l hc i aa s σ H E I d st q;subst g p l;obtain⟨j,x,F,r,m,y⟩:=d c (by simp);have W:=Walks.range (prog:=X.prog) (w:=X.w) (I.ok.hd hc) c lo 1 n;refine W.item i s _ _ q st λv f A hv B C=>?_;obtain⟨t,rfl⟩:=hv;have J:Inv X aa σ H {s with heap:=f,toks:=A}:=I.turned (λb o hb e=>C b o (by simpa using hb) e) j x r m y;refine⟨_,rfl,N8 (s:={s with heap:=f,toks:=A}) (n := "range_iterator") B rfl rfl (by decide) ⟨.int<|lo+i,H,J,⟨t,?_⟩,⟨rfl,rfl⟩,B,λb hb=>(d b hb).1⟩⟩;rw[Int.mul_one]
 done:=by intro X g p l hc i aa s σ H E I d st q;subst g p l;obtain⟨j,x,F,r,m,y⟩:=d c (by simp);exact wpAny_pyNext_range_end (I.ok.hd hc) st (by have:n<=i:=q;omega) λf D=>⟨rfl,I.turned (t':=s.toks) (λb o hb e=>D b o hb e) j x r m y⟩
 self:=λ_ _ _ _ _ st h=>wpAny_pyIter_rangeiter st h
def Wi{aa:oA<|lM×lT}{σ:St}{H:Hp}{s:lK}{R:It->Hp->Prop}{E:lJ->lK->Prop}{lo hi:Int}{t u v:Tok}{tk:Nat}(I:Inv X aa σ H s)(h1:-(2^62)<=lo)(h2:lo<2^62)(d:-(2^62)<=hi)(h:hi<2^62)
  (q:R (Itr lo (hi-lo).toNat) H):yL X.prog X.w X.A (pyIter<|.ref s.heap.objs.size) (PIE X aa σ tg R) E {s with heap:=s.heap.push {cls:=.type "range",data:=.fields #[.int lo t,.int hi u,.int 1 v]},toks:=tk}:=by
 refine wpAny_pyIter_range (IsRange.new ..) (small_one h1 h2 d h) ?_;have c:Inv X aa σ H {s with heap:=s.heap.push {cls:=.type "range",data:=.fields #[.int lo t,.int hi u,.int 1 v]},toks:=tk}:=I.kept λb o e=>DD _ e;refine⟨(s.heap.push {cls:=.type "range",data:=.fields #[.int lo t,.int hi u,.int 1 v]}).objs.size,[(s.heap.push {cls:=.type "range",data:=.fields #[.int lo t,.int hi u,.int 1 v]}).objs.size],_,_,H,rfl,
  c.kept (t':=tk) λb o e=>DD _ e,Qg _ lo (hi-lo).toNat,?_,λb hb=>?_,q⟩
 have f:lo+((0:Nat):Int)*1=lo:=by simp
 have g:(((hi-lo).toNat:Nat):Int)-((0:Nat):Int)=Builtin.Range.rangeSize lo hi 1:=by rw[rangeSize_one];split<;>omega
 show IsRangeIter _ _ (lo+((0:Nat):Int)*1) ((((hi-lo).toNat:Nat):Int)-((0:Nat):Int)) 1;rw[f,g];exact O_ _ rfl;have e:b=(s.heap.push {cls:=.type "range",data:=.fields #[.int lo t,.int hi u,.int 1 v]}).objs.size:=by simpa using hb
 subst e;exact c.fpOk (F_ _)<|c.hok.fresh<|F_ _
def QO(d:TA):TI:=λσ H R=>d σ H λb c=>∃j:Int,b=[.int j]/\-(2^62)<=j/\j<2^62/\R (Itr 0 j.toNat) c
def Tz{a:lQ}{c:TA}{p pos:Pos}(g:Gl X "range") (hm:X.mg "range" = none) (ha:PA X [a] c) (i:starEach [a] X.env=[(false,eval a X.env)]:=by rfl):PI X tg (.Call (.Name "range" p) [a] [] pos) (QO c):=by
 intro aa s σ H R I h;refine Call_<|Dr I g hm boot_range<|bJ (thn (ha pos aa s σ H _ I h) λw v k=>Cm k λn o m l b=>?_) i rfl;obtain⟨j,e,b,d,q⟩:=b;subst e;cases l with
 |cons r f=>cases f;obtain⟨t,rfl⟩:=r;exact call_range_1<|Wi m (by omega) (by omega) b d<|by simpa using q
def ZN(h:TI)(g:TG)(tb:TS):TS:=λD σ H=>h σ H λJ k=>∃W:Nat->Nat->St->Hp->Prop,(∃m,W 0 m σ k)/\∀i m σ H,W i m σ H ->
 (J.stop i H/\D.nx σ H)\/(J.go i H/\∃N:St->Hp->Prop,(∀ b c,N b c->∃f,f<m/\W (i+1) f b c)/\∀x c,J.yld i H x c->g x σ c λd j=>tb {D with nx:=N,ct:=N,bk:=D.nx} d j)
def Jy(fp:oA lM)(h:lS):oA (lM×lT):=fp.filterMap λb=>(h.get? b).map λo=>(b,o)
def Fe{fp:oA lM}{h:lS}{b:lM}{o:lT}(hb:b∈fp)(e:h.get? b=some o):(b,o)∈Jy fp h:=List.mem_filterMap.mpr ⟨b,hb,by rw[e];rfl⟩
def T7{fp:oA lM}{h:lS}{p:lM×lT}(hp:p∈Jy fp h):p.1∈fp/\h.get? p.1=some p.2:=by
 obtain⟨b,hb,e⟩:=List.mem_filterMap.mp hp;cases q:h.get? b with
 |none=>rw[q]at e;cases e
 |some o=>rw[q]at e;have c:(b,o)=p:=bC e;subst c;exact⟨hb,q⟩
def Inv.pinned{aa:oA<|lM×lT}{σ:St}{H:Hp}{s:lK}{fp:oA lM}(I:Inv X aa σ H s)(i:∀b∈fp,Fu X aa H b)(f:∀b∈fp,∃o,s.heap.get? b=some o/\∀v,o.data≠.cell v):Inv X (aa++Jy fp s.heap) σ H s :=
 I.pins_of λp hp=>(R_.mp hp).elim (λz=>I.pin p<|aT _ z) λz=>by obtain⟨hb,e⟩:=T7 z;obtain⟨g,h,j,_⟩:=i p.1 hb;obtain⟨o,c,d⟩:=f p.1 hb;rw[e]at c;cases c;exact⟨e,g,h,j,d⟩
def Inv.unpinned{aa b:oA<|lM×lT}{σ:St}{H:Hp}{s:lK}(I:Inv X (aa++b) σ H s):Inv X aa σ H s:=I.pins_of λp hp=>I.pin p<|aT _<|aF _ hp
def Wj{iter:lQ}{q:oA lU}{wi:TI}{g:TG}{tb:TS}{pos:Pos}(hp:PassesOwn (model X.prog X.w) X.A X.env X.xe)(hc:X.calm=true)(hi:PI X tg iter wi)(hg:PG X tg g)(hb:PSs X q tb)
  (hs:∀x,foldedSetIterable iter X.env x=pure x:=by intro _;rfl):PS X (.For tg iter q [] pos) (ZN wi g tb):=by
 intro aa s σ H D I h;refine wpAny_For (thn (hi aa s σ H _ I h) λv s1 h1=>thn h1 λyd s2 h2=>?_) hs;obtain⟨it,G,tn,J,H2,e,I2,T,j1,Y,W,⟨m0,w0⟩,gl⟩:=h2;subst e;have S:∀{H':Hp},(∀b∈G,H' b=none)->∀b∈G,Fu X aa H' b:=λhn b hb=>⟨hn b hb,(Y b hb).2⟩;refine codeAny_forLoop_any (λn s'=>∃i j H',Inv X aa j H' s'/\tn i s'.heap/\(∀b∈G,H' b=none)/\W i n j H') ?_ m0 ⟨0,σ,H2,I2,j1,λb hb=>(Y b hb).1,w0⟩;rintro n Z ⟨i,p,L,I3,F,C,w3⟩;rcases gl i n p L w3 with⟨stop,qn⟩|⟨go,N,hN,step⟩;refine fN hp<|thn (T.done X rfl rfl rfl hc i aa Z p L X.xe I3 (S C) F stop) λr s4 ⟨Q,I4⟩=>?_;subst Q;exact gL ⟨p,L,I4,qn⟩
 ·refine fN hp<|thn (T.item X rfl rfl rfl hc i aa Z p L X.xe I3 (S C) F go) λr s4 ⟨u,Q,h4⟩=>?_;subst Q;refine fN hp<|thn h4 λ_ s5 wc=>?_;obtain⟨x,U,I5,r5,y5,z,O⟩:=wc;have R:=I5.pinned (S O)<|T.obj _ _ z;refine fN hp<|thn (hg _ s5 p U x u _ R r5<|step x U y5) λ_ s6 rf=>?_;obtain⟨P,H6,I6,q6⟩:=rf;refine fN hp<|thn (hb _ s6 P H6 _ I6 q6) λf M y=>?_;have again:∀{c:St} {k:Hp},Inv X (aa++Jy G s5.heap) c k M->N c k->∃m,m<n/\∃i j H',Inv X aa j H' M/\tn i M.heap/\(∀b∈G,H' b=none)/\W i m j H':=λ{c k} l B=>by
   obtain⟨m',hm,w7⟩:=hN c k B;refine⟨m',hm,i+1,c,k,l.unpinned,T.keep _ _ _ z λb hb o e=>(l.pin (b,o)<|aT _<|aT _<|Fe hb e).1,λb hb=>?_,w7⟩;obtain⟨o,e,d⟩:=T.obj _ _ z b hb;exact(l.pin (b,o)<|aT _<|aT _<|Fe hb e).2.1
  cases f with
  |next=>obtain⟨c,k,l,B⟩:=y;exact again l B
  |cont=>obtain⟨c,k,l,B⟩:=y;exact again l B
  |brk=>obtain⟨c,k,l,y⟩:=y;exact⟨c,k,l.unpinned,y⟩
  |ret v=>obtain⟨x7,c,k,l,r7,y⟩:=y;exact⟨x7,c,k,l.unpinned,r7,y⟩
end
abbrev R2:=V->V->Hp->VK->Prop
def Gm(X:Cx)(f:lJ->lJ->Sem lJ)(r:R2):Prop :=
 ∀(b:oA<|lM×lT) (s:lK) (a:St) (H:Hp) (x y:V) (v u:lJ) (Q:VK),Inv X b a H s->Bf x v->Bf y u->r x y H Q ->
  yL X.prog X.w X.A (f v u) (EP X b a Q) X.xe s
def Fl(X:Cx)(f:lJ)(r:oA V->Hp->VK->Prop):Prop :=
 ∀(c:oA<|lM×lT) (s:lK) (a:St) (H:Hp) (xs:oA V) (b:oA lJ) (Q:VK),Inv X c a H s->Vals xs b->r xs H Q ->
  yL X.prog X.w X.A (call f b) (EP X c a Q) X.xe s
def QP(r:R2)(c tb:TE):TE:=λa H Q=>c a H λx d=>tb a d λy b=>r x y b Q
def rI(C:Int->Int->Prop)(g:Int->Int->V):R2:=λx y H Q=>∃i j,x=.int i/\y=.int j/\C i j/\Q (g i j) H
def Wl(g:Int->Int->V):R2:=λx y H Q=>∃i j,x=.int i/\y=.int j/\Q (g i j) H
section
variable {X:Cx}{a b c:lQ}{ta tb tc:TE}{pos:Pos}{e:lQ}{es:oA lQ}{te:TE}{t:TA}{aa:oA<|lM×lT}{σ:St}{H:Hp}{s s':lK}{CX:CXT}{k:Nat}{f C:lM}{fd:lV}{ps:oA Str}{sp:Sp}{dvs:oA V}{ds:oA lJ}{E:XK}{x m:Str}{p au:Pos}{o:lQ}{id T:String}{r:oA V->Hp->VK->Prop}
def IV(ha:PE X a ta)(hb:PE X b tb){aa:oA<|lM×lT}{s:lK}{σ:St}{H:Hp}{R:V->V->Hp->Prop}(I:Inv X aa σ H s)
  (h:ta σ H λx l=>tb σ l λy d=>R x y d) {Q:lJ->lK->Prop} {f:lJ->lJ->Sem lJ}
  (J:∀v u j x y d,Inv X aa σ d j->Bf x v->Bf y u->R x y d->yL X.prog X.w X.A (f v u) Q X.xe j) :
  yL X.prog X.w X.A (eval a X.env) (λv g=>yL X.prog X.w X.A (eval b X.env) (λu i=>yL X.prog X.w X.A (f v u) Q X.xe i) X.xe g) X.xe s:=by
 refine thn (ha aa s σ H _ I h) λv q M=>Cm M λx l L z B=>?_;refine thn (hb aa q σ l _ L B) λu j F=>Cm F λy d G D n=>?_;exact J v u j x y d G z D n
def QQ{d:Operator}{r:R2}(i:Gm X (binaryOp d) r)(ha:PE X a ta)(hb:PE X b tb):PE X (.BinOp a d b pos) (QP r ta tb):=by intro aa s σ H Q I h;exact wpAny_BinOp<|IV ha hb I h λv u j x y l n g w q=>i aa j σ l x y v u Q n g w q
def OU{f:lJ->lJ->Sem lJ}{C:Int->Int->Prop}{g:Int->Int->Int}
  (rule:∀(i j:Int) (t u:Tok) (s:lK) (Q:lJ->lK->Prop) (E:lJ->lK->Prop),C i j->Q (.int (g i j) s.toks) {s with toks:=s.toks+1}->yL X.prog X.w X.A (f (.int i t)<|.int j u) Q E s) :
  Gm X f (rI C λi j=>.int<|g i j):=by
 intro aa s σ H x y v u Q I d l h;obtain⟨i,j,rfl,rfl,hc,q⟩:=h;obtain⟨t,rfl⟩:=d;obtain⟨n,rfl⟩:=l;exact rule i j t n s _ _ hc ⟨.int<|g i j,H,I.tok _,⟨_,rfl⟩,q⟩
def CD{f:lJ->lJ->Sem lJ}{g:Int->Int->Int}
  (rule:∀(i j:Int) (t u:Tok) (s:lK) (Q:lJ->lK->Prop) (E:lJ->lK->Prop),Q (.int (g i j) s.toks) {s with toks:=s.toks+1}->yL X.prog X.w X.A (f (.int i t)<|.int j u) Q E s) :
  Gm X f (Wl λi j=>.int<|g i j):=by
 intro aa s σ H x y v u Q I d l h;obtain⟨i,j,rfl,rfl,q⟩:=h;obtain⟨t,rfl⟩:=d;obtain⟨n,rfl⟩:=l;exact rule i j t n s _ _ ⟨.int<|g i j,H,I.tok _,⟨_,rfl⟩,q⟩
def CF{f:lJ->lJ->Sem lJ}{g:Int->Int->Bool}
  (rule:∀(i j:Int) (t u:Tok) (s:lK) (Q:lJ->lK->Prop) (E:lJ->lK->Prop),Q (.bool<|g i j) s->yL X.prog X.w X.A (f (.int i t)<|.int j u) Q E s) :
  Gm X f (Wl λi j=>.bl<|g i j):=by
 intro aa s σ H x y v u Q I d l h;obtain⟨i,j,rfl,rfl,q⟩:=h;obtain⟨t,rfl⟩:=d;obtain⟨n,rfl⟩:=l;exact rule i j t n s _ _ ⟨.bl<|g i j,H,I,rfl,q⟩
def CDiv(i j:Int):Prop:=0<j/\j<1073741824
def CPow(i j:Int):Prop:=0<=j/\j<=1000000/\i.natAbs<2^64
def CMul(i j:Int):Prop:=(-(2^64)<i/\i<2^64)\/(-(2^64)<j/\j<2^64)
def CMul.ok{i j:Int}(h:CMul i j):IntMulOk i j:=by rcases h with⟨h1,h2⟩|⟨h1,h2⟩;exact .of_left<|intBits_le_64 h1 h2;exact .of_right<|intBits_le_64 h1 h2
def Qh(k:Nat):(0:Int)<=2^k:=by rw[two_pow_cast];exact dY _
def IW:Gm X (binaryOp .Add) (Wl λi j=>.int<|i+j):=CD λ_ _ _ _ _ _ _ q=>add_int q
def IX:Gm X (binaryOp .Sub) (Wl λi j=>.int<|i-j):=CD λ_ _ _ _ _ _ _ q=>sub_int q
def IY:Gm X (binaryOp .Mult) (rI CMul λi j=>.int<|i*j):=OU λ_ _ _ _ _ _ _ hc q=>mul_int q hc.ok
def CG:Gm X (binaryOp .FloorDiv) (rI CDiv λi j=>.int<|i / j):=OU λi j _ _ _ _ _ hc q=>by have h1:(0:Int)<j:=hc.1;have h2:j<1073741824:=hc.2;exact floordiv_int (by omega) (by rw[Int.fdiv_eq_ediv_of_nonneg i<|by omega];exact q)<|.inl<|PyProof.noPylong_small<|by omega
def IZ:Gm X (binaryOp .Mod) (rI (λ_ j=>0<j) λi j=>.int<|i%j):=OU λi j _ _ _ _ _ hc q=>by have h1:(0:Int)<j:=hc;exact mod_int' (by omega)<|by rw[Int.fmod_eq_emod_of_nonneg i<|by omega];exact q
def JA:Gm X (binaryOp .Pow) (rI CPow λi j=>.int<|i^j.toNat):=OU λ_ _ _ _ _ _ _ hc q=>pow_int_small hc.1 hc.2.1 hc.2.2 q
def JB:Gm X (binaryOp .LShift) (rI CPow λi j=>.int<|i*2^j.toNat):=OU λ_ _ _ _ _ _ _ hc q=>lshift_int_small hc.1 hc.2.1 hc.2.2 q
def JC:Gm X (binaryOp .RShift) (rI (λ_ j=>0<=j) λi j=>.int<|i / 2^j.toNat):=OU λi j _ _ _ _ _ hc q=>
 rshift_int hc (by rw[Int.fdiv_eq_ediv_of_nonneg i<|Qh _];exact q)
def JD:Gm X (binaryOp .BitAnd) (Wl λi j=>.int<|Builtin.bitAnd i j):=CD λ_ _ _ _ _ _ _ q=>and_int q
def QR:Gm X (binaryOp .BitOr) (Wl λi j=>.int<|Builtin.bitOr i j):=CD λ_ _ _ _ _ _ _ q=>or_int q
def Qi{aa:oA<|lM×lT}{σ:St}{H:Hp}{s:lK}{Q:VK}{k d:Bool}(I:Inv X aa σ H s)(q:Q (.bl k) H)(e:k=d):EP X aa σ Q (.bool d) s:=by subst e;exact⟨.bl k,H,I,rfl,q⟩
def QS:Gm X (compareOp .Lt) (Wl λi j=>.bl<|decide (i<j)):=CF λ_ _ _ _ _ _ _ q=>lt_int q
def QT:Gm X (compareOp .LtE) (Wl λi j=>.bl<|decide (i<=j)):=CF λ_ _ _ _ _ _ _ q=>le_int q
def QU:Gm X (compareOp .Gt) (Wl λi j=>.bl<|decide (j<i)):=CF λ_ _ _ _ _ _ _ q=>gt_int q
def QV:Gm X (compareOp .GtE) (Wl λi j=>.bl<|decide (j<=i)):=CF λ_ _ _ _ _ _ _ q=>ge_int q
def T8:Gm X (compareOp .In) (λx y H Q=>∃i j,x=.str i/\y=.str j/\Q (.bl<|!(Builtin.Str.occurrences j i 0 j.length 1).isEmpty) H):=by intro aa s σ H x y v u Q I d g h;obtain⟨i,j,rfl,rfl,q⟩:=h;obtain⟨t,rfl⟩:=d;obtain⟨l,rfl⟩:=g;exact in_str<|Qi I q rfl
def Wm:Gm X (compareOp .Is) (λx y H Q=>y=.non/\Q (.bl<|decide (x=.non)) H):=by
 intro aa s σ H x y v u Q I d g h;obtain⟨rfl,q⟩:=h;cases g;refine is_none_gen<|Qi I q ?_;cases x<;>first
  | (cases d;rfl)
  | (obtain⟨t,rfl⟩:=d;rfl)
def R3:Gm X (compareOp .IsNot) (λx y H Q=>y=.non/\Q (.bl<|!decide (x=.non)) H):=by
 intro aa s σ H x y v u Q I d g h;obtain⟨rfl,q⟩:=h;cases g;refine isnot_none_gen<|Qi I q ?_;cases x<;>first
  | (cases d;rfl)
  | (obtain⟨t,rfl⟩:=d;rfl)
def nomark(b:lQ){d:CmpOp}(h:d≠.In:=by decide)(h2:d≠.NotIn:=by decide):behindInMarks d b=false:=by
 have i:(d==CmpOp.In)=false:=by cases d<;>first|rfl|exact absurd rfl h
 have g:(d==CmpOp.NotIn)=false:=by cases d<;>first|rfl|exact absurd rfl h2
 cases b<;>simp[behindInMarks,i,g]
def CH{d:CmpOp}{r:R2}(i:Gm X (compareOp d) r)(ha:PE X a ta)(hb:PE X b tb)(hm:behindInMarks d b=false):PE X (.Compare a [d] [b] pos) (QP r ta tb):=by intro aa s σ H Q I h;exact wpAny_Compare1 (IV ha hb I h λv u j x y l n g w q=>i aa j σ l x y v u Q n g w q) hm
def Wo(t:TE):TT:=λσ H Q=>t σ H λx d=>∃k,x=.bl k/\Q k d
def CI{d:CmpOp}{r:R2}(B:Gm X (compareOp d) r)(ha:PE X a ta)(hb:PE X b tb)(hm:behindInMarks d b=false):PT X (.Compare a [d] [b] pos) (Wo<|QP r ta tb):=by
 intro aa s σ H Q I h;refine wpAny_isTrue_Compare1 (thn (ha aa s σ H _ I h) λv G q=>Cm q λx F N M l=>thn (hb aa G σ F _ N l) λu J w=>Cm w λy L A n g=>
  thn (B aa J σ L x y v u _ A M n g) λc P ⟨z,i,O,D,k,e,j⟩=>?_) hm
 subst e;cases D;exact dG ⟨i,O,j⟩
def Qj(r g:R2)(ta tb tc:TE):TE:=λσ H Q=>ta σ H λx j=>tb σ j λy h=>r x y h λz d=>∃k,z=.bl k /\
 (if k=true then tc σ d λl i=>g y l i Q else Q (.bl false) d)
def Wp{i g:CmpOp}{r n:R2}(N:Gm X (compareOp i) r)(O:Gm X (compareOp g) n)(ha:PE X a ta)(hb:PE X b tb)(hc:PE X c tc)
  (hm:lastMarks [i,g] [b,c]=false:=by with_unfolding_all rfl):PE X (.Compare a [i,g] [b,c] pos) (Qj r n ta tb tc):=by
 intro aa s σ H Q I h;refine Compare_chain (thn (ha aa s σ H _ I h) λv W wz=>Cm wz λx S I1 r1 F=>chain_link<|thn (hb aa W σ S _ I1 F) λu Z u6=>Cm u6 λy H2 J q A=>
  thn (N aa Z σ H2 x y v u _ J r1 q A) λd U ⟨z,j,w,R,k,e,l⟩=>?_) hm
 subst e;cases R;refine dG ?_;cases k with
 |false=>exact ite_ff ⟨.bl false,j,w,rfl,l⟩
 |true=>exact ite_tt<|chain_last<|thn (hc aa U σ j _ w l) λD B P=>Cm P λY H4 M G L=>O aa B σ H4 y Y u D Q M q G L
def Wq{i g:CmpOp}{r n:R2}(Z:Gm X (compareOp i) r)(ck:Gm X (compareOp g) n)(ha:PE X a ta)(hb:PE X b tb)(hc:PE X c tc)
  (hm:lastMarks [i,g] [b,c]=false:=by with_unfolding_all rfl):PT X (.Compare a [i,g] [b,c] pos) (Wo<|Qj r n ta tb tc):=by
 intro aa s σ H Q I h;refine isTrue_chain (thn (ha aa s σ H _ I h) λv s1 A=>Cm A λx H1 I1 r1 L=>test_link<|thn (hb aa s1 σ H1 _ I1 L) λu s2 M=>Cm M λy H2 R q B=>
  thn (Z aa s2 σ H2 x y v u _ R r1 q B) λd s3 ⟨z,j,w,r3,k,e,l⟩=>?_) hm
 subst e;cases r3;refine dG ?_;cases k with
 |false=>obtain⟨k',e',F⟩:=l;cases e';exact ite_ff ⟨j,w,F⟩
 |true=>refine ite_tt<|test_last<|thn (hc aa s3 σ j _ w l) λJ D W=>Cm W λz' H4 Y O S=>thn (ck aa D σ H4 y z' u J _ Y q O S) λd' s5 N=>?_;obtain⟨z2,G,P,U,k2,e2,q5⟩:=N;subst e2;cases U;exact dG ⟨G,P,q5⟩
def Jz:(sizeLine:Nat)<2^63:=by rw[iL];decide
def Qk:Gm X (binaryOp .Add) (λx y H Q=>∃i j,x=.str i/\y=.str j/\i.length+j.length<=sizeLine/\Q (.str<|i++j) H):=by intro aa s σ H x y v u Q I d g h;obtain⟨i,j,rfl,rfl,hz,q⟩:=h;obtain⟨t,rfl⟩:=d;obtain⟨l,rfl⟩:=g;exact add_str (λl n=>⟨.str<|i++j,H,I.tok _,⟨_,rfl⟩,q⟩) hz
def Ew{x:V}{d:oA lJ}(r:Vals [x] d):∃u,d=[u]/\Bf x u:=by
 cases r with
 |cons h g=>cases g;exact⟨_,rfl,h⟩
def QW{x y:V}{d:oA lJ}(r:Vals [x,y] d):∃u g,d=[u,g]/\Bf x u/\Bf y g:=by
 cases r with
 |cons l h=>
  cases h with
  |cons j i=>cases i;exact⟨_,_,rfl,l,j⟩
def T9(hc:X.calm=true):Fl X (.builtin "max") (λd H Q=>∃i j,d=[.int i,.int j]/\Q (.int<|if j>i then j else i) H):=by intro aa s σ H d l Q I r h;obtain⟨i,j,rfl,q⟩:=h;obtain⟨u,g,rfl,⟨t,rfl⟩,⟨w,rfl⟩⟩:=QW r;refine max_two_ints (I.ok.hd hc) λv n k=>⟨_,H,I.kept k,?_,q⟩;by_cases hj:j>i;rw[P_ hj,P_ hj];exact⟨_,rfl⟩;rw[H_ hj,H_ hj];exact⟨_,rfl⟩
def Lm:Fl X (.type "int") (λd H Q=>(∃i,d=[.int i]/\Q (.int i) H)\/∃k,d=[.bl k]/\Q (.int<|if k then 1 else 0) H):=by intro aa s σ H d j Q I r h;rcases h with⟨i,rfl,q⟩|⟨k,rfl,q⟩;obtain⟨u,rfl,t,rfl⟩:=Ew r;exact call_int_int ⟨.int i,H,I,⟨_,rfl⟩,q⟩;obtain⟨u,rfl,g⟩:=Ew r;cases g;exact call_int_bool ⟨.int<|if k then 1 else 0,H,I.tok _,⟨_,rfl⟩,q⟩
def Ua{h:lS}{j:lM}{i:Str->oB lJ}(n:h.Ns1 j i):∃g,h.get? j=some g/\∀d,PySem.W.lookIn d g=some (i d):=by
 obtain⟨o,es,A,u,v,hk,_,hm⟩:=n;refine⟨o,u,λd=>?_⟩;have e:=hm d;unfold nsFind findBy at e;rw[<- Array.find?_toList]at e;unfold PySem.W.lookIn;rw[v];dsimp only;split;rename_i y q;rw[q]at e;exact bV some e;rename_i q;rw[q]at e;have a:es.toList.any (·.refKey)=false:=by rw[List.any_eq_false];intro y hy;obtain⟨z,t,l⟩:=hk y<|Array.mem_toList_iff.mp hy;simp[DictEntry.refKey,l]
 have w:¬es.toList.any (·.refKey)=true:=by rw[a];exact U_
 rw[H_ w];exact bV some e
def Jl(f:Str)(v:V):oA (Str×V)->oA (Str×V)
 |[]=>[(f,v)]
 | (g,x)::r=>if g=f then(g,v)::r else(g,x)::Jl f v r
theorem Je(f g:Str)(v:V):∀d:oA<|Str×V,(Jl f v d).lookup g=if g=f then some v else d.lookup g
 |[]=>by show List.lookup g [(f,v)]=_;by_cases h:g=f;have hb:(g==f)=true:=gQ.mpr h;simp only[List.lookup,hb,if_pos h];have hb:(g==f)=false:=eD.mpr h;simp only[List.lookup,hb,if_neg h]
 | (k,x)::r=>by have i:=Je f g v r;rw[show Jl f v ((k,x)::r)=(if k=f then(k,v)::r else(k,x)::Jl f v r) from rfl];by_cases hk:k=f;rw[P_ hk];by_cases h:g=k;have hb:(g==k)=true:=gQ.mpr h;simp only[List.lookup,hb,if_pos<|h.trans hk];have hb:(g==k)=false:=eD.mpr h;simp only[List.lookup,hb,if_neg (λe:g=f=>h<|e.trans hk.symm)];rw[H_ hk];by_cases h:g=k;have hb:(g==k)=true:=gQ.mpr h;simp only[List.lookup,hb,if_neg (λe:g=f=>hk<|h.symm.trans e)];have hb:(g==k)=false:=eD.mpr h;simp only[List.lookup,hb];exact i
theorem Im(f:Str)(v:V):∀d:oA<|Str×V,f∈(Jl f v d).map (·.1)/\∀g,g∈d.map (·.1)->g∈(Jl f v d).map (·.1)
 |[]=>⟨by simp[Jl],λg h=>by simp at h⟩
 | (k,x)::r=>by obtain⟨j,i⟩:=Im f v r;rw[show Jl f v ((k,x)::r)=(if k=f then(k,v)::r else(k,x)::Jl f v r) from rfl];by_cases hk:k=f;rw[P_ hk];subst hk;exact⟨by simp,λg h=>by simpa using h⟩;rw[H_ hk];refine⟨?_,λg h=>?_⟩;rw[a_];exact aE _ j;rw[a_]at h ⊢;rcases aK.mp h with e|e;exact aK.mpr<|.inl e;exact aE _<|i g e
def Fs.some_of{v:V}{o:oB lJ}(r:Fs (some v) o):∃u,o=some u/\Bf v u:=by
 cases o with
 |none=>exact(show False from r).elim
 |some u=>exact⟨u,rfl,r⟩
def Io(K:lN)(C:lM)(f:Str):Prop:=PySem.W.findIn K (.ref C) f=some none
structure Room(k:Nat)(A:lR):Prop where
 hd:A.handled=none
 dp:A.depth+3*k+5<recursionLimit
 un:A.units+16*k+200<cLine
 gd:A.guards=some []
def Room.mono{j k:Nat}{A:lR}(r:Room k A)(h:j<=k):Room j A:=⟨r.hd,by have:=r.dp;omega,by have:=r.un;omega,r.gd⟩
def Room.deeper{k:Nat}{A:lR}(r:Room (k+1) A)(env:Env):Room k (A.deeper env) :=
 ⟨r.hd,by have:=r.dp;show A.depth+1+3*k+5<_;omega,by have:=r.un;show A.units+3+16*k+200<_;omega,r.gd⟩
def Ql{A:lR}{C:lM}{g:oA lJ}{d:oA<|Str×lJ}:(A.under<|.builtin "type.__call__" ⟨.ref C::g,d⟩).depth=A.depth+1:=by
 first|rfl|simp[Around.under,Code.weight,Code.isCreation,Code.isGuard,Code.isCaller,Code.frames,Code.isFrame,guardIds]
def Qm{A:lR}{C:lM}{g:oA lJ}{d:oA<|Str×lJ}:(A.under<|.builtin "type.__call__" ⟨.ref C::g,d⟩).units=A.units+1:=by
 first|rfl|simp[Around.under,Code.cUnits,Code.frames,Code.isFrame]
def Room.make{k:Nat}{A:lR}(r:Room (k+1) A)(C:lM)(d:oA lJ)(g:oA<|Str×lJ):Room k (A.under<|.builtin "type.__call__" ⟨.ref C::d,g⟩) :=
 ⟨r.hd,by have:=r.dp;rw[Ql];omega,by have:=r.un;rw[Qm];omega,r.gd⟩
def Room.depth{k:Nat}{A:lR}(r:Room k A):A.depth<recursionLimit:=by have:=r.dp;omega
def Room.units{k:Nat}{A:lR}(r:Room k A):A.units+64<cLine:=by have:=r.un;omega
def ZO:TA:=λ_ H Q=>Q [] H
def QX(ta:TE)(h:TA):TA:=λσ H Q=>ta σ H λx i=>h σ i λd g=>Q (x::d) g
def JE:PA X [] ZO:=λ_ _ _ _ H Q I h=>cL ⟨[],H,I,.nil,h⟩
def CJ(ha:PE X e te)(z:PA X es t)(g:starEach (e::es) X.env=(false,eval e X.env)::starEach es X.env:=by rfl):PA X (e::es) (QX te t):=by intro pos aa s σ H Q I h;rw[g];show wpAny _ _ (spliced<|(false,eval e X.env)::backTo pos (starEach es X.env)) _ _ s;refine bD<|thn (ha aa s σ H _ I h) λu j B=>Cm B λx i D A l=>?_;exact thn (z pos aa j σ i _ D l) λG F q=>Cm q λv w y n d=>⟨x::v,w,y,.cons A n,d⟩
def ZP(t:TA):TE:=λσ H Q=>t σ H λd g=>d.length<=sizeLine/\∀p,g p=none->Q (.ref p) (upd g p<|.tup d)
def ZQ(t:TA):TE:=λσ H Q=>t σ H λd g=>d.length<=sizeLine/\∀p,g p=none->Q (.ref p) (upd g p<|.lst d)
def JF{x1}(h:PA X es t):PE X (.Tuple es x1 pos) (ZP t):=by intro aa s σ H Q I hq;refine wpAny_Tuple_spliced (thn (h pos aa s σ H _ I hq) λl d ⟨j,g,i,r,z,q⟩=>⟨by rw[<- r.length];exact z,?_⟩);have n:g d.heap.objs.size=none:=i.hok.fresh<|F_ _;refine⟨.ref d.heap.objs.size,upd g d.heap.objs.size<|.tup j,i.laid (t':=d.toks) (λb u e=>DD _ e) (F_ _) ?_,rfl,q _ n⟩;exact⟨z,l,r,⟨_,O_ _ rfl,rfl,_,rfl⟩⟩
def JG(h:PA X es t):PE X (.List es pos) (ZQ t):=by intro aa s σ H Q I hq;refine wpAny_List_spliced (thn (h pos aa s σ H _ I hq) λl d ⟨j,g,i,r,z,q⟩=>⟨by rw[<- r.length];exact z,?_⟩);have n:g d.heap.objs.size=none:=i.hok.fresh<|F_ _;refine⟨.ref d.heap.objs.size,upd g d.heap.objs.size<|.lst j,i.laid (t':=d.toks) (λb u e=>DD _ e) (F_ _) ?_,rfl,q _ n⟩;exact⟨z,l,0,r,O_ _ rfl⟩
abbrev Sp:=oA V->Hp->VK->XK->Prop
abbrev CXT:=oA Env->Hp->lK->XK->lJ->lK->Prop
structure Env0(P:lO)(w:lP)(K:lN)(mg:Str->oB lJ)(base:lS)(A:lR)(outer:oA Env)(s:lK)(H:Hp):Prop where
 frames:A.frames=some outer
 mod:Mod K mg base
 bs:∀b o,base.get? b=some o->s.heap.get? b=some o/\H b=none
 bsz:base.objs.size<=s.heap.objs.size
 funs:s.heap.FunFrames base outer
 frf:∀b∈frs outer,H b=none
 hok:HOk P w H s.heap
 bare:AllBare s.gens
def CE(outer:oA Env)(P:lO)(w:lP)(H:Hp)(s:lK)(Q:VK)(u:lJ)(s':lK):Prop :=
 ∃v d,s'.os=s.os/\AllBare s'.gens/\Un (frs outer) [] H d s.heap s'.heap/\HOk P w d s'.heap/\Bf v u/\Q v d
def CR(CX:CXT)(outer:oA Env)(P:lO)(w:lP)(H:Hp)(s:lK)(Q:VK)(E:XK)(r:lZ)(s':lK):Prop :=
 match r with
 |.ok (.ret u)=>CE outer P w H s Q u s'
 |.ok _=>False
 |.error e=>CX outer H s E e s'
structure FnOk(P:lO)(w:lP)(K:lN)(mg:Str->oB lJ)(base:lS)(CX:CXT)(k:Nat)(f:lM)(fd:lV)(ps:oA Str)(sp:Sp):Prop where
 len:∀vs H Q E,sp vs H Q E->vs.length=ps.length
 run:∀(A:lR) (outer:oA Env) (s:lK) (H:Hp) (args:Args) (us:oA lJ) (vs:oA V) (Q:VK) (E:XK),Room k A->Env0 P w K mg base A outer s H->BindsTo s fd args (ps.zip us)->Vals vs us->sp vs H Q E ->
  codeAny (model P w) A (.call (.ref f) args) (CR CX outer P w H s Q E) s
def FnOk.mono{P:lO}{w:lP}{K:lN}{mg:Str->oB lJ}{base:lS}{CX:CXT}{j k:Nat}{f:lM}{fd:lV}{ps:oA Str}{sp:Sp}(F:FnOk P w K mg base CX j f fd ps sp)(h:j<=k) :
  FnOk P w K mg base CX k f fd ps sp:=⟨F.len,λA d s H g l i Q E n=>F.run A d s H g l i Q E<|n.mono h⟩
def FnOk.imp{P:lO}{w:lP}{K:lN}{mg:Str->oB lJ}{base:lS}{CX:CXT}{k:Nat}{f:lM}{fd:lV}{ps:oA Str}{sp i:Sp}(F:FnOk P w K mg base CX k f fd ps sp)
  (h:∀g H Q E,i g H Q E->sp g H Q E):FnOk P w K mg base CX k f fd ps i :=
 ⟨λg H Q E q=>F.len g H Q E<|h _ _ _ _ q,λA d s H j n g Q E u he hb hv l=>F.run A d s H j n g Q E u he hb hv<|h _ _ _ _ l⟩
def Env0.make{P:lO}{w:lP}{K:lN}{mg:Str->oB lJ}{base:lS}{A:lR}{outer:oA Env}{s:lK}{H:Hp}(e:Env0 P w K mg base A outer s H)(C:lM)(g:oA lJ)(d:oA<|Str×lJ) :
  Env0 P w K mg base (A.under<|.builtin "type.__call__" ⟨.ref C::g,d⟩) outer s H:=⟨by first|exact e.frames|(simpa [Around.under,Code.envs,Code.isFrame,pushEnvs] using e.frames),e.mod,e.bs,e.bsz,e.funs,e.frf,e.hok,e.bare⟩
def Inv.env0(I:Inv X aa σ H s):Env0 X.prog X.w X.K X.mg X.base X.A X.stack s H :=
 ⟨I.ok.frames,I.ok.mod,I.bs,I_ I.ok.bsz I.sz,I.stack,I.stkFree,I.hok,I.bare⟩
def Inv.after{Q:VK}{u:lJ}(I:Inv X aa σ H s)(h:CE X.stack X.prog X.w H s Q u s'):EP X aa σ Q u s':=by obtain⟨v,A,os,i,y,l,r,q⟩:=h;obtain⟨n,g,d,t,j⟩:=s';obtain rfl:j=s.os:=os;exact⟨v,A,I.call (h':=n) (g':=g) (d':=d) (t':=t) (ch:=[]) y l i λb z=>absurd z<|by simp,r,q⟩
def QY(sp:Sp)(dvs:oA V)(E:XK)(t:TA):TE:=λσ H Q=>t σ H λd g=>sp (d++dvs) g Q E
def Binds(K:lN)(fd:lV)(ps:oA Str)(ds:oA lJ):Prop :=
 ∀(s:lK) (d:oA lJ),K.In s.heap->(d++ds).length=ps.length->BindsTo s fd ⟨d,[]⟩ (ps.zip<|d++ds)
def Binds.all{K:lN}{fd:lV}{ps:oA Str}(h:∀d:oA lJ,d.length=ps.length->bindArgs fd ⟨d,[]⟩=pure (ps.zip d)):Binds K fd ps []:=λs d _ g=>by rw[cH]at g ⊢;exact .of_eq<|h d g
def Passes(CX:CXT)(X:Cx)(E:XK):Prop:=∀(aa:oA<|lM×lT) (σ:St) (H:Hp) (s:lK) (e:lJ) (s':lK),Inv X aa σ H s->CX X.stack H s E e s'->X.xe e s'
def JH{aa:oA<|lM×lT}{σ:St}{H:Hp}{s:lK}{Q:VK}{d:oA lJ}{g:oA V}(F:FnOk X.prog X.w X.K X.mg X.base CX k f fd ps sp)(n:Room k X.A)(hb:Binds X.K fd ps ds)(j:Vals dvs ds)(hx:Passes CX X E) (I:Inv X aa σ H s) (r:Vals g d) (h:sp (g++dvs) H Q E):yL X.prog X.w X.A (call (.ref f) d) (EP X aa σ Q) X.xe s:=by
 have i:Vals (g++dvs) (d++ds):=r.append j;have l:(d++ds).length=ps.length:=by rw[<- i.length];exact F.len _ _ _ _ h
 refine lC<|lD (F.run X.A X.stack s H ⟨d,[]⟩ (d++ds) (g++dvs) Q E n I.env0 (hb s d I.kIn l) i h) λr s' hq=>?_;cases r with
 |error e=>exact hx aa σ H s e s' I hq
 |ok fl=>
  cases fl with
  |ret u=>exact I.after hq
  |next=>exact False.elim hq
  |brk=>exact False.elim hq
  |cont=>exact False.elim hq
def Mm(F:FnOk X.prog X.w X.K X.mg X.base CX k f fd ps sp)(l:Room k X.A)(g:Gl X x)(hm:X.mg x=some (.ref f))(hk:PySem.W.keepIn X.K (.ref f)=true)(hb:Binds X.K fd ps ds)(j:Vals dvs ds)(hx:Passes CX X E)
  (ha:PA X (e::es) t) (hdb:(x==("__debug__" : Str))=false:=by decide) (he:starEach (e::es) X.env=(false,eval e X.env)::starEach es X.env:=by rfl) (hpl:(backTo pos<|starEach es X.env).any (·.1)=false:=by rfl) :
  PE X (.Call (.Name x p) (e::es) [] pos) (QY sp dvs E t):=by
 intro aa s σ H Q I h;refine bN<|Fd I g hm ?_ hdb;refine PySem.W.callWith_K (h₀:=X.base) I.ok.mod.kin hk (thn (ha pos aa s σ H _ I h) λy v i=>Cm i λn u d r q=>⟨d.kIn,?_⟩) he hpl;exact JH F l hb j hx d r q
structure FnScope(N P:oA Str)(sc:lX):Prop where
 kind:sc.kind=.function
 co:sc.isCoroutine=false
 gen:sc.isGenerator=false
 nd:N.Nodup
 pre:N.take P.length=P
 par:∀x∈P,sc.names.lookup x=some .local\/sc.names.lookup x=some .cell
 nofree:∀y∈sc.names,y.2≠.free
theorem Ln{kindOf:Str->oB lY}{x:Str}:∀{d:oA<|Str×lJ} {m:Str->oB lJ},(∀v,(x,v)∉d)->bindL kindOf d m x=m x
 |[],_,_=>rfl
 | (n,v)::r,m,h=>by
  unfold bindL;rw[Ln λw g=>h w<|aE _ g];split;have:x≠n:=by rintro rfl;exact h v aR
  simp[this]
  rfl
theorem Lo{kindOf:Str->oB lY}{x:Str}:∀{d:oA<|Str×lJ} {m:Str->oB lJ},(∀v,(x,v)∉d)->bindC kindOf d m x=m x
 |[],_,_=>rfl
 | (n,v)::r,m,h=>by
  unfold bindC;rw[Lo λw g=>h w<|aE _ g];split
  rfl
  have:x≠n:=by rintro rfl;exact h v aR
  simp[this]
theorem Lp{kindOf:Str->oB lY}{x:Str}{v:lJ}:∀{P:oA Str} {d:oA lJ} {i:Nat} {m:Str->oB lJ},P.Nodup->P[i]?=some x->d[i]?=some v->kindOf x=some .local ->
  bindL kindOf (P.zip d) m x=some v
 |[],_,_,_,_,h,_,_=>by simp at h
 |_::_,[],_,_,_,_,h,_=>by simp at h
 |p::P,w::d,0,m,nd,h1,h2,hk=>by simp at h1 h2;subst h1;subst h2;show bindL kindOf ((p,w)::P.zip d) m p=_;unfold bindL;rw[Ln λv hv=>(cJ.mp nd).1 (iA hv).1,P_ hk];simp
 |p::P,w::d,i+1,m,nd,h1,h2,hk=>by show bindL kindOf ((p,w)::P.zip d) m x=_;unfold bindL;exact Lp (i:=i) (cJ.mp nd).2 (by simpa using h1) (by simpa using h2) hk
theorem Lq{kindOf:Str->oB lY}{x:Str}{v:lJ}:∀{P:oA Str} {d:oA lJ} {i:Nat} {m:Str->oB lJ},P.Nodup->P[i]?=some x->d[i]?=some v->kindOf x≠some .local ->
  bindC kindOf (P.zip d) m x=some v
 |[],_,_,_,_,h,_,_=>by simp at h
 |_::_,[],_,_,_,_,h,_=>by simp at h
 |p::P,w::d,0,m,nd,h1,h2,hk=>by simp at h1 h2;subst h1;subst h2;show bindC kindOf ((p,w)::P.zip d) m p=_;unfold bindC;rw[Lo λv hv=>(cJ.mp nd).1 (iA hv).1,H_ hk];simp
 |p::P,w::d,i+1,m,nd,h1,h2,hk=>by show bindC kindOf ((p,w)::P.zip d) m x=_;unfold bindC;exact Lq (i:=i) (cJ.mp nd).2 (by simpa using h1) (by simpa using h2) hk
def start(N:oA Str)(d:oA V):St:=d.map some++List.replicate (N.length-d.length) none
def Fv(CX:CXT)(P:lO)(w:lP)(K:lN)(mg:Str->oB lJ)(base:lS)(N:oA Str)(g:Str)(d:lX)(f:lM)(h:lJ)(A:lR)(outer:oA Env)(s:lK)(H:Hp)(E:XK):Cx where
 prog:=P
 w:=w
 K:=K
 mg:=mg
 base:=base
 A:=A.deeper (envOfC g d s.heap.objs.size f h)
 N:=N
 s₀:=s
 H₀:=H
 env:=envOfC g d s.heap.objs.size f h
 outer:=outer
 stack:=envOfC g d s.heap.objs.size f h::outer
 ex:=[]
 calm:=true
 fn:=λ_=>true
 pn:=[]
 xe:=λe s'=>yL P w (A.deeper<|envOfC g d s.heap.objs.size f h) («leaving» (envOfC g d s.heap.objs.size f h) e) (λ_ i=>CX outer H s E e i) (λj i=>CX outer H s E j i) s'
def N9{sc:lX}{n:Nat}{x:Str}(h:sc.names.lookup x=some .cell):∃c,(cellsFrom n sc.names []).lookup x=some c:=by have q:=PySem.W.cellsFrom_some sc.names n []<|.inl h;exact Option.isSome_iff_exists.mp q
def Ub{CX:CXT}{P:lO}{w:lP}{K:lN}{mg:Str->oB lJ}{base:lS}{N ps:oA Str}{g:Str}{d:lX}{f:lM}{D:lJ}{A:lR}{outer:oA Env}{s I:lK}{H:Hp}{E:XK}{F:oA lJ}{l:oA V}
  (S:FnScope N ps d) (M:A.handled=none) (j:Env0 P w K mg base A outer s H) (O:l.length=ps.length) (r:Vals l F)
  (x:InCallC s s.heap.objs.size (bindL (envOfC g d s.heap.objs.size f D).kindOf (ps.zip F) λ_=>none) (cellsFrom (s.heap.objs.size+1) d.names []) (bindC (envOfC g d s.heap.objs.size f D).kindOf (ps.zip F) λ_=>none) I) :
  Inv (Fv CX P w K mg base N g d f D A outer s H E) [] (start N l) H I:=by
 have J:ps.length<=N.length:=by have:=bV List.length S.pre;rw[aU]at this;omega
 obtain⟨h1,Q,rfl,hk⟩:=x.done;have G:∀b:lM,b∉(Fv CX P w K mg base N g d f D A outer s H E).ex:=λb z=>absurd (show b∈([]:oA lM) from z) (by simp);refine⟨⟨j.mod,S.kind,rfl,rfl,F_ _,λy z c h1 h2=>?_,λy hy=>?_,λy c _ h=>?_,λ_=>M,Around.frames_deeper j.frames,.inr ⟨rfl,rfl⟩,λb z=>absurd z<|G b,j.bs,j.bsz,λb _ _=>G b,λb z=>absurd z<|G b,j.funs,j.frf⟩,
  rfl,j.bare,Un.kept hk,⟨_,x.toInCall.ns,λi y v h1 h2 R=>?_⟩,λy c h=>⟨_,x.cell y c h⟩,j.hok.fresh<|F_ _,λy c h=>?_,λp hp=>absurd (show p∈([]:oA<|lM×lT) from hp)<|by simp,j.hok.kept hk,?_⟩
 exact name_of_addr x.apart (fZ h1)<|fZ h2
 have hy:d.names.lookup y=some .cell\/d.names.lookup y=some .free:=hy;rcases hy with hy|hy;exact N9 hy;exact absurd rfl<|S.nofree _<|fZ hy;exact eB<|x.above y c<|fZ h
 ·have hi:i<l.length:=by
   unfold start at h2;by_cases hi:i<l.length;exact hi;rw[b_<|by simpa using hi]at h2;rw[List.getElem?_replicate]at h2;split at h2<;>cases h2
  have ha:l[i]?=some v:=by
   unfold start at h2;rw[c_<|by simpa using hi,M_]at h2;cases e:l[i]? with
   |none=>rw[e]at h2;cases h2
   |some a=>rw[e]at h2;cases h2;rfl
  obtain⟨u,hu,L⟩:=r.get ha;have hp:ps[i]?=some y:=by rw[<- S.pre,List.getElem?_take_of_lt<|by omega];exact h1
  have B:ps.Nodup:=by rw[<- S.pre];exact S.nd.sublist<|eX _ _
  refine⟨u,L,?_⟩;rcases S.par y (aA hp) with k|k;exact .inl ⟨k,Lp B hp hu k⟩;obtain⟨c,e⟩:=N9 (n:=s.heap.objs.size+1) k;refine .inr ⟨.inl k,c,e,?_⟩;have q:=x.cell y c e;rw[Lq B hp hu<|by show d.names.lookup y≠_;rw[k];decide]at q;exact q
 exact j.hok.fresh<|eB<|x.above y c<|fZ h
 unfold start;show _=N.length;rw[N_,B_,List.length_replicate];omega
def R4{CX:CXT}{P:lO}{w:lP}{K:lN}{mg:Str->oB lJ}{base:lS}{k:Nat}{f:lM}{name g:Str}{h:Arguments}{i:oA lU}{d:lX}{dV kV U R z ct oc:lJ}{Z od:oB lM}
  {ig:oC<|oB lJ} {N ps:oA Str} {sp:Sp} (lk:K.lookup f=some ⟨oc,od,.func<|PySem.W.fnOf name g h i d dV kV U R Z z ct,ig⟩) (fj:PySem.W.codeIn K z g=true) (S:FnScope N ps d)
  (len:∀j H Q E,sp j H Q E->j.length=ps.length)
  (bp:∀(A:lR) (outer:oA Env) (s:lK) (H:Hp) (j:oA V) (Q:VK) (E:XK),Room k (A.deeper<|envOfC g d s.heap.objs.size f z)->sp j H Q E ->
   ∃t,PSs (Fv CX P w K mg base N g d f z A outer s H E) i t/\t {nx:=λ_ H'=>Q .non H',rt:=Q} (start N j) H) :
  FnOk P w K mg base CX (k+1) f (PySem.W.fnOf name g h i d dV kV U R Z z ct) ps sp:=by
 refine⟨len,λA outer s H Y us j Q E L D hb r M=>?_⟩;have hl:=len _ _ _ _ M;have O:K.In s.heap:=D.mod.kin.keeps λb o e=>(D.bs b o e).1;have G:s.heap.NoLimit:=D.mod.nolimit.keeps λb o e=>(D.bs b o e).1;have sy:∀y∈ps.zip us,d.names.lookup y.1=some .local\/(d.names.lookup y.1=some .cell/\((cellsFrom (s.heap.objs.size+1) d.names []).lookup y.1).isSome=true):=λ⟨n,v⟩ hy=>by rcases S.par n (iA hy).1 with q|q;exact .inl q;exact .inr ⟨q,PySem.W.cellsFrom_some _ _ _<|.inl q⟩
 refine codeAny_call_function L.depth (O _ _ lk) rfl S.co S.gen rfl (PySem.W.codeRec_of O fj)<|hb _ _ _ _ ?_;refine wpAny_newFunctionEnv_cells S.kind sy λenv he s1 x=>?_;subst he;refine⟨G.keeps x.toInCall.keep,codeAny_func ?_⟩;obtain⟨t,ht,hq⟩:=bp A outer s H j Q E (L.deeper _) M;have I:Inv (Fv CX P w K mg base N g d f z A outer s H E) [] (start N j) H s1:=Ub S L.hd D hl r x;refine bU (ht [] s1 (start N j) H _ I hq) (λfl s' B=>?_) λe s' B=>B;have aw:∀{l:St} {H':Hp} {v:V} {u:lJ},Inv (Fv CX P w K mg base N g d f z A outer s H E) [] l H' s'->Bf v u->Q v H'->CE outer P w H s Q u s' :=
  λ{l H' v u} J F q=>⟨v,H',J.os,J.bare,J.base,J.hok,F,q⟩
 cases fl with
 |ret u=>obtain⟨v,l,H',J,F,q⟩:=B;exact aw J F q
 |next=>obtain⟨l,H',J,q⟩:=B;exact aw (v:=V.non) (u:=Value.none) J rfl q
 |brk=>obtain⟨_,_,_,q⟩:=B;exact False.elim q
 |cont=>obtain⟨_,_,_,q⟩:=B;exact False.elim q
def ZR(r:oA V->Hp->VK->Prop)(t:TA):TE:=λσ H Q=>t σ H λd g=>r d g Q
def Wr(hc:Fl X (.builtin id) r)(d:Gl X x)(hm:X.mg x=none)(hv:bootBuiltins x=some (.builtin id))(ha:PA X (e::es) t)(hn:x ≠ "__name__" := by decide) (hdb:(x==("__debug__" : Str))=false:=by decide)
  (he:starEach (e::es) X.env=(false,eval e X.env)::starEach es X.env:=by rfl) (hpl:(backTo pos<|starEach es X.env).any (·.1)=false:=by rfl):PE X (.Call (.Name x p) (e::es) [] pos) (ZR r t):=by
 intro aa s σ H Q I h;refine bN<|Dr I d hm hv ?_ hn hdb;exact jK (thn (ha pos aa s σ H _ I h) λq j n=>Cm n λg i v u l=>hc aa j σ i g q Q v u l) he hpl
def Uc(hc:Fl X (.type T) r)(d:Gl X x)(hm:X.mg x=none)(hv:bootBuiltins x=some (.type T))(ha:PA X (e::es) t)(hn:x ≠ "__name__" := by decide) (hdb:(x==("__debug__" : Str))=false:=by decide)
  (he:starEach (e::es) X.env=(false,eval e X.env)::starEach es X.env:=by rfl) (hpl:(backTo pos<|starEach es X.env).any (·.1)=false:=by rfl):PE X (.Call (.Name x p) (e::es) [] pos) (ZR r t):=by
 intro aa s σ H Q I h;refine bN<|Dr I d hm hv ?_ hn hdb;exact bJ (thn (ha pos aa s σ H _ I h) λq j n=>Cm n λg i v u l=>hc aa j σ i g q Q v u l) he hpl
end
end L2
namespace HT
open PySem PyProof.Rows
section
open PySem.SeqAt
open PySem.AutoSeq1 (wpAny_loadPart')
open PySem.MeetsSeq PySem.MeetsSeq2 PySem.MeetsSeq3
end
section
variable {prog:lO}{w:lP}{A:lR}{E:lJ->lK->Prop}{s:lK}
def cat_tup{t b:lM}{c a:oA lJ}{Q:lJ->lK->Prop}(q:IsTup s.heap t c.toArray)(hb:IsTup s.heap b a.toArray)(hv:c≠[])
  (h1:a=[]->Q (.ref t) s) (h2:a≠[]->Q (.ref s.heap.objs.size) {s with heap:=s.heap.push {cls:=.type "tuple",data:=.seq (c++a).toArray}})
  (hsz:c.length+a.length<=sizeLine):yL prog w A (binaryOp .Add (.ref t)<|.ref b) Q E s:=by
 obtain⟨⟨cls,dd,data,m⟩,g,hc,n,l⟩:=id q;obtain⟨⟨j,d,data2,p⟩,i,f,o,k⟩:=id hb;simp only at hc l f k;subst hc l f k;have e:c.toArray++a.toArray=(c++a).toArray:=by simp
 by_cases h:a=[];exact concat_meets ⟨_,g,rfl⟩ ⟨_,i,rfl⟩ kY seq_tuple_add iP iM (gY _ _)
  (tuple_addW1 t b c.toArray a.toArray n o dd d m p (by simpa using hv)<|by simp[h]) ⟨g,i,h1 h⟩
 refine concat_meets ⟨_,g,rfl⟩ ⟨_,i,rfl⟩ kY seq_tuple_add iP iM (gY _ _)
  (tuple_addW2 t b c.toArray a.toArray n o dd d m p (by simpa using hv) (by simpa using h)<|by rw[X_,X_];exact hsz) ⟨g,i,?_⟩
 rw[e];exact h2 h
def sIx(n d:Nat):oB Int->Nat
 |none=>d
 |some v=>if v<0 then(v+(n:Int)).toNat else min v.toNat n
def sIx_none(n d:Nat):sIx n d none=d:=rfl
def sIx_nat(n d k:Nat):sIx n d (some (k:Int))=min k n:=by show(if(k:Int)<0 then((k:Int)+(n:Int)).toNat else min (k:Int).toNat n)=min k n;rw[H_<|by omega,cX]
def JI(n d:Nat)(a:d<=n)(o:oB Int):sIx n d o<=n:=by
 cases o with
 |none=>exact a
 |some v=>show(if v<0 then(v+(n:Int)).toNat else min v.toNat n)<=n;by_cases hv:v<0;rw[P_ hv];omega;rw[H_ hv];exact Nat.min_le_right _ _
def R5(v:Int)(n d:Nat):(if v<0 then max (v+(n:Int)) 0 else min v (n:Int))=((sIx n d (some v):Nat):Int):=by show(if v<0 then max (v+(n:Int)) 0 else min v (n:Int))=(((if v<0 then(v+(n:Int)).toNat else min v.toNat n):Nat):Int);by_cases hv:v<0;simp only[if_pos hv];omega;simp only[if_neg hv];omega
def Qn(lo hi:oB Int)(n:Nat):Builtin.Slice.sliceAdjust lo hi 1 (n:Int)=(((sIx n 0 lo:Nat):Int),((sIx n n hi:Nat):Int)):=by
 have h1:¬((1:Int)<0):=by omega
 unfold Builtin.Slice.sliceAdjust;simp only[h1,if_false];refine kK ?_ ?_
 ·cases lo with
  |none=>rfl
  |some v=>exact R5 v n 0
 ·cases hi with
  |none=>rfl
  |some v=>exact R5 v n n
def Qo(i j:Nat):Builtin.Slice.slicePlaces (i:Int) (j:Int) 1=j-i:=by
 unfold Builtin.Slice.slicePlaces;have h1:(1:Int)>0:=by omega
 simp only[h1,if_true,Int.ediv_one];split<;>omega
def J1{v:lJ}{o:oB Int}{Q:oB Int->lK->Prop}(p:IsPart v o)(h:Q o s):yL prog w A (Builtin.Slice.slicePartIndex v) Q E s:=by
 cases p with
 |none=>exact slicePart_none h
 |int i t=>exact slicePart_int h
def Ex{e:lM}{d c:lJ}{lo hi:oB Int}{n:Nat}{Q:Int×Int×Nat->lK->Prop}(g:s.heap.IsSliceOf e d c .none)(i:IsPart d lo)(f:IsPart c hi)
  (h:Q (((sIx n 0 lo:Nat):Int),1,sIx n n hi-sIx n 0 lo) s):yL prog w A (Builtin.Slice.sliceApplied (.ref e)<|pure (n:Int)) Q E s:=by
 obtain⟨os,a,j,b⟩:=id g;unfold Builtin.Slice.sliceApplied Builtin.Slice.sliceFields;refine A_<|A_<|aH a b (x:=d) rfl<|A_<|aH a b (x:=c) rfl<|A_<|aH a b (x:=.none) rfl<|C_ ?_;refine A_<|slicePart_none ?_;show wpAny _ _ (if((1:Int)==0)=true then _ else _) _ _ s;rw[H_<|by decide];refine A_<|J1 i<|A_<|J1 f<|A_<|C_ ?_;show wpAny _ _ (match Builtin.Slice.sliceAdjust lo hi 1 (n:Int) with|(lo,hi)=>pure (lo,(1:Int),Builtin.Slice.slicePlaces lo hi 1)) _ _ s;rw[Qn lo hi n];show wpAny _ _ (pure (((sIx n 0 lo:Nat):Int),(1:Int),Builtin.Slice.slicePlaces ((sIx n 0 lo:Nat):Int) ((sIx n n hi:Nat):Int) 1)) _ _ s;rw[Qo];exact C_ h
def Wu(xs:oC lJ)(i k:Nat):((List.range k).filterMap λ(m:Nat)=>xs[((i:Int)+(m:Int)*1).toNat]?).toArray=((xs.toList.drop i).take k).toArray:=by
 have e:(λ(m:Nat)=>xs[((i:Int)+(m:Int)*1).toNat]?)=λm=>xs[i+m]?:=by
  funext m
  have:((i:Int)+(m:Int)*1).toNat=i+m:=by omega
  rw[this]
 rw[e];have:=pick_run xs i k;rw[List.filterMap_map]at this;have a:((λx=>xs[x]?) ∘ λx=>i+x)=λm=>xs[i+m]?:=rfl;rw[a]at this;rw[this]
def getItem_tuple_cut{t d:lM}{items:oC lJ}{i g:lJ}{lo hi:oB Int}{Q:lJ->lK->Prop}(b:IsTup s.heap t items)(f:s.heap.IsSliceOf d i g .none)(p:IsPart i lo)(k:IsPart g hi)
  (n:¬(sIx items.size 0 lo=0/\sIx items.size items.size hi=items.size))
  (h:Q (.ref s.heap.objs.size) {s with heap:=s.heap.push {cls:=.type "tuple",data:=.seq ((items.toList.drop<|sIx items.size 0 lo).take<|sIx items.size items.size hi-sIx items.size 0 lo).toArray}})
  (hsz:items.size<=sizeLine):yL prog w A (getItem (.ref t)<|.ref d) Q E s:=by
 have a:sizeOk (.seq ((items.toList.drop<|sIx items.size 0 lo).take<|sIx items.size items.size hi-sIx items.size 0 lo).toArray):=by show((items.toList.drop<|sIx items.size 0 lo).take<|sIx items.size items.size hi-sIx items.size 0 lo).toArray.size<=sizeLine;rw[X_,aU,dN,dS];omega
 have hj:sIx items.size items.size hi<=items.size:=JI _ _ (F_ _) hi;obtain⟨os,e,j,l⟩:=id f;have c:s.TypeIs (.ref d) "slice" := ⟨os,e,j⟩;unfold getItem
 try with_reducible refine bM ?_
 first|refine A_ (C_ ?_)|skip
 refine A_ (wpAny_sequenceKey b.typeIs (by decide) ?_);refine A_<|aV (name:=Str.ofString "__getitem__") b.typeIs cV
  (aW cV b.typeIs entry_tuple_getitem ?_<|args_tuple_getitem _ _)
 show wpAny _ _ (Builtin.Tuple.tupleItemsOf (.ref t)>>=_) _ _ s;refine A_<|tupleItemsOf_ b ?_;refine A_<|iQ c ?_;rw[P_<|by decide];refine A_<|Ex f p k ?_;have o:¬((((sIx items.size 0 lo:Nat):Int)==0&&(1:Int)==1&&(sIx items.size items.size hi-sIx items.size 0 lo)==items.size)=true):=by intro q;rw[Z_,Z_]at q;have u:((sIx items.size 0 lo:Nat):Int)=0:=eq_of_beq q.1.1;have r:sIx items.size items.size hi-sIx items.size 0 lo=items.size:=eq_of_beq q.2;exact n ⟨by omega,by omega⟩
 show wpAny _ _ (if(((sIx items.size 0 lo:Nat):Int)==0&&(1:Int)==1&&(sIx items.size items.size hi-sIx items.size 0 lo)==items.size)=true then _ else _) _ _ s;rw[H_ o,Wu]
 first
  |exact A_ (m:=Builtin.Tuple.tupleExact _) (aJ (C_ ⟨_,rfl,C_ h⟩) a)
  |exact A_ (m:=Builtin.Tuple.tupleExact _) (aJ (A_<|C_<|C_ ⟨_,rfl,C_ h⟩) a)
  |exact A_ (A_ (m:=Builtin.Tuple.tupleExact _)<|aJ (C_<|C_ ⟨_,rfl,C_ h⟩) a)
  |exact A_<|A_ (m:=Builtin.Tuple.tupleExact _)<|aJ (C_ ⟨_,rfl,C_ h⟩) a
end
end HT
namespace L2
open PySem PySem.Spec PyProof.Rows
abbrev TO:=St->Hp->(oB Int->Hp->Prop)->Prop
def PO(X:Cx)(e:oB lQ)(t:TO):Prop :=
 ∀(b:oA<|lM×lT) (s:lK) (a:St) (H:Hp) (Q:oB Int->Hp->Prop),Inv X b a H s->t a H Q ->
  yL X.prog X.w X.A (evalPart e X.env) (λu d=>∃o c,Inv X b a c d/\IsPart u o/\Q o c) X.xe s
def CK:TO:=λ_ H Q=>Q none H
def QZ(t:TE):TO:=λb H Q=>t b H λx a=>∃i,x=.int i/\Q (some i) a
section
variable {X:Cx}{e:lQ}{te:TE}{lo hi:oB lQ}{tl th:TO}{pos p2:Pos}{a b:lQ}{ta tb:TE}{o:lQ}{es:oA lQ}{to:TE}{t:TA}{name:Str}{au ak:Pos}{T id:String}{r:V->oA V->Hp->VK->Prop}
def CL:PO X none CK:=by intro d s c H Q I h;rw[evalPart_none];exact C_ ⟨none,H,I,.none,h⟩
def CM(h:PE X e te):PO X (some e) (QZ te):=by intro k s c H Q I g;rw[evalPart_some];refine thn (h k s c H _ I g) λu n j=>Cm j λx d m l f=>?_;obtain⟨i,rfl,q⟩:=f;obtain⟨t,rfl⟩:=l;exact⟨some i,d,m,.int i t,q⟩
def RA(X:Cx)(r:V->oB Int->oB Int->Hp->VK->Prop):Prop :=
 ∀(f:oA<|lM×lT) (s:lK) (d:St) (H:Hp) (x:V) (v h g:lJ) (lo hi:oB Int) (c:lM) (Q:VK),Inv X f d H s->Bf x v->s.heap.IsSliceOf c h g .none->IsPart h lo->IsPart g hi->r x lo hi H Q ->
  ∃T id,typeLookup (.type T) "__getitem__" = pure (some<|.builtin id)/\s.TypeIs v T/\yL X.prog X.w X.A (getItem v<|.ref c) (EP X f d Q) X.xe s
def tSl(r:V->oB Int->oB Int->Hp->VK->Prop)(te:TE)(tl th:TO):TE:=λc H Q=>te c H λx g=>tl c g λl d=>th c d λu f=>r x l u f Q
def Wv{r:V->oB Int->oB Int->Hp->VK->Prop}(P:RA X r)(he:PE X e te)(p:PO X lo tl)(hu:PO X hi th):PE X (.Subscript e (.Slice lo hi none p2) pos) (tSl r te tl th):=by intro f s d H Q I h;refine Subscript_<|thn (he f s d H _ I h) λv F O=>Cm O λx E S R n=>?_;refine wpAny_Slice<|thn (p f F d E _ S n) λg G N=>Cm N λl M y U k=>thn (hu f G d M _ y k) λi c L=>Cm L λu j W C m=>?_;rw[evalPart_none];refine C_ ?_;have B:Inv X f d j {c with heap:=c.heap.push {cls:=.type "slice",data:=.fields #[g,i,.none]}}:=W.kept (t':=c.toks) λb Y q=>DD _ q;obtain⟨T,id,J,z,D⟩:=P f {c with heap:=c.heap.push {cls:=.type "slice",data:=.fields #[g,i,.none]}} d j x v g i l u c.heap.objs.size Q B R (Heap.IsSliceOf.new ..) U C m;show yL X.prog X.w X.A (subscriptTail e (.Slice lo hi none p2) v<|.ref c.heap.objs.size) (EP X f d Q) X.xe {c with heap:=c.heap.push {cls:=.type "slice",data:=.fields #[g,i,.none]}};exact tail_any (ops:=[.ref c.heap.objs.size,v]) z J D<|by with_unfolding_all rfl
def La(xs:oA V)(lo hi:oB Int):oA V:=(xs.drop<|HT.sIx xs.length 0 lo).take<|HT.sIx xs.length xs.length hi-HT.sIx xs.length 0 lo
def Jf(xs:oA V)(lo hi:oB Int):(La xs lo hi).length<=xs.length:=by unfold La;rw[aU,dN];omega
def ZS(K:lN):V->oB Int->oB Int->Hp->VK->Prop:=λx lo hi H Q=>∃a c,x=.ref a/\Il K H a c /\
 ¬(HT.sIx c.length 0 lo=0/\HT.sIx c.length c.length hi=c.length)/\∀p,H p=none->Q (.ref p) (upd H p<|.tup<|La c lo hi)
def JJ:RA X (ZS X.K):=by
 intro z s n H x v u p lo hi w Q I g j m i h;obtain⟨a,c,rfl,hx,l,q⟩:=h;cases g;obtain⟨k,r,f,hz⟩:=I.tuple hx;have d:k.toArray.size=c.length:=by rw[X_];exact r.length.symm
 refine⟨"tuple",_,cV.lookup,f.typeIs,?_⟩;refine HT.getItem_tuple_cut f j m i (by rw[d];exact l) ?_ (by rw[d];exact hz);rw[d];refine⟨.ref s.heap.objs.size,_,I.laid (t':=s.toks) (o:=.tup<|La c lo hi) (λb y q=>DD _ q) (F_ _) ?_,rfl,q _<|I.hok.fresh<|F_ _⟩;exact⟨I_ (Jf c lo hi) hz,_,(r.drop<|HT.sIx c.length 0 lo).take<|HT.sIx c.length c.length hi-HT.sIx c.length 0 lo,IsTup.new _ _⟩
def Vals.nil_iff{xs:oA V}{c:oA lJ}(r:Vals xs c):c=[]↔xs=[]:=by
 cases r with
 |nil=>simp
 |cons _ _=>simp
def CN(n:Nat)(i:Int):oB Nat:=if 0<=i then(if i<n then some i.toNat else none) else if -(n:Int)<=i then some (i+n).toNat else none
def atI{c:Type}(xs:oA c)(i:Int):oB c:=(CN xs.length i).bind λj=>xs[j]?
def CO{n:Nat}{i:Int}{j:Nat}(h:CN n i=some j):seqIndex? i n=some j/\j<n/\-(n:Int)<=i/\i<n:=by unfold CN at h;by_cases h0:0<=i;rw[P_ h0]at h;by_cases h1:i<n;rw[P_ h1]at h;have e:i.toNat=j:=bC h;exact⟨by rw[seqIndex_of h0 h1,e],by omega,by omega,h1⟩;rw[H_ h1]at h;cases h;rw[H_ h0]at h;by_cases h1:-(n:Int)<=i;rw[P_ h1]at h;have e:(i+n).toNat=j:=bC h;exact⟨by rw[seqIndex_neg (by omega) h1,e],by omega,h1,by omega⟩;rw[H_ h1]at h;cases h
def Mn{c:Type}{xs:oA c}{i:Int}{v:c}(h:atI xs i=some v):∃j,seqIndex? i xs.length=some j/\xs[j]?=some v/\j<xs.length/\-(xs.length:Int)<=i/\i<xs.length:=by
 unfold atI at h;cases e:CN xs.length i with
 |none=>rw[e]at h;cases h
 |some j=>rw[e]at h;obtain⟨h1,h2,d,f⟩:=CO e;exact⟨j,h1,h,h2,d,f⟩
def Ak{c:Type}{xs:oA c}{j:Nat}{v:c}(h:xs[j]?=some v):atI xs (j:Int)=some v:=by
 have hj:j<xs.length:=(D_.mp h).1;have e:CN xs.length (j:Int)=some j:=by unfold CN;rw[P_<|by omega,P_<|by omega];simp
 unfold atI;rw[e];exact h
def R6(b:lQ):Prop:=∀o i,subscripted b false o i=operate [o,i] (getItem o i)
def RB(X:Cx)(r:R2):Prop :=
 ∀(d c:lQ) (g:oA<|lM×lT) (s:lK) (f:St) (H:Hp) (x y:V) (v u:lJ) (Q:VK),Inv X g f H s->Bf x v->Bf y u->r x y H Q ->
  subscripted c false v u=operate [v,u] (getItem v u)->yL X.prog X.w X.A (subscriptTail d c v u) (EP X g f Q) X.xe s
def GJ(X:Cx)(id:String)(r:V->oA V->Hp->VK->Prop):Prop :=
 ∀(f:oA<|lM×lT) (s:lK) (c:St) (H:Hp) (x:V) (xs:oA V) (v:lJ) (d:oA lJ) (Q:VK),Inv X f c H s->Bf x v->Vals xs d->r x xs H Q ->
  yL X.prog X.w X.A (call (.builtin id)<|v::d) (EP X f c Q) X.xe s
def RC{r:R2}(m:RB X r)(ha:PE X a ta)(hb:PE X b tb)(f:R6 b):PE X (.Subscript a b pos) (QP r ta tb):=by intro k s d H Q I h;exact Subscript_<|IV ha hb I h λv u g x y i j c l q=>m a b k g d i x y v u Q j c l q<|f _ _
def ZT(K:lN):R2:=λx y H Q=>∃p c i v,x=.ref p/\y=.int i/\Ei K H p c/\atI c i=some v/\Q v H
def ZU(K:lN):R2:=λx y H Q=>∃p c i v,x=.ref p/\y=.int i/\Il K H p c/\atI c i=some v/\Q v H
def ZV:R2:=λx y H Q=>∃z i c,x=.str z/\y=.int i/\z.length<=sizeLine/\atI z.cps.toList i=some c/\Q (.str ⟨#[c]⟩) H
def R7:RB X (ZT X.K):=by
 intro c d n s k H x y v u Q I A E h l;obtain⟨p,N,i,z,rfl,rfl,hq,he,q⟩:=h;cases A;obtain⟨t,rfl⟩:=E;obtain⟨C,r,f,hz⟩:=I.list hq;obtain⟨j,h1,h2,M,B,F⟩:=Mn he;obtain⟨w,g,G⟩:=r.get h2;have D:=r.length;have L:=Jz;have m:EP X n k Q w s:=⟨z,H,I,G,q⟩;by_cases h0:0<=i;have hj:i.toNat=j:=by rw[seqIndex_of h0 F]at h1;exact bC h1
 exact item_listR f.isList h0 (by omega) (by rw[hj];simpa using g) m l
 have hj:(i+(C.toArray.size:Int)).toNat=j:=by rw[seqIndex_neg (by omega) B]at h1;rw[X_,<- D];exact bC h1
 exact subscriptTail_builtinR (x:=w) f.isList.typeIs slot_list_getitem.lookup
  (wpAny_getItem_list_neg (Q:=λr J=>r=w/\EP X n k Q r J) f.isList (by omega) (by rw[X_]<;>omega) (by omega) (by rw[hj];simpa using g) ⟨rfl,m⟩) l
def JK:RB X (ZU X.K):=by
 intro c d g s f H x y v u Q I l A h B;obtain⟨p,N,i,z,rfl,rfl,hq,he,q⟩:=h;cases l;obtain⟨t,rfl⟩:=A;obtain⟨G,r,k,hz⟩:=I.tuple hq;obtain⟨j,h1,h2,L,F,M⟩:=Mn he;obtain⟨w,m,D⟩:=r.get h2;have n:=r.length;have J:=Jz;have C:EP X g f Q w s:=⟨z,H,I,D,q⟩;exact subscriptTail_builtinR (x:=w) k.typeIs slot_tuple_getitem.lookup
  (getItem_tuple (j:=j) (Q:=λr E=>r=w/\EP X g f Q r E) k (by omega) (by omega) (by rw[X_,<- n];exact h1) (by simpa using m) ⟨rfl,C⟩) B
def JL:RB X ZV:=by
 intro d f E s B H x y v u Q I g A h n;obtain⟨z,i,c,rfl,rfl,hz,he,q⟩:=h;obtain⟨t,rfl⟩:=g;obtain⟨F,rfl⟩:=A;obtain⟨j,h1,h2,C,l,m⟩:=Mn he;have w:z.cps.toList.length=z.length:=by simp[Str.length]
 rw[w]at h1 l m;have D:=Jz;exact tail_any (typeIs_str s z t) slot_str_getitem.lookup (getItem_str (c:=c) (by
  have k:decide (i < -(2^63:Int))=false:=aL (by omega);have p:decide (i>=2^63)=false:=aL (by omega);rw[k,p,Bool.or_false]) (by rw[h1];simpa using h2) ⟨.str ⟨#[c]⟩,H,I.tok _,⟨_,rfl⟩,q⟩) n
def Mo(lo hi:oB Int)(n:Nat):(sliceBounds lo hi none n).1=((HT.sIx n 0 lo:Nat):Int)/\(sliceBounds lo hi none n).2.1=((HT.sIx n n hi:Nat):Int)/\(sliceBounds lo hi none n).2.2=1:=by
 refine⟨?_,?_,rfl⟩
 ·cases lo with
  |none=>simp[sliceBounds,HT.sIx]
  |some i=>simp only[sliceBounds,HT.sIx,Option.getD_none,show(1:Int)>0 by decide,if_true];by_cases h:i<0;simp only[h,if_true]<;>omega;simp only[h,if_false]<;>omega
 ·cases hi with
  |none=>simp[sliceBounds,HT.sIx]
  |some i=>simp only[sliceBounds,HT.sIx,Option.getD_none,show(1:Int)>0 by decide,if_true];by_cases h:i<0;simp only[h,if_true]<;>omega;simp only[h,if_false]<;>omega
def Lb(c:oA lJ)(lo hi:oB Int):slicePick c.toArray lo hi none=((c.drop<|HT.sIx c.length 0 lo).take<|HT.sIx c.length c.length hi-HT.sIx c.length 0 lo).toArray:=by obtain⟨h1,h2,d⟩:=Mo lo hi c.toArray.size;unfold slicePick;rw[h1,h2,d];simp only[sliceRange_one,pick_run,List.size_toArray]<;>rfl
def ZW(K:lN):V->oB Int->oB Int->Hp->VK->Prop:=λx lo hi H Q=>∃a c,x=.ref a/\Ei K H a c/\∀p,H p=none->Q (.ref p) (upd H p<|.lst<|La c lo hi)
def CP:RA X (ZW X.K):=by intro y s l H x v n m lo hi u Q I f j k g h;obtain⟨a,c,rfl,hx,q⟩:=h;cases f;obtain⟨p,r,d,hz⟩:=I.list hx;have i:=r.length;refine⟨"list",_,slot_list_getitem.lookup,d.isList.typeIs,?_⟩;refine wpAny_getItem_list_slice d.isList j k g .none (by simp) ?_ (by rw[X_]<;>omega);rw[Lb,<- i];refine⟨.ref s.heap.objs.size,_,I.laid (t':=s.toks) (o:=.lst<|La c lo hi) (λb w q=>DD _ q) (F_ _) ?_,rfl,q _<|I.hok.fresh<|F_ _⟩;exact⟨I_ (Jf c lo hi) hz,_,0,(r.drop<|HT.sIx c.length 0 lo).take<|HT.sIx c.length c.length hi-HT.sIx c.length 0 lo,O_ _ rfl⟩
def Mp:Gm X (compareOp .NotIn) (λx y H Q=>∃i j,x=.str i/\y=.str j/\Q (.bl<|!(!(Builtin.Str.occurrences j i 0 j.length 1).isEmpty)) H):=by intro g s f H x y v u Q I c d h;obtain⟨i,j,rfl,rfl,q⟩:=h;obtain⟨t,rfl⟩:=c;obtain⟨k,rfl⟩:=d;exact notIn_str ⟨.bl _,H,I,rfl,q⟩
def Ff:Fl X (.builtin "len") (λi H Q=>∃p c,i=[.ref p]/\(Ei X.K H p c\/Il X.K H p c)/\Q (.int c.length) H):=by intro v s l H i n Q I r h;obtain⟨p,c,rfl,hq,q⟩:=h;obtain⟨u,rfl,j⟩:=Ew r;cases j;have m:=Jz;rcases hq with hq|hq;obtain⟨k,f,g,hz⟩:=I.list hq;have d:=f.length;exact Calls.call_len_list g.isList (by simp only[List.size_toArray]<;>omega) ⟨.int c.length,H,I.tok _,⟨s.toks+1,by rw[X_,d]⟩,q⟩;obtain⟨k,f,g,hz⟩:=I.tuple hq;have d:=f.length;exact len_tuple g (by simp only[List.size_toArray]<;>omega) ⟨.int c.length,H,I.tok _,⟨s.toks+1,by rw[X_,d]⟩,q⟩
def Mq:Fl X (.builtin "len") (λc H Q=>∃z,c=[.str z]/\z.length<=sizeLine/\Q (.int z.length) H):=by intro i s d H c g Q I r h;obtain⟨z,rfl,hz,q⟩:=h;obtain⟨u,rfl,t,rfl⟩:=Ew r;have f:=Jz;exact len_str (by omega) ⟨.int z.length,H,I.tok _,⟨_,rfl⟩,q⟩
def G4:Fl X (.type "tuple") (λk H Q=>∃p c,k=[.ref p]/\((Ei X.K H p c/\∀l,H l=none->Q (.ref l) (upd H l<|.tup c))\/(Il X.K H p c/\Q (.ref p) H))):=by
 intro m s j H k A Q I r h;obtain⟨p,c,rfl,h⟩:=h;obtain⟨u,rfl,v⟩:=Ew r;cases v;rcases h with⟨hq,q⟩|⟨hq,q⟩;obtain⟨f,g,i,hz⟩:=I.list hq;have z:=g.length;refine call_tuple_list i.isList (λd x=>?_) (by simp only[List.size_toArray]<;>omega);have n:Inv X m j H {s with heap:=d}:=I.kept (t':=s.toks) x;have y:Inv X m j (upd H d.objs.size<|.tup c) {s with heap:=d.push {cls:=.type "tuple",data:=.seq f.toArray}} :=
  n.laid (t':=s.toks) (λb o e=>DD _ e) (F_ _) (show Bh X.prog X.w _ _ _ (.tup c) from⟨hz,f,g,IsTup.new _ _⟩)
 exact⟨.ref d.objs.size,_,y,rfl,q _<|n.hok.fresh<|F_ _⟩
 obtain⟨f,g,i,hz⟩:=I.tuple hq;exact call_tuple_same i ⟨.ref p,H,I,rfl,q⟩
def YV(K:lN)(T:String)(x:V)(H:Hp):Prop:=match x with
 |.str _=>T = "str"
 |.int _=>T = "int"
 |.ref p=>(T = "list" /\ ∃d,Ei K H p d)\/(T = "tuple" /\ ∃o,K.lookup p=some o/\o.cls=.type "tuple" /\ o.dict=none) \/
   (T = "dict" /\ ((∃c,H p=some (.dK c))\/∃c,H p=some (.dT c)))\/(T = "set" /\ ∃S n,H p=some (.set S n))
 |_=>False
def Ww{m:oA<|lM×lT}{l:St}{H:Hp}{s:lK}{T:String}{x:V}{v:lJ}(I:Inv X m l H s)(r:Bf x v)(ty:YV X.K T x H) :
  s.TypeIs v T/\∀a,v=.ref a->∃j,s.heap.get? a=some j/\j.dict=none:=by
 cases x with
 |str z=>obtain⟨t,rfl⟩:=r;cases (show T = "str" from ty);exact⟨typeIs_str s z t,λ_ e=>nomatch e⟩
 |int i=>obtain⟨t,rfl⟩:=r;cases (show T = "int" from ty);exact⟨typeIs_int s i t,λ_ e=>nomatch e⟩
 |ref p=>
  cases r;rcases ty with⟨rfl,u,hq⟩|⟨rfl,o,hk,hc,h⟩|⟨rfl,hk⟩|⟨rfl,S,n,hk⟩;obtain⟨q,_,k,_⟩:=I.list hq;refine⟨k.isList.typeIs,λa e=>?_⟩;cases e;obtain⟨o,n,e,c,h,_⟩:=k;exact⟨o,e,h⟩;refine⟨⟨o,I.kIn p o hk,hc⟩,λa e=>?_⟩;cases e;exact⟨o,I.kIn _ o hk,h⟩;have z:∃o,s.heap.get? p=some o/\o.ExactDict:=by rcases hk with⟨g,hk⟩|⟨g,hk⟩;obtain⟨_,_,_,_,o,_,_,e,d,_⟩:=I.hok p _ hk;exact⟨o,e,d⟩;obtain⟨_,_,_,_,o,_,_,e,d,_⟩:=I.hok p _ hk;exact⟨o,e,d⟩
  obtain⟨o,e,d⟩:=z;refine⟨⟨o,e,d.1⟩,λa f=>?_⟩;cases f;exact⟨o,e,d.2.1⟩;obtain⟨o,_,_,_,e,d,_⟩:=I.hok p _ hk;refine⟨⟨o,e,d.1⟩,λa f=>?_⟩;cases f;exact⟨o,e,d.2.1⟩
 |_=>exact False.elim ty
def JM(K:lN)(T:String)(r:V->oA V->Hp->VK->Prop)(to:TE):TE:=λd H Q=>to d H λx c=>YV K T x c/\r x [] c Q
def tBM(K:lN)(T:String)(r:V->oA V->Hp->VK->Prop)(to:TE)(t:TA):TE:=λc H Q=>to c H λx d=>YV K T x d/\t c d λf g=>r x f g Q
def Mr(i:PlainAttrs T)(slot:Slot T name id)(n:typeOf (.builtin id)=pure (.type "method_descriptor")) (hm:GJ X id r) (j:PE X o to)
  (k:attributeBase o name X.env (eval o X.env)=eval o X.env:=by rfl) (q:(au.endLine==ak.line)=true:=by rfl):PE X (.Call (.Attribute o name au) [] [] ak) (JM X.K T r to):=by
 intro f s c H Q I h;refine wpAny_Call_method0_late k q<|thn (j f s c H _ I h) λv m u=>?_;obtain⟨x,l,g,d,ty,p⟩:=u;obtain⟨h1,h2⟩:=Ww g d ty;exact⟨T,id,i,slot,n,h1,h2,gF rfl<|PySem.evalArgs_none<|hm f m c l x [] v [] Q g d .nil p⟩
def GK(A:PlainAttrs T)(slot:Slot T name id)(p:typeOf (.builtin id)=pure (.type "method_descriptor")) (hm:GJ X id r) (B:PE X o to) (ha:PA X (e::es) t)
  (k:attributeBase o name X.env (eval o X.env)=eval o X.env:=by rfl)
  (l:((backTo ak<|starEach (e::es) X.env).all (λx=>!x.1)&&(backToKw ak<|keywordEach [] X.env).all (λx=>x.1.isSome)
   && decide ((e::es).length+([]:oA Keyword).length+(if([]:oA Keyword).isEmpty then 0 else 1)<30))=true:=by rfl)
  (z:(au.endLine==ak.line)=true:=by rfl) (D:starEach (e::es) X.env=(false,eval e X.env)::starEach es X.env:=by rfl) (L:(backTo ak<|starEach es X.env).any (·.1)=false:=by rfl) :
  PE X (.Call (.Attribute o name au) (e::es) [] ak) (tBM X.K T r to t):=by
 intro d s c H Q I h;refine wpAny_Call_method_late k l z rfl<|thn (B d s c H _ I h) λv F m=>?_;obtain⟨x,E,i,g,ty,u⟩:=m;obtain⟨h1,h2⟩:=Ww i g ty;refine⟨T,id,A,slot,p,h1,h2,?_⟩;have f:=ha ak d F c E _ i u;rw[D]at f ⊢;refine gF (by show(false||(backTo ak<|starEach es X.env).any (·.1))=false;rw[L]<;>rfl)<|jR ?_;exact thn f λw G C=>Cm C λn J y q j=>hm d G c J x n v w Q y g q j
end
def ZX(X:Cx)(id:String)(r:V->oA V->Hp->VK->Prop):Prop :=
 ∀(c:oA<|lM×lT) (s:lK) (a:St) (H:Hp) (x:V) (xs:oA V) (v:lJ) (b:oA lJ) (Q:VK),Inv X c a H s->Bf x v->Vals xs b->r x xs H Q ->
  yL X.prog X.w X.A (call (.builtin id)<|v::b) (EP X c a Q) X.xe s
def Vals.one:∀{x:V} {a:oA lJ},Vals [x] a->∃u,a=[u]/\Bf x u
 |_,_,.cons r .nil=>⟨_,rfl,r⟩
def Vals.zero:∀{a:oA lJ},Vals [] a->a=[]
 |_,.nil=>rfl
theorem Vals.dropLast{xs:oA V}{a:oA lJ}(h:Vals xs a):Vals xs.dropLast a.dropLast:=by
 induction h with
 |nil=>exact .nil
 |cons r t b=>
  cases t with
  |nil=>exact .nil
  |cons q c=>exact .cons r b
theorem Vals.reverse{xs:oA V}{a:oA lJ}(h:Vals xs a):Vals xs.reverse a.reverse:=by
 induction h with
 |nil=>exact .nil
 |cons r t b=>rw[iR,iR];exact Vals.append b<|.cons r .nil
def Qp{c:Type}(l:oA c):l.eraseIdx (l.length-1)=l.dropLast:=by
 induction l with
 |nil=>rfl
 |cons a r d=>
  cases r with
  |nil=>rfl
  |cons b r=>
   have e:(a::b::r).length-1=((b::r).length-1)+1:=by have h1:(a::b::r).length=r.length+2:=rfl;have h2:(b::r).length=r.length+1:=rfl;omega
   rw[e,List.eraseIdx_cons_succ,d]
   all_goals rfl
section
variable {X:Cx}{aa:oA<|lM×lT}{σ:St}{H:Hp}{s:lK}{l b:lM}{xs ys zs:oA V}
def Inv.lset{a its':oA lJ}{n:Nat}{f:oC lJ->oC lJ}{t':Nat}(I:Inv X aa σ H s)(d:H l=some (.lst xs))
  (e:s.heap.get? l=some {cls:=.type "list",data:=.seq a.toArray n}) (c:f a.toArray=its'.toArray) (hv:Vals ys its') (hz:ys.length<=sizeLine) :
  Inv X aa σ (upd H l<|.lst ys) {s with heap:=s.heap.update l<|Obj.mapSeq f,toks:=t'}:=by
 have q:=PySem.IsL.update e f;rw[c]at q;refine I.write (x:=l) (e:=l) (by rw[d];exact trivial) (.inl rfl) (λg u hb hu=>(aD s.heap (Obj.mapSeq f)<|bW hb).trans hu) ⟨_,q⟩ ?_;exact⟨hz,its',_,hv,q⟩
def Inv.lnew{a:oA lJ}{t':Nat}(I:Inv X aa σ H s)(hv:Vals ys a)(hz:ys.length<=sizeLine) :
  Inv X aa σ (upd H s.heap.objs.size<|.lst ys) {s with heap:=s.heap.push {cls:=.type "list",data:=.seq a.toArray},toks:=t'} :=
 I.laid (λ_ _ q=>DD _ q) (F_ _) ⟨hz,a,0,hv,O_ _ rfl⟩
def Inv.fresh(I:Inv X aa σ H s):H s.heap.objs.size=none:=I.hok.fresh<|F_ _
def Inv.lstM(I:Inv X aa σ H s)(c:H l=some (.lst xs)):xs.length<=sizeLine/\∃(a:oA lJ) (n:Nat),Vals xs a/\xs.length=a.length/\s.heap.get? l=some {cls:=.type "list",data:=.seq a.toArray n}:=by obtain⟨z,a,n,r,e⟩:=I.hok l _ c;exact⟨z,a,n,r,r.length,e⟩
def Wx{n:Nat}(h:n<=sizeLine):Builtin.List.listTooLong n=false:=by unfold Builtin.List.listTooLong;exact aL<|by omega
def CQ:V->oA V->Hp->VK->Prop:=λx a H Q=>∃l xs y,x=.ref l/\a=[y]/\H l=some (.lst xs)/\xs.length<sizeLine/\Q .non (upd H l<|.lst<|xs++[y])
def Lr:ZX X "list.append" CQ:=by intro aa s σ H x i v k Q I d f h;obtain⟨l,xs,y,rfl,rfl,c,hz,q⟩:=h;cases d;obtain⟨u,rfl,g⟩:=f.one;obtain⟨z,a,n,r,j,e⟩:=I.lstM c;refine call_meets F.slot_list_append ⟨_,e,rfl⟩ F.entry_list_append (F.args_list_append_2 _ _) (PySem.list_append l a.toArray n u<|by rw[X_];omega) ⟨e,?_⟩;refine⟨.non,_,I.lset (its':=a++[u]) c e (by simp) (r.append<|.cons g .nil) ?_,rfl,q⟩;rw[N_,jG];omega
def CS:V->oA V->Hp->VK->Prop:=λx a H Q=>∃l b xs zs,x=.ref l/\a=[.ref b]/\H l=some (.lst xs)/\H b=some (.lst zs)/\xs.length+zs.length<=sizeLine/\Q .non (upd H l<|.lst<|xs++zs)
def Ud:ZX X "list.extend" CS:=by
 intro aa s σ H x w v B Q I g j h;obtain⟨l,b,xs,zs,rfl,rfl,f,o,hz,q⟩:=h;cases g;obtain⟨u,rfl,m⟩:=j.one;cases m;obtain⟨z,c,n,r,A,e⟩:=I.lstM f;obtain⟨y,a,t,k,C,p⟩:=I.lstM o;have d:c.toArray.size+a.toArray.size<=sizeLine:=by rw[X_,X_];omega
 have i:¬(!c.toArray.isEmpty&&Builtin.List.listTooLong (c.toArray.size+a.toArray.size))=true:=by rw[Wx d,Bool.and_false];exact U_
 refine call_meets F.slot_list_extend ⟨_,e,rfl⟩ F.entry_list_extend (F.args_list_extend_2 _ _) (AutoSeq1.list_extend_list_list_0 l c.toArray n b a.toArray t i (by rw[X_];omega)<|by omega) ⟨e,p,?_⟩
 refine⟨.non,_,I.lset (its':=c++a) f e (by simp) (r.append k) ?_,rfl,q⟩;rw[N_];omega
def ZY:V->oA V->Hp->VK->Prop:=λx a H Q=>∃l xs y,x=.ref l/\a=[]/\H l=some (.lst xs)/\xs[xs.length-1]?=some y/\Q y (upd H l<|.lst xs.dropLast)
def JN:ZX X "list.pop" ZY:=by
 intro aa s σ H x m v o Q I f i h;obtain⟨l,xs,y,rfl,rfl,d,hy,q⟩:=h;cases f;have g:=i.zero;subst g;obtain⟨z,a,n,r,j,e⟩:=I.lstM d;obtain⟨u,hu,k⟩:=r.get hy;have c:a.toArray[a.toArray.size-1]?=some u:=by show a.toArray[a.length-1]?=some u;rw[<- bT,<- j];exact hu
 refine call_meets F.slot_list_pop ⟨_,e,rfl⟩ F.entry_list_pop (F.args_list_pop_1 _) (MeetsSeq.list_pop_last l a.toArray n u c<|by rw[X_];omega) ⟨e,?_⟩;refine⟨y,_,I.lset (its':=a.dropLast) d e ?_ r.dropLast ?_,k,q⟩;show a.toArray.eraseIdxIfInBounds (a.toArray.size-1)=a.dropLast.toArray;rw[X_,List.eraseIdxIfInBounds_toArray,Qp];rw[jS];omega
def ZZ:R2:=λx y H Q=>∃l b xs zs,x=.ref l/\y=.ref b/\H l=some (.lst xs)/\H b=some (.lst zs)/\xs.length+zs.length<=sizeLine/\∀p,H p=none->Q (.ref p) (upd H p<|.lst<|xs++zs)
def JO:Gm X (binaryOp .Add) ZZ:=by
 intro aa s σ H x y v u Q I f m h;obtain⟨l,b,xs,zs,rfl,rfl,k,d,hz,q⟩:=h;cases f;cases m;obtain⟨z,c,n,r,p,e⟩:=I.lstM k;obtain⟨o,a,t,i,w,g⟩:=I.lstM d;refine PySem.P.add_list e g ?_ (by rw[X_,X_];omega);have j:c.toArray++a.toArray=(c++a).toArray:=by simp
 rw[j];exact⟨.ref _,_,I.lnew (t':=s.toks) (r.append i)<|by rw[N_];omega,rfl,q _ I.fresh⟩
end
section
variable {κ:Type} [DecidableEq κ]
def Em(kvs:oA<|κ×V)(k:κ):oB V:=(kvs.find? λa=>decide (a.1=k)).map (·.2)
def putK(kvs:oA<|κ×V)(k:κ)(v:V):oA (κ×V) :=
 if(kvs.any λa=>decide (a.1=k))=true then kvs.map (λa=>if a.1=k then(a.1,v) else a) else kvs++[(k,v)]
def J3{p:κ×V}{r:oA<|κ×V}{k:κ}(e:p.1=k):Em (p::r) k=some p.2:=by simp[Em,List.find?_cons,e]
def J4{p:κ×V}{r:oA<|κ×V}{k:κ}(e:¬p.1=k):Em (p::r) k=Em r k:=by simp[Em,List.find?_cons,e]
theorem Oa(k:κ):∀a:oA<|κ×V,(a.any λb=>decide (b.1=k))=(Em a k).isSome
 |[]=>rfl
 |p::r=>by rw[eL];by_cases e:p.1=k;simp only[J3 e,decide_eq_true e,Bool.true_or,Option.isSome_some];rw[J4 e,aL e,kT];exact Oa k r
def Ej(kvs:oA<|κ×V)(k:κ)(v:V):(putK kvs k v).length<=kvs.length+1:=by unfold putK;split;rw[B_];omega;rw[N_,aX,List.length_nil];omega
def Fs.isSome_eq{o:oB V}{u:oB lJ}(r:Fs o u):o.isSome=u.isSome:=by
 cases o with
 |none=>cases u with
  |none=>rfl
  |some _=>exact(show False from r).elim
 |some _=>cases u with
  |none=>exact(show False from r).elim
  |some _=>rfl
theorem Fs.getD{o:oB V}{u:oB lJ}{d:V}{d':lJ}(r:Fs o u)(rd:Bf d d'):Bf (o.getD d) (u.getD d'):=by
 cases o with
 |none=>cases u with
  |none=>exact rd
  |some _=>exact(show False from r).elim
 |some _=>cases u with
  |none=>exact(show False from r).elim
  |some _=>exact r
def KV.val{kvs:oA<|κ×V}{d:oA<|κ×lJ}(r:KV kvs d)(k:κ):Fs (Em kvs k) (valueAt d k):=by
 unfold KV at r
 induction r with
 |nil=>exact True.intro
 |@cons p q g c h t f=>
  obtain⟨h1,h2⟩:=h;by_cases e:p.1=k;have a:q.1=k:=h1.symm.trans e;have b:valueAt (q::c) k=some q.2:=by simp[valueAt,List.find?_cons,a]
  rw[J3 e,b];exact h2;have a:¬q.1=k:=λz=>e<|h1.trans z;have b:valueAt (q::c) k=valueAt c k:=by simp[valueAt,List.find?_cons,a]
  rw[J4 e,b];exact f
theorem KV.any{kvs:oA<|κ×V}{b:oA<|κ×lJ}(r:KV kvs b)(k:κ):(kvs.any λa=>decide (a.1=k))=b.any λa=>decide (a.1=k):=by
 unfold KV at r
 induction r with
 |nil=>rfl
 |cons h t c=>rw[eL,eL,c,h.1]
def KV.repl{kvs:oA<|κ×V}{b:oA<|κ×lJ}(r:KV kvs b)(k:κ){y:V}{u:lJ}(d:Bf y u) :
  KV (kvs.map λa=>if a.1=k then(a.1,y) else a) (b.map λa=>if a.1=k then(a.1,u) else a):=by
 unfold KV at r ⊢
 induction r with
 |nil=>exact .nil
 |@cons p q f g h t c=>rw[a_,a_];refine .cons ?_ c;obtain⟨h1,h2⟩:=h;by_cases e:p.1=k;rw[P_ e,P_<|h1.symm.trans e];exact⟨h1,d⟩;rw[H_ e,H_ λz=>e<|h1.trans z];exact⟨h1,h2⟩
def KV.put{kvs:oA<|κ×V}{a:oA<|κ×lJ}(r:KV kvs a)(k:κ){y:V}{u:lJ}(b:Bf y u):KV (putK kvs k y) (stored a k u):=by unfold putK stored;rw[r.any k];by_cases e:(a.any λc=>decide (c.1=k))=true;rw[P_ e,P_ e];exact r.repl k b;rw[H_ e,H_ e];exact jT r ⟨rfl,b⟩
def KV.length{kvs:oA<|κ×V}{a:oA<|κ×lJ}(r:KV kvs a):kvs.length=a.length:=bL r
end
def J6{P:lO}{w:lP}{k:Key}{u:lJ}(r:Bf (kV k) u):(Bx P w).is k u=true:=by
 cases k with
 |inl i=>obtain⟨t,e⟩:=(show ∃t,u=Value.int i t from r);subst e;exact N4 P w i t
 |inr x=>obtain⟨t,e⟩:=(show ∃t,u=Value.str x t from r);subst e;exact N5 P w x t
theorem Lu{P:lO}{w:lP}:∀{ks:oA Key} {a:oA lJ},Vals (ks.map kV) a->ItemsAre (Bx P w) ks a
 |[],_,r=>by rw[List.map_nil]at r;cases r;exact .nil
 |k::ks,_,r=>by
  rw[a_]at r;cases r with
  |cons h t=>exact .cons (J6 h)<|Lu t
abbrev KT(H:Hp):oA (oA Key×V)->oA (oA Key×lM×lJ)->Prop:=Paired λp q=>p.1=q.1/\H q.2.1=some (.tup<|p.1.map kV)/\Bf p.2 q.2.2
def KT.val{H:Hp}{kvs:oA<|oA Key×V}{xs:oA<|oA Key×lM×lJ}(r:KT H kvs xs)(k:oA Key):Fs (Em kvs k) ((atKey xs k).map (·.2)):=by
 induction r with
 |nil=>exact True.intro
 |@cons p q f c h t d=>
  obtain⟨h1,_,h2⟩:=h;by_cases e:p.1=k;have a:q.1=k:=h1.symm.trans e;have b:atKey (q::c) k=some q.2:=by simp[atKey,List.find?_cons,a]
  rw[J3 e,b];exact h2;have a:¬q.1=k:=λz=>e<|h1.trans z;have b:atKey (q::c) k=atKey c k:=by simp[atKey,List.find?_cons,a]
  rw[J4 e,b];exact d
def KT.repl{H:Hp}{kvs:oA<|oA Key×V}{xs:oA<|oA Key×lM×lJ}(r:KT H kvs xs)(k:oA Key){y:V}{u:lJ}(d:Bf y u) :
  KT H (kvs.map λa=>if a.1=k then(a.1,y) else a) (xs.map<|putAt k u):=by
 induction r with
 |nil=>exact .nil
 |@cons p q f g h t c=>rw[a_,a_];refine .cons ?_ c;obtain⟨h1,h2,b⟩:=h;unfold putAt;by_cases e:p.1=k;rw[P_ e,P_<|h1.symm.trans e];exact⟨h1,h2,d⟩;rw[H_ e,H_ λz=>e<|h1.trans z];exact⟨h1,h2,b⟩
def KT.put{H:Hp}{kvs:oA<|oA Key×V}{xs:oA<|oA Key×lM×lJ}(r:KT H kvs xs)(k:oA Key){b:lM}{y:V}{u:lJ}(hb:H b=some (.tup<|k.map kV))(a:Bf y u) :
  KT H (putK kvs k y) (storedH xs k b u):=by
 have e:(kvs.any λc=>decide (c.1=k))=(atKey xs k).isSome:=by rw[Oa,(r.val k).isSome_eq,iS]
 unfold putK storedH;rw[e];by_cases q:(atKey xs k).isSome=true;rw[P_ q,P_ q];exact r.repl k a;rw[H_ q,H_ q];exact jT r ⟨rfl,hb,a⟩
def KT.keeps{H H':Hp}{kvs:oA<|oA Key×V}{xs:oA<|oA Key×lM×lJ}(r:KT H kvs xs)(c:∀b a,H b=some (.tup a)->H' b=some (.tup a)):KT H' kvs xs :=
 Paired.mapP r λ_ _ z=>⟨z.1,c _ _ z.2.1,z.2.2⟩
section
variable {P:lO}{w:lP}{H:Hp}{h:lS}{a:lM}{X:Cx}{aa:oA<|lM×lT}{σ:St}{s:lK}{y v:V}{u r:lJ}{o:oB V}{A:lR}{E:lJ->lK->Prop}
def GL{u:HO}(ok:HOk P w H h)(e:Rd H a u):Bh P w H h a u:=e.ok ok
def Jg{kvs:oA<|Key×V}(ok:HOk P w H h)(e:Rd H a<|.dK kvs):kvs.length<=sizeLine/\(a==sysModules)=false/\∃b,KV kvs b/\h.DictOf (Bx P w) a b :=
 show Bh P w H h a (.dK kvs) from GL ok e
def GM{kvs:oA<|Key×V}(ok:HOk P w H h)(e:H a=some (.dK kvs)):kvs.length<=sizeLine/\(a==sysModules)=false/\∃b,KV kvs b/\h.DictOf (Bx P w) a b:=Jg ok<|.inl e
def Hb{ks:oA Key}(ok:HOk P w H h)(e:H a=some (.tup<|ks.map kV)):(tupleKind<|Bx P w).is h ks a:=by obtain⟨_,c,r,o,h1,h2,n,b⟩:=(show Bh P w H h a (.tup<|ks.map kV) from ok a _ e);exact⟨o,c.toArray,n,h1,h2,b,by simpa using Lu r⟩
def J7{kvs:oA<|oA Key×V}(ok:HOk P w H h)(e:Rd H a<|.dT kvs):kvs.length<=sizeLine/\(a==sysModules)=false /\
  ∃b,KT H kvs b/\h.DictOfH (tupleKind<|Bx P w) a b:=by
 obtain⟨z,y,b,r,o,i,g,h1,h2,c,j,d⟩:=(show Bh P w H h a (.dT kvs) from GL ok e);refine⟨z,y,b,r,o,i,g,h1,h2,c,j,λx hx=>?_,d⟩;have all:∀{l:oA<|oA Key×V} {m:oA<|oA Key×lM×lJ},KT H l m->∀x∈m,(tupleKind<|Bx P w).is h x.1 x.2.1:=by
  intro l m q
  induction q with
  |nil=>intro x hx;exact nomatch hx
  |@cons p q k n hq t f=>intro x hx;rcases aK.mp hx with e|hx;subst e;exact Hb ok (by rw[<- hq.1];exact hq.2.1);exact f x hx
 exact all r x hx
def Ob{kvs:oA<|oA Key×V}(ok:HOk P w H h)(e:H a=some (.dT kvs)):kvs.length<=sizeLine/\(a==sysModules)=false /\
  ∃b,KT H kvs b/\h.DictOfH (tupleKind<|Bx P w) a b:=J7 ok<|.inl e
def DGet(H:Hp)(a:lM)(y:V)(r:oB V):Prop :=
 (∃c k,Rd H a (.dK c)/\y=kV k/\r=Em c k)\/∃c k b,Rd H a (.dT c)/\y=.ref b/\H b=some (.tup<|k.map kV)/\r=Em c k
def DPut(H:Hp)(a:lM)(y v:V)(H':Hp):Prop :=
 (∃c k,H a=some (.dK c)/\y=kV k/\c.length<sizeLine/\H'=upd H a (.dK<|putK c k v)) \/
 ∃c k b,H a=some (.dT c)/\y=.ref b/\H b=some (.tup<|k.map kV)/\c.length<sizeLine/\H'=upd H a (.dT<|putK c k v)
def DGet.k{H:Hp}{a:lM}{kvs:oA<|Key×V}{k:Key}(e:H a=some (.dK kvs)):DGet H a (kV k) (Em kvs k):=.inl ⟨kvs,k,.inl e,rfl,rfl⟩
def DGet.t{H:Hp}{a b:lM}{kvs:oA<|oA Key×V}{k:oA Key}(e:H a=some (.dT kvs))(c:H b=some (.tup<|k.map kV)):DGet H a (.ref b) (Em kvs k):=.inr ⟨kvs,k,b,.inl e,rfl,c,rfl⟩
def DPut.k{H:Hp}{a:lM}{kvs:oA<|Key×V}{k:Key}{v:V}(e:H a=some (.dK kvs))(b:kvs.length<sizeLine):DPut H a (kV k) v (upd H a<|.dK<|putK kvs k v):=.inl ⟨kvs,k,e,rfl,b,rfl⟩
def DPut.t{H:Hp}{a b:lM}{kvs:oA<|oA Key×V}{k:oA Key}{v:V}(e:H a=some (.dT kvs))(d:H b=some (.tup<|k.map kV))(c:kvs.length<sizeLine) :
  DPut H a (.ref b) v (upd H a<|.dT<|putK kvs k v):=.inr ⟨kvs,k,b,e,rfl,d,c,rfl⟩
def Inv.big(I:Inv X aa σ H s):sysModules<s.heap.objs.size:=by have h:mainGlobals<s.heap.objs.size:=(I.mod.glob.keeps I.bk).lt;exact Nat.lt_trans (by decide) h
def Ue{Q:lJ->lK->Prop}(hu:A.units+1<cLine)(I:Inv X aa σ H s)(g:DGet H a y<|some v)(q:Bf y u)(h:∀d n,Inv X aa σ H n->Bf v d->Q d n) :
  yL X.prog X.w A (getItem (.ref a) u) Q E s:=by
 rcases g with⟨m,k,e,f,l⟩|⟨m,k,b,e,f,t,l⟩;subst f;obtain⟨z,D,B,c,dd⟩:=Jg I.hok e;obtain⟨d,i,j⟩:=Fs.some_of (v:=v) (o:=valueAt B k) (by rw[l];exact c.val k);exact wpAny_getItem_of (J6 q) dd.mapOf i<|h d _ (I.tok _) j;subst f;cases (show u=Value.ref b from q);obtain⟨z,D,C,c,dd⟩:=J7 I.hok e;obtain⟨d,i,j⟩:=Fs.some_of (v:=v) (o:=(atKey C k).map (·.2)) (by rw[l];exact c.val k);obtain⟨p,hp,x⟩:=J_.mp i;refine wpAny_getItem_heap (fH hu) (Hb I.hok t) dd hp ?_;rw[x];exact h d _ (I.tok _) j
def Qaa{Q:lJ->lK->Prop}(hu:A.units+1<cLine)(I:Inv X aa σ H s)(g:DGet H a y o)(m:Bf y u)(h:∀j,Inv X aa σ H j->Q (.bool o.isSome) j) :
  yL X.prog X.w A (compareOp .In u<|.ref a) Q E s:=by
 rcases g with⟨f,k,e,d,l⟩|⟨f,k,b,e,d,n,l⟩;subst d;obtain⟨z,i,p,c,dd⟩:=Jg I.hok e;refine wpAny_in_of (J6 m) i dd.mapOf ?_;rw[<- (c.val k).isSome_eq,<- l];exact h _<|I.tok _;subst d;cases (show u=Value.ref b from m);obtain⟨z,i,t,c,dd⟩:=J7 I.hok e;refine wpAny_in_heap (fH hu) (Hb I.hok n) i dd ?_;have q:=(c.val k).isSome_eq;rw[iS]at q;rw[<- q,<- l];exact h _<|I.tok _
def CT{Q:lJ->lK->Prop}(hu:A.units+1<cLine)(I:Inv X aa σ H s)(g:DGet H a y o)(m:Bf y u)(h:∀j,Inv X aa σ H j->Q (.bool<|!o.isSome) j) :
  yL X.prog X.w A (compareOp .NotIn u<|.ref a) Q E s:=by
 rcases g with⟨f,k,e,d,l⟩|⟨f,k,b,e,d,n,l⟩;subst d;obtain⟨z,i,p,c,dd⟩:=Jg I.hok e;refine wpAny_notIn_of (J6 m) i dd.mapOf ?_;rw[<- (c.val k).isSome_eq,<- l];exact h _<|I.tok _;subst d;cases (show u=Value.ref b from m);obtain⟨z,i,t,c,dd⟩:=J7 I.hok e;refine wpAny_notIn_heap (fH hu) (Hb I.hok n) i dd ?_;have q:=(c.val k).isSome_eq;rw[iS]at q;rw[<- q,<- l];exact h _<|I.tok _
def Ho{h':lS}{t':Nat}{c:HO}(I:Inv X aa σ H s)(f:Mut<|H a)(g:Heap.SameBut a s.heap h')(he:∃q,h'.get? a=some q)(d:Bh X.prog X.w (upd H a c) h' a c) :
  Inv X aa σ (upd H a c) {s with heap:=h',toks:=t'} :=
 I.write (x:=a) (e:=a) f (.inl rfl) (λb q hb z=>(g.2 b hb).trans z) he d
def Wy{P:lO}{w:lP}{H':Hp}{h':lS}{kvs:oA<|Key×V}{b:oA<|Key×lJ}(z:kvs.length<=sizeLine)(d:(a==sysModules)=false)(c:KV kvs b)(dd:h'.DictOf (Bx P w) a b) :
  Bh P w H' h' a (.dK kvs):=⟨z,d,b,c,dd⟩
def Uf{H':Hp}{Q:Unit->lK->Prop}(hu:A.units+1<cLine)(I:Inv X aa σ H s)(g:DPut H a y v H')(D:Bf y u)(C:Bf v r)(h:∀F,Inv X aa σ H' F->Q () F) :
  yL X.prog X.w A (setItem (.ref a) u r) Q E s:=by
 rcases g with⟨d,k,e,j,l,t⟩|⟨d,k,b,e,j,x,l,t⟩;subst j t;obtain⟨z,n,J,f,dd⟩:=GM I.hok e;have hz:J.length<=sizeLine:=by rw[<- f.length];exact z
 have m:(putK d k v).length<=sizeLine:=by have:=Ej d k v;omega
 refine wpAny_setItem_pairs (hsz:=hz) (J6 D) dd λG i p=>h _ ?_;have he:∃q,G.get? a=some q:=let⟨q,_,_,hq,_⟩:=i;⟨q,hq⟩
 exact Ho I (by rw[e];exact True.intro) p he<|Wy m n (f.put k C) i
 subst j t;cases (show u=Value.ref b from D);obtain⟨z,n,O,f,dd⟩:=Ob I.hok e;have hz:O.length<=sizeLine:=by rw[<- bL f];exact z
 have m:(putK d k v).length<=sizeLine:=by have:=Ej d k v;omega
 refine wpAny_setItem_heap (hsz:=hz) (fH hu) (Hb I.hok x) dd λG i p=>h _ ?_;obtain⟨q,L,R,hq,h2,M,S,_,N⟩:=i;refine Ho I (by rw[e];exact True.intro) p ⟨q,hq⟩ ⟨m,n,_,(f.put k x C).keeps λc T B=>?_,q,L,R,hq,h2,M,S,N⟩;rw[An<|N6 B e λz=>nomatch z];exact B
end
section
variable {X:Cx}{aa:oA<|lM×lT}{σ:St}{H:Hp}{s:lK}{a:lM}{kvs:oA<|Key×V}{k:Key}{u:lJ}{A:lR}{E:lJ->lK->Prop}{o i e value:lQ}{pos bo j3:Pos}{td ty tv:TE}
def RD{Q:lJ->lK->Prop}(I:Inv X aa σ H s)(e:Rd H a<|.dK kvs)(h:∀t c,Inv X aa σ H c->Q (.int kvs.length t) c):yL X.prog X.w A (call (.builtin "len") [.ref a]) Q E s:=by obtain⟨z,d,f,b,dd⟩:=Jg I.hok e;refine call_len_dict d dd (by rw[<- b.length];rw[iL]at z;omega) ?_;rw[<- b.length];exact h _ _<|I.tok _
def JP(i:lQ):Prop:=∀b c,subscripted i false b c=operate [b,c] (getItem b c)
def CU{prog:lO}{w:lP}{A:lR}{E:lJ->lK->Prop}{s:lK}{env:Env}{value b:lQ}{pos:Pos}{T id:String}{Q:lJ->lK->Prop}
  (q:typeLookup (.type T) "__getitem__" = pure (some<|.builtin id)) (p:JP b)
  (h:yL prog w A (eval value env) (λo g=>yL prog w A (eval b env) (λi c=>c.TypeIs o T/\yL prog w A (getItem o i) Q E c) E g) E s) :
  yL prog w A (eval (.Subscript value b pos) env) Q E s:=by
 refine Subscript_<|bU h (λo g l=>bU l (λi c d=>?_) λ_ _ x=>x) λ_ _ x=>x;obtain⟨n,d⟩:=d;unfold subscriptTail;refine A_ ?_;rw[getitemInPython_of_ne n.not_modules];refine A_<|eY n q ?_;have m:yL prog w A (subscripted b false o i) (λr f=>yL prog w A (letTemporaryGo value o r>>=λ_=>pure r) Q E f) E c:=by rw[p o i];exact wpAny_operating<|bU d (λr f j=>A_<|wpAny_letTemporaryGo<|C_ j) λ_ _ x=>x
 first
  |exact C_ (A_ m)
  |exact A_ (C_<|A_ m)
  |exact A_ m
def Oc{X:Cx}{aa:oA<|lM×lT}{σ:St}{H:Hp}{s:lK}{a:lM}{y:V}{o:oB V}(I:Inv X aa σ H s)(g:DGet H a y o):s.TypeIs (.ref a) "dict" := by rcases g with⟨kvs,k,e,_,_⟩|⟨kvs,k,b,e,_,_,_⟩;obtain⟨_,_,c,_,dd⟩:=Jg I.hok e;exact dd.typeIs;obtain⟨_,_,d,_,dd⟩:=J7 I.hok e;exact dd.typeIs
def RE(td ty:TE):TE:=λσ H Q=>td σ H λx c=>ty σ c λy b=>∃a v,x=.ref a/\DGet b a y (some v)/\Q v b
def RF(ty td:TE):TE:=λσ H Q=>ty σ H λy c=>td σ c λx b=>∃a o,x=.ref a/\DGet b a y o/\Q (.bl o.isSome) b
def R8(ty td:TE):TE:=λσ H Q=>ty σ H λy c=>td σ c λx b=>∃a o,x=.ref a/\DGet b a y o/\Q (.bl<|!o.isSome) b
def RG(td ty tv:TE):TS:=λD σ H=>tv σ H λv f=>td σ f λx c=>ty σ c λy d=>∃a b,x=.ref a/\DPut d a y v b/\D.nx σ b
def CV(hu:X.A.units+1<cLine)(d:PE X o td)(hi:PE X i ty)(m:JP i):PE X (.Subscript o i pos) (RE td ty):=by intro aa s σ H Q I h;refine CU PySem.F.slot_dict_getitem.lookup m<|thn (d aa s σ H _ I h) λu q l=>Cm l λx p B c r=>thn (hi aa q σ p _ B r) λL J n=>?_;obtain⟨y,w,b,z,a,v,f,g,j⟩:=n;subst f;obtain rfl:u=Value.ref a:=c;exact⟨Oc b g,Ue hu b g z λG D C t=>⟨v,w,C,t,j⟩⟩
def JQ(hu:X.A.units+1<cLine)(hi:PE X i ty)(d:PE X o td):PC X .In i o (RF ty td):=by intro aa s σ H Q I h;refine thn (hi aa s σ H _ I h) λD l m=>Cm m λy j w v n=>thn (d aa l σ j _ w n) λu C r=>?_;obtain⟨x,q,t,b,a,p,c,g,f⟩:=r;subst c;obtain rfl:u=Value.ref a:=b;exact Qaa hu t g v λB z=>⟨.bl p.isSome,q,z,rfl,f⟩
def Ug(hu:X.A.units+1<cLine)(hi:PE X i ty)(d:PE X o td):PC X .NotIn i o (R8 ty td):=by intro aa s σ H Q I h;refine thn (hi aa s σ H _ I h) λD m n=>Cm n λy l w v p=>thn (d aa m σ l _ w p) λu C j=>?_;obtain⟨x,r,t,b,a,q,c,g,f⟩:=j;subst c;obtain rfl:u=Value.ref a:=b;exact CT hu t g v λB z=>⟨.bl<|!q.isSome,r,z,rfl,f⟩
def CW(hu:X.A.units+1<cLine)(w:PE X o td)(hi:PE X i ty)(hv:PE X value tv)(z:swapsWith value (some<|.Subscript o i bo) pos.line X.env=pure false) :
  PS X (.Assign [.Subscript o i bo] value pos) (RG td ty tv):=by
 intro aa s σ H D I h;refine wpAny_Assign_Subscript (thn (hv aa s σ H _ I h) λr C G=>Cm G λv B M j l=>thn (w aa C σ B _ M l) λu F m=>Cm m λx J n b c=>thn (hi aa F σ J _ n c) λQ R p=>?_) z;obtain⟨y,P,N,q,a,L,d,g,f⟩:=p;subst d;obtain rfl:u=Value.ref a:=b;exact Uf hu N g q j λO t=>⟨σ,L,t,f⟩
def Od{P:lO}{w:lP}{H:Hp}(h:lS)(hb:sysModules<h.objs.size):Bh P w H (h.push {cls:=.type "dict",data:=.dict #[]}) h.objs.size (.dK []) :=
 ⟨bH _,eD.mpr<|bW<|aM hb,[],.nil,Heap.DictOf.new h⟩
def Wz{P:lO}{w:lP}{H:Hp}(h:lS)(hb:sysModules<h.objs.size):Bh P w H (h.push {cls:=.type "dict",data:=.dict #[]}) h.objs.size (.dT []) :=
 ⟨bH _,eD.mpr<|bW<|aM hb,[],.nil,_,#[],0,O_ _ rfl,⟨rfl,rfl,rfl⟩,rfl,rfl,bO⟩
def JR:TE:=λ_ H Q=>∀p,H p=none->Q (.ref p) (upd H p<|.dK [])
def JS:TE:=λ_ H Q=>∀p,H p=none->Q (.ref p) (upd H p<|.dT [])
def W0:PE X (.Dict [] [] pos) JR:=λaa s σ H Q I h=>
 wpAny_Dict_empty ⟨.ref s.heap.objs.size,_,I.laid (a:=s.heap.objs.size) (o:=.dK []) (t':=s.toks) (λ_ _ q=>DD _ q) (F_ _)<|Od s.heap I.big,rfl,h _<|I.hok.fresh<|F_ _⟩
def W5:PE X (.Dict [] [] pos) JS:=λaa s σ H Q I h=>
 wpAny_Dict_empty ⟨.ref s.heap.objs.size,_,I.laid (a:=s.heap.objs.size) (o:=.dT []) (t':=s.toks) (λ_ _ q=>DD _ q) (F_ _)<|Wz s.heap I.big,rfl,h _<|I.hok.fresh<|F_ _⟩
end
def Mu:oA (TE×TE)->St->Hp->(oA (V×V)->Hp->Prop)->Prop
 |[],_,H,Q=>Q [] H
 | (d,g)::r,a,H,Q=>d a H λx e=>g a e λy b=>Mu r a b λf c=>Q ((x,y)::f) c
abbrev VV:oA (V×V)->oA (lJ×lJ)->Prop:=Paired λp q=>Bf p.1 q.1/\Bf p.2 q.2
def PPs(X:Cx)(c:Pos)(j:oA<|oB lQ)(a:oA lQ)(i:oA<|TE×TE):Prop :=
 ∀(d:oA<|lM×lT) (s:lK) (b:St) (H:Hp) (Q:oA (V×V)->Hp->Prop),Inv X d b H s->Mu i b H Q ->
  yL X.prog X.w X.A (evalPairs<|pairTrees j a X.env c) (λh g=>∃f e,Inv X d b e g/\VV f h/\Q f e) X.xe s
def CY{X:Cx}{a:Pos}:PPs X a [] [] []:=λc s b H Q I h=>pairTrees_nil_walk ⟨[],H,I,.nil,h⟩
def W7{X:Cx}{a:Pos}{k v:lQ}{ks:oA<|oB lQ}{e:oA lQ}{tk f:TE}{g:oA<|TE×TE}(hk:PE X k tk)(hv:PE X v f)(D:PPs X a ks e g) :
  PPs X a (some k::ks) (v::e) ((tk,f)::g):=λd s b H Q I h=>
 pairTrees_cons_walk (thn (hk d s b H _ I h) λu t C=>Cm C λx r E i n=>thn (hv d t b r _ E n) λL z B=>Cm B λy A p q j=>
  thn (D d z b A _ p j) λG J o=>Cm o λw l F c m=>⟨(x,y)::w,l,F,.cons ⟨i,q⟩ c,m⟩)
def Hc(kvs more:oA<|Key×V):oA (Key×V):=more.foldl (λa b=>putK a b.1 b.2) kvs
def KV.merge:∀{more:oA<|Key×V} {b:oA<|Key×lJ} {kvs:oA<|Key×V} {a:oA<|Key×lJ},KV more b->KV kvs a->KV (Hc kvs more) (merged a b):=by
 intro more b kvs a r;unfold KV at r
 induction r generalizing kvs a with
 |nil=>intro q;exact q
 |@cons p q f g h t c=>
  intro d;have e:KV (putK kvs p.1 p.2) (stored a q.1 q.2):=by have:=d.put p.1 h.2;rw[<- h.1];exact this
  exact c e
theorem G5:∀(more kvs:oA<|Key×V),(Hc kvs more).length<=kvs.length+more.length
 |[],kvs=>by show kvs.length<=kvs.length+0;omega
 |p::r,kvs=>by have h1:=G5 r<|putK kvs p.1 p.2;have h2:=Ej kvs p.1 p.2;show(Hc (putK kvs p.1 p.2) r).length<=_;rw[aX];omega
theorem J8{P:lO}{w:lP}:∀{kvs:oA<|Key×V} {f:oA<|lJ×lJ},VV (kvs.map λe=>(kV e.1,e.2)) f->∃d,Carries (Bx P w) f d/\KV kvs d
 |[],_,r=>by rw[List.map_nil]at r;cases r;exact⟨[],True.intro,.nil⟩
 |p::kvs,_,r=>by
  rw[a_]at r;cases r with
  |@cons a b as i h t=>obtain⟨d,c,q⟩:=J8 (P:=P) (w:=w) t;obtain⟨j,g⟩:=b;exact⟨(p.1,g)::d,⟨J6 h.1,rfl,c⟩,.cons ⟨rfl,h.2⟩ q⟩
def RH(f:oA<|TE×TE):TE:=λd H Q=>∀p,H p=none->Mu f d (upd H p<|.dK []) λe c=>c p=some (.dK [])/\∃a:oA<|Key×V,e=a.map (λb=>(kV b.1,b.2))/\a.length<=15/\Q (.ref p) (upd c p<|.dK<|Hc [] a)
def CZ{X:Cx}{g:Pos}{d:oA<|oB lQ}{b:oA lQ}{l:oA<|TE×TE}(h:PPs X g d b l)(B:d.all (·.isSome)=true)(t:d.length=b.length)(h0:d≠[])
  (j:d.length<=15):PE X (.Dict d b g) (RH l):=by
 intro E s A H Q I q;have u:=I.hok.fresh<|F_ s.heap.objs.size;have F:=I.laid (a:=s.heap.objs.size) (o:=.dK []) (h':=s.heap.push {cls:=.type "dict",data:=.dict #[]}) (t':=s.toks) (λ_ _ q=>DD _ q) (F_ _)<|Od s.heap I.big;refine wpAny_Dict_walk (knd:=Bx X.prog X.w) B t h0 j<|thn (h E _ A _ _ F<|q _ u) λJ M v=>?_;obtain⟨L,N,k,i,e,f,D,G,n⟩:=v;subst D;obtain⟨r,c,rk⟩:=J8 (P:=X.prog) (w:=X.w) i;obtain⟨z,y,p,x,dd⟩:=GM k.hok e;cases x;refine⟨r,c,dd,λh' m C=>⟨.ref s.heap.objs.size,_,?_,rfl,n⟩⟩;have hz:(Hc [] f).length<=sizeLine:=by have h1:=G5 f [];rw[List.length_nil]at h1;rw[iL];omega
 have he:∃q,h'.get? s.heap.objs.size=some q:=by obtain⟨q,_,_,hq,_⟩:=m;exact⟨q,hq⟩
 exact Ho k (by rw[e];exact True.intro) C he<|Wy hz y (rk.merge .nil) m
structure M1(X:Cx)(o:lQ)(m:Str)(au:Pos)(e:lQ)(ak:Pos):Prop where
 base:attributeBase o m X.env (eval o X.env)=eval o X.env
 few:((backTo ak<|starEach [e] X.env).all (λx=>!x.1)&&(backToKw ak<|keywordEach [] X.env).all (λx=>x.1.isSome)
  && decide (([e]:oA lQ).length+([]:oA Keyword).length+(if([]:oA Keyword).isEmpty then 0 else 1)<30))=true
 line:(au.endLine==ak.line)=true
 trees:backTo ak (starEach [e] X.env)=[(false,eval e X.env)]
structure M2(X:Cx)(o:lQ)(m:Str)(au:Pos)(e f:lQ)(ak:Pos):Prop where
 base:attributeBase o m X.env (eval o X.env)=eval o X.env
 few:((backTo ak<|starEach [e,f] X.env).all (λx=>!x.1)&&(backToKw ak<|keywordEach [] X.env).all (λx=>x.1.isSome)
  && decide (([e,f]:oA lQ).length+([]:oA Keyword).length+(if([]:oA Keyword).isEmpty then 0 else 1)<30))=true
 line:(au.endLine==ak.line)=true
 trees:backTo ak (starEach [e,f] X.env)=[(false,eval e X.env),(false,eval f X.env)]
def YW(H:Hp)(a:lM):Prop:=(∃b,Rd H a<|.dK b)\/∃b,Rd H a<|.dT b
def W8{X:Cx}{i:oA<|lM×lT}{h:St}{H:Hp}{s:lK}{a:lM}(I:Inv X i h H s)(d:YW H a) :
  s.TypeIs (.ref a) "dict" /\ (∀b,Value.ref a=.ref b->∃c,s.heap.get? b=some c/\c.dict=none)/\(a==sysModules)=false:=by
 rcases d with⟨f,e⟩|⟨f,e⟩;obtain⟨_,g,j,_,dd⟩:=Jg I.hok e;refine⟨dd.typeIs,λb q=>?_,g⟩;cases q;obtain⟨c,_,_,h1,h2,_⟩:=dd;exact⟨c,h1,h2.2.1⟩;obtain⟨_,g,k,_,dd⟩:=J7 I.hok e;refine⟨dd.typeIs,λb q=>?_,g⟩;cases q;obtain⟨c,_,_,h1,h2,_⟩:=dd;exact⟨c,h1,h2.2.1⟩
section
variable {X:Cx}{aa:oA<|lM×lT}{σ:St}{H:Hp}{s:lK}{a:lM}{y d:V}{u r:lJ}{o:oB V}{A:lR}{E:lJ->lK->Prop}
def JT{Q:lJ->lK->Prop}(hu:A.units+1<cLine)(I:Inv X aa σ H s)(g:DGet H a y o)(p:Bf y u)(rd:Bf d r)(h:∀m n,Inv X aa σ H n->Bf (o.getD d) m->Q m n) :
  yL X.prog X.w A (call (.builtin "dict.get") [.ref a,u,r]) Q E s:=by
 rcases g with⟨i,k,e,f,l⟩|⟨i,k,b,e,f,q,l⟩;subst f;obtain⟨z,j,v,c,dd⟩:=Jg I.hok e;refine iT jH dd.typeIs PySem.F.entry_dict_get (PySem.F.args_dict_get_3 _ _ _) (meets_dict_get_default (Bx X.prog X.w) a (J6 p) j r) ⟨_,dd.mapOf,h _ _ (I.tok _) ?_⟩;rw[l];exact(c.val k).getD rd;subst f;cases (show u=Value.ref b from p);obtain⟨z,j,t,c,dd⟩:=J7 I.hok e;refine iT jH dd.typeIs PySem.F.entry_dict_get (PySem.F.args_dict_get_3 _ _ _) (meetsH_dict_get_default (tupleKind<|Bx X.prog X.w) a b j r) ⟨fH hu,k,t,Hb I.hok q,dd,h _ _ (I.tok _) ?_⟩;rw[l];exact(c.val k).getD rd
end
def JU(td ty f:TE):TE:=λb H Q=>td b H λx d=>∃a,x=.ref a/\YW d a/\ty b d λy e=>f b e λz c=>∃o,DGet c a y o/\Q (o.getD z) c
section
variable {X:Cx}{o e f:lQ}{au ak:Pos}{td ty tx:TE}
def W9(hu:X.A.units+1<cLine)(C:PE X o td)(he:PE X e ty)(v:PE X f tx)(m:M2 X o "get" au e f ak):PE X (.Call (.Attribute o "get" au) [e,f] [] ak) (JU td ty tx):=by
 intro c s b H Q I h;refine wpAny_Call_method m.base m.few m.line f_ jH PySem.F.type_dict_get<|thn (C c s b H _ I h) λu E j=>?_;obtain⟨x,D,i,l,a,n,d,r⟩:=j;subst n;obtain rfl:u=Value.ref a:=l;obtain⟨M,N,_⟩:=W8 i d;refine⟨M,N,?_⟩;rw[m.trees];refine gF rfl<|jR<|bD<|thn (he c E b D _ i r) λW G P=>Cm P λy L t w k=>
  bD (thn (v c G b L _ t k) λV Y ⟨z,p,R,O,U,g,q⟩=>cL ?_)
 exact JT hu R g w O λT S B J=>⟨_,p,B,J,q⟩
end
end L2
namespace Att
open PySem PySem.W PySem.Calls PyProof.Rows
def Jm{P:Params}{h:lS}:∀(ns:oA Int) (c:oA lJ),WellAll P h c (ns.map WData.int)->IntsAre c ns:=by
 intro ns
 induction ns with
 |nil=>intro c w;rw[List.map_nil]at w;cases w;exact .nil
 |cons n ns d=>
  intro c w;rw[a_]at w;cases w with
  |cons a b=>cases a;exact .cons _ _<|d _ b
def Uh{l:OpenLaw}{n:Nat}(hn:l.most=some n){P:Params}{h:lS}{args:oA WData}{f:oA lJ}
  (i:l.row.toRowW.claim.pre args=true) (k:WellAll P h f args) :
  ∃a g ns,f=[Value.ref a]/\args=[WData.list<|ns.map WData.int]/\h.get? a=some {cls:=.type "list",data:=.seq g.toArray}/\IntsAre g ns/\ns.length<=n:=by
 have e:WShape.hasAll [] args [.list .int]=true:=(pre_splitW i).1;have hc:l.pre.holds [] {args:=args}=true:=(pre_splitW i).2;obtain⟨d,r,rfl,h1,h2⟩:=hasAllW_cons e;obtain rfl:=hasAllW_nil h2;obtain⟨v,rfl,j⟩:=hasW_list h1;obtain⟨ns,rfl⟩:=items_int j;have p:ns.length<=n:=by
  unfold OpenLaw.pre at hc;have c:(WTm.not<|.lt (.lit<|.int (n:Int))<|.len<|.arg 0).holds [] {args:=[.list<|ns.map .int]}=true:=by have c:=(holds_andW hc).1;rw[hn]at c;exact c
  have b:=condW_of c<|w_not<|w_lt w_lit<|w_len_list<|w_arg rfl;rw[B_]at b;refine Nat.le_of_not_lt λq=>?_;have o:(n:Int)<((ns.length:Nat):Int):=by omega
  first
   | (rw[aP o]at b;exact absurd b<|by decide)
   | (simp at b;omega)
 cases k with
 |cons t u=>
  cases u;cases t with
  |list m s=>exact⟨_,_,ns,rfl,rfl,m,Jm ns _ s,p⟩
def Ui(l:OpenLaw)(args:oA WData):l.row.toRowW.claim.post args (.bool true) args=true :=
 postW_of (r:=l.row.toRowW) (X:=(true==true))
  (show WShape.has [] (.bool true) .bool=true by first|rfl|decide|simp[WShape.has,WShape.arms,WShape.armsAll])
  (show(WTm.eq .res<|.lit<|.bool true).value [] {args:=args,res:=some<|.bool true,after:=args}=some (.bool<|true==true) from w_eq_bool (w_res rfl) w_lit) rfl
def attach_call{l:OpenLaw}{n:Nat}{q:lO}{x:oA Str}{v:(Str->oB lJ)->lS->Prop}{y:lP->lS->Prop}{d:DefRec}
  (hn:l.most=some n) (F:d.params.defaults=[])
  (call:∀(w:lP) (s₀ b:lK) (mg p:Str->oB lJ) (g:lM) (o:lT) (k i m:lJ) (a:lM) (e:oA lJ) (ns:oA Int),
   Ground q x [] v w s₀ mg p b.heap->y w b.heap ->
   b.heap.get? g=some o->o.data=.func (docDef d.name d.params d.body d.scope k i m)->b.heap.CodeRec i d.name->mg d.name=some (.ref g) ->
   b.heap.get? a=some {cls:=.type "list",data:=.seq e.toArray}->IntsAre e ns->ns.length<=n->b.gens=#[] ->
   codeAny (model l.prog w) callerA (.call (.ref g) ⟨[.ref a],[]⟩) (λr j=>r=.ok (.ret<|.bool true)/\OldK b.heap j.heap/\j.os=b.os/\AllBare j.gens) b) :
  WalkO q x v y l.row.toRowW d [] (λf e=>PySem.call f e):=by
 intro w s₀ b mg p G Y g o k i m L kV I E D z s J u P as C t N A M;obtain rfl:L=.none:=Dflts.none z F;obtain rfl:kV=.none:=Dflts.noKw z;obtain⟨a,e,ns,rfl,rfl,h,c,B⟩:=Uh hn C A;refine enter_call<|lD (call w s₀ b mg p g o k i m a e ns G Y I (fd_plain E) D s h c B J) λr j hq=>?_;obtain⟨rfl,h2,H,O⟩:=hq;exact⟨.inl ⟨.bool true,.bool true,[],rfl,λ_=>rfl,.bool true,Ui l _,λ_=>⟨List.Pairwise.nil,λ_ hm=>(nomatch hm)⟩⟩,h2,H,O⟩
end Att
namespace L2
open PySem PySem.Spec PyProof.Rows
theorem Lv:∀{a:oA lJ} {ns:oA Int},IntsAre a ns->Vals (ns.map V.int) a
 |_,_,.nil=>.nil
 |_,_,.cons n t h=>.cons ⟨t,rfl⟩<|Lv h
def Only(H:Hp):Prop:=∀b,H b=none\/∃o a,H b=some (.frz o<|.lst a)
def Xa{P:lO}{w:lP}{K:lN}{mg C:Str->oB lJ}{CX:CXT}{k:Nat}{B a:lM}{L:lV}{x:Str}{sp:Sp}{c:lK}{i:oA lJ}{ns:oA Int}
  (M:K.In c.heap) (T:c.heap.Ns mainGlobals mg) (hb:c.heap.Ns builtinsNs C) (D:∀x:Str,x ≠ "__name__" -> C x=bootBuiltins x) (I:c.heap.NoLimit) (hg:c.gens=#[])
  (ha:c.heap.get? a=some {cls:=.type "list",data:=.seq i.toArray}) (hi:IntsAre i ns) (S:ns.length<=sizeLine) (hr:Room k callerA) (F:∀g:lS,K.In g->g.Ns mainGlobals mg->FnOk P w K mg g CX k B L [x] sp) (qo:∀(s:lK) (u:lJ),BindsTo s L ⟨[u],[]⟩ [(x,u)]) (Y:∀H:Hp,Only H->Ei K H a (ns.map V.int)->sp [.ref a] H (λv _=>v=.bl true) λ_ _ _=>False) (G:∀H e f,CX [] H c (λ_ _ _=>False) e f->False) :
  codeAny (model P w) callerA (.call (.ref B) ⟨[.ref a],[]⟩) (λr f=>r=.ok (.ret<|.bool true)/\OldK c.heap f.heap/\f.os=c.os/\AllBare f.gens) c:=by
 have J:=Lv hi;have zj:=hi.length;have Q:∀H:Hp,Only H->Ei K H a (ns.map V.int)->HOk P w H c.heap->(∀b,H b≠none->b=a)->(H a≠none->K.lookup a=none) ->
   codeAny (model P w) callerA (.call (.ref B) ⟨[.ref a],[]⟩) (λr f=>r=.ok (.ret<|.bool true)/\OldK c.heap f.heap/\f.os=c.os/\AllBare f.gens) c:=by
  intro H N Z j W hK;have U:∀{b:lM} {o:lT},c.heap.get? b=some o->H b=none->(Mk c.heap H).get? b=some o:=λe n=>V8 e n;have ur:∀{b:lM} {o:lT} {es:oC DictEntry} {ep:Nat},c.heap.get? b=some o->o.data=.dict es ep->H b=none:=λ{b o es ep} e d=>by
   cases q:H b with
   |none=>rfl
   |some u=>have E:b=a:=W b (by rw[q];simp);subst E;rw[ha]at e;cases e;have d':Data.seq i.toArray _=Data.dict es ep:=d;cases d'
  have A:∀{b:lM} {m:Str->oB lJ},c.heap.Ns b m->(Mk c.heap H).Ns b m:=λ{b m} ⟨o,es,ep,e,d,r⟩=>⟨o,es,ep,U e<|ur e d,d,r⟩;have y:K.In (Mk c.heap H):=λb o e=>U (M b o e) (by
   cases q:H b with
   |none=>rfl
   |some u=>
    have E:b=a:=W b (by rw[q];simp);subst E;rw[hK<|by rw[q];simp]at e;cases e)
  have hM:Mod K mg (Mk c.heap H):=⟨y,A T,⟨C,A hb,D⟩,by obtain⟨mc,h1,h2⟩:=I;exact⟨mc,A h1,h2⟩⟩;have e0:Env0 P w K mg (Mk c.heap H) callerA [] c H:=⟨rfl,hM,λb o e=>BU e,gG<|Tx _ _,trivial,λb hb=>absurd (show b∈([]:oA lM) from hb)<|by simp,j,.of_eq hg⟩;refine lD ((F _ y<|A T).run callerA [] c H ⟨[.ref a],[]⟩ [.ref a] [.ref a] _ _ hr e0 (qo c<|.ref a) (.cons rfl .nil)<|Y H N Z) λr f h=>?_;cases r with
  |error e=>exact(G H e f h).elim
  |ok fl=>
   cases fl with
   |next=>exact False.elim h
   |brk=>exact False.elim h
   |cont=>exact False.elim h
   |ret u=>
    obtain⟨v,H',os,p,R,l,r',q⟩:=h;have q':v=.bl true:=q;subst q';obtain rfl:u=Value.bool true:=r';refine⟨rfl,OldK.of_keep λb o e=>?_,os,p⟩;cases q:H b with
    |none=>exact R.keep b o e q (by intro z;exact absurd (show b∈([]:oA lM) from z)<|by simp) (by simp)
    |some u=>rcases N b with z|⟨ob,xs,z⟩;rw[q]at z;cases z;have X:=R.frzs b ob _ z;obtain⟨O,_⟩:=j b _ z;obtain⟨e2,_⟩:=l b _ X;rw[e]at O;cases O;exact e2
 cases hk:K.lookup a with
 |some o=>have e:=M a o hk;rw[ha]at e;cases e;refine Q (λ_=>none) (λ_=>.inl rfl) (.inr ⟨_,i.toArray,_,hk,rfl,rfl,rfl,by rw[X_,zj];exact S,by simpa using J⟩) (λb u z=>by have t:(none:oB HO)=some u:=z;cases t) (λb z=>absurd rfl z) λz=>absurd rfl z
 |none=>refine Q (λb=>if b=a then some (.frz {cls:=.type "list",data:=.seq i.toArray}<|.lst<|ns.map V.int) else none) (λb=>?_) (.inl<|.inr ⟨{cls:=.type "list",data:=.seq i.toArray},P_ rfl⟩) (λb u z=>?_) (λb z=>?_) λ_=>hk;by_cases hb:b=a;exact .inr ⟨_,_,P_ hb⟩;exact .inl<|H_ hb;by_cases hb:b=a;have t:=(P_ hb).symm.trans z;cases t;subst hb;exact⟨ha,by rw[B_];exact S,i,_,J,ha⟩;have t:=(H_ hb).symm.trans z;cases t;by_cases hb:b=a;exact hb;exact absurd (H_ hb) z
def walk_of{l:PySem.W.OpenLaw}{n k:Nat}{q:lO}{Q:oA Str}{M:(Str->oB lJ)->lS->Prop}{E:lP->lS->Prop}{d:DefRec}{K:Params->lN}{CX:lP->CXT}{sp:lP->Sp}{x:Str}
  (hn:l.most=some n) (I:n<=sizeLine) (N:d.params.defaults=[]) (U:Room k callerA) (R:∀(w:lP) (h:lS),E w h->(K w.params).In h) (F:∀(w:lP) (mg:Str->oB lJ) (p:lM) (h:lS),(K w.params).In h->h.Ns mainGlobals mg->mg d.name=some (.ref p) ->
   ∃r:lV,(∀(s:lK) (u:lJ),BindsTo s r ⟨[u],[]⟩ [(x,u)]) /\
    ∀c:lS,(K w.params).In c->c.Ns mainGlobals mg->FnOk l.prog w (K w.params) mg c (CX w) k p r [x] (sp w)) (J:∀(w:lP) (H:Hp) (a:lM) (ns:oA Int),ns.length<=n->Only H->Ei (K w.params) H a (ns.map V.int)->sp w [.ref a] H (λv _=>v=.bl true) λ_ _ _=>False)
  (z:∀(w:lP) (H:Hp) (s:lK) (e:lJ) (y:lK),CX w [] H s (λ_ _ _=>False) e y->False) :
  PySem.W.WalkO q Q M E l.row.toRowW d [] (λf B=>PySem.call f B):=by
 refine Att.attach_call hn N λw C m mg mb p o X cd Z a B ns G Y ho hd fj t j i A O=>?_;have D:=R w _ Y;obtain⟨r,hb,P⟩:=F w mg p _ D G.T.g t;exact Xa D G.T.g G.T.b G.T.builtins G.T.nolimit O j i (I_ A I) U P hb (λH S L=>J w H a ns A S L) λH e y=>z w H m e y
def Ax(s:lU):Arguments:=match s with
 |.FunctionDef _ a _ _ _ _ _ _ _ _=>a
 |_=>{posonlyargs:=[],args:=[],vararg:=none,kwonlyargs:=[],kw_defaults:=[],kwarg:=none,defaults:=[]}
def Au(s:lU):oA lU:=match s with
 |.FunctionDef _ _ b _ _ _ _ _ _ _=>b
 |_=>[]
def Ad(s:lU):lX:=match s with
 |.FunctionDef _ _ _ _ _ _ sc _ _ _=>sc
 |_=>{kind:=.function,names:=[],isGenerator:=false,isCoroutine:=false}
abbrev Dz:CXT:=λ_ _ _ _ _ _=>False
abbrev E0:XK:=λ_ _ _=>False
def Xb{X:Cx}:Passes Dz X E0:=λ_ _ _ _ _ _ _ h=>h.elim
structure Fun(K:lN)(x qual:Str)(st:lU)(f:lM)(fd:lV):Prop where
 ex:∃(oc:lJ) (od:oB lM) (kV c7 pm:lJ) (an:oB lM) (ap ct:lJ) (ig:oC<|oB lJ),
  fd=PySem.W.fnOf x qual (Ax st) (Au st) (Ad st) .none kV c7 pm an ap ct/\K.lookup f=some ⟨oc,od,.func fd,ig⟩/\PySem.W.codeIn K ap qual=true
 kp:PySem.W.keepIn K (.ref f)=true
section
variable {P:lO}{w:lP}{K:lN}{mg:Str->oB lJ}{base:lS}{X:Cx}
def Fun.ok{x a:Str}{st:lU}{f:lM}{d:lV}{N ps:oA Str}{k:Nat}{sp:Sp}(F:Fun K x a st f d)(S:FnScope N ps<|Ad st)(len:∀b H Q E,sp b H Q E->b.length=ps.length)
  (l:∀(c:lJ) (A:lR) (outer:oA Env) (s:lK) (H:Hp) (b:oA V) (Q:VK) (E:XK),Room k (A.deeper<|envOfC a (Ad st) s.heap.objs.size f c)->sp b H Q E ->
   ∃t,PSs (Fv Dz P w K mg base N a (Ad st) f c A outer s H E).nox (Au st) t/\t {nx:=λ_ e=>Q .non e,rt:=Q} (start N b) H):FnOk P w K mg base Dz (k+1) f d ps sp:=by
 obtain⟨r,p,kV,o,n,u,c,v,y,rfl,j,i⟩:=F.ex;refine R4 j i S len λA outer s H b Q E m g=>?_;obtain⟨t,h,q⟩:=l c A outer s H b Q E m g;exact⟨t,h.nox,q⟩
def Fun.binds{x a:Str}{st:lU}{f:lM}{i:lV}{ps:oA Str}(F:Fun K x a st f i)
  (h:∀(kV d b:lJ) (c:oB lM) (g ct:lJ) (e:oA lJ),e.length=ps.length->bindArgs (PySem.W.fnOf x a (Ax st) (Au st) (Ad st) .none kV d b c g ct) ⟨e,[]⟩=pure (ps.zip e)):Binds K i ps []:=by
 obtain⟨k,j,kV,d,b,c,g,ct,m,rfl,n,l⟩:=F.ex;exact .all<|h kV d b c g ct
def A9{x a:Str}{st:lU}{f:lM}{i:lJ}{h d:oB lM}{j:oC<|oB lJ}{kV g e b ct:lJ}(l:K.lookup f=some ⟨i,h,.func<|PySem.W.fnOf x a (Ax st) (Au st) (Ad st) .none kV g e d b ct,j⟩)
  (c:PySem.W.codeIn K b a=true) (k:PySem.W.keepIn K (.ref f)=true):Fun K x a st f (PySem.W.fnOf x a (Ax st) (Au st) (Ad st) .none kV g e d b ct):=⟨⟨i,h,kV,g,e,d,b,ct,j,rfl,l,c⟩,k⟩
def B9{A:lR}{k:Nat}(a:Room k A):A.units+1<cLine:=fJ (kD (by decide:1<=64) _) a.units
def A8{n:Nat}(h:n<=1000):n<sizeLine:=fJ h<|by decide
def pv(i:Nat){x:Str}{a:Pos}(b:X.N[i]?=some x:=by rfl)(hv:Vis X.env.scope x:=by first|exact Or.inl rfl|exact Or.inr (Or.inl rfl)|exact Or.inr<|Or.inr rfl)(d:(x==("__debug__" : Str))=false:=by decide)
  (c:(x==("__classdict__" : Str))=false:=by decide):PE X (.Name x a) (ID i):=V9 b hv d c
def Uj:Fl X (.builtin "len") (λc H Q=>∃a b,c=[V.ref a]/\H a=some (.dK b)/\Q (.int b.length) H):=by intro j s f H c i Q I r h;obtain⟨a,b,rfl,ha,q⟩:=h;obtain⟨u,rfl,e⟩:=Ew r;cases e;exact RD I (.inl ha) λt g d=>⟨.int b.length,H,d,⟨t,rfl⟩,q⟩
end
section
variable {κ:Type} [DecidableEq κ]
end
end L2
set_option maxHeartbeats 4000000
namespace L2
open PySem
def Ey(a:oA<|Str×lM):oA (Str×lY)->oA (Str×lM)->oA (Str×lM)
 |[],b=>b
 | (n,k)::r,b=>if k=NameKind.free then Ey a r ((n,(a.lookup n).getD 0)::b) else Ey a r b
def G6{a:lX}{env:Env}(h:∀x∈a.names,x.2=.free->∃c,env.cells.lookup x.1=some c) :
  closureFor a env=pure (Ey env.cells a.names []):=by
 have f:∀(names:oA<|Str×lY) (acc:oA<|Str×lM),(∀x∈names,x.2=.free->∃c,env.cells.lookup x.1=some c) ->
   (do
     let mut g:=acc
     for (b,d) in names do
      if d==.free then g:=(b,<- cellOf env b)::g
     return g:Sem<|oA<|Str×lM)=pure (Ey env.cells names acc):=by
  intro names
  induction names with
  |nil=>intro acc _;rfl
  |cons x r i=>
   intro acc h;obtain⟨n,k⟩:=x;have j:∀y∈r,y.2=.free->∃c,env.cells.lookup y.1=some c:=λy hy=>h y<|aE _ hy;by_cases hk:k=.free;subst hk;obtain⟨c,hc⟩:=h (n,.free) aR rfl;have e:cellOf env n=pure c:=by unfold cellOf;rw[hc]
   have q:=i ((n,c)::acc) j;simp only[List.forIn_cons,beq_self_eq_true,if_true,e];unfold Ey;rw[P_ rfl,hc];exact q;have hb:(k==NameKind.free)=false:=by simpa using hk
   have q:=i acc j;simp only[List.forIn_cons,hb,Bool.false_eq_true,if_false];unfold Ey;rw[H_ hk];exact q
 exact f a.names [] h
theorem Hq{a:oA<|Str×lM}:∀{names:oA<|Str×lY} {acc:oA<|Str×lM},
  (∀x∈names,x.2=.free->∃c,a.lookup x.1=some c)->(∀x c,acc.lookup x=some c->a.lookup x=some c) ->
  ∀x c,(Ey a names acc).lookup x=some c->a.lookup x=some c
 |[],_,_,h,x,c,e=>h x c e
 | (n,k)::r,acc,f,h,x,c,e=>by
  unfold Ey at e;have g:∀y∈r,y.2=.free->∃c,a.lookup y.1=some c:=λy hy=>f y<|aE _ hy;by_cases hk:k=.free
  ·rw[P_ hk]at e;refine Hq g (λy d q=>?_) x c e;obtain⟨j,b⟩:=f (n,k) aR hk;have b:a.lookup n=some j:=b;rw[dB]at q;cases hy:y==n with
   |true=>
    rw[hy,b]at q;have i:y=n:=by simpa using hy
    rw[i,b];exact q
   |false=>rw[hy]at q;exact h y d q
  rw[H_ hk]at e;exact Hq g h x c e
theorem Hd{a:oA<|Str×lM}{x:Str}:∀{names:oA<|Str×lY} {acc:oA<|Str×lM},
  (∃c,acc.lookup x=some c)->∃c,(Ey a names acc).lookup x=some c
 |[],_,h=>h
 | (n,k)::r,acc,⟨c,h⟩=>by
  unfold Ey;split
  ·refine Hd ?_;rw[dB];cases x==n with
   |true=>exact⟨_,rfl⟩
   |false=>exact⟨c,h⟩
  exact Hd ⟨c,h⟩
theorem Hr{a:oA<|Str×lM}{x:Str}:∀{names:oA<|Str×lY} {acc:oA<|Str×lM},
  (x,NameKind.free)∈names->∃c,(Ey a names acc).lookup x=some c
 | (n,k)::r,acc,h=>by unfold Ey;rcases aK.mp h with e|e;cases e;rw[P_ rfl];refine Hd ?_;rw[dB,jL];exact⟨_,rfl⟩;split;exact Hr e;exact Hr e
end L2
namespace PySem
open Sem (wp)
section
variable {prog:lO}{w:lP}{A:lR}{E:lJ->lK->Prop}{R:lZ->lK->Prop}{s:lK}
def Oe{B y iter:lQ}{C:oA lQ}{f:lX}{t:Pos}{z acc:lJ}{env:Env}(I:Nat->lK->Prop) (F:∀n s,I n s->yL prog w A (pyNext z) (λr b=>match r with
   |none=>R (.ok .next) b
   |some v=>yL prog w A (letOwnedTupleGo y z v) (λ_ a=>yL prog w A (assign y env v) (λ_ l=>
     yL prog w A (forIn C true λc r=>if r=true then do let ok <- isTrue c env (eval c env);pure (ForInStep.yield ok) else pure<|ForInStep.yield r) (λok d=>
      if ok=true then yL prog w A (eval B env) (λx k=>
       yL prog w A (call (.builtin "list.append") [acc,x]) (λ_ j=>∃m,m<n/\I m j) (λ_ _=>False) k) (λ_ _=>False) d
      else ∃m,m<n/\I m d) (λ_ _=>False) l) (λ_ _=>False) a) (λ_ _=>False) b) (λ_ _=>False) s)
  (n:Nat) (h:I n s) :
  codeAny (model prog w) A (.compLoop (.ListComp B [⟨y,iter,C,0⟩] f t) 0 z acc env) R s:=by
 refine codeAny_loop rfl I (λn s D=>?_) n h;show wpAny _ A ((compTurn (.ListComp B [⟨y,iter,C,0⟩] f t) 0 z acc env).onRaise λx=>do noteFrame x env;theTreesLotGoes x) _ _ s;refine wpAny_noted ?_;rw[compTurn_list];refine A_<|fU<|A_<|bU (F n s D) (λr b i=>?_) λ_ _ e=>e.elim;cases r with
 |none=>exact C_ i
 |some v=>
  refine A_<|bU i (λ_ a o=>?_) λ_ _ e=>e.elim;refine A_<|bU o (λ_ l q=>A_<|bU q (λok d g=>?_) λ_ _ e=>e.elim) λ_ _ e=>e.elim;cases ok with
  |false=>exact C_ ⟨rfl,g⟩
  |true=>exact A_<|A_<|bU g (λx k u=>A_<|bU u (λ_ j p=>C_<|C_ ⟨rfl,p⟩) λ_ _ e=>e.elim) λ_ _ e=>e.elim
end
end PySem
namespace L2
open PySem PySem.Spec PyProof.Rows
def Of(mp:oA<|oB Nat)(a:St):St:=mp.map λo=>match o with|some i=>(a[i]?).join|none=>none
def DA(pn:oA<|Str×lY)(x:Str):Bool:=decide (pn.lookup x=some .cell)||decide (pn.lookup x=some .free)
def Og{pn:oA<|Str×lY}{x:Str}(h:DA pn x=true):pn.lookup x=some .cell\/pn.lookup x=some .free:=by unfold DA at h;rcases(gM _ _).mp h with h|h;exact .inl<|aC h;exact .inr<|aC h
theorem Mv{env:Env}:∀{names:oA<|Str×lY} {x:Str},names.lookup x=some .free ->
  (names.map λ(n,k)=>if(k==NameKind.free&&env.scope.kind==.function&&env.kindOf n==some .cell) then(n,NameKind.cell) else(n,k)).lookup x=some .cell \/
  (names.map λ(n,k)=>if(k==NameKind.free&&env.scope.kind==.function&&env.kindOf n==some .cell) then(n,NameKind.cell) else(n,k)).lookup x=some .free
 |[],_,h=>by simp at h
 | (n,k)::r,x,h=>by
  have a:=@Mv env r x;rw[a_];cases hx:x==n with
  |true=>simp only[List.lookup_cons,hx]at h;cases h;by_cases hc:(NameKind.free==NameKind.free&&env.scope.kind==.function&&env.kindOf n==some .cell)=true;refine .inl ?_;simp only[hc,if_true,List.lookup_cons,hx];refine .inr ?_;simp only[if_neg hc,List.lookup_cons,hx]
  |false=>simp only[List.lookup_cons,hx]at h;by_cases hc:(k==NameKind.free&&env.scope.kind==.function&&env.kindOf n==some .cell)=true;simp only[hc,if_true,List.lookup_cons,hx];exact a h;simp only[if_neg hc,List.lookup_cons,hx];exact a h
end L2
namespace PySem
open Sem (wp)
section
variable {prog:lO}{w:lP}{A:lR}{E:lJ->lK->Prop}{R:lZ->lK->Prop}{s:lK}{I:lM}{fp wr:oA lM}{G:oC GenState->oC GenState->Prop}{n:Nat}{P:Nat->lJ->Prop}{St:Nat->lK->Prop}
def Mw:typeLookup (.type "list_reverseiterator") "__len__" = pure none:=by rw[eZ,dF];kernel_rfl
def Oh:typeLookup (.type "list_reverseiterator") "__length_hint__" = pure (some<|.builtin "list_reverseiterator.__length_hint__"):=by rw[eZ,dF];kernel_rfl
set_option maxRecDepth 100000 in
def Ld(W:WalksS prog w A.in1 I fp wr G n P St)(k:∀i s,St i s->s.TypeIs (.ref I) "list_reverseiterator") (S:lM) (res:lJ) (g:St 0 s) (m:S∉fp) (u:I∈fp)
  {c:Nat} (t:s.heap.get? S=some {cls:=.type "list",dict:=none,data:=.seq #[] c,slots:=#[]})
  (q:∀a j d,Moved (S::wr) G s a->a.heap.get? S=some {cls:=.type "list",dict:=none,data:=.seq j d,slots:=#[]}->ItemsOf P j n->R (.ok<|.ret res) a) (hn:n<=sizeLine:=by size_fits) :
  yL prog w A.in1 (Builtin.List.listExtendWith (.ref S) (.ref I) res)
   (λp a=>match p with|.done f=>R (.ok f) a|.again d=>d.quiet=true/\codeAny (model prog w) A d R a) (λe a=>R (.error e) a) s:=by
 have l:S≠I:=λe=>m<|e ▸ u;have h1:Builtin.List.listSameRef (.ref S) (.ref I)=false:=by simp[Builtin.List.listSameRef,l]
 unfold Builtin.List.listExtendWith;refine A_<|iQ (k 0 _ g) ?_;rw[H_<|by rw[h1];decide];refine A_<|W.self 0 _ _ _ g ?_;refine A_<|bM ?_;unfold Builtin.List.listLengthHint;refine A_<|eY (k 0 _ g) Mw ?_;show wpAny _ A.in1 (specialOf (Value.ref I) (Str.ofString "__length_hint__")>>=_) _ _ _;refine A_<|eY (k 0 _ g) Oh ?_;generalize h:("list_reverseiterator.__length_hint__" : String)=id0
 wp_delta
 rw[show splitId id0=some ("list_reverseiterator","__length_hint__") from by subst h;decide +kernel];subst h;refine A_ (eG (b:=true) (k 0 _ g) (by rw[iU];kernel_rfl) ?_);refine C_ ?_;rw[H_<|by decide];exact C_ ⟨fV F.plain_extend_loop _,codeAny_extend_loopS W hn _ m _ n 0 _ _ _ rfl (bH _) g t (ItemsOf.nil P) λa j d hm r o=>q a j d hm r o⟩
set_option maxRecDepth 100000 in
def Ip(W:WalksS prog w A.in1 I fp wr G n P St)(r:∀i s,St i s->s.TypeIs (.ref I) "list_reverseiterator") (S:lM) (v:St 0 s) (k:S∉fp) (x:I∈fp)
  (j:s.heap.get? S=some {cls:=.type "list",data:=.seq #[]})
  (q:∀a g d,Moved (S::wr) G s a->a.heap.get? S=some {cls:=.type "list",dict:=none,data:=.seq g d,slots:=#[]}->ItemsOf P g n->R (.ok<|.ret .none) a) (hn:n<=sizeLine:=by size_fits) :
  yL prog w A.in1 (Builtin.«list.__init__» ⟨[.ref S,.ref I],[]⟩)
   (λp a=>match p with|.done f=>R (.ok f) a|.again d=>d.quiet=true/\codeAny (model prog w) A d R a) (λe a=>R (.error e) a) s:=by
 show wpAny _ A.in1 (do let t <- Builtin.List.listItems (.ref S);Builtin.List.listUpdate (.ref S) λ_=>#[];letGo t.toList.reverse;Builtin.List.listExtendWith (.ref S) (.ref I) .none) _ _ s;refine A_ ?_;unfold Builtin.List.listItems;refine A_<|gA j rfl<|C_ ?_;show wpAny _ A.in1 (updateSeq S (λ_=>#[])>>=λ_=>letGo (#[]:oC lJ).toList.reverse>>=λ_=>Builtin.List.listExtendWith (.ref S) (.ref I) .none) _ _ s;refine A_<|fO j rfl ?_;have c:=Y_ (Obj.mapSeq λ_=>(#[]:oC lJ)) j rfl;have l:∀b o,b≠S->s.heap.get? b=some o->(s.heap.update S<|Obj.mapSeq λ_=>(#[]:oC lJ)).get? b=some o :=
  λb o hb e=>(aD _ _<|bW hb).trans e
 refine A_<|iN ?_;refine Ld (hn:=hn) W r S .none (W.frame 0 s _ s.toks v (F_ _) λb hb o e=>l b o (λh=>k<|h ▸ hb) e) k x c λa g d hm u m=>?_;exact q a g d (Moved.trans W.gtrans ((Moved.refl W.grefl).then_heap (F_ _) λb o hb e=>l b o (λh=>hb<|h ▸ aR) e) hm) u m
def Iq{Q:lJ->lK->Prop}(W:WalksS prog w A.in1.in1 I fp wr G n P St)(p:∀i s,St i s->s.TypeIs (.ref I) "list_reverseiterator") (r:St 0 s) (j:∀b∈fp,b<s.heap.objs.size) (t:I∈fp)
  (u:∀f g h,Moved (s.heap.objs.size::wr) G {s with heap:=s.heap.push {cls:=.type "list",data:=.seq #[]}} f ->
   f.heap.get? s.heap.objs.size=some {cls:=.type "list",dict:=none,data:=.seq g h,slots:=#[]}->ItemsOf P g n->Q (.ref s.heap.objs.size) f) (hn:n<=sizeLine:=by size_fits) :
  yL prog w A (call (.type "list") [.ref I]) Q E s:=by
 have m:s.heap.objs.size∉fp:=λhm=>cP _<|j _ hm;refine callType_codes (Q₁:=λd a=>d=.ref s.heap.objs.size/\a={s with heap:=s.heap.push {cls:=.type "list",data:=.seq #[]}}) F.called_list (F.typeCall_list_1 _) F.entry_list_init
  (code_list_new _ ⟨rfl,rfl⟩) λd a c=>?_
 obtain⟨rfl,rfl⟩:=c;have k:(s.heap.push {cls:=.type "list",data:=.seq #[]}).get? s.heap.objs.size=some {cls:=.type "list",data:=.seq #[]}:=O_ _ rfl;refine⟨⟨_,k,rfl⟩,F.args_list_init_2 _ _,Ip (hn:=hn) W p _ (W.frame 0 s _ s.toks r (F_ _) λb _ o e=>DD _ e) m t k λf g h hm q l=>?_⟩;exact⟨rfl,u f g h hm q l⟩
end
end PySem
namespace L2
open PySem PySem.Spec PyProof.Rows
def PIfs(X:Cx)(d:oA lQ)(t:TT):Prop :=
 ∀(b:oA<|lM×lT) (s:lK) (a:St) (H:Hp) (Q:Bool->Hp->Prop),Inv X b a H s->t a H Q ->
  yL X.prog X.w X.A (forIn d true λc r=>if r=true then do let ok <- isTrue c X.env (eval c X.env);pure (ForInStep.yield ok) else pure<|ForInStep.yield r) (TP X b a Q) X.xe s
def Qab:TT:=λ_ H Q=>Q true H
def Xc{X:Cx}:PIfs X [] Qab:=λ_ _ _ H _ I h=>wpAny_tests_nil ⟨H,I,h⟩
def Xd{X:Cx}{c:lQ}{t:TT}(h:PT X c t):PIfs X [c] t:=λd s b H Q I a=>wpAny_tests_one<|h d s b H Q I a
def Xe(p:lM)(J:It)(g:TG)(tst:TT)(te:TE)(Q:Hp->Prop)(f:St)(H:Hp):Prop :=
 ∃W:Nat->Nat->oA V->St->Hp->Prop,(∃m,W 0 m [] f H)/\∀i m a e d,W i m a e d ->
  (J.stop i d/\Q d)\/(J.go i d/\∃N:oA V->St->Hp->Prop,(∀a f H,N a f H->∃l,l<m/\W (i+1) l a f H)/\∀x k,J.yld i d x k->g x e k λc o=>tst c o λb n=>
   if b=true then te c n λv j=>∃h,j p=some (.lst h)/\h.length<sizeLine/\N (h++[v]) c (upd j p<|.lst<|h++[v])
   else N a c n)
def Xf(mp:oA<|oB Nat)(c:TI)(g:TG)(tst:TT)(te:TE):TE:=λa H Q=>c a H λJ b=>∀p,b p=none ->
 Xe p J g tst te (λd=>Q (.ref p) d) (Of mp a) (upd b p<|.lst [])
section
variable {X:Cx}{N':oA Str}{mp:oA<|oB Nat}{d6 tg iter:lQ}{dc:oA lQ}{scope:lX}{pos:Pos}{wi:TI}{g:TG}{tst:TT}{te:TE}{K:lN}{a p:lM}{xs:oA V}{Q:Hp->Prop}{σ:St}{H:Hp}
def Inv.letgo{d:oA<|lM×lT}{σ:St}{H:Hp}{s:lK}{C:lM}{h':lS}(I:Inv X d σ H s)(hn:H C=none)(h1:X.s₀.heap.objs.size<=C)(i:C≠X.env.locals)(h2:∀x c,X.env.cells.lookup x=some c->c≠C)
  (f:∀q∈X.pn++d,q.1≠C) (h:Heap.SameBut C s.heap h'):Inv X d σ H {s with heap:=h'} :=
 I.turned (t':=s.toks) (λb o hb e=>(h.2 b hb).trans e) hn i (.inr h1) h2 f
def R9{J:It}(n:Nat)(f:Nat->oA V->St->Hp->Prop)(h0:f 0 [] σ H)
  (l:∀i c σ H,i<n->f i c σ H->J.go i H) (u:∀c σ H,f n c σ H->J.stop n H/\Q H)
  (t:∀i x c σ H j,i<n->f i c σ H->J.yld i H x j->g x σ j λd s=>tst d s λb r=>
   if b=true then te d r λv o=>∃h,o p=some (.lst h)/\h.length<sizeLine/\f (i+1) (h++[v]) d (upd o p<|.lst<|h++[v]) else f (i+1) c d r) :
  Xe p J g tst te Q σ H:=by
 refine⟨λi m c σ H=>m=n-i/\i<=n/\f i c σ H,⟨n,by simp,bH _,h0⟩,?_⟩;rintro i m c σ H ⟨rfl,hi,pv⟩;by_cases k:i<n;exact .inr ⟨l i c σ H k pv,f<|i+1,λc σ H q=>⟨n-(i+1),by omega,rfl,k,q⟩,λx j y=>t i x c σ H j k pv y⟩;have e:i=n:=by omega
 subst e;exact .inl<|u c σ H pv
def Qac:V->oB Int->oB Int->Hp->VK->Prop:=λx lo hi H Q=>∃z,x=.str z/\z.length<=sizeLine/\Q (.str<|Txt.slice z lo hi) H
def JV:RA X Qac:=by
 intro o s σ H x v y w lo hi A Q I n b r e h;obtain⟨z,rfl,hz,q⟩:=h;obtain⟨t,rfl⟩:=n;refine⟨"str",_,F.slot_str_getitem.lookup,typeIs_str _ _ _,?_⟩;have c:∀f k,EP X o σ Q (.str (Txt.slice z lo hi) f) {s with toks:=k}:=λf k=>⟨.str _,H,I.tok _,⟨_,rfl⟩,q⟩;cases r with
 |none=>
  cases e with
  |none=>exact gB (l:=none) (u:=none) (st:=none) b rfl (jZ ⟨I_ (lE z _ _) hz,c⟩)
  |int j d=>exact gB (l:=none) (u:=some (j,d)) (st:=none) b rfl (jZ ⟨I_ (lE z _ _) hz,c⟩)
 |int i m=>
  cases e with
  |none=>exact gB (l:=some (i,m)) (u:=none) (st:=none) b rfl (jZ ⟨I_ (lE z _ _) hz,c⟩)
  |int j d=>exact gB (l:=some (i,m)) (u:=some (j,d)) (st:=none) b rfl<|jZ ⟨I_ (lE z _ _) hz,c⟩
def Xg(hc:X.calm=true):Fl X (.builtin "all") (λxs H Q=>∃(p:lM) (c:oA Bool),xs=[.ref p]/\Ei X.K H p (c.map V.bl)/\Q (.bl<|c.all id) H):=by
 intro G s σ H xs E Q I r h;obtain⟨p,c,rfl,hq,q⟩:=h;obtain⟨u,rfl,w⟩:=Ew r;cases w;obtain⟨j,n,m,hz⟩:=I.list hq;have f:=n.length;rw[B_]at f;refine call_all_walk<|iW m.isList ?_;have z:p≠s.heap.objs.size:=aM (by obtain⟨_,C,_⟩:=m.isList;exact Q_ C);refine⟨s.heap.objs.size,_,_,_,_,_,λi=>c.getD i true,rfl,Walks.list (show X.A.in1.handled=none from I.ok.hd hc) s.heap.objs.size p z j.toArray,?_,?_,λJ F k=>?_⟩;exact⟨⟨_,O_ _ rfl,rfl,rfl⟩,m.isList.at λo e=>DD _ e⟩;intro i v D y E' t l;have hv:j[i]?=some v:=by simpa using t
 have hi:i<c.length:=by rw[f];exact(D_.mp hv).1
 obtain⟨u,hu,B⟩:=n.get (i:=i) (x:=V.bl c[i]) (by simp[hi]);rw[hv]at hu;cases hu;cases (show v=Value.bool c[i] from B);refine dG ?_;have e:c.getD i true=c[i]:=by simp[hi]
 have d:y (c.getD i true) D:=l;rw[e]at d;exact d;have e:(List.range j.toArray.size).all (λi=>c.getD i true)=c.all id:=by rw[X_,<- f];rw[iB,bY,bY];constructor;intro a x hx;obtain⟨i,hi,rfl⟩:=List.mem_iff_getElem.mp hx;have:=a i<|dW.mpr hi;simpa [hi] using this;intro a i hi;have hi:=dW.mp hi;have:=a c[i]<|gT hi;simpa [hi] using this
 rw[e];exact⟨.bl _,H,I.kept λb o e=>k b o (by
  intro hb;have:b=s.heap.objs.size:=by simpa using hb
  exact absurd (Q_ e)<|by rw[this];exact cP _)<|DD _ e,rfl,q⟩
def Qq{ys:oA Str}{b:oA lJ}(h:Vals (ys.map V.str) b):StrsAre b ys:=by
 induction ys generalizing b with
 |nil=>cases h;exact .nil
 |cons y ys c=>
  cases h with
  |cons r t=>obtain⟨d,rfl⟩:=r;exact .cons y d<|c t
def DB:GJ X "str.join" (λx xs H Q=>∃z p b,x=.str z/\xs=[.ref p]/\Ei X.K H p (b.map V.str)/\(b.map (·.length)).sum+b.length*z.length<=16777216/\Q (.str<|Txt.join z b) H):=by intro l s σ H x xs v j Q I c r h;obtain⟨z,p,b,rfl,rfl,hq,hz,q⟩:=h;obtain⟨t,rfl⟩:=c;obtain⟨u,rfl,f⟩:=Ew r;cases f;obtain⟨i,e,d,_⟩:=I.list hq;exact join_list d.isList (Qq<|by simpa using e) hz λm k=>⟨.str _,H,I.tok _,⟨_,rfl⟩,q⟩
def RI(K:lN)(te:TE):TE:=λσ H Q=>te σ H λx b=>∃a xs,x=.ref a/\Ei K b a xs/\∀l,b l=none->Q (.ref l) (upd b l<|.lst xs.reverse)
def DC{e:lQ}{te:TE}{p y pos B:Pos}(hc:X.calm=true)(W:Gl X "list") (hm:X.mg "list" = none) (S:Gl X "reversed") (M:X.mg "reversed" = none) (he:PE X e te) (F:starEach [.Call (.Name "reversed" y) [e] [] B] X.env=[(false,eval (.Call (.Name "reversed" y) [e] [] B) X.env)]:=by rfl) (E:starEach [e] X.env=[(false,eval e X.env)]:=by rfl) :
  PE X (.Call (.Name "list" p) [.Call (.Name "reversed" y) [e] [] B] [] pos) (RI X.K te):=by
 intro aa s σ H Q I h;refine bN<|Dr I W hm boot_list ?_;refine bJ ?_ F rfl;rw[F];refine bD ?_;refine bN<|Dr I S M boot_reversed ?_;refine bJ ?_ E rfl;rw[E];refine bD<|thn (he aa s σ H _ I h) λu c Y=>cL ?_;obtain⟨v,Z,C,r1,O⟩:=Y;obtain⟨a,xs,rfl,hq,q⟩:=O;cases r1;obtain⟨d,D,n,hz⟩:=C.list hq;have G:=D.length;refine call_reversed_list n.isList<|cL ?_;have J:a≠c.heap.objs.size:=aM (by obtain⟨_,x,_⟩:=n.isList;exact Q_ x);have r:(c.heap.push<|revObj a<|(d.toArray.size:Int)-1).IsList a d.toArray:=n.isList.at λo e=>DD _ e;refine Iq (s:={c with heap:=c.heap.push<|revObj a<|(d.toArray.size:Int)-1}) (Walks.listRev (show X.A.in1.in1.handled=none from I.ok.hd hc) c.heap.objs.size a J d.toArray).toS (λi s st=>st.2.1.typeIs) ?_ ?_ (by simp) (λs' f c' m R l=>?_) (by rw[X_,<- G];exact hz);refine⟨bH _,⟨_,O_ _ rfl,rfl,?_⟩,r⟩;simp[revObj];intro b hb;rw[cB];rcases aK.mp hb with rfl|hb;exact fE _;have:b=a:=by simpa using hb
 subst this;exact cY (by obtain⟨_,x,_⟩:=n.isList;exact Q_ x);have t:(c.heap.push<|revObj a<|(d.toArray.size:Int)-1).objs.size=c.heap.objs.size+1:=cB ..;obtain⟨h',g',d',t',T⟩:=s';have eg:g'=c.gens:=m.gens;have P:d'=c.drawn:=m.drawn;have L:T=c.os:=m.os;subst eg P L;have k:∀b o,c.heap.get? b=some o->h'.get? b=some o:=λb o e=>by
  have hb:=Q_ e;refine m.heap b o (λhm=>?_)<|DD _<|DD _ e;rcases aK.mp hm with z|z;have z:b=(c.heap.push<|revObj a<|(d.toArray.size:Int)-1).objs.size:=z;rw[z,t]at hb;exact absurd hb<|kL.mpr<|cF _;have z:b=c.heap.objs.size:=by simpa using z
  rw[z]at hb;exact absurd hb<|cP _
 have ea:f.toList=d.reverse:=by
  refine iX λj=>?_;have N:f.toList.length=d.length:=by have:=l.1;simp at this ⊢;omega
  by_cases hj:j<d.length;have h1:f[j]?=some (f[j]'(by have:=l.1;simp at this;omega)):=bQ _;have h2:=l.2 j _ h1;rw[List.getElem?_reverse hj];have U:d[d.length-1-j]?=some (f[j]'(by have:=l.1;simp at this;omega)):=by simpa using h2
  rw[U];simpa using h1;rw[fL<|by omega,fL<|by rw[gW];omega]
 refine⟨.ref (c.heap.push<|revObj a<|(d.toArray.size:Int)-1).objs.size,upd Z (c.heap.push<|revObj a<|(d.toArray.size:Int)-1).objs.size<|.lst xs.reverse,
  C.laid (h':=h') (t':=t') k (by omega) (show Bh X.prog X.w _ h' _ (.lst xs.reverse) from⟨by rw[gW];exact hz,f.toList,c',by rw[ea];exact D.reverse,by simpa using R⟩),rfl,q _<|C.hok.fresh<|by omega⟩
end
def seven{n:Nat}(h:n<=1000):n<=sizeLine:=eB<|A8 h
end L2
namespace PySem
open Sem (wp)
open AutoSeq1 (wpAny_loadPart')
set_option maxRecDepth 100000
section
variable {prog:lO}{w:lP}{A:lR}{E:lJ->lK->Prop}{s:lK}
def Fw{a t:lM}{i:Nat}{items}{x:lJ}{Q:lJ->lK->Prop}(d:s.heap.IsTupleIter a t i)
  (h:s.heap.IsTuple t items) (hx:items[i]?=some x)
  (j:∀e,e.IsTupleIter a t (i+1)->Heap.SameBut a s.heap e->Q x {s with heap:=e}) :
  yL prog w A (Builtin.SmallTypes.nextOf<|.ref a) Q E s:=by
 obtain⟨o,c,hc,b⟩:=id d;obtain⟨k,f,_,l,g⟩:=h;unfold Builtin.SmallTypes.nextOf;refine A_<|aV (name:=Str.ofString "__next__") d.typeIs F.slot_tuple_iterator_next
  (aW F.slot_tuple_iterator_next d.typeIs F.entry_tuple_iterator_next ?_<|F.args_tuple_iterator_next_1 _)
 show wpAny _ _ (field (.ref a) 0>>=_) _ _ s;refine A_<|aH c b (x:=.ref t) rfl ?_;show wpAny _ _ (if(Value.ref t==Value.none)=true then _ else _) _ _ s;rw[H_<|show ¬((Value.ref t==Value.none)=true) from U_];show wpAny _ _ (field (.ref a) 1>>=_) _ _ s;refine A_<|aH c b (x:=.int i 0) rfl ?_;show wpAny _ _ (seqItems? (.ref t)>>=_) _ _ s;refine A_<|gA f g ?_;simp only[Int.toNat_natCast,hx];refine A_ (bI c b (by simp)<|C_ ⟨x,rfl,C_<|j _ ?_<|bF ..⟩);exact⟨_,Y_ _ c<|cW<|aY b _,(iY ..).trans hc,by
  rw[aY b];simp[rawInt]⟩
def Gw{b t:lM}{i:Nat}{items}{Q:lJ->lK->Prop}(j:A.handled=none)
  (d:s.heap.IsTupleIter b t i) (n:s.heap.IsTuple t items) (hx:items[i]?=none)
  (k:∀f e,Heap.ExtBut b s.heap f->(∃o,f.get? e=some o/\o.cls=.type "StopIteration")->E (.ref e) {s with heap:=f}) :
  yL prog w A (Builtin.SmallTypes.nextOf<|.ref b) Q E s:=by
 obtain⟨o,c,hc,g⟩:=id d;obtain⟨p,h,_,q,l⟩:=n;unfold Builtin.SmallTypes.nextOf;refine A_<|aV (name:=Str.ofString "__next__") d.typeIs F.slot_tuple_iterator_next
  (aW F.slot_tuple_iterator_next d.typeIs F.entry_tuple_iterator_next ?_<|F.args_tuple_iterator_next_1 _)
 show wpAny _ _ (field (.ref b) 0>>=_) _ _ s;refine A_<|aH c g (x:=.ref t) rfl ?_;show wpAny _ _ (if(Value.ref t==Value.none)=true then _ else _) _ _ s;rw[H_<|show ¬((Value.ref t==Value.none)=true) from U_];show wpAny _ _ (field (.ref b) 1>>=_) _ _ s;refine A_<|aH c g (x:=.int i 0) rfl ?_;show wpAny _ _ (seqItems? (.ref t)>>=_) _ _ s;refine A_<|gA h l ?_;simp only[Int.toNat_natCast,hx];refine A_ (eC<|A_<|bI c g (by simp) ?_);show wpAny _ _ (newExc (.type "StopIteration") []>>=_) _ _ _;refine A_ ?_;simp only[newExc,newTuple];refine A_ (aJ ?_<|by size_fits);refine A_ (m:=firstArgMember _ _) (eF (a:=Value.none) (by first|rfl|(simp only[firstArgMember];rfl)) ?_);refine aJ ?_ (by size_fits);simp only[raiseNew];refine A_<|gZ ?_
 first|rw[show A.in1.handled=none from j]|rw[j]
 refine A_<|C_<|jU ?_;exact k _ _ (((bF ..).extBut.push _).push _) ⟨_,O_ _ rfl,rfl⟩
def Fx{prog:lO}{w:lP}{A:lR}(c:A.handled=none)(a l:lM)(j:l≠a)(items:oC lJ) :
  Draws prog w A a [a,l] items.size (λi v=>items[i]?=some v) (λi h=>h.IsTupleIter a l i/\h.IsTuple l items) where
 live:=λ_ _ st=>let⟨o,f,_⟩:=st.1;⟨o,f⟩
 frame:=λ_ _ _ st hk=>⟨st.1.at λo e=>hk a (by simp) o e,st.2.at λo e=>hk l (by simp) o e⟩
 item:=λi s Q E hi st d=>by refine Fw st.1 st.2 (x:=items[i]) (by simp[hi]) λm k b=>?_;exact d _ m s.toks (by simp[hi]) ⟨k,st.2.extBut b.extBut j⟩ b
 done:=λs Q E st g=>Gw c st.1 st.2 (by simp) g
def Gx(l:lM)(items:oC lJ)(n:Nat)(b:oB lM)(f:oC<|oB lJ) :
  Meets (Builtin.«enumerate.__new__» ⟨[.type "enumerate",.ref l],[]⟩) (λ_ R s=>s.heap.get? l=some {cls:=.type "tuple",dict:=b,data:=.seq items n,slots:=f} /\
   R (.ok<|.ret<|.ref (s.heap.push {cls:=.type "tuple_iterator",data:=.fields #[.ref l,.int 0 0]}).objs.size)
    {s with heap:=(s.heap.push {cls:=.type "tuple_iterator",data:=.fields #[.ref l,.int 0 0]}).push {cls:=.type "enumerate",data:=.fields #[.none,.bool false,.ref s.heap.objs.size,rawInt 0,.none,.none]}}) :=
 .of_wp λprog w A R s h=>by
  obtain⟨hp,g,d,i,os⟩:=s;obtain⟨a,h⟩:=h;have j:=sub_enumerate;have e:Heap.IsTuple (Shared.heap ⟨hp,g,d,i,os⟩) l items:=⟨_,a,rfl,n,rfl⟩
  wp_walk using iC a
  refine wpAny_stack_any λst=>C_ ?_;split;rename_i c _ _ _ _ _;cases (c==Value.type "enumerate")
  wp_walk using iC a,iH e
  exact⟨_,rfl,h⟩
  wp_walk using iC a,iH e
  exact⟨_,rfl,h⟩
  wp_walk using iC a,iH e
  exact⟨_,rfl,h⟩
def He{l:lM}{items:oC lJ}{Q:lJ->lK->Prop}(j:s.heap.IsTuple l items)
  (h:∀a,IsEnum a (s.heap.objs.size+1) s.heap.objs.size 0 .none->a.IsTupleIter s.heap.objs.size l 0->a.objs.size=s.heap.objs.size+2 ->
   (∀b o,s.heap.get? b=some o->a.get? b=some o)->Q (.ref<|s.heap.objs.size+1) {s with heap:=a}) :
  yL prog w A (call (.type "enumerate") [.ref l]) Q E s:=by
 obtain⟨⟨c,d,dt,i⟩,g,hc,n,f⟩:=j;replace hc:c=.type "tuple" := hc;replace f:dt=.seq items n:=f;subst hc f;refine callType_new F.called_enumerate (by decide) (F.typeCall_enumerate_1 _) (F.newCall_enumerate_1 _) (λe=>F.args_object_init_2 e _) F.entry_enumerate_new
  (Gx l items n d i) ⟨g,?_⟩
 have hz:(s.heap.push {cls:=.type "tuple_iterator",data:=.fields #[.ref l,.int 0 0]}).objs.size=s.heap.objs.size+1:=cB ..;show _/\_;rw[hz];have he:IsEnum ((s.heap.push {cls:=.type "tuple_iterator",data:=.fields #[.ref l,.int 0 0]}).push
   {cls:=.type "enumerate",data:=.fields #[.none,.bool false,.ref s.heap.objs.size,rawInt 0,.none,.none]}) (s.heap.objs.size+1) s.heap.objs.size 0 .none:=by
  have:=O_ (s.heap.push {cls:=.type "tuple_iterator",data:=.fields #[.ref l,.int 0 0]})
   (o:={cls:=.type "enumerate",data:=.fields #[.none,.bool false,.ref s.heap.objs.size,rawInt 0,.none,.none]}) rfl
  rw[hz]at this;exact this
 refine⟨⟨_,he,rfl⟩,h _ he ⟨_,DD _<|O_ _ rfl,rfl,rfl⟩ (by rw[cB,hz]) λb o x=>DD _<|DD _ x⟩
end
end PySem
namespace L2
open PySem PySem.Spec PyProof.Rows
def Jn(ds:oA lL)(lo hi:oB Int):oA lL:=(ds.drop<|HT.sIx ds.length 0 lo).take<|HT.sIx ds.length ds.length hi-HT.sIx ds.length 0 lo
section
variable {X:Cx}{k:Nat}{aa:oA<|lM×lT}{σ:St}{H:Hp}{s:lK}{h':lS}
noncomputable def Qc(h:lS)(e:lL)(u:lJ):Bool:=@decide (∃d as,Reads h u d as/\d.canLay0=true/\PyData.eqv d e=true) (Classical.propDecidable _)
def JW{h:lS}{e d:lL}{u:lJ}{as:oA lM}(r:Reads h u d as)(c:d.canLay0=true):Qc h e u=PyData.eqv d e:=by
 unfold Qc;cases q:PyData.eqv d e with
 |true=>exact @aP _ (Classical.propDecidable _) ⟨d,as,r,c,q⟩
 |false=>refine @aL _ (Classical.propDecidable _) λi=>?_;obtain⟨g,b,a,_,f⟩:=i;rw[SeqAt.Reads.unique d g u as b c r a,f]at q;cases q
theorem Ez{A:lR}{s:lK}{e:lL}{v:lJ}{i:oA lM}(h:Reads s.heap v e i)(b:e.canLay0=true)(hu:A.units+64<cLine):∀{ds:oA lL} {a:oA lJ} {as:oA lM},ReadsAll s.heap a ds as ->
  PyData.canLayAll0 ds=true->PyData.depthAll ds<=64->(∀u∈a,SeqAt.EqAt A s u v<|Qc s.heap e u)/\a.any (Qc s.heap e)=ds.any λd=>PyData.eqv d e
 |[],_,_,r,_,_=>by cases r;exact⟨(λ_ z=>nomatch z),rfl⟩
 |d::ds,_,_,r,c,o=>by
  cases r with
  |cons g l=>simp only[PyData.canLayAll0,Bool.and_eq_true]at c;simp only[PyData.depthAll]at o;obtain⟨j,m⟩:=Ez h b hu l c.2 (by omega);have f:=JW (e:=e) g c.1;refine⟨λu n=>?_,?_⟩;rcases aK.mp n with rfl|z;rw[f];exact kZ d e A s _ v _ _ g h c.1 b (by omega);exact j u z;rw[eL,eL,f,m]
def Inv.turnedL{t':Nat}{fp:oA lM}(I:Inv X aa σ H s)(k:∀b o,b∉fp->s.heap.get? b=some o->h'.get? b=some o)(a:∀b∈fp,Fu X aa H b):Inv X aa σ H {s with heap:=h',toks:=t'}:=by
 have d:∀b u,H b=some u->b∉fp:=λb u e z=>by rw[(a b z).1]at e;cases e
 have j:X.env.locals∉fp:=λz=>(a _ z).2.1 rfl;refine I.step (g':=s.gens) (d':=s.drawn) (ch:=fp) (λb hb=>?_) (λb o _ _ hc e _=>k b o hc e) (λb o _ _ hc e _=>⟨o.slots,k b o hc e⟩) (λ_ _ _ _ n=>n)
  (λb o hc e=>⟨o,k b o hc e⟩) (λ_ _ e=>e) (λ_ _ _ e=>e) (λb w e=>⟨#[],by rw[e];simp⟩) (λm hm=>?_) (λb u e=>?_) I.bare
 obtain⟨_,i,_,g,h,t⟩:=a b hb;exact⟨g,i,h,t⟩;obtain⟨o,p,l,f,r⟩:=hm;exact⟨o,p,l,k _ o j f,r⟩;refine(I.hok b u e).stay (λc v hc q=>k c v ?_ q) (λ_ q=>q) λ_ _ q=>q;rcases hc with z|z;rw[z];exact d b u e;exact d c _ z
def Inv.track{T:lM}{o:HO}(I:Inv X aa σ H s)(j:Fu X aa H T)(d:Bh X.prog X.w (upd H T o) s.heap T o):Inv X aa σ (upd H T o) s:=by
 obtain⟨f,i,_,g,h,p⟩:=j;have a:∀b u,H b=some u->b≠T:=λb u e z=>by rw[z,f]at e;cases e
 refine I.step (H':=upd H T o) (h':=s.heap) (g':=s.gens) (d':=s.drawn) (t':=s.toks) (ch:=[T]) (λb hb=>?_) (λb o _ _ _ e _=>e) (λb o _ _ _ e _=>⟨o.slots,e⟩)
  (λb u hc _ n=>by rw[An λz=>hc<|by simp[z]];exact n) (λb o _ e=>⟨o,e⟩) (λb l e=>by rw[An<|a b _ e];exact e) (λb u v e=>by rw[An<|a b _ e];exact e)
  (λb r e=>⟨#[],by rw[An<|a b _ e,e];simp⟩) (λm hm=>hm) (λb u e=>?_) I.bare
 have e:b=T:=by simpa using hb
 subst e;exact⟨g,i,h,p⟩;by_cases hb:b=T;subst hb;rw[A3]at e;cases e;exact d;rw[An hb]at e;exact(I.hok b u e).stay (λ_ _ _ q=>q) (λc q=>by rw[An<|a c _ q];exact q) λc l q=>by rw[An<|a c _ q];exact q
def Ien(K:lN)(a:lM):It :=
 ⟨λi H=> ∃ b x, Il K H a b /\ b[i]? = some x,
  λi H v c=> ∃ T x, H T = none /\ v = .ref T /\ c = upd H T (.tup [.int i, x]) /\ ∀ b, Il K H a b -> b[i]? = some x,
  λi H=> ∃ b, Il K H a b /\ b.length = i⟩
def Uk{P:lO}{w:lP}{K:lN}{cq:oA lQ}{k:Nat}{G:Pos}(a e j:lM)(M:e≠j) :
  Turn P w K (.Tuple cq k G) (Ien K a) [e,j] e (λi h=>(∃l,IsEnum h e j i l)/\h.IsTupleIter j a i) where
 mem:=by simp
 obj:=λi h st b hb=>by
  rcases aK.mp hb with rfl|hb;obtain⟨⟨l,he⟩,_⟩:=st;exact⟨_,he,λv z=>nomatch z⟩;have q:b=j:=by simpa using hb
  subst q;obtain⟨_,o,e,c,d⟩:=st;exact⟨o,e,λv z=>by rw[d]at z;cases z⟩
 keep:=λi h h' st k=>⟨by obtain⟨l,he⟩:=st.1;exact⟨l,k e (by simp) _ he⟩,st.2.at λo q=>k j (by simp) o q⟩
 item:=by
  intro X N S Z hc i aa s σ H E I F st Y;subst N S Z;obtain⟨xs,x,hq,hx⟩:=Y;obtain⟨D,R,p,hz⟩:=I.tuple hq;obtain⟨u,hu,ru⟩:=R.get hx;obtain⟨⟨l,he⟩,y⟩:=id st;have U:a≠e:=by intro z;subst z;obtain⟨o,g,m,_⟩:=p;rw[he]at g;cases g;exact absurd m<|by intro z;injection z with z;exact absurd z<|by decide
  have kh:a≠j:=by intro z;subst z;obtain⟨o,g,m,_⟩:=p;obtain⟨o',C,f,_⟩:=y;rw[g]at C;cases C;rw[m]at f;exact absurd f<|by intro z;injection z with z;exact absurd z<|by decide
  have W:=iZ (prog:=X.prog) (w:=X.w) (A:=X.A) (Fx (A:=X.A.in1) (I.ok.hd hc) j a kh D.toArray) e M (by simp[M,Ne.symm U]) (by simp);refine W.item i s _ _ (by rw[X_];exact(D_.mp hu).1) ⟨⟨l,he⟩,y,p⟩ λT jm h' B hv J ht hm O=>?_;have n:=W.apart i T h' hm;refine⟨_,rfl,W.go cq k G i T _ _ _ hm λlp jr j6=>?_⟩;obtain⟨t,L,i5,rfl⟩:=hv;have V:L=u:=by
   have:D[i]?=some L:=by simpa using i5
   rw[hu]at this;exact(bC this).symm
  subst V;have I1:Inv X aa σ H {s with heap:=h',toks:=B}:=I.turnedL O F;have I2:Inv X aa σ H {s with heap:=lp,toks:=B}:=I1.turnedL (s:={s with heap:=h',toks:=B}) (t':=B) j6 F;have fT:Fu X aa H T:=I.fpOk J<|I.hok.fresh J;have m9:IsTup lp T #[.int i t,L]:=let⟨o,g,r⟩:=ht;⟨o,j6 T o n g,r⟩
  refine⟨.ref T,upd H T<|.tup [.int i,x],I2.track fT ⟨by show 2<=sizeLine;decide,[.int i t,L],.cons ⟨t,rfl⟩<|.cons ru .nil,m9⟩,rfl,⟨T,x,fT.1,rfl,rfl,λys hy=>by rw[I.tuple_inj hy hq];exact hx⟩,⟨jr.1,jr.2.1⟩,λb hb=>?_⟩;have ir:b≠T:=by
   rcases aK.mp hb with rfl|hb;exact aM<|S_ (Q_ he) J;have q:b=j:=by simpa using hb
   subst q;obtain⟨o,g,_⟩:=y;exact aM<|S_ (Q_ g) J
  rw[An ir];exact(F b hb).1
 done:=by
  intro X N S Z hc i aa s σ H E I F st Y;subst N S Z;obtain⟨xs,hq,hl⟩:=Y;obtain⟨D,R,p,hz⟩:=I.tuple hq;obtain⟨⟨l,he⟩,y⟩:=id st;have U:a≠e:=by intro z;subst z;obtain⟨o,g,m,_⟩:=p;rw[he]at g;cases g;exact absurd m<|by intro z;injection z with z;exact absurd z<|by decide
  have kh:a≠j:=by intro z;subst z;obtain⟨o,g,m,_⟩:=p;obtain⟨o',C,f,_⟩:=y;rw[g]at C;cases C;rw[m]at f;exact absurd f<|by intro z;injection z with z;exact absurd z<|by decide
  have W:=iZ (prog:=X.prog) (w:=X.w) (A:=X.A) (Fx (A:=X.A.in1) (I.ok.hd hc) j a kh D.toArray) e M (by simp[M,Ne.symm U]) (by simp);have hn:D.toArray.size=i:=by rw[X_,<- R.length];exact hl
  subst hn;exact W.done s _ _ ⟨⟨l,he⟩,y,p⟩ λh' B O=>⟨rfl,I.turnedL O F⟩
 self:=λA i s Q E st h=>by obtain⟨⟨_,he⟩,_⟩:=st;exact i_ he h
def Xh{J:It}{g:TG}{tb:TS}{D:Ends}{σ:St}{H:Hp}(n:Nat)(a:Nat->St->Hp->Prop)(h0:a 0 σ H)(j:∀i σ H,i<n->a i σ H->J.go i H)(t:∀ σ H,a n σ H->J.stop n H/\D.nx σ H)
  (q:∀i x σ H f,i<n->a i σ H->J.yld i H x f->g x σ f λc o=>tb {D with nx:=a<|i+1,ct:=a<|i+1,bk:=D.nx} c o) :
  ∃W:Nat->Nat->St->Hp->Prop,(∃m,W 0 m σ H)/\∀i m σ H,W i m σ H ->
   (J.stop i H/\D.nx σ H)\/(J.go i H/\∃N:St->Hp->Prop,(∀ d b,N d b->∃l,l<m/\W (i+1) l d b)/\∀x b,J.yld i H x b->g x σ b λc f=>tb {D with nx:=N,ct:=N,bk:=D.nx} c f):=by
 refine⟨λi m σ H=>m=n-i/\i<=n/\a i σ H,⟨n,by simp,bH _,h0⟩,?_⟩;rintro i m σ H ⟨rfl,hi,p⟩;by_cases h:i<n;exact .inr ⟨j i σ H h p,a<|i+1,λd b r=>⟨n-(i+1),by omega,rfl,h,r⟩,λx b y=>q i x σ H b h p y⟩;have e:i=n:=by omega
 subst e;exact .inl<|t σ H p
def RJ(i j l:Nat)(a:TA):TS:=λD σ H=>a σ H λb c=>∃u v w,b=[u,v,w]/\D.nx (((σ.set i<|some u).set j<|some v).set l<|some w) c
def DE{i j l:Nat}{x y z:Str}{a b c:lQ}{O:TA}{J E B r n:Pos}{kt k2 pt2}(hc:X.calm=true)(t:X.N.Nodup)(hi:X.N[i]?=some x)(hj:X.N[j]?=some y)(hl:X.N[l]?=some z)(L:i≠j)(T:i≠l)(yn:j≠l)
  (hx:X.env.scope.names.lookup x=some .local) (hy:X.env.scope.names.lookup y=some .local) (hz:X.env.scope.names.lookup z=some .local) (ha:PA X [a,b,c] O) (R:swappedStores [.Tuple [.Name x J,.Name y E,.Name z B] kt r] (.Tuple [a,b,c] k2 pt2) X.env=pure (some [x,y,z]))
  (hs:swapsWithSole [.Tuple [.Name x J,.Name y E,.Name z B] kt r] (.Tuple [a,b,c] k2 pt2) n.line X.env=pure false:=by rfl) :
  PS X (.Assign [.Tuple [.Name x J,.Name y E,.Name z B] kt r] (.Tuple [a,b,c] k2 pt2) n) (RJ i j l O):=by
 intro aa s σ H D I h;rw[exec_Assign_arm];refine A_<|fU ?_;rw[hs];refine A_<|C_ ?_;rw[H_<|by decide];refine A_<|Tuple_<|thn (ha _ aa s σ H _ I h) λus m xh=>?_;obtain⟨vs,P,Y,r1,F⟩:=xh;obtain⟨u,v,w,C,F⟩:=F;subst C;obtain⟨g,f,d,rfl,ru,Q,W⟩:∃g f d,us=[g,f,d]/\Bf u g/\Bf v f/\Bf w d:=by
  cases r1 with
  |cons p q=>
   cases q with
   |cons p' q'=>
    cases q' with
    |cons V G=>cases G;exact⟨_,_,_,rfl,p,p',V⟩
 refine aJ ?_ (by show 3<=sizeLine;decide);have S:Inv X aa σ P {m with heap:=m.heap.push {cls:=.type "tuple",data:=.seq [g,f,d].toArray}}:=Y.kept (t':=m.toks) λb o e=>DD _ e;rw[R];refine A_<|C_ ?_;show yL X.prog X.w X.A (do rule "assign.swapped-stores";let items <- unpackItems (.ref m.heap.objs.size) 3 none;assignInOrder [λv=>bindName X.env z v,λv=>bindName X.env y v,λv=>bindName X.env x v] items.reverse;pure Flow.next) _ _ _;refine A_<|eC<|A_<|unpackItems_tuple (items:=#[g,f,d]) (I.ok.hd hc) (IsTup.new m.heap _) λh' i5=>?_;have Z:=S.kept (h':=h') (t':=m.toks) λb o e=>i5 b o (aM<|Q_ e) e;show wpAny _ _ (assignInOrder [λv=>bindName X.env z v,λv=>bindName X.env y v,λv=>bindName X.env x v] [d,f,g]>>=λ_=>pure Flow.next) _ _ _;refine A_<|iG<|wpAny_bindName<|Ft Z t hl (.inl hz) W (λs2 U=>?_)<|.inr hz;refine iG<|wpAny_bindName<|Ft U t hj (.inl hy) Q (λs3 I5=>?_)<|.inr hy;refine iG<|wpAny_bindName<|Ft I5 t hi (.inl hx) ru (λs4 M=>assignInOrder_nil<|C_ ?_)<|.inr hx;have C:((σ.set l<|some w).set j<|some v).set i (some u)=((σ.set l<|some w).set i<|some u).set j (some v):=List.set_comm _ _<|bW L;have e2:(σ.set l<|some w).set i (some u)=(σ.set i<|some u).set l (some w):=List.set_comm _ _<|bW T;have e3:((σ.set i<|some u).set l<|some w).set j (some v)=((σ.set i<|some u).set j<|some v).set l (some w):=List.set_comm _ _<|bW yn;rw[C,e2,e3]at M;exact⟨_,P,M,F⟩
def Mx:Gm X (binaryOp .Mult) (λx y H Q=>∃z n,x=.str z/\y=.int n/\(n=0\/n=1)/\Q (.str<|if n=0 then Str.empty else z) H):=by intro aa s σ H x y v u Q I a c h;obtain⟨z,n,rfl,rfl,b,q⟩:=h;obtain⟨t,rfl⟩:=a;obtain⟨d,rfl⟩:=c;rcases b with rfl|rfl;exact P.mul_str_none (by decide) (by decide) ⟨.str Str.empty,H,I.tok _,⟨_,rfl⟩,by simpa using q⟩;refine P.mul_str (by decide) (λ_ z=>by simp at z) (λ_ z=>by simp at z) ?_;rw[H_<|by decide,P_<|by simp];exact⟨.str z,H,I,⟨_,rfl⟩,by simpa using q⟩
end
end L2
namespace HT
open PySem PySem.Spec PyProof.Rows
section
variable {prog:lO}{w:lP}{A:lR}{E:lJ->lK->Prop}{s:lK}
def getItem_tuple_all{t d:lM}{items:oC lJ}{i g:lJ}{lo hi:oB Int}{Q:lJ->lK->Prop}(a:IsTup s.heap t items)(f:s.heap.IsSliceOf d i g .none)(n:IsPart i lo)(l:IsPart g hi)
  (j:sIx items.size 0 lo=0/\sIx items.size items.size hi=items.size)
  (h:Q (.ref t) s):yL prog w A (getItem (.ref t)<|.ref d) Q E s:=by
 obtain⟨os,e,k,m⟩:=id f;have c:s.TypeIs (.ref d) "slice" := ⟨os,e,k⟩;unfold getItem
 try with_reducible refine bM ?_
 first|refine A_ (C_ ?_)|skip
 refine A_ (wpAny_sequenceKey a.typeIs (by decide) ?_);refine A_<|aV (name:=Str.ofString "__getitem__") a.typeIs cV
  (aW cV a.typeIs entry_tuple_getitem ?_<|args_tuple_getitem _ _)
 show wpAny _ _ (Builtin.Tuple.tupleItemsOf (.ref t)>>=_) _ _ s;refine A_<|tupleItemsOf_ a ?_;refine A_<|iQ c ?_;rw[P_<|by decide];refine A_<|Ex f n l ?_;have b:(((sIx items.size 0 lo:Nat):Int)==0&&(1:Int)==1&&(sIx items.size items.size hi-sIx items.size 0 lo)==items.size)=true:=by rw[j.1,j.2];simp
 show wpAny _ _ (if(((sIx items.size 0 lo:Nat):Int)==0&&(1:Int)==1&&(sIx items.size items.size hi-sIx items.size 0 lo)==items.size)=true then _ else _) _ _ s;rw[P_ b];unfold Builtin.Tuple.tupleIsExact;refine A_<|A_<|iQ a.typeIs<|C_ ?_;rw[P_<|by decide];refine A_<|eC ?_
 first
  |exact C_ ⟨_,rfl,C_ h⟩
  |exact A_ (C_<|C_ ⟨_,rfl,C_ h⟩)
  |exact A_<|C_ ⟨_,rfl,C_ h⟩
end
end HT
namespace L2
open PySem PySem.Spec PyProof.Rows
section
variable {X:Cx}
def Xi{ds:oA lL}{lo hi:oB Int}(h:HT.sIx ds.length 0 lo=0/\HT.sIx ds.length ds.length hi=ds.length):Jn ds lo hi=ds:=by unfold Jn;rw[h.1,h.2,gR,kI,dA<|F_ _]
def Iel(K:lN)(a:lM):It :=
 ⟨λi H=> ∃ b x, Ei K H a b /\ b[i]? = some x,
  λi H v c=> ∃ T x, H T = none /\ v = .ref T /\ c = upd H T (.tup [.int i, x]) /\ ∀ b, Ei K H a b -> b[i]? = some x,
  λi H=> ∃ b, Ei K H a b /\ b.length = i⟩
def Qr{P:lO}{w:lP}{K:lN}{cq:oA lQ}{k:Nat}{J:Pos}(a e j:lM)(O:e≠j) :
  Turn P w K (.Tuple cq k J) (Iel K a) [e,j] e (λi h=>(∃l,IsEnum h e j i l)/\h.IsListIter j a i) where
 mem:=by simp
 obj:=λi h st b hb=>by
  rcases aK.mp hb with rfl|hb;obtain⟨⟨l,he⟩,_⟩:=st;exact⟨_,he,λv z=>nomatch z⟩;have q:b=j:=by simpa using hb
  subst q;obtain⟨_,o,e,c,d⟩:=st;exact⟨o,e,λv z=>by rw[d]at z;cases z⟩
 keep:=λi h G st k=>⟨by obtain⟨l,he⟩:=st.1;exact⟨l,k e (by simp) _ he⟩,st.2.at λo q=>k j (by simp) o q⟩
 item:=by
  intro X R V hK hc i M s σ H E I F st hg;subst R V hK;obtain⟨xs,x,hq,hx⟩:=hg;obtain⟨D,U,p,hz⟩:=I.list hq;obtain⟨u,hu,ru⟩:=U.get hx;obtain⟨⟨l,he⟩,y⟩:=id st;have Y:a≠e:=by intro z;subst z;obtain⟨o,g,m,_⟩:=p.isList;rw[he]at g;cases g;exact absurd m<|by intro z;injection z with z;exact absurd z<|by decide
  have kh:a≠j:=by intro z;subst z;obtain⟨o,g,m,_⟩:=p.isList;obtain⟨o',C,f,_⟩:=y;rw[g]at C;cases C;rw[m]at f;exact absurd f<|by intro z;injection z with z;exact absurd z<|by decide
  have W:=iZ (prog:=X.prog) (w:=X.w) (A:=X.A) (Draws.list (A:=X.A.in1) (I.ok.hd hc) j a kh D.toArray) e O (by simp[O,Ne.symm Y]) (by simp);refine W.item i s _ _ (by rw[X_];exact(D_.mp hu).1) ⟨⟨l,he⟩,y,p.isList⟩ λT jm G B hv L ht hm S=>?_;have n:=W.apart i T G hm;refine⟨_,rfl,W.go cq k J i T _ _ _ hm λlp jr j6=>?_⟩;obtain⟨t,N,i5,rfl⟩:=hv;have Z:N=u:=by
   have:D[i]?=some N:=by simpa using i5
   rw[hu]at this;exact(bC this).symm
  subst Z;have I1:Inv X M σ H {s with heap:=G,toks:=B}:=I.turnedL S F;have I2:Inv X M σ H {s with heap:=lp,toks:=B}:=I1.turnedL (s:={s with heap:=G,toks:=B}) (t':=B) j6 F;have fT:Fu X M H T:=I.fpOk L<|I.hok.fresh L;have m9:IsTup lp T #[.int i t,N]:=let⟨o,g,r⟩:=ht;⟨o,j6 T o n g,r⟩
  refine⟨.ref T,upd H T<|.tup [.int i,x],I2.track fT ⟨by show 2<=sizeLine;decide,[.int i t,N],.cons ⟨t,rfl⟩<|.cons ru .nil,m9⟩,rfl,⟨T,x,fT.1,rfl,rfl,λys hy=>by rw[I.list_inj hy hq];exact hx⟩,⟨jr.1,jr.2.1⟩,λb hb=>?_⟩;have ir:b≠T:=by
   rcases aK.mp hb with rfl|hb;exact aM<|S_ (Q_ he) L;have q:b=j:=by simpa using hb
   subst q;obtain⟨o,g,_⟩:=y;exact aM<|S_ (Q_ g) L
  rw[An ir];exact(F b hb).1
 done:=by
  intro X R V hK hc i M s σ H E I F st hg;subst R V hK;obtain⟨xs,hq,hl⟩:=hg;obtain⟨D,U,p,hz⟩:=I.list hq;obtain⟨⟨l,he⟩,y⟩:=id st;have Y:a≠e:=by intro z;subst z;obtain⟨o,g,m,_⟩:=p.isList;rw[he]at g;cases g;exact absurd m<|by intro z;injection z with z;exact absurd z<|by decide
  have kh:a≠j:=by intro z;subst z;obtain⟨o,g,m,_⟩:=p.isList;obtain⟨o',C,f,_⟩:=y;rw[g]at C;cases C;rw[m]at f;exact absurd f<|by intro z;injection z with z;exact absurd z<|by decide
  have W:=iZ (prog:=X.prog) (w:=X.w) (A:=X.A) (Draws.list (A:=X.A.in1) (I.ok.hd hc) j a kh D.toArray) e O (by simp[O,Ne.symm Y]) (by simp);have hn:D.toArray.size=i:=by rw[X_,<- U.length];exact hl
  subst hn;exact W.done s _ _ ⟨⟨l,he⟩,y,p.isList⟩ λG B S=>⟨rfl,I.turnedL S F⟩
 self:=λA i s Q E st h=>by obtain⟨⟨_,he⟩,_⟩:=st;exact i_ he h
end
end L2
namespace PySem
open Sem (wp)
open AutoSeq1 (wpAny_loadPart')
set_option maxRecDepth 100000
section
variable {prog:lO}{w:lP}{K:Type} [DecidableEq K]
end
end PySem
namespace L2
open PySem PySem.Spec PyProof.Rows
section
variable {X:Cx}{K:lN}{o e:lQ}{es:oA lQ}{to:TE}{t:TA}{name:Str}{au ak:Pos}{T id:String}{r:V->oA V->Hp->VK->Prop}
theorem D9{f g:Type}{F:f->g->Prop}:∀{d:oA f} {c:oA g} {j:Nat} {a:f},Paired F d c->d[j]?=some a->∃b,c[j]?=some b/\F a b
 |_,_,_,_,.nil,e=>by simp at e
 |_,_,0,_,.cons r _,e=>by simp at e;subst e;exact⟨_,rfl,r⟩
 |_,_,j+1,a,.cons _ t,e=>by obtain⟨b,h1,h2⟩:=D9 (j:=j) (a:=a) t (by simpa using e);exact⟨b,by simpa using h1,h2⟩
def DF{a b:Str}(h:a.cps.toList=b.cps.toList):a=b:=PySem.Str.ext'<|by simpa using bV List.toArray h
def Ul:GJ X "str.join" (λx b H Q=>∃z p a,x=.str z/\b=[.ref p]/\H p=some (.lst<|a.map V.str)/\(a.map (·.length)).sum+a.length*z.length<=16777216/\Q (.str<|Txt.join z a) H):=by intro j s d H x b v i Q I c r h;obtain⟨z,p,a,f,g,hp,hz,q⟩:=h;exact DB j s d H x b v i Q I c r ⟨z,p,a,f,g,Ei.of hp,hz,q⟩
end
def Cal(P:lO)(w:lP)(K:lN)(mg:Str->oB lJ)(base:lS)(n:Nat)(x:Str)(ps:oA Str)(sp:Sp):Prop :=
 ∃g a,FnOk P w K mg base Dz n g a ps sp/\Binds K a ps []/\PySem.W.keepIn K (.ref g)=true/\mg x=some (.ref g)
def Cal.mono{P:lO}{w:lP}{K:lN}{mg:Str->oB lJ}{base:lS}{n m:Nat}{x:Str}{ps:oA Str}{sp:Sp}(c:Cal P w K mg base n x ps sp)(h:n<=m):Cal P w K mg base m x ps sp :=
 by obtain⟨g,a,G,r⟩:=c;exact⟨g,a,G.mono h,r⟩
end L2
namespace L2
open PySem PySem.Spec PySem.Calls PyProof.Rows
section
variable {prog:lO}{w:lP}{A:lR}{E:lJ->lK->Prop}{s:lK}{K:lN}{x C:lM}{ox:lT}{od:oB lT}{name:Str}{h:lS}{g:oC GenState}{d:Drawn}{t:Nat}{os:OsState}
def RK{tk:Tok}{R:lZ->lK->Prop}(X:K.In s.heap)(I:PySem.W.InstAt s.heap x ox C od)(hm:PySem.W.mroIn K C (.type "BaseException")=some true)
  (h:yL prog w A.in1 (Builtin.«object.__getattribute__» ⟨[.ref x,.str name tk],[]⟩)
   (λc a=>match c with|.done f=>R (.ok f) a|.again c'=>c'.quiet=true/\codeAny (model prog w) A c' R a) (λe a=>R (.error e) a) s) :
  codeAny (model prog w) A (.call (.builtin "BaseException.__getattribute__") ⟨[.ref x,.str name tk],[]⟩) R s:=by
 have hk:builtinKind "BaseException.__getattribute__" = some .slot:=by decide +kernel
 have b:splitId "BaseException.__getattribute__" = some ("BaseException","__getattribute__"):=by decide +kernel
 have sub:PySem.W.Looks (model prog w) s.heap (isInstance (.ref x)<|.type "BaseException") true:=I.type.andThen<|fC X hm;exact jV F.excAttr_ValueError.ga.plain F.entry_bexc_ga<|@PySem.W.check_slot (model prog w) _ _ s "BaseException.__getattribute__" "BaseException" "__getattribute__" (.ref x) [.str name tk] [] _ hk b sub (F.args_bexc_ga _ _) h
abbrev GN:oA lJ:=[.type "ValueError",.type "Exception",.type "BaseException",.type "object"]
def RL(K:lN)(C:lM)(a:ClassData)(b:oC<|oB lJ):Bool:=a.mro.head?==some (.ref C) && !a.hasDel&&PySem.W.tailIn K GN a.mro.tail&&b.size==6&&b[4]?==some (some<|.builtin "ValueError.__new__")
def En(K:lN)(C:lM):Bool:=match K.lookup C with
 |some o=>o.cls==.type "type" && (match o.data with
  |.cls a=>RL K C a o.slots
  |_=>false)
 |none=>false
def JX{i:oC<|oB lJ}{v:oB lJ}(h:i.size=6)(e:i[4]?=some v):∃p r u k3 q,i=#[p,r,u,k3,v,q]:=by
 obtain⟨l⟩:=i;have s:∀{n:Nat} {l:oA<|oB lJ},l.length=n+1->∃a t,l=a::t/\t.length=n:=λ{n l} h=>by
  cases l with
  |nil=>cases h
  |cons a t=>exact⟨a,t,rfl,Nat.succ.inj h⟩
 obtain⟨a,_,rfl,h1⟩:=s h;obtain⟨b,_,rfl,h2⟩:=s h1;obtain⟨c,_,rfl,m⟩:=s h2;obtain⟨d,_,rfl,y⟩:=s m;obtain⟨k,_,rfl,o⟩:=s y;obtain⟨f,_,rfl,j⟩:=s o;cases cZ j;have:k=v:=by simpa using e
 subst this;exact⟨a,b,c,d,f,rfl⟩
def J9{K:lN}{h:lS}{C:lM}(X:K.In h)(q:En K C=true):∃n c N l a z b sub j e dd f r u k3 i,
  h.get? C=some (excClassObj n c C N l a z b sub j e dd f r u k3 i "ValueError.__new__")/\OwnTail h GN a:=by
 unfold En at q;cases ho:K.lookup C with
 |none=>rw[ho]at q;cases q
 |some o=>
  rw[ho]at q;obtain⟨L,dd,od,J⟩:=o;dsimp only at q;rw[Z_,gQ]at q;obtain⟨I,q⟩:=q;cases od with
  |cls B=>
   unfold RL at q;simp only[Bool.and_eq_true,beq_iff_eq,Bool.not_eq_true']at q;obtain⟨⟨⟨⟨k,v⟩,y⟩,F⟩,H⟩:=q;obtain⟨f,r,u,k3,i,rfl⟩:=JX F H;obtain⟨n,l,p,ns,c,G,b,sub,j,e,D⟩:=B;dsimp only at k v y;subst I v;cases p with
   |nil=>cases k
   |cons m a=>cases k;exact⟨n,c,ns,l,a,G,b,sub,j,e,dd,f,r,u,k3,i,X _ _ ho,PySem.W.tail_of_in X y⟩
  |_=>cases q
def Ct(C t:lM)(d:oB lM):lT:={cls:=.ref C,dict:=d,data:=.fields #[.ref t,.none,.none,.none,.bool false,.none]}
def B2(h:lS)(C:lM)(rest:oA lJ):lS:=(h.push {cls:=.type "tuple",data:=.seq rest.toArray}).push<|Ct C h.objs.size none
def Qs{rest:oA lJ}{k:lM}{Q:Fin->lK->Prop}(X:K.In h)(q:En K C=true)(hi:PySem.W.findIn K (.ref C) "__init__" = some (some<|.ref k)) (y:PySem.W.typeIn K (.ref k)=some (.type "function"))
  (hq:wpAny (model prog w) A (call (.ref k)<|.ref (h.objs.size+1)::rest) (λr m=>r=.none/\Q (.done<|.ret<|.ref<|h.objs.size+1) m) E ⟨B2 h C rest,g,d,t,os⟩) (u:rest.length<=sizeLine) :
  wpAny (model prog w) A (Builtin.«type.__call__» ⟨.ref C::rest,[]⟩) Q E ⟨h,g,d,t,os⟩:=by
 obtain⟨S,I,N,R,v,G,H,sub,P,J,dd,L,U,V,k3,O,f,T⟩:=J9 X q;have i:=F.excBase_ValueError
 repeat (first|with_reducible refine fQ f ?_|with_reducible refine wpAny_madeBy_exc f ?_|wp_step)
 refine codeAny_call_builtin_code (fK _ i.quiet) (wpAny_check_new_subU (bmB:=GN) i (by decide +kernel) T f ?_);refine codeAny_exc_new_subU (bmB:=GN) i (by decide +kernel) i T f ?_ u;show wpAny _ _ _ _ _ ⟨B2 h C rest,g,d,t,os⟩;have l:∀b o,h.get? b=some o->(B2 h C rest).get? b=some o:=λb o e=>DD _<|DD _ e;have a:=l _ _ f;have p:(B2 h C rest).get? (h.objs.size+1)=some (Ct C h.objs.size none):=by unfold B2;exact gP (by simp only[Heap.size_push]) rfl
 have j:(Value.ref C::v).contains (.ref C)=true:=by simp
 have c:K.In (B2 h C rest):=λb o e=>l b o<|X b o e;have n:=jW (M:=model prog w) c hi;have L2:=PySem.W.bind_fn (M:=model prog w) c (.ref<|h.objs.size+1) y;generalize B2 h C rest=h₁ at a p n L2 hq ⊢;unfold isInstance;have B:(Ct C h.objs.size none).cls=.ref C:=rfl
 repeat (first|(with_reducible refine fQ p ?_;rw[B])|(with_reducible refine wpAny_isSubtype_exc a ?_;rw[j])|wp_step)
 show wpAny _ _ (typeLookup (.ref C) _) _ _ _;refine n.at ?_;refine bM<|A_<|L2.at ?_;refine A_<|bU hq (λr m D=>?_) λ_ _ x=>x;obtain⟨rfl,z⟩:=D
 wp_walk
 exact z
def xmake{rest:oA lJ}{b:lM}{Q:lJ->lK->Prop}(X:K.In h)(q:En K C=true)(hi:PySem.W.findIn K (.ref C) "__init__" = some (some<|.ref b)) (e:PySem.W.typeIn K (.ref b)=some (.type "function"))
  (hq:wpAny (model prog w) (A.under<|.builtin "type.__call__" ⟨.ref C::rest,[]⟩) (call (.ref b)<|.ref (h.objs.size+1)::rest) (λr f=>r=.none/\Q (.ref<|h.objs.size+1) f) E ⟨B2 h C rest,g,d,t,os⟩) (c:rest.length<=sizeLine) :
  wpAny (model prog w) A (call (.ref C) rest) Q E ⟨h,g,d,t,os⟩:=by
 obtain⟨B,k,N,v,p,i,j,sub,o,l,dd,m,D,F,k3,n,a,T⟩:=J9 X q;have y:=tc_lookup;have u:=tc_bind<|.ref C;have z:(⟨h,g,d,t,os⟩:lK).TypeIs (.ref C) "type" := ⟨_,a,rfl⟩;refine lC<|codeAny_of_tree ?_;show wpAny _ _ (callAny (.ref C) _) _ _ _
 repeat (any_goals (first|assumption|with_reducible refine fQ a ?_|wp_step))
 refine⟨rfl,?_⟩;exact codeAny_call_builtin_at (fK _<|by decide +kernel) entry_typeCall<|wpAny_check_type_call_sub a<|Qs X q hi e hq c
def Oi{rest:oA lJ}{Q:Fin->lK->Prop}(X:K.In h)(q:En K C=true)(hi:PySem.W.findIn K (.ref C) "__init__" = some (some<|.builtin "ValueError.__init__"))
  (hq:∀p,(∀b o,h.get? b=some o->p.get? b=some o)->p.get? (h.objs.size+1)=some (Ct C (h.objs.size+2) none)->Q (.done<|.ret<|.ref<|h.objs.size+1) ⟨p,g,d,t,os⟩) (v:rest.length<=sizeLine) :
  wpAny (model prog w) A (Builtin.«type.__call__» ⟨.ref C::rest,[]⟩) Q E ⟨h,g,d,t,os⟩:=by
 obtain⟨R,G,N,P,z,D,H,sub,O,I,dd,J,S,U,k3,L,k,T⟩:=J9 X q;have c:=F.excBase_ValueError
 repeat (first|with_reducible refine fQ k ?_|with_reducible refine wpAny_madeBy_exc k ?_|wp_step)
 refine codeAny_call_builtin_code (fK _ c.quiet) (wpAny_check_new_subU (bmB:=GN) c (by decide +kernel) T k ?_);refine codeAny_exc_new_subU (bmB:=GN) c (by decide +kernel) c T k ?_ v;show wpAny _ _ _ _ _ ⟨B2 h C rest,g,d,t,os⟩;have i:∀b o,h.get? b=some o->(B2 h C rest).get? b=some o:=λb o e=>DD _<|DD _ e;have a:=i _ _ k;have m:(B2 h C rest).get? (h.objs.size+1)=some (Ct C h.objs.size none):=by unfold B2;exact gP (by simp only[Heap.size_push]) rfl
 have j:(B2 h C rest).objs.size=h.objs.size+2:=by unfold B2;simp only[Heap.size_push]
 have n:(Value.ref C::z).contains (.ref C)=true:=by simp
 have l:K.In (B2 h C rest):=λb o e=>i b o<|X b o e;have f:=T.keeps i;have r:=jW (M:=model prog w) l hi;generalize B2 h C rest=h₁ at a m r f i j ⊢;unfold isInstance;have B:(Ct C h.objs.size none).cls=.ref C:=rfl
 repeat (first|(with_reducible refine fQ m ?_;rw[B])|(with_reducible refine wpAny_isSubtype_exc a ?_;rw[n])|wp_step)
 show wpAny _ _ (typeLookup (.ref C) _) _ _ _;refine r.at ?_;refine bM<|A_<|eF (c.init.bind _) ?_;refine A_<|lC<|jV c.init.plain c.initEntry<|wpAny_check_init_subU (bmB:=GN) c f a m rfl ?_;have u:h₁.get? (h.objs.size+1)=some {cls:=.ref C,data:=.fields #[.ref h.objs.size,.none,.none,.none,.bool false,.none]}:=m
 wp_walk
 refine hq _ (λb o hb=>?_) ?_
 ·have y:b≠h.objs.size+1:=aM<|cY<|Q_ hb;rw[aD _ _<|bW y];exact DD _<|i _ _ hb
 ·rw[Y_ _ (DD _ u) rfl,j]
  rfl
def Xj{Q:lJ->lK->Prop}{rest:oA lJ}(X:K.In h)(q:En K C=true)(hi:PySem.W.findIn K (.ref C) "__init__" = some (some<|.builtin "ValueError.__init__"))
  (hq:∀c,(∀b o,h.get? b=some o->c.get? b=some o)->c.get? (h.objs.size+1)=some (Ct C (h.objs.size+2) none)->Q (.ref<|h.objs.size+1) ⟨c,g,d,t,os⟩) (e:rest.length<=sizeLine) :
  wpAny (model prog w) A (call (.ref C) rest) Q E ⟨h,g,d,t,os⟩:=by
 obtain⟨z,j,N,u,p,f,i,sub,n,k,dd,l,B,D,k3,m,a,T⟩:=J9 X q;have v:=tc_lookup;have r:=tc_bind<|.ref C;have y:(⟨h,g,d,t,os⟩:lK).TypeIs (.ref C) "type" := ⟨_,a,rfl⟩;refine lC<|codeAny_of_tree ?_;show wpAny _ _ (callAny (.ref C) _) _ _ _
 repeat (any_goals (first|assumption|with_reducible refine fQ a ?_|wp_step))
 refine⟨rfl,?_⟩;exact codeAny_call_builtin_at (fK _<|by decide +kernel) entry_typeCall<|wpAny_check_type_call_sub a<|Oi X q hi hq e
end
def RM:lJ->Bool
 |.ref _=>true
 |_=>false
theorem Jh(self:lJ)(a:Str):∀l:oA lJ,refuseLoop self a l=refuseLoop self a (l.dropWhile RM)
 |[]=>rfl
 |v::r=>by
  cases v with
  |ref c=>
   rw[refuseLoop_ref,Jh self a r]
   rfl
  |_=>rfl
def Qt(K:lN)(C:lM):Bool:=(PySem.W.clsIn K C).any λa=>a.mro.dropWhile RM==GN && !a.mro.isEmpty&&a.mro.contains (.type "object")
section
open Builtin Builtin.ObjectAttr
variable {prog:lO}{w:lP}{A:lR}{E:lJ->lK->Prop}{s:lK}{K:lN}{x C:lM}{ox:lT}{od:oB lT}{name:Str}{v:lJ}{R:lZ->lK->Prop}
def Lw{tk:Tok}(X:K.In s.heap)(I:PySem.W.InstAt s.heap x ox C od)(hp:Qt K C=true)(ha:PySem.W.findIn K (.ref C) name=some none)
  (h:yL prog w A.in1 (storeInOwnDict (.ref x) (.ref C) (.str name tk) name v false)
   (λg b=>match g with|.done f=>R (.ok f) b|.again c'=>c'.quiet=true/\codeAny (model prog w) A c' R b) (λe b=>R (.error e) b) s) :
  codeAny (model prog w) A (.call (.builtin "object.__setattr__") ⟨[.ref x,.str name tk,v],[]⟩) R s:=by
 have a:=PySem.F.store_object;obtain⟨i,hc,c⟩:=k_ hp;simp only[Bool.and_eq_true,beq_iff_eq,Bool.not_eq_true']at c;obtain⟨⟨h1,ne⟩,d⟩:=c;have sub:PySem.W.Looks (model prog w) s.heap (isInstance (.ref x)<|.type "object") true:=I.type.andThen (fC X<|by unfold PySem.W.mroIn;rw[hc,Option.bind_some,H_<|by rw[ne];decide,d]);refine jV a.slot.plain a.entry<|@PySem.W.check_slot (model prog w) _ _ s "object.__setattr__" "object" "__setattr__" (.ref x) [.str name tk,v] [] _ a.kind a.split sub (a.args (.ref x) (.str name tk) v) ?_;have hm:PySem.W.Looks (model prog w) s.heap (mroOf<|.ref C) i.mro:=(kE X hc).andThen .now;rw[PySem.W.osa_eq,refuse_eq];refine A_<|A_<|I.type.here<|A_<|hm.here ?_;rw[Jh,h1,F.store_ValueError.passes];refine C_<|A_<|I.type.here<|A_<|(jW X ha).here<|A_<|C_ ?_;exact h
end
def XO(e C t:lM)(d:oB lM):HO:=.ext λh=>h.get? e=some (Ct C t d)
def XD(c:lM)(b:oA<|Str×V):HO:=.ext λh=>∃a,h.Ns1 c a/\(∀f,Fs (b.lookup f)<|a f)/\PySem.Within a (b.map (·.1))
section
variable {P:lO}{w:lP}{H:Hp}{h:lS}{e C t dx:lM}{d:oB lM}{fs:oA<|Str×V}{X:Cx}{aa:oA<|lM×lT}{σ:St}{s:lK}{f:Str}{v:V}{A:lR}{E:lJ->lK->Prop}
def Xk(hx:h.get? e=some (Ct C t d)):Bh P w H h e (XO e C t d):=⟨hx,⟨_,hx⟩,λ_ _ p k=>k _ p⟩
def Qu(ok:HOk P w H h)(q:H e=some (XO e C t d)):h.get? e=some (Ct C t d):=(show Bh P w H h e (XO e C t d) from ok e _ q).1
def Xl{a:Str->oB lJ}(n:h.Ns1 dx a)(r:∀f,Fs (fs.lookup f)<|a f)(b:PySem.Within a<|fs.map (·.1)):Bh P w H h dx (XD dx fs) :=
 ⟨⟨a,n,r,b⟩,(by obtain⟨o,_,_,q,_⟩:=n;exact⟨o,q⟩),by rintro _ _ ⟨c,n,r⟩ k;exact ⟨c,n.at k,r⟩⟩
def JY(ok:HOk P w H h)(q:H dx=some (XD dx fs)):∃a,h.Ns1 dx a/\(∀f,Fs (fs.lookup f)<|a f)/\PySem.Within a (fs.map (·.1)):=(show Bh P w H h dx (XD dx fs) from ok dx _ q).1
def DG(hx:h.get? e=some (Ct C t none)):PySem.W.InstAt h e (Ct C t none) C none:=⟨hx,rfl,rfl,trivial⟩
def Xm{c:Str->oB lJ}(hx:h.get? e=some (Ct C t<|some dx))(n:h.Ns1 dx c):∃b,PySem.W.InstAt h e (Ct C t<|some dx) C (some b)/\∀a,PySem.W.lookIn a b=some (c a) :=
 let⟨b,i,g⟩:=Ua n
 ⟨b,⟨hx,rfl,rfl,i⟩,g⟩
structure XCls(K:lN)(C:lM):Prop where
 ga:PySem.W.findIn K (.ref C) "__getattribute__" = some (some<|.builtin "BaseException.__getattribute__")
 gn:PySem.W.findIn K (.ref C) "__getattr__" = some none
 sa:PySem.W.findIn K (.ref C) "__setattr__" = some (some<|.builtin "object.__setattr__")
 hd:PySem.W.hasDictIn K C=true
 mb:PySem.W.mroIn K C (.type "BaseException")=some true
 mo:PySem.W.mroIn K C (.type "object")=some true
 ve:Qt K C=true
def Qad{H:Hp}{a b:lM}{o1 i g:HO}:upd (upd (upd H a o1) b i) a g=upd (upd H b i) a g:=by
 funext c
 unfold upd;by_cases h:c=a;rw[P_ h,P_ h];rw[H_ h,H_ h,H_ h]
def RN{y:V}{u:lJ}{Q:Unit->lK->Prop}(I:Inv X aa σ H s)(he:H e=some (XO e C t none))(c:XCls X.K C)(n:Io X.K C f)(O:Bf y u)
  (h:∀dx D,H dx=none->dx≠e->Inv X aa σ (upd (upd H e<|XO e C t<|some dx) dx<|XD dx [(f,y)]) D->Q () D):yL X.prog X.w A (setAttr (.ref e) f u) Q E s:=by
 have hx:=Qu I.hok he;have J:=DG hx;refine PySem.W.set_plain I.kIn J c.sa<|Lw (s:={s with toks:=s.toks+1}) I.kIn J c.ve n ?_;obtain⟨Z,hc,S⟩:=k_ c.hd;have N:s.heap.get? e=some ⟨.ref C,none,.fields #[.ref t,.none,.none,.none,.bool false,.none],#[]⟩:=hx;refine A_<|C_<|A_<|A_<|wpAny_loadPart N<|A_<|PySem.W.Looks.here (s:={s with toks:=s.toks+1}) (kE I.kIn hc) ?_;rw[S];have F:(s.heap.push {cls:=.type "dict",data:=.dict #[]}).get? e=some (Ct C t none):=DD _ hx;have k:e≠s.heap.objs.size:=aM<|Q_ hx;show wpAny _ _ (if(!true || !typeHasDict (Value.ref C))=true then _ else _) _ _ _;rw[H_<|by simp[typeHasDict]];refine A_<|wpAny_alloc' ?_;refine A_<|wpAny_update' F ?_;refine C_ ?_;have p:((s.heap.push {cls:=.type "dict",data:=.dict #[]}).update e λo=>{cls:=o.cls,dict:=some s.heap.objs.size,data:=o.data,slots:=o.slots}).get? e=some (Ct C t<|some s.heap.objs.size):=Y_ _ F rfl;have i:((s.heap.push {cls:=.type "dict",data:=.dict #[]}).update e λo=>{cls:=o.cls,dict:=some s.heap.objs.size,data:=o.data,slots:=o.slots}).get? s.heap.objs.size
   = some {cls:=.type "dict",data:=.dict #[]}:=(Heap.get?_update_ne _ _ _ _ k.symm).trans<|gP rfl rfl
 have hnd:((s.heap.push {cls:=.type "dict",data:=.dict #[]}).update e λo=>{cls:=o.cls,dict:=some s.heap.objs.size,data:=o.data,slots:=o.slots}).Ns s.heap.objs.size (λ_=>none) :=
  ⟨_,#[],_,i,rfl,λe he=>absurd he<|by simp,λ_=>rfl⟩
 have z:∀b o,b≠e->(s.heap.push {cls:=.type "dict",data:=.dict #[]}).get? b=some o->((s.heap.push {cls:=.type "dict",data:=.dict #[]}).update e λo=>{cls:=o.cls,dict:=some s.heap.objs.size,data:=o.data,slots:=o.slots}).get? b=some o :=
  λb o hb q=>(Heap.get?_update_ne _ _ _ _ hb).trans q
 have l:(s.heap.push {cls:=.type "dict",data:=.dict #[]}).Ns s.heap.objs.size (λ_=>none):=⟨_,#[],_,gP rfl rfl,rfl,λe he=>absurd he<|by simp,λ_=>rfl⟩;have U:=I.hok.fresh<|F_ s.heap.objs.size;have Y:=I.laid (a:=s.heap.objs.size) (o:=XD s.heap.objs.size []) (h':=s.heap.push {cls:=.type "dict",data:=.dict #[]}) (t':=s.toks) (λb u q=>DD _ q) (F_ _)<|Xl (Heap.Ns1.of_empty l) (λ_=>True.intro) λy hy=>absurd rfl hy;generalize qd:(s.heap.push {cls:=.type "dict",data:=.dict #[]}).update e (λo=>{cls:=o.cls,dict:=some s.heap.objs.size,data:=o.data,slots:=o.slots})=h2 at p i hnd z ⊢;have M:=Y.write (x:=e) (e:=e) (o:=XO e C t<|some s.heap.objs.size) (h':=h2) (t':=s.toks) (by rw[An k,he];exact True.intro) (.inl rfl) z ⟨_,p⟩<|Xk p;show wpAny _ _ (Builtin.ObjectAttr.storeInDict s.heap.objs.size (.str f s.toks) f u) _ _ _;unfold Builtin.ObjectAttr.storeInDict Builtin.ObjectAttr.newKeyGuard;refine A_<|C_<|A_<|wpAny_nsSet1 (Heap.Ns1.of_empty hnd) λh' B T=>?_;obtain⟨oD,G,L,j,m,r⟩:=B.count<|PySem.Within.cons f u PySem.Within.nil;refine A_ (wpAny_lookBehind j (by rw[m];exact pastItsLine_dict<|I_ r<|by rw[aX,List.length_nil,iL];omega) ?_);refine C_ ?_;refine h s.heap.objs.size _ U k.symm ?_;rw[<- Qad (o1:=XD s.heap.objs.size [])];refine M.write (x:=s.heap.objs.size) (e:=s.heap.objs.size) (by rw[An k.symm,A3];exact True.intro) (.inl rfl) (λb o hb q=>(T.2 b hb).trans q) ⟨_,j⟩<|Xl B (λg=>?_) λg R=>?_;show Fs (List.lookup g [(f,y)]) (if g=f then some u else none);by_cases q:g=f;rw[P_ q,q];show Fs (List.lookup f [(f,y)]) (some u);have hb:(f==f)=true:=gQ.mpr rfl;simp only[List.lookup,hb];exact O;rw[H_ q];have hb:(g==f)=false:=eD.mpr q;simp only[List.lookup,hb];exact True.intro;by_cases q:g=f;rw[q];exact aR;exact absurd (show(if g=f then some u else none)=none by rw[H_ q]) R
def RO{y:V}{u:lJ}{Q:Unit->lK->Prop}(I:Inv X aa σ H s)(he:H e=some (XO e C t<|some dx))(m:H dx=some (XD dx fs))(Y:fs.length<1000)(c:XCls X.K C)(n:Io X.K C f)(R:Bf y u)
  (h:∀F,Inv X aa σ (upd H dx<|XD dx<|Jl f y fs) F->Q () F):yL X.prog X.w A (setAttr (.ref e) f u) Q E s:=by
 have hx:=Qu I.hok he;obtain⟨B,N,r,D⟩:=JY I.hok m;obtain⟨od,J,M⟩:=Xm hx N;have U:dx≠e:=λz=>by subst z;obtain⟨o,es,ep,q,k,_⟩:=N;rw[hx]at q;cases q;cases k
 refine PySem.W.set_plain I.kIn J c.sa<|Lw (s:={s with toks:=s.toks+1}) I.kIn J c.ve n ?_;obtain⟨Z,hc,k⟩:=k_ c.hd;have O:s.heap.get? e=some ⟨.ref C,some dx,.fields #[.ref t,.none,.none,.none,.bool false,.none],#[]⟩:=hx;refine A_<|C_<|A_<|A_<|wpAny_loadPart O<|A_<|PySem.W.Looks.here (s:={s with toks:=s.toks+1}) (kE I.kIn hc) ?_;rw[k];refine C_ (a:=some dx)<|A_<|C_<|A_ ?_;refine wpAny_nsSet1 (s:={s with toks:=s.toks+1}) N λh' p T=>?_;have hz:(fs.map (·.1)).length<=sizeLine:=by rw[B_,iL];omega
 obtain⟨oD,G,L,i,j,l⟩:=p.count<|PySem.Within.cons f u D;refine A_ (wpAny_lookBehind i (by rw[j];exact pastItsLine_dict<|I_ l<|by rw[aX,B_,iL];omega) ?_);refine C_<|h _ ?_;refine I.write (x:=dx) (e:=dx) (by rw[m];exact True.intro) (.inl rfl) (λb o hb q=>(T.2 b hb).trans q) ⟨_,i⟩<|Xl p (λg=>?_) λg S=>?_;show Fs ((Jl f y fs).lookup g) (if g=f then some u else B g);rw[Je];by_cases q:g=f;rw[P_ q,P_ q];exact R;rw[H_ q,H_ q];exact r g;by_cases q:g=f;rw[q];exact(Im f y fs).1;refine(Im f y fs).2 g<|D g λz=>S ?_;show(if g=f then some u else B g)=none;rw[H_ q];exact z
end
structure XMk(K:lN)(C f:lM):Prop where
 xc:En K C=true
 init:PySem.W.findIn K (.ref C) "__init__" = some (some<|.ref f)
 fn:PySem.W.isFn K (.ref f)=true
 kp:PySem.W.keepIn K (.ref C)=true
def JZ(C:lM)(sp:Sp)(E:XK)(t:TA):TE:=λd H Q=>t d H λa b=>a.length<=1000/\∀x e,b x=none->sp (.ref x::a) (upd b x<|XO x C e none) (λv c=>v=.non/\Q (.ref x) c) E
def DH(C:lM):TE:=λ_ H Q=>∀x a,H x=none->Q (.ref x) (upd H x<|XO x C a none)
section
variable {X:Cx}{CX:CXT}{k:Nat}{f C:lM}{fd:lV}{ps:oA Str}{sp:Sp}{E:XK}{x:Str}{p pos bo au:Pos}{e o value:lQ}{es:oA lQ}{t:TA}{ta tv:TE}{fl:Str}
def Um{l:oA<|lM×lT}{j:St}{H:Hp}{s:lK}{Q:VK}{c:oA lJ}{m:oA V}(M:XMk X.K C f)(F:FnOk X.prog X.w X.K X.mg X.base CX k f fd ps sp)(U:Room (k+1) X.A)(hb:Binds X.K fd ps [])
  (hx:Passes CX X E) (I:Inv X l j H s) (r:Vals m c) (Z:m.length<=1000)
  (h:∀x L,H x=none->sp (.ref x::m) (upd H x<|XO x C L none) (λv R=>v=.non/\Q (.ref x) R) E) :
  yL X.prog X.w X.A (call (.ref C) c) (EP X l j Q) X.xe s:=by
 have hq:=h (s.heap.objs.size+1) s.heap.objs.size<|I.hok.fresh<|cF _;have W:Inv X l j H {s with heap:=s.heap.push {cls:=.type "tuple",data:=.seq c.toArray}}:=I.kept (t':=s.toks) λb u q=>DD _ q;have T:(B2 s.heap C c).get? (s.heap.objs.size+1)=some (Ct C s.heap.objs.size none):=by unfold B2;exact gP (by simp only[Heap.size_push]) rfl
 have n:Inv X l j (upd H (s.heap.objs.size+1)<|XO (s.heap.objs.size+1) C s.heap.objs.size none) {s with heap:=B2 s.heap C c} :=
  W.laid (a:=s.heap.objs.size+1) (t':=s.toks) (λb u q=>DD _ q) (gG<|cB _ _) (Xk T)
 have z:Vals (V.ref (s.heap.objs.size+1)::m) (Value.ref (s.heap.objs.size+1)::c):=.cons rfl r;have O:(Value.ref (s.heap.objs.size+1)::c++[]).length=ps.length:=by have e:=z.length;rw[F.len _ _ _ _ hq]at e;rw[cH];exact e.symm
 have y:=F.run _ X.stack _ _ ⟨Value.ref (s.heap.objs.size+1)::c,[]⟩ (Value.ref (s.heap.objs.size+1)::c++[]) _ _ E (U.make C c []) (n.env0.make C c []) (hb _ (Value.ref (s.heap.objs.size+1)::c) n.kIn O) (by rw[cH];exact z) hq;have P:c.length<=sizeLine:=by have:=r.length;exact I_ (by omega)<|show 1000<=sizeLine by decide
 obtain⟨D,g,d,tt,os⟩:=s;refine xmake I.kIn M.xc M.init (gQ.mp M.fn) (lC<|lD y λr S i=>?_) P;cases r with
 |error e=>exact hx l j _ _ e S n i
 |ok fl=>
  cases fl with
  |ret u=>obtain⟨v,G,Y,N,B,J⟩:=n.after i;subst B;exact⟨N,⟨V.ref<|D.objs.size+1,G,Y,rfl,J⟩⟩
  |next=>exact False.elim i
  |brk=>exact False.elim i
  |cont=>exact False.elim i
def Xn(M:XMk X.K C f)(F:FnOk X.prog X.w X.K X.mg X.base CX k f fd ps sp)(i:Room (k+1) X.A)(c:Gl X x)(hm:X.mg x=some (.ref C))(hb:Binds X.K fd ps [])(hx:Passes CX X E)
  (ha:PA X (e::es) t) (hdb:(x==("__debug__" : Str))=false:=by decide) (he:starEach (e::es) X.env=(false,eval e X.env)::starEach es X.env:=by rfl) (hpl:(backTo pos<|starEach es X.env).any (·.1)=false:=by rfl) :
  PE X (.Call (.Name x p) (e::es) [] pos) (JZ C sp E t):=by
 intro g s b H Q I h;refine bN<|Fd I c hm ?_ hdb;refine PySem.W.callWith_K (h₀:=X.base) I.ok.mod.kin M.kp (thn (ha pos g s b H _ I h) λn m ⟨j,l,a,r,d,q⟩=>⟨a.kIn,?_⟩) he hpl;exact Um M F i hb hx a r d q
def Uo(q:En X.K C=true)(hi:PySem.W.findIn X.K (.ref C) "__init__" = some (some<|.builtin "ValueError.__init__")) (l:PySem.W.keepIn X.K (.ref C)=true) (j:Gl X x) (hm:X.mg x=some (.ref C)) (hdb:(x==("__debug__" : Str))=false:=by decide) :
  PE X (.Call (.Name x p) [] [] pos) (DH C):=by
 intro r s n H Q I h;refine bN<|Fd I j hm ?_ hdb;refine PySem.W.callWith_K0 I.kIn l ?_;obtain⟨c,g,d,m,os⟩:=s;refine Xj (rest:=[]) I.kIn q hi (λu i b=>?_) (by decide);refine⟨V.ref<|c.objs.size+1,_,I.laid (a:=c.objs.size+1) (t':=m) i (cF _)<|Xk b,rfl,h _ _<|I.hok.fresh<|cF _⟩
def sX1(K:lN)(ta tv:TE)(f:Str):TS:=λD c H=>tv c H λy d=>ta c d λx b=>∃e C t,x=.ref e/\b e=some (XO e C t none)/\XCls K C/\Io K C f /\
 ∀a,b a=none->a≠e->D.nx c (upd (upd b e<|XO e C t<|some a) a<|XD a [(f,y)])
def sX2(K:lN)(ta tv:TE)(f:Str):TS:=λD c H=>tv c H λy g=>ta c g λx b=>∃e C t a d,x=.ref e/\b e=some (XO e C t<|some a)/\b a=some (XD a d)/\d.length<1000/\XCls K C/\Io K C f /\
 D.nx c (upd b a<|XD a<|Jl f y d)
def RP(ha:PE X o ta)(hv:PE X value tv)(z:swapsWith value (some<|.Attribute o fl bo) pos.line X.env=pure false):PS X (.Assign [.Attribute o fl bo] value pos) (sX1 X.K ta tv fl):=by intro b s a H D I h;refine jE (thn (hv b s a H _ I h) λu B ⟨y,A,J,v,q⟩=>thn (ha b B a A _ J q) λl N w=>?_) z;obtain⟨x,O,r,d,e,C,t,g,F,c,n,i⟩:=w;subst g;obtain rfl:l=Value.ref e:=d;exact RN r F c n v λm M G j L=>⟨a,_,L,i m G j⟩
def RQ(ha:PE X o ta)(hv:PE X value tv)(z:swapsWith value (some<|.Attribute o fl bo) pos.line X.env=pure false):PS X (.Assign [.Attribute o fl bo] value pos) (sX2 X.K ta tv fl):=by intro b s a H D I h;refine jE (thn (hv b s a H _ I h) λu B ⟨y,A,G,v,q⟩=>thn (ha b B a A _ G q) λl N w=>?_) z;obtain⟨x,O,r,d,e,C,t,L,P,g,F,m,j,c,n,i⟩:=w;subst g;obtain rfl:l=Value.ref e:=d;exact RO r F m j c n v λM J=>⟨a,_,J,i⟩
end
structure XIs(K:lN)(C:lM):Prop extends XCls K C where
 ca:PySem.W.findIn K (.ref C) "__class__" = some (some<|.builtin "object.__class__")
 cg:PySem.W.specialIn K (.builtin "object.__class__") "__get__" = some (some<|.builtin "getset_descriptor.__get__")
 ct:PySem.W.takesIn K (.builtin "object.__class__")=some true
inductive Ctxs (h:lS):lM->oA lM->Prop
 |nil {e:lM} {o:lT} {vs:oC lJ}:h.get? e=some o->o.data=.fields vs->vs[2]?=some Value.none->Ctxs h e []
 |cons {e E:lM} {o:lT} {vs:oC lJ} {l:oA lM}:h.get? e=some o->o.data=.fields vs->vs[2]?=some (Value.ref E)->Ctxs h E l->Ctxs h e (E::l)
def Ctxs.keep{h h':lS}(k:∀b o (m:oC lJ),h.get? b=some o->o.data=.fields m->∃d f,h'.get? b=some d/\d.data=.fields f/\f[2]?=m[2]?){e:lM}{l:oA lM}(c:Ctxs h e l):Ctxs h' e l:=by
 induction c with
 |nil a b c=>obtain⟨d,f,j,i,g⟩:=k _ _ _ a b;exact .nil j i (g.trans c)
 |cons a b c _ n=>obtain⟨d,f,j,i,g⟩:=k _ _ _ a b;exact .cons j i (g.trans c) n
def Ctxs.same{h h':lS}(k:∀b o,h.get? b=some o->h'.get? b=some o){e:lM}{l:oA lM}(c:Ctxs h e l):Ctxs h' e l :=
 c.keep λb o f a d=>⟨o,f,k b o a,d,rfl⟩
structure ExcRec(h:lS)(e:lM)(cls:lJ)(d:oB lM)(vs:oC lJ):Prop where
 at_:h.get? e=some ⟨cls,d,.fields vs,#[]⟩
 six:vs.size=6
 tb:vs[1]?=some .none\/∃T oT ts,vs[1]?=some (.ref T)/\T≠e/\h.get? T=some oT/\oT.data=.fields ts/\ts[3]?=some .none
 cx:∃l,Ctxs h e l
structure LeftBy(fs:oA lM)(e:lM)(cls:lJ)(d:oB lM)(h h':lS):Prop where
 size:h.objs.size<=h'.objs.size
 keep:∀b o,b∉fs->b≠e->h.get? b=some o->h'.get? b=some o
 slot:∀b o,b∈fs->h.get? b=some o->∃sl,h'.get? b=some {o with slots:=sl}
 rc:∃vs,ExcRec h' e cls d vs/\vs[1]?≠some .none
 fq:∃T,(∀vs,ExcRec h' e cls d vs->vs[1]?=some (.ref T))/\h.get? T=none
section
variable {M:Model}{A:lR}{E:lJ->lK->Prop}{s:lK}{base:lS}{env:Env}{outer:oA Env}{L e:lM}{cls:lJ}{d:oB lM}{vs:oC lJ}{prog:lO}{w:lP}{K:lN}{C:lM}{X:Cx}{aa:oA<|lM×lT}{σ:St}{H:Hp}{a:lM}{h':lS}{D:lM}
def Sa{o:lT}(b:o.data=.fields vs)(g:oC lJ->oC lJ):o.mapFields g=⟨o.cls,o.dict,.fields<|g vs,o.slots⟩:=by obtain⟨c,f,dt,h⟩:=o;dsimp only at b;subst b;rfl
def Ek{g:lJ}{li:Bool}{Q:Unit->lK->Prop}(V:A.frames=some (env::outer))(I:s.heap.FunFrames base<|env::outer)(Y:env.frame=some L)(he:s.heap.get? e=some ⟨cls,d,.fields vs,#[]⟩)(k:vs.size=6)(u:∃l,Ctxs s.heap e l)
  (h:∀h',LeftBy (frs<|env::outer) e cls d s.heap h'->Q () {s with heap:=h'}) :
  wpAny M A (do let fr <- frameOf env;let place <- entryPlaceOf L li;let x <- EntryCells.newEntry g fr .none (rawInt L) .none place;setField (.ref e) 1 x) (λ_ s'=>wpAny M A (setFlight (.ref e) none) Q E s') E s:=by
 have G:e∉frs (env::outer):=λhm=>by obtain⟨_,o,q,U⟩:=I.mem hm;rw[he]at q;cases q;exact U vs rfl
 refine A_<|wpAny_frameOf_fun V I Y λh1 i=>?_;refine A_<|wpAny_entryPlaceOf λS W=>?_;unfold EntryCells.newEntry newFields;have P:h1.get? e=some ⟨cls,d,.fields vs,#[]⟩:=(i.2.1 e G).trans he;have F:h1.objs.size≠e:=dX<|Q_ P;refine A_<|aJ ?_<|W.sizeOk5 _ _ _ _ _;generalize yp:([g,Value.ref L,Value.none,rawInt L,Value.none]++if S.isEmpty=true then List.replicate 6 Value.none else S).toArray=ts;have Z:5<=ts.size:=by rw[<- yp];simp
 have O:=DD (h:=h1) {cls:=.type "traceback",dict:=none,data:=.fields ts} P;refine bI O rfl (by rw[k];decide) ?_;dsimp only;have v:=Y_ (Obj.mapFields (·.setIfInBounds 1 (Value.ref h1.objs.size))) O rfl;have t:((h1.push {cls:=.type "traceback",dict:=none,data:=.fields ts}).update e<|Obj.mapFields (·.setIfInBounds 1 (Value.ref h1.objs.size))).get? h1.objs.size=some {cls:=.type "traceback",dict:=none,data:=.fields ts} :=
  (aD _ _ F.symm).trans (O_ h1 rfl)
 unfold setFlight;refine A_ (aH v rfl (x:=.ref h1.objs.size) (by simp[k]) ?_);rw[P_<|by simp];refine bI t rfl (by omega)<|h _ ?_;generalize N:(h1.push {cls:=.type "traceback",dict:=none,data:=.fields ts}).update e (Obj.mapFields (·.setIfInBounds 1 (Value.ref h1.objs.size)))=h3 at v t;have T:=Y_ (Obj.mapFields (·.setIfInBounds 3 ((none:oB lM).elim Value.none λf=>rawInt f))) t rfl;have n:∀b o,b≠e->h1.get? b=some o->(h3.update h1.objs.size<|Obj.mapFields (·.setIfInBounds 3 ((none:oB lM).elim Value.none λf=>rawInt f))).get? b=some o:=λb o hb q=>by have p:h1.objs.size≠b:=dX<|Q_ q;rw[aD _ _ p,<- N,aD _ _<|bW hb];exact DD _ q
 have j:(h3.update h1.objs.size<|Obj.mapFields (·.setIfInBounds 3 ((none:oB lM).elim Value.none λf=>rawInt f))).get? e=some ⟨cls,d,.fields<|vs.setIfInBounds 1<|.ref h1.objs.size,#[]⟩:=by rw[aD _ _ F];exact v
 refine⟨?_,λb o hb m q=>n b o m<|(i.2.1 b hb).trans q,λb o hb q=>?_,⟨_,⟨j,by simp[k],.inr ⟨h1.objs.size,_,_,by simp[k],F,T,rfl,?_⟩,u.imp λl c=>c.keep λb o B q y=>?_⟩,by simp[k]⟩,⟨h1.objs.size,λB R=>?_,?_⟩⟩;rw[dC,<- N,dC,cB,i.1];exact cF _;obtain⟨J,r⟩:=i.2.2 b o q;exact⟨J,n b _ (λz=>G<|z ▸ hb) r⟩;show(ts.setIfInBounds 3 Value.none)[3]?=some Value.none;rw[aQ,P_ rfl,P_<|by omega];have:=R.at_.symm.trans j;cases this;simp[k];exact jQ (by rw[i.1];exact F_ _);by_cases m:b=e;subst m;rw[he]at q;cases q;cases y;exact⟨_,_,j,rfl,by rw[aQ,H_<|by decide]⟩;by_cases hb:b∈frs (env::outer);obtain⟨J,r⟩:=i.2.2 b o q;exact⟨_,B,n b _ m r,y,rfl⟩;exact⟨o,B,n b o m<|(i.2.1 b hb).trans q,y,rfl⟩
def Xo{Q:Unit->lK->Prop}(n:A.frames=some (env::outer))(m:s.heap.FunFrames base<|env::outer)(j:env.frame=some L)(R:ExcRec s.heap e cls d vs)
  (h:∀h',LeftBy (frs<|env::outer) e cls d s.heap h'->Q () {s with heap:=h'}):wpAny M A («leaving» env<|.ref e) Q E s:=by
 unfold «leaving» noteFrame;simp only[j];rcases R.tb with h1|⟨T,J,ts,h1,G,i,g,l⟩;refine A_<|A_<|aH R.at_ rfl h1 ?_;rw[H_<|by decide];exact Ek n m j R.at_ R.six R.cx h
 ·refine A_<|A_<|aH R.at_ rfl h1 ?_;rw[P_<|by simp];refine A_<|aH i g l ?_;rw[H_<|by simp[rawInt]];have r:3<ts.size:=(dJ.mp l).1;refine A_<|bI i g r ?_;have same:s.heap.update T (Obj.mapFields (·.setIfInBounds 3 Value.none))=s.heap\/True:=.inr trivial;have v:(s.heap.update T<|Obj.mapFields (·.setIfInBounds 3 Value.none)).get? T=some J:=by
   have q:=Y_ (Obj.mapFields (·.setIfInBounds 3 Value.none)) i<|cW<|aY g _;rw[q,Sa g];have:ts.setIfInBounds 3 Value.none=ts:=by apply Array.ext_getElem?;intro k;rw[aQ];by_cases hk:3=k;subst hk;rw[P_ rfl,P_ r,l];rw[H_ hk]
   rw[this,<- g]
  have f:∀b o,s.heap.get? b=some o->(s.heap.update T<|Obj.mapFields (·.setIfInBounds 3 Value.none)).get? b=some o:=λb o q=>by by_cases hb:T=b;subst hb;rw[v,<- q,i];rw[aD _ _ hb];exact q
  refine Ek (s:={s with heap:=s.heap.update T<|Obj.mapFields (·.setIfInBounds 3 Value.none)}) n (m.of_keeps λb o q _=>⟨o,f b o q,rfl⟩) j (f _ _ R.at_) R.six (R.cx.imp λ_ c=>c.same f) λh' ⟨p,N,B,F,x⟩=>h h' ⟨?_,λb o hb y q=>N b o hb y<|f b o q,λb o hb q=>B b o hb<|f b o q,F,?_⟩;rw[dC]at p;exact p
  ·obtain⟨t,I,u⟩:=x;refine⟨t,I,?_⟩;cases z:s.heap.get? t with
   |none=>rfl
   |some o=>rw[f _ _ z]at u;cases u
def Xp{x:Sem lJ}{Q:Flow->lK->Prop}(i:A.handled=none)
  (h:yL prog w A x (λv b=>∃e C d vs,v=.ref e/\K.In b.heap/\b.heap.get? e=some ⟨.ref C,d,.fields vs,#[]⟩/\vs[1]?=some .none/\En K C=true/\PySem.W.mroIn K C (.type "BaseException")=some true/\E (.ref e) b) E s) :
  yL prog w A (raiseStmt env (some x) none) Q E s:=by
 unfold raiseStmt;refine A_<|bU h (λv b h1=>?_) λ_ _ z=>z;obtain⟨e,C,d,vs,rfl,X,he,h1,hc,hm,k⟩:=h1;obtain⟨I,p,N,G,B,n,o,sub,y,r,dd,t,J,O,k3,u,j,_⟩:=J9 X hc;obtain⟨hp,g,q,F,os⟩:=b;have c:PySem.W.Looks (model prog w) hp (typeOf<|.ref e) (.ref C):=(dD he).andThen .now;have m:PySem.W.Looks (model prog w) hp (typeOf<|.ref C) (.type "type"):=(dD j).andThen .now;have f:PySem.W.Looks (model prog w) hp (isType<|.ref e) false:=(dD he).andThen .now;have l:PySem.W.Looks (model prog w) hp (isInstance (.ref e)<|.type "BaseException") true:=c.andThen<|fC X hm;refine A_<|C_ ?_;refine A_<|bM ?_;unfold excFromValue isExcClass;refine A_<|A_<|f.at<|C_ ?_;rw[H_<|by decide];refine A_<|l.at ?_;rw[P_ rfl];refine C_ ?_;refine A_<|f.at ?_;dsimp only;rw[H_<|by decide];unfold raisedInstance;refine A_<|A_<|c.at<|A_<|m.at ?_;rw[P_<|by decide];refine C_ ?_;unfold setFlight;refine A_<|A_<|aH he rfl h1 ?_;rw[H_<|by decide];exact C_<|wpAny_raiseNew_none i k
def Qv{ex:lQ}{b:Pos}{Q:Flow->lK->Prop}(f:A.handled=none)
  (h:yL prog w A (eval ex env) (λv c=>∃e C d vs,v=.ref e/\K.In c.heap/\c.heap.get? e=some ⟨.ref C,d,.fields vs,#[]⟩/\vs[1]?=some .none/\En K C=true/\PySem.W.mroIn K C (.type "BaseException")=some true/\E (.ref e) c) E s) :
  yL prog w A (exec (.Raise (some ex) none b) env) Q E s:=by
 rw[arm_exec_Raise];refine A_<|fU ?_;show yL prog w A (raiseStmt env (some<|do let v <- eval ex env;standAt b;pure v) none) Q E s;refine Xp (K:=K) f<|A_<|bU h (λv c h1=>A_<|fU<|C_ h1) λ_ _ z=>z
def XR(e C:lM)(d:oB lM):HO:=.ext λh=>∃vs:oC lJ,h.get? e=some ⟨.ref C,d,.fields vs,#[]⟩/\vs.size=6
def Xq{P:lO}{w:lP}{H:Hp}{h:lS}{e C:lM}{d:oB lM}{vs:oC lJ}(hx:h.get? e=some ⟨.ref C,d,.fields vs,#[]⟩)(b:vs.size=6):Bh P w H h e (XR e C d) :=
 ⟨⟨vs,hx,b⟩,⟨_,hx⟩,by rintro _ _ ⟨vs,p,q⟩ k;exact ⟨vs,k _ p,q⟩⟩
def My(P:lO)(w:lP):CXT:=λouter H s E e b=>∃a C d c,e=.ref a/\b.os=s.os/\AllBare b.gens/\Un (frs outer) [] H c s.heap b.heap/\HOk P w c b.heap/\(∃vs,ExcRec b.heap a (.ref C) d vs)/\c a=some (XR a C d)/\E (.ref C) (some a) c
def Inv.left(I:Inv X aa σ H s)(hx:H a=some (XR a C d))(L:LeftBy (frs X.stack) a (.ref C) d s.heap h'):Inv X aa σ H {s with heap:=h'}:=by
 have f:∀b u,H b=some u->b∉frs X.stack:=λb u q z=>by rw[I.stkFree b z]at q;cases q
 obtain⟨vs,R,_⟩:=id L.rc;have h:Un (frs X.stack) [] H H s.heap h':=by refine⟨λb o q n hb _=>L.keep b o hb (λz=>by rw[z,hx]at n;cases n) q,λb o q n hb _=>L.slot b o hb q,λ_ _ _ n _=>n,λb o q _=>?_,λ_ _ q=>q,λ_ _ _ q=>q,λ_ i q=>⟨#[],by rw[q];simp⟩⟩;by_cases h1:b∈frs X.stack;obtain⟨j,g⟩:=L.slot b o h1 q;exact⟨_,g⟩;by_cases h2:b=a;subst h2;exact⟨_,R.at_⟩;exact⟨o,L.keep b o h1 h2 q⟩
 refine I.call (ch:=[]) (g':=s.gens) (d':=s.drawn) (t':=s.toks) h (λb u q=>?_) I.bare (λb z=>absurd z<|by simp);by_cases hb:b=a;subst hb;rw[hx]at q;cases q;exact Xq R.at_ R.six;refine(I.hok b u q).stay (λc v hc r=>L.keep c v ?_ ?_ r) (λ_ q=>q) λ_ _ q=>q;rcases hc with rfl|hc;exact f _ _ q;exact f _ _ hc;rintro rfl;rcases hc with z|hc;exact hb z.symm;rw[hx]at hc;cases hc
def Up(X:Cx)(b:XK):Prop:=∀(aa:oA<|lM×lT) (σ:St) (H:Hp) (s:lK) (a C:lM) (d:oB lM) (vs:oC lJ),Inv X aa σ H s->H a=some (XR a C d)->ExcRec s.heap a (.ref C) d vs->b (.ref C) (some a) H->X.xe (.ref a) s
def Up.passes{j k:XK}(h:Up X j)(i:∀c d H,k c d H->j c d H):Passes (My X.prog X.w) X k:=by rintro aa σ H s e o I ⟨a,C,d,m,rfl,os,f,n,g,⟨vs,R⟩,hx,l⟩;exact h aa σ m o a C d vs (I.call' os n g f λb z=>absurd z<|by simp) hx R<|i _ _ _ l
def DI{P:lO}{w:lP}{K:lN}{mg:Str->oB lJ}{base:lS}{N:oA Str}{c:Str}{b:lX}{f:lM}{g:lJ}{A:lR}{outer:oA Env}{s:lK}{H:Hp}{E:XK} :
  Up (Fv (My P w) P w K mg base N c b f g A outer s H E) E:=by
 intro aa σ i j a C d vs I hx R h;show yL P w _ («leaving» (envOfC c b s.heap.objs.size f g)<|.ref a) _ _ j;refine Xo (base:=base) (outer:=outer) I.ok.frames I.stack rfl R λh' L=>?_;have J:=I.left hx L;obtain⟨k,l,_⟩:=L.rc;exact⟨a,C,d,i,rfl,J.os,J.bare,J.base,J.hok,⟨k,l⟩,hx,h⟩
def Ji{h:lS}{T:lM}{c:lT}{ts:oC lJ}(i:h.get? T=some c)(f:c.data=.fields ts)(g:ts[3]?=some .none) :
  ∀b o,h.get? b=some o->(h.update T<|Obj.mapFields (·.setIfInBounds 3 Value.none)).get? b=some o:=by
 have l:3<ts.size:=(dJ.mp g).1;have j:(h.update T<|Obj.mapFields (·.setIfInBounds 3 Value.none)).get? T=some c:=by
  have q:=Y_ (Obj.mapFields (·.setIfInBounds 3 Value.none)) i<|cW<|aY f _;rw[q,Sa f];have:ts.setIfInBounds 3 Value.none=ts:=by apply Array.ext_getElem?;intro k;rw[aQ];by_cases hk:3=k;subst hk;rw[P_ rfl,P_ l,g];rw[H_ hk]
  rw[this,<- f]
 intro b o q;by_cases hb:T=b;subst hb;rw[j,<- q,i];rw[aD _ _ hb];exact q
def Lx{Q:Unit->lK->Prop}(n:A.frames=some (env::outer))(m:s.heap.FunFrames base<|env::outer)(i:env.frame=some L)(R:ExcRec s.heap e cls d vs)
  (h:∀h',LeftBy (frs<|env::outer) e cls d s.heap h'->Q () {s with heap:=h'}):wpAny M A (noteFrame (.ref e) env) (λ_ g=>wpAny M A (setFlight (.ref e) none) Q E g) E s:=by
 unfold noteFrame;simp only[i];rcases R.tb with h1|⟨T,J,ts,h1,F,l,j,k⟩;refine A_<|aH R.at_ rfl h1 ?_;rw[H_<|by decide];exact Ek n m i R.at_ R.six R.cx h
 ·refine A_<|aH R.at_ rfl h1 ?_;rw[P_<|by simp];refine A_<|aH l j k ?_;rw[H_<|by simp[rawInt]];have y:3<ts.size:=(dJ.mp k).1;refine A_<|bI l j y ?_;have f:=Ji l j k;refine Ek (s:={s with heap:=s.heap.update T<|Obj.mapFields (·.setIfInBounds 3 Value.none)}) n (m.of_keeps λb o q _=>⟨o,f b o q,rfl⟩) i (f _ _ R.at_) R.six (R.cx.imp λ_ c=>c.same f) λh' ⟨p,I,x,B,u⟩=>h h' ⟨?_,λb o hb v q=>I b o hb v<|f b o q,λb o hb q=>x b o hb<|f b o q,B,?_⟩;rw[dC]at p;exact p
  ·obtain⟨r,G,t⟩:=u;refine⟨r,G,?_⟩;cases z:s.heap.get? r with
   |none=>rfl
   |some o=>rw[f _ _ z]at t;cases t
def Ly{Q:Unit->lK->Prop}(R:ExcRec s.heap e cls d vs)(h:∀h',(∀b o,s.heap.get? b=some o->h'.get? b=some o)->Q () {s with heap:=h'}):wpAny M A (setFlight (.ref e) none) Q E s:=by unfold setFlight;rcases R.tb with h1|⟨T,j,ts,h1,i,f,g,c⟩;refine A_<|aH R.at_ rfl h1 ?_;rw[H_<|by decide];exact C_<|h _ λ_ _ q=>q;refine A_<|aH R.at_ rfl h1 ?_;rw[P_<|by simp];exact bI f g (dJ.mp c).1<|h _<|Ji f g c
def Jj{b:Bool}{Q:Bool->lK->Prop}(X:K.In s.heap)(j:En K D=true)(he:s.heap.get? e=some ⟨.ref C,d,.fields vs,#[]⟩)(hb:PySem.W.mroIn K D (.type "BaseException")=some true)
  (hm:PySem.W.mroIn K C (.ref D)=some b) (h:Q b s):yL prog w A (excMatches (.ref e)<|.ref D) Q E s:=by
 obtain⟨z,o,N,y,v,m,n,sub,u,q,dd,r,B,F,k3,t,c,_⟩:=J9 X j;obtain⟨hp,g,p,x,os⟩:=s;have f:PySem.W.Looks (model prog w) hp (typeOf<|.ref e) (.ref C):=(dD he).andThen .now;have l:PySem.W.Looks (model prog w) hp (typeOf<|.ref D) (.type "type"):=(dD c).andThen .now;have k:PySem.W.Looks (model prog w) hp (isType<|.ref D) true:=(dD c).andThen .now;have i:isSubtype (.type "type") (.type "tuple")=pure false:=isSubtype_of_subB rfl;unfold excMatches isExcClass isInstance;refine A_<|A_<|l.at ?_;rw[i];refine C_ ?_;rw[H_<|by decide];refine A_<|C_ ?_;simp only[List.forIn_cons,List.forIn_nil];refine A_<|A_<|A_<|A_<|k.at ?_;rw[P_ rfl];refine(fC X hb).at ?_;simp only[Bool.not_true,Bool.false_eq_true,if_false];refine C_ ?_;refine C_ ?_;refine A_<|f.at ?_;refine A_<|A_<|A_<|(fC X hm).at ?_;cases b with
 |true=>simp only[if_true];exact C_ (C_<|C_ h)
 |false=>simp only[Bool.false_eq_true,if_false];exact C_<|C_<|C_ h
def Inv.retype{a:lM}{φ:lS->Prop}{o:HO}(I:Inv X aa σ H s)(q:H a=some (.ext φ))(b:Bh X.prog X.w (upd H a o) s.heap a o):Inv X aa σ (upd H a o) s :=
 I.write (x:=a) (e:=a) (t':=s.toks) (h':=s.heap) (by rw[q];exact True.intro) (.inl rfl) (λ_ _ _ z=>z) (by obtain⟨_,q,_⟩:=(show Bh X.prog X.w H s.heap a (.ext φ) from I.hok a _ q);exact q) b
def KA(K:lN)(c:XK)(te:TE):TS:=λ_ σ H=>te σ H λx b=>∃a C t d,x=.ref a/\b a=some (XO a C t d)/\En K C=true/\PySem.W.mroIn K C (.type "BaseException")=some true/\c (.ref C) (some a) (upd b a<|XR a C d)
def Oj{ex:lQ}{c:Pos}{te:TE}{g:XK}(hc:X.calm=true)(hx:Up X g)(he:PE X ex te):PS X (.Raise (some ex) none c) (KA X.K g te):=by intro aa s σ H D I h;refine Qv (K:=X.K) (I.ok.hd hc)<|thn (he aa s σ H _ I h) λv l j=>?_;obtain⟨x,n,f,r,a,C,t,d,ex,ha,i,m,k⟩:=j;subst ex;obtain rfl:v=Value.ref a:=r;have b:=Qu f.hok ha;exact⟨a,C,d,_,rfl,f.kIn,b,rfl,i,m,hx aa σ _ l a C d _ (f.retype ha<|Xq b rfl) A3 ⟨b,rfl,.inl rfl,[],.nil b rfl rfl⟩ k⟩
abbrev Cx.suite(X:Cx)(e:lM):Cx:={X with A:=X.A.mark<|some<|.ref e,calm:=false,xe:=λ_ _=>False}
def Inv.suite{e:lM}(I:Inv X aa σ H s):Inv (X.suite e) aa σ H s :=
 ⟨⟨I.ok.mod,I.ok.kind,I.ok.glob,I.ok.blt,I.ok.above,I.ok.inj,I.ok.has,I.ok.cab,λz=>(nomatch z),I.ok.frames,I.ok.stk,I.ok.exf,I.ok.bs,I.ok.bsz,I.ok.noex,I.ok.exfs,I.ok.funs,I.ok.frf⟩,I.os,I.bare,I.base,I.loc,I.cell,I.free,I.freeC,I.pin,I.hok,I.len⟩
def Inv.unsuite{e:lM}(ok:X.Ok)(I:Inv (X.suite e) aa σ H s):Inv X aa σ H s:=⟨ok,I.os,I.bare,I.base,I.loc,I.cell,I.free,I.freeC,I.pin,I.hok,I.len⟩
abbrev Cx.taking(X:Cx)(xe:lJ->lK->Prop)(pn:oA<|lM×lT):Cx:={X with xe:=xe,pn:=pn}
def Inv.take{xe:lJ->lK->Prop}(I:Inv X aa σ H s):Inv (X.taking xe<|X.pn++aa) [] σ H s :=
 ⟨⟨I.ok.mod,I.ok.kind,I.ok.glob,I.ok.blt,I.ok.above,I.ok.inj,I.ok.has,I.ok.cab,I.ok.hd,I.ok.frames,I.ok.stk,I.ok.exf,I.ok.bs,I.ok.bsz,I.ok.noex,I.ok.exfs,I.ok.funs,I.ok.frf⟩,I.os,I.bare,I.base,I.loc,I.cell,I.free,I.freeC,λp hp=>I.pin p<|by rw[cH]at hp;exact hp,I.hok,I.len⟩
def Inv.untake{xe:lJ->lK->Prop}{b:oA<|lM×lT}(ok:X.Ok)(I:Inv (X.taking xe<|X.pn++aa) b σ H s):Inv X aa σ H s :=
 ⟨ok,I.os,I.bare,I.base,I.loc,I.cell,I.free,I.freeC,λp hp=>I.pin p<|aF _ hp,I.hok,I.len⟩
end
end L2
namespace L2
open PySem PySem.Spec PyProof.Rows
inductive AV where
 |D (d:lL)|R (a:lM)|C (ds:oA lL)|X (C:lM) (fs:oA<|Str×lL)
 deriving Inhabited
mutual
def Cano:lL->Bool
 |.int _=>true
 |.str _=>true
 |.tuple a=>Bz a
 |_=>false
def Bz:oA lL->Bool
 |[]=>true
 |x::a=>Cano x&&Bz a
end
structure KeyTree(d:lL):Prop where
 can:Cano d=true
 lay:d.canLay0=true
 dep:d.depth<=6
def V5(K:lN)(H:Hp)(a:lM)(xs:oA V):Prop :=
 (∃o,H a=some (.frz o<|.lst xs)) \/
  ∃(o:lT) (b:oC lJ) (n:Nat),K.lookup a=some o/\o.cls=.type "list" /\ o.dict=none/\o.data=.seq b n/\b.size<=sizeLine/\Vals xs b.toList
def V5.sq{K:lN}{H:Hp}{a:lM}{xs:oA V}(h:V5 K H a xs):Ei K H a xs:=by rcases h with⟨o,h⟩|h;exact .inl<|.inr ⟨o,h⟩;exact .inr h
def Lit:oA lL->Bool
 |.str _::_=>true
 |.tuple _::_=>true
 |_=>false
def Uq(K:lN)(H:Hp)(a:lM)(ds:oA lL)(xs:oA V):Prop :=
 H a=some (.tup xs)\/(Lit ds=true/\∃(o:lT) (b:oC lJ) (n:Nat),K.lookup a=some o/\o.cls=.type "tuple" /\ o.data=.seq b n/\b.size<=sizeLine/\Vals xs b.toList)
def Uq.sq{K:lN}{H:Hp}{a:lM}{ds:oA lL}{xs:oA V}(h:Uq K H a ds xs):Il K H a xs:=by rcases h with h|h;exact Il.of h;exact .inr h.2
mutual
def Dk(K:lN)(H:Hp):lL->V->Prop
 |.none,x=>x=.non
 |.bool b,x=>x=.bl b
 |.int i,x=>x=.int i
 |.str z,x=>x=.str z
 |.list d,x=>∃a c,x=.ref a/\V5 K H a c/\Ap K H d c
 |.tuple d,x=>∃a c,x=.ref a/\Uq K H a d c/\Ap K H d c
 |.dict _,_=>False
def Ap(K:lN)(H:Hp):oA lL->oA V->Prop
 |[],a=>a=[]
 |d::b,a=>∃x r,a=x::r/\Dk K H d x/\Ap K H b r
end
structure Kp(H H':Hp):Prop where
 t:∀b xs,H b=some (.tup xs)->H' b=some (.tup xs)
 f:∀b o u,H b=some (.frz o u)->H' b=some (.frz o u)
def Kp.refl{H:Hp}:Kp H H:=⟨λ_ _ h=>h,λ_ _ _ h=>h⟩
def Kp.trans{H g e:Hp}(a:Kp H g)(b:Kp g e):Kp H e:=⟨λc d h=>b.t c d<|a.t c d h,λc o u h=>b.f c o u<|a.f c o u h⟩
def Kp.new{H:Hp}{p:lM}(h:H p=none)(o:HO):Kp H (upd H p o) :=
 ⟨λb a e=>by rw[An<|Bw e h];exact e,λb c u e=>by rw[An<|Bw e h];exact e⟩
def Mt:HO->Prop
 |.lst _=>True
 |.dK _=>True
 |.dT _=>True
 |.dd _=>True
 |_=>False
def Kp.put{H:Hp}{p:lM}{a:HO}(h:H p=some a)(m:Mt a)(o:HO):Kp H (upd H p o) :=
 ⟨λb c e=>by rw[An<|N6 e h<|by intro z;subst z;exact m];exact e,λb d u e=>by rw[An<|N6 e h<|by intro z;subst z;exact m];exact e⟩
def V5.kp{K:lN}{H H':Hp}{a:lM}{xs:oA V}(S:Kp H H')(h:V5 K H a xs):V5 K H' a xs:=by rcases h with⟨o,h⟩|h;exact .inl ⟨o,S.f _ _ _ h⟩;exact .inr h
def Uq.kp{K:lN}{H H':Hp}{a:lM}{ds:oA lL}{xs:oA V}(S:Kp H H')(h:Uq K H a ds xs):Uq K H' a ds xs:=by rcases h with h|h;exact .inl<|S.t _ _ h;exact .inr h
section
variable {K:lN}{H H':Hp}{X:Cx}{a b c:lQ}{ta tb tc:AE}{pos:Pos}{rest:oA lQ}{tA kf:AT}{es:oA lQ}{t:AA}{k:Nat}{x:Str}{p:Pos}{e:lQ}{ij T:String}{r:AC}{o:lQ}{to:AE}{name:Str}{au ak:Pos}{m:AV->AC}
mutual
theorem Dk.kp(S:Kp H H'):∀(d:lL) (x:V),Dk K H d x->Dk K H' d x
 |.none,x,h=>by simp only[Dk]at h ⊢;exact h
 |.bool b,x,h=>by simp only[Dk]at h ⊢;exact h
 |.int i,x,h=>by simp only[Dk]at h ⊢;exact h
 |.str z,x,h=>by simp only[Dk]at h ⊢;exact h
 |.list g,x,h=>by simp only[Dk]at h ⊢;obtain⟨a,f,e,q,r⟩:=h;exact⟨a,f,e,q.kp S,Ap.kp S g f r⟩
 |.tuple g,x,h=>by simp only[Dk]at h ⊢;obtain⟨a,f,e,q,r⟩:=h;exact⟨a,f,e,q.kp S,Ap.kp S g f r⟩
 |.dict _,x,h=>by simp only[Dk]at h
theorem Ap.kp(S:Kp H H'):∀(ds:oA lL) (xs:oA V),Ap K H ds xs->Ap K H' ds xs
 |[],xs,h=>by simp only[Ap]at h ⊢;exact h
 |d::ds,xs,h=>by simp only[Ap]at h ⊢;obtain⟨x,r,e,h1,h2⟩:=h;exact⟨x,r,e,Dk.kp S d x h1,Ap.kp S ds r h2⟩
end
def Ce{i:Int}:Dk K H (.int i) (.int i):=by simp only[Dk]
def Lz{b:Bool}:Dk K H (.bool b) (.bl b):=by simp only[Dk]
def Qw{z:Str}:Dk K H (.str z) (.str z):=by simp only[Dk]
def Xr:Dk K H .none .non:=by simp only[Dk]
def Dk.int{x:V}{i:Int}(h:Dk K H (.int i) x):x=.int i:=by simp only[Dk]at h;exact h
def Dk.bl{x:V}{i:Bool}(h:Dk K H (.bool i) x):x=.bl i:=by simp only[Dk]at h;exact h
def Dk.str{x:V}{i:Str}(h:Dk K H (.str i) x):x=.str i:=by simp only[Dk]at h;exact h
def Dk.non{x:V}(h:Dk K H .none x):x=.non:=by simp only[Dk]at h;exact h
def Dk.tup{x:V}{ds:oA lL}(h:Dk K H (.tuple ds) x):∃a d,x=.ref a/\Uq K H a ds d/\Ap K H ds d:=by simp only[Dk]at h;exact h
def Dk.lst{x:V}{ds:oA lL}(h:Dk K H (.list ds) x):∃a d,x=.ref a/\V5 K H a d/\Ap K H ds d:=by simp only[Dk]at h;exact h
def Hf{a:lM}{xs:oA V}{ds:oA lL}(h:H a=some (.tup xs))(r:Ap K H ds xs):Dk K H (.tuple ds) (.ref a):=by simp only[Dk];exact⟨a,xs,rfl,.inl h,r⟩
def KB{a:lM}{xs:oA V}{ds:oA lL}(h:V5 K H a xs)(r:Ap K H ds xs):Dk K H (.list ds) (.ref a):=by simp only[Dk];exact⟨a,xs,rfl,h,r⟩
def Db:Ap K H [] []:=by simp only[Ap]
def Ci{d:lL}{ds:oA lL}{x:V}{xs:oA V}(h:Dk K H d x)(r:Ap K H ds xs):Ap K H (d::ds) (x::xs):=by simp only[Ap];exact⟨x,xs,rfl,h,r⟩
def Ap.cons{d:lL}{ds:oA lL}{xs:oA V}(h:Ap K H (d::ds) xs):∃x r,xs=x::r/\Dk K H d x/\Ap K H ds r:=by simp only[Ap]at h;exact h
def Ap.nil{xs:oA V}(h:Ap K H [] xs):xs=[]:=by simp only[Ap]at h;exact h
theorem Ap.length:∀{ds:oA lL} {xs:oA V},Ap K H ds xs->xs.length=ds.length
 |[],_,h=>by rw[h.nil];rfl
 |_::ds,_,h=>by obtain⟨x,r,rfl,_,h2⟩:=h.cons;rw[aX,aX,Ap.length h2]
theorem Ap.get:∀{ds:oA lL} {xs:oA V} {i:Nat} {d:lL},Ap K H ds xs->ds[i]?=some d->∃x,xs[i]?=some x/\Dk K H d x
 |[],_,_,_,_,e=>by simp at e
 |_::ds,_,0,d,h,e=>by obtain⟨x,r,rfl,h1,_⟩:=h.cons;simp at e;subst e;exact⟨x,rfl,h1⟩
 |_::ds,_,i+1,d,h,e=>by obtain⟨x,r,rfl,_,h2⟩:=h.cons;obtain⟨y,f,g⟩:=Ap.get (i:=i) (d:=d) h2 (by simpa using e);exact⟨y,by simpa using f,g⟩
theorem Ap.append:∀{ds es:oA lL} {xs ys:oA V},Ap K H ds xs->Ap K H es ys->Ap K H (ds++es) (xs++ys)
 |[],_,_,_,h,k=>by rw[h.nil];exact k
 |_::ds,_,_,_,h,k=>by obtain⟨x,r,rfl,h1,h2⟩:=h.cons;exact Ci h1<|Ap.append h2 k
theorem Ap.drop:∀(n:Nat) {ds:oA lL} {xs:oA V},Ap K H ds xs->Ap K H (ds.drop n) (xs.drop n)
 | 0,_,_,h=>h
 |_+1,[],_,h=>by rw[h.nil];exact Db
 |n+1,_::ds,_,h=>by obtain⟨x,r,rfl,_,h2⟩:=h.cons;exact Ap.drop n h2
theorem Ap.take:∀(n:Nat) {ds:oA lL} {xs:oA V},Ap K H ds xs->Ap K H (ds.take n) (xs.take n)
 | 0,_,_,_=>Db
 |_+1,[],_,h=>by rw[h.nil];exact Db
 |n+1,_::ds,_,h=>by obtain⟨x,r,rfl,h1,h2⟩:=h.cons;exact Ci h1<|Ap.take n h2
def Ap.cut{ds:oA lL}{xs:oA V}(h:Ap K H ds xs)(lo hi:oB Int):Ap K H (Jn ds lo hi) (La xs lo hi):=by unfold Jn La;rw[h.length];exact(h.drop _).take _
theorem Ap.atI{ds:oA lL}{xs:oA V}{i:Int}{d:lL}(h:Ap K H ds xs)(e:atI ds i=some d):∃x,L2.atI xs i=some x/\Dk K H d x:=by
 unfold L2.atI at e ⊢;rw[h.length];cases q:CN ds.length i with
 |none=>rw[q]at e;cases e
 |some j=>rw[q]at e;obtain⟨x,hx,f⟩:=h.get<|show ds[j]?=some d from e;exact⟨x,hx,f⟩
def Mz(K:lN)(H:Hp):oA (Str×lL)->oA (Str×V)->Prop:=Paired λp q=>p.1=q.1/\Dk K H p.2 q.2
def Mz.kp{d:oA<|Str×lL}{f:oA<|Str×V}(S:Kp H H')(h:Mz K H d f):Mz K H' d f:=Paired.mapP h λp q r=>⟨r.1,Dk.kp S _ _ r.2⟩
def XFs(K:lN)(H:Hp)(d:oB lM)(g:oA<|Str×lL):Prop:=match d with
 |none=>g=[]
 |some d=>∃h f,H d=some (.frz h<|XD d f)/\Mz K H g f
theorem XFs.kp{d:oB lM}{i:oA<|Str×lL}(S:Kp H H')(h:XFs K H d i):XFs K H' d i:=by
 cases d with
 |none=>exact h
 |some d=>obtain⟨j,g,q,r⟩:=h;exact⟨j,g,S.f _ _ _ q,r.kp S⟩
def RelA(K:lN)(H:Hp):AV->V->Prop
 |.D d,v=>Dk K H d v
 |.R a,v=>v=.ref a
 |.C h,v=>∃a f,v=.ref a/\(∀H,Il K H a f)/\Ap K H h f
 |.X C g,v=>∃a o d,v=.ref a/\H a=some (.frz o<|XR a C d)/\XFs K H d g
def C7{i:Int}:RelA K H (.D<|.int i) (.int i):=Ce (K:=K) (H:=H)
def Dp{i:Bool}:RelA K H (.D<|.bool i) (.bl i):=Lz (K:=K) (H:=H)
def Ka{i:Str}:RelA K H (.D<|.str i) (.str i):=Qw (K:=K) (H:=H)
def Hg:RelA K H (.D .none) .non:=Xr (K:=K) (H:=H)
def RelA.int{x:V}{i:Int}(h:RelA K H (.D<|.int i) x):x=.int i:=Dk.int (K:=K) (H:=H) h
def RelA.bl{x:V}{i:Bool}(h:RelA K H (.D<|.bool i) x):x=.bl i:=Dk.bl (K:=K) (H:=H) h
def RelA.str{x:V}{i:Str}(h:RelA K H (.D<|.str i) x):x=.str i:=Dk.str (K:=K) (H:=H) h
def RelA.non{x:V}(h:RelA K H (.D .none) x):x=.non:=Dk.non (K:=K) (H:=H) h
def RelA.tup{x:V}{ds:oA lL}(h:RelA K H (.D<|.tuple ds) x):∃a d,x=.ref a/\Uq K H a ds d/\Ap K H ds d:=Dk.tup (K:=K) (H:=H) h
def RelA.lst{x:V}{ds:oA lL}(h:RelA K H (.D<|.list ds) x):∃a d,x=.ref a/\V5 K H a d/\Ap K H ds d:=Dk.lst (K:=K) (H:=H) h
def RelA.ref{x:V}{a:lM}(h:RelA K H (.R a) x):x=.ref a:=h
def Ea{a:lM}:RelA K H (.R a) (.ref a):=rfl
def Ur{d:lL}{v:V}(h:Dk K H d v):RelA K H (.D d) v:=h
def M3{a:lM}{xs:oA V}{ds:oA lL}(h:H a=some (.tup xs))(r:Ap K H ds xs):RelA K H (.D<|.tuple ds) (.ref a):=Hf (K:=K) (H:=H) h r
abbrev A4(K:lN)(H:Hp):oA AV->oA V->Prop:=Paired<|RelA K H
theorem RelA.kp(S:Kp H H'):∀{x:AV} {v:V},RelA K H x v->RelA K H' x v
 |.D d,v,h=>Dk.kp S d v h
 |.R a,_,h=>h
 |.C i,v,⟨a,g,e,q,r⟩=>⟨a,g,e,q,Ap.kp S i g r⟩
 |.X C j,v,⟨a,o,d,e,q,r⟩=>⟨a,o,d,e,S.f _ _ _ q,r.kp S⟩
def A4.kp(S:Kp H H'){xs:oA AV}{d:oA V}(h:A4 K H xs d):A4 K H' xs d:=Paired.mapP h λ_ _ q=>q.kp S
def A4.length{xs:oA AV}{d:oA V}(h:A4 K H xs d):xs.length=d.length:=bL h
def A4.append{xs ys:oA AV}{d f:oA V}(h:A4 K H xs d)(s:A4 K H ys f):A4 K H (xs++ys) (d++f):=by
 induction h with
 |nil=>exact s
 |cons r t g=>exact .cons r g
theorem A4.get:∀{xs:oA AV} {d:oA V} {i:Nat} {x:AV},A4 K H xs d->xs[i]?=some x->∃u,d[i]?=some u/\RelA K H x u
 |_,_,_,_,.nil,e=>by simp at e
 |_,_,0,_,.cons r _,e=>by simp at e;subst e;exact⟨_,rfl,r⟩
 |_,_,i+1,x,.cons _ t,e=>by obtain⟨u,h1,h2⟩:=A4.get (i:=i) (x:=x) t (by simpa using e);exact⟨u,by simpa using h1,h2⟩
theorem A4.drop:∀{xs:oA AV} {d:oA V} (n:Nat),A4 K H xs d->A4 K H (xs.drop n) (d.drop n)
 |_,_,0,r=>r
 |_,_,_+1,.nil=>.nil
 |_,_,n+1,.cons _ t=>A4.drop n t
theorem A4.take:∀{xs:oA AV} {d:oA V} (n:Nat),A4 K H xs d->A4 K H (xs.take n) (d.take n)
 |_,_,0,_=>.nil
 |_,_,_+1,.nil=>.nil
 |_,_,n+1,.cons r t=>.cons r<|A4.take n t
theorem A4.dropLast{xs:oA AV}{d:oA V}(h:A4 K H xs d):A4 K H xs.dropLast d.dropLast:=by
 induction h with
 |nil=>exact .nil
 |cons r t f=>
  cases t with
  |nil=>exact .nil
  |cons g t=>exact .cons r f
def A4.rev{xs:oA AV}{d:oA V}(h:A4 K H xs d):A4 K H xs.reverse d.reverse:=by
 induction h with
 |nil=>exact .nil
 |cons r t f=>rw[iR,iR];exact f.append<|.cons r .nil
def Jo(xs:oA AV)(lo hi:oB Int):oA AV:=(xs.drop<|HT.sIx xs.length 0 lo).take<|HT.sIx xs.length xs.length hi-HT.sIx xs.length 0 lo
def A4.cut{xs:oA AV}{d:oA V}(h:A4 K H xs d)(lo hi:oB Int):A4 K H (Jo xs lo hi) (La d lo hi):=by unfold Jo La;rw[h.length];exact(h.drop _).take _
theorem A4.atI{xs:oA AV}{d:oA V}{i:Int}{x:AV}(h:A4 K H xs d)(e:atI xs i=some x):∃u,L2.atI d i=some u/\RelA K H x u:=by
 unfold L2.atI at e ⊢;rw[<- h.length];cases q:CN xs.length i with
 |none=>rw[q]at e;cases e
 |some j=>rw[q]at e;obtain⟨x,hx,f⟩:=h.get<|show xs[j]?=some x from e;exact⟨x,hx,f⟩
def dats:oA AV->oB (oA lL)
 |[]=>some []
 |.D d::r=>match dats r with
  |some f=>some (d::f)
  |none=>none
 |.R _::_=>none
 |.C _::_=>none
 |.X _ _::_=>none
@[simp] theorem dats_nil:dats []=some []:=rfl
theorem Cu:∀(ds:oA lL),dats (ds.map .D)=some ds
 |[]=>rfl
 |d::ds=>by simp only[List.map_cons,dats,Cu ds]
theorem Js:∀{xs:oA AV} {ds:oA lL},dats xs=some ds->xs=ds.map .D
 |[],ds,h=>by cases h;rfl
 |.D d::r,ds,h=>by
  simp only[dats]at h;cases q:dats r with
  |none=>rw[q]at h;cases h
  |some es=>rw[q]at h;cases h;rw[Js q];rfl
 |.R _::_,_,h=>by simp[dats]at h
 |.C _::_,_,h=>by simp[dats]at h
 |.X _ _::_,_,h=>by simp[dats]at h
theorem A4.dk:∀{ds:oA lL} {d:oA V},A4 K H (ds.map .D) d->Ap K H ds d
 |[],_,h=>by cases h;exact Db
 |_::_,_,h=>by
  rw[a_]at h;cases h with
  |cons r t=>exact Ci r<|A4.dk t
theorem Ap.rel:∀{ds:oA lL} {d:oA V},Ap K H ds d->A4 K H (ds.map .D) d
 |[],_,h=>by rw[h.nil];exact .nil
 |_::_,_,h=>by obtain⟨x,r,rfl,h1,h2⟩:=h.cons;exact .cons h1<|Ap.rel h2
def A4.dats{xs:oA AV}{d:oA V}{ds:oA lL}(h:A4 K H xs d)(e:dats xs=some ds):Ap K H ds d:=by rw[Js e]at h;exact h.dk
inductive MO where
 |lst (xs:oA AV)|dk (kvs:oA<|Key×AV)|dt (kvs:oA<|oA Key×AV)|dd (kvs:oA<|lL×AV)
abbrev M:=lM->oB MO
def Ao(d:M)(a:lM)(m:MO):M:=λb=>if b=a then some m else d b
def Ab{d:M}{a:lM}{m:MO}:Ao d a m a=some m:=by unfold Ao;rw[P_ rfl]
def Ag{d:M}{a b:lM}{m:MO}(h:b≠a):Ao d a m b=d b:=by unfold Ao;rw[H_ h]
def Bk{d:M}{a:lM}{m n:MO}:Ao (Ao d a m) a n=Ao d a n:=by funext b;unfold Ao;split<;>rfl
def E2{d:Type}(K:lN)(H:Hp):oA (d×AV)->oA (d×V)->Prop:=Paired λp q=>p.1=q.1/\RelA K H p.2 q.2
def E2.kp{f:Type}(S:Kp H H'){xs:oA<|f×AV}{d:oA<|f×V}(h:E2 K H xs d):E2 K H' xs d:=Paired.mapP h λ_ _ q=>⟨q.1,q.2.kp S⟩
def DJ(K:lN)(H:Hp):oA (lL×AV)->oA (lL×lM×lJ)->Prop:=Paired λp q=>p.1=q.1/\KeyTree p.1/\Dk K H p.1 (.ref q.2.1)/\∃v,RelA K H p.2 v/\Bf v q.2.2
def DJ.kp(S:Kp H H'){xs:oA<|lL×AV}{d:oA<|lL×lM×lJ}(h:DJ K H xs d):DJ K H' xs d:=Paired.mapP h<|by rintro _ _ ⟨a,b,c,v,r,q⟩;exact ⟨a,b,Dk.kp S _ _ c,v,r.kp S,q⟩
def Jp(K:lN)(H:Hp):MO->HO->Prop
 |.lst g,o=>∃f,o=.lst f/\A4 K H g f
 |.dk d,o=>∃f,o=.dK f/\E2 K H d f
 |.dt d,o=>∃f,o=.dT f/\E2 K H d f
 |.dd d,o=>∃g,o=.dd g/\DJ K H d g
theorem Jp.kp(S:Kp H H'){m:MO}{o:HO}(h:Jp K H m o):Jp K H' m o:=by
 cases m with
 |lst f=>obtain⟨d,e,r⟩:=h;exact⟨d,e,r.kp S⟩
 |dk f=>obtain⟨d,e,r⟩:=h;exact⟨d,e,r.kp S⟩
 |dt f=>obtain⟨d,e,r⟩:=h;exact⟨d,e,r.kp S⟩
 |dd f=>obtain⟨d,e,r⟩:=h;exact⟨d,e,r.kp S⟩
def Dh{xs:oA AV}{d:oA V}(h:A4 K H xs d):Jp K H (.lst xs) (.lst d):=⟨d,rfl,h⟩
def Cn(K:lN)(d:M)(H:Hp):Prop:=∀a m,d a=some m->∃o,H a=some o/\Jp K H m o
theorem Cn.none{d:M}{p:lM}(c:Cn K d H)(h:H p=none):d p=none:=by
 cases q:d p with
 |none=>rfl
 |some m=>obtain⟨o,e,_⟩:=c p m q;rw[h]at e;cases e
def Cn.over{d:M}{p:lM}{o:HO}(c:Cn K d H)(h:H p=Option.none):Cn K d (upd H p o):=λa m e=>by obtain⟨g,f,r⟩:=c a m e;exact⟨g,by rw[An<|Bw f h];exact f,r.kp<|Kp.new h o⟩
def Cn.new{d:M}{p:lM}{m:MO}{o:HO}(c:Cn K d H)(h:H p=Option.none)(r:Jp K H m o):Cn K (Ao d p m) (upd H p o):=λa f e=>by by_cases ha:a=p;subst ha;rw[Ab]at e;cases e;exact⟨o,A3,r.kp<|Kp.new h o⟩;rw[Ag ha]at e;exact c.over h a f e
def Cn.put{d:M}{p:lM}{m:MO}{o f:HO}(c:Cn K d H)(h:H p=some f)(hm:Mt f)(r:Jp K H m o):Cn K (Ao d p m) (upd H p o):=λa l e=>by by_cases ha:a=p;subst ha;rw[Ab]at e;cases e;exact⟨o,A3,r.kp<|Kp.put h hm o⟩;rw[Ag ha]at e;obtain⟨j,i,g⟩:=c a l e;exact⟨j,by rw[An ha];exact i,g.kp<|Kp.put h hm o⟩
def Sub(d f:M):Prop:=∀a m,d a=some m->f a=some m
def Sub.refl{d:M}:Sub d d:=λ_ _ h=>h
def Sub.trans{d f g:M}(h:Sub d f)(k:Sub f g):Sub d g:=λa m e=>k a m<|h a m e
def Sub.new{d g:M}{p:lM}{m:MO}(h:Sub d g)(e:d p=none):Sub d (Ao g p m):=λa i f=>by rw[Ag<|by intro z;subst z;rw[e]at f;cases f];exact h a i f
theorem Sub.none{d f:M}{p:lM}(h:Sub d f)(e:f p=none):d p=none:=by
 cases q:d p with
 |none=>rfl
 |some m=>rw[h p m q]at e;cases e
def Cn.sub{d f:M}(c:Cn K f H)(h:Sub d f):Cn K d H:=λa m e=>c a m<|h a m e
abbrev ASt:=oA<|oB AV
def L0(K:lN)(H:Hp)(a:oB AV)(b:oB V):Prop:=∀x,a=some x->∃v,b=some v/\RelA K H x v
abbrev Dq(K:lN)(H:Hp):ASt->St->Prop:=Paired<|L0 K H
def L0.kp{a:oB AV}{b:oB V}(S:Kp H H')(h:L0 K H a b):L0 K H' a b:=λx e=>by obtain⟨v,d,r⟩:=h x e;exact⟨v,d,r.kp S⟩
def Dq.kp{τ:ASt}{d:St}(S:Kp H H')(h:Dq K H τ d):Dq K H' τ d:=Paired.mapP h λ_ _ q=>q.kp S
theorem Dq.get:∀{τ:ASt} {d:St} {i:Nat} {x:AV},Dq K H τ d->τ[i]?=some (some x)->∃v,d[i]?=some (some v)/\RelA K H x v
 |_,_,_,_,.nil,e=>by simp at e
 |_,_,0,_,.cons r _,e=>by simp at e;subst e;obtain⟨v,rfl,q⟩:=r _ rfl;exact⟨v,rfl,q⟩
 |_,_,i+1,x,.cons _ t,e=>by obtain⟨u,h1,h2⟩:=Dq.get (i:=i) (x:=x) t (by simpa using e);exact⟨u,by simpa using h1,h2⟩
def Kc{x:AV}{v:V}(r:RelA K H x v):L0 K H (some x) (some v):=λy e=>by cases e;exact⟨v,rfl,r⟩
def Hh{b:oB V}:L0 K H none b:=λy e=>nomatch e
theorem Dq.set{x:AV}{v:V}(r:RelA K H x v):∀{τ:ASt} {d:St} (i:Nat),Dq K H τ d->Dq K H (τ.set i<|some x) (d.set i<|some v)
 |_,_,_,.nil=>.nil
 |_,_,0,.cons _ t=>.cons (Kc r) t
 |_,_,i+1,.cons q t=>.cons q<|Dq.set r i t
def D1(N:oA Str)(xs:oA AV):ASt:=xs.map some++List.replicate (N.length-xs.length) none
theorem Dq.rep:∀(n:Nat),Dq K H (List.replicate n none) (List.replicate n none)
 | 0=>.nil
 |n+1=>.cons Hh<|Dq.rep n
theorem Dq.somes:∀{xs:oA AV} {d:oA V},A4 K H xs d->Dq K H (xs.map some) (d.map some)
 |_,_,.nil=>.nil
 |_,_,.cons r t=>.cons (Kc r)<|Dq.somes t
def Dq.append{τ d:ASt}{g f:St}(h:Dq K H τ g)(s:Dq K H d f):Dq K H (τ++d) (g++f):=by
 induction h with
 |nil=>exact s
 |cons r t i=>exact .cons r i
def Dq.begin{N:oA Str}{xs:oA AV}{d:oA V}(h:A4 K H xs d):Dq K H (D1 N xs) (start N d):=by unfold D1 start;rw[h.length];exact(Dq.somes h).append<|Dq.rep _
def KC(mp:oA<|oB Nat)(τ:ASt):ASt:=mp.map λo=>match o with
 |none=>none
 |some j=>match τ[j]? with
  |some x=>x
  |none=>none
theorem Dq.sub{τ:ASt}{d:St}(h:Dq K H τ d):∀(mp:oA<|oB Nat),Dq K H (KC mp τ) (Of mp d)
 |[]=>.nil
 |none::mp=>.cons Hh (Dq.sub h mp)
 |some j::mp=>by
  refine .cons (λx e=>?_)<|Dq.sub h mp;have f:τ[j]?=some (some x):=by
   dsimp only at e;cases q:τ[j]? with
   |none=>rw[q]at e;cases e
   |some y=>rw[q]at e;exact bV some e
  obtain⟨v,hv,r⟩:=h.get f;refine⟨v,?_,r⟩;show(d[j]?).join=some v;rw[hv];rfl
abbrev AE:=ASt->M->(AV->M->Prop)->Prop
abbrev AT:=ASt->M->(Bool->M->Prop)->Prop
abbrev AA:=ASt->M->(oA AV->M->Prop)->Prop
abbrev AO:=ASt->M->(oB Int->M->Prop)->Prop
abbrev AS:=(ASt->M->Prop)->(AV->M->Prop)->(ASt->M->Prop)->(ASt->M->Prop)->ASt->M->Prop
abbrev AG:=AV->ASt->M->(ASt->M->Prop)->Prop
abbrev AGs:=oA AV->ASt->M->(ASt->M->Prop)->Prop
abbrev A2:=AV->AV->M->(AV->M->Prop)->Prop
abbrev AC:=oA AV->M->(AV->M->Prop)->Prop
@[irreducible] def brP (b:Bool) (T F:Prop):Prop:=match b with
 |true=>T
 |false=>F
@[irreducible] def opt {d:Type} (o:oB d) (k:d->Prop):Prop:=match o with
 |some x=>k x
 |none=>False
def br{b:Bool}{T F:Prop}(h1:b=true->T)(h2:b=false->F):brP b T F:=by
 unfold brP;cases b with
 |true=>exact h1 rfl
 |false=>exact h2 rfl
def L3{b:Bool}{T F:Prop}(hb:b=true)(h:T):brP b T F:=by subst hb;unfold brP;exact h
def Kd{b:Bool}{T F:Prop}(hb:b=false)(h:F):brP b T F:=by subst hb;unfold brP;exact h
def Xs{T F:Prop}:brP true T F=T:=by unfold brP;rfl
def br_e{b:Bool}{T F:Prop}(h:brP b T F):(b=true/\T)\/(b=false/\F):=by
 unfold brP at h;cases b with
 |true=>exact .inl ⟨rfl,h⟩
 |false=>exact .inr ⟨rfl,h⟩
def Ac{d:Type}{o:oB d}{x:d}{k:d->Prop}(h:o=some x)(q:k x):opt o k:=by subst h;unfold opt;exact q
def A5{d:Type}{o:oB d}{k:d->Prop}(h:opt o k):∃x,o=some x/\k x:=by
 unfold opt at h;cases o with
 |none=>exact h.elim
 |some x=>exact⟨x,rfl,h⟩
def dif{p:Prop} [Decidable p]{T F:Prop}(h1:p->T)(h2:¬p->F):brP (decide p) T F:=br (λh=>h1<|aC h) λh=>h2<|eI h
def LV(K:lN)(H:Hp)(R:AV->M->Prop)(Q:VK):Prop:=∀x d v H',Kp H H'->Cn K d H'->RelA K H' x v->R x d->Q v H'
def LB(K:lN)(H:Hp)(R:Bool->M->Prop)(Q:Bool->Hp->Prop):Prop:=∀b d H',Kp H H'->Cn K d H'->R b d->Q b H'
def LA(K:lN)(n:Nat)(H:Hp)(R:oA AV->M->Prop)(Q:oA V->Hp->Prop):Prop:=∀d f g H',Kp H H'->Cn K f H'->A4 K H' d g->d.length=n->R d f->Q g H'
def LO(K:lN)(H:Hp)(R:oB Int->M->Prop)(Q:oB Int->Hp->Prop):Prop:=∀b d H',Kp H H'->Cn K d H'->R b d->Q b H'
def LS(K:lN)(H:Hp)(R:ASt->M->Prop)(Q:St->Hp->Prop):Prop:=∀ g d f H',Kp H H'->Dq K H' g f->Cn K d H'->R g d->Q f H'
def LV.kp{K:lN}{H H':Hp}{R:AV->M->Prop}{Q:VK}(h:LV K H R Q)(S:Kp H H'):LV K H' R Q:=λx d v f g=>h x d v f<|S.trans g
def LB.kp{K:lN}{H H':Hp}{R:Bool->M->Prop}{Q:Bool->Hp->Prop}(h:LB K H R Q)(S:Kp H H'):LB K H' R Q:=λx d f g=>h x d f<|S.trans g
def LS.kp{K:lN}{H H':Hp}{R:ASt->M->Prop}{Q:St->Hp->Prop}(h:LS K H R Q)(S:Kp H H'):LS K H' R Q:=λx d v f g=>h x d v f<|S.trans g
structure LE'(K:lN)(H:Hp)(k:ASt->M->Prop)(r:AV->M->Prop)(b c:ASt->M->Prop)(D:Ends):Prop where
 nx:LS K H k D.nx
 rt:LV K H r D.rt
 bk:LS K H b D.bk
 ct:LS K H c D.ct
def LE'.kp{K:lN}{H H':Hp}{k:ASt->M->Prop}{r:AV->M->Prop}{b c:ASt->M->Prop}{D:Ends}(h:LE' K H k r b c D)(S:Kp H H'):LE' K H' k r b c D:=⟨h.nx.kp S,h.rt.kp S,h.bk.kp S,h.ct.kp S⟩
def cE(K:lN)(t:AE):TE:=λg H Q=>∃ f d R,Dq K H f g/\Cn K d H/\t f d R/\LV K H R Q
def cT(K:lN)(t:AT):TT:=λg H Q=>∃ f d R,Dq K H f g/\Cn K d H/\t f d R/\LB K H R Q
def cA(K:lN)(n:Nat)(t:AA):TA:=λg H Q=>∃ f d R,Dq K H f g/\Cn K d H/\t f d R/\LA K n H R Q
def cO(K:lN)(t:AO):TO:=λg H Q=>∃ f d R,Dq K H f g/\Cn K d H/\t f d R/\LO K H R Q
def cS(K:lN)(t:AS):TS:=λD g H=>∃ f d k r b c,Dq K H f g/\Cn K d H/\t k r b c f d/\LE' K H k r b c D
def cG(K:lN)(t:AG):TG:=λv g H Q=>∃x f d R,RelA K H x v/\Dq K H f g/\Cn K d H/\t x f d R/\LS K H R Q
def cGs(K:lN)(t:AGs):TGs:=λi h H Q=>∃f g d R,A4 K H f i/\Dq K H g h/\Cn K d H/\t f g d R/\LS K H R Q
def cR(K:lN)(r:A2):R2:=λx y H Q=>∃a b d R,RelA K H a x/\RelA K H b y/\Cn K d H/\r a b d R/\LV K H R Q
def cC(K:lN)(r:AC):oA V->Hp->VK->Prop:=λf H Q=>∃as d R,A4 K H as f/\Cn K d H/\r as d R/\LV K H R Q
def cM(K:lN)(r:AV->AC):V->oA V->Hp->VK->Prop:=λx f H Q=>∃a as d R,RelA K H a x/\A4 K H as f/\Cn K d H/\r a as d R/\LV K H R Q
def VE(X:Cx)(e:lQ)(t:AE):Prop:=PE X e<|cE X.K t
def VT(X:Cx)(e:lQ)(t:AT):Prop:=PT X e<|cT X.K t
def VW(X:Cx)(e:lQ)(t:AT):Prop:=PW X e<|cT X.K t
def VA(X:Cx)(es:oA lQ)(t:AA):Prop:=PA X es<|cA X.K es.length t
def VO(X:Cx)(e:oB lQ)(t:AO):Prop:=PO X e<|cO X.K t
def VS(X:Cx)(st:lU)(t:AS):Prop:=PS X st<|cS X.K t
def VSs(X:Cx)(st:oA lU)(t:AS):Prop:=PSs X st<|cS X.K t
def VG(X:Cx)(e:lQ)(t:AG):Prop:=PG X e<|cG X.K t
def VGs(X:Cx)(es:oA lQ)(t:AGs):Prop:=PGs X es<|cGs X.K t
def VOp(X:Cx)(f:lJ->lJ->Sem lJ)(r:A2):Prop:=Gm X f<|cR X.K r
def VIx(X:Cx)(r:A2):Prop:=RB X<|cR X.K r
def VCall(X:Cx)(f:lJ)(r:AC):Prop:=Fl X f<|cC X.K r
def VMt(X:Cx)(id:String)(r:AV->AC):Prop:=GJ X id<|cM X.K r
def PE.imp{e:lQ}{t u:TE}(h:PE X e t)(i:∀ d H Q,u d H Q->t d H Q):PE X e u:=λf s d H Q I q=>h f s d H Q I<|i d H Q q
def PT.imp{e:lQ}{t u:TT}(h:PT X e t)(i:∀ d H Q,u d H Q->t d H Q):PT X e u:=λf s d H Q I q=>h f s d H Q I<|i d H Q q
def PW.imp{e:lQ}{t u:TT}(h:PW X e t)(i:∀ d H Q,u d H Q->t d H Q):PW X e u:=λf g s d H Q I q=>h f g s d H Q I<|i d H Q q
def PA.imp{e:oA lQ}{t u:TA}(h:PA X e t)(i:∀ d H Q,u d H Q->t d H Q):PA X e u:=λpos f s d H Q I q=>h pos f s d H Q I<|i d H Q q
def PO.imp{e:oB lQ}{t u:TO}(h:PO X e t)(i:∀ d H Q,u d H Q->t d H Q):PO X e u:=λf s d H Q I q=>h f s d H Q I<|i d H Q q
def PS.imp{e:lU}{t u:TS}(h:PS X e t)(i:∀D d H,u D d H->t D d H):PS X e u:=λf s d H D I q=>h f s d H D I<|i D d H q
def PSs.imp{e:oA lU}{t u:TS}(h:PSs X e t)(i:∀D d H,u D d H->t D d H):PSs X e u:=λf s d H D I q=>h f s d H D I<|i D d H q
def PG.imp{e:lQ}{t u:TG}(h:PG X e t)(i:∀v d H Q,u v d H Q->t v d H Q):PG X e u:=λf s d H v w Q I r q=>h f s d H v w Q I r<|i v d H Q q
def PGs.imp{e:oA lQ}{t u:TGs}(h:PGs X e t)(i:∀v d H Q,u v d H Q->t v d H Q):PGs X e u:=λf s d H v w Q I r q=>h f s d H v w Q I r<|i v d H Q q
def Qx(i:Nat):AE:=λf d R=>match f[i]? with
 |some (some x)=>R x d
 |_=>False
def Xt{K:lN}{i:Nat}{d:St}{H:Hp}{Q:VK}(h:cE K (Qx i) d H Q):ID i d H Q:=by obtain⟨l,j,R,g,hc,h,hq⟩:=h;unfold Qx at h;split at h;rename_i x e;obtain⟨v,f,r⟩:=g.get e;exact⟨v,f,hq _ _ _ _ Kp.refl hc r h⟩;exact h.elim
def vv(i:Nat){x:Str}{pos:Pos}(f:X.N[i]?=some x:=by rfl)(hv:Vis X.env.scope x:=by first|exact Or.inl rfl|exact Or.inr (Or.inl rfl)|exact Or.inr<|Or.inr rfl)(g:(x==("__debug__" : Str))=false:=by decide)
  (d:(x==("__classdict__" : Str))=false:=by decide):VE X (.Name x pos) (Qx i):=(V9 f hv g d).imp λ_ _ _ h=>Xt h
def vC(x:AV):AE:=λ_ d R=>R x d
def Fy{e:lQ}{v:V}{d:lL}(h:PE X e<|tC v)(r:∀H,Dk X.K H d v):VE X e (vC<|.D d):=h.imp λi H Q f=>B5 f λl g R j hc h hq=>hq _ _ _ _ Kp.refl hc (Ur<|r H) h
def Ah{i j pos}:VE X (.Constant (.int i) j pos) (vC<|.D<|.int i):=Fy IE λ_=>Ce
def E3{b j pos}:VE X (.Constant (.bool b) j pos) (vC<|.D<|.bool b):=Fy QG λ_=>Lz
def Hi{j pos}:VE X (.Constant .none j pos) (vC<|.D .none):=Fy IF λ_=>Xr
def Bt{x j pos}:VE X (.Constant (.str x) j pos) (vC<|.D<|.str x):=Fy Wa λ_=>Qw
def Fg{x:Str}{v:V}{u:lJ}{d:lL}{pos:Pos}(f:Gl X x)(hm:X.mg x=some u)(r:Bf v u)(g:∀H,Dk X.K H d v)(h1:(x==("__debug__" : Str))=false:=by decide):VE X (.Name x pos) (vC<|.D d):=Fy (BW f hm r h1) g
def OV(r:A2)(ta tb:AE):AE:=λg h R=>ta g h λx f=>tb g f λy d=>r x y d R
def Jt{K:lN}{r:A2}{ta tb:AE}{g:St}{H:Hp}{Q:VK}(h:cE K (OV r ta tb) g H Q):QP (cR K r) (cE K ta) (cE K tb) g H Q:=by obtain⟨n,q,R,i,hc,h,hq⟩:=h;exact⟨n,q,_,i,hc,h,λx d v B l w s hx=>⟨n,d,_,i.kp l,w,hx,λy f u C j z A hy=>⟨x,y,f,R,s.kp j,A,z,hy,hq.kp<|l.trans j⟩⟩⟩
def Ba{d:Operator}{r:A2}(f:VOp X (binaryOp d) r)(ha:VE X a ta)(hb:VE X b tb):VE X (.BinOp a d b pos) (OV r ta tb):=(QQ f ha hb).imp λ_ _ _ h=>Jt h
def Ke{d:CmpOp}{r:A2}(f:VOp X (compareOp d) r)(ha:VE X a ta)(hb:VE X b tb)(hm:behindInMarks d b=false):VE X (.Compare a [d] [b] pos) (OV r ta tb):=(CH f ha hb hm).imp λ_ _ _ h=>Jt h
def Ol(t:AE):AT:=λg f R=>t g f λx d=>match x with
 |.D (.bool k)=>R k d
 |_=>False
def Gn{K:lN}{t:AE}{u:TE}(hu:∀ d H Q,cE K t d H Q->u d H Q){d:St}{H:Hp}{Q:Bool->Hp->Prop}(h:cT K (Ol t) d H Q):Wo u d H Q:=by obtain⟨q,f,R,i,hc,h,hq⟩:=h;refine hu _ _ _ ⟨q,f,_,i,hc,h,λx j v s n l g hx=>?_⟩;split at hx;cases RelA.bl g;exact⟨_,rfl,hq _ _ _ n l hx⟩;exact hx.elim
def Bd{d:CmpOp}{r:A2}(f:VOp X (compareOp d) r)(ha:VE X a ta)(hb:VE X b tb)(hm:behindInMarks d b=false):VT X (.Compare a [d] [b] pos) (Ol<|OV r ta tb) :=
 (CI f ha hb hm).imp λ_ _ _ h=>Gn (λ_ _ _ q=>Jt q) h
def Qz(r l:A2)(ta tb tc:AE):AE:=λh j R=>ta h j λx f=>tb h f λy i=>r x y i λz d=>match z with
 |.D (.bool k)=>brP k (tc h d λw g=>l y w g R) (R (.D<|.bool false) d)
 |_=>False
def Kf{K:lN}{r I:A2}{ta tb tc:AE}{J:St}{H:Hp}{Q:VK}(h:cE K (Qz r I ta tb tc) J H Q):Qj (cR K r) (cR K I) (cE K ta) (cE K tb) (cE K tc) J H Q:=by
 obtain⟨B,L,R,A,hc,h,hq⟩:=h;refine⟨B,L,_,A,hc,h,λx F v V i O M hx=>⟨B,F,_,A.kp i,O,hx,λy E u W g N D hy=>⟨x,y,E,_,M.kp g,D,N,hy,λz l q U d s P hz=>?_⟩⟩⟩;split at hz
 ·cases RelA.bl P;rcases br_e hz with⟨rfl,n⟩|⟨rfl,n⟩
  ·exact⟨true,rfl,by
    first
     |exact⟨B,l,_,A.kp<|i.trans<|g.trans d,s,n,λw f p S j G rw C=>⟨y,w,f,R,D.kp<|d.trans j,rw,G,C,hq.kp<|i.trans<|g.trans<|d.trans j⟩⟩
     | (rw[P_ rfl];exact⟨B,l,_,A.kp<|i.trans<|g.trans d,s,n,λw f p S j G rw C=>⟨y,w,f,R,D.kp<|d.trans j,rw,G,C,hq.kp<|i.trans<|g.trans<|d.trans j⟩⟩)⟩
  ·exact⟨false,rfl,by
    first
     |exact hq _ _ _ _ (i.trans<|g.trans d) s Dp n
     | (rw[H_ U_];exact hq _ _ _ _ (i.trans<|g.trans d) s Dp n)⟩
 exact hz.elim
def Xu{d f:CmpOp}{r g:A2}(i:VOp X (compareOp d) r)(j:VOp X (compareOp f) g)(ha:VE X a ta)(hb:VE X b tb)(hc:VE X c tc)(hm:lastMarks [d,f] [b,c]=false:=by rfl):VE X (.Compare a [d,f] [b,c] pos) (Qz r g ta tb tc) :=
 (Wp i j ha hb hc hm).imp λ_ _ _ h=>Kf h
def Xv{d f:CmpOp}{r g:A2}(i:VOp X (compareOp d) r)(j:VOp X (compareOp f) g)(ha:VE X a ta)(hb:VE X b tb)(hc:VE X c tc)(hm:lastMarks [d,f] [b,c]=false:=by rfl):VT X (.Compare a [d,f] [b,c] pos) (Ol<|Qz r g ta tb tc) :=
 (Wq i j ha hb hc hm).imp λ_ _ _ h=>Gn (λ_ _ _ q=>Kf q) h
def D3{e:lQ}{t:AE}(h:VE X e t)(he:∀d,isTrue e X.env d=(do let v <- d;standAt e.pos;holding [v]<|truthy v):=by intro _;rfl):VT X e (Ol t) :=
 (II h he).imp λ_ _ _ h=>by have h:=Gn (λ_ _ _ q=>q) h;exact h
def Qae(t u:AT):AT:=λf g R=>t f g λk d=>brP k (u f d R)<|R false d
def vOr(t u:AT):AT:=λf g R=>t f g λk d=>brP k (R true d)<|u f d R
def Qaf(t:AT):AT:=λg f R=>t g f λk d=>R (!k) d
def VW.pt{e:lQ}{t:AT}(h:VW X e t):VT X e t:=PW.pt h
def D5(ha:VT X a tA):VW X (.BoolOp .And [a] pos) tA:=BX ha
def Q0(ha:VT X a tA):VW X (.BoolOp .Or [a] pos) tA:=IJ ha
def Fh(ha:VT X a tA)(hb:VW X (.BoolOp .And (b::rest) pos) kf):VW X (.BoolOp .And (a::b::rest) pos) (Qae tA kf) :=
 (IK ha hb).imp λs H Q d=>B5 d λn q R j hc h hq=>⟨n,q,_,j,hc,h,λk f u g l hk=>by
  rcases br_e hk with⟨rfl,i⟩|⟨rfl,i⟩;exact⟨n,f,R,j.kp g,l,i,hq.kp g⟩;exact hq _ _ _ g l i⟩
def Xw(ha:VT X a tA)(hb:VW X (.BoolOp .Or (b::rest) pos) kf):VW X (.BoolOp .Or (a::b::rest) pos) (vOr tA kf) :=
 (QH ha hb).imp λs H Q d=>B5 d λn q R j hc h hq=>⟨n,q,_,j,hc,h,λk f u g l hk=>by
  rcases br_e hk with⟨rfl,i⟩|⟨rfl,i⟩;exact hq _ _ _ g l i;exact⟨n,f,R,j.kp g,l,i,hq.kp g⟩⟩
def Fz(ha:VT X a tA):VT X (.UnaryOp .Not a pos) (Qaf tA):=(IL ha).imp λq H Q d=>B5 d λn f R g hc h hq=>⟨n,f,_,g,hc,h,λk j s l i hk=>hq _ _ _ l i hk⟩
def KD{op}{t:AE}(h:VE X a t):VE X (.BoolOp op [a] pos) t:=IM h
def RS(ta tb:AE):AE:=λf g R=>ta f g λx d=>match x with
 |.D (.bool k)=>brP k (tb f d R) (R (.D<|.bool false) d)
 |_=>False
def RT(ta:AE):AE:=λg f R=>ta g f λx d=>match x with
 |.D (.bool k)=>R (.D<|.bool<|!k) d
 |_=>False
def KF(ha:VE X a ta)(hb:VE X (.BoolOp .And (b::rest) pos) tb):VE X (.BoolOp .And (a::b::rest) pos) (RS ta tb) :=
 (IN ha hb).imp λu H Q d=>B5 d λn q R j hc h hq=>⟨n,q,_,j,hc,h,λx f v w g l s hk=>by
  split at hk;cases RelA.bl s;rcases br_e hk with⟨rfl,i⟩|⟨rfl,i⟩;exact⟨true,rfl,⟨n,f,R,j.kp g,l,i,hq.kp g⟩⟩;exact⟨false,rfl,hq _ _ _ _ g l Dp i⟩;exact hk.elim⟩
def KG(ha:VE X a ta):VE X (.UnaryOp .Not a pos) (RT ta) :=
 (IP ha).imp λs H Q d=>B5 d λq f R i hc h hq=>⟨q,f,_,i,hc,h,λx l v u n j g hk=>by
  split at hk;cases RelA.bl g;exact⟨_,rfl,hq _ _ _ _ n j Dp hk⟩;exact hk.elim⟩
def vIf(t:AT)(ta tb:AE):AE:=λf g R=>t f g λk d=>brP k (ta f d R)<|tb f d R
def Om(hc:VT X c tA)(ha:VE X a ta)(hb:VE X b tb):VE X (.IfExp c a b pos) (vIf tA ta tb) :=
 (Wb hc ha hb).imp λs H Q g=>B5 g λj q R i hc h hq=>⟨j,q,_,i,hc,h,λk d u f n hk=>by
  rcases br_e hk with⟨rfl,l⟩|⟨rfl,l⟩;exact⟨j,d,R,i.kp f,n,l,hq.kp f⟩;exact⟨j,d,R,i.kp f,n,l,hq.kp f⟩⟩
def KH:AA:=λ_ d R=>R [] d
def RU(ta:AE)(j:AA):AA:=λg h R=>ta g h λx f=>j g f λi d=>R (x::i) d
def Ae:VA X [] KH:=JE.imp λg H Q d=>B5 d λj f R i hc h hq=>hq [] f [] H Kp.refl hc .nil rfl h
def Aa{e:lQ}{es:oA lQ}{te:AE}{t:AA}(ha:VE X e te)(E:VA X es t)(f:starEach (e::es) X.env=(false,eval e X.env)::starEach es X.env:=by rfl):VA X (e::es) (RU te t) :=
 (CJ ha E f).imp λF H Q d=>B5 d λn q R f hc h hq=>⟨n,q,_,f,hc,h,λx g v G l y s hx=>⟨n,g,_,f.kp l,y,hx,λB i w C j D z A u=>
  hq (x::B) i (v::w) C (l.trans j) D (.cons (s.kp j) z) (by rw[aX,A];rfl) u⟩⟩
def Qag(t:AA):AE:=λh f R=>t h f λg d=>match dats g with
 |some i=>R (.D<|.tuple i) d
 |none=>False
def RV(t:AA):AE:=λg f R=>t g f λh d=>∀p,d p=none->R (.R p) (Ao d p<|.lst h)
def Br{k:Nat}(h:VA X es t)(hn:es.length<=sizeLine:=by decide):VE X (.Tuple es k pos) (Qag t) :=
 (JF h).imp λu H Q d=>B5 d λs g R i hc h hq=>⟨s,g,_,i,hc,h,λz l v w q j f n hx=>⟨by rw[<- f.length,n];exact hn,λp hp=>by
  split at hx;rename_i y e;refine hq _ _ _ _ (q.trans<|Kp.new hp _) (j.over hp) ?_ hx;exact Hf A3<|Ap.kp (Kp.new hp _) _ _<|f.dats e;exact hx.elim⟩⟩
def Cf(h:VA X es t)(hn:es.length<=sizeLine:=by decide):VE X (.List es pos) (RV t) :=
 (JG h).imp λu H Q d=>B5 d λs i R j hc h hq=>⟨s,i,_,j,hc,h,λy l v w q f g n hx=>⟨by rw[<- g.length,n];exact hn,λp hp=>
  hq _ _ _ _ (q.trans<|Kp.new hp _) (f.new hp<|Dh<|g) Ea (hx p<|f.none hp)⟩⟩
mutual
theorem Dk.reads{y:oA<|lM×lT}{w:St}{H:Hp}{s:lK}(I:Inv X y w H s):∀(d:lL) (x:V) (u:lJ),Dk X.K H d x->Bf x u->∃as,Reads s.heap u d as
 |.none,x,u,h,r=>by cases h.non;cases r;exact⟨_,.none⟩
 |.bool b,x,u,h,r=>by cases h.bl;cases r;exact⟨_,.bool b⟩
 |.int i,x,u,h,r=>by cases h.int;obtain⟨t,rfl⟩:=r;exact⟨_,.int i t⟩
 |.str z,x,u,h,r=>by cases h.str;obtain⟨t,rfl⟩:=r;exact⟨_,.str z t⟩
 |.list j,x,u,h,r=>by obtain⟨a,v,rfl,q,k⟩:=h.lst;cases r;obtain⟨f,g,⟨o,n,e,c,_,d⟩,_⟩:=I.list q.sq;obtain⟨as,l⟩:=Ap.reads I j v f k g;exact⟨_,.list e c d<|by simpa using l⟩
 |.tuple j,x,u,h,r=>by obtain⟨a,v,rfl,q,k⟩:=h.tup;cases r;obtain⟨f,g,⟨o,e,c,n,d⟩,_⟩:=I.tuple q.sq;obtain⟨as,l⟩:=Ap.reads I j v f k g;exact⟨_,.tuple e c d<|by simpa using l⟩
 |.dict _,x,u,h,_=>by simp only[Dk]at h
theorem Ap.reads{u:oA<|lM×lT}{g:St}{H:Hp}{s:lK}(I:Inv X u g H s):∀(ds:oA lL) (xs:oA V) (f:oA lJ),Ap X.K H ds xs->Vals xs f->∃as,ReadsAll s.heap f ds as
 |[],xs,f,h,r=>by have e:=h.nil;subst e;cases r;exact⟨_,.nil⟩
 |d::ds,xs,f,h,r=>by
  obtain⟨x,n,rfl,h1,h2⟩:=h.cons;cases r with
  |cons j l=>obtain⟨as,i⟩:=Dk.reads I d x _ h1 j;obtain⟨v,q⟩:=Ap.reads I ds n _ h2 l;exact⟨_,.cons i q⟩
end
def see(g:M):AV->oB lL
 |.X _ _=>none
 |.D d=>some d
 |.C f=>some (.tuple f)
 |.R a=>match g a with
  |some (.lst h)=>match dats h with
   |some f=>some (.list f)
   |none=>none
  |_=>none
@[simp] theorem see_D {f:M} {d:lL}:see f (.D d)=some d:=rfl
def D7{G:oA<|lM×lT}{E:St}{H:Hp}{s:lK}{l:M}{x:AV}{v:V}{u:lJ}{d:lL}(I:Inv X G E H s)(hc:Cn X.K l H)(f:RelA X.K H x v)(r:Bf v u)(e:see l x=some d):∃as,Reads s.heap u d as:=by
 cases x with
 |X C L=>cases e
 |D J=>cases e;exact Dk.reads I _ _ _ f r
 |C h=>cases e;obtain⟨a,w,rfl,q,k⟩:=f;cases r;obtain⟨g,i,⟨o,e,c,n,d⟩,_⟩:=I.tuple<|q H;obtain⟨as,j⟩:=Ap.reads I h w g k i;exact⟨_,.tuple e c d<|by simpa using j⟩
 |R a=>dsimp only[see]at e;split at e;rename_i w y;split at e;rename_i h B;cases e;cases (show v=.ref a from f);cases r;obtain⟨o,F,z,rfl,A⟩:=hc a _ y;obtain⟨g,i,⟨o,n,e,c,_,dd⟩,_⟩:=I.list<|Ei.of F;obtain⟨as,j⟩:=Ap.reads I h z g (A.dats B) i;exact⟨_,.list e c dd<|by simpa using j⟩;cases e;cases e
def Cb(d:lL):Prop:=d.canLay0=true/\d.depth<=64
def aEq:A2:=λx y f R=>match x,y with
 |.D d,.D e=>Cb d/\Cb e/\R (.D<|.bool<|PyData.eqv d e) f
 |x,y=>opt (see f x) λd=>opt (see f y) λe=>Cb d/\Cb e/\R (.D<|.bool<|PyData.eqv d e) f
def DK{x y:AV}{f:M}{R:AV->M->Prop}(h:aEq x y f R):∃d e,see f x=some d/\see f y=some e/\Cb d/\Cb e/\R (.D<|.bool<|PyData.eqv d e) f:=by
 have g:∀(h:opt (see f x) λd=>opt (see f y) λe=>Cb d/\Cb e/\R (.D<|.bool<|PyData.eqv d e) f),∃d e,see f x=some d/\see f y=some e/\Cb d/\Cb e/\R (.D<|.bool<|PyData.eqv d e) f:=by intro h;obtain⟨d,i,h⟩:=A5 h;obtain⟨e,j,h⟩:=A5 h;exact⟨d,e,i,j,h⟩
 cases x with
 |D d=>
  cases y with
  |D e=>exact⟨_,_,rfl,rfl,h⟩
  |_=>exact g h
 |_=>exact g h
def aNe:A2:=λx y f R=>match x,y with
 |.D d,.D e=>Cb d/\Cb e/\R (.D<|.bool<|!PyData.eqv d e) f
 |x,y=>opt (see f x) λd=>opt (see f y) λe=>Cb d/\Cb e/\R (.D<|.bool<|!PyData.eqv d e) f
def DL{x y:AV}{f:M}{R:AV->M->Prop}(h:aNe x y f R):∃d e,see f x=some d/\see f y=some e/\Cb d/\Cb e/\R (.D<|.bool<|!PyData.eqv d e) f:=by unfold aNe at h;split at h;exact⟨_,_,rfl,rfl,h⟩;obtain⟨d,g,h⟩:=A5 h;obtain⟨e,i,h⟩:=A5 h;exact⟨d,e,g,i,h⟩
def Eo(z:Room k X.A):VOp X (compareOp .Eq) aEq:=by intro F s D H x y v u Q I g B f;refine Ev f λa b C R j w hc h hq=>?_;obtain⟨d,e,q,i,h⟩:=DK h;obtain⟨as,l⟩:=D7 I hc j g q;obtain⟨E,n⟩:=D7 I hc w B i;have hu:=z.un;have:=h.1.2;exact SeqAt.compareEq_reads l n h.1.1 h.2.1.1 (by omega) ⟨.bl _,H,I,rfl,hq _ _ _ _ Kp.refl hc Dp h.2.2⟩
def Qai(z:Room k X.A):VOp X (compareOp .NotEq) aNe:=by intro F s D H x y v u Q I g B f;refine Ev f λa b C R j w hc h hq=>?_;obtain⟨d,e,q,i,h⟩:=DL h;obtain⟨as,l⟩:=D7 I hc j g q;obtain⟨E,n⟩:=D7 I hc w B i;have hu:=z.un;have:=h.1.2;exact SeqAt.compareNe_reads l n h.1.1 h.2.1.1 (by omega) ⟨.bl _,H,I,rfl,hq _ _ _ _ Kp.refl hc Dp h.2.2⟩
def On:lL->oB Key
 |.int i=>some (.inl i)
 |.str z=>some (.inr z)
 |_=>none
def items(f:M):AV->oB (oA AV)
 |.D (.tuple d)=>some (d.map .D)
 |.C d=>some (d.map .D)
 |.D (.list d)=>some (d.map .D)
 |.R a=>match f a with
  |some (.lst g)=>some g
  |_=>none
 |_=>none
def L4{H:Hp}{g:M}{x:AV}{v:V}{xs:oA AV}(hc:Cn X.K g H)(f:RelA X.K H x v)(e:items g x=some xs):∃p d,v=.ref p/\(Ei X.K H p d\/Il X.K H p d)/\A4 X.K H xs d:=by unfold items at e;split at e;cases e;obtain⟨a,d,rfl,q,r⟩:=RelA.tup f;exact⟨a,d,rfl,.inr q.sq,r.rel⟩;cases e;obtain⟨a,d,rfl,q,r⟩:=f;exact⟨a,d,rfl,.inr<|q H,r.rel⟩;cases e;obtain⟨a,d,rfl,q,r⟩:=RelA.lst f;exact⟨a,d,rfl,.inl q.sq,r.rel⟩;split at e;rename_i l i;cases e;obtain⟨o,h,d,rfl,j⟩:=hc _ _ i;exact⟨_,d,f,.inl<|Ei.of h,j⟩;cases e;cases e
def GO:AV->Bool
 |.D (.tuple _)=>true
 |.C _=>true
 |_=>false
def Cg{H:Hp}{g:M}{x:AV}{v:V}{xs:oA AV}(hc:Cn X.K g H)(f:RelA X.K H x v)(e:items g x=some xs):∃p d,v=.ref p/\((GO x=false/\Ei X.K H p d)\/(GO x=true/\Il X.K H p d))/\A4 X.K H xs d:=by unfold items at e;split at e;cases e;obtain⟨a,d,rfl,q,r⟩:=RelA.tup f;exact⟨a,d,rfl,.inr ⟨rfl,q.sq⟩,r.rel⟩;cases e;obtain⟨a,d,rfl,q,r⟩:=f;exact⟨a,d,rfl,.inr ⟨rfl,q H⟩,r.rel⟩;cases e;obtain⟨a,d,rfl,q,r⟩:=RelA.lst f;exact⟨a,d,rfl,.inl ⟨rfl,q.sq⟩,r.rel⟩;split at e;rename_i l i;cases e;obtain⟨o,h,d,rfl,j⟩:=hc _ _ i;exact⟨_,d,f,.inl ⟨rfl,Ei.of h⟩,j⟩;cases e;cases e
def OW(h:Bool->Bool):A2:=λx y f R=>match y with
 |.D (.str j)=>match x with
  |.D (.str i)=>R (.D<|.bool<|h<|!(Builtin.Str.occurrences j i 0 j.length 1).isEmpty) f
  |_=>False
 |.C g=>opt (see f x) λd=>Cb d/\Cb (.tuple g)/\R (.D<|.bool<|h<|g.any λe=>PyData.eqv e d) f
 |.D (.tuple g)=>opt (see f x) λd=>Cb d/\Cb (.tuple g)/\R (.D<|.bool<|h<|g.any λe=>PyData.eqv e d) f
 |y=>opt (see f x) λd=>opt (items f y) λl=>opt (dats l) λg=>Cb d/\Cb (.tuple g)/\R (.D<|.bool<|h<|g.any λe=>PyData.eqv e d) f
def Sb{n:Bool->Bool}{x y:AV}{i:M}{R:AV->M->Prop}(h:OW n x y i R)(hn:∀z,y≠.D (.str z)):∃d j g,see i x=some d/\items i y=some j/\dats j=some g/\Cb d/\Cb (.tuple g)/\R (.D<|.bool<|n<|g.any λe=>PyData.eqv e d) i:=by unfold OW at h;split at h;exact absurd rfl<|hn _;obtain⟨d,f,h⟩:=A5 h;exact⟨d,_,_,f,rfl,Cu _,h⟩;obtain⟨d,f,h⟩:=A5 h;exact⟨d,_,_,f,rfl,Cu _,h⟩;obtain⟨d,f,h⟩:=A5 h;obtain⟨j,q,h⟩:=A5 h;obtain⟨g,l,h⟩:=A5 h;exact⟨d,j,g,f,q,l,h⟩
def Oo{ds:oA lL}(h:Cb<|.tuple ds):PyData.canLayAll0 ds=true/\PyData.depthAll ds<=64:=by obtain⟨h1,h2⟩:=h;simp only[PyData.canLay0]at h1;simp only[PyData.depth]at h2;exact⟨h1,Nat.le_of_succ_le h2⟩
def DM(hr:Room k X.A):VOp X (compareOp .In) (OW λb=>b):=by
 intro Z s W H x y v u Q I G M j;refine Ev j λa b μ R O f hc h hq=>?_;by_cases hb:∃z,b=.D (.str z);obtain⟨z,rfl⟩:=hb;unfold OW at h;dsimp only at h;split at h;cases RelA.str O;cases RelA.str f;exact T8 Z s W H _ _ v u Q I G M ⟨_,_,rfl,rfl,hq _ _ _ _ Kp.refl hc Dp h⟩;exact h.elim;obtain⟨d,ys,L,V,S,C,h⟩:=Sb h λz e=>hb ⟨z,e⟩
 skip
 obtain⟨i,E,h⟩:=h;obtain⟨as,P⟩:=D7 I hc O G V;obtain⟨p,J,rfl,hp,U⟩:=L4 hc f S;cases M;obtain⟨n,l⟩:=Oo E;have N:=U.dats C;have hu:=hr.un;have q:=hq _ _ _ _ Kp.refl hc Dp h;rcases hp with hp|hp;obtain⟨g,r,F,hz⟩:=I.list hp;obtain⟨Y,f⟩:=Ap.reads I L J g N r;have e:=λA=>Ez (A:=A) P i.1;refine SeqAt.in_listAt (Qc s.heap d) F.isList (λw B=>(e _ (by first|(show X.A.units+64<_;omega)|(show X.A.units+1+64<_;omega)|(show X.A.units+1+1+64<_;omega)) f n l).1 w<|by simpa using B) ⟨.bl _,H,I,rfl,?_⟩;rw[show g.toArray.any (Qc s.heap d)=g.any (Qc s.heap d) by simp,(e X.A (by omega) f n l).2];exact q;obtain⟨g,r,F,hz⟩:=I.tuple hp;obtain⟨Y,f⟩:=Ap.reads I L J g N r;have e:=λA=>Ez (A:=A) P i.1;refine SeqAt.in_tupleAt (Qc s.heap d) F (λw B=>(e _ (by first|(show X.A.units+64<_;omega)|(show X.A.units+1+64<_;omega)|(show X.A.units+1+1+64<_;omega)) f n l).1 w<|by simpa using B) ⟨.bl _,H,I,rfl,?_⟩;rw[show g.toArray.any (Qc s.heap d)=g.any (Qc s.heap d) by simp,(e X.A (by omega) f n l).2];exact q
def Sc(hr:Room k X.A):VOp X (compareOp .NotIn) (OW λb=>!b):=by
 intro Z s W H x y v u Q I G M j;refine Ev j λa b μ R O f hc h hq=>?_;by_cases hb:∃z,b=.D (.str z);obtain⟨z,rfl⟩:=hb;unfold OW at h;dsimp only at h;split at h;cases RelA.str O;cases RelA.str f;exact Mp Z s W H _ _ v u Q I G M ⟨_,_,rfl,rfl,hq _ _ _ _ Kp.refl hc Dp h⟩;exact h.elim;obtain⟨d,ys,L,V,S,C,h⟩:=Sb h λz e=>hb ⟨z,e⟩
 skip
 obtain⟨i,E,h⟩:=h;obtain⟨as,P⟩:=D7 I hc O G V;obtain⟨p,J,rfl,hp,U⟩:=L4 hc f S;cases M;obtain⟨n,l⟩:=Oo E;have N:=U.dats C;have hu:=hr.un;have q:=hq _ _ _ _ Kp.refl hc Dp h;rcases hp with hp|hp;obtain⟨g,r,F,hz⟩:=I.list hp;obtain⟨Y,f⟩:=Ap.reads I L J g N r;have e:=λA=>Ez (A:=A) P i.1;refine SeqAt.notIn_listAt (Qc s.heap d) F.isList (λw B=>(e _ (by first|(show X.A.units+64<_;omega)|(show X.A.units+1+64<_;omega)|(show X.A.units+1+1+64<_;omega)) f n l).1 w<|by simpa using B) ⟨.bl _,H,I,rfl,?_⟩;rw[show g.toArray.any (Qc s.heap d)=g.any (Qc s.heap d) by simp,(e X.A (by omega) f n l).2];exact q;obtain⟨g,r,F,hz⟩:=I.tuple hp;obtain⟨Y,f⟩:=Ap.reads I L J g N r;have e:=λA=>Ez (A:=A) P i.1;refine SeqAt.notIn_tupleAt (Qc s.heap d) F (λw B=>(e _ (by first|(show X.A.units+64<_;omega)|(show X.A.units+1+64<_;omega)|(show X.A.units+1+1+64<_;omega)) f n l).1 w<|by simpa using B) ⟨.bl _,H,I,rfl,?_⟩;rw[show g.toArray.any (Qc s.heap d)=g.any (Qc s.heap d) by simp,(e X.A (by omega) f n l).2];exact q
def RW:A2:=λx y d R=>match x,y with
 |.D .none,.D .none=>R (.D<|.bool true) d
 |_,.D .none=>R (.D<|.bool false) d
 |_,_=>False
def GP:A2:=λx y d R=>match x,y with
 |.D .none,.D .none=>R (.D<|.bool false) d
 |_,.D .none=>R (.D<|.bool true) d
 |_,_=>False
def Op{K:lN}{H:Hp}{x:AV}(h:RelA K H x .non):x=.D .none:=by
 cases x with
 |R a=>cases (show V.non=.ref a from h)
 |C f=>obtain⟨_,_,e,_⟩:=h;cases e
 |X C g=>obtain⟨_,_,_,e,_⟩:=h;cases e
 |D d=>
  cases d with
  |none=>rfl
  |bool b=>cases RelA.bl h
  |int b=>cases RelA.int h
  |str b=>cases RelA.str h
  |list b=>obtain⟨_,_,e,_⟩:=RelA.lst h;cases e
  |tuple b=>obtain⟨_,_,e,_⟩:=RelA.tup h;cases e
  |dict b=>exact absurd h<|by simp only[RelA,Dk];exact id
def Xx:VOp X (compareOp .Is) RW:=by
 intro l s g H x y v u Q I f n d;refine Ev d λa b q R i j hc h hq=>?_;unfold RW at h;split at h;cases RelA.non i;cases RelA.non j;exact Wm l s g H _ _ v u Q I f n ⟨rfl,hq _ _ _ _ Kp.refl hc Dp h⟩;rename_i ne;cases RelA.non j;refine Wm l s g H _ _ v u Q I f n ⟨rfl,hq _ _ _ _ Kp.refl hc ?_ h⟩;have:x≠.non:=by intro e;subst e;exact ne<|Op i
 rw[aL this];exact Dp;exact h.elim
def KI:VOp X (compareOp .IsNot) GP:=by
 intro l s g H x y v u Q I f n d;refine Ev d λa b q R i j hc h hq=>?_;unfold GP at h;split at h;cases RelA.non i;cases RelA.non j;exact R3 l s g H _ _ v u Q I f n ⟨rfl,hq _ _ _ _ Kp.refl hc Dp h⟩;rename_i ne;cases RelA.non j;refine R3 l s g H _ _ v u Q I f n ⟨rfl,hq _ _ _ _ Kp.refl hc ?_ h⟩;have:x≠.non:=by intro e;subst e;exact ne<|Op i
 rw[aL this];exact Dp;exact h.elim
def aI(C:Int->Int->Prop)(g:Int->Int->lL):A2:=λx y d R=>match x,y with
 |.D (.int i),.D (.int j)=>C i j/\R (.D<|g i j) d
 |_,_=>False
def GQ(g:Int->Int->lL):A2:=λx y d R=>match x,y with
 |.D (.int i),.D (.int j)=>R (.D<|g i j) d
 |_,_=>False
def RX{f:lJ->lJ->Sem lJ}{C:Int->Int->Prop}{g:Int->Int->V}{g':Int->Int->lL}(h:Gm X f<|rI C g)(A:∀i j H,Dk X.K H (g' i j)<|g i j):VOp X f (aI C g'):=by
 intro F s z H x y v u Q I q w n;refine Ev n λa b G R B E hc l hq=>?_;cases a with
 |D d=>
  cases d with
  |int i=>
   cases b with
   |D e=>
    cases e with
    |int j=>cases RelA.int B;cases RelA.int E;exact h F s z H _ _ v u Q I q w ⟨_,_,rfl,rfl,l.1,hq _ _ _ _ Kp.refl hc (Ur<|A _ _ _) l.2⟩
    |_=>exact False.elim l
   |_=>exact False.elim l
  |_=>exact False.elim l
 |_=>exact False.elim l
def Q1{f:lJ->lJ->Sem lJ}{g:Int->Int->V}{g':Int->Int->lL}(h:Gm X f<|Wl g)(z:∀i j H,Dk X.K H (g' i j)<|g i j):VOp X f (GQ g'):=by
 intro E s w H x y v u Q I q C l;refine Ev l λa b F R A B hc n hq=>?_;cases a with
 |D d=>
  cases d with
  |int i=>
   cases b with
   |D e=>
    cases e with
    |int j=>cases RelA.int A;cases RelA.int B;exact h E s w H _ _ v u Q I q C ⟨_,_,rfl,rfl,hq _ _ _ _ Kp.refl hc (Ur<|z _ _ _) n⟩
    |_=>exact False.elim n
   |_=>exact False.elim n
  |_=>exact False.elim n
 |_=>exact False.elim n
abbrev Qaj:A2:=GQ λi j=>.int<|i-j
abbrev RY:A2:=aI CDiv λi j=>.int<|i / j
abbrev Qak:A2:=aI (λ_ j=>0<j) λi j=>.int<|i%j
abbrev Qal:A2:=aI CPow λi j=>.int<|i^j.toNat
abbrev aLt:A2:=GQ λi j=>.bool<|decide (i<j)
abbrev aLe:A2:=GQ λi j=>.bool<|decide (i<=j)
abbrev aGt:A2:=GQ λi j=>.bool<|decide (j<i)
abbrev aGe:A2:=GQ λi j=>.bool<|decide (j<=i)
def GR:VOp X (binaryOp .Sub) Qaj:=Q1 IX λ_ _ _=>Ce
def KJ:VOp X (binaryOp .FloorDiv) RY:=RX CG λ_ _ _=>Ce
def Ht:VOp X (binaryOp .Mod) Qak:=RX IZ λ_ _ _=>Ce
def RZ:VOp X (binaryOp .Pow) Qal:=RX JA λ_ _ _=>Ce
def KK:VOp X (compareOp .Lt) aLt:=Q1 QS λ_ _ _=>Lz
def DN:VOp X (compareOp .LtE) aLe:=Q1 QT λ_ _ _=>Lz
def Q2:VOp X (compareOp .Gt) aGt:=Q1 QU λ_ _ _=>Lz
def SA:VOp X (compareOp .GtE) aGe:=Q1 QV λ_ _ _=>Lz
def Qam:A2:=λx y d R=>match x,y with
 |.D (.int i),.D (.int j)=>CMul i j/\R (.D<|.int<|i*j) d
 |.D (.str z),.D (.int n)=>(n=0\/n=1)/\R (.D<|.str<|if n=0 then Str.empty else z) d
 |_,_=>False
def Hu:VOp X (binaryOp .Mult) Qam:=by
 intro w s l H x y v u Q I g A f;refine Ev f λa b B R n q hc h hq=>?_;cases a with
 |D d=>
  cases d with
  |int i=>
   cases b with
   |D e=>
    cases e with
    |int j=>cases RelA.int n;cases RelA.int q;exact IY w s l H _ _ v u Q I g A ⟨_,_,rfl,rfl,h.1,hq _ _ _ _ Kp.refl hc C7 h.2⟩
    |_=>exact False.elim h
   |_=>exact False.elim h
  |str z=>
   cases b with
   |D e=>
    cases e with
    |int j=>cases RelA.str n;cases RelA.int q;exact Mx w s l H _ _ v u Q I g A ⟨_,_,rfl,rfl,h.1,hq _ _ _ _ Kp.refl hc Ka h.2⟩
    |_=>exact False.elim h
   |_=>exact False.elim h
  |_=>exact False.elim h
 |_=>exact False.elim h
def Qan:A2:=λx y d R=>match x,y with
 |.D (.int i),.D (.int j)=>R (.D<|.int<|i+j) d
 |.D (.str i),.D (.str j)=>i.length+j.length<=sizeLine/\R (.D<|.str<|i++j) d
 |.D (.tuple i),.D (.tuple j)=>i.length+j.length<=sizeLine/\R (.D<|.tuple<|i++j) d
 |.R i,.R j=>opt (d i) λm=>opt (d j) λn=>match m,n with
  |.lst g,.lst f=>g.length+f.length<=sizeLine/\∀p,d p=none->R (.R p) (Ao d p<|.lst<|g++f)
  |_,_=>False
 |_,_=>False
def Qao{K:lN}{W:oA<|lM×lT}{N:St}{H:Hp}{s:lK}{v u:lJ}{x y:V}{ds es:oA lL}{Q:VK}(hK:X.K=K)(I:Inv X W N H s)(Z:Bf x v)(ry:Bf y u)(hx:Dk K H (.tuple ds) x)(hy:Dk K H (.tuple es) y)
  (hz:ds.length+es.length<=sizeLine) (q:∀z H',Kp H H'->(∀ E,Cn K E H->Cn K E H')->Dk K H' (.tuple<|ds++es) z->Q z H'):yL X.prog X.w X.A (binaryOp .Add v u) (EP X W N Q) X.xe s:=by
 subst hK;obtain⟨a,S,rfl,ha,F⟩:=hx.tup;obtain⟨b,J,rfl,hb,g⟩:=hy.tup;cases Z;cases ry;obtain⟨ae,h,U,_⟩:=I.tuple ha.sq;obtain⟨f,j,P,_⟩:=I.tuple hb.sq;have B:=F.length;have i:=g.length;by_cases hv:S=[];subst hv;have e:ae=[]:=h.nil_iff.mpr rfl;subst e;have l:ds=[]:=List.length_eq_zero_iff.mp B.symm;subst l;obtain⟨⟨cls,dd,L,sl⟩,O,hc,n,M⟩:=id U;obtain⟨⟨R,D,data2,ou⟩,Y,d,n2,G⟩:=id P;simp only at hc M d G;subst hc M d G;exact concat_meets ⟨_,O,rfl⟩ ⟨_,Y,rfl⟩ kY seq_tuple_add iP iM (gY _ _)
  (tuple_addW0 a b [].toArray f.toArray n n2 dd D sl ou rfl) ⟨O,Y,.ref b,H,I,rfl,q _ _ Kp.refl (λ_ c=>c)<|by simpa using hy⟩
 refine HT.cat_tup U P (λz=>hv<|h.nil_iff.mp z) (λz=>⟨.ref a,H,I,rfl,q _ _ Kp.refl (λ_ c=>c) ?_⟩) (λz=>?_) (by rw[<- h.length,<- j.length,B,i];exact hz);have e:J=[]:=j.nil_iff.mp z;subst e;have l:es=[]:=List.length_eq_zero_iff.mp i.symm;subst l;simpa using hx;have C:=I.hok.fresh<|F_ s.heap.objs.size;refine⟨.ref s.heap.objs.size,_,I.laid (t':=s.toks) (o:=.tup<|S++J) (λb ob q=>DD _ q) (F_ _) ?_,rfl,q _ _ (Kp.new C _) (λ_ c=>c.over C) ?_⟩;exact⟨by rw[N_,B,i];exact hz,_,h.append j,IsTup.new _ _⟩;exact Hf A3<|Ap.kp (Kp.new C _) _ _<|F.append g
def Cj:VOp X (binaryOp .Add) Qan:=by
 intro B s A H x y v u Q I g l f;refine Ev f λa b P R q w hc h hq=>?_;cases a with
 |D d=>
  cases d with
  |int i=>
   cases b with
   |D e=>
    cases e with
    |int j=>cases RelA.int q;cases RelA.int w;exact IW B s A H _ _ v u Q I g l ⟨_,_,rfl,rfl,hq _ _ _ _ Kp.refl hc C7 h⟩
    |_=>exact False.elim h
   |_=>exact False.elim h
  |str z=>
   cases b with
   |D e=>
    cases e with
    |str j=>cases RelA.str q;cases RelA.str w;exact Qk B s A H _ _ v u Q I g l ⟨_,_,rfl,rfl,h.1,hq _ _ _ _ Kp.refl hc Ka h.2⟩
    |_=>exact False.elim h
   |_=>exact False.elim h
  |tuple U=>
   cases b with
   |D e=>
    cases e with
    |tuple es=>exact Qao rfl I g l q w h.1 λz H' S c J=>hq _ _ _ _ S (c _ hc) (Ur J) h.2
    |_=>exact False.elim h
   |_=>exact False.elim h
  |_=>exact False.elim h
 |R i=>
  cases b with
  |R j=>
   obtain⟨m,O,h⟩:=A5 h;obtain⟨n,G,h⟩:=A5 h;cases m with
   |lst Y=>
    cases n with
    |lst V=>cases (show x=.ref i from q);cases (show y=.ref j from w);obtain⟨o,M,F,rfl,C⟩:=hc i _ O;obtain⟨W,N,L,rfl,E⟩:=hc j _ G;exact JO B s A H _ _ v u Q I g l ⟨i,j,F,L,rfl,rfl,M,N,by rw[<- C.length,<- E.length];exact h.1,λp hp=>hq _ _ _ _ (Kp.new hp _) (hc.new hp<|Dh<|C.append E) Ea<|h.2 p<|hc.none hp⟩
    |_=>exact False.elim h
   |_=>exact False.elim h
  |_=>exact False.elim h
 |_=>exact False.elim h
def YX:A2:=λx y f R=>match x,y with
 |.D (.str z),.D (.int i)=>z.length<=sizeLine/\opt (atI z.cps.toList i) λc=>R (.D<|.str ⟨#[c]⟩) f
 |.D (.tuple g),.D (.int i)=>opt (atI g i) λd=>R (.D d) f
 |.D (.list g),.D (.int i)=>opt (atI g i) λd=>R (.D d) f
 |.R a,.D (.int i)=>opt (f a) λm=>match m with
  |.lst h=>opt (atI h i) λw=>R w f
  |_=>False
 |_,_=>False
def DO{x y:AV}{f:M}{R:AV->M->Prop}(h:YX x y f R):∃i,y=.D (.int i):=by
 have g:(∀d,YX (.D d) y f R->False)->(∀a,YX (.R a) y f R->False)->False:=λh1 h2=>by
  cases x with
  |D d=>exact h1 d h
  |R a=>exact h2 a h
  |_=>exact h
 cases y with
 |D e=>
  cases e with
  |int i=>exact⟨i,rfl⟩
  |_=>exact(g (λd q=>by cases d<;>exact q) λa q=>q).elim
 |_=>exact(g (λd q=>by cases d<;>exact q) λa q=>q).elim
def Be:VIx X YX:=by
 intro f g F s B H x y v u Q I q A M C;refine Ev M λa b U R E S hc h hq=>?_;obtain⟨i,rfl⟩:=DO h;cases RelA.int S;cases a with
 |D d=>
  cases d with
  |str z=>cases RelA.str E;obtain⟨h1,h⟩:=h;obtain⟨c,e,h⟩:=A5 h;exact JL f g F s B H _ _ v u Q I q A ⟨_,_,_,rfl,rfl,h1,e,hq _ _ _ _ Kp.refl hc Ka h⟩ C
  |tuple N=>obtain⟨d,G,h⟩:=A5 h;obtain⟨p,J,rfl,hp,j⟩:=RelA.tup E;obtain⟨z,l,n⟩:=j.atI G;exact JK f g F s B H _ _ v u Q I q A ⟨_,_,_,_,rfl,rfl,hp.sq,l,hq _ _ _ _ Kp.refl hc (Ur n) h⟩ C
  |list N=>obtain⟨d,G,h⟩:=A5 h;obtain⟨p,J,rfl,hp,j⟩:=RelA.lst E;obtain⟨z,l,n⟩:=j.atI G;exact R7 f g F s B H _ _ v u Q I q A ⟨_,_,_,_,rfl,rfl,hp.sq,l,hq _ _ _ _ Kp.refl hc (Ur n) h⟩ C
  |_=>exact False.elim h
 |R a=>
  obtain⟨m,O,h⟩:=A5 h;cases m with
  |lst V=>obtain⟨w,L,h⟩:=A5 h;obtain⟨o,P,J,rfl,j⟩:=hc _ _ O;cases (show x=.ref _ from E);obtain⟨z,l,n⟩:=j.atI L;exact R7 f g F s B H _ _ v u Q I q A ⟨_,_,_,_,rfl,rfl,Ei.of P,l,hq _ _ _ _ Kp.refl hc n h⟩ C
  |_=>exact False.elim h
 |_=>exact False.elim h
def Az{r:A2}(f:VIx X r)(ha:VE X a ta)(hb:VE X b tb)(d:R6 b:=by intro _ _;rfl):VE X (.Subscript a b pos) (OV r ta tb):=(RC f ha hb d).imp λ_ _ _ h=>Jt h
def DP:AO:=λ_ d R=>R none d
def SB(t:AE):AO:=λg f R=>t g f λx d=>match x with
 |.D (.int i)=>R (some i) d
 |_=>False
def Cd:VO X none DP:=CL.imp λg H Q d=>B5 d λj f R i hc h hq=>hq _ _ _ Kp.refl hc h
def B3(h:VE X a ta):VO X (some a) (SB ta):=(CM h).imp λs H Q d=>B5 d λq f R i hc h hq=>⟨q,f,_,i,hc,h,λx l v u n j g hx=>by
 split at hx;cases RelA.int g;exact⟨_,rfl,hq _ _ _ n j hx⟩;exact hx.elim⟩
def aSl(x:AV)(lo hi:oB Int):M->(AV->M->Prop)->Prop:=λd R=>match x with
 |.D (.str z)=>z.length<=sizeLine/\R (.D<|.str<|Txt.slice z lo hi) d
 |.D (.tuple g)=>R (.D<|.tuple<|Jn g lo hi) d
 |.C _=>False
 |x=>opt (items d x) λf=>∀p,d p=none->R (.R p) (Ao d p<|.lst<|Jo f lo hi)
def cSl(K:lN):V->oB Int->oB Int->Hp->VK->Prop:=λx lo hi H Q=>∃a d R,RelA K H a x/\Cn K d H/\aSl a lo hi d R/\LV K H R Q
def Qaq:RA X (cSl X.K):=by
 intro B s y H x v q z lo hi w Q I i l n j ⟨a,L,R,g,hc,h,hq⟩;unfold aSl at h;split at h;cases RelA.str g;exact JV B s y H _ v q z lo hi w Q I i l n j ⟨_,rfl,h.1,hq _ _ _ _ Kp.refl hc Ka h.2⟩;rename_i f;by_cases u:HT.sIx f.length 0 lo=0/\HT.sIx f.length f.length hi=f.length;obtain⟨a,A,rfl,ha,hx⟩:=RelA.tup g;cases i;obtain⟨E,r,d,hz⟩:=I.tuple ha.sq;have D:E.toArray.size=f.length:=by rw[X_,<- r.length,hx.length]
 refine⟨"tuple",_,cV.lookup,d.typeIs,?_⟩;refine HT.getItem_tuple_all d l n j (by rw[D];exact u) ⟨.ref a,H,I,rfl,hq _ _ _ _ Kp.refl hc ?_ h⟩;rw[Xi u];exact g;obtain⟨a,A,rfl,ha,hx⟩:=RelA.tup g;refine JJ B s y H (.ref a) v q z lo hi w Q I i l n j ⟨a,A,rfl,ha.sq,by rw[hx.length];exact u,λp hp=>?_⟩;exact hq _ _ _ _ (Kp.new hp _) (hc.over hp) (M3 A3<|Ap.kp (Kp.new hp _) _ _<|hx.cut lo hi) h;exact h.elim;rename_i N J G;obtain⟨A,C,h⟩:=A5 h;obtain⟨p,M,rfl,hp,F⟩:=Cg hc g C;rcases hp with⟨_,hp⟩|⟨d,hp⟩;exact CP B s y H _ v q z lo hi w Q I i l n j ⟨_,_,rfl,hp,λp hp=>hq _ _ _ _ (Kp.new hp _) (hc.new hp<|Dh<|F.cut lo hi) Ea<|h p<|hc.none hp⟩;exfalso;unfold GO at d;split at d;exact J _ rfl;exact G _ rfl;cases d
def vSl(te:AE)(n j:AO):AE:=λf i R=>te f i λx h=>n f h λl g=>j f g λu d=>aSl x l u d R
def Bv{lo hi:oB lQ}{y A:AO}{F:Pos}(he:VE X a ta)(g:VO X lo y)(hu:VO X hi A):VE X (.Subscript a (.Slice lo hi none F) pos) (vSl ta y A) :=
 (Wv Qaq he g hu).imp λJ H Q d=>B5 d λs B R j hc h hq=>⟨s,B,_,j,hc,h,λx f v L i G C hx=>⟨s,f,_,j.kp i,G,hx,λl w M n D g=>⟨s,w,_,j.kp<|i.trans n,D,g,λu q I z E hu=>
  ⟨x,q,R,C.kp<|n.trans z,E,hu,hq.kp<|i.trans<|n.trans z⟩⟩⟩⟩
def vCB(r:AC)(t:AA):AE:=λg f R=>t g f λh d=>r h d R
def Sd{K:lN}{n:Nat}{r:AC}{t:AA}{f:St}{H:Hp}{Q:VK}(h:cE K (vCB r t) f H Q):ZR (cC K r) (cA K n t) f H Q:=by obtain⟨u,g,R,i,hc,h,hq⟩:=h;exact⟨u,g,_,i,hc,h,λs d v w q j l y hx=>⟨s,d,R,l,j,hx,hq.kp q⟩⟩
def Av(hc:VCall X (.builtin ij) r)(d:Gl X x)(hm:X.mg x=none)(hv:bootBuiltins x=some (.builtin ij))(ha:VA X (e::es) t)(hn:x ≠ "__name__" := by decide) (g:(x==("__debug__" : Str))=false:=by decide)
  (f:starEach (e::es) X.env=(false,eval e X.env)::starEach es X.env:=by rfl) (hpl:(backTo pos<|starEach es X.env).any (·.1)=false:=by rfl):VE X (.Call (.Name x p) (e::es) [] pos) (vCB r t) :=
 (Wr hc d hm hv ha hn g f hpl).imp λ_ _ _ h=>Sd h
def Cp(hc:VCall X (.type T) r)(d:Gl X x)(hm:X.mg x=none)(hv:bootBuiltins x=some (.type T))(ha:VA X (e::es) t)(hn:x ≠ "__name__" := by decide) (g:(x==("__debug__" : Str))=false:=by decide)
  (f:starEach (e::es) X.env=(false,eval e X.env)::starEach es X.env:=by rfl) (hpl:(backTo pos<|starEach es X.env).any (·.1)=false:=by rfl):VE X (.Call (.Name x p) (e::es) [] pos) (vCB r t) :=
 (Uc hc d hm hv ha hn g f hpl).imp λ_ _ _ h=>Sd h
def SC:AC:=λi d R=>match i with
 |[.D<|.str z]=>z.length<=sizeLine/\R (.D<|.int z.length) d
 |[.D<|.tuple g]=>R (.D<|.int g.length) d
 |[.D<|.list g]=>R (.D<|.int g.length) d
 |[.R a]=>opt (d a) λm=>match m with
  |.lst h=>R (.D<|.int h.length) d
  |.dk f=>R (.D<|.int f.length) d
  |_=>False
 |_=>False
def B1:VCall X (.builtin "len") SC:=by
 intro n s l H P i Q I r j;refine B5 j λas B R M hc h hq=>?_;have F:∀{y:AV} {t:oA AV} {x:AV},SC (x::y::t) B R->False:=λ{y t x} q=>by
  cases x with
  |D d=>cases d<;>exact q
  |_=>exact q
 cases M with
 |nil=>exact False.elim h
 |@cons x v L O u C=>
  cases C with
  |cons _ _=>exact(F h).elim
  |nil=>
   cases x with
   |D d=>
    cases d with
    |str z=>cases RelA.str u;exact Mq n s l H _ i Q I r ⟨_,rfl,h.1,hq _ _ _ _ Kp.refl hc C7 h.2⟩
    |tuple E=>obtain⟨p,f,rfl,hp,g⟩:=RelA.tup u;refine Ff n s l H _ i Q I r ⟨p,f,rfl,.inr hp.sq,hq _ _ _ _ Kp.refl hc ?_ h⟩;rw[g.length];exact C7
    |list E=>obtain⟨p,f,rfl,hp,g⟩:=RelA.lst u;refine Ff n s l H _ i Q I r ⟨p,f,rfl,.inl hp.sq,hq _ _ _ _ Kp.refl hc ?_ h⟩;rw[g.length];exact C7
    |_=>exact False.elim h
   |R a=>
    obtain⟨m,J,h⟩:=A5 h;cases (show _=V.ref _ from u);obtain⟨o,w,A⟩:=hc _ _ J;cases m with
    |lst N=>obtain⟨f,rfl,g⟩:=A;refine Ff n s l H _ i Q I r ⟨_,f,rfl,.inl<|Ei.of w,hq _ _ _ _ Kp.refl hc ?_ h⟩;rw[g.length];exact C7
    |dk G=>obtain⟨f,rfl,g⟩:=A;refine Uj n s l H _ i Q I r ⟨_,f,rfl,w,hq _ _ _ _ Kp.refl hc ?_ h⟩;rw[bL g];exact C7
    |_=>exact False.elim h
   |_=>exact False.elim h
def M4:AC:=λh d R=>match h with
 |[.D<|.tuple f]=>R (.D<|.tuple f) d
 |[.C _]=>False
 |[y]=>opt (items d y) λg=>opt (dats g) λf=>R (.D<|.tuple f) d
 |_=>False
def Q3{x:AV}{t:oA AV}{f:M}{R:AV->M->Prop}(h:M4 (x::t) f R):t=[]:=by
 cases t with
 |nil=>rfl
 |cons y t=>
  refine False.elim ?_;cases x with
  |D d=>cases d<;>exact h
  |_=>exact h
def Us{x:AV}{f:M}{R:AV->M->Prop}(g:GO x=false)(h:M4 [x] f R):opt (items f x) λj=>opt (dats j) λi=>R (.D<|.tuple i) f:=by
 cases x with
 |D d=>cases d<;>first|exact h|cases g
 |C i=>cases g
 |_=>exact h
def Xy{x:AV}{g:M}{R:AV->M->Prop}(i:GO x=true)(h:M4 [x] g R):∃f,x=.D (.tuple f)/\R (.D<|.tuple f) g:=by
 cases x with
 |D d=>
  cases d with
  |tuple f=>exact⟨f,rfl,h⟩
  |_=>cases i
 |C f=>exact False.elim h
 |_=>cases i
def Fi:VCall X (.type "tuple") M4:=by
 intro w s u H M q Q I r d;refine B5 d λas G R E hc h hq=>?_;cases E with
 |nil=>exact False.elim h
 |@cons y v F L i B=>
  have D:=Q3 h;subst D;cases B;cases ht:GO y with
  |true=>obtain⟨A,rfl,h⟩:=Xy ht h;obtain⟨p,f,rfl,hp,j⟩:=RelA.tup i;exact G4 w s u H _ q Q I r ⟨p,f,rfl,.inr ⟨hp.sq,hq _ _ _ _ Kp.refl hc i h⟩⟩
  |false=>obtain⟨J,z,h⟩:=A5<|Us ht h;obtain⟨A,C,h⟩:=A5 h;obtain⟨p,f,rfl,hp,j⟩:=Cg hc i z;rcases hp with⟨_,hp⟩|⟨n,_⟩;exact G4 w s u H _ q Q I r ⟨p,f,rfl,.inl ⟨hp,λl g=>hq _ _ _ _ (Kp.new g _) (hc.over g) (M3 A3<|Ap.kp (Kp.new g _) _ _<|j.dats C) h⟩⟩;rw[ht]at n;cases n
def bools:oA AV->oB (oA Bool)
 |[]=>some []
 |.D (.bool b)::r=>match bools r with
  |some d=>some (b::d)
  |none=>none
 |_::_=>none
theorem L5:∀(d:oA Bool),bools (d.map λb=>.D<|.bool b)=some d
 |[]=>rfl
 |b::d=>by simp only[List.map_cons,bools,L5 d]
theorem A4.bools{K:lN}{H:Hp}{xs:oA AV}{g:oA V}{f:oA Bool}(h:A4 K H xs g)(e:L2.bools xs=some f):g=f.map V.bl:=by
 induction h generalizing f with
 |nil=>cases e;rfl
 |@cons x v xs g r t i=>
  cases x with
  |D d=>
   cases d with
   |bool b=>
    simp only[L2.bools]at e;cases q:L2.bools xs with
    |none=>rw[q]at e;cases e
    |some j=>rw[q]at e;cases e;cases RelA.bl r;rw[i q];rfl
   |_=>simp[L2.bools]at e
  |_=>simp[L2.bools]at e
def KL:AC:=λg d R=>match g with
 |[.R a]=>opt (d a) λm=>match m with
  |.lst f=>opt (bools f) λh=>R (.D<|.bool<|h.all id) d
  |_=>False
 |_=>False
def Se(n:X.calm=true):VCall X (.builtin "all") KL:=by
 intro z s f H C y Q I r d;refine B5 d λas A R q hc h hq=>?_;unfold KL at h;split at h
 ·cases q with
  |cons u w=>cases w;obtain⟨m,i,h⟩:=A5 h;split at h;obtain⟨l,g,h⟩:=A5 h;obtain⟨o,j,B,rfl,v⟩:=hc _ _ i;cases (show _=V.ref _ from u);exact Xg n z s f H _ y Q I r ⟨_,l,rfl,Ei.of<|by rw[j,v.bools g],hq _ _ _ _ Kp.refl hc Dp h⟩;exact h.elim
 exact h.elim
def GS:AC:=λf d R=>match f with
 |[.D<|.int i,.D<|.int j]=>R (.D<|.int<|if j>i then j else i) d
 |_=>False
def Xz(j:X.calm=true):VCall X (.builtin "max") GS:=by
 intro u s g H w q Q I r d;refine B5 d λas v R l hc h hq=>?_;unfold GS at h;split at h
 ·cases l with
  |cons n f=>
   cases f with
   |cons f i=>cases i;cases RelA.int n;cases RelA.int f;exact T9 j u s g H _ q Q I r ⟨_,_,rfl,hq _ _ _ _ Kp.refl hc C7 h⟩
 exact h.elim
def L6(d:M):AV->Prop
 |.R a=>opt (d a) λm=>match m with
  |.lst _=>True
  |_=>False
 |.D (.list _)=>True
 |_=>False
def GT:AV->Prop
 |.D (.str _)=>True
 |_=>False
def L6.ty{H:Hp}{d:M}{x:AV}{v:V}(hc:Cn X.K d H)(f:RelA X.K H x v)(h:L6 d x):YV X.K "list" v H:=by unfold L6 at h;split at h;obtain⟨m,e,h⟩:=A5 h;split at h;obtain⟨o,i,j,rfl,_⟩:=hc _ _ e;cases (show v=.ref _ from f);exact .inl ⟨rfl,j,Ei.of i⟩;exact h.elim;obtain⟨a,g,rfl,q,_⟩:=RelA.lst f;exact .inl ⟨rfl,g,q.sq⟩;exact h.elim
def Qas(m:AV->AC)(to:AE):AE:=λg f R=>to g f λx d=>L6 d x/\m x [] d R
def vBL(m:AV->AC)(to:AE)(t:AA):AE:=λg h R=>to g h λx d=>L6 d x/\t g d λi f=>m x i f R
def vBS(m:AV->AC)(to:AE)(t:AA):AE:=λg h R=>to g h λx f=>GT x/\t g f λi d=>m x i d R
def KM(slot:Slot "list" name ij) (s:typeOf (.builtin ij)=pure (.type "method_descriptor")) (hm:VMt X ij m) (l:VE X o to)
  (n:attributeBase o name X.env (eval o X.env)=eval o X.env:=by rfl) (w:(au.endLine==ak.line)=true:=by rfl):VE X (.Call (.Attribute o name au) [] [] ak) (Qas m to) :=
 (Mr PySem.F.plainAttrs_list slot s hm l n w).imp λz H Q d=>B5 d λy j R q hc h hq=>⟨y,j,_,q,hc,h,λx f v A u i g hx=>⟨hx.1.ty i g,x,[],f,R,g,.nil,i,hx.2,hq.kp u⟩⟩
def E4(slot:Slot "list" name ij) (A:typeOf (.builtin ij)=pure (.type "method_descriptor")) (hm:VMt X ij m) (E:VE X o to) (ha:VA X (e::es) t)
  (y:attributeBase o name X.env (eval o X.env)=eval o X.env:=by rfl)
  (z:((backTo ak<|starEach (e::es) X.env).all (λx=>!x.1)&&(backToKw ak<|keywordEach [] X.env).all (λx=>x.1.isSome)
   && decide ((e::es).length+([]:oA Keyword).length+(if([]:oA Keyword).isEmpty then 0 else 1)<30))=true:=by rfl) (D:(au.endLine==ak.line)=true:=by rfl) (f:starEach (e::es) X.env=(false,eval e X.env)::starEach es X.env:=by rfl) (I:(backTo ak<|starEach es X.env).any (·.1)=false:=by rfl) :
  VE X (.Call (.Attribute o name au) (e::es) [] ak) (vBL m to t) :=
 (GK PySem.F.plainAttrs_list slot A hm E ha y z D f I).imp λM H Q d=>B5 d λs u R f hc h hq=>⟨s,u,_,f,hc,h,λx g v N l q j hx=>⟨hx.1.ty q j,s,g,_,f.kp l,q,hx.2,λG i J O n C B L w=>
  ⟨x,G,i,R,j.kp n,B,C,w,hq.kp<|l.trans n⟩⟩⟩
def SD(slot:Slot "str" name ij) (z:typeOf (.builtin ij)=pure (.type "method_descriptor")) (hm:VMt X ij m) (D:VE X o to) (ha:VA X (e::es) t)
  (w:attributeBase o name X.env (eval o X.env)=eval o X.env:=by rfl)
  (y:((backTo ak<|starEach (e::es) X.env).all (λx=>!x.1)&&(backToKw ak<|keywordEach [] X.env).all (λx=>x.1.isSome)
   && decide ((e::es).length+([]:oA Keyword).length+(if([]:oA Keyword).isEmpty then 0 else 1)<30))=true:=by rfl) (C:(au.endLine==ak.line)=true:=by rfl) (f:starEach (e::es) X.env=(false,eval e X.env)::starEach es X.env:=by rfl) (I:(backTo ak<|starEach es X.env).any (·.1)=false:=by rfl) :
  VE X (.Call (.Attribute o name au) (e::es) [] ak) (vBS m to t) :=
 (GK PySem.F.plainAttrs_str slot z hm D ha w y C f I).imp λM H Q d=>B5 d λq s R f hc h hq=>⟨q,s,_,f,hc,h,λx g v N l E j hx=>⟨by
   obtain⟨hx,_⟩:=hx;unfold GT at hx;split at hx;cases RelA.str j;rfl;exact hx.elim,q,g,_,f.kp l,E,hx.2,λG i J O n B A L u=>
  ⟨x,G,i,R,j.kp n,A,B,u,hq.kp<|l.trans n⟩⟩⟩
def M5:AV->AC:=λx g d R=>match x,g with
 |.R a,[y]=>opt (d a) λm=>match m with
  |.lst f=>f.length<sizeLine/\R (.D .none) (Ao d a<|.lst<|f++[y])
  |_=>False
 |_,_=>False
def Dx:VMt X "list.append" M5:=by
 intro B s j H x D v A Q I i r d;refine Ev d λa as C R n w hc h hq=>?_;unfold M5 at h;split at h
 ·rename_i a y;obtain⟨m,l,h⟩:=A5 h;split at h
  ·cases w with
   |cons u z=>cases z;obtain⟨o,f,q,rfl,g⟩:=hc _ _ l;cases (show x=.ref a from n);exact Lr B s j H _ _ v A Q I i r ⟨a,q,_,rfl,rfl,f,by rw[<- g.length];exact h.1,hq _ _ _ _ (Kp.put f trivial _) (hc.put f trivial (Dh<|g.append<|.cons u .nil)) Hg h.2⟩
  exact h.elim
 exact h.elim
def Sg:AV->AC:=λx h d R=>match x,h with
 |.R a,[.R b]=>opt (d a) λm=>opt (d b) λn=>match m,n with
  |.lst f,.lst g=>f.length+g.length<=sizeLine/\R (.D .none) (Ao d a<|.lst<|f++g)
  |_,_=>False
 |_,_=>False
def F0:VMt X "list.extend" Sg:=by
 intro F s A H x L v y Q I j r f;refine Ev f λa as G R C u hc h hq=>?_;unfold Sg at h;split at h
 ·rename_i a b;obtain⟨m,l,h⟩:=A5 h;obtain⟨n,D,h⟩:=A5 h;split at h
  ·cases u with
   |cons E w=>cases w;obtain⟨o,g,q,rfl,i⟩:=hc _ _ l;obtain⟨J,B,z,rfl,d⟩:=hc _ _ D;cases (show x=.ref a from C);cases (show _=V.ref b from E);exact Ud F s A H _ _ v y Q I j r ⟨a,b,q,z,rfl,rfl,g,B,by rw[<- i.length,<- d.length];exact h.1,hq _ _ _ _ (Kp.put g trivial _) (hc.put g trivial (Dh<|i.append d)) Hg h.2⟩
  exact h.elim
 exact h.elim
def SE:AV->AC:=λx g f R=>match x,g with
 |.R a,[]=>opt (f a) λm=>match m with
  |.lst d=>opt d[d.length-1]? λy=>R y (Ao f a<|.lst d.dropLast)
  |_=>False
 |_,_=>False
def SG:VMt X "list.pop" SE:=by intro D s j H x F v C Q I i r d;refine Ev d λa as E R q A hc h hq=>?_;unfold SE at h;split at h;rename_i a;obtain⟨m,l,h⟩:=A5 h;split at h;obtain⟨y,n,h⟩:=A5 h;cases A;obtain⟨o,f,u,rfl,g⟩:=hc _ _ l;cases (show x=.ref a from q);obtain⟨z,w,B⟩:=g.get n;exact JN D s j H _ _ v C Q I i r ⟨a,u,z,rfl,rfl,f,by rw[<- g.length];exact w,hq _ _ _ _ (Kp.put f trivial _) (hc.put f trivial (Dh<|g.dropLast)) (B.kp<|Kp.put f trivial _) h⟩;exact h.elim;exact h.elim
end
section
variable {X:Cx}{a b c:lQ}{ta tb tc:AE}{pos:Pos}{x:Str}{p:Pos}{e:lQ}{es:oA lQ}{t:AA}{k:Nat}{ps:oA Str}{sp:ASp}{st:lU}{rest:oA lU}{s1 s2:AS}{tg:lQ}{N':oA Str}{mp:oA<|oB Nat}{d6 iter:lQ}{dc:oA lQ}{scope:lX}{wi:AI}{g:AG}{tst:AT}{te:AE}{P:lO}{w:lP}{K:lN}{mg:Str->oB lJ}{base:lS}
def kit(S T:String):Bool:=S==T||(S == "bool" && T == "int")
def YY(d:M):AV->oB String
 |.D .none=>some "NoneType"
 |.D (.bool _)=>some "bool"
 |.D (.int _)=>some "int"
 |.D (.str _)=>some "str"
 |.D (.list _)=>some "list"
 |.D (.tuple _)=>some "tuple"
 |.D (.dict _)=>none
 |.C _=>some "tuple"
 |.X _ _=>none
 |.R a=>match d a with
  |some (.lst _)=>some "list"
  |some (.dk _)=>some "dict"
  |some (.dt _)=>some "dict"
  |some (.dd _)=>some "dict"
  |none=>none
def Qat(T:String)(te:AE):AE:=λh f R=>te h f λx d=>opt (YY d x) λS=>R (.D<|.bool<|kit S T) d
def Kits(K:lN)(T:String):Prop:=∀S∈["NoneType","bool","int","str","list","tuple","dict"],PySem.W.kitOne K (.type S) (.type T)=some (kit S T)
def KN{G:oA<|lM×lT}{F:St}{H:Hp}{s:lK}{E:lJ->lK->Prop}{Q:lJ->lK->Prop}{B:M}{x:AV}{v:V}{u:lJ}{S T:String}(I:Inv X G F H s)(hc:Cn X.K B H)(f:RelA X.K H x v)(r:Bf v u)(e:YY B x=some S)(hk:Kits X.K T)
  (h:∀D,Q (.bool<|kit S T) {s with toks:=D}):yL X.prog X.w X.A (call (.builtin "isinstance") [u,.type T]) Q E s:=by
 unfold YY at e;split at e;cases e;cases RelA.non f;cases r;exact dM PySem.W.kitx_none I.kIn True.intro (hk _<|by decide) (λz=>nomatch z) h;cases e;cases RelA.bl f;cases r;exact dM PySem.W.kitx_bool I.kIn True.intro (hk _<|by decide) (λz=>nomatch z) h;cases e;cases RelA.int f;obtain⟨t,rfl⟩:=r;exact dM PySem.W.kitx_int I.kIn True.intro (hk _<|by decide) (λz=>nomatch z) h;cases e;cases RelA.str f;obtain⟨t,rfl⟩:=r;exact dM PySem.W.kitx_str I.kIn True.intro (hk _<|by decide) (λz=>nomatch z) h;cases e;obtain⟨a,d,rfl,q,_⟩:=RelA.lst f;cases r;obtain⟨_,_,⟨o,n,j,m,_⟩,_⟩:=I.list q.sq;exact dM PySem.W.kitx_list I.kIn ⟨o,j,m⟩ (hk _<|by decide) (λz=>nomatch z) h;cases e;obtain⟨a,d,rfl,q,_⟩:=RelA.tup f;cases r;obtain⟨_,_,⟨o,j,m,_⟩,_⟩:=I.tuple q.sq;exact dM PySem.W.kitx_tuple I.kIn ⟨o,j,m⟩ (hk _<|by decide) (λz=>nomatch z) h;cases e;cases e;obtain⟨a,d,rfl,q,_⟩:=f;cases r;obtain⟨_,_,⟨o,j,m,_⟩,_⟩:=I.tuple<|q H;exact dM PySem.W.kitx_tuple I.kIn ⟨o,j,m⟩ (hk _<|by decide) (λz=>nomatch z) h;cases e;rename_i a;cases (show v=.ref a from f);cases r;split at e;rename_i y i;cases e;obtain⟨o,l,d,rfl,_⟩:=hc _ _ i;obtain⟨_,_,⟨o,n,j,m,_⟩,_⟩:=I.list<|Ei.of l;exact dM PySem.W.kitx_list I.kIn ⟨o,j,m⟩ (hk _<|by decide) (λz=>nomatch z) h;rename_i y i;cases e;obtain⟨o,l,d,rfl,_⟩:=hc _ _ i;obtain⟨_,_,J,_,p⟩:=(show Bh X.prog X.w H s.heap a (.dK d) from I.hok a _ l);obtain⟨o,es,C,h1,h2,_⟩:=p;exact dM kO I.kIn ⟨o,h1,h2.1⟩ (hk _<|by decide) (λz=>nomatch z) h;rename_i y i;cases e;obtain⟨o,l,d,rfl,_⟩:=hc _ _ i;obtain⟨_,_,y,_,o,es,C,h1,h2,_⟩:=(show Bh X.prog X.w H s.heap a (.dT d) from I.hok a _ l);exact dM kO I.kIn ⟨o,h1,h2.1⟩ (hk _<|by decide) (λz=>nomatch z) h;rename_i y i;cases e;obtain⟨o,l,d,rfl,_⟩:=hc _ _ i;obtain⟨o,es,C,h1,h2,_⟩:=(show Bh X.prog X.w H s.heap a (.dd d) from I.hok a _ l);exact dM kO I.kIn ⟨o,h1,h2.1⟩ (hk _<|by decide) (λz=>nomatch z) h;cases e
def KO{T:String}{x:Str}{p f:Pos}(L:Gl X "isinstance") (hm:X.mg "isinstance" = none) (G:Gl X x) (B:X.mg x=none) (N:bootBuiltins x=some (.type T)) (hk:Kits X.K T) (he:VE X a ta)
  (z:x ≠ "__name__" := by decide) (y:(x==("__debug__" : Str))=false:=by decide)
  (q:starEach [a,.Name x f] X.env=(false,eval a X.env)::starEach [.Name x f] X.env:=by rfl) (F:starEach [.Name x f] X.env=[(false,eval (.Name x f) X.env)]:=by rfl) (hpl:(backTo pos<|starEach [.Name x f] X.env).any (·.1)=false:=by rfl) :
  VE X (.Call (.Name "isinstance" p) [a,.Name x f] [] pos) (Qat T ta):=by
 intro O s J H Q I j;refine B5 j λU r R E hc h hq=>?_;refine bN<|Dr I L hm boot_isinstance ?_;refine jK ?_ q hpl;rw[q];refine bD<|thn (he O s J H (λv i=>∃x d S,Kp H i/\Cn X.K d i/\RelA X.K i x v/\YY d x=some S/\R (.D<|.bool<|kit S T) d) I ⟨U,r,_,E,hc,h,λx d v i n l m hx=>?_⟩) λu s1 C=>?_;obtain⟨S,e,hx⟩:=A5 hx;exact⟨x,d,S,n,l,m,e,hx⟩;obtain⟨v,i,o,M,x,d,S,n,l,m,ty,A⟩:=C;rw[F];refine bD<|Dr o G B N (cL ?_) z y;exact KN o l m M ty hk λV=>⟨.bl _,i,o.tok _,rfl,hq _ _ _ _ n l Dp A⟩
abbrev ASp:=oA AV->M->(AV->M->Prop)->Prop
def Fb(K:lN)(n:Nat)(sp:ASp):Sp:=λh H Q _=>∃d f R,d.length=n/\A4 K H d h/\Cn K f H/\sp d f R/\LV K H R Q
def VCal(P:lO)(w:lP)(K:lN)(mg:Str->oB lJ)(base:lS)(k:Nat)(x:Str)(ps:oA Str)(sp:ASp):Prop:=Cal P w K mg base k x ps<|Fb K ps.length sp
def SH(n:Nat)(sp:ASp)(t:AA):AE:=λh f R=>t h f λi d=>sp i d R
def Al(F:VCal X.prog X.w X.K X.mg X.base k x ps sp)(C:Room k X.A)(s:Gl X x)(ha:VA X (e::es) t)(m:(e::es).length=ps.length:=by rfl)(hdb:(x==("__debug__" : Str))=false:=by decide)
  (r:starEach (e::es) X.env=(false,eval e X.env)::starEach es X.env:=by rfl) (hpl:(backTo pos<|starEach es X.env).any (·.1)=false:=by rfl):VE X (.Call (.Name x p) (e::es) [] pos) (SH ps.length sp t):=by
 obtain⟨g,L,G,j,y,o⟩:=F;refine PE.imp (Mm (E:=E0) G C s o y j .nil Xb ha (hdb:=hdb) (he:=r) (hpl:=hpl)) λI H Q d=>B5 d λB i R u hc h hq=>?_;exact⟨B,i,_,u,hc,h,λz f D J n v l q hx=>⟨z,f,R,q.trans m,by rw[cH];exact l,v,hx,hq.kp n⟩⟩
def SI:AS:=λk _ _ _ f d=>k f d
def Ut(t u:AS):AS:=λk r b c f d=>t (u k r b c) r b c f d
def Bi:VSs X [] SI:=BY.imp λD l H d=>Fc d λo i n nr m j f hc h hq=>hq.nx _ _ _ _ Kp.refl f hc h
def Af(h1:VS X st s1)(h2:VSs X rest s2):VSs X (st::rest) (Ut s1 s2):=(Jx h1 h2).imp λD z H d=>Fc d λu j s nr m r n hc h hq=>
 ⟨u,j,_,_,_,_,n,hc,h,⟨λi f v A o l q y=>⟨i,f,s,nr,m,r,l,q,y,hq.kp o⟩,hq.rt,hq.bk,hq.ct⟩⟩
def Ai(h1:VS X st s1):VSs X [st] s1:=Ml h1
def SJ(te:AE):AS:=λk _ _ _ f h=>te f h λ_ d=>k f d
def Bu(he:VE X a ta)(f:swapsWith a none pos.line X.env=pure false:=by rfl):VS X (.Expr a pos) (SJ ta):=(BZ he f).imp λD q H d=>Fc d λn j y nr r u f hc h hq=>
 ⟨n,j,_,f,hc,h,λx m v s i l o hx=>hq.nx _ _ _ _ i (f.kp i) l hx⟩
def Qau(te:AE):AS:=λ_ r _ _ f d=>te f d r
def A6(he:VE X a ta):VS X (.Return (some a) pos) (Qau ta):=(IQ he).imp λD m H d=>Fc d λj f o nr n l i hc h hq=>⟨j,f,_,i,hc,h,hq.rt⟩
def Qav(ct:AT)(t u:AS):AS:=λk r b c f h=>ct f h λx d=>brP x (t k r b c f d)<|u k r b c f d
def Cl{c:lQ}{a b:oA lU}{tc:AT}(hc:VT X c tc)(ha:VSs X a s1)(hb:VSs X b s2):VS X (.If c a b pos) (Qav tc s1 s2):=(QM hc ha hb).imp λD u H f=>Fc f λl s r nr n q j hc h hq=>
 ⟨l,s,_,j,hc,h,λk d v i o hk=>by
  rcases br_e hk with⟨rfl,m⟩|⟨rfl,m⟩;exact⟨l,d,r,nr,n,q,j.kp i,o,m,hq.kp i⟩;exact⟨l,d,r,nr,n,q,j.kp i,o,m,hq.kp i⟩⟩
def KP:AS:=λ_ _ _ _ _ _=>False
def X0:VS X st KP:=Wc.imp λD j H d=>Fc d λo f m nr l i n hc h hq=>h.elim
def Eb(i:Nat):AG:=λv f d R=>R (f.set i<|some v) d
def Aj{i:Nat}{x:Str}(l:X.N.Nodup)(hi:X.N[i]?=some x)(hx:Loc X.env.scope x)(m:X.fn x=true\/X.env.scope.names.lookup x=some .local:=by first|exact .inl rfl|exact .inr rfl|assumption):VG X (.Name x pos) (Eb i) :=
 (CA l hi hx m).imp λv o H Q d=>Ev d λx q n R f j hc h hq=>hq _ _ _ _ Kp.refl (j.set f i) hc h
def Oq:AGs:=λf h d R=>match f with
 |[]=>R h d
 |_::_=>False
def Fm(t:AG)(u:AGs):AGs:=λi j h R=>match i with
 |[]=>False
 |v::r=>t v j h λd f=>u r d f R
def B8:VGs X [] Oq:=CB.imp λn m H Q d=>Ev d λl o j R f i hc h hq=>by
 cases f with
 |nil=>exact⟨rfl,hq _ _ _ _ Kp.refl i hc h⟩
 |cons=>exact h.elim
def Ay{e:lQ}{es:oA lQ}{t:AG}{u:AGs}(h1:VG X e t)(h2:VGs X es u)
  (f:(assignEach (e::es) X.env).map (·.2)=assign e X.env::(assignEach es X.env).map (·.2):=by rfl):VGs X (e::es) (Fm t u):=(We h1 h2 f).imp λB A H Q d=>Ev d λD s m R o f hc h hq=>by
 cases o with
 |nil=>exact h.elim
 |cons z r=>exact⟨_,_,rfl,_,s,m,_,z,f,hc,h,λj i v C l n q y=>⟨_,j,i,R,A4.kp l r,n,q,y,hq.kp l⟩⟩
def SK(n:Nat)(t:AGs):AG:=λv h f R=>match v with
 |.D (.tuple d)=>d.length=n/\t (d.map .D) h f R
 |_=>False
def Ds{es:oA lQ}{k:Nat}{t:AGs}{n:Nat}(l:X.calm=true)(h:VGs X es t)
  (hn:(assignEach es X.env).length=n:=by rfl) (o:(assignEach es X.env).findIdx? (·.1)=none:=by rfl):VG X (.Tuple es k pos) (SK n t):=(Wg l h hn o).imp λv u H Q d=>Ev d λx s f R i j hc h hq=>by
 unfold SK at h;split at h;obtain⟨a,m,rfl,q,r⟩:=RelA.tup i;exact⟨a,m,rfl,q.sq,by rw[r.length];exact h.1,_,s,f,R,r.rel,j,hc,h.2,hq⟩;exact h.elim
def Qc1(o i v:AV)(d:M)(R:M->Prop):Prop:=match o,i with
 |.R a,.D (.int k)=>opt (d a) λm=>match m with
  |.lst f=>opt (CN f.length k) λj=>R (Ao d a<|.lst<|f.set j v)
  |_=>False
 |_,_=>False
def Uu(te:AE)(g:AG):AS:=λk _ _ _ f h=>te f h λx d=>g x f d k
def X1{K:lN}{te:AE}{g:AG}{D:Ends}{f:St}{H:Hp}(h:cS K (Uu te g) D f H):CC (cE K te) (cG K g) D f H:=by obtain⟨l,m,u,nr,q,s,i,hc,h,hq⟩:=h;exact⟨l,m,_,i,hc,h,λx d v r j o n hx=>⟨x,l,d,_,n,i.kp j,o,hx,hq.nx.kp j⟩⟩
def KQ{tg:lQ}{g:AG}(he:VE X a ta)(f:VG X tg g)(i:swapsWithSole [tg] a pos.line X.env=pure false:=by rfl)(d:swappedStores [tg] a X.env=pure none:=by rfl)
  (h1:(assignEach [tg] X.env).map (·.2)=[assign tg X.env]:=by rfl):VS X (.Assign [tg] a pos) (Uu ta g):=(IS he f i d h1).imp λ_ _ _ h=>X1 h
def Aq{i:Nat}{x:Str}{l:Pos}(o:X.N.Nodup)(hi:X.N[i]?=some x)(hx:Loc X.env.scope x)(he:VE X a ta)(f:swapsWith a (some<|.Name x l) pos.line X.env=pure false:=by rfl)(s:X.fn x=true\/X.env.scope.names.lookup x=some .local:=by first|exact .inl rfl|exact .inr rfl|assumption) :
  VS X (.Assign [.Name x l] a pos) (Uu ta<|Eb i):=(IT o hi hx he f s).imp λD y H d=>Fc d λu m C nr z B f hc h hq=>
 ⟨u,m,_,f,hc,h,λx r v A j q n hx=>hq.nx _ _ _ _ j ((f.kp j).set n i) q hx⟩
def Qc2(i j:Nat)(t:AA):AS:=λk _ _ _ f h=>t f h λl d=>match l with
 |[v,w]=>k ((f.set i<|some v).set j<|some w) d
 |_=>False
def SL(i j l:Nat)(t:AA):AS:=λk _ _ _ f h=>t f h λm d=>match m with
 |[u,v,w]=>k (((f.set i<|some u).set j<|some v).set l<|some w) d
 |_=>False
def DQ{i j l:Nat}{x y z:Str}{t:AA}{r o m n:Pos}{kt k2 pt2}(hc:X.calm=true)(E:X.N.Nodup)(hi:X.N[i]?=some x)(hj:X.N[j]?=some y)(v:X.N[l]?=some z)(s:i≠j)(L:i≠l)(C:j≠l)
  (hx:X.env.scope.names.lookup x=some .local) (hy:X.env.scope.names.lookup y=some .local) (hz:X.env.scope.names.lookup z=some .local) (ha:VA X [a,b,c] t) (I:swappedStores [.Tuple [.Name x r,.Name y o,.Name z m] kt n] (.Tuple [a,b,c] k2 pt2) X.env=pure (some [x,y,z]))
  (f:swapsWithSole [.Tuple [.Name x r,.Name y o,.Name z m] kt n] (.Tuple [a,b,c] k2 pt2) pos.line X.env=pure false:=by rfl) :
  VS X (.Assign [.Tuple [.Name x r,.Name y o,.Name z m] kt n] (.Tuple [a,b,c] k2 pt2) pos) (SL i j l t):=(DE hc E hi hj v s L C hx hy hz ha I f).imp λD U H d=>Fc d λO B T nr R W f hc h hq=>
 ⟨O,B,_,f,hc,h,λY G S V A M F v hx=>by
  split at hx
  ·cases F with
   |cons Q q=>
    cases q with
    |cons q u=>
     cases u with
     |cons u J=>cases J;exact⟨_,_,_,rfl,hq.nx _ _ _ _ A ((((f.kp A).set Q i).set q j).set u l) M hx⟩
  exact hx.elim⟩
def wl(c:AT)(tb:AS)(k:ASt->M->Prop)(r:AV->M->Prop):Nat->ASt->M->Prop
 | 0=>λ_ _=>False
 |n+1=>λf h=>c f h λx d=>brP x (tb (wl c tb k r n) r k (wl c tb k r n) f d)<|k f d
def KR(c:AT)(tb:AS):AS:=λk r _ _ f d=>∃n,wl c tb k r n f d
def Os{c:lQ}{o:oA lU}{tc:AT}{tb:AS}(hp:PassesOwn (model X.prog X.w) X.A X.env X.xe)(hc:VT X c tc)(hb:VSs X o tb):VS X (.While c o [] pos) (KR tc tb):=(Wh hp hc hb).imp λD V H O=>Fc O λR N M nr U W Q hc T hq=>by
 obtain⟨n,h⟩:=T;refine⟨λm s u=>∃ i j,Kp H u/\Dq X.K u i s/\Cn X.K j u/\wl tc tb M nr m i j,⟨n,R,N,Kp.refl,Q,hc,h⟩,?_⟩;rintro m s u ⟨i,j,J,E,C,h1⟩;cases m with
 |zero=>exact h1.elim
 |succ m=>refine⟨i,j,_,E,C,h1,λk I Y v L hk=>?_⟩;rcases br_e hk with⟨rfl,z⟩|⟨rfl,z⟩;rw[P_ rfl];refine⟨λl r=>∃ f d,Kp H r/\Dq X.K r f l/\Cn X.K d r/\wl tc tb M nr m f d,by rintro l r ⟨f,d,q⟩;exact ⟨m,fE _,f,d,q⟩,i,I,_,_,_,_,E.kp v,L,z,?_⟩;have S:=J.trans v;exact⟨λf d l r y B F G=>⟨f,d,S.trans y,B,F,G⟩,hq.rt.kp S,hq.nx.kp S,λf d l r y B F G=>⟨f,d,S.trans y,B,F,G⟩⟩;rw[H_ U_];exact hq.nx _ _ _ _ (J.trans v) (E.kp v) L z
structure ItOk(K:lN)(H0:Hp)(J:It)(xs:oA AV)(kp:M->Prop):Prop where
 go:∀i H μ,Kp H0 H->Cn K μ H->kp μ->i<xs.length->J.go i H
 yld:∀i H μ v H' x,Kp H0 H->Cn K μ H->kp μ->xs[i]?=some x->J.yld i H v H'->Kp H H'/\Cn K μ H'/\RelA K H' x v
 stop:∀H μ,Kp H0 H->Cn K μ H->kp μ->J.stop xs.length H
abbrev AI:=ASt->M->(oA AV->(M->Prop)->M->Prop)->Prop
def cI(K:lN)(wi:AI):TI:=λn H R=>∃ l h j,Dq K H l n/\Cn K h H/\wi l h j/\∀i m d J f,Kp H f->Cn K d f->ItOk K f J i m->j i m d->R J f
def VI(X:Cx)(tg iter:lQ)(wi:AI):Prop:=PI X tg iter<|cI X.K wi
def PI.imp{tg e:lQ}{t u:TI}(h:PI X tg e t)(i:∀ d H Q,u d H Q->t d H Q):PI X tg e u:=λf s d H Q I q=>h f s d H Q I<|i d H Q q
def Uv{K:lN}{m:Hp}{a:lM}{xs:oA AV}{l:M->Prop}(h:∀H f,Kp m H->Cn K f H->l f->∃d,Ei K H a d/\A4 K H xs d):ItOk K m (Itl K a) xs l:=by refine⟨λi H f S c k hi=>?_,λi H f v o x S c k e y=>?_,λH f S c k=>?_⟩;obtain⟨d,q,r⟩:=h H f S c k;exact⟨d,d[i]'(by rw[<- r.length];exact hi),q,K_ _⟩;obtain⟨d,q,r⟩:=h H f S c k;obtain⟨rfl,y⟩:=y;obtain⟨u,j,n⟩:=r.get e;rw[y d q]at j;cases j;exact⟨Kp.refl,c,n⟩;obtain⟨d,q,r⟩:=h H f S c k;exact⟨d,q,by rw[r.length];exact F_ _⟩
def X2{K:lN}{m:Hp}{a:lM}{xs:oA AV}{l:M->Prop}(h:∀H f,Kp m H->Cn K f H->l f->∃d,Il K H a d/\A4 K H xs d):ItOk K m (Itt K a) xs l:=by refine⟨λi H f S c k hi=>?_,λi H f v o x S c k e y=>?_,λH f S c k=>?_⟩;obtain⟨d,q,r⟩:=h H f S c k;exact⟨d,d[i]'(by rw[<- r.length];exact hi),q,K_ _⟩;obtain⟨d,q,r⟩:=h H f S c k;obtain⟨rfl,y⟩:=y;obtain⟨u,j,n⟩:=r.get e;rw[y d q]at j;cases j;exact⟨Kp.refl,c,n⟩;obtain⟨d,q,r⟩:=h H f S c k;exact⟨d,q,by rw[r.length];exact F_ _⟩
def Eg(lo:Int):Nat->oA AV
 | 0=>[]
 |n+1=>.D (.int lo)::Eg (lo+1) n
theorem Bs:∀(n:Nat) (lo:Int),(Eg lo n).length=n
 | 0,_=>rfl
 |n+1,lo=>by rw[Eg,aX,Bs n]
theorem Ga:∀(n:Nat) (lo:Int) (i:Nat) {x:AV},(Eg lo n)[i]?=some x->x=.D (.int<|lo+i)
 | 0,_,_,_,h=>by simp[Eg]at h
 |n+1,lo,0,_,h=>by simp[Eg]at h;rw[<- h];simp
 |n+1,lo,i+1,_,h=>by rw[Eg,iO]at h;rw[Ga n (lo+1) i h];congr 2;omega
def X3{K:lN}{f:Hp}{lo:Int}{n:Nat}:ItOk K f (Itr lo n) (Eg lo n) (λ_=>True):=by refine⟨λi H d S c k hi=>?_,λi H d v h x S c k e y=>?_,λH d S c k=>?_⟩;show i<n;rw[Bs]at hi;exact hi;obtain⟨rfl,rfl⟩:=y;rw[Ga n lo i e];exact⟨Kp.refl,c,C7⟩;show n<=_;rw[Bs];exact F_ _
def SM(t:AA):AI:=λi f R=>t i f λh d=>match h with
 |[.D<|.int j]=>-(2^62)<=j/\j<2^62/\R (Eg 0 j.toNat) (λ_=>True) d
 |_=>False
def Cz{t:AA}{p:Pos}(j:Gl X "range") (hm:X.mg "range" = none) (ha:VA X [a] t) (f:starEach [a] X.env=[(false,eval a X.env)]:=by rfl):VI X tg (.Call (.Name "range" p) [a] [] pos) (SM t) :=
 (Tz j hm ha f).imp λu H Q d=>B5 d λs i R f hc h hq=>⟨s,i,_,f,hc,h,λA o v y r m n z hx=>by
  split at hx
  ·cases n with
   |cons l q=>cases q;cases RelA.int l;exact⟨_,rfl,hx.1,hx.2.1,hq _ _ _ _ _ r m X3 hx.2.2⟩
  exact hx.elim⟩
def fl(g:AG)(tb:AS)(k:ASt->M->Prop)(r:AV->M->Prop)(f:M->Prop):oA AV->ASt->M->Prop
 |[]=>λh d=>f d/\k h d
 |x::l=>λh d=>f d/\g x h d λi j=>tb (fl g tb k r f l) r k (fl g tb k r f l) i j
def Qaw(wi:AI)(g:AG)(tb:AS):AS:=λk r _ _ f h=>wi f h λi j d=>fl g tb k r j i f d
def SN{g:AG}{tb:AS}{k:ASt->M->Prop}{r:AV->M->Prop}{f:M->Prop}{xs:oA AV}{τ:ASt}{d:M}(h:fl g tb k r f xs τ d):f d:=by
 cases xs with
 |nil=>exact h.1
 |cons x xs=>exact h.1
def Cc{iter:lQ}{n:oA lU}{wi:AI}{g:AG}{tb:AS}(hp:PassesOwn (model X.prog X.w) X.A X.env X.xe)(ff:X.calm=true)(hi:VI X tg iter wi)(hg:VG X tg g)(hb:VSs X n tb)(G:∀x,foldedSetIterable iter X.env x=pure x:=by intro _;rfl) :
  VS X (.For tg iter n [] pos) (Qaw wi g tb):=(Wj hp ff hi hg hb G).imp λD σ H s=>Fc s λW Y nk nr nb nc T hc h hq=>by
 refine⟨W,Y,_,T,hc,h,λV kp C J R z c0 Q h0=>?_⟩;refine Xh V.length (λi l m=>∃ f d,Kp R m/\Dq X.K m f l/\Cn X.K d m/\fl g tb nk nr kp (V.drop i) f d) ⟨W,C,Kp.refl,T.kp z,c0,h0⟩ ?_ ?_ ?_;rintro i l m hi ⟨f,d,q,u,j,h1⟩;exact Q.go i m d q j (SN h1) hi;rintro l m ⟨f,d,q,u,j,h1⟩;rw[dO]at h1;exact⟨Q.stop m d q j h1.1,hq.nx _ _ _ _ (z.trans q) u j h1.2⟩;rintro i v l m H2 hi ⟨f,d,q,u,j,h1⟩ y;rw[bR hi]at h1;obtain⟨hk,h1⟩:=h1;obtain⟨U,c2,rx⟩:=Q.yld i m d v H2 _ q j hk (K_ hi) y;refine⟨_,f,d,_,rx,u.kp U,c2,h1,λM N Z H3 S3 fm L h3=>⟨M,N,_,_,_,_,fm,L,h3,?_⟩⟩;have S:Kp R H3:=q.trans<|U.trans S3;exact⟨λr o E H' B F I O=>⟨r,o,S.trans B,F,I,O⟩,hq.rt.kp<|z.trans S,hq.nx.kp<|z.trans S,λr o E H' B F I O=>⟨r,o,S.trans B,F,I,O⟩⟩
def VIfs(X:Cx)(dc:oA lQ)(t:AT):Prop:=PIfs X dc<|cT X.K t
def KS:AT:=λ_ d R=>R true d
def Bl:VIfs X [] KS:=λi s f H Q I d=>B5 d λm j R l hc h hq=>Xc i s f H Q I<|hq _ _ _ Kp.refl hc h
def Cy{t:AT}(h:VT X a t):VIfs X [a] t:=Xd h
def cl(p:lM)(g:AG)(tst:AT)(te:AE)(l:M->Prop)(R:M->Prop):oA AV->oA AV->ASt->M->Prop
 |[]=>λ_ _ h=>l h/\R h
 |x::n=>λd o h=>l h/\g x o h λf m=>tst f m λk j=>
  brP k (te f j λv i=>i p=some (.lst d)/\d.length<sizeLine/\cl p g tst te l R n (d++[v]) f (Ao i p<|.lst<|d++[v])) (cl p g tst te l R n d f j)
def Ot(mp:oA<|oB Nat)(wi:AI)(g:AG)(tst:AT)(te:AE):AE:=λh i R=>wi h i λj l d=>∀p,d p=none->cl p g tst te l (λf=>R (.R p) f) j [] (KC mp h) (Ao d p<|.lst [])
def SO{p:lM}{g:AG}{tst:AT}{te:AE}{f:M->Prop}{R:M->Prop}{xs acc:oA AV}{τ:ASt}{d:M}(h:cl p g tst te f R xs acc τ d):f d:=by
 cases xs with
 |nil=>exact h.1
 |cons x xs=>exact h.1
def L7{K:lN}{mp:oA<|oB Nat}{wi:AI}{g:AG}{tst:AT}{te:AE}{σ:St}{H:Hp}{Q:VK}(h:cE K (Ot mp wi g tst te) σ H Q):Xf mp (cI K wi) (cG K g) (cT K tst) (cE K te) σ H Q:=by obtain⟨τ,μ,R,hs,hc,h,hq⟩:=h;refine⟨τ,μ,_,hs,hc,h,λxs kp G J E S0 c0 N h0=>?_⟩;intro p hp;have h0:=h0 p<|c0.none hp;have W:Cn K (Ao G p<|.lst []) (upd E p<|.lst []):=c0.new hp<|Dh<|.nil;have B:Kp E (upd E p<|.lst []):=Kp.new hp _;refine R9 xs.length (λi m n l=>∃ j d as,Kp E l/\Dq K l j n/\Cn K d l/\A4 K l as m/\cl p g tst te kp (λO=>R (.R p) O) (xs.drop i) as j d) ⟨_,_,[],B,((hs.kp S0).kp B).sub mp,W,.nil,h0⟩ ?_ ?_ ?_;rintro i m n l hi ⟨j,d,as,r,U,f,V,h1⟩;exact N.go i l d r f (SO h1) hi;rintro m n l ⟨j,d,as,r,U,f,V,h1⟩;rw[dO]at h1;exact⟨N.stop l d r f h1.1,hq _ _ _ _ (S0.trans r) f Ea h1.2⟩;rintro i v m n l H2 hi ⟨j,d,as,r,U,f,V,h1⟩ y;rw[bR hi]at h1;obtain⟨hk,h1⟩:=h1;obtain⟨I,c2,rx⟩:=N.yld i l d v H2 _ r f hk (K_ hi) y;refine⟨_,j,d,_,rx,U.kp I,c2,h1,λq M σ3 H3 S3 D L h3=>⟨q,M,_,D,L,h3,λk z H4 A c4 h4=>?_⟩⟩;rcases br_e h4 with⟨rfl,s⟩|⟨rfl,s⟩;rw[P_ rfl];refine⟨q,z,_,D.kp A,c4,s,λw μ5 u H5 Y Z rw T=>?_⟩;obtain⟨e5,hl,T⟩:=T;obtain⟨o,C,vs,rfl,F⟩:=Z _ _ e5;have S:Kp l H5:=I.trans<|S3.trans<|A.trans Y;exact⟨vs,C,by rw[<- F.length];exact hl,q,_,_,(r.trans S).trans<|Kp.put C trivial _,(D.kp<|A.trans Y).kp<|Kp.put C trivial _,Z.put C trivial (Dh<|F.append<|.cons rw .nil),(F.append<|.cons rw .nil).kp<|Kp.put C trivial _,T⟩;rw[H_ U_];have S:Kp l H4:=I.trans<|S3.trans A;exact⟨q,z,as,r.trans S,D.kp A,c4,V.kp S,s⟩
def SQ(R:AV->M->Prop):ASt->M->Prop:=λ_ d=>∃ f,Sub f d/\R (.D .none) f
def OX(R:AV->M->Prop):AV->M->Prop:=λv d=>∃ f,Sub f d/\R v f
def BS:ASt->M->Prop:=λ_ _=>False
def Fun.vok{x d:Str}{st:lU}{f:lM}{C:lV}{N ps:oA Str}{k:Nat}{sp:ASp}(F:Fun K x d st f C)(S:FnScope N ps<|Ad st) (M:∀(o:lJ) (A:lR) (outer:oA Env) (s:lK) (H:Hp) (E:XK),Room k (A.deeper<|envOfC d (Ad st) s.heap.objs.size f o) ->
   ∃t,VSs (Fv Dz P w K mg base N d (Ad st) f o A outer s H E).nox (Au st) t/\∀j l R,j.length=ps.length->sp j l R->t (SQ R) (OX R) BS BS (D1 N j) l):FnOk P w K mg base Dz (k+1) f C ps (Fb K ps.length sp):=by
 refine F.ok S (λD H Q E h=>?_) λo A outer s H D Q E T h=>?_;obtain⟨j,l,R,B,z,_⟩:=h;rw[<- z.length];exact B;obtain⟨j,l,R,B,z,hc,J,hq⟩:=h;obtain⟨t,L,h⟩:=M o A outer s H E T;refine⟨_,L,D1 N j,l,_,_,_,_,Dq.begin z,hc,h j l R B J,⟨λV q U G y _ c m=>K9 m λO i r=>?_,λv q u G y c I n=>K9 n λO i r=>?_,λ_ _ _ _ _ _ _ h=>h.elim,λ_ _ _ _ _ _ _ h=>h.elim⟩⟩;exact hq _ _ _ _ y (c.sub i) Hg r;exact hq _ _ _ _ y (c.sub i) I r
def KU(t:AE):AI:=λi f R=>t i f λx d=>opt (items d x) λh=>R h (λf=>items f x=some h) d
def Bc(E:VE X a ta):VI X tg a (KU ta):=by
 intro L s G H R I r;refine B5 r λN m M J hc h hq=>?_;refine thn (E L s G H (λv j=>∃x d l,Kp H j/\Cn X.K d j/\RelA X.K j x v/\items d x=some l/\M l (λm=>items m x=some l) d) I ⟨N,m,_,J,hc,h,λx d v j y u n hx=>?_⟩) λv s1 F=>?_;obtain⟨l,e,hx⟩:=A5 hx;exact⟨x,d,l,y,u,n,e,hx⟩;obtain⟨T,j,f,O,x,d,l,y,u,n,e,hx⟩:=F;obtain⟨p,Q,rfl,hp,U⟩:=Cg u n e;cases O;rcases hp with⟨k,hp⟩|⟨k,hp⟩;obtain⟨C,D,B,hz⟩:=f.list hp;refine iW B.isList ?_;refine⟨s1.heap.objs.size,[s1.heap.objs.size],_,_,j,rfl,f.kept (t':=s1.toks) λb o e=>DD _ e,Ty p _,⟨_,O_ _ rfl,rfl,rfl⟩,λb hb=>?_,hq _ _ _ _ _ y u (Uv λH m S c A=>?_) hx⟩;have e:b=s1.heap.objs.size:=by simpa using hb
 subst e;exact f.fpOk (F_ _)<|f.hok.fresh<|F_ _;obtain⟨q,z,e,i,rw⟩:=Cg c (n.kp S) A;cases e;rcases i with⟨_,i⟩|⟨k3,_⟩;exact⟨z,i,rw⟩;rw[k]at k3;cases k3;obtain⟨C,D,B,hz⟩:=f.tuple hp;refine iH (show s1.heap.IsTuple p C.toArray from B) ?_;refine⟨s1.heap.objs.size,[s1.heap.objs.size],_,_,j,rfl,f.kept (t':=s1.toks) λb o e=>DD _ e,Qf p _,⟨_,O_ _ rfl,rfl,rfl⟩,λb hb=>?_,hq _ _ _ _ _ y u (X2 λH m S c A=>?_) hx⟩;have e:b=s1.heap.objs.size:=by simpa using hb
 subst e;exact f.fpOk (F_ _)<|f.hok.fresh<|F_ _;obtain⟨q,z,e,i,rw⟩:=Cg c (n.kp S) A;cases e;rcases i with⟨k3,_⟩|⟨_,i⟩;rw[k]at k3;cases k3;exact⟨z,i,rw⟩
end
section
variable {c:AT}{g:AG}{tb:AS}{k:ASt->M->Prop}{r:AV->M->Prop}{bb cc:ASt->M->Prop}{tst:AT}{te:AE}{X:Cx}{K:lN}{H:Hp}{o i e value:lQ}{pos bo:Pos}{td ty tv tx:AE}
def Si{τ:ASt}{a:M}(I:Nat->ASt->M->Prop)(m:Nat)(h0:I m τ a)
  (step:∀m τ a (W:ASt->M->Prop),I m τ a->(∀j d b,j<m->I j d b->W d b)->c τ a λx f=>brP x (tb W r k W τ f)<|k τ f):∃n,wl c tb k r n τ a:=by
 have l:∀n m τ a,m<n->I m τ a->wl c tb k r n τ a:=by
  intro n
  induction n with
  |zero=>intro m τ a h _;omega
  |succ n q=>intro m τ a h s;exact step m τ a (wl c tb k r n) s λj d b hm p=>q j d b (by omega) p
 exact⟨m+1,l (m+1) m τ a (fE _) h0⟩
def A0{t u:AS}{τ:ASt}{d:M}(J:ASt->M->Prop)(h1:∀W:ASt->M->Prop,(∀ a b,J a b->W a b)->t W r bb cc τ d)(h2:∀ a b,J a b->u k r bb cc a b):Ut t u k r bb cc τ d:=h1 (u k r bb cc) h2
def Ca{t u:AS}{τ:ASt}{a:M}(h:t (u k r bb cc) r bb cc τ a):Ut t u k r bb cc τ a:=h
def C5{l:M->Prop}{xs:oA AV}{τ:ASt}{a:M}(I:Nat->ASt->M->Prop)(h0:I 0 τ a)(hk:∀i τ a,I i τ a->l a)
  (step:∀i x τ a (W:ASt->M->Prop),xs[i]?=some x->I i τ a->(∀ d b,I (i+1) d b->W d b)->g x τ a λm p=>tb W r k W m p)
  (done:∀ τ a,I xs.length τ a->k τ a):fl g tb k r l xs τ a:=by
 have j:∀n i τ a,n+i=xs.length->I i τ a->fl g tb k r l (xs.drop i) τ a:=by
  intro n
  induction n with
  |zero=>
   intro i τ a h f;have e:i=xs.length:=by omega
   subst e;rw[dO];exact⟨hk _ _ _ f,done τ a f⟩
  |succ n s=>
   intro i τ a h f;have hi:i<xs.length:=by omega
   rw[bR hi];exact⟨hk _ _ _ f,step i _ τ a _ (K_ hi) f λd b q=>s (i+1) d b (by omega) q⟩
 exact j xs.length 0 τ a rfl h0
def Ep{p:lM}{u:M->Prop}{R:M->Prop}{xs:oA AV}{τ:ASt}{b:M}(I:Nat->oA AV->ASt->M->Prop)(h0:I 0 [] τ b)(hk:∀i a τ b,I i a τ b->u b)
  (step:∀i x a τ b (W:oA AV->ASt->M->Prop),xs[i]?=some x->I i a τ b->(∀l f d,I (i+1) l f d->W l f d)->g x τ b λj y=>tst j y λk t=>
   brP k (te j t λv m=>m p=some (.lst a)/\a.length<sizeLine/\W (a++[v]) j (Ao m p<|.lst<|a++[v])) (W a j t))
  (done:∀a τ b,I xs.length a τ b->R b):cl p g tst te u R xs [] τ b:=by
 have w:∀n i a τ b,n+i=xs.length->I i a τ b->cl p g tst te u R (xs.drop i) a τ b:=by
  intro n
  induction n with
  |zero=>
   intro i a τ b h s;have e:i=xs.length:=by omega
   subst e;rw[dO];exact⟨hk _ _ _ _ s,done a τ b s⟩
  |succ n z=>
   intro i a τ b h s;have hi:i<xs.length:=by omega
   rw[bR hi];exact⟨hk _ _ _ _ s,step i _ a τ b (λl f d=>cl p g tst te u R (xs.drop<|i+1) l f d) (K_ hi) s λl f d q=>z (i+1) l f d (by omega) q⟩
 exact w xs.length 0 [] τ b rfl h0
def X4{z:Str}(h:PyData.canLay0 (.str z)=true):Cb (.str z):=⟨h,by simp[PyData.depth]⟩
def B0(i:Int):Cb (.int i):=⟨rfl,by simp[PyData.depth]⟩
def Go(i:Bool):Cb (.bool i):=⟨rfl,by simp[PyData.depth]⟩
def M6(i j:Int):PyData.eqv (.int i) (.int j)=decide (i=j):=by rw[PyData.eqv];exact iB.mpr<|by simp
def ieq{i j:Int}{T F:Prop}(h1:i=j->T)(h2:i≠j->F):Cb (.int i)/\Cb (.int j)/\brP (PyData.eqv (.int i)<|.int j) T F:=by refine⟨B0 _,B0 _,?_⟩;rw[M6];exact dif h1 h2
def Am{a:M}{p:lM}{xs:oA AV}(h:a p=some (.lst xs)):items a (.R p)=some xs:=by show(match a p with|some (.lst xs)=>some xs|_=>none)=_;rw[h]
def Cs{a:Type} [DecidableEq a](kvs:oA<|a×AV)(k:a):oB AV:=(kvs.find? λb=>decide (b.1=k)).map (·.2)
def Er{b:Type} [DecidableEq b](kvs:oA<|b×AV)(k:b)(v:AV):oA (b×AV) :=
 if(kvs.any λa=>decide (a.1=k))=true then kvs.map λa=>if a.1=k then(a.1,v) else a else kvs++[(k,v)]
def Kg:oA lL->oB (oA Key)
 |[]=>some []
 |d::b=>match On d,Kg b with
  |some k,some a=>some (k::a)
  |_,_=>none
def Ou(ds:oA lL):oB (oA Key):=match Lit ds with
 |true=>none
 |false=>Kg ds
def M7{ds:oA lL}{ks:oA Key}(h:Ou ds=some ks):Lit ds=false/\Kg ds=some ks:=by
 unfold Ou at h;cases c:Lit ds with
 |true=>rw[c]at h;cases h
 |false=>rw[c]at h;exact⟨rfl,h⟩
def Uq.heap{K:lN}{H:Hp}{a:lM}{ds:oA lL}{xs:oA V}(h:Uq K H a ds xs)(b:Lit ds=false):H a=some (.tup xs):=by rcases h with h|h;exact h;rw[b]at h;cases h.1
def dget(m:MO)(d:lL):oB (oB AV):=match m with
 |.dk a=>(On d).map (Cs a)
 |.dt a=>match d with
  |.tuple b=>(Ou b).map (Cs a)
  |_=>none
 |.lst _=>none
 |.dd _=>none
def dput(m:MO)(d:lL)(v:AV):oB MO:=match m with
 |.dk a=>(On d).map λk=>.dk (Er a k v)
 |.dt a=>match d with
  |.tuple b=>(Ou b).map λk=>.dt (Er a k v)
  |_=>none
 |.lst _=>none
 |.dd _=>none
def dsize:MO->Nat
 |.dk a=>a.length
 |.dt a=>a.length
 |.lst b=>b.length
 |.dd a=>a.length
def Sj(K:lN)(H:Hp):oB AV->oB V->Prop
 |some x,some v=>RelA K H x v
 |none,none=>True
 |_,_=>False
def E2.val{a:Type} [DecidableEq a]{kvs:oA<|a×AV}{f:oA<|a×V}(h:E2 K H kvs f)(k:a):Sj K H (Cs kvs k) (Em f k):=by
 unfold E2 at h
 induction h with
 |nil=>exact trivial
 |@cons p q d b r t j=>obtain⟨l,n⟩:=p;obtain⟨s,m⟩:=q;obtain⟨e,r⟩:=r;dsimp only at e;subst e;unfold Cs Em at j ⊢;by_cases hk:l=k;simp only[List.find?_cons,decide_eq_true hk];exact r;simp only[List.find?_cons,decide_eq_false hk];exact j
def E2.put{l:Type} [DecidableEq l]{kvs:oA<|l×AV}{j:oA<|l×V}(h:E2 K H kvs j)(k:l){x:AV}{v:V}(r:RelA K H x v):E2 K H (Er kvs k x) (putK j k v):=by
 have m:(kvs.any λa=>decide (a.1=k))=(j.any λa=>decide (a.1=k)):=by
  unfold E2 at h
  induction h with
  |nil=>rfl
  |@cons p q f b d t n=>rw[eL,eL,n,d.1]
 have hm:E2 K H (kvs.map λa=>if a.1=k then(a.1,x) else a) (j.map λa=>if a.1=k then(a.1,v) else a):=by
  clear m;unfold E2 at h ⊢
  induction h with
  |nil=>exact .nil
  |@cons p q f b d t n=>refine .cons ?_ n;obtain⟨e,d⟩:=d;dsimp only;by_cases hk:p.1=k;rw[P_ hk,P_<|e ▸ hk];exact⟨e,r⟩;rw[H_ hk,H_<|e ▸ hk];exact⟨e,d⟩
 have ha:E2 K H (kvs++[(k,x)]) (j++[(k,v)]):=by clear m hm;unfold E2 at h ⊢;exact jT h ⟨rfl,r⟩
 unfold Er putK;rw[m];split;exact hm;exact ha
def M8{d:lL}{k:Key}{v:V}(h:Dk K H d v)(e:On d=some k):v=kV k:=by unfold On at e;split at e;cases e;exact h.int;cases e;exact h.str;cases e
theorem Hv:∀{ds:oA lL} {ks:oA Key} {a:oA V},Ap K H ds a->Kg ds=some ks->a=ks.map kV
 |[],ks,a,h,e=>by cases e;exact h.nil
 |d::ds,ks,a,h,e=>by obtain⟨x,r,rfl,h1,h2⟩:=h.cons;simp only[Kg]at e;split at e;rename_i k b f j;cases e;rw[M8 h1 f,Hv h2 j];rfl;cases e
def Ju{j:M}{a:lM}{m:MO}{d:lL}{v:V}{o:oB AV}(hc:Cn K j H)(hm:j a=some m)(p:Dk K H d v)(e:dget m d=some o):∃r,DGet H a v r/\Sj K H o r:=by obtain⟨x,l,n⟩:=hc a m hm;unfold dget at e;split at e;obtain⟨k,f,rfl⟩:=J_.mp e;obtain⟨u,rfl,h⟩:=n;rw[M8 p f];exact⟨_,DGet.k l,h.val k⟩;split at e;obtain⟨s,f,rfl⟩:=J_.mp e;obtain⟨u,rfl,h⟩:=n;obtain⟨b,w,rfl,hb,hx⟩:=p.tup;obtain⟨q,f⟩:=M7 f;have hb:=hb.heap q;rw[Hv hx f]at hb;exact⟨_,DGet.t l hb,h.val s⟩;cases e;cases e;cases e
def DR{l:M}{a:lM}{m q:MO}{d:lL}{v w:V}{x:AV}(hc:Cn K l H)(hm:l a=some m)(u:Dk K H d v)(hx:RelA K H x w)(e:dput m d x=some q)(p:dsize m<sizeLine):∃n,DPut H a v w n/\Kp H n/\Cn K (Ao l a q) n:=by obtain⟨D,f,s⟩:=hc a m hm;unfold dput at e;split at e;obtain⟨k,h,rfl⟩:=J_.mp e;obtain⟨z,rfl,j⟩:=s;rw[M8 u h];exact⟨_,DPut.k f<|by rw[<- bL j];exact p,Kp.put f trivial _,hc.put f trivial ⟨_,rfl,j.put k hx⟩⟩;split at e;obtain⟨A,h,rfl⟩:=J_.mp e;obtain⟨z,rfl,j⟩:=s;obtain⟨b,C,rfl,hb,B⟩:=u.tup;obtain⟨y,h⟩:=M7 h;have hb:=hb.heap y;rw[Hv B h]at hb;exact⟨_,DPut.t f hb<|by rw[<- bL j];exact p,Kp.put f trivial _,hc.put f trivial ⟨_,rfl,j.put A hx⟩⟩;cases e;cases e;cases e
def SR(td ty:AE):AE:=λh j R=>td h j λx f=>ty h f λy b=>match x,y with
 |.R a,.D d=>opt (b a) λm=>opt (dget m d) λr=>opt r λv=>R v b
 |_,_=>False
def Du(hu:X.A.units+1<cLine)(F:VE X o td)(hi:VE X i ty)(b:JP i:=by intro _ _;rfl):VE X (.Subscript o i pos) (SR td ty):=(CV hu F hi b).imp λJ H Q a=>B5 a λq s R b hc h hq=>
 ⟨q,s,_,b,hc,h,λx f v L j G t hx=>⟨q,f,_,b.kp j,G,hx,λy I u N p l E hy=>by
  split at hy
  ·obtain⟨m,D,hy⟩:=A5 hy;obtain⟨r,C,hy⟩:=A5 hy;obtain⟨w,rfl,d⟩:=A5 hy;obtain⟨B,g,n⟩:=Ju l D E C;cases B with
   |none=>exact n.elim
   |some z=>exact⟨_,z,(t.kp p).ref,g,hq _ _ _ _ (j.trans p) l n d⟩
  exact hy.elim⟩⟩
def DS(l:Bool->Bool)(ty td:AE):AE:=λh j R=>ty h j λy f=>td h f λx b=>match x,y with
 |.R a,.D d=>opt (b a) λm=>opt (dget m d) λr=>R (.D<|.bool<|l r.isSome) b
 |_,_=>False
def Sj.some{o:oB AV}{r:oB V}(h:Sj K H o r):o.isSome=r.isSome:=by cases o<;>cases r<;>first|rfl|exact h.elim
def X5{K:lN}{d:St}{H:Hp}{Q:VK}(h:cE K (DS (λb=>b) ty td) d H Q):RF (cE K ty) (cE K td) d H Q:=by obtain⟨p,q,R,f,hc,h,hq⟩:=h;refine⟨p,q,_,f,hc,h,λy a v E l z C hx=>⟨p,a,_,f.kp l,z,hx,λx D u F j n t hy=>?_⟩⟩;split at hy;obtain⟨m,w,hy⟩:=A5 hy;obtain⟨r,B,hy⟩:=A5 hy;obtain⟨A,g,s⟩:=Ju n w (C.kp j) B;refine⟨_,A,t.ref,g,hq _ _ _ _ (l.trans j) n ?_ hy⟩;rw[s.some];exact Dp;exact hy.elim
def Ov{K:lN}{d:St}{H:Hp}{Q:VK}(h:cE K (DS (λb=>!b) ty td) d H Q):R8 (cE K ty) (cE K td) d H Q:=by obtain⟨p,q,R,f,hc,h,hq⟩:=h;refine⟨p,q,_,f,hc,h,λy a v E l z C hx=>⟨p,a,_,f.kp l,z,hx,λx D u F j n t hy=>?_⟩⟩;split at hy;obtain⟨m,w,hy⟩:=A5 hy;obtain⟨r,B,hy⟩:=A5 hy;obtain⟨A,g,s⟩:=Ju n w (C.kp j) B;refine⟨_,A,t.ref,g,hq _ _ _ _ (l.trans j) n ?_ hy⟩;rw[s.some];exact Dp;exact hy.elim
def X6(hu:X.A.units+1<cLine)(hi:VE X i ty)(a:VE X o td)(h1:behindInMarks .In o=false:=by rfl):VE X (.Compare i [.In] [o] pos) (DS (λb=>b) ty td):=(IG (JQ hu hi a) h1).imp λ_ _ _ h=>X5 h
def Uw(hu:X.A.units+1<cLine)(hi:VE X i ty)(a:VE X o td)(h1:behindInMarks .NotIn o=false:=by rfl):VT X (.Compare i [.NotIn] [o] pos) (Ol<|DS (λb=>!b) ty td):=(IH (Ug hu hi a) h1).imp λ_ _ _ h=>Gn (λ_ _ _ q=>Ov q) h
def X7(td ty tv:AE):AS:=λk _ _ _ f l=>tv f l λv h=>td f h λx j=>ty f j λy b=>match x,y with
 |.R a,.D d=>opt (b a) λm=>opt (dput m d v) λn=>dsize m<sizeLine/\k f (Ao b a n)
 |_,_=>False
def Di(hu:X.A.units+1<cLine)(G:VE X o td)(hi:VE X i ty)(hv:VE X value tv)(b:swapsWith value (some<|.Subscript o i bo) pos.line X.env=pure false:=by rfl):VS X (.Assign [.Subscript o i bo] value pos) (X7 td ty tv):=(CW hu G hi hv b).imp λD V H d=>Fc d λq t T nr O Y b hc h hq=>
 ⟨q,t,_,b,hc,h,λv f vv W j I w h1=>⟨q,f,_,b.kp j,I,h1,λx s Q Z p z u h2=>⟨q,s,_,b.kp<|j.trans p,z,h2,λy L U P l F E a=>by
  split at a;obtain⟨m,C,a⟩:=A5 a;obtain⟨R,n,a⟩:=A5 a;obtain⟨N,g,B,J⟩:=DR F C E (w.kp<|p.trans l) n a.1;have S:=j.trans<|p.trans<|l.trans B;exact⟨_,N,(u.kp l).ref,g,hq.nx _ _ _ _ S (b.kp S) J a.2⟩;exact a.elim⟩⟩⟩
def KW:AE:=λ_ a R=>∀p,a p=none->R (.R p) (Ao a p<|.dk [])
def KY:AE:=λ_ a R=>∀p,a p=none->R (.R p) (Ao a p<|.dt [])
def X8{kvs:oA<|Key×AV}{a:oA<|Key×V}(h:E2 K H kvs a):Jp K H (.dk kvs) (.dK a):=⟨a,rfl,h⟩
def GU{kvs:oA<|oA Key×AV}{a:oA<|oA Key×V}(h:E2 K H kvs a):Jp K H (.dt kvs) (.dT a):=⟨a,rfl,h⟩
def Kh:VE X (.Dict [] [] pos) KW:=W0.imp λd H Q a=>B5 a λj b R f hc h hq=>λp hp=>hq _ _ _ _ (Kp.new hp _) (hc.new hp<|X8 .nil) Ea<|h p<|hc.none hp
def E5:VE X (.Dict [] [] pos) KY:=W5.imp λd H Q a=>B5 a λj b R f hc h hq=>λp hp=>hq _ _ _ _ (Kp.new hp _) (hc.new hp<|GU .nil) Ea<|h p<|hc.none hp
end
end L2
namespace L2
def Ed{c:Type}{b:oA c}{n:Nat}(h:b.length=n+1):∃a t,b=a::t/\t.length=n:=match b,h with|a::t,h=>⟨a,t,rfl,Nat.succ.inj h⟩
def DT{c:Type}{b:oA c}(h:b.length=1):∃a,b=[a]:=by obtain⟨a,t,rfl,h2⟩:=Ed h;rw[cZ h2];exact⟨a,rfl⟩
def DU{d:Type}{c:oA d}(h:c.length=2):∃a b,c=[a,b]:=by obtain⟨a,t,rfl,h2⟩:=Ed h;obtain⟨b,rfl⟩:=DT h2;exact⟨a,b,rfl⟩
open PySem PySem.Spec PySem.Calls PyProof.Rows
abbrev AX:=lM->oA (Str×lL)->M->Prop
def XFx(K:lN)(H:Hp)(d:oB lM)(b:oA<|Str×lL):Prop:=match d with
 |none=>b=[]
 |some d=>∃a,H d=some (XD d a)/\Mz K H b a
def EK(K:lN)(g:AX):XK:=λc f H=>∃a C e b d,c=.ref C/\f=some a/\H a=some (XR a C d)/\XFx K H d e/\Cn K b H/\g C e b
def XA(X:Cx)(a:AX):Prop:=Up X<|EK X.K a
section
variable {K:lN}{H H':Hp}{X:Cx}{x:Str}{p pos bo:Pos}{e:lQ}{es:oA lQ}{t:AA}{k:Nat}{C:lM}{fu:oA Str}{EX:AX}{ps:oA Str}{sp:Hw}{P:lO}{w:lP}{mg:Str->oB lJ}{base:lS}
def Kp.same(k:∀b o,H b=some o->H' b=some o):Kp H H':=⟨λb _ e=>k b _ e,λb _ _ e=>k b _ e⟩
def Cn.same{a:M}(c:Cn K a H)(k:∀b o,H b=some o->H' b=some o):Cn K a H':=λb m e=>by obtain⟨d,q,r⟩:=c b m e;exact⟨d,k b d q,r.kp<|Kp.same k⟩
theorem Mz.zip:∀(fu:oA Str) {ds:oA lL} {a:oA V},Ap K H ds a->Mz K H (fu.zip ds) (fu.zip a)
 |[],_,_,_=>.nil
 |_::_,[],_,h=>by rw[h.nil];exact .nil
 |f::fu,_::ds,_,h=>by obtain⟨x,r,rfl,h1,h2⟩:=h.cons;exact .cons ⟨rfl,h1⟩<|Mz.zip fu h2
def spI(C:lM)(fu:oA Str):Sp:=λd H Q _=>∃(e t:lM) (ys:oA V),d=.ref e::ys/\ys.length=fu.length/\H e=some (XO e C t none) /\
 ∀a f c,(∀b o,b≠e->H b=some o->a b=some o)->a e=some (XO e C f<|some c)->a c=some (XD c<|fu.zip ys)->c≠e->Q .non a
def XCal(P:lO)(w:lP)(K:lN)(mg:Str->oB lJ)(base:lS)(k:Nat)(x:Str)(C:lM)(fu:oA Str):Prop :=
 ∃f a ps,FnOk P w K mg base Dz k f a ps (spI C fu)/\Binds K a ps []/\XMk K C f/\mg x=some (.ref C)/\PySem.W.mroIn K C (.type "BaseException")=some true
def KZ(EX:AX)(C:lM)(fu:oA Str)(t:AA):AS:=λ_ _ _ _ f c=>t f c λd a=>opt (dats d) λb=>b.length=fu.length/\EX C (fu.zip b) a
def E6(F:XCal X.prog X.w X.K X.mg X.base k x C fu)(U:Room (k+1) X.A)(hc:X.calm=true)(hx:XA X EX)(M:Gl X x)(ha:VA X (e::es) t)(hn:(e::es).length<=1000:=by decide)(hdb:(x==("__debug__" : Str))=false:=by decide) (L:starEach (e::es) X.env=(false,eval e X.env)::starEach es X.env:=by rfl) (hpl:(backTo pos<|starEach es X.env).any (·.1)=false:=by rfl):VS X (.Raise (some<|.Call (.Name x p) (e::es) [] pos) none bo) (KZ EX C fu t):=by
 obtain⟨f,fd,ps,G,u,mk,I,Q⟩:=F;refine PS.imp (Oj hc hx<|Xn (E:=E0) mk G U M I u Xb ha hdb L hpl) λD σ H c=>Fc c λT m nk nr Y nc N hc h hq=>?_;refine⟨T,m,_,N,hc,h,λxs g s O Z R l B hx=>⟨by rw[<- l.length,B];exact hn,λa v ha=>?_⟩⟩;obtain⟨z,J,V,r⟩:=A5 hx;have dk:=l.dats J;refine⟨a,v,s,rfl,by rw[dk.length];exact V,A3,λS W i d y n ne=>⟨rfl,a,C,W,some i,rfl,y,mk.xc,Q,?_⟩⟩;have j:∀b o,O b=some o->upd S a (XR a C<|some i) b=some o:=λb o q=>by
  have hb:b≠a:=by rintro rfl;rw[ha]at q;cases q
  rw[An hb];exact d b o hb<|by rw[An hb];exact q
 exact⟨a,C,fu.zip z,g,some i,rfl,rfl,A3,⟨_,by rw[An ne];exact n,(Mz.zip fu dk).kp<|Kp.same j⟩,R.same j,r⟩
abbrev Hw:=oA AV->M->(AV->M->Prop)->AX->Prop
def Le(K:lN)(n:Nat)(sp:Hw):Sp:=λf H Q E=>∃b d R EX,b.length=n/\A4 K H b f/\Cn K d H/\sp b d R EX/\LV K H R Q/\∀c a H',EK K EX c a H'->E c a H'
def Dg(P:lO)(w:lP)(K:lN)(mg:Str->oB lJ)(base:lS)(k:Nat)(x:Str)(ps:oA Str)(sp:Hw):Prop :=
 ∃g a,FnOk P w K mg base (My P w) k g a ps (Le K ps.length sp)/\Binds K a ps []/\PySem.W.keepIn K (.ref g)=true/\mg x=some (.ref g)
def Dg.mono{P:lO}{w:lP}{K:lN}{mg:Str->oB lJ}{base:lS}{n m:Nat}{x:Str}{ps:oA Str}{sp:Hw}(c:Dg P w K mg base n x ps sp)(h:n<=m):Dg P w K mg base m x ps sp :=
 by obtain⟨g,a,G,r⟩:=c;exact⟨g,a,G.mono h,r⟩
def LC(sp:Hw)(EX:AX)(t:AA):AE:=λc b R=>t c b λd a=>sp d a R EX
def C8(F:Dg X.prog X.w X.K X.mg X.base k x ps sp)(z:Room k X.A)(hx:XA X EX)(o:Gl X x)(ha:VA X (e::es) t)(i:(e::es).length=ps.length:=by rfl)(hdb:(x==("__debug__" : Str))=false:=by decide)
  (n:starEach (e::es) X.env=(false,eval e X.env)::starEach es X.env:=by rfl) (hpl:(backTo pos<|starEach es X.env).any (·.1)=false:=by rfl):VE X (.Call (.Name x p) (e::es) [] pos) (LC sp EX t):=by
 obtain⟨g,J,G,d,u,l⟩:=F;refine PE.imp (Mm (E:=EK X.K EX) G z o l u d .nil (Up.passes hx λ_ _ _ q=>q) ha (hdb:=hdb) (he:=n) (hpl:=hpl)) λD H Q a=>B5 a λy c R r hc h hq=>?_;exact⟨y,c,_,r,hc,h,λv b B I j s f m hx=>⟨v,b,R,EX,m.trans i,by rw[cH];exact f,s,hx,hq.kp j,λ_ _ _ q=>q⟩⟩
def SS(EX:AX):AX:=λC c b=>∃ a,Sub a b/\EX C c a
def XA.up{X:Cx}{EX:AX}(h:XA X EX):XA X (SS EX):=by intro n f H s a C d j I q R z;refine h n f H s a C d j I q R ?_;obtain⟨A,y,r,_,o,g,l,m,u,i,v,b,c⟩:=z;exact⟨A,y,r,v,o,g,l,m,u,i.sub b,c⟩
def Fun.vokX{x b:Str}{st:lU}{f:lM}{J:lV}{N ps:oA Str}{k:Nat}{sp:Hw}(F:Fun K x b st f J)(S:FnScope N ps<|Ad st) (Y:∀(l:lJ) (A:lR) (outer:oA Env) (s:lK) (H:Hp) (E:XK) (EX:AX),Room k (A.deeper<|envOfC b (Ad st) s.heap.objs.size f l)->XA (Fv (My P w) P w K mg base N b (Ad st) f l A outer s H E) (SS EX) ->
   ∃t,VSs (Fv (My P w) P w K mg base N b (Ad st) f l A outer s H E) (Au st) t/\∀i j R,i.length=ps.length->sp i j R EX->t (SQ R) (OX R) BS BS (D1 N i) j):FnOk P w K mg base (My P w) (k+1) f J ps (Le K ps.length sp):=by
 obtain⟨oc,od,kV,c7,pm,an,l,ct,ig,rfl,W,T⟩:=F.ex;refine R4 W T S (λy H Q E h=>?_) λA outer s H y Q E hr h=>?_;obtain⟨i,j,R,EX,G,D,_⟩:=h;rw[<- D.length];exact G;obtain⟨i,j,R,EX,G,D,hc,U,hq,M⟩:=h;have o:XA (Fv (My P w) P w K mg base N b (Ad st) f l A outer s H E) EX:=λaa L Z s1 a C d y I q R h=>DI aa L Z s1 a C d y I q R<|M _ _ _ h;obtain⟨t,V,h⟩:=Y l A outer s H E EX hr o.up;refine⟨_,V,D1 N i,j,_,_,_,_,Dq.begin D,hc,h i j R G U,⟨λτ z L H' B _ c m=>K9 m λν g r=>?_,λv z u H' B c O n=>K9 n λν g r=>?_,λ_ _ _ _ _ _ _ h=>h.elim,λ_ _ _ _ _ _ _ h=>h.elim⟩⟩;exact hq _ _ _ _ B (c.sub g) Hg r;exact hq _ _ _ _ B (c.sub g) O r
end
def cS0(K:lN)(e:Hp)(t:AS):TS:=λD f H=>∃ d a k r b c,Dq K H d f/\Cn K a H/\t k r b c d a/\LE' K e k r b c D
def LD(X:Cx)(st:lU)(t:AS):Prop:=PS X st<|cS0 X.K X.H₀ t
def X9(X:Cx)(st:oA lU)(t:AS):Prop:=PSs X st<|cS0 X.K X.H₀ t
section
variable {X:Cx}{aa:oA<|lM×lT}{σ:St}{H:Hp}{s:lK}{st:lU}{rest:oA lU}{t s1 s2:AS}
def Inv.kp0(I:Inv X aa σ H s):Kp X.H₀ H:=⟨I.base.tups,I.base.frzs⟩
def VS.z(h:VS X st t):LD X st t:=λaa s σ H D I a=>Fc a λf d k r b c e hc g hq=>h aa s σ H D I ⟨f,d,k,r,b,c,e,hc,g,hq.kp I.kp0⟩
def D8(h1:LD X st s1)(h2:X9 X rest s2):X9 X (st::rest) (Ut s1 s2):=(Jx h1 h2).imp λD σ H a=>Fc a λl d k nr f j g hc h hq=>
 ⟨l,d,_,_,_,_,g,hc,h,⟨λc b m o p e i n=>⟨c,b,k,nr,f,j,e,i,n,hq⟩,hq.rt,hq.bk,hq.ct⟩⟩
def Ki(h1:LD X st s1):X9 X [st] s1:=Ml h1
theorem Dq.blank:∀(σ:St),Dq X.K H (List.replicate σ.length none) σ
 |[]=>.nil
 |_::σ=>.cons Hh<|Dq.blank σ
end
def Fun.vok0{P:lO}{w:lP}{K:lN}{mg:Str->oB lJ}{base:lS}{x a:Str}{st:lU}{f:lM}{p:lV}{N ps:oA Str}{k:Nat}{sp:ASp}(F:Fun K x a st f p)(S:FnScope N ps<|Ad st) (D:∀(j:lJ) (A:lR) (outer:oA Env) (s:lK) (H:Hp) (E:XK),Room k (A.deeper<|envOfC a (Ad st) s.heap.objs.size f j) ->
   ∃t,X9 (Fv Dz P w K mg base N a (Ad st) f j A outer s H E).nox (Au st) t/\∀d e R,d.length=ps.length->sp d e R->t (SQ R) (OX R) BS BS (D1 N d) e):FnOk P w K mg base Dz (k+1) f p ps (Fb K ps.length sp):=by
 refine F.ok S (λq H Q E h=>?_) λj A outer s H q Q E I h=>?_;obtain⟨d,e,R,o,n,_⟩:=h;rw[<- n.length];exact o;obtain⟨d,e,R,o,n,hc,B,hq⟩:=h;obtain⟨t,C,h⟩:=D j A outer s H E I;refine⟨_,C,D1 N d,e,_,_,_,_,Dq.begin n,hc,h d e R o B,⟨λL l J y m _ c g=>K9 g λG b r=>?_,λv l u y m c z i=>K9 i λG b r=>?_,λ_ _ _ _ _ _ _ h=>h.elim,λ_ _ _ _ _ _ _ h=>h.elim⟩⟩;exact hq _ _ _ _ m (c.sub b) Hg r;exact hq _ _ _ _ m (c.sub b) z r
end L2
namespace L2
open PySem PySem.Spec PyProof.Rows
def E7:Nat->oA lL->oA AV
 |_,[]=>[]
 |i,d::a=>.D (.tuple [.int i,d])::E7 (i+1) a
theorem Dj:∀(ds:oA lL) (k:Nat),(E7 k ds).length=ds.length
 |[],_=>rfl
 |_::ds,k=>by rw[E7,aX,Dj ds,aX]
theorem E8:∀{ds:oA lL} {k i:Nat} {x:AV},(E7 k ds)[i]?=some x->∃d,ds[i]?=some d/\x=.D (.tuple [.int ((k+i:Nat):Int),d])
 |[],_,_,_,h=>by simp[E7]at h
 |d::ds,k,0,_,h=>by simp[E7]at h;exact⟨d,rfl,by rw[<- h];simp⟩
 |_::ds,k,i+1,_,h=>by
  rw[E7,iO]at h;obtain⟨d,e,q⟩:=E8 h;refine⟨d,by simpa using e,?_⟩;rw[q];have a:k+1+i=k+(i+1):=by omega
  rw[a]
def Q4{K:lN}{m:Hp}{a:lM}{ys:oA AV}{ds:oA lL}{l:M->Prop}(o:dats ys=some ds)(h:∀H f,Kp m H->Cn K f H->l f->∃b,Il K H a b/\A4 K H ys b):ItOk K m (Ien K a) (E7 0 ds) l:=by
 have n:ds.length=ys.length:=by rw[Js o,B_]
 refine⟨λi H f S c k hi=>?_,λi H f v t x S c k e y=>?_,λH f S c k=>?_⟩;obtain⟨b,q,r⟩:=h H f S c k;rw[Dj,n]at hi;exact⟨b,b[i]'(by rw[<- r.length];exact hi),q,K_ _⟩;obtain⟨b,q,r⟩:=h H f S c k;obtain⟨T,z,g,rfl,rfl,y⟩:=y;obtain⟨d,p,rfl⟩:=E8 e;obtain⟨u,j,s⟩:=(r.dats o).get p;rw[y b q]at j;cases j;refine⟨Kp.new g _,c.over g,M3 A3 ?_⟩;rw[kJ];exact Ci Ce<|Ci (Dk.kp (Kp.new g _) _ _ s) Db;obtain⟨b,q,r⟩:=h H f S c k;exact⟨b,q,by rw[Dj,n,r.length]⟩
def Q5{K:lN}{m:Hp}{a:lM}{ys:oA AV}{ds:oA lL}{l:M->Prop}(o:dats ys=some ds)(h:∀H f,Kp m H->Cn K f H->l f->∃b,Ei K H a b/\A4 K H ys b):ItOk K m (Iel K a) (E7 0 ds) l:=by
 have n:ds.length=ys.length:=by rw[Js o,B_]
 refine⟨λi H f S c k hi=>?_,λi H f v t x S c k e y=>?_,λH f S c k=>?_⟩;obtain⟨b,q,r⟩:=h H f S c k;rw[Dj,n]at hi;exact⟨b,b[i]'(by rw[<- r.length];exact hi),q,K_ _⟩;obtain⟨b,q,r⟩:=h H f S c k;obtain⟨T,z,g,rfl,rfl,y⟩:=y;obtain⟨d,p,rfl⟩:=E8 e;obtain⟨u,j,s⟩:=(r.dats o).get p;rw[y b q]at j;cases j;refine⟨Kp.new g _,c.over g,M3 A3 ?_⟩;rw[kJ];exact Ci Ce<|Ci (Dk.kp (Kp.new g _) _ _ s) Db;obtain⟨b,q,r⟩:=h H f S c k;exact⟨b,q,by rw[Dj,n,r.length]⟩
def ST(t:AE):AI:=λd b R=>t d b λx a=>opt (items a x) λc=>opt (dats c) λe=>R (E7 0 e) (λb=>items b x=some c) a
section
variable {X:Cx}{a:lQ}{ta:AE}{pos p:Pos}{bu:oA<|oB lQ}{values:oA lQ}{ks:oA Key}{ts:oA AE}
def Sk{W:oA lQ}{k:Nat}{M:Pos}(U:Gl X "enumerate") (hm:X.mg "enumerate" = none) (O:VE X a ta) (G:starEach [a] X.env=[(false,eval a X.env)]:=by rfl):VI X (.Tuple W k M) (.Call (.Name "enumerate" p) [a] [] pos) (ST ta):=by
 intro L s T H R I r;refine B5 r λZ m Y Q hc h hq=>?_;refine bN<|Dr I U hm boot_enumerate ?_;refine bJ ?_ G rfl;rw[G];refine bD<|thn (O L s T H (λv g=>∃x d j o,Kp H g/\Cn X.K d g/\RelA X.K g x v/\items d x=some j/\dats j=some o/\Y (E7 0 o) (λm=>items m x=some j) d) I ⟨Z,m,_,Q,hc,h,λx d v g w t n hx=>?_⟩) λu f V=>cL ?_;obtain⟨j,e,hx⟩:=A5 hx;obtain⟨o,y,hx⟩:=A5 hx;exact⟨x,d,j,o,w,t,n,e,y,hx⟩;obtain⟨xv,g,l,r1,x,d,j,o,w,t,n,e,y,hx⟩:=V;obtain⟨p,vs,rfl,hp,rs⟩:=Cg t n e;cases r1;have J:∀b∈[f.heap.objs.size+1,f.heap.objs.size],Fu X L g b:=λb hb=>by
  have F:f.heap.objs.size<=b:=by
   rcases aK.mp hb with rfl|hb;exact cF _;have e:b=f.heap.objs.size:=by simpa using hb
   exact gG e.symm
  exact l.fpOk F<|l.hok.fresh F
 rcases hp with⟨k,hp⟩|⟨k,hp⟩;obtain⟨N,P,E,hz⟩:=l.list hp;refine call_enumerate_list E.isList λh' he B A z=>?_;refine i_ he ?_;refine⟨f.heap.objs.size+1,[f.heap.objs.size+1,f.heap.objs.size],_,_,g,rfl,l.kept (t':=f.toks) z,Qr p _ _<|jM _,⟨⟨_,he⟩,B⟩,J,hq _ _ _ _ _ w t (Q5 y λH m S c D=>?_) hx⟩;obtain⟨q,C,e,i,rw⟩:=Cg c (n.kp S) D;cases e;rcases i with⟨_,i⟩|⟨k3,_⟩;exact⟨C,i,rw⟩;rw[k]at k3;cases k3;obtain⟨N,P,E,hz⟩:=l.tuple hp;refine He E λh' he B A z=>?_;refine i_ he ?_;refine⟨f.heap.objs.size+1,[f.heap.objs.size+1,f.heap.objs.size],_,_,g,rfl,l.kept (t':=f.toks) z,Uk p _ _<|jM _,⟨⟨_,he⟩,B⟩,J,hq _ _ _ _ _ w t (Q4 y λH m S c D=>?_) hx⟩;obtain⟨q,C,e,i,rw⟩:=Cg c (n.kp S) D;cases e;rcases i with⟨k3,_⟩|⟨_,i⟩;rw[k]at k3;cases k3;exact⟨C,i,rw⟩
def Q6{kvs:oA<|Key×V}{k:Key}{v:V}(h:k∉kvs.map (·.1)):putK kvs k v=kvs++[(k,v)]:=by unfold putK;rw[H_];intro q;rw[bP]at q;obtain⟨x,hx,e⟩:=q;exact h<|E_.mpr ⟨x,hx,aC e⟩
theorem Hx:∀(more kvs:oA<|Key×V),((kvs++more).map (·.1)).Nodup->Hc kvs more=kvs++more
 |[],kvs,_=>by rw[cH];rfl
 | (k,v)::more,kvs,h=>by
  show Hc (putK kvs k v) more=_;have hk:k∉kvs.map (·.1):=λz=>by rw[L_,bB]at h;exact h.2.2 k z k (by simp) rfl
  rw[Q6 hk,Hx more,jA]
  rfl
  rw[jA];exact h
def vPs:oA AE->ASt->M->(oA AV->M->Prop)->Prop
 |[],_,b,R=>R [] b
 |t::ts,e,b,R=>t e b λx d=>vPs ts e d λf c=>R (x::f) c
def GV(K:lN)(ks:oA Key)(ts:oA AE):oA (TE×TE):=(ks.zip ts).map λp=>(tC<|kV p.1,cE K p.2)
theorem Ow{K:lN}:∀{ks:oA Key} {ts:oA AE} {τ:ASt} {b:M} {R:oA AV->M->Prop} {g:St} {H:Hp} {Q:oA (V×V)->Hp->Prop},ks.length=ts.length->Dq K H τ g->Cn K b H->vPs ts τ b R ->
  (∀d c e f,Kp H f->Cn K c f->A4 K f d e->d.length=ts.length->R d c->Q ((ks.zip e).map λm=>(kV m.1,m.2)) f)->Mu (GV K ks ts) g H Q
 |[],[],τ,b,R,g,H,Q,_,i,hc,h,q=>q [] b [] H Kp.refl hc .nil rfl h
 |k::ks,t::ts,τ,b,R,g,H,Q,u,i,hc,h,q=>
  ⟨τ,b,_,i,hc,h,λx r v C l z o hx=>Ow (ks:=ks) (ts:=ts) (by simpa using u) (i.kp l) z hx λd j e A n y s w B=>q (x::d) j (v::e) A (l.trans n) y (.cons (o.kp n) s) (by simp[w]) B⟩
def VPs(X:Cx)(pos:Pos)(bu:oA<|oB lQ)(values:oA lQ)(ks:oA Key)(ts:oA AE):Prop:=PPs X pos bu values<|GV X.K ks ts
def SU(ks:oA Key)(ts:oA AE):AE:=λd c R=>∀p,c p=none->vPs ts d (Ao c p<|.dk []) λe b=>b p=some (.dk [])/\R (.R p) (Ao b p<|.dk<|ks.zip e)
def DV:VPs X pos [] [] [] []:=CY
def M9{z:Str}{j}{p:Pos}{v:lQ}{t:AE}(hv:VE X v t)(b:VPs X pos bu values ks ts):VPs X pos (some (.Constant (.str z) j p)::bu) (v::values) (.inr z::ks) (t::ts):=W7 (tk:=tC<|kV<|.inr z) Wa hv b
theorem A4.zipK{K:lN}{H:Hp}:∀(ks:oA Key) {xs:oA AV} {b:oA V},A4 K H xs b->E2 K H (ks.zip xs) (ks.zip b)
 |[],_,_,_=>.nil
 |_::_,_,_,.nil=>.nil
 |_::ks,_,_,.cons r t=>.cons ⟨rfl,r⟩<|A4.zipK ks t
def DW(h:VPs X pos bu values ks ts)(hk:ks.Nodup)(f:ks.length=ts.length:=by rfl)(j:ks.length<=15:=by decide)(k:bu.all (·.isSome)=true:=by rfl)(n:bu.length=values.length:=by rfl)(h0:bu≠[]:=by intro z;cases z)(d:bu.length<=15:=by decide):VE X (.Dict bu values pos) (SU ks ts) :=
 (CZ h k n h0 d).imp λt H Q b=>B5 b λx s R l hc h hq=>by
  intro p hp;refine Ow f (l.kp<|Kp.new hp _) (hc.new hp<|X8 .nil) (h p<|hc.none hp) λw m e u q g i r hx=>?_;obtain⟨o,c,y,rfl,rk⟩:=g _ _ hx.1;cases rk;have v:ks.length=e.length:=by rw[<- i.length,r];exact f
  refine⟨c,ks.zip e,rfl,by rw[List.length_zip];omega,?_⟩;rw[Hx _ _<|by rw[List.nil_append,List.map_fst_zip<|by omega];exact hk,List.nil_append];exact hq _ _ _ _ ((Kp.new hp _).trans<|q.trans<|Kp.put c trivial _) (g.put c trivial (X8<|i.zipK ks)) Ea hx.2
end
def Dv{a:Type} [DecidableEq a]{k:a}{v:AV}{r:oA<|a×AV}:Cs ((k,v)::r) k=some v:=by unfold Cs;simp only[List.find?_cons,decide_eq_true (rfl:k=k)];rfl
def Dd{a:Type} [DecidableEq a]{k b:a}{v:AV}{r:oA<|a×AV}(h:b≠k):Cs ((b,v)::r) k=Cs r k:=by unfold Cs;simp only[List.find?_cons,decide_eq_false h]
def Ya{a:Type}(g:a->Bool)(xs:oA a):bools (xs.map λx=>.D<|.bool<|g x)=some (xs.map g):=by rw[show(xs.map λx=>AV.D<|.bool<|g x)=(xs.map g).map λb=>.D (.bool b) by rw[aB];rfl];exact L5 _
def Ux{a:M}{p:lM}{m:MO}(h:a p=some m):Ao a p m=a:=by
 funext b
 unfold Ao;split;rename_i e;rw[e,h]
 rfl
def cmapf{m:Type}{p:lM}{g:AG}{tst:AT}{te:AE}{u:M->Prop}{R:M->Prop}{τ:ASt}{j:M}(as:oA m)(t:m->AV)(b:m->Bool)(f:m->AV)(l:ASt->Prop)(h0:l τ)(hp:j p=some (.lst []))(hn:as.length<=sizeLine)(hk:∀acc,u<|Ao j p<|.lst acc)
  (step:∀(i:Nat) (x:m) (c:ASt) (acc:oA AV) (W:ASt->AV->M->Prop) (r:ASt->M->Prop),as[i]?=some x->l c->(b x=true->∀ a,l a->W a (f x) (Ao j p<|.lst acc))->(b x=false->∀ a,l a->r a (Ao j p<|.lst acc)) ->
   g (t x) c (Ao j p<|.lst acc) λa o=>tst a o λk h=>brP k (te a h<|W a)<|r a h)
  (done:R<|Ao j p<|.lst<|(as.filter b).map f):cl p g tst te u R (as.map t) [] τ j:=by
 refine Ep (λi acc c d=>l c/\acc=((as.take i).filter b).map f/\d=Ao j p (.lst acc)) ⟨h0,by simp,(Ux hp).symm⟩ (by rintro i acc τ d ⟨_,_,e⟩;rw[e];exact hk _) ?_ ?_;rintro i y acc c d W hy ⟨w,rfl,rfl⟩ hW;rw[M_]at hy;obtain⟨x,hx,rfl⟩:=J_.mp hy;have hi:i<as.length:=(D_.mp hx).1;have s:as.take (i+1)=as.take i++[x]:=by rw[aS,hx];rfl
 refine step i x c _ (λa v n=>n p=some (.lst<|((as.take i).filter b).map f)/\(((as.take i).filter b).map f).length<sizeLine/\W ((((as.take i).filter b).map f)++[v]) a (Ao n p<|.lst<|(((as.take i).filter b).map f)++[v])) (λa h=>W (((as.take i).filter b).map f) a h) hx w (λhb a q=>⟨Ab,?_,hW _ _ _ ⟨q,?_,Bk⟩⟩) λhb a q=>hW _ _ _ ⟨q,?_,rfl⟩;rw[B_];have h1:=bX b<|as.take i;rw[aU]at h1;omega;rw[s,dL,L_,fF,P_ hb];rfl;rw[s,dL,L_,fF,H_<|by rw[hb];exact U_];simp;rintro acc c d ⟨_,rfl,rfl⟩;rw[B_,aN];exact done
def cmap{h:Type}{p:lM}{g:AG}{te:AE}{k:M->Prop}{R:M->Prop}{τ:ASt}{c:M}(as:oA h)(j f:h->AV)(d:ASt->Prop)(h0:d τ)(hp:c p=some (.lst []))(hn:as.length<=sizeLine)(hk:∀acc,k<|Ao c p<|.lst acc)
  (step:∀(i:Nat) (x:h) (b:ASt) (acc:oA AV) (W:ASt->AV->M->Prop),as[i]?=some x->d b->(∀ a,d a->W a (f x) (Ao c p<|.lst acc))->g (j x) b (Ao c p<|.lst acc) λa e=>te a e<|W a)
  (done:R<|Ao c p<|.lst<|as.map f):cl p g KS te k R (as.map j) [] τ c:=by
 refine cmapf as j (λ_=>true) f d h0 hp hn hk (λi x b acc W m hx l h1 _=>?_) (by rw[List.filter_eq_self.mpr λ_ _=>rfl];exact done);have:=step i x b acc W hx l<|h1 rfl;simp only[KS,Xs];exact this
def Sl{b:Type}{g:b->Bool}{as:oA b}{a:M}{p:lM}{R:AV->M->Prop}(h:a p=some (.lst<|as.map λx=>.D<|.bool<|g x))(q:R (.D<|.bool<|as.all g) a):KL [.R p] a R:=by refine Ac h<|Ac (Ya g as) ?_;rw[List.all_map];exact q
def LF{K:lN}:Kits K "tuple" := by intro S a;simp only[List.mem_cons,List.not_mem_nil,or_false]at a;rcases a with rfl|rfl|rfl|rfl|rfl|rfl|rfl<;>rfl
def Uy{K:lN}:Kits K "bool" := by intro S a;simp only[List.mem_cons,List.not_mem_nil,or_false]at a;rcases a with rfl|rfl|rfl|rfl|rfl|rfl|rfl<;>rfl
def Yb(K:lN)(C:lM):Bool :=
 PySem.W.findIn K (.ref C) "__getattribute__" == some (some<|.builtin "BaseException.__getattribute__")&&PySem.W.findIn K (.ref C) "__getattr__" == some none&&PySem.W.findIn K (.ref C) "__setattr__" == some (some<|.builtin "object.__setattr__")&&PySem.W.hasDictIn K C &&
 PySem.W.mroIn K C (.type "BaseException")==some true&&PySem.W.mroIn K C (.type "object")==some true&&Qt K C&&PySem.W.findIn K (.ref C) "__class__" == some (some<|.builtin "object.__class__") &&
 PySem.W.specialIn K (.builtin "object.__class__") "__get__" == some (some<|.builtin "getset_descriptor.__get__")&&PySem.W.takesIn K (.builtin "object.__class__")==some true&&En K C&&PySem.W.keepIn K (.ref C)
def LG{K:lN}{C:lM}(h:Yb K C=true):XIs K C/\En K C=true/\PySem.W.keepIn K (.ref C)=true:=by unfold Yb at h;simp only[Bool.and_eq_true,beq_iff_eq]at h;obtain⟨⟨⟨⟨⟨⟨⟨⟨⟨⟨⟨h1,h2⟩,e⟩,k⟩,i⟩,d⟩,g⟩,j⟩,f⟩,c⟩,b⟩,a⟩:=h;exact⟨⟨⟨h1,h2,e,k,i,d,g⟩,j,f,c⟩,b,a⟩
def Sm(K:lN)(C D:lM)(a:oA lM):Bool :=
 Yb K C&&PySem.W.mroIn K C (.ref D)==some true&&PySem.W.kitOne K (.ref C) (.ref D)==some true&&PySem.W.kitOne K (.ref C) (.type "ValueError")==some true&&PySem.W.kitAny K (.ref C) (a.map Value.ref)==some false&&En K D&&PySem.W.mroIn K D (.type "BaseException")==some true&&PySem.W.mroIn K C (.ref C)==some true
structure Err(K:lN)(C D:lM)(cs:oA lM):Prop where
 xi:XIs K C
 xc:En K C=true
 kp:PySem.W.keepIn K (.ref C)=true
 un:PySem.W.mroIn K C (.ref D)=some true
 iD:PySem.W.kitOne K (.ref C) (.ref D)=some true
 iV:PySem.W.kitOne K (.ref C) (.type "ValueError")=some true
 no:PySem.W.kitAny K (.ref C) (cs.map Value.ref)=some false
 xD:En K D=true
 mD:PySem.W.mroIn K D (.type "BaseException")=some true
 me:PySem.W.mroIn K C (.ref C)=some true
def Yc{K:lN}{C D:lM}{d:oA lM}(h:Sm K C D d=true):Err K C D d:=by unfold Sm at h;simp only[Bool.and_eq_true,beq_iff_eq]at h;obtain⟨⟨⟨⟨⟨⟨⟨h1,h2⟩,f⟩,k⟩,i⟩,e⟩,g⟩,j⟩:=h;obtain⟨a,b,c⟩:=LG h1;exact⟨a,b,c,h2,f,k,i,e,g,j⟩
def cdef:lU->lU
 |.ClassDef _ _ _ (b::_) _ _ _ _ _ _ _=>b
 |s=>s
def rk:lL->Nat
 |.none=>0|.bool _=>1|.int _=>2|.str _=>3|.list _=>4|.tuple _=>5|.dict _=>6
def SV(a b:Str):Bool:=decide (a.cps.toList<b.cps.toList)
mutual
def BT:lL->lL->Bool
 |.int a,.int b=>decide (a<b)
 |.str a,.str b=>SV a b
 |.tuple d,.tuple c=>Lf d c
 |x,y=>decide (rk x<rk y)
def Lf:oA lL->oA lL->Bool
 |[],[]=>false
 |[],_::_=>true
 |_::_,[]=>false
 |x::b,y::a=>if PyData.eqv x y then Lf b a else BT x y
end
mutual
theorem Yd:∀(x y:lL),Cano x=true->Cano y=true->PyData.eqv x y=true->x=y
 |.int a,.int b,_,_,h=>by simp[PyData.eqv]at h;rw[h]
 |.str a,.str b,_,_,h=>by simp[PyData.eqv]at h;rw[h]
 |.tuple d,.tuple c,h1,h2,h=>by simp only[Cano]at h1 h2;rw[PyData.eqv]at h;rw[Sn d c h1 h2 h]
 |.int _,.str _,_,_,h=>by simp[PyData.eqv]at h
 |.int _,.tuple _,_,_,h=>by simp[PyData.eqv]at h
 |.str _,.int _,_,_,h=>by simp[PyData.eqv]at h
 |.str _,.tuple _,_,_,h=>by simp[PyData.eqv]at h
 |.tuple _,.int _,_,_,h=>by simp[PyData.eqv]at h
 |.tuple _,.str _,_,_,h=>by simp[PyData.eqv]at h
 |.none,_,h,_,_=>by simp[Cano]at h
 |.bool _,_,h,_,_=>by simp[Cano]at h
 |.list _,_,h,_,_=>by simp[Cano]at h
 |.dict _,_,h,_,_=>by simp[Cano]at h
 |.int _,.none,_,h,_=>by simp[Cano]at h
 |.int _,.bool _,_,h,_=>by simp[Cano]at h
 |.int _,.list _,_,h,_=>by simp[Cano]at h
 |.int _,.dict _,_,h,_=>by simp[Cano]at h
 |.str _,.none,_,h,_=>by simp[Cano]at h
 |.str _,.bool _,_,h,_=>by simp[Cano]at h
 |.str _,.list _,_,h,_=>by simp[Cano]at h
 |.str _,.dict _,_,h,_=>by simp[Cano]at h
 |.tuple _,.none,_,h,_=>by simp[Cano]at h
 |.tuple _,.bool _,_,h,_=>by simp[Cano]at h
 |.tuple _,.list _,_,h,_=>by simp[Cano]at h
 |.tuple _,.dict _,_,h,_=>by simp[Cano]at h
theorem Sn:∀(xs ys:oA lL),Bz xs=true->Bz ys=true->PyData.eqvAll xs ys=true->xs=ys
 |[],[],_,_,_=>rfl
 |[],_::_,_,_,h=>by simp[PyData.eqvAll]at h
 |_::_,[],_,_,h=>by simp[PyData.eqvAll]at h
 |x::xs,y::ys,h1,h2,h=>by simp only[Bz,Bool.and_eq_true]at h1 h2;rw[PyData.eqvAll,Z_]at h;rw[Yd x y h1.1 h2.1 h.1,Sn xs ys h1.2 h2.2 h.2]
end
mutual
theorem Hy:∀(x:lL),Cano x=true->PyData.eqv x x=true
 |.int a,_=>by simp[PyData.eqv]
 |.str a,_=>by simp[PyData.eqv]
 |.tuple b,h=>by rw[PyData.eqv];exact L8 b (by simpa only[Cano] using h)
 |.none,h=>by simp[Cano]at h
 |.bool _,h=>by simp[Cano]at h
 |.list _,h=>by simp[Cano]at h
 |.dict _,h=>by simp[Cano]at h
theorem L8:∀(xs:oA lL),Bz xs=true->PyData.eqvAll xs xs=true
 |[],_=>rfl
 |x::xs,h=>by simp only[Bz,Bool.and_eq_true]at h;rw[PyData.eqvAll,Hy x h.1,L8 xs h.2];rfl
end
end L2
namespace L2
open PySem PySem.W PyProof.Rows
def gallop':Bool->lW->oC lW->Nat->Nat->Nat->StateT l_ Sem (oB Nat):=sortPriv% PySem.Builtin.gallop
def setMinGallop':Nat->StateT l_ Sem Unit:=sortPriv% PySem.Builtin.setMinGallop
def Q7(left:Bool)(b:lW)(e:oC lW)(base n a:Nat):gallop' left b e base n a=(do
 let d (i:Nat):StateT l_ Sem (oB Bool):=do
  let x <- elem' e (base+i)
  if left then lt' x b else return (<- lt' b x).map (!·)
 let mut lastofs:=0
 let mut ofs:=1
 let mut lo:=0
 let mut hi:=0
 let some right <- d a|return none
 if right then
  let c:=n-a
  for _ in [0:n] do
   if ofs>=c then break
   let some more <- d (a+ofs)|return none
   if !more then break
   lastofs:=ofs
   ofs:=2*ofs+1
  lo:=a+lastofs+1
  hi:=a+min ofs c
 else
  let c:=a+1
  for _ in [0:n] do
   if ofs>=c then break
   let some found <- d (a-ofs)|return none
   if found then break
   lastofs:=ofs
   ofs:=2*ofs+1
  lo:=a+1-min ofs c
  hi:=a-lastofs
 for _ in [0:n] do
  if lo>=hi then break
  let m:=lo+(hi-lo) / 2
  let some more <- d m|return none
  if more then lo:=m+1 else hi:=m
 return some hi):=rfl
section
variable {prog:lO}{w:lP}{A:lR}{E:lJ->lK->Prop}{s:lK}{κ:mC}{it:oC lW}{n:Nat}{lt:Nat->Nat->Bool}
def byd(left:Bool)(a:lW)(b:oC lW)(base i:Nat):StateT l_ Sem (oB Bool):=do
 let x <- elem' b (base+i)
 if left then lt' x a else return (<- lt' a x).map (!·)
end
def mergeLo':oC lW->oC lW->StateT l_ Sem (oC lW):=sortPriv% PySem.Builtin.mergeLo
def mergeHi':oC lW->oC lW->StateT l_ Sem (oC lW):=sortPriv% PySem.Builtin.mergeHi
def C0(g:Nat):setMinGallop' g=modify λst=>SortSt.mk' (kindOf st) (arrOf st) (pendingOf st) g (failedOf st):=rfl
def Ox(a b:oC lW):mergeLo' a b=(do
 rule "list.sort.merge-lo"
 let f:=a.size+b.size
 let done (out:oC lW) (c d:Nat):=out++a.extract c a.size++b.extract d b.size
 let e (out:oC lW) (c d:Nat):=out++b.extract d b.size++a.extract c a.size
 let mut out:oC lW:=#[<- elem' b 0]
 let mut c:=0
 let mut d:=1
 if d==b.size then return done out c d
 if c+1==a.size then return e out c d
 let mut minGallop:=gallopOf (<- get)
 for _ in [0:f] do
  let mut acount:=0
  let mut bcount:=0
  for _ in [0:f] do
   let some bWins <- lt' (<- elem' b d) (<- elem' a c)|return done out c d
   if bWins then
    out:=out.push<|<- elem' b d;d:=d+1;bcount:=bcount+1;acount:=0
    if d==b.size then return done out c d
    if bcount>=minGallop then break
   else
    out:=out.push<|<- elem' a c;c:=c+1;acount:=acount+1;bcount:=0
    if c+1==a.size then return e out c d
    if acount>=minGallop then break
  rule "list.sort.gallop"
  minGallop:=minGallop+1
  for _ in [0:f] do
   if minGallop>1 then minGallop:=minGallop-1
   setMinGallop' minGallop
   let some k <- gallop' false (<- elem' b d) a c (a.size-c) 0|return done out c d
   acount:=k
   if k>0 then
    out:=out++a.extract c (c+k);c:=c+k
    if c+1==a.size then return e out c d
    if c==a.size then return done out c d
   out:=out.push<|<- elem' b d;d:=d+1
   if d==b.size then return done out c d
   let some k <- gallop' true (<- elem' a c) b d (b.size-d) 0|return done out c d
   bcount:=k
   if k>0 then
    out:=out++b.extract d (d+k);d:=d+k
    if d==b.size then return done out c d
   out:=out.push<|<- elem' a c;c:=c+1
   if c+1==a.size then return e out c d
   if acount<7&&bcount<7 then break
  minGallop:=minGallop+1
  setMinGallop' minGallop
 unsupported "internal:list.sort.merge-bound"):=rfl
section
variable {prog:lO}{w:lP}{A:lR}{E:lJ->lK->Prop}{s:lK}{κ:mC}{it:oC lW}{n:Nat}{lt:Nat->Nat->Bool}
abbrev at0(p:oC Nat)(i:Nat):Nat:=p.getD i 0
def In(n:Nat)(p:oC Nat):Prop:=∀i,i<p.size->at0 p i<n
structure MI(lt:Nat->Nat->Bool)(a b out:oC Nat)(ia ib:Nat):Prop where
 ha:ia<=a.size
 hb:ib<=b.size
 sz:out.size=ia+ib
 perm:out.toList.Perm (a.toList.take ia++b.toList.take ib)
 srt:out.toList.Pairwise λx y=>lt y x=false
 lea:∀x∈out.toList,∀j,ia<=j->j<a.size->lt (at0 a j) x=false
 leb:∀x∈out.toList,∀j,ib<=j->j<b.size->lt (at0 b j) x=false
abbrev SW:=oB (oC lW)×oC lW×Nat×Nat×Nat×Nat×Nat
abbrev C9(st:l_)(g:Nat):l_:=SortSt.mk' (kindOf st) (arrOf st) (pendingOf st) g<|failedOf st
def DX(a b c:oC lW)(d g mg f e:Nat):StateT l_ Sem (ForInStep SW) :=
 elem' a d>>=λy=>
  if(d+1+1==a.size)=true then pure (ForInStep.done (some<|c.push y++b.extract g b.size++a.extract (d+1) a.size,c.push y,d+1,g,mg,f,e))
  else if(decide (f<7)&&decide (e<7))=true then pure (ForInStep.done (none,c.push y,d+1,g,mg,f,e))
  else pure<|ForInStep.yield (none,c.push y,d+1,g,mg,f,e)
def DY(a b d:oC lW)(e c mg f g:Nat):StateT l_ Sem (ForInStep SW) :=
 elem' b c>>=λy=>
  if(c+1==b.size)=true then pure (ForInStep.done (some<|d.push y++a.extract e a.size++b.extract (c+1) b.size,d.push y,e,c+1,mg,f,g))
  else elem' a e>>=λz=>gallop' true z b (c+1) (b.size-(c+1)) 0>>=λx=>
   match x with
   |some k=>if k>0 then
     (if(c+1+k==b.size)=true then pure (ForInStep.done (some<|d.push y++b.extract (c+1) (c+1+k)++a.extract e a.size++b.extract (c+1+k) b.size,d.push y++b.extract (c+1) (c+1+k),e,c+1+k,mg,f,k))
     else DX a b (d.push y++b.extract (c+1) (c+1+k)) e (c+1+k) mg f k)
    else DX a b (d.push y) e (c+1) mg f k
   |_=>pure<|ForInStep.done (some<|d.push y++a.extract e a.size++b.extract (c+1) b.size,d.push y,e,c+1,mg,f,g)
def LH(a b d:oC lW)(c e mg g f:Nat):StateT l_ Sem (ForInStep SW) :=
 setMinGallop' mg>>=λ_=>elem' b e>>=λy=>gallop' false y a c (a.size-c) 0>>=λx=>
  match x with
  |some k=>if k>0 then
    (if(c+k+1==a.size)=true then pure (ForInStep.done (some<|d++a.extract c (c+k)++b.extract e b.size++a.extract (c+k) a.size,d++a.extract c (c+k),c+k,e,mg,k,f))
    else if(c+k==a.size)=true then pure (ForInStep.done (some<|d++a.extract c (c+k)++a.extract (c+k) a.size++b.extract e b.size,d++a.extract c (c+k),c+k,e,mg,k,f))
    else DY a b (d++a.extract c (c+k)) (c+k) e mg k f)
   else DY a b d c e mg k f
  |_=>pure<|ForInStep.done (some<|d++a.extract c a.size++b.extract e b.size,d,c,e,mg,g,f)
section
variable {a b:oC Nat}{st:l_}{Qd Qy:SW->l_->Prop}{out:oC Nat}{ia ib mg ac bc:Nat}
end
end
def Oy(a b:oC lW):mergeHi' a b=(do
 rule "list.sort.merge-hi"
 let d:=a.size+b.size
 let done (out:oC lW) (na nb:Nat):=a.extract 0 na++b.extract 0 nb++out.reverse
 let c (out:oC lW) (na nb:Nat):=b.extract 0 nb++a.extract 0 na++out.reverse
 let mut na:=a.size-1
 let mut nb:=b.size
 let mut out:oC lW:=#[<- elem' a na]
 if na==0 then return done out na nb
 if nb==1 then return c out na nb
 let mut minGallop:=gallopOf (<- get)
 for _ in [0:d] do
  let mut acount:=0
  let mut bcount:=0
  for _ in [0:d] do
   let some aWins <- lt' (<- elem' b (nb-1)) (<- elem' a (na-1))|return done out na nb
   if aWins then
    na:=na-1;out:=out.push<|<- elem' a na;acount:=acount+1;bcount:=0
    if na==0 then return done out na nb
    if acount>=minGallop then break
   else
    nb:=nb-1;out:=out.push<|<- elem' b nb;bcount:=bcount+1;acount:=0
    if nb==1 then return c out na nb
    if bcount>=minGallop then break
  rule "list.sort.gallop"
  minGallop:=minGallop+1
  for _ in [0:d] do
   if minGallop>1 then minGallop:=minGallop-1
   setMinGallop' minGallop
   let some at_ <- gallop' false (<- elem' b (nb-1)) a 0 na (na-1)|return done out na nb
   let k:=na-at_
   acount:=k
   if k>0 then
    out:=out++(a.extract at_ na).reverse;na:=at_
    if na==0 then return done out na nb
   nb:=nb-1;out:=out.push (<- elem' b nb)
   if nb==1 then return c out na nb
   let some at_ <- gallop' true (<- elem' a (na-1)) b 0 nb (nb-1)|return done out na nb
   let k:=nb-at_
   bcount:=k
   if k>0 then
    out:=out++(b.extract at_ nb).reverse;nb:=at_
    if nb==1 then return c out na nb
    if nb==0 then return done out na nb
   na:=na-1;out:=out.push (<- elem' a na)
   if na==0 then return done out na nb
   if acount<7&&bcount<7 then break
  minGallop:=minGallop+1
  setMinGallop' minGallop
 unsupported "internal:list.sort.merge-bound"):=rfl
section
variable {prog:lO}{w:lP}{A:lR}{E:lJ->lK->Prop}{s:lK}{κ:mC}{it:oC lW}{n:Nat}{lt:Nat->Nat->Bool}
section
variable {a b out:oC Nat}{na nb:Nat}
end
abbrev SX:=oB (oC lW)×Nat×Nat×oC lW×Nat×Nat×Nat
def DZ(a b c:oC lW)(d f mg g e:Nat):StateT l_ Sem (ForInStep SX) :=
 elem' a (d-1)>>=λy=>
  if(d-1==0)=true then pure (ForInStep.done (some<|a.extract 0 (d-1)++b.extract 0 f++(c.push y).reverse,d-1,f,c.push y,mg,g,e))
  else if(decide (g<7)&&decide (e<7))=true then pure (ForInStep.done (none,d-1,f,c.push y,mg,g,e))
  else pure<|ForInStep.yield (none,d-1,f,c.push y,mg,g,e)
def EA(a b c:oC lW)(e d mg f g:Nat):StateT l_ Sem (ForInStep SX) :=
 elem' b (d-1)>>=λy=>
  if(d-1==1)=true then pure (ForInStep.done (some<|b.extract 0 (d-1)++a.extract 0 e++(c.push y).reverse,e,d-1,c.push y,mg,f,g))
  else elem' a (e-1)>>=λz=>gallop' true z b 0 (d-1) (d-1-1)>>=λx=>
   match x with
   |some k=>if d-1-k>0 then
     (if(k==1)=true then pure (ForInStep.done (some<|b.extract 0 k++a.extract 0 e++(c.push y++(b.extract k<|d-1).reverse).reverse,e,k,c.push y++(b.extract k<|d-1).reverse,mg,f,d-1-k))
     else if(k==0)=true then pure (ForInStep.done (some<|a.extract 0 e++b.extract 0 k++(c.push y++(b.extract k<|d-1).reverse).reverse,e,k,c.push y++(b.extract k<|d-1).reverse,mg,f,d-1-k))
     else DZ a b (c.push y++(b.extract k<|d-1).reverse) e k mg f<|d-1-k)
    else DZ a b (c.push y) e (d-1) mg f (d-1-k)
   |_=>pure<|ForInStep.done (some<|a.extract 0 e++b.extract 0 (d-1)++(c.push y).reverse,e,d-1,c.push y,mg,f,g)
def LI(a b c:oC lW)(d e mg g f:Nat):StateT l_ Sem (ForInStep SX) :=
 setMinGallop' mg>>=λ_=>elem' b (e-1)>>=λy=>gallop' false y a 0 d (d-1)>>=λx=>
  match x with
  |some k=>if d-k>0 then
    (if(k==0)=true then pure (ForInStep.done (some<|a.extract 0 k++b.extract 0 e++(c++(a.extract k d).reverse).reverse,k,e,c++(a.extract k d).reverse,mg,d-k,f))
    else EA a b (c++(a.extract k d).reverse) k e mg (d-k) f)
   else EA a b c d e mg (d-k) f
  |_=>pure<|ForInStep.done (some<|a.extract 0 d++b.extract 0 e++c.reverse,d,e,c,mg,g,f)
section
variable {a b:oC Nat}{st:l_}{Qd Qy:SX->l_->Prop}{out:oC Nat}{na nb mg ac bc:Nat}
end
end
def Oz(i:Nat):mergeAt' i=(do
 let s <- get
 let(some (d,b,c),some (f,e,_)):=((pendingOf s)[i]?,(pendingOf s)[i+1]?)|unsupported "internal:list.sort.pending"
 set (setPending s<|((pendingOf s).setIfInBounds i (d,b+e,c)).eraseIdxIfInBounds<|i+1)
 let some k <- gallop' false (<- elem' (arrOf s) f) (arrOf s) d b 0|return false
 let(d,b):=(d+k,b-k)
 if b==0 then return true
 let some e <- gallop' true (<- elem' (arrOf s) (d+b-1)) (arrOf s) f e (e-1)|return false
 if e==0 then return true
 let x:=(arrOf s).extract d f
 let y:=(arrOf s).extract f (f+e)
 let merged <- if b<=e then mergeLo' x y else mergeHi' x y
 modify λs=>setArr s (merged.toList.zipIdx.foldl (λa (p,j)=>a.setIfInBounds (d+j) p)<|arrOf s)
 return (failedOf<|<- get).isNone):=rfl
section
variable {prog:lO}{w:lP}{A:lR}{E:lJ->lK->Prop}{s:lK}{κ:mC}{it:oC lW}{n:Nat}{lt:Nat->Nat->Bool}{p:oC Nat}{pd:oC<|Nat×Nat×Nat}{g:Nat}
def EB{a:Type}{M:Model}{x:a}{Q:PUnit->a->Prop}{st:a}(h:Q ⟨⟩ x):wpS M A E s (set x:StateT a Sem PUnit) Q st:=by unfold wpS;rw[StateT.run_set];exact C_ ⟨rfl,h⟩
def wr{a:Type}(b:Nat):oA a->Nat->oC a->oC a
 |[],_,p=>p
 |x::c,k,p=>wr b c (k+1)<|p.setIfInBounds (b+k) x
theorem So{b:Type}(c:Nat):∀(xs:oA b) (k:Nat) (p:oC b),(xs.zipIdx k).foldl (λa (z:b×Nat)=>a.setIfInBounds (c+z.2) z.1) p=wr c xs k p
 |[],_,_=>rfl
 |x::xs,k,p=>by rw[List.zipIdx_cons,fP,wr];exact So c xs (k+1) _
theorem Ye{b:Type}(a:Nat):∀(xs:oA b) (k:Nat) (p:oC b),a+k+xs.length<=p.size->∀i:Nat,(wr a xs k p)[i]?=if a+k<=i/\i<a+k+xs.length then xs[i-(a+k)]? else p[i]?
 |[],k,p,_,i=>by rw[wr,H_<|by simp only[List.length_nil];omega]
 |x::xs,k,p,h,i=>by rw[aX]at h;rw[wr,Ye a xs (k+1) _<|by rw[Array.size_setIfInBounds];omega,aQ,aX];by_cases h1:a+k=i;subst h1;rw[H_<|by omega,P_ rfl,P_<|by omega,P_<|by omega,lF];rfl;by_cases h2:a+(k+1)<=i/\i<a+(k+1)+xs.length;rw[P_ h2,P_<|by omega];rw[show i-(a+k)=i-(a+(k+1))+1 by omega,iO];rw[H_ h2,H_ h1,H_<|by omega]
def Yf(lo a n:Nat):StateT l_ Sem (oB Nat):=do
 reverseSlice' lo (lo+n)
 let mut n:=n
 for _ in [n:a] do
  let some smaller <- ltAt' (lo+n) (lo+n-1)|return none
  if smaller then break
  n:=n+1
 return some n
def Yg(lo a n:Nat):StateT l_ Sem (oB Nat):=do
 rule "list.sort.descending-run"
 let mut n:=n+1
 let mut neq:=0
 for _ in [n:a] do
  let some smaller <- ltAt' (lo+n) (lo+n-1)|return none
  if smaller then
   if neq>0 then reverseSlice' (lo+n-(neq+1)) (lo+n)
   neq:=0
  else
   let some larger <- ltAt' (lo+n-1) (lo+n)|return none
   if larger then break
   neq:=neq+1
  n:=n+1
 if neq>0 then reverseSlice' (lo+n-(neq+1)) (lo+n)
 Yf lo a n
def Na(lo a:Nat):countRun' lo a=(do
 let mut n:=1
 for _ in [1:a] do
  let some smaller <- ltAt' (lo+n) (lo+n-1)|return none
  if smaller then break
  n:=n+1
 if n==a then return some n
 if n>1 then
  let some rose <- ltAt' lo (lo+n-1)|return none
  if rose then return some n
  reverseSlice' lo (lo+n)
 Yg lo a n):=rfl
def Chain:oA (Nat×Nat×Nat)->Nat->Nat->Prop
 |[],lo,hi=>lo=hi
 | (a,l,_)::r,lo,hi=>a=lo/\0<l/\Chain r (lo+l) hi
theorem Chain.le:∀{l:oA<|Nat×Nat×Nat} {lo hi:Nat},Chain l lo hi->lo+l.length<=hi
 |[],_,_,h=>by cases h;simp
 | (a,l,_)::r,lo,hi,h=>by have:=h.2.2.le;have:=h.2.1;rw[aX];omega
theorem Chain.app:∀{l m:oA<|Nat×Nat×Nat} {lo hi:Nat},Chain (l++m) lo hi↔∃k,Chain l lo k/\Chain m k hi
 |[],m,lo,hi=>⟨λh=>⟨lo,rfl,h⟩,λ⟨k,e,h⟩=>by cases e;exact h⟩
 | (a,l,q)::r,m,lo,hi=>by constructor;rintro⟨h1,h2,b⟩;obtain⟨k,c,d⟩:=Chain.app.mp b;exact⟨k,⟨h1,h2,c⟩,d⟩;rintro⟨k,⟨h1,h2,b⟩,f⟩;exact⟨h1,h2,Chain.app.mpr ⟨k,b,f⟩⟩
def O0{l:oA<|Nat×Nat×Nat}{i:Nat}{a b:Nat×Nat×Nat}(h1:l[i]?=some a)(h2:l[i+1]?=some b):l=l.take i++a::b::l.drop (i+2):=by obtain⟨e,d⟩:=D_.mp h1;obtain⟨f,h⟩:=D_.mp h2;have c:=(List.take_append_drop i l).symm;rw[bR e,bR f,d,h]at c;exact c
def EC{pd:oC<|Nat×Nat×Nat}{i:Nat}{a b c:Nat×Nat×Nat}(h1:pd[i]?=some a)(h2:pd[i+1]?=some b):((pd.setIfInBounds i c).eraseIdxIfInBounds<|i+1).toList=pd.toList.take i++c::pd.toList.drop (i+2):=by
 have f:pd.toList[i]?=some a:=by rw[bT];exact h1
 have d:pd.toList[i+1]?=some b:=by rw[bT];exact h2
 have hi:=(D_.mp f).1;have hj:=(D_.mp d).1;rw[Array.toList_eraseIdxIfInBounds,Array.toList_setIfInBounds,jF,List.take_set,List.drop_set_of_lt<|by omega];have e:=O0 f d;have h:(pd.toList.take i).length=i:=by rw[aU];omega
 rw[show i+1+1=i+2 from rfl];have:(pd.toList.take<|i+1).set i c=pd.toList.take i++[c]:=by rw[aS,f,List.set_append_right _ _<|gG h,h,lF];rfl
 rw[this,jA];rfl
theorem Chain.mod{f:Nat×Nat×Nat->Nat×Nat×Nat}(b:∀e,(f e).1=e.1/\(f e).2.1=e.2.1):∀{l:oA<|Nat×Nat×Nat} {i lo hi:Nat},Chain l lo hi->Chain (l.modify i f) lo hi
 |[],i,lo,hi,h=>by rw[List.modify_nil];exact h
 | (a,l,q)::r,0,lo,hi,h=>by rw[List.modify_zero_cons];have:=b (a,l,q);generalize f (a,l,q)=e at this;obtain⟨j,d,c⟩:=e;obtain⟨h1,h2⟩:=this;dsimp only at h1 h2;subst h1;subst h2;exact h
 | (a,l,q)::r,i+1,lo,hi,h=>by rw[List.modify_succ_cons];exact⟨h.1,h.2.1,h.2.2.mod b⟩
end
end L2
namespace L2
open PySem
def Yh(A:lR)(s:lK)(u v:lJ)(b:Bool):Prop:=∀(prog:lO) (w:lP) (E:lJ->lK->Prop) (Q:lJ->lK->Prop),Q (.bool b) s->yL prog w A (richCompare .Lt u v) Q E s
inductive LexAt (A:lR) (s:lK):oA lJ->oA lJ->Bool->Prop
 |nil {ys:oA lJ}:LexAt A s [] ys (decide (0<ys.length))
 |stop {x:lJ} {xs:oA lJ}:LexAt A s (x::xs) [] false
 |eq {x y:lJ} {xs ys:oA lJ} {r:Bool}:SeqAt.EqAt A s x y true->LexAt A s xs ys r->LexAt A s (x::xs) (y::ys) r
 |ne {x y:lJ} {xs ys:oA lJ} {r:Bool}:SeqAt.EqAt A s x y false->Yh A s x y r->LexAt A s (x::xs) (y::ys) r
section
variable {prog:lO}{w:lP}{A:lR}{E:lJ->lK->Prop}{s:lK}
def LexAt.ends{xs ys:oA lJ}{r:Bool}(h:LexAt A s xs ys r)(e:xs.zip ys=[]):r=decide (xs.length<ys.length):=by
 cases h with
 |nil=>simp
 |stop=>simp
 |eq=>simp at e
 |ne=>simp at e
def Lg{a b:lM}{p i:lT}{xs ys:oC lJ}{n k:Nat}{P:PySem.Fin->lK->Prop}{r:Bool}(ha:s.heap.get? a=some p)(hb:s.heap.get? b=some i)(y:i.cls=.type "tuple") (t:p.data=.seq xs n) (x:i.data=.seq ys k)
  (h:LexAt A s xs.toList ys.toList r) (q:P (.done<|.ret<|.bool r) s):yL prog w A (Builtin.«tuple.__lt__» ⟨[.ref a,.ref b],[]⟩) P E s:=by
 have z:s.TypeIs (.ref b) "tuple" := ⟨i,hb,y⟩;refine(show wpAny _ _ (isInstance (.ref b) (.type "tuple")>>=_) _ _ s from A_<|eG z isSubtype_tuple_tuple ?_);rw[show(!true)=false from rfl,H_ U_];refine A_<|wpAny_tupleItemsOf ha t<|A_<|wpAny_tupleItemsOf hb x<|A_ ?_;refine wpAny_forIn_list _ (λleft d m=>d.1=none/\m=s/\∃g f,left=List.zip g f/\LexAt A s g f r/\decide (g.length<f.length)=decide (xs.size<ys.size)) _ ?_ ?_ _ _ ⟨rfl,rfl,xs.toList,ys.toList,rfl,h,by simp⟩
 ·rintro⟨u,v⟩ left d m ⟨o,rfl,g,f,c,j,l⟩;cases j with
  |nil=>simp at c
  |stop=>simp at c
  |eq h1 h2=>simp only[List.zip_cons_cons,List.cons.injEq,Prod.mk.injEq]at c;obtain⟨⟨rfl,rfl⟩,rfl⟩:=c;refine A_<|h1 prog w _ _ ?_;dsimp only;rw[show(!true)=false from rfl,H_ U_];exact C_ ⟨rfl,rfl,_,_,rfl,h2,by simpa using l⟩
  |ne h1 h2=>simp only[List.zip_cons_cons,List.cons.injEq,Prod.mk.injEq]at c;obtain⟨⟨rfl,rfl⟩,rfl⟩:=c;refine A_<|h1 prog w _ _ ?_;simp only[Bool.not_false,if_true];exact A_<|eC<|A_<|h2 prog w _ _<|A_<|C_<|C_<|C_ q
 rintro⟨B,a2⟩ m ⟨o,rfl,g,f,c,j,l⟩;simp only at o;subst o;have e:=j.ends c.symm;rw[e,l]at q;exact C_ q
def Q8{a b:lM}{c d:lT}{xs ys:oC lJ}{n k:Nat}{r:Bool}(ha:s.heap.get? a=some c)(hb:s.heap.get? b=some d)(e:c.cls=.type "tuple") (f:d.cls=.type "tuple") (i:c.data=.seq xs n) (g:d.data=.seq ys k)
  (hu:A.units<cLine) (h:LexAt A.in1 s xs.toList ys.toList r):Yh A s (.ref a) (.ref b) r:=λprog w E Q q=>
 wpAny_richCompare_same_room (T := "tuple") ⟨c,ha,e⟩ ⟨d,hb,f⟩ F.slot_tuple_lt (aW F.slot_tuple_lt ⟨c,ha,e⟩ F.entry_tuple_lt (Lg ha hb f i g h ⟨_,rfl,(λz=>nomatch z),q⟩)<|F.args_tuple_lt_2 _ _) hu
end
mutual
def cmpb:lL->lL->Bool
 |.int _,.int _=>true
 |.tuple b,.tuple a=>cmpbs b a
 |_,_=>false
def cmpbs:oA lL->oA lL->Bool
 |[],_=>true
 |_::_,[]=>true
 |x::b,y::a=>if PyData.eqv x y then cmpbs b a else cmpb x y
end
def Q9{u a b c d:Nat}(h:u+min (max a b) (max c d)<cLine):u+min a c<cLine:=fJ (kD (Nat.le_min_of_le_of_le (I_ (Nat.min_le_left _ _)<|Nat.le_max_left _ _)<|I_ (Nat.min_le_right _ _)<|Nat.le_max_left _ _) u) h
def LJ{u a b c d:Nat}(h:u+min (max a b) (max c d)<cLine):u+min b d<cLine:=Q9 (b:=a) (d:=c) (by rw[Nat.max_comm b a,Nat.max_comm d c];exact h)
mutual
theorem Kj:∀(x y:lL) (A:lR) (s:lK) (u v:lJ) (as f:oA lM),Reads s.heap u x as->Reads s.heap v y f->x.canLay0=true->y.canLay0=true->cmpb x y=true->A.units+min x.depth y.depth<cLine->Yh A s u v (BT x y)
 |.int a,.int b,A,s,u,v,as,f,g,c,_,_,_,_=>by
  cases g;cases c;intro k w E Q q;have e:BT (.int a) (.int b)=decide (a<b):=by simp[BT]
  rw[e]at q;exact wpAny_lt_int q
 |.tuple i,.tuple d,A,s,u,v,as,f,g,c,l,j,hc,hu=>by
  cases g with
  |tuple o a2 t m=>
   cases c with
   |tuple z p r n=>
    have e:BT (.tuple i) (.tuple d)=Lf i d:=by simp[BT]
    rw[e];simp only[PyData.canLay0]at l j;simp only[cmpb]at hc;simp only[PyData.depth]at hu;refine Q8 o z a2 p t r (by omega)<|Gb i d A.in1 s _ _ _ _ m n l j hc ?_;show A.units+1+_<_;omega
 |.int _,.none,_,_,_,_,_,_,_,_,_,_,h,_=>by simp[cmpb]at h
 |.int _,.bool _,_,_,_,_,_,_,_,_,_,_,h,_=>by simp[cmpb]at h
 |.int _,.str _,_,_,_,_,_,_,_,_,_,_,h,_=>by simp[cmpb]at h
 |.int _,.list _,_,_,_,_,_,_,_,_,_,_,h,_=>by simp[cmpb]at h
 |.int _,.tuple _,_,_,_,_,_,_,_,_,_,_,h,_=>by simp[cmpb]at h
 |.int _,.dict _,_,_,_,_,_,_,_,_,_,_,h,_=>by simp[cmpb]at h
 |.tuple _,.none,_,_,_,_,_,_,_,_,_,_,h,_=>by simp[cmpb]at h
 |.tuple _,.bool _,_,_,_,_,_,_,_,_,_,_,h,_=>by simp[cmpb]at h
 |.tuple _,.str _,_,_,_,_,_,_,_,_,_,_,h,_=>by simp[cmpb]at h
 |.tuple _,.list _,_,_,_,_,_,_,_,_,_,_,h,_=>by simp[cmpb]at h
 |.tuple _,.int _,_,_,_,_,_,_,_,_,_,_,h,_=>by simp[cmpb]at h
 |.tuple _,.dict _,_,_,_,_,_,_,_,_,_,_,h,_=>by simp[cmpb]at h
 |.none,_,_,_,_,_,_,_,_,_,_,_,h,_=>by simp[cmpb]at h
 |.bool _,_,_,_,_,_,_,_,_,_,_,_,h,_=>by simp[cmpb]at h
 |.str _,_,_,_,_,_,_,_,_,_,_,_,h,_=>by simp[cmpb]at h
 |.list _,_,_,_,_,_,_,_,_,_,_,_,h,_=>by simp[cmpb]at h
 |.dict _,_,_,_,_,_,_,_,_,_,_,_,h,_=>by simp[cmpb]at h
theorem Gb:∀(xs ys:oA lL) (A:lR) (s:lK) (c a:oA lJ) (as g:oA lM),ReadsAll s.heap c xs as->ReadsAll s.heap a ys g->PyData.canLayAll0 xs=true->PyData.canLayAll0 ys=true->cmpbs xs ys=true->A.units+min (PyData.depthAll xs) (PyData.depthAll ys)<cLine->LexAt A s c a (Lf xs ys)
 |[],ys,A,s,c,a,as,g,d,b,_,_,_,_=>by
  cases d;have e:Lf [] ys=decide (0<a.length):=by cases b<;>simp[Lf]
  rw[e];exact .nil
 |x::xs,[],A,s,c,a,as,g,d,b,_,_,_,_=>by
  cases b;cases d with
  |cons i a2=>
   have e:Lf (x::xs) []=false:=by simp[Lf]
   rw[e];exact .stop
 |x::xs,y::ys,A,s,c,a,as,g,d,b,h,f,hc,hu=>by
  simp only[PyData.canLayAll0,Bool.and_eq_true]at h f;simp only[PyData.depthAll]at hu;cases d with
  |cons i a2=>
   cases b with
   |cons j k=>
    have q:=kZ x y A s _ _ _ _ i j h.1 f.1<|Q9 hu;simp only[cmpbs]at hc;simp only[Lf];cases e:PyData.eqv x y with
    |true=>rw[e]at q hc;exact .eq q (Gb xs ys A s _ _ _ _ a2 k h.2 f.2 hc<|LJ hu)
    |false=>rw[e]at q hc;exact .ne q<|Kj x y A s _ _ _ _ i j h.1 f.1 hc<|Q9 hu
end
end L2
namespace L2
open PySem PySem.W PyProof.Rows
section
variable {prog:lO}{w:lP}{A:lR}{E:lJ->lK->Prop}{s:lK}
def ED{d b:Bool}{Q:Bool->lK->Prop}:∀{f c:oA lJ} {r:Bool},LexAt A s f c r->d=decide (f.length<c.length)->∀i,(b&&i==0)=false->Q r s->KatLex prog w A b d Q (f.zip c) i s:=by
 intro f c r h
 induction h with
 |nil=>intro e i a q;have g:d=decide (0<_):=e;rw[<- g]at q;exact kat_nil q
 |stop=>
  intro e i a q;have g:d=false:=by rw[e];simp
  rw[<- g]at q;exact kat_nil q
 |eq h1 h2 j=>intro e i a q;exact kat_cons (h1 prog w _ _<|kat_yes<|j (by rw[e];simp) (i+1) (by simp) q)
 |ne h1 h2=>intro e i a q;refine kat_cons<|h1 prog w _ _<|kat_no ?_;rw[a];exact kat_one _ _<|h2 prog w _ _<|show PySem.W.BoolBack Q (.bool _) s from q
def LK{x y:lM}{a b:Int}{c d:oA lL}{as D:oA lM}{Q:Bool->lK->Prop}(G:Reads s.heap (.ref x) (.tuple<|.int a::c) as)(u:Reads s.heap (.ref y) (.tuple<|.int b::d) D)(l:(PyData.tuple<|.int a::c).canLay0=true)(j:(PyData.tuple<|.int b::d).canLay0=true)
  (hc:cmpb (.tuple<|.int a::c) (.tuple<|.int b::d)=true) (hu:A.units+64<cLine) (B:(PyData.tuple<|.int a::c).depth<=64) (q:Q (BT (.tuple<|.int a::c)<|.tuple<|.int b::d) s):yL prog w A (keyLt' (tuples' true) (.ref x)<|.ref y) Q E s:=by
 cases G with
 |@tuple _ M h n _ _ z a2 I i=>
  cases u with
  |@tuple _ O g m _ _ J N H k=>
   refine kat_lt z I J H ?_;simp only[PyData.canLay0,PyData.canLayAll0,Bool.and_eq_true]at l j;simp only[PyData.depth,PyData.depthAll]at B;simp only[cmpb,cmpbs]at hc;simp only[BT,Lf]at q;have p:h.size=h.toList.length:=by simp
   have r:g.size=g.toList.length:=by simp
   rw[p,r];generalize h.toList=us at i ⊢;generalize g.toList=vs at k ⊢;cases i with
   |cons o F=>
    cases k with
    |cons v C=>
     cases o with
     |int _ t=>
      cases v with
      |int _ L=>
       rw[List.zip_cons_cons];have f:=kZ (.int a) (.int b) A s _ _ _ _ (.int a t) (.int b L) rfl rfl (by simp[PyData.depth];omega);cases e:PyData.eqv (.int a) (.int b) with
       |true=>rw[e]at f hc q;refine kat_cons<|f prog w _ _<|kat_yes ?_;refine ED (Gb c d A s _ _ _ _ F C l.2 j.2 hc<|by omega) (by simp) 1 rfl q
       |false=>rw[e]at f hc q;refine kat_cons<|f prog w _ _<|kat_no ?_;exact kat_lt_int q
end
end L2
namespace L2
open PySem PySem.Spec PyProof.Rows
theorem Hj:∀{ds:oA lL},PyData.canLayAll0 ds=true->∀d∈ds,d.canLay0=true
 |d::ds,h,e,he=>by simp only[PyData.canLayAll0,Bool.and_eq_true]at h;rcases aK.mp he with rfl|he;exact h.1;exact Hj h.2 e he
theorem L9:∀{ds:oA lL},∀d∈ds,d.depth<=PyData.depthAll ds
 |d::ds,e,he=>by simp only[PyData.depthAll];rcases aK.mp he with rfl|he;omega;have:=L9 (ds:=ds) e he;omega
def Yi{a:Type}{xs:oA a}{i:Nat}{d:a}(h:i<xs.length):xs.getD i d∈xs:=by rw[cD,K_ h];exact gT h
theorem Ir{h h':lS}(hk:∀b o,h.get? b=some o->h'.get? b=some o):∀{a:oA lJ} {ds:oA lL} {as:oA lM},ReadsAll h a ds as->ReadsAll h' a ds as
 |_,_,_,.nil=>.nil
 |_,_,_,.cons r t=>.cons (PyProof.Rows.Reads.keeps hk r)<|Ir hk t
theorem SY{h:lS}:∀{a:oA lJ} {ds:oA lL} {as:oA lM} {i:Nat},ReadsAll h a ds as->i<ds.length->∃b,Reads h (a.getD i .none) (ds.getD i .none) b
 |_,_,_,0,.cons r _,_=>⟨_,r⟩
 |_,_,_,i+1,.cons _ t,hi=>SY (i:=i) t<|by simpa using hi
theorem Sq{h:lS}:∀{a:oA lJ} {ds:oA lL} {as:oA lM},ReadsAll h a ds as->a.length=ds.length
 |_,_,_,.nil=>rfl
 |_,_,_,.cons _ t=>by simp[Sq t]
theorem O1{h:lS}:∀{e:oA lJ} {ds:oA lL} {as:oA lM},ReadsAll h e ds as->(∀d∈ds,∃i r,d=.tuple (.int i::r))->∃b:oA lJ,PySem.W.KatTups h e b/\b.length=e.length/\∀v∈b,∃i t,v=.int i t
 |_,_,_,.nil,_=>⟨[],PySem.W.KatTups.nil,rfl,λ_ z=>nomatch z⟩
 |_,_,_,.cons r t,f=>by
  obtain⟨b,k,l,z⟩:=O1 t λd p=>f d<|aE _ p;obtain⟨i,u,rfl⟩:=f _ aR;cases r with
  |@tuple a o j n A as m a2 q c=>
   cases hv:j.toList with
   |nil=>rw[hv]at c;cases c
   |cons w x=>
    rw[hv]at c;cases c with
    |cons g y=>
     cases g with
     |int _ s=>refine⟨.int i s::b,PySem.W.KatTups.cons m a2 q ?_ k,by simp[l],λv hv'=>?_⟩;rw[<- bT,hv];rfl;rcases aK.mp hv' with rfl|hv';exact⟨_,_,rfl⟩;exact z v hv'
def O2(t:lM)(i:Int):lT:={cls:=.type "reversed",data:=.fields #[.ref t,rawInt i]}
def Gc(h:lS)(a t:lM)(i:Int):Prop:=∃o,h.get? a=some o/\o.cls=.type "reversed" /\ o.data=.fields #[.ref t,rawInt i]
def O3:Manifest.owners.lookup (String.ofList ['d','e','s','r','e','v','e','r'].reverse)=some Manifest.sig_reversed:=by kernel_rfl
def Hz:Slot "reversed" "__next__" "reversed.__next__" := .of (owner := "reversed") (n := "__next__") (by rw[eZ,dF];kernel_rfl) (by decide +kernel) (by decide +kernel) (by decide +kernel) (.inl<|by decide +kernel)<|by rw[iU];kernel_rfl
def O4:entryFor table "reversed.__next__" = some Builtin.«reversed.__next__»:=entryFor_of_tree<|by kernel_rfl
def Sr(a:lJ):argsOk "reversed.__next__" ⟨[a],[]⟩:=by rw[argsOk,signature?_of (id := "reversed.__next__") (n:=['_','_','t','x','e','n','_','_']) (o:=['d','e','s','r','e','v','e','r']) (by kernel_rfl) O3];kernel_rfl
def Ss:Slot "reversed" "__iter__" "reversed.__iter__" := .of (owner := "reversed") (n := "__iter__") (by rw[eZ,dF];kernel_rfl) (by decide +kernel) (by decide +kernel) (by decide +kernel) (.inl<|by decide +kernel)<|by rw[iU];kernel_rfl
def Yj(a:lJ):argsOk "reversed.__iter__" ⟨[a],[]⟩:=by rw[argsOk,signature?_of (id := "reversed.__iter__") (n:=['_','_','r','e','t','i','_','_']) (o:=['d','e','s','r','e','v','e','r']) (by kernel_rfl) O3];kernel_rfl
def Uz:entryFor table "reversed.__iter__" = some Builtin.«dict_keyiterator.__iter__»:=entryFor_alias (id' := "dict_keyiterator.__iter__") (by kernel_rfl) (by first|rfl|decide +kernel) (by decide +kernel)<|by kernel_rfl
def EE:typeLookup (.type "tuple") "__reversed__" = pure none:=by rw[eZ,dF];kernel_rfl
def U0:isSubtype (.type "tuple") (.type "dict")=pure false:=by rw[iU];kernel_rfl
def Nb:Slot "reversed" "__init__" "object.__init__" := .of (owner := "object") (n := "__init__") (by rw[eZ,dF];kernel_rfl) (by decide +kernel) (by decide +kernel) (by decide +kernel) (.inl<|by decide +kernel)<|by rw[iU];kernel_rfl
def U1:TypeCalled "reversed" "reversed.__new__" "object.__init__" := ⟨by decide +kernel,F.create_reversed,⟨_,_,F.mro_reversed⟩,F.made_reversed,by decide +kernel,F.sub_reversed_self,Nb⟩
section
variable {prog:lO}{w:lP}{A:lR}{E:lJ->lK->Prop}{s:lK}{X:Cx}{tg a:lQ}{ta:AE}{pos p:Pos}{o e f:lQ}{au ak:Pos}{td ty tx te:AE}{p2 cp:Pos}
def Gc.typeIs{b t:lM}{i:Int}(x:Gc s.heap b t i):s.TypeIs (.ref b) "reversed" := by obtain⟨o,c,hc,_⟩:=x;exact⟨o,c,hc⟩
def Gc.at{h h':lS}{b t:lM}{i:Int}(x:Gc h b t i)(e:∀o,h.get? b=some o->h'.get? b=some o):Gc h' b t i:=by obtain⟨o,c,r⟩:=x;exact⟨o,e _ c,r⟩
def Gy{t:lM}{items:oC lJ}{Q:lJ->lK->Prop}(g:IsTup s.heap t items)(k:¬(items.size:Int)>=2^63)
  (h:∀b,Q (.ref s.heap.objs.size) {s with heap:=s.heap.push<|O2 t<|(items.size:Int)-1,toks:=b}):yL prog w A (call (.type "reversed") [.ref t]) Q E s:=by
 have d:s.TypeIs (.ref t) "tuple" := g.typeIs;refine callType_newIn U1 (by decide) (F.typeCall_reversed_1 _) (F.newCall_reversed_1 _) (λi=>by kernel_rfl) F.entry_reversed_new (S:=λj R c=>c=s/\∀b,R (.ok<|.ret<|.ref s.heap.objs.size) {s with heap:=s.heap.push<|O2 t<|(items.size:Int)-1,toks:=b})
  (.of_wp λj R c h1=>?_) ⟨rfl,λb=>⟨⟨_,O_ _ rfl,rfl⟩,h b⟩⟩
 obtain⟨rfl,h1⟩:=h1;rw[Builtin.«reversed.__new__»];refine A_<|eF (newClass_reversed _) ?_;refine A_ (eF (a:=()) (by first|rfl|kernel_rfl)<|A_<|eF (a:=()) (by first|rfl|kernel_rfl) ?_);refine A_<|eY d EE<|A_ ?_;refine(show wpAny _ _ (isInstance (.ref t) (.type "dict")>>=_) _ _ c from A_<|eG d U0 ?_);rw[H_ U_];refine A_<|eY d F.slot_tuple_getitem.lookup ?_;dsimp only;rw[P_<|by decide];refine C_ ?_;rw[show(!true)=false from rfl,H_ U_];refine A_ (PyProof.Rows.len_tuple g (by omega)<|A_<|eF (a:=some (items.size:Int)) rfl ?_);refine(show wpAny _ _ (newObj (.type "reversed") (.fields #[.ref t,rawInt<|(items.size:Int)-1])>>=_) _ _ _ from A_<|aJ<|C_ ⟨_,rfl,h1 _⟩)
def O5{b t:lM}{i:Nat}{items:oC lJ}{x:lJ}{Q:oB lJ->lK->Prop}(g:Gc s.heap b t (i:Int))(j:IsTup s.heap t items)(hx:items[i]?=some x)(q:t≠b)(hi:(i:Int)<2^63)
  (n:∀h m,Gc h b t ((i:Int)-1)->Heap.SameBut b s.heap h->Q (some x) {s with heap:=h,toks:=m}):yL prog w A (pyNext<|.ref b) Q E s:=by
 obtain⟨o,d,hc,c⟩:=id g;have l:s.TypeIs (.ref t) "tuple" := j.typeIs;unfold pyNext;refine A_<|d_<|aV (name:=Str.ofString "__next__") g.typeIs Hz<|aW Hz g.typeIs O4 ?_<|Sr _;rw[Builtin.«reversed.__next__»];refine A_<|eF (a:=(Value.ref b,[])) rfl<|A_<|aH d c (x:=.ref t) rfl<|A_<|aH d c (x:=rawInt (i:Int)) rfl ?_;refine(show wpAny _ _ (if(i:Int)<0 then _ else _) _ _ s from ?_);rw[H_<|by omega];refine A_<|eY l F.slot_tuple_getitem.lookup ?_;have hk:seqIndex? (i:Int) items.size=some i:=by
  have k:i<items.size:=by rcases gH i items.size with z|z;exact z;rw[gI z]at hx;cases hx
  have h0:¬((i:Int)<0):=by omega
  unfold seqIndex?;simp[k,h0]
 refine(show wpAny _ _ (mkInt (i:Int)>>=_) _ _ s from A_<|wpAny_mkInt<|A_<|d_<|PyProof.Rows.getItem_tuple j (by omega) hi hk hx ?_);refine A_<|aH d c (x:=rawInt (i:Int)) rfl ?_;refine(show wpAny _ _ (setField (.ref b) 1 (rawInt<|(i:Int)-1)>>=_) _ _ _ from A_<|bI d c (by simp)<|C_ ⟨x,rfl,C_<|n _ _ ?_<|bF ..⟩);exact⟨_,Y_ _ d<|cW<|aY c _,(iY ..).trans hc,by rw[aY c];simp⟩
def Ra{c t:lM}{Q:oB lJ->lK->Prop}(k:A.handled=none)(h:Gc s.heap c t<|-1)
  (l:∀j,Heap.ExtBut c s.heap j->Q none {s with heap:=j}):yL prog w A (pyNext<|.ref c) Q E s:=by
 obtain⟨o,g,hc,d⟩:=id h;unfold pyNext;refine A_<|d_<|aV (name:=Str.ofString "__next__") h.typeIs Hz<|aW Hz h.typeIs O4 ?_<|Sr _;rw[Builtin.«reversed.__next__»];refine A_<|eF (a:=(Value.ref c,[])) rfl<|A_<|aH g d (x:=.ref t) rfl<|A_<|aH g d (x:=rawInt<|-1) rfl ?_;refine(show wpAny _ _ (if(-1:Int)<0 then _ else _) _ _ s from ?_);rw[P_<|by decide];refine A_<|eC<|A_ ?_;have h1:(s.heap.update c<|Obj.mapFields λi=>i.set! 1<|rawInt<|-1).get? c=some (o.mapFields λi=>i.set! 1<|rawInt<|-1):=Y_ _ g<|cW<|aY d _;refine(show wpAny _ _ (setField (.ref c) 1 (rawInt<|-1)>>=λ_=>setField (.ref c) 0 .none) _ _ s from A_<|bI g d (by simp)<|bI h1 (aY d _) (by simp) ?_);refine A_<|show wpAny _ _ (newExc (.type "StopIteration") []>>=_) _ _ _ from A_ ?_;simp only[newExc,newTuple];refine A_ (aJ (A_ (m:=firstArgMember _ _)<|eF (a:=Value.none) (by first|rfl|(simp only[firstArgMember];rfl))<|aJ ?_<|by size_fits)<|by size_fits);simp only[raiseNew];refine A_<|gZ<|show wpAny _ _ _ _ _ _ from ?_;rw[show A.in1.handled=none from k];refine A_<|C_<|jU<|show wpAny _ _ _ _ _ _ from ?_;refine A_<|eG (T := "StopIteration") (b:=true) ⟨_,O_ _ rfl,rfl⟩ jB<|C_<|l _ ?_;exact λb n hb e=>DD _<|DD _<|((bF _ c _).2 b hb).trans<|((bF s.heap c _).2 b hb).trans e
def Yk{b t:lM}{i:Int}{Q:lJ->lK->Prop}(c:Gc s.heap b t i)(h:Q (.ref b) s):yL prog w A (pyIter<|.ref b) Q E s :=
 fS c.typeIs Ss (aW Ss c.typeIs Uz (C_ ⟨_,rfl,"reversed",_,c.typeIs,Hz.lookup,h⟩)<|Yj _)
def Irv(K:lN)(a:lM)(n:Nat):It :=
 ⟨λi H=>∃b x,Il K H a b/\b.length=n/\b.reverse[i]?=some x,λi H x c=>c=H/\∀b,Il K H a b->b.reverse[i]?=some x,λi H=>∃b,Il K H a b/\b.length=n/\n<=i⟩
def Nc{b:Type}{xs:oA b}{i:Nat}{x:b}(h:xs.reverse[i]?=some x):i<xs.length/\xs[xs.length-1-i]?=some x:=by
 have hi:i<xs.length:=by have:=(D_.mp h).1;simpa using this
 rw[List.getElem?_reverse hi]at h;exact⟨hi,h⟩
def Yl{P:lO}{w:lP}{K:lN}{tg:lQ}(a g:lM)(V:a≠g)(n:Nat)(hn:(n:Int)<2^63):Turn P w K tg (Irv K a n) [g] g (λi h=>i<=n/\Gc h g a ((n:Int)-1-i)) where
 mem:=by simp
 obj:=λi h st b hb=>by
  have e:b=g:=by simpa using hb
  subst e;obtain⟨_,o,e,c,d⟩:=st;exact⟨o,e,λv z=>by rw[d]at z;cases z⟩
 keep:=λi h m st k=>⟨st.1,st.2.at λo e=>k g (by simp) o e⟩
 item:=by
  intro X r D y hc i T s S H E I l st J;subst r D y;obtain⟨xs,x,hq,O,hx⟩:=J;obtain⟨W,R,p,hz⟩:=I.tuple hq;have ai:=R.length;obtain⟨hi,Z⟩:=Nc hx;obtain⟨u,hu,ru⟩:=R.get Z;obtain⟨B,M,f2,L,C,N⟩:=l g (by simp);have t:(n:Int)-1-i=((n-1-i:Nat):Int):=by omega
  have j:=st.2;rw[t]at j;refine O5 j (show IsTup s.heap a W.toArray from p) (x:=u) (by rw[<- O];simpa using hu) V (by omega) λm F G Y=>?_;have I1:Inv X T S H {s with heap:=m,toks:=F}:=I.turned (t':=F) (λb o hb e=>(Y.2 b hb).trans e) B M L C N;have e2:((n-1-i:Nat):Int)-1=(n:Int)-1-((i+1:Nat):Int):=by omega
  rw[e2]at G;obtain⟨o,e,c,d⟩:=id G;exact⟨u,rfl,N8 (s:={s with heap:=m,toks:=F}) e c d (by decide) ⟨x,H,I1,ru,⟨rfl,λys hy=>by rw[I.tuple_inj hy hq];exact hx⟩,⟨by omega,G⟩,λb hb=>(l b hb).1⟩⟩
 done:=by
  intro X r D y hc i T s S H E I l st J;subst r D y;obtain⟨xs,hq,O,hx⟩:=J;obtain⟨B,M,f2,L,C,N⟩:=l g (by simp);have t:(n:Int)-1-i=-1:=by have:=st.1;omega
  have j:=st.2;rw[t]at j;refine Ra (I.ok.hd hc) j λm U=>⟨rfl,?_⟩;exact I.turned (t':=s.toks) (λb o hb e=>U b o hb e) B M L C N
 self:=λA i s Q E st q=>Yk st.2 q
def Ym{K:lN}{t:Hp}{a:lM}{xs:oA AV}{n:Nat}{j:M->Prop}(hn:xs.length=n)(h:∀H d,Kp t H->Cn K d H->j d->∃b,Il K H a b/\A4 K H xs b):ItOk K t (Irv K a n) xs.reverse j:=by
 refine⟨λi H d S c k hi=>?_,λi H d v G x S c k e y=>?_,λH d S c k=>?_⟩;obtain⟨b,q,r⟩:=h H d S c k;have l:=r.length;have C:i<b.reverse.length:=by simp at hi ⊢;omega
 exact⟨b,b.reverse[i],q,by omega,K_ C⟩
 obtain⟨b,q,r⟩:=h H d S c k;obtain⟨rfl,y⟩:=y;have B:=y b q;have l:=r.length;obtain⟨hi,z⟩:=Nc e;obtain⟨u,g,F⟩:=r.get z;obtain⟨D,m⟩:=Nc B;rw[<- l]at m;rw[m]at g;cases g;exact⟨Kp.refl,c,F⟩;obtain⟨b,q,r⟩:=h H d S c k;exact⟨b,q,by rw[<- r.length];exact hn,by rw[gW];omega⟩
def Qaz(t:AE):AI:=λd c R=>t d c λx b=>match x with
 |.D (.tuple g)=>R (g.map AV.D).reverse (λ_=>True) b
 |_=>False
def LL(hg:Gl X "reversed") (hm:X.mg "reversed" = none) (P:VE X a ta) (G:starEach [a] X.env=[(false,eval a X.env)]:=by rfl):VI X tg (.Call (.Name "reversed" p) [a] [] pos) (Qaz ta):=by
 intro aa s Y H R I j;refine B5 j λτ y R' U hc h hq=>?_;refine bN<|Dr I hg hm boot_reversed ?_;refine bJ ?_ G rfl;rw[G];refine bD<|thn (P aa s Y H (λv l=>∃i d,Kp H l/\Cn X.K d l/\RelA X.K l (.D<|.tuple i) v/\R' (i.map AV.D).reverse (λ_=>True) d) I ⟨τ,y,_,U,hc,h,λx d v l B r n hx=>?_⟩) λu g N=>cL ?_;split at hx;exact⟨_,d,B,r,n,hx⟩;exact hx.elim;obtain⟨xv,l,t,r1,i,d,B,r,n,hx⟩:=N;have hi:items d (.D<|.tuple i)=some (i.map AV.D):=rfl;obtain⟨q,vs,rfl,hp,O⟩:=Cg r n hi;cases r1;rcases hp with⟨z,_⟩|⟨_,hp⟩;exact absurd z (by simp[GO]);obtain⟨k,Q,L,hz⟩:=t.tuple hp;have M:=Q.length;have T:(k.length:Int)<2^63:=by
  have:sizeLine<2^62:=by decide
  omega
 refine Gy (show IsTup g.heap q k.toArray from L) (by rw[X_];omega) λV=>?_;have F:q<g.heap.objs.size:=by obtain⟨_,Z,_⟩:=L;exact Q_ Z
 have m:∀b o,g.heap.get? b=some o->(g.heap.push<|O2 q<|(k.toArray.size:Int)-1).get? b=some o:=λb o e=>DD _ e;have J:Gc (g.heap.push<|O2 q<|(k.toArray.size:Int)-1) g.heap.objs.size q ((k.length:Int)-1-(0:Nat)):=⟨_,O_ _ rfl,rfl,by simp[O2]⟩;refine Yk J ?_;refine⟨g.heap.objs.size,[g.heap.objs.size],_,_,l,rfl,t.kept (t':=V) m,Yl q _ (aM F) k.length T,⟨bH _,J⟩,λb hb=>?_,hq _ _ _ _ _ B r (Ym ?_ λH y S c _=>?_) hx⟩;have e:b=g.heap.objs.size:=by simpa using hb
 subst e;exact t.fpOk (F_ _)<|t.hok.fresh<|F_ _;rw[<- M,<- O.length];obtain⟨q2,W,e,C,rw⟩:=Cg c (n.kp S)<|show items y (.D<|.tuple i)=some (i.map AV.D) from rfl;cases e;rcases C with⟨z,_⟩|⟨_,C⟩;exact absurd z (by simp[GO]);exact⟨W,C,rw⟩
def LM:MO->Prop
 |.dk _=>True
 |.dt _=>True
 |_=>False
def Yn(td ty tx:AE):AE:=λg i R=>td g i λx b=>match x with
 |.R a=>(∃m,b a=some m/\LM m)/\ty g b λy h=>tx g h λz c=>match y with
  |.D d=>opt (c a) λm=>opt (dget m d) λr=>R (r.getD z) c
  |_=>False
 |_=>False
def Yo{K:lN}{d:M}{H:Hp}{a:lM}{m:MO}(hc:Cn K d H)(e:d a=some m)(h:LM m):YW H a:=by
 obtain⟨k,g,i⟩:=hc a m e;cases m with
 |dk b=>obtain⟨c,rfl,_⟩:=i;exact .inl ⟨c,.inl g⟩
 |dt b=>obtain⟨c,rfl,_⟩:=i;exact .inr ⟨c,.inl g⟩
 |lst j=>exact h.elim
 |dd b=>exact h.elim
def Ia(hu:X.A.units+1<cLine)(P:VE X o td)(he:VE X e ty)(L:VE X f tx)(m:M2 X o "get" au e f ak:=by exact⟨rfl,rfl,rfl,rfl⟩):VE X (.Call (.Attribute o "get" au) [e,f] [] ak) (Yn td ty tx):=(W9 hu P he L m).imp λY H Q b=>B5 b λl F R k hc h hq=>
 ⟨l,F,_,k,hc,h,λx c v Z i D G hx=>by
  split at hx
  ·rename_i a;obtain⟨⟨U,q,O⟩,hx⟩:=hx;cases G;refine⟨a,rfl,Yo D q O,l,c,_,k.kp i,D,hx,λy n u H2 C J N hy=>⟨l,n,_,(k.kp i).kp C,J,hy,λz T W V t B S hz=>?_⟩⟩;split at hz
   ·obtain⟨m,M,hz⟩:=A5 hz;obtain⟨r,I,hz⟩:=A5 hz;obtain⟨d,g,j⟩:=Ju B M (Dk.kp t _ _ N) I;refine⟨d,g,hq _ _ _ _ ((i.trans C).trans t) B ?_ hz⟩;cases r with
    |none=>
     cases d with
     |none=>exact S
     |some _=>exact j.elim
    |some _=>
     cases d with
     |none=>exact j.elim
     |some _=>exact j
   exact hz.elim
  exact hx.elim⟩
def SZ(te:AE):AE:=λg c R=>te g c λx b=>match x with
 |.R a=>opt (b a) λm=>match m with
  |.lst d=>∀l,b l=none->R (.R l) (Ao b l<|.lst d.reverse)
  |_=>False
 |_=>False
def EF(hc:X.calm=true)(C:Gl X "list") (hm:X.mg "list" = none) (z:Gl X "reversed") (q:X.mg "reversed" = none) (he:VE X e te)
  (d:starEach [.Call (.Name "reversed" p2) [e] [] cp] X.env=[(false,eval (.Call (.Name "reversed" p2) [e] [] cp) X.env)]:=by rfl) (t:starEach [e] X.env=[(false,eval e X.env)]:=by rfl) :
  VE X (.Call (.Name "list" p) [.Call (.Name "reversed" p2) [e] [] cp] [] pos) (SZ te):=(DC hc C hm z q he d t).imp λF H Q b=>B5 b λD i R d hc h hq=>
 ⟨D,i,_,d,hc,h,λx k v G r g j hx=>by
  split at hx;rename_i a;obtain⟨m,u,hx⟩:=A5 hx;split at hx;obtain⟨I,B,y,rfl,n⟩:=g _ _ u;cases j;exact⟨a,y,rfl,Ei.of B,λl c=>hq _ _ _ _ (r.trans<|Kp.new c _) (g.new c<|Dh n.rev) Ea<|hx l<|g.none c⟩;exact hx.elim;exact hx.elim⟩
end
end L2
namespace L2
open PySem
section
variable {prog:lO}{w:lP}{Kt:Type} [DecidableEq Kt]{knd:KeyKind prog w Kt}{A:lR}{E:lJ->lK->Prop}{s:lK}{a:lM}{led:Bool}
end
section
variable {prog:lO}{w:lP}{Kt:Type} [DecidableEq Kt]{knd:KeyKind prog w Kt}{A:lR}{R:lZ->lK->Prop}{sa it t:lM}{led:Bool}
end
section
variable {prog:lO}{w:lP}{Kt:Type} [DecidableEq Kt]{knd:KeyKind prog w Kt}{A:lR}{E:lJ->lK->Prop}{s:lK}{sa t:lM}{led:Bool}
end
end L2
namespace L2
open PySem PySem.Spec PyProof.Rows PySem.W
section
variable {prog:lO}{w:lP}{A:lR}{E:lJ->lK->Prop}{s:lK}
def LN:lJ->Int
 |.int n _=>n
 |_=>0
end
end L2
namespace L2
open PySem PySem.Spec PyProof.Rows
noncomputable instance decPD:DecidableEq lL:=λa b=>Classical.propDecidable<|a=b
section
variable {prog:lO}{w:lP}
variable(prog w) in
end
section
variable {X:Cx}{aa:oA<|lM×lT}{σ:St}{H:Hp}{s:lK}{a:lM}{e:lQ}{te:AE}{τ:ASt}{μ:M}{o i value:lQ}{pos bo:Pos}{td ty tv:AE}{prog:lO}{w:lP}{A:lR}{E:lJ->lK->Prop}{ao lg:Str}{at' gl:Int}
def VE.run{f:AV->M->Prop}(he:VE X e te)(I:Inv X aa σ H s)(g:Dq X.K H τ σ)(hc:Cn X.K μ H)(h:te τ μ f) :
  yL X.prog X.w X.A (eval e X.env) (λu j=>∃x v b d,Inv X aa σ d j/\Bf v u/\Kp H d/\Cn X.K b d/\RelA X.K d x v/\f x b) X.xe s :=
 bU (he aa s σ H (λv d=>∃x b,Kp H d/\Cn X.K b d/\RelA X.K d x v/\f x b) I ⟨τ,μ,f,g,hc,h,λx b v d S c r q=>⟨x,b,S,c,r,q⟩⟩)
  (λ_ _ z=>by obtain⟨v,d,l,k,x,b,S,c,r,q⟩:=z;exact⟨x,v,b,d,l,k,S,c,r,q⟩) λ_ _ e=>e
abbrev ZObj(h:lS)(z TI TO:lM)(f0:lJ)(b1:Bool):Prop :=
 h.get? z=some {cls:=.type "zip",dict:=none,data:=.fields #[f0,.bool b1,.bool false,.ref TI,.ref TO],slots:=#[]}
def U2{M:Model}{a:lM}{Q:oB lT->lK->Prop}(h:Q (s.heap.get? a) s):wpAny M A (loadIfAlive a) Q E s:=λ_ _ _=>h
def Kk{z TI TO T:lM}{c:Bool}{Q:Bool->lK->Prop}(hz:ZObj s.heap z TI TO (rawInt T) c)(j:∃o,s.heap.get? T=some o)(h:∀d,ZObj d z TI TO (rawInt T) true->Heap.SameBut z s.heap d->Q false {s with heap:=d}) :
  yL prog w A (Builtin.SmallTypes.ownedTupleIsFree<|.ref z) Q E s:=by
 obtain⟨k,b⟩:=j;unfold Builtin.SmallTypes.ownedTupleIsFree;refine A_<|aH hz rfl (x:=rawInt T) rfl<|show wpAny _ _ (loadIfAlive ((T:Int).toNat)>>=_) _ _ _ from A_<|U2 ?_;rw[cX,b];refine(show wpAny _ _ (field (.ref z) 1>>=_) _ _ _ from A_<|aH hz rfl (x:=.bool c) rfl ?_);cases c with
 |true=>exact C_ (h s.heap hz<|kP _ _)
 |false=>exact A_<|eJ hz (by simp) λh1 g f=>C_<|h h1 g f
def Yp{z TI TO d b l j T:lM}{u B:Nat}{R:Bool}{xs ys:oC lJ}{x y:lJ}{Q:lJ->lK->Prop}(D:ZipApart z TI TO d b l j)
  (hz:ZObj s.heap z TI TO (rawInt T) R) (O:∃o,s.heap.get? T=some o) (m:IsPair s.heap TI (.ref d)<|.ref b)
  (h1:s.heap.IsListIter d l u) (h2:s.heap.IsListIter b j B) (S:s.heap.IsList l xs) (I:s.heap.IsList j ys) (hx:xs[u]?=some x) (hy:ys[B]?=some y) (G:∀g,ZObj g z TI TO (rawInt T) true->g.IsListIter d l (u+1)->g.IsListIter b j (B+1)->IsPair g s.heap.objs.size x y ->
   (∀c o,c≠z->c≠d->c≠b->s.heap.get? c=some o->g.get? c=some o)->Q (.ref s.heap.objs.size) {s with heap:=g}) :
  yL prog w A (Builtin.«zip.__next__» ⟨[.ref z],[]⟩) (λJ P=>∃v,J=.done (.ret v)/\Q v P) E s:=by
 refine(show wpAny _ _ (field (.ref z) 2>>=_) _ _ _ from A_<|aH hz rfl (x:=.bool false) rfl<|show wpAny _ _ (field (.ref z) 3>>=_) _ _ _ from A_<|aH hz rfl (x:=.ref TI) rfl<|A_<|gA m rfl<|show wpAny _ _ (Builtin.SmallTypes.ownedTupleIsFree (.ref z)>>=_) _ _ _ from A_<|Kk hz O λV L f=>?_);simp only[Bool.false_eq_true,if_false];refine A_ ?_;rw[<- Array.forIn_toList];simp only[List.forIn_cons,List.forIn_nil];refine A_<|A_<|bM<|show wpAny _ _ (Builtin.SmallTypes.nextOf (.ref d)>>=_) _ _ _ from A_<|wpAny_nextOf_list_item (h1.extBut f.extBut D.i1z) (S.extBut f.extBut D.l1z) hx λU t h=>C_<|C_ ?_;refine A_ (A_<|bM<|show wpAny _ _ (Builtin.SmallTypes.nextOf (.ref b)>>=_) _ _ _ from A_<|wpAny_nextOf_list_item ((h2.extBut f.extBut D.i2z).extBut h.extBut D.i12.symm) ((I.extBut f.extBut D.l2z).extBut h.extBut D.l2i1) hy λC n k=>C_<|C_<|C_<|A_<|wpAny_newTuple (C_ ⟨_,rfl,?_⟩) (hsz:=(show 2<=sizeLine by decide)));have F:C.objs.size=s.heap.objs.size:=by rw[k.1,h.1,f.1]
 rw[F];have N:∀c o,c≠z->c≠d->c≠b->s.heap.get? c=some o->C.get? c=some o:=λc o r p q e=>k.extBut _ _ q<|h.extBut _ _ p<|f.extBut _ _ r e;refine G _ (DD _<|k.extBut _ _ D.i2z.symm<|h.extBut _ _ D.i1z.symm L) ((t.extBut k.extBut D.i12).at λo e=>DD _ e) (n.at λo e=>DD _ e) ?_ λc o r p q e=>DD _<|N c o r p q e;rw[<- F];exact O_ _ rfl
def Yq{z TI TO b g h l T:lM}{k:Nat}{v:Bool}{xs:oC lJ}{Q:PySem.Fin->lK->Prop}(m:A.handled=none)(D:ZipApart z TI TO b g h l)
  (hz:ZObj s.heap z TI TO (rawInt T) v) (r:∃o,s.heap.get? T=some o) (f:IsPair s.heap TI (.ref b)<|.ref g)
  (h1:s.heap.IsListIter b h k) (B:s.heap.IsList h xs) (hx:xs[k]?=none)
  (p:∀j e,(∀c o,c≠z->c≠b->c≠g->s.heap.get? c=some o->j.get? c=some o)->(∃o,j.get? e=some o/\o.cls=.type "StopIteration")->E (.ref e) {s with heap:=j}) :
  yL prog w A (Builtin.«zip.__next__» ⟨[.ref z],[]⟩) Q E s:=by
 refine(show wpAny _ _ (field (.ref z) 2>>=_) _ _ _ from A_<|aH hz rfl (x:=.bool false) rfl<|show wpAny _ _ (field (.ref z) 3>>=_) _ _ _ from A_<|aH hz rfl (x:=.ref TI) rfl<|A_<|gA f rfl<|show wpAny _ _ (Builtin.SmallTypes.ownedTupleIsFree (.ref z)>>=_) _ _ _ from A_<|Kk hz r λC F d=>?_);simp only[Bool.false_eq_true,if_false];refine A_ ?_;rw[<- Array.forIn_toList];simp only[List.forIn_cons,List.forIn_nil];refine A_<|A_<|bM<|show wpAny _ _ (Builtin.SmallTypes.nextOf (.ref b)>>=_) _ _ _ from A_<|wpAny_nextOf_list_end m (h1.extBut d.extBut D.i1z) (B.extBut d.extBut D.l1z) hx λn e y he=>?_;exact p n e (λc o t u G q=>y c o u<|d.extBut _ _ t q) he
def LP:typeLookup (.type "zip") "__len__" = pure none:=by rw[eZ,dF];kernel_rfl
def EG:typeLookup (.type "zip") "__length_hint__" = pure none:=by rw[eZ,dF];kernel_rfl
structure PairsAt(h:lS)(no:oA lM)(base:Nat)(as:oA lM)(ps:oA<|lJ×lJ):Prop where
 rise:as.Pairwise (· < ·)
 new:∀T∈as,base<=T/\T∉no
 at_:Paired (λT p=>IsPair h T p.1 p.2) as ps
def PairsAt.kp{h h':lS}{d:oA lM}{base:Nat}{as:oA lM}{ps:oA<|lJ×lJ}(x:PairsAt h d base as ps)(hk:∀b o,b∉d->h.get? b=some o->h'.get? b=some o):PairsAt h' d base as ps:=by
 obtain⟨a,b,c⟩:=x;refine⟨a,b,?_⟩;clear a
 induction c with
 |nil=>exact .nil
 |@cons T p j g r t f=>exact .cons (hk T _ (b T aR).2 r)<|f λU hU=>b U<|aE _ hU
def Rb{d c:Type}{F:d->c->Prop}{xs:oA d}{ys:oA c}(h:Paired F xs ys):∀x∈xs,∃y,F x y:=by
 induction h with
 |nil=>exact λ_ h=>nomatch h
 |@cons a b j g r t f=>intro x hx;rcases aK.mp hx with rfl|hx;exact⟨b,r⟩;exact f x hx
def ZSt(h:lS)(z TI TO d c g f:lM)(xs ys:oC lJ)(i:Nat):Prop :=
 IsPair h TI (.ref d) (.ref c)/\h.IsListIter d g i/\h.IsListIter c f i/\h.IsList g xs/\h.IsList f ys/\((ZObj h z TI TO .none false/\∃a b,IsPair h TO a b)\/∃(T:lM) (j:Bool),ZObj h z TI TO (rawInt T) j/\(∃o,h.get? T=some o)/\(∃o,h.get? TO=some o)/\T≠z/\T≠TO/\T≠d/\T≠c)
def Yr{z TI TO g f u p:lM}{i:Nat}{xs ys:oC lJ}{x y:lJ}{Q:oB lJ->lK->Prop}(D:ZipApart z TI TO g f u p)(st:ZSt s.heap z TI TO g f u p xs ys i)(hx:xs[i]?=some x)(hy:ys[i]?=some y) (O:∀d T,ZSt d z TI TO g f u p xs ys (i+1)->IsPair d T x y->s.heap.objs.size<=T->(∀c o,c≠z->c≠TO->c≠g->c≠f->s.heap.get? c=some o->d.get? c=some o)->Q (some<|.ref T) {s with heap:=d}) :
  yL prog w A (pyNext<|.ref z) Q E s:=by
 obtain⟨m,a2,I,l,k,W⟩:=st;have n:∀{c o},s.heap.get? c=some o->s.heap.objs.size≠c:=λe=>dX<|Q_ e;have r:s.heap.objs.size≠g:=by obtain⟨_,e,_⟩:=a2;exact n e
 have q:s.heap.objs.size≠f:=by obtain⟨_,e,_⟩:=I;exact n e
 rcases W with⟨hz,a,b,h⟩|⟨T,b1,hz,P,⟨U,B⟩,R,t2,S,N⟩;refine wpAny_pyNext_zip_item D hz m h a2 I l k hx hy λd J V C v j _ hk=>?_;refine O d _ ⟨hk _ _ D.TIz D.TITO D.TIi1 D.TIi2 m,C,v,l.at λo e=>hk _ o D.l1z D.l1TO D.l1i1 D.l1i2 e,k.at λo e=>hk _ o D.l2z D.l2TO D.l2i1 D.l2i2 e,.inr ⟨_,false,J,⟨_,j⟩,⟨_,V⟩,n hz,n h,r,q⟩⟩ j (F_ _) hk;have L:s.TypeIs (.ref z) "zip" := ⟨_,hz,rfl⟩;unfold pyNext;refine A_<|d_<|aV (name:=Str.ofString "__next__") L F.slot_zip_next<|aW F.slot_zip_next L F.entry_zip_next (Yp D hz P m a2 I l k hx hy λd J C v j hk=>?_)<|F.args_zip_next_1 _;have G:∀c o,c≠z->c≠TO->c≠g->c≠f->s.heap.get? c=some o->d.get? c=some o:=λc o Z _ Y c4 e=>hk c o Z Y c4 e;obtain⟨oT,t⟩:=P;exact C_<|O d _ ⟨hk _ _ D.TIz D.TIi1 D.TIi2 m,C,v,l.at λo e=>G _ o D.l1z D.l1TO D.l1i1 D.l1i2 e,k.at λo e=>G _ o D.l2z D.l2TO D.l2i1 D.l2i2 e,.inr ⟨T,true,J,⟨oT,hk _ _ R S N t⟩,⟨U,hk _ _ D.TOz D.TOi1 D.TOi2 B⟩,R,t2,S,N⟩⟩ j (F_ _) G
def Ys{z TI TO g d m j:lM}{xs ys:oC lJ}{i:Nat}{Q:oB lJ->lK->Prop}(l:A.handled=none)(D:ZipApart z TI TO g d m j)(st:ZSt s.heap z TI TO g d m j xs ys i)(hx:xs[i]?=none)
  (q:∀h,(∀c o,c≠z->c≠TO->c≠g->c≠d->s.heap.get? c=some o->h.get? c=some o)->Q none {s with heap:=h}):yL prog w A (pyNext<|.ref z) Q E s:=by
 obtain⟨p,a2,G,n,r,t⟩:=st;rcases t with⟨hz,a,b,f⟩|⟨T,O,hz,B,⟨I,v⟩,L,N,P,J⟩;exact wpAny_pyNext_zip_end l D hz p f a2 G n r (.inl hx) q;have k:s.TypeIs (.ref z) "zip" := ⟨_,hz,rfl⟩;unfold pyNext;refine A_<|d_<|aV (name:=Str.ofString "__next__") k F.slot_zip_next<|aW F.slot_zip_next k F.entry_zip_next (Yq l D hz B p a2 n hx λh e hk he=>?_)<|F.args_zip_next_1 _;obtain⟨o,x,hc⟩:=he;refine A_<|eG (T := "StopIteration") (b:=true) ⟨o,x,hc⟩ jB ?_;exact C_<|q _ λc o y _ u C e=>hk c o y u C e
def Yt{R:lZ->lK->Prop}{base:Nat}{z TI TO h g P I S:lM}{xs ys:oC lJ}{res:lJ}(hh:A.handled=none)(D:ZipApart z TI TO h g P I)(p:S∉[z,TI,TO,h,g,P,I])(hz:xs.size=ys.size)(hn:xs.size<=1000) :
  ∀(m i:Nat) (s:lK) (acc:oC lJ) (c:Nat) (as:oA lM),m+i=xs.size->ZSt s.heap z TI TO h g P I xs ys i->s.heap.get? S=some {cls:=.type "list",dict:=none,data:=.seq acc c,slots:=#[]}->acc.toList=as.map Value.ref->PairsAt s.heap [S,z,TO,h,g] base as ((xs.toList.zip ys.toList).take i)->base<=s.heap.objs.size ->
   (∀f u Q C,(∀b o,b∉[S,z,TO,h,g]->s.heap.get? b=some o->f.get? b=some o)->f.get? S=some {cls:=.type "list",dict:=none,data:=.seq u Q,slots:=#[]}->u.toList=C.map Value.ref->PairsAt f [S,z,TO,h,g] base C (xs.toList.zip ys.toList)->R (.ok<|.ret res) {s with heap:=f}) ->
   codeAny (model prog w) A (.builtin "list.extend.loop" ⟨[.ref S,.ref z,res],[]⟩) R s:=by
 simp only[List.mem_cons,List.not_mem_nil,or_false,not_or]at p;obtain⟨G,n2,B,n4,N,n6,n7⟩:=p;intro m
 induction m with
 |zero=>
  intro i s acc c as hm st t x j Z O;refine e_ F.entry_extend_loop ?_;rw[eQ F.plain_extend_loop _];refine(show wpAny _ A.in1 (pyNext (.ref z)>>=_) _ _ s from A_<|Ys (show A.in1.handled=none from hh) D st (by rw[gI<|by omega]) λf hk=>?_);have v:∀b o,b∉[S,z,TO,h,g]->s.heap.get? b=some o->f.get? b=some o:=λb o hb e=>by simp only[List.mem_cons,List.not_mem_nil,or_false,not_or]at hb;exact hk b o hb.2.1 hb.2.2.1 hb.2.2.2.1 hb.2.2.2.2 e
  refine C_<|O f acc c as v (hk S _ G B n4 N t) x ?_;have:=j.kp v;rwa[dA<|by simp;omega]at this
 |succ m ih=>
  intro i s acc c as hm st t x j Z O;have c9:i<xs.size:=by omega
  have hx:xs[i]?=some xs[i]:=bQ c9;have gz:i<ys.size:=by omega
  have hy:ys[i]?=some ys[i]:=bQ gz;have bq:acc.size=i:=by have h1:=bL j.at_;have h2:=bV List.length x;simp at h1 h2;omega
  refine e_ F.entry_extend_loop ?_;rw[eQ F.plain_extend_loop _];refine(show wpAny _ A.in1 (pyNext (.ref z)>>=_) _ _ s from A_<|Yr D st hx hy λf T am hp y hk=>?_);have jx:=hk S _ G B n4 N t;have d:∀b o,b≠S->f.get? b=some o->(f.update S<|Obj.mapSeq (·.push (Value.ref T))).get? b=some o:=λb o hb e=>(aD _ _<|bW hb).trans e;have kk:∀b o,b∉[S,z,TO,h,g]->s.heap.get? b=some o->(f.update S<|Obj.mapSeq (·.push (Value.ref T))).get? b=some o:=λb o hb e=>by simp only[List.mem_cons,List.not_mem_nil,or_false,not_or]at hb;exact d b o hb.1<|hk b o hb.2.1 hb.2.2.1 hb.2.2.2.1 hb.2.2.2.2 e
  refine(show wpAny _ A.in1 (updateSeq S (·.push (.ref T))>>=_) _ _ _ from A_<|fO jx rfl (C_ ⟨fV F.plain_extend_loop _,ih (i+1) _ (acc.push<|.ref T) _ (as++[T]) (by omega) ?_ (Y_ _ jx rfl) (by rw[Array.toList_push,x,L_];rfl) ?_ ?_ λh2 u Q C v Y eA2 W=>?_⟩) (by rw[bq];exact I_ (by omega)<|show 1000<=sizeLine by decide)<|by show(acc.push _).size<=sizeLine+1;rw[Array.size_push,bq];exact I_ (by omega)<|show 1001<=sizeLine+1 by decide);obtain⟨a1,a2,a3,a4,a5,a6⟩:=am;refine⟨d _ _ (bW n2) a1,a2.at λo e=>d _ o (bW n4) e,a3.at λo e=>d _ o (bW N) e,a4.at λo e=>d _ o (bW n6) e,a5.at λo e=>d _ o (bW n7) e,?_⟩;rcases a6 with⟨hz,a,b,l⟩|⟨T,b1,hz,⟨oT,J⟩,⟨oO,k⟩,t1⟩;exact .inl ⟨d _ _ (bW G) hz,a,b,d _ _ (bW B) l⟩;refine .inr ⟨T,b1,d _ _ (bW G) hz,?_,⟨oO,d _ _ (bW B) k⟩,t1⟩;by_cases r:T=S;subst r;exact⟨_,Y_ _ jx rfl⟩;exact⟨oT,d _ _ r J⟩;have n:∀{c o},s.heap.get? c=some o->T≠c:=λe=>dX<|S_ (Q_ e) y;have t0:T≠S:=n t;have e1:(xs.toList.zip ys.toList).take (i+1)=(xs.toList.zip ys.toList).take i++[(xs[i],ys[i])]:=by
   rw[aS];have:(xs.toList.zip ys.toList)[i]?=some (xs[i],ys[i]):=by rw[K_<|by simp;omega,List.getElem_zip];rfl
   rw[this];rfl
  obtain⟨_,⟨_,b2,_⟩,⟨_,b3,_⟩,_,_,b6⟩:=st;have tz:T≠z/\T≠TO:=by rcases b6 with⟨hz,a,b,l⟩|⟨T,b1,hz,_,⟨oO,k⟩,_⟩;exact⟨n hz,n l⟩;exact⟨n hz,n k⟩
  have L:=j.kp kk;rw[e1];refine⟨?_,λU hU=>?_,jT L.at_<|d _ _ t0 hp⟩;rw[List.pairwise_append];refine⟨j.rise,List.pairwise_singleton _ _,λU hU V hV=>?_⟩;rw[G_.mp hV];obtain⟨_,q⟩:=Rb j.at_ U hU;exact S_ (Q_ q) y;rcases R_.mp hU with hU|hU;exact j.new U hU;rw[G_.mp hU];refine⟨I_ Z y,?_⟩;simp only[List.mem_cons,List.not_mem_nil,or_false,not_or];exact⟨t0,tz.1,tz.2,n b2,n b3⟩;have:=Q_ hp;rw[dC];exact I_ Z<|I_ y<|eB this;exact O h2 u Q C (λb o hb e=>v b o hb<|kk b o hb e) Y eA2 W
def O6{z TI TO u q J G:lM}{xs ys:oC lJ}{Q:oA lJ->lK->Prop}(hh:A.handled=none)(D:ZipApart z TI TO u q J G)(st:ZSt s.heap z TI TO u q J G xs ys 0)(hz:xs.size=ys.size)(hn:xs.size<=1000)(t:s.TypeIs (.ref z) "zip")
  (h:∀x as,(∀b o,b∉[s.heap.objs.size,z,TO,u,q]->s.heap.get? b=some o->x.get? b=some o)->PairsAt x [s.heap.objs.size,z,TO,u,q] s.heap.objs.size as (xs.toList.zip ys.toList)->Q (as.map Value.ref) {s with heap:=x}) :
  yL prog w A (collect<|.ref z) Q E s:=by
 have f:∀{c o},s.heap.get? c=some o->s.heap.objs.size≠c:=λe=>dX<|Q_ e;unfold collect;refine A_<|wpAny_runValue<|e_ F.entry_proto_collect ?_;rw[eQ F.plain_proto_collect _];refine(show wpAny _ A.in1 (newList []>>=λl=>again<|.builtin "list.__iadd__" ⟨[l,.ref z],[]⟩) _ _ s from A_<|aJ<|C_ ⟨fV F.plain_list_iadd _,e_ F.entry_list_iadd ?_⟩);rw[eQ F.plain_list_iadd _];obtain⟨W,a2,a3,P,N,O⟩:=st;have v:s.heap.objs.size≠z:=by obtain⟨o,e,_⟩:=(show ∃o,s.heap.get? z=some o/\_ from t);exact f e
 have j:s.heap.objs.size≠u:=by obtain⟨_,e,_⟩:=a2;exact f e
 have k:s.heap.objs.size≠q:=by obtain⟨_,e,_⟩:=a3;exact f e
 have n:s.heap.objs.size≠J:=by obtain⟨_,e,_⟩:=P;exact f e
 have m:s.heap.objs.size≠G:=by obtain⟨_,e,_⟩:=N;exact f e
 have g:s.heap.objs.size≠TI:=f W;have C:s.heap.objs.size≠TO:=by rcases O with⟨_,a,b,e⟩|⟨T,b1,_,_,⟨L,e⟩,_⟩;exact f e;exact f e
 generalize U:s.heap.objs.size=S at v j k n m g C h ⊢;generalize r:s.heap.push {cls:=.type "list",data:=.seq ([]:oA lJ).toArray}=h1;have Z:∀b o,s.heap.get? b=some o->h1.get? b=some o:=λb o e=>by subst r;exact DD _ e
 have B:h1.get? S=some {cls:=.type "list",data:=.seq ([]:oA lJ).toArray}:=by subst r;subst U;exact O_ _ rfl
 have p:Shared.TypeIs {s with heap:=h1} (.ref z) "zip" := by obtain⟨o,e,c⟩:=(show ∃o,s.heap.get? z=some o/\_ from t);exact⟨o,Z z o e,c⟩
 have vd:Builtin.List.listSameRef (.ref S) (.ref z)=false:=by simp[Builtin.List.listSameRef,v]
 refine(show wpAny _ A.in1 (Builtin.List.listExtendWith (.ref S) (.ref z)<|.ref S) _ _ {s with heap:=h1} from ?_);unfold Builtin.List.listExtendWith;refine A_ (iQ p<|wpAny_ite_split (λpj=>absurd pj<|by rw[vd];decide) λ_=>A_ ?_);refine fS p F.slot_zip_iter<|aW F.slot_zip_iter p F.entry_zip_iter (show wpAny _ _ (ret<|.ref z) _ _ _ from C_ ⟨_,rfl,"zip",_,p,F.slot_zip_next.lookup,?_⟩)<|F.args_zip_iter_1 _;refine A_<|bM ?_;unfold Builtin.List.listLengthHint;refine A_<|eY p LP<|show wpAny _ A.in1 (specialOf (Value.ref z) (Str.ofString "__length_hint__")>>=_) _ _ _ from A_<|eY p EG<|C_ ?_;refine(show wpAny _ A.in1 (rule "list.extend.makes-room" >>= λ_=>Builtin.List.listTouch (.ref S)>>=λ_=>again<|.builtin "list.extend.loop" ⟨[.ref S,.ref z,.ref S],[]⟩) _ _ _ from A_<|eC<|A_<|show wpAny _ _ (updateSeq S (·.push .none)>>=λ_=>updateSeq S (·.pop)) _ _ _ from A_<|fO B rfl<|fO (Y_ (Obj.mapSeq (·.push Value.none)) B rfl) rfl ?_);have V:=Y_ (Obj.mapSeq (·.pop)) (Y_ (Obj.mapSeq (·.push Value.none)) B rfl) rfl;have Y:∀b o,b≠S->h1.get? b=some o->((h1.update S<|Obj.mapSeq (·.push Value.none)).update S<|Obj.mapSeq (·.pop)).get? b=some o:=λb o hb e=>(aD _ _<|bW hb).trans<|(aD _ _<|bW hb).trans e;have R:S<=((h1.update S<|Obj.mapSeq (·.push Value.none)).update S<|Obj.mapSeq (·.pop)).objs.size:=by rw[dC,dC];exact eB<|Q_ B
 generalize ((h1.update S<|Obj.mapSeq (·.push Value.none)).update S<|Obj.mapSeq (·.pop))=h4 at V Y R ⊢;have d:∀b o,b≠S->s.heap.get? b=some o->h4.get? b=some o:=λb o hb e=>Y b o hb<|Z b o e;refine C_ ⟨fV F.plain_extend_loop _,Yt (base:=S) hh D ?_ hz hn xs.size 0 {s with heap:=h4} #[] _ [] (by omega) ⟨d _ _ (bW g) W,a2.at λo e=>d _ o (bW j) e,a3.at λo e=>d _ o (bW k) e,P.at λo e=>d _ o (bW n) e,N.at λo e=>d _ o (bW m) e,?_⟩ V rfl ⟨List.Pairwise.nil,(λ_ h=>nomatch h),.nil⟩ R λx ba c' lu dh jx eA hP=>?_⟩;simp only[List.mem_cons,List.not_mem_nil,or_false,not_or];exact⟨v,g,C,j,k,n,m⟩;rcases O with⟨I,a,b,y⟩|⟨T,b1,I,⟨oT,y⟩,⟨L,q3⟩,q4⟩;exact .inl ⟨d _ _ (bW v) I,a,b,d _ _ (bW C) y⟩;exact .inr ⟨T,b1,d _ _ (bW v) I,⟨oT,d _ _ (λz=>by subst z;exact absurd (Q_ y)<|by rw[U];exact cP _) y⟩,⟨L,d _ _ (bW C) q3⟩,q4⟩;refine A_<|wpAny_load jx<|C_ ?_;rw[eA];refine h x lu (λb o hb e=>dh b o hb<|d b o ?_ e) hP;exact λz=>hb<|by simp[z]
def U3(z TI TO d c m j:lM)(xs ys:oC lJ)(D:ZipApart z TI TO d c m j)(hz:xs.size=ys.size)(hn:xs.size<=1000) :
  MeetsIn prog w (Builtin.«tuple.__new__» ⟨[.type "tuple",.ref z],[]⟩) (λA R s=>A.handled=none/\ZSt s.heap z TI TO d c m j xs ys 0/\(∃l r,ZObj s.heap z TI TO l r) /\
   ∀(h':lS) (as:oA lM),(∀b o,b∉[s.heap.objs.size,z,TO,d,c]->s.heap.get? b=some o->h'.get? b=some o)->PairsAt h' [s.heap.objs.size,z,TO,d,c] s.heap.objs.size as (xs.toList.zip ys.toList) ->
    R (.ok<|.ret<|.ref h'.objs.size) {s with heap:=h'.push {cls:=.type "tuple",data:=.seq (as.map Value.ref).toArray}}) :=
 .of_wp λA R s h=>by
  obtain⟨hp,g,k,n,os⟩:=s;obtain⟨t,st,⟨l,r,p⟩,h⟩:=h;have B:=sub_tuple_self;have x:=init_tuple_lookup;have y:=madeHere_tuple;have q:Shared.TypeIs ⟨hp,g,k,n,os⟩ (.ref z) "zip" := ⟨_,p,rfl⟩
  wp_walk using iC p,iQ q,O6 (A:=A.in1) (s:=⟨hp,g,k,n,os⟩) t D st hz hn q
  intro h' as hk f;have u:(as.map Value.ref).toArray.size<=sizeLine:=by have:=bL f.at_;simp at this ⊢;exact I_ (by omega)<|show 1000<=sizeLine by decide
  refine(show wpAny _ _ (Builtin.Tuple.tupleExact (as.map Value.ref).toArray>>=λv=>ret v) _ _ _ from ?_);unfold Builtin.Tuple.tupleExact;exact A_<|aJ (C_ ⟨_,rfl,h h' as hk f⟩) u
theorem Inv.trackP:∀{as:oA lM} {ps:oA<|V×V} {d:oA<|lJ×lJ} {H:Hp},Inv X aa σ H s->as.Pairwise (· < ·)->(∀a∈as,Fu X aa H a)->Paired (λT p=>IsPair s.heap T p.1 p.2) as d->Paired (λ(p:V×V) (u:lJ×lJ)=>Bf p.1 u.1/\Bf p.2 u.2) ps d ->
  ∃c,Inv X aa σ c s/\(∀b o,H b=some o->c b=some o)/\Paired (λa (p:V×V)=>c a=some (.tup [p.1,p.2])) as ps/\∀b,b∉as->c b=H b
 |[],_,_,H,I,_,_,h1,h2=>by cases h1;cases h2;exact⟨H,I,λ_ _ e=>e,.nil,λ_ _=>rfl⟩
 |a::as,_,_,H,I,hp,j,h1,h2=>by
  cases h1 with
  |@cons _ u _ d r x=>
  cases h2 with
  |@cons p _ ps _ g y=>
   have f:=j a aR;have C:Inv X aa σ (upd H a<|.tup [p.1,p.2]) s:=I.track f ⟨by show 2<=sizeLine;decide,[u.1,u.2],.cons g.1<|.cons g.2 .nil,_,r,rfl,_,rfl⟩;have l:=(List.pairwise_cons.mp hp).1;obtain⟨c,q,v,m,k⟩:=Inv.trackP C (List.pairwise_cons.mp hp).2 (λb hb=>by
    obtain⟨n,t⟩:=j b<|aE _ hb;exact⟨by rw[An<|dX<|l b hb];exact n,t⟩) x y
   have B:a∉as:=λh=>cP _<|l a h;refine⟨c,q,λb o e=>v b o<|by rw[An<|Bw e f.1];exact e,.cons (by rw[k a B];exact A3) m,λb hb=>?_⟩;rw[k b λh=>hb<|aE _ h,An λz=>hb<|by simp[z]]
def Kp.all{H H':Hp}(h:∀b o,H b=some o->H' b=some o):Kp H H':=⟨λb c e=>h b _ e,λb o u e=>h b _ e⟩
def Cn.allK{K:lN}{μ:M}{H H':Hp}(c:Cn K μ H)(h:∀b o,H b=some o->H' b=some o):Cn K μ H':=λa m e=>by obtain⟨o,d,r⟩:=c a m e;exact⟨o,h a o d,r.kp<|Kp.all h⟩
def TB(j tb:AE):AE:=λτ μ R=>j τ μ λx f=>tb τ f λy c=>match x,y with
 |.R a,.R b=>opt (c a) λm=>opt (c b) λn=>match m,n with
  |.lst l,.lst k=>opt (dats l) λg=>opt (dats k) λh=>(g.length=h.length/\g.length<=1000)/\R (.D<|.tuple<|List.zipWith (λd e=>PyData.tuple [d,e]) g h) c
  |_,_=>False
 |_,_=>False
def U4{xs ys:oA V}{c b:oA lJ}(h:Vals xs c)(k:Vals ys b):Paired (λ(p:V×V) (u:lJ×lJ)=>Bf p.1 u.1/\Bf p.2 u.2) (xs.zip ys) (c.zip b):=by
 induction h generalizing ys b with
 |nil=>simp;exact .nil
 |cons d l g=>
  cases k with
  |nil=>simp;exact .nil
  |cons f j=>exact .cons ⟨d,f⟩<|g j
theorem O7{K:lN}{H':Hp}:∀{as:oA lM} {xs ys:oA V} {ds es:oA lL},Paired (λa (p:V×V)=>H' a=some (.tup [p.1,p.2])) as (xs.zip ys)->Ap K H' ds xs->Ap K H' es ys->Ap K H' (List.zipWith (λd e=>PyData.tuple [d,e]) ds es) (as.map V.ref)
 |as,xs,ys,[],es,h,h1,h2=>by have:=h1.nil;subst this;simp at h;cases h;exact Db
 |as,xs,ys,d::ds,[],h,h1,h2=>by have:=h2.nil;subst this;simp at h;cases h;exact Db
 |as,xs,ys,d::ds,e::es,h,h1,h2=>by
  obtain⟨x,r,rfl,g,a2⟩:=h1.cons;obtain⟨y,q,rfl,j,b⟩:=h2.cons;cases h with
  |cons c f=>exact Ci (Hf c<|Ci g<|Ci j Db)<|O7 f a2 b
def EH{C l:lQ}{ta tb:AE}{p p2 pos U:Pos}(hc:X.calm=true)(hg:Gl X "tuple") (hm:X.mg "tuple" = none) (jc:Gl X "zip") (fy:X.mg "zip" = none) (h1:VE X C ta) (h2:VE X l tb)
  (hs:starEach [.Call (.Name "zip" p2) [C,l] [] U] X.env=[(false,eval (.Call (.Name "zip" p2) [C,l] [] U) X.env)]:=by rfl) (dj:starEach [C,l] X.env=(false,eval C X.env)::starEach [l] X.env:=by rfl) (fm:starEach [l] X.env=[(false,eval l X.env)]:=by rfl) (hpl:(backTo U<|starEach [l] X.env).any (·.1)=false:=by rfl) :
  VE X (.Call (.Name "tuple" p) [.Call (.Name "zip" p2) [C,l] [] U] [] pos) (TB ta tb):=by
 intro aa s σ H Q I gh;refine B5 gh λτ μ R bg hcn h hq=>?_;refine bN<|Dr I hg hm boot_tuple<|bJ ?_ hs rfl;rw[hs];refine bD<|bN<|Dr I jc fy boot_zip<|bJ ?_ dj hpl;rw[dj];refine bD<|bU (h1.run I bg hcn h) (λu1 s1 zu=>?_) λ_ _ e=>e;obtain⟨x,v,μ1,H1,I1,rv,S1,c1,rx,q1⟩:=zu;rw[fm];refine bD<|bU (h2.run I1 (bg.kp S1) c1 q1) (λu2 r zu=>cL ?_) λ_ _ e=>e;obtain⟨y,v2,μ2,H2,J,rv2,S2,c2,ry,g⟩:=zu;split at g
 ·rename_i a b;obtain⟨m,em,g⟩:=A5 g;obtain⟨n,en,g⟩:=A5 g;split at g
  ·rename_i us vs;obtain⟨ds,ed,g⟩:=A5 g;obtain⟨es,ee,g⟩:=A5 g;obtain⟨⟨ai,hmax⟩,g⟩:=g;obtain⟨oa,ha,ws,rfl,ra⟩:=c2 _ _ em;obtain⟨ob,hb,zs,rfl,rb⟩:=c2 _ _ en;have rx2:=rx.kp S2;cases rx2;cases rv;cases ry;cases rv2;obtain⟨j,r1,u,_⟩:=J.list<|Ei.of (K:=X.K) ha;obtain⟨q,r2,z,_⟩:=J.list<|Ei.of (K:=X.K) hb;have da:=ra.dats ed;have db:=rb.dats ee;have l1:=r1.length;have l2:=r2.length;have l3:=da.length;have l4:=db.length;have O:a<r.heap.objs.size:=by obtain⟨o,_,e,_⟩:=u;exact Q_ e
   have N:b<r.heap.objs.size:=by obtain⟨o,_,e,_⟩:=z;exact Q_ e
   refine call_zip_2 u.isList z.isList λW z1 z2 z3 z4 z5 z6 Y=>cL ?_;generalize hB:r.heap.objs.size=B at O N z1 z2 z3 z4 z5 z6;have D:ZipApart (B+4) (B+2) (B+3) B (B+1) a b:=by have f:∀{c:lM} (k:Nat),c<B->c≠B+k:=λk h=>aM<|S_ h<|dP B k;exact⟨(show(B+2:Nat)≠B+4 by omega),(show(B+3:Nat)≠B+4 by omega),(show(B:Nat)≠B+4 by omega),(show(B+1:Nat)≠B+4 by omega),(show(B+2:Nat)≠B+3 by omega),(show(B+2:Nat)≠B by omega),(show(B+2:Nat)≠B+1 by omega),(show(B+3:Nat)≠B by omega),(show(B+3:Nat)≠B+1 by omega),(show(B:Nat)≠B+1 by omega),f 4 O,f 3 O,f 0 O,f 1 O,f 4 N,f 3 N,f 0 N,f 1 N⟩
   have m4:j.toArray.size=q.toArray.size:=by simp;omega
   have n9:j.toArray.size<=1000:=by simp;omega
   refine callType_newIn F.called_tuple (by decide) (F.typeCall_tuple_1 _) (F.newCall_tuple_1 _) (λZ=>F.args_object_init_2 Z _) F.entry_tuple_new
    (U3 (B+4) (B+2) (B+3) B (B+1) a b j.toArray q.toArray D m4 n9) ⟨I.ok.hd hc,⟨z2,z4,z5,u.isList.at λo e=>Y _ o e,z.isList.at λo e=>Y _ o e,.inl ⟨z1,_,_,z3⟩⟩,⟨_,_,z1⟩,λt as hk S=>⟨⟨_,O_ _ rfl,rfl⟩,?_⟩⟩
   have kk:∀c o,r.heap.get? c=some o->t.get? c=some o:=λc o e=>by
    have lc:=Q_ e;rw[hB]at lc;refine hk c o ?_<|Y c o e;simp only[List.mem_cons,List.not_mem_nil,or_false,not_or];have G:W.objs.size=B+5:=z6;refine⟨?_,?_,?_,?_,?_⟩
    ·show ¬c=W.objs.size;rw[G];exact aM<|S_ lc<|by omega
    all_goals exact aM<|S_ lc<|by omega
   have I3:Inv X aa σ H2 {r with heap:=t}:=J.kept kk;have hfp:∀T∈as,Fu X aa H2 T:=λT hT=>by
    have L:r.heap.objs.size<=T:=by have:=(S.new T hT).1;have G:W.objs.size=B+5:=z6;have:W.objs.size<=T:=this;rw[hB];omega
    exact J.fpOk L<|J.hok.fresh L
   have hpv:=U4 r1 r2;obtain⟨H4,I4,k4,p4,_⟩:=Inv.trackP (s:={r with heap:=t}) I3 S.rise hfp S.at_ (by simpa using hpv);have S4:=Kp.all k4;have P:=I4.hok.fresh<|F_ t.objs.size;have dk:=O7 p4 (Ap.kp S4 _ _ da)<|Ap.kp S4 _ _ db;have jh:(as.map V.ref).length<=sizeLine:=by have:=bL S.at_;simp at this ⊢;exact I_ (by omega)<|show 1000<=sizeLine by decide
   refine⟨.ref t.objs.size,_,I4.laid (a:=t.objs.size) (o:=.tup<|as.map V.ref) (t':=r.toks) (λb o e=>DD _ e) (F_ _) ⟨jh,as.map Value.ref,refsV as,IsTup.new _ _⟩,rfl,?_⟩;have S5:Kp H4 (upd H4 t.objs.size<|.tup<|as.map V.ref):=Kp.new P _;exact hq (.D<|.tuple<|List.zipWith (λd e=>PyData.tuple [d,e]) ds es) _ _ _ (((S1.trans S2).trans S4).trans S5) ((c2.allK k4).over P) (Hf (K:=X.K) A3<|Ap.kp S5 _ _ dk) g
  ·exact g.elim
 ·exact g.elim
where
 refsV:∀(as:oA lM),Vals (as.map V.ref) (as.map Value.ref)
  |[]=>.nil
  |a::as=>.cons rfl<|refsV as
def Qa0:AC:=λc μ R=>match c with
 |[.D<|.bool b]=>R (.D<|.int<|if b then 1 else 0) μ
 |[.D<|.int i]=>R (.D<|.int i) μ
 |_=>False
def GW:VCall X (.type "int") Qa0:=by
 intro aa s σ H n g Q I r c;refine B5 c λas μ R k hc h hq=>?_;cases k with
 |nil=>exact False.elim h
 |@cons x v j m f l=>
  cases l with
  |nil=>
   cases x with
   |D d=>
    cases d with
    |bool b=>cases RelA.bl f;exact Lm aa s σ H _ g Q I r (.inr ⟨_,rfl,hq _ _ _ _ Kp.refl hc C7 h⟩)
    |int i=>cases RelA.int f;exact Lm aa s σ H _ g Q I r (.inl ⟨_,rfl,hq _ _ _ _ Kp.refl hc C7 h⟩)
    |_=>exact False.elim h
   |_=>exact False.elim h
  |cons _ _=>
   refine False.elim ?_;cases x with
   |D d=>cases d<;>exact h
   |_=>exact h
def txts:oA AV->oB (oA Str)
 |[]=>some []
 |.D (.str z)::b=>(txts b).map (z::·)
 |_::_=>none
theorem O8{K:lN}{H:Hp}:∀{xs:oA AV} {b:oA V} {zs:oA Str},A4 K H xs b->txts xs=some zs->b=zs.map V.str
 |[],_,zs,r,e=>by cases r;cases e;rfl
 |x::xs,_,zs,r,e=>by
  cases r with
  |cons g f=>unfold txts at e;split at e;rename_i h;cases h;rename_i z c h;cases h;obtain⟨j,d,rfl⟩:=J_.mp e;cases RelA.str g;rw[O8 f d];rfl;cases e
def GX:AV->AC:=λx d μ R=>match x,d with
 |.D (.str z),[.R p]=>opt (μ p) λm=>match m with
  |.lst c=>opt (txts c) λb=>(b.map (·.length)).sum+b.length*z.length<=16777216/\R (.D<|.str<|Txt.join z b) μ
  |_=>False
 |_,_=>False
def LQ:VMt X "str.join" GX:=by
 intro aa s σ H x u v t Q I d r b;refine Ev b λa as μ R j n hc h hq=>?_;unfold GX at h;split at h
 ·obtain⟨m,f,h⟩:=A5 h;split at h
  ·obtain⟨p,k,h⟩:=A5 h;obtain⟨o,c,y,rfl,g⟩:=hc _ _ f;cases RelA.str j;cases n with
   |cons l q=>cases q;cases l;rw[O8 g k]at c;exact Ul aa s σ H _ _ v t Q I d r ⟨_,_,p,rfl,rfl,c,h.1,hq _ _ _ _ Kp.refl hc Ka h.2⟩
  exact h.elim
 exact h.elim
def LR(c:AE):AE:=λτ μ R=>c τ μ λx b=>match x with
 |.D (.int n)=>(0<=n/\n<=1000)/\∀p,b p=none->R (.R p) (Ao b p<|.lst<|Eg 0 n.toNat)
 |_=>False
theorem Su{K:lN}{H:Hp}:∀(n:Nat) (lo:Int),A4 K H (Eg lo n) ((List.range n).map λ(i:Nat)=>V.int<|lo+i)
 | 0,lo=>.nil
 |n+1,lo=>by
  rw[List.range_succ_eq_map,a_,aB];refine .cons (by simpa using C7) ?_;have:=Su (K:=K) (H:=H) n<|lo+1;have e:(λ(i:Nat)=>V.int<|lo+1+i)=(λ(i:Nat)=>V.int<|lo+i) ∘ Nat.succ:=by
   funext i
   simp only[Function.comp];congr 1;omega
  rw[e]at this;exact this
def Yu{acc:oC lJ}{n:Nat}{lo:Int}(h:ItemsOf (λi v=>∃t,v=.int (lo+i*1) t) acc n):Vals ((List.range n).map λ(i:Nat)=>V.int<|lo+i) acc.toList:=by
 obtain⟨h1,h2⟩:=h;have f:∀(m:Nat) (b:oA lJ),b.length=m->(∀j v,b[j]?=some v->∃t,v=Value.int (lo+(j:Nat)*1) t)->Vals ((List.range m).map λ(i:Nat)=>V.int<|lo+i) b:=by
  intro m
  induction m with
  |zero=>intro b c _;rw[cZ c];exact .nil
  |succ m g=>
   intro b c hu;have d:b≠[]:=by intro z;rw[z]at c;cases c
   rw[<- List.dropLast_concat_getLast d,List.range_succ,L_];have k:b.dropLast.length=m:=by rw[jS];omega
   refine jT (g b.dropLast k λj v e=>?_) ?_;have hj:j<b.dropLast.length:=(D_.mp e).1;rw[List.getElem?_dropLast,P_<|by omega]at e;exact hu j v e;obtain⟨t,e⟩:=hu m (b.getLast d) (by rw[List.getLast_eq_getElem];simp[c]);rw[e];exact⟨t,by rw[Int.mul_one]⟩
 exact f n acc.toList (by simpa using h1) λj v e=>h2 j v<|by rw[<- bT];exact e
def Yv{g:Hp}{lo hi:Int}{tk:Nat}{t u v:Tok}{Q:VK}{d:lK}(n:X.calm=true)(h:Inv X aa σ g d)(x:-1000<=lo)(r:lo<=hi)(k:hi<=1000)
  (q:∀l,g l=none->Q (.ref l) (upd g l<|.lst<|(List.range (hi-lo).toNat).map λ(i:Nat)=>V.int<|lo+i)) :
  yL X.prog X.w X.A (call (.type "list") [.ref d.heap.objs.size]) (EP X aa σ Q) X.xe {d with heap:=d.heap.push {cls:=.type "range",data:=.fields #[.int lo t,.int hi u,.int 1 v]},toks:=tk}:=by
 have m:Builtin.Range.rangeSize lo hi 1=((hi-lo).toNat:Nat):=by rw[rangeSize_one];split<;>omega
 have j:(hi-lo).toNat<=2000:=by omega
 refine call_list_range (s:={d with heap:=d.heap.push {cls:=.type "range",data:=.fields #[.int lo t,.int hi u,.int 1 v]},toks:=tk}) (h.ok.hd n) (IsRange.new ..) (small_one (by omega) (by omega) (by omega)<|by omega) m (I_ j<|by decide) λh2 z f c B p y=>?_;have hp:d.heap.objs.size<=(d.heap.push {cls:=.type "range",data:=.fields #[.int lo t,.int hi u,.int 1 v]}).objs.size:=by rw[cB];exact cF _
 have hz:((List.range (hi-lo).toNat).map λ(i:Nat)=>V.int<|lo+i).length<=sizeLine:=by rw[B_,bG];exact I_ j<|show 2000<=sizeLine by decide
 refine⟨.ref _,_,h.laid (t':=z) (o:=.lst _) (λb o e=>B b o<|DD _ e) hp ⟨hz,f.toList,c,Yu y,by simpa using p⟩,rfl,q _<|h.hok.fresh hp⟩
def O9{b:lQ}{m:AE}{p f pos g:Pos}(hc:X.calm=true)(L:Gl X "list") (hm:X.mg "list" = none) (J:Gl X "range") (B:X.mg "range" = none) (h1:VE X b m)
  (q:starEach [.Call (.Name "range" f) [b] [] g] X.env=[(false,eval (.Call (.Name "range" f) [b] [] g) X.env)]:=by rfl) (k:starEach [b] X.env=[(false,eval b X.env)]:=by rfl) :
  VE X (.Call (.Name "list" p) [.Call (.Name "range" f) [b] [] g] [] pos) (LR m):=by
 intro aa s σ H Q I D;refine B5 D λτ μ R F j h hq=>?_;refine bN<|Dr I L hm boot_list<|bJ ?_ q rfl;rw[q];refine bD<|bN<|Dr I J B boot_range<|bJ ?_ k rfl;rw[k];refine bD<|bU (h1.run I F j h) (λP T ⟨x,v,y,S,O,z,C,r,u,c⟩=>cL ?_) λ_ _ e=>e;split at c;rename_i n _;obtain⟨⟨N,G⟩,c⟩:=c;cases RelA.int u;obtain⟨t,rfl⟩:=z;refine call_range_1 (cL<|Yv hc O (by omega) N G λl d=>?_);refine hq _ _ _ _ (C.trans<|Kp.new d _) (r.new d<|Dh<|Su _ 0) Ea ?_;rw[Int.sub_zero];exact c l<|r.none d;exact c.elim
def lets(z:Str):Prop:=∀c∈z.cps.toList,97<=c/\c<=122
def Ib(a b:Str):(a++b).cps.toList=a.cps.toList++b.cps.toList:=by show(a.cps++b.cps).toList=_;simp
def De(z:Str):z.length=z.cps.toList.length:=by simp[Str.length]
def Ge{a b:Str}(ha:lets a)(hb:lets b):lets (a++b):=λc hc=>by rw[Ib]at hc;rcases R_.mp hc with h|h;exact ha c h;exact hb c h
def Kl{x:Str}{j:Int}(h0:0<=j)(h1:j<=(x.length:Int)):(Txt.slice x none<|some j).cps.toList=x.cps.toList.take j.toNat:=by have:=StrLaws.sliceText_to (x:=x) (j:=j) ⟨h0,by rw[<- De];exact h1⟩;show(StrLaws.sliceText x none<|some j).cps.toList=_;rw[this];simp
def Hk{x:Str}{j:Int}(h0:0<=j)(h1:j<=(x.length:Int)):(Txt.slice x (some j) none).cps.toList=x.cps.toList.drop j.toNat:=by
 have b:j<=(x.cps.toList.length:Int):=by rw[<- De];exact h1
 have:=StrLaws.sliceText_from (x:=x) (i:=j) ⟨h0,b⟩;show(StrLaws.sliceText x (some j) none).cps.toList=_;rw[this];show(((x.cps.toList.drop j.toNat).take ((x.cps.toList.length:Int)-j).toNat).toArray).toList=_;rw[List.toList_toArray,dA<|by rw[dN];omega]
def LU:("" : Str).cps.toList=[]:=by decide +kernel
def U5:∀{zs:oA Str},(∀z∈zs,lets z)->lets (Txt.join "" zs):=λ{zs} h=>by
 show lets (PySem.Builtin.Str.glued "" zs);rw[StrLaws.glued_eq_join]
 induction zs with
 |nil=>exact λc hc=>by simp[Str.join,Str.empty]at hc
 |cons x zs b=>
  cases zs with
  |nil=>exact h x aR
  |cons y zs=>show lets (x ++ "" ++ Str.join "" (y::zs));exact Ge (Ge (h x aR) λc hc=>by rw[LU]at hc;simp at hc)<|b λz hz=>h z<|aE _ hz
def TC:("q" : Str).cps.toList=[113]:=by decide +kernel
end
end L2
namespace L2
open PySem PySem.SetTable
def Qa1(mask:Nat)(p:Probe):Probe :=
 if p.more>0 then {p with j:=p.j+1,more:=p.more-1} else
 {p with j:=(leap mask p.i p.perturb).1,more:=runEnd mask (leap mask p.i p.perturb).1-(leap mask p.i p.perturb).1,i:=(leap mask p.i p.perturb).1,perturb:=(leap mask p.i p.perturb).2}
def Qa2(mask i perturb l:Nat):Probe:={j:=i+l,more:=runEnd mask i-i-l,i:=i,perturb:=perturb,dummy:=none}
def pAt(mask:Nat)(h:Int):Nat->Probe
 | 0=>Qa2 mask (bits h%(mask+1)) (bits h) 0
 |n+1=>Qa1 mask<|pAt mask h n
def sq(mask:Nat)(h:Int)(n:Nat):Nat:=(pAt mask h n).j
def rn(mask:Nat)(h:Int):Nat->Nat×Nat
 | 0=>(bits h%(mask+1),bits h)
 |r+1=>leap mask (rn mask h r).1 (rn mask h r).2
def nr(mask:Nat)(h:Int):Nat->Nat
 | 0=>0
 |r+1=>nr mask h r+(runEnd mask (rn mask h r).1-(rn mask h r).1)+1
end L2
namespace L2
open PySem
section
variable {prog:lO}{w:lP}{A:lR}{E:lJ->lK->Prop}{s:lK}
def YZ{b:Type}{c:Prop} [Decidable c]{d a:Sem b}{Q:b->lK->Prop}(h:yL prog w A a Q E s)(h1:yL prog w A a Q E s->yL prog w A d Q E s):yL prog w A (if c then d else a) Q E s:=by split;exact h1 h;exact h
end
end L2
namespace L2
open PySem PySem.Spec PyProof.Rows
section
variable {prog:lO}{w:lP}{A:lR}{R:lZ->lK->Prop}{sa it t:lM}{led:Bool}
def Fj{j o:Type}{f:j->o}{l m:oA o}(h:l.Perm m):∀c:oA j,m=c.map f->∃g:oA j,l=g.map f/\g.Perm c:=by
 induction h with
 |nil=>
  intro c e;have:c=[]:=by simpa using e.symm
  subst this;exact⟨[],rfl,.nil⟩
 |cons a h s=>
  intro c e;cases c with
  |nil=>cases e
  |cons x c=>injection e with i d;obtain⟨g,rfl,p⟩:=s c d;exact⟨x::g,by rw[i];rfl,p.cons x⟩
 |swap a b l=>
  intro c e
  match c,e with
  |x::y::c,e=>injection e with i d;injection d with d e3;exact⟨y::x::c,by rw[i,d,e3];rfl,.swap x y c⟩
 |trans h1 h2 n k=>intro c e;obtain⟨g,i,u⟩:=k c e;obtain⟨r,d,q⟩:=n g i;exact⟨r,d,q.trans u⟩
end
section
variable {prog:lO}{w:lP}{Kt:Type} [DecidableEq Kt]{knd:KeyKind prog w Kt}{A:lR}{R:lZ->lK->Prop}{sa it t:lM}{led:Bool}
variable {E:lJ->lK->Prop}{s:lK}
end
end L2
namespace L2
open PySem PySem.Spec PySem.Calls PyProof.Rows
def sib{a:oC lJ}{i j:Nat}{x:lJ}(h:i≠j):(a.setIfInBounds i x)[j]?=a[j]?:=by rw[aQ,H_ h]
def G7:entryFor table "proto.unchain" = some Builtin.«proto.unchain»:=entryFor_of_tree<|by kernel_rfl
section
variable {prog:lO}{w:lP}{A:lR}{E:lJ->lK->Prop}{s:lK}{K:lN}{env:Env}{M:Model}{A1:lR}{E1:lJ->lK->Prop}{base:lS}{outer:oA Env}{L e:lM}{cls:lJ}{d:oB lM}{vs:oC lJ}{X:Cx}{y:Str}{p pos bo:Pos}{C:lM}{EX:AX}{P:lO}{mg:Str->oB lJ}{k:Nat}
theorem Hl{x:lM}{R:lZ->lK->Prop}(h:R (.ok<|.ret .none) s):∀(l:oA lM) (o:lM) (g:oA lM) (f:lM) (j:Bool),Ctxs s.heap o l->Ctxs s.heap f g->l.length<=g.length->x∉l ->
  codeAny (model prog w) A (.builtin "proto.unchain" ⟨[.ref x,.ref o,.ref f,.bool j],[]⟩) R s
 |[],o,g,f,j,c,m,i,hx=>by
  cases c with
  |nil a b c=>refine e_ G7 ?_;unfold Builtin.«proto.unchain»;dsimp only;refine A_<|aH a b c ?_;rw[P_<|by decide];exact C_ h
 |E'::l,o,g,f,j,c,m,i,hx=>by
  cases c with
  |cons a b c t=>
   refine e_ G7 ?_;unfold Builtin.«proto.unchain»;dsimp only;refine A_<|aH a b c ?_;rw[H_<|by simp];have u:E'≠x:=λz=>hx<|z ▸ aR ..;rw[H_<|by simpa using u];by_cases n:E'=f;rw[P_<|by simpa using n];exact A_<|eC<|C_ h
   ·rw[H_<|by simpa using n];have q:x∉l:=λz=>hx<|aE _ z;cases j with
    |false=>refine A_ (C_<|C_ ⟨?_,Hl h l E' g f true t m (by simp at i;omega) q⟩);exact fK _ (by decide +kernel)
    |true=>
     cases m with
     |nil=>simp at i
     |cons a2 r B v=>refine A_ (aH a2 r B<|C_ ⟨?_,Hl h l E' _ _ false t v (by simp at i;omega) q⟩);exact fK _<|by decide +kernel
def Pa{a:Type}{x e:lM}{l:oA lM}{o:lT}{vs:oC lJ}{Q:a->lK->Prop}(f:A.handled=some (.ref e))(g:e≠x)(hx:s.heap.get? x=some o)(j:o.data=.fields vs)(h2:2<vs.size)(c:Ctxs s.heap e l)(b:x∉l)
  (h:E (.ref x) {s with heap:=s.heap.update x<|Obj.mapFields (·.setIfInBounds 2 (.ref e))}):yL prog w A (raiseNew (.ref x):Sem a) Q E s:=by
 unfold raiseNew;refine A_<|gZ ?_;rw[f];dsimp only;rw[P_<|by simpa using g];refine A_<|bM<|wpAny_runValue<|Hl ?_ l e l e false c c (F_ _) b;refine A_<|bI (i:=2) (x:=.ref e) hx j h2<|jU h
def Rc{x:Sem lJ}{k:Nat}{p pos:Pos}{Q:Flow->lK->Prop}
  (h:yL prog w A x (λv i=>∃a C d vs e l,v=.ref a/\K.In i.heap/\i.heap.get? a=some ⟨.ref C,d,.fields vs,#[]⟩/\vs.size=6/\vs[1]?=some .none/\En K C=true/\PySem.W.mroIn K C (.type "BaseException")=some true /\
   A.handled=some (.ref e)/\e≠a/\Ctxs i.heap e l/\a∉l /\
   ∀H c,H.get? a=some ⟨.ref C,d,.fields c,#[]⟩->c.size=6->c[1]?=some .none->c[2]?=some (.ref e)->(∀b o,b≠a->i.heap.get? b=some o->H.get? b=some o)->E (.ref a) {i with heap:=H}) E s) :
  yL prog w A (raiseStmt env (some x)<|some<|do let v <- eval (.Constant .none k p) env;standAt pos;pure v) Q E s:=by
 unfold raiseStmt;refine A_<|bU h (λv i h1=>?_) λ_ _ z=>z;obtain⟨a,C,d,vs,e,l,rfl,X,he,j,h1,hc,hm,U,Y,cx,hl,I⟩:=h1;obtain⟨nm,qn,N,bs,bm,gp,sn,sub,ab,ka,dd,k0,k1,T,k3,k5,m,_⟩:=J9 X hc;obtain⟨hp,g,dr,tk,os⟩:=i;dsimp only at X he m cx I;have V:PySem.W.Looks (model prog w) hp (typeOf<|.ref a) (.ref C):=(dD he).andThen .now;have Li:PySem.W.Looks (model prog w) hp (isType<|.ref a) false:=(dD he).andThen .now;have Z:PySem.W.Looks (model prog w) hp (isInstance (.ref a)<|.type "BaseException") true:=V.andThen<|fC X hm;refine A_<|bM<|A_<|wpAny_Constant_none<|A_<|fU<|C_ ?_;refine A_<|C_ ?_;refine A_<|bM ?_;unfold excFromValue isExcClass;refine A_<|A_<|Li.at<|C_ ?_;rw[H_<|by decide];refine A_<|Z.at ?_;rw[P_ rfl];refine C_ ?_;dsimp only;rw[P_<|by decide];refine A_<|C_ ?_;refine A_ (bI he rfl (by rw[j];decide) ?_);have u:=Y_ (Obj.mapFields (·.setIfInBounds 3 Value.none)) he rfl;have J:∀b o,b≠a->hp.get? b=some o->(hp.update a<|Obj.mapFields (·.setIfInBounds 3 Value.none)).get? b=some o:=λb o hb q=>by rw[aD _ _<|bW hb];exact q
 dsimp only;generalize hp.update a (Obj.mapFields (·.setIfInBounds 3 Value.none))=n at u J ⊢;refine A_ (bI u rfl (by simp[j]) ?_);have f:=Y_ (Obj.mapFields (·.setIfInBounds 4 (Value.bool true))) u rfl;have S:∀b o,b≠a->n.get? b=some o->(n.update a<|Obj.mapFields (·.setIfInBounds 4 (Value.bool true))).get? b=some o:=λb o hb q=>by rw[aD _ _<|bW hb];exact q
 dsimp only;generalize n.update a (Obj.mapFields (·.setIfInBounds 4 (Value.bool true)))=ii at f S ⊢;have D:∀b o,b≠a->hp.get? b=some o->ii.get? b=some o:=λb o hb q=>S b o hb<|J b o hb q;have F:C≠a:=by rintro rfl;rw[he]at m;cases m
 have t:=D _ _ F m;have B:PySem.W.Looks (model prog w) ii (typeOf<|.ref a) (.ref C):=(dD f).andThen .now;have r:PySem.W.Looks (model prog w) ii (typeOf<|.ref C) (.type "type"):=(dD t).andThen .now;have G:PySem.W.Looks (model prog w) ii (isType<|.ref a) false:=(dD f).andThen .now;refine A_<|G.at ?_;rw[H_<|by decide];unfold raisedInstance;refine A_<|A_<|B.at<|A_<|r.at ?_;rw[P_<|by decide];refine C_ ?_;unfold setFlight;refine A_ (A_<|aH f rfl (x:=.none) (by rw[sib<|by decide,sib<|by decide];exact h1) ?_);rw[H_<|by decide];have T:∀b o (vs:oC lJ),hp.get? b=some o->o.data=.fields vs->∃R c,ii.get? b=some R/\R.data=.fields c/\c[2]?=vs[2]?:=λb o c q O=>by by_cases hb:b=a;subst hb;rw[he]at q;cases q;cases O;exact⟨_,_,f,rfl,by rw[aQ,H_<|by decide,aQ,H_<|by decide]⟩;exact⟨o,c,D b o hb q,O,rfl⟩
 refine C_ (Pa U Y f rfl (by simp[j]) (cx.keep T) hl ?_);have e3:=Y_ (Obj.mapFields (·.setIfInBounds 2 (Value.ref e))) f rfl;refine I _ _ e3 (by simp[j]) (by rw[sib<|by decide,sib<|by decide,sib<|by decide];exact h1) (by simp[j]) λb o hb q=>?_;rw[aD _ _<|bW hb];exact D b o hb q
def Ctxs.lt{h:lS}{e:lM}{l:oA lM}(c:Ctxs h e l):∀m∈e::l,m<h.objs.size:=by
 induction c with
 |nil a b c=>intro m hm;simp at hm;subst hm;exact Q_ a
 |cons a b c t f=>intro m hm;rcases aK.mp hm with rfl|hm;exact Q_ a;exact f m hm
structure LeftFly(fs:oA lM)(e:lM)(cls:lJ)(d:oB lM)(L:lM)(h h':lS):Prop where
 size:h.objs.size<=h'.objs.size
 keep:∀b o,b∉fs->b≠e->h.get? b=some o->h'.get? b=some o
 slot:∀b o,b∈fs->h.get? b=some o->∃sl,h'.get? b=some {o with slots:=sl}
 rc:∃vs T oT ts,h'.get? e=some ⟨cls,d,.fields vs,#[]⟩/\vs.size=6/\vs[1]?=some (.ref T)/\T≠e/\h'.get? T=some oT/\oT.data=.fields ts/\ts[3]?=some (rawInt L)/\h.get? T=none/\∃l,Ctxs h' e l
def Yw{Q:Unit->lK->Prop}(S:A.frames=some (env::outer))(x:s.heap.FunFrames base<|env::outer)(F:env.frame=some L)(he:s.heap.get? e=some ⟨cls,d,.fields vs,#[]⟩)(t:vs.size=6)(hv:vs[1]?=some .none)(m:∃l,Ctxs s.heap e l)
  (h:∀O,LeftFly (frs<|env::outer) e cls d L s.heap O->Q () {s with heap:=O}):wpAny M A (noteFrame (.ref e) env) Q E s:=by
 have v:e∉frs (env::outer):=λhm=>by obtain⟨_,o,q,R⟩:=x.mem hm;rw[he]at q;cases q;exact R vs rfl
 unfold noteFrame;simp only[F];refine A_<|aH he rfl hv ?_;rw[H_<|by decide];refine A_<|wpAny_frameOf_fun S x F λh1 a=>?_;refine A_<|wpAny_entryPlaceOf λu T=>?_;unfold EntryCells.newEntry newFields;have N:h1.get? e=some ⟨cls,d,.fields vs,#[]⟩:=(a.2.1 e v).trans he;have I:h1.objs.size≠e:=dX<|Q_ N;refine A_<|aJ ?_<|T.sizeOk5 _ _ _ _ _;generalize U:([Value.none,Value.ref L,Value.none,rawInt L,Value.none]++if u.isEmpty=true then List.replicate 6 Value.none else u).toArray=ts;have i:ts[3]?=some (rawInt L):=by rw[<- U];simp
 have J:=DD (h:=h1) {cls:=.type "traceback",dict:=none,data:=.fields ts} N;refine bI J rfl (by rw[t];decide)<|h _ ?_;have n:=Y_ (Obj.mapFields (·.setIfInBounds 1 (Value.ref h1.objs.size))) J rfl;have D:((h1.push {cls:=.type "traceback",dict:=none,data:=.fields ts}).update e<|Obj.mapFields (·.setIfInBounds 1 (Value.ref h1.objs.size))).get? h1.objs.size=some {cls:=.type "traceback",dict:=none,data:=.fields ts} :=
  (aD _ _ I.symm).trans (O_ h1 rfl)
 dsimp only;generalize G:(h1.push {cls:=.type "traceback",dict:=none,data:=.fields ts}).update e (Obj.mapFields (·.setIfInBounds 1 (Value.ref h1.objs.size)))=h3 at n D;have g:∀b o,b≠e->h1.get? b=some o->h3.get? b=some o:=λb o hb q=>by rw[<- G,aD _ _<|bW hb];exact DD _ q
 refine⟨?_,λb o hb f q=>g b o f<|(a.2.1 b hb).trans q,λb o hb q=>?_,⟨_,h1.objs.size,_,ts,n,by simp[t],by simp[t],I,D,rfl,i,jQ<|by rw[a.1];exact F_ _,m.imp λl c=>c.keep λb o H q r=>?_⟩⟩;rw[<- G,dC,cB,a.1];exact cF _;obtain⟨B,j⟩:=a.2.2 b o q;exact⟨B,g b _ (λz=>v<|z ▸ hb) j⟩;by_cases f:b=e;subst f;rw[he]at q;cases q;cases r;exact⟨_,_,n,rfl,by rw[aQ,H_<|by decide]⟩;by_cases hb:b∈frs (env::outer);obtain⟨B,j⟩:=a.2.2 b o q;exact⟨_,H,g b _ f j,r,rfl⟩;exact⟨o,H,g b o f<|(a.2.1 b hb).trans q,r,rfl⟩
def Yx{x:oA lM}{h':lS}(J:env.frame=some L)(F:LeftFly x e cls d L s.heap h')(h:∀h',LeftFly x e cls d L s.heap h'->E (.ref e) {s with heap:=h'}):cameBackBy M A env E (.ref e) {s with heap:=h'}:=by
 obtain⟨vs,T,O,ts,j,a2,m,v,i,c,H,u,l,B⟩:=F.rc;unfold cameBackBy;refine A_<|aH j rfl m ?_;rw[H_<|by simp];unfold setFlight;refine A_<|aH j rfl m ?_;rw[P_<|by simp];have t:3<ts.size:=(dJ.mp H).1;refine bI i c t<|h _ ?_;have r:=Y_ (Obj.mapFields (·.setIfInBounds 3 (env.frame.elim Value.none λf=>rawInt f))) i<|cW<|aY c _;have g:∀b,T≠b->(h'.update T<|Obj.mapFields (·.setIfInBounds 3 (env.frame.elim Value.none λf=>rawInt f))).get? b=h'.get? b:=λb hb=>aD _ _ hb;have a:∀b o,s.heap.get? b=some o->T≠b:=λb o q z=>by rw[<- z,u]at q;cases q
 refine⟨by rw[dC];exact F.size,λb o hb N q=>(g b<|a b o q).trans<|F.keep b o hb N q,λb o hb q=>?_,vs,T,_,_,(g e v).trans j,a2,m,v,r,aY c _,?_,u,l,B.keep λb o D q n=>?_⟩;obtain⟨I,G⟩:=F.slot b o hb q;exact⟨I,(g b<|a b o q).trans G⟩;rw[aQ,P_ rfl,P_ t,J];rfl;by_cases hb:T=b;subst hb;rw[i]at q;cases q;rw[c]at n;cases n;exact⟨_,_,r,aY c _,by rw[aQ,H_<|by decide]⟩;exact⟨o,D,(g b hb).trans q,n,rfl⟩
def U6{D:oA lM}{h':lS}{Q:Unit->lK->Prop}(I:env.frame=some L)(F:LeftFly D e cls d L s.heap h')(h:∀h',LeftBy D e cls d s.heap h'->Q () {s with heap:=h'}):wpAny M A («leaving» env<|.ref e) Q E {s with heap:=h'}:=by
 obtain⟨vs,T,O,ts,m,a2,i,n,j,a,B,u,l,N⟩:=F.rc;unfold «leaving» noteFrame;simp only[I];refine A_<|A_<|aH m rfl i ?_;rw[P_<|by simp];refine A_<|aH j a B ?_;rw[P_ (show(rawInt L==rawInt L)=true from by first|(simp;done)|exact jL _)];refine C_ ?_;unfold setFlight;refine A_<|aH m rfl i ?_;rw[P_<|by simp];have v:3<ts.size:=(dJ.mp B).1;refine bI j a v<|h _ ?_;have t:=Y_ (Obj.mapFields (·.setIfInBounds 3 ((none:oB lM).elim Value.none λf=>rawInt f))) j<|cW<|aY a _;have g:∀b,T≠b->(h'.update T<|Obj.mapFields (·.setIfInBounds 3 ((none:oB lM).elim Value.none λf=>rawInt f))).get? b=h'.get? b:=λb hb=>aD _ _ hb;have c:∀b o,s.heap.get? b=some o->T≠b:=λb o q z=>by rw[<- z,u]at q;cases q
 refine⟨by rw[dC];exact F.size,λb o hb J q=>(g b<|c b o q).trans<|F.keep b o hb J q,λb o hb q=>?_,⟨vs,⟨(g e n).trans m,a2,.inr ⟨T,_,_,i,n,t,aY a _,?_⟩,l,N.keep λb o x q r=>?_⟩,by rw[i];intro z;cases z⟩,T,λx R=>?_,u⟩;obtain⟨H,G⟩:=F.slot b o hb q;exact⟨H,(g b<|c b o q).trans G⟩;rw[aQ,P_ rfl,P_ v];rfl;by_cases hb:T=b;subst hb;rw[j]at q;cases q;rw[a]at r;cases r;exact⟨_,_,t,aY a _,by rw[aQ,H_<|by decide]⟩;exact⟨o,x,(g b hb).trans q,r,rfl⟩;have:=R.at_.symm.trans<|(g e n).trans m;cases this;exact i
def XF(X:Cx)(EX:AX):Prop:=∀(c:oA<|lM×lT) (b:St) (H:Hp) (s:lK) (a C:lM) (d:oB lM) (h':lS),Inv X c b H s->H a=some (XR a C d)->LeftFly (frs X.stack) a (.ref C) d X.env.locals s.heap h'->EK X.K EX (.ref C) (some a) H->X.xe (.ref a) {s with heap:=h'}
def TD{P:lO}{w:lP}{K:lN}{mg:Str->oB lJ}{base:lS}{N:oA Str}{g:Str}{b:lX}{f:lM}{i:lJ}{A:lR}{outer:oA Env}{s:lK}{H:Hp}{E:XK}{EX:AX}(j:∀c a h,EK K EX c a h->E c a h) :
  XF (Fv (My P w) P w K mg base N g b f i A outer s H E) EX:=by
 intro u r l m a C d q I hx F hq;show yL P w _ («leaving» (envOfC g b s.heap.objs.size f i)<|.ref a) _ _ {m with heap:=q};refine U6 rfl F λt L=>?_;have J:=I.left hx L;obtain⟨n,o,_⟩:=L.rc;exact⟨a,C,d,l,rfl,J.os,J.bare,J.base,J.hok,⟨n,o⟩,hx,j _ _ _ hq⟩
def XF.up{X:Cx}{EX:AX}(h:XF X EX):XF X (SS EX):=by intro m f H s a C d u I q F z;refine h m f H s a C d u I q F ?_;obtain⟨x,v,o,_,n,g,j,l,r,i,t,b,c⟩:=z;exact⟨x,v,o,t,n,g,j,l,r,i.sub b,c⟩
structure XNo(K:lN)(mg:Str->oB lJ)(y:Str)(C:lM):Prop where
 xc:En K C=true
 ini:PySem.W.findIn K (.ref C) "__init__" = some (some<|.builtin "ValueError.__init__")
 kp:PySem.W.keepIn K (.ref C)=true
 mr:PySem.W.mroIn K C (.type "BaseException")=some true
 at_:mg y=some (.ref C)
def TF(K:lN)(h g:lM)(EX:AX)(tb:AX->AS):AS:=λk r b c i f=>
 tb (λC _ a=>PySem.W.mroIn K C (.ref h)=some true/\EX g [] a) k r b c i f
def EI(EX:AX)(C:lM):AS:=λ_ _ _ _ _ a=>EX C [] a
def U7(F:XNo X.K X.mg y C)(hc:X.calm=true)(hx:XA X EX)(j:Gl X y)(hdb:(y==("__debug__" : Str))=false:=by decide):VS X (.Raise (some<|.Call (.Name y p) [] [] pos) none bo) (EI EX C):=by
 refine PS.imp (Oj hc hx<|Uo F.xc F.ini F.kp j F.at_ hdb) λD l H c=>Fc c λu g t nr m r n hc h hq=>?_;intro a f ha;refine⟨a,C,f,none,rfl,A3,F.xc,F.mr,?_⟩;have i:∀b o,H b=some o->upd (upd H a<|XO a C f none) a (XR a C none) b=some o:=λb o q=>by
  have hb:b≠a:=by rintro rfl;rw[ha]at q;cases q
  rw[An hb,An hb];exact q
 exact⟨a,C,[],g,none,rfl,rfl,A3,rfl,hc.same i,h⟩
def Yy{i:oA lU}{x:Str}{k:Nat}{p1 p2 Z p4 p5 p6:Pos}{O r:lM}{tb:AX->AS}(hb:∀t pn EX,XA (X.taking t pn) EX->VSs (X.taking t pn) i (tb EX))
  (hg:Gl X x) (hm:X.mg x=some (.ref O)) (hD:En X.K O=true) (hB:PySem.W.mroIn X.K O (.type "BaseException")=some true) (F:XNo X.K X.mg y r) (jc:Gl X y) (hx:XF X EX) (B:X.stack=X.env::X.outer) (dm:X.env.frame=some X.env.locals)
  (hdb:(x==("__debug__" : Str))=false:=by decide) (za6:(y==("__debug__" : Str))=false:=by decide) :
  LD X (.Try i [.ExceptHandler (some<|.Name x p1) none [.Raise (some<|.Call (.Name y p2) [] [] Z) (some<|.Constant .none k p4) p5] p6] [] [] pos) (TF X.K O r EX tb):=by
 intro m s σ H D I j;refine Fc j λτ μ nk nr nb nc hs hc h hq=>?_;refine wpAny_Try_except ?_;have ok:=I.ok;generalize hxe:(λ(e:lJ) (Y:lK)=>yL X.prog X.w X.A (noteFrame e X.env) (λ_ S=>yL X.prog X.w X.A (setFlight e none) (λ_ V=>
  yL X.prog X.w X.A (handleBy e X.env [.ExceptHandler (some<|.Name x p1) none [.Raise (some<|.Call (.Name y p2) [] [] Z) (some<|.Constant .none k p4) p5] p6]) (SP X m D) X.xe V) X.xe S) X.xe Y)=t
 have hXA:XA (X.taking t<|X.pn++m) (λC _ n=>PySem.W.mroIn X.K C (.ref O)=some true/\EX r [] n):=by rintro ft c f G a C d vs g jj R ⟨a',C',fs,n,d',ec,ea,i5,T,cj,U,hth⟩;cases ec;cases ea;show t (.ref a) G;rw[<- hxe];have J0:Inv X m c f G:=g.untake ok;refine Lx (base:=X.base) (outer:=X.outer) (L:=X.env.locals) (by rw[<- B];exact ok.frames) (by rw[<- B];exact J0.stack) dm R λh' L=>?_;have J:=J0.left jj (by rw[B];exact L);obtain⟨bz,R',_⟩:=L.rc;refine wpAny_handleBy_cons (codeAny_handlers_test ?_) (by intro q;cases q);refine Fd (X:=X.suite a) J.suite hg hm ?_ hdb;refine Jj (K:=X.K) J.kIn hD R'.at_ hB U ?_;refine codeAny_handlers_suite ?_;refine Ly R' λh2 k2=>?_;have N:Inv X m c f {G with heap:=h2}:=J.kept (t':=G.toks) k2;obtain⟨l,Q⟩:=R'.cx;have Q:=Q.same k2;refine kX ?_;rw[arm_exec_Raise];refine A_<|fU ?_;refine Rc (K:=X.K) (x:=do let v <- eval (.Call (.Name y p2) [] [] Z) X.env;standAt p5;pure v)<|A_ ?_;refine bN<|Fd (X:=X.suite a) N.suite jc F.at_ ?_ za6;refine PySem.W.callWith_K0 N.kIn F.kp ?_;refine Xj (rest:=[]) N.kIn F.xc F.ini (λh3 k3 g3=>?_) (by decide);refine A_<|fU<|C_ ?_;have lt:=Q.lt;have ne:a≠h2.objs.size+1:=aM<|cY<|lt a<|aR ..;have nl:h2.objs.size+1∉l:=λz=>jN (cF _)<|lt _<|aE _ z;refine⟨h2.objs.size+1,r,none,_,a,l,rfl,λb o q=>k3 b o<|N.kIn b o q,g3,rfl,rfl,F.xc,F.mr,rfl,ne,Q.same k3,nl,λh4 vs4 g4 s4 n4 x4 k4=>?_⟩;have kk:∀b o,h2.get? b=some o->h4.get? b=some o:=λb o q=>k4 b o (aM<|cY<|Q_ q)<|k3 b o q;have J5:Inv X m c (upd f (h2.objs.size+1)<|XR (h2.objs.size+1) r none) {G with heap:=h4}:=N.laid (t':=G.toks) kk (cF _)<|Xq g4 s4;have fresh:f (h2.objs.size+1)=none:=N.hok.fresh<|cF _;refine Yw (base:=X.base) (outer:=X.outer) (L:=X.env.locals) (by rw[<- B];exact ok.frames) (by rw[<- B];exact J5.stack) dm g4 s4 n4 ⟨_,.cons g4 rfl x4<|Q.same kk⟩ λh5 F5=>?_;refine Yx dm F5 λh6 F6=>?_;refine hx m c _ _ _ r none h6 J5 A3 (by rw[B];exact F6) ⟨_,r,[],n,none,rfl,rfl,A3,rfl,cj.same λb o q=>?_,hth⟩;rw[An λz=>by rw[z,fresh]at q;cases q];exact q
 refine bU (hb t (X.pn++m) _ hXA [] s σ H D I.take ⟨τ,μ,_,_,_,_,hs,hc,h,hq.kp I.kp0⟩) (λfl s1 T=>?_) λe s1 he=>?_
 ·cases fl with
  |next=>obtain⟨c,f,g,q⟩:=T;exact gL ⟨c,f,g.untake ok,q⟩
  |brk=>obtain⟨c,f,g,q⟩:=T;exact⟨c,f,g.untake ok,q⟩
  |cont=>obtain⟨c,f,g,q⟩:=T;exact⟨c,f,g.untake ok,q⟩
  |ret u=>obtain⟨v,c,f,g,rv,q⟩:=T;exact⟨v,c,f,g.untake ok,rv,q⟩
 exact he
def Fun.vokX0{x a:Str}{st:lU}{f:lM}{D:lV}{N ps:oA Str}{k:Nat}{sp:Hw}(F:Fun K x a st f D)(S:FnScope N ps<|Ad st) (W:∀(m:lJ) (A:lR) (outer:oA Env) (s:lK) (H:Hp) (E:XK) (EX:AX),Room k (A.deeper<|envOfC a (Ad st) s.heap.objs.size f m)->XF (Fv (My P w) P w K mg base N a (Ad st) f m A outer s H E) (SS EX) ->
   ∃t,X9 (Fv (My P w) P w K mg base N a (Ad st) f m A outer s H E) (Au st) t/\∀i l R,i.length=ps.length->sp i l R EX->t (SQ R) (OX R) BS BS (D1 N i) l):FnOk P w K mg base (My P w) (k+1) f D ps (Le K ps.length sp):=by
 obtain⟨oc,od,kV,c7,pm,an,m,ct,ig,rfl,V,O⟩:=F.ex;refine R4 V O S (λvs H Q E h=>?_) λA outer s H vs Q E Z h=>?_;obtain⟨i,l,R,EX,z,q,_⟩:=h;rw[<- q.length];exact z;obtain⟨i,l,R,EX,z,q,hc,T,hq,G⟩:=h;have B:XF (Fv (My P w) P w K mg base N a (Ad st) f m A outer s H E) EX:=TD G;obtain⟨t,U,h⟩:=W m A outer s H E EX Z B.up;refine⟨_,U,D1 N i,l,_,_,_,_,Dq.begin q,hc,h i l R z T,⟨λτ n σ I o _ c b=>K9 b λY g r=>?_,λv n u I o c J j=>K9 j λY g r=>?_,λ_ _ _ _ _ _ _ h=>h.elim,λ_ _ _ _ _ _ _ h=>h.elim⟩⟩;exact hq _ _ _ _ o (c.sub g) Hg r;exact hq _ _ _ _ o (c.sub g) J r
def Qa3:AV->AC:=λx g b R=>match x,g with
 |.R a,[y]=>opt (see b y) λd=>opt (b a) λm=>match m with
  |.lst f=>opt (dats f) λc=>Cb d/\Cb (.tuple c)/\opt (c.findIdx? λe=>PyData.eqv e d) λj=>R (.D<|.int (j:Nat)) b
  |_=>False
 |_,_=>False
def Qc3:A2:=λx y a R=>match x,y with
 |.D (.str i),.D (.str j)=>R (.D<|.bool<|!decide (i=j)) a
 |_,_=>False
def Qa4(xs:oA AV)(n:Nat):oA AV:=(List.replicate n xs).flatten
def Qb6:A2:=λx y b R=>match x,y with
 |.R a,.D (.int n)=>opt (b a) λm=>match m with
  |.lst c=>(0<=n/\n<=1000/\c.length<=1000)/\∀p,b p=none->R (.R p) (Ao b p<|.lst<|Qa4 c n.toNat)
  |_=>False
 |_,_=>False
def Km(ns:oA Int):Nat->Int:=preSum λi=>ns.getD i 0
theorem Yz{ns:oA Int}(h:∀n∈ns,0<=n/\n<=1000):∀j,j<=ns.length->0<=Km ns j/\Km ns j<=1000*j
 | 0,_=>⟨jX _,jX _⟩
 |j+1,hj=>by
  have a:=Yz h j (by omega);have hm:=h (ns.getD j 0) (by rw[cD,K_<|by omega];exact gT _);have e:Km ns (j+1)=Km ns j+ns.getD j 0:=rfl;rw[e];constructor;omega
  push_cast;omega
theorem Sv:∀(ns:oA Int) (j:Nat),Km ns j=(ns.take j).sum
 |ns,0=>by rw[List.take_zero];rfl
 |ns,j+1=>by
  have e:Km ns (j+1)=Km ns j+ns.getD j 0:=rfl;rw[e,Sv ns j,aS,List.sum_append];congr 1;rw[cD];cases ns[j]? with
  |none=>rfl
  |some v=>simp
def Y0(hc:X.calm=true):Fl X (.builtin "sum") (λm H Q=>∃(p:lM) (ns:oA Int),m=[.ref p]/\Ei X.K H p (ns.map V.int)/\(∀n∈ns,0<=n/\n<=1000)/\ns.length<=1000/\Q (.int ns.sum) H):=by
 intro U s T H m R Q I r h;obtain⟨p,ns,rfl,hq,hb,O,q⟩:=h;obtain⟨u,rfl,D⟩:=Ew r;cases D;obtain⟨f,l,c,hz⟩:=I.list hq;have a:=l.length;rw[B_]at a;refine call_sum_walk<|iW c.isList ?_;have G:p≠s.heap.objs.size:=aM (by obtain⟨_,g,_⟩:=c.isList;exact Q_ g);refine⟨s.heap.objs.size,_,_,_,_,_,λi=>ns.getD i 0,rfl,Walks.list (show X.A.in1.handled=none from I.ok.hd hc) s.heap.objs.size p G f.toArray,?_,?_,?_,?_,λW S Y k=>?_⟩;exact⟨⟨_,O_ _ rfl,rfl,rfl⟩,c.isList.at λo e=>DD _ e⟩;intro b hb;have N:p<s.heap.objs.size:=let⟨_,g,_⟩:=c.isList;Q_ g
 simp only[List.mem_cons,List.not_mem_nil,or_false]at hb;have F:∀o:lT,(s.heap.push o).objs.size=s.heap.objs.size+1:=λo=>by simp[Heap.push]
 show b<(s.heap.push _).objs.size;rw[F];rcases hb with rfl|rfl;exact fE _;exact cY N;intro i v B;have hv:f[i]?=some v:=by simpa using B
 have hi:i<ns.length:=by rw[a];exact(D_.mp hv).1
 obtain⟨u,hu,J⟩:=l.get (i:=i) (x:=V.int ns[i]) (by simp[hi]);rw[hv]at hu;cases hu;obtain⟨t,rfl⟩:=(show ∃t,v=Value.int ns[i] t from J);exact⟨t,by simp[hi]⟩;intro j hj;rw[X_,<- a]at hj;have h1:=hb (ns.getD j 0) (by rw[cD,K_ hj];exact gT _);have h2:=Yz hb (j+1) hj;have e:preSum (λi=>ns.getD i 0) (j+1)=Km ns (j+1):=rfl;rw[e];show InLong (ns.getD j 0)/\InLong (Km ns<|j+1);generalize Km ns (j+1)=z at h2 ⊢;refine⟨⟨by omega,by omega⟩,by omega,?_⟩;have:=h2.2
 push_cast at this
 omega;have e:preSum (λi=>ns.getD i 0) f.toArray.size=ns.sum:=by rw[X_,<- a];show Km ns ns.length=_;rw[Sv,aN]
 rw[e];exact⟨.int _,H,I.kept λb o e=>k b o (by
  intro hb;have:b=s.heap.objs.size:=by simpa using hb
  exact absurd (Q_ e)<|by rw[this];exact cP _)<|DD _ e,⟨_,rfl⟩,q⟩
def Iu:oA AV->oB (oA Int)
 |[]=>some []
 |.D (.int i)::a=>(Iu a).map (i::·)
 |_=>none
theorem Kn{K:lN}{H:Hp}:∀{xs:oA AV} {ns:oA Int} {vs:oA V},Iu xs=some ns->A4 K H xs vs->vs=ns.map V.int
 |[],_,_,e,.nil=>by cases e;rfl
 |x::xs,ns,_,e,.cons a b=>by
  cases x with
  |D d=>
   cases d with
   |int i=>obtain⟨f,c,rfl⟩:=J_.mp<|show(Iu xs).map (i::·)=some ns from e;rw[Kn c b,RelA.int a];rfl
   |_=>cases e
  |_=>cases e
def TH:AC:=λf b R=>match f with
 |[.R a]=>opt (b a) λm=>match m with
  |.lst c=>opt (Iu c) λns=>((∀n∈ns,0<=n/\n<=1000)/\ns.length<=1000)/\R (.D<|.int ns.sum) b
  |_=>False
 |_=>False
def TJ(g:X.calm=true):VCall X (.builtin "sum") TH:=by
 intro u s a H x t Q I r j;refine B5 j λas v R i hc h hq=>?_;unfold TH at h;split at h
 ·cases i with
  |cons l q=>cases q;obtain⟨m,c,h⟩:=A5 h;split at h;obtain⟨ns,b,h⟩:=A5 h;obtain⟨o,f,vs,rfl,n⟩:=hc _ _ c;cases (show _=V.ref _ from l);exact Y0 g u s a H _ t Q I r ⟨_,ns,rfl,Ei.of<|by rw[f,Kn b n],h.1.1,h.1.2,hq _ _ _ _ Kp.refl hc C7 h.2⟩;exact h.elim
 exact h.elim
end
end L2
namespace L2
open PySem PySem.Spec PySem.Calls PyProof.Rows PySem.W
end L2
namespace L2
open PySem PySem.Spec PySem.Calls PyProof.Rows
end L2
namespace L2
open PySem PySem.Spec PySem.Calls PyProof.Rows PySem.W
end L2
namespace L2
open PySem
end L2
namespace L2
open PySem PySem.Spec PySem.Calls PyProof.Rows
def LW:Key->lL
 |.inl i=>.int i
 |.inr z=>.str z
def TK{K:lN}{H:Hp}(k:Key):Dk K H (LW k) (kV k):=by
 cases k with
 |inl i=>exact Ce
 |inr z=>exact Qw
section
variable {X:Cx}{k:Nat}
abbrev Qa5:A2:=GQ λi j=>.int<|Builtin.bitOr i j
abbrev TL:A2:=GQ λi j=>.int<|Builtin.bitAnd i j
abbrev Qa6:A2:=aI CPow λi j=>.int<|i*2^j.toNat
abbrev Qa7:A2:=aI (λ_ j=>0<=j) λi j=>.int<|i / 2^j.toNat
def GY:VOp X (binaryOp .BitOr) Qa5:=Q1 QR λ_ _ _=>Ce
def Y1:VOp X (binaryOp .BitAnd) TL:=Q1 JD λ_ _ _=>Ce
def TM:VOp X (binaryOp .LShift) Qa6:=RX JB λ_ _ _=>Ce
def TN:VOp X (binaryOp .RShift) Qa7:=RX JC λ_ _ _=>Ce
def EJ:GJ X "int.bit_length" (λx c H Q=>∃i:Int,x=.int i/\c=[]/\Q (.int (Builtin.Int.intBits i:Nat)) H):=by intro j s d H x f v g Q I a r h;obtain⟨i,rfl,rfl,q⟩:=h;obtain⟨t,rfl⟩:=a;cases r;exact call_int_bit_length ⟨.int _,H,I.kept (t':=s.toks+1) λb o e=>e,⟨_,rfl⟩,q⟩
def GZ:AV->AC:=λx b a R=>match x,b with
 |.D (.int i),[]=>R (.D<|.int (Builtin.Int.intBits i:Nat)) a
 |_,_=>False
def LX:VMt X "int.bit_length" GZ:=by intro i s c H x l v g Q I b r d;refine Ev d λa as j R e f hc h hq=>?_;unfold GZ at h;split at h;cases RelA.int e;cases f;exact EJ i s c H _ _ v g Q I b r ⟨_,rfl,rfl,hq _ _ _ _ Kp.refl hc C7 h⟩;exact h.elim
def isInt:AV->Prop
 |.D (.int _)=>True
 |_=>False
def Qa8(m:AV->AC)(b:AE):AE:=λd c R=>b d c λx a=>isInt x/\m x [] a R
def LY{name:Str}{a:String}{o:lQ}{f:AE}{m:AV->AC}{c e:Pos}(slot:Slot "int" name a) (p:typeOf (.builtin a)=pure (.type "method_descriptor")) (hm:VMt X a m) (i:VE X o f)
  (l:attributeBase o name X.env (eval o X.env)=eval o X.env:=by rfl) (s:(c.endLine==e.line)=true:=by rfl):VE X (.Call (.Attribute o name c) [] [] e) (Qa8 m f) :=
 (Mr PySem.F.plainAttrs_int slot p hm i l s).imp λu H Q j=>B5 j λt g R n hc h hq=>⟨t,g,_,n,hc,h,λx b v w r q d hx=>⟨by
   obtain⟨hx,_⟩:=hx;unfold isInt at hx;split at hx;cases RelA.int d;exact rfl;exact hx.elim,x,[],b,R,d,.nil,q,hx.2,hq.kp r⟩⟩
end
section
variable {s:lK}{E:lJ->lK->Prop}{A:lR}{prog:lO}{w:lP}{K:Type} [DecidableEq K]{knd:HeapKind prog w K}
def sdH{d a:lM}{xs:oA<|K×lM×lJ}{k:K}{v:lJ}{Q:lJ->lK->Prop}(hu:knd.room A)(hk:knd.is s.heap k a)(hm:s.heap.DictOfH knd d xs)(hz:xs.length<=sizeLine)
  (h1:∀p,atKey xs k=some p->Q p.2 {s with toks:=s.toks+knd.draws k})
  (h2:atKey xs k=none->∀l,l.DictOfH knd d (storedH xs k a v)->Heap.SameBut d s.heap l->Q v {s with heap:=l,toks:=s.toks+knd.draws k}):yL prog w A (dictSetDefault d (.ref a) v) Q E s:=by
 obtain⟨o,C,B,g,t,f,h,n,i⟩:=hm;unfold dictSetDefault
 (try with_reducible refine bM ?_)
 refine A_<|knd.pyHash hu hk<|A_<|wpAny_dictFind_heap (s:={s with toks:=s.toks+knd.draws k}) hu hk g f h n i (λq=>?_) λj p hj=>?_;have r:=atKey_none_of_get q;have z:k∉xs.map (·.1):=not_mem_keys_of_get q;have D:=size_of_entries h;refine A_ (eC<|A_<|wpAny_updateDictKeys (hz:=by omega) (s:={s with toks:=s.toks+knd.draws k}) g f<|C_<|h2 r _ ?_<|bF ..);have st:=storedH_new (a:=a) (v:=v) r;rw[st];refine⟨_,_,B+1,Y_ _ g<|Obj.isFreed_of_dict<|Obj.data_mapDictKeys f _,t.mapDictKeys _,Obj.data_mapDictKeys f _,by simp[h,entryOfKey],λx hx=>?_,?_⟩;have c:∀{y:K} {b:lM},knd.is s.heap y b->knd.is (s.heap.update d<|Obj.mapDictKeys λx=>x.push ⟨knd.hash k,.ref a,v⟩) y b:=λhy=>knd.keeps hy g f<|bF ..;rcases R_.mp hx with m|m;exact c<|n x m;rw[G_.mp m];exact c hk;rw[L_];exact bB.mpr ⟨i,by simp,λx hx y hy e=>z (by
  have hy:y=k:=by simpa using hy
  rw[hy]at e;rw[<- e];exact hx)⟩
 have u:=atKey_of_get i hj;refine A_<|dH (s:={s with toks:=s.toks+knd.draws k}) g f ?_;rw[entry_at h j,hj];exact A_<|eC<|C_<|h1 _ u
end
section
variable {w:lP}{prog:lO}{K:Type} [DecidableEq K](knd:HeapKind prog w K)(d a:lM)
def U8(g:(d==sysModules)=false)(dflt:lJ):MeetsIn prog w (Builtin.«dict.setdefault» ⟨[.ref d,.ref a,dflt],[]⟩) (λA R s=>knd.room A.in1/\∃k c,knd.is s.heap k a/\s.heap.DictOfH knd d c/\c.length<=sizeLine /\
   (∀p,atKey c k=some p->R (.ok<|.ret p.2) {s with toks:=s.toks+knd.draws k}) /\
   (atKey c k=none->∀f,f.DictOfH knd d (storedH c k a dflt)->Heap.SameBut d s.heap f->R (.ok<|.ret dflt) {s with heap:=f,toks:=s.toks+knd.draws k})) :=
 .of_wp λA R s ⟨hu,k,c,hk,hm,hz,h1,h2⟩=>by unfold Builtin.«dict.setdefault» Builtin.Dict.keyAndDefault;refine A_<|A_<|gN hm.typeIs<|show wpAny _ _ (pure (d,Value.ref a,some dflt)) _ _ s from C_ ?_;show wpAny _ _ (if(d==sysModules)=true then _ else(dictSetDefault d (.ref a) dflt>>=_)) _ _ s;rw[g,H_ U_];exact A_<|sdH hu hk hm hz (λp e=>C_ ⟨_,rfl,h1 p e⟩) λe f m b=>C_ ⟨_,rfl,h2 e f m b⟩
end
section
variable {X:Cx}{aa:oA<|lM×lT}{σ:St}{H:Hp}{s:lK}{A:lR}{E:lJ->lK->Prop}{a b:lM}{r:lJ}{o e f:lQ}{au ak:Pos}{prog:lO}{w:lP}{d it:lM}{es:oC DictEntry}{ep i k:Nat}
def LZ{Q:lJ->lK->Prop}{kvs:oA<|oA Key×V}{k:oA Key}{n:V}(hu:A.units+1<cLine)(I:Inv X aa σ H s)(e:H a=some (.dT kvs))(t:H b=some (.tup<|k.map kV))(l:kvs.length<sizeLine)(rd:Bf n r)
  (h1:∀v,Em kvs k=some v->∀u m,Inv X aa σ H m->Bf v u->Q u m) (h2:Em kvs k=none->∀m,Inv X aa σ (upd H a<|.dT<|putK kvs k n) m->Q r m) :
  yL X.prog X.w A (call (.builtin "dict.setdefault") [.ref a,.ref b,r]) Q E s:=by
 obtain⟨z,y,B,j,dd⟩:=Ob I.hok e;have hz:B.length<=sizeLine:=by rw[<- bL j];exact z
 have J:(putK kvs k n).length<=sizeLine:=by have:=Ej kvs k n;omega
 have g:=j.val k;refine iT PySem.F.slot_dict_setdefault dd.typeIs PySem.F.entry_dict_setdefault (PySem.F.args_dict_setdefault_3 _ _ _) (U8 (tupleKind<|Bx X.prog X.w) a b y r) ⟨fH hu,k,B,Hb I.hok t,dd,hz,λp hp=>?_,λL R N M=>?_⟩
 ·rw[hp]at g;cases h:Em kvs k with
  |none=>rw[h]at g;exact g.elim
  |some v=>rw[h]at g;exact h1 v h _ _ (I.tok _) g
 ·rw[L]at g;have h:Em kvs k=none:=by
   cases h:Em kvs k with
   |none=>rfl
   |some v=>rw[h]at g;exact g.elim
  refine h2 h _ ?_;obtain⟨q,es,ep,hq,C,D,O,_,G⟩:=N;refine Ho I (by rw[e];exact True.intro) M ⟨q,hq⟩ ⟨J,y,_,(j.put k t rd).keeps λc P x=>?_,q,es,ep,hq,C,D,O,G⟩;rw[An<|N6 x e λz=>nomatch z];exact x
def Qa9(td ty l:TE):TE:=λσ H Q=>td σ H λx h=>∃a,x=.ref a/\YW h a/\ty σ h λy j=>l σ j λz g=>∃c k b,g a=some (.dT c)/\y=.ref b/\g b=some (.tup<|k.map kV)/\c.length<sizeLine /\
 (∀v,Em c k=some v->Q v g)/\(Em c k=none->Q z (upd g a<|.dT<|putK c k z))
def MA{td ty j:TE}(hu:X.A.units+1<cLine)(W:PE X o td)(he:PE X e ty)(S:PE X f j)(m:M2 X o "setdefault" au e f ak):PE X (.Call (.Attribute o "setdefault" au) [e,f] [] ak) (Qa9 td ty j):=by intro aa s σ H Q I h;refine wpAny_Call_method m.base m.few m.line f_ PySem.F.slot_dict_setdefault PySem.F.type_dict_setdefault<|thn (W aa s σ H _ I h) λu Z z1=>?_;obtain⟨x,Y,p,t,a,C,d,O⟩:=z1;subst C;cases (show u=Value.ref a from t);obtain⟨t1,t2,_⟩:=W8 p d;refine⟨t1,t2,?_⟩;rw[m.trees];refine gF rfl<|jR<|bD<|thn (he aa Z σ Y _ p O) λV s2 M=>Cm M λy H2 R U q=>bD<|thn (S aa s2 σ H2 _ R q) λfv s3 L=>cL ?_;obtain⟨z,G,I3,n,P,k,b,ea,D,J,l,N,T⟩:=L;subst D;cases (show V=Value.ref b from U);exact LZ hu I3 ea J l n (λv c w' B g gt=>⟨v,G,g,gt,N v c⟩) λc B g=>⟨z,_,g,n,T c⟩
def Qba(td ty q:AE):AE:=λl p R=>td l p λx h=>match x with
 |.R a=>(∃m,h a=some m/\LM m)/\ty l h λy n=>q l n λz g=>match y with
  |.D (.tuple t)=>opt (Ou t) λj=>opt (g a) λm=>match m with
   |.dt c=>c.length<sizeLine/\(∀v,Cs c j=some v->R v g)/\(Cs c j=none->R z (Ao g a<|.dt<|Er c j z))
   |_=>False
  |_=>False
 |_=>False
def Y2{td ty N:AE}(hu:X.A.units+1<cLine)(ho:VE X o td)(he:VE X e ty)(Y:VE X f N)(m:M2 X o "setdefault" au e f ak:=by exact⟨rfl,rfl,rfl,rfl⟩):VE X (.Call (.Attribute o "setdefault" au) [e,f] [] ak) (Qba td ty N) :=
 (MA hu ho he Y m).imp λσ H Q zz=>B5 zz λJ S R G hc h hq=>⟨J,S,_,G,hc,h,λx B v H1 n O T hx=>by
  split at hx
  ·rename_i a;obtain⟨⟨m0,M,hd⟩,hx⟩:=hx;cases T;refine⟨a,rfl,Yo O M hd,J,B,_,G.kp n,O,hx,λy L u H2 I W ry hy=>⟨J,L,_,(G.kp n).kp I,W,hy,λz μ3 zv H3 D F P hz=>?_⟩⟩;split at hz
   ·obtain⟨l,t,hz⟩:=A5 hz;obtain⟨m,Z,hz⟩:=A5 hz;split at hz
    ·rename_i j;obtain⟨ob,p,V,rfl,C⟩:=F _ _ Z;obtain⟨b,xs,rfl,hb,U⟩:=(Dk.kp D _ _ ry).tup;obtain⟨e0,t⟩:=M7 t;have hb:=hb.heap e0;rw[Hv U t]at hb;have c:=C.val l;refine⟨V,l,b,p,rfl,hb,by rw[<- bL C];exact hz.1,λv q=>?_,λq=>?_⟩
     ·rw[q]at c;cases g:Cs j l with
      |none=>rw[g]at c;exact c.elim
      |some w=>rw[g]at c;exact hq _ _ _ _ ((n.trans I).trans D) F c (hz.2.1 w g)
     ·rw[q]at c;have g:Cs j l=none:=by
       cases g:Cs j l with
       |none=>rfl
       |some w=>rw[g]at c;exact c.elim
      exact hq _ _ _ _ (((n.trans I).trans D).trans<|Kp.put p trivial _) (F.put p trivial (GU<|C.put l P)) (P.kp<|Kp.put p trivial _) (hz.2.2 g)
    exact hz.elim
   exact hz.elim
  exact hx.elim⟩
def Et(h:lS)(d:lM)(es:oC DictEntry)(ep:Nat):Prop:=∃o,h.get? d=some o/\o.ExactDict/\o.data=.dict es ep
def Et.ty{s:lK}{d:lM}{es:oC DictEntry}{ep:Nat}(x:Et s.heap d es ep):s.TypeIs (.ref d) "dict" := by obtain⟨o,h1,h2,_⟩:=x;exact⟨o,h1,h2.1⟩
def Et.mv{h h':lS}{d:lM}{es:oC DictEntry}{ep:Nat}(x:Et h d es ep)(k:∀o,h.get? d=some o->h'.get? d=some o):Et h' d es ep:=by obtain⟨o,h1,r⟩:=x;exact⟨o,k o h1,r⟩
def Et.lt{h:lS}{d:lM}{es:oC DictEntry}{ep:Nat}(x:Et h d es ep):d<h.objs.size:=by obtain⟨_,h1,_⟩:=x;exact Q_ h1
def Y3{Q:lJ->lK->Prop}(g:(d==sysModules)=false)(hm:Et s.heap d es ep)
  (q:Q (.ref s.heap.objs.size) {s with heap:=s.heap.push {cls:=.type "dict_keyiterator",data:=.fields #[.ref d,.int 0 0,.int es.size 0,.int ep 0]}}):yL prog w A (pyIter<|.ref d) Q E s:=by
 have T:=hm.ty;obtain⟨o,h1,h2,c⟩:=hm;refine fS T F.slot_dict_iter<|aW F.slot_dict_iter T F.entry_dict_iter ?_<|F.args_dict_iter_1 _;unfold Builtin.«dict.__iter__» Builtin.Dict.dictSlotNone;refine A_<|A_<|gN T<|show wpAny _ _ (pure<|Value.ref d) _ _ s from C_ ?_;show yL prog w _ (Builtin.Dict.showsAll d>>=_) _ _ s;unfold Builtin.Dict.showsAll;rw[g,H_ U_];refine A_<|C_<|A_<|dH h1 c<|A_<|fA h1 c<|A_<|aJ<|C_ ⟨_,rfl,"dict_keyiterator",_,⟨_,O_ _ rfl,rfl⟩,F.slot_dict_keyiterator_next.lookup,?_⟩;simpa [rawInt] using q
def Y4{Q:oB lJ->lK->Prop}(m:s.heap.IsKeyIter it d i es.size ep)(hm:Et s.heap d es ep)(hi:i<es.size)
  (q:∀h,h.IsKeyIter it d (i+1) es.size ep->Heap.SameBut it s.heap h->Q (some es[i].key) {s with heap:=h}):yL prog w A (pyNext<|.ref it) Q E s:=by
 have T:=m.typeIs;obtain⟨o,g,n,c⟩:=id m;obtain⟨p,h1,h2,j⟩:=hm;unfold pyNext;refine A_<|d_<|aV (name:=Str.ofString "__next__") T F.slot_dict_keyiterator_next<|aW F.slot_dict_keyiterator_next T F.entry_dict_keyiterator_next ?_<|F.args_dict_keyiterator_next_1 _;refine A_<|C_<|A_<|A_ ?_
 first|refine A_ (eU T<|C_<|A_<|eV g c ?_)|refine A_<|fW T<|C_<|A_<|eV g c ?_
 simp only[show Builtin.Dict_items.ownsTuple "dict_keyiterator" = false by decide,Bool.false_eq_true,if_false];show yL prog w _ (if(Value.ref d==Value.none)=true then _ else _) _ _ s;rw[H_<|by exact U_];refine A_<|C_<|A_<|dH h1 j ?_;rw[H_<|by simp];refine A_<|C_<|A_<|fA h1 j ?_;rw[H_<|by simp];refine C_ ?_;simp only[show ¬((i:Int)<0) by omega,if_false,Int.toNat_natCast,Array.getElem?_eq_getElem hi];refine A_ ?_
 first|refine A_ (eU T<|C_<|A_<|jI T ?_)|refine A_<|fW T<|C_<|A_<|jI T ?_
 show yL prog w _ (setField (.ref it) 1 (rawInt<|(i:Int)+1)>>=_) _ _ s;refine A_ (bI g c (by simp)<|A_<|bM ?_);have l:(s.heap.update it<|Obj.mapFields (·.setIfInBounds 1 (rawInt<|(i:Int)+1))).IsKeyIter it d (i+1) es.size ep:=⟨_,Y_ _ g<|cW<|aY c _,(iY ..).trans n,by rw[aY c];simp[rawInt]⟩;refine A_<|jI (s:={s with heap:=s.heap.update it<|Obj.mapFields (·.setIfInBounds 1 (rawInt<|(i:Int)+1))}) l.typeIs<|show wpAny _ _ (pure es[i].key) _ _ _ from ?_;exact C_<|C_ ⟨_,rfl,C_<|q _ l<|bF ..⟩
def EL{Q:oB lJ->lK->Prop}(n:A.handled=none)(j:s.heap.IsKeyIter it d es.size es.size ep)(hm:Et s.heap d es ep)(q:∀l,Heap.ExtBut it s.heap l->Q none {s with heap:=l}):yL prog w A (pyNext<|.ref it) Q E s:=by
 have T:=j.typeIs;obtain⟨o,c,p,g⟩:=id j;obtain⟨t,h1,h2,h⟩:=hm;unfold pyNext;refine A_<|d_<|aV (name:=Str.ofString "__next__") T F.slot_dict_keyiterator_next<|aW F.slot_dict_keyiterator_next T F.entry_dict_keyiterator_next ?_<|F.args_dict_keyiterator_next_1 _;refine A_<|C_<|A_<|A_ ?_
 first|refine A_ (eU T<|C_<|A_<|eV c g ?_)|refine A_<|fW T<|C_<|A_<|eV c g ?_
 simp only[show Builtin.Dict_items.ownsTuple "dict_keyiterator" = false by decide,Bool.false_eq_true,if_false];show yL prog w _ (if(Value.ref d==Value.none)=true then _ else _) _ _ s;rw[H_<|by exact U_];refine A_<|C_<|A_<|dH h1 h ?_;rw[H_<|by simp];refine A_<|C_<|A_<|fA h1 h ?_;rw[H_<|by simp];refine C_ ?_;simp only[show ¬((es.size:Int)<0) by omega,if_false,Int.toNat_natCast,Array.getElem?_eq_none<|Nat.le_refl es.size];refine A_ ?_
 first|refine A_ (eU T<|C_ ?_)|refine A_<|fW T<|C_ ?_
 show yL prog w _ (setField (.ref it) 0 .none>>=_) _ _ s;refine A_ (bI c g (by simp)<|show wpAny _ _ (newExc (.type "StopIteration") []>>=_) _ _ _ from A_ ?_);simp only[newExc,newTuple];refine A_ (aJ (A_ (m:=firstArgMember _ _)<|eF (a:=Value.none) (by first|rfl|(simp only[firstArgMember];rfl))<|aJ ?_<|by size_fits)<|by size_fits);simp only[raiseNew];refine A_<|gZ (?_:_);rw[show A.in1.handled=none from n];refine A_<|C_<|jU ?_;refine A_ (eG (T := "StopIteration") (b:=true) (by exact⟨_,O_ _ rfl,rfl⟩) jB ?_);exact C_<|q _<|((bF ..).extBut.push _).push _
def U9(l:A.handled=none)(I d:lM)(m:d≠I)(es:oC DictEntry)(ep:Nat) :
  Walks prog w A I [I,d] [I] es.size (λi v=>∃e,es[i]?=some e/\v=e.key) (λi h=>h.IsKeyIter I d i es.size ep/\Et h d es ep) where
 sub:=λb hb=>by
  have:b=I:=by simpa using hb
  simp[this]
 frame:=λ_ _ _ st k=>⟨st.1.at λo e=>k I (by simp) o e,st.2.mv λo e=>k d (by simp) o e⟩
 item:=λi s Q E hi st g=>Y4 st.1 st.2 hi λc x j=>g _ c s.toks ⟨es[i],by simp[hi],rfl⟩ ⟨x,st.2.mv λo e=>j.extBut d o m e⟩ λb o hb e=>j.extBut b o (λz=>hb<|by simp[z]) e
 done:=λs Q E st g=>EL l st.1 st.2 λc x=>g c s.toks λb o hb e=>x b o (λz=>hb<|by simp[z]) e
 self:=λ_ _ _ _ st q=>wpAny_pyIter_keyiter st.1 q
def EM(lo:(d==sysModules)=false):PySem.W.KdlSrc prog w "dict" d d es.size (λi v=>∃e,es[i]?=some e/\v=e.key) (λh=>Et h d es ep) where
 type:=λ_ x=>x.ty
 there:=λ_ x=>⟨x.lt,x.lt⟩
 keep:=λ_ _ x k=>x.mv λo e=>k d (.inl rfl) o e
 notList:=by decide
 notTuple:=by decide
 hint:=λ_ _ _ _ x q=>PySem.W.kdl_hint_dict x.ty q
 iter:=λ_ _ c x=>⟨_,_,(λ_ _ q=>Y3 lo x q),U9 c _ d (aM x.lt) es ep,⟨⟨_,O_ _ rfl,rfl,rfl⟩,x.mv λo e=>DD _ e⟩⟩
theorem HA:∀(c:oA lM),Vals (c.map V.ref) (c.map Value.ref)
 |[]=>.nil
 |_::c=>.cons rfl<|HA c
theorem Sw{h c j:Type}{F:h->c->Prop}{G:h->j->Prop}{f:c->j}:∀{l:oA h} {m:oA c},Paired F l m->(∀x y,F x y->G x (f y))->Paired G l (m.map f)
 |_,_,.nil,_=>.nil
 |_,_,.cons r t,g=>.cons (g _ _ r)<|Sw t g
def Nd(hc:X.calm=true):Fl X (.type "list") (λG H Q=>∃a m,G=[.ref a]/\H a=some (.dT m)/\∀l (x:oA lM),H l=none->Paired (λ(p:oA Key×V) b=>H b=some (.tup<|p.1.map kV)) m x->Q (.ref l) (upd H l<|.lst<|x.map V.ref)):=by
 intro aa s σ H G U Q I r h;obtain⟨a,m,rfl,ha,q⟩:=h;obtain⟨u,rfl,M⟩:=Ew r;cases M;obtain⟨hz,t,n,v,o,es,ep,h1,h2,R,J,_⟩:=Ob I.hok ha;have B:=bL v;have C:es.size=n.length:=by have:=bV List.length J;simpa using this
 refine PySem.W.kdl_call (EM (es:=es) (ep:=ep) t) (I.ok.hd hc) ⟨o,h1,h2,R⟩ (by rw[C,<- B];exact hz) λY P g c L T F=>?_;have O:g.toList=(n.map λy=>y.2.1).map Value.ref:=by
  refine iX λj=>?_;rw[bT];rcases(gH j g.size) with hj|hj;obtain⟨e,N,S⟩:=F.2 j g[j] (by simp[hj]);have D:(n.map<|entryOfKey<|tupleKind<|Bx X.prog X.w)[j]?=some e:=by rw[<- J,bT];exact N
  rw[M_]at D;obtain⟨y,hy,rfl⟩:=J_.mp D;rw[M_,M_,hy,bQ hj,S];rfl;rw[gI hj,fL<|by rw[B_,B_,<- C,<- F.1];exact hj]
 have x:Paired (λ(p:oA Key×V) b=>H b=some (.tup<|p.1.map kV)) m (n.map λy=>y.2.1):=Sw v λp y z=>z.2.1;refine⟨.ref s.heap.objs.size,_,I.laid (t':=P) (o:=.lst<|(n.map λy=>y.2.1).map V.ref) L (F_ _) ?_,rfl,q _ _ (I.hok.fresh<|F_ _) x⟩;exact⟨by rw[B_,B_,<- B];exact hz,g.toList,c,by rw[O];exact HA _,by simpa using T⟩
def Y5:AC:=λh c R=>match h with
 |[.R a]=>opt (c a) λm=>match m with
  |.dt g=>∀p,c p=none->R (.R p) (Ao c p<|.lst<|g.map λq=>.D<|.tuple<|q.1.map LW)
  |_=>False
 |_=>False
theorem Re{K:lN}{H:Hp}:∀(ks:oA Key),Ap K H (ks.map LW) (ks.map kV)
 |[]=>Db
 |k::ks=>Ci (TK k)<|Re ks
theorem Sx{K:lN}{H:Hp}:∀{kvs:oA<|oA Key×AV} {g:oA<|oA Key×V} {c:oA lM},E2 K H kvs g->Paired (λ(p:oA Key×V) b=>H b=some (.tup<|p.1.map kV)) g c->A4 K H (kvs.map λq=>.D<|.tuple<|q.1.map LW) (c.map V.ref)
 |[],_,_,r,p=>by cases r;cases p;exact .nil
 |_::_,_,_,r,p=>by
  cases r with
  |cons h j=>
   cases p with
   |cons l m=>refine .cons ?_<|Sx j m;dsimp only;rw[h.1];exact Hf l<|Re _
def EN(q:X.calm=true):VCall X (.type "list") Y5:=by
 intro aa s σ H D y Q I r p;refine B5 p λas B R t c h hq=>?_;unfold Y5 at h;split at h
 ·rename_i a;obtain⟨m,n,h⟩:=A5 h;split at h
  ·rename_i x;obtain⟨o,j,z,rfl,rk⟩:=c _ _ n;cases t with
   |cons u v=>cases v;cases u;exact Nd q aa s σ H _ y Q I r ⟨a,z,rfl,j,λl C g hp=>hq (.R l) _ _ _ (Kp.new g _) (c.new g<|Dh<|Sx rk hp) rfl<|h l<|c.none g⟩
  exact h.elim
 exact h.elim
end
end L2
namespace L2
open PySem PySem.Spec PyProof.Rows
def Sy(N:oA Str)(pn cn:oA<|Str×lY)(N':oA Str)(mp:oA<|oB Nat):Bool :=
 decide (N'.length=mp.length)&&decide N'.Nodup &&
 (List.range N'.length).all (λk=>match mp[k]?,N'[k]? with
  |some (some i),some x=>decide (N[i]?=some x)&&DA pn x&&decide ((x,NameKind.free)∈cn)&&decide (cn.lookup x=some .free)
  |_,_=>true) &&
 cn.all (λp=>decide (p.2≠.cell)||decide (cn.lookup p.1=some .cell))&&cn.all (λp=>decide (p.2≠.free)||DA pn p.1)&&cn.all (λp=>decide (p.2≠.local)||decide (cn.lookup p.1=some .local))
structure CompOkC(N:oA Str)(pn cn:oA<|Str×lY)(N':oA Str)(mp:oA<|oB Nat):Prop where
 len:N'.length=mp.length
 map:∀(k i:Nat) (x:Str),mp[k]?=some (some i)->N'[k]?=some x->N[i]?=some x/\(pn.lookup x=some .cell\/pn.lookup x=some .free)/\(x,NameKind.free)∈cn/\cn.lookup x=some .free
 ownc:∀p∈cn,p.2=.cell->cn.lookup p.1=some .cell
 free:∀p∈cn,p.2=.free->(pn.lookup p.1=some .cell\/pn.lookup p.1=some .free)
 loc:∀p∈cn,p.2=.local->cn.lookup p.1=some .local
def Aw{N:oA Str}{pn cn:oA<|Str×lY}{N':oA Str}{mp:oA<|oB Nat}(h:Sy N pn cn N' mp=true):CompOkC N pn cn N' mp:=by unfold Sy at h;obtain⟨h,b⟩:=(Z_ _ _).mp h;obtain⟨h,g⟩:=(Z_ _ _).mp h;obtain⟨h,n⟩:=(Z_ _ _).mp h;obtain⟨h,d⟩:=(Z_ _ _).mp h;obtain⟨h1,h2⟩:=(Z_ _ _).mp h;refine⟨aC h1,λk i x f a=>?_,λp hp e=>?_,λp hp e=>?_,λp hp e=>?_⟩;have hk:k<N'.length:=(D_.mp a).1;have q:=bY.mp d k<|dW.mpr hk;simp only[f,a]at q;obtain⟨q,m⟩:=(Z_ _ _).mp q;obtain⟨q,j⟩:=(Z_ _ _).mp q;obtain⟨l,c⟩:=(Z_ _ _).mp q;exact⟨aC l,Og c,aC j,aC m⟩;rcases(gM _ _).mp (bY.mp n p hp) with z|z;exact absurd e<|aC z;exact aC z;rcases(gM _ _).mp (bY.mp g p hp) with z|z;exact absurd e<|aC z;exact Og z;rcases(gM _ _).mp (bY.mp b p hp) with z|z;exact absurd e<|aC z;exact aC z
def relabel_back2{env:Env}{names:oA<|Str×lY}{x:Str}(h:((names.map λ(n,k)=>if(k==NameKind.free&&env.scope.kind==.function&&env.kindOf n==some .cell) then(n,NameKind.cell) else(n,k)).lookup x=some .cell \/
  (names.map λ(n,k)=>if(k==NameKind.free&&env.scope.kind==.function&&env.kindOf n==some .cell) then(n,NameKind.cell) else(n,k)).lookup x=some .free)):(x,NameKind.free)∈names\/(x,NameKind.cell)∈names:=by
 have a:∀k,(names.map λ(n,k)=>if(k==NameKind.free&&env.scope.kind==.function&&env.kindOf n==some .cell) then(n,NameKind.cell) else(n,k)).lookup x=some k->(k=.cell\/k=.free)->(x,NameKind.free)∈names\/(x,NameKind.cell)∈names:=λk hk hc=>by
  obtain⟨⟨n,b⟩,hm,e⟩:=E_.mp<|mem_of_lookup hk;dsimp only at e;split at e;rename_i hb;cases e;simp only[Bool.and_eq_true]at hb;have:b=.free:=by simpa using hb.1.1
  subst this;exact .inl hm;cases e;rcases hc with rfl|rfl;exact .inr hm;exact .inl hm
 exact h.elim (λz=>a _ z<|.inl rfl) λz=>a _ z<|.inr rfl
theorem cf_dich:∀{names:oA<|Str×lY} {n:Nat} {acc:oA<|Str×lM} {x:Str} {c:lM},(cellsFrom n names acc).lookup x=some c->(n<=c/\(x,NameKind.cell)∈names)\/acc.lookup x=some c
 |[],_,_,_,_,h=>.inr h
 | (d,k)::r,n,acc,x,c,h=>by
  unfold cellsFrom at h;split at h
  ·rename_i hk;have hk:k=.cell:=by simpa using hk
   rcases cf_dich h with⟨a,b⟩|z;exact .inl ⟨Nat.le_of_succ_le a,.tail _ b⟩
   ·rw[dB]at z;cases e:x==d with
    |true=>rw[e]at z;cases z;rw[gQ.mp e,hk];exact .inl ⟨F_ _,.head _⟩
    |false=>rw[e]at z;exact .inr z
  rcases cf_dich h with⟨a,b⟩|z;exact .inl ⟨a,.tail _ b⟩;exact .inr z
theorem Gf:∀{names:oA<|Str×lY} {n:Nat} {acc:oA<|Str×lM} {x:Str},(∃c,acc.lookup x=some c)->∃c,(cellsFrom n names acc).lookup x=some c
 |[],_,_,_,h=>h
 | (a,k)::r,n,acc,x,⟨c,h⟩=>by
  unfold cellsFrom;split
  ·refine Gf ?_;rw[dB];cases x==a with
   |true=>exact⟨_,rfl⟩
   |false=>exact⟨c,h⟩
  exact Gf ⟨c,h⟩
theorem Rf:∀{names:oA<|Str×lY} {n:Nat} {acc:oA<|Str×lM} {x:Str},(x,NameKind.cell)∈names->∃c,(cellsFrom n names acc).lookup x=some c
 | (a,k)::r,n,acc,x,h=>by unfold cellsFrom;rcases aK.mp h with e|e;cases e;rw[P_<|show(NameKind.cell==NameKind.cell)=true from rfl];refine Gf ?_;rw[dB,jL];exact⟨_,rfl⟩;split;exact Rf e;exact Rf e
theorem Rg:∀{names:oA<|Str×lY} {n:Nat} {acc:oA<|Str×lM},(∀x y c,acc.lookup x=some c->acc.lookup y=some c->x=y)->(∀x c,acc.lookup x=some c->c<n)->∀x y c,(cellsFrom n names acc).lookup x=some c->(cellsFrom n names acc).lookup y=some c->x=y
 |[],_,_,h,_,x,y,c,f,d=>h x y c f d
 | (g,k)::r,n,acc,h,i,x,y,c,f,d=>by unfold cellsFrom at f d;split at f;rename_i hk;rw[P_ hk]at d;refine Rg (acc:=(g,n)::acc) (λx y c f d=>?_) (λx c e=>?_) x y c f d;rw[dB]at f d;cases a:x==g<;>cases b:y==g<;>rw[a]at f<;>rw[b]at d;exact h x y c f d;cases d;exact absurd (i _ _ f)<|cP _;cases f;exact absurd (i _ _ d)<|cP _;rw[gQ.mp a,gQ.mp b];rw[dB]at e;cases a:x==g<;>rw[a]at e;exact cY<|i x c e;cases e;exact fE _;rename_i hk;rw[H_ hk]at d;exact Rg h i x y c f d
theorem Nf:∀{names:oA<|Str×lY} {h:lS} {acc:oA<|Str×lM},(∀x c,acc.lookup x=some c->∃v,h.IsCell c v)->∀x c,(cellsFrom h.objs.size names acc).lookup x=some c->∃v,(pushCells h names).IsCell c v
 |[],_,_,hc,x,c,e=>hc x c e
 | (f,k)::r,h,acc,hc,x,c,e=>by
  unfold cellsFrom at e;unfold pushCells;split at e;rename_i hk;rw[P_ hk];have g:(cellsFrom (h.push {cls:=.type "cell",data:=.cell none}).objs.size r<|(f,h.objs.size)::acc).lookup x=some c:=by rw[cB];exact e
  refine Nf (λy d z=>?_) x c g;rw[dB]at z;cases a:y==f<;>rw[a]at z;obtain⟨v,q⟩:=hc y d z;exact⟨v,q.keeps λb o e=>DD _ e⟩;cases z;exact⟨none,_,O_ _ rfl,rfl⟩;rename_i hk;rw[H_ hk];exact Nf hc x c e
def Ng(names:oA<|Str×lY)(x:Str):Bool:=match names.lookup x with
 |some .cell=>true
 |_=>false
theorem Rh:∀{names:oA<|Str×lY} {n m:Nat} {acc:oA<|Str×lM} {x:Str} {c:lM},m<=n->(cellsFrom n names acc).lookup x=some c->((x,NameKind.cell)∈names\/∀b,acc.lookup x=some b->m<=b)->m<=c
 |[],_,_,_,_,_,_,h,z=>z.elim (λz=>nomatch z) λz=>z _ h
 | (d,k)::r,n,m,acc,x,c,hm,h,z=>by
  unfold cellsFrom at h;split at h
  ·refine Rh (bA hm) h ?_;cases a:x==d with
   |true=>refine .inr λb e=>?_;rw[dB,a]at e;cases e;exact hm
   |false=>rcases z with z|z;rcases aK.mp z with e|e;cases e;rw[jL]at a;cases a;exact .inl e;refine .inr λb e=>?_;rw[dB,a]at e;exact z b e
  rename_i hk;refine Rh hm h<|z.imp_left λz=>?_;rcases aK.mp z with e|e;cases e;exact absurd rfl hk;exact e
def Ri{names:oA<|Str×lY}{x:Str}(h:Ng names x=true):(x,NameKind.cell)∈names:=by unfold Ng at h;split at h;rename_i e;exact mem_of_lookup e;cases h
def Nh{M:Model}{A:lR}{E:lJ->lK->Prop}{s:lK}{a:lX}{globals:lM}{cl:oA<|Str×lM}{b:Str}{outer:Env}{Q:Env->lK->Prop}
  (f:Q (newEnv a s.heap.objs.size globals (cellsFrom (s.heap.objs.size+1) a.names cl) b none .none (some outer) builtinsNs) {s with heap:=pushCells (s.heap.push {cls:=.type "dict",data:=.dict #[]}) a.names}) :
  wpAny M A (newFunctionEnv a globals cl [] b none .none<|some outer) Q E s:=by
 simp only[newFunctionEnv,Option.isSome_some,if_true];refine A_<|wpAny_alloc ?_;refine A_ (wpAny_layCells _ (λe c d=>by cases hkc:c==NameKind.cell<;>simp[hkc]) _ _ _ _ ?_);rw[show({s with heap:=s.heap.push {cls:=.type "dict",data:=.dict #[]}}:lK).heap.objs.size=s.heap.objs.size+1 from cB ..];exact A_<|by rw[List.forIn_nil];exact C_<|C_ f
def Bj(X:Cx)(N':oA Str)(a:lX)(C:lM)(s:lK)(H:Hp)(fp:oA lM):Cx :=
 {X with N:=N',s₀:=s,H₀:=H,env:=compEnvC a (cellsFrom (C+1) a.names<|Ey X.env.cells a.names []) C X.env,outer:=X.stack,stack:=X.stack,ex:=fp,fn:=Ng a.names,pn:=[],xe:=λ_ _=>False}
section
variable {X:Cx}{N':oA Str}{mp:oA<|oB Nat}{d6 tg iter:lQ}{dc:oA lQ}{scope:lX}{pos:Pos}{wi:TI}{g:TG}{tst:TT}{te:TE}
def Inv.comp0C{M:oA<|lM×lT}{f:St}{H:Hp}{s:lK}{fp:oA lM}{tn:lS->Prop}{a:lS}{tk:Nat}{C:lM}(ok:CompOkC X.N X.env.scope.names scope.names N' mp)(hk:scope.kind=.function) (I:Inv X M f H s) (D:∀b∈fp,Fu X M H b) (O:∀b∈fp,∃o,s.heap.get? b=some o) (U:C=s.heap.objs.size+1) (V:∃m,a.Ns C m) (d:∀b o,s.heap.get? b=some o->a.get? b=some o) (T:∃n,a.get? s.heap.objs.size=some {cls:=.type "list",data:=.seq #[] n}) (fx:∀x c,(cellsFrom (C+1) scope.names<|Ey X.env.cells scope.names []).lookup x=some c->∃v,a.IsCell c v) :
  Inv (Bj X N' scope C s H fp) [] (Of mp f) (upd H s.heap.objs.size<|.lst []) {s with heap:=a,toks:=tk}:=by
 subst U;have cr:∀x∈scope.names,x.2=.free->∃c,X.env.cells.lookup x.1=some c:=λx hx e=>I.ok.has x.1<|ok.free x hx e;have sub:∀x c,(Ey X.env.cells scope.names []).lookup x=some c->X.env.cells.lookup x=some c:=Hq cr (λx c e=>by simp at e);have B:∀x c,(cellsFrom (s.heap.objs.size+1+1) scope.names<|Ey X.env.cells scope.names []).lookup x=some c->(s.heap.objs.size+1+1<=c/\(x,NameKind.cell)∈scope.names)\/X.env.cells.lookup x=some c:=λx c e=>(cf_dich e).imp_right λz=>sub x c z;have J:∀b∈fp,b<s.heap.objs.size:=λb hb=>by obtain⟨_,e⟩:=O b hb;exact Q_ e
 have F:H (s.heap.objs.size+1)=none:=I.hok.fresh<|cF _;have w:H s.heap.objs.size=none:=I.hok.fresh<|F_ _;have Z:∀b∈fp,b∉frs X.stack:=λb hb z=>by obtain⟨_,f1,f2,_⟩:=D b hb;rcases aK.mp (I.stkSub b z) with e|e;exact f1 e;exact f2 e
 refine⟨⟨I.ok.mod,hk,I.ok.glob,I.ok.blt,cF _,Rg (λx y c A E=>I.ok.inj x y c (sub x c A)<|sub y c E) (λx c e=>by obtain⟨_,z⟩:=I.cell x c<|sub x c e;exact cY<|cY z.lt),λx e=>?_,λx c rh e=>I_ (bA<|cF _)<|Rh (F_ _) e<|.inl<|Ri rh,I.ok.hd,I.ok.frames,.inl rfl,λb hb=>⟨?_,λx c e=>?_⟩,I.bs,I_ I.ok.bsz I.sz,λb o e hb=>?_,Z,I.stack,I.stkFree⟩,
  rfl,I.bare,Un.laid d (F_ _) w,?_,λx c e=>?_,?_,λx c e=>?_,λp hp=>(nomatch hp),I.hok.laid d (F_ _) ?_,?_⟩
 rcases relabel_back2 e with z|z;exact Gf<|Hr z;exact Rf z;exact aM<|cY<|J b hb;rcases B x c e with⟨z,_⟩|z;exact λq=>absurd (q ▸ J b hb)<|jN<|I_ (bA<|cF _) z;exact(D b hb).2.2.2.2.1 x c z;rcases(D b hb).2.2.2.1 with z|z;exact I.ok.noex b o e z;exact absurd (S_ (Q_ e)<|I_ I.ok.bsz z)<|cP _
 ·obtain⟨m,hm⟩:=V;refine⟨m,hm,λi x v A E e3=>?_⟩;have h:(Of mp f)[i]?=some (some v):=E;unfold Of at h;rw[M_]at h;cases hmp:mp[i]? with
  |none=>rw[hmp]at h;cases h
  |some o=>
   rw[hmp]at h;cases o with
   |none=>cases h
   |some j=>
    have W:f[j]?=some (some v):=by
     have q:(f[j]?).join=some v:=bC h;cases hj:f[j]? with
     |none=>rw[hj]at q;cases q
     |some y=>rw[hj]at q;exact bV some q
    obtain⟨Y,a2,a3,G⟩:=ok.map i j x hmp A;obtain⟨m0,P,R⟩:=I.loc;obtain⟨u,r,l⟩:=R j x v Y W<|a2.elim (λz=>.inr<|.inl z) λz=>.inr<|.inr z;refine⟨u,r,.inr ⟨?_,?_⟩⟩;exact Mv G;rcases l with⟨t,_⟩|⟨_,c,Q,S⟩;have t:X.env.scope.names.lookup x=some .local:=t;rcases a2 with a2|a2<;>rw[a2]at t<;>cases t;obtain⟨k,L⟩:∃k,(cellsFrom (s.heap.objs.size+1+1) scope.names<|Ey X.env.cells scope.names []).lookup x=some k:=Gf<|Hr a3;have:k=c:=by rcases B x k L with⟨_,z⟩|z;have:=ok.ownc _ z rfl;rw[G]at this;cases this;exact bC<|z.symm.trans Q
    subst this;exact⟨k,L,S.keeps d⟩
 exact fx x c e
 show upd H s.heap.objs.size (.lst []) (s.heap.objs.size+1)=none;rw[An<|jM _];exact F;show upd H s.heap.objs.size (.lst []) c=none;rcases B x c e with⟨z,_⟩|z;rw[An<|dX<|S_ (cY<|fE _) z];exact I.hok.fresh<|I_ (bA<|cF _) z;obtain⟨v,y⟩:=I.cell x c z;rw[An<|aM y.lt];exact I.freeC x c z;obtain⟨n,e⟩:=T;exact⟨bH _,[],n,.nil,e⟩;show(Of mp f).length=N'.length;unfold Of;rw[B_,ok.len]
def Ma{aa:oA<|lM×lT}{σ:St}{H:Hp}{s:lK}{it:lM}{fp:oA lM}{tn:Nat->lS->Prop}{J:It}{Q:lM->Hp->Prop}{E:lJ->lK->Prop}{RR:lJ->lM->lZ->lK->Prop}
  (ok:CompOkC X.N X.env.scope.names scope.names N' mp) (hk:scope.kind=.function) (hc:X.calm=true) (I:Inv X aa σ H s) (T:Turn X.prog X.w X.K tg J fp it tn) (st:tn 0 s.heap) (hf:∀b∈fp,Fu X aa H b)
  (hg:∀C s H fp,PG (Bj X N' scope C s H fp) tg g) (ht:∀C s H fp,PIfs (Bj X N' scope C s H fp) dc tst) (he:∀C s H fp,PE (Bj X N' scope C s H fp) d6 te)
  (h:∀p,H p=none->Xe p J g tst te (Q p) (Of mp σ) (upd H p<|.lst []))
  (hRR:∀C M H',Inv X aa σ H' M->(∃m,M.heap.Ns C m)->H' C=none->X.s₀.heap.objs.size<=C->C≠X.env.locals->(∀x c,X.env.cells.lookup x=some c->c≠C)->(∀q∈X.pn++aa,q.1≠C)->Q s.heap.objs.size H'->RR (.ref s.heap.objs.size) C (.ok .next) M) :
  yL X.prog X.w X.A (newList []) (λa f=>yL X.prog X.w X.A (newFunctionEnv scope X.env.globals (Ey X.env.cells scope.names []) [] X.env.qual none .none<|some X.env) (λrj U=>
   codeAny (model X.prog X.w) X.A (.compStart (.ListComp d6 [⟨tg,iter,dc,0⟩] scope pos) 0 (.ref it) a {rj with scope:=relabel scope X.env}) (RR a rj.locals) U) E f) E s:=by
 refine aJ<|Nh ?_;dsimp only;generalize qd:s.heap.push {cls:=.type "list",dict:=none,data:=.seq ([]:oA lJ).toArray}=H2;have hC:H2.objs.size=s.heap.objs.size+1:=by rw[<- qd,cB]
 have ic:∀b o,H2.get? b=some o->(pushCells (H2.push {cls:=.type "dict",data:=.dict #[]}) scope.names).get? b=some o:=λb o e=>pushCells_keeps _ _ b o<|DD _ e;have k:∀b o,s.heap.get? b=some o->(pushCells (H2.push {cls:=.type "dict",data:=.dict #[]}) scope.names).get? b=some o:=λb o e=>ic b o<|qd ▸ DD _ e;have bq:∃n,(pushCells (H2.push {cls:=.type "dict",data:=.dict #[]}) scope.names).get? s.heap.objs.size=some {cls:=.type "list",data:=.seq #[] n} :=
  ⟨_,ic _ _<|qd ▸ O_ _ rfl⟩
 have l:(pushCells (H2.push {cls:=.type "dict",data:=.dict #[]}) scope.names).Ns H2.objs.size λ_=>none:=(Heap.Ns.new H2<|.type "dict").keeps<|pushCells_keeps _ _;have zd0:∀x∈scope.names,x.2=.free->∃c,X.env.cells.lookup x.1=some c:=λx hx e=>I.ok.has x.1<|ok.free x hx e;have fx:∀x c,(cellsFrom (H2.objs.size+1) scope.names<|Ey X.env.cells scope.names []).lookup x=some c->∃v,(pushCells (H2.push {cls:=.type "dict",data:=.dict #[]}) scope.names).IsCell c v:=λx c e=>by refine Nf (h:=H2.push {cls:=.type "dict",data:=.dict #[]}) (λy d z=>?_) x c (by rw[cB];exact e);obtain⟨v,q⟩:=I.cell y d (Hq zd0 (λx c e=>by simp at e) y d z);exact⟨v,q.keeps λb o e=>DD _<|qd ▸ DD _ e⟩
 generalize pushCells (H2.push {cls:=.type "dict",data:=.dict #[]}) scope.names=h₁ at k bq l fx;have x6:∀b∈fp,∃o,s.heap.get? b=some o:=λb hb=>by obtain⟨o,e,_⟩:=T.obj _ _ st b hb;exact⟨o,e⟩
 have Z:s.heap.objs.size<=H2.objs.size:=by rw[hC];exact cF _
 have I0:=I.comp0C (tn:=tn 0) (C:=H2.objs.size) (tk:=s.toks) ok hk hf x6 hC ⟨_,l⟩ k bq fx;have mi:tn 0 h₁:=T.keep _ _ _ st λb hb o e=>k b o e;obtain⟨W,⟨m0,w0⟩,gl⟩:=h _<|I.hok.fresh<|F_ _;have m7:∀b∈fp,b∉frs X.stack:=I0.ok.exfs;have im:∀{H':Hp},(∀b∈fp,H' b=none)->∀b∈fp,Fu (Bj X N' scope H2.objs.size s H fp) [] H' b:=λhn b hb=>
  ⟨hn b hb,(I0.ok.exf b hb).1,m7 b hb,.inl hb,(I0.ok.exf b hb).2,λq hq=>(nomatch hq)⟩
 have wt:∀f:lK,f={s with heap:=h₁} ->
   codeAny (model X.prog X.w) X.A (.compLoop (.ListComp d6 [⟨tg,iter,dc,0⟩] scope pos) 0 (.ref it) (.ref s.heap.objs.size)<|compEnvC scope (cellsFrom (H2.objs.size+1) scope.names<|Ey X.env.cells scope.names []) H2.objs.size X.env) (RR (.ref s.heap.objs.size) H2.objs.size) f:=by
  rintro f rfl;refine Oe (λn M=>∃i a j H',Inv (Bj X N' scope H2.objs.size s H fp) [] j H' M/\tn i M.heap/\(∀b∈fp,H' b=none)/\W i n a j H') ?_ m0
   ⟨0,[],_,_,I0,mi,λb hb=>by rw[An<|aM (by obtain⟨_,e⟩:=x6 b hb;exact Q_ e)];exact(hf b hb).1,w0⟩
  rintro n s3 ⟨i,a,t,Y,I3,S,P,w3⟩;rcases gl i n a t Y w3 with⟨stop,qn⟩|⟨go,N,hN,step⟩;refine thn (T.done (Bj X N' scope H2.objs.size s H fp) rfl rfl rfl hc i [] s3 t Y _ I3 (im P) S stop) λr s4 ⟨hr,L⟩=>?_;subst hr;refine hRR _ s4 Y ?_ (by obtain⟨m,hm,_⟩:=L.loc;exact⟨m,hm⟩) L.free (I_ I.sz Z) (dX<|S_ I.lt Z) (λx c e=>?_) (λq hq=>?_) qn;exact I.call' L.os L.base L.hok L.bare λb hb=>by obtain⟨_,f1,_,f3,f4,f5⟩:=hf b hb;exact⟨f3,f1,f4,f5⟩
  obtain⟨v,z⟩:=I.cell x c e;exact aM<|S_ z.lt Z;exact aM<|S_ (Q_ (I.pin q hq).1) Z
  ·refine thn (T.item (Bj X N' scope H2.objs.size s H fp) rfl rfl rfl hc i [] s3 t Y _ I3 (im P) S go) λr s4 ⟨u,hr,h4⟩=>?_;subst hr;refine thn h4 λ_ s5 qb=>?_;obtain⟨x,H5,I5,r5,y5,G,fr5⟩:=qb;have I5':=I5.pinned (im fr5)<|T.obj _ _ G;refine thn (hg _ _ _ _ _ s5 t H5 x u _ I5' r5<|step x H5 y5) λ_ s6 vg=>?_;obtain⟨D,H6,I6,q6⟩:=vg;refine thn (ht _ _ _ _ _ s6 D H6 _ I6 q6) λb s7 ⟨H7,I7,q7⟩=>?_;have again:∀{B:St} {F:Hp} {oh:oA V} {O:lK},Inv (Bj X N' scope H2.objs.size s H fp) ([]++Jy fp s5.heap) B F O->(∃m',m'<n/\W (i+1) m' oh B F) ->
     ∃m,m<n/\∃i a j H',Inv (Bj X N' scope H2.objs.size s H fp) [] j H' O/\tn i O.heap/\(∀b∈fp,H' b=none)/\W i m a j H':=λ{B F oh O} R hw=>by
    obtain⟨m',hm,w8⟩:=hw;refine⟨m',hm,i+1,oh,B,F,R.unpinned,T.keep _ _ _ G λb hb o e=>(R.pin (b,o)<|aT _<|aT _<|Fe hb e).1,λb hb=>?_,w8⟩;obtain⟨o,e,d⟩:=T.obj _ _ G b hb;exact(R.pin (b,o)<|aT _<|aT _<|Fe hb e).2.1
   cases b with
   |false=>rw[H_ U_];rw[H_ U_]at q7;exact again I7 (hN _ _ _ q7)
   |true=>rw[P_ rfl];rw[P_ rfl]at q7;refine thn (he _ _ _ _ _ s7 D H7 _ I7 q7) λy O vj=>?_;obtain⟨v,F,R,r8,ac,e8,z8,w8⟩:=vj;refine thn (Lr (X:=Bj X N' scope H2.objs.size s H fp) _ O D F (.ref s.heap.objs.size) [v] (.ref s.heap.objs.size) [y] (λ_ H9=>H9=upd F s.heap.objs.size (.lst<|ac++[v])) R rfl (.cons r8 .nil) ⟨_,ac,v,rfl,rfl,e8,z8,rfl⟩) λ_ s9 qz=>?_;obtain⟨_,H9,I9,_,e9⟩:=qz;subst e9;exact again I9<|hN _ _ _ w8
 exact codeAny_compStart_list (wt _ rfl)<|T.self _ 0 _ _ _ mi<|wt _ rfl
def Pb(hc:X.calm=true)(hi:PI X tg iter wi)(B:∀C s H a,PG (Bj X N' scope C s H a) tg g)(t:∀C s H a,PIfs (Bj X N' scope C s H a) dc tst)(he:∀C s H a,PE (Bj X N' scope C s H a) d6 te)
  (ok:CompOkC X.N X.env.scope.names scope.names N' mp) (hk:scope.kind=.function:=by rfl) (D:∀x,foldedSetIterable iter X.env x=pure x:=by intro _;rfl) :
  PE X (.ListComp d6 [⟨tg,iter,dc,0⟩] scope pos) (Xf mp wi g tst te):=by
 intro f s d H Q I h;rw[eval_ListComp];refine wpAny_comprehension_free (use:=none) rfl D (G6 λx hx e=>I.ok.has x.1<|ok.free x hx e) hk ok.loc<|thn (hi f s d H _ I h) λv L h1=>thn h1 λS E h2=>?_;obtain⟨M,a,G,J,O,e,r,T,j,u,k⟩:=h2;subst e;refine Ma (Q:=λp c=>Q (.ref p) c) (RR:=λb C=>compPost (model X.prog X.w) X.A X.xe none (EP X f d Q) b C) ok hk hc r T j u B t he k ?_;intro C P c o n l h1 F z i q;obtain⟨m,hm⟩:=n;exact⟨m,hm,λR y=>⟨.ref E.heap.objs.size,c,o.letgo l h1 F z i y,rfl,q⟩⟩
def Y6{i:Nat}{y:Str}{b t:Pos}(hc:X.calm=true)(F:X.N.Nodup)(ji:X.N[i]?=some y)(hy:X.env.scope.names.lookup y=some .local)
  (hi:PI X tg iter wi) (Y:∀C s H c,PG (Bj X N' scope C s H c) tg g) (U:∀C s H c,PIfs (Bj X N' scope C s H c) dc tst) (he:∀C s H c,PE (Bj X N' scope C s H c) d6 te)
  (ok:CompOkC X.N X.env.scope.names scope.names N' mp) (j:swapsWith (.ListComp d6 [⟨tg,iter,dc,0⟩] scope pos) (some<|.Name y b) t.line X.env=pure true:=by rfl)
  (hk:scope.kind=.function:=by rfl) (Z:∀x,foldedSetIterable iter X.env x=pure x:=by intro _;rfl) :
  PS X (.Assign [.Name y b] (.ListComp d6 [⟨tg,iter,dc,0⟩] scope pos) t) (CC (Xf mp wi g tst te)<|Wd i):=by
 intro o s u H D I h;rw[exec_Assign_Name_used _ _ _ _ j];refine A_<|fU<|A_ ?_;show wpAny _ _ (do let _ <- comprehension (.ListComp d6 [⟨tg,iter,dc,0⟩] scope pos) scope X.env _ (newList []) false (eval iter X.env) (some<|assign (.Name y b) X.env)) _ _ s;refine A_<|bU (wpAny_comprehension_free (use:=some<|assign (.Name y b) X.env) (Q:=λ_ d=>SP X o D .next d) rfl Z (G6 λx hx e=>I.ok.has x.1<|ok.free x hx e) hk ok.loc
  (thn (hi o s u H _ I h) λv s1 h1=>thn h1 λyd B h2=>?_)) (λ_ d hq=>C_<|C_ hq) λ_ _ e=>e
 obtain⟨it,c,tn,J,H2,e,S,T,L,V,M⟩:=h2;subst e;refine Ma (Q:=λp k=>D.nx (u.set i<|some<|.ref p) k) (RR:=λf C=>compPost (model X.prog X.w) X.A X.xe (some<|assign (.Name y b) X.env) (λ_ d=>SP X o D .next d) f C) ok hk hc S T L V Y U he M ?_;intro C d k R P O h1 E z G q;obtain⟨m,hm⟩:=P;show wpAny _ _ (assign (.Name y b) X.env<|.ref B.heap.objs.size) _ _ d;refine wpAny_assign_Name<|Ll R F ji (.inl hy) (v:=.ref B.heap.objs.size) rfl (λyc r gc=>?_)<|.inr hy;obtain⟨a,l,ha⟩:=gc;have n:C≠a:=by rcases ha with rfl|ha;exact E;exact(z _ _ ha).symm
 refine⟨m,hm.sameBut l n,λh' W=>?_⟩;exact⟨_,k,r.letgo O h1 E z G W,q⟩
def Bg{wi:AI}{g:AG}{tst:AT}{te:AE}(hc:X.calm=true)(hi:VI X tg iter wi)(b:∀C s H a,VG (Bj X N' scope C s H a) tg g)(d:∀C s H a,VIfs (Bj X N' scope C s H a) dc tst)(he:∀C s H a,VE (Bj X N' scope C s H a) d6 te)
  (ok:CompOkC X.N X.env.scope.names scope.names N' mp) (hk:scope.kind=.function:=by rfl) (c:∀x,foldedSetIterable iter X.env x=pure x:=by intro _;rfl) :
  VE X (.ListComp d6 [⟨tg,iter,dc,0⟩] scope pos) (Ot mp wi g tst te):=(Pb (g:=cG X.K g) (tst:=cT X.K tst) (te:=cE X.K te) hc hi (λC s H a=>b C s H a) (λC s H a=>d C s H a) (λC s H a=>he C s H a) ok hk c).imp λ_ _ _ h=>L7 h
def Ee{wi:AI}{g:AG}{tst:AT}{te:AE}{i:Nat}{y:Str}{e j:Pos}(hc:X.calm=true)(m:X.N.Nodup)(r:X.N[i]?=some y)(hy:X.env.scope.names.lookup y=some .local)
  (hi:VI X tg iter wi) (p:∀C s H a,VG (Bj X N' scope C s H a) tg g) (o:∀C s H a,VIfs (Bj X N' scope C s H a) dc tst) (he:∀C s H a,VE (Bj X N' scope C s H a) d6 te)
  (ok:CompOkC X.N X.env.scope.names scope.names N' mp) (d:swapsWith (.ListComp d6 [⟨tg,iter,dc,0⟩] scope pos) (some<|.Name y e) j.line X.env=pure true:=by rfl)
  (hk:scope.kind=.function:=by rfl) (c:∀x,foldedSetIterable iter X.env x=pure x:=by intro _;rfl) :
  VS X (.Assign [.Name y e] (.ListComp d6 [⟨tg,iter,dc,0⟩] scope pos) j) (Uu (Ot mp wi g tst te)<|Eb i):=(Y6 (g:=cG X.K g) (tst:=cT X.K tst) (te:=cE X.K te) hc m r hy hi (λC s H a=>p C s H a) (λC s H a=>o C s H a) (λC s H a=>he C s H a) ok d hk c).imp λD z H b=>Fc b λt k w nr u B c hc h hq=>
 L7 (K:=X.K) ⟨t,k,_,c,hc,h,λx n v A f q l hx=>hq.nx _ _ _ _ f ((c.kp f).set l i) q hx⟩
end
end L2
namespace L2
open PySem PySem.Spec PySem.Calls PyProof.Rows
abbrev RIt(h:lS)(it d:lM)(i n ep:Nat)(z:lJ)(f:Bool)(ok ov:lJ):Prop :=
 h.get? it=some {cls:=.type "dict_itemiterator",dict:=none,data:=.fields #[z,.bool f,.ref d,.int i 0,.int n 0,.int ep 0,ok,ov],slots:=#[]}
section
variable {prog:lO}{w:lP}{A:lR}{E:lJ->lK->Prop}{s:lK}{d it v:lM}{es:oC DictEntry}{ep i:Nat}{z ok ov:lJ}{f:Bool}{R:lZ->lK->Prop}{X:Cx}{k:Nat}{aa:oA<|lM×lT}{σ:St}{H:Hp}{o:lQ}{au ak j3 pos:Pos}{tg:lQ}{K:lN}{a:lM}{od:lT}{ws:oA<|oA Key×V}{N':oA Str}{mp:oA<|oB Nat}{d6:lQ}{dc:oA lQ}{scope:lX}
def Va(b:(d==sysModules)=false):MeetsIn prog w (Builtin.«dict.items» ⟨[.ref d],[]⟩) (λ_ R s=>(∃es ep,Et s.heap d es ep)/\R (.ok<|.ret<|.ref s.heap.objs.size) {s with heap:=s.heap.push {cls:=.type "dict_items",data:=.fields #[.ref d]}}) :=
 .of_wp λA R s ⟨⟨_,_,hm⟩,h⟩=>by unfold Builtin.«dict.items» Builtin.Dict.noArgs;refine A_<|A_<|gN hm.ty<|show wpAny _ _ (pure d) _ _ s from C_ ?_;show wpAny _ _ (Builtin.Dict.showsAll d>>=_) _ _ s;unfold Builtin.Dict.showsAll;rw[b,H_ U_];exact A_<|C_<|A_<|aJ<|C_ ⟨_,rfl,h⟩
def Vb{Q:lJ->lK->Prop}(hv:s.heap.IsItemsView v d)(hm:Et s.heap d es ep)
  (q:Q (.ref s.heap.objs.size) {s with heap:=s.heap.push {cls:=.type "dict_itemiterator",data:=.fields #[.none,.bool false,.ref d,.int 0 0,.int es.size 0,.int ep 0,.none,.none]}}):yL prog w A (pyIter<|.ref v) Q E s:=by
 obtain⟨g,c,_,e⟩:=id hv;obtain⟨o,h1,_,b⟩:=id hm;refine fS hv.typeIs F.slot_dict_items_iter<|aW F.slot_dict_items_iter hv.typeIs F.entry_dict_items_iter ?_<|F.args_dict_items_iter_1 _;unfold Builtin.«dict_items.__iter__» Builtin.Dict_items.dictOf Builtin.Dict_items.newIterator;refine A_<|C_<|A_<|A_<|aH c e (x:=.ref d) rfl<|C_<|A_<|A_<|dH h1 b<|A_<|fA h1 b ?_;simp only[show Builtin.Dict_items.ownsTuple "dict_itemiterator" = true by decide,if_true];refine aJ (C_ ⟨_,rfl,"dict_itemiterator",_,⟨_,O_ _ rfl,rfl⟩,F.slot_dict_itemiterator_next.lookup,?_⟩)
  (by simp only[sizeOk,Builtin.Dict_items.ownedTupleFields,List.size_toArray,List.length_append,List.length_cons,List.length_nil,sizeLine_eq];exact Nat.le_add_left _ _)
 simpa [rawInt,Builtin.Dict_items.ownedTupleFields] using q
def Vc{Q:oB lJ->lK->Prop}(u:RIt s.heap it d i es.size ep z f ok ov)(hz:(z=.none/\f=false)\/∃(a:lM) (M:lT),z=rawInt a/\s.heap.get? a=some M/\a≠it)(hm:Et s.heap d es ep)(hi:i<es.size)
  (hQ:∀D l p B G,RIt D it d (i+1) es.size ep l p B G->((z=.none/\l=rawInt s.heap.objs.size/\p=false)\/∃a:lM,z=rawInt a/\l=rawInt a)->D.get? s.heap.objs.size=some {cls:=.type "tuple",data:=.seq #[es[i].key,es[i].val]}->D.objs.size=s.heap.objs.size+1 ->
   (∀b o,b≠it->s.heap.get? b=some o->D.get? b=some o)->Q (some<|.ref s.heap.objs.size) {s with heap:=D}):yL prog w A (pyNext<|.ref it) Q E s:=by
 obtain⟨hp,g,q,r,os⟩:=s;obtain⟨od,h1,_,Y⟩:=id hm;have T:Shared.TypeIs ⟨hp,g,q,r,os⟩ (.ref it) "dict_itemiterator" := ⟨_,u,rfl⟩;unfold pyNext;refine A_<|d_<|aV (name:=Str.ofString "__next__") T F.slot_dict_itemiterator_next<|aW F.slot_dict_itemiterator_next T F.entry_dict_itemiterator_next ?_<|F.args_dict_itemiterator_next_1 _;refine A_<|C_<|A_<|A_ ?_
 first|refine A_ (eK T<|C_<|A_<|eV u rfl ?_)|refine A_<|fM T<|C_<|A_<|eV u rfl ?_
 simp only[show Builtin.Dict_items.ownsTuple "dict_itemiterator" = true by decide,if_true];show yL prog w _ (if(Value.ref d==Value.none)=true then _ else _) _ _ _;rw[H_<|by exact U_];refine A_<|C_<|A_<|dH h1 Y ?_;rw[H_<|by simp];refine A_<|C_<|A_<|fA h1 Y ?_;rw[H_<|by simp];refine C_ ?_;simp only[show ¬((i:Int)<0) by omega,if_false,Int.toNat_natCast,Array.getElem?_eq_getElem hi];refine A_ ?_
 first|refine A_ (eK T<|C_<|A_<|gJ T ?_)|refine A_<|fM T<|C_<|A_<|gJ T ?_
 show yL prog w _ (setField (.ref it) 3 (rawInt<|(i:Int)+1)>>=_) _ _ ⟨hp,g,q,r,os⟩;refine A_ (eJ u (by simp) λm y C=>?_);replace C:Heap.SameBut it hp m:=C;replace y:RIt m it d (i+1) es.size ep z f ok ov:=by unfold RIt;rw[show((i+1:Nat):Int)=(i:Int)+1 by omega];simpa [rawInt] using y
 have L:Shared.TypeIs ⟨m,g,q,r,os⟩ (.ref it) "dict_itemiterator" := ⟨_,y,rfl⟩;refine A_<|bM<|A_<|gJ L<|A_<|gJ L ?_;show yL prog w _ (Builtin.Dict_items.pairFromOwner (.ref it) 6 es[i].key es[i].val) _ _ ⟨m,g,q,r,os⟩;unfold Builtin.Dict_items.pairFromOwner;refine A_<|wpAny_newTuple ?_;have h:RIt (m.push {cls:=.type "tuple",data:=.seq #[es[i].key,es[i].val]}) it d (i+1) es.size ep z f ok ov:=DD _ y;generalize I:m.push {cls:=.type "tuple",data:=.seq #[es[i].key,es[i].val]}=t at h;have J:m.objs.size=hp.objs.size:=C.1;have il:it<hp.objs.size:=Q_ u;have t2:t.get? hp.objs.size=some {cls:=.type "tuple",data:=.seq #[es[i].key,es[i].val]}:=by rw[<- I,<- J];exact O_ _ rfl
 have z2:t.objs.size=hp.objs.size+1:=by rw[<- I,cB,J]
 have U:∀b o,b≠it->hp.get? b=some o->t.get? b=some o:=λb o hb e=>by rw[<- I];exact DD _<|C.extBut b o hb e
 show yL prog w _ (Builtin.Dict_items.ownedTupleIsFree (.ref it)>>=_) _ _ ⟨t,g,q,r,os⟩;rw[J];clear I y C L J m;have P:∀(k3:lS) l p B G,RIt k3 it d (i+1) es.size ep l p B G->((z=.none/\l=rawInt hp.objs.size/\p=false)\/∃a:lM,z=rawInt a/\l=rawInt a)->Heap.SameBut it t k3->Q (some<|.ref hp.objs.size) ⟨k3,g,q,r,os⟩:=λk3 l p B G j c n=>
  hQ k3 l p B G j c (n.extBut _ _ (dX il) t2) (by show k3.objs.size=_;rw[n.1,z2]) λb o hb e=>n.extBut b o hb<|U b o hb e
 refine A_ ?_;unfold Builtin.Dict_items.ownedTupleIsFree;rcases hz with⟨rfl,rfl⟩|⟨a,M,rfl,ha,kh⟩;refine A_<|aH h rfl (x:=.none) rfl<|C_ ?_;simp only[if_true];refine A_<|aH h rfl (x:=ok) rfl<|A_<|aH h rfl (x:=ov) rfl ?_;refine A_ (eJ h (by simp) λk3 j n=>?_);replace j:RIt k3 it d (i+1) es.size ep .none false es[i].key ov:=j;refine A_ (eJ j (by simp) λk4 N s4=>?_);replace N:RIt k4 it d (i+1) es.size ep .none false es[i].key es[i].val:=N;refine A_ (eJ N (by simp) λk5 S s5=>?_);replace S:RIt k5 it d (i+1) es.size ep (rawInt hp.objs.size) false es[i].key es[i].val:=S;refine A_ (eJ S (by simp) λZ O s6=>?_);replace O:RIt Z it d (i+1) es.size ep (rawInt hp.objs.size) false es[i].key es[i].val:=O;exact A_<|iN<|C_<|C_ ⟨_,rfl,C_<|P Z _ _ _ _ O (.inl ⟨rfl,rfl,rfl⟩)<|((Heap.SameBut.trans n s4).trans s5).trans s6⟩
 ·refine A_<|aH h rfl (x:=rawInt a) rfl ?_;show yL prog w _ (loadIfAlive ((a:Int).toNat)>>=_) _ _ _;rw[cX];refine A_<|PySem.W.kdx_alive (U a M kh ha) ?_;simp only[Option.isNone_some,Bool.false_eq_true,if_false];refine A_<|aH h rfl (x:=.bool f) rfl ?_;cases f with
  |true=>rw[H_<|by exact U_];refine C_ ?_;simp only[Bool.false_eq_true,if_false];exact C_ (C_ ⟨_,rfl,C_<|P t _ _ _ _ h (.inr ⟨a,rfl,rfl⟩)<|kP _ _⟩)
  |false=>rw[P_<|by rfl];refine A_ (eJ h (by simp) λk3 j n=>C_ ?_);replace j:RIt k3 it d (i+1) es.size ep (rawInt a) true ok ov:=j;simp only[Bool.false_eq_true,if_false];exact C_<|C_ ⟨_,rfl,C_<|P k3 _ _ _ _ j (.inr ⟨a,rfl,rfl⟩) n⟩
def Y7{Q:oB lJ->lK->Prop}(h:A.handled=none)(c:RIt s.heap it d es.size es.size ep z f ok ov)(hm:Et s.heap d es ep)(q:∀g,Heap.ExtBut it s.heap g->Q none {s with heap:=g}):yL prog w A (pyNext<|.ref it) Q E s:=by
 obtain⟨od,h1,_,e⟩:=id hm;have T:s.TypeIs (.ref it) "dict_itemiterator" := ⟨_,c,rfl⟩;unfold pyNext;refine A_<|d_<|aV (name:=Str.ofString "__next__") T F.slot_dict_itemiterator_next<|aW F.slot_dict_itemiterator_next T F.entry_dict_itemiterator_next ?_<|F.args_dict_itemiterator_next_1 _;refine A_<|C_<|A_<|A_ ?_
 first|refine A_ (eK T<|C_<|A_<|eV c rfl ?_)|refine A_<|fM T<|C_<|A_<|eV c rfl ?_
 simp only[show Builtin.Dict_items.ownsTuple "dict_itemiterator" = true by decide,if_true];show yL prog w _ (if(Value.ref d==Value.none)=true then _ else _) _ _ s;rw[H_<|by exact U_];refine A_<|C_<|A_<|dH h1 e ?_;rw[H_<|by simp];refine A_<|C_<|A_<|fA h1 e ?_;rw[H_<|by simp];refine C_ ?_;simp only[show ¬((es.size:Int)<0) by omega,if_false,Int.toNat_natCast,Array.getElem?_eq_none<|Nat.le_refl es.size];refine A_ ?_
 first|refine A_ (eK T<|C_ ?_)|refine A_<|fM T<|C_ ?_
 show yL prog w _ (setField (.ref it) 2 .none>>=_) _ _ s;refine A_ (bI c rfl (by simp)<|show wpAny _ _ (newExc (.type "StopIteration") []>>=_) _ _ _ from A_ ?_);simp only[newExc,newTuple];refine A_ (aJ (A_ (m:=firstArgMember _ _)<|eF (a:=Value.none) (by first|rfl|(simp only[firstArgMember];rfl))<|aJ ?_<|by size_fits)<|by size_fits);simp only[raiseNew];refine A_<|gZ (?_:_);rw[show A.in1.handled=none from h];refine A_<|C_<|jU ?_;refine A_ (eG (T := "StopIteration") (b:=true) (by exact⟨_,O_ _ rfl,rfl⟩) jB ?_);exact C_<|q _<|((bF ..).extBut.push _).push _
def Vd:GJ X "dict.items" (λx n H Q=>∃a g,x=.ref a/\n=[]/\H a=some (.dT g)/\∀v,H v=none->Q (.ref v) (upd H v<|.ext λh=>h.IsItemsView v a)):=by intro aa s σ H x u v B Q I j r h;obtain⟨a,g,rfl,rfl,ha,q⟩:=h;cases j;have m:=Vals.zero r;subst m;obtain⟨hz,c,t,p,o,es,ep,h1,h2,l,C,_⟩:=Ob I.hok ha;have hm:Et s.heap a es ep:=⟨o,h1,h2,l⟩;refine iT PySem.F.slot_dict_items hm.ty PySem.F.entry_dict_items (PySem.F.args_dict_items_1 _) (Va c) ⟨⟨es,ep,hm⟩,?_⟩;refine⟨.ref s.heap.objs.size,_,I.laid (t':=s.toks) (o:=.ext λh=>h.IsItemsView s.heap.objs.size a) (λb y q=>DD _ q) (F_ _) ?_,rfl,q _<|I.hok.fresh<|F_ _⟩;exact⟨⟨_,O_ _ rfl,rfl,rfl⟩,⟨_,O_ _ rfl⟩,by rintro h1 h2 ⟨o,e,r⟩ k;exact ⟨o,k o e,r⟩⟩
def Inv.freezeT{a:lM}{od:lT}{ws:oA<|oA Key×V}(I:Inv X aa σ H s)(e:H a=some (.dT ws))(g:s.heap.get? a=some od):Inv X aa σ (upd H a<|.frz od<|.dT ws) s:=by obtain⟨z,n,j,b,o,es,ep,h1,h2,l,p,m⟩:=(show Bh X.prog X.w H s.heap a (.dT ws) from I.hok a _ e);refine Ho (h':=s.heap) (t':=s.toks) I (by rw[e];exact True.intro) (kP _ _) ⟨od,g⟩ ⟨g,z,n,j,KT.keeps (show KT H ws j from b) λc q h=>?_,o,es,ep,h1,h2,l,p,m⟩;rw[An<|N6 h e λz=>nomatch z];exact h
def Iit(d:lM)(od:lT)(ws:oA<|oA Key×V):It :=
 ⟨λi H=> H d = some (.frz od<|.dT ws) /\ i<ws.length,
  λi H v c=> ∃ T b k y, H T = none /\ v = .ref T /\ ws[i]? = some (k, y) /\ H b = some (.tup<|k.map kV) /\ c = upd H T (.tup [.ref b, y]),
  λi H=> H d = some (.frz od<|.dT ws) /\ ws.length = i⟩
def Ko:PySem.entryFor PySem.table "dict_itemiterator.__iter__" = some Builtin.«dict_keyiterator.__iter__»:=PySem.entryFor_alias (id' := "dict_keyiterator.__iter__") (by kernel_rfl) rfl (by decide +kernel)<|by kernel_rfl
def Jq{prog:lO}{w:lP}{A:lR}{E:lJ->lK->Prop}{s:lK}{it d:lM}{i n ep:Nat}{ok ov:lJ}{Q:lJ->lK->Prop}(c:IsItemIter s.heap it d i n ep ok ov)(h:Q (.ref it) s):yL prog w A (pyIter<|.ref it) Q E s:=by have b:s.TypeIs (.ref it) "dict_itemiterator" := ⟨_,c,rfl⟩;refine fS b g_<|aW g_ b Ko ?_<|PySem.F.args_dict_itemiterator_iter_1 _;show wpAny _ _ (ret<|.ref it) _ _ s;exact C_ ⟨_,rfl,"dict_itemiterator",_,b,PySem.F.slot_dict_itemiterator_next.lookup,h⟩
def Rj{P:lO}{w:lP}{K:lN}{cq:oA lQ}{k:Nat}{pos:Pos}(d it:lM)(od:lT)(ws:oA<|oA Key×V)(es:oC DictEntry)(ep:Nat)(t:od.data=.dict es ep)(hsz:es.size=ws.length) :
  Turn P w K (.Tuple cq k pos) (Iit d od ws) [it] it (λi h=>∃ok ov,IsItemIter h it d i es.size ep ok ov) where
 mem:=by simp
 obj:=λi h st b hb=>by
  have e:b=it:=by simpa using hb
  subst e;obtain⟨ok,ov,st⟩:=st;exact⟨_,st,λv z=>nomatch z⟩
 keep:=λi h u st k=>let⟨ok,ov,st⟩:=st;⟨ok,ov,k it (by simp) _ st⟩
 item:=by
  intro X x m G hc i aa s σ H E I p st D;subst x m G;obtain⟨ok,ov,g⟩:=st;obtain⟨B,c9⟩:=D;obtain⟨r,z,hd,c,j,o,F,J,h1,h2,n,Y,h5⟩:=(show Bh X.prog X.w H s.heap d (.frz od<|.dT ws) from I.hok d _ B);rw[r]at h1;cases h1;rw[t]at n;cases n;have T:i<es.size:=by omega
  have Z:=bL j;have hx:c[i]?=some c[i]:=K_ (by omega);have m:ws[i]?=some ws[i]:=K_ c9;obtain⟨x',U,r1,r2,r3⟩:=D9 j m;rw[hx]at U;cases U;have i8:es[i]=entryOfKey (tupleKind<|Bx X.prog X.w) c[i]:=by have W:=bV (λl=>l[i]?) Y;simp only[Array.getElem?_toList,Array.getElem?_eq_getElem T,List.getElem?_map,hx,Option.map_some]at W;exact bC W
  refine Vc (z:=.none) (f:=false) g (.inl ⟨rfl,rfl⟩) ⟨od,r,h2,t⟩ T λu z' f' p7 on i7 jd hT cw y=>?_;have n9:z'=rawInt s.heap.objs.size/\f'=false:=by rcases jd with⟨_,h⟩|⟨a,h,_⟩;exact h;cases h
  obtain⟨rfl,rfl⟩:=n9;refine⟨_,rfl,wpAny_letOwnedTupleGo_items i7 λS C M=>?_⟩;have I1:Inv X aa σ H {s with heap:=u,toks:=s.toks}:=I.turnedL (fp:=[it]) (λb o hb e=>y b o (λq=>hb<|by simp[q]) e) p;have I2:Inv X aa σ H {s with heap:=S,toks:=s.toks}:=I1.turnedL (s:={s with heap:=u,toks:=s.toks}) (t':=s.toks) (fp:=[it]) (λb o hb e=>M.extBut b o (λq=>hb<|by simp[q]) e) p;have O:Fu X aa H s.heap.objs.size:=I.fpOk (F_ _)<|I.hok.fresh<|F_ _;have N:it<s.heap.objs.size:=Q_ g;have L:S.get? s.heap.objs.size=some {cls:=.type "tuple",data:=.seq #[es[i].key,es[i].val]}:=M.extBut _ _ (dX N) hT;rw[i8]at L;refine⟨.ref s.heap.objs.size,upd H s.heap.objs.size<|.tup [.ref c[i].2.1,ws[i].2],I2.track O ⟨by show 2<=sizeLine;decide,[.ref c[i].2.1,c[i].2.2],.cons rfl<|.cons r3 .nil,_,L,rfl,_,rfl⟩,rfl,⟨s.heap.objs.size,c[i].2.1,ws[i].1,ws[i].2,O.1,rfl,m,r2,rfl⟩,⟨_,_,C⟩,λb hb=>?_⟩;have e:b=it:=by simpa using hb
  subst e;rw[An<|aM N];exact(p b hb).1
 done:=by intro X x m G hc i aa s σ H E I p st D;subst x m G;obtain⟨ok,ov,g⟩:=st;obtain⟨B,rfl⟩:=D;obtain⟨r,z,hd,c,j,o,F,J,h1,h2,n,Y,h5⟩:=(show Bh X.prog X.w H s.heap d (.frz od<|.dT ws) from I.hok d _ B);rw[r]at h1;cases h1;rw[t]at n;cases n;rw[<- hsz]at g;exact Y7 (I.ok.hd hc) g ⟨od,r,h2,t⟩ λu y=>⟨rfl,I.turnedL (t':=s.toks) (fp:=[it]) (λb o hb e=>y b o (λq=>hb<|by simp[q]) e) p⟩
 self:=λA i s Q E st h=>by obtain⟨_,_,g⟩:=st;exact Jq g h
def Ck(c:M)(a:lM):M:=λb=>if b=a then none else c b
def Bb{c:M}{a b:lM}(h:b≠a):Ck c a b=c b:=H_ h
def TQ:V->oA V->Hp->VK->Prop:=λx c H Q=>∃a b,x=.ref a/\c=[]/\H a=some (.dT b)/\∀v,H v=none->Q (.ref v) (upd H v<|.ext λh=>h.IsItemsView v a)
def iIt(K:lN)(td:TE):TI:=λσ H R=>JM K "dict" TQ td σ H λv b=>∃a ws vv,v=.ref vv/\b vv=some (.ext λh=>h.IsItemsView vv a)/\b a=some (.dT ws)/\∀od,R (Iit a od ws)<|upd b a<|.frz od<|.dT ws
def Y8{M:oA lQ}{G:Nat}{td:TE}(J:PE X o td)(y:attributeBase o "items" X.env (eval o X.env)=eval o X.env:=by rfl) (D:(au.endLine==ak.line)=true:=by rfl) :
  PI X (.Tuple M G j3) (.Call (.Attribute o "items" au) [] [] ak) (iIt X.K td):=by
 intro aa s σ H R I h;refine thn (Mr (T := "dict") (r:=TQ) f_ PySem.F.slot_dict_items PySem.F.type_dict_items Vd J y D aa s σ H _ I h) λv c L=>?_;obtain⟨x,n,j,B,a,ws,vv,rfl,hv,ha,q⟩:=L;cases B;obtain⟨g,_,_⟩:=(show Bh X.prog X.w n c.heap vv (.ext λh=>h.IsItemsView vv a) from j.hok vv _ hv);obtain⟨hz,u,P,p,od,es,ep,h1,h2,t,N,O⟩:=(show Bh X.prog X.w n c.heap a (.dT ws) from j.hok a _ ha);refine Vb g ⟨od,h1,h2,t⟩ ?_;have m:es.size=ws.length:=by have e:=bV List.length N;rw[B_]at e;rw[bL p,<- e];simp
 have C:=j.kept (t':=c.toks) (h':=c.heap.push {cls:=.type "dict_itemiterator",data:=.fields #[.none,.bool false,.ref a,.int 0 0,.int es.size 0,.int ep 0,.none,.none]}) λb Q e=>DD _ e;have l:=j.hok.fresh<|F_ c.heap.objs.size;have f:=j.fpOk (F_ _) l;refine⟨c.heap.objs.size,[c.heap.objs.size],_,_,upd n a<|.frz od<|.dT ws,rfl,C.freezeT ha<|DD _ h1,Rj a _ od ws es ep t m,⟨.none,.none,O_ _ rfl⟩,λb hb=>?_,q od⟩;have e:b=c.heap.objs.size:=by simpa using hb
 subst e;exact⟨by rw[An λz=>by rw[z]at l;rw[ha]at l;cases l];exact f.1,f.2⟩
def OY(g:AGs)(tb:AS)(k:ASt->M->Prop)(r:AV->M->Prop):oA (oA Key×AV)->ASt->M->Prop
 |[]=>k
 |p::e=>λj h=>g [.D<|.tuple<|p.1.map LW,p.2] j h λb c=>tb (OY g tb k r e) r k (OY g tb k r e) b c
def TR(td:AE)(g:AGs)(tb:AS):AS:=λk r _ _ e h=>td e h λx b=>match x with
 |.R a=>opt (b a) λm=>match m with
  |.dt c=>OY g tb k r c e (Ck b a)
  |_=>False
 |_=>False
def Ic{M:oA lQ}{kt:Nat}{r:oA lU}{td:AE}{g:AGs}{tb:AS}(hp:PassesOwn (model X.prog X.w) X.A X.env X.xe)(ff:X.calm=true)(hd:VE X o td)(hg:VGs X M g)(hb:VSs X r tb)
  (hn:(assignEach M X.env).length=2:=by rfl) (bg:(assignEach M X.env).findIdx? (·.1)=none:=by rfl) (hfs:∀x,foldedSetIterable (.Call (.Attribute o "items" au) [] [] ak) X.env x=pure x:=by intro _;rfl)
  (be:attributeBase o "items" X.env (eval o X.env)=eval o X.env:=by rfl) (bf:(au.endLine==ak.line)=true:=by rfl) :
  VS X (.For (.Tuple M kt j3) (.Call (.Attribute o "items" au) [] [] ak) r [] pos) (TR td g tb) :=
 (Wj hp ff (Y8 hd be bf) (Wg ff hg hn bg) hb hfs).imp λD σ H I=>Fc I λτ μ nk nr nb nc hs hc h hq=>by
 refine⟨τ,μ,_,hs,hc,h,λx μ1 v G S1 c1 rx hx=>?_⟩;split at hx;rename_i a;obtain⟨m,em,hx⟩:=A5 hx;split at hx;rename_i l;obtain⟨ob,J,ws,rfl,rk⟩:=c1 _ _ em;cases (show v=.ref a from rx);refine⟨.inr<|.inr<|.inl ⟨rfl,.inr ⟨ws,J⟩⟩,a,ws,rfl,rfl,J,λvv N=>?_⟩;have nav:a≠vv:=λz=>by rw[z]at J;rw[J]at N;cases N
 have du:upd G vv (.ext λh=>h.IsItemsView vv a) a=some (.dT ws):=by rw[An nav];exact J
 refine⟨a,ws,vv,rfl,A3,du,λod=>?_⟩;have F:Kp G (upd (upd G vv<|.ext λh=>h.IsItemsView vv a) a<|.frz od<|.dT ws):=(Kp.new N _).trans<|Kp.put du trivial _;have c2:Cn X.K (Ck μ1 a) (upd (upd G vv<|.ext λh=>h.IsItemsView vv a) a<|.frz od<|.dT ws):=λb m' e=>by
  have lm:b≠a:=λz=>by rw[z]at e;unfold Ck at e;rw[P_ rfl]at e;cases e
  rw[Bb lm]at e;obtain⟨o',e',r'⟩:=c1 b m' e;exact⟨o',by rw[An lm,An<|Bw e' N];exact e',r'.kp F⟩
 have P:upd (upd G vv<|.ext λh=>h.IsItemsView vv a) a (.frz od<|.dT ws) a=some (.frz od<|.dT ws):=A3;have n8:=rk.kp F;generalize upd (upd G vv<|.ext λh=>h.IsItemsView vv a) a (.frz od<|.dT ws)=H2 at F c2 P n8;have hl:=bL n8;refine Xh ws.length (λi q u=>∃ j c,Kp H2 u/\Dq X.K u j q/\Cn X.K c u/\OY g tb nk nr (l.drop i) j c) ⟨τ,_,Kp.refl,hs.kp<|S1.trans F,c2,hx⟩ ?_ ?_ ?_;rintro i q u hi ⟨j,c,C,O,p,h1⟩;exact⟨C.f _ _ _ P,hi⟩;rintro q u ⟨j,c,C,O,p,h1⟩;rw[<- hl,dO]at h1;exact⟨⟨C.f _ _ _ P,rfl⟩,hq.nx _ _ _ _ (S1.trans<|F.trans C) O p h1⟩;rintro i v' q u H'' hi ⟨j,c,C,O,p,h1⟩ ⟨T,b,k,y,hT,rfl,hw,ir,rfl⟩;have kb:i<l.length:=by omega
 rw[bR kb]at h1;obtain⟨q',e1,r1,r2⟩:=D9 n8<|K_ kb;rw[hw]at e1;cases e1;have L:Kp u (upd u T<|.tup [.ref b,y]):=Kp.new hT _;refine⟨T,[.ref b,y],rfl,Il.of A3,rfl,[.D<|.tuple<|l[i].1.map LW,l[i].2],j,c,_,.cons ?_<|.cons (r2.kp<|C.trans L) .nil,O.kp L,p.over hT,h1,λτ3 Z σ3 H3 S5 fm Y h3=>⟨τ3,Z,_,_,_,_,fm,Y,h3,?_⟩⟩;have r1':l[i].1=k:=r1;rw[r1'];exact Hf (L.t _ _ ir)<|Re _;have S:Kp H2 H3:=C.trans<|L.trans S5;have S0:Kp H H3:=S1.trans<|F.trans S;exact⟨λB n Q H4 S' U W h'=>⟨B,n,S.trans S',U,W,h'⟩,hq.rt.kp S0,hq.nx.kp S0,λB n Q H4 S' U W h'=>⟨B,n,S.trans S',U,W,h'⟩⟩;exact hx.elim;exact hx.elim
def Kq{g:AGs}{tb:AS}{k:ASt->M->Prop}{r:AV->M->Prop}{kvs:oA<|oA Key×AV}{τ:ASt}{b:M}(I:Nat->ASt->M->Prop)(h0:I 0 τ b)
  (step:∀i p τ b (W:ASt->M->Prop),kvs[i]?=some p->I i τ b->(∀ j c,I (i+1) j c->W j c)->g [.D<|.tuple<|p.1.map LW,p.2] τ b λm t=>tb W r k W m t)
  (done:∀ τ b,I kvs.length τ b->k τ b):OY g tb k r kvs τ b:=by
 have l:∀n i τ b,n+i=kvs.length->I i τ b->OY g tb k r (kvs.drop i) τ b:=by
  intro n
  induction n with
  |zero=>
   intro i τ b u q;have e:i=kvs.length:=by omega
   subst e;rw[dO];exact done τ b q
  |succ n x=>
   intro i τ b u q;have hi:i<kvs.length:=by omega
   rw[bR hi];exact step i _ τ b _ (K_ hi) q λj c h=>x (i+1) j c (by omega) h
 have:=l kvs.length 0 τ b (by omega) h0;rwa[gR]at this
def Rk(b:(d==sysModules)=false):MeetsIn prog w (Builtin.«dict.values» ⟨[.ref d],[]⟩) (λ_ R s=>(∃es ep,Et s.heap d es ep)/\R (.ok<|.ret<|.ref s.heap.objs.size) {s with heap:=s.heap.push {cls:=.type "dict_values",data:=.fields #[.ref d]}}) :=
 .of_wp λA R s ⟨⟨_,_,hm⟩,h⟩=>A_<|by
  unfold Builtin.Dict.noArgs;refine A_<|gN hm.ty<|show wpAny _ _ (pure d) _ _ s from C_<|show wpAny _ _ (Builtin.Dict.showsAll d>>=_) _ _ s from ?_;simp only[Builtin.Dict.showsAll,b,Bool.false_eq_true,ite_false];exact A_<|C_<|A_<|aJ<|C_ ⟨_,rfl,h⟩
def HB:Builtin.Dict_items.ownsTuple "dict_valueiterator" = false:=by decide
def Rl{Q:lJ->lK->Prop}(hv:s.heap.IsValuesView v d)(hm:Et s.heap d es ep)
  (q:Q (.ref s.heap.objs.size) {s with heap:=s.heap.push {cls:=.type "dict_valueiterator",data:=.fields #[.ref d,.int 0 0,.int es.size 0,.int ep 0]}}):yL prog w A (pyIter<|.ref v) Q E s:=by
 obtain⟨ov,g,_,e⟩:=id hv;obtain⟨od,c,_,b⟩:=id hm;refine fS hv.typeIs F.slot_dict_values_iter<|aW F.slot_dict_values_iter hv.typeIs F.entry_dict_values_iter (A_<|C_<|A_<|A_<|aH g e (x:=.ref d) rfl<|C_<|A_<|A_<|dH c b<|A_<|fA c b ?_)<|F.args_dict_values_iter_1 _
 simp only[HB,Bool.false_eq_true,if_false];exact aJ<|C_ ⟨_,rfl,_,_,⟨_,O_ _ rfl,rfl⟩,F.slot_dict_valueiterator_next.lookup,by simpa [rawInt] using q⟩
def Mb{Q:oB lJ->lK->Prop}(t:A.handled=none)(c:s.heap.IsValIter it d i es.size ep)(hm:Et s.heap d es ep)
  (more:∀hi:i<es.size,∀h,h.IsValIter it d (i+1) es.size ep->Heap.SameBut it s.heap h->Q (some es[i].val) {s with heap:=h})
  (j:es.size<=i->∀h,Heap.ExtBut it s.heap h->Q none {s with heap:=h}):yL prog w A (pyNext<|.ref it) Q E s:=by
 obtain⟨y,n,x,l⟩:=id c;obtain⟨od,r,_,q⟩:=id hm;unfold pyNext;refine A_<|d_<|aV (name:=Str.ofString "__next__") c.typeIs F.slot_dict_valueiterator_next<|aW F.slot_dict_valueiterator_next c.typeIs F.entry_dict_valueiterator_next
  (A_<|C_<|A_<|A_<|A_<|gE c.typeIs<|C_<|A_<|eV n l ?_)  (F.args_dict_valueiterator_next_1 _)
 have u:(Value.ref d==Value.none)=false:=rfl;simp only[HB,List.drop_zero,List.take_succ_cons,List.take_zero,u,Bool.false_eq_true,if_false];refine A_<|C_<|A_<|dH r q ?_;rw[H_<|by simp];refine A_<|C_<|A_<|fA r q ?_;rw[H_<|by simp];refine C_ ?_;simp only[Int.not_lt.2<|Int.natCast_nonneg i,if_false,Int.toNat_natCast];by_cases hi:i<es.size;rw[bQ hi];refine A_ (A_<|gE c.typeIs<|C_<|A_<|jJ c.typeIs<|show wpAny _ _ (setField (.ref it) 1 (rawInt<|(i:Int)+1)>>=_) _ _ s from A_<|bI n l (by simp) ?_);generalize e:s.heap.update it _=g;have p:g.IsValIter it d (i+1) es.size ep:=by rw[<- e];exact⟨_,Y_ _ n<|cW<|aY l _,(iY ..).trans x,(aY l _).trans<|by simp[rawInt]⟩
 have ty:=Heap.IsValIter.typeIs (s:={s with heap:=g}) p;exact A_<|bM<|A_<|jJ ty<|A_<|jJ ty<|show wpAny _ _ (pure es[i].val) _ _ _ from C_<|C_ ⟨_,rfl,C_<|more hi _ p<|e ▸ bF ..⟩;rw[gI<|kL.1 hi];refine A_ (A_<|gE c.typeIs<|C_<|show wpAny _ _ (setField (.ref it) 0 .none>>=_) _ _ s from A_<|bI n l (by simp)<|show wpAny _ _ (newExc (.type "StopIteration") []>>=_) _ _ _ from A_ ?_);simp only[newExc,newTuple];refine A_ (aJ (A_ (m:=firstArgMember _ _)<|eF (a:=Value.none) rfl<|aJ ?_<|by size_fits)<|by size_fits);simp only[raiseNew];refine A_<|gZ ?_;simp only[show A.in1.handled=A.handled from rfl,t];refine A_ <|C_ <|jU ?_;exact A_ <|eG (T := "StopIteration") (b:=true) ⟨_,O_ _ rfl,rfl⟩ jB (C_<|j (kL.1 hi) _<|((bF ..).extBut.push _).push _)
def Vit(d:lM)(od:lT)(ws:oA<|oA Key×V):It :=
 ⟨λi H=> H d = some (.frz od<|.dT ws) /\ i<ws.length,
  λi H v b=> ∃ k, ws[i]? = some (k, v) /\ b = H,
  λi H=> H d = some (.frz od<|.dT ws) /\ ws.length = i⟩
def Pc{P:lO}{w:lP}{K:lN}{tg:lQ}(d it:lM)(od:lT)(ws:oA<|oA Key×V)(es:oC DictEntry)(ep:Nat)(p:od.data=.dict es ep)(hsz:es.size=ws.length) :
  Turn P w K tg (Vit d od ws) [it] it (λi h=>h.IsValIter it d i es.size ep) where
 mem:=by simp
 obj:=λi h st b hb=>by
  have e:b=it:=by simpa using hb
  subst e;obtain⟨o,j,_,F⟩:=st;exact⟨o,j,λv z=>by rw[F]at z;cases z⟩
 keep:=λi h u st k=>st.at λo e=>k it (by simp) o e
 item:=by
  intro X x m D hc i aa s σ H E I r st B;subst x m D;obtain⟨y,c9⟩:=B;obtain⟨j,z,F,t,g,o,C,G,h1,h2,n,O,h5⟩:=(show Bh X.prog X.w H s.heap d (.frz od<|.dT ws) from I.hok d _ y);rw[j]at h1;cases h1;rw[p]at n;cases n;have J:i<es.size:=by omega
  have W:=bL g;have hx:t[i]?=some t[i]:=K_ (by omega);have m:ws[i]?=some ws[i]:=K_ c9;obtain⟨x',L,r1,r2,Z⟩:=D9 g m;rw[hx]at L;cases L;have i8:es[i]=entryOfKey (tupleKind<|Bx X.prog X.w) t[i]:=by have M:=bV (λl=>l[i]?) O;simp only[Array.getElem?_toList,Array.getElem?_eq_getElem J,List.getElem?_map,hx,Option.map_some]at M;exact bC M
  refine Mb (I.ok.hd hc) st ⟨od,j,h2,p⟩ (λ_ u N Y=>?_) λz=>absurd J<|kL.2 z;obtain⟨T,f1,f2,f3,U,f5⟩:=r it (by simp);have I1:Inv X aa σ H {s with heap:=u}:=I.turned (t':=s.toks) (λb o hb e=>(Y.2 b hb).trans e) T f1 f3 U f5;obtain⟨o,e,c,dd⟩:=id N;refine⟨_,rfl,N8 (s:={s with heap:=u}) e c dd (by decide) ⟨ws[i].2,H,I1,?_,⟨ws[i].1,m,rfl⟩,N,λb hb=>(r b hb).1⟩⟩;rw[i8];exact Z
 done:=by intro X x m D hc i aa s σ H E I r st B;subst x m D;obtain⟨y,rfl⟩:=B;obtain⟨j,z,F,t,g,o,C,G,h1,h2,n,O,h5⟩:=(show Bh X.prog X.w H s.heap d (.frz od<|.dT ws) from I.hok d _ y);rw[j]at h1;cases h1;rw[p]at n;cases n;rw[<- hsz]at st;exact Mb (I.ok.hd hc) st ⟨od,j,h2,p⟩ (λz=>absurd z<|cP _) λ_ u S=>⟨rfl,I.turnedL (t':=s.toks) (fp:=[it]) (λb o hb e=>S b o (λq=>hb<|by simp[q]) e) r⟩
 self:=λA i s Q E st h=>wpAny_pyIter_valiter st h
def Inv.notFrz{a:lM}{ws:oA<|oA Key×V}(I:Inv X aa σ H s)(e:H a=some (.dT ws)):∀o u,X.H₀ a≠some (.frz o u):=λo u z=>by have:=I.base.frzs a o u z;rw[e]at this;cases this
def Inv.thawT{a:lM}{od:lT}{ws:oA<|oA Key×V}(I:Inv X aa σ H s)(e:H a=some (.frz od<|.dT ws))(hn:∀o u,X.H₀ a≠some (.frz o u)):Inv X aa σ (upd H a<|.dT ws) s:=by
 have l:∀{b:lM},H b=none->b≠a:=λh z=>by rw[z,e]at h;cases h
 have m:∀{b:lM} {xs:oA V},H b=some (.tup xs)->b≠a:=λh z=>by rw[z,e]at h;cases h
 have B:∀{b y:lM},H b=some (.own y)->b≠a:=λh z=>by rw[z,e]at h;cases h
 refine⟨I.ok,I.os,I.bare,⟨I.base.keep,I.base.slot,λb o h1 h2 j=>?_,I.base.there,λb xs h=>?_,λb o u h=>?_,λb F h=>?_⟩,I.loc,I.cell,?_,λx c h=>?_,λp hp=>?_,λb u q=>?_,I.len⟩;have:=I.base.free b o h1 h2 j;rw[An<|l this];exact this;have:=I.base.tups b xs h;rw[An<|m this];exact this;have:=I.base.frzs b o u h;rw[An<|by rintro rfl;exact hn o u h];exact this;obtain⟨g,this⟩:=I.base.tbls b F h;exact⟨g,by rw[An λz=>by rw[z,e]at this;cases this];exact this⟩;rw[An<|l I.free];exact I.free;rw[An<|l<|I.freeC x c h];exact I.freeC x c h;obtain⟨h1,h2,j⟩:=I.pin p hp;exact⟨h1,by rw[An<|l h2];exact h2,j⟩;by_cases hb:b=a;subst hb;rw[A3]at q;cases q;obtain⟨L,z,C,xs,n,o,es,ep,h1,h2,j,G,D⟩:=(show Bh X.prog X.w H s.heap b (.frz od<|.dT ws) from I.hok b _ e);exact⟨z,C,xs,KT.keeps (show KT H ws xs from n) λc J t=>by rw[An<|m t];exact t,o,es,ep,h1,h2,j,G,D⟩;rw[An hb]at q;exact(I.hok b u q).stay (λc v _ r=>r) (λc r=>by rw[An<|B r];exact r) λc xs r=>by rw[An<|m r];exact r
def Rm:GJ X "dict.values" (λx n H Q=>∃a g,x=.ref a/\n=[]/\H a=some (.dT g)/\∀v,H v=none->Q (.ref v) (upd H v<|.ext λh=>h.IsValuesView v a)):=by intro aa s σ H x u v B Q I j r h;obtain⟨a,g,rfl,rfl,ha,q⟩:=h;cases j;have m:=Vals.zero r;subst m;obtain⟨hz,c,t,p,o,es,ep,h1,h2,l,C,_⟩:=Ob I.hok ha;have hm:Et s.heap a es ep:=⟨o,h1,h2,l⟩;refine iT PySem.F.slot_dict_values hm.ty PySem.F.entry_dict_values (PySem.F.args_dict_values_1 _) (Rk c) ⟨⟨es,ep,hm⟩,?_⟩;refine⟨.ref s.heap.objs.size,_,I.laid (t':=s.toks) (o:=.ext λh=>h.IsValuesView s.heap.objs.size a) (λb y q=>DD _ q) (F_ _) ?_,rfl,q _<|I.hok.fresh<|F_ _⟩;exact⟨⟨_,O_ _ rfl,rfl,rfl⟩,⟨_,O_ _ rfl⟩,by rintro h1 h2 ⟨o,e,r⟩ k;exact ⟨o,k o e,r⟩⟩
def TU:V->oA V->Hp->VK->Prop:=λx c H Q=>∃a b,x=.ref a/\c=[]/\H a=some (.dT b)/\∀v,H v=none->Q (.ref v) (upd H v<|.ext λh=>h.IsValuesView v a)
def iVa(X:Cx)(td:TE):TI:=λσ H R=>JM X.K "dict" TU td σ H λv b=>∃a ws vv,v=.ref vv/\b vv=some (.ext λh=>h.IsValuesView vv a)/\b a=some (.dT ws)/\∀od,(∀o u,X.H₀ a≠some (.frz o u))->R (Vit a od ws) (upd b a<|.frz od<|.dT ws)
def Ve{td:TE}(G:PE X o td)(y:attributeBase o "values" X.env (eval o X.env)=eval o X.env:=by rfl) (D:(au.endLine==ak.line)=true:=by rfl) :
  PI X tg (.Call (.Attribute o "values" au) [] [] ak) (iVa X td):=by
 intro aa s σ H R I h;refine thn (Mr (T := "dict") (r:=TU) f_ PySem.F.slot_dict_values PySem.F.type_dict_values Rm G y D aa s σ H _ I h) λv c J=>?_;obtain⟨x,n,j,B,a,ws,vv,rfl,hv,ha,q⟩:=J;cases B;obtain⟨g,_,_⟩:=(show Bh X.prog X.w n c.heap vv (.ext λh=>h.IsValuesView vv a) from j.hok vv _ hv);obtain⟨hz,u,N,p,od,es,ep,h1,h2,t,L,M⟩:=(show Bh X.prog X.w n c.heap a (.dT ws) from j.hok a _ ha);refine Rl g ⟨od,h1,h2,t⟩ ?_;have m:es.size=ws.length:=by have e:=bV List.length L;rw[B_]at e;rw[bL p,<- e];simp
 have C:=j.kept (t':=c.toks) (h':=c.heap.push {cls:=.type "dict_valueiterator",data:=.fields #[.ref a,.int 0 0,.int es.size 0,.int ep 0]}) λb O e=>DD _ e;have l:=j.hok.fresh<|F_ c.heap.objs.size;have f:=j.fpOk (F_ _) l;refine⟨c.heap.objs.size,[c.heap.objs.size],_,_,upd n a<|.frz od<|.dT ws,rfl,C.freezeT ha<|DD _ h1,Pc a _ od ws es ep t m,⟨_,O_ _ rfl,rfl,rfl⟩,λb hb=>?_,q od<|j.notFrz ha⟩;have e:b=c.heap.objs.size:=by simpa using hb
 subst e;exact⟨by rw[An λz=>by rw[z]at l;rw[ha]at l;cases l];exact f.1,f.2⟩
def Qbb(e:H a=some (.frz od<|.dT ws)){b:lM}{xs:oA V}(h:H b=some (.tup xs)):upd H a (.dT ws) b=some (.tup xs):=by rw[An λz=>by rw[z,e]at h;cases h];exact h
def MB(e:H a=some (.frz od<|.dT ws)){b:lM}{o:lT}{u:HO}(hu:∀w,u≠.dT w)(h:H b=some (.frz o u)):upd H a (.dT ws) b=some (.frz o u):=by rw[An λz=>by rw[z,e]at h;injection h with h;injection h with _ h;exact hu _ h.symm];exact h
def V5.th(e:H a=some (.frz od<|.dT ws)){b:lM}{xs:oA V}(h:V5 K H b xs):V5 K (upd H a<|.dT ws) b xs:=by rcases h with⟨o,h⟩|h;exact .inl ⟨o,MB e (λ_ z=>nomatch z) h⟩;exact .inr h
def Uq.th(e:H a=some (.frz od<|.dT ws)){b:lM}{ds:oA lL}{xs:oA V}(h:Uq K H b ds xs):Uq K (upd H a<|.dT ws) b ds xs:=by rcases h with h|h;exact .inl<|Qbb e h;exact .inr h
mutual
theorem Dk.th(e:H a=some (.frz od<|.dT ws)):∀(d:lL) (x:V),Dk K H d x->Dk K (upd H a<|.dT ws) d x
 |.none,x,h=>by simp only[Dk]at h ⊢;exact h
 |.bool b,x,h=>by simp only[Dk]at h ⊢;exact h
 |.int i,x,h=>by simp only[Dk]at h ⊢;exact h
 |.str z,x,h=>by simp only[Dk]at h ⊢;exact h
 |.list g,x,h=>by simp only[Dk]at h ⊢;obtain⟨a,c,j,q,r⟩:=h;exact⟨a,c,j,q.th e,Ap.th e g c r⟩
 |.tuple g,x,h=>by simp only[Dk]at h ⊢;obtain⟨a,c,j,q,r⟩:=h;exact⟨a,c,j,q.th e,Ap.th e g c r⟩
 |.dict _,x,h=>by simp only[Dk]at h
theorem Ap.th(e:H a=some (.frz od<|.dT ws)):∀(ds:oA lL) (xs:oA V),Ap K H ds xs->Ap K (upd H a<|.dT ws) ds xs
 |[],xs,h=>by simp only[Ap]at h ⊢;exact h
 |d::ds,xs,h=>by simp only[Ap]at h ⊢;obtain⟨x,r,b,h1,h2⟩:=h;exact⟨x,r,b,Dk.th e d x h1,Ap.th e ds r h2⟩
end
theorem XFs.th(e:H a=some (.frz od<|.dT ws)){d:oB lM}{c:oA<|Str×lL}(h:XFs K H d c):XFs K (upd H a<|.dT ws) d c:=by
 cases d with
 |none=>exact h
 |some d=>obtain⟨od,b,q,r⟩:=h;exact⟨od,b,MB e (λ_ z=>nomatch z) q,Paired.mapP r λp q r=>⟨r.1,Dk.th e _ _ r.2⟩⟩
theorem RelA.th(e:H a=some (.frz od<|.dT ws)):∀{x:AV} {v:V},RelA K H x v->RelA K (upd H a<|.dT ws) x v
 |.D d,v,h=>Dk.th e d v h
 |.R a,_,h=>h
 |.C j,v,⟨b,g,c,q,r⟩=>⟨b,g,c,q,Ap.th e j g r⟩
 |.X C l,v,⟨b,o,d,c,q,r⟩=>⟨b,o,d,c,MB e (λ_ z=>nomatch z) q,r.th e⟩
theorem Jp.th(e:H a=some (.frz od<|.dT ws)){m:MO}{o:HO}(h:Jp K H m o):Jp K (upd H a<|.dT ws) m o:=by
 cases m with
 |lst j=>obtain⟨b,g,r⟩:=h;exact⟨b,g,Paired.mapP r λ_ _ q=>q.th e⟩
 |dk j=>obtain⟨b,g,r⟩:=h;exact⟨b,g,Paired.mapP r λ_ _ q=>⟨q.1,q.2.th e⟩⟩
 |dt j=>obtain⟨b,g,r⟩:=h;exact⟨b,g,Paired.mapP r λ_ _ q=>⟨q.1,q.2.th e⟩⟩
 |dd j=>obtain⟨b,g,r⟩:=h;exact⟨b,g,Paired.mapP r<|by rintro _ _ ⟨x,y,c,v,r,q⟩;exact ⟨x,y,Dk.th e _ _ c,v,r.th e,q⟩⟩
def TV(X:Cx)(t:TE):TE:=λσ H Q=>t σ H λv b=>∃a od ws,b a=some (.frz od<|.dT ws)/\(∀o u,X.H₀ a≠some (.frz o u))/\Q v (upd b a<|.dT ws)
def EO{e:lQ}{t:TE}(h:PE X e t):PE X e (TV X t):=by intro aa s σ H Q I hq;refine thn (h aa s σ H _ I hq) λv m b=>?_;obtain⟨x,c,l,g,a,od,ws,e,j,q⟩:=b;exact⟨x,upd c a<|.dT ws,l.thawT e j,g,q⟩
def MC(mp:oA<|oB Nat)(td:AE)(g:AG)(tst:AT)(te:AE):AE:=λh j R=>td h j λx b=>match x with
 |.R a=>opt (b a) λm=>match m with
  |.dt c=>∀p,b p=none->cl p g tst te (λ_=>True) (λe=>R (.R p)<|Ao e a<|.dt c) (c.map (·.2)) [] (KC mp h) (Ao (Ck b a) p<|.lst [])
  |_=>False
 |_=>False
def Pd{td:AE}{g:AG}{tst:AT}{te:AE}(hc:X.calm=true)(hd:VE X o td)(hg:∀C s H r,VG (Bj X N' scope C s H r) tg g)(ht:∀C s H r,VIfs (Bj X N' scope C s H r) dc tst)(he:∀C s H r,VE (Bj X N' scope C s H r) d6 te)
  (ok:CompOkC X.N X.env.scope.names scope.names N' mp) (hk:scope.kind=.function:=by rfl) (hs:∀x,foldedSetIterable (.Call (.Attribute o "values" au) [] [] ak) X.env x=pure x:=by intro _;rfl)
  (be:attributeBase o "values" X.env (eval o X.env)=eval o X.env:=by rfl) (bf:(au.endLine==ak.line)=true:=by rfl) :
  VE X (.ListComp d6 [⟨tg,.Call (.Attribute o "values" au) [] [] ak,dc,0⟩] scope pos) (MC mp td g tst te) :=
 (EO<|Pb (g:=cG X.K g) (tst:=cT X.K tst) (te:=cE X.K te) hc (Ve hd be bf) (λC s H r=>hg C s H r) (λC s H r=>ht C s H r) (λC s H r=>he C s H r) ok hk hs).imp λσ H Q zz=>B5 zz λτ μ R bg hcn h hq=>by
 refine⟨τ,μ,_,bg,hcn,h,λx μ1 v I S1 c1 rx hx=>?_⟩;split at hx;rename_i a;obtain⟨m,em,hx⟩:=A5 hx;split at hx;rename_i n;obtain⟨ob,P,ws,rfl,rk⟩:=c1 _ _ em;cases (show v=.ref a from rx);refine⟨.inr<|.inr<|.inl ⟨rfl,.inr ⟨ws,P⟩⟩,a,ws,rfl,rfl,P,λvv kd=>?_⟩;have nav:a≠vv:=λz=>by rw[z]at P;rw[P]at kd;cases kd
 have du:upd I vv (.ext λh=>h.IsValuesView vv a) a=some (.dT ws):=by rw[An nav];exact P
 refine⟨a,ws,vv,rfl,A3,du,λod hnf=>?_⟩;have M:Kp I (upd (upd I vv<|.ext λh=>h.IsValuesView vv a) a<|.frz od<|.dT ws):=(Kp.new kd _).trans<|Kp.put du trivial _;have c2:Cn X.K (Ck μ1 a) (upd (upd I vv<|.ext λh=>h.IsValuesView vv a) a<|.frz od<|.dT ws):=λb m' e=>by
  have O:b≠a:=λz=>by rw[z]at e;unfold Ck at e;rw[P_ rfl]at e;cases e
  rw[Bb O]at e;obtain⟨o',e',r'⟩:=c1 b m' e;exact⟨o',by rw[An O,An<|Bw e' kd];exact e',r'.kp M⟩
 have ie:upd (upd I vv<|.ext λh=>h.IsValuesView vv a) a (.frz od<|.dT ws) a=some (.frz od<|.dT ws):=A3;have n8:=rk.kp M;have W:∀b,upd (upd I vv<|.ext λh=>h.IsValuesView vv a) a (.frz od<|.dT ws) b=none->I b=none:=λb e=>by by_cases h1:b=a;rw[h1,A3]at e;cases e;rw[An h1]at e;by_cases h2:b=vv;rw[h2,A3]at e;cases e;rw[An h2]at e;exact e
 generalize upd (upd I vv<|.ext λh=>h.IsValuesView vv a) a (.frz od<|.dT ws)=H2 at M c2 ie n8 W;have hl:=bL n8;intro p hp;have hx:=hx p<|c1.none<|W p hp;have c0':Cn X.K (Ao (Ck μ1 a) p<|.lst []) (upd H2 p<|.lst []):=c2.new hp<|Dh .nil;have Y:Kp H2 (upd H2 p<|.lst []):=Kp.new hp _;have kc:(n.map (·.2)).length=ws.length:=by rw[B_];exact hl
 refine R9 ws.length (λi B F y=>∃ j c as,Kp H2 y/\Dq X.K y j F/\Cn X.K c y/\A4 X.K y as B/\cl p g tst te (λ_=>True) (λμ2=>R (.R p)<|Ao μ2 a<|.dt n) ((n.map λq:oA Key×AV=>q.2).drop i) as j c) ⟨_,_,[],Y,(((bg.kp S1).kp M).kp Y).sub mp,c0',.nil,hx⟩ ?_ ?_ ?_;rintro i B F y hi ⟨j,c,as,G,b0,D,ra,h1⟩;exact⟨G.f _ _ _ ie,hi⟩;rintro B F y ⟨j,c,as,G,b0,D,ra,h1⟩;rw[<- kc,dO]at h1;have kg:=G.f _ _ _ ie;refine⟨⟨kg,rfl⟩,a,od,ws,kg,hnf,?_⟩;have K1:∀b xs,y b=some (.tup xs)->upd y a (.dT ws) b=some (.tup xs):=λb xs e=>by rw[An λz=>by rw[z,kg]at e;cases e];exact e
 have K2:Kp I (upd y a<|.dT ws):=⟨λb xs e=>K1 b xs<|G.t _ _<|M.t _ _ e,λb o' u e=>by
  rw[An λz=>by rw[z,P]at e;cases e];exact G.f _ _ _<|M.f _ _ _ e⟩
 refine hq _ _ _ _ (S1.trans K2) (λb m' e=>?_) Ea h1.2;by_cases O:b=a;subst O;rw[Ab]at e;cases e;exact⟨_,A3,ws,rfl,rk.kp K2⟩;rw[Ag O]at e;obtain⟨o',e',r'⟩:=D b m' e;exact⟨o',by rw[An O];exact e',r'.th kg⟩;rintro i v' B F y Z hi ⟨j,c,as,G,b0,D,ra,h1⟩ ⟨k,hw,rfl⟩;have kb:i<(n.map (·.2)).length:=by omega
 rw[bR kb]at h1;obtain⟨_,h1⟩:=h1;have hi3:i<n.length:=by rw[B_]at kb;exact kb
 obtain⟨q',e1,r1,r2⟩:=D9 n8<|K_ hi3;rw[hw]at e1;cases e1;rw[List.getElem_map]at h1;refine⟨_,j,c,_,r2.kp G,b0,D,h1,λJ μ3 σ3 H3 S4 fm hc3 h3=>⟨J,μ3,_,fm,hc3,h3,λk U H4 T c4 h4=>?_⟩⟩;rcases br_e h4 with⟨rfl,L⟩|⟨rfl,L⟩;rw[P_ rfl];refine⟨J,U,_,fm.kp T,c4,L,λw μ5 u H5 S6 c5 rw h5=>?_⟩;obtain⟨e5,ku,h5⟩:=h5;obtain⟨o5,l,vs,rfl,rs⟩:=c5 _ _ e5;have S:Kp Z H5:=S4.trans<|T.trans S6;exact⟨vs,l,by rw[<- rs.length];exact ku,J,_,_,(G.trans S).trans<|Kp.put l trivial _,(fm.kp<|T.trans S6).kp<|Kp.put l trivial _,c5.put l trivial (Dh<|rs.append<|.cons rw .nil),(rs.append<|.cons rw .nil).kp<|Kp.put l trivial _,h5⟩;rw[H_ U_];have S:Kp Z H4:=S4.trans T;exact⟨J,U,as,G.trans S,fm.kp T,c4,ra.kp S,L⟩;exact hx.elim;exact hx.elim
end
section
variable {prog:lO}{w:lP}{A:lR}{R:lZ->lK->Prop}{I S:lM}{fp wr:oA lM}{n:Nat}{P:Nat->lJ->Prop}{St:Nat->lS->Prop}{h0:lS}{φ:Prop}{f:lJ->Int}{X:Cx}{k:Nat}
def Ie(h0 h:lS):Prop:=∀b o,h0.get? b=some o->h.get? b=some o
def Y9(W:Walks prog w A.in1 I fp wr n P St)(Y:S∉fp)(H:h0.objs.size<=S)(Z:∀b∈wr,h0.objs.size<=b)(hc:∀i j u v (s:lK),P i u->P j v->Ie h0 s.heap->∃r,Yh A.in1 s u v r/\(φ->r=decide (f u<f v)))(Q:∀i u v,P i u->P i v->u=v) :
  ∀(k j:Nat) (s:lK) (d:oB lJ) (c:Nat),j+k=n->(d=none->0<k/\j=0)->(∀v,d=some v->(∃i,P i v)/\(φ->∀i<j,∀u,P i u->f v<=f u))->St j s.heap->Ie h0 s.heap ->
  s.heap.get? S=some {cls:=.type "list",data:=.seq (d.elim #[] λv=>#[v,v]) c} ->
  (∀i v m C,P i v->(φ->∀i<n,∀u,P i u->f v<=f u)->Ie h0 m->R (.ok<|.ret v) {s with heap:=m,toks:=C}) ->
  codeAny (model prog w) A (.builtin "min.loop" ⟨[.ref I,.none,.ref S],[]⟩) R s:=by
 have O:∀{b o},h0.get? b=some o->b∉wr:=λe z=>absurd (Q_ e)<|kL.2<|Z _ z;have nS:∀{b o},h0.get? b=some o->S≠b:=λe z=>absurd (Q_ e)<|kL.2<|z ▸ H;have V:S∉wr:=λz=>Y<|W.sub _ z;have J:∀{h:lS} (f:lT->lT),Ie h0 h->Ie h0 (h.update S f):=λf q b o e=>(aD _ _<|nS e).trans<|q b o e;have L:(toString "min" ++ toString ".loop" : String) = "min.loop" := by decide
 have hz:∀d:oB lJ,(d.elim #[] λv=>#[v,v]).size<=sizeLine:=λd=>by cases d<;>exact(by decide:2<=sizeLine) |> I_ (by first|exact bH _|exact F_ _)
 intro k
 induction k with
 |zero=>
  intro j s d c hj h1 h2 st g B q;obtain⟨l,rfl⟩:∃l,d=some l:=by
   cases d with
   |none=>exact absurd (h1 rfl).1 (cP _)
   |some v=>exact⟨v,rfl⟩
  obtain⟨⟨i,hi⟩,hm⟩:=h2 _ rfl;rw[show j=n from hj]at hm;refine e_ F.entry_min_loop ?_;rw[eQ F.plain_min_loop _];refine(show wpAny _ A.in1 (seqItems? (.ref S)>>=_) _ _ s from A_<|gA B rfl<|show wpAny _ A.in1 (tryCatch (pyNext<|.ref I) _>>=_) _ _ s from A_<|wpAny_tryCatch<|W.done s _ _ (by rw[<- hj];exact st) λm C t=>?_);exact(show wpAny _ A.in1 (updateSeq S (λ_=>#[])>>=_) _ _ _ from A_<|fO (t S _ V B) rfl (hz:=hz _)<|A_<|iN<|C_<|q i l _ C hi hm<|J _ λb o e=>t b o (O e)<|g b o e)
 |succ k M=>
  intro j s d c hj h1 h2 st g B q;refine e_ F.entry_min_loop ?_;rw[eQ F.plain_min_loop _];refine(show wpAny _ A.in1 (seqItems? (.ref S)>>=_) _ _ s from A_<|gA B rfl<|show wpAny _ A.in1 (tryCatch (pyNext<|.ref I) _>>=_) _ _ s from A_<|wpAny_tryCatch<|W.item j s _ _ (by omega) st λv m C p T t=>?_);have E:=t S _ V B;have G:Ie h0 m:=λb o e=>t b o (O e)<|g b o e;have D:∀f,St (j+1) (m.update S f):=λf=>W.frame _ _ _ T λb hb o e=>(aD _ _ λz:S=b=>Y<|z ▸ hb).trans e;cases d with
  |none=>
   refine(show wpAny _ A.in1 (updateSeq S (λ_=>#[v,v])>>=_) _ _ _ from A_<|fO E rfl (hz:=hz _) ?_);rw[L];have h5:∀u,some v=some u->(∃i,P i u)/\(φ->∀i<j+1,∀x,P i x->f u<=f x):=λu e=>by
    cases e;refine⟨⟨j,p⟩,λ_ i hi u hu=>?_⟩;obtain rfl:i=j:=by have:=(h1 rfl).2;omega
    rw[Q _ u _ hu p];exact jX _
   exact C_ ⟨fV F.plain_min_loop _,M (j+1) _ (some v) _ (by omega) (λz=>nomatch z) h5 (D _) (J _ G) (Y_ _ E rfl) q⟩
  |some l=>
   obtain⟨⟨i,hi⟩,hm⟩:=h2 l rfl;have N:∀x y,P j y->(φ->f x<=f l)->(φ->f x<=f y)->φ->∀i<j+1,∀u,P i u->f x<=f u:=λx y hy a1 a2 a i hi u hu=>by rcases Nat.lt_succ_iff_lt_or_eq.mp hi with z|rfl;exact Int.le_trans (a1 a)<|hm a i z u hu;rw[Q _ u _ hu hy];exact a2 a
   obtain⟨r,hr,U⟩:=hc j i v l {s with heap:=m,toks:=C} p hi G;refine(show wpAny _ A.in1 (tryCatch (holding [v,v]<|richCompare .Lt v l>>=_) _>>=_) _ _ _ from A_<|wpAny_tryCatch<|bM<|A_<|hr prog w _ _ ?_);refine A_<|bM<|dG<|A_<|iN<|C_ ?_;cases r with
   |true=>simp only[if_true];refine A_<|fO E rfl (hz:=hz _)<|A_<|iN ?_;rw[L];exact C_ ⟨fV F.plain_min_loop _,M (j+1) _ (some v) _ (by omega) (λz=>nomatch z) (λu e=>by cases e;exact⟨⟨j,p⟩,N _ _ p (λa=>Int.le_of_lt<|aC (U a).symm) λ_=>jX _⟩) (D _) (J _ G) (Y_ _ E rfl) q⟩
   |false=>simp only[Bool.false_eq_true,if_false];refine A_<|iN ?_;rw[L];exact C_ ⟨fV F.plain_min_loop _,M (j+1) _ (some l) _ (by omega) (λz=>nomatch z) (λu e=>by cases e;exact⟨⟨i,hi⟩,N _ _ p (λ_=>jX _) λa=>Int.not_lt.mp<|eI (U a).symm⟩) T G E q⟩
def Za{E:lJ->lK->Prop}{s:lK}{p:lM}{c:oA lJ}{Q:lJ->lK->Prop}(C:A.handled=none)(m:s.heap.IsList p c.toArray)(hn:0<c.length)(hc:∀u∈c,∀v∈c,∀h:lK,Ie s.heap h.heap->∃r,Yh A.in1 h u v r/\(φ->r=decide (f u<f v)))
  (q:∀v∈c,(φ->∀u∈c,f v<=f u)->∀l t,Ie s.heap l->Q v {s with heap:=l,toks:=t}):yL prog w A (call (.builtin "min") [.ref p]) Q E s:=by
 have hp:p<s.heap.objs.size:=by obtain⟨_,H,_⟩:=m;exact Q_ H
 have G:p≠s.heap.objs.size:=aM hp;refine call_function_tree F.kind_min F.plain_min F.entry_min (F.args_min1 _)<|show wpAny _ A.in1 (Builtin.Builtins.bindParams "min" ["key","default"] 0 ⟨[],[]⟩>>=_) _ _ s from A_<|eF (show _=pure [none,none] from rfl)<|A_<|C_<|A_<|iW m<|A_<|aJ ?_;rw[show(toString "min" ++ toString ".loop" : String) = "min.loop" by decide];have d:∀{i:Nat} {v},c.toArray[i]?=some v->v∈c:=λ{i v} e=>aA (i:=i) (by simpa using e);have y:Ie s.heap (s.heap.push {cls:=.type "list_iterator",data:=.fields #[.ref p,.int 0 0]}):=λb o e=>DD _ e;refine C_ ⟨fV F.plain_min_loop _,Y9 (h0:=s.heap) (Walks.list (show A.in1.handled=none from C) s.heap.objs.size p G c.toArray) ?_ ?_ ?_ (λi j u v h hi hj g=>hc u (d hi) v (d hj) h g) (λi u v D x=>by rw[D]at x;exact bC x) c.toArray.size 0 _ none 0 (kJ _) (λ_=>⟨by simpa using hn,rfl⟩) (λv e=>nomatch e) ?_ ?_ (O_ _ rfl) λi v l t B hm g=>q v (d B) (λa u hu=>by obtain⟨k,hk,e⟩:=dU hu;exact hm a k (by simpa using hk) u<|by rw[<- e];simp[hk]) l t g⟩;intro z;rw[cB]at z;rcases aK.mp z with z|z;exact absurd z<|jM _;exact absurd (G_.mp z)<|dX<|cY hp;rw[cB];exact cF _;exact λb hb=>by rw[G_.mp hb];exact F_ _
 exact⟨⟨_,DD _<|O_ _ rfl,rfl,rfl⟩,m.at λo e=>DD _<|y _ _ e⟩
 exact λb o e=>DD _<|y b o e
def HC:AC:=λh c R=>match h with
 |[.R a]=>opt (c a) λm=>match m with
  |.lst g=>opt (dats g) λb=>(0<b.length/\∀d∈b,Cb d/\∀e∈b,cmpb d e=true)/\∀d∈b,((∀e∈b,∃j,e=.int j)->∀i j,d=.int i->.int j∈b->i<=j)->R (.D d) c
  |_=>False
 |_=>False
def Zb(hr:Room k X.A)(W:X.calm=true):VCall X (.builtin "min") HC:=by
 intro aa s σ H xs us Q I r zq;refine B5 zq λas μ R ra hc h hq=>?_;unfold HC at h;split at h
 ·cases ra with
  |cons r1 r2=>
   cases r2;obtain⟨m,em,h⟩:=A5 h;split at h;obtain⟨p,ed,⟨hn,c⟩,h⟩:=A5 h;obtain⟨o,ho,ws,rfl,Z⟩:=hc _ _ em;cases (show _=V.ref _ from r1);obtain⟨u,rfl,B⟩:=Ew r;cases B;obtain⟨z,E,pl,hz⟩:=I.list<|Ei.of (K:=X.K) ho;have dk:=Z.dats ed;obtain⟨U,rd⟩:=Ap.reads I p ws z dk E;have F:=Sq rd;have hu:=hr.un;refine Za (φ:=∀e∈p,∃j,e=.int j) (f:=LN) (I.ok.hd W) pl.isList (by rw[F];exact hn) (λu C v hv M g=>?_) λv hv hm h' tk g=>?_;have one:∀{x},x∈z->∃d∈p,∃as,Reads M.heap x d as:=λ{x} hx=>by
    obtain⟨i,hi,rfl⟩:=dU hx;have b:i<p.length:=by rw[<- F];exact hi
    obtain⟨as,q⟩:=SY (Ir g rd) b;rw[show z.getD i .none=z[i] by rw[cD,K_ hi];rfl]at q;exact⟨_,Yi b,as,q⟩
   obtain⟨d,b,as,T⟩:=one C;obtain⟨e,he,U,L⟩:=one hv;have h1:=(c d b).1;have h2:=(c e he).1;have:=h1.2;exact⟨_,Kj d e X.A.in1 M u v as U T L h1.1 h2.1 ((c d b).2 e he)<|by show X.A.units+1+_<_;omega,λa=>by
    obtain⟨i,rfl⟩:=a d b;obtain⟨j,rfl⟩:=a e he;cases T;cases L;show BT (.int i) (.int j)=decide (i<j);simp only[BT]⟩
   obtain⟨i,hi,rfl⟩:=dU hv;have b:i<p.length:=by rw[<- F];exact hi
   obtain⟨x,hx,G⟩:=dk.get<|K_ b;obtain⟨u,C,B⟩:=E.get hx;rw[K_ hi]at C;cases C;refine⟨x,H,I.kept (t':=tk) g,B,hq (.D p[i]) _ _ _ Kp.refl hc G<|h _ (gT b) λa Y j ei J=>?_⟩;obtain⟨l,hl,J⟩:=dU J;obtain⟨y,hy,O⟩:=dk.get<|K_ hl;obtain⟨v,hv',ry⟩:=E.get hy;rw[ei]at G;rw[J]at O;cases Dk.int G;cases Dk.int O;have N:=hm a v<|aA hv';obtain⟨t,e⟩:=(show ∃t,z[i]=Value.int Y t from B);obtain⟨t',rfl⟩:=(show ∃t,v=Value.int j t from ry);rw[e]at N;exact N;exact h.elim
 exact h.elim
end
structure FunD(K:lN)(x qual:Str)(st:lU)(f:lM)(fd:lV)(T:lM):Prop where
 ex:∃(oc:lJ) (od:oB lM) (kV c7 pm:lJ) (an:oB lM) (ap ct:lJ) (ig:oC<|oB lJ),
  fd=PySem.W.fnOf x qual (Ax st) (Au st) (Ad st) (.ref T) kV c7 pm an ap ct/\K.lookup f=some ⟨oc,od,.func fd,ig⟩/\PySem.W.codeIn K ap qual=true
section
variable {P:lO}{w:lP}{K:lN}{mg:Str->oB lJ}{base:lS}{x qual:Str}{st:lU}{f T:lM}{fd:lV}{N ps:oA Str}{k:Nat}{sp:ASp}{prog:lO}{A:lR}{E:lJ->lK->Prop}{s:lK}
def FunD.vok(F:FunD K x qual st f fd T)(S:FnScope N ps<|Ad st) (C:∀(e:lJ) (A:lR) (outer:oA Env) (s:lK) (H:Hp) (E:XK),Room k (A.deeper<|envOfC qual (Ad st) s.heap.objs.size f e) ->
   ∃t,VSs (Fv Dz P w K mg base N qual (Ad st) f e A outer s H E).nox (Au st) t/\∀b d R,b.length=ps.length->sp b d R->t (SQ R) (OX R) BS BS (D1 N b) d):FnOk P w K mg base Dz (k+1) f fd ps (Fb K ps.length sp):=by
 obtain⟨O,M,kV,J,I,U,e,V,X,rfl,B,p⟩:=F.ex;refine R4 B p S (λm H Q E h=>?_) λA outer s H m Q E G h=>?_;obtain⟨b,d,R,l,j,_⟩:=h;rw[<- j.length];exact l;obtain⟨b,d,R,l,j,hc,q,hq⟩:=h;obtain⟨t,y,h⟩:=C e A outer s H E G;refine⟨_,y.nox,D1 N b,d,_,_,_,_,Dq.begin j,hc,h b d R l q,⟨λW g L n i _ c z=>K9 z λD a r=>hq _ _ _ _ i (c.sub a) Hg r,λv g u n i c o z=>K9 z λD a r=>hq _ _ _ _ i (c.sub a) o r,λ_ _ _ _ _ _ _ h=>h.elim,λ_ _ _ _ _ _ _ h=>h.elim⟩⟩
def FunD.binds{d:Int}{tk:Tok}{n:Nat}{l:lJ}{j:oB lM}{m:oC<|oB lJ}(F:FunD K x qual st f fd T)(o:K.lookup T=some ⟨l,j,.seq #[.int d tk] n,m⟩)
  (h:∀(kV e b:lJ) (c:oB lM) (g ct:lJ) (a:oA lJ),a.length+1=ps.length->∃k,bindArgs (PySem.W.fnOf x qual (Ax st) (Au st) (Ad st) (.ref T) kV e b c g ct) ⟨a,[]⟩=seqItems? (.ref T)>>=k/\k (some #[.int d tk])=pure (ps.zip<|a++[.int d tk])):Binds K fd ps [.int d tk]:=by
 obtain⟨_,_,kV,e,b,c,g,ct,_,rfl,q,p⟩:=F.ex;intro s a X i;obtain⟨k,h1,h2⟩:=h kV e b c g ct a (by rw[N_]at i;exact i);exact .of_defaults rfl (X _ _ o) rfl h1 h2
def Mc(P:lO)(w:lP)(K:lN)(mg:Str->oB lJ)(base:lS)(k:Nat)(x:Str)(ps:oA Str)(d:Int)(sp:ASp):Prop :=
 ∃g a b,FnOk P w K mg base Dz k g a ps (Fb K ps.length sp)/\Binds K a ps [.int d b]/\PySem.W.keepIn K (.ref g)=true/\mg x=some (.ref g)
def Mc.mono{d:Int}{n m:Nat}(c:Mc P w K mg base n x ps d sp)(h:n<=m):Mc P w K mg base m x ps d sp:=by obtain⟨g,a,b,G,r⟩:=c;exact⟨g,a,b,G.mono h,r⟩
def MD(sp:ASp)(d:Int)(t:AA):AE:=λc b R=>t c b λe a=>sp (e++[.D<|.int d]) a R
def Zc{X:Cx}{d:Int}{p a:Pos}{e:lQ}{es:oA lQ}{t:AA}(F:Mc X.prog X.w X.K X.mg X.base k x ps d sp)(D:Room k X.A)(u:Gl X x)(ha:VA X (e::es) t)(l:(e::es).length+1=ps.length:=by rfl)(hdb:(x==("__debug__" : Str))=false:=by decide)
  (q:starEach (e::es) X.env=(false,eval e X.env)::starEach es X.env:=by rfl) (hpl:(backTo a<|starEach es X.env).any (·.1)=false:=by rfl):VE X (.Call (.Name x p) (e::es) [] a) (MD sp d t):=by
 obtain⟨g,O,r,G,i,B,n⟩:=F;refine PE.imp (Mm (dvs:=[.int d]) (E:=E0) G D u n B i (.cons ⟨r,rfl⟩ .nil) Xb ha (hdb:=hdb) (he:=q) (hpl:=hpl)) λJ H Q z=>B5 z λC c R v hc h hq=>?_;exact⟨C,c,_,v,hc,h,λM b I L m y j o hx=>⟨_,b,R,by rw[N_,o];exact l,j.append<|.cons C7 .nil,y,hx,hq.kp m⟩⟩
def EQ{d:lM}{o:lT}{es:oC DictEntry}{ep:Nat}{n:Nat}{Q:lJ->lK->Prop}(i:(d==sysModules)=false)(c:s.heap.get? d=some o)(hc:o.ExactDict)(b:o.data=.dict es ep)(hn:es.size=n)(j:(n:Int)<2^63)(h:∀t g,Q (.int n t) {s with toks:=g}):yL prog w A (call (.builtin "len") [.ref d]) Q E s:=by
 have ty:s.TypeIs (.ref d) "dict" := ⟨o,c,hc.1⟩;have mt:MeetsIn prog w (Builtin.«dict.__len__» ⟨[.ref d],[]⟩) (λ_ R a=>a.heap=s.heap/\R (.ok<|.ret<|.int n a.toks) {a with toks:=a.toks+1}):=.of_wp λA R a ⟨e,h⟩=>by show wpAny _ _ (dictSize d>>=_) _ _ a;unfold dictSize;exact A_<|A_<|dH (by rw[e];exact c) b<|C_<|show wpAny _ _ (Builtin.Dict.pendingCount d>>=_) _ _ a from A_<|wpAny_pendingCount_other i<|wpAny_ret_mkInt<|by rw[Nat.add_zero,hn];exact h
 refine Calls.call_function_entry kind_len plain_len entry_len (args_len1 _) ?_;unfold Builtin.«len»;refine A_ (m:=oneArg "len" _)<|C_<|A_ (m:=callSpecial? (.ref d)<|Str.ofString "__len__")<|aV (name:=Str.ofString "__len__") ty F.slot_dict_len<|iT F.slot_dict_len ty F.entry_dict_len (F.args_dict_len_1 _) mt ⟨rfl,?_⟩;show wpAny _ _ _ _ _ {s with toks:=s.toks+1};refine A_<|bM<|C_<|A_<|iN<|show wpAny _ _ (if((n:Nat):Int)<0 then _ else _) _ _ _ from ?_;rw[H_<|by omega];refine(show wpAny _ _ (if((n:Nat):Int)>=2^63 then _ else _) _ _ _ from ?_);rw[H_<|by omega];exact A_<|wpAny_mkInt<|C_ ⟨_,rfl,h _ _⟩
end
def TW:AC:=λd c R=>match d with
 |[.R a]=>opt (c a) λm=>match m with
  |.dt b=>R (.D<|.int b.length) c
  |_=>False
 |_=>False
def ME{X:Cx}:VCall X (.builtin "len") TW:=by
 intro P s J H B F Q I r b;refine B5 b λas E R q hc h hq=>?_;cases q with
 |nil=>exact False.elim h
 |@cons x v n N A e=>
  cases x with
  |R a=>
   cases e with
   |cons _ _=>exact False.elim h
   |nil=>
    obtain⟨m,j,h⟩:=A5 h;cases (show _=V.ref _ from A);obtain⟨o,p,C⟩:=hc _ _ j;cases m with
    |dt g=>
     obtain⟨c,rfl,d⟩:=C;obtain⟨u,rfl,k⟩:=Ew r;cases k;obtain⟨z,y,B,r,L,i,O,h1,h2,l,D,M⟩:=(show Bh X.prog X.w H s.heap a (.dT c) from I.hok a _ p);have f:i.size=c.length:=by rw[<- dS,D,B_,<- bL r]
     refine EQ y h1 h2 l f (by rw[iL]at z;omega) λt G=>⟨.int c.length,H,I.tok _,⟨t,rfl⟩,hq _ _ _ _ Kp.refl hc ?_ h⟩;rw[bL d];exact C7
    |_=>exact False.elim h
  |_=>exact False.elim h
section
variable(l:lM)(ae:oC lJ)(n:Nat)(dd:oB lM)(sl:oC<|oB lJ)(t:Tok)
end
end L2
namespace L2
open PySem PySem.W PyProof.Rows
noncomputable def cn(x:lW)(l:oA lW):Nat:=@List.count _ (@instBEqOfDecidableEq _ λa b=>Classical.propDecidable<|a=b) x l
def Rn{l m:oA lW}:l.Perm m↔∀x,cn x l=cn x m:=@List.perm_iff_count _ (@instBEqOfDecidableEq _ λa b=>Classical.propDecidable<|a=b) _ l m
def Eu(x:lW)(l m:oA lW):cn x (l++m)=cn x l+cn x m:=@List.count_append _ (_) x l m
def Zd(x:lW)(l:oA lW):cn x l.reverse=cn x l:=Rn.mp (List.reverse_perm l) x
noncomputable def cx(x:lW)(a:oC lW)(i j:Nat):Nat:=cn x (a.extract i j).toList
def Gg(x:lW)(a:oC lW){i j k:Nat}(h1:i<=j)(h2:j<=k):cx x a i k=cx x a i j+cx x a j k:=by unfold cx;rw[<- Eu,<- eE,Array.extract_append_extract,iE h1,Nat.max_eq_right h2]
def Kr(x:lW)(a:oC lW):cx x a 0 a.size=cn x a.toList:=by unfold cx;rw[Array.extract_size]
def TX{a:oC lW}{i:Nat}(h:i<a.size):a.extract i (i+1)=#[a[i]]:=by
 apply Array.ext;simp;omega;intro j h1 h2;have:j=0:=by simpa using h2
 subst this;simp
def ML(a b o:oC lW)(i i' j c:Nat):Prop:=∀x,cn x o.toList+cx x a i i'+cx x b j c=cn x a.toList+cn x b.toList
def Mg(a b R:oC lW):Prop:=∀x,cn x R.toList=cn x a.toList+cn x b.toList
section
variable {a b o:oC lW}{i i' j j' m:Nat}
def ML.sw(h:ML a b o i i' j j'):ML b a o j j' i i':=λx=>by have:=h x;omega
def ML.loA(h:ML a b o i i' j j')(h1:i<=m)(h2:m<=i'):ML a b (o++a.extract i m) m i' j j':=λx=>by have:=h x;have:=Gg x a h1 h2;rw[eE,Eu];unfold cx at *;omega
def ML.hiA(h:ML a b o i i' j j')(h1:i<=m)(h2:m<=i'):ML a b (o++(a.extract m i').reverse) i m j j':=λx=>by have:=h x;have:=Gg x a h1 h2;rw[eE,Eu,Array.toList_reverse,Zd];unfold cx at *;omega
def ML.loB(h:ML a b o i i' j j')(h1:j<=m)(h2:m<=j'):ML a b (o++b.extract j m) i i' m j':=(h.sw.loA h1 h2).sw
def ML.hiB(h:ML a b o i i' j j')(h1:j<=m)(h2:m<=j'):ML a b (o++(b.extract m j').reverse) i i' j m:=(h.sw.hiA h1 h2).sw
def ML.puA(h:ML a b o i i' j j')(h1:i<i')(h2:i<a.size):ML a b (o.push a[i]) (i+1) i' j j':=by have:=h.loA (cF i) h1;rw[TX h2]at this;simpa using this
def ML.puB(h:ML a b o i i' j j')(h1:j<j')(h2:j<b.size):ML a b (o.push b[j]) i i' (j+1) j':=(h.sw.puA h1 h2).sw
def ML.poA(h:ML a b o i i' j j')(h1:i<i')(h2:i'-1<a.size):ML a b (o.push a[i'-1]) i (i'-1) j j':=by have:=h.hiA (m:=i'-1) (Nat.le_sub_one_of_lt h1)<|jO _ _;rw[show a.extract (i'-1) i'=#[a[i'-1]] from by rw[<- TX h2];congr 1;omega]at this;simpa using this
def ML.poB(h:ML a b o i i' j j')(h1:j<j')(h2:j'-1<b.size):ML a b (o.push b[j'-1]) i i' j (j'-1):=(h.sw.poA h1 h2).sw
def ML.d1(h:ML a b o i i' j j'):Mg a b (o++a.extract i i'++b.extract j j'):=λx=>by have:=h x;rw[eE,eE,Eu,Eu];exact this
def ML.d2(h:ML a b o i i' j j'):Mg a b (o++b.extract j j'++a.extract i i'):=λx=>by rw[h.sw.d1 x];exact Nat.add_comm _ _
def ML.d3(h:ML a b o i i' j j'):Mg a b (a.extract i i'++b.extract j j'++o.reverse):=λx=>by have:=h x;rw[eE,eE,Eu,Eu,Array.toList_reverse,Zd];unfold cx at this;omega
def ML.d4(h:ML a b o i i' j j'):Mg a b (b.extract j j'++a.extract i i'++o.reverse):=λx=>by rw[h.sw.d3 x];exact Nat.add_comm _ _
end
def AOk(a:oA lJ)(p:oC lW):Prop:=∀x∈p.toList,x.1∈a
def AOk.at{a:oA lJ}{p:oC lW}{i:Nat}(h:AOk a p)(hi:i<p.size):p[i].1∈a:=h _<|by simp
def AOk.pm{a:oA lJ}{p q:oC lW}(h:AOk a p)(k:q.toList.Perm p.toList):AOk a q:=λx hx=>h x<|k.mem_iff.mp hx
def AOk.ex{a:oA lJ}{p:oC lW}{i j:Nat}(h:AOk a p):AOk a (p.extract i j):=λx hx=>h x<|by
 rw[jY]at hx;exact gS<|dZ<|by rwa[gV]at hx
section
variable {prog:lO}{w:lP}{A:lR}{E:lJ->lK->Prop}{s:lK}{κ:mC}{vs:oA lJ}
def E9(prog:lO)(w:lP)(A:lR)(κ:mC)(vs:oA lJ)(s:lK):Prop :=
 ∀u∈vs,∀v∈vs,∃c:Bool,∀C:Bool->lK->Prop,C c s->yL prog w A (keyLt' κ u v) C (λ_ _=>False) s
def Ze(hc:E9 prog w A κ vs s){st:l_}(hk:kindOf st=κ){x y:lW}(hx:x.1∈vs)(hy:y.1∈vs){Q:oB Bool->l_->Prop}(h:∀c,Q (some c) st):wpS (model prog w) A E s (lt' x y) Q st:=by obtain⟨c,hc⟩:=hc _ hx _ hy;rw[lt'_eq];refine T_<|jC ?_;rw[hk];refine T_<|lA<|d_<|bU (hc (λd a=>a=s/\d=c) ⟨rfl,rfl⟩) (λc a e=>?_) λ_ _ b=>b.elim;obtain⟨rfl,rfl⟩:=e;exact⟨rfl,W_<|h _⟩
def B7{st:l_}{p:oC lW}{i:Nat}(hi:i<p.size){Q:lW->l_->Prop}(h:Q p[i] st):wpS (model prog w) A E s (elem' p i) Q st:=by rw[elem'_eq,bQ hi];exact W_ h
def MF{i:Type}{m n:Nat}{F:Nat->oB i×Nat×Nat->StateT l_ Sem (ForInStep<|oB i×Nat×Nat)}{st:l_}
  (l:∀x lo hi (Q:ForInStep (oB i×Nat×Nat)->l_->Prop),lo<=hi->hi<=m->(lo=hi->Q (.done (none,lo,hi)) st)->(∀g d,g<=d->d<=m->d-g<hi-lo->Q (.yield (none,g,d)) st)->wpS (model prog w) A E s (F x (none,lo,hi)) Q st)
  {lo hi:Nat} (h1:lo<=hi) (h2:hi<=m) (j:hi-lo<=n) {Q:oB i×Nat×Nat->l_->Prop} (h:∀k,k<=m->Q (none,k,k) st):wpS (model prog w) A E s (forIn [0:n] ((none,lo,hi):oB i×Nat×Nat) F) Q st:=by
 refine gC (gK (I:=λx c f=>f=st/\∃lo hi,c=(none,lo,hi)/\lo<=hi/\hi<=m/\hi-lo<=n-x) (Q:=λc f=>f=st/\∃k,c=(none,k,k)/\k<=m) ?_ ?_ ⟨rfl,lo,hi,rfl,h1,h2,j⟩) ?_;rintro x c f _ hx ⟨rfl,lo,hi,rfl,h1,h2,j⟩;exact l x lo hi _ h1 h2 (λe=>⟨rfl,lo,by rw[e],I_ h1 h2⟩) λg d a b c=>⟨rfl,g,d,rfl,a,b,by omega⟩;rintro c f ⟨rfl,lo,hi,rfl,h1,h2,j⟩;exact⟨rfl,lo,by rw[show hi=lo by omega],I_ h1 h2⟩;rintro c f ⟨rfl,k,rfl,hk⟩;exact h k hk
def Zf{left:Bool}{j:lW}{o:oC lW}{base m e:Nat}{st:l_}(hm:e<m)
  (l:∀i Q,i<m->(∀c,Q (some c) st)->wpS (model prog w) A E s (byd left j o base i) Q st) {Q:oB Nat->l_->Prop} (h:∀k,k<=m->Q (some k) st):wpS (model prog w) A E s (gallop' left j o base m e) Q st:=by
 rw[Q7];dsimp only;refine T_<|l e _ hm λp=>?_;dsimp only;cases p with
 |true=>rw[P_ rfl];refine T_<|gC (gK (I:=λx c g=>g=st/\∃f d,c=(none,f,d)/\f<d/\f<m-e) (Q:=λc g=>g=st/\∃f d,c=(none,f,d)/\f<d/\f<m-e) ?_ (λ_ _ z=>z) ⟨rfl,0,1,rfl,Nat.succ_pos _,Nat.sub_pos_of_lt hm⟩) ?_;rintro x c g _ hx ⟨rfl,f,d,rfl,h1,h2⟩;dsimp only;by_cases c:d>=m-e;rw[P_ c];exact W_ ⟨rfl,f,d,rfl,h1,h2⟩;rw[H_ c];refine T_ (l _ _ (by omega) λc=>?_);cases c;exact W_ ⟨rfl,f,d,rfl,h1,h2⟩;exact W_ ⟨rfl,d,_,rfl,by omega,Nat.lt_of_not_le c⟩;rintro c g ⟨rfl,f,d,rfl,h1,h2⟩;dsimp only;refine T_ (MF (m:=m) (λx lo hi q a b n hy=>?_) (by omega) (by omega) (by omega) λk hk=>W_<|h k hk);dsimp only;by_cases c:lo>=hi;rw[P_ c];exact W_ (n<|by omega);rw[H_ c];refine T_ (l _ _ (by omega) λc=>?_);cases c;exact W_ (hy _ _ (dP _ _) (by omega)<|by omega);exact W_ (hy _ _ (by omega) (b)<|by omega)
 |false=>rw[H_ U_];refine T_<|gC (gK (I:=λx c g=>g=st/\∃f d,c=(none,f,d)/\f<d/\f<=e) (Q:=λc g=>g=st/\∃f d,c=(none,f,d)/\f<d/\f<=e) ?_ (λ_ _ z=>z) ⟨rfl,0,1,rfl,Nat.succ_pos _,bH _⟩) ?_;rintro x c g _ hx ⟨rfl,f,d,rfl,h1,h2⟩;dsimp only;by_cases c:d>=e+1;rw[P_ c];exact W_ ⟨rfl,f,d,rfl,h1,h2⟩;rw[H_ c];refine T_<|l _ _ (fJ (jO e d) hm) λc=>?_;cases c;exact W_ ⟨rfl,d,_,rfl,by omega,by omega⟩;exact W_ ⟨rfl,f,d,rfl,h1,h2⟩;rintro c g ⟨rfl,f,d,rfl,h1,h2⟩;dsimp only;refine T_ (MF (m:=m) (λx lo hi q a b n hy=>?_) (by omega) (by omega) (by omega) λk hk=>W_<|h k hk);dsimp only;by_cases c:lo>=hi;rw[P_ c];exact W_ (n<|by omega);rw[H_ c];refine T_ (l _ _ (by omega) λc=>?_);cases c;exact W_ (hy _ _ (dP _ _) (by omega)<|by omega);exact W_<|hy _ _ (by omega) (b)<|by omega
def OZ{left:Bool}(hc:E9 prog w A κ vs s){st:l_}(hk:kindOf st=κ){p:oC lW}{b:lW}{base m a:Nat}(hm:a<m)(hb:base+m<=p.size)(hp:AOk vs p)(d:b.1∈vs){Q:oB Nat->l_->Prop}(h:∀k,k<=m->Q (some k) st):wpS (model prog w) A E s (gallop' left b p base m a) Q st:=by refine Zf hm (λi e hi q=>?_) h;unfold byd;refine T_ (B7 (by omega) ?_);cases left;exact T_<|Ze hc hk d (hp.at _) λc=>W_<|q _;exact Ze hc hk (hp.at _) d q
structure LMid(a b:oC lW)(q:Nat)(o:oC lW)(ia ib:Nat):Prop where
 m:ML a b o ia a.size ib b.size
 ha:ia+1<a.size
 hb:ib<b.size
 q:q<=ia+ib
structure RMid(a b:oC lW)(q:Nat)(o:oC lW)(na nb:Nat):Prop where
 m:ML a b o 0 na 0 nb
 h1:na<=a.size
 h2:nb<=b.size
 ha:0<na
 hb:1<nb
 q:na+nb+q<=a.size+b.size
section
variable {a b out:oC lW}{st:l_}{Qd Qy:SW->l_->Prop}{ia ib mg ac bc:Nat}
def TY(M:ML a b out ia a.size ib b.size)(ha:ia+1<a.size)(hb:ib<b.size)(h:∀R c,Mg a b R->c.1=some R->Qd c st)(f:∀o i j m x y,LMid a b (ia+ib+1) o i j->Qd (none,o,i,j,m,x,y) st/\Qy (none,o,i,j,m,x,y) st) :
  wpS (model prog w) A E s (DX a b out ia ib mg ac bc) (λr d=>match r with|.done c'=>Qd c' d|.yield c'=>Qy c' d) st:=by
 unfold DX;refine T_<|B7 (cN ha) ?_;have M1:=M.puA (cN ha)<|cN ha;by_cases e:ia+1+1=a.size;rw[P_<|by simpa using e];exact W_<|h _ _ M1.d2 rfl;rw[H_<|by simpa using e];have g:=f _ _ _ mg ac bc ⟨M1,by omega,hb,by omega⟩;split;exact W_ g.1;exact W_ g.2
def TZ(hc:E9 prog w A κ vs s)(hk:kindOf st=κ)(u:AOk vs a)(t:AOk vs b)(M:ML a b out ia a.size ib b.size)(ha:ia+1<a.size)(hb:ib<b.size)(f:∀R c,Mg a b R->c.1=some R->Qd c st)(p:∀o i j m x y,LMid a b (ia+ib+1) o i j->Qd (none,o,i,j,m,x,y) st/\Qy (none,o,i,j,m,x,y) st) :
  wpS (model prog w) A E s (DY a b out ia ib mg ac bc) (λr n=>match r with|.done c'=>Qd c' n|.yield c'=>Qy c' n) st:=by
 unfold DY;refine T_<|B7 hb ?_;have M1:=M.puB hb hb;have d:∀k,∀o i j m x y,LMid a b (ia+(ib+1+k)+1) o i j->Qd (none,o,i,j,m,x,y) st/\Qy (none,o,i,j,m,x,y) st:=λk o i j m x y h=>p o i j m x y ⟨h.m,h.ha,h.hb,by have:=h.q;omega⟩;by_cases e:ib+1=b.size;rw[P_<|by simpa using e];exact W_<|f _ _ M1.d1 rfl;rw[H_<|by simpa using e];refine T_ (B7 (cN ha)<|T_<|OZ hc hk (by omega) (by omega) t (u.at _) λk v=>?_);dsimp only;by_cases l:k>0;rw[P_ l];have M2:=M1.loB (m:=ib+1+k) (dP _ _) (by omega);by_cases g:ib+1+k=b.size;rw[P_<|by simpa using g];exact W_<|f _ _ M2.d1 rfl;rw[H_<|by simpa using g];exact TY M2 ha (by omega) f<|d k;rw[H_ l];exact TY M1 ha (by omega) f<|d 0
def Qbc(hc:E9 prog w A κ vs s)(hk:kindOf st=κ)(f:AOk vs a)(e:AOk vs b)(M:ML a b out ia a.size ib b.size)(ha:ia+1<a.size)(hb:ib<b.size)(d:∀R c,Mg a b R->c.1=some R->Qd c (C9 st mg))(l:∀o i j m x y,LMid a b (ia+ib+1) o i j->Qd (none,o,i,j,m,x,y) (C9 st mg)/\Qy (none,o,i,j,m,x,y) (C9 st mg)) :
  wpS (model prog w) A E s (LH a b out ia ib mg ac bc) (λr t=>match r with|.done c'=>Qd c' t|.yield c'=>Qy c' t) st:=by
 unfold LH;rw[C0];refine T_ (fB<|T_<|B7 hb<|T_<|OZ hc (st:=C9 st mg) hk (by omega) (by omega) f (e.at _) λk u=>?_);dsimp only;by_cases p:k>0;rw[P_ p];have M1:=M.loA (m:=ia+k) (dP _ _) (by omega);by_cases g:ia+k+1=a.size;rw[P_<|by simpa using g];exact W_<|d _ _ M1.d2 rfl;rw[H_<|by simpa using g];by_cases n:ia+k=a.size;rw[P_<|by simpa using n];exact W_<|d _ _ M1.d1 rfl;rw[H_<|by simpa using n];exact TZ hc (st:=C9 st mg) hk f e M1 (by omega) hb d λo i j m x y h=>l o i j m x y ⟨h.m,h.ha,h.hb,by have:=h.q;omega⟩;rw[H_ p];exact TZ hc (st:=C9 st mg) hk f e M ha hb d l
end
section
variable {a b out:oC lW}{st:l_}{Qd Qy:SX->l_->Prop}{na nb mg ac bc q:Nat}
def UA(M:RMid a b q out na nb)(k:∀R c,Mg a b R->c.1=some R->Qd c st)(h:∀o i j m x y,RMid a b (q+1) o i j->Qd (none,i,j,o,m,x,y) st/\Qy (none,i,j,o,m,x,y) st) :
  wpS (model prog w) A E s (DZ a b out na nb mg ac bc) (λr f=>match r with|.done c'=>Qd c' f|.yield c'=>Qy c' f) st:=by
 obtain⟨M,h1,h2,ha,hb,hq⟩:=M;unfold DZ;refine T_ (B7 (by omega) ?_);have M1:=M.poA ha (by omega);by_cases e:na-1=0;rw[P_<|by simpa using e];exact W_<|k _ _ M1.d3 rfl;rw[H_<|by simpa using e];have g:=h _ _ _ mg ac bc ⟨M1,I_ (jO na 1) h1,h2,iI e,hb,by omega⟩;by_cases d:(decide (ac<7)&&decide (bc<7))=true;rw[P_ d];exact W_ g.1;rw[H_ d];exact W_ g.2
def UB(hc:E9 prog w A κ vs s)(hk:kindOf st=κ)(t:AOk vs a)(p:AOk vs b)(M:RMid a b q out na nb)(d:∀R c,Mg a b R->c.1=some R->Qd c st)(g:∀o i j m x y,RMid a b (q+1) o i j->Qd (none,i,j,o,m,x,y) st/\Qy (none,i,j,o,m,x,y) st) :
  wpS (model prog w) A E s (EA a b out na nb mg ac bc) (λr n=>match r with|.done c'=>Qd c' n|.yield c'=>Qy c' n) st:=by
 obtain⟨M,h1,h2,ha,hb,hq⟩:=M;unfold EA;refine T_ (B7 (by omega) ?_);have M1:=M.poB (cN hb) (by omega);by_cases e:nb-1=1;rw[P_<|by simpa using e];exact W_<|d _ _ M1.d4 rfl;rw[H_<|by simpa using e];refine T_ (B7 (by omega)<|T_<|OZ hc hk (by omega) (by omega) p (t.at _) λk u=>?_);dsimp only;by_cases l:nb-1-k>0;rw[P_ l];have M2:=M1.hiB (m:=k) (bH _) u;by_cases f:k=1;rw[P_<|by simpa using f];exact W_<|d _ _ M2.d4 rfl;rw[H_<|by simpa using f];by_cases h:k=0;rw[P_<|by simpa using h];exact W_<|d _ _ M2.d3 rfl;rw[H_<|by simpa using h];exact UA ⟨M2,h1,by omega,ha,by omega,by omega⟩ d g;rw[H_ l];exact UA ⟨M1,h1,I_ (jO nb 1) h2,ha,by omega,by omega⟩ d g
def Qbd(hc:E9 prog w A κ vs s)(hk:kindOf st=κ)(g:AOk vs a)(f:AOk vs b)(M:RMid a b q out na nb)(e:∀R c,Mg a b R->c.1=some R->Qd c (C9 st mg))(h:∀o i j m x y,RMid a b (q+1) o i j->Qd (none,i,j,o,m,x,y) (C9 st mg)/\Qy (none,i,j,o,m,x,y) (C9 st mg)) :
  wpS (model prog w) A E s (LI a b out na nb mg ac bc) (λr p=>match r with|.done c'=>Qd c' p|.yield c'=>Qy c' p) st:=by
 obtain⟨M,h1,h2,ha,hb,hq⟩:=M;unfold LI;rw[C0];refine T_ (fB<|T_<|B7 (by omega)<|T_<|OZ hc (st:=C9 st mg) hk (lG ha<|by decide) (by omega) g (f.at _) λk n=>?_);dsimp only;by_cases l:na-k>0;rw[P_ l];have M1:=M.hiA (m:=k) (bH _) n;by_cases d:k=0;rw[P_<|by simpa using d];exact W_<|e _ _ M1.d3 rfl;rw[H_<|by simpa using d];exact UB hc (st:=C9 st mg) hk g f ⟨M1,I_ n h1,h2,iI d,hb,by omega⟩ e h;rw[H_ l];exact UB hc (st:=C9 st mg) hk g f ⟨M,h1,h2,ha,hb,hq⟩ e h
end
def LMid.dn{a b o:oC lW}{q y i j:Nat}(M:LMid a b (q+(y+1)) o i j):LMid a b (q+1) o i j:=⟨M.m,M.ha,M.hb,I_ (by omega) M.q⟩
def RMid.dn{a b o:oC lW}{q y i j:Nat}(M:RMid a b (q+(y+1)) o i j):RMid a b (q+1) o i j:=⟨M.m,M.h1,M.h2,M.ha,M.hb,I_ (by omega) M.q⟩
def Iv{i e d j τ:Type}{P:oC lW->Prop}{L:Nat->i->e->d->Prop}{N n m g:Nat}{f:Nat->(oB (oC lW)×i×e×d×j)->StateT l_ Sem (ForInStep<|oB (oC lW)×i×e×d×j)}{k:(oB (oC lW)×i×e×d×j)->StateT l_ Sem τ}{Q:τ->l_->Prop}{st l:l_}{u:i}{v:e}{x:d}{r:j}(t:l=C9 st g)(h0:L n u v x)
  (step:∀y u v x r g,L (n+y) u v x->wpS (model prog w) A E s (f y (none,u,v,x,r)) (λz a=>match z with
   |.done c=>(∃g,a=C9 st g)/\((∃R,c.1=some R/\P R)\/(c.1=none/\L m c.2.1 c.2.2.1 c.2.2.2.1))
   |.yield c=>(∃g,a=C9 st g)/\c.1=none/\L (n+(y+1)) c.2.1 c.2.2.1 c.2.2.2.1) (C9 st g))
  (b:∀u v x,L (n+N) u v x->L m u v x) (C:∀R c g,P R->wpS (model prog w) A E s (k (some R,c)) Q (C9 st g)) (D:∀u v x r g,L m u v x->wpS (model prog w) A E s (k (none,u,v,x,r)) Q (C9 st g)):wpS (model prog w) A E s (forIn [0:N] (none,u,v,x,r) f>>=k) Q l:=by
 refine T_<|gC (gK (I:=λy c a=>(∃g,a=C9 st g)/\c.1=none/\L (n+y) c.2.1 c.2.2.1 c.2.2.2.1) (Q:=λc a=>(∃g,a=C9 st g)/\((∃R,c.1=some R/\P R)\/(c.1=none/\L m c.2.1 c.2.2.1 c.2.2.2.1))) ?_ ?_ ⟨⟨g,t⟩,rfl,h0⟩) ?_;rintro y ⟨B,u,v,x,r⟩ a _ _ ⟨⟨g,rfl⟩,rfl,h⟩;refine gC (step y u v x r g h) ?_;rintro(c|c) a hh<;>exact hh;rintro c a ⟨q,h1,h2⟩;rw[Nat.zero_max]at h2;exact⟨q,.inr ⟨h1,b _ _ _ h2⟩⟩;rintro⟨B,u,v,x,r⟩ a ⟨⟨g,rfl⟩,⟨R,rfl,o⟩|⟨rfl,p⟩⟩;exact C R _ g o;exact D u v x r g p
def Zg{a b o:oC lW}{q i j:Nat}{p:Prop}(M:LMid a b (q+(a.size+b.size)) o i j):p:=by have h1:=M.ha;have h2:=M.hb;have c:=M.q;omega
def Vf(hc:E9 prog w A κ vs s){a b:oC lW}{st:l_}(hk:kindOf st=κ)(D:AOk vs a)(G:AOk vs b)(J:0<a.size)(z:0<b.size){Q:oC lW->l_->Prop}(h:∀R g,Mg a b R->Q R (C9 st g)):wpS (model prog w) A E s (mergeLo' a b) Q st:=by
 have B:ML a b #[b[0]] 0 a.size 1 b.size:=ML.puB (o:=#[]) (j:=0) (λx=>by rw[Kr,Kr];show 0+_+_=_;omega) z z;rw[Ox];refine T_<|lA<|eC ⟨rfl,?_⟩;refine T_<|B7 z ?_;dsimp only;by_cases C:1=b.size;rw[P_<|by simpa using C];exact W_<|h _ (gallopOf st) B.d1;rw[H_<|by simpa using C];by_cases F:0+1=a.size;rw[P_<|by simpa using F];exact W_<|h _ (gallopOf st) B.d2;rw[H_<|by simpa using F];refine T_<|jC ?_;refine Iv (P:=Mg a b) (L:=LMid a b) (n:=1) (m:=1+(a.size+b.size)) (g:=gallopOf st) rfl ⟨B,by show 0+1<_;omega,by show 1<_;omega,F_ _⟩ (λx o I H d g M=>?_) (λ_ _ _ M=>M) (λR c g f=>W_<|h R g f) λo i j r g M=>Zg M;dsimp only;refine Iv (P:=Mg a b) (L:=LMid a b) (n:=1+x) (m:=1+x+1) (g:=g) rfl M (λy o l k r g M=>?_) (λ_ _ _ M=>Zg M) (λR c g f=>W_ ⟨⟨g,rfl⟩,.inl ⟨R,rfl,f⟩⟩) λo l k r g M=>?_
 ·have ha:=M.ha;have hb:=M.hb;have hq:=M.q;have M:=M.m;dsimp only;refine T_<|B7 hb<|T_<|B7 (cN ha)<|T_<|Ze hc (st:=C9 st g) hk (G.at _) (D.at _) λc=>?_;dsimp only;cases c with
  |true=>rw[P_ rfl];refine T_<|B7 hb ?_;have M1:=M.puB hb hb;by_cases u:k+1=b.size;rw[P_<|by simpa using u];exact W_ ⟨⟨g,rfl⟩,.inl ⟨_,rfl,M1.d1⟩⟩;rw[H_<|by simpa using u];have h1:LMid a b (1+x+(y+1)) _ l (k+1):=⟨M1,ha,by omega,by omega⟩;by_cases p:r.2+1>=d<;>simp only[p,if_true,if_false];exact W_ ⟨⟨g,rfl⟩,.inr ⟨rfl,h1.dn⟩⟩;exact W_ ⟨⟨g,rfl⟩,rfl,h1⟩
  |false=>rw[H_ U_];refine T_<|B7 (cN ha) ?_;have M1:=M.puA (cN ha)<|cN ha;by_cases u:l+1+1=a.size;rw[P_<|by simpa using u];exact W_ ⟨⟨g,rfl⟩,.inl ⟨_,rfl,M1.d2⟩⟩;rw[H_<|by simpa using u];have h1:LMid a b (1+x+(y+1)) _ (l+1) k:=⟨M1,by omega,hb,by omega⟩;by_cases p:r.1+1>=d<;>simp only[p,if_true,if_false];exact W_ ⟨⟨g,rfl⟩,.inr ⟨rfl,h1.dn⟩⟩;exact W_ ⟨⟨g,rfl⟩,rfl,h1⟩
 dsimp only;refine T_<|lA<|eC ⟨rfl,?_⟩;refine Iv (P:=Mg a b) (L:=LMid a b) (n:=1+x+1) (m:=1+x+1) (g:=g) rfl M (λy o l k r g M=>?_) (λ_ _ _ M=>Zg M) (λR c g f=>W_ ⟨⟨g,rfl⟩,.inl ⟨R,rfl,f⟩⟩) λo l k r g M=>?_;dsimp only;have t:∀d,wpS (model prog w) A E s (LH a b o l k d r.2.1 r.2.2) _ (C9 st g):=λd=>
  Qbc (Qd:=λc v=>(∃g,v=C9 st g)/\((∃R,c.1=some R/\Mg a b R)\/(c.1=none/\LMid a b (1+x+1) c.2.1 c.2.2.1 c.2.2.2.1))) (Qy:=λc v=>(∃g,v=C9 st g)/\c.1=none/\LMid a b (1+x+1+(y+1)) c.2.1 c.2.2.1 c.2.2.2.1) hc (st:=C9 st g) hk D G M.m M.ha M.hb (λR c f e=>⟨⟨d,rfl⟩,.inl ⟨R,e,f⟩⟩)
   λo i j m x y hm=>⟨⟨⟨d,rfl⟩,.inr ⟨rfl,hm.m,hm.ha,hm.hb,by have:=hm.q;have:=M.q;show _<=i+j;omega⟩⟩,⟨d,rfl⟩,rfl,hm.m,hm.ha,hm.hb,by have:=hm.q;have:=M.q;show _<=i+j;omega⟩
 by_cases p:r.1>1;rw[P_ p];refine gC (t<|r.1-1) ?_;rintro(c|c) v hh<;>exact hh;rw[H_ p];refine gC (t r.1) ?_;rintro(c|c) v hh<;>exact hh;dsimp only;rw[C0];exact T_<|fB<|W_ ⟨⟨_,rfl⟩,rfl,M⟩
def Zh{a b o:oC lW}{q i j:Nat}{p:Prop}(M:RMid a b (q+(a.size+b.size)) o i j):p:=by have h1:=M.ha;have c:=M.q;omega
def Vg(hc:E9 prog w A κ vs s){a b:oC lW}{st:l_}(hk:kindOf st=κ)(D:AOk vs a)(G:AOk vs b)(z:0<a.size)(H:0<b.size){Q:oC lW->l_->Prop}(h:∀R g,Mg a b R->Q R (C9 st g)):wpS (model prog w) A E s (mergeHi' a b) Q st:=by
 have C:ML a b #[a[a.size-1]'(lG z<|by decide)] 0 (a.size-1) 0 b.size:=ML.poA (o:=#[]) (i:=0) (i':=a.size) (λx=>by rw[Kr,Kr];show 0+_+_=_;omega) z (lG z<|by decide);rw[Oy];refine T_<|lA<|eC ⟨rfl,?_⟩;refine T_ (B7 (lG z<|by decide) ?_);dsimp only;by_cases B:a.size-1=0;rw[P_<|by simpa using B];exact W_<|h _ (gallopOf st) C.d3;rw[H_<|by simpa using B];by_cases F:b.size=1;rw[P_<|by simpa using F];exact W_<|h _ (gallopOf st) C.d4;rw[H_<|by simpa using F];refine T_<|jC ?_;refine Iv (P:=Mg a b) (L:=λq i j o=>RMid a b q o i j) (n:=1) (m:=1+(a.size+b.size)) (g:=gallopOf st) rfl ⟨C,jO _ _,F_ _,iI B,by show 1<b.size;omega,by show a.size-1+b.size+1<=_;omega⟩ (λx J I o f g M=>?_) (λ_ _ _ M=>M) (λR c g l=>W_<|h R g l) λi j o r g M=>Zh M;dsimp only;refine Iv (P:=Mg a b) (L:=λq i j o=>RMid a b q o i j) (n:=1+x) (m:=1+x+1) (g:=g) rfl M (λy k d o r g M=>?_) (λ_ _ _ M=>Zh M) (λR c g l=>W_ ⟨⟨g,rfl⟩,.inl ⟨R,rfl,l⟩⟩) λk d o r g M=>?_
 ·have h1:=M.h1;have h2:=M.h2;have ha:=M.ha;have hb:=M.hb;have hq:=M.q;have M:=M.m;dsimp only;refine T_ (B7 (by omega)<|T_<|B7 (by omega)<|T_<|Ze hc (st:=C9 st g) hk (G.at _) (D.at _) λc=>?_);dsimp only;cases c with
  |true=>rw[P_ rfl];refine T_ (B7 (by omega) ?_);have M1:=M.poA ha (by omega);by_cases p:k-1=0;rw[P_<|by simpa using p];exact W_ ⟨⟨g,rfl⟩,.inl ⟨_,rfl,M1.d3⟩⟩;rw[H_<|by simpa using p];have h1:RMid a b (1+x+(y+1)) _ (k-1) d:=⟨M1,I_ (jO k 1) h1,h2,iI p,hb,by omega⟩;by_cases t:r.1+1>=f<;>simp only[t,if_true,if_false];exact W_ ⟨⟨g,rfl⟩,.inr ⟨rfl,h1.dn⟩⟩;exact W_ ⟨⟨g,rfl⟩,rfl,h1⟩
  |false=>rw[H_ U_];refine T_ (B7 (by omega) ?_);have M1:=M.poB (cN hb) (by omega);by_cases p:d-1=1;rw[P_<|by simpa using p];exact W_ ⟨⟨g,rfl⟩,.inl ⟨_,rfl,M1.d4⟩⟩;rw[H_<|by simpa using p];have h1:RMid a b (1+x+(y+1)) _ k (d-1):=⟨M1,h1,I_ (jO d 1) h2,ha,by omega,by omega⟩;by_cases t:r.2+1>=f<;>simp only[t,if_true,if_false];exact W_ ⟨⟨g,rfl⟩,.inr ⟨rfl,h1.dn⟩⟩;exact W_ ⟨⟨g,rfl⟩,rfl,h1⟩
 dsimp only;refine T_<|lA<|eC ⟨rfl,?_⟩;refine Iv (P:=Mg a b) (L:=λq i j o=>RMid a b q o i j) (n:=1+x+1) (m:=1+x+1) (g:=g) rfl M (λy k d o r g M=>?_) (λ_ _ _ M=>Zh M) (λR c g l=>W_ ⟨⟨g,rfl⟩,.inl ⟨R,rfl,l⟩⟩) λk d o r g M=>?_;dsimp only;have u:∀f,wpS (model prog w) A E s (LI a b o k d f r.2.1 r.2.2) _ (C9 st g):=λf=>
  Qbd (Qd:=λc v=>(∃g,v=C9 st g)/\((∃R,c.1=some R/\Mg a b R)\/(c.1=none/\RMid a b (1+x+1) c.2.2.2.1 c.2.1 c.2.2.1))) (Qy:=λc v=>(∃g,v=C9 st g)/\c.1=none/\RMid a b (1+x+1+(y+1)) c.2.2.2.1 c.2.1 c.2.2.1) hc (st:=C9 st g) hk D G (q:=1+x+1+y) M (λR c l e=>⟨⟨f,rfl⟩,.inl ⟨R,e,l⟩⟩)
   λo i j m x y hm=>⟨⟨⟨f,rfl⟩,.inr ⟨rfl,hm.m,hm.h1,hm.h2,hm.ha,hm.hb,by have:=hm.q;show i+j+_<=_;omega⟩⟩,⟨f,rfl⟩,rfl,hm.m,hm.h1,hm.h2,hm.ha,hm.hb,by have:=hm.q;show i+j+_<=_;omega⟩
 by_cases t:r.1>1;rw[P_ t];refine gC (u<|r.1-1) ?_;rintro(c|c) v hh<;>exact hh;rw[H_ t];refine gC (u r.1) ?_;rintro(c|c) v hh<;>exact hh;dsimp only;rw[C0];exact T_<|fB<|W_ ⟨⟨_,rfl⟩,rfl,M⟩
def SZq(κ:mC)(p:oC lW)(a:oC<|Nat×Nat×Nat)(g:Nat):l_:=SortSt.mk' κ p a g none
def MG{c:Type}(a:Nat)(R:oA c)(p:oC c)(h:a+R.length<=p.size):(wr a R 0 p).toList=p.toList.take a++R++p.toList.drop (a+R.length):=by
 apply iX;intro i;rw[bT,Ye a R 0 p h];simp only[Nat.add_zero];have b:(p.toList.take a).length=a:=by rw[aU,dS];omega
 by_cases h1:i<a;rw[H_<|by omega,jA,c_<|by omega,List.getElem?_take_of_lt h1,bT];by_cases h2:i<a+R.length;rw[P_<|by omega,c_<|by rw[N_];omega,b_<|by omega,b];rw[H_<|by omega,b_<|by rw[N_];omega,N_,b,List.getElem?_drop,bT];congr 1;omega
def UC(x:lW)(a:Nat)(R:oA lW)(p:oC lW)(h:a+R.length<=p.size):cn x (wr a R 0 p).toList=cx x p 0 a+cn x R+cx x p (a+R.length) p.size:=by rw[MG a R p h,Eu,Eu];unfold cx;rw[jY,jY,gV,gV,kI,gR];congr 2;rw[dA<|by rw[dN,dS];exact F_ _]
def Vh(hc:E9 prog w A κ vs s){p:oC lW}{f:oC<|Nat×Nat×Nat}{g i b c n d B:Nat}(hp:AOk vs p)(h1:f[i]?=some (b,c,n))(h2:f[i+1]?=some (b+c,d,B))(ha:0<c)(hb:0<d)(q:b+c+d<=p.size){Q:Bool->l_->Prop}
  (h:∀r g',r.toList.Perm p.toList->Q true (SZq κ r ((f.setIfInBounds i (b,c+d,n)).eraseIdxIfInBounds<|i+1) g')):wpS (model prog w) A E s (mergeAt' i) Q (SZq κ p f g):=by
 rw[Oz];refine T_<|jC ?_;have C:(pendingOf<|SZq κ p f g)[i]?=some (b,c,n):=h1;have G:(pendingOf<|SZq κ p f g)[i+1]?=some (b+c,d,B):=h2;rw[C,G];dsimp only;rw[show arrOf (SZq κ p f g)=p from rfl];refine T_ (EB<|T_<|B7 (by omega)<|T_<|OZ hc (st:=SZq κ p ((f.setIfInBounds i (b,c+d,n)).eraseIdxIfInBounds<|i+1) g) rfl ha (I_ (dP (b+c) d) q) hp (hp.at _) λk H=>?_);dsimp only;by_cases y:c-k=0;rw[P_<|by simpa using y];exact W_<|h p g<|.refl _;rw[H_<|by simpa using y];refine T_ (B7 (by omega)<|T_<|OZ hc (st:=SZq κ p ((f.setIfInBounds i (b,c+d,n)).eraseIdxIfInBounds<|i+1) g) rfl (lG hb<|by decide) q hp (hp.at _) λm O=>?_);dsimp only;by_cases t:m=0;rw[P_<|by simpa using t];exact W_<|h p g<|.refl _;rw[H_<|by simpa using t];have I:(p.extract (b+k)<|b+c).size=c-k:=by rw[Array.size_extract];omega
 have D:(p.extract (b+c)<|b+c+m).size=m:=by rw[Array.size_extract];omega
 have u:∀(R:oC lW) (g':Nat),Mg (p.extract (b+k)<|b+c) (p.extract (b+c)<|b+c+m) R->∀o,o=SZq κ p ((f.setIfInBounds i (b,c+d,n)).eraseIdxIfInBounds<|i+1) g' ->
   wpS (model prog w) A E s (do
    modify λs=>setArr s (R.toList.zipIdx.foldl (λa (p,j)=>a.setIfInBounds (b+k+j) p)<|arrOf s)
    return (failedOf<|<- get).isNone) Q o:=λR g' l o e=>by
  subst e;refine T_<|fB<|T_<|jC<|W_ ?_;show Q true (SortSt.mk' κ (R.toList.zipIdx.foldl (λa (z:lW×Nat)=>a.setIfInBounds (b+k+z.2) z.1) p) _ g' none);rw[So];refine h _ g'<|Rn.mpr λx=>?_;have F:R.toList.length=c-k+m:=by have:=(Rn.mpr λx=>by rw[Eu];exact l x:R.toList.Perm<|(p.extract (b+k)<|b+c).toList++(p.extract (b+c)<|b+c+m).toList).length_eq;simp only[List.length_append,Array.length_toList,I,D]at this;rw[dS];exact this
  have M:=l x;have J:=Kr x p;have a2:=Gg x p (bH<|b+k) (show b+k<=p.size by omega);have N:=Gg x p (show b+k<=b+c from kD H b)<|show b+c<=p.size from I_ (dP (b+c) d) q;have L:=Gg x p (show b+c<=b+c+m from dP _ _) (show b+c+m<=p.size by omega);rw[UC x _ _ _<|by omega,F,show b+k+(c-k+m)=b+c+m by omega];unfold cx at *;omega
 by_cases v:c-k<=m;rw[P_ v];exact T_ (Vf hc rfl hp.ex hp.ex (by omega) (by omega) λR g' l=>u R g' l _ rfl);rw[H_ v];exact T_<|Vg hc rfl hp.ex hp.ex (by omega) (by omega) λR g' l=>u R g' l _ rfl
section
variable {p:oC lW}{pd:oC<|Nat×Nat×Nat}{g:Nat}
def Iw(hc:E9 prog w A κ vs s)(hp:AOk vs p){i j:Nat}(hi:i<p.size)(hj:j<p.size){Q:oB Bool->l_->Prop}(h:∀c,Q (some c)<|SZq κ p pd g):wpS (model prog w) A E s (ltAt' i j) Q (SZq κ p pd g):=by rw[ltAt'_eq];refine T_<|jC ?_;exact(show wpS _ _ _ _ (do let x <- elem' p i;let y <- elem' p j;lt' x y) Q _ from T_<|B7 hi<|T_<|B7 hj<|Ze hc rfl (hp.at _) (hp.at _) h)
def Sz{i j:Nat}{Q:Unit->l_->Prop}(h:∀a,a.toList.Perm p.toList->Q () (SZq κ a pd g)):wpS (model prog w) A E s (reverseSlice' i j) Q (SZq κ p pd g):=by rw[reverseSlice'_eq];exact fB<|h _ (mirror_perm p i j _).toList
def Gh{p q:oC lW}(h:q.toList.Perm p.toList):q.size=p.size:=by have:=h.length_eq;rwa[dS,dS]at this
def HD{e:Type}{d m:Nat}{st:l_}(h1:1<=m)(hm:m<=d){F:Nat->oB e×Nat->StateT l_ Sem (ForInStep<|oB e×Nat)}
  (f:∀x k (Q:ForInStep (oB e×Nat)->l_->Prop),1<=k->k<d->Q (.done (none,k)) st->Q (.yield (none,k+1)) st->wpS (model prog w) A E s (F x (none,k)) Q st)
  {Q:oB e×Nat->l_->Prop} (h:∀k,1<=k->k<=d->Q (none,k) st):wpS (model prog w) A E s (forIn [m:d] ((none,m):oB e×Nat) F) Q st:=by
 refine gC (gK (I:=λx c b=>b=st/\c=(none,x)/\1<=x/\x<=d) (Q:=λc b=>b=st/\∃k,c=(none,k)/\1<=k/\k<=d) ?_ ?_ ⟨rfl,rfl,h1,hm⟩) ?_;rintro x c b _ hx ⟨rfl,rfl,a,a2⟩;exact f x x _ a hx ⟨rfl,x,rfl,a,a2⟩ ⟨rfl,rfl,bA a,hx⟩;rintro c b ⟨rfl,rfl,a,a2⟩;exact⟨rfl,_,rfl,a,a2⟩;rintro c b ⟨rfl,k,rfl,a,a2⟩;exact h k a a2
def Zi(hc:E9 prog w A κ vs s)(hp:AOk vs p){lo a m:Nat}(h1:1<=m)(hm:m<=a)(n:lo+a<=p.size){Q:oB Nat->l_->Prop}
  (j:∀k d,1<=k->k<=a->d.toList.Perm p.toList->Q (some k) (SZq κ d pd g)):wpS (model prog w) A E s (Yf lo a m) Q (SZq κ p pd g):=by
 unfold Yf;refine T_<|Sz λd b=>?_;have hz:=Gh b;refine T_ (HD h1 hm (λx k l e f i h=>T_<|Iw hc (hp.pm b) (by omega) (by omega) λc=>?_) λk e f=>W_<|j k _ e f b);cases c;exact W_ h;exact W_ i
def Zj(hc:E9 prog w A κ vs s)(hp:AOk vs p){lo f m:Nat}(h1:1<=m)(hm:m+1<=f)(y:lo+f<=p.size){Q:oB Nat->l_->Prop}
  (r:∀k a,1<=k->k<=f->a.toList.Perm p.toList->Q (some k) (SZq κ a pd g)):wpS (model prog w) A E s (Yg lo f m) Q (SZq κ p pd g):=by
 unfold Yg;refine T_<|lA<|eC ⟨rfl,?_⟩;refine T_<|gC (gK (I:=λx c e=>∃a q,e=SZq κ a pd g/\c=(none,x,q)/\a.toList.Perm p.toList/\1<=x/\x<=f) (Q:=λc e=>∃a k q,e=SZq κ a pd g/\c=(none,k,q)/\a.toList.Perm p.toList/\1<=k/\k<=f) ?_ ?_ ⟨p,0,rfl,rfl,.refl _,bA h1,hm⟩) ?_
 ·rintro x c e _ hx ⟨a,q,rfl,rfl,K,b,d⟩;have h:=hp.pm K;have hz:=Gh K;dsimp only;refine T_ (Iw hc h (by omega) (by omega) λv=>?_);dsimp only;cases v with
  |true=>rw[P_ rfl];by_cases hq:q>0;rw[P_ hq];exact T_<|Sz λt i=>W_ ⟨t,0,rfl,rfl,i.trans K,bA b,hx⟩;rw[H_ hq];exact W_ ⟨a,0,rfl,rfl,K,bA b,hx⟩
  |false=>rw[H_ U_];refine T_ (Iw hc h (by omega) (by omega) λu=>?_);cases u;exact W_ ⟨a,_,rfl,rfl,K,bA b,hx⟩;exact W_ ⟨a,x,q,rfl,rfl,K,b,d⟩
 rintro c e ⟨a,q,rfl,rfl,K,b,d⟩;exact⟨a,_,q,rfl,rfl,K,b,d⟩;rintro c e ⟨a,k,q,rfl,rfl,K,b,d⟩;have h:=hp.pm K;have hz:=Gh K;dsimp only;by_cases hq:q>0;rw[P_ hq];exact T_ (Sz λt i=>Zi hc (h.pm i) b d (by rw[Gh i];omega) λn l j a2 o=>r n l j a2<|o.trans<|i.trans K);rw[H_ hq];exact Zi hc h b d (by omega) λn l j a2 o=>r n l j a2<|o.trans K
def ER(hc:E9 prog w A κ vs s)(hp:AOk vs p){lo b:Nat}(h1:1<=b)(j:lo+b<=p.size){Q:oB Nat->l_->Prop}
  (d:∀k l,1<=k->k<=b->l.toList.Perm p.toList->Q (some k) (SZq κ l pd g)):wpS (model prog w) A E s (countRun' lo b) Q (SZq κ p pd g):=by
 rw[Na];refine T_ (HD (F_ 1) h1 (λx k u a h o m=>T_<|Iw hc hp (by omega) (by omega) λc=>?_) λk a h=>?_);cases c;exact W_ m;exact W_ o;dsimp only;by_cases e:k=b;rw[P_<|by simpa using e];exact W_<|d k p a h<|.refl _;rw[H_<|by simpa using e];by_cases i:k>1
 ·rw[P_ i];refine T_ (Iw hc hp (by omega) (by omega) λc=>?_);dsimp only;cases c with
  |true=>exact W_ (d k p a h<|.refl _)
  |false=>rw[H_ U_];exact T_<|Sz λv f=>Zj hc (hp.pm f) a (by omega) (by rw[Gh f];exact j) λq n t a2 r=>d q n t a2<|r.trans f
 rw[H_ i];exact Zj hc hp a (by omega) j d
def Zk(hc:E9 prog w A κ vs s)(hp:AOk vs p){lo m ok:Nat}(hm:ok<=m)(n:lo+m<=p.size){Q:Bool->l_->Prop}
  (h:∀a,a.toList.Perm p.toList->Q true (SZq κ a pd g)):wpS (model prog w) A E s (binarySort' lo m ok) Q (SZq κ p pd g):=by
 rw[binarySort'_eq];refine T_<|gC (gK (I:=λx c b=>∃a,b=SZq κ a pd g/\c=(none,())/\a.toList.Perm p.toList) (Q:=λc b=>∃a,b=SZq κ a pd g/\c=(none,())/\a.toList.Perm p.toList) ?_ (λ_ _ z=>z) ⟨p,rfl,rfl,.refl _⟩) ?_;rintro x c b f hx ⟨a,rfl,rfl,K⟩;have d:=hp.pm K;have hz:=Gh K;refine T_<|MF (m:=x) (λy l r j o a2 i hy=>?_) (bH _) (F_ _) (F_ _) λk hk=>?_;dsimp only;by_cases e:l>=r;rw[P_ e];exact W_ (i<|by omega);rw[H_ e];refine T_ (Iw hc d (by omega) (by omega) λc=>?_);cases c;exact W_ (hy _ _ (by omega) a2<|by omega);exact W_ (hy _ _ (by omega) (by omega)<|by omega);dsimp only;rw[moveDown'_eq];exact T_<|fB<|W_ ⟨_,rfl,rfl,((bubble_perm a _ _).toList).trans K⟩;rintro c b ⟨a,rfl,rfl,K⟩;exact W_<|h a K
def Ku(hc:E9 prog w A κ vs s)(hp:AOk vs p){i hi:Nat}(r:Chain pd.toList 0 hi)(I:hi<=p.size)(j:i+1<pd.size){Q:Bool->l_->Prop}
  (h:∀d e m,d.toList.Perm p.toList->Chain e.toList 0 hi->e.size+1=pd.size->Q true (SZq κ d e m)):wpS (model prog w) A E s (mergeAt' i) Q (SZq κ p pd g):=by
 have a:pd[i]?=some pd[i]:=bQ<|cN j;have b:pd[i+1]?=some pd[i+1]:=bQ j;generalize pd[i]'(cN j)=ea at a;generalize pd[i+1]=eb at b;obtain⟨l,n,t⟩:=ea;obtain⟨D,f,G⟩:=eb;have F:pd.toList[i]?=some (l,n,t):=by rw[bT];exact a
 have y:pd.toList[i+1]?=some (D,f,G):=by rw[bT];exact b
 have v:=O0 F y;rw[v]at r;obtain⟨k,B,H,o,C,x,u⟩:=Chain.app.mp r;subst H;subst C;have z:=u.le;refine Vh hc hp a b o x (by omega) λd m K=>?_;have q:=EC (c:=(l,n+f,t)) a b;refine h d _ m K ?_ ?_;rw[q];exact Chain.app.mpr ⟨l,B,rfl,S_ o<|dP n f,by rw[<- Nat.add_assoc];exact u⟩;have:=bV List.length q;have hz:=bV List.length v;simp only[List.length_append,List.length_cons,Array.length_toList]at this hz;omega
def Chain.pu{lo m:Nat}(h:Chain pd.toList 0 lo)(hm:0<m):Chain (pd.push (lo,m,0)).toList 0 (lo+m):=by rw[Array.toList_push];exact Chain.app.mpr ⟨lo,h,rfl,hm,rfl⟩
end
section
variable {p:oC lW}{pd:oC<|Nat×Nat×Nat}{g:Nat}
def Ni{b d e τ:Type}{N:Nat}{f:Nat->d->StateT b Sem (ForInStep d)}{k:d->StateT b Sem τ}{Q:τ->b->Prop}{S:e->b}{C:e->d}{I:Nat->e->Prop}{J:e->Prop}{st:b}{c:d}(l:e)(m:st=S l)(hc:c=C l)(h0:I 0 l)
  (step:∀x i,x<N->I x i->wpS (model prog w) A E s (f x<|C i) (λz a=>match z with
   |.done c=>∃i,a=S i/\c=C i/\J i
   |.yield c=>∃i,a=S i/\c=C i/\I (x+1) i) (S i))
  (j:∀i,I N i->J i) (n:∀i,J i->wpS (model prog w) A E s (k<|C i) Q (S i)):wpS (model prog w) A E s (forIn [0:N] c f>>=k) Q st:=by
 refine T_<|gC (gK (I:=λx c a=>∃i,a=S i/\c=C i/\I x i) (Q:=λc a=>∃i,a=S i/\c=C i/\J i) ?_ ?_ ⟨l,m,hc,h0⟩) ?_;rintro x c a _ hx ⟨i,rfl,rfl,h⟩;refine gC (step x i hx h) ?_;rintro(c|c) a hh<;>exact hh;rintro c a ⟨i,h1,h2,h⟩;rw[Nat.zero_max]at h;exact⟨i,h1,h2,j i h⟩;rintro c a ⟨i,rfl,rfl,h⟩;exact n i h
def Ro(hc:E9 prog w A κ vs s)(hp:AOk vs p){Q:Unit->l_->Prop}(V:∀F H g',F.toList.Perm p.toList->Q () (SZq κ F H g')):wpS (model prog w) A E s sortRuns' Q (SZq κ p #[] g):=by
 rw[sortRuns'_eq];refine T_<|jC ?_;rw[show arrOf (SZq κ p #[] g)=p from rfl];generalize P:p.size=N;dsimp only;generalize minRun' N N 0=mr;refine Ni (S:=λi:oC lW×oC (Nat×Nat×Nat)×Nat×Nat=>SZq κ i.1 i.2.1 i.2.2.1) (C:=λi=>(none,i.2.2.2)) (I:=λx i=>i.1.toList.Perm p.toList/\Chain i.2.1.toList 0 i.2.2.2/\i.2.2.2<=N/\x<=i.2.2.2) (J:=λi=>i.1.toList.Perm p.toList/\Chain i.2.1.toList 0 N) (p,#[],g,0) rfl rfl ⟨.refl _,rfl,bH _,F_ _⟩ (λx i hx h=>?_) (λi h=>?_) λi h=>?_
 ·have hz:=Gh h.1;dsimp only;by_cases e:i.2.2.2>=N;rw[P_ e];have U:i.2.2.2=N:=Nat.le_antisymm h.2.2.1 e;exact W_ ⟨i,rfl,rfl,h.1,U ▸ h.2.1⟩;rw[H_ e];refine T_ (ER hc (hp.pm h.1) (show 1<=N-i.2.2.2 by omega) (by omega) λk D Z k2 l=>?_);have z1:=Gh l;dsimp only;by_cases b:k<mr
  ·rw[P_ b];refine T_<|lA<|eC ⟨rfl,?_⟩;refine T_ (Zk hc ((hp.pm h.1).pm l) (m:=min (N-i.2.2.2) mr) (by omega) (by omega) λq Kb=>?_);rw[H_<|show ¬(!true)=true by decide];have hq:q.toList.Perm p.toList/\1<=min (N-i.2.2.2) mr/\i.2.2.2+min (N-i.2.2.2) mr<=N:=⟨Kb.trans<|l.trans h.1,by omega,by omega⟩;refine T_<|jC ?_;show wpS _ _ _ _ (match i.2.1.back? with
    |some (v,t,_)=>_
    |_=>_) _ _
   have f:x+1<=i.2.2.2+min (N-i.2.2.2) mr:=Nat.add_le_add h.2.2.2 hq.2.1;cases eb:i.2.1.back? with
   |none=>dsimp only;exact T_ (fB<|W_ ⟨(q,_,i.2.2.1,_),rfl,rfl,hq.1,h.2.1.pu hq.2.1,hq.2.2,f⟩)
   |some e=>obtain⟨v,t,T⟩:=e;dsimp only;refine Ni (S:=λj:oC lW×oC (Nat×Nat×Nat)×Nat=>SZq κ j.1 j.2.1 j.2.2) (C:=λ_=>(none,())) (I:=λ_ j=>j.1.toList.Perm p.toList/\Chain j.2.1.toList 0 i.2.2.2) (J:=λj=>j.1.toList.Perm p.toList/\Chain j.2.1.toList 0 i.2.2.2) (q,i.2.1,i.2.2.1) rfl rfl ⟨hq.1,h.2.1⟩ (λy j _ W=>?_) (λ_ W=>W) λj W=>?_;refine T_<|jC ?_;rw[show pendingOf (SZq κ j.1 j.2.1 j.2.2)=j.2.1 from rfl];by_cases d:j.2.1.size>1;rw[P_ d,bQ<|by omega];generalize j.2.1[j.2.1.size-2]'(by omega)=e3;obtain⟨G,Y,R⟩:=e3;dsimp only;split;exact W_ ⟨j,rfl,rfl,W⟩;refine T_ (Ku hc (hp.pm W.1) (i:=j.2.1.size-2) W.2 (by rw[Gh W.1];omega) (by omega) λr a B z o _=>?_);rw[H_<|show ¬(!true)=true by decide];exact W_ ⟨(r,a,B),rfl,rfl,z.trans W.1,o⟩;rw[H_ d];exact W_ ⟨j,rfl,rfl,W⟩;dsimp only;refine T_<|fB<|T_<|fB<|W_ ⟨(j.1,_,j.2.2,_),rfl,rfl,W.1,Chain.pu ?_ hq.2.1,hq.2.2,f⟩;show Chain (j.2.1.modify (j.2.1.size-1) _).toList 0 _;rw[Array.toList_modify];refine Chain.mod ?_ W.2;exact λe=>⟨rfl,rfl⟩
  ·rw[H_ b];have hq:D.toList.Perm p.toList/\1<=k/\i.2.2.2+k<=N:=⟨l.trans h.1,Z,by omega⟩;refine T_<|jC ?_;show wpS _ _ _ _ (match i.2.1.back? with
    |some (v,t,_)=>_
    |_=>_) _ _
   have f:x+1<=i.2.2.2+k:=Nat.add_le_add h.2.2.2 hq.2.1;cases eb:i.2.1.back? with
   |none=>dsimp only;exact T_ (fB<|W_ ⟨(D,_,i.2.2.1,_),rfl,rfl,hq.1,h.2.1.pu hq.2.1,hq.2.2,f⟩)
   |some e=>obtain⟨v,t,T⟩:=e;dsimp only;refine Ni (S:=λj:oC lW×oC (Nat×Nat×Nat)×Nat=>SZq κ j.1 j.2.1 j.2.2) (C:=λ_=>(none,())) (I:=λ_ j=>j.1.toList.Perm p.toList/\Chain j.2.1.toList 0 i.2.2.2) (J:=λj=>j.1.toList.Perm p.toList/\Chain j.2.1.toList 0 i.2.2.2) (D,i.2.1,i.2.2.1) rfl rfl ⟨hq.1,h.2.1⟩ (λy j _ W=>?_) (λ_ W=>W) λj W=>?_;refine T_<|jC ?_;rw[show pendingOf (SZq κ j.1 j.2.1 j.2.2)=j.2.1 from rfl];by_cases d:j.2.1.size>1;rw[P_ d,bQ<|by omega];generalize j.2.1[j.2.1.size-2]'(by omega)=e3;obtain⟨G,Y,R⟩:=e3;dsimp only;split;exact W_ ⟨j,rfl,rfl,W⟩;refine T_ (Ku hc (hp.pm W.1) (i:=j.2.1.size-2) W.2 (by rw[Gh W.1];omega) (by omega) λr a B z o _=>?_);rw[H_<|show ¬(!true)=true by decide];exact W_ ⟨(r,a,B),rfl,rfl,z.trans W.1,o⟩;rw[H_ d];exact W_ ⟨j,rfl,rfl,W⟩;dsimp only;refine T_<|fB<|T_<|fB<|W_ ⟨(j.1,_,j.2.2,_),rfl,rfl,W.1,Chain.pu ?_ hq.2.1,hq.2.2,f⟩;show Chain (j.2.1.modify (j.2.1.size-1) _).toList 0 _;rw[Array.toList_modify];refine Chain.mod ?_ W.2;exact λe=>⟨rfl,rfl⟩
 have e:i.2.2.2=N:=Nat.le_antisymm h.2.2.1 h.2.2.2;exact⟨h.1,e ▸ h.2.1⟩;dsimp only;refine Ni (S:=λj:oC lW×oC (Nat×Nat×Nat)×Nat=>SZq κ j.1 j.2.1 j.2.2) (C:=λ_=>(none,())) (I:=λ_ j=>j.1.toList.Perm p.toList/\Chain j.2.1.toList 0 N) (J:=λj=>j.1.toList.Perm p.toList/\Chain j.2.1.toList 0 N) (i.1,i.2.1,i.2.2.1) rfl rfl h (λx j _ W=>?_) (λ_ W=>W) λj W=>W_<|V j.1 j.2.1 j.2.2 W.1;refine T_<|jC ?_;rw[show pendingOf (SZq κ j.1 j.2.1 j.2.2)=j.2.1 from rfl];by_cases b:j.2.1.size<=1;rw[P_ b];exact W_ ⟨j,rfl,rfl,W⟩;rw[H_ b];refine T_ (Ku hc (hp.pm W.1) W.2 (by rw[Gh W.1];exact gG<|Eq.symm P) ?_ λX n M O L _=>?_);have u:∀(c:Prop) [Decidable c],(if c then j.2.1.size-2-1 else j.2.1.size-2)+1<j.2.1.size:=λc _=>by by_cases h:c;rw[P_ h];omega;rw[H_ h];omega
 exact u _
 rw[H_<|show ¬(!true)=true by decide];exact W_ ⟨(X,n,M),rfl,rfl,O.trans W.1,L⟩
end
def UD(hc:E9 prog w A κ vs s){Q:l_->lK->Prop}(b:∀st:l_,(arrOf st).toList.Perm (vs.toArray.zip vs.toArray).toList->failedOf st=none->Q st s) :
  yL prog w A ((sortRuns').run<|SortSt.mk' κ (vs.toArray.zip vs.toArray) #[] 7 none) (λr a=>Q r.2 a) E s:=by
 refine bU (Ro (E:=E) (g:=7) hc (λx hx=>?_) (Q:=λ_ st=>Q st s) λf c d K=>b _ K rfl) (λr a h=>?_) λ_ _ e=>e;rw[Array.toList_zip]at hx;exact(iA hx).1;obtain⟨rfl,h⟩:=h;exact h
end
section
variable {prog:lO}{w:lP}{A:lR}{E:lJ->lK->Prop}{s:lK}{X:Cx}{aa:oA<|lM×lT}{σ:St}{H:Hp}{k:Nat}
def Rp{a:lM}{d:oA lJ}{n:Nat}{P:PySem.Fin->lK->Prop}(m:s.heap.get? a=some (seqObj "list" d.toArray n)) (D:d.length<1000000)
  (hk:2<=d.length->∀h':lS,(∀b o,b≠a->s.heap.get? b=some o->h'.get? b=some o)->∃ j,(∀Q:mC->lK->Prop,Q j {s with heap:=h'}->yL prog w A (keyKind' d.toArray) Q E {s with heap:=h'})/\E9 prog w A j d {s with heap:=h'})
  (h:∀(v:oA lJ) (h':lS) (c:Nat),v.Perm d->(∀b o,b≠a->s.heap.get? b=some o->h'.get? b=some o)->h'.get? a=some (seqObj "list" v.toArray c)->P (.done<|.ret .none) {s with heap:=h'}) :
  yL prog w A (Builtin.«list.sort» ⟨[.ref a],[]⟩) P E s:=by
 obtain⟨l,g⟩:∃l,(s.heap.update a<|Obj.mapSeq λ_=>(#[]:oC lJ)).get? a=some (seqObj "list" #[] l):=⟨_,get?_update_seq m λ_=>#[]⟩;have i:d.toArray.size<=sizeLine:=by rw[X_];exact I_ (eB D)<|by decide
 have t:∀b o,b≠a->s.heap.get? b=some o->(((s.heap.update a<|Obj.mapSeq λ_=>(#[]:oC lJ)).push<|seqObj "tuple" d.toArray 0).push<|seqObj "list" #[] 0).get? b=some o:=λb o hb e=>
  DD _ (DD _<|((bF s.heap a _).2 b hb).trans e)
 have f:(((s.heap.update a<|Obj.mapSeq λ_=>(#[]:oC lJ)).push<|seqObj "tuple" d.toArray 0).push<|seqObj "list" #[] 0).get? a=some (seqObj "list" #[] l):=DD _<|DD _ g;rw[list_sort_plain];refine A_ (listItems_at m rfl<|A_<|listUpdate_at m rfl (A_<|seqEpoch_at g rfl<|A_<|wpAny_newTuple (A_<|wpAny_newList (bM ?_)<|bH _)<|by simpa using i) i<|bH _);show yL prog w A _ P E {s with heap:=(((s.heap.update a<|Obj.mapSeq λ_=>(#[]:oC lJ)).push<|seqObj "tuple" d.toArray 0).push<|seqObj "list" #[] 0)};generalize ((s.heap.update a<|Obj.mapSeq λ_=>(#[]:oC lJ)).push<|seqObj "tuple" d.toArray 0).push (seqObj "list" #[] 0)=h2 at t f ⊢;dsimp only;have u:((d.toArray.zip d.toArray).toList.map (·.2))=d:=by rw[Array.toList_zip];exact List.map_snd_zip<|F_ _
 have x:∀st:l_,(arrOf st).toList.Perm (d.toArray.zip d.toArray).toList->P (.done<|.ret .none) {s with heap:=h2.update a<|Obj.mapSeq λ_=>(arrOf st).map (·.2)}/\((arrOf st).map (·.2)).size=d.length:=λst hp=>by
  have pv:((arrOf st).map (·.2)).toList.Perm d:=by rw[Array.toList_map,<- u];exact(hp.map _).trans<|by rw[u]
  refine⟨h _ _ _ pv (λb o hb B=>((bF h2 a _).2 b hb).trans<|t b o hb B)<|get?_update_seq f _,?_⟩;rw[<- dS];exact pv.length_eq
 by_cases h1:d.toArray.size<2;rw[P_ h1,P_ h1];refine A_<|C_ ?_;rw[StateT.run_pure];obtain⟨p,q⟩:=x (SortSt.mk' general' (d.toArray.zip d.toArray) #[] 7 none)<|.refl _;refine A_<|C_<|A_<|seqEpoch_at f rfl<|A_<|listUpdate_at f rfl ?_ (bH _) ?_;rw[show failedOf (SortSt.mk' general' (d.toArray.zip d.toArray) #[] 7 none)=none from rfl,bne_self_eq_false,H_ U_];exact C_ p;refine I_ ?_<|bA i;rw[X_];exact gG q;rw[H_ h1,H_ h1];obtain⟨j,C,z⟩:=hk (by rw[X_]at h1;exact Nat.le_of_not_lt h1) h2 t;refine A_<|C _<|A_<|bU (UD z (Q:=λst y=>y={s with heap:=h2}/\(arrOf st).toList.Perm (d.toArray.zip d.toArray).toList/\failedOf st=none) λst hp r=>⟨rfl,hp,r⟩) ?_ λ_ _ e=>e;rintro⟨⟨⟩,st⟩ y ⟨rfl,hp,r⟩;dsimp only;obtain⟨p,q⟩:=x st hp;refine A_<|seqEpoch_at f rfl<|A_<|listUpdate_at f rfl ?_ (bH _) ?_;rw[r,bne_self_eq_false,H_ U_];exact C_ p;refine I_ ?_<|bA i;rw[X_];exact gG q
def Nj{v:lJ}{Q:lJ->lK->Prop}(g:yL prog w A.in1 (collect v) (λd a=>d.length<1000000 /\
   (2<=d.length->∀h':lS,(∀b o,a.heap.get? b=some o->h'.get? b=some o)->∃ j,(∀Q:mC->lK->Prop,Q j {a with heap:=h'}->yL prog w A.in1.in1 (keyKind' d.toArray) Q E {a with heap:=h'})/\E9 prog w A.in1.in1 j d {a with heap:=h'}) /\
   ∀(f:oA lJ) (h':lS) (l c:Nat),f.Perm d->a.heap.objs.size<=l->(∀b o,a.heap.get? b=some o->h'.get? b=some o)->h'.get? l=some (seqObj "list" f.toArray c)->Q (.ref l) {a with heap:=h'}) E s) :
  yL prog w A (call (.builtin "sorted") [v]) Q E s:=by
 refine Calls.call_function_entry kind_sorted plain_sorted entry_sorted (args_sorted1 _) ?_;unfold Builtin.«sorted»;refine A_ (m:=checkCount "sorted" 1 1 _)<|C_<|A_<|bU g (λd a hx=>?_) λ_ _ e=>e;obtain⟨n,hk,h⟩:=hx;have t:d.length<=sizeLine:=I_ (eB n) (by decide);have p:(a.heap.push<|seqObj "list" d.toArray 0).get? a.heap.objs.size=some (seqObj "list" d.toArray 0):=O_ _ rfl;refine A_<|wpAny_newList (A_<|bM<|aW slot_list_sort ⟨_,p,rfl⟩ entry_list_sort ?_<|args_list_sort _) t;have i:∀(h':lS),(∀b o,b≠a.heap.objs.size->(a.heap.push<|seqObj "list" d.toArray 0).get? b=some o->h'.get? b=some o)->∀b o,a.heap.get? b=some o->h'.get? b=some o:=λh' k b o q=>k b o (aM<|Q_ q)<|DD _ q;exact Rp (s:={a with heap:=a.heap.push<|seqObj "list" d.toArray 0}) p n (λh2 h' k=>hk h2 h'<|i h' k) λf h' c r k e=>⟨_,rfl,C_ ⟨_,rfl,h f h' _ c r (F_ _) (i h' k) e⟩⟩
structure SortOkP(ds:oA lL):Prop where
 len:ds.length<1000000
 can:PyData.canLayAll0 ds=true
 dp:PyData.depthAll ds<=64
 fst:∀d∈ds,∃i r,d=.tuple (.int i::r)
 cmp:∀d∈ds,∀e∈ds,cmpb d e=true
theorem Zl{h:lS}{v:lJ}:∀{a:oA lJ} {ds:oA lL} {as:oA lM},ReadsAll h a ds as->v∈a->∃d∈ds,∃c,Reads h v d c
 |_,_,_,.cons r t,hv=>by rcases aK.mp hv with rfl|hv;exact⟨_,.head _,_,r⟩;obtain⟨d,e,b⟩:=Zl t hv;exact⟨d,.tail _ e,b⟩
def ES{b:oA lJ}{ds:oA lL}{B:oA lM}(ok:SortOkP ds)(rd:ReadsAll s.heap b ds B)(h2:2<=ds.length)(hu:A.units+64<cLine):∃ c,(∀Q:mC->lK->Prop,Q c s->yL prog w A (keyKind' b.toArray) Q E s)/\E9 prog w A c b s:=by
 have M:=Sq rd;obtain⟨O,z,I,j⟩:=O1 rd ok.fst;refine⟨tuples' true,λQ q=>?_,λu o v hv'=>?_⟩;refine PySem.W.kat_kind (T:=.type "int") z (by omega) (λv hv=>?_) rfl q;obtain⟨i,t,rfl⟩:=j v hv;exact PySem.W.Looks.of_pure rfl
 ·obtain⟨d,a,g,n⟩:=Zl rd o;obtain⟨e,he,f,h⟩:=Zl rd hv';have D:=Hj ok.can _ a;have r:=Hj ok.can _ he;have l:=ok.cmp _ a _ he;have m:=I_ (L9 _ a) ok.dp;obtain⟨N,P,rfl⟩:=ok.fst d a;obtain⟨J,L,rfl⟩:=ok.fst e he;cases n with
  |tuple y a2 G p=>
   cases h with
   |tuple g f F x=>exact⟨_,λC q=>LK (.tuple y a2 G p) (.tuple g f F x) D r l hu m q⟩
theorem UE{K:lN}{H:Hp}:∀{ds:oA lL} {c:oA V} {b:oA lJ},Ap K H ds c->Vals c b->∃a:oA<|lL×V×lJ,ds=a.map (·.1)/\b=a.map (·.2.2)/\∀z∈a,Dk K H z.1 z.2.1/\Bf z.2.1 z.2.2
 |[],c,b,h,r=>by have e:=h.nil;subst e;cases r;exact⟨[],rfl,rfl,λ_ z=>nomatch z⟩
 |d::ds,c,b,h,r=>by
  obtain⟨x,j,rfl,h1,h2⟩:=Ap.cons (K:=K) (H:=H) h;cases r with
  |cons i f=>obtain⟨a,rfl,rfl,g⟩:=UE h2 f;refine⟨(d,x,_)::a,rfl,rfl,λy hy=>?_⟩;rcases aK.mp hy with rfl|hy;exact⟨h1,i⟩;exact g y hy
theorem Zm{K:lN}{H:Hp}:∀{zs:oA<|lL×V×lJ},(∀z∈zs,Dk K H z.1 z.2.1/\Bf z.2.1 z.2.2)->Ap K H (zs.map (·.1)) (zs.map (·.2.1))/\Vals (zs.map (·.2.1)) (zs.map (·.2.2))
 |[],_=>⟨Db,.nil⟩
 |z::zs,h=>by obtain⟨a,b⟩:=Zm λy hy=>h y<|.tail _ hy;obtain⟨c,d⟩:=h z<|.head _;exact⟨Ci c a,.cons d b⟩
def Pe:AC:=λe b R=>match e with
 |[.R a]=>opt (b a) λm=>match m with
  |.lst d=>opt (dats d) λc=>SortOkP c/\∀(es:oA lL) (p:lM),es.Perm c->b p=none->R (.R p) (Ao b p<|.lst<|es.map .D)
  |_=>False
 |_=>False
def Ix(hr:Room k X.A):VCall X (.builtin "sorted") Pe:=by
 intro aa s σ H xs S Q I r i;refine B5 i λas μ R Z hc h hq=>?_;unfold Pe at h;split at h
 ·rename_i a;cases Z with
  |cons r1 r2=>
  cases r2;obtain⟨m,T,h⟩:=A5 h;split at h;rename_i n;obtain⟨L,O,ok,h⟩:=A5 h;obtain⟨o,W,U,rfl,M⟩:=hc _ _ T;cases r1;obtain⟨u,rfl,F⟩:=Ew r;cases F;obtain⟨J,B,pl,hz⟩:=I.list<|Ei.of (K:=X.K) W;have dk:=M.dats O;obtain⟨bs,rd⟩:=Ap.reads I L U J dk B;obtain⟨g,rfl,rfl,v⟩:=UE dk B;have P:=Sq rd;have C:(g.map (·.2.2)).length<1000000:=by rw[P];exact ok.len
  have D:(g.map (·.2.2)).length<=sizeLine:=I_ (eB C) (by decide);have d:∀b o,s.heap.get? b=some o->((s.heap.push<|seqObj "list" #[] 0).update s.heap.objs.size<|Obj.mapSeq (·++(g.map (·.2.2)).toArray)).get? b=some o:=λb o q=>
   ((bF (s.heap.push<|seqObj "list" #[] 0) s.heap.objs.size _).2 b<|aM<|Q_ q).trans (DD _ q)
  refine Nj<|collect_list pl.isList ⟨C,λh2 y t=>?_,λS y l c Y N t e=>?_⟩ D;have hu:=hr.un;exact ES (s:={s with heap:=y,toks:=s.toks}) ok (Ir (λb o q=>t b o<|d b o q) rd) (by omega) (by show X.A.units+1+1+64<_;omega);obtain⟨n,rfl,x⟩:=Fj Y g rfl;obtain⟨V,hv⟩:=Zm λz hz=>v z<|x.mem_iff.mp hz;have j:s.heap.objs.size<=l:=by refine I_ ?_ N;rw[dC];exact I_ (cF _)<|gG (cB _ _).symm
  have G:(n.map (·.2.1)).length<=sizeLine:=by rw[B_,x.length_eq,<- B_ (f:=(·.2.2)) (as:=g)];exact D
  have p:=I.hok.fresh j;refine⟨.ref l,_,I.laid (t':=s.toks) (λb o q=>t b o<|d b o q) j<|show Bh X.prog X.w _ y _ (.lst<|n.map (·.2.1)) from⟨G,_,c,hv,e⟩,rfl,?_⟩;exact hq _ _ _ _ (Kp.new p _) (hc.new p<|Dh V.rel) Ea<|h (n.map (·.1)) l (x.map _)<|hc.none p;exact h.elim
 exact h.elim
end
end L2
namespace L2
open PySem PySem.Spec PySem.Calls PyProof.Rows
abbrev Qc7:=oA AV->M->(AV->M->Prop)->(M->Prop)->Prop
def zk(k:Int):Key×V:=(.inl k,.int 0)
def fsb(N P:oA Str)(sc:lX):Bool:=sc.kind==.function && !sc.isCoroutine && !sc.isGenerator&&decide N.Nodup&&decide (N.take P.length=P)&&P.all (λx=>sc.names.lookup x==some .local||sc.names.lookup x==some .cell)&&sc.names.all λy=>y.2 != .free
def Bm{N P:oA Str}{sc:lX}(h:fsb N P sc=true):FnScope N P sc:=by unfold fsb at h;simp only[Bool.and_eq_true,Bool.not_eq_true',beq_iff_eq,decide_eq_true_iff,List.all_eq_true,Bool.or_eq_true,bne_iff_ne]at h;exact⟨h.1.1.1.1.1.1,h.1.1.1.1.1.2,h.1.1.1.1.2,h.1.1.1.2,h.1.1.2,h.1.2,h.2⟩
def vNo:AE:=λ_ _ _=>False
def UF(K:lN)(m:Nat)(e:lM)(tb:AX->AS)(g:AS):AS:=λk r b c f d=>
 tb (λC _ a=>PySem.W.mroIn K C (.ref e)=some true/\g k r b c (List.replicate m none) a) k r b c f d
section
variable {X:Cx}{body suite:oA lU}{pos:Pos}{tb:AX->AS}
def UG{e:lQ}:VE X e vNo:=λc s b H Q I z=>B5 z λd a R _ _ h _=>h.elim
def HE:XA X λ_ _ _=>False:=by rintro c b H s a C d e I q R ⟨_,_,_,_,_,_,_,_,_,_,h⟩;exact h.elim
def XH(X:Cx)(d:oA<|lM×lT)(D:Ends)(f:oA ExceptHandler):lJ->lK->Prop:=λe a=>yL X.prog X.w X.A (noteFrame e X.env) (λ_ c=>yL X.prog X.w X.A (setFlight e none) (λ_ b=>
  yL X.prog X.w X.A (handleBy e X.env f) (SP X d D) X.xe b) X.xe c) X.xe a
def Pg{h₀:ExceptHandler}{w:oA ExceptHandler}{EXf:(ASt->M->Prop)->(AV->M->Prop)->(ASt->M->Prop)->(ASt->M->Prop)->AX}(hb:∀t y x,XA (X.taking t y) x->VSs (X.taking t y) body (tb x)) (A:∀d l H s D j nr i m,Inv X d l H s->LE' X.K X.H₀ j nr i m D->XA (X.taking (XH X d D<|h₀::w)<|X.pn++d) (EXf j nr i m)):LD X (.Try body (h₀::w) [] [] pos) λk r b c p n=>tb (EXf k r b c) k r b c p n:=by
 intro d s l H D I z;refine Fc z λp n j nr i m C hc h hq=>?_;refine wpAny_Try_except ?_;have ok:=I.ok;refine bU (hb _ (X.pn++d) _ (A d l H s D j nr i m I hq) [] s l H D I.take ⟨p,n,_,_,_,_,C,hc,h,hq.kp I.kp0⟩) (λfl E o=>?_) λe E he=>he;cases fl with
 |ret u=>obtain⟨v,a,f,g,B,q⟩:=o;exact⟨v,a,f,g.untake ok,B,q⟩
 |next=>obtain⟨a,f,g,q⟩:=o;exact gL ⟨a,f,g.untake ok,q⟩
 |_=>obtain⟨a,f,g,q⟩:=o;exact⟨a,f,g.untake ok,q⟩
def Zn{h₀:ExceptHandler}{c:oA ExceptHandler}{t:AS}(hb:∀a b,VSs (X.taking a b) body t):LD X (.Try body (h₀::c) [] [] pos) t :=
 Pg (tb:=λ_=>t) (EXf:=λ_ _ _ _ _ _ _=>False) (λa b _ _=>hb a b) λ_ _ _ _ _ _ _ _ _ _ _=>HE
def Zo{g:lU}{x:Str}{p p2:Pos}{j:lM}{B:AS}(hb:∀G M P,XA (X.taking G M) P->VSs (X.taking G M) body (tb P))(Z:∀e,VSs (X.suite e) (g::suite) B) (U:Gl X x) (hm:X.mg x=some (.ref j)) (hD:En X.K j=true) (hB:PySem.W.mroIn X.K j (.type "BaseException")=some true) (m:X.stack=X.env::X.outer) (T:X.env.frame=some X.env.locals) (hdb:(x==("__debug__" : Str))=false:=by decide) :
  LD X (.Try body [.ExceptHandler (some<|.Name x p) none (g::suite) p2] [] [] pos) (UF X.K X.N.length j tb B):=by
 refine Pg (EXf:=λk r b c C _ i=>PySem.W.mroIn X.K C (.ref j)=some true/\B k r b c (List.replicate X.N.length none) i) hb λw σ H s D nk nr nb nc I hq=>?_;have ok:=I.ok;rintro ft f y t a C d vs Y hx R ⟨a',C',fs,i,d',S,ea,_,A,V,l,n⟩;cases S;cases ea;have O:Inv X w f y t:=Y.untake ok;refine Lx (base:=X.base) (outer:=X.outer) (L:=X.env.locals) (by rw[<- m];exact ok.frames) (by rw[<- m];exact O.stack) T R λh' L=>?_;have J:=O.left hx (by rw[m];exact L);obtain⟨bz,Q,_⟩:=L.rc;refine wpAny_handleBy_cons (codeAny_handlers_test ?_) (by intro q;cases q);refine Fd (X:=X.suite a) J.suite U hm ?_ hdb;refine Jj (K:=X.K) J.kIn hD Q.at_ hB l ?_;refine codeAny_handlers_suite<|Ly Q λh2 k2=>?_;have F:Inv X w f y {t with heap:=h2}:=J.kept (t':=t.toks) k2;refine bU (Z a w _ f y D F.suite ⟨_,i,_,_,_,_,?_,V,n,hq.kp F.kp0⟩) (λfl s5 A=>?_) λ_ _ z=>z.elim;rw[<- show f.length=X.N.length from F.len];exact Dq.blank (X:=X) f;cases fl with
 |ret u=>obtain⟨v,h,o,E,q⟩:=A;exact⟨v,h,o,E.unsuite ok,q⟩
 |_=>obtain⟨h,o,E,q⟩:=A;exact⟨h,o,E.unsuite ok,q⟩
end
end L2
namespace L2
open PySem PySem.Spec PyProof.Rows
end L2
abbrev oE(a:PySem.Addr):Option L2.AV:=some<|.R a
abbrev oF(a:Int):Option L2.AV:=some<|.D<|.int a
abbrev oG(a:PySem.PyData):Option L2.AV:=some<|.D a
abbrev oH(a:List L2.AV):Option L2.MO:=some<|.lst a
abbrev oK:List PySem.Str:=["_law_deal_here","_law_many"]
abbrev oM:List PySem.Str:=["game","rule"]
abbrev oN:List PySem.Str:=["groups","least"]
abbrev oP:List PySem.Str:=["tops"]
abbrev oQ:List PySem.Str:=["game"]
abbrev oR:List PySem.Str:=["pairs"]
abbrev oS:List PySem.Str:=["pairs","least"]
abbrev oU:List PySem.Str:=["_law_deal_here","_law_sizes","_law_found"]
abbrev oV:List PySem.Str:=["number","many"]
abbrev oW:List PySem.Str:=["game","k"]
abbrev oX:List PySem.Str:=["arrows","ends","stand","pile"]
abbrev oY:List PySem.Str:=["bits"]
abbrev oZ:List PySem.Str:=["_law_game_here","_law_saying_here"]
abbrev qA:List PySem.Str:=["word","at"]
abbrev qB:List PySem.Str:=["_law_script","_law_base"]
abbrev qC:List PySem.Str:=["_law_deal_here","_law_sizes","_law_hand"]
abbrev qD:List PySem.Str:=["rule"]
abbrev qE:List PySem.Str:=["word","many","most"]
abbrev qF:List PySem.Str:=["places","letters","rules"]
abbrev qG:List PySem.Str:=["_law_deal_here","_law_game_here","_law_own","_law_many","_law_most"]
abbrev qH:List PySem.Str:=["stands"]
abbrev qI:List PySem.Str:=["lows","bits"]
abbrev qJ:List PySem.Str:=["_law_game_here","_law_rule_here"]
abbrev qK:List PySem.Str:=["_law_game_here"]
abbrev qL:List PySem.Str:=["_law_game_here","_law_saying_here","_law_read"]
abbrev qM:List PySem.Str:=["_law_deal_here","_law_hands","_law_letters","_law_many","_law_most"]
abbrev qN:List PySem.Str:=["names"]
abbrev qO:List PySem.Str:=["game","number"]
abbrev qP:List PySem.Str:=["_law_deal_here","_law_stands_here","_law_most"]
abbrev qQ:List PySem.Str:=["arrows","reading","letter"]
abbrev qR:List PySem.Str:=["pairs","others"]
abbrev qS:List PySem.Str:=["arrows"]
abbrev qT:List PySem.Str:=["tops","stand","w","least"]
abbrev qU:List PySem.Str:=["game","tops","least"]
abbrev qV:List PySem.Str:=["kept","found"]
abbrev qW:List PySem.Str:=["kept","waiting"]
abbrev qX:List PySem.Str:=["game","saying","most"]
abbrev qY:List PySem.Str:=["_law_script"]
abbrev qZ:List PySem.Str:=["self","word","at"]
abbrev yA:List PySem.Str:=["_law_cell"]
abbrev yB:List PySem.Str:=["cost","bits"]
abbrev yC:List PySem.Str:=["_law_one","_law_made_here","_law_saying_here"]
abbrev yD:List PySem.Str:=["_law_k","_law_letters","_law_deal_here"]
abbrev yE:List PySem.Str:=["_law_k","_law_deal_here","_law_letters"]
abbrev yF:List PySem.Str:=["_law_k","_law_hand","_law_deal_here"]
abbrev yG:List PySem.Str:=["_law_stand","_law_deal_here"]
abbrev yH:List PySem.Str:=["groups","least","found","group"]
abbrev yI:List PySem.Str:=["rest_cost","rest_bits","cost"]
abbrev yJ:List PySem.Str:=["_law_pile_here","_law_place"]
abbrev yK:List PySem.Str:=["_law_k","_law_saying_here","_law_read","_law_game_here"]
namespace K50
open PySem L2
def top(i:Nat):lU:=PySem.Challenge.pw_pileduel_k50_whole_nothing_is_lost.main.body.getD i<|.Pass ⟨0,0,0,0⟩
abbrev PB:lU:=top 12
abbrev MH:lU:=top 13
abbrev PD:lU:=top 14
abbrev PF:lU:=top 15
abbrev HF:lU:=top 16
abbrev MJ:lU:=top 17
abbrev PH:lU:=top 18
abbrev PJ:lU:=top 20
abbrev MK:lU:=top 21
abbrev PK:lU:=top 22
abbrev PL:lU:=top 23
abbrev PM:lU:=top 24
abbrev PN:lU:=top 25
abbrev PP:lU:=top 26
abbrev PQ:lU:=top 27
abbrev PR:lU:=top 29
abbrev HG:lU:=top 30
abbrev MM:lU:=top 32
abbrev MN:lU:=top 33
abbrev MP:lU:=top 34
abbrev HH:lU:=top 35
abbrev PU:lU:=top 36
abbrev HI:lU:=top 37
abbrev HJ:lU:=top 38
abbrev PV:lU:=top 40
abbrev PX:lU:=top 41
abbrev PY:lU:=top 42
abbrev PZ:lU:=top 44
abbrev MQ:lU:=top 45
abbrev HK:lU:=top 47
abbrev QA:lU:=top 48
abbrev MR:lU:=top 49
abbrev HL:lU:=top 50
abbrev MS:lU:=top 51
abbrev MT:lU:=top 52
abbrev MU:lU:=top 53
abbrev QB:lU:=top 54
abbrev QC:lU:=top 56
abbrev ET:lU:=top 57
abbrev QD:lU:=top 58
abbrev MV:lU:=top 59
abbrev Iy:lU:=top 60
section
variable {P:lO}{w:lP}{K:lN}{mg:Str->oB lJ}{base:lS}{f:lM}{fd:lV}
abbrev Vi:lU:=cdef<|top 2
abbrev Qbe:oA Str:=qZ
def UH:FnScope Qbe qZ (Ad Vi):=Bm<|by decide +kernel
def MW{n:Nat}{C:lM}(F:Fun K "__init__" "NoGame.__init__" Vi f fd) (c:XCls K C) (g:Io K C "word") (d:Io K C "at"):FnOk P w K mg base Dz (n+1) f fd qZ (spI C qA):=by refine F.ok UH (λp H Q E h=>?_) λv A j s H p Q E x h=>?_;obtain⟨e,t,r,rfl,k,_⟩:=h;rw[aX,k];rfl;obtain⟨e,t,r,rfl,k,he,q⟩:=h;obtain⟨u,y,rfl⟩:=DU k;refine⟨_,Jx (RP (pv 0) (pv 1) rfl)<|Ml<|RQ (pv 0) (pv 2) rfl,?_⟩;refine⟨_,rfl,_,rfl,e,C,t,rfl,he,c,g,λm l a=>?_⟩;refine⟨_,rfl,_,rfl,e,C,t,m,_,rfl,by rw[An<|bW a,A3],A3,(show 1<1000 by decide),c,d,?_⟩;refine q _ t m (λb o hb i=>?_) (by rw[An<|bW a,An<|bW a,A3]) (by rw[A3];rfl) a;rw[An<|Bw i l,An<|Bw i l,An hb];exact i
def Hm(i:Int):AV:=.D<|.int i
def G8(a b:Int)(l:lM):MO:=.dk [(.inr "seed",.D<|.int a),(.inr "number",.D<|.int b),(.inr "left",.R l)]
structure PotAt(μ:M)(a l:lM)(sd nm:Int)(ns:oA Int):Prop where
 ha:μ a=some (G8 sd nm l)
 hl:μ l=oH (ns.map Hm)
 s0:0<=sd
 s1:sd<2147483648
 n0:0<=nm
 p0:∀n∈ns,0<=n
 ne:a≠l
def Pot(b:M)(a l:lM):Prop:=∃d c ns,PotAt b a l d c ns
def Qbf:(.inr "seed" : Key)≠.inr "number" := by decide +kernel
def Qbg:(.inr "seed" : Key)≠.inr "left" := by decide +kernel
def Qbh:(.inr "number" : Key)≠.inr "left" := by decide +kernel
def UI:("seed" : Str) ≠ "number" := by decide +kernel
def Qbi:("seed" : Str) ≠ "left" := by decide +kernel
def Qbj:("number" : Str) ≠ "left" := by decide +kernel
def Rq{a b:Int}{l:lM}:dget (G8 a b l) (.str "seed")=some (oF a):=bV some Dv
def HM{b a:Int}{l:lM}:dget (G8 b a l) (.str "number")=some (oF a):=bV some<|(Dd Qbf).trans Dv
def Zp{a b:Int}{l:lM}:dget (G8 a b l) (.str "left")=some (oE l):=bV some<|(Dd Qbg).trans<|(Dd Qbh).trans Dv
def MX{b a v:Int}{l:lM}:dput (G8 b a l) (.str "seed") (.D<|.int v)=some (G8 v a l):=by refine bV some<|bV MO.dk ?_;simp[Er,UI.symm,Qbi.symm]
def HN{a b v:Int}{l:lM}:dput (G8 a b l) (.str "number") (.D<|.int v)=some (G8 a v l):=by refine bV some<|bV MO.dk ?_;simp[Er,UI,Qbj.symm]
def Nk{a b:Int}{l:lM}:dsize (G8 a b l)<sizeLine:=A8 (n:=3)<|by decide
def Bp(a l:lM)(d c:M):Prop:=∀b m,b≠a->b≠l->d b=some m->c b=some m
def Bp.refl{a l:lM}{b:M}:Bp a l b b:=λ_ _ _ _ h=>h
def Bp.trans{a l:lM}{c d g:M}(h:Bp a l c d)(k:Bp a l d g):Bp a l c g:=λb m h1 h2 e=>k b m h1 h2<|h b m h1 h2 e
def Bp.new{a l p:lM}{d c:M}{o:MO}(h:Bp a l d c)(e:c p=none):Bp a l d (Ao c p o):=λb m h1 h2 q=>by have:=h b m h1 h2 q;rw[Ag<|by intro z;subst z;rw[e]at this;cases this];exact this
def Bp.put{a l p:lM}{c d:M}{o:MO}(h:Bp a l c d)(e:c p=none):Bp a l c (Ao d p o):=λb m h1 h2 q=>by rw[Ag<|by intro z;subst z;rw[e]at q;cases q];exact h b m h1 h2 q
def Bp.a{a l:lM}{c d:M}{o:MO}(h:Bp a l c d):Bp a l c (Ao d a o):=λb m h1 h2 q=>by rw[Ag h1];exact h b m h1 h2 q
def Bp.l{a l:lM}{c d:M}{o:MO}(h:Bp a l c d):Bp a l c (Ao d l o):=λb m h1 h2 q=>by rw[Ag h2];exact h b m h1 h2 q
theorem Bp.none{a l p:lM}{b c:M}(h:Bp a l b c)(h1:a≠p)(h2:l≠p)(e:c p=none):b p=none:=by
 cases q:b p with
 |none=>rfl
 |some m=>rw[h p m h1.symm h2.symm q]at e;cases e
def PotAt.other{b:M}{a l p:lM}{d c:Int}{ns:oA Int}{o:MO}(h:PotAt b a l d c ns)(h1:a≠p)(h2:l≠p):PotAt (Ao b p o) a l d c ns :=
 ⟨by rw[Ag h1];exact h.ha,by rw[Ag h2];exact h.hl,h.s0,h.s1,h.n0,h.p0,h.ne⟩
def Pot.other{b:M}{a l p:lM}{o:MO}(h:Pot b a l)(h1:a≠p)(h2:l≠p):Pot (Ao b p o) a l:=by obtain⟨d,c,ns,h⟩:=h;exact⟨d,c,ns,h.other h1 h2⟩
def Pot.ne{b:M}{a l p:lM}(h:Pot b a l)(e:b p=none):a≠p/\l≠p:=by obtain⟨d,c,ns,h⟩:=h;exact⟨λz=>by(subst z;rw[h.ha]at e;cases e),λz=>by(subst z;rw[h.hl]at e;cases e)⟩
def Pot.new{b:M}{a l p:lM}{o:MO}(h:Pot b a l)(e:b p=none):Pot (Ao b p o) a l:=h.other (h.ne e).1 (h.ne e).2
abbrev nDr:oA Str:=["_law_deal_here","_law_many","_law_number","_law_one","_law_other"]
def EU:FnScope nDr oK (Ad QA):=Bm<|by decide +kernel
def Vj:ASp:=λd c R=>∃(a l:lM) (many:Nat),d=[.R a,.D<|.int many]/\Pot c a l/\0<many/\many<=1000000/\∀(v:Nat) (b:M),v<many->Pot b a l->Bp a l c b->R (.D<|.int v) b
def Zq{v:Int}{many:Nat}(h0:0<=v)(h1:v<many):∃n:Nat,v=n/\n<many:=⟨v.toNat,by omega,by omega⟩
def Zr(x:Int){m:Int}(h:0<m):0<=x%m:=iF x<|by omega
def Zs(x:Int){m:Int}(h:0<m)(h2:m<=2147483648):x%m<2147483648:=Int.lt_of_lt_of_le (kM x h) h2
def HP{x:Int}{many:Nat}{Q:Int->Prop}(h0:0<many)(h:∀v:Nat,v<many->Q v):Q (x%many):=by obtain⟨v,a,hv⟩:=Zq (iF x<|show(many:Int)≠0 by omega) (kM x<|show 0<(many:Int) by omega);rw[a];exact h v hv
def UJ{n:Nat}(F:Fun K "_law_draw" "_law_draw" QA f fd) (I:mg "len" = none):FnOk P w K mg base Dz (n+1) f fd oK (Fb K 2 Vj):=by
 refine F.vok EU λap A y s H E k=>⟨_,(Af (Os aO (VW.pt<|Fh (Bd (Eo k) (Du (B9 k) (vv 0) Bt) Ah<|nomark _)<|D5<|Bd Q2 (Av B1 rfl I aG<|Aa (Du (B9 k) (vv 0) Bt) Ae) Ah<|nomark _)<|Ai<|Di (B9 k) (vv 0) Bt<|KM PySem.F.slot_list_pop PySem.F.type_list_pop SG<|Du (B9 k) (vv 0) Bt)<|Af (Aq (i:=2) EU.nd rfl oI<|Du (B9 k) (vv 0) Bt)<|Af (Cl (Bd Q2 (vv 2) Ah<|nomark _) (Af (Di (B9 k) (vv 0) Bt<|Ba KJ (vv 2)<|vv 1)<|Ai<|A6<|Ba Ht (vv 2)<|vv 1) Bi)<|Af (Aq (i:=3) EU.nd rfl oI<|Ba Ht (Ba Cj (Ba Hu (Du (B9 k) (vv 0) Bt) Ah) Ah) Ah)<|Af (Di (B9 k) (vv 0) Bt<|Ba Ht (Ba Cj (Ba Hu (vv 3) Ah) Ah) Ah)<|Af (Aq (i:=4) EU.nd rfl oI<|Ba Ht (Ba Hu (Du (B9 k) (vv 0) Bt)<|Du (B9 k) (vv 0) Bt) Ah)<|Ai<|A6<|Ba Ht (Ba Cj (Ba Hu (Ba Ht (Ba Hu (vv 3)<|vv 3) Ah) Ah)<|vv 4)<|vv 1),?_⟩
 rintro X x R _ ⟨a,l,d,rfl,⟨g,e,ns,J⟩,h0,h1,q⟩;refine A0 (λj b=>∃g e ns,j=[oE a,oF d,none,none,none]/\PotAt b a l g e ns/\Bp a l x b) (λZ u=>?_) ?_;refine Si (λm j b=>∃g e ns,j=[oE a,oF d,none,none,none]/\m=ns.length/\PotAt b a l g e ns/\Bp a l x b) ns.length ⟨g,e,ns,rfl,rfl,J,Bp.refl⟩ ?_;rintro m j b W ⟨g,e,ns,rfl,rfl,D,S⟩ r;refine Ac D.ha<|Ac HM<|Ac rfl<|ieq (λc=>?_) λc=>Kd rfl<|u _ _ ⟨g,e,ns,rfl,D,S⟩;refine Ac D.ha<|Ac Zp<|Ac rfl<|Ac D.hl<|dif (λG=>?_) λG=>u _ _ ⟨g,e,ns,rfl,D,S⟩;have p:ns≠[]:=by rintro rfl;exact absurd G<|by decide
 have C:(ns.map Hm)[(ns.map Hm).length-1]?=some (Hm<|ns.getLast p):=by rw[<- List.getLast?_eq_getElem?,List.getLast?_map,List.getLast?_eq_some_getLast p];rfl
 have N:(ns.map Hm).dropLast=ns.dropLast.map Hm:=by rw[List.map_dropLast]
 have B:Ao b l (.lst (ns.map Hm).dropLast) a=some (G8 g e l):=by rw[Ag D.ne];exact D.ha
 have M:0<ns.length:=kF.mpr p;refine Ac D.ha (Ac Zp<|Ac rfl ⟨Ac D.hl trivial,Ac D.hl<|Ac C<|Ac B<|Ac HN ⟨Nk,r ns.dropLast.length _ _ (by rw[jS];omega) ⟨g,ns.getLast p,ns.dropLast,rfl,rfl,?_,S.l.a⟩⟩⟩);exact⟨Ab,by rw[Ag D.ne.symm,Ab,N],D.s0,D.s1,D.p0 _<|List.getLast_mem p,λz hz=>D.p0 z<|(List.dropLast_sublist ns).subset hz,D.ne⟩;rintro j b ⟨g,e,ns,rfl,D,S⟩;refine Ca<|Ac D.ha<|Ac HM<|Ac rfl<|Ca<|dif (λc=>?_) λc=>?_;refine Ca ⟨⟨by omega,by omega⟩,Ac D.ha<|Ac HN ⟨Nk,(by show(0:Int)<_;omega),_,Sub.refl,?_⟩⟩;refine HP (Q:=λi=>R (.D<|.int i) _) h0 λv hv=>?_;exact q v _ hv ⟨g,e / d,ns,Ab,by rw[Ag D.ne.symm];exact D.hl,D.s0,D.s1,Int.ediv_nonneg D.n0<|dY _,D.p0,D.ne⟩ S.a;refine A0 (λj h=>∃one:Int,j=[oE a,oF d,oF e,oF one,none]/\b=h/\0<=one/\one<2147483648) (λW r=>?_) ?_;exact Ac D.ha (Ac Rq<|Ac rfl ⟨.inr ⟨by decide,by decide⟩,(by show(0:Int)<_;decide),r _ _ ⟨_,rfl,rfl,Zr _<|by decide,Zs _ (by decide)<|by decide⟩⟩);rintro j h ⟨one,rfl,rfl,T,V⟩;refine A0 (λj h=>∃o:Int,j=[oE a,oF d,oF e,oF one,none]/\PotAt h a l o e ns/\Bp a l x h) (λW r=>?_) ?_;exact⟨.inr ⟨by decide,by decide⟩,(by show(0:Int)<_;decide),Ac D.ha<|Ac MX ⟨Nk,r _ _ ⟨_,rfl,⟨Ab,by rw[Ag D.ne.symm];exact D.hl,Zr _<|by decide,Zs _ (by decide)<|by decide,D.n0,D.p0,D.ne⟩,S.a⟩⟩⟩;rintro j O ⟨o,rfl,t,L⟩;have U:=t.s0;have Y:=t.s1;refine Ca (Ac t.ha<|Ac Rq<|Ac rfl<|Ac t.ha<|Ac Rq<|Ac rfl ⟨.inl ⟨by omega,by omega⟩,(by show(0:Int)<_;decide),?_⟩);refine⟨.inl ⟨by omega,by omega⟩,(by show(0:Int)<_;decide),.inr ⟨by decide,by decide⟩,(by show(0:Int)<_;omega),_,Sub.refl,?_⟩;exact HP (Q:=λi=>R (.D<|.int i) _) h0 λv hv=>q v _ hv ⟨o,e,ns,t⟩ L
abbrev nDe:oA Str:=["_law_script","_law_base","_law_cell","_law_cells","_law_number"]
def Zt:FnScope nDe qB (Ad HK):=Bm<|by decide +kernel
def UK:(yA:oA Str).Nodup:=by decide +kernel
def UL:(yA:oA Str).Nodup:=by decide +kernel
def G1(ns:oA Int):lL:=.list<|ns.map .int
def Vk(a:M)(ns:oA Int):items a (.D<|G1 ns)=some (ns.map Hm):=by show some ((ns.map PyData.int).map AV.D)=_;rw[aB];rfl
def Zu{a:Type}(g:a->AV)(xs:oA a)(lo hi:oB Int):∃b:oA a,Jo (xs.map g) lo hi=b.map g/\b.length<=xs.length:=by refine⟨(xs.drop<|HT.sIx (xs.map g).length 0 lo).take<|HT.sIx (xs.map g).length (xs.map g).length hi-HT.sIx (xs.map g).length 0 lo,?_,?_⟩;unfold Jo;rw[<- kU,<- hJ];rw[aU,dN];omega
def MY:ASp:=λe d R=>∃(ns:oA Int) (b:Nat),e=[.D<|G1 ns,.D<|.int b]/\b<1000/\ns.length<=63/\∀(a l:lM) (c:M),d a=none->d l=none->Pot c a l->Sub d c->R (.R a) c
def Rr(i:Int):Int:=if 0-i>i then 0-i else i
def MZ(i:Int):0<=Rr i:=by unfold Rr;split<;>omega
def UM{c:Int}{Q:Prop}(h:Q){x:Int}(hc:-(2^64)<c/\c<2^64:=by decide):CMul c x/\Q:=⟨.inl hc,h⟩
def UN{n:Nat}(F:Fun K "_law_deal" "_law_deal" HK f fd) (fw:mg "max" = none) (bi:mg "list" = none) (bh:mg "reversed" = none):FnOk P w K mg base Dz (n+1) f fd qB (Fb K 2 MY):=by
 refine F.vok Zt λap A S s H E hr=>⟨_,(Af (Ee (i:=3) (N':=yA) (mp:=[none]) rfl Zt.nd rfl rfl (Bc<|Bv (vv 0) (B3<|vv 1)<|B3 Ah) (λ_ _ _ _=>(Aj (i:=0) UK rfl oI oJ)) (λ_ _ _ _=>Bl) (λ_ _ _ _=>(Av (Xz rfl) rfl fw PyProof.Rows.boot_max<|Aa (vv 0)<|Aa (Ba GR Ah<|vv 0) Ae))<|Aw (N:=nDe) (pn:=(Ad HK).names)<|by decide +kernel)<|Af (Aq (i:=4) Zt.nd rfl oI<|Ba Cj Ah<|Ba Hu Ah<|vv 1)<|Af (Cc aO rfl (Bc<|vv 3) (Aj (i:=2) Zt.nd rfl oI)<|Ai<|Aq (i:=4) Zt.nd rfl oI<|Ba Ht (Ba Cj (Ba Cj (Ba Hu (vv 4) Ah)<|Ba Ht (vv 2) Ah) Ah) Ah)<|Ai<|A6<|DW (M9 (vv 4)<|M9 Ah<|M9 (EF rfl rfl bi rfl bh<|Bg (N':=yA) (mp:=[none]) rfl (Bc<|vv 3) (λ_ _ _ _=>(Aj (i:=0) UL rfl oI oJ)) (λ_ _ _ _=>(Cy<|Bd SA (vv 0) (Ba RZ Ah Ah)<|nomark _)) (λ_ _ _ _=>(vv 0))<|Aw (N:=nDe) (pn:=(Ad HK).names)<|by decide +kernel) DV)<|by decide +kernel),?_⟩
 rintro Z O R _ ⟨ns,b,rfl,hb,hn,q⟩;obtain⟨J,U,cr⟩:=Zu Hm ns (some (b:Int))<|some 63;refine A0 (λe G=>∃h,e=[oG<|G1 ns,oF b,none,oE h,none]/\O h=none/\G h=oH ((J.map Rr).map Hm)/\Sub O G) (λW I=>?_) ?_;refine Ac (Vk _ ns) λp hp=>?_;rw[U];refine Ac (Am Ab) λh m=>?_;have X:p≠h:=by intro z;subst z;rw[Ab]at m;cases m
 have Y:O h=none:=by rw[Ag X.symm]at m;exact m
 refine cmap J Hm (λi=>Hm<|Rr i) (λe=>∃o,e=[o]) ⟨_,rfl⟩ Ab (seven<|by omega) (λt=>Am<|by rw[Ag X,Ag X,Ab]) ?_ ?_;rintro i x V t W2 hi ⟨o,rfl⟩ hW2;exact hW2 _ ⟨_,rfl⟩;refine I _ _ ⟨h,rfl,Y,?_,((Sub.refl.new hp).new Y).new Y⟩;rw[Ab,aB];rfl;rintro e k ⟨h,rfl,i4,m,r⟩;refine A0 (λe d=>∃g:Int,e=[oG<|G1 ns,oF b,none,oE h,oF g]/\k=d/\0<=g/\g<2147483648) (λW I=>UM<|I _ _ ⟨_,rfl,rfl,by omega,by omega⟩) ?_;rintro e d ⟨T,rfl,rfl,z0,z1⟩;refine A0 (λe d=>∃(u:oB AV) (g:Int),e=[oG<|G1 ns,oF b,u,oE h,oF g]/\k=d/\0<=g/\g<2147483648) (λW I=>?_) ?_;refine Ac (Am m) ?_;refine C5 (λi e d=>∃(u:oB AV) (g:Int),e=[oG<|G1 ns,oF b,u,oE h,oF g]/\k=d/\0<=g/\g<2147483648) ⟨none,T,rfl,rfl,z0,z1⟩ ?_ ?_ ?_;rintro i e d ⟨u,g,rfl,rfl,_⟩;exact Am m;rintro i y e d W2 hy ⟨u,g,rfl,rfl,h0,h1⟩ hW2;rw[M_]at hy;obtain⟨c,hc,rfl⟩:=J_.mp hy;exact⟨.inr ⟨by decide,by decide⟩,(by show(0:Int)<_;decide),(by show(0:Int)<_;decide),hW2 _ _ ⟨_,_,rfl,rfl,Zr _<|by decide,Zs _ (by decide)<|by decide⟩⟩;rintro e d ⟨u,g,rfl,rfl,h0,h1⟩;exact I _ _ ⟨_,_,rfl,rfl,h0,h1⟩;rintro e d ⟨u,g,rfl,rfl,h0,h1⟩;intro a ha;have hac:a≠h:=by intro z;subst z;rw[m]at ha;cases ha
 have ny:Ao k a (.dk []) h=oH ((J.map Rr).map Hm):=by rw[Ag hac.symm];exact m
 refine Ac (Am ny) λM j=>?_;have C:a≠M:=by intro z;subst z;rw[Ab]at j;cases j
 have wx:h≠M:=by intro z;subst z;rw[ny]at j;cases j
 have va:k M=none:=by rw[Ag C.symm]at j;exact j
 refine cmapf (J.map Rr) Hm (λx=>decide ((10:Int)^(18:Int).toNat<=x)) Hm (λe=>∃o,e=[o]) ⟨none,rfl⟩ Ab (seven<|by rw[B_];omega) (λt=>Am<|by rw[Ag wx,Ag wx];exact ny) ?_ ?_;rintro i x V t W2 W3 hi ⟨o,rfl⟩ h2 h3;exact⟨⟨by decide,by decide,by decide⟩,br (λc=>h2 c _ ⟨_,rfl⟩) λc=>h3 c _ ⟨_,rfl⟩⟩;generalize i3:(J.map Rr).filter (λx=>decide ((10:Int)^(18:Int).toNat<=x))=Z;have Q:∀x∈Z,0<=x:=λx hx=>by rw[<- i3]at hx;obtain⟨z,_,rfl⟩:=E_.mp (bK.mp hx).1;exact MZ z
 refine Ac Ab λl v=>?_;have dz:M≠l:=by intro z;subst z;rw[Ab]at v;cases v
 have L:a≠l:=by intro z;subst z;rw[Ag C,Ag C,Ab]at v;cases v
 have B:k l=none:=by rw[Ag dz.symm,Ag dz.symm,Ag L.symm]at v;exact v
 refine⟨by rw[Ag L,Ag C,Ag C,Ab],_,Sub.refl,q a l _ (r.none ha) (r.none B) ⟨g,0,Z.reverse,Ab,?_,h0,h1,jX 0,λz hz=>Q z<|List.mem_reverse.mp hz,L⟩ ?_⟩;rw[Ag L.symm,Ab,List.map_reverse];exact((((r.new<|r.none ha).new<|r.none va).new<|r.none va).new<|r.none B).new<|r.none ha
def Bq(ns:oA Nat):lL:=.tuple<|ns.map λ(n:Nat)=>.int n
theorem Gp{a:Type} [DecidableEq a]:∀{xs ys:oA a},xs.Nodup->(∀x∈xs,x∈ys)->xs.length<=ys.length
 |[],_,_,_=>bH _
 |x::xs,ys,c,h=>by have hx:=h x aR;obtain⟨d,b⟩:=cJ.mp c;have:=Gp (xs:=xs) (ys:=ys.erase x) b λz hz=>(List.mem_erase_of_ne<|by rintro rfl;exact d hz).mpr<|h z<|aE _ hz;rw[List.length_erase_of_mem hx]at this;have hp:0<ys.length:=List.length_pos_of_mem hx;simp only[List.length_cons];omega
def Ph{l:Type} [DecidableEq l](k g:l)(v:AV):∀(kvs:oA<|l×AV),Cs (Er kvs k v) g=if g=k then some v else Cs kvs g:=by
 intro kvs;unfold Er;split
 ·rename_i h
  induction kvs with
  |nil=>simp at h
  |cons c kvs j=>
   rw[a_];by_cases e:c.1=k;rw[P_ e];by_cases d:g=k;rw[P_ d,d,e];exact Dv;rw[H_ d];obtain⟨a,b⟩:=c;have n:a=k:=e;subst n;rw[Dd<|bW d,Dd<|bW d];by_cases h2:(kvs.any λc=>decide (c.1=a))=true;rw[j h2,H_ d];congr 1;refine(fD λz hz=>?_).trans<|List.map_id kvs;rw[H_]
   rfl
   intro m;exact h2<|bP.mpr ⟨z,hz,aP m⟩;rw[H_ e];obtain⟨a,b⟩:=c;have h2:(kvs.any λc=>decide (c.1=k))=true:=by rw[eL,aL e,kT]at h;exact h
   by_cases i:a=g;subst i;rw[Dv,H_ e];exact Dv.symm;rw[Dd i,Dd i,j h2]
 ·rename_i h
  induction kvs with
  |nil=>by_cases d:g=k;rw[P_ d,d];exact Dv;rw[H_ d];show Cs ((k,v)::[]) g=_;rw[Dd<|bW d]
  |cons c kvs j=>
   obtain⟨a,b⟩:=c;have h1:a≠k:=by intro z;apply h;rw[eL,aP z];rfl
   have h2:¬(kvs.any λc=>decide (c.1=k))=true:=by intro z;apply h;rw[eL,z,Bool.or_true]
   show Cs ((a,b)::(kvs++[(k,v)])) g=_;by_cases i:a=g;subst i;rw[Dv,H_ h1];exact Dv.symm;rw[Dd i,j h2,Dd i]
def Df{a:M}(ns:oA Nat):items a (.D<|Bq ns)=some (ns.map λ(n:Nat)=>.D<|.int n):=by show some ((ns.map λ(n:Nat)=>PyData.int n).map AV.D)=_;rw[aB];rfl
def Jv{ns:oA Nat}:PyData.canLayAll0 (ns.map λ(n:Nat)=>.int n)=true/\PyData.depthAll (ns.map λ(n:Nat)=>.int n)<=1:=by
 induction ns with
 |nil=>exact⟨rfl,by simp[PyData.depthAll]⟩
 |cons n ns a=>simp only[List.map_cons,PyData.canLayAll0,PyData.depthAll,a.1,Bool.and_true];refine⟨rfl,?_⟩;have:=a.2;simp only[PyData.depth];omega
def Gq{ns:oA Nat}:Cb (Bq ns):=⟨by simp only[Bq,PyData.canLay0];exact Jv.1,by have:=(Jv (ns:=ns)).2;simp only[Bq,PyData.depth];omega⟩
def Zv{a:Type}{L:oA a}{g:a->Bool}{i:Nat}{x:a}(h:L[i]?=some x):(L.take<|i+1).any g=((L.take i).any g||g x):=by rw[aS,h,List.any_append];simp
def Zw{a:Type} [DecidableEq a](kvs:oA<|a×AV)(k:a)(v:AV):(Er kvs k v).length<=kvs.length+1:=by unfold Er;split;rw[B_];omega;rw[N_];exact F_ _
def Bn(n:Nat):AV:=.D<|.int n
def Gi(ns:oA Nat):dats (ns.map Bn)=some (ns.map λ(n:Nat)=>.int n):=by rw[show ns.map Bn=(ns.map λ(n:Nat)=>PyData.int n).map .D by rw[aB];rfl];exact Cu _
theorem Iz:∀(ns:oA Nat),Bz (ns.map λ(n:Nat)=>.int n)=true
 |[]=>rfl
 |n::ns=>by simp only[List.map_cons,Bz,Cano,Iz ns,Bool.and_self]
theorem Pi:∀(a ns:oA Nat),cmpbs (a.map λ(n:Nat)=>.int n) (ns.map λ(n:Nat)=>.int n)=true
 |[],_=>by simp only[List.map_nil,cmpbs]
 |_::_,[]=>by simp only[List.map_nil,List.map_cons,cmpbs]
 |m::a,n::ns=>by simp only[List.map_cons,cmpbs,cmpb,Pi a ns,ite_self]
theorem unmap{c d:Type}{g:c->d}{B:oA c}:∀{es:oA d},(∀e∈es,e∈B.map g)->∃A:oA c,es=A.map g/\A.length=es.length/\∀a∈A,a∈B
 |[],_=>⟨[],rfl,rfl,λ_ z=>nomatch z⟩
 |e::es,h=>by obtain⟨A,rfl,j,i⟩:=unmap (es:=es) λx hx=>h x<|aE _ hx;obtain⟨a,ha,rfl⟩:=E_.mp<|h e aR;refine⟨a::A,rfl,by simp,λb hb=>?_⟩;rcases aK.mp hb with rfl|hb;exact ha;exact i b hb
def C1(z:Str):AV:=.D<|.str z
def S8{z:Str}(h:lets z):PyData.canLay0 (.str z)=true:=by show PyData.strOk z=true;unfold PyData.strOk;rw[Array.all_eq_true];intro i hi;have:=h z.cps[i] (by simp);simp;omega
def Ja{z:Str}(h:lets z):Cb (.str z):=X4<|S8 h
def Ig(zs:oA Str):dats (zs.map C1)=some (zs.map PyData.str):=by rw[show zs.map C1=(zs.map PyData.str).map .D by rw[aB];rfl];exact Cu _
theorem Pj:∀(zs:oA Str),txts (zs.map C1)=some zs
 |[]=>rfl
 |z::zs=>by simp only[List.map_cons,C1,txts,Option.map_eq_some_iff];exact⟨zs,Pj zs,rfl⟩
def EV:∀i:Fin 26,∃c,("abcdefghijklmnopqrstuvwxyz" : Str).cps.toList[i.val]?=some c/\97<=c/\c<=122:=by decide +kernel
def Zx{v:Nat}(h:v<26):∃c,atI ("abcdefghijklmnopqrstuvwxyz" : Str).cps.toList (v:Int)=some c/\97<=c/\c<=122:=by obtain⟨c,e,h1⟩:=EV ⟨v,h⟩;exact⟨c,Ak e,h1⟩
def Pk{c:Nat}(h:97<=c/\c<=122):lets ⟨#[c]⟩:=λd a=>by
 have:d=c:=by simpa using a
 rw[this];exact h
def Zy:("abcdefghijklmnopqrstuvwxyz" : Str).length<=sizeLine:=by decide +kernel
def Zz:("" : Str).length=0:=by decide +kernel
def Fk(x y:Str):(x++y).length=x.length+y.length:=by rw[De,De,De,Ib,N_]
theorem Pl:∀{zs:oA Str},(∀z∈zs,z.length=1)->(zs.map (·.length)).sum=zs.length
 |[],_=>rfl
 |z::zs,h=>by simp only[List.map_cons,List.sum_cons,List.length_cons];rw[h z aR,Pl λy hy=>h y<|aE _ hy];omega
def Vl(zs:oA Str):(Txt.join "" zs).length=(zs.map (·.length)).sum:=by
 show(PySem.Builtin.Str.glued "" zs).length=_;rw[StrLaws.glued_eq_join]
 induction zs with
 |nil=>rfl
 |cons x zs a=>
  cases zs with
  |nil=>simp[Str.join]
  |cons y zs=>have e:Str.join "" (x::y::zs)=x ++ "" ++ Str.join "" (y::zs):=rfl;rw[e,Fk,Fk,Zz,a];simp
def EW{x:Str}{j:Nat}(h:lets x)(hj:j<=x.length):lets (Txt.slice x none<|some (j:Int)):=λc hc=>by rw[Kl (by omega)<|by omega]at hc;exact h c<|dZ hc
def Vm{x:Str}{j:Nat}(h:lets x)(hj:j<=x.length):lets (Txt.slice x (some (j:Int)) none):=λc hc=>by rw[Hk (by omega)<|by omega]at hc;exact h c<|gS hc
def NA{x:Str}{j:Nat}(hj:j<=x.length):(Txt.slice x none<|some (j:Int)).length=j:=by rw[De,Kl (by omega)<|by omega,aU,<- De];omega
def Z0{x:Str}{j:Nat}(hj:j<=x.length):(Txt.slice x (some (j:Int)) none).length=x.length-j:=by rw[De,Hk (by omega)<|by omega,dN,<- De];omega
def NB:lets "q" := λc h=>by rw[TC,G_]at h;omega
abbrev G9:oA Str:=["place","letter","rule","own","arrow","ends","one","other"]
def Vn:Cb (.tuple<|G9.map PyData.str):=⟨by decide +kernel,by decide +kernel⟩
def UO{x:AV}{i:Nat}{u:AS}{k:ASt->M->Prop}{r:AV->M->Prop}{b c:ASt->M->Prop}{τ:ASt}{a:M}(h:u k r b c (τ.set i<|some x) a):Ut (Uu (vC x)<|Eb i) u k r b c τ a:=h
abbrev nNa:oA Str:=["_law_deal_here","_law_many","_law_letters","_law_kept_here","_law_k","_law_core","_law_at","_law_turn","_law_found","_law_name"]
def Nl:FnScope nNa oK (Ad MR):=Bm<|by decide +kernel
def UP:(yD:oA Str).Nodup:=by decide +kernel
structure Nms(zs:oA Str):Prop where
 l:∀z∈zs,lets z
 n:∀z∈zs,z.length<=7
 d:zs.Nodup
def NC:∀i:Fin 26,("abcdefghijklmnopqrstuvwxyz" : Str).cps.toList[i.val]?=some (97+i.val):=by decide +kernel
def V6(b:Str)(a tn k:Nat):Str:=Txt.slice b none (some (a:Int))++(⟨#[97+(((tn:Int)+7*(0+(k:Int)))%26).toNat]⟩:Str)++Txt.slice b (some (a:Int)) none
def Ta{b:Str}{a tn:Nat}(h:a<=b.length)(k:Nat):(V6 b a tn k).cps.toList=b.cps.toList.take a++[97+(((tn:Int)+7*(0+(k:Int)))%26).toNat]++b.cps.toList.drop a:=by unfold V6;rw[Ib,Ib,Kl (by omega)<|by omega,Hk (by omega)<|by omega,cX]
def Tb{b:Str}{a tn:Nat}(h:a<=b.length)(k:Nat):(V6 b a tn k).length=b.length+1:=by rw[De,Ta h,De b];rw[De]at h;simp only[List.length_append,List.length_take,List.length_drop,List.length_singleton];omega
def n26{t i j:Int}(a:0<=i)(hi:i<26)(b:0<=j)(hj:j<26)(e:(t+7*(0+i))%26=(t+7*(0+j))%26):i=j:=by have d:=Int.dvd_of_emod_eq_zero<|gU.mp e;rw[Int.add_sub_add_left,<- Int.mul_sub,lH,lH]at d;have d:=Int.dvd_sub (Int.dvd_trans d<|Int.dvd_mul_left 15 _)<|Int.dvd_mul_right 26<|4*(i-j);rw[<- Int.mul_assoc,<- Int.mul_assoc,<- Int.sub_mul,show(15*7-26*4:Int)=1 from rfl,Int.one_mul]at d;have d:=gU.mpr<|Int.emod_eq_zero_of_dvd d;rwa[Int.emod_eq_of_lt a hi,Int.emod_eq_of_lt b hj]at d
def EY{b:Str}{a tn i j:Nat}(h:a<=b.length)(hi:i<26)(hj:j<26)(e:V6 b a tn i=V6 b a tn j):i=j:=by have e:=bV (λs:Str=>s.cps.toList) e;simp only[Ta h]at e;have e:=List.append_cancel_left<|List.append_cancel_right e;injection e with e;have e:=bV Int.ofNat<|Nat.add_left_cancel e;rw[Int.ofNat_eq_natCast,Int.ofNat_eq_natCast,kG<|iF _<|by decide,kG<|iF _<|by decide]at e;exact fX<|n26 (dY _) (lI.mpr hi) (dY _) (lI.mpr hj) e
def QE(b:Str)(a tn n:Nat)(zs:oA Str):Prop:=∀x∈zs,∃j,j<n/\∃z:Str,(z = "q" \/ z=Str.empty)/\x=V6 b a tn j++z
def qe_len{z:Str}(h:z = "q" \/ z=Str.empty):(z = "q" /\ z.length=1)\/(z=Str.empty/\z.length=0):=by rcases h with rfl|rfl;exact .inl ⟨rfl,by decide +kernel⟩;exact .inr ⟨rfl,rfl⟩
def QE.new{i:Str}{g tn n:Nat}{zs:oA Str}(D:QE i g tn n zs)(h:g<=i.length)(hn:n<26){z:Str}(hz:z = "q" \/ z=Str.empty):V6 i g tn n++z∉zs:=λhm=>by
 obtain⟨j,hj,m,q,e⟩:=D _ hm;have p:=bV Str.length e;rw[Fk,Fk,Tb h,Tb h]at p;have l:z=m:=by rcases qe_len hz with⟨a,b⟩|⟨a,b⟩<;>rcases qe_len q with⟨c,d⟩|⟨c,d⟩<;>first|(rw[a,c];done)|(exfalso;omega)
 subst l;have k:=bV (λs:Str=>s.cps.toList) e;simp only[Ib]at k;have o:V6 i g tn n=V6 i g tn j:=DF<|List.append_cancel_right k;have:=EY h hn (by omega) o;omega
def QE.step{b:Str}{a tn n:Nat}{zs:oA Str}(D:QE b a tn n zs){z:Str}(hz:z = "q" \/ z=Str.empty):QE b a tn (n+1) (zs++[V6 b a tn n++z]):=λx hx=>by rcases R_.mp hx with h|h;obtain⟨j,hj,r⟩:=D x h;exact⟨j,by omega,r⟩;rw[G_.mp h];exact⟨n,fE _,z,hz,rfl⟩
def Kv{c:Type}{xs:oA c}{x:c}(h:xs.Nodup)(hx:x∉xs):(xs++[x]).Nodup:=by rw[bB];refine⟨h,cJ.mpr ⟨by simp,bO⟩,λa ha b hb e=>?_⟩;rw[G_.mp hb]at e;exact hx<|e ▸ ha
def UQ:ASp:=λc b R=>∃(a l:lM) (many:Nat),c=[.R a,.D<|.int many]/\many<=5/\Pot b a l/\∀(zs:oA Str) (p:lM) μ',zs.length=many->Nms zs->b p=none->μ' p=oH (zs.map C1)->Pot μ' a l->Bp a l b μ'->R (.R p) μ'
def UR{n:Nat}(F:Fun K "_law_names" "_law_names" MR f fd) (fc:VCal P w K mg base n "_law_draw" oK Vj) (ah:mg "range" = none) (ag:mg "len" = none) (fg:mg "int" = none):FnOk P w K mg base Dz (n+1) f fd oK (Fb K 2 UQ):=by
 refine F.vok Nl λap A outer s H E hr=>⟨_,(Af (Aq (i:=2) Nl.nd rfl oJ Bt)<|Af (Aq (i:=3) Nl.nd rfl oI<|Br<|Aa Bt<|Aa Bt<|Aa Bt<|Aa Bt<|Aa Bt<|Aa Bt<|Aa Bt<|Aa Bt Ae)<|Af (Aq (i:=5) Nl.nd rfl oI<|SD PySem.F.slot_str_join PySem.F.type_str_join LQ Bt<|Aa (Bg (N':=yD) (mp:=[none,some 2,some 0]) rfl (Cz rfl ah<|Aa (Al fc hr rfl<|Aa (vv 0)<|Aa Ah Ae) Ae) (λ_ _ _ _=>(Aj (i:=0) UP rfl oI oJ)) (λ_ _ _ _=>Bl) (λ_ _ _ _=>(Az Be (vv 1)<|Al fc hr rfl<|Aa (vv 2)<|Aa Ah Ae))<|Aw (N:=nNa) (pn:=(Ad MR).names)<|by decide +kernel) Ae)<|Af (Aq (i:=6) Nl.nd rfl oI<|Al fc hr rfl<|Aa (vv 0)<|Aa (Ba Cj (Av B1 rfl ag aG<|Aa (vv 5) Ae) Ah) Ae)<|Af (Aq (i:=7) Nl.nd rfl oI<|Al fc hr rfl<|Aa (vv 0)<|Aa Ah Ae)<|Af (Aq (i:=8) Nl.nd rfl oI<|Cf Ae)<|Af (Cc aO rfl (Cz rfl ah<|Aa (vv 1) Ae) (Aj (i:=4) Nl.nd rfl oI)<|Af (Aq (i:=9) Nl.nd rfl oI<|Ba Cj (Ba Cj (Bv (vv 5) Cd<|B3<|vv 6)<|Az Be (vv 2)<|Ba Ht (Ba Cj (vv 7)<|Ba Hu Ah<|vv 4) Ah)<|Bv (vv 5) (B3<|vv 6) Cd)<|Ai<|Bu<|E4 cQ cU Dx (vv 8)<|Aa (Ba Cj (vv 9)<|Ba Hu Bt<|Cp GW rfl fg PyProof.Rows.boot_int<|Aa (Ke (DM hr) (vv 9) (vv 3)<|by with_unfolding_all rfl) Ae) Ae)<|Ai<|A6<|vv 8),?_⟩
 rintro xs L R _ ⟨a,l,many,rfl,hm,hP,q⟩;refine UO<|A0 (λk b=>k=[oE a,oF many,some<|C1 "abcdefghijklmnopqrstuvwxyz",oG<|.tuple<|G9.map PyData.str,none,none,none,none,none,none]/\L=b) (λZ G=>G _ _ ⟨rfl,rfl⟩) ?_;rintro k _ ⟨rfl,rfl⟩;refine A0 (λk b=>∃p:Str,k=[oE a,oF many,some<|C1 "abcdefghijklmnopqrstuvwxyz",oG<|.tuple<|G9.map PyData.str,none,some<|C1 p,none,none,none,none]/\lets p/\p.length<=4/\Pot b a l/\Bp a l L b) (λZ G=>?_) ?_;refine⟨trivial,a,l,5,rfl,hP,by decide,by decide,λc μ1 hc P1 S1=>⟨by omega,by omega,λpl I=>?_⟩⟩;have J:=P1.ne I;have ai:(Eg 0 (c:Int).toNat).length=c:=by rw[Bs];omega
 refine Ep (λj B k b=>∃(o:oB AV) (zs:oA Str),k=[o,some<|C1 "abcdefghijklmnopqrstuvwxyz",oE a]/\B=zs.map C1/\zs.length=j/\(∀z∈zs,lets z/\z.length=1)/\b pl=oH B/\Pot b a l/\Bp a l μ1 b) ⟨none,[],rfl,rfl,rfl,(λ_ z=>nomatch z),Ab,P1.new I,Bp.refl.new I⟩ (λ_ _ _ _ _=>trivial) ?_ ?_;rintro j x B k Q Z2 hx ⟨o,zs,rfl,rfl,u,hb,e2,M,O⟩ hZ2;refine L3 rfl ⟨a,l,26,rfl,M,by decide,by decide,λv μ3 hv U S=>?_⟩;have e3:=S pl _ J.1.symm J.2.symm e2;obtain⟨C,ec,gc⟩:=Zx hv;have hj:j<c:=by rw[<- ai];exact(D_.mp hx).1
 refine⟨Zy,Ac ec ⟨e3,A8<|by rw[B_];omega,hZ2 _ _ _ ⟨_,zs++[⟨#[C]⟩],rfl,by rw[L_];rfl,by rw[N_,u];rfl,λz hz=>?_,Ab,U.other J.1 J.2,(O.trans S).put I⟩⟩⟩;rcases R_.mp hz with h|h;exact hb z h;rw[G_.mp h];exact⟨Pk gc,rfl⟩;rintro B k Q ⟨o,zs,rfl,rfl,u,hb,e2,M,O⟩;rw[ai]at u;have u0:=Pl λz hz=>(hb z hz).2;refine Ac e2<|Ac (Pj zs) ⟨?_,G _ _ ⟨Txt.join "" zs,rfl,U5 λz hz=>(hb z hz).1,?_,M,S1.trans O⟩⟩;rw[u0,Zz];omega;rw[Vl,u0];omega;rintro k μ1 ⟨p,rfl,lc,hc4,P1,S1⟩;have fx:p.length<=sizeLine:=I_ hc4 (by decide);refine A0 (λk b=>∃g:Nat,k=[oE a,oF many,some<|C1 "abcdefghijklmnopqrstuvwxyz",oG<|.tuple<|G9.map PyData.str,none,some<|C1 p,oF g,none,none,none]/\g<=p.length/\Pot b a l/\Bp a l L b) (λZ G=>?_) ?_;exact⟨fx,a,l,p.length+1,rfl,P1,by omega,by omega,λv Q hv M O=>G _ _ ⟨v,rfl,by omega,M,S1.trans O⟩⟩;rintro k Q ⟨g,rfl,X,M,O⟩;refine A0 (λk b=>∃tn:Nat,k=[oE a,oF many,some<|C1 "abcdefghijklmnopqrstuvwxyz",oG<|.tuple<|G9.map PyData.str,none,some<|C1 p,oF g,oF tn,none,none]/\Pot b a l/\Bp a l L b) (λZ G=>?_) ?_;exact⟨a,l,26,rfl,M,by decide,by decide,λv μ3 hv U S=>G _ _ ⟨v,rfl,U,O.trans S⟩⟩;rintro k μ3 ⟨tn,rfl,U,S⟩;intro t dg;have J:=U.ne dg;have km:L t=none:=S.none J.1 J.2 dg;refine A0 (λk b=>∃V W zs,k=[oE a,oF many,some<|C1 "abcdefghijklmnopqrstuvwxyz",oG<|.tuple<|G9.map PyData.str,V,some<|C1 p,oF g,oF tn,oE t,W]/\zs.length=many/\Nms zs/\b t=oH (zs.map C1)/\Pot b a l/\Bp a l L b) (λZ G=>?_) ?_
 ·refine⟨by omega,by omega,?_⟩;have ai:(Eg 0 (many:Int).toNat).length=many:=by rw[Bs];omega
  refine C5 (λi k b=>∃V W zs,k=[oE a,oF many,some<|C1 "abcdefghijklmnopqrstuvwxyz",oG<|.tuple<|G9.map PyData.str,V,some<|C1 p,oF g,oF tn,oE t,W]/\zs.length=i/\Nms zs/\QE p g tn i zs/\b t=oH (zs.map C1)/\Pot b a l/\Bp a l L b) ⟨none,none,[],rfl,rfl,⟨(λ_ z=>nomatch z),(λ_ z=>nomatch z),bO⟩,(λ_ z=>nomatch z),Ab,U.new dg,S.new dg⟩ (λ_ _ _ _=>trivial) ?_ ?_
  ·rintro i y k r Z2 hy ⟨V,W,zs,rfl,u,hz,hD,T,P4,S4⟩ hZ2;have hi:i<many:=by rw[<- ai];exact(D_.mp hy).1
   have ey:=Ga _ _ _ hy;subst ey;obtain⟨v,ev,hv⟩:=Zq (many:=26) (v:=((tn:Int)+7*(0+(i:Int)))%26) (iF _<|by decide) (kM _<|by decide);obtain⟨C,ec,gc⟩:=Zx hv;have hcv:C=97+v:=by have:=Ak<|NC ⟨v,hv⟩;exact(bC<|ec.symm.trans this)
   rw[<- ev]at ec;have rg:Txt.slice p none (some (g:Int))++(⟨#[C]⟩:Str)++Txt.slice p (some (g:Int)) none=V6 p g tn i:=by unfold V6;rw[ev,cX,hcv]
   have Y:=EW lc X;have ls2:=Vm lc X;have ln1:=NA X;have ln2:=Z0 X;generalize b0:Txt.slice p none (some (g:Int))=s1 at Y ln1 rg;generalize dj:Txt.slice p (some (g:Int)) none=s2 at ls2 ln2 rg;have l1:(s1++(⟨#[C]⟩:Str)).length=s1.length+1:=by rw[Fk];rfl
   have l2:(s1++(⟨#[C]⟩:Str)++s2).length=s1.length+1+s2.length:=by rw[Fk,l1]
   have yy:lets (s1++(⟨#[C]⟩:Str)++s2):=Ge (Ge Y<|Pk gc) ls2;refine A0 (λk b=>k=[oE a,oF many,some<|C1 "abcdefghijklmnopqrstuvwxyz",oG<|.tuple<|G9.map PyData.str,oF<|0+(i:Int),some<|C1 p,oF g,oF tn,oE t,some<|C1<|s1++(⟨#[C]⟩:Str)++s2]/\r=b) (λZ3 cv=>?_) ?_;subst b0 dj;refine⟨fx,.inl<|by decide,(show(0:Int)<26 by decide),Zy,Ac ec ⟨?_,fx,?_,cv _ _ ⟨rfl,rfl⟩⟩⟩;show _+1<=sizeLine;exact I_ (show _<=10 by omega) (by decide);rw[l1];exact I_ (show _<=10 by omega) (by decide);rintro k _ ⟨rfl,rfl⟩;generalize (s1++(⟨#[C]⟩:Str)++s2)=nm at l2 yy rg;refine⟨Ac T trivial,Ac rfl ⟨Ja yy,Vn,?_⟩⟩;have aw:∀z:Str,lets z->z.length<=1->(z = "q" \/ z=Str.empty)->nm.length+z.length<=sizeLine/\opt (r t) λm=>match m with
     |.lst ys=>ys.length<sizeLine/\Z2 [oE a,oF many,some<|C1 "abcdefghijklmnopqrstuvwxyz",oG<|.tuple<|G9.map PyData.str,oF<|0+(i:Int),some<|C1 p,oF g,oF tn,oE t,some<|C1 nm] (Ao r t<|.lst<|ys++[C1<|nm++z])
     |_=>False:=λz lz m4 hqe=>by
    refine⟨I_ (show _<=10 by omega)<|by decide,Ac T ⟨A8<|by rw[B_];omega,hZ2 _ _ ⟨_,_,zs++[nm++z],rfl,by rw[N_,u];rfl,⟨λx hx=>?_,λx hx=>?_,Kv hz.d<|by rw[rg];exact hD.new X (by omega) hqe⟩,by rw[rg];exact hD.step hqe,by rw[Ab,L_];rfl,P4.other J.1 J.2,S4.put km⟩⟩⟩;rcases R_.mp hx with h|h;exact hz.l x h;rw[G_.mp h];exact Ge yy lz;rcases R_.mp hx with h|h;exact hz.n x h;rw[G_.mp h,Fk];omega
   cases hb:(G9.map PyData.str).any λe=>PyData.eqv e (.str nm) with
   |true=>exact⟨.inr rfl,aw "q" NB (by decide +kernel)<|.inl rfl⟩
   |false=>exact⟨.inl rfl,aw Str.empty (λc h=>by simp[Str.empty]at h) (by decide +kernel)<|.inr rfl⟩
  rintro k r ⟨V,W,zs,rfl,u,hz,_,T,P4,S4⟩;rw[ai]at u;exact G _ _ ⟨_,_,zs,rfl,u,hz,T,P4,S4⟩
 rintro k r ⟨V,W,zs,rfl,u,hz,T,P4,S4⟩;exact⟨_,Sub.refl,q zs t _ u hz km T P4 S4⟩
structure Rul where
 p:Nat
 x:Nat
 q:Nat
 w:oA Nat
deriving DecidableEq
def Co(r:Rul):lL:=.tuple [.int r.p,.int r.x,.int r.q,Bq r.w]
def Ch(r:Rul):AV:=.D<|Co r
structure RulOk(pl le:Nat)(r:Rul):Prop where
 p:r.p<pl
 x:r.x<le
 q:r.q<pl
 w:∀z∈r.w,z<le
 n:r.w.length<=2
theorem Pm:∀(ns:oA Nat),PyData.depthAll (ns.map λ(n:Nat)=>.int n)<=0
 |[]=>F_ _
 |n::ns=>by have:=Pm ns;simp only[List.map_cons,PyData.depthAll,PyData.depth];omega
def Nm(r:Rul):(Co r).canLay0=true/\(Co r).depth<=2/\Cano (Co r)=true:=by have h1:=Jv (ns:=r.w);have h2:=Iz r.w;refine⟨?_,?_,?_⟩;simp only[Co,Bq,PyData.canLay0,PyData.canLayAll0,h1.1,Bool.and_true];have:=h1.2;simp only[Co,Bq,PyData.depth,PyData.depthAll];have e:PyData.depthAll (r.w.map λ(n:Nat)=>.int n)<=0:=Pm r.w;omega;simp only[Co,Bq,Cano,Bz,h2,Bool.and_true,Bool.true_and]
theorem Nn:∀(B:oA Rul),PyData.canLayAll0 (B.map Co)=true/\PyData.depthAll (B.map Co)<=2/\Bz (B.map Co)=true
 |[]=>⟨rfl,by simp[PyData.depthAll],rfl⟩
 |a::B=>by obtain⟨h1,h2,b⟩:=Nm a;obtain⟨c,d,k3⟩:=Nn B;simp only[List.map_cons,PyData.canLayAll0,PyData.depthAll,Bz,h1,b,c,k3,Bool.and_self,true_and,and_true];omega
def Kw(a:Rul):Cb (Co a):=⟨(Nm a).1,I_ (Nm a).2.1 (by decide)⟩
def Jb(B:oA Rul):Cb (.tuple<|B.map Co):=⟨by simp only[PyData.canLay0];exact(Nn B).1,by have:=(Nn B).2.1;simp only[PyData.depth];omega⟩
def Kx(B:oA Rul):dats (B.map Ch)=some (B.map Co):=by rw[show(B.map Ch)=(B.map Co).map .D by rw[aB];rfl];exact Cu _
def pushes(B:oA Rul):Nat:=(B.filter λr=>decide (r.w.length=2)).length
def eights:∀v:Fin 8,∃w,([0,0,1,1,1,2,2,2]:oA Nat)[v.val]?=some w/\w<=2:=by decide +kernel
abbrev nRu:oA Str:=["_law_deal_here","_law_sizes","_law_found","_law_places","_law_letters","_law_most","_law_word","_law_p","_law_x","_law_q"]
def Rs:FnScope nRu oU (Ad HL):=Bm<|by decide +kernel
def US:(["_law_rule_here"]:oA Str).Nodup:=by decide +kernel
def UT:(yE:oA Str).Nodup:=by decide +kernel
def Z1(a b c:Nat):lL:=.tuple [.int a,.int b,.int c]
def EZ:ASp:=λi e R=>∃(a l:lM) (g:AV) (d c h:Nat) (B:oA Rul),i=[.R a,.D<|Z1 d c h,g]/\0<d/\d<=5/\0<c/\c<=5/\B.length<=20/\Pot e a l/\(∀ b,Bp a l e b->items b g=some (B.map Ch))/\∀(r:Rul) b,RulOk d c r->(r.w.length=2->pushes B<h)->Pot b a l->Bp a l e b->R (Ch r) b
def UU{n:Nat}(F:Fun K "_law_rule" "_law_rule" HL f fd) (S:VCal P w K mg base n "_law_draw" oK Vj) (ag:mg "len" = none) (al:mg "tuple" = none) (ah:mg "range" = none):FnOk P w K mg base Dz (n+1) f fd oU (Fb K 3 EZ):=by
 refine F.vok Rs λap A outer s H E L=>⟨_,(Af (KQ (vv 1)<|Ds (n:=3) rfl<|Ay (Aj (i:=3) Rs.nd rfl oI)<|Ay (Aj (i:=4) Rs.nd rfl oJ)<|Ay (Aj (i:=5) Rs.nd rfl oI) B8)<|Af (Aq (i:=6) Rs.nd rfl oI<|Az Be (Cf<|Aa Ah<|Aa Ah<|Aa Ah<|Aa Ah<|Aa Ah<|Aa Ah<|Aa Ah<|Aa Ah Ae)<|Al S L rfl<|Aa (vv 0)<|Aa Ah Ae)<|Af (Cl (VW.pt<|Fh (Bd (Eo L) (vv 6) Ah<|nomark _)<|D5<|Bd SA (Av B1 rfl ag aG<|Aa (Bg (N':=["_law_rule_here"]) (mp:=[none]) rfl (Bc<|vv 2) (λ_ _ _ _=>(Aj (i:=0) US rfl oI oJ)) (λ_ _ _ _=>(Cy<|Bd (Eo L) (Av B1 rfl ag aG<|Aa (Az Be (vv 0) Ah) Ae) Ah<|nomark _)) (λ_ _ _ _=>(vv 0))<|Aw (N:=nRu) (pn:=(Ad HL).names)<|by decide +kernel) Ae) (vv 5)<|nomark _) (Ai<|Aq (i:=6) Rs.nd rfl oI Ah) Bi)<|Af (DQ (i:=7) (j:=8) (l:=9) rfl Rs.nd rfl rfl rfl (by decide) (by decide) (by decide) rfl rfl rfl (Aa (Al S L rfl<|Aa (vv 0)<|Aa (vv 3) Ae)<|Aa (Al S L rfl<|Aa (vv 0)<|Aa (vv 4) Ae)<|Aa (Al S L rfl<|Aa (vv 0)<|Aa (vv 3) Ae) Ae) rfl)<|Ai<|A6<|Br<|Aa (vv 7)<|Aa (vv 8)<|Aa (vv 9)<|Aa (Cp Fi rfl al dI<|Aa (Bg (N':=yE) (mp:=[none,some 0,some 4]) rfl (Cz rfl ah<|Aa (vv 6) Ae) (λ_ _ _ _=>(Aj (i:=0) UT rfl oI oJ)) (λ_ _ _ _=>Bl) (λ_ _ _ _=>(Al S L rfl<|Aa (vv 1)<|Aa (vv 2) Ae))<|Aw (N:=nRu) (pn:=(Ad HL).names)<|by decide +kernel) Ae) Ae),?_⟩
 rintro xs Y R _ ⟨a,l,xf,u,m,I,B,rfl,ml,hp5,fh,ku,hB,hP,X,q⟩;refine A0 (λe b=>e=[oE a,oG<|Z1 u m I,some xf,oF u,oF m,oF I,none,none,none,none]/\Y=b) (λZ J=>⟨rfl,J _ _ ⟨rfl,rfl⟩⟩) ?_;rintro e _ ⟨rfl,rfl⟩;refine A0 (λe b=>∃C:Nat,e=[oE a,oG<|Z1 u m I,some xf,oF u,oF m,oF I,oF C,none,none,none]/\C<=2/\Pot b a l/\Bp a l Y b) (λZ J=>?_) ?_;intro p8 ko;have d:=hP.ne ko;refine⟨a,l,8,rfl,hP.new ko,by decide,by decide,λv μ1 hv M G=>?_⟩;obtain⟨C,ew,hw⟩:=eights ⟨v,hv⟩;have e8:=G p8 _ d.1.symm d.2.symm Ab;refine Ac e8 (Ac (Ak (j:=v) (xs:=[0,0,1,1,1,2,2,2].map Bn)<|by rw[M_,ew];rfl)<|J _ _ ⟨C,rfl,hw,M,(Bp.refl.new ko).trans G⟩);rintro e μ1 ⟨C,rfl,U,M,G⟩;refine A0 (λe b=>∃C:Nat,e=[oE a,oG<|Z1 u m I,some xf,oF u,oF m,oF I,oF C,none,none,none]/\C<=2/\(C=2->pushes B<I)/\Pot b a l/\Bp a l Y b) (λZ J=>?_) ?_;refine ieq (λc=>?_) (λc=>Kd rfl<|J _ _ ⟨C,rfl,U,λz=>absurd (by rw[z];rfl) c,M,G⟩);refine Ac (X _ G) λpc g=>?_;have d:=M.ne g;refine cmapf B Ch (λr=>decide (r.w.length=2)) Ch (λe=>∃o,e=[o]) ⟨none,rfl⟩ Ab (seven<|by omega) (λk=>?_) ?_ ?_;exact X _<|(G.new g).put<|G.none d.1 d.2 g;rintro i r τ' k W W2 hi ⟨o,rfl⟩ h1 h2;refine Ac (Ak (j:=3) rfl) (ieq (λc1=>h1 (aP<|by rw[B_]at c1;omega) _ ⟨_,rfl⟩) λc1=>h2 (aL λz=>c1<|by rw[B_,z];rfl) _ ⟨_,rfl⟩);refine Ac Ab<|dif (λ_=>?_) λc3=>?_;exact J _ _ ⟨1,rfl,by decide,(λz=>nomatch z),(M.new g).other d.1 d.2,(G.new g).put<|G.none d.1 d.2 g⟩;exact J _ _ ⟨C,rfl,U,λ_=>by rw[B_]at c3;unfold pushes;omega,(M.new g).other d.1 d.2,(G.new g).put<|G.none d.1 d.2 g⟩;rintro e μ2 ⟨x0,rfl,hwd2,hpu,P2,S2⟩;refine A0 (λe b=>∃p x t:Nat,e=[oE a,oG<|Z1 u m I,some xf,oF u,oF m,oF I,oF x0,oF p,oF x,oF t]/\p<u/\x<m/\t<u/\Pot b a l/\Bp a l Y b) (λZ J=>?_) ?_;exact⟨a,l,u,rfl,P2,ml,by omega,λp T hp P3 S3=>⟨a,l,m,rfl,P3,fh,by omega,λx O hx V Q=>⟨a,l,u,rfl,V,ml,by omega,λt μ5 ht P5 S5=>J _ _ ⟨p,x,t,rfl,hp,hx,ht,P5,((S2.trans S3).trans Q).trans S5⟩⟩⟩⟩;rintro e T ⟨p,x,t,rfl,hp,hx,ht,P3,S3⟩;refine⟨by omega,by omega,λpc g=>?_⟩;have d:=P3.ne g;have ai:(Eg 0 (x0:Int).toNat).length=x0:=by rw[Bs];omega
 refine Ep (λj k e b=>∃(o:oB AV) (ns:oA Nat),e=[o,oE a,oF m]/\k=ns.map Bn/\ns.length=j/\(∀n∈ns,n<m)/\b pc=oH k/\Pot b a l/\Bp a l T b) ⟨none,[],rfl,rfl,rfl,(λ_ z=>nomatch z),Ab,P3.new g,Bp.refl.new g⟩ (λ_ _ _ _ _=>trivial) ?_ ?_;rintro j y k e O Z2 hy ⟨o,ns,rfl,rfl,hn,hb,e4,V,Q⟩ hZ2;have hj:j<x0:=by rw[<- ai];exact(D_.mp hy).1
 refine L3 rfl ⟨a,l,m,rfl,V,fh,by omega,λv μ5 hv P5 S5=>?_⟩;have e5:=S5 pc _ d.1.symm d.2.symm e4;refine⟨e5,A8<|by rw[B_];omega,hZ2 _ _ _ ⟨_,ns++[v],rfl,by rw[L_];rfl,by rw[N_,hn];rfl,λn lj=>?_,Ab,P5.other d.1 d.2,(Q.trans S5).put g⟩⟩;rcases R_.mp lj with h|h;exact hb n h;rw[G_.mp h];exact hv;rintro k e O ⟨o,ns,rfl,rfl,hn,hb,e4,V,Q⟩;rw[ai]at hn;exact Ac (Am e4)<|Ac (Gi ns) ⟨_,Sub.refl,q ⟨p,x,t,ns⟩ _ ⟨hp,hx,ht,hb,(show ns.length<=2 by omega)⟩ (λz=>hpu (by have z:ns.length=2:=z;omega)) V<|S3.trans Q⟩
abbrev nRs:oA Str:=["_law_deal_here","_law_hands","_law_letters","_law_many","_law_most","_law_found","_law_k","_law_rule_here","_law_there"]
def Z4:FnScope nRs qM (Ad MS):=Bm<|by decide +kernel
def UV:(["_law_one","_law_rule_here"]:oA Str).Nodup:=by decide +kernel
def Ky(E:oA Rul)(v:Rul):Nat:=(E.filter λr=>decide (r.p=v.p/\r.x=v.x)).length
def ZA(r v:Rul):PyData.eqv (Bq [r.p,r.x]) (Bq [v.p,v.x])=decide (r.p=v.p/\r.x=v.x):=by show(decide ((r.p:Int)=v.p)&&(decide ((r.x:Int)=v.x)&&true))=_;rw[Bool.and_true,<- j_];exact fG.mpr ⟨λh=>⟨by omega,by omega⟩,λh=>⟨by omega,by omega⟩⟩
structure RsOk(hs:oA Nat)(mo:Nat)(B:oA Rul):Prop where
 nd:B.Nodup
 ps:pushes B<=mo
 an:∀i r,B[i]?=some r->hs.getD r.p 0≠0->Ky (B.take i) r<2
def RsOk.nil{a:oA Nat}{b:Nat}:RsOk a b []:=⟨bO,bH _,λi r h=>by simp at h⟩
def RsOk.snoc{b:oA Nat}{a:Nat}{B:oA Rul}{v:Rul}(h:RsOk b a B)(h1:v∉B)(h2:v.w.length=2->pushes B<a)(g:b.getD v.p 0≠0->Ky B v<2):RsOk b a (B++[v]):=by
 refine⟨Kv h.nd h1,?_,λi r e d=>?_⟩;unfold pushes;rw[dL,N_];by_cases c:v.w.length=2;have:=h2 c;unfold pushes at this;rw[List.filter_cons_of_pos<|by simpa using c];show _+1<=a;omega;rw[List.filter_cons_of_neg<|by simpa using c];exact h.ps;rcases gH i B.length with hi|hi;rw[c_ hi]at e;rw[List.take_append_of_le_length<|by omega];exact h.an i r e d;have:i=B.length:=by have:=(D_.mp e).1;rw[N_]at this;simp at this;omega
 subst this;rw[b_<|F_ _]at e;simp at e;subst e;rw[List.take_left];exact g d
def UW:ASp:=λh e R=>∃(a l d:lM) (b:oA Nat) (c many g:Nat),h=[.R a,.R d,.D<|.int c,.D<|.int many,.D<|.int g]/\0<b.length/\b.length<=5/\0<c/\c<=5/\many<=20/\Pot e a l/\d≠a/\d≠l/\e d=oH (b.map Bn)/\∀(B:oA Rul) μ',(∀r∈B,RulOk b.length c r)->B.length<=many->(many=0\/0<B.length)->RsOk b g B->Pot μ' a l->Bp a l e μ'->R (.D<|.tuple<|B.map Co) μ'
def Z5{B:oA Rul}{a:Rul}(h:((B.map Co).any λe=>PyData.eqv e<|Co a)=false):Co a∉B.map Co:=λhm=>by have:((B.map Co).any λe=>PyData.eqv e<|Co a)=true:=bP.mpr ⟨_,hm,Hy (Co a) (Nm a).2.2⟩;rw[this]at h;cases h
def UX{n:Nat}(F:Fun K "_law_rules" "_law_rules" MS f fd) (vf:VCal P w K mg base n "_law_rule" oU EZ) (ah:mg "range" = none) (ag:mg "len" = none) (al:mg "tuple" = none):FnOk P w K mg base Dz (n+1) f fd qM (Fb K 5 UW):=by
 refine F.vok Z4 λap A outer s H E hr=>⟨_,(Af (Aq (i:=5) Z4.nd rfl oI<|Cf Ae)<|Af (Cc aO rfl (Cz rfl ah<|Aa (vv 3) Ae) (Aj (i:=6) Z4.nd rfl oI)<|Af (Aq (i:=7) Z4.nd rfl oJ<|Al vf hr rfl<|Aa (vv 0)<|Aa (Br<|Aa (Av B1 rfl ag aG<|Aa (vv 1) Ae)<|Aa (vv 2)<|Aa (vv 4) Ae)<|Aa (vv 5) Ae)<|Af (Aq (i:=8) Z4.nd rfl oI<|Av B1 rfl ag aG<|Aa (Bg (N':=["_law_one","_law_rule_here"]) (mp:=[none,some 7]) rfl (Bc<|vv 5) (λ_ _ _ _=>(Aj (i:=0) UV rfl oI oJ)) (λ_ _ _ _=>(Cy<|Bd (Eo hr) (Bv (vv 0) Cd<|B3 Ah) (Bv (vv 1) Cd<|B3 Ah)<|nomark _)) (λ_ _ _ _=>(vv 0))<|Aw (N:=nRs) (pn:=(Ad MS).names)<|by decide +kernel) Ae)<|Ai<|Cl (VW.pt<|Fh (Bd (Sc hr) (vv 7) (vv 5)<|by with_unfolding_all rfl)<|D5<|VW.pt<|Xw (Bd (Eo hr) (Az Be (vv 1)<|Az Be (vv 7) Ah) Ah<|nomark _)<|Q0<|Bd KK (vv 8) Ah<|nomark _) (Ai<|Bu<|E4 cQ cU Dx (vv 5)<|Aa (vv 7) Ae) Bi)<|Ai<|A6<|Cp Fi rfl al dI<|Aa (vv 5) Ae),?_⟩
 rintro xs μ R _ ⟨a,l,g,k,u,many,m,rfl,hh0,hh5,fh,ku,hm,hP,na,nl,eH,q⟩;intro d T;have U:=hP.ne T;have Y:g≠d:=by rintro rfl;rw[eH]at T;cases T
 refine A0 (λe b=>∃Q X I,∃B:oA Rul,e=[oE a,oE g,oF u,oF many,oF m,oE d,Q,X,I]/\b d=oH (B.map Ch)/\B.length<=many/\(many=0\/0<B.length)/\(∀r∈B,RulOk k.length u r)/\RsOk k m B/\Pot b a l/\Bp a l μ b) (λZ hZ=>?_) ?_;refine⟨by omega,by omega,?_⟩;have ai:(Eg 0 (many:Int).toNat).length=many:=by rw[Bs];omega
 refine C5 (λi e b=>∃Q X I,∃B:oA Rul,e=[oE a,oE g,oF u,oF many,oF m,oE d,Q,X,I]/\b d=oH (B.map Ch)/\b g=oH (k.map Bn)/\B.length<=i/\(i=0\/0<B.length)/\(∀r∈B,RulOk k.length u r)/\RsOk k m B/\Pot b a l/\Bp a l μ b) ⟨none,none,none,[],rfl,Ab,by rw[Ag Y];exact eH,F_ _,.inl rfl,(λ_ z=>nomatch z),RsOk.nil,hP.new T,Bp.refl.new T⟩ (λ_ _ _ _=>trivial) ?_ ?_;rintro i y e μ3 Z2 hy ⟨Q,X,I,B,rfl,V,h3,hB,t,L,O,P3,S3⟩ hZ2;have hi:i<many:=by rw[<- ai];exact(D_.mp hy).1
 refine A0 (λe b=>∃v:Rul,e=[oE a,oE g,oF u,oF many,oF m,oE d,some y,some<|Ch v,I]/\RulOk k.length u v/\(v.w.length=2->pushes B<m)/\b d=oH (B.map Ch)/\b g=oH (k.map Bn)/\Pot b a l/\Bp a l μ b) (λZ3 cv=>?_) ?_;refine Ac h3 ⟨a,l,.R d,k.length,u,m,B,by rw[B_];rfl,hh0,hh5,fh,ku,by omega,P3,λb S=>Am<|S d _ U.1.symm U.2.symm V,λv μ4 hv gw P4 M=>cv _ _ ⟨v,rfl,hv,gw,M d _ U.1.symm U.2.symm V,M g _ na nl h3,P4,S3.trans M⟩⟩;rintro e μ4 ⟨v,rfl,hv,gw,e4,h4,P4,M⟩;refine A0 (λe b=>∃J:Nat,e=[oE a,oE g,oF u,oF many,oF m,oE d,some y,some<|Ch v,oF J]/\J=Ky B v/\b d=oH (B.map Ch)/\b g=oH (k.map Bn)/\Pot b a l/\Bp a l μ b) (λZ3 cv=>?_) ?_;refine Ac (Am e4) λpc G=>?_;have mn:=P4.ne G;have pi:d≠pc:=by rintro rfl;rw[e4]at G;cases G
 have gc:g≠pc:=by rintro rfl;rw[h4]at G;cases G
 refine cmapf B Ch (λr=>decide (r.p=v.p/\r.x=v.x)) Ch (λe=>∃o,e=[o,some<|Ch v]) ⟨none,rfl⟩ Ab (seven<|by omega) (λacc=>Am<|by rw[Ag pi,Ag pi];exact e4) ?_ ?_;rintro j r τ' acc W W2 hj ⟨o,rfl⟩ h1 h2;exact⟨Gq (ns:=[r.p,r.x]),Gq (ns:=[v.p,v.x]),br (λc=>h1 ((ZA r v).symm.trans c) _ ⟨_,rfl⟩) λc=>h2 ((ZA r v).symm.trans c) _ ⟨_,rfl⟩⟩;refine Ac Ab (cv _ _ ⟨_,rfl,by rw[B_];rfl,by rw[Ag pi,Ag pi];exact e4,by rw[Ag gc,Ag gc];exact h4,(P4.new G).other mn.1 mn.2,(M.new G).put<|M.none mn.1 mn.2 G⟩);rintro e C ⟨J,rfl,hth,e5,h5,P5,S5⟩;have yes:v∉B->(k.getD v.p 0≠0->Ky B v<2)->Z2 [oE a,oE g,oF u,oF many,oF m,oE d,some y,some<|Ch v,oF J] (Ao C d<|.lst<|B.map Ch++[Ch v]):=λn1 n2=>by refine hZ2 _ _ ⟨_,_,_,B++[v],rfl,by rw[Ab,L_];rfl,by rw[Ag Y];exact h5,by rw[N_];show B.length+1<=_;omega,.inr<|by simp,λr jt=>?_,O.snoc n1 gw n2,P5.other U.1 U.2,S5.put T⟩;rcases R_.mp jt with h|h;exact L r h;rw[G_.mp h];exact hv
 have no:0<B.length->Z2 [oE a,oE g,oF u,oF many,oF m,oE d,some y,some<|Ch v,oF J] C:=λh0=>
  hZ2 _ _ ⟨_,_,_,B,rfl,e5,h5,by omega,.inr h0,L,O,P5,S5⟩
 have put:v∉B->(k.getD v.p 0≠0->Ky B v<2)->L6 C (.R d)/\M5 (.R d) [Ch v] C λ_ μ1=>Z2 [oE a,oE g,oF u,oF many,oF m,oE d,some y,some<|Ch v,oF J] μ1:=λn1 n2=>⟨Ac e5 trivial,Ac e5 ⟨A8<|by rw[B_];omega,yes n1 n2⟩⟩;have yi:(k.map Bn)[v.p]?=some (Bn<|k.getD v.p 0):=by rw[M_,K_ hv.p];simp[hv.p]
 refine Ac rfl<|Ac (Am e5)<|Ac (Kx B) ⟨Kw v,Jb B,br (λc1=>?_) λc1=>?_⟩;have nv:v∉B:=λhm=>by rw[bZ]at c1;exact Z5 c1<|E_.mpr ⟨v,hm,rfl⟩
 refine Ac (Ak (j:=0) rfl) (Ac h5<|Ac (Ak yi)<|ieq (λc2=>L3 rfl<|put nv λz=>absurd (by omega) z) λc2=>dif (λc3=>put nv λ_=>by omega) λc3=>no ?_);rcases Nat.eq_zero_or_pos B.length with h0|h0;exact absurd (show(J:Int)<2 by rw[hth,cZ h0];show(0:Int)<2;decide) c3;exact h0;refine Kd rfl<|no ?_;rcases Nat.eq_zero_or_pos B.length with h0|h0;rw[cZ h0]at c1;cases c1;exact h0;rintro e μ3 ⟨Q,X,I,B,rfl,V,h3,hB,t,L,O,P3,S3⟩;rw[ai]at hB t;exact hZ _ _ ⟨_,_,_,B,rfl,V,hB,t,L,O,P3,S3⟩;rintro e μ3 ⟨Q,X,I,B,rfl,V,hB,t,L,O,P3,S3⟩;exact Ac (Am V)<|Ac (Kx B) ⟨_,Sub.refl,q B _ L hB t O P3 S3⟩
abbrev nGa:oA Str:=["_law_deal_here","_law_sizes","_law_hand","_law_hands","_law_letters","_law_rules_here"]
def FA:FnScope nGa qC (Ad MT):=Bm<|by decide +kernel
def UY:(yF:oA Str).Nodup:=by decide +kernel
structure Gam where
 pl:oA (Str×Nat)
 le:oA Str
 rs:oA Rul
def N3(p:Str×Nat):lL:=.tuple [.str p.1,.int p.2]
def B6(g:Gam):lL:=.tuple [.tuple<|g.pl.map N3,.tuple<|g.le.map PyData.str,.tuple<|g.rs.map Co]
structure GamOk(g:Gam)(np nl nr:Nat)(mo:Nat):Prop where
 p0:0<g.pl.length
 p1:g.pl.length<=np
 l0:0<g.le.length
 l1:g.le.length<=nl
 r0:0<g.rs.length
 r1:g.rs.length<=nr
 hd:∀p∈g.pl,p.2<2
 pn:Nms (g.pl.map (·.1))
 ln:Nms g.le
 ru:∀r∈g.rs,RulOk g.pl.length g.le.length r
 ro:RsOk (g.pl.map (·.2)) mo g.rs
def ND:ASp:=λh d R=>∃(a l:lM) (b c nr e:Nat),h=[.R a,.D<|.tuple [.int b,.int c,.int nr,.int e],.D<|.int 2]/\0<b/\b<=3/\0<c/\c<=3/\0<nr/\nr<=8/\Pot d a l/\∀(g:Gam) μ',GamOk g b c nr e->Pot μ' a l->Bp a l d μ'->R (.D<|B6 g) μ'
theorem Z6:∀(ys:oA Str) (a:oA Nat),List.zipWith (λd e=>PyData.tuple [d,e]) (ys.map PyData.str) (a.map λ(n:Nat)=>PyData.int n)=(ys.zip a).map N3
 |[],_=>rfl
 |_::_,[]=>rfl
 |y::ys,h::a=>by simp only[List.map_cons,List.zipWith_cons_cons,List.zip_cons_cons,Z6 ys a];rfl
def UZ{n:Nat}(F:Fun K "_law_game" "_law_game" MT f fd) (fc:VCal P w K mg base n "_law_draw" oK Vj) (Y:VCal P w K mg base n "_law_names" oK UQ) (cRs:VCal P w K mg base n "_law_rules" qM UW) (ah:mg "range" = none) (fg:mg "int" = none) (ag:mg "len" = none) (al:mg "tuple" = none) (jp:mg "zip" = none):FnOk P w K mg base Dz (n+1) f fd qC (Fb K 3 ND):=by
 refine F.vok FA λap A outer s H E O=>⟨_,(Af (Ee (i:=3) (N':=yF) (mp:=[none,some 2,some 0]) rfl FA.nd rfl rfl (Cz rfl ah<|Aa (Ba Cj Ah<|Al fc O rfl<|Aa (vv 0)<|Aa (Az Be (vv 1) Ah) Ae) Ae) (λ_ _ _ _=>(Aj (i:=0) UY rfl oI oJ)) (λ_ _ _ _=>Bl) (λ_ _ _ _=>(Az Be (Cf<|Aa (Al fc O rfl<|Aa (vv 2)<|Aa Ah Ae)<|Aa (vv 1) Ae)<|Cp GW rfl fg PyProof.Rows.boot_int<|Aa (Ke KK (vv 1) Ah<|nomark _) Ae))<|Aw (N:=nGa) (pn:=(Ad MT).names)<|by decide +kernel)<|Af (Aq (i:=4) FA.nd rfl oI<|Al Y O rfl<|Aa (vv 0)<|Aa (Ba Cj Ah<|Al fc O rfl<|Aa (vv 0)<|Aa (Az Be (vv 1) Ah) Ae) Ae)<|Af (Aq (i:=5) FA.nd rfl oI<|Al cRs O rfl<|Aa (vv 0)<|Aa (vv 3)<|Aa (Av B1 rfl ag aG<|Aa (vv 4) Ae)<|Aa (Ba Cj Ah<|Al fc O rfl<|Aa (vv 0)<|Aa (Az Be (vv 1) Ah) Ae)<|Aa (Az Be (vv 1) Ah) Ae)<|Ai<|A6<|Br<|Aa (EH rfl rfl al rfl jp (Al Y O rfl<|Aa (vv 0)<|Aa (Av B1 rfl ag aG<|Aa (vv 3) Ae) Ae)<|vv 3)<|Aa (Cp Fi rfl al dI<|Aa (vv 4) Ae)<|Aa (vv 5) Ae),?_⟩
 rintro xs μ R _ ⟨a,l,U,X,nr,T,rfl,ml,pe,fh,my,hr0,hr8,hP,q⟩;refine A0 (λt b=>∃(c:oA Nat) (e:lM),t=[oE a,oG<|.tuple [.int U,.int X,.int nr,.int T],oF 2,oE e,none,none]/\0<c.length/\c.length<=U/\(∀h∈c,h<2)/\e≠a/\e≠l/\b e=oH (c.map Bn)/\Pot b a l/\Bp a l μ b) (λZ hZ=>?_) ?_;refine Ac (Ak (j:=0) rfl) ⟨a,l,U,rfl,hP,ml,by omega,λv μ1 hv P1 S1=>⟨by omega,by omega,λW aq=>?_⟩⟩;have C:=P1.ne aq;have ai:(Eg 0 (1+(v:Int)).toNat).length=1+v:=by rw[Bs];omega
 refine Ep (λj u t b=>∃(o:oB AV) (c:oA Nat),t=[o,oF 2,oE a]/\u=c.map Bn/\c.length=j/\(∀h∈c,h<2)/\b W=oH u/\Pot b a l/\Bp a l μ1 b) ⟨none,[],rfl,rfl,rfl,(λ_ z=>nomatch z),Ab,P1.new aq,Bp.refl.new aq⟩ (λ_ _ _ _ _=>trivial) ?_ ?_;rintro j y u t Q Z2 hy ⟨o,c,rfl,rfl,hn,hb,V,G,I⟩ hZ2;have hj:j<1+v:=by rw[<- ai];exact(D_.mp hy).1
 refine L3 rfl ⟨a,l,2,rfl,G,by decide,by decide,λd x hd J m=>λp8 ko=>?_⟩;have e3:=m W _ C.1.symm C.2.symm V;have hn8:=J.ne ko;have hc8:W≠p8:=by rintro rfl;rw[e3]at ko;cases ko
 have e8:Ao x p8 (.lst [Bn d,.D<|.int 2]) W=oH (c.map Bn):=by rw[Ag hc8];exact e3
 refine Ac Ab (Ac (Ak (j:=0) (v:=Bn d) rfl) ⟨e8,A8<|by rw[B_];omega,hZ2 _ _ _ ⟨_,c++[d],rfl,by rw[L_];rfl,by rw[N_,hn];rfl,λh hh=>?_,Ab,(J.new ko).other C.1 C.2,((I.trans m).new ko).put aq⟩⟩);rcases R_.mp hh with h1|h1;exact hb h h1;rw[G_.mp h1];exact hd;rintro u t Q ⟨o,c,rfl,rfl,hn,hb,V,G,I⟩;rw[ai]at hn;exact hZ _ _ ⟨c,W,rfl,by omega,by omega,hb,C.1.symm,C.2.symm,V,G,S1.trans I⟩;rintro t μ1 ⟨c,e,rfl,hh0,hhn,hh2,S,g,e1,P1,S1⟩;refine A0 (λt b=>∃(zs:oA Str) (k:lM),t=[oE a,oG<|.tuple [.int U,.int X,.int nr,.int T],oF 2,oE e,oE k,none]/\0<zs.length/\zs.length<=X/\Nms zs/\k≠a/\k≠l/\b k=oH (zs.map C1)/\b e=oH (c.map Bn)/\Pot b a l/\Bp a l μ b) (λZ hZ=>?_) ?_;refine Ac (Ak (j:=1) rfl) ⟨a,l,X,rfl,P1,fh,by omega,λv Q hv G I=>⟨a,l,1+v,rfl,by omega,G,λzs k x hz hN hf ez J m=>?_⟩⟩;have C:=G.ne hf;exact hZ _ _ ⟨zs,k,rfl,by omega,by omega,hN,C.1.symm,C.2.symm,ez,m e _ S g<|I e _ S g e1,J,(S1.trans I).trans m⟩;rintro t Q ⟨zs,k,rfl,hz0,hzn,hN,za,zl,ez,V,G,I⟩;refine A0 (λt b=>∃B:oA Rul,t=[oE a,oG<|.tuple [.int U,.int X,.int nr,.int T],oF 2,oE e,oE k,oG<|.tuple<|B.map Co]/\0<B.length/\B.length<=nr/\(∀r∈B,RulOk c.length zs.length r)/\RsOk c T B/\b k=oH (zs.map C1)/\b e=oH (c.map Bn)/\Pot b a l/\Bp a l μ b) (λZ hZ=>?_) ?_;refine Ac ez (Ac (Ak (j:=2) rfl) ⟨a,l,nr,rfl,G,hr0,by omega,λv x hv J m=>Ac (Ak (j:=3) rfl) ⟨a,l,e,c,zs.length,1+v,T,by rw[B_];rfl,hh0,by omega,hz0,by omega,by omega,J,S,g,m e _ S g V,λB μ4 kB hB hB0 kR P4 M=>?_⟩⟩);exact hZ _ _ ⟨B,rfl,by omega,by omega,kB,kR,M k _ za zl<|m k _ za zl ez,M e _ S g<|m e _ S g V,P4,(I.trans m).trans M⟩;rintro t x ⟨B,rfl,hB0,hBn,kB,kR,ez3,e3,J,m⟩;refine Ac e3 ⟨a,l,c.length,by rw[B_],by omega,J,λL py μ4 hy hNy hf ey P4 M=>?_⟩;have e4:=M e _ S g e3;have ez4:=M k _ za zl ez3;refine Ac ey (Ac e4<|Ac (Ig L)<|Ac (Gi c) ⟨⟨by simp[hy],by simp;omega⟩,Ac (Am ez4)<|Ac (Ig zs) ⟨_,Sub.refl,?_⟩⟩);rw[Z6];have fo:(L.zip c).length=c.length:=by rw[List.length_zip];omega
 refine q ⟨L.zip c,zs,B⟩ _ ⟨?_,?_,hz0,hzn,hB0,hBn,λp hp=>?_,?_,hN,?_,?_⟩ P4<|m.trans M;show 0<(L.zip c).length;omega;show(L.zip c).length<=U;omega;exact hh2 p.2 (iA hp).2;show Nms ((L.zip c).map (·.1));rw[List.map_fst_zip<|by omega];exact hNy;show ∀r∈B,RulOk (L.zip c).length zs.length r;rw[fo];exact kB;show RsOk ((L.zip c).map (·.2)) T B;rw[List.map_snd_zip<|by omega];exact kR
structure Rz where
 p:Int
 x:Int
 q:Int
 w:oA Int
deriving DecidableEq
def Fa(r:Rz):lL:=.tuple [.int r.p,.int r.x,.int r.q,.tuple<|r.w.map .int]
def Qe(r:Rz):AV:=.D<|Fa r
structure Gz where
 pl:oA (Str×Nat)
 le:oA Str
 rs:oA Rz
def Kz(g:Gz):lL:=.tuple [.tuple<|g.pl.map N3,.tuple<|g.le.map PyData.str,.tuple<|g.rs.map Fa]
def thr(z n:Int):Bool:=decide (0<=z/\z<n)
def parts(a b:Nat)(r:Rz):Bool:=thr r.p a&&thr r.q a&&(r.x::r.w).all λz=>thr z b
def Ih(r:Rz):Bool:=decide (r.w.length=2)
def B4(B:oA Rz):Nat:=(B.filter Ih).length
def HQ(v r:Rz):Bool:=decide (r.p=v.p/\r.x=v.x)
def D4(E:oA Rz)(v:Rz):Nat:=(E.filter<|HQ v).length
theorem Tc:∀(ns:oA Int),PyData.canLayAll0 (ns.map .int)=true/\PyData.depthAll (ns.map .int)<=0/\Bz (ns.map .int)=true
 |[]=>⟨rfl,F_ _,rfl⟩
 |n::ns=>by obtain⟨h1,h2,a⟩:=Tc ns;simp only[List.map_cons,PyData.canLayAll0,PyData.depthAll,Bz,Cano,PyData.depth,h1,a,Bool.and_true];exact⟨rfl,by omega,trivial⟩
def Md(r:Rz):(Fa r).canLay0=true/\(Fa r).depth<=2/\Cano (Fa r)=true:=by obtain⟨h1,h2,a⟩:=Tc r.w;refine⟨?_,?_,?_⟩;simp only[Fa,PyData.canLay0,PyData.canLayAll0,h1,Bool.and_true];simp only[Fa,PyData.depth,PyData.depthAll];omega;simp only[Fa,Cano,Bz,a,Bool.and_true,Bool.true_and]
theorem Rt:∀(B:oA Rz),PyData.canLayAll0 (B.map Fa)=true/\PyData.depthAll (B.map Fa)<=2/\Bz (B.map Fa)=true
 |[]=>⟨rfl,by simp[PyData.depthAll],rfl⟩
 |a::B=>by obtain⟨h1,h2,b⟩:=Md a;obtain⟨c,d,k3⟩:=Rt B;simp only[List.map_cons,PyData.canLayAll0,PyData.depthAll,Bz,h1,b,c,k3,Bool.and_self,true_and,and_true];omega
def FB(a:Rz):Cb (Fa a):=⟨(Md a).1,I_ (Md a).2.1 (by decide)⟩
def Z7(B:oA Rz):Cb (.tuple<|B.map Fa):=⟨by simp only[PyData.canLay0];exact(Rt B).1,by have:=(Rt B).2.1;simp only[PyData.depth];omega⟩
theorem Pn:∀{a b:oA Int},a.map PyData.int=b.map PyData.int->a=b
 |[],[],_=>rfl
 |[],_::_,h=>by cases h
 |_::_,[],h=>by cases h
 |x::a,y::b,h=>by simp only[List.map_cons,List.cons.injEq,PyData.int.injEq]at h;rw[h.1,Pn h.2]
def FC{a b:Rz}(h:Fa a=Fa b):a=b:=by obtain⟨p,x,q,w⟩:=a;obtain⟨g,d,c,e⟩:=b;simp only[Fa,PyData.tuple.injEq,List.cons.injEq,PyData.int.injEq,and_true]at h;obtain⟨rfl,rfl,rfl,h⟩:=h;rw[Pn h]
def Z8(B:oA Rz)(v:Rz):((B.map Fa).any λe=>PyData.eqv e<|Fa v)=decide (v∈B):=by rw[iB,bP,aZ];constructor;rintro⟨d,b,e⟩;obtain⟨r,a,rfl⟩:=E_.mp b;rw[<- FC (Yd _ _ (Md r).2.2 (Md v).2.2 e)];exact a;intro h;exact⟨_,E_.mpr ⟨v,h,rfl⟩,Hy _ (Md v).2.2⟩
def Ii{a:M}{B:oA Rz}:items a (.D<|.tuple<|B.map Fa)=some (B.map Qe):=by show some ((B.map Fa).map AV.D)=_;rw[aB];rfl
def VB{b:M}{as:oA Int}:items b (.D<|.tuple<|as.map .int)=some (as.map λa=>.D<|.int a):=by show some ((as.map PyData.int).map AV.D)=_;rw[aB];rfl
def Jc{a:Type}(g:a->lL)(xs:oA a)(n:Nat):Jn (xs.map g) none (some (n:Int))=(xs.take n).map g:=by unfold Jn;rw[HT.sIx_none,HT.sIx_nat,gR,kI,<- hJ,B_];by_cases h:n<=xs.length;rw[iE h];rw[jP<|by omega,aN,dA<|by omega]
def Vo{a:Type}(g:a->lL)(xs:oA a)(n:Nat):Jn (xs.map g) (some (n:Int)) none=(xs.drop n).map g:=by unfold Jn;rw[HT.sIx_none,HT.sIx_nat,<- kU,B_];by_cases h:n<=xs.length;rw[iE h,dA<|by rw[B_,dN];exact F_ _];rw[jP<|by omega,dO,List.drop_of_length_le<|by omega];simp
def Gr{a:Type}(g:a->AV)(xs:oA a)(n:Nat):Jo (xs.map g) none (some (n:Int))=(xs.take n).map g:=by unfold Jo;rw[HT.sIx_none,HT.sIx_nat,gR,kI,<- hJ,B_];by_cases h:n<=xs.length;rw[iE h];rw[jP<|by omega,aN,dA<|by omega]
def Vp{a:Type}(g:a->AV)(xs:oA a)(n:Nat):Jo (xs.map g) (some (n:Int)) none=(xs.drop n).map g:=by unfold Jo;rw[HT.sIx_none,HT.sIx_nat,<- kU,B_];by_cases h:n<=xs.length;rw[iE h,dA<|by rw[B_,dN];exact F_ _];rw[jP<|by omega,dO,List.drop_of_length_le<|by omega];simp
def Qbm:(!kit "int" "bool")=true:=by decide
abbrev nIt:oA Str:=oV
def Qbn:FnScope nIt oV (Ad PB):=Bm<|by decide +kernel
def NE:ASp:=λb a R=>∃(n m:Int),b=[.D<|.int n,.D<|.int m]/\R (.D<|.bool<|thr n m) a
def VC{n:Nat}(F:Fun K "is_there" "is_there" PB f fd) (d:mg "isinstance" = none) (g:mg "bool" = none):FnOk P w K mg base Dz (n+1) f fd oV (Fb K 2 NE):=by
 refine F.vok Qbn λk A a s H E j=>⟨_,(Ai<|A6<|KF (KG<|KO rfl d rfl g PyProof.Rows.boot_bool Uy<|vv 0)<|KD<|Xu DN KK Ah (vv 0)<|vv 1),?_⟩;rintro h b R _ ⟨i,m,rfl,q⟩;unfold thr at q;refine Ac rfl<|L3 Qbm<|dif (λc=>⟨b,Sub.refl,?_⟩) λc=>⟨b,Sub.refl,?_⟩;have e:decide (0<=i/\i<m)=decide (i<m):=by simp[c]
 rw[e]at q;exact q;have e:decide (0<=i/\i<m)=false:=by simp[c]
 rw[e]at q;exact q
abbrev nIp:oA Str:=qD
def Qbo:FnScope nIp qD (Ad PH):=Bm<|by decide +kernel
def VD:ASp:=λb a R=>∃(r:Rz),b=[Qe r]/\R (.D<|.bool<|Ih r) a
def VF{n:Nat}(F:Fun K "is_push" "is_push" PH f fd) (c:mg "len" = none):FnOk P w K mg base Dz (n+1) f fd qD (Fb K 1 VD):=by refine F.vok Qbo λe A a s H E d=>⟨_,(Ai<|A6<|Ke (Eo d) (Av B1 rfl c aG<|Aa (Az Be (vv 0) Ah) Ae) Ah<|nomark _),?_⟩;rintro g b R _ ⟨r,rfl,q⟩;refine Ac (Ak (j:=3) rfl) ⟨B0 _,B0 _,b,Sub.refl,?_⟩;rw[M6,B_,show decide ((r.w.length:Int)=2)=Ih r from fG.mpr ⟨λh=>by omega,λh=>by omega⟩];exact q
abbrev nHp:oA Str:=["game","rule","places","letters"]
def NF:FnScope nHp oM (Ad MJ):=Bm<|by decide +kernel
def VH:(["letter","letters"]:oA Str).Nodup:=by decide +kernel
def VJ:ASp:=λb a R=>∃(g:Gz) (r:Rz),b=[.D<|Kz g,Qe r]/\r.w.length<=20/\R (.D<|.bool<|parts g.pl.length g.le.length r) a
def VL{n:Nat}(F:Fun K "has_its_parts" "has_its_parts" MJ f fd) (l:VCal P w K mg base n "is_there" oV NE) (u:mg "len" = none) (B:mg "all" = none):FnOk P w K mg base Dz (n+1) f fd oM (Fb K 2 VJ):=by
 refine F.vok NF λJ A m s H E t=>⟨_,(Af (Aq (i:=2) NF.nd rfl oI<|Av B1 rfl u aG<|Aa (Az Be (vv 0) Ah) Ae)<|Af (Aq (i:=3) NF.nd rfl oJ<|Av B1 rfl u aG<|Aa (Az Be (vv 0) Ah) Ae)<|Af (Cl (VW.pt<|Xw (Fz<|D3<|Al l t rfl<|Aa (Az Be (vv 1) Ah)<|Aa (vv 2) Ae)<|Q0<|Fz<|D3<|Al l t rfl<|Aa (Az Be (vv 1) Ah)<|Aa (vv 2) Ae) (Ai<|A6 E3) Bi)<|Ai<|A6<|Av (Se rfl) rfl B gO<|Aa (Bg (N':=["letter","letters"]) (mp:=[none,some 3]) rfl (Bc<|Ba Cj (Br<|Aa (Az Be (vv 1) Ah) Ae)<|Az Be (vv 1) Ah) (λ_ _ _ _=>(Aj (i:=0) VH rfl oI oJ)) (λ_ _ _ _=>Bl) (λ_ _ _ _=>(Al l t rfl<|Aa (vv 0)<|Aa (vv 1) Ae))<|Aw (N:=nHp) (pn:=(Ad MJ).names)<|by decide +kernel) Ae),?_⟩
 rintro I h R _ ⟨g,r,rfl,G,q⟩;refine A0 (λb a=>b=[oG<|Kz g,some<|Qe r,oF g.pl.length,none]/\h=a) (λZ k=>?_) ?_;refine Ac (Ak (j:=0) rfl)<|k _ _ ⟨?_,rfl⟩;rw[B_];rfl;rintro b _ ⟨rfl,rfl⟩;refine A0 (λb a=>b=[oG<|Kz g,some<|Qe r,oF g.pl.length,oF g.le.length]/\h=a) (λZ k=>?_) ?_;refine Ac (Ak (j:=1) rfl)<|k _ _ ⟨?_,rfl⟩;rw[B_];rfl;rintro b _ ⟨rfl,rfl⟩;have v:parts g.pl.length g.le.length r=false->OX R (.D<|.bool false) h:=λe=>⟨h,Sub.refl,by rw[e]at q;exact q⟩;refine A0 (λb a=>b=[oG<|Kz g,some<|Qe r,oF g.pl.length,oF g.le.length]/\h=a/\thr r.p g.pl.length=true/\thr r.q g.pl.length=true) (λZ k=>?_) ?_;refine Ac (Ak (j:=0) rfl) ⟨r.p,g.pl.length,rfl,br (λd=>L3 rfl<|v ?_) λd=>?_⟩;rw[bZ]at d;unfold parts;rw[d];rfl;rw[iJ]at d;refine Ac (Ak (j:=2) rfl) ⟨r.q,g.pl.length,rfl,br (λc=>v ?_) λc=>?_⟩;rw[bZ]at c;unfold parts;rw[c,Bool.and_false];rfl;rw[iJ]at c;exact k _ _ ⟨rfl,rfl,d,c⟩;rintro b _ ⟨rfl,rfl,d,c⟩;have e:parts g.pl.length g.le.length r=(r.x::r.w).all λz=>thr z g.le.length:=by unfold parts;rw[d,c];rfl
 refine Ac (Ak (j:=1) rfl)<|Ac (Ak (j:=3) rfl) ⟨?_,Ac (VB (as:=r.x::r.w)) λp hp=>?_⟩;rw[B_];exact I_ (show _<=30 by simp only[List.length_cons,List.length_nil];omega) (by decide);refine cmap (r.x::r.w) _ (λz=>.D<|.bool<|thr z g.le.length) (λb=>∃o,b=[o,oF g.le.length]) ⟨none,rfl⟩ Ab (seven<|by simp only[List.length_cons];omega) (λ_=>VB (as:=r.x::r.w)) ?_ ?_;rintro i z C y W hi ⟨o,rfl⟩ hW;exact⟨z,g.le.length,rfl,hW _ ⟨_,rfl⟩⟩;refine Sl Ab ⟨h,(Sub.refl.new hp).new hp,?_⟩;rw[e]at q;exact q
abbrev nLs:oA Str:=qE
def Qbp:FnScope nLs qE (Ad PD):=Bm<|by decide +kernel
def VM:Hw:=λb a R c=>∃(z:Str) (n m:Int),b=[.D<|.str z,.D<|.int n,.D<|.int m]/\1<=n/\n<=m/\R (.D .none) a
def VN{n:Nat}{C:lM}(F:Fun K "look_size" "look_size" PD f fd) (e:XCal P w K mg base n "NoGame" C qA):FnOk P w K mg base (My P w) (n+1+1) f fd qE (Le K 3 VM):=by refine F.vokX Qbp λl A a s H E j h g=>⟨_,(Ai<|Cl (Fz<|Xv DN DN Ah (vv 1)<|vv 2) (Ai<|E6 e h rfl g rfl<|Aa (vv 0)<|Aa (vv 1) Ae) Bi),?_⟩;rintro k d R _ ⟨z,i,m,rfl,h1,h2,q⟩;refine dif (λc=>br (λb=>?_) λb=>?_) λc=>absurd h1 c;rw[bZ]at b;exact absurd h2<|eI b;exact⟨d,Sub.refl,q⟩
abbrev nLu:oA Str:=["names","number","name"]
def NG:FnScope nLu qN (Ad PF):=Bm<|by decide +kernel
def VP:Hw:=λb a R c=>∃(x:AV) (zs:oA Str),b=[x]/\(x=.D (.tuple<|zs.map .str)\/∃p,x=.R p/\a p=oH (zs.map C1))/\Nms zs/\zs.length<=20/\R (.D .none) a
theorem No:∀{zs:oA Str},(∀z∈zs,lets z)->PyData.canLayAll0 (zs.map .str)=true/\PyData.depthAll (zs.map .str)<=0
 |[],_=>⟨rfl,F_ _⟩
 |z::zs,h=>by obtain⟨h1,h2⟩:=No (zs:=zs) λy hy=>h y<|aE _ hy;simp only[List.map_cons,PyData.canLayAll0,PyData.depthAll,PyData.depth,h1,S8<|h z List.mem_cons_self,Bool.and_true];exact⟨trivial,by omega⟩
def Me{zs:oA Str}(h:∀z∈zs,lets z):Cb (.tuple<|zs.map .str):=⟨by simp only[PyData.canLay0];exact(No h).1,by have:=(No h).2;simp only[PyData.depth];omega⟩
def Vq{zs:oA Str}(k:zs.Nodup){i:Nat}{z:Str}(h:zs[i]?=some z):(((zs.take i).map PyData.str).any λe=>PyData.eqv e<|.str z)=false:=by
 rw[jD];intro c;obtain⟨d,b,e⟩:=bP.mp c;obtain⟨y,hy,rfl⟩:=E_.mp b;have g:y=z:=by simpa [PyData.eqv] using e
 subst g;obtain⟨j,hj,a⟩:=dU hy;rw[List.getElem_take]at a;rw[aU]at hj;have hi:=(D_.mp h);have:j=i:=(kW k).mp<|a.trans hi.2.symm;omega
def NH{zs:oA Str}{i:Nat}{x:AV}(h:(E7 0<|zs.map PyData.str)[i]?=some x):∃z,zs[i]?=some z/\x=.D (.tuple [.int i,.str z]):=by obtain⟨d,a,rfl⟩:=E8 h;rw[M_]at a;obtain⟨p,hp,rfl⟩:=J_.mp a;exact⟨p,hp,by rw[kJ]⟩
def Qbq{a:M}{zs:oA Str}:items a (.D<|.tuple<|zs.map .str)=some (zs.map C1):=by show some ((zs.map PyData.str).map AV.D)=_;rw[aB];rfl
def VQ{n:Nat}{C:lM}(F:Fun K "look_unlike" "look_unlike" PF f fd) (I:mg "enumerate" = none) (J:XCal P w K mg base n "NoGame" C qA):FnOk P w K mg base (My P w) (n+1+1) f fd qN (Le K 1 VP):=by
 refine F.vokX NG λT A k s H E O B L=>⟨_,(Ai<|Cc PassesOwn.leaving rfl (Sk rfl I<|vv 0) (Ds (n:=2) rfl<|Ay (Aj (i:=1) NG.nd rfl oI)<|Ay (Aj (i:=2) NG.nd rfl oI) B8)<|Ai<|Cl (Bd (DM B) (vv 2) (Bv (vv 0) Cd<|B3<|vv 1)<|by with_unfolding_all rfl) (Ai<|E6 J B rfl L rfl<|Aa Bt<|Aa (vv 1) Ae) Bi),?_⟩;rintro Q h R _ ⟨x,r,rfl,hx,j,N,q⟩;have v:∀ a,Sub h a->items a x=some (r.map C1):=λa S=>by rcases hx with rfl|⟨p,rfl,e⟩;exact Qbq;exact Am<|S p _ e
 refine Ac (v h Sub.refl)<|Ac (Ig r) ?_;refine C5 (λi t b=>∃m o,t=[some x,m,o]/\Sub h b) ⟨none,none,rfl,Sub.refl⟩ (by rintro _ _ _ ⟨_,_,_,S⟩;exact v _ S) ?_ ?_;rintro i y t b W hy ⟨m,o,rfl,c⟩ hW;obtain⟨z,hz,rfl⟩:=NH hy;have g:=aA hz;have D:=Vq j.d hz;have u:∀y∈r.take i,lets y:=λy hy=>j.l y<|dZ hy;refine⟨rfl,?_⟩;rcases hx with rfl|⟨p,rfl,e⟩;refine Ac rfl ?_;rw[Jc];exact⟨Ja<|j.l z g,Me u,Kd D<|hW _ _ ⟨_,_,rfl,c⟩⟩;refine Ac (Am<|c p _ e) λM G=>?_;rw[Gr];exact Ac rfl<|Ac (Am Ab)<|Ac (Ig _) ⟨Ja<|j.l z g,Me u,Kd D<|hW _ _ ⟨_,_,rfl,c.new<|c.none G⟩⟩;rintro t b ⟨m,o,rfl,c⟩;exact⟨h,c,q⟩
def G2(H:oA Nat)(a:Nat)(E:oA Rz)(r:Rz):Bool:=parts H.length a r && !decide (r∈E) && !(decide (H.getD r.p.toNat 0=1)&&decide (1<D4 E r))
def NI(H:oA Nat)(b:Nat)(a:oA Rz):Prop:=∀i r,a[i]?=some r->G2 H b (a.take i) r=true
def Po(H:oA Nat)(b:Nat)(a:oA Rz):Bool:=decide (a.length<=8)&&(a.zipIdx.all λz=>G2 H b (a.take z.2) z.1)&&decide (B4 a<4)
def NJ{H:oA Nat}{b:Nat}{a:oA Rz}:(a.zipIdx.all λz=>G2 H b (a.take z.2) z.1)=true↔NI H b a:=by rw[bY];constructor;intro h i r e;exact h (r,i)<|List.mem_zipIdx_iff_getElem?.mpr e;rintro h ⟨r,i⟩ hm;exact h i r<|List.mem_zipIdx_iff_getElem?.mp hm
def Dt{H:oA Nat}{b:Nat}{a:oA Rz}:Po H b a=true↔a.length<=8/\NI H b a/\B4 a<4:=by unfold Po;rw[Z_,Z_,aZ,aZ,NJ,and_assoc]
abbrev Gz.H(g:Gz):oA Nat:=g.pl.map (·.2)
def fits(g:Gz):Bool:=Po g.H g.le.length g.rs
structure GzOk(g:Gz):Prop where
 p0:0<g.pl.length
 p1:g.pl.length<=3
 l0:0<g.le.length
 l1:g.le.length<=3
 pn:Nms (g.pl.map (·.1))
 ln:Nms g.le
 rn:g.rs.length<=20
 rw:∀r∈g.rs,r.w.length<=20
 hd:∀p∈g.pl,p.2<2
def K0{b:Type}{a:oA b}{i:Nat}{r:b}(h:a[i]?=some r):a.take (i+1)=a.take i++[r]:=by rw[aS,h];rfl
def Jk(B:oA Rz)(r:Rz):B4 (B++[r])=B4 B+if Ih r then 1 else 0:=by unfold B4;rw[dL,N_];cases h:Ih r<;>simp[h]
def Vr(B:oA Rz)(v r:Rz):D4 (B++[r]) v=D4 B v+if HQ v r then 1 else 0:=by unfold D4;rw[dL,N_];cases h:HQ v r<;>simp[h]
def FD{B:oA Rz}{v r:Rz}(h:HQ v r=true):D4 B v=D4 B r:=by obtain⟨h1,h2⟩:=aC h;unfold D4 HQ;rw[h1,h2]
def Pp{B:oA Rz}(i:Nat):B4 (B.take i)<=B4 B:=by unfold B4;exact(List.Sublist.filter _<|eX i B).length_le
def Z9(a b:Int):Cb (.tuple [.int a,.int b]):=⟨rfl,by simp[PyData.depth,PyData.depthAll]⟩
abbrev nLr:oA Str:=["game","number","rule","ahead"]
def NK:FnScope nLr qO (Ad HF):=Bm<|by decide +kernel
def VR:(["one"]:oA Str).Nodup:=by decide +kernel
def VU:(["one","rule"]:oA Str).Nodup:=by decide +kernel
def good(g:Gz)(i:Nat)(r:Rz):Prop:=G2 g.H g.le.length (g.rs.take i) r=true/\¬(Ih r=true/\B4 (g.rs.take i)=3)
structure Prl(g:Gz)(i:Nat):Prop where
 pu:B4 (g.rs.take i)<=3
 sa:∀v:Rz,g.H.getD v.p.toNat 0=1->D4 (g.rs.take i) v<=2
def VX(C:lM):Hw:=λd c R e=>∃(g:Gz) (i:Nat) (r:Rz),d=[.D<|Kz g,.D<|.int i]/\GzOk g/\g.rs[i]?=some r/\Prl g i/\(good g i r->R (.D .none) c)/\(¬good g i r->∀a b,e C [("word",a),("at",b)] c)
def VY{n:Nat}{C:lM}(F:Fun K "look_rule" "look_rule" HF f fd) (V:VCal P w K mg base (n+1) "has_its_parts" oM VJ) (J:VCal P w K mg base (n+1) "is_push" qD VD) (ag:mg "len" = none) {t1 t2 t3:Tok} (mMH:mg "MOST_PUSHES" = some (.int 3 t1)) (S:mg "MOST_ANSWERS" = some (.int 2 t2)) (pq:mg "OTHER_HAND" = some (.int 1 t3)) (bj:XCal P w K mg base n "NoGame" C qA) :
  FnOk P w K mg base (My P w) (n+1+1) f fd qO (Le K 2<|VX C):=by
 refine F.vokX NK λap A Q s H E EX l X=>⟨_,(Af (Aq (i:=2) NK.nd rfl oJ<|Az Be (Az Be (vv 0) Ah)<|vv 1)<|Af (Aq (i:=3) NK.nd rfl oI<|Bv (Az Be (vv 0) Ah) Cd<|B3<|vv 1)<|Af (Cl (VW.pt<|Xw (Fz<|D3<|Al V l rfl<|Aa (vv 0)<|Aa (vv 2) Ae)<|Q0<|Bd (DM l) (vv 2) (vv 3)<|by with_unfolding_all rfl) (Ai<|E6 bj l rfl X rfl<|Aa Bt<|Aa (vv 1) Ae) Bi)<|Af (Cl (VW.pt<|Fh (D3<|Al J l rfl<|Aa (vv 2) Ae)<|D5<|Bd (Eo l) (Av B1 rfl ag aG<|Aa (Bg (N':=["one"]) (mp:=[none]) rfl (Bc<|vv 3) (λ_ _ _ _=>(Aj (i:=0) VR rfl oI oJ)) (λ_ _ _ _=>(Cy<|D3<|Al J l rfl<|Aa (vv 0) Ae)) (λ_ _ _ _=>(vv 0))<|Aw (N:=nLr) (pn:=(Ad HF).names)<|by decide +kernel) Ae) (Fg rfl mMH (v:=.int 3) ⟨_,rfl⟩ λ_=>Ce)<|nomark _) (Ai<|E6 bj l rfl X rfl<|Aa Bt<|Aa (vv 1) Ae) Bi)<|Ai<|Cl (VW.pt<|Fh (Bd (Eo l) (Az Be (Az Be (Az Be (vv 0) Ah)<|Az Be (vv 2) Ah) Ah) (Fg rfl pq (v:=.int 1) ⟨_,rfl⟩ λ_=>Ce)<|nomark _)<|D5<|Bd (Eo l) (Av B1 rfl ag aG<|Aa (Bg (N':=["one","rule"]) (mp:=[none,some 2]) rfl (Bc<|vv 3) (λ_ _ _ _=>(Aj (i:=0) VU rfl oI oJ)) (λ_ _ _ _=>(Cy<|Bd (Eo l) (Bv (vv 0) Cd<|B3 Ah) (Bv (vv 1) Cd<|B3 Ah)<|nomark _)) (λ_ _ _ _=>(vv 0))<|Aw (N:=nLr) (pn:=(Ad HF).names)<|by decide +kernel) Ae) (Fg rfl S (v:=.int 2) ⟨_,rfl⟩ λ_=>Ce)<|nomark _) (Ai<|E6 bj l rfl X rfl<|Aa Bt<|Aa (vv 1) Ae) Bi),?_⟩
 rintro xs k R _ ⟨g,i,r,rfl,hG,hi,hP,q1,q2⟩;have zht:i<20:=by have:=(D_.mp hi).1;have:=hG.rn;omega
 have T:=hG.rw r<|aA hi;refine A0 (λh d=>h=[oG<|Kz g,oF i,some<|Qe r,none]/\k=d) (λZ y=>?_) ?_
 ·exact Ac (Ak (j:=2) rfl)<|Ac (Ak (v:=Fa r)<|by rw[M_,hi];rfl)<|y _ _ ⟨rfl,rfl⟩
 rintro h _ ⟨rfl,rfl⟩;refine A0 (λh d=>h=[oG<|Kz g,oF i,some<|Qe r,oG<|.tuple<|(g.rs.take i).map Fa]/\k=d) (λZ y=>?_) ?_
 ·refine Ac (Ak (j:=2) rfl)<|y _ _ ⟨?_,rfl⟩;rw[Jc];rfl
 rintro h _ ⟨rfl,rfl⟩;have I:G2 g.H g.le.length (g.rs.take i) r=false->∀a b,EX C [("word",a),("at",b)] k:=λe=>q2 λz=>by have:=z.1;rw[e]at this;cases this
 refine A0 (λh d=>h=[oG<|Kz g,oF i,some<|Qe r,oG<|.tuple<|(g.rs.take i).map Fa]/\k=d/\parts g.pl.length g.le.length r=true/\r∉g.rs.take i) (λZ y=>?_) ?_
 ·refine⟨g,r,rfl,T,br (λm=>L3 rfl<|Ac rfl ⟨rfl,k,Sub.refl,I ?_ _ _⟩) λm=>?_⟩
  ·rw[bZ]at m;unfold G2;rw[B_,m];rfl
  rw[iJ]at m;refine Ac rfl ⟨FB r,Z7 _,?_⟩;rw[Z8];refine dif (λq=>Ac rfl ⟨rfl,k,Sub.refl,I ?_ _ _⟩) λq=>y _ _ ⟨rfl,rfl,m,q⟩;unfold G2;rw[aP q];simp
 rintro h _ ⟨rfl,rfl,u,U⟩;have hp:thr r.p g.pl.length=true:=by unfold parts at u;rw[Z_,Z_]at u;exact u.1.1
 obtain⟨ml,ic⟩:=aC hp;have B:G2 g.H g.le.length (g.rs.take i) r=!(decide (g.H.getD r.p.toNat 0=1)&&decide (1<D4 (g.rs.take i) r)):=by unfold G2;rw[B_,u,aL U];simp
 have ai:(g.rs.take i).length<=20:=by rw[aU];omega
 refine A0 (λh d=>h=[oG<|Kz g,oF i,some<|Qe r,oG<|.tuple<|(g.rs.take i).map Fa]/\Sub k d/\¬(Ih r=true/\B4 (g.rs.take i)=3)) (λZ y=>?_) ?_
 ·refine⟨r,rfl,br (λm=>?_) λm=>Kd rfl<|y _ _ ⟨rfl,Sub.refl,λz=>by rw[m]at z;cases z.1⟩⟩;refine Ac Ii λpc t=>?_;refine cmapf (g.rs.take i) Qe Ih Qe (λh=>∃o,h=[o]) ⟨none,rfl⟩ Ab (seven<|by omega) (λ_=>Ii) ?_ ?_
  ·rintro j v Y O W W2 hj ⟨o,rfl⟩ h1 h2;exact⟨v,rfl,br (λc=>h1 c _ ⟨_,rfl⟩) λc=>h2 c _ ⟨_,rfl⟩⟩
  ·refine Ac Ab<|ieq (λq=>Ac rfl ⟨rfl,k,(Sub.refl.new t).new t,q2 (λz=>z.2 ⟨m,?_⟩) _ _⟩) λq=>y _ _ ⟨rfl,(Sub.refl.new t).new t,λz=>q ?_⟩
   ·rw[B_]at q;unfold B4;omega
   ·have:=z.2;unfold B4 at this;rw[B_];omega
 rintro h μ1 ⟨rfl,G,L⟩;have yi:(g.pl.map N3)[r.p.toNat]?=some (N3<|g.pl[r.p.toNat]'(by omega)):=by rw[M_,K_<|by omega];rfl
 have M:g.H.getD r.p.toNat 0=(g.pl[r.p.toNat]'(by omega)).2:=by rw[cD,M_,K_<|by omega];rfl
 generalize g.pl[r.p.toNat]'(by omega)=pp at yi M;have j8:atI (g.pl.map N3) r.p=some (N3 pp):=by have:=Ak yi;rw[kG ml]at this;exact this
 refine Ac (Ak (j:=0) rfl)<|Ac (Ak (j:=0) rfl)<|Ac j8<|Ac (Ak (j:=1) rfl)<|ieq (λm=>?_) λm=>Kd rfl ⟨k,G,q1 ⟨?_,L⟩⟩
 ·refine Ac Ii λpc t=>?_;refine cmapf (g.rs.take i) Qe (HQ r) Qe (λh=>∃o,h=[o,some<|Qe r]) ⟨none,rfl⟩ Ab (seven<|by omega) (λ_=>Ii) ?_ ?_
  ·rintro j v Y O W W2 hj ⟨o,rfl⟩ h1 h2;have e:PyData.eqv (.tuple [.int v.p,.int v.x]) (.tuple [.int r.p,.int r.x])=HQ r v:=by
    show(decide (v.p=r.p)&&(decide (v.x=r.x)&&true))=_;rw[Bool.and_true,<- j_];rfl
   refine⟨Z9 v.p v.x,Z9 r.p r.x,br (λc=>h1 (e.symm.trans c) _ ⟨_,rfl⟩) λc=>h2 (e.symm.trans c) _ ⟨_,rfl⟩⟩
  ·have hsa:=hP.sa r (by rw[M];omega);refine Ac Ab<|ieq (λq=>Ac rfl ⟨rfl,k,(G.new<|G.none t).new<|G.none t,I ?_ _ _⟩) λq=>⟨k,(G.new<|G.none t).new<|G.none t,q1 ⟨?_,L⟩⟩
   all_goals rw[B_]at q
   ·rw[B,aP<|show g.H.getD r.p.toNat 0=1 by rw[M];omega,aP<|show 1<D4 (g.rs.take i) r by unfold D4;omega];rfl
   ·rw[B,aL<|show ¬ 1<D4 (g.rs.take i) r by unfold D4 at hsa ⊢;omega];simp
 ·rw[B,aL<|show ¬g.H.getD r.p.toNat 0=1 by rw[M];omega];rfl
abbrev nLk:oA Str:=["game","places","letters","number"]
def FE:FnScope nLk oQ (Ad MH):=Bm<|by decide +kernel
def HR:(["name","hand"]:oA Str).Nodup:=by decide +kernel
def AB{g:Gz}{i:Nat}{r:Rz}(hi:g.rs[i]?=some r)(h:¬good g i r):fits g=false:=by rw[jD];intro c;obtain⟨h1,h2,d⟩:=Dt.mp c;refine h ⟨h2 i r hi,λ⟨a,b⟩=>?_⟩;have:=Pp (B:=g.rs)<|i+1;rw[K0 hi,Jk,a,b]at this;simp at this;omega
def Prl.zero{g:Gz}:Prl g 0:=⟨by simp[B4],λv _=>by simp[D4]⟩
def Prl.step{g:Gz}{i:Nat}{r:Rz}(h:Prl g i)(hi:g.rs[i]?=some r)(a:good g i r):Prl g (i+1):=by
 refine⟨?_,λv hv=>?_⟩
 ·rw[K0 hi,Jk];have:=h.pu;cases c:Ih r with
  |true=>have:B4 (g.rs.take i)≠3:=λz=>a.2 ⟨c,z⟩;simp;omega
  |false=>simp;omega
 ·rw[K0 hi,Vr];have:=h.sa v hv;cases c:HQ v r with
  |true=>rw[FD c];have e:=aC c;have h1:=a.1;unfold G2 at h1;rw[Z_,e.1,aP hv,Bool.true_and,bZ]at h1;have:=eI h1.2;simp;omega
  |false=>simp;omega
def VZ(C:lM):Hw:=λd c R e=>∃(g:Gz),d=[.D<|Kz g]/\GzOk g/\(fits g=true->R (.D<|.bool true) c)/\(fits g=false->∀a b,e C [("word",a),("at",b)] c)
def WA{n:Nat}{C:lM}(F:Fun K "look" "look" MH f fd) (M:Dg P w K mg base (n+1) "look_size" qE VM) (O:Dg P w K mg base (n+1) "look_unlike" qN VP) (Y:Dg P w K mg base (n+1) "look_rule" qO<|VX C) (L:mg "len" = none) (ah:mg "range" = none) {t1 t2 t3:Tok} (U:mg "MOST_PLACES" = some (.int 3 t1)) (mML:mg "MOST_LETTERS" = some (.int 3 t2)) (X:mg "MOST_RULES" = some (.int 8 t3)) (bj:XCal P w K mg base n "NoGame" C qA) :
  FnOk P w K mg base (My P w) (n+1+1) f fd oQ (Le K 1<|VZ C):=by
 refine F.vokX FE λap A V s H E EX u t=>⟨_,(Af (Ee (i:=1) (N':=["name","hand"]) (mp:=[none,none]) rfl FE.nd rfl rfl (Bc<|Az Be (vv 0) Ah) (λ_ _ _ _=>(Ds (n:=2) rfl<|Ay (Aj (i:=0) HR rfl oI oJ)<|Ay (Aj (i:=1) HR rfl oI oJ) B8)) (λ_ _ _ _=>Bl) (λ_ _ _ _=>(vv 0))<|Aw (N:=nLk) (pn:=(Ad MH).names)<|by decide +kernel)<|Af (Aq (i:=2) FE.nd rfl oI<|Az Be (vv 0) Ah)<|Af (Bu<|C8 M u t rfl<|Aa Bt<|Aa (Av B1 rfl L aG<|Aa (vv 1) Ae)<|Aa (Fg rfl U (v:=.int 3) ⟨_,rfl⟩ λ_=>Ce) Ae)<|Af (Bu<|C8 M u t rfl<|Aa Bt<|Aa (Av B1 rfl L aG<|Aa (vv 2) Ae)<|Aa (Fg rfl mML (v:=.int 3) ⟨_,rfl⟩ λ_=>Ce) Ae)<|Af (Bu<|C8 O u t rfl<|Aa (vv 1) Ae)<|Af (Bu<|C8 O u t rfl<|Aa (vv 2) Ae)<|Af (Cc PassesOwn.leaving rfl (Cz rfl ah<|Aa (Av B1 rfl L aG<|Aa (Az Be (vv 0) Ah) Ae) Ae) (Aj (i:=3) FE.nd rfl oI)<|Ai<|Bu<|C8 Y u t rfl<|Aa (vv 0)<|Aa (vv 3) Ae)<|Af (Cl (Bd Q2 (Av B1 rfl L aG<|Aa (Az Be (vv 0) Ah) Ae) (Fg rfl X (v:=.int 8) ⟨_,rfl⟩ λ_=>Ce)<|nomark _) (Ai<|E6 bj u rfl t rfl<|Aa Bt<|Aa (Av B1 rfl L aG<|Aa (Az Be (vv 0) Ah) Ae) Ae) Bi)<|Ai<|A6 E3),?_⟩
 rintro xs Q R _ ⟨g,rfl,hG,q1,q2⟩;have ml:=hG.p0;have ic:=hG.p1;have fh:=hG.l0;have fo:=hG.l1;have hrn:=hG.rn;have G:∀a b ν,Sub Q ν->fits g=false->SS EX C [("word",a),("at",b)] ν:=λa b ν S e=>⟨Q,S,q2 e a b⟩;refine A0 (λk d=>∃m,k=[oG<|Kz g,oE m,none,none]/\Sub Q d/\d m=oH ((g.pl.map (·.1)).map C1)) (λZ J=>?_) ?_;refine Ac (Ak (j:=0) rfl) (Ac (x:=g.pl.map λp=>.D<|N3 p) (by show some ((g.pl.map N3).map AV.D)=_;rw[aB];rfl) λpc aq=>?_);refine cmap g.pl _ (λp=>C1 p.1) (λk=>∃o1 o2,k=[o1,o2]) ⟨none,none,rfl⟩ Ab (seven<|by omega) (λ_=>by show some ((g.pl.map N3).map AV.D)=_;rw[aB];rfl) ?_ ?_;rintro i p τ' acc W hi ⟨o1,o2,rfl⟩ hW;exact⟨rfl,hW _ ⟨_,_,rfl⟩⟩;refine J _ _ ⟨pc,rfl,(Sub.refl.new aq).new aq,?_⟩;rw[Ab,aB];rfl;rintro k q ⟨m,rfl,S1,e1⟩;refine A0 (λk d=>k=[oG<|Kz g,oE m,oG<|.tuple<|g.le.map PyData.str,none]/\q=d) (λZ J=>Ac (Ak (j:=1) rfl)<|J _ _ ⟨rfl,rfl⟩) ?_;rintro k _ ⟨rfl,rfl⟩;refine Ca (Ac e1 ⟨"places",g.pl.length,3,by rw[B_,B_],by omega,by omega,?_⟩);refine Ca ⟨"letters",g.le.length,3,by rw[B_],by omega,by omega,?_⟩;refine Ca ⟨_,g.pl.map (·.1),rfl,.inr ⟨m,rfl,e1⟩,hG.pn,by rw[B_];omega,?_⟩;refine Ca ⟨_,g.le,rfl,.inl rfl,hG.ln,by omega,?_⟩;have ai:(Eg 0 ((g.rs.map Fa).length:Int).toNat).length=g.rs.length:=by rw[Bs,B_];omega
 refine A0 (λk d=>∃o,k=[oG<|Kz g,oE m,oG<|.tuple<|g.le.map PyData.str,o]/\q=d/\NI g.H g.le.length g.rs/\B4 g.rs<=3) (λZ J=>?_) ?_;refine Ac (Ak (j:=2) rfl) ⟨by rw[B_];omega,by rw[B_];omega,?_⟩;refine C5 (λi k d=>∃o,k=[oG<|Kz g,oE m,oG<|.tuple<|g.le.map PyData.str,o]/\q=d/\Prl g i/\∀j r,j<i->g.rs[j]?=some r->G2 g.H g.le.length (g.rs.take j) r=true) ⟨none,rfl,rfl,Prl.zero,λj _ hj=>absurd hj<|by omega⟩ (λ_ _ _ _=>trivial) ?_ ?_;rintro i y k _ W hy ⟨o,rfl,rfl,B,l⟩ hW;have hi:i<g.rs.length:=by rw[<- ai];exact(D_.mp hy).1
 have ey:=Ga _ _ _ hy;subst ey;have I:=K_ hi;generalize g.rs[i]=r at I;refine⟨g,i,r,by rw[lH],hG,I,B,λT=>hW _ _ ⟨_,rfl,rfl,B.step I T,λj v hj hv=>?_⟩,λT a b=>G _ _ _ S1<|AB I T⟩;rcases(show j<i\/j=i by omega) with h|rfl;exact l j v h hv;rw[I]at hv;cases hv;exact T.1;rintro k _ ⟨o,rfl,rfl,B,l⟩;rw[ai]at B l;refine J _ _ ⟨_,rfl,rfl,λi r h=>l i r (D_.mp h).1 h,?_⟩;have:=B.pu;rw[aN]at this;exact this;rintro k _ ⟨o,rfl,rfl,l,hpu⟩;refine Ac (Ak (j:=2) rfl) (dif (λc=>?_) λc=>⟨Q,S1,q1<|Dt.mpr ⟨?_,l,by omega⟩⟩);refine Ac (Ak (j:=2) rfl)<|Ac rfl ⟨rfl,G _ _ _ S1 ?_⟩;rw[jD];intro z;have:=(Dt.mp z).1;rw[B_]at c;omega;rw[B_]at c;omega
def NL{g:Type}{d l:oA g}(h:d.Sublist l):∀{i:Nat} {r:g},d[i]?=some r->∃b,l[b]?=some r/\(d.take i).Sublist (l.take b):=by
 induction h with
 |slnil=>intro i r e;simp at e
 |cons a _ c=>intro i r e;obtain⟨b,h1,h2⟩:=c e;exact⟨b+1,by simpa using h1,by rw[kH];exact h2.cons _⟩
 |cons_cons a _ c=>
  intro i r e;cases i with
  |zero=>exact⟨0,by simpa using e,by simp⟩
  |succ i=>obtain⟨b,h1,h2⟩:=c (by simpa using e);exact⟨b+1,by simpa using h1,by rw[kH,kH];exact h2.cons_cons _⟩
def AD{H:oA Nat}{a:Nat}{E' E:oA Rz}{r:Rz}(h:E'.Sublist E)(k:G2 H a E r=true):G2 H a E' r=true:=by unfold G2 at k ⊢;rw[Z_,Z_,bZ,bZ]at k ⊢;obtain⟨⟨b,c⟩,k3⟩:=k;refine⟨⟨b,aL λz=>eI c<|h.subset z⟩,?_⟩;rw[Bool.and_eq_false_iff]at k3 ⊢;rcases k3 with k3|k3;exact .inl k3;refine .inr<|aL λz=>eI k3<|S_ z ?_;exact(h.filter _).length_le
def AF{H:oA Nat}{c:Nat}{a b:oA Rz}(h:a.Sublist b)(k:Po H c b=true):Po H c a=true:=by obtain⟨d,g,k3⟩:=Dt.mp k;refine Dt.mpr ⟨I_ h.length_le d,λi r e=>?_,fJ (h.filter _).length_le k3⟩;obtain⟨j,h1,h2⟩:=NL h e;exact AD h2<|g j r h1
def Gz.add(g:Gz)(r:Rz):Gz:=⟨g.pl,g.le,g.rs++[r]⟩
def Gz.del(g:Gz)(j:Nat):Gz:=⟨g.pl,g.le,g.rs.take j++g.rs.drop (j+1)⟩
def Np(a:oA Rz)(j:Nat):(a.take j++a.drop (j+1)).Sublist a:=by rw[<- jF];exact List.eraseIdx_sublist ..
def AH{g:Gz}(h:fits g=true)(j:Nat):fits (g.del j)=true:=AF (Np g.rs j) h
def GzOk.add{g:Gz}(h:GzOk g){r:Rz}(hn:g.rs.length<20)(a:r.w.length<=20):GzOk (g.add r):=⟨h.p0,h.p1,h.l0,h.l1,h.pn,h.ln,by show(g.rs++[r]).length<=20;simp;omega,λv hv=>by
 rcases R_.mp (show v∈g.rs++[r] from hv) with z|z;exact h.rw v z;rw[G_.mp z];exact a,h.hd⟩
def GzOk.del{g:Gz}(h:GzOk g)(j:Nat):GzOk (g.del j):=⟨h.p0,h.p1,h.l0,h.l1,h.pn,h.ln,I_ (Np g.rs j).length_le h.rn,λv hv=>h.rw v<|(Np g.rs j).subset hv,h.hd⟩
abbrev nFt:oA Str:=["places","letters","rules","game"]
def WB:FnScope nFt qF (Ad PY):=Bm<|by decide +kernel
def NM(C:lM):Hw:=λb a R c=>∃(g:Gz),b=[.D<|.tuple<|g.pl.map N3,.D<|.tuple<|g.le.map .str,.D<|.tuple<|g.rs.map Fa]/\GzOk g/\(fits g=true->R (.D<|Kz g) a)/\(fits g=false->c C [] a)
def WC{n:Nat}{k o D:lM}{B:oA lM}(F:Fun K "fitting" "fitting" PY f fd) (m:Dg P w K mg base (n+1) "look" oQ<|VZ k) (u:mg "NoGame" = some (.ref k)) (l:Err K k D B) (t:XNo K mg "NoFit" o):FnOk P w K mg base (My P w) (n+1+1) f fd qF (Le K 3<|NM o):=by
 refine F.vokX0 WB λL A e s H E v C h=>⟨_,(D8 (VS.z<|Aq (i:=3) WB.nd rfl oI<|Br<|Aa (vv 0)<|Aa (vv 1)<|Aa (vv 2) Ae)<|D8 (Yy (λG J v y=>(Ai<|Bu<|C8 m C y rfl<|Aa (vv 3) Ae)) rfl u l.xc l.xi.toXCls.mb t rfl h rfl rfl)<|Ki<|VS.z<|A6<|vv 3),?_⟩
 rintro I c R _ ⟨g,rfl,hG,r,q⟩;refine A0 (λp d=>p=[oG<|.tuple<|g.pl.map N3,oG<|.tuple<|g.le.map .str,oG<|.tuple<|g.rs.map Fa,oG<|Kz g]/\c=d) (λZ x=>x _ _ ⟨rfl,rfl⟩) ?_;rintro p _ ⟨rfl,rfl⟩;refine Ca ?_;exact⟨g,rfl,hG,λj=>⟨c,Sub.refl,r j⟩,λj a b=>⟨l.me,c,Sub.refl,q j⟩⟩
abbrev nWr:oA Str:=oM
def Qbs:FnScope nWr oM (Ad PV):=Bm<|by decide +kernel
def WD(C:lM):Hw:=λb a R c=>∃(g:Gz) (r:Rz),b=[.D<|Kz g,Qe r]/\GzOk (g.add r)/\(fits (g.add r)=true->R (.D<|Kz<|g.add r) a)/\(fits (g.add r)=false->c C [] a)
def WE{n:Nat}{e:lM}(F:Fun K "with_rule" "with_rule" PV f fd) (c:Dg P w K mg base (n+1) "fitting" qF<|NM e):FnOk P w K mg base (My P w) (n+1+1) f fd oM (Le K 2<|WD e):=by
 refine F.vokX Qbs λq A a s H E o m l=>⟨_,(Ai<|A6<|C8 c m l rfl<|Aa (Az Be (vv 0) Ah)<|Aa (Az Be (vv 0) Ah)<|Aa (Ba Cj (Az Be (vv 0) Ah)<|Br<|Aa (vv 1) Ae) Ae),?_⟩;rintro p d R _ ⟨g,r,rfl,hG,i,h⟩;have k:g.rs.length+1<=20:=by have:=hG.rn;simpa [Gz.add] using this
 refine Ac (Ak (j:=0) rfl)<|Ac (Ak (j:=1) rfl)<|Ac (Ak (j:=2) rfl) ⟨?_,g.add r,?_,hG,λb=>⟨d,Sub.refl,i b⟩,λb=>⟨d,Sub.refl,h b⟩⟩;rw[B_];exact I_ (show _<=20 from k) (by decide);show [_,_,AV.D<|.tuple<|g.rs.map Fa++[Fa r]]=[_,_,AV.D<|.tuple<|(g.rs++[r]).map Fa];rw[L_];rfl
abbrev nWo:oA Str:=oW
def Qbt:FnScope nWo oW (Ad PX):=Bm<|by decide +kernel
def NN(C:lM):Hw:=λb a R c=>∃(g:Gz) (k:Int),b=[.D<|Kz g,.D<|.int k]/\GzOk g/\(thr k g.rs.length=false->c C [] a)/\(∀j:Nat,k=j->j<g.rs.length->fits (g.del j)=true/\R (.D<|Kz<|g.del j) a)
def WF{n:Nat}{i:lM}(F:Fun K "without_rule" "without_rule" PX f fd) (h:Dg P w K mg base (n+1) "fitting" qF<|NM i) (v:VCal P w K mg base (n+1) "is_there" oV NE) (y:mg "len" = none) (z:XNo K mg "NoFit" i):FnOk P w K mg base (My P w) (n+1+1) f fd oW (Le K 2<|NN i):=by
 refine F.vokX Qbt λJ A e s H E G t p=>⟨_,(Af (Cl (Fz<|D3<|Al v t rfl<|Aa (vv 1)<|Aa (Av B1 rfl y aG<|Aa (Az Be (vv 0) Ah) Ae) Ae) (Ai<|U7 z rfl p rfl) Bi)<|Ai<|A6<|C8 h t p rfl<|Aa (Az Be (vv 0) Ah)<|Aa (Az Be (vv 0) Ah)<|Aa (Ba Cj (Bv (Az Be (vv 0) Ah) Cd<|B3<|vv 1)<|Bv (Az Be (vv 0) Ah) (B3<|Ba Cj (vv 1) Ah) Cd) Ae),?_⟩
 rintro I b R _ ⟨g,k,rfl,hG,x,u⟩;refine A0 (λr d=>r=[oG<|Kz g,oF k]/\b=d/\thr k g.rs.length=true) (λZ B=>?_) ?_;refine Ac (Ak (j:=2) rfl) ⟨k,g.rs.length,by rw[B_],br (λa=>?_) λa=>?_⟩;rw[bZ]at a;exact⟨b,Sub.refl,x a⟩;rw[iJ]at a;exact B _ _ ⟨rfl,rfl,a⟩;rintro r _ ⟨rfl,rfl,a⟩;obtain⟨h0,h1⟩:=aC a;obtain⟨j,rfl⟩:=Int.eq_ofNat_of_zero_le h0;obtain⟨m,q⟩:=u j rfl (by omega);have C:=hG.rn;have l:=Jc Fa g.rs j;have o:Jn (g.rs.map Fa) (some<|(j:Int)+1) none=(g.rs.drop<|j+1).map Fa:=Vo Fa g.rs<|j+1;refine Ac (Ak (j:=0) rfl) (Ac (Ak (j:=1) rfl)<|Ac (Ak (j:=2) rfl)<|Ac (Ak (j:=2) rfl) ⟨?_,g.del j,?_,hG.del j,λm=>⟨b,Sub.refl,q⟩,λc=>absurd m<|by rw[c];decide⟩);rw[l,o];simp only[List.length_map,List.length_take,List.length_drop];exact I_ (show _<=40 by omega) (by decide);show [_,_,AV.D<|.tuple<|Jn (g.rs.map Fa) none (some (j:Int))++Jn (g.rs.map Fa) (some<|(j:Int)+1) none]=[_,_,AV.D<|.tuple<|(g.rs.take j++g.rs.drop (j+1)).map Fa];rw[l,o,L_];rfl
structure Arw where
 p:Nat
 x:Nat
 ts:oA Nat
 c:oB Nat
def AJ(a:Arw):oA lL:=.int a.p::.int a.x::Bq a.ts::(match a.c with|none=>[]|some c=>[.int c])
def Bo(a:Arw):lL:=.tuple<|AJ a
def Gu{b:M}(A:oA Arw):items b (.D<|.tuple<|A.map Bo)=some (A.map λa=>.D<|Bo a):=by show some ((A.map Bo).map AV.D)=_;rw[aB];rfl
def NO{a:Arw}:atI (AJ a) 2=some (Bq a.ts):=Ak (j:=2) rfl
def Nq(a:Arw):(Bo a).canLay0=true/\(Bo a).depth<=3/\Cano (Bo a)=true:=by
 obtain⟨p,x,ts,c⟩:=a;have h1:=Jv (ns:=ts);have h2:=Iz ts;cases c with
 |none=>simp only[Bo,AJ,Bq,PyData.canLay0,PyData.canLayAll0,PyData.depth,PyData.depthAll,Cano,Bz,h1.1,h2,Bool.and_true,Bool.true_and,true_and,and_true];have:=h1.2;omega
 |some c=>simp only[Bo,AJ,Bq,PyData.canLay0,PyData.canLayAll0,PyData.depth,PyData.depthAll,Cano,Bz,h1.1,h2,Bool.and_true,Bool.true_and,true_and,and_true];have:=h1.2;omega
def FF{a b:Arw}(h:a.c.isSome=b.c.isSome):cmpb (Bo a) (Bo b)=true:=by obtain⟨p,x,ts,c⟩:=a;obtain⟨i,g,d,e⟩:=b;cases c<;>cases e<;>simp at h<;>simp only[Bo,AJ,Bq,cmpb,cmpbs,Pi,ite_self]
theorem Jw:∀(B:oA Arw),PyData.canLayAll0 (B.map Bo)=true/\PyData.depthAll (B.map Bo)<=3/\Bz (B.map Bo)=true
 |[]=>⟨rfl,by simp[PyData.depthAll],rfl⟩
 |a::B=>by obtain⟨h1,h2,b⟩:=Nq a;obtain⟨c,d,k3⟩:=Jw B;simp only[List.map_cons,PyData.canLayAll0,PyData.depthAll,Bz,h1,b,c,k3,Bool.and_self,true_and,and_true];omega
def FG{B:oA Arw}{a:Arw}(h:((B.map Bo).any λe=>PyData.eqv e<|Bo a)=false):Bo a∉B.map Bo:=λhm=>by have:((B.map Bo).any λe=>PyData.eqv e<|Bo a)=true:=bP.mpr ⟨_,hm,Hy (Bo a) (Nq a).2.2⟩;rw[this]at h;cases h
def Pq(B:oA Arw):dats (B.map λa=>.D<|Bo a)=some (B.map Bo):=by rw[show(B.map λa=>AV.D<|Bo a)=(B.map Bo).map .D by rw[aB];rfl];exact Cu _
def AK(a:Arw):Cb (Bo a):=⟨(Nq a).1,I_ (Nq a).2.1 (by decide)⟩
def Vs(B:oA Arw):Cb (.tuple<|B.map Bo):=⟨by simp only[PyData.canLay0];exact(Jw B).1,by have:=(Jw B).2.1;simp only[PyData.depth];omega⟩
abbrev nSo:oA Str:=["_law_deal_here","_law_stands_here","_law_most","_law_found"]
def WG:FnScope nSo qP (Ad MU):=Bm<|by decide +kernel
def WH:(yG:oA Str).Nodup:=by decide +kernel
def WI:ASp:=λe b R=>∃(a l ps:lM) (c:oA Nat) (d:Nat),e=[.R a,.R ps,.D<|.int d]/\c.length<=20/\ps≠a/\ps≠l/\b ps=oH (c.map Bn)/\Pot b a l/\∀(ns:oA Nat) μ',ns.Sublist c->ns.length<=d->Pot μ' a l->Bp a l b μ'->R (.D<|Bq ns) μ'
def WJ{n:Nat}(F:Fun K "_law_some" "_law_some" MU f fd) (fc:VCal P w K mg base n "_law_draw" oK Vj) (al:mg "tuple" = none):FnOk P w K mg base Dz (n+1) f fd qP (Fb K 3 WI):=by
 refine F.vok WG λap A G s H E Y=>⟨_,(Af (Ee (i:=3) (N':=yG) (mp:=[none,some 0]) rfl WG.nd rfl rfl (Bc<|vv 1) (λ_ _ _ _=>(Aj (i:=0) WH rfl oI oJ)) (λ_ _ _ _=>(Cy<|Bd (Eo Y) (Al fc Y rfl<|Aa (vv 1)<|Aa Ah Ae) Ah<|nomark _)) (λ_ _ _ _=>(vv 0))<|Aw (N:=nSo) (pn:=(Ad MU).names)<|by decide +kernel)<|Ai<|A6<|Cp Fi rfl al dI<|Aa (Bv (vv 3) Cd<|B3<|vv 2) Ae),?_⟩
 rintro xs M R _ ⟨a,l,z,h,mo,rfl,hs,na,nl,B,O,q⟩;refine A0 (λm b=>∃(ns:oA Nat) (C:lM),m=[oE a,oE z,oF mo,oE C]/\ns.Sublist h/\b C=oH (ns.map Bn)/\Pot b a l/\Bp a l M b) (λZ hZ=>?_) ?_;refine Ac (Am B) λr k=>?_;have p:=O.ne k;have X:z≠r:=by rintro rfl;rw[B]at k;cases k
 refine Ep (λj d m b=>∃(o:oB AV) (ns:oA Nat),m=[o,oE a]/\d=ns.map Bn/\ns.Sublist (h.take j)/\b r=oH d/\b z=oH (h.map Bn)/\Pot b a l/\Bp a l M b) ⟨none,[],rfl,rfl,by simp,Ab,by rw[Ag X];exact B,O.new k,Bp.refl.new k⟩ (by rintro _ _ _ _ ⟨_,_,_,_,_,_,e,_⟩;exact Am e) ?_ ?_;rintro j y d m L Z2 hy ⟨o,ns,rfl,rfl,g,J,V,I,u⟩ hZ2;rw[M_]at hy;obtain⟨x,hx,rfl⟩:=J_.mp hy;have hj:j<h.length:=(D_.mp hx).1;have T:h.take (j+1)=h.take j++[x]:=by rw[aS,hx];rfl
 refine⟨a,l,2,rfl,I,by decide,by decide,λv μ3 hv W t=>?_⟩;have S:=t r _ p.1.symm p.2.symm J;have U:=t z _ na nl V;have hl:=g.length_le;rw[aU]at hl;refine ieq (λc=>⟨S,A8<|by rw[B_];omega,hZ2 _ _ _ ⟨_,ns++[x],rfl,by rw[L_];rfl,by rw[T];exact g.append<|List.Sublist.refl _,Ab,by rw[Ag X];exact U,W.other p.1 p.2,(u.trans t).put k⟩⟩) (λc=>hZ2 _ _ _ ⟨_,ns,rfl,rfl,by rw[T];exact g.trans<|List.sublist_append_left _ _,S,U,W,u.trans t⟩);rintro d m L ⟨o,ns,rfl,rfl,g,J,V,I,u⟩;rw[B_,aN]at g;exact hZ _ _ ⟨ns,r,rfl,g,J,I,u⟩;rintro m μ1 ⟨ns,C,rfl,g,e1,P1,S1⟩;refine Ac (Am e1) λp2 Q=>?_;rw[Gr];exact Ac (Am Ab)<|Ac (Gi _) ⟨_,Sub.refl,q _ _ ((eX _ _).trans g) (List.length_take_le _ _) (P1.new Q)<|S1.new Q⟩
abbrev nSa:oA Str:=["_law_deal_here","_law_game_here","_law_own","_law_many","_law_most","_law_places","_law_stands_here","_law_arrows","_law_k","_law_arrow"]
def Vt:FnScope nSa qG (Ad QB):=Bm<|by decide +kernel
structure Say where
 own:Nat
 as:oA Arw
 es:oA Nat
def Ef(s:Say):lL:=.tuple [.int s.own,.tuple<|s.as.map Bo,Bq s.es]
structure SayOk(g:Gam)(s:Say)(own many:Nat):Prop where
 o:s.own<=own
 n:s.as.length<=many
 c:∀a∈s.as,a.c=none
 p:∀a∈s.as,a.p<g.pl.length+s.own
 x:∀a∈s.as,a.x<g.le.length
 t:∀a∈s.as,∀t∈a.ts,g.pl.length<=t/\t<g.pl.length+s.own
 tn:∀a∈s.as,a.ts.length<=own
 e:∀t∈s.es,t<g.pl.length+s.own
 en:s.es.length<=g.pl.length+s.own
def NP:ASp:=λc b R=>∃(a l:lM) (g:Gam) (own many d:Nat),c=[.R a,.D<|B6 g,.D<|.int own,.D<|.int many,.D<|.int d]/\0<g.pl.length/\g.pl.length<=5/\0<g.le.length/\g.le.length<=5/\own<=5/\many<=20/\Pot b a l/\∀(s:Say) μ',SayOk g s own many->Pot μ' a l->Bp a l b μ'->R (.D<|Ef s) μ'
structure AwOk(g:Gam)(ow own:Nat)(a:Arw):Prop where
 c:a.c=none
 p:a.p<g.pl.length+ow
 x:a.x<g.le.length
 t:∀t∈a.ts,g.pl.length<=t/\t<g.pl.length+ow
 tn:a.ts.length<=own
def Mf{B:oA Arw}{k:Bool}(i:B.length<=400)(hc:∀a∈B,a.c.isSome=k):SortOkP (B.map Bo):=by obtain⟨h,j,_⟩:=Jw B;refine⟨by rw[B_];omega,h,by omega,λd g=>?_,λd g e he=>?_⟩;obtain⟨a,ha,rfl⟩:=E_.mp g;exact⟨a.p,_,rfl⟩;obtain⟨a,ha,rfl⟩:=E_.mp g;obtain⟨b,hb,rfl⟩:=E_.mp he;exact FF<|(hc a ha).trans (hc b hb).symm
theorem Td:∀(n k:Nat),Eg (k:Int) n=(List.range' k n).map Bn
 | 0,k=>rfl
 |n+1,k=>by
  rw[List.range'_succ,a_,<- Td n (k+1)]
  rfl
def K3(n:Nat):Eg 0 n=(List.range n).map Bn:=by rw[List.range_eq_range'];exact Td n 0
def WK{n:Nat}(F:Fun K "_law_saying" "_law_saying" QB f fd) (fc:VCal P w K mg base n "_law_draw" oK Vj) (cSo:VCal P w K mg base n "_law_some" qP WI) (ag:mg "len" = none) (bi:mg "list" = none) (ah:mg "range" = none) (al:mg "tuple" = none) (ay:mg "sorted" = none):FnOk P w K mg base Dz (n+1) f fd qG (Fb K 5 NP):=by
 refine F.vok Vt λap A outer s H E J=>⟨_,(Af (Aq (i:=5) Vt.nd rfl oI<|Av B1 rfl ag aG<|Aa (Az Be (vv 1) Ah) Ae)<|Af (Aq (i:=6) Vt.nd rfl oI<|O9 rfl rfl bi rfl ah<|Ba Cj (vv 5)<|Al fc J rfl<|Aa (vv 0)<|Aa (Ba Cj (vv 2) Ah) Ae)<|Af (Aq (i:=7) Vt.nd rfl oI<|Cf Ae)<|Af (Cc aO rfl (Cz rfl ah<|Aa (Al fc J rfl<|Aa (vv 0)<|Aa (Ba Cj (vv 3) Ah) Ae) Ae) (Aj (i:=8) Vt.nd rfl oI)<|Af (Aq (i:=9) Vt.nd rfl oI<|Br<|Aa (Al fc J rfl<|Aa (vv 0)<|Aa (Av B1 rfl ag aG<|Aa (vv 6) Ae) Ae)<|Aa (Al fc J rfl<|Aa (vv 0)<|Aa (Av B1 rfl ag aG<|Aa (Az Be (vv 1) Ah) Ae) Ae)<|Aa (Al cSo J rfl<|Aa (vv 0)<|Aa (Bv (vv 6) (B3<|vv 5) Cd)<|Aa (vv 4) Ae) Ae)<|Ai<|Cl (Bd (Sc J) (vv 9) (vv 7)<|by with_unfolding_all rfl) (Ai<|Bu<|E4 cQ cU Dx (vv 7)<|Aa (vv 9) Ae) Bi)<|Ai<|A6<|Br<|Aa (Ba GR (Av B1 rfl ag aG<|Aa (vv 6) Ae)<|vv 5)<|Aa (Cp Fi rfl al dI<|Aa (Av (Ix J) rfl ay h_<|Aa (vv 7) Ae) Ae)<|Aa (Al cSo J rfl<|Aa (vv 0)<|Aa (vv 6)<|Aa (Av B1 rfl ag aG<|Aa (vv 6) Ae) Ae) Ae),?_⟩
 rintro xs O R _ ⟨a,l,g,own,h,Q,rfl,ml,hp5,fh,ku,ho,hm,hP,q⟩;refine A0 (λr d=>r=[oE a,oG<|B6 g,oF own,oF h,oF Q,oF g.pl.length,none,none,none,none]/\O=d) (λZ T=>Ac (Ak (j:=0) rfl)<|by rw[<- B_ (f:=N3)]at T;exact T _ _ ⟨rfl,rfl⟩) ?_;rintro r _ ⟨rfl,rfl⟩;refine A0 (λr d=>∃(m:Nat) (ps:lM),r=[oE a,oG<|B6 g,oF own,oF h,oF Q,oF g.pl.length,oE ps,none,none,none]/\m<=own/\ps≠a/\ps≠l/\d ps=oH ((List.range<|g.pl.length+m).map Bn)/\Pot d a l/\Bp a l O d) (λZ T=>?_) ?_;refine⟨a,l,own+1,rfl,hP,by omega,by omega,λv μ1 hv P1 S1=>⟨by omega,λps gs=>?_⟩⟩;have o:=P1.ne gs;refine T _ _ ⟨v,ps,rfl,by omega,o.1.symm,o.2.symm,?_,P1.new gs,S1.new gs⟩;rw[Ab,show((g.pl.length:Int)+(v:Int)).toNat=g.pl.length+v by omega,K3];rintro r μ1 ⟨m,ps,rfl,how,sa,sl,s1,P1,S1⟩;intro u U;have o:=P1.ne U;have km:O u=none:=S1.none o.1 o.2 U;have hsf:ps≠u:=by rintro rfl;rw[s1]at U;cases U
 have M:((List.range<|g.pl.length+m).map Bn).length=g.pl.length+m:=by simp
 refine A0 (λr d=>∃V W,∃B:oA Arw,r=[oE a,oG<|B6 g,oF own,oF h,oF Q,oF g.pl.length,oE ps,oE u,V,W]/\d u=oH (B.map λb=>.D<|Bo b)/\d ps=oH ((List.range<|g.pl.length+m).map Bn)/\B.length<=h/\(B.map Bo).Nodup/\(∀b∈B,AwOk g m own b)/\Pot d a l/\Bp a l O d) (λZ T=>?_) ?_;refine⟨a,l,h+1,rfl,P1.new U,by omega,by omega,λc μ2 hc P2 S2=>⟨by omega,by omega,?_⟩⟩;have ai:(Eg 0 (c:Int).toNat).length=c:=by rw[Bs];omega
 have e2:=S2 u _ o.1.symm o.2.symm Ab;have s2:=S2 ps _ sa sl (by rw[Ag hsf];exact s1);refine C5 (λi r d=>∃V W,∃B:oA Arw,r=[oE a,oG<|B6 g,oF own,oF h,oF Q,oF g.pl.length,oE ps,oE u,V,W]/\d u=oH (B.map λb=>.D<|Bo b)/\d ps=oH ((List.range<|g.pl.length+m).map Bn)/\B.length<=i/\(B.map Bo).Nodup/\(∀b∈B,AwOk g m own b)/\Pot d a l/\Bp a l O d) ⟨none,none,[],rfl,e2,s2,F_ _,bO,(λ_ z=>nomatch z),P2,(S1.new U).trans S2⟩ (λ_ _ _ _=>trivial) ?_ ?_;rintro i y r N Z2 hy ⟨V,W,B,rfl,e3,I,hB,nB,C,P3,S3⟩ hZ2;have hi:i<c:=by rw[<- ai];exact(D_.mp hy).1
 refine A0 (λr d=>∃v:Arw,r=[oE a,oG<|B6 g,oF own,oF h,oF Q,oF g.pl.length,oE ps,oE u,some y,oG<|Bo v]/\AwOk g m own v/\d u=oH (B.map λb=>.D<|Bo b)/\d ps=oH ((List.range<|g.pl.length+m).map Bn)/\Pot d a l/\Bp a l O d) (λZ3 cv=>?_) ?_;refine Ac I ⟨a,l,g.pl.length+m,by rw[M],P3,by omega,by omega,λp μ4 hp P4 S=>Ac (Ak (j:=1) rfl) ⟨a,l,g.le.length,by rw[B_],P4,fh,by omega,λx μ5 hx P5 Y=>?_⟩⟩;have s5:=Y ps _ sa sl<|S ps _ sa sl I;have e5:=Y u _ o.1.symm o.2.symm<|S u _ o.1.symm o.2.symm e3;refine Ac (Am s5) λpc L=>?_;have mn:=P5.ne L;have pi:u≠pc:=by rintro rfl;rw[e5]at L;cases L
 have fx:ps≠pc:=by rintro rfl;rw[s5]at L;cases L
 rw[Vp];refine⟨a,l,pc,(List.range<|g.pl.length+m).drop g.pl.length,Q,rfl,by simp;omega,mn.1.symm,mn.2.symm,Ab,P5.new L,λts μ6 cy yp P6 S6=>cv _ _ ⟨⟨p,x,ts,none⟩,rfl,⟨rfl,hp,hx,λt ht=>?_,?_⟩,S6 u _ o.1.symm o.2.symm<|by rw[Ag pi];exact e5,S6 ps _ sa sl<|by rw[Ag fx];exact s5,P6,(((S3.trans S).trans Y).new L).trans S6⟩⟩;have h1:=cy.subset ht;refine⟨?_,dW.mp<|gS h1⟩;obtain⟨i,hi,e⟩:=dU h1;rw[List.getElem_drop,List.getElem_range]at e;omega;have:=cy.length_le;rw[dN,bG]at this;show ts.length<=own;omega;rintro r μ4 ⟨v,rfl,hv,e4,X,P4,S⟩;refine Ac rfl<|Ac (Am e4)<|Ac (Pq B) ⟨AK v,Vs B,br (λc1=>?_) λc1=>?_⟩;have c1':((B.map Bo).any λe=>PyData.eqv e<|Bo v)=false:=by simpa using c1
 refine⟨Ac e4 trivial,Ac e4 ⟨A8<|by rw[B_];omega,hZ2 _ _ ⟨_,_,B++[v],rfl,by rw[Ab,L_];rfl,by rw[Ag hsf];exact X,by rw[N_];show B.length+1<=_;omega,?_,λb hb=>?_,P4.other o.1 o.2,S.put km⟩⟩⟩;rw[L_];refine bB.mpr ⟨nB,cJ.mpr ⟨by simp,bO⟩,λz hz z' jd e=>?_⟩;have e':z'=Bo v:=by simpa using jd
 rw[e,e']at hz;exact FG c1' hz;rcases R_.mp hb with hb|hb;exact C b hb;rw[G_.mp hb];exact hv;exact hZ2 _ _ ⟨_,_,B,rfl,e4,X,by omega,nB,C,P4,S⟩;rintro r N ⟨V,W,B,rfl,e3,I,hB,nB,C,P3,S3⟩;rw[ai]at hB;exact T _ _ ⟨_,_,B,rfl,e3,I,by omega,nB,C,P3,S3⟩;rintro r N ⟨V,W,B,rfl,e3,I,hB,nB,C,P3,S3⟩;refine Ac I (Ac e3<|Ac (Pq B) ⟨Mf (k:=false) (by omega) λb hb=>by rw[(C b hb).c];rfl,λes p mh hp=>?_⟩);obtain⟨A',rfl,hl',G⟩:=unmap (g:=Bo) (B:=B) (es:=es) λe he=>mh.mem_iff.mp he;have dz:=mh.length_eq;rw[B_,B_]at dz;have gs:ps≠p:=by rintro rfl;rw[I]at hp;cases hp
 have X:Ao N p (.lst<|(A'.map Bo).map .D) ps=oH ((List.range<|g.pl.length+m).map Bn):=by rw[Ag gs];exact I
 refine Ac (Am Ab) (Ac (Cu _)<|Ac X ⟨a,l,ps,List.range<|g.pl.length+m,g.pl.length+m,by rw[M],by simp;omega,sa,sl,X,P3.new hp,λns μ5 cy ik P5 Y=>⟨_,Sub.refl,?_⟩⟩);rw[M];dsimp only;rw[show((g.pl.length+m:Nat):Int)-(g.pl.length:Int)=(m:Nat) by omega];refine q ⟨m,A',ns⟩ _ ⟨how,by show A'.length<=_;omega,λb hb=>(C b<|G b hb).c,λb hb=>(C b<|G b hb).p,λb hb=>(C b<|G b hb).x,λb hb=>(C b<|G b hb).t,λb hb=>(C b<|G b hb).tn,λt ht=>dW.mp<|cy.subset ht,?_⟩ P5<|(S3.new hp).trans Y;exact ik
def rd(A:oA Arw)(b:oA Nat):oA Nat->Nat->Bool
 |[],s=>decide (s∈b)
 |x::w,s=>A.any λa=>decide (a.p=s/\a.x=x)&&a.ts.all λt=>rd A b w t
def Fits(b:oA Nat)(x:Nat)(a:Arw)(s:Nat):Prop:=a.p=s/\a.x=x/\∀t∈a.ts,t∈b
def FH{A:oA Arw}{b w g:oA Nat}{x s:Nat}(h:∀t,t∈g↔rd A b w t=true):rd A b (x::w) s=true↔∃a∈A,Fits g x a s:=by rw[rd,bP];constructor;rintro⟨a,ha,e⟩;rw[Z_,bY]at e;have d:=aC e.1;exact⟨a,ha,d.1,d.2,λt c=>(h t).mpr<|e.2 t c⟩;rintro⟨a,ha,h1,h2,i⟩;exact⟨a,ha,by rw[Z_,bY];exact⟨aP ⟨h1,h2⟩,λt c=>(h t).mp<|i t c⟩⟩
def Vu{a:Type} [DecidableEq a](kvs:oA<|a×AV)(k:a)(v:AV):(Er kvs k v).map (·.1)=if k∈kvs.map (·.1) then kvs.map (·.1) else kvs.map (·.1)++[k]:=by
 unfold Er;by_cases h:k∈kvs.map (·.1);obtain⟨z,hz,e⟩:=E_.mp h;rw[P_ h,P_<|bP.mpr ⟨z,hz,aP e⟩,aB];exact fD λz _=>by show(if z.1=k then(z.1,v) else z).1=_;split<;>rfl
 rw[H_ h,H_,L_]
 rfl
 intro q;obtain⟨z,hz,e⟩:=bP.mp q;exact h<|E_.mpr ⟨z,hz,aC e⟩
def Vv{a:Type} [DecidableEq a](kvs:oA<|a×AV)(k:a):(Cs kvs k).isSome=decide (k∈kvs.map (·.1)):=by unfold Cs;rw[iS,iB,List.find?_isSome,aZ,E_];exact⟨by rintro ⟨x,hx,e⟩;exact ⟨x,hx,aC e⟩,by rintro ⟨x,hx,e⟩;exact ⟨x,hx,aP e⟩⟩
def QF(n:Nat):Key:=.inl (n:Int)
def Nr{s:Nat}{ps:oA Nat}:QF s∈ps.map QF↔s∈ps:=by
 constructor;intro h;obtain⟨z,hz,e⟩:=E_.mp h;have:z=s:=by unfold QF at e;have:=iK e;omega
 rw[<- this];exact hz;exact λh=>E_.mpr ⟨s,h,rfl⟩
def Dl(b:M)(c:lM)(ps:oA Nat):Prop:=∃a,b c=some (.dk a)/\a.map (·.1)=ps.map QF/\ps.Nodup
def Dl.has{b:M}{c:lM}{ps:oA Nat}(h:Dl b c ps):∃a,b c=some (.dk a)/\∀t:Nat,∃r,dget (.dk a) (.int (t:Nat))=some r/\r.isSome=decide (t∈ps):=by obtain⟨a,e,k,_⟩:=h;refine⟨a,e,λt=>⟨Cs a<|QF t,rfl,?_⟩⟩;rw[Vv,k];exact fG.mpr Nr
def Dl.put{i:M}{c:lM}{ps:oA Nat}(p:Nat)(h:Dl i c ps):∃a l d,i c=some (.dk a)/\a.length=ps.length/\dput (.dk a) (.int (p:Nat)) (.D<|.bool true)=some l/\(∀ g,Dl (Ao g c l) c d)/\d.length<=ps.length+1/\∀s,s∈d↔s∈ps\/s=p:=by
 obtain⟨a,e,k,nd⟩:=h;have b:=Vu a (QF p)<|.D<|.bool true;rw[k]at b;have j:a.length=ps.length:=by rw[<- B_ (f:=(·.1)) (as:=a),k,B_]
 by_cases hp:p∈ps;rw[P_<|Nr.mpr hp]at b;exact⟨a,_,ps,e,j,rfl,λ_=>⟨_,Ab,b,nd⟩,by omega,λs=>⟨.inl,λh=>h.elim id λz=>by rw[z];exact hp⟩⟩;rw[H_ λz=>hp<|Nr.mp z]at b;refine⟨a,_,ps++[p],e,j,rfl,λ_=>⟨_,Ab,b.trans<|by rw[L_];rfl,bB.mpr ⟨nd,cJ.mpr ⟨by simp,bO⟩,λz hz m o q=>?_⟩⟩,by simp,λs=>by simp⟩;have n:m=p:=by simpa using o
 rw[q,n]at hz;exact hp hz
abbrev nRw:oA Str:=["arrows","reading","letter","above","arrow"]
def NQ:FnScope nRw qQ (Ad MQ):=Bm<|by decide +kernel
def WL:(["target","reading"]:oA Str).Nodup:=by decide +kernel
def WM:ASp:=λi d R=>∃(A:oA Arw) (g:lM) (e:oA Nat) (x:Nat),i=[.D<|.tuple<|A.map Bo,.R g,.D<|.int (x:Nat)]/\A.length<=400/\(∀a∈A,a.ts.length<=400)/\Dl d g e/\∀h c b,Dl b h c->c.length<=400->(∀s,s∈c↔∃a∈A,Fits e x a s)->Sub d b->R (.R h) b
def WN{n:Nat}(F:Fun K "reading_with" "reading_with" MQ f fd) (bn:mg "all" = none):FnOk P w K mg base Dz (n+1) f fd qQ (Fb K 3 WM):=by
 refine F.vok NQ λap A outer s H E hr=>⟨_,(Af (Aq (i:=3) NQ.nd rfl oI Kh)<|Af (Cc aO rfl (Bc<|vv 0) (Aj (i:=4) NQ.nd rfl oI)<|Ai<|Cl (VW.pt<|Fh (Bd (Eo hr) (Az Be (vv 4) Ah) (vv 2)<|nomark _)<|D5<|D3<|Av (Se rfl) rfl bn gO<|Aa (Bg (N':=["target","reading"]) (mp:=[none,some 1]) rfl (Bc<|Az Be (vv 4) Ah) (λ_ _ _ _=>(Aj (i:=0) WL rfl oI oJ)) (λ_ _ _ _=>Bl) (λ_ _ _ _=>(X6 (B9 hr) (vv 0)<|vv 1))<|Aw (N:=nRw) (pn:=(Ad MQ).names)<|by decide +kernel) Ae) (Ai<|Di (B9 hr) (vv 3) (Az Be (vv 4) Ah) E3) Bi)<|Ai<|A6<|vv 3),?_⟩
 rintro xs μ R _ ⟨A,J,l,x,rfl,hA,kA,U,q⟩;obtain⟨rkv,er,yr⟩:=U.has;intro v X;have yx:J≠v:=by rintro rfl;rw[er]at X;cases X
 refine A0 (λz k=>∃I d,z=[oG<|.tuple<|A.map Bo,oE J,oF (x:Nat),oE v,I]/\Dl k v d/\d.length<=400/\(∀s,s∈d↔∃a∈A,Fits l x a s)/\Sub μ k) (λZ hZ=>?_) ?_;refine Ac (Gu A) ?_;refine C5 (λi z k=>∃I d,z=[oG<|.tuple<|A.map Bo,oE J,oF (x:Nat),oE v,I]/\Dl k v d/\d.length<=i/\(∀s,s∈d↔∃a∈A.take i,Fits l x a s)/\Sub μ k) ⟨none,[],rfl,⟨[],Ab,rfl,bO⟩,F_ _,(λs=>by simp),Sub.refl.new X⟩ (λ_ _ _ _=>Gu A) ?_ ?_;rintro i y z u Z2 hy ⟨I,d,rfl,B,Y,hm,S⟩ hZ2;rw[M_]at hy;obtain⟨a,ha,rfl⟩:=J_.mp hy;have hi:i<A.length:=(D_.mp ha).1;have kA1:=kA a<|aA ha;have bt:A.take (i+1)=A.take i++[a]:=by rw[aS,ha];rfl
 have V:=S J _ er;have bx:(∀s,¬Fits l x a s)->∀s,s∈d↔∃a∈A.take (i+1),Fits l x a s:=λhn s=>by rw[hm s,bt];constructor;rintro⟨b,hb,e⟩;exact⟨b,aF _ hb,e⟩;rintro⟨b,hb,e⟩;rcases R_.mp hb with hb|hb;exact⟨b,hb,e⟩;rw[G_.mp hb]at e;exact absurd e<|hn s
 refine Ac (Ak (j:=1) rfl) (ieq (λc=>?_) λc=>Kd rfl<|hZ2 _ _ ⟨_,d,rfl,B,by omega,bx λs h=>c<|by rw[h.2.1],S⟩);refine Ac NO<|Ac (Df a.ts) λG g=>?_;have jh:v≠G:=by rintro rfl;obtain⟨_,L,_⟩:=B;rw[L]at g;cases g
 have M:J≠G:=by rintro rfl;rw[V]at g;cases g
 refine cmap a.ts _ (λt=>.D<|.bool<|decide (t∈l)) (λz=>∃o,z=[o,oE J]) ⟨none,rfl⟩ Ab (seven<|by omega) (λ_=>Df a.ts) ?_ ?_;rintro j t τ' acc W hj ⟨o,rfl⟩ hW;obtain⟨r,e1,e2⟩:=yr t;refine Ac (x:=MO.dk rkv) (by rw[Ag M,Ag M];exact V)<|Ac e1 ?_;rw[e2];exact hW _ ⟨_,rfl⟩;dsimp only[KH];have O:Sub μ (Ao (Ao u G<|.lst []) G<|.lst<|a.ts.map λt=>.D<|.bool<|decide (t∈l)):=λb m hb=>by
  have h1:=S b m hb;have b2:b≠G:=by rintro rfl;rw[h1]at g;cases g
  rw[Ag b2,Ag b2];exact h1
 have T:Dl (Ao (Ao u G<|.lst []) G<|.lst<|a.ts.map λt=>.D<|.bool<|decide (t∈l)) v d:=by obtain⟨C,L,r⟩:=B;exact⟨C,by rw[Ag jh,Ag jh];exact L,r⟩
 refine Sl Ab<|br (λc2=>?_) λc2=>?_;have jo:Fits l x a a.p:=⟨rfl,by omega,λt ht=>aC<|(bY.mp c2) t ht⟩;obtain⟨C,m',og,L,el,ep,hI3,my,hm3⟩:=T.put a.p;refine Ac (Ak (j:=0) rfl) (Ac L<|Ac ep ⟨A8<|show C.length<=1000 by omega,hZ2 _ _ ⟨_,og,rfl,hI3 _,by omega,λs=>?_,λb m hb=>?_⟩⟩);rw[hm3 s,hm s,bt];constructor;rintro(⟨b,hb,e⟩|rfl);exact⟨b,aF _ hb,e⟩;exact⟨a,aT _<|by simp,jo⟩;rintro⟨b,hb,e⟩;rcases R_.mp hb with hb|hb;exact .inl ⟨b,hb,e⟩;rw[G_.mp hb]at e;exact .inr e.1.symm;have b1:b≠v:=by rintro rfl;rw[X]at hb;cases hb
 rw[Ag b1];exact O b m hb;refine hZ2 _ _ ⟨_,d,rfl,T,by omega,bx λs h=>?_,O⟩;have Q:(a.ts.all λt=>decide (t∈l))=false:=c2;rw[bY.mpr λt ht=>aP<|h.2.2 t ht]at Q;cases Q;rintro z u ⟨I,d,rfl,U,Y,hm,S⟩;rw[B_]at Y hm;rw[aN]at hm;exact hZ _ _ ⟨_,d,rfl,U,by omega,hm,S⟩;rintro z u ⟨I,d,rfl,U,Y,hm,S⟩;exact⟨_,Sub.refl,q v d _ U Y hm S⟩
def FI{W:oA Nat}{i:Nat}{y:AV}(hy:((W.map λ(n:Nat)=>PyData.int n).map AV.D).reverse[i]?=some y):i<W.length/\∃x,W[W.length-1-i]?=some x/\y=.D (.int (x:Nat)):=by obtain⟨hi,e⟩:=Nc hy;rw[B_,B_]at hi e;rw[M_,M_]at e;obtain⟨c,a,rfl⟩:=J_.mp e;obtain⟨x,b,rfl⟩:=J_.mp a;exact⟨hi,x,b,rfl⟩
abbrev nRe:oA Str:=["arrows","ends","stand","pile","reading","end","letter"]
def AL:FnScope nRe oX (Ad PZ):=Bm<|by decide +kernel
def FJ:ASp:=λe d R=>∃(A:oA Arw) (b:oA Nat) (s:Nat) (W:oA Nat),e=[.D<|.tuple<|A.map Bo,.D<|Bq b,.D<|.int (s:Nat),.D<|Bq W]/\A.length<=400/\(∀a∈A,a.ts.length<=400)/\b.length<=400/\∀ c,Sub d c->R (.D<|.bool<|rd A b W s) c
def WO{n:Nat}(F:Fun K "reads" "reads" PZ f fd) (J:VCal P w K mg base n "reading_with" qQ WM) (bh:mg "reversed" = none):FnOk P w K mg base Dz (n+1) f fd oX (Fb K 4 FJ):=by
 refine F.vok AL λap A M s H E Q=>⟨_,(Af (Aq (i:=4) AL.nd rfl oI Kh)<|Af (Cc aO rfl (Bc<|vv 1) (Aj (i:=5) AL.nd rfl oI)<|Ai<|Di (B9 Q) (vv 4) (vv 5) E3)<|Af (Cc aO rfl (LL rfl bh<|vv 3) (Aj (i:=6) AL.nd rfl oI)<|Ai<|Aq (i:=4) AL.nd rfl oI<|Al J Q rfl<|Aa (vv 0)<|Aa (vv 4)<|Aa (vv 6) Ae)<|Ai<|A6<|X6 (B9 Q) (vv 2)<|vv 4),?_⟩
 rintro xs G R _ ⟨A,a,s,W,rfl,hA,kA,he,q⟩;intro h X;refine A0 (λg c=>∃l d,g=[oG<|.tuple<|A.map Bo,oG<|Bq a,oF (s:Nat),oG<|Bq W,oE h,l,none]/\Dl c h d/\(∀t,t∈d↔t∈a)/\Sub G c) (λZ O=>?_) ?_;refine Ac (Df a) ?_;refine C5 (λi g c=>∃l d,g=[oG<|.tuple<|A.map Bo,oG<|Bq a,oF (s:Nat),oG<|Bq W,oE h,l,none]/\Dl c h d/\d.length<=i/\(∀t,t∈d↔t∈a.take i)/\Sub G c) ⟨none,[],rfl,⟨[],Ab,rfl,bO⟩,F_ _,(λt=>by simp),Sub.refl.new X⟩ (λ_ _ _ _=>Df a) ?_ ?_;rintro i y g B Z2 hy ⟨l,d,rfl,k,hl,hm,S⟩ hZ2;rw[M_]at hy;obtain⟨e,Y,rfl⟩:=J_.mp hy;have hi:i<a.length:=(D_.mp Y).1;obtain⟨C,m',og,I,el,ep,p,my,o⟩:=k.put e;refine Ac I (Ac ep ⟨A8<|show C.length<=1000 by omega,hZ2 _ _ ⟨_,og,rfl,p _,by omega,λt=>?_,λb m hb=>?_⟩⟩);rw[o t,hm t,aS,Y,R_];simp;have b1:b≠h:=by rintro rfl;rw[X]at hb;cases hb
 rw[Ag b1];exact S b m hb;rintro g B ⟨l,d,rfl,k,hl,hm,S⟩;rw[B_,aN]at hm;exact O _ _ ⟨_,d,rfl,k,hm,S⟩;rintro g B ⟨l,N,rfl,V,L,S1⟩;refine A0 (λg c=>∃u h d,g=[oG<|.tuple<|A.map Bo,oG<|Bq a,oF (s:Nat),oG<|Bq W,oE h,l,u]/\Dl c h d/\(∀t,t∈d↔rd A a W t=true)/\Sub G c) (λZ O=>?_) ?_;refine C5 (λi g c=>∃u h d,g=[oG<|.tuple<|A.map Bo,oG<|Bq a,oF (s:Nat),oG<|Bq W,oE h,l,u]/\Dl c h d/\(∀t,t∈d↔rd A a (W.drop<|W.length-i) t=true)/\Sub G c) ⟨none,h,N,rfl,V,(λt=>by rw[L t,kI,dO];exact(aZ).symm),S1⟩ (λ_ _ _ _=>trivial) ?_ ?_;rintro i y g z Z2 hy ⟨u,j,d,rfl,k,hm,v⟩ hZ2;obtain⟨hi,x,ex,rfl⟩:=FI hy;have vi:W.drop (W.length-(i+1))=x::W.drop (W.length-i):=by
  obtain⟨h1,h2⟩:=D_.mp ex;have T:W.length-(i+1)=W.length-1-i:=by omega
  have U:W.length-i=W.length-1-i+1:=by omega
  rw[T,U,bR h1,h2]
 refine⟨A,j,d,x,rfl,hA,kA,k,λab ps μ3 p _ o S3=>hZ2 _ _ ⟨_,ab,ps,rfl,p,λt=>?_,λb m hb=>S3 b m<|v b m hb⟩⟩;rw[o t,vi];exact(FH hm).symm;rintro g z ⟨u,j,d,rfl,k,hm,v⟩;rw[gW,B_,B_,lF,gR]at hm;exact O _ _ ⟨_,j,d,rfl,k,hm,v⟩;rintro g z ⟨u,j,d,rfl,k,hm,v⟩;obtain⟨C,I,hg⟩:=k.has;obtain⟨r,T,U⟩:=hg s;refine Ac I<|Ac T ⟨_,Sub.refl,?_⟩;rw[U,show decide (s∈d)=rd A a W s by rw[iB,aZ];exact hm s];exact q _ v
def Te(m n:Nat):Builtin.bitOr (m:Int) (n:Int)=((m |||n:Nat):Int):=by
 have b:∀k:Nat,Builtin.bitNot (k:Int)=-(k:Int)-1:=λ_=>rfl;unfold Builtin.bitOr;rw[b,b];unfold Builtin.bitAnd;rw[aL<|by omega,aL<|by omega];show Builtin.bitNot (Builtin.bitNot (((Builtin.bitNot<|-(m:Int)-1).toNat ||| (Builtin.bitNot<|-(n:Int)-1).toNat:Nat):Int))=_;have a:∀k:Nat,(Builtin.bitNot<|-(k:Int)-1).toNat=k:=λk=>by show(-(-(k:Int)-1)-1).toNat=k;omega
 rw[a,a];show -(-((m |||n:Nat):Int)-1)-1=_;omega
def AM(m n:Nat):Builtin.bitAnd (m:Int) (n:Int)=((m &&& n:Nat):Int):=by
 unfold Builtin.bitAnd;rw[aP<|dY _,aP<|dY _]
 rfl
def bts:oA Nat->Nat:=List.foldl (λb k=>b ||| 2^k) 0
abbrev nAb:oA Str:=["stands","bits","stand"]
def FK:FnScope nAb qH (Ad PJ):=Bm<|by decide +kernel
def NR:ASp:=λb a R=>∃(x:AV) (ts:oA Nat),b=[x]/\items a x=some (ts.map Bn)/\(∀t∈ts,t<60)/\R (.D<|.int (bts ts:Nat)) a
def WP{n:Nat}(F:Fun K "as_bits" "as_bits" PJ f fd):FnOk P w K mg base Dz (n+1) f fd qH (Fb K 1 NR):=by
 refine F.vok FK λp A d s H E o=>⟨_,(Af (Aq (i:=1) FK.nd rfl oI Ah)<|Af (Cc aO rfl (Bc<|vv 0) (Aj (i:=2) FK.nd rfl oI)<|Ai<|Aq (i:=1) FK.nd rfl oI<|Ba GY (vv 1)<|Ba TM Ah<|vv 2)<|Ai<|A6<|vv 1),?_⟩
 rintro m g R _ ⟨x,ts,rfl,hx,h,q⟩;refine UO<|A0 (λc a=>∃b,c=[some x,oF (bts ts:Nat),b]/\g=a) (λZ k=>?_) ?_;refine Ac hx ?_;refine C5 (λi c a=>∃b,c=[some x,oF (bts (ts.take i):Nat),b]/\g=a) ⟨none,rfl,rfl⟩ (by rintro _ _ _ ⟨_,_,e⟩;subst e;exact hx) ?_ ?_;rintro i y c _ l hy ⟨b,rfl,rfl⟩ hZ2;rw[M_]at hy;obtain⟨t,h1,rfl⟩:=J_.mp hy;have j:=h t<|aA h1;refine⟨⟨dY _,by omega,by decide⟩,hZ2 _ _ ⟨some<|Bn t,?_,rfl⟩⟩;have e:Builtin.bitOr (bts (ts.take i):Nat) (1*2^(t:Int).toNat)=((bts (ts.take<|i+1):Nat):Int):=by rw[Int.one_mul,cX,show((2:Int)^t)=((2^t:Nat):Int) by rw[Int.natCast_pow];rfl,Te,aS,h1];unfold bts;rw[List.foldl_append];rfl
 rw[<- e];rfl;rintro c _ ⟨b,rfl,rfl⟩;rw[B_,aN];exact k _ _ ⟨_,rfl,rfl⟩;rintro c _ ⟨b,rfl,rfl⟩;exact⟨_,Sub.refl,q⟩
def FL(k:Nat):Eg 0 k=(List.range k).map Bn:=by
 refine iX λj=>?_;rcases gH j k with h|h;have h1:j<(Eg 0 k).length:=by rw[Bs];exact h
 rw[K_ h1,Ga _ _ _<|K_ h1,M_,List.getElem?_range h];show some _=some (Bn j);unfold Bn;rw[lH];rw[fL<|by rw[Bs];exact h,fL<|by rw[B_,bG];exact h]
def Cr(n:Nat):oA Nat:=(List.range 5).filter λk=>n.testBit k
abbrev nAs:oA Str:=oY
def Qbu:FnScope nAs oY (Ad MK):=Bm<|by decide +kernel
def WQ:(["stand","bits"]:oA Str).Nodup:=by decide +kernel
def NS:ASp:=λc b R=>∃(n:Nat),c=[.D<|.int n]/\n<32/\∀ a,Sub b a->R (.D<|Bq<|Cr n) a
def WR{n:Nat}(F:Fun K "as_stands" "as_stands" MK f fd) (p:mg "tuple" = none) (v:mg "range" = none):FnOk P w K mg base Dz (n+1) f fd oY (Fb K 1 NS):=by
 refine F.vok Qbu λB A g s H E x=>⟨_,(Ai<|A6<|Cp Fi rfl p dI<|Aa (Bg (N':=["stand","bits"]) (mp:=[none,some 0]) rfl (Cz rfl v<|Aa (LY PyProof.Rows.slot_int_bit_length PyProof.Rows.type_int_bit_length LX<|vv 0) Ae) (λ_ _ _ _=>(Aj (i:=0) WQ rfl oI oJ)) (λ_ _ _ _=>(Cy<|Bd (Eo x) (Ba Y1 (Ba TN (vv 1)<|vv 0) Ah) Ah<|nomark _)) (λ_ _ _ _=>(vv 0))<|Aw (N:=nAs) (pn:=(Ad MK).names)<|by decide +kernel) Ae),?_⟩;rintro C y R _ ⟨n,rfl,m,q⟩;have hb:∀n:Fin 32,Builtin.Int.intBits ((n.val:Nat):Int)<=5/\(List.range<|Builtin.Int.intBits ((n.val:Nat):Int)).filter (λk=>n.val.testBit k)=Cr n.val:=by decide +kernel
 obtain⟨d,a⟩:=hb ⟨n,m⟩;have d:Builtin.Int.intBits (n:Int)<=5:=d;have a:(List.range<|Builtin.Int.intBits (n:Int)).filter (λk=>n.testBit k)=Cr n:=a;refine⟨trivial,by omega,by omega,λG b=>?_⟩;rw[cX,FL];refine cmapf (List.range<|Builtin.Int.intBits (n:Int)) Bn (λk=>n.testBit k) Bn (λu=>∃o,u=[o,oF n]) ⟨none,rfl⟩ Ab (seven<|by rw[bG];omega) (λ_=>trivial) ?_ ?_;rintro i k t l W z hk ⟨o,rfl⟩ w1 w2;have e:Builtin.bitAnd ((n:Int) / 2^(k:Int).toNat) 1=((n / 2^k%2:Nat):Int):=by rw[cX,show((n:Int) / 2^k)=((n / 2^k:Nat):Int) by rw[Int.natCast_ediv,Int.natCast_pow];rfl,show(1:Int)=((1:Nat):Int) from rfl,AM,Nat.and_one_is_mod]
 have r:n.testBit k=decide (n / 2^k%2=1):=Nat.testBit_eq_decide_div_mod_eq;have j:PyData.eqv (.int<|Builtin.bitAnd ((n:Int) / 2^(k:Int).toNat) 1) (.int 1)=n.testBit k:=by rw[e,M6,r];exact fG.mpr ⟨λh=>by omega,λh=>by omega⟩
 exact⟨dY _,B0 _,B0 _,br (λc=>w1 (j.symm.trans c) _ ⟨_,rfl⟩) λc=>w2 (j.symm.trans c) _ ⟨_,rfl⟩⟩
 rw[a];refine Ac (Am Ab)<|Ac (Gi _) ⟨_,Sub.refl,q _<|(Sub.refl.new b).new b⟩
def NT{n:Nat}(h:n<=300000):n<sizeLine:=fJ h<|by decide
abbrev Pr:=Nat×Nat
def G3(p:Pr):lL:=.tuple [.int (p.1:Nat),.int (p.2:Nat)]
def A7(p:Pr):AV:=.D<|G3 p
def ewe(p o:Pr):Pr:=(max p.1 o.1,p.2 |||o.2)
def Ps(p:Pr):oA Key×AV:=([.inl (p.1:Nat),.inl (p.2:Nat)],.D<|.bool true)
def adz(zs:oA Pr)(z:Pr):oA Pr:=if z∈zs then zs else zs++[z]
def NU{p q:Pr}(h:(Ps p).1=(Ps q).1):p=q:=by obtain⟨a,b⟩:=p;obtain⟨c,d⟩:=q;have h:([.inl ((a:Nat):Int),.inl ((b:Nat):Int)]:oA Key)=[.inl ((c:Nat):Int),.inl ((d:Nat):Int)]:=h;injection h with h1 h2;injection h2 with h2 _;have h1:=fX<|iK h1;have h2:=fX<|iK h2;rw[h1,h2]
def NV(zs:oA Pr)(z:Pr):Er (zs.map Ps) (Ps z).1 (.D<|.bool true)=(adz zs z).map Ps:=by
 unfold Er adz;by_cases h:z∈zs;rw[P_<|bP.mpr ⟨Ps z,E_.mpr ⟨z,h,rfl⟩,aP rfl⟩,P_ h,aB];refine fD λp _=>?_;show(if(Ps p).1=(Ps z).1 then((Ps p).1,AV.D<|.bool true) else Ps p)=Ps p;split<;>rfl;rw[H_,H_ h,L_]
 rfl
 intro a;obtain⟨b,h1,h2⟩:=bP.mp a;obtain⟨p,hp,rfl⟩:=E_.mp h1;rw[<- NU (aC h2)]at h;exact h hp
def FM{zs:oA Pr}{z y:Pr}:y∈adz zs z↔y∈zs\/y=z:=by unfold adz;split;rename_i h;exact⟨.inl,λc=>c.elim id λe=>by rw[e];exact h⟩;rw[R_,G_]
def NW{zs:oA Pr}{z:Pr}(h:zs.Nodup):(adz zs z).Nodup:=by unfold adz;split;exact h;rename_i c;exact bB.mpr ⟨h,cJ.mpr ⟨by simp,bO⟩,λa ha b hb e=>c<|by rw[G_.mp hb]at e;rw[<- e];exact ha⟩
def FN(zs:oA Pr)(z:Pr):(adz zs z).length<=zs.length+1:=by unfold adz;split;exact cF _;rw[N_];exact F_ _
def Pt{a b:lL}{i j:Nat}{τ:ASt}{c:M}{R:ASt->M->Prop}(h:R ((τ.set i<|oG a).set j<|oG b) c):Fm (Eb i) (Fm (Eb j) Oq) (List.map AV.D [a,b]) τ c R:=h
def Cq{c b:M}{x:AV}{g:oA AV}(h:items c x=some g)(S:Sub c b):items b x=some g:=by
 cases x with
 |R a=>
  have h:(match c a with|some (.lst i)=>some i|_=>none)=some g:=h;cases e:c a with
  |none=>rw[e]at h;cases h
  |some m=>
   rw[e]at h;cases m with
   |lst i=>cases h;exact Am (S a _ e)
   |_=>cases h
 |D d=>cases d<;>exact h
 |_=>exact h
abbrev nEe:oA Str:=["pairs","others","found","cost","bits","other_cost","other_bits"]
def Vw:FnScope nEe qR (Ad PQ):=Bm<|by decide +kernel
def WS:ASp:=λb a R=>∃(x y:AV) (P O:oA Pr),b=[x,y]/\items a x=some (P.map A7)/\items a y=some (O.map A7)/\P.length*O.length<=200000/\∀(zs:oA Pr) (l:lM) μ',(∀z,z∈zs↔∃p∈P,∃o∈O,z=ewe p o)->zs.Nodup->zs.length<=P.length*O.length->a l=none->μ' l=oH (zs.map A7)->Sub a μ'->R (.R l) μ'
def WT{n:Nat}(F:Fun K "each_with_each" "each_with_each" PQ f fd) (fw:mg "max" = none) (bi:mg "list" = none):FnOk P w K mg base Dz (n+1) f fd qR (Fb K 2 WS):=by
 refine F.vok Vw λap A Q s H E hr=>⟨_,(Af (Aq (i:=2) Vw.nd rfl oI E5)<|Af (Cc aO rfl (Bc<|vv 0) (Ds (n:=2) rfl<|Ay (Aj (i:=3) Vw.nd rfl oI)<|Ay (Aj (i:=4) Vw.nd rfl oI) B8)<|Ai<|Cc aO rfl (Bc<|vv 1) (Ds (n:=2) rfl<|Ay (Aj (i:=5) Vw.nd rfl oI)<|Ay (Aj (i:=6) Vw.nd rfl oI) B8)<|Ai<|Di (B9 hr) (vv 2) (Br<|Aa (Av (Xz rfl) rfl fw PyProof.Rows.boot_max<|Aa (vv 3)<|Aa (vv 5) Ae)<|Aa (Ba GY (vv 4)<|vv 6) Ae) E3)<|Ai<|A6<|Cp (EN rfl) rfl bi PyProof.Rows.boot_list<|Aa (vv 2) Ae),?_⟩
 rintro xs t R _ ⟨x,y,P,O,rfl,hx,hy,hn,q⟩;intro d B;have S0:Sub t (Ao t d<|.dt []):=Sub.refl.new B;refine A0 (λr g=>∃I C m k,∃a:oA Pr,r=[some x,some y,oE d,I,C,m,k]/\(∀z,z∈a↔∃p∈P,∃o∈O,z=ewe p o)/\a.Nodup/\a.length<=P.length*O.length/\g=Ao t d (.dt<|a.map Ps)) (λZ hZ=>?_) ?_;refine Ac (Cq hx S0) ?_;refine C5 (λi r g=>∃I C m k,∃a:oA Pr,r=[some x,some y,oE d,I,C,m,k]/\(∀z,z∈a↔∃p∈P.take i,∃o∈O,z=ewe p o)/\a.Nodup/\a.length<=i*O.length/\g=Ao t d (.dt<|a.map Ps)) ⟨none,none,none,none,[],rfl,by simp,bO,bH _,rfl⟩ (by rintro _ _ _ ⟨_,_,_,_,_,_,_,_,_,e⟩;subst e;exact Cq hx<|Sub.refl.new B) ?_ ?_;rintro i v r _ Z2 hv ⟨I,C,m,k,a,rfl,hm,hnd,G,rfl⟩ hZ2;rw[M_]at hv;obtain⟨p,hp,rfl⟩:=J_.mp hv;have hi:=(D_.mp hp).1;have X:P.take (i+1)=P.take i++[p]:=by rw[aS,hp];rfl
 refine⟨rfl,Pt ?_⟩;dsimp only[List.set];refine Ac (Cq hy<|Sub.refl.new B) ?_;have zgg:(i+1)*O.length<=P.length*O.length:=Nat.mul_le_mul_right _ hi;have Y:(i+1)*O.length=i*O.length+O.length:=Nat.succ_mul _ _;refine C5 (λj r g=>∃m k,∃b:oA Pr,r=[some x,some y,oE d,oF (p.1:Nat),oF (p.2:Nat),m,k]/\(∀z,z∈b↔z∈a\/∃o∈O.take j,z=ewe p o)/\b.Nodup/\b.length<=i*O.length+j/\g=Ao t d (.dt<|b.map Ps)) ⟨m,k,a,rfl,by simp,hnd,G,rfl⟩ (by rintro _ _ _ ⟨_,_,_,_,_,_,_,e⟩;subst e;exact Cq hy<|Sub.refl.new B) ?_ ?_;rintro j u r _ Z3 hu ⟨m,k,b,rfl,J,c,T,rfl⟩ cv;rw[M_]at hu;obtain⟨o,U,rfl⟩:=J_.mp hu;have hj:=(D_.mp U).1;have M:O.take (j+1)=O.take j++[o]:=by rw[aS,U];rfl
 refine⟨rfl,Pt ?_⟩;dsimp only[List.set];have W:(if((o.1:Nat):Int)>((p.1:Nat):Int) then((o.1:Nat):Int) else((p.1:Nat):Int))=(((ewe p o).1:Nat):Int):=by show _=((max p.1 o.1:Nat):Int);split<;>omega
 have V:Builtin.bitOr ((p.2:Nat):Int) ((o.2:Nat):Int)=(((ewe p o).2:Nat):Int):=Te _ _;have ep:dput (.dt<|b.map Ps) (.tuple [.int<|if((o.1:Nat):Int)>((p.1:Nat):Int) then((o.1:Nat):Int) else((p.1:Nat):Int),.int<|Builtin.bitOr ((p.2:Nat):Int) ((o.2:Nat):Int)]) (.D<|.bool true)=some (.dt<|(adz b<|ewe p o).map Ps):=by rw[W,V,<- NV];rfl
 refine Ac Ab (Ac ep ⟨NT<|show(b.map Ps).length<=300000 by rw[B_];omega,cv _ _ ⟨_,_,adz b<|ewe p o,rfl,λz=>?_,NW c,?_,?_⟩⟩);rw[FM,J,M];constructor;rintro((h|⟨L,h1,h2⟩)|h);exact .inl h;exact .inr ⟨L,aF _ h1,h2⟩;exact .inr ⟨o,by simp,h⟩;rintro(h|⟨L,h1,h2⟩);exact .inl<|.inl h;rcases R_.mp h1 with h1|h1;exact .inl<|.inr ⟨L,h1,h2⟩;rw[G_.mp h1]at h2;exact .inr h2;have:=FN b<|ewe p o;omega;rw[Bk];rintro r _ ⟨m,k,b,rfl,J,c,T,rfl⟩;rw[B_]at J T;rw[aN]at J;refine hZ2 _ _ ⟨_,_,_,_,b,rfl,λz=>?_,c,by omega,rfl⟩;rw[J,hm,X];constructor;rintro(⟨N,h1,h2⟩|h);exact⟨N,aF _ h1,h2⟩;exact⟨p,by simp,h⟩;rintro⟨N,h1,h2⟩;rcases R_.mp h1 with h1|h1;exact .inl ⟨N,h1,h2⟩;rw[G_.mp h1]at h2;exact .inr h2;rintro r _ ⟨I,C,m,k,a,rfl,hm,hnd,G,rfl⟩;rw[B_]at hm G;rw[aN]at hm;exact hZ _ _ ⟨_,_,_,_,a,rfl,hm,hnd,G,rfl⟩;rintro r _ ⟨I,C,m,k,a,rfl,hm,hnd,G,rfl⟩;refine Ac Ab λl S=>⟨_,Sub.refl,q a l _ hm hnd G ((Sub.refl.new B:Sub t _).none S) ?_<|(Sub.refl.new B:Sub t _).new<|(Sub.refl.new B:Sub t _).none S⟩;rw[Ab,aB];rfl
def Pu(P:oA Pr):dats (P.map A7)=some (P.map G3):=by rw[show P.map A7=(P.map G3).map .D by rw[aB];rfl];exact Cu _
def Tf(p q:Pr):cmpb (G3 p) (G3 q)=true:=by show cmpbs [.int _,.int _] [.int _,.int _]=true;simp only[cmpbs];split;split<;>simp only[cmpb];simp only[cmpb]
def Pw(p:Pr):Cb (G3 p):=⟨rfl,by show PyData.depth (.tuple [.int _,.int _])<=64;simp[PyData.depth,PyData.depthAll]⟩
theorem Tg:∀P:oA Pr,PyData.canLayAll0 (P.map G3)=true/\PyData.depthAll (P.map G3)<=64
 |[]=>⟨rfl,by simp[PyData.depthAll]⟩
 |p::P=>by obtain⟨a,b⟩:=Tg P;obtain⟨c,d⟩:=Pw p;refine⟨?_,?_⟩;simp only[List.map_cons,PyData.canLayAll0,c,a,Bool.and_self];simp only[List.map_cons,PyData.depthAll];omega
def AN{P:oA Pr}(h:P.length<=5000):SortOkP (P.map G3):=by obtain⟨a,b⟩:=Tg P;refine⟨by rw[B_];omega,a,b,λd c=>?_,λd c e he=>?_⟩;obtain⟨p,_,rfl⟩:=E_.mp c;exact⟨_,_,rfl⟩;obtain⟨p,_,rfl⟩:=E_.mp c;obtain⟨q,_,rfl⟩:=E_.mp he;exact Tf p q
def AQ{es:oA lL}{P:oA Pr}(h:es.Perm<|P.map G3):∃a:oA Pr,es=a.map G3/\a.Perm P:=by obtain⟨a,e,hp⟩:=Fj h P rfl;exact⟨a,e,hp⟩
def Wn(z y:Pr):Prop:=∀t,z.2.testBit t=true->y.2.testBit t=true
def Nt{z y:Pr}:z.2 &&& y.2=z.2↔Wn z y:=by
 constructor;intro h t a;have:=bV (λn=>n.testBit t) h;simp only[Nat.testBit_and,a,Bool.true_and]at this;exact this
 ·intro h;refine Nat.eq_of_testBit_eq λt=>?_;rw[Nat.testBit_and];cases e:z.2.testBit t with
  |true=>rw[h t e];rfl
  |false=>rfl
def Wn.refl(z:Pr):Wn z z:=λ_ h=>h
def Wn.trans{a b c:Pr}(h:Wn a b)(k:Wn b c):Wn a c:=λt d=>k t<|h t d
def Dy{a c:M}{p:lM}{o:MO}(S:Sub a c)(h:a p=none):Sub a (Ao c p o):=λb m hb=>by rw[Ag<|by rintro rfl;rw[h]at hb;cases hb];exact S b m hb
abbrev nHw:oA Str:=["lows","bits","low"]
def WU:FnScope nHw qI (Ad PK):=Bm<|by decide +kernel
def NX:ASp:=λe c R=>∃(a:lM) (d:oA Nat) (b:Nat),e=[.R a,.D<|.int (b:Nat)]/\c a=oH (d.map Bn)/\R (.D<|.bool<|d.any λl=>decide (l &&& b=l)) c
def WV{n:Nat}(F:Fun K "has_within" "has_within" PK f fd):FnOk P w K mg base Dz (n+1) f fd qI (Fb K 2 NX):=by
 refine F.vok WU λy A j s H E t=>⟨_,(Af (Cc aO rfl (Bc<|vv 0) (Aj (i:=2) WU.nd rfl oI)<|Ai<|Cl (Bd (Eo t) (Ba Y1 (vv 2)<|vv 1) (vv 2)<|nomark _) (Ai<|A6 E3) Bi)<|Ai<|A6 E3),?_⟩
 rintro x k R _ ⟨a,m,b,rfl,ha,q⟩;refine A0 (λh d=>k=d/\(m.any λl=>decide (l &&& b=l))=false) (λZ r=>?_) ?_;refine Ac (Am ha) ?_;refine C5 (λi h d=>∃o,h=[oE a,oF (b:Nat),o]/\k=d/\((m.take i).any λl=>decide (l &&& b=l))=false) ⟨none,rfl,rfl,rfl⟩ (by rintro _ _ _ ⟨_,_,e,_⟩;rw[<- e];exact Am ha) ?_ ?_;rintro i v h _ u hv ⟨o,rfl,rfl,g⟩ hZ2;rw[M_]at hv;obtain⟨l,p,rfl⟩:=J_.mp hv;have hb:Builtin.bitAnd ((l:Nat):Int) ((b:Nat):Int)=((l &&& b:Nat):Int):=rfl;refine ieq (λc=>⟨_,Sub.refl,?_⟩) λc=>hZ2 _ _ ⟨_,rfl,rfl,?_⟩;rw[bP.mpr ⟨l,aA p,aP<|fX c⟩]at q;exact q;rw[Zv p,g,kT];exact aL λe=>c<|bV Int.ofNat e;rintro h _ ⟨o,rfl,rfl,g⟩;rw[B_,aN]at g;exact r _ _ ⟨rfl,g⟩;rintro h _ ⟨rfl,g⟩;rw[g]at q;exact⟨_,Sub.refl,q⟩
abbrev nLa:oA Str:=["pairs","kept","lows","cost","bits"]
def AR:FnScope nLa oR (Ad PL):=Bm<|by decide +kernel
structure CvA(P zs:oA Pr):Prop where
 m:∀z∈zs,z∈P
 c:∀y∈P,∃z∈zs,Wn z y
 u:(zs.map (·.2)).Nodup
def Ru{zs:oA Pr}(h:(zs.map (·.2)).Nodup)(hb:∀z∈zs,z.2<32):zs.length<=32:=by
 have:=Gp (ys:=List.range 32) h λb a=>by obtain⟨z,hz,rfl⟩:=E_.mp a;exact dW.mpr<|hb z hz
 rwa[B_,bG]at this
def NY:ASp:=λc b R=>∃(a:lM) (P:oA Pr),c=[.R a]/\b a=oH (P.map A7)/\P.length<=5000/\(∀p∈P,p.2<32)/\∀(zs:oA Pr) (l:lM) μ',CvA P zs->b l=none->μ' l=oH (zs.map A7)->Sub b μ'->R (.R l) μ'
def WW{n:Nat}(F:Fun K "least_alone" "least_alone" PL f fd) (cHw:VCal P w K mg base n "has_within" qI NX) (ay:mg "sorted" = none):FnOk P w K mg base Dz (n+1) f fd oR (Fb K 1 NY):=by
 refine F.vok AR λap A outer s H E hr=>⟨_,(Af (Aq (i:=1) AR.nd rfl oI<|Cf Ae)<|Af (Aq (i:=2) AR.nd rfl oI<|Cf Ae)<|Af (Cc aO rfl (Bc<|Av (Ix hr) rfl ay h_<|Aa (vv 0) Ae) (Ds (n:=2) rfl<|Ay (Aj (i:=3) AR.nd rfl oI)<|Ay (Aj (i:=4) AR.nd rfl oI) B8)<|Ai<|Cl (Fz<|D3<|Al cHw hr rfl<|Aa (vv 2)<|Aa (vv 4) Ae) (Af (Bu<|E4 cQ cU Dx (vv 1)<|Aa (Br<|Aa (vv 3)<|Aa (vv 4) Ae) Ae)<|Ai<|Bu<|E4 cQ cU Dx (vv 2)<|Aa (vv 4) Ae) Bi)<|Ai<|A6<|vv 1),?_⟩
 rintro xs o R _ ⟨a,P,rfl,ha,hP,hb,q⟩;intro g N k r;have V:Sub o (Ao (Ao o g<|.lst []) k<|.lst []):=(Sub.refl.new N).new<|(Sub.refl.new N:Sub o _).none r;have Y:g≠k:=by rintro rfl;rw[Ab]at r;cases r
 have l0:o k=none:=(Sub.refl.new N:Sub o<|Ao o g<|.lst []).none r;have X:Ao (Ao o g<|.lst []) k (.lst []) g=oH []:=by rw[Ag Y,Ab]
 have el:Ao (Ao o g<|.lst []) k (.lst []) k=oH []:=Ab;generalize Ao (Ao o g<|.lst []) k (.lst [])=μ1 at V X el;refine A0 (λI j=>∃B G,∃d:oA Pr,I=[oE a,oE g,oE k,B,G]/\j g=oH (d.map A7)/\CvA P d/\Sub o j) (λZ hZ=>?_) ?_
 ·refine Ac (V _ _ ha)<|Ac (Pu P) ⟨AN hP,λes p hp J=>?_⟩;obtain⟨Q,rfl,hQ⟩:=AQ hp;have xt:g≠p:=by rintro rfl;rw[X]at J;cases J
  have ya:k≠p:=by rintro rfl;rw[el]at J;cases J
  have O:Ao μ1 p (.lst<|(Q.map G3).map .D) p=oH (Q.map A7):=by rw[Ab,aB];rfl
  have k2:Ao μ1 p (.lst<|(Q.map G3).map .D) g=oH []:=by rw[Ag xt];exact X
  have l2:Ao μ1 p (.lst<|(Q.map G3).map .D) k=oH []:=by rw[Ag ya];exact el
  have U:Sub o (Ao μ1 p<|.lst<|(Q.map G3).map .D):=V.new<|V.none J;generalize Ao μ1 p (.lst<|(Q.map G3).map .D)=M at O k2 l2 U;refine Ac (Am O) ?_;refine C5 (λi I j=>∃B G,∃d:oA Pr,I=[oE a,oE g,oE k,B,G]/\j g=oH (d.map A7)/\j k=oH ((d.map (·.2)).map Bn)/\j p=oH (Q.map A7)/\d.length<=i/\CvA (Q.take i) d/\Sub o j) ⟨none,none,[],rfl,k2,l2,O,F_ _,⟨(λ_ h=>nomatch h),(λ_ h=>nomatch h),bO⟩,U⟩ (by rintro _ _ _ ⟨_,_,_,_,_,_,e,_⟩;exact Am e) ?_ ?_
  ·rintro i v I L Z2 hv ⟨B,G,d,rfl,k3,S,e3,x,C,W⟩ hZ2;rw[M_]at hv;obtain⟨y,hy,rfl⟩:=J_.mp hv;have hi:=(D_.mp hy).1;have hQl:Q.length=P.length:=hQ.length_eq;have T:Q.take (i+1)=Q.take i++[y]:=by rw[aS,hy];rfl
   refine⟨rfl,Pt ⟨k,d.map (·.2),y.2,rfl,S,?_⟩⟩;cases hh:(d.map (·.2)).any λl=>decide (l &&& y.2=l) with
   |true=>refine Kd rfl<|hZ2 _ _ ⟨_,_,d,rfl,k3,S,e3,bA x,⟨λz hz=>?_,λu hu=>?_,C.u⟩,W⟩;rw[T];exact aF _<|C.m z hz;rw[T]at hu;rcases R_.mp hu with hu|hu;exact C.c u hu;rw[G_.mp hu];obtain⟨b,ir,e⟩:=bP.mp hh;obtain⟨z,hz,rfl⟩:=E_.mp ir;exact⟨z,hz,Nt.mp<|aC e⟩
   |false=>
    have bx:∀z∈d,¬Wn z y:=λz hz hw=>by have:=List.any_eq_false.mp hh z.2<|E_.mpr ⟨z,hz,rfl⟩;exact this<|aP<|Nt.mpr hw
    refine L3 rfl (Ca ⟨Ac k3 trivial,Ac k3 ⟨NT<|by rw[B_];omega,?_⟩⟩);have l4:Ao L g (.lst<|d.map A7++[A7 y]) k=oH ((d.map (·.2)).map Bn):=by rw[Ag Y.symm];exact S
    refine⟨Ac l4 trivial,Ac l4 ⟨NT<|by rw[B_,B_];omega,hZ2 _ _ ⟨_,_,d++[y],rfl,by rw[Ag Y,Ab,L_];rfl,by rw[Ab,L_,L_];rfl,by rw[Ag ya.symm,Ag xt.symm];exact e3,by rw[N_];exact gD x,⟨λz hz=>?_,λu hu=>?_,?_⟩,Dy (Dy W N) l0⟩⟩⟩;rw[T];rcases R_.mp hz with hz|hz;exact aF _<|C.m z hz;exact aT _ hz;rw[T]at hu;rcases R_.mp hu with hu|hu;obtain⟨z,hz,h⟩:=C.c u hu;exact⟨z,aF _ hz,h⟩;rw[G_.mp hu];exact⟨y,by simp,Wn.refl y⟩;rw[L_,bB];refine⟨C.u,by simp,λb ir c hc e=>?_⟩;obtain⟨z,hz,rfl⟩:=E_.mp ir;have hc:c=y.2:=by simpa using hc
    exact bx z hz λt ht=>by rw[<- hc,<- e];exact ht
  rintro I L ⟨B,G,d,rfl,k3,S,e3,x,C,W⟩;rw[B_,aN]at C;exact hZ _ _ ⟨_,_,d,rfl,k3,⟨λz hz=>hQ.mem_iff.mp<|C.m z hz,λy hy=>C.c y<|hQ.mem_iff.mpr hy,C.u⟩,W⟩
 rintro I M ⟨B,G,d,rfl,O,C,U⟩;exact⟨_,Sub.refl,q d g M C N O U⟩
abbrev nTh:oA Str:=oS
def Qbv:FnScope nTh oS (Ad PM):=Bm<|by decide +kernel
def FO:ASp:=λc b R=>∃(a:lM) (P:oA Pr),c=[.R a,.D<|.bool true]/\b a=oH (P.map A7)/\P.length<=5000/\(∀p∈P,p.2<32)/\∀(zs:oA Pr) (l:lM) μ',CvA P zs->b l=none->μ' l=oH (zs.map A7)->Sub b μ'->R (.R l) μ'
def WX{n:Nat}(F:Fun K "thinned" "thinned" PM f fd) (c:VCal P w K mg base n "least_alone" oR NY) (o:mg "sorted" = none) (p:mg "set" = none):FnOk P w K mg base Dz (n+1) f fd oS (Fb K 2 FO):=by refine F.vok Qbv λr A d s H E j=>⟨_,(Ai<|A6<|Om (D3<|vv 1) (Al c j rfl<|Aa (vv 0) Ae) UG),?_⟩;rintro m k R _ ⟨a,P,rfl,ha,g,hb,q⟩;exact L3 rfl ⟨a,P,rfl,ha,g,hb,λh l b C i e S=>⟨_,Sub.refl,q h l b C i e S⟩⟩
def cho:oA (oA Pr)->oA Pr:=List.foldl (λF G=>F.flatMap λp=>G.map<|ewe p) [(0,0)]
structure GrAt(μ:M)(ps:oA lM)(Gs:oA<|oA Pr):Prop where
 l:ps.length=Gs.length
 a:∀(i:Nat) p G,ps[i]?=some p->Gs[i]?=some G->μ p=oH (G.map A7)
structure Cv(P zs:oA Pr):Prop where
 m:∀z∈zs,z∈P
 c:∀y∈P,∃z∈zs,Wn z y
 u:(zs.map (·.2)).Nodup
 b:∀z∈zs,z.2<32
def Cv.len{P zs:oA Pr}(h:Cv P zs):zs.length<=32:=Ru h.u h.b
def AU{p q r s:Pr}(h:Wn p q)(k:Wn r s):Wn (ewe p r) (ewe q s):=λt a=>by have a:(p.2 |||r.2).testBit t=true:=a;show(q.2 |||s.2).testBit t=true;rw[Nat.testBit_or,gM]at a ⊢;exact a.imp (h t)<|k t
def Px{Gs:oA<|oA Pr}{G:oA Pr}{z:Pr}:z∈cho (Gs++[G])↔∃y∈cho Gs,∃o∈G,z=ewe y o:=by unfold cho;rw[List.foldl_append,fP,List.foldl_nil,dE];constructor;rintro⟨y,h1,h2⟩;obtain⟨o,a,rfl⟩:=E_.mp h2;exact⟨y,h1,o,a,rfl⟩;rintro⟨y,h1,o,h2,rfl⟩;exact⟨y,h1,E_.mpr ⟨o,h2,rfl⟩⟩
abbrev nOe:oA Str:=yH
def FP:FnScope nOe oN (Ad PP):=Bm<|by decide +kernel
def NZ:ASp:=λb a R=>∃(x:AV) (ps:oA lM) (Gs:oA<|oA Pr),b=[x,.D<|.bool true]/\items a x=some (ps.map .R)/\GrAt a ps Gs/\(∀G∈Gs,G.length<=32/\∀p∈G,p.2<32)/\∀(zs:oA Pr) (l:lM) μ',Cv (cho Gs) zs->a l=none->μ' l=oH (zs.map A7)->Sub a μ'->R (.R l) μ'
def WY{n:Nat}(F:Fun K "one_of_each" "one_of_each" PP f fd) (pg:VCal P w K mg base n "thinned" oS FO) (O:VCal P w K mg base n "each_with_each" qR WS):FnOk P w K mg base Dz (n+1) f fd oN (Fb K 2 NZ):=by
 refine F.vok FP λap A T s H E hr=>⟨_,(Af (Aq (i:=2) FP.nd rfl oI<|Cf<|Aa (Br<|Aa Ah<|Aa Ah Ae) Ae)<|Af (Cc aO rfl (Bc<|vv 0) (Aj (i:=3) FP.nd rfl oI)<|Ai<|Aq (i:=2) FP.nd rfl oI<|Al pg hr rfl<|Aa (Al O hr rfl<|Aa (vv 2)<|Aa (vv 3) Ae)<|Aa (vv 1) Ae)<|Ai<|A6<|vv 2),?_⟩
 rintro xs g R _ ⟨x,ps,r,rfl,hx,hG,hb,q⟩;intro l0 fh;refine A0 (λt e=>∃l j,∃d:oA Pr,t=[some x,oG<|.bool true,oE l,j]/\Cv (cho r) d/\g l=none/\e l=oH (d.map A7)/\Sub g e) (λZ hZ=>?_) ?_;have S0:Sub g (Ao g l0<|.lst [A7 (0,0)]):=Sub.refl.new fh;refine Ac (Cq hx S0) ?_;refine C5 (λi t e=>∃l j,∃d:oA Pr,t=[some x,oG<|.bool true,oE l,j]/\Cv (cho<|r.take i) d/\g l=none/\e l=oH (d.map A7)/\Sub g e) ⟨l0,none,[(0,0)],rfl,⟨λz hz=>hz,λy hy=>⟨y,hy,Wn.refl y⟩,by simp,λz hz=>by rw[G_.mp hz];decide⟩,fh,Ab,S0⟩ (by rintro _ _ _ ⟨_,_,_,_,_,_,_,S⟩;exact Cq hx S) ?_ ?_;rintro i v t h Z2 hv ⟨l,j,d,rfl,C,N,J,k⟩ hZ2;rw[M_]at hv;obtain⟨p,hp,rfl⟩:=J_.mp hv;have hi:i<r.length:=by rw[<- hG.l];exact(D_.mp hp).1
 have L:=K_ hi;generalize r[i]=G at L;have Y:r.take (i+1)=r.take i++[G]:=by rw[aS,L];rfl
 have eg:=k _ _<|hG.a i p G hp L;obtain⟨W,Q⟩:=hb G<|aA L;have zgg:d.length*G.length<=32*32:=Nat.mul_le_mul C.len W;refine⟨.R l,.R p,d,G,rfl,Am J,Am eg,by omega,λys l2 V X hnd2 dz ni e2 S2=>?_⟩;have I:∀z∈ys,z.2<32:=λz hz=>by obtain⟨y,h1,o,h2,rfl⟩:=(X z).mp hz;exact Nat.or_lt_two_pow (n:=5) (C.b y h1)<|Q o h2
 refine⟨l2,ys,rfl,e2,by omega,I,λus l3 μ3 M U e3 S3=>?_⟩;have B:Sub g V:=λb m hb=>S2 b m<|k b m hb;refine hZ2 _ _ ⟨l3,_,us,rfl,⟨λz hz=>?_,λy hy=>?_,M.u,λz hz=>I z<|M.m z hz⟩,B.none U,e3,λb m hb=>S3 b m<|B b m hb⟩;obtain⟨y,h1,o,h2,rfl⟩:=(X z).mp<|M.m z hz;rw[Y];exact Px.mpr ⟨y,C.m y h1,o,h2,rfl⟩;rw[Y]at hy;obtain⟨u,h1,o,h2,rfl⟩:=Px.mp hy;obtain⟨y,h3,h4⟩:=C.c u h1;obtain⟨z,h5,h6⟩:=M.c (ewe y o)<|(X _).mpr ⟨y,h3,o,h2,rfl⟩;exact⟨z,h5,h6.trans<|AU h4<|Wn.refl o⟩;rintro t h ⟨l,j,d,rfl,C,N,J,k⟩;rw[B_,hG.l,aN]at C;exact hZ _ _ ⟨l,_,d,rfl,C,N,J,k⟩;rintro t h ⟨l,j,d,rfl,C,N,J,k⟩;exact⟨_,Sub.refl,q d l h C N J k⟩
abbrev nOa:oA Str:=yH
def OA:FnScope nOa oN (Ad PN):=Bm<|by decide +kernel
def Vx{a:Type}{Gs:oA<|oA a}{i:Nat}{G:oA a}(h:Gs[i]?=some G):(Gs.take<|i+1).flatten=(Gs.take i).flatten++G:=by rw[aS,h,List.flatten_append];simp
theorem K5{a:Type}:∀{Gs:oA<|oA a},(∀G∈Gs,G.length<=32)->Gs.flatten.length<=32*Gs.length
 |[],_=>by simp
 |G::Gs,h=>by have h1:=h G aR;have h2:=K5 (Gs:=Gs) λb hG=>h b<|aE _ hG;rw[kQ,N_,aX];omega
def WZ:ASp:=λb a R=>∃(x:AV) (ps:oA lM) (Gs:oA<|oA Pr),b=[x,.D<|.bool true]/\items a x=some (ps.map .R)/\GrAt a ps Gs/\Gs.length<=20/\(∀G∈Gs,G.length<=32/\∀p∈G,p.2<32)/\∀(zs:oA Pr) (l:lM) μ',Cv Gs.flatten zs->a l=none->μ' l=oH (zs.map A7)->Sub a μ'->R (.R l) μ'
def XB{n:Nat}(F:Fun K "one_of_any" "one_of_any" PN f fd) (O:VCal P w K mg base n "thinned" oS FO):FnOk P w K mg base Dz (n+1) f fd oN (Fb K 2 WZ):=by
 refine F.vok OA λap A y s H E hr=>⟨_,(Af (Aq (i:=2) OA.nd rfl oI<|Cf Ae)<|Af (Cc aO rfl (Bc<|vv 0) (Aj (i:=3) OA.nd rfl oI)<|Ai<|Bu<|E4 eM eO F0 (vv 2)<|Aa (vv 3) Ae)<|Ai<|A6<|Al O hr rfl<|Aa (vv 2)<|Aa (vv 1) Ae),?_⟩
 rintro xs r R _ ⟨x,ps,Gs,rfl,hx,hG,U,hb,q⟩;intro k L;have o:∀z∈Gs.flatten,z.2<32:=λz hz=>by obtain⟨G,h1,h2⟩:=lB.mp hz;exact(hb G h1).2 z h2
 refine A0 (λh b=>∃g,h=[some x,oG<|.bool true,oE k,g]/\b k=oH (Gs.flatten.map A7)/\Sub r b) (λZ hZ=>?_) ?_;have M:Sub r (Ao r k<|.lst []):=Sub.refl.new L;refine Ac (Cq hx M) ?_;refine C5 (λi h b=>∃g,h=[some x,oG<|.bool true,oE k,g]/\b k=oH ((Gs.take i).flatten.map A7)/\Sub r b) ⟨none,rfl,Ab,M⟩ (by rintro _ _ _ ⟨_,_,_,S⟩;exact Cq hx S) ?_ ?_;rintro i v h j Z2 hv ⟨g,rfl,d,e⟩ hZ2;rw[M_]at hv;obtain⟨p,hp,rfl⟩:=J_.mp hv;have hi:i<Gs.length:=by rw[<- hG.l];exact(D_.mp hp).1
 have t:=K_ hi;generalize Gs[i]=G at t;have Y:=e _ _<|hG.a i p G hp t;have Q:=(hb G<|aA t).1;have B:=K5 (Gs:=Gs.take i) λX I=>(hb X<|dZ I).1;have T:(Gs.take i).length<=20:=by rw[aU];omega
 refine⟨Ac d trivial,Ac d<|Ac Y ⟨eB<|NT<|by rw[B_,B_];omega,hZ2 _ _ ⟨_,rfl,?_,e.new L⟩⟩⟩;rw[Ab,Vx t,L_];rintro h j ⟨g,rfl,d,e⟩;rw[B_,hG.l,aN]at d;exact hZ _ _ ⟨_,rfl,d,e⟩;rintro h j ⟨g,rfl,d,e⟩;have B:=K5 λG hG=>(hb G hG).1;exact⟨_,Gs.flatten,rfl,d,by omega,o,λzs l J C N V W=>⟨_,Sub.refl,q zs l J ⟨C.m,C.c,C.u,λz hz=>o z<|C.m z hz⟩ (e.none N) V<|e.trans W⟩⟩
structure Ar where
 p:Nat
 x:Nat
 ts:oA Nat
 c:Nat
def arD(a:Ar):lL:=.tuple [.int (a.p:Nat),.int (a.x:Nat),Bq a.ts,.int (a.c:Nat)]
def Th(a:Ar):AV:=.D<|arD a
def El(k:Nat×Nat)(a:Ar):Bool:=decide (a.p=k.1)&&decide (a.x=k.2)
def grp(A:oA Ar)(k:Nat×Nat):oA Pr:=(A.filter<|El k).map λa=>(a.c,bts a.ts)
def kvT(e:(Nat×Nat)×lM):oA Key×AV:=([.inl (e.1.1:Nat),.inl (e.1.2:Nat)],.R e.2)
structure TopW(μ0 μ:M)(d:lM)(A:oA Ar)(K:Nat×Nat->Prop)(kvs:oA<|(Nat×Nat)×lM):Prop where
 dd:μ d=some (.dt<|kvs.map kvT)
 ll:∀e∈kvs,μ e.2=oH ((grp A e.1).map A7)
 kk:∀k,(∃e∈kvs,e.1=k)↔K k
 uu:(kvs.map (·.1)).Nodup
 vv:(kvs.map (·.2)).Nodup
 fd:μ0 d=none
 fe:∀e∈kvs,μ0 e.2=none/\e.2≠d
 ss:Sub μ0 μ
def AW(a b:M)(d:lM)(A:oA Ar)(kvs:oA<|(Nat×Nat)×lM):Prop:=TopW a b d A (λk=>grp A k≠[]) kvs
def Nu{k l:Nat×Nat}(h:([.inl (k.1:Nat),.inl (k.2:Nat)]:oA Key)=[.inl (l.1:Nat),.inl (l.2:Nat)]):k=l:=by injection h with h1 h2;injection h2 with h2 _;exact kK (fX<|iK h1)<|fX<|iK h2
theorem Gv:∀{kvs:oA<|(Nat×Nat)×lM} {e:(Nat×Nat)×lM},(kvs.map (·.1)).Nodup->e∈kvs->Cs (kvs.map kvT) [.inl (e.1.1:Nat),.inl (e.1.2:Nat)]=oE e.2
 |x::kvs,e,a,he=>by
  rw[a_];rw[a_,cJ]at a;by_cases h:x.1=e.1;have hx:e=x:=by
   rcases aK.mp he with rfl|he
   rfl
   exact absurd (E_.mpr ⟨e,he,h.symm⟩) a.1
  subst hx;exact Dv;have b:e∈kvs:=by rcases aK.mp he with rfl|he;exact absurd rfl h;exact he
  rw[show Cs (kvT x::kvs.map kvT) [.inl (e.1.1:Nat),.inl (e.1.2:Nat)]=Cs (kvs.map kvT) [.inl (e.1.1:Nat),.inl (e.1.2:Nat)] from Dd λz=>h<|Nu z];exact Gv a.2 b
theorem Ij:∀{kvs:oA<|(Nat×Nat)×lM} {k:Nat×Nat},(∀e∈kvs,e.1≠k)->Cs (kvs.map kvT) [.inl (k.1:Nat),.inl (k.2:Nat)]=none
 |[],_,_=>rfl
 |x::kvs,k,h=>by rw[a_,show Cs (kvT x::kvs.map kvT) [.inl (k.1:Nat),.inl (k.2:Nat)]=Cs (kvs.map kvT) [.inl (k.1:Nat),.inl (k.2:Nat)] from Dd λz=>h x aR<|Nu z];exact Ij λe he=>h e<|aE _ he
def Gj{kvs:oA<|(Nat×Nat)×lM}{k:Nat×Nat}{z:lM}(h:∀e∈kvs,e.1≠k):Er (kvs.map kvT) [.inl (k.1:Nat),.inl (k.2:Nat)] (.R z)=(kvs++[(k,z)]).map kvT:=by
 unfold Er;rw[H_,L_]
 rfl
 intro a;obtain⟨b,h1,h2⟩:=bP.mp a;obtain⟨e,he,rfl⟩:=E_.mp h1;exact h e he<|Nu<|aC h2
def Py{kvs:oA<|(Nat×Nat)×lM}{e f:(Nat×Nat)×lM}(h:(kvs.map (·.1)).Nodup)(he:e∈kvs)(b:f∈kvs)(c:e.1=f.1):e=f:=by
 induction kvs with
 |nil=>cases he
 |cons x r a=>rw[a_,cJ]at h;rcases aK.mp he with h1|h1<;>rcases aK.mp b with h2|h2;rw[h1,h2];exact absurd (E_.mpr ⟨f,h2,by rw[<- h1];exact c.symm⟩) h.1;exact absurd (E_.mpr ⟨e,h1,by rw[<- h2];exact c⟩) h.1;exact a h.2 h1 h2
def Mh{kvs:oA<|(Nat×Nat)×lM}{e f:(Nat×Nat)×lM}(h:(kvs.map (·.2)).Nodup)(he:e∈kvs)(b:f∈kvs)(c:e.2=f.2):e=f:=by
 induction kvs with
 |nil=>cases he
 |cons x r a=>rw[a_,cJ]at h;rcases aK.mp he with h1|h1<;>rcases aK.mp b with h2|h2;rw[h1,h2];exact absurd (E_.mpr ⟨f,h2,by rw[<- h1];exact c.symm⟩) h.1;exact absurd (E_.mpr ⟨e,h1,by rw[<- h2];exact c⟩) h.1;exact a h.2 h1 h2
def Pz(A:oA Ar)(a:Ar)(k:Nat×Nat):grp (A++[a]) k=grp A k++(if El k a then [(a.c,bts a.ts)] else []):=by unfold grp;rw[dL,L_,fF,List.filter_nil];split<;>rfl
def K6(a:Ar):El (a.p,a.x) a=true:=by unfold El;simp
def Nv{a:Ar}{k:Nat×Nat}(h:k≠(a.p,a.x)):El k a=false:=by unfold El;rw[<- j_];exact aL λc=>h<|kK c.1.symm c.2.symm
def Qbw{a b c d:lL}{i j k l:Nat}{τ:ASt}{e:M}{R:ASt->M->Prop}(h:R ((((τ.set i<|oG a).set j<|oG b).set k<|oG c).set l<|oG d) e):Fm (Eb i) (Fm (Eb j)<|Fm (Eb k)<|Fm (Eb l) Oq) (List.map AV.D [a,b,c,d]) τ e R:=h
abbrev nAt:oA Str:=["arrows","tops","stand","letter","targets","cost"]
def Vy:FnScope nAt qS (Ad PR):=Bm<|by decide +kernel
def XC:ASp:=λg e R=>∃(x:AV) (A:oA Ar),g=[x]/\items e x=some (A.map Th)/\A.length<=300/\(∀a∈A,∀t∈a.ts,t<5)/\∀d c b,AW e b d A c->R (.R d) b
def XE{n:Nat}(F:Fun K "arrows_by_top" "arrows_by_top" PR f fd) (cAb:VCal P w K mg base n "as_bits" qH NR):FnOk P w K mg base Dz (n+1) f fd qS (Fb K 1 XC):=by
 refine F.vok Vy λap A W s H E Y=>⟨_,(Af (Aq (i:=1) Vy.nd rfl oI E5)<|Af (Cc aO rfl (Bc<|vv 0) (Ds (n:=4) rfl<|Ay (Aj (i:=2) Vy.nd rfl oI)<|Ay (Aj (i:=3) Vy.nd rfl oI)<|Ay (Aj (i:=4) Vy.nd rfl oI)<|Ay (Aj (i:=5) Vy.nd rfl oI) B8)<|Af (Bu<|Y2 (B9 Y) (vv 1) (Br<|Aa (vv 2)<|Aa (vv 3) Ae)<|Cf Ae)<|Ai<|Bu<|E4 cQ cU Dx (Du (B9 Y) (vv 1)<|Br<|Aa (vv 2)<|Aa (vv 3) Ae)<|Aa (Br<|Aa (vv 5)<|Aa (Al cAb Y rfl<|Aa (vv 4) Ae) Ae) Ae)<|Ai<|A6<|vv 1),?_⟩
 rintro xs V R _ ⟨x,A,rfl,hx,hn,ht,q⟩;intro d hd;refine A0 (λI u=>∃Q N O S,∃g:oA<|(Nat×Nat)×lM,I=[some x,oE d,Q,N,O,S]/\AW V u d A g) (λZ hZ=>?_) ?_;refine Ac (Cq hx<|Sub.refl.new hd) ?_;refine C5 (λi I u=>∃Q N O S,∃g:oA<|(Nat×Nat)×lM,I=[some x,oE d,Q,N,O,S]/\g.length<=i/\AW V u d (A.take i) g) ⟨none,none,none,none,[],rfl,bH _,⟨Ab,(λ_ h=>nomatch h),λk=>⟨(by rintro ⟨_,h,_⟩;exact nomatch h),λh=>absurd rfl h⟩,bO,bO,hd,(λ_ h=>nomatch h),Sub.refl.new hd⟩⟩ (by rintro _ _ _ ⟨_,_,_,_,_,_,_,T⟩;exact Cq hx T.ss) ?_ ?_;rintro i v I j Z2 hv ⟨Q,N,O,S,g,rfl,M,T⟩ hZ2;rw[M_]at hv;obtain⟨a,ha,rfl⟩:=J_.mp hv;have hi:=(D_.mp ha).1;have bt:A.take (i+1)=A.take i++[a]:=by rw[aS,ha];rfl
 refine⟨rfl,Qbw ?_⟩;dsimp only[List.set];generalize hB:A.take i=B at T bt;refine A0 (λI u=>∃g:oA<|(Nat×Nat)×lM,I=[some x,oE d,oF (a.p:Nat),oF (a.x:Nat),oG<|Bq a.ts,oF (a.c:Nat)]/\g.length<=i+1/\TopW V u d B (λk=>grp B k≠[]\/k=(a.p,a.x)) g) (λZ3 cv=>?_) ?_;refine⟨⟨_,T.dd,trivial⟩,λz hz=>Ac (x:=[.inl (a.p:Nat),.inl (a.x:Nat)]) rfl ?_⟩;have J:Sub j (Ao j z<|.lst []):=Sub.refl.new hz;have ez:Ao j z (.lst []) z=oH []:=Ab;have zd:z≠d:=by rintro rfl;rw[T.dd]at hz;cases hz
 have z0:V z=none:=T.ss.none hz;have zk:∀e∈g,e.2≠z:=λe he c=>by have:=T.ll e he;rw[c,hz]at this;cases this
 generalize Ao j z (.lst [])=r at J ez;refine Ac (J _ _ T.dd) ⟨A8<|by rw[B_];omega,λv hv=>?_,λhv=>?_⟩;have hin:∃e∈g,e.1=(a.p,a.x):=bS λU=>by rw[Ij (k:=(a.p,a.x)) λe he c=>U ⟨e,he,c⟩]at hv;cases hv
 refine cv _ _ ⟨g,rfl,bA M,⟨J _ _ T.dd,λe he=>J _ _<|T.ll e he,λk=>?_,T.uu,T.vv,T.fd,T.fe,λb m hb=>J b m<|T.ss b m hb⟩⟩;rw[T.kk];refine⟨.inl,λc=>c.elim id λc=>?_⟩;rw[c];exact(T.kk _).mp hin;have U:∀e∈g,e.1≠(a.p,a.x):=λe he c=>by have:=Gv T.uu he;rw[c]at this;rw[this]at hv;cases hv
 rw[Gj (k:=(a.p,a.x)) U];have g0:grp B (a.p,a.x)=[]:=bS λc=>by obtain⟨e,he,h⟩:=(T.kk _).mpr c;exact U e he h
 have ne:∀{b:lM},b≠d->Ao r d (.dt<|(g++[((a.p,a.x),z)]).map kvT) b=r b:=λh=>Ag h;refine cv _ _ ⟨g++[((a.p,a.x),z)],rfl,by rw[N_];show g.length+1<=_;exact gD M,⟨Ab,λe he=>?_,λk=>?_,?_,?_,T.fd,λe he=>?_,λb m hb=>?_⟩⟩;rcases R_.mp he with he|he;rw[ne (T.fe e he).2];exact J _ _<|T.ll e he;rw[G_.mp he,ne zd,g0];exact ez;constructor;rintro⟨e,he,rfl⟩;rcases R_.mp he with he|he;exact .inl<|(T.kk _).mp ⟨e,he,rfl⟩;rw[G_.mp he];exact .inr rfl;rintro(h|rfl);obtain⟨e,he,h⟩:=(T.kk k).mpr h;exact⟨e,aF _ he,h⟩;exact⟨((a.p,a.x),z),by simp,rfl⟩;rw[L_,bB];refine⟨T.uu,by simp,λx hx y hy e=>?_⟩;obtain⟨e',X,rfl⟩:=E_.mp hx;have hy:y=(a.p,a.x):=by simpa using hy
 exact U e' X<|e.trans hy
 rw[L_,bB];refine⟨T.vv,by simp,λx hx y hy e=>?_⟩;obtain⟨e',X,rfl⟩:=E_.mp hx;have hy:y=z:=by simpa using hy
 exact zk e' X<|e.trans hy
 rcases R_.mp he with he|he;exact T.fe e he;rw[G_.mp he];exact⟨z0,zd⟩;rw[Ag<|by rintro rfl;rw[T.fd]at hb;cases hb];exact J b m<|T.ss b m hb;clear M T;rintro I r ⟨g,rfl,M,T⟩;obtain⟨C,l,G⟩:=(T.kk (a.p,a.x)).mpr<|.inr rfl;have j2:=Gv T.uu l;rw[G]at j2;have ly:=T.ll C l;have ed:dget (.dt<|g.map kvT) (.tuple [.int (a.p:Nat),.int (a.x:Nat)])=some (some<|AV.R C.2):=by show some (Cs (g.map kvT) [.inl (a.p:Nat),.inl (a.x:Nat)])=_;rw[j2]
 refine Ac T.dd (Ac ed<|Ac (x:=AV.R C.2) rfl ⟨Ac ly trivial,_,a.ts,rfl,Df a.ts,λt h=>Nat.lt_trans (ht a (aA ha) t h)<|by decide,Ac ly ⟨?_,hZ2 _ _ ⟨_,_,_,_,g,rfl,M,?_⟩⟩⟩);rw[B_];refine A8 ?_;unfold grp;rw[B_];have:=bX (El C.1) B;rw[<- hB,aU]at this;rw[<- hB];omega;rw[bt];have ne:∀{b:lM} {o:MO},b≠C.2->Ao r C.2 o b=r b:=λh=>Ag h;refine⟨by rw[ne (T.fe C l).2.symm];exact T.dd,λe he=>?_,λk=>?_,T.uu,T.vv,T.fd,T.fe,λb m hb=>?_⟩;rw[Pz];by_cases L:e.1=(a.p,a.x);have:e=C:=Py T.uu he l<|L.trans G.symm;subst this;rw[Ab,G,K6,P_ rfl,L_];rfl;have:e.2≠C.2:=λc=>L (by rw[Mh T.vv he l c];exact G);rw[ne this,Nv L,H_ U_,cH];exact T.ll e he;rw[T.kk,Pz];by_cases hk:k=(a.p,a.x);rw[hk,K6,P_ rfl];exact⟨λ_=>by simp,λ_=>.inr rfl⟩;rw[Nv hk,H_ U_,cH];exact⟨λc=>c.elim id λc=>absurd c hk,.inl⟩;rw[ne<|by rintro rfl;rw[(T.fe C l).1]at hb;cases hb];exact T.ss b m hb;rintro I j ⟨Q,N,O,S,g,rfl,M,T⟩;rw[B_,aN]at T;exact hZ _ _ ⟨_,_,_,_,g,rfl,T⟩;rintro I j ⟨Q,N,O,S,g,rfl,T⟩;exact⟨_,Sub.refl,q d g j T⟩
def Fo(k:Nat×Nat)(a:Rul):Bool:=decide (a.p=k.1)&&decide (a.x=k.2)
def rgp(A:oA Rul)(k:Nat×Nat):oA Rul:=A.filter<|Fo k
structure TpW(μ0 μ:M)(d:lM)(A:oA Rul)(K:Nat×Nat->Prop)(kvs:oA<|(Nat×Nat)×lM):Prop where
 dd:μ d=some (.dt<|kvs.map kvT)
 ll:∀e∈kvs,μ e.2=oH ((rgp A e.1).map Ch)
 kk:∀k,(∃e∈kvs,e.1=k)↔K k
 uu:(kvs.map (·.1)).Nodup
 vv:(kvs.map (·.2)).Nodup
 fd:μ0 d=none
 fe:∀e∈kvs,μ0 e.2=none/\e.2≠d
 ss:Sub μ0 μ
def OB(a b:M)(d:lM)(A:oA Rul)(kvs:oA<|(Nat×Nat)×lM):Prop:=TpW a b d A (λk=>rgp A k≠[]) kvs
def P0(A:oA Rul)(a:Rul)(k:Nat×Nat):rgp (A++[a]) k=rgp A k++(if Fo k a then [a] else []):=by unfold rgp;rw[dL,fF,List.filter_nil]
def P7(a:Rul):Fo (a.p,a.x) a=true:=by unfold Fo;simp
def AY{a:Rul}{k:Nat×Nat}(h:k≠(a.p,a.x)):Fo k a=false:=by unfold Fo;rw[<- j_];exact aL λc=>h<|kK c.1.symm c.2.symm
abbrev nRt:oA Str:=["game","tops","rule"]
def OC:FnScope nRt oQ (Ad PU):=Bm<|by decide +kernel
def XG:ASp:=λe c R=>∃(g:Gam),e=[.D<|B6 g]/\g.rs.length<=300/\∀d b a,OB c a d g.rs b->R (.R d) a
def XI{n:Nat}(F:Fun K "rules_by_top" "rules_by_top" PU f fd):FnOk P w K mg base Dz (n+1) f fd oQ (Fb K 1 XG):=by
 refine F.vok OC λap A V s H E hr=>⟨_,(Af (Aq (i:=1) OC.nd rfl oI E5)<|Af (Cc aO rfl (Bc<|Az Be (vv 0) Ah) (Aj (i:=2) OC.nd rfl oI)<|Af (Bu<|Y2 (B9 hr) (vv 1) (Bv (vv 2) Cd<|B3 Ah)<|Cf Ae)<|Ai<|Bu<|E4 cQ cU Dx (Du (B9 hr) (vv 1)<|Bv (vv 2) Cd<|B3 Ah)<|Aa (vv 2) Ae)<|Ai<|A6<|vv 1),?_⟩
 rintro xs U R _ ⟨g,rfl,hn,q⟩;generalize X:g.rs=A at hn q;have S:∀ ν:M,items ν (.D<|.tuple<|A.map Co)=some (A.map Ch):=λν=>by show some ((A.map Co).map AV.D)=_;rw[aB];rfl
 have jc:atI ([.tuple<|g.pl.map N3,.tuple<|g.le.map .str,.tuple<|g.rs.map Co]:oA lL) (2:Int)=some (.tuple<|A.map Co):=by rw[X];rfl
 intro d hd;refine A0 (λI u=>∃O,∃j:oA<|(Nat×Nat)×lM,I=[oG<|B6 g,oE d,O]/\OB U u d A j) (λZ hZ=>?_) ?_;refine Ac jc<|Ac (S _) ?_;refine C5 (λi I u=>∃O,∃j:oA<|(Nat×Nat)×lM,I=[oG<|B6 g,oE d,O]/\j.length<=i/\OB U u d (A.take i) j) ⟨none,[],rfl,bH _,⟨Ab,(λ_ h=>nomatch h),λk=>⟨(by rintro ⟨_,h,_⟩;exact nomatch h),λh=>absurd rfl h⟩,bO,bO,hd,(λ_ h=>nomatch h),Sub.refl.new hd⟩⟩ (λ_ _ _ _=>S _) ?_ ?_;rintro i v I l Z2 hv ⟨O,j,rfl,N,T⟩ hZ2;rw[M_]at hv;obtain⟨a,ha,rfl⟩:=J_.mp hv;have hi:=(D_.mp ha).1;have bt:A.take (i+1)=A.take i++[a]:=by rw[aS,ha];rfl
 generalize hB:A.take i=B at T bt;refine A0 (λI u=>∃j:oA<|(Nat×Nat)×lM,I=[oG<|B6 g,oE d,some<|Ch a]/\j.length<=i+1/\TpW U u d B (λk=>rgp B k≠[]\/k=(a.p,a.x)) j) (λZ3 cv=>?_) ?_;refine⟨⟨_,T.dd,trivial⟩,λz hz=>Ac (x:=[.inl (a.p:Nat),.inl (a.x:Nat)]) rfl ?_⟩;have J:Sub l (Ao l z<|.lst []):=Sub.refl.new hz;have ez:Ao l z (.lst []) z=oH []:=Ab;have zd:z≠d:=by rintro rfl;rw[T.dd]at hz;cases hz
 have z0:U z=none:=T.ss.none hz;have zk:∀e∈j,e.2≠z:=λe he c=>by have:=T.ll e he;rw[c,hz]at this;cases this
 generalize Ao l z (.lst [])=t at J ez;refine Ac (J _ _ T.dd) ⟨A8<|by rw[B_];omega,λv hv=>?_,λhv=>?_⟩;have Y:∃e∈j,e.1=(a.p,a.x):=bS λQ=>by rw[Ij (k:=(a.p,a.x)) λe he c=>Q ⟨e,he,c⟩]at hv;cases hv
 refine cv _ _ ⟨j,rfl,bA N,⟨J _ _ T.dd,λe he=>J _ _<|T.ll e he,λk=>?_,T.uu,T.vv,T.fd,T.fe,λb m hb=>J b m<|T.ss b m hb⟩⟩;rw[T.kk];refine⟨.inl,λc=>c.elim id λc=>?_⟩;rw[c];exact(T.kk _).mp Y;have Q:∀e∈j,e.1≠(a.p,a.x):=λe he c=>by have:=Gv T.uu he;rw[c]at this;rw[this]at hv;cases hv
 rw[Gj (k:=(a.p,a.x)) Q];have g0:rgp B (a.p,a.x)=[]:=bS λc=>by obtain⟨e,he,h⟩:=(T.kk _).mpr c;exact Q e he h
 have ne:∀{b:lM},b≠d->Ao t d (.dt<|(j++[((a.p,a.x),z)]).map kvT) b=t b:=λh=>Ag h;refine cv _ _ ⟨j++[((a.p,a.x),z)],rfl,by rw[N_];show j.length+1<=_;exact gD N,⟨Ab,λe he=>?_,λk=>?_,?_,?_,T.fd,λe he=>?_,λb m hb=>?_⟩⟩;rcases R_.mp he with he|he;rw[ne (T.fe e he).2];exact J _ _<|T.ll e he;rw[G_.mp he,ne zd,g0];exact ez;constructor;rintro⟨e,he,rfl⟩;rcases R_.mp he with he|he;exact .inl<|(T.kk _).mp ⟨e,he,rfl⟩;rw[G_.mp he];exact .inr rfl;rintro(h|rfl);obtain⟨e,he,h⟩:=(T.kk k).mpr h;exact⟨e,aF _ he,h⟩;exact⟨((a.p,a.x),z),by simp,rfl⟩;rw[L_,bB];refine⟨T.uu,by simp,λx hx y hy e=>?_⟩;obtain⟨e',W,rfl⟩:=E_.mp hx;have hy:y=(a.p,a.x):=by simpa using hy
 exact Q e' W<|e.trans hy
 rw[L_,bB];refine⟨T.vv,by simp,λx hx y hy e=>?_⟩;obtain⟨e',W,rfl⟩:=E_.mp hx;have hy:y=z:=by simpa using hy
 exact zk e' W<|e.trans hy
 rcases R_.mp he with he|he;exact T.fe e he;rw[G_.mp he];exact⟨z0,zd⟩;rw[Ag<|by rintro rfl;rw[T.fd]at hb;cases hb];exact J b m<|T.ss b m hb;clear N T;rintro I t ⟨j,rfl,N,T⟩;obtain⟨C,r,G⟩:=(T.kk (a.p,a.x)).mpr<|.inr rfl;have j2:=Gv T.uu r;rw[G]at j2;have ly:=T.ll C r;have ed:dget (.dt<|j.map kvT) (.tuple [.int (a.p:Nat),.int (a.x:Nat)])=some (some<|AV.R C.2):=by show some (Cs (j.map kvT) [.inl (a.p:Nat),.inl (a.x:Nat)])=_;rw[j2]
 refine Ac T.dd<|Ac ed<|Ac (x:=AV.R C.2) rfl ⟨Ac ly trivial,Ac ly ⟨?_,hZ2 _ _ ⟨_,j,rfl,N,?_⟩⟩⟩;rw[B_];refine A8 ?_;unfold rgp;have:=bX (Fo C.1) B;rw[<- hB,aU]at this;rw[<- hB];omega;rw[bt];have ne:∀{b:lM} {o:MO},b≠C.2->Ao t C.2 o b=t b:=λh=>Ag h;refine⟨by rw[ne (T.fe C r).2.symm];exact T.dd,λe he=>?_,λk=>?_,T.uu,T.vv,T.fd,T.fe,λb m hb=>?_⟩;rw[P0];by_cases L:e.1=(a.p,a.x);have:e=C:=Py T.uu he r<|L.trans G.symm;subst this;rw[Ab,G,P7,P_ rfl,L_];rfl;have:e.2≠C.2:=λc=>L (by rw[Mh T.vv he r c];exact G);rw[ne this,AY L,H_ U_,cH];exact T.ll e he;rw[T.kk,P0];by_cases hk:k=(a.p,a.x);rw[hk,P7,P_ rfl];exact⟨λ_=>by simp,λ_=>.inr rfl⟩;rw[AY hk,H_ U_,cH];exact⟨λc=>c.elim id λc=>absurd c hk,.inl⟩;rw[ne<|by rintro rfl;rw[(T.fe C r).1]at hb;cases hb];exact T.ss b m hb;rintro I l ⟨O,j,rfl,N,T⟩;rw[B_,aN]at T;exact hZ _ _ ⟨_,j,rfl,T⟩;rintro I l ⟨O,j,rfl,T⟩;exact⟨_,Sub.refl,q d j l T⟩
def hnd(g:Gam)(k:Nat×Nat):Nat:=(g.pl.map (·.2)).getD k.1 0
abbrev Tops:=Nat×Nat->oA Pr
def Lh(G:Tops)(s:Nat):oA Nat->oA Pr
 |[]=>[(0,bts [s])]
 |[x]=>G (s,x)
 |x::y::_=>(G (s,x)).flatMap λp=>(cho<|(Cr p.2).map λt=>G (t,y)).map λq=>(p.1+q.1,q.2)
def Gk(g:Gam)(G:Tops)(k:Nat×Nat):oA Pr:=if hnd g k=1 then cho ((rgp g.rs k).map λr=>Lh G r.q r.w) else((rgp g.rs k).map λr=>Lh G r.q r.w).flatten
def Eh(G:Tops)(E:oA Nat):oA Nat->Nat->Prop
 |[],s=>s∈E
 |x::v,s=>∃p∈G (s,x),∀t∈Cr p.2,Eh G E v t
inductive Pre (g:Gam) (S:Nat->oA Nat->Prop):Nat->oA Nat->Prop where
 |say {p:Nat} {w:oA Nat}:p<g.pl.length->S p w->Pre g S p w
 |one {p x:Nat} {v:oA Nat} {r:Rul}:r∈rgp g.rs (p,x)->hnd g (p,x)≠1->Pre g S r.q (r.w++v)->Pre g S p (x::v)
 |all {p x:Nat} {v:oA Nat}:hnd g (p,x)=1->rgp g.rs (p,x)≠[]->(∀r∈rgp g.rs (p,x),Pre g S r.q<|r.w++v)->Pre g S p (x::v)
def Dm{n t:Nat}:t∈Cr n↔t<5/\n.testBit t=true:=by unfold Cr;rw[bK,dW]
def Nw(p q:Pr)(t:Nat):(ewe p q).2.testBit t=(p.2.testBit t||q.2.testBit t):=Nat.testBit_or ..
def AZ{Gs:oA<|oA Pr}{z:Pr}(hz:z∈cho Gs):∀G∈Gs,∃p∈G,∀t,p.2.testBit t=true->z.2.testBit t=true:=by
 have a:∀(Gs:oA<|oA Pr) (F:oA Pr),z∈Gs.foldl (λF G=>F.flatMap λp=>G.map<|ewe p) F->(∃f∈F,∀t,f.2.testBit t=true->z.2.testBit t=true)/\∀G∈Gs,∃p∈G,∀t,p.2.testBit t=true->z.2.testBit t=true:=by
  intro Gs
  induction Gs with
  |nil=>exact λF h=>⟨⟨z,h,λ_ h=>h⟩,λ_ h=>nomatch h⟩
  |cons G Gs g=>intro F h;obtain⟨⟨f,b,h1⟩,h2⟩:=g _ h;obtain⟨y,hy,b⟩:=dE.mp b;obtain⟨o,d,rfl⟩:=E_.mp b;refine⟨⟨y,hy,λt c=>h1 t<|by rw[Nw,c];rfl⟩,λe hG=>?_⟩;rcases aK.mp hG with rfl|hG;exact⟨o,d,λt c=>h1 t<|by rw[Nw,c,Bool.or_true]⟩;exact h2 e hG
 exact(a Gs _ hz).2
def BA{Q:Nat->Prop}{Gs:oA<|oA Pr}(h:∀G∈Gs,∃p∈G,∀t∈Cr p.2,Q t):∃z∈cho Gs,∀t∈Cr z.2,Q t:=by
 have a:∀(Gs:oA<|oA Pr) (F:oA Pr),(∀G∈Gs,∃p∈G,∀t∈Cr p.2,Q t)->(∃f∈F,∀t∈Cr f.2,Q t)->∃z∈Gs.foldl (λF G=>F.flatMap λp=>G.map<|ewe p) F,∀t∈Cr z.2,Q t:=by
  intro Gs
  induction Gs with
  |nil=>exact λF _ h=>h
  |cons G Gs g=>intro F h d;obtain⟨f,i,h1⟩:=d;obtain⟨p,hp,h2⟩:=h G<|.head _;refine g _ (λe hG=>h e<|.tail _ hG) ⟨ewe f p,dE.mpr ⟨f,i,E_.mpr ⟨p,hp,rfl⟩⟩,λt b=>?_⟩;obtain⟨c,hb⟩:=Dm.mp b;rw[Nw,gM]at hb;exact hb.elim (λhb=>h1 t<|Dm.mpr ⟨c,hb⟩) λhb=>h2 t<|Dm.mpr ⟨c,hb⟩
 exact a Gs _ h ⟨(0,0),.head _,λt b=>absurd (Dm.mp b).2<|by rw[Nat.zero_testBit];decide⟩
def BB{s:Nat}(b:s<5):Cr (bts [s])=[s]:=by
 have a:∀i:_root_.Fin 5,Cr (bts [i.val])=[i.val]:=by decide +kernel
 exact a ⟨s,b⟩
def P8(G:Tops)(L:Nat->oA Nat->Prop):Prop:=∀k,∀p∈G k,∀v,(∀t∈Cr p.2,L t v)->L k.1 (k.2::v)
def FQ{G:Tops}{L:Nat->oA Nat->Prop}(h:P8 G L){s:Nat}(b:s<5){u:oA Nat}(hu:u.length<=2){z:Pr}(hz:z∈Lh G s u){v:oA Nat}(hv:∀t∈Cr z.2,L t v):L s (u++v):=by
 match u,hu with
 |[],_=>rw[G_.mp hz,BB b]at hv;exact hv s (.head _)
 |[x],_=>exact h (s,x) z hz v hv
 |[x,y],_=>obtain⟨p,hp,hz⟩:=dE.mp hz;obtain⟨q,hq,rfl⟩:=E_.mp hz;refine h (s,x) p hp (y::v) λt c=>?_;obtain⟨o,a,hb⟩:=AZ hq _<|E_.mpr ⟨t,c,rfl⟩;exact h (t,y) o a v λi hi=>hv i<|Dm.mpr ⟨(Dm.mp hi).1,hb i (Dm.mp hi).2⟩
def Ti{G:Tops}{E:oA Nat}{s:Nat}(c:s<5){u:oA Nat}(hu:u.length<=2){v:oA Nat}(h:Eh G E (u++v) s):∃z∈Lh G s u,∀t∈Cr z.2,Eh G E v t:=by
 match u,hu with
 |[],_=>refine⟨(0,bts [s]),.head _,λt a=>?_⟩;rw[BB c]at a;rw[G_.mp a];exact h
 |[x],_=>exact h
 |[x,y],_=>
  obtain⟨p,hp,h⟩:=h;obtain⟨q,hq,hb⟩:=BA (Q:=Eh G E v) (Gs:=(Cr p.2).map λt=>G (t,y)) λK b=>by obtain⟨t,a,rfl⟩:=E_.mp b;exact h t a
  exact⟨(p.1+q.1,q.2),dE.mpr ⟨p,hp,E_.mpr ⟨q,hq,rfl⟩⟩,hb⟩
structure RgOk(g:Gam):Prop where
 p:g.pl.length<=5
 q:∀r∈g.rs,r.q<g.pl.length/\r.w.length<=2
def LPre(g:Gam)(S:Nat->oA Nat->Prop)(s:Nat)(w:oA Nat):Prop:=(s<g.pl.length/\Pre g S s w)\/(g.pl.length<=s/\S s w)
def FR{g:Gam}(d:RgOk g){S:Nat->oA Nat->Prop}{G:Tops}(h:P8 G<|LPre g S){k:Nat×Nat}(hk:k.1<g.pl.length)(hn:rgp g.rs k≠[]){z:Pr}(hz:z∈Gk g G k){v:oA Nat}(hv:∀t∈Cr z.2,LPre g S t v):LPre g S k.1 (k.2::v):=by
 have b:∀r∈rgp g.rs k,∀y∈Lh G r.q r.w,(∀t∈Cr y.2,LPre g S t v)->Pre g S r.q (r.w++v):=λr b y hy hv=>by obtain⟨h1,h2⟩:=d.q r (bK.mp b).1;have:=d.p;exact(FQ h (by omega) h2 hy hv).elim (λz=>z.2) λz=>absurd h1<|by omega
 unfold Gk at hz;split at hz;rename_i c;refine .inl ⟨hk,.all c hn λr a=>?_⟩;obtain⟨y,hy,hb⟩:=AZ hz _<|E_.mpr ⟨r,a,rfl⟩;exact b r a y hy λt e=>hv t<|Dm.mpr ⟨(Dm.mp e).1,hb t (Dm.mp e).2⟩;rename_i c;obtain⟨K,i,hz⟩:=lB.mp hz;obtain⟨r,a,rfl⟩:=E_.mp i;exact .inl ⟨hk,.one a c<|b r a z hz hv⟩
theorem Tj{G:Tops}{E:oA Nat}{L:Nat->oA Nat->Prop}(h:P8 G L)(b:∀s∈E,L s []):∀{w:oA Nat} {s:Nat},Eh G E w s->L s w
 |[],s,a=>b s a
 |x::v,s,⟨p,hp,a⟩=>h (s,x) p hp v λt c=>Tj h b<|a t c
def Under(P Q:oA Pr):Prop:=∀y∈P,∃z∈Q,∀t∈Cr z.2,t∈Cr y.2
theorem Mi{G K:Tops}{E:oA Nat}(h:∀k,Under (G k)<|K k):∀{w:oA Nat} {s:Nat},Eh G E w s->Eh K E w s
 |[],_,a=>a
 |x::_,s,⟨p,hp,a⟩=>by obtain⟨z,hz,hb⟩:=h (s,x) p hp;exact⟨z,hz,λt b=>Mi h<|a t<|hb t b⟩
def FS{g:Gam}(l:RgOk g){B G:Tops}{E:oA Nat}(h1:∀k,Under (B k)<|G k)(h2:∀k,rgp g.rs k≠[]->Under (Gk g G k) (G k)){p:Nat}{w:oA Nat}(h:Pre g (λp w=>Eh B E w p) p w):Eh G E w p:=by
 have d:∀k,∀r∈rgp g.rs k,r.q<5/\r.w.length<=2:=λk r d=>by obtain⟨a,b⟩:=l.q r (bK.mp d).1;have:=l.p;exact⟨by omega,b⟩
 have m:∀{p x:Nat} {v:oA Nat} {y:Pr},rgp g.rs (p,x)≠[]->y∈Gk g G (p,x)->(∀t∈Cr y.2,Eh G E v t)->Eh G E (x::v) p:=λ{p x v y} i hy hv=>by obtain⟨z,hz,hb⟩:=h2 (p,x) i y hy;exact⟨z,hz,λt o=>hv t<|hb t o⟩
 induction h with
 |say _ s=>exact Mi h1 s
 |@one p x v r c e _ j=>obtain⟨a,b⟩:=d _ r c;obtain⟨y,hy,hv⟩:=Ti a b j;refine m (λz=>by rw[z]at c;cases c) (?_:y∈_) hv;unfold Gk;rw[H_ e];exact lB.mpr ⟨_,E_.mpr ⟨r,c,rfl⟩,hy⟩
 |@all p x v e i _ j=>
  obtain⟨y,hy,hv⟩:=BA (Q:=Eh G E v) (Gs:=(rgp g.rs (p,x)).map λr=>Lh G r.q r.w) λK n=>by obtain⟨r,c,rfl⟩:=E_.mp n;obtain⟨a,b⟩:=d _ r c;exact Ti a b<|j r c
  refine m i (?_:y∈_) hv;unfold Gk;rw[P_ e];exact hy
def Rv{g:Gam}(d:RgOk g){B G:Tops}{E:oA Nat}(h1:∀k,Under (B k)<|G k)(h2:∀k,rgp g.rs k≠[]->Under (Gk g G k) (G k))(c:P8 G<|LPre g λp w=>Eh B E w p){p:Nat}(hp:p<g.pl.length)(w:oA Nat):Eh G E w p↔Pre g (λp w=>Eh B E w p) p w :=
 ⟨λa=>(Tj c (λs b=>(gH s g.pl.length).elim (λh=>.inl ⟨h,.say h b⟩) λh=>.inr ⟨h,b⟩) a).elim (λz=>z.2) λz=>absurd hp<|jN z.1,FS d h1 h2⟩
def FT{g:Gam}{B:Tops}{E:oA Nat}(h:∀k,∀p∈B k,∀t∈Cr p.2,g.pl.length<=t):P8 B (LPre g λp w=>Eh B E w p):=λk p hp v hv=>by have a:Eh B E (k.2::v) k.1:=⟨p,hp,λt b=>(hv t b).elim (λz=>absurd (h k p hp t b)<|Nat.not_le_of_lt z.1) λz=>z.2⟩;rcases gH k.1 g.pl.length with hk|hk;exact .inl ⟨hk,.say hk a⟩;exact .inr ⟨hk,a⟩
structure TopK(μ:M)(d:lM)(G:Tops):Prop where
 at':∃kvs:oA<|(Nat×Nat)×lM,μ d=some (.dt<|kvs.map kvT)/\(∀e∈kvs,μ e.2=oH ((G e.1).map A7))/\(∀k,(∀e∈kvs,e.1≠k)->G k=[])/\(kvs.map (·.1)).Nodup
def TopK.sub{b c:M}{d:lM}{G:Tops}(h:TopK b d G)(S:Sub b c):TopK c d G:=by obtain⟨a,h1,h2,g,i⟩:=h.at';exact⟨a,S _ _ h1,λe he=>S _ _<|h2 e he,g,i⟩
def Nx(G:Tops):Prop:=∀k,(G k).length<=32/\∀z∈G k,z.2<32
def Ik{i a:M}{d:lM}{G:Tops}{td ty:AE}{τ:ASt}{R:AV->M->Prop}(h:TopK i d G)(m:Sub i a)(p x:Nat)(o:∀Q:AV->M->Prop,Q (.R d) a->td τ a Q)(r:∀Q:AV->M->Prop,Q (.D<|.tuple [.int (p:Nat),.int (x:Nat)]) a->ty τ a Q)(q:∀l g,g l=oH ((G (p,x)).map A7)->Sub a g->(i l≠none\/a l=none)->R (.R l) g):Yn td ty (RV KH) τ a R:=by obtain⟨b,h1,h2,n,s⟩:=h.at';refine o _ ⟨⟨_,m _ _ h1,trivial⟩,r _ λz hz=>?_⟩;have S:Sub a (Ao a z<|.lst []):=Sub.refl.new hz;refine Ac (S _ _<|m _ _ h1) ?_;by_cases hk:∀e∈b,e.1≠(p,x);have j:=Ij (k:=(p,x)) hk;refine Ac (x:=none) (by show some (Cs (b.map kvT) [.inl (p:Nat),.inl (x:Nat)])=_;rw[j])<|q z _ ?_ S<|.inr hz;rw[Ab,n _ hk];rfl;obtain⟨e,he,hex⟩:∃e∈b,e.1=(p,x):=bS λc=>hk λe he z=>c ⟨e,he,z⟩;have j:=Gv s he;rw[hex]at j;refine Ac (x:=some<|AV.R e.2) (by show some (Cs (b.map kvT) [.inl (p:Nat),.inl (x:Nat)])=_;rw[j]) (show R (AV.R e.2) _ from q e.2 _ ?_ S<|.inl λc=>by rw[h2 e he]at c;cases c);have:=S _ _<|m _ _<|h2 e he;rw[hex]at this;exact this
theorem Rw:∀{ts:oA Nat},(∀t∈ts,t<5)->∀{b:Nat},b<32->ts.foldl (λb k=>b ||| 2^k) b<32
 |[],_,_,hb=>hb
 |t::ts,h,b,hb=>by refine Rw (ts:=ts) (λu hu=>h u<|aE _ hu) ?_;have a:=h t aR;exact Nat.or_lt_two_pow (n:=5) hb<|Nat.pow_lt_pow_right (by decide) a
def ZB(G:Tops)(y b:Nat):oA Pr:=cho<|(Cr b).map λt=>G (t,y)
def XJ(G:Tops)(y:Nat)(f r:lM)(kvs:oA<|Key×AV)(b:M):Prop:=∀(k:Nat) v,Cs kvs (.inl (k:Nat))=some v->∃(a:lM) (ys:oA Pr),v=.R a/\a≠f/\a≠r/\b a=oH (ys.map A7)/\Cv (ZB G y k) ys
structure Cw(P zs:oA Pr):Prop where
 m:∀z∈zs,z∈P
 c:∀y∈P,∃z∈zs,Wn z y
 b:∀z∈zs,z.2<32
def Cw.thin{P zs d:oA Pr}(h:Cw P zs)(k:CvA zs d):Cv P d:=⟨λu hu=>h.m u<|k.m u hu,λy hy=>by obtain⟨z,hz,a⟩:=h.c y hy;obtain⟨u,hu,b⟩:=k.c z hz;exact⟨u,hu,b.trans a⟩,k.u,λu hu=>h.b u<|k.m u hu⟩
def Cw.app{P Q zs ys:oA Pr}(h:Cw P zs)(k:Cw Q ys):Cw (P++Q) (zs++ys):=by refine⟨λz hz=>?_,λy hy=>?_,λz hz=>(R_.mp hz).elim (h.b z)<|k.b z⟩;exact R_.mpr<|(R_.mp hz).imp (h.m z)<|k.m z;rcases R_.mp hy with hy|hy;obtain⟨z,hz,e⟩:=h.c y hy;exact⟨z,aF _ hz,e⟩;obtain⟨z,hz,e⟩:=k.c y hy;exact⟨z,aT _ hz,e⟩
def Cv.up{P zs:oA Pr}(h:Cv P zs)(c:Nat):Cw (P.map λq=>(c+q.1,q.2)) (zs.map λq=>(c+q.1,q.2)):=by refine⟨λz hz=>?_,λy hy=>?_,λz hz=>?_⟩;obtain⟨q,hq,rfl⟩:=E_.mp hz;exact E_.mpr ⟨q,h.m q hq,rfl⟩;obtain⟨q,hq,rfl⟩:=E_.mp hy;obtain⟨z,hz,e⟩:=h.c q hq;exact⟨_,E_.mpr ⟨z,hz,rfl⟩,e⟩;obtain⟨q,hq,rfl⟩:=E_.mp hz;exact h.b q hq
abbrev nRb:oA Str:=["tops","stand","w","least","firsts","found","rests","cost","bits"]
def Vz:FnScope nRb qT (Ad HG):=Bm<|by decide +kernel
def XL:(["target","tops","w"]:oA Str).Nodup:=by decide +kernel
def HS:(yI:oA Str).Nodup:=by decide +kernel
def XM:ASp:=λb a R=>∃(d:lM) (G:Tops) (s:Nat) (w:oA Nat),b=[.R d,.D<|.int (s:Nat),.D<|Bq w,.D<|.bool true]/\TopK a d G/\Nx G/\s<5/\w.length<=2/\∀(zs:oA Pr) (l:lM) μ',Cv (Lh G s w) zs->a l=none->μ' l=oH (zs.map A7)->Sub a μ'->R (.R l) μ'
def XN{n:Nat}(F:Fun K "readings_by" "readings_by" HG f fd) (cAb:VCal P w K mg base n "as_bits" qH NR) (cAs:VCal P w K mg base n "as_stands" oY NS) (pg:VCal P w K mg base n "thinned" oS FO) (zo:VCal P w K mg base n "one_of_each" oN NZ) (ag:mg "len" = none):FnOk P w K mg base Dz (n+1) f fd qT (Fb K 4 XM):=by
 refine F.vok Vz λap A outer s H E L=>⟨_,(Af (Cl (Bd (Eo L) (Av B1 rfl ag aG<|Aa (vv 2) Ae) Ah<|nomark _) (Ai<|A6<|Cf<|Aa (Br<|Aa Ah<|Aa (Al cAb L rfl<|Aa (Br<|Aa (vv 1) Ae) Ae) Ae) Ae) Bi)<|Af (Aq (i:=4) Vz.nd rfl oI<|Ia (B9 L) (vv 0) (Br<|Aa (vv 1)<|Aa (Az Be (vv 2) Ah) Ae)<|Cf Ae)<|Af (Cl (Bd (Eo L) (Av B1 rfl ag aG<|Aa (vv 2) Ae) Ah<|nomark _) (Ai<|A6<|Al pg L rfl<|Aa (vv 4)<|Aa (vv 3) Ae) Bi)<|Af (Aq (i:=5) Vz.nd rfl oI<|Cf Ae)<|Af (Aq (i:=6) Vz.nd rfl oI Kh)<|Af (Cc aO rfl (Bc<|vv 4) (Ds (n:=2) rfl<|Ay (Aj (i:=7) Vz.nd rfl oJ)<|Ay (Aj (i:=8) Vz.nd rfl oI) B8)<|Af (Cl (Uw (B9 L) (vv 8)<|vv 6) (Ai<|Di (B9 L) (vv 6) (vv 8)<|Al zo L rfl<|Aa (Bg (N':=["target","tops","w"]) (mp:=[none,some 0,some 2]) rfl (Bc<|Al cAs L rfl<|Aa (vv 8) Ae) (λ_ _ _ _=>(Aj (i:=0) XL rfl oI oJ)) (λ_ _ _ _=>Bl) (λ_ _ _ _=>(Ia (B9 L) (vv 1) (Br<|Aa (vv 0)<|Aa (Az Be (vv 2) Ah) Ae)<|Cf Ae))<|Aw (N:=nRb) (pn:=(Ad HG).names)<|by decide +kernel)<|Aa (vv 3) Ae) Bi)<|Ai<|Bu<|E4 eM eO F0 (vv 5)<|Aa (Bg (N':=yI) (mp:=[none,none,some 7]) rfl (Bc<|Du (B9 L) (vv 6)<|vv 8) (λ_ _ _ _=>(Ds (n:=2) rfl<|Ay (Aj (i:=0) HS rfl oI oJ)<|Ay (Aj (i:=1) HS rfl oI oJ) B8)) (λ_ _ _ _=>Bl) (λ_ _ _ _=>(Br<|Aa (Ba Cj (vv 2)<|vv 0)<|Aa (vv 1) Ae))<|Aw (N:=nRb) (pn:=(Ad HG).names)<|by decide +kernel) Ae)<|Ai<|A6<|Al pg L rfl<|Aa (vv 5)<|Aa (vv 3) Ae),?_⟩
 rintro xs μ R _ ⟨d,O,s,w,rfl,hT,hB,hs,hw,q⟩
 match w,hw,q with
 |[],_,q=>refine Ca ⟨B0 _,B0 _,L3 rfl ⟨_,[s],rfl,rfl,λt h=>by rw[G_.mp h];omega,λl hl=>⟨_,Sub.refl,q [(0,bts [s])] l _ ⟨λz hz=>hz,λy hy=>⟨y,hy,Wn.refl y⟩,by simp,λz hz=>by rw[G_.mp hz];exact Rw (ts:=[s]) (λt h=>by rw[G_.mp h];exact hs)<|by decide⟩ hl Ab<|Sub.refl.new hl⟩⟩⟩
 |[x],_,q=>refine Ca ⟨B0 _,B0 _,Kd rfl ?_⟩;refine Ca<|Ik hT Sub.refl s x (λQ h=>h) (λQ h=>Ac (x:=PyData.int (x:Nat)) rfl h) λl J hl S hlo=>?_;refine Ca ⟨B0 _,B0 _,L3 rfl ?_⟩;obtain⟨hg,hgb⟩:=hB (s,x);exact⟨l,O (s,x),rfl,hl,by omega,hgb,λzs p μ2 C hp e2 S2=>⟨_,Sub.refl,q zs p μ2 ⟨C.m,C.c,C.u,λz hz=>hgb z<|C.m z hz⟩ (S.none hp) e2 λb m hb=>S2 b m<|S b m hb⟩⟩
 |[x,y],_,q=>
  refine Ca ⟨B0 _,B0 _,Kd rfl ?_⟩;refine Ca<|Ik hT Sub.refl s x (λQ h=>h) (λQ h=>Ac (x:=PyData.int (x:Nat)) rfl h) λl J hl S hlo=>?_;refine Ca ⟨B0 _,B0 _,Kd rfl ?_⟩;intro f hf r L;have S1:Sub μ (Ao J f<|.lst []):=S.new<|S.none hf;have ef:Ao J f (.lst []) f=oH []:=Ab;have fo:Ao J f (.lst []) l=oH ((O (s,x)).map A7):=Sub.refl.new hf _ _ hl;have fr:f≠r:=by rintro rfl;rw[ef]at L;cases L
  have f0:μ f=none:=S.none hf;have r0:μ r=none:=S1.none L;have S2:Sub μ (Ao (Ao J f<|.lst []) r<|.dk []):=S1.new r0;have ef2:Ao (Ao J f<|.lst []) r (.dk []) f=oH []:=by rw[Ag fr];exact ef
  have er2:Ao (Ao J f<|.lst []) r (.dk []) r=some (.dk []):=Ab;have dz:Ao (Ao J f<|.lst []) r (.dk []) l=oH ((O (s,x)).map A7):=Sub.refl.new L _ _ fo;have lf:l≠f:=by rintro rfl;rw[hf]at hl;cases hl
  have lr:l≠r:=by rintro rfl;rw[L]at fo;cases fo
  generalize Ao (Ao J f<|.lst []) r (.dk [])=μ2 at S2 ef2 er2 dz;clear fo ef S1;obtain⟨hG,hGl⟩:=hB (s,x);show Ut _ _ _ _ _ _ [oE d,oF (s:Nat),oG<|Bq [x,y],oG<|.bool true,oE l,oE f,oE r,none,none] μ2;have eq:Lh O s [x,y]=(O (s,x)).flatMap λp=>(ZB O y p.2).map λq=>(p.1+q.1,q.2):=rfl;rw[eq]at q;generalize O (s,x)=G at hG hGl q dz;refine A0 (λY B=>∃o7 o8,∃zs:oA Pr,Y=[oE d,oF (s:Nat),oG<|Bq [x,y],oG<|.bool true,oE l,oE f,oE r,o7,o8]/\B f=oH (zs.map A7)/\Cw (G.flatMap λp=>(ZB O y p.2).map λq=>(p.1+q.1,q.2)) zs/\zs.length<=1024/\Sub μ B) (λZ hZ=>?_) ?_
  ·refine Ac (Am dz) ?_;refine C5 (λi Y B=>∃o7 o8,∃(zs:oA Pr) (kvs:oA<|Key×AV),Y=[oE d,oF (s:Nat),oG<|Bq [x,y],oG<|.bool true,oE l,oE f,oE r,o7,o8]/\B f=oH (zs.map A7)/\B r=some (.dk kvs)/\B l=oH (G.map A7)/\Cw ((G.take i).flatMap λp=>(ZB O y p.2).map λq=>(p.1+q.1,q.2)) zs/\zs.length<=32*i/\kvs.length<=i/\XJ O y f r kvs B/\Sub μ B) ⟨none,none,[],[],rfl,ef2,er2,dz,⟨(λ_ h=>nomatch h),(λ_ h=>nomatch h),(λ_ h=>nomatch h)⟩,F_ _,F_ _,(λ_ _ h=>nomatch h),S2⟩ (by rintro _ _ _ ⟨_,_,_,_,_,_,_,e,_⟩;exact Am e) ?_ ?_
   ·rintro i v Y μ3 Z2 hv ⟨o7,o8,zs,kvs,rfl,e3f,e3r,e3l,hm,hzl,cu,hR,S3⟩ hZ2;rw[M_]at hv;obtain⟨⟨c,b⟩,hp,rfl⟩:=J_.mp hv;have hb:b<32:=hGl _<|aA hp;have hi:=(D_.mp hp).1;refine⟨rfl,Pt ?_⟩;dsimp only[List.set];refine A0 (λY B=>∃(kvs:oA<|Key×AV) (v:AV),Y=[oE d,oF (s:Nat),oG<|Bq [x,y],oG<|.bool true,oE l,oE f,oE r,oF (c:Nat),oF (b:Nat)]/\B f=oH (zs.map A7)/\B r=some (.dk kvs)/\B l=oH (G.map A7)/\Cs kvs (.inl (b:Nat))=some v/\kvs.length<=i+1/\XJ O y f r kvs B/\Sub μ B) (λZ3 cv=>?_) ?_
    ·refine Ac e3r<|Ac (x:=Cs kvs<|.inl (b:Nat)) rfl ?_;cases hv:Cs kvs (.inl (b:Nat)) with
     |some v=>exact Kd rfl (cv _ _ ⟨kvs,v,rfl,e3f,e3r,e3l,hv,bA cu,hR,S3⟩)
     |none=>
      refine L3 rfl ⟨b,rfl,hb,λI S4=>Ac (Df _) λX M=>?_⟩;have hTB:TopK I d O:=hT.sub λb m hb=>S4 b m<|S3 b m hb;have h5:(Cr b).length<=5:=I_ (bX _ _) (by rw[bG];exact F_ _);refine Ep (λi T τ' B=>∃o,∃ps:oA lM,τ'=[o,oE d,oG<|Bq [x,y]]/\T=ps.map .R/\ps.length=i/\(∀(j:Nat) p t,ps[j]?=some p->(Cr b)[j]?=some t->p≠X/\B p=oH ((O (t,y)).map A7))/\B X=oH T/\Sub I B) ⟨none,[],rfl,rfl,rfl,(λ_ _ _ h=>nomatch h),Ab,Sub.refl.new M⟩ (λ_ _ _ _ _=>Df _) ?_ ?_;rintro j0 v T τ' μ5 W hv' ⟨o,ps,rfl,rfl,ai,gs,e5,U⟩ hW;rw[M_]at hv';obtain⟨t,bg,rfl⟩:=J_.mp hv';have hj5:=(D_.mp bg).1;refine L3 rfl (Ik hTB U t y (λQ h=>h) (λQ h=>Ac (x:=PyData.int (y:Nat)) rfl h) λl5 μ6 ku S6 ho=>⟨S6 _ _ e5,A8<|by rw[B_];omega,hW _ _ _ ⟨_,ps++[l5],rfl,by rw[L_];rfl,by rw[N_,ai];rfl,?_,Ab,λb m hb=>?_⟩⟩);have aj:l5≠X:=by rintro rfl;rcases ho with h|h;exact h M;rw[e5]at h;cases h
      intro j p t' h1 h2;rcases gH j ps.length with h|h;rw[c_ h]at h1;obtain⟨n,e⟩:=gs j p t' h1 h2;exact⟨n,by rw[Ag n];exact S6 _ _ e⟩;rw[b_ h]at h1;have h3:=(D_.mp h1).1;rw[jG]at h3;have h4:j=j0:=by omega
      rw[show j-ps.length=0 by omega]at h1;have h6:l5=p:=bC h1;rw[h4,bg]at h2;have h7:t=t':=bC h2;rw[<- h6,<- h7];exact⟨aj,by rw[Ag aj];exact ku⟩;rw[Ag<|by rintro rfl;rw[M]at hb;cases hb];exact S6 _ _<|U _ _ hb;rintro T τ' μ5 ⟨o,ps,rfl,rfl,ai,gs,e5,U⟩;rw[B_]at ai;refine⟨.R X,ps,(Cr b).map λt=>O (t,y),rfl,Am e5,⟨by rw[B_];exact ai,λj p g h1 h2=>?_⟩,λG' hG'=>?_,λus l6 μ6 C6 hl6 e6 S6=>?_⟩;rw[M_]at h2;obtain⟨t,h3,rfl⟩:=J_.mp h2;exact(gs j p t h1 h3).2;obtain⟨t,_,rfl⟩:=E_.mp hG';exact hB (t,y);have S36:Sub μ3 μ6:=λb m hb=>S6 _ _<|U _ _<|S4 _ _ hb;have lf6:l6≠f:=by rintro rfl;rw[U _ _<|S4 _ _ e3f]at hl6;cases hl6
      have lr6:l6≠r:=by rintro rfl;rw[U _ _<|S4 _ _ e3r]at hl6;cases hl6
      have i4:=Zw kvs (.inl (b:Nat))<|.R l6;refine Ac (S36 _ _ e3r) (Ac (x:=MO.dk<|Er kvs (.inl (b:Nat))<|.R l6) rfl ⟨A8<|show kvs.length<=_ by omega,cv _ _ ⟨Er kvs (.inl (b:Nat))<|.R l6,.R l6,rfl,by rw[Ag fr];exact S36 _ _ e3f,Ab,by rw[Ag lr];exact S36 _ _ e3l,by rw[Ph,P_ rfl],by omega,λk v hk=>?_,λb m hb=>?_⟩⟩);rw[Ph]at hk;by_cases e:(Sum.inl (k:Int):Key)=.inl (b:Int);rw[P_ e]at hk;have e:k=b:=fX<|iK e;subst e;exact⟨l6,us,(bC hk).symm,lf6,lr6,by rw[Ag lr6];exact e6,C6⟩;rw[H_ e]at hk;obtain⟨a,ys,rfl,af,ar,ea,V⟩:=hR _ _ hk;exact⟨a,ys,rfl,af,ar,by rw[Ag ar];exact S36 _ _ ea,V⟩;rw[Ag<|by rintro rfl;rw[r0]at hb;cases hb];exact S36 _ _<|S3 _ _ hb
    clear cu hR;rintro Y I ⟨kvs,v,rfl,e4f,e4r,e4l,hv,cu,hR,S4⟩;obtain⟨a,ys,rfl,af,ar,ea,V⟩:=hR _ _ hv;have hyl:=V.len;refine⟨Ac e4f trivial,Ac e4r<|Ac (x:=some<|AV.R a) (by show some (Cs kvs<|.inl (b:Nat))=_;rw[hv])<|Ac (x:=AV.R a) rfl<|Ac (Am ea) λX M=>?_⟩;have pa:a≠X:=by rintro rfl;rw[M]at ea;cases ea
    have pf:f≠X:=by rintro rfl;rw[M]at e4f;cases e4f
    have p0:μ X=none:=S4.none M;refine cmap ys A7 (λq=>A7 (c+q.1,q.2)) (λY=>∃o1 o2,Y=[o1,o2,oF (c:Nat)]) ⟨none,none,rfl⟩ Ab (seven<|by omega) (λT=>Am<|by rw[Bk,Ag pa];exact ea) ?_ ?_;rintro j ⟨c2,b2⟩ τ' T W hq ⟨o1,o2,rfl⟩ hW;refine⟨rfl,Pt ?_⟩;exact hW _ ⟨_,_,rfl⟩;rw[Bk];have U:Sub I (Ao I X<|.lst<|ys.map λq=>A7 (c+q.1,q.2)):=Sub.refl.new M;have e5:Ao I X (.lst<|ys.map λq=>A7 (c+q.1,q.2)) X=oH (ys.map λq=>A7 (c+q.1,q.2)):=Ab;generalize Ao I X (.lst<|ys.map λq=>A7 (c+q.1,q.2))=μ5 at U e5;have bt:G.take (i+1)=G.take i++[(c,b)]:=by rw[aS,hp];rfl
    refine Ac (U _ _ e4f) (Ac e5 ⟨eB<|NT<|by rw[B_,B_];omega,hZ2 _ _ ⟨_,_,zs++ys.map (λq=>(c+q.1,q.2)),kvs,rfl,?_,by rw[Ag fr.symm];exact U _ _ e4r,by rw[Ag lf];exact U _ _ e4l,?_,by rw[N_,B_];omega,cu,λk v hk=>?_,λb m hb=>?_⟩⟩);rw[Ab,L_,aB];rfl;rw[bt,List.flatMap_append,List.flatMap_singleton];exact hm.app<|V.up c;obtain⟨a,ys,rfl,af,ar,ea,V⟩:=hR _ _ hk;exact⟨a,ys,rfl,af,ar,by rw[Ag af];exact U _ _ ea,V⟩;rw[Ag<|by rintro rfl;rw[f0]at hb;cases hb];exact U _ _<|S4 _ _ hb
   rintro Y μ3 ⟨o7,o8,zs,kvs,rfl,e3f,e3r,e3l,hm,hzl,cu,hR,S3⟩;rw[B_]at hm hzl;rw[aN]at hm;exact hZ _ _ ⟨_,_,zs,rfl,e3f,hm,by omega,S3⟩
  rintro Y μ3 ⟨o7,o8,zs,rfl,e3,hm,hzl,S3⟩;exact⟨f,zs,rfl,e3,by omega,hm.b,λus p I C4 hp e4 S4=>⟨_,Sub.refl,q us p I (hm.thin C4) (S3.none hp) e4 λb m hb=>S4 b m<|S3 b m hb⟩⟩
theorem BC:∀{Gs a:oA<|oA Pr} {F F':oA Pr},Paired (λc P=>Cv P c) Gs a->(∀z∈F,z∈F')->∀z∈Gs.foldl (λF G=>F.flatMap λp=>G.map<|ewe p) F,z∈a.foldl (λF G=>F.flatMap λp=>G.map<|ewe p) F'
 |_,_,_,_,.nil,h=>h
 |_,_,_,_,.cons r t,h=>by rw[fP,fP];refine BC t λz hz=>?_;obtain⟨p,hp,hz⟩:=dE.mp hz;obtain⟨o,b,rfl⟩:=E_.mp hz;exact dE.mpr ⟨p,h p hp,E_.mpr ⟨o,r.m o b,rfl⟩⟩
theorem BD:∀{Gs b:oA<|oA Pr} {F F':oA Pr},Paired (λl P=>Cv P l) Gs b->(∀y∈F',∃z∈F,Wn z y)->∀y∈b.foldl (λF G=>F.flatMap λp=>G.map<|ewe p) F',∃z∈Gs.foldl (λF G=>F.flatMap λp=>G.map<|ewe p) F,Wn z y
 |_,_,_,_,.nil,h=>h
 |_,_,_,_,.cons r t,h=>by rw[fP,fP];refine BD t λy hy=>?_;obtain⟨p,hp,hy⟩:=dE.mp hy;obtain⟨o,e,rfl⟩:=E_.mp hy;obtain⟨d,g,i⟩:=h p hp;obtain⟨a,j,k⟩:=r.c o e;exact⟨ewe d a,dE.mpr ⟨d,g,E_.mpr ⟨a,j,rfl⟩⟩,AU i k⟩
def OD{Gs a:oA<|oA Pr}(h:Paired (λzs P=>Cv P zs) Gs a){zs:oA Pr}(C:Cv (cho Gs) zs):Cv (cho a) zs:=by refine⟨λz hz=>?_,λy hy=>?_,C.u,C.b⟩;exact BC h (F:=[(0,0)]) (F':=[(0,0)]) (λz hz=>hz) z<|C.m z hz;obtain⟨u,hu,e⟩:=BD h (F:=[(0,0)]) (F':=[(0,0)]) (λz hz=>⟨z,hz,Wn.refl z⟩) y hy;obtain⟨z,hz,d⟩:=C.c u hu;exact⟨z,hz,d.trans e⟩
theorem Tk:∀{Gs a:oA<|oA Pr},Paired (λd P=>Cv P d) Gs a->Cw a.flatten Gs.flatten
 |_,_,.nil=>⟨(λ_ h=>nomatch h),(λ_ h=>nomatch h),(λ_ h=>nomatch h)⟩
 |_,_,.cons r t=>by rw[kQ,kQ];exact Cw.app ⟨r.m,r.c,r.b⟩<|Tk t
def FU{Gs a:oA<|oA Pr}(h:Paired (λzs P=>Cv P zs) Gs a){zs:oA Pr}(C:Cv Gs.flatten zs):Cv a.flatten zs:=by have k:=Tk h;refine⟨λz hz=>?_,λy hy=>?_,C.u,C.b⟩;exact k.m z<|C.m z hz;obtain⟨u,hu,e⟩:=k.c y hy;obtain⟨z,hz,d⟩:=C.c u hu;exact⟨z,hz,d.trans e⟩
def up1(z:Pr):Pr:=(z.1+1,z.2)
def Cv.up1{P zs:oA Pr}(h:Cv P zs):Cv (P.map up1) (zs.map up1):=by refine⟨λz hz=>?_,λy hy=>?_,by rw[aB];exact h.u,λz hz=>?_⟩;obtain⟨u,hu,rfl⟩:=E_.mp hz;exact E_.mpr ⟨u,h.m u hu,rfl⟩;obtain⟨u,hu,rfl⟩:=E_.mp hy;obtain⟨z,hz,e⟩:=h.c u hu;exact⟨_,E_.mpr ⟨z,hz,rfl⟩,e⟩;obtain⟨u,hu,rfl⟩:=E_.mp hz;exact h.b u hu
structure GqOk(g:Gam):Prop where
 p:g.pl.length<=5
 r:g.rs.length<=8
 ok:∀r∈g.rs,r.p<g.pl.length/\r.q<5/\r.w.length<=2
structure FlwK(μ0 μ:M)(d:lM)(g:Gam)(G Pf:Tops)(kvs:oA<|(Nat×Nat)×lM):Prop where
 dd:μ d=some (.dt<|kvs.map kvT)
 ll:∀e∈kvs,μ e.2=oH ((Pf e.1).map A7)/\e.2≠d
 n:kvs.length<=9
 kk:∀k,(∃e∈kvs,e.1=k)↔rgp g.rs k≠[]
 uu:(kvs.map (·.1)).Nodup
 pf:∀e∈kvs,Cv ((Gk g G e.1).map up1) (Pf e.1)
 nd:μ0 d=none
 ss:Sub μ0 μ
abbrev nFg:oA Str:=["game","tops","least","found","top","rules","groups","chosen"]
def V0:FnScope nFg qU (Ad HH):=Bm<|by decide +kernel
def XQ:(["rule","tops","least"]:oA Str).Nodup:=by decide +kernel
def HU:(yB:oA Str).Nodup:=by decide +kernel
def OE:ASp:=λi c R=>∃(g:Gam) (d:lM) (G:Tops),i=[.D<|B6 g,.R d,.D<|.bool true]/\GqOk g/\TopK c d G/\Nx G/\∀e h b a,FlwK c a e g G h b->R (.R e) a
def XS{n:Nat}(F:Fun K "following" "following" HH f fd) (cRt:VCal P w K mg base n "rules_by_top" oQ XG) (cRb:VCal P w K mg base n "readings_by" qT XM) (zo:VCal P w K mg base n "one_of_each" oN NZ) (cOa:VCal P w K mg base n "one_of_any" oN WZ) {t1:Tok} (pq:mg "OTHER_HAND" = some (.int 1 t1)):FnOk P w K mg base Dz (n+1) f fd qU (Fb K 3 OE):=by
 refine F.vok V0 λap A outer s H E hr=>⟨_,(Af (Aq (i:=3) V0.nd rfl oI E5)<|Af (Ic aO rfl (Al cRt hr rfl<|Aa (vv 0) Ae) (Ay (Aj (i:=4) V0.nd rfl oI)<|Ay (Aj (i:=5) V0.nd rfl oI) B8)<|Af (Ee (i:=6) (N':=["rule","tops","least"]) (mp:=[none,some 1,some 2]) rfl V0.nd rfl rfl (Bc<|vv 5) (λ_ _ _ _=>(Aj (i:=0) XQ rfl oI oJ)) (λ_ _ _ _=>Bl) (λ_ _ _ _=>(Al cRb hr rfl<|Aa (vv 1)<|Aa (Az Be (vv 0) Ah)<|Aa (Az Be (vv 0) Ah)<|Aa (vv 2) Ae))<|Aw (N:=nFg) (pn:=(Ad HH).names)<|by decide +kernel)<|Af (Aq (i:=7) V0.nd rfl oI<|Om (Bd (Eo hr) (Az Be (Az Be (Az Be (vv 0) Ah)<|Az Be (vv 4) Ah) Ah) (Fg rfl pq (v:=.int 1) ⟨_,rfl⟩ λ_=>Ce)<|nomark _) (Al zo hr rfl<|Aa (vv 6)<|Aa (vv 2) Ae)<|Al cOa hr rfl<|Aa (vv 6)<|Aa (vv 2) Ae)<|Ai<|Di (B9 hr) (vv 3) (vv 4)<|Bg (N':=yB) (mp:=[none,none]) rfl (Bc<|vv 7) (λ_ _ _ _=>(Ds (n:=2) rfl<|Ay (Aj (i:=0) HU rfl oI oJ)<|Ay (Aj (i:=1) HU rfl oI oJ) B8)) (λ_ _ _ _=>Bl) (λ_ _ _ _=>(Br<|Aa (Ba Cj (vv 0) Ah)<|Aa (vv 1) Ae))<|Aw (N:=nFg) (pn:=(Ad HH).names)<|by decide +kernel)<|Ai<|A6<|vv 3),?_⟩
 rintro xs μ R _ ⟨g,d,G,rfl,hg,hT,hB,q⟩;have pe:=hg.p;have hr8:=hg.r;intro f hf;refine A0 (λI t=>∃o4 o5 o6 o7 a X,I=[oG<|B6 g,oE d,oG<|.bool true,oE f,o4,o5,o6,o7]/\FlwK μ t f g G X a) (λZ hZ=>?_) ?_;refine⟨g,rfl,by omega,λdR Y S T=>Ac T.dd ?_⟩;have Sf:Sub μ (Ao μ f<|.dt []):=Sub.refl.new hf;have dR0:μ dR=none:=Sf.none T.fd;have fR:f≠dR:=by rintro rfl;have:=T.fd;rw[Ab]at this;cases this
 have S1:Sub μ (Ck S dR):=λb m hb=>by rw[Bb<|by rintro rfl;rw[dR0]at hb;cases hb];exact T.ss _ _<|Sf _ _ hb
 have ef:Ck S dR f=some (.dt<|([]:oA<|(Nat×Nat)×lM).map kvT):=by rw[Bb fR];exact T.ss _ _ Ab
 have eR:∀e∈Y,Ck S dR e.2=oH ((rgp g.rs e.1).map Ch)/\e.2≠f:=λe he=>by obtain⟨h1,h2⟩:=T.fe e he;refine⟨by rw[Bb h2];exact T.ll e he,λz=>?_⟩;rw[z,Ab]at h1;cases h1
 have cu:Y.length<=8:=by
  have:=Gp (xs:=Y.map (·.1)) (ys:=g.rs.map λr=>(r.p,r.x)) T.uu λk hk=>by obtain⟨e,he,rfl⟩:=E_.mp hk;have h1:=(T.kk e.1).mp ⟨e,he,rfl⟩;obtain⟨r,h2⟩:=dQ _ h1;obtain⟨h3,h4⟩:=bK.mp h2;refine E_.mpr ⟨r,h3,?_⟩;unfold Fo at h4;rw[Z_,aZ,aZ]at h4;exact kK h4.1 h4.2
  rw[B_,B_]at this;exact I_ this hr8
 refine Kq (λi I t=>∃o4 o5 o6 o7 a X,I=[oG<|B6 g,oE d,oG<|.bool true,oE f,o4,o5,o6,o7]/\t f=some (.dt<|a.map kvT)/\(∀e∈a,t e.2=oH ((X e.1).map A7)/\e.2≠f)/\a.map (·.1)=(Y.take i).map (·.1)/\(∀e∈a,Cv ((Gk g G e.1).map up1)<|X e.1)/\(∀e∈Y,t e.2=oH ((rgp g.rs e.1).map Ch))/\Sub μ t) ⟨none,none,none,none,[],λ_=>[],rfl,ef,(λ_ h=>nomatch h),rfl,(λ_ h=>nomatch h),λe he=>(eR e he).1,S1⟩ ?_ ?_;rintro i v I U W hv ⟨o4,o5,o6,o7,a,X,rfl,e2,hll,u,dg,hRs,S2⟩ hW;rw[M_]at hv;obtain⟨e,he,rfl⟩:=J_.mp hv;have gu:=aA he;have yq:=hRs e gu;dsimp only[Fm,Eb,Oq,List.set,kvT];refine A0 (λI t=>∃M ps Gs,I=[oG<|B6 g,oE d,oG<|.bool true,oE f,oG<|.tuple [.int (e.1.1:Nat),.int (e.1.2:Nat)],oE e.2,oE M,o7]/\t M=oH (ps.map .R)/\GrAt t ps Gs/\Paired (λy P=>Cv P y) Gs ((rgp g.rs e.1).map λr=>Lh G r.q r.w)/\(∀K∈Gs,K.length<=32/\∀p∈K,p.2<32)/\Sub U t) (λZ3 cv=>?_) ?_;have hrl:(rgp g.rs e.1).length<=8:=I_ (bX _ _) hr8;refine Ac (Am yq) λM hpl=>?_;have v4:e.2≠M:=by intro z;rw[z,hpl]at yq;cases yq
 refine Ep (λj O τ' t=>∃o,∃(ps:oA lM) (Gs:oA<|oA Pr),τ'=[o,oE d,oG<|.bool true]/\O=ps.map .R/\ps.length=j/\Gs.length=j/\(∀(k:Nat) p G,ps[k]?=some p->Gs[k]?=some G->p≠M/\t p=oH (G.map A7))/\Paired (λy P=>Cv P y) Gs (((rgp g.rs e.1).take j).map λr=>Lh G r.q r.w)/\(∀K∈Gs,K.length<=32/\∀p∈K,p.2<32)/\t M=oH O/\t e.2=oH ((rgp g.rs e.1).map Ch)/\Sub U t) ⟨none,[],[],rfl,rfl,rfl,rfl,(λ_ _ _ h=>by simp at h),.nil,(λ_ h=>nomatch h),Ab,by rw[Ag v4];exact yq,Sub.refl.new hpl⟩ (by rintro _ _ _ _ ⟨_,_,_,_,_,_,_,_,_,_,_,e3,_⟩;exact Am e3) ?_ ?_;rintro j v O τ' μ3 W2 gw ⟨o,ps,Gs,rfl,rfl,fo,dz,gs,hpr,L,e3,f3,S3⟩ hW2;rw[M_]at gw;obtain⟨r,jt,rfl⟩:=J_.mp gw;have hj:=(D_.mp jt).1;obtain⟨h1,_⟩:=bK.mp<|aA jt;obtain⟨_,hq5,hw2⟩:=hg.ok r h1;refine L3 rfl<|Ac (Ak (j:=2) rfl)<|Ac (Ak (j:=3) rfl) ⟨d,G,r.q,r.w,rfl,hT.sub<|S2.trans S3,hB,hq5,hw2,λy l J C hl e4 V=>?_⟩;have w5:l≠M:=by rintro rfl;rw[e3]at hl;cases hl
 refine⟨V _ _ e3,A8<|by rw[B_];omega,hW2 _ _ _ ⟨_,ps++[l],Gs++[y],rfl,by rw[L_];rfl,by rw[N_,fo];rfl,by rw[N_,dz];rfl,λk p G k1 k2=>?_,?_,λG hG=>?_,Ab,by rw[Ag v4];exact V _ _ f3,(S3.trans V).new hpl⟩⟩;rcases gH k ps.length with h|h;rw[c_ h]at k1;rw[c_<|by omega]at k2;obtain⟨n1,n2⟩:=gs k p G k1 k2;exact⟨n1,by rw[Ag n1];exact V _ _ n2⟩;rw[b_ h]at k1;rw[b_<|by omega]at k2;have h3:=(D_.mp k1).1;rw[jG]at h3;rw[show k-ps.length=0 by omega]at k1;rw[show k-Gs.length=0 by omega]at k2;cases k1;cases k2;exact⟨w5,by rw[Ag w5];exact e4⟩;rw[aS,jt,L_];exact jT hpr C;rcases R_.mp hG with h|h;exact L G h;rw[G_.mp h];exact⟨C.len,C.b⟩;rintro O τ' μ3 ⟨o,ps,Gs,rfl,rfl,fo,dz,gs,hpr,L,e3,f3,S3⟩;rw[B_,aN]at hpr;exact cv _ _ ⟨M,ps,Gs,rfl,e3,⟨by omega,λk p G h1 h2=>(gs k p G h1 h2).2⟩,hpr,L,S3⟩;rintro I μ3 ⟨M,ps,Gs,rfl,e3,hGr,nu,L,S3⟩;have xt:e.1.1<g.pl.length:=by obtain⟨r,h2⟩:=dQ _<|(T.kk e.1).mp ⟨e,gu,rfl⟩;obtain⟨h3,h4⟩:=bK.mp h2;unfold Fo at h4;rw[Z_,aZ,aZ]at h4;rw[<- h4.1];exact(hg.ok r h3).1
 have j8:atI (g.pl.map N3) ((e.1.1:Nat):Int)=some (N3 g.pl[e.1.1]):=Ak (by rw[M_,K_ xt];rfl);have z7:hnd g e.1=(g.pl[e.1.1]).2:=by unfold hnd;rw[cD,M_,K_ xt];rfl
 have hgl:Gs.length<=20:=by have h1:=bL nu;rw[B_]at h1;have:=bX (Fo e.1) g.rs;unfold rgp at h1;omega
 generalize g.pl[e.1.1]=pp at j8 z7;refine A0 (λI t=>∃lc,∃y:oA Pr,I=[oG<|B6 g,oE d,oG<|.bool true,oE f,oG<|.tuple [.int (e.1.1:Nat),.int (e.1.2:Nat)],oE e.2,oE M,oE lc]/\t lc=oH (y.map A7)/\Cv (Gk g G e.1) y/\Sub μ3 t) (λZ3 cv=>?_) ?_;refine Ac (Ak (j:=0) rfl)<|Ac (Ak (j:=0) rfl)<|Ac j8<|Ac (Ak (j:=1) rfl)<|ieq (λc=>?_) λc=>?_;refine⟨.R M,ps,Gs,rfl,Am e3,hGr,L,λy l J C hl e4 V=>cv _ _ ⟨l,y,rfl,e4,?_,V⟩⟩;unfold Gk;rw[P_<|by rw[z7];omega];exact OD nu C;refine⟨.R M,ps,Gs,rfl,Am e3,hGr,hgl,L,λy l J C hl e4 V=>cv _ _ ⟨l,y,rfl,e4,?_,V⟩⟩;unfold Gk;rw[H_<|by rw[z7];omega];exact FU nu C;rintro I J ⟨lc,y,rfl,e4,C,V⟩;have hz9:=C.len;have bx:∀B∈a,B.1≠e.1:=λB bd c=>by
  have h1:e.1∈(Y.take i).map (·.1):=by rw[<- u,<- c];exact E_.mpr ⟨B,bd,rfl⟩
  have h2:((Y.take<|i+1).map (·.1)).Nodup:=T.uu.sublist<|(eX _ _).map _;rw[aS,he,L_,bB]at h2;exact h2.2.2 _ h1 e.1 (by simp) rfl
 refine Ac (Am e4) λpn i4=>?_;have lcn:lc≠pn:=by rintro rfl;rw[e4]at i4;cases i4
 have S24:=S3.trans V;have x8:U pn=none:=S24.none i4;have pnf:pn≠f:=by rintro rfl;rw[e2]at x8;cases x8
 refine cmap y A7 (λz=>A7 (z.1+1,z.2)) (λI=>∃o1 o2,I=[o1,o2]) ⟨none,none,rfl⟩ Ab (seven<|by omega) (λ_=>Am<|by rw[Ag lcn,Ag lcn];exact e4) ?_ ?_;rintro j ⟨c,b⟩ τ' O W2 hj ⟨o1,o2,rfl⟩ hW2;exact⟨rfl,Pt<|hW2 _ ⟨_,_,rfl⟩⟩;have S5:Sub U (Ao (Ao J pn<|.lst []) pn<|.lst<|y.map λz=>A7 (z.1+1,z.2)):=(S24.new x8).new x8;have e5:Ao (Ao J pn<|.lst []) pn (.lst<|y.map λz=>A7 (z.1+1,z.2)) pn=oH (y.map λz=>A7 (z.1+1,z.2)):=Ab;generalize Ao (Ao J pn<|.lst []) pn (.lst<|y.map λz=>A7 (z.1+1,z.2))=μ5 at S5 e5;have ep:dput (.dt<|a.map kvT) (.tuple [.int (e.1.1:Nat),.int (e.1.2:Nat)]) (.R pn)=some (.dt<|(a++[(e.1,pn)]).map kvT):=by rw[<- Gj bx];rfl
 have zhs:a.length<=8:=by have:=bV List.length u;rw[B_,B_,aU]at this;omega
 refine Ac (S5 _ _ e2) (Ac ep ⟨A8<|show(a.map kvT).length<=1000 by rw[B_];omega,hW _ _ ⟨_,_,_,_,a++[(e.1,pn)],λk=>if k=e.1 then y.map up1 else X k,rfl,Ab,λB bd=>?_,?_,λB bd=>?_,λB bd=>?_,(S2.trans S5).new hf⟩⟩);rcases R_.mp bd with h|h;obtain⟨h1,h2⟩:=hll B h;dsimp only;rw[H_<|bx B h,Ag h2];exact⟨S5 _ _ h1,h2⟩;rw[G_.mp h];dsimp only;rw[P_ rfl,Ag pnf];exact⟨by rw[e5,aB];rfl,pnf⟩;rw[L_,u,aS,he,L_];rfl;rcases R_.mp bd with h|h;dsimp only;rw[H_<|bx B h];exact dg B h;rw[G_.mp h];dsimp only;rw[P_ rfl];exact C.up1;rw[Ag (eR B bd).2];exact S5 _ _<|hRs B bd;rintro I U ⟨o4,o5,o6,o7,a,X,rfl,e2,hll,u,dg,hRs,S2⟩;rw[B_,aN]at u;have hlk:a.length=Y.length:=by have:=bV List.length u;rwa[B_,B_]at this
 refine hZ _ _ ⟨_,_,_,_,a,X,rfl,⟨e2,hll,by omega,λk=>?_,by rw[u];exact T.uu,dg,hf,S2⟩⟩;rw[<- T.kk k];constructor;rintro⟨e,he,rfl⟩;have:e.1∈Y.map (·.1):=by rw[<- u];exact E_.mpr ⟨e,he,rfl⟩
 obtain⟨B,h1,h2⟩:=E_.mp this;exact⟨B,h1,h2⟩;rintro⟨e,he,rfl⟩;have:e.1∈a.map (·.1):=by rw[u];exact E_.mpr ⟨e,he,rfl⟩
 obtain⟨B,h1,h2⟩:=E_.mp this;exact⟨B,h1,h2⟩;rintro I S ⟨o4,o5,o6,o7,a,X,rfl,Q⟩;exact⟨_,Sub.refl,q f X a S Q⟩
structure DcK(μ:M)(d:lM)(Pf:Tops)(kvs:oA<|(Nat×Nat)×lM):Prop where
 dd:μ d=some (.dt<|kvs.map kvT)
 ll:∀e∈kvs,μ e.2=oH ((Pf e.1).map A7)/\e.2≠d
 n:kvs.length<=20
 uu:(kvs.map (·.1)).Nodup
structure WtOk(G Pf:Tops)(kvs:oA<|(Nat×Nat)×lM)(Wf:Tops)(kw:oA<|(Nat×Nat)×lM):Prop where
 k:∀e∈kw,∃e'∈kvs,e'.1=e.1
 w:∀e∈kw,Wf e.1≠[]/\(Wf e.1).Sublist (Pf e.1)/\∀z∈Wf e.1,∀y∈G e.1,¬Wn y z
 c:∀e'∈kvs,∀z∈Pf e'.1,(∃y∈G e'.1,Wn y z)\/∃e∈kw,e.1=e'.1/\z∈Wf e.1
def TopK.del{a:M}{d f:lM}{G:Tops}(h:TopK a d G)(g:f≠d){kvs:oA<|oA Key×AV}(e:a f=some (.dt kvs)):TopK (Ck a f) d G:=by obtain⟨k,h1,h2,b,i⟩:=h.at';refine⟨k,by rw[Bb g.symm];exact h1,λx hx=>?_,b,i⟩;have:=h2 x hx;rw[Bb λc=>by rw[c,e]at this;cases this];exact this
abbrev nNk:oA Str:=["kept","found","waiting","top","pairs","lows","left"]
def V1:FnScope nNk qV (Ad HJ):=Bm<|by decide +kernel
def HV:(yB:oA Str).Nodup:=by decide +kernel
def XT:(["pair","lows"]:oA Str).Nodup:=by decide +kernel
def OF:ASp:=λi b R=>∃(dk c:lM) (G Pf:Tops) (kvs:oA<|(Nat×Nat)×lM),i=[.R dk,.R c]/\TopK b dk G/\Nx G/\DcK b c Pf kvs/\(∀e∈kvs,(Pf e.1).length<=32/\∀z∈Pf e.1,z.2<32)/\c≠dk/\∀d h g a,DcK a d h g->WtOk G Pf kvs h g->b d=none->Sub (Ck b c) a->R (.R d) a
def XU{n:Nat}(F:Fun K "not_kept" "not_kept" HJ f fd) (cHw:VCal P w K mg base n "has_within" qI NX) (ag:mg "len" = none):FnOk P w K mg base Dz (n+1) f fd qV (Fb K 2 OF):=by
 refine F.vok V1 λap A outer s H E hr=>⟨_,(Af (Aq (i:=2) V1.nd rfl oI E5)<|Af (Ic aO rfl (vv 1) (Ay (Aj (i:=3) V1.nd rfl oI)<|Ay (Aj (i:=4) V1.nd rfl oI) B8)<|Af (Aq (i:=5) V1.nd rfl oJ<|Bg (N':=yB) (mp:=[none,none]) rfl (Bc<|Ia (B9 hr) (vv 0) (vv 3)<|Cf Ae) (λ_ _ _ _=>(Ds (n:=2) rfl<|Ay (Aj (i:=0) HV rfl oI oJ)<|Ay (Aj (i:=1) HV rfl oI oJ) B8)) (λ_ _ _ _=>Bl) (λ_ _ _ _=>(vv 1))<|Aw (N:=nNk) (pn:=(Ad HJ).names)<|by decide +kernel)<|Af (Ee (i:=6) (N':=["pair","lows"]) (mp:=[none,some 5]) rfl V1.nd rfl rfl (Bc<|vv 4) (λ_ _ _ _=>(Aj (i:=0) XT rfl oI oJ)) (λ_ _ _ _=>(Cy<|Fz<|D3<|Al cHw hr rfl<|Aa (vv 1)<|Aa (Az Be (vv 0) Ah) Ae)) (λ_ _ _ _=>(vv 0))<|Aw (N:=nNk) (pn:=(Ad HJ).names)<|by decide +kernel)<|Ai<|Cl (Bd Q2 (Av B1 rfl ag aG<|Aa (vv 6) Ae) Ah<|nomark _) (Ai<|Di (B9 hr) (vv 2) (vv 3)<|vv 6) Bi)<|Ai<|A6<|vv 2),?_⟩
 rintro xs μ R _ ⟨dk,M,G,J,u,rfl,hT,hB,D,hPB,m8,q⟩;intro L j9;have wf:L≠M:=by rintro rfl;rw[D.dd]at j9;cases j9
 have S0:Sub (Ck μ M) (Ck (Ao μ L<|.dt []) M):=λb m hb=>by
  have jg:b≠M:=λz=>by rw[z]at hb;unfold Ck at hb;rw[P_ rfl]at hb;cases hb
  rw[Bb jg]at hb ⊢;rw[Ag<|by rintro rfl;rw[j9]at hb;cases hb];exact hb
 have hTd:=hT.del m8 D.dd;have zhw:=D.n;refine A0 (λτ d=>∃o3 o4 o5 T I p,τ=[oE dk,oE M,oE L,o3,o4,o5,T]/\DcK d L I p/\WtOk G J u I p/\Sub (Ck μ M) d) (λZ hZ=>?_) ?_
 ·refine Ac (x:=MO.dt<|u.map kvT) (by rw[Ag wf.symm];exact D.dd) ?_;refine Kq (λi τ d=>∃o3 o4 o5 T I p,τ=[oE dk,oE M,oE L,o3,o4,o5,T]/\p.length<=i/\DcK d L I p/\WtOk G J (u.take i) I p/\Sub (Ck μ M) d) ⟨none,none,none,none,λ_=>[],[],rfl,F_ _,⟨by rw[Bb wf];exact Ab,(λ_ h=>nomatch h),bH _,bO⟩,⟨(λ_ h=>nomatch h),(λ_ h=>nomatch h),(λ_ h=>nomatch h)⟩,S0⟩ ?_ ?_
  ·rintro i v τ r W hv ⟨o3,o4,o5,T,I,p,rfl,cu,B,C,V⟩ hW;rw[M_]at hv;obtain⟨e,he,rfl⟩:=J_.mp hv;have gu:=aA he;have hi:=(D_.mp he).1;obtain⟨i6,hed⟩:=D.ll e gu;have eP:r e.2=oH ((J e.1).map A7):=V _ _ (by rw[Bb hed];exact i6);obtain⟨hg32,hgb⟩:=hB e.1;obtain⟨hp32,hpb⟩:=hPB e gu;have bt:u.take (i+1)=u.take i++[e]:=by rw[aS,he];rfl
   have bx:∀g∈p,g.1≠e.1:=λg o c=>by obtain⟨e2,h1,h2⟩:=C.k g o;have S:((u.take<|i+1).map (·.1)).Nodup:=D.uu.sublist<|(eX _ _).map _;rw[bt,L_,bB]at S;exact S.2.2 e2.1 (E_.mpr ⟨e2,h1,rfl⟩) e.1 (by simp)<|h2.trans c
   dsimp only[Fm,Eb,Oq,List.set,kvT];refine A0 (λτ d=>∃O,τ=[oE dk,oE M,oE L,oG<|.tuple [.int (e.1.1:Nat),.int (e.1.2:Nat)],oE e.2,oE O,T]/\d O=oH (((G e.1).map (·.2)).map Bn)/\Sub r d) (λZ3 cv=>?_) ?_;dsimp only[Uu,Ot,KU];refine Ik (td:=Qx 0) (ty:=Qx 3) (τ:=[oE dk,oE M,oE L,oG<|.tuple [.int (e.1.1:Nat),.int (e.1.2:Nat)],oE e.2,o5,T]) hTd V e.1.1 e.1.2 (λQ h=>h) (λQ h=>h) ?_;intro l μ2 hl X _;refine Ac (Am hl) λO Y=>?_;have llw:l≠O:=by rintro rfl;rw[hl]at Y;cases Y
   refine cmap (G e.1) A7 (λz=>Bn z.2) (λτ=>∃o1 o2,τ=[o1,o2]) ⟨none,none,rfl⟩ Ab (seven<|by omega) (λ_=>Am<|by rw[Bk,Ag llw];exact hl) ?_ ?_;rintro j z τ' acc W2 hj ⟨o1,o2,rfl⟩ hW2;exact⟨rfl,Pt<|hW2 _ ⟨_,_,rfl⟩⟩;rw[Bk];exact cv _ _ ⟨O,rfl,by rw[Ab,aB];rfl,X.new<|X.none Y⟩;rintro τ μ2 ⟨O,rfl,e2,X⟩;have yg:=X _ _ eP;refine A0 (λτ d=>∃t,τ=[oE dk,oE M,oE L,oG<|.tuple [.int (e.1.1:Nat),.int (e.1.2:Nat)],oE e.2,oE O,oE t]/\d t=oH (((J e.1).filter λz=>!((G e.1).map (·.2)).any λl=>decide (l &&& z.2=l)).map A7)/\r t=none/\Sub r d) (λZ3 cv=>?_) ?_
   ·refine Ac (Am yg) λt U=>?_;have l1:e.2≠t:=by intro c;rw[c,U]at yg;cases yg
    have l2:O≠t:=by rintro rfl;rw[e2]at U;cases U
    refine cmapf (J e.1) A7 (λz=>!((G e.1).map (·.2)).any λl=>decide (l &&& z.2=l)) A7 (λτ=>∃o1,τ=[o1,oE O]) ⟨none,rfl⟩ Ab (seven<|by omega) (λ_=>Am<|by rw[Bk,Ag l1];exact yg) ?_ ?_
    ·rintro j z τ' acc W1 W2 hj ⟨o1,rfl⟩ w1 w2;refine Ac (x:=PyData.int (z.2:Nat)) (Ak (j:=1) rfl) ⟨O,(G e.1).map (·.2),z.2,rfl,by rw[Bk,Ag l2];exact e2,?_⟩;rw[Bk]at w1 w2 ⊢;cases hh:((G e.1).map (·.2)).any λl=>decide (l &&& z.2=l) with
     |true=>exact Kd rfl (w2 (by rw[hh];rfl) _ ⟨_,rfl⟩)
     |false=>exact L3 rfl<|w1 (by rw[hh];rfl) _ ⟨_,rfl⟩
    rw[Bk];exact cv _ _ ⟨t,rfl,Ab,X.none U,X.new<|X.none U⟩
   rintro τ μ3 ⟨t,rfl,e3,U,S3⟩;have zgj:∀z:Pr,(((G e.1).map (·.2)).any λl=>decide (l &&& z.2=l))=true↔∃y∈G e.1,Wn y z:=λz=>by rw[bP];constructor;rintro⟨b,hb,h⟩;obtain⟨y,hy,rfl⟩:=E_.mp hb;exact⟨y,hy,Nt.mp<|aC h⟩;rintro⟨y,hy,h⟩;exact⟨y.2,E_.mpr ⟨y,hy,rfl⟩,aP<|Nt.mpr h⟩
   have kc:∀z,z∈((J e.1).filter λz=>!((G e.1).map (·.2)).any λl=>decide (l &&& z.2=l))↔z∈J e.1/\¬ ∃y∈G e.1,Wn y z:=λz=>by rw[bK,<- zgj z,bZ,Bool.not_eq_true]
   have ly:((J e.1).filter λz=>!((G e.1).map (·.2)).any λl=>decide (l &&& z.2=l)).Sublist (J e.1):=gX;generalize ((J e.1).filter λz=>!((G e.1).map (·.2)).any λl=>decide (l &&& z.2=l))=lf0 at e3 kc ly;have qj:∀z∈J e.1,(∃y∈G e.1,Wn y z)\/z∈lf0:=λz hz=>(Classical.em (∃y∈G e.1,Wn y z)).imp id λh=>(kc z).mpr ⟨hz,h⟩;refine Ac e3<|dif (λc=>?_) λc=>?_;have aj:lf0≠[]:=by rintro rfl;exact absurd c<|by decide
   have lfw:t≠L:=by rintro rfl;rw[B.dd]at U;cases U
   have ep:dput (.dt<|p.map kvT) (.tuple [.int (e.1.1:Nat),.int (e.1.2:Nat)]) (.R t)=some (.dt<|(p++[(e.1,t)]).map kvT):=by rw[<- Gj bx];rfl
   refine Ac (S3 _ _ B.dd) (Ac ep ⟨A8<|show(p.map kvT).length<=1000 by rw[B_];omega,hW _ _ ⟨_,_,_,_,λk=>if k=e.1 then lf0 else I k,p++[(e.1,t)],rfl,by rw[N_];exact gD cu,⟨Ab,λg o=>?_,by rw[N_];show p.length+1<=20;omega,?_⟩,⟨λg o=>?_,λg o=>?_,λg o z hz=>?_⟩,Dy (V.trans S3)<|by rw[Bb wf];exact j9⟩⟩);rcases R_.mp o with h|h;obtain⟨h1,h2⟩:=B.ll g h;rw[H_<|bx g h,Ag h2];exact⟨S3 _ _ h1,h2⟩;rw[G_.mp h];rw[P_ rfl,Ag lfw];exact⟨e3,lfw⟩;rw[L_,bB];refine⟨B.uu,by simp,λx hx y hy c2=>?_⟩;obtain⟨g,o,rfl⟩:=E_.mp hx;have hy:y=e.1:=by simpa using hy
   exact bx g o<|c2.trans hy
   rw[bt];rcases R_.mp o with h|h;obtain⟨iw,h1,h2⟩:=C.k g h;exact⟨iw,aF _ h1,h2⟩;rw[G_.mp h];exact⟨e,by simp,rfl⟩;rcases R_.mp o with h|h;rw[H_<|bx g h];exact C.w g h;rw[G_.mp h];rw[P_ rfl];exact⟨aj,ly,λz hz y hy hw=>((kc z).mp hz).2 ⟨y,hy,hw⟩⟩;rw[bt]at o;rcases R_.mp o with h|h;refine(C.c g h z hz).imp id λ⟨iw,h1,h2,S⟩=>⟨iw,aF _ h1,h2,?_⟩;rw[H_<|bx iw h1];exact S;rw[G_.mp h]at hz ⊢;refine(qj z hz).imp id λS=>⟨(e.1,t),by simp,rfl,?_⟩;rw[P_ rfl];exact S
   ·have hle:lf0=[]:=by
     cases lf0 with
     |nil=>rfl
     |cons a l=>exact absurd (show(0:Int)<(((a::l).map A7).length:Nat) from by rw[B_,aX];omega) c
    refine hW _ _ ⟨_,_,_,_,I,p,rfl,bA cu,⟨S3 _ _ B.dd,λg o=>⟨S3 _ _ (B.ll g o).1,(B.ll g o).2⟩,B.n,B.uu⟩,⟨λg o=>?_,C.w,λg o z hz=>?_⟩,V.trans S3⟩;rw[bt];obtain⟨iw,h1,h2⟩:=C.k g o;exact⟨iw,aF _ h1,h2⟩;rw[bt]at o;rcases R_.mp o with h|h;exact C.c g h z hz;rw[G_.mp h]at hz ⊢;refine(qj z hz).imp id λS=>?_;rw[hle]at S;cases S
  rintro τ r ⟨o3,o4,o5,T,I,p,rfl,cu,B,C,V⟩;rw[B_,aN]at C;exact hZ _ _ ⟨_,_,_,_,I,p,rfl,B,C,V⟩
 rintro τ r ⟨o3,o4,o5,T,I,p,rfl,B,C,V⟩;exact⟨_,Sub.refl,q L I p r B C j9 V⟩
theorem Mj(p:Ar->Bool):∀A:oA Ar,(A.filter p).length+(A.filter λa=>!p a).length=A.length
 |[]=>rfl
 |a::A=>by have:=Mj p A;cases h:p a<;>simp[List.filter_cons,h]<;>omega
def BE{A:oA Ar}{k l:Nat×Nat}(h:l≠k):grp (A.filter λa=>!El k a) l=grp A l:=by
 unfold grp;rw[List.filter_filter];congr 1;refine kS λa _=>?_;cases c:El l a
 rfl
 have e:l=(a.p,a.x):=bS λz=>by rw[Nv z]at c;cases c
 rw[Nv (a:=a) (k:=k) λz=>h<|e.trans z.symm];rfl
theorem Tl:∀{ks:oA<|Nat×Nat} {A:oA Ar},ks.Nodup->(ks.map λk=>(grp A k).length).sum<=A.length
 |[],_,_=>bH _
 |k::ks,A,h=>by
  rw[cJ]at h;have e:(ks.map λl=>(grp A l).length)=ks.map λl=>(grp (A.filter λa=>!El k a) l).length:=fD λl b=>by rw[BE λc=>h.1<|by rw[<- c];exact b]
  have:=Tl (ks:=ks) (A:=A.filter λa=>!El k a) h.2;have hp:=Mj (El k) A;have d:(grp A k).length=(A.filter<|El k).length:=by unfold grp;rw[B_]
  rw[a_,fY,e];omega
def P9{P Q:oA Pr}(h:∀y∈P,∃z∈Q,Wn z y):Under P Q:=λy hy=>by obtain⟨z,hz,b⟩:=h y hy;exact⟨z,hz,λt a=>Dm.mpr ⟨(Dm.mp a).1,b t (Dm.mp a).2⟩⟩
def Under.more{P Q N:oA Pr}(h:Under P Q):Under P (Q++N):=λy hy=>by obtain⟨z,hz,hb⟩:=h y hy;exact⟨z,aF _ hz,hb⟩
structure More(g:Gam)(G N:Tops):Prop where
 k:∀k,N k≠[]->k.1<g.pl.length/\rgp g.rs k≠[]
 f:∀k,∀z∈N k,(∃y∈Gk g G k,y.2=z.2)/\z.2<32/\∀y∈G k,¬Wn y z
 u:∀k,((N k).map (·.2)).Nodup
def More.snd{g:Gam}(a:RgOk g){S:Nat->oA Nat->Prop}{G N:Tops}(h:P8 G<|LPre g S)(m:More g G N):P8 (λk=>G k++N k) (LPre g S):=λk p hp v hv=>by
 rcases R_.mp hp with hp|hp;exact h k p hp v hv;obtain⟨⟨y,hy,e⟩,_,_⟩:=m.f k p hp;obtain⟨h1,h2⟩:=m.k k λz=>by rw[z]at hp;cases hp
 exact FR a h h1 h2 hy<|by rw[e];exact hv
def More.nd{g:Gam}{G N:Tops}(m:More g G N)(h:∀k,((G k).map (·.2)).Nodup)(k:Nat×Nat):((G k++N k).map (·.2)).Nodup:=by rw[L_,bB];refine⟨h k,m.u k,λa ha b hb e=>?_⟩;obtain⟨y,hy,rfl⟩:=E_.mp ha;obtain⟨z,hz,rfl⟩:=E_.mp hb;exact(m.f k z hz).2.2 y hy λt c=>by rw[<- e];exact c
def FV(l:oA Nat):Iu (l.map Bn)=some (l.map λ(n:Nat)=>(n:Int)):=by
 induction l with
 |nil=>rfl
 |cons n l a=>show(Iu<|l.map Bn).map _=_;rw[a];rfl
theorem Qa:∀ns:oA Nat,(ns.map λ(n:Nat)=>(n:Int)).sum=((ns.sum:Nat):Int)
 |[]=>rfl
 |n::ns=>by rw[a_,fY,fY,Qa ns];rfl
abbrev nHm:oA Str:=oP
def Qb0:FnScope nHm oP (Ad MN):=Bm<|by decide +kernel
def XV:(oR:oA Str).Nodup:=by decide +kernel
def XW:ASp:=λc b R=>∃(d:lM) (G:Tops) (kvs:oA<|(Nat×Nat)×lM),c=[.R d]/\DcK b d G kvs/\(∀e∈kvs,(G e.1).length<=32)/\∀ a,Sub b a->R (.D<|.int ((kvs.map λe=>(G e.1).length).sum:Nat)) a
def XX{n:Nat}(F:Fun K "how_many" "how_many" MN f fd) (t:mg "sum" = none) (r:mg "len" = none):FnOk P w K mg base Dz (n+1) f fd oP (Fb K 1 XW):=by
 refine F.vok Qb0 λI A g s H E C=>⟨_,(Ai<|A6<|Av (TJ rfl) rfl t PyProof.Rows.boot_sum<|Aa (Pd (N':=oR) (mp:=[none]) rfl (vv 0) (λ_ _ _ _=>(Aj (i:=0) XV rfl oI oJ)) (λ_ _ _ _=>Bl) (λ_ _ _ _=>(Av B1 rfl r aG<|Aa (vv 0) Ae))<|Aw (N:=nHm) (pn:=(Ad MN).names)<|by decide +kernel) Ae),?_⟩;rintro B y R _ ⟨d,G,a,rfl,D,hb,q⟩;refine Ac D.dd λp hp=>?_;have j:d≠p:=by rintro rfl;rw[D.dd]at hp;cases hp
 rw[show(a.map kvT).map (λx=>x.2)=a.map λe=>AV.R e.2 by rw[aB];rfl];have k:=D.n;refine cmap a (λe=>AV.R e.2) (λe=>.D<|.int ((G e.1).length:Nat)) (λv=>∃o,v=[o]) ⟨none,rfl⟩ Ab (seven<|by omega) (λ_=>trivial) ?_ ?_;rintro i e u l W he ⟨o,rfl⟩ hW;obtain⟨h1,h2⟩:=D.ll e<|aA he;have h:e.2≠p:=λz=>by rw[z,hp]at h1;cases h1
 refine Ac (x:=MO.lst<|(G e.1).map A7) (by rw[Bk,Ag h,Bb h2];exact h1) ?_;show W _ (.D<|.int (((G e.1).map A7).length:Nat)) _;rw[B_];exact hW _ ⟨_,rfl⟩;refine Ac (x:=MO.lst<|(a.map λe=>(G e.1).length).map Bn) (by rw[Ag j.symm,Ab,aB];rfl) (Ac (FV _) ⟨⟨λn k=>?_,by rw[B_,B_];omega⟩,_,Sub.refl,?_⟩);obtain⟨m,hm,rfl⟩:=E_.mp k;obtain⟨e,he,rfl⟩:=E_.mp hm;have:=hb e he;omega;rw[Qa];refine q _ λb m hm=>?_;by_cases c:b=d;rw[c,Ab,<- hm,c,D.dd];rw[Ag c,Ag (by rintro rfl;rw[hp]at hm;cases hm),Ag (by rintro rfl;rw[hp]at hm;cases hm),Bb c];exact hm
structure Kpt(μ:M)(d:lM)(G:Tops)(kk:oA<|(Nat×Nat)×lM):Prop where
 D:DcK μ d G kk
 o:∀k,(∀e∈kk,e.1≠k)->G k=[]
 b:∀e∈kk,e.1.1<5/\e.1.2<4
def Kpt.top{a:M}{d:lM}{G:Tops}{b:oA<|(Nat×Nat)×lM}(h:Kpt a d G b):TopK a d G:=⟨b,h.D.dd,λe he=>(h.D.ll e he).1,h.o,h.D.uu⟩
def OG{ks:oA<|Nat×Nat}(h:ks.Nodup)(hb:∀k∈ks,k.1<5/\k.2<4):ks.length<=20:=by have:=Gp (ys:=(List.range 5).flatMap λi=>(List.range 4).map λj=>(i,j)) h λk hk=>dE.mpr ⟨k.1,dW.mpr (hb k hk).1,E_.mpr ⟨k.2,dW.mpr (hb k hk).2,rfl⟩⟩;exact this
def putK(kvs:oA<|(Nat×Nat)×lM)(k:Nat×Nat)(z:lM):oA ((Nat×Nat)×lM):=if ∃e∈kvs,e.1=k then kvs.map λe=>if e.1=k then(k,z) else e else kvs++[(k,z)]
def XY{kvs:oA<|(Nat×Nat)×lM}{k:Nat×Nat}{z:lM}:Er (kvs.map kvT) [.inl (k.1:Nat),.inl (k.2:Nat)] (.R z)=(putK kvs k z).map kvT:=by unfold putK;split;rename_i h;obtain⟨e,he,rfl⟩:=h;unfold Er;rw[P_<|bP.mpr ⟨kvT e,E_.mpr ⟨e,he,rfl⟩,aP rfl⟩,aB,aB];refine fD λx _=>?_;by_cases c:x.1=e.1;show ite _ _ _=kvT (ite _ _ _);rw[P_ c,P_<|by rw[<- c];rfl,<- c];rfl;show ite _ _ _=kvT (ite _ _ _);rw[H_ c];exact H_ λz=>c<|Nu z;rename_i h;exact Gj λe he c=>h ⟨e,he,c⟩
def put_mem{kvs:oA<|(Nat×Nat)×lM}{k:Nat×Nat}{z:lM}{e:(Nat×Nat)×lM}(h:e∈putK kvs k z):e=(k,z)\/(e∈kvs/\e.1≠k):=by unfold putK at h;split at h;obtain⟨x,hx,rfl⟩:=E_.mp h;by_cases c:x.1=k;rw[P_ c];exact .inl rfl;rw[H_ c];exact .inr ⟨hx,c⟩;rename_i a;rcases R_.mp h with h|h;exact .inr ⟨h,λc=>a ⟨e,h,c⟩⟩;exact .inl<|G_.mp h
def put_keys{kvs:oA<|(Nat×Nat)×lM}{k:Nat×Nat}{z:lM}:(putK kvs k z).map (·.1)=kvs.map (·.1)\/(k∉kvs.map (·.1)/\(putK kvs k z).map (·.1)=kvs.map (·.1)++[k]):=by
 unfold putK;split;refine .inl ?_;rw[aB];refine fD λx _=>?_;show(ite _ _ _:(Nat×Nat)×lM).1=x.1;split;rename_i c;exact c.symm
 rfl
 rename_i a;refine .inr ⟨λz=>?_,by rw[L_];rfl⟩;obtain⟨e,he,c⟩:=E_.mp z;exact a ⟨e,he,c⟩
def FW{kvs:oA<|(Nat×Nat)×lM}{k:Nat×Nat}{z:lM}:k∈(putK kvs k z).map (·.1):=by rcases put_keys (kvs:=kvs) (k:=k) (z:=z) with h|h;unfold putK at h ⊢;split;rename_i a;obtain⟨e,he,rfl⟩:=a;rw[P_ ⟨e,he,rfl⟩]at h;rw[h];exact E_.mpr ⟨e,he,rfl⟩;rw[L_];exact aT _<|.head _;rw[h.2];exact aT _<|.head _
def Kpt.put{l:M}{d z:lM}{G p:Tops}{g:oA<|(Nat×Nat)×lM}{k:Nat×Nat}(h:Kpt l d G g)(hk:k.1<5/\k.2<4)(hz:l z=oH ((p k).map A7))(i:z≠d)(r:∀j,j≠k->p j=G j):Kpt (Ao l d<|.dt<|(putK g k z).map kvT) d p (putK g k z):=by
 have hb:∀e∈putK g k z,e.1.1<5/\e.1.2<4:=λe he=>(put_mem he).elim (λc=>by rw[c];exact hk) λc=>h.b e c.1;have hu:((putK g k z).map (·.1)).Nodup:=by rcases put_keys (kvs:=g) (k:=k) (z:=z) with e|⟨n,e⟩;rw[e];exact h.D.uu;rw[e,bB];exact⟨h.D.uu,by simp,λa ha b hb c=>n<|by rw[<- G_.mp hb,<- c];exact ha⟩
 refine⟨⟨Ab,λe he=>?_,?_,hu⟩,λj hj=>?_,hb⟩;rcases put_mem he with rfl|⟨h1,h2⟩;exact⟨by rw[Ag i];exact hz,i⟩;obtain⟨t,s⟩:=h.D.ll e h1;exact⟨by rw[Ag s,r _ h2];exact t,s⟩;have:=OG hu λk hk=>by obtain⟨e,he,rfl⟩:=E_.mp hk;exact hb e he
 rwa[B_]at this;have m:j≠k:=λc=>by obtain⟨e,he,u⟩:=E_.mp<|FW (kvs:=g) (k:=k) (z:=z);exact hj e he<|u.trans c.symm
 rw[r j m];refine h.o j λe he c=>?_;have:e.1∈(putK g k z).map (·.1):=by rcases put_keys (kvs:=g) (k:=k) (z:=z) with q|⟨_,q⟩;rw[q];exact E_.mpr ⟨e,he,rfl⟩;rw[q];exact aF _<|E_.mpr ⟨e,he,rfl⟩
 obtain⟨x,y,v⟩:=E_.mp this;exact hj x y<|v.trans c
abbrev nKc:oA Str:=["kept","waiting","pairs","cheapest","top"]
def FX:FnScope nKc qW (Ad HI):=Bm<|by decide +kernel
def XZ:(oR:oA Str).Nodup:=by decide +kernel
def YA:(["pair","cheapest"]:oA Str).Nodup:=by decide +kernel
structure Chp(Wf N:Tops)(kw:oA<|(Nat×Nat)×lM)(c:Nat):Prop where
 i:∀e∈kw,N e.1=(Wf e.1).filter λz=>decide (z.1=c)
 o:∀k,(∀e∈kw,e.1≠k)->N k=[]
def YB:ASp:=λi h R=>∃(dk g:lM) (G d:Tops) (j a:oA<|(Nat×Nat)×lM),i=[.R dk,.R g]/\Kpt h dk G j/\DcK h g d a/\a≠[]/\(∀e∈a,d e.1≠[])/\(∀e∈a,e.1.1<5/\e.1.2<4)/\Nx G/\(∀e∈a,(d e.1).length<=32/\∀z∈d e.1,z.2<32)/\dk≠g /\
 ∀c N l b,(∃e∈a,∃z∈d e.1,z.1=c)->Chp d N a c->Kpt b dk (λk=>G k++N k) l->Sub (Ck (Ck h g) dk) b->R (.D .none) b
def YC{n:Nat}(F:Fun K "keep_cheapest" "keep_cheapest" HI f fd) (ix:mg "min" = none):FnOk P w K mg base Dz (n+1) f fd qW (Fb K 2 YB):=by
 refine F.vok FX λap A outer s H E hr=>⟨_,(Af (Aq (i:=3) FX.nd rfl oJ<|Av (Zb hr rfl) rfl ix PyProof.Rows.boot_min<|Aa (Pd (N':=oR) (mp:=[none]) rfl (vv 1) (λ_ _ _ _=>(Aj (i:=0) XZ rfl oI oJ)) (λ_ _ _ _=>Bl) (λ_ _ _ _=>(Az Be (Av (Zb hr rfl) rfl ix PyProof.Rows.boot_min<|Aa (vv 0) Ae) Ah))<|Aw (N:=nKc) (pn:=(Ad HI).names)<|by decide +kernel) Ae)<|Ai<|Ic aO rfl (vv 1) (Ay (Aj (i:=4) FX.nd rfl oI)<|Ay (Aj (i:=2) FX.nd rfl oI) B8)<|Ai<|Di (B9 hr) (vv 0) (vv 4)<|Ba Cj (Ia (B9 hr) (vv 0) (vv 4)<|Cf Ae)<|Bg (N':=["pair","cheapest"]) (mp:=[none,some 3]) rfl (Bc<|vv 2) (λ_ _ _ _=>(Aj (i:=0) YA rfl oI oJ)) (λ_ _ _ _=>(Cy<|Bd (Eo hr) (Az Be (vv 0) Ah) (vv 1)<|nomark _)) (λ_ _ _ _=>(vv 0))<|Aw (N:=nKc) (pn:=(Ad HI).names)<|by decide +kernel),?_⟩
 rintro xs Y R _ ⟨dk,t,G,g,kk,O,rfl,T,D,aj,hW0,hbw,hGB,hWB,j9,q⟩;refine A0 (λτ a=>∃c:Nat,τ=[oE dk,oE t,none,oF (c:Nat),none]/\Sub Y a/\∃e∈O,∃z∈g e.1,z.1=c) (λZ hZ=>?_) ?_;refine Ac D.dd λp hp=>?_;have hpd:t≠p:=by rintro rfl;rw[D.dd]at hp;cases hp
 rw[show(O.map kvT).map (λx=>x.2)=O.map λe=>AV.R e.2 by rw[aB];rfl];have hn:=D.n;refine Ep (λi I τ a=>∃(o:oB AV) (U:oA Nat),τ=[o]/\I=U.map Bn/\U.length=i/\(∀c∈U,∃e∈O,∃z∈g e.1,z.1=c)/\a=Ao (Ck Y t) p (.lst I)) ⟨none,[],rfl,rfl,rfl,(λ_ h=>nomatch h),rfl⟩ (λ_ _ _ _ _=>trivial) ?_ ?_;rintro i x I τ a W hx ⟨o,U,rfl,rfl,cr,fx,rfl⟩ hW;rw[M_]at hx;obtain⟨e,he,rfl⟩:=J_.mp hx;have V:=aA he;obtain⟨h1,h2⟩:=D.ll e V;have hep:e.2≠p:=λz=>by rw[z,hp]at h1;cases h1
 refine L3 rfl (Ac (x:=MO.lst<|(g e.1).map A7) (by rw[Ag hep,Bb h2];exact h1)<|Ac (Pu _) ⟨⟨?_,λd M=>?_⟩,λd M _=>?_⟩);rw[B_];exact kF.mpr<|hW0 e V;obtain⟨z,_,rfl⟩:=E_.mp M;exact⟨Pw z,λd M=>by obtain⟨y,_,rfl⟩:=E_.mp M;exact Tf z y⟩;obtain⟨z,hz,rfl⟩:=E_.mp M;refine Ac (x:=PyData.int (z.1:Nat)) (Ak (j:=0) rfl) ⟨Ab,by rw[B_,cr];exact S_ (D_.mp he).1<|I_ hn<|by decide,hW _ _ _ ⟨_,U++[z.1],rfl,by rw[L_];rfl,by rw[N_,cr];rfl,λc hc=>?_,Bk⟩⟩;rcases R_.mp hc with hc|hc;exact fx c hc;exact⟨e,V,z,hz,(G_.mp hc).symm⟩;rintro I τ a ⟨o,U,rfl,rfl,cr,fx,rfl⟩;have hc0:0<U.length:=by rw[cr,B_];exact kF.mpr aj
 refine Ac (x:=MO.lst<|U.map Bn) (by rw[Ag hpd.symm,Ab]) (Ac (Gi U) ⟨⟨by rw[B_];exact hc0,λd M=>?_⟩,λd M _=>?_⟩);obtain⟨c,_,rfl⟩:=E_.mp M;refine⟨B0 _,λd M=>?_⟩;obtain⟨c',_,rfl⟩:=E_.mp M;simp only[cmpb];obtain⟨c,hc,rfl⟩:=E_.mp M;refine hZ _ _ ⟨c,rfl,λb m hm=>?_,fx c hc⟩;by_cases jg:b=t;rw[jg,Ab,<- hm,jg,D.dd];rw[Ag jg,Ag (by rintro rfl;rw[hp]at hm;cases hm),Bb jg];exact hm;rintro τ μ1 ⟨c,rfl,S1,ff⟩;refine Ac (S1 _ _ D.dd) ?_;have S0:Sub (Ck (Ck Y t) dk) (Ck μ1 t):=λb m hb=>by
  have h1:b≠dk:=λz=>by rw[z]at hb;unfold Ck at hb;rw[P_ rfl]at hb;cases hb
  rw[Bb h1]at hb;have h2:b≠t:=λz=>by rw[z]at hb;unfold Ck at hb;rw[P_ rfl]at hb;cases hb
  rw[Bb h2]at hb ⊢;exact S1 _ _ hb
 have T0:Kpt (Ck μ1 t) dk (λk=>G k++[]) kk:=⟨⟨by rw[Bb j9];exact S1 _ _ T.D.dd,λe he=>?_,T.D.n,T.D.uu⟩,λk hk=>by rw[T.o k hk];rfl,T.b⟩;refine Kq (λi τ a=>∃o2 o4 N r9,τ=[oE dk,oE t,o2,oF (c:Nat),o4]/\Chp g N (O.take i) c/\Kpt a dk (λk=>G k++N k) r9/\Sub (Ck (Ck Y t) dk) a) ⟨none,none,λ_=>[],kk,rfl,⟨(λ_ h=>nomatch h),λ_ _=>rfl⟩,T0,S0⟩ ?_ ?_;rintro i v τ L W hv ⟨o2,o4,N,u,rfl,C,r,S2⟩ hW;rw[M_]at hv;obtain⟨e,he,rfl⟩:=J_.mp hv;have V:=aA he;have bt:O.take (i+1)=O.take i++[e]:=by rw[aS,he];rfl
 obtain⟨i6,hed⟩:=D.ll e V;have hek:e.2≠dk:=λz=>by rw[z,T.D.dd]at i6;cases i6
 have eW:L e.2=oH ((g e.1).map A7):=S2 _ _ (by rw[Bb hek,Bb hed];exact i6);have dk0:Ck (Ck Y t) dk dk=none:=P_ rfl;have bx:∀B∈O.take i,B.1≠e.1:=λB S c=>by have X:((O.take<|i+1).map (·.1)).Nodup:=D.uu.sublist<|(eX _ _).map _;rw[bt,L_,bB]at X;exact X.2.2 B.1 (E_.mpr ⟨B,S,rfl⟩) e.1 (by simp) c
 have hN:N e.1=[]:=C.o _ bx;dsimp only[Fm,Eb,Oq,List.set,kvT,X7,OV,Ot,KU];refine Ik (td:=Qx 0) (ty:=Qx 4) (τ:=[oE dk,oE t,oE e.2,oF (c:Nat),oG<|.tuple [.int (e.1.1:Nat),.int (e.1.2:Nat)]]) r.top Sub.refl e.1.1 e.1.2 (λQ h=>h) (λQ h=>h) ?_;intro l J hl S3 _;have hl:J l=oH ((G e.1).map A7):=by rw[hl];show some (MO.lst<|(G e.1++N e.1).map A7)=_;rw[hN,cH]
 have ye:=S3 _ _ eW;obtain⟨hg32,hgb⟩:=hGB e.1;obtain⟨hw32,hwb⟩:=hWB e V;refine Ac (Am ye) λp hp=>?_;have l1:e.2≠p:=by intro z;rw[z,hp]at ye;cases ye
 have l2:l≠p:=by rintro rfl;rw[hl]at hp;cases hp
 refine cmapf (g e.1) A7 (λz=>decide (z.1=c)) A7 (λτ=>∃o1,τ=[o1,oF (c:Nat)]) ⟨none,rfl⟩ Ab (seven<|by omega) (λ_=>Am<|by rw[Bk,Ag l1];exact ye) ?_ ?_;rintro j z τ' I W1 W2 hj ⟨o1,rfl⟩ w1 w2;exact Ac (x:=PyData.int (z.1:Nat)) (Ak (j:=0) rfl)<|ieq (λe=>w1 (aP<|fX e) _ ⟨_,rfl⟩) λe=>w2 (aL λh=>e<|bV Int.ofNat h) _ ⟨_,rfl⟩;rw[Bk];have ai:((g e.1).filter λz=>decide (z.1=c)).length<=32:=I_ (bX _ _) hw32;have S4:Sub L (Ao J p<|.lst<|((g e.1).filter λz=>decide (z.1=c)).map A7):=S3.new<|S3.none hp;have e4:Ao J p (.lst<|((g e.1).filter λz=>decide (z.1=c)).map A7) l=oH ((G e.1).map A7):=by rw[Ag l2];exact hl
 have p4:Ao J p (.lst<|((g e.1).filter λz=>decide (z.1=c)).map A7) p=oH (((g e.1).filter λz=>decide (z.1=c)).map A7):=Ab;generalize Ao J p (.lst<|((g e.1).filter λz=>decide (z.1=c)).map A7)=μ4 at S4 e4 p4;refine Ac e4 (Ac p4 ⟨by rw[B_,B_];exact seven<|by omega,λz hz=>?_⟩);have z2:=S4.none hz;have zd:z≠dk:=by rintro rfl;rw[r.D.dd]at z2;cases z2
 have S5:Sub L (Ao μ4 z<|.lst<|(G e.1).map A7++((g e.1).filter λz=>decide (z.1=c)).map A7):=S4.new z2;have e5:Ao μ4 z (.lst<|(G e.1).map A7++((g e.1).filter λz=>decide (z.1=c)).map A7) z=oH ((G e.1++(g e.1).filter λz=>decide (z.1=c)).map A7):=by rw[Ab,L_]
 generalize Ao μ4 z (.lst<|(G e.1).map A7++((g e.1).filter λz=>decide (z.1=c)).map A7)=μ5 at S5 e5;have ep:dput (.dt<|u.map kvT) (.tuple [.int (e.1.1:Nat),.int (e.1.2:Nat)]) (.R z)=some (.dt<|(putK u e.1 z).map kvT):=by rw[<- XY];rfl
 have zgu:=r.D.n;refine Ac (S5 _ _ r.D.dd) (Ac ep ⟨A8<|show(u.map kvT).length<=1000 by rw[B_];omega,hW _ _ ⟨_,_,λk=>if k=e.1 then(g e.1).filter (λz=>decide (z.1=c)) else N k,putK u e.1 z,rfl,⟨λB S=>?_,λk hk=>?_⟩,?_,Dy (S2.trans S5) dk0⟩⟩);rw[bt]at S;rcases R_.mp S with h|h;rw[H_<|bx B h];exact C.i B h;rw[G_.mp h,P_ rfl];rw[bt]at hk;rw[H_ λz=>hk e (by simp) z.symm];exact C.o k λB S=>hk B<|aF _ S;refine Kpt.put (G:=λk=>G k++N k) ⟨⟨S5 _ _ r.D.dd,λB S=>⟨S5 _ _ (r.D.ll B S).1,(r.D.ll B S).2⟩,r.D.n,r.D.uu⟩,r.o,r.b⟩ (hbw e V) (by dsimp only;rw[P_ rfl];exact e5) zd λj hj=>by dsimp only;rw[H_ hj]
 rintro τ L ⟨o2,o4,N,u,rfl,C,r,S2⟩;rw[B_,aN]at C;exact⟨_,Sub.refl,q c N u L ff C r S2⟩;obtain⟨h1,h2⟩:=T.D.ll e he;have X:=S1 _ _ h1;have h4:e.2≠t:=λz=>by rw[z,S1 _ _ D.dd]at X;cases X
 exact⟨by rw[Bb h4];show _=some (MO.lst<|(G e.1++[]).map A7);rw[cH];exact X,h2⟩
def Da(Pf:Nat×Nat->oA Pr)(kvs:oA<|(Nat×Nat)×lM):oA Ar:=kvs.flatMap λe=>(Pf e.1).map λz=>⟨e.1.1,e.1.2,Cr z.2,z.1⟩
theorem Tm{Pf:Nat×Nat->oA Pr}:∀{kvs:oA<|(Nat×Nat)×lM},(∀e∈kvs,(Pf e.1).length<=992)->(Da Pf kvs).length<=992*kvs.length
 |[],_=>by simp[Da]
 |e::kvs,h=>by have h1:=h e aR;have h2:=Tm (kvs:=kvs) λa he=>h a<|aE _ he;unfold Da at h2 ⊢;rw[List.flatMap_cons,N_,B_,aX];omega
abbrev nAw:oA Str:=["tops","arrows","top","pairs"]
def FY:FnScope nAw oP (Ad MP):=Bm<|by decide +kernel
def HW:(["cost","bits","top"]:oA Str).Nodup:=by decide +kernel
structure TopQ(μ:M)(d:lM)(Pf:Nat×Nat->oA Pr)(kvs:oA<|(Nat×Nat)×lM):Prop where
 dd:μ d=some (.dt<|kvs.map kvT)
 ll:∀e∈kvs,μ e.2=oH ((Pf e.1).map A7)/\e.2≠d/\(Pf e.1).length<=992/\∀z∈Pf e.1,z.2<32
 n:kvs.length<=20
def YD:ASp:=λb a R=>∃(d:lM) (Pf:Nat×Nat->oA Pr) (kvs:oA<|(Nat×Nat)×lM),b=[.R d]/\TopQ a d Pf kvs/\∀(l:lM) μ',a l=none->μ' l=oH ((Da Pf kvs).map Th)->Sub (Ck a d) μ'->R (.R l) μ'
def YE{n:Nat}(F:Fun K "as_arrows" "as_arrows" MP f fd) (cAs:VCal P w K mg base n "as_stands" oY NS):FnOk P w K mg base Dz (n+1) f fd oP (Fb K 1 YD):=by
 refine F.vok FY λap A X s H E hr=>⟨_,(Af (Aq (i:=1) FY.nd rfl oI<|Cf Ae)<|Af (Ic aO rfl (vv 0) (Ay (Aj (i:=2) FY.nd rfl oJ)<|Ay (Aj (i:=3) FY.nd rfl oI) B8)<|Ai<|Bu<|E4 eM eO F0 (vv 1)<|Aa (Bg (N':=["cost","bits","top"]) (mp:=[none,none,some 2]) rfl (Bc<|vv 3) (λ_ _ _ _=>(Ds (n:=2) rfl<|Ay (Aj (i:=0) HW rfl oI oJ)<|Ay (Aj (i:=1) HW rfl oI oJ) B8)) (λ_ _ _ _=>Bl) (λ_ _ _ _=>(Ba Cj (vv 2)<|Br<|Aa (Al cAs hr rfl<|Aa (vv 1) Ae)<|Aa (vv 0) Ae))<|Aw (N:=nAw) (pn:=(Ad MP).names)<|by decide +kernel) Ae)<|Ai<|A6<|vv 1),?_⟩
 rintro xs I R _ ⟨d,Pf,kvs,rfl,T,q⟩;intro l L;have ld:l≠d:=by rintro rfl;rw[T.dd]at L;cases L
 refine A0 (λG a=>∃g C,G=[oE d,oE l,g,C]/\a l=oH ((Da Pf kvs).map Th)/\Sub (Ck I d) a) (λZ hZ=>?_) ?_;refine Ac (x:=MO.dt<|kvs.map kvT) (by rw[Ag ld.symm];exact T.dd) ?_;refine Kq (λi G a=>∃g C,G=[oE d,oE l,g,C]/\a l=oH ((Da Pf<|kvs.take i).map Th)/\Sub (Ck I d) a) ⟨none,none,rfl,?_,?_⟩ ?_ ?_;rw[Bb ld];exact Ab;intro b m hb;have jg:b≠d:=λz=>by rw[z]at hb;unfold Ck at hb;rw[P_ rfl]at hb;cases hb
 rw[Bb jg]at hb ⊢;rw[Ag<|by rintro rfl;rw[L]at hb;cases hb];exact hb;rintro i v G r W hv ⟨g,C,rfl,t,B⟩ hW;rw[M_]at hv;obtain⟨e,he,rfl⟩:=J_.mp hv;obtain⟨i6,hed,hel,heb⟩:=T.ll e<|aA he;have Q:r e.2=oH ((Pf e.1).map A7):=B _ _ (by rw[Bb hed];exact i6);have hi:=(D_.mp he).1;have hn9:=T.n;have bt:Da Pf (kvs.take<|i+1)=Da Pf (kvs.take i)++(Pf e.1).map λz=>⟨e.1.1,e.1.2,Cr z.2,z.1⟩:=by unfold Da;rw[aS,he,List.flatMap_append];simp
 have jh:=Tm (Pf:=Pf) (kvs:=kvs.take i) λe' bd=>(T.ll e'<|dZ bd).2.2.1;rw[aU]at jh;refine⟨Ac t trivial,Ac (Am Q) λV p=>?_⟩;have w5:l≠V:=by rintro rfl;rw[t]at p;cases p
 have v4:e.2≠V:=by rintro h;rw[h,p]at Q;cases Q
 have J:∀{ν:M} {o:MO},Sub (Ck I d) ν->Sub (Ck I d) (Ao ν V o):=λS=>S.new<|B.none p;refine Ep (λj k u a=>∃o1 g,u=[o1,g,oG<|.tuple [.int (e.1.1:Nat),.int (e.1.2:Nat)]]/\k=(((Pf e.1).take j).map λz=>Th ⟨e.1.1,e.1.2,Cr z.2,z.1⟩)/\a V=oH k/\a e.2=oH ((Pf e.1).map A7)/\a l=oH ((Da Pf<|kvs.take i).map Th)/\Sub (Ck I d) a) ⟨none,none,rfl,rfl,Ab,by rw[Ag v4];exact Q,by rw[Ag w5];exact t,J B⟩ (by rintro _ _ _ _ ⟨_,_,_,_,_,e2,_⟩;exact Am e2) ?_ ?_;rintro j v k u μ2 W2 gw ⟨o1,g,rfl,rfl,O,f2,f3,Y⟩ hW2;rw[M_]at gw;obtain⟨⟨c,b⟩,y,rfl⟩:=J_.mp gw;have hj:=(D_.mp y).1;refine⟨rfl,Pt<|L3 rfl ⟨b,rfl,heb _<|aA y,λμ3 U=>⟨by show 2+2<=sizeLine;decide,U _ _ O,NT<|by rw[B_,aU];omega,hW2 _ _ _ ⟨_,_,rfl,?_,Ab,by rw[Ag v4];exact U _ _ f2,by rw[Ag w5];exact U _ _ f3,J<|Y.trans U⟩⟩⟩⟩;rw[aS,y,L_];rfl;rintro k u μ2 ⟨o1,g,rfl,rfl,O,f2,f3,Y⟩;rw[B_,aN]at O;refine Ac f3 (Ac O ⟨eB<|NT<|by rw[B_,B_];omega,hW _ _ ⟨_,_,rfl,?_,?_⟩⟩);rw[Ab,bt,L_,aB];rfl;exact Y.new (by rw[Bb ld];exact L);rintro G r ⟨g,C,rfl,t,B⟩;rw[B_,aN]at t;exact hZ _ _ ⟨_,_,rfl,t,B⟩;rintro G r ⟨g,C,rfl,t,B⟩;exact⟨_,Sub.refl,q l r L t B⟩
end
section
variable {P:lO}{w:lP}{K:lN}{mg:Str->oB lJ}{base:lS}{f:lM}{fd:lV}
structure GmOk(g:Gam):Prop where
 p:g.pl.length<=3
 r:g.rs.length<=8
 ok:∀r∈g.rs,r.p<g.pl.length/\r.q<g.pl.length/\r.x<2/\r.w.length<=2
def GmOk.gq{g:Gam}(h:GmOk g):GqOk g:=⟨I_ h.p<|by decide,h.r,λr d=>by obtain⟨a,b,_,c⟩:=h.ok r d;exact⟨a,S_ b<|I_ h.p<|by decide,c⟩⟩
def GmOk.rs{g:Gam}(h:GmOk g):RgOk g:=⟨I_ h.p<|by decide,λr a=>by obtain⟨_,b,_,c⟩:=h.ok r a;exact⟨b,c⟩⟩
def T6:oA (Nat×Nat):=[(0,0),(0,1),(1,0),(1,1),(2,0),(2,1)]
def in6{k:Nat×Nat}(h1:k.1<3)(h2:k.2<2):k∈T6:=by
 obtain⟨i,j⟩:=k;have a:∀(i:_root_.Fin 3) (j:_root_.Fin 2),(i.val,j.val)∈T6:=by decide +kernel
 exact a ⟨i,h1⟩ ⟨j,h2⟩
def GmOk.pt{g:Gam}(h:GmOk g){k:Nat×Nat}(hk:rgp g.rs k≠[]):k.1<g.pl.length/\k∈T6:=by obtain⟨r,h2⟩:=dQ _ hk;obtain⟨d,b⟩:=bK.mp h2;unfold Fo at b;rw[Z_,aZ,aZ]at b;obtain⟨a,_,c,_⟩:=h.ok r d;rw[b.1]at a;rw[b.2]at c;exact⟨a,in6 (S_ a h.p) c⟩
structure MI(g:Gam)(B:Tops)(E:oA Nat)(G:Tops):Prop where
 n:∀k,((G k).map (·.2)).Nodup
 b:∀k,∀z∈G k,z.2<32
 u:∀k,Under (B k) (G k)
 s:P8 G (LPre g λp w=>Eh B E w p)
 l:∀k,k∉T6->(G k).length<=(B k).length
section
variable {g:Gam}{B G N Wf Pf:Tops}{E:oA Nat}{kvs kw:oA<|(Nat×Nat)×lM}
def MI.tb(h:MI g B E G):Nx G:=λk=>⟨Ru (h.n k)<|h.b k,h.b k⟩
theorem MI.more(a:GmOk g)(h:MI g B E G)(m:More g G N):MI g B E (λk=>G k++N k) :=
 ⟨m.nd h.n,λk z hz=>(R_.mp hz).elim (h.b k z) λhz=>(m.f k z hz).2.1,λk=>(h.u k).more,m.snd a.rs h.s,λk hk=>by
  have e:N k=[]:=bS λc=>hk (a.pt (m.k k c).2).2;rw[e,cH];exact h.l k hk⟩
def YF{P:oA Pr}(h:(P.map (·.2)).Nodup):P.Nodup:=(List.pairwise_map.mp h).imp λh e=>h<|bV _ e
def MI.start(a:∀k,CvA (B k)<|G k)(hb:∀k,∀z∈B k,z.2<32)(b:∀k,∀p∈B k,∀t∈Cr p.2,g.pl.length<=t):MI g B E G :=
 ⟨λk=>(a k).u,λk z hz=>hb k z<|(a k).m z hz,λk=>P9 (a k).c,λk p hp v hv=>FT b k p ((a k).m p hp) v hv,λk _=>Gp (YF (a k).u) (a k).m⟩
structure Wt(g:Gam)(G Wf:Tops)(kw:oA<|(Nat×Nat)×lM):Prop where
 k:∀e∈kw,rgp g.rs e.1≠[]
 w:∀e∈kw,Wf e.1≠[]/\(∀z∈Wf e.1,(∃y∈Gk g G e.1,y.2=z.2)/\z.2<32/\∀y∈G e.1,¬Wn y z)/\((Wf e.1).map (·.2)).Nodup
 c:kw=[]->∀k,rgp g.rs k≠[]->Under (Gk g G k) (G k)
def YG(hk:∀k,(∃e∈kvs,e.1=k)↔rgp g.rs k≠[])(hp:∀e∈kvs,Cv ((Gk g G e.1).map up1)<|Pf e.1)(W:WtOk G Pf kvs Wf kw):Wt g G Wf kw:=by refine⟨λe he=>?_,λe he=>?_,λh k n=>?_⟩;obtain⟨d,h1,h2⟩:=W.k e he;exact(hk _).mp ⟨d,h1,h2⟩;obtain⟨d,h1,h2⟩:=W.k e he;obtain⟨j,i,l⟩:=W.w e he;have C:=hp d h1;rw[h2]at C;exact⟨j,λz hz=>⟨by obtain⟨y,hy,e⟩:=E_.mp<|C.m z<|i.subset hz;exact⟨y,hy,bV (·.2) e⟩,C.b z<|i.subset hz,l z hz⟩,C.u.sublist<|i.map _⟩;obtain⟨d,h1,rfl⟩:=(hk k).mpr n;refine P9 λy hy=>?_;obtain⟨z,hz,a⟩:=(hp d h1).c _<|E_.mpr ⟨y,hy,rfl⟩;rcases W.c d h1 z hz with⟨x,hx,b⟩|⟨e,he,_⟩;exact⟨x,hx,b.trans a⟩;rw[h]at he;cases he
def FZ{c:Nat}(b:GmOk g)(W:Wt g G Wf kw)(C:Chp Wf N kw c):More g G N:=by
 have a:∀k,N k≠[]->∃e∈kw,e.1=k:=λk hk=>bS λz=>hk<|C.o k λe he h=>z ⟨e,he,h⟩;refine⟨λk hk=>?_,λk z hz=>?_,λk=>?_⟩;obtain⟨e,he,rfl⟩:=a k hk;exact⟨(b.pt<|W.k e he).1,W.k e he⟩;obtain⟨e,he,rfl⟩:=a k λc=>by rw[c]at hz;cases hz
 rw[C.i e he]at hz;exact(W.w e he).2.1 z (bK.mp hz).1;by_cases h:N k=[];rw[h];exact bO;obtain⟨e,he,rfl⟩:=a k h;rw[C.i e he];exact(W.w e he).2.2.sublist (gX.map _)
def cnt(G:Tops):Nat:=(T6.map λk=>(G k).length).sum
theorem BF{f g:Nat×Nat->Nat}(b:∀k,f k<=g k){k:Nat×Nat}(hk:f k<g k):∀{l:oA<|Nat×Nat},(l.map f).sum<=(l.map g).sum/\(k∈l->(l.map f).sum<(l.map g).sum)
 |[]=>⟨F_ _,λh=>nomatch h⟩
 |x::l=>by obtain⟨h1,h2⟩:=BF b hk (l:=l);have a:=b x;rw[a_,a_,fY,fY];refine⟨Nat.add_le_add a h1,λh=>?_⟩;rcases aK.mp h with rfl|h;exact Nat.add_lt_add_of_lt_of_le hk h1;exact Nat.add_lt_add_of_le_of_lt a<|h2 h
def BG{c:Nat}(b:GmOk g)(W:Wt g G Wf kw)(C:Chp Wf N kw c)(hc:∃e∈kw,∃z∈Wf e.1,z.1=c):cnt G<cnt λk=>G k++N k:=by
 obtain⟨e,he,z,hz,a⟩:=hc;have h1:z∈N e.1:=by rw[C.i e he];exact bK.mpr ⟨hz,aP a⟩
 refine(BF (λk=>?_) (k:=e.1) ?_).2 (b.pt<|W.k e he).2;rw[N_];exact dP _ _;rw[N_];exact Nat.lt_add_of_pos_right<|List.length_pos_of_mem h1
theorem Tn{A:oA Ar}(b:Nx G)(h:∀k,k∉T6->(G k).length<=(grp A k).length):∀a:oA<|Nat×Nat,(a.map λk=>(G k).length).sum<=32*(a.filter λk=>decide (k∈T6)).length+(a.map λk=>(grp A k).length).sum
 |[]=>bH _
 |k::a=>by have d:=Tn b h a;have h1:=(b k).1;rw[a_,a_,fY,fY,fF];by_cases c:k∈T6;rw[P_<|aP c,aX];omega;rw[H_<|by rw[aL c];decide];have:=h k c;omega
def GA{A:oA Ar}(a:Nx G)(h:∀k,k∉T6->(G k).length<=(grp A k).length){ks:oA<|Nat×Nat}(hn:ks.Nodup):(ks.map λk=>(G k).length).sum<=192+A.length:=by have h1:=Tn a h ks;have h2:=Tl (A:=A) hn;have b:(ks.filter λk=>decide (k∈T6)).length<=6:=Gp (ys:=T6) (hn.sublist gX) λk hk=>aC (bK.mp hk).2;omega
def BH(h:Nx G):cnt G<=192:=by
 have a:∀l:oA<|Nat×Nat,(l.map λk=>(G k).length).sum<=32*l.length:=λl=>by
  induction l with
  |nil=>exact F_ _
  |cons k l b=>have:=(h k).1;rw[a_,fY,aX];omega
 exact a T6
def OH{A:oA Arw}{c w:oA Nat}{x q:Nat}:rd A c (x::w) q=true↔∃a∈A,a.p=q/\a.x=x/\∀t∈a.ts,rd A c w t=true:=by rw[rd,bP];constructor;rintro⟨a,ha,e⟩;rw[Z_,bY]at e;have b:=aC e.1;exact⟨a,ha,b.1,b.2,e.2⟩;rintro⟨a,ha,h1,h2,d⟩;exact⟨a,ha,by rw[Z_,bY];exact⟨aP ⟨h1,h2⟩,d⟩⟩
def OI{A:oA Arw}{a:oA Nat}{q:Nat}:rd A a [] q=true↔q∈a:=aZ
theorem Ny{c:oA Arw}(h1:∀k,∀z∈G k,∃a∈c,a.p=k.1/\a.x=k.2/\∀t,t∈a.ts↔t∈Cr z.2)(h2:∀a∈c,∃z∈G (a.p,a.x),∀t,t∈a.ts↔t∈Cr z.2):∀(w:oA Nat) (s:Nat),rd c E w s=true↔Eh G E w s
 |[],s=>OI
 |x::w,s=>by rw[OH];constructor;rintro⟨a,ha,rfl,rfl,h⟩;obtain⟨z,hz,e⟩:=h2 a ha;exact⟨z,hz,λt b=>(Ny h1 h2 w t).mp<|h t<|(e t).mpr b⟩;rintro⟨z,hz,h⟩;obtain⟨a,ha,d,i,e⟩:=h1 (s,x) z hz;exact⟨a,ha,d,i,λt b=>(Ny h1 h2 w t).mpr<|h t<|(e t).mp b⟩
end
def Jd(a:Arw):Ar:=⟨a.p,a.x,a.ts,0⟩
def YH(a:Ar):Arw:=⟨a.p,a.x,a.ts,some a.c⟩
theorem To(t:Nat):∀(ts:oA Nat) (b:Nat),(ts.foldl (λb k=>b ||| 2^k) b).testBit t=(b.testBit t||ts.contains t)
 |[],b=>by simp
 |u::ts,b=>by rw[fP,To t ts,Nat.testBit_or,Nat.testBit_two_pow,List.contains_cons,Bool.or_assoc];congr 2;exact fG.mpr ⟨Eq.symm,Eq.symm⟩
def Rx{ts:oA Nat}(h:∀t∈ts,t<5)(t:Nat):t∈ts↔t∈Cr (bts ts):=by rw[Dm];unfold bts;rw[To,Nat.zero_testBit,kT,List.contains_iff_mem];exact⟨λz=>⟨h t z,z⟩,λz=>z.2⟩
def K7{S:oA Arw}{k:Nat×Nat}{z:Pr}:z∈grp (S.map Jd) k↔∃a∈S,a.p=k.1/\a.x=k.2/\z=(0,bts a.ts):=by unfold grp;rw[E_];constructor;rintro⟨a,ha,rfl⟩;obtain⟨h1,h2⟩:=bK.mp ha;obtain⟨b,hb,rfl⟩:=E_.mp h1;unfold El at h2;rw[Z_,aZ,aZ]at h2;exact⟨b,hb,h2.1,h2.2,rfl⟩;rintro⟨a,ha,h1,h2,rfl⟩;exact⟨Jd a,bK.mpr ⟨E_.mpr ⟨a,ha,rfl⟩,by rw[show k=((Jd a).p,(Jd a).x) from kK h1.symm h2.symm];exact K6 _⟩,rfl⟩
def GB{S:oA Arw}{E:oA Nat}(h:∀a∈S,∀t∈a.ts,t<5)(w:oA Nat)(s:Nat):rd S E w s=true↔Eh (grp<|S.map Jd) E w s :=
 Ny (λk z hz=>by
  obtain⟨a,ha,h1,h2,rfl⟩:=K7.mp hz;exact⟨a,ha,h1,h2,Rx<|h a ha⟩) (λa ha=>⟨(0,bts a.ts),K7.mpr ⟨a,ha,rfl,rfl,rfl⟩,Rx<|h a ha⟩) w s
def Nz{Pf:Tops}{kvs:oA<|(Nat×Nat)×lM}{a:Ar}:a∈Da Pf kvs↔∃e∈kvs,∃z∈Pf e.1,a=⟨e.1.1,e.1.2,Cr z.2,z.1⟩:=by unfold Da;rw[dE];constructor;rintro⟨e,he,h⟩;obtain⟨z,hz,rfl⟩:=E_.mp h;exact⟨e,he,z,hz,rfl⟩;rintro⟨e,he,z,hz,rfl⟩;exact⟨e,he,E_.mpr ⟨z,hz,rfl⟩⟩
def BI{G:Tops}{E:oA Nat}{d:oA<|(Nat×Nat)×lM}(i:∀k,(∀e∈d,e.1≠k)->G k=[]){g:oA Arw}(hm:∀a,a∈g↔∃b∈Da G d,YH b=a)(w:oA Nat)(s:Nat):rd g E w s=true↔Eh G E w s :=
 Ny (λk z hz=>by
  obtain⟨e,he,rfl⟩:∃e∈d,e.1=k:=bS λc=>by rw[i k λe he h=>c ⟨e,he,h⟩]at hz;cases hz
  exact⟨_,(hm _).mpr ⟨_,Nz.mpr ⟨e,he,z,hz,rfl⟩,rfl⟩,rfl,rfl,λ_=>Iff.rfl⟩) (λa ha=>by
  obtain⟨b,hb,rfl⟩:=(hm a).mp ha;obtain⟨e,he,z,hz,rfl⟩:=Nz.mp hb;exact⟨z,hz,λ_=>Iff.rfl⟩) w s
end
section
variable {P:lO}{w:lP}{K:lN}{mg:Str->oB lJ}{base:lS}{f:lM}{fd:lV}
structure Gd(np:Nat)(s:Say):Prop where
 t:∀a∈s.as,∀t∈a.ts,np<=t/\t<np+s.own
 p:∀a∈s.as,a.p<np+s.own
 c:∀a∈s.as,a.c=none
structure SyOk(g:Gam)(s:Say):Prop where
 d:Gd g.pl.length s
 n:s.as.length<=8
 x:∀a∈s.as,a.x<2
 o:g.pl.length+s.own<=5
def Kpt.sub{a g:M}{d:lM}{G:Tops}{c:oA<|(Nat×Nat)×lM}(h:Kpt a d G c)(S:Sub a g):Kpt g d G c:=⟨⟨S _ _ h.D.dd,λe he=>⟨S _ _ (h.D.ll e he).1,(h.D.ll e he).2⟩,h.D.n,h.D.uu⟩,h.o,h.b⟩
def BJ{g:Gam}{G:Tops}{s:oA<|(Nat×Nat)×lM}{dk:lM}{a:M}{R:AV->M->Prop}(t:GmOk g)(T:Kpt a dk G s)(r:Nx G)(q:∀d l k c,Kpt c dk G s->DcK c d l k->Wt g G l k->d≠dk->a d=none->Sub a c->R (.R d) c):OE [.D<|B6 g,.R dk,.D<|.bool true] a λv j=>OF [.R dk,v] j R:=by
 refine⟨g,dk,G,rfl,t.gq,T.top,r,λx u p j Q=>⟨dk,x,G,u,p,rfl,T.top.sub Q.ss,r,⟨Q.dd,Q.ll,I_ Q.n<|by decide,Q.uu⟩,λe he=>⟨(Q.pf e he).len,(Q.pf e he).b⟩,?_,λd l k h D W o S=>?_⟩⟩;rintro rfl;have:=T.D.dd;rw[Q.nd]at this;cases this;have i:Sub a h:=λb m hb=>S _ _<|by
  rw[Bb<|by rintro rfl;rw[Q.nd]at hb;cases hb];exact Q.ss _ _ hb
 refine q d l k h (T.sub i) D (YG Q.kk Q.pf W) ?_ (Q.ss.none o) i;rintro rfl;rw[Q.ss _ _ T.D.dd]at o;cases o
abbrev nMc:oA Str:=["game","saying","most","kept","top","pairs","waiting"]
def V2:FnScope nMc qX (Ad MM):=Bm<|by decide +kernel
def YI:(["arrow"]:oA Str).Nodup:=by decide +kernel
def YJ:ASp:=λd c R=>∃(g:Gam) (s:Say),d=[.D<|B6 g,.D<|Ef s,.D<|.int 200]/\GmOk g/\SyOk g s/\∀(b:oA Arw) μ',b.length<=400->(∀a∈b,a.ts.length<=400)->(∀p w,p<g.pl.length->(rd b s.es w p=true↔Pre g (λp w=>rd s.as s.es w p=true) p w))->Sub c μ'->R (.D<|.tuple<|b.map Bo) μ'
def YK{n:Nat}{T:lM}(F:FunD K "machine" "machine" MM f fd T) (cAt:VCal P w K mg base n "arrows_by_top" qS XC) (cLa:VCal P w K mg base n "least_alone" oR NY) (cNk:VCal P w K mg base n "not_kept" qV OF) (cFg:VCal P w K mg base n "following" qU OE) (cHm:VCal P w K mg base n "how_many" oP XW) (cKc:VCal P w K mg base n "keep_cheapest" qW YB) (cAw:VCal P w K mg base n "as_arrows" oP YD) (ag:mg "len" = none) (al:mg "tuple" = none) (ay:mg "sorted" = none):FnOk P w K mg base Dz (n+1) f fd qX (Fb K 3 YJ):=by
 refine F.vok V2 λap A outer s H E V=>⟨_,(Af (Aq (i:=3) V2.nd rfl oI E5)<|Af (Ic aO rfl (Al cAt V rfl<|Aa (Bg (N':=["arrow"]) (mp:=[none]) rfl (Bc<|Az Be (vv 1) Ah) (λ_ _ _ _=>(Aj (i:=0) YI rfl oI oJ)) (λ_ _ _ _=>Bl) (λ_ _ _ _=>(Ba Cj (vv 0)<|Br<|Aa Ah Ae))<|Aw (N:=nMc) (pn:=(Ad MM).names)<|by decide +kernel) Ae) (Ay (Aj (i:=4) V2.nd rfl oI)<|Ay (Aj (i:=5) V2.nd rfl oI) B8)<|Ai<|Di (B9 V) (vv 3) (vv 4)<|Al cLa V rfl<|Aa (vv 5) Ae)<|Af (Aq (i:=6) V2.nd rfl oI<|Al cNk V rfl<|Aa (vv 3)<|Aa (Al cFg V rfl<|Aa (vv 0)<|Aa (vv 3)<|Aa E3 Ae) Ae)<|Af (Os aO (VW.pt<|Fh (Bd Q2 (Av ME rfl ag aG<|Aa (vv 6) Ae) Ah<|nomark _)<|D5<|Bd DN (Al cHm V rfl<|Aa (vv 3) Ae) (vv 2)<|nomark _)<|Af (Bu<|Al cKc V rfl<|Aa (vv 3)<|Aa (vv 6) Ae)<|Ai<|Aq (i:=6) V2.nd rfl oI<|Al cNk V rfl<|Aa (vv 3)<|Aa (Al cFg V rfl<|Aa (vv 0)<|Aa (vv 3)<|Aa E3 Ae) Ae)<|Af (Cl (Bd Q2 (Al cHm V rfl<|Aa (vv 3) Ae) (vv 2)<|nomark _) (Ai X0) Bi)<|Ai<|A6<|Cp Fi rfl al dI<|Aa (Av (Ix V) rfl ay h_<|Aa (Al cAw V rfl<|Aa (vv 3) Ae) Ae) Ae),?_⟩
 rintro xs I R _ ⟨g,s,rfl,hg,hs,q⟩;have t5:∀a∈s.as,∀t∈a.ts,t<5:=λa ha t ht=>S_ (hs.d.t a ha t ht).2 hs.o;have hs8:=hs.n;have hAl:(s.as.map Jd).length<=8:=by rw[B_];exact hs8
 have hB1:∀k,∀z∈grp (s.as.map Jd) k,z.2<32:=λk z hz=>by obtain⟨a,ha,_,_,rfl⟩:=K7.mp hz;exact Rw (t5 a ha)<|by decide
 have hB2:∀k,∀z∈grp (s.as.map Jd) k,∀t∈Cr z.2,g.pl.length<=t:=λk z hz t ht=>by obtain⟨a,ha,_,_,rfl⟩:=K7.mp hz;exact(hs.d.t a ha t<|(Rx (t5 a ha) t).mpr ht).1
 have hB3:∀k,grp (s.as.map Jd) k≠[]->k.1<5/\k.2<4:=λk hk=>by obtain⟨z,hz⟩:=dQ _ hk;obtain⟨a,ha,e1,e2,_⟩:=K7.mp hz;rw[<- e1,<- e2];exact⟨S_ (hs.d.p a ha) hs.o,Nat.lt_trans (hs.x a ha)<|by decide⟩
 have hBl:∀k,(grp (s.as.map Jd) k).length<=8:=λk=>by unfold grp;rw[B_];exact I_ (bX _ _) hAl
 intro dk yo;refine A0 (λL r=>∃Y o5 G y,L=[oG<|B6 g,oG<|Ef s,oF 200,oE dk,Y,o5,none]/\Kpt r dk G y/\MI g (grp<|s.as.map Jd) s.es G/\Sub I r) (λZ hZ=>?_) ?_;refine Ac (Ak (j:=1) rfl)<|Ac (Gu s.as) λpc aq=>?_;have S0:Sub I (Ao I dk<|.dt []):=Sub.refl.new yo;have e0:Ao I dk (.dt []) dk=some (.dt []):=Ab;generalize Ao I dk (.dt [])=μ0 at aq S0 e0;refine cmap s.as _ (λa=>Th<|Jd a) (λL=>∃o,L=[o]) ⟨none,rfl⟩ Ab (seven<|by omega) (λ_=>Gu s.as) ?_ ?_;rintro i a τ' acc W ha ⟨o,rfl⟩ hW;have hc:=hs.d.c a<|aA ha;obtain⟨p,x,ts,c⟩:=a;dsimp only at hc;subst hc;exact⟨by show 3+1<=sizeLine;decide,hW _ ⟨_,rfl⟩⟩;rw[Bk];have oe:dk≠pc:=by rintro rfl;rw[e0]at aq;cases aq
 have S1:Sub I (Ao μ0 pc<|.lst<|s.as.map λa=>Th<|Jd a):=S0.new<|S0.none aq;have e1:Ao μ0 pc (.lst<|s.as.map λa=>Th<|Jd a) dk=some (.dt []):=by rw[Ag oe];exact e0
 have p1:Ao μ0 pc (.lst<|s.as.map λa=>Th<|Jd a) pc=oH ((s.as.map Jd).map Th):=by rw[Ab,aB];rfl
 generalize Ao μ0 pc (.lst<|s.as.map λa=>Th<|Jd a)=μ1 at S1 e1 p1;refine⟨.R pc,s.as.map Jd,rfl,Am p1,I_ hAl<|by decide,λa ha t ht=>?_,λd J μ2 T=>?_⟩;obtain⟨b,hb,rfl⟩:=E_.mp ha;exact t5 b hb t ht;refine Ac T.dd ?_;have dkd:dk≠d:=by rintro rfl;have:=T.fd;rw[e1]at this;cases this
 have d0:I d=none:=S1.none T.fd;have S2:Sub I (Ck μ2 d):=λb m hb=>by rw[Bb<|by rintro rfl;rw[d0]at hb;cases hb];exact T.ss _ _<|S1 _ _ hb
 have e2:Ck μ2 d dk=some (.dt<|([]:oA<|(Nat×Nat)×lM).map kvT):=by rw[Bb dkd];exact T.ss _ _ e1
 have l2:∀e∈J,Ck μ2 d e.2=oH ((grp (s.as.map Jd) e.1).map A7)/\e.2≠dk:=λe he=>by obtain⟨h1,h2⟩:=T.fe e he;exact⟨by rw[Bb h2];exact T.ll e he,λz=>by rw[z,e1]at h1;cases h1⟩
 refine Kq (λi L r=>∃Y o5 G y,L=[oG<|B6 g,oG<|Ef s,oF 200,oE dk,Y,o5,none]/\Kpt r dk G y/\(∀e∈J.take i,CvA (grp (s.as.map Jd) e.1)<|G e.1)/\(∀k,(∀e∈J.take i,e.1≠k)->G k=[])/\(∀e∈J,r e.2=oH ((grp (s.as.map Jd) e.1).map A7))/\Sub I r) ⟨none,none,λ_=>[],[],rfl,⟨⟨e2,(λ_ h=>nomatch h),bH _,bO⟩,λ_ _=>rfl,(λ_ h=>nomatch h)⟩,(λ_ h=>nomatch h),λ_ _=>rfl,λe he=>(l2 e he).1,S2⟩ ?_ ?_;rintro i v L μ3 W hv ⟨Y,o5,G,y,rfl,T3,hC,hO,hL,S3⟩ hW;rw[M_]at hv;obtain⟨e,he,rfl⟩:=J_.mp hv;have gu:=aA he;have bt:J.take (i+1)=J.take i++[e]:=by rw[aS,he];rfl
 have bx:∀Q∈J.take i,Q.1≠e.1:=λQ bd c=>by have h3:((J.take<|i+1).map (·.1)).Nodup:=T.uu.sublist<|(eX _ _).map _;rw[bt,L_,bB]at h3;exact h3.2.2 Q.1 (E_.mpr ⟨Q,bd,rfl⟩) e.1 (by simp) c
 dsimp only[Fm,Eb,Oq,List.set,kvT,X7];refine⟨e.2,grp (s.as.map Jd) e.1,rfl,hL e gu,I_ (hBl e.1)<|by decide,hB1 e.1,λzs l μ4 C hl e4 U=>?_⟩;have ep:dput (.dt<|y.map kvT) (.tuple [.int (e.1.1:Nat),.int (e.1.2:Nat)]) (.R l)=some (.dt<|(putK y e.1 l).map kvT):=by rw[<- XY];rfl
 have ldk:l≠dk:=by rintro rfl;rw[T3.D.dd]at hl;cases hl
 have zgu:=T3.D.n;refine Ac (U _ _ T3.D.dd) (Ac ep ⟨A8<|show(y.map kvT).length<=1000 by rw[B_];omega,hW _ _ ⟨_,_,λk=>if k=e.1 then zs else G k,putK y e.1 l,rfl,?_,λQ bd=>?_,λk hk=>?_,λQ bd=>?_,Dy (S3.trans U) yo⟩⟩);exact(T3.sub U).put (hB3 _<|(T.kk e.1).mp ⟨e,gu,rfl⟩) (by rw[P_ rfl];exact e4) ldk λj hj=>H_ hj;rw[bt]at bd;dsimp only;rcases R_.mp bd with h|h;rw[H_<|bx Q h];exact hC Q h;rw[G_.mp h,P_ rfl];exact C;rw[bt]at hk;dsimp only;rw[H_ λz=>hk e (by simp) z.symm];exact hO k λQ bd=>hk Q<|aF _ bd;rw[Ag (l2 Q bd).2];exact U _ _<|hL Q bd;rintro L μ3 ⟨Y,o5,G,y,rfl,T3,hC,hO,hL,S3⟩;rw[B_,aN]at hC hO;refine hZ _ _ ⟨_,_,G,y,rfl,T3,MI.start (λk=>?_) hB1 hB2,S3⟩;by_cases h:∃e∈J,e.1=k;obtain⟨e,he,rfl⟩:=h;exact hC e he;rw[hO k λe he c=>h ⟨e,he,c⟩,show grp (s.as.map Jd) k=[] from bS λc=>h<|(T.kk k).mpr c];exact⟨(λ_ h=>nomatch h),(λ_ h=>nomatch h),bO⟩;rintro L μ1 ⟨Y,o5,G,y,rfl,T,B,S1⟩;refine A0 (λL r=>∃M X O,L=[oG<|B6 g,oG<|Ef s,oF 200,oE dk,Y,o5,oE M]/\Kpt r dk G y/\DcK r M X O/\Wt g G X O/\M≠dk/\I M=none/\Sub I r) (λZ hZ=>?_) ?_;exact BJ (R:=λv r=>Z [oG<|B6 g,oG<|Ef s,oF 200,oE dk,Y,o5,some v] r) hg T B.tb λM X O μ2 T2 D2 W2 h1 h2 S2=>hZ _ _ ⟨M,X,O,rfl,T2,D2,W2,h1,S1.none h2,S1.trans S2⟩;clear T S1;rintro L μ2 ⟨M,X,O,rfl,T2,D2,W2,j9,w0,S2⟩;have ju:∀{I G y},Kpt I dk G y->MI g (grp<|s.as.map Jd) s.es G->(y.map λe=>(G e.1).length).sum<=200:=λ{I G y} T B=>by have:=GA B.tb B.l T.D.uu;rw[aB]at this;exact I_ this<|by omega
 refine A0 (λL r=>∃o6 G y,L=[oG<|B6 g,oG<|Ef s,oF 200,oE dk,Y,o5,o6]/\Kpt r dk G y/\MI g (grp<|s.as.map Jd) s.es G/\(∀k,rgp g.rs k≠[]->Under (Gk g G k) (G k))/\Sub I r) (λZ hZ=>?_) ?_
 ·refine Si (λm L r=>∃M X O G y,L=[oG<|B6 g,oG<|Ef s,oF 200,oE dk,Y,o5,oE M]/\Kpt r dk G y/\DcK r M X O/\Wt g G X O/\MI g (grp<|s.as.map Jd) s.es G/\M≠dk/\I M=none/\cnt G+m=192/\Sub I r) (192-cnt G) ⟨M,X,O,G,y,rfl,T2,D2,W2,B,j9,w0,Nat.add_sub_cancel'<|BH B.tb,S2⟩ ?_;clear T2 D2 W2 B j9 w0 S2;rintro m L μ3 W ⟨M,X,O,G,y,rfl,T,D,Wk,B,hd,w0,hm,S⟩ hW;refine Ac D.dd<|dif (λc=>?_) λc=>?_;have hkw:O≠[]:=by
   rintro rfl;exact absurd c<|by decide
  refine⟨dk,G,y,rfl,T.D,λe he=>(B.tb e.1).1,λμ4 U=>dif (λc2=>?_) λc2=>absurd (Int.ofNat_le.mpr<|ju T B) c2⟩;have hP:=λe he=>hg.pt<|Wk.k e he;refine⟨dk,M,G,X,y,O,rfl,T.sub U,⟨U _ _ D.dd,λe he=>⟨U _ _ (D.ll e he).1,(D.ll e he).2⟩,D.n,D.uu⟩,hkw,λe he=>(Wk.w e he).1,λe he=>?_,B.tb,λe he=>?_,hd.symm,λc N r9 μ5 ff C T5 S5=>?_⟩;have h1:=(hP e he).2;simp only[T6,List.mem_cons,List.not_mem_nil,or_false]at h1;rcases h1 with h|h|h|h|h|h<;>rw[h]<;>decide;obtain⟨_,h2,h3⟩:=Wk.w e he;exact⟨Ru h3 λz hz=>(h2 z hz).2.1,λz hz=>(h2 z hz).2.1⟩;have hM5:=B.more hg<|FZ hg Wk C;have hc5:=BG hg Wk C ff;have ku:=BH hM5.tb;have S05:Sub I μ5:=λb m hb=>S5 _ _<|by
   rw[Bb (by rintro rfl;rw[yo]at hb;cases hb),Bb<|by rintro rfl;rw[w0]at hb;cases hb];exact U _ _<|S _ _ hb
  exact BJ (R:=λv r=>W [oG<|B6 g,oG<|Ef s,oF 200,oE dk,Y,o5,some v] r) hg T5 hM5.tb λdw2 Wf2 kw2 μ6 T6 D6 W6 h1 h2 S6=>hW (192-cnt λk=>G k++N k) _ _ (by omega) ⟨dw2,Wf2,kw2,_,r9,rfl,T6,D6,W6,hM5,h1,S05.none h2,Nat.add_sub_cancel' ku,S05.trans S6⟩
  ·have hkw:O=[]:=by
    cases O with
    |nil=>rfl
    |cons e l=>exact absurd (show(0:Int)<(((e::l).map kvT).length:Nat) from by rw[B_,aX];omega) c
   exact Kd rfl<|hZ _ _ ⟨_,G,y,rfl,T,B,Wk.c hkw,S⟩
 rintro L μ3 ⟨o6,G,y,rfl,T,B,hU,S⟩;refine Ca ⟨dk,G,y,rfl,T.D,λe he=>(B.tb e.1).1,λμ4 U=>dif (λc=>absurd (lI.mp c)<|jN<|ju T B) λc=>?_⟩;have T4:=T.sub U;have hmn:=ju T B;refine⟨dk,G,y,rfl,⟨T4.D.dd,λe he=>⟨(T4.D.ll e he).1,(T4.D.ll e he).2,I_ (B.tb e.1).1<|by decide,B.b e.1⟩,T4.D.n⟩,λl μ5 hl e5 S5=>?_⟩;have ai:(Da G y).length<=200:=by unfold Da;rw[List.length_flatMap];simp only[List.length_map];exact hmn
 have hda:dats ((Da G y).map Th)=some (((Da G y).map YH).map Bo):=by rw[show(Da G y).map Th=(((Da G y).map YH).map Bo).map .D by rw[aB,aB];rfl];exact Cu _
 refine Ac e5<|Ac hda ⟨?_,λes p hp i4=>?_⟩;exact Mf (k:=true) (by rw[B_];omega) λa ha=>by
  obtain⟨a',_,rfl⟩:=E_.mp ha
  rfl
 obtain⟨Ms,rfl,ii⟩:=Fj hp ((Da G y).map YH) rfl;have dz:=ii.length_eq;rw[B_]at dz;have hmm:∀a,a∈Ms↔∃b∈Da G y,YH b=a:=λa=>by rw[ii.mem_iff,E_]
 have S6:Sub I μ5:=λb m hb=>S5 _ _<|by
  rw[Bb<|by rintro rfl;rw[yo]at hb;cases hb];exact U _ _<|S _ _ hb
 refine Ac (Am Ab) (Ac (Cu _) ⟨_,Sub.refl,q Ms _ (by omega) (λa ha=>?_) (λp w hp=>?_)<|S6.new<|S6.none i4⟩);obtain⟨b,hb,rfl⟩:=(hmm a).mp ha;obtain⟨e,he,z,hz,rfl⟩:=Nz.mp hb;exact I_ (bX _ _) (by rw[bG];decide);rw[BI T.o hmm w p,Rv hg.rs B.u hU B.s hp w,show(λp w=>Eh (grp<|s.as.map Jd) s.es w p)=(λp w=>rd s.as s.es w p=true) from funext λp=>funext λw=>propext (GB t5 w p).symm]
end
section
variable {P:lO}{w:lP}{K:lN}{mg:Str->oB lJ}{base:lS}{f:lM}{fd:lV}
section
variable {g g':Gam}{S:Nat->oA Nat->Prop}
def Pre.chg(hp:g'.pl=g.pl)(h1:∀k,hnd g k≠1->∀r∈rgp g.rs k,r∈rgp g'.rs k)(h2:∀k,hnd g k=1->rgp g.rs k≠[]->rgp g'.rs k≠[])(i:∀k,hnd g k=1->∀r∈rgp g'.rs k,r∈rgp g.rs k){p:Nat}{w:oA Nat}(h:Pre g S p w):Pre g' S p w:=by
 have e:∀k,hnd g' k=hnd g k:=λk=>by unfold hnd;rw[hp]
 induction h with
 |say a b=>exact .say (by rw[hp];exact a) b
 |one d h _ c=>exact .one (h1 _ h _ d) (by rw[e];exact h) c
 |all h j _ c=>exact .all (by rw[e];exact h) (h2 _ h j) λr d=>c r<|i _ h r d
def K8(g:Gam)(r:Rul):Gam:=⟨g.pl,g.le,g.rs++[r]⟩
def BK(g:Gam)(j:Nat):Gam:=⟨g.pl,g.le,g.rs.take j++g.rs.drop (j+1)⟩
def C2{A:oA Rul}{k:Nat×Nat}{r:Rul}:r∈rgp A k↔r∈A/\r.p=k.1/\r.x=k.2:=by unfold rgp Fo;rw[bK,Z_,aZ,aZ]
def GC{r:Rul}(d:hnd g (r.p,r.x)≠1){p:Nat}{w:oA Nat}(h:Pre g S p w):Pre (K8 g r) S p w:=by refine Pre.chg (g:=g) (g':=K8 g r) rfl (λk _ v hv=>?_) (λk _ c=>?_) (λk hk v hv=>?_) h;obtain⟨a,b⟩:=C2.mp hv;exact C2.mpr ⟨aF _ a,b⟩;obtain⟨v,hv⟩:=dQ _ c;obtain⟨a,b⟩:=C2.mp hv;exact kN<|C2.mpr ⟨aF _ a,b⟩;obtain⟨a,b⟩:=C2.mp hv;rcases R_.mp a with a|a;exact C2.mpr ⟨a,b⟩;obtain rfl:=G_.mp a;exact absurd hk<|by rw[show k=(v.p,v.x) from kK b.1.symm b.2.symm];exact d
def N0{A:oA Rul}{j:Nat}{v r:Rul}(hj:A[j]?=some v)(a:r∈A)(hn:r≠v):r∈A.take j++A.drop (j+1):=by obtain⟨i,hi,e⟩:=dU a;rcases Nat.lt_trichotomy i j with h|h|h;exact aF _ (List.mem_take_iff_getElem.mpr ⟨i,by omega,e⟩);subst h;rw[K_ hi]at hj;exact absurd (e.symm.trans<|bC hj) hn;refine aT _ (List.mem_drop_iff_getElem.mpr ⟨i-(j+1),by omega,?_⟩);rw[<- e];congr 1;omega
def Tp{A:oA Rul}{j:Nat}{r:Rul}(h:r∈A.take j++A.drop (j+1)):r∈A:=(R_.mp h).elim dZ gS
def GD{j:Nat}{v:Rul}(hj:g.rs[j]?=some v)(hv:hnd g (v.p,v.x)=1)(hb:∃r∈g.rs,r≠v/\r.p=v.p/\r.x=v.x){p:Nat}{w:oA Nat}(h:Pre g S p w):Pre (BK g j) S p w:=by refine Pre.chg (g:=g) (g':=BK g j) rfl (λk hk r d=>?_) (λk _ i=>?_) (λk _ r d=>?_) h;obtain⟨a,b⟩:=C2.mp d;refine C2.mpr ⟨N0 hj a ?_,b⟩;rintro rfl;exact hk (by rw[show k=(r.p,r.x) from kK b.1.symm b.2.symm];exact hv);obtain⟨r,d⟩:=dQ _ i;obtain⟨a,b⟩:=C2.mp d;by_cases c:r=v;subst c;obtain⟨u,hu,h1,h2,e⟩:=hb;exact kN<|C2.mpr ⟨N0 hj hu h1,h2.trans b.1,e.trans b.2⟩;exact kN<|C2.mpr ⟨N0 hj a c,b⟩;obtain⟨a,b⟩:=C2.mp d;exact C2.mpr ⟨Tp a,b⟩
end
end
section
variable {P:lO}{w:lP}{K:lN}{mg:Str->oB lJ}{base:lS}{f:lM}{fd:lV}
def _root_.L2.XCal.mono{P:lO}{w:lP}{K:lN}{mg:Str->oB lJ}{base:lS}{j k:Nat}{x:Str}{C:lM}{a:oA Str}(c:XCal P w K mg base j x C a)(h:j<=k):XCal P w K mg base k x C a :=
 by obtain⟨f,fd,b,G,r⟩:=c;exact⟨f,fd,b,G.mono h,r⟩
def Fp(r:Rul):Rz:=⟨r.p,r.x,r.q,r.w.map λ(n:Nat)=>(n:Int)⟩
def Lj(g:Gam):Gz:=⟨g.pl,g.le,g.rs.map Fp⟩
def BL(ns:oA Nat):Bq ns=.tuple ((ns.map λ(n:Nat)=>(n:Int)).map .int):=by unfold Bq;rw[aB];rfl
def N1(r:Rul):Co r=Fa (Fp r):=by unfold Co Fa Fp;rw[BL]
def N2(g:Gam):B6 g=Kz (Lj g):=by unfold B6 Kz Lj;rw[aB,show Co=Fa ∘ Fp from funext N1]
def Tq{a b:Rul}(h:Fp a=Fp b):a=b:=by
 obtain⟨p,x,q,w⟩:=a;obtain⟨i,e,d,g⟩:=b;simp only[Fp,Rz.mk.injEq]at h;obtain⟨h1,h2,j,c⟩:=h;have c:w=g:=by have:=bV (List.map Int.toNat) c;simpa [List.map_map,Function.comp_def] using this
 subst c;rw[show p=i by omega,show x=e by omega,show q=d by omega]
def Ry(B:oA Rul):B4 (B.map Fp)=pushes B:=by unfold B4 pushes;rw[List.filter_map,B_];congr 1;refine kS λr _=>?_;show decide ((r.w.map _).length=2)=_;rw[B_]
def BM(B:oA Rul)(v:Rul):D4 (B.map Fp) (Fp v)=Ky B v:=by unfold D4 Ky;rw[List.filter_map,B_];congr 1;refine kS λr _=>?_;exact fG.mpr ⟨λh=>⟨by have:=h.1;simp only[Fp]at this;omega,by have:=h.2;simp only[Fp]at this;omega⟩,λh=>⟨by simp only[Fp];omega,by simp only[Fp];omega⟩⟩
def BN{g:Gam}{b:Nat}(h:GamOk g 3 3 8 b):GzOk (Lj g):=by refine⟨h.p0,h.p1,h.l0,h.l1,h.pn,h.ln,?_,λr a=>?_,h.hd⟩;show(g.rs.map Fp).length<=20;rw[B_];exact I_ h.r1 (by decide);obtain⟨v,hv,rfl⟩:=E_.mp a;have:=(h.ru v hv).n;show(v.w.map _).length<=20;rw[B_];omega
def Qb{g:Gam}(h:GamOk g 3 3 8 3):fits (Lj g)=true:=by
 refine Dt.mpr ⟨?_,λi r e=>?_,?_⟩;show(g.rs.map Fp).length<=8;rw[B_];exact h.r1;have e:(g.rs.map Fp)[i]?=some r:=e;rw[M_]at e;obtain⟨v,hv,rfl⟩:=J_.mp e;have a:=h.ru v<|aA hv;have l:(Lj g).rs.take i=(g.rs.take i).map Fp:=by show(g.rs.map Fp).take i=_;rw[hJ]
 unfold G2;rw[l,Z_,Z_,bZ,bZ];refine⟨⟨?_,aL λz=>?_⟩,?_⟩;unfold parts;rw[Z_,Z_,bY];have hp:=a.p;have hx:=a.x;have hq:=a.q;have b:((Lj g).H.length:Int)=g.pl.length:=by show(((g.pl.map (·.2)).length:Nat):Int)=_;rw[B_]
 refine⟨⟨aP ⟨by simp only[Fp];omega,by rw[b];simp only[Fp];omega⟩,aP ⟨by simp only[Fp];omega,by rw[b];simp only[Fp];omega⟩⟩,λy hy=>?_⟩;show decide (0<=y/\y<((g.le.length:Nat):Int))=true;rcases aK.mp hy with rfl|hy;exact aP ⟨by simp only[Fp];omega,by simp only[Fp];omega⟩;obtain⟨m,hm,rfl⟩:=E_.mp hy;have:=a.w m hm;exact aP ⟨by omega,by omega⟩;obtain⟨u,hu,k⟩:=E_.mp z;rw[Tq k]at hu;obtain⟨j,hj,d⟩:=dU hu;rw[List.getElem_take]at d;rw[aU]at hj;have hi:=(D_.mp hv);have:j=i:=(kW h.ro.nd).mp<|d.trans hi.2.symm;omega;rw[BM,Bool.and_eq_false_iff];by_cases c:(g.pl.map (·.2)).getD v.p 0=0;refine .inl<|aL λz=>?_;have z:(g.pl.map (·.2)).getD ((v.p:Int)).toNat 0=1:=z;rw[cX,c]at z;cases z;have:=h.ro.an i v hv c;exact .inr (aL<|by omega);show B4 (g.rs.map Fp)<4;rw[Ry];have:=h.ro.ps;omega
def GamOk.up{g:Gam}(h:GamOk g 3 2 6 2):GamOk g 3 3 8 3:=⟨h.p0,h.p1,h.l0,bA h.l1,h.r0,I_ h.r1<|by decide,h.hd,h.pn,h.ln,h.ru,⟨h.ro.nd,bA h.ro.ps,h.ro.an⟩⟩
def R0(g:Gam)(r:Rul):(Lj g).add (Fp r)=Lj (K8 g r):=by unfold Gz.add Lj K8;rw[L_];rfl
def OJ(g:Gam)(j:Nat):(Lj g).del j=Lj (BK g j):=by unfold Gz.del Lj BK;rw[L_,hJ,kU]
def V3{g:Gam}{r:Rul}(h:GamOk g 3 2 6 2)(b:RulOk g.pl.length g.le.length r)(h2:r.w.length=2->pushes g.rs<3)(h0:(g.pl.map (·.2)).getD r.p 0=0):fits (Lj<|K8 g r)=decide (r∉g.rs):=by by_cases c:r∈g.rs;rw[aL λz=>z c,jD];intro z;obtain⟨_,k,_⟩:=Dt.mp z;have a:=k g.rs.length (Fp r) (by show((g.rs++[r]).map Fp)[_]?=_;rw[M_,b_<|F_ _,lF];rfl);unfold G2 at a;rw[Z_,Z_,bZ,decide_eq_false_iff_not]at a;refine a.1.2 ?_;show Fp r∈((g.rs++[r]).map Fp).take g.rs.length;rw[<- hJ,List.take_left];exact E_.mpr ⟨r,c,rfl⟩;rw[aP c];have k:=h.up;have d:=h.r1;refine Qb ⟨k.p0,k.p1,k.l0,k.l1,by show 0<(g.rs++[r]).length;rw[N_];exact Nat.succ_pos _,by show(g.rs++[r]).length<=8;rw[N_];exact I_ (gD d)<|by decide,k.hd,k.pn,k.ln,λv hv=>?_,k.ro.snoc c h2 λz=>absurd h0 z⟩;rcases R_.mp hv with hv|hv;exact k.ru v hv;rw[G_.mp hv];exact b
def Tr(B:oA Rul)(v:Rul):((B.map Co).any λe=>PyData.eqv e<|Co v)=decide (v∈B):=by
 have:=Z8 (B.map Fp)<|Fp v;rw[aB,<- show Co=Fa ∘ Fp from funext N1,<- N1]at this;rw[this];exact fG.mpr ⟨λh=>by
  obtain⟨u,hu,e⟩:=E_.mp h;rw[<- Tq e];exact hu,λh=>E_.mpr ⟨v,h,rfl⟩⟩
def BO{g:Gam}(h1:g.pl.length<=3)(h2:g.rs.length<=8)(b:g.le.length<=2)(h:∀r∈g.rs,RulOk g.pl.length g.le.length r):GmOk g:=⟨h1,h2,λr a=>⟨(h r a).p,(h r a).q,S_ (h r a).x b,(h r a).n⟩⟩
def BP{g:Gam}{p:Nat}(hp:p<g.pl.length)(x:Nat):∃z,atI (g.pl.map N3) (p:Int)=some (N3 z)/\z.2=hnd g (p,x):=by refine⟨g.pl[p],Ak<|by rw[M_,K_ hp];rfl,?_⟩;unfold hnd;rw[cD,M_,K_ hp];rfl
def OK{L:oA Rul}(nd:L.Nodup)(h:1<L.length)(v:Rul):∃r∈L,r≠v:=by
 match L,nd,h with
 |a::b::_,nd,_=>by_cases c:a=v;exact⟨b,by simp,λe=>(cJ.mp nd).1<|by rw[c,<- e];simp⟩;exact⟨a,by simp,c⟩
def BQ{o:Type}{p:lM}{g:AG}{tst:AT}{te:AE}{v:M->Prop}{R:M->Prop}{τ:ASt}{l:M}(as:oA o)(u:o->AV)(b:o->Bool)(f:o->AV)(m:ASt->Prop)(h0:m τ)(hp:l p=none)(hn:as.length<=999)(hk:∀ a,Sub l a->v a)
  (step:∀(x:o) (h:ASt) (a:M) (W:ASt->AV->M->Prop) (s:ASt->M->Prop),x∈as->m h->Sub l a->(b x=true->∀ c d,m c->Sub a d->W c (f x) d)->(b x=false->∀ c d,m c->Sub a d->s c d) ->
   g (u x) h a λc q=>tst c q λk d=>brP k (te c d<|W c)<|s c d)
  (done:∀ a,a p=oH ((as.filter b).map f)->Sub l a->R a):cl p g tst te v R (as.map u) [] τ (Ao l p<|.lst []):=by
 refine Ep (λi j h a=>m h/\j=((as.take i).filter b).map f/\a p=oH j/\Sub l a) ⟨h0,by simp,Ab,Sub.refl.new hp⟩ (by rintro i j τ a ⟨_,_,_,S⟩;exact hk _ S) ?_ ?_;rintro i y j h a W hy ⟨z,rfl,e,S⟩ hW;rw[M_]at hy;obtain⟨x,hx,rfl⟩:=J_.mp hy;have hi:i<as.length:=(D_.mp hx).1;have t:as.take (i+1)=as.take i++[x]:=by rw[aS,hx];rfl
 refine step x h a _ (λc d=>W (((as.take i).filter b).map f) c d) (aA hx) z S (λhb c d r n=>⟨n _ _ e,A8 ?_,hW _ _ _ ⟨r,?_,Ab,Dy (S.trans n) hp⟩⟩) λhb c d r n=>hW _ _ _ ⟨r,?_,n _ _ e,S.trans n⟩;rw[B_];have h1:=bX b<|as.take i;rw[aU]at h1;omega;rw[t,dL,L_,fF,P_ hb];rfl;rw[t,dL,L_,fF,H_<|by rw[hb];exact U_];simp;rintro j h a ⟨_,rfl,e,S⟩;rw[B_,aN]at e;exact done _ e S
abbrev nMd:oA Str:=["_law_game_here","_law_saying_here","_law_found"]
def OL:FnScope nMd oZ (Ad QC):=Bm<|by decide +kernel
abbrev Brt(g:Gam)(s:Say):Nat->oA Nat->Prop:=Pre g λp w=>rd s.as s.es w p=true
def GE:ASp:=λd c R=>∃(g:Gam) (s:Say),d=[.D<|B6 g,.D<|Ef s]/\GmOk g/\SyOk g s/\∀(b:oA Arw) μ',b.length<=400->(∀a∈b,a.ts.length<=400)->(∀p w,p<g.pl.length->(rd b s.es w p=true↔Brt g s p w))->Sub c μ'->R (.D<|.tuple<|b.map Bo) μ'
def YL{n:Nat}(F:Fun K "_law_made" "_law_made" QC f fd) (b:Mc P w K mg base n "machine" qX 200 YJ):FnOk P w K mg base Dz (n+1) f fd oZ (Fb K 2 GE):=by
 refine F.vok0 OL λr A c s H E k=>⟨_,(D8 (VS.z<|Aq (i:=2) OL.nd rfl oI Hi)<|D8 (Zn λm p=>(Ai<|Aq (i:=2) OL.nd rfl oI<|Zc b k rfl<|Aa (vv 0)<|Aa (vv 1) Ae))<|Ki<|VS.z<|A6<|vv 2),?_⟩
 rintro o l R _ ⟨g,s,rfl,e,j,q⟩;refine Ca<|Ca ?_;exact⟨g,s,rfl,e,j,λh a h1 h2 d S=>⟨a,Sub.refl,q h a h1 h2 d S⟩⟩
abbrev nMo:oA Str:=["_law_game_here","_law_rule_here","_law_found"]
def GF:FnScope nMo qJ (Ad QD):=Bm<|by decide +kernel
def OM:ASp:=λb a R=>∃(g:Gam) (r:Rul),b=[.D<|B6 g,Ch r]/\GzOk (Lj<|K8 g r)/\(fits (Lj<|K8 g r)=true->R (.D<|B6<|K8 g r) a)/\(fits (Lj<|K8 g r)=false->R (.D .none) a)
def YM{n:Nat}{a D:lM}{p:oA lM}(F:Fun K "_law_more" "_law_more" QD f fd) (d:Dg P w K mg base n "with_rule" oM<|WD a) (m:mg "NoFit" = some (.ref a)) (b:Err K a D p):FnOk P w K mg base Dz (n+1) f fd qJ (Fb K 2 OM):=by
 refine F.vok0 GF λy A c s H E q=>⟨_,(D8 (VS.z<|Aq (i:=2) GF.nd rfl oI Hi)<|D8 (Zo (λu x t o=>(Ai<|Aq (i:=2) GF.nd rfl oI<|C8 d q o rfl<|Aa (vv 0)<|Aa (vv 1) Ae)) (λe=>(Ai<|Aq (i:=2) GF.nd rfl oI Hi)) rfl m b.xc b.xi.toXCls.mb rfl rfl)<|Ki<|VS.z<|A6<|vv 2),?_⟩
 rintro v j R _ ⟨g,r,rfl,hG,l,k⟩;rw[N2,<- R0]at l;rw[<- R0]at hG k;unfold Ch;rw[N2,N1];refine Ca<|Ca ?_;exact⟨Lj g,Fp r,rfl,hG,λh=>⟨j,Sub.refl,l h⟩,λh=>⟨b.me,⟨j,Sub.refl,k h⟩⟩⟩
abbrev ZC:oA Str:=["_law_game_here","_law_letters","_law_x","_law_piles","_law_found","_law_place"]
def V4:FnScope ZC qK (Ad ET):=Bm<|by decide +kernel
def YN:(["_law_x"]:oA Str).Nodup:=by decide +kernel
def YO:(["_law_y","_law_x"]:oA Str).Nodup:=by decide +kernel
def YQ:(yJ:oA Str).Nodup:=by decide +kernel
def Jr(w:oA Nat):AV:=.D<|Bq w
def Hn(z:Nat×oA Nat):AV:=.D<|.tuple [.int (z.1:Nat),Bq z.2]
def ON:ASp:=λb a R=>∃(g:Gam),b=[.D<|B6 g]/\g.pl.length<=3/\g.le.length<=2/\∀(L:oA<|Nat×oA Nat) (p:lM) μ',L.length<=30->(∀z∈L,z.1<g.pl.length)->μ' p=oH (L.map Hn)->Sub a μ'->R (.R p) μ'
def YR{n:Nat}(F:Fun K "_law_stands" "_law_stands" ET f fd) (bi:mg "list" = none) (ah:mg "range" = none) (ag:mg "len" = none):FnOk P w K mg base Dz (n+1) f fd qK (Fb K 1 ON):=by
 refine F.vok V4 λap A outer s H E hr=>⟨_,(Af (Aq (i:=1) V4.nd rfl oI<|O9 rfl rfl bi rfl ah<|Av B1 rfl ag aG<|Aa (Az Be (vv 0) Ah) Ae)<|Af (Aq (i:=3) V4.nd rfl oI<|Ba Cj (Cf<|Aa (Br Ae) Ae)<|Bg (N':=["_law_x"]) (mp:=[none]) rfl (Bc<|vv 1) (λ_ _ _ _=>(Aj (i:=0) YN rfl oI oJ)) (λ_ _ _ _=>Bl) (λ_ _ _ _=>(Br<|Aa (vv 0) Ae))<|Aw (N:=ZC) (pn:=(Ad ET).names)<|by decide +kernel)<|Af (Cc aO rfl (Bc<|vv 1) (Aj (i:=2) V4.nd rfl oJ)<|Ai<|Bu<|E4 eM eO F0 (vv 3)<|Aa (Bg (N':=["_law_y","_law_x"]) (mp:=[none,some 2]) rfl (Bc<|vv 1) (λ_ _ _ _=>(Aj (i:=0) YO rfl oI oJ)) (λ_ _ _ _=>Bl) (λ_ _ _ _=>(Br<|Aa (vv 1)<|Aa (vv 0) Ae))<|Aw (N:=ZC) (pn:=(Ad ET).names)<|by decide +kernel) Ae)<|Af (Aq (i:=4) V4.nd rfl oI<|Cf Ae)<|Af (Cc aO rfl (Cz rfl ah<|Aa (Av B1 rfl ag aG<|Aa (Az Be (vv 0) Ah) Ae) Ae) (Aj (i:=5) V4.nd rfl oJ)<|Ai<|Bu<|E4 eM eO F0 (vv 4)<|Aa (Bg (N':=yJ) (mp:=[none,some 5]) rfl (Bc<|vv 3) (λ_ _ _ _=>(Aj (i:=0) YQ rfl oI oJ)) (λ_ _ _ _=>Bl) (λ_ _ _ _=>(Br<|Aa (vv 1)<|Aa (vv 0) Ae))<|Aw (N:=ZC) (pn:=(Ad ET).names)<|by decide +kernel) Ae)<|Ai<|A6<|vv 4),?_⟩
 rintro xs C R _ ⟨g,rfl,hp,hl,q⟩;refine A0 (λb a=>∃d,b=[oG<|B6 g,oE d,none,none,none,none]/\a d=oH ((List.range g.le.length).map Bn)/\Sub C a) (λZ O=>?_) ?_
 ·refine Ac (Ak (j:=1) rfl) ⟨by rw[B_];omega,λd hpl=>O _ _ ⟨d,rfl,?_,Sub.refl.new hpl⟩⟩;rw[Ab,B_,cX,K3]
 rintro b v ⟨d,rfl,e1,S1⟩;refine A0 (λb a=>∃h,∃c:oA<|oA Nat,b=[oG<|B6 g,oE d,none,oE h,none,none]/\c.length<=3/\a h=oH (c.map Jr)/\a d=oH ((List.range g.le.length).map Bn)/\C h=none/\d≠h/\Sub C a) (λZ O=>?_) ?_
 ·intro p1 ic;have l:Sub v (Ao v p1<|.lst [.D<|.tuple []]):=Sub.refl.new ic;have f1:Ao v p1 (.lst [.D<|.tuple []]) p1=oH (([[]]:oA<|oA Nat).map Jr):=Ab;generalize Ao v p1 (.lst [.D<|.tuple []])=Q at l f1;refine Ac (Am<|l _ _ e1) λG p=>?_;have I:d≠G:=by rintro rfl;rw[l _ _ e1]at p;cases p
  refine cmap (List.range g.le.length) Bn (λx=>Jr [x]) (λb=>∃o,b=[o]) ⟨none,rfl⟩ Ab (seven<|by rw[bG];omega) (λ_=>Am<|by rw[Ag I,Ag I];exact l _ _ e1) ?_ ?_
  ·rintro i x τ' X W hi ⟨o,rfl⟩ B;exact B _ ⟨_,rfl⟩
  ·rw[Bk];have k:Sub Q (Ao Q G<|.lst<|(List.range g.le.length).map λx=>Jr [x]):=Sub.refl.new p;refine Ac (k _ _ f1) (Ac Ab ⟨seven<|by rw[B_,B_,bG];show 1+_<=_;omega,λp3 pe=>O _ _ ⟨p3,[]::(List.range g.le.length).map (λx=>[x]),rfl,by rw[aX,B_,bG];omega,by rw[Ab];show _=some (MO.lst<|Jr []::((List.range g.le.length).map λx=>[x]).map Jr);rw[aB];rfl,?_,(S1.trans<|l.trans k).none pe,?_,(S1.trans<|l.trans k).new<|(S1.trans<|l.trans k).none pe⟩⟩);rw[Ag]
   ·exact k _ _<|l _ _ e1
   all_goals (rintro rfl;rw[k _ _<|l _ _ e1]at pe;cases pe)
 rintro b Q ⟨h,c,rfl,hW3,e2,l2,pp0,ya,l⟩;refine A0 (λb a=>∃J,∃c:oA<|oA Nat,b=[oG<|B6 g,oE d,J,oE h,none,none]/\c.length<=7/\a h=oH (c.map Jr)/\Sub C a) (λZ O=>?_) ?_
 ·refine Ac (Am l2) ?_;refine C5 (λi b a=>∃J,∃c:oA<|oA Nat,b=[oG<|B6 g,oE d,J,oE h,none,none]/\c.length<=3+2*i/\a h=oH (c.map Jr)/\a d=oH ((List.range g.le.length).map Bn)/\Sub C a) ⟨none,c,rfl,hW3,e2,l2,l⟩ (by rintro _ _ _ ⟨_,_,_,_,_,e,_⟩;exact Am e) ?_ ?_
  ·rintro i y b u Z2 hy ⟨J,c,rfl,B,S,V,k⟩ hZ2;rw[M_]at hy;obtain⟨x,hx,rfl⟩:=J_.mp hy;have hi:=(D_.mp hx).1;rw[bG]at hi;refine⟨Ac S trivial,Ac (Am V) λG p=>?_⟩;have I:d≠G:=by rintro rfl;rw[V]at p;cases p
   refine cmap (List.range g.le.length) Bn (λy=>Jr [x,y]) (λb=>∃o,b=[o,some<|Bn x]) ⟨none,rfl⟩ Ab (seven<|by rw[bG];omega) (λ_=>Am<|by rw[Ag I,Ag I];exact V) ?_ ?_
   ·rintro i y τ' X W hi ⟨o,rfl⟩ B;exact B _ ⟨_,rfl⟩
   ·rw[Bk];have t:Sub u (Ao u G<|.lst<|(List.range g.le.length).map λy=>Jr [x,y]):=Sub.refl.new p;refine Ac (t _ _ S) (Ac Ab ⟨seven<|by rw[B_,B_,bG];omega,hZ2 _ _ ⟨_,c++(List.range g.le.length).map (λy=>[x,y]),rfl,by rw[N_,B_,bG];omega,by rw[Ab,L_,aB];rfl,?_,Dy (k.trans t) pp0⟩⟩);rw[Ag ya];exact t _ _ V
  ·rintro b u ⟨J,c,rfl,B,S,V,k⟩;rw[B_,bG]at B;exact O _ _ ⟨_,c,rfl,by omega,S,k⟩
 clear e2 l2 l hW3 c;rintro b u ⟨J,c,rfl,B,S,k⟩;intro M dg;have pf0:C M=none:=k.none dg;have hpp:h≠M:=by rintro rfl;rw[S]at dg;cases dg
 refine A0 (λb a=>∃U,∃L:oA<|Nat×oA Nat,b=[oG<|B6 g,oE d,J,oE h,oE M,U]/\L.length<=21/\(∀z∈L,z.1<g.pl.length)/\a M=oH (L.map Hn)/\Sub C a) (λZ O=>?_) ?_
 ·refine Ac (Ak (j:=0) rfl) ⟨by rw[B_];omega,by rw[B_];omega,?_⟩;rw[B_,cX,K3];refine C5 (λi b a=>∃U,∃L:oA<|Nat×oA Nat,b=[oG<|B6 g,oE d,J,oE h,oE M,U]/\L.length<=7*i/\(∀z∈L,z.1<g.pl.length)/\a M=oH (L.map Hn)/\a h=oH (c.map Jr)/\Sub C a) ⟨none,[],rfl,F_ _,(λ_ z=>nomatch z),Ab,by rw[Ag hpp];exact S,k.new pf0⟩ (λ_ _ _ _=>trivial) ?_ ?_
  ·rintro i y b m Z2 hy ⟨U,L,rfl,hL,r,T,Y,t⟩ hZ2;rw[M_]at hy;obtain⟨x,hx,rfl⟩:=J_.mp hy;have hi:=(D_.mp hx).1;rw[bG]at hi;have hxl:=dW.mp<|aA hx;refine⟨Ac T trivial,Ac (Am Y) λG p=>?_⟩;have I:h≠G:=by rintro rfl;rw[Y]at p;cases p
   refine cmap c Jr (λw=>Hn (x,w)) (λb=>∃o,b=[o,some<|Bn x]) ⟨none,rfl⟩ Ab (seven<|by omega) (λ_=>Am<|by rw[Ag I,Ag I];exact Y) ?_ ?_
   ·rintro i y τ' X W hi ⟨o,rfl⟩ B;exact B _ ⟨_,rfl⟩
   ·rw[Bk];have S5:Sub m (Ao m G<|.lst<|c.map λw=>Hn (x,w)):=Sub.refl.new p;refine Ac (S5 _ _ T) (Ac Ab ⟨seven<|by rw[B_,B_];omega,hZ2 _ _ ⟨_,L++c.map (λw=>(x,w)),rfl,by rw[N_,B_];omega,λz hz=>?_,by rw[Ab,L_,aB];rfl,by rw[Ag hpp];exact S5 _ _ Y,Dy (t.trans S5) pf0⟩⟩);rcases R_.mp hz with hz|hz
    ·exact r z hz
    ·obtain⟨w,_,rfl⟩:=E_.mp hz;exact hxl
  ·rintro b m ⟨U,L,rfl,hL,r,T,Y,t⟩;rw[B_,bG]at hL;exact O _ _ ⟨_,L,rfl,by omega,r,T,t⟩
 rintro b m ⟨U,L,rfl,hL,r,T,t⟩;exact⟨_,Sub.refl,q L M m (by omega) r T t⟩
abbrev nKp:oA Str:=["_law_game_here","_law_saying_here","_law_read","_law_made_here"]
def YS:FnScope nKp qL (Ad MV):=Bm<|by decide +kernel
def YT:(yC:oA Str).Nodup:=by decide +kernel
def OO:ASp:=λc b R=>∃(g:Gam) (s:Say) (L:oA<|Nat×oA Nat) (p:lM),c=[.D<|B6 g,.D<|Ef s,.R p]/\GmOk g/\SyOk g s/\s.es.length<=20/\b p=oH (L.map Hn)/\L.length<=30/\(∀z∈L,z.1<g.pl.length/\Brt g s z.1 z.2)/\∀ a,Sub b a->R (.D<|.bool true) a
def YU{n:Nat}(F:Fun K "_law_kept" "_law_kept" MV f fd) (v:VCal P w K mg base n "_law_made" oZ GE) (y:VCal P w K mg base n "reads" oX FJ) (M:mg "all" = none):FnOk P w K mg base Dz (n+1) f fd qL (Fb K 3 OO):=by
 refine F.vok YS λap A k s H E t=>⟨_,(Af (Aq (i:=3) YS.nd rfl oJ<|Al v t rfl<|Aa (vv 0)<|Aa (vv 1) Ae)<|Af (Cl (Bd Xx (vv 3) Hi<|nomark _) (Ai<|A6 E3) Bi)<|Ai<|A6<|Av (Se rfl) rfl M gO<|Aa (Bg (N':=yC) (mp:=[none,some 3,some 1]) rfl (Bc<|vv 2) (λ_ _ _ _=>(Aj (i:=0) YT rfl oI oJ)) (λ_ _ _ _=>Bl) (λ_ _ _ _=>(Al y t rfl<|Aa (vv 1)<|Aa (Az Be (vv 2) Ah)<|Aa (Az Be (vv 0) Ah)<|Aa (Az Be (vv 0) Ah) Ae))<|Aw (N:=nKp) (pn:=(Ad MV).names)<|by decide +kernel) Ae),?_⟩
 rintro xs u R _ ⟨g,s,L,p,rfl,G,I,jy,e,hl,U,q⟩;refine A0 (λh c=>∃d:oA Arw,h=[oG<|B6 g,oG<|Ef s,oE p,oG<|.tuple<|d.map Bo]/\d.length<=400/\(∀a∈d,a.ts.length<=400)/\(∀p w,p<g.pl.length->(rd d s.es w p=true↔Brt g s p w))/\Sub u c) (λZ O=>⟨g,s,rfl,G,I,λd c h1 h2 m S=>O _ _ ⟨d,rfl,h1,h2,m,S⟩⟩) ?_;rintro h x ⟨d,rfl,h1,h2,m,l⟩;refine Ca<|Kd rfl ?_;refine Ac (Am<|l _ _ e) λY C=>?_;refine BQ L Hn (λ_=>true) (λ_=>.D<|.bool true) (λh=>∃o,h=[o,oG<|.tuple<|d.map Bo,oG<|Ef s]) ⟨none,rfl⟩ C (by omega) (λc S=>Am<|S _ _<|l _ _ e) ?_ ?_;rintro z T c W X hz ⟨o,rfl⟩ r k1 _;obtain⟨a,b⟩:=U z hz;refine L3 rfl (Ac (Ak (j:=2) rfl)<|Ac (Ak (j:=0) rfl)<|Ac (Ak (j:=1) rfl) ⟨d,s.es,z.1,z.2,rfl,h1,h2,by omega,λQ B=>?_⟩);rw[(m z.1 z.2 a).mpr b];exact k1 rfl _ _ ⟨_,rfl⟩ B;intro V J r;refine Sl (as:=L.filter λ_=>true) (g:=λ_=>true) J ⟨_,Sub.refl,?_⟩;rw[show((L.filter λ_=>true).all λ_=>true)=true by simp];exact q _<|l.trans r
abbrev GG:oA Str:=["_law_script","_law_deal_here","_law_game_here","_law_saying_here","_law_made_here","_law_one","_law_read","_law_rule_here","_law_more_here","_law_two","_law_k","_law_beside"]
def Fq:FnScope GG qY (Ad Iy):=Bm<|by decide +kernel
def OP:(yC:oA Str).Nodup:=by decide +kernel
def OQ:(["_law_other","_law_one"]:oA Str).Nodup:=by decide +kernel
def OR:(yK:oA Str).Nodup:=by decide +kernel
def Pot.sub{b c:M}{a l:lM}(h:Pot b a l)(S:Sub b c):Pot c a l :=
 by obtain⟨e,d,ns,h⟩:=h;exact⟨e,d,ns,S _ _ h.ha,S _ _ h.hl,h.s0,h.s1,h.n0,h.p0,h.ne⟩
def spL:ASp:=λb c R=>∃(ns:oA Int),b=[.D<|G1 ns]/\ns.length<=63/\∀ a,R (.D<|.bool true) a
def OS{B:oA Rul}{i:Nat}{x:AV}(h:(E7 0<|B.map Co)[i]?=some x):∃r,B[i]?=some r/\x=.D (.tuple [.int i,Co r]):=by obtain⟨d,a,rfl⟩:=E8 h;rw[M_]at a;obtain⟨p,hp,rfl⟩:=J_.mp a;exact⟨p,hp,by rw[kJ]⟩
def GH{n:Nat}{c5:lM}(F:Fun K "law" "law" Iy f fd) (cDe:VCal P w K mg base n "_law_deal" qB MY) (cGa:VCal P w K mg base n "_law_game" qC ND) (cSa:VCal P w K mg base n "_law_saying" qG NP) (ql:VCal P w K mg base n "_law_made" oZ GE) (cSd:VCal P w K mg base n "_law_stands" qK ON) (xu:VCal P w K mg base n "reads" oX FJ) (vf:VCal P w K mg base n "_law_rule" oU EZ) (cMo:VCal P w K mg base n "_law_more" qJ OM) (yk:VCal P w K mg base n "_law_kept" qL OO) (cWo:Dg P w K mg base n "without_rule" oW<|NN c5) (ag:mg "len" = none) (av:mg "enumerate" = none) (bn:mg "all" = none):FnOk P w K mg base Dz (n+1) f fd qY (Fb K 1 spL):=by
 refine F.vok Fq λap A outer s H E G=>⟨_,(Af (Aq (i:=1) Fq.nd rfl oI<|Al cDe G rfl<|Aa (vv 0)<|Aa Ah Ae)<|Af (Aq (i:=2) Fq.nd rfl oJ<|Al cGa G rfl<|Aa (vv 1)<|Aa (Br<|Aa Ah<|Aa Ah<|Aa Ah<|Aa Ah Ae)<|Aa Ah Ae)<|Af (Aq (i:=3) Fq.nd rfl oJ<|Al cSa G rfl<|Aa (vv 1)<|Aa (vv 2)<|Aa Ah<|Aa Ah<|Aa Ah Ae)<|Af (Aq (i:=4) Fq.nd rfl oJ<|Al ql G rfl<|Aa (vv 2)<|Aa (vv 3) Ae)<|Af (Cl (Bd Xx (vv 4) Hi<|nomark _) (Ai<|A6 E3) Bi)<|Af (Aq (i:=6) Fq.nd rfl oJ<|Bg (N':=yC) (mp:=[none,some 4,some 3]) rfl (Bc<|Al cSd G rfl<|Aa (vv 2) Ae) (λ_ _ _ _=>(Aj (i:=0) OP rfl oI oJ)) (λ_ _ _ _=>(Cy<|D3<|Al xu G rfl<|Aa (vv 1)<|Aa (Az Be (vv 2) Ah)<|Aa (Az Be (vv 0) Ah)<|Aa (Az Be (vv 0) Ah) Ae)) (λ_ _ _ _=>(vv 0))<|Aw (N:=GG) (pn:=(Ad Iy).names)<|by decide +kernel)<|Af (Aq (i:=7) Fq.nd rfl oI<|Al vf G rfl<|Aa (vv 1)<|Aa (Br<|Aa (Av B1 rfl ag aG<|Aa (Az Be (vv 2) Ah) Ae)<|Aa (Av B1 rfl ag aG<|Aa (Az Be (vv 2) Ah) Ae)<|Aa Ah Ae)<|Aa (Az Be (vv 2) Ah) Ae)<|Af (Cl (Bd (Eo G) (Az Be (Az Be (Az Be (vv 2) Ah)<|Az Be (vv 7) Ah) Ah) Ah<|nomark _) (Af (Aq (i:=8) Fq.nd rfl oI<|Al cMo G rfl<|Aa (vv 2)<|Aa (vv 7) Ae)<|Af (Cl (Bd (Qai G) (Ke Xx (vv 8) Hi<|nomark _) (Ke (DM G) (vv 7) (Az Be (vv 2) Ah)<|by with_unfolding_all rfl)<|nomark _) (Ai<|A6 E3) Bi)<|Ai<|Cl (VW.pt<|Fh (Bd KI (vv 8) Hi<|nomark _)<|D5<|Fz<|D3<|Al yk G rfl<|Aa (vv 8)<|Aa (vv 3)<|Aa (vv 6) Ae) (Ai<|A6 E3) Bi) Bi)<|Af (Aq (i:=9) Fq.nd rfl oI<|Cf Ae)<|Af (Cc aO rfl (Sk rfl av<|Az Be (vv 2) Ah) (Ds (n:=2) rfl<|Ay (Aj (i:=10) Fq.nd rfl oI)<|Ay (Aj (i:=5) Fq.nd rfl oJ) B8)<|Af (Ee (i:=11) (N':=["_law_other","_law_one"]) (mp:=[none,some 5]) rfl Fq.nd rfl rfl (Bc<|Az Be (vv 2) Ah) (λ_ _ _ _=>(Aj (i:=0) OQ rfl oI oJ)) (λ_ _ _ _=>(Cy<|Bd (Eo G) (Bv (vv 0) Cd<|B3 Ah) (Bv (vv 1) Cd<|B3 Ah)<|nomark _)) (λ_ _ _ _=>(vv 0))<|Aw (N:=GG) (pn:=(Ad Iy).names)<|by decide +kernel)<|Ai<|Cl (VW.pt<|Fh (Bd (Eo G) (Az Be (Az Be (Az Be (vv 2) Ah)<|Az Be (vv 5) Ah) Ah) Ah<|nomark _)<|D5<|Bd Q2 (Av B1 rfl ag aG<|Aa (vv 11) Ae) Ah<|nomark _) (Ai<|Bu<|E4 cQ cU Dx (vv 9)<|Aa (vv 10) Ae) Bi)<|Ai<|A6<|Av (Se rfl) rfl bn gO<|Aa (Bg (N':=yK) (mp:=[none,some 3,some 6,some 2]) rfl (Bc<|Bv (vv 9) Cd<|B3 Ah) (λ_ _ _ _=>(Aj (i:=0) OR rfl oI oJ)) (λ_ _ _ _=>Bl) (λ_ _ _ _=>(Al yk G rfl<|Aa (C8 cWo G HE rfl<|Aa (vv 3)<|Aa (vv 0) Ae)<|Aa (vv 1)<|Aa (vv 2) Ae))<|Aw (N:=GG) (pn:=(Ad Iy).names)<|by decide +kernel) Ae),?_⟩
 rintro xs μ R _ ⟨ns,rfl,ik,q⟩;refine Ca ⟨ns,0,rfl,by decide,ik,λa l μ1 _ _ P1 _=>?_⟩;refine Ca ⟨a,l,3,2,6,2,rfl,by decide,by decide,by decide,by decide,by decide,by decide,P1,λg μ2 I P2 _=>?_⟩;have ic:=I.p1;have fo:=I.l1;have yr:=I.r1;refine Ca ⟨a,l,g,2,6,2,rfl,I.p0,by omega,I.l0,by omega,by decide,by decide,P2,λs μ3 hs P3 _=>?_⟩;have ho:=hs.o;have hsn:=hs.n;have hen:=hs.en;have jy:s.es.length<=20:=by omega
 have hG:GmOk g:=BO ic (by omega) fo I.ru;have hS:∀g':Gam,g'.pl=g.pl->SyOk g' s:=λg' e=>⟨⟨by rw[e];exact hs.t,by rw[e];exact hs.p,hs.c⟩,by omega,λa ha=>S_ (hs.x a ha) fo,by rw[e];omega⟩;refine A0 (λd b=>∃C:oA Arw,d=[oG<|G1 ns,oE a,oG<|B6 g,oG<|Ef s,oG<|.tuple<|C.map Bo,none,none,none,none,none,none,none]/\C.length<=400/\(∀a∈C,a.ts.length<=400)/\(∀p w,p<g.pl.length->(rd C s.es w p=true↔Brt g s p w))/\Pot b a l) (λZ T=>⟨g,s,rfl,hG,hS g rfl,λC b h1 h2 h3 S=>T _ _ ⟨C,rfl,h1,h2,h3,P3.sub S⟩⟩) ?_;clear P1 P2 P3;rintro d μ4 ⟨C,rfl,m1,m2,m3,P4⟩;refine Ca<|Kd rfl ?_;refine A0 (λd b=>∃(L:oA<|Nat×oA Nat) (B:lM),d=[oG<|G1 ns,oE a,oG<|B6 g,oG<|Ef s,oG<|.tuple<|C.map Bo,none,oE B,none,none,none,none,none]/\L.length<=30/\(∀z∈L,z.1<g.pl.length/\Brt g s z.1 z.2)/\b B=oH (L.map Hn)/\B≠a/\B≠l/\Pot b a l) (λZ T=>?_) ?_;refine⟨g,rfl,ic,fo,λL ps μ5 hL J e5 S5=>Ac (Am e5) λpc X=>?_⟩;have P5:=P4.sub S5;have aj:=P5.ne X;refine BQ L Hn (λz=>rd C s.es z.2 z.1) Hn (λd=>∃o,d=[o,oG<|.tuple<|C.map Bo,oG<|Ef s]) ⟨none,rfl⟩ X (by omega) (λb S=>Am<|S _ _ e5) ?_ ?_;rintro z τ' b W W2 hz ⟨o,rfl⟩ S6 k1 k2;exact Ac (Ak (j:=2) rfl) (Ac (Ak (j:=0) rfl)<|Ac (Ak (j:=1) rfl) ⟨C,s.es,z.1,z.2,rfl,m1,m2,by omega,λμ7 S7=>br (λc=>k1 c _ _ ⟨_,rfl⟩ S7) λc=>k2 c _ _ ⟨_,rfl⟩ S7⟩);intro μ6 Y S6;refine T _ _ ⟨L.filter λz=>rd C s.es z.2 z.1,pc,rfl,I_ (bX _ _) hL,λz hz=>?_,Y,aj.1.symm,aj.2.symm,P5.sub S6⟩;obtain⟨h1,h2⟩:=bK.mp hz;exact⟨J z h1,(m3 z.1 z.2<|J z h1).mp h2⟩;clear P4;rintro d μ5 ⟨L,B,rfl,hL,J,e5,na,nl,P5⟩;have itR:∀ μ:M,items μ (.D<|.tuple<|g.rs.map Co)=some (g.rs.map Ch):=λμ=>by show some ((g.rs.map Co).map AV.D)=_;rw[aB];rfl
 refine A0 (λd b=>∃r:Rul,d=[oG<|G1 ns,oE a,oG<|B6 g,oG<|Ef s,oG<|.tuple<|C.map Bo,none,oE B,some<|Ch r,none,none,none,none]/\RulOk g.pl.length g.le.length r/\(r.w.length=2->pushes g.rs<3)/\b B=oH (L.map Hn)) (λZ T=>?_) ?_;refine Ac (Ak (j:=0) rfl) (Ac (Ak (j:=1) rfl)<|Ac (Ak (j:=2) rfl) ⟨a,l,.D<|.tuple<|g.rs.map Co,g.pl.length,g.le.length,3,g.rs,?_,I.p0,by omega,I.l0,by omega,by omega,P5,λ_ _=>itR _,λr μ6 G h2 _ S6=>T _ _ ⟨r,rfl,G,h2,S6 B _ na nl e5⟩⟩);rw[B_,B_];rfl;clear P5 e5;rintro d μ6 ⟨r,rfl,V,hpu,Y⟩;refine A0 (λd b=>∃o8,d=[oG<|G1 ns,oE a,oG<|B6 g,oG<|Ef s,oG<|.tuple<|C.map Bo,none,oE B,some<|Ch r,o8,none,none,none]/\b B=oH (L.map Hn)) (λZ T=>?_) ?_;obtain⟨z,hz,n9⟩:=BP (g:=g) V.p r.x;refine Ac (Ak (j:=0) rfl)<|Ac (Ak (j:=0) rfl)<|Ac hz<|Ac (Ak (j:=1) rfl)<|ieq (λc=>?_) λc=>T _ _ ⟨none,rfl,Y⟩;have h0:hnd g (r.p,r.x)=0:=by rw[<- n9];omega
 have hf:=V3 I V hpu h0;have hGz:GzOk (Lj<|K8 g r):=by rw[<- R0];refine(BN I.up).add ?_ ?_;show(g.rs.map Fp).length<20;rw[B_];omega;show(r.w.map _).length<=20;rw[B_];have:=V.n;omega
 refine Ca ⟨g,r,rfl,hGz,λh=>?_,λh=>?_⟩;rw[hf,aZ]at h;refine Ca<|Ac (Ak (j:=2) rfl)<|Ac rfl ⟨Kw r,Jb _,Go _,Go _,Kd ?_ ?_⟩;rw[Tr,aL h];rfl;refine L3 rfl ⟨K8 g r,s,L,B,rfl,BO ic ?_ fo λv hv=>?_,hS _ rfl,jy,Y,hL,λz hz=>⟨(J z hz).1,GC (by rw[h0];decide) (J z hz).2⟩,λμ7 S7=>Kd rfl<|T _ _ ⟨_,rfl,S7 _ _ Y⟩⟩;show(g.rs++[r]).length<=8;rw[N_];show g.rs.length+1<=8;omega;rcases R_.mp hv with hv|hv;exact I.ru v hv;rw[G_.mp hv];exact V;rw[hf,decide_eq_false_iff_not,Classical.not_not]at h;refine Ca<|Ac (Ak (j:=2) rfl)<|Ac rfl ⟨Kw r,Jb _,Go _,Go _,Kd ?_ ?_⟩;rw[Tr,aP h];rfl;exact Kd rfl<|Kd rfl<|T _ _ ⟨_,rfl,Y⟩;clear Y;rintro d μ7 ⟨o8,rfl,e7⟩;intro U hpt;have hrt:B≠U:=by rintro rfl;rw[e7]at hpt;cases hpt
 let Tw (k:Nat):Prop:=∃v,g.rs[k]?=some v/\hnd g (v.p,v.x)=1/\∃u∈g.rs,u≠v/\u.p=v.p/\u.x=v.x
 refine A0 (λd b=>∃o5 ot oq,∃m:oA Nat,d=[oG<|G1 ns,oE a,oG<|B6 g,oG<|Ef s,oG<|.tuple<|C.map Bo,o5,oE B,some<|Ch r,o8,oE U,ot,oq]/\(∀k∈m,Tw k)/\b U=oH (m.map Bn)/\b B=oH (L.map Hn)) (λZ T=>?_) ?_;refine Ac (Ak (j:=2) rfl)<|Ac (itR _)<|Ac (Kx g.rs) ?_;refine C5 (λi d b=>∃o5 ot oq,∃m:oA Nat,d=[oG<|G1 ns,oE a,oG<|B6 g,oG<|Ef s,oG<|.tuple<|C.map Bo,o5,oE B,some<|Ch r,o8,oE U,ot,oq]/\m.length<=i/\(∀k∈m,Tw k)/\b U=oH (m.map Bn)/\b B=oH (L.map Hn)) ⟨none,none,none,[],rfl,F_ _,(λ_ z=>nomatch z),Ab,by rw[Ag hrt];exact e7⟩ (λ_ _ _ _=>itR _) ?_ ?_;rintro i y d Q Z2 hy ⟨o5,ot,oq,m,rfl,hK,O,t8,e8⟩ hZ2;obtain⟨v,hv,rfl⟩:=OS hy;have hi:=(D_.mp hv).1;have gw:=I.ru v<|aA hv;refine⟨rfl,?_⟩;dsimp only[Fm,Eb,Oq,List.map,List.set];refine A0 (λd b=>∃pb,d=[oG<|G1 ns,oE a,oG<|B6 g,oG<|Ef s,oG<|.tuple<|C.map Bo,some<|Ch v,oE B,some<|Ch r,o8,oE U,oF (i:Nat),oE pb]/\b pb=oH ((g.rs.filter λr=>decide (r.p=v.p/\r.x=v.x)).map Ch)/\b U=oH (m.map Bn)/\b B=oH (L.map Hn)) (λZ3 cv=>?_) ?_;refine Ac (Ak (j:=2) rfl)<|Ac (itR _) λpc X=>?_;have hct:U≠pc:=by rintro rfl;rw[t8]at X;cases X
 have hcr:B≠pc:=by rintro rfl;rw[e8]at X;cases X
 refine cmapf g.rs Ch (λr=>decide (r.p=v.p/\r.x=v.x)) Ch (λd=>∃o,d=[o,some<|Ch v]) ⟨none,rfl⟩ Ab (seven<|by omega) (λ_=>itR _) ?_ ?_;rintro j u τ' acc W W2 hj ⟨o,rfl⟩ h1 h2;exact⟨Gq (ns:=[u.p,u.x]),Gq (ns:=[v.p,v.x]),br (λc=>h1 ((ZA u v).symm.trans c) _ ⟨_,rfl⟩) λc=>h2 ((ZA u v).symm.trans c) _ ⟨_,rfl⟩⟩;exact cv _ _ ⟨pc,rfl,Ab,by rw[Ag hct,Ag hct];exact t8,by rw[Ag hcr,Ag hcr];exact e8⟩;clear t8 e8;rintro d μ9 ⟨pb,rfl,b9,t9,e9⟩;have no:Z2 [oG<|G1 ns,oE a,oG<|B6 g,oG<|Ef s,oG<|.tuple<|C.map Bo,some<|Ch v,oE B,some<|Ch r,o8,oE U,oF (i:Nat),oE pb] μ9:=hZ2 _ _ ⟨_,_,_,m,rfl,bA hK,O,t9,e9⟩;obtain⟨z,hz,n9⟩:=BP (g:=g) gw.p v.x;refine Ac (Ak (j:=0) rfl)<|Ac (Ak (j:=0) rfl)<|Ac hz<|Ac (Ak (j:=1) rfl)<|ieq (λc=>Ac b9<|dif (λc2=>?_) λ_=>no) λ_=>Kd rfl no;refine⟨Ac t9 trivial,Ac t9 ⟨A8<|by rw[B_];omega,hZ2 _ _ ⟨_,_,_,m++[i],rfl,by rw[N_];exact gD hK,λk hk=>?_,by rw[Ab,L_];rfl,by rw[Ag hrt];exact e9⟩⟩⟩;rcases R_.mp hk with hk|hk;exact O k hk;rw[G_.mp hk];rw[B_]at c2;obtain⟨u,hu,hn⟩:=OK (I.ro.nd.sublist gX) (lI.mp c2) v;obtain⟨h1,h2⟩:=bK.mp hu;obtain⟨h3,h4⟩:=aC h2;exact⟨v,hv,by rw[<- n9];omega,u,h1,hn,h3,h4⟩;rintro d Q ⟨o5,ot,oq,m,rfl,_,O,t8,e8⟩;exact T _ _ ⟨_,_,_,m,rfl,O,t8,e8⟩;clear hrt hpt e7;rintro d Q ⟨o5,ot,oq,m,rfl,O,t8,e8⟩;refine Ac (Am t8) λp2 ii=>?_;have S9:Sub Q (Ao Q p2<|.lst<|Jo (m.map Bn) none<|some 2):=Sub.refl.new ii;have e9:Ao Q p2 (.lst<|Jo (m.map Bn) none<|some 2) p2=oH ((m.take 2).map Bn):=by rw[Ab];exact bV _<|bV _<|Gr Bn m 2
 rw[show Jo (m.map Bn) none (some 2)=(m.take 2).map Bn from Gr Bn m 2]at S9 e9 ⊢;have e10:=S9 _ _ e8;generalize Ao Q p2 (.lst<|(m.take 2).map Bn)=μ9 at S9 e9 e10;refine Ac (Am e9) λpc X=>?_;refine BQ (m.take 2) Bn (λ_=>true) (λ_=>.D<|.bool true) (λd=>∃o,d=[o,oG<|Ef s,oE B,oG<|B6 g]) ⟨none,rfl⟩ X (by rw[aU];omega) (λb S=>Am<|S _ _ e9) ?_ ?_;rintro k τ' b W W2 hk ⟨o,rfl⟩ S2 k1 _;obtain⟨v,hv,hh,hb⟩:=O k<|dZ hk;have c9:=(D_.mp hv).1;have hlz:((Lj g).rs.length:Int)=g.rs.length:=by show(((g.rs.map Fp).length:Nat):Int)=_;rw[B_]
 have po:((Lj g).rs.length)=g.rs.length:=by show(g.rs.map Fp).length=_;rw[B_]
 refine L3 rfl ⟨Lj g,(k:Nat),by rw[N2];rfl,BN I.up,λz=>?_,λj hj yn=>?_⟩;exact eI z ⟨by omega,by rw[hlz];omega⟩;obtain rfl:k=j:=by omega
 refine⟨AH (Qb I.up) k,?_⟩;rw[OJ,<- N2];refine⟨BK g k,s,L,B,rfl,BO ic ?_ fo λu hu=>I.ru u<|Tp hu,hS _ rfl,jy,S2 _ _ e10,hL,λz hz=>⟨(J z hz).1,GD hv hh hb (J z hz).2⟩,λμ3 S3=>k1 rfl _ _ ⟨_,rfl⟩ S3⟩;show(g.rs.take k++g.rs.drop (k+1)).length<=8;rw[N_,aU,dN];omega;intro μ10 e11 S10;refine Sl (as:=(m.take 2).filter λ_=>true) (g:=λ_=>true) e11 ⟨_,Sub.refl,?_⟩;rw[show(((m.take 2).filter λ_=>true).all λ_=>true)=true by simp];exact q _
def Ts(K:lN):Sp:=λb H Q _=>∃(a:lM) (ns:oA Int),b=[.ref a]/\Ei K H a (ns.map V.int)/\Only H/\ns.length<=63/\∀c,Q (.bl true) c
theorem Tt{H:Hp}:∀(ns:oA Int),Ap K H (ns.map .int) (ns.map V.int)
 |[]=>Db
 |n::ns=>Ci Ce<|Tt ns
def OT{n:Nat}{t:lM}(F:Fun K "law" "law" Iy f fd) (i:VCal P w K mg base n "_law_deal" qB MY) (b:VCal P w K mg base n "_law_game" qC ND) (d:VCal P w K mg base n "_law_saying" qG NP) (j:VCal P w K mg base n "_law_made" oZ GE) (e:VCal P w K mg base n "_law_stands" qK ON) (s:VCal P w K mg base n "reads" oX FJ) (l:VCal P w K mg base n "_law_rule" oU EZ) (c:VCal P w K mg base n "_law_more" qJ OM) (A:VCal P w K mg base n "_law_kept" qL OO) (g:Dg P w K mg base n "without_rule" oW<|NN t) (p:mg "len" = none) (u:mg "enumerate" = none) (y:mg "all" = none):FnOk P w K mg base Dz (n+1) f fd qY (Ts K):=by refine(GH F i b d j e s l c A g p u y).imp ?_;rintro G H Q E ⟨a,ns,rfl,r,B,m,q⟩;refine⟨[.D<|G1 ns],λ_=>none,λv _=>v=.D (.bool true),rfl,.cons ?_ .nil,(λ_ _ z=>nomatch z),⟨ns,rfl,m,λ_=>rfl⟩,?_⟩;refine KB (xs:=ns.map V.int) ?_<|Tt ns;rcases r with(h|h)|h;rcases B a with z|⟨o,xs,z⟩;rw[z]at h;cases h;rw[z]at h;cases h;exact .inl h;exact .inr h;rintro x C v I _ _ k rfl;cases RelA.bl k;exact q _
end
def Fr{b:oA lJ}(h:b.length=1):∃a,b=[a]:=by obtain⟨a,t,rfl,h2⟩:=Ed h;rw[cZ h2];exact⟨a,rfl⟩
def Dn{c:oA lJ}(h:c.length=2):∃b a,c=[b,a]:=by obtain⟨b,t,rfl,h2⟩:=Ed h;obtain⟨a,rfl⟩:=Fr h2;exact⟨b,a,rfl⟩
def Ha{c:oA lJ}(h:c.length=3):∃a b a2,c=[a,b,a2]:=by obtain⟨a,t,rfl,h2⟩:=Ed h;obtain⟨b,a2,rfl⟩:=Dn h2;exact⟨a,b,a2,rfl⟩
def BR{d:oA lJ}(h:d.length=4):∃a c a2 b,d=[a,c,a2,b]:=by obtain⟨a,t,rfl,h2⟩:=Ed h;obtain⟨c,a2,b,rfl⟩:=Ha h2;exact⟨a,c,a2,b,rfl⟩
def HX{e:oA lJ}(h:e.length=5):∃a d a2 c b,e=[a,d,a2,c,b]:=by obtain⟨a,t,rfl,h2⟩:=Ed h;obtain⟨d,a2,c,b,rfl⟩:=BR h2;exact⟨a,d,a2,c,b,rfl⟩
def all_mk{l:PySem.W.OpenLaw}{w:lP}{K:lN}{h:lS}{mg:Str->oB lJ}{fa f1 f2 f3 f4 f5 f6 f7 f8 f9 Q E f12 T O C f16 yu yh zt I f21 f22 ze J f25 f26 f27 f28 f29 F z zg Z x y R N L f39 A M f42 c1 c5 D yb:lM}(X:K.In h)(G:h.Ns mainGlobals mg)(hfa:mg "law" = some (.ref fa))
  {od1 an1 od2 an2 od3 an3 od4 an4 od5 an5 od6 an6 od7 an7 od8 an8 od9 an9 zdt zbm ze1 zes zfr zfm zhe zdp zc6 zcn zdq zfd zc3 zee zan zx zg9 yt zbr zgy zem zfx zgm zdd zfv zcy zc2 zar zc5 ze4 zah zeu ze8 zd4 zav zbx zey zcr zba zg6 zff ze3 zac zb4 za5 zcq zcd zat zet zfq zgf zf7 zer zen zcc zi y7 zd8 zhj zb9 zb0 zf2 zay zcs zdy su zae zd1:oB lM} {sl1 ou sl3 sl4 sl5 sl6 sl7 sl8 sl9 zc7 zdo zho zhn ze6 zdi zgi zgk zas zce zfg zf zg0 zeb zaw zbg zgc zg4 zgw zdj ze9 zbq zds zdf zbt zdl zd3 zb8 zew zau zn zc4 zdr zgs:oC<|oB lJ} {oc1 kV1 dc1 pm1 cd1 ct1 oc2 kV2 dc2 pm2 cd2 ct2 oc3 kV3 dc3 pm3 cd3 ct3 oc4 kV4 dc4 pm4 cd4 ct4 oc5 kV5 dc5 pm5 cd5 ct5 oc6 kV6 dc6 pm6 cd6 ct6 oc7 kV7 dc7 pm7 cd7 ct7 oc8 kV8 dc8 pm8 cd8 ct8 oc9 kV9 dc9 pm9 cd9 ct9 zfc zdz zeo zhh wk za1 zfu zei yz zfy vk zaz zbl zfj zbz zde sg zak zeq zgv za0 y9 wb ze7 zp zb6 zgn zdh vc zf9 zfh zbe zfl zda vt zbu zdn zgr za4 zc0 v7 zhl zal zbf zam zcu wv zgl yw zha zfz zfk w6 zhg zca zf0 zad zc9 uh zcm zhp zhf zct zb7 rp z9 za3 zge zgd zbo uq zgp zgh zbd zcf zci wu zdw zap zaa zdm zhk xp zhi zdg zf3 zeh zft ue zd6 zeg zbv zy zag u4 zax zg8 zg2 zf8 zex ug y8 zf6 zf4 zdk zbc uk zab zfi zbk zgx zcb um zb1 zf5 zr zev zc1 xw zhb zch zaq zg7 zd5 qk zg1 zfe zdu zaj za8 uf zcg zao zbw ze0 zbn wo zhm zb3 za2 zgt zd7 xb zdx zbj zej zdc zhq we zby zga zbb zec zdb tu ze5 zhc zef zfo zbp qq zgo zcp zcw ze2 zck sj zfw zcl za7 zcv zel vm zc zaf zfa zd2 zbh vn zb2 zep za9 zez zbi ux zcz zcx zgz zg5 zfb rq zhd zai vp xa t7 mq se zb5 zed zgq zea qf zf1:lJ}
  {t1 t2 t3 t4 t5 t6:Tok}
  {mz:lM} {uj:oB lM} {p9:oC<|oB lJ} {wy:lJ} {zcj:Tok} {zd9:Nat}
  (d:PySem.W.nsIn K mainGlobals "is_there" = some (some<|.ref f1))
  (l1:K.lookup f1=some ⟨oc1,od1,.func<|PySem.W.fnOf "is_there" "is_there" (Ax PB) (Au PB) (Ad PB) .none kV1 dc1 pm1 an1 cd1 ct1,sl1⟩)
  (c_1:PySem.W.codeIn K cd1 "is_there" = true)
  (k1:PySem.W.keepIn K (.ref f1)=true)
  (a2:PySem.W.nsIn K mainGlobals "look" = some (some<|.ref f2))
  (l2:K.lookup f2=some ⟨oc2,od2,.func<|PySem.W.fnOf "look" "look" (Ax MH) (Au MH) (Ad MH) .none kV2 dc2 pm2 an2 cd2 ct2,ou⟩)
  (c_2:PySem.W.codeIn K cd2 "look" = true)
  (k2:PySem.W.keepIn K (.ref f2)=true)
  (a3:PySem.W.nsIn K mainGlobals "look_size" = some (some<|.ref f3))
  (l3:K.lookup f3=some ⟨oc3,od3,.func<|PySem.W.fnOf "look_size" "look_size" (Ax PD) (Au PD) (Ad PD) .none kV3 dc3 pm3 an3 cd3 ct3,sl3⟩)
  (c_3:PySem.W.codeIn K cd3 "look_size" = true)
  (k3:PySem.W.keepIn K (.ref f3)=true)
  (a4:PySem.W.nsIn K mainGlobals "look_unlike" = some (some<|.ref f4))
  (l4:K.lookup f4=some ⟨oc4,od4,.func<|PySem.W.fnOf "look_unlike" "look_unlike" (Ax PF) (Au PF) (Ad PF) .none kV4 dc4 pm4 an4 cd4 ct4,sl4⟩)
  (c_4:PySem.W.codeIn K cd4 "look_unlike" = true)
  (k4:PySem.W.keepIn K (.ref f4)=true)
  (a5:PySem.W.nsIn K mainGlobals "look_rule" = some (some<|.ref f5))
  (l5:K.lookup f5=some ⟨oc5,od5,.func<|PySem.W.fnOf "look_rule" "look_rule" (Ax HF) (Au HF) (Ad HF) .none kV5 dc5 pm5 an5 cd5 ct5,sl5⟩)
  (c_5:PySem.W.codeIn K cd5 "look_rule" = true)
  (k5:PySem.W.keepIn K (.ref f5)=true)
  (a6:PySem.W.nsIn K mainGlobals "has_its_parts" = some (some<|.ref f6))
  (l6:K.lookup f6=some ⟨oc6,od6,.func<|PySem.W.fnOf "has_its_parts" "has_its_parts" (Ax MJ) (Au MJ) (Ad MJ) .none kV6 dc6 pm6 an6 cd6 ct6,sl6⟩)
  (c_6:PySem.W.codeIn K cd6 "has_its_parts" = true)
  (k6:PySem.W.keepIn K (.ref f6)=true)
  (a7:PySem.W.nsIn K mainGlobals "is_push" = some (some<|.ref f7))
  (l7:K.lookup f7=some ⟨oc7,od7,.func<|PySem.W.fnOf "is_push" "is_push" (Ax PH) (Au PH) (Ad PH) .none kV7 dc7 pm7 an7 cd7 ct7,sl7⟩)
  (c_7:PySem.W.codeIn K cd7 "is_push" = true)
  (k7:PySem.W.keepIn K (.ref f7)=true)
  (a8:PySem.W.nsIn K mainGlobals "as_bits" = some (some<|.ref f8))
  (l8:K.lookup f8=some ⟨oc8,od8,.func<|PySem.W.fnOf "as_bits" "as_bits" (Ax PJ) (Au PJ) (Ad PJ) .none kV8 dc8 pm8 an8 cd8 ct8,sl8⟩)
  (c_8:PySem.W.codeIn K cd8 "as_bits" = true)
  (k8:PySem.W.keepIn K (.ref f8)=true)
  (a9:PySem.W.nsIn K mainGlobals "as_stands" = some (some<|.ref f9))
  (l9:K.lookup f9=some ⟨oc9,od9,.func<|PySem.W.fnOf "as_stands" "as_stands" (Ax MK) (Au MK) (Ad MK) .none kV9 dc9 pm9 an9 cd9 ct9,sl9⟩)
  (c_9:PySem.W.codeIn K cd9 "as_stands" = true)
  (k9:PySem.W.keepIn K (.ref f9)=true)
  (a10:PySem.W.nsIn K mainGlobals "has_within" = some (some<|.ref Q))
  (l10:K.lookup Q=some ⟨zfc,zdt,.func<|PySem.W.fnOf "has_within" "has_within" (Ax PK) (Au PK) (Ad PK) .none zdz zeo zhh zbm wk za1,zc7⟩)
  (c_10:PySem.W.codeIn K wk "has_within" = true)
  (k10:PySem.W.keepIn K (.ref Q)=true)
  (a11:PySem.W.nsIn K mainGlobals "least_alone" = some (some<|.ref E))
  (l11:K.lookup E=some ⟨zfu,ze1,.func<|PySem.W.fnOf "least_alone" "least_alone" (Ax PL) (Au PL) (Ad PL) .none zei yz zfy zes vk zaz,zdo⟩)
  (c_11:PySem.W.codeIn K vk "least_alone" = true)
  (k11:PySem.W.keepIn K (.ref E)=true)
  (a12:PySem.W.nsIn K mainGlobals "thinned" = some (some<|.ref f12))
  (l12:K.lookup f12=some ⟨zbl,zfr,.func<|PySem.W.fnOf "thinned" "thinned" (Ax PM) (Au PM) (Ad PM) .none zfj zbz zde zfm sg zak,zho⟩)
  (c_12:PySem.W.codeIn K sg "thinned" = true)
  (k12:PySem.W.keepIn K (.ref f12)=true)
  (a13:PySem.W.nsIn K mainGlobals "one_of_any" = some (some<|.ref T))
  (l13:K.lookup T=some ⟨zeq,zhe,.func<|PySem.W.fnOf "one_of_any" "one_of_any" (Ax PN) (Au PN) (Ad PN) .none zgv za0 y9 zdp wb ze7,zhn⟩)
  (c_13:PySem.W.codeIn K wb "one_of_any" = true)
  (k13:PySem.W.keepIn K (.ref T)=true)
  (a14:PySem.W.nsIn K mainGlobals "one_of_each" = some (some<|.ref O))
  (l14:K.lookup O=some ⟨zp,zc6,.func<|PySem.W.fnOf "one_of_each" "one_of_each" (Ax PP) (Au PP) (Ad PP) .none zb6 zgn zdh zcn vc zf9,ze6⟩)
  (c_14:PySem.W.codeIn K vc "one_of_each" = true)
  (k14:PySem.W.keepIn K (.ref O)=true)
  (a15:PySem.W.nsIn K mainGlobals "each_with_each" = some (some<|.ref C))
  (l15:K.lookup C=some ⟨zfh,zdq,.func<|PySem.W.fnOf "each_with_each" "each_with_each" (Ax PQ) (Au PQ) (Ad PQ) .none zbe zfl zda zfd vt zbu,zdi⟩)
  (c_15:PySem.W.codeIn K vt "each_with_each" = true)
  (k15:PySem.W.keepIn K (.ref C)=true)
  (a16:PySem.W.nsIn K mainGlobals "arrows_by_top" = some (some<|.ref f16))
  (l16:K.lookup f16=some ⟨zdn,zc3,.func<|PySem.W.fnOf "arrows_by_top" "arrows_by_top" (Ax PR) (Au PR) (Ad PR) .none zgr za4 zc0 zee v7 zhl,zgi⟩)
  (c_16:PySem.W.codeIn K v7 "arrows_by_top" = true)
  (k16:PySem.W.keepIn K (.ref f16)=true)
  (a17:PySem.W.nsIn K mainGlobals "readings_by" = some (some<|.ref yu))
  (l17:K.lookup yu=some ⟨zal,zan,.func<|PySem.W.fnOf "readings_by" "readings_by" (Ax HG) (Au HG) (Ad HG) .none zbf zam zcu zx wv zgl,zgk⟩)
  (c_17:PySem.W.codeIn K wv "readings_by" = true)
  (k17:PySem.W.keepIn K (.ref yu)=true)
  (a18:PySem.W.nsIn K mainGlobals "machine" = some (some<|.ref yh))
  (l18:K.lookup yh=some ⟨yw,zg9,.func<|PySem.W.fnOf "machine" "machine" (Ax MM) (Au MM) (Ad MM) (.ref mz) zha zfz zfk yt w6 zhg,zas⟩)
  (lT18:K.lookup mz=some ⟨wy,uj,.seq #[.int 200 zcj] zd9,p9⟩)
  (c_18:PySem.W.codeIn K w6 "machine" = true)
  (k18:PySem.W.keepIn K (.ref yh)=true)
  (a19:PySem.W.nsIn K mainGlobals "how_many" = some (some<|.ref zt))
  (l19:K.lookup zt=some ⟨zca,zbr,.func<|PySem.W.fnOf "how_many" "how_many" (Ax MN) (Au MN) (Ad MN) .none zf0 zad zc9 zgy uh zcm,zce⟩)
  (c_19:PySem.W.codeIn K uh "how_many" = true)
  (k19:PySem.W.keepIn K (.ref zt)=true)
  (a20:PySem.W.nsIn K mainGlobals "as_arrows" = some (some<|.ref I))
  (l20:K.lookup I=some ⟨zhp,zem,.func<|PySem.W.fnOf "as_arrows" "as_arrows" (Ax MP) (Au MP) (Ad MP) .none zhf zct zb7 zfx rp z9,zfg⟩)
  (c_20:PySem.W.codeIn K rp "as_arrows" = true)
  (k20:PySem.W.keepIn K (.ref I)=true)
  (a21:PySem.W.nsIn K mainGlobals "following" = some (some<|.ref f21))
  (l21:K.lookup f21=some ⟨za3,zgm,.func<|PySem.W.fnOf "following" "following" (Ax HH) (Au HH) (Ad HH) .none zge zgd zbo zdd uq zgp,zf⟩)
  (c_21:PySem.W.codeIn K uq "following" = true)
  (k21:PySem.W.keepIn K (.ref f21)=true)
  (a22:PySem.W.nsIn K mainGlobals "rules_by_top" = some (some<|.ref f22))
  (l22:K.lookup f22=some ⟨zgh,zfv,.func<|PySem.W.fnOf "rules_by_top" "rules_by_top" (Ax PU) (Au PU) (Ad PU) .none zbd zcf zci zcy wu zdw,zg0⟩)
  (c_22:PySem.W.codeIn K wu "rules_by_top" = true)
  (k22:PySem.W.keepIn K (.ref f22)=true)
  (a23:PySem.W.nsIn K mainGlobals "keep_cheapest" = some (some<|.ref ze))
  (l23:K.lookup ze=some ⟨zap,zc2,.func<|PySem.W.fnOf "keep_cheapest" "keep_cheapest" (Ax HI) (Au HI) (Ad HI) .none zaa zdm zhk zar xp zhi,zeb⟩)
  (c_23:PySem.W.codeIn K xp "keep_cheapest" = true)
  (k23:PySem.W.keepIn K (.ref ze)=true)
  (a24:PySem.W.nsIn K mainGlobals "not_kept" = some (some<|.ref J))
  (l24:K.lookup J=some ⟨zdg,zc5,.func<|PySem.W.fnOf "not_kept" "not_kept" (Ax HJ) (Au HJ) (Ad HJ) .none zf3 zeh zft ze4 ue zd6,zaw⟩)
  (c_24:PySem.W.codeIn K ue "not_kept" = true)
  (k24:PySem.W.keepIn K (.ref J)=true)
  (a25:PySem.W.nsIn K mainGlobals "with_rule" = some (some<|.ref f25))
  (l25:K.lookup f25=some ⟨zeg,zah,.func<|PySem.W.fnOf "with_rule" "with_rule" (Ax PV) (Au PV) (Ad PV) .none zbv zy zag zeu u4 zax,zbg⟩)
  (c_25:PySem.W.codeIn K u4 "with_rule" = true)
  (k25:PySem.W.keepIn K (.ref f25)=true)
  (a26:PySem.W.nsIn K mainGlobals "without_rule" = some (some<|.ref f26))
  (l26:K.lookup f26=some ⟨zg8,ze8,.func<|PySem.W.fnOf "without_rule" "without_rule" (Ax PX) (Au PX) (Ad PX) .none zg2 zf8 zex zd4 ug y8,zgc⟩)
  (c_26:PySem.W.codeIn K ug "without_rule" = true)
  (k26:PySem.W.keepIn K (.ref f26)=true)
  (a27:PySem.W.nsIn K mainGlobals "fitting" = some (some<|.ref f27))
  (l27:K.lookup f27=some ⟨zf6,zav,.func<|PySem.W.fnOf "fitting" "fitting" (Ax PY) (Au PY) (Ad PY) .none zf4 zdk zbc zbx uk zab,zg4⟩)
  (c_27:PySem.W.codeIn K uk "fitting" = true)
  (k27:PySem.W.keepIn K (.ref f27)=true)
  (a28:PySem.W.nsIn K mainGlobals "reads" = some (some<|.ref f28))
  (l28:K.lookup f28=some ⟨zfi,zey,.func<|PySem.W.fnOf "reads" "reads" (Ax PZ) (Au PZ) (Ad PZ) .none zbk zgx zcb zcr um zb1,zgw⟩)
  (c_28:PySem.W.codeIn K um "reads" = true)
  (k28:PySem.W.keepIn K (.ref f28)=true)
  (a29:PySem.W.nsIn K mainGlobals "reading_with" = some (some<|.ref f29))
  (l29:K.lookup f29=some ⟨zf5,zba,.func<|PySem.W.fnOf "reading_with" "reading_with" (Ax MQ) (Au MQ) (Ad MQ) .none zr zev zc1 zg6 xw zhb,zdj⟩)
  (c_29:PySem.W.codeIn K xw "reading_with" = true)
  (k29:PySem.W.keepIn K (.ref f29)=true)
  (a30:PySem.W.nsIn K mainGlobals "_law_deal" = some (some<|.ref F))
  (l30:K.lookup F=some ⟨zch,zff,.func<|PySem.W.fnOf "_law_deal" "_law_deal" (Ax HK) (Au HK) (Ad HK) .none zaq zg7 zd5 ze3 qk zg1,ze9⟩)
  (c_30:PySem.W.codeIn K qk "_law_deal" = true)
  (k30:PySem.W.keepIn K (.ref F)=true)
  (a31:PySem.W.nsIn K mainGlobals "_law_draw" = some (some<|.ref z))
  (l31:K.lookup z=some ⟨zfe,zac,.func<|PySem.W.fnOf "_law_draw" "_law_draw" (Ax QA) (Au QA) (Ad QA) .none zdu zaj za8 zb4 uf zcg,zbq⟩)
  (c_31:PySem.W.codeIn K uf "_law_draw" = true)
  (k31:PySem.W.keepIn K (.ref z)=true)
  (a32:PySem.W.nsIn K mainGlobals "_law_names" = some (some<|.ref zg))
  (l32:K.lookup zg=some ⟨zao,za5,.func<|PySem.W.fnOf "_law_names" "_law_names" (Ax MR) (Au MR) (Ad MR) .none zbw ze0 zbn zcq wo zhm,zds⟩)
  (c_32:PySem.W.codeIn K wo "_law_names" = true)
  (k32:PySem.W.keepIn K (.ref zg)=true)
  (a33:PySem.W.nsIn K mainGlobals "_law_rule" = some (some<|.ref Z))
  (l33:K.lookup Z=some ⟨zb3,zcd,.func<|PySem.W.fnOf "_law_rule" "_law_rule" (Ax HL) (Au HL) (Ad HL) .none za2 zgt zd7 zat xb zdx,zdf⟩)
  (c_33:PySem.W.codeIn K xb "_law_rule" = true)
  (k33:PySem.W.keepIn K (.ref Z)=true)
  (a34:PySem.W.nsIn K mainGlobals "_law_rules" = some (some<|.ref x))
  (l34:K.lookup x=some ⟨zbj,zet,.func<|PySem.W.fnOf "_law_rules" "_law_rules" (Ax MS) (Au MS) (Ad MS) .none zej zdc zhq zfq we zby,zbt⟩)
  (c_34:PySem.W.codeIn K we "_law_rules" = true)
  (k34:PySem.W.keepIn K (.ref x)=true)
  (a35:PySem.W.nsIn K mainGlobals "_law_game" = some (some<|.ref y))
  (l35:K.lookup y=some ⟨zga,zgf,.func<|PySem.W.fnOf "_law_game" "_law_game" (Ax MT) (Au MT) (Ad MT) .none zbb zec zdb zf7 tu ze5,zdl⟩)
  (c_35:PySem.W.codeIn K tu "_law_game" = true)
  (k35:PySem.W.keepIn K (.ref y)=true)
  (a36:PySem.W.nsIn K mainGlobals "_law_some" = some (some<|.ref R))
  (l36:K.lookup R=some ⟨zhc,zer,.func<|PySem.W.fnOf "_law_some" "_law_some" (Ax MU) (Au MU) (Ad MU) .none zef zfo zbp zen qq zgo,zd3⟩)
  (c_36:PySem.W.codeIn K qq "_law_some" = true)
  (k36:PySem.W.keepIn K (.ref R)=true)
  (a37:PySem.W.nsIn K mainGlobals "_law_saying" = some (some<|.ref N))
  (l37:K.lookup N=some ⟨zcp,zcc,.func<|PySem.W.fnOf "_law_saying" "_law_saying" (Ax QB) (Au QB) (Ad QB) .none zcw ze2 zck zi sj zfw,zb8⟩)
  (c_37:PySem.W.codeIn K sj "_law_saying" = true)
  (k37:PySem.W.keepIn K (.ref N)=true)
  (a38:PySem.W.nsIn K mainGlobals "_law_made" = some (some<|.ref L))
  (l38:K.lookup L=some ⟨zcl,y7,.func<|PySem.W.fnOf "_law_made" "_law_made" (Ax QC) (Au QC) (Ad QC) .none za7 zcv zel zd8 vm zc,zew⟩)
  (c_38:PySem.W.codeIn K vm "_law_made" = true)
  (k38:PySem.W.keepIn K (.ref L)=true)
  (a39:PySem.W.nsIn K mainGlobals "_law_stands" = some (some<|.ref f39))
  (l39:K.lookup f39=some ⟨zaf,zhj,.func<|PySem.W.fnOf "_law_stands" "_law_stands" (Ax ET) (Au ET) (Ad ET) .none zfa zd2 zbh zb9 vn zb2,zau⟩)
  (c_39:PySem.W.codeIn K vn "_law_stands" = true)
  (k39:PySem.W.keepIn K (.ref f39)=true)
  (a40:PySem.W.nsIn K mainGlobals "_law_more" = some (some<|.ref A))
  (l40:K.lookup A=some ⟨zep,zb0,.func<|PySem.W.fnOf "_law_more" "_law_more" (Ax QD) (Au QD) (Ad QD) .none za9 zez zbi zf2 ux zcz,zn⟩)
  (c_40:PySem.W.codeIn K ux "_law_more" = true)
  (k40:PySem.W.keepIn K (.ref A)=true)
  (a41:PySem.W.nsIn K mainGlobals "_law_kept" = some (some<|.ref M))
  (l41:K.lookup M=some ⟨zcx,zay,.func<|PySem.W.fnOf "_law_kept" "_law_kept" (Ax MV) (Au MV) (Ad MV) .none zgz zg5 zfb zcs rq zhd,zc4⟩)
  (c_41:PySem.W.codeIn K rq "_law_kept" = true)
  (k41:PySem.W.keepIn K (.ref M)=true)
  (a42:PySem.W.nsIn K mainGlobals "law" = some (some<|.ref f42))
  (l42:K.lookup f42=some ⟨zai,zdy,.func<|PySem.W.fnOf "law" "law" (Ax Iy) (Au Iy) (Ad Iy) .none vp xa t7 su mq se,zdr⟩)
  (c_42:PySem.W.codeIn K mq "law" = true)
  (k42:PySem.W.keepIn K (.ref f42)=true)
  (u_c1:PySem.W.nsIn K mainGlobals "NoGame" = some (some<|.ref c1))
  (u_c5:PySem.W.nsIn K mainGlobals "NoFit" = some (some<|.ref c5))
  (u_D:PySem.W.nsIn K mainGlobals "DuelError" = some (some<|.ref D))
  (e_c1:Sm K c1 D []=true)
  (i_c1:PySem.W.findIn K (.ref c1) "__init__" = some (some<|.ref yb))
  (n_c1:PySem.W.isFn K (.ref yb)=true)
  (l_c1:K.lookup yb=some ⟨zb5,zae,.func<|PySem.W.fnOf "__init__" "NoGame.__init__" (Ax Vi) (Au Vi) (Ad Vi) .none zed zgq zea zd1 qf zf1,zgs⟩)
  (c_c1:PySem.W.codeIn K qf "NoGame.__init__" = true)
  (k_c1:PySem.W.keepIn K (.ref yb)=true)
  (j:PySem.W.findIn K (.ref c1) "word" = some none)
  (m:PySem.W.findIn K (.ref c1) "at" = some none)
  (e_c5:Sm K c5 D []=true)
  (i_c5:PySem.W.findIn K (.ref c5) "__init__" = some (some<|.builtin "ValueError.__init__"))
  (f:PySem.W.nsIn K mainGlobals "isinstance" = some none)
  (t:PySem.W.nsIn K mainGlobals "bool" = some none) (U:PySem.W.nsIn K mainGlobals "len" = some none)
  (q:PySem.W.nsIn K mainGlobals "range" = some none)
  (g:PySem.W.nsIn K mainGlobals "enumerate" = some none) (V:PySem.W.nsIn K mainGlobals "all" = some none)
  (p:PySem.W.nsIn K mainGlobals "tuple" = some none)
  (o:PySem.W.nsIn K mainGlobals "sorted" = some none) (H:PySem.W.nsIn K mainGlobals "set" = some none)
  (z_max:PySem.W.nsIn K mainGlobals "max" = some none)
  (r:PySem.W.nsIn K mainGlobals "list" = some none) (Y:PySem.W.nsIn K mainGlobals "sum" = some none)
  (z_min:PySem.W.nsIn K mainGlobals "min" = some none)
  (k:PySem.W.nsIn K mainGlobals "reversed" = some none) (B:PySem.W.nsIn K mainGlobals "int" = some none) (S:PySem.W.nsIn K mainGlobals "zip" = some none)
  (y1:PySem.W.nsIn K mainGlobals "MOST_PLACES" = some (some<|.int 3 t1))
  (y2:PySem.W.nsIn K mainGlobals "MOST_LETTERS" = some (some<|.int 3 t2))
  (y3:PySem.W.nsIn K mainGlobals "MOST_RULES" = some (some<|.int 8 t3))
  (y4:PySem.W.nsIn K mainGlobals "MOST_PUSHES" = some (some<|.int 3 t4))
  (y5:PySem.W.nsIn K mainGlobals "MOST_ANSWERS" = some (some<|.int 2 t5))
  (y6:PySem.W.nsIn K mainGlobals "OTHER_HAND" = some (some<|.int 1 t6)) :
  ∃fd:lV,(∀(s:lK) (v:lJ),BindsTo s fd ⟨[v],[]⟩ [("_law_script",v)])/\∀base:lS,K.In base->base.Ns mainGlobals mg->FnOk l.prog w K mg base Dz 65 fa fd qY (Ts K):=by
 have e:=hfa.symm.trans<|V_ X G a42;cases e;have F1:=A9 (st:=PB) l1 c_1 k1;have F2:=A9 (st:=MH) l2 c_2 k2;have F3:=A9 (st:=PD) l3 c_3 k3;have F4:=A9 (st:=PF) l4 c_4 k4;have F5:=A9 (st:=HF) l5 c_5 k5;have F6:=A9 (st:=MJ) l6 c_6 k6;have F7:=A9 (st:=PH) l7 c_7 k7;have F8:=A9 (st:=PJ) l8 c_8 k8;have F9:=A9 (st:=MK) l9 c_9 k9;have F10:=A9 (st:=PK) l10 c_10 k10;have F11:=A9 (st:=PL) l11 c_11 k11;have F12:=A9 (st:=PM) l12 c_12 k12;have F13:=A9 (st:=PN) l13 c_13 k13;have F14:=A9 (st:=PP) l14 c_14 k14;have F15:=A9 (st:=PQ) l15 c_15 k15;have F16:=A9 (st:=PR) l16 c_16 k16;have F17:=A9 (st:=HG) l17 c_17 k17;have F18:FunD K "machine" "machine" MM yh _ mz:=⟨_,_,_,_,_,_,_,_,_,rfl,l18,c_18⟩;have F19:=A9 (st:=MN) l19 c_19 k19;have F20:=A9 (st:=MP) l20 c_20 k20;have F21:=A9 (st:=HH) l21 c_21 k21;have F22:=A9 (st:=PU) l22 c_22 k22;have F23:=A9 (st:=HI) l23 c_23 k23;have F24:=A9 (st:=HJ) l24 c_24 k24;have F25:=A9 (st:=PV) l25 c_25 k25;have F26:=A9 (st:=PX) l26 c_26 k26;have F27:=A9 (st:=PY) l27 c_27 k27;have F28:=A9 (st:=PZ) l28 c_28 k28;have F29:=A9 (st:=MQ) l29 c_29 k29;have F30:=A9 (st:=HK) l30 c_30 k30;have F31:=A9 (st:=QA) l31 c_31 k31;have F32:=A9 (st:=MR) l32 c_32 k32;have F33:=A9 (st:=HL) l33 c_33 k33;have F34:=A9 (st:=MS) l34 c_34 k34;have F35:=A9 (st:=MT) l35 c_35 k35;have F36:=A9 (st:=MU) l36 c_36 k36;have F37:=A9 (st:=QB) l37 c_37 k37;have F38:=A9 (st:=QC) l38 c_38 k38;have F39:=A9 (st:=ET) l39 c_39 k39;have F40:=A9 (st:=QD) l40 c_40 k40;have F41:=A9 (st:=MV) l41 c_41 k41;have F42:=A9 (st:=Iy) l42 c_42 k42;have Fc1:=A9 (st:=Vi) l_c1 c_c1 k_c1;have b1:=F1.binds (ps:=oV) λ_ _ _ _ _ _ c a=>by obtain⟨b,d,rfl⟩:=Dn a;rfl
 have b2:=F2.binds (ps:=oQ) λ_ _ _ _ _ _ c a=>by obtain⟨b,rfl⟩:=Fr a;rfl
 have b3:=F3.binds (ps:=qE) λ_ _ _ _ _ _ c a=>by obtain⟨b,d,a2,rfl⟩:=Ha a;rfl
 have b4:=F4.binds (ps:=qN) λ_ _ _ _ _ _ c a=>by obtain⟨b,rfl⟩:=Fr a;rfl
 have b5:=F5.binds (ps:=qO) λ_ _ _ _ _ _ c a=>by obtain⟨b,d,rfl⟩:=Dn a;rfl
 have b6:=F6.binds (ps:=oM) λ_ _ _ _ _ _ c a=>by obtain⟨b,d,rfl⟩:=Dn a;rfl
 have b7:=F7.binds (ps:=qD) λ_ _ _ _ _ _ c a=>by obtain⟨b,rfl⟩:=Fr a;rfl
 have b8:=F8.binds (ps:=qH) λ_ _ _ _ _ _ c a=>by obtain⟨b,rfl⟩:=Fr a;rfl
 have b9:=F9.binds (ps:=oY) λ_ _ _ _ _ _ c a=>by obtain⟨b,rfl⟩:=Fr a;rfl
 have b10:=F10.binds (ps:=qI) λ_ _ _ _ _ _ c a=>by obtain⟨b,d,rfl⟩:=Dn a;rfl
 have b11:=F11.binds (ps:=oR) λ_ _ _ _ _ _ c a=>by obtain⟨b,rfl⟩:=Fr a;rfl
 have b12:=F12.binds (ps:=oS) λ_ _ _ _ _ _ c a=>by obtain⟨b,d,rfl⟩:=Dn a;rfl
 have b13:=F13.binds (ps:=oN) λ_ _ _ _ _ _ c a=>by obtain⟨b,d,rfl⟩:=Dn a;rfl
 have b14:=F14.binds (ps:=oN) λ_ _ _ _ _ _ c a=>by obtain⟨b,d,rfl⟩:=Dn a;rfl
 have b15:=F15.binds (ps:=qR) λ_ _ _ _ _ _ c a=>by obtain⟨b,d,rfl⟩:=Dn a;rfl
 have b16:=F16.binds (ps:=qS) λ_ _ _ _ _ _ c a=>by obtain⟨b,rfl⟩:=Fr a;rfl
 have b17:=F17.binds (ps:=qT) λ_ _ _ _ _ _ c a=>by obtain⟨b,d,a2,a3,rfl⟩:=BR a;rfl
 have b18:=F18.binds (ps:=qX) lT18 λ_ _ _ _ _ _ c a=>by obtain⟨b,d,rfl⟩:=Dn<|Nat.succ.inj a;exact⟨_,rfl,rfl⟩
 have b19:=F19.binds (ps:=oP) λ_ _ _ _ _ _ c a=>by obtain⟨b,rfl⟩:=Fr a;rfl
 have b20:=F20.binds (ps:=oP) λ_ _ _ _ _ _ c a=>by obtain⟨b,rfl⟩:=Fr a;rfl
 have b21:=F21.binds (ps:=qU) λ_ _ _ _ _ _ c a=>by obtain⟨b,d,a2,rfl⟩:=Ha a;rfl
 have b22:=F22.binds (ps:=oQ) λ_ _ _ _ _ _ c a=>by obtain⟨b,rfl⟩:=Fr a;rfl
 have b23:=F23.binds (ps:=qW) λ_ _ _ _ _ _ c a=>by obtain⟨b,d,rfl⟩:=Dn a;rfl
 have b24:=F24.binds (ps:=qV) λ_ _ _ _ _ _ c a=>by obtain⟨b,d,rfl⟩:=Dn a;rfl
 have b25:=F25.binds (ps:=oM) λ_ _ _ _ _ _ c a=>by obtain⟨b,d,rfl⟩:=Dn a;rfl
 have b26:=F26.binds (ps:=oW) λ_ _ _ _ _ _ c a=>by obtain⟨b,d,rfl⟩:=Dn a;rfl
 have b27:=F27.binds (ps:=qF) λ_ _ _ _ _ _ c a=>by obtain⟨b,d,a2,rfl⟩:=Ha a;rfl
 have b28:=F28.binds (ps:=oX) λ_ _ _ _ _ _ c a=>by obtain⟨b,d,a2,a3,rfl⟩:=BR a;rfl
 have b29:=F29.binds (ps:=qQ) λ_ _ _ _ _ _ c a=>by obtain⟨b,d,a2,rfl⟩:=Ha a;rfl
 have b30:=F30.binds (ps:=qB) λ_ _ _ _ _ _ c a=>by obtain⟨b,d,rfl⟩:=Dn a;rfl
 have b31:=F31.binds (ps:=oK) λ_ _ _ _ _ _ c a=>by obtain⟨b,d,rfl⟩:=Dn a;rfl
 have b32:=F32.binds (ps:=oK) λ_ _ _ _ _ _ c a=>by obtain⟨b,d,rfl⟩:=Dn a;rfl
 have b33:=F33.binds (ps:=oU) λ_ _ _ _ _ _ c a=>by obtain⟨b,d,a2,rfl⟩:=Ha a;rfl
 have b34:=F34.binds (ps:=qM) λ_ _ _ _ _ _ c a=>by obtain⟨b,d,a2,a3,a4,rfl⟩:=HX a;rfl
 have b35:=F35.binds (ps:=qC) λ_ _ _ _ _ _ c a=>by obtain⟨b,d,a2,rfl⟩:=Ha a;rfl
 have b36:=F36.binds (ps:=qP) λ_ _ _ _ _ _ c a=>by obtain⟨b,d,a2,rfl⟩:=Ha a;rfl
 have b37:=F37.binds (ps:=qG) λ_ _ _ _ _ _ c a=>by obtain⟨b,d,a2,a3,a4,rfl⟩:=HX a;rfl
 have b38:=F38.binds (ps:=oZ) λ_ _ _ _ _ _ c a=>by obtain⟨b,d,rfl⟩:=Dn a;rfl
 have b39:=F39.binds (ps:=qK) λ_ _ _ _ _ _ c a=>by obtain⟨b,rfl⟩:=Fr a;rfl
 have b40:=F40.binds (ps:=qJ) λ_ _ _ _ _ _ c a=>by obtain⟨b,d,rfl⟩:=Dn a;rfl
 have b41:=F41.binds (ps:=qL) λ_ _ _ _ _ _ c a=>by obtain⟨b,d,a2,rfl⟩:=Ha a;rfl
 have bc1:=Fc1.binds (ps:=qZ) λ_ _ _ _ _ _ c a=>by obtain⟨b,d,a2,rfl⟩:=Ha a;rfl
 have bv:=bE X G f;have gx:=bE X G t;have i:=bE X G U;have u:=bE X G q;have av:=bE X G g;have bn:=bE X G V;have al:=bE X G p;have ay:=bE X G o;have lx:=bE X G H;have fw:=bE X G z_max;have bi:=bE X G r;have jn:=bE X G Y;have ix:=bE X G z_min;have bh:=bE X G k;have fg:=bE X G B;have jp:=bE X G S;have xy:=V_ X G u_c1;have yj:=V_ X G u_c5;have mD:=V_ X G u_D;have gg:=Yc e_c1;have iz:=Yc e_c5;have mMP:=V_ X G y1;have mML:=V_ X G y2;have mMR:=V_ X G y3;have mMH:=V_ X G y4;have mMA:=V_ X G y5;have pq:=V_ X G y6;refine⟨PySem.W.fnOf "law" "law" (Ax Iy) (Au Iy) (Ad Iy) .none vp xa t7 su mq se,λs v=>.of_eq rfl,λbase _ _=>?_⟩;have kq:XCal l.prog w K mg base 9 "NoGame" c1 qA:=⟨_,_,_,(MW (P:=l.prog) (w:=w) (mg:=mg) (base:=base) (n:=0) Fc1 gg.xi.toXCls j m).mono<|by decide,bc1,⟨gg.xc,i_c1,n_c1,gg.kp⟩,xy,gg.xi.toXCls.mb⟩;have u5:XNo K mg "NoFit" c5:=⟨iz.xc,i_c5,iz.kp,iz.xi.toXCls.mb,yj⟩;have g1:=VC (P:=l.prog) (w:=w) (mg:=mg) (base:=base) (n:=0) F1 bv gx;have q1:VCal l.prog w K mg base 1 "is_there" oV _:=⟨_,_,g1,b1,k1,V_ X G d⟩;have g3:=VN (P:=l.prog) (w:=w) (mg:=mg) (base:=base) (n:=9) F3 kq;have q3:Dg l.prog w K mg base 11 "look_size" qE _:=⟨_,_,g3,b3,k3,V_ X G a3⟩;have g4:=VQ (P:=l.prog) (w:=w) (mg:=mg) (base:=base) (n:=9) F4 av kq;have q4:Dg l.prog w K mg base 11 "look_unlike" qN _:=⟨_,_,g4,b4,k4,V_ X G a4⟩;have g6:=VL (P:=l.prog) (w:=w) (mg:=mg) (base:=base) (n:=1) F6 (q1.mono<|by decide) i bn;have q6:VCal l.prog w K mg base 2 "has_its_parts" oM _:=⟨_,_,g6,b6,k6,V_ X G a6⟩;have g7:=VF (P:=l.prog) (w:=w) (mg:=mg) (base:=base) (n:=0) F7 i;have q7:VCal l.prog w K mg base 1 "is_push" qD _:=⟨_,_,g7,b7,k7,V_ X G a7⟩;have g5:=VY (P:=l.prog) (w:=w) (mg:=mg) (base:=base) (n:=9) F5 (q6.mono<|by decide) (q7.mono<|by decide) i mMH mMA pq kq;have q5:Dg l.prog w K mg base 11 "look_rule" qO _:=⟨_,_,g5,b5,k5,V_ X G a5⟩;have g2:=WA (P:=l.prog) (w:=w) (mg:=mg) (base:=base) (n:=10) F2 (q3.mono<|by decide) (q4.mono<|by decide) (q5.mono<|by decide) i u mMP mML mMR (kq.mono<|by decide);have q2:Dg l.prog w K mg base 12 "look" oQ _:=⟨_,_,g2,b2,k2,V_ X G a2⟩;have g8:=WP (P:=l.prog) (w:=w) (mg:=mg) (base:=base) (n:=0) F8;have q8:VCal l.prog w K mg base 1 "as_bits" qH _:=⟨_,_,g8,b8,k8,V_ X G a8⟩;have g9:=WR (P:=l.prog) (w:=w) (mg:=mg) (base:=base) (n:=0) F9 al u;have q9:VCal l.prog w K mg base 1 "as_stands" oY _:=⟨_,_,g9,b9,k9,V_ X G a9⟩;have g10:=WV (P:=l.prog) (w:=w) (mg:=mg) (base:=base) (n:=0) F10;have q10:VCal l.prog w K mg base 1 "has_within" qI _:=⟨_,_,g10,b10,k10,V_ X G a10⟩;have g11:=WW (P:=l.prog) (w:=w) (mg:=mg) (base:=base) (n:=1) F11 (q10.mono<|by decide) ay;have q11:VCal l.prog w K mg base 2 "least_alone" oR _:=⟨_,_,g11,b11,k11,V_ X G a11⟩;have g12:=WX (P:=l.prog) (w:=w) (mg:=mg) (base:=base) (n:=2) F12 (q11.mono<|by decide) ay lx;have q12:VCal l.prog w K mg base 3 "thinned" oS _:=⟨_,_,g12,b12,k12,V_ X G a12⟩;have g13:=XB (P:=l.prog) (w:=w) (mg:=mg) (base:=base) (n:=3) F13 (q12.mono<|by decide);have q13:VCal l.prog w K mg base 4 "one_of_any" oN _:=⟨_,_,g13,b13,k13,V_ X G a13⟩;have g15:=WT (P:=l.prog) (w:=w) (mg:=mg) (base:=base) (n:=0) F15 fw bi;have q15:VCal l.prog w K mg base 1 "each_with_each" qR _:=⟨_,_,g15,b15,k15,V_ X G a15⟩;have g14:=WY (P:=l.prog) (w:=w) (mg:=mg) (base:=base) (n:=3) F14 (q12.mono<|by decide) (q15.mono<|by decide);have q14:VCal l.prog w K mg base 4 "one_of_each" oN _:=⟨_,_,g14,b14,k14,V_ X G a14⟩;have g16:=XE (P:=l.prog) (w:=w) (mg:=mg) (base:=base) (n:=1) F16 (q8.mono<|by decide);have q16:VCal l.prog w K mg base 2 "arrows_by_top" qS _:=⟨_,_,g16,b16,k16,V_ X G a16⟩;have g17:=XN (P:=l.prog) (w:=w) (mg:=mg) (base:=base) (n:=4) F17 (q8.mono<|by decide) (q9.mono<|by decide) (q12.mono<|by decide) (q14.mono<|by decide) i;have q17:VCal l.prog w K mg base 5 "readings_by" qT _:=⟨_,_,g17,b17,k17,V_ X G a17⟩;have g24:=XU (P:=l.prog) (w:=w) (mg:=mg) (base:=base) (n:=1) F24 (q10.mono<|by decide) i;have q24:VCal l.prog w K mg base 2 "not_kept" qV _:=⟨_,_,g24,b24,k24,V_ X G a24⟩;have g22:=XI (P:=l.prog) (w:=w) (mg:=mg) (base:=base) (n:=0) F22;have q22:VCal l.prog w K mg base 1 "rules_by_top" oQ _:=⟨_,_,g22,b22,k22,V_ X G a22⟩;have g21:=XS (P:=l.prog) (w:=w) (mg:=mg) (base:=base) (n:=5) F21 (q22.mono<|by decide) (q17.mono<|by decide) (q14.mono<|by decide) (q13.mono<|by decide) pq;have q21:VCal l.prog w K mg base 6 "following" qU _:=⟨_,_,g21,b21,k21,V_ X G a21⟩;have g19:=XX (P:=l.prog) (w:=w) (mg:=mg) (base:=base) (n:=0) F19 jn i;have q19:VCal l.prog w K mg base 1 "how_many" oP _:=⟨_,_,g19,b19,k19,V_ X G a19⟩;have g23:=YC (P:=l.prog) (w:=w) (mg:=mg) (base:=base) (n:=0) F23 ix;have q23:VCal l.prog w K mg base 1 "keep_cheapest" qW _:=⟨_,_,g23,b23,k23,V_ X G a23⟩;have g20:=YE (P:=l.prog) (w:=w) (mg:=mg) (base:=base) (n:=1) F20 (q9.mono<|by decide);have q20:VCal l.prog w K mg base 2 "as_arrows" oP _:=⟨_,_,g20,b20,k20,V_ X G a20⟩;have g18:=YK (P:=l.prog) (w:=w) (mg:=mg) (base:=base) (n:=6) F18 (q16.mono<|by decide) (q11.mono<|by decide) (q24.mono<|by decide) (q21.mono<|by decide) (q19.mono<|by decide) (q23.mono<|by decide) (q20.mono<|by decide) i al ay;have q18:Mc l.prog w K mg base 7 "machine" qX 200 _:=⟨_,_,_,g18,b18,k18,V_ X G a18⟩;have g27:=WC (P:=l.prog) (w:=w) (mg:=mg) (base:=base) (n:=11) F27 (q2.mono<|by decide) xy gg u5;have q27:Dg l.prog w K mg base 13 "fitting" qF _:=⟨_,_,g27,b27,k27,V_ X G a27⟩;have g25:=WE (P:=l.prog) (w:=w) (mg:=mg) (base:=base) (n:=12) F25 (q27.mono<|by decide);have q25:Dg l.prog w K mg base 14 "with_rule" oM _:=⟨_,_,g25,b25,k25,V_ X G a25⟩;have g26:=WF (P:=l.prog) (w:=w) (mg:=mg) (base:=base) (n:=12) F26 (q27.mono<|by decide) (q1.mono<|by decide) i u5;have q26:Dg l.prog w K mg base 14 "without_rule" oW _:=⟨_,_,g26,b26,k26,V_ X G a26⟩;have g29:=WN (P:=l.prog) (w:=w) (mg:=mg) (base:=base) (n:=0) F29 bn;have q29:VCal l.prog w K mg base 1 "reading_with" qQ _:=⟨_,_,g29,b29,k29,V_ X G a29⟩;have g28:=WO (P:=l.prog) (w:=w) (mg:=mg) (base:=base) (n:=1) F28 (q29.mono<|by decide) bh;have q28:VCal l.prog w K mg base 2 "reads" oX _:=⟨_,_,g28,b28,k28,V_ X G a28⟩;have g30:=UN (P:=l.prog) (w:=w) (mg:=mg) (base:=base) (n:=0) F30 fw bi bh;have q30:VCal l.prog w K mg base 1 "_law_deal" qB _:=⟨_,_,g30,b30,k30,V_ X G a30⟩;have g31:=UJ (P:=l.prog) (w:=w) (mg:=mg) (base:=base) (n:=0) F31 i;have u7:VCal l.prog w K mg base 1 "_law_draw" oK _:=⟨_,_,g31,b31,k31,V_ X G a31⟩;have g32:=UR (P:=l.prog) (w:=w) (mg:=mg) (base:=base) (n:=1) F32 (u7.mono<|by decide) u i fg;have q32:VCal l.prog w K mg base 2 "_law_names" oK _:=⟨_,_,g32,b32,k32,V_ X G a32⟩;have g33:=UU (P:=l.prog) (w:=w) (mg:=mg) (base:=base) (n:=1) F33 (u7.mono<|by decide) i al u;have q33:VCal l.prog w K mg base 2 "_law_rule" oU _:=⟨_,_,g33,b33,k33,V_ X G a33⟩;have g34:=UX (P:=l.prog) (w:=w) (mg:=mg) (base:=base) (n:=2) F34 (q33.mono<|by decide) u i al;have q34:VCal l.prog w K mg base 3 "_law_rules" qM _:=⟨_,_,g34,b34,k34,V_ X G a34⟩;have g35:=UZ (P:=l.prog) (w:=w) (mg:=mg) (base:=base) (n:=3) F35 (u7.mono<|by decide) (q32.mono<|by decide) (q34.mono<|by decide) u fg i al jp;have q35:VCal l.prog w K mg base 4 "_law_game" qC _:=⟨_,_,g35,b35,k35,V_ X G a35⟩;have g36:=WJ (P:=l.prog) (w:=w) (mg:=mg) (base:=base) (n:=1) F36 (u7.mono<|by decide) al;have q36:VCal l.prog w K mg base 2 "_law_some" qP _:=⟨_,_,g36,b36,k36,V_ X G a36⟩;have g37:=WK (P:=l.prog) (w:=w) (mg:=mg) (base:=base) (n:=2) F37 (u7.mono<|by decide) (q36.mono<|by decide) i bi u al ay;have q37:VCal l.prog w K mg base 3 "_law_saying" qG _:=⟨_,_,g37,b37,k37,V_ X G a37⟩;have g38:=YL (P:=l.prog) (w:=w) (mg:=mg) (base:=base) (n:=7) F38 (q18.mono<|by decide);have q38:VCal l.prog w K mg base 8 "_law_made" oZ _:=⟨_,_,g38,b38,k38,V_ X G a38⟩;have g39:=YR (P:=l.prog) (w:=w) (mg:=mg) (base:=base) (n:=0) F39 bi u i;have q39:VCal l.prog w K mg base 1 "_law_stands" qK _:=⟨_,_,g39,b39,k39,V_ X G a39⟩;have g40:=YM (P:=l.prog) (w:=w) (mg:=mg) (base:=base) (n:=14) F40 (q25.mono<|by decide) yj iz;have q40:VCal l.prog w K mg base 15 "_law_more" qJ _:=⟨_,_,g40,b40,k40,V_ X G a40⟩;have g41:=YU (P:=l.prog) (w:=w) (mg:=mg) (base:=base) (n:=8) F41 (q38.mono<|by decide) (q28.mono<|by decide) bn;have q41:VCal l.prog w K mg base 9 "_law_kept" qL _:=⟨_,_,g41,b41,k41,V_ X G a41⟩;have g42:=OT (P:=l.prog) (w:=w) (mg:=mg) (base:=base) (n:=15) F42 (q30.mono<|by decide) (q35.mono<|by decide) (q37.mono<|by decide) (q38.mono<|by decide) (q39.mono<|by decide) (q28.mono<|by decide) (q33.mono<|by decide) (q40.mono<|by decide) (q41.mono<|by decide) (q26.mono<|by decide) i av bn;exact g42.mono<|by decide
def walk{l:PySem.W.OpenLaw}{q:lO}{m:oA Str}{v:(Str->oB lJ)->lS->Prop}{e:lP->lS->Prop}{d:DefRec}{K:Params->lN}(hn:l.most=some 63)(i:d.params.defaults=[])
  (o:∀(w:lP) (h:lS),e w h->(K w.params).In h) (F:∀(w:lP) (mg:Str->oB lJ) (c:lM) (h:lS),(K w.params).In h->h.Ns mainGlobals mg->mg d.name=some (.ref c) ->
   ∃g:lV,(∀(s:lK) (u:lJ),BindsTo s g ⟨[u],[]⟩ [("_law_script",u)])/\∀b:lS,(K w.params).In b->b.Ns mainGlobals mg->FnOk l.prog w (K w.params) mg b Dz 65 c g qY (Ts<|K w.params)) :
  PySem.W.WalkO q m v e l.row.toRowW d [] (λf j=>PySem.call f j) :=
 L2.walk_of (n:=63) (k:=65) (x := "_law_script") (CX:=λ_=>Dz) (sp:=λw=>Ts<|K w.params) hn (by decide) i ⟨rfl,by decide,by decide,rfl⟩ o F (λ_ _ a ns p t r=>⟨a,ns,rfl,r,t,p,λ_=>rfl⟩) λ_ _ _ _ _ z=>z
end K50
namespace PySem.W.Fast
def tw5987751249773805958:True:=trivial
def tw12203227294752738030:True:=trivial
def tw1310571252017246923:True:=trivial
def tw18084282253604408277:True:=trivial
def tw16776459380180806485:True:=trivial
def tw12938199561934090658:True:=trivial
def tw11399933052105523339:True:=trivial
def tw8017029972220377002:True:=trivial
def tw16530070372223568579:True:=trivial
def tw12214836972698779892:True:=trivial
def tw8081840695626433810:True:=trivial
def tw15155215315297322245:True:=trivial
def tw2333808654872530106:True:=trivial
def tw16863393901950312945:True:=trivial
def tw5815051337997350045:True:=trivial
def tw8844912273534522262:True:=trivial
def tw13593668757787989943:True:=trivial
def tw1520937525846873351:True:=trivial
def tw11711646857457161203:True:=trivial
def tw3443058784429482961:True:=trivial
def tw12613870631413090146:True:=trivial
def tw11284915710821352417:True:=trivial
def tw15815813361243502958:True:=trivial
def tw9410529592056311937:True:=trivial
def tw17759184854872781498:True:=trivial
def tw10274962376629911702:True:=trivial
def tw5896705968893603392:True:=trivial
def tw15325000584951499579:True:=trivial
def tw4998832171958799139:True:=trivial
def tw8767934464818565122:True:=trivial
def tw2991351791967532395:True:=trivial
def tw13292973860862518925:True:=trivial
def tw14825542305639243912:True:=trivial
def tw1672848200672008839:True:=trivial
def tw10513561797913448569:True:=trivial
def tw16275210323279731014:True:=trivial
def tw18013786111217155134:True:=trivial
def tw6695951207806732211:True:=trivial
def tw7478385312094187251:True:=trivial
def tw11835455896051218898:True:=trivial
def tw15974059898573080534:True:=trivial
def tw10608018303915765347:True:=trivial
def tw12253044328385547306:True:=trivial
def tw13829159393445113515:True:=trivial
def tw12966791659421256806:True:=trivial
def tw14221626401179542981:True:=trivial
def tw3657283761560680443:True:=trivial
def tw5290734753051361042:True:=trivial
def tw15931819636740531457:True:=trivial
def tw4819512450900584236:True:=trivial
def tw17311580149469133416:True:=trivial
def tw2843699681409088958:True:=trivial
def tw9832384077009299744:True:=trivial
def tw4172959358806918833:True:=trivial
def tw3272105757248187352:True:=trivial
def tw9895122633511628474:True:=trivial
def tw11547416782480226378:True:=trivial
def tw1028886547251558535:True:=trivial
def tw16391356737790743470:True:=trivial
def tw14660636630221828954:True:=trivial
def tw6161319146822243660:True:=trivial
def tw13646267782987467660:True:=trivial
def tw16713697555118253657:True:=trivial
def tw12210864756498895219:True:=trivial
def tw16448335494057226816:True:=trivial
def tw15692102688633488266:True:=trivial
def tw5657670111944363361:True:=trivial
def tw9468349028105958837:True:=trivial
def tw11036746986971218973:True:=trivial
def tw16854639463262152839:True:=trivial
def tw17732675683374905624:True:=trivial
def tw8002814278194757986:True:=trivial
def tw5461892772513627079:True:=trivial
def tw168652865401680328:True:=trivial
def tw3984559301991387451:True:=trivial
def tw13779294023372431655:True:=trivial
def tw6001313613144074610:True:=trivial
def tw14659948445909650701:True:=trivial
def tw2232787800271364029:True:=trivial
def tw7368793710748212781:True:=trivial
def tw11537531200294334938:True:=trivial
def tw15826837475402067894:True:=trivial
def tw1918864009533446954:True:=trivial
def tw16797867486696170878:True:=trivial
def tw11218442057101142823:True:=trivial
def tw14074469814354474472:True:=trivial
def tw17960067952655483845:True:=trivial
def tw2494473510786139196:True:=trivial
def tw8558931253295542530:True:=trivial
def tw171523490932579055:True:=trivial
def tw18025947674023536146:True:=trivial
def tw7774174046704531006:True:=trivial
def tw16601979546244105575:True:=trivial
def tw15291095104285507880:True:=trivial
def tw11227161937512134139:True:=trivial
def tw15280491499140681989:True:=trivial
def tw11938456497536978098:True:=trivial
def tw9179771078270001729:True:=trivial
def tw14405518226572357704:True:=trivial
def tw8572692116037059850:True:=trivial
def tw9473875141666862026:True:=trivial
def tw11772503863726301765:True:=trivial
def tw4255166472812628380:True:=trivial
def tw6954764286833799513:True:=trivial
def tw6154161543861668308:True:=trivial
def tw10437405339750695041:True:=trivial
def tw11309628238476908406:True:=trivial
def tw15763184168829241395:True:=trivial
def tw7943662949089142833:True:=trivial
def tw12532547472795863825:True:=trivial
def tw8210794166758019434:True:=trivial
end PySem.W.Fast
open PySem PySem.W PyProof.Rows
set_option maxRecDepth 100000 in
set_option maxHeartbeats 0 in
theorem PySem.Challenge.cw_pileduel_k50_whole_nothing_is_lost_holds : PySem.Challenge.rw_pileduel_k50_whole_nothing_is_lost.Holds := by
 w_on;o_law;k_head;(case hw=>w_witness2)
 k_fill
 refine K50.walk (l:=PySem.Challenge.rw_pileduel_k50_whole_nothing_is_lost) rfl rfl (fun w h Y=>PySem.W.kIn_of Y) ?F
 case F =>
  intro w mg fa h KX G hmg
  refine' K50.all_mk KX G hmg ?a1 ?l1 ?c_1 ?k1 ?a2 ?l2 ?c_2 ?k2 ?a3 ?l3 ?c_3 ?k3 ?a4 ?l4 ?c_4 ?k4 ?a5 ?l5 ?c_5 ?k5 ?a6 ?l6 ?c_6 ?k6 ?a7 ?l7 ?c_7 ?k7 ?a8 ?l8 ?c_8 ?k8 ?a9 ?l9 ?c_9 ?k9 ?a10 ?l10 ?c_10 ?k10 ?a11 ?l11 ?c_11 ?k11 ?a12 ?l12 ?c_12 ?k12 ?a13 ?l13 ?c_13 ?k13 ?a14 ?l14 ?c_14 ?k14 ?a15 ?l15 ?c_15 ?k15 ?a16 ?l16 ?c_16 ?k16 ?a17 ?l17 ?c_17 ?k17 ?a18 ?l18 ?lT18 ?c_18 ?k18 ?a19 ?l19 ?c_19 ?k19 ?a20 ?l20 ?c_20 ?k20 ?a21 ?l21 ?c_21 ?k21 ?a22 ?l22 ?c_22 ?k22 ?a23 ?l23 ?c_23 ?k23 ?a24 ?l24 ?c_24 ?k24 ?a25 ?l25 ?c_25 ?k25 ?a26 ?l26 ?c_26 ?k26 ?a27 ?l27 ?c_27 ?k27 ?a28 ?l28 ?c_28 ?k28 ?a29 ?l29 ?c_29 ?k29 ?a30 ?l30 ?c_30 ?k30 ?a31 ?l31 ?c_31 ?k31 ?a32 ?l32 ?c_32 ?k32 ?a33 ?l33 ?c_33 ?k33 ?a34 ?l34 ?c_34 ?k34 ?a35 ?l35 ?c_35 ?k35 ?a36 ?l36 ?c_36 ?k36 ?a37 ?l37 ?c_37 ?k37 ?a38 ?l38 ?c_38 ?k38 ?a39 ?l39 ?c_39 ?k39 ?a40 ?l40 ?c_40 ?k40 ?a41 ?l41 ?c_41 ?k41 ?a42 ?l42 ?c_42 ?k42 ?u_c1 ?u_c5 ?u_D ?e_c1 ?i_c1 ?n_c1 ?l_c1 ?c_c1 ?k_c1 ?na_c1_word ?na_c1_at ?e_c5 ?i_c5 ?z_isinstance ?z_bool ?z_len ?z_range ?z_enumerate ?z_all ?z_tuple ?z_sorted ?z_set ?z_max ?z_list ?z_sum ?z_min ?z_reversed ?z_int ?z_zip ?y1 ?y2 ?y3 ?y4 ?y5 ?y6
  (case a1=>k_is)
  (case l1=>k_is)
  (case c_1=>k_is)
  (case k1=>k_is)
  (case a2=>k_is)
  (case l2=>k_is)
  (case c_2=>k_is)
  (case k2=>k_is)
  (case a3=>k_is)
  (case l3=>k_is)
  (case c_3=>k_is)
  (case k3=>k_is)
  (case a4=>k_is)
  (case l4=>k_is)
  (case c_4=>k_is)
  (case k4=>k_is)
  (case a5=>k_is)
  (case l5=>k_is)
  (case c_5=>k_is)
  (case k5=>k_is)
  (case a6=>k_is)
  (case l6=>k_is)
  (case c_6=>k_is)
  (case k6=>k_is)
  (case a7=>k_is)
  (case l7=>k_is)
  (case c_7=>k_is)
  (case k7=>k_is)
  (case a8=>k_is)
  (case l8=>k_is)
  (case c_8=>k_is)
  (case k8=>k_is)
  (case a9=>k_is)
  (case l9=>k_is)
  (case c_9=>k_is)
  (case k9=>k_is)
  (case a10=>k_is)
  (case l10=>k_is)
  (case c_10=>k_is)
  (case k10=>k_is)
  (case a11=>k_is)
  (case l11=>k_is)
  (case c_11=>k_is)
  (case k11=>k_is)
  (case a12=>k_is)
  (case l12=>k_is)
  (case c_12=>k_is)
  (case k12=>k_is)
  (case a13=>k_is)
  (case l13=>k_is)
  (case c_13=>k_is)
  (case k13=>k_is)
  (case a14=>k_is)
  (case l14=>k_is)
  (case c_14=>k_is)
  (case k14=>k_is)
  (case a15=>k_is)
  (case l15=>k_is)
  (case c_15=>k_is)
  (case k15=>k_is)
  (case a16=>k_is)
  (case l16=>k_is)
  (case c_16=>k_is)
  (case k16=>k_is)
  (case a17=>k_is)
  (case l17=>k_is)
  (case c_17=>k_is)
  (case k17=>k_is)
  (case a18=>k_is)
  (case l18=>k_is)
  (case lT18=>k_is)
  (case c_18=>k_is)
  (case k18=>k_is)
  (case a19=>k_is)
  (case l19=>k_is)
  (case c_19=>k_is)
  (case k19=>k_is)
  (case a20=>k_is)
  (case l20=>k_is)
  (case c_20=>k_is)
  (case k20=>k_is)
  (case a21=>k_is)
  (case l21=>k_is)
  (case c_21=>k_is)
  (case k21=>k_is)
  (case a22=>k_is)
  (case l22=>k_is)
  (case c_22=>k_is)
  (case k22=>k_is)
  (case a23=>k_is)
  (case l23=>k_is)
  (case c_23=>k_is)
  (case k23=>k_is)
  (case a24=>k_is)
  (case l24=>k_is)
  (case c_24=>k_is)
  (case k24=>k_is)
  (case a25=>k_is)
  (case l25=>k_is)
  (case c_25=>k_is)
  (case k25=>k_is)
  (case a26=>k_is)
  (case l26=>k_is)
  (case c_26=>k_is)
  (case k26=>k_is)
  (case a27=>k_is)
  (case l27=>k_is)
  (case c_27=>k_is)
  (case k27=>k_is)
  (case a28=>k_is)
  (case l28=>k_is)
  (case c_28=>k_is)
  (case k28=>k_is)
  (case a29=>k_is)
  (case l29=>k_is)
  (case c_29=>k_is)
  (case k29=>k_is)
  (case a30=>k_is)
  (case l30=>k_is)
  (case c_30=>k_is)
  (case k30=>k_is)
  (case a31=>k_is)
  (case l31=>k_is)
  (case c_31=>k_is)
  (case k31=>k_is)
  (case a32=>k_is)
  (case l32=>k_is)
  (case c_32=>k_is)
  (case k32=>k_is)
  (case a33=>k_is)
  (case l33=>k_is)
  (case c_33=>k_is)
  (case k33=>k_is)
  (case a34=>k_is)
  (case l34=>k_is)
  (case c_34=>k_is)
  (case k34=>k_is)
  (case a35=>k_is)
  (case l35=>k_is)
  (case c_35=>k_is)
  (case k35=>k_is)
  (case a36=>k_is)
  (case l36=>k_is)
  (case c_36=>k_is)
  (case k36=>k_is)
  (case a37=>k_is)
  (case l37=>k_is)
  (case c_37=>k_is)
  (case k37=>k_is)
  (case a38=>k_is)
  (case l38=>k_is)
  (case c_38=>k_is)
  (case k38=>k_is)
  (case a39=>k_is)
  (case l39=>k_is)
  (case c_39=>k_is)
  (case k39=>k_is)
  (case a40=>k_is)
  (case l40=>k_is)
  (case c_40=>k_is)
  (case k40=>k_is)
  (case a41=>k_is)
  (case l41=>k_is)
  (case c_41=>k_is)
  (case k41=>k_is)
  (case a42=>k_is)
  (case l42=>k_is)
  (case c_42=>k_is)
  (case k42=>k_is)
  (case u_c1=>k_is)
  (case u_c5=>k_is)
  (case u_D=>k_is)
  (case e_c1=>kernel_rfl)
  (case i_c1=>k_is)
  (case n_c1=>k_is)
  (case l_c1=>k_is)
  (case c_c1=>k_is)
  (case k_c1=>k_is)
  (case na_c1_word=>k_is)
  (case na_c1_at=>k_is)
  (case e_c5=>kernel_rfl)
  (case i_c5=>k_is)
  (case z_isinstance=>k_is)
  (case z_bool=>k_is)
  (case z_len=>k_is)
  (case z_range=>k_is)
  (case z_enumerate=>k_is)
  (case z_all=>k_is)
  (case z_tuple=>k_is)
  (case z_sorted=>k_is)
  (case z_set=>k_is)
  (case z_max=>k_is)
  (case z_list=>k_is)
  (case z_sum=>k_is)
  (case z_min=>k_is)
  (case z_reversed=>k_is)
  (case z_int=>k_is)
  (case z_zip=>k_is)
  (case y1=>k_is)
  (case y2=>k_is)
  (case y3=>k_is)
  (case y4=>k_is)
  (case y5=>k_is)
  (case y6=>k_is)
