import PyProof.Rows.All
import Wide.All
import OpenK.AllK
import Wide.FinOn
import Lean
import PyProof.EqAt
import PyProof.EqKinds
import PyProof.TupleCall
import PyProof.CompFree
import PyProof.CompUse
import PyProof.CollectIter
import PyProof.ListNew
import KE.KRevIter
import PyProof.EnumMake
import PyProof.Draws
import PyProof.TupleIter
import PyProof.WalksMore
import PyProof.ReprRoads
import PyProof.P3Eq
import PyProof.NeData
import PyProof.EqLayable
import PyProof.Rows.RegFStrParts
import PyProof.AutoListH
import KE.KItemsList
import KE.KDictList
import PyProof.StrBlockG
import PyProof.StrLawsOcc
import PyProof.StrLawsTight
import PyProof.StrLawsChain
import PyProof.Rows.Range3
import PyProof.MinMaxWalk
import PyProof.WalkInts
import PyProof.ExcClass3
import PyProof.ExcInit
import PyProof.InstStoreFacts
import PyProof.ExcArgsOwn
import KE.KIsAll
import PyProof.RaisesMany
import PyProof.RulesTry
import PyProof.Raises
import PyProof.RulesAs
import PyProof.NsDelKeeps
import PyProof.PassesOwn
import PyProof.Rows.CatchHere
import KE.KSortTup
import PyProof.FactsAll.tuple_2
import PyProof.TupleKey
import PyProof.Rows.RowHeap
import PyProof.SetKind
import PyProof.SetNew
import PyProof.DictIter
import PyProof.CollectWalk
import PyProof.Walks
import PyProof.ZipIter
import KE.KRevSl
import KE.KStateDown
import PyProof.SetRoads
import PyProof.SumWalk
import PyProof.CallStr
import PyProof.FactsAll.tuple_3
import PyProof.StrLawsIn
import PyProof.Rows.RuleM_int
import PyProof.FactsAll.dict_3
import KE.KItemsList
import PyProof.Rows.TupDisplay
import PyProof.FactsAll.dict_itemiterator_1
import PyProof.DictWalks
import PyProof.IsiH_list
import KE.KDictOf
import PySem.Challenge.RW_pileduel_k85_whole_programs_marked_by_th
set_option Elab.async false
set_option linter.all false
set_option compiler.extract_closed false
set_option maxRecDepth 100000
def A_:=@PySem.wpAny_bind
def B_:=@List.length_map
def C_:=@PySem.wpAny_pure
def DD:=@List.mem_map
def D_:=@PySem.Heap.get?_push_of_some
def E_:=@List.getElem?_eq_some_iff
def F_:=@List.getElem?_eq_getElem
def G_:=@List.getElem?_map
def H_:=@List.mem_singleton
def I_:=@Option.map_eq_some_iff
def J_:=@Nat.le_refl
def K_:=@PySem.Heap.get?_push_size
def L_:=@List.map_append
abbrev M_:=@if_neg
def N_:=@List.mem_of_getElem?
def O_:=@List.length_append
def P_:=@List.mem_append
def Q_:=@Bool.false_ne_true
def R_:=@Nat.le_trans
def S_:=@PySem.Heap.lt_size
abbrev T_:=@if_pos
def U_:=@PyProof.Rows.wpS_bind
def V_:=@Nat.lt_of_lt_of_le
def W_:=@List.size_toArray
def X_:=@PyProof.Rows.wpS_pure
def Y_:=@List.mem_cons
def Z_:=@Array.getElem?_toList
def aA:=@List.mem_cons_of_mem
def aB:=@Nat.ne_of_lt
def aC:=@PySem.wpAny_newObj_type
def aD:=@PySem.PassesOwn.never
def aE:=@List.map_map
abbrev aF:=@of_decide_eq_true
def aG:=@Nat.zero_le
def aH:=@List.mem_append_left
def aJ:=@List.take_length
def aK:=@List.mem_cons_self
def aL:=@List.mem_range
def aM:=@List.take_succ
def aN:=@PySem.Heap.SameBut.update
def aO:=@PySem.wpAny_call_entry
def aP:=@Array.getElem?_eq_getElem
def aQ:=@List.map_cons
def aR:=@List.mem_filter
def aS:=@List.length_cons
def aT:=@Array.length_toList
def aU:=@List.mem_append_right
abbrev aV:=@decide_eq_true
abbrev aW:=@decide_eq_false
def aX:=@Option.some.inj
abbrev aY:=@Classical.byContradiction
def aZ:=@PySem.wpAny_callSpecial?_slot
def a_:=@Bool.and_eq_true
def bA:=@List.mem_flatMap
abbrev bB:=@decide_eq_true_iff
def bC:=@Nat.le_succ_of_le
def bD:=@PySem.Heap.get?_update_self
def bE:=@List.length_range
def bF:=@List.length_take
def bG:=@Nat.lt_succ_self
def bH:=@PySem.boot_len
def bI:=@PySem.F.slot_list_append
def bJ:=@PySem.F.type_list_append
def bK:=@PySem.wpAny_setState_of
def bL:=@List.nodup_append
def bM:=@List.drop_eq_getElem_cons
def bN:=@List.length_filter_le
def bO:=@Nat.le_of_ble_eq_true
def bP:=@List.append_nil
def bQ:=@List.nodup_nil
def bR:=@Nat.le_of_lt
def bS:=@PySem.Paired.length
def bT:=@PySem.wpAny_holding
def bU:=@Nat.lt_of_succ_lt
def bV:=@PySem.Obj.data_mapFields
def bW:=@PySem.W.mg_none_of
def bX:=@List.any_eq_true
abbrev bY:=@Exists.elim
def bZ:=@Array.getD_eq_getD_getElem?
def b_:=@PyProof.Rows.slot_tuple_getitem
def cB:=@PySem.wpAny_field
def cD:=@PySem.wpAny_mono
def cF:=@List.getElem?_append_right
def cH:=@List.all_eq_true
def cJ:=@List.getD_eq_getElem?_getD
def cK:=@PyProof.Rows.boot_tuple
def cL:=@Nat.lt_or_ge
def cN:=@Array.getElem?_eq_none
def cP:=@List.nodup_cons
def cQ:=@List.lookup_cons
def cU:=@Nat.le_add_right
abbrev cV:=@congrArg
def cW:=@PySem.wpAny_dictEntries
def cX:=@PySem.Calls.spliced_cons
def cY:=@PySem.Heap.size_push
def cZ:=@PySem.wpAny_isInstance
def c_:=@List.getElem?_append_left
def dA:=@List.eq_nil_of_length_eq_zero
def dB:=@Nat.lt_succ_of_lt
def dC:=@Nat.exists_eq_succ_of_ne_zero
def dD:=@Nat.lt_irrefl
def dE:=@PySem.wpAny_setField
def dF:=@PySem.wpAny_fieldsOf
def dG:=@Nat.lt_of_le_of_lt
def dH:=@List.filter_append
def dI:=@PySem.wpAny_of_eq
def dJ:=@PySem.Around.under_plainId
def dL:=@List.mem_of_mem_take
def dM:=@PyProof.Rows.callWith_type1
def dN:=@PySem.wpAny_attempt
def dO:=@PySem.Calls.spliced_nil
def dP:=@PySem.Heap.get?_update_other
def dQ:=@PySem.isSubtype_type
def dS:=@Nat.le_of_lt_succ
def dU:=@Array.toList_append
def dW:=@Nat.le_succ
def dX:=@PySem.wpAny_specialOf
def dY:=@PySem.Obj.isFreed_of_fields
def dZ:=@PySem.builtinLookup_eq_fast
def d_:=@PySem.wpAny_Call_Name_kw
def eA:=@PySem.wpAny_rule
def eB:=@List.drop_length
def eC:=@PySem.wpAny_typeNameOfWhole_itemiter
def eD:=@List.any_cons
def eE:=@PySem.F.slot_list_extend
def eF:=@PySem.F.type_list_extend
def eG:=@PySem.W.mg_of
def eI:=@PySem.wpAny_seqItems
def eJ:=@PySem.wpAny_typeNameOfWhole_keyiter
def eK:=@List.getElem?_cons_succ
def eL:=@List.append_assoc
def eM:=@PySem.wpAny_pyIter_slot
def eO:=@Bool.or_eq_true
def eQ:=@List.foldl_cons
def eT:=@PySem.codeAny_builtin
def eU:=@PySem.wpAny_dictEpoch
def eV:=@PyProof.Rows.wpS_modify
def eX:=@List.getElem_of_mem
def eY:=@Nat.zero_add
def eZ:=@PySem.plainId_quiet
def e_:=@List.getElem_mem
def fA:=@PySem.tupleKind_room_in1
def fB:=@Int.emod_lt_of_pos
def fC:=@PySem.wpAny_setField_rec
def fD:=@List.getElem?_eq_none
def fE:=@PySem.wpAny_typeNameOf_itemiter
def fF:=@List.exists_mem_of_ne_nil
def fG:=@PySem.wpAny_passesOwn
def fH:=@Bool.eq_iff_iff
abbrev fI:=@Ne.symm
def fJ:=@PySem.wpAny_truthy_bool
def fK:=@List.take_sublist
def fL:=@Nat.lt_trans
def fM:=@Nat.le_of_eq
def fN:=@Nat.le_of_succ_le
def fO:=@Int.toNat_natCast
def fP:=@PyProof.Rows.Reads.keeps
def fQ:=@PySem.wpAny_typeNameOf_keyiter
def fS:=@List.filterMap_cons
def fU:=@PySem.mem_of_lookup
def fV:=@List.map_congr_left
def fW:=@List.flatMap_append
def fX:=@PySem.F.plainAttrs_dict
def fY:=@PySem.wpAny_getItem_str_slice
def fZ:=@List.filter_cons
def f_:=@PySem.wpAny_forIn_list
def gA:=@PySem.F.slot_list_index
def gB:=@PyProof.Rows.wpS_mono
def gC:=@PySem.wpAny_typeNameOfWhole_valiter
def gD:=@Int.natCast_nonneg
def gE:=@PySem.Calls.callWith_builtin
def gF:=@PySem.wpAny_pyIter_tuple
def gG:=@List.take_of_length_le
def gH:=@Nat.pos_of_ne_zero
def gI:=@List.length_pos_of_mem
def gJ:=@PySem.wpAny_isOneOf_itemiter
def gK:=@PyProof.Rows.wpS_forRange
def gL:=@List.flatMap_singleton
def gM:=@PySem.typeLookup_type
def gN:=@Int.emod_nonneg
def gO:=@Int.ofNat.inj
def gP:=@List.length_singleton
def gQ:=@PySem.wpAny_notOrdered_dict
def gR:=@PySem.wpAny_pyIter_list
def gS:=@PySem.Obj.cls_mapFields
def gU:=@List.pairwise_map
def gV:=@Array.getElem?_eq_some_iff
def gW:=@List.drop_eq_nil_iff
def gX:=@Nat.ne_of_gt
def gY:=@List.length_drop
def gZ:=@Nat.succ_le_succ
abbrev g_:=@decide_eq_decide
def hJ:=@List.extract_eq_take_drop
def hV:=@PySem.F.args_tuple_add_2
def h_:=@PySem.wpAny_handled
def iA:=@PySem.F.slot_dict_itemiterator_iter
def iB:=@List.idxOf_lt_length_iff
def iC:=@PySem.wpAny_execs_nil
def iD:=@PySem.wpAny_updateSeq
def iE:=@List.filter_nil
abbrev iF:=@of_decide_eq_false
def iG:=@Nat.sub_le
def iH:=@Array.forIn_toList
def iI:=@Nat.eq_or_lt_of_le
abbrev iJ:=@Sum.inl.inj
def iK:=@PySem.F.entry_tuple_add
def iL:=@PySem.F.type_list_index
def iM:=@PySem.F.slot_tuple_add
def iN:=@PySem.wpAny_typeOf
def iO:=@Option.isSome_map
def iP:=@PySem.call_meetsIn
def iQ:=@PySem.WalksT.enumerateD
def iR:=@PySem.wpAny_pyIter_enum
def iS:=@List.drop_zero
def iT:=@PySem.isSubtype_stop
def iU:=@List.pairwise_lt_range
def iV:=@List.ext_getElem?
def iW:=@PySem.eqIsQuiet_byValue
def iX:=@Nat.lt_of_succ_lt_succ
def iY:=@PyProof.Rows.wpS_get
def iZ:=@List.eraseIdxIfInBounds_toArray
def i_:=@PySem.F.slot_dict_get
def jA:=@List.take_append_drop
def jB:=@PySem.wpAny_isOneOf_keyiter
def jC:=@PySem.wpAny_isOneOf_valiter
def jD:=@PySem.F.slot_list_pop
def jE:=@PySem.F.type_list_pop
def jF:=@PyProof.Rows.boot_min
def jG:=@PyProof.Rows.callWith_builtin1
def jH:=@PySem.SeqAt.eqAt_reads
def jI:=@Nat.succ_ne_self
def jJ:=@Nat.zero_testBit
def jK:=@List.mem_flatten
def jL:=@List.eq_nil_iff_forall_not_mem
def jM:=@List.sum_cons
def jN:=@PySem.Calls.evalArgs_plain
def jO:=@PySem.wpAny_throw
def jP:=@List.mem_of_mem_drop
def jQ:=@Int.le_refl
def jR:=@PySem.wpAny_letGo
def jS:=@Array.toList_extract
def jT:=@Bool.and_eq_true_iff
def jU:=@List.of_mem_zip
def jV:=@PySem.post_val_or_str
def jW:=@PySem.wpAny_loadPart'
def jX:=@Nat.not_lt_zero
def jY:=@PySem.wpAny_ite_split
def jZ:=@List.range_succ
abbrev j_:=@beq_eq_false_iff_ne
def kB:=@Nat.add_le_add_left
def kC:=@List.length_reverse
def kD:=@Nat.add_sub_cancel'
def kE:=@Bool.or_eq_true_iff
def kF:=@PySem.codeAny_mono
def kG:=@Nat.succ_pos
def kH:=@List.mem_filterMap
abbrev kI:=@Prod.ext
def kJ:=@PySem.wpAny_tupleItemsOf
def kK:=@Nat.testBit_or
def kL:=@Nat.not_lt
def kM:=@Nat.lt_trichotomy
def kN:=@List.flatten_cons
def kO:=@Bool.false_or
def kP:=@PySem.signature?_of
def kQ:=@Nat.add_assoc
def kR:=@PySem.noFill_tuple_add
def kS:=@Nat.le_of_not_lt
abbrev kT:=@beq_self_eq_true
def kU:=@PySem.entryFor_of_tree
def kW:=@PySem.wpAny_askSetting
def kX:=@List.nodup_range
def kY:=@Nat.not_lt_of_le
def kZ:=@PyProof.Rows.wpS_lift
def k_:=@PySem.call_meets
def lA:=@PySem.Txt.slice_le
def lB:=@Nat.sub_self
def lC:=@Nat.sub_lt
def lD:=@PySem.Paired.snoc
abbrev lE:=@PySem.Value
abbrev lF:=@PySem.Shared
abbrev lG:=@PySem.PyData
abbrev lH:=@PySem.Addr
abbrev lI:=@PySem.W.Frag
abbrev lJ:=@PySem.Program
abbrev lK:=@PySem.World
abbrev lL:=@PySem.Expr
abbrev lM:=@PySem.Around
abbrev lN:=@PySem.Heap
abbrev lO:=@PySem.Obj
abbrev lP:=@PySem.Stmt
abbrev lQ:=@PySem.FuncData
abbrev lR:=@PyProof.Rows.Keyed
abbrev lT:=@PySem.Scope
abbrev lU:=@PySem.NameKind
abbrev lV:=@PySem.Result
abbrev lW:=@PyProof.Rows.SortSt
abbrev lX:=@PyProof.Rows.SortKind
abbrev oA:=List
abbrev oB:=Option
abbrev oC:=Array
def oH{α:Type}{a:α}{p:Prop}:a=a∨p:=.inl rfl
def oI{α:Type}{a:α}{p:Prop}:p∨a=a:=.inr rfl
abbrev qQ{α:Type}(p:PySem.Program)(w:PySem.World):=@PySem.wpAny α<|PySem.model p w
namespace L2
def V2{c:Sort _}{a b:c->Prop}{P:Prop}(h:∃x,a x/\b x)(k:∀x,a x->b x->P):P:=bY h λx y=>k x y.1 y.2
def Db{e d:Sort _}{a b c:e->d->Prop}{P:Prop}(h:∃x y,a x y/\b x y/\c x y)(k:∀x y,a x y->b x y->c x y->P):P:=bY h λx h=>bY h λy h=>k x y h.1 h.2.1 h.2.2
def Ci{g e f:Sort _}{a b c d:g->e->f->Prop}{P:Prop}(h:∃x y z,a x y z/\b x y z/\c x y z/\d x y z)(k:∀x y z,a x y z->b x y z->c x y z->d x y z->P):P:=bY h λx h=>bY h λy h=>bY h λz h=>k x y z h.1 h.2.1 h.2.2.1 h.2.2.2
def En{i f g j:Sort _}{a b c d e:i->f->g->j->Prop}{P:Prop}(h:∃x y z u,a x y z u/\b x y z u/\c x y z u/\d x y z u/\e x y z u)(k:∀x y z u,a x y z u->b x y z u->c x y z u->d x y z u->e x y z u->P):P:=bY h λx h=>bY h λy h=>bY h λz h=>bY h λu h=>k x y z u h.1 h.2.1 h.2.2.1 h.2.2.2.1 h.2.2.2.2
def ZG{j g i l:Sort _}{a b c d e f:j->g->i->l->Prop}{P:Prop}(h:∃x y z u,a x y z u/\b x y z u/\c x y z u/\d x y z u/\e x y z u/\f x y z u)(k:∀x y z u,a x y z u->b x y z u->c x y z u->d x y z u->e x y z u->f x y z u->P):P:=bY h λx h=>bY h λy h=>bY h λz h=>bY h λu h=>k x y z u h.1 h.2.1 h.2.2.1 h.2.2.2.1 h.2.2.2.2.1 h.2.2.2.2.2
def Hk{l e f j i g:Sort _}{a b c d:l->e->f->j->i->g->Prop}{P:Prop}(h:∃x y z u v w,a x y z u v w/\b x y z u v w/\c x y z u v w/\d x y z u v w)(k:∀x y z u v w,a x y z u v w->b x y z u v w->c x y z u v w->d x y z u v w->P):P:=bY h λx h=>bY h λy h=>bY h λz h=>bY h λu h=>bY h λv h=>bY h λw h=>k x y z u v w h.1 h.2.1 h.2.2.1 h.2.2.2
open PySem PySem.Spec PyProof.Rows
abbrev Key:=Sum Int Str
def Mu:Key->lE->Bool
 |.inl k,v=>Value.isInt k v
 |.inr x,v=>Value.isStrOf x v
def KA(w:lK):Key->Int
 |.inl k=>hashInt k
 |.inr x=>hashStr w x
def keyIs_shape:∀{k:Key} {v:lE},Mu k v=true->(∃i t,k=Sum.inl i/\v=Value.int i t)\/(∃x t,k=Sum.inr x/\v=Value.str x t)
 |.inl i,v,h=>by obtain⟨t,e⟩:=Value.isInt_shape (k:=i) (v:=v) h;exact .inl ⟨i,t,rfl,e⟩
 |.inr x,v,h=>by obtain⟨t,e⟩:=Value.isStrOf_shape (x:=x) (v:=v) h;exact .inr ⟨x,t,rfl,e⟩
def V3(i:Int)(t:Tok):Mu (.inl i) (.int i t)=true:=by simp[Mu,Value.isInt]
def V4(x:Str)(t:Tok):Mu (.inr x) (.str x t)=true:=by simp[Mu,Value.isStrOf]
def KB(a b:Int):decide ((Sum.inl a:Key)=Sum.inl b)=(a==b):=by by_cases e:a=b;subst e;simp;have h:¬(Sum.inl a:Key)=Sum.inl b:=λq=>e<|iJ q;rw[aW h];exact(j_.mpr e).symm
def KC(a b:Str):decide ((Sum.inr a:Key)=Sum.inr b)=decide (a=b):=by by_cases e:a=b;subst e;simp;have h:¬(Sum.inr a:Key)=Sum.inr b:=λq=>e<|Sum.inr.inj q;rw[aW h,aW e]
def KD(a:Int)(b:Str):decide ((Sum.inl a:Key)=Sum.inr b)=false:=aW (λq=>nomatch q)
def KF(a:Str)(b:Int):decide ((Sum.inr a:Key)=Sum.inl b)=false:=aW (λq=>nomatch q)
def Bp(prog:lJ)(w:lK):PySem.KeyKind prog w Key where
 is:=Mu
 hash:=KA w
 inj:=λv a b ha hb=>by rcases keyIs_shape ha with⟨i,t,rfl,rfl⟩|⟨x,t,rfl,rfl⟩;rcases keyIs_shape hb with⟨j,u,rfl,e⟩|⟨y,u,rfl,e⟩;injection e with e1 _;rw[e1];exact nomatch e;rcases keyIs_shape hb with⟨j,u,rfl,e⟩|⟨y,u,rfl,e⟩;exact nomatch e;injection e with e1 _;rw[e1]
 byValue:=λk v h=>by rcases keyIs_shape h with⟨i,t,rfl,rfl⟩|⟨x,t,rfl,rfl⟩<;>rfl
 pyHash:=λhv h=>by rcases keyIs_shape hv with⟨i,t,rfl,rfl⟩|⟨x,t,rfl,rfl⟩;exact wpAny_pyHash_int h;exact wpAny_pyHash_str h
 eqBool:=λhu hv h=>by rcases keyIs_shape hu with⟨i,t,rfl,rfl⟩|⟨x,t,rfl,rfl⟩;rcases keyIs_shape hv with⟨j,u,rfl,rfl⟩|⟨y,u,rfl,rfl⟩;rw[KB]at h;exact wpAny_eqBool_int h;rw[KD]at h;exact SeqAt.EqAt.int_str i t y u _ _ _ _ h;rcases keyIs_shape hv with⟨j,u,rfl,rfl⟩|⟨y,u,rfl,rfl⟩;rw[KF]at h;exact SeqAt.EqAt.str_int x t j u _ _ _ _ h;rw[KC]at h;exact wpAny_eqBool_str h
 «strs»:=λk x t v h=>by rcases keyIs_shape h with⟨i,u,rfl,e⟩|⟨y,u,rfl,e⟩;exact nomatch e;injection e with e1 _;subst e1;cases v<;>rfl
def F5(prog:lJ)(w:lK)(i:Int)(t:Tok):(Bp prog w).is (.inl i) (.int i t)=true:=V3 i t
def F6(prog:lJ)(w:lK)(x:Str)(t:Tok):(Bp prog w).is (.inr x) (.str x t)=true:=V4 x t
end L2
namespace L2
open PySem PySem.Spec PyProof.Rows
inductive V where
 |non|bl (b:Bool)|int (i:Int)|str (x:Str)|byt (b:oC UInt8)|flt (b:UInt64)|ref (a:lH)|ty (n:String)
 deriving DecidableEq
def Bk:V->lE->Prop
 |.non,u=>u=Value.none
 |.bl b,u=>u=Value.bool b
 |.int i,u=>∃t,u=Value.int i t
 |.str x,u=>∃t,u=Value.str x t
 |.byt b,u=>∃t,u=Value.bytes b t
 |.flt b,u=>∃t,u=Value.float b t
 |.ref a,u=>u=Value.ref a
 |.ty n,u=>u=Value.type n
abbrev Vals:oA V->oA lE->Prop:=Paired Bk
def Vals.length{xs:oA V}{a:oA lE}(r:Vals xs a):xs.length=a.length:=bS r
theorem Vals.get:∀{xs:oA V} {a:oA lE} {i:Nat} {x:V},Vals xs a->xs[i]?=some x->∃u,a[i]?=some u/\Bk x u
 |_,_,_,_,.nil,e=>by simp at e
 |_,_,0,_,.cons r _,e=>by simp at e;subst e;exact⟨_,rfl,r⟩
 |_,_,i+1,x,.cons _ t,e=>by obtain⟨u,h1,h2⟩:=Vals.get (i:=i) (x:=x) t (by simpa using e);exact⟨u,by simpa using h1,h2⟩
theorem Vals.set{x:V}{u:lE}(r:Bk x u):∀{xs:oA V} {a:oA lE} (i:Nat),Vals xs a->Vals (xs.set i x) (a.set i u)
 |_,_,_,.nil=>.nil
 |_,_,0,.cons _ t=>.cons r t
 |_,_,i+1,.cons q t=>.cons q<|Vals.set r i t
theorem Vals.append:∀{xs ys:oA V} {a b:oA lE},Vals xs a->Vals ys b->Vals (xs++ys) (a++b)
 |_,_,_,_,.nil,s=>s
 |_,_,_,_,.cons r t,s=>.cons r<|Vals.append t s
theorem Vals.take:∀{xs:oA V} {a:oA lE} (n:Nat),Vals xs a->Vals (xs.take n) (a.take n)
 |_,_,0,_=>.nil
 |_,_,_+1,.nil=>.nil
 |_,_,n+1,.cons r t=>.cons r<|Vals.take n t
theorem Vals.drop:∀{xs:oA V} {a:oA lE} (n:Nat),Vals xs a->Vals (xs.drop n) (a.drop n)
 |_,_,0,r=>r
 |_,_,_+1,.nil=>.nil
 |_,_,n+1,.cons _ t=>Vals.drop n t
def Jd:oB V->oB lE->Prop
 |some v,some u=>Bk v u
 |none,none=>True
 |_,_=>False
def KV{a:Type}:oA (a×V)->oA (a×lE)->Prop:=Paired λ(p:a×V) (q:a×lE)=>p.1=q.1/\Bk p.2 q.2
def kV:Key->V
 |.inl i=>.int i
 |.inr x=>.str x
mutual
def Bj(w:lK):lG->Int
 |.int i=>KA w (.inl i)
 |.str x=>KA w (.inr x)
 |.tuple a=>reduceHash (Builtin.Tuple.tupleHashOf<|Ds w a)
 |_=>0
def Ds(w:lK):oA lG->oA Int
 |[]=>[]
 |d::a=>Bj w d::Ds w a
end
def ZH(w:lK)(x:lG×lH×lE):DictEntry:=⟨Bj w x.1,.ref x.2.1,x.2.2⟩
def ZI(w:lK)(h:lN)(a:lH)(xs:oA<|lG×lH×lE):Prop :=
 ∃o b c,h.get? a=some o/\o.ExactDict/\o.data=.dict b c/\b.toList=xs.map (ZH w)/\(xs.map (·.1)).Nodup/\(a==sysModules)=false/\xs.length<=sizeLine
inductive HO where
 |lst (xs:oA V)
 |tup (xs:oA V)
 |dK (kvs:oA<|Key×V)|dT (kvs:oA<|oA Key×V)
 |set (S:Int->Bool) (n:Nat)
 |ins (C dx:lH) (fs:oA<|Str×V)
 |own (x:lH)
 |xd (fs:oA<|Str×V)
 |met (f x:lH)
 |rng (lo hi:Int)
 |frz (o:lO) (u:HO)
 |tbl (ps:oC lE)
 |ext (φ:lN->Prop)
 |dd (xs:oA<|lG×lH×lE)
abbrev Hp:=lH->oB HO
def upd(H:Hp)(a:lH)(o:HO):Hp:=λb=>if b=a then some o else H b
def Bn{H:Hp}{a:lH}{o:HO}:upd H a o a=some o:=by unfold upd;rw[T_ rfl]
def Au{H:Hp}{a b:lH}{o:HO}(h:b≠a):upd H a o b=H b:=by unfold upd;rw[M_ h]
def Ph{H:Hp}{a b:lH}{o u:HO}(h:H a=some o)(h':H b=some u)(d:o≠u):a≠b:=by intro e;subst e;rw[h]at h';exact d<|aX h'
def Cc{H:Hp}{a b:lH}{o:HO}(h:H a=some o)(h':H b=none):a≠b:=by intro e;subst e;rw[h]at h';cases h'
section
variable(P:lJ)(w:lK)
def Bx(H:Hp)(h:lN)(a:lH):HO->Prop
 |.lst c=>c.length<=sizeLine/\∃(g:oA lE) (n:Nat),Vals c g/\h.get? a=some {cls:=.type "list",data:=.seq g.toArray n}
 |.tup c=>c.length<=sizeLine/\∃g:oA lE,Vals c g/\IsTup h a g.toArray
 |.dK b=>b.length<=sizeLine/\(a==sysModules)=false/\∃l,KV b l/\h.DictOf (Bp P w) a l
 |.dT b=>b.length<=sizeLine/\(a==sysModules)=false/\∃c:oA<|oA Key×lH×lE,
   Paired (λ(p:oA Key×V) (q:oA Key×lH×lE)=>p.1=q.1/\H q.2.1=some (.tup<|p.1.map kV)/\Bk p.2 q.2.2) b c /\
   ∃o k m,h.get? a=some o/\o.ExactDict/\o.data=.dict k m/\k.toList=c.map (entryOfKey<|tupleKind<|Bp P w)/\(c.map (·.1)).Nodup
 |.set S n=>h.SetOf (intKind P w) a S n
 |.ins C i e=>H i=some (.own a)/\e.length<=1000/\i≠a/\h.get? a=some (PySem.W.instObj C i) /\
   ∃d,h.Ns1 i d/\(∀f,Jd (e.lookup f)<|d f)/\PySem.Within d (e.map (·.1))
 |.own _=>∃o,h.get? a=some o
 |.xd e=>∃d,h.Ns1 a d/\∀f,Jd (e.lookup f) (d f)
 |.rng lo s=>∃t u v,h.get? a=some {cls:=.type "range",data:=.fields #[.int lo t,.int s u,.int 1 v]}
 |.frz o u=>h.get? a=some o/\Bx H h a u
 |.tbl r=>h.get? a=some {cls:=.none,data:=.fields r}
 |.met f x=>h.get? a=some (PySem.W.methodObj (.ref f)<|.ref x)
 |.ext j=>j h/\(∃o,h.get? a=some o)/\∀h1 h2:lN,j h1->(∀o,h1.get? a=some o->h2.get? a=some o)->j h2
 |.dd c=>ZI w h a c
def HOk(H:Hp)(h:lN):Prop:=∀a o,H a=some o->Bx P w H h a o
end
section
variable {P:lJ}{w:lK}{H H':Hp}{h h':lN}{a:lH}{o:HO}{x e:lH}{o':HO}{fs fs' ex ex':oA lH}{H1 H2:Hp}{h1 h2:lN}
theorem Bx.lt(x:Bx P w H h a o):a<h.objs.size:=by
 cases o with
 |lst c=>obtain⟨_,_,_,_,e⟩:=x;exact S_ e
 |tup c=>obtain⟨_,_,_,p⟩:=x;exact p.lt
 |dK b=>obtain⟨_,_,_,_,o,_,_,e,_⟩:=x;exact S_ e
 |dT b=>obtain⟨_,_,_,_,o,_,_,e,_⟩:=x;exact S_ e
 |set S n=>obtain⟨o,_,_,_,e,_⟩:=x;exact S_ e
 |ins C g fs=>obtain⟨_,_,_,e,_⟩:=x;exact S_ e
 |own y=>obtain⟨_,e⟩:=x;exact S_ e
 |xd fs=>obtain⟨_,⟨_,_,_,e,_⟩,_⟩:=x;exact S_ e
 |rng lo k=>obtain⟨_,_,_,e⟩:=x;exact S_ e
 |frz j u=>obtain⟨e,_⟩:=x;exact S_ e
 |tbl d=>exact S_ (show h.get? a=some _ from x)
 |met f y=>exact S_ (show h.get? a=some _ from x)
 |ext i=>obtain⟨_,⟨_,e⟩,_⟩:=x;exact S_ e
 |dd c=>obtain⟨_,_,_,e,_⟩:=x;exact S_ e
theorem Paired.mapP{c d:Type}{F G:c->d->Prop}:∀{l₁:oA c} {l₂:oA d},Paired F l₁ l₂->(∀a b,F a b->G a b)->Paired G l₁ l₂
 |_,_,.nil,_=>.nil
 |_,_,.cons r t,f=>.cons (f _ _ r)<|Paired.mapP t f
def Bx.stay(x:Bx P w H h a o)(k:∀b u,(b=a\/H b=some (.own a))->h.get? b=some u->h'.get? b=some u) (E:∀b,H b=some (.own a)->H' b=some (.own a)) (ht:∀b l,H b=some (.tup l)->H' b=some (.tup l)):Bx P w H' h' a o:=by
 induction o with
 |lst l=>obtain⟨z,m,n,r,e⟩:=x;exact⟨z,m,n,r,k _ _ (.inl rfl) e⟩
 |tup l=>obtain⟨z,m,r,j,e,c⟩:=x;exact⟨z,m,r,j,k _ _ (.inl rfl) e,c⟩
 |dK A=>obtain⟨z,y,I,r,j,i,g,e,c⟩:=x;exact⟨z,y,I,r,j,i,g,k _ _ (.inl rfl) e,c⟩
 |dT A=>obtain⟨z,y,l,r,j,i,g,e,c⟩:=x;exact⟨z,y,l,Paired.mapP r λp q z=>⟨z.1,ht _ _ z.2.1,z.2.2⟩,j,i,g,k _ _ (.inl rfl) e,c⟩
 |set S n=>obtain⟨j,i,g,t,e,c⟩:=x;exact⟨j,i,g,t,k _ _ (.inl rfl) e,c⟩
 |ins C J fs=>obtain⟨d,z,ne,e,s,⟨B,i,g,G,c⟩,r⟩:=x;exact⟨E _ d,z,ne,k _ _ (.inl rfl) e,s,⟨B,i,g,k _ _ (.inr d) G,c⟩,r⟩
 |own y=>obtain⟨j,e⟩:=x;exact⟨j,k _ _ (.inl rfl) e⟩
 |xd fs=>obtain⟨s,⟨B,i,g,e,c⟩,r⟩:=x;exact⟨s,⟨B,i,g,k _ _ (.inl rfl) e,c⟩,r⟩
 |rng lo M=>obtain⟨t,u,v,e⟩:=x;exact⟨t,u,v,k _ _ (.inl rfl) e⟩
 |frz j u F=>obtain⟨e,q⟩:=x;exact⟨k _ _ (.inl rfl) e,F q⟩
 |tbl D=>have e:h.get? a=some {cls:=.none,data:=.fields D}:=x;show h'.get? a=some {cls:=.none,data:=.fields D};exact k a _ (.inl rfl) e
 |met f y=>have e:h.get? a=some (PySem.W.methodObj (.ref f)<|.ref y):=x;show h'.get? a=some (PySem.W.methodObj (.ref f)<|.ref y);exact k a _ (.inl rfl) e
 |ext L=>obtain⟨p,⟨o,e⟩,st⟩:=x;exact⟨st _ _ p λo q=>k _ _ (.inl rfl) q,⟨o,k _ _ (.inl rfl) e⟩,st⟩
 |dd l=>obtain⟨o,i,g,e,c⟩:=x;exact⟨o,i,g,k _ _ (.inl rfl) e,c⟩
theorem HOk.lt(x:HOk P w H h)(e:H a=some o):a<h.objs.size:=(x a o e).lt
def HOk.fresh(x:HOk P w H h)(e:h.objs.size<=a):H a=none:=by
 cases q:H a with
 |none=>rfl
 |some u=>exact absurd (V_ (x.lt q) e)<|dD _
def HOk.kept(x:HOk P w H h)(k:∀b u,h.get? b=some u->h'.get? b=some u):HOk P w H h':=λa o e=>
 (x a o e).stay (λb u _ q=>k b u q) (λ_ q=>q) λ_ _ q=>q
def HOk.laid(x:HOk P w H h)(k:∀b u,h.get? b=some u->h'.get? b=some u)(hp:h.objs.size<=a)(d:Bx P w (upd H a o) h' a o):HOk P w (upd H a o) h':=λb u e=>by have f:=x.fresh hp;by_cases hb:b=a;subst hb;rw[Bn]at e;cases e;exact d;rw[Au hb]at e;exact(x b u e).stay (λc v _ q=>k c v q) (λc q=>by rw[Au<|Cc q f];exact q) λc g q=>by rw[Au<|Cc q f];exact q
def Rd(H:Hp)(a:lH)(u:HO):Prop:=H a=some u\/∃o,H a=some (.frz o u)
def Rd.ok{P:lJ}{w:lK}{H:Hp}{h:lN}{a:lH}{u:HO}(r:Rd H a u)(x:HOk P w H h):Bx P w H h a u:=by rcases r with r|⟨o,r⟩;exact x a u r;obtain⟨_,q⟩:=x a _ r;exact q
def Mut:oB HO->Prop
 |some (.lst _)=>True
 |some (.dK _)=>True
 |some (.dT _)=>True
 |some (.set _ _)=>True
 |some (.ins _ _ _)=>True
 |some (.ext _)=>True
 |some (.dd _)=>True
 |_=>False
def HOk.write(ok:HOk P w H h)(g:Mut<|H x)(he:e=x\/H e=some (.own x))(k:∀b u,b≠e->h.get? b=some u->h'.get? b=some u)(n:∃u,h'.get? e=some u)
  (i:Bx P w (upd H x o') h' x o'):HOk P w (upd H x o') h':=λb u q=>by
 have l:∀c y,H c=some (.own y)->c≠x:=λc y r z=>by subst z;rw[r]at g;exact g
 have m:∀c f,H c=some (.tup f)->c≠x:=λc f r z=>by subst z;rw[r]at g;exact g
 by_cases hb:b=x;subst hb;rw[Bn]at q;cases q;exact i;rw[Au hb]at q;by_cases d:b=e;have j:H b=some (.own x):=by rcases he with z|z;exact absurd (d.trans z) hb;rw[d];exact z
 rw[q]at j;cases j;obtain⟨v,hv⟩:=n;exact⟨v,by rw[d];exact hv⟩;refine(ok b u q).stay (λc v hc r=>k c v ?_ r) (λc r=>by rw[Au<|l c b r];exact r) λc f r=>by rw[Au<|m c f r];exact r
 rcases hc with rfl|hc;exact d;rintro rfl;rcases he with z|z;exact l c b hc z;rw[hc]at z;cases z;exact hb rfl
structure Un(fs ex:oA lH)(H H':Hp)(h h':lN):Prop where
 keep:∀b o,h.get? b=some o->H b=none->b∉fs->b∉ex->h'.get? b=some o
 slot:∀b o,h.get? b=some o->H b=none->b∈fs->b∉ex->∃sl,h'.get? b=some {o with slots:=sl}
 free:∀b o,h.get? b=some o->H b=none->b∉ex->H' b=none
 there:∀b o,h.get? b=some o->b∉ex->∃o',h'.get? b=some o'
 tups:∀b xs,H b=some (.tup xs)->H' b=some (.tup xs)
 frzs:∀b o u,H b=some (.frz o u)->H' b=some (.frz o u)
 tbls:∀b ps,H b=some (.tbl ps)->∃more,H' b=some (.tbl<|ps++more)
def Un.any(u:Un fs ex H H1 h h1){b:lH}{c:lO}(q:h.get? b=some c)(n:H b=none)(hx:b∉ex):∃d,h1.get? b=some {c with slots:=d}:=by by_cases hb:b∈fs;exact u.slot b c q n hb hx;exact⟨c.slots,u.keep b c q n hb hx⟩
def Un.kept(k:∀b u,h.get? b=some u->h'.get? b=some u):Un fs ex H H h h' :=
 ⟨λb c q _ _ _=>k b c q,λb c q _ _ _=>⟨c.slots,k b c q⟩,λ_ _ _ n _=>n,λb c q _=>⟨c,k b c q⟩,λ_ _ q=>q,λ_ _ _ q=>q,λ_ d q=>⟨#[],by rw[q];simp⟩⟩
def Un.refl:Un fs ex H H h h:=Un.kept λ_ _ q=>q
def Un.laid(k:∀b u,h.get? b=some u->h'.get? b=some u)(hp:h.objs.size<=a)(c:H a=none):Un fs ex H (upd H a o) h h' where
 keep:=λb u q _ _ _=>k b u q
 slot:=λb u q _ _ _=>⟨u.slots,k b u q⟩
 free:=λb u q n _=>by rw[Au<|aB<|V_ (S_ q) hp];exact n
 there:=λb u q _=>⟨u,k b u q⟩
 tups:=λb d q=>by rw[Au<|Cc q c];exact q
 frzs:=λb u d q=>by rw[Au<|Cc q c];exact q
 tbls:=λb f q=>⟨#[],by rw[Au<|Cc q c,q];simp⟩
def Un.write(d:Mut<|H x)(he:e=x\/H e=some (.own x))(k:∀b u,b≠e->h.get? b=some u->h'.get? b=some u)(j:∃u,h'.get? e=some u):Un fs ex H (upd H x o) h h':=by
 have hx:∀b,H b=none->b≠x:=λb n z=>by subst z;rw[n]at d;exact d
 have hb:∀b,H b=none->b≠e:=λb n z=>by subst z;rcases he with r|r;exact hx b n r;rw[n]at r;cases r
 have f:∀b u,H b=some u->¬Mut (some u)->b≠x:=λb u q i z=>by subst z;rw[q]at d;exact i d
 refine⟨λb u q n _ _=>k b u (hb b n) q,λb u q n _ _=>⟨u.slots,k b u (hb b n) q⟩,λb u q n _=>by rw[Au<|hx b n];exact n,λb u q _=>?_,
  λb g q=>by rw[Au<|f b _ q λz=>z];exact q,λb u g q=>by rw[Au<|f b _ q λz=>z];exact q,λb l q=>⟨#[],by rw[Au<|f b _ q λz=>z,q];simp⟩⟩
 by_cases c:b=e;subst c;exact j;exact⟨u,k b u c q⟩
end
def trk(h:lN)(H:Hp):oA lH:=(List.range h.objs.size).filter λa=>(H a).isSome
def N0(h:lN)(H:Hp):lN:=PySem.W.hideAll h<|trk h H
def V5(h:lN)(H:Hp):(N0 h H).objs.size=h.objs.size:=PySem.W.hideAll_size _ _
def Yg{h:lN}{H:Hp}{b:lH}{o:lO}(e:h.get? b=some o)(n:H b=none):(N0 h H).get? b=some o :=
 PySem.W.hideAll_get _ e λa=>by have q:(H b).isSome=true:=(aR.mp a).2;rw[n]at q;simp at q
def EQ{h:lN}{H:Hp}{b:lH}{o:lO}(e:(N0 h H).get? b=some o):h.get? b=some o/\H b=none:=by
 have a:h.get? b=some o:=PySem.W.of_hideAll (trk h H) e;refine⟨a,?_⟩;cases q:H b with
 |none=>rfl
 |some x=>have c:b∈trk h H:=aR.mpr ⟨aL.mpr<|S_ a,by simp[q]⟩;have z:(N0 h H).get? b=none:=PySem.W.hideAll_none (trk h H) c;rw[z]at e;cases e
def ER(g h:lN)(L:lH):oA (lH×lO):=(List.range h.objs.size).filterMap λa=>if a=L\/(g.get? a).isSome=true then none else(h.get? a).map λo=>(a,o)
def rest(g h:lN)(L d:lH):oA (lH×lO):=(ER g h L).filter λp=>decide (p.1≠d)
structure Mod(K:lI)(mg:Str->oB lE)(base:lN):Prop where
 kin:K.In base
 glob:base.Ns mainGlobals mg
 blt:∃mb,base.Ns builtinsNs mb/\∀x:Str,x ≠ "__name__" -> mb x=bootBuiltins x
 nolimit:base.NoLimit
structure Cx where
 prog:lJ
 w:lK
 K:lI
 mg:Str->oB lE
 base:lN
 A:lM
 N:oA Str
 s₀:lF
 H₀:Hp
 env:Env
 outer:oA Env
 stack:oA Env
 ex:oA lH
 fn:Str->Bool
 calm:Bool
 pn:oA (lH×lO)
 xe:lE->lF->Prop
def frs(l:oA Env):oA lH:=l.filterMap (·.frame)
abbrev Cx.fs(X:Cx):oA lH:=frs X.outer
def Vis(sc:lT)(x:Str):Prop:=sc.names.lookup x=some .local\/sc.names.lookup x=some .cell\/sc.names.lookup x=some .free
def Loc(sc:lT)(x:Str):Prop:=sc.names.lookup x=some .local\/sc.names.lookup x=some .cell
def Look(env:Env)(h:lN)(m:Str->oB lE)(x:Str)(u:lE):Prop :=
 (env.kindOf x=some .local/\m x=some u)\/((env.kindOf x=some .cell\/env.kindOf x=some .free)/\∃c,env.cells.lookup x=some c/\h.IsCell c (some u))
structure Cx.Ok(X:Cx):Prop where
 mod:Mod X.K X.mg X.base
 kind:X.env.scope.kind=.function
 glob:X.env.globals=mainGlobals
 blt:X.env.builtins=builtinsNs
 above:X.s₀.heap.objs.size<=X.env.locals
 inj:∀x y c,X.env.cells.lookup x=some c->X.env.cells.lookup y=some c->x=y
 has:∀x,(X.env.kindOf x=some .cell\/X.env.kindOf x=some .free)->∃c,X.env.cells.lookup x=some c
 cab:∀x c,X.fn x=true->X.env.cells.lookup x=some c->X.s₀.heap.objs.size<=c
 hd:X.calm=true->X.A.handled=none
 frames:X.A.frames=some X.stack
 stk:X.stack=X.outer\/(X.stack=X.env::X.outer/\X.env.frame=some X.env.locals)
 exf:∀b∈X.ex,b≠X.env.locals/\∀x c,X.env.cells.lookup x=some c->c≠b
 bs:∀b o,X.base.get? b=some o->X.s₀.heap.get? b=some o/\X.H₀ b=none
 bsz:X.base.objs.size<=X.s₀.heap.objs.size
 noex:∀b o,X.base.get? b=some o->b∉X.ex
 exfs:∀b∈X.ex,b∉X.fs
 funs:X.s₀.heap.FunFrames X.base X.outer
 frf:∀b∈X.fs,X.H₀ b=none
structure Inv(X:Cx)(aa:oA<|lH×lO)(σ:oA<|oB V)(H:Hp)(s:lF):Prop where
 ok:X.Ok
 os:s.os=X.s₀.os
 bare:AllBare s.gens
 base:Un X.fs X.ex X.H₀ H X.s₀.heap s.heap
 loc:∃m,s.heap.Ns X.env.locals m/\∀(i:Nat) (x:Str) (v:V),X.N[i]?=some x->σ[i]?=some (some v)->Vis X.env.scope x->∃u,Bk v u/\Look X.env s.heap m x u
 cell:∀x c,X.env.cells.lookup x=some c->∃v,s.heap.IsCell c v
 free:H X.env.locals=none
 freeC:∀x c,X.env.cells.lookup x=some c->H c=none
 pin:∀p∈X.pn++aa,s.heap.get? p.1=some p.2/\H p.1=none/\p.1≠X.env.locals/\p.1∉X.fs/\∀v,p.2.data≠.cell v
 hok:HOk X.prog X.w H s.heap
 len:σ.length=X.N.length
section
variable {X:Cx}{aa:oA<|lH×lO}{σ:oA<|oB V}{H H':Hp}{s:lF}{h':lN}{a b:lL}{ta tb:TE}{pos:Pos}{tA kb:TT}{rest:oA lL}
def Cx.Ok.nofr(ok:X.Ok){b:lH}{o:lO}(e:X.base.get? b=some o):b∉X.fs:=λhb=>by have:=(ok.funs.mem hb).1;rw[e]at this;cases this
def Inv.bs(I:Inv X aa σ H s):∀b o,X.base.get? b=some o->s.heap.get? b=some o/\H b=none:=λb o e=>
 ⟨I.base.keep b o (I.ok.bs b o e).1 (I.ok.bs b o e).2 (I.ok.nofr e)<|I.ok.noex b o e,I.base.free b o (I.ok.bs b o e).1 (I.ok.bs b o e).2<|I.ok.noex b o e⟩
def Inv.bk(I:Inv X aa σ H s):∀b o,X.base.get? b=some o->s.heap.get? b=some o:=λb o e=>(I.bs b o e).1
def Inv.mod(I:Inv X aa σ H s):Mod X.K X.mg X.base:=I.ok.mod
def Inv.kIn(I:Inv X aa σ H s):X.K.In s.heap:=I.ok.mod.kin.keeps I.bk
def Inv.lt(I:Inv X aa σ H s):X.env.locals<s.heap.objs.size:=by obtain⟨_,c,_⟩:=I.loc;exact c.lt
def Inv.sz(I:Inv X aa σ H s):X.s₀.heap.objs.size<=s.heap.objs.size:=R_ I.ok.above<|bR I.lt
def Inv.nofs(I:Inv X aa σ H s){a:lH}(h:s.heap.objs.size<=a):a∉X.fs:=λhb=>by obtain⟨_,o,c,_⟩:=I.ok.funs.mem hb;exact absurd (V_ (S_ c)<|R_ I.sz h)<|dD _
def Inv.cne(I:Inv X aa σ H s):∀x c,X.env.cells.lookup x=some c->c≠X.env.locals:=λx c e z=>by obtain⟨v,o,g,f⟩:=I.cell x c e;obtain⟨m,⟨i,k,j,d,h,_⟩,_⟩:=I.loc;rw[z,d]at g;cases g;rw[h]at f;cases f
theorem Inv.funs(I:Inv X aa σ H s):s.heap.FunFrames X.base X.outer:=by
 have all:∀(l:oA Env),(∀b∈frs l,b∈X.fs)->X.s₀.heap.FunFrames X.base l->s.heap.FunFrames X.base l:=by
  intro l
  induction l with
  |nil=>intro _ _;trivial
  |cons i r k=>intro f m;obtain⟨hk,⟨L,o,c,g,j,h⟩,hr⟩:=m;have d:L∈X.fs:=f L (by unfold frs;rw[fS,c];exact aK);obtain⟨n,e⟩:=I.base.slot L o j (I.ok.frf L d) d λz=>I.ok.exfs L z d;exact⟨hk,⟨L,_,c,g,e,h⟩,k (λb hb=>f b<|by unfold frs;rw[fS,c];exact aA _ hb) hr⟩
 exact all X.outer (λ_ hb=>hb) I.ok.funs
def Inv.stack(I:Inv X aa σ H s):s.heap.FunFrames X.base X.stack:=by rcases I.ok.stk with e|⟨e,d⟩;rw[e];exact I.funs;rw[e];obtain⟨m,c,_⟩:=I.loc;refine .cons (by rw[I.ok.kind];decide) d c ?_ I.funs;exact Heap.get?_none_of_le<|R_ I.ok.bsz I.ok.above
def Inv.stkSub(I:Inv X aa σ H s):∀b∈frs X.stack,b∈X.env.locals::X.fs:=λb hb=>by rcases I.ok.stk with e|⟨e,c⟩;rw[e]at hb;exact aA _ hb;rw[e]at hb;unfold frs at hb;rw[fS,c]at hb;exact hb
def Inv.stkFree(I:Inv X aa σ H s):∀b∈frs X.stack,H b=none:=λb hb=>by rcases Y_.mp (I.stkSub b hb) with e|hb;rw[e];exact I.free;obtain⟨_,o,c,_⟩:=I.ok.funs.mem hb;exact I.base.free b o c (I.ok.frf b hb) λz=>I.ok.exfs b z hb
def Inv.step{g':oC GenState}{t':Nat}{d':Drawn}{ch:oA lH}(I:Inv X aa σ H s) (G:∀b∈ch,(b∈X.ex\/X.s₀.heap.objs.size<=b)/\b≠X.env.locals/\(∀x c,X.env.cells.lookup x=some c->c≠b)/\∀p∈X.pn++aa,p.1≠b)
  (g:∀b o,b≠X.env.locals->b∉X.fs->b∉ch->s.heap.get? b=some o->H b=none->h'.get? b=some o)
  (slot:∀b o,b≠X.env.locals->b∈X.fs->b∉ch->s.heap.get? b=some o->H b=none->∃Q,h'.get? b=some {o with slots:=Q}) (f:∀b o,b∉ch->s.heap.get? b=some o->H b=none->H' b=none)
  (t:∀b o,b∉ch->s.heap.get? b=some o->∃E,h'.get? b=some E) (D:∀b j,H b=some (.tup j)->H' b=some (.tup j)) (B:∀b o u,H b=some (.frz o u)->H' b=some (.frz o u)) (A:∀b L,H b=some (.tbl L)->∃more,H' b=some (.tbl<|L++more))
  (ns:∀m,s.heap.Ns X.env.locals m->h'.Ns X.env.locals m) (O:HOk X.prog X.w H' h') (W:AllBare g') :
  Inv X aa σ H' {s with heap:=h',gens:=g',drawn:=d',toks:=t'}:=by
 have C:∀b o,X.s₀.heap.get? b=some o->b≠X.env.locals:=λb o e=>aB<|V_ (S_ e) I.ok.above;have M:∀b o,X.s₀.heap.get? b=some o->b∉X.ex->b∉ch:=λb o e hx hb=>by rcases(G b hb).1 with z|z;exact hx z;exact absurd (V_ (S_ e) z)<|dD _
 have S:∀x c,X.env.cells.lookup x=some c->∀v,s.heap.IsCell c v->h'.IsCell c v:=λx c e v ⟨o,y,P⟩=>by have F:c∉ch:=λz=>(G c z).2.2.1 x c e rfl;by_cases hc:c∈X.fs;obtain⟨Q,q⟩:=slot c o (I.cne x c e) hc F y<|I.freeC x c e;exact⟨_,q,P⟩;exact⟨o,g c o (I.cne x c e) hc F y<|I.freeC x c e,P⟩
 refine⟨I.ok,I.os,W,⟨λb o e n hb hx=>?_,λb o e n hb hx=>?_,λb o e n hx=>?_,λb o e hx=>?_,λb j e=>D b j<|I.base.tups b j e,λb o j e=>B b o j<|I.base.frzs b o j e,λb L e=>?_⟩,?_,λx c e=>?_,?_,λx c e=>?_,λp hp=>?_,O,I.len⟩;exact g b o (C b o e) hb (M b o e hx) (I.base.keep b o e n hb hx)<|I.base.free b o e n hx;obtain⟨Q,h⟩:=I.base.slot b o e n hb hx;obtain⟨N,J⟩:=slot b _ (C b o e) hb (M b o e hx) h<|I.base.free b o e n hx;exact⟨N,J⟩;obtain⟨E,h⟩:=I.base.there b o e hx;exact f b E (M b o e hx) h<|I.base.free b o e n hx;obtain⟨E,h⟩:=I.base.there b o e hx;exact t b E (M b o e hx) h;obtain⟨m1,h⟩:=I.base.tbls b L e;obtain⟨Y,J⟩:=A b _ h;exact⟨m1++Y,by rw[J,Array.append_assoc]⟩;obtain⟨m,U,Z⟩:=I.loc;refine⟨m,ns m U,λi x v h J T=>?_⟩;obtain⟨u,r,l⟩:=Z i x v h J T;refine⟨u,r,?_⟩;rcases l with l|⟨k,c,e,z⟩;exact .inl l;exact .inr ⟨k,c,e,S x c e _ z⟩;obtain⟨v,z⟩:=I.cell x c e;exact⟨v,S x c e v z⟩;obtain⟨m,⟨o,_,_,y,_⟩,_⟩:=I.loc;exact f _ o (λz=>(G _ z).2.1 rfl) y I.free;obtain⟨v,o,y,P⟩:=I.cell x c e;exact f c o (λz=>(G c z).2.2.1 x c e rfl) y<|I.freeC x c e;obtain⟨e,n,ne,R,d⟩:=I.pin p hp;have F:p.1∉ch:=λz=>(G p.1 z).2.2.2 p hp rfl;exact⟨g p.1 p.2 ne R F e n,f p.1 p.2 F e n,ne,R,d⟩
def Inv.un{t':Nat}(I:Inv X aa σ H s)(u:Un X.fs [] H H' s.heap h')(f:HOk X.prog X.w H' h'):Inv X aa σ H' {s with heap:=h',toks:=t'}:=by
 obtain⟨m,⟨o,t,p,g,r⟩,_⟩:=id I.loc;obtain⟨q,j⟩:=u.any g I.free (by simp);exact I.step (g':=s.gens) (d':=s.drawn) (ch:=[]) (λ_ z=>nomatch z) (λb o _ hb _ e n=>u.keep b o e n hb<|by simp) (λb o _ hb _ e n=>u.slot b o e n hb<|by simp) (λb o _ e n=>u.free b o e n<|by simp) (λb o _ e=>u.there b o e<|by simp) u.tups u.frzs u.tbls (λv k=>by
  obtain⟨l,h,d,c,i⟩:=k;rw[g]at c;cases c;exact⟨_,h,d,j,i⟩) f I.bare
def Inv.call{g':oC GenState}{t':Nat}{d':Drawn}{ch:oA lH}(I:Inv X aa σ H s)(u:Un (frs X.stack) ch H H' s.heap h')(g:HOk X.prog X.w H' h')(k:AllBare g')
  (i:∀b∈ch,(b∈X.ex\/X.s₀.heap.objs.size<=b)/\b≠X.env.locals/\(∀x c,X.env.cells.lookup x=some c->c≠b)/\∀p∈X.pn++aa,p.1≠b) :
  Inv X aa σ H' {s with heap:=h',gens:=g',drawn:=d',toks:=t'}:=by
 obtain⟨m,⟨o,B,y,j,r⟩,_⟩:=id I.loc;obtain⟨A,h⟩:=u.any j I.free λz=>(i _ z).2.1 rfl;exact I.step (ch:=ch) i (λb o h hb hc e n=>u.keep b o e n (λz=>(Y_.mp<|I.stkSub b z).elim h hb) hc) (λb o _ _ hc e n=>u.any e n hc) (λb o hc e n=>u.free b o e n hc) (λb o hc e=>u.there b o e hc) u.tups u.frzs u.tbls (λC l=>by
  obtain⟨v,q,f,d,t⟩:=l;rw[j]at d;cases d;exact⟨_,q,f,h,t⟩) g k
def Inv.turned{t':Nat}{d:lH}(I:Inv X aa σ H s)(k:∀b o,b≠d->s.heap.get? b=some o->h'.get? b=some o)(i:H d=none)(g:d≠X.env.locals)
  (h1:d∈X.ex\/X.s₀.heap.objs.size<=d) (h2:∀x c,X.env.cells.lookup x=some c->c≠d) (l:∀p∈X.pn++aa,p.1≠d):Inv X aa σ H {s with heap:=h',toks:=t'}:=by
 have f:∀b u,H b=some u->b≠d:=λb u e z=>by rw[z,i]at e;cases e
 refine I.step (g':=s.gens) (d':=s.drawn) (ch:=[d]) (λb hb=>?_) (λb o _ _ hc e _=>k b o (λz=>hc<|by simp[z]) e) (λb o _ _ hc e _=>⟨o.slots,k b o (λz=>hc<|by simp[z]) e⟩) (λ_ _ _ _ n=>n)
  (λb o hc e=>⟨o,k b o (λz=>hc<|by simp[z]) e⟩) (λ_ _ e=>e) (λ_ _ _ e=>e) (λb y e=>⟨#[],by rw[e];simp⟩) (λm j=>?_) (λb u e=>?_) I.bare
 have e:b=d:=by simpa using hb
 subst e;exact⟨h1,g,h2,l⟩;obtain⟨o,w,h,t,r⟩:=j;exact⟨o,w,h,k _ o (fI g) t,r⟩;refine(I.hok b u e).stay (λc v hc q=>k c v ?_ q) (λ_ q=>q) λ_ _ q=>q;rcases hc with z|z;rw[z];exact f b u e;exact f c _ z
def Inv.tok(I:Inv X aa σ H s)(t:Nat):Inv X aa σ H {s with toks:=t}:=I.un (h':=s.heap) (t':=t) Un.refl I.hok
def Inv.kept{t':Nat}(I:Inv X aa σ H s)(k:∀b u,s.heap.get? b=some u->h'.get? b=some u):Inv X aa σ H {s with heap:=h',toks:=t'}:=I.un (Un.kept k)<|I.hok.kept k
def Inv.laid{a:lH}{o:HO}{t':Nat}(I:Inv X aa σ H s)(k:∀b u,s.heap.get? b=some u->h'.get? b=some u)(hp:s.heap.objs.size<=a)(c:Bx X.prog X.w (upd H a o) h' a o) :
  Inv X aa σ (upd H a o) {s with heap:=h',toks:=t'}:=I.un (Un.laid k hp<|I.hok.fresh hp)<|I.hok.laid k hp c
def Inv.write{x e:lH}{o:HO}{t':Nat}(I:Inv X aa σ H s)(f:Mut<|H x)(he:e=x\/H e=some (.own x))(k:∀b u,b≠e->s.heap.get? b=some u->h'.get? b=some u)(d:∃u,h'.get? e=some u)
  (c:Bx X.prog X.w (upd H x o) h' x o):Inv X aa σ (upd H x o) {s with heap:=h',toks:=t'}:=I.un (Un.write f he k d)<|I.hok.write f he k d c
def Inv.pins_of{c:oA<|lH×lO}(I:Inv X aa σ H s)(h:∀p∈c,s.heap.get? p.1=some p.2/\H p.1=none/\p.1≠X.env.locals/\p.1∉X.fs/\∀v,p.2.data≠.cell v):Inv X c σ H s :=
 ⟨I.ok,I.os,I.bare,I.base,I.loc,I.cell,I.free,I.freeC,λp hp=>(P_.mp hp).elim (λz=>I.pin p<|aH _ z)<|h p,I.hok,I.len⟩
def Pi{N:oA Str}(c:N.Nodup){i j:Nat}{x:Str}(a:N[i]?=some x)(b:N[j]?=some x):i=j:=by obtain⟨h1,e⟩:=E_.mp a;obtain⟨h2,d⟩:=E_.mp b;exact(List.getElem_inj c).mp<|e.trans d.symm
def Mv{M:Model}{A:lM}{E:lE->lF->Prop}{i:Nat}{x:Str}{v:V}{u:lE}{Q:Unit->lF->Prop}(I:Inv X aa σ H s)(hN:X.N.Nodup)(G:X.N[i]?=some x)(hx:Loc X.env.scope x)(r:Bk v u)
  (h:∀s',Inv X aa (σ.set i<|some v) H s'->(∃a,Heap.SameBut a s.heap s'.heap/\(a=X.env.locals\/X.env.cells.lookup x=some a))->Q () s') (hf:X.fn x=true\/X.env.scope.names.lookup x=some .local:=by first|exact .inl rfl|exact .inr rfl|assumption):wpAny M A (storeName X.env x u) Q E s:=by
 obtain⟨m,Y,hl⟩:=id I.loc;have xq:(X.env.scope.kind==.class||(X.env.scope.kind==.module&&X.env.locals != X.env.globals))=false:=by rw[I.ok.kind];rfl
 have B:i<σ.length:=by rw[I.len];exact(E_.mp G).1
 have C:=I.cne;have gt:∀{a:lH} {h':lN},(∃o,s.heap.get? a=some o/\H a=none)->Heap.SameBut a s.heap h'->HOk X.prog X.w H h':=λ{a h'} ha f b ob e=>by obtain⟨_,_,l⟩:=ha;refine(I.hok b ob e).stay (λc L hc q=>(f.2 c ?_).trans q) (λ_ q=>q) λ_ _ q=>q;rintro rfl;rcases hc with rfl|hc;rw[l]at e;cases e;rw[l]at hc;cases hc
 rcases hx with hk|hk;refine wpAny_storeName_local hk Y (λh' j4 f=>?_) xq;obtain⟨oL,_,_,U,_⟩:=id Y;refine h _ ⟨I.ok,I.os,I.bare,⟨λb o e n hb hx=>?_,λb o e n hb hx=>?_,I.base.free,λb o e hx=>?_,I.base.tups,I.base.frzs,I.base.tbls⟩,⟨_,j4,λj y P g t T=>?_⟩,λy c e=>?_,I.free,I.freeC,λp hp=>?_,gt ⟨oL,U,I.free⟩ f,by simpa using I.len⟩ ⟨_,f,.inl rfl⟩;exact(f.2 b<|aB<|V_ (S_ e) I.ok.above).trans<|I.base.keep b o e n hb hx;obtain⟨sl,g⟩:=I.base.slot b o e n hb hx;exact⟨sl,(f.2 b<|aB<|V_ (S_ e) I.ok.above).trans g⟩;obtain⟨W,g⟩:=I.base.there b o e hx;exact⟨W,(f.2 b<|aB<|V_ (S_ e) I.ok.above).trans g⟩;by_cases hj:j=i;subst hj;rw[G]at g;cases g;rw[List.getElem?_set_self B]at t;cases t;exact⟨u,r,.inl ⟨hk,by simp⟩⟩;rw[List.getElem?_set_ne<|fI hj]at t;obtain⟨R,S,q⟩:=hl j y P g t T;refine⟨R,S,?_⟩;rcases q with⟨k,e⟩|⟨k,c,e,z⟩;refine .inl ⟨k,?_⟩;have:y≠x:=λe=>hj<|Pi hN g<|e ▸ G;simp[this,e];exact .inr ⟨k,c,e,z.sameBut f<|C y c e⟩;obtain⟨L,z⟩:=I.cell y c e;exact⟨L,z.sameBut f<|C y c e⟩;obtain⟨e,n,ne,nf,d⟩:=I.pin p hp;exact⟨(f.2 p.1 ne).trans e,n,ne,nf,d⟩;have Z:X.fn x=true:=by rcases hf with z|z;exact z;rw[z]at hk;cases hk
 obtain⟨c,hc⟩:=I.ok.has x<|.inl hk;obtain⟨L,z⟩:=I.cell x c hc;refine wpAny_storeName_cell I.ok.kind hk hc z λh' bf f=>?_;obtain⟨oc,D,J⟩:=id z;refine h {s with heap:=h'} ⟨I.ok,I.os,I.bare,⟨λb o e n hb hx=>?_,λb o e n hb hx=>?_,I.base.free,λb o e hx=>?_,I.base.tups,I.base.frzs,I.base.tbls⟩,⟨m,Y.sameBut f<|fI<|C x c hc,λj y P g t T=>?_⟩,λy O e=>?_,I.free,I.freeC,λp hp=>?_,gt ⟨oc,D,I.freeC x c hc⟩ f,by simpa using I.len⟩ ⟨c,f,.inr hc⟩;exact(f.2 b<|aB<|V_ (S_ e)<|I.ok.cab x c Z hc).trans<|I.base.keep b o e n hb hx;obtain⟨sl,g⟩:=I.base.slot b o e n hb hx;exact⟨sl,(f.2 b<|aB<|V_ (S_ e)<|I.ok.cab x c Z hc).trans g⟩;obtain⟨W,g⟩:=I.base.there b o e hx;exact⟨W,(f.2 b<|aB<|V_ (S_ e)<|I.ok.cab x c Z hc).trans g⟩;by_cases hj:j=i;subst hj;rw[G]at g;cases g;rw[List.getElem?_set_self B]at t;cases t;exact⟨u,r,.inr ⟨.inl hk,c,hc,bf⟩⟩;rw[List.getElem?_set_ne<|fI hj]at t;obtain⟨R,S,q⟩:=hl j y P g t T;refine⟨R,S,?_⟩;rcases q with q|⟨k,O,e,z'⟩;exact .inl q;refine .inr ⟨k,O,e,z'.sameBut f ?_⟩;rintro rfl;exact hj<|Pi hN g<|I.ok.inj _ _ _ e hc ▸ G;by_cases F:O=c;subst F;exact⟨_,bf⟩;obtain⟨w2,z2⟩:=I.cell y O e;exact⟨w2,z2.sameBut f F⟩;obtain⟨e,n,ne,nf,d⟩:=I.pin p hp;refine⟨(f.2 p.1 ?_).trans e,n,ne,nf,d⟩;intro q;rw[q,D]at e;have q':oc=p.2:=aX e;exact d L<|by rw[<- q'];exact J
def Pj{M:Model}{A:lM}{E:lE->lF->Prop}{i:Nat}{x:Str}{v:V}{u:lE}{Q:Unit->lF->Prop}(I:Inv X aa σ H s)(e:X.N.Nodup)(g:X.N[i]?=some x)(hx:Loc X.env.scope x)(r:Bk v u)
  (h:∀c,Inv X aa (σ.set i<|some v) H c->Q () c) (d:X.fn x=true\/X.env.scope.names.lookup x=some .local:=by first|exact .inl rfl|exact .inr rfl|assumption):wpAny M A (storeName X.env x u) Q E s :=
 Mv I e g hx r (λc f _=>h c f) d
def Inv.call'{d:lF}{ch:oA lH}(I:Inv X aa σ H s)(i:d.os=s.os)(u:Un (frs X.stack) ch H H' s.heap d.heap)(f:HOk X.prog X.w H' d.heap)(j:AllBare d.gens)
  (h:∀b∈ch,(b∈X.ex\/X.s₀.heap.objs.size<=b)/\b≠X.env.locals/\(∀x c,X.env.cells.lookup x=some c->c≠b)/\∀p∈X.pn++aa,p.1≠b):Inv X aa σ H' d:=by
 obtain⟨h',g',d',t',g⟩:=d;have e:g=s.os:=i;subst e;exact I.call (g':=g') (t':=t') (d':=d') u f j h
abbrev XK:=lE->oB lH->Hp->Prop
abbrev St:=oA<|oB V
abbrev VK:=V->Hp->Prop
abbrev TE:=St->Hp->VK->Prop
abbrev TT:=St->Hp->(Bool->Hp->Prop)->Prop
abbrev TA:=St->Hp->(oA V->Hp->Prop)->Prop
structure Ends where
 nx:St->Hp->Prop
 rt:VK
 bk:St->Hp->Prop:=λ_ _=>False
 ct:St->Hp->Prop:=λ_ _=>False
abbrev TS:=Ends->St->Hp->Prop
def EP(X:Cx)(aa:oA<|lH×lO)(σ:St)(Q:VK)(u:lE)(c:lF):Prop:=∃v H',Inv X aa σ H' c/\Bk v u/\Q v H'
def TP(X:Cx)(aa:oA<|lH×lO)(σ:St)(Q:Bool->Hp->Prop)(b:Bool)(c:lF):Prop:=∃H',Inv X aa σ H' c/\Q b H'
def AP(X:Cx)(aa:oA<|lH×lO)(σ:St)(Q:oA V->Hp->Prop)(e:oA lE)(d:lF):Prop:=∃c H',Inv X aa σ H' d/\Vals c e/\Q c H'
def SP(X:Cx)(aa:oA<|lH×lO)(D:Ends)(f:Flow)(d:lF):Prop :=
 match f with
 |.next=>∃ c H',Inv X aa c H' d/\D.nx c H'
 |.brk=>∃ c H',Inv X aa c H' d/\D.bk c H'
 |.cont=>∃ c H',Inv X aa c H' d/\D.ct c H'
 |.ret u=>∃v c H',Inv X aa c H' d/\Bk v u/\D.rt v H'
def PE(X:Cx)(e:lL)(t:TE):Prop :=
 ∀(aa:oA<|lH×lO) (s:lF) (σ:St) (H:Hp) (Q:VK),Inv X aa σ H s->t σ H Q->qQ X.prog X.w X.A (eval e X.env) (EP X aa σ Q) X.xe s
def PT(X:Cx)(e:lL)(t:TT):Prop :=
 ∀(aa:oA<|lH×lO) (s:lF) (σ:St) (H:Hp) (Q:Bool->Hp->Prop),Inv X aa σ H s->t σ H Q->qQ X.prog X.w X.A (isTrue e X.env<|eval e X.env) (TP X aa σ Q) X.xe s
def PW(X:Cx)(e:lL)(t:TT):Prop :=
 ∀(c:Sem lE) (aa:oA<|lH×lO) (s:lF) (σ:St) (H:Hp) (Q:Bool->Hp->Prop),Inv X aa σ H s->t σ H Q->qQ X.prog X.w X.A (isTrue e X.env c) (TP X aa σ Q) X.xe s
def PW.pt{X:Cx}{e:lL}{t:TT}(h:PW X e t):PT X e t:=h _
def PA(X:Cx)(es:oA lL)(t:TA):Prop :=
 ∀(pos:Pos) (aa:oA<|lH×lO) (s:lF) (σ:St) (H:Hp) (Q:oA V->Hp->Prop),Inv X aa σ H s->t σ H Q->qQ X.prog X.w X.A (spliced<|backTo pos<|starEach es X.env) (AP X aa σ Q) X.xe s
def PS(X:Cx)(st:lP)(t:TS):Prop :=
 ∀(aa:oA<|lH×lO) (s:lF) (σ:St) (H:Hp) (D:Ends),Inv X aa σ H s->t D σ H->qQ X.prog X.w X.A (exec st X.env) (SP X aa D) X.xe s
def PSs(X:Cx)(st:oA lP)(t:TS):Prop :=
 ∀(aa:oA<|lH×lO) (s:lF) (σ:St) (H:Hp) (D:Ends),Inv X aa σ H s->t D σ H->qQ X.prog X.w X.A (execs st X.env) (SP X aa D) X.xe s
def thn{d:Type}{t:Sem d}{Q c:d->lF->Prop}{M:Model}{A:lM}{E:lE->lF->Prop}{s:lF}(h:wpAny M A t Q E s)(e:∀a s,Q a s->c a s):wpAny M A t c E s:=cD h e λ_ _ x=>x
def QX(i:Nat):TE:=λσ H Q=>∃v,σ[i]?=some (some v)/\Q v H
def tC(v:V):TE:=λ_ H Q=>Q v H
def KG{i:Nat}{x:Str}{pos:Pos}(n:X.N[i]?=some x)(hv:Vis X.env.scope x)(g:(x==("__debug__" : Str))=false:=by decide) (o:(x==("__classdict__" : Str))=false:=by decide):PE X (.Name x pos) (QX i):=by intro aa s σ H Q I h;obtain⟨v,e,h⟩:=h;obtain⟨m,j,p⟩:=I.loc;obtain⟨u,r,l⟩:=p i x v n e hv;have f:EP X aa σ Q u s:=⟨v,H,I,r,h⟩;rcases l with⟨hk,k⟩|⟨hk,c,hc,d⟩;exact wpAny_Name (wpAny_loadName_local I.ok.kind hk j k f) g;rcases hk with hk|hk;exact wpAny_Name (wpAny_loadName_cell I.ok.kind hk hc d f) g;exact wpAny_Name (wpAny_loadName_free I.ok.kind hk hc d f o) g
def KH{i j pos}:PE X (.Constant (.int i) j pos) (tC<|.int i):=λ_ _ _ H _ I h=>wpAny_Constant_int ⟨.int i,H,I.tok _,⟨_,rfl⟩,h⟩
def QY{b j pos}:PE X (.Constant (.bool b) j pos) (tC<|.bl b):=λ_ _ _ H _ I h=>Constant_bool ⟨.bl b,H,I,rfl,h⟩
def KI{j pos}:PE X (.Constant .none j pos) (tC .non):=λ_ _ _ H _ I h=>Constant_none ⟨.non,H,I,rfl,h⟩
def KJ{x j pos}:PE X (.Constant (.str x) j pos) (tC<|.str x):=λ_ _ _ H _ I h=>Calls.Constant_str ⟨.str x,H,I.tok _,⟨_,rfl⟩,h⟩
def Gl(X:Cx)(x:Str):Prop:=X.env.kindOf x=some .globalImplicit
def Tx{E:lE->lF->Prop}{aa:oA<|lH×lO}{s:lF}{σ:St}{H:Hp}{x:Str}{u:lE}{pos:Pos}{Q:lE->lF->Prop}(I:Inv X aa σ H s)(d:Gl X x)(e:X.mg x=some u)(h:Q u s)
  (c:(x==("__debug__" : Str))=false:=by decide):qQ X.prog X.w X.A (eval (.Name x pos) X.env) Q E s :=
 Calls.Name_function_global I.ok.kind d (Calls.loadGlobal_global (by rw[I.ok.glob];exact I.mod.glob.keeps I.bk) e h) c
def Hl{E:lE->lF->Prop}{aa:oA<|lH×lO}{s:lF}{σ:St}{H:Hp}{x:Str}{u:lE}{pos:Pos}{Q:lE->lF->Prop}(I:Inv X aa σ H s)(d:Gl X x)(f:X.mg x=none)(hv:bootBuiltins x=some u)(h:Q u s)
  (c:x ≠ "__name__" := by decide) (e:(x==("__debug__" : Str))=false:=by decide):qQ X.prog X.w X.A (eval (.Name x pos) X.env) Q E s:=by
 obtain⟨g,h1,h2⟩:=I.mod.blt;exact Calls.Name_function_global I.ok.kind d (Calls.loadGlobal_builtin (by rw[I.ok.glob];exact I.mod.glob.keeps I.bk) f (by rw[I.ok.blt];exact h1.keeps I.bk) ((h2 x c).trans hv) h) e
def ES{x:Str}{v:V}{u:lE}{pos:Pos}(c:Gl X x)(d:X.mg x=some u)(r:Bk v u)(e:(x==("__debug__" : Str))=false:=by decide):PE X (.Name x pos) (tC v) :=
 λ_ _ _ H _ I h=>Tx I c d ⟨v,H,I,r,h⟩ e
def PC(X:Cx)(e:CmpOp)(a b:lL)(t:TE):Prop :=
 ∀(aa:oA<|lH×lO) (s:lF) (σ:St) (H:Hp) (Q:VK),Inv X aa σ H s->t σ H Q ->
  qQ X.prog X.w X.A (eval a X.env) (λv c=>qQ X.prog X.w X.A (eval b X.env) (λu d=>qQ X.prog X.w X.A (compareOp e v u) (EP X aa σ Q) X.xe d) X.xe c) X.xe s
def tB(t:TE):TT:=λσ H Q=>t σ H λx d=>∃c,x=.bl c/\Q c d
def KK{c:CmpOp}{t:TE}(h:PC X c a b t)(h1:behindInMarks c b=false:=by first|exact nobehind _ (by decide) (by decide)|rfl):PE X (.Compare a [c] [b] pos) t:=λaa s σ H Q I d=>wpAny_Compare1 (h aa s σ H Q I d) h1
def KL{e:CmpOp}{t:TE}(h:PC X e a b t)(h1:behindInMarks e b=false:=by first|exact nobehind _ (by decide) (by decide)|rfl):PT X (.Compare a [e] [b] pos) (tB t):=by intro aa s σ H Q I j;refine wpAny_isTrue_Compare1 (thn (h aa s σ H _ I j) λv m h1=>thn h1 λu o h2=>thn h2 λc n i=>Db i λx l g k f=>?_) h1;obtain⟨d,rfl,q⟩:=f;cases k;exact fJ ⟨l,g,q⟩
def KM{e:lL}{t:TE}(h:PE X e t)(he:∀c,isTrue e X.env c=(do let v <- c;standAt e.pos;holding [v]<|truthy v):=by intro _;rfl):PT X e (tB t):=by intro aa s σ H Q I j;refine isTrue_plain (thn (h aa s σ H _ I j) λv m i=>Db i λx l g k f=>?_)<|he _;obtain⟨d,rfl,q⟩:=f;cases k;exact fJ ⟨l,g,q⟩
def ZJ(t u:TT):TT:=λσ H Q=>t σ H λc d=>if c=true then u σ d Q else Q false d
def tOr(t u:TT):TT:=λσ H Q=>t σ H λc d=>if c=true then Q true d else u σ d Q
def ZK(t:TT):TT:=λσ H Q=>t σ H λc d=>Q (!c) d
def ET(ha:PT X a tA):PW X (.BoolOp .And [a] pos) tA:=by
 intro f aa s σ H Q I h;refine isTrue_and<|thn (ha aa s σ H Q I h) λc d e=>?_;cases c with
 |true=>exact isTrue_and_nil e
 |false=>exact e
def KN(ha:PT X a tA):PW X (.BoolOp .Or [a] pos) tA:=by
 intro f aa s σ H Q I h;refine isTrue_or<|thn (ha aa s σ H Q I h) λc d e=>?_;cases c with
 |false=>exact isTrue_or_nil e
 |true=>exact e
def KO(ha:PT X a tA)(hb:PW X (.BoolOp .And (b::rest) pos) kb):PW X (.BoolOp .And (a::b::rest) pos) (ZJ tA kb):=by
 intro i aa s σ H Q I h;refine isTrue_and<|thn (ha aa s σ H _ I h) λc g ⟨f,e,d⟩=>?_;cases c with
 |true=>exact hb i aa g σ f Q e d
 |false=>exact⟨f,e,d⟩
def QZ(ha:PT X a tA)(hb:PW X (.BoolOp .Or (b::rest) pos) kb):PW X (.BoolOp .Or (a::b::rest) pos) (tOr tA kb):=by
 intro i aa s σ H Q I h;refine isTrue_or<|thn (ha aa s σ H _ I h) λc g ⟨f,e,d⟩=>?_;cases c with
 |true=>exact⟨f,e,d⟩
 |false=>exact hb i aa g σ f Q e d
def KP(ha:PT X a tA):PT X (.UnaryOp .Not a pos) (ZK tA):=by intro aa s σ H Q I h;exact isTrue_not<|ha aa s σ H (λc d=>Q (!c) d) I h
def ZL(ta tb:TE):TE:=λσ H Q=>ta σ H λx d=>∃c,x=.bl c/\if c=true then Q (.bl true) d else tb σ d Q
def KQ{op}{t:TE}(h:PE X a t):PE X (.BoolOp op [a] pos) t:=λaa s σ H Q I c=>BoolOp_one<|h aa s σ H Q I c
def RA(ha:PE X a ta)(hb:PE X (.BoolOp .Or (b::rest) pos) tb):PE X (.BoolOp .Or (a::b::rest) pos) (ZL ta tb):=by
 intro aa s σ H Q I h;refine BoolOp_or<|thn (ha aa s σ H _ I h) λv g j=>Db j λx f e i d=>?_;obtain⟨c,rfl,d⟩:=d;cases i;refine fJ ?_;cases c with
 |false=>exact hb aa g σ f Q e d
 |true=>exact⟨.bl true,f,e,rfl,d⟩
def tIf(t:TT)(ta tb:TE):TE:=λσ H Q=>t σ H λc d=>if c=true then ta σ d Q else tb σ d Q
def Yh{c:lL}(hc:PT X c tA)(ha:PE X a ta)(hb:PE X b tb):PE X (.IfExp c a b pos) (tIf tA ta tb):=by
 intro aa s σ H Q I h;refine wpAny_IfExp<|thn (hc aa s σ H _ I h) λd g ⟨i,f,e⟩=>?_;cases d with
 |true=>exact ha aa g σ i Q f e
 |false=>exact hb aa g σ i Q f e
end
def Fu(K:lI)(H:Hp)(a:lH)(xs:oA V):Prop :=
 Rd H a (.lst xs) \/
  ∃(o:lO) (b:oC lE) (n:Nat),K.lookup a=some o/\o.cls=.type "list" /\ o.dict=none/\o.data=.seq b n/\b.size<=sizeLine/\Vals xs b.toList
def Ja(K:lI)(H:Hp)(a:lH)(xs:oA V):Prop :=
 Rd H a (.tup xs) \/
  ∃(o:lO) (b:oC lE) (n:Nat),K.lookup a=some o/\o.cls=.type "tuple" /\ o.data=.seq b n/\b.size<=sizeLine/\Vals xs b.toList
def ZM:lE->oB V
 |.none=>some .non
 |.bool b=>some (.bl b)
 |.int i _=>some (.int i)
 |.str x _=>some (.str x)
 |.bytes b _=>some (.byt b)
 |.float b _=>some (.flt b)
 |.ref a=>some (.ref a)
 |.type n=>some (.ty n)
 |_=>none
def Bk.abs{x:V}{u:lE}(r:Bk x u):ZM u=some x:=by
 cases x with
 |non=>cases r;rfl
 |bl _=>cases r;rfl
 |int _=>obtain⟨t,rfl⟩:=r;rfl
 |str _=>obtain⟨t,rfl⟩:=r;rfl
 |byt _=>obtain⟨t,rfl⟩:=r;rfl
 |flt _=>obtain⟨t,rfl⟩:=r;rfl
 |ref _=>cases r;rfl
 |ty _=>cases r;rfl
def Bk.inj{x y:V}{u:lE}(r:Bk x u)(q:Bk y u):x=y:=aX<|r.abs.symm.trans q.abs
theorem Vals.inj:∀{xs ys:oA V} {a:oA lE},Vals xs a->Vals ys a->xs=ys
 |_,_,_,.nil,.nil=>rfl
 |_,_,_,.cons r t,.cons b c=>by rw[r.inj b,Vals.inj t c]
section
variable {X:Cx}{aa:oA<|lH×lO}{σ:St}{H:Hp}{s:lF}{a:lH}{xs ys:oA V}{E:lE->lF->Prop}{st:lP}{rest:oA lP}{t u:TS}{e:lL}{te:TE}{pos:Pos}{tg:lL}
def Fu.of{K:lI}(h:H a=some (.lst xs)):Fu K H a xs:=.inl<|.inl h
def Ja.of{K:lI}(h:H a=some (.tup xs)):Ja K H a xs:=.inl<|.inl h
def Inv.list(I:Inv X aa σ H s)(h:Fu X.K H a xs):∃b:oA lE,Vals xs b/\PlainL s.heap a b.toArray/\xs.length<=sizeLine:=by rcases h with h|⟨o,b,n,hk,hc,d,c,hz,r⟩;obtain⟨z,b,n,r,e⟩:=h.ok I.hok;exact⟨b,r,⟨_,n,e,rfl,rfl,rfl⟩,z⟩;refine⟨b.toList,r,⟨o,n,I.kIn a o hk,hc,d,by simpa using c⟩,?_⟩;have e:=r.length;simp only[Array.length_toList]at e;omega
def Inv.tuple(I:Inv X aa σ H s)(h:Ja X.K H a xs):∃b:oA lE,Vals xs b/\IsTup s.heap a b.toArray/\xs.length<=sizeLine:=by rcases h with h|⟨o,b,n,hk,hc,c,hz,r⟩;obtain⟨z,b,r,p⟩:=h.ok I.hok;exact⟨b,r,p,z⟩;refine⟨b.toList,r,⟨o,I.kIn a o hk,hc,n,by simpa using c⟩,?_⟩;have e:=r.length;simp only[Array.length_toList]at e;omega
def Inv.list_inj(I:Inv X aa σ H s)(h:Fu X.K H a xs)(h':Fu X.K H a ys):xs=ys:=by
 obtain⟨i,r,⟨o,n,e,_,_,d⟩,_⟩:=I.list h;obtain⟨b,g,⟨j,k,f,_,_,c⟩,_⟩:=I.list h';rw[e]at f;cases f;rw[d]at c;injection c with d1 _;have:i=b:=by simpa using cV Array.toList d1
 subst this;exact r.inj g
def Inv.tuple_inj(I:Inv X aa σ H s)(h:Ja X.K H a xs)(h':Ja X.K H a ys):xs=ys:=by
 obtain⟨i,r,⟨o,e,_,n,d⟩,_⟩:=I.tuple h;obtain⟨b,g,⟨j,f,_,k,c⟩,_⟩:=I.tuple h';rw[e]at f;cases f;rw[d]at c;injection c with d1 _;have:i=b:=by simpa using cV Array.toList d1
 subst this;exact r.inj g
abbrev Cx.wish(X:Cx)(E:lE->lF->Prop):Cx:={X with xe:=E}
abbrev Cx.nox(X:Cx):Cx:=X.wish λ_ _=>False
def Cx.Ok.wish{X:Cx}(ok:X.Ok)(E:lE->lF->Prop):(X.wish E).Ok :=
 ⟨ok.mod,ok.kind,ok.glob,ok.blt,ok.above,ok.inj,ok.has,ok.cab,ok.hd,ok.frames,ok.stk,ok.exf,ok.bs,ok.bsz,ok.noex,ok.exfs,ok.funs,ok.frf⟩
def Cx.Ok.unwish{X:Cx}{E:lE->lF->Prop}(ok:(X.wish E).Ok):X.Ok :=
 ⟨ok.mod,ok.kind,ok.glob,ok.blt,ok.above,ok.inj,ok.has,ok.cab,ok.hd,ok.frames,ok.stk,ok.exf,ok.bs,ok.bsz,ok.noex,ok.exfs,ok.funs,ok.frf⟩
def Inv.wish(I:Inv X aa σ H s)(E:lE->lF->Prop):Inv (X.wish E) aa σ H s:=⟨I.ok.wish E,I.os,I.bare,I.base,I.loc,I.cell,I.free,I.freeC,I.pin,I.hok,I.len⟩
def Inv.unwish(I:Inv (X.wish E) aa σ H s):Inv X aa σ H s:=⟨I.ok.unwish,I.os,I.bare,I.base,I.loc,I.cell,I.free,I.freeC,I.pin,I.hok,I.len⟩
theorem SP.unwish{D:Ends}{f:Flow}{d:lF}(h:SP (X.wish E) aa D f d):SP X aa D f d:=by
 cases f with
 |next=>obtain⟨b,c,I,q⟩:=h;exact⟨b,c,I.unwish,q⟩
 |brk=>obtain⟨b,c,I,q⟩:=h;exact⟨b,c,I.unwish,q⟩
 |cont=>obtain⟨b,c,I,q⟩:=h;exact⟨b,c,I.unwish,q⟩
 |ret u=>obtain⟨v,b,c,I,r,q⟩:=h;exact⟨v,b,c,I.unwish,r,q⟩
def PSs.nox{st:oA lP}{t:TS}(h:PSs X.nox st t):PSs X st t:=λaa s σ H D I b=>
 cD (h aa s σ H D (I.wish _) b) (λ_ _ q=>q.unwish) λ_ _ z=>False.elim z
def RB:TS:=λD σ H=>D.nx σ H
def ZN(t u:TS):TS:=λD σ H=>t {D with nx:=u D} σ H
def EU:PSs X [] RB:=λ_ _ σ H _ I h=>iC ⟨σ,H,I,h⟩
def Pk(h1:PS X st t)(h2:PSs X rest u):PSs X (st::rest) (ZN t u):=by
 intro aa s σ H D I h;refine wpAny_execs_cons<|thn (h1 aa s σ H {D with nx:=u D} I h) λf c q=>?_;cases f with
 |next=>obtain⟨b,d,g,q⟩:=q;exact h2 aa c b d D g q
 |ret v=>exact q
 |brk=>exact q
 |cont=>exact q
def Ty(h1:PS X st t):PSs X [st] t:=by
 intro aa s σ H D I h;refine wpAny_execs_cons<|thn (h1 aa s σ H D I h) λf b q=>?_;cases f with
 |next=>exact iC q
 |ret v=>exact q
 |brk=>exact q
 |cont=>exact q
def Inv.quiet{aa:oA<|lH×lO}{σ:St}{H:Hp}{s:lF}(I:Inv X aa σ H s):interactive X.env=false:=by simp[interactive,I.ok.kind]
def RC(te:TE):TS:=λD σ H=>te σ H λ_ b=>D.nx σ b
def EV(he:PE X e te)(hs:swapsWith e none pos.line X.env=pure false:=by rfl):PS X (.Expr e pos) (RC te):=by intro aa s σ H D I h;exact wpAny_Expr_any (thn (he aa s σ H _ I h) λv g d=>Db d λx f c i b=>⟨σ,f,c,b⟩) I.quiet hs
def ZO(te:TE):TS:=λD σ H=>te σ H D.rt
def KR(he:PE X e te):PS X (.Return (some e) pos) (ZO te):=by intro aa s σ H D I h;exact wpAny_Return_some<|thn (he aa s σ H _ I h) λv i d=>Db d λx g c f b=>⟨x,σ,g,c,f,b⟩
def ZP(c:TT)(t u:TS):TS:=λD σ H=>c σ H λb d=>if b=true then t D σ d else u D σ d
def RD{c:lL}{a b:oA lP}{f:TT}(hc:PT X c f)(ha:PSs X a t)(hb:PSs X b u):PS X (.If c a b pos) (ZP f t u):=by
 intro aa s σ H D I h;refine wpAny_If<|thn (hc aa s σ H _ I h) λd j ⟨k,i,g⟩=>?_;cases d with
 |true=>exact ha aa j σ k D i g
 |false=>exact hb aa j σ k D i g
def KS:TS:=λ_ _ _=>False
def Yi:PS X st KS:=λ_ _ _ _ _ _ h=>h.elim
abbrev TG:=V->St->Hp->(St->Hp->Prop)->Prop
abbrev TGs:=oA V->St->Hp->(St->Hp->Prop)->Prop
def PG(X:Cx)(f:lL)(t:TG):Prop :=
 ∀(aa:oA<|lH×lO) (s:lF) (σ:St) (H:Hp) (v:V) (u:lE) (Q:St->Hp->Prop),Inv X aa σ H s->Bk v u->t v σ H Q ->
  qQ X.prog X.w X.A (assign f X.env u) (λ_ d=>∃ b c,Inv X aa b c d/\Q b c) X.xe s
def PGs(X:Cx)(ts:oA lL)(t:TGs):Prop :=
 ∀(aa:oA<|lH×lO) (s:lF) (σ:St) (H:Hp) (f:oA V) (d:oA lE) (Q:St->Hp->Prop),Inv X aa σ H s->Vals f d->t f σ H Q ->
  qQ X.prog X.w X.A (assignInOrder ((assignEach ts X.env).map (·.2)) d) (λ_ g=>∃ b c,Inv X aa b c g/\Q b c) X.xe s
abbrev TSet:=V->V->V->Hp->(Hp->Prop)->Prop
def PSet(X:Cx)(t:TSet):Prop :=
 ∀(aa:oA<|lH×lO) (s:lF) (σ:St) (H:Hp) (o i v:V) (d b u:lE) (Q:Hp->Prop),Inv X aa σ H s->Bk o d->Bk i b->Bk v u->t o i v H Q ->
  qQ X.prog X.w X.A (setItem d b u) (λ_ f=>∃c,Inv X aa σ c f/\Q c) X.xe s
def Yj(i:Nat):TG:=λv σ H Q=>Q (σ.set i<|some v) H
def EW{i:Nat}{x:Str}(c:X.N.Nodup)(f:X.N[i]?=some x)(hx:Loc X.env.scope x)(b:X.fn x=true\/X.env.scope.names.lookup x=some .local:=by first|exact .inl rfl|exact .inr rfl|assumption):PG X (.Name x pos) (Yj i):=by intro aa s σ H v u Q I r h;exact wpAny_assign_Name<|Pj I c f hx r (λg d=>⟨_,H,d,h⟩) b
def ZQ:TGs:=λb σ H Q=>b=[]/\Q σ H
def RE(t:TG)(u:TGs):TGs:=λd σ H Q=>∃v r,d=v::r/\t v σ H λb c=>u r b c Q
def EY:PGs X [] ZQ:=by intro aa s σ H c b Q I r h;obtain⟨e,h⟩:=h;subst e;cases r;exact assignInOrder_nil ⟨σ,H,I,h⟩
def Yk{e:lL}{es:oA lL}{t:TG}{u:TGs}(h1:PG X e t)(h2:PGs X es u)
  (hs:(assignEach (e::es) X.env).map (·.2)=assign e X.env::(assignEach es X.env).map (·.2):=by rfl):PGs X (e::es) (RE t u):=by
 intro aa s σ H n m Q I r h;obtain⟨v,l,k,h⟩:=h;subst k;cases r with
 |cons r g=>rw[hs];refine assignInOrder_cons<|thn (h1 aa s σ H _ _ _ I r h) λ_ f j=>?_;obtain⟨b,i,d,c⟩:=j;exact h2 aa f b i _ _ Q d g c
def ZR(K:lI)(n:Nat)(t:TGs):TG:=λv σ H Q=>∃a xs,v=.ref a/\Ja K H a xs/\xs.length=n/\t xs σ H Q
def Yl{es:oA lL}{k:Nat}{t:TGs}{n:Nat}(hc:X.calm=true)(h:PGs X es t)
  (i:(assignEach es X.env).length=n:=by rfl) (j:(assignEach es X.env).findIdx? (·.1)=none:=by rfl):PG X (.Tuple es k pos) (ZR X.K n t):=by
 intro aa s σ H v u Q I r c;obtain⟨a,xs,l,hq,m,c⟩:=c;subst l;cases r;obtain⟨p,d,ht,hz⟩:=I.tuple hq;refine assign_Tuple_tuple (I.ok.hd hc) ht (by simp[i,<- m,d.length]) j λg hx=>?_;have f:Inv X aa σ H {s with heap:=g}:=I.kept (t':=s.toks) λb o e=>hx b o (aB<|S_ e) e;exact h aa _ σ H xs _ Q f (by simpa using d) c
def ZS(c f:TE)(t:TSet):TG:=λv σ H Q=>c σ H λo d=>f σ d λi b=>t o i v b λg=>Q σ g
def KU{o i:lL}{d f:TE}{t:TSet}(w:PE X o d)(J:PE X i f)(hs:PSet X t)
  (ha:∀v,assign (.Subscript o i pos) X.env v=(do
   let b <- holding [v] (eval o X.env)
   let c <- holding [v,b] (eval i X.env)
   standAt pos
   holding [v,b,c] (setItem b c v)
   release [v,b,c] []):=by intro _;rfl):PG X (.Subscript o i pos) (ZS d f t):=by
 intro aa s σ H v u Q I r h;rw[ha];refine A_<|bT<|thn (w aa s σ H _ I h) λb k D=>Db D λx p C l A=>?_;refine A_<|bT<|thn (J aa k σ p _ C A) λc G z=>Db z λy g q B j=>?_;refine A_<|wpAny_standAt<|A_<|bT<|thn (hs aa G σ g x y v b c u _ q l B r j) λ_ L ⟨n,m,F⟩=>?_;exact wpAny_release ⟨σ,n,m,F⟩
def EZ(te:TE)(g:TG):TS:=λD σ H=>te σ H λx b=>g x σ b D.nx
def KW{tg e:lL}{te:TE}{g:TG}(he:PE X e te)(i:PG X tg g)(hs:swapsWithSole [tg] e pos.line X.env=pure false:=by rfl)(k:swappedStores [tg] e X.env=pure none:=by rfl)
  (h1:(assignEach [tg] X.env).map (·.2)=[assign tg X.env]:=by rfl):PS X (.Assign [tg] e pos) (EZ te g):=by
 intro aa s σ H D I h;refine wpAny_Assign_stores (thn (he aa s σ H _ I h) λv f d=>Db d λx l c j b=>?_) hs k;rw[h1];exact thn (i aa f σ l x v _ c j b) λ_ m q=>q
def KY{i:Nat}{x:Str}{e:lL}{te:TE}{b:Pos}(l:X.N.Nodup)(f:X.N[i]?=some x)(hx:Loc X.env.scope x)(he:PE X e te)(hs:swapsWith e (some<|.Name x b) pos.line X.env=pure false:=by rfl)(d:X.fn x=true\/X.env.scope.names.lookup x=some .local:=by first|exact .inl rfl|exact .inr rfl|assumption) :
  PS X (.Assign [.Name x b] e pos) (EZ te<|Yj i):=by
 intro aa s σ H D I h;refine wpAny_Assign_Name (thn (he aa s σ H _ I h) λv o m=>Db m λy k g j c=>?_) hs;exact Pj g l f hx j (λp n=>⟨_,k,n,c⟩) d
def KZ(c:TT)(tb:TS):TS:=λD σ H=>∃W:Nat->St->Hp->Prop,(∃m,W m σ H)/\∀m σ H,W m σ H ->
 c σ H λb g=>if b=true then ∃N:St->Hp->Prop,(∀ d f,N d f->∃h,h<m/\W h d f)/\tb {D with nx:=N,ct:=N,bk:=D.nx} σ g else D.nx σ g
def Ym{c:lL}{i:oA lP}{C:TT}{tb:TS}(hp:PassesOwn (model X.prog X.w) X.A X.env X.xe)(hc:PT X c C)(hb:PSs X i tb):PS X (.While c i [] pos) (KZ C tb):=by
 intro aa s σ H D I h;obtain⟨W,⟨P,Q⟩,L⟩:=h;refine wpAny_While<|codeAny_whileLoop (λn R=>∃ j F,Inv X aa j F R/\W n j F) ?_ P ⟨σ,H,I,Q⟩;rintro n J ⟨g,z,O,M⟩;refine fG hp<|thn (hc aa J g z _ O<|L n g z M) λb S ⟨y,B,l⟩=>?_;cases b with
 |true=>
  obtain⟨N,G,l⟩:=l;rw[T_ rfl];refine fG hp<|thn (hb aa S g y _ B l) λf T m=>?_;cases f with
  |next=>obtain⟨d,k,p,o⟩:=m;obtain⟨r,x,q⟩:=G d k o;exact⟨r,x,d,k,p,q⟩
  |cont=>obtain⟨d,k,p,o⟩:=m;obtain⟨r,x,q⟩:=G d k o;exact⟨r,x,d,k,p,q⟩
  |brk=>exact m
  |ret v=>exact m
 |false=>rw[M_ Q_];exact iC ⟨g,y,B,l⟩
structure It where
 go:Nat->Hp->Prop
 yld:Nat->Hp->V->Hp->Prop
 stop:Nat->Hp->Prop
def Hm(X:Cx)(aa:oA<|lH×lO)(H:Hp)(b:lH):Prop :=
 H b=none/\b≠X.env.locals/\b∉X.fs/\(b∈X.ex\/X.s₀.heap.objs.size<=b)/\(∀x c,X.env.cells.lookup x=some c->c≠b)/\∀p∈X.pn++aa,p.1≠b
def Inv.fpOk{X:Cx}{aa:oA<|lH×lO}{σ:St}{H H':Hp}{s:lF}{b:lH}(I:Inv X aa σ H s)(hb:s.heap.objs.size<=b)(d:H' b=none):Hm X aa H' b:=by refine⟨d,gX<|V_ I.lt hb,I.nofs hb,.inr<|R_ I.sz hb,λx c e z=>?_,λp hp z=>?_⟩;obtain⟨v,q⟩:=I.cell x c e;exact absurd (V_ q.lt<|by rw[z];exact hb)<|dD _;exact absurd (V_ (S_ (I.pin p hp).1)<|by rw[z];exact hb)<|dD _
structure Turn(P:lJ)(w:lK)(K:lI)(tg:lL)(J:It)(fp:oA lH)(it:lH)(tn:Nat->lN->Prop):Prop where
 mem:it∈fp
 obj:∀i h,tn i h->∀b∈fp,∃o,h.get? b=some o/\∀v,o.data≠.cell v
 keep:∀i h h',tn i h->(∀b∈fp,∀o,h.get? b=some o->h'.get? b=some o)->tn i h'
 item:∀(X:Cx),X.prog=P->X.w=w->X.K=K->X.calm=true->∀(i:Nat) (aa:oA<|lH×lO) (s:lF) (σ:St) (H:Hp) (E:lE->lF->Prop),Inv X aa σ H s->(∀b∈fp,Hm X aa H b)->tn i s.heap->J.go i H ->
  qQ P w X.A (pyNext<|.ref it) (λr s1=>∃u,r=some u /\
   qQ P w X.A (letOwnedTupleGo tg (.ref it) u) (λ_ s2=>∃x H',Inv X aa σ H' s2/\Bk x u/\J.yld i H x H'/\tn (i+1) s2.heap/\∀b∈fp,H' b=none) E s1) E s
 done:∀(X:Cx),X.prog=P->X.w=w->X.K=K->X.calm=true->∀(i:Nat) (aa:oA<|lH×lO) (s:lF) (σ:St) (H:Hp) (E:lE->lF->Prop),Inv X aa σ H s->(∀b∈fp,Hm X aa H b)->tn i s.heap->J.stop i H ->
  qQ P w X.A (pyNext<|.ref it) (λr s1=>r=none/\Inv X aa σ H s1) E s
 self:∀(A:lM) (i:Nat) (s:lF) (Q:lE->lF->Prop) (E:lE->lF->Prop),tn i s.heap->Q (.ref it) s->qQ P w A (pyIter<|.ref it) Q E s
abbrev TI:=St->Hp->(It->Hp->Prop)->Prop
def PIE(X:Cx)(aa:oA<|lH×lO)(σ:St)(tg:lL)(R:It->Hp->Prop)(f:lE)(c:lF):Prop :=
 ∃(d:lH) (fp:oA lH) (tn:Nat->lN->Prop) (J:It) (H':Hp),f=.ref d/\Inv X aa σ H' c/\Turn X.prog X.w X.K tg J fp d tn/\tn 0 c.heap/\(∀b∈fp,Hm X aa H' b)/\R J H'
def PI(X:Cx)(tg iter:lL)(c:TI):Prop :=
 ∀(aa:oA<|lH×lO) (s:lF) (σ:St) (H:Hp) (R:It->Hp->Prop),Inv X aa σ H s->c σ H R ->
  qQ X.prog X.w X.A (eval iter X.env) (λv b=>qQ X.prog X.w X.A (pyIter v) (PIE X aa σ tg R) X.xe b) X.xe s
def Pl{M:Model}{A:lM}{E:lE->lF->Prop}{s:lF}{tg:lL}{c:lH}{u:lE}{o:lO}{n:String}{d:oC lE}{Q:Unit->lF->Prop}(f:s.heap.get? c=some o)(hc:o.cls=.type n)(i:o.data=.fields d)
  (g:["enumerate","zip","dict_itemiterator","dict_reverseitemiterator","odict_iterator","itertools.zip_longest","itertools.pairwise"].contains n=false) (b:Q () s):wpAny M A (letOwnedTupleGo tg (.ref c) u) Q E s:=by
 unfold letOwnedTupleGo;cases tg<;>first
  |exact C_ b
  | (cases u<;>first
    |exact C_ b
    | (refine A_ (wpAny_load f ?_)
       rw [hc, i];show wpAny M A (if (["enumerate", "zip", "dict_itemiterator", "dict_reverseitemiterator", "odict_iterator", "itertools.zip_longest", "itertools.pairwise"].contains n&&d[0]? == some (rawInt _)) = true then _ else _) Q E s;rw [M_<|by intro h; rw [g, Bool.false_and] at h; cases h];exact C_ b))
def Itl(K:lI)(a:lH):It :=
 ⟨λi H=>∃xs x,Fu K H a xs/\xs[i]?=some x,λi H x b=>b=H/\∀xs,Fu K H a xs->xs[i]?=some x,λi H=>∃xs,Fu K H a xs/\xs.length<=i⟩
def Itt(K:lI)(a:lH):It :=
 ⟨λi H=>∃xs x,Ja K H a xs/\xs[i]?=some x,λi H x b=>b=H/\∀xs,Ja K H a xs->xs[i]?=some x,λi H=>∃xs,Ja K H a xs/\xs.length<=i⟩
def Itr(lo:Int)(n:Nat):It:=⟨λi _=>i<n,λi H x b=>b=H/\x=.int (lo+i),λi _=>n<=i⟩
def V6{P:lJ}{w:lK}{K:lI}{tg:lL}(a f:lH):Turn P w K tg (Itl K a) [f] f (λi h=>h.IsListIter f a i) where
 mem:=by simp
 obj:=λi h st b hb=>by
  have e:b=f:=by simpa using hb
  subst e;obtain⟨o,e,c,d⟩:=st;exact⟨o,e,λv z=>by rw[d]at z;cases z⟩
 keep:=λi h g st k=>st.at λo e=>k f (by simp) o e
 item:=by intro X q y A hc i aa s σ H E I j st r;subst q y A;obtain⟨xs,x,hq,hx⟩:=r;obtain⟨J,n,p,hz⟩:=I.list hq;obtain⟨u,hu,N⟩:=n.get hx;obtain⟨B,C,G,l,D,m⟩:=j f (by simp);refine wpAny_pyNext_list_item st p.isList (x:=u) (by simpa using hu) λg F O=>?_;have L:Inv X aa σ H {s with heap:=g}:=I.turned (t':=s.toks) (λb o hb e=>(O.2 b hb).trans e) B C l D m;obtain⟨o,e,c,d⟩:=id F;exact⟨u,rfl,Pl (s:={s with heap:=g}) e c d (by decide) ⟨x,H,L,N,⟨rfl,λys hy=>by rw[I.list_inj hy hq];exact hx⟩,F,λb hb=>(j b hb).1⟩⟩
 done:=by intro X q y A hc i aa s σ H E I j st r;subst q y A;obtain⟨xs,hq,hx⟩:=r;obtain⟨J,n,p,hz⟩:=I.list hq;obtain⟨B,C,G,l,D,m⟩:=j f (by simp);have Q:=n.length;exact wpAny_pyNext_list_end (I.ok.hd hc) st p.isList (by simp;omega) λg M=>⟨rfl,I.turned (t':=s.toks) (λb o hb e=>M b o hb e) B C l D m⟩
 self:=λ_ _ _ _ _ st h=>wpAny_pyIter_listiter st h
def Rx{P:lJ}{w:lK}{K:lI}{tg:lL}(a f:lH):Turn P w K tg (Itt K a) [f] f (λi h=>h.IsTupleIter f a i) where
 mem:=by simp
 obj:=λi h st b hb=>by
  have e:b=f:=by simpa using hb
  subst e;obtain⟨o,e,c,d⟩:=st;exact⟨o,e,λv z=>by rw[d]at z;cases z⟩
 keep:=λi h g st k=>st.at λo e=>k f (by simp) o e
 item:=by intro X r A B hc i aa s σ H E I j st y;subst r A B;obtain⟨xs,x,hq,hx⟩:=y;obtain⟨m,q,p,hz⟩:=I.tuple hq;obtain⟨u,hu,N⟩:=q.get hx;obtain⟨C,D,J,l,F,n⟩:=j f (by simp);refine wpAny_pyNext_tuple_item st (show s.heap.IsTuple a m.toArray from p) (x:=u) (by simpa using hu) λg G O=>?_;have L:Inv X aa σ H {s with heap:=g}:=I.turned (t':=s.toks) (λb o hb e=>(O.2 b hb).trans e) C D l F n;obtain⟨o,e,c,d⟩:=id G;exact⟨u,rfl,Pl (s:={s with heap:=g}) e c d (by decide) ⟨x,H,L,N,⟨rfl,λys hy=>by rw[I.tuple_inj hy hq];exact hx⟩,G,λb hb=>(j b hb).1⟩⟩
 done:=by intro X r A B hc i aa s σ H E I j st y;subst r A B;obtain⟨xs,hq,hx⟩:=y;obtain⟨m,q,p,hz⟩:=I.tuple hq;obtain⟨C,D,J,l,F,n⟩:=j f (by simp);have Q:=q.length;exact wpAny_pyNext_tuple_end (I.ok.hd hc) st (show s.heap.IsTuple a m.toArray from p) (by simp;omega) λg M=>⟨rfl,I.turned (t':=s.toks) (λb o hb e=>M b o hb e) C D l F n⟩
 self:=λ_ _ _ _ _ st h=>wpAny_pyIter_tupleiter st h
def Ry{P:lJ}{w:lK}{K:lI}{tg:lL}(c:lH)(lo:Int)(n:Nat):Turn P w K tg (Itr lo n) [c] c (λi h=>IsRangeIter h c (lo+(i:Nat)*1) ((n:Int)-(i:Nat)) 1) where
 mem:=by simp
 obj:=λi h st b hb=>by
  have e:b=c:=by simpa using hb
  subst e;exact⟨_,st,λv z=>by
   have D:Data.fields _=Data.cell v:=z;cases D⟩
 keep:=λi h d st k=>k c (by simp) _ st
 item:=by intro X l p q hc i aa s σ H E I f st m;subst l p q;obtain⟨r,y,C,g,x,j⟩:=f c (by simp);have W:=Walks.range (prog:=X.prog) (w:=X.w) (I.ok.hd hc) c lo 1 n;refine W.item i s _ _ m st λv d A hv B J=>?_;obtain⟨t,rfl⟩:=hv;have F:Inv X aa σ H {s with heap:=d,toks:=A}:=I.turned (λb o hb e=>J b o (by simpa using hb) e) r y g x j;refine⟨_,rfl,Pl (s:={s with heap:=d,toks:=A}) (n := "range_iterator") B rfl rfl (by decide) ⟨.int<|lo+i,H,F,⟨t,?_⟩,⟨rfl,rfl⟩,B,λb hb=>(f b hb).1⟩⟩;rw[Int.mul_one]
 done:=by intro X l p q hc i aa s σ H E I f st m;subst l p q;obtain⟨r,y,C,g,x,j⟩:=f c (by simp);exact wpAny_pyNext_range_end (I.ok.hd hc) st (by have:n<=i:=m;omega) λd G=>⟨rfl,I.turned (t':=s.toks) (λb o hb e=>G b o hb e) r y g x j⟩
 self:=λ_ _ _ _ _ st h=>wpAny_pyIter_rangeiter st h
def Yn{aa:oA<|lH×lO}{σ:St}{H:Hp}{s:lF}{R:It->Hp->Prop}{E:lE->lF->Prop}{lo c:Int}{t u v:Tok}{tk:Nat}(I:Inv X aa σ H s)(h1:-(2^62)<=lo)(h2:lo<2^62)(h:-(2^62)<=c)(g:c<2^62)
  (q:R (Itr lo (c-lo).toNat) H):qQ X.prog X.w X.A (pyIter<|.ref s.heap.objs.size) (PIE X aa σ tg R) E {s with heap:=s.heap.push {cls:=.type "range",data:=.fields #[.int lo t,.int c u,.int 1 v]},toks:=tk}:=by
 refine wpAny_pyIter_range (IsRange.new ..) (small_one h1 h2 h g) ?_;have d:Inv X aa σ H {s with heap:=s.heap.push {cls:=.type "range",data:=.fields #[.int lo t,.int c u,.int 1 v]},toks:=tk}:=I.kept λb o e=>D_ _ e;refine⟨(s.heap.push {cls:=.type "range",data:=.fields #[.int lo t,.int c u,.int 1 v]}).objs.size,[(s.heap.push {cls:=.type "range",data:=.fields #[.int lo t,.int c u,.int 1 v]}).objs.size],_,_,H,rfl,
  d.kept (t':=tk) λb o e=>D_ _ e,Ry _ lo (c-lo).toNat,?_,λb hb=>?_,q⟩
 have i:lo+((0:Nat):Int)*1=lo:=by simp
 have f:(((c-lo).toNat:Nat):Int)-((0:Nat):Int)=Builtin.Range.rangeSize lo c 1:=by rw[rangeSize_one];split<;>omega
 show IsRangeIter _ _ (lo+((0:Nat):Int)*1) ((((c-lo).toNat:Nat):Int)-((0:Nat):Int)) 1;rw[i,f];exact K_ _ rfl;have e:b=(s.heap.push {cls:=.type "range",data:=.fields #[.int lo t,.int c u,.int 1 v]}).objs.size:=by simpa using hb
 subst e;exact d.fpOk (J_ _)<|d.hok.fresh<|J_ _
def RF(b:TA):TI:=λσ H R=>b σ H λd c=>∃j:Int,d=[.int j]/\-(2^62)<=j/\j<2^62/\R (Itr 0 j.toNat) c
def V7{a:lL}{c:TA}{p pos:Pos}(g:Gl X "range") (m:X.mg "range" = none) (ha:PA X [a] c) (hs:starEach [a] X.env=[(false,eval a X.env)]:=by rfl):PI X tg (.Call (.Name "range" p) [a] [] pos) (RF c):=by
 intro aa s σ H R I h;refine Call_<|Hl I g m boot_range<|dM (thn (ha pos aa s σ H _ I h) λn o l=>Db l λw v d i b=>?_) hs rfl;obtain⟨j,e,b,f,q⟩:=b;subst e;cases i with
 |cons r k=>cases k;obtain⟨t,rfl⟩:=r;exact call_range_1<|Yn d (by omega) (by omega) b f<|by simpa using q
def ZT(j:TI)(g:TG)(tb:TS):TS:=λD σ H=>j σ H λJ k=>∃W:Nat->Nat->St->Hp->Prop,(∃m,W 0 m σ k)/\∀i m σ H,W i m σ H ->
 (J.stop i H/\D.nx σ H)\/(J.go i H/\∃N:St->Hp->Prop,(∀ c b,N c b->∃f,f<m/\W (i+1) f c b)/\∀x b,J.yld i H x b->g x σ b λd h=>tb {D with nx:=N,ct:=N,bk:=D.nx} d h)
def Kx(fp:oA lH)(h:lN):oA (lH×lO):=fp.filterMap λb=>(h.get? b).map λo=>(b,o)
def Fg{fp:oA lH}{h:lN}{b:lH}{o:lO}(hb:b∈fp)(e:h.get? b=some o):(b,o)∈Kx fp h:=kH.mpr ⟨b,hb,by rw[e];rfl⟩
def V8{fp:oA lH}{h:lN}{p:lH×lO}(hp:p∈Kx fp h):p.1∈fp/\h.get? p.1=some p.2:=by
 obtain⟨b,hb,e⟩:=kH.mp hp;cases q:h.get? b with
 |none=>rw[q]at e;cases e
 |some o=>rw[q]at e;have c:(b,o)=p:=aX e;subst c;exact⟨hb,q⟩
def Inv.pinned{aa:oA<|lH×lO}{σ:St}{H:Hp}{s:lF}{fp:oA lH}(I:Inv X aa σ H s)(f:∀b∈fp,Hm X aa H b)(i:∀b∈fp,∃o,s.heap.get? b=some o/\∀v,o.data≠.cell v):Inv X (aa++Kx fp s.heap) σ H s :=
 I.pins_of λp hp=>(P_.mp hp).elim (λz=>I.pin p<|aU _ z) λz=>by obtain⟨hb,e⟩:=V8 z;obtain⟨h,j,g,_⟩:=f p.1 hb;obtain⟨o,c,d⟩:=i p.1 hb;rw[e]at c;cases c;exact⟨e,h,j,g,d⟩
def Inv.unpinned{aa pl:oA<|lH×lO}{σ:St}{H:Hp}{s:lF}(I:Inv X (aa++pl) σ H s):Inv X aa σ H s:=I.pins_of λp hp=>I.pin p<|aU _<|aH _ hp
def Yo{iter:lL}{y:oA lP}{S:TI}{g:TG}{tb:TS}{pos:Pos}(hp:PassesOwn (model X.prog X.w) X.A X.env X.xe)(hc:X.calm=true)(hi:PI X tg iter S)(hg:PG X tg g)(hb:PSs X y tb)
  (hs:∀x,foldedSetIterable iter X.env x=pure x:=by intro _;rfl):PS X (.For tg iter y [] pos) (ZT S g tb):=by
 intro aa s σ H D I h;refine wpAny_For (thn (hi aa s σ H _ I h) λv s1 h1=>thn h1 λve s2 h2=>?_) hs;obtain⟨it,F,U,J,H2,e,I2,T,ji,Z,W,⟨m0,w0⟩,f9⟩:=h2;subst e;have R:∀{H':Hp},(∀b∈F,H' b=none)->∀b∈F,Hm X aa H' b:=λhn b hb=>⟨hn b hb,(Z b hb).2⟩;refine codeAny_forLoop_any (λn s'=>∃i p H',Inv X aa p H' s'/\U i s'.heap/\(∀b∈F,H' b=none)/\W i n p H') ?_ m0 ⟨0,σ,H2,I2,ji,λb hb=>(Z b hb).1,w0⟩;rintro n s3 ⟨i,l,L,I3,G,C,w3⟩;rcases f9 i n l L w3 with⟨stop,qn⟩|⟨go,N,hN,step⟩;refine fG hp<|thn (T.done X rfl rfl rfl hc i aa s3 l L X.xe I3 (R C) G stop) λr s4 ⟨hr,I4⟩=>?_;subst hr;exact iC ⟨l,L,I4,qn⟩
 ·refine fG hp<|thn (T.item X rfl rfl rfl hc i aa s3 l L X.xe I3 (R C) G go) λr s4 ⟨u,hr,h4⟩=>?_;subst hr;refine fG hp<|thn h4 λ_ s5 tm=>?_;obtain⟨x,Y,I5,r5,y5,z,O⟩:=tm;have Q:=I5.pinned (R O)<|T.obj _ _ z;refine fG hp<|thn (hg _ s5 l Y x u _ Q r5<|step x Y y5) λ_ s6 ul=>?_;obtain⟨P,H6,I6,q6⟩:=ul;refine fG hp<|thn (hb _ s6 P H6 _ I6 q6) λf M q=>?_;have again:∀{c:St} {j:Hp},Inv X (aa++Kx F s5.heap) c j M->N c j->∃m,m<n/\∃i p H',Inv X aa p H' M/\U i M.heap/\(∀b∈F,H' b=none)/\W i m p H':=λ{c j} k B=>by
   obtain⟨m',hm,w7⟩:=hN c j B;refine⟨m',hm,i+1,c,j,k.unpinned,T.keep _ _ _ z λb hb o e=>(k.pin (b,o)<|aU _<|aU _<|Fg hb e).1,λb hb=>?_,w7⟩;obtain⟨o,e,d⟩:=T.obj _ _ z b hb;exact(k.pin (b,o)<|aU _<|aU _<|Fg hb e).2.1
  cases f with
  |next=>obtain⟨c,j,k,B⟩:=q;exact again k B
  |cont=>obtain⟨c,j,k,B⟩:=q;exact again k B
  |brk=>obtain⟨c,j,k,q⟩:=q;exact⟨c,j,k.unpinned,q⟩
  |ret v=>obtain⟨x7,c,j,k,r7,q⟩:=q;exact⟨x7,c,j,k.unpinned,r7,q⟩
end
abbrev R2:=V->V->Hp->VK->Prop
def Ib(X:Cx)(f:lE->lE->Sem lE)(r:R2):Prop :=
 ∀(b:oA<|lH×lO) (s:lF) (a:St) (H:Hp) (x y:V) (v u:lE) (Q:VK),Inv X b a H s->Bk x v->Bk y u->r x y H Q ->
  qQ X.prog X.w X.A (f v u) (EP X b a Q) X.xe s
def ZU(X:Cx)(f:lE->Sem lE)(r:V->Hp->VK->Prop):Prop :=
 ∀(b:oA<|lH×lO) (s:lF) (a:St) (H:Hp) (x:V) (v:lE) (Q:VK),Inv X b a H s->Bk x v->r x H Q ->
  qQ X.prog X.w X.A (f v) (EP X b a Q) X.xe s
def F7(X:Cx)(f:lE)(r:oA V->Hp->VK->Prop):Prop :=
 ∀(c:oA<|lH×lO) (s:lF) (b:St) (H:Hp) (xs:oA V) (a:oA lE) (Q:VK),Inv X c b H s->Vals xs a->r xs H Q ->
  qQ X.prog X.w X.A (call f a) (EP X c b Q) X.xe s
def RG(r:R2)(b tb:TE):TE:=λa H Q=>b a H λx d=>tb a d λy c=>r x y c Q
def tUn(r:V->Hp->VK->Prop)(b:TE):TE:=λa H Q=>b a H λx c=>r x c Q
def rI(C:Int->Int->Prop)(g:Int->Int->V):R2:=λx y H Q=>∃i j,x=.int i/\y=.int j/\C i j/\Q (g i j) H
def Yp(g:Int->Int->V):R2:=λx y H Q=>∃i j,x=.int i/\y=.int j/\Q (g i j) H
def rU(g:Int->V):V->Hp->VK->Prop:=λx H Q=>∃i,x=.int i/\Q (g i) H
section
variable {X:Cx}{a b c:lL}{ta tb tc:TE}{pos:Pos}{e:lL}{es:oA lL}{te:TE}{t:TA}{aa:oA<|lH×lO}{σ:St}{H:Hp}{s s':lF}{CX:CXT}{k:Nat}{f C:lH}{fd:lQ}{ps:oA Str}{sp:Sp}{k8:oA V}{ds:oA lE}{E:XK}{x m:Str}{p ao:Pos}{o:lL}{id T:String}{r:oA V->Hp->VK->Prop}
def LD(ha:PE X a ta)(hb:PE X b tb){aa:oA<|lH×lO}{s:lF}{σ:St}{H:Hp}{R:V->V->Hp->Prop}(I:Inv X aa σ H s)
  (h:ta σ H λx l=>tb σ l λy d=>R x y d) {Q:lE->lF->Prop} {f:lE->lE->Sem lE}
  (q:∀v u j x y d,Inv X aa σ d j->Bk x v->Bk y u->R x y d->qQ X.prog X.w X.A (f v u) Q X.xe j) :
  qQ X.prog X.w X.A (eval a X.env) (λv g=>qQ X.prog X.w X.A (eval b X.env) (λu i=>qQ X.prog X.w X.A (f v u) Q X.xe i) X.xe g) X.xe s:=by
 refine thn (ha aa s σ H _ I h) λv G L=>Db L λx l z J n=>?_;refine thn (hb aa G σ l _ z n) λu j B=>Db B λy d M D F=>?_;exact q v u j x y d M J D F
def RH{d:Operator}{r:R2}(n:Ib X (binaryOp d) r)(ha:PE X a ta)(hb:PE X b tb):PE X (.BinOp a d b pos) (RG r ta tb):=by intro aa s σ H Q I h;exact wpAny_BinOp<|LD ha hb I h λv u w x y g l i j q=>n aa w σ g x y v u Q l i j q
def RI{d:UnaryOp}{r:V->Hp->VK->Prop}(q:ZU X (unaryOp d) r)(ha:PE X a ta):PE X (.UnaryOp d a pos) (tUn r ta):=by intro aa s σ H Q I h;exact UnaryOp_<|thn (ha aa s σ H _ I h) λv j u=>Db u λx n i l g=>q aa j σ n x v Q i l g
def QM{f:lE->lE->Sem lE}{C:Int->Int->Prop}{g:Int->Int->Int}
  (rule:∀(i j:Int) (t u:Tok) (s:lF) (Q:lE->lF->Prop) (E:lE->lF->Prop),C i j->Q (.int (g i j) s.toks) {s with toks:=s.toks+1}->qQ X.prog X.w X.A (f (.int i t)<|.int j u) Q E s) :
  Ib X f (rI C λi j=>.int<|g i j):=by
 intro aa s σ H x y v u Q I l n h;obtain⟨i,j,rfl,rfl,hc,q⟩:=h;obtain⟨t,rfl⟩:=l;obtain⟨d,rfl⟩:=n;exact rule i j t d s _ _ hc ⟨.int<|g i j,H,I.tok _,⟨_,rfl⟩,q⟩
def FA{f:lE->lE->Sem lE}{g:Int->Int->Int}
  (rule:∀(i j:Int) (t u:Tok) (s:lF) (Q:lE->lF->Prop) (E:lE->lF->Prop),Q (.int (g i j) s.toks) {s with toks:=s.toks+1}->qQ X.prog X.w X.A (f (.int i t)<|.int j u) Q E s) :
  Ib X f (Yp λi j=>.int<|g i j):=by
 intro aa s σ H x y v u Q I d l h;obtain⟨i,j,rfl,rfl,q⟩:=h;obtain⟨t,rfl⟩:=d;obtain⟨n,rfl⟩:=l;exact rule i j t n s _ _ ⟨.int<|g i j,H,I.tok _,⟨_,rfl⟩,q⟩
def FB{f:lE->lE->Sem lE}{g:Int->Int->Bool}
  (rule:∀(i j:Int) (t u:Tok) (s:lF) (Q:lE->lF->Prop) (E:lE->lF->Prop),Q (.bool<|g i j) s->qQ X.prog X.w X.A (f (.int i t)<|.int j u) Q E s) :
  Ib X f (Yp λi j=>.bl<|g i j):=by
 intro aa s σ H x y v u Q I d l h;obtain⟨i,j,rfl,rfl,q⟩:=h;obtain⟨t,rfl⟩:=d;obtain⟨n,rfl⟩:=l;exact rule i j t n s _ _ ⟨.bl<|g i j,H,I,rfl,q⟩
def CDiv(i j:Int):Prop:=0<j/\j<1073741824
def CPow(i j:Int):Prop:=0<=j/\j<=1000000/\i.natAbs<2^64
def CMul(i j:Int):Prop:=(-(2^64)<i/\i<2^64)\/(-(2^64)<j/\j<2^64)
def CMul.ok{i j:Int}(h:CMul i j):IntMulOk i j:=by rcases h with⟨h1,h2⟩|⟨h1,h2⟩;exact .of_left<|intBits_le_64 h1 h2;exact .of_right<|intBits_le_64 h1 h2
def Rz(k:Nat):(0:Int)<=2^k:=by rw[two_pow_cast];exact gD _
def LF:Ib X (binaryOp .Add) (Yp λi j=>.int<|i+j):=FA λ_ _ _ _ _ _ _ q=>add_int q
def LG:Ib X (binaryOp .Sub) (Yp λi j=>.int<|i-j):=FA λ_ _ _ _ _ _ _ q=>sub_int q
def LH:Ib X (binaryOp .Mult) (rI CMul λi j=>.int<|i*j):=QM λ_ _ _ _ _ _ _ hc q=>mul_int q hc.ok
def FC:Ib X (binaryOp .FloorDiv) (rI CDiv λi j=>.int<|i / j):=QM λi j _ _ _ _ _ hc q=>by have h1:(0:Int)<j:=hc.1;have h2:j<1073741824:=hc.2;exact floordiv_int (by omega) (by rw[Int.fdiv_eq_ediv_of_nonneg i<|by omega];exact q)<|.inl<|PyProof.noPylong_small<|by omega
def LI:Ib X (binaryOp .Mod) (rI (λ_ j=>0<j) λi j=>.int<|i%j):=QM λi j _ _ _ _ _ hc q=>by have h1:(0:Int)<j:=hc;exact mod_int' (by omega)<|by rw[Int.fmod_eq_emod_of_nonneg i<|by omega];exact q
def LJ:Ib X (binaryOp .Pow) (rI CPow λi j=>.int<|i^j.toNat):=QM λ_ _ _ _ _ _ _ hc q=>pow_int_small hc.1 hc.2.1 hc.2.2 q
def LK:Ib X (binaryOp .LShift) (rI CPow λi j=>.int<|i*2^j.toNat):=QM λ_ _ _ _ _ _ _ hc q=>lshift_int_small hc.1 hc.2.1 hc.2.2 q
def LL:Ib X (binaryOp .RShift) (rI (λ_ j=>0<=j) λi j=>.int<|i / 2^j.toNat):=QM λi j _ _ _ _ _ hc q=>
 rshift_int hc (by rw[Int.fdiv_eq_ediv_of_nonneg i<|Rz _];exact q)
def LM:Ib X (binaryOp .BitAnd) (Yp λi j=>.int<|Builtin.bitAnd i j):=FA λ_ _ _ _ _ _ _ q=>and_int q
def RJ:Ib X (binaryOp .BitOr) (Yp λi j=>.int<|Builtin.bitOr i j):=FA λ_ _ _ _ _ _ _ q=>or_int q
def unI{f:lE->Sem lE}{g:Int->Int}
  (rule:∀(i:Int) (t:Tok) (s:lF) (Q:lE->lF->Prop) (E:lE->lF->Prop),Q (.int (g i) s.toks) {s with toks:=s.toks+1}->qQ X.prog X.w X.A (f<|.int i t) Q E s) :
  ZU X f (rU λi=>.int<|g i):=by
 intro aa s σ H x v Q I d h;obtain⟨i,rfl,q⟩:=h;obtain⟨t,rfl⟩:=d;exact rule i t s _ _ ⟨.int<|g i,H,I.tok _,⟨_,rfl⟩,q⟩
def LN:ZU X (unaryOp .USub) (rU λi=>.int<|-i):=unI λ_ _ _ _ _ q=>neg_int q
def Yq{aa:oA<|lH×lO}{σ:St}{H:Hp}{s:lF}{Q:VK}{k d:Bool}(I:Inv X aa σ H s)(q:Q (.bl k) H)(e:k=d):EP X aa σ Q (.bool d) s:=by subst e;exact⟨.bl k,H,I,rfl,q⟩
def RK:Ib X (compareOp .Lt) (Yp λi j=>.bl<|decide (i<j)):=FB λ_ _ _ _ _ _ _ q=>lt_int q
def RL:Ib X (compareOp .LtE) (Yp λi j=>.bl<|decide (i<=j)):=FB λ_ _ _ _ _ _ _ q=>le_int q
def RM:Ib X (compareOp .Gt) (Yp λi j=>.bl<|decide (j<i)):=FB λ_ _ _ _ _ _ _ q=>gt_int q
def RN:Ib X (compareOp .GtE) (Yp λi j=>.bl<|decide (j<=i)):=FB λ_ _ _ _ _ _ _ q=>ge_int q
def V9:Ib X (compareOp .In) (λx y H Q=>∃i j,x=.str i/\y=.str j/\Q (.bl<|!(Builtin.Str.occurrences j i 0 j.length 1).isEmpty) H):=by intro aa s σ H x y v u Q I d g h;obtain⟨i,j,rfl,rfl,q⟩:=h;obtain⟨t,rfl⟩:=d;obtain⟨l,rfl⟩:=g;exact in_str<|Yq I q rfl
def Yr:Ib X (compareOp .Is) (λx y H Q=>y=.non/\Q (.bl<|decide (x=.non)) H):=by
 intro aa s σ H x y v u Q I d g h;obtain⟨rfl,q⟩:=h;cases g;refine is_none_gen<|Yq I q ?_;cases x<;>first
  | (cases d;rfl)
  | (obtain⟨t,rfl⟩:=d;rfl)
def nomark(b:lL){d:CmpOp}(h:d≠.In:=by decide)(h2:d≠.NotIn:=by decide):behindInMarks d b=false:=by
 have i:(d==CmpOp.In)=false:=by cases d<;>first|rfl|exact absurd rfl h
 have g:(d==CmpOp.NotIn)=false:=by cases d<;>first|rfl|exact absurd rfl h2
 cases b<;>simp[behindInMarks,i,g]
def FD{d:CmpOp}{r:R2}(n:Ib X (compareOp d) r)(ha:PE X a ta)(hb:PE X b tb)(z:behindInMarks d b=false):PE X (.Compare a [d] [b] pos) (RG r ta tb):=by intro aa s σ H Q I h;exact wpAny_Compare1 (LD ha hb I h λv u w x y g l i j q=>n aa w σ g x y v u Q l i j q) z
def IW(t:TE):TT:=λσ H Q=>t σ H λx d=>∃k,x=.bl k/\Q k d
def FE{d:CmpOp}{r:R2}(F:Ib X (compareOp d) r)(ha:PE X a ta)(hb:PE X b tb)(P:behindInMarks d b=false):PT X (.Compare a [d] [b] pos) (IW<|RG r ta tb):=by
 intro aa s σ H Q I h;refine wpAny_isTrue_Compare1 (thn (ha aa s σ H _ I h) λv j B=>Db B λx w L l G=>thn (hb aa j σ w _ L G) λu N O=>Db O λy g D J i=>
  thn (F aa N σ g x y v u _ D l J i) λc R ⟨z,q,n,A,k,e,M⟩=>?_) P
 subst e;cases A;exact fJ ⟨q,n,M⟩
def Je:(sizeLine:Nat)<2^63:=by rw[sizeLine_eq];decide
def R0:Ib X (binaryOp .Add) (λx y H Q=>∃i j,x=.str i/\y=.str j/\i.length+j.length<=sizeLine/\Q (.str<|i++j) H):=by intro aa s σ H x y v u Q I d g h;obtain⟨i,j,rfl,rfl,hz,q⟩:=h;obtain⟨t,rfl⟩:=d;obtain⟨l,rfl⟩:=g;exact add_str (λl n=>⟨.str<|i++j,H,I.tok _,⟨_,rfl⟩,q⟩) hz
def F8{x:V}{d:oA lE}(r:Vals [x] d):∃u,d=[u]/\Bk x u:=by
 cases r with
 |cons h g=>cases g;exact⟨_,rfl,h⟩
def RO{x y:V}{d:oA lE}(r:Vals [x,y] d):∃u g,d=[u,g]/\Bk x u/\Bk y g:=by
 cases r with
 |cons i h=>
  cases h with
  |cons l j=>cases j;exact⟨_,_,rfl,i,l⟩
def Wa(hc:X.calm=true):F7 X (.builtin "max") (λd H Q=>∃i j,d=[.int i,.int j]/\Q (.int<|if j>i then j else i) H):=by intro aa s σ H d n Q I r h;obtain⟨i,j,rfl,q⟩:=h;obtain⟨u,w,rfl,⟨t,rfl⟩,⟨g,rfl⟩⟩:=RO r;refine max_two_ints (I.ok.hd hc) λl v k=>⟨_,H,I.kept k,?_,q⟩;by_cases hj:j>i;rw[T_ hj,T_ hj];exact⟨_,rfl⟩;rw[M_ hj,M_ hj];exact⟨_,rfl⟩
def Jd.some_of{v:V}{o:oB lE}(r:Jd (some v) o):∃u,o=some u/\Bk v u:=by
 cases o with
 |none=>exact(show False from r).elim
 |some u=>exact⟨u,rfl,r⟩
structure Room(k:Nat)(A:lM):Prop where
 hd:A.handled=none
 dp:A.depth+3*k+5<recursionLimit
 un:A.units+16*k+200<cLine
 gd:A.guards=some []
def Room.mono{j k:Nat}{A:lM}(r:Room k A)(h:j<=k):Room j A:=⟨r.hd,by have:=r.dp;omega,by have:=r.un;omega,r.gd⟩
def Room.deeper{k:Nat}{A:lM}(r:Room (k+1) A)(env:Env):Room k (A.deeper env) :=
 ⟨r.hd,by have:=r.dp;show A.depth+1+3*k+5<_;omega,by have:=r.un;show A.units+3+16*k+200<_;omega,r.gd⟩
def Room.depth{k:Nat}{A:lM}(r:Room k A):A.depth<recursionLimit:=by have:=r.dp;omega
def Room.units{k:Nat}{A:lM}(r:Room k A):A.units+64<cLine:=by have:=r.un;omega
def ZV:TA:=λ_ H Q=>Q [] H
def RP(ta:TE)(i:TA):TA:=λσ H Q=>ta σ H λx h=>i σ h λd g=>Q (x::d) g
def LP:PA X [] ZV:=λ_ _ _ _ H Q I h=>dO ⟨[],H,I,.nil,h⟩
def FF(ha:PE X e te)(hr:PA X es t)(hs:starEach (e::es) X.env=(false,eval e X.env)::starEach es X.env:=by rfl):PA X (e::es) (RP te t):=by intro pos aa s σ H Q I h;rw[hs];show wpAny _ _ (spliced<|(false,eval e X.env)::backTo pos (starEach es X.env)) _ _ s;refine cX<|thn (ha aa s σ H _ I h) λu v z=>Db z λx y j w d=>?_;exact thn (hr pos aa v σ y _ j d) λB D g=>Db g λi l A n q=>⟨x::i,l,A,.cons w n,q⟩
def ZW(t:TA):TE:=λσ H Q=>t σ H λd g=>d.length<=sizeLine/\∀p,g p=none->Q (.ref p) (upd g p<|.tup d)
def ZX(t:TA):TE:=λσ H Q=>t σ H λd g=>d.length<=sizeLine/\∀p,g p=none->Q (.ref p) (upd g p<|.lst d)
def LQ{x1}(h:PA X es t):PE X (.Tuple es x1 pos) (ZW t):=by intro aa s σ H Q I hq;refine wpAny_Tuple_spliced (thn (h pos aa s σ H _ I hq) λn d ⟨j,i,g,r,z,q⟩=>⟨by rw[<- r.length];exact z,?_⟩);have l:i d.heap.objs.size=none:=g.hok.fresh<|J_ _;refine⟨.ref d.heap.objs.size,upd i d.heap.objs.size<|.tup j,g.laid (t':=d.toks) (λb u e=>D_ _ e) (J_ _) ?_,rfl,q _ l⟩;exact⟨z,n,r,⟨_,K_ _ rfl,rfl,_,rfl⟩⟩
def LR(h:PA X es t):PE X (.List es pos) (ZX t):=by intro aa s σ H Q I hq;refine wpAny_List_spliced (thn (h pos aa s σ H _ I hq) λn d ⟨j,i,g,r,z,q⟩=>⟨by rw[<- r.length];exact z,?_⟩);have l:i d.heap.objs.size=none:=g.hok.fresh<|J_ _;refine⟨.ref d.heap.objs.size,upd i d.heap.objs.size<|.lst j,g.laid (t':=d.toks) (λb u e=>D_ _ e) (J_ _) ?_,rfl,q _ l⟩;exact⟨z,n,0,r,K_ _ rfl⟩
abbrev Sp:=oA V->Hp->VK->XK->Prop
abbrev CXT:=oA Env->Hp->lF->XK->lE->lF->Prop
structure Env0(P:lJ)(w:lK)(K:lI)(mg:Str->oB lE)(base:lN)(A:lM)(outer:oA Env)(s:lF)(H:Hp):Prop where
 frames:A.frames=some outer
 mod:Mod K mg base
 bs:∀b o,base.get? b=some o->s.heap.get? b=some o/\H b=none
 bsz:base.objs.size<=s.heap.objs.size
 funs:s.heap.FunFrames base outer
 frf:∀b∈frs outer,H b=none
 hok:HOk P w H s.heap
 bare:AllBare s.gens
def CE(outer:oA Env)(P:lJ)(w:lK)(H:Hp)(s:lF)(Q:VK)(u:lE)(s':lF):Prop :=
 ∃v d,s'.os=s.os/\AllBare s'.gens/\Un (frs outer) [] H d s.heap s'.heap/\HOk P w d s'.heap/\Bk v u/\Q v d
def CR(CX:CXT)(outer:oA Env)(P:lJ)(w:lK)(H:Hp)(s:lF)(Q:VK)(E:XK)(r:lV)(s':lF):Prop :=
 match r with
 |.ok (.ret u)=>CE outer P w H s Q u s'
 |.ok _=>False
 |.error e=>CX outer H s E e s'
structure FnOk(P:lJ)(w:lK)(K:lI)(mg:Str->oB lE)(base:lN)(CX:CXT)(k:Nat)(f:lH)(fd:lQ)(ps:oA Str)(sp:Sp):Prop where
 len:∀vs H Q E,sp vs H Q E->vs.length=ps.length
 run:∀(A:lM) (outer:oA Env) (s:lF) (H:Hp) (args:Args) (us:oA lE) (vs:oA V) (Q:VK) (E:XK),Room k A->Env0 P w K mg base A outer s H->BindsTo s fd args (ps.zip us)->Vals vs us->sp vs H Q E ->
  codeAny (model P w) A (.call (.ref f) args) (CR CX outer P w H s Q E) s
def FnOk.mono{P:lJ}{w:lK}{K:lI}{i:Str->oB lE}{base:lN}{CX:CXT}{j k:Nat}{f:lH}{fd:lQ}{ps:oA Str}{sp:Sp}(F:FnOk P w K i base CX j f fd ps sp)(h:j<=k) :
  FnOk P w K i base CX k f fd ps sp:=⟨F.len,λA d s H g l n Q E hr=>F.run A d s H g l n Q E<|hr.mono h⟩
def FnOk.imp{P:lJ}{w:lK}{K:lI}{l:Str->oB lE}{base:lN}{CX:CXT}{k:Nat}{f:lH}{fd:lQ}{ps:oA Str}{sp i:Sp}(F:FnOk P w K l base CX k f fd ps sp)
  (h:∀g H Q E,i g H Q E->sp g H Q E):FnOk P w K l base CX k f fd ps i :=
 ⟨λg H Q E q=>F.len g H Q E<|h _ _ _ _ q,λA d s H j u g Q E hr he hb hv n=>F.run A d s H j u g Q E hr he hb hv<|h _ _ _ _ n⟩
def Inv.env0(I:Inv X aa σ H s):Env0 X.prog X.w X.K X.mg X.base X.A X.stack s H :=
 ⟨I.ok.frames,I.ok.mod,I.bs,R_ I.ok.bsz I.sz,I.stack,I.stkFree,I.hok,I.bare⟩
def Inv.after{Q:VK}{u:lE}(I:Inv X aa σ H s)(h:CE X.stack X.prog X.w H s Q u s'):EP X aa σ Q u s':=by obtain⟨v,y,os,i,A,j,r,q⟩:=h;obtain⟨n,g,d,t,l⟩:=s';obtain rfl:l=s.os:=os;exact⟨v,y,I.call (h':=n) (g':=g) (d':=d) (t':=t) (ch:=[]) A j i λb z=>absurd z<|by simp,r,q⟩
def RQ(sp:Sp)(k8:oA V)(E:XK)(t:TA):TE:=λσ H Q=>t σ H λg d=>sp (g++k8) d Q E
def Binds(K:lI)(fd:lQ)(ps:oA Str)(ds:oA lE):Prop :=
 ∀(s:lF) (d:oA lE),K.In s.heap->(d++ds).length=ps.length->BindsTo s fd ⟨d,[]⟩ (ps.zip<|d++ds)
def Binds.all{K:lI}{fd:lQ}{ps:oA Str}(h:∀d:oA lE,d.length=ps.length->bindArgs fd ⟨d,[]⟩=pure (ps.zip d)):Binds K fd ps []:=λs d _ g=>by rw[bP]at g ⊢;exact .of_eq<|h d g
def Passes(CX:CXT)(X:Cx)(E:XK):Prop:=∀(aa:oA<|lH×lO) (σ:St) (H:Hp) (s:lF) (e:lE) (s':lF),Inv X aa σ H s->CX X.stack H s E e s'->X.xe e s'
def LU{aa:oA<|lH×lO}{σ:St}{H:Hp}{s:lF}{Q:VK}{d:oA lE}{g:oA V}(F:FnOk X.prog X.w X.K X.mg X.base CX k f fd ps sp)(hr:Room k X.A)(hb:Binds X.K fd ps ds)(l:Vals k8 ds)(hx:Passes CX X E) (I:Inv X aa σ H s) (r:Vals g d) (h:sp (g++k8) H Q E):qQ X.prog X.w X.A (call (.ref f) d) (EP X aa σ Q) X.xe s:=by
 have i:Vals (g++k8) (d++ds):=r.append l;have j:(d++ds).length=ps.length:=by rw[<- i.length];exact F.len _ _ _ _ h
 refine wpAny_call<|kF (F.run X.A X.stack s H ⟨d,[]⟩ (d++ds) (g++k8) Q E hr I.env0 (hb s d I.kIn j) i h) λr s' hq=>?_;cases r with
 |error e=>exact hx aa σ H s e s' I hq
 |ok fl=>
  cases fl with
  |ret u=>exact I.after hq
  |next=>exact False.elim hq
  |brk=>exact False.elim hq
  |cont=>exact False.elim hq
def FG(F:FnOk X.prog X.w X.K X.mg X.base CX k f fd ps sp)(hr:Room k X.A)(g:Gl X x)(i:X.mg x=some (.ref f))(hk:PySem.W.keepIn X.K (.ref f)=true)(hb:Binds X.K fd ps ds)(j:Vals k8 ds)(hx:Passes CX X E)
  (ha:PA X (e::es) t) (hdb:(x==("__debug__" : Str))=false:=by decide) (he:starEach (e::es) X.env=(false,eval e X.env)::starEach es X.env:=by rfl) (hpl:(backTo pos<|starEach es X.env).any (·.1)=false:=by rfl) :
  PE X (.Call (.Name x p) (e::es) [] pos) (RQ sp k8 E t):=by
 intro aa s σ H Q I h;refine d_<|Tx I g i ?_ hdb;refine PySem.W.callWith_K (h₀:=X.base) I.ok.mod.kin hk (thn (ha pos aa s σ H _ I h) λn u l=>Db l λy v d r q=>⟨d.kIn,?_⟩) he hpl;exact LU F hr hb j hx d r q
structure FnScope(N P:oA Str)(sc:lT):Prop where
 kind:sc.kind=.function
 co:sc.isCoroutine=false
 gen:sc.isGenerator=false
 nd:N.Nodup
 pre:N.take P.length=P
 par:∀x∈P,sc.names.lookup x=some .local\/sc.names.lookup x=some .cell
 nofree:∀y∈sc.names,y.2≠.free
theorem Mw{kindOf:Str->oB lU}{x:Str}:∀{d:oA<|Str×lE} {m:Str->oB lE},(∀v,(x,v)∉d)->bindL kindOf d m x=m x
 |[],_,_=>rfl
 | (n,v)::r,m,h=>by
  unfold bindL;rw[Mw λw g=>h w<|aA _ g];split;have:x≠n:=by rintro rfl;exact h v aK
  simp[this]
  rfl
theorem Mx{kindOf:Str->oB lU}{x:Str}:∀{d:oA<|Str×lE} {m:Str->oB lE},(∀v,(x,v)∉d)->bindC kindOf d m x=m x
 |[],_,_=>rfl
 | (n,v)::r,m,h=>by
  unfold bindC;rw[Mx λw g=>h w<|aA _ g];split
  rfl
  have:x≠n:=by rintro rfl;exact h v aK
  simp[this]
theorem My{kindOf:Str->oB lU}{x:Str}{v:lE}:∀{P:oA Str} {d:oA lE} {i:Nat} {m:Str->oB lE},P.Nodup->P[i]?=some x->d[i]?=some v->kindOf x=some .local ->
  bindL kindOf (P.zip d) m x=some v
 |[],_,_,_,_,h,_,_=>by simp at h
 |_::_,[],_,_,_,_,h,_=>by simp at h
 |p::P,w::d,0,m,nd,h1,h2,hk=>by simp at h1 h2;subst h1;subst h2;show bindL kindOf ((p,w)::P.zip d) m p=_;unfold bindL;rw[Mw λv hv=>(cP.mp nd).1 (jU hv).1,T_ hk];simp
 |p::P,w::d,i+1,m,nd,h1,h2,hk=>by show bindL kindOf ((p,w)::P.zip d) m x=_;unfold bindL;exact My (i:=i) (cP.mp nd).2 (by simpa using h1) (by simpa using h2) hk
theorem Mz{kindOf:Str->oB lU}{x:Str}{v:lE}:∀{P:oA Str} {d:oA lE} {i:Nat} {m:Str->oB lE},P.Nodup->P[i]?=some x->d[i]?=some v->kindOf x≠some .local ->
  bindC kindOf (P.zip d) m x=some v
 |[],_,_,_,_,h,_,_=>by simp at h
 |_::_,[],_,_,_,_,h,_=>by simp at h
 |p::P,w::d,0,m,nd,h1,h2,hk=>by simp at h1 h2;subst h1;subst h2;show bindC kindOf ((p,w)::P.zip d) m p=_;unfold bindC;rw[Mx λv hv=>(cP.mp nd).1 (jU hv).1,M_ hk];simp
 |p::P,w::d,i+1,m,nd,h1,h2,hk=>by show bindC kindOf ((p,w)::P.zip d) m x=_;unfold bindC;exact Mz (i:=i) (cP.mp nd).2 (by simpa using h1) (by simpa using h2) hk
def start(N:oA Str)(d:oA V):St:=d.map some++List.replicate (N.length-d.length) none
def N1(CX:CXT)(P:lJ)(w:lK)(K:lI)(mg:Str->oB lE)(base:lN)(N:oA Str)(g:Str)(d:lT)(f:lH)(h:lE)(A:lM)(outer:oA Env)(s:lF)(H:Hp)(E:XK):Cx where
 prog:=P
 w:=w
 K:=K
 mg:=mg
 base:=base
 A:=A.deeper (envOfC g d s.heap.objs.size f h)
 N:=N
 s₀:=s
 H₀:=H
 env:=envOfC g d s.heap.objs.size f h
 outer:=outer
 stack:=envOfC g d s.heap.objs.size f h::outer
 ex:=[]
 calm:=true
 fn:=λ_=>true
 pn:=[]
 xe:=λe s'=>qQ P w (A.deeper<|envOfC g d s.heap.objs.size f h) («leaving» (envOfC g d s.heap.objs.size f h) e) (λ_ i=>CX outer H s E e i) (λj i=>CX outer H s E j i) s'
def Pm{sc:lT}{n:Nat}{x:Str}(h:sc.names.lookup x=some .cell):∃c,(cellsFrom n sc.names []).lookup x=some c:=by have q:=PySem.W.cellsFrom_some sc.names n []<|.inl h;exact Option.isSome_iff_exists.mp q
def Wb{CX:CXT}{P:lJ}{w:lK}{K:lI}{G:Str->oB lE}{base:lN}{N ps:oA Str}{g:Str}{d:lT}{f:lH}{D:lE}{A:lM}{outer:oA Env}{s L:lF}{H:Hp}{E:XK}{I:oA lE}{l:oA V}
  (S:FnScope N ps d) (O:A.handled=none) (j:Env0 P w K G base A outer s H) (W:l.length=ps.length) (r:Vals l I)
  (x:InCallC s s.heap.objs.size (bindL (envOfC g d s.heap.objs.size f D).kindOf (ps.zip I) λ_=>none) (cellsFrom (s.heap.objs.size+1) d.names []) (bindC (envOfC g d s.heap.objs.size f D).kindOf (ps.zip I) λ_=>none) L) :
  Inv (N1 CX P w K G base N g d f D A outer s H E) [] (start N l) H L:=by
 have Q:ps.length<=N.length:=by have:=cV List.length S.pre;rw[bF]at this;omega
 obtain⟨h1,R,rfl,hk⟩:=x.done;have J:∀b:lH,b∉(N1 CX P w K G base N g d f D A outer s H E).ex:=λb z=>absurd (show b∈([]:oA lH) from z) (by simp);refine⟨⟨j.mod,S.kind,rfl,rfl,J_ _,λy z c h1 h2=>?_,λy hy=>?_,λy c _ h=>?_,λ_=>O,Around.frames_deeper j.frames,.inr ⟨rfl,rfl⟩,λb z=>absurd z<|J b,j.bs,j.bsz,λb _ _=>J b,λb z=>absurd z<|J b,j.funs,j.frf⟩,
  rfl,j.bare,Un.kept hk,⟨_,x.toInCall.ns,λi y v h1 h2 U=>?_⟩,λy c h=>⟨_,x.cell y c h⟩,j.hok.fresh<|J_ _,λy c h=>?_,λp hp=>absurd (show p∈([]:oA<|lH×lO) from hp)<|by simp,j.hok.kept hk,?_⟩
 exact name_of_addr x.apart (fU h1)<|fU h2
 have hy:d.names.lookup y=some .cell\/d.names.lookup y=some .free:=hy;rcases hy with hy|hy;exact Pm hy;exact absurd rfl<|S.nofree _<|fU hy;exact bR<|x.above y c<|fU h
 ·have F:i<l.length:=by
   unfold start at h2;by_cases F:i<l.length;exact F;rw[cF<|by simpa using F]at h2;rw[List.getElem?_replicate]at h2;split at h2<;>cases h2
  have ha:l[i]?=some v:=by
   unfold start at h2;rw[c_<|by simpa using F,G_]at h2;cases e:l[i]? with
   |none=>rw[e]at h2;cases h2
   |some a=>rw[e]at h2;cases h2;rfl
  obtain⟨u,hu,M⟩:=r.get ha;have hp:ps[i]?=some y:=by rw[<- S.pre,List.getElem?_take_of_lt<|by omega];exact h1
  have B:ps.Nodup:=by rw[<- S.pre];exact S.nd.sublist<|fK _ _
  refine⟨u,M,?_⟩;rcases S.par y (N_ hp) with k|k;exact .inl ⟨k,My B hp hu k⟩;obtain⟨c,e⟩:=Pm (n:=s.heap.objs.size+1) k;refine .inr ⟨.inl k,c,e,?_⟩;have q:=x.cell y c e;rw[Mz B hp hu<|by show d.names.lookup y≠_;rw[k];decide]at q;exact q
 exact j.hok.fresh<|bR<|x.above y c<|fU h
 unfold start;show _=N.length;rw[O_,B_,List.length_replicate];omega
def IX{CX:CXT}{P:lJ}{w:lK}{K:lI}{G:Str->oB lE}{base:lN}{k:Nat}{f:lH}{name g:Str}{h:Arguments}{i:oA lP}{d:lT}{dV kV U pm z ct oc:lE}{Z od:oB lH}
  {f8:oC<|oB lE} {N ps:oA Str} {sp:Sp} (lk:K.lookup f=some ⟨oc,od,.func<|PySem.W.fnOf name g h i d dV kV U pm Z z ct,f8⟩) (gu:PySem.W.codeIn K z g=true) (S:FnScope N ps d)
  (len:∀j H Q E,sp j H Q E->j.length=ps.length)
  (bu:∀(A:lM) (outer:oA Env) (s:lF) (H:Hp) (j:oA V) (Q:VK) (E:XK),Room k (A.deeper<|envOfC g d s.heap.objs.size f z)->sp j H Q E ->
   ∃t,PSs (N1 CX P w K G base N g d f z A outer s H E) i t/\t {nx:=λ_ H'=>Q .non H',rt:=Q} (start N j) H) :
  FnOk P w K G base CX (k+1) f (PySem.W.fnOf name g h i d dV kV U pm Z z ct) ps sp:=by
 refine⟨len,λA outer s H O us j Q E hr F hb r fy=>?_⟩;have hl:=len _ _ _ _ fy;have Y:K.In s.heap:=F.mod.kin.keeps λb o e=>(F.bs b o e).1;have M:s.heap.NoLimit:=F.mod.nolimit.keeps λb o e=>(F.bs b o e).1;have qj:∀y∈ps.zip us,d.names.lookup y.1=some .local\/(d.names.lookup y.1=some .cell/\((cellsFrom (s.heap.objs.size+1) d.names []).lookup y.1).isSome=true):=λ⟨n,v⟩ hy=>by rcases S.par n (jU hy).1 with q|q;exact .inl q;exact .inr ⟨q,PySem.W.cellsFrom_some _ _ _<|.inl q⟩
 refine codeAny_call_function hr.depth (Y _ _ lk) rfl S.co S.gen rfl (PySem.W.codeRec_of Y gu)<|hb _ _ _ _ ?_;refine wpAny_newFunctionEnv_cells S.kind qj λenv he R x=>?_;subst he;refine⟨M.keeps x.toInCall.keep,codeAny_func ?_⟩;obtain⟨t,ht,hq⟩:=bu A outer s H j Q E (hr.deeper _) fy;have I:Inv (N1 CX P w K G base N g d f z A outer s H E) [] (start N j) H R:=Wb S hr.hd F hl r x;refine cD (ht [] R (start N j) H _ I hq) (λfl s' B=>?_) λe s' B=>B;have D:∀{l:St} {H':Hp} {v:V} {u:lE},Inv (N1 CX P w K G base N g d f z A outer s H E) [] l H' s'->Bk v u->Q v H'->CE outer P w H s Q u s' :=
  λ{l H' v u} J L q=>⟨v,H',J.os,J.bare,J.base,J.hok,L,q⟩
 cases fl with
 |ret u=>obtain⟨v,l,H',J,L,q⟩:=B;exact D J L q
 |next=>obtain⟨l,H',J,q⟩:=B;exact D (v:=V.non) (u:=Value.none) J rfl q
 |brk=>obtain⟨_,_,_,q⟩:=B;exact False.elim q
 |cont=>obtain⟨_,_,_,q⟩:=B;exact False.elim q
def ZY(r:oA V->Hp->VK->Prop)(t:TA):TE:=λσ H Q=>t σ H λg d=>r g d Q
def Ys(hc:F7 X (.builtin id) r)(n:Gl X x)(w:X.mg x=none)(hv:bootBuiltins x=some (.builtin id))(ha:PA X (e::es) t)(l:x ≠ "__name__" := by decide) (hdb:(x==("__debug__" : Str))=false:=by decide)
  (he:starEach (e::es) X.env=(false,eval e X.env)::starEach es X.env:=by rfl) (hpl:(backTo pos<|starEach es X.env).any (·.1)=false:=by rfl):PE X (.Call (.Name x p) (e::es) [] pos) (ZY r t):=by
 intro aa s σ H Q I h;refine d_<|Hl I n w hv ?_ l hdb;exact jG (thn (ha pos aa s σ H _ I h) λj q i=>Db i λy v g u d=>hc aa q σ v y j Q g u d) he hpl
def Wc(hc:F7 X (.type T) r)(l:Gl X x)(w:X.mg x=none)(hv:bootBuiltins x=some (.type T))(ha:PA X (e::es) t)(j:x ≠ "__name__" := by decide) (hdb:(x==("__debug__" : Str))=false:=by decide)
  (he:starEach (e::es) X.env=(false,eval e X.env)::starEach es X.env:=by rfl) (hpl:(backTo pos<|starEach es X.env).any (·.1)=false:=by rfl):PE X (.Call (.Name x p) (e::es) [] pos) (ZY r t):=by
 intro aa s σ H Q I h;refine d_<|Hl I l w hv ?_ j hdb;exact dM (thn (ha pos aa s σ H _ I h) λi n v=>Db v λy u g q d=>hc aa n σ u y i Q g q d) he hpl
end
end L2
namespace HT
open PySem PyProof.Rows
section
open PySem.SeqAt
open PySem.AutoSeq1 (wpAny_loadPart')
open PySem.MeetsSeq PySem.MeetsSeq2 PySem.MeetsSeq3
end
section
variable {prog:lJ}{w:lK}{A:lM}{E:lE->lF->Prop}{s:lF}
def cat_tup{t b:lH}{c a:oA lE}{Q:lE->lF->Prop}(ht:IsTup s.heap t c.toArray)(hb:IsTup s.heap b a.toArray)(hv:c≠[])
  (h1:a=[]->Q (.ref t) s) (h2:a≠[]->Q (.ref s.heap.objs.size) {s with heap:=s.heap.push {cls:=.type "tuple",data:=.seq (c++a).toArray}})
  (hsz:c.length+a.length<=sizeLine):qQ prog w A (binaryOp .Add (.ref t)<|.ref b) Q E s:=by
 obtain⟨⟨cls,dd,data,m⟩,i,hc,n,l⟩:=id ht;obtain⟨⟨o,f,data2,g⟩,j,d,k,p⟩:=id hb;simp only at hc l d p;subst hc l d p;have e:c.toArray++a.toArray=(c++a).toArray:=by simp
 by_cases h:a=[];exact concat_meets ⟨_,i,rfl⟩ ⟨_,j,rfl⟩ kR seq_tuple_add iM iK (hV _ _)
  (tuple_addW1 t b c.toArray a.toArray n k dd f m g (by simpa using hv)<|by simp[h]) ⟨i,j,h1 h⟩
 refine concat_meets ⟨_,i,rfl⟩ ⟨_,j,rfl⟩ kR seq_tuple_add iM iK (hV _ _)
  (tuple_addW2 t b c.toArray a.toArray n k dd f m g (by simpa using hv) (by simpa using h)<|by rw[W_,W_];exact hsz) ⟨i,j,?_⟩
 rw[e];exact h2 h
def sIx(n d:Nat):oB Int->Nat
 |none=>d
 |some v=>if v<0 then(v+(n:Int)).toNat else min v.toNat n
def sIx_none(n d:Nat):sIx n d none=d:=rfl
def LW(n d:Nat)(a:d<=n)(o:oB Int):sIx n d o<=n:=by
 cases o with
 |none=>exact a
 |some v=>show(if v<0 then(v+(n:Int)).toNat else min v.toNat n)<=n;by_cases hv:v<0;rw[T_ hv];omega;rw[M_ hv];exact Nat.min_le_right _ _
def Tz(v:Int)(n d:Nat):(if v<0 then max (v+(n:Int)) 0 else min v (n:Int))=((sIx n d (some v):Nat):Int):=by show(if v<0 then max (v+(n:Int)) 0 else min v (n:Int))=(((if v<0 then(v+(n:Int)).toNat else min v.toNat n):Nat):Int);by_cases hv:v<0;simp only[if_pos hv];omega;simp only[if_neg hv];omega
def R3(lo a:oB Int)(n:Nat):Builtin.Slice.sliceAdjust lo a 1 (n:Int)=(((sIx n 0 lo:Nat):Int),((sIx n n a:Nat):Int)):=by
 have h1:¬((1:Int)<0):=by omega
 unfold Builtin.Slice.sliceAdjust;simp only[h1,if_false];refine kI ?_ ?_
 ·cases lo with
  |none=>rfl
  |some v=>exact Tz v n 0
 ·cases a with
  |none=>rfl
  |some v=>exact Tz v n n
def R5(i j:Nat):Builtin.Slice.slicePlaces (i:Int) (j:Int) 1=j-i:=by
 unfold Builtin.Slice.slicePlaces;have h1:(1:Int)>0:=by omega
 simp only[h1,if_true,Int.ediv_one];split<;>omega
def Ky{v:lE}{o:oB Int}{Q:oB Int->lF->Prop}(p:IsPart v o)(h:Q o s):qQ prog w A (Builtin.Slice.slicePartIndex v) Q E s:=by
 cases p with
 |none=>exact slicePart_none h
 |int i t=>exact slicePart_int h
def Ex{f:lH}{e d:lE}{lo c:oB Int}{n:Nat}{Q:Int×Int×Nat->lF->Prop}(hs:s.heap.IsSliceOf f e d .none)(pl:IsPart e lo)(g:IsPart d c)
  (h:Q (((sIx n 0 lo:Nat):Int),1,sIx n n c-sIx n 0 lo) s):qQ prog w A (Builtin.Slice.sliceApplied (.ref f)<|pure (n:Int)) Q E s:=by
 obtain⟨os,a,i,b⟩:=id hs;unfold Builtin.Slice.sliceApplied Builtin.Slice.sliceFields;refine A_<|A_<|cB a b (x:=e) rfl<|A_<|cB a b (x:=d) rfl<|A_<|cB a b (x:=.none) rfl<|C_ ?_;refine A_<|slicePart_none ?_;show wpAny _ _ (if((1:Int)==0)=true then _ else _) _ _ s;rw[M_<|by decide];refine A_<|Ky pl<|A_<|Ky g<|A_<|C_ ?_;show wpAny _ _ (match Builtin.Slice.sliceAdjust lo c 1 (n:Int) with|(lo,c)=>pure (lo,(1:Int),Builtin.Slice.slicePlaces lo c 1)) _ _ s;rw[R3 lo c n];show wpAny _ _ (pure (((sIx n 0 lo:Nat):Int),(1:Int),Builtin.Slice.slicePlaces ((sIx n 0 lo:Nat):Int) ((sIx n n c:Nat):Int) 1)) _ _ s;rw[R5];exact C_ h
def Yt(xs:oC lE)(i k:Nat):((List.range k).filterMap λ(m:Nat)=>xs[((i:Int)+(m:Int)*1).toNat]?).toArray=((xs.toList.drop i).take k).toArray:=by
 have e:(λ(m:Nat)=>xs[((i:Int)+(m:Int)*1).toNat]?)=λm=>xs[i+m]?:=by
  funext m
  have:((i:Int)+(m:Int)*1).toNat=i+m:=by omega
  rw[this]
 rw[e];have:=pick_run xs i k;rw[List.filterMap_map]at this;have a:((λx=>xs[x]?) ∘ λx=>i+x)=λm=>xs[i+m]?:=rfl;rw[a]at this;rw[this]
def getItem_tuple_cut{t d:lH}{items:oC lE}{f e:lE}{lo a:oB Int}{Q:lE->lF->Prop}(ht:IsTup s.heap t items)(hs:s.heap.IsSliceOf d f e .none)(pl:IsPart f lo)(g:IsPart e a)
  (j:¬(sIx items.size 0 lo=0/\sIx items.size items.size a=items.size))
  (h:Q (.ref s.heap.objs.size) {s with heap:=s.heap.push {cls:=.type "tuple",data:=.seq ((items.toList.drop<|sIx items.size 0 lo).take<|sIx items.size items.size a-sIx items.size 0 lo).toArray}})
  (hsz:items.size<=sizeLine):qQ prog w A (getItem (.ref t)<|.ref d) Q E s:=by
 have b:sizeOk (.seq ((items.toList.drop<|sIx items.size 0 lo).take<|sIx items.size items.size a-sIx items.size 0 lo).toArray):=by show((items.toList.drop<|sIx items.size 0 lo).take<|sIx items.size items.size a-sIx items.size 0 lo).toArray.size<=sizeLine;rw[W_,bF,gY,aT];omega
 have hj:sIx items.size items.size a<=items.size:=LW _ _ (J_ _) a;obtain⟨os,c,n,i⟩:=id hs;have k:s.TypeIs (.ref d) "slice" := ⟨os,c,n⟩;unfold getItem
 try with_reducible refine bT ?_
 first|refine A_ (C_ ?_)|skip
 refine A_ (wpAny_sequenceKey ht.typeIs (by decide) ?_);refine A_<|aZ (name:=Str.ofString "__getitem__") ht.typeIs b_
  (aO b_ ht.typeIs entry_tuple_getitem ?_<|args_tuple_getitem _ _)
 show wpAny _ _ (Builtin.Tuple.tupleItemsOf (.ref t)>>=_) _ _ s;refine A_<|tupleItemsOf_ ht ?_;refine A_<|iN k ?_;rw[T_<|by decide];refine A_<|Ex hs pl g ?_;have l:¬((((sIx items.size 0 lo:Nat):Int)==0&&(1:Int)==1&&(sIx items.size items.size a-sIx items.size 0 lo)==items.size)=true):=by intro q;rw[a_,a_]at q;have o:((sIx items.size 0 lo:Nat):Int)=0:=eq_of_beq q.1.1;have p:sIx items.size items.size a-sIx items.size 0 lo=items.size:=eq_of_beq q.2;exact j ⟨by omega,by omega⟩
 show wpAny _ _ (if(((sIx items.size 0 lo:Nat):Int)==0&&(1:Int)==1&&(sIx items.size items.size a-sIx items.size 0 lo)==items.size)=true then _ else _) _ _ s;rw[M_ l,Yt]
 first
  |exact A_ (m:=Builtin.Tuple.tupleExact _) (aC (C_ ⟨_,rfl,C_ h⟩) b)
  |exact A_ (m:=Builtin.Tuple.tupleExact _) (aC (A_<|C_<|C_ ⟨_,rfl,C_ h⟩) b)
  |exact A_ (A_ (m:=Builtin.Tuple.tupleExact _)<|aC (C_<|C_ ⟨_,rfl,C_ h⟩) b)
  |exact A_<|A_ (m:=Builtin.Tuple.tupleExact _)<|aC (C_ ⟨_,rfl,C_ h⟩) b
end
end HT
namespace L2
open PySem PySem.Spec PyProof.Rows
abbrev TO:=St->Hp->(oB Int->Hp->Prop)->Prop
def PO(X:Cx)(e:oB lL)(t:TO):Prop :=
 ∀(c:oA<|lH×lO) (s:lF) (a:St) (H:Hp) (Q:oB Int->Hp->Prop),Inv X c a H s->t a H Q ->
  qQ X.prog X.w X.A (evalPart e X.env) (λu d=>∃o b,Inv X c a b d/\IsPart u o/\Q o b) X.xe s
def FH:TO:=λ_ H Q=>Q none H
def RS(t:TE):TO:=λa H Q=>t a H λx b=>∃i,x=.int i/\Q (some i) b
section
variable {X:Cx}{e:lL}{te:TE}{lo hi:oB lL}{tl th:TO}{pos p2:Pos}{a b:lL}{ta tb:TE}{o:lL}{es:oA lL}{to:TE}{t:TA}{name:Str}{ao ak:Pos}{T id:String}{r:V->oA V->Hp->VK->Prop}
def FI:PO X none FH:=by intro d s c H Q I h;rw[evalPart_none];exact C_ ⟨none,H,I,.none,h⟩
def FJ(h:PE X e te):PO X (some e) (RS te):=by intro g s f H Q I k;rw[evalPart_some];refine thn (h g s f H _ I k) λu n m=>Db m λx l d j c=>?_;obtain⟨i,rfl,q⟩:=c;obtain⟨t,rfl⟩:=j;exact⟨some i,l,d,.int i t,q⟩
def RT(X:Cx)(r:V->oB Int->oB Int->Hp->VK->Prop):Prop :=
 ∀(f:oA<|lH×lO) (s:lF) (d:St) (H:Hp) (x:V) (v g c:lE) (lo hi:oB Int) (h:lH) (Q:VK),Inv X f d H s->Bk x v->s.heap.IsSliceOf h g c .none->IsPart g lo->IsPart c hi->r x lo hi H Q ->
  ∃T id,typeLookup (.type T) "__getitem__" = pure (some<|.builtin id)/\s.TypeIs v T/\qQ X.prog X.w X.A (getItem v<|.ref h) (EP X f d Q) X.xe s
def tSl(r:V->oB Int->oB Int->Hp->VK->Prop)(te:TE)(tl th:TO):TE:=λc H Q=>te c H λx g=>tl c g λl d=>th c d λu f=>r x l u f Q
def Yu{r:V->oB Int->oB Int->Hp->VK->Prop}(hr:RT X r)(he:PE X e te)(S:PO X lo tl)(hu:PO X hi th):PE X (.Subscript e (.Slice lo hi none p2) pos) (tSl r te tl th):=by intro f s d H Q I h;refine Subscript_<|thn (he f s d H _ I h) λv p R=>Db R λx B G y F=>?_;refine wpAny_Slice<|thn (S f p d B _ G F) λi P C=>Db C λl m E k n=>thn (hu f P d m _ E n) λg c N=>Db N λu j z J O=>?_;rw[evalPart_none];refine C_ ?_;have D:Inv X f d j {c with heap:=c.heap.push {cls:=.type "slice",data:=.fields #[i,g,.none]}}:=z.kept (t':=c.toks) λb U q=>D_ _ q;obtain⟨T,id,L,ht,M⟩:=hr f {c with heap:=c.heap.push {cls:=.type "slice",data:=.fields #[i,g,.none]}} d j x v i g l u c.heap.objs.size Q D y (Heap.IsSliceOf.new ..) k J O;show qQ X.prog X.w X.A (subscriptTail e (.Slice lo hi none p2) v<|.ref c.heap.objs.size) (EP X f d Q) X.xe {c with heap:=c.heap.push {cls:=.type "slice",data:=.fields #[i,g,.none]}};exact tail_any (ops:=[.ref c.heap.objs.size,v]) ht L M<|by with_unfolding_all rfl
def Mh(xs:oA V)(lo hi:oB Int):oA V:=(xs.drop<|HT.sIx xs.length 0 lo).take<|HT.sIx xs.length xs.length hi-HT.sIx xs.length 0 lo
def J5(xs:oA V)(lo hi:oB Int):(Mh xs lo hi).length<=xs.length:=by unfold Mh;rw[bF,gY];omega
def ZZ(K:lI):V->oB Int->oB Int->Hp->VK->Prop:=λx lo hi H Q=>∃a c,x=.ref a/\Ja K H a c /\
 ¬(HT.sIx c.length 0 lo=0/\HT.sIx c.length c.length hi=c.length)/\∀p,H p=none->Q (.ref p) (upd H p<|.tup<|Mh c lo hi)
def LX:RT X (ZZ X.K):=by
 intro p s n H x v u m lo hi w Q I i g f j h;obtain⟨a,c,rfl,hx,l,q⟩:=h;cases i;obtain⟨k,r,ht,hz⟩:=I.tuple hx;have d:k.toArray.size=c.length:=by rw[W_];exact r.length.symm
 refine⟨"tuple",_,b_.lookup,ht.typeIs,?_⟩;refine HT.getItem_tuple_cut ht g f j (by rw[d];exact l) ?_ (by rw[d];exact hz);rw[d];refine⟨.ref s.heap.objs.size,_,I.laid (t':=s.toks) (o:=.tup<|Mh c lo hi) (λb y q=>D_ _ q) (J_ _) ?_,rfl,q _<|I.hok.fresh<|J_ _⟩;exact⟨R_ (J5 c lo hi) hz,_,(r.drop<|HT.sIx c.length 0 lo).take<|HT.sIx c.length c.length hi-HT.sIx c.length 0 lo,IsTup.new _ _⟩
def Vals.nil_iff{xs:oA V}{c:oA lE}(r:Vals xs c):c=[]↔xs=[]:=by
 cases r with
 |nil=>simp
 |cons _ _=>simp
def T7(n:Nat)(i:Int):oB Nat:=if 0<=i then(if i<n then some i.toNat else none) else if -(n:Int)<=i then some (i+n).toNat else none
def atI{c:Type}(xs:oA c)(i:Int):oB c:=(T7 xs.length i).bind λj=>xs[j]?
def T8{n:Nat}{i:Int}{j:Nat}(h:T7 n i=some j):seqIndex? i n=some j/\j<n/\-(n:Int)<=i/\i<n:=by unfold T7 at h;by_cases c:0<=i;rw[T_ c]at h;by_cases h1:i<n;rw[T_ h1]at h;have e:i.toNat=j:=aX h;exact⟨by rw[seqIndex_of c h1,e],by omega,by omega,h1⟩;rw[M_ h1]at h;cases h;rw[M_ c]at h;by_cases h1:-(n:Int)<=i;rw[T_ h1]at h;have e:(i+n).toNat=j:=aX h;exact⟨by rw[seqIndex_neg (by omega) h1,e],by omega,h1,by omega⟩;rw[M_ h1]at h;cases h
def N3{c:Type}{xs:oA c}{i:Int}{v:c}(h:atI xs i=some v):∃j,seqIndex? i xs.length=some j/\xs[j]?=some v/\j<xs.length/\-(xs.length:Int)<=i/\i<xs.length:=by
 unfold atI at h;cases e:T7 xs.length i with
 |none=>rw[e]at h;cases h
 |some j=>rw[e]at h;obtain⟨h1,h2,f,d⟩:=T8 e;exact⟨j,h1,h,h2,f,d⟩
def Aj{c:Type}{xs:oA c}{j:Nat}{v:c}(h:xs[j]?=some v):atI xs (j:Int)=some v:=by
 have hj:j<xs.length:=(E_.mp h).1;have e:T7 xs.length (j:Int)=some j:=by unfold T7;rw[T_<|by omega,T_<|by omega];simp
 unfold atI;rw[e];exact h
def Kz{c:Type}(xs:oA c)(v:c):atI (xs++[v]) (-1)=some v:=by
 have d:(xs++[v]).length=xs.length+1:=by simp
 have e:T7 (xs++[v]).length (-1)=some xs.length:=by unfold T7;rw[d,M_<|by decide,T_<|by omega];congr 1;omega
 unfold atI;rw[e];show(xs++[v])[xs.length]?=some v;simp
def Ua(b:lL):Prop:=∀o i,subscripted b false o i=operate [o,i] (getItem o i)
def RU(X:Cx)(r:R2):Prop :=
 ∀(d c:lL) (g:oA<|lH×lO) (s:lF) (f:St) (H:Hp) (x y:V) (v u:lE) (Q:VK),Inv X g f H s->Bk x v->Bk y u->r x y H Q ->
  subscripted c false v u=operate [v,u] (getItem v u)->qQ X.prog X.w X.A (subscriptTail d c v u) (EP X g f Q) X.xe s
def QN(X:Cx)(id:String)(r:V->oA V->Hp->VK->Prop):Prop :=
 ∀(f:oA<|lH×lO) (s:lF) (d:St) (H:Hp) (x:V) (xs:oA V) (v:lE) (c:oA lE) (Q:VK),Inv X f d H s->Bk x v->Vals xs c->r x xs H Q ->
  qQ X.prog X.w X.A (call (.builtin id)<|v::c) (EP X f d Q) X.xe s
def RV{r:R2}(hr:RU X r)(ha:PE X a ta)(hb:PE X b tb)(hs:Ua b):PE X (.Subscript a b pos) (RG r ta tb):=by intro g s f H Q I h;exact Subscript_<|LD ha hb I h λv u k x y c j d i q=>hr a b g k f c x y v u Q j d i q<|hs _ _
def Qaa(K:lI):R2:=λx y H Q=>∃p c i v,x=.ref p/\y=.int i/\Fu K H p c/\atI c i=some v/\Q v H
def Qab(K:lI):R2:=λx y H Q=>∃p c i v,x=.ref p/\y=.int i/\Ja K H p c/\atI c i=some v/\Q v H
def Qac:R2:=λx y H Q=>∃z i c,x=.str z/\y=.int i/\z.length<=sizeLine/\atI z.cps.toList i=some c/\Q (.str ⟨#[c]⟩) H
def Ub:RU X (Qaa X.K):=by
 intro g f l s k H x y v u Q I E F h n;obtain⟨p,N,i,z,rfl,rfl,hq,he,q⟩:=h;cases E;obtain⟨t,rfl⟩:=F;obtain⟨B,r,d,hz⟩:=I.list hq;obtain⟨j,h1,h2,M,D,G⟩:=N3 he;obtain⟨w,m,C⟩:=r.get h2;have L:=r.length;have O:=Je;have c:EP X l k Q w s:=⟨z,H,I,C,q⟩;by_cases A:0<=i;have hj:i.toNat=j:=by rw[seqIndex_of A G]at h1;exact aX h1
 exact item_listR d.isList A (by omega) (by rw[hj];simpa using m) c n
 have hj:(i+(B.toArray.size:Int)).toNat=j:=by rw[seqIndex_neg (by omega) D]at h1;rw[W_,<- L];exact aX h1
 exact subscriptTail_builtinR (x:=w) d.isList.typeIs slot_list_getitem.lookup
  (wpAny_getItem_list_neg (Q:=λr J=>r=w/\EP X l k Q r J) d.isList (by omega) (by rw[W_]<;>omega) (by omega) (by rw[hj];simpa using m) ⟨rfl,c⟩) n
def LY:RU X (Qab X.K):=by
 intro f d l s k H x y v u Q I B C h A;obtain⟨p,L,i,z,rfl,rfl,hq,he,q⟩:=h;cases B;obtain⟨t,rfl⟩:=C;obtain⟨F,r,g,hz⟩:=I.tuple hq;obtain⟨j,h1,h2,J,G,N⟩:=N3 he;obtain⟨w,n,m⟩:=r.get h2;have E:=r.length;have M:=Je;have c:EP X l k Q w s:=⟨z,H,I,m,q⟩;exact subscriptTail_builtinR (x:=w) g.typeIs slot_tuple_getitem.lookup
  (getItem_tuple (j:=j) (Q:=λr D=>r=w/\EP X l k Q r D) g (by omega) (by omega) (by rw[W_,<- E];exact h1) (by simpa using n) ⟨rfl,c⟩) A
def LZ:RU X Qac:=by
 intro f d D s B H x y v u Q I k l h g;obtain⟨z,i,c,rfl,rfl,hz,he,q⟩:=h;obtain⟨t,rfl⟩:=k;obtain⟨F,rfl⟩:=l;obtain⟨j,h1,h2,E,m,n⟩:=N3 he;have A:z.cps.toList.length=z.length:=by simp[Str.length]
 rw[A]at h1 m n;have C:=Je;exact tail_any (typeIs_str s z t) slot_str_getitem.lookup (getItem_str (c:=c) (by
  have w:decide (i < -(2^63:Int))=false:=aW (by omega);have p:decide (i>=2^63)=false:=aW (by omega);rw[w,p,Bool.or_false]) (by rw[h1];simpa using h2) ⟨.str ⟨#[c]⟩,H,I.tok _,⟨_,rfl⟩,q⟩) g
def R6(c:oA lE)(n j:Nat)(u:lE):Obj.mapSeq (·.setIfInBounds j u) {cls:=.type "list",data:=.seq c.toArray n}={cls:=.type "list",data:=.seq (c.set j u).toArray n}:=by simp[Obj.mapSeq]
def Inv.lst{f:oA<|lH×lO}{d:St}{H:Hp}{s:lF}{p:lH}{xs:oA V}(I:Inv X f d H s)(h:H p=some (.lst xs)) :
  ∃(c:oA lE) (n:Nat),Vals xs c/\s.heap.get? p=some {cls:=.type "list",data:=.seq c.toArray n}/\xs.length<=sizeLine:=by
 obtain⟨z,c,n,r,e⟩:=I.hok p _ h;exact⟨c,n,r,e,z⟩
def Inv.lstUpd{i:oA<|lH×lO}{g:St}{H:Hp}{s:lF}{p:lH}{xs ys:oA V}{j its':oA lE}{n c:Nat}{f:lO->lO}(I:Inv X i g H s)(h:H p=some (.lst xs))
  (k:s.heap.get? p=some {cls:=.type "list",data:=.seq j.toArray n}) (d:f {cls:=.type "list",data:=.seq j.toArray n}={cls:=.type "list",data:=.seq its'.toArray c}) (r:Vals ys its') (hz:ys.length<=sizeLine) (t:Nat) :
  Inv X i g (upd H p<|.lst ys) {s with heap:=s.heap.update p f,toks:=t}:=by
 have e:(s.heap.update p f).get? p=some {cls:=.type "list",data:=.seq its'.toArray c}:=by rw[bD f k<|by rw[d]<;>rfl,d]
 refine I.write (x:=p) (e:=p) (by rw[h];trivial) (.inl rfl) (λb u hb q=>(dP _ _<|fI hb).trans q) ⟨_,e⟩ ?_;exact⟨hz,its',c,r,e⟩
def RW:V->V->V->Hp->(Hp->Prop)->Prop:=λo i v H Q=>∃p c k j,o=.ref p/\i=.int k/\H p=some (.lst c)/\T7 c.length k=some j/\Q (upd H p<|.lst<|c.set j v)
def Yv:PSet X RW:=by
 intro y s x H o i v D F u Q I A z B h;obtain⟨p,C,k,j,rfl,rfl,hp,hj,q⟩:=h;cases A;obtain⟨t,rfl⟩:=z;obtain⟨f,n,r,c,hz⟩:=I.lst hp;obtain⟨h1,h2,l,g⟩:=T8 hj;have d:=r.length;have E:=Je;have w:Inv X y x (upd H p<|.lst<|C.set j v) {s with heap:=s.heap.update p<|Obj.mapSeq (·.setIfInBounds j u)} :=
  I.lstUpd hp c (R6 f n j u) (r.set B j) (by rw[List.length_set];exact hz) s.toks
 by_cases m:0<=k;have hk:k.toNat=j:=by rw[seqIndex_of m g]at h1;exact aX h1
 exact PySem.W.ki_setAt c m (by omega) (by rw[W_,<- d];exact g)<|by rw[hk];exact⟨_,w,q⟩
 have hk:(k+(f.toArray.size:Int)).toNat=j:=by rw[seqIndex_neg (by omega) l]at h1;rw[W_,<- d];exact aX h1
 exact PySem.W.ki_setBack c (by omega) (by rw[W_,<- d];exact l) (by omega)<|by rw[hk];exact⟨_,w,q⟩
def N4(lo hi:oB Int)(n:Nat):(sliceBounds lo hi none n).1=((HT.sIx n 0 lo:Nat):Int)/\(sliceBounds lo hi none n).2.1=((HT.sIx n n hi:Nat):Int)/\(sliceBounds lo hi none n).2.2=1:=by
 refine⟨?_,?_,rfl⟩
 ·cases lo with
  |none=>simp[sliceBounds,HT.sIx]
  |some i=>simp only[sliceBounds,HT.sIx,Option.getD_none,show(1:Int)>0 by decide,if_true];by_cases h:i<0;simp only[h,if_true]<;>omega;simp only[h,if_false]<;>omega
 ·cases hi with
  |none=>simp[sliceBounds,HT.sIx]
  |some i=>simp only[sliceBounds,HT.sIx,Option.getD_none,show(1:Int)>0 by decide,if_true];by_cases h:i<0;simp only[h,if_true]<;>omega;simp only[h,if_false]<;>omega
def Mi(c:oA lE)(lo hi:oB Int):slicePick c.toArray lo hi none=((c.drop<|HT.sIx c.length 0 lo).take<|HT.sIx c.length c.length hi-HT.sIx c.length 0 lo).toArray:=by obtain⟨h1,h2,d⟩:=N4 lo hi c.toArray.size;unfold slicePick;rw[h1,h2,d];simp only[sliceRange_one,pick_run,List.size_toArray]<;>rfl
def Qad(K:lI):V->oB Int->oB Int->Hp->VK->Prop:=λx lo hi H Q=>∃a c,x=.ref a/\Fu K H a c/\∀p,H p=none->Q (.ref p) (upd H p<|.lst<|Mh c lo hi)
def FK:RT X (Qad X.K):=by intro m s l H x v p k lo hi u Q I g f d i h;obtain⟨a,c,rfl,hx,q⟩:=h;cases g;obtain⟨n,r,ht,hz⟩:=I.list hx;have j:=r.length;refine⟨"list",_,slot_list_getitem.lookup,ht.isList.typeIs,?_⟩;refine wpAny_getItem_list_slice ht.isList f d i .none (by simp) ?_ (by rw[W_]<;>omega);rw[Mi,<- j];refine⟨.ref s.heap.objs.size,_,I.laid (t':=s.toks) (o:=.lst<|Mh c lo hi) (λb w q=>D_ _ q) (J_ _) ?_,rfl,q _<|I.hok.fresh<|J_ _⟩;exact⟨R_ (J5 c lo hi) hz,_,0,(r.drop<|HT.sIx c.length 0 lo).take<|HT.sIx c.length c.length hi-HT.sIx c.length 0 lo,K_ _ rfl⟩
def N5:Ib X (compareOp .NotIn) (λx y H Q=>∃i j,x=.str i/\y=.str j/\Q (.bl<|!(!(Builtin.Str.occurrences j i 0 j.length 1).isEmpty)) H):=by intro g s f H x y v u Q I c d h;obtain⟨i,j,rfl,rfl,q⟩:=h;obtain⟨t,rfl⟩:=c;obtain⟨k,rfl⟩:=d;exact notIn_str ⟨.bl _,H,I,rfl,q⟩
def Fh:F7 X (.builtin "len") (λi H Q=>∃p c,i=[.ref p]/\(Fu X.K H p c\/Ja X.K H p c)/\Q (.int c.length) H):=by intro n s m H i l Q I r h;obtain⟨p,c,rfl,hq,q⟩:=h;obtain⟨u,rfl,j⟩:=F8 r;cases j;have v:=Je;rcases hq with hq|hq;obtain⟨k,f,d,hz⟩:=I.list hq;have g:=f.length;exact Calls.call_len_list d.isList (by simp only[List.size_toArray]<;>omega) ⟨.int c.length,H,I.tok _,⟨s.toks+1,by rw[W_,g]⟩,q⟩;obtain⟨k,f,d,hz⟩:=I.tuple hq;have g:=f.length;exact len_tuple d (by simp only[List.size_toArray]<;>omega) ⟨.int c.length,H,I.tok _,⟨s.toks+1,by rw[W_,g]⟩,q⟩
def N6:F7 X (.builtin "len") (λc H Q=>∃z,c=[.str z]/\z.length<=sizeLine/\Q (.int z.length) H):=by intro g s f H c d Q I r h;obtain⟨z,rfl,hz,q⟩:=h;obtain⟨u,rfl,t,rfl⟩:=F8 r;have i:=Je;exact len_str (by omega) ⟨.int z.length,H,I.tok _,⟨_,rfl⟩,q⟩
def Hg:F7 X (.type "tuple") (λj H Q=>∃p c,j=[.ref p]/\((Fu X.K H p c/\∀l,H l=none->Q (.ref l) (upd H l<|.tup c))\/(Ja X.K H p c/\Q (.ref p) H))):=by
 intro n s m H j z Q I r h;obtain⟨p,c,rfl,h⟩:=h;obtain⟨u,rfl,v⟩:=F8 r;cases v;rcases h with⟨hq,q⟩|⟨hq,q⟩;obtain⟨g,i,f,hz⟩:=I.list hq;have A:=i.length;refine call_tuple_list f.isList (λd y=>?_) (by simp only[List.size_toArray]<;>omega);have k:Inv X n m H {s with heap:=d}:=I.kept (t':=s.toks) y;have x:Inv X n m (upd H d.objs.size<|.tup c) {s with heap:=d.push {cls:=.type "tuple",data:=.seq g.toArray}} :=
  k.laid (t':=s.toks) (λb o e=>D_ _ e) (J_ _) (show Bx X.prog X.w _ _ _ (.tup c) from⟨hz,g,i,IsTup.new _ _⟩)
 exact⟨.ref d.objs.size,_,x,rfl,q _<|k.hok.fresh<|J_ _⟩
 obtain⟨g,i,f,hz⟩:=I.tuple hq;exact call_tuple_same f ⟨.ref p,H,I,rfl,q⟩
def YQ(K:lI)(T:String)(x:V)(H:Hp):Prop:=match x with
 |.str _=>T = "str"
 |.int _=>T = "int"
 |.ref p=>(T = "list" /\ ∃d,Fu K H p d)\/(T = "tuple" /\ ∃o,K.lookup p=some o/\o.cls=.type "tuple" /\ o.dict=none) \/
   (T = "dict" /\ ((∃c,H p=some (.dK c))\/∃c,H p=some (.dT c)))\/(T = "set" /\ ∃S n,H p=some (.set S n))
 |_=>False
def Yw{m:oA<|lH×lO}{l:St}{H:Hp}{s:lF}{T:String}{x:V}{v:lE}(I:Inv X m l H s)(r:Bk x v)(ty:YQ X.K T x H) :
  s.TypeIs v T/\∀a,v=.ref a->∃k,s.heap.get? a=some k/\k.dict=none:=by
 cases x with
 |str z=>obtain⟨t,rfl⟩:=r;cases (show T = "str" from ty);exact⟨typeIs_str s z t,λ_ e=>nomatch e⟩
 |int i=>obtain⟨t,rfl⟩:=r;cases (show T = "int" from ty);exact⟨typeIs_int s i t,λ_ e=>nomatch e⟩
 |ref p=>
  cases r;rcases ty with⟨rfl,q,hq⟩|⟨rfl,o,hk,hc,g⟩|⟨rfl,hk⟩|⟨rfl,S,n,hk⟩;obtain⟨u,_,j,_⟩:=I.list hq;refine⟨j.isList.typeIs,λa e=>?_⟩;cases e;obtain⟨o,n,e,c,g,_⟩:=j;exact⟨o,e,g⟩;refine⟨⟨o,I.kIn p o hk,hc⟩,λa e=>?_⟩;cases e;exact⟨o,I.kIn _ o hk,g⟩;have z:∃o,s.heap.get? p=some o/\o.ExactDict:=by rcases hk with⟨f,hk⟩|⟨f,hk⟩;obtain⟨_,_,_,_,o,_,_,e,d,_⟩:=I.hok p _ hk;exact⟨o,e,d⟩;obtain⟨_,_,_,_,o,_,_,e,d,_⟩:=I.hok p _ hk;exact⟨o,e,d⟩
  obtain⟨o,e,d⟩:=z;refine⟨⟨o,e,d.1⟩,λa h=>?_⟩;cases h;exact⟨o,e,d.2.1⟩;obtain⟨o,_,_,_,e,d,_⟩:=I.hok p _ hk;refine⟨⟨o,e,d.1⟩,λa h=>?_⟩;cases h;exact⟨o,e,d.2.1⟩
 |_=>exact False.elim ty
def MA(K:lI)(T:String)(r:V->oA V->Hp->VK->Prop)(to:TE):TE:=λd H Q=>to d H λx c=>YQ K T x c/\r x [] c Q
def tBM(K:lI)(T:String)(r:V->oA V->Hp->VK->Prop)(to:TE)(t:TA):TE:=λc H Q=>to c H λx d=>YQ K T x d/\t c d λf g=>r x f g Q
def N7(k:PlainAttrs T)(slot:Slot T name id)(l:typeOf (.builtin id)=pure (.type "method_descriptor")) (w:QN X id r) (q:PE X o to)
  (n:attributeBase o name X.env (eval o X.env)=eval o X.env:=by rfl) (i:(ao.endLine==ak.line)=true:=by rfl):PE X (.Call (.Attribute o name ao) [] [] ak) (MA X.K T r to):=by
 intro f s d H Q I h;refine wpAny_Call_method0_late n i<|thn (q f s d H _ I h) λv m u=>?_;obtain⟨x,p,c,g,ty,j⟩:=u;obtain⟨h1,h2⟩:=Yw c g ty;exact⟨T,id,k,slot,l,h1,h2,gE rfl<|PySem.evalArgs_none<|w f m d p x [] v [] Q c g .nil j⟩
def RX(n:PlainAttrs T)(slot:Slot T name id)(E:typeOf (.builtin id)=pure (.type "method_descriptor")) (G:QN X id r) (z:PE X o to) (ha:PA X (e::es) t)
  (u:attributeBase o name X.env (eval o X.env)=eval o X.env:=by rfl) (A:((backTo ak<|starEach (e::es) X.env).all (λx=>!x.1)&&(backToKw ak<|keywordEach [] X.env).all (λx=>x.1.isSome)
   && decide ((e::es).length+([]:oA Keyword).length+(if([]:oA Keyword).isEmpty then 0 else 1)<30))=true:=by rfl)
  (j:(ao.endLine==ak.line)=true:=by rfl) (hs:starEach (e::es) X.env=(false,eval e X.env)::starEach es X.env:=by rfl) (J:(backTo ak<|starEach es X.env).any (·.1)=false:=by rfl) :
  PE X (.Call (.Attribute o name ao) (e::es) [] ak) (tBM X.K T r to t):=by
 intro d s c H Q I h;refine wpAny_Call_method_late u A j rfl<|thn (z d s c H _ I h) λv p q=>?_;obtain⟨x,w,i,f,ty,B⟩:=q;obtain⟨h1,h2⟩:=Yw i f ty;refine⟨T,id,n,slot,E,h1,h2,?_⟩;have g:=ha ak d p c w _ i B;rw[hs]at g ⊢;refine gE (by show(false||(backTo ak<|starEach es X.env).any (·.1))=false;rw[J]<;>rfl)<|jN ?_;exact thn g λD F k=>Db k λL l y C m=>G d F c l x L v D Q y f C m
end
def YR(X:Cx)(id:String)(r:V->oA V->Hp->VK->Prop):Prop :=
 ∀(c:oA<|lH×lO) (s:lF) (b:St) (H:Hp) (x:V) (xs:oA V) (v:lE) (a:oA lE) (Q:VK),Inv X c b H s->Bk x v->Vals xs a->r x xs H Q ->
  qQ X.prog X.w X.A (call (.builtin id)<|v::a) (EP X c b Q) X.xe s
def Vals.one:∀{x:V} {a:oA lE},Vals [x] a->∃u,a=[u]/\Bk x u
 |_,_,.cons r .nil=>⟨_,rfl,r⟩
def Vals.zero:∀{a:oA lE},Vals [] a->a=[]
 |_,.nil=>rfl
theorem Vals.dropLast{xs:oA V}{a:oA lE}(h:Vals xs a):Vals xs.dropLast a.dropLast:=by
 induction h with
 |nil=>exact .nil
 |cons r t b=>
  cases t with
  |nil=>exact .nil
  |cons q c=>exact .cons r b
theorem Vals.eraseIdx:∀{xs:oA V} {a:oA lE} (i:Nat),Vals xs a->Vals (xs.eraseIdx i) (a.eraseIdx i)
 |_,_,_,.nil=>.nil
 |_,_,0,.cons _ t=>t
 |_,_,i+1,.cons r t=>.cons r<|Vals.eraseIdx i t
def R7{c:Type}(l:oA c):l.eraseIdx (l.length-1)=l.dropLast:=by
 induction l with
 |nil=>rfl
 |cons a r d=>
  cases r with
  |nil=>rfl
  |cons b r=>
   have e:(a::b::r).length-1=((b::r).length-1)+1:=by have h1:(a::b::r).length=r.length+2:=rfl;have h2:(b::r).length=r.length+1:=rfl;omega
   rw[e,List.eraseIdx_cons_succ,d]
   all_goals rfl
theorem M3{a:Type}:∀(l:oA a) (i:Nat),(l.eraseIdx i).length<=l.length
 |[],_=>J_ _
 |_::_,0=>dW _
 |_::r,i+1=>gZ<|M3 r i
section
variable {X:Cx}{aa:oA<|lH×lO}{σ:St}{H:Hp}{s:lF}{l b:lH}{xs ys zs:oA V}
def Inv.lset{a its':oA lE}{n:Nat}{f:oC lE->oC lE}{t':Nat}(I:Inv X aa σ H s)(d:H l=some (.lst xs))
  (e:s.heap.get? l=some {cls:=.type "list",data:=.seq a.toArray n}) (c:f a.toArray=its'.toArray) (hv:Vals ys its') (hz:ys.length<=sizeLine) :
  Inv X aa σ (upd H l<|.lst ys) {s with heap:=s.heap.update l<|Obj.mapSeq f,toks:=t'}:=by
 have q:=PySem.IsL.update e f;rw[c]at q;refine I.write (x:=l) (e:=l) (by rw[d];exact trivial) (.inl rfl) (λg u hb hu=>(dP s.heap (Obj.mapSeq f)<|fI hb).trans hu) ⟨_,q⟩ ?_;exact⟨hz,its',_,hv,q⟩
def Inv.lnew{a:oA lE}{t':Nat}(I:Inv X aa σ H s)(hv:Vals ys a)(hz:ys.length<=sizeLine) :
  Inv X aa σ (upd H s.heap.objs.size<|.lst ys) {s with heap:=s.heap.push {cls:=.type "list",data:=.seq a.toArray},toks:=t'} :=
 I.laid (λ_ _ q=>D_ _ q) (J_ _) ⟨hz,a,0,hv,K_ _ rfl⟩
def Inv.fresh(I:Inv X aa σ H s):H s.heap.objs.size=none:=I.hok.fresh<|J_ _
def Inv.lstM(I:Inv X aa σ H s)(c:H l=some (.lst xs)):xs.length<=sizeLine/\∃(a:oA lE) (n:Nat),Vals xs a/\xs.length=a.length/\s.heap.get? l=some {cls:=.type "list",data:=.seq a.toArray n}:=by obtain⟨z,a,n,r,e⟩:=I.hok l _ c;exact⟨z,a,n,r,r.length,e⟩
def Yx{n:Nat}(h:n<=sizeLine):Builtin.List.listTooLong n=false:=by unfold Builtin.List.listTooLong;exact aW<|by omega
def FL:V->oA V->Hp->VK->Prop:=λx a H Q=>∃l xs y,x=.ref l/\a=[y]/\H l=some (.lst xs)/\xs.length<sizeLine/\Q .non (upd H l<|.lst<|xs++[y])
def M4:YR X "list.append" FL:=by intro aa s σ H x k v i Q I f d h;obtain⟨l,xs,y,rfl,rfl,a,hz,q⟩:=h;cases f;obtain⟨u,rfl,g⟩:=d.one;obtain⟨z,c,n,r,j,e⟩:=I.lstM a;refine k_ F.slot_list_append ⟨_,e,rfl⟩ F.entry_list_append (F.args_list_append_2 _ _) (PySem.list_append l c.toArray n u<|by rw[W_];omega) ⟨e,?_⟩;refine⟨.non,_,I.lset (its':=c++[u]) a e (by simp) (r.append<|.cons g .nil) ?_,rfl,q⟩;rw[O_,gP];omega
def FM:V->oA V->Hp->VK->Prop:=λx a H Q=>∃l b xs zs,x=.ref l/\a=[.ref b]/\H l=some (.lst xs)/\H b=some (.lst zs)/\xs.length+zs.length<=sizeLine/\Q .non (upd H l<|.lst<|xs++zs)
def Wd:YR X "list.extend" FM:=by
 intro aa s σ H x w v A Q I o j h;obtain⟨l,b,xs,zs,rfl,rfl,f,k,hz,q⟩:=h;cases o;obtain⟨u,rfl,t⟩:=j.one;cases t;obtain⟨z,c,n,r,C,e⟩:=I.lstM f;obtain⟨y,a,g,m,B,i⟩:=I.lstM k;have d:c.toArray.size+a.toArray.size<=sizeLine:=by rw[W_,W_];omega
 have p:¬(!c.toArray.isEmpty&&Builtin.List.listTooLong (c.toArray.size+a.toArray.size))=true:=by rw[Yx d,Bool.and_false];exact Q_
 refine k_ F.slot_list_extend ⟨_,e,rfl⟩ F.entry_list_extend (F.args_list_extend_2 _ _) (AutoSeq1.list_extend_list_list_0 l c.toArray n b a.toArray g p (by rw[W_];omega)<|by omega) ⟨e,i,?_⟩
 refine⟨.non,_,I.lset (its':=c++a) f e (by simp) (r.append m) ?_,rfl,q⟩;rw[O_];omega
def Qae:V->oA V->Hp->VK->Prop:=λx a H Q=>∃l xs y,x=.ref l/\a=[]/\H l=some (.lst xs)/\xs[xs.length-1]?=some y/\Q y (upd H l<|.lst xs.dropLast)
def MB:YR X "list.pop" Qae:=by
 intro aa s σ H x o v m Q I g f h;obtain⟨l,xs,y,rfl,rfl,d,hy,q⟩:=h;cases g;have j:=f.zero;subst j;obtain⟨z,a,n,r,i,e⟩:=I.lstM d;obtain⟨u,hu,k⟩:=r.get hy;have c:a.toArray[a.toArray.size-1]?=some u:=by show a.toArray[a.length-1]?=some u;rw[<- Z_,<- i];exact hu
 refine k_ F.slot_list_pop ⟨_,e,rfl⟩ F.entry_list_pop (F.args_list_pop_1 _) (MeetsSeq.list_pop_last l a.toArray n u c<|by rw[W_];omega) ⟨e,?_⟩;refine⟨y,_,I.lset (its':=a.dropLast) d e ?_ r.dropLast ?_,k,q⟩;show a.toArray.eraseIdxIfInBounds (a.toArray.size-1)=a.dropLast.toArray;rw[W_,iZ,R7];rw[List.length_dropLast];omega
def MC:V->oA V->Hp->VK->Prop:=λx a H Q=>∃l xs i k y,x=.ref l/\a=[.int i]/\H l=some (.lst xs)/\-(2^63)<=i/\i<2^63/\seqIndex? i xs.length=some k/\xs[k]?=some y/\Q y (upd H l<|.lst<|xs.eraseIdx k)
def Yy:YR X "list.pop" MC:=by
 intro aa s σ H x p v A Q I g f h;obtain⟨l,xs,i,k,y,rfl,rfl,c,h1,h2,hk,hy,q⟩:=h;cases g;obtain⟨u,rfl,m⟩:=f.one;obtain⟨t,rfl⟩:=m;obtain⟨z,a,n,r,o,e⟩:=I.lstM c;obtain⟨w,j,d⟩:=r.get hy;refine k_ F.slot_list_pop ⟨_,e,rfl⟩ F.entry_list_pop (F.args_list_pop_2 _ _) (MeetsSeq.list_pop_at l a.toArray n i t k w (fitsIndex_both h1 h2) (by rw[W_,<- o];exact hk) (by rw[<- Z_];exact j)<|by rw[W_];omega) ⟨e,?_⟩
 refine⟨y,_,I.lset (its':=a.eraseIdx k) c e ?_ (r.eraseIdx k) ?_,d,q⟩;show a.toArray.eraseIdxIfInBounds k=(a.eraseIdx k).toArray;rw[iZ];have:=M3 xs k;omega
def Qaf:R2:=λx y H Q=>∃l b xs zs,x=.ref l/\y=.ref b/\H l=some (.lst xs)/\H b=some (.lst zs)/\xs.length+zs.length<=sizeLine/\∀p,H p=none->Q (.ref p) (upd H p<|.lst<|xs++zs)
def MD:Ib X (binaryOp .Add) Qaf:=by
 intro aa s σ H x y v u Q I j k h;obtain⟨l,b,xs,zs,rfl,rfl,g,f,hz,q⟩:=h;cases j;cases k;obtain⟨z,c,n,r,w,e⟩:=I.lstM g;obtain⟨t,a,o,i,p,m⟩:=I.lstM f;refine PySem.P.add_list e m ?_ (by rw[W_,W_];omega);have d:c.toArray++a.toArray=(c++a).toArray:=by simp
 rw[d];exact⟨.ref _,_,I.lnew (t':=s.toks) (r.append i)<|by rw[O_];omega,rfl,q _ I.fresh⟩
end
section
variable {κ:Type} [DecidableEq κ]
def Eo(kvs:oA<|κ×V)(k:κ):oB V:=(kvs.find? λa=>decide (a.1=k)).map (·.2)
def putK(kvs:oA<|κ×V)(k:κ)(v:V):oA (κ×V) :=
 if(kvs.any λa=>decide (a.1=k))=true then kvs.map (λa=>if a.1=k then(a.1,v) else a) else kvs++[(k,v)]
def K0{p:κ×V}{r:oA<|κ×V}{k:κ}(e:p.1=k):Eo (p::r) k=some p.2:=by simp[Eo,List.find?_cons,e]
def K3{p:κ×V}{r:oA<|κ×V}{k:κ}(e:¬p.1=k):Eo (p::r) k=Eo r k:=by simp[Eo,List.find?_cons,e]
theorem Pn(k:κ):∀a:oA<|κ×V,(a.any λb=>decide (b.1=k))=(Eo a k).isSome
 |[]=>rfl
 |p::r=>by rw[eD];by_cases e:p.1=k;simp only[K0 e,decide_eq_true e,Bool.true_or,Option.isSome_some];rw[K3 e,aW e,kO];exact Pn k r
def F9(kvs:oA<|κ×V)(k:κ)(v:V):(putK kvs k v).length<=kvs.length+1:=by unfold putK;split;rw[B_];omega;rw[O_,aS,List.length_nil];omega
def Jd.isSome_eq{o:oB V}{u:oB lE}(r:Jd o u):o.isSome=u.isSome:=by
 cases o with
 |none=>cases u with
  |none=>rfl
  |some _=>exact(show False from r).elim
 |some _=>cases u with
  |none=>exact(show False from r).elim
  |some _=>rfl
theorem Jd.getD{o:oB V}{u:oB lE}{d:V}{d':lE}(r:Jd o u)(rd:Bk d d'):Bk (o.getD d) (u.getD d'):=by
 cases o with
 |none=>cases u with
  |none=>exact rd
  |some _=>exact(show False from r).elim
 |some _=>cases u with
  |none=>exact(show False from r).elim
  |some _=>exact r
def KV.val{kvs:oA<|κ×V}{d:oA<|κ×lE}(r:KV kvs d)(k:κ):Jd (Eo kvs k) (valueAt d k):=by
 unfold KV at r
 induction r with
 |nil=>exact True.intro
 |@cons p q g c h t f=>
  obtain⟨h1,h2⟩:=h;by_cases e:p.1=k;have a:q.1=k:=h1.symm.trans e;have b:valueAt (q::c) k=some q.2:=by simp[valueAt,List.find?_cons,a]
  rw[K0 e,b];exact h2;have a:¬q.1=k:=λz=>e<|h1.trans z;have b:valueAt (q::c) k=valueAt c k:=by simp[valueAt,List.find?_cons,a]
  rw[K3 e,b];exact f
theorem KV.any{kvs:oA<|κ×V}{b:oA<|κ×lE}(r:KV kvs b)(k:κ):(kvs.any λa=>decide (a.1=k))=b.any λa=>decide (a.1=k):=by
 unfold KV at r
 induction r with
 |nil=>rfl
 |cons h t c=>rw[eD,eD,c,h.1]
def KV.repl{kvs:oA<|κ×V}{b:oA<|κ×lE}(r:KV kvs b)(k:κ){y:V}{u:lE}(c:Bk y u) :
  KV (kvs.map λa=>if a.1=k then(a.1,y) else a) (b.map λa=>if a.1=k then(a.1,u) else a):=by
 unfold KV at r ⊢
 induction r with
 |nil=>exact .nil
 |@cons p q f g h t d=>rw[aQ,aQ];refine .cons ?_ d;obtain⟨h1,h2⟩:=h;by_cases e:p.1=k;rw[T_ e,T_<|h1.symm.trans e];exact⟨h1,c⟩;rw[M_ e,M_ λz=>e<|h1.trans z];exact⟨h1,h2⟩
def KV.put{kvs:oA<|κ×V}{a:oA<|κ×lE}(r:KV kvs a)(k:κ){y:V}{u:lE}(b:Bk y u):KV (putK kvs k y) (stored a k u):=by unfold putK stored;rw[r.any k];by_cases e:(a.any λc=>decide (c.1=k))=true;rw[T_ e,T_ e];exact r.repl k b;rw[M_ e,M_ e];exact lD r ⟨rfl,b⟩
def KV.length{kvs:oA<|κ×V}{a:oA<|κ×lE}(r:KV kvs a):kvs.length=a.length:=bS r
end
def M5{P:lJ}{w:lK}{k:Key}{u:lE}(r:Bk (kV k) u):(Bp P w).is k u=true:=by
 cases k with
 |inl i=>obtain⟨t,e⟩:=(show ∃t,u=Value.int i t from r);subst e;exact F5 P w i t
 |inr x=>obtain⟨t,e⟩:=(show ∃t,u=Value.str x t from r);subst e;exact F6 P w x t
theorem M6{P:lJ}{w:lK}:∀{ks:oA Key} {a:oA lE},Vals (ks.map kV) a->ItemsAre (Bp P w) ks a
 |[],_,r=>by rw[List.map_nil]at r;cases r;exact .nil
 |k::ks,_,r=>by
  rw[aQ]at r;cases r with
  |cons h t=>exact .cons (M5 h)<|M6 t
abbrev KT(H:Hp):oA (oA Key×V)->oA (oA Key×lH×lE)->Prop:=Paired λp q=>p.1=q.1/\H q.2.1=some (.tup<|p.1.map kV)/\Bk p.2 q.2.2
def KT.val{H:Hp}{kvs:oA<|oA Key×V}{xs:oA<|oA Key×lH×lE}(r:KT H kvs xs)(k:oA Key):Jd (Eo kvs k) ((atKey xs k).map (·.2)):=by
 induction r with
 |nil=>exact True.intro
 |@cons p q f c h t d=>
  obtain⟨h1,_,h2⟩:=h;by_cases e:p.1=k;have a:q.1=k:=h1.symm.trans e;have b:atKey (q::c) k=some q.2:=by simp[atKey,List.find?_cons,a]
  rw[K0 e,b];exact h2;have a:¬q.1=k:=λz=>e<|h1.trans z;have b:atKey (q::c) k=atKey c k:=by simp[atKey,List.find?_cons,a]
  rw[K3 e,b];exact d
def KT.repl{H:Hp}{kvs:oA<|oA Key×V}{xs:oA<|oA Key×lH×lE}(r:KT H kvs xs)(k:oA Key){y:V}{u:lE}(b:Bk y u) :
  KT H (kvs.map λa=>if a.1=k then(a.1,y) else a) (xs.map<|putAt k u):=by
 induction r with
 |nil=>exact .nil
 |@cons p q f g h t d=>rw[aQ,aQ];refine .cons ?_ d;obtain⟨h1,h2,c⟩:=h;unfold putAt;by_cases e:p.1=k;rw[T_ e,T_<|h1.symm.trans e];exact⟨h1,h2,b⟩;rw[M_ e,M_ λz=>e<|h1.trans z];exact⟨h1,h2,c⟩
def KT.put{H:Hp}{kvs:oA<|oA Key×V}{xs:oA<|oA Key×lH×lE}(r:KT H kvs xs)(k:oA Key){b:lH}{y:V}{u:lE}(hb:H b=some (.tup<|k.map kV))(a:Bk y u) :
  KT H (putK kvs k y) (storedH xs k b u):=by
 have e:(kvs.any λc=>decide (c.1=k))=(atKey xs k).isSome:=by rw[Pn,(r.val k).isSome_eq,iO]
 unfold putK storedH;rw[e];by_cases q:(atKey xs k).isSome=true;rw[T_ q,T_ q];exact r.repl k a;rw[M_ q,M_ q];exact lD r ⟨rfl,hb,a⟩
def KT.keeps{H H':Hp}{kvs:oA<|oA Key×V}{xs:oA<|oA Key×lH×lE}(r:KT H kvs xs)(ht:∀b a,H b=some (.tup a)->H' b=some (.tup a)):KT H' kvs xs :=
 Paired.mapP r λ_ _ z=>⟨z.1,ht _ _ z.2.1,z.2.2⟩
section
variable {P:lJ}{w:lK}{H:Hp}{h:lN}{a:lH}{X:Cx}{aa:oA<|lH×lO}{σ:St}{s:lF}{y v:V}{u r:lE}{o:oB V}{A:lM}{E:lE->lF->Prop}
def IY{u:HO}(ok:HOk P w H h)(e:Rd H a u):Bx P w H h a u:=e.ok ok
def J6{kvs:oA<|Key×V}(ok:HOk P w H h)(e:Rd H a<|.dK kvs):kvs.length<=sizeLine/\(a==sysModules)=false/\∃b,KV kvs b/\h.DictOf (Bp P w) a b :=
 show Bx P w H h a (.dK kvs) from IY ok e
def RY{kvs:oA<|Key×V}(ok:HOk P w H h)(e:H a=some (.dK kvs)):kvs.length<=sizeLine/\(a==sysModules)=false/\∃b,KV kvs b/\h.DictOf (Bp P w) a b:=J6 ok<|.inl e
def Hn{ks:oA Key}(ok:HOk P w H h)(e:H a=some (.tup<|ks.map kV)):(tupleKind<|Bp P w).is h ks a:=by obtain⟨_,c,r,o,h1,h2,n,b⟩:=(show Bx P w H h a (.tup<|ks.map kV) from ok a _ e);exact⟨o,c.toArray,n,h1,h2,b,by simpa using M6 r⟩
def K5{kvs:oA<|oA Key×V}(ok:HOk P w H h)(e:Rd H a<|.dT kvs):kvs.length<=sizeLine/\(a==sysModules)=false /\
  ∃b,KT H kvs b/\h.DictOfH (tupleKind<|Bp P w) a b:=by
 obtain⟨z,y,b,r,o,i,c,h1,h2,f,d,g⟩:=(show Bx P w H h a (.dT kvs) from IY ok e);refine⟨z,y,b,r,o,i,c,h1,h2,f,d,λx hx=>?_,g⟩;have all:∀{l:oA<|oA Key×V} {m:oA<|oA Key×lH×lE},KT H l m->∀x∈m,(tupleKind<|Bp P w).is h x.1 x.2.1:=by
  intro l m q
  induction q with
  |nil=>intro x hx;exact nomatch hx
  |@cons p q k n hq t j=>intro x hx;rcases Y_.mp hx with e|hx;subst e;exact Hn ok (by rw[<- hq.1];exact hq.2.1);exact j x hx
 exact all r x hx
def Po{kvs:oA<|oA Key×V}(ok:HOk P w H h)(e:H a=some (.dT kvs)):kvs.length<=sizeLine/\(a==sysModules)=false /\
  ∃b,KT H kvs b/\h.DictOfH (tupleKind<|Bp P w) a b:=K5 ok<|.inl e
def DGet(H:Hp)(a:lH)(y:V)(r:oB V):Prop :=
 (∃c k,Rd H a (.dK c)/\y=kV k/\r=Eo c k)\/∃c k b,Rd H a (.dT c)/\y=.ref b/\H b=some (.tup<|k.map kV)/\r=Eo c k
def DPut(H:Hp)(a:lH)(y v:V)(H':Hp):Prop :=
 (∃c k,H a=some (.dK c)/\y=kV k/\c.length<sizeLine/\H'=upd H a (.dK<|putK c k v)) \/
 ∃c k b,H a=some (.dT c)/\y=.ref b/\H b=some (.tup<|k.map kV)/\c.length<sizeLine/\H'=upd H a (.dT<|putK c k v)
def DGet.k{H:Hp}{a:lH}{kvs:oA<|Key×V}{k:Key}(e:H a=some (.dK kvs)):DGet H a (kV k) (Eo kvs k):=.inl ⟨kvs,k,.inl e,rfl,rfl⟩
def DGet.t{H:Hp}{a b:lH}{kvs:oA<|oA Key×V}{k:oA Key}(e:H a=some (.dT kvs))(c:H b=some (.tup<|k.map kV)):DGet H a (.ref b) (Eo kvs k):=.inr ⟨kvs,k,b,.inl e,rfl,c,rfl⟩
def DPut.k{H:Hp}{a:lH}{kvs:oA<|Key×V}{k:Key}{v:V}(e:H a=some (.dK kvs))(b:kvs.length<sizeLine):DPut H a (kV k) v (upd H a<|.dK<|putK kvs k v):=.inl ⟨kvs,k,e,rfl,b,rfl⟩
def DPut.t{H:Hp}{a b:lH}{kvs:oA<|oA Key×V}{k:oA Key}{v:V}(e:H a=some (.dT kvs))(c:H b=some (.tup<|k.map kV))(d:kvs.length<sizeLine) :
  DPut H a (.ref b) v (upd H a<|.dT<|putK kvs k v):=.inr ⟨kvs,k,b,e,rfl,c,d,rfl⟩
def Inv.big(I:Inv X aa σ H s):sysModules<s.heap.objs.size:=by have h:mainGlobals<s.heap.objs.size:=(I.mod.glob.keeps I.bk).lt;exact fL (by decide) h
def We{Q:lE->lF->Prop}(hu:A.units+1<cLine)(I:Inv X aa σ H s)(g:DGet H a y<|some v)(q:Bk y u)(h:∀d t,Inv X aa σ H t->Bk v d->Q d t) :
  qQ X.prog X.w A (getItem (.ref a) u) Q E s:=by
 rcases g with⟨m,k,e,n,l⟩|⟨m,k,b,e,n,B,l⟩;subst n;obtain⟨z,C,D,c,dd⟩:=J6 I.hok e;obtain⟨d,j,i⟩:=Jd.some_of (v:=v) (o:=valueAt D k) (by rw[l];exact c.val k);exact wpAny_getItem_of (M5 q) dd.mapOf j<|h d _ (I.tok _) i;subst n;cases (show u=Value.ref b from q);obtain⟨z,C,x,c,dd⟩:=K5 I.hok e;obtain⟨d,j,i⟩:=Jd.some_of (v:=v) (o:=(atKey x k).map (·.2)) (by rw[l];exact c.val k);obtain⟨p,hp,f⟩:=I_.mp j;refine wpAny_getItem_heap (fA hu) (Hn I.hok B) dd hp ?_;rw[f];exact h d _ (I.tok _) i
def Qag{Q:lE->lF->Prop}(hu:A.units+1<cLine)(I:Inv X aa σ H s)(g:DGet H a y o)(j:Bk y u)(h:∀m,Inv X aa σ H m->Q (.bool o.isSome) m) :
  qQ X.prog X.w A (compareOp .In u<|.ref a) Q E s:=by
 rcases g with⟨d,k,e,i,l⟩|⟨d,k,b,e,i,n,l⟩;subst i;obtain⟨z,f,t,c,dd⟩:=J6 I.hok e;refine wpAny_in_of (M5 j) f dd.mapOf ?_;rw[<- (c.val k).isSome_eq,<- l];exact h _<|I.tok _;subst i;cases (show u=Value.ref b from j);obtain⟨z,f,p,c,dd⟩:=K5 I.hok e;refine wpAny_in_heap (fA hu) (Hn I.hok n) f dd ?_;have q:=(c.val k).isSome_eq;rw[iO]at q;rw[<- q,<- l];exact h _<|I.tok _
def FN{Q:lE->lF->Prop}(hu:A.units+1<cLine)(I:Inv X aa σ H s)(g:DGet H a y o)(j:Bk y u)(h:∀m,Inv X aa σ H m->Q (.bool<|!o.isSome) m) :
  qQ X.prog X.w A (compareOp .NotIn u<|.ref a) Q E s:=by
 rcases g with⟨d,k,e,i,l⟩|⟨d,k,b,e,i,n,l⟩;subst i;obtain⟨z,f,t,c,dd⟩:=J6 I.hok e;refine wpAny_notIn_of (M5 j) f dd.mapOf ?_;rw[<- (c.val k).isSome_eq,<- l];exact h _<|I.tok _;subst i;cases (show u=Value.ref b from j);obtain⟨z,f,p,c,dd⟩:=K5 I.hok e;refine wpAny_notIn_heap (fA hu) (Hn I.hok n) f dd ?_;have q:=(c.val k).isSome_eq;rw[iO]at q;rw[<- q,<- l];exact h _<|I.tok _
def Ko{h':lN}{t':Nat}{d:HO}(I:Inv X aa σ H s)(f:Mut<|H a)(hs:Heap.SameBut a s.heap h')(he:∃q,h'.get? a=some q)(c:Bx X.prog X.w (upd H a d) h' a d) :
  Inv X aa σ (upd H a d) {s with heap:=h',toks:=t'} :=
 I.write (x:=a) (e:=a) f (.inl rfl) (λb q hb z=>(hs.2 b hb).trans z) he c
def ME{P:lJ}{w:lK}{H':Hp}{h':lN}{kvs:oA<|Key×V}{c:oA<|Key×lE}(z:kvs.length<=sizeLine)(d:(a==sysModules)=false)(b:KV kvs c)(dd:h'.DictOf (Bp P w) a c) :
  Bx P w H' h' a (.dK kvs):=⟨z,d,c,b,dd⟩
def Wg{H':Hp}{Q:Unit->lF->Prop}(hu:A.units+1<cLine)(I:Inv X aa σ H s)(g:DPut H a y v H')(F:Bk y u)(B:Bk v r)(h:∀G,Inv X aa σ H' G->Q () G) :
  qQ X.prog X.w A (setItem (.ref a) u r) Q E s:=by
 rcases g with⟨d,k,e,m,l,j⟩|⟨d,k,b,e,m,C,l,j⟩;subst m j;obtain⟨z,t,S,f,dd⟩:=RY I.hok e;have hz:S.length<=sizeLine:=by rw[<- f.length];exact z
 have p:(putK d k v).length<=sizeLine:=by have:=F9 d k v;omega
 refine wpAny_setItem_pairs (hsz:=hz) (M5 F) dd λx i n=>h _ ?_;have he:∃q,x.get? a=some q:=let⟨q,_,_,hq,_⟩:=i;⟨q,hq⟩
 exact Ko I (by rw[e];exact True.intro) n he<|ME p t (f.put k B) i
 subst m j;cases (show u=Value.ref b from F);obtain⟨z,t,O,f,dd⟩:=Po I.hok e;have hz:O.length<=sizeLine:=by rw[<- bS f];exact z
 have p:(putK d k v).length<=sizeLine:=by have:=F9 d k v;omega
 refine wpAny_setItem_heap (hsz:=hz) (fA hu) (Hn I.hok C) dd λx i n=>h _ ?_;obtain⟨q,N,J,hq,h2,M,L,_,R⟩:=i;refine Ko I (by rw[e];exact True.intro) n ⟨q,hq⟩ ⟨p,t,_,(f.put k C B).keeps λc T D=>?_,q,N,J,hq,h2,M,L,R⟩;rw[Au<|Ph D e (λz=>nomatch z)];exact D
end
section
variable {X:Cx}{aa:oA<|lH×lO}{σ:St}{H:Hp}{s:lF}{a:lH}{kvs:oA<|Key×V}{k:Key}{u:lE}{A:lM}{E:lE->lF->Prop}{o i e value:lL}{pos ck jc:Pos}{td ty tv:TE}
def RZ{Q:lE->lF->Prop}(I:Inv X aa σ H s)(e:Rd H a<|.dK kvs)(h:∀t c,Inv X aa σ H c->Q (.int kvs.length t) c):qQ X.prog X.w A (call (.builtin "len") [.ref a]) Q E s:=by obtain⟨z,d,f,b,dd⟩:=J6 I.hok e;refine call_len_dict d dd (by rw[<- b.length];rw[sizeLine_eq]at z;omega) ?_;rw[<- b.length];exact h _ _<|I.tok _
def MF(i:lL):Prop:=∀c b,subscripted i false c b=operate [c,b] (getItem c b)
def FO{prog:lJ}{w:lK}{A:lM}{E:lE->lF->Prop}{s:lF}{env:Env}{value b:lL}{pos:Pos}{T id:String}{Q:lE->lF->Prop}
  (p:typeLookup (.type T) "__getitem__" = pure (some<|.builtin id)) (hs:MF b)
  (h:qQ prog w A (eval value env) (λo f=>qQ prog w A (eval b env) (λi c=>c.TypeIs o T/\qQ prog w A (getItem o i) Q E c) E f) E s) :
  qQ prog w A (eval (.Subscript value b pos) env) Q E s:=by
 refine Subscript_<|cD h (λo f l=>cD l (λi c d=>?_) λ_ _ x=>x) λ_ _ x=>x;obtain⟨n,d⟩:=d;unfold subscriptTail;refine A_ ?_;rw[getitemInPython_of_ne n.not_modules];refine A_<|dX n p ?_;have j:qQ prog w A (subscripted b false o i) (λr g=>qQ prog w A (letTemporaryGo value o r>>=λ_=>pure r) Q E g) E c:=by rw[hs o i];exact wpAny_operating<|cD d (λr g m=>A_<|wpAny_letTemporaryGo<|C_ m) λ_ _ x=>x
 first
  |exact C_ (A_ j)
  |exact A_ (C_<|A_ j)
  |exact A_ j
def Pp{X:Cx}{aa:oA<|lH×lO}{σ:St}{H:Hp}{s:lF}{a:lH}{y:V}{o:oB V}(I:Inv X aa σ H s)(g:DGet H a y o):s.TypeIs (.ref a) "dict" := by rcases g with⟨kvs,k,e,_,_⟩|⟨kvs,k,b,e,_,_,_⟩;obtain⟨_,_,d,_,dd⟩:=J6 I.hok e;exact dd.typeIs;obtain⟨_,_,c,_,dd⟩:=K5 I.hok e;exact dd.typeIs
def SA(td ty:TE):TE:=λσ H Q=>td σ H λx c=>ty σ c λy b=>∃a v,x=.ref a/\DGet b a y (some v)/\Q v b
def SB(ty td:TE):TE:=λσ H Q=>ty σ H λy c=>td σ c λx b=>∃a o,x=.ref a/\DGet b a y o/\Q (.bl o.isSome) b
def Uc(ty td:TE):TE:=λσ H Q=>ty σ H λy c=>td σ c λx b=>∃a o,x=.ref a/\DGet b a y o/\Q (.bl<|!o.isSome) b
def SC(td ty tv:TE):TS:=λD σ H=>tv σ H λv f=>td σ f λx c=>ty σ c λy d=>∃a b,x=.ref a/\DPut d a y v b/\D.nx σ b
def FP(hu:X.A.units+1<cLine)(z:PE X o td)(C:PE X i ty)(hs:MF i):PE X (.Subscript o i pos) (SA td ty):=by intro aa s σ H Q I h;refine FO PySem.F.slot_dict_getitem.lookup hs<|thn (z aa s σ H _ I h) λu n d=>Db d λx r j m c=>thn (C aa n σ r _ j c) λG L w=>?_;obtain⟨y,f,b,t,a,v,B,g,l⟩:=w;subst B;obtain rfl:u=Value.ref a:=m;exact⟨Pp b g,We hu b g t λD J p q=>⟨v,f,p,q,l⟩⟩
def MG(hu:X.A.units+1<cLine)(B:PE X i ty)(w:PE X o td):PC X .In i o (SB ty td):=by intro aa s σ H Q I h;refine thn (B aa s σ H _ I h) λC n b=>Db b λy q f r c=>thn (w aa n σ q _ f c) λu F m=>?_;obtain⟨x,d,v,l,a,t,z,g,j⟩:=m;subst z;obtain rfl:u=Value.ref a:=l;exact Qag hu v g r λD p=>⟨.bl t.isSome,d,p,rfl,j⟩
def Wh(hu:X.A.units+1<cLine)(d:PE X i ty)(v:PE X o td):PC X .NotIn i o (Uc ty td):=by intro aa s σ H Q I h;refine thn (d aa s σ H _ I h) λC m B=>Db B λy p f q b=>thn (v aa m σ p _ f b) λu F z=>?_;obtain⟨x,c,t,l,a,r,w,g,j⟩:=z;subst w;obtain rfl:u=Value.ref a:=l;exact FN hu t g q λD n=>⟨.bl<|!r.isSome,c,n,rfl,j⟩
def FQ(hu:X.A.units+1<cLine)(p:PE X o td)(N:PE X i ty)(hv:PE X value tv)(hs:swapsWith value (some<|.Subscript o i ck) pos.line X.env=pure false) :
  PS X (.Assign [.Subscript o i ck] value pos) (SC td ty tv):=by
 intro aa s σ H D I h;refine wpAny_Assign_Subscript (thn (hv aa s σ H _ I h) λr d q=>Db q λv l B w z=>thn (p aa d σ l _ B z) λu L j=>Db j λx b n C c=>thn (N aa L σ b _ n c) λR Q F=>?_) hs;obtain⟨y,O,f,G,a,M,t,g,J⟩:=F;subst t;obtain rfl:u=Value.ref a:=C;exact Wg hu f g G w λP m=>⟨σ,M,m,J⟩
def Yz{P:lJ}{w:lK}{H:Hp}(h:lN)(hb:sysModules<h.objs.size):Bx P w H (h.push {cls:=.type "dict",data:=.dict #[]}) h.objs.size (.dK []) :=
 ⟨aG _,j_.mpr<|fI<|aB hb,[],.nil,Heap.DictOf.new h⟩
def Y0{P:lJ}{w:lK}{H:Hp}(h:lN)(hb:sysModules<h.objs.size):Bx P w H (h.push {cls:=.type "dict",data:=.dict #[]}) h.objs.size (.dT []) :=
 ⟨aG _,j_.mpr<|fI<|aB hb,[],.nil,_,#[],0,K_ _ rfl,⟨rfl,rfl,rfl⟩,rfl,rfl,bQ⟩
def MH:TE:=λ_ H Q=>∀p,H p=none->Q (.ref p) (upd H p<|.dK [])
def MJ:TE:=λ_ H Q=>∀p,H p=none->Q (.ref p) (upd H p<|.dT [])
def Y1:PE X (.Dict [] [] pos) MH:=λaa s σ H Q I h=>
 wpAny_Dict_empty ⟨.ref s.heap.objs.size,_,I.laid (a:=s.heap.objs.size) (o:=.dK []) (t':=s.toks) (λ_ _ q=>D_ _ q) (J_ _)<|Yz s.heap I.big,rfl,h _<|I.hok.fresh<|J_ _⟩
def Y2:PE X (.Dict [] [] pos) MJ:=λaa s σ H Q I h=>
 wpAny_Dict_empty ⟨.ref s.heap.objs.size,_,I.laid (a:=s.heap.objs.size) (o:=.dT []) (t':=s.toks) (λ_ _ q=>D_ _ q) (J_ _)<|Y0 s.heap I.big,rfl,h _<|I.hok.fresh<|J_ _⟩
end
structure M1(X:Cx)(o:lL)(m:Str)(ao:Pos)(e:lL)(ak:Pos):Prop where
 base:attributeBase o m X.env (eval o X.env)=eval o X.env
 few:((backTo ak<|starEach [e] X.env).all (λx=>!x.1)&&(backToKw ak<|keywordEach [] X.env).all (λx=>x.1.isSome)
  && decide (([e]:oA lL).length+([]:oA Keyword).length+(if([]:oA Keyword).isEmpty then 0 else 1)<30))=true
 line:(ao.endLine==ak.line)=true
 trees:backTo ak (starEach [e] X.env)=[(false,eval e X.env)]
structure M2(X:Cx)(o:lL)(m:Str)(ao:Pos)(e f:lL)(ak:Pos):Prop where
 base:attributeBase o m X.env (eval o X.env)=eval o X.env
 few:((backTo ak<|starEach [e,f] X.env).all (λx=>!x.1)&&(backToKw ak<|keywordEach [] X.env).all (λx=>x.1.isSome)
  && decide (([e,f]:oA lL).length+([]:oA Keyword).length+(if([]:oA Keyword).isEmpty then 0 else 1)<30))=true
 line:(ao.endLine==ak.line)=true
 trees:backTo ak (starEach [e,f] X.env)=[(false,eval e X.env),(false,eval f X.env)]
def YS(H:Hp)(a:lH):Prop:=(∃b,Rd H a<|.dK b)\/∃b,Rd H a<|.dT b
def Y3{X:Cx}{i:oA<|lH×lO}{h:St}{H:Hp}{s:lF}{a:lH}(I:Inv X i h H s)(d:YS H a) :
  s.TypeIs (.ref a) "dict" /\ (∀b,Value.ref a=.ref b->∃c,s.heap.get? b=some c/\c.dict=none)/\(a==sysModules)=false:=by
 rcases d with⟨f,e⟩|⟨f,e⟩;obtain⟨_,g,k,_,dd⟩:=J6 I.hok e;refine⟨dd.typeIs,λb q=>?_,g⟩;cases q;obtain⟨c,_,_,h1,h2,_⟩:=dd;exact⟨c,h1,h2.2.1⟩;obtain⟨_,g,j,_,dd⟩:=K5 I.hok e;refine⟨dd.typeIs,λb q=>?_,g⟩;cases q;obtain⟨c,_,_,h1,h2,_⟩:=dd;exact⟨c,h1,h2.2.1⟩
section
variable {X:Cx}{aa:oA<|lH×lO}{σ:St}{H:Hp}{s:lF}{a:lH}{y d:V}{u r:lE}{o:oB V}{A:lM}{E:lE->lF->Prop}
def MK{Q:lE->lF->Prop}(hu:A.units+1<cLine)(I:Inv X aa σ H s)(g:DGet H a y o)(n:Bk y u)(rd:Bk d r)(h:∀m p,Inv X aa σ H p->Bk (o.getD d) m->Q m p) :
  qQ X.prog X.w A (call (.builtin "dict.get") [.ref a,u,r]) Q E s:=by
 rcases g with⟨f,k,e,j,l⟩|⟨f,k,b,e,j,t,l⟩;subst j;obtain⟨z,i,v,c,dd⟩:=J6 I.hok e;refine iP i_ dd.typeIs PySem.F.entry_dict_get (PySem.F.args_dict_get_3 _ _ _) (meets_dict_get_default (Bp X.prog X.w) a (M5 n) i r) ⟨_,dd.mapOf,h _ _ (I.tok _) ?_⟩;rw[l];exact(c.val k).getD rd;subst j;cases (show u=Value.ref b from n);obtain⟨z,i,q,c,dd⟩:=K5 I.hok e;refine iP i_ dd.typeIs PySem.F.entry_dict_get (PySem.F.args_dict_get_3 _ _ _) (meetsH_dict_get_default (tupleKind<|Bp X.prog X.w) a b i r) ⟨fA hu,k,q,Hn I.hok t,dd,h _ _ (I.tok _) ?_⟩;rw[l];exact(c.val k).getD rd
end
def MM(td ty f:TE):TE:=λb H Q=>td b H λx d=>∃a,x=.ref a/\YS d a/\ty b d λy e=>f b e λz c=>∃o,DGet c a y o/\Q (o.getD z) c
section
variable {X:Cx}{o e f:lL}{ao ak:Pos}{td ty tx:TE}
def Y4(hu:X.A.units+1<cLine)(C:PE X o td)(he:PE X e ty)(J:PE X f tx)(m:M2 X o "get" ao e f ak):PE X (.Call (.Attribute o "get" ao) [e,f] [] ak) (MM td ty tx):=by
 intro c s b H Q I h;refine wpAny_Call_method m.base m.few m.line fX i_ PySem.F.type_dict_get<|thn (C c s b H _ I h) λu l v=>?_;obtain⟨x,r,i,L,a,E,d,G⟩:=v;subst E;obtain rfl:u=Value.ref a:=L;obtain⟨D,R,_⟩:=Y3 i d;refine⟨D,R,?_⟩;rw[m.trees];refine gE rfl<|jN<|cX<|thn (he c l b r _ i G) λY P O=>Db O λy j B M k=>
  cX (thn (J c P b j _ B k) λU V ⟨z,q,p,t,W,g,N⟩=>dO ?_)
 exact MK hu p g M t λS T w n=>⟨_,q,w,n,N⟩
end
end L2
namespace Att
open PySem PySem.W PySem.Calls PyProof.Rows
def Kg{P:Params}{h:lN}:∀(ns:oA Int) (c:oA lE),WellAll P h c (ns.map WData.int)->IntsAre c ns:=by
 intro ns
 induction ns with
 |nil=>intro c w;rw[List.map_nil]at w;cases w;exact .nil
 |cons n ns d=>
  intro c w;rw[aQ]at w;cases w with
  |cons a b=>cases a;exact .cons _ _<|d _ b
def Wi{l:OpenLaw}{n:Nat}(o:l.most=some n){P:Params}{h:lN}{args:oA WData}{g:oA lE}
  (f:l.row.toRowW.claim.pre args=true) (t:WellAll P h g args) :
  ∃a i ns,g=[Value.ref a]/\args=[WData.list<|ns.map WData.int]/\h.get? a=some {cls:=.type "list",data:=.seq i.toArray}/\IntsAre i ns/\ns.length<=n:=by
 have e:WShape.hasAll [] args [.list .int]=true:=(pre_splitW f).1;have hc:l.pre.holds [] {args:=args}=true:=(pre_splitW f).2;obtain⟨d,r,rfl,h1,h2⟩:=hasAllW_cons e;obtain rfl:=hasAllW_nil h2;obtain⟨w,rfl,s⟩:=hasW_list h1;obtain⟨ns,rfl⟩:=items_int s;have p:ns.length<=n:=by
  unfold OpenLaw.pre at hc;have b:(WTm.not<|.lt (.lit<|.int (n:Int))<|.len<|.arg 0).holds [] {args:=[.list<|ns.map .int]}=true:=by have b:=(holds_andW hc).1;rw[o]at b;exact b
  have c:=condW_of b<|w_not<|w_lt w_lit<|w_len_list<|w_arg rfl;rw[B_]at c;refine kS λq=>?_;have k:(n:Int)<((ns.length:Nat):Int):=by omega
  first
   | (rw[aV k]at c;exact absurd c<|by decide)
   | (simp at c;omega)
 cases t with
 |cons j m=>
  cases m;cases j with
  |list u v=>exact⟨_,_,ns,rfl,rfl,u,Kg ns _ v,p⟩
def Wj(l:OpenLaw)(args:oA WData):l.row.toRowW.claim.post args (.bool true) args=true :=
 postW_of (r:=l.row.toRowW) (X:=(true==true))
  (show WShape.has [] (.bool true) .bool=true by first|rfl|decide|simp[WShape.has,WShape.arms,WShape.armsAll])
  (show(WTm.eq .res<|.lit<|.bool true).value [] {args:=args,res:=some<|.bool true,after:=args}=some (.bool<|true==true) from w_eq_bool (w_res rfl) w_lit) rfl
def attach_call{l:OpenLaw}{n:Nat}{q:lJ}{z:oA Str}{x:(Str->oB lE)->lN->Prop}{u:lK->lN->Prop}{d:DefRec}
  (J:l.most=some n) (C:d.params.defaults=[])
  (call:∀(w:lK) (s₀ b:lF) (i t:Str->oB lE) (g:lH) (o:lO) (p j s:lE) (a:lH) (e:oA lE) (ns:oA Int),
   Ground q z [] x w s₀ i t b.heap->u w b.heap ->
   b.heap.get? g=some o->o.data=.func (docDef d.name d.params d.body d.scope p j s)->b.heap.CodeRec j d.name->i d.name=some (.ref g) ->
   b.heap.get? a=some {cls:=.type "list",data:=.seq e.toArray}->IntsAre e ns->ns.length<=n->b.gens=#[] ->
   codeAny (model l.prog w) callerA (.call (.ref g) ⟨[.ref a],[]⟩) (λr k=>r=.ok (.ret<|.bool true)/\OldK b.heap k.heap/\k.os=b.os/\AllBare k.gens) b) :
  WalkO q z x u l.row.toRowW d [] (λf e=>PySem.call f e):=by
 intro w s₀ b i t G Y g o p j s P kV H M I y m L v S T B A R N O;obtain rfl:P=.none:=Dflts.none y C;obtain rfl:kV=.none:=Dflts.noKw y;obtain⟨a,e,ns,rfl,rfl,h,c,F⟩:=Wi J B N;refine enter_call<|kF (call w s₀ b i t g o p j s a e ns G Y H (fd_plain M) I m h c F L) λr k hq=>?_;obtain⟨rfl,h2,E,D⟩:=hq;exact⟨.inl ⟨.bool true,.bool true,[],rfl,λ_=>rfl,.bool true,Wj l _,λ_=>⟨List.Pairwise.nil,λ_ Q=>(nomatch Q)⟩⟩,h2,E,D⟩
end Att
namespace L2
open PySem PySem.Spec PyProof.Rows
theorem M7:∀{a:oA lE} {ns:oA Int},IntsAre a ns->Vals (ns.map V.int) a
 |_,_,.nil=>.nil
 |_,_,.cons n t h=>.cons ⟨t,rfl⟩<|M7 h
def Only(H:Hp):Prop:=∀b,H b=none\/∃o a,H b=some (.frz o<|.lst a)
def Y5{P:lJ}{w:lK}{K:lI}{l D:Str->oB lE}{CX:CXT}{k:Nat}{C a:lH}{T:lQ}{x:Str}{sp:Sp}{c:lF}{i:oA lE}{ns:oA Int}
  (J:K.In c.heap) (N:c.heap.Ns mainGlobals l) (hb:c.heap.Ns builtinsNs D) (G:∀x:Str,x ≠ "__name__" -> D x=bootBuiltins x) (X:c.heap.NoLimit) (hg:c.gens=#[])
  (ha:c.heap.get? a=some {cls:=.type "list",data:=.seq i.toArray}) (W:IntsAre i ns) (Q:ns.length<=sizeLine) (hr:Room k callerA) (F:∀g:lN,K.In g->g.Ns mainGlobals l->FnOk P w K l g CX k C T [x] sp) (Z:∀(s:lF) (u:lE),BindsTo s T ⟨[u],[]⟩ [(x,u)])
  (fy:∀H:Hp,Only H->Fu K H a (ns.map V.int)->sp [.ref a] H (λv _=>v=.bl true) λ_ _ _=>False)
  (yj:∀H e f,CX [] H c (λ_ _ _=>False) e f->False) :
  codeAny (model P w) callerA (.call (.ref C) ⟨[.ref a],[]⟩) (λr f=>r=.ok (.ret<|.bool true)/\OldK c.heap f.heap/\f.os=c.os/\AllBare f.gens) c:=by
 have M:=M7 W;have xa:=W.length;have R:∀H:Hp,Only H->Fu K H a (ns.map V.int)->HOk P w H c.heap->(∀b,H b≠none->b=a)->(H a≠none->K.lookup a=none) ->
   codeAny (model P w) callerA (.call (.ref C) ⟨[.ref a],[]⟩) (λr f=>r=.ok (.ret<|.bool true)/\OldK c.heap f.heap/\f.os=c.os/\AllBare f.gens) c:=by
  intro H U hS p I hK;have O:∀{b:lH} {o:lO},c.heap.get? b=some o->H b=none->(N0 c.heap H).get? b=some o:=λe n=>Yg e n;have rq:∀{b:lH} {o:lO} {es:oC DictEntry} {ep:Nat},c.heap.get? b=some o->o.data=.dict es ep->H b=none:=λ{b o es ep} e d=>by
   cases q:H b with
   |none=>rfl
   |some u=>have E:b=a:=I b (by rw[q];simp);subst E;rw[ha]at e;cases e;have d':Data.seq i.toArray _=Data.dict es ep:=d;cases d'
  have B:∀{b:lH} {m:Str->oB lE},c.heap.Ns b m->(N0 c.heap H).Ns b m:=λ{b m} ⟨o,es,ep,e,d,r⟩=>⟨o,es,ep,O e<|rq e d,d,r⟩;have j:K.In (N0 c.heap H):=λb o e=>O (J b o e) (by
   cases q:H b with
   |none=>rfl
   |some u=>
    have E:b=a:=I b (by rw[q];simp);subst E;rw[hK<|by rw[q];simp]at e;cases e)
  have hM:Mod K l (N0 c.heap H):=⟨j,B N,⟨D,B hb,G⟩,by obtain⟨mc,h1,h2⟩:=X;exact⟨mc,B h1,h2⟩⟩;have e0:Env0 P w K l (N0 c.heap H) callerA [] c H:=⟨rfl,hM,λb o e=>EQ e,fM<|V5 _ _,trivial,λb hb=>absurd (show b∈([]:oA lH) from hb)<|by simp,p,.of_eq hg⟩;refine kF ((F _ j<|B N).run callerA [] c H ⟨[.ref a],[]⟩ [.ref a] [.ref a] _ _ hr e0 (Z c<|.ref a) (.cons rfl .nil)<|fy H U hS) λr f h=>?_;cases r with
  |error e=>exact(yj H e f h).elim
  |ok fl=>
   cases fl with
   |next=>exact False.elim h
   |brk=>exact False.elim h
   |cont=>exact False.elim h
   |ret u=>
    obtain⟨v,H',os,y,L,A,r',q⟩:=h;have q':v=.bl true:=q;subst q';obtain rfl:u=Value.bool true:=r';refine⟨rfl,OldK.of_keep λb o e=>?_,os,y⟩;cases q:H b with
    |none=>exact L.keep b o e q (by intro z;exact absurd (show b∈([]:oA lH) from z)<|by simp) (by simp)
    |some u=>rcases U b with z|⟨Y,xs,z⟩;rw[q]at z;cases z;have z2:=L.frzs b Y _ z;obtain⟨S,_⟩:=p b _ z;obtain⟨e2,_⟩:=A b _ z2;rw[e]at S;cases S;exact e2
 cases hk:K.lookup a with
 |some o=>have e:=J a o hk;rw[ha]at e;cases e;refine R (λ_=>none) (λ_=>.inl rfl) (.inr ⟨_,i.toArray,_,hk,rfl,rfl,rfl,by rw[W_,xa];exact Q,by simpa using M⟩) (λb u z=>by have t:(none:oB HO)=some u:=z;cases t) (λb z=>absurd rfl z) λz=>absurd rfl z
 |none=>refine R (λb=>if b=a then some (.frz {cls:=.type "list",data:=.seq i.toArray}<|.lst<|ns.map V.int) else none) (λb=>?_) (.inl<|.inr ⟨{cls:=.type "list",data:=.seq i.toArray},T_ rfl⟩) (λb u z=>?_) (λb z=>?_) λ_=>hk;by_cases hb:b=a;exact .inr ⟨_,_,T_ hb⟩;exact .inl<|M_ hb;by_cases hb:b=a;have t:=(T_ hb).symm.trans z;cases t;subst hb;exact⟨ha,by rw[B_];exact Q,i,_,M,ha⟩;have t:=(M_ hb).symm.trans z;cases t;by_cases hb:b=a;exact hb;exact absurd (M_ hb) z
def walk_of{l:PySem.W.OpenLaw}{n k:Nat}{q:lJ}{P:oA Str}{J:(Str->oB lE)->lN->Prop}{A:lK->lN->Prop}{d:DefRec}{K:Params->lI}{CX:lK->CXT}{sp:lK->Sp}{x:Str}
  (R:l.most=some n) (O:n<=sizeLine) (L:d.params.defaults=[]) (hr:Room k callerA) (M:∀(w:lK) (h:lN),A w h->(K w.params).In h) (F:∀(w:lK) (j:Str->oB lE) (r:lH) (h:lN),(K w.params).In h->h.Ns mainGlobals j->j d.name=some (.ref r) ->
   ∃y:lQ,(∀(s:lF) (u:lE),BindsTo s y ⟨[u],[]⟩ [(x,u)]) /\
    ∀c:lN,(K w.params).In c->c.Ns mainGlobals j->FnOk l.prog w (K w.params) j c (CX w) k r y [x] (sp w)) (N:∀(w:lK) (H:Hp) (a:lH) (ns:oA Int),ns.length<=n->Only H->Fu (K w.params) H a (ns.map V.int)->sp w [.ref a] H (λv _=>v=.bl true) λ_ _ _=>False) (X:∀(w:lK) (H:Hp) (s:lF) (e:lE) (z:lF),CX w [] H s (λ_ _ _=>False) e z->False) :
  PySem.W.WalkO q P J A l.row.toRowW d [] (λf E=>PySem.call f E):=by
 refine Att.attach_call R L λw D p j mb r o Z cd bj a E ns G Y ho hd gu t m i C S=>?_;have B:=M w _ Y;obtain⟨y,hb,Q⟩:=F w j r _ B G.T.g t;exact Y5 B G.T.g G.T.b G.T.builtins G.T.nolimit S m i (R_ C O) hr Q hb (λH U I=>N w H a ns C U I) λH e z=>X w H p e z
def Dz(s:lP):Arguments:=match s with
 |.FunctionDef _ a _ _ _ _ _ _ _ _=>a
 |_=>{posonlyargs:=[],args:=[],vararg:=none,kwonlyargs:=[],kw_defaults:=[],kwarg:=none,defaults:=[]}
def Cr(s:lP):oA lP:=match s with
 |.FunctionDef _ _ b _ _ _ _ _ _ _=>b
 |_=>[]
def Ai(s:lP):lT:=match s with
 |.FunctionDef _ _ _ _ _ _ sc _ _ _=>sc
 |_=>{kind:=.function,names:=[],isGenerator:=false,isCoroutine:=false}
abbrev Dm:CXT:=λ_ _ _ _ _ _=>False
abbrev E0:XK:=λ_ _ _=>False
def SD{X:Cx}:Passes Dm X E0:=λ_ _ _ _ _ _ _ h=>h.elim
structure Fun(K:lI)(x qual:Str)(st:lP)(f:lH)(fd:lQ):Prop where
 ex:∃(oc:lE) (od:oB lH) (kV bj pm:lE) (an:oB lH) (am ct:lE) (f8:oC<|oB lE),
  fd=PySem.W.fnOf x qual (Dz st) (Cr st) (Ai st) .none kV bj pm an am ct/\K.lookup f=some ⟨oc,od,.func fd,f8⟩/\PySem.W.codeIn K am qual=true
 kp:PySem.W.keepIn K (.ref f)=true
section
variable {P:lJ}{w:lK}{K:lI}{mg:Str->oB lE}{base:lN}{X:Cx}
def Fun.ok{x a:Str}{st:lP}{f:lH}{d:lQ}{N ps:oA Str}{k:Nat}{sp:Sp}(F:Fun K x a st f d)(S:FnScope N ps<|Ai st)(len:∀b H Q E,sp b H Q E->b.length=ps.length)
  (j:∀(c:lE) (A:lM) (outer:oA Env) (s:lF) (H:Hp) (b:oA V) (Q:VK) (E:XK),Room k (A.deeper<|envOfC a (Ai st) s.heap.objs.size f c)->sp b H Q E ->
   ∃t,PSs (N1 Dm P w K mg base N a (Ai st) f c A outer s H E).nox (Cr st) t/\t {nx:=λ_ l=>Q .non l,rt:=Q} (start N b) H):FnOk P w K mg base Dm (k+1) f d ps sp:=by
 obtain⟨r,p,kV,n,m,u,c,o,v,rfl,e,i⟩:=F.ex;refine IX e i S len λA outer s H b Q E hr g=>?_;obtain⟨t,h,q⟩:=j c A outer s H b Q E hr g;exact⟨t,h.nox,q⟩
def Fun.binds{x a:Str}{st:lP}{f:lH}{i:lQ}{ps:oA Str}(F:Fun K x a st f i)
  (h:∀(kV g e:lE) (d:oB lH) (c ct:lE) (b:oA lE),b.length=ps.length->bindArgs (PySem.W.fnOf x a (Dz st) (Cr st) (Ai st) .none kV g e d c ct) ⟨b,[]⟩=pure (ps.zip b)):Binds K i ps []:=by
 obtain⟨k,m,kV,g,e,d,c,ct,n,rfl,j,l⟩:=F.ex;exact .all<|h kV g e d c ct
def MN{x a:Str}{st:lP}{f:lH}{h:lE}{i d:oB lH}{j:oC<|oB lE}{kV g e b ct:lE}(l:K.lookup f=some ⟨h,i,.func<|PySem.W.fnOf x a (Dz st) (Cr st) (Ai st) .none kV g e d b ct,j⟩)
  (c:PySem.W.codeIn K b a=true) (k:PySem.W.keepIn K (.ref f)=true):Fun K x a st f (PySem.W.fnOf x a (Dz st) (Cr st) (Ai st) .none kV g e d b ct):=⟨⟨h,i,kV,g,e,d,b,ct,j,rfl,l,c⟩,k⟩
def Dh{A:lM}{k:Nat}(hr:Room k A):A.units+1<cLine:=dG (kB (by decide:1<=64) _) hr.units
def A3{n:Nat}(h:n<=1000):n<sizeLine:=dG h<|by decide
def Wl:F7 X (.builtin "len") (λc H Q=>∃a b,c=[V.ref a]/\H a=some (.dK b)/\Q (.int b.length) H):=by intro i s g H c f Q I r h;obtain⟨a,b,rfl,ha,q⟩:=h;obtain⟨u,rfl,d⟩:=F8 r;cases d;exact RZ I (.inl ha) λt j e=>⟨.int b.length,H,e,⟨t,rfl⟩,q⟩
end
section
variable {κ:Type} [DecidableEq κ]
end
end L2
set_option maxHeartbeats 4000000
namespace L2
open PySem
def Ey(a:oA<|Str×lH):oA (Str×lU)->oA (Str×lH)->oA (Str×lH)
 |[],b=>b
 | (n,k)::r,b=>if k=NameKind.free then Ey a r ((n,(a.lookup n).getD 0)::b) else Ey a r b
def Hh{a:lT}{env:Env}(h:∀x∈a.names,x.2=.free->∃c,env.cells.lookup x.1=some c) :
  closureFor a env=pure (Ey env.cells a.names []):=by
 have f:∀(names:oA<|Str×lU) (acc:oA<|Str×lH),(∀x∈names,x.2=.free->∃c,env.cells.lookup x.1=some c) ->
   (do
     let mut g:=acc
     for (b,d) in names do
      if d==.free then g:=(b,<- cellOf env b)::g
     return g:Sem<|oA<|Str×lH)=pure (Ey env.cells names acc):=by
  intro names
  induction names with
  |nil=>intro acc _;rfl
  |cons x r i=>
   intro acc h;obtain⟨n,k⟩:=x;have hr:∀y∈r,y.2=.free->∃c,env.cells.lookup y.1=some c:=λy hy=>h y<|aA _ hy;by_cases hk:k=.free;subst hk;obtain⟨c,hc⟩:=h (n,.free) aK rfl;have e:cellOf env n=pure c:=by unfold cellOf;rw[hc]
   have q:=i ((n,c)::acc) hr;simp only[List.forIn_cons,beq_self_eq_true,if_true,e];unfold Ey;rw[T_ rfl,hc];exact q;have hb:(k==NameKind.free)=false:=by simpa using hk
   have q:=i acc hr;simp only[List.forIn_cons,hb,Bool.false_eq_true,if_false];unfold Ey;rw[M_ hk];exact q
 exact f a.names [] h
theorem Ic{a:oA<|Str×lH}:∀{names:oA<|Str×lU} {acc:oA<|Str×lH},
  (∀x∈names,x.2=.free->∃c,a.lookup x.1=some c)->(∀x c,acc.lookup x=some c->a.lookup x=some c) ->
  ∀x c,(Ey a names acc).lookup x=some c->a.lookup x=some c
 |[],_,_,h,x,c,e=>h x c e
 | (n,k)::r,acc,f,h,x,c,e=>by
  unfold Ey at e;have hr:∀y∈r,y.2=.free->∃c,a.lookup y.1=some c:=λy hy=>f y<|aA _ hy;by_cases hk:k=.free
  ·rw[T_ hk]at e;refine Ic hr (λy d q=>?_) x c e;obtain⟨g,b⟩:=f (n,k) aK hk;have b:a.lookup n=some g:=b;rw[cQ]at q;cases hy:y==n with
   |true=>
    rw[hy,b]at q;have i:y=n:=by simpa using hy
    rw[i,b];exact q
   |false=>rw[hy]at q;exact h y d q
  rw[M_ hk]at e;exact Ic hr h x c e
theorem Ho{a:oA<|Str×lH}{x:Str}:∀{names:oA<|Str×lU} {acc:oA<|Str×lH},
  (∃c,acc.lookup x=some c)->∃c,(Ey a names acc).lookup x=some c
 |[],_,h=>h
 | (n,k)::r,acc,⟨c,h⟩=>by
  unfold Ey;split
  ·refine Ho ?_;rw[cQ];cases x==n with
   |true=>exact⟨_,rfl⟩
   |false=>exact⟨c,h⟩
  exact Ho ⟨c,h⟩
theorem Ie{a:oA<|Str×lH}{x:Str}:∀{names:oA<|Str×lU} {acc:oA<|Str×lH},
  (x,NameKind.free)∈names->∃c,(Ey a names acc).lookup x=some c
 | (n,k)::r,acc,h=>by unfold Ey;rcases Y_.mp h with e|e;cases e;rw[T_ rfl];refine Ho ?_;rw[cQ,kT];exact⟨_,rfl⟩;split;exact Ie e;exact Ie e
end L2
namespace PySem
open Sem (wp)
section
variable {prog:lJ}{w:lK}{A:lM}{E:lE->lF->Prop}{R:lV->lF->Prop}{s:lF}
def Pq{C z iter:lL}{B:oA lL}{e:lT}{u:Pos}{y acc:lE}{env:Env}(I:Nat->lF->Prop) (D:∀n s,I n s->qQ prog w A (pyNext y) (λr d=>match r with
   |none=>R (.ok .next) d
   |some v=>qQ prog w A (letOwnedTupleGo z y v) (λ_ b=>qQ prog w A (assign z env v) (λ_ l=>
     qQ prog w A (forIn B true λc r=>if r=true then do let ok <- isTrue c env (eval c env);pure (ForInStep.yield ok) else pure<|ForInStep.yield r) (λok f=>
      if ok=true then qQ prog w A (eval C env) (λx k=>
       qQ prog w A (call (.builtin "list.append") [acc,x]) (λ_ j=>∃m,m<n/\I m j) (λ_ _=>False) k) (λ_ _=>False) f
      else ∃m,m<n/\I m f) (λ_ _=>False) l) (λ_ _=>False) b) (λ_ _=>False) d) (λ_ _=>False) s)
  (n:Nat) (h:I n s) :
  codeAny (model prog w) A (.compLoop (.ListComp C [⟨z,iter,B,0⟩] e u) 0 y acc env) R s:=by
 refine codeAny_loop rfl I (λn s F=>?_) n h;show wpAny _ A ((compTurn (.ListComp C [⟨z,iter,B,0⟩] e u) 0 y acc env).onRaise λx=>do noteFrame x env;theTreesLotGoes x) _ _ s;refine wpAny_noted ?_;rw[compTurn_list];refine A_<|wpAny_standAt<|A_<|cD (D n s F) (λr d i=>?_) λ_ _ a=>a.elim;cases r with
 |none=>exact C_ i
 |some v=>
  refine A_<|cD i (λ_ b o=>?_) λ_ _ a=>a.elim;refine A_<|cD o (λ_ l q=>A_<|cD q (λok f g=>?_) λ_ _ a=>a.elim) λ_ _ a=>a.elim;cases ok with
  |false=>exact C_ ⟨rfl,g⟩
  |true=>exact A_<|A_<|cD g (λx k t=>A_<|cD t (λ_ j p=>C_<|C_ ⟨rfl,p⟩) λ_ _ a=>a.elim) λ_ _ a=>a.elim
end
end PySem
namespace L2
open PySem PySem.Spec PyProof.Rows
def Ps(mp:oA<|oB Nat)(a:St):St:=mp.map λo=>match o with|some i=>(a[i]?).join|none=>none
def FR(pn:oA<|Str×lU)(x:Str):Bool:=decide (pn.lookup x=some .cell)||decide (pn.lookup x=some .free)
def Pu{pn:oA<|Str×lU}{x:Str}(h:FR pn x=true):pn.lookup x=some .cell\/pn.lookup x=some .free:=by unfold FR at h;rcases(eO _ _).mp h with h|h;exact .inl<|aF h;exact .inr<|aF h
theorem N8{env:Env}:∀{names:oA<|Str×lU} {x:Str},names.lookup x=some .free ->
  (names.map λ(n,k)=>if(k==NameKind.free&&env.scope.kind==.function&&env.kindOf n==some .cell) then(n,NameKind.cell) else(n,k)).lookup x=some .cell \/
  (names.map λ(n,k)=>if(k==NameKind.free&&env.scope.kind==.function&&env.kindOf n==some .cell) then(n,NameKind.cell) else(n,k)).lookup x=some .free
 |[],_,h=>by simp at h
 | (n,k)::r,x,h=>by
  have a:=@N8 env r x;rw[aQ];cases hx:x==n with
  |true=>simp only[List.lookup_cons,hx]at h;cases h;by_cases hc:(NameKind.free==NameKind.free&&env.scope.kind==.function&&env.kindOf n==some .cell)=true;refine .inl ?_;simp only[hc,if_true,List.lookup_cons,hx];refine .inr ?_;simp only[if_neg hc,List.lookup_cons,hx]
  |false=>simp only[List.lookup_cons,hx]at h;by_cases hc:(k==NameKind.free&&env.scope.kind==.function&&env.kindOf n==some .cell)=true;simp only[hc,if_true,List.lookup_cons,hx];exact a h;simp only[if_neg hc,List.lookup_cons,hx];exact a h
end L2
namespace PySem
open Sem (wp)
end PySem
namespace L2
open PySem PySem.Spec PyProof.Rows
def PIfs(X:Cx)(d:oA lL)(t:TT):Prop :=
 ∀(b:oA<|lH×lO) (s:lF) (a:St) (H:Hp) (Q:Bool->Hp->Prop),Inv X b a H s->t a H Q ->
  qQ X.prog X.w X.A (forIn d true λc r=>if r=true then do let ok <- isTrue c X.env (eval c X.env);pure (ForInStep.yield ok) else pure<|ForInStep.yield r) (TP X b a Q) X.xe s
def Qah:TT:=λ_ H Q=>Q true H
def Y6{X:Cx}:PIfs X [] Qah:=λ_ _ _ H _ I h=>wpAny_tests_nil ⟨H,I,h⟩
def Y7{X:Cx}{c:lL}{t:TT}(h:PT X c t):PIfs X [c] t:=λb s a H Q I d=>wpAny_tests_one<|h b s a H Q I d
def Y8(p:lH)(J:It)(g:TG)(tst:TT)(te:TE)(Q:Hp->Prop)(f:St)(H:Hp):Prop :=
 ∃W:Nat->Nat->oA V->St->Hp->Prop,(∃m,W 0 m [] f H)/\∀i m a d e,W i m a d e ->
  (J.stop i e/\Q e)\/(J.go i e/\∃N:oA V->St->Hp->Prop,(∀a f H,N a f H->∃n,n<m/\W (i+1) n a f H)/\∀x j,J.yld i e x j->g x d j λc o=>tst c o λb l=>
   if b=true then te c l λv k=>∃h,k p=some (.lst h)/\h.length<sizeLine/\N (h++[v]) c (upd k p<|.lst<|h++[v])
   else N a c l)
def Y9(mp:oA<|oB Nat)(d:TI)(g:TG)(tst:TT)(te:TE):TE:=λa H Q=>d a H λJ b=>∀p,b p=none ->
 Y8 p J g tst te (λc=>Q (.ref p) c) (Ps mp a) (upd b p<|.lst [])
section
variable {X:Cx}{N':oA Str}{mp:oA<|oB Nat}{c7 tg iter:lL}{b9:oA lL}{scope:lT}{pos:Pos}{wi:TI}{g:TG}{tst:TT}{te:TE}{K:lI}{a p:lH}{xs:oA V}{Q:Hp->Prop}{σ:St}{H:Hp}
def Inv.letgo{d:oA<|lH×lO}{σ:St}{H:Hp}{s:lF}{C:lH}{h':lN}(I:Inv X d σ H s)(f:H C=none)(h1:X.s₀.heap.objs.size<=C)(i:C≠X.env.locals)(h2:∀x c,X.env.cells.lookup x=some c->c≠C)
  (h:∀q∈X.pn++d,q.1≠C) (hs:Heap.SameBut C s.heap h'):Inv X d σ H {s with heap:=h'} :=
 I.turned (t':=s.toks) (λb o hb e=>(hs.2 b hb).trans e) f i (.inr h1) h2 h
def Ud{J:It}(n:Nat)(f:Nat->oA V->St->Hp->Prop)(h0:f 0 [] σ H)
  (s:∀i c σ H,i<n->f i c σ H->J.go i H) (u:∀c σ H,f n c σ H->J.stop n H/\Q H)
  (hs:∀i x c σ H h,i<n->f i c σ H->J.yld i H x h->g x σ h λd t=>tst d t λb r=>
   if b=true then te d r λv o=>∃j,o p=some (.lst j)/\j.length<sizeLine/\f (i+1) (j++[v]) d (upd o p<|.lst<|j++[v]) else f (i+1) c d r) :
  Y8 p J g tst te Q σ H:=by
 refine⟨λi m c σ H=>m=n-i/\i<=n/\f i c σ H,⟨n,by simp,aG _,h0⟩,?_⟩;rintro i m c σ H ⟨rfl,w,k⟩;by_cases l:i<n;exact .inr ⟨s i c σ H l k,f<|i+1,λc σ H q=>⟨n-(i+1),by omega,rfl,l,q⟩,λx h y=>hs i x c σ H h l k y⟩;have e:i=n:=by omega
 subst e;exact .inl<|u c σ H k
def Qai:V->oB Int->oB Int->Hp->VK->Prop:=λx lo b H Q=>∃z,x=.str z/\z.length<=sizeLine/\Q (.str<|Txt.slice z lo b) H
def MP:RT X Qai:=by
 intro r s σ H x v A y lo w B Q I o c n e h;obtain⟨z,rfl,hz,q⟩:=h;obtain⟨t,rfl⟩:=o;refine⟨"str",_,F.slot_str_getitem.lookup,typeIs_str _ _ _,?_⟩;have b:∀m k,EP X r σ Q (.str (Txt.slice z lo w) m) {s with toks:=k}:=λm k=>⟨.str _,H,I.tok _,⟨_,rfl⟩,q⟩;cases n with
 |none=>
  cases e with
  |none=>exact fY (l:=none) (u:=none) (st:=none) c rfl (jV ⟨R_ (lA z _ _) hz,b⟩)
  |int j d=>exact fY (l:=none) (u:=some (j,d)) (st:=none) c rfl (jV ⟨R_ (lA z _ _) hz,b⟩)
 |int i f=>
  cases e with
  |none=>exact fY (l:=some (i,f)) (u:=none) (st:=none) c rfl (jV ⟨R_ (lA z _ _) hz,b⟩)
  |int j d=>exact fY (l:=some (i,f)) (u:=some (j,d)) (st:=none) c rfl<|jV ⟨R_ (lA z _ _) hz,b⟩
def Za(hc:X.calm=true):F7 X (.builtin "all") (λxs H Q=>∃(p:lH) (c:oA Bool),xs=[.ref p]/\Fu X.K H p (c.map V.bl)/\Q (.bl<|c.all id) H):=by
 intro L s σ H xs M Q I r h;obtain⟨p,c,rfl,hq,q⟩:=h;obtain⟨u,rfl,B⟩:=F8 r;cases B;obtain⟨j,n,f,hz⟩:=I.list hq;have l:=n.length;rw[B_]at l;refine call_all_walk<|gR f.isList ?_;have C:p≠s.heap.objs.size:=aB (by obtain⟨_,w,_⟩:=f.isList;exact S_ w);refine⟨s.heap.objs.size,_,_,_,_,_,λi=>c.getD i true,rfl,Walks.list (show X.A.in1.handled=none from I.ok.hd hc) s.heap.objs.size p C j.toArray,?_,?_,λF G k=>?_⟩;exact⟨⟨_,K_ _ rfl,rfl,rfl⟩,f.isList.at λo e=>D_ _ e⟩;intro i v E y J z m;have hv:j[i]?=some v:=by simpa using z
 have d:i<c.length:=by rw[l];exact(E_.mp hv).1
 obtain⟨u,hu,D⟩:=n.get (i:=i) (x:=V.bl c[i]) (by simp[d]);rw[hv]at hu;cases hu;cases (show v=Value.bool c[i] from D);refine fJ ?_;have e:c.getD i true=c[i]:=by simp[d]
 have t:y (c.getD i true) E:=m;rw[e]at t;exact t;have e:(List.range j.toArray.size).all (λi=>c.getD i true)=c.all id:=by rw[W_,<- l];rw[fH,cH,cH];constructor;intro a x hx;obtain⟨i,d,rfl⟩:=List.mem_iff_getElem.mp hx;have:=a i<|aL.mpr d;simpa [d] using this;intro a i d;have d:=aL.mp d;have:=a c[i]<|e_ d;simpa [d] using this
 rw[e];exact⟨.bl _,H,I.kept λb o e=>k b o (by
  intro hb;have:b=s.heap.objs.size:=by simpa using hb
  exact absurd (S_ e)<|by rw[this];exact dD _)<|D_ _ e,rfl,q⟩
end
def seven{n:Nat}(h:n<=1000):n<=sizeLine:=bR<|A3 h
end L2
namespace PySem
open Sem (wp)
open AutoSeq1 (wpAny_loadPart')
set_option maxRecDepth 100000
section
variable {prog:lJ}{w:lK}{A:lM}{E:lE->lF->Prop}{s:lF}
def Ga{a t:lH}{i:Nat}{items}{x:lE}{Q:lE->lF->Prop}(g:s.heap.IsTupleIter a t i)
  (ht:s.heap.IsTuple t items) (hx:items[i]?=some x)
  (h:∀d,d.IsTupleIter a t (i+1)->Heap.SameBut a s.heap d->Q x {s with heap:=d}) :
  qQ prog w A (Builtin.SmallTypes.nextOf<|.ref a) Q E s:=by
 obtain⟨o,c,hc,b⟩:=id g;obtain⟨k,e,_,j,f⟩:=ht;unfold Builtin.SmallTypes.nextOf;refine A_<|aZ (name:=Str.ofString "__next__") g.typeIs F.slot_tuple_iterator_next
  (aO F.slot_tuple_iterator_next g.typeIs F.entry_tuple_iterator_next ?_<|F.args_tuple_iterator_next_1 _)
 show wpAny _ _ (field (.ref a) 0>>=_) _ _ s;refine A_<|cB c b (x:=.ref t) rfl ?_;show wpAny _ _ (if(Value.ref t==Value.none)=true then _ else _) _ _ s;rw[M_<|show ¬((Value.ref t==Value.none)=true) from Q_];show wpAny _ _ (field (.ref a) 1>>=_) _ _ s;refine A_<|cB c b (x:=.int i 0) rfl ?_;show wpAny _ _ (seqItems? (.ref t)>>=_) _ _ s;refine A_<|eI e f ?_;simp only[Int.toNat_natCast,hx];refine A_ (dE c b (by simp)<|C_ ⟨x,rfl,C_<|h _ ?_<|aN ..⟩);exact⟨_,bD _ c<|dY<|bV b _,(gS ..).trans hc,by
  rw[bV b];simp[rawInt]⟩
def Hc{b t:lH}{i:Nat}{items}{Q:lE->lF->Prop}(k:A.handled=none)
  (h:s.heap.IsTupleIter b t i) (ht:s.heap.IsTuple t items) (hx:items[i]?=none)
  (l:∀c e,Heap.ExtBut b s.heap c->(∃o,c.get? e=some o/\o.cls=.type "StopIteration")->E (.ref e) {s with heap:=c}) :
  qQ prog w A (Builtin.SmallTypes.nextOf<|.ref b) Q E s:=by
 obtain⟨o,j,hc,g⟩:=id h;obtain⟨p,d,_,n,f⟩:=ht;unfold Builtin.SmallTypes.nextOf;refine A_<|aZ (name:=Str.ofString "__next__") h.typeIs F.slot_tuple_iterator_next
  (aO F.slot_tuple_iterator_next h.typeIs F.entry_tuple_iterator_next ?_<|F.args_tuple_iterator_next_1 _)
 show wpAny _ _ (field (.ref b) 0>>=_) _ _ s;refine A_<|cB j g (x:=.ref t) rfl ?_;show wpAny _ _ (if(Value.ref t==Value.none)=true then _ else _) _ _ s;rw[M_<|show ¬((Value.ref t==Value.none)=true) from Q_];show wpAny _ _ (field (.ref b) 1>>=_) _ _ s;refine A_<|cB j g (x:=.int i 0) rfl ?_;show wpAny _ _ (seqItems? (.ref t)>>=_) _ _ s;refine A_<|eI d f ?_;simp only[Int.toNat_natCast,hx];refine A_ (eA<|A_<|dE j g (by simp) ?_);show wpAny _ _ (newExc (.type "StopIteration") []>>=_) _ _ _;refine A_ ?_;simp only[newExc,newTuple];refine A_ (aC ?_<|by size_fits);refine A_ (m:=firstArgMember _ _) (dI (a:=Value.none) (by first|rfl|(simp only[firstArgMember];rfl)) ?_);refine aC ?_ (by size_fits);simp only[raiseNew];refine A_<|h_ ?_
 first|rw[show A.in1.handled=none from k]|rw[k]
 refine A_<|C_<|jO ?_;exact l _ _ (((aN ..).extBut.push _).push _) ⟨_,K_ _ rfl,rfl⟩
def Gb{prog:lJ}{w:lK}{A:lM}(k:A.handled=none)(a l:lH)(j:l≠a)(items:oC lE) :
  Draws prog w A a [a,l] items.size (λi v=>items[i]?=some v) (λi h=>h.IsTupleIter a l i/\h.IsTuple l items) where
 live:=λ_ _ st=>let⟨o,n,_⟩:=st.1;⟨o,n⟩
 frame:=λ_ _ _ st hk=>⟨st.1.at λo e=>hk a (by simp) o e,st.2.at λo e=>hk l (by simp) o e⟩
 item:=λi s Q E b st f=>by refine Ga st.1 st.2 (x:=items[i]) (by simp[b]) λg d c=>?_;exact f _ g s.toks (by simp[b]) ⟨d,st.2.extBut c.extBut j⟩ c
 done:=λs Q E st m=>Hc k st.1 st.2 (by simp) m
def Hd(l:lH)(items:oC lE)(n:Nat)(j:oB lH)(i:oC<|oB lE) :
  Meets (Builtin.«enumerate.__new__» ⟨[.type "enumerate",.ref l],[]⟩) (λ_ R s=>s.heap.get? l=some {cls:=.type "tuple",dict:=j,data:=.seq items n,slots:=i} /\
   R (.ok<|.ret<|.ref (s.heap.push {cls:=.type "tuple_iterator",data:=.fields #[.ref l,.int 0 0]}).objs.size)
    {s with heap:=(s.heap.push {cls:=.type "tuple_iterator",data:=.fields #[.ref l,.int 0 0]}).push {cls:=.type "enumerate",data:=.fields #[.none,.bool false,.ref s.heap.objs.size,rawInt 0,.none,.none]}}) :=
 .of_wp λprog w A R s h=>by
  obtain⟨hp,g,d,f,os⟩:=s;obtain⟨a,h⟩:=h;have e:=sub_enumerate;have b:Heap.IsTuple (Shared.heap ⟨hp,g,d,f,os⟩) l items:=⟨_,a,rfl,n,rfl⟩
  wp_walk using jW a
  refine wpAny_stack_any λst=>C_ ?_;split;rename_i c _ _ _ _ _;cases (c==Value.type "enumerate")
  wp_walk using jW a,gF b
  exact⟨_,rfl,h⟩
  wp_walk using jW a,gF b
  exact⟨_,rfl,h⟩
  wp_walk using jW a,gF b
  exact⟨_,rfl,h⟩
def Hq{l:lH}{items:oC lE}{Q:lE->lF->Prop}(i:s.heap.IsTuple l items)
  (h:∀a,IsEnum a (s.heap.objs.size+1) s.heap.objs.size 0 .none->a.IsTupleIter s.heap.objs.size l 0->a.objs.size=s.heap.objs.size+2 ->
   (∀b o,s.heap.get? b=some o->a.get? b=some o)->Q (.ref<|s.heap.objs.size+1) {s with heap:=a}) :
  qQ prog w A (call (.type "enumerate") [.ref l]) Q E s:=by
 obtain⟨⟨c,f,dt,g⟩,j,hc,n,d⟩:=i;replace hc:c=.type "tuple" := hc;replace d:dt=.seq items n:=d;subst hc d;refine callType_new F.called_enumerate (by decide) (F.typeCall_enumerate_1 _) (F.newCall_enumerate_1 _) (λe=>F.args_object_init_2 e _) F.entry_enumerate_new
  (Hd l items n f g) ⟨j,?_⟩
 have hz:(s.heap.push {cls:=.type "tuple_iterator",data:=.fields #[.ref l,.int 0 0]}).objs.size=s.heap.objs.size+1:=cY ..;show _/\_;rw[hz];have he:IsEnum ((s.heap.push {cls:=.type "tuple_iterator",data:=.fields #[.ref l,.int 0 0]}).push
   {cls:=.type "enumerate",data:=.fields #[.none,.bool false,.ref s.heap.objs.size,rawInt 0,.none,.none]}) (s.heap.objs.size+1) s.heap.objs.size 0 .none:=by
  have:=K_ (s.heap.push {cls:=.type "tuple_iterator",data:=.fields #[.ref l,.int 0 0]})
   (o:={cls:=.type "enumerate",data:=.fields #[.none,.bool false,.ref s.heap.objs.size,rawInt 0,.none,.none]}) rfl
  rw[hz]at this;exact this
 refine⟨⟨_,he,rfl⟩,h _ he ⟨_,D_ _<|K_ _ rfl,rfl,rfl⟩ (by rw[cY,hz]) λb o x=>D_ _<|D_ _ x⟩
end
end PySem
namespace L2
open PySem PySem.Spec PyProof.Rows
def Dt(ds:oA lG)(lo a:oB Int):oA lG:=(ds.drop<|HT.sIx ds.length 0 lo).take<|HT.sIx ds.length ds.length a-HT.sIx ds.length 0 lo
section
variable {X:Cx}{k:Nat}{aa:oA<|lH×lO}{σ:St}{H:Hp}{s:lF}{h':lN}
noncomputable def M8(h:lN)(e:lG)(u:lE):Bool:=@decide (∃d a,Reads h u d a/\d.canLay0=true/\PyData.eqv d e=true) (Classical.propDecidable _)
def Zb{h:lN}{e d:lG}{u:lE}{as:oA lH}(r:Reads h u d as)(c:d.canLay0=true):M8 h e u=PyData.eqv d e:=by
 unfold M8;cases q:PyData.eqv d e with
 |true=>exact @aV _ (Classical.propDecidable _) ⟨d,as,r,c,q⟩
 |false=>refine @aW _ (Classical.propDecidable _) λi=>?_;obtain⟨f,a,b,_,g⟩:=i;rw[SeqAt.Reads.unique d f u as a c r b,g]at q;cases q
theorem D8{A:lM}{s:lF}{e:lG}{v:lE}{n:oA lH}(b:Reads s.heap v e n)(g:e.canLay0=true)(hu:A.units+64<cLine):∀{ds:oA lG} {a:oA lE} {as:oA lH},ReadsAll s.heap a ds as ->
  PyData.canLayAll0 ds=true->PyData.depthAll ds<=64->(∀u∈a,SeqAt.EqAt A s u v<|M8 s.heap e u)/\a.any (M8 s.heap e)=ds.any λd=>PyData.eqv d e
 |[],_,_,r,_,_=>by cases r;exact⟨(λ_ z=>nomatch z),rfl⟩
 |d::ds,_,_,r,c,l=>by
  cases r with
  |cons f i=>simp only[PyData.canLayAll0,Bool.and_eq_true]at c;simp only[PyData.depthAll]at l;obtain⟨j,m⟩:=D8 b g hu i c.2 (by omega);have h:=Zb (e:=e) f c.1;refine⟨λu o=>?_,?_⟩;rcases Y_.mp o with rfl|z;rw[h];exact jH d e A s _ v _ _ f b c.1 g (by omega);exact j u z;rw[eD,eD,h,m]
def Inv.turnedL{t':Nat}{fp:oA lH}(I:Inv X aa σ H s)(k:∀b o,b∉fp->s.heap.get? b=some o->h'.get? b=some o)(a:∀b∈fp,Hm X aa H b):Inv X aa σ H {s with heap:=h',toks:=t'}:=by
 have d:∀b u,H b=some u->b∉fp:=λb u e z=>by rw[(a b z).1]at e;cases e
 have h:X.env.locals∉fp:=λz=>(a _ z).2.1 rfl;refine I.step (g':=s.gens) (d':=s.drawn) (ch:=fp) (λb hb=>?_) (λb o _ _ hc e _=>k b o hc e) (λb o _ _ hc e _=>⟨o.slots,k b o hc e⟩) (λ_ _ _ _ n=>n)
  (λb o hc e=>⟨o,k b o hc e⟩) (λ_ _ e=>e) (λ_ _ _ e=>e) (λb x e=>⟨#[],by rw[e];simp⟩) (λm w=>?_) (λb u e=>?_) I.bare
 obtain⟨_,p,_,f,j,i⟩:=a b hb;exact⟨f,p,j,i⟩;obtain⟨o,t,g,l,r⟩:=w;exact⟨o,t,g,k _ o h l,r⟩;refine(I.hok b u e).stay (λc v hc q=>k c v ?_ q) (λ_ q=>q) λ_ _ q=>q;rcases hc with z|z;rw[z];exact d b u e;exact d c _ z
def Inv.track{T:lH}{o:HO}(I:Inv X aa σ H s)(h:Hm X aa H T)(d:Bx X.prog X.w (upd H T o) s.heap T o):Inv X aa σ (upd H T o) s:=by
 obtain⟨j,p,_,g,l,i⟩:=h;have a:∀b u,H b=some u->b≠T:=λb u e z=>by rw[z,j]at e;cases e
 refine I.step (H':=upd H T o) (h':=s.heap) (g':=s.gens) (d':=s.drawn) (t':=s.toks) (ch:=[T]) (λb hb=>?_) (λb o _ _ _ e _=>e) (λb o _ _ _ e _=>⟨o.slots,e⟩)
  (λb u hc _ n=>by rw[Au λz=>hc<|by simp[z]];exact n) (λb o _ e=>⟨o,e⟩) (λb f e=>by rw[Au<|a b _ e];exact e) (λb u v e=>by rw[Au<|a b _ e];exact e)
  (λb t e=>⟨#[],by rw[Au<|a b _ e,e];simp⟩) (λm r=>r) (λb u e=>?_) I.bare
 have e:b=T:=by simpa using hb
 subst e;exact⟨g,p,l,i⟩;by_cases hb:b=T;subst hb;rw[Bn]at e;cases e;exact d;rw[Au hb]at e;exact(I.hok b u e).stay (λ_ _ _ q=>q) (λc q=>by rw[Au<|a c _ q];exact q) λc f q=>by rw[Au<|a c _ q];exact q
def Ien(K:lI)(a:lH):It :=
 ⟨λi H=> ∃ b x, Ja K H a b /\ b[i]? = some x,
  λi H v c=> ∃ T x, H T = none /\ v = .ref T /\ c = upd H T (.tup [.int i, x]) /\ ∀ b, Ja K H a b -> b[i]? = some x,
  λi H=> ∃ b, Ja K H a b /\ b.length = i⟩
def Wm{P:lJ}{w:lK}{K:lI}{bi:oA lL}{k:Nat}{F:Pos}(a e j:lH)(J:e≠j) :
  Turn P w K (.Tuple bi k F) (Ien K a) [e,j] e (λi h=>(∃m,IsEnum h e j i m)/\h.IsTupleIter j a i) where
 mem:=by simp
 obj:=λi h st b hb=>by
  rcases Y_.mp hb with rfl|hb;obtain⟨⟨m,he⟩,_⟩:=st;exact⟨_,he,λv z=>nomatch z⟩;have q:b=j:=by simpa using hb
  subst q;obtain⟨_,o,e,c,d⟩:=st;exact⟨o,e,λv z=>by rw[d]at z;cases z⟩
 keep:=λi h h' st k=>⟨by obtain⟨m,he⟩:=st.1;exact⟨m,k e (by simp) _ he⟩,st.2.at λo q=>k j (by simp) o q⟩
 item:=by
  intro X Y U Z hc i aa s σ H E I G st S;subst Y U Z;obtain⟨xs,x,hq,hx⟩:=S;obtain⟨D,R,p,hz⟩:=I.tuple hq;obtain⟨u,hu,ru⟩:=R.get hx;obtain⟨⟨m,he⟩,B⟩:=id st;have O:a≠e:=by intro z;subst z;obtain⟨o,g,n,_⟩:=p;rw[he]at g;cases g;exact absurd n<|by intro z;injection z with z;exact absurd z<|by decide
  have N:a≠j:=by intro z;subst z;obtain⟨o,g,n,_⟩:=p;obtain⟨o',l,f,_⟩:=B;rw[g]at l;cases l;rw[n]at f;exact absurd f<|by intro z;injection z with z;exact absurd z<|by decide
  have W:=iQ (prog:=X.prog) (w:=X.w) (A:=X.A) (Gb (A:=X.A.in1) (I.ok.hd hc) j a N D.toArray) e J (by simp[J,Ne.symm O]) (by simp);refine W.item i s _ _ (by rw[W_];exact(E_.mp hu).1) ⟨⟨m,he⟩,B,p⟩ λT iy h' C hv M ht hm V=>?_;have y:=W.apart i T h' hm;refine⟨_,rfl,W.go bi k F i T _ _ _ hm λlh jf jm=>?_⟩;obtain⟨t,L,hx',rfl⟩:=hv;have ye:L=u:=by
   have:D[i]?=some L:=by simpa using hx'
   rw[hu]at this;exact(aX this).symm
  subst ye;have I1:Inv X aa σ H {s with heap:=h',toks:=C}:=I.turnedL V G;have I2:Inv X aa σ H {s with heap:=lh,toks:=C}:=I1.turnedL (s:={s with heap:=h',toks:=C}) (t':=C) jm G;have fT:Hm X aa H T:=I.fpOk M<|I.hok.fresh M;have mo:IsTup lh T #[.int i t,L]:=let⟨o,g,r⟩:=ht;⟨o,jm T o y g,r⟩
  refine⟨.ref T,upd H T<|.tup [.int i,x],I2.track fT ⟨by show 2<=sizeLine;decide,[.int i t,L],.cons ⟨t,rfl⟩<|.cons ru .nil,mo⟩,rfl,⟨T,x,fT.1,rfl,rfl,λys hy=>by rw[I.tuple_inj hy hq];exact hx⟩,⟨jf.1,jf.2.1⟩,λb hb=>?_⟩;have dh:b≠T:=by
   rcases Y_.mp hb with rfl|hb;exact aB<|V_ (S_ he) M;have q:b=j:=by simpa using hb
   subst q;obtain⟨o,g,_⟩:=B;exact aB<|V_ (S_ g) M
  rw[Au dh];exact(G b hb).1
 done:=by
  intro X Y U Z hc i aa s σ H E I G st S;subst Y U Z;obtain⟨xs,hq,hl⟩:=S;obtain⟨D,R,p,hz⟩:=I.tuple hq;obtain⟨⟨m,he⟩,B⟩:=id st;have O:a≠e:=by intro z;subst z;obtain⟨o,g,n,_⟩:=p;rw[he]at g;cases g;exact absurd n<|by intro z;injection z with z;exact absurd z<|by decide
  have N:a≠j:=by intro z;subst z;obtain⟨o,g,n,_⟩:=p;obtain⟨o',l,f,_⟩:=B;rw[g]at l;cases l;rw[n]at f;exact absurd f<|by intro z;injection z with z;exact absurd z<|by decide
  have W:=iQ (prog:=X.prog) (w:=X.w) (A:=X.A) (Gb (A:=X.A.in1) (I.ok.hd hc) j a N D.toArray) e J (by simp[J,Ne.symm O]) (by simp);have hn:D.toArray.size=i:=by rw[W_,<- R.length];exact hl
  subst hn;exact W.done s _ _ ⟨⟨m,he⟩,B,p⟩ λh' C V=>⟨rfl,I.turnedL V G⟩
 self:=λA i s Q E st h=>by obtain⟨⟨_,he⟩,_⟩:=st;exact iR he h
def Zc{J:It}{g:TG}{tb:TS}{D:Ends}{σ:St}{H:Hp}(n:Nat)(b:Nat->St->Hp->Prop)(h0:b 0 σ H)(l:∀i σ H,i<n->b i σ H->J.go i H)(q:∀ σ H,b n σ H->J.stop n H/\D.nx σ H)
  (hs:∀i x σ H f,i<n->b i σ H->J.yld i H x f->g x σ f λd o=>tb {D with nx:=b<|i+1,ct:=b<|i+1,bk:=D.nx} d o) :
  ∃W:Nat->Nat->St->Hp->Prop,(∃m,W 0 m σ H)/\∀i m σ H,W i m σ H ->
   (J.stop i H/\D.nx σ H)\/(J.go i H/\∃N:St->Hp->Prop,(∀ c a,N c a->∃j,j<m/\W (i+1) j c a)/\∀x a,J.yld i H x a->g x σ a λd f=>tb {D with nx:=N,ct:=N,bk:=D.nx} d f):=by
 refine⟨λi m σ H=>m=n-i/\i<=n/\b i σ H,⟨n,by simp,aG _,h0⟩,?_⟩;rintro i m σ H ⟨rfl,t,p⟩;by_cases h:i<n;exact .inr ⟨l i σ H h p,b<|i+1,λc a r=>⟨n-(i+1),by omega,rfl,h,r⟩,λx a y=>hs i x σ H a h p y⟩;have e:i=n:=by omega
 subst e;exact .inl<|q σ H p
def N9:Ib X (binaryOp .Mult) (λx y H Q=>∃z n,x=.str z/\y=.int n/\(n=0\/n=1)/\Q (.str<|if n=0 then Str.empty else z) H):=by intro aa s σ H x y v u Q I a c h;obtain⟨z,n,rfl,rfl,b,q⟩:=h;obtain⟨t,rfl⟩:=a;obtain⟨d,rfl⟩:=c;rcases b with rfl|rfl;exact P.mul_str_none (by decide) (by decide) ⟨.str Str.empty,H,I.tok _,⟨_,rfl⟩,by simpa using q⟩;refine P.mul_str (by decide) (λ_ z=>by simp at z) (λ_ z=>by simp at z) ?_;rw[M_<|by decide,T_<|by simp];exact⟨.str z,H,I,⟨_,rfl⟩,by simpa using q⟩
end
end L2
namespace HT
open PySem PySem.Spec PyProof.Rows
section
variable {prog:lJ}{w:lK}{A:lM}{E:lE->lF->Prop}{s:lF}
def getItem_tuple_all{t c:lH}{items:oC lE}{f d:lE}{lo a:oB Int}{Q:lE->lF->Prop}(ht:IsTup s.heap t items)(hs:s.heap.IsSliceOf c f d .none)(pl:IsPart f lo)(g:IsPart d a)
  (e:sIx items.size 0 lo=0/\sIx items.size items.size a=items.size)
  (h:Q (.ref t) s):qQ prog w A (getItem (.ref t)<|.ref c) Q E s:=by
 obtain⟨os,b,k,i⟩:=id hs;have j:s.TypeIs (.ref c) "slice" := ⟨os,b,k⟩;unfold getItem
 try with_reducible refine bT ?_
 first|refine A_ (C_ ?_)|skip
 refine A_ (wpAny_sequenceKey ht.typeIs (by decide) ?_);refine A_<|aZ (name:=Str.ofString "__getitem__") ht.typeIs b_
  (aO b_ ht.typeIs entry_tuple_getitem ?_<|args_tuple_getitem _ _)
 show wpAny _ _ (Builtin.Tuple.tupleItemsOf (.ref t)>>=_) _ _ s;refine A_<|tupleItemsOf_ ht ?_;refine A_<|iN j ?_;rw[T_<|by decide];refine A_<|Ex hs pl g ?_;have l:(((sIx items.size 0 lo:Nat):Int)==0&&(1:Int)==1&&(sIx items.size items.size a-sIx items.size 0 lo)==items.size)=true:=by rw[e.1,e.2];simp
 show wpAny _ _ (if(((sIx items.size 0 lo:Nat):Int)==0&&(1:Int)==1&&(sIx items.size items.size a-sIx items.size 0 lo)==items.size)=true then _ else _) _ _ s;rw[T_ l];unfold Builtin.Tuple.tupleIsExact;refine A_<|A_<|iN ht.typeIs<|C_ ?_;rw[T_<|by decide];refine A_<|eA ?_
 first
  |exact C_ ⟨_,rfl,C_ h⟩
  |exact A_ (C_<|C_ ⟨_,rfl,C_ h⟩)
  |exact A_<|C_ ⟨_,rfl,C_ h⟩
end
end HT
namespace L2
open PySem PySem.Spec PyProof.Rows
section
variable {X:Cx}
def Zd{ds:oA lG}{lo a:oB Int}(h:HT.sIx ds.length 0 lo=0/\HT.sIx ds.length ds.length a=ds.length):Dt ds lo a=ds:=by unfold Dt;rw[h.1,h.2,iS,Nat.sub_zero,gG<|J_ _]
def Iel(K:lI)(a:lH):It :=
 ⟨λi H=> ∃ b x, Fu K H a b /\ b[i]? = some x,
  λi H v c=> ∃ T x, H T = none /\ v = .ref T /\ c = upd H T (.tup [.int i, x]) /\ ∀ b, Fu K H a b -> b[i]? = some x,
  λi H=> ∃ b, Fu K H a b /\ b.length = i⟩
def R8{P:lJ}{w:lK}{K:lI}{bi:oA lL}{k:Nat}{F:Pos}(a e j:lH)(L:e≠j) :
  Turn P w K (.Tuple bi k F) (Iel K a) [e,j] e (λi h=>(∃m,IsEnum h e j i m)/\h.IsListIter j a i) where
 mem:=by simp
 obj:=λi h st b hb=>by
  rcases Y_.mp hb with rfl|hb;obtain⟨⟨m,he⟩,_⟩:=st;exact⟨_,he,λv z=>nomatch z⟩;have q:b=j:=by simpa using hb
  subst q;obtain⟨_,o,e,c,d⟩:=st;exact⟨o,e,λv z=>by rw[d]at z;cases z⟩
 keep:=λi h G st k=>⟨by obtain⟨m,he⟩:=st.1;exact⟨m,k e (by simp) _ he⟩,st.2.at λo q=>k j (by simp) o q⟩
 item:=by
  intro X hP Z hK hc i N s R H E I J st Y;subst hP Z hK;obtain⟨xs,x,hq,hx⟩:=Y;obtain⟨D,V,p,hz⟩:=I.list hq;obtain⟨u,hu,ru⟩:=V.get hx;obtain⟨⟨m,he⟩,B⟩:=id st;have U:a≠e:=by intro z;subst z;obtain⟨o,g,n,_⟩:=p.isList;rw[he]at g;cases g;exact absurd n<|by intro z;injection z with z;exact absurd z<|by decide
  have S:a≠j:=by intro z;subst z;obtain⟨o,g,n,_⟩:=p.isList;obtain⟨o',l,f,_⟩:=B;rw[g]at l;cases l;rw[n]at f;exact absurd f<|by intro z;injection z with z;exact absurd z<|by decide
  have W:=iQ (prog:=X.prog) (w:=X.w) (A:=X.A) (Draws.list (A:=X.A.in1) (I.ok.hd hc) j a S D.toArray) e L (by simp[L,Ne.symm U]) (by simp);refine W.item i s _ _ (by rw[W_];exact(E_.mp hu).1) ⟨⟨m,he⟩,B,p.isList⟩ λT iy G C hv O ht hm kk=>?_;have y:=W.apart i T G hm;refine⟨_,rfl,W.go bi k F i T _ _ _ hm λlh jf jm=>?_⟩;obtain⟨t,M,hx',rfl⟩:=hv;have ye:M=u:=by
   have:D[i]?=some M:=by simpa using hx'
   rw[hu]at this;exact(aX this).symm
  subst ye;have I1:Inv X N R H {s with heap:=G,toks:=C}:=I.turnedL kk J;have I2:Inv X N R H {s with heap:=lh,toks:=C}:=I1.turnedL (s:={s with heap:=G,toks:=C}) (t':=C) jm J;have fT:Hm X N H T:=I.fpOk O<|I.hok.fresh O;have mo:IsTup lh T #[.int i t,M]:=let⟨o,g,r⟩:=ht;⟨o,jm T o y g,r⟩
  refine⟨.ref T,upd H T<|.tup [.int i,x],I2.track fT ⟨by show 2<=sizeLine;decide,[.int i t,M],.cons ⟨t,rfl⟩<|.cons ru .nil,mo⟩,rfl,⟨T,x,fT.1,rfl,rfl,λys hy=>by rw[I.list_inj hy hq];exact hx⟩,⟨jf.1,jf.2.1⟩,λb hb=>?_⟩;have dh:b≠T:=by
   rcases Y_.mp hb with rfl|hb;exact aB<|V_ (S_ he) O;have q:b=j:=by simpa using hb
   subst q;obtain⟨o,g,_⟩:=B;exact aB<|V_ (S_ g) O
  rw[Au dh];exact(J b hb).1
 done:=by
  intro X hP Z hK hc i N s R H E I J st Y;subst hP Z hK;obtain⟨xs,hq,hl⟩:=Y;obtain⟨D,V,p,hz⟩:=I.list hq;obtain⟨⟨m,he⟩,B⟩:=id st;have U:a≠e:=by intro z;subst z;obtain⟨o,g,n,_⟩:=p.isList;rw[he]at g;cases g;exact absurd n<|by intro z;injection z with z;exact absurd z<|by decide
  have S:a≠j:=by intro z;subst z;obtain⟨o,g,n,_⟩:=p.isList;obtain⟨o',l,f,_⟩:=B;rw[g]at l;cases l;rw[n]at f;exact absurd f<|by intro z;injection z with z;exact absurd z<|by decide
  have W:=iQ (prog:=X.prog) (w:=X.w) (A:=X.A) (Draws.list (A:=X.A.in1) (I.ok.hd hc) j a S D.toArray) e L (by simp[L,Ne.symm U]) (by simp);have hn:D.toArray.size=i:=by rw[W_,<- V.length];exact hl
  subst hn;exact W.done s _ _ ⟨⟨m,he⟩,B,p.isList⟩ λG C kk=>⟨rfl,I.turnedL kk J⟩
 self:=λA i s Q E st h=>by obtain⟨⟨_,he⟩,_⟩:=st;exact iR he h
end
end L2
namespace PySem
open Sem (wp)
open AutoSeq1 (wpAny_loadPart')
set_option maxRecDepth 100000
section
variable {prog:lJ}{w:lK}{K:Type} [DecidableEq K]
end
end PySem
namespace L2
open PySem PySem.Spec PyProof.Rows
section
variable {X:Cx}
theorem Ea{c d:Type}{F:c->d->Prop}:∀{l₁:oA c} {l₂:oA d} {j:Nat} {a:c},Paired F l₁ l₂->l₁[j]?=some a->∃b,l₂[j]?=some b/\F a b
 |_,_,_,_,.nil,e=>by simp at e
 |_,_,0,_,.cons r _,e=>by simp at e;subst e;exact⟨_,rfl,r⟩
 |_,_,j+1,a,.cons _ t,e=>by obtain⟨b,h1,h2⟩:=Ea (j:=j) (a:=a) t (by simpa using e);exact⟨b,by simpa using h1,h2⟩
end
def Cal(P:lJ)(w:lK)(K:lI)(b:Str->oB lE)(base:lN)(n:Nat)(x:Str)(ps:oA Str)(sp:Sp):Prop :=
 ∃g a,FnOk P w K b base Dm n g a ps sp/\Binds K a ps []/\PySem.W.keepIn K (.ref g)=true/\b x=some (.ref g)
def Cal.mono{P:lJ}{w:lK}{K:lI}{a:Str->oB lE}{base:lN}{n m:Nat}{x:Str}{ps:oA Str}{sp:Sp}(c:Cal P w K a base n x ps sp)(h:n<=m):Cal P w K a base m x ps sp :=
 by obtain⟨g,b,G,r⟩:=c;exact⟨g,b,G.mono h,r⟩
abbrev R4:=Int×Int×Int×oA Int
def Qaj(a:oA R4)(pl x:Int)(i:Nat):Bool:=match a[i]? with|some r=>decide (r.1=pl)&&decide (r.2.1=x)|none=>false
def SE(a:oA R4)(pl x:Int):Nat->oA Int
 | 0=>[]
 |i+1=>SE a pl x i++if Qaj a pl x i=true then [(i:Int)] else []
def hereL(a:oA R4)(pl:Int):oA Int->oA Int
 |[]=>[]
 |x::_=>SE a pl x a.length
end L2
namespace L2
open PySem PySem.Spec PySem.Calls PyProof.Rows
abbrev bmV:oA lE:=[.type "ValueError",.type "Exception",.type "BaseException",.type "object"]
def Qdb(K:lI)(C:lH)(a:ClassData)(b:oC<|oB lE):Bool:=a.mro.head?==some (.ref C) && !a.hasDel&&PySem.W.tailIn K bmV a.mro.tail&&b.size==6&&b[4]?==some (some<|.builtin "ValueError.__new__")
def Qak{g:oC<|oB lE}{v:oB lE}(h:g.size=6)(e:g[4]?=some v):∃w u i m j,g=#[w,u,i,m,v,j]:=by
 obtain⟨l⟩:=g;have s:∀{n:Nat} {l:oA<|oB lE},l.length=n+1->∃a t,l=a::t/\t.length=n:=λ{n l} h=>by
  cases l with
  |nil=>cases h
  |cons a t=>exact⟨a,t,rfl,Nat.succ.inj h⟩
 obtain⟨a,_,rfl,h1⟩:=s h;obtain⟨b,_,rfl,h2⟩:=s h1;obtain⟨c,_,rfl,q⟩:=s h2;obtain⟨d,_,rfl,p⟩:=s q;obtain⟨k,_,rfl,r⟩:=s p;obtain⟨f,_,rfl,o⟩:=s r;cases dA o;have:k=v:=by simpa using e
 subst this;exact⟨a,b,c,d,f,rfl⟩
section
open Builtin Builtin.ObjectAttr
variable {prog:lJ}{w:lK}{A:lM}{E:lE->lF->Prop}{s:lF}{K:lI}{x C:lH}{ox:lO}{od:oB lO}{name:Str}{v:lE}{R:lV->lF->Prop}
end
def XD(c:lH)(b:oA<|Str×V):HO:=.ext λh=>∃a,h.Ns1 c a/\(∀f,Jd (b.lookup f)<|a f)/\PySem.Within a (b.map (·.1))
inductive Ctxs (h:lN):lH->oA lH->Prop
 |nil {e:lH} {o:lO} {vs:oC lE}:h.get? e=some o->o.data=.fields vs->vs[2]?=some Value.none->Ctxs h e []
 |cons {e E:lH} {o:lO} {vs:oC lE} {l:oA lH}:h.get? e=some o->o.data=.fields vs->vs[2]?=some (Value.ref E)->Ctxs h E l->Ctxs h e (E::l)
structure ExcRec(h:lN)(e:lH)(cls:lE)(d:oB lH)(vs:oC lE):Prop where
 at_:h.get? e=some ⟨cls,d,.fields vs,#[]⟩
 six:vs.size=6
 tb:vs[1]?=some .none\/∃T oT ts,vs[1]?=some (.ref T)/\T≠e/\h.get? T=some oT/\oT.data=.fields ts/\ts[3]?=some .none
 cx:∃l,Ctxs h e l
def XR(e C:lH)(d:oB lH):HO:=.ext λh=>∃a:oC lE,h.get? e=some ⟨.ref C,d,.fields a,#[]⟩/\a.size=6
section
variable {X:Cx}{aa:oA<|lH×lO}{σ:St}{H:Hp}{s:lF}{a C:lH}{d:oB lH}{h':lN}
def Qal(X:Cx)(b:XK):Prop:=∀(aa:oA<|lH×lO) (σ:St) (H:Hp) (s:lF) (a C:lH) (d:oB lH) (c:oC lE),Inv X aa σ H s->H a=some (XR a C d)->ExcRec s.heap a (.ref C) d c->b (.ref C) (some a) H->X.xe (.ref a) s
abbrev Cx.suite(X:Cx)(e:lH):Cx:={X with A:=X.A.mark<|some<|.ref e,calm:=false,xe:=λ_ _=>False}
abbrev Cx.taking(X:Cx)(xe:lE->lF->Prop)(pn:oA<|lH×lO):Cx:={X with xe:=xe,pn:=pn}
def Inv.take{xe:lE->lF->Prop}(I:Inv X aa σ H s):Inv (X.taking xe<|X.pn++aa) [] σ H s :=
 ⟨⟨I.ok.mod,I.ok.kind,I.ok.glob,I.ok.blt,I.ok.above,I.ok.inj,I.ok.has,I.ok.cab,I.ok.hd,I.ok.frames,I.ok.stk,I.ok.exf,I.ok.bs,I.ok.bsz,I.ok.noex,I.ok.exfs,I.ok.funs,I.ok.frf⟩,I.os,I.bare,I.base,I.loc,I.cell,I.free,I.freeC,λp hp=>I.pin p<|by rw[bP]at hp;exact hp,I.hok,I.len⟩
def Inv.untake{xe:lE->lF->Prop}{b:oA<|lH×lO}(ok:X.Ok)(I:Inv (X.taking xe<|X.pn++aa) b σ H s):Inv X aa σ H s :=
 ⟨ok,I.os,I.bare,I.base,I.loc,I.cell,I.free,I.freeC,λp hp=>I.pin p<|aH _ hp,I.hok,I.len⟩
end
end L2
namespace L2
open PySem PySem.Spec PyProof.Rows
inductive AV where
 |D (d:lG)|R (a:lH)|C (ds:oA lG)|X (C:lH) (fs:oA<|Str×lG)
 deriving Inhabited
mutual
def Cano:lG->Bool
 |.int _=>true
 |.str _=>true
 |.tuple a=>A7 a
 |_=>false
def A7:oA lG->Bool
 |[]=>true
 |x::a=>Cano x&&A7 a
end
structure KeyTree(d:lG):Prop where
 can:Cano d=true
 lay:d.canLay0=true
 dep:d.depth<=6
def Yf(K:lI)(H:Hp)(a:lH)(xs:oA V):Prop :=
 (∃o,H a=some (.frz o<|.lst xs)) \/
  ∃(o:lO) (b:oC lE) (n:Nat),K.lookup a=some o/\o.cls=.type "list" /\ o.dict=none/\o.data=.seq b n/\b.size<=sizeLine/\Vals xs b.toList
def Yf.sq{K:lI}{H:Hp}{a:lH}{xs:oA V}(h:Yf K H a xs):Fu K H a xs:=by rcases h with⟨o,h⟩|h;exact .inl<|.inr ⟨o,h⟩;exact .inr h
def Lit:oA lG->Bool
 |.str _::_=>true
 |.tuple _::_=>true
 |_=>false
def Wo(K:lI)(H:Hp)(a:lH)(ds:oA lG)(xs:oA V):Prop :=
 H a=some (.tup xs)\/(Lit ds=true/\∃(o:lO) (b:oC lE) (n:Nat),K.lookup a=some o/\o.cls=.type "tuple" /\ o.data=.seq b n/\b.size<=sizeLine/\Vals xs b.toList)
def Wo.sq{K:lI}{H:Hp}{a:lH}{ds:oA lG}{xs:oA V}(h:Wo K H a ds xs):Ja K H a xs:=by rcases h with h|h;exact Ja.of h;exact .inr h.2
mutual
def Dk(K:lI)(H:Hp):lG->V->Prop
 |.none,x=>x=.non
 |.bool b,x=>x=.bl b
 |.int i,x=>x=.int i
 |.str z,x=>x=.str z
 |.list d,x=>∃a c,x=.ref a/\Yf K H a c/\Ap K H d c
 |.tuple d,x=>∃a c,x=.ref a/\Wo K H a d c/\Ap K H d c
 |.dict _,_=>False
def Ap(K:lI)(H:Hp):oA lG->oA V->Prop
 |[],a=>a=[]
 |d::b,a=>∃x r,a=x::r/\Dk K H d x/\Ap K H b r
end
structure Kp(H H':Hp):Prop where
 t:∀b xs,H b=some (.tup xs)->H' b=some (.tup xs)
 f:∀b o u,H b=some (.frz o u)->H' b=some (.frz o u)
def Kp.refl{H:Hp}:Kp H H:=⟨λ_ _ h=>h,λ_ _ _ h=>h⟩
def Kp.trans{H g e:Hp}(a:Kp H g)(b:Kp g e):Kp H e:=⟨λc d h=>b.t c d<|a.t c d h,λc o u h=>b.f c o u<|a.f c o u h⟩
def Kp.new{H:Hp}{p:lH}(h:H p=none)(o:HO):Kp H (upd H p o) :=
 ⟨λb a e=>by rw[Au<|Cc e h];exact e,λb c u e=>by rw[Au<|Cc e h];exact e⟩
def Mt:HO->Prop
 |.lst _=>True
 |.dK _=>True
 |.dT _=>True
 |.dd _=>True
 |_=>False
def Kp.put{H:Hp}{p:lH}{a:HO}(h:H p=some a)(m:Mt a)(o:HO):Kp H (upd H p o) :=
 ⟨λb c e=>by rw[Au<|Ph e h<|by intro z;subst z;exact m];exact e,λb d u e=>by rw[Au<|Ph e h<|by intro z;subst z;exact m];exact e⟩
def Yf.kp{K:lI}{H H':Hp}{a:lH}{xs:oA V}(S:Kp H H')(h:Yf K H a xs):Yf K H' a xs:=by rcases h with⟨o,h⟩|h;exact .inl ⟨o,S.f _ _ _ h⟩;exact .inr h
def Wo.kp{K:lI}{H H':Hp}{a:lH}{ds:oA lG}{xs:oA V}(S:Kp H H')(h:Wo K H a ds xs):Wo K H' a ds xs:=by rcases h with h|h;exact .inl<|S.t _ _ h;exact .inr h
section
variable {K:lI}{H H':Hp}{X:Cx}{a b c:lL}{ta tb tc:AE}{pos:Pos}{rest:oA lL}{tA kb:AT}{es:oA lL}{t:AA}{k:Nat}{x:Str}{p:Pos}{e:lL}{ip T:String}{r:AC}{o:lL}{to:AE}{name:Str}{ao ak:Pos}{m:AV->AC}
mutual
theorem Dk.kp(S:Kp H H'):∀(d:lG) (x:V),Dk K H d x->Dk K H' d x
 |.none,x,h=>by simp only[Dk]at h ⊢;exact h
 |.bool b,x,h=>by simp only[Dk]at h ⊢;exact h
 |.int i,x,h=>by simp only[Dk]at h ⊢;exact h
 |.str z,x,h=>by simp only[Dk]at h ⊢;exact h
 |.list g,x,h=>by simp only[Dk]at h ⊢;obtain⟨a,f,e,q,r⟩:=h;exact⟨a,f,e,q.kp S,Ap.kp S g f r⟩
 |.tuple g,x,h=>by simp only[Dk]at h ⊢;obtain⟨a,f,e,q,r⟩:=h;exact⟨a,f,e,q.kp S,Ap.kp S g f r⟩
 |.dict _,x,h=>by simp only[Dk]at h
theorem Ap.kp(S:Kp H H'):∀(ds:oA lG) (xs:oA V),Ap K H ds xs->Ap K H' ds xs
 |[],xs,h=>by simp only[Ap]at h ⊢;exact h
 |d::ds,xs,h=>by simp only[Ap]at h ⊢;obtain⟨x,r,e,h1,h2⟩:=h;exact⟨x,r,e,Dk.kp S d x h1,Ap.kp S ds r h2⟩
end
def B9{i:Int}:Dk K H (.int i) (.int i):=by simp only[Dk]
def M9{b:Bool}:Dk K H (.bool b) (.bl b):=by simp only[Dk]
def Eb{z:Str}:Dk K H (.str z) (.str z):=by simp only[Dk]
def Ze:Dk K H .none .non:=by simp only[Dk]
def Dk.int{x:V}{i:Int}(h:Dk K H (.int i) x):x=.int i:=by simp only[Dk]at h;exact h
def Dk.bl{x:V}{i:Bool}(h:Dk K H (.bool i) x):x=.bl i:=by simp only[Dk]at h;exact h
def Dk.str{x:V}{i:Str}(h:Dk K H (.str i) x):x=.str i:=by simp only[Dk]at h;exact h
def Dk.non{x:V}(h:Dk K H .none x):x=.non:=by simp only[Dk]at h;exact h
def Dk.tup{x:V}{ds:oA lG}(h:Dk K H (.tuple ds) x):∃a d,x=.ref a/\Wo K H a ds d/\Ap K H ds d:=by simp only[Dk]at h;exact h
def Dk.lst{x:V}{ds:oA lG}(h:Dk K H (.list ds) x):∃a d,x=.ref a/\Yf K H a d/\Ap K H ds d:=by simp only[Dk]at h;exact h
def K6{a:lH}{xs:oA V}{ds:oA lG}(h:H a=some (.tup xs))(r:Ap K H ds xs):Dk K H (.tuple ds) (.ref a):=by simp only[Dk];exact⟨a,xs,rfl,.inl h,r⟩
def G1{a:lH}{xs:oA V}{ds:oA lG}{o:lO}{d:oC lE}{n:Nat}(i:Lit ds=true)(h1:K.lookup a=some o)(h2:o.cls=.type "tuple") (g:o.data=.seq d n) (f:d.size<=sizeLine) (h:Vals xs d.toList) (r:Ap K H ds xs):Dk K H (.tuple ds) (.ref a):=by simp only[Dk];exact⟨a,xs,rfl,.inr ⟨i,o,d,n,h1,h2,g,f,h⟩,r⟩
def MQ{a:lH}{xs:oA V}{ds:oA lG}(h:Yf K H a xs)(r:Ap K H ds xs):Dk K H (.list ds) (.ref a):=by simp only[Dk];exact⟨a,xs,rfl,h,r⟩
def Ce:Ap K H [] []:=by simp only[Ap]
def Bf{d:lG}{ds:oA lG}{x:V}{xs:oA V}(h:Dk K H d x)(r:Ap K H ds xs):Ap K H (d::ds) (x::xs):=by simp only[Ap];exact⟨x,xs,rfl,h,r⟩
def Ap.cons{d:lG}{ds:oA lG}{xs:oA V}(h:Ap K H (d::ds) xs):∃x r,xs=x::r/\Dk K H d x/\Ap K H ds r:=by simp only[Ap]at h;exact h
def Ap.nil{xs:oA V}(h:Ap K H [] xs):xs=[]:=by simp only[Ap]at h;exact h
theorem Ap.length:∀{ds:oA lG} {xs:oA V},Ap K H ds xs->xs.length=ds.length
 |[],_,h=>by rw[h.nil];rfl
 |_::ds,_,h=>by obtain⟨x,r,rfl,_,h2⟩:=h.cons;rw[aS,aS,Ap.length h2]
theorem Ap.get:∀{ds:oA lG} {xs:oA V} {i:Nat} {d:lG},Ap K H ds xs->ds[i]?=some d->∃x,xs[i]?=some x/\Dk K H d x
 |[],_,_,_,_,e=>by simp at e
 |_::ds,_,0,d,h,e=>by obtain⟨x,r,rfl,h1,_⟩:=h.cons;simp at e;subst e;exact⟨x,rfl,h1⟩
 |_::ds,_,i+1,d,h,e=>by obtain⟨x,r,rfl,_,h2⟩:=h.cons;obtain⟨y,g,f⟩:=Ap.get (i:=i) (d:=d) h2 (by simpa using e);exact⟨y,by simpa using g,f⟩
theorem Ap.append:∀{ds es:oA lG} {xs ys:oA V},Ap K H ds xs->Ap K H es ys->Ap K H (ds++es) (xs++ys)
 |[],_,_,_,h,k=>by rw[h.nil];exact k
 |_::ds,_,_,_,h,k=>by obtain⟨x,r,rfl,h1,h2⟩:=h.cons;exact Bf h1<|Ap.append h2 k
theorem Ap.drop:∀(n:Nat) {ds:oA lG} {xs:oA V},Ap K H ds xs->Ap K H (ds.drop n) (xs.drop n)
 | 0,_,_,h=>h
 |_+1,[],_,h=>by rw[h.nil];exact Ce
 |n+1,_::ds,_,h=>by obtain⟨x,r,rfl,_,h2⟩:=h.cons;exact Ap.drop n h2
theorem Ap.take:∀(n:Nat) {ds:oA lG} {xs:oA V},Ap K H ds xs->Ap K H (ds.take n) (xs.take n)
 | 0,_,_,_=>Ce
 |_+1,[],_,h=>by rw[h.nil];exact Ce
 |n+1,_::ds,_,h=>by obtain⟨x,r,rfl,h1,h2⟩:=h.cons;exact Bf h1<|Ap.take n h2
def Ap.cut{ds:oA lG}{xs:oA V}(h:Ap K H ds xs)(lo d:oB Int):Ap K H (Dt ds lo d) (Mh xs lo d):=by unfold Dt Mh;rw[h.length];exact(h.drop _).take _
theorem Ap.atI{ds:oA lG}{xs:oA V}{i:Int}{d:lG}(h:Ap K H ds xs)(e:atI ds i=some d):∃x,L2.atI xs i=some x/\Dk K H d x:=by
 unfold L2.atI at e ⊢;rw[h.length];cases q:T7 ds.length i with
 |none=>rw[q]at e;cases e
 |some j=>rw[q]at e;obtain⟨x,hx,f⟩:=h.get<|show ds[j]?=some d from e;exact⟨x,hx,f⟩
def Zf(K:lI)(H:Hp):oA (Str×lG)->oA (Str×V)->Prop:=Paired λp q=>p.1=q.1/\Dk K H p.2 q.2
def Zf.kp{d:oA<|Str×lG}{f:oA<|Str×V}(S:Kp H H')(h:Zf K H d f):Zf K H' d f:=Paired.mapP h λp q r=>⟨r.1,Dk.kp S _ _ r.2⟩
def XFs(K:lI)(H:Hp)(d:oB lH)(g:oA<|Str×lG):Prop:=match d with
 |none=>g=[]
 |some d=>∃h f,H d=some (.frz h<|XD d f)/\Zf K H g f
theorem XFs.kp{d:oB lH}{i:oA<|Str×lG}(S:Kp H H')(h:XFs K H d i):XFs K H' d i:=by
 cases d with
 |none=>exact h
 |some d=>obtain⟨j,g,q,r⟩:=h;exact⟨j,g,S.f _ _ _ q,r.kp S⟩
def RelA(K:lI)(H:Hp):AV->V->Prop
 |.D d,v=>Dk K H d v
 |.R a,v=>v=.ref a
 |.C h,v=>∃a f,v=.ref a/\(∀H,Ja K H a f)/\Ap K H h f
 |.X C g,v=>∃a o d,v=.ref a/\H a=some (.frz o<|XR a C d)/\XFs K H d g
def Dn{i:Int}:RelA K H (.D<|.int i) (.int i):=B9 (K:=K) (H:=H)
def Fv{i:Bool}:RelA K H (.D<|.bool i) (.bl i):=M9 (K:=K) (H:=H)
def Oa{i:Str}:RelA K H (.D<|.str i) (.str i):=Eb (K:=K) (H:=H)
def K7:RelA K H (.D .none) .non:=Ze (K:=K) (H:=H)
def RelA.int{x:V}{i:Int}(h:RelA K H (.D<|.int i) x):x=.int i:=Dk.int (K:=K) (H:=H) h
def RelA.bl{x:V}{i:Bool}(h:RelA K H (.D<|.bool i) x):x=.bl i:=Dk.bl (K:=K) (H:=H) h
def RelA.str{x:V}{i:Str}(h:RelA K H (.D<|.str i) x):x=.str i:=Dk.str (K:=K) (H:=H) h
def RelA.non{x:V}(h:RelA K H (.D .none) x):x=.non:=Dk.non (K:=K) (H:=H) h
def RelA.tup{x:V}{ds:oA lG}(h:RelA K H (.D<|.tuple ds) x):∃a d,x=.ref a/\Wo K H a ds d/\Ap K H ds d:=Dk.tup (K:=K) (H:=H) h
def RelA.lst{x:V}{ds:oA lG}(h:RelA K H (.D<|.list ds) x):∃a d,x=.ref a/\Yf K H a d/\Ap K H ds d:=Dk.lst (K:=K) (H:=H) h
def RelA.ref{x:V}{a:lH}(h:RelA K H (.R a) x):x=.ref a:=h
def Fi{a:lH}:RelA K H (.R a) (.ref a):=rfl
def Wp{d:lG}{v:V}(h:Dk K H d v):RelA K H (.D d) v:=h
def Ob{a:lH}{xs:oA V}{ds:oA lG}(h:H a=some (.tup xs))(r:Ap K H ds xs):RelA K H (.D<|.tuple ds) (.ref a):=K6 (K:=K) (H:=H) h r
abbrev A4(K:lI)(H:Hp):oA AV->oA V->Prop:=Paired<|RelA K H
theorem RelA.kp(S:Kp H H'):∀{x:AV} {v:V},RelA K H x v->RelA K H' x v
 |.D d,v,h=>Dk.kp S d v h
 |.R a,_,h=>h
 |.C i,v,⟨a,g,e,q,r⟩=>⟨a,g,e,q,Ap.kp S i g r⟩
 |.X C j,v,⟨a,o,d,e,q,r⟩=>⟨a,o,d,e,S.f _ _ _ q,r.kp S⟩
def A4.kp(S:Kp H H'){xs:oA AV}{d:oA V}(h:A4 K H xs d):A4 K H' xs d:=Paired.mapP h λ_ _ q=>q.kp S
def A4.length{xs:oA AV}{d:oA V}(h:A4 K H xs d):xs.length=d.length:=bS h
def A4.append{xs ys:oA AV}{d f:oA V}(h:A4 K H xs d)(s:A4 K H ys f):A4 K H (xs++ys) (d++f):=by
 induction h with
 |nil=>exact s
 |cons r t g=>exact .cons r g
theorem A4.get:∀{xs:oA AV} {d:oA V} {i:Nat} {x:AV},A4 K H xs d->xs[i]?=some x->∃u,d[i]?=some u/\RelA K H x u
 |_,_,_,_,.nil,e=>by simp at e
 |_,_,0,_,.cons r _,e=>by simp at e;subst e;exact⟨_,rfl,r⟩
 |_,_,i+1,x,.cons _ t,e=>by obtain⟨u,h1,h2⟩:=A4.get (i:=i) (x:=x) t (by simpa using e);exact⟨u,by simpa using h1,h2⟩
theorem A4.set{x:AV}{u:V}(r:RelA K H x u):∀{xs:oA AV} {d:oA V} (i:Nat),A4 K H xs d->A4 K H (xs.set i x) (d.set i u)
 |_,_,_,.nil=>.nil
 |_,_,0,.cons _ t=>.cons r t
 |_,_,i+1,.cons q t=>.cons q<|A4.set r i t
theorem A4.drop:∀{xs:oA AV} {d:oA V} (n:Nat),A4 K H xs d->A4 K H (xs.drop n) (d.drop n)
 |_,_,0,r=>r
 |_,_,_+1,.nil=>.nil
 |_,_,n+1,.cons _ t=>A4.drop n t
theorem A4.take:∀{xs:oA AV} {d:oA V} (n:Nat),A4 K H xs d->A4 K H (xs.take n) (d.take n)
 |_,_,0,_=>.nil
 |_,_,_+1,.nil=>.nil
 |_,_,n+1,.cons r t=>.cons r<|A4.take n t
theorem A4.eraseIdx:∀{xs:oA AV} {d:oA V} (n:Nat),A4 K H xs d->A4 K H (xs.eraseIdx n) (d.eraseIdx n)
 |_,_,_,.nil=>by simp;exact .nil
 |_,_,0,.cons _ t=>t
 |_,_,n+1,.cons r t=>.cons r<|A4.eraseIdx n t
theorem A4.dropLast{xs:oA AV}{d:oA V}(h:A4 K H xs d):A4 K H xs.dropLast d.dropLast:=by
 induction h with
 |nil=>exact .nil
 |cons r t f=>
  cases t with
  |nil=>exact .nil
  |cons g t=>exact .cons r f
def Zg(xs:oA AV)(lo d:oB Int):oA AV:=(xs.drop<|HT.sIx xs.length 0 lo).take<|HT.sIx xs.length xs.length d-HT.sIx xs.length 0 lo
def A4.cut{xs:oA AV}{f:oA V}(h:A4 K H xs f)(lo d:oB Int):A4 K H (Zg xs lo d) (Mh f lo d):=by unfold Zg Mh;rw[h.length];exact(h.drop _).take _
theorem A4.atI{xs:oA AV}{d:oA V}{i:Int}{x:AV}(h:A4 K H xs d)(e:atI xs i=some x):∃u,L2.atI d i=some u/\RelA K H x u:=by
 unfold L2.atI at e ⊢;rw[<- h.length];cases q:T7 xs.length i with
 |none=>rw[q]at e;cases e
 |some j=>rw[q]at e;obtain⟨x,hx,f⟩:=h.get<|show xs[j]?=some x from e;exact⟨x,hx,f⟩
def dats:oA AV->oB (oA lG)
 |[]=>some []
 |.D d::r=>match dats r with
  |some f=>some (d::f)
  |none=>none
 |.R _::_=>none
 |.C _::_=>none
 |.X _ _::_=>none
@[simp] theorem dats_nil:dats []=some []:=rfl
theorem B1:∀(ds:oA lG),dats (ds.map .D)=some ds
 |[]=>rfl
 |d::ds=>by simp only[List.map_cons,dats,B1 ds]
theorem Kq:∀{xs:oA AV} {ds:oA lG},dats xs=some ds->xs=ds.map .D
 |[],ds,h=>by cases h;rfl
 |.D d::r,ds,h=>by
  simp only[dats]at h;cases q:dats r with
  |none=>rw[q]at h;cases h
  |some es=>rw[q]at h;cases h;rw[Kq q];rfl
 |.R _::_,_,h=>by simp[dats]at h
 |.C _::_,_,h=>by simp[dats]at h
 |.X _ _::_,_,h=>by simp[dats]at h
theorem A4.dk:∀{ds:oA lG} {d:oA V},A4 K H (ds.map .D) d->Ap K H ds d
 |[],_,h=>by cases h;exact Ce
 |_::_,_,h=>by
  rw[aQ]at h;cases h with
  |cons r t=>exact Bf r<|A4.dk t
theorem Ap.rel:∀{ds:oA lG} {d:oA V},Ap K H ds d->A4 K H (ds.map .D) d
 |[],_,h=>by rw[h.nil];exact .nil
 |_::_,_,h=>by obtain⟨x,r,rfl,h1,h2⟩:=h.cons;exact .cons h1<|Ap.rel h2
def A4.dats{xs:oA AV}{d:oA V}{ds:oA lG}(h:A4 K H xs d)(e:dats xs=some ds):Ap K H ds d:=by rw[Kq e]at h;exact h.dk
inductive MO where
 |lst (xs:oA AV)|dk (kvs:oA<|Key×AV)|dt (kvs:oA<|oA Key×AV)|dd (kvs:oA<|lG×AV)
abbrev M:=lH->oB MO
def An(d:M)(a:lH)(m:MO):M:=λb=>if b=a then some m else d b
def Ac{d:M}{a:lH}{m:MO}:An d a m a=some m:=by unfold An;rw[T_ rfl]
def Ag{d:M}{a b:lH}{m:MO}(h:b≠a):An d a m b=d b:=by unfold An;rw[M_ h]
def Bh{d:M}{a:lH}{m n:MO}:An (An d a m) a n=An d a n:=by funext b;unfold An;split<;>rfl
def Fj{d:Type}(K:lI)(H:Hp):oA (d×AV)->oA (d×V)->Prop:=Paired λp q=>p.1=q.1/\RelA K H p.2 q.2
def Fj.kp{d:Type}(S:Kp H H'){xs:oA<|d×AV}{f:oA<|d×V}(h:Fj K H xs f):Fj K H' xs f:=Paired.mapP h λ_ _ q=>⟨q.1,q.2.kp S⟩
def FS(K:lI)(H:Hp):oA (lG×AV)->oA (lG×lH×lE)->Prop:=Paired λp q=>p.1=q.1/\KeyTree p.1/\Dk K H p.1 (.ref q.2.1)/\∃v,RelA K H p.2 v/\Bk v q.2.2
def FS.kp(S:Kp H H'){xs:oA<|lG×AV}{d:oA<|lG×lH×lE}(h:FS K H xs d):FS K H' xs d:=Paired.mapP h<|by rintro _ _ ⟨a,b,c,v,r,q⟩;exact ⟨a,b,Dk.kp S _ _ c,v,r.kp S,q⟩
def Kh(K:lI)(H:Hp):MO->HO->Prop
 |.lst g,o=>∃f,o=.lst f/\A4 K H g f
 |.dk d,o=>∃f,o=.dK f/\Fj K H d f
 |.dt d,o=>∃f,o=.dT f/\Fj K H d f
 |.dd d,o=>∃g,o=.dd g/\FS K H d g
theorem Kh.kp(S:Kp H H'){m:MO}{o:HO}(h:Kh K H m o):Kh K H' m o:=by
 cases m with
 |lst f=>obtain⟨d,e,r⟩:=h;exact⟨d,e,r.kp S⟩
 |dk f=>obtain⟨d,e,r⟩:=h;exact⟨d,e,r.kp S⟩
 |dt f=>obtain⟨d,e,r⟩:=h;exact⟨d,e,r.kp S⟩
 |dd f=>obtain⟨d,e,r⟩:=h;exact⟨d,e,r.kp S⟩
def Df{xs:oA AV}{d:oA V}(h:A4 K H xs d):Kh K H (.lst xs) (.lst d):=⟨d,rfl,h⟩
def Cn(K:lI)(d:M)(H:Hp):Prop:=∀a m,d a=some m->∃o,H a=some o/\Kh K H m o
theorem Cn.none{d:M}{p:lH}(c:Cn K d H)(h:H p=none):d p=none:=by
 cases q:d p with
 |none=>rfl
 |some m=>obtain⟨o,e,_⟩:=c p m q;rw[h]at e;cases e
def Cn.over{d:M}{p:lH}{o:HO}(c:Cn K d H)(h:H p=Option.none):Cn K d (upd H p o):=λa m e=>by obtain⟨g,f,r⟩:=c a m e;exact⟨g,by rw[Au<|Cc f h];exact f,r.kp<|Kp.new h o⟩
def Cn.new{d:M}{p:lH}{m:MO}{o:HO}(c:Cn K d H)(h:H p=Option.none)(r:Kh K H m o):Cn K (An d p m) (upd H p o):=λa f e=>by by_cases ha:a=p;subst ha;rw[Ac]at e;cases e;exact⟨o,Bn,r.kp<|Kp.new h o⟩;rw[Ag ha]at e;exact c.over h a f e
def Cn.put{f:M}{p:lH}{m:MO}{o d:HO}(c:Cn K f H)(h:H p=some d)(g:Mt d)(r:Kh K H m o):Cn K (An f p m) (upd H p o):=λa n e=>by by_cases ha:a=p;subst ha;rw[Ac]at e;cases e;exact⟨o,Bn,r.kp<|Kp.put h g o⟩;rw[Ag ha]at e;obtain⟨j,l,i⟩:=c a n e;exact⟨j,by rw[Au ha];exact l,i.kp<|Kp.put h g o⟩
def Sub(f d:M):Prop:=∀a m,f a=some m->d a=some m
def Sub.refl{d:M}:Sub d d:=λ_ _ h=>h
def Sub.trans{f d g:M}(h:Sub f d)(k:Sub d g):Sub f g:=λa m e=>k a m<|h a m e
def Sub.new{f g:M}{p:lH}{m:MO}(h:Sub f g)(e:f p=none):Sub f (An g p m):=λa i d=>by rw[Ag<|by intro z;subst z;rw[e]at d;cases d];exact h a i d
theorem Sub.none{d f:M}{p:lH}(h:Sub d f)(e:f p=none):d p=none:=by
 cases q:d p with
 |none=>rfl
 |some m=>rw[h p m q]at e;cases e
def Cn.sub{f d:M}(c:Cn K d H)(h:Sub f d):Cn K f H:=λa m e=>c a m<|h a m e
abbrev ASt:=oA<|oB AV
def Na(K:lI)(H:Hp)(a:oB AV)(b:oB V):Prop:=∀x,a=some x->∃v,b=some v/\RelA K H x v
abbrev D4(K:lI)(H:Hp):ASt->St->Prop:=Paired<|Na K H
def Na.kp{a:oB AV}{b:oB V}(S:Kp H H')(h:Na K H a b):Na K H' a b:=λx e=>by obtain⟨v,d,r⟩:=h x e;exact⟨v,d,r.kp S⟩
def D4.kp{τ:ASt}{d:St}(S:Kp H H')(h:D4 K H τ d):D4 K H' τ d:=Paired.mapP h λ_ _ q=>q.kp S
theorem D4.get:∀{τ:ASt} {d:St} {i:Nat} {x:AV},D4 K H τ d->τ[i]?=some (some x)->∃v,d[i]?=some (some v)/\RelA K H x v
 |_,_,_,_,.nil,e=>by simp at e
 |_,_,0,_,.cons r _,e=>by simp at e;subst e;obtain⟨v,rfl,q⟩:=r _ rfl;exact⟨v,rfl,q⟩
 |_,_,i+1,x,.cons _ t,e=>by obtain⟨u,h1,h2⟩:=D4.get (i:=i) (x:=x) t (by simpa using e);exact⟨u,by simpa using h1,h2⟩
def K8{x:AV}{v:V}(r:RelA K H x v):Na K H (some x) (some v):=λy e=>by cases e;exact⟨v,rfl,r⟩
def K9{b:oB V}:Na K H none b:=λy e=>nomatch e
theorem D4.set{x:AV}{v:V}(r:RelA K H x v):∀{τ:ASt} {d:St} (i:Nat),D4 K H τ d->D4 K H (τ.set i<|some x) (d.set i<|some v)
 |_,_,_,.nil=>.nil
 |_,_,0,.cons _ t=>.cons (K8 r) t
 |_,_,i+1,.cons q t=>.cons q<|D4.set r i t
def Gc(N:oA Str)(xs:oA AV):ASt:=xs.map some++List.replicate (N.length-xs.length) none
theorem D4.rep:∀(n:Nat),D4 K H (List.replicate n none) (List.replicate n none)
 | 0=>.nil
 |n+1=>.cons K9<|D4.rep n
theorem D4.somes:∀{xs:oA AV} {d:oA V},A4 K H xs d->D4 K H (xs.map some) (d.map some)
 |_,_,.nil=>.nil
 |_,_,.cons r t=>.cons (K8 r)<|D4.somes t
def D4.append{τ f:ASt}{g d:St}(h:D4 K H τ g)(s:D4 K H f d):D4 K H (τ++f) (g++d):=by
 induction h with
 |nil=>exact s
 |cons r t i=>exact .cons r i
def D4.begin{N:oA Str}{xs:oA AV}{d:oA V}(h:A4 K H xs d):D4 K H (Gc N xs) (start N d):=by unfold Gc start;rw[h.length];exact(D4.somes h).append<|D4.rep _
def MR(mp:oA<|oB Nat)(τ:ASt):ASt:=mp.map λo=>match o with
 |none=>none
 |some j=>match τ[j]? with
  |some x=>x
  |none=>none
theorem D4.sub{τ:ASt}{d:St}(h:D4 K H τ d):∀(mp:oA<|oB Nat),D4 K H (MR mp τ) (Ps mp d)
 |[]=>.nil
 |none::mp=>.cons K9 (D4.sub h mp)
 |some j::mp=>by
  refine .cons (λx e=>?_)<|D4.sub h mp;have f:τ[j]?=some (some x):=by
   dsimp only at e;cases q:τ[j]? with
   |none=>rw[q]at e;cases e
   |some y=>rw[q]at e;exact cV some e
  obtain⟨v,hv,r⟩:=h.get f;refine⟨v,?_,r⟩;show(d[j]?).join=some v;rw[hv];rfl
abbrev AE:=ASt->M->(AV->M->Prop)->Prop
abbrev AT:=ASt->M->(Bool->M->Prop)->Prop
abbrev AA:=ASt->M->(oA AV->M->Prop)->Prop
abbrev AO:=ASt->M->(oB Int->M->Prop)->Prop
abbrev AS:=(ASt->M->Prop)->(AV->M->Prop)->(ASt->M->Prop)->(ASt->M->Prop)->ASt->M->Prop
abbrev AG:=AV->ASt->M->(ASt->M->Prop)->Prop
abbrev AGs:=oA AV->ASt->M->(ASt->M->Prop)->Prop
abbrev A2:=AV->AV->M->(AV->M->Prop)->Prop
abbrev AC:=oA AV->M->(AV->M->Prop)->Prop
@[irreducible] def brP (b:Bool) (T F:Prop):Prop:=match b with
 |true=>T
 |false=>F
@[irreducible] def opt {d:Type} (o:oB d) (k:d->Prop):Prop:=match o with
 |some x=>k x
 |none=>False
def br{b:Bool}{T F:Prop}(h1:b=true->T)(h2:b=false->F):brP b T F:=by
 unfold brP;cases b with
 |true=>exact h1 rfl
 |false=>exact h2 rfl
def Fk{b:Bool}{T F:Prop}(hb:b=true)(h:T):brP b T F:=by subst hb;unfold brP;exact h
def Eg{b:Bool}{T F:Prop}(hb:b=false)(h:F):brP b T F:=by subst hb;unfold brP;exact h
def Zh{T F:Prop}:brP true T F=T:=by unfold brP;rfl
def br_e{b:Bool}{T F:Prop}(h:brP b T F):(b=true/\T)\/(b=false/\F):=by
 unfold brP at h;cases b with
 |true=>exact .inl ⟨rfl,h⟩
 |false=>exact .inr ⟨rfl,h⟩
def Ab{d:Type}{o:oB d}{x:d}{k:d->Prop}(h:o=some x)(q:k x):opt o k:=by subst h;unfold opt;exact q
def A5{d:Type}{o:oB d}{k:d->Prop}(h:opt o k):∃x,o=some x/\k x:=by
 unfold opt at h;cases o with
 |none=>exact h.elim
 |some x=>exact⟨x,rfl,h⟩
def dif{p:Prop} [Decidable p]{T F:Prop}(h1:p->T)(h2:¬p->F):brP (decide p) T F:=br (λh=>h1<|aF h) λh=>h2<|iF h
def LV(K:lI)(H:Hp)(R:AV->M->Prop)(Q:VK):Prop:=∀x d v H',Kp H H'->Cn K d H'->RelA K H' x v->R x d->Q v H'
def LB(K:lI)(H:Hp)(R:Bool->M->Prop)(Q:Bool->Hp->Prop):Prop:=∀b d H',Kp H H'->Cn K d H'->R b d->Q b H'
def LA(K:lI)(n:Nat)(H:Hp)(R:oA AV->M->Prop)(Q:oA V->Hp->Prop):Prop:=∀d f g H',Kp H H'->Cn K f H'->A4 K H' d g->d.length=n->R d f->Q g H'
def LO(K:lI)(H:Hp)(R:oB Int->M->Prop)(Q:oB Int->Hp->Prop):Prop:=∀b d H',Kp H H'->Cn K d H'->R b d->Q b H'
def LS(K:lI)(H:Hp)(R:ASt->M->Prop)(Q:St->Hp->Prop):Prop:=∀ g f d H',Kp H H'->D4 K H' g d->Cn K f H'->R g f->Q d H'
def LV.kp{K:lI}{H H':Hp}{R:AV->M->Prop}{Q:VK}(h:LV K H R Q)(S:Kp H H'):LV K H' R Q:=λx g v d f=>h x g v d<|S.trans f
def LB.kp{K:lI}{H H':Hp}{R:Bool->M->Prop}{Q:Bool->Hp->Prop}(h:LB K H R Q)(S:Kp H H'):LB K H' R Q:=λx g d f=>h x g d<|S.trans f
def LS.kp{K:lI}{H H':Hp}{R:ASt->M->Prop}{Q:St->Hp->Prop}(h:LS K H R Q)(S:Kp H H'):LS K H' R Q:=λx g v d f=>h x g v d<|S.trans f
structure LE'(K:lI)(H:Hp)(k:ASt->M->Prop)(r:AV->M->Prop)(b c:ASt->M->Prop)(D:Ends):Prop where
 nx:LS K H k D.nx
 rt:LV K H r D.rt
 bk:LS K H b D.bk
 ct:LS K H c D.ct
def LE'.kp{K:lI}{H H':Hp}{k:ASt->M->Prop}{r:AV->M->Prop}{b c:ASt->M->Prop}{D:Ends}(h:LE' K H k r b c D)(S:Kp H H'):LE' K H' k r b c D:=⟨h.nx.kp S,h.rt.kp S,h.bk.kp S,h.ct.kp S⟩
def cE(K:lI)(t:AE):TE:=λg H Q=>∃ f d R,D4 K H f g/\Cn K d H/\t f d R/\LV K H R Q
def cT(K:lI)(t:AT):TT:=λg H Q=>∃ f d R,D4 K H f g/\Cn K d H/\t f d R/\LB K H R Q
def cA(K:lI)(n:Nat)(t:AA):TA:=λg H Q=>∃ f d R,D4 K H f g/\Cn K d H/\t f d R/\LA K n H R Q
def cO(K:lI)(t:AO):TO:=λg H Q=>∃ f d R,D4 K H f g/\Cn K d H/\t f d R/\LO K H R Q
def cS(K:lI)(t:AS):TS:=λD g H=>∃ f d k r b c,D4 K H f g/\Cn K d H/\t k r b c f d/\LE' K H k r b c D
def cG(K:lI)(t:AG):TG:=λv g H Q=>∃x f d R,RelA K H x v/\D4 K H f g/\Cn K d H/\t x f d R/\LS K H R Q
def cGs(K:lI)(t:AGs):TGs:=λi h H Q=>∃d g f R,A4 K H d i/\D4 K H g h/\Cn K f H/\t d g f R/\LS K H R Q
def cR(K:lI)(r:A2):R2:=λx y H Q=>∃a b d R,RelA K H a x/\RelA K H b y/\Cn K d H/\r a b d R/\LV K H R Q
def cC(K:lI)(r:AC):oA V->Hp->VK->Prop:=λg H Q=>∃d f R,A4 K H d g/\Cn K f H/\r d f R/\LV K H R Q
def cM(K:lI)(r:AV->AC):V->oA V->Hp->VK->Prop:=λx g H Q=>∃a d f R,RelA K H a x/\A4 K H d g/\Cn K f H/\r a d f R/\LV K H R Q
def VE(X:Cx)(e:lL)(t:AE):Prop:=PE X e<|cE X.K t
def VT(X:Cx)(e:lL)(t:AT):Prop:=PT X e<|cT X.K t
def VW(X:Cx)(e:lL)(t:AT):Prop:=PW X e<|cT X.K t
def VA(X:Cx)(es:oA lL)(t:AA):Prop:=PA X es<|cA X.K es.length t
def VO(X:Cx)(e:oB lL)(t:AO):Prop:=PO X e<|cO X.K t
def VS(X:Cx)(st:lP)(t:AS):Prop:=PS X st<|cS X.K t
def VSs(X:Cx)(st:oA lP)(t:AS):Prop:=PSs X st<|cS X.K t
def VG(X:Cx)(e:lL)(t:AG):Prop:=PG X e<|cG X.K t
def VGs(X:Cx)(es:oA lL)(t:AGs):Prop:=PGs X es<|cGs X.K t
def VOp(X:Cx)(f:lE->lE->Sem lE)(r:A2):Prop:=Ib X f<|cR X.K r
def VIx(X:Cx)(r:A2):Prop:=RU X<|cR X.K r
def VCall(X:Cx)(f:lE)(r:AC):Prop:=F7 X f<|cC X.K r
def VMt(X:Cx)(id:String)(r:AV->AC):Prop:=QN X id<|cM X.K r
def PE.imp{e:lL}{t u:TE}(h:PE X e t)(i:∀ d H Q,u d H Q->t d H Q):PE X e u:=λf s d H Q I q=>h f s d H Q I<|i d H Q q
def PT.imp{e:lL}{t u:TT}(h:PT X e t)(i:∀ d H Q,u d H Q->t d H Q):PT X e u:=λf s d H Q I q=>h f s d H Q I<|i d H Q q
def PW.imp{e:lL}{t u:TT}(h:PW X e t)(i:∀ d H Q,u d H Q->t d H Q):PW X e u:=λg f s d H Q I q=>h g f s d H Q I<|i d H Q q
def PA.imp{e:oA lL}{t u:TA}(h:PA X e t)(i:∀ d H Q,u d H Q->t d H Q):PA X e u:=λpos f s d H Q I q=>h pos f s d H Q I<|i d H Q q
def PO.imp{e:oB lL}{t u:TO}(h:PO X e t)(i:∀ d H Q,u d H Q->t d H Q):PO X e u:=λf s d H Q I q=>h f s d H Q I<|i d H Q q
def PS.imp{e:lP}{t u:TS}(h:PS X e t)(i:∀D d H,u D d H->t D d H):PS X e u:=λf s d H D I q=>h f s d H D I<|i D d H q
def PSs.imp{e:oA lP}{t u:TS}(h:PSs X e t)(i:∀D d H,u D d H->t D d H):PSs X e u:=λf s d H D I q=>h f s d H D I<|i D d H q
def PG.imp{e:lL}{t u:TG}(h:PG X e t)(i:∀v d H Q,u v d H Q->t v d H Q):PG X e u:=λf s d H v w Q I r q=>h f s d H v w Q I r<|i v d H Q q
def PGs.imp{e:oA lL}{t u:TGs}(h:PGs X e t)(i:∀v d H Q,u v d H Q->t v d H Q):PGs X e u:=λf s d H v w Q I r q=>h f s d H v w Q I r<|i v d H Q q
def R9(i:Nat):AE:=λf d R=>match f[i]? with
 |some (some x)=>R x d
 |_=>False
def Zi{K:lI}{i:Nat}{d:St}{H:Hp}{Q:VK}(h:cE K (R9 i) d H Q):QX i d H Q:=by obtain⟨j,l,R,g,hc,h,hq⟩:=h;unfold R9 at h;split at h;rename_i x e;obtain⟨v,f,r⟩:=g.get e;exact⟨v,f,hq _ _ _ _ Kp.refl hc r h⟩;exact h.elim
def vv(i:Nat){x:Str}{pos:Pos}(d:X.N[i]?=some x:=by rfl)(hv:Vis X.env.scope x:=by first|exact Or.inl rfl|exact Or.inr (Or.inl rfl)|exact Or.inr<|Or.inr rfl)(g:(x==("__debug__" : Str))=false:=by decide)
  (f:(x==("__classdict__" : Str))=false:=by decide):VE X (.Name x pos) (R9 i):=(KG d hv g f).imp λ_ _ _ h=>Zi h
def vC(x:AV):AE:=λ_ d R=>R x d
def Gd{e:lL}{v:V}{d:lG}(h:PE X e<|tC v)(r:∀H,Dk X.K H d v):VE X e (vC<|.D d):=h.imp λi H Q f=>Ci f λj l R g hc h hq=>hq _ _ _ _ Kp.refl hc (Wp<|r H) h
def Af{i j pos}:VE X (.Constant (.int i) j pos) (vC<|.D<|.int i):=Gd KH λ_=>B9
def Ez{b j pos}:VE X (.Constant (.bool b) j pos) (vC<|.D<|.bool b):=Gd QY λ_=>M9
def D3{j pos}:VE X (.Constant .none j pos) (vC<|.D .none):=Gd KI λ_=>Ze
def Bb{x j pos}:VE X (.Constant (.str x) j pos) (vC<|.D<|.str x):=Gd KJ λ_=>Eb
def Eh{x:Str}{v:V}{u:lE}{d:lG}{pos:Pos}(g:Gl X x)(h:X.mg x=some u)(r:Bk v u)(f:∀H,Dk X.K H d v)(h1:(x==("__debug__" : Str))=false:=by decide):VE X (.Name x pos) (vC<|.D d):=Gd (ES g h r h1) f
def QO(r:A2)(ta tb:AE):AE:=λg h R=>ta g h λx f=>tb g f λy d=>r x y d R
def Kr{K:lI}{r:A2}{ta tb:AE}{j:St}{H:Hp}{Q:VK}(h:cE K (QO r ta tb) j H Q):RG (cR K r) (cE K ta) (cE K tb) j H Q:=by obtain⟨n,z,R,g,hc,h,hq⟩:=h;exact⟨n,z,_,g,hc,h,λx f v B l q s hx=>⟨n,f,_,g.kp l,q,hx,λy d u A i c2 w hy=>⟨x,y,d,R,s.kp i,w,c2,hy,hq.kp<|l.trans i⟩⟩⟩
def A9{d:Operator}{r:A2}(f:VOp X (binaryOp d) r)(ha:VE X a ta)(hb:VE X b tb):VE X (.BinOp a d b pos) (QO r ta tb):=(RH f ha hb).imp λ_ _ _ h=>Kr h
def Jf{d:CmpOp}{r:A2}(f:VOp X (compareOp d) r)(ha:VE X a ta)(hb:VE X b tb)(g:behindInMarks d b=false):VE X (.Compare a [d] [b] pos) (QO r ta tb):=(FD f ha hb g).imp λ_ _ _ h=>Kr h
def Ue(t:AE):AT:=λg f R=>t g f λx d=>match x with
 |.D (.bool k)=>R k d
 |_=>False
def Jg{K:lI}{t:AE}{u:TE}(hu:∀ d H Q,cE K t d H Q->u d H Q){d:St}{H:Hp}{Q:Bool->Hp->Prop}(h:cT K (Ue t) d H Q):IW u d H Q:=by obtain⟨l,n,R,f,hc,h,hq⟩:=h;refine hu _ _ _ ⟨l,n,_,f,hc,h,λx q v s j g i hx=>?_⟩;split at hx;cases RelA.bl i;exact⟨_,rfl,hq _ _ _ j g hx⟩;exact hx.elim
def Ax{d:CmpOp}{r:A2}(f:VOp X (compareOp d) r)(ha:VE X a ta)(hb:VE X b tb)(g:behindInMarks d b=false):VT X (.Compare a [d] [b] pos) (Ue<|QO r ta tb) :=
 (FE f ha hb g).imp λ_ _ _ h=>Jg (λ_ _ _ q=>Kr q) h
def Jh{e:lL}{t:AE}(h:VE X e t)(he:∀d,isTrue e X.env d=(do let v <- d;standAt e.pos;holding [v]<|truthy v):=by intro _;rfl):VT X e (Ue t) :=
 (KM h he).imp λ_ _ _ h=>by have h:=Jg (λ_ _ _ q=>q) h;exact h
def Qam(t u:AT):AT:=λf g R=>t f g λk d=>brP k (u f d R)<|R false d
def vOr(t u:AT):AT:=λf g R=>t f g λk d=>brP k (R true d)<|u f d R
def Qan(t:AT):AT:=λg f R=>t g f λk d=>R (!k) d
def VW.pt{e:lL}{t:AT}(h:VW X e t):VT X e t:=PW.pt h
def Fl(ha:VT X a tA):VW X (.BoolOp .And [a] pos) tA:=ET ha
def Sa(ha:VT X a tA):VW X (.BoolOp .Or [a] pos) tA:=KN ha
def Hr(ha:VT X a tA)(hb:VW X (.BoolOp .And (b::rest) pos) kb):VW X (.BoolOp .And (a::b::rest) pos) (Qam tA kb) :=
 (KO ha hb).imp λs H Q d=>Ci d λn q R j hc h hq=>⟨n,q,_,j,hc,h,λk g u f l hk=>by
  rcases br_e hk with⟨rfl,i⟩|⟨rfl,i⟩;exact⟨n,g,R,j.kp f,l,i,hq.kp f⟩;exact hq _ _ _ f l i⟩
def Zj(ha:VT X a tA)(hb:VW X (.BoolOp .Or (b::rest) pos) kb):VW X (.BoolOp .Or (a::b::rest) pos) (vOr tA kb) :=
 (QZ ha hb).imp λs H Q d=>Ci d λn q R j hc h hq=>⟨n,q,_,j,hc,h,λk g u f l hk=>by
  rcases br_e hk with⟨rfl,i⟩|⟨rfl,i⟩;exact hq _ _ _ f l i;exact⟨n,g,R,j.kp f,l,i,hq.kp f⟩⟩
def Zk(ha:VT X a tA):VT X (.UnaryOp .Not a pos) (Qan tA):=(KP ha).imp λq H Q d=>Ci d λj n R f hc h hq=>⟨j,n,_,f,hc,h,λk l s i g hk=>hq _ _ _ i g hk⟩
def MS{op}{t:AE}(h:VE X a t):VE X (.BoolOp op [a] pos) t:=KQ h
def Qao(ta tb:AE):AE:=λf g R=>ta f g λx d=>match x with
 |.D (.bool k)=>brP k (R (.D<|.bool true) d) (tb f d R)
 |_=>False
def IZ(ha:VE X a ta)(hb:VE X (.BoolOp .Or (b::rest) pos) tb):VE X (.BoolOp .Or (a::b::rest) pos) (Qao ta tb) :=
 (RA ha hb).imp λu H Q i=>Ci i λn s R j hc h hq=>⟨n,s,_,j,hc,h,λx f v w d l q hk=>by
  split at hk;cases RelA.bl q;rcases br_e hk with⟨rfl,g⟩|⟨rfl,g⟩;exact⟨true,rfl,hq _ _ _ _ d l Fv g⟩;exact⟨false,rfl,⟨n,f,R,j.kp d,l,g,hq.kp d⟩⟩;exact hk.elim⟩
def vIf(t:AT)(ta tb:AE):AE:=λf g R=>t f g λk d=>brP k (ta f d R)<|tb f d R
def Ec(hc:VT X c tA)(ha:VE X a ta)(hb:VE X b tb):VE X (.IfExp c a b pos) (vIf tA ta tb) :=
 (Yh hc ha hb).imp λs H Q i=>Ci i λj q R g hc h hq=>⟨j,q,_,g,hc,h,λk d u f n hk=>by
  rcases br_e hk with⟨rfl,l⟩|⟨rfl,l⟩;exact⟨j,d,R,g.kp f,n,l,hq.kp f⟩;exact⟨j,d,R,g.kp f,n,l,hq.kp f⟩⟩
def MT:AA:=λ_ d R=>R [] d
def SF(ta:AE)(j:AA):AA:=λg i R=>ta g i λx f=>j g f λh d=>R (x::h) d
def Ad:VA X [] MT:=LP.imp λi H Q d=>Ci d λj f R g hc h hq=>hq [] f [] H Kp.refl hc .nil rfl h
def Aa{e:lL}{es:oA lL}{te:AE}{t:AA}(ha:VE X e te)(hr:VA X es t)(hs:starEach (e::es) X.env=(false,eval e X.env)::starEach es X.env:=by rfl):VA X (e::es) (SF te t) :=
 (FF ha hr hs).imp λC H Q d=>Ci d λn A R hs hc h hq=>⟨n,A,_,hs,hc,h,λx g v D l u w hx=>⟨n,g,_,hs.kp l,u,hx,λq f y s j c2 z B i=>
  hq (x::q) f (v::y) s (l.trans j) c2 (.cons (w.kp j) z) (by rw[aS,B];rfl) i⟩⟩
def Qap(t:AA):AE:=λg h R=>t g h λf d=>match dats f with
 |some i=>R (.D<|.tuple i) d
 |none=>False
def SG(t:AA):AE:=λh g R=>t h g λf d=>∀p,d p=none->R (.R p) (An d p<|.lst f)
def Aq{k:Nat}(h:VA X es t)(j:es.length<=sizeLine:=by decide):VE X (.Tuple es k pos) (Qap t) :=
 (LQ h).imp λw H Q d=>Ci d λn s R g hc h hq=>⟨n,s,_,g,hc,h,λv q y A l i f u hx=>⟨by rw[<- f.length,u];exact j,λp hp=>by
  split at hx;rename_i z e;refine hq _ _ _ _ (l.trans<|Kp.new hp _) (i.over hp) ?_ hx;exact K6 Bn<|Ap.kp (Kp.new hp _) _ _<|f.dats e;exact hx.elim⟩⟩
def Bu(h:VA X es t)(j:es.length<=sizeLine:=by decide):VE X (.List es pos) (SG t) :=
 (LR h).imp λw H Q d=>Ci d λn s R i hc h hq=>⟨n,s,_,i,hc,h,λv q y z l f g u hx=>⟨by rw[<- g.length,u];exact j,λp hp=>
  hq _ _ _ _ (l.trans<|Kp.new hp _) (f.new hp<|Df<|g) Fi (hx p<|f.none hp)⟩⟩
mutual
theorem Dk.reads{A:oA<|lH×lO}{y:St}{H:Hp}{s:lF}(I:Inv X A y H s):∀(d:lG) (x:V) (u:lE),Dk X.K H d x->Bk x u->∃v,Reads s.heap u d v
 |.none,x,u,h,r=>by cases h.non;cases r;exact⟨_,.none⟩
 |.bool b,x,u,h,r=>by cases h.bl;cases r;exact⟨_,.bool b⟩
 |.int i,x,u,h,r=>by cases h.int;obtain⟨t,rfl⟩:=r;exact⟨_,.int i t⟩
 |.str z,x,u,h,r=>by cases h.str;obtain⟨t,rfl⟩:=r;exact⟨_,.str z t⟩
 |.list g,x,u,h,r=>by obtain⟨a,l,rfl,q,k⟩:=h.lst;cases r;obtain⟨f,j,⟨o,n,e,c,_,d⟩,_⟩:=I.list q.sq;obtain⟨v,w⟩:=Ap.reads I g l f k j;exact⟨_,.list e c d<|by simpa using w⟩
 |.tuple g,x,u,h,r=>by obtain⟨a,l,rfl,q,k⟩:=h.tup;cases r;obtain⟨f,j,⟨o,e,c,n,d⟩,_⟩:=I.tuple q.sq;obtain⟨v,w⟩:=Ap.reads I g l f k j;exact⟨_,.tuple e c d<|by simpa using w⟩
 |.dict _,x,u,h,_=>by simp only[Dk]at h
theorem Ap.reads{l:oA<|lH×lO}{j:St}{H:Hp}{s:lF}(I:Inv X l j H s):∀(ds:oA lG) (xs:oA V) (f:oA lE),Ap X.K H ds xs->Vals xs f->∃g,ReadsAll s.heap f ds g
 |[],xs,f,h,r=>by have e:=h.nil;subst e;cases r;exact⟨_,.nil⟩
 |d::ds,xs,f,h,r=>by
  obtain⟨x,q,rfl,h1,h2⟩:=h.cons;cases r with
  |cons n i=>obtain⟨g,v⟩:=Dk.reads I d x _ h1 n;obtain⟨w,u⟩:=Ap.reads I ds q _ h2 i;exact⟨_,.cons v u⟩
end
def see(h:M):AV->oB lG
 |.X _ _=>none
 |.D d=>some d
 |.C f=>some (.tuple f)
 |.R a=>match h a with
  |some (.lst g)=>match dats g with
   |some f=>some (.list f)
   |none=>none
  |_=>none
@[simp] theorem see_D {f:M} {d:lG}:see f (.D d)=some d:=rfl
def Du{A:oA<|lH×lO}{z:St}{H:Hp}{s:lF}{w:M}{x:AV}{v:V}{u:lE}{d:lG}(I:Inv X A z H s)(hc:Cn X.K w H)(i:RelA X.K H x v)(r:Bk v u)(e:see w x=some d):∃j,Reads s.heap u d j:=by
 cases x with
 |X C L=>cases e
 |D N=>cases e;exact Dk.reads I _ _ _ i r
 |C g=>cases e;obtain⟨a,y,rfl,q,k⟩:=i;cases r;obtain⟨f,h,⟨o,e,c,n,d⟩,_⟩:=I.tuple<|q H;obtain⟨j,l⟩:=Ap.reads I g y f k h;exact⟨_,.tuple e c d<|by simpa using l⟩
 |R a=>dsimp only[see]at e;split at e;rename_i y G;split at e;rename_i g B;cases e;cases (show v=.ref a from i);cases r;obtain⟨o,F,J,rfl,E⟩:=hc a _ G;obtain⟨f,h,⟨o,n,e,c,_,dd⟩,_⟩:=I.list<|Fu.of F;obtain⟨j,l⟩:=Ap.reads I g J f (E.dats B) h;exact⟨_,.list e c dd<|by simpa using l⟩;cases e;cases e
def Bz(d:lG):Prop:=d.canLay0=true/\d.depth<=64
def aEq:A2:=λx y f R=>match x,y with
 |.D d,.D e=>Bz d/\Bz e/\R (.D<|.bool<|PyData.eqv d e) f
 |x,y=>opt (see f x) λd=>opt (see f y) λe=>Bz d/\Bz e/\R (.D<|.bool<|PyData.eqv d e) f
def FT{x y:AV}{f:M}{R:AV->M->Prop}(h:aEq x y f R):∃d e,see f x=some d/\see f y=some e/\Bz d/\Bz e/\R (.D<|.bool<|PyData.eqv d e) f:=by
 have g:∀(h:opt (see f x) λd=>opt (see f y) λe=>Bz d/\Bz e/\R (.D<|.bool<|PyData.eqv d e) f),∃d e,see f x=some d/\see f y=some e/\Bz d/\Bz e/\R (.D<|.bool<|PyData.eqv d e) f:=by intro h;obtain⟨d,i,h⟩:=A5 h;obtain⟨e,j,h⟩:=A5 h;exact⟨d,e,i,j,h⟩
 cases x with
 |D d=>
  cases y with
  |D e=>exact⟨_,_,rfl,rfl,h⟩
  |_=>exact g h
 |_=>exact g h
def aNe:A2:=λx y f R=>match x,y with
 |.D d,.D e=>Bz d/\Bz e/\R (.D<|.bool<|!PyData.eqv d e) f
 |x,y=>opt (see f x) λd=>opt (see f y) λe=>Bz d/\Bz e/\R (.D<|.bool<|!PyData.eqv d e) f
def FU{x y:AV}{f:M}{R:AV->M->Prop}(h:aNe x y f R):∃d e,see f x=some d/\see f y=some e/\Bz d/\Bz e/\R (.D<|.bool<|!PyData.eqv d e) f:=by unfold aNe at h;split at h;exact⟨_,_,rfl,rfl,h⟩;obtain⟨d,g,h⟩:=A5 h;obtain⟨e,i,h⟩:=A5 h;exact⟨d,e,g,i,h⟩
def C1(hr:Room k X.A):VOp X (compareOp .Eq) aEq:=by intro C s B H x y v u Q I i n f;refine En f λa b F R z w hc h hq=>?_;obtain⟨d,e,q,j,h⟩:=FT h;obtain⟨D,l⟩:=Du I hc z i q;obtain⟨E,g⟩:=Du I hc w n j;have hu:=hr.un;have:=h.1.2;exact SeqAt.compareEq_reads l g h.1.1 h.2.1.1 (by omega) ⟨.bl _,H,I,rfl,hq _ _ _ _ Kp.refl hc Fv h.2.2⟩
def MU(hr:Room k X.A):VOp X (compareOp .NotEq) aNe:=by intro C s B H x y v u Q I i n f;refine En f λa b F R z w hc h hq=>?_;obtain⟨d,e,q,j,h⟩:=FU h;obtain⟨D,l⟩:=Du I hc z i q;obtain⟨E,g⟩:=Du I hc w n j;have hu:=hr.un;have:=h.1.2;exact SeqAt.compareNe_reads l g h.1.1 h.2.1.1 (by omega) ⟨.bl _,H,I,rfl,hq _ _ _ _ Kp.refl hc Fv h.2.2⟩
def Pw:lG->oB Key
 |.int i=>some (.inl i)
 |.str z=>some (.inr z)
 |_=>none
def items(g:M):AV->oB (oA AV)
 |.D (.tuple d)=>some (d.map .D)
 |.C d=>some (d.map .D)
 |.D (.list d)=>some (d.map .D)
 |.R a=>match g a with
  |some (.lst f)=>some f
  |_=>none
 |_=>none
def Nb{H:Hp}{g:M}{x:AV}{v:V}{xs:oA AV}(hc:Cn X.K g H)(f:RelA X.K H x v)(e:items g x=some xs):∃p d,v=.ref p/\(Fu X.K H p d\/Ja X.K H p d)/\A4 X.K H xs d:=by unfold items at e;split at e;cases e;obtain⟨a,d,rfl,q,r⟩:=RelA.tup f;exact⟨a,d,rfl,.inr q.sq,r.rel⟩;cases e;obtain⟨a,d,rfl,q,r⟩:=f;exact⟨a,d,rfl,.inr<|q H,r.rel⟩;cases e;obtain⟨a,d,rfl,q,r⟩:=RelA.lst f;exact⟨a,d,rfl,.inl q.sq,r.rel⟩;split at e;rename_i l j;cases e;obtain⟨o,i,d,rfl,h⟩:=hc _ _ j;exact⟨_,d,f,.inl<|Fu.of i,h⟩;cases e;cases e
def JA:AV->Bool
 |.D (.tuple _)=>true
 |.C _=>true
 |_=>false
def B5{H:Hp}{g:M}{x:AV}{v:V}{xs:oA AV}(hc:Cn X.K g H)(f:RelA X.K H x v)(e:items g x=some xs):∃p d,v=.ref p/\((JA x=false/\Fu X.K H p d)\/(JA x=true/\Ja X.K H p d))/\A4 X.K H xs d:=by unfold items at e;split at e;cases e;obtain⟨a,d,rfl,q,r⟩:=RelA.tup f;exact⟨a,d,rfl,.inr ⟨rfl,q.sq⟩,r.rel⟩;cases e;obtain⟨a,d,rfl,q,r⟩:=f;exact⟨a,d,rfl,.inr ⟨rfl,q H⟩,r.rel⟩;cases e;obtain⟨a,d,rfl,q,r⟩:=RelA.lst f;exact⟨a,d,rfl,.inl ⟨rfl,q.sq⟩,r.rel⟩;split at e;rename_i l j;cases e;obtain⟨o,i,d,rfl,h⟩:=hc _ _ j;exact⟨_,d,f,.inl ⟨rfl,Fu.of i⟩,h⟩;cases e;cases e
def QP(h:Bool->Bool):A2:=λx y f R=>match y with
 |.D (.str j)=>match x with
  |.D (.str i)=>R (.D<|.bool<|h<|!(Builtin.Str.occurrences j i 0 j.length 1).isEmpty) f
  |_=>False
 |.C g=>opt (see f x) λd=>Bz d/\Bz (.tuple g)/\R (.D<|.bool<|h<|g.any λe=>PyData.eqv e d) f
 |.D (.tuple g)=>opt (see f x) λd=>Bz d/\Bz (.tuple g)/\R (.D<|.bool<|h<|g.any λe=>PyData.eqv e d) f
 |y=>opt (see f x) λd=>opt (items f y) λl=>opt (dats l) λg=>Bz d/\Bz (.tuple g)/\R (.D<|.bool<|h<|g.any λe=>PyData.eqv e d) f
def Uf{n:Bool->Bool}{x y:AV}{j:M}{R:AV->M->Prop}(h:QP n x y j R)(q:∀z,y≠.D (.str z)):∃d i f,see j x=some d/\items j y=some i/\dats i=some f/\Bz d/\Bz (.tuple f)/\R (.D<|.bool<|n<|f.any λe=>PyData.eqv e d) j:=by unfold QP at h;split at h;exact absurd rfl<|q _;obtain⟨d,g,h⟩:=A5 h;exact⟨d,_,_,g,rfl,B1 _,h⟩;obtain⟨d,g,h⟩:=A5 h;exact⟨d,_,_,g,rfl,B1 _,h⟩;obtain⟨d,g,h⟩:=A5 h;obtain⟨i,s,h⟩:=A5 h;obtain⟨f,l,h⟩:=A5 h;exact⟨d,i,f,g,s,l,h⟩
def La{ds:oA lG}(h:Bz<|.tuple ds):PyData.canLayAll0 ds=true/\PyData.depthAll ds<=64:=by obtain⟨h1,h2⟩:=h;simp only[PyData.canLay0]at h1;simp only[PyData.depth]at h2;exact⟨h1,fN h2⟩
def Wq(hr:Room k X.A):VOp X (compareOp .In) (QP λb=>b):=by
 intro S s P H x y v u Q I L M j;refine En j λa b Z R N f hc h hq=>?_;by_cases hb:∃z,b=.D (.str z);obtain⟨z,rfl⟩:=hb;unfold QP at h;dsimp only at h;split at h;cases RelA.str N;cases RelA.str f;exact V9 S s P H _ _ v u Q I L M ⟨_,_,rfl,rfl,hq _ _ _ _ Kp.refl hc Fv h⟩;exact h.elim;obtain⟨d,ys,G,U,W,C,h⟩:=Uf h λz e=>hb ⟨z,e⟩
 skip
 obtain⟨i,B,h⟩:=h;obtain⟨as,F⟩:=Du I hc N L U;obtain⟨p,O,rfl,hp,V⟩:=Nb hc f W;cases M;obtain⟨l,c2⟩:=La B;have J:=V.dats C;have hu:=hr.un;have q:=hq _ _ _ _ Kp.refl hc Fv h;rcases hp with hp|hp;obtain⟨g,r,n,hz⟩:=I.list hp;obtain⟨Y,f⟩:=Ap.reads I G O g J r;have e:=λA=>D8 (A:=A) F i.1;refine SeqAt.in_listAt (M8 s.heap d) n.isList (λw E=>(e _ (by first|(show X.A.units+64<_;omega)|(show X.A.units+1+64<_;omega)|(show X.A.units+1+1+64<_;omega)) f l c2).1 w<|by simpa using E) ⟨.bl _,H,I,rfl,?_⟩;rw[show g.toArray.any (M8 s.heap d)=g.any (M8 s.heap d) by simp,(e X.A (by omega) f l c2).2];exact q;obtain⟨g,r,n,hz⟩:=I.tuple hp;obtain⟨Y,f⟩:=Ap.reads I G O g J r;have e:=λA=>D8 (A:=A) F i.1;refine SeqAt.in_tupleAt (M8 s.heap d) n (λw E=>(e _ (by first|(show X.A.units+64<_;omega)|(show X.A.units+1+64<_;omega)|(show X.A.units+1+1+64<_;omega)) f l c2).1 w<|by simpa using E) ⟨.bl _,H,I,rfl,?_⟩;rw[show g.toArray.any (M8 s.heap d)=g.any (M8 s.heap d) by simp,(e X.A (by omega) f l c2).2];exact q
def FV(hr:Room k X.A):VOp X (compareOp .NotIn) (QP λb=>!b):=by
 intro S s P H x y v u Q I L M i;refine En i λa b Z R N f hc h hq=>?_;by_cases hb:∃z,b=.D (.str z);obtain⟨z,rfl⟩:=hb;unfold QP at h;dsimp only at h;split at h;cases RelA.str N;cases RelA.str f;exact N5 S s P H _ _ v u Q I L M ⟨_,_,rfl,rfl,hq _ _ _ _ Kp.refl hc Fv h⟩;exact h.elim;obtain⟨d,ys,G,U,W,C,h⟩:=Uf h λz e=>hb ⟨z,e⟩
 skip
 obtain⟨j,B,h⟩:=h;obtain⟨as,F⟩:=Du I hc N L U;obtain⟨p,O,rfl,hp,V⟩:=Nb hc f W;cases M;obtain⟨l,c2⟩:=La B;have J:=V.dats C;have hu:=hr.un;have q:=hq _ _ _ _ Kp.refl hc Fv h;rcases hp with hp|hp;obtain⟨g,r,n,hz⟩:=I.list hp;obtain⟨Y,f⟩:=Ap.reads I G O g J r;have e:=λA=>D8 (A:=A) F j.1;refine SeqAt.notIn_listAt (M8 s.heap d) n.isList (λw E=>(e _ (by first|(show X.A.units+64<_;omega)|(show X.A.units+1+64<_;omega)|(show X.A.units+1+1+64<_;omega)) f l c2).1 w<|by simpa using E) ⟨.bl _,H,I,rfl,?_⟩;rw[show g.toArray.any (M8 s.heap d)=g.any (M8 s.heap d) by simp,(e X.A (by omega) f l c2).2];exact q;obtain⟨g,r,n,hz⟩:=I.tuple hp;obtain⟨Y,f⟩:=Ap.reads I G O g J r;have e:=λA=>D8 (A:=A) F j.1;refine SeqAt.notIn_tupleAt (M8 s.heap d) n (λw E=>(e _ (by first|(show X.A.units+64<_;omega)|(show X.A.units+1+64<_;omega)|(show X.A.units+1+1+64<_;omega)) f l c2).1 w<|by simpa using E) ⟨.bl _,H,I,rfl,?_⟩;rw[show g.toArray.any (M8 s.heap d)=g.any (M8 s.heap d) by simp,(e X.A (by omega) f l c2).2];exact q
def SH:A2:=λx y d R=>match x,y with
 |.D .none,.D .none=>R (.D<|.bool true) d
 |_,.D .none=>R (.D<|.bool false) d
 |_,_=>False
def Zl{K:lI}{H:Hp}{x:AV}(h:RelA K H x .non):x=.D .none:=by
 cases x with
 |R a=>cases (show V.non=.ref a from h)
 |C g=>obtain⟨_,_,e,_⟩:=h;cases e
 |X C f=>obtain⟨_,_,_,e,_⟩:=h;cases e
 |D d=>
  cases d with
  |none=>rfl
  |bool b=>cases RelA.bl h
  |int b=>cases RelA.int h
  |str b=>cases RelA.str h
  |list b=>obtain⟨_,_,e,_⟩:=RelA.lst h;cases e
  |tuple b=>obtain⟨_,_,e,_⟩:=RelA.tup h;cases e
  |dict b=>exact absurd h<|by simp only[RelA,Dk];exact id
def Ug:VOp X (compareOp .Is) SH:=by
 intro i s g H x y v u Q I f j d;refine En d λa b q R n l hc h hq=>?_;unfold SH at h;split at h;cases RelA.non n;cases RelA.non l;exact Yr i s g H _ _ v u Q I f j ⟨rfl,hq _ _ _ _ Kp.refl hc Fv h⟩;rename_i ne;cases RelA.non l;refine Yr i s g H _ _ v u Q I f j ⟨rfl,hq _ _ _ _ Kp.refl hc ?_ h⟩;have:x≠.non:=by intro e;subst e;exact ne<|Zl n
 rw[aW this];exact Fv;exact h.elim
def aI(C:Int->Int->Prop)(g:Int->Int->lG):A2:=λx y d R=>match x,y with
 |.D (.int i),.D (.int j)=>C i j/\R (.D<|g i j) d
 |_,_=>False
def JB(g:Int->Int->lG):A2:=λx y d R=>match x,y with
 |.D (.int i),.D (.int j)=>R (.D<|g i j) d
 |_,_=>False
def SI{f:lE->lE->Sem lE}{C:Int->Int->Prop}{g:Int->Int->V}{g':Int->Int->lG}(h:Ib X f<|rI C g)(A:∀i j H,Dk X.K H (g' i j)<|g i j):VOp X f (aI C g'):=by
 intro w s q H x y v u Q I z B n;refine En n λa b G R F E hc l hq=>?_;cases a with
 |D d=>
  cases d with
  |int i=>
   cases b with
   |D e=>
    cases e with
    |int j=>cases RelA.int F;cases RelA.int E;exact h w s q H _ _ v u Q I z B ⟨_,_,rfl,rfl,l.1,hq _ _ _ _ Kp.refl hc (Wp<|A _ _ _) l.2⟩
    |_=>exact False.elim l
   |_=>exact False.elim l
  |_=>exact False.elim l
 |_=>exact False.elim l
def Sb{f:lE->lE->Sem lE}{g:Int->Int->V}{g':Int->Int->lG}(h:Ib X f<|Yp g)(z:∀i j H,Dk X.K H (g' i j)<|g i j):VOp X f (JB g'):=by
 intro A s w H x y v u Q I q B l;refine En l λa b F R E C hc n hq=>?_;cases a with
 |D d=>
  cases d with
  |int i=>
   cases b with
   |D e=>
    cases e with
    |int j=>cases RelA.int E;cases RelA.int C;exact h A s w H _ _ v u Q I q B ⟨_,_,rfl,rfl,hq _ _ _ _ Kp.refl hc (Wp<|z _ _ _) n⟩
    |_=>exact False.elim n
   |_=>exact False.elim n
  |_=>exact False.elim n
 |_=>exact False.elim n
abbrev Qar:A2:=JB λi j=>.int<|i-j
abbrev SJ:A2:=aI CDiv λi j=>.int<|i / j
abbrev Qas:A2:=aI (λ_ j=>0<j) λi j=>.int<|i%j
abbrev Qat:A2:=aI CPow λi j=>.int<|i^j.toNat
abbrev aLt:A2:=JB λi j=>.bool<|decide (i<j)
abbrev aLe:A2:=JB λi j=>.bool<|decide (i<=j)
abbrev aGt:A2:=JB λi j=>.bool<|decide (j<i)
abbrev aGe:A2:=JB λi j=>.bool<|decide (j<=i)
def JC:VOp X (binaryOp .Sub) Qar:=Sb LG λ_ _ _=>B9
def Zm:VOp X (binaryOp .FloorDiv) SJ:=SI FC λ_ _ _=>B9
def Lb:VOp X (binaryOp .Mod) Qas:=SI LI λ_ _ _=>B9
def SK:VOp X (binaryOp .Pow) Qat:=SI LJ λ_ _ _=>B9
def SL:VOp X (compareOp .Lt) aLt:=Sb RK λ_ _ _=>M9
def Qau:VOp X (compareOp .LtE) aLe:=Sb RL λ_ _ _=>M9
def Ki:VOp X (compareOp .Gt) aGt:=Sb RM λ_ _ _=>M9
def Qav:VOp X (compareOp .GtE) aGe:=Sb RN λ_ _ _=>M9
def Qaw:A2:=λx y d R=>match x,y with
 |.D (.int i),.D (.int j)=>CMul i j/\R (.D<|.int<|i*j) d
 |.D (.str z),.D (.int n)=>(n=0\/n=1)/\R (.D<|.str<|if n=0 then Str.empty else z) d
 |_,_=>False
def Ig:VOp X (binaryOp .Mult) Qaw:=by
 intro n s l H x y v u Q I g q f;refine En f λa b B R A w hc h hq=>?_;cases a with
 |D d=>
  cases d with
  |int i=>
   cases b with
   |D e=>
    cases e with
    |int j=>cases RelA.int A;cases RelA.int w;exact LH n s l H _ _ v u Q I g q ⟨_,_,rfl,rfl,h.1,hq _ _ _ _ Kp.refl hc Dn h.2⟩
    |_=>exact False.elim h
   |_=>exact False.elim h
  |str z=>
   cases b with
   |D e=>
    cases e with
    |int j=>cases RelA.str A;cases RelA.int w;exact N9 n s l H _ _ v u Q I g q ⟨_,_,rfl,rfl,h.1,hq _ _ _ _ Kp.refl hc Oa h.2⟩
    |_=>exact False.elim h
   |_=>exact False.elim h
  |_=>exact False.elim h
 |_=>exact False.elim h
def Qax:A2:=λx y d R=>match x,y with
 |.D (.int i),.D (.int j)=>R (.D<|.int<|i+j) d
 |.D (.str i),.D (.str j)=>i.length+j.length<=sizeLine/\R (.D<|.str<|i++j) d
 |.D (.tuple i),.D (.tuple j)=>i.length+j.length<=sizeLine/\R (.D<|.tuple<|i++j) d
 |.R i,.R j=>opt (d i) λm=>opt (d j) λn=>match m,n with
  |.lst f,.lst g=>f.length+g.length<=sizeLine/\∀p,d p=none->R (.R p) (An d p<|.lst<|f++g)
  |_,_=>False
 |_,_=>False
def Qay{K:lI}{J:oA<|lH×lO}{G:St}{H:Hp}{s:lF}{v u:lE}{x y:V}{ds es:oA lG}{Q:VK}(hK:X.K=K)(I:Inv X J G H s)(rx:Bk x v)(ry:Bk y u)(hx:Dk K H (.tuple ds) x)(hy:Dk K H (.tuple es) y)
  (hz:ds.length+es.length<=sizeLine) (q:∀z H',Kp H H'->(∀ M,Cn K M H->Cn K M H')->Dk K H' (.tuple<|ds++es) z->Q z H'):qQ X.prog X.w X.A (binaryOp .Add v u) (EP X J G Q) X.xe s:=by
 subst hK;obtain⟨a,O,rfl,ha,f⟩:=hx.tup;obtain⟨b,R,rfl,hb,d⟩:=hy.tup;cases rx;cases ry;obtain⟨ae,i,Z,_⟩:=I.tuple ha.sq;obtain⟨h,D,P,_⟩:=I.tuple hb.sq;have l:=f.length;have j:=d.length;by_cases hv:O=[];subst hv;have e:ae=[]:=i.nil_iff.mpr rfl;subst e;have B:ds=[]:=List.length_eq_zero_iff.mp l.symm;subst B;obtain⟨⟨cls,dd,U,sl⟩,L,hc,n,S⟩:=id Z;obtain⟨⟨Y,F,data2,C⟩,W,g,n2,N⟩:=id P;simp only at hc S g N;subst hc S g N;exact concat_meets ⟨_,L,rfl⟩ ⟨_,W,rfl⟩ kR seq_tuple_add iM iK (hV _ _)
  (tuple_addW0 a b [].toArray h.toArray n n2 dd F sl C rfl) ⟨L,W,.ref b,H,I,rfl,q _ _ Kp.refl (λ_ c=>c)<|by simpa using hy⟩
 refine HT.cat_tup Z P (λz=>hv<|i.nil_iff.mp z) (λz=>⟨.ref a,H,I,rfl,q _ _ Kp.refl (λ_ c=>c) ?_⟩) (λz=>?_) (by rw[<- i.length,<- D.length,l,j];exact hz);have e:R=[]:=D.nil_iff.mp z;subst e;have B:es=[]:=List.length_eq_zero_iff.mp j.symm;subst B;simpa using hx;have E:=I.hok.fresh<|J_ s.heap.objs.size;refine⟨.ref s.heap.objs.size,_,I.laid (t':=s.toks) (o:=.tup<|O++R) (λb ob q=>D_ _ q) (J_ _) ?_,rfl,q _ _ (Kp.new E _) (λ_ c=>c.over E) ?_⟩;exact⟨by rw[O_,l,j];exact hz,_,i.append D,IsTup.new _ _⟩;exact K6 Bn<|Ap.kp (Kp.new E _) _ _<|f.append d
def B6:VOp X (binaryOp .Add) Qax:=by
 intro C s B H x y v u Q I l q f;refine En f λa b U R A w hc h hq=>?_;cases a with
 |D d=>
  cases d with
  |int i=>
   cases b with
   |D e=>
    cases e with
    |int j=>cases RelA.int A;cases RelA.int w;exact LF C s B H _ _ v u Q I l q ⟨_,_,rfl,rfl,hq _ _ _ _ Kp.refl hc Dn h⟩
    |_=>exact False.elim h
   |_=>exact False.elim h
  |str z=>
   cases b with
   |D e=>
    cases e with
    |str j=>cases RelA.str A;cases RelA.str w;exact R0 C s B H _ _ v u Q I l q ⟨_,_,rfl,rfl,h.1,hq _ _ _ _ Kp.refl hc Oa h.2⟩
    |_=>exact False.elim h
   |_=>exact False.elim h
  |tuple P=>
   cases b with
   |D e=>
    cases e with
    |tuple es=>exact Qay rfl I l q A w h.1 λz H' S c L=>hq _ _ _ _ S (c _ hc) (Wp L) h.2
    |_=>exact False.elim h
   |_=>exact False.elim h
  |_=>exact False.elim h
 |R i=>
  cases b with
  |R j=>
   obtain⟨m,N,h⟩:=A5 h;obtain⟨n,G,h⟩:=A5 h;cases m with
   |lst V=>
    cases n with
    |lst Y=>cases (show x=.ref i from A);cases (show y=.ref j from w);obtain⟨o,J,O,rfl,F⟩:=hc i _ N;obtain⟨W,E,M,rfl,g⟩:=hc j _ G;exact MD C s B H _ _ v u Q I l q ⟨i,j,O,M,rfl,rfl,J,E,by rw[<- F.length,<- g.length];exact h.1,λp hp=>hq _ _ _ _ (Kp.new hp _) (hc.new hp<|Df<|F.append g) Fi<|h.2 p<|hc.none hp⟩
    |_=>exact False.elim h
   |_=>exact False.elim h
  |_=>exact False.elim h
 |_=>exact False.elim h
def YT:A2:=λx y f R=>match x,y with
 |.D (.str z),.D (.int i)=>z.length<=sizeLine/\opt (atI z.cps.toList i) λc=>R (.D<|.str ⟨#[c]⟩) f
 |.D (.tuple g),.D (.int i)=>opt (atI g i) λd=>R (.D d) f
 |.D (.list g),.D (.int i)=>opt (atI g i) λd=>R (.D d) f
 |.R a,.D (.int i)=>opt (f a) λm=>match m with
  |.lst h=>opt (atI h i) λw=>R w f
  |_=>False
 |_,_=>False
def FW{x y:AV}{f:M}{R:AV->M->Prop}(h:YT x y f R):∃i,y=.D (.int i):=by
 have g:(∀d,YT (.D d) y f R->False)->(∀a,YT (.R a) y f R->False)->False:=λh1 h2=>by
  cases x with
  |D d=>exact h1 d h
  |R a=>exact h2 a h
  |_=>exact h
 cases y with
 |D e=>
  cases e with
  |int i=>exact⟨i,rfl⟩
  |_=>exact(g (λd q=>by cases d<;>exact q) λa q=>q).elim
 |_=>exact(g (λd q=>by cases d<;>exact q) λa q=>q).elim
def Bd:VIx X YT:=by
 intro g f A s q H x y v u Q I C E P B;refine En P λa b U R F S hc h hq=>?_;obtain⟨i,rfl⟩:=FW h;cases RelA.int S;cases a with
 |D d=>
  cases d with
  |str z=>cases RelA.str F;obtain⟨h1,h⟩:=h;obtain⟨c,e,h⟩:=A5 h;exact LZ g f A s q H _ _ v u Q I C E ⟨_,_,_,rfl,rfl,h1,e,hq _ _ _ _ Kp.refl hc Oa h⟩ B
  |tuple L=>obtain⟨d,G,h⟩:=A5 h;obtain⟨p,J,rfl,hp,l⟩:=RelA.tup F;obtain⟨z,n,j⟩:=l.atI G;exact LY g f A s q H _ _ v u Q I C E ⟨_,_,_,_,rfl,rfl,hp.sq,n,hq _ _ _ _ Kp.refl hc (Wp j) h⟩ B
  |list L=>obtain⟨d,G,h⟩:=A5 h;obtain⟨p,J,rfl,hp,l⟩:=RelA.lst F;obtain⟨z,n,j⟩:=l.atI G;exact Ub g f A s q H _ _ v u Q I C E ⟨_,_,_,_,rfl,rfl,hp.sq,n,hq _ _ _ _ Kp.refl hc (Wp j) h⟩ B
  |_=>exact False.elim h
 |R a=>
  obtain⟨m,M,h⟩:=A5 h;cases m with
  |lst V=>obtain⟨w,N,h⟩:=A5 h;obtain⟨o,O,J,rfl,l⟩:=hc _ _ M;cases (show x=.ref _ from F);obtain⟨z,n,j⟩:=l.atI N;exact Ub g f A s q H _ _ v u Q I C E ⟨_,_,_,_,rfl,rfl,Fu.of O,n,hq _ _ _ _ Kp.refl hc j h⟩ B
  |_=>exact False.elim h
 |_=>exact False.elim h
def Aw{r:A2}(hr:VIx X r)(ha:VE X a ta)(hb:VE X b tb)(hs:Ua b:=by intro _ _;rfl):VE X (.Subscript a b pos) (QO r ta tb):=(RV hr ha hb hs).imp λ_ _ _ h=>Kr h
def FX:AO:=λ_ d R=>R none d
def SM(t:AE):AO:=λg f R=>t g f λx d=>match x with
 |.D (.int i)=>R (some i) d
 |_=>False
def G2:VO X none FX:=FI.imp λg H Q d=>Ci d λi j R f hc h hq=>hq _ _ _ Kp.refl hc h
def Ei(h:VE X a ta):VO X (some a) (SM ta):=(FJ h).imp λs H Q d=>Ci d λl q R f hc h hq=>⟨l,q,_,f,hc,h,λx n v u j g i hx=>by
 split at hx;cases RelA.int i;exact⟨_,rfl,hq _ _ _ j g hx⟩;exact hx.elim⟩
def aSl(x:AV)(lo f:oB Int):M->(AV->M->Prop)->Prop:=λd R=>match x with
 |.D (.str z)=>z.length<=sizeLine/\R (.D<|.str<|Txt.slice z lo f) d
 |.D (.tuple h)=>R (.D<|.tuple<|Dt h lo f) d
 |.C _=>False
 |x=>opt (items d x) λg=>∀p,d p=none->R (.R p) (An d p<|.lst<|Zg g lo f)
def cSl(K:lI):V->oB Int->oB Int->Hp->VK->Prop:=λx lo f H Q=>∃a d R,RelA K H a x/\Cn K d H/\aSl a lo f d R/\LV K H R Q
def Qa0:RT X (cSl X.K):=by
 intro w s u H x v y q lo d B Q I l j i n ⟨a,L,R,g,hc,h,hq⟩;unfold aSl at h;split at h;cases RelA.str g;exact MP w s u H _ v y q lo d B Q I l j i n ⟨_,rfl,h.1,hq _ _ _ _ Kp.refl hc Oa h.2⟩;rename_i f;by_cases A:HT.sIx f.length 0 lo=0/\HT.sIx f.length f.length d=f.length;obtain⟨a,z,rfl,ha,hx⟩:=RelA.tup g;cases l;obtain⟨E,r,ht,hz⟩:=I.tuple ha.sq;have F:E.toArray.size=f.length:=by rw[W_,<- r.length,hx.length]
 refine⟨"tuple",_,b_.lookup,ht.typeIs,?_⟩;refine HT.getItem_tuple_all ht j i n (by rw[F];exact A) ⟨.ref a,H,I,rfl,hq _ _ _ _ Kp.refl hc ?_ h⟩;rw[Zd A];exact g;obtain⟨a,z,rfl,ha,hx⟩:=RelA.tup g;refine LX w s u H (.ref a) v y q lo d B Q I l j i n ⟨a,z,rfl,ha.sq,by rw[hx.length];exact A,λp hp=>?_⟩;exact hq _ _ _ _ (Kp.new hp _) (hc.over hp) (Ob Bn<|Ap.kp (Kp.new hp _) _ _<|hx.cut lo d) h;exact h.elim;rename_i N C D;obtain⟨z,J,h⟩:=A5 h;obtain⟨p,M,rfl,hp,G⟩:=B5 hc g J;rcases hp with⟨_,hp⟩|⟨ht,hp⟩;exact FK w s u H _ v y q lo d B Q I l j i n ⟨_,_,rfl,hp,λp hp=>hq _ _ _ _ (Kp.new hp _) (hc.new hp<|Df<|G.cut lo d) Fi<|h p<|hc.none hp⟩;exfalso;unfold JA at ht;split at ht;exact C _ rfl;exact D _ rfl;cases ht
def vSl(te:AE)(i n:AO):AE:=λg j R=>te g j λx h=>i g h λl d=>n g d λu f=>aSl x l u f R
def Ed{lo B:oB lL}{y z:AO}{F:Pos}(he:VE X a ta)(w:VO X lo y)(hu:VO X B z):VE X (.Subscript a (.Slice lo B none F) pos) (vSl ta y z) :=
 (Yu Qa0 he w hu).imp λJ H Q d=>Ci d λn C R g hc h hq=>⟨n,C,_,g,hc,h,λx s v M j E G hx=>⟨n,s,_,g.kp j,E,hx,λl f I i c2 w=>⟨n,f,_,g.kp<|j.trans i,c2,w,λu q L A D hu=>
  ⟨x,q,R,G.kp<|i.trans A,D,hu,hq.kp<|j.trans<|i.trans A⟩⟩⟩⟩
def vCB(r:AC)(t:AA):AE:=λh g R=>t h g λf d=>r f d R
def Uh{K:lI}{n:Nat}{r:AC}{t:AA}{f:St}{H:Hp}{Q:VK}(h:cE K (vCB r t) f H Q):ZY (cC K r) (cA K n t) f H Q:=by obtain⟨q,u,R,i,hc,h,hq⟩:=h;exact⟨q,u,_,i,hc,h,λg d v w l j s y hx=>⟨g,d,R,s,j,hx,hq.kp l⟩⟩
def A8(hc:VCall X (.builtin ip) r)(g:Gl X x)(j:X.mg x=none)(hv:bootBuiltins x=some (.builtin ip))(ha:VA X (e::es) t)(f:x ≠ "__name__" := by decide) (d:(x==("__debug__" : Str))=false:=by decide)
  (i:starEach (e::es) X.env=(false,eval e X.env)::starEach es X.env:=by rfl) (hpl:(backTo pos<|starEach es X.env).any (·.1)=false:=by rfl):VE X (.Call (.Name x p) (e::es) [] pos) (vCB r t) :=
 (Ys hc g j hv ha f d i hpl).imp λ_ _ _ h=>Uh h
def C2(hc:VCall X (.type T) r)(g:Gl X x)(j:X.mg x=none)(hv:bootBuiltins x=some (.type T))(ha:VA X (e::es) t)(f:x ≠ "__name__" := by decide) (d:(x==("__debug__" : Str))=false:=by decide)
  (i:starEach (e::es) X.env=(false,eval e X.env)::starEach es X.env:=by rfl) (hpl:(backTo pos<|starEach es X.env).any (·.1)=false:=by rfl):VE X (.Call (.Name x p) (e::es) [] pos) (vCB r t) :=
 (Wc hc g j hv ha f d i hpl).imp λ_ _ _ h=>Uh h
def SN:AC:=λh d R=>match h with
 |[.D<|.str z]=>z.length<=sizeLine/\R (.D<|.int z.length) d
 |[.D<|.tuple f]=>R (.D<|.int f.length) d
 |[.D<|.list f]=>R (.D<|.int f.length) d
 |[.R a]=>opt (d a) λm=>match m with
  |.lst i=>R (.D<|.int i.length) d
  |.dk g=>R (.D<|.int g.length) d
  |_=>False
 |_=>False
def Di:VCall X (.builtin "len") SN:=by
 intro j s i H N l Q I r n;refine Ci n λS G R L hc h hq=>?_;have F:∀{y:AV} {t:oA AV} {x:AV},SN (x::y::t) G R->False:=λ{y t x} q=>by
  cases x with
  |D d=>cases d<;>exact q
  |_=>exact q
 cases L with
 |nil=>exact False.elim h
 |@cons x v O M u J=>
  cases J with
  |cons _ _=>exact(F h).elim
  |nil=>
   cases x with
   |D d=>
    cases d with
    |str z=>cases RelA.str u;exact N6 j s i H _ l Q I r ⟨_,rfl,h.1,hq _ _ _ _ Kp.refl hc Dn h.2⟩
    |tuple B=>obtain⟨p,g,rfl,hp,f⟩:=RelA.tup u;refine Fh j s i H _ l Q I r ⟨p,g,rfl,.inr hp.sq,hq _ _ _ _ Kp.refl hc ?_ h⟩;rw[f.length];exact Dn
    |list B=>obtain⟨p,g,rfl,hp,f⟩:=RelA.lst u;refine Fh j s i H _ l Q I r ⟨p,g,rfl,.inl hp.sq,hq _ _ _ _ Kp.refl hc ?_ h⟩;rw[f.length];exact Dn
    |_=>exact False.elim h
   |R a=>
    obtain⟨m,E,h⟩:=A5 h;cases (show _=V.ref _ from u);obtain⟨o,A,w⟩:=hc _ _ E;cases m with
    |lst P=>obtain⟨g,rfl,f⟩:=w;refine Fh j s i H _ l Q I r ⟨_,g,rfl,.inl<|Fu.of A,hq _ _ _ _ Kp.refl hc ?_ h⟩;rw[f.length];exact Dn
    |dk C=>obtain⟨g,rfl,f⟩:=w;refine Wl j s i H _ l Q I r ⟨_,g,rfl,A,hq _ _ _ _ Kp.refl hc ?_ h⟩;rw[bS f];exact Dn
    |_=>exact False.elim h
   |_=>exact False.elim h
def Oc:AC:=λg d R=>match g with
 |[.D<|.tuple f]=>R (.D<|.tuple f) d
 |[.C _]=>False
 |[y]=>opt (items d y) λh=>opt (dats h) λf=>R (.D<|.tuple f) d
 |_=>False
def Sc{x:AV}{t:oA AV}{f:M}{R:AV->M->Prop}(h:Oc (x::t) f R):t=[]:=by
 cases t with
 |nil=>rfl
 |cons y t=>
  refine False.elim ?_;cases x with
  |D d=>cases d<;>exact h
  |_=>exact h
def Wr{x:AV}{f:M}{R:AV->M->Prop}(ht:JA x=false)(h:Oc [x] f R):opt (items f x) λi=>opt (dats i) λg=>R (.D<|.tuple g) f:=by
 cases x with
 |D d=>cases d<;>first|exact h|cases ht
 |C g=>cases ht
 |_=>exact h
def Zn{x:AV}{g:M}{R:AV->M->Prop}(ht:JA x=true)(h:Oc [x] g R):∃f,x=.D (.tuple f)/\R (.D<|.tuple f) g:=by
 cases x with
 |D d=>
  cases d with
  |tuple f=>exact⟨f,rfl,h⟩
  |_=>cases ht
 |C f=>exact False.elim h
 |_=>cases ht
def Ej:VCall X (.type "tuple") Oc:=by
 intro n s j H L w Q I r d;refine Ci d λN J R F hc h hq=>?_;cases F with
 |nil=>exact False.elim h
 |@cons y v D G f C=>
  have E:=Sc h;subst E;cases C;cases ht:JA y with
  |true=>obtain⟨z,rfl,h⟩:=Zn ht h;obtain⟨p,i,rfl,hp,q⟩:=RelA.tup f;exact Hg n s j H _ w Q I r ⟨p,i,rfl,.inr ⟨hp.sq,hq _ _ _ _ Kp.refl hc f h⟩⟩
  |false=>obtain⟨M,B,h⟩:=A5<|Wr ht h;obtain⟨z,A,h⟩:=A5 h;obtain⟨p,i,rfl,hp,q⟩:=B5 hc f B;rcases hp with⟨_,hp⟩|⟨u,_⟩;exact Hg n s j H _ w Q I r ⟨p,i,rfl,.inl ⟨hp,λl g=>hq _ _ _ _ (Kp.new g _) (hc.over g) (Ob Bn<|Ap.kp (Kp.new g _) _ _<|q.dats A) h⟩⟩;rw[ht]at u;cases u
def bools:oA AV->oB (oA Bool)
 |[]=>some []
 |.D (.bool b)::r=>match bools r with
  |some d=>some (b::d)
  |none=>none
 |_::_=>none
theorem Nc:∀(d:oA Bool),bools (d.map λb=>.D<|.bool b)=some d
 |[]=>rfl
 |b::d=>by simp only[List.map_cons,bools,Nc d]
theorem A4.bools{K:lI}{H:Hp}{xs:oA AV}{f:oA V}{g:oA Bool}(h:A4 K H xs f)(e:L2.bools xs=some g):f=g.map V.bl:=by
 induction h generalizing g with
 |nil=>cases e;rfl
 |@cons x v xs f r t i=>
  cases x with
  |D d=>
   cases d with
   |bool b=>
    simp only[L2.bools]at e;cases q:L2.bools xs with
    |none=>rw[q]at e;cases e
    |some j=>rw[q]at e;cases e;cases RelA.bl r;rw[i q];rfl
   |_=>simp[L2.bools]at e
  |_=>simp[L2.bools]at e
def MV:AC:=λf d R=>match f with
 |[.R a]=>opt (d a) λm=>match m with
  |.lst g=>opt (bools g) λh=>R (.D<|.bool<|h.all id) d
  |_=>False
 |_=>False
def SO(u:X.calm=true):VCall X (.builtin "all") MV:=by
 intro l s j H A g Q I r d;refine Ci d λB C R v hc h hq=>?_;unfold MV at h;split at h
 ·cases v with
  |cons n f=>cases f;obtain⟨m,q,h⟩:=A5 h;split at h;obtain⟨z,i,h⟩:=A5 h;obtain⟨o,y,D,rfl,w⟩:=hc _ _ q;cases (show _=V.ref _ from n);exact Za u l s j H _ g Q I r ⟨_,z,rfl,Fu.of<|by rw[y,w.bools i],hq _ _ _ _ Kp.refl hc Fv h⟩;exact h.elim
 exact h.elim
def JD:AC:=λd f R=>match d with
 |[.D<|.int i,.D<|.int j]=>R (.D<|.int<|if j>i then j else i) f
 |_=>False
def MW(q:X.calm=true):VCall X (.builtin "max") JD:=by
 intro j s i H v g Q I r d;refine Ci d λw y R u hc h hq=>?_;unfold JD at h;split at h
 ·cases u with
  |cons l f=>
   cases f with
   |cons f n=>cases n;cases RelA.int l;cases RelA.int f;exact Wa q j s i H _ g Q I r ⟨_,_,rfl,hq _ _ _ _ Kp.refl hc Dn h⟩
 exact h.elim
def Nd(d:M):AV->Prop
 |.R a=>opt (d a) λm=>match m with
  |.lst _=>True
  |_=>False
 |.D (.list _)=>True
 |_=>False
def Nd.ty{H:Hp}{f:M}{x:AV}{v:V}(hc:Cn X.K f H)(d:RelA X.K H x v)(h:Nd f x):YQ X.K "list" v H:=by unfold Nd at h;split at h;obtain⟨m,e,h⟩:=A5 h;split at h;obtain⟨o,i,j,rfl,_⟩:=hc _ _ e;cases (show v=.ref _ from d);exact .inl ⟨rfl,j,Fu.of i⟩;exact h.elim;obtain⟨a,g,rfl,q,_⟩:=RelA.lst d;exact .inl ⟨rfl,g,q.sq⟩;exact h.elim
def Qa2(m:AV->AC)(to:AE):AE:=λg f R=>to g f λx d=>Nd d x/\m x [] d R
def vBL(m:AV->AC)(to:AE)(t:AA):AE:=λg i R=>to g i λx d=>Nd d x/\t g d λh f=>m x h f R
def Zo(slot:Slot "list" name ip) (n:typeOf (.builtin ip)=pure (.type "method_descriptor")) (z:VMt X ip m) (w:VE X o to)
  (u:attributeBase o name X.env (eval o X.env)=eval o X.env:=by rfl) (j:(ao.endLine==ak.line)=true:=by rfl):VE X (.Call (.Attribute o name ao) [] [] ak) (Qa2 m to) :=
 (N7 PySem.F.plainAttrs_list slot n z w u j).imp λA H Q d=>Ci d λs y R l hc h hq=>⟨s,y,_,l,hc,h,λx f v B q g i hx=>⟨hx.1.ty g i,x,[],f,R,i,.nil,g,hx.2,hq.kp q⟩⟩
def Dj(slot:Slot "list" name ip) (D:typeOf (.builtin ip)=pure (.type "method_descriptor")) (G:VMt X ip m) (z:VE X o to) (ha:VA X (e::es) t)
  (w:attributeBase o name X.env (eval o X.env)=eval o X.env:=by rfl) (B:((backTo ak<|starEach (e::es) X.env).all (λx=>!x.1)&&(backToKw ak<|keywordEach [] X.env).all (λx=>x.1.isSome)
   && decide ((e::es).length+([]:oA Keyword).length+(if([]:oA Keyword).isEmpty then 0 else 1)<30))=true:=by rfl)
  (u:(ao.endLine==ak.line)=true:=by rfl) (hs:starEach (e::es) X.env=(false,eval e X.env)::starEach es X.env:=by rfl) (E:(backTo ak<|starEach es X.env).any (·.1)=false:=by rfl) :
  VE X (.Call (.Attribute o name ao) (e::es) [] ak) (vBL m to t) :=
 (RX PySem.F.plainAttrs_list slot D G z ha w B u hs E).imp λJ H Q d=>Ci d λs A R hs hc h hq=>⟨s,A,_,hs,hc,h,λx i v M q j l hx=>⟨hx.1.ty j l,s,i,_,hs.kp q,j,hx.2,λC f L I n c2 y N g=>
  ⟨x,C,f,R,l.kp n,y,c2,g,hq.kp<|q.trans n⟩⟩⟩
def Ui:AV->AC:=λx g d R=>match x,g with
 |.R a,[y]=>opt (d a) λm=>match m with
  |.lst f=>f.length<sizeLine/\R (.D .none) (An d a<|.lst<|f++[y])
  |_=>False
 |_,_=>False
def Cy:VMt X "list.append" Ui:=by
 intro q s n H x C v j Q I l r d;refine En d λa D E R w z hc h hq=>?_;unfold Ui at h;split at h
 ·rename_i a y;obtain⟨m,A,h⟩:=A5 h;split at h
  ·cases z with
   |cons u i=>cases i;obtain⟨o,f,B,rfl,g⟩:=hc _ _ A;cases (show x=.ref a from w);exact M4 q s n H _ _ v j Q I l r ⟨a,B,_,rfl,rfl,f,by rw[<- g.length];exact h.1,hq _ _ _ _ (Kp.put f trivial _) (hc.put f trivial (Df<|g.append<|.cons u .nil)) K7 h.2⟩
  exact h.elim
 exact h.elim
def Uj:AV->AC:=λx h d R=>match x,h with
 |.R a,[.R b]=>opt (d a) λm=>opt (d b) λn=>match m,n with
  |.lst f,.lst g=>f.length+g.length<=sizeLine/\R (.D .none) (An d a<|.lst<|f++g)
  |_,_=>False
 |_,_=>False
def Ge:VMt X "list.extend" Uj:=by
 intro q s l H x J v B Q I C r d;refine En d λa M G R E w hc h hq=>?_;unfold Uj at h;split at h
 ·rename_i a b;obtain⟨m,y,h⟩:=A5 h;obtain⟨n,z,h⟩:=A5 h;split at h
  ·cases w with
   |cons u A=>cases A;obtain⟨o,g,F,rfl,j⟩:=hc _ _ y;obtain⟨L,i,D,rfl,f⟩:=hc _ _ z;cases (show x=.ref a from E);cases (show _=V.ref b from u);exact Wd q s l H _ _ v B Q I C r ⟨a,b,F,D,rfl,rfl,g,i,by rw[<- j.length,<- f.length];exact h.1,hq _ _ _ _ (Kp.put g trivial _) (hc.put g trivial (Df<|j.append f)) K7 h.2⟩
  exact h.elim
 exact h.elim
def SQ:AV->AC:=λx g f R=>match x,g with
 |.R a,[]=>opt (f a) λm=>match m with
  |.lst d=>opt d[d.length-1]? λy=>R y (An f a<|.lst d.dropLast)
  |_=>False
 |_,_=>False
def JE:VMt X "list.pop" SQ:=by intro n s l H x E v i Q I j r d;refine En d λa F G R u w hc h hq=>?_;unfold SQ at h;split at h;rename_i a;obtain⟨m,A,h⟩:=A5 h;split at h;obtain⟨y,B,h⟩:=A5 h;cases w;obtain⟨o,f,C,rfl,g⟩:=hc _ _ A;cases (show x=.ref a from u);obtain⟨z,D,q⟩:=g.get B;exact MB n s l H _ _ v i Q I j r ⟨a,C,z,rfl,rfl,f,by rw[<- g.length];exact D,hq _ _ _ _ (Kp.put f trivial _) (hc.put f trivial (Df<|g.dropLast)) (q.kp<|Kp.put f trivial _) h⟩;exact h.elim;exact h.elim
def Zp:AV->AC:=λx g f R=>match x,g with
 |.R a,[.D<|.int i]=>opt (f a) λm=>match m with
  |.lst d=>(-(2^63)<=i/\i<2^63)/\opt (seqIndex? i d.length) λk=>opt d[k]? λy=>R y (An f a<|.lst<|d.eraseIdx k)
  |_=>False
 |_,_=>False
def FY:VMt X "list.pop" Zp:=by
 intro l s j H x M v D Q I E r d;refine En d λa N L R G u hc h hq=>?_;unfold Zp at h;split at h
 ·rename_i a i;obtain⟨m,w,h⟩:=A5 h;split at h
  ·obtain⟨⟨h1,h2⟩,h⟩:=h;obtain⟨k,F,h⟩:=A5 h;obtain⟨y,A,h⟩:=A5 h;cases u with
   |cons n C=>cases C;cases RelA.int n;obtain⟨o,f,J,rfl,g⟩:=hc _ _ w;cases (show x=.ref a from G);obtain⟨z,B,q⟩:=g.get A;exact Yy l s j H _ _ v D Q I E r ⟨a,J,i,k,z,rfl,rfl,f,h1,h2,by rw[<- g.length];exact F,B,hq _ _ _ _ (Kp.put f trivial _) (hc.put f trivial (Df<|g.eraseIdx k)) (q.kp<|Kp.put f trivial _) h⟩
  exact h.elim
 exact h.elim
end
section
variable {X:Cx}{a b c:lL}{ta tb tc:AE}{pos:Pos}{x:Str}{p:Pos}{e:lL}{es:oA lL}{t:AA}{k:Nat}{ps:oA Str}{sp:ASp}{st:lP}{rest:oA lP}{s1 s2:AS}{tg:lL}{N':oA Str}{mp:oA<|oB Nat}{c7 iter:lL}{b9:oA lL}{scope:lT}{wi:AI}{g:AG}{tst:AT}{te:AE}{P:lJ}{w:lK}{K:lI}{mg:Str->oB lE}{base:lN}
abbrev ASp:=oA AV->M->(AV->M->Prop)->Prop
def D5(K:lI)(n:Nat)(sp:ASp):Sp:=λh H Q _=>∃d f R,d.length=n/\A4 K H d h/\Cn K f H/\sp d f R/\LV K H R Q
def VCal(P:lJ)(w:lK)(K:lI)(mg:Str->oB lE)(base:lN)(k:Nat)(x:Str)(ps:oA Str)(sp:ASp):Prop:=Cal P w K mg base k x ps<|D5 K ps.length sp
def SR(n:Nat)(sp:ASp)(t:AA):AE:=λi h R=>t i h λf d=>sp f d R
def Al(F:VCal X.prog X.w X.K X.mg X.base k x ps sp)(hr:Room k X.A)(u:Gl X x)(ha:VA X (e::es) t)(s:(e::es).length=ps.length:=by rfl)(hdb:(x==("__debug__" : Str))=false:=by decide)
  (v:starEach (e::es) X.env=(false,eval e X.env)::starEach es X.env:=by rfl) (hpl:(backTo pos<|starEach es X.env).any (·.1)=false:=by rfl):VE X (.Call (.Name x p) (e::es) [] pos) (SR ps.length sp t):=by
 obtain⟨g,C,G,m,i,B⟩:=F;refine PE.imp (FG (E:=E0) G hr u B i m .nil SD ha (hdb:=hdb) (he:=v) (hpl:=hpl)) λD H Q d=>Ci d λz l R o hc h hq=>?_;exact⟨z,l,_,o,hc,h,λn f J I y q j r hx=>⟨n,f,R,r.trans s,by rw[bP];exact j,q,hx,hq.kp y⟩⟩
def SS:AS:=λk _ _ _ d f=>k d f
def Ws(t u:AS):AS:=λk r b c f d=>t (u k r b c) r b c f d
def A6:VSs X [] SS:=EU.imp λD j H d=>Hk d λo m l nr i n f hc h hq=>hq.nx _ _ _ _ Kp.refl f hc h
def Ae(h1:VS X st s1)(h2:VSs X rest s2):VSs X (st::rest) (Ws s1 s2):=(Pk h1 h2).imp λD z H d=>Hk d λo u s nr m v j hc h hq=>
 ⟨o,u,_,_,_,_,j,hc,h,⟨λi f n A q y r l=>⟨i,f,s,nr,m,v,y,r,l,hq.kp q⟩,hq.rt,hq.bk,hq.ct⟩⟩
def Ah(h1:VS X st s1):VSs X [st] s1:=Ty h1
def ST(te:AE):AS:=λk _ _ _ f h=>te f h λ_ d=>k f d
def Bw(he:VE X a ta)(hs:swapsWith a none pos.line X.env=pure false:=by rfl):VS X (.Expr a pos) (ST ta):=(EV he hs).imp λD q H d=>Hk d λj m s nr n u hs hc h hq=>
 ⟨j,m,_,hs,hc,h,λx l v r f i o hx=>hq.nx _ _ _ _ f (hs.kp f) i hx⟩
def Qa3(te:AE):AS:=λ_ r _ _ d f=>te d f r
def Ay(he:VE X a ta):VS X (.Return (some a) pos) (Qa3 ta):=(KR he).imp λD m H d=>Hk d λj i n nr l o f hc h hq=>⟨j,i,_,f,hc,h,hq.rt⟩
def Qa4(ct:AT)(t u:AS):AS:=λk r b c f h=>ct f h λx d=>brP x (t k r b c f d)<|u k r b c f d
def Bq{c:lL}{a b:oA lP}{tc:AT}(hc:VT X c tc)(ha:VSs X a s1)(hb:VSs X b s2):VS X (.If c a b pos) (Qa4 tc s1 s2):=(RD hc ha hb).imp λD u H d=>Hk d λl s q nr o r j hc h hq=>
 ⟨l,s,_,j,hc,h,λk f v i n hk=>by
  rcases br_e hk with⟨rfl,m⟩|⟨rfl,m⟩;exact⟨l,f,q,nr,o,r,j.kp i,n,m,hq.kp i⟩;exact⟨l,f,q,nr,o,r,j.kp i,n,m,hq.kp i⟩⟩
def MX:AS:=λ_ _ _ _ _ _=>False
def Zq:VS X st MX:=Yi.imp λD j H d=>Hk d λo m l nr i n f hc h hq=>h.elim
def D1(i:Nat):AG:=λv f d R=>R (f.set i<|some v) d
def Ak{i:Nat}{x:Str}(m:X.N.Nodup)(n:X.N[i]?=some x)(hx:Loc X.env.scope x)(j:X.fn x=true\/X.env.scope.names.lookup x=some .local:=by first|exact .inl rfl|exact .inr rfl|assumption):VG X (.Name x pos) (D1 i) :=
 (EW m n hx j).imp λv o H Q d=>En d λx q r R l f hc h hq=>hq _ _ _ _ Kp.refl (f.set l i) hc h
def Px:AGs:=λh f d R=>match h with
 |[]=>R f d
 |_::_=>False
def E1(t:AG)(u:AGs):AGs:=λj i h R=>match j with
 |[]=>False
 |v::r=>t v i h λf d=>u r f d R
def Bs:VGs X [] Px:=EY.imp λo l H Q d=>En d λj m n R i f hc h hq=>by
 cases i with
 |nil=>exact⟨rfl,hq _ _ _ _ Kp.refl f hc h⟩
 |cons=>exact h.elim
def Ao{e:lL}{es:oA lL}{t:AG}{u:AGs}(h1:VG X e t)(h2:VGs X es u)
  (hs:(assignEach (e::es) X.env).map (·.2)=assign e X.env::(assignEach es X.env).map (·.2):=by rfl):VGs X (e::es) (E1 t u):=(Yk h1 h2 hs).imp λC A H Q d=>En d λz r v R n hs hc h hq=>by
 cases n with
 |nil=>exact h.elim
 |cons o l=>exact⟨_,_,rfl,_,r,v,_,o,hs,hc,h,λi f q B j y s m=>⟨_,i,f,R,A4.kp j l,y,s,m,hq.kp j⟩⟩
def SU(n:Nat)(t:AGs):AG:=λv h f R=>match v with
 |.D (.tuple d)=>d.length=n/\t (d.map .D) h f R
 |_=>False
def Cz{es:oA lL}{k:Nat}{t:AGs}{n:Nat}(s:X.calm=true)(h:VGs X es t)
  (j:(assignEach es X.env).length=n:=by rfl) (l:(assignEach es X.env).findIdx? (·.1)=none:=by rfl):VG X (.Tuple es k pos) (SU n t):=(Yl s h j l).imp λv y H Q d=>En d λx o u R i f hc h hq=>by
 unfold SU at h;split at h;obtain⟨a,m,rfl,q,r⟩:=RelA.tup i;exact⟨a,m,rfl,q.sq,by rw[r.length];exact h.1,_,o,u,R,r.rel,f,hc,h.2,hq⟩;exact h.elim
def MY(o i v:AV)(f:M)(R:M->Prop):Prop:=match o,i with
 |.R a,.D (.int k)=>opt (f a) λm=>match m with
  |.lst d=>opt (T7 d.length k) λj=>R (An f a<|.lst<|d.set j v)
  |_=>False
 |_,_=>False
def Qa5(K:lI):TSet:=λo i v H Q=>∃a b c h R,RelA K H a o/\RelA K H b i/\RelA K H c v/\Cn K h H/\MY a b c h R/\∀ d f,Kp H f->Cn K d f->R d->Q f
def s_set:PSet X (Qa5 X.K):=by intro n s l H o i v A E u Q I r D z ⟨a,b,c,L,R,G,F,B,hc,h,hq⟩;unfold MY at h;split at h;rename_i q k;obtain⟨m,C,h⟩:=A5 h;split at h;obtain⟨j,y,h⟩:=A5 h;obtain⟨M,d,J,rfl,f⟩:=hc _ _ C;cases (show o=.ref q from G);cases RelA.int F;exact Yv n s l H _ _ v A E u Q I r D z ⟨q,J,k,j,rfl,rfl,d,by rw[<- f.length];exact y,hq _ _ (Kp.put d trivial _) (hc.put d trivial (Df<|f.set B j)) h⟩;exact h.elim;exact h.elim
def Qa6(l n:AE):AG:=λv h m R=>l h m λo j=>n h j λi d=>MY o i v d λf=>R h f
def Ji{o i:lL}{s u:AE}(B:VE X o s)(L:VE X i u)
  (ha:∀v,assign (.Subscript o i pos) X.env v=(do
   let d <- holding [v] (eval o X.env)
   let m <- holding [v,d] (eval i X.env)
   standAt pos
   holding [v,d,m] (setItem d m v)
   release [v,d,m] []):=by intro _;rfl):VG X (.Subscript o i pos) (Qa6 s u):=(KU B L s_set ha).imp λv N H Q f=>En f λx y D R I q hc h hq=>
 ⟨y,D,_,q,hc,h,λo r d S l G E h1=>⟨y,r,_,q.kp l,G,h1,λi n m M j c2 C h2=>⟨o,i,x,n,_,E.kp j,C,I.kp<|l.trans j,c2,h2,λJ O z F A=>hq _ _ _ _ (l.trans<|j.trans z) (q.kp<|l.trans<|j.trans z) F A⟩⟩⟩
def Sd(te:AE)(g:AG):AS:=λk _ _ _ f h=>te f h λx d=>g x f d k
def Zr{K:lI}{te:AE}{g:AG}{D:Ends}{i:St}{H:Hp}(h:cS K (Sd te g) D i H):EZ (cE K te) (cG K g) D i H:=by obtain⟨l,o,s,nr,q,u,f,hc,h,hq⟩:=h;exact⟨l,o,_,f,hc,h,λx d v r j m n hx=>⟨x,l,d,_,n,f.kp j,m,hx,hq.nx.kp j⟩⟩
def Fm{tg:lL}{g:AG}(he:VE X a ta)(d:VG X tg g)(hs:swapsWithSole [tg] a pos.line X.env=pure false:=by rfl)(f:swappedStores [tg] a X.env=pure none:=by rfl)
  (h1:(assignEach [tg] X.env).map (·.2)=[assign tg X.env]:=by rfl):VS X (.Assign [tg] a pos) (Sd ta g):=(KW he d hs f h1).imp λ_ _ _ h=>Zr h
def Am{i:Nat}{x:Str}{j:Pos}(r:X.N.Nodup)(u:X.N[i]?=some x)(hx:Loc X.env.scope x)(he:VE X a ta)(hs:swapsWith a (some<|.Name x j) pos.line X.env=pure false:=by rfl)(l:X.fn x=true\/X.env.scope.names.lookup x=some .local:=by first|exact .inl rfl|exact .inr rfl|assumption) :
  VS X (.Assign [.Name x j] a pos) (Sd ta<|D1 i):=(KY r u hx he hs l).imp λD z H d=>Hk d λo s B nr y C hs hc h hq=>
 ⟨o,s,_,hs,hc,h,λx q v A f m n hx=>hq.nx _ _ _ _ f ((hs.kp f).set n i) m hx⟩
def Qdm(i j:Nat)(t:AA):AS:=λk _ _ _ f l=>t f l λh d=>match h with
 |[v,w]=>k ((f.set i<|some v).set j<|some w) d
 |_=>False
def wl(c:AT)(tb:AS)(k:ASt->M->Prop)(r:AV->M->Prop):Nat->ASt->M->Prop
 | 0=>λ_ _=>False
 |n+1=>λf h=>c f h λx d=>brP x (tb (wl c tb k r n) r k (wl c tb k r n) f d)<|k f d
def MZ(c:AT)(tb:AS):AS:=λk r _ _ f d=>∃n,wl c tb k r n f d
def E3{c:lL}{o:oA lP}{tc:AT}{tb:AS}(hp:PassesOwn (model X.prog X.w) X.A X.env X.xe)(hc:VT X c tc)(hb:VSs X o tb):VS X (.While c o [] pos) (MZ tc tb):=(Ym hp hc hb).imp λD U H N=>Hk N λQ M I nr V W O hc L hq=>by
 obtain⟨n,h⟩:=L;refine⟨λm u v=>∃ i l,Kp H v/\D4 X.K v i u/\Cn X.K l v/\wl tc tb I nr m i l,⟨n,Q,M,Kp.refl,O,hc,h⟩,?_⟩;rintro m u v ⟨i,l,J,r,R,h1⟩;cases m with
 |zero=>exact h1.elim
 |succ m=>refine⟨i,l,_,r,R,h1,λk B T y c2 hk=>?_⟩;rcases br_e hk with⟨rfl,C⟩|⟨rfl,C⟩;rw[T_ rfl];refine⟨λj s=>∃ f d,Kp H s/\D4 X.K s f j/\Cn X.K d s/\wl tc tb I nr m f d,by rintro j s ⟨f,d,q⟩;exact ⟨m,bG _,f,d,q⟩,i,B,_,_,_,_,r.kp y,c2,C,?_⟩;have S:=J.trans y;exact⟨λf d j s G F E z=>⟨f,d,S.trans G,F,E,z⟩,hq.rt.kp S,hq.nx.kp S,λf d j s G F E z=>⟨f,d,S.trans G,F,E,z⟩⟩;rw[M_ Q_];exact hq.nx _ _ _ _ (J.trans y) (r.kp y) c2 C
structure ItOk(K:lI)(H0:Hp)(J:It)(xs:oA AV)(kp:M->Prop):Prop where
 go:∀i H μ,Kp H0 H->Cn K μ H->kp μ->i<xs.length->J.go i H
 yld:∀i H μ v H' x,Kp H0 H->Cn K μ H->kp μ->xs[i]?=some x->J.yld i H v H'->Kp H H'/\Cn K μ H'/\RelA K H' x v
 stop:∀H μ,Kp H0 H->Cn K μ H->kp μ->J.stop xs.length H
abbrev AI:=ASt->M->(oA AV->(M->Prop)->M->Prop)->Prop
def cI(K:lI)(wi:AI):TI:=λn H R=>∃ m l i,D4 K H m n/\Cn K l H/\wi m l i/\∀h j d J f,Kp H f->Cn K d f->ItOk K f J h j->i h j d->R J f
def VI(X:Cx)(tg iter:lL)(wi:AI):Prop:=PI X tg iter<|cI X.K wi
def PI.imp{tg e:lL}{t u:TI}(h:PI X tg e t)(i:∀ d H Q,u d H Q->t d H Q):PI X tg e u:=λf s d H Q I q=>h f s d H Q I<|i d H Q q
def Wu{K:lI}{j:Hp}{a:lH}{xs:oA AV}{l:M->Prop}(h:∀H f,Kp j H->Cn K f H->l f->∃d,Fu K H a d/\A4 K H xs d):ItOk K j (Itl K a) xs l:=by refine⟨λi H f S c k o=>?_,λi H f v s x S c k e y=>?_,λH f S c k=>?_⟩;obtain⟨d,q,r⟩:=h H f S c k;exact⟨d,d[i]'(by rw[<- r.length];exact o),q,F_ _⟩;obtain⟨d,q,r⟩:=h H f S c k;obtain⟨rfl,y⟩:=y;obtain⟨u,m,n⟩:=r.get e;rw[y d q]at m;cases m;exact⟨Kp.refl,c,n⟩;obtain⟨d,q,r⟩:=h H f S c k;exact⟨d,q,by rw[r.length];exact J_ _⟩
def Zs{K:lI}{j:Hp}{a:lH}{xs:oA AV}{l:M->Prop}(h:∀H f,Kp j H->Cn K f H->l f->∃d,Ja K H a d/\A4 K H xs d):ItOk K j (Itt K a) xs l:=by refine⟨λi H f S c k o=>?_,λi H f v s x S c k e y=>?_,λH f S c k=>?_⟩;obtain⟨d,q,r⟩:=h H f S c k;exact⟨d,d[i]'(by rw[<- r.length];exact o),q,F_ _⟩;obtain⟨d,q,r⟩:=h H f S c k;obtain⟨rfl,y⟩:=y;obtain⟨u,m,n⟩:=r.get e;rw[y d q]at m;cases m;exact⟨Kp.refl,c,n⟩;obtain⟨d,q,r⟩:=h H f S c k;exact⟨d,q,by rw[r.length];exact J_ _⟩
def Gf(lo:Int):Nat->oA AV
 | 0=>[]
 |n+1=>.D (.int lo)::Gf (lo+1) n
theorem Cb:∀(n:Nat) (lo:Int),(Gf lo n).length=n
 | 0,_=>rfl
 |n+1,lo=>by rw[Gf,aS,Cb n]
theorem Gg:∀(n:Nat) (lo:Int) (i:Nat) {x:AV},(Gf lo n)[i]?=some x->x=.D (.int<|lo+i)
 | 0,_,_,_,h=>by simp[Gf]at h
 |n+1,lo,0,_,h=>by simp[Gf]at h;rw[<- h];simp
 |n+1,lo,i+1,_,h=>by rw[Gf,eK]at h;rw[Gg n (lo+1) i h];congr 2;omega
def Zt{K:lI}{h:Hp}{lo:Int}{n:Nat}:ItOk K h (Itr lo n) (Gf lo n) (λ_=>True):=by refine⟨λi H d S c k f=>?_,λi H d v j x S c k e y=>?_,λH d S c k=>?_⟩;show i<n;rw[Cb]at f;exact f;obtain⟨rfl,rfl⟩:=y;rw[Gg n lo i e];exact⟨Kp.refl,c,Dn⟩;show n<=_;rw[Cb];exact J_ _
def SV(t:AA):AI:=λi h R=>t i h λf d=>match f with
 |[.D<|.int j]=>-(2^62)<=j/\j<2^62/\R (Gf 0 j.toNat) (λ_=>True) d
 |_=>False
def Dv{t:AA}{p:Pos}(j:Gl X "range") (s:X.mg "range" = none) (ha:VA X [a] t) (hs:starEach [a] X.env=[(false,eval a X.env)]:=by rfl):VI X tg (.Call (.Name "range" p) [a] [] pos) (SV t) :=
 (V7 j s ha hs).imp λv H Q d=>Ci d λn r R hs hc h hq=>⟨n,r,_,hs,hc,h,λu o y z m i q A hx=>by
  split at hx
  ·cases q with
   |cons l f=>cases f;cases RelA.int l;exact⟨_,rfl,hx.1,hx.2.1,hq _ _ _ _ _ m i Zt hx.2.2⟩
  exact hx.elim⟩
def fl(g:AG)(tb:AS)(k:ASt->M->Prop)(r:AV->M->Prop)(f:M->Prop):oA AV->ASt->M->Prop
 |[]=>λj d=>f d/\k j d
 |x::l=>λj d=>f d/\g x j d λh i=>tb (fl g tb k r f l) r k (fl g tb k r f l) h i
def Qa7(wi:AI)(g:AG)(tb:AS):AS:=λk r _ _ f j=>wi f j λh i d=>fl g tb k r i h f d
def SW{g:AG}{tb:AS}{k:ASt->M->Prop}{r:AV->M->Prop}{d:M->Prop}{xs:oA AV}{τ:ASt}{f:M}(h:fl g tb k r d xs τ f):d f:=by
 cases xs with
 |nil=>exact h.1
 |cons x xs=>exact h.1
def Ca{iter:lL}{n:oA lP}{wi:AI}{g:AG}{tb:AS}(hp:PassesOwn (model X.prog X.w) X.A X.env X.xe)(dm:X.calm=true)(u:VI X tg iter wi)(hg:VG X tg g)(hb:VSs X n tb)(x8:∀x,foldedSetIterable iter X.env x=pure x:=by intro _;rfl) :
  VS X (.For tg iter n [] pos) (Qa7 wi g tb):=(Yo hp dm u hg hb x8).imp λD σ H z=>Hk z λY μ nk nr nb nc V hc h hq=>by
 refine⟨Y,μ,_,V,hc,h,λU kp N J T B c0 M h0=>?_⟩;refine Zc U.length (λi m l=>∃ f d,Kp T l/\D4 X.K l f m/\Cn X.K d l/\fl g tb nk nr kp (U.drop i) f d) ⟨Y,N,Kp.refl,V.kp B,c0,h0⟩ ?_ ?_ ?_;rintro i m l u ⟨f,d,q,j,s,h1⟩;exact M.go i l d q s (SW h1) u;rintro m l ⟨f,d,q,j,s,h1⟩;rw[eB]at h1;exact⟨M.stop l d q s h1.1,hq.nx _ _ _ _ (B.trans q) j s h1.2⟩;rintro i v m l Z u ⟨f,d,q,j,s,h1⟩ y;rw[bM u]at h1;obtain⟨hk,h1⟩:=h1;obtain⟨W,c2,rx⟩:=M.yld i l d v Z _ q s hk (F_ u) y;refine⟨_,f,d,_,rx,j.kp W,c2,h1,λG Q σ3 H3 S3 C R h3=>⟨G,Q,_,_,_,_,C,R,h3,?_⟩⟩;have S:Kp T H3:=q.trans<|W.trans S3;exact⟨λr o F H' O L I E=>⟨r,o,S.trans O,L,I,E⟩,hq.rt.kp<|B.trans S,hq.nx.kp<|B.trans S,λr o F H' O L I E=>⟨r,o,S.trans O,L,I,E⟩⟩
def VIfs(X:Cx)(b9:oA lL)(t:AT):Prop:=PIfs X b9<|cT X.K t
def NA:AT:=λ_ d R=>R true d
def B2:VIfs X [] NA:=λi s f H Q I d=>Ci d λl m R j hc h hq=>Y6 i s f H Q I<|hq _ _ _ Kp.refl hc h
def Ih{t:AT}(h:VT X a t):VIfs X [a] t:=Y7 h
def cl(p:lH)(g:AG)(tst:AT)(te:AE)(l:M->Prop)(R:M->Prop):oA AV->oA AV->ASt->M->Prop
 |[]=>λ_ _ j=>l j/\R j
 |x::n=>λd o j=>l j/\g x o j λf m=>tst f m λk i=>
  brP k (te f i λv h=>h p=some (.lst d)/\d.length<sizeLine/\cl p g tst te l R n (d++[v]) f (An h p<|.lst<|d++[v])) (cl p g tst te l R n d f i)
def Py(mp:oA<|oB Nat)(wi:AI)(g:AG)(tst:AT)(te:AE):AE:=λh l R=>wi h l λi j d=>∀p,d p=none->cl p g tst te j (λf=>R (.R p) f) i [] (MR mp h) (An d p<|.lst [])
def SX{p:lH}{g:AG}{tst:AT}{te:AE}{d:M->Prop}{R:M->Prop}{xs acc:oA AV}{τ:ASt}{f:M}(h:cl p g tst te d R xs acc τ f):d f:=by
 cases xs with
 |nil=>exact h.1
 |cons x xs=>exact h.1
def Nf{K:lI}{mp:oA<|oB Nat}{wi:AI}{g:AG}{tst:AT}{te:AE}{σ:St}{H:Hp}{Q:VK}(h:cE K (Py mp wi g tst te) σ H Q):Y9 mp (cI K wi) (cG K g) (cT K tst) (cE K te) σ H Q:=by obtain⟨τ,μ,R,hs,hc,h,hq⟩:=h;refine⟨τ,μ,_,hs,hc,h,λxs kp M J F S0 c0 W O=>?_⟩;intro p hp;have O:=O p<|c0.none hp;have xj:Cn K (An M p<|.lst []) (upd F p<|.lst []):=c0.new hp<|Df<|.nil;have C:Kp F (upd F p<|.lst []):=Kp.new hp _;refine Ud xs.length (λi m l j=>∃ f d z,Kp F j/\D4 K j f l/\Cn K d j/\A4 K j z m/\cl p g tst te kp (λI=>R (.R p) I) (xs.drop i) z f d) ⟨_,_,[],C,((hs.kp S0).kp C).sub mp,xj,.nil,O⟩ ?_ ?_ ?_;rintro i m l j G ⟨f,d,z,r,s,A,Y,h1⟩;exact W.go i j d r A (SX h1) G;rintro m l j ⟨f,d,z,r,s,A,Y,h1⟩;rw[eB]at h1;exact⟨W.stop j d r A h1.1,hq _ _ _ _ (S0.trans r) A Fi h1.2⟩;rintro i v m l j H2 G ⟨f,d,z,r,s,A,Y,h1⟩ y;rw[bM G]at h1;obtain⟨hk,h1⟩:=h1;obtain⟨L,c2,rx⟩:=W.yld i j d v H2 _ r A hk (F_ G) y;refine⟨_,f,d,_,rx,s.kp L,c2,h1,λq Z σ3 H3 S3 n U h3=>⟨q,Z,_,n,U,h3,λk B H4 D c4 h4=>?_⟩⟩;rcases br_e h4 with⟨rfl,T⟩|⟨rfl,T⟩;rw[T_ rfl];refine⟨q,B,_,n.kp D,c4,T,λw μ5 u H5 S5 c5 rw N=>?_⟩;obtain⟨e5,hl,N⟩:=N;obtain⟨o,E,vs,rfl,V⟩:=c5 _ _ e5;have S:Kp j H5:=L.trans<|S3.trans<|D.trans S5;exact⟨vs,E,by rw[<- V.length];exact hl,q,_,_,(r.trans S).trans<|Kp.put E trivial _,(n.kp<|D.trans S5).kp<|Kp.put E trivial _,c5.put E trivial (Df<|V.append<|.cons rw .nil),(V.append<|.cons rw .nil).kp<|Kp.put E trivial _,N⟩;rw[M_ Q_];have S:Kp j H4:=L.trans<|S3.trans D;exact⟨q,B,z,r.trans S,n.kp D,c4,Y.kp S,T⟩
def aNx(R:AV->M->Prop):ASt->M->Prop:=λ_ d=>∃ f,Sub f d/\R (.D .none) f
def aRt(R:AV->M->Prop):AV->M->Prop:=λv d=>∃ f,Sub f d/\R v f
def QQ:ASt->M->Prop:=λ_ _=>False
def Fun.vok{x d:Str}{st:lP}{f:lH}{C:lQ}{N ps:oA Str}{k:Nat}{sp:ASp}(F:Fun K x d st f C)(S:FnScope N ps<|Ai st) (J:∀(o:lE) (A:lM) (outer:oA Env) (s:lF) (H:Hp) (E:XK),Room k (A.deeper<|envOfC d (Ai st) s.heap.objs.size f o) ->
   ∃t,VSs (N1 Dm P w K mg base N d (Ai st) f o A outer s H E).nox (Cr st) t/\∀j l R,j.length=ps.length->sp j l R->t (aNx R) (aRt R) QQ QQ (Gc N j) l):FnOk P w K mg base Dm (k+1) f C ps (D5 K ps.length sp):=by
 refine F.ok S (λM H Q E h=>?_) λo A outer s H M Q E hr h=>?_;obtain⟨j,l,R,z,q,_⟩:=h;rw[<- q.length];exact z;obtain⟨j,l,R,z,q,hc,G,hq⟩:=h;obtain⟨t,ht,h⟩:=J o A outer s H E hr;refine⟨_,ht,Gc N j,l,_,_,_,_,D4.begin q,hc,h j l R z G,⟨λT y O L B _ c n=>V2 n λD i r=>?_,λv y u L B c I m=>V2 m λD i r=>?_,λ_ _ _ _ _ _ _ h=>h.elim,λ_ _ _ _ _ _ _ h=>h.elim⟩⟩;exact hq _ _ _ _ B (c.sub i) K7 r;exact hq _ _ _ _ B (c.sub i) I r
def NB(t:AE):AI:=λi f R=>t i f λx d=>opt (items d x) λh=>R h (λf=>items f x=some h) d
def Bo(Q:VE X a ta):VI X tg a (NB ta):=by
 intro F s E H R I y;refine Ci y λO n M J hc h hq=>?_;refine thn (Q F s E H (λv i=>∃x d l,Kp H i/\Cn X.K d i/\RelA X.K i x v/\items d x=some l/\M l (λn=>items n x=some l) d) I ⟨O,n,_,J,hc,h,λx d v i z r u hx=>?_⟩) λv s1 N=>?_;obtain⟨l,e,hx⟩:=A5 hx;exact⟨x,d,l,z,r,u,e,hx⟩;obtain⟨V,i,f,G,x,d,l,z,r,u,e,hx⟩:=N;obtain⟨p,T,rfl,hp,U⟩:=B5 r u e;cases G;rcases hp with⟨k,hp⟩|⟨k,hp⟩;obtain⟨D,L,B,hz⟩:=f.list hp;refine gR B.isList ?_;refine⟨s1.heap.objs.size,[s1.heap.objs.size],_,_,i,rfl,f.kept (t':=s1.toks) λb o e=>D_ _ e,V6 p _,⟨_,K_ _ rfl,rfl,rfl⟩,λb hb=>?_,hq _ _ _ _ _ z r (Wu λH n S c A=>?_) hx⟩;have e:b=s1.heap.objs.size:=by simpa using hb
 subst e;exact f.fpOk (J_ _)<|f.hok.fresh<|J_ _;obtain⟨q,C,e,j,rw⟩:=B5 c (u.kp S) A;cases e;rcases j with⟨_,j⟩|⟨m,_⟩;exact⟨C,j,rw⟩;rw[k]at m;cases m;obtain⟨D,L,B,hz⟩:=f.tuple hp;refine gF (show s1.heap.IsTuple p D.toArray from B) ?_;refine⟨s1.heap.objs.size,[s1.heap.objs.size],_,_,i,rfl,f.kept (t':=s1.toks) λb o e=>D_ _ e,Rx p _,⟨_,K_ _ rfl,rfl,rfl⟩,λb hb=>?_,hq _ _ _ _ _ z r (Zs λH n S c A=>?_) hx⟩;have e:b=s1.heap.objs.size:=by simpa using hb
 subst e;exact f.fpOk (J_ _)<|f.hok.fresh<|J_ _;obtain⟨q,C,e,j,rw⟩:=B5 c (u.kp S) A;cases e;rcases j with⟨m,_⟩|⟨_,j⟩;rw[k]at m;cases m;exact⟨C,j,rw⟩
def Qba(t:AE):AE:=λh f R=>t h f λx d=>match x with
 |.D (.int i)=>R (.D<|.int<|-i) d
 |_=>False
def Jj(h:VE X a ta):VE X (.UnaryOp .USub a pos) (Qba ta):=(RI LN h).imp λs H Q f=>Ci f λo r R j hc h hq=>⟨o,r,_,j,hc,h,λx q v u n l m hx=>by
 cases x with
 |D d=>
  cases d with
  |int i=>cases RelA.int m;exact⟨_,rfl,hq _ _ _ _ n l Dn hx⟩
  |_=>exact False.elim hx
 |_=>exact False.elim hx⟩
end
section
variable {c:AT}{g:AG}{tb:AS}{k:ASt->M->Prop}{r:AV->M->Prop}{bb cc:ASt->M->Prop}{tst:AT}{te:AE}{X:Cx}{K:lI}{H:Hp}{o i e value:lL}{pos ck:Pos}{td ty tv tx:AE}
def G3{τ:ASt}{a:M}(I:Nat->ASt->M->Prop)(m:Nat)(h0:I m τ a)
  (step:∀m τ a (W:ASt->M->Prop),I m τ a->(∀j d b,j<m->I j d b->W d b)->c τ a λx f=>brP x (tb W r k W τ f)<|k τ f):∃n,wl c tb k r n τ a:=by
 have l:∀n m τ a,m<n->I m τ a->wl c tb k r n τ a:=by
  intro n
  induction n with
  |zero=>intro m τ a h _;omega
  |succ n s=>intro m τ a h p;exact step m τ a (wl c tb k r n) p λj d b t q=>s j d b (by omega) q
 exact⟨m+1,l (m+1) m τ a (bG _) h0⟩
def Bg{t u:AS}{τ:ASt}{d:M}(J:ASt->M->Prop)(h1:∀W:ASt->M->Prop,(∀ b a,J b a->W b a)->t W r bb cc τ d)(h2:∀ b a,J b a->u k r bb cc b a):Ws t u k r bb cc τ d:=h1 (u k r bb cc) h2
def B3{t u:AS}{τ:ASt}{a:M}(h:t (u k r bb cc) r bb cc τ a):Ws t u k r bb cc τ a:=h
def Ng{x:AV}{i:Nat}{τ:ASt}{a:M}(h:k (τ.set i<|some x) a):Sd (vC x) (D1 i) k r bb cc τ a:=h
def C9{p:M->Prop}{xs:oA AV}{τ:ASt}{a:M}(I:Nat->ASt->M->Prop)(h0:I 0 τ a)(hk:∀i τ a,I i τ a->p a)
  (step:∀i x τ a (W:ASt->M->Prop),xs[i]?=some x->I i τ a->(∀ d b,I (i+1) d b->W d b)->g x τ a λm j=>tb W r k W m j)
  (done:∀ τ a,I xs.length τ a->k τ a):fl g tb k r p xs τ a:=by
 have l:∀n i τ a,n+i=xs.length->I i τ a->fl g tb k r p (xs.drop i) τ a:=by
  intro n
  induction n with
  |zero=>
   intro i τ a h f;have e:i=xs.length:=by omega
   subst e;rw[eB];exact⟨hk _ _ _ f,done τ a f⟩
  |succ n t=>
   intro i τ a h f;have s:i<xs.length:=by omega
   rw[bM s];exact⟨hk _ _ _ f,step i _ τ a _ (F_ s) f λd b q=>t (i+1) d b (by omega) q⟩
 exact l xs.length 0 τ a rfl h0
def Ht{p:lH}{u:M->Prop}{R:M->Prop}{xs:oA AV}{τ:ASt}{b:M}(I:Nat->oA AV->ASt->M->Prop)(h0:I 0 [] τ b)(hk:∀i a τ b,I i a τ b->u b)
  (step:∀i x a τ b (W:oA AV->ASt->M->Prop),xs[i]?=some x->I i a τ b->(∀l f d,I (i+1) l f d->W l f d)->g x τ b λj w=>tst j w λk s=>
   brP k (te j s λv t=>t p=some (.lst a)/\a.length<sizeLine/\W (a++[v]) j (An t p<|.lst<|a++[v])) (W a j s))
  (done:∀a τ b,I xs.length a τ b->R b):cl p g tst te u R xs [] τ b:=by
 have y:∀n i a τ b,n+i=xs.length->I i a τ b->cl p g tst te u R (xs.drop i) a τ b:=by
  intro n
  induction n with
  |zero=>
   intro i a τ b h m;have e:i=xs.length:=by omega
   subst e;rw[eB];exact⟨hk _ _ _ _ m,done a τ b m⟩
  |succ n A=>
   intro i a τ b h m;have z:i<xs.length:=by omega
   rw[bM z];exact⟨hk _ _ _ _ m,step i _ a τ b (λl f d=>cl p g tst te u R (xs.drop<|i+1) l f d) (F_ z) m λl f d q=>A (i+1) l f d (by omega) q⟩
 exact y xs.length 0 [] τ b rfl h0
def Az{z:Str}(h:PyData.canLay0 (.str z)=true):Bz (.str z):=⟨h,by simp[PyData.depth]⟩
def Jk:Bz .none:=⟨rfl,by simp[PyData.depth]⟩
def Bi(i:Int):Bz (.int i):=⟨rfl,by simp[PyData.depth]⟩
def G4(i:Bool):Bz (.bool i):=⟨rfl,by simp[PyData.depth]⟩
def Fn(i j:Int):PyData.eqv (.int i) (.int j)=decide (i=j):=by rw[PyData.eqv];exact fH.mpr<|by simp
def ieq{i j:Int}{T F:Prop}(h1:i=j->T)(h2:i≠j->F):Bz (.int i)/\Bz (.int j)/\brP (PyData.eqv (.int i)<|.int j) T F:=by refine⟨Bi _,Bi _,?_⟩;rw[Fn];exact dif h1 h2
def Av{a:M}{p:lH}{xs:oA AV}(h:a p=some (.lst xs)):items a (.R p)=some xs:=by show(match a p with|some (.lst xs)=>some xs|_=>none)=_;rw[h]
def Jl{d:lG}{ds:oA lG}:Dt (d::ds) (some 1) none=ds:=by
 unfold Dt;have a:HT.sIx (d::ds).length 0 (some 1)=1:=by show min (1:Int).toNat (d::ds).length=1;simp
 rw[a,HT.sIx_none,List.drop_succ_cons,iS,gG<|by simp]
def Cu{a:Type} [DecidableEq a](kvs:oA<|a×AV)(k:a):oB AV:=(kvs.find? λb=>decide (b.1=k)).map (·.2)
def Fo{b:Type} [DecidableEq b](kvs:oA<|b×AV)(k:b)(v:AV):oA (b×AV) :=
 if(kvs.any λa=>decide (a.1=k))=true then kvs.map λa=>if a.1=k then(a.1,v) else a else kvs++[(k,v)]
def Lc:oA lG->oB (oA Key)
 |[]=>some []
 |d::a=>match Pw d,Lc a with
  |some k,some b=>some (k::b)
  |_,_=>none
def Pz(ds:oA lG):oB (oA Key):=match Lit ds with
 |true=>none
 |false=>Lc ds
def Od{ds:oA lG}{ks:oA Key}(h:Pz ds=some ks):Lit ds=false/\Lc ds=some ks:=by
 unfold Pz at h;cases c:Lit ds with
 |true=>rw[c]at h;cases h
 |false=>rw[c]at h;exact⟨rfl,h⟩
def Wo.heap{K:lI}{H:Hp}{a:lH}{ds:oA lG}{xs:oA V}(h:Wo K H a ds xs)(b:Lit ds=false):H a=some (.tup xs):=by rcases h with h|h;exact h;rw[b]at h;cases h.1
def dget(m:MO)(d:lG):oB (oB AV):=match m with
 |.dk a=>(Pw d).map (Cu a)
 |.dt a=>match d with
  |.tuple b=>(Pz b).map (Cu a)
  |_=>none
 |.lst _=>none
 |.dd _=>none
def dput(m:MO)(d:lG)(v:AV):oB MO:=match m with
 |.dk a=>(Pw d).map λk=>.dk (Fo a k v)
 |.dt a=>match d with
  |.tuple b=>(Pz b).map λk=>.dt (Fo a k v)
  |_=>none
 |.lst _=>none
 |.dd _=>none
def dsize:MO->Nat
 |.dk a=>a.length
 |.dt a=>a.length
 |.lst b=>b.length
 |.dd a=>a.length
def Uk(K:lI)(H:Hp):oB AV->oB V->Prop
 |some x,some v=>RelA K H x v
 |none,none=>True
 |_,_=>False
def Fj.val{a:Type} [DecidableEq a]{kvs:oA<|a×AV}{j:oA<|a×V}(h:Fj K H kvs j)(k:a):Uk K H (Cu kvs k) (Eo j k):=by
 unfold Fj at h
 induction h with
 |nil=>exact trivial
 |@cons p q b d r t f=>obtain⟨l,s⟩:=p;obtain⟨m,n⟩:=q;obtain⟨e,r⟩:=r;dsimp only at e;subst e;unfold Cu Eo at f ⊢;by_cases hk:l=k;simp only[List.find?_cons,decide_eq_true hk];exact r;simp only[List.find?_cons,decide_eq_false hk];exact f
def Fj.put{l:Type} [DecidableEq l]{kvs:oA<|l×AV}{j:oA<|l×V}(h:Fj K H kvs j)(k:l){x:AV}{v:V}(r:RelA K H x v):Fj K H (Fo kvs k x) (putK j k v):=by
 have m:(kvs.any λa=>decide (a.1=k))=(j.any λa=>decide (a.1=k)):=by
  unfold Fj at h
  induction h with
  |nil=>rfl
  |@cons p q d f b t n=>rw[eD,eD,n,b.1]
 have s:Fj K H (kvs.map λa=>if a.1=k then(a.1,x) else a) (j.map λa=>if a.1=k then(a.1,v) else a):=by
  clear m;unfold Fj at h ⊢
  induction h with
  |nil=>exact .nil
  |@cons p q d f b t n=>refine .cons ?_ n;obtain⟨e,b⟩:=b;dsimp only;by_cases hk:p.1=k;rw[T_ hk,T_<|e ▸ hk];exact⟨e,r⟩;rw[M_ hk,M_<|e ▸ hk];exact⟨e,b⟩
 have ha:Fj K H (kvs++[(k,x)]) (j++[(k,v)]):=by clear m s;unfold Fj at h ⊢;exact lD h ⟨rfl,r⟩
 unfold Fo putK;rw[m];split;exact s;exact ha
def Oe{d:lG}{k:Key}{v:V}(h:Dk K H d v)(e:Pw d=some k):v=kV k:=by unfold Pw at e;split at e;cases e;exact h.int;cases e;exact h.str;cases e
theorem Ii:∀{ds:oA lG} {ks:oA Key} {a:oA V},Ap K H ds a->Lc ds=some ks->a=ks.map kV
 |[],ks,a,h,e=>by cases e;exact h.nil
 |d::ds,ks,a,h,e=>by obtain⟨x,r,rfl,h1,h2⟩:=h.cons;simp only[Lc]at e;split at e;rename_i k b j f;cases e;rw[Oe h1 j,Ii h2 f];rfl;cases e
def Ks{p:M}{a:lH}{m:MO}{d:lG}{v:V}{o:oB AV}(hc:Cn K p H)(s:p a=some m)(j:Dk K H d v)(e:dget m d=some o):∃r,DGet H a v r/\Uk K H o r:=by obtain⟨y,n,l⟩:=hc a m s;unfold dget at e;split at e;obtain⟨k,f,rfl⟩:=I_.mp e;obtain⟨w,rfl,h⟩:=l;rw[Oe j f];exact⟨_,DGet.k n,h.val k⟩;split at e;obtain⟨u,f,rfl⟩:=I_.mp e;obtain⟨w,rfl,h⟩:=l;obtain⟨b,x,rfl,hb,hx⟩:=j.tup;obtain⟨q,f⟩:=Od f;have hb:=hb.heap q;rw[Ii hx f]at hb;exact⟨_,DGet.t n hb,h.val u⟩;cases e;cases e;cases e
def FZ{p:M}{a:lH}{m u:MO}{d:lG}{v w:V}{x:AV}(hc:Cn K p H)(z:p a=some m)(q:Dk K H d v)(hx:RelA K H x w)(e:dput m d x=some u)(hs:dsize m<sizeLine):∃l,DPut H a v w l/\Kp H l/\Cn K (An p a u) l:=by obtain⟨D,f,s⟩:=hc a m z;unfold dput at e;split at e;obtain⟨k,h,rfl⟩:=I_.mp e;obtain⟨B,rfl,j⟩:=s;rw[Oe q h];exact⟨_,DPut.k f<|by rw[<- bS j];exact hs,Kp.put f trivial _,hc.put f trivial ⟨_,rfl,j.put k hx⟩⟩;split at e;obtain⟨A,h,rfl⟩:=I_.mp e;obtain⟨B,rfl,j⟩:=s;obtain⟨b,C,rfl,hb,n⟩:=q.tup;obtain⟨y,h⟩:=Od h;have hb:=hb.heap y;rw[Ii n h]at hb;exact⟨_,DPut.t f hb<|by rw[<- bS j];exact hs,Kp.put f trivial _,hc.put f trivial ⟨_,rfl,j.put A hx⟩⟩;cases e;cases e;cases e
def SY(td ty:AE):AE:=λh j R=>td h j λx f=>ty h f λy b=>match x,y with
 |.R a,.D d=>opt (b a) λm=>opt (dget m d) λr=>opt r λv=>R v b
 |_,_=>False
def Of(hu:X.A.units+1<cLine)(B:VE X o td)(G:VE X i ty)(hs:MF i:=by intro _ _;rfl):VE X (.Subscript o i pos) (SY td ty):=(FP hu B G hs).imp λJ H Q a=>Ci a λn C R hs hc h hq=>
 ⟨n,C,_,hs,hc,h,λx d v L l D E hx=>⟨n,d,_,hs.kp l,D,hx,λy p u I j c2 F hy=>by
  split at hy
  ·obtain⟨m,q,hy⟩:=A5 hy;obtain⟨r,t,hy⟩:=A5 hy;obtain⟨w,rfl,b⟩:=A5 hy;obtain⟨s,g,f⟩:=Ks c2 q F t;cases s with
   |none=>exact f.elim
   |some z=>exact⟨_,z,(E.kp j).ref,g,hq _ _ _ _ (l.trans j) c2 f b⟩
  exact hy.elim⟩⟩
def GA(j:Bool->Bool)(ty td:AE):AE:=λh l R=>ty h l λy f=>td h f λx b=>match x,y with
 |.R a,.D d=>opt (b a) λm=>opt (dget m d) λr=>R (.D<|.bool<|j r.isSome) b
 |_,_=>False
def Uk.some{o:oB AV}{r:oB V}(h:Uk K H o r):o.isSome=r.isSome:=by cases o<;>cases r<;>first|rfl|exact h.elim
def Zu{K:lI}{j:St}{H:Hp}{Q:VK}(h:cE K (GA (λb=>b) ty td) j H Q):SB (cE K ty) (cE K td) j H Q:=by obtain⟨n,B,R,d,hc,h,hq⟩:=h;refine⟨n,B,_,d,hc,h,λy a v E l p t hx=>⟨n,a,_,d.kp l,p,hx,λx s u D f c2 q hy=>?_⟩⟩;split at hy;obtain⟨m,w,hy⟩:=A5 hy;obtain⟨r,A,hy⟩:=A5 hy;obtain⟨z,g,C⟩:=Ks c2 w (t.kp f) A;refine⟨_,z,q.ref,g,hq _ _ _ _ (l.trans f) c2 ?_ hy⟩;rw[C.some];exact Fv;exact hy.elim
def P0{K:lI}{j:St}{H:Hp}{Q:VK}(h:cE K (GA (λb=>!b) ty td) j H Q):Uc (cE K ty) (cE K td) j H Q:=by obtain⟨n,B,R,d,hc,h,hq⟩:=h;refine⟨n,B,_,d,hc,h,λy a v E l p t hx=>⟨n,a,_,d.kp l,p,hx,λx s u D f c2 q hy=>?_⟩⟩;split at hy;obtain⟨m,w,hy⟩:=A5 hy;obtain⟨r,A,hy⟩:=A5 hy;obtain⟨z,g,C⟩:=Ks c2 w (t.kp f) A;refine⟨_,z,q.ref,g,hq _ _ _ _ (l.trans f) c2 ?_ hy⟩;rw[C.some];exact Fv;exact hy.elim
def Zv(hu:X.A.units+1<cLine)(d:VE X i ty)(a:VE X o td)(h1:behindInMarks .In o=false:=by rfl):VE X (.Compare i [.In] [o] pos) (GA (λb=>b) ty td):=(KK (MG hu d a) h1).imp λ_ _ _ h=>Zu h
def Wv(hu:X.A.units+1<cLine)(d:VE X i ty)(a:VE X o td)(h1:behindInMarks .NotIn o=false:=by rfl):VT X (.Compare i [.NotIn] [o] pos) (Ue<|GA (λb=>!b) ty td):=(KL (Wh hu d a) h1).imp λ_ _ _ h=>Jg (λ_ _ _ q=>P0 q) h
def Zw(td ty tv:AE):AS:=λk _ _ _ f l=>tv f l λv j=>td f j λx h=>ty f h λy b=>match x,y with
 |.R a,.D d=>opt (b a) λm=>opt (dput m d v) λn=>dsize m<sizeLine/\k f (An b a n)
 |_,_=>False
def Ek(hu:X.A.units+1<cLine)(u:VE X o td)(L:VE X i ty)(hv:VE X value tv)(hs:swapsWith value (some<|.Subscript o i ck) pos.line X.env=pure false:=by rfl):VS X (.Assign [.Subscript o i ck] value pos) (Zw td ty tv):=(FQ hu u L hv hs).imp λD O H b=>Hk b λn w U nr W Y hs hc h hq=>
 ⟨n,w,_,hs,hc,h,λv p vv Q l C B h1=>⟨n,p,_,hs.kp l,C,h1,λx f R N j c2 E h2=>⟨n,f,_,hs.kp<|l.trans j,c2,h2,λy I T P q z G a=>by
  split at a;obtain⟨m,t,a⟩:=A5 a;obtain⟨V,d,a⟩:=A5 a;obtain⟨J,g,s,F⟩:=FZ z t G (B.kp<|j.trans q) d a.1;have S:=l.trans<|j.trans<|q.trans s;exact⟨_,J,(E.kp q).ref,g,hq.nx _ _ _ _ S (hs.kp S) F a.2⟩;exact a.elim⟩⟩⟩
def NC:AE:=λ_ a R=>∀p,a p=none->R (.R p) (An a p<|.dk [])
def ND:AE:=λ_ a R=>∀p,a p=none->R (.R p) (An a p<|.dt [])
def SZ{kvs:oA<|Key×AV}{a:oA<|Key×V}(h:Fj K H kvs a):Kh K H (.dk kvs) (.dK a):=⟨a,rfl,h⟩
def JF{kvs:oA<|oA Key×AV}{a:oA<|oA Key×V}(h:Fj K H kvs a):Kh K H (.dt kvs) (.dT a):=⟨a,rfl,h⟩
def Ld:VE X (.Dict [] [] pos) NC:=Y1.imp λd H Q a=>Ci a λf j R b hc h hq=>λp hp=>hq _ _ _ _ (Kp.new hp _) (hc.new hp<|SZ .nil) Fi<|h p<|hc.none hp
def E4:VE X (.Dict [] [] pos) ND:=Y2.imp λd H Q a=>Ci a λf j R b hc h hq=>λp hp=>hq _ _ _ _ (Kp.new hp _) (hc.new hp<|JF .nil) Fi<|h p<|hc.none hp
end
end L2
namespace L2
def E5{c:Type}{b:oA c}{n:Nat}(h:b.length=n+1):∃a t,b=a::t/\t.length=n:=match b,h with|a::t,h=>⟨a,t,rfl,Nat.succ.inj h⟩
def GB{c:Type}{b:oA c}(h:b.length=1):∃a,b=[a]:=by obtain⟨a,t,rfl,h2⟩:=E5 h;rw[dA h2];exact⟨a,rfl⟩
def YU{d:Type}{c:oA d}(h:c.length=2):∃a b,c=[a,b]:=by obtain⟨a,t,rfl,h2⟩:=E5 h;obtain⟨b,rfl⟩:=GB h2;exact⟨a,b,rfl⟩
open PySem PySem.Spec PySem.Calls PyProof.Rows
abbrev AX:=lH->oA (Str×lG)->M->Prop
def XFx(K:lI)(H:Hp)(d:oB lH)(b:oA<|Str×lG):Prop:=match d with
 |none=>b=[]
 |some d=>∃a,H d=some (XD d a)/\Zf K H b a
def EK(K:lI)(f:AX):XK:=λc g H=>∃a C e b d,c=.ref C/\g=some a/\H a=some (XR a C d)/\XFx K H d e/\Cn K b H/\f C e b
def XA(X:Cx)(a:AX):Prop:=Qal X<|EK X.K a
abbrev Qdn:=oA AV->M->(AV->M->Prop)->AX->Prop
def cS0(K:lI)(f:Hp)(t:AS):TS:=λD e H=>∃ d a k r b c,D4 K H d e/\Cn K a H/\t k r b c d a/\LE' K f k r b c D
def TB(X:Cx)(st:lP)(t:AS):Prop:=PS X st<|cS0 X.K X.H₀ t
def GC(X:Cx)(st:oA lP)(t:AS):Prop:=PSs X st<|cS0 X.K X.H₀ t
section
variable {X:Cx}{aa:oA<|lH×lO}{σ:St}{H:Hp}{s:lF}{st:lP}{rest:oA lP}{t s1 s2:AS}
def Inv.kp0(I:Inv X aa σ H s):Kp X.H₀ H:=⟨I.base.tups,I.base.frzs⟩
def VS.z(h:VS X st t):TB X st t:=λaa s σ H D I a=>Hk a λf g k r b c d hc e hq=>h aa s σ H D I ⟨f,g,k,r,b,c,d,hc,e,hq.kp I.kp0⟩
def Cm(h1:TB X st s1)(h2:GC X rest s2):GC X (st::rest) (Ws s1 s2):=(Pk h1 h2).imp λD σ H a=>Hk a λi l k nr f m d hc h hq=>
 ⟨i,l,_,_,_,_,d,hc,h,⟨λc b g o p n j e=>⟨c,b,k,nr,f,m,n,j,e,hq⟩,hq.rt,hq.bk,hq.ct⟩⟩
def Zx(h1:TB X st s1):GC X [st] s1:=Ty h1
end
def Fun.vok0{P:lJ}{w:lK}{K:lI}{p:Str->oB lE}{base:lN}{x a:Str}{st:lP}{f:lH}{q:lQ}{N ps:oA Str}{k:Nat}{sp:ASp}(F:Fun K x a st f q)(S:FnScope N ps<|Ai st) (C:∀(j:lE) (A:lM) (outer:oA Env) (s:lF) (H:Hp) (E:XK),Room k (A.deeper<|envOfC a (Ai st) s.heap.objs.size f j) ->
   ∃t,GC (N1 Dm P w K p base N a (Ai st) f j A outer s H E).nox (Cr st) t/\∀d e R,d.length=ps.length->sp d e R->t (aNx R) (aRt R) QQ QQ (Gc N d) e):FnOk P w K p base Dm (k+1) f q ps (D5 K ps.length sp):=by
 refine F.ok S (λG H Q E h=>?_) λj A outer s H G Q E hr h=>?_;obtain⟨d,e,R,n,l,_⟩:=h;rw[<- l.length];exact n;obtain⟨d,e,R,n,l,hc,z,hq⟩:=h;obtain⟨t,ht,h⟩:=C j A outer s H E hr;refine⟨_,ht,Gc N d,e,_,_,_,_,D4.begin l,hc,h d e R n z,⟨λJ m I D o _ c g=>V2 g λy b r=>?_,λv m u D o c B i=>V2 i λy b r=>?_,λ_ _ _ _ _ _ _ h=>h.elim,λ_ _ _ _ _ _ _ h=>h.elim⟩⟩;exact hq _ _ _ _ o (c.sub b) K7 r;exact hq _ _ _ _ o (c.sub b) B r
end L2
namespace L2
open PySem PySem.Spec PyProof.Rows
def E6:Nat->oA lG->oA AV
 |_,[]=>[]
 |i,d::a=>.D (.tuple [.int i,d])::E6 (i+1) a
theorem Ck:∀(ds:oA lG) (k:Nat),(E6 k ds).length=ds.length
 |[],_=>rfl
 |_::ds,k=>by rw[E6,aS,Ck ds,aS]
theorem E7:∀{ds:oA lG} {k i:Nat} {x:AV},(E6 k ds)[i]?=some x->∃d,ds[i]?=some d/\x=.D (.tuple [.int ((k+i:Nat):Int),d])
 |[],_,_,_,h=>by simp[E6]at h
 |d::ds,k,0,_,h=>by simp[E6]at h;exact⟨d,rfl,by rw[<- h];simp⟩
 |_::ds,k,i+1,_,h=>by
  rw[E6,eK]at h;obtain⟨d,e,q⟩:=E7 h;refine⟨d,by simpa using e,?_⟩;rw[q];have a:k+1+i=k+(i+1):=by omega
  rw[a]
def Se{K:lI}{l:Hp}{a:lH}{ys:oA AV}{ds:oA lG}{n:M->Prop}(m:dats ys=some ds)(h:∀H f,Kp l H->Cn K f H->n f->∃b,Ja K H a b/\A4 K H ys b):ItOk K l (Ien K a) (E6 0 ds) n:=by
 have j:ds.length=ys.length:=by rw[Kq m,B_]
 refine⟨λi H f S c k o=>?_,λi H f v w x S c k e y=>?_,λH f S c k=>?_⟩;obtain⟨b,q,r⟩:=h H f S c k;rw[Ck,j]at o;exact⟨b,b[i]'(by rw[<- r.length];exact o),q,F_ _⟩;obtain⟨b,q,r⟩:=h H f S c k;obtain⟨T,z,g,rfl,rfl,y⟩:=y;obtain⟨d,t,rfl⟩:=E7 e;obtain⟨u,p,s⟩:=(r.dats m).get t;rw[y b q]at p;cases p;refine⟨Kp.new g _,c.over g,Ob Bn ?_⟩;rw[eY];exact Bf B9<|Bf (Dk.kp (Kp.new g _) _ _ s) Ce;obtain⟨b,q,r⟩:=h H f S c k;exact⟨b,q,by rw[Ck,j,r.length]⟩
def Sg{K:lI}{l:Hp}{a:lH}{ys:oA AV}{ds:oA lG}{n:M->Prop}(m:dats ys=some ds)(h:∀H f,Kp l H->Cn K f H->n f->∃b,Fu K H a b/\A4 K H ys b):ItOk K l (Iel K a) (E6 0 ds) n:=by
 have j:ds.length=ys.length:=by rw[Kq m,B_]
 refine⟨λi H f S c k o=>?_,λi H f v w x S c k e y=>?_,λH f S c k=>?_⟩;obtain⟨b,q,r⟩:=h H f S c k;rw[Ck,j]at o;exact⟨b,b[i]'(by rw[<- r.length];exact o),q,F_ _⟩;obtain⟨b,q,r⟩:=h H f S c k;obtain⟨T,z,g,rfl,rfl,y⟩:=y;obtain⟨d,t,rfl⟩:=E7 e;obtain⟨u,p,s⟩:=(r.dats m).get t;rw[y b q]at p;cases p;refine⟨Kp.new g _,c.over g,Ob Bn ?_⟩;rw[eY];exact Bf B9<|Bf (Dk.kp (Kp.new g _) _ _ s) Ce;obtain⟨b,q,r⟩:=h H f S c k;exact⟨b,q,by rw[Ck,j,r.length]⟩
def TC(t:AE):AI:=λd b R=>t d b λx a=>opt (items a x) λc=>opt (dats c) λe=>R (E6 0 e) (λb=>items b x=some c) a
section
variable {X:Cx}{a:lL}{ta:AE}{pos p:Pos}
def Ul{bi:oA lL}{k:Nat}{O:Pos}(W:Gl X "enumerate") (hm:X.mg "enumerate" = none) (hl:VE X a ta) (hs:starEach [a] X.env=[(false,eval a X.env)]:=by rfl):VI X (.Tuple bi k O) (.Call (.Name "enumerate" p) [a] [] pos) (TC ta):=by
 intro J s P H R I n;refine Ci n λZ t V Y hc h hq=>?_;refine d_<|Hl I W hm boot_enumerate ?_;refine dM ?_ hs rfl;rw[hs];refine cX<|thn (hl J s P H (λv g=>∃x d l r,Kp H g/\Cn X.K d g/\RelA X.K g x v/\items d x=some l/\dats l=some r/\V (E6 0 r) (λt=>items t x=some l) d) I ⟨Z,t,_,Y,hc,h,λx d v g A w y hx=>?_⟩) λu f M=>dO ?_;obtain⟨l,e,hx⟩:=A5 hx;obtain⟨r,z,hx⟩:=A5 hx;exact⟨x,d,l,r,A,w,y,e,z,hx⟩;obtain⟨xv,g,j,Q,x,d,l,r,A,w,y,e,z,hx⟩:=M;obtain⟨p,vs,rfl,hp,rs⟩:=B5 w y e;cases Q;have m:∀b∈[f.heap.objs.size+1,f.heap.objs.size],Hm X J g b:=λb hb=>by
  have L:f.heap.objs.size<=b:=by
   rcases Y_.mp hb with rfl|hb;exact dW _;have e:b=f.heap.objs.size:=by simpa using hb
   exact fM e.symm
  exact j.fpOk L<|j.hok.fresh L
 rcases hp with⟨k,hp⟩|⟨k,hp⟩;obtain⟨T,U,C,hz⟩:=j.list hp;refine call_enumerate_list C.isList λN he D G E=>?_;refine iR he ?_;refine⟨f.heap.objs.size+1,[f.heap.objs.size+1,f.heap.objs.size],_,_,g,rfl,j.kept (t':=f.toks) E,R8 p _ _<|jI _,⟨⟨_,he⟩,D⟩,m,hq _ _ _ _ _ A w (Sg z λH t S c B=>?_) hx⟩;obtain⟨q,F,e,i,rw⟩:=B5 c (y.kp S) B;cases e;rcases i with⟨_,i⟩|⟨o,_⟩;exact⟨F,i,rw⟩;rw[k]at o;cases o;obtain⟨T,U,C,hz⟩:=j.tuple hp;refine Hq C λN he D G E=>?_;refine iR he ?_;refine⟨f.heap.objs.size+1,[f.heap.objs.size+1,f.heap.objs.size],_,_,g,rfl,j.kept (t':=f.toks) E,Wm p _ _<|jI _,⟨⟨_,he⟩,D⟩,m,hq _ _ _ _ _ A w (Se z λH t S c B=>?_) hx⟩;obtain⟨q,F,e,i,rw⟩:=B5 c (y.kp S) B;cases e;rcases i with⟨o,_⟩|⟨_,i⟩;rw[k]at o;cases o;exact⟨F,i,rw⟩
end
def Fp{a:Type} [DecidableEq a]{k:a}{v:AV}{r:oA<|a×AV}:Cu ((k,v)::r) k=some v:=by unfold Cu;simp only[List.find?_cons,decide_eq_true (rfl:k=k)];rfl
def D7{a:Type} [DecidableEq a]{k b:a}{v:AV}{r:oA<|a×AV}(h:b≠k):Cu ((b,v)::r) k=Cu r k:=by unfold Cu;simp only[List.find?_cons,decide_eq_false h]
def Zy{a:Type}(g:a->Bool)(xs:oA a):bools (xs.map λx=>.D<|.bool<|g x)=some (xs.map g):=by rw[show(xs.map λx=>AV.D<|.bool<|g x)=(xs.map g).map λb=>.D (.bool b) by rw[aE];rfl];exact Nc _
def Ww{a:M}{p:lH}{m:MO}(h:a p=some m):An a p m=a:=by
 funext b
 unfold An;split;rename_i e;rw[e,h]
 rfl
def cmapf{m:Type}{p:lH}{g:AG}{tst:AT}{te:AE}{r:M->Prop}{R:M->Prop}{τ:ASt}{j:M}(as:oA m)(t:m->AV)(b:m->Bool)(f:m->AV)(l:ASt->Prop)(h0:l τ)(hp:j p=some (.lst []))(w:as.length<=sizeLine)(hk:∀acc,r<|An j p<|.lst acc)
  (step:∀(i:Nat) (x:m) (c:ASt) (acc:oA AV) (W:ASt->AV->M->Prop) (s:ASt->M->Prop),as[i]?=some x->l c->(b x=true->∀ a,l a->W a (f x) (An j p<|.lst acc))->(b x=false->∀ a,l a->s a (An j p<|.lst acc)) ->
   g (t x) c (An j p<|.lst acc) λa q=>tst a q λk d=>brP k (te a d<|W a)<|s a d)
  (done:R<|An j p<|.lst<|(as.filter b).map f):cl p g tst te r R (as.map t) [] τ j:=by
 refine Ht (λi acc c h=>l c/\acc=((as.take i).filter b).map f/\h=An j p (.lst acc)) ⟨h0,by simp,(Ww hp).symm⟩ (by rintro i acc τ h ⟨_,_,e⟩;rw[e];exact hk _) ?_ ?_;rintro i y acc c h W hy ⟨u,rfl,rfl⟩ hW;rw[G_]at hy;obtain⟨x,hx,rfl⟩:=I_.mp hy;have z:i<as.length:=(E_.mp hx).1;have ht:as.take (i+1)=as.take i++[x]:=by rw[aM,hx];rfl
 refine step i x c _ (λa v n=>n p=some (.lst<|((as.take i).filter b).map f)/\(((as.take i).filter b).map f).length<sizeLine/\W ((((as.take i).filter b).map f)++[v]) a (An n p<|.lst<|(((as.take i).filter b).map f)++[v])) (λa d=>W (((as.take i).filter b).map f) a d) hx u (λhb a o=>⟨Ac,?_,hW _ _ _ ⟨o,?_,Bh⟩⟩) λhb a o=>hW _ _ _ ⟨o,?_,rfl⟩;rw[B_];have h1:=bN b<|as.take i;rw[bF]at h1;omega;rw[ht,dH,L_,fZ,T_ hb];rfl;rw[ht,dH,L_,fZ,M_<|by rw[hb];exact Q_];simp;rintro acc c h ⟨_,rfl,rfl⟩;rw[B_,aJ];exact done
def cmap{j:Type}{p:lH}{g:AG}{te:AE}{k:M->Prop}{R:M->Prop}{τ:ASt}{c:M}(as:oA j)(h f:j->AV)(d:ASt->Prop)(h0:d τ)(hp:c p=some (.lst []))(m:as.length<=sizeLine)(hk:∀acc,k<|An c p<|.lst acc)
  (step:∀(i:Nat) (x:j) (b:ASt) (acc:oA AV) (W:ASt->AV->M->Prop),as[i]?=some x->d b->(∀ a,d a->W a (f x) (An c p<|.lst acc))->g (h x) b (An c p<|.lst acc) λa e=>te a e<|W a)
  (done:R<|An c p<|.lst<|as.map f):cl p g NA te k R (as.map h) [] τ c:=by
 refine cmapf as h (λ_=>true) f d h0 hp m hk (λi x b acc W n hx l h1 _=>?_) (by rw[List.filter_eq_self.mpr λ_ _=>rfl];exact done);have:=step i x b acc W hx l<|h1 rfl;simp only[NA,Zh];exact this
def TD{b:Type}{g:b->Bool}{as:oA b}{a:M}{p:lH}{R:AV->M->Prop}(h:a p=some (.lst<|as.map λx=>.D<|.bool<|g x))(q:R (.D<|.bool<|as.all g) a):MV [.R p] a R:=by refine Ab h<|Ab (Zy g as) ?_;rw[List.all_map];exact q
def rk:lG->Nat
 |.none=>0|.bool _=>1|.int _=>2|.str _=>3|.list _=>4|.tuple _=>5|.dict _=>6
def TF(a b:Str):Bool:=decide (a.cps.toList<b.cps.toList)
mutual
def EO:lG->lG->Bool
 |.int a,.int b=>decide (a<b)
 |.str a,.str b=>TF a b
 |.tuple c,.tuple d=>Mj c d
 |x,y=>decide (rk x<rk y)
def Mj:oA lG->oA lG->Bool
 |[],[]=>false
 |[],_::_=>true
 |_::_,[]=>false
 |x::b,y::a=>if PyData.eqv x y then Mj b a else EO x y
end
mutual
theorem Zz:∀(x y:lG),Cano x=true->Cano y=true->PyData.eqv x y=true->x=y
 |.int a,.int b,_,_,h=>by simp[PyData.eqv]at h;rw[h]
 |.str a,.str b,_,_,h=>by simp[PyData.eqv]at h;rw[h]
 |.tuple c,.tuple d,h1,h2,h=>by simp only[Cano]at h1 h2;rw[PyData.eqv]at h;rw[Um c d h1 h2 h]
 |.int _,.str _,_,_,h=>by simp[PyData.eqv]at h
 |.int _,.tuple _,_,_,h=>by simp[PyData.eqv]at h
 |.str _,.int _,_,_,h=>by simp[PyData.eqv]at h
 |.str _,.tuple _,_,_,h=>by simp[PyData.eqv]at h
 |.tuple _,.int _,_,_,h=>by simp[PyData.eqv]at h
 |.tuple _,.str _,_,_,h=>by simp[PyData.eqv]at h
 |.none,_,h,_,_=>by simp[Cano]at h
 |.bool _,_,h,_,_=>by simp[Cano]at h
 |.list _,_,h,_,_=>by simp[Cano]at h
 |.dict _,_,h,_,_=>by simp[Cano]at h
 |.int _,.none,_,h,_=>by simp[Cano]at h
 |.int _,.bool _,_,h,_=>by simp[Cano]at h
 |.int _,.list _,_,h,_=>by simp[Cano]at h
 |.int _,.dict _,_,h,_=>by simp[Cano]at h
 |.str _,.none,_,h,_=>by simp[Cano]at h
 |.str _,.bool _,_,h,_=>by simp[Cano]at h
 |.str _,.list _,_,h,_=>by simp[Cano]at h
 |.str _,.dict _,_,h,_=>by simp[Cano]at h
 |.tuple _,.none,_,h,_=>by simp[Cano]at h
 |.tuple _,.bool _,_,h,_=>by simp[Cano]at h
 |.tuple _,.list _,_,h,_=>by simp[Cano]at h
 |.tuple _,.dict _,_,h,_=>by simp[Cano]at h
theorem Um:∀(xs ys:oA lG),A7 xs=true->A7 ys=true->PyData.eqvAll xs ys=true->xs=ys
 |[],[],_,_,_=>rfl
 |[],_::_,_,_,h=>by simp[PyData.eqvAll]at h
 |_::_,[],_,_,h=>by simp[PyData.eqvAll]at h
 |x::xs,y::ys,h1,h2,h=>by simp only[A7,Bool.and_eq_true]at h1 h2;rw[PyData.eqvAll,a_]at h;rw[Zz x y h1.1 h2.1 h.1,Um xs ys h1.2 h2.2 h.2]
end
mutual
theorem Le:∀(x:lG),Cano x=true->PyData.eqv x x=true
 |.int a,_=>by simp[PyData.eqv]
 |.str a,_=>by simp[PyData.eqv]
 |.tuple b,h=>by rw[PyData.eqv];exact Nh b (by simpa only[Cano] using h)
 |.none,h=>by simp[Cano]at h
 |.bool _,h=>by simp[Cano]at h
 |.list _,h=>by simp[Cano]at h
 |.dict _,h=>by simp[Cano]at h
theorem Nh:∀(xs:oA lG),A7 xs=true->PyData.eqvAll xs xs=true
 |[],_=>rfl
 |x::xs,h=>by simp only[A7,Bool.and_eq_true]at h;rw[PyData.eqvAll,Le x h.1,Nh xs h.2];rfl
end
def NE{x y:lG}(hx:Cano x=true)(hy:Cano y=true):PyData.eqv x y=false↔x≠y:=by
 constructor;rintro h rfl;rw[Le x hx]at h;cases h
 ·intro h;cases e:PyData.eqv x y with
  |false=>rfl
  |true=>exact absurd (Zz x y hx hy e) h
end L2
namespace L2
open PySem PySem.W PyProof.Rows
def gallop':Bool->lR->oC lR->Nat->Nat->Nat->StateT lW Sem (oB Nat):=sortPriv% PySem.Builtin.gallop
def setMinGallop':Nat->StateT lW Sem Unit:=sortPriv% PySem.Builtin.setMinGallop
def Si(left:Bool)(b:lR)(e:oC lR)(base n a:Nat):gallop' left b e base n a=(do
 let d (i:Nat):StateT lW Sem (oB Bool):=do
  let x <- elem' e (base+i)
  if left then lt' x b else return (<- lt' b x).map (!·)
 let mut lastofs:=0
 let mut ofs:=1
 let mut lo:=0
 let mut hi:=0
 let some right <- d a|return none
 if right then
  let c:=n-a
  for _ in [0:n] do
   if ofs>=c then break
   let some more <- d (a+ofs)|return none
   if !more then break
   lastofs:=ofs
   ofs:=2*ofs+1
  lo:=a+lastofs+1
  hi:=a+min ofs c
 else
  let c:=a+1
  for _ in [0:n] do
   if ofs>=c then break
   let some found <- d (a-ofs)|return none
   if found then break
   lastofs:=ofs
   ofs:=2*ofs+1
  lo:=a+1-min ofs c
  hi:=a-lastofs
 for _ in [0:n] do
  if lo>=hi then break
  let m:=lo+(hi-lo) / 2
  let some more <- d m|return none
  if more then lo:=m+1 else hi:=m
 return some hi):=rfl
section
variable {prog:lJ}{w:lK}{A:lM}{E:lE->lF->Prop}{s:lF}{κ:lX}{it:oC lR}{n:Nat}{lt:Nat->Nat->Bool}
def byd(left:Bool)(a:lR)(b:oC lR)(base i:Nat):StateT lW Sem (oB Bool):=do
 let x <- elem' b (base+i)
 if left then lt' x a else return (<- lt' a x).map (!·)
end
def mergeLo':oC lR->oC lR->StateT lW Sem (oC lR):=sortPriv% PySem.Builtin.mergeLo
def mergeHi':oC lR->oC lR->StateT lW Sem (oC lR):=sortPriv% PySem.Builtin.mergeHi
def C5(g:Nat):setMinGallop' g=modify λst=>SortSt.mk' (kindOf st) (arrOf st) (pendingOf st) g (failedOf st):=rfl
def P7(a b:oC lR):mergeLo' a b=(do
 rule "list.sort.merge-lo"
 let f:=a.size+b.size
 let done (out:oC lR) (c d:Nat):=out++a.extract c a.size++b.extract d b.size
 let e (out:oC lR) (c d:Nat):=out++b.extract d b.size++a.extract c a.size
 let mut out:oC lR:=#[<- elem' b 0]
 let mut c:=0
 let mut d:=1
 if d==b.size then return done out c d
 if c+1==a.size then return e out c d
 let mut minGallop:=gallopOf (<- get)
 for _ in [0:f] do
  let mut acount:=0
  let mut bcount:=0
  for _ in [0:f] do
   let some bWins <- lt' (<- elem' b d) (<- elem' a c)|return done out c d
   if bWins then
    out:=out.push<|<- elem' b d;d:=d+1;bcount:=bcount+1;acount:=0
    if d==b.size then return done out c d
    if bcount>=minGallop then break
   else
    out:=out.push<|<- elem' a c;c:=c+1;acount:=acount+1;bcount:=0
    if c+1==a.size then return e out c d
    if acount>=minGallop then break
  rule "list.sort.gallop"
  minGallop:=minGallop+1
  for _ in [0:f] do
   if minGallop>1 then minGallop:=minGallop-1
   setMinGallop' minGallop
   let some k <- gallop' false (<- elem' b d) a c (a.size-c) 0|return done out c d
   acount:=k
   if k>0 then
    out:=out++a.extract c (c+k);c:=c+k
    if c+1==a.size then return e out c d
    if c==a.size then return done out c d
   out:=out.push<|<- elem' b d;d:=d+1
   if d==b.size then return done out c d
   let some k <- gallop' true (<- elem' a c) b d (b.size-d) 0|return done out c d
   bcount:=k
   if k>0 then
    out:=out++b.extract d (d+k);d:=d+k
    if d==b.size then return done out c d
   out:=out.push<|<- elem' a c;c:=c+1
   if c+1==a.size then return e out c d
   if acount<7&&bcount<7 then break
  minGallop:=minGallop+1
  setMinGallop' minGallop
 unsupported "internal:list.sort.merge-bound"):=rfl
section
variable {prog:lJ}{w:lK}{A:lM}{E:lE->lF->Prop}{s:lF}{κ:lX}{it:oC lR}{n:Nat}{lt:Nat->Nat->Bool}
abbrev at0(p:oC Nat)(i:Nat):Nat:=p.getD i 0
def In(n:Nat)(p:oC Nat):Prop:=∀i,i<p.size->at0 p i<n
structure MI(lt:Nat->Nat->Bool)(a b out:oC Nat)(ia ib:Nat):Prop where
 ha:ia<=a.size
 hb:ib<=b.size
 sz:out.size=ia+ib
 perm:out.toList.Perm (a.toList.take ia++b.toList.take ib)
 srt:out.toList.Pairwise λx y=>lt y x=false
 lea:∀x∈out.toList,∀j,ia<=j->j<a.size->lt (at0 a j) x=false
 leb:∀x∈out.toList,∀j,ib<=j->j<b.size->lt (at0 b j) x=false
abbrev TH:=oB (oC lR)×oC lR×Nat×Nat×Nat×Nat×Nat
abbrev Dc(st:lW)(g:Nat):lW:=SortSt.mk' (kindOf st) (arrOf st) (pendingOf st) g<|failedOf st
def GD(a b c:oC lR)(d f h g e:Nat):StateT lW Sem (ForInStep TH) :=
 elem' a d>>=λy=>
  if(d+1+1==a.size)=true then pure (ForInStep.done (some<|c.push y++b.extract f b.size++a.extract (d+1) a.size,c.push y,d+1,f,h,g,e))
  else if(decide (g<7)&&decide (e<7))=true then pure (ForInStep.done (none,c.push y,d+1,f,h,g,e))
  else pure<|ForInStep.yield (none,c.push y,d+1,f,h,g,e)
def GE(a b d:oC lR)(e c f g h:Nat):StateT lW Sem (ForInStep TH) :=
 elem' b c>>=λy=>
  if(c+1==b.size)=true then pure (ForInStep.done (some<|d.push y++a.extract e a.size++b.extract (c+1) b.size,d.push y,e,c+1,f,g,h))
  else elem' a e>>=λz=>gallop' true z b (c+1) (b.size-(c+1)) 0>>=λx=>
   match x with
   |some k=>if k>0 then
     (if(c+1+k==b.size)=true then pure (ForInStep.done (some<|d.push y++b.extract (c+1) (c+1+k)++a.extract e a.size++b.extract (c+1+k) b.size,d.push y++b.extract (c+1) (c+1+k),e,c+1+k,f,g,k))
     else GD a b (d.push y++b.extract (c+1) (c+1+k)) e (c+1+k) f g k)
    else GD a b (d.push y) e (c+1) f g k
   |_=>pure<|ForInStep.done (some<|d.push y++a.extract e a.size++b.extract (c+1) b.size,d.push y,e,c+1,f,g,h)
def NF(a b d:oC lR)(c e f h g:Nat):StateT lW Sem (ForInStep TH) :=
 setMinGallop' f>>=λ_=>elem' b e>>=λy=>gallop' false y a c (a.size-c) 0>>=λx=>
  match x with
  |some k=>if k>0 then
    (if(c+k+1==a.size)=true then pure (ForInStep.done (some<|d++a.extract c (c+k)++b.extract e b.size++a.extract (c+k) a.size,d++a.extract c (c+k),c+k,e,f,k,g))
    else if(c+k==a.size)=true then pure (ForInStep.done (some<|d++a.extract c (c+k)++a.extract (c+k) a.size++b.extract e b.size,d++a.extract c (c+k),c+k,e,f,k,g))
    else GE a b (d++a.extract c (c+k)) (c+k) e f k g)
   else GE a b d c e f k g
  |_=>pure<|ForInStep.done (some<|d++a.extract c a.size++b.extract e b.size,d,c,e,f,h,g)
section
variable {a b:oC Nat}{st:lW}{Qd Qy:TH->lW->Prop}{out:oC Nat}{ia ib mg ac bc:Nat}
end
end
def P8(a b:oC lR):mergeHi' a b=(do
 rule "list.sort.merge-hi"
 let d:=a.size+b.size
 let done (out:oC lR) (na nb:Nat):=a.extract 0 na++b.extract 0 nb++out.reverse
 let c (out:oC lR) (na nb:Nat):=b.extract 0 nb++a.extract 0 na++out.reverse
 let mut na:=a.size-1
 let mut nb:=b.size
 let mut out:oC lR:=#[<- elem' a na]
 if na==0 then return done out na nb
 if nb==1 then return c out na nb
 let mut minGallop:=gallopOf (<- get)
 for _ in [0:d] do
  let mut acount:=0
  let mut bcount:=0
  for _ in [0:d] do
   let some aWins <- lt' (<- elem' b (nb-1)) (<- elem' a (na-1))|return done out na nb
   if aWins then
    na:=na-1;out:=out.push<|<- elem' a na;acount:=acount+1;bcount:=0
    if na==0 then return done out na nb
    if acount>=minGallop then break
   else
    nb:=nb-1;out:=out.push<|<- elem' b nb;bcount:=bcount+1;acount:=0
    if nb==1 then return c out na nb
    if bcount>=minGallop then break
  rule "list.sort.gallop"
  minGallop:=minGallop+1
  for _ in [0:d] do
   if minGallop>1 then minGallop:=minGallop-1
   setMinGallop' minGallop
   let some at_ <- gallop' false (<- elem' b (nb-1)) a 0 na (na-1)|return done out na nb
   let k:=na-at_
   acount:=k
   if k>0 then
    out:=out++(a.extract at_ na).reverse;na:=at_
    if na==0 then return done out na nb
   nb:=nb-1;out:=out.push (<- elem' b nb)
   if nb==1 then return c out na nb
   let some at_ <- gallop' true (<- elem' a (na-1)) b 0 nb (nb-1)|return done out na nb
   let k:=nb-at_
   bcount:=k
   if k>0 then
    out:=out++(b.extract at_ nb).reverse;nb:=at_
    if nb==1 then return c out na nb
    if nb==0 then return done out na nb
   na:=na-1;out:=out.push (<- elem' a na)
   if na==0 then return done out na nb
   if acount<7&&bcount<7 then break
  minGallop:=minGallop+1
  setMinGallop' minGallop
 unsupported "internal:list.sort.merge-bound"):=rfl
section
variable {prog:lJ}{w:lK}{A:lM}{E:lE->lF->Prop}{s:lF}{κ:lX}{it:oC lR}{n:Nat}{lt:Nat->Nat->Bool}
section
variable {a b out:oC Nat}{na nb:Nat}
end
abbrev TJ:=oB (oC lR)×Nat×Nat×oC lR×Nat×Nat×Nat
def GF(a b c:oC lR)(d f h g e:Nat):StateT lW Sem (ForInStep TJ) :=
 elem' a (d-1)>>=λy=>
  if(d-1==0)=true then pure (ForInStep.done (some<|a.extract 0 (d-1)++b.extract 0 f++(c.push y).reverse,d-1,f,c.push y,h,g,e))
  else if(decide (g<7)&&decide (e<7))=true then pure (ForInStep.done (none,d-1,f,c.push y,h,g,e))
  else pure<|ForInStep.yield (none,d-1,f,c.push y,h,g,e)
def GG(a b c:oC lR)(e d f g h:Nat):StateT lW Sem (ForInStep TJ) :=
 elem' b (d-1)>>=λy=>
  if(d-1==1)=true then pure (ForInStep.done (some<|b.extract 0 (d-1)++a.extract 0 e++(c.push y).reverse,e,d-1,c.push y,f,g,h))
  else elem' a (e-1)>>=λz=>gallop' true z b 0 (d-1) (d-1-1)>>=λx=>
   match x with
   |some k=>if d-1-k>0 then
     (if(k==1)=true then pure (ForInStep.done (some<|b.extract 0 k++a.extract 0 e++(c.push y++(b.extract k<|d-1).reverse).reverse,e,k,c.push y++(b.extract k<|d-1).reverse,f,g,d-1-k))
     else if(k==0)=true then pure (ForInStep.done (some<|a.extract 0 e++b.extract 0 k++(c.push y++(b.extract k<|d-1).reverse).reverse,e,k,c.push y++(b.extract k<|d-1).reverse,f,g,d-1-k))
     else GF a b (c.push y++(b.extract k<|d-1).reverse) e k f g<|d-1-k)
    else GF a b (c.push y) e (d-1) f g (d-1-k)
   |_=>pure<|ForInStep.done (some<|a.extract 0 e++b.extract 0 (d-1)++(c.push y).reverse,e,d-1,c.push y,f,g,h)
def NG(a b c:oC lR)(d e f h g:Nat):StateT lW Sem (ForInStep TJ) :=
 setMinGallop' f>>=λ_=>elem' b (e-1)>>=λy=>gallop' false y a 0 d (d-1)>>=λx=>
  match x with
  |some k=>if d-k>0 then
    (if(k==0)=true then pure (ForInStep.done (some<|a.extract 0 k++b.extract 0 e++(c++(a.extract k d).reverse).reverse,k,e,c++(a.extract k d).reverse,f,d-k,g))
    else GG a b (c++(a.extract k d).reverse) k e f (d-k) g)
   else GG a b c d e f (d-k) g
  |_=>pure<|ForInStep.done (some<|a.extract 0 d++b.extract 0 e++c.reverse,d,e,c,f,h,g)
section
variable {a b:oC Nat}{st:lW}{Qd Qy:TJ->lW->Prop}{out:oC Nat}{na nb mg ac bc:Nat}
end
end
def P9(i:Nat):mergeAt' i=(do
 let s <- get
 let(some (d,b,e),some (f,c,_)):=((pendingOf s)[i]?,(pendingOf s)[i+1]?)|unsupported "internal:list.sort.pending"
 set (setPending s<|((pendingOf s).setIfInBounds i (d,b+c,e)).eraseIdxIfInBounds<|i+1)
 let some k <- gallop' false (<- elem' (arrOf s) f) (arrOf s) d b 0|return false
 let(d,b):=(d+k,b-k)
 if b==0 then return true
 let some c <- gallop' true (<- elem' (arrOf s) (d+b-1)) (arrOf s) f c (c-1)|return false
 if c==0 then return true
 let x:=(arrOf s).extract d f
 let y:=(arrOf s).extract f (f+c)
 let merged <- if b<=c then mergeLo' x y else mergeHi' x y
 modify λs=>setArr s (merged.toList.zipIdx.foldl (λa (p,j)=>a.setIfInBounds (d+j) p)<|arrOf s)
 return (failedOf<|<- get).isNone):=rfl
section
variable {prog:lJ}{w:lK}{A:lM}{E:lE->lF->Prop}{s:lF}{κ:lX}{it:oC lR}{n:Nat}{lt:Nat->Nat->Bool}{p:oC Nat}{pd:oC<|Nat×Nat×Nat}{g:Nat}
def GH{a:Type}{M:Model}{x:a}{Q:PUnit->a->Prop}{st:a}(h:Q ⟨⟩ x):wpS M A E s (set x:StateT a Sem PUnit) Q st:=by unfold wpS;rw[StateT.run_set];exact C_ ⟨rfl,h⟩
def wr{a:Type}(b:Nat):oA a->Nat->oC a->oC a
 |[],_,p=>p
 |x::c,k,p=>wr b c (k+1)<|p.setIfInBounds (b+k) x
theorem Uo{c:Type}(b:Nat):∀(xs:oA c) (k:Nat) (p:oC c),(xs.zipIdx k).foldl (λa (z:c×Nat)=>a.setIfInBounds (b+z.2) z.1) p=wr b xs k p
 |[],_,_=>rfl
 |x::xs,k,p=>by rw[List.zipIdx_cons,eQ,wr];exact Uo b xs (k+1) _
theorem Z0{b:Type}(a:Nat):∀(xs:oA b) (k:Nat) (p:oC b),a+k+xs.length<=p.size->∀i:Nat,(wr a xs k p)[i]?=if a+k<=i/\i<a+k+xs.length then xs[i-(a+k)]? else p[i]?
 |[],k,p,_,i=>by rw[wr,M_<|by simp only[List.length_nil];omega]
 |x::xs,k,p,h,i=>by rw[aS]at h;rw[wr,Z0 a xs (k+1) _<|by rw[Array.size_setIfInBounds];omega,Array.getElem?_setIfInBounds,aS];by_cases h1:a+k=i;subst h1;rw[M_<|by omega,T_ rfl,T_<|by omega,T_<|by omega,lB];rfl;by_cases h2:a+(k+1)<=i/\i<a+(k+1)+xs.length;rw[T_ h2,T_<|by omega];rw[show i-(a+k)=i-(a+(k+1))+1 by omega,eK];rw[M_ h2,M_ h1,M_<|by omega]
def Z1(lo a n:Nat):StateT lW Sem (oB Nat):=do
 reverseSlice' lo (lo+n)
 let mut n:=n
 for _ in [n:a] do
  let some smaller <- ltAt' (lo+n) (lo+n-1)|return none
  if smaller then break
  n:=n+1
 return some n
def Z4(lo a n:Nat):StateT lW Sem (oB Nat):=do
 rule "list.sort.descending-run"
 let mut n:=n+1
 let mut neq:=0
 for _ in [n:a] do
  let some smaller <- ltAt' (lo+n) (lo+n-1)|return none
  if smaller then
   if neq>0 then reverseSlice' (lo+n-(neq+1)) (lo+n)
   neq:=0
  else
   let some larger <- ltAt' (lo+n-1) (lo+n)|return none
   if larger then break
   neq:=neq+1
  n:=n+1
 if neq>0 then reverseSlice' (lo+n-(neq+1)) (lo+n)
 Z1 lo a n
def Og(lo a:Nat):countRun' lo a=(do
 let mut n:=1
 for _ in [1:a] do
  let some smaller <- ltAt' (lo+n) (lo+n-1)|return none
  if smaller then break
  n:=n+1
 if n==a then return some n
 if n>1 then
  let some rose <- ltAt' lo (lo+n-1)|return none
  if rose then return some n
  reverseSlice' lo (lo+n)
 Z4 lo a n):=rfl
def Chain:oA (Nat×Nat×Nat)->Nat->Nat->Prop
 |[],lo,b=>lo=b
 | (a,l,_)::r,lo,b=>a=lo/\0<l/\Chain r (lo+l) b
theorem Chain.le:∀{l:oA<|Nat×Nat×Nat} {lo b:Nat},Chain l lo b->lo+l.length<=b
 |[],_,_,h=>by cases h;simp
 | (a,l,_)::r,lo,b,h=>by have:=h.2.2.le;have:=h.2.1;rw[aS];omega
theorem Chain.app:∀{l m:oA<|Nat×Nat×Nat} {lo b:Nat},Chain (l++m) lo b↔∃k,Chain l lo k/\Chain m k b
 |[],m,lo,b=>⟨λh=>⟨lo,rfl,h⟩,λ⟨k,e,h⟩=>by cases e;exact h⟩
 | (a,l,q)::r,m,lo,b=>by constructor;rintro⟨h1,h2,c⟩;obtain⟨k,i,d⟩:=Chain.app.mp c;exact⟨k,⟨h1,h2,i⟩,d⟩;rintro⟨k,⟨h1,h2,c⟩,f⟩;exact⟨h1,h2,Chain.app.mpr ⟨k,c,f⟩⟩
def Qa{l:oA<|Nat×Nat×Nat}{i:Nat}{a b:Nat×Nat×Nat}(h1:l[i]?=some a)(h2:l[i+1]?=some b):l=l.take i++a::b::l.drop (i+2):=by obtain⟨e,f⟩:=E_.mp h1;obtain⟨d,h⟩:=E_.mp h2;have c:=(jA i l).symm;rw[bM e,bM d,f,h]at c;exact c
def GI{pd:oC<|Nat×Nat×Nat}{i:Nat}{a b c:Nat×Nat×Nat}(h1:pd[i]?=some a)(h2:pd[i+1]?=some b):((pd.setIfInBounds i c).eraseIdxIfInBounds<|i+1).toList=pd.toList.take i++c::pd.toList.drop (i+2):=by
 have d:pd.toList[i]?=some a:=by rw[Z_];exact h1
 have f:pd.toList[i+1]?=some b:=by rw[Z_];exact h2
 have j:=(E_.mp d).1;have hj:=(E_.mp f).1;rw[Array.toList_eraseIdxIfInBounds,Array.toList_setIfInBounds,List.eraseIdx_eq_take_drop_succ,List.take_set,List.drop_set_of_lt<|by omega];have e:=Qa d f;have h:(pd.toList.take i).length=i:=by rw[bF];omega
 rw[show i+1+1=i+2 from rfl];have:(pd.toList.take<|i+1).set i c=pd.toList.take i++[c]:=by rw[aM,d,List.set_append_right _ _<|fM h,h,lB];rfl
 rw[this,eL];rfl
theorem Chain.mod{f:Nat×Nat×Nat->Nat×Nat×Nat}(c:∀e,(f e).1=e.1/\(f e).2.1=e.2.1):∀{l:oA<|Nat×Nat×Nat} {i lo b:Nat},Chain l lo b->Chain (l.modify i f) lo b
 |[],i,lo,b,h=>by rw[List.modify_nil];exact h
 | (a,l,q)::r,0,lo,b,h=>by rw[List.modify_zero_cons];have:=c (a,l,q);generalize f (a,l,q)=e at this;obtain⟨j,k,d⟩:=e;obtain⟨h1,h2⟩:=this;dsimp only at h1 h2;subst h1;subst h2;exact h
 | (a,l,q)::r,i+1,lo,b,h=>by rw[List.modify_succ_cons];exact⟨h.1,h.2.1,h.2.2.mod c⟩
end
end L2
namespace L2
open PySem
def Z5(A:lM)(s:lF)(u v:lE)(b:Bool):Prop:=∀(prog:lJ) (w:lK) (E:lE->lF->Prop) (Q:lE->lF->Prop),Q (.bool b) s->qQ prog w A (richCompare .Lt u v) Q E s
inductive LexAt (A:lM) (s:lF):oA lE->oA lE->Bool->Prop
 |nil {ys:oA lE}:LexAt A s [] ys (decide (0<ys.length))
 |stop {x:lE} {xs:oA lE}:LexAt A s (x::xs) [] false
 |eq {x y:lE} {xs ys:oA lE} {r:Bool}:SeqAt.EqAt A s x y true->LexAt A s xs ys r->LexAt A s (x::xs) (y::ys) r
 |ne {x y:lE} {xs ys:oA lE} {r:Bool}:SeqAt.EqAt A s x y false->Z5 A s x y r->LexAt A s (x::xs) (y::ys) r
section
variable {prog:lJ}{w:lK}{A:lM}{E:lE->lF->Prop}{s:lF}
def LexAt.ends{xs ys:oA lE}{r:Bool}(h:LexAt A s xs ys r)(e:xs.zip ys=[]):r=decide (xs.length<ys.length):=by
 cases h with
 |nil=>simp
 |stop=>simp
 |eq=>simp at e
 |ne=>simp at e
def Mk{a b:lH}{p i:lO}{xs ys:oC lE}{n k:Nat}{P:PySem.Fin->lF->Prop}{r:Bool}(ha:s.heap.get? a=some p)(hb:s.heap.get? b=some i)(z:i.cls=.type "tuple") (x:p.data=.seq xs n) (y:i.data=.seq ys k)
  (h:LexAt A s xs.toList ys.toList r) (q:P (.done<|.ret<|.bool r) s):qQ prog w A (Builtin.«tuple.__lt__» ⟨[.ref a,.ref b],[]⟩) P E s:=by
 have t:s.TypeIs (.ref b) "tuple" := ⟨i,hb,z⟩;refine(show wpAny _ _ (isInstance (.ref b) (.type "tuple")>>=_) _ _ s from A_<|cZ t isSubtype_tuple_tuple ?_);rw[show(!true)=false from rfl,M_ Q_];refine A_<|kJ ha x<|A_<|kJ hb y<|A_ ?_;refine f_ _ (λleft g j=>g.1=none/\j=s/\∃f d,left=List.zip f d/\LexAt A s f d r/\decide (f.length<d.length)=decide (xs.size<ys.size)) _ ?_ ?_ _ _ ⟨rfl,rfl,xs.toList,ys.toList,rfl,h,by simp⟩
 ·rintro⟨u,v⟩ left g j ⟨l,rfl,f,d,c,o,m⟩;cases o with
  |nil=>simp at c
  |stop=>simp at c
  |eq h1 h2=>simp only[List.zip_cons_cons,List.cons.injEq,Prod.mk.injEq]at c;obtain⟨⟨rfl,rfl⟩,rfl⟩:=c;refine A_<|h1 prog w _ _ ?_;dsimp only;rw[show(!true)=false from rfl,M_ Q_];exact C_ ⟨rfl,rfl,_,_,rfl,h2,by simpa using m⟩
  |ne h1 h2=>simp only[List.zip_cons_cons,List.cons.injEq,Prod.mk.injEq]at c;obtain⟨⟨rfl,rfl⟩,rfl⟩:=c;refine A_<|h1 prog w _ _ ?_;simp only[Bool.not_false,if_true];exact A_<|eA<|A_<|h2 prog w _ _<|A_<|C_<|C_<|C_ q
 rintro⟨B,a2⟩ j ⟨l,rfl,f,d,c,o,m⟩;simp only at l;subst l;have e:=o.ends c.symm;rw[e,m]at q;exact C_ q
def Sj{a b:lH}{c d:lO}{xs ys:oC lE}{n k:Nat}{r:Bool}(ha:s.heap.get? a=some c)(hb:s.heap.get? b=some d)(e:c.cls=.type "tuple") (f:d.cls=.type "tuple") (i:c.data=.seq xs n) (g:d.data=.seq ys k)
  (hu:A.units<cLine) (h:LexAt A.in1 s xs.toList ys.toList r):Z5 A s (.ref a) (.ref b) r:=λprog w E Q q=>
 wpAny_richCompare_same_room (T := "tuple") ⟨c,ha,e⟩ ⟨d,hb,f⟩ F.slot_tuple_lt (aO F.slot_tuple_lt ⟨c,ha,e⟩ F.entry_tuple_lt (Mk ha hb f i g h ⟨_,rfl,(λz=>nomatch z),q⟩)<|F.args_tuple_lt_2 _ _) hu
end
mutual
def cmpb:lG->lG->Bool
 |.int _,.int _=>true
 |.tuple b,.tuple a=>cmpbs b a
 |_,_=>false
def cmpbs:oA lG->oA lG->Bool
 |[],_=>true
 |_::_,[]=>true
 |x::b,y::a=>if PyData.eqv x y then cmpbs b a else cmpb x y
end
def Sk{u a b c d:Nat}(h:u+min (max a b) (max c d)<cLine):u+min a c<cLine:=dG (kB (Nat.le_min_of_le_of_le (R_ (Nat.min_le_left _ _)<|Nat.le_max_left _ _)<|R_ (Nat.min_le_right _ _)<|Nat.le_max_left _ _) u) h
def NH{u a b c d:Nat}(h:u+min (max a b) (max c d)<cLine):u+min b d<cLine:=Sk (b:=a) (d:=c) (by rw[Nat.max_comm b a,Nat.max_comm d c];exact h)
mutual
theorem Lf:∀(x y:lG) (A:lM) (s:lF) (u v:lE) (as i:oA lH),Reads s.heap u x as->Reads s.heap v y i->x.canLay0=true->y.canLay0=true->cmpb x y=true->A.units+min x.depth y.depth<cLine->Z5 A s u v (EO x y)
 |.int a,.int b,A,s,u,v,as,i,c,f,_,_,_,_=>by
  cases c;cases f;intro j w E Q q;have e:EO (.int a) (.int b)=decide (a<b):=by simp[EO]
  rw[e]at q;exact wpAny_lt_int q
 |.tuple d,.tuple g,A,s,u,v,as,i,c,f,k,c2,hc,hu=>by
  cases c with
  |tuple o a2 p t=>
   cases f with
   |tuple l n m r=>
    have e:EO (.tuple d) (.tuple g)=Mj d g:=by simp[EO]
    rw[e];simp only[PyData.canLay0]at k c2;simp only[cmpb]at hc;simp only[PyData.depth]at hu;refine Sj o l a2 n p m (by omega)<|Gh d g A.in1 s _ _ _ _ t r k c2 hc ?_;show A.units+1+_<_;omega
 |.int _,.none,_,_,_,_,_,_,_,_,_,_,h,_=>by simp[cmpb]at h
 |.int _,.bool _,_,_,_,_,_,_,_,_,_,_,h,_=>by simp[cmpb]at h
 |.int _,.str _,_,_,_,_,_,_,_,_,_,_,h,_=>by simp[cmpb]at h
 |.int _,.list _,_,_,_,_,_,_,_,_,_,_,h,_=>by simp[cmpb]at h
 |.int _,.tuple _,_,_,_,_,_,_,_,_,_,_,h,_=>by simp[cmpb]at h
 |.int _,.dict _,_,_,_,_,_,_,_,_,_,_,h,_=>by simp[cmpb]at h
 |.tuple _,.none,_,_,_,_,_,_,_,_,_,_,h,_=>by simp[cmpb]at h
 |.tuple _,.bool _,_,_,_,_,_,_,_,_,_,_,h,_=>by simp[cmpb]at h
 |.tuple _,.str _,_,_,_,_,_,_,_,_,_,_,h,_=>by simp[cmpb]at h
 |.tuple _,.list _,_,_,_,_,_,_,_,_,_,_,h,_=>by simp[cmpb]at h
 |.tuple _,.int _,_,_,_,_,_,_,_,_,_,_,h,_=>by simp[cmpb]at h
 |.tuple _,.dict _,_,_,_,_,_,_,_,_,_,_,h,_=>by simp[cmpb]at h
 |.none,_,_,_,_,_,_,_,_,_,_,_,h,_=>by simp[cmpb]at h
 |.bool _,_,_,_,_,_,_,_,_,_,_,_,h,_=>by simp[cmpb]at h
 |.str _,_,_,_,_,_,_,_,_,_,_,_,h,_=>by simp[cmpb]at h
 |.list _,_,_,_,_,_,_,_,_,_,_,_,h,_=>by simp[cmpb]at h
 |.dict _,_,_,_,_,_,_,_,_,_,_,_,h,_=>by simp[cmpb]at h
theorem Gh:∀(xs ys:oA lG) (A:lM) (s:lF) (d a:oA lE) (as g:oA lH),ReadsAll s.heap d xs as->ReadsAll s.heap a ys g->PyData.canLayAll0 xs=true->PyData.canLayAll0 ys=true->cmpbs xs ys=true->A.units+min (PyData.depthAll xs) (PyData.depthAll ys)<cLine->LexAt A s d a (Mj xs ys)
 |[],ys,A,s,d,a,as,g,b,c,_,_,_,_=>by
  cases b;have e:Mj [] ys=decide (0<a.length):=by cases c<;>simp[Mj]
  rw[e];exact .nil
 |x::xs,[],A,s,d,a,as,g,b,c,_,_,_,_=>by
  cases c;cases b with
  |cons h a2=>
   have e:Mj (x::xs) []=false:=by simp[Mj]
   rw[e];exact .stop
 |x::xs,y::ys,A,s,d,a,as,g,b,c,f,c2,hc,hu=>by
  simp only[PyData.canLayAll0,Bool.and_eq_true]at f c2;simp only[PyData.depthAll]at hu;cases b with
  |cons h a2=>
   cases c with
   |cons i j=>
    have q:=jH x y A s _ _ _ _ h i f.1 c2.1<|Sk hu;simp only[cmpbs]at hc;simp only[Mj];cases e:PyData.eqv x y with
    |true=>rw[e]at q hc;exact .eq q (Gh xs ys A s _ _ _ _ a2 j f.2 c2.2 hc<|NH hu)
    |false=>rw[e]at q hc;exact .ne q<|Lf x y A s _ _ _ _ h i f.1 c2.1 hc<|Sk hu
end
end L2
namespace L2
open PySem PySem.W PyProof.Rows
section
variable {prog:lJ}{w:lK}{A:lM}{E:lE->lF->Prop}{s:lF}
def GJ{a b:Bool}{Q:Bool->lF->Prop}:∀{c f:oA lE} {r:Bool},LexAt A s c f r->a=decide (c.length<f.length)->∀i,(b&&i==0)=false->Q r s->KatLex prog w A b a Q (c.zip f) i s:=by
 intro c f r h
 induction h with
 |nil=>intro e i d q;have g:a=decide (0<_):=e;rw[<- g]at q;exact kat_nil q
 |stop=>
  intro e i d q;have g:a=false:=by rw[e];simp
  rw[<- g]at q;exact kat_nil q
 |eq h1 h2 j=>intro e i d q;exact kat_cons (h1 prog w _ _<|kat_yes<|j (by rw[e];simp) (i+1) (by simp) q)
 |ne h1 h2=>intro e i d q;refine kat_cons<|h1 prog w _ _<|kat_no ?_;rw[d];exact kat_one _ _<|h2 prog w _ _<|show PySem.W.BoolBack Q (.bool _) s from q
def NI{x y:lH}{a b:Int}{c d:oA lG}{as H:oA lH}{Q:Bool->lF->Prop}(l:Reads s.heap (.ref x) (.tuple<|.int a::c) as)(B:Reads s.heap (.ref y) (.tuple<|.int b::d) H)(i:(PyData.tuple<|.int a::c).canLay0=true)(c2:(PyData.tuple<|.int b::d).canLay0=true)
  (hc:cmpb (.tuple<|.int a::c) (.tuple<|.int b::d)=true) (hu:A.units+64<cLine) (F:(PyData.tuple<|.int a::c).depth<=64) (q:Q (EO (.tuple<|.int a::c)<|.tuple<|.int b::d) s):qQ prog w A (keyLt' (tuples' true) (.ref x)<|.ref y) Q E s:=by
 cases l with
 |@tuple _ M g n _ _ v a2 C k=>
  cases B with
  |@tuple _ N h m _ _ o L r j=>
   refine kat_lt v C o r ?_;simp only[PyData.canLay0,PyData.canLayAll0,Bool.and_eq_true]at i c2;simp only[PyData.depth,PyData.depthAll]at F;simp only[cmpb,cmpbs]at hc;simp only[EO,Mj]at q;have z:g.size=g.toList.length:=by simp
   have u:h.size=h.toList.length:=by simp
   rw[z,u];generalize g.toList=us at k ⊢;generalize h.toList=vs at j ⊢;cases k with
   |cons D G=>
    cases j with
    |cons I p=>
     cases D with
     |int _ t=>
      cases I with
      |int _ J=>
       rw[List.zip_cons_cons];have f:=jH (.int a) (.int b) A s _ _ _ _ (.int a t) (.int b J) rfl rfl (by simp[PyData.depth];omega);cases e:PyData.eqv (.int a) (.int b) with
       |true=>rw[e]at f hc q;refine kat_cons<|f prog w _ _<|kat_yes ?_;refine GJ (Gh c d A s _ _ _ _ G p i.2 c2.2 hc<|by omega) (by simp) 1 rfl q
       |false=>rw[e]at f hc q;refine kat_cons<|f prog w _ _<|kat_no ?_;exact kat_lt_int q
end
end L2
namespace L2
open PySem PySem.Spec PyProof.Rows
theorem Hu:∀{ds:oA lG},PyData.canLayAll0 ds=true->∀d∈ds,d.canLay0=true
 |d::ds,h,e,he=>by simp only[PyData.canLayAll0,Bool.and_eq_true]at h;rcases Y_.mp he with rfl|he;exact h.1;exact Hu h.2 e he
theorem Ni:∀{ds:oA lG},∀d∈ds,d.depth<=PyData.depthAll ds
 |d::ds,e,he=>by simp only[PyData.depthAll];rcases Y_.mp he with rfl|he;omega;have:=Ni (ds:=ds) e he;omega
def Z6{a:Type}{xs:oA a}{i:Nat}{d:a}(h:i<xs.length):xs.getD i d∈xs:=by rw[cJ,F_ h];exact e_ h
theorem Jm{h h':lN}(hk:∀b o,h.get? b=some o->h'.get? b=some o):∀{a:oA lE} {ds:oA lG} {as:oA lH},ReadsAll h a ds as->ReadsAll h' a ds as
 |_,_,_,.nil=>.nil
 |_,_,_,.cons r t=>.cons (fP hk r)<|Jm hk t
theorem TK{h:lN}:∀{a:oA lE} {ds:oA lG} {as:oA lH} {i:Nat},ReadsAll h a ds as->i<ds.length->∃b,Reads h (a.getD i .none) (ds.getD i .none) b
 |_,_,_,0,.cons r _,_=>⟨_,r⟩
 |_,_,_,i+1,.cons _ t,c=>TK (i:=i) t<|by simpa using c
theorem Up{h:lN}:∀{a:oA lE} {ds:oA lG} {as:oA lH},ReadsAll h a ds as->a.length=ds.length
 |_,_,_,.nil=>rfl
 |_,_,_,.cons _ t=>by simp[Up t]
theorem Qb{h:lN}:∀{e:oA lE} {ds:oA lG} {as:oA lH},ReadsAll h e ds as->(∀d∈ds,∃i r,d=.tuple (.int i::r))->∃b:oA lE,PySem.W.KatTups h e b/\b.length=e.length/\∀v∈b,∃i t,v=.int i t
 |_,_,_,.nil,_=>⟨[],PySem.W.KatTups.nil,rfl,λ_ z=>nomatch z⟩
 |_,_,_,.cons r t,f=>by
  obtain⟨b,k,l,z⟩:=Qb t λd m=>f d<|aA _ m;obtain⟨i,w,rfl⟩:=f _ aK;cases r with
  |@tuple a o s n x as j a2 p c=>
   cases hv:s.toList with
   |nil=>rw[hv]at c;cases c
   |cons y u=>
    rw[hv]at c;cases c with
    |cons q A=>
     cases q with
     |int _ g=>refine⟨.int i g::b,PySem.W.KatTups.cons j a2 p ?_ k,by simp[l],λv hv'=>?_⟩;rw[<- Z_,hv];rfl;rcases Y_.mp hv' with rfl|hv';exact⟨_,_,rfl⟩;exact z v hv'
def Qc(t:lH)(i:Int):lO:={cls:=.type "reversed",data:=.fields #[.ref t,rawInt i]}
def Gi(h:lN)(a t:lH)(i:Int):Prop:=∃o,h.get? a=some o/\o.cls=.type "reversed" /\ o.data=.fields #[.ref t,rawInt i]
def Qe:Manifest.owners.lookup (String.ofList ['d','e','s','r','e','v','e','r'].reverse)=some Manifest.sig_reversed:=by kernel_rfl
def Ij:Slot "reversed" "__next__" "reversed.__next__" := .of (owner := "reversed") (n := "__next__") (by rw[gM,dZ];kernel_rfl) (by decide +kernel) (by decide +kernel) (by decide +kernel) (.inl<|by decide +kernel)<|by rw[dQ];kernel_rfl
def Qf:entryFor table "reversed.__next__" = some Builtin.«reversed.__next__»:=kU<|by kernel_rfl
def Uq(a:lE):argsOk "reversed.__next__" ⟨[a],[]⟩:=by rw[argsOk,kP (id := "reversed.__next__") (n:=['_','_','t','x','e','n','_','_']) (o:=['d','e','s','r','e','v','e','r']) (by kernel_rfl) Qe];kernel_rfl
def Ur:Slot "reversed" "__iter__" "reversed.__iter__" := .of (owner := "reversed") (n := "__iter__") (by rw[gM,dZ];kernel_rfl) (by decide +kernel) (by decide +kernel) (by decide +kernel) (.inl<|by decide +kernel)<|by rw[dQ];kernel_rfl
def Z7(a:lE):argsOk "reversed.__iter__" ⟨[a],[]⟩:=by rw[argsOk,kP (id := "reversed.__iter__") (n:=['_','_','r','e','t','i','_','_']) (o:=['d','e','s','r','e','v','e','r']) (by kernel_rfl) Qe];kernel_rfl
def Wx:entryFor table "reversed.__iter__" = some Builtin.«dict_keyiterator.__iter__»:=entryFor_alias (id' := "dict_keyiterator.__iter__") (by kernel_rfl) (by first|rfl|decide +kernel) (by decide +kernel)<|by kernel_rfl
def GK:typeLookup (.type "tuple") "__reversed__" = pure none:=by rw[gM,dZ];kernel_rfl
def Wy:isSubtype (.type "tuple") (.type "dict")=pure false:=by rw[dQ];kernel_rfl
def Oh:Slot "reversed" "__init__" "object.__init__" := .of (owner := "object") (n := "__init__") (by rw[gM,dZ];kernel_rfl) (by decide +kernel) (by decide +kernel) (by decide +kernel) (.inl<|by decide +kernel)<|by rw[dQ];kernel_rfl
def Wz:TypeCalled "reversed" "reversed.__new__" "object.__init__" := ⟨by decide +kernel,F.create_reversed,⟨_,_,F.mro_reversed⟩,F.made_reversed,by decide +kernel,F.sub_reversed_self,Oh⟩
section
variable {prog:lJ}{w:lK}{A:lM}{E:lE->lF->Prop}{s:lF}{X:Cx}{tg a:lL}{ta:AE}{pos p:Pos}{o e f:lL}{ao ak:Pos}{td ty tx:AE}
def Gi.typeIs{b t:lH}{i:Int}(x:Gi s.heap b t i):s.TypeIs (.ref b) "reversed" := by obtain⟨o,c,hc,_⟩:=x;exact⟨o,c,hc⟩
def Gi.at{h h':lN}{b t:lH}{i:Int}(x:Gi h b t i)(e:∀o,h.get? b=some o->h'.get? b=some o):Gi h' b t i:=by obtain⟨o,c,r⟩:=x;exact⟨o,e _ c,r⟩
def He{t:lH}{items:oC lE}{Q:lE->lF->Prop}(ht:IsTup s.heap t items)(j:¬(items.size:Int)>=2^63)
  (h:∀b,Q (.ref s.heap.objs.size) {s with heap:=s.heap.push<|Qc t<|(items.size:Int)-1,toks:=b}):qQ prog w A (call (.type "reversed") [.ref t]) Q E s:=by
 have c:s.TypeIs (.ref t) "tuple" := ht.typeIs;refine callType_newIn Wz (by decide) (F.typeCall_reversed_1 _) (F.newCall_reversed_1 _) (λg=>by kernel_rfl) F.entry_reversed_new (S:=λi R d=>d=s/\∀b,R (.ok<|.ret<|.ref s.heap.objs.size) {s with heap:=s.heap.push<|Qc t<|(items.size:Int)-1,toks:=b})
  (.of_wp λi R d h1=>?_) ⟨rfl,λb=>⟨⟨_,K_ _ rfl,rfl⟩,h b⟩⟩
 obtain⟨rfl,h1⟩:=h1;rw[Builtin.«reversed.__new__»];refine A_<|dI (newClass_reversed _) ?_;refine A_ (dI (a:=()) (by first|rfl|kernel_rfl)<|A_<|dI (a:=()) (by first|rfl|kernel_rfl) ?_);refine A_<|dX c GK<|A_ ?_;refine(show wpAny _ _ (isInstance (.ref t) (.type "dict")>>=_) _ _ d from A_<|cZ c Wy ?_);rw[M_ Q_];refine A_<|dX c F.slot_tuple_getitem.lookup ?_;dsimp only;rw[T_<|by decide];refine C_ ?_;rw[show(!true)=false from rfl,M_ Q_];refine A_ (PyProof.Rows.len_tuple ht (by omega)<|A_<|dI (a:=some (items.size:Int)) rfl ?_);refine(show wpAny _ _ (newObj (.type "reversed") (.fields #[.ref t,rawInt<|(items.size:Int)-1])>>=_) _ _ _ from A_<|aC<|C_ ⟨_,rfl,h1 _⟩)
def Qg{b t:lH}{i:Nat}{items:oC lE}{x:lE}{Q:oB lE->lF->Prop}(h:Gi s.heap b t (i:Int))(ht:IsTup s.heap t items)(hx:items[i]?=some x)(r:t≠b)(n:(i:Int)<2^63)
  (j:∀g k,Gi g b t ((i:Int)-1)->Heap.SameBut b s.heap g->Q (some x) {s with heap:=g,toks:=k}):qQ prog w A (pyNext<|.ref b) Q E s:=by
 obtain⟨o,d,hc,c⟩:=id h;have l:s.TypeIs (.ref t) "tuple" := ht.typeIs;unfold pyNext;refine A_<|dN<|aZ (name:=Str.ofString "__next__") h.typeIs Ij<|aO Ij h.typeIs Qf ?_<|Uq _;rw[Builtin.«reversed.__next__»];refine A_<|dI (a:=(Value.ref b,[])) rfl<|A_<|cB d c (x:=.ref t) rfl<|A_<|cB d c (x:=rawInt (i:Int)) rfl ?_;refine(show wpAny _ _ (if(i:Int)<0 then _ else _) _ _ s from ?_);rw[M_<|by omega];refine A_<|dX l F.slot_tuple_getitem.lookup ?_;have hk:seqIndex? (i:Int) items.size=some i:=by
  have q:i<items.size:=by rcases cL i items.size with z|z;exact z;rw[cN z]at hx;cases hx
  have m:¬((i:Int)<0):=by omega
  unfold seqIndex?;simp[q,m]
 refine(show wpAny _ _ (mkInt (i:Int)>>=_) _ _ s from A_<|wpAny_mkInt<|A_<|dN<|PyProof.Rows.getItem_tuple ht (by omega) n hk hx ?_);refine A_<|cB d c (x:=rawInt (i:Int)) rfl ?_;refine(show wpAny _ _ (setField (.ref b) 1 (rawInt<|(i:Int)-1)>>=_) _ _ _ from A_<|dE d c (by simp)<|C_ ⟨x,rfl,C_<|j _ _ ?_<|aN ..⟩);exact⟨_,bD _ d<|dY<|bV c _,(gS ..).trans hc,by rw[bV c];simp⟩
def Sl{c t:lH}{Q:oB lE->lF->Prop}(l:A.handled=none)(h:Gi s.heap c t<|-1)
  (k:∀j,Heap.ExtBut c s.heap j->Q none {s with heap:=j}):qQ prog w A (pyNext<|.ref c) Q E s:=by
 obtain⟨o,g,hc,d⟩:=id h;unfold pyNext;refine A_<|dN<|aZ (name:=Str.ofString "__next__") h.typeIs Ij<|aO Ij h.typeIs Qf ?_<|Uq _;rw[Builtin.«reversed.__next__»];refine A_<|dI (a:=(Value.ref c,[])) rfl<|A_<|cB g d (x:=.ref t) rfl<|A_<|cB g d (x:=rawInt<|-1) rfl ?_;refine(show wpAny _ _ (if(-1:Int)<0 then _ else _) _ _ s from ?_);rw[T_<|by decide];refine A_<|eA<|A_ ?_;have h1:(s.heap.update c<|Obj.mapFields λi=>i.set! 1<|rawInt<|-1).get? c=some (o.mapFields λi=>i.set! 1<|rawInt<|-1):=bD _ g<|dY<|bV d _;refine(show wpAny _ _ (setField (.ref c) 1 (rawInt<|-1)>>=λ_=>setField (.ref c) 0 .none) _ _ s from A_<|dE g d (by simp)<|dE h1 (bV d _) (by simp) ?_);refine A_<|show wpAny _ _ (newExc (.type "StopIteration") []>>=_) _ _ _ from A_ ?_;simp only[newExc,newTuple];refine A_ (aC (A_ (m:=firstArgMember _ _)<|dI (a:=Value.none) (by first|rfl|(simp only[firstArgMember];rfl))<|aC ?_<|by size_fits)<|by size_fits);simp only[raiseNew];refine A_<|h_<|show wpAny _ _ _ _ _ _ from ?_;rw[show A.in1.handled=none from l];refine A_<|C_<|jO<|show wpAny _ _ _ _ _ _ from ?_;refine A_<|cZ (T := "StopIteration") (b:=true) ⟨_,K_ _ rfl,rfl⟩ iT<|C_<|k _ ?_;exact λb n hb e=>D_ _<|D_ _<|((aN _ c _).2 b hb).trans<|((aN s.heap c _).2 b hb).trans e
def Z8{c t:lH}{i:Int}{Q:lE->lF->Prop}(b:Gi s.heap c t i)(h:Q (.ref c) s):qQ prog w A (pyIter<|.ref c) Q E s :=
 eM b.typeIs Ur (aO Ur b.typeIs Wx (C_ ⟨_,rfl,"reversed",_,b.typeIs,Ij.lookup,h⟩)<|Z7 _)
def Irv(K:lI)(a:lH)(n:Nat):It :=
 ⟨λi H=>∃b x,Ja K H a b/\b.length=n/\b.reverse[i]?=some x,λi H x c=>c=H/\∀b,Ja K H a b->b.reverse[i]?=some x,λi H=>∃b,Ja K H a b/\b.length=n/\n<=i⟩
def Oi{c:Type}{xs:oA c}{i:Nat}{x:c}(h:xs.reverse[i]?=some x):i<xs.length/\xs[xs.length-1-i]?=some x:=by
 have b:i<xs.length:=by have:=(E_.mp h).1;simpa using this
 rw[List.getElem?_reverse b]at h;exact⟨b,h⟩
def Z9{P:lJ}{w:lK}{K:lI}{tg:lL}(a g:lH)(be:a≠g)(n:Nat)(hn:(n:Int)<2^63):Turn P w K tg (Irv K a n) [g] g (λi h=>i<=n/\Gi h g a ((n:Int)-1-i)) where
 mem:=by simp
 obj:=λi h st b hb=>by
  have e:b=g:=by simpa using hb
  subst e;obtain⟨_,o,e,c,d⟩:=st;exact⟨o,e,λv z=>by rw[d]at z;cases z⟩
 keep:=λi h l st k=>⟨st.1,st.2.at λo e=>k g (by simp) o e⟩
 item:=by
  intro X C F G hc i R s O H E I m st D;subst C F G;obtain⟨W,x,hq,T,hx⟩:=D;obtain⟨V,S,p,hz⟩:=I.tuple hq;have ag:=S.length;obtain⟨hi,gj⟩:=Oi hx;obtain⟨u,hu,ru⟩:=S.get gj;obtain⟨J,L,U,r,M,y⟩:=m g (by simp);have B:(n:Int)-1-i=((n-1-i:Nat):Int):=by omega
  have j:=st.2;rw[B]at j;refine Qg j (show IsTup s.heap a V.toArray from p) (x:=u) (by rw[<- T];simpa using hu) be (by omega) λl t N sb=>?_;have Y:Inv X R O H {s with heap:=l,toks:=t}:=I.turned (t':=t) (λb o hb e=>(sb.2 b hb).trans e) J L r M y;have e2:((n-1-i:Nat):Int)-1=(n:Int)-1-((i+1:Nat):Int):=by omega
  rw[e2]at N;obtain⟨o,e,c,d⟩:=id N;exact⟨u,rfl,Pl (s:={s with heap:=l,toks:=t}) e c d (by decide) ⟨x,H,Y,ru,⟨rfl,λys hy=>by rw[I.tuple_inj hy hq];exact hx⟩,⟨by omega,N⟩,λb hb=>(m b hb).1⟩⟩
 done:=by
  intro X C F G hc i R s O H E I m st D;subst C F G;obtain⟨W,hq,T,hx⟩:=D;obtain⟨J,L,U,r,M,y⟩:=m g (by simp);have B:(n:Int)-1-i=-1:=by have:=st.1;omega
  have j:=st.2;rw[B]at j;refine Sl (I.ok.hd hc) j λl Z=>⟨rfl,?_⟩;exact I.turned (t':=s.toks) (λb o hb e=>Z b o hb e) J L r M y
 self:=λA i s Q E st q=>Z8 st.2 q
def AB{K:lI}{j:Hp}{a:lH}{xs:oA AV}{n:Nat}{m:M->Prop}(B:xs.length=n)(h:∀H d,Kp j H->Cn K d H->m d->∃b,Ja K H a b/\A4 K H xs b):ItOk K j (Irv K a n) xs.reverse m:=by
 refine⟨λi H d S c k t=>?_,λi H d v J x S c k e y=>?_,λH d S c k=>?_⟩;obtain⟨b,q,r⟩:=h H d S c k;have g:=r.length;have G:i<b.reverse.length:=by simp at t ⊢;omega
 exact⟨b,b.reverse[i],q,by omega,F_ G⟩
 obtain⟨b,q,r⟩:=h H d S c k;obtain⟨rfl,y⟩:=y;have C:=y b q;have g:=r.length;obtain⟨t,D⟩:=Oi e;obtain⟨u,z,I⟩:=r.get D;obtain⟨F,l⟩:=Oi C;rw[<- g]at l;rw[l]at z;cases z;exact⟨Kp.refl,c,I⟩;obtain⟨b,q,r⟩:=h H d S c k;exact⟨b,q,by rw[<- r.length];exact B,by rw[kC];omega⟩
def Qbc(t:AE):AI:=λg d R=>t g d λx b=>match x with
 |.D (.tuple c)=>R (c.map AV.D).reverse (λ_=>True) b
 |_=>False
def NJ(Z:Gl X "reversed") (hm:X.mg "reversed" = none) (hl:VE X a ta) (hs:starEach [a] X.env=[(false,eval a X.env)]:=by rfl):VI X tg (.Call (.Name "reversed" p) [a] [] pos) (Qbc ta):=by
 intro N s M H R I j;refine Ci j λτ y Y bn hc h hq=>?_;refine d_<|Hl I Z hm boot_reversed ?_;refine dM ?_ hs rfl;rw[hs];refine cX<|thn (hl N s M H (λv l=>∃i d,Kp H l/\Cn X.K d l/\RelA X.K l (.D<|.tuple i) v/\Y (i.map AV.D).reverse (λ_=>True) d) I ⟨τ,y,_,bn,hc,h,λx d v l C n t hx=>?_⟩) λu g jo=>dO ?_;split at hx;exact⟨_,d,C,n,t,hx⟩;exact hx.elim;obtain⟨xv,l,r,O,i,d,C,n,t,hx⟩:=jo;have W:items d (.D<|.tuple i)=some (i.map AV.D):=rfl;obtain⟨q,vs,rfl,hp,Q⟩:=B5 n t W;cases O;rcases hp with⟨z,_⟩|⟨_,hp⟩;exact absurd z (by simp[JA]);obtain⟨k,V,G,hz⟩:=r.tuple hp;have P:=V.length;have U:(k.length:Int)<2^63:=by
  have:sizeLine<2^62:=by decide
  omega
 refine He (show IsTup g.heap q k.toArray from G) (by rw[W_];omega) λJ=>?_;have L:q<g.heap.objs.size:=by obtain⟨_,T,_⟩:=G;exact S_ T
 have m:∀b o,g.heap.get? b=some o->(g.heap.push<|Qc q<|(k.toArray.size:Int)-1).get? b=some o:=λb o e=>D_ _ e;have F:Gi (g.heap.push<|Qc q<|(k.toArray.size:Int)-1) g.heap.objs.size q ((k.length:Int)-1-(0:Nat)):=⟨_,K_ _ rfl,rfl,by simp[Qc]⟩;refine Z8 F ?_;refine⟨g.heap.objs.size,[g.heap.objs.size],_,_,l,rfl,r.kept (t':=J) m,Z9 q _ (aB L) k.length U,⟨aG _,F⟩,λb hb=>?_,hq _ _ _ _ _ C n (AB ?_ λH y S c _=>?_) hx⟩;have e:b=g.heap.objs.size:=by simpa using hb
 subst e;exact r.fpOk (J_ _)<|r.hok.fresh<|J_ _;rw[<- P,<- Q.length];obtain⟨q2,ws,e,B,rw⟩:=B5 c (t.kp S)<|show items y (.D<|.tuple i)=some (i.map AV.D) from rfl;cases e;rcases B with⟨z,_⟩|⟨_,B⟩;exact absurd z (by simp[JA]);exact⟨ws,B,rw⟩
def NK:MO->Prop
 |.dk _=>True
 |.dt _=>True
 |_=>False
def AD(td ty tx:AE):AE:=λh i R=>td h i λx c=>match x with
 |.R a=>(∃m,c a=some m/\NK m)/\ty h c λy g=>tx h g λz b=>match y with
  |.D d=>opt (b a) λm=>opt (dget m d) λr=>R (r.getD z) b
  |_=>False
 |_=>False
def AF{K:lI}{i:M}{H:Hp}{a:lH}{m:MO}(hc:Cn K i H)(e:i a=some m)(h:NK m):YS H a:=by
 obtain⟨k,g,d⟩:=hc a m e;cases m with
 |dk b=>obtain⟨c,rfl,_⟩:=d;exact .inl ⟨c,.inl g⟩
 |dt b=>obtain⟨c,rfl,_⟩:=d;exact .inr ⟨c,.inl g⟩
 |lst j=>exact h.elim
 |dd b=>exact h.elim
def Ik(hu:X.A.units+1<cLine)(J:VE X o td)(he:VE X e ty)(M:VE X f tx)(m:M2 X o "get" ao e f ak:=by exact⟨rfl,rfl,rfl,rfl⟩):VE X (.Call (.Attribute o "get" ao) [e,f] [] ak) (AD td ty tx):=(Y4 hu J he M m).imp λU H Q b=>Ci b λn L R j hc h hq=>
 ⟨n,L,_,j,hc,h,λx q v W l B N hx=>by
  split at hx
  ·rename_i a;obtain⟨⟨Z,k,O⟩,hx⟩:=hx;cases N;refine⟨a,rfl,AF B k O,n,q,_,j.kp l,B,hx,λy c u T C c2 P hy=>⟨n,c,_,(j.kp l).kp C,c2,hy,λz S Y V D t G hz=>?_⟩⟩;split at hz
   ·obtain⟨m,F,hz⟩:=A5 hz;obtain⟨r,I,hz⟩:=A5 hz;obtain⟨d,g,i⟩:=Ks t F (Dk.kp D _ _ P) I;refine⟨d,g,hq _ _ _ _ ((l.trans C).trans D) t ?_ hz⟩;cases r with
    |none=>
     cases d with
     |none=>exact G
     |some _=>exact i.elim
    |some _=>
     cases d with
     |none=>exact i.elim
     |some _=>exact i
   exact hz.elim
  exact hx.elim⟩
end
end L2
namespace L2
open PySem
def E8(xs:oC Nat):Prop:=xs.toList.Pairwise (· < ·)
def E8.lt{xs:oC Nat}(h:E8 xs){i j:Nat}{d:Nat}(a:i<j)(hj:j<xs.size):xs.getD i d<xs.getD j d:=by have:=List.pairwise_iff_getElem.mp h i j (by simp;exact fL a hj) (by simpa using hj) a;simp only[Array.getElem_toList]at this;simp only[Array.getD,show i<xs.size from Nat.lt_trans a hj,hj,dif_pos];exact this
theorem Lg{xs:oC Nat}(h:E8 xs){j:Nat}:∀(f lo a:Nat),a-lo<=f->lo<=a->a<=xs.size->(∀i,i<lo->xs.getD i j<j)->(∀i,a<=i->i<xs.size->j<=xs.getD i j) ->
  SetTable.below.go xs j f lo a<=xs.size/\(∀i,i<SetTable.below.go xs j f lo a->xs.getD i j<j)/\∀i,SetTable.below.go xs j f lo a<=i->i<xs.size->j<=xs.getD i j
 | 0,lo,a,h1,h2,g,b,k=>by
  have e:lo=a:=by omega
  subst e;exact⟨g,b,k⟩
 |f+1,lo,a,h1,h2,g,b,k=>by
  rw[SetTable.below.go];by_cases c:lo<a;rw[T_ c];dsimp only;by_cases c2:xs.getD ((lo+a) / 2) j<j;rw[T_ c2];refine Lg h f _ _ (by omega) (by omega) g (λi m=>?_) k;by_cases e:i=(lo+a) / 2;rw[e];exact c2;have:=h.lt (d:=j) (show i<(lo+a) / 2 by omega) (show(lo+a) / 2<xs.size by omega);exact fL this c2;rw[M_ c2];refine Lg h f _ _ (by omega) (by omega) (by omega) b λi m l=>?_;by_cases e:i=(lo+a) / 2;rw[e];exact kS c2;have:=h.lt (d:=j) (show(lo+a) / 2<i by omega) l;omega;rw[M_ c];have e:lo=a:=by omega
  subst e;exact⟨g,b,k⟩
def E9{xs:oC Nat}(h:E8 xs)(j:Nat):SetTable.below xs j<=xs.size/\(∀i,i<SetTable.below xs j->xs.getD i j<j)/\∀i,SetTable.below xs j<=i->i<xs.size->j<=xs.getD i j :=
 Lg h xs.size 0 xs.size (iG _ _) (aG _) (J_ _) (λi a=>absurd a<|jX _) λi a b=>by omega
def Sm{xs:oC Nat}(h:E8 xs){k:Nat}(hk:k<xs.size):SetTable.below xs (xs[k]+1)=k+1:=by
 obtain⟨f,e,b⟩:=E9 h<|xs[k]+1;have g:∀i,(a:i<xs.size)->xs.getD i (xs[k]+1)=xs[i]:=λi a=>by simp[Array.getD,a]
 rcases kM (SetTable.below xs<|xs[k]+1) (k+1) with c|c|c;have:=b k (dS c) hk;rw[g k hk]at this;omega;exact c;have h1:k+1<xs.size:=V_ c f;have:=e (k+1) c;rw[g _ h1]at this;have h2:=h.lt (d:=0) (bG k) h1;simp only[Array.getD,hk,h1,dif_pos]at h2;have j:xs[k]<xs[k+1]:=h2;omega
def Sn{xs:oC Nat}(h:E8 xs):SetTable.below xs 0=0:=by obtain⟨c,a,b⟩:=E9 h 0;rcases Nat.eq_zero_or_pos (SetTable.below xs 0) with e|e;exact e;have:=a 0 e;omega
def Gj{a:Type}(xs:oC a)(p:Nat)(x:a)(hp:p<=xs.size):(SetTable.insertAt xs p x).toList=xs.toList.take p++x::xs.toList.drop p:=by rw[SetTable.toList_insertAt]
def Qh{xs:oC Nat}(h:E8 xs){j:Nat}(hj:xs[SetTable.below xs j]?≠some j):E8 (SetTable.insertAt xs (SetTable.below xs j) j):=by
 obtain⟨k,q,m⟩:=E9 h j;unfold E8;rw[Gj _ _ _ k];have ht:∀a∈xs.toList.take (SetTable.below xs j),a<j:=λa ha=>by
  obtain⟨i,f,e⟩:=eX ha;have h1:i<SetTable.below xs j:=by rw[bF]at f;omega
  have:=q i h1;simp only[Array.getD,show i<xs.size from Nat.lt_of_lt_of_le h1 k,dif_pos]at this;rw[<- e];simpa using this
 have l:∀a∈xs.toList.drop (SetTable.below xs j),j<a:=λa ha=>by
  obtain⟨i,f,e⟩:=eX ha;have h1:SetTable.below xs j+i<xs.size:=by rw[gY]at f;simp at f;omega
  have h2:=m _ (cU _ i) h1;simp only[Array.getD,h1,dif_pos]at h2;have r:a=xs[SetTable.below xs j+i]:=by rw[<- e];simp
  have t:a≠j:=by
   intro z;by_cases c:i=0;subst c;apply hj;rw[aP<|by omega];exact cV some<|r.symm.trans z;have g:SetTable.below xs j<xs.size:=by omega
   have n:=m _ (J_ _) g;simp only[Array.getD,g,dif_pos]at n;have o:=h.lt (d:=0) (show SetTable.below xs j<SetTable.below xs j+i by omega) h1;simp only[Array.getD,g,h1,dif_pos]at o;have p:xs[SetTable.below xs j]<xs[SetTable.below xs j+i]:=o;have u:j<=xs[SetTable.below xs j]:=n;omega
  have s:j<=xs[SetTable.below xs j+i]:=h2;omega
 refine List.pairwise_append.mpr ⟨h.sublist<|fK _ _,List.pairwise_cons.mpr ⟨l,h.sublist<|List.drop_sublist _ _⟩,λa ha b hb=>?_⟩;rcases Y_.mp hb with rfl|hb;exact ht a ha;have:=ht a ha;have:=l b hb;omega
structure TblOk(t:SetTable)(led:Bool):Prop where
 rise:E8 t.place
 dum:t.dummies=#[]
 led:t.led=led
def TblOk.plain{t:SetTable}{led:Bool}(h:TblOk t led)(b:Bool):TblOk {t with plain:=b} led:=⟨h.rise,h.dum,h.led⟩
def Qi(j:Nat):SetTable.has #[] j=false:=by unfold SetTable.has;simp
def So{t:SetTable}{led:Bool}(h:TblOk t led){j:Nat}(e:t.slot j=.empty):t.place[SetTable.below t.place j]?≠some j:=by unfold SetTable.slot at e;dsimp only at e;split at e;cases e;rename_i c;simpa using c
def TblOk.put{t:SetTable}{led:Bool}(h:TblOk t led){s:Nat}(hs:t.place[SetTable.below t.place s]?≠some s):TblOk (t.put s).1 led:=by refine⟨Qh h.rise hs,?_,h.led⟩;show(if SetTable.has t.dummies s then _ else t.dummies)=#[];rw[h.dum,Qi];rfl
theorem TblOk.laid{mask finger moves:Nat}{led plain:Bool}{hs:oC Int}{t:SetTable}{h:oC Nat}(e:SetTable.laid mask finger moves led plain hs=some (t,h)):TblOk t led:=by
 unfold SetTable.laid at e;cases c:SetTable.layClean mask hs with
 |none=>rw[c]at e;cases e
 |some f=>rw[c]at e;have g:=aX e;injection g with e1 _;subst e1;refine⟨?_,rfl,rfl⟩;unfold E8;show(List.map _ _).Pairwise _;rw[gU];refine List.Pairwise.filterMap _ (R:=(· < ·)) (λa l d b hb k i=>?_) iU;obtain⟨z,_,rfl⟩:=I_.mp hb;obtain⟨j,_,rfl⟩:=I_.mp i;exact d
def TblOk.fresh(led:Bool):TblOk (.fresh 0 0 led) led:=⟨List.Pairwise.nil,rfl,rfl⟩
section
variable {prog:lJ}{w:lK}{Kt:Type} [DecidableEq Kt]{cp:KeyKind prog w Kt}{A:lM}{E:lE->lF->Prop}{s:lF}{a:lH}{led:Bool}
end
def Il:plainId "set.update.loop" = true:=by decide +kernel
def Qj:entryFor table "set.update.loop" = some Builtin.«set.update.loop»:=kU<|by kernel_rfl
section
variable {prog:lJ}{w:lK}{Kt:Type} [DecidableEq Kt]{cp:KeyKind prog w Kt}{A:lM}{R:lV->lF->Prop}{sa it t:lH}{led:Bool}
end
section
variable {prog:lJ}{w:lK}{A:lM}{E:lE->lF->Prop}{s:lF}
def AH{M:Model}{self v:lE}{Q:Unit->lF->Prop}(a:s.TypeIs self "set") (q:Q () s):wpAny M A (checkBuiltinCall "set.__init__" ⟨[self,v],[]⟩) Q E s:=by
 simp only[checkBuiltinCall,kind_set_init,split_set_init,sig_set_init];refine A_<|cZ a sub_set_self<|show wpAny _ _ _ _ _ _ from ?_;rw[show(!true)=false from rfl,M_ Q_];unfold Bind.checkArgs;dsimp only;refine A_ (m:=Bind.printed "set" true _ _) (PyProof.Rows.printed_name (by decide)<|A_ (m:=Bind.printed "*" false _ _)<|PyProof.Rows.printed_star (self:=self) rfl a λb=>?_);have e:(if(Manifest.Receiver.self==Manifest.Receiver.none)=true then [self,v].length else [self,v].length-1)=1:=rfl;rw[e];have hc:Bind.check ⟨.positional,"set","*",.self,[⟨"iterable",.posOnly,false⟩]⟩ "set" b 1 []=pure ():=by simp +decide [Bind.check,Bind.checkCount,Bind.isPositional]
 simp only[List.map_nil];rw[hc];exact C_ q
def GL(v:lE):checkTypeCall "set" ⟨[v],[]⟩=pure ():=by kernel_rfl
def NL(v:lE):checkBuiltinCall "set.__new__" ⟨[.type "set",v],[]⟩=pure ():=by kernel_rfl
def Hi(w:lK):Bool:=!(w.params.followText "set-order")
def Co(w:lK):lO:={cls:=.type "set",dict:=none,data:=.set #[] 0 (.fresh 0 0<|Hi w)}
def GM{v:lE}{Q1:lE->lF->Prop}(h:Q1 (.ref s.heap.objs.size) {s with heap:=s.heap.push<|Co w}) :
  codeAny (model prog w) A (.call (.builtin "set.__new__") ⟨[.type "set",v],[]⟩) (wants Q1 E) s:=by
 refine codeAny_of_tree<|show wpAny _ A.in1 (do checkBuiltinCall "set.__new__" ⟨[.type "set",v],[]⟩;again<|.builtin "set.__new__" ⟨[.type "set",v],[]⟩) _ _ s from ?_;refine A_<|dI (NL v)<|C_ ⟨eZ F.plain_set_new _,eT F.entry_set_new<|show wpAny _ _ _ _ _ _ from ?_⟩;rw[dJ F.plain_set_new _];unfold Builtin.«set.__new__» Builtin.Frozenset.newClass;have b:=sub_set_self;obtain⟨hp,g,d,a,os⟩:=s;dsimp only
 wp_walk
 refine kW<|C_<|show wpAny _ _ _ _ _ _ from ?_;dsimp only;simp only[newObj];exact A_<|wpAny_alloc<|C_<|C_ h
def Sq{v:lE}{Q:lE->lF->Prop}(h:wpAny (model prog w) A.in1.in1 (Builtin.Frozenset.updateFrom "set.__init__" s.heap.objs.size v) (λ_ a=>Q (.ref s.heap.objs.size) a) E {s with heap:=s.heap.push<|Co w}) :
  wpAny (model prog w) A (call (.type "set") [v]) Q E s:=by
 obtain⟨c,u,f⟩:=F.called_set.mro;have x:=F.called_set.made;have l:=F.called_set.sub;refine wpAny_call<|codeAny_of_tree<|show wpAny _ _ (callAny (.type "set") _) _ _ _ from ?_;refine C_ ⟨Code.quiet_builtin _<|by decide +kernel,eT F.entry_type_call ?_⟩;rw[Around.under_plain (weight_type_call_type "set" [v] []) rfl];have o:=F.called_set.notType;have t:=F.called_set.canCreate;have m:=GL v
 repeat any_goals first|assumption|wp_step
 refine kF (GM (E:=E) (Q1:=λj i=>j=.ref s.heap.objs.size/\i={s with heap:=s.heap.push<|Co w}) ⟨rfl,rfl⟩) λr i hr=>?_;cases r with
 |error e=>exact hr
 |ok fl=>
  cases fl with
  |ret j=>
   obtain⟨rfl,rfl⟩:=hr;have g:(s.heap.push<|Co w).get? s.heap.objs.size=some (Co w):=K_ _ rfl;have T:Shared.TypeIs {s with heap:=s.heap.push<|Co w} (.ref s.heap.objs.size) "set" := ⟨_,g,rfl⟩;have p:=F.called_set.init.lookup;have y:=F.called_set.init.bind<|.ref s.heap.objs.size
   repeat any_goals first|assumption|wp_step
   refine kF (codeAny_call_builtin (R:=wants (λr a=>r=.none/\Q (.ref s.heap.objs.size) a) E) F.called_set.init.plain F.entry_set_init<|AH T ?_) λk a d=>?_
   ·unfold Builtin.«set.__init__» noKeywords;generalize n:Builtin.Frozenset.updateFrom=U at h ⊢;unfold Co at g
    wp_walk
    exact cD h (λ_ _ q=>C_ ⟨rfl,q⟩) λ_ _ e=>e
   ·cases k with
    |error e=>exact d
    |ok b=>
     cases b with
     |ret z=>
      obtain⟨rfl,q⟩:=d
      repeat any_goals first|assumption|wp_step
     |_=>exact d.elim
  |_=>exact hr.elim
def Qk:isSubtype (.type "tuple") (.type "set")=pure false:=by rw[dQ];kernel_rfl
def Ql:isSubtype (.type "tuple") (.type "frozenset")=pure false:=by rw[dQ];kernel_rfl
end
section
variable {prog:lJ}{w:lK}{Kt:Type} [DecidableEq Kt]{cp:KeyKind prog w Kt}{A:lM}{E:lE->lF->Prop}{s:lF}{sa t:lH}{led:Bool}
end
def Qm:Manifest.owners.lookup (String.ofList ['r','o','t','a','r','e','t','i','_','t','e','s'].reverse)=some Manifest.sig_set_iterator:=by kernel_rfl
def El:Slot "set_iterator" "__next__" "set_iterator.__next__" := .of (owner := "set_iterator") (n := "__next__") (by rw[gM,dZ];kernel_rfl) (by decide +kernel) (by decide +kernel) (by decide +kernel) (.inl<|by decide +kernel)<|by rw[dQ];kernel_rfl
def Qn:entryFor table "set_iterator.__next__" = some Builtin.«set_iterator.__next__»:=kU<|by kernel_rfl
def Us(a:lE):argsOk "set_iterator.__next__" ⟨[a],[]⟩:=by rw[argsOk,kP (id := "set_iterator.__next__") (n:=['_','_','t','x','e','n','_','_']) (o:=['r','o','t','a','r','e','t','i','_','t','e','s']) (by kernel_rfl) Qm];kernel_rfl
def Ut:Slot "set_iterator" "__iter__" "set_iterator.__iter__" := .of (owner := "set_iterator") (n := "__iter__") (by rw[gM,dZ];kernel_rfl) (by decide +kernel) (by decide +kernel) (by decide +kernel) (.inl<|by decide +kernel)<|by rw[dQ];kernel_rfl
def AJ(a:lE):argsOk "set_iterator.__iter__" ⟨[a],[]⟩:=by rw[argsOk,kP (id := "set_iterator.__iter__") (n:=['_','_','r','e','t','i','_','_']) (o:=['r','o','t','a','r','e','t','i','_','t','e','s']) (by kernel_rfl) Qm];kernel_rfl
def W0:entryFor table "set_iterator.__iter__" = some Builtin.«dict_keyiterator.__iter__»:=entryFor_alias (id' := "dict_keyiterator.__iter__") (by kernel_rfl) (by first|rfl|decide +kernel) (by decide +kernel)<|by kernel_rfl
def Sr:entryFor table "set.__iter__" = some Builtin.«frozenset.__iter__»:=entryFor_alias (id' := "frozenset.__iter__") (by kernel_rfl) (by first|rfl|decide +kernel) (by decide +kernel)<|by kernel_rfl
section
variable {prog:lJ}{w:lK}{A:lM}{E:lE->lF->Prop}{s:lF}
def Ss{M:Model}{a:Source}{n:Nat}{Q:Nat->lF->Prop}(b:n≠0)(h:∀i c,i<n->Q i {s with drawn:=c}):wpAny M A (choose a n) Q E s:=λΓ p _=>by unfold choose;rw[Sem.wp_choose];refine⟨b,?_⟩;rw[Sem.wp_pure];exact h _ _<|Nat.mod_lt _<|gH b
theorem Jn{a:Type}:∀{xs:oA a} {i:Nat} {x:a},xs[i]?=some x->(x::xs.eraseIdx i).Perm xs
 |_::_,0,_,h=>by simp at h;subst h;exact List.Perm.refl _
 |y::b,i+1,x,h=>by have:=Jn (xs:=b) (i:=i) (x:=x) (by simpa using h);exact(List.Perm.swap y x _).trans<|this.cons y
theorem Lh{M:Model}{c:Type}:∀(n:Nat) (xs:oA c) (s:lF) (Q:oA c->lF->Prop),xs.length=n->(∀b f,b.Perm xs->Q b {s with drawn:=f})->wpAny M A (drawOrder n xs) Q E s
 | 0,xs,s,Q,a,h=>by have:xs=[]:=dA a;subst this;exact C_ (h [] s.drawn<|List.Perm.refl _)
 |n+1,[],s,Q,a,h=>by cases a
 |n+1,x::xs,s,Q,a,h=>by unfold drawOrder;refine A_ (Ss (by simp) λi j d=>?_);have e:(x::xs)[i]?=some (x::xs)[i]:=F_ d;rw[e];refine A_<|Lh n _ _ _ ?_ λb g hp=>C_<|h _ g<|(hp.cons _).trans<|Jn e;rw[List.length_eraseIdx_of_lt d];simp at a ⊢;exact a
theorem Uu{c:Type}(next:Nat->Nat):∀(n k:Nat) (left:oA c) (a:oC c),left.length=n->(pickOrder.go next n k left a).toList.Perm (a.toList++left)
 | 0,k,left,a,b=>by have:left=[]:=dA b;subst this;unfold pickOrder.go;simp
 |n+1,k,left,a,b=>by
  unfold pickOrder.go;have d:next k%left.length<left.length:=Nat.mod_lt _<|by omega
  have e:left[next k%left.length]?=some left[next k%left.length]:=F_ d;rw[e];dsimp only;refine(Uu next n (k+1) _ _ (by rw[List.length_eraseIdx_of_lt d];omega)).trans ?_;rw[Array.toList_push,eL];exact(Jn e).append_left _
def W7{a:Type}(next:Nat->Nat)(xs:oC a):(pickOrder next xs).toList.Perm xs.toList:=by unfold pickOrder;simpa using Uu next xs.size 0 xs.toList #[] (by simp)
def Ee(h:lN)(a:lH)(es:oC<|Int×lE)(ep:Nat)(t:SetTable):Prop:=∃o,h.get? a=some o/\o.cls=.type "set" /\ o.data=.set es ep t/\t.fits es.size=true
def Ee.typeIs{a:lH}{es:oC<|Int×lE}{ep:Nat}{t:SetTable}(x:Ee s.heap a es ep t):s.TypeIs (.ref a) "set" := by obtain⟨o,b,hc,_⟩:=x;exact⟨o,b,hc⟩
def Ee.at{h h':lN}{a:lH}{es:oC<|Int×lE}{ep:Nat}{t:SetTable}(x:Ee h a es ep t)(e:∀o,h.get? a=some o->h'.get? a=some o):Ee h' a es ep t:=by obtain⟨o,b,r⟩:=x;exact⟨o,e _ b,r⟩
def Gk(h:lN)(b a:lH)(first:lE)(i n ep:Nat):Prop:=∃o,h.get? b=some o/\o.cls=.type "set_iterator" /\ o.data=.fields #[first,rawInt i,.ref a,rawInt n,rawInt ep]
def Gk.typeIs{b a:lH}{first:lE}{i n ep:Nat}(x:Gk s.heap b a first i n ep):s.TypeIs (.ref b) "set_iterator" := by obtain⟨o,c,hc,_⟩:=x;exact⟨o,c,hc⟩
def Gk.at{h h':lN}{b a:lH}{first:lE}{i n ep:Nat}(x:Gk h b a first i n ep)(e:∀o,h.get? b=some o->h'.get? b=some o):Gk h' b a first i n ep:=by obtain⟨o,c,r⟩:=x;exact⟨o,e _ c,r⟩
def Li(pl:oC Nat):Nat->Nat
 | 0=>0
 |i+1=>pl.getD i 0+1
inductive Mode (w:lK) (a:lH) (es:oC<|Int×lE) (ep:Nat) (t:SetTable) (h:lN):Nat->lE->oA lE->Prop
 |text {i:Nat} (hb:w.params.followText "set-order" = true):Mode w a es ep t h i (rawInt 0) ((pickOrder (w.params.setOrder a ep) es).toList.map (·.2))
 |table {i:Nat} (hb:w.params.followText "set-order" = false) (hd:(!t.plain&&decide (es.size>1))=false):Mode w a es ep t h i (rawInt<|Li t.place i) (es.toList.map (·.2))
 |drawn {i:Nat} {pt:lH} {ps:oA Nat} (hb:w.params.followText "set-order" = false) (hp:ps.Perm<|List.range es.size) (ht:h.IsTuple pt (ps.map λ(j:Nat)=>rawInt j).toArray):Mode w a es ep t h i (.ref pt)<|ps.map λj=>(es.getD j (0,.none)).2
def W8{a:Type}(xs:oC a)(d:a):(List.range xs.size).map (λj=>xs.getD j d)=xs.toList:=by refine List.ext_getElem (by simp) λi h1 h2=>?_;simp at h1 h2 ⊢;simp[h1]
def Mode.perm{a:lH}{es:oC<|Int×lE}{ep:Nat}{t:SetTable}{h:lN}{i:Nat}{first:lE}{ord:oA lE}(m:Mode w a es ep t h i first ord):ord.Perm (es.toList.map (·.2)):=by
 cases m with
 |text hb=>exact(W7 _ _).map _
 |table hb d=>exact List.Perm.refl _
 |@drawn c b hb hp ht=>have:=hp.map λj=>(es.getD j (0,Value.none)).2;refine this.trans<|List.Perm.of_eq ?_;rw[<- W8 es (0,Value.none),aE];rfl
def G5{Q:Bool->lF->Prop}(h:Q (w.params.followText "set-order") s):qQ prog w A setsByText Q E s:=by unfold setsByText;exact A_<|kW<|C_ h
def Su{a:lH}{es:oC<|Int×lE}{ep:Nat}{t:SetTable}{Q:lE->lF->Prop}(l:Ee s.heap a es ep t)(hz:es.size<=1000000)
  (h:∀k j p first ord,s.heap.objs.size<=k->(∀b o,s.heap.get? b=some o->j.get? b=some o)->Gk j k a first 0 es.size ep->Mode w a es ep t j 0 first ord->(∀c,first=.ref c->s.heap.objs.size<=c/\c≠k)->Q (.ref k) {s with heap:=j,drawn:=p}) :
  qQ prog w A (pyIter<|.ref a) Q E s:=by
 obtain⟨o,g,hc,f,d⟩:=id l;refine eM l.typeIs F.slot_set_iter<|aO F.slot_set_iter l.typeIs Sr ?_<|F.args_set_iter_1 _;unfold Builtin.«frozenset.__iter__» Builtin.Frozenset.sizeOf setEntries setDrawn setEpoch;refine(show wpAny _ _ (_>>=_) _ _ _ from A_<|show wpAny _ _ (pure a) _ _ _ from C_<|A_<|A_<|A_<|bK g f d<|C_<|C_ ?_);refine A_<|A_<|bK g f d<|A_<|G5<|C_ ?_;cases hb:w.params.followText "set-order" with
 |true=>refine(show wpAny _ _ (if(!true&&_)=true then _ else _) _ _ _ from ?_);rw[Bool.not_true,Bool.false_and,M_ Q_];refine A_<|C_<|A_<|A_<|bK g f d<|C_<|A_<|aC<|C_ ⟨_,rfl,"set_iterator",_,⟨_,K_ _ rfl,rfl⟩,El.lookup,?_⟩;exact h _ _ s.drawn _ _ (J_ _) (λb o e=>D_ _ e) ⟨_,K_ _ rfl,rfl,rfl⟩ (.text hb) λc e=>by cases e
 |false=>
  cases jv:(!t.plain&&decide (es.size>1)) with
  |false=>refine(show wpAny _ _ (if(!false&&(!t.plain&&decide (es.size>1)))=true then _ else _) _ _ _ from ?_);rw[jv,Bool.not_false,Bool.true_and,M_ Q_];refine A_<|C_<|A_<|A_<|bK g f d<|C_<|A_<|aC<|C_ ⟨_,rfl,"set_iterator",_,⟨_,K_ _ rfl,rfl⟩,El.lookup,?_⟩;exact h _ _ s.drawn _ _ (J_ _) (λb o e=>D_ _ e) ⟨_,K_ _ rfl,rfl,rfl⟩ (.table hb jv) λc e=>by cases e
  |true=>
   refine(show wpAny _ _ (if(!false&&(!t.plain&&decide (es.size>1)))=true then _ else _) _ _ _ from ?_);rw[jv,Bool.not_false,Bool.true_and,T_ rfl];refine A_ (Lh _ _ _ _ (by simp) λn q hp=>?_);refine A_ (m:=newTuple _)<|show wpAny _ _ _ _ _ _ from ?_;simp only[newTuple];have u:n.length<=1000000:=by rw[hp.length_eq];simpa using hz
   refine aC ?_ (by size_fits);have r:=D_ {cls:=Value.type "tuple",data:=Data.seq (List.map (λ(i:Nat)=>rawInt ↑i) n).toArray} g;refine A_<|A_<|bK r f d<|C_<|A_<|aC<|C_ ⟨_,rfl,"set_iterator",_,⟨_,K_ _ rfl,rfl⟩,El.lookup,?_⟩;refine h _ _ q _ _ (by rw[cY];exact dW _) (λb o e=>D_ _<|D_ _ e) ⟨_,K_ _ rfl,rfl,rfl⟩ (.drawn hb hp ⟨_,D_ _<|K_ _ rfl,rfl,0,rfl⟩) λc e=>?_;cases e;exact⟨J_ _,aB<|by rw[cY];exact bG _⟩
def Sv{t:SetTable}(hr:E8 t.place){i:Nat}(a:i<=t.place.size):SetTable.below t.place (Li t.place i)=i:=by
 cases i with
 |zero=>exact Sn hr
 |succ i=>have:=Sm hr (k:=i)<|Nat.lt_of_succ_le a;show SetTable.below t.place (t.place.getD i 0+1)=i+1;rw[show t.place.getD i 0=t.place[i] by simp[show i<t.place.size from Nat.lt_of_succ_le a]];exact this
def Nj{a:lH}{es:oC<|Int×lE}{ep slot i:Nat}{t:SetTable}{Q:oB (lE×Nat)->lF->Prop}(f:Ee s.heap a es ep t)(hb:w.params.followText "set-order" = true) (h:Q (((pickOrder (w.params.setOrder a ep) es)[i]?).map λe=>(e.2,slot)) s) :
  qQ prog w A (setNext a slot i ep) Q E s:=by
 obtain⟨g,b,_,d,c⟩:=f;unfold setNext;refine A_<|bK b d c<|A_<|G5<|show wpAny _ _ (if _=true then _ else _) _ _ _ from ?_;rw[T_ hb];refine(show wpAny _ _ (if(ep != ep)=true then _ else _) _ _ _ from ?_);rw[M_<|by simp];unfold setWalk;refine A_<|A_<|bK b d c<|A_<|G5<|show wpAny _ _ (if _=true then _ else _) _ _ _ from ?_;rw[T_ hb];exact A_<|kW<|C_<|C_ h
def Lj{a:lH}{es:oC<|Int×lE}{ep i g:Nat}{t:SetTable}{Q:oB (lE×Nat)->lF->Prop}(k:Ee s.heap a es ep t)(d:TblOk t<|Hi w)(hb:w.params.followText "set-order" = false) (e:(!t.plain&&decide (es.size>1))=false) (n:i<=es.size)
  (h:Q (match es[i]?,t.place[i]? with|some (_,x),some j=>some (x,j+1)|_,_=>none) s):qQ prog w A (setNext a (Li t.place i) g ep) Q E s:=by
 obtain⟨m,c,_,f,b⟩:=k;have l:t.place.size=es.size:=by simp[SetTable.fits]at b;exact b.1
 unfold setNext;refine A_<|bK c f b<|A_<|G5<|show wpAny _ _ (if _=true then _ else _) _ _ _ from ?_;rw[M_<|by rw[hb];exact Q_];refine(show wpAny _ _ (if(!t.plain&&decide (es.size>1))=true then _ else _) _ _ _ from ?_);rw[e,M_ Q_];refine A_<|show wpAny _ _ (if(!t.led && !es.isEmpty)=true then _ else _) _ _ _ from ?_;rw[M_<|by rw[d.led,Hi,hb];simp];refine C_<|show wpAny _ _ (pure _) _ _ _ from C_ ?_;rw[Sv d.rise<|by omega];exact h
def Dx{a:lH}{o:lO}{e:oC lE}{i:Nat}{x:lE}{Q:Unit->lF->Prop}(f:s.heap.get? a=some o)(d:o.data=.fields e)(g:i<e.size)
  (h:∀c b,c.get? a=some b->b.cls=o.cls->b.data=.fields (e.setIfInBounds i x)->Heap.SameBut a s.heap c->Q () {s with heap:=c}):qQ prog w A (setField (.ref a) i x) Q E s :=
 dE f d g (h _ _ (bD _ f<|dY<|bV d _) (gS ..) (bV d _)<|aN ..)
def AK{d a:lH}{es:oC<|Int×lE}{ep:Nat}{t:SetTable}{first x:lE}{i:Nat}{ord:oA lE}{Q:oB lE->lF->Prop}(C:Ee s.heap a es ep t)(hT:TblOk t<|Hi w)(M:Gk s.heap d a first i es.size ep)(hM:Mode w a es ep t s.heap i first ord)(be:a≠d)(Z:∀g,first=.ref g->g≠d)(hx:ord[i]?=some x) (I:∀b B,Gk b d a B (i+1) es.size ep->Mode w a es ep t b (i+1) B ord->(∀g,B=.ref g->first=.ref g)->Heap.SameBut d s.heap b->Q (some x) {s with heap:=b}) :
  qQ prog w A (pyNext<|.ref d) Q E s:=by
 obtain⟨o,L,hc,O⟩:=id M;obtain⟨oa,m,_,V,p⟩:=id C;have P:t.place.size=es.size:=by simp[SetTable.fits]at p;exact p.1
 unfold pyNext;refine A_<|dN<|aZ (name:=Str.ofString "__next__") M.typeIs El<|aO El M.typeIs Qn ?_<|Us _;unfold Builtin.«set_iterator.__next__»;refine(show wpAny _ _ (_>>=_) _ _ _ from A_<|show wpAny _ _ (pure (Value.ref d,[])) _ _ _ from C_<|show wpAny _ _ (fieldsOf (.ref d)>>=_) _ _ _ from A_<|dF L O<|show wpAny _ _ (setEntries a>>=_) _ _ _ from A_ ?_);refine(show wpAny _ _ (setState a>>=_) _ _ _ from A_<|bK m V p<|C_<|show wpAny _ _ (if((es.size:Int) != (es.size:Int))=true then _ else _) _ _ _ from ?_);rw[M_<|by simp];have l:∀(v:PySem.Fin->lF->Prop) (U:lE->lF->Prop) (nx:Nat),(∀b,Gk b d a (rawInt nx) (i+1) es.size ep->Heap.SameBut d s.heap b->v (.done<|.ret x) {s with heap:=b}) ->
   qQ prog w A.in1 (setField (.ref d) 0 (rawInt (nx:Nat))>>=λ_=>setField (.ref d) 1 (rawInt<|(i:Int)+1)>>=λ_=>ret x) v U s:=λv U nx q=>by
  refine A_ (Dx L O (by simp) λh1 T h N F n=>A_<|Dx (s:={s with heap:=h1}) h F (by simp) λh2 X H c2 Y b2=>C_<|q h2 ⟨X,H,c2.trans<|N.trans hc,?_⟩<|n.trans b2);rw[Y];simp[rawInt]
 cases hM with
 |text hb=>
  refine(show wpAny _ _ (setNext a 0 i ep>>=_) _ _ _ from A_<|Nj C hb ?_);obtain⟨e,he,rfl⟩:∃e,(pickOrder (w.params.setOrder a ep) es)[i]?=some e/\e.2=x:=by rw[G_,I_]at hx;obtain⟨e,he,r⟩:=hx;exact⟨e,by rw[<- Z_];exact he,r⟩
  rw[he];exact l _ _ 0 λb G D=>⟨_,rfl,C_<|I b _ G (.text hb) (λ_ z=>z) D⟩
 |table hb W=>
  have k:i<es.size:=by rw[G_]at hx;rcases cL i es.size with c|c;exact c;simp[List.getElem?_eq_none,c]at hx
  refine(show wpAny _ _ (setNext a (Li t.place i) i ep>>=_) _ _ _ from A_<|Lj C hT hb W (bR k) ?_);have he:es[i]?=some es[i]:=aP k;have hp:t.place[i]?=some (t.place.getD i 0):=by simp[P,k]
  have R:es[i].2=x:=by rw[G_,Z_,he]at hx;exact aX hx
  rw[he,hp];dsimp only;rw[R];exact l _ _ (t.place.getD i 0+1) λb G D=>⟨_,rfl,C_<|I b _ G (.table (i:=i+1) hb W) (λ_ z=>by cases z) D⟩
 |@drawn g f hb hp ht=>
  have k:i<f.length:=by rcases cL i f.length with c|c;exact c;rw[fD<|by simpa using c]at hx;cases hx
  have h:f[i]?=some f[i]:=F_ k;have S:f[i]<es.size:=by simpa using hp.mem_iff.mp (e_ k)
  obtain⟨y,hy,R⟩:∃y,es[f[i]]?=some y/\y.2=x:=by rw[G_,h]at hx;have:=aX hx;exact⟨es[f[i]],aP S,by simpa [S] using this⟩
  obtain⟨ot,J,_,nt,u⟩:=id ht;refine(show wpAny _ _ (seqItems? (.ref g)>>=_) _ _ _ from A_<|eI J u<|show wpAny _ _ _ _ _ _ from ?_);dsimp only;have H:((f.map λ(j:Nat)=>rawInt (j:Int)).toArray)[i]?=some (rawInt (f[i]:Int)):=by simp[h]
  rw[fO,H];refine(show wpAny _ _ (setNextDrawn a f[i] ep>>=_) _ _ _ from A_ ?_);unfold setNextDrawn;refine A_<|bK m V p<|show wpAny _ _ (if(ep != ep)=true then _ else _) _ _ _ from ?_;rw[M_<|by simp,hy];refine C_ ?_;rw[R];refine A_ (Dx L O (by simp) λh1 T h N F n=>C_ ⟨_,rfl,C_<|I h1 (.ref g) ⟨T,h,N.trans hc,?_⟩ (.drawn hb hp<|ht.at λo e=>(n.2 g<|Z g rfl).trans e) (λ_ z=>z) n⟩);rw[F];simp[rawInt]
def GN{c a:lH}{es:oC<|Int×lE}{ep:Nat}{t:SetTable}{first:lE}{ord:oA lE}{Q:oB lE->lF->Prop}(L:A.handled=none)(l:Ee s.heap a es ep t)(R:TblOk t<|Hi w)(u:Gk s.heap c a first es.size es.size ep)(F:Mode w a es ep t s.heap es.size first ord) (H:∀h',Heap.ExtBut c s.heap h'->Q none {s with heap:=h'}):qQ prog w A (pyNext<|.ref c) Q E s:=by
 obtain⟨o,g,hc,h⟩:=id u;obtain⟨Z,p,_,I,v⟩:=id l;have S:t.place.size=es.size:=by simp[SetTable.fits]at v;exact v.1
 have n:ord.length=es.size:=by rw[F.perm.length_eq];simp
 unfold pyNext;refine A_<|dN<|aZ (name:=Str.ofString "__next__") u.typeIs El<|aO El u.typeIs Qn ?_<|Us _;unfold Builtin.«set_iterator.__next__»;refine(show wpAny _ _ (_>>=_) _ _ _ from A_<|show wpAny _ _ (pure (Value.ref c,[])) _ _ _ from C_<|show wpAny _ _ (fieldsOf (.ref c)>>=_) _ _ _ from A_<|dF g h<|show wpAny _ _ (setEntries a>>=_) _ _ _ from A_ ?_);refine(show wpAny _ _ (setState a>>=_) _ _ _ from A_<|bK p I v<|C_<|show wpAny _ _ (if((es.size:Int) != (es.size:Int))=true then _ else _) _ _ _ from ?_);rw[M_<|by simp];have d:∀(h1:lN) (C:PySem.Fin->lF->Prop) (j:lE->lF->Prop) ,(∀e h',Heap.ExtBut c h1 h'->Shared.TypeIs {s with heap:=h'} e "StopIteration" -> j e {s with heap:=h'}) ->
   qQ prog w A.in1 (newExc (.type "StopIteration") []>>=λe=>raiseNew e) C j {s with heap:=h1}:=λh1 C j q=>by
  refine A_ ?_;simp only[newExc,newTuple];refine A_ (aC (A_ (m:=firstArgMember _ _)<|dI (a:=Value.none) (by first|rfl|(simp only[firstArgMember];rfl))<|aC ?_<|by size_fits)<|by size_fits);simp only[raiseNew];refine A_<|h_ ?_;rw[show A.in1.handled=none from L];have O:Heap.ExtBut c h1 h1:=λb o hb e=>e;refine A_<|C_<|jO ?_;exact q _ _ ((O.push _).push _) ⟨_,K_ _ rfl,rfl⟩
 have y:∀(h1:lN) (e:lE) (h':lN),Heap.ExtBut c s.heap h1->Heap.ExtBut c h1 h'->Shared.TypeIs {s with heap:=h'} e "StopIteration" -> qQ prog w A (isInstance e (.type "StopIteration")>>=λb=>if b=true then pure none else throw e) Q E {s with heap:=h'}:=λh1 e h' M J T=>by refine A_<|cZ (b:=true) T iT ?_;exact C_<|H h' λb o hb e=>J b o hb<|M b o hb e
 cases F with
 |text hb=>refine(show wpAny _ _ (setNext a 0 es.size ep>>=_) _ _ _ from A_<|Nj l hb ?_);rw[B_,aT]at n;rw[cN<|fM n];exact A_ (Dx g h (by simp) λh1 B r D z f=>d h1 _ _ λe h' x T=>y h1 e h' f.extBut x T)
 |table hb P=>refine(show wpAny _ _ (setNext a (Li t.place es.size) es.size ep>>=_) _ _ _ from A_<|Lj l R hb P (J_ _) ?_);rw[cN<|J_ _];exact A_ (Dx g h (by simp) λh1 B r D z f=>d h1 _ _ λe h' x T=>y h1 e h' f.extBut x T)
 |@drawn G Y hb hp ht=>obtain⟨V,k,_,X,i⟩:=id ht;refine(show wpAny _ _ (seqItems? (.ref G)>>=_) _ _ _ from A_<|eI k i<|show wpAny _ _ _ _ _ _ from ?_);dsimp only;rw[fO,cN<|by simpa using fM (by simpa using n)];exact A_<|Dx g h (by simp) λh1 B r D z f=>A_<|Dx (s:={s with heap:=h1}) r z (by simp) λh2 U W c2 d2 N=>d h2 _ _ λe h' x T=>y h2 e h' (f.trans N).extBut x T
end
end L2
namespace L2
open PySem PySem.Spec PyProof.Rows PySem.W
section
variable {prog:lJ}{w:lK}{A:lM}{E:lE->lF->Prop}{s:lF}
theorem Mode.at{a:lH}{es:oC<|Int×lE}{ep:Nat}{t:SetTable}{h h':lN}{i:Nat}{first:lE}{ord:oA lE}(m:Mode w a es ep t h i first ord)(hk:∀b,first=.ref b->∀o,h.get? b=some o->h'.get? b=some o):Mode w a es ep t h' i first ord:=by
 cases m with
 |text hb=>exact .text hb
 |table hb c=>exact .table hb c
 |@drawn b d hb hp ht=>exact .drawn hb hp<|ht.at λo e=>hk b rfl o e
def W9(y:A.handled=none){f a:lH}{es:oC<|Int×lE}{ep:Nat}{t:SetTable}{ord:oA lE}(pts:oA lH)(n:TblOk t<|Hi w)(p:a≠f)(C:f∉pts)(D:ord.length=es.size) :
  Walks prog w A f (f::a::pts) [f] es.size (λi v=>ord[i]?=some v) (λi h=>Ee h a es ep t/\∃first,Gk h f a first i es.size ep/\Mode w a es ep t h i first ord/\∀c,first=.ref c->c∈pts) where
 sub:=λb hb=>by simp at hb;simp[hb]
 frame:=λi h l st hk=>by obtain⟨g,first,d,j,hp⟩:=st;exact⟨g.at λo e=>hk a (by simp) o e,first,d.at λo e=>hk f (by simp) o e,j.at λc z o e=>hk c (by simp[hp c z]) o e,hp⟩
 item:=λi s Q E F st k=>by obtain⟨g,first,d,j,hp⟩:=st;refine AK g n d j p (λc z q=>C<|q ▸ hp c z) (x:=ord[i]'(by omega)) (F_ _) λl u r m hr hb=>?_;exact k _ l s.toks (F_ _) ⟨g.at λo e=>(hb.2 a p).trans e,u,r,m,λc z=>hp c<|hr c z⟩ λb o B e=>hb.extBut b o (λz=>B<|by simp[z]) e
 done:=λs Q E st k=>by obtain⟨g,first,d,j,hp⟩:=st;exact GN y g n d j λl he=>k l s.toks λb o hb e=>he b o (λz=>hb<|by simp[z]) e
 self:=λi s Q E st k=>by obtain⟨g,first,d,j,hp⟩:=st;refine eM d.typeIs Ut<|aO Ut d.typeIs W0 (show wpAny _ _ (ret<|.ref f) _ _ s from ?_)<|AJ _;exact C_ ⟨_,rfl,"set_iterator",_,d.typeIs,El.lookup,k⟩
def AL{a:lH}{Q:Bool->lF->Prop}(d:s.TypeIs (.ref a) "set") (h:Q false s):qQ prog w A (Builtin.List.listLengthHint<|.ref a) Q E s:=by
 unfold Builtin.List.listLengthHint;refine A_<|dX d PySem.F.slot_set_len.lookup ?_;generalize c:("set.__len__" : String)=id0
 wp_delta
 rw[show splitId id0=some ("set","__len__") from by subst c;decide +kernel];subst c;refine A_ (cZ (T := "set") (b:=true) d sub_set_self<|jY (λe=>absurd e<|by decide) λ_=>jY (λ_=>?_) λe=>absurd (by decide +kernel) e);exact A_<|iN d<|C_ h
def Xa{ord:oA lE}{acc:oC lE}{n:Nat}(h:ItemsOf (λi v=>ord[i]?=some v) acc n)(a:ord.length=n):acc.toList=ord:=by refine iV λi=>?_;rw[Z_];rcases cL i acc.size with c|c;have:=h.2 i acc[i]<|aP c;rw[this,aP c];rw[cN c,fD<|by rw[a,<- h.1];exact c]
def Qo{a:lH}{es:oC<|Int×lE}{ep:Nat}{t:SetTable}{Q:oA lE->lF->Prop}(X:A.handled=none)(L:Ee s.heap a es ep t)(hT:TblOk t<|Hi w)(hz:es.size<=1000000)
  (h:∀v d' U ord,(∀b o,s.heap.get? b=some o->v.get? b=some o)->s.heap.objs.size<=v.objs.size->ord.Perm (es.toList.map (·.2))->Q ord {s with heap:=v,drawn:=d',toks:=U}) :
  qQ prog w A (collect<|.ref a) Q E s:=by
 have O:a<s.heap.objs.size:=by obtain⟨o,e,_⟩:=L;exact S_ e
 unfold collect;refine A_<|wpAny_runValue<|eT F.entry_proto_collect ?_;rw[dJ F.plain_proto_collect _];refine(show wpAny _ A.in1 (newList []>>=λl=>again<|.builtin "list.__iadd__" ⟨[l,.ref a],[]⟩) _ _ s from A_<|aC<|C_ ⟨eZ F.plain_list_iadd _,eT F.entry_list_iadd ?_⟩);rw[dJ F.plain_list_iadd _];generalize g:s.heap.objs.size=S;generalize m:s.heap.push {cls:=.type "list",data:=.seq ([]:oA lE).toArray}=h1;have N:∀b o,s.heap.get? b=some o->h1.get? b=some o:=λb o e=>by subst m;exact D_ _ e
 have I:h1.get? S=some {cls:=.type "list",data:=.seq ([]:oA lE).toArray}:=by subst m;subst g;exact K_ _ rfl
 have y:S≠a:=fI<|aB<|g ▸ O;have p3:Builtin.List.listSameRef (.ref S) (.ref a)=false:=by simp[Builtin.List.listSameRef,y]
 have r:Ee h1 a es ep t:=L.at λo e=>N a o e;refine(show wpAny _ A.in1 (Builtin.List.listExtendWith (.ref S) (.ref a)<|.ref S) _ _ {s with heap:=h1} from ?_);unfold Builtin.List.listExtendWith;refine A_ (iN (Ee.typeIs (s:={s with heap:=h1}) r)<|jY (λC=>absurd C<|by rw[p3];decide) λ_=>?_);refine A_<|Su (s:={s with heap:=h1}) r hz λf h2 u first ord Y p hI B sv=>?_;refine A_<|bT<|AL (s:={s with heap:=h2,drawn:=u}) (Ee.typeIs (s:={s with heap:=h2,drawn:=u})<|r.at λo e=>p a o e) ?_;refine jY (λ_=>?_) λC=>absurd (by decide) C;have x:h2.get? S=some {cls:=.type "list",data:=.seq ([]:oA lE).toArray}:=p S _ I;refine A_<|eA<|A_<|show wpAny _ _ (updateSeq S (·.push .none)>>=λ_=>updateSeq S (·.pop)) _ _ _ from A_<|iD x rfl<|iD (bD (Obj.mapSeq (·.push Value.none)) x rfl) rfl ?_;have G:=bD (Obj.mapSeq (·.pop)) (bD (Obj.mapSeq (·.push Value.none)) x rfl) rfl;have n:∀b o,b≠S->h2.get? b=some o->((h2.update S<|Obj.mapSeq (·.push Value.none)).update S<|Obj.mapSeq (·.pop)).get? b=some o:=λb o hb e=>(dP _ _<|fI hb).trans<|(dP _ _<|fI hb).trans e;generalize ((h2.update S<|Obj.mapSeq (·.push Value.none)).update S<|Obj.mapSeq (·.pop))=h4 at G n ⊢;have J:S<h1.objs.size:=S_ I;have D:h1.objs.size<=f:=Y;have H:S≠f:=by intro z;subst z;omega
 have V:a≠f:=aB<|fL (g ▸ O)<|V_ J D;obtain⟨pts,R,d⟩:∃pts:oA lH,(∀c,first=.ref c->c∈pts)/\∀c∈pts,h1.objs.size<=c/\c≠f:=by
  by_cases k:∃c,first=.ref c
  obtain⟨c,k⟩:=k;exact⟨[c],λq hq=>by rw[k]at hq;cases hq;simp,λq hq=>by rw[H_]at hq;subst hq;exact sv q k⟩;exact⟨[],λq hq=>absurd ⟨q,hq⟩ k,λ_ hq=>nomatch hq⟩
 have M:ord.length=es.size:=by rw[B.perm.length_eq];simp
 have W:=W9 (prog:=prog) (A:=A.in1) X (es:=es) (ep:=ep) (ord:=ord) pts hT V (λz=>(d f z).2 rfl) M;have Z:S∉f::a::pts:=by simp only[List.mem_cons,not_or];exact⟨H,y,λz=>by have:=(d S z).1;omega⟩
 refine C_ ⟨eZ F.plain_extend_loop _,codeAny_extend_loopS W.toS (R_ hz<|by decide) S Z (.ref S) es.size 0 {s with heap:=h4,drawn:=u} #[] _ rfl (aG _) ?_ G (ItemsOf.nil _) λP ga c' T j fk=>?_⟩;refine⟨r.at λo e=>n a o (fI y)<|p a o e,first,hI.at λo e=>n f o (fI H) e,B.at λc z o e=>n c o (λq=>?_) e,R⟩;have:=(d c<|R c z).1;subst q;omega;rw[Moved.eq_with T];refine A_<|wpAny_load j<|C_ ?_;rw[Xa fk M];refine h P.heap u P.toks ord (λb o e=>T.heap b o ?_<|n b o ?_<|p b o<|N b o e) (bR ?_) B.perm;have i:=S_ e;simp only[List.mem_cons,List.not_mem_nil,or_false,not_or];rw[g]at i;exact⟨aB i,aB<|fL i<|V_ J D⟩;have i:=S_ e;rw[g]at i;exact aB i;rw[g];exact S_ j
def NM:lE->Int
 |.int n _=>n
 |_=>0
end
end L2
namespace L2
open PySem PySem.Spec PyProof.Rows
section
variable {X:Cx}{aa:oA<|lH×lO}{σ:St}{H:Hp}{s:lF}
def Inv.drw(I:Inv X aa σ H s)(d:Drawn):Inv X aa σ H {s with drawn:=d}:=⟨I.ok,I.os,I.bare,I.base,I.loc,I.cell,I.free,I.freeC,I.pin,I.hok,I.len⟩
end
noncomputable instance decPD:DecidableEq lG:=λa b=>Classical.propDecidable (a=b)
mutual
def Jo:lG->Nat
 |.tuple a=>De a+1
 |_=>1
def De:oA lG->Nat
 |[]=>0
 |d::a=>Jo d+De a
end
theorem Lk(w:lK):∀(a b:oA lG),Ds w (a++b)=Ds w a++Ds w b
 |[],b=>rfl
 |x::a,b=>by simp only[List.cons_append,Ds,Lk w a b]
theorem J7:∀(a b:oA lG),De (a++b)=De a+De b
 |[],b=>by simp[De]
 |x::a,b=>by simp only[List.cons_append,De,J7 a b];exact(kQ _ _ _).symm
section
variable {prog:lJ}{w:lK}
def GO:∀(n:Nat) (d:lG) (u:lE) (as:oA lH) (A:lM) (E:lE->lF->Prop) (s:lF) (Q:Int->lF->Prop),d.depth<=n->Cano d=true->Reads s.heap u d as->A.units+n<cLine->Q (Bj w d) {s with toks:=s.toks+Jo d} ->
  qQ prog w A (pyHash u) Q E s:=by
 intro n
 induction n with
 |zero=>
  intro d u as A E s Q G hc hr hu h;cases hr with
  |int i t=>exact(Bp prog w).pyHash (F5 _ _ _ _) h
  |str x t=>exact(Bp prog w).pyHash (F6 _ _ _ _) h
  |tuple p a2 q v=>simp[PyData.depth]at G
  |none=>simp[Cano]at hc
  |bool b=>simp[Cano]at hc
  |list p a2 q v=>simp[Cano]at hc
  |dict p a2 q v N=>simp[Cano]at hc
 |succ n R=>
  intro d u as A E s Q G hc hr hu h;cases hr with
  |int i t=>exact(Bp prog w).pyHash (F5 _ _ _ _) h
  |str x t=>exact(Bp prog w).pyHash (F6 _ _ _ _) h
  |none=>simp[Cano]at hc
  |bool b=>simp[Cano]at hc
  |list p a2 q v=>simp[Cano]at hc
  |dict p a2 q v N=>simp[Cano]at hc
  |@tuple a o items m l as M f z T=>
   have r:s.TypeIs (.ref a) "tuple" := ⟨o,M,f⟩;have P:PyData.depthAll l<=n:=by simp only[PyData.depth]at G;omega
   have O:A7 l=true:=hc;unfold pyHash
   first|unfold pyHashByItsType|skip
   first|refine A_ (wpAny_cRoomFor_or (.inr<|by omega) ?_)|skip
   refine A_<|dX r F.slot_tuple_hash.lookup<|show wpAny _ _ (if(some (Value.builtin "tuple.__hash__")==some Value.none)=true then _ else _) Q E s from ?_;rw[M_<|by rw[beq_builtin_none];exact Q_];refine A_<|dX r F.slot_tuple_hash.lookup<|show wpAny _ _ (callSpecialIfBoundUnlessNone? (.ref a) "__hash__" _>>=_) Q E s from ?_;refine A_<|wpAny_callSpecialIfBoundUnlessNone?_slot r F.slot_tuple_hash<|aO F.slot_tuple_hash r F.entry_tuple_hash (show wpAny _ _ (Builtin.Tuple.tupleItemsOf (.ref a)>>=_) _ _ s from ?_)<|F.args_tuple_hash_1 _;refine A_<|kJ M z<|A_ ?_;rw[<- iH];refine f_ _ (λrest (b:oC Int) H=>∃c e I,l=c++e/\ReadsAll s.heap rest e I/\A7 e=true/\PyData.depthAll e<=n/\b.toList=Ds w c/\H={s with toks:=s.toks+De c}) _ ?_ ?_ _ _ ⟨[],l,as,rfl,T,O,P,rfl,rfl⟩
   ·rintro x rest b H ⟨c,e,I,rfl,L,f,k,hb,rfl⟩;cases L with
    |@cons _ _ d j D B h1 S=>
     simp only[A7,Bool.and_eq_true]at f;simp only[PyData.depthAll]at k;refine A_ (R d x D A.in1 _ {s with toks:=s.toks+De c} _ (by omega) f.1 h1 (by show A.units+1+n<_;omega) ?_);have g:∃J y C,c++d::j=J++y/\ReadsAll s.heap rest y C/\A7 y=true/\PyData.depthAll y<=n/\(b.push<|Bj w d).toList=Ds w J/\({s with toks:=s.toks+De c+Jo d}:lF)={s with toks:=s.toks+De J} :=
      ⟨c++[d],j,B,by simp,S,f.2,by omega,by simp[hb,Lk,Ds],by simp[J7,De,Nat.add_assoc]⟩
     first
      |exact C_ g
      |exact A_<|C_<|C_ g
   rintro b H ⟨c,e,I,rfl,L,f,k,hb,rfl⟩;cases L;rw[bP]at h;simp only[Bj,Jo]at h;refine(show wpAny _ _ (retInt<|Builtin.Tuple.tupleHashOf b.toList) _ _ _ from ?_);rw[hb];refine wpAny_ret_mkInt<|show wpAny _ _ (if(decide (-(2:Int)^63<=Builtin.Tuple.tupleHashOf (Ds w c))&&decide (Builtin.Tuple.tupleHashOf (Ds w c)<2^63))=true then _ else _) Q E _ from ?_;unfold reduceHash at h;by_cases hr:(decide (-(2:Int)^63<=Builtin.Tuple.tupleHashOf (Ds w c))&&decide (Builtin.Tuple.tupleHashOf (Ds w c)<2^63))=true;rw[T_ hr]at h ⊢;exact C_ (by simpa [Nat.add_assoc] using h);rw[M_ hr]at h ⊢;exact A_<|eA<|C_<|by simpa [Nat.add_assoc] using h
def Ll:∀(n q:Nat) (d:lG) (u:lE) (as:oA lH) (A:lM) (E:lE->lF->Prop) (s:lF) (Q:Bool->lF->Prop),d.depth<=n->n<q->Cano d=true->Reads s.heap u d as->Q true s->qQ prog w A (eqIsQuiet q u) Q E s:=by
 intro n
 induction n with
 |zero=>
  intro q d u as A E s Q G hq hc hr h;cases hr with
  |int i t=>rw[iW _ rfl];exact C_ h
  |str x t=>rw[iW _ rfl];exact C_ h
  |tuple f a2 g j=>simp[PyData.depth]at G
  |none=>simp[Cano]at hc
  |bool b=>simp[Cano]at hc
  |list f a2 g j=>simp[Cano]at hc
  |dict f a2 g j L=>simp[Cano]at hc
 |succ n O=>
  intro q d u as A E s Q G hq hc hr h;cases hr with
  |int i t=>rw[iW _ rfl];exact C_ h
  |str x t=>rw[iW _ rfl];exact C_ h
  |none=>simp[Cano]at hc
  |bool b=>simp[Cano]at hc
  |list f a2 g j=>simp[Cano]at hc
  |dict f a2 g j L=>simp[Cano]at hc
  |@tuple a o items m y as H c p R=>
   have I:s.TypeIs (.ref a) "tuple" := ⟨o,H,c⟩;have N:PyData.depthAll y<=n:=by simp only[PyData.depth]at G;omega
   have M:A7 y=true:=hc;obtain⟨l,rfl⟩:∃l,q=l+1:=⟨q-1,by omega⟩;unfold eqIsQuiet;refine A_<|dX I F.slot_tuple_eq.lookup<|show wpAny _ _ (isInstance (.ref a) (.type "tuple")>>=_) _ _ s from A_<|cZ I isSubtype_tuple_tuple ?_;simp only[Bool.not_true,Bool.false_eq_true,if_false];refine A_<|eI H p<|A_<|show wpAny _ _ (forIn items _ _) _ _ s from ?_;rw[<- iH];refine f_ _ (λrest r k=>r.1=none/\k=s/\∃e J,ReadsAll s.heap rest e J/\A7 e=true/\PyData.depthAll e<=n) _ ?_ ?_ _ _ ⟨rfl,rfl,y,as,R,M,N⟩
   ·rintro v rest r k ⟨hr,rfl,e,J,S,c,D⟩;cases S with
    |@cons _ _ d B C z h1 P=>simp only[A7,Bool.and_eq_true]at c;simp only[PyData.depthAll]at D;refine A_ (O l d v C A _ k _ (by omega) (by omega) c.1 h1 ?_);simp only[Bool.not_true,Bool.false_eq_true,if_false];exact C_ ⟨rfl,rfl,B,z,P,c.2,by omega⟩
   rintro⟨T,U⟩ k ⟨hr,rfl,_⟩;simp only at hr;subst hr;exact C_ h
mutual
theorem Nk{h:lN}:∀{v:lE} {d e:lG} {as n:oA lH},Reads h v d as->Reads h v e n->Cano d=true->Cano e=true->d=e
 |_,_,_,_,_,.int i t,r,_,_=>by cases r;rfl
 |_,_,_,_,_,.str x t,r,_,_=>by cases r;rfl
 |_,_,_,_,_,.tuple g a2 j l,r,hc,a=>by
  cases r with
  |tuple c m f k=>rw[g]at c;cases c;rw[j]at f;cases f;rw[Im l k hc a]
  |list c m f k=>simp[Cano]at a
  |dict c m f k p=>simp[Cano]at a
 |_,_,_,_,_,.none,_,hc,_=>by simp[Cano]at hc
 |_,_,_,_,_,.bool b,_,hc,_=>by simp[Cano]at hc
 |_,_,_,_,_,.list g a2 j l,_,hc,_=>by simp[Cano]at hc
 |_,_,_,_,_,.dict g a2 j l o,_,hc,_=>by simp[Cano]at hc
theorem Im{h:lN}:∀{b:oA lE} {ds es:oA lG} {as g:oA lH},ReadsAll h b ds as->ReadsAll h b es g->A7 ds=true->A7 es=true->ds=es
 |_,_,_,_,_,.nil,r,_,_=>by cases r;rfl
 |_,_,_,_,_,.cons f d,r,hc,a=>by
  cases r with
  |cons c e=>simp only[A7,Bool.and_eq_true]at hc a;rw[Nk f c hc.1 a.1,Im d e hc.2 a.2]
end
mutual
theorem Jp{h h':lN}{p:lH}(hk:∀b o,b≠p->h.get? b=some o->h'.get? b=some o)(hp:∀o f n,h.get? p=some o->o.data≠.seq f n):∀{v:lE} {d:lG} {as:oA lH},Reads h v d as->Cano d=true->Reads h' v d as
 |_,_,_,.int i t,_=>.int i t
 |_,_,_,.str x t,_=>.str x t
 |_,_,_,.tuple c a2 a e,hc=>.tuple (hk _ _ (λz=>by subst z;exact hp _ _ _ c a) c) a2 a (Io hk hp e hc)
 |_,_,_,.none,hc=>by simp[Cano]at hc
 |_,_,_,.bool b,hc=>by simp[Cano]at hc
 |_,_,_,.list c a2 a e,hc=>by simp[Cano]at hc
 |_,_,_,.dict c a2 a e g,hc=>by simp[Cano]at hc
theorem Io{h h':lN}{p:lH}(hk:∀b o,b≠p->h.get? b=some o->h'.get? b=some o)(hp:∀o a n,h.get? p=some o->o.data≠.seq a n):∀{a:oA lE} {ds:oA lG} {as:oA lH},ReadsAll h a ds as->A7 ds=true->ReadsAll h' a ds as
 |_,_,_,.nil,_=>.nil
 |_,_,_,.cons d c,hc=>by simp only[A7,Bool.and_eq_true]at hc;exact .cons (Jp hk hp d hc.1)<|Io hk hp c hc.2
end
def Uv{x y:lG}(hx:Cano x=true)(hy:Cano y=true):PyData.eqv x y=decide (x=y):=by by_cases h:x=y;subst h;rw[Le x hx,aV rfl];rw[aW h];exact(NE hx hy).mpr h
variable(prog w) in
noncomputable def Qp:HeapKind prog w lG where
 is:=λh d a=>KeyTree d/\∃c,Reads h (.ref a) d c
 hash:=Bj w
 draws:=Jo
 room:=λA=>A.units+6<cLine
 inj:=λ⟨f,_,i⟩ ⟨g,_,j⟩=>Nk i j f.can g.can
 keeps:=λ⟨k,c,r⟩ ho hd hs=>⟨k,c,Jp (λb o hb e=>(hs.2 b hb).trans e) (λl p n e q=>by rw[ho]at e;cases e;rw[hd]at q;cases q) r k.can⟩
 pyHash:=λhu ⟨k,c,r⟩ h=>GO 6 _ _ c _ _ _ _ k.dep k.can r hu h
 eqBool:=λhu ⟨f,c,i⟩ ⟨g,m,j⟩ h=>jH _ _ _ _ _ _ _ _ i j f.lay g.lay (by have:=f.dep;omega) _ _ _ _ (by rw[Uv f.can g.can];exact h)
 quiet:=λ⟨k,c,r⟩ h=>Ll 6 8 _ _ c _ _ _ _ k.dep (by decide) k.can r h
end
section
variable {X:Cx}{aa:oA<|lH×lO}{σ:St}{H:Hp}{s:lF}{a:lH}{e:lL}{te:AE}{τ:ASt}{μ:M}{o i value:lL}{pos ck:Pos}{td ty tv:AE}
def VE.run{f:AV->M->Prop}(he:VE X e te)(I:Inv X aa σ H s)(hs:D4 X.K H τ σ)(hc:Cn X.K μ H)(h:te τ μ f) :
  qQ X.prog X.w X.A (eval e X.env) (λu k=>∃x v b d,Inv X aa σ d k/\Bk v u/\Kp H d/\Cn X.K b d/\RelA X.K d x v/\f x b) X.xe s :=
 cD (he aa s σ H (λv d=>∃x b,Kp H d/\Cn X.K b d/\RelA X.K d x v/\f x b) I ⟨τ,μ,f,hs,hc,h,λx b v d S c r q=>⟨x,b,S,c,r,q⟩⟩)
  (λ_ _ z=>by obtain⟨v,d,j,g,x,b,S,c,r,q⟩:=z;exact⟨x,v,b,d,j,g,S,c,r,q⟩) λ_ _ e=>e
end
end L2
namespace L2
open PySem PySem.SetTable
theorem Gm{b:Type} [DecidableEq b]:∀{xs ys:oA b},xs.Nodup->(∀x∈xs,x∈ys)->xs.length<=ys.length
 |[],_,_,_=>aG _
 |x::xs,ys,c,h=>by have a:=cP.mp c;have hx:=h x<|.head _;have:=Gm (ys:=ys.erase x) a.2 λz hz=>(List.mem_erase_of_ne<|by rintro rfl;exact a.1 hz).mpr<|h z<|.tail _ hz;rw[List.length_erase_of_mem hx]at this;have:0<ys.length:=gI hx;rw[aS];omega
def advM(mask:Nat)(p:Probe):Probe :=
 if p.more>0 then {p with j:=p.j+1,more:=p.more-1} else
 {p with j:=(leap mask p.i p.perturb).1,more:=runEnd mask (leap mask p.i p.perturb).1-(leap mask p.i p.perturb).1,i:=(leap mask p.i p.perturb).1,perturb:=(leap mask p.i p.perturb).2}
def GP(t:SetTable)(p:Probe):t.advance p=advM t.mask p:=rfl
def Xb(mask i perturb l:Nat):Probe:={j:=i+l,more:=runEnd mask i-i-l,i:=i,perturb:=perturb,dummy:=none}
def Oj(mask:Nat)(h:Int):Nat->Probe
 | 0=>Xb mask (bits h%(mask+1)) (bits h) 0
 |n+1=>advM mask<|Oj mask h n
def sq(mask:Nat)(h:Int)(n:Nat):Nat:=(Oj mask h n).j
def rn(mask:Nat)(h:Int):Nat->Nat×Nat
 | 0=>(bits h%(mask+1),bits h)
 |r+1=>leap mask (rn mask h r).1 (rn mask h r).2
def nr(mask:Nat)(h:Int):Nat->Nat
 | 0=>0
 |r+1=>nr mask h r+(runEnd mask (rn mask h r).1-(rn mask h r).1)+1
def NN(mask i:Nat):runEnd mask i-i<=9:=by unfold runEnd;split<;>omega
def AM(mask i:Nat):i<=runEnd mask i:=by unfold runEnd;split<;>omega
def Qq{mask i:Nat}(h:i<=mask):runEnd mask i<=mask:=by unfold runEnd;split<;>omega
theorem JG(mask:Nat)(h:Int):∀r,nr mask h r<=10*r
 | 0=>J_ _
 |r+1=>by have:=JG mask h r;have:=NN mask (rn mask h r).1;rw[nr];omega
def AN(mask:Nat)(h:Int):∀r,(rn mask h r).1<=mask
 | 0=>by have:=Nat.mod_lt (bits h)<|show 0<mask+1 from kG _;rw[rn];dsimp only;exact dS this
 |r+1=>by rw[rn,leap];have:=Nat.mod_lt ((rn mask h r).1*5+1+(rn mask h r).2 / 32)<|show 0<mask+1 from kG _;dsimp only;exact dS this
theorem Sw{mask:Nat}{h:Int}{n i a:Nat}(e:Oj mask h n=Xb mask i a 0):∀l,l<=runEnd mask i-i->Oj mask h (n+l)=Xb mask i a l
 | 0,_=>e
 |l+1,b=>by rw[<- kQ,Oj,Sw e l<|fN b];unfold advM;rw[T_<|show(Xb mask i a l).more>0 by show _-l>0;omega];show Probe.mk _ _ _ _ _=Probe.mk _ _ _ _ _;congr 1
theorem Uw(mask:Nat)(h:Int):∀r,Oj mask h (nr mask h r)=Xb mask (rn mask h r).1 (rn mask h r).2 0
 | 0=>rfl
 |r+1=>by
  rw[nr,Oj,Sw (Uw mask h r) _<|J_ _];unfold advM;rw[M_<|show ¬(Xb mask (rn mask h r).1 (rn mask h r).2<|runEnd mask (rn mask h r).1-(rn mask h r).1).more>0 by show ¬(_-_-_>0);omega]
  rfl
def Jq{mask:Nat}{h:Int}{r l:Nat}(a:l<=runEnd mask (rn mask h r).1-(rn mask h r).1):sq mask h (nr mask h r+l)=(rn mask h r).1+l:=by unfold sq;rw[Sw (Uw mask h r) l a];rfl
theorem Jr(mask:Nat)(h:Int):∀n,(Oj mask h n).dummy=none
 | 0=>rfl
 |n+1=>by rw[Oj,advM];split;exact Jr mask h n;exact Jr mask h n
theorem JH(mask:Nat)(h:Int):∀r,(rn mask h r).2=bits h / 32^r
 | 0=>by rw[rn,Nat.pow_zero,Nat.div_one]
 |r+1=>by rw[rn,leap];dsimp only;rw[JH mask h r,Nat.div_div_eq_div_mul,Nat.pow_succ]
def GQ(h:Int):bits h<2^64:=by unfold bits;have h1:=fB h (show(0:Int)<2^64 by decide);have h2:=gN h (show(2^64:Int)≠0 by decide);omega
def GR(mask:Nat)(h:Int)(r:Nat):(rn mask h<|13+r+1).1=((rn mask h<|13+r).1*5+1)%(mask+1):=by
 rw[rn,leap];dsimp only;have e:(rn mask h<|13+r).2=0:=by rw[JH];refine Nat.div_eq_of_lt<|V_ (GQ h) ?_;exact R_ (show 2^64<=32^13 by decide)<|Nat.pow_le_pow_right (by decide)<|cU _ _
 rw[e]
def cyc(mask:Nat)(i:Nat):Nat->Nat
 | 0=>i
 |b+1=>(cyc mask i b*5+1)%(mask+1)
theorem AQ(mask:Nat)(h:Int):∀b,(rn mask h<|13+b).1=cyc mask (rn mask h 13).1 b
 | 0=>rfl
 |b+1=>by rw[<- kQ,GR,AQ mask h b];rfl
theorem Ip(mask i:Nat)(a:Nat):∀b,cyc mask (cyc mask i a) b=cyc mask i (a+b)
 | 0=>rfl
 |b+1=>by rw[cyc,Ip mask i a b];rfl
def Msk(mask:Nat):Prop:=mask=7\/mask=31\/mask=127\/mask=511\/mask=2047\/mask=8191
def orbit(mask:Nat):Nat->Nat->oA Nat
 | 0,_=>[]
 |n+1,i=>i::orbit mask n ((i*5+1)%(mask+1))
theorem Nl(mask:Nat):∀(n i x:Nat),x∈orbit mask n i->∃b,b<n/\cyc mask i b=x
 | 0,_,_,h=>by cases h
 |n+1,i,x,h=>by rcases Y_.mp h with rfl|h;exact⟨0,kG _,rfl⟩;obtain⟨b,hb,e⟩:=Nl mask n _ x h;refine⟨b+1,Nat.add_lt_add_right hb 1,?_⟩;rw[show b+1=1+b from Nat.add_comm _ _,<- Ip];exact e
def Ml(mask:Nat):Nat->Nat->Nat->Nat
 | 0,_,a=>a
 |n+1,i,a=>Ml mask n ((i*5+1)%(mask+1))<|a ||| 1 <<< i
theorem orbB_mem(mask:Nat):∀(n i a x:Nat),(Ml mask n i a).testBit x=true->a.testBit x=true\/x∈orbit mask n i
 | 0,_,_,_,h=>.inl h
 |n+1,i,a,x,h=>by
  rcases orbB_mem mask n _ _ x h with h|h;rw[kK,eO]at h;rcases h with h|h;exact .inl h
  right
  rw[Nat.one_shiftLeft,Nat.testBit_two_pow]at h;exact Y_.mpr<|.inl (aF h).symm;exact .inr<|aA _ h
def orbs:(Ml 7 8 0 0=2^8-1/\cyc 7 0 8=0)/\(Ml 31 32 0 0=2^32-1/\cyc 31 0 32=0)/\(Ml 127 128 0 0=2^128-1/\cyc 127 0 128=0)/\(Ml 511 512 0 0=2^512-1/\cyc 511 0 512=0)/\(Ml 2047 2048 0 0=2^2048-1/\cyc 2047 0 2048=0)/\(Ml 8191 8192 0 0=2^8192-1/\cyc 8191 0 8192=0):=by decide +kernel
def orb{mask:Nat}(e:Msk mask):Ml mask (mask+1) 0 0=2^(mask+1)-1/\cyc mask 0 (mask+1)=0:=by obtain⟨h1,h2,a,b,c,d⟩:=orbs;rcases e with rfl|rfl|rfl|rfl|rfl|rfl;exact h1;exact h2;exact a;exact b;exact c;exact d
def GS{mask:Nat}(k:Msk mask){i x:Nat}(g:i<=mask)(hx:x<=mask):∃b,b<=mask+1/\cyc mask i b=x:=by
 obtain⟨h1,h2⟩:=orb k;have d:∀y,y<=mask->∃b,b<mask+1/\cyc mask 0 b=y:=λy hy=>Nl mask _ 0 y (by
  have j:(Ml mask (mask+1) 0 0).testBit y=true:=by rw[h1,Nat.testBit_two_pow_sub_one];exact aV (Nat.lt_succ_of_le hy)
  rcases orbB_mem mask _ _ _ y j with h|h;rw[jJ]at h;cases h;exact h)
 obtain⟨a,ha,e⟩:=d i g;obtain⟨c,hc,f⟩:=d x hx;rcases cL c a with h|h;refine⟨mask+1-a+c,by omega,?_⟩;rw[<- e,Ip,show a+(mask+1-a+c)=(mask+1)+c by omega,<- Ip,h2,f];refine⟨c-a,by omega,?_⟩;rw[<- e,Ip,show a+(c-a)=c from kD h,f]
def reach{mask:Nat}(a:Msk mask)(h:Int){x:Nat}(hx:x<=mask):∃r,r<=mask+14/\(rn mask h r).1=x:=by obtain⟨b,hb,e⟩:=GS a (AN mask h 13) hx;exact⟨13+b,by omega,by rw[AQ,e]⟩
theorem JI(mask:Nat)(h:Int):∀n,∃r l,l<=runEnd mask (rn mask h r).1-(rn mask h r).1/\n=nr mask h r+l
 | 0=>⟨0,0,aG _,rfl⟩
 |n+1=>by obtain⟨r,l,a,rfl⟩:=JI mask h n;rcases cL l (runEnd mask (rn mask h r).1-(rn mask h r).1) with c|c;exact⟨r,l+1,c,rfl⟩;exact⟨r+1,0,aG _,by rw[nr];omega⟩
def Ux(mask:Nat)(h:Int)(n:Nat):sq mask h n<=mask:=by obtain⟨r,l,a,rfl⟩:=JI mask h n;rw[Jq a];have:=Qq<|AN mask h r;have:=AM mask (rn mask h r).1;omega
def Sx{mask:Nat}(j:Msk mask)(h:Int)(a:Nat->Prop) [DecidablePred a]{x:Nat}(hx:x<=mask)(g:¬a x):∃n,n<10*turns mask/\¬a (sq mask h n)/\∀m,m<n->a (sq mask h m):=by
 obtain⟨r,hr,e⟩:=reach j h hx;have d:¬a (sq mask h<|nr mask h r):=by rw[show nr mask h r=nr mask h r+0 from rfl,Jq<|aG _,e];exact g
 have h1:nr mask h r<10*turns mask:=by have:=JG mask h r;unfold turns;omega
 generalize nr mask h r=k at d h1
 induction k using Nat.strongRecOn with
 |_ k i=>
  by_cases c:∀m,m<k->a (sq mask h m);exact⟨k,h1,d,c⟩;have⟨m,b,l⟩:∃m,m<k/\¬a (sq mask h m):=by refine aY λz=>c λm f=>aY λy=>z ⟨m,f,y⟩
  exact i m b l<|fL b h1
theorem Uy{mask:Nat}(h:Int)(owner:oC<|oB Nat)(hs:owner.size=mask+1):∀(fuel r:Nat),(∃k,r<=k/\k<r+fuel/\owner.getD (rn mask h k).1 none=none)->(∀m,m<nr mask h r->(owner.getD (sq mask h m) none).isSome=true) ->
  ∃n,layClean.free mask owner fuel (rn mask h r).1 (rn mask h r).2=some (sq mask h n)/\owner.getD (sq mask h n) none=none/\∀m,m<n->(owner.getD (sq mask h m) none).isSome=true
 | 0,r,⟨k,h1,h2,_⟩,_=>by omega
 |fuel+1,r,hk,f=>by
  have a:∀j,j<=mask->owner.getD j (some 0)=owner.getD j none:=λj hj=>by simp only[Array.getD,show j<owner.size by omega,dite_true]
  have s:=AN mask h r;have u:=Qq s;have v:=AM mask (rn mask h r).1;rw[layClean.free];cases c:(List.range<|runEnd mask (rn mask h r).1+1-(rn mask h r).1).find? λk=>(owner.getD ((rn mask h r).1+k)<|some 0).isNone with
  |some k=>
   obtain⟨o,c2,p⟩:=List.find?_range_eq_some.mp c;have i:=aL.mp c2;refine⟨nr mask h r+k,?_,?_,λm g=>?_⟩;rw[Jq<|by omega];rw[Jq<|by omega,<- a _ (by omega)];exact Option.isNone_iff_eq_none.mp o
   ·rcases cL m (nr mask h r) with z|z;exact f m z
    ·have e:m=nr mask h r+(m-nr mask h r):=by omega
     rw[e,Jq<|by omega,<- a _ (by omega)];have:=p (m-nr mask h r) (by omega);cases q:owner.getD ((rn mask h r).1+(m-nr mask h r)) (some 0) with
     |none=>rw[q]at this;cases this
     |some _=>rfl
  |none=>
   have t:=List.find?_range_eq_none.mp c;have b:∀l,l<=runEnd mask (rn mask h r).1-(rn mask h r).1->(owner.getD ((rn mask h r).1+l) none).isSome=true:=λl w=>by
    have:=t l (by omega);rw[a _<|by omega]at this;cases q:owner.getD ((rn mask h r).1+l) none with
    |none=>rw[q]at this;cases this
    |some _=>rfl
   refine Uy h owner hs fuel (r+1) ?_ λm g=>?_;obtain⟨k,h1,h2,d⟩:=hk;rcases iI h1 with rfl|h1;have:=b 0<|aG _;rw[Nat.add_zero,d]at this;cases this;exact⟨k,h1,by omega,d⟩;rcases cL m (nr mask h r) with z|z;exact f m z;have e:m=nr mask h r+(m-nr mask h r):=by omega
   rw[nr]at g;rw[e,Jq<|by omega];exact b _<|by omega
structure Own(mask:Nat)(hs:oA Int)(owner:oC<|oB Nat)(k:Nat):Prop where
 size:owner.size=mask+1
 lt:∀j x,owner.getD j none=some x->x<k
 has:∀x,x<k->∃j,owner.getD j none=some x
 inj:∀j j' x,owner.getD j none=some x->owner.getD j' none=some x->j=j'
 path:∀j x h,owner.getD j none=some x->hs[x]?=some h->∃n,sq mask h n=j/\∀m,m<n->(owner.getD (sq mask h m) none).isSome=true
def AR(o:oC<|oB Nat)(j:Nat)(v:oB Nat)(hj:j<o.size)(i:Nat):(o.setIfInBounds j v).getD i none=if i=j then v else o.getD i none:=by rw[bZ,bZ,Array.getElem?_setIfInBounds];by_cases e:i=j;subst e;rw[T_ rfl,T_ hj,T_ rfl];rfl;rw[M_ λz=>e z.symm,M_ e]
def Uz{o:oC<|oB Nat}{j x:Nat}(h:o.getD j none=some x):j<o.size:=by
 rw[bZ]at h;cases c:o[j]? with
 |none=>rw[c]at h;cases h
 |some y=>exact(gV.mp c).1
def AU{mask k:Nat}{hs:oA Int}{owner:oC<|oB Nat}(o:Own mask hs owner k)(hk:k<=mask):∃x,x<=mask/\owner.getD x none=none:=by
 refine aY λz=>?_;have f:∀j,j<=mask->∃x,owner.getD j none=some x:=λj hj=>by
  cases c:owner.getD j none with
  |none=>exact absurd ⟨j,hj,c⟩ z
  |some x=>exact⟨x,rfl⟩
 have h1:((List.range<|mask+1).map λj=>(owner.getD j none).getD 0).Nodup:=by rw[List.Nodup,gU];refine List.Pairwise.imp_of_mem (R:=(· < ·)) (λ{a b} ha hb g8 e=>?_) iU;obtain⟨x,d⟩:=f a (by have:=aL.mp ha;exact dS this);obtain⟨y,g⟩:=f b (by have:=aL.mp hb;exact dS this);rw[d,g]at e;have h:x=y:=e;subst h;have:=o.inj a b x d g;omega
 have h2:=Gm (ys:=List.range k) h1 λy hy=>by obtain⟨j,hj,rfl⟩:=DD.mp hy;obtain⟨x,d⟩:=f j (by have:=aL.mp hj;exact dS this);rw[d];exact aL.mpr<|o.lt j x d
 rw[B_,bE,bE]at h2;omega
def AW{mask k:Nat}{hs:oA Int}{owner:oC<|oB Nat}{h:Int}(C:Msk mask)(o:Own mask hs owner k)(hk:k<=mask)(u:hs[k]?=some h):∃j,layClean.free mask owner (turns mask) (bits h%(mask+1)) (bits h)=some j/\Own mask hs (owner.setIfInBounds j<|some k) (k+1):=by
 obtain⟨x,hx,B⟩:=AU o hk;obtain⟨r,hr,v⟩:=reach C h hx;obtain⟨n,A,E,w⟩:=Uy h owner o.size (turns mask) 0 ⟨r,aG _,by unfold turns;omega,by rw[v];exact B⟩ λm d=>absurd d<|jX _;have hj:sq mask h n<owner.size:=by have:=Ux mask h n;rw[o.size];exact Nat.lt_succ_of_le this
 have c:=AR owner (sq mask h n) (some k) hj;refine⟨_,A,by rw[Array.size_setIfInBounds];exact o.size,λj y e=>?_,λy hy=>?_,λj z y a b=>?_,λj y g a b=>?_⟩;rw[c]at e;split at e;cases e;exact bG _;have:=o.lt j y e;exact dB this;rcases(show y<k\/y=k by omega) with h'|rfl;obtain⟨j,f⟩:=o.has y h';refine⟨j,?_⟩;rw[c,M_<|by rintro rfl;rw[E]at f;cases f];exact f;exact⟨_,by rw[c,T_ rfl]⟩;rw[c]at a b;split at a;rename_i l;split at b;rename_i s;exact l.trans s.symm;cases a;have:=o.lt _ _ b;omega;split at b;cases b;have:=o.lt _ _ a;omega;exact o.inj j z y a b;have p:∀i,(owner.getD i none).isSome=true->((owner.setIfInBounds (sq mask h n)<|some k).getD i none).isSome=true:=λi F=>by
  rw[c];split
  rfl
  exact F
 rw[c]at a;split at a;rename_i l;cases a;rw[u]at b;cases b;exact⟨n,l.symm,λm d=>p _<|w m d⟩;obtain⟨q,D,t⟩:=o.path j y g a b;exact⟨q,D,λm d=>p _<|t m d⟩
def GT(mask:Nat)(acc:oB<|oC (oB Nat)×Nat)(h:Int):oB (oC (oB Nat)×Nat):=do
 let(a,k) <- acc
 let j <- layClean.free mask a (turns mask) (bits h%(mask+1)) (bits h)
 pure (a.setIfInBounds j<|some k,k+1)
theorem Qr{mask:Nat}(b:Msk mask){hs:oA Int}(d:hs.length<=mask+1):∀(rest a:oA Int) (owner:oC<|oB Nat),hs=a++rest->Own mask hs owner a.length->∃c,rest.foldl (GT mask) (some (owner,a.length))=some (c,hs.length)/\Own mask hs c hs.length
 |[],a,owner,e,o=>by rw[bP]at e;subst e;exact⟨owner,rfl,o⟩
 |h::rest,a,owner,e,o=>by
  have hk:a.length<=mask:=by rw[e,O_,aS]at d;omega
  obtain⟨j,i,f⟩:=AW b o hk (h:=h) (by rw[e];simp);have g:GT mask (some (owner,a.length)) h=some (owner.setIfInBounds j<|some a.length,(a++[h]).length):=by
   unfold GT;simp only[Option.bind_eq_bind,Option.bind_some,i,List.length_append]
   rfl
  rw[eQ,g];exact Qr b d rest (a++[h]) _ (by rw[e];simp)<|by rw[O_];exact f
def NO{mask:Nat}(f:Msk mask)(hs:oC Int)(g:hs.size<=mask+1):∃a,layClean mask hs=some a/\Own mask hs.toList a hs.size:=by
 have c:Own mask hs.toList (Array.replicate (mask+1) none) 0:=by
  have b:∀j,(Array.replicate (mask+1) (none:oB Nat)).getD j none=none:=λj=>by rw[bZ,Array.getElem?_replicate];split<;>rfl
  exact⟨by simp,λj x e=>(by rw[b]at e;cases e),λx hx=>absurd hx<|jX _,λj i x e=>(by rw[b]at e;cases e),λj x h e=>(by rw[b]at e;cases e)⟩
 obtain⟨a,e,o⟩:=Qr f (hs:=hs.toList) (by simpa using g) hs.toList [] _ rfl c;refine⟨a,?_,by simpa using o⟩;unfold layClean;rw[<- Array.foldl_toList];have d:List.foldl (GT mask) (some (Array.replicate (mask+1) none,0)) hs.toList=some (a,hs.toList.length):=e;exact(cV (Option.map (·.1)) d).trans rfl
structure TabQ(t:SetTable)(hs:oA Int):Prop where
 msk:Msk t.mask
 len:t.place.size=hs.length
 le:∀j∈t.place.toList,j<=t.mask
 path:∀z∈t.place.toList.zip hs,∃n,sq t.mask z.2 n=z.1/\∀m,m<n->sq t.mask z.2 m∈t.place.toList
def GU{mask f mv:Nat}{led pl:Bool}(r:Msk mask)(hs:oC Int)(G:hs.size<=mask+1):∃t h,laid mask f mv led pl hs=some (t,h)/\t.mask=mask/\h.toList.Perm (List.range hs.size)/\TabQ t (h.toList.map λi=>hs.getD i 0):=by
 obtain⟨c,e,o⟩:=NO r hs G;have d:∀j x,(j,x)∈((List.range<|mask+1).filterMap λj=>(c.getD j none).map (j,·))↔c.getD j none=some x:=λj x=>by rw[kH];constructor;rintro⟨a,ha,q⟩;obtain⟨y,k,u⟩:=I_.mp q;cases u;exact k;intro q;refine⟨j,aL.mpr ?_,by rw[q];rfl⟩;have:=Uz q;rw[o.size]at this;exact this
 have hnd:((List.range<|mask+1).filterMap λj=>(c.getD j none).map (j,·)).Pairwise λp q=>p.2≠q.2:=by refine List.Pairwise.filterMap _ (R:=(· < ·)) (λa E A b hb H B=>?_) iU;obtain⟨z,hz,rfl⟩:=I_.mp hb;obtain⟨D,hz',rfl⟩:=I_.mp B;intro q;have s:z=D:=q;subst s;have:=o.inj a E z hz hz';omega
 refine⟨_,_,by unfold laid;rw[e];rfl,rfl,?_,?_⟩;show(List.map (λp:Nat×Nat=>p.2) _).Perm _;refine(List.perm_ext_iff_of_nodup ?_ kX).mpr λx=>?_;rw[List.Nodup,gU];exact hnd;rw[DD,aL];constructor;rintro⟨⟨j,y⟩,hy,rfl⟩;exact o.lt j y<|(d j y).mp hy;intro hx;obtain⟨j,w⟩:=o.has x hx;exact⟨(j,x),(d j x).mpr w,rfl⟩;refine⟨r,?_,λj hj=>?_,λz hz=>?_⟩;show(List.map _ _).toArray.size=(List.map _<|List.map _ _).length;simp;have g:j∈List.map (·.1) ((List.range<|mask+1).filterMap λj=>(c.getD j none).map (j,·)):=hj;obtain⟨⟨a,b⟩,q,rfl⟩:=DD.mp g;have:=Uz<|(d a b).mp q;rw[o.size]at this;show a<=mask;exact dS this;have hz':z∈List.zip (List.map (·.1)<|(List.range<|mask+1).filterMap λj=>(c.getD j none).map (j,·)) (List.map (λi=>hs.getD i 0)<|List.map (·.2)<|(List.range<|mask+1).filterMap λj=>(c.getD j none).map (j,·)):=hz;rw[aE,List.zip_map',DD]at hz';obtain⟨⟨a,b⟩,q,rfl⟩:=hz';have l:=(d a b).mp q;have hb:=o.lt a b l;obtain⟨n,C,F⟩:=o.path a b (hs.getD b 0) l (by rw[Z_,bZ,aP hb];rfl);refine⟨n,C,λm v=>?_⟩;obtain⟨y,k⟩:=Option.isSome_iff_exists.mp<|F m v;exact DD.mpr ⟨(_,y),(d _ y).mpr k,rfl⟩
def Ef{xs:oC Nat}(h:E8 xs){j k:Nat}(e:xs[k]?=some j):SetTable.below xs j=k:=by
 obtain⟨hk,b⟩:=gV.mp e;obtain⟨h1,h2,a⟩:=E9 h j;have f:xs.getD k j=j:=by rw[bZ,e];rfl
 rcases kM (SetTable.below xs j) k with c|c|c;have:=h.lt (d:=j) c hk;have:=a _ (J_ _)<|fL c hk;omega;exact c;have:=h2 k c;omega
def U0{t:SetTable}{led:Bool}(h:TblOk t led){j:Nat}(hj:j∈t.place.toList):∃i,t.slot j=.live i/\t.place[i]?=some j:=by obtain⟨i,a⟩:=List.getElem?_of_mem hj;rw[Z_]at a;refine⟨i,?_,a⟩;unfold SetTable.slot;dsimp only;rw[Ef h.rise a,a];simp
def Qs{t:SetTable}{led:Bool}(h:TblOk t led){j:Nat}(hj:j∉t.place.toList):t.slot j=.empty:=by
 unfold SetTable.slot;dsimp only;rw[h.dum,Qi,M_]
 rfl
 intro c;have a:t.place[SetTable.below t.place j]?=some j:=by simpa using c
 rw[<- Z_]at a;exact hj<|N_ a
theorem Lm{d c:Type}(a:d)(b:c):∀(p:Nat) (xs:oA d) (ys:oA c),xs.length=ys.length->(xs.take p++a::xs.drop p).zip (ys.take p++b::ys.drop p)=(xs.zip ys).take p++(a,b)::(xs.zip ys).drop p
 | 0,xs,ys,_=>by simp
 |p+1,[],[],_=>by simp
 |p+1,x::xs,y::ys,h=>by have:=Lm a b p xs ys (by simpa using h);simpa using this
 |_+1,[],_::_,h=>by simp at h
 |_+1,_::_,[],h=>by simp at h
def TabQ.put{t:SetTable}{led:Bool}{hs:oA Int}{h:Int}{n:Nat}(q:TabQ t hs)(T:TblOk t led)(o:∀m,m<n->sq t.mask h m∈t.place.toList):TabQ (t.put<|sq t.mask h n).1 (hs.take (SetTable.below t.place<|sq t.mask h n)++h::hs.drop (SetTable.below t.place<|sq t.mask h n)):=by
 have hp:SetTable.below t.place (sq t.mask h n)<=t.place.size:=(E9 T.rise _).1;have e:(t.put<|sq t.mask h n).1.place.toList=t.place.toList.take (SetTable.below t.place<|sq t.mask h n)++sq t.mask h n::t.place.toList.drop (SetTable.below t.place<|sq t.mask h n):=Gj _ _ _ hp;have k:(t.put<|sq t.mask h n).1.mask=t.mask:=rfl;have l:=q.len;have g:∀j,j∈t.place.toList->j∈(t.put<|sq t.mask h n).1.place.toList:=λj hj=>by rw[e];rw[<- jA (SetTable.below t.place<|sq t.mask h n) t.place.toList]at hj;rcases P_.mp hj with hj|hj;exact aH _ hj;exact aU _<|aA _ hj
 have i:∀j,j∈(t.put<|sq t.mask h n).1.place.toList->j=sq t.mask h n\/j∈t.place.toList:=λj hj=>by rw[e]at hj;rcases P_.mp hj with hj|hj;exact .inr<|dL hj;rcases Y_.mp hj with hj|hj;exact .inl hj;exact .inr<|jP hj
 refine⟨q.msk,?_,λj hj=>?_,λz hz=>?_⟩;rw[<- aT,e];simp only[List.length_append,List.length_cons,List.length_take,List.length_drop,Array.length_toList];omega;rcases i j hj with rfl|hj;exact Ux _ _ _;exact q.le j hj;rw[e,Lm _ _ _ _ _<|by rw[aT];exact l]at hz;rw[k];have f:z∈t.place.toList.zip hs->∃c,sq t.mask z.2 c=z.1/\∀m,m<c->sq t.mask z.2 m∈(t.put<|sq t.mask h n).1.place.toList:=λhz=>by obtain⟨c,a,b⟩:=q.path z hz;exact⟨c,a,λm d=>g _<|b m d⟩
 rcases P_.mp hz with hz|hz;exact f<|dL hz;rcases Y_.mp hz with rfl|hz;exact⟨n,rfl,λm d=>g _<|o m d⟩;exact f<|jP hz
def AY{t:SetTable}{led:Bool}{hs:oA Int}(q:TabQ t hs)(T:TblOk t led)(a:hs.length<=t.mask):∃x,x<=t.mask/\x∉t.place.toList:=by refine aY λz=>?_;have:=Gm (ys:=t.place.toList) (kX (n:=t.mask+1)) λx hx=>aY λy=>z ⟨x,by have:=aL.mp hx;exact dS this,y⟩;rw[bE,aT,q.len]at this;omega
theorem probe_ok{t:SetTable}{led:Bool}(T:TblOk t led){hashAt:Nat->Int}{h:Int}{e:Nat}(he:sq t.mask h e∉t.place.toList)(hb:∀m,m<e->sq t.mask h m∈t.place.toList):∀(f n:Nat),n<=e->e<n+f ->
  (SetTable.probe.go t hashAt h f (Oj t.mask h n)=some (.empty (sq t.mask h e) none)/\∀m i,n<=m->m<e->t.place[i]?=some (sq t.mask h m)->hashAt i≠h) \/
  ∃k i,n<=k/\k<e/\t.place[i]?=some (sq t.mask h k)/\hashAt i=h/\SetTable.probe.go t hashAt h f (Oj t.mask h n)=some (.candidate (sq t.mask h k) i<|Oj t.mask h<|k+1)/\∀m i,n<=m->m<k->t.place[i]?=some (sq t.mask h m)->hashAt i≠h
 | 0,n,h1,h2=>by omega
 |f+1,n,h1,h2=>by
  rw[SetTable.probe.go];have p:∀{i i' j:Nat},t.place[i]?=some j->t.place[i']?=some j->i=i':=λa b=>(Ef T.rise a).symm.trans<|Ef T.rise b;rcases iI h1 with rfl|h1;rw[show t.slot (Oj t.mask h n).j=.empty from Qs T he];dsimp only;rw[Jr];exact .inl ⟨rfl,λm i a b=>by omega⟩;obtain⟨i,x,hp⟩:=U0 T<|hb n h1;rw[show t.slot (Oj t.mask h n).j=.live i from x];dsimp only;by_cases c:hashAt i=h;rw[T_<|by simpa using c];exact .inr ⟨n,i,J_ _,h1,hp,c,rfl,λm i a b=>by omega⟩;rw[M_<|by simpa using c,GP];have g:∀i',t.place[i']?=some (sq t.mask h n)->hashAt i'≠h:=λi' r=>by rw[p r hp];exact c
  rcases probe_ok T he hb f (n+1) h1 (by omega) with⟨a,b⟩|⟨k,i',u,a2,v,w,q,s⟩;refine .inl ⟨a,λm i' m1 l d=>?_⟩;rcases iI m1 with rfl|m1;exact g i' d;exact b m i' m1 l d;refine .inr ⟨k,i',fN u,a2,v,w,q,λm o m1 l d=>?_⟩;rcases iI m1 with rfl|m1;exact g o d;exact s m o m1 l d
end L2
namespace L2
open PySem
section
variable {prog:lJ}{w:lK}{A:lM}{E:lE->lF->Prop}{s:lF}
def AZ:∀(n q:Nat) (d:lG) (u:lE) (as:oA lH) (A:lM) (E:lE->lF->Prop) (s:lF) (Q:Bool->lF->Prop),d.depth<=n->n<q->Cano d=true->Reads s.heap u d as->Q false s->qQ prog w A (ofAClassStatement q u) Q E s:=by
 intro n
 induction n with
 |zero=>
  intro q d u as A E s Q F hq hc hr h;cases hr with
  |int i t=>unfold ofAClassStatement;exact C_ h
  |str x t=>unfold ofAClassStatement;exact C_ h
  |tuple f a2 g j=>simp[PyData.depth]at F
  |none=>simp[Cano]at hc
  |bool b=>simp[Cano]at hc
  |list f a2 g j=>simp[Cano]at hc
  |dict f a2 g j I=>simp[Cano]at hc
 |succ n M=>
  intro q d u as A E s Q F hq hc hr h;cases hr with
  |int i t=>unfold ofAClassStatement;exact C_ h
  |str x t=>unfold ofAClassStatement;exact C_ h
  |none=>simp[Cano]at hc
  |bool b=>simp[Cano]at hc
  |list f a2 g j=>simp[Cano]at hc
  |dict f a2 g j I=>simp[Cano]at hc
  |@tuple a o items m y as G c p P=>
   have O:s.TypeIs (.ref a) "tuple" := ⟨o,G,c⟩;have L:PyData.depthAll y<=n:=by simp only[PyData.depth]at F;omega
   have J:A7 y=true:=hc;obtain⟨l,rfl⟩:∃l,q=l+1:=⟨q-1,by omega⟩;unfold ofAClassStatement;refine A_<|iN O ?_;dsimp only;rw[T_ (by decide:("tuple" == "tuple")=true)];refine A_<|C_ ?_;simp only[Bool.not_true,Bool.false_eq_true,if_false];refine A_<|eI G p ?_;dsimp only;refine A_<|show wpAny _ _ (forIn items _ _) _ _ s from ?_;rw[<- iH];refine f_ _ (λrest r k=>r.1=none/\k=s/\∃e H,ReadsAll s.heap rest e H/\A7 e=true/\PyData.depthAll e<=n) _ ?_ ?_ _ _ ⟨rfl,rfl,y,as,P,J,L⟩
   ·rintro v rest r k ⟨hr,rfl,e,H,R,c,D⟩;cases R with
    |@cons _ _ d B C z h1 N=>simp only[A7,Bool.and_eq_true]at c;simp only[PyData.depthAll]at D;refine A_ (M l d v C A _ k _ (by omega) (by omega) c.1 h1 ?_);simp only[Bool.false_eq_true,if_false];exact C_ ⟨rfl,rfl,B,z,N,c.2,by omega⟩
   rintro⟨S,T⟩ k ⟨hr,rfl,_⟩;simp only at hr;subst hr;exact C_ h
def NP:∀(n q:Nat) (d:lG) (u:lE) (as:oA lH) (A:lM) (E:lE->lF->Prop) (s:lF) (Q:Bool->lF->Prop),d.depth<=n->Cano d=true->Reads s.heap u d as->(∀b,Q b s)->qQ prog w A (hashByValue q u) Q E s:=by
 intro n
 induction n with
 |zero=>
  intro q d u as A E s Q D hc hr h;cases hr with
  |int i t=>unfold hashByValue;exact C_ (h _)
  |str x t=>unfold hashByValue;exact C_ (h _)
  |tuple f a2 g j=>simp[PyData.depth]at D
  |none=>simp[Cano]at hc
  |bool b=>simp[Cano]at hc
  |list f a2 g j=>simp[Cano]at hc
  |dict f a2 g j J=>simp[Cano]at hc
 |succ n N=>
  intro q d u as A E s Q D hc hr h;cases hr with
  |int i t=>unfold hashByValue;exact C_ (h _)
  |str x t=>unfold hashByValue;exact C_ (h _)
  |none=>simp[Cano]at hc
  |bool b=>simp[Cano]at hc
  |list f a2 g j=>simp[Cano]at hc
  |dict f a2 g j J=>simp[Cano]at hc
  |@tuple a o items m p as G c l R=>
   have P:s.TypeIs (.ref a) "tuple" := ⟨o,G,c⟩;have M:PyData.depthAll p<=n:=by simp only[PyData.depth]at D;omega
   have L:A7 p=true:=hc;cases q with
   |zero=>unfold hashByValue;exact C_ (h _)
   |succ I=>
    unfold hashByValue;refine A_<|dX P F.slot_tuple_hash.lookup<|show wpAny _ _ (seqItems? (.ref a)>>=_) _ _ s from ?_;refine A_<|eI G l<|A_<|show wpAny _ _ (forIn items _ _) _ _ s from ?_;rw[<- iH];refine f_ _ (λrest r k=>r.1=none/\k=s/\∃e H,ReadsAll s.heap rest e H/\A7 e=true/\PyData.depthAll e<=n) _ ?_ ?_ _ _ ⟨rfl,rfl,p,as,R,L,M⟩
    ·rintro v rest r k ⟨hr,rfl,e,H,S,c,C⟩;cases S with
     |@cons _ _ d z B y h1 O=>simp only[A7,Bool.and_eq_true]at c;simp only[PyData.depthAll]at C;refine A_ (N I d v B A _ k _ (by omega) c.1 h1 λb=>?_);cases b;exact C_<|C_<|h _;exact C_ ⟨rfl,rfl,z,y,O,c.2,by omega⟩
    rintro⟨T,U⟩ k ⟨hr,rfl,_⟩;simp only at hr;subst hr;exact C_<|h _
def Cq(h:lN)(d:lG)(b:lH):Prop:=KeyTree d/\∃a,Reads h (.ref b) d a
def GV{d:lG}{b:lH}(hx:Cq s.heap d b):∀{i:oA lE} {Q:Bool->lF->Prop},(∀v∈i,∃e c,v=.ref c/\Cq s.heap e c)->Q false s->qQ prog w A (searchCouldBeSeen (.ref b) i) Q E s:=by intro i Q hv h;obtain⟨a,k,j⟩:=hx;unfold searchCouldBeSeen;refine A_<|f_ _ (λrest r f=>r.1=none/\f=s/\∀v∈rest,∃e c,v=.ref c/\Cq s.heap e c) _ ?_ ?_ _ _ ⟨rfl,rfl,hv⟩;rintro v rest ⟨p,o⟩ f ⟨hr,rfl,hv'⟩;obtain⟨e,c,rfl,g,n,l⟩:=hv' v<|.head _;have m:∀v∈rest,∃e c,v=.ref c/\Cq f.heap e c:=λv h=>hv' v<|.tail _ h;dsimp only;split;exact C_ ⟨rfl,rfl,m⟩;refine A_ (Ll 6 8 _ _ k _ _ _ _ a.dep (by decide) a.can j ?_);simp only[Bool.not_true,Bool.false_eq_true,if_false];refine A_ (Ll 6 8 _ _ n _ _ _ _ g.dep (by decide) g.can l ?_);simp only[Bool.not_true,Bool.false_eq_true,if_false];refine A_ (AZ 6 8 _ _ k _ _ _ _ a.dep (by decide) a.can j ?_);simp only[Bool.false_eq_true,if_false];refine A_ (AZ 6 8 _ _ n _ _ _ _ g.dep (by decide) g.can l ?_);simp only[Bool.false_eq_true,if_false];exact C_ ⟨rfl,rfl,m⟩;rintro⟨p,o⟩ f ⟨hr,rfl,_⟩;simp only at hr;subst hr;exact C_ h
def Ol(w:lK)(x:lG×lH):Int×lE:=(Bj w x.1,.ref x.2)
def Fq(w:lK)(h:lN)(a:lH)(xs:oA<|lG×lH)(led:Bool):Prop :=
 ∃o b c t,h.get? a=some o/\o.ExactSet/\o.data=.set b c t/\b.toList=xs.map (Ol w)/\(∀x∈xs,Cq h x.1 x.2)/\t.fits b.size=true/\TblOk t led/\TabQ t (xs.map λx=>Bj w x.1)/\xs.length*5<t.mask*3
def Sy{t:SetTable}{f g:Nat->Int}{h:Int}{p:SetTable.Probe}(e:∀i,f i=g i):t.probe f h p=t.probe g h p:=by rw[funext e]
def GW{t:SetTable}{hs:oA Int}(q:TabQ t hs):t.gaveWay=false:=by unfold SetTable.gaveWay;rcases q.msk with h|h|h|h|h|h<;>rw[h]<;>decide
def GX{b:Type}{c:Prop} [Decidable c]{m1 a:Sem b}{Q:b->lF->Prop}(h:qQ prog w A a Q E s)(h1:qQ prog w A a Q E s->qQ prog w A m1 Q E s):qQ prog w A (if c then m1 else a) Q E s:=by split;exact h1 h;exact h
def Xc{a:lH}{o:lO}{es:oC<|Int×lE}{ep:Nat}{t:SetTable}{xs:oA<|lG×lH}{led:Bool}{d:lG}{b:lH}{Q:SetFound->lF->Prop}{p:Nat}(hu:A.units+6<cLine)(X:s.heap.get? a=some o)(hd:o.data=.set es ep t)(N:es.toList=xs.map (Ol w))(Z:∀x∈xs,Cq s.heap x.1 x.2)(Y:t.fits es.size=true)(z:TblOk t led)(G:TabQ t<|xs.map λx=>Bj w x.1)(hx:Cq s.heap d b)
  (he:sq t.mask (Bj w d) p∉t.place.toList) (hb:∀m,m<p->sq t.mask (Bj w d) m∈t.place.toList) (ju:p<10*SetTable.turns t.mask)
  (h1:d∈xs.map (·.1)->Q (.there none) s) (h2:d∉xs.map (·.1)->Q (.free (sq t.mask (Bj w d) p) false) s) :
  ∀(k n fuel:Nat) (C:oB SetTable.Probe),n+k=p->k<fuel->(C=some (Oj t.mask (Bj w d) n)\/C=none/\n=0)->(∀(m i:Nat) (x:lG×lH),m<n->t.place[i]?=some (sq t.mask (Bj w d) m)->xs[i]?=some x->x.1≠d) ->
   qQ prog w A (setSearchFrom a (.ref b) (Bj w d) true fuel C) Q E s:=by
 intro k
 induction k using Nat.strongRecOn with
 |_ k ih=>
 intro n fuel C hn hfu bn V;obtain⟨fuel,rfl⟩:∃f,fuel=f+1:=⟨fuel-1,by omega⟩;have T:∀{i:Nat} {x:lG×lH},xs[i]?=some x->es[i]?=some (Ol w x):=λ{i x} h=>by rw[<- Z_,N,G_,h];rfl
 have L:∀{i j:Nat},t.place[i]?=some j->∃x,xs[i]?=some x:=λ{i j} h=>by have l:=(gV.mp h).1;have:=G.len;rw[B_]at this;exact⟨_,F_<|by omega⟩
 unfold setSearchFrom;refine A_<|bK X hd Y ?_;dsimp only;rw[GW G,M_ Q_];have x9:C.getD (t.probeStart<|Bj w d)=Oj t.mask (Bj w d) n:=by
  rcases bn with rfl|⟨rfl,rfl⟩
  rfl
  rfl
 rw[x9,Sy (g:=λi=>((xs.map λx=>Bj w x.1)[i]?).getD 0) ?_];have S:=probe_ok (hashAt:=λi=>((xs.map λx=>Bj w x.1)[i]?).getD 0) z he hb (10*SetTable.turns t.mask) n (by omega) (by omega);rcases S with⟨a1,a2⟩|⟨u,i,b1,b2,J,b4,b5,b6⟩;rw[show t.probe (λi=>((xs.map λx=>Bj w x.1)[i]?).getD 0) (Bj w d) (Oj t.mask (Bj w d) n)=_ from a1];dsimp only;refine C_<|h2 λa8=>?_;obtain⟨x,F,rfl⟩:=DD.mp a8;obtain⟨i,l⟩:=List.getElem?_of_mem F;have O:i<t.place.size:=by have:=G.len;have:=(E_.mp l).1;rw[B_]at *;omega
 have r:t.place[i]?=some t.place[i]:=aP O;obtain⟨B,R,U⟩:=G.path (t.place[i],Bj w x.1)<|N_ (i:=i)<|by
  rw[List.getElem?_zip_eq_some];exact⟨by rw[Z_];exact r,by rw[G_,l];rfl⟩
 dsimp only at R U;have ba:B<p:=by rcases kM B p with c|c|c;exact c;subst c;rw[R]at he;exact absurd (by rw[<- Z_]at r;exact N_ r) he;exact absurd (U p c) he
 rw[<- R]at r;rcases cL B n with c|c;exact V B i x c r l rfl;exact a2 B i c ba r (by rw[G_,l];rfl);rw[show t.probe (λi=>((xs.map λx=>Bj w x.1)[i]?).getD 0) (Bj w d) (Oj t.mask (Bj w d) n)=_ from b5];obtain⟨x,l⟩:=L J;have F:=N_ l;dsimp only;rw[T l];dsimp only[Ol];refine GX ?_ λgo=>A_ (GV hx (λv hv=>?_)<|by rw[M_ Q_];exact go);refine A_<|bT<|(Qp prog w).eqBool hu (Z x F) hx ?_;refine A_<|bK X hd Y ?_;dsimp only;by_cases q:x.1=d;rw[aV q,T_<|by rfl];exact C_<|h1<|DD.mpr ⟨x,F,q⟩;rw[aW q,M_<|by decide,show t.sameMemory t.moves t.mask=some true by unfold SetTable.sameMemory;rw[T_<|by simp]];dsimp only;obtain⟨W,mq,I⟩:=U0 z<|hb u b2;have cu:W=i:=(Ef z.rise I).symm.trans<|Ef z.rise J;subst cu;rw[T_ rfl,mq];dsimp only;rw[T l];dsimp only[Ol];refine A_<|wpAny_isSame_ref_self<|A_<|C_ ?_;show wpAny _ _ (if false=true then _ else setSearchFrom a (.ref b) (Bj w d) true fuel<|some<|Oj t.mask (Bj w d)<|u+1) _ _ _;rw[M_ Q_];refine ih (p-(u+1)) (by omega) (u+1) fuel _ (by omega) (by omega) (.inl rfl) λm H y M P D=>?_;rcases cL m n with c|c;exact V m H y c P D;rcases cL m u with c2|c2;intro e5;refine b6 m H c c2 P ?_;rw[G_,D,<- e5];rfl;have e6:m=u:=by omega
 subst e6;have e7:H=W:=(Ef z.rise P).symm.trans<|Ef z.rise J;subst e7;rw[l]at D;cases D;exact q;obtain⟨e,av,rfl⟩:=DD.mp hv;have M:=(Array.mem_filter.mp<|Array.mem_toList_iff.mp av).1;rw[<- Array.mem_toList_iff,N]at M;obtain⟨y,hy,rfl⟩:=DD.mp M;exact⟨y.1,y.2,rfl,Z y hy⟩;intro i;show(es[i]?.map (·.1)).getD 0=_;rw[<- Z_,N,G_,G_];cases xs[i]?<;>rfl
def Cq.but{h h':lN}{p:lH}{d:lG}{b:lH}(x:Cq h d b)(hk:∀c o,c≠p->h.get? c=some o->h'.get? c=some o)(hp:∀o e n,h.get? p=some o->o.data≠.seq e n):Cq h' d b:=by obtain⟨k,a,r⟩:=x;exact⟨k,a,Jp hk hp r k.can⟩
def Ln{a:lH}{led:Bool}{h:lN}{o:lO}{es:oC<|Int×lE}{ep:Nat}{t:SetTable}(j:h.get? a=some o)(v:o.ExactSet)(g:o.data=.set es ep t){b:oC<|Int×lE}{t':SetTable}{d:oA<|lG×lH}(y:b.toList=d.map (Ol w))(u:∀x∈d,Cq h x.1 x.2)(l:t'.fits b.size=true)(r:TblOk t' led)(k:TabQ t'<|d.map λx=>Bj w x.1) :
  (h.update a<|Obj.putSet b t').get? a=some {o with data:=.set b (ep+1) t'}/\(∀x∈d,Cq (h.update a<|Obj.putSet b t') x.1 x.2)/\(d.length*5<t'.mask*3->Fq w (h.update a<|Obj.putSet b t') a d led):=by
 have e:=bD (Obj.putSet b t') j (by rw[putSet_of b t' g];rfl);rw[putSet_of b t' g]at e;have f:∀x∈d,Cq (h.update a<|Obj.putSet b t') x.1 x.2:=λx hx=>(u x hx).but (p:=a) (λc o hc e=>((aN h a<|Obj.putSet b t').2 c hc).trans e) (λz B n i q=>by rw[j]at i;cases i;rw[g]at q;cases q);exact⟨e,f,λm=>⟨_,b,ep+1,t',e,v,rfl,y,f,l,r,k,m⟩⟩
theorem Lo{b:Type}:∀(ys a:oA b),(List.range' a.length ys.length).filterMap (λi=>(a++ys)[i]?)=ys
 |[],a=>rfl
 |y::ys,a=>by have:=Lo ys<|a++[y];rw[O_,eL]at this;rw[aS,List.range'_succ,fS,cF<|J_ _,lB];show y::_=_;exact cV (y::·) this
def Sz{a:Type}{xs:oA a}{l:oA Nat}(hp:l.Perm<|List.range xs.length):(l.filterMap λi=>xs[i]?).Perm xs:=by have h1:=hp.filterMap λi=>xs[i]?;have h2:=Lo xs [];rw[List.nil_append,List.length_nil,<- List.range_eq_range']at h2;rwa[h2]at h1
theorem Nm{xs:oA<|lG×lH}{hs:oC Int}(b:hs.toList=xs.map λx=>Bj w x.1):∀(l:oA Nat),(∀i∈l,i<xs.length)->(l.map λi=>hs.getD i 0)=(l.filterMap λi=>xs[i]?).map λx=>Bj w x.1
 |[],_=>rfl
 |i::l,a=>by have c:=a i<|.head _;have e:xs[i]?=some xs[i]:=F_ c;rw[aQ,fS,e,aQ,Nm b l λj hj=>a j<|.tail _ hj];rw[bZ,<- Z_,b,G_,e];rfl
def BA{a:lH}{led:Bool}{o:lO}{es:oC<|Int×lE}{ep:Nat}{t:SetTable}{xs:oA<|lG×lH}{c:Nat}{Q:Unit->lF->Prop}(p:s.heap.get? a=some o)(D:o.ExactSet)(u:o.data=.set es ep t)(r:es.toList=xs.map (Ol w))(I:∀x∈xs,Cq s.heap x.1 x.2)(F:t.fits es.size=true)(H:TblOk t led) (J:Msk<|SetTable.sizeAbove c-1) (hz:SetTable.sizeAbove c<=sizeLine) (O:xs.length*5<(SetTable.sizeAbove c-1)*3)
  (h:∀m y,Heap.SameBut a s.heap m->Fq w m a y led->y.Perm xs->Q () {s with heap:=m}):qQ prog w A (setRelay a c) Q E s:=by
 have l:es.size=xs.length:=by rw[<- aT,r,B_]
 have q:(es.map (·.1)).toList=xs.map λx=>Bj w x.1:=by rw[Array.toList_map,r,aE];rfl
 obtain⟨d,b,v,B,n,j⟩:=GU (f:=t.finger) (mv:=t.movedTo<|SetTable.sizeAbove c-1) (led:=t.led) (pl:=t.plain) J (es.map (·.1)) (by rw[Array.size_map,l];omega);rw[Array.size_map,l]at n;have z:TblOk d led:=by have:=TblOk.laid v;rw[H.led]at this;exact this
 have M:∀i∈b.toList,i<xs.length:=λi L=>aL.mp<|n.mem_iff.mp L;rw[Nm q b.toList M]at j;have e:=Sz n;have k:(b.filterMap λi=>es[i]?).toList=(b.toList.filterMap λi=>xs[i]?).map (Ol w):=by rw[Array.toList_filterMap,List.map_filterMap];congr 1;funext i;rw[<- Z_,r,G_]
 have g:(b.filterMap λi=>es[i]?).size=es.size:=by rw[<- aT,k,B_,e.length_eq,l]
 unfold setRelay;refine A_<|bK p u F<|show wpAny _ _ _ _ _ _ from ?_;dsimp only;rw[M_<|kL.mpr hz,show t.relaid (es.map (·.1)) c=some (d,b) from v];refine A_<|show wpAny _ _ (if((b.filterMap λi=>es[i]?).size != es.size)=true then _ else pure (b.filterMap λi=>es[i]?,d)) _ _ _ from ?_;rw[M_<|by rw[g];simp];refine C_<|show wpAny _ _ (storeSet a (b.filterMap λi=>es[i]?) d) _ _ _ from ?_;generalize (b.filterMap λi=>es[i]?)=es2 at k g;generalize (b.toList.filterMap λi=>xs[i]?)=xs2 at k e j;have R:=e.length_eq;have G:d.fits es2.size=true:=by have:=j.len;rw[B_]at this;simp only[SetTable.fits,SetTable.fill,z.dum,Bool.and_eq_true,beq_iff_eq,decide_eq_true_eq];rw[B,g];refine⟨by omega,?_⟩;show d.place.size+0<=_;omega
 obtain⟨N,P,C⟩:=Ln (led:=led) p D u k (λx hx=>I x<|e.mem_iff.mp hx) G z j;exact wpAny_storeSet_of p u (h _ _ (aN _ _ _) (C<|by rw[B];omega) e) (by rw[g,l];have:sizeLine=16777216:=rfl;omega)
def TabQ.pln{t:SetTable}{hs:oA Int}(q:TabQ t hs)(b:Bool):TabQ {t with plain:=b} hs:=⟨q.msk,q.len,q.le,q.path⟩
def GY{m n:Nat}(b:Msk m)(d:n<4900)(h:n*5<m*3)(c:(n+1)*5>=m*3):Msk (SetTable.sizeAbove (SetTable.grown<|n+1)-1)/\SetTable.sizeAbove (SetTable.grown<|n+1)<=sizeLine/\(n+1)*5<(SetTable.sizeAbove (SetTable.grown<|n+1)-1)*3:=by obtain⟨i,e,a⟩:∃i,n+1=i/\(i=5\/i=19\/i=77\/i=307\/i=1229):=⟨_,rfl,by unfold Msk at b;omega⟩;rw[e];unfold Msk;rcases a with rfl|rfl|rfl|rfl|rfl<;>decide +kernel
def NQ{m n:Nat}(h:n*5<m*3):n+1+0<=m:=by omega
def BB{m:Nat}(h:Msk m):10*SetTable.turns m<=100000:=by unfold SetTable.turns;unfold Msk at h;omega
def BC{a:lH}{led:Bool}{xs:oA<|lG×lH}{d:lG}{b:lH}{Q:Bool->lF->Prop}(hu:A.units+6<cLine)(hx:Cq s.heap d b)(hS:Fq w s.heap a xs led)(hn:xs.length<4900)
  (h1:d∈xs.map (·.1)->Q false s) (h2:d∉xs.map (·.1)->∀z G,Heap.SameBut a s.heap z->Fq w z a G led->G.Perm ((d,b)::xs)->Q true {s with heap:=z}) :
  qQ prog w A (setAddHashed a (.ref b)<|Bj w d) Q E s:=by
 obtain⟨o,r,ep,t,B,T,D,N,hX,P,q,l,hB⟩:=hS;have jt:r.size=xs.length:=by rw[<- aT,N,B_]
 have hpl:t.place.size=xs.length:=by have:=l.len;rwa[B_]at this
 obtain⟨x0,dy,gj⟩:=AY l q (by rw[B_];omega);obtain⟨f,X,f2,Z⟩:=Sx l.msk (Bj w d) (λj=>j∈t.place.toList) dy gj;unfold setAddHashed setAddHashedIn;refine bT<|A_<|bK B D P<|show wpAny _ _ _ _ _ _ from ?_;dsimp only;rw[show byScan (.ref b) r=false from rfl,M_ Q_];unfold setSearch;refine A_ (Xc hu B D N hX P q l hx f2 Z X (λa8=>?_) (λz3=>?_) f 0 100000 none (by omega) ?_ (.inr ⟨rfl,rfl⟩) λm i x hm=>absurd hm<|jX _);exact C_<|h1 a8;dsimp only;refine A_<|bK B D P ?_;dsimp only;have hp:SetTable.below t.place (sq t.mask (Bj w d) f)<=t.place.size:=(E9 q.rise _).1;have u:=l.put (h:=Bj w d) (n:=f) q Z;have H:=q.put<|So q<|Qs q f2;have Y:(t.put<|sq t.mask (Bj w d) f).2=SetTable.below t.place (sq t.mask (Bj w d) f):=rfl;have F:(t.put<|sq t.mask (Bj w d) f).1.mask=t.mask:=rfl;rw[Y];have g:(t.put<|sq t.mask (Bj w d) f).1.place.size=xs.length+1:=by have:=u.len;rw[this];simp only[List.length_append,List.length_cons,List.length_take,List.length_drop,List.length_map];omega
 generalize gx:SetTable.below t.place (sq t.mask (Bj w d) f)=p at hp u ⊢;generalize (t.put<|sq t.mask (Bj w d) f).1=t1 at u H F g ⊢;have C:(SetTable.insertAt r p (Bj w d,.ref b)).toList=(xs.take p++(d,b)::xs.drop p).map (Ol w):=by rw[Gj _ _ _<|by omega,N,L_,aQ,List.map_take,List.map_drop];rfl
 have M:TabQ t1 ((xs.take p++(d,b)::xs.drop p).map λx=>Bj w x.1):=by rw[L_,aQ,List.map_take,List.map_drop];exact u
 have v:(xs.take p++(d,b)::xs.drop p).Perm ((d,b)::xs):=by refine List.perm_middle.trans ?_;rw[jA]
 have L:=v.length_eq;rw[aS]at L;have y:∀x∈xs.take p++(d,b)::xs.drop p,Cq s.heap x.1 x.2:=λx hx'=>by rcases Y_.mp (v.mem_iff.mp hx') with rfl|hx';exact hx;exact hX x hx'
 have ql:(SetTable.insertAt r p (Bj w d,.ref b)).size=xs.length+1:=by rw[<- aT,C,B_,L]
 generalize SetTable.insertAt r p (Bj w d,.ref b)=es1 at C ql ⊢;generalize xs.take p++(d,b)::xs.drop p=xs1 at C M v L y;clear gx hp u Y;have hsl:sizeLine=16777216:=rfl;have k:∀e:SetTable,e.mask=t.mask->e.place.size=xs.length+1->TblOk e led->TabQ e (xs1.map λx=>Bj w x.1)->qQ prog w A (do
   storeSet a es1 e
   if(!false&&e.tooFull)=true then do
    setRelay a (SetTable.grown<|r.size+1)
    pure true
   else pure true) Q E s:=λe O R J g4=>by
  have U:e.fits es1.size=true:=by simp only[SetTable.fits,SetTable.fill,J.dum,Bool.and_eq_true,beq_iff_eq,decide_eq_true_eq];refine⟨R.trans ql.symm,?_⟩;show e.place.size+0<=_;rw[O,R];exact NQ hB
  obtain⟨k1,k2,k3⟩:=Ln (led:=led) B T D C y U J g4;have S:=aN s.heap a<|Obj.putSet es1 e;refine A_ (wpAny_storeSet_of B D ?_<|by omega);have W:e.tooFull=decide ((xs.length+1)*5>=t.mask*3):=by unfold SetTable.tooFull SetTable.fill;rw[O,R,J.dum];rfl
  by_cases c:(xs.length+1)*5>=t.mask*3;rw[T_<|by rw[W,aV c];rfl];have I:=GY l.msk hn hB c;rw[<- jt]at I;refine A_ (BA (s:={s with heap:=s.heap.update a<|Obj.putSet es1 e}) (o:={o with data:=.set es1 (ep+1) e}) k1 T rfl C k2 U J I.1 I.2.1 (by rw[L,<- jt];exact I.2.2) λz G c1 c2 c3=>C_ ?_);exact h2 z3 z G (S.trans c1) c2<|c3.trans v;rw[M_<|by rw[W,aW c];decide];exact C_<|h2 z3 _ _ S (k3<|by rw[O];omega) v
 split;obtain⟨V,as,rx⟩:=hx;refine A_<|NP 6 8 _ _ as _ _ _ _ V.dep V.can rx λbv=>?_;cases bv;exact k _ F g (H.plain false)<|M.pln false;exact k _ F g H M;exact A_<|C_<|k _ F g H M;exact V_ X<|BB l.msk
end
end L2
namespace L2
open PySem PySem.Spec PyProof.Rows
section
variable {prog:lJ}{w:lK}{A:lM}{R:lV->lF->Prop}{sa it t:lH}{led:Bool}{X:Cx}{aa:oA<|lH×lO}{σ:St}{H:Hp}{s:lF}{k:Nat}
structure StepIt(prog:lJ)(w:lK)(it t:lH)(items:oC lE)(St:Nat->lN->Prop):Prop where
 item:∀{A:lM} {E:lE->lF->Prop} {s:lF} {i:Nat} {x:lE} {Q:oB lE->lF->Prop},St i s.heap->items[i]?=some x->(∀h',St (i+1) h'->Heap.SameBut it s.heap h'->Q (some x) {s with heap:=h'})->qQ prog w A (pyNext<|.ref it) Q E s
 fin:∀{A:lM} {E:lE->lF->Prop} {s:lF} {i:Nat} {Q:oB lE->lF->Prop},A.handled=none->St i s.heap->items[i]?=none->(∀h',Heap.ExtBut it s.heap h'->Q none {s with heap:=h'})->qQ prog w A (pyNext<|.ref it) Q E s
 keep:∀{i:Nat} {h h':lN} {p:lH},it≠p->t≠p->St i h->Heap.SameBut p h h'->St i h'
 noseq:∀{i:Nat} {h:lN} {o:lO} {vs:oC lE} {n:Nat},St i h->h.get? it=some o->o.data≠.seq vs n
def Xd{items:oC lE}(l:t≠it):StepIt prog w it t items λi h=>h.IsListIter it t i/\h.IsList t items where
 item:=λst hx q=>wpAny_pyNext_list_item st.1 st.2 hx λf g a=>q f ⟨g,by obtain⟨o,e,r⟩:=st.2;exact⟨o,(a.2 t l).trans e,r⟩⟩ a
 fin:=λj st hx q=>wpAny_pyNext_list_end j st.1 st.2 hx q
 keep:=λh1 h2 st a=>⟨st.1.at λo e=>(a.2 it h1).trans e,by obtain⟨o,e,r⟩:=st.2;exact⟨o,(a.2 t h2).trans e,r⟩⟩
 noseq:=λst e q=>by obtain⟨⟨o,b,c,d⟩,_⟩:=st;rw[e]at b;cases b;rw[d]at q;cases q
def S8{items:oC lE}(l:t≠it):StepIt prog w it t items λi h=>h.IsTupleIter it t i/\h.IsTuple t items where
 item:=λst hx q=>wpAny_pyNext_tuple_item st.1 st.2 hx λf g a=>q f ⟨g,st.2.at λo e=>(a.2 t l).trans e⟩ a
 fin:=λj st hx q=>wpAny_pyNext_tuple_end j st.1 st.2 hx q
 keep:=λh1 h2 st a=>⟨st.1.at λo e=>(a.2 it h1).trans e,st.2.at λo e=>(a.2 t h2).trans e⟩
 noseq:=λst e q=>by obtain⟨⟨o,b,c,d⟩,_⟩:=st;rw[e]at b;cases b;rw[d]at q;cases q
def Fq.at{h h':lN}{xs:oA<|lG×lH}(x:Fq w h sa xs led)(hs:∀o,h.get? sa=some o->h'.get? sa=some o)(g:∀x∈xs,Cq h x.1 x.2->Cq h' x.1 x.2):Fq w h' sa xs led:=by obtain⟨o,f,c,d,e,a,a2,b,i,r⟩:=x;exact⟨o,f,c,d,hs o e,a,a2,b,λx hx=>g x hx<|i x hx,r⟩
def Fq.noseq{h:lN}{xs:oA<|lG×lH}(x:Fq w h sa xs led){o:lO}{b:oC lE}{n:Nat}(e:h.get? sa=some o):o.data≠.seq b n:=λq=>by obtain⟨c,g,d,f,a,_,a2,_⟩:=x;rw[e]at a;cases a;rw[a2]at q;cases q
def Nn{St:Nat->lN->Prop}{items:oC lE}(S:StepIt prog w it t items St)(hh:A.handled=none)(hu:A.units+20<cLine)(be:sa≠it)(bn:sa≠t){ks:oA<|lG×lH}(fc:items.toList=ks.map λx=>.ref x.2)(i7:∀O:oA lG,O.Nodup->(∀d∈O,d∈ks.map (·.1))->O.length<4900) :
  ∀(m i:Nat) (s:lF) (xs:oA<|lG×lH),m+i=items.size->St i s.heap->Fq w s.heap sa xs led->(∀x∈ks,Cq s.heap x.1 x.2)->(xs.map (·.1)).Nodup->(∀d,d∈xs.map (·.1)↔d∈(ks.take i).map (·.1))->(∀x∈xs,x∈ks)->xs.length<=i ->
   (∀a j f,(∀b o,b≠sa->b≠it->s.heap.get? b=some o->a.get? b=some o)->Fq w a sa f led->(f.map (·.1)).Nodup->(∀d,d∈f.map (·.1)↔d∈ks.map (·.1))->(∀x∈f,x∈ks)->f.length<=items.size->R (.ok<|.ret .none) {s with heap:=a,toks:=j}) ->
   codeAny (model prog w) A (.builtin "set.update.loop" ⟨[.ref sa,.ref it],[]⟩) R s:=by
 have bx:ks.length=items.size:=by rw[<- aT,fc,B_]
 intro m
 induction m with
 |zero=>intro i s xs hm B U F r G l hl q;refine eT Qj ?_;rw[dJ Il _];refine(show wpAny _ A.in1 (pyNext (.ref it)>>=_) _ _ s from A_<|S.fin (show A.in1.handled=none from hh) B (by rw[cN<|by omega]) λa hx=>?_);refine C_ (q a s.toks xs (λb o h1 h2 e=>hx b o h2 e) ?_ r (λd=>?_) l<|by omega);exact U.at (λo e=>hx sa o be e) λx _ g=>g.but (p:=it) (λc o hc e=>hx c o hc e) λo vs n e=>S.noseq B e;rw[G d,gG<|by omega]
 |succ m ih=>
  intro i s xs hm B U F r G l hl q;have hi:i<items.size:=by omega
  have M:i<ks.length:=by omega
  have hx:items[i]?=some (.ref ks[i].2):=by rw[<- Z_,fc,G_,F_ M];rfl
  have L:∀d,d∈(ks.take<|i+1).map (·.1)↔d=ks[i].1\/d∈(ks.take i).map (·.1):=λd=>by rw[aM,F_ M,L_,P_];simp only[Option.toList_some,List.map_cons,List.map_nil,List.mem_singleton];exact Or.comm
  have T:=e_ M;generalize ks[i]=kx at hx L T;obtain⟨d0,J⟩:=kx;refine eT Qj ?_;rw[dJ Il _];refine(show wpAny _ A.in1 (pyNext (.ref it)>>=_) _ _ s from A_<|S.item B hx λh1 u D=>?_);have E:∀{d:lG} {b:lH},Cq s.heap d b->Cq h1 d b:=λg=>g.but (p:=it) (λc o hc e=>(D.2 c hc).trans e) λo vs n e=>S.noseq B e;have I:Fq w h1 sa xs led:=U.at (λo e=>(D.2 sa be).trans e) λx _ g=>E g;have je:xs.length<4900:=by
   have:=i7 (xs.map (·.1)) r λd hd1=>by obtain⟨y,hy,rfl⟩:=DD.mp hd1;exact DD.mpr ⟨y,l y hy,rfl⟩
   rwa[B_]at this
  have z4:Cq h1 d0 J:=E<|F _ T;refine(show wpAny _ A.in1 (holding [.ref J] (setAdd sa<|.ref J)>>=_) _ _ _ from A_<|bT ?_);unfold setAdd;have z:A.in1.units+6<cLine:=by show A.units+1+6<cLine;omega
  refine bT<|A_<|(Qp prog w).pyHash (s:={s with heap:=h1}) z z4 ?_;refine BC (s:={s with heap:=h1,toks:=s.toks+Jo d0}) z z4 I je (λii=>?_) λbg h2 f Q V hp=>?_;refine C_ ⟨eZ Il _,ih (i+1) _ xs (by omega) u I (λx hx'=>E<|F x hx') r (λd=>?_) l (bC hl) λa j my P Z a2 N a4 Y=>?_⟩;rw[L d,<- G d];exact⟨.inr,λh=>h.elim (λe=>by rw[e];exact ii) id⟩;exact q a j my (λb o C v e=>P b o C v<|(D.2 b v).trans e) Z a2 N a4 Y;have ag:f.length=xs.length+1:=hp.length_eq;have W:∀{d:lG} {b:lH},Cq h1 d b->Cq h2 d b:=λg=>g.but (p:=sa) (λc o hc e=>(Q.2 c hc).trans e) λo vs n e=>I.noseq e;have n5:=hp.map (·.1);refine C_ ⟨eZ Il _,ih (i+1) _ f (by omega) (S.keep be.symm bn.symm u Q) V (λx hx'=>W<|E<|F x hx') (n5.nodup_iff.mpr<|cP.mpr ⟨bg,r⟩) (λd=>?_) (λx hx'=>?_) (by omega) λa j my P Z a2 N a4 Y=>?_⟩;rw[n5.mem_iff,L d,<- G d];exact Y_;rcases Y_.mp (hp.mem_iff.mp hx') with rfl|hx';exact T;exact l x hx';exact q a j my (λb o C v e=>P b o C v<|(Q.2 b C).trans<|(D.2 b v).trans e) Z a2 N a4 Y
def Qt:isSubtype (.type "list") (.type "set")=pure false:=by rw[dQ];kernel_rfl
def Qu:isSubtype (.type "list") (.type "frozenset")=pure false:=by rw[dQ];kernel_rfl
def Qv{h:lN}:Fq w (h.push<|Co w) h.objs.size [] (Hi w) :=
 ⟨_,#[],0,_,K_ _ rfl,⟨rfl,rfl,rfl⟩,rfl,rfl,(λ_ z=>nomatch z),rfl,TblOk.fresh _,⟨.inl rfl,rfl,(λ_ z=>nomatch z),(λ_ z=>nomatch z)⟩,(show 0*5<7*3 by decide)⟩
def BD{E:lE->lF->Prop}{s:lF}{id:String}{items:oC lE}{ks:oA<|lG×lH}{Q:Unit->lF->Prop}(m:A.handled=none)(hu:A.units+20<cLine)(ht:s.heap.IsList t items)(B:items.toList=ks.map λx=>.ref x.2)(G:∀x∈ks,Cq s.heap x.1 x.2)(J:∀g:oA lG,g.Nodup->(∀d∈g,d∈ks.map (·.1))->g.length<4900)
  (i:Fq w s.heap sa [] led) (F:sa≠t)
  (h:∀c f a,(∀b o,b≠sa->s.heap.get? b=some o->c.get? b=some o)->Fq w c sa a led->(a.map (·.1)).Nodup->(∀d,d∈a.map (·.1)↔d∈ks.map (·.1))->(∀x∈a,x∈ks)->a.length<=items.size->Q () {s with heap:=c,toks:=f}) :
  qQ prog w A (Builtin.Frozenset.updateFrom id sa<|.ref t) Q E s:=by
 have T:s.TypeIs (.ref t) "list" := ht.typeIs;have O:=Qt;have M:=Qu;have N:(Value.type "list" == Value.type "dict")=false:=by decide
 unfold Builtin.Frozenset.updateFrom;generalize q:pyIter=PI
 wp_walk
 subst q;refine gR ht<|show wpAny _ _ _ _ _ _ from A_<|wpAny_runValue ?_;have v:t<s.heap.objs.size:=by obtain⟨o,e,_⟩:=ht;exact S_ e
 have D:sa<s.heap.objs.size:=by obtain⟨o,_,_,_,e,_⟩:=i;exact S_ e
 have j:∀{d:lG} {b:lH},Cq s.heap d b->Cq (s.heap.push {cls:=.type "list_iterator",data:=.fields #[.ref t,.int 0 0]}) d b:=λ⟨k,L,r⟩=>⟨k,L,fP (λb o e=>D_ _ e) r⟩;refine Nn (led:=led) (Xd (items:=items)<|aB v) m hu (aB D) F B J items.size 0 _ [] (by omega) ⟨⟨_,K_ _ rfl,rfl,rfl⟩,by obtain⟨o,e,r⟩:=ht;exact⟨o,D_ _ e,r⟩⟩ (i.at (λo e=>D_ _ e) λ_ _ y=>j y) (λx hx=>j<|G x hx) bQ (λd=>by simp) (λ_ z=>nomatch z) (aG _) λc f a u a2 C I l p=>?_;exact C_<|h c f a (λb o n e=>u b o n (aB<|S_ e)<|D_ _ e) a2 C I l p
def Xe{E:lE->lF->Prop}{s:lF}{id:String}{items:oC lE}{ks:oA<|lG×lH}{Q:Unit->lF->Prop}(m:A.handled=none)(hu:A.units+20<cLine)(ht:s.heap.IsTuple t items)(C:items.toList=ks.map λx=>.ref x.2)(I:∀x∈ks,Cq s.heap x.1 x.2)(L:∀g:oA lG,g.Nodup->(∀d∈g,d∈ks.map (·.1))->g.length<4900)
  (i:Fq w s.heap sa [] led) (G:sa≠t)
  (h:∀c f a,(∀b o,b≠sa->s.heap.get? b=some o->c.get? b=some o)->Fq w c sa a led->(a.map (·.1)).Nodup->(∀d,d∈a.map (·.1)↔d∈ks.map (·.1))->(∀x∈a,x∈ks)->a.length<=items.size->Q () {s with heap:=c,toks:=f}) :
  qQ prog w A (Builtin.Frozenset.updateFrom id sa<|.ref t) Q E s:=by
 have T:s.TypeIs (.ref t) "tuple" := ht.typeIs;have P:=Qk;have N:=Ql;have O:(Value.type "tuple" == Value.type "dict")=false:=by decide
 unfold Builtin.Frozenset.updateFrom;generalize q:pyIter=PI
 wp_walk
 subst q;refine gF ht<|show wpAny _ _ _ _ _ _ from A_<|wpAny_runValue ?_;have y:t<s.heap.objs.size:=by obtain⟨o,e,_⟩:=ht;exact S_ e
 have F:sa<s.heap.objs.size:=by obtain⟨o,_,_,_,e,_⟩:=i;exact S_ e
 have j:∀{u:lO} {d:lG} {b:lH},Cq s.heap d b->Cq (s.heap.push u) d b:=λ⟨k,M,r⟩=>⟨k,M,fP (λb o e=>D_ _ e) r⟩;refine Nn (led:=led) (S8 (items:=items)<|aB y) m hu (aB F) G C L items.size 0 _ [] (by omega) ⟨⟨_,K_ _ rfl,rfl,rfl⟩,ht.push _⟩ (i.at (λo e=>D_ _ e) λ_ _ B=>j B) (λx hx=>j<|I x hx) bQ (λd=>by simp) (λ_ z=>nomatch z) (aG _) λc f a v a2 D J l p=>?_;exact C_<|h c f a (λb o n e=>v b o n (aB<|S_ e)<|D_ _ e) a2 D J l p
def Cq.keeps{h h':lN}{d:lG}{b:lH}(x:Cq h d b)(hk:∀b o,h.get? b=some o->h'.get? b=some o):Cq h' d b:=by obtain⟨k,a,r⟩:=x;exact⟨k,a,fP hk r⟩
def Dp{j q:Type}{f:j->q}{l m:oA q}(h:l.Perm m):∀c:oA j,m=c.map f->∃g:oA j,l=g.map f/\g.Perm c:=by
 induction h with
 |nil=>
  intro c e;have:c=[]:=by simpa using e.symm
  subst this;exact⟨[],rfl,.nil⟩
 |cons a h v=>
  intro c e;cases c with
  |nil=>cases e
  |cons x c=>injection e with i d;obtain⟨g,rfl,p⟩:=v c d;exact⟨x::g,by rw[i];rfl,p.cons x⟩
 |swap a b l=>
  intro c e
  match c,e with
  |x::y::c,e=>injection e with i d;injection d with d e3;exact⟨y::x::c,by rw[i,d,e3];rfl,.swap x y c⟩
 |trans h1 h2 n o=>intro c e;obtain⟨g,i,z⟩:=o c e;obtain⟨u,d,r⟩:=n g i;exact⟨u,d,r.trans z⟩
theorem J8{h:lN}:∀{a:oA<|lG×lH},(∀x∈a,Cq h x.1 x.2)->∃b,ReadsAll h (a.map λx=>.ref x.2) (a.map (·.1)) b
 |[],_=>⟨_,.nil⟩
 |z::a,hx=>by obtain⟨b,r⟩:=J8 λx hx'=>hx x<|.tail _ hx';obtain⟨_,d,c⟩:=hx z<|.head _;exact⟨_,.cons c r⟩
structure TOk(ds:oA lG):Prop where
 len:ds.length<300
 key:∀d∈ds,KeyTree d
 fst:∀d∈ds,∃i r,d=.tuple (.int i::r)
 cmp:∀d∈ds,∀e∈ds,cmpb d e=true
def Few(ds:oA lG):Prop:=∀a:oA lG,a.Nodup->(∀d∈a,d∈ds)->a.length<4900
def NR{ds:oA lG}(h:ds.length<4900):Few ds:=λc a b=>by have:=Gm a b;exact dG this h
theorem U1:∀{ds:oA lG},(∀d∈ds,KeyTree d)->PyData.canLayAll0 ds=true/\PyData.depthAll ds<=6/\A7 ds=true
 |[],_=>⟨rfl,aG _,rfl⟩
 |d::ds,h=>by obtain⟨a,b,c⟩:=U1 λe he=>h e<|.tail _ he;have k:=h d<|.head _;refine⟨?_,?_,?_⟩;simp only[PyData.canLayAll0,k.lay,a];rfl;simp only[PyData.depthAll];have:=k.dep;omega;simp only[A7,k.can,c];rfl
theorem BE(I:Inv X aa σ H s):∀(ds:oA lG) (g:oA V) (c:oA lE),Ap X.K H ds g->Vals g c->(∀d∈ds,KeyTree d)->(∀d∈ds,∃r,d=.tuple r)->∃b:oA<|lG×lH,b.map (·.1)=ds/\c=b.map (λx=>.ref x.2)/\∀x∈b,Cq s.heap x.1 x.2/\Dk X.K H x.1 (.ref x.2)
 |[],g,c,h,r,_,_=>by have e:=h.nil;subst e;cases r;exact⟨[],rfl,rfl,λ_ z=>nomatch z⟩
 |d::ds,g,c,h,r,hk,i=>by
  obtain⟨x,j,rfl,h1,h2⟩:=Ap.cons (K:=X.K) (H:=H) h;cases r with
  |@cons _ _ u q l p=>obtain⟨b,o,v,n⟩:=BE I ds j q h2 p (λd f=>hk d<|.tail _ f) λd f=>i d<|.tail _ f;obtain⟨m,rfl⟩:=i d<|.head _;obtain⟨a,B,rfl,ha,f⟩:=Dk.tup (K:=X.K) (H:=H) h1;cases l;refine⟨(.tuple m,a)::b,by rw[aQ,o],by rw[aQ,<- v],λy hy=>?_⟩;rcases Y_.mp hy with rfl|hy;exact⟨⟨hk _<|.head _,Dk.reads I _ _ _ h1 rfl⟩,h1⟩;exact n y hy
theorem BF{K:lI}:∀{a:oA<|lG×lH},(∀x∈a,Dk K H x.1<|.ref x.2)->Ap K H (a.map (·.1)) (a.map λx=>.ref x.2)
 |[],_=>Ce
 |z::a,h=>Bf (h z<|.head _)<|BF λx hx=>h x<|.tail _ hx
theorem U2:∀(a:oA<|lG×lH),Vals (a.map λx=>V.ref x.2) (a.map λx=>Value.ref x.2)
 |[]=>.nil
 |z::a=>.cons rfl<|U2 a
end
section
variable {prog:lJ}{w:lK}{Kt:Type} [DecidableEq Kt]{cp:KeyKind prog w Kt}{A:lM}{R:lV->lF->Prop}{sa it t:lH}{led:Bool}
variable {E:lE->lF->Prop}{s:lF}
end
end L2
namespace L2
open PySem PySem.Spec PySem.Calls PyProof.Rows
theorem BG{h:lN}{e:lG}:∀{ds:oA lG} {a:oA lE} {as:oA lH},ReadsAll h a ds as->PyData.canLayAll0 ds=true->a.length=ds.length/\∀(m:Nat) (h1:m<a.length) (h2:m<ds.length),M8 h e a[m]=PyData.eqv ds[m] e
 |[],_,_,r,_=>by cases r;exact⟨rfl,λm h1 _=>nomatch h1⟩
 |d::ds,_,_,r,c=>by
  cases r with
  |cons g b=>
   simp only[PyData.canLayAll0,Bool.and_eq_true]at c;obtain⟨f,i⟩:=BG (e:=e) b c.2;refine⟨by simp only[List.length_cons,f],λm h1 h2=>?_⟩;cases m with
   |zero=>exact Zb g c.1
   |succ m=>exact i m (iX h1)<|iX h2
def NS:AV->AC:=λx f b R=>match x,f with
 |.R a,[y]=>opt (see b y) λd=>opt (b a) λm=>match m with
  |.lst g=>opt (dats g) λc=>Bz d/\Bz (.tuple c)/\opt (c.findIdx? λe=>PyData.eqv e d) λj=>R (.D<|.int (j:Nat)) b
  |_=>False
 |_,_=>False
section
variable {X:Cx}{k:Nat}
def Om(hr:Room k X.A):VMt X "list.index" NS:=by
 intro aa s σ H x xs v us Q I rx r O;refine En O λa as μ R ra Y hc h hq=>?_;cases a with
 |R a=>
  cases Y with
  |nil=>exact False.elim h
  |cons V L=>
   cases L with
   |cons _ _=>exact False.elim h
   |nil=>
    obtain⟨d,J,h⟩:=A5 h;obtain⟨m,E,h⟩:=A5 h;cases m with
    |lst ys=>
     obtain⟨W,i,g,f,h⟩:=A5 h;obtain⟨j,D,h⟩:=A5 h;obtain⟨o,Z,T,rfl,U⟩:=hc _ _ E;cases (show x=.ref a from ra);obtain⟨u,rfl,ru⟩:=F8 r;cases rx;obtain⟨bs,rd⟩:=Du I hc V ru J;obtain⟨c,q,C,hz⟩:=I.list<|Fu.of Z;obtain⟨t,c2⟩:=La f;obtain⟨cs,w⟩:=Ap.reads I W T c (U.dats i) q;obtain⟨el,p⟩:=BG (e:=d) w t;obtain⟨hj,e1,P⟩:=List.findIdx?_eq_some_iff_getElem.mp D;have hl:=q.length;have M:sizeLine<2^63-1:=by decide
     have hu:=hr.un;obtain⟨⟨G,dd,z,sl⟩,B,b,n,l⟩:=id C.isList;simp only at b l;subst b l;refine k_ gA ⟨_,B,rfl⟩ PySem.F.entry_list_index (PySem.F.args_list_index_2 _ _) (SeqAt.list_indexAt a c.toArray n dd sl u (M8 s.heap d) j (by rw[W_];omega) (by omega) ?_ ?_) ⟨B,λy hy=>(D8 (A:=X.A.in1) rd g.1 (by show X.A.units+1+64<_;omega) w t c2).1 y<|by simpa using hy,?_⟩
     show M8 s.heap d c[j]=true;rw[p j (by omega) hj];exact e1;intro m S N;show M8 s.heap d c[m]=false;rw[p m (by simpa using S)<|by omega];have:=P m N;simpa using this;exact⟨.int j,H,I.tok _,⟨_,rfl⟩,hq _ _ _ _ Kp.refl hc Dn h⟩
    |_=>exact False.elim h
 |_=>exact False.elim h
def Qdo:A2:=λx y a R=>match x,y with
 |.D (.str i),.D (.str j)=>R (.D<|.bool<|!decide (i=j)) a
 |_,_=>False
def Qbd(xs:oA AV)(n:Nat):oA AV:=(List.replicate n xs).flatten
def Qcr:A2:=λx y b R=>match x,y with
 |.R a,.D (.int n)=>opt (b a) λm=>match m with
  |.lst c=>(0<=n/\n<=1000/\c.length<=1000)/\∀p,b p=none->R (.R p) (An b p<|.lst<|Qbd c n.toNat)
  |_=>False
 |_,_=>False
def Lp(ns:oA Int):Nat->Int:=preSum λi=>ns.getD i 0
theorem BH{ns:oA Int}(h:∀n∈ns,0<=n/\n<=1000):∀j,j<=ns.length->0<=Lp ns j/\Lp ns j<=1000*j
 | 0,_=>⟨jQ _,jQ _⟩
 |j+1,hj=>by
  have a:=BH h j (by omega);have b:=h (ns.getD j 0) (by rw[cJ,F_<|by omega];exact e_ _);have e:Lp ns (j+1)=Lp ns j+ns.getD j 0:=rfl;rw[e];constructor;omega
  push_cast;omega
theorem U3:∀(ns:oA Int) (j:Nat),Lp ns j=(ns.take j).sum
 |ns,0=>by rw[List.take_zero];rfl
 |ns,j+1=>by
  have e:Lp ns (j+1)=Lp ns j+ns.getD j 0:=rfl;rw[e,U3 ns j,aM,List.sum_append];congr 1;rw[cJ];cases ns[j]? with
  |none=>rfl
  |some v=>simp
def BI(hc:X.calm=true):F7 X (.builtin "sum") (λl H Q=>∃(p:lH) (ns:oA Int),l=[.ref p]/\Fu X.K H p (ns.map V.int)/\(∀n∈ns,0<=n/\n<=1000)/\ns.length<=1000/\Q (.int ns.sum) H):=by
 intro L s J H l M Q I r h;obtain⟨p,ns,rfl,hq,hb,N,q⟩:=h;obtain⟨u,rfl,B⟩:=F8 r;cases B;obtain⟨d,g,a,hz⟩:=I.list hq;have c:=g.length;rw[B_]at c;refine call_sum_walk<|gR a.isList ?_;have C:p≠s.heap.objs.size:=aB (by obtain⟨_,f,_⟩:=a.isList;exact S_ f);refine⟨s.heap.objs.size,_,_,_,_,_,λi=>ns.getD i 0,rfl,Walks.list (show X.A.in1.handled=none from I.ok.hd hc) s.heap.objs.size p C d.toArray,?_,?_,?_,?_,λF G O k=>?_⟩;exact⟨⟨_,K_ _ rfl,rfl,rfl⟩,a.isList.at λo e=>D_ _ e⟩;intro b hb;have E:p<s.heap.objs.size:=let⟨_,f,_⟩:=a.isList;S_ f
 simp only[List.mem_cons,List.not_mem_nil,or_false]at hb;have w:∀o:lO,(s.heap.push o).objs.size=s.heap.objs.size+1:=λo=>by simp[Heap.push]
 show b<(s.heap.push _).objs.size;rw[w];rcases hb with rfl|rfl;exact bG _;exact dB E;intro i v y;have hv:d[i]?=some v:=by simpa using y
 have m:i<ns.length:=by rw[c];exact(E_.mp hv).1
 obtain⟨u,hu,D⟩:=g.get (i:=i) (x:=V.int ns[i]) (by simp[m]);rw[hv]at hu;cases hu;obtain⟨t,rfl⟩:=(show ∃t,v=Value.int ns[i] t from D);exact⟨t,by simp[m]⟩;intro j hj;rw[W_,<- c]at hj;have h1:=hb (ns.getD j 0) (by rw[cJ,F_ hj];exact e_ _);have h2:=BH hb (j+1) hj;have e:preSum (λi=>ns.getD i 0) (j+1)=Lp ns (j+1):=rfl;rw[e];show InLong (ns.getD j 0)/\InLong (Lp ns<|j+1);generalize Lp ns (j+1)=z at h2 ⊢;refine⟨⟨by omega,by omega⟩,by omega,?_⟩;have:=h2.2
 push_cast at this
 omega;have e:preSum (λi=>ns.getD i 0) d.toArray.size=ns.sum:=by rw[W_,<- c];show Lp ns ns.length=_;rw[U3,aJ]
 rw[e];exact⟨.int _,H,I.kept λb o e=>k b o (by
  intro hb;have:b=s.heap.objs.size:=by simpa using hb
  exact absurd (S_ e)<|by rw[this];exact dD _)<|D_ _ e,⟨_,rfl⟩,q⟩
def Js:oA AV->oB (oA Int)
 |[]=>some []
 |.D (.int i)::a=>(Js a).map (i::·)
 |_=>none
theorem Lq{K:lI}{H:Hp}:∀{xs:oA AV} {ns:oA Int} {a:oA V},Js xs=some ns->A4 K H xs a->a=ns.map V.int
 |[],_,_,e,.nil=>by cases e;rfl
 |x::xs,ns,_,e,.cons c b=>by
  cases x with
  |D d=>
   cases d with
   |int i=>obtain⟨g,f,rfl⟩:=I_.mp<|show(Js xs).map (i::·)=some ns from e;rw[Lq f b,RelA.int c];rfl
   |_=>cases e
  |_=>cases e
def TL:AC:=λc b R=>match c with
 |[.R a]=>opt (b a) λm=>match m with
  |.lst d=>opt (Js d) λns=>((∀n∈ns,0<=n/\n<=1000)/\ns.length<=1000)/\R (.D<|.int ns.sum) b
  |_=>False
 |_=>False
def TM(j:X.calm=true):VCall X (.builtin "sum") TL:=by
 intro e s d H q b Q I r i;refine Ci i λt u R l hc h hq=>?_;unfold TL at h;split at h
 ·cases l with
  |cons f a=>cases a;obtain⟨m,g,h⟩:=A5 h;split at h;obtain⟨ns,c,h⟩:=A5 h;obtain⟨o,p,v,rfl,n⟩:=hc _ _ g;cases (show _=V.ref _ from f);exact BI j e s d H _ b Q I r ⟨_,ns,rfl,Fu.of<|by rw[p,Lq c n],h.1.1,h.1.2,hq _ _ _ _ Kp.refl hc Dn h.2⟩;exact h.elim
 exact h.elim
end
end L2
namespace L2
open PySem PySem.Spec PySem.Calls PyProof.Rows PySem.W
end L2
namespace L2
open PySem PySem.Spec PySem.Calls PyProof.Rows
end L2
namespace L2
open PySem PySem.Spec PySem.Calls PyProof.Rows PySem.W
end L2
namespace L2
open PySem
end L2
namespace L2
open PySem PySem.Spec PySem.Calls PyProof.Rows
def NT:Key->lG
 |.inl i=>.int i
 |.inr z=>.str z
def TN{K:lI}{H:Hp}(k:Key):Dk K H (NT k) (kV k):=by
 cases k with
 |inl i=>exact B9
 |inr z=>exact Eb
section
variable {X:Cx}{k:Nat}
abbrev Qbe:A2:=JB λi j=>.int<|Builtin.bitOr i j
abbrev TQ:A2:=JB λi j=>.int<|Builtin.bitAnd i j
abbrev Qbf:A2:=aI CPow λi j=>.int<|i*2^j.toNat
abbrev Qbg:A2:=aI (λ_ j=>0<=j) λi j=>.int<|i / 2^j.toNat
def JJ:VOp X (binaryOp .BitOr) Qbe:=Sb RJ λ_ _ _=>B9
def BJ:VOp X (binaryOp .BitAnd) TQ:=Sb LM λ_ _ _=>B9
def TR:VOp X (binaryOp .LShift) Qbf:=SI LK λ_ _ _=>B9
def TU:VOp X (binaryOp .RShift) Qbg:=SI LL λ_ _ _=>B9
def GZ:QN X "int.bit_length" (λx c H Q=>∃i:Int,x=.int i/\c=[]/\Q (.int (Builtin.Int.intBits i:Nat)) H):=by intro j s g H x d v f Q I a r h;obtain⟨i,rfl,rfl,q⟩:=h;obtain⟨t,rfl⟩:=a;cases r;exact call_int_bit_length ⟨.int _,H,I.kept (t':=s.toks+1) λb o e=>e,⟨_,rfl⟩,q⟩
def JK:AV->AC:=λx a b R=>match x,a with
 |.D (.int i),[]=>R (.D<|.int (Builtin.Int.intBits i:Nat)) b
 |_,_=>False
def NU:VMt X "int.bit_length" JK:=by intro e s d H x j v b Q I c r f;refine En f λa l m R g i hc h hq=>?_;unfold JK at h;split at h;cases RelA.int g;cases i;exact GZ e s d H _ _ v b Q I c r ⟨_,rfl,rfl,hq _ _ _ _ Kp.refl hc Dn h⟩;exact h.elim
def isInt:AV->Prop
 |.D (.int _)=>True
 |_=>False
def Qbh(m:AV->AC)(d:AE):AE:=λc b R=>d c b λx a=>isInt x/\m x [] a R
def NV{name:Str}{a:String}{o:lL}{c:AE}{m:AV->AC}{f e:Pos}(slot:Slot "int" name a) (l:typeOf (.builtin a)=pure (.type "method_descriptor")) (u:VMt X a m) (t:VE X o c)
  (q:attributeBase o name X.env (eval o X.env)=eval o X.env:=by rfl) (g:(f.endLine==e.line)=true:=by rfl):VE X (.Call (.Attribute o name f) [] [] e) (Qbh m c) :=
 (N7 PySem.F.plainAttrs_int slot l u t q g).imp λw H Q s=>Ci s λp r R i hc h hq=>⟨p,r,_,i,hc,h,λx b v y n j d hx=>⟨by
   obtain⟨hx,_⟩:=hx;unfold isInt at hx;split at hx;cases RelA.int d;exact rfl;exact hx.elim,x,[],b,R,d,.nil,j,hx.2,hq.kp n⟩⟩
end
section
variable {s:lF}{E:lE->lF->Prop}{A:lM}{prog:lJ}{w:lK}{K:Type} [DecidableEq K]{cp:HeapKind prog w K}
def sdH{d a:lH}{xs:oA<|K×lH×lE}{k:K}{v:lE}{Q:lE->lF->Prop}(hu:cp.room A)(hk:cp.is s.heap k a)(C:s.heap.DictOfH cp d xs)(hz:xs.length<=sizeLine)
  (h1:∀p,atKey xs k=some p->Q p.2 {s with toks:=s.toks+cp.draws k})
  (h2:atKey xs k=none->∀i,i.DictOfH cp d (storedH xs k a v)->Heap.SameBut d s.heap i->Q v {s with heap:=i,toks:=s.toks+cp.draws k}):qQ prog w A (dictSetDefault d (.ref a) v) Q E s:=by
 obtain⟨o,D,t,g,B,f,h,r,l⟩:=C;unfold dictSetDefault
 (try with_reducible refine bT ?_)
 refine A_<|cp.pyHash hu hk<|A_<|wpAny_dictFind_heap (s:={s with toks:=s.toks+cp.draws k}) hu hk g f h r l (λn=>?_) λj p hj=>?_;have q:=atKey_none_of_get n;have u:k∉xs.map (·.1):=not_mem_keys_of_get n;have F:=size_of_entries h;refine A_ (eA<|A_<|wpAny_updateDictKeys (hz:=by omega) (s:={s with toks:=s.toks+cp.draws k}) g f<|C_<|h2 q _ ?_<|aN ..);have st:=storedH_new (a:=a) (v:=v) q;rw[st];refine⟨_,_,t+1,bD _ g<|Obj.isFreed_of_dict<|Obj.data_mapDictKeys f _,B.mapDictKeys _,Obj.data_mapDictKeys f _,by simp[h,entryOfKey],λx hx=>?_,?_⟩;have c:∀{y:K} {b:lH},cp.is s.heap y b->cp.is (s.heap.update d<|Obj.mapDictKeys λx=>x.push ⟨cp.hash k,.ref a,v⟩) y b:=λhy=>cp.keeps hy g f<|aN ..;rcases P_.mp hx with m|m;exact c<|r x m;rw[H_.mp m];exact c hk;rw[L_];exact bL.mpr ⟨l,by simp,λx hx y hy e=>u (by
  have hy:y=k:=by simpa using hy
  rw[hy]at e;rw[<- e];exact hx)⟩
 have z:=atKey_of_get l hj;refine A_<|cW (s:={s with toks:=s.toks+cp.draws k}) g f ?_;rw[entry_at h j,hj];exact A_<|eA<|C_<|h1 _ z
end
section
variable {w:lK}{prog:lJ}{K:Type} [DecidableEq K](cp:HeapKind prog w K)(d a:lH)
def Xf(h:(d==sysModules)=false)(dflt:lE):MeetsIn prog w (Builtin.«dict.setdefault» ⟨[.ref d,.ref a,dflt],[]⟩) (λA R s=>cp.room A.in1/\∃k c,cp.is s.heap k a/\s.heap.DictOfH cp d c/\c.length<=sizeLine /\
   (∀p,atKey c k=some p->R (.ok<|.ret p.2) {s with toks:=s.toks+cp.draws k}) /\
   (atKey c k=none->∀f,f.DictOfH cp d (storedH c k a dflt)->Heap.SameBut d s.heap f->R (.ok<|.ret dflt) {s with heap:=f,toks:=s.toks+cp.draws k})) :=
 .of_wp λA R s ⟨hu,k,c,hk,g,hz,h1,h2⟩=>by unfold Builtin.«dict.setdefault» Builtin.Dict.keyAndDefault;refine A_<|A_<|gQ g.typeIs<|show wpAny _ _ (pure (d,Value.ref a,some dflt)) _ _ s from C_ ?_;show wpAny _ _ (if(d==sysModules)=true then _ else(dictSetDefault d (.ref a) dflt>>=_)) _ _ s;rw[h,M_ Q_];exact A_<|sdH hu hk g hz (λp e=>C_ ⟨_,rfl,h1 p e⟩) λe f m b=>C_ ⟨_,rfl,h2 e f m b⟩
end
section
variable {X:Cx}{aa:oA<|lH×lO}{σ:St}{H:Hp}{s:lF}{A:lM}{E:lE->lF->Prop}{a b:lH}{r:lE}{o e f:lL}{ao ak:Pos}{prog:lJ}{w:lK}{d it:lH}{es:oC DictEntry}{ep i k:Nat}
def NW{Q:lE->lF->Prop}{kvs:oA<|oA Key×V}{k:oA Key}{n:V}(hu:A.units+1<cLine)(I:Inv X aa σ H s)(e:H a=some (.dT kvs))(x:H b=some (.tup<|k.map kV))(l:kvs.length<sizeLine)(rd:Bk n r)
  (h1:∀v,Eo kvs k=some v->∀t m,Inv X aa σ H m->Bk v t->Q t m) (h2:Eo kvs k=none->∀m,Inv X aa σ (upd H a<|.dT<|putK kvs k n) m->Q r m) :
  qQ X.prog X.w A (call (.builtin "dict.setdefault") [.ref a,.ref b,r]) Q E s:=by
 obtain⟨z,B,u,h,dd⟩:=Po I.hok e;have hz:u.length<=sizeLine:=by rw[<- bS h];exact z
 have O:(putK kvs k n).length<=sizeLine:=by have:=F9 kvs k n;omega
 have g:=h.val k;refine iP PySem.F.slot_dict_setdefault dd.typeIs PySem.F.entry_dict_setdefault (PySem.F.args_dict_setdefault_3 _ _ _) (Xf (tupleKind<|Bp X.prog X.w) a b B r) ⟨fA hu,k,u,Hn I.hok x,dd,hz,λp hp=>?_,λJ P N G=>?_⟩
 ·rw[hp]at g;cases j:Eo kvs k with
  |none=>rw[j]at g;exact g.elim
  |some v=>rw[j]at g;exact h1 v j _ _ (I.tok _) g
 ·rw[J]at g;have j:Eo kvs k=none:=by
   cases j:Eo kvs k with
   |none=>rfl
   |some v=>rw[j]at g;exact g.elim
  refine h2 j _ ?_;obtain⟨q,es,ep,hq,L,C,D,_,M⟩:=N;refine Ko I (by rw[e];exact True.intro) G ⟨q,hq⟩ ⟨O,B,_,(h.put k x rd).keeps λc R y=>?_,q,es,ep,hq,L,C,D,M⟩;rw[Au<|Ph y e (λz=>nomatch z)];exact y
def Qbi(td ty l:TE):TE:=λσ H Q=>td σ H λx h=>∃a,x=.ref a/\YS h a/\ty σ h λy j=>l σ j λz g=>∃c k b,g a=some (.dT c)/\y=.ref b/\g b=some (.tup<|k.map kV)/\c.length<sizeLine /\
 (∀v,Eo c k=some v->Q v g)/\(Eo c k=none->Q z (upd g a<|.dT<|putK c k z))
def NX{td ty j:TE}(hu:X.A.units+1<cLine)(P:PE X o td)(he:PE X e ty)(Y:PE X f j)(m:M2 X o "setdefault" ao e f ak):PE X (.Call (.Attribute o "setdefault" ao) [e,f] [] ak) (Qbi td ty j):=by intro aa s σ H Q I h;refine wpAny_Call_method m.base m.few m.line fX PySem.F.slot_dict_setdefault PySem.F.type_dict_setdefault<|thn (P aa s σ H _ I h) λu C z1=>?_;obtain⟨x,L,p,Z,a,T,d,V⟩:=z1;subst T;cases (show u=Value.ref a from Z);obtain⟨R,t2,_⟩:=Y3 p d;refine⟨R,t2,?_⟩;rw[m.trees];refine gE rfl<|jN<|cX<|thn (he aa C σ L _ p V) λiv s2 U=>Db U λy t O ry B=>cX<|thn (Y aa s2 σ t _ O B) λfv s3 jo=>dO ?_;obtain⟨z,J,G,n,M,k,b,W,S,eb,l,q3,q⟩:=jo;subst S;cases (show iv=Value.ref b from ry);exact NW hu G W eb l n (λv g w' N c D=>⟨v,J,c,D,q3 v g⟩) λg N c=>⟨z,_,c,n,q g⟩
def Qbj(td ty p:AE):AE:=λl t R=>td l t λx h=>match x with
 |.R a=>(∃m,h a=some m/\NK m)/\ty l h λy j=>p l j λz g=>match y with
  |.D (.tuple q)=>opt (Pz q) λn=>opt (g a) λm=>match m with
   |.dt c=>c.length<sizeLine/\(∀v,Cu c n=some v->R v g)/\(Cu c n=none->R z (An g a<|.dt<|Fo c n z))
   |_=>False
  |_=>False
 |_=>False
def BK{td ty O:AE}(hu:X.A.units+1<cLine)(W:VE X o td)(he:VE X e ty)(Z:VE X f O)(m:M2 X o "setdefault" ao e f ak:=by exact⟨rfl,rfl,rfl,rfl⟩):VE X (.Call (.Attribute o "setdefault" ao) [e,f] [] ak) (Qbj td ty O) :=
 (NX hu W he Z m).imp λσ H Q V=>Ci V λI Y R D hc h hq=>⟨I,Y,_,D,hc,h,λx M v H1 n S rx hx=>by
  split at hx
  ·rename_i a;obtain⟨⟨m0,F,hd⟩,hx⟩:=hx;cases rx;refine⟨a,rfl,AF S F hd,I,M,_,D.kp n,S,hx,λy q u H2 G c2 ry hy=>⟨I,q,_,(D.kp n).kp G,c2,hy,λz μ3 zv H3 N C P hz=>?_⟩⟩;split at hz
   ·obtain⟨l,L,hz⟩:=A5 hz;obtain⟨m,U,hz⟩:=A5 hz;split at hz
    ·rename_i g;obtain⟨ob,p,T,rfl,t⟩:=C _ _ U;obtain⟨b,xs,rfl,hb,B⟩:=(Dk.kp N _ _ ry).tup;obtain⟨e0,L⟩:=Od L;have hb:=hb.heap e0;rw[Ii B L]at hb;have c:=t.val l;refine⟨T,l,b,p,rfl,hb,by rw[<- bS t];exact hz.1,λv J=>?_,λJ=>?_⟩
     ·rw[J]at c;cases j:Cu g l with
      |none=>rw[j]at c;exact c.elim
      |some w=>rw[j]at c;exact hq _ _ _ _ ((n.trans G).trans N) C c (hz.2.1 w j)
     ·rw[J]at c;have j:Cu g l=none:=by
       cases j:Cu g l with
       |none=>rfl
       |some w=>rw[j]at c;exact c.elim
      exact hq _ _ _ _ (((n.trans G).trans N).trans<|Kp.put p trivial _) (C.put p trivial (JF<|t.put l P)) (P.kp<|Kp.put p trivial _) (hz.2.2 j)
    exact hz.elim
   exact hz.elim
  exact hx.elim⟩
def Ep(h:lN)(d:lH)(es:oC DictEntry)(ep:Nat):Prop:=∃o,h.get? d=some o/\o.ExactDict/\o.data=.dict es ep
def Ep.ty{s:lF}{d:lH}{es:oC DictEntry}{ep:Nat}(x:Ep s.heap d es ep):s.TypeIs (.ref d) "dict" := by obtain⟨o,h1,h2,_⟩:=x;exact⟨o,h1,h2.1⟩
def Ep.mv{h h':lN}{d:lH}{es:oC DictEntry}{ep:Nat}(x:Ep h d es ep)(k:∀o,h.get? d=some o->h'.get? d=some o):Ep h' d es ep:=by obtain⟨o,h1,r⟩:=x;exact⟨o,k o h1,r⟩
def Ep.lt{h:lN}{d:lH}{es:oC DictEntry}{ep:Nat}(x:Ep h d es ep):d<h.objs.size:=by obtain⟨_,h1,_⟩:=x;exact S_ h1
def BL{Q:lE->lF->Prop}(h:(d==sysModules)=false)(g:Ep s.heap d es ep)
  (q:Q (.ref s.heap.objs.size) {s with heap:=s.heap.push {cls:=.type "dict_keyiterator",data:=.fields #[.ref d,.int 0 0,.int es.size 0,.int ep 0]}}):qQ prog w A (pyIter<|.ref d) Q E s:=by
 have T:=g.ty;obtain⟨o,h1,h2,c⟩:=g;refine eM T F.slot_dict_iter<|aO F.slot_dict_iter T F.entry_dict_iter ?_<|F.args_dict_iter_1 _;unfold Builtin.«dict.__iter__» Builtin.Dict.dictSlotNone;refine A_<|A_<|gQ T<|show wpAny _ _ (pure<|Value.ref d) _ _ s from C_ ?_;show qQ prog w _ (Builtin.Dict.showsAll d>>=_) _ _ s;unfold Builtin.Dict.showsAll;rw[h,M_ Q_];refine A_<|C_<|A_<|cW h1 c<|A_<|eU h1 c<|A_<|aC<|C_ ⟨_,rfl,"dict_keyiterator",_,⟨_,K_ _ rfl,rfl⟩,F.slot_dict_keyiterator_next.lookup,?_⟩;simpa [rawInt] using q
def BM{Q:oB lE->lF->Prop}(j:s.heap.IsKeyIter it d i es.size ep)(t:Ep s.heap d es ep)(n:i<es.size)
  (q:∀h,h.IsKeyIter it d (i+1) es.size ep->Heap.SameBut it s.heap h->Q (some es[i].key) {s with heap:=h}):qQ prog w A (pyNext<|.ref it) Q E s:=by
 have T:=j.typeIs;obtain⟨o,g,p,c⟩:=id j;obtain⟨u,h1,h2,l⟩:=t;unfold pyNext;refine A_<|dN<|aZ (name:=Str.ofString "__next__") T F.slot_dict_keyiterator_next<|aO F.slot_dict_keyiterator_next T F.entry_dict_keyiterator_next ?_<|F.args_dict_keyiterator_next_1 _;refine A_<|C_<|A_<|A_ ?_
 first|refine A_ (eJ T<|C_<|A_<|dF g c ?_)|refine A_<|fQ T<|C_<|A_<|dF g c ?_
 simp only[show Builtin.Dict_items.ownsTuple "dict_keyiterator" = false by decide,Bool.false_eq_true,if_false];show qQ prog w _ (if(Value.ref d==Value.none)=true then _ else _) _ _ s;rw[M_<|by exact Q_];refine A_<|C_<|A_<|cW h1 l ?_;rw[M_<|by simp];refine A_<|C_<|A_<|eU h1 l ?_;rw[M_<|by simp];refine C_ ?_;simp only[show ¬((i:Int)<0) by omega,if_false,Int.toNat_natCast,Array.getElem?_eq_getElem n];refine A_ ?_
 first|refine A_ (eJ T<|C_<|A_<|jB T ?_)|refine A_<|fQ T<|C_<|A_<|jB T ?_
 show qQ prog w _ (setField (.ref it) 1 (rawInt<|(i:Int)+1)>>=_) _ _ s;refine A_ (dE g c (by simp)<|A_<|bT ?_);have m:(s.heap.update it<|Obj.mapFields (·.setIfInBounds 1 (rawInt<|(i:Int)+1))).IsKeyIter it d (i+1) es.size ep:=⟨_,bD _ g<|dY<|bV c _,(gS ..).trans p,by rw[bV c];simp[rawInt]⟩;refine A_<|jB (s:={s with heap:=s.heap.update it<|Obj.mapFields (·.setIfInBounds 1 (rawInt<|(i:Int)+1))}) m.typeIs<|show wpAny _ _ (pure es[i].key) _ _ _ from ?_;exact C_<|C_ ⟨_,rfl,C_<|q _ m<|aN ..⟩
def HA{Q:oB lE->lF->Prop}(p:A.handled=none)(h:s.heap.IsKeyIter it d es.size es.size ep)(n:Ep s.heap d es ep)(q:∀l,Heap.ExtBut it s.heap l->Q none {s with heap:=l}):qQ prog w A (pyNext<|.ref it) Q E s:=by
 have T:=h.typeIs;obtain⟨o,g,t,c⟩:=id h;obtain⟨u,h1,h2,j⟩:=n;unfold pyNext;refine A_<|dN<|aZ (name:=Str.ofString "__next__") T F.slot_dict_keyiterator_next<|aO F.slot_dict_keyiterator_next T F.entry_dict_keyiterator_next ?_<|F.args_dict_keyiterator_next_1 _;refine A_<|C_<|A_<|A_ ?_
 first|refine A_ (eJ T<|C_<|A_<|dF g c ?_)|refine A_<|fQ T<|C_<|A_<|dF g c ?_
 simp only[show Builtin.Dict_items.ownsTuple "dict_keyiterator" = false by decide,Bool.false_eq_true,if_false];show qQ prog w _ (if(Value.ref d==Value.none)=true then _ else _) _ _ s;rw[M_<|by exact Q_];refine A_<|C_<|A_<|cW h1 j ?_;rw[M_<|by simp];refine A_<|C_<|A_<|eU h1 j ?_;rw[M_<|by simp];refine C_ ?_;simp only[show ¬((es.size:Int)<0) by omega,if_false,Int.toNat_natCast,Array.getElem?_eq_none<|Nat.le_refl es.size];refine A_ ?_
 first|refine A_ (eJ T<|C_ ?_)|refine A_<|fQ T<|C_ ?_
 show qQ prog w _ (setField (.ref it) 0 .none>>=_) _ _ s;refine A_ (dE g c (by simp)<|show wpAny _ _ (newExc (.type "StopIteration") []>>=_) _ _ _ from A_ ?_);simp only[newExc,newTuple];refine A_ (aC (A_ (m:=firstArgMember _ _)<|dI (a:=Value.none) (by first|rfl|(simp only[firstArgMember];rfl))<|aC ?_<|by size_fits)<|by size_fits);simp only[raiseNew];refine A_<|h_ (?_:_);rw[show A.in1.handled=none from p];refine A_<|C_<|jO ?_;refine A_ (cZ (T := "StopIteration") (b:=true) (by exact⟨_,K_ _ rfl,rfl⟩) iT ?_);exact C_<|q _<|((aN ..).extBut.push _).push _
def Xg(n:A.handled=none)(I d:lH)(m:d≠I)(es:oC DictEntry)(ep:Nat) :
  Walks prog w A I [I,d] [I] es.size (λi v=>∃e,es[i]?=some e/\v=e.key) (λi h=>h.IsKeyIter I d i es.size ep/\Ep h d es ep) where
 sub:=λb hb=>by
  have:b=I:=by simpa using hb
  simp[this]
 frame:=λ_ _ _ st k=>⟨st.1.at λo e=>k I (by simp) o e,st.2.mv λo e=>k d (by simp) o e⟩
 item:=λi s Q E j st c=>BM st.1 st.2 j λg x l=>c _ g s.toks ⟨es[i],by simp[j],rfl⟩ ⟨x,st.2.mv λo e=>l.extBut d o m e⟩ λb o hb e=>l.extBut b o (λz=>hb<|by simp[z]) e
 done:=λs Q E st c=>HA n st.1 st.2 λg x=>c g s.toks λb o hb e=>x b o (λz=>hb<|by simp[z]) e
 self:=λ_ _ _ _ st q=>wpAny_pyIter_keyiter st.1 q
def HB(lo:(d==sysModules)=false):PySem.W.KdlSrc prog w "dict" d d es.size (λi v=>∃e,es[i]?=some e/\v=e.key) (λh=>Ep h d es ep) where
 type:=λ_ x=>x.ty
 there:=λ_ x=>⟨x.lt,x.lt⟩
 keep:=λ_ _ x k=>x.mv λo e=>k d (.inl rfl) o e
 notList:=by decide
 notTuple:=by decide
 hint:=λ_ _ _ _ x q=>PySem.W.kdl_hint_dict x.ty q
 iter:=λ_ _ c x=>⟨_,_,(λ_ _ q=>BL lo x q),Xg c _ d (aB x.lt) es ep,⟨⟨_,K_ _ rfl,rfl,rfl⟩,x.mv λo e=>D_ _ e⟩⟩
theorem JL:∀(c:oA lH),Vals (c.map V.ref) (c.map Value.ref)
 |[]=>.nil
 |_::c=>.cons rfl<|JL c
theorem U4{h c j:Type}{F:h->c->Prop}{G:h->j->Prop}{f:c->j}:∀{l:oA h} {m:oA c},Paired F l m->(∀x y,F x y->G x (f y))->Paired G l (m.map f)
 |_,_,.nil,_=>.nil
 |_,_,.cons r t,g=>.cons (g _ _ r)<|U4 t g
def On(hc:X.calm=true):F7 X (.type "list") (λF H Q=>∃a g,F=[.ref a]/\H a=some (.dT g)/\∀l (x:oA lH),H l=none->Paired (λ(p:oA Key×V) b=>H b=some (.tup<|p.1.map kV)) g x->Q (.ref l) (upd H l<|.lst<|x.map V.ref)):=by
 intro aa s σ H F Y Q I r h;obtain⟨a,g,rfl,ha,q⟩:=h;obtain⟨u,rfl,R⟩:=F8 r;cases R;obtain⟨hz,n,t,v,o,es,ep,h1,h2,M,C,_⟩:=Po I.hok ha;have J:=bS v;have G:es.size=t.length:=by have:=cV List.length C;simpa using this
 refine PySem.W.kdl_call (HB (es:=es) (ep:=ep) n) (I.ok.hd hc) ⟨o,h1,h2,M⟩ (by rw[G,<- J];exact hz) λU L m c S N B=>?_;have O:m.toList=(t.map λy=>y.2.1).map Value.ref:=by
  refine iV λj=>?_;rw[Z_];rcases(cL j m.size) with hj|hj;obtain⟨e,P,T⟩:=B.2 j m[j] (by simp[hj]);have D:(t.map<|entryOfKey<|tupleKind<|Bp X.prog X.w)[j]?=some e:=by rw[<- C,Z_];exact P
  rw[G_]at D;obtain⟨y,hy,rfl⟩:=I_.mp D;rw[G_,G_,hy,aP hj,T];rfl;rw[cN hj,fD<|by rw[B_,B_,<- G,<- B.1];exact hj]
 have x:Paired (λ(p:oA Key×V) b=>H b=some (.tup<|p.1.map kV)) g (t.map λy=>y.2.1):=U4 v λp y z=>z.2.1;refine⟨.ref s.heap.objs.size,_,I.laid (t':=L) (o:=.lst<|(t.map λy=>y.2.1).map V.ref) S (J_ _) ?_,rfl,q _ _ (I.hok.fresh<|J_ _) x⟩;exact⟨by rw[B_,B_,<- J];exact hz,m.toList,c,by rw[O];exact JL _,by simpa using N⟩
def BN:AC:=λh c R=>match h with
 |[.R a]=>opt (c a) λm=>match m with
  |.dt g=>∀p,c p=none->R (.R p) (An c p<|.lst<|g.map λq=>.D<|.tuple<|q.1.map NT)
  |_=>False
 |_=>False
theorem S9{K:lI}{H:Hp}:∀(ks:oA Key),Ap K H (ks.map NT) (ks.map kV)
 |[]=>Ce
 |k::ks=>Bf (TN k)<|S9 ks
theorem U5{K:lI}{H:Hp}:∀{kvs:oA<|oA Key×AV} {g:oA<|oA Key×V} {c:oA lH},Fj K H kvs g->Paired (λ(p:oA Key×V) b=>H b=some (.tup<|p.1.map kV)) g c->A4 K H (kvs.map λq=>.D<|.tuple<|q.1.map NT) (c.map V.ref)
 |[],_,_,r,p=>by cases r;cases p;exact .nil
 |_::_,_,_,r,p=>by
  cases r with
  |cons l h=>
   cases p with
   |cons m j=>refine .cons ?_<|U5 h j;dsimp only;rw[l.1];exact K6 m<|S9 _
def HC(v:X.calm=true):VCall X (.type "list") BN:=by
 intro aa s σ H B n Q I r x;refine Ci x λC F R y c h hq=>?_;unfold BN at h;split at h
 ·rename_i a;obtain⟨m,u,h⟩:=A5 h;split at h
  ·rename_i q;obtain⟨o,z,t,rfl,rk⟩:=c _ _ u;cases y with
   |cons p j=>cases j;cases p;exact On v aa s σ H _ n Q I r ⟨a,t,rfl,z,λl D g hp=>hq (.R l) _ _ _ (Kp.new g _) (c.new g<|Df<|U5 rk hp) rfl<|h l<|c.none g⟩
  exact h.elim
 exact h.elim
end
end L2
namespace L2
open PySem PySem.Spec PyProof.Rows
def U6(N:oA Str)(pn cn:oA<|Str×lU)(N':oA Str)(mp:oA<|oB Nat):Bool :=
 decide (N'.length=mp.length)&&decide N'.Nodup &&
 (List.range N'.length).all (λk=>match mp[k]?,N'[k]? with
  |some (some i),some x=>decide (N[i]?=some x)&&FR pn x&&decide ((x,NameKind.free)∈cn)&&decide (cn.lookup x=some .free)
  |_,_=>true) &&
 cn.all (λp=>decide (p.2≠.cell)||decide (cn.lookup p.1=some .cell))&&cn.all (λp=>decide (p.2≠.free)||FR pn p.1)&&cn.all (λp=>decide (p.2≠.local)||decide (cn.lookup p.1=some .local))
structure CompOkC(N:oA Str)(pn cn:oA<|Str×lU)(N':oA Str)(mp:oA<|oB Nat):Prop where
 len:N'.length=mp.length
 map:∀(k i:Nat) (x:Str),mp[k]?=some (some i)->N'[k]?=some x->N[i]?=some x/\(pn.lookup x=some .cell\/pn.lookup x=some .free)/\(x,NameKind.free)∈cn/\cn.lookup x=some .free
 ownc:∀p∈cn,p.2=.cell->cn.lookup p.1=some .cell
 free:∀p∈cn,p.2=.free->(pn.lookup p.1=some .cell\/pn.lookup p.1=some .free)
 loc:∀p∈cn,p.2=.local->cn.lookup p.1=some .local
def Bc{N:oA Str}{pn cn:oA<|Str×lU}{N':oA Str}{mp:oA<|oB Nat}(h:U6 N pn cn N' mp=true):CompOkC N pn cn N' mp:=by unfold U6 at h;obtain⟨h,f⟩:=(a_ _ _).mp h;obtain⟨h,m⟩:=(a_ _ _).mp h;obtain⟨h,g⟩:=(a_ _ _).mp h;obtain⟨h,j⟩:=(a_ _ _).mp h;obtain⟨h1,h2⟩:=(a_ _ _).mp h;refine⟨aF h1,λk i x n a=>?_,λp hp e=>?_,λp hp e=>?_,λp hp e=>?_⟩;have hk:k<N'.length:=(E_.mp a).1;have q:=cH.mp j k<|aL.mpr hk;simp only[n,a]at q;obtain⟨q,c⟩:=(a_ _ _).mp q;obtain⟨q,l⟩:=(a_ _ _).mp q;obtain⟨b,d⟩:=(a_ _ _).mp q;exact⟨aF b,Pu d,aF l,aF c⟩;rcases(eO _ _).mp (cH.mp g p hp) with z|z;exact absurd e<|aF z;exact aF z;rcases(eO _ _).mp (cH.mp m p hp) with z|z;exact absurd e<|aF z;exact Pu z;rcases(eO _ _).mp (cH.mp f p hp) with z|z;exact absurd e<|aF z;exact aF z
def relabel_back2{env:Env}{names:oA<|Str×lU}{x:Str}(h:((names.map λ(n,k)=>if(k==NameKind.free&&env.scope.kind==.function&&env.kindOf n==some .cell) then(n,NameKind.cell) else(n,k)).lookup x=some .cell \/
  (names.map λ(n,k)=>if(k==NameKind.free&&env.scope.kind==.function&&env.kindOf n==some .cell) then(n,NameKind.cell) else(n,k)).lookup x=some .free)):(x,NameKind.free)∈names\/(x,NameKind.cell)∈names:=by
 have a:∀k,(names.map λ(n,k)=>if(k==NameKind.free&&env.scope.kind==.function&&env.kindOf n==some .cell) then(n,NameKind.cell) else(n,k)).lookup x=some k->(k=.cell\/k=.free)->(x,NameKind.free)∈names\/(x,NameKind.cell)∈names:=λk hk hc=>by
  obtain⟨⟨n,c⟩,b,e⟩:=DD.mp<|mem_of_lookup hk;dsimp only at e;split at e;rename_i hb;cases e;simp only[Bool.and_eq_true]at hb;have:c=.free:=by simpa using hb.1.1
  subst this;exact .inl b;cases e;rcases hc with rfl|rfl;exact .inr b;exact .inl b
 exact h.elim (λz=>a _ z<|.inl rfl) λz=>a _ z<|.inr rfl
theorem cf_dich:∀{names:oA<|Str×lU} {n:Nat} {acc:oA<|Str×lH} {x:Str} {c:lH},(cellsFrom n names acc).lookup x=some c->(n<=c/\(x,NameKind.cell)∈names)\/acc.lookup x=some c
 |[],_,_,_,_,h=>.inr h
 | (d,k)::r,n,acc,x,c,h=>by
  unfold cellsFrom at h;split at h
  ·rename_i hk;have hk:k=.cell:=by simpa using hk
   rcases cf_dich h with⟨a,b⟩|z;exact .inl ⟨fN a,.tail _ b⟩
   ·rw[cQ]at z;cases e:x==d with
    |true=>rw[e]at z;cases z;rw[beq_iff_eq.mp e,hk];exact .inl ⟨J_ _,.head _⟩
    |false=>rw[e]at z;exact .inr z
  rcases cf_dich h with⟨a,b⟩|z;exact .inl ⟨a,.tail _ b⟩;exact .inr z
theorem Gn:∀{names:oA<|Str×lU} {n:Nat} {acc:oA<|Str×lH} {x:Str},(∃c,acc.lookup x=some c)->∃c,(cellsFrom n names acc).lookup x=some c
 |[],_,_,_,h=>h
 | (a,k)::r,n,acc,x,⟨c,h⟩=>by
  unfold cellsFrom;split
  ·refine Gn ?_;rw[cQ];cases x==a with
   |true=>exact⟨_,rfl⟩
   |false=>exact⟨c,h⟩
  exact Gn ⟨c,h⟩
theorem Ta:∀{names:oA<|Str×lU} {n:Nat} {acc:oA<|Str×lH} {x:Str},(x,NameKind.cell)∈names->∃c,(cellsFrom n names acc).lookup x=some c
 | (a,k)::r,n,acc,x,h=>by unfold cellsFrom;rcases Y_.mp h with e|e;cases e;rw[T_<|show(NameKind.cell==NameKind.cell)=true from rfl];refine Gn ?_;rw[cQ,kT];exact⟨_,rfl⟩;split;exact Ta e;exact Ta e
theorem Tb:∀{names:oA<|Str×lU} {n:Nat} {acc:oA<|Str×lH},(∀x y c,acc.lookup x=some c->acc.lookup y=some c->x=y)->(∀x c,acc.lookup x=some c->c<n)->∀x y c,(cellsFrom n names acc).lookup x=some c->(cellsFrom n names acc).lookup y=some c->x=y
 |[],_,_,h,_,x,y,c,f,d=>h x y c f d
 | (g,k)::r,n,acc,h,i,x,y,c,f,d=>by unfold cellsFrom at f d;split at f;rename_i hk;rw[T_ hk]at d;refine Tb (acc:=(g,n)::acc) (λx y c f d=>?_) (λx c e=>?_) x y c f d;rw[cQ]at f d;cases a:x==g<;>cases b:y==g<;>rw[a]at f<;>rw[b]at d;exact h x y c f d;cases d;exact absurd (i _ _ f)<|dD _;cases f;exact absurd (i _ _ d)<|dD _;rw[beq_iff_eq.mp a,beq_iff_eq.mp b];rw[cQ]at e;cases a:x==g<;>rw[a]at e;exact dB<|i x c e;cases e;exact bG _;rename_i hk;rw[M_ hk]at d;exact Tb h i x y c f d
theorem Oo:∀{names:oA<|Str×lU} {h:lN} {acc:oA<|Str×lH},(∀x c,acc.lookup x=some c->∃v,h.IsCell c v)->∀x c,(cellsFrom h.objs.size names acc).lookup x=some c->∃v,(pushCells h names).IsCell c v
 |[],_,_,hc,x,c,e=>hc x c e
 | (f,k)::r,h,acc,hc,x,c,e=>by
  unfold cellsFrom at e;unfold pushCells;split at e;rename_i hk;rw[T_ hk];have g:(cellsFrom (h.push {cls:=.type "cell",data:=.cell none}).objs.size r<|(f,h.objs.size)::acc).lookup x=some c:=by rw[cY];exact e
  refine Oo (λy d z=>?_) x c g;rw[cQ]at z;cases a:y==f<;>rw[a]at z;obtain⟨v,q⟩:=hc y d z;exact⟨v,q.keeps λb o e=>D_ _ e⟩;cases z;exact⟨none,_,K_ _ rfl,rfl⟩;rename_i hk;rw[M_ hk];exact Oo hc x c e
def Op(names:oA<|Str×lU)(x:Str):Bool:=match names.lookup x with
 |some .cell=>true
 |_=>false
theorem Tc:∀{names:oA<|Str×lU} {n m:Nat} {acc:oA<|Str×lH} {x:Str} {c:lH},m<=n->(cellsFrom n names acc).lookup x=some c->((x,NameKind.cell)∈names\/∀b,acc.lookup x=some b->m<=b)->m<=c
 |[],_,_,_,_,_,_,h,z=>z.elim (λz=>nomatch z) λz=>z _ h
 | (f,k)::r,n,m,acc,x,c,d,h,z=>by
  unfold cellsFrom at h;split at h
  ·refine Tc (bC d) h ?_;cases a:x==f with
   |true=>refine .inr λb e=>?_;rw[cQ,a]at e;cases e;exact d
   |false=>rcases z with z|z;rcases Y_.mp z with e|e;cases e;rw[kT]at a;cases a;exact .inl e;refine .inr λb e=>?_;rw[cQ,a]at e;exact z b e
  rename_i hk;refine Tc d h<|z.imp_left λz=>?_;rcases Y_.mp z with e|e;cases e;exact absurd rfl hk;exact e
def Td{names:oA<|Str×lU}{x:Str}(h:Op names x=true):(x,NameKind.cell)∈names:=by unfold Op at h;split at h;rename_i e;exact mem_of_lookup e;cases h
def Oq{M:Model}{A:lM}{E:lE->lF->Prop}{s:lF}{a:lT}{globals:lH}{cl:oA<|Str×lH}{b:Str}{outer:Env}{Q:Env->lF->Prop}
  (f:Q (newEnv a s.heap.objs.size globals (cellsFrom (s.heap.objs.size+1) a.names cl) b none .none (some outer) builtinsNs) {s with heap:=pushCells (s.heap.push {cls:=.type "dict",data:=.dict #[]}) a.names}) :
  wpAny M A (newFunctionEnv a globals cl [] b none .none<|some outer) Q E s:=by
 simp only[newFunctionEnv,Option.isSome_some,if_true];refine A_<|wpAny_alloc ?_;refine A_ (wpAny_layCells _ (λe c d=>by cases hkc:c==NameKind.cell<;>simp[hkc]) _ _ _ _ ?_);rw[show({s with heap:=s.heap.push {cls:=.type "dict",data:=.dict #[]}}:lF).heap.objs.size=s.heap.objs.size+1 from cY ..];exact A_<|by rw[List.forIn_nil];exact C_<|C_ f
def Bl(X:Cx)(N':oA Str)(a:lT)(C:lH)(s:lF)(H:Hp)(fp:oA lH):Cx :=
 {X with N:=N',s₀:=s,H₀:=H,env:=compEnvC a (cellsFrom (C+1) a.names<|Ey X.env.cells a.names []) C X.env,outer:=X.stack,stack:=X.stack,ex:=fp,fn:=Op a.names,pn:=[],xe:=λ_ _=>False}
section
variable {X:Cx}{N':oA Str}{mp:oA<|oB Nat}{c7 tg iter:lL}{b9:oA lL}{scope:lT}{pos:Pos}{wi:TI}{g:TG}{tst:TT}{te:TE}
def Inv.comp0C{F:oA<|lH×lO}{f:St}{H:Hp}{s:lF}{fp:oA lH}{tn:lN->Prop}{a:lN}{tk:Nat}{C:lH}(ok:CompOkC X.N X.env.scope.names scope.names N' mp)(hk:scope.kind=.function) (I:Inv X F f H s) (B:∀b∈fp,Hm X F H b) (W:∀b∈fp,∃o,s.heap.get? b=some o) (S:C=s.heap.objs.size+1)
  (ie:∃m,a.Ns C m) (d:∀b o,s.heap.get? b=some o->a.get? b=some o) (Y:∃n,a.get? s.heap.objs.size=some {cls:=.type "list",data:=.seq #[] n}) (U:∀x c,(cellsFrom (C+1) scope.names<|Ey X.env.cells scope.names []).lookup x=some c->∃v,a.IsCell c v) :
  Inv (Bl X N' scope C s H fp) [] (Ps mp f) (upd H s.heap.objs.size<|.lst []) {s with heap:=a,toks:=tk}:=by
 subst S;have V:∀x∈scope.names,x.2=.free->∃c,X.env.cells.lookup x.1=some c:=λx hx e=>I.ok.has x.1<|ok.free x hx e;have sub:∀x c,(Ey X.env.cells scope.names []).lookup x=some c->X.env.cells.lookup x=some c:=Ic V (λx c e=>by simp at e);have w:∀x c,(cellsFrom (s.heap.objs.size+1+1) scope.names<|Ey X.env.cells scope.names []).lookup x=some c->(s.heap.objs.size+1+1<=c/\(x,NameKind.cell)∈scope.names)\/X.env.cells.lookup x=some c:=λx c e=>(cf_dich e).imp_right λz=>sub x c z;have L:∀b∈fp,b<s.heap.objs.size:=λb hb=>by obtain⟨_,e⟩:=W b hb;exact S_ e
 have D:H (s.heap.objs.size+1)=none:=I.hok.fresh<|dW _;have qz:H s.heap.objs.size=none:=I.hok.fresh<|J_ _;have mh:∀b∈fp,b∉frs X.stack:=λb hb z=>by obtain⟨_,f1,P,_⟩:=B b hb;rcases Y_.mp (I.stkSub b z) with e|e;exact f1 e;exact P e
 refine⟨⟨I.ok.mod,hk,I.ok.glob,I.ok.blt,dW _,Tb (λx y c A E=>I.ok.inj x y c (sub x c A)<|sub y c E) (λx c e=>by obtain⟨_,z⟩:=I.cell x c<|sub x c e;exact dB<|dB z.lt),λx e=>?_,λx c so e=>R_ (bC<|dW _)<|Tc (J_ _) e<|.inl<|Td so,I.ok.hd,I.ok.frames,.inl rfl,λb hb=>⟨?_,λx c e=>?_⟩,I.bs,R_ I.ok.bsz I.sz,λb o e hb=>?_,mh,I.stack,I.stkFree⟩,
  rfl,I.bare,Un.laid d (J_ _) qz,?_,λx c e=>?_,?_,λx c e=>?_,λp hp=>(nomatch hp),I.hok.laid d (J_ _) ?_,?_⟩
 rcases relabel_back2 e with z|z;exact Gn<|Ie z;exact Ta z;exact aB<|dB<|L b hb;rcases w x c e with⟨z,_⟩|z;exact λq=>absurd (q ▸ L b hb)<|kY<|R_ (bC<|dW _) z;exact(B b hb).2.2.2.2.1 x c z;rcases(B b hb).2.2.2.1 with z|z;exact I.ok.noex b o e z;exact absurd (V_ (S_ e)<|R_ I.ok.bsz z)<|dD _
 ·obtain⟨m,hm⟩:=ie;refine⟨m,hm,λi x v A E e3=>?_⟩;have h:(Ps mp f)[i]?=some (some v):=E;unfold Ps at h;rw[G_]at h;cases hmp:mp[i]? with
  |none=>rw[hmp]at h;cases h
  |some o=>
   rw[hmp]at h;cases o with
   |none=>cases h
   |some j=>
    have Q:f[j]?=some (some v):=by
     have q:(f[j]?).join=some v:=aX h;cases hj:f[j]? with
     |none=>rw[hj]at q;cases q
     |some y=>rw[hj]at q;exact cV some q
    obtain⟨Z,a2,a3,J⟩:=ok.map i j x hmp A;obtain⟨m0,M,T⟩:=I.loc;obtain⟨u,r,l⟩:=T j x v Z Q<|a2.elim (λz=>.inr<|.inl z) λz=>.inr<|.inr z;refine⟨u,r,.inr ⟨?_,?_⟩⟩;exact N8 J;rcases l with⟨t,_⟩|⟨_,c,R,O⟩;have t:X.env.scope.names.lookup x=some .local:=t;rcases a2 with a2|a2<;>rw[a2]at t<;>cases t;obtain⟨k,G⟩:∃k,(cellsFrom (s.heap.objs.size+1+1) scope.names<|Ey X.env.cells scope.names []).lookup x=some k:=Gn<|Ie a3;have:k=c:=by rcases w x k G with⟨_,z⟩|z;have:=ok.ownc _ z rfl;rw[J]at this;cases this;exact aX<|z.symm.trans R
    subst this;exact⟨k,G,O.keeps d⟩
 exact U x c e
 show upd H s.heap.objs.size (.lst []) (s.heap.objs.size+1)=none;rw[Au<|jI _];exact D;show upd H s.heap.objs.size (.lst []) c=none;rcases w x c e with⟨z,_⟩|z;rw[Au<|gX<|V_ (dB<|bG _) z];exact I.hok.fresh<|R_ (bC<|dW _) z;obtain⟨v,y⟩:=I.cell x c z;rw[Au<|aB y.lt];exact I.freeC x c z;obtain⟨n,e⟩:=Y;exact⟨aG _,[],n,.nil,e⟩;show(Ps mp f).length=N'.length;unfold Ps;rw[B_,ok.len]
def No{aa:oA<|lH×lO}{σ:St}{H:Hp}{s:lF}{it:lH}{fp:oA lH}{tn:Nat->lN->Prop}{J:It}{Q:lH->Hp->Prop}{E:lE->lF->Prop}{RR:lE->lH->lV->lF->Prop}
  (ok:CompOkC X.N X.env.scope.names scope.names N' mp) (hk:scope.kind=.function) (hc:X.calm=true) (I:Inv X aa σ H s) (T:Turn X.prog X.w X.K tg J fp it tn) (st:tn 0 s.heap) (hf:∀b∈fp,Hm X aa H b)
  (hg:∀C s H fp,PG (Bl X N' scope C s H fp) tg g) (ht:∀C s H fp,PIfs (Bl X N' scope C s H fp) b9 tst) (he:∀C s H fp,PE (Bl X N' scope C s H fp) c7 te)
  (h:∀p,H p=none->Y8 p J g tst te (Q p) (Ps mp σ) (upd H p<|.lst []))
  (hRR:∀C P H',Inv X aa σ H' P->(∃m,P.heap.Ns C m)->H' C=none->X.s₀.heap.objs.size<=C->C≠X.env.locals->(∀x c,X.env.cells.lookup x=some c->c≠C)->(∀q∈X.pn++aa,q.1≠C)->Q s.heap.objs.size H'->RR (.ref s.heap.objs.size) C (.ok .next) P) :
  qQ X.prog X.w X.A (newList []) (λa f=>qQ X.prog X.w X.A (newFunctionEnv scope X.env.globals (Ey X.env.cells scope.names []) [] X.env.qual none .none<|some X.env) (λp8 S=>
   codeAny (model X.prog X.w) X.A (.compStart (.ListComp c7 [⟨tg,iter,b9,0⟩] scope pos) 0 (.ref it) a {p8 with scope:=relabel scope X.env}) (RR a p8.locals) S) E f) E s:=by
 refine aC<|Oq ?_;dsimp only;generalize Z:s.heap.push {cls:=.type "list",dict:=none,data:=.seq ([]:oA lE).toArray}=H2;have hC:H2.objs.size=s.heap.objs.size+1:=by rw[<- Z,cY]
 have rp:∀b o,H2.get? b=some o->(pushCells (H2.push {cls:=.type "dict",data:=.dict #[]}) scope.names).get? b=some o:=λb o e=>pushCells_keeps _ _ b o<|D_ _ e;have k:∀b o,s.heap.get? b=some o->(pushCells (H2.push {cls:=.type "dict",data:=.dict #[]}) scope.names).get? b=some o:=λb o e=>rp b o<|Z ▸ D_ _ e;have fk:∃n,(pushCells (H2.push {cls:=.type "dict",data:=.dict #[]}) scope.names).get? s.heap.objs.size=some {cls:=.type "list",data:=.seq #[] n} :=
  ⟨_,rp _ _<|Z ▸ K_ _ rfl⟩
 have l:(pushCells (H2.push {cls:=.type "dict",data:=.dict #[]}) scope.names).Ns H2.objs.size λ_=>none:=(Heap.Ns.new H2<|.type "dict").keeps<|pushCells_keeps _ _;have xo:∀x∈scope.names,x.2=.free->∃c,X.env.cells.lookup x.1=some c:=λx hx e=>I.ok.has x.1<|ok.free x hx e;have im:∀x c,(cellsFrom (H2.objs.size+1) scope.names<|Ey X.env.cells scope.names []).lookup x=some c->∃v,(pushCells (H2.push {cls:=.type "dict",data:=.dict #[]}) scope.names).IsCell c v:=λx c e=>by refine Oo (h:=H2.push {cls:=.type "dict",data:=.dict #[]}) (λy d z=>?_) x c (by rw[cY];exact e);obtain⟨v,q⟩:=I.cell y d (Ic xo (λx c e=>by simp at e) y d z);exact⟨v,q.keeps λb o e=>D_ _<|Z ▸ D_ _ e⟩
 generalize pushCells (H2.push {cls:=.type "dict",data:=.dict #[]}) scope.names=h₁ at k fk l im;have vf:∀b∈fp,∃o,s.heap.get? b=some o:=λb hb=>by obtain⟨o,e,_⟩:=T.obj _ _ st b hb;exact⟨o,e⟩
 have ki:s.heap.objs.size<=H2.objs.size:=by rw[hC];exact dW _
 have I0:=I.comp0C (tn:=tn 0) (C:=H2.objs.size) (tk:=s.toks) ok hk hf vf hC ⟨_,l⟩ k fk im;have kq:tn 0 h₁:=T.keep _ _ _ st λb hb o e=>k b o e;obtain⟨W,⟨m0,w0⟩,f9⟩:=h _<|I.hok.fresh<|J_ _;have mh:∀b∈fp,b∉frs X.stack:=I0.ok.exfs;have gh:∀{H':Hp},(∀b∈fp,H' b=none)->∀b∈fp,Hm (Bl X N' scope H2.objs.size s H fp) [] H' b:=λhn b hb=>
  ⟨hn b hb,(I0.ok.exf b hb).1,mh b hb,.inl hb,(I0.ok.exf b hb).2,λq hq=>(nomatch hq)⟩
 have D:∀f:lF,f={s with heap:=h₁} ->
   codeAny (model X.prog X.w) X.A (.compLoop (.ListComp c7 [⟨tg,iter,b9,0⟩] scope pos) 0 (.ref it) (.ref s.heap.objs.size)<|compEnvC scope (cellsFrom (H2.objs.size+1) scope.names<|Ey X.env.cells scope.names []) H2.objs.size X.env) (RR (.ref s.heap.objs.size) H2.objs.size) f:=by
  rintro f rfl;refine Pq (λn P=>∃i a j H',Inv (Bl X N' scope H2.objs.size s H fp) [] j H' P/\tn i P.heap/\(∀b∈fp,H' b=none)/\W i n a j H') ?_ m0
   ⟨0,[],_,_,I0,kq,λb hb=>by rw[Au<|aB (by obtain⟨_,e⟩:=vf b hb;exact S_ e)];exact(hf b hb).1,w0⟩
  rintro n s3 ⟨i,a,t,H3,I3,Y,R,w3⟩;rcases f9 i n a t H3 w3 with⟨stop,qn⟩|⟨go,N,hN,step⟩;refine thn (T.done (Bl X N' scope H2.objs.size s H fp) rfl rfl rfl hc i [] s3 t H3 _ I3 (gh R) Y stop) λr s4 ⟨hr,M⟩=>?_;subst hr;refine hRR _ s4 H3 ?_ (by obtain⟨m,hm,_⟩:=M.loc;exact⟨m,hm⟩) M.free (R_ I.sz ki) (gX<|V_ I.lt ki) (λx c e=>?_) (λq hq=>?_) qn;exact I.call' M.os M.base M.hok M.bare λb hb=>by obtain⟨_,f1,_,f3,f4,f5⟩:=hf b hb;exact⟨f3,f1,f4,f5⟩
  obtain⟨v,z⟩:=I.cell x c e;exact aB<|V_ z.lt ki;exact aB<|V_ (S_ (I.pin q hq).1) ki
  ·refine thn (T.item (Bl X N' scope H2.objs.size s H fp) rfl rfl rfl hc i [] s3 t H3 _ I3 (gh R) Y go) λr s4 ⟨u,hr,h4⟩=>?_;subst hr;refine thn h4 λ_ s5 pi=>?_;obtain⟨x,H5,I5,r5,y5,G,fr5⟩:=pi;have I5':=I5.pinned (gh fr5)<|T.obj _ _ G;refine thn (hg _ _ _ _ _ s5 t H5 x u _ I5' r5<|step x H5 y5) λ_ s6 tu=>?_;obtain⟨L,H6,I6,q6⟩:=tu;refine thn (ht _ _ _ _ _ s6 L H6 _ I6 q6) λb s7 ⟨H7,I7,q7⟩=>?_;have again:∀{B:St} {F:Hp} {lx:oA V} {O:lF},Inv (Bl X N' scope H2.objs.size s H fp) ([]++Kx fp s5.heap) B F O->(∃m',m'<n/\W (i+1) m' lx B F) ->
     ∃m,m<n/\∃i a j H',Inv (Bl X N' scope H2.objs.size s H fp) [] j H' O/\tn i O.heap/\(∀b∈fp,H' b=none)/\W i m a j H':=λ{B F lx O} U hw=>by
    obtain⟨m',hm,w8⟩:=hw;refine⟨m',hm,i+1,lx,B,F,U.unpinned,T.keep _ _ _ G λb hb o e=>(U.pin (b,o)<|aU _<|aU _<|Fg hb e).1,λb hb=>?_,w8⟩;obtain⟨o,e,d⟩:=T.obj _ _ G b hb;exact(U.pin (b,o)<|aU _<|aU _<|Fg hb e).2.1
   cases b with
   |false=>rw[M_ Q_];rw[M_ Q_]at q7;exact again I7 (hN _ _ _ q7)
   |true=>rw[T_ rfl];rw[T_ rfl]at q7;refine thn (he _ _ _ _ _ s7 L H7 _ I7 q7) λy O t6=>?_;obtain⟨v,F,U,r8,ac,e8,z8,w8⟩:=t6;refine thn (M4 (X:=Bl X N' scope H2.objs.size s H fp) _ O L F (.ref s.heap.objs.size) [v] (.ref s.heap.objs.size) [y] (λ_ H9=>H9=upd F s.heap.objs.size (.lst<|ac++[v])) U rfl (.cons r8 .nil) ⟨_,ac,v,rfl,rfl,e8,z8,rfl⟩) λ_ s9 om=>?_;obtain⟨_,H9,I9,_,e9⟩:=om;subst e9;exact again I9<|hN _ _ _ w8
 exact codeAny_compStart_list (D _ rfl)<|T.self _ 0 _ _ _ kq<|D _ rfl
def Qw(hc:X.calm=true)(F:PI X tg iter wi)(u:∀C s H a,PG (Bl X N' scope C s H a) tg g)(ht:∀C s H a,PIfs (Bl X N' scope C s H a) b9 tst)(he:∀C s H a,PE (Bl X N' scope C s H a) c7 te)
  (ok:CompOkC X.N X.env.scope.names scope.names N' mp) (hk:scope.kind=.function:=by rfl) (hs:∀x,foldedSetIterable iter X.env x=pure x:=by intro _;rfl) :
  PE X (.ListComp c7 [⟨tg,iter,b9,0⟩] scope pos) (Y9 mp wi g tst te):=by
 intro f s d H Q I h;rw[eval_ListComp];refine wpAny_comprehension_free (use:=none) rfl hs (Hh λx hx e=>I.ok.has x.1<|ok.free x hx e) hk ok.loc<|thn (F f s d H _ I h) λv M h1=>thn h1 λP D h2=>?_;obtain⟨R,a,O,J,G,e,k,T,r,i,y⟩:=h2;subst e;refine No (Q:=λp b=>Q (.ref p) b) (RR:=λc C=>compPost (model X.prog X.w) X.A X.xe none (EP X f d Q) c C) ok hk hc k T r i u ht he y ?_;intro C S b B o t h1 l j E q;obtain⟨m,z⟩:=o;exact⟨m,z,λL n=>⟨.ref D.heap.objs.size,b,B.letgo t h1 l j E n,rfl,q⟩⟩
def BO{i:Nat}{y:Str}{b r:Pos}(hc:X.calm=true)(Y:X.N.Nodup)(F:X.N[i]?=some y)(hy:X.env.scope.names.lookup y=some .local)
  (hi:PI X tg iter wi) (S:∀C s H c,PG (Bl X N' scope C s H c) tg g) (ht:∀C s H c,PIfs (Bl X N' scope C s H c) b9 tst) (he:∀C s H c,PE (Bl X N' scope C s H c) c7 te)
  (ok:CompOkC X.N X.env.scope.names scope.names N' mp) (G:swapsWith (.ListComp c7 [⟨tg,iter,b9,0⟩] scope pos) (some<|.Name y b) r.line X.env=pure true:=by rfl)
  (hk:scope.kind=.function:=by rfl) (hs:∀x,foldedSetIterable iter X.env x=pure x:=by intro _;rfl) :
  PS X (.Assign [.Name y b] (.ListComp c7 [⟨tg,iter,b9,0⟩] scope pos) r) (EZ (Y9 mp wi g tst te)<|Yj i):=by
 intro f s t H D I h;rw[exec_Assign_Name_used _ _ _ _ G];refine A_<|wpAny_standAt<|A_ ?_;show wpAny _ _ (do let _ <- comprehension (.ListComp c7 [⟨tg,iter,b9,0⟩] scope pos) scope X.env _ (newList []) false (eval iter X.env) (some<|assign (.Name y b) X.env)) _ _ s;refine A_<|cD (wpAny_comprehension_free (use:=some<|assign (.Name y b) X.env) (Q:=λ_ d=>SP X f D .next d) rfl hs (Hh λx hx e=>I.ok.has x.1<|ok.free x hx e) hk ok.loc
  (thn (hi f s t H _ I h) λv s1 h1=>thn h1 λve B h2=>?_)) (λ_ d hq=>C_<|C_ hq) λ_ _ e=>e
 obtain⟨it,c,tn,J,H2,e,L,T,P,E,U⟩:=h2;subst e;refine No (Q:=λp k=>D.nx (t.set i<|some<|.ref p) k) (RR:=λo C=>compPost (model X.prog X.w) X.A X.xe (some<|assign (.Name y b) X.env) (λ_ d=>SP X f D .next d) o C) ok hk hc L T P E S ht he U ?_;intro C d k Z O R h1 z u mf q;obtain⟨m,V⟩:=O;show wpAny _ _ (assign (.Name y b) X.env<|.ref B.heap.objs.size) _ _ d;refine wpAny_assign_Name<|Mv Z Y F (.inl hy) (v:=.ref B.heap.objs.size) rfl (λvz n W=>?_)<|.inr hy;obtain⟨a,j,ha⟩:=W;have l:C≠a:=by rcases ha with rfl|ha;exact z;exact(u _ _ ha).symm
 refine⟨m,V.sameBut j l,λh' M=>?_⟩;exact⟨_,k,n.letgo R h1 z u mf M,q⟩
def Cf{wi:AI}{g:AG}{tst:AT}{te:AE}(hc:X.calm=true)(c:VI X tg iter wi)(b:∀C s H a,VG (Bl X N' scope C s H a) tg g)(ht:∀C s H a,VIfs (Bl X N' scope C s H a) b9 tst)(he:∀C s H a,VE (Bl X N' scope C s H a) c7 te)
  (ok:CompOkC X.N X.env.scope.names scope.names N' mp) (hk:scope.kind=.function:=by rfl) (hs:∀x,foldedSetIterable iter X.env x=pure x:=by intro _;rfl) :
  VE X (.ListComp c7 [⟨tg,iter,b9,0⟩] scope pos) (Py mp wi g tst te):=(Qw (g:=cG X.K g) (tst:=cT X.K tst) (te:=cE X.K te) hc c (λC s H a=>b C s H a) (λC s H a=>ht C s H a) (λC s H a=>he C s H a) ok hk hs).imp λ_ _ _ h=>Nf h
def Go{wi:AI}{g:AG}{tst:AT}{te:AE}{i:Nat}{y:Str}{d c:Pos}(hc:X.calm=true)(p:X.N.Nodup)(f:X.N[i]?=some y)(hy:X.env.scope.names.lookup y=some .local)
  (q:VI X tg iter wi) (n:∀C s H a,VG (Bl X N' scope C s H a) tg g) (ht:∀C s H a,VIfs (Bl X N' scope C s H a) b9 tst) (he:∀C s H a,VE (Bl X N' scope C s H a) c7 te)
  (ok:CompOkC X.N X.env.scope.names scope.names N' mp) (j:swapsWith (.ListComp c7 [⟨tg,iter,b9,0⟩] scope pos) (some<|.Name y d) c.line X.env=pure true:=by rfl)
  (hk:scope.kind=.function:=by rfl) (hs:∀x,foldedSetIterable iter X.env x=pure x:=by intro _;rfl) :
  VS X (.Assign [.Name y d] (.ListComp c7 [⟨tg,iter,b9,0⟩] scope pos) c) (Sd (Py mp wi g tst te)<|D1 i):=(BO (g:=cG X.K g) (tst:=cT X.K tst) (te:=cE X.K te) hc p f hy q (λC s H a=>n C s H a) (λC s H a=>ht C s H a) (λC s H a=>he C s H a) ok j hk hs).imp λD t H b=>Hk b λo k w nr z A hs hc h hq=>
 Nf (K:=X.K) ⟨o,k,_,hs,hc,h,λx r v u e l m hx=>hq.nx _ _ _ _ e ((hs.kp e).set m i) l hx⟩
end
end L2
namespace L2
open PySem PySem.Spec PySem.Calls PyProof.Rows
abbrev RIt(h:lN)(it d:lH)(i n ep:Nat)(z:lE)(f:Bool)(ok ov:lE):Prop :=
 h.get? it=some {cls:=.type "dict_itemiterator",dict:=none,data:=.fields #[z,.bool f,.ref d,.int i 0,.int n 0,.int ep 0,ok,ov],slots:=#[]}
section
variable {prog:lJ}{w:lK}{A:lM}{E:lE->lF->Prop}{s:lF}{d it v:lH}{es:oC DictEntry}{ep i:Nat}{z ok ov:lE}{f:Bool}{R:lV->lF->Prop}{X:Cx}{k:Nat}{aa:oA<|lH×lO}{σ:St}{H:Hp}{o:lL}{ao ak jc pos:Pos}{tg:lL}{K:lI}{a:lH}{od:lO}{ws:oA<|oA Key×V}{N':oA Str}{mp:oA<|oB Nat}{c7:lL}{b9:oA lL}{scope:lT}
def Xh(c:(d==sysModules)=false):MeetsIn prog w (Builtin.«dict.items» ⟨[.ref d],[]⟩) (λ_ R s=>(∃es ep,Ep s.heap d es ep)/\R (.ok<|.ret<|.ref s.heap.objs.size) {s with heap:=s.heap.push {cls:=.type "dict_items",data:=.fields #[.ref d]}}) :=
 .of_wp λA R s ⟨⟨_,_,b⟩,h⟩=>by unfold Builtin.«dict.items» Builtin.Dict.noArgs;refine A_<|A_<|gQ b.ty<|show wpAny _ _ (pure d) _ _ s from C_ ?_;show wpAny _ _ (Builtin.Dict.showsAll d>>=_) _ _ s;unfold Builtin.Dict.showsAll;rw[c,M_ Q_];exact A_<|C_<|A_<|aC<|C_ ⟨_,rfl,h⟩
def Xi{Q:lE->lF->Prop}(hv:s.heap.IsItemsView v d)(g:Ep s.heap d es ep)
  (q:Q (.ref s.heap.objs.size) {s with heap:=s.heap.push {cls:=.type "dict_itemiterator",data:=.fields #[.none,.bool false,.ref d,.int 0 0,.int es.size 0,.int ep 0,.none,.none]}}):qQ prog w A (pyIter<|.ref v) Q E s:=by
 obtain⟨h,e,_,c⟩:=id hv;obtain⟨o,h1,_,b⟩:=id g;refine eM hv.typeIs F.slot_dict_items_iter<|aO F.slot_dict_items_iter hv.typeIs F.entry_dict_items_iter ?_<|F.args_dict_items_iter_1 _;unfold Builtin.«dict_items.__iter__» Builtin.Dict_items.dictOf Builtin.Dict_items.newIterator;refine A_<|C_<|A_<|A_<|cB e c (x:=.ref d) rfl<|C_<|A_<|A_<|cW h1 b<|A_<|eU h1 b ?_;simp only[show Builtin.Dict_items.ownsTuple "dict_itemiterator" = true by decide,if_true];refine aC (C_ ⟨_,rfl,"dict_itemiterator",_,⟨_,K_ _ rfl,rfl⟩,F.slot_dict_itemiterator_next.lookup,?_⟩)
  (by simp only[sizeOk,Builtin.Dict_items.ownedTupleFields,List.size_toArray,List.length_append,List.length_cons,List.length_nil,sizeLine_eq];exact Nat.le_add_left _ _)
 simpa [rawInt,Builtin.Dict_items.ownedTupleFields] using q
def Xj{Q:oB lE->lF->Prop}(D:RIt s.heap it d i es.size ep z f ok ov)(hz:(z=.none/\f=false)\/∃(a:lH) (U:lO),z=rawInt a/\s.heap.get? a=some U/\a≠it)(hm:Ep s.heap d es ep)(hi:i<es.size)
  (hQ:∀B l q J G,RIt B it d (i+1) es.size ep l q J G->((z=.none/\l=rawInt s.heap.objs.size/\q=false)\/∃a:lH,z=rawInt a/\l=rawInt a)->B.get? s.heap.objs.size=some {cls:=.type "tuple",data:=.seq #[es[i].key,es[i].val]}->B.objs.size=s.heap.objs.size+1 ->
   (∀b o,b≠it->s.heap.get? b=some o->B.get? b=some o)->Q (some<|.ref s.heap.objs.size) {s with heap:=B}):qQ prog w A (pyNext<|.ref it) Q E s:=by
 obtain⟨hp,g,u,y,os⟩:=s;obtain⟨od,h1,_,Y⟩:=id hm;have T:Shared.TypeIs ⟨hp,g,u,y,os⟩ (.ref it) "dict_itemiterator" := ⟨_,D,rfl⟩;unfold pyNext;refine A_<|dN<|aZ (name:=Str.ofString "__next__") T F.slot_dict_itemiterator_next<|aO F.slot_dict_itemiterator_next T F.entry_dict_itemiterator_next ?_<|F.args_dict_itemiterator_next_1 _;refine A_<|C_<|A_<|A_ ?_
 first|refine A_ (eC T<|C_<|A_<|dF D rfl ?_)|refine A_<|fE T<|C_<|A_<|dF D rfl ?_
 simp only[show Builtin.Dict_items.ownsTuple "dict_itemiterator" = true by decide,if_true];show qQ prog w _ (if(Value.ref d==Value.none)=true then _ else _) _ _ _;rw[M_<|by exact Q_];refine A_<|C_<|A_<|cW h1 Y ?_;rw[M_<|by simp];refine A_<|C_<|A_<|eU h1 Y ?_;rw[M_<|by simp];refine C_ ?_;simp only[show ¬((i:Int)<0) by omega,if_false,Int.toNat_natCast,Array.getElem?_eq_getElem hi];refine A_ ?_
 first|refine A_ (eC T<|C_<|A_<|gJ T ?_)|refine A_<|fE T<|C_<|A_<|gJ T ?_
 show qQ prog w _ (setField (.ref it) 3 (rawInt<|(i:Int)+1)>>=_) _ _ ⟨hp,g,u,y,os⟩;refine A_ (fC D (by simp) λn I C=>?_);replace C:Heap.SameBut it hp n:=C;replace I:RIt n it d (i+1) es.size ep z f ok ov:=by unfold RIt;rw[show((i+1:Nat):Int)=(i:Int)+1 by omega];simpa [rawInt] using I
 have P:Shared.TypeIs ⟨n,g,u,y,os⟩ (.ref it) "dict_itemiterator" := ⟨_,I,rfl⟩;refine A_<|bT<|A_<|gJ P<|A_<|gJ P ?_;show qQ prog w _ (Builtin.Dict_items.pairFromOwner (.ref it) 6 es[i].key es[i].val) _ _ ⟨n,g,u,y,os⟩;unfold Builtin.Dict_items.pairFromOwner;refine A_<|wpAny_newTuple ?_;have j:RIt (n.push {cls:=.type "tuple",data:=.seq #[es[i].key,es[i].val]}) it d (i+1) es.size ep z f ok ov:=D_ _ I;generalize M:n.push {cls:=.type "tuple",data:=.seq #[es[i].key,es[i].val]}=t at j;have L:n.objs.size=hp.objs.size:=C.1;have il:it<hp.objs.size:=S_ D;have t2:t.get? hp.objs.size=some {cls:=.type "tuple",data:=.seq #[es[i].key,es[i].val]}:=by rw[<- M,<- L];exact K_ _ rfl
 have z2:t.objs.size=hp.objs.size+1:=by rw[<- M,cY,L]
 have Z:∀b o,b≠it->hp.get? b=some o->t.get? b=some o:=λb o hb e=>by rw[<- M];exact D_ _<|C.extBut b o hb e
 show qQ prog w _ (Builtin.Dict_items.ownedTupleIsFree (.ref it)>>=_) _ _ ⟨t,g,u,y,os⟩;rw[L];clear M I C P L n;have p:∀(h:lN) l q J G,RIt h it d (i+1) es.size ep l q J G->((z=.none/\l=rawInt hp.objs.size/\q=false)\/∃a:lH,z=rawInt a/\l=rawInt a)->Heap.SameBut it t h->Q (some<|.ref hp.objs.size) ⟨h,g,u,y,os⟩:=λh l q J G m c r=>
  hQ h l q J G m c (r.extBut _ _ (gX il) t2) (by show h.objs.size=_;rw[r.1,z2]) λb o hb e=>r.extBut b o hb<|Z b o hb e
 refine A_ ?_;unfold Builtin.Dict_items.ownedTupleIsFree;rcases hz with⟨rfl,rfl⟩|⟨a,U,rfl,ha,kc⟩;refine A_<|cB j rfl (x:=.none) rfl<|C_ ?_;simp only[if_true];refine A_<|cB j rfl (x:=ok) rfl<|A_<|cB j rfl (x:=ov) rfl ?_;refine A_ (fC j (by simp) λh m r=>?_);replace m:RIt h it d (i+1) es.size ep .none false es[i].key ov:=m;refine A_ (fC m (by simp) λk4 N s4=>?_);replace N:RIt k4 it d (i+1) es.size ep .none false es[i].key es[i].val:=N;refine A_ (fC N (by simp) λk5 S s5=>?_);replace S:RIt k5 it d (i+1) es.size ep (rawInt hp.objs.size) false es[i].key es[i].val:=S;refine A_ (fC S (by simp) λk6 O s6=>?_);replace O:RIt k6 it d (i+1) es.size ep (rawInt hp.objs.size) false es[i].key es[i].val:=O;exact A_<|jR<|C_<|C_ ⟨_,rfl,C_<|p k6 _ _ _ _ O (.inl ⟨rfl,rfl,rfl⟩)<|((Heap.SameBut.trans r s4).trans s5).trans s6⟩
 ·refine A_<|cB j rfl (x:=rawInt a) rfl ?_;show qQ prog w _ (loadIfAlive ((a:Int).toNat)>>=_) _ _ _;rw[fO];refine A_<|PySem.W.kdx_alive (Z a U kc ha) ?_;simp only[Option.isNone_some,Bool.false_eq_true,if_false];refine A_<|cB j rfl (x:=.bool f) rfl ?_;cases f with
  |true=>rw[M_<|by exact Q_];refine C_ ?_;simp only[Bool.false_eq_true,if_false];exact C_ (C_ ⟨_,rfl,C_<|p t _ _ _ _ j (.inr ⟨a,rfl,rfl⟩)<|Heap.SameBut.refl _ _⟩)
  |false=>rw[T_<|by rfl];refine A_ (fC j (by simp) λh m r=>C_ ?_);replace m:RIt h it d (i+1) es.size ep (rawInt a) true ok ov:=m;simp only[Bool.false_eq_true,if_false];exact C_<|C_ ⟨_,rfl,C_<|p h _ _ _ _ m (.inr ⟨a,rfl,rfl⟩) r⟩
def BP{Q:oB lE->lF->Prop}(j:A.handled=none)(c:RIt s.heap it d es.size es.size ep z f ok ov)(h:Ep s.heap d es ep)(q:∀g,Heap.ExtBut it s.heap g->Q none {s with heap:=g}):qQ prog w A (pyNext<|.ref it) Q E s:=by
 obtain⟨od,h1,_,e⟩:=id h;have T:s.TypeIs (.ref it) "dict_itemiterator" := ⟨_,c,rfl⟩;unfold pyNext;refine A_<|dN<|aZ (name:=Str.ofString "__next__") T F.slot_dict_itemiterator_next<|aO F.slot_dict_itemiterator_next T F.entry_dict_itemiterator_next ?_<|F.args_dict_itemiterator_next_1 _;refine A_<|C_<|A_<|A_ ?_
 first|refine A_ (eC T<|C_<|A_<|dF c rfl ?_)|refine A_<|fE T<|C_<|A_<|dF c rfl ?_
 simp only[show Builtin.Dict_items.ownsTuple "dict_itemiterator" = true by decide,if_true];show qQ prog w _ (if(Value.ref d==Value.none)=true then _ else _) _ _ s;rw[M_<|by exact Q_];refine A_<|C_<|A_<|cW h1 e ?_;rw[M_<|by simp];refine A_<|C_<|A_<|eU h1 e ?_;rw[M_<|by simp];refine C_ ?_;simp only[show ¬((es.size:Int)<0) by omega,if_false,Int.toNat_natCast,Array.getElem?_eq_none<|Nat.le_refl es.size];refine A_ ?_
 first|refine A_ (eC T<|C_ ?_)|refine A_<|fE T<|C_ ?_
 show qQ prog w _ (setField (.ref it) 2 .none>>=_) _ _ s;refine A_ (dE c rfl (by simp)<|show wpAny _ _ (newExc (.type "StopIteration") []>>=_) _ _ _ from A_ ?_);simp only[newExc,newTuple];refine A_ (aC (A_ (m:=firstArgMember _ _)<|dI (a:=Value.none) (by first|rfl|(simp only[firstArgMember];rfl))<|aC ?_<|by size_fits)<|by size_fits);simp only[raiseNew];refine A_<|h_ (?_:_);rw[show A.in1.handled=none from j];refine A_<|C_<|jO ?_;refine A_ (cZ (T := "StopIteration") (b:=true) (by exact⟨_,K_ _ rfl,rfl⟩) iT ?_);exact C_<|q _<|((aN ..).extBut.push _).push _
def Xk:QN X "dict.items" (λx t H Q=>∃a g,x=.ref a/\t=[]/\H a=some (.dT g)/\∀v,H v=none->Q (.ref v) (upd H v<|.ext λh=>h.IsItemsView v a)):=by intro aa s σ H x u v y Q I l r h;obtain⟨a,g,rfl,rfl,ha,q⟩:=h;cases l;have n:=Vals.zero r;subst n;obtain⟨hz,c,B,m,o,es,ep,h1,h2,p,C,_⟩:=Po I.hok ha;have j:Ep s.heap a es ep:=⟨o,h1,h2,p⟩;refine iP PySem.F.slot_dict_items j.ty PySem.F.entry_dict_items (PySem.F.args_dict_items_1 _) (Xh c) ⟨⟨es,ep,j⟩,?_⟩;refine⟨.ref s.heap.objs.size,_,I.laid (t':=s.toks) (o:=.ext λh=>h.IsItemsView s.heap.objs.size a) (λb D q=>D_ _ q) (J_ _) ?_,rfl,q _<|I.hok.fresh<|J_ _⟩;exact⟨⟨_,K_ _ rfl,rfl,rfl⟩,⟨_,K_ _ rfl⟩,by rintro h1 h2 ⟨o,e,r⟩ k;exact ⟨o,k o e,r⟩⟩
def Inv.freezeT{a:lH}{od:lO}{ws:oA<|oA Key×V}(I:Inv X aa σ H s)(e:H a=some (.dT ws))(j:s.heap.get? a=some od):Inv X aa σ (upd H a<|.frz od<|.dT ws) s:=by obtain⟨z,l,g,b,o,es,ep,h1,h2,n,m,p⟩:=(show Bx X.prog X.w H s.heap a (.dT ws) from I.hok a _ e);refine Ko (h':=s.heap) (t':=s.toks) I (by rw[e];exact True.intro) (Heap.SameBut.refl _ _) ⟨od,j⟩ ⟨j,z,l,g,KT.keeps (show KT H ws g from b) λc q h=>?_,o,es,ep,h1,h2,n,m,p⟩;rw[Au<|Ph h e (λz=>nomatch z)];exact h
def Iit(d:lH)(od:lO)(ws:oA<|oA Key×V):It :=
 ⟨λi H=> H d = some (.frz od<|.dT ws) /\ i<ws.length,
  λi H v c=> ∃ T b k y, H T = none /\ v = .ref T /\ ws[i]? = some (k, y) /\ H b = some (.tup<|k.map kV) /\ c = upd H T (.tup [.ref b, y]),
  λi H=> H d = some (.frz od<|.dT ws) /\ ws.length = i⟩
def Lr:PySem.entryFor PySem.table "dict_itemiterator.__iter__" = some Builtin.«dict_keyiterator.__iter__»:=PySem.entryFor_alias (id' := "dict_keyiterator.__iter__") (by kernel_rfl) rfl (by decide +kernel)<|by kernel_rfl
def Kj{prog:lJ}{w:lK}{A:lM}{E:lE->lF->Prop}{s:lF}{it d:lH}{i n ep:Nat}{ok ov:lE}{Q:lE->lF->Prop}(c:IsItemIter s.heap it d i n ep ok ov)(h:Q (.ref it) s):qQ prog w A (pyIter<|.ref it) Q E s:=by have b:s.TypeIs (.ref it) "dict_itemiterator" := ⟨_,c,rfl⟩;refine eM b iA<|aO iA b Lr ?_<|PySem.F.args_dict_itemiterator_iter_1 _;show wpAny _ _ (ret<|.ref it) _ _ s;exact C_ ⟨_,rfl,"dict_itemiterator",_,b,PySem.F.slot_dict_itemiterator_next.lookup,h⟩
def Te{P:lJ}{w:lK}{K:lI}{bi:oA lL}{k:Nat}{pos:Pos}(d it:lH)(od:lO)(ws:oA<|oA Key×V)(es:oC DictEntry)(ep:Nat)(t:od.data=.dict es ep)(hsz:es.size=ws.length) :
  Turn P w K (.Tuple bi k pos) (Iit d od ws) [it] it (λi h=>∃ok ov,IsItemIter h it d i es.size ep ok ov) where
 mem:=by simp
 obj:=λi h st b hb=>by
  have e:b=it:=by simpa using hb
  subst e;obtain⟨ok,ov,st⟩:=st;exact⟨_,st,λv z=>nomatch z⟩
 keep:=λi h u st k=>let⟨ok,ov,st⟩:=st;⟨ok,ov,k it (by simp) _ st⟩
 item:=by
  intro X D m F hc i aa s σ H E I r st B;subst D m F;obtain⟨ok,ov,g⟩:=st;obtain⟨x,ba⟩:=B;obtain⟨p,z,hd,c,j,o,di,y,h1,h2,n,L,h5⟩:=(show Bx X.prog X.w H s.heap d (.frz od<|.dT ws) from I.hok d _ x);rw[p]at h1;cases h1;rw[t]at n;cases n;have T:i<es.size:=by omega
  have Y:=bS j;have hx:c[i]?=some c[i]:=F_ (by omega);have m:ws[i]?=some ws[i]:=F_ ba;obtain⟨x',O,r1,r2,r3⟩:=Ea j m;rw[hx]at O;cases O;have fw:es[i]=entryOfKey (tupleKind<|Bp X.prog X.w) c[i]:=by have N:=cV (λl=>l[i]?) L;simp only[Array.getElem?_toList,Array.getElem?_eq_getElem T,List.getElem?_map,hx,Option.map_some]at N;exact aX N
  refine Xj (z:=.none) (f:=false) g (.inl ⟨rfl,rfl⟩) ⟨od,p,h2,t⟩ T λu z' Z m7 np du hz' hT bz C=>?_;have G:z'=rawInt s.heap.objs.size/\Z=false:=by rcases hz' with⟨_,h⟩|⟨a,h,_⟩;exact h;cases h
  obtain⟨rfl,rfl⟩:=G;refine⟨_,rfl,wpAny_letOwnedTupleGo_items du λW yb J=>?_⟩;have I1:Inv X aa σ H {s with heap:=u,toks:=s.toks}:=I.turnedL (fp:=[it]) (λb o hb e=>C b o (λq=>hb<|by simp[q]) e) r;have I2:Inv X aa σ H {s with heap:=W,toks:=s.toks}:=I1.turnedL (s:={s with heap:=u,toks:=s.toks}) (t':=s.toks) (fp:=[it]) (λb o hb e=>J.extBut b o (λq=>hb<|by simp[q]) e) r;have U:Hm X aa H s.heap.objs.size:=I.fpOk (J_ _)<|I.hok.fresh<|J_ _;have M:it<s.heap.objs.size:=S_ g;have S:W.get? s.heap.objs.size=some {cls:=.type "tuple",data:=.seq #[es[i].key,es[i].val]}:=J.extBut _ _ (gX M) hT;rw[fw]at S;refine⟨.ref s.heap.objs.size,upd H s.heap.objs.size<|.tup [.ref c[i].2.1,ws[i].2],I2.track U ⟨by show 2<=sizeLine;decide,[.ref c[i].2.1,c[i].2.2],.cons rfl<|.cons r3 .nil,_,S,rfl,_,rfl⟩,rfl,⟨s.heap.objs.size,c[i].2.1,ws[i].1,ws[i].2,U.1,rfl,m,r2,rfl⟩,⟨_,_,yb⟩,λb hb=>?_⟩;have e:b=it:=by simpa using hb
  subst e;rw[Au<|aB M];exact(r b hb).1
 done:=by intro X D m F hc i aa s σ H E I r st B;subst D m F;obtain⟨ok,ov,g⟩:=st;obtain⟨x,rfl⟩:=B;obtain⟨p,z,hd,c,j,o,di,y,h1,h2,n,L,h5⟩:=(show Bx X.prog X.w H s.heap d (.frz od<|.dT ws) from I.hok d _ x);rw[p]at h1;cases h1;rw[t]at n;cases n;rw[<- hsz]at g;exact BP (I.ok.hd hc) g ⟨od,p,h2,t⟩ λu C=>⟨rfl,I.turnedL (t':=s.toks) (fp:=[it]) (λb o hb e=>C b o (λq=>hb<|by simp[q]) e) r⟩
 self:=λA i s Q E st h=>by obtain⟨_,_,g⟩:=st;exact Kj g h
def Cg(c:M)(a:lH):M:=λb=>if b=a then none else c b
def Be{c:M}{a b:lH}(h:b≠a):Cg c a b=c b:=M_ h
def TV:V->oA V->Hp->VK->Prop:=λx c H Q=>∃a b,x=.ref a/\c=[]/\H a=some (.dT b)/\∀v,H v=none->Q (.ref v) (upd H v<|.ext λh=>h.IsItemsView v a)
def iIt(K:lI)(td:TE):TI:=λσ H R=>MA K "dict" TV td σ H λv b=>∃a ws vv,v=.ref vv/\b vv=some (.ext λh=>h.IsItemsView vv a)/\b a=some (.dT ws)/\∀od,R (Iit a od ws)<|upd b a<|.frz od<|.dT ws
def BQ{N:oA lL}{B:Nat}{td:TE}(L:PE X o td)(C:attributeBase o "items" X.env (eval o X.env)=eval o X.env:=by rfl) (y:(ao.endLine==ak.line)=true:=by rfl) :
  PI X (.Tuple N B jc) (.Call (.Attribute o "items" ao) [] [] ak) (iIt X.K td):=by
 intro aa s σ H R I h;refine thn (N7 (T := "dict") (r:=TV) fX PySem.F.slot_dict_items PySem.F.type_dict_items Xk L C y aa s σ H _ I h) λv c J=>?_;obtain⟨x,n,j,D,a,ws,vv,rfl,hv,ha,q⟩:=J;cases D;obtain⟨g,_,_⟩:=(show Bx X.prog X.w n c.heap vv (.ext λh=>h.IsItemsView vv a) from j.hok vv _ hv);obtain⟨hz,t,P,m,od,es,ep,h1,h2,u,G,Q⟩:=(show Bx X.prog X.w n c.heap a (.dT ws) from j.hok a _ ha);refine Xi g ⟨od,h1,h2,u⟩ ?_;have p:es.size=ws.length:=by have e:=cV List.length G;rw[B_]at e;rw[bS m,<- e];simp
 have M:=j.kept (t':=c.toks) (h':=c.heap.push {cls:=.type "dict_itemiterator",data:=.fields #[.none,.bool false,.ref a,.int 0 0,.int es.size 0,.int ep 0,.none,.none]}) λb O e=>D_ _ e;have l:=j.hok.fresh<|J_ c.heap.objs.size;have f:=j.fpOk (J_ _) l;refine⟨c.heap.objs.size,[c.heap.objs.size],_,_,upd n a<|.frz od<|.dT ws,rfl,M.freezeT ha<|D_ _ h1,Te a _ od ws es ep u p,⟨.none,.none,K_ _ rfl⟩,λb hb=>?_,q od⟩;have e:b=c.heap.objs.size:=by simpa using hb
 subst e;exact⟨by rw[Au λz=>by rw[z]at l;rw[ha]at l;cases l];exact f.1,f.2⟩
def QR(g:AGs)(tb:AS)(k:ASt->M->Prop)(r:AV->M->Prop):oA (oA Key×AV)->ASt->M->Prop
 |[]=>k
 |p::e=>λj h=>g [.D<|.tuple<|p.1.map NT,p.2] j h λb c=>tb (QR g tb k r e) r k (QR g tb k r e) b c
def TW(td:AE)(g:AGs)(tb:AS):AS:=λk r _ _ e h=>td e h λx b=>match x with
 |.R a=>opt (b a) λm=>match m with
  |.dt c=>QR g tb k r c e (Cg b a)
  |_=>False
 |_=>False
def Iq{L:oA lL}{kt:Nat}{r:oA lP}{td:AE}{g:AGs}{tb:AS}(hp:PassesOwn (model X.prog X.w) X.A X.env X.xe)(dm:X.calm=true)(hd:VE X o td)(hg:VGs X L g)(hb:VSs X r tb)
  (hn:(assignEach L X.env).length=2:=by rfl) (bn:(assignEach L X.env).findIdx? (·.1)=none:=by rfl) (x8:∀x,foldedSetIterable (.Call (.Attribute o "items" ao) [] [] ak) X.env x=pure x:=by intro _;rfl)
  (az:attributeBase o "items" X.env (eval o X.env)=eval o X.env:=by rfl) (ax:(ao.endLine==ak.line)=true:=by rfl) :
  VS X (.For (.Tuple L kt jc) (.Call (.Attribute o "items" ao) [] [] ak) r [] pos) (TW td g tb) :=
 (Yo hp dm (BQ hd az ax) (Yl dm hg hn bn) hb x8).imp λD σ H J=>Hk J λτ μ nk nr nb nc hs hc h hq=>by
 refine⟨τ,μ,_,hs,hc,h,λx Z v F S1 c1 rx hx=>?_⟩;split at hx;rename_i a;obtain⟨m,em,hx⟩:=A5 hx;split at hx;rename_i l;obtain⟨ob,I,ws,rfl,rk⟩:=c1 _ _ em;cases (show v=.ref a from rx);refine⟨.inr<|.inr<|.inl ⟨rfl,.inr ⟨ws,I⟩⟩,a,ws,rfl,rfl,I,λvv O=>?_⟩;have xw:a≠vv:=λz=>by rw[z]at I;rw[I]at O;cases O
 have bp:upd F vv (.ext λh=>h.IsItemsView vv a) a=some (.dT ws):=by rw[Au xw];exact I
 refine⟨a,ws,vv,rfl,Bn,bp,λod=>?_⟩;have G:Kp F (upd (upd F vv<|.ext λh=>h.IsItemsView vv a) a<|.frz od<|.dT ws):=(Kp.new O _).trans<|Kp.put bp trivial _;have c2:Cn X.K (Cg Z a) (upd (upd F vv<|.ext λh=>h.IsItemsView vv a) a<|.frz od<|.dT ws):=λb m' e=>by
  have j5:b≠a:=λz=>by rw[z]at e;unfold Cg at e;rw[T_ rfl]at e;cases e
  rw[Be j5]at e;obtain⟨o',e',r'⟩:=c1 b m' e;exact⟨o',by rw[Au j5,Au<|Cc e' O];exact e',r'.kp G⟩
 have Q:upd (upd F vv<|.ext λh=>h.IsItemsView vv a) a (.frz od<|.dT ws) a=some (.frz od<|.dT ws):=Bn;have P:=rk.kp G;generalize upd (upd F vv<|.ext λh=>h.IsItemsView vv a) a (.frz od<|.dT ws)=H2 at G c2 Q P;have hl:=bS P;refine Zc ws.length (λi q u=>∃ c j,Kp H2 u/\D4 X.K u c q/\Cn X.K j u/\QR g tb nk nr (l.drop i) c j) ⟨τ,_,Kp.refl,hs.kp<|S1.trans G,c2,hx⟩ ?_ ?_ ?_;rintro i q u hi ⟨c,j,C,p,M,h1⟩;exact⟨C.f _ _ _ Q,hi⟩;rintro q u ⟨c,j,C,p,M,h1⟩;rw[<- hl,eB]at h1;exact⟨⟨C.f _ _ _ Q,rfl⟩,hq.nx _ _ _ _ (S1.trans<|G.trans C) p M h1⟩;rintro i v' q u H'' hi ⟨c,j,C,p,M,h1⟩ ⟨T,b,k,y,hT,rfl,hw,dh,rfl⟩;have cu:i<l.length:=by omega
 rw[bM cu]at h1;obtain⟨q',e1,r1,r2⟩:=Ea P<|F_ cu;rw[hw]at e1;cases e1;have N:Kp u (upd u T<|.tup [.ref b,y]):=Kp.new hT _;refine⟨T,[.ref b,y],rfl,Ja.of Bn,rfl,[.D<|.tuple<|l[i].1.map NT,l[i].2],c,j,_,.cons ?_<|.cons (r2.kp<|C.trans N) .nil,p.kp N,M.over hT,h1,λτ3 μ3 σ3 H3 S5 hs3 hc3 h3=>⟨τ3,μ3,_,_,_,_,hs3,hc3,h3,?_⟩⟩;have Y:l[i].1=k:=r1;rw[Y];exact K6 (N.t _ _ dh)<|S9 _;have S:Kp H2 H3:=C.trans<|N.trans S5;have S0:Kp H H3:=S1.trans<|G.trans S;exact⟨λB n σ' H4 W bz U h'=>⟨B,n,S.trans W,bz,U,h'⟩,hq.rt.kp S0,hq.nx.kp S0,λB n σ' H4 W bz U h'=>⟨B,n,S.trans W,bz,U,h'⟩⟩;exact hx.elim;exact hx.elim
def Ls{g:AGs}{tb:AS}{k:ASt->M->Prop}{r:AV->M->Prop}{kvs:oA<|oA Key×AV}{τ:ASt}{b:M}(I:Nat->ASt->M->Prop)(h0:I 0 τ b)
  (step:∀i p τ b (W:ASt->M->Prop),kvs[i]?=some p->I i τ b->(∀ j c,I (i+1) j c->W j c)->g [.D<|.tuple<|p.1.map NT,p.2] τ b λt m=>tb W r k W t m)
  (done:∀ τ b,I kvs.length τ b->k τ b):QR g tb k r kvs τ b:=by
 have q:∀n i τ b,n+i=kvs.length->I i τ b->QR g tb k r (kvs.drop i) τ b:=by
  intro n
  induction n with
  |zero=>
   intro i τ b x l;have e:i=kvs.length:=by omega
   subst e;rw[eB];exact done τ b l
  |succ n y=>
   intro i τ b x l;have u:i<kvs.length:=by omega
   rw[bM u];exact step i _ τ b _ (F_ u) l λj c h=>y (i+1) j c (by omega) h
 have:=q kvs.length 0 τ b (by omega) h0;rwa[iS]at this
def Tf(c:(d==sysModules)=false):MeetsIn prog w (Builtin.«dict.values» ⟨[.ref d],[]⟩) (λ_ R s=>(∃es ep,Ep s.heap d es ep)/\R (.ok<|.ret<|.ref s.heap.objs.size) {s with heap:=s.heap.push {cls:=.type "dict_values",data:=.fields #[.ref d]}}) :=
 .of_wp λA R s ⟨⟨_,_,b⟩,h⟩=>A_<|by
  unfold Builtin.Dict.noArgs;refine A_<|gQ b.ty<|show wpAny _ _ (pure d) _ _ s from C_<|show wpAny _ _ (Builtin.Dict.showsAll d>>=_) _ _ s from ?_;simp only[Builtin.Dict.showsAll,c,Bool.false_eq_true,ite_false];exact A_<|C_<|A_<|aC<|C_ ⟨_,rfl,h⟩
def JM:Builtin.Dict_items.ownsTuple "dict_valueiterator" = false:=by decide
def Tg{Q:lE->lF->Prop}(hv:s.heap.IsValuesView v d)(h:Ep s.heap d es ep)
  (q:Q (.ref s.heap.objs.size) {s with heap:=s.heap.push {cls:=.type "dict_valueiterator",data:=.fields #[.ref d,.int 0 0,.int es.size 0,.int ep 0]}}):qQ prog w A (pyIter<|.ref v) Q E s:=by
 obtain⟨ov,g,_,e⟩:=id hv;obtain⟨od,b,_,c⟩:=id h;refine eM hv.typeIs F.slot_dict_values_iter<|aO F.slot_dict_values_iter hv.typeIs F.entry_dict_values_iter (A_<|C_<|A_<|A_<|cB g e (x:=.ref d) rfl<|C_<|A_<|A_<|cW b c<|A_<|eU b c ?_)<|F.args_dict_values_iter_1 _
 simp only[JM,Bool.false_eq_true,if_false];exact aC<|C_ ⟨_,rfl,_,_,⟨_,K_ _ rfl,rfl⟩,F.slot_dict_valueiterator_next.lookup,by simpa [rawInt] using q⟩
def Np{Q:oB lE->lF->Prop}(y:A.handled=none)(c:s.heap.IsValIter it d i es.size ep)(x:Ep s.heap d es ep)
  (more:∀j:i<es.size,∀h,h.IsValIter it d (i+1) es.size ep->Heap.SameBut it s.heap h->Q (some es[i].val) {s with heap:=h})
  (over:es.size<=i->∀h,Heap.ExtBut it s.heap h->Q none {s with heap:=h}):qQ prog w A (pyNext<|.ref it) Q E s:=by
 obtain⟨B,n,u,l⟩:=id c;obtain⟨od,q,_,r⟩:=id x;unfold pyNext;refine A_<|dN<|aZ (name:=Str.ofString "__next__") c.typeIs F.slot_dict_valueiterator_next<|aO F.slot_dict_valueiterator_next c.typeIs F.entry_dict_valueiterator_next
  (A_<|C_<|A_<|A_<|A_<|gC c.typeIs<|C_<|A_<|dF n l ?_)  (F.args_dict_valueiterator_next_1 _)
 have t:(Value.ref d==Value.none)=false:=rfl;simp only[JM,List.drop_zero,List.take_succ_cons,List.take_zero,t,Bool.false_eq_true,if_false];refine A_<|C_<|A_<|cW q r ?_;rw[M_<|by simp];refine A_<|C_<|A_<|eU q r ?_;rw[M_<|by simp];refine C_ ?_;simp only[Int.not_lt.2<|Int.natCast_nonneg i,if_false,Int.toNat_natCast];by_cases j:i<es.size;rw[aP j];refine A_ (A_<|gC c.typeIs<|C_<|A_<|jC c.typeIs<|show wpAny _ _ (setField (.ref it) 1 (rawInt<|(i:Int)+1)>>=_) _ _ s from A_<|dE n l (by simp) ?_);generalize e:s.heap.update it _=g;have p:g.IsValIter it d (i+1) es.size ep:=by rw[<- e];exact⟨_,bD _ n<|dY<|bV l _,(gS ..).trans u,(bV l _).trans<|by simp[rawInt]⟩
 have ty:=Heap.IsValIter.typeIs (s:={s with heap:=g}) p;exact A_<|bT<|A_<|jC ty<|A_<|jC ty<|show wpAny _ _ (pure es[i].val) _ _ _ from C_<|C_ ⟨_,rfl,C_<|more j _ p<|e ▸ aN ..⟩;rw[cN<|kL.1 j];refine A_ (A_<|gC c.typeIs<|C_<|show wpAny _ _ (setField (.ref it) 0 .none>>=_) _ _ s from A_<|dE n l (by simp)<|show wpAny _ _ (newExc (.type "StopIteration") []>>=_) _ _ _ from A_ ?_);simp only[newExc,newTuple];refine A_ (aC (A_ (m:=firstArgMember _ _)<|dI (a:=Value.none) rfl<|aC ?_<|by size_fits)<|by size_fits);simp only[raiseNew];refine A_<|h_ ?_;simp only[show A.in1.handled=A.handled from rfl,y];refine A_ <|C_ <|jO ?_;exact A_ <|cZ (T := "StopIteration") (b:=true) ⟨_,K_ _ rfl,rfl⟩ iT (C_<|over (kL.1 j) _<|((aN ..).extBut.push _).push _)
def Vit(d:lH)(od:lO)(ws:oA<|oA Key×V):It :=
 ⟨λi H=> H d = some (.frz od<|.dT ws) /\ i<ws.length,
  λi H v b=> ∃ k, ws[i]? = some (k, v) /\ b = H,
  λi H=> H d = some (.frz od<|.dT ws) /\ ws.length = i⟩
def Qx{P:lJ}{w:lK}{K:lI}{tg:lL}(d it:lH)(od:lO)(ws:oA<|oA Key×V)(es:oC DictEntry)(ep:Nat)(p:od.data=.dict es ep)(hsz:es.size=ws.length) :
  Turn P w K tg (Vit d od ws) [it] it (λi h=>h.IsValIter it d i es.size ep) where
 mem:=by simp
 obj:=λi h st b hb=>by
  have e:b=it:=by simpa using hb
  subst e;obtain⟨o,j,_,D⟩:=st;exact⟨o,j,λv z=>by rw[D]at z;cases z⟩
 keep:=λi h t st k=>st.at λo e=>k it (by simp) o e
 item:=by
  intro X C m F hc i aa s σ H E I u st B;subst C m F;obtain⟨x,ba⟩:=B;obtain⟨j,z,D,r,g,o,Y,y,h1,h2,n,G,Z⟩:=(show Bx X.prog X.w H s.heap d (.frz od<|.dT ws) from I.hok d _ x);rw[j]at h1;cases h1;rw[p]at n;cases n;have N:i<es.size:=by omega
  have O:=bS g;have hx:r[i]?=some r[i]:=F_ (by omega);have m:ws[i]?=some ws[i]:=F_ ba;obtain⟨x',M,r1,r2,S⟩:=Ea g m;rw[hx]at M;cases M;have T:es[i]=entryOfKey (tupleKind<|Bp X.prog X.w) r[i]:=by have J:=cV (λl=>l[i]?) G;simp only[Array.getElem?_toList,Array.getElem?_eq_getElem N,List.getElem?_map,hx,Option.map_some]at J;exact aX J
  refine Np (I.ok.hd hc) st ⟨od,j,h2,p⟩ (λ_ t L bz=>?_) λz=>absurd N<|kL.2 z;obtain⟨f0,f1,f2,f3,f4,f5⟩:=u it (by simp);have U:Inv X aa σ H {s with heap:=t}:=I.turned (t':=s.toks) (λb o hb e=>(bz.2 b hb).trans e) f0 f1 f3 f4 f5;obtain⟨o,e,c,dd⟩:=id L;refine⟨_,rfl,Pl (s:={s with heap:=t}) e c dd (by decide) ⟨ws[i].2,H,U,?_,⟨ws[i].1,m,rfl⟩,L,λb hb=>(u b hb).1⟩⟩;rw[T];exact S
 done:=by intro X C m F hc i aa s σ H E I u st B;subst C m F;obtain⟨x,rfl⟩:=B;obtain⟨j,z,D,r,g,o,Y,y,h1,h2,n,G,Z⟩:=(show Bx X.prog X.w H s.heap d (.frz od<|.dT ws) from I.hok d _ x);rw[j]at h1;cases h1;rw[p]at n;cases n;rw[<- hsz]at st;exact Np (I.ok.hd hc) st ⟨od,j,h2,p⟩ (λz=>absurd z<|dD _) λ_ t W=>⟨rfl,I.turnedL (t':=s.toks) (fp:=[it]) (λb o hb e=>W b o (λq=>hb<|by simp[q]) e) u⟩
 self:=λA i s Q E st h=>wpAny_pyIter_valiter st h
def Inv.notFrz{a:lH}{ws:oA<|oA Key×V}(I:Inv X aa σ H s)(e:H a=some (.dT ws)):∀o u,X.H₀ a≠some (.frz o u):=λo u z=>by have:=I.base.frzs a o u z;rw[e]at this;cases this
def Inv.thawT{a:lH}{od:lO}{ws:oA<|oA Key×V}(I:Inv X aa σ H s)(e:H a=some (.frz od<|.dT ws))(D:∀o u,X.H₀ a≠some (.frz o u)):Inv X aa σ (upd H a<|.dT ws) s:=by
 have j:∀{b:lH},H b=none->b≠a:=λh z=>by rw[z,e]at h;cases h
 have l:∀{b:lH} {xs:oA V},H b=some (.tup xs)->b≠a:=λh z=>by rw[z,e]at h;cases h
 have t:∀{b y:lH},H b=some (.own y)->b≠a:=λh z=>by rw[z,e]at h;cases h
 refine⟨I.ok,I.os,I.bare,⟨I.base.keep,I.base.slot,λb o h1 h2 g=>?_,I.base.there,λb xs h=>?_,λb o u h=>?_,λb C h=>?_⟩,I.loc,I.cell,?_,λx c h=>?_,λp hp=>?_,λb u q=>?_,I.len⟩;have:=I.base.free b o h1 h2 g;rw[Au<|j this];exact this;have:=I.base.tups b xs h;rw[Au<|l this];exact this;have:=I.base.frzs b o u h;rw[Au<|by rintro rfl;exact D o u h];exact this;obtain⟨more,this⟩:=I.base.tbls b C h;exact⟨more,by rw[Au λz=>by rw[z,e]at this;cases this];exact this⟩;rw[Au<|j I.free];exact I.free;rw[Au<|j<|I.freeC x c h];exact I.freeC x c h;obtain⟨h1,h2,g⟩:=I.pin p hp;exact⟨h1,by rw[Au<|j h2];exact h2,g⟩;by_cases hb:b=a;subst hb;rw[Bn]at q;cases q;obtain⟨J,z,F,xs,m,o,es,ep,h1,h2,g,B,G⟩:=(show Bx X.prog X.w H s.heap b (.frz od<|.dT ws) from I.hok b _ e);exact⟨z,F,xs,KT.keeps (show KT H ws xs from m) λc L n=>by rw[Au<|l n];exact n,o,es,ep,h1,h2,g,B,G⟩;rw[Au hb]at q;exact(I.hok b u q).stay (λc v _ r=>r) (λc r=>by rw[Au<|t r];exact r) λc xs r=>by rw[Au<|l r];exact r
def Th:QN X "dict.values" (λx t H Q=>∃a g,x=.ref a/\t=[]/\H a=some (.dT g)/\∀v,H v=none->Q (.ref v) (upd H v<|.ext λh=>h.IsValuesView v a)):=by intro aa s σ H x u v y Q I l r h;obtain⟨a,g,rfl,rfl,ha,q⟩:=h;cases l;have n:=Vals.zero r;subst n;obtain⟨hz,c,B,m,o,es,ep,h1,h2,p,C,_⟩:=Po I.hok ha;have j:Ep s.heap a es ep:=⟨o,h1,h2,p⟩;refine iP PySem.F.slot_dict_values j.ty PySem.F.entry_dict_values (PySem.F.args_dict_values_1 _) (Tf c) ⟨⟨es,ep,j⟩,?_⟩;refine⟨.ref s.heap.objs.size,_,I.laid (t':=s.toks) (o:=.ext λh=>h.IsValuesView s.heap.objs.size a) (λb D q=>D_ _ q) (J_ _) ?_,rfl,q _<|I.hok.fresh<|J_ _⟩;exact⟨⟨_,K_ _ rfl,rfl,rfl⟩,⟨_,K_ _ rfl⟩,by rintro h1 h2 ⟨o,e,r⟩ k;exact ⟨o,k o e,r⟩⟩
def TX:V->oA V->Hp->VK->Prop:=λx c H Q=>∃a b,x=.ref a/\c=[]/\H a=some (.dT b)/\∀v,H v=none->Q (.ref v) (upd H v<|.ext λh=>h.IsValuesView v a)
def iVa(X:Cx)(td:TE):TI:=λσ H R=>MA X.K "dict" TX td σ H λv b=>∃a ws vv,v=.ref vv/\b vv=some (.ext λh=>h.IsValuesView vv a)/\b a=some (.dT ws)/\∀od,(∀o u,X.H₀ a≠some (.frz o u))->R (Vit a od ws) (upd b a<|.frz od<|.dT ws)
def Xl{td:TE}(J:PE X o td)(B:attributeBase o "values" X.env (eval o X.env)=eval o X.env:=by rfl) (y:(ao.endLine==ak.line)=true:=by rfl) :
  PI X tg (.Call (.Attribute o "values" ao) [] [] ak) (iVa X td):=by
 intro aa s σ H R I h;refine thn (N7 (T := "dict") (r:=TX) fX PySem.F.slot_dict_values PySem.F.type_dict_values Th J B y aa s σ H _ I h) λv c G=>?_;obtain⟨x,n,j,C,a,ws,vv,rfl,hv,ha,q⟩:=G;cases C;obtain⟨g,_,_⟩:=(show Bx X.prog X.w n c.heap vv (.ext λh=>h.IsValuesView vv a) from j.hok vv _ hv);obtain⟨hz,t,N,m,od,es,ep,h1,h2,u,D,O⟩:=(show Bx X.prog X.w n c.heap a (.dT ws) from j.hok a _ ha);refine Tg g ⟨od,h1,h2,u⟩ ?_;have p:es.size=ws.length:=by have e:=cV List.length D;rw[B_]at e;rw[bS m,<- e];simp
 have L:=j.kept (t':=c.toks) (h':=c.heap.push {cls:=.type "dict_valueiterator",data:=.fields #[.ref a,.int 0 0,.int es.size 0,.int ep 0]}) λb M e=>D_ _ e;have l:=j.hok.fresh<|J_ c.heap.objs.size;have f:=j.fpOk (J_ _) l;refine⟨c.heap.objs.size,[c.heap.objs.size],_,_,upd n a<|.frz od<|.dT ws,rfl,L.freezeT ha<|D_ _ h1,Qx a _ od ws es ep u p,⟨_,K_ _ rfl,rfl,rfl⟩,λb hb=>?_,q od<|j.notFrz ha⟩;have e:b=c.heap.objs.size:=by simpa using hb
 subst e;exact⟨by rw[Au λz=>by rw[z]at l;rw[ha]at l;cases l];exact f.1,f.2⟩
def Qbk(e:H a=some (.frz od<|.dT ws)){b:lH}{xs:oA V}(h:H b=some (.tup xs)):upd H a (.dT ws) b=some (.tup xs):=by rw[Au λz=>by rw[z,e]at h;cases h];exact h
def NY(e:H a=some (.frz od<|.dT ws)){b:lH}{o:lO}{u:HO}(hu:∀w,u≠.dT w)(h:H b=some (.frz o u)):upd H a (.dT ws) b=some (.frz o u):=by rw[Au λz=>by rw[z,e]at h;injection h with h;injection h with _ h;exact hu _ h.symm];exact h
def Yf.th(e:H a=some (.frz od<|.dT ws)){b:lH}{xs:oA V}(h:Yf K H b xs):Yf K (upd H a<|.dT ws) b xs:=by rcases h with⟨o,h⟩|h;exact .inl ⟨o,NY e (λ_ z=>nomatch z) h⟩;exact .inr h
def Wo.th(e:H a=some (.frz od<|.dT ws)){b:lH}{ds:oA lG}{xs:oA V}(h:Wo K H b ds xs):Wo K (upd H a<|.dT ws) b ds xs:=by rcases h with h|h;exact .inl<|Qbk e h;exact .inr h
mutual
theorem Dk.th(e:H a=some (.frz od<|.dT ws)):∀(d:lG) (x:V),Dk K H d x->Dk K (upd H a<|.dT ws) d x
 |.none,x,h=>by simp only[Dk]at h ⊢;exact h
 |.bool b,x,h=>by simp only[Dk]at h ⊢;exact h
 |.int i,x,h=>by simp only[Dk]at h ⊢;exact h
 |.str z,x,h=>by simp only[Dk]at h ⊢;exact h
 |.list j,x,h=>by simp only[Dk]at h ⊢;obtain⟨a,c,g,q,r⟩:=h;exact⟨a,c,g,q.th e,Ap.th e j c r⟩
 |.tuple j,x,h=>by simp only[Dk]at h ⊢;obtain⟨a,c,g,q,r⟩:=h;exact⟨a,c,g,q.th e,Ap.th e j c r⟩
 |.dict _,x,h=>by simp only[Dk]at h
theorem Ap.th(e:H a=some (.frz od<|.dT ws)):∀(ds:oA lG) (xs:oA V),Ap K H ds xs->Ap K (upd H a<|.dT ws) ds xs
 |[],xs,h=>by simp only[Ap]at h ⊢;exact h
 |d::ds,xs,h=>by simp only[Ap]at h ⊢;obtain⟨x,r,b,h1,h2⟩:=h;exact⟨x,r,b,Dk.th e d x h1,Ap.th e ds r h2⟩
end
theorem XFs.th(e:H a=some (.frz od<|.dT ws)){d:oB lH}{c:oA<|Str×lG}(h:XFs K H d c):XFs K (upd H a<|.dT ws) d c:=by
 cases d with
 |none=>exact h
 |some d=>obtain⟨od,b,q,r⟩:=h;exact⟨od,b,NY e (λ_ z=>nomatch z) q,Paired.mapP r λp q r=>⟨r.1,Dk.th e _ _ r.2⟩⟩
theorem RelA.th(e:H a=some (.frz od<|.dT ws)):∀{x:AV} {v:V},RelA K H x v->RelA K (upd H a<|.dT ws) x v
 |.D d,v,h=>Dk.th e d v h
 |.R a,_,h=>h
 |.C j,v,⟨b,g,c,q,r⟩=>⟨b,g,c,q,Ap.th e j g r⟩
 |.X C l,v,⟨b,o,d,c,q,r⟩=>⟨b,o,d,c,NY e (λ_ z=>nomatch z) q,r.th e⟩
theorem Kh.th(e:H a=some (.frz od<|.dT ws)){m:MO}{o:HO}(h:Kh K H m o):Kh K (upd H a<|.dT ws) m o:=by
 cases m with
 |lst j=>obtain⟨g,b,r⟩:=h;exact⟨g,b,Paired.mapP r λ_ _ q=>q.th e⟩
 |dk j=>obtain⟨g,b,r⟩:=h;exact⟨g,b,Paired.mapP r λ_ _ q=>⟨q.1,q.2.th e⟩⟩
 |dt j=>obtain⟨g,b,r⟩:=h;exact⟨g,b,Paired.mapP r λ_ _ q=>⟨q.1,q.2.th e⟩⟩
 |dd j=>obtain⟨g,b,r⟩:=h;exact⟨g,b,Paired.mapP r<|by rintro _ _ ⟨x,y,c,v,r,q⟩;exact ⟨x,y,Dk.th e _ _ c,v,r.th e,q⟩⟩
def TY(X:Cx)(t:TE):TE:=λσ H Q=>t σ H λv b=>∃a od ws,b a=some (.frz od<|.dT ws)/\(∀o u,X.H₀ a≠some (.frz o u))/\Q v (upd b a<|.dT ws)
def HD{e:lL}{t:TE}(h:PE X e t):PE X e (TY X t):=by intro aa s σ H Q I hq;refine thn (h aa s σ H _ I hq) λv m j=>?_;obtain⟨x,g,l,c,a,od,ws,e,b,q⟩:=j;exact⟨x,upd g a<|.dT ws,l.thawT e b,c,q⟩
def NZ(mp:oA<|oB Nat)(td:AE)(g:AG)(tst:AT)(te:AE):AE:=λh j R=>td h j λx b=>match x with
 |.R a=>opt (b a) λm=>match m with
  |.dt c=>∀p,b p=none->cl p g tst te (λ_=>True) (λe=>R (.R p)<|An e a<|.dt c) (c.map (·.2)) [] (MR mp h) (An (Cg b a) p<|.lst [])
  |_=>False
 |_=>False
def Qz{td:AE}{g:AG}{tst:AT}{te:AE}(hc:X.calm=true)(hd:VE X o td)(hg:∀C s H r,VG (Bl X N' scope C s H r) tg g)(ht:∀C s H r,VIfs (Bl X N' scope C s H r) b9 tst)(he:∀C s H r,VE (Bl X N' scope C s H r) c7 te)
  (ok:CompOkC X.N X.env.scope.names scope.names N' mp) (hk:scope.kind=.function:=by rfl) (hs:∀x,foldedSetIterable (.Call (.Attribute o "values" ao) [] [] ak) X.env x=pure x:=by intro _;rfl)
  (az:attributeBase o "values" X.env (eval o X.env)=eval o X.env:=by rfl) (ax:(ao.endLine==ak.line)=true:=by rfl) :
  VE X (.ListComp c7 [⟨tg,.Call (.Attribute o "values" ao) [] [] ak,b9,0⟩] scope pos) (NZ mp td g tst te) :=
 (HD<|Qw (g:=cG X.K g) (tst:=cT X.K tst) (te:=cE X.K te) hc (Xl hd az ax) (λC s H r=>hg C s H r) (λC s H r=>ht C s H r) (λC s H r=>he C s H r) ok hk hs).imp λσ H Q zz=>Ci zz λτ μ R bn hcn h hq=>by
 refine⟨τ,μ,_,bn,hcn,h,λx Y v B S1 c1 rx hx=>?_⟩;split at hx;rename_i a;obtain⟨m,em,hx⟩:=A5 hx;split at hx;rename_i l;obtain⟨ob,T,ws,rfl,rk⟩:=c1 _ _ em;cases (show v=.ref a from rx);refine⟨.inr<|.inr<|.inl ⟨rfl,.inr ⟨ws,T⟩⟩,a,ws,rfl,rfl,T,λvv kg=>?_⟩;have xw:a≠vv:=λz=>by rw[z]at T;rw[T]at kg;cases kg
 have bp:upd B vv (.ext λh=>h.IsValuesView vv a) a=some (.dT ws):=by rw[Au xw];exact T
 refine⟨a,ws,vv,rfl,Bn,bp,λod hnf=>?_⟩;have M:Kp B (upd (upd B vv<|.ext λh=>h.IsValuesView vv a) a<|.frz od<|.dT ws):=(Kp.new kg _).trans<|Kp.put bp trivial _;have c2:Cn X.K (Cg Y a) (upd (upd B vv<|.ext λh=>h.IsValuesView vv a) a<|.frz od<|.dT ws):=λb m' e=>by
  have P:b≠a:=λz=>by rw[z]at e;unfold Cg at e;rw[T_ rfl]at e;cases e
  rw[Be P]at e;obtain⟨o',e',r'⟩:=c1 b m' e;exact⟨o',by rw[Au P,Au<|Cc e' kg];exact e',r'.kp M⟩
 have gg:upd (upd B vv<|.ext λh=>h.IsValuesView vv a) a (.frz od<|.dT ws) a=some (.frz od<|.dT ws):=Bn;have mw:=rk.kp M;have hH1:∀b,upd (upd B vv<|.ext λh=>h.IsValuesView vv a) a (.frz od<|.dT ws) b=none->B b=none:=λb e=>by by_cases h1:b=a;rw[h1,Bn]at e;cases e;rw[Au h1]at e;by_cases h2:b=vv;rw[h2,Bn]at e;cases e;rw[Au h2]at e;exact e
 generalize upd (upd B vv<|.ext λh=>h.IsValuesView vv a) a (.frz od<|.dT ws)=H2 at M c2 gg mw hH1;have hl:=bS mw;intro p hp;have hx:=hx p<|c1.none<|hH1 p hp;have xj:Cn X.K (An (Cg Y a) p<|.lst []) (upd H2 p<|.lst []):=c2.new hp<|Df .nil;have Z:Kp H2 (upd H2 p<|.lst []):=Kp.new hp _;have j1:(l.map (·.2)).length=ws.length:=by rw[B_];exact hl
 refine Ud ws.length (λi F D y=>∃ c j O,Kp H2 y/\D4 X.K y c D/\Cn X.K j y/\A4 X.K y O F/\cl p g tst te (λ_=>True) (λμ2=>R (.R p)<|An μ2 a<|.dt l) ((l.map λq:oA Key×AV=>q.2).drop i) O c j) ⟨_,_,[],Z,(((bn.kp S1).kp M).kp Z).sub mp,xj,.nil,hx⟩ ?_ ?_ ?_;rintro i F D y hi ⟨c,j,O,J,L,bt,ra,h1⟩;exact⟨J.f _ _ _ gg,hi⟩;rintro F D y ⟨c,j,O,J,L,bt,ra,h1⟩;rw[<- j1,eB]at h1;have kf:=J.f _ _ _ gg;refine⟨⟨kf,rfl⟩,a,od,ws,kf,hnf,?_⟩;have K1:∀b U,y b=some (.tup U)->upd y a (.dT ws) b=some (.tup U):=λb U e=>by rw[Au λz=>by rw[z,kf]at e;cases e];exact e
 have K2:Kp B (upd y a<|.dT ws):=⟨λb U e=>K1 b U<|J.t _ _<|M.t _ _ e,λb o' u e=>by
  rw[Au λz=>by rw[z,T]at e;cases e];exact J.f _ _ _<|M.f _ _ _ e⟩
 refine hq _ _ _ _ (S1.trans K2) (λb m' e=>?_) Fi h1.2;by_cases P:b=a;subst P;rw[Ac]at e;cases e;exact⟨_,Bn,ws,rfl,rk.kp K2⟩;rw[Ag P]at e;obtain⟨o',e',r'⟩:=bt b m' e;exact⟨o',by rw[Au P];exact e',r'.th kf⟩;rintro i v' F D y H'' hi ⟨c,j,O,J,L,bt,ra,h1⟩ ⟨k,hw,rfl⟩;have cu:i<(l.map (·.2)).length:=by omega
 rw[bM cu]at h1;obtain⟨_,h1⟩:=h1;have hi3:i<l.length:=by rw[B_]at cu;exact cu
 obtain⟨q',e1,r1,r2⟩:=Ea mw<|F_ hi3;rw[hw]at e1;cases e1;rw[List.getElem_map]at h1;refine⟨_,c,j,_,r2.kp J,L,bt,h1,λI μ3 σ3 H3 S4 G hc3 h3=>⟨I,μ3,_,G,hc3,h3,λk W H4 S5 c4 h4=>?_⟩⟩;rcases br_e h4 with⟨rfl,k9⟩|⟨rfl,k9⟩;rw[T_ rfl];refine⟨I,W,_,G.kp S5,c4,k9,λw μ5 u H5 S6 c5 rw h5=>?_⟩;obtain⟨e5,se,h5⟩:=h5;obtain⟨o5,n,vs,rfl,rs⟩:=c5 _ _ e5;have S:Kp H'' H5:=S4.trans<|S5.trans S6;exact⟨vs,n,by rw[<- rs.length];exact se,I,_,_,(J.trans S).trans<|Kp.put n trivial _,(G.kp<|S5.trans S6).kp<|Kp.put n trivial _,c5.put n trivial (Df<|rs.append<|.cons rw .nil),(rs.append<|.cons rw .nil).kp<|Kp.put n trivial _,h5⟩;rw[M_ Q_];have S:Kp H'' H4:=S4.trans S5;exact⟨I,W,O,J.trans S,G.kp S5,c4,ra.kp S,k9⟩;exact hx.elim;exact hx.elim
end
section
variable {prog:lJ}{w:lK}{A:lM}{R:lV->lF->Prop}{I S:lH}{fp wr:oA lH}{n:Nat}{P:Nat->lE->Prop}{St:Nat->lN->Prop}{h0:lN}{φ:Prop}{f:lE->Int}{X:Cx}{k:Nat}
def Ir(h0 h:lN):Prop:=∀b o,h0.get? b=some o->h.get? b=some o
def BR(W:Walks prog w A.in1 I fp wr n P St)(V:S∉fp)(M:h0.objs.size<=S)(hw:∀b∈wr,h0.objs.size<=b)(hc:∀i j u v (s:lF),P i u->P j v->Ir h0 s.heap->∃r,Z5 A.in1 s u v r/\(φ->r=decide (f u<f v)))(Y:∀i u v,P i u->P i v->u=v) :
  ∀(k j:Nat) (s:lF) (d:oB lE) (c:Nat),j+k=n->(d=none->0<k/\j=0)->(∀v,d=some v->(∃i,P i v)/\(φ->∀i<j,∀u,P i u->f v<=f u))->St j s.heap->Ir h0 s.heap ->
  s.heap.get? S=some {cls:=.type "list",data:=.seq (d.elim #[] λv=>#[v,v]) c} ->
  (∀i v m B,P i v->(φ->∀i<n,∀u,P i u->f v<=f u)->Ir h0 m->R (.ok<|.ret v) {s with heap:=m,toks:=B}) ->
  codeAny (model prog w) A (.builtin "min.loop" ⟨[.ref I,.none,.ref S],[]⟩) R s:=by
 have T:∀{b o},h0.get? b=some o->b∉wr:=λe z=>absurd (S_ e)<|kL.2<|hw _ z;have nS:∀{b o},h0.get? b=some o->S≠b:=λe z=>absurd (S_ e)<|kL.2<|z ▸ M;have U:S∉wr:=λz=>V<|W.sub _ z;have O:∀{h:lN} (f:lO->lO),Ir h0 h->Ir h0 (h.update S f):=λf q b o e=>(dP _ _<|nS e).trans<|q b o e;have L:(toString "min" ++ toString ".loop" : String) = "min.loop" := by decide
 have hz:∀d:oB lE,(d.elim #[] λv=>#[v,v]).size<=sizeLine:=λd=>by cases d<;>exact(by decide:2<=sizeLine) |> R_ (by first|exact aG _|exact J_ _)
 intro k
 induction k with
 |zero=>
  intro j s d c hj h1 h2 st g C q;obtain⟨l,rfl⟩:∃l,d=some l:=by
   cases d with
   |none=>exact absurd (h1 rfl).1 (dD _)
   |some v=>exact⟨v,rfl⟩
  obtain⟨⟨i,p⟩,H⟩:=h2 _ rfl;rw[show j=n from hj]at H;refine eT F.entry_min_loop ?_;rw[dJ F.plain_min_loop _];refine(show wpAny _ A.in1 (seqItems? (.ref S)>>=_) _ _ s from A_<|eI C rfl<|show wpAny _ A.in1 (tryCatch (pyNext<|.ref I) _>>=_) _ _ s from A_<|wpAny_tryCatch<|W.done s _ _ (by rw[<- hj];exact st) λm B G=>?_);exact(show wpAny _ A.in1 (updateSeq S (λ_=>#[])>>=_) _ _ _ from A_<|iD (G S _ U C) rfl (hz:=hz _)<|A_<|jR<|C_<|q i l _ B p H<|O _ λb o e=>G b o (T e)<|g b o e)
 |succ k N=>
  intro j s d c hj h1 h2 st g C q;refine eT F.entry_min_loop ?_;rw[dJ F.plain_min_loop _];refine(show wpAny _ A.in1 (seqItems? (.ref S)>>=_) _ _ s from A_<|eI C rfl<|show wpAny _ A.in1 (tryCatch (pyNext<|.ref I) _>>=_) _ _ s from A_<|wpAny_tryCatch<|W.item j s _ _ (by omega) st λv m B t aj G=>?_);have E:=G S _ U C;have J:Ir h0 m:=λb o e=>G b o (T e)<|g b o e;have D:∀f,St (j+1) (m.update S f):=λf=>W.frame _ _ _ aj λb hb o e=>(dP _ _ λz:S=b=>V<|z ▸ hb).trans e;cases d with
  |none=>
   refine(show wpAny _ A.in1 (updateSeq S (λ_=>#[v,v])>>=_) _ _ _ from A_<|iD E rfl (hz:=hz _) ?_);rw[L];have h5:∀u,some v=some u->(∃i,P i u)/\(φ->∀i<j+1,∀x,P i x->f u<=f x):=λu e=>by
    cases e;refine⟨⟨j,t⟩,λ_ i p u hu=>?_⟩;obtain rfl:i=j:=by have:=(h1 rfl).2;omega
    rw[Y _ u _ hu t];exact jQ _
   exact C_ ⟨eZ F.plain_min_loop _,N (j+1) _ (some v) _ (by omega) (λz=>nomatch z) h5 (D _) (O _ J) (bD _ E rfl) q⟩
  |some l=>
   obtain⟨⟨i,p⟩,H⟩:=h2 l rfl;have Q:∀x y,P j y->(φ->f x<=f l)->(φ->f x<=f y)->φ->∀i<j+1,∀u,P i u->f x<=f u:=λx y hy a1 a2 a i p u hu=>by rcases Nat.lt_succ_iff_lt_or_eq.mp p with z|rfl;exact Int.le_trans (a1 a)<|H a i z u hu;rw[Y _ u _ hu hy];exact a2 a
   obtain⟨r,hr,Z⟩:=hc j i v l {s with heap:=m,toks:=B} t p J;refine(show wpAny _ A.in1 (tryCatch (holding [v,v]<|richCompare .Lt v l>>=_) _>>=_) _ _ _ from A_<|wpAny_tryCatch<|bT<|A_<|hr prog w _ _ ?_);refine A_<|bT<|fJ<|A_<|jR<|C_ ?_;cases r with
   |true=>simp only[if_true];refine A_<|iD E rfl (hz:=hz _)<|A_<|jR ?_;rw[L];exact C_ ⟨eZ F.plain_min_loop _,N (j+1) _ (some v) _ (by omega) (λz=>nomatch z) (λu e=>by cases e;exact⟨⟨j,t⟩,Q _ _ t (λa=>Int.le_of_lt<|aF (Z a).symm) λ_=>jQ _⟩) (D _) (O _ J) (bD _ E rfl) q⟩
   |false=>simp only[Bool.false_eq_true,if_false];refine A_<|jR ?_;rw[L];exact C_ ⟨eZ F.plain_min_loop _,N (j+1) _ (some l) _ (by omega) (λz=>nomatch z) (λu e=>by cases e;exact⟨⟨i,p⟩,Q _ _ t (λ_=>jQ _) λa=>Int.not_lt.mp<|iF (Z a).symm⟩) aj J E q⟩
def BS{E:lE->lF->Prop}{s:lF}{p:lH}{c:oA lE}{Q:lE->lF->Prop}(B:A.handled=none)(t:s.heap.IsList p c.toArray)(H:0<c.length)(hc:∀u∈c,∀v∈c,∀l:lF,Ir s.heap l.heap->∃r,Z5 A.in1 l u v r/\(φ->r=decide (f u<f v)))
  (q:∀v∈c,(φ->∀u∈c,f v<=f u)->∀h m,Ir s.heap h->Q v {s with heap:=h,toks:=m}):qQ prog w A (call (.builtin "min") [.ref p]) Q E s:=by
 have hp:p<s.heap.objs.size:=by obtain⟨_,C,_⟩:=t;exact S_ C
 have L:p≠s.heap.objs.size:=aB hp;refine call_function_tree F.kind_min F.plain_min F.entry_min (F.args_min1 _)<|show wpAny _ A.in1 (Builtin.Builtins.bindParams "min" ["key","default"] 0 ⟨[],[]⟩>>=_) _ _ s from A_<|dI (show _=pure [none,none] from rfl)<|A_<|C_<|A_<|gR t<|A_<|aC ?_;rw[show(toString "min" ++ toString ".loop" : String) = "min.loop" by decide];have d:∀{i:Nat} {v},c.toArray[i]?=some v->v∈c:=λ{i v} e=>N_ (i:=i) (by simpa using e);have x:Ir s.heap (s.heap.push {cls:=.type "list_iterator",data:=.fields #[.ref p,.int 0 0]}):=λb o e=>D_ _ e;refine C_ ⟨eZ F.plain_min_loop _,BR (h0:=s.heap) (Walks.list (show A.in1.handled=none from B) s.heap.objs.size p L c.toArray) ?_ ?_ ?_ (λi j u v l M hj g=>hc u (d M) v (d hj) l g) (λi u v D y=>by rw[D]at y;exact aX y) c.toArray.size 0 _ none 0 (eY _) (λ_=>⟨by simpa using H,rfl⟩) (λv e=>nomatch e) ?_ ?_ (K_ _ rfl) λi v h m G J g=>q v (d G) (λa u hu=>by obtain⟨k,hk,e⟩:=eX hu;exact J a k (by simpa using hk) u<|by rw[<- e];simp[hk]) h m g⟩;intro z;rw[cY]at z;rcases Y_.mp z with z|z;exact absurd z<|jI _;exact absurd (H_.mp z)<|gX<|dB hp;rw[cY];exact dW _;exact λb hb=>by rw[H_.mp hb];exact J_ _
 exact⟨⟨_,D_ _<|K_ _ rfl,rfl,rfl⟩,t.at λo e=>D_ _<|x _ _ e⟩
 exact λb o e=>D_ _<|x b o e
def JN:AC:=λg c R=>match g with
 |[.R a]=>opt (c a) λm=>match m with
  |.lst h=>opt (dats h) λb=>(0<b.length/\∀d∈b,Bz d/\∀e∈b,cmpb d e=true)/\∀d∈b,((∀e∈b,∃j,e=.int j)->∀i j,d=.int i->.int j∈b->i<=j)->R (.D d) c
  |_=>False
 |_=>False
def Ti(hr:Room k X.A)(dm:X.calm=true):VCall X (.builtin "min") JN:=by
 intro aa s σ H xs us Q I r zq;refine Ci zq λp μ R ra hc h hq=>?_;unfold JN at h;split at h
 ·cases ra with
  |cons r1 r2=>
   cases r2;obtain⟨m,em,h⟩:=A5 h;split at h;obtain⟨z,ed,⟨hn,c⟩,h⟩:=A5 h;obtain⟨o,ho,ws,rfl,rs⟩:=hc _ _ em;cases (show _=V.ref _ from r1);obtain⟨u,rfl,E⟩:=F8 r;cases E;obtain⟨B,J,Z,hz⟩:=I.list<|Fu.of (K:=X.K) ho;have dk:=rs.dats ed;obtain⟨O,rd⟩:=Ap.reads I z ws B dk J;have M:=Up rd;have hu:=hr.un;refine BS (φ:=∀e∈z,∃j,e=.int j) (f:=NM) (I.ok.hd dm) Z.isList (by rw[M];exact hn) (λu F v hv Y g=>?_) λv hv hm h' tk g=>?_;have one:∀{x},x∈B->∃d∈z,∃p,Reads Y.heap x d p:=λ{x} hx=>by
    obtain⟨i,C,rfl⟩:=eX hx;have b:i<z.length:=by rw[<- M];exact C
    obtain⟨p,q⟩:=TK (Jm g rd) b;rw[show B.getD i .none=B[i] by rw[cJ,F_ C];rfl]at q;exact⟨_,Z6 b,p,q⟩
   obtain⟨d,b,p,N⟩:=one F;obtain⟨e,he,O,T⟩:=one hv;have h1:=(c d b).1;have h2:=(c e he).1;have:=h1.2;exact⟨_,Lf d e X.A.in1 Y u v p O N T h1.1 h2.1 ((c d b).2 e he)<|by show X.A.units+1+_<_;omega,λa=>by
    obtain⟨i,rfl⟩:=a d b;obtain⟨j,rfl⟩:=a e he;cases N;cases T;show EO (.int i) (.int j)=decide (i<j);simp only[EO]⟩
   obtain⟨i,C,rfl⟩:=eX hv;have b:i<z.length:=by rw[<- M];exact C
   obtain⟨x,hx,L⟩:=dk.get<|F_ b;obtain⟨u,F,E⟩:=J.get hx;rw[F_ C]at F;cases F;refine⟨x,H,I.kept (t':=tk) g,E,hq (.D z[i]) _ _ _ Kp.refl hc L<|h _ (e_ b) λa i' j ei G=>?_⟩;obtain⟨l,hl,G⟩:=eX G;obtain⟨y,hy,W⟩:=dk.get<|F_ hl;obtain⟨v,hv',ry⟩:=J.get hy;rw[ei]at L;rw[G]at W;cases Dk.int L;cases Dk.int W;have U:=hm a v<|N_ hv';obtain⟨t,e⟩:=(show ∃t,B[i]=Value.int i' t from E);obtain⟨t',rfl⟩:=(show ∃t,v=Value.int j t from ry);rw[e]at U;exact U;exact h.elim
 exact h.elim
end
structure FunD(K:lI)(x qual:Str)(st:lP)(f:lH)(fd:lQ)(T:lH):Prop where
 ex:∃(oc:lE) (od:oB lH) (kV bj pm:lE) (an:oB lH) (am ct:lE) (f8:oC<|oB lE),
  fd=PySem.W.fnOf x qual (Dz st) (Cr st) (Ai st) (.ref T) kV bj pm an am ct/\K.lookup f=some ⟨oc,od,.func fd,f8⟩/\PySem.W.codeIn K am qual=true
section
variable {P:lJ}{w:lK}{K:lI}{mg:Str->oB lE}{base:lN}{x qual:Str}{st:lP}{f T:lH}{fd:lQ}{N ps:oA Str}{k:Nat}{sp:ASp}{prog:lJ}{A:lM}{E:lE->lF->Prop}{s:lF}
def FunD.vok(F:FunD K x qual st f fd T)(S:FnScope N ps<|Ai st)
  (y:∀(e:lE) (A:lM) (outer:oA Env) (s:lF) (H:Hp) (E:XK),Room k (A.deeper<|envOfC qual (Ai st) s.heap.objs.size f e) ->
   ∃t,VSs (N1 Dm P w K mg base N qual (Ai st) f e A outer s H E).nox (Cr st) t/\∀b d R,b.length=ps.length->sp b d R->t (aNx R) (aRt R) QQ QQ (Gc N b) d):FnOk P w K mg base Dm (k+1) f fd ps (D5 K ps.length sp):=by
 obtain⟨M,L,kV,I,G,U,e,J,V,rfl,m,p⟩:=F.ex;refine IX m p S (λC H Q E h=>?_) λA outer s H C Q E hr h=>?_;obtain⟨b,d,R,j,g,_⟩:=h;rw[<- g.length];exact j;obtain⟨b,d,R,j,g,hc,o,hq⟩:=h;obtain⟨t,ht,h⟩:=y e A outer s H E hr;refine⟨_,ht.nox,Gc N b,d,_,_,_,_,D4.begin g,hc,h b d R j o,⟨λO i D B l _ c z=>V2 z λn a r=>hq _ _ _ _ l (c.sub a) K7 r,λv i u B l c q z=>V2 z λn a r=>hq _ _ _ _ l (c.sub a) q r,λ_ _ _ _ _ _ _ h=>h.elim,λ_ _ _ _ _ _ _ h=>h.elim⟩⟩
def HE{d:lH}{o:lO}{es:oC DictEntry}{ep:Nat}{n:Nat}{Q:lE->lF->Prop}(i:(d==sysModules)=false)(b:s.heap.get? d=some o)(hc:o.ExactDict)(j:o.data=.dict es ep)(g:es.size=n)(l:(n:Int)<2^63)(h:∀t c,Q (.int n t) {s with toks:=c}):qQ prog w A (call (.builtin "len") [.ref d]) Q E s:=by
 have ty:s.TypeIs (.ref d) "dict" := ⟨o,b,hc.1⟩;have mt:MeetsIn prog w (Builtin.«dict.__len__» ⟨[.ref d],[]⟩) (λ_ R a=>a.heap=s.heap/\R (.ok<|.ret<|.int n a.toks) {a with toks:=a.toks+1}):=.of_wp λA R a ⟨e,h⟩=>by show wpAny _ _ (dictSize d>>=_) _ _ a;unfold dictSize;exact A_<|A_<|cW (by rw[e];exact b) j<|C_<|show wpAny _ _ (Builtin.Dict.pendingCount d>>=_) _ _ a from A_<|wpAny_pendingCount_other i<|wpAny_ret_mkInt<|by rw[Nat.add_zero,g];exact h
 refine Calls.call_function_entry kind_len plain_len entry_len (args_len1 _) ?_;unfold Builtin.«len»;refine A_ (m:=oneArg "len" _)<|C_<|A_ (m:=callSpecial? (.ref d)<|Str.ofString "__len__")<|aZ (name:=Str.ofString "__len__") ty F.slot_dict_len<|iP F.slot_dict_len ty F.entry_dict_len (F.args_dict_len_1 _) mt ⟨rfl,?_⟩;show wpAny _ _ _ _ _ {s with toks:=s.toks+1};refine A_<|bT<|C_<|A_<|jR<|show wpAny _ _ (if((n:Nat):Int)<0 then _ else _) _ _ _ from ?_;rw[M_<|by omega];refine(show wpAny _ _ (if((n:Nat):Int)>=2^63 then _ else _) _ _ _ from ?_);rw[M_<|by omega];exact A_<|wpAny_mkInt<|C_ ⟨_,rfl,h _ _⟩
end
def TZ:AC:=λd c R=>match d with
 |[.R a]=>opt (c a) λm=>match m with
  |.dt b=>R (.D<|.int b.length) c
  |_=>False
 |_=>False
def OA{X:Cx}:VCall X (.builtin "len") TZ:=by
 intro J s G H p N Q I r b;refine Ci b λP L R C hc h hq=>?_;cases C with
 |nil=>exact False.elim h
 |@cons x v O D d q=>
  cases x with
  |R a=>
   cases q with
   |cons _ _=>exact False.elim h
   |nil=>
    obtain⟨m,f,h⟩:=A5 h;cases (show _=V.ref _ from d);obtain⟨o,l,j⟩:=hc _ _ f;cases m with
    |dt e=>
     obtain⟨c,rfl,k⟩:=j;obtain⟨u,rfl,B⟩:=F8 r;cases B;obtain⟨z,y,p,r,M,n,F,h1,h2,i,g,S⟩:=(show Bx X.prog X.w H s.heap a (.dT c) from I.hok a _ l);have A:n.size=c.length:=by rw[<- aT,g,B_,<- bS r]
     refine HE y h1 h2 i A (by rw[sizeLine_eq]at z;omega) λt E=>⟨.int c.length,H,I.tok _,⟨t,rfl⟩,hq _ _ _ _ Kp.refl hc ?_ h⟩;rw[bS k];exact Dn
    |_=>exact False.elim h
  |_=>exact False.elim h
section
variable(l:lH)(ae:oC lE)(n:Nat)(dd:oB lH)(sl:oC<|oB lE)(t:Tok)
end
end L2
namespace L2
open PySem PySem.W PyProof.Rows
noncomputable def cn(x:lR)(l:oA lR):Nat:=@List.count _ (@instBEqOfDecidableEq _ λa b=>Classical.propDecidable<|a=b) x l
def Tj{l m:oA lR}:l.Perm m↔∀x,cn x l=cn x m:=@List.perm_iff_count _ (@instBEqOfDecidableEq _ λa b=>Classical.propDecidable<|a=b) _ l m
def Er(x:lR)(l m:oA lR):cn x (l++m)=cn x l+cn x m:=@List.count_append _ (_) x l m
def BT(x:lR)(l:oA lR):cn x l.reverse=cn x l:=Tj.mp (List.reverse_perm l) x
noncomputable def cx(x:lR)(a:oC lR)(i j:Nat):Nat:=cn x (a.extract i j).toList
def Gp(x:lR)(a:oC lR){i j k:Nat}(h1:i<=j)(h2:j<=k):cx x a i k=cx x a i j+cx x a j k:=by unfold cx;rw[<- Er,<- dU,Array.extract_append_extract,Nat.min_eq_left h1,Nat.max_eq_right h2]
def Lu(x:lR)(a:oC lR):cx x a 0 a.size=cn x a.toList:=by unfold cx;rw[Array.extract_size]
def UA{a:oC lR}{i:Nat}(h:i<a.size):a.extract i (i+1)=#[a[i]]:=by
 apply Array.ext;simp;omega;intro j h1 h2;have:j=0:=by simpa using h2
 subst this;simp
def ML(a b o:oC lR)(i i' j c:Nat):Prop:=∀x,cn x o.toList+cx x a i i'+cx x b j c=cn x a.toList+cn x b.toList
def Mg(a b R:oC lR):Prop:=∀x,cn x R.toList=cn x a.toList+cn x b.toList
section
variable {a b o:oC lR}{i i' j j' m:Nat}
def ML.sw(h:ML a b o i i' j j'):ML b a o j j' i i':=λx=>by have:=h x;omega
def ML.loA(h:ML a b o i i' j j')(h1:i<=m)(h2:m<=i'):ML a b (o++a.extract i m) m i' j j':=λx=>by have:=h x;have:=Gp x a h1 h2;rw[dU,Er];unfold cx at *;omega
def ML.hiA(h:ML a b o i i' j j')(h1:i<=m)(h2:m<=i'):ML a b (o++(a.extract m i').reverse) i m j j':=λx=>by have:=h x;have:=Gp x a h1 h2;rw[dU,Er,Array.toList_reverse,BT];unfold cx at *;omega
def ML.loB(h:ML a b o i i' j j')(h1:j<=m)(h2:m<=j'):ML a b (o++b.extract j m) i i' m j':=(h.sw.loA h1 h2).sw
def ML.hiB(h:ML a b o i i' j j')(h1:j<=m)(h2:m<=j'):ML a b (o++(b.extract m j').reverse) i i' j m:=(h.sw.hiA h1 h2).sw
def ML.puA(h:ML a b o i i' j j')(h1:i<i')(h2:i<a.size):ML a b (o.push a[i]) (i+1) i' j j':=by have:=h.loA (dW i) h1;rw[UA h2]at this;simpa using this
def ML.puB(h:ML a b o i i' j j')(h1:j<j')(h2:j<b.size):ML a b (o.push b[j]) i i' (j+1) j':=(h.sw.puA h1 h2).sw
def ML.poA(h:ML a b o i i' j j')(h1:i<i')(h2:i'-1<a.size):ML a b (o.push a[i'-1]) i (i'-1) j j':=by have:=h.hiA (m:=i'-1) (Nat.le_sub_one_of_lt h1)<|iG _ _;rw[show a.extract (i'-1) i'=#[a[i'-1]] from by rw[<- UA h2];congr 1;omega]at this;simpa using this
def ML.poB(h:ML a b o i i' j j')(h1:j<j')(h2:j'-1<b.size):ML a b (o.push b[j'-1]) i i' j (j'-1):=(h.sw.poA h1 h2).sw
def ML.d1(h:ML a b o i i' j j'):Mg a b (o++a.extract i i'++b.extract j j'):=λx=>by have:=h x;rw[dU,dU,Er,Er];exact this
def ML.d2(h:ML a b o i i' j j'):Mg a b (o++b.extract j j'++a.extract i i'):=λx=>by rw[h.sw.d1 x];exact Nat.add_comm _ _
def ML.d3(h:ML a b o i i' j j'):Mg a b (a.extract i i'++b.extract j j'++o.reverse):=λx=>by have:=h x;rw[dU,dU,Er,Er,Array.toList_reverse,BT];unfold cx at this;omega
def ML.d4(h:ML a b o i i' j j'):Mg a b (b.extract j j'++a.extract i i'++o.reverse):=λx=>by rw[h.sw.d3 x];exact Nat.add_comm _ _
end
def AOk(a:oA lE)(p:oC lR):Prop:=∀x∈p.toList,x.1∈a
def AOk.at{a:oA lE}{p:oC lR}{i:Nat}(h:AOk a p)(b:i<p.size):p[i].1∈a:=h _<|by simp
def AOk.pm{a:oA lE}{p q:oC lR}(h:AOk a p)(k:q.toList.Perm p.toList):AOk a q:=λx hx=>h x<|k.mem_iff.mp hx
def AOk.ex{a:oA lE}{p:oC lR}{i j:Nat}(h:AOk a p):AOk a (p.extract i j):=λx hx=>h x<|by
 rw[jS]at hx;exact jP<|dL<|by rwa[hJ]at hx
section
variable {prog:lJ}{w:lK}{A:lM}{E:lE->lF->Prop}{s:lF}{κ:lX}{vs:oA lE}
def Fa(prog:lJ)(w:lK)(A:lM)(κ:lX)(vs:oA lE)(s:lF):Prop :=
 ∀u∈vs,∀v∈vs,∃c:Bool,∀C:Bool->lF->Prop,C c s->qQ prog w A (keyLt' κ u v) C (λ_ _=>False) s
def BU(hc:Fa prog w A κ vs s){st:lW}(hk:kindOf st=κ){x y:lR}(hx:x.1∈vs)(hy:y.1∈vs){Q:oB Bool->lW->Prop}(h:∀c,Q (some c) st):wpS (model prog w) A E s (lt' x y) Q st:=by obtain⟨c,hc⟩:=hc _ hx _ hy;rw[lt'_eq];refine U_<|iY ?_;rw[hk];refine U_<|kZ<|dN<|cD (hc (λb a=>a=s/\b=c) ⟨rfl,rfl⟩) (λc a e=>?_) λ_ _ d=>d.elim;obtain⟨rfl,rfl⟩:=e;exact⟨rfl,X_<|h _⟩
def B7{st:lW}{p:oC lR}{i:Nat}(a:i<p.size){Q:lR->lW->Prop}(h:Q p[i] st):wpS (model prog w) A E s (elem' p i) Q st:=by rw[elem'_eq,aP a];exact X_ h
def OB{j:Type}{m n:Nat}{F:Nat->oB j×Nat×Nat->StateT lW Sem (ForInStep<|oB j×Nat×Nat)}{st:lW}
  (o:∀x lo d (Q:ForInStep (oB j×Nat×Nat)->lW->Prop),lo<=d->d<=m->(lo=d->Q (.done (none,lo,d)) st)->(∀i f,i<=f->f<=m->f-i<d-lo->Q (.yield (none,i,f)) st)->wpS (model prog w) A E s (F x (none,lo,d)) Q st)
  {lo d:Nat} (h1:lo<=d) (h2:d<=m) (l:d-lo<=n) {Q:oB j×Nat×Nat->lW->Prop} (h:∀k,k<=m->Q (none,k,k) st):wpS (model prog w) A E s (forIn [0:n] ((none,lo,d):oB j×Nat×Nat) F) Q st:=by
 refine gB (gK (I:=λx c g=>g=st/\∃lo d,c=(none,lo,d)/\lo<=d/\d<=m/\d-lo<=n-x) (Q:=λc g=>g=st/\∃k,c=(none,k,k)/\k<=m) ?_ ?_ ⟨rfl,lo,d,rfl,h1,h2,l⟩) ?_;rintro x c g _ hx ⟨rfl,lo,d,rfl,h1,h2,l⟩;exact o x lo d _ h1 h2 (λe=>⟨rfl,lo,by rw[e],R_ h1 h2⟩) λi f a b c=>⟨rfl,i,f,rfl,a,b,by omega⟩;rintro c g ⟨rfl,lo,d,rfl,h1,h2,l⟩;exact⟨rfl,lo,by rw[show d=lo by omega],R_ h1 h2⟩;rintro c g ⟨rfl,k,rfl,hk⟩;exact h k hk
def BV{left:Bool}{l:lR}{q:oC lR}{base m e:Nat}{st:lW}(o:e<m)
  (j:∀i Q,i<m->(∀c,Q (some c) st)->wpS (model prog w) A E s (byd left l q base i) Q st) {Q:oB Nat->lW->Prop} (h:∀k,k<=m->Q (some k) st):wpS (model prog w) A E s (gallop' left l q base m e) Q st:=by
 rw[Si];dsimp only;refine U_<|j e _ o λr=>?_;dsimp only;cases r with
 |true=>rw[T_ rfl];refine U_<|gB (gK (I:=λx c g=>g=st/\∃f d,c=(none,f,d)/\f<d/\f<m-e) (Q:=λc g=>g=st/\∃f d,c=(none,f,d)/\f<d/\f<m-e) ?_ (λ_ _ z=>z) ⟨rfl,0,1,rfl,kG _,Nat.sub_pos_of_lt o⟩) ?_;rintro x c g _ hx ⟨rfl,f,d,rfl,h1,h2⟩;dsimp only;by_cases c:d>=m-e;rw[T_ c];exact X_ ⟨rfl,f,d,rfl,h1,h2⟩;rw[M_ c];refine U_ (j _ _ (by omega) λc=>?_);cases c;exact X_ ⟨rfl,f,d,rfl,h1,h2⟩;exact X_ ⟨rfl,d,_,rfl,by omega,Nat.lt_of_not_le c⟩;rintro c g ⟨rfl,f,d,rfl,h1,h2⟩;dsimp only;refine U_ (OB (m:=m) (λx lo p t a b n hy=>?_) (by omega) (by omega) (by omega) λk hk=>X_<|h k hk);dsimp only;by_cases c:lo>=p;rw[T_ c];exact X_ (n<|by omega);rw[M_ c];refine U_ (j _ _ (by omega) λc=>?_);cases c;exact X_ (hy _ _ (cU _ _) (by omega)<|by omega);exact X_ (hy _ _ (by omega) (b)<|by omega)
 |false=>rw[M_ Q_];refine U_<|gB (gK (I:=λx c g=>g=st/\∃f d,c=(none,f,d)/\f<d/\f<=e) (Q:=λc g=>g=st/\∃f d,c=(none,f,d)/\f<d/\f<=e) ?_ (λ_ _ z=>z) ⟨rfl,0,1,rfl,kG _,aG _⟩) ?_;rintro x c g _ hx ⟨rfl,f,d,rfl,h1,h2⟩;dsimp only;by_cases c:d>=e+1;rw[T_ c];exact X_ ⟨rfl,f,d,rfl,h1,h2⟩;rw[M_ c];refine U_<|j _ _ (dG (iG e d) o) λc=>?_;cases c;exact X_ ⟨rfl,d,_,rfl,by omega,by omega⟩;exact X_ ⟨rfl,f,d,rfl,h1,h2⟩;rintro c g ⟨rfl,f,d,rfl,h1,h2⟩;dsimp only;refine U_ (OB (m:=m) (λx lo p t a b n hy=>?_) (by omega) (by omega) (by omega) λk hk=>X_<|h k hk);dsimp only;by_cases c:lo>=p;rw[T_ c];exact X_ (n<|by omega);rw[M_ c];refine U_ (j _ _ (by omega) λc=>?_);cases c;exact X_ (hy _ _ (cU _ _) (by omega)<|by omega);exact X_<|hy _ _ (by omega) (b)<|by omega
def QS{left:Bool}(hc:Fa prog w A κ vs s){st:lW}(hk:kindOf st=κ){p:oC lR}{b:lR}{base m a:Nat}(e:a<m)(hb:base+m<=p.size)(hp:AOk vs p)(d:b.1∈vs){Q:oB Nat->lW->Prop}(h:∀k,k<=m->Q (some k) st):wpS (model prog w) A E s (gallop' left b p base m a) Q st:=by refine BV e (λi g f q=>?_) h;unfold byd;refine U_ (B7 (by omega) ?_);cases left;exact U_<|BU hc hk d (hp.at _) λc=>X_<|q _;exact BU hc hk (hp.at _) d q
structure LMid(a b:oC lR)(q:Nat)(o:oC lR)(ia ib:Nat):Prop where
 m:ML a b o ia a.size ib b.size
 ha:ia+1<a.size
 hb:ib<b.size
 q:q<=ia+ib
structure RMid(a b:oC lR)(q:Nat)(o:oC lR)(na nb:Nat):Prop where
 m:ML a b o 0 na 0 nb
 h1:na<=a.size
 h2:nb<=b.size
 ha:0<na
 hb:1<nb
 q:na+nb+q<=a.size+b.size
section
variable {a b out:oC lR}{st:lW}{Qd Qy:TH->lW->Prop}{ia ib mg ac bc:Nat}
def UB(M:ML a b out ia a.size ib b.size)(ha:ia+1<a.size)(hb:ib<b.size)(d:∀R c,Mg a b R->c.1=some R->Qd c st)(h:∀o i j m x y,LMid a b (ia+ib+1) o i j->Qd (none,o,i,j,m,x,y) st/\Qy (none,o,i,j,m,x,y) st) :
  wpS (model prog w) A E s (GD a b out ia ib mg ac bc) (λr f=>match r with|.done c'=>Qd c' f|.yield c'=>Qy c' f) st:=by
 unfold GD;refine U_<|B7 (bU ha) ?_;have M1:=M.puA (bU ha)<|bU ha;by_cases e:ia+1+1=a.size;rw[T_<|by simpa using e];exact X_<|d _ _ M1.d2 rfl;rw[M_<|by simpa using e];have g:=h _ _ _ mg ac bc ⟨M1,by omega,hb,by omega⟩;split;exact X_ g.1;exact X_ g.2
def UC(hc:Fa prog w A κ vs s)(hk:kindOf st=κ)(p:AOk vs a)(u:AOk vs b)(M:ML a b out ia a.size ib b.size)(ha:ia+1<a.size)(hb:ib<b.size)(d:∀R c,Mg a b R->c.1=some R->Qd c st)(t:∀o i j m x y,LMid a b (ia+ib+1) o i j->Qd (none,o,i,j,m,x,y) st/\Qy (none,o,i,j,m,x,y) st) :
  wpS (model prog w) A E s (GE a b out ia ib mg ac bc) (λr n=>match r with|.done c'=>Qd c' n|.yield c'=>Qy c' n) st:=by
 unfold GE;refine U_<|B7 hb ?_;have M1:=M.puB hb hb;have f:∀k,∀o i j m x y,LMid a b (ia+(ib+1+k)+1) o i j->Qd (none,o,i,j,m,x,y) st/\Qy (none,o,i,j,m,x,y) st:=λk o i j m x y h=>t o i j m x y ⟨h.m,h.ha,h.hb,by have:=h.q;omega⟩;by_cases e:ib+1=b.size;rw[T_<|by simpa using e];exact X_<|d _ _ M1.d1 rfl;rw[M_<|by simpa using e];refine U_ (B7 (bU ha)<|U_<|QS hc hk (by omega) (by omega) u (p.at _) λk v=>?_);dsimp only;by_cases l:k>0;rw[T_ l];have M2:=M1.loB (m:=ib+1+k) (cU _ _) (by omega);by_cases g:ib+1+k=b.size;rw[T_<|by simpa using g];exact X_<|d _ _ M2.d1 rfl;rw[M_<|by simpa using g];exact UB M2 ha (by omega) d<|f k;rw[M_ l];exact UB M1 ha (by omega) d<|f 0
def Qbl(hc:Fa prog w A κ vs s)(hk:kindOf st=κ)(e:AOk vs a)(f:AOk vs b)(M:ML a b out ia a.size ib b.size)(ha:ia+1<a.size)(hb:ib<b.size)(d:∀R c,Mg a b R->c.1=some R->Qd c (Dc st mg))(l:∀o i j m x y,LMid a b (ia+ib+1) o i j->Qd (none,o,i,j,m,x,y) (Dc st mg)/\Qy (none,o,i,j,m,x,y) (Dc st mg)) :
  wpS (model prog w) A E s (NF a b out ia ib mg ac bc) (λr t=>match r with|.done c'=>Qd c' t|.yield c'=>Qy c' t) st:=by
 unfold NF;rw[C5];refine U_ (eV<|U_<|B7 hb<|U_<|QS hc (st:=Dc st mg) hk (by omega) (by omega) e (f.at _) λk u=>?_);dsimp only;by_cases n:k>0;rw[T_ n];have M1:=M.loA (m:=ia+k) (cU _ _) (by omega);by_cases p:ia+k+1=a.size;rw[T_<|by simpa using p];exact X_<|d _ _ M1.d2 rfl;rw[M_<|by simpa using p];by_cases g:ia+k=a.size;rw[T_<|by simpa using g];exact X_<|d _ _ M1.d1 rfl;rw[M_<|by simpa using g];exact UC hc (st:=Dc st mg) hk e f M1 (by omega) hb d λo i j m x y h=>l o i j m x y ⟨h.m,h.ha,h.hb,by have:=h.q;omega⟩;rw[M_ n];exact UC hc (st:=Dc st mg) hk e f M ha hb d l
end
section
variable {a b out:oC lR}{st:lW}{Qd Qy:TJ->lW->Prop}{na nb mg ac bc q:Nat}
def UD(M:RMid a b q out na nb)(d:∀R c,Mg a b R->c.1=some R->Qd c st)(k:∀o i j m x y,RMid a b (q+1) o i j->Qd (none,i,j,o,m,x,y) st/\Qy (none,i,j,o,m,x,y) st) :
  wpS (model prog w) A E s (GF a b out na nb mg ac bc) (λr h=>match r with|.done c'=>Qd c' h|.yield c'=>Qy c' h) st:=by
 obtain⟨M,h1,h2,ha,hb,hq⟩:=M;unfold GF;refine U_ (B7 (by omega) ?_);have M1:=M.poA ha (by omega);by_cases e:na-1=0;rw[T_<|by simpa using e];exact X_<|d _ _ M1.d3 rfl;rw[M_<|by simpa using e];have g:=k _ _ _ mg ac bc ⟨M1,R_ (iG na 1) h1,h2,gH e,hb,by omega⟩;by_cases f:(decide (ac<7)&&decide (bc<7))=true;rw[T_ f];exact X_ g.1;rw[M_ f];exact X_ g.2
def UE(hc:Fa prog w A κ vs s)(hk:kindOf st=κ)(p:AOk vs a)(u:AOk vs b)(M:RMid a b q out na nb)(d:∀R c,Mg a b R->c.1=some R->Qd c st)(g:∀o i j m x y,RMid a b (q+1) o i j->Qd (none,i,j,o,m,x,y) st/\Qy (none,i,j,o,m,x,y) st) :
  wpS (model prog w) A E s (GG a b out na nb mg ac bc) (λr n=>match r with|.done c'=>Qd c' n|.yield c'=>Qy c' n) st:=by
 obtain⟨M,h1,h2,ha,hb,hq⟩:=M;unfold GG;refine U_ (B7 (by omega) ?_);have M1:=M.poB (bU hb) (by omega);by_cases e:nb-1=1;rw[T_<|by simpa using e];exact X_<|d _ _ M1.d4 rfl;rw[M_<|by simpa using e];refine U_ (B7 (by omega)<|U_<|QS hc hk (by omega) (by omega) u (p.at _) λk t=>?_);dsimp only;by_cases h:nb-1-k>0;rw[T_ h];have M2:=M1.hiB (m:=k) (aG _) t;by_cases l:k=1;rw[T_<|by simpa using l];exact X_<|d _ _ M2.d4 rfl;rw[M_<|by simpa using l];by_cases f:k=0;rw[T_<|by simpa using f];exact X_<|d _ _ M2.d3 rfl;rw[M_<|by simpa using f];exact UD ⟨M2,h1,by omega,ha,by omega,by omega⟩ d g;rw[M_ h];exact UD ⟨M1,h1,R_ (iG nb 1) h2,ha,by omega,by omega⟩ d g
def Qbm(hc:Fa prog w A κ vs s)(hk:kindOf st=κ)(e:AOk vs a)(f:AOk vs b)(M:RMid a b q out na nb)(d:∀R c,Mg a b R->c.1=some R->Qd c (Dc st mg))(l:∀o i j m x y,RMid a b (q+1) o i j->Qd (none,i,j,o,m,x,y) (Dc st mg)/\Qy (none,i,j,o,m,x,y) (Dc st mg)) :
  wpS (model prog w) A E s (NG a b out na nb mg ac bc) (λr p=>match r with|.done c'=>Qd c' p|.yield c'=>Qy c' p) st:=by
 obtain⟨M,h1,h2,ha,hb,hq⟩:=M;unfold NG;rw[C5];refine U_ (eV<|U_<|B7 (by omega)<|U_<|QS hc (st:=Dc st mg) hk (lC ha<|by decide) (by omega) e (f.at _) λk h=>?_);dsimp only;by_cases n:na-k>0;rw[T_ n];have M1:=M.hiA (m:=k) (aG _) h;by_cases g:k=0;rw[T_<|by simpa using g];exact X_<|d _ _ M1.d3 rfl;rw[M_<|by simpa using g];exact UE hc (st:=Dc st mg) hk e f ⟨M1,R_ h h1,h2,gH g,hb,by omega⟩ d l;rw[M_ n];exact UE hc (st:=Dc st mg) hk e f ⟨M,h1,h2,ha,hb,hq⟩ d l
end
def LMid.dn{a b o:oC lR}{q y i j:Nat}(M:LMid a b (q+(y+1)) o i j):LMid a b (q+1) o i j:=⟨M.m,M.ha,M.hb,R_ (by omega) M.q⟩
def RMid.dn{a b o:oC lR}{q y i j:Nat}(M:RMid a b (q+(y+1)) o i j):RMid a b (q+1) o i j:=⟨M.m,M.h1,M.h2,M.ha,M.hb,R_ (by omega) M.q⟩
def Jt{e b d i τ:Type}{P:oC lR->Prop}{L:Nat->e->b->d->Prop}{N n m g:Nat}{f:Nat->(oB (oC lR)×e×b×d×i)->StateT lW Sem (ForInStep<|oB (oC lR)×e×b×d×i)}{k:(oB (oC lR)×e×b×d×i)->StateT lW Sem τ}{Q:τ->lW->Prop}{st j:lW}{u:e}{v:b}{x:d}{r:i}(hs:j=Dc st g)(h0:L n u v x)
  (step:∀y u v x r g,L (n+y) u v x->wpS (model prog w) A E s (f y (none,u,v,x,r)) (λz a=>match z with
   |.done c=>(∃g,a=Dc st g)/\((∃R,c.1=some R/\P R)\/(c.1=none/\L m c.2.1 c.2.2.1 c.2.2.2.1))
   |.yield c=>(∃g,a=Dc st g)/\c.1=none/\L (n+(y+1)) c.2.1 c.2.2.1 c.2.2.2.1) (Dc st g))
  (over:∀u v x,L (n+N) u v x->L m u v x) (p:∀R c g,P R->wpS (model prog w) A E s (k (some R,c)) Q (Dc st g)) (l:∀u v x r g,L m u v x->wpS (model prog w) A E s (k (none,u,v,x,r)) Q (Dc st g)):wpS (model prog w) A E s (forIn [0:N] (none,u,v,x,r) f>>=k) Q j:=by
 refine U_<|gB (gK (I:=λy c a=>(∃g,a=Dc st g)/\c.1=none/\L (n+y) c.2.1 c.2.2.1 c.2.2.2.1) (Q:=λc a=>(∃g,a=Dc st g)/\((∃R,c.1=some R/\P R)\/(c.1=none/\L m c.2.1 c.2.2.1 c.2.2.2.1))) ?_ ?_ ⟨⟨g,hs⟩,rfl,h0⟩) ?_;rintro y ⟨q,u,v,x,r⟩ a _ _ ⟨⟨g,rfl⟩,rfl,h⟩;refine gB (step y u v x r g h) ?_;rintro(c|c) a hh<;>exact hh;rintro c a ⟨t,h1,h2⟩;rw[Nat.zero_max]at h2;exact⟨t,.inr ⟨h1,over _ _ _ h2⟩⟩;rintro⟨q,u,v,x,r⟩ a ⟨⟨g,rfl⟩,⟨R,rfl,o⟩|⟨rfl,B⟩⟩;exact p R _ g o;exact l u v x r g B
def BW{a b o:oC lR}{q i j:Nat}{p:Prop}(M:LMid a b (q+(a.size+b.size)) o i j):p:=by have h1:=M.ha;have h2:=M.hb;have c:=M.q;omega
def Xm(hc:Fa prog w A κ vs s){a b:oC lR}{st:lW}(hk:kindOf st=κ)(G:AOk vs a)(D:AOk vs b)(I:0<a.size)(C:0<b.size){Q:oC lR->lW->Prop}(h:∀R g,Mg a b R->Q R (Dc st g)):wpS (model prog w) A E s (mergeLo' a b) Q st:=by
 have B:ML a b #[b[0]] 0 a.size 1 b.size:=ML.puB (o:=#[]) (j:=0) (λx=>by rw[Lu,Lu];show 0+_+_=_;omega) C C;rw[P7];refine U_<|kZ<|eA ⟨rfl,?_⟩;refine U_<|B7 C ?_;dsimp only;by_cases F:1=b.size;rw[T_<|by simpa using F];exact X_<|h _ (gallopOf st) B.d1;rw[M_<|by simpa using F];by_cases H:0+1=a.size;rw[T_<|by simpa using H];exact X_<|h _ (gallopOf st) B.d2;rw[M_<|by simpa using H];refine U_<|iY ?_;refine Jt (P:=Mg a b) (L:=LMid a b) (n:=1) (m:=1+(a.size+b.size)) (g:=gallopOf st) rfl ⟨B,by show 0+1<_;omega,by show 1<_;omega,J_ _⟩ (λx o N J d g M=>?_) (λ_ _ _ M=>M) (λR c g k=>X_<|h R g k) λo i j r g M=>BW M;dsimp only;refine Jt (P:=Mg a b) (L:=LMid a b) (n:=1+x) (m:=1+x+1) (g:=g) rfl M (λy o p l r g M=>?_) (λ_ _ _ M=>BW M) (λR c g k=>X_ ⟨⟨g,rfl⟩,.inl ⟨R,rfl,k⟩⟩) λo p l r g M=>?_
 ·have ha:=M.ha;have hb:=M.hb;have hq:=M.q;have M:=M.m;dsimp only;refine U_<|B7 hb<|U_<|B7 (bU ha)<|U_<|BU hc (st:=Dc st g) hk (D.at _) (G.at _) λc=>?_;dsimp only;cases c with
  |true=>rw[T_ rfl];refine U_<|B7 hb ?_;have M1:=M.puB hb hb;by_cases u:l+1=b.size;rw[T_<|by simpa using u];exact X_ ⟨⟨g,rfl⟩,.inl ⟨_,rfl,M1.d1⟩⟩;rw[M_<|by simpa using u];have h1:LMid a b (1+x+(y+1)) _ p (l+1):=⟨M1,ha,by omega,by omega⟩;by_cases t:r.2+1>=d<;>simp only[t,if_true,if_false];exact X_ ⟨⟨g,rfl⟩,.inr ⟨rfl,h1.dn⟩⟩;exact X_ ⟨⟨g,rfl⟩,rfl,h1⟩
  |false=>rw[M_ Q_];refine U_<|B7 (bU ha) ?_;have M1:=M.puA (bU ha)<|bU ha;by_cases u:p+1+1=a.size;rw[T_<|by simpa using u];exact X_ ⟨⟨g,rfl⟩,.inl ⟨_,rfl,M1.d2⟩⟩;rw[M_<|by simpa using u];have h1:LMid a b (1+x+(y+1)) _ (p+1) l:=⟨M1,by omega,hb,by omega⟩;by_cases t:r.1+1>=d<;>simp only[t,if_true,if_false];exact X_ ⟨⟨g,rfl⟩,.inr ⟨rfl,h1.dn⟩⟩;exact X_ ⟨⟨g,rfl⟩,rfl,h1⟩
 dsimp only;refine U_<|kZ<|eA ⟨rfl,?_⟩;refine Jt (P:=Mg a b) (L:=LMid a b) (n:=1+x+1) (m:=1+x+1) (g:=g) rfl M (λy o p l r g M=>?_) (λ_ _ _ M=>BW M) (λR c g k=>X_ ⟨⟨g,rfl⟩,.inl ⟨R,rfl,k⟩⟩) λo p l r g M=>?_;dsimp only;have v:∀d,wpS (model prog w) A E s (NF a b o p l d r.2.1 r.2.2) _ (Dc st g):=λd=>
  Qbl (Qd:=λc z=>(∃g,z=Dc st g)/\((∃R,c.1=some R/\Mg a b R)\/(c.1=none/\LMid a b (1+x+1) c.2.1 c.2.2.1 c.2.2.2.1))) (Qy:=λc z=>(∃g,z=Dc st g)/\c.1=none/\LMid a b (1+x+1+(y+1)) c.2.1 c.2.2.1 c.2.2.2.1) hc (st:=Dc st g) hk G D M.m M.ha M.hb (λR c k e=>⟨⟨d,rfl⟩,.inl ⟨R,e,k⟩⟩)
   λo i j m x y f=>⟨⟨⟨d,rfl⟩,.inr ⟨rfl,f.m,f.ha,f.hb,by have:=f.q;have:=M.q;show _<=i+j;omega⟩⟩,⟨d,rfl⟩,rfl,f.m,f.ha,f.hb,by have:=f.q;have:=M.q;show _<=i+j;omega⟩
 by_cases t:r.1>1;rw[T_ t];refine gB (v<|r.1-1) ?_;rintro(c|c) z hh<;>exact hh;rw[M_ t];refine gB (v r.1) ?_;rintro(c|c) z hh<;>exact hh;dsimp only;rw[C5];exact U_<|eV<|X_ ⟨⟨_,rfl⟩,rfl,M⟩
def BX{a b o:oC lR}{q i j:Nat}{p:Prop}(M:RMid a b (q+(a.size+b.size)) o i j):p:=by have h1:=M.ha;have c:=M.q;omega
def Xn(hc:Fa prog w A κ vs s){a b:oC lR}{st:lW}(hk:kindOf st=κ)(H:AOk vs a)(G:AOk vs b)(B:0<a.size)(J:0<b.size){Q:oC lR->lW->Prop}(h:∀R g,Mg a b R->Q R (Dc st g)):wpS (model prog w) A E s (mergeHi' a b) Q st:=by
 have C:ML a b #[a[a.size-1]'(lC B<|by decide)] 0 (a.size-1) 0 b.size:=ML.poA (o:=#[]) (i:=0) (i':=a.size) (λx=>by rw[Lu,Lu];show 0+_+_=_;omega) B (lC B<|by decide);rw[P8];refine U_<|kZ<|eA ⟨rfl,?_⟩;refine U_ (B7 (lC B<|by decide) ?_);dsimp only;by_cases D:a.size-1=0;rw[T_<|by simpa using D];exact X_<|h _ (gallopOf st) C.d3;rw[M_<|by simpa using D];by_cases F:b.size=1;rw[T_<|by simpa using F];exact X_<|h _ (gallopOf st) C.d4;rw[M_<|by simpa using F];refine U_<|iY ?_;refine Jt (P:=Mg a b) (L:=λq i j o=>RMid a b q o i j) (n:=1) (m:=1+(a.size+b.size)) (g:=gallopOf st) rfl ⟨C,iG _ _,J_ _,gH D,by show 1<b.size;omega,by show a.size-1+b.size+1<=_;omega⟩ (λx N I o f g M=>?_) (λ_ _ _ M=>M) (λR c g p=>X_<|h R g p) λi j o r g M=>BX M;dsimp only;refine Jt (P:=Mg a b) (L:=λq i j o=>RMid a b q o i j) (n:=1+x) (m:=1+x+1) (g:=g) rfl M (λy l k o r g M=>?_) (λ_ _ _ M=>BX M) (λR c g p=>X_ ⟨⟨g,rfl⟩,.inl ⟨R,rfl,p⟩⟩) λl k o r g M=>?_
 ·have h1:=M.h1;have h2:=M.h2;have ha:=M.ha;have hb:=M.hb;have hq:=M.q;have M:=M.m;dsimp only;refine U_ (B7 (by omega)<|U_<|B7 (by omega)<|U_<|BU hc (st:=Dc st g) hk (G.at _) (H.at _) λc=>?_);dsimp only;cases c with
  |true=>rw[T_ rfl];refine U_ (B7 (by omega) ?_);have M1:=M.poA ha (by omega);by_cases u:l-1=0;rw[T_<|by simpa using u];exact X_ ⟨⟨g,rfl⟩,.inl ⟨_,rfl,M1.d3⟩⟩;rw[M_<|by simpa using u];have h1:RMid a b (1+x+(y+1)) _ (l-1) k:=⟨M1,R_ (iG l 1) h1,h2,gH u,hb,by omega⟩;by_cases t:r.1+1>=f<;>simp only[t,if_true,if_false];exact X_ ⟨⟨g,rfl⟩,.inr ⟨rfl,h1.dn⟩⟩;exact X_ ⟨⟨g,rfl⟩,rfl,h1⟩
  |false=>rw[M_ Q_];refine U_ (B7 (by omega) ?_);have M1:=M.poB (bU hb) (by omega);by_cases u:k-1=1;rw[T_<|by simpa using u];exact X_ ⟨⟨g,rfl⟩,.inl ⟨_,rfl,M1.d4⟩⟩;rw[M_<|by simpa using u];have h1:RMid a b (1+x+(y+1)) _ l (k-1):=⟨M1,h1,R_ (iG k 1) h2,ha,by omega,by omega⟩;by_cases t:r.2+1>=f<;>simp only[t,if_true,if_false];exact X_ ⟨⟨g,rfl⟩,.inr ⟨rfl,h1.dn⟩⟩;exact X_ ⟨⟨g,rfl⟩,rfl,h1⟩
 dsimp only;refine U_<|kZ<|eA ⟨rfl,?_⟩;refine Jt (P:=Mg a b) (L:=λq i j o=>RMid a b q o i j) (n:=1+x+1) (m:=1+x+1) (g:=g) rfl M (λy l k o r g M=>?_) (λ_ _ _ M=>BX M) (λR c g p=>X_ ⟨⟨g,rfl⟩,.inl ⟨R,rfl,p⟩⟩) λl k o r g M=>?_;dsimp only;have v:∀f,wpS (model prog w) A E s (NG a b o l k f r.2.1 r.2.2) _ (Dc st g):=λf=>
  Qbm (Qd:=λc z=>(∃g,z=Dc st g)/\((∃R,c.1=some R/\Mg a b R)\/(c.1=none/\RMid a b (1+x+1) c.2.2.2.1 c.2.1 c.2.2.1))) (Qy:=λc z=>(∃g,z=Dc st g)/\c.1=none/\RMid a b (1+x+1+(y+1)) c.2.2.2.1 c.2.1 c.2.2.1) hc (st:=Dc st g) hk H G (q:=1+x+1+y) M (λR c p e=>⟨⟨f,rfl⟩,.inl ⟨R,e,p⟩⟩)
   λo i j m x y d=>⟨⟨⟨f,rfl⟩,.inr ⟨rfl,d.m,d.h1,d.h2,d.ha,d.hb,by have:=d.q;show i+j+_<=_;omega⟩⟩,⟨f,rfl⟩,rfl,d.m,d.h1,d.h2,d.ha,d.hb,by have:=d.q;show i+j+_<=_;omega⟩
 by_cases t:r.1>1;rw[T_ t];refine gB (v<|r.1-1) ?_;rintro(c|c) z hh<;>exact hh;rw[M_ t];refine gB (v r.1) ?_;rintro(c|c) z hh<;>exact hh;dsimp only;rw[C5];exact U_<|eV<|X_ ⟨⟨_,rfl⟩,rfl,M⟩
def SZq(κ:lX)(p:oC lR)(a:oC<|Nat×Nat×Nat)(g:Nat):lW:=SortSt.mk' κ p a g none
def OC{b:Type}(a:Nat)(R:oA b)(p:oC b)(h:a+R.length<=p.size):(wr a R 0 p).toList=p.toList.take a++R++p.toList.drop (a+R.length):=by
 apply iV;intro i;rw[Z_,Z0 a R 0 p h];simp only[Nat.add_zero];have c:(p.toList.take a).length=a:=by rw[bF,aT];omega
 by_cases h1:i<a;rw[M_<|by omega,eL,c_<|by omega,List.getElem?_take_of_lt h1,Z_];by_cases h2:i<a+R.length;rw[T_<|by omega,c_<|by rw[O_];omega,cF<|by omega,c];rw[M_<|by omega,cF<|by rw[O_];omega,O_,c,List.getElem?_drop,Z_];congr 1;omega
def UF(x:lR)(a:Nat)(R:oA lR)(p:oC lR)(h:a+R.length<=p.size):cn x (wr a R 0 p).toList=cx x p 0 a+cn x R+cx x p (a+R.length) p.size:=by rw[OC a R p h,Er,Er];unfold cx;rw[jS,jS,hJ,hJ,Nat.sub_zero,iS];congr 2;rw[gG<|by rw[gY,aT];exact J_ _]
def Xo(hc:Fa prog w A κ vs s){p:oC lR}{f:oC<|Nat×Nat×Nat}{g i b c n d v:Nat}(hp:AOk vs p)(h1:f[i]?=some (b,c,n))(h2:f[i+1]?=some (b+c,d,v))(ha:0<c)(hb:0<d)(hs:b+c+d<=p.size){Q:Bool->lW->Prop}
  (h:∀q g',q.toList.Perm p.toList->Q true (SZq κ q ((f.setIfInBounds i (b,c+d,n)).eraseIdxIfInBounds<|i+1) g')):wpS (model prog w) A E s (mergeAt' i) Q (SZq κ p f g):=by
 rw[P9];refine U_<|iY ?_;have B:(pendingOf<|SZq κ p f g)[i]?=some (b,c,n):=h1;have D:(pendingOf<|SZq κ p f g)[i+1]?=some (b+c,d,v):=h2;rw[B,D];dsimp only;rw[show arrOf (SZq κ p f g)=p from rfl];refine U_ (GH<|U_<|B7 (by omega)<|U_<|QS hc (st:=SZq κ p ((f.setIfInBounds i (b,c+d,n)).eraseIdxIfInBounds<|i+1) g) rfl ha (R_ (cU (b+c) d) hs) hp (hp.at _) λk y=>?_);dsimp only;by_cases u:c-k=0;rw[T_<|by simpa using u];exact X_<|h p g<|.refl _;rw[M_<|by simpa using u];refine U_ (B7 (by omega)<|U_<|QS hc (st:=SZq κ p ((f.setIfInBounds i (b,c+d,n)).eraseIdxIfInBounds<|i+1) g) rfl (lC hb<|by decide) hs hp (hp.at _) λm m1=>?_);dsimp only;by_cases c2:m=0;rw[T_<|by simpa using c2];exact X_<|h p g<|.refl _;rw[M_<|by simpa using c2];have F:(p.extract (b+k)<|b+c).size=c-k:=by rw[Array.size_extract];omega
 have C:(p.extract (b+c)<|b+c+m).size=m:=by rw[Array.size_extract];omega
 have t:∀(R:oC lR) (g':Nat),Mg (p.extract (b+k)<|b+c) (p.extract (b+c)<|b+c+m) R->∀o,o=SZq κ p ((f.setIfInBounds i (b,c+d,n)).eraseIdxIfInBounds<|i+1) g' ->
   wpS (model prog w) A E s (do
    modify λs=>setArr s (R.toList.zipIdx.foldl (λa (p,j)=>a.setIfInBounds (b+k+j) p)<|arrOf s)
    return (failedOf<|<- get).isNone) Q o:=λR g' l o e=>by
  subst e;refine U_<|eV<|U_<|iY<|X_ ?_;show Q true (SortSt.mk' κ (R.toList.zipIdx.foldl (λa (z:lR×Nat)=>a.setIfInBounds (b+k+z.2) z.1) p) _ g' none);rw[Uo];refine h _ g'<|Tj.mpr λx=>?_;have G:R.toList.length=c-k+m:=by have:=(Tj.mpr λx=>by rw[Er];exact l x:R.toList.Perm<|(p.extract (b+k)<|b+c).toList++(p.extract (b+c)<|b+c+m).toList).length_eq;simp only[List.length_append,Array.length_toList,F,C]at this;rw[aT];exact this
  have I:=l x;have H:=Lu x p;have a2:=Gp x p (aG<|b+k) (show b+k<=p.size by omega);have J:=Gp x p (show b+k<=b+c from kB y b)<|show b+c<=p.size from R_ (cU (b+c) d) hs;have L:=Gp x p (show b+c<=b+c+m from cU _ _) (show b+c+m<=p.size by omega);rw[UF x _ _ _<|by omega,G,show b+k+(c-k+m)=b+c+m by omega];unfold cx at *;omega
 by_cases r:c-k<=m;rw[T_ r];exact U_ (Xm hc rfl hp.ex hp.ex (by omega) (by omega) λR g' l=>t R g' l _ rfl);rw[M_ r];exact U_<|Xn hc rfl hp.ex hp.ex (by omega) (by omega) λR g' l=>t R g' l _ rfl
section
variable {p:oC lR}{pd:oC<|Nat×Nat×Nat}{g:Nat}
def Ju(hc:Fa prog w A κ vs s)(hp:AOk vs p){i j:Nat}(a:i<p.size)(hj:j<p.size){Q:oB Bool->lW->Prop}(h:∀c,Q (some c)<|SZq κ p pd g):wpS (model prog w) A E s (ltAt' i j) Q (SZq κ p pd g):=by rw[ltAt'_eq];refine U_<|iY ?_;exact(show wpS _ _ _ _ (do let x <- elem' p i;let y <- elem' p j;lt' x y) Q _ from U_<|B7 a<|U_<|B7 hj<|BU hc rfl (hp.at _) (hp.at _) h)
def U7{i j:Nat}{Q:Unit->lW->Prop}(h:∀a,a.toList.Perm p.toList->Q () (SZq κ a pd g)):wpS (model prog w) A E s (reverseSlice' i j) Q (SZq κ p pd g):=by rw[reverseSlice'_eq];exact eV<|h _ (mirror_perm p i j _).toList
def Gr{p q:oC lR}(h:q.toList.Perm p.toList):q.size=p.size:=by have:=h.length_eq;rwa[aT,aT]at this
def JO{e:Type}{b m:Nat}{st:lW}(h1:1<=m)(i:m<=b){F:Nat->oB e×Nat->StateT lW Sem (ForInStep<|oB e×Nat)}
  (h:∀x k (Q:ForInStep (oB e×Nat)->lW->Prop),1<=k->k<b->Q (.done (none,k)) st->Q (.yield (none,k+1)) st->wpS (model prog w) A E s (F x (none,k)) Q st)
  {Q:oB e×Nat->lW->Prop} (f:∀k,1<=k->k<=b->Q (none,k) st):wpS (model prog w) A E s (forIn [m:b] ((none,m):oB e×Nat) F) Q st:=by
 refine gB (gK (I:=λx c d=>d=st/\c=(none,x)/\1<=x/\x<=b) (Q:=λc d=>d=st/\∃k,c=(none,k)/\1<=k/\k<=b) ?_ ?_ ⟨rfl,rfl,h1,i⟩) ?_;rintro x c d _ hx ⟨rfl,rfl,a,a2⟩;exact h x x _ a hx ⟨rfl,x,rfl,a,a2⟩ ⟨rfl,rfl,bC a,hx⟩;rintro c d ⟨rfl,rfl,a,a2⟩;exact⟨rfl,_,rfl,a,a2⟩;rintro c d ⟨rfl,k,rfl,a,a2⟩;exact f k a a2
def BY(hc:Fa prog w A κ vs s)(hp:AOk vs p){lo a m:Nat}(h1:1<=m)(l:m<=a)(hs:lo+a<=p.size){Q:oB Nat->lW->Prop}
  (i:∀k b,1<=k->k<=a->b.toList.Perm p.toList->Q (some k) (SZq κ b pd g)):wpS (model prog w) A E s (Z1 lo a m) Q (SZq κ p pd g):=by
 unfold Z1;refine U_<|U7 λb d=>?_;have hz:=Gr d;refine U_ (JO h1 l (λx k n f e h j=>U_<|Ju hc (hp.pm d) (by omega) (by omega) λc=>?_) λk f e=>X_<|i k _ f e d);cases c;exact X_ j;exact X_ h
def BZ(hc:Fa prog w A κ vs s)(hp:AOk vs p){lo d m:Nat}(h1:1<=m)(v:m+1<=d)(hs:lo+d<=p.size){Q:oB Nat->lW->Prop}
  (r:∀k a,1<=k->k<=d->a.toList.Perm p.toList->Q (some k) (SZq κ a pd g)):wpS (model prog w) A E s (Z4 lo d m) Q (SZq κ p pd g):=by
 unfold Z4;refine U_<|kZ<|eA ⟨rfl,?_⟩;refine U_<|gB (gK (I:=λx c f=>∃a q,f=SZq κ a pd g/\c=(none,x,q)/\a.toList.Perm p.toList/\1<=x/\x<=d) (Q:=λc f=>∃a k q,f=SZq κ a pd g/\c=(none,k,q)/\a.toList.Perm p.toList/\1<=k/\k<=d) ?_ ?_ ⟨p,0,rfl,rfl,.refl _,bC h1,v⟩) ?_
 ·rintro x c f _ hx ⟨a,q,rfl,rfl,K,b,e⟩;have i:=hp.pm K;have hz:=Gr K;dsimp only;refine U_ (Ju hc i (by omega) (by omega) λu=>?_);dsimp only;cases u with
  |true=>rw[T_ rfl];by_cases hq:q>0;rw[T_ hq];exact U_<|U7 λt h=>X_ ⟨t,0,rfl,rfl,h.trans K,bC b,hx⟩;rw[M_ hq];exact X_ ⟨a,0,rfl,rfl,K,bC b,hx⟩
  |false=>rw[M_ Q_];refine U_ (Ju hc i (by omega) (by omega) λc2=>?_);cases c2;exact X_ ⟨a,_,rfl,rfl,K,bC b,hx⟩;exact X_ ⟨a,x,q,rfl,rfl,K,b,e⟩
 rintro c f ⟨a,q,rfl,rfl,K,b,e⟩;exact⟨a,_,q,rfl,rfl,K,b,e⟩;rintro c f ⟨a,k,q,rfl,rfl,K,b,e⟩;have i:=hp.pm K;have hz:=Gr K;dsimp only;by_cases hq:q>0;rw[T_ hq];exact U_ (U7 λt h=>BY hc (i.pm h) b e (by rw[Gr h];omega) λo n j a2 l=>r o n j a2<|l.trans<|h.trans K);rw[M_ hq];exact BY hc i b e (by omega) λo n j a2 l=>r o n j a2<|l.trans K
def HF(hc:Fa prog w A κ vs s)(hp:AOk vs p){lo a:Nat}(h1:1<=a)(hs:lo+a<=p.size){Q:oB Nat->lW->Prop}
  (d:∀k i,1<=k->k<=a->i.toList.Perm p.toList->Q (some k) (SZq κ i pd g)):wpS (model prog w) A E s (countRun' lo a) Q (SZq κ p pd g):=by
 rw[Og];refine U_ (JO (J_ 1) h1 (λx k u b f l n=>U_<|Ju hc hp (by omega) (by omega) λc=>?_) λk b f=>?_);cases c;exact X_ n;exact X_ l;dsimp only;by_cases e:k=a;rw[T_<|by simpa using e];exact X_<|d k p b f<|.refl _;rw[M_<|by simpa using e];by_cases j:k>1
 ·rw[T_ j];refine U_ (Ju hc hp (by omega) (by omega) λc=>?_);dsimp only;cases c with
  |true=>exact X_ (d k p b f<|.refl _)
  |false=>rw[M_ Q_];exact U_<|U7 λt h=>BZ hc (hp.pm h) b (by omega) (by rw[Gr h];exact hs) λr o q a2 m=>d r o q a2<|m.trans h
 rw[M_ j];exact BZ hc hp b (by omega) hs d
def CA(hc:Fa prog w A κ vs s)(hp:AOk vs p){lo m ok:Nat}(o:ok<=m)(hs:lo+m<=p.size){Q:Bool->lW->Prop}
  (f:∀a,a.toList.Perm p.toList->Q true (SZq κ a pd g)):wpS (model prog w) A E s (binarySort' lo m ok) Q (SZq κ p pd g):=by
 rw[binarySort'_eq];refine U_<|gB (gK (I:=λx c b=>∃a,b=SZq κ a pd g/\c=(none,())/\a.toList.Perm p.toList) (Q:=λc b=>∃a,b=SZq κ a pd g/\c=(none,())/\a.toList.Perm p.toList) ?_ (λ_ _ z=>z) ⟨p,rfl,rfl,.refl _⟩) ?_;rintro x c b d hx ⟨a,rfl,rfl,K⟩;have i:=hp.pm K;have hz:=Gr K;refine U_<|OB (m:=x) (λy l r j n a2 h hy=>?_) (aG _) (J_ _) (J_ _) λk hk=>?_;dsimp only;by_cases e:l>=r;rw[T_ e];exact X_ (h<|by omega);rw[M_ e];refine U_ (Ju hc i (by omega) (by omega) λc=>?_);cases c;exact X_ (hy _ _ (by omega) a2<|by omega);exact X_ (hy _ _ (by omega) (by omega)<|by omega);dsimp only;rw[moveDown'_eq];exact U_<|eV<|X_ ⟨_,rfl,rfl,((bubble_perm a _ _).toList).trans K⟩;rintro c b ⟨a,rfl,rfl,K⟩;exact X_<|f a K
def Lv(hc:Fa prog w A κ vs s)(hp:AOk vs p){i o:Nat}(r:Chain pd.toList 0 o)(hs:o<=p.size)(e:i+1<pd.size){Q:Bool->lW->Prop}
  (h:∀a n m,a.toList.Perm p.toList->Chain n.toList 0 o->n.size+1=pd.size->Q true (SZq κ a n m)):wpS (model prog w) A E s (mergeAt' i) Q (SZq κ p pd g):=by
 have d:pd[i]?=some pd[i]:=aP<|bU e;have b:pd[i+1]?=some pd[i+1]:=aP e;generalize pd[i]'(bU e)=ea at d;generalize pd[i+1]=eb at b;obtain⟨l,f,u⟩:=ea;obtain⟨G,j,F⟩:=eb;have D:pd.toList[i]?=some (l,f,u):=by rw[Z_];exact d
 have B:pd.toList[i+1]?=some (G,j,F):=by rw[Z_];exact b
 have q:=Qa D B;rw[q]at r;obtain⟨k,y,c2,x,C,z,t⟩:=Chain.app.mp r;subst c2;subst C;have H:=t.le;refine Xo hc hp d b x z (by omega) λa m K=>?_;have v:=GI (c:=(l,f+j,u)) d b;refine h a _ m K ?_ ?_;rw[v];exact Chain.app.mpr ⟨l,y,rfl,V_ x<|cU f j,by rw[<- kQ];exact t⟩;have:=cV List.length v;have hz:=cV List.length q;simp only[List.length_append,List.length_cons,Array.length_toList]at this hz;omega
def Chain.pu{lo m:Nat}(h:Chain pd.toList 0 lo)(a:0<m):Chain (pd.push (lo,m,0)).toList 0 (lo+m):=by rw[Array.toList_push];exact Chain.app.mpr ⟨lo,h,rfl,a,rfl⟩
end
section
variable {p:oC lR}{pd:oC<|Nat×Nat×Nat}{g:Nat}
def Os{e b d τ:Type}{N:Nat}{f:Nat->b->StateT e Sem (ForInStep b)}{k:b->StateT e Sem τ}{Q:τ->e->Prop}{S:d->e}{C:d->b}{I:Nat->d->Prop}{J:d->Prop}{st:e}{c:b}(j:d)(hs:st=S j)(hc:c=C j)(h0:I 0 j)
  (step:∀x i,x<N->I x i->wpS (model prog w) A E s (f x<|C i) (λz a=>match z with
   |.done c=>∃i,a=S i/\c=C i/\J i
   |.yield c=>∃i,a=S i/\c=C i/\I (x+1) i) (S i))
  (over:∀i,I N i->J i) (l:∀i,J i->wpS (model prog w) A E s (k<|C i) Q (S i)):wpS (model prog w) A E s (forIn [0:N] c f>>=k) Q st:=by
 refine U_<|gB (gK (I:=λx c a=>∃i,a=S i/\c=C i/\I x i) (Q:=λc a=>∃i,a=S i/\c=C i/\J i) ?_ ?_ ⟨j,hs,hc,h0⟩) ?_;rintro x c a _ hx ⟨i,rfl,rfl,h⟩;refine gB (step x i hx h) ?_;rintro(c|c) a hh<;>exact hh;rintro c a ⟨i,h1,h2,h⟩;rw[Nat.zero_max]at h;exact⟨i,h1,h2,over i h⟩;rintro c a ⟨i,rfl,rfl,h⟩;exact l i h
def Tk(hc:Fa prog w A κ vs s)(hp:AOk vs p){Q:Unit->lW->Prop}(H:∀F n9 Z,F.toList.Perm p.toList->Q () (SZq κ F n9 Z)):wpS (model prog w) A E s sortRuns' Q (SZq κ p #[] g):=by
 rw[sortRuns'_eq];refine U_<|iY ?_;rw[show arrOf (SZq κ p #[] g)=p from rfl];generalize Y:p.size=N;dsimp only;generalize minRun' N N 0=mr;refine Os (S:=λi:oC lR×oC (Nat×Nat×Nat)×Nat×Nat=>SZq κ i.1 i.2.1 i.2.2.1) (C:=λi=>(none,i.2.2.2)) (I:=λx i=>i.1.toList.Perm p.toList/\Chain i.2.1.toList 0 i.2.2.2/\i.2.2.2<=N/\x<=i.2.2.2) (J:=λi=>i.1.toList.Perm p.toList/\Chain i.2.1.toList 0 N) (p,#[],g,0) rfl rfl ⟨.refl _,rfl,aG _,J_ _⟩ (λx i hx h=>?_) (λi h=>?_) λi h=>?_
 ·have hz:=Gr h.1;dsimp only;by_cases e:i.2.2.2>=N;rw[T_ e];have eN:i.2.2.2=N:=Nat.le_antisymm h.2.2.1 e;exact X_ ⟨i,rfl,rfl,h.1,eN ▸ h.2.1⟩;rw[M_ e];refine U_ (HF hc (hp.pm h.1) (show 1<=N-i.2.2.2 by omega) (by omega) λk B L k2 f=>?_);have z1:=Gr f;dsimp only;by_cases a:k<mr
  ·rw[T_ a];refine U_<|kZ<|eA ⟨rfl,?_⟩;refine U_ (CA hc ((hp.pm h.1).pm f) (m:=min (N-i.2.2.2) mr) (by omega) (by omega) λq M=>?_);rw[M_<|show ¬(!true)=true by decide];have hq:q.toList.Perm p.toList/\1<=min (N-i.2.2.2) mr/\i.2.2.2+min (N-i.2.2.2) mr<=N:=⟨M.trans<|f.trans h.1,by omega,by omega⟩;refine U_<|iY ?_;show wpS _ _ _ _ (match i.2.1.back? with
    |some (l,D,_)=>_
    |_=>_) _ _
   have d:x+1<=i.2.2.2+min (N-i.2.2.2) mr:=Nat.add_le_add h.2.2.2 hq.2.1;cases eb:i.2.1.back? with
   |none=>dsimp only;exact U_ (eV<|X_ ⟨(q,_,i.2.2.1,_),rfl,rfl,hq.1,h.2.1.pu hq.2.1,hq.2.2,d⟩)
   |some e=>obtain⟨l,D,P⟩:=e;dsimp only;refine Os (S:=λj:oC lR×oC (Nat×Nat×Nat)×Nat=>SZq κ j.1 j.2.1 j.2.2) (C:=λ_=>(none,())) (I:=λ_ j=>j.1.toList.Perm p.toList/\Chain j.2.1.toList 0 i.2.2.2) (J:=λj=>j.1.toList.Perm p.toList/\Chain j.2.1.toList 0 i.2.2.2) (q,i.2.1,i.2.2.1) rfl rfl ⟨hq.1,h.2.1⟩ (λy j _ W=>?_) (λ_ W=>W) λj W=>?_;refine U_<|iY ?_;rw[show pendingOf (SZq κ j.1 j.2.1 j.2.2)=j.2.1 from rfl];by_cases b:j.2.1.size>1;rw[T_ b,aP<|by omega];generalize j.2.1[j.2.1.size-2]'(by omega)=e3;obtain⟨U,V,G⟩:=e3;dsimp only;split;exact X_ ⟨j,rfl,rfl,W⟩;refine U_ (Lv hc (hp.pm W.1) (i:=j.2.1.size-2) W.2 (by rw[Gr W.1];omega) (by omega) λn r o t z _=>?_);rw[M_<|show ¬(!true)=true by decide];exact X_ ⟨(n,r,o),rfl,rfl,t.trans W.1,z⟩;rw[M_ b];exact X_ ⟨j,rfl,rfl,W⟩;dsimp only;refine U_<|eV<|U_<|eV<|X_ ⟨(j.1,_,j.2.2,_),rfl,rfl,W.1,Chain.pu ?_ hq.2.1,hq.2.2,d⟩;show Chain (j.2.1.modify (j.2.1.size-1) _).toList 0 _;rw[Array.toList_modify];refine Chain.mod ?_ W.2;exact λe=>⟨rfl,rfl⟩
  ·rw[M_ a];have hq:B.toList.Perm p.toList/\1<=k/\i.2.2.2+k<=N:=⟨f.trans h.1,L,by omega⟩;refine U_<|iY ?_;show wpS _ _ _ _ (match i.2.1.back? with
    |some (l,D,_)=>_
    |_=>_) _ _
   have d:x+1<=i.2.2.2+k:=Nat.add_le_add h.2.2.2 hq.2.1;cases eb:i.2.1.back? with
   |none=>dsimp only;exact U_ (eV<|X_ ⟨(B,_,i.2.2.1,_),rfl,rfl,hq.1,h.2.1.pu hq.2.1,hq.2.2,d⟩)
   |some e=>obtain⟨l,D,P⟩:=e;dsimp only;refine Os (S:=λj:oC lR×oC (Nat×Nat×Nat)×Nat=>SZq κ j.1 j.2.1 j.2.2) (C:=λ_=>(none,())) (I:=λ_ j=>j.1.toList.Perm p.toList/\Chain j.2.1.toList 0 i.2.2.2) (J:=λj=>j.1.toList.Perm p.toList/\Chain j.2.1.toList 0 i.2.2.2) (B,i.2.1,i.2.2.1) rfl rfl ⟨hq.1,h.2.1⟩ (λy j _ W=>?_) (λ_ W=>W) λj W=>?_;refine U_<|iY ?_;rw[show pendingOf (SZq κ j.1 j.2.1 j.2.2)=j.2.1 from rfl];by_cases b:j.2.1.size>1;rw[T_ b,aP<|by omega];generalize j.2.1[j.2.1.size-2]'(by omega)=e3;obtain⟨U,V,G⟩:=e3;dsimp only;split;exact X_ ⟨j,rfl,rfl,W⟩;refine U_ (Lv hc (hp.pm W.1) (i:=j.2.1.size-2) W.2 (by rw[Gr W.1];omega) (by omega) λn r o t z _=>?_);rw[M_<|show ¬(!true)=true by decide];exact X_ ⟨(n,r,o),rfl,rfl,t.trans W.1,z⟩;rw[M_ b];exact X_ ⟨j,rfl,rfl,W⟩;dsimp only;refine U_<|eV<|U_<|eV<|X_ ⟨(j.1,_,j.2.2,_),rfl,rfl,W.1,Chain.pu ?_ hq.2.1,hq.2.2,d⟩;show Chain (j.2.1.modify (j.2.1.size-1) _).toList 0 _;rw[Array.toList_modify];refine Chain.mod ?_ W.2;exact λe=>⟨rfl,rfl⟩
 have e:i.2.2.2=N:=Nat.le_antisymm h.2.2.1 h.2.2.2;exact⟨h.1,e ▸ h.2.1⟩;dsimp only;refine Os (S:=λj:oC lR×oC (Nat×Nat×Nat)×Nat=>SZq κ j.1 j.2.1 j.2.2) (C:=λ_=>(none,())) (I:=λ_ j=>j.1.toList.Perm p.toList/\Chain j.2.1.toList 0 N) (J:=λj=>j.1.toList.Perm p.toList/\Chain j.2.1.toList 0 N) (i.1,i.2.1,i.2.2.1) rfl rfl h (λx j _ W=>?_) (λ_ W=>W) λj W=>X_<|H j.1 j.2.1 j.2.2 W.1;refine U_<|iY ?_;rw[show pendingOf (SZq κ j.1 j.2.1 j.2.2)=j.2.1 from rfl];by_cases a:j.2.1.size<=1;rw[T_ a];exact X_ ⟨j,rfl,rfl,W⟩;rw[M_ a];refine U_ (Lv hc (hp.pm W.1) W.2 (by rw[Gr W.1];exact fM<|Eq.symm Y) ?_ λR u T O X _=>?_);have v:∀(c:Prop) [Decidable c],(if c then j.2.1.size-2-1 else j.2.1.size-2)+1<j.2.1.size:=λc _=>by by_cases h:c;rw[T_ h];omega;rw[M_ h];omega
 exact v _
 rw[M_<|show ¬(!true)=true by decide];exact X_ ⟨(R,u,T),rfl,rfl,O.trans W.1,X⟩
end
def UG(hc:Fa prog w A κ vs s){Q:lW->lF->Prop}(b:∀st:lW,(arrOf st).toList.Perm (vs.toArray.zip vs.toArray).toList->failedOf st=none->Q st s) :
  qQ prog w A ((sortRuns').run<|SortSt.mk' κ (vs.toArray.zip vs.toArray) #[] 7 none) (λr a=>Q r.2 a) E s:=by
 refine cD (Tk (E:=E) (g:=7) hc (λx hx=>?_) (Q:=λ_ st=>Q st s) λc f d K=>b _ K rfl) (λr a h=>?_) λ_ _ e=>e;rw[Array.toList_zip]at hx;exact(jU hx).1;obtain⟨rfl,h⟩:=h;exact h
end
section
variable {prog:lJ}{w:lK}{A:lM}{E:lE->lF->Prop}{s:lF}{X:Cx}{aa:oA<|lH×lO}{σ:St}{H:Hp}{k:Nat}
def Tl{a:lH}{d:oA lE}{n:Nat}{P:PySem.Fin->lF->Prop}(r:s.heap.get? a=some (seqObj "list" d.toArray n)) (F:d.length<1000000)
  (hk:2<=d.length->∀h':lN,(∀b o,b≠a->s.heap.get? b=some o->h'.get? b=some o)->∃ p,(∀Q:lX->lF->Prop,Q p {s with heap:=h'}->qQ prog w A (keyKind' d.toArray) Q E {s with heap:=h'})/\Fa prog w A p d {s with heap:=h'})
  (h:∀(y:oA lE) (h':lN) (c:Nat),y.Perm d->(∀b o,b≠a->s.heap.get? b=some o->h'.get? b=some o)->h'.get? a=some (seqObj "list" y.toArray c)->P (.done<|.ret .none) {s with heap:=h'}) :
  qQ prog w A (Builtin.«list.sort» ⟨[.ref a],[]⟩) P E s:=by
 obtain⟨t,i⟩:∃t,(s.heap.update a<|Obj.mapSeq λ_=>(#[]:oC lE)).get? a=some (seqObj "list" #[] t):=⟨_,get?_update_seq r λ_=>#[]⟩;have j:d.toArray.size<=sizeLine:=by rw[W_];exact R_ (bR F)<|by decide
 have l:∀b o,b≠a->s.heap.get? b=some o->(((s.heap.update a<|Obj.mapSeq λ_=>(#[]:oC lE)).push<|seqObj "tuple" d.toArray 0).push<|seqObj "list" #[] 0).get? b=some o:=λb o hb e=>
  D_ _ (D_ _<|((aN s.heap a _).2 b hb).trans e)
 have f:(((s.heap.update a<|Obj.mapSeq λ_=>(#[]:oC lE)).push<|seqObj "tuple" d.toArray 0).push<|seqObj "list" #[] 0).get? a=some (seqObj "list" #[] t):=D_ _<|D_ _ i;rw[list_sort_plain];refine A_ (listItems_at r rfl<|A_<|listUpdate_at r rfl (A_<|seqEpoch_at i rfl<|A_<|wpAny_newTuple (A_<|wpAny_newList (bT ?_)<|aG _)<|by simpa using j) j<|aG _);show qQ prog w A _ P E {s with heap:=(((s.heap.update a<|Obj.mapSeq λ_=>(#[]:oC lE)).push<|seqObj "tuple" d.toArray 0).push<|seqObj "list" #[] 0)};generalize ((s.heap.update a<|Obj.mapSeq λ_=>(#[]:oC lE)).push<|seqObj "tuple" d.toArray 0).push (seqObj "list" #[] 0)=h2 at l f ⊢;dsimp only;have x:((d.toArray.zip d.toArray).toList.map (·.2))=d:=by rw[Array.toList_zip];exact List.map_snd_zip<|J_ _
 have g:∀st:lW,(arrOf st).toList.Perm (d.toArray.zip d.toArray).toList->P (.done<|.ret .none) {s with heap:=h2.update a<|Obj.mapSeq λ_=>(arrOf st).map (·.2)}/\((arrOf st).map (·.2)).size=d.length:=λst hp=>by
  have z:((arrOf st).map (·.2)).toList.Perm d:=by rw[Array.toList_map,<- x];exact(hp.map _).trans<|by rw[x]
  refine⟨h _ _ _ z (λb o hb D=>((aN h2 a _).2 b hb).trans<|l b o hb D)<|get?_update_seq f _,?_⟩;rw[<- aT];exact z.length_eq
 by_cases h1:d.toArray.size<2;rw[T_ h1,T_ h1];refine A_<|C_ ?_;rw[StateT.run_pure];obtain⟨u,m⟩:=g (SortSt.mk' general' (d.toArray.zip d.toArray) #[] 7 none)<|.refl _;refine A_<|C_<|A_<|seqEpoch_at f rfl<|A_<|listUpdate_at f rfl ?_ (aG _) ?_;rw[show failedOf (SortSt.mk' general' (d.toArray.zip d.toArray) #[] 7 none)=none from rfl,bne_self_eq_false,M_ Q_];exact C_ u;refine R_ ?_<|bC j;rw[W_];exact fM m;rw[M_ h1,M_ h1];obtain⟨p,C,B⟩:=hk (by rw[W_]at h1;exact kS h1) h2 l;refine A_<|C _<|A_<|cD (UG B (Q:=λst v=>v={s with heap:=h2}/\(arrOf st).toList.Perm (d.toArray.zip d.toArray).toList/\failedOf st=none) λst hp q=>⟨rfl,hp,q⟩) ?_ λ_ _ e=>e;rintro⟨⟨⟩,st⟩ v ⟨rfl,hp,q⟩;dsimp only;obtain⟨u,m⟩:=g st hp;refine A_<|seqEpoch_at f rfl<|A_<|listUpdate_at f rfl ?_ (aG _) ?_;rw[q,bne_self_eq_false,M_ Q_];exact C_ u;refine R_ ?_<|bC j;rw[W_];exact fM m
def Iu{v:lE}{Q:lE->lF->Prop}(t:qQ prog w A.in1 (collect v) (λd a=>d.length<1000000 /\
   (2<=d.length->∀h':lN,(∀b o,a.heap.get? b=some o->h'.get? b=some o)->∃ g,(∀Q:lX->lF->Prop,Q g {a with heap:=h'}->qQ prog w A.in1.in1 (keyKind' d.toArray) Q E {a with heap:=h'})/\Fa prog w A.in1.in1 g d {a with heap:=h'}) /\
   ∀(f:oA lE) (h':lN) (l c:Nat),f.Perm d->a.heap.objs.size<=l->(∀b o,a.heap.get? b=some o->h'.get? b=some o)->h'.get? l=some (seqObj "list" f.toArray c)->Q (.ref l) {a with heap:=h'}) E s) :
  qQ prog w A (call (.builtin "sorted") [v]) Q E s:=by
 refine Calls.call_function_entry kind_sorted plain_sorted entry_sorted (args_sorted1 _) ?_;unfold Builtin.«sorted»;refine A_ (m:=checkCount "sorted" 1 1 _)<|C_<|A_<|cD t (λd a hx=>?_) λ_ _ e=>e;obtain⟨j,hk,h⟩:=hx;have r:d.length<=sizeLine:=R_ (bR j) (by decide);have n:(a.heap.push<|seqObj "list" d.toArray 0).get? a.heap.objs.size=some (seqObj "list" d.toArray 0):=K_ _ rfl;refine A_<|wpAny_newList (A_<|bT<|aO slot_list_sort ⟨_,n,rfl⟩ entry_list_sort ?_<|args_list_sort _) r;have i:∀(h':lN),(∀b o,b≠a.heap.objs.size->(a.heap.push<|seqObj "list" d.toArray 0).get? b=some o->h'.get? b=some o)->∀b o,a.heap.get? b=some o->h'.get? b=some o:=λh' k b o q=>k b o (aB<|S_ q)<|D_ _ q;exact Tl (s:={a with heap:=a.heap.push<|seqObj "list" d.toArray 0}) n j (λh2 h' k=>hk h2 h'<|i h' k) λf h' c p k e=>⟨_,rfl,C_ ⟨_,rfl,h f h' _ c p (J_ _) (i h' k) e⟩⟩
structure SortOkP(ds:oA lG):Prop where
 len:ds.length<1000000
 can:PyData.canLayAll0 ds=true
 dp:PyData.depthAll ds<=64
 fst:∀d∈ds,∃i r,d=.tuple (.int i::r)
 cmp:∀d∈ds,∀e∈ds,cmpb d e=true
theorem CB{h:lN}{v:lE}:∀{a:oA lE} {ds:oA lG} {as:oA lH},ReadsAll h a ds as->v∈a->∃d∈ds,∃c,Reads h v d c
 |_,_,_,.cons r t,hv=>by rcases Y_.mp hv with rfl|hv;exact⟨_,.head _,_,r⟩;obtain⟨d,e,b⟩:=CB t hv;exact⟨d,.tail _ e,b⟩
def U8{b:oA lE}{ds:oA lG}{D:oA lH}(ok:SortOkP ds)(rd:ReadsAll s.heap b ds D)(h2:2<=ds.length)(hu:A.units+64<cLine):∃ c,(∀Q:lX->lF->Prop,Q c s->qQ prog w A (keyKind' b.toArray) Q E s)/\Fa prog w A c b s:=by
 have L:=Up rd;obtain⟨I,j,G,r⟩:=Qb rd ok.fst;refine⟨tuples' true,λQ q=>?_,λu F v hv'=>?_⟩;refine PySem.W.kat_kind (T:=.type "int") j (by omega) (λv hv=>?_) rfl q;obtain⟨i,t,rfl⟩:=r v hv;exact PySem.W.Looks.of_pure rfl
 ·obtain⟨d,a,f,o⟩:=CB rd F;obtain⟨e,he,g,h⟩:=CB rd hv';have p:=Hu ok.can _ a;have c2:=Hu ok.can _ he;have l:=ok.cmp _ a _ he;have y:=R_ (Ni _ a) ok.dp;obtain⟨O,J,rfl⟩:=ok.fst d a;obtain⟨M,N,rfl⟩:=ok.fst e he;cases o with
  |tuple n a2 x B=>
   cases h with
   |tuple f g m z=>exact⟨_,λC q=>NI (.tuple n a2 x B) (.tuple f g m z) p c2 l hu y q⟩
def Ot{E:lE->lF->Prop}{s:lF}{a:lH}{xs:oA<|lG×lH}{Q:lE->lF->Prop}(I:A.handled=none)(hu:A.units+100<cLine)(F:Fq w s.heap a xs<|Hi w)(g:∀d:oA<|lG×lH,d.Perm xs->SortOkP (d.map (·.1)))
  (h:∀(h':lN) (d':Drawn) (tk p c:Nat) (j:oA<|lG×lH),(∀b o,s.heap.get? b=some o->h'.get? b=some o)->s.heap.objs.size<=p->h'.get? p=some (seqObj "list" (j.map λx=>Value.ref x.2).toArray c)->j.Perm xs->Q (.ref p) {s with heap:=h',drawn:=d',toks:=tk}) :
  qQ prog w A (call (.builtin "sorted") [.ref a]) Q E s:=by
 obtain⟨o,N,W,t,M,L,T,C,S,O,R,V,Z⟩:=F;have Y:N.size=xs.length:=by rw[<- aT,C,B_]
 have J:xs.length<1000000:=by have:=(g xs<|.refl _).len;rwa[B_]at this
 refine Iu (Qo (show A.in1.handled=none from I) ⟨o,M,L.1,T,O⟩ R (by omega) λh1 B z ord y U hp=>?_);rw[C,aE]at hp;obtain⟨d,rfl,i⟩:=Dp hp xs (f:=λx=>Value.ref x.2) rfl;have ok:=g d i;have u:d.length<1000000:=by rw[i.length_eq];exact J
 have G:(d.map λx=>Value.ref x.2).length=(d.map (·.1)).length:=by rw[B_,B_]
 have m:∀x∈d,Cq h1 x.1 x.2:=λx hx=>(S x<|i.mem_iff.mp hx).keeps y;refine⟨by rw[B_];exact u,λh2 h' n=>?_,λus h' l c P v n e=>?_⟩;obtain⟨bs,r⟩:=J8 (h:=h') λx hx=>(m x hx).keeps n;exact U8 (s:={s with heap:=h',drawn:=B,toks:=z}) ok r (by rw[<- G];exact h2) (by show A.units+1+1+64<_;omega);obtain⟨j,rfl,D⟩:=Dp P d rfl;exact h h' B z l c j (λb o q=>n b o<|y b o q) (R_ U v) e<|D.trans i
def TOk.sortP{ds es:oA lG}(h:TOk ds)(hs:∀d∈es,d∈ds)(g:es.Nodup):SortOkP es:=by obtain⟨a,b,c⟩:=U1 λd f=>h.key d<|hs d f;have:=Gm g hs;have:=h.len;exact⟨by omega,a,by omega,λd f=>h.fst d<|hs d f,λd f e he=>h.cmp d (hs d f) e<|hs e he⟩
def OD(te:AE):AE:=λf e R=>te f e λx a=>opt (items a x) λc=>opt (dats c) λb=>TOk b/\∀(es:oA lG) (p:lH),es.Nodup->(∀d,d∈es↔d∈b)->a p=none->R (.R p) (An a p<|.lst<|es.map .D)
def CC{e:lL}{te:AE}{p M O N:Pos}(hr:Room k X.A)(hg:Gl X "sorted") (hm:X.mg "sorted" = none) (yu:Gl X "set") (ij:X.mg "set" = none) (he:VE X e te)
  (hs:starEach [.Call (.Name "set" M) [e] [] N] X.env=[(false,eval (.Call (.Name "set" M) [e] [] N) X.env)]:=by rfl) (Z:starEach [e] X.env=[(false,eval e X.env)]:=by rfl) :
  VE X (.Call (.Name "sorted" p) [.Call (.Name "set" M) [e] [] N] [] O) (OD te):=by
 intro aa s σ H Q I l;refine Ci l λτ μ R bn J h hq=>?_;refine d_<|Hl I hg hm boot_sorted<|jG ?_ hs rfl;rw[hs];refine cX<|d_<|Hl I yu ij boot_set<|dM ?_ Z rfl;rw[Z];refine cX<|cD (he.run I bn J h) (λu a uo=>ZG uo λx v μ1 H1 y rv S1 U rx h1=>dO ?_) λ_ _ e=>e;obtain⟨g,ey,h1⟩:=A5 h1;obtain⟨S,ed,ok,h1⟩:=A5 h1;have ag:=NR (fL ok.len<|by decide);obtain⟨p0,ws,rfl,hk,rs⟩:=B5 U rx ey;cases rv;have dk:=rs.dats ed;have f:X.A.handled=none:=hr.hd;have hun:=hr.un;have l2:=dk.length;have D:∀(ks:oA<|lG×lH),ks.map (·.1)=S->(∀x∈ks,Cq a.heap x.1 x.2/\Dk X.K H1 x.1 (.ref x.2))->∀(h1:lN) (tk:Nat) (xs:oA<|lG×lH),(∀b o,a.heap.get? b=some o->h1.get? b=some o)->Fq X.w h1 a.heap.objs.size xs (Hi X.w)->(xs.map (·.1)).Nodup->(∀d,d∈xs.map (·.1)↔d∈ks.map (·.1))->(∀x∈xs,x∈ks) ->
   qQ X.prog X.w X.A (call (.builtin "sorted") [.ref a.heap.objs.size]) (EP X aa σ Q) X.xe {a with heap:=h1,toks:=tk}:=λks n fc h2 tk xs G z i M2 F=>by
  rw[n]at M2;refine Ot (s:={a with heap:=h2,toks:=tk}) f (by omega) z (λg py=>ok.sortP (λd f=>(M2 d).mp<|(py.map (·.1)).mem_iff.mp f)<|(py.map (·.1)).nodup_iff.mpr i) λh3 d3 t3 q c t k2 hp j B=>?_;have lS:a.heap.objs.size<h2.objs.size:=by obtain⟨o,_,_,_,e,_⟩:=z;exact S_ e
  have f6:a.heap.objs.size<=q:=R_ (bR lS) hp;have iu:t.length<1000000:=by have:=(ok.sortP (es:=t.map (·.1)) (λd f=>(M2 d).mp<|(B.map (·.1)).mem_iff.mp f)<|(B.map (·.1)).nodup_iff.mpr i).len;rwa[B_]at this
  have hz:(t.map λx=>V.ref x.2).length<=sizeLine:=by rw[B_];exact R_ (bR iu)<|by decide
  have W:=y.hok.fresh f6;refine⟨.ref q,_,(Inv.drw y d3).laid (t':=t3) (λb o e=>k2 b o<|G b o e) f6<|show Bx X.prog X.w _ h3 _ (.lst<|t.map λx=>V.ref x.2) from⟨hz,_,c,U2 t,j⟩,rfl,?_⟩;refine hq _ _ _ _ (S1.trans<|Kp.new W _) (U.new W<|Df ?_) Fi<|h1 (t.map (·.1)) q ((B.map (·.1)).nodup_iff.mpr i) (λd=>((B.map (·.1)).mem_iff).trans<|M2 d)<|U.none W;exact(BF λx hx=>(fc x<|F x<|B.mem_iff.mp hx).2).rel
 refine Sq (s:=a) ?_;rcases hk with⟨_,hk⟩|⟨_,hk⟩;obtain⟨L,T,C,hz⟩:=y.list hk;obtain⟨ks,n,P,j⟩:=BE y S ws L dk T ok.key (λd f=>by obtain⟨_,_,e⟩:=ok.fst d f;exact⟨_,e⟩);have Y:p0<a.heap.objs.size:=by obtain⟨o,e,_⟩:=C.isList;exact S_ e
 have m:∀g:oA lG,g.Nodup->(∀d∈g,d∈ks.map (·.1))->g.length<4900:=by rw[n];exact ag
 refine BD (s:={a with heap:=a.heap.push<|Co X.w}) (show X.A.in1.in1.handled=none from f) (show X.A.units+1+1+20<cLine by omega) (by obtain⟨o,e,r⟩:=C.isList;exact⟨o,D_ _ e,r⟩) (ks:=ks) (by simpa using P) (λx hx=>(j x hx).1.keeps λb o e=>D_ _ e) m Qv (fI<|aB Y) λh2 tk xs G z i M2 F L2=>dO ?_;exact D ks n j h2 tk xs (λb o e=>G b o (aB<|S_ e)<|D_ _ e) z i M2 F;obtain⟨L,T,C,hz⟩:=y.tuple hk;obtain⟨ks,n,P,j⟩:=BE y S ws L dk T ok.key (λd f=>by obtain⟨_,_,e⟩:=ok.fst d f;exact⟨_,e⟩);have Y:p0<a.heap.objs.size:=by obtain⟨o,e,_⟩:=C;exact S_ e
 have m:∀g:oA lG,g.Nodup->(∀d∈g,d∈ks.map (·.1))->g.length<4900:=by rw[n];exact ag
 refine Xe (s:={a with heap:=a.heap.push<|Co X.w}) (show X.A.in1.in1.handled=none from f) (show X.A.units+1+1+20<cLine by omega) (Heap.IsTuple.push C _) (ks:=ks) (by simpa using P) (λx hx=>(j x hx).1.keeps λb o e=>D_ _ e) m Qv (fI<|aB Y) λh2 tk xs G z i M2 F L2=>dO ?_;exact D ks n j h2 tk xs (λb o e=>G b o (aB<|S_ e)<|D_ _ e) z i M2 F
theorem UH{K:lI}{H:Hp}:∀{ds:oA lG} {c:oA V} {b:oA lE},Ap K H ds c->Vals c b->∃a:oA<|lG×V×lE,ds=a.map (·.1)/\b=a.map (·.2.2)/\∀z∈a,Dk K H z.1 z.2.1/\Bk z.2.1 z.2.2
 |[],c,b,h,r=>by have e:=h.nil;subst e;cases r;exact⟨[],rfl,rfl,λ_ z=>nomatch z⟩
 |d::ds,c,b,h,r=>by
  obtain⟨x,j,rfl,h1,h2⟩:=Ap.cons (K:=K) (H:=H) h;cases r with
  |cons g f=>obtain⟨a,rfl,rfl,i⟩:=UH h2 f;refine⟨(d,x,_)::a,rfl,rfl,λy hy=>?_⟩;rcases Y_.mp hy with rfl|hy;exact⟨h1,g⟩;exact i y hy
theorem CD{K:lI}{H:Hp}:∀{e:oA<|lG×V×lE},(∀z∈e,Dk K H z.1 z.2.1/\Bk z.2.1 z.2.2)->Ap K H (e.map (·.1)) (e.map (·.2.1))/\Vals (e.map (·.2.1)) (e.map (·.2.2))
 |[],_=>⟨Ce,.nil⟩
 |z::e,h=>by obtain⟨a,b⟩:=CD λy hy=>h y<|.tail _ hy;obtain⟨c,d⟩:=h z<|.head _;exact⟨Bf c a,.cons d b⟩
def Q0:AC:=λd b R=>match d with
 |[.R a]=>opt (b a) λm=>match m with
  |.lst e=>opt (dats e) λc=>SortOkP c/\∀(es:oA lG) (p:lH),es.Perm c->b p=none->R (.R p) (An b p<|.lst<|es.map .D)
  |_=>False
 |_=>False
def Nq(hr:Room k X.A):VCall X (.builtin "sorted") Q0:=by
 intro aa s σ H xs V Q I r i;refine Ci i λas μ R ra hc h hq=>?_;unfold Q0 at h;split at h
 ·rename_i a;cases ra with
  |cons J U=>
  cases U;obtain⟨m,N,h⟩:=A5 h;split at h;rename_i j;obtain⟨L,O,ok,h⟩:=A5 h;obtain⟨o,T,ws,rfl,S⟩:=hc _ _ N;cases J;obtain⟨u,rfl,Y⟩:=F8 r;cases Y;obtain⟨G,y,F,hz⟩:=I.list<|Fu.of (K:=X.K) T;have dk:=S.dats O;obtain⟨bs,rd⟩:=Ap.reads I L ws G dk y;obtain⟨g,rfl,rfl,v⟩:=UH dk y;have M:=Up rd;have D:(g.map (·.2.2)).length<1000000:=by rw[M];exact ok.len
  have C:(g.map (·.2.2)).length<=sizeLine:=R_ (bR D) (by decide);have d:∀b o,s.heap.get? b=some o->((s.heap.push<|seqObj "list" #[] 0).update s.heap.objs.size<|Obj.mapSeq (·++(g.map (·.2.2)).toArray)).get? b=some o:=λb o q=>
   ((aN (s.heap.push<|seqObj "list" #[] 0) s.heap.objs.size _).2 b<|aB<|S_ q).trans (D_ _ q)
  refine Iu<|collect_list F.isList ⟨D,λh2 n t=>?_,λV n l c W hl t e=>?_⟩ C;have hu:=hr.un;exact U8 (s:={s with heap:=n,toks:=s.toks}) ok (Jm (λb o q=>t b o<|d b o q) rd) (by omega) (by show X.A.units+1+1+64<_;omega);obtain⟨j,rfl,p⟩:=Dp W g rfl;obtain⟨Z,hv⟩:=CD λz hz=>v z<|p.mem_iff.mp hz;have B:s.heap.objs.size<=l:=by refine R_ ?_ hl;rw[Heap.size_update];exact R_ (dW _)<|fM (cY _ _).symm
  have P:(j.map (·.2.1)).length<=sizeLine:=by rw[B_,p.length_eq,<- B_ (f:=(·.2.2)) (as:=g)];exact C
  have x:=I.hok.fresh B;refine⟨.ref l,_,I.laid (t':=s.toks) (λb o q=>t b o<|d b o q) B<|show Bx X.prog X.w _ n _ (.lst<|j.map (·.2.1)) from⟨P,_,c,hv,e⟩,rfl,?_⟩;exact hq _ _ _ _ (Kp.new x _) (hc.new x<|Df Z.rel) Fi<|h (j.map (·.1)) l (p.map _)<|hc.none x;exact h.elim
 exact h.elim
end
end L2
namespace L2
open PySem PySem.Spec PySem.Calls PyProof.Rows
abbrev Qds:=oA AV->M->(AV->M->Prop)->(M->Prop)->Prop
def zk(k:Int):Key×V:=(.inl k,.int 0)
def fsb(N P:oA Str)(sc:lT):Bool:=sc.kind==.function && !sc.isCoroutine && !sc.isGenerator&&decide N.Nodup&&decide (N.take P.length=P)&&P.all (λx=>sc.names.lookup x==some .local||sc.names.lookup x==some .cell)&&sc.names.all λy=>y.2 != .free
def Br{N P:oA Str}{sc:lT}(h:fsb N P sc=true):FnScope N P sc:=by unfold fsb at h;simp only[Bool.and_eq_true,Bool.not_eq_true',beq_iff_eq,decide_eq_true_iff,List.all_eq_true,Bool.or_eq_true,bne_iff_ne]at h;exact⟨h.1.1.1.1.1.1,h.1.1.1.1.1.2,h.1.1.1.1.2,h.1.1.1.2,h.1.1.2,h.1.2,h.2⟩
def vNo:AE:=λ_ _ _=>False
section
variable {X:Cx}{body suite:oA lP}{pos:Pos}{tb:AX->AS}
def UI{e:lL}:VE X e vNo:=λb s a H Q I z=>Ci z λc d R _ _ h _=>h.elim
def UJ:XA X λ_ _ _=>False:=by rintro c b H s a C d e I q R ⟨_,_,_,_,_,_,_,_,_,_,h⟩;exact h.elim
def XH(X:Cx)(d:oA<|lH×lO)(D:Ends)(hs:oA ExceptHandler):lE->lF->Prop:=λe a=>qQ X.prog X.w X.A (noteFrame e X.env) (λ_ b=>qQ X.prog X.w X.A (setFlight e none) (λ_ c=>
  qQ X.prog X.w X.A (handleBy e X.env hs) (SP X d D) X.xe c) X.xe b) X.xe a
def CF{h₀:ExceptHandler}{hs:oA ExceptHandler}{EXf:(ASt->M->Prop)->(AV->M->Prop)->(ASt->M->Prop)->(ASt->M->Prop)->AX}(hb:∀w t x,XA (X.taking w t) x->VSs (X.taking w t) body (tb x)) (A:∀d i H s D j nr l m,Inv X d i H s->LE' X.K X.H₀ j nr l m D->XA (X.taking (XH X d D<|h₀::hs)<|X.pn++d) (EXf j nr l m)):TB X (.Try body (h₀::hs) [] [] pos) λk r b c p n=>tb (EXf k r b c) k r b c p n:=by
 intro d s i H D I z;refine Hk z λp n j nr l m B hc h hq=>?_;refine wpAny_Try_except ?_;have ok:=I.ok;refine cD (hb _ (X.pn++d) _ (A d i H s D j nr l m I hq) [] s i H D I.take ⟨p,n,_,_,_,_,B,hc,h,hq.kp I.kp0⟩) (λfl y o=>?_) λe y he=>he;cases fl with
 |ret u=>obtain⟨v,a,g,f,C,q⟩:=o;exact⟨v,a,g,f.untake ok,C,q⟩
 |next=>obtain⟨a,g,f,q⟩:=o;exact iC ⟨a,g,f.untake ok,q⟩
 |_=>obtain⟨a,g,f,q⟩:=o;exact⟨a,g,f.untake ok,q⟩
def CG{h₀:ExceptHandler}{hs:oA ExceptHandler}{t:AS}(hb:∀a b,VSs (X.taking a b) body t):TB X (.Try body (h₀::hs) [] [] pos) t :=
 CF (tb:=λ_=>t) (EXf:=λ_ _ _ _ _ _ _=>False) (λa b _ _=>hb a b) λ_ _ _ _ _ _ _ _ _ _ _=>UJ
end
end L2
namespace L2
open PySem PySem.Spec PyProof.Rows
end L2
abbrev oD(a:PySem.Addr):Option L2.AV:=some<|.R a
abbrev oE(a:Int):Option L2.AV:=some<|.D<|.int a
abbrev oF(a:PySem.PyData):Option L2.AV:=some<|.D a
abbrev oG(a:List L2.AV):Option L2.MO:=some<|.lst a
abbrev oJ:List PySem.Str:=["program"]
abbrev oK:List PySem.Str:=["program","point"]
abbrev oM:List PySem.Str:=["program","answer","point"]
abbrev oN:List PySem.Str:=["_law_program_here","_law_choices","_law_left"]
abbrev oO:List PySem.Str:=["pairs"]
abbrev oP:List PySem.Str:=["groups","least"]
abbrev oQ:List PySem.Str:=["tops"]
abbrev oR:List PySem.Str:=["answer","hand"]
abbrev oS:List PySem.Str:=["program","points","answer","point"]
abbrev oU:List PySem.Str:=["pairs","least"]
abbrev oV:List PySem.Str:=["program","choices","most"]
abbrev oW:List PySem.Str:=["_law_program_here","_law_choices","_law_most"]
abbrev oX:List PySem.Str:=["_law_script"]
abbrev oY:List PySem.Str:=["_law_script","_law_base"]
abbrev oZ:List PySem.Str:=["arrows","ends","stand","pile"]
abbrev qA:List PySem.Str:=["_law_pot_here"]
abbrev qB:List PySem.Str:=["program","pile"]
abbrev qC:List PySem.Str:=["lows","bits"]
abbrev qD:List PySem.Str:=["cost","bits"]
abbrev qE:List PySem.Str:=["game","saying","most"]
abbrev qF:List PySem.Str:=["_law_pot_here","_law_many"]
abbrev qG:List PySem.Str:=["arrows","reading","letter"]
abbrev qH:List PySem.Str:=["pairs","others"]
abbrev qI:List PySem.Str:=["tops","stand","w","least"]
abbrev qJ:List PySem.Str:=["game","tops","least"]
abbrev qK:List PySem.Str:=["kept","found"]
abbrev qL:List PySem.Str:=["kept","waiting"]
abbrev qM:List PySem.Str:=["groups","least","found","group"]
abbrev qN:List PySem.Str:=["rest_cost","rest_bits","cost"]
abbrev qO:List PySem.Str:=["_law_choice","_law_program_here","_law_choices","_law_left"]
abbrev qP:List PySem.Str:=["_law_s","_law_x","_law_targets","_law_cost","_law_place"]
namespace K85
open PySem L2
def top(i:Nat):lP:=PySem.Challenge.pw_pileduel_k85_whole_programs_marked_by_th.main.body.getD i<|.Pass ⟨0,0,0,0⟩
abbrev sAb:lP:=top 5
abbrev YV:lP:=top 6
abbrev sHw:lP:=top 7
abbrev sLa:lP:=top 8
abbrev sTh:lP:=top 9
abbrev sOa:lP:=top 10
abbrev sOe:lP:=top 11
abbrev sEe:lP:=top 12
abbrev sAt:lP:=top 14
abbrev UK:lP:=top 15
abbrev YW:lP:=top 17
abbrev YX:lP:=top 18
abbrev YY:lP:=top 19
abbrev UL:lP:=top 20
abbrev sRt:lP:=top 21
abbrev UM:lP:=top 22
abbrev UN:lP:=top 23
abbrev sWo:lP:=top 26
abbrev YZ:lP:=top 27
abbrev sRp:lP:=top 28
abbrev sWe:lP:=top 29
abbrev ZA:lP:=top 34
abbrev sSf:lP:=top 35
abbrev sBf:lP:=top 36
abbrev ZB:lP:=top 37
abbrev sOh:lP:=top 38
abbrev sOp:lP:=top 39
abbrev sPf:lP:=top 40
abbrev sCr:lP:=top 41
abbrev ZC:lP:=top 42
abbrev sRe:lP:=top 44
abbrev ZD:lP:=top 45
abbrev sPo:lP:=top 47
abbrev sDr:lP:=top 48
abbrev ZE:lP:=top 49
abbrev sRu:lP:=top 50
abbrev QT:lP:=top 51
abbrev CH:lP:=top 52
section
variable {P:lJ}{w:lK}{K:lI}{mg:Str->oB lE}{base:lN}{f:lH}{fd:lQ}
def Ou(i:Int):AV:=.D<|.int i
structure PotAt(μ:M)(a l:lH)(sd nm:Int)(ns:oA Int):Prop where
 ha:μ a=oG [.D<|.int sd,.D<|.int nm,.R l]
 hl:μ l=oG (ns.map Ou)
 s0:0<=sd
 s1:sd<2147483648
 n0:0<=nm
 p0:∀n∈ns,0<=n
 ne:a≠l
def Pot(c:M)(a l:lH):Prop:=∃d b ns,PotAt c a l d b ns
def C7(a l:lH)(d c:M):Prop:=∀b m,b≠a->b≠l->d b=some m->c b=some m
def C7.refl{a l:lH}{b:M}:C7 a l b b:=λ_ _ _ _ h=>h
def C7.trans{a l:lH}{d c g:M}(h:C7 a l d c)(k:C7 a l c g):C7 a l d g:=λb m h1 h2 e=>k b m h1 h2<|h b m h1 h2 e
def C7.new{a l p:lH}{d c:M}{o:MO}(h:C7 a l d c)(e:c p=none):C7 a l d (An c p o):=λb m h1 h2 q=>by have:=h b m h1 h2 q;rw[Ag<|by intro z;subst z;rw[e]at this;cases this];exact this
def C7.put{a l p:lH}{c d:M}{o:MO}(h:C7 a l c d)(e:c p=none):C7 a l c (An d p o):=λb m h1 h2 q=>by rw[Ag<|by intro z;subst z;rw[e]at q;cases q];exact h b m h1 h2 q
def C7.a{a l:lH}{c d:M}{o:MO}(h:C7 a l c d):C7 a l c (An d a o):=λb m h1 h2 q=>by rw[Ag h1];exact h b m h1 h2 q
def C7.l{a l:lH}{c d:M}{o:MO}(h:C7 a l c d):C7 a l c (An d l o):=λb m h1 h2 q=>by rw[Ag h2];exact h b m h1 h2 q
theorem C7.none{a l p:lH}{b c:M}(h:C7 a l b c)(h1:a≠p)(h2:l≠p)(e:c p=none):b p=none:=by
 cases q:b p with
 |none=>rfl
 |some m=>rw[h p m h1.symm h2.symm q]at e;cases e
def PotAt.other{c:M}{a l p:lH}{d b:Int}{ns:oA Int}{o:MO}(h:PotAt c a l d b ns)(h1:a≠p)(h2:l≠p):PotAt (An c p o) a l d b ns :=
 ⟨by rw[Ag h1];exact h.ha,by rw[Ag h2];exact h.hl,h.s0,h.s1,h.n0,h.p0,h.ne⟩
def Pot.other{b:M}{a l p:lH}{o:MO}(h:Pot b a l)(h1:a≠p)(h2:l≠p):Pot (An b p o) a l:=by obtain⟨d,c,ns,h⟩:=h;exact⟨d,c,ns,h.other h1 h2⟩
def Pot.ne{b:M}{a l p:lH}(h:Pot b a l)(e:b p=none):a≠p/\l≠p:=by obtain⟨d,c,ns,h⟩:=h;exact⟨λz=>by(subst z;rw[h.ha]at e;cases e),λz=>by(subst z;rw[h.hl]at e;cases e)⟩
def Pot.new{b:M}{a l p:lH}{o:MO}(h:Pot b a l)(e:b p=none):Pot (An b p o) a l:=h.other (h.ne e).1 (h.ne e).2
abbrev nDr:oA Str:=["_law_pot_here","_law_many","_law_digit","_law_one"]
def OE:FnScope nDr qF (Ai sDr):=Br<|by decide +kernel
def UO:ASp:=λe d R=>∃(a l:lH) (c:Nat),e=[.R a,.D<|.int c]/\Pot d a l/\0<c/\c<1000000/\∀(v:Nat) (b:M),v<c->Pot b a l->C7 a l d b->R (.D<|.int v) b
def CI{v:Int}{a:Nat}(h0:0<=v)(h1:v<a):∃n:Nat,v=n/\n<a:=⟨v.toNat,by omega,by omega⟩
def UP{n:Nat}(F:Fun K "_law_draw" "_law_draw" sDr f fd) (u:mg "len" = none):FnOk P w K mg base Dm (n+1) f fd qF (D5 K 2 UO):=by
 refine F.vok OE λL A o s H E hr=>⟨_,(Ae (E3 aD (VW.pt<|Hr (Ax (C1 hr) (Aw Bd (vv 0) Af) Af<|nomark _)<|Fl<|Ax Ki (A8 Di rfl u bH<|Aa (Aw Bd (vv 0) Af) Ad) Af<|nomark _)<|Ah<|Fm (Dj jD jE FY (Aw Bd (vv 0) Af)<|Aa Af Ad)<|Ji (vv 0) Af)<|Ae (Bq (Ax Ki (Aw Bd (vv 0) Af) Af<|nomark _) (Ae (Am (i:=2) OE.nd rfl oH<|A9 Lb (Aw Bd (vv 0) Af)<|vv 1)<|Ae (Fm (A9 Zm (Aw Bd (vv 0) Af)<|vv 1)<|Ji (vv 0) Af)<|Ah<|Ay<|vv 2) A6)<|Ae (Am (i:=3) OE.nd rfl oH<|A9 Lb (A9 B6 (A9 Ig (Aw Bd (vv 0) Af) Af) Af) Af)<|Ae (Fm (A9 B6 (A9 Lb (A9 B6 (A9 Ig (vv 3) Af) Af) Af) Af)<|Ji (vv 0) Af)<|Ah<|Ay<|A9 Lb (A9 Zm (A9 B6 (A9 Ig (A9 Lb (A9 Ig (vv 3)<|vv 3) Af) Af)<|Aw Bd (vv 0) Af) Af)<|vv 1),?_⟩
 rintro N p R _ ⟨a,l,g,rfl,⟨d,e,ns,I⟩,O,h1,q⟩;refine Bg (λh b=>∃d e ns,h=[oD a,oE g,none,none]/\PotAt b a l d e ns/\C7 a l p b) (λM r=>?_) ?_
 ·refine G3 (λm h b=>∃d e ns,h=[oD a,oE g,none,none]/\m=ns.length/\PotAt b a l d e ns/\C7 a l p b) ns.length ⟨d,e,ns,rfl,rfl,I,C7.refl⟩ ?_;rintro m h b W ⟨d,e,ns,rfl,rfl,D,S⟩ hW;refine Ab D.ha<|Ab rfl<|ieq (λc=>?_) λc=>Eg rfl<|r _ _ ⟨d,e,ns,rfl,D,S⟩;refine Ab D.ha<|Ab rfl<|Ab D.hl<|dif (λc2=>?_) λc2=>r _ _ ⟨d,e,ns,rfl,D,S⟩;cases ns with
  |nil=>exact absurd c2 (by decide)
  |cons x ns=>
   have j:An b l (.lst<|((x::ns).map Ou).eraseIdx 0) a=oG [.D<|.int d,.D<|.int e,.R l]:=by rw[Ag D.ne];exact D.ha
   have ix:seqIndex? 0 ((x::ns).map Ou).length=some 0:=by rw[B_];unfold seqIndex?;simp
   refine Ab D.ha (Ab rfl ⟨Ab D.hl trivial,Ab D.hl ⟨⟨by decide,by decide⟩,Ab ix<|Ab rfl<|Ab j<|Ab rfl<|hW ns.length _ _ (bG _) ⟨d,x,ns,rfl,rfl,?_,S.l.a⟩⟩⟩);refine⟨Ac,by rw[Ag D.ne.symm,Ac];rfl,D.s0,D.s1,D.p0 x aK,λz hz=>D.p0 z<|aA _ hz,D.ne⟩
 rintro h b ⟨d,e,ns,rfl,D,S⟩;have t:=D.s0;have B:=D.s1;refine Ab D.ha<|Ab rfl<|dif (λc=>?_) λc=>?_;refine Ab D.ha (Ab rfl ⟨(by show(0:Int)<_;omega),Ab D.ha<|Ab rfl ⟨⟨by omega,by omega⟩,Ab D.ha<|Ab rfl ⟨_,Sub.refl,?_⟩⟩⟩);obtain⟨v,k,hv⟩:=CI (gN e<|show(g:Int)≠0 by omega) (fB e<|show 0<(g:Int) by omega);dsimp only;rw[k];exact q v _ hv ⟨d,e / g,ns,Ac,by rw[Ag D.ne.symm];exact D.hl,t,B,Int.ediv_nonneg D.n0<|by omega,D.p0,D.ne⟩ S.a;refine Ab D.ha (Ab rfl ⟨.inr ⟨by decide,by decide⟩,(by show(0:Int)<_;decide),?_⟩);dsimp only;have G:=gN (d*48271+7919) (show(2147483647:Int)≠0 by decide);have J:=fB (d*48271+7919) (show(0:Int)<2147483647 by decide);generalize (d*48271+7919)%2147483647=one at G J ⊢;refine⟨.inr ⟨by decide,by decide⟩,(by show(0:Int)<_;decide),Ab D.ha<|Ab rfl ?_⟩;dsimp only;have C:=gN (one*40692+12345) (show(2147483399:Int)≠0 by decide);have y:=fB (one*40692+12345) (show(0:Int)<2147483399 by decide);generalize (one*40692+12345)%2147483399=jd at C y ⊢;refine⟨.inl ⟨by omega,by omega⟩,(by show(0:Int)<_;decide),⟨.inr ⟨by decide,by decide⟩,Ab Ac<|Ab rfl ⟨⟨by decide,by decide⟩,(by show(0:Int)<_;omega),_,Sub.refl,?_⟩⟩⟩;dsimp only;obtain⟨v,k,hv⟩:=CI (gN ((one*one%2147483629*31+(jd+1)) / 64)<|show(g:Int)≠0 by omega) (fB ((one*one%2147483629*31+(jd+1)) / 64)<|show 0<(g:Int) by omega);rw[k];exact q v _ hv ⟨jd+1,e,ns,Ac,by rw[Ag D.ne.symm];exact D.hl,by omega,by omega,D.n0,D.p0,D.ne⟩ S.a
abbrev nPo:oA Str:=["_law_script","_law_base","_law_seed","_law_left","_law_cell"]
def CJ:FnScope nPo oY (Ai sPo):=Br<|by decide +kernel
def Mm(ns:oA Int):lG:=.list<|ns.map .int
def Xp(a:M)(ns:oA Int):items a (.D<|Mm ns)=some (ns.map Ou):=by show some ((ns.map PyData.int).map AV.D)=_;rw[aE];rfl
def CK{a:Type}(g:a->AV)(xs:oA a)(lo c:oB Int):∃b:oA a,Zg (xs.map g) lo c=b.map g/\b.length<=xs.length:=by refine⟨(xs.drop<|HT.sIx (xs.map g).length 0 lo).take<|HT.sIx (xs.map g).length (xs.map g).length c-HT.sIx (xs.map g).length 0 lo,?_,?_⟩;unfold Zg;rw[<- List.map_drop,<- List.map_take];rw[bF,gY];omega
def OF:ASp:=λe d R=>∃(ns:oA Int) (b:Nat),e=[.D<|Mm ns,.D<|.int b]/\b<1000/\ns.length<=63/\∀(a l:lH) (c:M),d a=none->d l=none->Pot c a l->Sub d c->R (.R a) c
def UQ{n:Nat}(F:Fun K "_law_pot" "_law_pot" sPo f fd):FnOk P w K mg base Dm (n+1) f fd oY (D5 K 2 OF):=by
 refine F.vok CJ λY A J s H E hr=>⟨_,(Ae (Am (i:=2) CJ.nd rfl oH<|A9 B6 (A9 Ig Af<|vv 1) Af)<|Ae (Am (i:=3) CJ.nd rfl oH<|Bu Ad)<|Ae (Ca aD rfl (Bo<|Ed (vv 0) (Ei<|vv 1)<|Ei Af) (Ak (i:=4) CJ.nd rfl oH)<|Ae (Am (i:=2) CJ.nd rfl oH<|A9 Lb (A9 B6 (A9 B6 (A9 Ig (vv 2) Af)<|A9 Lb (vv 4) Af) Af) Af)<|Ah<|Bq (Ax Qav (vv 4) (A9 SK Af Af)<|nomark _) (Ah<|Bw<|Dj bI bJ Cy (vv 3)<|Aa (vv 4) Ad) A6)<|Ah<|Ay<|Bu<|Aa (vv 2)<|Aa Af<|Aa (vv 3) Ad),?_⟩
 rintro B I R _ ⟨ns,b,rfl,hb,hn,q⟩;refine⟨.inl ⟨by decide,by decide⟩,?_⟩;intro l L;obtain⟨G,M,Z⟩:=CK Ou ns (some (b:Int))<|some 63;refine Bg (λk d=>∃(o:oB AV) (g:Int) (h:oA Int),k=[oF<|Mm ns,oE b,oE g,oD l,o]/\d l=oG (h.map Ou)/\Sub I d/\(∀z∈h,0<=z)/\0<=g/\g<2147483648) (λW' V=>?_) ?_;refine Ab (Xp _ ns) λp hp=>?_;rw[M];have r:l≠p:=by intro z;subst z;rw[Ac]at hp;cases hp
 have T:I p=none:=by rw[Ag r.symm]at hp;exact hp
 refine Ab (x:=G.map Ou) (by show(match An _ p _ p with|some (MO.lst B)=>some B|_=>none)=_;rw[Ac]) ?_;refine C9 (λi k d=>∃(o:oB AV) (g:Int) (h:oA Int),k=[oF<|Mm ns,oE b,oE g,oD l,o]/\d l=oG (h.map Ou)/\d p=oG (G.map Ou)/\Sub I d/\(∀z∈h,0<=z)/\h.length<=i/\0<=g/\g<2147483648)
  ⟨none,7919*b+104729,[],rfl,by rw[Ag r,Ac];rfl,Ac,(Sub.refl.new L).new T,(λ_ z=>nomatch z),aG _,by omega,by omega⟩ ?_ ?_ ?_
 rintro i k d ⟨o,g,h,rfl,h1,h2,_⟩;show(match d p with|some (MO.lst B)=>some B|_=>none)=_;rw[h2];rintro i y k d W hy ⟨o,g,h,rfl,h1,h2,j,t,U,v,C⟩ hW;rw[G_]at hy;obtain⟨c,hc,rfl⟩:=I_.mp hy;have hi:i<G.length:=(E_.mp hc).1;refine⟨.inr ⟨by decide,by decide⟩,(by show(0:Int)<_;decide),(by show(0:Int)<_;decide),?_⟩;dsimp only;have Q:=gN (g*48271+c%2147483629+1) (show(2147483647:Int)≠0 by decide);have X:=fB (g*48271+c%2147483629+1) (show(0:Int)<2147483647 by decide);generalize (g*48271+c%2147483629+1)%2147483647=O at Q X ⊢;refine⟨⟨by decide,by decide,by decide⟩,dif (λc2=>?_) λc2=>hW _ _ ⟨_,O,h,rfl,h1,h2,j,t,by omega,by omega,by omega⟩⟩;refine⟨Ab h1 trivial,Ab h1 ⟨by rw[B_];exact A3<|by omega,hW _ _ ⟨_,O,h++[c],rfl,?_,by rw[Ag r.symm];exact h2,?_,?_,by simp;omega,by omega,by omega⟩⟩⟩;rw[Ac,L_];rfl;intro b m e;rw[Ag<|by intro z;subst z;rw[L]at e;cases e];exact j b m e;intro z hz;rcases P_.mp hz with hz|hz;exact t z hz;rw[H_.mp hz];have:(10^(18:Int).toNat:Int)<=c:=c2;have S:(0:Int)<=10^(18:Int).toNat:=by decide
 omega;rintro k d ⟨o,g,h,rfl,h1,h2,j,t,U,v,C⟩;exact V _ _ ⟨o,g,h,rfl,h1,j,t,v,C⟩;rintro k d ⟨o,g,h,rfl,h1,j,t,v,C⟩;intro a ha;have N:a≠l:=by intro z;subst z;rw[h1]at ha;cases ha
 have u:=j.none ha;exact⟨_,Sub.refl,q a l _ u L ⟨g,0,h,Ac,by rw[Ag N.symm];exact h1,v,C,jQ 0,t,N⟩<|j.new u⟩
def Bt(ns:oA Nat):lG:=.tuple<|ns.map λ(n:Nat)=>.int n
theorem G6{a:Type} [DecidableEq a]:∀{xs ys:oA a},xs.Nodup->(∀x∈xs,x∈ys)->xs.length<=ys.length
 |[],_,_,_=>aG _
 |x::xs,ys,c,h=>by have hx:=h x aK;obtain⟨d,b⟩:=cP.mp c;have:=G6 (xs:=xs) (ys:=ys.erase x) b λz hz=>(List.mem_erase_of_ne<|by rintro rfl;exact d hz).mpr<|h z<|aA _ hz;rw[List.length_erase_of_mem hx]at this;have hp:0<ys.length:=gI hx;simp only[List.length_cons];omega
def Q3{l:Type} [DecidableEq l](k g:l)(v:AV):∀(kvs:oA<|l×AV),Cu (Fo kvs k v) g=if g=k then some v else Cu kvs g:=by
 intro kvs;unfold Fo;split
 ·rename_i h
  induction kvs with
  |nil=>simp at h
  |cons c kvs j=>
   rw[aQ];by_cases e:c.1=k;rw[T_ e];by_cases d:g=k;rw[T_ d,d,e];exact Fp;rw[M_ d];obtain⟨a,b⟩:=c;have m:a=k:=e;subst m;rw[D7<|fI d,D7<|fI d];by_cases h2:(kvs.any λc=>decide (c.1=a))=true;rw[j h2,M_ d];congr 1;refine(fV λz hz=>?_).trans<|List.map_id kvs;rw[M_]
   rfl
   intro n;exact h2<|bX.mpr ⟨z,hz,aV n⟩;rw[M_ e];obtain⟨a,b⟩:=c;have h2:(kvs.any λc=>decide (c.1=k))=true:=by rw[eD,aW e,kO]at h;exact h
   by_cases i:a=g;subst i;rw[Fp,M_ e];exact Fp.symm;rw[D7 i,D7 i,j h2]
 ·rename_i h
  induction kvs with
  |nil=>by_cases d:g=k;rw[T_ d,d];exact Fp;rw[M_ d];show Cu ((k,v)::[]) g=_;rw[D7<|fI d]
  |cons c kvs j=>
   obtain⟨a,b⟩:=c;have h1:a≠k:=by intro z;apply h;rw[eD,aV z];rfl
   have h2:¬(kvs.any λc=>decide (c.1=k))=true:=by intro z;apply h;rw[eD,z,Bool.or_true]
   show Cu ((a,b)::(kvs++[(k,v)])) g=_;by_cases i:a=g;subst i;rw[Fp,M_ h1];exact Fp.symm;rw[D7 i,j h2,D7 i]
def Dg{a:M}(ns:oA Nat):items a (.D<|Bt ns)=some (ns.map λ(n:Nat)=>.D<|.int n):=by show some ((ns.map λ(n:Nat)=>PyData.int n).map AV.D)=_;rw[aE];rfl
def Ov{ns:oA Nat}:PyData.canLayAll0 (ns.map λ(n:Nat)=>.int n)=true/\PyData.depthAll (ns.map λ(n:Nat)=>.int n)<=1:=by
 induction ns with
 |nil=>exact⟨rfl,by simp[PyData.depthAll]⟩
 |cons n ns a=>simp only[List.map_cons,PyData.canLayAll0,PyData.depthAll,a.1,Bool.and_true];refine⟨rfl,?_⟩;have:=a.2;simp only[PyData.depth];omega
def CL{a:Type}{L:oA a}{g:a->Bool}{i:Nat}{x:a}(h:L[i]?=some x):(L.take<|i+1).any g=((L.take i).any g||g x):=by rw[aM,h,List.any_append];simp
def CM{a:Type} [DecidableEq a](kvs:oA<|a×AV)(k:a)(v:AV):(Fo kvs k v).length<=kvs.length+1:=by unfold Fo;split;rw[B_];omega;rw[O_];exact J_ _
def Ch(n:Nat):AV:=.D<|.int n
def Lw(ns:oA Nat):dats (ns.map Ch)=some (ns.map λ(n:Nat)=>.int n):=by rw[show ns.map Ch=(ns.map λ(n:Nat)=>PyData.int n).map .D by rw[aE];rfl];exact B1 _
theorem Jv:∀(ns:oA Nat),A7 (ns.map λ(n:Nat)=>.int n)=true
 |[]=>rfl
 |n::ns=>by simp only[List.map_cons,A7,Cano,Jv ns,Bool.and_self]
theorem Lx:∀(a ns:oA Nat),cmpbs (a.map λ(n:Nat)=>.int n) (ns.map λ(n:Nat)=>.int n)=true
 |[],_=>by simp only[List.map_nil,cmpbs]
 |_::_,[]=>by simp only[List.map_nil,List.map_cons,cmpbs]
 |m::a,n::ns=>by simp only[List.map_cons,cmpbs,cmpb,Lx a ns,ite_self]
theorem unmap{c d:Type}{g:c->d}{B:oA c}:∀{es:oA d},(∀e∈es,e∈B.map g)->∃A:oA c,es=A.map g/\A.length=es.length/\∀a∈A,a∈B
 |[],_=>⟨[],rfl,rfl,λ_ z=>nomatch z⟩
 |e::es,h=>by obtain⟨A,rfl,j,i⟩:=unmap (es:=es) λx hx=>h x<|aA _ hx;obtain⟨a,ha,rfl⟩:=DD.mp<|h e aK;refine⟨a::A,rfl,by simp,λb hb=>?_⟩;rcases Y_.mp hb with rfl|hb;exact ha;exact i b hb
structure Arw where
 p:Nat
 x:Nat
 ts:oA Nat
 c:oB Nat
def CN(a:Arw):oA lG:=.int a.p::.int a.x::Bt a.ts::(match a.c with|none=>[]|some c=>[.int c])
def Da(a:Arw):lG:=.tuple<|CN a
def D9{b:M}(A:oA Arw):items b (.D<|.tuple<|A.map Da)=some (A.map λa=>.D<|Da a):=by show some ((A.map Da).map AV.D)=_;rw[aE];rfl
def OG{a:Arw}:atI (CN a) 2=some (Bt a.ts):=Aj (j:=2) rfl
def OH(a:Arw):(Da a).canLay0=true/\(Da a).depth<=3/\Cano (Da a)=true:=by
 obtain⟨p,x,ts,c⟩:=a;have h1:=Ov (ns:=ts);have h2:=Jv ts;cases c with
 |none=>simp only[Da,CN,Bt,PyData.canLay0,PyData.canLayAll0,PyData.depth,PyData.depthAll,Cano,A7,h1.1,h2,Bool.and_true,Bool.true_and,true_and,and_true];have:=h1.2;omega
 |some c=>simp only[Da,CN,Bt,PyData.canLay0,PyData.canLayAll0,PyData.depth,PyData.depthAll,Cano,A7,h1.1,h2,Bool.and_true,Bool.true_and,true_and,and_true];have:=h1.2;omega
def HG{a b:Arw}(h:a.c.isSome=b.c.isSome):cmpb (Da a) (Da b)=true:=by obtain⟨p,x,ts,c⟩:=a;obtain⟨g,i,d,e⟩:=b;cases c<;>cases e<;>simp at h<;>simp only[Da,CN,Bt,cmpb,cmpbs,Lx,ite_self]
theorem U9:∀(B:oA Arw),PyData.canLayAll0 (B.map Da)=true/\PyData.depthAll (B.map Da)<=3/\A7 (B.map Da)=true
 |[]=>⟨rfl,by simp[PyData.depthAll],rfl⟩
 |a::B=>by obtain⟨h1,h2,b⟩:=OH a;obtain⟨c,e,d⟩:=U9 B;simp only[List.map_cons,PyData.canLayAll0,PyData.depthAll,A7,h1,b,c,d,Bool.and_self,true_and,and_true];omega
def rd(A:oA Arw)(b:oA Nat):oA Nat->Nat->Bool
 |[],s=>decide (s∈b)
 |x::w,s=>A.any λa=>decide (a.p=s/\a.x=x)&&a.ts.all λt=>rd A b w t
def Fits(b:oA Nat)(x:Nat)(a:Arw)(s:Nat):Prop:=a.p=s/\a.x=x/\∀t∈a.ts,t∈b
def HH{A:oA Arw}{b w c:oA Nat}{x s:Nat}(h:∀t,t∈c↔rd A b w t=true):rd A b (x::w) s=true↔∃a∈A,Fits c x a s:=by rw[rd,bX];constructor;rintro⟨a,ha,e⟩;rw[a_,cH]at e;have d:=aF e.1;exact⟨a,ha,d.1,d.2,λt ht=>(h t).mpr<|e.2 t ht⟩;rintro⟨a,ha,h1,h2,g⟩;exact⟨a,ha,by rw[a_,cH];exact⟨aV ⟨h1,h2⟩,λt ht=>(h t).mp<|g t ht⟩⟩
def Xq{a:Type} [DecidableEq a](kvs:oA<|a×AV)(k:a)(v:AV):(Fo kvs k v).map (·.1)=if k∈kvs.map (·.1) then kvs.map (·.1) else kvs.map (·.1)++[k]:=by
 unfold Fo;by_cases h:k∈kvs.map (·.1);obtain⟨z,hz,e⟩:=DD.mp h;rw[T_ h,T_<|bX.mpr ⟨z,hz,aV e⟩,aE];exact fV λz _=>by show(if z.1=k then(z.1,v) else z).1=_;split<;>rfl
 rw[M_ h,M_,L_]
 rfl
 intro q;obtain⟨z,hz,e⟩:=bX.mp q;exact h<|DD.mpr ⟨z,hz,aF e⟩
def Xr{a:Type} [DecidableEq a](kvs:oA<|a×AV)(k:a):(Cu kvs k).isSome=decide (k∈kvs.map (·.1)):=by unfold Cu;rw[iO,fH,List.find?_isSome,bB,DD];exact⟨by rintro ⟨x,hx,e⟩;exact ⟨x,hx,aF e⟩,by rintro ⟨x,hx,e⟩;exact ⟨x,hx,aV e⟩⟩
def QU(n:Nat):Key:=.inl (n:Int)
def Ow{s:Nat}{ps:oA Nat}:QU s∈ps.map QU↔s∈ps:=by
 constructor;intro h;obtain⟨z,hz,e⟩:=DD.mp h;have:z=s:=by unfold QU at e;have:=iJ e;omega
 rw[<- this];exact hz;exact λh=>DD.mpr ⟨s,h,rfl⟩
def Dq(c:M)(b:lH)(ps:oA Nat):Prop:=∃a,c b=some (.dk a)/\a.map (·.1)=ps.map QU/\ps.Nodup
def Dq.has{b:M}{c:lH}{ps:oA Nat}(h:Dq b c ps):∃a,b c=some (.dk a)/\∀t:Nat,∃r,dget (.dk a) (.int (t:Nat))=some r/\r.isSome=decide (t∈ps):=by obtain⟨a,e,k,_⟩:=h;refine⟨a,e,λt=>⟨Cu a<|QU t,rfl,?_⟩⟩;rw[Xr,k];exact g_.mpr Ow
def Dq.put{i:M}{c:lH}{ps:oA Nat}(p:Nat)(h:Dq i c ps):∃a l g,i c=some (.dk a)/\a.length=ps.length/\dput (.dk a) (.int (p:Nat)) (.D<|.bool true)=some l/\(∀ d,Dq (An d c l) c g)/\g.length<=ps.length+1/\∀s,s∈g↔s∈ps\/s=p:=by
 obtain⟨a,e,k,nd⟩:=h;have b:=Xq a (QU p)<|.D<|.bool true;rw[k]at b;have j:a.length=ps.length:=by rw[<- B_ (f:=(·.1)) (as:=a),k,B_]
 by_cases hp:p∈ps;rw[T_<|Ow.mpr hp]at b;exact⟨a,_,ps,e,j,rfl,λ_=>⟨_,Ac,b,nd⟩,by omega,λs=>⟨.inl,λh=>h.elim id λz=>by rw[z];exact hp⟩⟩;rw[M_ λz=>hp<|Ow.mp z]at b;refine⟨a,_,ps++[p],e,j,rfl,λ_=>⟨_,Ac,b.trans<|by rw[L_];rfl,bL.mpr ⟨nd,cP.mpr ⟨by simp,bQ⟩,λz hz m hz' q=>?_⟩⟩,by simp,λs=>by simp⟩;have n:m=p:=by simpa using hz'
 rw[q,n]at hz;exact hp hz
abbrev nRw:oA Str:=["arrows","reading","letter","above","arrow"]
def OI:FnScope nRw qG (Ai ZD):=Br<|by decide +kernel
def UR:(["target","reading"]:oA Str).Nodup:=by decide +kernel
def US:ASp:=λi g R=>∃(A:oA Arw) (d:lH) (e:oA Nat) (x:Nat),i=[.D<|.tuple<|A.map Da,.R d,.D<|.int (x:Nat)]/\A.length<=400/\(∀a∈A,a.ts.length<=400)/\Dq g d e/\∀h c b,Dq b h c->c.length<=400->(∀s,s∈c↔∃a∈A,Fits e x a s)->Sub g b->R (.R h) b
def UT{n:Nat}(F:Fun K "reading_with" "reading_with" ZD f fd) (jh:mg "all" = none):FnOk P w K mg base Dm (n+1) f fd qG (D5 K 3 US):=by
 refine F.vok OI λam A outer s H E hr=>⟨_,(Ae (Am (i:=3) OI.nd rfl oH Ld)<|Ae (Ca aD rfl (Bo<|vv 0) (Ak (i:=4) OI.nd rfl oH)<|Ah<|Bq (VW.pt<|Hr (Ax (C1 hr) (Aw Bd (vv 4) Af) (vv 2)<|nomark _)<|Fl<|Jh<|A8 (SO rfl) rfl jh PyProof.Rows.boot_all<|Aa (Cf (N':=["target","reading"]) (mp:=[none,some 1]) rfl (Bo<|Aw Bd (vv 4) Af) (λ_ _ _ _=>(Ak (i:=0) UR rfl oH oI)) (λ_ _ _ _=>B2) (λ_ _ _ _=>(Zv (Dh hr) (vv 0)<|vv 1))<|Bc (N:=nRw) (pn:=(Ai ZD).names)<|by decide +kernel) Ad) (Ah<|Ek (Dh hr) (vv 3) (Aw Bd (vv 4) Af) Ez) A6)<|Ah<|Ay<|vv 3),?_⟩
 rintro xs Y R _ ⟨A,L,v,x,rfl,hA,kA,M,q⟩;obtain⟨rkv,er,V⟩:=M.has;intro l U;have ww:L≠l:=by rintro rfl;rw[er]at U;cases U
 refine Bg (λB k=>∃J d,B=[oF<|.tuple<|A.map Da,oD L,oE (x:Nat),oD l,J]/\Dq k l d/\d.length<=400/\(∀s,s∈d↔∃a∈A,Fits v x a s)/\Sub Y k) (λZ hZ=>?_) ?_;refine Ab (D9 A) ?_;refine C9 (λi B k=>∃J d,B=[oF<|.tuple<|A.map Da,oD L,oE (x:Nat),oD l,J]/\Dq k l d/\d.length<=i/\(∀s,s∈d↔∃a∈A.take i,Fits v x a s)/\Sub Y k) ⟨none,[],rfl,⟨[],Ac,rfl,bQ⟩,J_ _,(λs=>by simp),Sub.refl.new U⟩ (λ_ _ _ _=>D9 A) ?_ ?_;rintro i y B u Z2 hy ⟨J,d,rfl,I,T,z,S⟩ hZ2;rw[G_]at hy;obtain⟨a,ha,rfl⟩:=I_.mp hy;have hi:i<A.length:=(E_.mp ha).1;have kA1:=kA a<|N_ ha;have a9:A.take (i+1)=A.take i++[a]:=by rw[aM,ha];rfl
 have zi:=S L _ er;have bg:(∀s,¬Fits v x a s)->∀s,s∈d↔∃a∈A.take (i+1),Fits v x a s:=λhn s=>by rw[z s,a9];constructor;rintro⟨b,hb,e⟩;exact⟨b,aH _ hb,e⟩;rintro⟨b,hb,e⟩;rcases P_.mp hb with hb|hb;exact⟨b,hb,e⟩;rw[H_.mp hb]at e;exact absurd e<|hn s
 refine Ab (Aj (j:=1) rfl) (ieq (λc=>?_) λc=>Eg rfl<|hZ2 _ _ ⟨_,d,rfl,I,by omega,bg λs h=>c<|by rw[h.2.1],S⟩);refine Ab OG<|Ab (Dg a.ts) λC g=>?_;have mm:l≠C:=by rintro rfl;obtain⟨_,Q,_⟩:=I;rw[Q]at g;cases g
 have uv:L≠C:=by rintro rfl;rw[zi]at g;cases g
 refine cmap a.ts _ (λt=>.D<|.bool<|decide (t∈v)) (λB=>∃o,B=[o,oD L]) ⟨none,rfl⟩ Ac (seven<|by omega) (λ_=>Dg a.ts) ?_ ?_;rintro j t τ' acc W hj ⟨o,rfl⟩ hW;obtain⟨r,e1,e2⟩:=V t;refine Ab (x:=MO.dk rkv) (by rw[Ag uv,Ag uv];exact zi)<|Ab e1 ?_;rw[e2];exact hW _ ⟨_,rfl⟩;dsimp only[MT];have m9:Sub Y (An (An u C<|.lst []) C<|.lst<|a.ts.map λt=>.D<|.bool<|decide (t∈v)):=λb m hb=>by
  have h1:=S b m hb;have b2:b≠C:=by rintro rfl;rw[h1]at g;cases g
  rw[Ag b2,Ag b2];exact h1
 have O:Dq (An (An u C<|.lst []) C<|.lst<|a.ts.map λt=>.D<|.bool<|decide (t∈v)) l d:=by obtain⟨G,Q,r⟩:=I;exact⟨G,by rw[Ag mm,Ag mm];exact Q,r⟩
 refine TD Ac<|br (λc2=>?_) λc2=>?_;have jr:Fits v x a a.p:=⟨rfl,by omega,λt ht=>aF<|(cH.mp c2) t ht⟩;obtain⟨G,m',lu,Q,el,ep,X,hl3,hm3⟩:=O.put a.p;refine Ab (Aj (j:=0) rfl) (Ab Q<|Ab ep ⟨A3<|show G.length<=1000 by omega,hZ2 _ _ ⟨_,lu,rfl,X _,by omega,λs=>?_,λb m hb=>?_⟩⟩);rw[hm3 s,z s,a9];constructor;rintro(⟨b,hb,e⟩|rfl);exact⟨b,aH _ hb,e⟩;exact⟨a,aU _<|by simp,jr⟩;rintro⟨b,hb,e⟩;rcases P_.mp hb with hb|hb;exact .inl ⟨b,hb,e⟩;rw[H_.mp hb]at e;exact .inr e.1.symm;have b1:b≠l:=by rintro rfl;rw[U]at hb;cases hb
 rw[Ag b1];exact m9 b m hb;refine hZ2 _ _ ⟨_,d,rfl,O,by omega,bg λs h=>?_,m9⟩;have y6:(a.ts.all λt=>decide (t∈v))=false:=c2;rw[cH.mpr λt ht=>aV<|h.2.2 t ht]at y6;cases y6;rintro B u ⟨J,d,rfl,M,T,z,S⟩;rw[B_]at T z;rw[aJ]at z;exact hZ _ _ ⟨_,d,rfl,M,by omega,z,S⟩;rintro B u ⟨J,d,rfl,M,T,z,S⟩;exact⟨_,Sub.refl,q l d _ M T z S⟩
def HI{W:oA Nat}{i:Nat}{y:AV}(hy:((W.map λ(n:Nat)=>PyData.int n).map AV.D).reverse[i]?=some y):i<W.length/\∃x,W[W.length-1-i]?=some x/\y=.D (.int (x:Nat)):=by obtain⟨b,e⟩:=Oi hy;rw[B_,B_]at b e;rw[G_,G_]at e;obtain⟨d,a,rfl⟩:=I_.mp e;obtain⟨x,c,rfl⟩:=I_.mp a;exact⟨b,x,c,rfl⟩
abbrev nRe:oA Str:=["arrows","ends","stand","pile","reading","end","letter"]
def CO:FnScope nRe oZ (Ai sRe):=Br<|by decide +kernel
def OJ:ASp:=λd e R=>∃(A:oA Arw) (b:oA Nat) (s:Nat) (W:oA Nat),d=[.D<|.tuple<|A.map Da,.D<|Bt b,.D<|.int (s:Nat),.D<|Bt W]/\A.length<=400/\(∀a∈A,a.ts.length<=400)/\b.length<=400/\∀ c,Sub e c->R (.D<|.bool<|rd A b W s) c
def UU{n:Nat}(F:Fun K "reads" "reads" sRe f fd) (M:VCal P w K mg base n "reading_with" qG US) (bm:mg "reversed" = none):FnOk P w K mg base Dm (n+1) f fd oZ (D5 K 4 OJ):=by
 refine F.vok CO λam A U s H E hr=>⟨_,(Ae (Am (i:=4) CO.nd rfl oH Ld)<|Ae (Ca aD rfl (Bo<|vv 1) (Ak (i:=5) CO.nd rfl oH)<|Ah<|Ek (Dh hr) (vv 4) (vv 5) Ez)<|Ae (Ca aD rfl (NJ rfl bm<|vv 3) (Ak (i:=6) CO.nd rfl oH)<|Ah<|Am (i:=4) CO.nd rfl oH<|Al M hr rfl<|Aa (vv 0)<|Aa (vv 4)<|Aa (vv 6) Ad)<|Ah<|Ay<|Zv (Dh hr) (vv 2)<|vv 4),?_⟩
 rintro xs I R _ ⟨A,a,s,W,rfl,hA,kA,he,q⟩;intro h X;refine Bg (λg c=>∃o d,g=[oF<|.tuple<|A.map Da,oF<|Bt a,oE (s:Nat),oF<|Bt W,oD h,o,none]/\Dq c h d/\(∀t,t∈d↔t∈a)/\Sub I c) (λZ V=>?_) ?_;refine Ab (Dg a) ?_;refine C9 (λi g c=>∃o d,g=[oF<|.tuple<|A.map Da,oF<|Bt a,oE (s:Nat),oF<|Bt W,oD h,o,none]/\Dq c h d/\d.length<=i/\(∀t,t∈d↔t∈a.take i)/\Sub I c) ⟨none,[],rfl,⟨[],Ac,rfl,bQ⟩,J_ _,(λt=>by simp),Sub.refl.new X⟩ (λ_ _ _ _=>Dg a) ?_ ?_;rintro i y g G Z2 hy ⟨o,d,rfl,l,hl,j,S⟩ hZ2;rw[G_]at hy;obtain⟨e,Y,rfl⟩:=I_.mp hy;have hi:i<a.length:=(E_.mp Y).1;obtain⟨B,m',lu,T,el,ep,p,hl3,u⟩:=l.put e;refine Ab T (Ab ep ⟨A3<|show B.length<=1000 by omega,hZ2 _ _ ⟨_,lu,rfl,p _,by omega,λt=>?_,λb m hb=>?_⟩⟩);rw[u t,j t,aM,Y,P_];simp;have b1:b≠h:=by rintro rfl;rw[X]at hb;cases hb
 rw[Ag b1];exact S b m hb;rintro g G ⟨o,d,rfl,l,hl,j,S⟩;rw[B_,aJ]at j;exact V _ _ ⟨_,d,rfl,l,j,S⟩;rintro g G ⟨o,N,rfl,J,Q,S1⟩;refine Bg (λg c=>∃v h d,g=[oF<|.tuple<|A.map Da,oF<|Bt a,oE (s:Nat),oF<|Bt W,oD h,o,v]/\Dq c h d/\(∀t,t∈d↔rd A a W t=true)/\Sub I c) (λZ V=>?_) ?_;refine C9 (λi g c=>∃v h d,g=[oF<|.tuple<|A.map Da,oF<|Bt a,oE (s:Nat),oF<|Bt W,oD h,o,v]/\Dq c h d/\(∀t,t∈d↔rd A a (W.drop<|W.length-i) t=true)/\Sub I c) ⟨none,h,N,rfl,J,(λt=>by rw[Q t,Nat.sub_zero,eB];exact(bB).symm),S1⟩ (λ_ _ _ _=>trivial) ?_ ?_;rintro i y g z Z2 hy ⟨v,k,d,rfl,l,j,C⟩ hZ2;obtain⟨hi,x,ex,rfl⟩:=HI hy;have ur:W.drop (W.length-(i+1))=x::W.drop (W.length-i):=by
  obtain⟨h1,h2⟩:=E_.mp ex;have O:W.length-(i+1)=W.length-1-i:=by omega
  have L:W.length-i=W.length-1-i+1:=by omega
  rw[O,L,bM h1,h2]
 refine⟨A,k,d,x,rfl,hA,kA,l,λab ps μ3 p _ u S3=>hZ2 _ _ ⟨_,ab,ps,rfl,p,λt=>?_,λb m hb=>S3 b m<|C b m hb⟩⟩;rw[u t,ur];exact(HH j).symm;rintro g z ⟨v,k,d,rfl,l,j,C⟩;rw[kC,B_,B_,lB,iS]at j;exact V _ _ ⟨_,k,d,rfl,l,j,C⟩;rintro g z ⟨v,k,d,rfl,l,j,C⟩;obtain⟨B,T,hg⟩:=l.has;obtain⟨r,O,L⟩:=hg s;refine Ab T<|Ab O ⟨_,Sub.refl,?_⟩;rw[L,show decide (s∈d)=rd A a W s by rw[fH,bB];exact j s];exact q _ C
inductive Stp|ask (a b:Nat)|chance (a b:Nat)|set (v:Nat)|iff (a b:Nat)|call (k:Nat)|back|mark
abbrev Pt:=Nat×Nat
abbrev Prg:=oA<|oA Stp
def Stp.word:Stp->Str
 |.ask _ _=> "ask" |.chance _ _=> "chance" |.set _=> "set" |.iff _ _=> "if" |.call _=> "call" |.back=> "back" |.mark=> "mark"
def Stp.args:Stp->oA Nat
 |.ask a b=>[a,b]|.chance a b=>[a,b]|.set v=>[v]|.iff a b=>[a,b]|.call k=>[k]|.back=>[]|.mark=>[]
def A0(n:Nat):lG:=.int n
def Stp.D(s:Stp):lG:=.tuple<|.str s.word::s.args.map A0
def Fb(p:oA Stp):lG:=.tuple<|p.map Stp.D
def B0(a:Nat)(ps:Prg):lG:=.tuple [A0 a,.tuple<|ps.map Fb]
def ptD(q:Pt):lG:=.tuple [A0 q.1,A0 q.2]
def Fc(l:oA Pt):lG:=.tuple<|l.map ptD
def stepAt(ps:Prg)(q:Pt):oB Stp:=match ps[q.1]? with
 |some p=>p[q.2]?
 |none=>none
def Dd(ps:Prg)(q:Pt):lG:=match stepAt ps q with
 |some s=>.str s.word
 |none=>.none
def Bv(ps:Prg)(q:Pt):Prop:=∃p,ps[q.1]?=some p/\q.2<=p.length
def strip(ps:Prg):oA Pt->oA Pt
 |[]=>[]
 |q::r=>match stepAt ps q with
  |some _=>q::r
  |none=>strip ps r
theorem C0{ps:Prg}:∀{l:oA Pt},(∀q∈l,Bv ps q)->∀q∈strip ps l,Bv ps q
 |[],h=>h
 |q::r,h=>by unfold strip;split;exact h;exact C0 λx hx=>h x<|aA _ hx
theorem C8{ps:Prg}:∀(l:oA Pt),(strip ps l).length<=l.length
 |[]=>J_ _
 |q::r=>by unfold strip;split;exact J_ _;exact bC<|C8 r
theorem Ly{ps:Prg}:∀{l:oA Pt} {q:Pt} {r:oA Pt},strip ps l=q::r->∃s,stepAt ps q=some s
 |[],_,_,h=>by simp[strip]at h
 |x::l,q,r,h=>by unfold strip at h;split at h;rename_i s e;cases h;exact⟨s,e⟩;exact Ly h
def Iv{ps:Prg}{q:Pt}{s:Stp}(h:stepAt ps q=some s):∃p,ps[q.1]?=some p/\p[q.2]?=some s:=by unfold stepAt at h;split at h;rename_i p e;exact⟨p,e,h⟩;cases h
def goL(ps:Prg)(a:Nat)(q:Pt):oA AV:=match stepAt ps q with
 |none=>[.D<|.tuple [A0 a,.tuple []]]
 |some .back=>[.D<|.tuple [A0 a,.tuple []]]
 |some (.call k)=>[.D<|.tuple [A0 a,.tuple [ptD (k,0),ptD (q.1,q.2+1)]]]
 |some (.set v)=>[.D<|.tuple [A0 v,.tuple [ptD (q.1,q.2+1)]]]
 |some (.iff x y)=>[.D<|.tuple [A0 a,.tuple [ptD (q.1,if a=1 then x else y)]]]
 |some (.ask x y)=>[.D<|.tuple [A0 a,.tuple [ptD (q.1,x)]],.D<|.tuple [A0 a,.tuple [ptD (q.1,y)]]]
 |some (.chance x y)=>[.D<|.tuple [A0 a,.tuple [ptD (q.1,x)]],.D<|.tuple [A0 a,.tuple [ptD (q.1,y)]]]
 |some .mark=>[]
def Jb(s:Stp):PyData.canLay0 (.str s.word)=true:=by cases s<;>(show PyData.canLay0 (.str<|Str.ofString _)=true)<;>decide +kernel
def Va{s:Stp}{b:Str}{T F:Prop}(h:PyData.eqv (.str s.word) (.str b)=true)(q:T)(hb:PyData.canLay0 (.str b)=true:=by decide +kernel):Bz (.str s.word)/\Bz (.str b)/\brP (PyData.eqv (.str s.word)<|.str b) T F:=⟨Az<|Jb s,Az hb,Fk h q⟩
def Ct{s:Stp}{b:Str}{T F:Prop}(h:PyData.eqv (.str s.word) (.str b)=false)(q:F)(hb:PyData.canLay0 (.str b)=true:=by decide +kernel):Bz (.str s.word)/\Bz (.str b)/\brP (PyData.eqv (.str s.word)<|.str b) T F:=⟨Az<|Jb s,Az hb,Eg h q⟩
def Xs:PyData.eqv (.str "ask") (.str "ask")=true:=by decide +kernel
def Ox:PyData.eqv (.str "ask") (.str "chance")=false:=by decide +kernel
def Jw:PyData.eqv (.str "ask") (.str "set")=false:=by decide +kernel
def Q4:PyData.eqv (.str "ask") (.str "if")=false:=by decide +kernel
def Hv:PyData.eqv (.str "ask") (.str "call")=false:=by decide +kernel
def Lz:PyData.eqv (.str "ask") (.str "back")=false:=by decide +kernel
def Hw:PyData.eqv (.str "ask") (.str "mark")=false:=by decide +kernel
def JP:([PyData.str "ask",.str "chance"].any λe=>PyData.eqv e<|.str "ask")=true:=by decide +kernel
def Oy:PyData.eqv (.str "chance") (.str "ask")=false:=by decide +kernel
def Kk:PyData.eqv (.str "chance") (.str "chance")=true:=by decide +kernel
def Fr:PyData.eqv (.str "chance") (.str "set")=false:=by decide +kernel
def J9:PyData.eqv (.str "chance") (.str "if")=false:=by decide +kernel
def Et:PyData.eqv (.str "chance") (.str "call")=false:=by decide +kernel
def Hj:PyData.eqv (.str "chance") (.str "back")=false:=by decide +kernel
def Eu:PyData.eqv (.str "chance") (.str "mark")=false:=by decide +kernel
def Q5:([PyData.str "ask",.str "chance"].any λe=>PyData.eqv e<|.str "chance")=true:=by decide +kernel
def Oz:PyData.eqv (.str "set") (.str "chance")=false:=by decide +kernel
def Jx:PyData.eqv (.str "set") (.str "set")=true:=by decide +kernel
def CP:PyData.eqv (.str "set") (.str "if")=false:=by decide +kernel
def Hx:PyData.eqv (.str "set") (.str "call")=false:=by decide +kernel
def L0:PyData.eqv (.str "set") (.str "back")=false:=by decide +kernel
def Hy:PyData.eqv (.str "set") (.str "mark")=false:=by decide +kernel
def JQ:([PyData.str "ask",.str "chance"].any λe=>PyData.eqv e<|.str "set")=false:=by decide +kernel
def Q6:PyData.eqv (.str "if") (.str "chance")=false:=by decide +kernel
def L1:PyData.eqv (.str "if") (.str "set")=false:=by decide +kernel
def Vb:PyData.eqv (.str "if") (.str "if")=true:=by decide +kernel
def Jy:PyData.eqv (.str "if") (.str "call")=false:=by decide +kernel
def Nr:PyData.eqv (.str "if") (.str "back")=false:=by decide +kernel
def Jz:PyData.eqv (.str "if") (.str "mark")=false:=by decide +kernel
def UV:([PyData.str "ask",.str "chance"].any λe=>PyData.eqv e<|.str "if")=false:=by decide +kernel
def Mn:PyData.eqv (.str "call") (.str "chance")=false:=by decide +kernel
def L3:PyData.eqv (.str "call") (.str "set")=false:=by decide +kernel
def Xt:PyData.eqv (.str "call") (.str "if")=false:=by decide +kernel
def Gu:PyData.eqv (.str "call") (.str "call")=true:=by decide +kernel
def Ka:PyData.eqv (.str "call") (.str "back")=false:=by decide +kernel
def Gv:PyData.eqv (.str "call") (.str "mark")=false:=by decide +kernel
def CQ:([PyData.str "ask",.str "chance"].any λe=>PyData.eqv e<|.str "call")=false:=by decide +kernel
def Mo:PyData.eqv (.str "back") (.str "chance")=false:=by decide +kernel
def L4:PyData.eqv (.str "back") (.str "set")=false:=by decide +kernel
def Xu:PyData.eqv (.str "back") (.str "if")=false:=by decide +kernel
def Kc:PyData.eqv (.str "back") (.str "call")=false:=by decide +kernel
def Kd:PyData.eqv (.str "back") (.str "back")=true:=by decide +kernel
def Gw:PyData.eqv (.str "back") (.str "mark")=false:=by decide +kernel
def CS:([PyData.str "ask",.str "chance"].any λe=>PyData.eqv e<|.str "back")=false:=by decide +kernel
def Mp:PyData.eqv (.str "mark") (.str "chance")=false:=by decide +kernel
def L5:PyData.eqv (.str "mark") (.str "set")=false:=by decide +kernel
def Xv:PyData.eqv (.str "mark") (.str "if")=false:=by decide +kernel
def Ke:PyData.eqv (.str "mark") (.str "call")=false:=by decide +kernel
def Q7:PyData.eqv (.str "mark") (.str "back")=false:=by decide +kernel
def Gx:PyData.eqv (.str "mark") (.str "mark")=true:=by decide +kernel
def OK:([PyData.str "ask",.str "chance"].any λe=>PyData.eqv e<|.str "mark")=false:=by decide +kernel
abbrev nWo:oA Str:=["program","point","procedure"]
def UW:FnScope nWo oK (Ai sWo):=Br<|by decide +kernel
def Xw:ASp:=λb d R=>∃c a q,b=[.D<|B0 c a,.D<|ptD q]/\Bv a q/\R (.D<|Dd a q) d
def UX{n:Nat}(F:Fun K "word_at" "word_at" sWo f fd) (k:mg "len" = none):FnOk P w K mg base Dm (n+1) f fd oK (D5 K 2 Xw):=by
 refine F.vok UW λr A a s H E hr=>⟨_,(Ae (Am (i:=2) UW.nd rfl oH<|Aw Bd (Aw Bd (vv 0) Af)<|Aw Bd (vv 1) Af)<|Ah<|Ay<|Ec (Ax SL (Aw Bd (vv 1) Af) (A8 Di rfl k bH<|Aa (vv 2) Ad)<|nomark _) (Aw Bd (Aw Bd (vv 2)<|Aw Bd (vv 1) Af) Af) D3),?_⟩
 rintro m g R _ ⟨t,d,q,rfl,⟨p,hp,o⟩,h⟩;refine Ab rfl (Ab rfl<|Ab (Aj<|by rw[G_,hp];rfl) ?_);refine Ab rfl<|dif (λc=>?_) λc=>?_;have b:q.2<p.length:=by simpa using c
 have e:stepAt d q=some p[q.2]:=by unfold stepAt;rw[hp];exact F_ b
 unfold Dd at h;rw[e]at h;have l:atI (p.map Stp.D) (q.2:Int)=some p[q.2].D:=Aj (by rw[G_,F_ b];rfl);exact Ab rfl<|Ab l<|Ab (Aj (j:=0) rfl) ⟨g,Sub.refl,h⟩;have b:¬q.2<p.length:=by simpa using c
 have e:stepAt d q=none:=by unfold stepAt;rw[hp];exact List.getElem?_eq_none_iff.mpr<|by omega
 unfold Dd at h;rw[e]at h;exact⟨g,Sub.refl,h⟩
def L6(n m:Nat):Stp->Prop
 |.ask a b=>a<m/\b<m
 |.chance a b=>a<m/\b<m
 |.iff a b=>a<m/\b<m
 |.set v=>v<=1
 |.call k=>k<n
 |.back=>True
 |.mark=>True
def L7(ps:Prg):Prop:=∀p∈ps,∀s∈p,L6 ps.length p.length s
def Dr{ps:Prg}{q:Pt}{p:oA Stp}{x:Nat}(h:ps[q.1]?=some p)(hx:x<p.length):Bv ps (q.1,x):=⟨p,h,bR hx⟩
def G7{ps:Prg}{q:Pt}{p:oA Stp}{s:Stp}(h:ps[q.1]?=some p)(hs:p[q.2]?=some s):Bv ps (q.1,q.2+1):=⟨p,h,(E_.mp hs).1⟩
def Em{ps:Prg}{k:Nat}(h:k<ps.length):Bv ps (k,0):=⟨ps[k],F_ h,aG _⟩
def CT{ps:Prg}{q:Pt}{p:oA Stp}{s:Stp}(ok:L7 ps)(h:ps[q.1]?=some p)(hs:p[q.2]?=some s):L6 ps.length p.length s:=ok p (N_ h) s<|N_ hs
abbrev nGo:oA Str:=["program","answer","point","word","step","beneath","steps"]
def Xx:FnScope nGo oM (Ai YZ):=Br<|by decide +kernel
def UY:(["to","answer","point"]:oA Str).Nodup:=by decide +kernel
def OL:ASp:=λc b R=>∃(d:Nat) (ps:Prg) (a:Nat) (q:Pt),c=[.D<|B0 d ps,.D<|A0 a,.D<|ptD q]/\Bv ps q/\∀p,b p=none->R (.R p) (An b p<|.lst<|goL ps a q)
def UZ{n:Nat}(F:Fun K "goings_on" "goings_on" YZ f fd) (u:VCal P w K mg base n "word_at" oK Xw):FnOk P w K mg base Dm (n+1) f fd oM (D5 K 3 OL):=by
 refine F.vok Xx λB A l s H E hr=>⟨_,(Ae (Am (i:=3) Xx.nd rfl oH<|Al u hr rfl<|Aa (vv 0)<|Aa (vv 2) Ad)<|Ae (Bq (VW.pt<|Zj (Ax Ug (vv 3) D3<|nomark _)<|Sa<|Ax (C1 hr) (vv 3) Bb<|nomark _) (Ah<|Ay<|Bu<|Aa (Aq<|Aa (vv 1)<|Aa (Aq Ad) Ad) Ad) A6)<|Ae (Am (i:=4) Xx.nd rfl oH<|Aw Bd (Aw Bd (Aw Bd (vv 0) Af)<|Aw Bd (vv 2) Af)<|Aw Bd (vv 2) Af)<|Ae (Am (i:=5) Xx.nd rfl oH<|Aq<|Aa (Aw Bd (vv 2) Af)<|Aa (A9 B6 (Aw Bd (vv 2) Af) Af) Ad)<|Ae (Bq (Ax (C1 hr) (vv 3) Bb<|nomark _) (Ah<|Ay<|Bu<|Aa (Aq<|Aa (vv 1)<|Aa (Aq<|Aa (Aq<|Aa (Aw Bd (vv 4) Af)<|Aa Af Ad)<|Aa (vv 5) Ad) Ad) Ad) A6)<|Ae (Bq (Ax (C1 hr) (vv 3) Bb<|nomark _) (Ah<|Ay<|Bu<|Aa (Aq<|Aa (Aw Bd (vv 4) Af)<|Aa (Aq<|Aa (vv 5) Ad) Ad) Ad) A6)<|Ae (Am (i:=6) Xx.nd rfl oH<|Ed (vv 4) (Ei Af) G2)<|Ae (Bq (Ax (C1 hr) (vv 3) Bb<|nomark _) (Ah<|Am (i:=6) Xx.nd rfl oH<|Aq<|Aa (Ec (Ax (C1 hr) (vv 1) Af<|nomark _) (Aw Bd (vv 4) Af)<|Aw Bd (vv 4) Af) Ad) A6)<|Ah<|Ay<|Cf (N':=["to","answer","point"]) (mp:=[none,some 1,some 2]) rfl (Bo<|vv 6) (λ_ _ _ _=>(Ak (i:=0) UY rfl oH oI)) (λ_ _ _ _=>B2) (λ_ _ _ _=>(Aq<|Aa (vv 1)<|Aa (Aq<|Aa (Aq<|Aa (Aw Bd (vv 2) Af)<|Aa (vv 0) Ad) Ad) Ad))<|Bc (N:=nGo) (pn:=(Ai YZ).names)<|by decide +kernel),?_⟩
 rintro G C R _ ⟨r,g,a,q,rfl,hq,h⟩;refine⟨r,g,q,rfl,hq,?_⟩;cases e:stepAt g q with
 |none=>rw[show Dd g q=.none by unfold Dd;rw[e]];unfold goL at h;rw[e]at h;exact Fk rfl (Fk rfl λp hp=>⟨_,Sub.refl,h p hp⟩)
 |some st=>
  rw[show Dd g q=.str st.word by unfold Dd;rw[e]];unfold goL at h;rw[e]at h;obtain⟨o,t,z⟩:=Iv e;have d:atI (g.map Fb) (q.1:Int)=some (Fb o):=Aj (by rw[G_,t];rfl);have b:atI (o.map Stp.D) (q.2:Int)=some st.D:=Aj (by rw[G_,z];rfl);refine Eg rfl ?_;cases st with
  |back=>exact Va Kd λp hp=>⟨_,Sub.refl,h p hp⟩
  |call k=>refine Ct Ka<|Ab rfl<|Ab rfl<|Ab d<|Ab rfl<|Ab b<|Ab rfl<|Ab rfl ?_;exact Va Gu (Ab (Aj (j:=1) rfl) λp hp=>⟨_,Sub.refl,h p hp⟩)
  |set v=>refine Ct L0<|Ab rfl<|Ab rfl<|Ab d<|Ab rfl<|Ab b<|Ab rfl<|Ab rfl ?_;exact Ct Hx (Va Jx<|Ab (Aj (j:=1) rfl) λp hp=>⟨_,Sub.refl,h p hp⟩)
  |iff x y=>
   refine Ct Nr<|Ab rfl<|Ab rfl<|Ab d<|Ab rfl<|Ab b<|Ab rfl<|Ab rfl ?_;refine Ct Jy<|Ct L1<|Va Vb ⟨Bi _,Bi _,?_⟩;have m:PyData.eqv (.int a) (.int 1)=decide (a=1):=by show((a:Int)==1)=_;rw[fH];simp;omega
   refine br (λc=>?_) λc=>?_;dsimp only at h;rw[T_<|aF<|m ▸ c]at h;exact Ab (Aj (j:=1) rfl) (Ab rfl λp hp=>⟨rfl,Fk rfl<|Ab rfl ⟨Ac,by decide,rfl,_,Sub.refl,by rw[Bh];exact h p hp⟩⟩);dsimp only at h;rw[M_<|iF<|m ▸ c]at h;exact Ab (Aj (j:=2) rfl) (Ab rfl λp hp=>⟨rfl,Fk rfl<|Ab rfl ⟨Ac,by decide,rfl,_,Sub.refl,by rw[Bh];exact h p hp⟩⟩)
  |ask x y=>refine Ct Lz<|Ab rfl<|Ab rfl<|Ab d<|Ab rfl<|Ab b<|Ab rfl<|Ab rfl ?_;refine Ct Hv (Ct Jw<|Ct Q4<|Ab rfl λp hp=>⟨rfl,Fk rfl<|Ab rfl ⟨Ac,by decide,rfl,Fk rfl<|Ab rfl ⟨Ac,(show 1<sizeLine by decide),rfl,_,Sub.refl,?_⟩⟩⟩);rw[Bh,Bh];exact h p hp
  |chance x y=>refine Ct Hj<|Ab rfl<|Ab rfl<|Ab d<|Ab rfl<|Ab b<|Ab rfl<|Ab rfl ?_;refine Ct Et (Ct Fr<|Ct J9<|Ab rfl λp hp=>⟨rfl,Fk rfl<|Ab rfl ⟨Ac,by decide,rfl,Fk rfl<|Ab rfl ⟨Ac,(show 1<sizeLine by decide),rfl,_,Sub.refl,?_⟩⟩⟩);rw[Bh,Bh];exact h p hp
  |mark=>refine Ct Q7<|Ab rfl<|Ab rfl<|Ab d<|Ab rfl<|Ab b<|Ab rfl<|Ab rfl ?_;exact Ct Ke<|Ct L5<|Ct Xv<|Ab rfl λp hp=>⟨rfl,_,Sub.refl,h p hp⟩
def Vc(p:oA Stp):AV:=.D<|Fb p
def CU(s:Stp):AV:=.D s.D
def Tm:Bz (.tuple [.str "ask",.str "chance",.str "if"]):=⟨by decide +kernel,by simp[PyData.depth,PyData.depthAll]⟩
def VB:([PyData.str "ask",.str "chance",.str "if"].any λe=>PyData.eqv e<|.str "ask")=true:=by decide +kernel
def CV:([PyData.str "ask",.str "chance",.str "if"].any λe=>PyData.eqv e<|.str "chance")=true:=by decide +kernel
def VC:([PyData.str "ask",.str "chance",.str "if"].any λe=>PyData.eqv e<|.str "set")=false:=by decide +kernel
def Qb9:([PyData.str "ask",.str "chance",.str "if"].any λe=>PyData.eqv e<|.str "if")=true:=by decide +kernel
def OM:([PyData.str "ask",.str "chance",.str "if"].any λe=>PyData.eqv e<|.str "call")=false:=by decide +kernel
def ON:([PyData.str "ask",.str "chance",.str "if"].any λe=>PyData.eqv e<|.str "back")=false:=by decide +kernel
def OO:([PyData.str "ask",.str "chance",.str "if"].any λe=>PyData.eqv e<|.str "mark")=false:=by decide +kernel
def Tn(ps:oA<|oA Stp):dats (ps.map Vc)=some (ps.map Fb):=by rw[show ps.map Vc=(ps.map Fb).map .D by rw[aE];rfl];exact B1 _
def CW(ps:oA Stp):dats (ps.map CU)=some (ps.map Stp.D):=by rw[show ps.map CU=(ps.map Stp.D).map .D by rw[aE];rfl];exact B1 _
def To(a:Nat):Stp->Prop
 |.set v=>v<=a
 |_=>True
abbrev nPr:oA Str:=["_law_pot_here","_law_switches","_law_sizes","_law_procedures","_law_many","_law_steps","_law_at","_law_words","_law_word","_law_step"]
def J0:FnScope nPr qA (Ai ZE):=Br<|by decide +kernel
def VD:(["_law_k","_law_pot_here"]:oA Str).Nodup:=by decide +kernel
def OP:ASp:=λe d R=>∃a l,e=[.R a]/\Pot d a l/\∀(c:Nat) (ps:Prg) (b:M),L7 ps->0<ps.length->c<=1->ps.length<=2->(∀p∈ps,1<=p.length/\p.length<=3)->(∀p∈ps,∀s∈p,To c s)->Pot b a l->C7 a l d b->R (.D<|B0 c ps) b
def Nt{a:M}{p b:lH}{m:MO}(h:a b=some m)(e:a p=none):b≠p:=by intro z;subst z;rw[h]at e;cases e
def VF{n:Nat}(F:Fun K "_law_program" "_law_program" ZE f fd) (lv:VCal P w K mg base n "_law_draw" qF UO) (ai:mg "range" = none) (ah:mg "len" = none) (al:mg "tuple" = none):FnOk P w K mg base Dm (n+1) f fd qA (D5 K 1 OP):=by
 refine F.vok J0 λam A outer s H E hr=>⟨_,(Ae (Am (i:=1) J0.nd rfl oH<|Al lv hr rfl<|Aa (vv 0)<|Aa Af Ad)<|Ae (Go (i:=2) (N':=["_law_k","_law_pot_here"]) (mp:=[none,some 0]) rfl J0.nd rfl rfl (Dv rfl ai<|Aa (A9 B6 Af<|Al lv hr rfl<|Aa (vv 0)<|Aa Af Ad) Ad) (λ_ _ _ _=>(Ak (i:=0) VD rfl oH oI)) (λ_ _ _ _=>B2) (λ_ _ _ _=>(A9 B6 Af<|Al lv hr rfl<|Aa (vv 1)<|Aa Af Ad))<|Bc (N:=nPr) (pn:=(Ai ZE).names)<|by decide +kernel)<|Ae (Am (i:=3) J0.nd rfl oH<|Bu Ad)<|Ae (Ca aD rfl (Bo<|vv 2) (Ak (i:=4) J0.nd rfl oH)<|Ae (Am (i:=5) J0.nd rfl oH<|Bu Ad)<|Ae (Ca aD rfl (Dv rfl ai<|Aa (vv 4) Ad) (Ak (i:=6) J0.nd rfl oH)<|Ae (Am (i:=7) J0.nd rfl oH<|Bu<|Aa Bb<|Aa Bb<|Aa Bb<|Aa Bb<|Aa Bb<|Aa Bb<|Aa Bb<|Aa Bb<|Aa Bb Ad)<|Ae (Am (i:=8) J0.nd rfl oH<|Aw Bd (vv 7)<|Al lv hr rfl<|Aa (vv 0)<|Aa (A9 B6 Af<|A9 Ig Af<|vv 1) Ad)<|Ae (Am (i:=9) J0.nd rfl oH<|Aq<|Aa (vv 8) Ad)<|Ae (Bq (Ax (Wq hr) (vv 8) (Aq<|Aa Bb<|Aa Bb<|Aa Bb Ad)<|by with_unfolding_all rfl) (Ah<|Am (i:=9) J0.nd rfl oH<|Aq<|Aa (vv 8)<|Aa (Al lv hr rfl<|Aa (vv 0)<|Aa (vv 4) Ad)<|Aa (Al lv hr rfl<|Aa (vv 0)<|Aa (vv 4) Ad) Ad) A6)<|Ae (Bq (Ax (C1 hr) (vv 8) Bb<|nomark _) (Ah<|Am (i:=9) J0.nd rfl oH<|Aq<|Aa (vv 8)<|Aa (Al lv hr rfl<|Aa (vv 0)<|Aa (A8 Di rfl ah bH<|Aa (vv 2) Ad) Ad) Ad) A6)<|Ae (Bq (Ax (C1 hr) (vv 8) Bb<|nomark _) (Ah<|Am (i:=9) J0.nd rfl oH<|Aq<|Aa (vv 8)<|Aa (Al lv hr rfl<|Aa (vv 0)<|Aa Af Ad) Ad) A6)<|Ah<|Bw<|Dj bI bJ Cy (vv 5)<|Aa (vv 9) Ad)<|Ah<|Bw<|Dj bI bJ Cy (vv 3)<|Aa (C2 Ej rfl al cK<|Aa (vv 5) Ad) Ad)<|Ah<|Ay<|Aq<|Aa (vv 1)<|Aa (C2 Ej rfl al cK<|Aa (vv 3) Ad) Ad),?_⟩
 rintro xs μ R _ ⟨a,l,rfl,hP,q⟩;refine⟨a,l,2,rfl,hP,by decide,by decide,λJ μ1 i8 P1 S1=>?_⟩;refine Bg (λg b=>∃(u:lH) (k:oA Nat),g=[oD a,some<|Ch J,oD u,none,none,none,none,none,none,none]/\b u=oG (k.map Ch)/\a≠u/\l≠u/\0<k.length/\k.length<=2/\(∀z∈k,1<=z/\z<=3)/\Pot b a l/\C7 a l μ b) (λW' dc=>?_) ?_;refine⟨a,l,2,rfl,P1,by decide,by decide,λc μ2 hc P2 S2=>⟨by omega,by omega,λu vq=>?_⟩⟩;have be:=P2.ne vq;have ag:(Gf 0 ((1:Int)+(c:Int)).toNat).length=1+c:=by rw[Cb];omega
 refine Ht (λi Y g b=>∃(o:oB AV) (k:oA Nat),g=[o,oD a]/\Y=k.map Ch/\k.length=i/\(∀z∈k,1<=z/\z<=3)/\b u=oG Y/\Pot b a l/\C7 a l μ b) ⟨none,[],rfl,rfl,rfl,(λ_ z=>nomatch z),Ac,P2.new vq,(S1.trans S2).new vq⟩ (λ_ _ _ _ _=>trivial) ?_ ?_;rintro i x Y g b W hx ⟨o,k,rfl,rfl,iu,hz,hm,P3,S3⟩ hW;have hi:i<1+c:=by rw[<- ag];exact(E_.mp hx).1
 refine Fk rfl ⟨a,l,3,rfl,P3,by decide,by decide,λv e hv X U=>?_⟩;have hm4:=U u _ be.1.symm be.2.symm hm;refine⟨hm4,by rw[B_];exact A3<|by omega,hW _ _ _ ⟨_,k++[1+v],rfl,by rw[L_];rfl,by rw[O_,iu];rfl,?_,Ac,X.other be.1 be.2,?_⟩⟩;intro z h;rcases P_.mp h with h|h;exact hz z h;rw[H_.mp h];omega;exact(S3.trans U).put<|(S1.trans S2).none be.1 be.2 vq;rintro Y g b ⟨o,k,rfl,rfl,iu,hz,hm,P3,S3⟩;exact dc _ _ ⟨u,k,rfl,hm,be.1,be.2,by omega,by omega,hz,P3,S3⟩;rintro g μ2 ⟨u,k,rfl,hz,ha,hl,hz0,hz3,hzs,P2,S2⟩;intro S gx;have g7:=P2.ne gx;have mx:u≠S:=Nt hz gx;refine Bg (λg b=>∃(o4 o5 C B y d:oB AV) (ps:Prg),g=[oD a,some<|Ch J,oD u,oD S,o4,o5,C,B,y,d]/\b S=oG (ps.map Vc)/\ps.length=k.length/\(∀p∈ps,(1<=p.length/\p.length<=3)/\∀s∈p,L6 k.length p.length s/\To J s)/\Pot b a l/\C7 a l μ b) (λW' dc=>?_) ?_
 ·refine Ab (Av<|by rw[Ag mx];exact hz) ?_;refine C9 (λi g b=>∃(o4 o5 C B y d:oB AV) (ps:Prg),g=[oD a,some<|Ch J,oD u,oD S,o4,o5,C,B,y,d]/\b S=oG (ps.map Vc)/\ps.length=i/\(∀p∈ps,(1<=p.length/\p.length<=3)/\∀s∈p,L6 k.length p.length s/\To J s)/\b u=oG (k.map Ch)/\Pot b a l/\C7 a l μ b)
   ⟨none,none,none,none,none,none,[],rfl,Ac,rfl,(λ_ z=>nomatch z),by rw[Ag mx];exact hz,P2.new gx,S2.new gx⟩ ?_ ?_ ?_
  rintro i g b ⟨o4,o5,C,B,y,d,ps,rfl,h1,h2,h3,h4,h5,h6⟩;exact Av h4
  ·rintro i x g b W hx ⟨o4,o5,C,B,y,d,ps,rfl,h1,h2,h3,h4,h5,h6⟩ hW;rw[G_]at hx;obtain⟨z,hzi,rfl⟩:=I_.mp hx;have hi:i<k.length:=(E_.mp hzi).1;have yf:=hzs z<|N_ hzi;intro O io;have j8:=h5.ne io;have zae:u≠O:=Nt h4 io;have zad:S≠O:=Nt h1 io;refine Bg (λg r=>∃(C B y d:oB AV) (st:oA Stp),g=[oD a,some<|Ch J,oD u,oD S,some<|Ch z,oD O,C,B,y,d]/\r O=oG (st.map CU)/\st.length=z/\(∀s∈st,L6 k.length z s/\To J s)/\Pot r a l/\C7 a l b r) (λW3 hW3=>?_) ?_
   ·refine⟨by omega,by omega,?_⟩;have ag:(Gf 0 (z:Int).toNat).length=z:=by rw[Cb];omega
    refine C9 (λj g r=>∃(C B y d:oB AV) (st:oA Stp),g=[oD a,some<|Ch J,oD u,oD S,some<|Ch z,oD O,C,B,y,d]/\r O=oG (st.map CU)/\st.length=j/\(∀s∈st,L6 k.length z s/\To J s)/\Pot r a l/\C7 a l b r)
     ⟨C,B,y,d,[],rfl,Ac,rfl,(λ_ z=>nomatch z),h5.new io,C7.refl.new io⟩ (λ_ _ _ _=>trivial) ?_ ?_
    ·rintro j x g Z W4 hx ⟨C,B,y,d,st,rfl,k1,k2,k3,k4,k5⟩ hW4;have hj:j<z:=by rw[<- ag];exact(E_.mp hx).1
     intro pw uj;have ui:=k4.ne uj;have xg:O≠pw:=Nt k1 uj;have L:∀(s:Stp) (e:M) (C B y d:oB AV),L6 k.length z s/\To J s->Pot e a l->C7 a l (An Z pw<|.lst [.D<|.str "ask",.D<|.str "call",.D<|.str "chance",.D<|.str "back",.D<|.str "mark",.D<|.str "call",.D<|.str "set",.D<|.str "if",.D<|.str "set"]) e ->
       (Nd e (.R O)/\opt (e O) λm=>match m with
        |.lst ys=>ys.length<sizeLine/\W4 [oD a,some<|Ch J,oD u,oD S,some<|Ch z,oD O,C,B,y,d] (An e O<|.lst<|ys++[CU s])
        |_=>False):=by
      intro s e C B y d hs p4 s4;have g1:=s4 O _ j8.1.symm j8.2.symm (by rw[Ag xg];exact k1);refine⟨Ab g1 trivial,Ab g1 ⟨by rw[B_];exact A3<|by omega,hW4 _ _ ⟨C,B,y,d,st++[s],rfl,by rw[Ac,L_];rfl,by rw[O_,k2];rfl,?_,p4.other j8.1 j8.2,?_⟩⟩⟩;intro t ht;rcases P_.mp ht with ht|ht;exact k3 t ht;rw[H_.mp ht];exact hs;exact((k5.new uj).trans s4).put io
     refine Bg (λg e=>∃(d:oB AV) (wd:Stp),g=[oD a,some<|Ch J,oD u,oD S,some<|Ch z,oD O,some x,oD pw,oF<|.str wd.word,d]/\(∀v,wd=.set v->1<=J)/\Pot e a l/\C7 a l (An Z pw<|.lst [.D<|.str "ask",.D<|.str "call",.D<|.str "chance",.D<|.str "back",.D<|.str "mark",.D<|.str "call",.D<|.str "set",.D<|.str "if",.D<|.str "set"]) e) (λW5 V=>?_) ?_;refine⟨.inl ⟨by decide,by decide⟩,a,l,6+3*J,rfl,k4.new uj,by omega,by omega,λv T hv I G=>?_⟩;have g1:=G pw _ ui.1.symm ui.2.symm Ac;refine Ab g1 ?_;have hv9:v=0\/v=1\/v=2\/v=3\/v=4\/v=5\/v=6\/v=7\/v=8:=by omega
     rcases hv9 with rfl|rfl|rfl|rfl|rfl|rfl|rfl|rfl|rfl;exact Ab rfl<|V _ _ ⟨d,.ask 0 0,rfl,(λ_ z=>nomatch z),I,G⟩;exact Ab rfl<|V _ _ ⟨d,.call 0,rfl,(λ_ z=>nomatch z),I,G⟩;exact Ab rfl<|V _ _ ⟨d,.chance 0 0,rfl,(λ_ z=>nomatch z),I,G⟩;exact Ab rfl<|V _ _ ⟨d,.back,rfl,(λ_ z=>nomatch z),I,G⟩;exact Ab rfl<|V _ _ ⟨d,.mark,rfl,(λ_ z=>nomatch z),I,G⟩;exact Ab rfl<|V _ _ ⟨d,.call 0,rfl,(λ_ z=>nomatch z),I,G⟩;exact Ab rfl (V _ _ ⟨d,.set 0,rfl,(λ_ _=>by omega),I,G⟩);exact Ab rfl<|V _ _ ⟨d,.iff 0 0,rfl,(λ_ z=>nomatch z),I,G⟩;exact Ab rfl<|V _ _ ⟨d,.set 0,rfl,(λ_ _=>by omega),I,G⟩
     ·rintro g e ⟨d,wd,rfl,hwd,X,U⟩;cases wd with
      |ask _ _=>refine Ab rfl ⟨Az<|Jb _,Tm,Fk VB ⟨a,l,z,rfl,X,by omega,by omega,λQ T dy I G=>⟨a,l,z,rfl,I,by omega,by omega,λx2 μ6 gj P6 S6=>?_⟩⟩⟩;exact Ct Hv (Ct Jw<|L (.ask Q x2) _ _ _ _ _ ⟨⟨dy,gj⟩,trivial⟩ P6<|(U.trans G).trans S6)
      |chance _ _=>refine Ab rfl ⟨Az<|Jb _,Tm,Fk CV ⟨a,l,z,rfl,X,by omega,by omega,λQ T dy I G=>⟨a,l,z,rfl,I,by omega,by omega,λx2 μ6 gj P6 S6=>?_⟩⟩⟩;exact Ct Et (Ct Fr<|L (.chance Q x2) _ _ _ _ _ ⟨⟨dy,gj⟩,trivial⟩ P6<|(U.trans G).trans S6)
      |iff _ _=>refine Ab rfl ⟨Az<|Jb _,Tm,Fk Qb9 ⟨a,l,z,rfl,X,by omega,by omega,λQ T dy I G=>⟨a,l,z,rfl,I,by omega,by omega,λx2 μ6 gj P6 S6=>?_⟩⟩⟩;exact Ct Jy (Ct L1<|L (.iff Q x2) _ _ _ _ _ ⟨⟨dy,gj⟩,trivial⟩ P6<|(U.trans G).trans S6)
      |call _=>have ze:=k5 u _ ha.symm hl.symm h4;have gz:e u=oG (k.map Ch):=U u _ ha.symm hl.symm (by rw[Ag<|Nt ze uj];exact ze);refine Ab rfl ⟨Az<|Jb _,Tm,Eg OM<|Va Gu<|Ab gz ⟨a,l,k.length,?_,X,hz0,by omega,λQ T dy I G=>?_⟩⟩;rw[B_];exact Ct L3 (L (.call Q) _ _ _ _ _ ⟨dy,trivial⟩ I<|U.trans G)
      |set _=>refine Ab rfl ⟨Az<|Jb _,Tm,Eg VC<|Ct Hx<|Va Jx ⟨a,l,2,rfl,X,by decide,by decide,λQ T dy I G=>?_⟩⟩;exact L (.set Q) _ _ _ _ _ ⟨show Q<=1 by omega,show Q<=J by have:=hwd _ rfl;omega⟩ I (U.trans G)
      |back=>exact Ab rfl ⟨Az<|Jb _,Tm,Eg ON<|Ct Kc<|Ct L4<|L .back _ _ _ _ _ ⟨trivial,trivial⟩ X U⟩
      |mark=>exact Ab rfl ⟨Az<|Jb _,Tm,Eg OO<|Ct Ke<|Ct L5<|L .mark _ _ _ _ _ ⟨trivial,trivial⟩ X U⟩
    rintro g Z ⟨C,B,y,d,st,rfl,k1,k2,k3,k4,k5⟩;rw[ag]at k2;exact hW3 _ _ ⟨C,B,y,d,st,rfl,k1,k2,k3,k4,k5⟩
   rintro g Z ⟨C,B,y,d,st,rfl,k1,k2,k3,k4,k5⟩;have g1:=k5 S _ g7.1.symm g7.2.symm h1;refine⟨Ab g1 trivial,Ab (Av k1)<|Ab (CW st)<|Ab g1 ⟨by rw[B_];exact A3<|by omega,hW _ _ ⟨_,_,_,_,_,_,ps++[st],rfl,by rw[Ac,L_];rfl,by rw[O_,h2];rfl,?_,by rw[Ag mx];exact k5 u _ ha.symm hl.symm h4,k4.other g7.1 g7.2,?_⟩⟩⟩;intro p hp;rcases P_.mp hp with hp|hp;exact h3 p hp;rw[H_.mp hp,k2];exact⟨yf,k3⟩;exact(h6.trans k5).put<|S2.none g7.1 g7.2 gx
  rintro g b ⟨o4,o5,C,B,y,d,ps,rfl,h1,h2,h3,h4,h5,h6⟩;rw[B_]at h2;exact dc _ _ ⟨o4,o5,C,B,y,d,ps,rfl,h1,h2,h3,h5,h6⟩
 rintro g b ⟨o4,o5,C,B,y,d,ps,rfl,h1,h2,h3,h5,h6⟩;refine Ab (Av h1) (Ab (Tn ps) ⟨_,Sub.refl,q J ps _ ?_ (by omega) (by omega) (by omega) ?_ ?_ h5 h6⟩);intro p hp s hs;rw[h2];exact((h3 p hp).2 s hs).1;exact λp hp=>(h3 p hp).1;exact λp hp s hs=>((h3 p hp).2 s hs).2
def L8(q:Pt):AV:=.D<|ptD q
def Fd:Nat->Prg->oA Pt
 |_,[]=>[]
 |k,p::a=>(List.range<|p.length+1).map (λj=>(k,j))++Fd (k+1) a
def pts(ps:Prg):oA Pt:=Fd 0 ps
theorem O0:∀{k:Nat} {ps:Prg} {q:Pt},q∈Fd k ps↔∃p,k<=q.1/\ps[q.1-k]?=some p/\q.2<=p.length
 |k,[],q=>by simp[Fd]
 |k,p::ps,q=>by unfold Fd;rw[P_,DD,O0];constructor;rintro(⟨j,hj,rfl⟩|⟨a,h1,h2,b⟩);have:=aL.mp hj;exact⟨p,J_ _,by simp,by show j<=_;omega⟩;refine⟨a,by omega,?_,b⟩;rw[show q.1-k=(q.1-(k+1))+1 by omega,eK];exact h2;rintro⟨a,h1,h2,b⟩;by_cases c:q.1=k;rw[show q.1-k=0 by omega]at h2;cases h2;exact .inl ⟨q.2,aL.mpr<|by omega,by rw[<- c]⟩;rw[show q.1-k=(q.1-(k+1))+1 by omega,eK]at h2;exact .inr ⟨a,by omega,h2,b⟩
def Fw{ps:Prg}{q:Pt}:q∈pts ps↔Bv ps q:=by unfold pts Bv;rw[O0];simp
theorem Q8:∀(k:Nat) (ps:Prg) (p:oA Stp),Fd k (ps++[p])=Fd k ps++(List.range<|p.length+1).map λj=>(k+ps.length,j)
 |k,[],p=>by simp[Fd]
 |k,r::ps,p=>by rw[List.cons_append,Fd,Fd,Q8 (k+1) ps p,eL,aS,show k+1+ps.length=k+(ps.length+1) by omega]
theorem Nu:∀(k:Nat) (ps:Prg),(Fd k ps).Nodup
 |_,[]=>bQ
 |k,p::ps=>by unfold Fd;rw[bL];refine⟨?_,Nu (k+1) ps,?_⟩;exact gU.mpr<|kX.imp λh e=>h (Prod.mk.inj e).2;intro a ha b hb e;obtain⟨j,_,rfl⟩:=DD.mp ha;obtain⟨c,h,_⟩:=O0.mp hb;rw[<- e]at h;exact absurd h<|by show ¬k+1<=k;omega
theorem O1:∀(k:Nat) (ps:Prg),(∀p∈ps,p.length<=4)->(Fd k ps).length<=5*ps.length
 |_,[],_=>by simp[Fd]
 |k,p::ps,h=>by have h1:=h p<|.head _;have h2:=O1 (k+1) ps λr hr=>h r<|.tail _ hr;unfold Fd;rw[O_,B_,bE,aS];omega
def ix(ps:Prg)(q:Pt):Nat:=(pts ps).idxOf q
def VH{ps:Prg}{N:Nat}{q:Pt}(h:(pts ps)[N]?=some q):ix ps q=N:=by obtain⟨a,e⟩:=E_.mp h;unfold ix;rw[<- e];exact(Nu 0 ps).idxOf_getElem N a
def O2{ps:Prg}{q:Pt}(h:q∈pts ps):(pts ps)[ix ps q]?=some q:=by have a:=iB.mpr h;unfold ix;rw[F_ a,List.getElem_idxOf a]
def OQ(a b:Pt):PyData.eqv (ptD a) (ptD b)=decide (a=b):=by rw[Uv (by simp[ptD,A0,Cano,A7])<|by simp[ptD,A0,Cano,A7]];rw[fH,bB,bB];constructor;intro h;unfold ptD A0 at h;simp only[PyData.tuple.injEq,List.cons.injEq,PyData.int.injEq,and_true]at h;exact kI (by omega) (by omega);rintro rfl;rfl
theorem Vd:∀{l:oA Pt} {q:Pt},q∈l->(l.map ptD).findIdx? (λe=>PyData.eqv e<|ptD q)=some (l.idxOf q)
 |[],_,h=>nomatch h
 |a::l,q,h=>by
  rw[aQ,List.findIdx?_cons,OQ,List.idxOf_cons];by_cases c:a=q;subst c;simp;have hq:q∈l:=by rcases Y_.mp h with z|z;exact absurd z.symm c;exact z
  rw[Vd hq,show(a==q)=false from beq_false_of_ne c];simp[c]
def CY(l:oA Pt):PyData.canLayAll0 (l.map ptD)=true/\PyData.depthAll (l.map ptD)<=2:=by
 induction l with
 |nil=>exact⟨rfl,by decide⟩
 |cons q l a=>
  have h1:(ptD q).canLay0=true:=rfl;have h2:(ptD q).depth<=2:=by simp[ptD,A0,PyData.depth,PyData.depthAll]
  refine⟨by simp[PyData.canLayAll0,h1,a.1],?_⟩;have:=a.2;simp only[List.map_cons,PyData.depthAll];omega
def L9(l:oA Pt):Bz (.tuple<|l.map ptD):=⟨(CY l).1,by have:=(CY l).2;simp only[PyData.depth];omega⟩
def O3(q:Pt):Bz (ptD q):=⟨rfl,by simp[ptD,A0,PyData.depth,PyData.depthAll]⟩
def Ku(l:oA Pt):dats (l.map L8)=some (l.map ptD):=by rw[show l.map L8=(l.map ptD).map .D by rw[aE];rfl];exact B1 _
def O4{ps:Prg}{q:Pt}(hq:Bv ps q):((pts ps).map ptD).findIdx? (λe=>PyData.eqv e<|ptD q)=some (ix ps q):=Vd<|Fw.mpr hq
theorem Ve:∀(n k:Nat),Gf (k:Int) n=(List.range' k n).map Ch
 | 0,k=>rfl
 |n+1,k=>by
  rw[List.range'_succ,aQ,<- Ve n (k+1)]
  rfl
def CZ(n:Nat):Gf 0 n=(List.range n).map Ch:=by rw[List.range_eq_range'];exact Ve n 0
def HJ{a b:lG}{i j:Nat}{τ:ASt}{c:M}{R:ASt->M->Prop}(h:R ((τ.set i<|oF a).set j<|oF b) c):E1 (D1 i) (E1 (D1 j) Px) (List.map AV.D [a,b]) τ c R:=h
def OR{ps:Prg}{i:Nat}{x:AV}(h:(E6 0<|ps.map Fb)[i]?=some x):∃p,ps[i]?=some p/\x=.D (.tuple [.int i,Fb p]):=by obtain⟨d,a,rfl⟩:=E7 h;rw[G_]at a;obtain⟨p,hp,rfl⟩:=I_.mp a;exact⟨p,hp,by rw[eY]⟩
structure PgOk(sw:Nat)(ps:Prg):Prop where
 ok:L7 ps
 n0:0<ps.length
 n3:ps.length<=3
 l:∀p∈ps,1<=p.length/\p.length<=4
 sw:sw<=1
def PgOk.len{a:Nat}{ps:Prg}(h:PgOk a ps):(pts ps).length<=15:=by have:=O1 0 ps λp hp=>(h.l p hp).2;have:=h.n3;unfold pts;omega
abbrev nAp:oA Str:=["program","points","number","procedure"]
def HK:FnScope nAp oJ (Ai ZB):=Br<|by decide +kernel
def VJ:(["step","number"]:oA Str).Nodup:=by decide +kernel
def OS:ASp:=λd b R=>∃(c:Nat) (ps:Prg),d=[.D<|B0 c ps]/\PgOk c ps/\∀p a,b p=none->a p=oG ((pts ps).map L8)->Sub b a->R (.R p) a
def VL{n:Nat}(F:Fun K "all_points" "all_points" ZB f fd) (T:mg "enumerate" = none) (U:mg "range" = none) (M:mg "len" = none):FnOk P w K mg base Dm (n+1) f fd oJ (D5 K 1 OS):=by
 refine F.vok HK λY A z s H E hr=>⟨_,(Ae (Am (i:=1) HK.nd rfl oH<|Bu Ad)<|Ae (Ca aD rfl (Ul rfl T<|Aw Bd (vv 0) Af) (Cz (n:=2) rfl<|Ao (Ak (i:=2) HK.nd rfl oI)<|Ao (Ak (i:=3) HK.nd rfl oH) Bs)<|Ah<|Bw<|Dj eE eF Ge (vv 1)<|Aa (Cf (N':=["step","number"]) (mp:=[none,some 2]) rfl (Dv rfl U<|Aa (A9 B6 (A8 Di rfl M bH<|Aa (vv 3) Ad) Af) Ad) (λ_ _ _ _=>(Ak (i:=0) VJ rfl oH oI)) (λ_ _ _ _=>B2) (λ_ _ _ _=>(Aq<|Aa (vv 1)<|Aa (vv 0) Ad))<|Bc (N:=nAp) (pn:=(Ai ZB).names)<|by decide +kernel) Ad)<|Ah<|Ay<|vv 1),?_⟩
 rintro xs J R _ ⟨C,b,rfl,v,q⟩;intro p hp;refine Bg (λe a=>∃k m,e=[oF<|B0 C b,oD p,k,m]/\a p=oG ((pts b).map L8)/\Sub J a) (λZ X=>?_) ?_;refine Ab (Aj (j:=1) rfl)<|Ab rfl<|Ab (B1 _) ?_;refine C9 (λi e a=>∃k m,e=[oF<|B0 C b,oD p,k,m]/\a p=oG ((Fd 0<|b.take i).map L8)/\Sub J a) ⟨none,none,rfl,Ac,Sub.refl.new hp⟩ (λ_ _ _ _=>rfl) ?_ ?_;rintro i y e h Z2 hy ⟨k,m,rfl,d,g⟩ hZ2;obtain⟨c,B,rfl⟩:=OR hy;have hi:i<b.length:=(E_.mp B).1;have S:b.take (i+1)=b.take i++[c]:=by rw[aM,B];rfl
 have Q:=(v.l c<|N_ B).2;have G:(b.take i).length=i:=by rw[bF];omega
 refine⟨rfl,HJ ?_⟩;dsimp only[List.set];have t:(c.map Stp.D).length=c.length:=B_ _;have hb:=O1 0 (b.take i) λp hp=>(v.l p<|dL hp).2;rw[G]at hb;have y7:=v.n3;refine⟨Ab d trivial,⟨by rw[t];omega,by rw[t];omega,λu r=>?_⟩⟩;have I:p≠u:=by rintro rfl;rw[d]at r;cases r
 rw[t,show((c.length:Int)+1).toNat=c.length+1 by omega,CZ];refine cmap (List.range<|c.length+1) Ch (λj=>L8 (i,j)) (λe=>∃o,e=[o,oE i]) ⟨none,rfl⟩ Ac (seven<|by rw[bE];omega) (λ_=>trivial) ?_ ?_;rintro j x V L W hj ⟨o,rfl⟩ hW;exact hW _ ⟨_,rfl⟩;have O:An (An h u<|.lst []) u (.lst<|(List.range<|c.length+1).map λj=>L8 (i,j)) p=oG ((Fd 0<|b.take i).map L8):=by rw[Ag I,Ag I];exact d
 refine Ab O (Ab Ac ⟨seven<|by rw[B_,B_,bE];omega,hZ2 _ _ ⟨_,_,rfl,?_,((g.new<|g.none r).new<|g.none r).new hp⟩⟩);rw[Ac,S,Q8,G,eY,L_,aE];rfl;rintro e h ⟨k,m,rfl,d,g⟩;rw[Ck,B_,aJ]at d;exact X _ _ ⟨_,_,rfl,d,g⟩;rintro e h ⟨k,m,rfl,d,g⟩;exact⟨_,Sub.refl,q p _ hp d g⟩
def hdP(ps:Prg)(q:Pt):Nat:=match stepAt ps q with
 |some (.chance _ _)=>1
 |_=>0
def Dy(ps:Prg)(q:Pt):hdP ps q<=1:=by unfold hdP;split<;>decide
abbrev nOh:oA Str:=oK
def Qca:FnScope nOh oK (Ai sOh):=Br<|by decide +kernel
def OT:ASp:=λa b R=>∃(c:Nat) (ps:Prg) (q:Pt),a=[.D<|B0 c ps,.D<|ptD q]/\Bv ps q/\R (.D<|.int (hdP ps q:Nat)) b
def Mq:PyData.eqv .none (.str "chance")=false:=rfl
def Q9:PyData.eqv .none (.str "mark")=false:=rfl
def Nv:Bz (.str "chance"):=Az<|by decide +kernel
def HL:Bz (.str "mark"):=Az<|by decide +kernel
def VM{n:Nat}{i m:Tok}(F:Fun K "own_hand" "own_hand" sOh f fd) (j:VCal P w K mg base n "word_at" oK Xw) (d:mg "OTHER_HAND" = some (.int 1 i)) (l:mg "FIRST_HAND" = some (.int 0 m)):FnOk P w K mg base Dm (n+1) f fd oK (D5 K 2 OT):=by
 refine F.vok Qca λo A c s H E hr=>⟨_,(Ah<|Ay<|Ec (Ax (C1 hr) (Al j hr rfl<|Aa (vv 0)<|Aa (vv 1) Ad) Bb<|nomark _) (Eh rfl d (v:=.int 1) ⟨_,rfl⟩ λ_=>B9)<|Eh rfl l (v:=.int 0) ⟨_,rfl⟩ λ_=>B9),?_⟩;rintro p a R _ ⟨g,b,q,rfl,hq,h⟩;refine⟨g,b,q,rfl,hq,?_⟩;unfold hdP at h;cases e:stepAt b q with
 |none=>rw[show Dd b q=.none by unfold Dd;rw[e]];rw[e]at h;exact⟨Jk,Nv,Eg Mq ⟨a,Sub.refl,h⟩⟩
 |some st=>
  rw[show Dd b q=.str st.word by unfold Dd;rw[e]];rw[e]at h;cases st with
  |ask x y=>exact Ct Ox ⟨a,Sub.refl,h⟩
  |chance x y=>exact Va Kk ⟨a,Sub.refl,h⟩
  |set v=>exact Ct Oz ⟨a,Sub.refl,h⟩
  |iff x y=>exact Ct Q6 ⟨a,Sub.refl,h⟩
  |call k=>exact Ct Mn ⟨a,Sub.refl,h⟩
  |back=>exact Ct Mo ⟨a,Sub.refl,h⟩
  |mark=>exact Ct Mp ⟨a,Sub.refl,h⟩
abbrev nPf:oA Str:=oR
def Qcb:FnScope nPf oR (Ai sPf):=Br<|by decide +kernel
def HM:ASp:=λb c R=>∃(a h:Int),b=[.D<|.int a,.D<|.int h]/\R (.D<|.int<|2*a+h) c
def VN{n:Nat}(F:Fun K "place_of" "place_of" sPf f fd):FnOk P w K mg base Dm (n+1) f fd oR (D5 K 2 HM):=by refine F.vok Qcb λe A b s H E hr=>⟨_,(Ah<|Ay<|A9 B6 (A9 Ig Af<|vv 0)<|vv 1),?_⟩;rintro d c R _ ⟨a,h,rfl,q⟩;exact⟨.inl ⟨by decide,by decide⟩,⟨c,Sub.refl,q⟩⟩
abbrev nOp:oA Str:=oM
def Qcc:FnScope nOp oM (Ai sOp):=Br<|by decide +kernel
def HN:ASp:=λb c R=>∃(d:Nat) (ps:Prg) (a:Nat) (q:Pt),b=[.D<|B0 d ps,.D<|.int a,.D<|ptD q]/\Bv ps q/\R (.D<|.int (2*a+hdP ps q:Nat)) c
def VP{n:Nat}(F:Fun K "own_place" "own_place" sOp f fd) (d:VCal P w K mg base n "own_hand" oK OT) (g:VCal P w K mg base n "place_of" oR HM):FnOk P w K mg base Dm (n+1) f fd oM (D5 K 3 HN):=by refine F.vok Qcc λk A b s H E hr=>⟨_,(Ah<|Ay<|Al g hr rfl<|Aa (vv 1)<|Aa (Al d hr rfl<|Aa (vv 0)<|Aa (vv 2) Ad) Ad),?_⟩;rintro j i R _ ⟨e,c,a,q,rfl,hq,h⟩;refine⟨e,c,q,rfl,hq,a,hdP c q,rfl,i,Sub.refl,?_⟩;exact h
structure Rul where
 p:Nat
 n:Nat
 g:Nat
 w:oA Nat
def Fs(r:Rul):lG:=.tuple [.int r.p,.int r.n,.int r.g,Bt r.w]
def Kl(r:Rul):AV:=.D<|Fs r
def DA(l:oA Rul):dats (l.map Kl)=some (l.map Fs):=by rw[show l.map Kl=(l.map Fs).map .D by rw[aE];rfl];exact B1 _
def OU(r:Rul):(Fs r).canLay0=true/\(Fs r).depth<=3/\Cano (Fs r)=true:=by obtain⟨p,n,g,w⟩:=r;have h1:=Ov (ns:=w);have h2:=Jv w;simp only[Fs,Bt,PyData.canLay0,PyData.canLayAll0,PyData.depth,PyData.depthAll,Cano,A7,h1.1,h2,Bool.and_true,Bool.true_and,true_and,and_true];have:=h1.2;omega
def HP(a b:Rul):cmpb (Fs a) (Fs b)=true:=by obtain⟨p,n,g,w⟩:=a;obtain⟨c,d,e,h⟩:=b;simp only[Fs,Bt,cmpb,cmpbs,Lx,ite_self]
def HQ{l:oA Rul}(h:l.length<=200):TOk (l.map Fs):=by refine⟨by rw[B_];omega,λd c=>?_,λd c=>?_,λd c e he=>?_⟩;obtain⟨a,ha,rfl⟩:=DD.mp c;obtain⟨h1,h2,g⟩:=OU a;exact⟨g,h1,by omega⟩;obtain⟨a,ha,rfl⟩:=DD.mp c;exact⟨a.p,_,rfl⟩;obtain⟨a,ha,rfl⟩:=DD.mp c;obtain⟨b,hb,rfl⟩:=DD.mp he;exact HP a b
def crs(ps:Prg)(a:Nat)(q:Pt):Rul:=⟨2*a+(1-hdP ps q),ix ps q,2*a+hdP ps q,[ix ps q]⟩
def Fx(ps:Prg)(a:Nat)(q:Pt):oA (Nat×oA Pt):=match stepAt ps q with
 |none=>[(a,[])]
 |some .back=>[(a,[])]
 |some (.call k)=>[(a,[(k,0),(q.1,q.2+1)])]
 |some (.set v)=>[(v,[(q.1,q.2+1)])]
 |some (.iff x y)=>[(a,[(q.1,if a=1 then x else y)])]
 |some (.ask x y)=>[(a,[(q.1,x)]),(a,[(q.1,y)])]
 |some (.chance x y)=>[(a,[(q.1,x)]),(a,[(q.1,y)])]
 |some .mark=>[]
def goA(x:Nat×oA Pt):AV:=.D<|.tuple [A0 x.1,Fc x.2]
def OV(ps:Prg)(a:Nat)(q:Pt):goL ps a q=(Fx ps a q).map goA:=by
 unfold goL Fx;cases stepAt ps q with
 |none=>rfl
 |some st=>cases st<;>rfl
def J1{ps:Prg}{a:Nat}{q:Pt}(ok:L7 ps)(hq:Bv ps q):(Fx ps a q).length<=2/\∀x∈Fx ps a q,x.2.length<=2/\∀r∈x.2,Bv ps r:=by
 have one:∀(b:Nat) (r:Pt),Bv ps r->∀x∈[(b,[r])],x.2.length<=2/\∀r∈x.2,Bv ps r:=λb r hr x hx=>by rw[H_.mp hx];exact⟨by show 1<=2;decide,λl j=>by rw[H_.mp j];exact hr⟩
 have i:∀(b:Nat) (r d:Pt),Bv ps r->Bv ps d->∀x∈[(b,[r]),(b,[d])],x.2.length<=2/\∀r∈x.2,Bv ps r:=λb r d h1 h2 x hx=>by rcases Y_.mp hx with rfl|hx;exact one b r h1 _<|.head _;exact one b d h2 x hx
 have nil:∀x∈[(a,([]:oA Pt))],x.2.length<=2/\∀r∈x.2,Bv ps r:=λx hx=>by rw[H_.mp hx];exact⟨by show 0<=2;decide,λ_ z=>nomatch z⟩
 unfold Fx;cases e:stepAt ps q with
 |none=>exact⟨by show 1<=2;decide,nil⟩
 |some st=>
  obtain⟨p,c,g⟩:=Iv e;have h:=CT ok c g;cases st with
  |back=>exact⟨by show 1<=2;decide,nil⟩
  |call k=>refine⟨by show 1<=2;decide,λx hx=>?_⟩;rw[H_.mp hx];refine⟨by show 2<=2;decide,λr hr=>?_⟩;rcases Y_.mp hr with rfl|hr;exact Em h;rw[H_.mp hr];exact G7 c g
  |set v=>exact⟨by show 1<=2;decide,one _ _<|G7 c g⟩
  |iff x y=>exact⟨by show 1<=2;decide,one _ _ (by split<;>first|exact Dr c h.1|exact Dr c h.2)⟩
  |ask x y=>exact⟨by show 2<=2;decide,i _ _ _ (Dr c h.1)<|Dr c h.2⟩
  |chance x y=>exact⟨by show 2<=2;decide,i _ _ _ (Dr c h.1)<|Dr c h.2⟩
  |mark=>exact⟨by show 0<=2;decide,λ_ z=>nomatch z⟩
def HR(ps:Prg):oA Pt->Nat
 |[]=>0
 |r::_=>hdP ps r
def Ma(ps:Prg)(a:Nat)(q:Pt)(x:Nat×oA Pt):Rul:=⟨2*a+hdP ps q,ix ps q,2*x.1+HR ps x.2,x.2.map<|ix ps⟩
def owns(ps:Prg)(a:Nat)(q:Pt):oA Rul:=(Fx ps a q).map<|Ma ps a q
abbrev nCr:oA Str:=["program","points","answer","point","own","number"]
def OW:FnScope nCr oS (Ai sCr):=Br<|by decide +kernel
def VQ:ASp:=λd b R=>∃(e:Nat) (ps:Prg) (c:lH) (a:Nat) (q:Pt),d=[.D<|B0 e ps,.R c,.D<|.int a,.D<|ptD q]/\b c=oG ((pts ps).map L8)/\Bv ps q/\R (Kl<|crs ps a q) b
def VR{n:Nat}(F:Fun K "crossing_rule" "crossing_rule" sCr f fd) (d:VCal P w K mg base n "own_hand" oK OT) (c:VCal P w K mg base n "place_of" oR HM):FnOk P w K mg base Dm (n+1) f fd oS (D5 K 4 VQ):=by
 refine F.vok OW λl A b s H E hr=>⟨_,(Ae (Am (i:=4) OW.nd rfl oH<|Al d hr rfl<|Aa (vv 0)<|Aa (vv 3) Ad)<|Ae (Am (i:=5) OW.nd rfl oH<|Dj gA iL (Om hr) (vv 1)<|Aa (vv 3) Ad)<|Ah<|Ay<|Aq<|Aa (Al c hr rfl<|Aa (vv 2)<|Aa (A9 JC Af<|vv 4) Ad)<|Aa (vv 5)<|Aa (Al c hr rfl<|Aa (vv 2)<|Aa (vv 4) Ad)<|Aa (Aq<|Aa (vv 5) Ad) Ad),?_⟩
 rintro k j R _ ⟨g,ps,m,a,q,rfl,hp,hq,h⟩;have o:=Dy ps q;refine B3 ⟨g,ps,q,rfl,hq,?_⟩;refine B3 ⟨Ab hp trivial,Ab rfl<|Ab hp<|Ab (Ku _) ⟨O3 q,L9 _,Ab (O4 hq) ?_⟩⟩;refine⟨a,1-(hdP ps q:Int),rfl,a,hdP ps q,rfl,?_⟩;refine⟨j,Sub.refl,?_⟩;have e:(2*(a:Int)+(1-(hdP ps q:Int)))=((2*a+(1-hdP ps q):Nat):Int):=by omega
 rw[e];exact h
abbrev nOr:oA Str:=["program","points","answer","point","own","rules","further","put","place"]
def Xy:FnScope nOr oS (Ai ZC):=Br<|by decide +kernel
def VU:(["one","points"]:oA Str).Nodup:=by decide +kernel
def VV:ASp:=λe c R=>∃(g:Nat) (ps:Prg) (d:lH) (a:Nat) (q:Pt),e=[.D<|B0 g ps,.R d,.D<|.int a,.D<|ptD q]/\L7 ps/\c d=oG ((pts ps).map L8)/\Bv ps q/\∀p b,c p=none->b p=oG ((owns ps a q).map Kl)->Sub c b->R (.R p) b
def Mb{a:M}(l:oA Pt):items a (.D<|Fc l)=some (l.map L8):=by show some ((l.map ptD).map AV.D)=_;rw[aE];rfl
def VX{n:Nat}{t2:Tok}(F:Fun K "own_rules" "own_rules" ZC f fd) (wc:VCal P w K mg base n "goings_on" oM OL) (n8:VCal P w K mg base n "own_place" oM HN) (nu:VCal P w K mg base n "place_of" oR HM) (ah:mg "len" = none) (al:mg "tuple" = none) (og:mg "FIRST_HAND" = some (.int 0 t2)):FnOk P w K mg base Dm (n+1) f fd oS (D5 K 4 VV):=by
 refine F.vok Xy λam A Y s H E hr=>⟨_,(Ae (Am (i:=4) Xy.nd rfl oH<|Al n8 hr rfl<|Aa (vv 0)<|Aa (vv 2)<|Aa (vv 3) Ad)<|Ae (Am (i:=5) Xy.nd rfl oH<|Bu Ad)<|Ae (Ca aD rfl (Bo<|Al wc hr rfl<|Aa (vv 0)<|Aa (vv 2)<|Aa (vv 3) Ad) (Cz (n:=2) rfl<|Ao (Ak (i:=6) Xy.nd rfl oH)<|Ao (Ak (i:=7) Xy.nd rfl oH) Bs)<|Ae (Am (i:=8) Xy.nd rfl oH<|Ec (Ax Ki (A8 Di rfl ah bH<|Aa (vv 7) Ad) Af<|nomark _) (Al n8 hr rfl<|Aa (vv 0)<|Aa (vv 6)<|Aa (Aw Bd (vv 7) Af) Ad)<|Al nu hr rfl<|Aa (vv 6)<|Aa (Eh rfl og (v:=.int 0) ⟨_,rfl⟩ λ_=>B9) Ad)<|Ah<|Bw<|Dj bI bJ Cy (vv 5)<|Aa (Aq<|Aa (vv 4)<|Aa (Dj gA iL (Om hr) (vv 1)<|Aa (vv 3) Ad)<|Aa (vv 8)<|Aa (C2 Ej rfl al cK<|Aa (Cf (N':=["one","points"]) (mp:=[none,some 1]) rfl (Bo<|vv 7) (λ_ _ _ _=>(Ak (i:=0) VU rfl oH oI)) (λ_ _ _ _=>B2) (λ_ _ _ _=>(Dj gA iL (Om hr) (vv 1)<|Aa (vv 0) Ad))<|Bc (N:=nOr) (pn:=(Ai ZC).names)<|by decide +kernel) Ad) Ad) Ad)<|Ah<|Ay<|vv 5),?_⟩
 rintro xs T R _ ⟨C,b,p,a,q,rfl,hO,hp,hq,h⟩;obtain⟨g1,g2⟩:=J1 (a:=a) hO hq;refine B3 ⟨C,b,a,q,rfl,hq,?_⟩;intro m M;have l9:p≠m:=by rintro rfl;rw[hp]at M;cases M
 refine Bg (λk d=>∃J I G,k=[oF<|B0 C b,oD p,oE a,oF<|ptD q,oE (2*a+hdP b q:Nat),oD m,J,I,G]/\d m=oG ((owns b a q).map Kl)/\Sub T d) (λZ hZ=>?_) ?_
 ·refine⟨C,b,a,q,rfl,hq,λL Q=>?_⟩;have X:m≠L:=by rintro rfl;rw[Ac]at Q;cases Q
  have S:T L=none:=by rw[Ag X.symm]at Q;exact Q
  have npg:p≠L:=by rintro rfl;rw[hp]at S;cases S
  rw[OV];refine Ab (Av Ac) ?_;refine C9 (λi k d=>∃J I G,k=[oF<|B0 C b,oD p,oE a,oF<|ptD q,oE (2*a+hdP b q:Nat),oD m,J,I,G]/\d m=oG ((((Fx b a q).take i).map<|Ma b a q).map Kl)/\d L=oG ((Fx b a q).map goA)/\Sub T d) ⟨none,none,none,rfl,by rw[Ag X,Ac];rfl,Ac,(Sub.refl.new M).new S⟩ (by rintro _ _ _ ⟨_,_,_,_,_,e,_⟩;exact Av e) ?_ ?_
  ·rintro i y k g Z2 hy ⟨J,I,G,rfl,u,U,z⟩ hZ2;rw[G_]at hy;obtain⟨x,hx,rfl⟩:=I_.mp hy;have hi:i<(Fx b a q).length:=(E_.mp hx).1;have a9:(Fx b a q).take (i+1)=(Fx b a q).take i++[x]:=by rw[aM,hx];rfl
   obtain⟨x1,x2⟩:=g2 x<|N_ hx;refine⟨rfl,HJ ?_⟩;dsimp only[List.set];refine Bg (λk d=>k=[oF<|B0 C b,oD p,oE a,oF<|ptD q,oE (2*a+hdP b q:Nat),oD m,oF<|A0 x.1,oF<|Fc x.2,oE (2*x.1+HR b x.2:Nat)]/\g=d) (λZ3 b8=>?_) ?_
   ·cases ex:x.2 with
    |nil=>exact dif (λc=>absurd c<|by decide) (λc=>⟨x.1,0,rfl,b8 _ _ ⟨by rw[ex];rfl,rfl⟩⟩)
    |cons r l=>refine dif (λc=>?_) (λc=>absurd (show(0:Int)<((l.map ptD).length+1:Nat) by omega) c);refine Ab (Aj (j:=0) rfl) ⟨C,b,x.1,r,rfl,x2 r<|by rw[ex];exact .head _,b8 _ _ ⟨by rw[ex];rfl,rfl⟩⟩
   rintro k _ ⟨rfl,rfl⟩;have O:=z p _ hp;refine⟨Ab u trivial,Ab O trivial,Ab rfl<|Ab O<|Ab (Ku _) ⟨O3 q,L9 _,Ab (O4 hq)<|Ab (Mb _) λB t=>?_⟩⟩;have sj:p≠B:=by rintro rfl;rw[O]at t;cases t
   have rj:m≠B:=by rintro rfl;rw[u]at t;cases t
   have zm:L≠B:=by rintro rfl;rw[U]at t;cases t
   refine cmap x.2 L8 (λr=>Ch<|ix b r) (λk=>∃o,k=[o,oD p]) ⟨none,rfl⟩ Ac (seven<|by omega) (λ_=>Mb _) ?_ ?_;rintro j r τ' V W hj ⟨o,rfl⟩ hW;have f0:An (An g B<|.lst []) B (.lst V) p=oG ((pts b).map L8):=by rw[Ag sj,Ag sj];exact O
   exact⟨Ab f0 trivial,Ab rfl<|Ab f0<|Ab (Ku _) ⟨O3 r,L9 _,Ab (O4<|x2 r<|N_ hj)<|hW _ ⟨_,rfl⟩⟩⟩
   rw[show(x.2.map λr=>Ch<|ix b r)=(x.2.map<|ix b).map Ch by rw[aE];rfl];have f1:∀o:MO,An (An g B<|.lst []) B o m=oG ((((Fx b a q).take i).map<|Ma b a q).map Kl):=λo=>by rw[Ag rj,Ag rj];exact u
   refine Ab (Av Ac)<|Ab (Lw _) ?_;refine Ab (f1 _) ⟨A3<|by rw[B_,B_,bF];omega,hZ2 _ _ ⟨_,_,_,rfl,?_,?_,((z.new<|z.none t).new<|z.none t).new M⟩⟩;rw[Ac,a9,L_,L_];rfl;rw[Ag X.symm,Ag zm,Ag zm];exact U
  rintro k g ⟨J,I,G,rfl,u,U,z⟩;rw[B_,aJ]at u;exact hZ _ _ ⟨_,_,_,rfl,u,z⟩
 rintro k g ⟨J,I,G,rfl,u,z⟩;exact⟨_,Sub.refl,h m _ M u z⟩
def O5(ps:Prg)(a:Nat)(q:Pt):oA Rul:=crs ps a q::owns ps a q
def O6(ps:Prg)(a:Nat):oA Rul:=(pts ps).flatMap<|O5 ps a
def Ew(a:Nat)(ps:Prg):oA Rul:=(List.range<|a+1).flatMap<|O6 ps
theorem Ft{c d:Type}(f:c->oA d)(k:Nat):∀(l:oA c),(∀a∈l,(f a).length<=k)->(l.flatMap f).length<=l.length*k
 |[],_=>by simp
 |a::l,h=>by rw[List.flatMap_cons,O_,aS,Nat.add_mul,Nat.one_mul];have h1:=h a<|.head _;have h2:=Ft f k l λb hb=>h b<|.tail _ hb;omega
def Ra{ps:Prg}{a:Nat}{q:Pt}(ok:L7 ps)(hq:Bv ps q):(O5 ps a q).length<=3:=by have:=(J1 (a:=a) ok hq).1;show(owns ps a q).length+1<=3;unfold owns;rw[B_];omega
def Rb{b:Nat}{ps:Prg}(h:PgOk b ps)(a j:Nat):(((pts ps).take j).flatMap<|O5 ps a).length<=45:=by
 have h1:=Ft (O5 ps a) 3 ((pts ps).take j) λq hq=>Ra h.ok<|Fw.mp<|dL hq;have h2:=h.len;have c:((pts ps).take j).length<=15:=by rw[bF];omega
 omega
def Xz{b:Nat}{ps:Prg}(h:PgOk b ps)(a:Nat):(O6 ps a).length<=45:=by have:=Rb h a (pts ps).length;rw[aJ]at this;exact this
def Rc{b:Nat}{ps:Prg}(h:PgOk b ps)(i:Nat)(c:i<=2):((List.range i).flatMap<|O6 ps).length<=90:=by have:=Ft (O6 ps) 45 (List.range i) λa _=>Xz h a;rw[bE]at this;omega
def sgs:Str := "abcdefghijklmnopqrstuvwxyz"
def HS:sgs.cps.toList.length=26:=by decide +kernel
def Re:sgs.length<=sizeLine:=by decide +kernel
def sg(i:Nat):Nat:=sgs.cps.toList.getD i 0
def JR{i:Nat}(h:i<26):atI sgs.cps.toList (i:Int)=some (sg i):=by refine Aj ?_;unfold sg;rw[cJ,F_<|by rw[HS];exact h];rfl
def ltr(q:Pt):Str:=⟨#[sg q.1]⟩++⟨#[sg q.2]⟩
def VY{a:Nat}{ps:Prg}{q:Pt}(h:PgOk a ps)(hq:Bv ps q):q.1<3/\q.2<5:=by obtain⟨p,h1,h2⟩:=hq;have c:=(E_.mp h1).1;have b:=(h.l p<|N_ h1).2;have d:=h.n3;omega
def plcs:oA lG:=[.tuple [.str "offone",.int 0],.tuple [.str "offtwo",.int 1],.tuple [.str "onone",.int 0],.tuple [.str "ontwo",.int 1]]
def VZ(a:Nat):oA lG:=Dt plcs none<|some<|2*((a:Int)+1)
def Tp(q:Pt):lG:=.str<|ltr q
def gmD(a:Nat)(ps:Prg)(es:oA lG):lG:=.tuple [.tuple<|VZ a,.tuple<|(pts ps).map Tp,.tuple es]
abbrev nGf:oA Str:=["program","points","rules","answer","point","letters"]
def X0:FnScope nGf oJ (Ai ZA):=Br<|by decide +kernel
def JS:(["procedure","step"]:oA Str).Nodup:=by decide +kernel
def OX:ASp:=λe g R=>∃(b:Nat) (ps:Prg),e=[.D<|B0 b ps]/\PgOk b ps/\∀c a,c.Nodup->(∀d,d∈c↔d∈(Ew b ps).map Fs)->Sub g a->R (.D<|gmD b ps c) a
def DB(l:oA Pt):dats (l.map λq=>.D<|Tp q)=some (l.map Tp):=by rw[show(l.map λq=>AV.D<|Tp q)=(l.map Tp).map .D by rw[aE];rfl];exact B1 _
def WA{n:Nat}{t3:Tok}{T:lH}(F:Fun K "game_of" "game_of" ZA f fd) (x5:VCal P w K mg base n "all_points" oJ OS) (Y:VCal P w K mg base n "crossing_rule" oS VQ) (U:VCal P w K mg base n "own_rules" oS VV) (ai:mg "range" = none) (al:mg "tuple" = none) (aq:mg "sorted" = none) (fm:mg "set" = none) (wj:mg "PLACES" = some (.ref T)) (wo:∀H,Dk K H (.tuple plcs)<|.ref T) (vn:mg "SIGNS" = some (.str sgs t3)):FnOk P w K mg base Dm (n+1) f fd oJ (D5 K 1 OX):=by
 refine F.vok X0 λam A outer s H E hr=>⟨_,(Ae (Am (i:=1) X0.nd rfl oH<|Al x5 hr rfl<|Aa (vv 0) Ad)<|Ae (Am (i:=2) X0.nd rfl oH<|Bu Ad)<|Ae (Ca aD rfl (Dv rfl ai<|Aa (A9 B6 (Aw Bd (vv 0) Af) Af) Ad) (Ak (i:=3) X0.nd rfl oH)<|Ah<|Ca aD rfl (Bo<|vv 1) (Ak (i:=4) X0.nd rfl oH)<|Ae (Bw<|Dj bI bJ Cy (vv 2)<|Aa (Al Y hr rfl<|Aa (vv 0)<|Aa (vv 1)<|Aa (vv 3)<|Aa (vv 4) Ad) Ad)<|Ah<|Bw<|Dj eE eF Ge (vv 2)<|Aa (Al U hr rfl<|Aa (vv 0)<|Aa (vv 1)<|Aa (vv 3)<|Aa (vv 4) Ad) Ad)<|Ae (Am (i:=5) X0.nd rfl oH<|C2 Ej rfl al cK<|Aa (Cf (N':=["procedure","step"]) (mp:=[none,none]) rfl (Bo<|vv 1) (λ_ _ _ _=>(Cz (n:=2) rfl<|Ao (Ak (i:=0) JS rfl oH oI)<|Ao (Ak (i:=1) JS rfl oH oI) Bs)) (λ_ _ _ _=>B2) (λ_ _ _ _=>(A9 B6 (Aw Bd (Eh rfl vn (v:=.str sgs) ⟨_,rfl⟩ λ_=>Eb)<|vv 0)<|Aw Bd (Eh rfl vn (v:=.str sgs) ⟨_,rfl⟩ λ_=>Eb)<|vv 1))<|Bc (N:=nGf) (pn:=(Ai ZA).names)<|by decide +kernel) Ad)<|Ah<|Ay<|Aq<|Aa (Ed (Eh rfl wj (v:=.ref T) rfl wo) G2<|Ei<|A9 Ig Af<|A9 B6 (Aw Bd (vv 0) Af) Af)<|Aa (vv 5)<|Aa (C2 Ej rfl al cK<|Aa (CC hr rfl aq rfl fm<|vv 2) Ad) Ad),?_⟩
 rintro xs L R _ ⟨e,c,rfl,o,q⟩;have i8:=o.sw;refine B3 ⟨e,c,rfl,o,λg μ1 gx e1 S1=>?_⟩;intro k cq;have Q:g≠k:=by rintro rfl;rw[e1]at cq;cases cq
 have X:L k=none:=S1.none cq;refine Bg (λd a=>∃C l,d=[oF<|B0 e c,oD g,oD k,C,l,none]/\a k=oG ((Ew e c).map Kl)/\a g=oG ((pts c).map L8)/\Sub L a) (λZ hZ=>?_) ?_;have ag:(Gf 0 ((e:Int)+1).toNat).length=e+1:=by rw[Cb];omega
 refine Ab (Aj (j:=0) rfl) ⟨by omega,by omega,?_⟩;refine C9 (λi d a=>∃C l,d=[oF<|B0 e c,oD g,oD k,C,l,none]/\a k=oG (((List.range i).flatMap<|O6 c).map Kl)/\a g=oG ((pts c).map L8)/\Sub L a) ⟨none,none,rfl,Ac,by rw[Ag Q];exact e1,S1.new X⟩ (λ_ _ _ _=>trivial) ?_ ?_;rintro i y d J Z2 hy ⟨C,l,rfl,z,t,x⟩ hZ2;have hi:i<e+1:=by rw[<- ag];exact(E_.mp hy).1
 have ey:=Gg _ _ _ hy;rw[Int.zero_add]at ey;subst ey;have hb:=Rc o i (by omega);refine Ab (Av t) ?_;refine C9 (λj d a=>∃l,d=[oF<|B0 e c,oD g,oD k,oE i,l,none]/\a k=oG (((List.range i).flatMap (O6 c)++((pts c).take j).flatMap (O5 c i)).map Kl)/\a g=oG ((pts c).map L8)/\Sub L a) ⟨l,rfl,by rw[List.take_zero,List.flatMap_nil,bP];exact z,t,x⟩ (by rintro _ _ _ ⟨_,_,_,f,_⟩;exact Av f) ?_ ?_;rintro j y d O Z3 hy ⟨S,rfl,u,M,G⟩ b8;rw[G_]at hy;obtain⟨r,B,rfl⟩:=I_.mp hy;have hj:j<(pts c).length:=(E_.mp B).1;have nq:Bv c r:=Fw.mp<|N_ B;have a9:(pts c).take (j+1)=(pts c).take j++[r]:=by rw[aM,B];rfl
 have hb2:=Rb o i j;have hb3:(((List.range i).flatMap (O6 c)++((pts c).take j).flatMap (O5 c i)).map Kl).length<=135:=by rw[B_,O_];omega
 have hb4:(owns c i r).length<=2:=by unfold owns;rw[B_];exact(J1 o.ok nq).1
 refine B3 ⟨Ab u trivial,e,c,g,i,r,rfl,M,nq,Ab u ⟨A3<|by omega,?_⟩⟩;refine⟨Ab Ac trivial,e,c,g,i,r,rfl,o.ok,by rw[Ag Q];exact M,nq,λp μ4 hp e4 S4=>?_⟩;have g1:=S4 k _ Ac;refine Ab g1 (Ab e4 ⟨seven<|by rw[O_,B_ (as:=owns c i r),gP];omega,b8 _ _ ⟨_,rfl,?_,?_,?_⟩⟩);rw[Ac,a9,fW,gL];simp only[O5,List.map_append,List.map_cons,List.append_assoc,List.cons_append,List.nil_append];rw[Ag Q];exact S4 g _ (by rw[Ag Q];exact M);exact Sub.new (λb m h=>S4 b m<|(G.new X) b m h) X;rintro d O ⟨S,rfl,u,M,G⟩;rw[B_,aJ]at u;refine hZ2 _ _ ⟨_,_,rfl,?_,M,G⟩;rw[u,jZ,fW,gL];rfl;rintro d J ⟨C,l,rfl,z,t,x⟩;rw[ag]at z;exact hZ _ _ ⟨_,_,rfl,z,t,x⟩;rintro d J ⟨C,l,rfl,z,t,x⟩;have zaa:=o.len;refine Bg (λd a=>d=[oF<|B0 e c,oD g,oD k,C,l,oF<|.tuple<|(pts c).map Tp]/\a k=oG ((Ew e c).map Kl)/\Sub L a) (λZ hZ=>?_) ?_;refine Ab (Av t) λpc I=>?_;have sj:g≠pc:=by rintro rfl;rw[t]at I;cases I
 have rj:k≠pc:=by rintro rfl;rw[z]at I;cases I
 refine cmap (pts c) L8 (λq=>.D<|Tp q) (λd=>∃o1 o2,d=[o1,o2]) ⟨none,none,rfl⟩ Ac (seven<|by omega) (λV=>Av<|by rw[Ag sj,Ag sj];exact t) ?_ ?_;rintro j r τ' V W hj ⟨o1,o2,rfl⟩ hW;have cv:=VY o<|Fw.mp<|N_ hj;refine⟨rfl,HJ ?_⟩;dsimp only[List.set];exact⟨Re,Ab (JR<|by omega) ⟨Re,Ab (JR<|by omega) ⟨seven<|show 1+1<=1000 by decide,hW _ ⟨_,_,rfl⟩⟩⟩⟩;refine Ab (Av Ac) (Ab (DB _)<|hZ _ _ ⟨rfl,by rw[Ag rj,Ag rj];exact z,(x.new<|x.none I).new<|x.none I⟩);rintro d O ⟨rfl,u,G⟩;refine Ab (Aj (j:=0) rfl) ⟨.inl ⟨by decide,by decide⟩,?_⟩;refine Ab (Av u) (Ab (DA _) ⟨HQ<|R_ (Rc o (e+1)<|by omega)<|by decide,λes p h1 h2 hp=>?_⟩);refine Ab (Av Ac)<|Ab (B1 _) ?_;exact⟨_,Sub.refl,q es _ h1 h2<|G.new<|G.none hp⟩
def DC(ps:Prg)(N:Nat):Bool:=match(pts ps)[N]? with
 |some q=>match stepAt ps q with
  |some .mark=>true
  |_=>false
 |none=>false
def mks(ps:Prg):oA Nat:=(List.range (pts ps).length).filter<|DC ps
def O7(a N:Nat):lG:=.tuple [.int (2*a:Nat),.int N,.tuple []]
def HU(b:Nat)(ps:Prg):oA lG:=(List.range<|b+1).flatMap λa=>(mks ps).map<|O7 a
def OY(a:Nat)(ps:Prg):lG:=.tuple [.int 0,.tuple<|HU a ps,.tuple []]
def WB{l:oA Pt}{i:Nat}{x:AV}(h:(E6 0<|l.map ptD)[i]?=some x):∃q,l[i]?=some q/\x=.D (.tuple [.int i,ptD q]):=by obtain⟨d,a,rfl⟩:=E7 h;rw[G_]at a;obtain⟨p,hp,rfl⟩:=I_.mp a;exact⟨p,hp,by rw[eY]⟩
abbrev nSf:oA Str:=["program","arrows","answer","number","point"]
def DE:FnScope nSf oJ (Ai sSf):=Br<|by decide +kernel
def OZ:ASp:=λc d R=>∃(b:Nat) (ps:Prg),c=[.D<|B0 b ps]/\PgOk b ps/\∀ a,Sub d a->R (.D<|OY b ps) a
def Vf{a:Nat}{ps:Prg}(h:PgOk a ps)(j:Nat)(hj:j<=(pts ps).length):((List.range j).filter<|DC ps).length<=15:=by have:=bN (DC ps)<|List.range j;rw[bE]at this;have:=h.len;omega
def HV{b:Nat}{ps:Prg}(h:PgOk b ps)(i:Nat)(c:i<=2):((List.range i).flatMap λa=>(mks ps).map<|O7 a).length<=30:=by
 have:=Ft (λa=>(mks ps).map<|O7 a) 15 (List.range i) λa _=>by rw[B_];exact Vf h _<|J_ _
 rw[bE]at this;omega
def WC{n:Nat}(F:Fun K "saying_of" "saying_of" sSf f fd) (x5:VCal P w K mg base n "all_points" oJ OS) (n8:VCal P w K mg base n "own_place" oM HN) (kj:VCal P w K mg base n "word_at" oK Xw) (ai:mg "range" = none) (aw:mg "enumerate" = none) (al:mg "tuple" = none):FnOk P w K mg base Dm (n+1) f fd oJ (D5 K 1 OZ):=by
 refine F.vok DE λam A V s H E hr=>⟨_,(Ae (Am (i:=1) DE.nd rfl oH<|Bu Ad)<|Ae (Ca aD rfl (Dv rfl ai<|Aa (A9 B6 (Aw Bd (vv 0) Af) Af) Ad) (Ak (i:=2) DE.nd rfl oH)<|Ah<|Ca aD rfl (Ul rfl aw<|Al x5 hr rfl<|Aa (vv 0) Ad) (Cz (n:=2) rfl<|Ao (Ak (i:=3) DE.nd rfl oH)<|Ao (Ak (i:=4) DE.nd rfl oH) Bs)<|Ah<|Bq (Ax (C1 hr) (Al kj hr rfl<|Aa (vv 0)<|Aa (vv 4) Ad) Bb<|nomark _) (Ah<|Bw<|Dj bI bJ Cy (vv 1)<|Aa (Aq<|Aa (Al n8 hr rfl<|Aa (vv 0)<|Aa (vv 2)<|Aa (vv 4) Ad)<|Aa (vv 3)<|Aa (Aq Ad) Ad) Ad) A6)<|Ah<|Ay<|Aq<|Aa Af<|Aa (C2 Ej rfl al cK<|Aa (vv 1) Ad)<|Aa (Aq Ad) Ad),?_⟩
 rintro xs S R _ ⟨g,c,rfl,O,q⟩;have i8:=O.sw;intro t cq;refine Bg (λl d=>∃G p o,l=[oF<|B0 g c,oD t,G,p,o]/\d t=oG ((HU g c).map .D)/\Sub S d) (λZ hZ=>?_) ?_
 ·have ag:(Gf 0 ((g:Int)+1).toNat).length=g+1:=by rw[Cb];omega
  refine Ab (Aj (j:=0) rfl) ⟨by omega,by omega,?_⟩;refine C9 (λi l d=>∃G p o,l=[oF<|B0 g c,oD t,G,p,o]/\d t=oG (((List.range i).flatMap λa=>(mks c).map<|O7 a).map .D)/\Sub S d) ⟨none,none,none,rfl,Ac,Sub.refl.new cq⟩ (λ_ _ _ _=>trivial) ?_ ?_
  ·rintro i y l J Z2 hy ⟨G,p,o,rfl,z,L⟩ hZ2;have hi:i<g+1:=by rw[<- ag];exact(E_.mp hy).1
   have Y:=Gg _ _ _ hy;rw[Int.zero_add]at Y;subst Y;have hb:=HV O i (by omega);refine⟨g,c,rfl,O,λpp μ3 X W S3=>Ab (Av W)<|Ab (Ku _) ?_⟩;have l9:pp≠t:=by rintro rfl;rw[z]at X;cases X
   refine C9 (λj l d=>∃p o,l=[oF<|B0 g c,oD t,oE i,p,o]/\d t=oG ((((List.range i).flatMap λa=>(mks c).map<|O7 a)++((List.range j).filter<|DC c).map (O7 i)).map .D)/\d pp=oG ((pts c).map L8)/\Sub S d) ⟨p,o,rfl,by rw[List.range_zero,iE,List.map_nil,bP];exact S3 _ _ z,W,λb m h=>S3 b m<|L b m h⟩ (by rintro _ _ _ ⟨_,_,_,_,f,_⟩;exact Av f) ?_ ?_
   ·rintro j y l M Z3 hy ⟨T,Q,rfl,I,U,N⟩ b8;obtain⟨r,B,rfl⟩:=WB hy;have hj:j<(pts c).length:=(E_.mp B).1;have nq:Bv c r:=Fw.mp<|N_ B;have hb2:=Vf O j (by omega);have hb3:((((List.range i).flatMap λa=>(mks c).map<|O7 a)++((List.range j).filter<|DC c).map (O7 i)).map AV.D).length<=45:=by rw[B_,O_,B_];omega
    refine⟨rfl,HJ ?_⟩;dsimp only[List.set];refine⟨g,c,r,rfl,nq,?_⟩;have C:DC c j=false->Z3 [oF<|B0 g c,oD t,oE i,oE j,oF<|ptD r] M:=λhm=>by refine b8 _ _ ⟨_,_,rfl,?_,U,N⟩;rw[jZ,dH,List.filter_cons_of_neg<|by rw[hm];decide,iE,bP];exact I
    have u:DC c j=match stepAt c r with
      |some .mark=>true
      |_=>false:=by unfold DC;rw[B]
    cases e:stepAt c r with
    |none=>rw[show Dd c r=.none by unfold Dd;rw[e]];exact⟨Jk,HL,Eg Q9<|C<|by rw[u,e]⟩
    |some st=>
     rw[show Dd c r=.str st.word by unfold Dd;rw[e]];cases st with
     |ask x y=>exact Ct Hw (C<|by rw[u,e])
     |chance x y=>exact Ct Eu (C<|by rw[u,e])
     |set v=>exact Ct Hy (C<|by rw[u,e])
     |iff x y=>exact Ct Jz (C<|by rw[u,e])
     |call k=>exact Ct Gv (C<|by rw[u,e])
     |back=>exact Ct Gw (C<|by rw[u,e])
     |mark=>
      refine Va Gx ⟨Ab I trivial,g,c,i,r,rfl,nq,?_⟩;have hh:hdP c r=0:=by unfold hdP;rw[e]
      rw[hh,Nat.add_zero];refine Ab I ⟨A3<|by omega,b8 _ _ ⟨_,_,rfl,?_,by rw[Ag l9];exact U,N.new cq⟩⟩;rw[Ac,jZ,dH,List.filter_cons_of_pos<|by rw[u,e],iE,L_ (l₁:=List.filter (DC c)<|List.range j),<- eL,L_ (l₂:=List.map (O7 i) [j])];rfl
   rintro l M ⟨T,Q,rfl,I,U,N⟩;rw[Ck,B_]at I;refine hZ2 _ _ ⟨_,_,_,rfl,?_,N⟩;rw[I,jZ,fW,gL];rfl
  rintro l J ⟨G,p,o,rfl,z,L⟩;rw[ag]at z;exact hZ _ _ ⟨_,_,_,rfl,z,L⟩
 rintro l J ⟨G,p,o,rfl,z,L⟩;exact Ab (Av z)<|Ab (B1 _) ⟨_,Sub.refl,q _ L⟩
abbrev nBf:oA Str:=oJ
def Qce:FnScope nBf oJ (Ai sBf):=Br<|by decide +kernel
def PB:ASp:=λb c R=>∃(a:Nat) (ps:Prg),b=[.D<|B0 a ps]/\PgOk a ps/\R (.D<|.tuple [.int (hdP ps (0,0):Nat),.tuple [.int 0]]) c
def WD{n:Nat}(F:Fun K "begin_of" "begin_of" sBf f fd) (c:VCal P w K mg base n "own_place" oM HN):FnOk P w K mg base Dm (n+1) f fd oJ (D5 K 1 PB):=by refine F.vok Qce λi A b s H E hr=>⟨_,(Ah<|Ay<|Aq<|Aa (Al c hr rfl<|Aa (vv 0)<|Aa Af<|Aa (Aq<|Aa Af<|Aa Af Ad) Ad)<|Aa (Aq<|Aa Af Ad) Ad),?_⟩;rintro h g R _ ⟨d,a,rfl,e,q⟩;refine⟨d,a,0,(0,0),rfl,Em e.n0,⟨g,Sub.refl,?_⟩⟩;rw[show 2*0+hdP a (0,0)=hdP a (0,0) by omega];exact q
abbrev nWe:oA Str:=qB
def WE:FnScope nWe qB (Ai sWe):=Br<|by decide +kernel
def WF:ASp:=λb d R=>∃c a l,b=[.D<|B0 c a,.D<|Fc l]/\(∀q∈l,Bv a q)/\R (.D<|Fc<|strip a l) d
def WG{n:Nat}(F:Fun K "without_ends" "without_ends" sWe f fd) (v:VCal P w K mg base n "word_at" oK Xw) (t:mg "len" = none):FnOk P w K mg base Dm (n+1) f fd qB (D5 K 2 WF):=by
 refine F.vok WE λz A o s H E hr=>⟨_,(Ae (E3 aD (VW.pt<|Hr (Ax Ki (A8 Di rfl t bH<|Aa (vv 1) Ad) Af<|nomark _)<|Fl<|Ax Ug (Al v hr rfl<|Aa (vv 0)<|Aa (Aw Bd (vv 1) Af) Ad) D3<|nomark _)<|Ah<|Am (i:=1) WE.nd rfl oH<|Ed (vv 1) (Ei Af) G2)<|Ah<|Ay<|vv 1),?_⟩
 rintro B u R _ ⟨g,a,l,rfl,y,h⟩;refine G3 (λm p b=>∃r,m=r.length/\p=[oF<|B0 g a,oF<|Fc r]/\b=u/\(∀q∈r,Bv a q)/\strip a r=strip a l) l.length ⟨l,rfl,rfl,rfl,y,rfl⟩ ?_;rintro m p b W ⟨r,rfl,rfl,rfl,d,e⟩ hW;cases r with
 |nil=>refine dif (λc=>absurd c<|by decide) λc=>Eg rfl ⟨b,Sub.refl,?_⟩;rw[<- e]at h;exact h
 |cons q r=>
  refine dif (λc=>?_) (λc=>absurd (show(0:Int)<((r.map ptD).length+1:Nat) by omega) c);refine Ab (Aj (j:=0) rfl) ⟨g,a,q,rfl,d q aK,?_⟩;cases e2:stepAt a q with
  |none=>
   have k:Dd a q=.none:=by unfold Dd;rw[e2]
   rw[k];refine Fk rfl<|hW r.length _ _ (bG _) ⟨r,rfl,?_,rfl,λx hx=>d x<|aA _ hx,?_⟩;show [some<|AV.D<|B0 g a,some<|AV.D<|.tuple<|Dt (ptD q::r.map ptD) (some 1) none]=_;rw[Jl];rfl;rw[<- e];show _=strip a (q::r);rw[strip,e2]
  |some st=>
   have k:Dd a q=.str st.word:=by unfold Dd;rw[e2]
   rw[k];refine Eg rfl ⟨b,Sub.refl,?_⟩;rw[<- e,strip,e2]at h;exact h
def F4(ps:Prg):Nat->Nat->oA Pt->oA Nat->Nat->Str×Nat
 |_,_,[],_,st=>("over",st)
 | 0,_,_::_,_,st=>("more",st)
 |n+1,a,q::r,b,st=>match stepAt ps q with
  |none=>("over",st)
  |some .mark=>("marked",st+1)
  |some (.ask x y)=>match b with
   |[]=>("lacks",st)
   |c::b=>F4 ps n a (strip ps<|(q.1,if c=0 then x else y)::r) b (st+1)
  |some (.chance x y)=>match b with
   |[]=>("lacks",st)
   |c::b=>F4 ps n a (strip ps<|(q.1,if c=0 then x else y)::r) b (st+1)
  |some (.iff x y)=>F4 ps n a (strip ps<|(q.1,if a=1 then x else y)::r) b (st+1)
  |some (.set v)=>F4 ps n v (strip ps<|(q.1,q.2+1)::r) b (st+1)
  |some (.call k)=>F4 ps n a (strip ps<|(k,0)::(q.1,q.2+1)::r) b (st+1)
  |some .back=>F4 ps n a (strip ps r) b<|st+1
def PD(x:Str×Nat):lG:=.tuple [.str x.1,A0 x.2]
def X1(ps:Prg)(b:oA Nat)(a:Nat):lG:=PD<|F4 ps a 0 (strip ps [(0,0)]) b 0
def B8{ps:Prg}{q:Pt}{r:oA Pt}(h:Bv ps q)(hr:∀x∈r,Bv ps x):∀x∈q::r,Bv ps x:=λx hx=>by rcases Y_.mp hx with rfl|hx;exact h;exact hr x hx
theorem Cj{ps:Prg}:∀(l:oA Pt),strip ps (strip ps l)=strip ps l
 |[]=>rfl
 |q::r=>by
  cases e:stepAt ps q with
  |none=>rw[show strip ps (q::r)=strip ps r by rw[strip,e]];exact Cj r
  |some s=>rw[show strip ps (q::r)=q::r by rw[strip,e]];rw[strip,e]
def J2:Bz (.tuple [.str "ask",.str "chance"]):=⟨by decide +kernel,by simp[PyData.depth,PyData.depthAll]⟩
abbrev nRp:oA Str:=["program","choices","most","answer","pile","asked","steps","word","chosen","further"]
def J3:FnScope nRp oV (Ai sRp):=Br<|by decide +kernel
structure RunIn(ps:Prg)(cs:oA Nat)(most:Nat):Prop where
 ok:L7 ps
 ne:0<ps.length
 cs:∀c∈cs,c<=1
 most:most<=60
def Vg(a:oA Nat):lG:=.tuple<|a.map A0
def HW:ASp:=λc d R=>∃(e:Nat) (ps:Prg) (b:oA Nat) (a:Nat),c=[.D<|B0 e ps,.D<|Vg b,.D<|A0 a]/\RunIn ps b a/\R (.D<|X1 ps b a) d
def Vh{a b:Type}{f:a->b}{x:a}{r:oA a}:(0:Int)<(((x::r).map f).length:Nat):=by simp
def G8{a:oA Nat}{i c:Nat}{r:oA Nat}(h:a.drop i=c::r):a[i]?=some c/\a.drop (i+1)=r:=by
 have h1:(a.drop i)[0]?=some c:=by rw[h];rfl
 rw[List.getElem?_drop]at h1;refine⟨by simpa using h1,?_⟩;have:(a.drop i).drop 1=r:=by rw[h];rfl
 rwa[List.drop_drop]at this
def WH{n:Nat}{cw:lH}(F:Fun K "run_program" "run_program" sRp f fd) (zc:VCal P w K mg base n "without_ends" qB WF) (kj:VCal P w K mg base n "word_at" oK Xw)
  (wc:VCal P w K mg base n "goings_on" oM OL) (ah:mg "len" = none) (ym:mg "CHOOSING_WORDS" = some (.ref cw)) (wm:∀H,Dk K H (.tuple [.str "ask",.str "chance"])<|.ref cw):FnOk P w K mg base Dm (n+1) f fd oV (D5 K 3 HW):=by
 refine F.vok J3 λam A outer s H E hr=>⟨_,(Ae (Am (i:=3) J3.nd rfl oH Af)<|Ae (Am (i:=4) J3.nd rfl oH<|Al zc hr rfl<|Aa (vv 0)<|Aa (Aq<|Aa (Aq<|Aa Af<|Aa Af Ad) Ad) Ad)<|Ae (Am (i:=5) J3.nd rfl oH Af)<|Ae (Am (i:=6) J3.nd rfl oH Af)<|Ae (E3 aD (VW.pt<|Hr (Ax Ki (A8 Di rfl ah bH<|Aa (vv 4) Ad) Af<|nomark _)<|Fl<|Ax SL (vv 6) (vv 2)<|nomark _)<|Ae (Am (i:=7) J3.nd rfl oH<|Al kj hr rfl<|Aa (vv 0)<|Aa (Aw Bd (vv 4) Af) Ad)<|Ae (Bq (Ax (C1 hr) (vv 7) Bb<|nomark _) (Ah<|Ay<|Aq<|Aa Bb<|Aa (A9 B6 (vv 6) Af) Ad) A6)<|Ae (Am (i:=8) J3.nd rfl oH Af)<|Ae (Bq (Ax (Wq hr) (vv 7) (Eh rfl ym (v:=.ref cw) rfl wm)<|by with_unfolding_all rfl) (Ae (Bq (Ax (C1 hr) (vv 5) (A8 Di rfl ah bH<|Aa (vv 1) Ad)<|nomark _) (Ah<|Ay<|Aq<|Aa Bb<|Aa (vv 6) Ad) A6)<|Ae (Am (i:=8) J3.nd rfl oH<|Aw Bd (vv 1)<|vv 5)<|Ah<|Am (i:=5) J3.nd rfl oH<|A9 B6 (vv 5) Af) A6)<|Ae (Am (i:=9) J3.nd rfl oH<|Aw Bd (Al wc hr rfl<|Aa (vv 0)<|Aa (vv 3)<|Aa (Aw Bd (vv 4) Af) Ad)<|vv 8)<|Ae (Am (i:=3) J3.nd rfl oH<|Aw Bd (vv 9) Af)<|Ae (Am (i:=4) J3.nd rfl oH<|Al zc hr rfl<|Aa (vv 0)<|Aa (A9 B6 (Aw Bd (vv 9) Af)<|Ed (vv 4) (Ei Af) G2) Ad)<|Ah<|Am (i:=6) J3.nd rfl oH<|A9 B6 (vv 6) Af)<|Ah<|Ay<|Ec (Ax Ki (A8 Di rfl ah bH<|Aa (vv 4) Ad) Af<|nomark _) (Aq<|Aa Bb<|Aa (vv 6) Ad)<|Aq<|Aa Bb<|Aa (vv 6) Ad),?_⟩
 rintro xs μ R _ ⟨t,ps,b,d,rfl,Q,h⟩;refine⟨t,ps,[(0,0)],rfl,B8 (Em Q.ne) (λ_ z=>nomatch z),?_⟩;refine G3 (λm B G=>∃(a:Nat) (l:oA Pt) (i st:Nat) (o1 o2 X:oB AV),B=[oF<|B0 t ps,oF<|Vg b,oF<|A0 d,oF<|A0 a,oF<|Fc l,oF<|A0 i,oF<|A0 st,o1,o2,X] /\
  Sub μ G/\st+m=d/\i<=b.length/\(∀q∈l,Bv ps q)/\strip ps l=l/\l.length<=st+1/\X1 ps b d=PD (F4 ps m a l (b.drop i) st)) d ⟨0,strip ps [(0,0)],0,0,none,none,none,rfl,Sub.refl,eY _,aG _,?_,?_,?_,?_⟩ ?_
 exact C0<|B8 (Em Q.ne) (λ_ z=>nomatch z)
 exact Cj _
 exact C8 _
 rfl
 rintro m B G W ⟨a,l,i,st,o1,o2,X,rfl,C,em,hi,J,el,L,Y⟩ hW;rw[Y]at h;cases l with
 |nil=>refine dif (λc=>absurd c<|by decide) (λc=>Eg rfl<|dif (λc=>absurd c<|by decide) λc=>⟨μ,C,?_⟩);cases m<;>exact h
 |cons q r=>
  refine dif (λ_=>?_) λc=>absurd Vh c;cases m with
  |zero=>exact dif (λc=>absurd (show(st:Int)<d from c)<|by omega) (λ_=>dif (λ_=>⟨μ,C,h⟩) λc=>absurd Vh c)
  |succ m=>
   refine dif (λ_=>?_) (λc=>absurd (show(st:Int)<(d:Int) by omega) c);refine Ab (Aj (j:=0) rfl) ⟨t,ps,q,rfl,J q aK,?_⟩;obtain⟨s,e⟩:∃s,stepAt ps q=some s:=Ly el;obtain⟨pr,V,e2⟩:=Iv e;have f7:=CT Q.ok V e2;rw[show Dd ps q=.str s.word by unfold Dd;rw[e]];cases s with
   |mark=>rw[F4,e]at h;exact Va Gx ⟨μ,C,h⟩
   |back=>
    refine Ct Gw<|B3<|Ng ?_;refine Bg (λB g=>∃(ch a2 o:Nat) (pts:oA Pt),B=[oF<|B0 t ps,oF<|Vg b,oF<|A0 d,oF<|A0 a,oF<|Fc<|q::r,oF<|A0 o,oF<|A0 st,oF<|.str "back",oF<|A0 ch,X] /\
     g=G/\atI (goL ps a q) (ch:Int)=oF (.tuple [A0 a2,.tuple<|pts.map ptD])/\(∀x∈pts,Bv ps x)/\pts.length<=2/\o<=b.length/\F4 ps (m+1) a (q::r) (b.drop i) st=F4 ps m a2 (strip ps<|pts++r) (b.drop o) (st+1)) (λW' S=>?_) ?_
    refine Ab rfl ⟨Az<|Jb _,J2,Eg CS<|S _ _ ⟨0,a,i,[],rfl,rfl,by unfold goL;rw[e];rfl,?_,(bO rfl),hi,by rw[F4,e];rfl⟩⟩;exact(λ_ z=>nomatch z);rintro B g ⟨ch,a2,o,pts,rfl,rfl,T,u,U,M,N⟩;have I:∀x∈pts++r,Bv ps x:=λx hx=>by rcases P_.mp hx with hx|hx;exact u x hx;exact J x<|aA _ hx
    have O:pts.map ptD++Dt (ptD q::r.map ptD) (some 1) none=(pts++r).map ptD:=by rw[Jl,L_]
    refine Ab (Aj (j:=0) rfl) ⟨t,ps,a,q,rfl,J q aK,λp hp=>?_⟩;refine Ab Ac<|Ab T<|Ab rfl<|Ab rfl ⟨?_,t,ps,pts++r,?_,I,?_⟩;have:(pts.map ptD).length+(Dt (ptD q::r.map ptD) (some 1) none).length<=1000:=by rw[Jl,B_,B_];have:=Q.most;simp at L;omega
    exact bR<|A3 this
    show [AV.D<|B0 t ps,AV.D<|.tuple<|pts.map ptD++Dt (ptD q::r.map ptD) (some 1) none]=_;rw[O];rfl;refine hW m _ _ (bG _) ⟨a2,strip ps<|pts++r,o,st+1,_,_,_,rfl,C.new<|C.none hp,by omega,M,C0 I,Cj _,?_,by rw[Y,N]⟩;have:=C8 (ps:=ps)<|pts++r;rw[O_]at this;simp at L;omega
   |call k=>
    refine Ct Gv<|B3<|Ng ?_;refine Bg (λB g=>∃(ch a2 o:Nat) (pts:oA Pt),B=[oF<|B0 t ps,oF<|Vg b,oF<|A0 d,oF<|A0 a,oF<|Fc<|q::r,oF<|A0 o,oF<|A0 st,oF<|.str "call",oF<|A0 ch,X] /\
     g=G/\atI (goL ps a q) (ch:Int)=oF (.tuple [A0 a2,.tuple<|pts.map ptD])/\(∀x∈pts,Bv ps x)/\pts.length<=2/\o<=b.length/\F4 ps (m+1) a (q::r) (b.drop i) st=F4 ps m a2 (strip ps<|pts++r) (b.drop o) (st+1)) (λW' S=>?_) ?_
    refine Ab rfl ⟨Az<|Jb _,J2,Eg CQ<|S _ _ ⟨0,a,i,[(k,0),(q.1,q.2+1)],rfl,rfl,by unfold goL;rw[e];rfl,?_,(bO rfl),hi,by rw[F4,e];rfl⟩⟩;exact B8 (Em f7)<|B8 (G7 V e2) (λ_ z=>nomatch z);rintro B g ⟨ch,a2,o,pts,rfl,rfl,T,u,U,M,N⟩;have I:∀x∈pts++r,Bv ps x:=λx hx=>by rcases P_.mp hx with hx|hx;exact u x hx;exact J x<|aA _ hx
    have O:pts.map ptD++Dt (ptD q::r.map ptD) (some 1) none=(pts++r).map ptD:=by rw[Jl,L_]
    refine Ab (Aj (j:=0) rfl) ⟨t,ps,a,q,rfl,J q aK,λp hp=>?_⟩;refine Ab Ac<|Ab T<|Ab rfl<|Ab rfl ⟨?_,t,ps,pts++r,?_,I,?_⟩;have:(pts.map ptD).length+(Dt (ptD q::r.map ptD) (some 1) none).length<=1000:=by rw[Jl,B_,B_];have:=Q.most;simp at L;omega
    exact bR<|A3 this
    show [AV.D<|B0 t ps,AV.D<|.tuple<|pts.map ptD++Dt (ptD q::r.map ptD) (some 1) none]=_;rw[O];rfl;refine hW m _ _ (bG _) ⟨a2,strip ps<|pts++r,o,st+1,_,_,_,rfl,C.new<|C.none hp,by omega,M,C0 I,Cj _,?_,by rw[Y,N]⟩;have:=C8 (ps:=ps)<|pts++r;rw[O_]at this;simp at L;omega
   |set v=>
    refine Ct Hy<|B3<|Ng ?_;refine Bg (λB g=>∃(ch a2 o:Nat) (pts:oA Pt),B=[oF<|B0 t ps,oF<|Vg b,oF<|A0 d,oF<|A0 a,oF<|Fc<|q::r,oF<|A0 o,oF<|A0 st,oF<|.str "set",oF<|A0 ch,X] /\
     g=G/\atI (goL ps a q) (ch:Int)=oF (.tuple [A0 a2,.tuple<|pts.map ptD])/\(∀x∈pts,Bv ps x)/\pts.length<=2/\o<=b.length/\F4 ps (m+1) a (q::r) (b.drop i) st=F4 ps m a2 (strip ps<|pts++r) (b.drop o) (st+1)) (λW' S=>?_) ?_
    refine Ab rfl ⟨Az<|Jb _,J2,Eg JQ<|S _ _ ⟨0,v,i,[(q.1,q.2+1)],rfl,rfl,by unfold goL;rw[e];rfl,?_,(bO rfl),hi,by rw[F4,e];rfl⟩⟩;exact B8 (G7 V e2) (λ_ z=>nomatch z);rintro B g ⟨ch,a2,o,pts,rfl,rfl,T,u,U,M,N⟩;have I:∀x∈pts++r,Bv ps x:=λx hx=>by rcases P_.mp hx with hx|hx;exact u x hx;exact J x<|aA _ hx
    have O:pts.map ptD++Dt (ptD q::r.map ptD) (some 1) none=(pts++r).map ptD:=by rw[Jl,L_]
    refine Ab (Aj (j:=0) rfl) ⟨t,ps,a,q,rfl,J q aK,λp hp=>?_⟩;refine Ab Ac<|Ab T<|Ab rfl<|Ab rfl ⟨?_,t,ps,pts++r,?_,I,?_⟩;have:(pts.map ptD).length+(Dt (ptD q::r.map ptD) (some 1) none).length<=1000:=by rw[Jl,B_,B_];have:=Q.most;simp at L;omega
    exact bR<|A3 this
    show [AV.D<|B0 t ps,AV.D<|.tuple<|pts.map ptD++Dt (ptD q::r.map ptD) (some 1) none]=_;rw[O];rfl;refine hW m _ _ (bG _) ⟨a2,strip ps<|pts++r,o,st+1,_,_,_,rfl,C.new<|C.none hp,by omega,M,C0 I,Cj _,?_,by rw[Y,N]⟩;have:=C8 (ps:=ps)<|pts++r;rw[O_]at this;simp at L;omega
   |iff x y=>
    refine Ct Jz<|B3<|Ng ?_;refine Bg (λB g=>∃(ch a2 o:Nat) (pts:oA Pt),B=[oF<|B0 t ps,oF<|Vg b,oF<|A0 d,oF<|A0 a,oF<|Fc<|q::r,oF<|A0 o,oF<|A0 st,oF<|.str "if",oF<|A0 ch,X] /\
     g=G/\atI (goL ps a q) (ch:Int)=oF (.tuple [A0 a2,.tuple<|pts.map ptD])/\(∀x∈pts,Bv ps x)/\pts.length<=2/\o<=b.length/\F4 ps (m+1) a (q::r) (b.drop i) st=F4 ps m a2 (strip ps<|pts++r) (b.drop o) (st+1)) (λW' S=>?_) ?_
    refine Ab rfl ⟨Az<|Jb _,J2,Eg UV<|S _ _ ⟨0,a,i,[(q.1,if a=1 then x else y)],rfl,rfl,by unfold goL;rw[e];rfl,?_,(bO rfl),hi,by rw[F4,e];rfl⟩⟩;refine B8 ?_ (λ_ z=>nomatch z);split;exact Dr V f7.1;exact Dr V f7.2;rintro B g ⟨ch,a2,o,pts,rfl,rfl,T,u,U,M,N⟩;have I:∀x∈pts++r,Bv ps x:=λx hx=>by rcases P_.mp hx with hx|hx;exact u x hx;exact J x<|aA _ hx
    have O:pts.map ptD++Dt (ptD q::r.map ptD) (some 1) none=(pts++r).map ptD:=by rw[Jl,L_]
    refine Ab (Aj (j:=0) rfl) ⟨t,ps,a,q,rfl,J q aK,λp hp=>?_⟩;refine Ab Ac<|Ab T<|Ab rfl<|Ab rfl ⟨?_,t,ps,pts++r,?_,I,?_⟩;have:(pts.map ptD).length+(Dt (ptD q::r.map ptD) (some 1) none).length<=1000:=by rw[Jl,B_,B_];have:=Q.most;simp at L;omega
    exact bR<|A3 this
    show [AV.D<|B0 t ps,AV.D<|.tuple<|pts.map ptD++Dt (ptD q::r.map ptD) (some 1) none]=_;rw[O];rfl;refine hW m _ _ (bG _) ⟨a2,strip ps<|pts++r,o,st+1,_,_,_,rfl,C.new<|C.none hp,by omega,M,C0 I,Cj _,?_,by rw[Y,N]⟩;have:=C8 (ps:=ps)<|pts++r;rw[O_]at this;simp at L;omega
   |ask x y=>
    refine Ct Hw<|B3<|Ng ?_;refine Bg (λB g=>∃(ch a2 o:Nat) (pts:oA Pt),B=[oF<|B0 t ps,oF<|Vg b,oF<|A0 d,oF<|A0 a,oF<|Fc<|q::r,oF<|A0 o,oF<|A0 st,oF<|.str "ask",oF<|A0 ch,X] /\
     g=G/\atI (goL ps a q) (ch:Int)=oF (.tuple [A0 a2,.tuple<|pts.map ptD])/\(∀x∈pts,Bv ps x)/\pts.length<=2/\o<=b.length/\F4 ps (m+1) a (q::r) (b.drop i) st=F4 ps m a2 (strip ps<|pts++r) (b.drop o) (st+1)) (λW' S=>?_) ?_
    ·refine Ab rfl ⟨Az<|Jb _,J2,Fk JP ⟨Bi _,Bi _,?_⟩⟩;cases ec:b.drop i with
     |nil=>
      have e0:i=b.length:=by have:=gW.mp ec;omega
      refine Fk ?_ ⟨μ,C,?_⟩;rw[e0];show PyData.eqv (.int _) (.int ((b.map A0).length:Nat))=true;rw[Fn];simp;rw[ec,F4,e]at h;exact h
     |cons c cr=>
      obtain⟨hc,Z⟩:=G8 ec;have ba:i<b.length:=(E_.mp hc).1;have bt:=Q.cs c<|N_ hc;have mn:atI (b.map A0) (i:Int)=some (A0 c):=Aj (by rw[G_,hc];rfl);refine Eg ?_<|Ab mn<|S _ _ ⟨c,a,i+1,[(q.1,if c=0 then x else y)],rfl,rfl,?_,?_,(bO rfl),ba,?_⟩;show PyData.eqv (.int _) (.int ((b.map A0).length:Nat))=false;rw[Fn,B_];exact aW (by omega);unfold goL;rw[e];have:c=0\/c=1:=by omega
      rcases this with rfl|rfl<;>rfl;refine B8 ?_ (λ_ z=>nomatch z);split;exact Dr V f7.1;exact Dr V f7.2;rw[ec,Z,F4,e];rfl
    rintro B g ⟨ch,a2,o,pts,rfl,rfl,T,u,U,M,N⟩;have I:∀x∈pts++r,Bv ps x:=λx hx=>by rcases P_.mp hx with hx|hx;exact u x hx;exact J x<|aA _ hx
    have O:pts.map ptD++Dt (ptD q::r.map ptD) (some 1) none=(pts++r).map ptD:=by rw[Jl,L_]
    refine Ab (Aj (j:=0) rfl) ⟨t,ps,a,q,rfl,J q aK,λp hp=>?_⟩;refine Ab Ac<|Ab T<|Ab rfl<|Ab rfl ⟨?_,t,ps,pts++r,?_,I,?_⟩;have:(pts.map ptD).length+(Dt (ptD q::r.map ptD) (some 1) none).length<=1000:=by rw[Jl,B_,B_];have:=Q.most;simp at L;omega
    exact bR<|A3 this
    show [AV.D<|B0 t ps,AV.D<|.tuple<|pts.map ptD++Dt (ptD q::r.map ptD) (some 1) none]=_;rw[O];rfl;refine hW m _ _ (bG _) ⟨a2,strip ps<|pts++r,o,st+1,_,_,_,rfl,C.new<|C.none hp,by omega,M,C0 I,Cj _,?_,by rw[Y,N]⟩;have:=C8 (ps:=ps)<|pts++r;rw[O_]at this;simp at L;omega
   |chance x y=>
    refine Ct Eu<|B3<|Ng ?_;refine Bg (λB g=>∃(ch a2 o:Nat) (pts:oA Pt),B=[oF<|B0 t ps,oF<|Vg b,oF<|A0 d,oF<|A0 a,oF<|Fc<|q::r,oF<|A0 o,oF<|A0 st,oF<|.str "chance",oF<|A0 ch,X] /\
     g=G/\atI (goL ps a q) (ch:Int)=oF (.tuple [A0 a2,.tuple<|pts.map ptD])/\(∀x∈pts,Bv ps x)/\pts.length<=2/\o<=b.length/\F4 ps (m+1) a (q::r) (b.drop i) st=F4 ps m a2 (strip ps<|pts++r) (b.drop o) (st+1)) (λW' S=>?_) ?_
    ·refine Ab rfl ⟨Az<|Jb _,J2,Fk Q5 ⟨Bi _,Bi _,?_⟩⟩;cases ec:b.drop i with
     |nil=>
      have e0:i=b.length:=by have:=gW.mp ec;omega
      refine Fk ?_ ⟨μ,C,?_⟩;rw[e0];show PyData.eqv (.int _) (.int ((b.map A0).length:Nat))=true;rw[Fn];simp;rw[ec,F4,e]at h;exact h
     |cons c cr=>
      obtain⟨hc,Z⟩:=G8 ec;have ba:i<b.length:=(E_.mp hc).1;have bt:=Q.cs c<|N_ hc;have mn:atI (b.map A0) (i:Int)=some (A0 c):=Aj (by rw[G_,hc];rfl);refine Eg ?_<|Ab mn<|S _ _ ⟨c,a,i+1,[(q.1,if c=0 then x else y)],rfl,rfl,?_,?_,(bO rfl),ba,?_⟩;show PyData.eqv (.int _) (.int ((b.map A0).length:Nat))=false;rw[Fn,B_];exact aW (by omega);unfold goL;rw[e];have:c=0\/c=1:=by omega
      rcases this with rfl|rfl<;>rfl;refine B8 ?_ (λ_ z=>nomatch z);split;exact Dr V f7.1;exact Dr V f7.2;rw[ec,Z,F4,e];rfl
    rintro B g ⟨ch,a2,o,pts,rfl,rfl,T,u,U,M,N⟩;have I:∀x∈pts++r,Bv ps x:=λx hx=>by rcases P_.mp hx with hx|hx;exact u x hx;exact J x<|aA _ hx
    have O:pts.map ptD++Dt (ptD q::r.map ptD) (some 1) none=(pts++r).map ptD:=by rw[Jl,L_]
    refine Ab (Aj (j:=0) rfl) ⟨t,ps,a,q,rfl,J q aK,λp hp=>?_⟩;refine Ab Ac<|Ab T<|Ab rfl<|Ab rfl ⟨?_,t,ps,pts++r,?_,I,?_⟩;have:(pts.map ptD).length+(Dt (ptD q::r.map ptD) (some 1) none).length<=1000:=by rw[Jl,B_,B_];have:=Q.most;simp at L;omega
    exact bR<|A3 this
    show [AV.D<|B0 t ps,AV.D<|.tuple<|pts.map ptD++Dt (ptD q::r.map ptD) (some 1) none]=_;rw[O];rfl;refine hW m _ _ (bG _) ⟨a2,strip ps<|pts++r,o,st+1,_,_,_,rfl,C.new<|C.none hp,by omega,M,C0 I,Cj _,?_,by rw[Y,N]⟩;have:=C8 (ps:=ps)<|pts++r;rw[O_]at this;simp at L;omega
def Gy{a:Type}{xs:oA a}{x:a}:T7 (xs++[x]).length (-1)=some xs.length:=by unfold T7;rw[M_<|by decide,T_<|by rw[O_];simp;omega];congr 1;rw[O_];simp;omega
def Fe{a:Type}{xs:oA a}{x y:a}:(xs++[x]).set xs.length y=xs++[y]:=by simp
def Rf{a:Type}{xs:oA a}{x:a}:(xs++[x])[(xs++[x]).length-1]?=some x:=by simp
def hereL(l:oA Pt):oA AV:=l.reverse.map L8
def Cl(q:Pt)(r:oA Pt):hereL (q::r)=hereL r++[L8 q]:=by unfold hereL;rw[List.reverse_cons,L_];rfl
def X2(l:oA Pt):(hereL l).length=l.length:=by unfold hereL;rw[B_,kC]
def X3:Bz (.tuple [.str "set",.str "call"]):=⟨by decide +kernel,by simp[PyData.depth,PyData.depthAll]⟩
def WI:([PyData.str "set",.str "call"].any λe=>PyData.eqv e<|.str "ask")=false:=by decide +kernel
def DF:([PyData.str "set",.str "call"].any λe=>PyData.eqv e<|.str "chance")=false:=by decide +kernel
def s_set:([PyData.str "set",.str "call"].any λe=>PyData.eqv e<|.str "set")=true:=by decide +kernel
def Qcf:([PyData.str "set",.str "call"].any λe=>PyData.eqv e<|.str "if")=false:=by decide +kernel
def PF:([PyData.str "set",.str "call"].any λe=>PyData.eqv e<|.str "call")=true:=by decide +kernel
def PH:([PyData.str "set",.str "call"].any λe=>PyData.eqv e<|.str "back")=false:=by decide +kernel
inductive Out|over|more|marked|lacks (k:Bool)
def Out.word:Out->Str
 |.over=> "over"
 |.more=> "more"
 |.marked=> "marked"
 |.lacks _=> "lacks"
def Out.due:Out->lG
 |.lacks true=>.str "ask"
 |.lacks false=>.str "chance"
 |_=>.none
def G9(ps:Prg):Nat->Nat->oA Pt->oA Nat->Nat->Out×Nat
 |_,_,[],_,st=>(.over,st)
 | 0,_,_::_,_,st=>(.more,st)
 |n+1,a,q::r,b,st=>match stepAt ps q with
  |none=>(.over,st)
  |some .mark=>(.marked,st+1)
  |some (.ask x y)=>match b with
   |[]=>(.lacks true,st)
   |c::b=>G9 ps n a (strip ps<|(q.1,if c=0 then x else y)::r) b (st+1)
  |some (.chance x y)=>match b with
   |[]=>(.lacks false,st)
   |c::b=>G9 ps n a (strip ps<|(q.1,if c=0 then x else y)::r) b (st+1)
  |some (.iff x y)=>G9 ps n a (strip ps<|(q.1,if a=1 then x else y)::r) b (st+1)
  |some (.set v)=>G9 ps n v (strip ps<|(q.1,q.2+1)::r) b (st+1)
  |some (.call k)=>G9 ps n a (strip ps<|(k,0)::(q.1,q.2+1)::r) b (st+1)
  |some .back=>G9 ps n a (strip ps r) b<|st+1
def JT(x:Out×Nat):lG:=.tuple [.str x.1.word,A0 x.2,x.1.due]
def JU(ps:Prg)(b:oA Nat)(a:Nat):lG:=JT<|G9 ps a 0 (strip ps [(0,0)]) b 0
def HX:ASp:=λc d R=>∃(e:Nat) (ps:Prg) (b:oA Nat) (a:Nat),c=[.D<|B0 e ps,.D<|Vg b,.D<|A0 a]/\RunIn ps b a/\R (.D<|JU ps b a) d
abbrev nRu:oA Str:=["_law_program_here","_law_choices","_law_most","_law_procedures","_law_switch","_law_used","_law_steps","_law_here","_law_k","_law_at","_law_step"]
def Km:FnScope nRu oW (Ai sRu):=Br<|by decide +kernel
def PJ(ps:Prg):lG:=.tuple<|ps.map Fb
def HY(g:Nat)(ps:Prg)(h:oA Nat)(b a i st:Nat)(d:lH)(e c j:oB AV):ASt:=[oF<|B0 g ps,oF<|Vg h,oF<|A0 b,oF<|PJ ps,oF<|A0 a,oF<|A0 i,oF<|A0 st,oD d,e,c,j]
def WJ{n:Nat}(F:Fun K "_law_run" "_law_run" sRu f fd) (ah:mg "len" = none):FnOk P w K mg base Dm (n+1) f fd oW (D5 K 3 HX):=by
 refine F.vok Km λam A outer s H E hr=>⟨_,(Ae (Am (i:=3) Km.nd rfl oH<|Aw Bd (vv 0) Af)<|Ae (Am (i:=4) Km.nd rfl oH Af)<|Ae (Am (i:=5) Km.nd rfl oH Af)<|Ae (Am (i:=6) Km.nd rfl oH Af)<|Ae (Am (i:=7) Km.nd rfl oH<|Bu<|Aa (Aq<|Aa Af<|Aa Af Ad) Ad)<|Ah<|E3 aD (Jh Ez)<|Ae (E3 aD (VW.pt<|Hr (Ax Ki (A8 Di rfl ah bH<|Aa (vv 7) Ad) Af<|nomark _)<|Fl<|Ax (C1 hr) (Aw Bd (Aw Bd (vv 7)<|Jj Af) Af) (A8 Di rfl ah bH<|Aa (Aw Bd (vv 3)<|Aw Bd (Aw Bd (vv 7)<|Jj Af) Af) Ad)<|nomark _)<|Ah<|Bw<|Zo jD jE JE<|vv 7)<|Ae (Bq (Ax (C1 hr) (A8 Di rfl ah bH<|Aa (vv 7) Ad) Af<|nomark _) (Ah<|Ay<|Aq<|Aa Bb<|Aa (vv 6)<|Aa D3 Ad) A6)<|Ae (Bq (Ax (C1 hr) (vv 6) (vv 2)<|nomark _) (Ah<|Ay<|Aq<|Aa Bb<|Aa (vv 6)<|Aa D3 Ad) A6)<|Ae (Fm (Aw Bd (vv 7)<|Jj Af)<|Cz (n:=2) rfl<|Ao (Ak (i:=8) Km.nd rfl oH)<|Ao (Ak (i:=9) Km.nd rfl oH) Bs)<|Ae (Am (i:=10) Km.nd rfl oH<|Aw Bd (Aw Bd (vv 3)<|vv 8)<|vv 9)<|Ae (Bq (Ax (Wq hr) (Aw Bd (vv 10) Af) (Aq<|Aa Bb<|Aa Bb Ad)<|by with_unfolding_all rfl) (Ae (Bq (Ax (C1 hr) (vv 5) (A8 Di rfl ah bH<|Aa (vv 1) Ad)<|nomark _) (Ah<|Ay<|Aq<|Aa Bb<|Aa (vv 6)<|Aa (Aw Bd (vv 10) Af) Ad) A6)<|Ae (Fm (Aq<|Aa (vv 8)<|Aa (Aw Bd (vv 10)<|A9 B6 Af<|Aw Bd (vv 1)<|vv 5) Ad)<|Ji (vv 7)<|Jj Af)<|Ah<|Am (i:=5) Km.nd rfl oH<|A9 B6 (vv 5) Af) A6)<|Ae (Am (i:=6) Km.nd rfl oH<|A9 B6 (vv 6) Af)<|Ae (Bq (Ax (C1 hr) (Aw Bd (vv 10) Af) Bb<|nomark _) (Ah<|Ay<|Aq<|Aa Bb<|Aa (vv 6)<|Aa D3 Ad) A6)<|Ae (Bq (Ax (C1 hr) (Aw Bd (vv 10) Af) Bb<|nomark _) (Ah<|Fm (Aq<|Aa (vv 8)<|Aa (Aw Bd (Bu<|Aa (Aw Bd (vv 10) Af)<|Aa (Aw Bd (vv 10) Af) Ad)<|vv 4) Ad)<|Ji (vv 7)<|Jj Af) A6)<|Ae (Bq (Ax (C1 hr) (Aw Bd (vv 10) Af) Bb<|nomark _) (Ah<|Am (i:=4) Km.nd rfl oH<|Aw Bd (vv 10) Af) A6)<|Ae (Bq (Ax (Wq hr) (Aw Bd (vv 10) Af) (Aq<|Aa Bb<|Aa Bb Ad)<|by with_unfolding_all rfl) (Ah<|Fm (Aq<|Aa (vv 8)<|Aa (A9 B6 (vv 9) Af) Ad)<|Ji (vv 7)<|Jj Af) A6)<|Ae (Bq (Ax (C1 hr) (Aw Bd (vv 10) Af) Bb<|nomark _) (Ah<|Bw<|Dj bI bJ Cy (vv 7)<|Aa (Aq<|Aa (Aw Bd (vv 10) Af)<|Aa Af Ad) Ad) A6)<|Ah<|Bq (Ax (C1 hr) (Aw Bd (vv 10) Af) Bb<|nomark _) (Ah<|Bw<|Zo jD jE JE<|vv 7) A6),?_⟩
 rintro xs J R _ ⟨sw,ps,o,d,rfl,Z,h⟩;refine Ab rfl ?_;intro G xu;refine G3 (λm U X=>∃(a:Nat) (l:oA Pt) (i st:Nat) (N L T:oB AV),U=HY sw ps o d a i st G N L T/\X G=oG (hereL l) /\
  Sub J X/\st+m=d/\i<=o.length/\a<=1/\(∀q∈l,Bv ps q)/\l.length<=st+1/\JU ps o d=JT (G9 ps m a (strip ps l) (o.drop i) st)) d ⟨0,[(0,0)],0,0,none,none,none,rfl,Ac,Sub.refl.new xu,eY _,aG _,aG _,B8 (Em Z.ne) (λ_ z=>nomatch z),J_ _,rfl⟩ ?_
 rintro m U X W ⟨a,l,i,st,N,L,T,rfl,hh,hs,em,hi,I,hl,ag,er⟩ hW;rw[er]at h;refine Fk rfl ?_;refine Bg (λU t=>U=HY sw ps o d a i st G N L T/\t G=oG (hereL<|strip ps l)/\Sub J t) (λW' dc=>?_) ?_
 ·refine G3 (λm2 U t=>∃r,m2=r.length/\U=HY sw ps o d a i st G N L T/\t G=oG (hereL r)/\Sub J t/\strip ps r=strip ps l/\(∀q∈r,Bv ps q)) l.length ⟨l,rfl,rfl,hh,hs,rfl,hl⟩ ?_;rintro m2 U t W2 ⟨r,rfl,rfl,g,B,O,g4⟩ hW2;cases r with
  |nil=>refine Ab g (dif (λc=>absurd c<|by decide) λc=>Eg rfl<|dc _ _ ⟨rfl,?_,B⟩);rw[<- O];exact g
  |cons q r=>
   rw[Cl]at g;refine Ab g (dif (λ_=>?_) λc=>absurd (show(0:Int)<((hereL r++[L8 q]).length:Nat) by simp) c);obtain⟨p,C,e2⟩:=g4 q aK;have i1:atI (ps.map Fb) (q.1:Int)=some (Fb p):=Aj (by rw[G_,C];rfl);refine Ab g<|Ab (Kz _ _)<|Ab rfl<|Ab g<|Ab (Kz _ _)<|Ab rfl<|Ab i1<|ieq (λc=>?_) λc=>?_;have c:q.2=p.length:=by have c:(q.2:Int)=((p.map Stp.D).length:Nat):=c;rw[B_]at c;omega
   have en:stepAt ps q=none:=by unfold stepAt;rw[C];exact List.getElem?_eq_none_iff.mpr<|by omega
   refine⟨Ab g trivial,Ab g<|Ab Rf<|hW2 r.length _ _ (bG _) ⟨r,rfl,rfl,?_,?_,?_,λx hx=>g4 x<|aA _ hx⟩⟩;rw[Ac,List.dropLast_concat];intro b m e;rw[Ag<|by intro z;subst z;rw[xu]at e;cases e];exact B b m e;rw[<- O,strip,en];have c:¬q.2=p.length:=by have c:(q.2:Int)≠((p.map Stp.D).length:Nat):=c;rw[B_]at c;omega
   have en:stepAt ps q=some (p[q.2]'(by omega)):=by unfold stepAt;rw[C];exact F_<|by omega
   refine dc _ _ ⟨rfl,?_,B⟩;rw[<- O,strip,en,Cl];exact g
 rintro U t ⟨rfl,g,B⟩;have dz:=C0 hl;have i6:=C8 (ps:=ps) l;have n6:=@Ly ps l;generalize strip ps l=l2 at g h dz i6 er n6;cases l2 with
 |nil=>refine Ab g<|ieq (λ_=>⟨J,B,?_⟩) λc=>absurd rfl c;cases m<;>exact h
 |cons q r=>
  rw[Cl]at g;refine Ab g (ieq (λc=>absurd c<|by show((hereL r++[L8 q]).length:Int)≠0;simp;omega) λ_=>?_);cases m with
  |zero=>exact ieq (λ_=>⟨J,B,h⟩) (λc=>absurd (show(st:Int)=d by omega) c)
  |succ m=>
   refine ieq (λc=>absurd c<|show(st:Int)≠d by omega) λ_=>?_;obtain⟨s,e⟩:=n6 rfl;obtain⟨p,C,e2⟩:=Iv e;have Q:=CT Z.ok C e2;have i1:atI (ps.map Fb) (q.1:Int)=some (Fb p):=Aj (by rw[G_,C];rfl);have i2:atI (p.map Stp.D) (q.2:Int)=some s.D:=Aj (by rw[G_,e2];rfl);have cv:∀x∈r,Bv ps x:=λx hx=>dz x<|aA _ hx;have put:∀(u:M) (xs:oA AV),Sub J u->Sub J (An u G<|.lst xs):=λu xs S b m e=>by rw[Ag<|by intro z;subst z;rw[xu]at e;cases e];exact S b m e
   refine Ab g<|Ab (Kz _ _) ⟨rfl,Ab i1<|Ab i2 ?_⟩;have again:∀(a2 Y:Nat) (pts:oA Pt) (u:M) (N L T:oB AV),u G=oG (hereL<|pts++r)->Sub J u->Y<=o.length->a2<=1->(∀x∈pts,Bv ps x)->pts.length<=2->G9 ps (m+1) a (q::r) (o.drop i) st=G9 ps m a2 (strip ps<|pts++r) (o.drop Y) (st+1) ->
     W (HY sw ps o d a2 Y (st+1) G N L T) u:=λa2 Y pts u N L T w1 w2 w3 w4 w5 w6 w7=>by
    refine hW m _ _ (bG _) ⟨a2,pts++r,Y,st+1,N,L,T,rfl,w1,w2,by omega,w3,w4,?_,?_,by rw[er,w7]⟩;intro x hx;rcases P_.mp hx with hx|hx;exact w5 x hx;exact cv x hx;rw[O_];simp at i6;omega
   cases s with
   |mark=>rw[G9,e]at h;exact Ab (Aj (j:=0) rfl) (Ab rfl ⟨Az<|Jb _,J2,Eg OK<|Ab (Aj (j:=0) rfl)<|Va Gx ⟨J,B,h⟩⟩)
   |back=>refine Ab (Aj (j:=0) rfl)<|Ab rfl ⟨Az<|Jb _,J2,Eg CS<|Ab (Aj (j:=0) rfl)<|Ct Gw<|Ab (Aj (j:=0) rfl)<|Ct Xu<|Ab (Aj (j:=0) rfl)<|Ct L4<|Ab (Aj (j:=0) rfl)<|Ab rfl ⟨Az<|Jb _,X3,Eg PH<|Ab (Aj (j:=0) rfl)<|Ct Kc<|Ab (Aj (j:=0) rfl)<|Va Kd ⟨Ab g trivial,Ab g<|Ab Rf ?_⟩⟩⟩;refine again a i [] _ _ _ _ ?_ (put _ _ B) hi I (λ_ z=>nomatch z) (bO rfl) (by rw[G9,e];rfl);rw[Ac,List.dropLast_concat];rfl
   |set v=>refine Ab (Aj (j:=0) rfl)<|Ab rfl ⟨Az<|Jb _,J2,Eg JQ<|Ab (Aj (j:=0) rfl)<|Ct Hy<|Ab (Aj (j:=0) rfl)<|Ct CP<|Ab (Aj (j:=0) rfl)<|Va Jx<|Ab (Aj (j:=1) rfl)<|Ab (Aj (j:=0) rfl)<|Ab rfl ⟨Az<|Jb _,X3,Fk s_set<|Ab g<|Ab Gy<|Ab (Aj (j:=0) rfl)<|Ct Hx<|Ab (Aj (j:=0) rfl)<|Ct L0<|?_⟩⟩;refine again v i [(q.1,q.2+1)] _ _ _ _ ?_ (put _ _ B) hi Q (B8 (G7 C e2) (λ_ z=>nomatch z)) (bO rfl) (by rw[G9,e];rfl);rw[Ac,Fe];exact cV (λx=>some<|MO.lst x) (Cl (q.1,q.2+1) r).symm
   |call k=>have O:∀x,An t G x G=some x:=λ_=>Ac;refine Ab (Aj (j:=0) rfl)<|Ab rfl ⟨Az<|Jb _,J2,Eg CQ<|Ab (Aj (j:=0) rfl)<|Ct Gv<|Ab (Aj (j:=0) rfl)<|Ct Xt<|Ab (Aj (j:=0) rfl)<|Ct L3<|Ab (Aj (j:=0) rfl)<|Ab rfl ⟨Az<|Jb _,X3,Fk PF<|Ab g<|Ab Gy<|Ab (Aj (j:=0) rfl)<|Va Gu ⟨Ab (O _) trivial,Ab (Aj (j:=1) rfl)<|Ab (O _) ⟨?_,Ab (Aj (j:=0) rfl)<|Ct Ka<|?_⟩⟩⟩⟩;rw[Fe];exact A3 (by rw[O_,X2];simp at i6 ⊢;have:=Z.most;omega);refine again a i [(k,0),(q.1,q.2+1)] _ _ _ _ ?_ (put _ _<|put _ _ B) hi I (B8 (Em Q)<|B8 (G7 C e2) (λ_ z=>nomatch z)) (bO rfl) (by rw[G9,e];rfl);rw[Ac,Fe];refine cV (λx=>some<|MO.lst x) ?_;show _=hereL ((k,0)::(q.1,q.2+1)::r);rw[Cl,Cl];rfl
   |iff x y=>
    refine Ab (Aj (j:=0) rfl)<|Ab rfl ⟨Az<|Jb _,J2,Eg UV<|Ab (Aj (j:=0) rfl)<|Ct Jz<|Ab (Aj (j:=0) rfl)<|Va Vb<|Ab (Aj (j:=2) rfl)<|Ab (Aj (j:=1) rfl) ?_⟩;intro pl hpl;have yo:G≠pl:=Nt g hpl;have O:An t pl (.lst [.D<|A0 y,.D<|A0 x]) G=oG (hereL r++[L8 q]):=by rw[Ag yo];exact g
    have ix:atI [AV.D<|A0 y,AV.D<|A0 x] (a:Int)=oF (A0<|if a=1 then x else y):=by
     have:a=0\/a=1:=by omega
     rcases this with rfl|rfl<;>rfl
    refine Ab Ac<|Ab ix<|Ab O<|Ab Gy<|Ab (Aj (j:=0) rfl)<|Ct L1<|Ab (Aj (j:=0) rfl)<|Ab rfl ⟨Az<|Jb _,X3,Eg Qcf<|Ab (Aj (j:=0) rfl)<|Ct Jy<|Ab (Aj (j:=0) rfl)<|Ct Nr<|?_⟩;refine again a i [(q.1,if a=1 then x else y)] _ _ _ _ ?_ (put _ _<|B.new<|B.none hpl) hi I (B8 ?_ (λ_ z=>nomatch z)) (bO rfl) (by rw[G9,e];rfl);rw[Ac,Fe];exact cV (λx=>some<|MO.lst x) (Cl (q.1,if a=1 then x else y) r).symm;split;exact Dr C Q.1;exact Dr C Q.2
   |ask x y=>
    refine Ab (Aj (j:=0) rfl)<|Ab rfl ⟨Az<|Jb _,J2,Fk JP ?_⟩;cases ec:o.drop i with
    |nil=>
     have e0:i=o.length:=by have:=gW.mp ec;omega
     refine ieq (λ_=>Ab (Aj (j:=0) rfl) ⟨J,B,?_⟩) (λc=>absurd (show(i:Int)=((o.map A0).length:Nat) by rw[B_,e0]) c);rw[ec,G9,e]at h;exact h
    |cons c cr=>
     obtain⟨hc,V⟩:=G8 ec;have ba:i<o.length:=(E_.mp hc).1;have bt:=Z.cs c<|N_ hc;have mn:atI (o.map A0) (i:Int)=some (A0 c):=Aj (by rw[G_,hc];rfl);have ix:atI (PyData.str "ask" :: [x,y].map A0) (1+(c:Int))=some (A0<|if c=0 then x else y):=by
      have:c=0\/c=1:=by omega
      rcases this with rfl|rfl<;>rfl
     refine ieq (λz=>absurd (show(i:Int)=((o.map A0).length:Nat) from z)<|by rw[B_];omega) λ_=>?_;refine Ab mn<|Ab ix<|Ab g<|Ab Gy<|Ab (Aj (j:=0) rfl)<|Ct Hw<|Ab (Aj (j:=0) rfl)<|Ct Q4<|Ab (Aj (j:=0) rfl)<|Ct Jw<|Ab (Aj (j:=0) rfl)<|Ab rfl ⟨Az<|Jb _,X3,Eg WI<|Ab (Aj (j:=0) rfl)<|Ct Hv<|Ab (Aj (j:=0) rfl)<|Ct Lz<|?_⟩;refine again a (i+1) [(q.1,if c=0 then x else y)] _ _ _ _ ?_ (put _ _ B) ba I (B8 ?_ (λ_ z=>nomatch z)) (bO rfl) (by rw[ec,V,G9,e];rfl);rw[Ac,Fe];exact cV (λx=>some<|MO.lst x) (Cl (q.1,if c=0 then x else y) r).symm;split;exact Dr C Q.1;exact Dr C Q.2
   |chance x y=>
    refine Ab (Aj (j:=0) rfl)<|Ab rfl ⟨Az<|Jb _,J2,Fk Q5 ?_⟩;cases ec:o.drop i with
    |nil=>
     have e0:i=o.length:=by have:=gW.mp ec;omega
     refine ieq (λ_=>Ab (Aj (j:=0) rfl) ⟨J,B,?_⟩) (λc=>absurd (show(i:Int)=((o.map A0).length:Nat) by rw[B_,e0]) c);rw[ec,G9,e]at h;exact h
    |cons c cr=>
     obtain⟨hc,V⟩:=G8 ec;have ba:i<o.length:=(E_.mp hc).1;have bt:=Z.cs c<|N_ hc;have mn:atI (o.map A0) (i:Int)=some (A0 c):=Aj (by rw[G_,hc];rfl);have ix:atI (PyData.str "chance" :: [x,y].map A0) (1+(c:Int))=some (A0<|if c=0 then x else y):=by
      have:c=0\/c=1:=by omega
      rcases this with rfl|rfl<;>rfl
     refine ieq (λz=>absurd (show(i:Int)=((o.map A0).length:Nat) from z)<|by rw[B_];omega) λ_=>?_;refine Ab mn<|Ab ix<|Ab g<|Ab Gy<|Ab (Aj (j:=0) rfl)<|Ct Eu<|Ab (Aj (j:=0) rfl)<|Ct J9<|Ab (Aj (j:=0) rfl)<|Ct Fr<|Ab (Aj (j:=0) rfl)<|Ab rfl ⟨Az<|Jb _,X3,Eg DF<|Ab (Aj (j:=0) rfl)<|Ct Et<|Ab (Aj (j:=0) rfl)<|Ct Hj<|?_⟩;refine again a (i+1) [(q.1,if c=0 then x else y)] _ _ _ _ ?_ (put _ _ B) ba I (B8 ?_ (λ_ z=>nomatch z)) (bO rfl) (by rw[ec,V,G9,e];rfl);rw[Ac,Fe];exact cV (λx=>some<|MO.lst x) (Cl (q.1,if c=0 then x else y) r).symm;split;exact Dr C Q.1;exact Dr C Q.2
def Qcg{x:AV}{i:Nat}{u:AS}{k:ASt->M->Prop}{r:AV->M->Prop}{b c:ASt->M->Prop}{τ:ASt}{a:M}(h:u k r b c (τ.set i<|some x) a):Ws (Sd (vC x)<|D1 i) u k r b c τ a:=h
def Vi(m n:Nat):Builtin.bitOr (m:Int) (n:Int)=((m |||n:Nat):Int):=by
 have a:∀k:Nat,Builtin.bitNot (k:Int)=-(k:Int)-1:=λ_=>rfl;unfold Builtin.bitOr;rw[a,a];unfold Builtin.bitAnd;rw[aW<|by omega,aW<|by omega];show Builtin.bitNot (Builtin.bitNot (((Builtin.bitNot<|-(m:Int)-1).toNat ||| (Builtin.bitNot<|-(n:Int)-1).toNat:Nat):Int))=_;have b:∀k:Nat,(Builtin.bitNot<|-(k:Int)-1).toNat=k:=λk=>by show(-(-(k:Int)-1)-1).toNat=k;omega
 rw[b,b];show -(-((m |||n:Nat):Int)-1)-1=_;omega
def DG(m n:Nat):Builtin.bitAnd (m:Int) (n:Int)=((m &&& n:Nat):Int):=by
 unfold Builtin.bitAnd;rw[aV<|gD _,aV<|gD _]
 rfl
def bts:oA Nat->Nat:=List.foldl (λb k=>b ||| 2^k) 0
abbrev nAb:oA Str:=["stands","bits","stand"]
def HZ:FnScope nAb ["stands"] (Ai sAb):=Br<|by decide +kernel
def PK:ASp:=λb a R=>∃(x:AV) (ts:oA Nat),b=[x]/\items a x=some (ts.map Ch)/\(∀t∈ts,t<60)/\R (.D<|.int (bts ts:Nat)) a
def WK{n:Nat}(F:Fun K "as_bits" "as_bits" sAb f fd):FnOk P w K mg base Dm (n+1) f fd ["stands"] (D5 K 1 PK):=by
 refine F.vok HZ λk A d s H E hr=>⟨_,(Ae (Am (i:=1) HZ.nd rfl oH Af)<|Ae (Ca aD rfl (Bo<|vv 0) (Ak (i:=2) HZ.nd rfl oH)<|Ah<|Am (i:=1) HZ.nd rfl oH<|A9 JJ (vv 1)<|A9 TR Af<|vv 2)<|Ah<|Ay<|vv 1),?_⟩
 rintro m g R _ ⟨x,ts,rfl,hx,ht,q⟩;refine Qcg<|Bg (λc a=>∃b,c=[some x,oE (bts ts:Nat),b]/\g=a) (λZ j=>?_) ?_;refine Ab hx ?_;refine C9 (λi c a=>∃b,c=[some x,oE (bts (ts.take i):Nat),b]/\g=a) ⟨none,rfl,rfl⟩ (by rintro _ _ _ ⟨_,_,e⟩;subst e;exact hx) ?_ ?_;rintro i y c _ l hy ⟨b,rfl,rfl⟩ hZ2;rw[G_]at hy;obtain⟨t,h1,rfl⟩:=I_.mp hy;have h:=ht t<|N_ h1;refine⟨⟨gD _,by omega,by decide⟩,hZ2 _ _ ⟨some<|Ch t,?_,rfl⟩⟩;have e:Builtin.bitOr (bts (ts.take i):Nat) (1*2^(t:Int).toNat)=((bts (ts.take<|i+1):Nat):Int):=by rw[Int.one_mul,fO,show((2:Int)^t)=((2^t:Nat):Int) by rw[Int.natCast_pow];rfl,Vi,aM,h1];unfold bts;rw[List.foldl_append];rfl
 rw[<- e];rfl;rintro c _ ⟨b,rfl,rfl⟩;rw[B_,aJ];exact j _ _ ⟨_,rfl,rfl⟩;rintro c _ ⟨b,rfl,rfl⟩;exact⟨_,Sub.refl,q⟩
def IA(k:Nat):Gf 0 k=(List.range k).map Ch:=by
 refine iV λj=>?_;rcases cL j k with h|h;have h1:j<(Gf 0 k).length:=by rw[Cb];exact h
 rw[F_ h1,Gg _ _ _<|F_ h1,G_,List.getElem?_range h];show some _=some (Ch j);unfold Ch;rw[Int.zero_add];rw[fD<|by rw[Cb];exact h,fD<|by rw[B_,bE];exact h]
def B4(n:Nat):oA Nat:=(List.range 5).filter λk=>n.testBit k
abbrev nAs:oA Str:=["bits"]
def Qch:FnScope nAs ["bits"] (Ai YV):=Br<|by decide +kernel
def WL:(["stand","bits"]:oA Str).Nodup:=by decide +kernel
def PL:ASp:=λb c R=>∃(n:Nat),b=[.D<|.int n]/\n<32/\∀ a,Sub c a->R (.D<|Bt<|B4 n) a
def WM{n:Nat}(F:Fun K "as_stands" "as_stands" YV f fd) (r:mg "tuple" = none) (p:mg "range" = none):FnOk P w K mg base Dm (n+1) f fd ["bits"] (D5 K 1 PL):=by
 refine F.vok Qch λy A d s H E hr=>⟨_,(Ah<|Ay<|C2 Ej rfl r cK<|Aa (Cf (N':=["stand","bits"]) (mp:=[none,some 0]) rfl (Dv rfl p<|Aa (NV PyProof.Rows.slot_int_bit_length PyProof.Rows.type_int_bit_length NU<|vv 0) Ad) (λ_ _ _ _=>(Ak (i:=0) WL rfl oH oI)) (λ_ _ _ _=>(Ih<|Ax (C1 hr) (A9 BJ (A9 TU (vv 1)<|vv 0) Af) Af<|nomark _)) (λ_ _ _ _=>(vv 0))<|Bc (N:=nAs) (pn:=(Ai YV).names)<|by decide +kernel) Ad),?_⟩;rintro B z R _ ⟨n,rfl,l,q⟩;have hb:∀n:Fin 32,Builtin.Int.intBits ((n.val:Nat):Int)<=5/\(List.range<|Builtin.Int.intBits ((n.val:Nat):Int)).filter (λk=>n.val.testBit k)=B4 n.val:=by decide +kernel
 obtain⟨g,b⟩:=hb ⟨n,l⟩;have g:Builtin.Int.intBits (n:Int)<=5:=g;have b:(List.range<|Builtin.Int.intBits (n:Int)).filter (λk=>n.testBit k)=B4 n:=b;refine⟨trivial,by omega,by omega,λx a=>?_⟩;rw[fO,IA];refine cmapf (List.range<|Builtin.Int.intBits (n:Int)) Ch (λk=>n.testBit k) Ch (λm=>∃o,m=[o,oE n]) ⟨none,rfl⟩ Ac (seven<|by rw[bE];omega) (λ_=>trivial) ?_ ?_;rintro i k v u W C hk ⟨o,rfl⟩ w1 w2;have e:Builtin.bitAnd ((n:Int) / 2^(k:Int).toNat) 1=((n / 2^k%2:Nat):Int):=by rw[fO,show((n:Int) / 2^k)=((n / 2^k:Nat):Int) by rw[Int.natCast_ediv,Int.natCast_pow];rfl,show(1:Int)=((1:Nat):Int) from rfl,DG,Nat.and_one_is_mod]
 have t:n.testBit k=decide (n / 2^k%2=1):=Nat.testBit_eq_decide_div_mod_eq;have j:PyData.eqv (.int<|Builtin.bitAnd ((n:Int) / 2^(k:Int).toNat) 1) (.int 1)=n.testBit k:=by rw[e,Fn,t];exact g_.mpr ⟨λh=>by omega,λh=>by omega⟩
 exact⟨gD _,Bi _,Bi _,br (λc=>w1 (j.symm.trans c) _ ⟨_,rfl⟩) λc=>w2 (j.symm.trans c) _ ⟨_,rfl⟩⟩
 rw[b];refine Ab (Av Ac)<|Ab (Lw _) ⟨_,Sub.refl,q _<|(Sub.refl.new a).new a⟩
def PM{n:Nat}(h:n<=300000):n<sizeLine:=dG h<|by decide
abbrev Pr:=Nat×Nat
def Hf(p:Pr):lG:=.tuple [.int (p.1:Nat),.int (p.2:Nat)]
def Ba(p:Pr):AV:=.D<|Hf p
def ewe(p o:Pr):Pr:=(max p.1 o.1,p.2 |||o.2)
def Rg(p:Pr):oA Key×AV:=([.inl (p.1:Nat),.inl (p.2:Nat)],.D<|.bool true)
def adz(a:oA Pr)(z:Pr):oA Pr:=if z∈a then a else a++[z]
def PN{p q:Pr}(h:(Rg p).1=(Rg q).1):p=q:=by obtain⟨a,b⟩:=p;obtain⟨c,d⟩:=q;have h:([.inl ((a:Nat):Int),.inl ((b:Nat):Int)]:oA Key)=[.inl ((c:Nat):Int),.inl ((d:Nat):Int)]:=h;injection h with h1 h2;injection h2 with h2 _;have h1:=gO<|iJ h1;have h2:=gO<|iJ h2;rw[h1,h2]
def PP(b:oA Pr)(z:Pr):Fo (b.map Rg) (Rg z).1 (.D<|.bool true)=(adz b z).map Rg:=by
 unfold Fo adz;by_cases h:z∈b;rw[T_<|bX.mpr ⟨Rg z,DD.mpr ⟨z,h,rfl⟩,aV rfl⟩,T_ h,aE];refine fV λp _=>?_;show(if(Rg p).1=(Rg z).1 then((Rg p).1,AV.D<|.bool true) else Rg p)=Rg p;split<;>rfl;rw[M_,M_ h,L_]
 rfl
 intro a;obtain⟨c,h1,h2⟩:=bX.mp a;obtain⟨p,hp,rfl⟩:=DD.mp h1;rw[<- PN (aF h2)]at h;exact h hp
def IB{a:oA Pr}{z y:Pr}:y∈adz a z↔y∈a\/y=z:=by unfold adz;split;rename_i h;exact⟨.inl,λc=>c.elim id λe=>by rw[e];exact h⟩;rw[P_,H_]
def PQ{c:oA Pr}{z:Pr}(h:c.Nodup):(adz c z).Nodup:=by unfold adz;split;exact h;rename_i d;exact bL.mpr ⟨h,cP.mpr ⟨by simp,bQ⟩,λa ha b hb e=>d<|by rw[H_.mp hb]at e;rw[<- e];exact ha⟩
def IC(a:oA Pr)(z:Pr):(adz a z).length<=a.length+1:=by unfold adz;split;exact dW _;rw[O_];exact J_ _
def Rh{a b:lG}{i j:Nat}{τ:ASt}{c:M}{R:ASt->M->Prop}(h:R ((τ.set i<|oF a).set j<|oF b) c):E1 (D1 i) (E1 (D1 j) Px) (List.map AV.D [a,b]) τ c R:=h
def Cp{c b:M}{x:AV}{g:oA AV}(h:items c x=some g)(S:Sub c b):items b x=some g:=by
 cases x with
 |R a=>
  have h:(match c a with|some (.lst i)=>some i|_=>none)=some g:=h;cases e:c a with
  |none=>rw[e]at h;cases h
  |some m=>
   rw[e]at h;cases m with
   |lst i=>cases h;exact Av (S a _ e)
   |_=>cases h
 |D d=>cases d<;>exact h
 |_=>exact h
abbrev nEe:oA Str:=["pairs","others","found","cost","bits","other_cost","other_bits"]
def X4:FnScope nEe qH (Ai sEe):=Br<|by decide +kernel
def WN:ASp:=λc b R=>∃(x y:AV) (P O:oA Pr),c=[x,y]/\items b x=some (P.map Ba)/\items b y=some (O.map Ba)/\P.length*O.length<=200000/\∀(a:oA Pr) (l:lH) μ',(∀z,z∈a↔∃p∈P,∃o∈O,z=ewe p o)->a.Nodup->a.length<=P.length*O.length->b l=none->μ' l=oG (a.map Ba)->Sub b μ'->R (.R l) μ'
def WO{n:Nat}(F:Fun K "each_with_each" "each_with_each" sEe f fd) (jg:mg "max" = none) (Y:mg "list" = none):FnOk P w K mg base Dm (n+1) f fd qH (D5 K 2 WN):=by
 refine F.vok X4 λam A S s H E hr=>⟨_,(Ae (Am (i:=2) X4.nd rfl oH E4)<|Ae (Ca aD rfl (Bo<|vv 0) (Cz (n:=2) rfl<|Ao (Ak (i:=3) X4.nd rfl oH)<|Ao (Ak (i:=4) X4.nd rfl oH) Bs)<|Ah<|Ca aD rfl (Bo<|vv 1) (Cz (n:=2) rfl<|Ao (Ak (i:=5) X4.nd rfl oH)<|Ao (Ak (i:=6) X4.nd rfl oH) Bs)<|Ah<|Ek (Dh hr) (vv 2) (Aq<|Aa (A8 (MW rfl) rfl jg PyProof.Rows.boot_max<|Aa (vv 3)<|Aa (vv 5) Ad)<|Aa (A9 JJ (vv 4)<|vv 6) Ad) Ez)<|Ah<|Ay<|C2 (HC rfl) rfl Y PyProof.Rows.boot_list<|Aa (vv 2) Ad),?_⟩
 rintro xs t R _ ⟨x,y,P,O,rfl,hx,hy,hn,q⟩;intro d B;have S0:Sub t (An t d<|.dt []):=Sub.refl.new B;refine Bg (λr g=>∃G I k m,∃a:oA Pr,r=[some x,some y,oD d,G,I,k,m]/\(∀z,z∈a↔∃p∈P,∃o∈O,z=ewe p o)/\a.Nodup/\a.length<=P.length*O.length/\g=An t d (.dt<|a.map Rg)) (λZ hZ=>?_) ?_;refine Ab (Cp hx S0) ?_;refine C9 (λi r g=>∃G I k m,∃a:oA Pr,r=[some x,some y,oD d,G,I,k,m]/\(∀z,z∈a↔∃p∈P.take i,∃o∈O,z=ewe p o)/\a.Nodup/\a.length<=i*O.length/\g=An t d (.dt<|a.map Rg)) ⟨none,none,none,none,[],rfl,by simp,bQ,aG _,rfl⟩ (by rintro _ _ _ ⟨_,_,_,_,_,_,_,_,_,e⟩;subst e;exact Cp hx<|Sub.refl.new B) ?_ ?_;rintro i v r _ Z2 hv ⟨G,I,k,m,a,rfl,C,hnd,J,rfl⟩ hZ2;rw[G_]at hv;obtain⟨p,hp,rfl⟩:=I_.mp hv;have hi:=(E_.mp hp).1;have a9:P.take (i+1)=P.take i++[p]:=by rw[aM,hp];rfl
 refine⟨rfl,Rh ?_⟩;dsimp only[List.set];refine Ab (Cp hy<|Sub.refl.new B) ?_;have yt:(i+1)*O.length<=P.length*O.length:=Nat.mul_le_mul_right _ hi;have W:(i+1)*O.length=i*O.length+O.length:=Nat.succ_mul _ _;refine C9 (λj r g=>∃k m,∃b:oA Pr,r=[some x,some y,oD d,oE (p.1:Nat),oE (p.2:Nat),k,m]/\(∀z,z∈b↔z∈a\/∃o∈O.take j,z=ewe p o)/\b.Nodup/\b.length<=i*O.length+j/\g=An t d (.dt<|b.map Rg)) ⟨k,m,a,rfl,by simp,hnd,J,rfl⟩ (by rintro _ _ _ ⟨_,_,_,_,_,_,_,e⟩;subst e;exact Cp hy<|Sub.refl.new B) ?_ ?_;rintro j u r _ Z3 hu ⟨k,m,b,rfl,L,c,V,rfl⟩ b8;rw[G_]at hu;obtain⟨o,U,rfl⟩:=I_.mp hu;have hj:=(E_.mp U).1;have N:O.take (j+1)=O.take j++[o]:=by rw[aM,U];rfl
 refine⟨rfl,Rh ?_⟩;dsimp only[List.set];have ec:(if((o.1:Nat):Int)>((p.1:Nat):Int) then((o.1:Nat):Int) else((p.1:Nat):Int))=(((ewe p o).1:Nat):Int):=by show _=((max p.1 o.1:Nat):Int);split<;>omega
 have eb:Builtin.bitOr ((p.2:Nat):Int) ((o.2:Nat):Int)=(((ewe p o).2:Nat):Int):=Vi _ _;have X:dput (.dt<|b.map Rg) (.tuple [.int<|if((o.1:Nat):Int)>((p.1:Nat):Int) then((o.1:Nat):Int) else((p.1:Nat):Int),.int<|Builtin.bitOr ((p.2:Nat):Int) ((o.2:Nat):Int)]) (.D<|.bool true)=some (.dt<|(adz b<|ewe p o).map Rg):=by rw[ec,eb,<- PP];rfl
 refine Ab Ac (Ab X ⟨PM<|show(b.map Rg).length<=300000 by rw[B_];omega,b8 _ _ ⟨_,_,adz b<|ewe p o,rfl,λz=>?_,PQ c,?_,?_⟩⟩);rw[IB,L,N];constructor;rintro((h|⟨M,h1,h2⟩)|h);exact .inl h;exact .inr ⟨M,aH _ h1,h2⟩;exact .inr ⟨o,by simp,h⟩;rintro(h|⟨M,h1,h2⟩);exact .inl<|.inl h;rcases P_.mp h1 with h1|h1;exact .inl<|.inr ⟨M,h1,h2⟩;rw[H_.mp h1]at h2;exact .inr h2;have:=IC b<|ewe p o;omega;rw[Bh];rintro r _ ⟨k,m,b,rfl,L,c,V,rfl⟩;rw[B_]at L V;rw[aJ]at L;refine hZ2 _ _ ⟨_,_,_,_,b,rfl,λz=>?_,c,by omega,rfl⟩;rw[L,C,a9];constructor;rintro(⟨Q,h1,h2⟩|h);exact⟨Q,aH _ h1,h2⟩;exact⟨p,by simp,h⟩;rintro⟨Q,h1,h2⟩;rcases P_.mp h1 with h1|h1;exact .inl ⟨Q,h1,h2⟩;rw[H_.mp h1]at h2;exact .inr h2;rintro r _ ⟨G,I,k,m,a,rfl,C,hnd,J,rfl⟩;rw[B_]at C J;rw[aJ]at C;exact hZ _ _ ⟨_,_,_,_,a,rfl,C,hnd,J,rfl⟩;rintro r _ ⟨G,I,k,m,a,rfl,C,hnd,J,rfl⟩;refine Ab Ac λl T=>⟨_,Sub.refl,q a l _ C hnd J ((Sub.refl.new B:Sub t _).none T) ?_<|(Sub.refl.new B:Sub t _).new<|(Sub.refl.new B:Sub t _).none T⟩;rw[Ac,aE];rfl
def Ri(P:oA Pr):dats (P.map Ba)=some (P.map Hf):=by rw[show P.map Ba=(P.map Hf).map .D by rw[aE];rfl];exact B1 _
def Vj(p q:Pr):cmpb (Hf p) (Hf q)=true:=by show cmpbs [.int _,.int _] [.int _,.int _]=true;simp only[cmpbs];split;split<;>simp only[cmpb];simp only[cmpb]
def Rj(p:Pr):Bz (Hf p):=⟨rfl,by show PyData.depth (.tuple [.int _,.int _])<=64;simp[PyData.depth,PyData.depthAll]⟩
theorem Vk:∀P:oA Pr,PyData.canLayAll0 (P.map Hf)=true/\PyData.depthAll (P.map Hf)<=64
 |[]=>⟨rfl,by simp[PyData.depthAll]⟩
 |p::P=>by obtain⟨a,b⟩:=Vk P;obtain⟨c,d⟩:=Rj p;refine⟨?_,?_⟩;simp only[List.map_cons,PyData.canLayAll0,c,a,Bool.and_self];simp only[List.map_cons,PyData.depthAll];omega
def DH{P:oA Pr}(h:P.length<=5000):SortOkP (P.map Hf):=by obtain⟨a,b⟩:=Vk P;refine⟨by rw[B_];omega,a,b,λd c=>?_,λd c e he=>?_⟩;obtain⟨p,_,rfl⟩:=DD.mp c;exact⟨_,_,rfl⟩;obtain⟨p,_,rfl⟩:=DD.mp c;obtain⟨q,_,rfl⟩:=DD.mp he;exact Vj p q
def DI{es:oA lG}{P:oA Pr}(h:es.Perm<|P.map Hf):∃a:oA Pr,es=a.map Hf/\a.Perm P:=by obtain⟨a,e,hp⟩:=Dp h P rfl;exact⟨a,e,hp⟩
def Wn(z y:Pr):Prop:=∀t,z.2.testBit t=true->y.2.testBit t=true
def O8{z y:Pr}:z.2 &&& y.2=z.2↔Wn z y:=by
 constructor;intro h t ht;have:=cV (λn=>n.testBit t) h;simp only[Nat.testBit_and,ht,Bool.true_and]at this;exact this
 ·intro h;refine Nat.eq_of_testBit_eq λt=>?_;rw[Nat.testBit_and];cases e:z.2.testBit t with
  |true=>rw[h t e];rfl
  |false=>rfl
def Wn.refl(z:Pr):Wn z z:=λ_ h=>h
def Wn.trans{a b c:Pr}(h:Wn a b)(k:Wn b c):Wn a c:=λt ht=>k t<|h t ht
def Ff{a c:M}{p:lH}{o:MO}(S:Sub a c)(h:a p=none):Sub a (An c p o):=λb m hb=>by rw[Ag<|by rintro rfl;rw[h]at hb;cases hb];exact S b m hb
abbrev nHw:oA Str:=["lows","bits","low"]
def WP:FnScope nHw qC (Ai sHw):=Br<|by decide +kernel
def PR:ASp:=λe c R=>∃(a:lH) (d:oA Nat) (b:Nat),e=[.R a,.D<|.int (b:Nat)]/\c a=oG (d.map Ch)/\R (.D<|.bool<|d.any λl=>decide (l &&& b=l)) c
def WQ{n:Nat}(F:Fun K "has_within" "has_within" sHw f fd):FnOk P w K mg base Dm (n+1) f fd qC (D5 K 2 PR):=by
 refine F.vok WP λu A j s H E hr=>⟨_,(Ae (Ca aD rfl (Bo<|vv 0) (Ak (i:=2) WP.nd rfl oH)<|Ah<|Bq (Ax (C1 hr) (A9 BJ (vv 2)<|vv 1) (vv 2)<|nomark _) (Ah<|Ay Ez) A6)<|Ah<|Ay Ez),?_⟩
 rintro t m R _ ⟨a,k,b,rfl,ha,q⟩;refine Bg (λh d=>m=d/\(k.any λl=>decide (l &&& b=l))=false) (λZ r=>?_) ?_;refine Ab (Av ha) ?_;refine C9 (λi h d=>∃o,h=[oD a,oE (b:Nat),o]/\m=d/\((k.take i).any λl=>decide (l &&& b=l))=false) ⟨none,rfl,rfl,rfl⟩ (by rintro _ _ _ ⟨_,_,e,_⟩;rw[<- e];exact Av ha) ?_ ?_;rintro i v h _ x hv ⟨o,rfl,rfl,g⟩ hZ2;rw[G_]at hv;obtain⟨l,p,rfl⟩:=I_.mp hv;have hb:Builtin.bitAnd ((l:Nat):Int) ((b:Nat):Int)=((l &&& b:Nat):Int):=rfl;refine ieq (λc=>⟨_,Sub.refl,?_⟩) λc=>hZ2 _ _ ⟨_,rfl,rfl,?_⟩;rw[bX.mpr ⟨l,N_ p,aV<|gO c⟩]at q;exact q;rw[CL p,g,kO];exact aW λe=>c<|cV Int.ofNat e;rintro h _ ⟨o,rfl,rfl,g⟩;rw[B_,aJ]at g;exact r _ _ ⟨rfl,g⟩;rintro h _ ⟨rfl,g⟩;rw[g]at q;exact⟨_,Sub.refl,q⟩
abbrev nLa:oA Str:=["pairs","kept","lows","cost","bits"]
def DJ:FnScope nLa oO (Ai sLa):=Br<|by decide +kernel
structure CvA(P zs:oA Pr):Prop where
 m:∀z∈zs,z∈P
 c:∀y∈P,∃z∈zs,Wn z y
 u:(zs.map (·.2)).Nodup
def Tq{a:oA Pr}(h:(a.map (·.2)).Nodup)(hb:∀z∈a,z.2<32):a.length<=32:=by
 have:=G6 (ys:=List.range 32) h λb c=>by obtain⟨z,hz,rfl⟩:=DD.mp c;exact aL.mpr<|hb z hz
 rwa[B_,bE]at this
def PU:ASp:=λd b R=>∃(a:lH) (P:oA Pr),d=[.R a]/\b a=oG (P.map Ba)/\P.length<=5000/\(∀p∈P,p.2<32)/\∀(c:oA Pr) (l:lH) μ',CvA P c->b l=none->μ' l=oG (c.map Ba)->Sub b μ'->R (.R l) μ'
def WR{n:Nat}(F:Fun K "least_alone" "least_alone" sLa f fd) (yl:VCal P w K mg base n "has_within" qC PR) (aq:mg "sorted" = none):FnOk P w K mg base Dm (n+1) f fd oO (D5 K 1 PU):=by
 refine F.vok DJ λam A outer s H E hr=>⟨_,(Ae (Am (i:=1) DJ.nd rfl oH<|Bu Ad)<|Ae (Am (i:=2) DJ.nd rfl oH<|Bu Ad)<|Ae (Ca aD rfl (Bo<|A8 (Nq hr) rfl aq PyProof.Rows.boot_sorted<|Aa (vv 0) Ad) (Cz (n:=2) rfl<|Ao (Ak (i:=3) DJ.nd rfl oH)<|Ao (Ak (i:=4) DJ.nd rfl oH) Bs)<|Ah<|Bq (Zk<|Jh<|Al yl hr rfl<|Aa (vv 2)<|Aa (vv 4) Ad) (Ae (Bw<|Dj bI bJ Cy (vv 1)<|Aa (Aq<|Aa (vv 3)<|Aa (vv 4) Ad) Ad)<|Ah<|Bw<|Dj bI bJ Cy (vv 2)<|Aa (vv 4) Ad) A6)<|Ah<|Ay<|vv 1),?_⟩
 rintro xs o R _ ⟨a,P,rfl,ha,hP,hb,q⟩;intro g N k r;have W:Sub o (An (An o g<|.lst []) k<|.lst []):=(Sub.refl.new N).new<|(Sub.refl.new N:Sub o _).none r;have bx:g≠k:=by rintro rfl;rw[Ac]at r;cases r
 have l0:o k=none:=(Sub.refl.new N:Sub o<|An o g<|.lst []).none r;have ek:An (An o g<|.lst []) k (.lst []) g=oG []:=by rw[Ag bx,Ac]
 have el:An (An o g<|.lst []) k (.lst []) k=oG []:=Ac;generalize An (An o g<|.lst []) k (.lst [])=μ1 at W ek el;refine Bg (λG j=>∃B x,∃d:oA Pr,G=[oD a,oD g,oD k,B,x]/\j g=oG (d.map Ba)/\CvA P d/\Sub o j) (λZ hZ=>?_) ?_
 ·refine Ab (W _ _ ha)<|Ab (Ri P) ⟨DH hP,λes p hp M=>?_⟩;obtain⟨Q,rfl,hQ⟩:=DI hp;have jy:g≠p:=by rintro rfl;rw[ek]at M;cases M
  have ny:k≠p:=by rintro rfl;rw[el]at M;cases M
  have J:An μ1 p (.lst<|(Q.map Hf).map .D) p=oG (Q.map Ba):=by rw[Ac,aE];rfl
  have k2:An μ1 p (.lst<|(Q.map Hf).map .D) g=oG []:=by rw[Ag jy];exact ek
  have l2:An μ1 p (.lst<|(Q.map Hf).map .D) k=oG []:=by rw[Ag ny];exact el
  have U:Sub o (An μ1 p<|.lst<|(Q.map Hf).map .D):=W.new<|W.none M;generalize An μ1 p (.lst<|(Q.map Hf).map .D)=I at J k2 l2 U;refine Ab (Av J) ?_;refine C9 (λi G j=>∃B x,∃d:oA Pr,G=[oD a,oD g,oD k,B,x]/\j g=oG (d.map Ba)/\j k=oG ((d.map (·.2)).map Ch)/\j p=oG (Q.map Ba)/\d.length<=i/\CvA (Q.take i) d/\Sub o j) ⟨none,none,[],rfl,k2,l2,J,J_ _,⟨(λ_ h=>nomatch h),(λ_ h=>nomatch h),bQ⟩,U⟩ (by rintro _ _ _ ⟨_,_,_,_,_,_,e,_⟩;exact Av e) ?_ ?_
  ·rintro i v G O Z2 hv ⟨B,x,d,rfl,L,S,Y,iu,C,V⟩ hZ2;rw[G_]at hv;obtain⟨y,hy,rfl⟩:=I_.mp hv;have hi:=(E_.mp hy).1;have hQl:Q.length=P.length:=hQ.length_eq;have T:Q.take (i+1)=Q.take i++[y]:=by rw[aM,hy];rfl
   refine⟨rfl,Rh ⟨k,d.map (·.2),y.2,rfl,S,?_⟩⟩;cases hh:(d.map (·.2)).any λl=>decide (l &&& y.2=l) with
   |true=>refine Eg rfl<|hZ2 _ _ ⟨_,_,d,rfl,L,S,Y,bC iu,⟨λz hz=>?_,λu hu=>?_,C.u⟩,V⟩;rw[T];exact aH _<|C.m z hz;rw[T]at hu;rcases P_.mp hu with hu|hu;exact C.c u hu;rw[H_.mp hu];obtain⟨b,X,e⟩:=bX.mp hh;obtain⟨z,hz,rfl⟩:=DD.mp X;exact⟨z,hz,O8.mp<|aF e⟩
   |false=>
    have bg:∀z∈d,¬Wn z y:=λz hz hw=>by have:=List.any_eq_false.mp hh z.2<|DD.mpr ⟨z,hz,rfl⟩;exact this<|aV<|O8.mpr hw
    refine Fk rfl (B3 ⟨Ab L trivial,Ab L ⟨PM<|by rw[B_];omega,?_⟩⟩);have l4:An O g (.lst<|d.map Ba++[Ba y]) k=oG ((d.map (·.2)).map Ch):=by rw[Ag bx.symm];exact S
    refine⟨Ab l4 trivial,Ab l4 ⟨PM<|by rw[B_,B_];omega,hZ2 _ _ ⟨_,_,d++[y],rfl,by rw[Ag bx,Ac,L_];rfl,by rw[Ac,L_,L_];rfl,by rw[Ag ny.symm,Ag jy.symm];exact Y,by rw[O_];exact gZ iu,⟨λz hz=>?_,λu hu=>?_,?_⟩,Ff (Ff V N) l0⟩⟩⟩;rw[T];rcases P_.mp hz with hz|hz;exact aH _<|C.m z hz;exact aU _ hz;rw[T]at hu;rcases P_.mp hu with hu|hu;obtain⟨z,hz,h⟩:=C.c u hu;exact⟨z,aH _ hz,h⟩;rw[H_.mp hu];exact⟨y,by simp,Wn.refl y⟩;rw[L_,bL];refine⟨C.u,by simp,λb X c hc e=>?_⟩;obtain⟨z,hz,rfl⟩:=DD.mp X;have hc:c=y.2:=by simpa using hc
    exact bg z hz λt ht=>by rw[<- hc,<- e];exact ht
  rintro G O ⟨B,x,d,rfl,L,S,Y,iu,C,V⟩;rw[B_,aJ]at C;exact hZ _ _ ⟨_,_,d,rfl,L,⟨λz hz=>hQ.mem_iff.mp<|C.m z hz,λy hy=>C.c y<|hQ.mem_iff.mpr hy,C.u⟩,V⟩
 rintro G I ⟨B,x,d,rfl,J,C,U⟩;exact⟨_,Sub.refl,q d g I C N J U⟩
abbrev nTh:oA Str:=oU
def Qci:FnScope nTh oU (Ai sTh):=Br<|by decide +kernel
def ID:ASp:=λd b R=>∃(a:lH) (P:oA Pr),d=[.R a,.D<|.bool true]/\b a=oG (P.map Ba)/\P.length<=5000/\(∀p∈P,p.2<32)/\∀(c:oA Pr) (l:lH) μ',CvA P c->b l=none->μ' l=oG (c.map Ba)->Sub b μ'->R (.R l) μ'
def WS{n:Nat}(F:Fun K "thinned" "thinned" sTh f fd) (g:VCal P w K mg base n "least_alone" oO PU) (o:mg "sorted" = none) (m:mg "set" = none):FnOk P w K mg base Dm (n+1) f fd oU (D5 K 2 ID):=by refine F.vok Qci λk A c s H E hr=>⟨_,(Ah<|Ay<|Ec (Jh<|vv 1) (Al g hr rfl<|Aa (vv 0) Ad) UI),?_⟩;rintro j p R _ ⟨a,P,rfl,ha,d,hb,q⟩;exact Fk rfl ⟨a,P,rfl,ha,d,hb,λh l b C i e S=>⟨_,Sub.refl,q h l b C i e S⟩⟩
def cho:oA (oA Pr)->oA Pr:=List.foldl (λF G=>F.flatMap λp=>G.map<|ewe p) [(0,0)]
structure GrAt(μ:M)(ps:oA lH)(Gs:oA<|oA Pr):Prop where
 l:ps.length=Gs.length
 a:∀(i:Nat) p G,ps[i]?=some p->Gs[i]?=some G->μ p=oG (G.map Ba)
structure Cv(P zs:oA Pr):Prop where
 m:∀z∈zs,z∈P
 c:∀y∈P,∃z∈zs,Wn z y
 u:(zs.map (·.2)).Nodup
 b:∀z∈zs,z.2<32
def Cv.len{P a:oA Pr}(h:Cv P a):a.length<=32:=Tq h.u h.b
def DK{p q r s:Pr}(h:Wn p q)(k:Wn r s):Wn (ewe p r) (ewe q s):=λt ht=>by have ht:(p.2 |||r.2).testBit t=true:=ht;show(q.2 |||s.2).testBit t=true;rw[kK,eO]at ht ⊢;exact ht.imp (h t)<|k t
def Rk{Gs:oA<|oA Pr}{G:oA Pr}{z:Pr}:z∈cho (Gs++[G])↔∃y∈cho Gs,∃o∈G,z=ewe y o:=by unfold cho;rw[List.foldl_append,eQ,List.foldl_nil,bA];constructor;rintro⟨y,h1,h2⟩;obtain⟨o,a,rfl⟩:=DD.mp h2;exact⟨y,h1,o,a,rfl⟩;rintro⟨y,h1,o,h2,rfl⟩;exact⟨y,h1,DD.mpr ⟨o,h2,rfl⟩⟩
abbrev nOe:oA Str:=qM
def IE:FnScope nOe oP (Ai sOe):=Br<|by decide +kernel
def PV:ASp:=λc a R=>∃(x:AV) (ps:oA lH) (Gs:oA<|oA Pr),c=[x,.D<|.bool true]/\items a x=some (ps.map .R)/\GrAt a ps Gs/\(∀G∈Gs,G.length<=32/\∀p∈G,p.2<32)/\∀(b:oA Pr) (l:lH) μ',Cv (cho Gs) b->a l=none->μ' l=oG (b.map Ba)->Sub a μ'->R (.R l) μ'
def WT{n:Nat}(F:Fun K "one_of_each" "one_of_each" sOe f fd) (m8:VCal P w K mg base n "thinned" oU ID) (V:VCal P w K mg base n "each_with_each" qH WN):FnOk P w K mg base Dm (n+1) f fd oP (D5 K 2 PV):=by
 refine F.vok IE λam A W s H E hr=>⟨_,(Ae (Am (i:=2) IE.nd rfl oH<|Bu<|Aa (Aq<|Aa Af<|Aa Af Ad) Ad)<|Ae (Ca aD rfl (Bo<|vv 0) (Ak (i:=3) IE.nd rfl oH)<|Ah<|Am (i:=2) IE.nd rfl oH<|Al m8 hr rfl<|Aa (Al V hr rfl<|Aa (vv 2)<|Aa (vv 3) Ad)<|Aa (vv 1) Ad)<|Ah<|Ay<|vv 2),?_⟩
 rintro xs g R _ ⟨x,ps,j,rfl,hx,hG,hb,q⟩;intro l0 X;refine Bg (λt e=>∃l k,∃d:oA Pr,t=[some x,oF<|.bool true,oD l,k]/\Cv (cho j) d/\g l=none/\e l=oG (d.map Ba)/\Sub g e) (λZ hZ=>?_) ?_;have S0:Sub g (An g l0<|.lst [Ba (0,0)]):=Sub.refl.new X;refine Ab (Cp hx S0) ?_;refine C9 (λi t e=>∃l k,∃d:oA Pr,t=[some x,oF<|.bool true,oD l,k]/\Cv (cho<|j.take i) d/\g l=none/\e l=oG (d.map Ba)/\Sub g e) ⟨l0,none,[(0,0)],rfl,⟨λz hz=>hz,λy hy=>⟨y,hy,Wn.refl y⟩,by simp,λz hz=>by rw[H_.mp hz];decide⟩,X,Ac,S0⟩ (by rintro _ _ _ ⟨_,_,_,_,_,_,_,S⟩;exact Cp hx S) ?_ ?_;rintro i v t h Z2 hv ⟨l,k,d,rfl,C,N,B,r⟩ hZ2;rw[G_]at hv;obtain⟨p,hp,rfl⟩:=I_.mp hv;have hi:i<j.length:=by rw[<- hG.l];exact(E_.mp hp).1
 have M:=F_ hi;generalize j[i]=G at M;have a9:j.take (i+1)=j.take i++[G]:=by rw[aM,M];rfl
 have eg:=r _ _<|hG.a i p G hp M;obtain⟨T,Q⟩:=hb G<|N_ M;have yt:d.length*G.length<=32*32:=Nat.mul_le_mul C.len T;refine⟨.R l,.R p,d,G,rfl,Av B,Av eg,by omega,λys l2 O U Y dz vp e2 S2=>?_⟩;have J:∀z∈ys,z.2<32:=λz hz=>by obtain⟨y,h1,o,h2,rfl⟩:=(U z).mp hz;exact Nat.or_lt_two_pow (n:=5) (C.b y h1)<|Q o h2
 refine⟨l2,ys,rfl,e2,by omega,J,λus l3 μ3 L y7 e3 S3=>?_⟩;have I:Sub g O:=λb m hb=>S2 b m<|r b m hb;refine hZ2 _ _ ⟨l3,_,us,rfl,⟨λz hz=>?_,λy hy=>?_,L.u,λz hz=>J z<|L.m z hz⟩,I.none y7,e3,λb m hb=>S3 b m<|I b m hb⟩;obtain⟨y,h1,o,h2,rfl⟩:=(U z).mp<|L.m z hz;rw[a9];exact Rk.mpr ⟨y,C.m y h1,o,h2,rfl⟩;rw[a9]at hy;obtain⟨u,h1,o,h2,rfl⟩:=Rk.mp hy;obtain⟨y,h3,h4⟩:=C.c u h1;obtain⟨z,h5,h6⟩:=L.c (ewe y o)<|(U _).mpr ⟨y,h3,o,h2,rfl⟩;exact⟨z,h5,h6.trans<|DK h4<|Wn.refl o⟩;rintro t h ⟨l,k,d,rfl,C,N,B,r⟩;rw[B_,hG.l,aJ]at C;exact hZ _ _ ⟨l,_,d,rfl,C,N,B,r⟩;rintro t h ⟨l,k,d,rfl,C,N,B,r⟩;exact⟨_,Sub.refl,q d l h C N B r⟩
abbrev nOa:oA Str:=qM
def PX:FnScope nOa oP (Ai sOa):=Br<|by decide +kernel
def X5{a:Type}{Gs:oA<|oA a}{i:Nat}{G:oA a}(h:Gs[i]?=some G):(Gs.take<|i+1).flatten=(Gs.take i).flatten++G:=by rw[aM,h,List.flatten_append];simp
theorem Mc{b:Type}:∀{Gs:oA<|oA b},(∀G∈Gs,G.length<=32)->Gs.flatten.length<=32*Gs.length
 |[],_=>by simp
 |G::Gs,h=>by have h1:=h G aK;have h2:=Mc (Gs:=Gs) λa hG=>h a<|aA _ hG;rw[kN,O_,aS];omega
def WU:ASp:=λc a R=>∃(x:AV) (ps:oA lH) (Gs:oA<|oA Pr),c=[x,.D<|.bool true]/\items a x=some (ps.map .R)/\GrAt a ps Gs/\Gs.length<=60/\(∀G∈Gs,G.length<=32/\∀p∈G,p.2<32)/\∀(b:oA Pr) (l:lH) μ',Cv Gs.flatten b->a l=none->μ' l=oG (b.map Ba)->Sub a μ'->R (.R l) μ'
def WV{n:Nat}(F:Fun K "one_of_any" "one_of_any" sOa f fd) (U:VCal P w K mg base n "thinned" oU ID):FnOk P w K mg base Dm (n+1) f fd oP (D5 K 2 WU):=by
 refine F.vok PX λam A B s H E hr=>⟨_,(Ae (Am (i:=2) PX.nd rfl oH<|Bu Ad)<|Ae (Ca aD rfl (Bo<|vv 0) (Ak (i:=3) PX.nd rfl oH)<|Ah<|Bw<|Dj eE eF Ge (vv 2)<|Aa (vv 3) Ad)<|Ah<|Ay<|Al U hr rfl<|Aa (vv 2)<|Aa (vv 1) Ad),?_⟩
 rintro xs o R _ ⟨x,ps,Gs,rfl,hx,hG,M,hb,q⟩;intro j I;have J:∀z∈Gs.flatten,z.2<32:=λz hz=>by obtain⟨G,h1,h2⟩:=jK.mp hz;exact(hb G h1).2 z h2
 refine Bg (λh b=>∃g,h=[some x,oF<|.bool true,oD j,g]/\b j=oG (Gs.flatten.map Ba)/\Sub o b) (λZ hZ=>?_) ?_;have L:Sub o (An o j<|.lst []):=Sub.refl.new I;refine Ab (Cp hx L) ?_;refine C9 (λi h b=>∃g,h=[some x,oF<|.bool true,oD j,g]/\b j=oG ((Gs.take i).flatten.map Ba)/\Sub o b) ⟨none,rfl,Ac,L⟩ (by rintro _ _ _ ⟨_,_,_,S⟩;exact Cp hx S) ?_ ?_;rintro i v h k Z2 hv ⟨g,rfl,d,e⟩ hZ2;rw[G_]at hv;obtain⟨p,hp,rfl⟩:=I_.mp hv;have hi:i<Gs.length:=by rw[<- hG.l];exact(E_.mp hp).1
 have r:=F_ hi;generalize Gs[i]=G at r;have X:=e _ _<|hG.a i p G hp r;have O:=(hb G<|N_ r).1;have y:=Mc (Gs:=Gs.take i) λV N=>(hb V<|dL N).1;have Q:(Gs.take i).length<=60:=by rw[bF];omega
 refine⟨Ab d trivial,Ab d<|Ab X ⟨bR<|PM<|by rw[B_,B_];omega,hZ2 _ _ ⟨_,rfl,?_,e.new I⟩⟩⟩;rw[Ac,X5 r,L_];rintro h k ⟨g,rfl,d,e⟩;rw[B_,hG.l,aJ]at d;exact hZ _ _ ⟨_,rfl,d,e⟩;rintro h k ⟨g,rfl,d,e⟩;have y:=Mc λG hG=>(hb G hG).1;exact⟨_,Gs.flatten,rfl,d,by omega,J,λT l t C hl Y W=>⟨_,Sub.refl,q T l t ⟨C.m,C.c,C.u,λz hz=>J z<|C.m z hz⟩ (e.none hl) Y<|e.trans W⟩⟩
structure Ar where
 p:Nat
 x:Nat
 ts:oA Nat
 c:Nat
def arD(a:Ar):lG:=.tuple [.int (a.p:Nat),.int (a.x:Nat),Bt a.ts,.int (a.c:Nat)]
def Vl(a:Ar):AV:=.D<|arD a
def Kf(k:Nat×Nat)(a:Ar):Bool:=decide (a.p=k.1)&&decide (a.x=k.2)
def grp(A:oA Ar)(k:Nat×Nat):oA Pr:=(A.filter<|Kf k).map λa=>(a.c,bts a.ts)
def kvT(e:(Nat×Nat)×lH):oA Key×AV:=([.inl (e.1.1:Nat),.inl (e.1.2:Nat)],.R e.2)
structure TopW(μ0 μ:M)(d:lH)(A:oA Ar)(K:Nat×Nat->Prop)(kvs:oA<|(Nat×Nat)×lH):Prop where
 dd:μ d=some (.dt<|kvs.map kvT)
 ll:∀e∈kvs,μ e.2=oG ((grp A e.1).map Ba)
 kk:∀k,(∃e∈kvs,e.1=k)↔K k
 uu:(kvs.map (·.1)).Nodup
 vv:(kvs.map (·.2)).Nodup
 fd:μ0 d=none
 fe:∀e∈kvs,μ0 e.2=none/\e.2≠d
 ss:Sub μ0 μ
def DL(a b:M)(d:lH)(A:oA Ar)(kvs:oA<|(Nat×Nat)×lH):Prop:=TopW a b d A (λk=>grp A k≠[]) kvs
def O9{k l:Nat×Nat}(h:([.inl (k.1:Nat),.inl (k.2:Nat)]:oA Key)=[.inl (l.1:Nat),.inl (l.2:Nat)]):k=l:=by injection h with h1 h2;injection h2 with h2 _;exact kI (gO<|iJ h1)<|gO<|iJ h2
theorem Ha:∀{kvs:oA<|(Nat×Nat)×lH} {e:(Nat×Nat)×lH},(kvs.map (·.1)).Nodup->e∈kvs->Cu (kvs.map kvT) [.inl (e.1.1:Nat),.inl (e.1.2:Nat)]=oD e.2
 |x::kvs,e,a,he=>by
  rw[aQ];rw[aQ,cP]at a;by_cases h:x.1=e.1;have hx:e=x:=by
   rcases Y_.mp he with rfl|he
   rfl
   exact absurd (DD.mpr ⟨e,he,h.symm⟩) a.1
  subst hx;exact Fp;have ht:e∈kvs:=by rcases Y_.mp he with rfl|he;exact absurd rfl h;exact he
  rw[show Cu (kvT x::kvs.map kvT) [.inl (e.1.1:Nat),.inl (e.1.2:Nat)]=Cu (kvs.map kvT) [.inl (e.1.1:Nat),.inl (e.1.2:Nat)] from D7 λz=>h<|O9 z];exact Ha a.2 ht
theorem Iw:∀{kvs:oA<|(Nat×Nat)×lH} {k:Nat×Nat},(∀e∈kvs,e.1≠k)->Cu (kvs.map kvT) [.inl (k.1:Nat),.inl (k.2:Nat)]=none
 |[],_,_=>rfl
 |x::kvs,k,h=>by rw[aQ,show Cu (kvT x::kvs.map kvT) [.inl (k.1:Nat),.inl (k.2:Nat)]=Cu (kvs.map kvT) [.inl (k.1:Nat),.inl (k.2:Nat)] from D7 λz=>h x aK<|O9 z];exact Iw λe he=>h e<|aA _ he
def Gz{kvs:oA<|(Nat×Nat)×lH}{k:Nat×Nat}{z:lH}(h:∀e∈kvs,e.1≠k):Fo (kvs.map kvT) [.inl (k.1:Nat),.inl (k.2:Nat)] (.R z)=(kvs++[(k,z)]).map kvT:=by
 unfold Fo;rw[M_,L_]
 rfl
 intro a;obtain⟨b,h1,h2⟩:=bX.mp a;obtain⟨e,he,rfl⟩:=DD.mp h1;exact h e he<|O9<|aF h2
def Rl{kvs:oA<|(Nat×Nat)×lH}{e f:(Nat×Nat)×lH}(h:(kvs.map (·.1)).Nodup)(he:e∈kvs)(a:f∈kvs)(c:e.1=f.1):e=f:=by
 induction kvs with
 |nil=>cases he
 |cons x r b=>rw[aQ,cP]at h;rcases Y_.mp he with h1|h1<;>rcases Y_.mp a with h2|h2;rw[h1,h2];exact absurd (DD.mpr ⟨f,h2,by rw[<- h1];exact c.symm⟩) h.1;exact absurd (DD.mpr ⟨e,h1,by rw[<- h2];exact c⟩) h.1;exact b h.2 h1 h2
def Nw{kvs:oA<|(Nat×Nat)×lH}{e f:(Nat×Nat)×lH}(h:(kvs.map (·.2)).Nodup)(he:e∈kvs)(a:f∈kvs)(c:e.2=f.2):e=f:=by
 induction kvs with
 |nil=>cases he
 |cons x r b=>rw[aQ,cP]at h;rcases Y_.mp he with h1|h1<;>rcases Y_.mp a with h2|h2;rw[h1,h2];exact absurd (DD.mpr ⟨f,h2,by rw[<- h1];exact c.symm⟩) h.1;exact absurd (DD.mpr ⟨e,h1,by rw[<- h2];exact c⟩) h.1;exact b h.2 h1 h2
def Rm(A:oA Ar)(a:Ar)(k:Nat×Nat):grp (A++[a]) k=grp A k++(if Kf k a then [(a.c,bts a.ts)] else []):=by unfold grp;rw[dH,L_,fZ,iE];split<;>rfl
def Md(a:Ar):Kf (a.p,a.x) a=true:=by unfold Kf;simp
def DM{a:Ar}{k:Nat×Nat}(h:k≠(a.p,a.x)):Kf k a=false:=by unfold Kf;rw[<- Bool.decide_and];exact aW λc=>h<|kI c.1.symm c.2.symm
def Qcj{a b c d:lG}{i j k l:Nat}{τ:ASt}{e:M}{R:ASt->M->Prop}(h:R ((((τ.set i<|oF a).set j<|oF b).set k<|oF c).set l<|oF d) e):E1 (D1 i) (E1 (D1 j)<|E1 (D1 k)<|E1 (D1 l) Px) (List.map AV.D [a,b,c,d]) τ e R:=h
abbrev nAt:oA Str:=["arrows","tops","stand","letter","targets","cost"]
def X6:FnScope nAt ["arrows"] (Ai sAt):=Br<|by decide +kernel
def WW:ASp:=λg e R=>∃(x:AV) (A:oA Ar),g=[x]/\items e x=some (A.map Vl)/\A.length<=300/\(∀a∈A,∀t∈a.ts,t<5)/\∀d c b,DL e b d A c->R (.R d) b
def WX{n:Nat}(F:Fun K "arrows_by_top" "arrows_by_top" sAt f fd) (wv:VCal P w K mg base n "as_bits" ["stands"] PK):FnOk P w K mg base Dm (n+1) f fd ["arrows"] (D5 K 1 WW):=by
 refine F.vok X6 λam A outer s H E hr=>⟨_,(Ae (Am (i:=1) X6.nd rfl oH E4)<|Ae (Ca aD rfl (Bo<|vv 0) (Cz (n:=4) rfl<|Ao (Ak (i:=2) X6.nd rfl oH)<|Ao (Ak (i:=3) X6.nd rfl oH)<|Ao (Ak (i:=4) X6.nd rfl oH)<|Ao (Ak (i:=5) X6.nd rfl oH) Bs)<|Ae (Bw<|BK (Dh hr) (vv 1) (Aq<|Aa (vv 2)<|Aa (vv 3) Ad)<|Bu Ad)<|Ah<|Bw<|Dj bI bJ Cy (Of (Dh hr) (vv 1)<|Aq<|Aa (vv 2)<|Aa (vv 3) Ad)<|Aa (Aq<|Aa (vv 5)<|Aa (Al wv hr rfl<|Aa (vv 4) Ad) Ad) Ad)<|Ah<|Ay<|vv 1),?_⟩
 rintro xs V R _ ⟨x,A,rfl,hx,hn,ht,q⟩;intro d Y;refine Bg (λI u=>∃M S Q O,∃g:oA<|(Nat×Nat)×lH,I=[some x,oD d,M,S,Q,O]/\DL V u d A g) (λZ hZ=>?_) ?_;refine Ab (Cp hx<|Sub.refl.new Y) ?_;refine C9 (λi I u=>∃M S Q O,∃g:oA<|(Nat×Nat)×lH,I=[some x,oD d,M,S,Q,O]/\g.length<=i/\DL V u d (A.take i) g) ⟨none,none,none,none,[],rfl,aG _,⟨Ac,(λ_ h=>nomatch h),λk=>⟨(by rintro ⟨_,h,_⟩;exact nomatch h),λh=>absurd rfl h⟩,bQ,bQ,Y,(λ_ h=>nomatch h),Sub.refl.new Y⟩⟩ (by rintro _ _ _ ⟨_,_,_,_,_,_,_,T⟩;exact Cp hx T.ss) ?_ ?_;rintro i v I j Z2 hv ⟨M,S,Q,O,g,rfl,N,T⟩ hZ2;rw[G_]at hv;obtain⟨a,ha,rfl⟩:=I_.mp hv;have hi:=(E_.mp ha).1;have a9:A.take (i+1)=A.take i++[a]:=by rw[aM,ha];rfl
 refine⟨rfl,Qcj ?_⟩;dsimp only[List.set];generalize hB:A.take i=B at T a9;refine Bg (λI u=>∃g:oA<|(Nat×Nat)×lH,I=[some x,oD d,oE (a.p:Nat),oE (a.x:Nat),oF<|Bt a.ts,oE (a.c:Nat)]/\g.length<=i+1/\TopW V u d B (λk=>grp B k≠[]\/k=(a.p,a.x)) g) (λZ3 b8=>?_) ?_;refine⟨⟨_,T.dd,trivial⟩,λz hz=>Ab (x:=[.inl (a.p:Nat),.inl (a.x:Nat)]) rfl ?_⟩;have J:Sub j (An j z<|.lst []):=Sub.refl.new hz;have ez:An j z (.lst []) z=oG []:=Ac;have zd:z≠d:=by rintro rfl;rw[T.dd]at hz;cases hz
 have z0:V z=none:=T.ss.none hz;have zk:∀e∈g,e.2≠z:=λe he c=>by have:=T.ll e he;rw[c,hz]at this;cases this
 generalize An j z (.lst [])=r at J ez;refine Ab (J _ _ T.dd) ⟨A3<|by rw[B_];omega,λv hv=>?_,λhv=>?_⟩;have a8:∃e∈g,e.1=(a.p,a.x):=aY λU=>by rw[Iw (k:=(a.p,a.x)) λe he c=>U ⟨e,he,c⟩]at hv;cases hv
 refine b8 _ _ ⟨g,rfl,bC N,⟨J _ _ T.dd,λe he=>J _ _<|T.ll e he,λk=>?_,T.uu,T.vv,T.fd,T.fe,λb m hb=>J b m<|T.ss b m hb⟩⟩;rw[T.kk];refine⟨.inl,λc=>c.elim id λc=>?_⟩;rw[c];exact(T.kk _).mp a8;have U:∀e∈g,e.1≠(a.p,a.x):=λe he c=>by have:=Ha T.uu he;rw[c]at this;rw[this]at hv;cases hv
 rw[Gz (k:=(a.p,a.x)) U];have g0:grp B (a.p,a.x)=[]:=aY λc=>by obtain⟨e,he,h⟩:=(T.kk _).mpr c;exact U e he h
 have ne:∀{b:lH},b≠d->An r d (.dt<|(g++[((a.p,a.x),z)]).map kvT) b=r b:=λh=>Ag h;refine b8 _ _ ⟨g++[((a.p,a.x),z)],rfl,by rw[O_];show g.length+1<=_;exact gZ N,⟨Ac,λe he=>?_,λk=>?_,?_,?_,T.fd,λe he=>?_,λb m hb=>?_⟩⟩;rcases P_.mp he with he|he;rw[ne (T.fe e he).2];exact J _ _<|T.ll e he;rw[H_.mp he,ne zd,g0];exact ez;constructor;rintro⟨e,he,rfl⟩;rcases P_.mp he with he|he;exact .inl<|(T.kk _).mp ⟨e,he,rfl⟩;rw[H_.mp he];exact .inr rfl;rintro(h|rfl);obtain⟨e,he,h⟩:=(T.kk k).mpr h;exact⟨e,aH _ he,h⟩;exact⟨((a.p,a.x),z),by simp,rfl⟩;rw[L_,bL];refine⟨T.uu,by simp,λx hx y hy e=>?_⟩;obtain⟨W,X,rfl⟩:=DD.mp hx;have hy:y=(a.p,a.x):=by simpa using hy
 exact U W X<|e.trans hy
 rw[L_,bL];refine⟨T.vv,by simp,λx hx y hy e=>?_⟩;obtain⟨W,X,rfl⟩:=DD.mp hx;have hy:y=z:=by simpa using hy
 exact zk W X<|e.trans hy
 rcases P_.mp he with he|he;exact T.fe e he;rw[H_.mp he];exact⟨z0,zd⟩;rw[Ag<|by rintro rfl;rw[T.fd]at hb;cases hb];exact J b m<|T.ss b m hb;clear N T;rintro I r ⟨g,rfl,N,T⟩;obtain⟨C,l,G⟩:=(T.kk (a.p,a.x)).mpr<|.inr rfl;have jq:=Ha T.uu l;rw[G]at jq;have lq:=T.ll C l;have ed:dget (.dt<|g.map kvT) (.tuple [.int (a.p:Nat),.int (a.x:Nat)])=some (some<|AV.R C.2):=by show some (Cu (g.map kvT) [.inl (a.p:Nat),.inl (a.x:Nat)])=_;rw[jq]
 refine Ab T.dd (Ab ed<|Ab (x:=AV.R C.2) rfl ⟨Ab lq trivial,_,a.ts,rfl,Dg a.ts,λt h=>fL (ht a (N_ ha) t h)<|by decide,Ab lq ⟨?_,hZ2 _ _ ⟨_,_,_,_,g,rfl,N,?_⟩⟩⟩);rw[B_];refine A3 ?_;unfold grp;rw[B_];have:=bN (Kf C.1) B;rw[<- hB,bF]at this;rw[<- hB];omega;rw[a9];have ne:∀{b:lH} {o:MO},b≠C.2->An r C.2 o b=r b:=λh=>Ag h;refine⟨by rw[ne (T.fe C l).2.symm];exact T.dd,λe he=>?_,λk=>?_,T.uu,T.vv,T.fd,T.fe,λb m hb=>?_⟩;rw[Rm];by_cases L:e.1=(a.p,a.x);have:e=C:=Rl T.uu he l<|L.trans G.symm;subst this;rw[Ac,G,Md,T_ rfl,L_];rfl;have:e.2≠C.2:=λc=>L (by rw[Nw T.vv he l c];exact G);rw[ne this,DM L,M_ Q_,bP];exact T.ll e he;rw[T.kk,Rm];by_cases hk:k=(a.p,a.x);rw[hk,Md,T_ rfl];exact⟨λ_=>by simp,λ_=>.inr rfl⟩;rw[DM hk,M_ Q_,bP];exact⟨λc=>c.elim id λc=>absurd c hk,.inl⟩;rw[ne<|by rintro rfl;rw[(T.fe C l).1]at hb;cases hb];exact T.ss b m hb;rintro I j ⟨M,S,Q,O,g,rfl,N,T⟩;rw[B_,aJ]at T;exact hZ _ _ ⟨_,_,_,_,g,rfl,T⟩;rintro I j ⟨M,S,Q,O,g,rfl,T⟩;exact⟨_,Sub.refl,q d g j T⟩
structure Rq where
 p:Nat
 x:Nat
 q:Nat
 w:oA Nat
deriving DecidableEq
def QV(r:Rq):lG:=.tuple [.int (r.p:Nat),.int (r.x:Nat),.int (r.q:Nat),Bt r.w]
def QW(r:Rq):AV:=.D<|QV r
structure Gq where
 pl:oA (Str×Nat)
 le:oA Str
 rs:oA Rq
def WY(p:Str×Nat):lG:=.tuple [.str p.1,.int (p.2:Nat)]
def Nx(g:Gq):lG:=.tuple [.tuple<|g.pl.map WY,.tuple<|g.le.map .str,.tuple<|g.rs.map QV]
def Fy(k:Nat×Nat)(a:Rq):Bool:=decide (a.p=k.1)&&decide (a.x=k.2)
def rgp(A:oA Rq)(k:Nat×Nat):oA Rq:=A.filter<|Fy k
structure TpW(μ0 μ:M)(d:lH)(A:oA Rq)(K:Nat×Nat->Prop)(kvs:oA<|(Nat×Nat)×lH):Prop where
 dd:μ d=some (.dt<|kvs.map kvT)
 ll:∀e∈kvs,μ e.2=oG ((rgp A e.1).map QW)
 kk:∀k,(∃e∈kvs,e.1=k)↔K k
 uu:(kvs.map (·.1)).Nodup
 vv:(kvs.map (·.2)).Nodup
 fd:μ0 d=none
 fe:∀e∈kvs,μ0 e.2=none/\e.2≠d
 ss:Sub μ0 μ
def PY(a b:M)(d:lH)(A:oA Rq)(kvs:oA<|(Nat×Nat)×lH):Prop:=TpW a b d A (λk=>rgp A k≠[]) kvs
def Rn(A:oA Rq)(a:Rq)(k:Nat×Nat):rgp (A++[a]) k=rgp A k++(if Fy k a then [a] else []):=by unfold rgp;rw[dH,fZ,iE]
def Ro(a:Rq):Fy (a.p,a.x) a=true:=by unfold Fy;simp
def DN{a:Rq}{k:Nat×Nat}(h:k≠(a.p,a.x)):Fy k a=false:=by unfold Fy;rw[<- Bool.decide_and];exact aW λc=>h<|kI c.1.symm c.2.symm
abbrev nRt:oA Str:=["game","tops","rule"]
def PZ:FnScope nRt ["game"] (Ai sRt):=Br<|by decide +kernel
def WZ:ASp:=λc e R=>∃(g:Gq),c=[.D<|Nx g]/\g.rs.length<=300/\∀d b a,PY e a d g.rs b->R (.R d) a
def XB{n:Nat}(F:Fun K "rules_by_top" "rules_by_top" sRt f fd):FnOk P w K mg base Dm (n+1) f fd ["game"] (D5 K 1 WZ):=by
 refine F.vok PZ λam A X s H E hr=>⟨_,(Ae (Am (i:=1) PZ.nd rfl oH E4)<|Ae (Ca aD rfl (Bo<|Aw Bd (vv 0) Af) (Ak (i:=2) PZ.nd rfl oH)<|Ae (Bw<|BK (Dh hr) (vv 1) (Ed (vv 2) G2<|Ei Af)<|Bu Ad)<|Ah<|Bw<|Dj bI bJ Cy (Of (Dh hr) (vv 1)<|Ed (vv 2) G2<|Ei Af)<|Aa (vv 2) Ad)<|Ah<|Ay<|vv 1),?_⟩
 rintro xs S R _ ⟨g,rfl,hn,q⟩;generalize U:g.rs=A at hn q;have zo:∀ ν:M,items ν (.D<|.tuple<|A.map QV)=some (A.map QW):=λν=>by show some ((A.map QV).map AV.D)=_;rw[aE];rfl
 have yu:atI ([.tuple<|g.pl.map WY,.tuple<|g.le.map .str,.tuple<|g.rs.map QV]:oA lG) (2:Int)=some (.tuple<|A.map QV):=by rw[U];rfl
 intro d hd;refine Bg (λI u=>∃N,∃j:oA<|(Nat×Nat)×lH,I=[oF<|Nx g,oD d,N]/\PY S u d A j) (λZ hZ=>?_) ?_;refine Ab yu<|Ab (zo _) ?_;refine C9 (λi I u=>∃N,∃j:oA<|(Nat×Nat)×lH,I=[oF<|Nx g,oD d,N]/\j.length<=i/\PY S u d (A.take i) j) ⟨none,[],rfl,aG _,⟨Ac,(λ_ h=>nomatch h),λk=>⟨(by rintro ⟨_,h,_⟩;exact nomatch h),λh=>absurd rfl h⟩,bQ,bQ,hd,(λ_ h=>nomatch h),Sub.refl.new hd⟩⟩ (λ_ _ _ _=>zo _) ?_ ?_;rintro i v I l Z2 hv ⟨N,j,rfl,O,T⟩ hZ2;rw[G_]at hv;obtain⟨a,ha,rfl⟩:=I_.mp hv;have hi:=(E_.mp ha).1;have a9:A.take (i+1)=A.take i++[a]:=by rw[aM,ha];rfl
 generalize hB:A.take i=B at T a9;refine Bg (λI u=>∃j:oA<|(Nat×Nat)×lH,I=[oF<|Nx g,oD d,some<|QW a]/\j.length<=i+1/\TpW S u d B (λk=>rgp B k≠[]\/k=(a.p,a.x)) j) (λZ3 b8=>?_) ?_;refine⟨⟨_,T.dd,trivial⟩,λz hz=>Ab (x:=[.inl (a.p:Nat),.inl (a.x:Nat)]) rfl ?_⟩;have J:Sub l (An l z<|.lst []):=Sub.refl.new hz;have ez:An l z (.lst []) z=oG []:=Ac;have zd:z≠d:=by rintro rfl;rw[T.dd]at hz;cases hz
 have z0:S z=none:=T.ss.none hz;have zk:∀e∈j,e.2≠z:=λe he c=>by have:=T.ll e he;rw[c,hz]at this;cases this
 generalize An l z (.lst [])=t at J ez;refine Ab (J _ _ T.dd) ⟨A3<|by rw[B_];omega,λv hv=>?_,λhv=>?_⟩;have a8:∃e∈j,e.1=(a.p,a.x):=aY λQ=>by rw[Iw (k:=(a.p,a.x)) λe he c=>Q ⟨e,he,c⟩]at hv;cases hv
 refine b8 _ _ ⟨j,rfl,bC O,⟨J _ _ T.dd,λe he=>J _ _<|T.ll e he,λk=>?_,T.uu,T.vv,T.fd,T.fe,λb m hb=>J b m<|T.ss b m hb⟩⟩;rw[T.kk];refine⟨.inl,λc=>c.elim id λc=>?_⟩;rw[c];exact(T.kk _).mp a8;have Q:∀e∈j,e.1≠(a.p,a.x):=λe he c=>by have:=Ha T.uu he;rw[c]at this;rw[this]at hv;cases hv
 rw[Gz (k:=(a.p,a.x)) Q];have g0:rgp B (a.p,a.x)=[]:=aY λc=>by obtain⟨e,he,h⟩:=(T.kk _).mpr c;exact Q e he h
 have ne:∀{b:lH},b≠d->An t d (.dt<|(j++[((a.p,a.x),z)]).map kvT) b=t b:=λh=>Ag h;refine b8 _ _ ⟨j++[((a.p,a.x),z)],rfl,by rw[O_];show j.length+1<=_;exact gZ O,⟨Ac,λe he=>?_,λk=>?_,?_,?_,T.fd,λe he=>?_,λb m hb=>?_⟩⟩;rcases P_.mp he with he|he;rw[ne (T.fe e he).2];exact J _ _<|T.ll e he;rw[H_.mp he,ne zd,g0];exact ez;constructor;rintro⟨e,he,rfl⟩;rcases P_.mp he with he|he;exact .inl<|(T.kk _).mp ⟨e,he,rfl⟩;rw[H_.mp he];exact .inr rfl;rintro(h|rfl);obtain⟨e,he,h⟩:=(T.kk k).mpr h;exact⟨e,aH _ he,h⟩;exact⟨((a.p,a.x),z),by simp,rfl⟩;rw[L_,bL];refine⟨T.uu,by simp,λx hx y hy e=>?_⟩;obtain⟨V,W,rfl⟩:=DD.mp hx;have hy:y=(a.p,a.x):=by simpa using hy
 exact Q V W<|e.trans hy
 rw[L_,bL];refine⟨T.vv,by simp,λx hx y hy e=>?_⟩;obtain⟨V,W,rfl⟩:=DD.mp hx;have hy:y=z:=by simpa using hy
 exact zk V W<|e.trans hy
 rcases P_.mp he with he|he;exact T.fe e he;rw[H_.mp he];exact⟨z0,zd⟩;rw[Ag<|by rintro rfl;rw[T.fd]at hb;cases hb];exact J b m<|T.ss b m hb;clear O T;rintro I t ⟨j,rfl,O,T⟩;obtain⟨C,r,G⟩:=(T.kk (a.p,a.x)).mpr<|.inr rfl;have jq:=Ha T.uu r;rw[G]at jq;have Y:=T.ll C r;have ed:dget (.dt<|j.map kvT) (.tuple [.int (a.p:Nat),.int (a.x:Nat)])=some (some<|AV.R C.2):=by show some (Cu (j.map kvT) [.inl (a.p:Nat),.inl (a.x:Nat)])=_;rw[jq]
 refine Ab T.dd<|Ab ed<|Ab (x:=AV.R C.2) rfl ⟨Ab Y trivial,Ab Y ⟨?_,hZ2 _ _ ⟨_,j,rfl,O,?_⟩⟩⟩;rw[B_];refine A3 ?_;unfold rgp;have:=bN (Fy C.1) B;rw[<- hB,bF]at this;rw[<- hB];omega;rw[a9];have ne:∀{b:lH} {o:MO},b≠C.2->An t C.2 o b=t b:=λh=>Ag h;refine⟨by rw[ne (T.fe C r).2.symm];exact T.dd,λe he=>?_,λk=>?_,T.uu,T.vv,T.fd,T.fe,λb m hb=>?_⟩;rw[Rn];by_cases L:e.1=(a.p,a.x);have:e=C:=Rl T.uu he r<|L.trans G.symm;subst this;rw[Ac,G,Ro,T_ rfl,L_];rfl;have:e.2≠C.2:=λc=>L (by rw[Nw T.vv he r c];exact G);rw[ne this,DN L,M_ Q_,bP];exact T.ll e he;rw[T.kk,Rn];by_cases hk:k=(a.p,a.x);rw[hk,Ro,T_ rfl];exact⟨λ_=>by simp,λ_=>.inr rfl⟩;rw[DN hk,M_ Q_,bP];exact⟨λc=>c.elim id λc=>absurd c hk,.inl⟩;rw[ne<|by rintro rfl;rw[(T.fe C r).1]at hb;cases hb];exact T.ss b m hb;rintro I l ⟨N,j,rfl,O,T⟩;rw[B_,aJ]at T;exact hZ _ _ ⟨_,j,rfl,T⟩;rintro I l ⟨N,j,rfl,T⟩;exact⟨_,Sub.refl,q d j l T⟩
def hnd(g:Gq)(k:Nat×Nat):Nat:=(g.pl.map (·.2)).getD k.1 0
abbrev Tops:=Nat×Nat->oA Pr
def Kn(G:Tops)(s:Nat):oA Nat->oA Pr
 |[]=>[(0,bts [s])]
 |[x]=>G (s,x)
 |x::y::_=>(G (s,x)).flatMap λp=>(cho<|(B4 p.2).map λt=>G (t,y)).map λq=>(p.1+q.1,q.2)
def F1(g:Gq)(G:Tops)(k:Nat×Nat):oA Pr:=if hnd g k=1 then cho ((rgp g.rs k).map λr=>Kn G r.q r.w) else((rgp g.rs k).map λr=>Kn G r.q r.w).flatten
def F2(G:Tops)(E:oA Nat):oA Nat->Nat->Prop
 |[],s=>s∈E
 |x::v,s=>∃p∈G (s,x),∀t∈B4 p.2,F2 G E v t
inductive Pre (g:Gq) (S:Nat->oA Nat->Prop):Nat->oA Nat->Prop where
 |say {p:Nat} {w:oA Nat}:p<g.pl.length->S p w->Pre g S p w
 |one {p x:Nat} {v:oA Nat} {r:Rq}:r∈rgp g.rs (p,x)->hnd g (p,x)≠1->Pre g S r.q (r.w++v)->Pre g S p (x::v)
 |all {p x:Nat} {v:oA Nat}:hnd g (p,x)=1->rgp g.rs (p,x)≠[]->(∀r∈rgp g.rs (p,x),Pre g S r.q<|r.w++v)->Pre g S p (x::v)
def Cd{n t:Nat}:t∈B4 n↔t<5/\n.testBit t=true:=by unfold B4;rw[aR,aL]
def Kv(p q:Pr)(t:Nat):(ewe p q).2.testBit t=(p.2.testBit t||q.2.testBit t):=kK ..
def DO{Q:Nat->Prop}{Gs:oA<|oA Pr}(h:∀G∈Gs,∃p∈G,∀t∈B4 p.2,Q t):∃z∈cho Gs,∀t∈B4 z.2,Q t:=by
 have a:∀(Gs:oA<|oA Pr) (F:oA Pr),(∀G∈Gs,∃p∈G,∀t∈B4 p.2,Q t)->(∃f∈F,∀t∈B4 f.2,Q t)->∃z∈Gs.foldl (λF G=>F.flatMap λp=>G.map<|ewe p) F,∀t∈B4 z.2,Q t:=by
  intro Gs
  induction Gs with
  |nil=>exact λF _ h=>h
  |cons G Gs g=>intro F h e;obtain⟨f,d,h1⟩:=e;obtain⟨p,hp,h2⟩:=h G<|.head _;refine g _ (λc hG=>h c<|.tail _ hG) ⟨ewe f p,bA.mpr ⟨f,d,DD.mpr ⟨p,hp,rfl⟩⟩,λt ht=>?_⟩;obtain⟨b,hb⟩:=Cd.mp ht;rw[Kv,eO]at hb;exact hb.elim (λhb=>h1 t<|Cd.mpr ⟨b,hb⟩) λhb=>h2 t<|Cd.mpr ⟨b,hb⟩
 exact a Gs _ h ⟨(0,0),.head _,λt ht=>absurd (Cd.mp ht).2<|by rw[jJ];decide⟩
def Tr{s:Nat}(hs:s<5):B4 (bts [s])=[s]:=by
 have a:∀i:_root_.Fin 5,B4 (bts [i.val])=[i.val]:=by decide +kernel
 exact a ⟨s,hs⟩
def Vm{G:Tops}{E:oA Nat}{s:Nat}(hs:s<5){u:oA Nat}(hu:u.length<=2){v:oA Nat}(h:F2 G E (u++v) s):∃z∈Kn G s u,∀t∈B4 z.2,F2 G E v t:=by
 match u,hu with
 |[],_=>refine⟨(0,bts [s]),.head _,λt ht=>?_⟩;rw[Tr hs]at ht;rw[H_.mp ht];exact h
 |[x],_=>exact h
 |[x,y],_=>
  obtain⟨p,hp,h⟩:=h;obtain⟨q,hq,hb⟩:=DO (Q:=F2 G E v) (Gs:=(B4 p.2).map λt=>G (t,y)) λK a=>by obtain⟨t,ht,rfl⟩:=DD.mp a;exact h t ht
  exact⟨(p.1+q.1,q.2),bA.mpr ⟨p,hp,DD.mpr ⟨q,hq,rfl⟩⟩,hb⟩
structure RsOk(g:Gq):Prop where
 p:g.pl.length<=5
 q:∀r∈g.rs,r.q<g.pl.length/\r.w.length<=2
def Under(P Q:oA Pr):Prop:=∀y∈P,∃z∈Q,∀t∈B4 z.2,t∈B4 y.2
theorem Ny{G K:Tops}{E:oA Nat}(h:∀k,Under (G k)<|K k):∀{w:oA Nat} {s:Nat},F2 G E w s->F2 K E w s
 |[],_,a=>a
 |x::_,s,⟨p,hp,a⟩=>by obtain⟨z,hz,hb⟩:=h (s,x) p hp;exact⟨z,hz,λt ht=>Ny h<|a t<|hb t ht⟩
def IF{g:Gq}(l:RsOk g){B G:Tops}{E:oA Nat}(h1:∀k,Under (B k)<|G k)(h2:∀k,rgp g.rs k≠[]->Under (F1 g G k) (G k)){p:Nat}{w:oA Nat}(h:Pre g (λp w=>F2 B E w p) p w):F2 G E w p:=by
 have hr:∀k,∀r∈rgp g.rs k,r.q<5/\r.w.length<=2:=λk r hr=>by obtain⟨a,b⟩:=l.q r (aR.mp hr).1;have:=l.p;exact⟨by omega,b⟩
 have d:∀{p x:Nat} {v:oA Nat} {y:Pr},rgp g.rs (p,x)≠[]->y∈F1 g G (p,x)->(∀t∈B4 y.2,F2 G E v t)->F2 G E (x::v) p:=λ{p x v y} j hy hv=>by obtain⟨z,hz,hb⟩:=h2 (p,x) j y hy;exact⟨z,hz,λt ht=>hv t<|hb t ht⟩
 induction h with
 |say _ m=>exact Ny h1 m
 |@one p x v r c e _ i=>obtain⟨a,b⟩:=hr _ r c;obtain⟨y,hy,hv⟩:=Vm a b i;refine d (λz=>by rw[z]at c;cases c) (?_:y∈_) hv;unfold F1;rw[M_ e];exact jK.mpr ⟨_,DD.mpr ⟨r,c,rfl⟩,hy⟩
 |@all p x v e j _ i=>
  obtain⟨y,hy,hv⟩:=DO (Q:=F2 G E v) (Gs:=(rgp g.rs (p,x)).map λr=>Kn G r.q r.w) λK n=>by obtain⟨r,c,rfl⟩:=DD.mp n;obtain⟨a,b⟩:=hr _ r c;exact Vm a b<|i r c
  refine d j (?_:y∈_) hv;unfold F1;rw[T_ e];exact hy
structure TopK(μ:M)(d:lH)(G:Tops):Prop where
 at':∃kvs:oA<|(Nat×Nat)×lH,μ d=some (.dt<|kvs.map kvT)/\(∀e∈kvs,μ e.2=oG ((G e.1).map Ba))/\(∀k,(∀e∈kvs,e.1≠k)->G k=[])/\(kvs.map (·.1)).Nodup
def TopK.sub{c b:M}{d:lH}{G:Tops}(h:TopK c d G)(S:Sub c b):TopK b d G:=by obtain⟨a,h1,h2,i,g⟩:=h.at';exact⟨a,S _ _ h1,λe he=>S _ _<|h2 e he,i,g⟩
def X7(G:Tops):Prop:=∀k,(G k).length<=32/\∀z∈G k,z.2<32
def Ix{i a:M}{d:lH}{G:Tops}{td ty:AE}{τ:ASt}{R:AV->M->Prop}(h:TopK i d G)(m:Sub i a)(p x:Nat)(t:∀Q:AV->M->Prop,Q (.R d) a->td τ a Q)(o:∀Q:AV->M->Prop,Q (.D<|.tuple [.int (p:Nat),.int (x:Nat)]) a->ty τ a Q)(q:∀l g,g l=oG ((G (p,x)).map Ba)->Sub a g->(i l≠none\/a l=none)->R (.R l) g):AD td ty (SG MT) τ a R:=by obtain⟨b,h1,h2,r,s⟩:=h.at';refine t _ ⟨⟨_,m _ _ h1,trivial⟩,o _ λz hz=>?_⟩;have S:Sub a (An a z<|.lst []):=Sub.refl.new hz;refine Ab (S _ _<|m _ _ h1) ?_;by_cases hk:∀e∈b,e.1≠(p,x);have j:=Iw (k:=(p,x)) hk;refine Ab (x:=none) (by show some (Cu (b.map kvT) [.inl (p:Nat),.inl (x:Nat)])=_;rw[j])<|q z _ ?_ S<|.inr hz;rw[Ac,r _ hk];rfl;obtain⟨e,he,n⟩:∃e∈b,e.1=(p,x):=aY λc=>hk λe he z=>c ⟨e,he,z⟩;have j:=Ha s he;rw[n]at j;refine Ab (x:=some<|AV.R e.2) (by show some (Cu (b.map kvT) [.inl (p:Nat),.inl (x:Nat)])=_;rw[j]) (show R (AV.R e.2) _ from q e.2 _ ?_ S<|.inl λc=>by rw[h2 e he]at c;cases c);have:=S _ _<|m _ _<|h2 e he;rw[n]at this;exact this
theorem Ts:∀{ts:oA Nat},(∀t∈ts,t<5)->∀{b:Nat},b<32->ts.foldl (λb k=>b ||| 2^k) b<32
 |[],_,_,hb=>hb
 |t::ts,h,b,hb=>by refine Ts (ts:=ts) (λu hu=>h u<|aA _ hu) ?_;have a:=h t aK;exact Nat.or_lt_two_pow (n:=5) hb<|Nat.pow_lt_pow_right (by decide) a
def ZF(G:Tops)(y b:Nat):oA Pr:=cho<|(B4 b).map λt=>G (t,y)
def XC(G:Tops)(y:Nat)(f r:lH)(kvs:oA<|Key×AV)(b:M):Prop:=∀(k:Nat) v,Cu kvs (.inl (k:Nat))=some v->∃(a:lH) (ys:oA Pr),v=.R a/\a≠f/\a≠r/\b a=oG (ys.map Ba)/\Cv (ZF G y k) ys
structure Cw(P zs:oA Pr):Prop where
 m:∀z∈zs,z∈P
 c:∀y∈P,∃z∈zs,Wn z y
 b:∀z∈zs,z.2<32
def Cw.thin{P e d:oA Pr}(h:Cw P e)(k:CvA e d):Cv P d:=⟨λu hu=>h.m u<|k.m u hu,λy hy=>by obtain⟨z,hz,a⟩:=h.c y hy;obtain⟨u,hu,b⟩:=k.c z hz;exact⟨u,hu,b.trans a⟩,k.u,λu hu=>h.b u<|k.m u hu⟩
def Cw.app{P Q a ys:oA Pr}(h:Cw P a)(k:Cw Q ys):Cw (P++Q) (a++ys):=by refine⟨λz hz=>?_,λy hy=>?_,λz hz=>(P_.mp hz).elim (h.b z)<|k.b z⟩;exact P_.mpr<|(P_.mp hz).imp (h.m z)<|k.m z;rcases P_.mp hy with hy|hy;obtain⟨z,hz,e⟩:=h.c y hy;exact⟨z,aH _ hz,e⟩;obtain⟨z,hz,e⟩:=k.c y hy;exact⟨z,aU _ hz,e⟩
def Cv.up{P a:oA Pr}(h:Cv P a)(c:Nat):Cw (P.map λq=>(c+q.1,q.2)) (a.map λq=>(c+q.1,q.2)):=by refine⟨λz hz=>?_,λy hy=>?_,λz hz=>?_⟩;obtain⟨q,hq,rfl⟩:=DD.mp hz;exact DD.mpr ⟨q,h.m q hq,rfl⟩;obtain⟨q,hq,rfl⟩:=DD.mp hy;obtain⟨z,hz,e⟩:=h.c q hq;exact⟨_,DD.mpr ⟨z,hz,rfl⟩,e⟩;obtain⟨q,hq,rfl⟩:=DD.mp hz;exact h.b q hq
abbrev nRb:oA Str:=["tops","stand","w","least","firsts","found","rests","cost","bits"]
def X8:FnScope nRb qI (Ai UK):=Br<|by decide +kernel
def XE:(["target","tops","w"]:oA Str).Nodup:=by decide +kernel
def JV:(qN:oA Str).Nodup:=by decide +kernel
def XF:ASp:=λc a R=>∃(d:lH) (G:Tops) (s:Nat) (w:oA Nat),c=[.R d,.D<|.int (s:Nat),.D<|Bt w,.D<|.bool true]/\TopK a d G/\X7 G/\s<5/\w.length<=2/\∀(b:oA Pr) (l:lH) μ',Cv (Kn G s w) b->a l=none->μ' l=oG (b.map Ba)->Sub a μ'->R (.R l) μ'
def XG{n:Nat}(F:Fun K "readings_by" "readings_by" UK f fd) (wv:VCal P w K mg base n "as_bits" ["stands"] PK) (ya:VCal P w K mg base n "as_stands" ["bits"] PL) (m8:VCal P w K mg base n "thinned" oU ID) (v8:VCal P w K mg base n "one_of_each" oP PV) (ah:mg "len" = none):FnOk P w K mg base Dm (n+1) f fd qI (D5 K 4 XF):=by
 refine F.vok X8 λam A outer s H E hr=>⟨_,(Ae (Bq (Ax (C1 hr) (A8 Di rfl ah bH<|Aa (vv 2) Ad) Af<|nomark _) (Ah<|Ay<|Bu<|Aa (Aq<|Aa Af<|Aa (Al wv hr rfl<|Aa (Aq<|Aa (vv 1) Ad) Ad) Ad) Ad) A6)<|Ae (Am (i:=4) X8.nd rfl oH<|Ik (Dh hr) (vv 0) (Aq<|Aa (vv 1)<|Aa (Aw Bd (vv 2) Af) Ad)<|Bu Ad)<|Ae (Bq (Ax (C1 hr) (A8 Di rfl ah bH<|Aa (vv 2) Ad) Af<|nomark _) (Ah<|Ay<|Al m8 hr rfl<|Aa (vv 4)<|Aa (vv 3) Ad) A6)<|Ae (Am (i:=5) X8.nd rfl oH<|Bu Ad)<|Ae (Am (i:=6) X8.nd rfl oH Ld)<|Ae (Ca aD rfl (Bo<|vv 4) (Cz (n:=2) rfl<|Ao (Ak (i:=7) X8.nd rfl oI)<|Ao (Ak (i:=8) X8.nd rfl oH) Bs)<|Ae (Bq (Wv (Dh hr) (vv 8)<|vv 6) (Ah<|Ek (Dh hr) (vv 6) (vv 8)<|Al v8 hr rfl<|Aa (Cf (N':=["target","tops","w"]) (mp:=[none,some 0,some 2]) rfl (Bo<|Al ya hr rfl<|Aa (vv 8) Ad) (λ_ _ _ _=>(Ak (i:=0) XE rfl oH oI)) (λ_ _ _ _=>B2) (λ_ _ _ _=>(Ik (Dh hr) (vv 1) (Aq<|Aa (vv 0)<|Aa (Aw Bd (vv 2) Af) Ad)<|Bu Ad))<|Bc (N:=nRb) (pn:=(Ai UK).names)<|by decide +kernel)<|Aa (vv 3) Ad) A6)<|Ah<|Bw<|Dj eE eF Ge (vv 5)<|Aa (Cf (N':=qN) (mp:=[none,none,some 7]) rfl (Bo<|Of (Dh hr) (vv 6)<|vv 8) (λ_ _ _ _=>(Cz (n:=2) rfl<|Ao (Ak (i:=0) JV rfl oH oI)<|Ao (Ak (i:=1) JV rfl oH oI) Bs)) (λ_ _ _ _=>B2) (λ_ _ _ _=>(Aq<|Aa (A9 B6 (vv 2)<|vv 0)<|Aa (vv 1) Ad))<|Bc (N:=nRb) (pn:=(Ai UK).names)<|by decide +kernel) Ad)<|Ah<|Ay<|Al m8 hr rfl<|Aa (vv 5)<|Aa (vv 3) Ad),?_⟩
 rintro xs μ R _ ⟨d,O,s,w,rfl,hT,hB,hs,hw,q⟩
 match w,hw,q with
 |[],_,q=>refine B3 ⟨Bi _,Bi _,Fk rfl ⟨_,[s],rfl,rfl,λt h=>by rw[H_.mp h];omega,λl hl=>⟨_,Sub.refl,q [(0,bts [s])] l _ ⟨λz hz=>hz,λy hy=>⟨y,hy,Wn.refl y⟩,by simp,λz hz=>by rw[H_.mp hz];exact Ts (ts:=[s]) (λt h=>by rw[H_.mp h];exact hs)<|by decide⟩ hl Ac<|Sub.refl.new hl⟩⟩⟩
 |[x],_,q=>refine B3 ⟨Bi _,Bi _,Eg rfl ?_⟩;refine B3<|Ix hT Sub.refl s x (λQ h=>h) (λQ h=>Ab (x:=PyData.int (x:Nat)) rfl h) λl J hl S hlo=>?_;refine B3 ⟨Bi _,Bi _,Fk rfl ?_⟩;obtain⟨hg,hgb⟩:=hB (s,x);exact⟨l,O (s,x),rfl,hl,by omega,hgb,λM p μ2 C hp e2 S2=>⟨_,Sub.refl,q M p μ2 ⟨C.m,C.c,C.u,λz hz=>hgb z<|C.m z hz⟩ (S.none hp) e2 λb m hb=>S2 b m<|S b m hb⟩⟩
 |[x,y],_,q=>
  refine B3 ⟨Bi _,Bi _,Eg rfl ?_⟩;refine B3<|Ix hT Sub.refl s x (λQ h=>h) (λQ h=>Ab (x:=PyData.int (x:Nat)) rfl h) λl J hl S hlo=>?_;refine B3 ⟨Bi _,Bi _,Eg rfl ?_⟩;intro f hf r hr;have S1:Sub μ (An J f<|.lst []):=S.new<|S.none hf;have ef:An J f (.lst []) f=oG []:=Ac;have h9:An J f (.lst []) l=oG ((O (s,x)).map Ba):=Sub.refl.new hf _ _ hl;have fr:f≠r:=by rintro rfl;rw[ef]at hr;cases hr
  have f0:μ f=none:=S.none hf;have r0:μ r=none:=S1.none hr;have S2:Sub μ (An (An J f<|.lst []) r<|.dk []):=S1.new r0;have ef2:An (An J f<|.lst []) r (.dk []) f=oG []:=by rw[Ag fr];exact ef
  have er2:An (An J f<|.lst []) r (.dk []) r=some (.dk []):=Ac;have dz:An (An J f<|.lst []) r (.dk []) l=oG ((O (s,x)).map Ba):=Sub.refl.new hr _ _ h9;have lf:l≠f:=by rintro rfl;rw[hf]at hl;cases hl
  have lr:l≠r:=by rintro rfl;rw[hr]at h9;cases h9
  generalize An (An J f<|.lst []) r (.dk [])=μ2 at S2 ef2 er2 dz;clear h9 ef S1;obtain⟨hG,hGl⟩:=hB (s,x);show Ws _ _ _ _ _ _ [oD d,oE (s:Nat),oF<|Bt [x,y],oF<|.bool true,oD l,oD f,oD r,none,none] μ2;have eq:Kn O s [x,y]=(O (s,x)).flatMap λp=>(ZF O y p.2).map λq=>(p.1+q.1,q.2):=rfl;rw[eq]at q;generalize O (s,x)=G at hG hGl q dz;refine Bg (λτ B=>∃o7 o8,∃M:oA Pr,τ=[oD d,oE (s:Nat),oF<|Bt [x,y],oF<|.bool true,oD l,oD f,oD r,o7,o8]/\B f=oG (M.map Ba)/\Cw (G.flatMap λp=>(ZF O y p.2).map λq=>(p.1+q.1,q.2)) M/\M.length<=1024/\Sub μ B) (λZ hZ=>?_) ?_
  ·refine Ab (Av dz) ?_;refine C9 (λi τ B=>∃o7 o8,∃(M:oA Pr) (kvs:oA<|Key×AV),τ=[oD d,oE (s:Nat),oF<|Bt [x,y],oF<|.bool true,oD l,oD f,oD r,o7,o8]/\B f=oG (M.map Ba)/\B r=some (.dk kvs)/\B l=oG (G.map Ba)/\Cw ((G.take i).flatMap λp=>(ZF O y p.2).map λq=>(p.1+q.1,q.2)) M/\M.length<=32*i/\kvs.length<=i/\XC O y f r kvs B/\Sub μ B) ⟨none,none,[],[],rfl,ef2,er2,dz,⟨(λ_ h=>nomatch h),(λ_ h=>nomatch h),(λ_ h=>nomatch h)⟩,J_ _,J_ _,(λ_ _ h=>nomatch h),S2⟩ (by rintro _ _ _ ⟨_,_,_,_,_,_,_,e,_⟩;exact Av e) ?_ ?_
   ·rintro i v τ μ3 Z2 hv ⟨o7,o8,M,kvs,rfl,e3f,Y,e3l,hm,iu,bx,hR,S3⟩ hZ2;rw[G_]at hv;obtain⟨⟨c,b⟩,hp,rfl⟩:=I_.mp hv;have hb:b<32:=hGl _<|N_ hp;have hi:=(E_.mp hp).1;refine⟨rfl,Rh ?_⟩;dsimp only[List.set];refine Bg (λτ B=>∃(kvs:oA<|Key×AV) (v:AV),τ=[oD d,oE (s:Nat),oF<|Bt [x,y],oF<|.bool true,oD l,oD f,oD r,oE (c:Nat),oE (b:Nat)]/\B f=oG (M.map Ba)/\B r=some (.dk kvs)/\B l=oG (G.map Ba)/\Cu kvs (.inl (b:Nat))=some v/\kvs.length<=i+1/\XC O y f r kvs B/\Sub μ B) (λZ3 b8=>?_) ?_
    ·refine Ab Y<|Ab (x:=Cu kvs<|.inl (b:Nat)) rfl ?_;cases hv:Cu kvs (.inl (b:Nat)) with
     |some v=>exact Eg rfl (b8 _ _ ⟨kvs,v,rfl,e3f,Y,e3l,hv,bC bx,hR,S3⟩)
     |none=>
      refine Fk rfl ⟨b,rfl,hb,λI S4=>Ab (Dg _) λX L=>?_⟩;have hTB:TopK I d O:=hT.sub λb m hb=>S4 b m<|S3 b m hb;have h5:(B4 b).length<=5:=R_ (bN _ _) (by rw[bE];exact J_ _);refine Ht (λi V τ' B=>∃o,∃ps:oA lH,τ'=[o,oD d,oF<|Bt [x,y]]/\V=ps.map .R/\ps.length=i/\(∀(j:Nat) p t,ps[j]?=some p->(B4 b)[j]?=some t->p≠X/\B p=oG ((O (t,y)).map Ba))/\B X=oG V/\Sub I B) ⟨none,[],rfl,rfl,rfl,(λ_ _ _ h=>nomatch h),Ac,Sub.refl.new L⟩ (λ_ _ _ _ _=>Dg _) ?_ ?_;rintro j0 v V τ' μ5 W hv' ⟨o,ps,rfl,rfl,ag,lp,e5,U⟩ hW;rw[G_]at hv';obtain⟨t,bn,rfl⟩:=I_.mp hv';have hj5:=(E_.mp bn).1;refine Fk rfl (Ix hTB U t y (λQ h=>h) (λQ h=>Ab (x:=PyData.int (y:Nat)) rfl h) λl5 μ6 se S6 ho=>⟨S6 _ _ e5,A3<|by rw[B_];omega,hW _ _ _ ⟨_,ps++[l5],rfl,by rw[L_];rfl,by rw[O_,ag];rfl,?_,Ac,λb m hb=>?_⟩⟩);have be:l5≠X:=by rintro rfl;rcases ho with h|h;exact h L;rw[e5]at h;cases h
      intro j p t' h1 h2;rcases cL j ps.length with h|h;rw[c_ h]at h1;obtain⟨n,e⟩:=lp j p t' h1 h2;exact⟨n,by rw[Ag n];exact S6 _ _ e⟩;rw[cF h]at h1;have h3:=(E_.mp h1).1;rw[gP]at h3;have h4:j=j0:=by omega
      rw[show j-ps.length=0 by omega]at h1;have h6:l5=p:=aX h1;rw[h4,bn]at h2;have h7:t=t':=aX h2;rw[<- h6,<- h7];exact⟨be,by rw[Ag be];exact se⟩;rw[Ag<|by rintro rfl;rw[L]at hb;cases hb];exact S6 _ _<|U _ _ hb;rintro V τ' μ5 ⟨o,ps,rfl,rfl,ag,lp,e5,U⟩;rw[B_]at ag;refine⟨.R X,ps,(B4 b).map λt=>O (t,y),rfl,Av e5,⟨by rw[B_];exact ag,λj p g h1 h2=>?_⟩,λG' xl=>?_,λus l6 μ6 C6 hl6 e6 S6=>?_⟩;rw[G_]at h2;obtain⟨t,h3,rfl⟩:=I_.mp h2;exact(lp j p t h1 h3).2;obtain⟨t,_,rfl⟩:=DD.mp xl;exact hB (t,y);have S36:Sub μ3 μ6:=λb m hb=>S6 _ _<|U _ _<|S4 _ _ hb;have lf6:l6≠f:=by rintro rfl;rw[U _ _<|S4 _ _ e3f]at hl6;cases hl6
      have zf:l6≠r:=by rintro rfl;rw[U _ _<|S4 _ _ Y]at hl6;cases hl6
      have gy:=CM kvs (.inl (b:Nat))<|.R l6;refine Ab (S36 _ _ Y) (Ab (x:=MO.dk<|Fo kvs (.inl (b:Nat))<|.R l6) rfl ⟨A3<|show kvs.length<=_ by omega,b8 _ _ ⟨Fo kvs (.inl (b:Nat))<|.R l6,.R l6,rfl,by rw[Ag fr];exact S36 _ _ e3f,Ac,by rw[Ag lr];exact S36 _ _ e3l,by rw[Q3,T_ rfl],by omega,λk v hk=>?_,λb m hb=>?_⟩⟩);rw[Q3]at hk;by_cases e:(Sum.inl (k:Int):Key)=.inl (b:Int);rw[T_ e]at hk;have e:k=b:=gO<|iJ e;subst e;exact⟨l6,us,(aX hk).symm,lf6,zf,by rw[Ag zf];exact e6,C6⟩;rw[M_ e]at hk;obtain⟨a,ys,rfl,af,ar,ea,T⟩:=hR _ _ hk;exact⟨a,ys,rfl,af,ar,by rw[Ag ar];exact S36 _ _ ea,T⟩;rw[Ag<|by rintro rfl;rw[r0]at hb;cases hb];exact S36 _ _<|S3 _ _ hb
    clear bx hR;rintro τ I ⟨kvs,v,rfl,e4f,e4r,e4l,hv,bx,hR,S4⟩;obtain⟨a,ys,rfl,af,ar,ea,T⟩:=hR _ _ hv;have hyl:=T.len;refine⟨Ab e4f trivial,Ab e4r<|Ab (x:=some<|AV.R a) (by show some (Cu kvs<|.inl (b:Nat))=_;rw[hv])<|Ab (x:=AV.R a) rfl<|Ab (Av ea) λX L=>?_⟩;have pa:a≠X:=by rintro rfl;rw[L]at ea;cases ea
    have pf:f≠X:=by rintro rfl;rw[L]at e4f;cases e4f
    have p0:μ X=none:=S4.none L;refine cmap ys Ba (λq=>Ba (c+q.1,q.2)) (λτ=>∃o1 o2,τ=[o1,o2,oE (c:Nat)]) ⟨none,none,rfl⟩ Ac (seven<|by omega) (λV=>Av<|by rw[Bh,Ag pa];exact ea) ?_ ?_;rintro j ⟨c2,b2⟩ τ' V W hq ⟨o1,o2,rfl⟩ hW;refine⟨rfl,Rh ?_⟩;exact hW _ ⟨_,_,rfl⟩;rw[Bh];have U:Sub I (An I X<|.lst<|ys.map λq=>Ba (c+q.1,q.2)):=Sub.refl.new L;have e5:An I X (.lst<|ys.map λq=>Ba (c+q.1,q.2)) X=oG (ys.map λq=>Ba (c+q.1,q.2)):=Ac;generalize An I X (.lst<|ys.map λq=>Ba (c+q.1,q.2))=μ5 at U e5;have a9:G.take (i+1)=G.take i++[(c,b)]:=by rw[aM,hp];rfl
    refine Ab (U _ _ e4f) (Ab e5 ⟨bR<|PM<|by rw[B_,B_];omega,hZ2 _ _ ⟨_,_,M++ys.map (λq=>(c+q.1,q.2)),kvs,rfl,?_,by rw[Ag fr.symm];exact U _ _ e4r,by rw[Ag lf];exact U _ _ e4l,?_,by rw[O_,B_];omega,bx,λk v hk=>?_,λb m hb=>?_⟩⟩);rw[Ac,L_,aE];rfl;rw[a9,fW,gL];exact hm.app<|T.up c;obtain⟨a,ys,rfl,af,ar,ea,T⟩:=hR _ _ hk;exact⟨a,ys,rfl,af,ar,by rw[Ag af];exact U _ _ ea,T⟩;rw[Ag<|by rintro rfl;rw[f0]at hb;cases hb];exact U _ _<|S4 _ _ hb
   rintro τ μ3 ⟨o7,o8,M,kvs,rfl,e3f,Y,e3l,hm,iu,bx,hR,S3⟩;rw[B_]at hm iu;rw[aJ]at hm;exact hZ _ _ ⟨_,_,M,rfl,e3f,hm,by omega,S3⟩
  rintro τ μ3 ⟨o7,o8,M,rfl,e3,hm,iu,S3⟩;exact⟨f,M,rfl,e3,by omega,hm.b,λus p I C4 hp e4 S4=>⟨_,Sub.refl,q us p I (hm.thin C4) (S3.none hp) e4 λb m hb=>S4 b m<|S3 b m hb⟩⟩
theorem DP:∀{Gs a:oA<|oA Pr} {F F':oA Pr},Paired (λb P=>Cv P b) Gs a->(∀z∈F,z∈F')->∀z∈Gs.foldl (λF G=>F.flatMap λp=>G.map<|ewe p) F,z∈a.foldl (λF G=>F.flatMap λp=>G.map<|ewe p) F'
 |_,_,_,_,.nil,h=>h
 |_,_,_,_,.cons r t,h=>by rw[eQ,eQ];refine DP t λz hz=>?_;obtain⟨p,hp,hz⟩:=bA.mp hz;obtain⟨o,c,rfl⟩:=DD.mp hz;exact bA.mpr ⟨p,h p hp,DD.mpr ⟨o,r.m o c,rfl⟩⟩
theorem DQ:∀{Gs b:oA<|oA Pr} {F F':oA Pr},Paired (λi P=>Cv P i) Gs b->(∀y∈F',∃z∈F,Wn z y)->∀y∈b.foldl (λF G=>F.flatMap λp=>G.map<|ewe p) F',∃z∈Gs.foldl (λF G=>F.flatMap λp=>G.map<|ewe p) F,Wn z y
 |_,_,_,_,.nil,h=>h
 |_,_,_,_,.cons r t,h=>by rw[eQ,eQ];refine DQ t λy hy=>?_;obtain⟨p,hp,hy⟩:=bA.mp hy;obtain⟨o,j,rfl⟩:=DD.mp hy;obtain⟨e,g,l⟩:=h p hp;obtain⟨d,a,k⟩:=r.c o j;exact⟨ewe e d,bA.mpr ⟨e,g,DD.mpr ⟨d,a,rfl⟩⟩,DK l k⟩
def QA{Gs d:oA<|oA Pr}(h:Paired (λa P=>Cv P a) Gs d){a:oA Pr}(C:Cv (cho Gs) a):Cv (cho d) a:=by refine⟨λz hz=>?_,λy hy=>?_,C.u,C.b⟩;exact DP h (F:=[(0,0)]) (F':=[(0,0)]) (λz hz=>hz) z<|C.m z hz;obtain⟨u,hu,e⟩:=DQ h (F:=[(0,0)]) (F':=[(0,0)]) (λz hz=>⟨z,hz,Wn.refl z⟩) y hy;obtain⟨z,hz,g⟩:=C.c u hu;exact⟨z,hz,g.trans e⟩
theorem Vn:∀{Gs a:oA<|oA Pr},Paired (λd P=>Cv P d) Gs a->Cw a.flatten Gs.flatten
 |_,_,.nil=>⟨(λ_ h=>nomatch h),(λ_ h=>nomatch h),(λ_ h=>nomatch h)⟩
 |_,_,.cons r t=>by rw[kN,kN];exact Cw.app ⟨r.m,r.c,r.b⟩<|Vn t
def IG{Gs d:oA<|oA Pr}(h:Paired (λa P=>Cv P a) Gs d){a:oA Pr}(C:Cv Gs.flatten a):Cv d.flatten a:=by have k:=Vn h;refine⟨λz hz=>?_,λy hy=>?_,C.u,C.b⟩;exact k.m z<|C.m z hz;obtain⟨u,hu,e⟩:=k.c y hy;obtain⟨z,hz,g⟩:=C.c u hu;exact⟨z,hz,g.trans e⟩
def up1(z:Pr):Pr:=(z.1+1,z.2)
def Cv.up1{P a:oA Pr}(h:Cv P a):Cv (P.map up1) (a.map up1):=by refine⟨λz hz=>?_,λy hy=>?_,by rw[aE];exact h.u,λz hz=>?_⟩;obtain⟨u,hu,rfl⟩:=DD.mp hz;exact DD.mpr ⟨u,h.m u hu,rfl⟩;obtain⟨u,hu,rfl⟩:=DD.mp hy;obtain⟨z,hz,e⟩:=h.c u hu;exact⟨_,DD.mpr ⟨z,hz,rfl⟩,e⟩;obtain⟨u,hu,rfl⟩:=DD.mp hz;exact h.b u hu
structure GqOk(g:Gq):Prop where
 p:g.pl.length<=5
 r:g.rs.length<=60
 ok:∀r∈g.rs,r.p<g.pl.length/\r.q<5/\r.w.length<=2
structure FlwK(μ0 μ:M)(d:lH)(g:Gq)(G Pf:Tops)(kvs:oA<|(Nat×Nat)×lH):Prop where
 dd:μ d=some (.dt<|kvs.map kvT)
 ll:∀e∈kvs,μ e.2=oG ((Pf e.1).map Ba)/\e.2≠d
 n:kvs.length<=60
 kk:∀k,(∃e∈kvs,e.1=k)↔rgp g.rs k≠[]
 uu:(kvs.map (·.1)).Nodup
 pf:∀e∈kvs,Cv ((F1 g G e.1).map up1) (Pf e.1)
 nd:μ0 d=none
 ss:Sub μ0 μ
abbrev nFg:oA Str:=["game","tops","least","found","top","rules","groups","chosen"]
def X9:FnScope nFg qJ (Ai UL):=Br<|by decide +kernel
def XI:(["rule","tops","least"]:oA Str).Nodup:=by decide +kernel
def JW:(qD:oA Str).Nodup:=by decide +kernel
def QB:ASp:=λh e R=>∃(g:Gq) (d:lH) (G:Tops),h=[.D<|Nx g,.R d,.D<|.bool true]/\GqOk g/\TopK e d G/\X7 G/\∀c i b a,FlwK e a c g G i b->R (.R c) a
def XJ{n:Nat}(F:Fun K "following" "following" UL f fd) (cRt:VCal P w K mg base n "rules_by_top" ["game"] WZ) (cRb:VCal P w K mg base n "readings_by" qI XF) (v8:VCal P w K mg base n "one_of_each" oP PV) (cOa:VCal P w K mg base n "one_of_any" oP WU) {t1:Tok} (nv:mg "OTHER_HAND" = some (.int 1 t1)):FnOk P w K mg base Dm (n+1) f fd qJ (D5 K 3 QB):=by
 refine F.vok X9 λam A outer s H E hr=>⟨_,(Ae (Am (i:=3) X9.nd rfl oH E4)<|Ae (Iq aD rfl (Al cRt hr rfl<|Aa (vv 0) Ad) (Ao (Ak (i:=4) X9.nd rfl oH)<|Ao (Ak (i:=5) X9.nd rfl oH) Bs)<|Ae (Go (i:=6) (N':=["rule","tops","least"]) (mp:=[none,some 1,some 2]) rfl X9.nd rfl rfl (Bo<|vv 5) (λ_ _ _ _=>(Ak (i:=0) XI rfl oH oI)) (λ_ _ _ _=>B2) (λ_ _ _ _=>(Al cRb hr rfl<|Aa (vv 1)<|Aa (Aw Bd (vv 0) Af)<|Aa (Aw Bd (vv 0) Af)<|Aa (vv 2) Ad))<|Bc (N:=nFg) (pn:=(Ai UL).names)<|by decide +kernel)<|Ae (Am (i:=7) X9.nd rfl oH<|Ec (Ax (C1 hr) (Aw Bd (Aw Bd (Aw Bd (vv 0) Af)<|Aw Bd (vv 4) Af) Af) (Eh rfl nv (v:=.int 1) ⟨_,rfl⟩ λ_=>B9)<|nomark _) (Al v8 hr rfl<|Aa (vv 6)<|Aa (vv 2) Ad)<|Al cOa hr rfl<|Aa (vv 6)<|Aa (vv 2) Ad)<|Ah<|Ek (Dh hr) (vv 3) (vv 4)<|Cf (N':=qD) (mp:=[none,none]) rfl (Bo<|vv 7) (λ_ _ _ _=>(Cz (n:=2) rfl<|Ao (Ak (i:=0) JW rfl oH oI)<|Ao (Ak (i:=1) JW rfl oH oI) Bs)) (λ_ _ _ _=>B2) (λ_ _ _ _=>(Aq<|Aa (A9 B6 (vv 0) Af)<|Aa (vv 1) Ad))<|Bc (N:=nFg) (pn:=(Ai UL).names)<|by decide +kernel)<|Ah<|Ay<|vv 3),?_⟩
 rintro xs μ R _ ⟨g,d,G,rfl,hg,hT,hB,q⟩;have hp3:=hg.p;have zr:=hg.r;intro f hf;refine Bg (λB t=>∃o4 o5 o6 o7 a V,B=[oF<|Nx g,oD d,oF<|.bool true,oD f,o4,o5,o6,o7]/\FlwK μ t f g G V a) (λZ hZ=>?_) ?_;refine⟨g,rfl,by omega,λdR X S T=>Ab T.dd ?_⟩;have Sf:Sub μ (An μ f<|.dt []):=Sub.refl.new hf;have dR0:μ dR=none:=Sf.none T.fd;have fR:f≠dR:=by rintro rfl;have:=T.fd;rw[Ac]at this;cases this
 have S1:Sub μ (Cg S dR):=λb m hb=>by rw[Be<|by rintro rfl;rw[dR0]at hb;cases hb];exact T.ss _ _<|Sf _ _ hb
 have ef:Cg S dR f=some (.dt<|([]:oA<|(Nat×Nat)×lH).map kvT):=by rw[Be fR];exact T.ss _ _ Ac
 have eR:∀e∈X,Cg S dR e.2=oG ((rgp g.rs e.1).map QW)/\e.2≠f:=λe he=>by obtain⟨h1,h2⟩:=T.fe e he;refine⟨by rw[Be h2];exact T.ll e he,λz=>?_⟩;rw[z,Ac]at h1;cases h1
 have bx:X.length<=60:=by
  have:=G6 (xs:=X.map (·.1)) (ys:=g.rs.map λr=>(r.p,r.x)) T.uu λk hk=>by obtain⟨e,he,rfl⟩:=DD.mp hk;have h1:=(T.kk e.1).mp ⟨e,he,rfl⟩;obtain⟨r,h2⟩:=fF _ h1;obtain⟨h3,h4⟩:=aR.mp h2;refine DD.mpr ⟨r,h3,?_⟩;unfold Fy at h4;rw[a_,bB,bB]at h4;exact kI h4.1 h4.2
  rw[B_,B_]at this;exact R_ this zr
 refine Ls (λi B t=>∃o4 o5 o6 o7 a V,B=[oF<|Nx g,oD d,oF<|.bool true,oD f,o4,o5,o6,o7]/\t f=some (.dt<|a.map kvT)/\(∀e∈a,t e.2=oG ((V e.1).map Ba)/\e.2≠f)/\a.map (·.1)=(X.take i).map (·.1)/\(∀e∈a,Cv ((F1 g G e.1).map up1)<|V e.1)/\(∀e∈X,t e.2=oG ((rgp g.rs e.1).map QW))/\Sub μ t) ⟨none,none,none,none,[],λ_=>[],rfl,ef,(λ_ h=>nomatch h),rfl,(λ_ h=>nomatch h),λe he=>(eR e he).1,S1⟩ ?_ ?_;rintro i v B M W hv ⟨o4,o5,o6,o7,a,V,rfl,e2,hll,fc,hpf,hRs,S2⟩ hW;rw[G_]at hv;obtain⟨e,he,rfl⟩:=I_.mp hv;have fx:=N_ he;have vt:=hRs e fx;dsimp only[E1,D1,Px,List.set,kvT];refine Bg (λB t=>∃L ps Gs,B=[oF<|Nx g,oD d,oF<|.bool true,oD f,oF<|.tuple [.int (e.1.1:Nat),.int (e.1.2:Nat)],oD e.2,oD L,o7]/\t L=oG (ps.map .R)/\GrAt t ps Gs/\Paired (λu P=>Cv P u) Gs ((rgp g.rs e.1).map λr=>Kn G r.q r.w)/\(∀K∈Gs,K.length<=32/\∀p∈K,p.2<32)/\Sub M t) (λZ3 b8=>?_) ?_;have uv:(rgp g.rs e.1).length<=60:=R_ (bN _ _) zr;refine Ab (Av vt) λL hpl=>?_;have qt:e.2≠L:=by intro z;rw[z,hpl]at vt;cases vt
 refine Ht (λj O τ' t=>∃o,∃(ps:oA lH) (Gs:oA<|oA Pr),τ'=[o,oD d,oF<|.bool true]/\O=ps.map .R/\ps.length=j/\Gs.length=j/\(∀(k:Nat) p G,ps[k]?=some p->Gs[k]?=some G->p≠L/\t p=oG (G.map Ba))/\Paired (λu P=>Cv P u) Gs (((rgp g.rs e.1).take j).map λr=>Kn G r.q r.w)/\(∀K∈Gs,K.length<=32/\∀p∈K,p.2<32)/\t L=oG O/\t e.2=oG ((rgp g.rs e.1).map QW)/\Sub M t) ⟨none,[],[],rfl,rfl,rfl,rfl,(λ_ _ _ h=>by simp at h),.nil,(λ_ h=>nomatch h),Ac,by rw[Ag qt];exact vt,Sub.refl.new hpl⟩ (by rintro _ _ _ _ ⟨_,_,_,_,_,_,_,_,_,_,_,e3,_⟩;exact Av e3) ?_ ?_;rintro j v O τ' μ3 W2 lj ⟨o,ps,Gs,rfl,rfl,h9,dz,lp,cq,I,e3,f3,S3⟩ hW2;rw[G_]at lj;obtain⟨r,hr',rfl⟩:=I_.mp lj;have hj:=(E_.mp hr').1;obtain⟨h1,_⟩:=aR.mp<|N_ hr';obtain⟨_,hq5,hw2⟩:=hg.ok r h1;refine Fk rfl<|Ab (Aj (j:=2) rfl)<|Ab (Aj (j:=3) rfl) ⟨d,G,r.q,r.w,rfl,hT.sub<|S2.trans S3,hB,hq5,hw2,λu l J C hl Y U=>?_⟩;have qd:l≠L:=by rintro rfl;rw[e3]at hl;cases hl
 refine⟨U _ _ e3,A3<|by rw[B_];omega,hW2 _ _ _ ⟨_,ps++[l],Gs++[u],rfl,by rw[L_];rfl,by rw[O_,h9];rfl,by rw[O_,dz];rfl,λk p G k1 k2=>?_,?_,λG hG=>?_,Ac,by rw[Ag qt];exact U _ _ f3,(S3.trans U).new hpl⟩⟩;rcases cL k ps.length with h|h;rw[c_ h]at k1;rw[c_<|by omega]at k2;obtain⟨n1,n2⟩:=lp k p G k1 k2;exact⟨n1,by rw[Ag n1];exact U _ _ n2⟩;rw[cF h]at k1;rw[cF<|by omega]at k2;have h3:=(E_.mp k1).1;rw[gP]at h3;rw[show k-ps.length=0 by omega]at k1;rw[show k-Gs.length=0 by omega]at k2;cases k1;cases k2;exact⟨qd,by rw[Ag qd];exact Y⟩;rw[aM,hr',L_];exact lD cq C;rcases P_.mp hG with h|h;exact I G h;rw[H_.mp h];exact⟨C.len,C.b⟩;rintro O τ' μ3 ⟨o,ps,Gs,rfl,rfl,h9,dz,lp,cq,I,e3,f3,S3⟩;rw[B_,aJ]at cq;exact b8 _ _ ⟨L,ps,Gs,rfl,e3,⟨by omega,λk p G h1 h2=>(lp k p G h1 h2).2⟩,cq,I,S3⟩;rintro B μ3 ⟨L,ps,Gs,rfl,e3,hGr,n5,I,S3⟩;have jy:e.1.1<g.pl.length:=by obtain⟨r,h2⟩:=fF _<|(T.kk e.1).mp ⟨e,fx,rfl⟩;obtain⟨h3,h4⟩:=aR.mp h2;unfold Fy at h4;rw[a_,bB,bB]at h4;rw[<- h4.1];exact(hg.ok r h3).1
 have gn:atI (g.pl.map WY) ((e.1.1:Nat):Int)=some (WY g.pl[e.1.1]):=Aj (by rw[G_,F_ jy];rfl);have n6:hnd g e.1=(g.pl[e.1.1]).2:=by unfold hnd;rw[cJ,G_,F_ jy];rfl
 have hgl:Gs.length<=60:=by have h1:=bS n5;rw[B_]at h1;have:=bN (Fy e.1) g.rs;unfold rgp at h1;omega
 generalize g.pl[e.1.1]=pp at gn n6;refine Bg (λB t=>∃lc,∃u:oA Pr,B=[oF<|Nx g,oD d,oF<|.bool true,oD f,oF<|.tuple [.int (e.1.1:Nat),.int (e.1.2:Nat)],oD e.2,oD L,oD lc]/\t lc=oG (u.map Ba)/\Cv (F1 g G e.1) u/\Sub μ3 t) (λZ3 b8=>?_) ?_;refine Ab (Aj (j:=0) rfl)<|Ab (Aj (j:=0) rfl)<|Ab gn<|Ab (Aj (j:=1) rfl)<|ieq (λc=>?_) λc=>?_;refine⟨.R L,ps,Gs,rfl,Av e3,hGr,I,λu l J C hl Y U=>b8 _ _ ⟨l,u,rfl,Y,?_,U⟩⟩;unfold F1;rw[T_<|by rw[n6];omega];exact QA n5 C;refine⟨.R L,ps,Gs,rfl,Av e3,hGr,hgl,I,λu l J C hl Y U=>b8 _ _ ⟨l,u,rfl,Y,?_,U⟩⟩;unfold F1;rw[M_<|by rw[n6];omega];exact IG n5 C;rintro B J ⟨lc,u,rfl,Y,C,U⟩;have hz9:=C.len;have bg:∀y∈a,y.1≠e.1:=λy av c=>by
  have h1:e.1∈(X.take i).map (·.1):=by rw[<- fc,<- c];exact DD.mpr ⟨y,av,rfl⟩
  have h2:((X.take<|i+1).map (·.1)).Nodup:=T.uu.sublist<|(fK _ _).map _;rw[aM,he,L_,bL]at h2;exact h2.2.2 _ h1 e.1 (by simp) rfl
 refine Ab (Av Y) λpn gy=>?_;have lcn:lc≠pn:=by rintro rfl;rw[Y]at gy;cases gy
 have S24:=S3.trans U;have vw:M pn=none:=S24.none gy;have zx:pn≠f:=by rintro rfl;rw[e2]at vw;cases vw
 refine cmap u Ba (λz=>Ba (z.1+1,z.2)) (λB=>∃o1 o2,B=[o1,o2]) ⟨none,none,rfl⟩ Ac (seven<|by omega) (λ_=>Av<|by rw[Ag lcn,Ag lcn];exact Y) ?_ ?_;rintro j ⟨c,b⟩ τ' O W2 hj ⟨o1,o2,rfl⟩ hW2;exact⟨rfl,Rh<|hW2 _ ⟨_,_,rfl⟩⟩;have S5:Sub M (An (An J pn<|.lst []) pn<|.lst<|u.map λz=>Ba (z.1+1,z.2)):=(S24.new vw).new vw;have e5:An (An J pn<|.lst []) pn (.lst<|u.map λz=>Ba (z.1+1,z.2)) pn=oG (u.map λz=>Ba (z.1+1,z.2)):=Ac;generalize An (An J pn<|.lst []) pn (.lst<|u.map λz=>Ba (z.1+1,z.2))=μ5 at S5 e5;have ep:dput (.dt<|a.map kvT) (.tuple [.int (e.1.1:Nat),.int (e.1.2:Nat)]) (.R pn)=some (.dt<|(a++[(e.1,pn)]).map kvT):=by rw[<- Gz bg];rfl
 have zaf:a.length<=60:=by have:=cV List.length fc;rw[B_,B_,bF]at this;omega
 refine Ab (S5 _ _ e2) (Ab ep ⟨A3<|show(a.map kvT).length<=1000 by rw[B_];omega,hW _ _ ⟨_,_,_,_,a++[(e.1,pn)],λk=>if k=e.1 then u.map up1 else V k,rfl,Ac,λy av=>?_,?_,λy av=>?_,λy av=>?_,(S2.trans S5).new hf⟩⟩);rcases P_.mp av with h|h;obtain⟨h1,h2⟩:=hll y h;dsimp only;rw[M_<|bg y h,Ag h2];exact⟨S5 _ _ h1,h2⟩;rw[H_.mp h];dsimp only;rw[T_ rfl,Ag zx];exact⟨by rw[e5,aE];rfl,zx⟩;rw[L_,fc,aM,he,L_];rfl;rcases P_.mp av with h|h;dsimp only;rw[M_<|bg y h];exact hpf y h;rw[H_.mp h];dsimp only;rw[T_ rfl];exact C.up1;rw[Ag (eR y av).2];exact S5 _ _<|hRs y av;rintro B M ⟨o4,o5,o6,o7,a,V,rfl,e2,hll,fc,hpf,hRs,S2⟩;rw[B_,aJ]at fc;have hlk:a.length=X.length:=by have:=cV List.length fc;rwa[B_,B_]at this
 refine hZ _ _ ⟨_,_,_,_,a,V,rfl,⟨e2,hll,by omega,λk=>?_,by rw[fc];exact T.uu,hpf,hf,S2⟩⟩;rw[<- T.kk k];constructor;rintro⟨e,he,rfl⟩;have:e.1∈X.map (·.1):=by rw[<- fc];exact DD.mpr ⟨e,he,rfl⟩
 obtain⟨y,h1,h2⟩:=DD.mp this;exact⟨y,h1,h2⟩;rintro⟨e,he,rfl⟩;have:e.1∈a.map (·.1):=by rw[fc];exact DD.mpr ⟨e,he,rfl⟩
 obtain⟨y,h1,h2⟩:=DD.mp this;exact⟨y,h1,h2⟩;rintro B S ⟨o4,o5,o6,o7,a,V,rfl,Q⟩;exact⟨_,Sub.refl,q f V a S Q⟩
structure DcK(μ:M)(d:lH)(Pf:Tops)(kvs:oA<|(Nat×Nat)×lH):Prop where
 dd:μ d=some (.dt<|kvs.map kvT)
 ll:∀e∈kvs,μ e.2=oG ((Pf e.1).map Ba)/\e.2≠d
 n:kvs.length<=60
 uu:(kvs.map (·.1)).Nodup
structure WtOk(G Pf:Tops)(kvs:oA<|(Nat×Nat)×lH)(Wf:Tops)(kw:oA<|(Nat×Nat)×lH):Prop where
 k:∀e∈kw,∃e'∈kvs,e'.1=e.1
 w:∀e∈kw,Wf e.1≠[]/\(Wf e.1).Sublist (Pf e.1)/\∀z∈Wf e.1,∀y∈G e.1,¬Wn y z
 c:∀e'∈kvs,∀z∈Pf e'.1,(∃y∈G e'.1,Wn y z)\/∃e∈kw,e.1=e'.1/\z∈Wf e.1
def TopK.del{a:M}{d f:lH}{G:Tops}(h:TopK a d G)(i:f≠d){kvs:oA<|oA Key×AV}(e:a f=some (.dt kvs)):TopK (Cg a f) d G:=by obtain⟨k,h1,h2,g,b⟩:=h.at';refine⟨k,by rw[Be i.symm];exact h1,λx hx=>?_,g,b⟩;have:=h2 x hx;rw[Be λc=>by rw[c,e]at this;cases this];exact this
abbrev nNk:oA Str:=["kept","found","waiting","top","pairs","lows","left"]
def Ya:FnScope nNk qK (Ai UN):=Br<|by decide +kernel
def JX:(qD:oA Str).Nodup:=by decide +kernel
def XL:(["pair","lows"]:oA Str).Nodup:=by decide +kernel
def QC:ASp:=λi c R=>∃(dk b:lH) (G Pf:Tops) (kvs:oA<|(Nat×Nat)×lH),i=[.R dk,.R b]/\TopK c dk G/\X7 G/\DcK c b Pf kvs/\(∀e∈kvs,(Pf e.1).length<=32/\∀z∈Pf e.1,z.2<32)/\b≠dk/\∀d g h a,DcK a d g h->WtOk G Pf kvs g h->c d=none->Sub (Cg c b) a->R (.R d) a
def XM{n:Nat}(F:Fun K "not_kept" "not_kept" UN f fd) (yl:VCal P w K mg base n "has_within" qC PR) (ah:mg "len" = none):FnOk P w K mg base Dm (n+1) f fd qK (D5 K 2 QC):=by
 refine F.vok Ya λam A outer s H E hr=>⟨_,(Ae (Am (i:=2) Ya.nd rfl oH E4)<|Ae (Iq aD rfl (vv 1) (Ao (Ak (i:=3) Ya.nd rfl oH)<|Ao (Ak (i:=4) Ya.nd rfl oH) Bs)<|Ae (Am (i:=5) Ya.nd rfl oI<|Cf (N':=qD) (mp:=[none,none]) rfl (Bo<|Ik (Dh hr) (vv 0) (vv 3)<|Bu Ad) (λ_ _ _ _=>(Cz (n:=2) rfl<|Ao (Ak (i:=0) JX rfl oH oI)<|Ao (Ak (i:=1) JX rfl oH oI) Bs)) (λ_ _ _ _=>B2) (λ_ _ _ _=>(vv 1))<|Bc (N:=nNk) (pn:=(Ai UN).names)<|by decide +kernel)<|Ae (Go (i:=6) (N':=["pair","lows"]) (mp:=[none,some 5]) rfl Ya.nd rfl rfl (Bo<|vv 4) (λ_ _ _ _=>(Ak (i:=0) XL rfl oH oI)) (λ_ _ _ _=>(Ih<|Zk<|Jh<|Al yl hr rfl<|Aa (vv 1)<|Aa (Aw Bd (vv 0) Af) Ad)) (λ_ _ _ _=>(vv 0))<|Bc (N:=nNk) (pn:=(Ai UN).names)<|by decide +kernel)<|Ah<|Bq (Ax Ki (A8 Di rfl ah bH<|Aa (vv 6) Ad) Af<|nomark _) (Ah<|Ek (Dh hr) (vv 2) (vv 3)<|vv 6) A6)<|Ah<|Ay<|vv 2),?_⟩
 rintro xs μ R _ ⟨dk,J,G,L,t,rfl,hT,hB,D,hPB,mi,q⟩;intro M jx;have wf:M≠J:=by rintro rfl;rw[D.dd]at jx;cases jx
 have S0:Sub (Cg μ J) (Cg (An μ M<|.dt []) J):=λb m hb=>by
  have ff:b≠J:=λz=>by rw[z]at hb;unfold Cg at hb;rw[T_ rfl]at hb;cases hb
  rw[Be ff]at hb ⊢;rw[Ag<|by rintro rfl;rw[jx]at hb;cases hb];exact hb
 have hTd:=hT.del mi D.dd;have zab:=D.n;refine Bg (λτ d=>∃o3 o4 X U I p,τ=[oD dk,oD J,oD M,o3,o4,X,U]/\DcK d M I p/\WtOk G L t I p/\Sub (Cg μ J) d) (λZ hZ=>?_) ?_
 ·refine Ab (x:=MO.dt<|t.map kvT) (by rw[Ag wf.symm];exact D.dd) ?_;refine Ls (λi τ d=>∃o3 o4 X U I p,τ=[oD dk,oD J,oD M,o3,o4,X,U]/\p.length<=i/\DcK d M I p/\WtOk G L (t.take i) I p/\Sub (Cg μ J) d) ⟨none,none,none,none,λ_=>[],[],rfl,J_ _,⟨by rw[Be wf];exact Ac,(λ_ h=>nomatch h),aG _,bQ⟩,⟨(λ_ h=>nomatch h),(λ_ h=>nomatch h),(λ_ h=>nomatch h)⟩,S0⟩ ?_ ?_
  ·rintro i v τ r W hv ⟨o3,o4,X,U,I,p,rfl,bx,u,C,V⟩ hW;rw[G_]at hv;obtain⟨e,he,rfl⟩:=I_.mp hv;have fx:=N_ he;have hi:=(E_.mp he).1;obtain⟨he1,hed⟩:=D.ll e fx;have eP:r e.2=oG ((L e.1).map Ba):=V _ _ (by rw[Be hed];exact he1);obtain⟨hg32,hgb⟩:=hB e.1;obtain⟨hp32,hpb⟩:=hPB e fx;have a9:t.take (i+1)=t.take i++[e]:=by rw[aM,he];rfl
   have bg:∀g∈p,g.1≠e.1:=λg o c=>by obtain⟨e2,h1,h2⟩:=C.k g o;have S:((t.take<|i+1).map (·.1)).Nodup:=D.uu.sublist<|(fK _ _).map _;rw[a9,L_,bL]at S;exact S.2.2 e2.1 (DD.mpr ⟨e2,h1,rfl⟩) e.1 (by simp)<|h2.trans c
   dsimp only[E1,D1,Px,List.set,kvT];refine Bg (λτ d=>∃O,τ=[oD dk,oD J,oD M,oF<|.tuple [.int (e.1.1:Nat),.int (e.1.2:Nat)],oD e.2,oD O,U]/\d O=oG (((G e.1).map (·.2)).map Ch)/\Sub r d) (λZ3 b8=>?_) ?_;dsimp only[Sd,Py,NB];refine Ix (td:=R9 0) (ty:=R9 3) (τ:=[oD dk,oD J,oD M,oF<|.tuple [.int (e.1.1:Nat),.int (e.1.2:Nat)],oD e.2,X,U]) hTd V e.1.1 e.1.2 (λQ h=>h) (λQ h=>h) ?_;intro l μ2 hl Y _;refine Ab (Av hl) λO we=>?_;have llw:l≠O:=by rintro rfl;rw[hl]at we;cases we
   refine cmap (G e.1) Ba (λz=>Ch z.2) (λτ=>∃o1 o2,τ=[o1,o2]) ⟨none,none,rfl⟩ Ac (seven<|by omega) (λ_=>Av<|by rw[Bh,Ag llw];exact hl) ?_ ?_;rintro j z τ' acc W2 hj ⟨o1,o2,rfl⟩ hW2;exact⟨rfl,Rh<|hW2 _ ⟨_,_,rfl⟩⟩;rw[Bh];exact b8 _ _ ⟨O,rfl,by rw[Ac,aE];rfl,Y.new<|Y.none we⟩;rintro τ μ2 ⟨O,rfl,e2,Y⟩;have vy:=Y _ _ eP;refine Bg (λτ d=>∃B,τ=[oD dk,oD J,oD M,oF<|.tuple [.int (e.1.1:Nat),.int (e.1.2:Nat)],oD e.2,oD O,oD B]/\d B=oG (((L e.1).filter λz=>!((G e.1).map (·.2)).any λl=>decide (l &&& z.2=l)).map Ba)/\r B=none/\Sub r d) (λZ3 b8=>?_) ?_
   ·refine Ab (Av vy) λB T=>?_;have l1:e.2≠B:=by intro c;rw[c,T]at vy;cases vy
    have l2:O≠B:=by rintro rfl;rw[e2]at T;cases T
    refine cmapf (L e.1) Ba (λz=>!((G e.1).map (·.2)).any λl=>decide (l &&& z.2=l)) Ba (λτ=>∃o1,τ=[o1,oD O]) ⟨none,rfl⟩ Ac (seven<|by omega) (λ_=>Av<|by rw[Bh,Ag l1];exact vy) ?_ ?_
    ·rintro j z τ' acc W1 W2 hj ⟨o1,rfl⟩ w1 w2;refine Ab (x:=PyData.int (z.2:Nat)) (Aj (j:=1) rfl) ⟨O,(G e.1).map (·.2),z.2,rfl,by rw[Bh,Ag l2];exact e2,?_⟩;rw[Bh]at w1 w2 ⊢;cases hh:((G e.1).map (·.2)).any λl=>decide (l &&& z.2=l) with
     |true=>exact Eg rfl (w2 (by rw[hh];rfl) _ ⟨_,rfl⟩)
     |false=>exact Fk rfl<|w1 (by rw[hh];rfl) _ ⟨_,rfl⟩
    rw[Bh];exact b8 _ _ ⟨B,rfl,Ac,Y.none T,Y.new<|Y.none T⟩
   rintro τ μ3 ⟨B,rfl,e3,T,S3⟩;have xc:∀z:Pr,(((G e.1).map (·.2)).any λl=>decide (l &&& z.2=l))=true↔∃y∈G e.1,Wn y z:=λz=>by rw[bX];constructor;rintro⟨b,hb,h⟩;obtain⟨y,hy,rfl⟩:=DD.mp hb;exact⟨y,hy,O8.mp<|aF h⟩;rintro⟨y,hy,h⟩;exact⟨y.2,DD.mpr ⟨y,hy,rfl⟩,aV<|O8.mpr h⟩
   have j1:∀z,z∈((L e.1).filter λz=>!((G e.1).map (·.2)).any λl=>decide (l &&& z.2=l))↔z∈L e.1/\¬ ∃y∈G e.1,Wn y z:=λz=>by rw[aR,<- xc z,Bool.not_eq_true',Bool.not_eq_true]
   have lq:((L e.1).filter λz=>!((G e.1).map (·.2)).any λl=>decide (l &&& z.2=l)).Sublist (L e.1):=List.filter_sublist;generalize ((L e.1).filter λz=>!((G e.1).map (·.2)).any λl=>decide (l &&& z.2=l))=lf0 at e3 j1 lq;have sm:∀z∈L e.1,(∃y∈G e.1,Wn y z)\/z∈lf0:=λz hz=>(Classical.em (∃y∈G e.1,Wn y z)).imp id λh=>(j1 z).mpr ⟨hz,h⟩;refine Ab e3<|dif (λc=>?_) λc=>?_;have be:lf0≠[]:=by rintro rfl;exact absurd c<|by decide
   have zn:B≠M:=by rintro rfl;rw[u.dd]at T;cases T
   have ep:dput (.dt<|p.map kvT) (.tuple [.int (e.1.1:Nat),.int (e.1.2:Nat)]) (.R B)=some (.dt<|(p++[(e.1,B)]).map kvT):=by rw[<- Gz bg];rfl
   refine Ab (S3 _ _ u.dd) (Ab ep ⟨A3<|show(p.map kvT).length<=1000 by rw[B_];omega,hW _ _ ⟨_,_,_,_,λk=>if k=e.1 then lf0 else I k,p++[(e.1,B)],rfl,by rw[O_];exact gZ bx,⟨Ac,λg o=>?_,by rw[O_];show p.length+1<=60;omega,?_⟩,⟨λg o=>?_,λg o=>?_,λg o z hz=>?_⟩,Ff (V.trans S3)<|by rw[Be wf];exact jx⟩⟩);rcases P_.mp o with h|h;obtain⟨h1,h2⟩:=u.ll g h;rw[M_<|bg g h,Ag h2];exact⟨S3 _ _ h1,h2⟩;rw[H_.mp h];rw[T_ rfl,Ag zn];exact⟨e3,zn⟩;rw[L_,bL];refine⟨u.uu,by simp,λx hx y hy c2=>?_⟩;obtain⟨g,o,rfl⟩:=DD.mp hx;have hy:y=e.1:=by simpa using hy
   exact bg g o<|c2.trans hy
   rw[a9];rcases P_.mp o with h|h;obtain⟨gr,h1,h2⟩:=C.k g h;exact⟨gr,aH _ h1,h2⟩;rw[H_.mp h];exact⟨e,by simp,rfl⟩;rcases P_.mp o with h|h;rw[M_<|bg g h];exact C.w g h;rw[H_.mp h];rw[T_ rfl];exact⟨be,lq,λz hz y hy hw=>((j1 z).mp hz).2 ⟨y,hy,hw⟩⟩;rw[a9]at o;rcases P_.mp o with h|h;refine(C.c g h z hz).imp id λ⟨gr,h1,h2,S⟩=>⟨gr,aH _ h1,h2,?_⟩;rw[M_<|bg gr h1];exact S;rw[H_.mp h]at hz ⊢;refine(sm z hz).imp id λS=>⟨(e.1,B),by simp,rfl,?_⟩;rw[T_ rfl];exact S
   ·have zp:lf0=[]:=by
     cases lf0 with
     |nil=>rfl
     |cons a l=>exact absurd (show(0:Int)<(((a::l).map Ba).length:Nat) from by rw[B_,aS];omega) c
    refine hW _ _ ⟨_,_,_,_,I,p,rfl,bC bx,⟨S3 _ _ u.dd,λg o=>⟨S3 _ _ (u.ll g o).1,(u.ll g o).2⟩,u.n,u.uu⟩,⟨λg o=>?_,C.w,λg o z hz=>?_⟩,V.trans S3⟩;rw[a9];obtain⟨gr,h1,h2⟩:=C.k g o;exact⟨gr,aH _ h1,h2⟩;rw[a9]at o;rcases P_.mp o with h|h;exact C.c g h z hz;rw[H_.mp h]at hz ⊢;refine(sm z hz).imp id λS=>?_;rw[zp]at S;cases S
  rintro τ r ⟨o3,o4,X,U,I,p,rfl,bx,u,C,V⟩;rw[B_,aJ]at C;exact hZ _ _ ⟨_,_,_,_,I,p,rfl,u,C,V⟩
 rintro τ r ⟨o3,o4,X,U,I,p,rfl,u,C,V⟩;exact⟨_,Sub.refl,q M I p r u C jx V⟩
def IH(l:oA Nat):Js (l.map Ch)=some (l.map λ(n:Nat)=>(n:Int)):=by
 induction l with
 |nil=>rfl
 |cons n l a=>show(Js<|l.map Ch).map _=_;rw[a];rfl
theorem Rp:∀ns:oA Nat,(ns.map λ(n:Nat)=>(n:Int)).sum=((ns.sum:Nat):Int)
 |[]=>rfl
 |n::ns=>by rw[aQ,jM,jM,Rp ns];rfl
abbrev nHm:oA Str:=oQ
def Qcn:FnScope nHm oQ (Ai YX):=Br<|by decide +kernel
def XN:(oO:oA Str).Nodup:=by decide +kernel
def XO:ASp:=λc b R=>∃(d:lH) (G:Tops) (kvs:oA<|(Nat×Nat)×lH),c=[.R d]/\DcK b d G kvs/\(∀e∈kvs,(G e.1).length<=32)/\∀ a,Sub b a->R (.D<|.int ((kvs.map λe=>(G e.1).length).sum:Nat)) a
def XQ{n:Nat}(F:Fun K "how_many" "how_many" YX f fd) (r:mg "sum" = none) (k:mg "len" = none):FnOk P w K mg base Dm (n+1) f fd oQ (D5 K 1 XO):=by
 refine F.vok Qcn λB A h s H E hr=>⟨_,(Ah<|Ay<|A8 (TM rfl) rfl r PyProof.Rows.boot_sum<|Aa (Qz (N':=oO) (mp:=[none]) rfl (vv 0) (λ_ _ _ _=>(Ak (i:=0) XN rfl oH oI)) (λ_ _ _ _=>B2) (λ_ _ _ _=>(A8 Di rfl k bH<|Aa (vv 0) Ad))<|Bc (N:=nHm) (pn:=(Ai YX).names)<|by decide +kernel) Ad),?_⟩;rintro I C R _ ⟨d,G,a,rfl,D,hb,q⟩;refine Ab D.dd λp hp=>?_;have u:d≠p:=by rintro rfl;rw[D.dd]at hp;cases hp
 rw[show(a.map kvT).map (λx=>x.2)=a.map λe=>AV.R e.2 by rw[aE];rfl];have j:=D.n;refine cmap a (λe=>AV.R e.2) (λe=>.D<|.int ((G e.1).length:Nat)) (λt=>∃o,t=[o]) ⟨none,rfl⟩ Ac (seven<|by omega) (λ_=>trivial) ?_ ?_;rintro i e y v W he ⟨o,rfl⟩ hW;obtain⟨h1,h2⟩:=D.ll e<|N_ he;have l:e.2≠p:=λz=>by rw[z,hp]at h1;cases h1
 refine Ab (x:=MO.lst<|(G e.1).map Ba) (by rw[Bh,Ag l,Be h2];exact h1) ?_;show W _ (.D<|.int (((G e.1).map Ba).length:Nat)) _;rw[B_];exact hW _ ⟨_,rfl⟩;refine Ab (x:=MO.lst<|(a.map λe=>(G e.1).length).map Ch) (by rw[Ag u.symm,Ac,aE];rfl) (Ab (IH _) ⟨⟨λn j=>?_,by rw[B_,B_];omega⟩,_,Sub.refl,?_⟩);obtain⟨m,c,rfl⟩:=DD.mp j;obtain⟨e,he,rfl⟩:=DD.mp c;have:=hb e he;omega;rw[Rp];refine q _ λb m c=>?_;by_cases g:b=d;rw[g,Ac,<- c,g,D.dd];rw[Ag g,Ag (by rintro rfl;rw[hp]at c;cases c),Ag (by rintro rfl;rw[hp]at c;cases c),Be g];exact c
structure Kpt(μ:M)(d:lH)(G:Tops)(kk:oA<|(Nat×Nat)×lH):Prop where
 D:DcK μ d G kk
 o:∀k,(∀e∈kk,e.1≠k)->G k=[]
 b:∀e∈kk,e.1.1<5/\e.1.2<8
def Kpt.top{b:M}{d:lH}{G:Tops}{a:oA<|(Nat×Nat)×lH}(h:Kpt b d G a):TopK b d G:=⟨a,h.D.dd,λe he=>(h.D.ll e he).1,h.o,h.D.uu⟩
def DR{ks:oA<|Nat×Nat}(h:ks.Nodup)(hb:∀k∈ks,k.1<5/\k.2<8):ks.length<=40:=by have:=G6 (ys:=(List.range 5).flatMap λi=>(List.range 8).map λj=>(i,j)) h λk hk=>bA.mpr ⟨k.1,aL.mpr (hb k hk).1,DD.mpr ⟨k.2,aL.mpr (hb k hk).2,rfl⟩⟩;exact this
def putK(kvs:oA<|(Nat×Nat)×lH)(k:Nat×Nat)(z:lH):oA ((Nat×Nat)×lH):=if ∃e∈kvs,e.1=k then kvs.map λe=>if e.1=k then(k,z) else e else kvs++[(k,z)]
def XS{kvs:oA<|(Nat×Nat)×lH}{k:Nat×Nat}{z:lH}:Fo (kvs.map kvT) [.inl (k.1:Nat),.inl (k.2:Nat)] (.R z)=(putK kvs k z).map kvT:=by unfold putK;split;rename_i h;obtain⟨e,he,rfl⟩:=h;unfold Fo;rw[T_<|bX.mpr ⟨kvT e,DD.mpr ⟨e,he,rfl⟩,aV rfl⟩,aE,aE];refine fV λx _=>?_;by_cases c:x.1=e.1;show ite _ _ _=kvT (ite _ _ _);rw[T_ c,T_<|by rw[<- c];rfl,<- c];rfl;show ite _ _ _=kvT (ite _ _ _);rw[M_ c];exact M_ λz=>c<|O9 z;rename_i h;exact Gz λe he c=>h ⟨e,he,c⟩
def put_mem{kvs:oA<|(Nat×Nat)×lH}{k:Nat×Nat}{z:lH}{e:(Nat×Nat)×lH}(h:e∈putK kvs k z):e=(k,z)\/(e∈kvs/\e.1≠k):=by unfold putK at h;split at h;obtain⟨x,hx,rfl⟩:=DD.mp h;by_cases c:x.1=k;rw[T_ c];exact .inl rfl;rw[M_ c];exact .inr ⟨hx,c⟩;rename_i a;rcases P_.mp h with h|h;exact .inr ⟨h,λc=>a ⟨e,h,c⟩⟩;exact .inl<|H_.mp h
def put_keys{kvs:oA<|(Nat×Nat)×lH}{k:Nat×Nat}{z:lH}:(putK kvs k z).map (·.1)=kvs.map (·.1)\/(k∉kvs.map (·.1)/\(putK kvs k z).map (·.1)=kvs.map (·.1)++[k]):=by
 unfold putK;split;refine .inl ?_;rw[aE];refine fV λx _=>?_;show(ite _ _ _:(Nat×Nat)×lH).1=x.1;split;rename_i c;exact c.symm
 rfl
 rename_i a;refine .inr ⟨λz=>?_,by rw[L_];rfl⟩;obtain⟨e,he,c⟩:=DD.mp z;exact a ⟨e,he,c⟩
def II{kvs:oA<|(Nat×Nat)×lH}{k:Nat×Nat}{z:lH}:k∈(putK kvs k z).map (·.1):=by rcases put_keys (kvs:=kvs) (k:=k) (z:=z) with h|h;unfold putK at h ⊢;split;rename_i a;obtain⟨e,he,rfl⟩:=a;rw[T_ ⟨e,he,rfl⟩]at h;rw[h];exact DD.mpr ⟨e,he,rfl⟩;rw[L_];exact aU _<|.head _;rw[h.2];exact aU _<|.head _
def Kpt.put{m:M}{d z:lH}{G i:Tops}{g:oA<|(Nat×Nat)×lH}{k:Nat×Nat}(h:Kpt m d G g)(hk:k.1<5/\k.2<8)(hz:m z=oG ((i k).map Ba))(s:z≠d)(r:∀j,j≠k->i j=G j):Kpt (An m d<|.dt<|(putK g k z).map kvT) d i (putK g k z):=by
 have hb:∀e∈putK g k z,e.1.1<5/\e.1.2<8:=λe he=>(put_mem he).elim (λc=>by rw[c];exact hk) λc=>h.b e c.1;have hu:((putK g k z).map (·.1)).Nodup:=by rcases put_keys (kvs:=g) (k:=k) (z:=z) with e|⟨n,e⟩;rw[e];exact h.D.uu;rw[e,bL];exact⟨h.D.uu,by simp,λa ha b hb c=>n<|by rw[<- H_.mp hb,<- c];exact ha⟩
 refine⟨⟨Ac,λe he=>?_,?_,hu⟩,λj hj=>?_,hb⟩;rcases put_mem he with rfl|⟨h1,h2⟩;exact⟨by rw[Ag s];exact hz,s⟩;obtain⟨x,p⟩:=h.D.ll e h1;exact⟨by rw[Ag p,r _ h2];exact x,p⟩;have:=DR hu λk hk=>by obtain⟨e,he,rfl⟩:=DD.mp hk;exact hb e he
 rw[B_]at this;exact R_ this (by decide);have l:j≠k:=λc=>by obtain⟨e,he,y⟩:=DD.mp<|II (kvs:=g) (k:=k) (z:=z);exact hj e he<|y.trans c.symm
 rw[r j l];refine h.o j λe he c=>?_;have:e.1∈(putK g k z).map (·.1):=by rcases put_keys (kvs:=g) (k:=k) (z:=z) with q|⟨_,q⟩;rw[q];exact DD.mpr ⟨e,he,rfl⟩;rw[q];exact aH _<|DD.mpr ⟨e,he,rfl⟩
 obtain⟨u,t,v⟩:=DD.mp this;exact hj u t<|v.trans c
abbrev nKc:oA Str:=["kept","waiting","pairs","cheapest","top"]
def IJ:FnScope nKc qL (Ai UM):=Br<|by decide +kernel
def XT:(oO:oA Str).Nodup:=by decide +kernel
def XU:(["pair","cheapest"]:oA Str).Nodup:=by decide +kernel
structure Chp(Wf N:Tops)(kw:oA<|(Nat×Nat)×lH)(c:Nat):Prop where
 i:∀e∈kw,N e.1=(Wf e.1).filter λz=>decide (z.1=c)
 o:∀k,(∀e∈kw,e.1≠k)->N k=[]
def XV:ASp:=λi h R=>∃(dk g:lH) (G d:Tops) (l b:oA<|(Nat×Nat)×lH),i=[.R dk,.R g]/\Kpt h dk G l/\DcK h g d b/\b≠[]/\(∀e∈b,d e.1≠[])/\(∀e∈b,e.1.1<5/\e.1.2<8)/\X7 G/\(∀e∈b,(d e.1).length<=32/\∀z∈d e.1,z.2<32)/\dk≠g /\
 ∀c N j a,(∃e∈b,∃z∈d e.1,z.1=c)->Chp d N b c->Kpt a dk (λk=>G k++N k) j->Sub (Cg (Cg h g) dk) a->R (.D .none) a
def XW{n:Nat}(F:Fun K "keep_cheapest" "keep_cheapest" UM f fd) (bw:mg "min" = none):FnOk P w K mg base Dm (n+1) f fd qL (D5 K 2 XV):=by
 refine F.vok IJ λam A outer s H E hr=>⟨_,(Ae (Am (i:=3) IJ.nd rfl oI<|A8 (Ti hr rfl) rfl bw jF<|Aa (Qz (N':=oO) (mp:=[none]) rfl (vv 1) (λ_ _ _ _=>(Ak (i:=0) XT rfl oH oI)) (λ_ _ _ _=>B2) (λ_ _ _ _=>(Aw Bd (A8 (Ti hr rfl) rfl bw jF<|Aa (vv 0) Ad) Af))<|Bc (N:=nKc) (pn:=(Ai UM).names)<|by decide +kernel) Ad)<|Ah<|Iq aD rfl (vv 1) (Ao (Ak (i:=4) IJ.nd rfl oH)<|Ao (Ak (i:=2) IJ.nd rfl oH) Bs)<|Ah<|Ek (Dh hr) (vv 0) (vv 4)<|A9 B6 (Ik (Dh hr) (vv 0) (vv 4)<|Bu Ad)<|Cf (N':=["pair","cheapest"]) (mp:=[none,some 3]) rfl (Bo<|vv 2) (λ_ _ _ _=>(Ak (i:=0) XU rfl oH oI)) (λ_ _ _ _=>(Ih<|Ax (C1 hr) (Aw Bd (vv 0) Af) (vv 1)<|nomark _)) (λ_ _ _ _=>(vv 0))<|Bc (N:=nKc) (pn:=(Ai UM).names)<|by decide +kernel),?_⟩
 rintro xs μ R _ ⟨dk,t,G,a,kk,O,rfl,T,D,be,hW0,hbw,hGB,hWB,jx,q⟩;refine Bg (λτ g=>∃c:Nat,τ=[oD dk,oD t,none,oE (c:Nat),none]/\Sub μ g/\∃e∈O,∃z∈a e.1,z.1=c) (λZ hZ=>?_) ?_;refine Ab D.dd λp hp=>?_;have yd:t≠p:=by rintro rfl;rw[D.dd]at hp;cases hp
 rw[show(O.map kvT).map (λx=>x.2)=O.map λe=>AV.R e.2 by rw[aE];rfl];have hn:=D.n;refine Ht (λi J τ g=>∃(o:oB AV) (U:oA Nat),τ=[o]/\J=U.map Ch/\U.length=i/\(∀c∈U,∃e∈O,∃z∈a e.1,z.1=c)/\g=An (Cg μ t) p (.lst J)) ⟨none,[],rfl,rfl,rfl,(λ_ h=>nomatch h),rfl⟩ (λ_ _ _ _ _=>trivial) ?_ ?_;rintro i x J τ g W hx ⟨o,U,rfl,rfl,ay,im,rfl⟩ hW;rw[G_]at hx;obtain⟨e,he,rfl⟩:=I_.mp hx;have V:=N_ he;obtain⟨h1,h2⟩:=D.ll e V;have wk:e.2≠p:=λz=>by rw[z,hp]at h1;cases h1
 refine Fk rfl (Ab (x:=MO.lst<|(a e.1).map Ba) (by rw[Ag wk,Be h2];exact h1)<|Ab (Ri _) ⟨⟨?_,λd L=>?_⟩,λd L _=>?_⟩);rw[B_];exact List.length_pos_iff.mpr<|hW0 e V;obtain⟨z,_,rfl⟩:=DD.mp L;exact⟨Rj z,λd L=>by obtain⟨y,_,rfl⟩:=DD.mp L;exact Vj z y⟩;obtain⟨z,hz,rfl⟩:=DD.mp L;refine Ab (x:=PyData.int (z.1:Nat)) (Aj (j:=0) rfl) ⟨Ac,by rw[B_,ay];exact V_ (E_.mp he).1<|R_ hn<|by decide,hW _ _ _ ⟨_,U++[z.1],rfl,by rw[L_];rfl,by rw[O_,ay];rfl,λc hc=>?_,Bh⟩⟩;rcases P_.mp hc with hc|hc;exact im c hc;exact⟨e,V,z,hz,(H_.mp hc).symm⟩;rintro J τ g ⟨o,U,rfl,rfl,ay,im,rfl⟩;have hc0:0<U.length:=by rw[ay,B_];exact List.length_pos_iff.mpr be
 refine Ab (x:=MO.lst<|U.map Ch) (by rw[Ag yd.symm,Ac]) (Ab (Lw U) ⟨⟨by rw[B_];exact hc0,λd L=>?_⟩,λd L _=>?_⟩);obtain⟨c,_,rfl⟩:=DD.mp L;refine⟨Bi _,λd L=>?_⟩;obtain⟨c',_,rfl⟩:=DD.mp L;simp only[cmpb];obtain⟨c,hc,rfl⟩:=DD.mp L;refine hZ _ _ ⟨c,rfl,λb m hm=>?_,im c hc⟩;by_cases ff:b=t;rw[ff,Ac,<- hm,ff,D.dd];rw[Ag ff,Ag (by rintro rfl;rw[hp]at hm;cases hm),Be ff];exact hm;rintro τ μ1 ⟨c,rfl,S1,dm⟩;refine Ab (S1 _ _ D.dd) ?_;have S0:Sub (Cg (Cg μ t) dk) (Cg μ1 t):=λb m hb=>by
  have h1:b≠dk:=λz=>by rw[z]at hb;unfold Cg at hb;rw[T_ rfl]at hb;cases hb
  rw[Be h1]at hb;have h2:b≠t:=λz=>by rw[z]at hb;unfold Cg at hb;rw[T_ rfl]at hb;cases hb
  rw[Be h2]at hb ⊢;exact S1 _ _ hb
 have T0:Kpt (Cg μ1 t) dk (λk=>G k++[]) kk:=⟨⟨by rw[Be jx];exact S1 _ _ T.D.dd,λe he=>?_,T.D.n,T.D.uu⟩,λk hk=>by rw[T.o k hk];rfl,T.b⟩;refine Ls (λi τ g=>∃o2 o4 N qm,τ=[oD dk,oD t,o2,oE (c:Nat),o4]/\Chp a N (O.take i) c/\Kpt g dk (λk=>G k++N k) qm/\Sub (Cg (Cg μ t) dk) g) ⟨none,none,λ_=>[],kk,rfl,⟨(λ_ h=>nomatch h),λ_ _=>rfl⟩,T0,S0⟩ ?_ ?_;rintro i v τ I W hv ⟨o2,o4,N,r,rfl,C,u,S2⟩ hW;rw[G_]at hv;obtain⟨e,he,rfl⟩:=I_.mp hv;have V:=N_ he;have a9:O.take (i+1)=O.take i++[e]:=by rw[aM,he];rfl
 obtain⟨X,hed⟩:=D.ll e V;have hek:e.2≠dk:=λz=>by rw[z,T.D.dd]at X;cases X
 have eW:I e.2=oG ((a e.1).map Ba):=S2 _ _ (by rw[Be hek,Be hed];exact X);have dk0:Cg (Cg μ t) dk dk=none:=T_ rfl;have bg:∀B∈O.take i,B.1≠e.1:=λB S c=>by have Y:((O.take<|i+1).map (·.1)).Nodup:=D.uu.sublist<|(fK _ _).map _;rw[a9,L_,bL]at Y;exact Y.2.2 B.1 (DD.mpr ⟨B,S,rfl⟩) e.1 (by simp) c
 have hN:N e.1=[]:=C.o _ bg;dsimp only[E1,D1,Px,List.set,kvT,Zw,QO,Py,NB];refine Ix (td:=R9 0) (ty:=R9 4) (τ:=[oD dk,oD t,oD e.2,oE (c:Nat),oF<|.tuple [.int (e.1.1:Nat),.int (e.1.2:Nat)]]) u.top Sub.refl e.1.1 e.1.2 (λQ h=>h) (λQ h=>h) ?_;intro l M hl S3 _;have hl:M l=oG ((G e.1).map Ba):=by rw[hl];show some (MO.lst<|(G e.1++N e.1).map Ba)=_;rw[hN,bP]
 have vk:=S3 _ _ eW;obtain⟨hg32,hgb⟩:=hGB e.1;obtain⟨hw32,hwb⟩:=hWB e V;refine Ab (Av vk) λp hp=>?_;have l1:e.2≠p:=by intro z;rw[z,hp]at vk;cases vk
 have l2:l≠p:=by rintro rfl;rw[hl]at hp;cases hp
 refine cmapf (a e.1) Ba (λz=>decide (z.1=c)) Ba (λτ=>∃o1,τ=[o1,oE (c:Nat)]) ⟨none,rfl⟩ Ac (seven<|by omega) (λ_=>Av<|by rw[Bh,Ag l1];exact vk) ?_ ?_;rintro j z τ' J W1 W2 hj ⟨o1,rfl⟩ w1 w2;exact Ab (x:=PyData.int (z.1:Nat)) (Aj (j:=0) rfl)<|ieq (λe=>w1 (aV<|gO e) _ ⟨_,rfl⟩) λe=>w2 (aW λh=>e<|cV Int.ofNat h) _ ⟨_,rfl⟩;rw[Bh];have ag:((a e.1).filter λz=>decide (z.1=c)).length<=32:=R_ (bN _ _) hw32;have S4:Sub I (An M p<|.lst<|((a e.1).filter λz=>decide (z.1=c)).map Ba):=S3.new<|S3.none hp;have e4:An M p (.lst<|((a e.1).filter λz=>decide (z.1=c)).map Ba) l=oG ((G e.1).map Ba):=by rw[Ag l2];exact hl
 have p4:An M p (.lst<|((a e.1).filter λz=>decide (z.1=c)).map Ba) p=oG (((a e.1).filter λz=>decide (z.1=c)).map Ba):=Ac;generalize An M p (.lst<|((a e.1).filter λz=>decide (z.1=c)).map Ba)=μ4 at S4 e4 p4;refine Ab e4 (Ab p4 ⟨by rw[B_,B_];exact seven<|by omega,λz hz=>?_⟩);have z2:=S4.none hz;have zd:z≠dk:=by rintro rfl;rw[u.D.dd]at z2;cases z2
 have S5:Sub I (An μ4 z<|.lst<|(G e.1).map Ba++((a e.1).filter λz=>decide (z.1=c)).map Ba):=S4.new z2;have e5:An μ4 z (.lst<|(G e.1).map Ba++((a e.1).filter λz=>decide (z.1=c)).map Ba) z=oG ((G e.1++(a e.1).filter λz=>decide (z.1=c)).map Ba):=by rw[Ac,L_]
 generalize An μ4 z (.lst<|(G e.1).map Ba++((a e.1).filter λz=>decide (z.1=c)).map Ba)=μ5 at S5 e5;have ep:dput (.dt<|r.map kvT) (.tuple [.int (e.1.1:Nat),.int (e.1.2:Nat)]) (.R z)=some (.dt<|(putK r e.1 z).map kvT):=by rw[<- XS];rfl
 have xf:=u.D.n;refine Ab (S5 _ _ u.D.dd) (Ab ep ⟨A3<|show(r.map kvT).length<=1000 by rw[B_];omega,hW _ _ ⟨_,_,λk=>if k=e.1 then(a e.1).filter (λz=>decide (z.1=c)) else N k,putK r e.1 z,rfl,⟨λB S=>?_,λk hk=>?_⟩,?_,Ff (S2.trans S5) dk0⟩⟩);rw[a9]at S;rcases P_.mp S with h|h;rw[M_<|bg B h];exact C.i B h;rw[H_.mp h,T_ rfl];rw[a9]at hk;rw[M_ λz=>hk e (by simp) z.symm];exact C.o k λB S=>hk B<|aH _ S;refine Kpt.put (G:=λk=>G k++N k) ⟨⟨S5 _ _ u.D.dd,λB S=>⟨S5 _ _ (u.D.ll B S).1,(u.D.ll B S).2⟩,u.D.n,u.D.uu⟩,u.o,u.b⟩ (hbw e V) (by dsimp only;rw[T_ rfl];exact e5) zd λj hj=>by dsimp only;rw[M_ hj]
 rintro τ I ⟨o2,o4,N,r,rfl,C,u,S2⟩;rw[B_,aJ]at C;exact⟨_,Sub.refl,q c N r I dm C u S2⟩;obtain⟨h1,h2⟩:=T.D.ll e he;have Y:=S1 _ _ h1;have h4:e.2≠t:=λz=>by rw[z,S1 _ _ D.dd]at Y;cases Y
 exact⟨by rw[Be h4];show _=some (MO.lst<|(G e.1++[]).map Ba);rw[bP];exact Y,h2⟩
end
section
variable {P:lJ}{w:lK}{K:lI}{mg:Str->oB lE}{base:lN}{f:lH}{fd:lQ}
def F3(g:Gq)(S:Nat->oA Nat->Prop):Nat->Nat->oA Nat->Prop
 | 0,p,w=>S p w
 |n+1,p,w=>S p w\/∃x v,w=x::v/\((hnd g (p,x)=1/\rgp g.rs (p,x)≠[]/\∀r∈rgp g.rs (p,x),F3 g S n r.q<|r.w++v)\/(hnd g (p,x)≠1/\∃r∈rgp g.rs (p,x),F3 g S n r.q<|r.w++v))
section
variable {g:Gq}{S:Nat->oA Nat->Prop}
def F3.say{p:Nat}{w:oA Nat}(h:S p w):∀n,F3 g S n p w
 | 0=>h
 |_+1=>.inl h
theorem F3.up:∀{n p:Nat} {w:oA Nat},F3 g S n p w->F3 g S (n+1) p w
 | 0,_,_,h=>.inl h
 |_+1,_,_,h=>h.imp id<|by rintro ⟨x,v,e,h⟩;exact ⟨x,v,e,h.imp (by rintro ⟨a,b,c⟩;exact ⟨a,b,λr hr=>(c r hr).up⟩)<|by rintro ⟨a,r,hr,c⟩;exact ⟨a,r,hr,c.up⟩⟩
def F3.le{n m p:Nat}{w:oA Nat}(h:n<=m)(k:F3 g S n p w):F3 g S m p w:=by
 induction h with
 |refl=>exact k
 |step _ a=>exact a.up
def LC(g:Gq)(S:Nat->oA Nat->Prop)(m s:Nat)(w:oA Nat):Prop:=(s<g.pl.length/\F3 g S m s w)\/(g.pl.length<=s/\S s w)
def LC.le{n m s:Nat}{w:oA Nat}(h:n<=m)(k:LC g S n s w):LC g S m s w:=k.imp (by rintro ⟨a,b⟩;exact ⟨a,b.le h⟩) id
def IK(g:Gq)(S:Nat->oA Nat->Prop)(G:Tops):Prop:=∀k,∀p∈G k,∀v m,(∀t∈B4 p.2,LC g S m t v)->LC g S (p.1+m) k.1 (k.2::v)
def Vo{Gs:oA<|oA Pr}{z:Pr}(hz:z∈cho Gs):∀G∈Gs,∃p∈G,p.1<=z.1/\∀t,p.2.testBit t=true->z.2.testBit t=true:=by
 have b:∀(Gs:oA<|oA Pr) (F:oA Pr),z∈Gs.foldl (λF G=>F.flatMap λp=>G.map<|ewe p) F->(∃f∈F,f.1<=z.1/\∀t,f.2.testBit t=true->z.2.testBit t=true)/\∀G∈Gs,∃p∈G,p.1<=z.1/\∀t,p.2.testBit t=true->z.2.testBit t=true:=by
  intro Gs
  induction Gs with
  |nil=>exact λF h=>⟨⟨z,h,J_ _,λ_ h=>h⟩,λ_ h=>nomatch h⟩
  |cons G Gs i=>intro F h;obtain⟨⟨f,a,c,h1⟩,h2⟩:=i _ h;obtain⟨y,hy,a⟩:=bA.mp a;obtain⟨o,e,rfl⟩:=DD.mp a;have c:max y.1 o.1<=z.1:=c;refine⟨⟨y,hy,by omega,λt ht=>h1 t<|by rw[Kv,ht];rfl⟩,λd hG=>?_⟩;rcases Y_.mp hG with rfl|hG;exact⟨o,e,by omega,λt ht=>h1 t<|by rw[Kv,ht,Bool.or_true]⟩;exact h2 d hG
 exact(b Gs _ hz).2
def DS{G:Tops}(h:IK g S G){s:Nat}(hs:s<5){u:oA Nat}(hu:u.length<=2){z:Pr}(hz:z∈Kn G s u){v:oA Nat}{m:Nat}(hv:∀t∈B4 z.2,LC g S m t v):LC g S (z.1+m) s (u++v):=by
 match u,hu with
 |[],_=>rw[H_.mp hz,Tr hs]at hv;exact(hv s<|.head _).le (Nat.le_add_left _ _)
 |[x],_=>exact h (s,x) z hz v m hv
 |[x,y],_=>
  obtain⟨p,hp,hz⟩:=bA.mp hz;obtain⟨q,hq,rfl⟩:=DD.mp hz;have:=h (s,x) p hp (y::v) (q.1+m) λt ht=>by obtain⟨o,b,hc,hb⟩:=Vo hq _<|DD.mpr ⟨t,ht,rfl⟩;exact(h (t,y) o b v m λi a=>hv i<|Cd.mpr ⟨(Cd.mp a).1,hb i (Cd.mp a).2⟩).le<|Nat.add_le_add_right hc m
  exact this.le<|by show p.1+(q.1+m)<=p.1+q.1+m;omega
def DT(c:RsOk g){G:Tops}(h:IK g S G){k:Nat×Nat}(hk:k.1<g.pl.length)(d:rgp g.rs k≠[]){z:Pr}(hz:z∈F1 g G k){v:oA Nat}{m:Nat}(hv:∀t∈B4 z.2,LC g S m t v):LC g S (z.1+1+m) k.1 (k.2::v):=by
 have hr:∀r∈rgp g.rs k,∀y∈Kn G r.q r.w,y.1<=z.1->(∀t∈B4 y.2,LC g S m t v)->F3 g S (z.1+m) r.q (r.w++v):=λr hr y hy hc hv=>by obtain⟨h1,h2⟩:=c.q r (aR.mp hr).1;have:=c.p;exact((DS h (by omega) h2 hy hv).le<|Nat.add_le_add_right hc m).elim (λz=>z.2) λz=>absurd h1<|by omega
 rw[show z.1+1+m=z.1+m+1 by omega];unfold F1 at hz;split at hz;rename_i b;refine .inl ⟨hk,.inr ⟨k.2,v,rfl,.inl ⟨b,d,λr a=>?_⟩⟩⟩;obtain⟨y,hy,hc,hb⟩:=Vo hz _<|DD.mpr ⟨r,a,rfl⟩;exact hr r a y hy hc λt ht=>hv t<|Cd.mpr ⟨(Cd.mp ht).1,hb t (Cd.mp ht).2⟩;rename_i b;obtain⟨K,e,hz⟩:=jK.mp hz;obtain⟨r,a,rfl⟩:=DD.mp e;exact .inl ⟨hk,.inr ⟨k.2,v,rfl,.inr ⟨b,r,a,hr r a z hz (J_ _) hv⟩⟩⟩
def DU{B:Tops}{E:oA Nat}(h:∀k,∀p∈B k,∀t∈B4 p.2,g.pl.length<=t):IK g (λp w=>F2 B E w p) B:=λk p hp v m hv=>by have a:F2 B E (k.2::v) k.1:=⟨p,hp,λt ht=>(hv t ht).elim (λz=>absurd (h k p hp t ht)<|Nat.not_le_of_lt z.1) λz=>z.2⟩;rcases cL k.1 g.pl.length with hk|hk;exact .inl ⟨hk,.say a _⟩;exact .inr ⟨hk,a⟩
end
end
section
variable {P:lJ}{w:lK}{K:lI}{mg:Str->oB lE}{base:lN}{f:lH}{fd:lQ}
def Dl(Pf:Nat×Nat->oA Pr)(kvs:oA<|(Nat×Nat)×lH):oA Ar:=kvs.flatMap λe=>(Pf e.1).map λz=>⟨e.1.1,e.1.2,B4 z.2,z.1⟩
theorem Vp{Pf:Nat×Nat->oA Pr}:∀{kvs:oA<|(Nat×Nat)×lH},(∀e∈kvs,(Pf e.1).length<=992)->(Dl Pf kvs).length<=992*kvs.length
 |[],_=>by simp[Dl]
 |e::kvs,h=>by have h1:=h e aK;have h2:=Vp (kvs:=kvs) λa he=>h a<|aA _ he;unfold Dl at h2 ⊢;rw[List.flatMap_cons,O_,B_,aS];omega
abbrev nAw:oA Str:=["tops","arrows","top","pairs"]
def IL:FnScope nAw oQ (Ai YY):=Br<|by decide +kernel
def JY:(["cost","bits","top"]:oA Str).Nodup:=by decide +kernel
structure TopQ(μ:M)(d:lH)(Pf:Nat×Nat->oA Pr)(kvs:oA<|(Nat×Nat)×lH):Prop where
 dd:μ d=some (.dt<|kvs.map kvT)
 ll:∀e∈kvs,μ e.2=oG ((Pf e.1).map Ba)/\e.2≠d/\(Pf e.1).length<=992/\∀z∈Pf e.1,z.2<32
 n:kvs.length<=60
def XX:ASp:=λb a R=>∃(d:lH) (Pf:Nat×Nat->oA Pr) (kvs:oA<|(Nat×Nat)×lH),b=[.R d]/\TopQ a d Pf kvs/\∀(l:lH) μ',a l=none->μ' l=oG ((Dl Pf kvs).map Vl)->Sub (Cg a d) μ'->R (.R l) μ'
def XY{n:Nat}(F:Fun K "as_arrows" "as_arrows" YY f fd) (ya:VCal P w K mg base n "as_stands" ["bits"] PL):FnOk P w K mg base Dm (n+1) f fd oQ (D5 K 1 XX):=by
 refine F.vok IL λam A outer s H E hr=>⟨_,(Ae (Am (i:=1) IL.nd rfl oH<|Bu Ad)<|Ae (Iq aD rfl (vv 0) (Ao (Ak (i:=2) IL.nd rfl oI)<|Ao (Ak (i:=3) IL.nd rfl oH) Bs)<|Ah<|Bw<|Dj eE eF Ge (vv 1)<|Aa (Cf (N':=["cost","bits","top"]) (mp:=[none,none,some 2]) rfl (Bo<|vv 3) (λ_ _ _ _=>(Cz (n:=2) rfl<|Ao (Ak (i:=0) JY rfl oH oI)<|Ao (Ak (i:=1) JY rfl oH oI) Bs)) (λ_ _ _ _=>B2) (λ_ _ _ _=>(A9 B6 (vv 2)<|Aq<|Aa (Al ya hr rfl<|Aa (vv 1) Ad)<|Aa (vv 0) Ad))<|Bc (N:=nAw) (pn:=(Ai YY).names)<|by decide +kernel) Ad)<|Ah<|Ay<|vv 1),?_⟩
 rintro xs I R _ ⟨d,Pf,kvs,rfl,T,q⟩;intro l L;have ld:l≠d:=by rintro rfl;rw[T.dd]at L;cases L
 refine Bg (λG a=>∃g C,G=[oD d,oD l,g,C]/\a l=oG ((Dl Pf kvs).map Vl)/\Sub (Cg I d) a) (λZ hZ=>?_) ?_;refine Ab (x:=MO.dt<|kvs.map kvT) (by rw[Ag ld.symm];exact T.dd) ?_;refine Ls (λi G a=>∃g C,G=[oD d,oD l,g,C]/\a l=oG ((Dl Pf<|kvs.take i).map Vl)/\Sub (Cg I d) a) ⟨none,none,rfl,?_,?_⟩ ?_ ?_;rw[Be ld];exact Ac;intro b m hb;have ff:b≠d:=λz=>by rw[z]at hb;unfold Cg at hb;rw[T_ rfl]at hb;cases hb
 rw[Be ff]at hb ⊢;rw[Ag<|by rintro rfl;rw[L]at hb;cases hb];exact hb;rintro i v G p W hv ⟨g,C,rfl,t,B⟩ hW;rw[G_]at hv;obtain⟨e,he,rfl⟩:=I_.mp hv;obtain⟨he1,hed,hel,heb⟩:=T.ll e<|N_ he;have V:p e.2=oG ((Pf e.1).map Ba):=B _ _ (by rw[Be hed];exact he1);have hi:=(E_.mp he).1;have hn9:=T.n;have a9:Dl Pf (kvs.take<|i+1)=Dl Pf (kvs.take i)++(Pf e.1).map λz=>⟨e.1.1,e.1.2,B4 z.2,z.1⟩:=by unfold Dl;rw[aM,he,fW];simp
 have mm:=Vp (Pf:=Pf) (kvs:=kvs.take i) λe' av=>(T.ll e'<|dL av).2.2.1;rw[bF]at mm;refine⟨Ab t trivial,Ab (Av V) λO r=>?_⟩;have qd:l≠O:=by rintro rfl;rw[t]at r;cases r
 have qt:e.2≠O:=by rintro h;rw[h,r]at V;cases V
 have J:∀{ν:M} {o:MO},Sub (Cg I d) ν->Sub (Cg I d) (An ν O o):=λS=>S.new<|B.none r;refine Ht (λj k y a=>∃o1 g,y=[o1,g,oF<|.tuple [.int (e.1.1:Nat),.int (e.1.2:Nat)]]/\k=(((Pf e.1).take j).map λz=>Vl ⟨e.1.1,e.1.2,B4 z.2,z.1⟩)/\a O=oG k/\a e.2=oG ((Pf e.1).map Ba)/\a l=oG ((Dl Pf<|kvs.take i).map Vl)/\Sub (Cg I d) a) ⟨none,none,rfl,rfl,Ac,by rw[Ag qt];exact V,by rw[Ag qd];exact t,J B⟩ (by rintro _ _ _ _ ⟨_,_,_,_,_,e2,_⟩;exact Av e2) ?_ ?_;rintro j v k y X W2 lj ⟨o1,g,rfl,rfl,Q,f2,f3,Y⟩ hW2;rw[G_]at lj;obtain⟨⟨c,b⟩,u,rfl⟩:=I_.mp lj;have hj:=(E_.mp u).1;refine⟨rfl,Rh<|Fk rfl ⟨b,rfl,heb _<|N_ u,λμ3 U=>⟨by show 2+2<=sizeLine;decide,U _ _ Q,PM<|by rw[B_,bF];omega,hW2 _ _ _ ⟨_,_,rfl,?_,Ac,by rw[Ag qt];exact U _ _ f2,by rw[Ag qd];exact U _ _ f3,J<|Y.trans U⟩⟩⟩⟩;rw[aM,u,L_];rfl;rintro k y X ⟨o1,g,rfl,rfl,Q,f2,f3,Y⟩;rw[B_,aJ]at Q;refine Ab f3 (Ab Q ⟨bR<|PM<|by rw[B_,B_];omega,hW _ _ ⟨_,_,rfl,?_,?_⟩⟩);rw[Ac,a9,L_,aE];rfl;exact Y.new (by rw[Be ld];exact L);rintro G p ⟨g,C,rfl,t,B⟩;rw[B_,aJ]at t;exact hZ _ _ ⟨_,_,rfl,t,B⟩;rintro G p ⟨g,C,rfl,t,B⟩;exact⟨_,Sub.refl,q l p L t B⟩
end
section
variable {P:lJ}{w:lK}{K:lI}{mg:Str->oB lE}{base:lN}{f:lH}{fd:lQ}
structure GmOk(g:Gq):Prop where
 p:g.pl.length<=4
 r:g.rs.length<=60
 ok:∀r∈g.rs,r.p<g.pl.length/\r.q<g.pl.length/\r.x<8/\r.w.length<=2
 e:∀r∈g.rs,r.w=[]->r.q=0\/r.q=2
def GmOk.gq{g:Gq}(h:GmOk g):GqOk g:=⟨R_ h.p<|by decide,h.r,λr hr=>by obtain⟨a,b,_,c⟩:=h.ok r hr;exact⟨a,V_ b<|R_ h.p<|by decide,c⟩⟩
def GmOk.rs{g:Gq}(h:GmOk g):RsOk g:=⟨R_ h.p<|by decide,λr hr=>by obtain⟨_,b,_,c⟩:=h.ok r hr;exact⟨b,c⟩⟩
def T9:oA (Nat×Nat):=(List.range 32).map λi=>(i / 8,i%8)
def GmOk.pt{g:Gq}(h:GmOk g){k:Nat×Nat}(hk:rgp g.rs k≠[]):k.1<g.pl.length/\k.2<8/\k∈T9:=by obtain⟨r,h2⟩:=fF _ hk;obtain⟨d,b⟩:=aR.mp h2;unfold Fy at b;rw[a_,bB,bB]at b;obtain⟨a,_,c,_⟩:=h.ok r d;rw[b.1]at a;rw[b.2]at c;have:=h.p;exact⟨a,c,DD.mpr ⟨8*k.1+k.2,aL.mpr<|by omega,kI (by show _ / 8=_;omega)<|by show _%8=_;omega⟩⟩
def Rr{Gs:oA<|oA Pr}{z:Pr}{t:Nat}(hz:z∈cho Gs)(ht:z.2.testBit t=true):∃G∈Gs,∃p∈G,p.2.testBit t=true:=by
 have b:∀(Gs:oA<|oA Pr) (F:oA Pr),z∈Gs.foldl (λF G=>F.flatMap λp=>G.map<|ewe p) F->(∃f∈F,f.2.testBit t=true)\/∃G∈Gs,∃p∈G,p.2.testBit t=true:=by
  intro Gs
  induction Gs with
  |nil=>exact λF h=>.inl ⟨z,h,ht⟩
  |cons G Gs e=>intro F h;rcases e _ h with⟨f,a,h1⟩|⟨c,hG,h1⟩;obtain⟨y,hy,a⟩:=bA.mp a;obtain⟨o,d,rfl⟩:=DD.mp a;rw[Kv,eO]at h1;exact h1.elim (λh1=>.inl ⟨y,hy,h1⟩) λh1=>.inr ⟨G,.head _,o,d,h1⟩;exact .inr ⟨c,.tail _ hG,h1⟩
 rcases b Gs _ hz with⟨f,a,h⟩|h;rw[H_.mp a,jJ]at h;cases h;exact h
def Ev(G:Tops):Prop:=∀k,∀z∈G k,∀t∈B4 z.2,t=0\/t=2
def DV{G:Tops}(h:Ev G){s:Nat}(d:s<5){u:oA Nat}(hu:u.length<=2)(hs:u=[]->s=0\/s=2){z:Pr}(hz:z∈Kn G s u):∀t∈B4 z.2,t=0\/t=2:=λt ht=>by
 match u,hu with
 |[],_=>rw[H_.mp hz,Tr d]at ht;rw[H_.mp ht];exact hs rfl
 |[x],_=>exact h (s,x) z hz t ht
 |[x,y],_=>obtain⟨p,hp,hz⟩:=bA.mp hz;obtain⟨q,hq,rfl⟩:=DD.mp hz;obtain⟨a,b⟩:=Cd.mp ht;obtain⟨K,c,o,e,hb⟩:=Rr hq b;obtain⟨g,_,rfl⟩:=DD.mp c;exact h (g,y) o e t<|Cd.mpr ⟨a,hb⟩
def DW{g:Gq}(d:GmOk g){G:Tops}(h:Ev G){k:Nat×Nat}{z:Pr}(hz:z∈F1 g G k):∀t∈B4 z.2,t=0\/t=2:=λt ht=>by
 have c:∀r∈rgp g.rs k,∀y∈Kn G r.q r.w,∀t∈B4 y.2,t=0\/t=2:=λr hr y hy=>by obtain⟨_,a,_,b⟩:=d.ok r (aR.mp hr).1;exact DV h (V_ a<|R_ d.p<|by decide) b (d.e r (aR.mp hr).1) hy
 unfold F1 at hz;split at hz;obtain⟨a,b⟩:=Cd.mp ht;obtain⟨K,i,o,j,hb⟩:=Rr hz b;obtain⟨r,hr,rfl⟩:=DD.mp i;exact c r hr o j t<|Cd.mpr ⟨a,hb⟩;obtain⟨K,i,hz⟩:=jK.mp hz;obtain⟨r,hr,rfl⟩:=DD.mp i;exact c r hr z hz t ht
structure MI(g:Gq)(B:Tops)(E:oA Nat)(G:Tops):Prop where
 n:∀k,((G k).map (·.2)).Nodup
 b:∀k,∀z∈G k,z.2<32
 z:∀k,∀y∈B k,∃z∈G k,z.1=0/\∀t∈B4 z.2,t∈B4 y.2
 s:IK g (λp w=>F2 B E w p) G
 v:Ev G
structure More(g:Gq)(G N:Tops):Prop where
 k:∀k,N k≠[]->k.1<g.pl.length/\rgp g.rs k≠[]
 f:∀k,∀z∈N k,(∃y∈F1 g G k,up1 y=z)/\z.2<32/\∀y∈G k,¬Wn y z
 u:∀k,((N k).map (·.2)).Nodup
section
variable {g:Gq}{B G N Wf Pf:Tops}{E:oA Nat}{kvs kw:oA<|(Nat×Nat)×lH}
def DX{P Q:oA Pr}(h:∀y∈P,∃z∈Q,Wn z y):Under P Q:=λy hy=>by obtain⟨z,hz,a⟩:=h y hy;exact⟨z,hz,λt ht=>Cd.mpr ⟨(Cd.mp ht).1,a t (Cd.mp ht).2⟩⟩
def MI.tb(h:MI g B E G):X7 G:=λk=>⟨Tq (h.n k)<|h.b k,h.b k⟩
def MI.more(d:GmOk g)(h:MI g B E G)(m:More g G N):MI g B E (λk=>G k++N k):=by
 refine⟨λk=>?_,λk z hz=>(P_.mp hz).elim (h.b k z) λhz=>(m.f k z hz).2.1,λk y hy=>by obtain⟨z,hz,r⟩:=h.z k y hy;exact⟨z,aH _ hz,r⟩,λk p hp v c hv=>?_,λk z hz=>(P_.mp hz).elim (h.v k z) λhz t ht=>?_⟩;rw[L_,bL];refine⟨h.n k,m.u k,λa ha b hb e=>?_⟩;obtain⟨y,hy,rfl⟩:=DD.mp ha;obtain⟨z,hz,rfl⟩:=DD.mp hb;exact(m.f k z hz).2.2 y hy λt ht=>by rw[<- e];exact ht
 rcases P_.mp hp with hp|hp;exact h.s k p hp v c hv;obtain⟨⟨y,hy,rfl⟩,_,_⟩:=m.f k p hp;obtain⟨h1,h2⟩:=m.k k λz=>by rw[z]at hp;cases hp
 exact DT d.rs h.s h1 h2 hy hv
 obtain⟨⟨y,hy,rfl⟩,_⟩:=m.f k z hz;exact DW d h.v hy t ht
def MI.start(a:∀k,CvA (B k)<|G k)(h0:∀k,∀z∈B k,z.1=0)(hb:∀k,∀z∈B k,z.2<32)(d:∀k,∀p∈B k,∀t∈B4 p.2,g.pl.length<=t)(hv:Ev B):MI g B E G :=
 ⟨λk=>(a k).u,λk z hz=>hb k z<|(a k).m z hz,λk y hy=>by
  obtain⟨z,hz,b⟩:=(a k).c y hy;exact⟨z,hz,h0 k z<|(a k).m z hz,λt ht=>Cd.mpr ⟨(Cd.mp ht).1,b t (Cd.mp ht).2⟩⟩,λk p hp v m hv=>DU d k p ((a k).m p hp) v m hv,λk z hz=>hv k z<|(a k).m z hz⟩
structure Wt(g:Gq)(G Wf:Tops)(kw:oA<|(Nat×Nat)×lH):Prop where
 k:∀e∈kw,rgp g.rs e.1≠[]
 w:∀e∈kw,Wf e.1≠[]/\(∀z∈Wf e.1,(∃y∈F1 g G e.1,up1 y=z)/\z.2<32/\∀y∈G e.1,¬Wn y z)/\((Wf e.1).map (·.2)).Nodup
 c:kw=[]->∀k,rgp g.rs k≠[]->Under (F1 g G k) (G k)
def XZ(hk:∀k,(∃e∈kvs,e.1=k)↔rgp g.rs k≠[])(hp:∀e∈kvs,Cv ((F1 g G e.1).map up1)<|Pf e.1)(W:WtOk G Pf kvs Wf kw):Wt g G Wf kw:=by refine⟨λe he=>(hk _).mp<|W.k e he,λe he=>?_,λh k hr=>?_⟩;obtain⟨d,h1,h2⟩:=W.k e he;obtain⟨j,i,l⟩:=W.w e he;have C:=hp d h1;rw[h2]at C;exact⟨j,λz hz=>⟨DD.mp<|C.m z<|i.subset hz,C.b z<|i.subset hz,l z hz⟩,C.u.sublist<|i.map _⟩;obtain⟨d,h1,rfl⟩:=(hk k).mpr hr;refine DX λy hy=>?_;obtain⟨z,hz,a⟩:=(hp d h1).c _<|DD.mpr ⟨y,hy,rfl⟩;rcases W.c d h1 z hz with⟨x,hx,b⟩|⟨e,he,_⟩;exact⟨x,hx,b.trans a⟩;rw[h]at he;cases he
def IM{c:Nat}(b:GmOk g)(W:Wt g G Wf kw)(C:Chp Wf N kw c):More g G N:=by
 have a:∀k,N k≠[]->∃e∈kw,e.1=k:=λk hk=>aY λz=>hk<|C.o k λe he h=>z ⟨e,he,h⟩;refine⟨λk hk=>?_,λk z hz=>?_,λk=>?_⟩;obtain⟨e,he,rfl⟩:=a k hk;exact⟨(b.pt<|W.k e he).1,W.k e he⟩;obtain⟨e,he,rfl⟩:=a k λc=>by rw[c]at hz;cases hz
 rw[C.i e he]at hz;exact(W.w e he).2.1 z (aR.mp hz).1;by_cases h:N k=[];rw[h];exact bQ;obtain⟨e,he,rfl⟩:=a k h;rw[C.i e he];exact(W.w e he).2.2.sublist (List.filter_sublist.map _)
def cnt(G:Tops):Nat:=(T9.map λk=>(G k).length).sum
theorem DY{f g:Nat×Nat->Nat}(b:∀k,f k<=g k){k:Nat×Nat}(hk:f k<g k):∀{l:oA<|Nat×Nat},(l.map f).sum<=(l.map g).sum/\(k∈l->(l.map f).sum<(l.map g).sum)
 |[]=>⟨J_ _,λh=>nomatch h⟩
 |x::l=>by obtain⟨h1,h2⟩:=DY b hk (l:=l);have a:=b x;rw[aQ,aQ,jM,jM];refine⟨Nat.add_le_add a h1,λh=>?_⟩;rcases Y_.mp h with rfl|h;exact Nat.add_lt_add_of_lt_of_le hk h1;exact Nat.add_lt_add_of_le_of_lt a<|h2 h
def DZ{c:Nat}(a:GmOk g)(W:Wt g G Wf kw)(C:Chp Wf N kw c)(hc:∃e∈kw,∃z∈Wf e.1,z.1=c):cnt G<cnt λk=>G k++N k:=by
 obtain⟨e,he,z,hz,b⟩:=hc;have h1:z∈N e.1:=by rw[C.i e he];exact aR.mpr ⟨hz,aV b⟩
 refine(DY (λk=>?_) (k:=e.1) ?_).2 (a.pt<|W.k e he).2.2;rw[O_];exact cU _ _;rw[O_];exact Nat.lt_add_of_pos_right<|gI h1
theorem Pa{f:Nat×Nat->Nat}(h:∀k,f k<=4):∀l:oA<|Nat×Nat,(l.map f).sum<=4*l.length
 |[]=>J_ _
 |k::l=>by have h1:=Pa h l;have h2:=h k;rw[aQ,jM,aS];omega
def MI.few(h:MI g B E G)(k:Nat×Nat):(G k).length<=4:=by
 have a:∀i:_root_.Fin 32,(∀t∈B4 i.val,t=0\/t=2)->i.val∈[0,1,4,5]:=by decide +kernel
 have:=G6 (ys:=[0,1,4,5]) (h.n k) λb c=>by obtain⟨z,hz,rfl⟩:=DD.mp c;exact a ⟨z.2,h.b k z hz⟩<|h.v k z hz
 rwa[B_]at this
def EA(h:MI g B E G):cnt G<=128:=Pa h.few T9
end
def Jc(a:Arw):Ar:=⟨a.p,a.x,a.ts,0⟩
def YA(a:Ar):Arw:=⟨a.p,a.x,a.ts,some a.c⟩
theorem Vq(t:Nat):∀(ts:oA Nat) (b:Nat),(ts.foldl (λb k=>b ||| 2^k) b).testBit t=(b.testBit t||ts.contains t)
 |[],b=>by simp
 |u::ts,b=>by rw[eQ,Vq t ts,kK,Nat.testBit_two_pow,List.contains_cons,Bool.or_assoc];congr 2;exact g_.mpr ⟨Eq.symm,Eq.symm⟩
def Tt{ts:oA Nat}(h:∀t∈ts,t<5)(t:Nat):t∈ts↔t∈B4 (bts ts):=by rw[Cd];unfold bts;rw[Vq,jJ,kO,List.contains_iff_mem];exact⟨λz=>⟨h t z,z⟩,λz=>z.2⟩
def J4{S:oA Arw}{k:Nat×Nat}{z:Pr}:z∈grp (S.map Jc) k↔∃a∈S,a.p=k.1/\a.x=k.2/\z=(0,bts a.ts):=by unfold grp;rw[DD];constructor;rintro⟨a,ha,rfl⟩;obtain⟨h1,h2⟩:=aR.mp ha;obtain⟨b,hb,rfl⟩:=DD.mp h1;unfold Kf at h2;rw[a_,bB,bB]at h2;exact⟨b,hb,h2.1,h2.2,rfl⟩;rintro⟨a,ha,h1,h2,rfl⟩;exact⟨Jc a,aR.mpr ⟨DD.mpr ⟨a,ha,rfl⟩,by rw[show k=((Jc a).p,(Jc a).x) from kI h1.symm h2.symm];exact Md _⟩,rfl⟩
def Vr{Pf:Tops}{kvs:oA<|(Nat×Nat)×lH}{a:Ar}:a∈Dl Pf kvs↔∃e∈kvs,∃z∈Pf e.1,a=⟨e.1.1,e.1.2,B4 z.2,z.1⟩:=by unfold Dl;rw[bA];constructor;rintro⟨e,he,h⟩;obtain⟨z,hz,rfl⟩:=DD.mp h;exact⟨e,he,z,hz,rfl⟩;rintro⟨e,he,z,hz,rfl⟩;exact⟨e,he,DD.mpr ⟨z,hz,rfl⟩⟩
def EB{A:oA Arw}{b w:oA Nat}{x q:Nat}:rd A b (x::w) q=true↔∃a∈A,a.p=q/\a.x=x/\∀t∈a.ts,rd A b w t=true:=by rw[rd,bX];constructor;rintro⟨a,ha,e⟩;rw[a_,cH]at e;have c:=aF e.1;exact⟨a,ha,c.1,c.2,e.2⟩;rintro⟨a,ha,h1,h2,d⟩;exact⟨a,ha,by rw[a_,cH];exact⟨aV ⟨h1,h2⟩,d⟩⟩
def EC{A:oA Arw}{a:oA Nat}{q:Nat}:rd A a [] q=true↔q∈a:=bB
section
variable {G:Tops}{E:oA Nat}
theorem Tu{b:oA Arw}(h1:∀k,∀z∈G k,∃a∈b,a.p=k.1/\a.x=k.2/\∀t,t∈a.ts↔t∈B4 z.2)(h2:∀a∈b,∃z∈G (a.p,a.x),∀t,t∈a.ts↔t∈B4 z.2):∀(w:oA Nat) (s:Nat),rd b E w s=true↔F2 G E w s
 |[],s=>EC
 |x::w,s=>by rw[EB];constructor;rintro⟨a,ha,rfl,rfl,h⟩;obtain⟨z,hz,e⟩:=h2 a ha;exact⟨z,hz,λt ht=>(Tu h1 h2 w t).mp<|h t<|(e t).mpr ht⟩;rintro⟨z,hz,h⟩;obtain⟨a,ha,d,c,e⟩:=h1 (s,x) z hz;exact⟨a,ha,d,c,λt ht=>(Tu h1 h2 w t).mpr<|h t<|(e t).mp ht⟩
end
def IN{S:oA Arw}{E:oA Nat}(h:∀a∈S,∀t∈a.ts,t<5)(w:oA Nat)(s:Nat):rd S E w s=true↔F2 (grp<|S.map Jc) E w s :=
 Tu (λk z hz=>by
  obtain⟨a,ha,h1,h2,rfl⟩:=J4.mp hz;exact⟨a,ha,h1,h2,Tt<|h a ha⟩) (λa ha=>⟨(0,bts a.ts),J4.mpr ⟨a,ha,rfl,rfl,rfl⟩,Tt<|h a ha⟩) w s
end
section
variable {P:lJ}{w:lK}{K:lI}{mg:Str->oB lE}{base:lN}{f:lH}{fd:lQ}
def Yb{B:oA Arw}{k:Bool}(j:B.length<=400)(hc:∀a∈B,a.c.isSome=k):SortOkP (B.map Da):=by obtain⟨h,i,_⟩:=U9 B;refine⟨by rw[B_];omega,h,by omega,λd g=>?_,λd g e he=>?_⟩;obtain⟨a,ha,rfl⟩:=DD.mp g;exact⟨a.p,_,rfl⟩;obtain⟨a,ha,rfl⟩:=DD.mp g;obtain⟨b,hb,rfl⟩:=DD.mp he;exact HG<|(hc a ha).trans (hc b hb).symm
structure Say where
 own:Nat
 as:oA Arw
 es:oA Nat
def Mr(s:Say):lG:=.tuple [.int s.own,.tuple<|s.as.map Da,Bt s.es]
structure SyOk(g:Gq)(s:Say):Prop where
 n:s.as.length<=72
 p:∀a∈s.as,a.p<g.pl.length
 e:∀a∈s.as,a.ts=[]
 c:∀a∈s.as,a.c=none
 x:∀a∈s.as,a.x<8
 o:g.pl.length<=5
 s:s.es=[]
structure MsOk(g:Gq)(s:Say)(Ms:oA Arw):Prop where
 n:Ms.length<=400
 l:∀a∈Ms,a.ts.length<=5
 i:∀p x,Pre g (λp w=>rd s.as [] w p=true) p [x]->∃a∈Ms,a.p=p/\a.x=x/\a.ts=[]
 c:∀a∈Ms,∃c,a.c=some c/\(a.ts=[]->a.p<g.pl.length->F3 g (λp w=>rd s.as [] w p=true) c a.p [a.x])
def Kpt.sub{c a:M}{d:lH}{G:Tops}{g:oA<|(Nat×Nat)×lH}(h:Kpt c d G g)(S:Sub c a):Kpt a d G g:=⟨⟨S _ _ h.D.dd,λe he=>⟨S _ _ (h.D.ll e he).1,(h.D.ll e he).2⟩,h.D.n,h.D.uu⟩,h.o,h.b⟩
def ED{g:Gq}{G:Tops}{s:oA<|(Nat×Nat)×lH}{dk:lH}{a:M}{R:AV->M->Prop}(t:GmOk g)(T:Kpt a dk G s)(r:X7 G)(q:∀d k l c,Kpt c dk G s->DcK c d k l->Wt g G k l->d≠dk->a d=none->Sub a c->R (.R d) c):QB [.D<|Nx g,.R dk,.D<|.bool true] a λv i=>QC [.R dk,v] i R:=by
 refine⟨g,dk,G,rfl,t.gq,T.top,r,λx u p i Q=>⟨dk,x,G,u,p,rfl,T.top.sub Q.ss,r,⟨Q.dd,Q.ll,R_ Q.n<|by decide,Q.uu⟩,λe he=>⟨(Q.pf e he).len,(Q.pf e he).b⟩,?_,λd k l j D W o S=>?_⟩⟩;rintro rfl;have:=T.D.dd;rw[Q.nd]at this;cases this;have h:Sub a j:=λb m hb=>S _ _<|by
  rw[Be<|by rintro rfl;rw[Q.nd]at hb;cases hb];exact Q.ss _ _ hb
 refine q d k l j (T.sub h) D (XZ Q.kk Q.pf W) ?_ (Q.ss.none o) h;rintro rfl;rw[Q.ss _ _ T.D.dd]at o;cases o
abbrev nMc:oA Str:=["game","saying","most","kept","top","pairs","waiting"]
def Yc:FnScope nMc qE (Ai YW):=Br<|by decide +kernel
def YB:(["arrow"]:oA Str).Nodup:=by decide +kernel
def QD:ASp:=λb c R=>∃(g:Gq) (s:Say),b=[.D<|Nx g,.D<|Mr s,.D<|.int 200]/\GmOk g/\SyOk g s/\∀(a:oA Arw) μ',MsOk g s a->Sub c μ'->R (.D<|.tuple<|a.map Da) μ'
def YC{n:Nat}{T:lH}(F:FunD K "machine" "machine" YW f fd T) (cAt:VCal P w K mg base n "arrows_by_top" ["arrows"] WW) (v6:VCal P w K mg base n "least_alone" oO PU) (y9:VCal P w K mg base n "not_kept" qK QC) (cFg:VCal P w K mg base n "following" qJ QB) (z5:VCal P w K mg base n "how_many" oQ XO) (cKc:VCal P w K mg base n "keep_cheapest" qL XV) (cAw:VCal P w K mg base n "as_arrows" oQ XX) (ah:mg "len" = none) (al:mg "tuple" = none) (aq:mg "sorted" = none):FnOk P w K mg base Dm (n+1) f fd qE (D5 K 3 QD):=by
 refine F.vok Yc λam A outer s H E hr=>⟨_,(Ae (Am (i:=3) Yc.nd rfl oH E4)<|Ae (Iq aD rfl (Al cAt hr rfl<|Aa (Cf (N':=["arrow"]) (mp:=[none]) rfl (Bo<|Aw Bd (vv 1) Af) (λ_ _ _ _=>(Ak (i:=0) YB rfl oH oI)) (λ_ _ _ _=>B2) (λ_ _ _ _=>(A9 B6 (vv 0)<|Aq<|Aa Af Ad))<|Bc (N:=nMc) (pn:=(Ai YW).names)<|by decide +kernel) Ad) (Ao (Ak (i:=4) Yc.nd rfl oH)<|Ao (Ak (i:=5) Yc.nd rfl oH) Bs)<|Ah<|Ek (Dh hr) (vv 3) (vv 4)<|Al v6 hr rfl<|Aa (vv 5) Ad)<|Ae (Am (i:=6) Yc.nd rfl oH<|Al y9 hr rfl<|Aa (vv 3)<|Aa (Al cFg hr rfl<|Aa (vv 0)<|Aa (vv 3)<|Aa Ez Ad) Ad)<|Ae (E3 aD (VW.pt<|Hr (Ax Ki (A8 OA rfl ah bH<|Aa (vv 6) Ad) Af<|nomark _)<|Fl<|Ax Qau (Al z5 hr rfl<|Aa (vv 3) Ad) (vv 2)<|nomark _)<|Ae (Bw<|Al cKc hr rfl<|Aa (vv 3)<|Aa (vv 6) Ad)<|Ah<|Am (i:=6) Yc.nd rfl oH<|Al y9 hr rfl<|Aa (vv 3)<|Aa (Al cFg hr rfl<|Aa (vv 0)<|Aa (vv 3)<|Aa Ez Ad) Ad)<|Ae (Bq (Ax Ki (Al z5 hr rfl<|Aa (vv 3) Ad) (vv 2)<|nomark _) (Ah Zq) A6)<|Ah<|Ay<|C2 Ej rfl al cK<|Aa (A8 (Nq hr) rfl aq PyProof.Rows.boot_sorted<|Aa (Al cAw hr rfl<|Aa (vv 3) Ad) Ad) Ad),?_⟩
 rintro xs L R _ ⟨g,s,rfl,hg,hs,q⟩;have t5:∀a∈s.as,∀t∈a.ts,t<5:=λa ha t ht=>by rw[hs.e a ha]at ht;cases ht
 have yq:=hs.n;have hAl:(s.as.map Jc).length<=72:=by rw[B_];exact yq
 have y8:∀k,∀z∈grp (s.as.map Jc) k,z.2<32:=λk z hz=>by obtain⟨a,ha,_,_,rfl⟩:=J4.mp hz;exact Ts (t5 a ha)<|by decide
 have hB0:∀k,∀z∈grp (s.as.map Jc) k,z.1=0:=λk z hz=>by
  obtain⟨a,_,_,_,rfl⟩:=J4.mp hz
  rfl
 have zy:∀k,∀z∈grp (s.as.map Jc) k,∀t∈B4 z.2,False:=λk z hz t ht=>by obtain⟨a,ha,_,_,rfl⟩:=J4.mp hz;have h:=(Tt (t5 a ha) t).mpr ht;rw[hs.e a ha]at h;cases h
 have hB3:∀k,grp (s.as.map Jc) k≠[]->k.1<5/\k.2<8:=λk hk=>by obtain⟨z,hz⟩:=fF _ hk;obtain⟨a,ha,e1,e2,_⟩:=J4.mp hz;rw[<- e1,<- e2];exact⟨V_ (hs.p a ha) hs.o,hs.x a ha⟩
 have hBl:∀k,(grp (s.as.map Jc) k).length<=72:=λk=>by unfold grp;rw[B_];exact R_ (bN _ _) hAl
 intro dk u9;refine Bg (λM u=>∃X o5 G B,M=[oF<|Nx g,oF<|Mr s,oE 200,oD dk,X,o5,none]/\Kpt u dk G B/\MI g (grp<|s.as.map Jc) s.es G/\Sub L u) (λZ hZ=>?_) ?_;refine Ab (Aj (j:=1) rfl)<|Ab (D9 s.as) λpc b7=>?_;have S0:Sub L (An L dk<|.dt []):=Sub.refl.new u9;have e0:An L dk (.dt []) dk=some (.dt []):=Ac;generalize An L dk (.dt [])=μ0 at b7 S0 e0;refine cmap s.as _ (λa=>Vl<|Jc a) (λM=>∃o,M=[o]) ⟨none,rfl⟩ Ac (seven<|by omega) (λ_=>D9 s.as) ?_ ?_;rintro i a τ' acc W ha ⟨o,rfl⟩ hW;have hc:=hs.c a<|N_ ha;obtain⟨p,x,ts,c⟩:=a;dsimp only at hc;subst hc;exact⟨by show 3+1<=sizeLine;decide,hW _ ⟨_,rfl⟩⟩;rw[Bh];have m5:dk≠pc:=by rintro rfl;rw[e0]at b7;cases b7
 have S1:Sub L (An μ0 pc<|.lst<|s.as.map λa=>Vl<|Jc a):=S0.new<|S0.none b7;have e1:An μ0 pc (.lst<|s.as.map λa=>Vl<|Jc a) dk=some (.dt []):=by rw[Ag m5];exact e0
 have p1:An μ0 pc (.lst<|s.as.map λa=>Vl<|Jc a) pc=oG ((s.as.map Jc).map Vl):=by rw[Ac,aE];rfl
 generalize An μ0 pc (.lst<|s.as.map λa=>Vl<|Jc a)=μ1 at S1 e1 p1;refine⟨.R pc,s.as.map Jc,rfl,Av p1,R_ hAl<|by decide,λa ha t ht=>?_,λd J μ2 T=>?_⟩;obtain⟨b,hb,rfl⟩:=DD.mp ha;exact t5 b hb t ht;refine Ab T.dd ?_;have dkd:dk≠d:=by rintro rfl;have:=T.fd;rw[e1]at this;cases this
 have d0:L d=none:=S1.none T.fd;have S2:Sub L (Cg μ2 d):=λb m hb=>by rw[Be<|by rintro rfl;rw[d0]at hb;cases hb];exact T.ss _ _<|S1 _ _ hb
 have e2:Cg μ2 d dk=some (.dt<|([]:oA<|(Nat×Nat)×lH).map kvT):=by rw[Be dkd];exact T.ss _ _ e1
 have l2:∀e∈J,Cg μ2 d e.2=oG ((grp (s.as.map Jc) e.1).map Ba)/\e.2≠dk:=λe he=>by obtain⟨h1,h2⟩:=T.fe e he;exact⟨by rw[Be h2];exact T.ll e he,λz=>by rw[z,e1]at h1;cases h1⟩
 refine Ls (λi M u=>∃X o5 G B,M=[oF<|Nx g,oF<|Mr s,oE 200,oD dk,X,o5,none]/\Kpt u dk G B/\(∀e∈J.take i,CvA (grp (s.as.map Jc) e.1)<|G e.1)/\(∀k,(∀e∈J.take i,e.1≠k)->G k=[])/\(∀e∈J,u e.2=oG ((grp (s.as.map Jc) e.1).map Ba))/\Sub L u) ⟨none,none,λ_=>[],[],rfl,⟨⟨e2,(λ_ h=>nomatch h),aG _,bQ⟩,λ_ _=>rfl,(λ_ h=>nomatch h)⟩,(λ_ h=>nomatch h),λ_ _=>rfl,λe he=>(l2 e he).1,S2⟩ ?_ ?_;rintro i v M μ3 W hv ⟨X,o5,G,B,rfl,T3,hC,hO,hL,S3⟩ hW;rw[G_]at hv;obtain⟨e,he,rfl⟩:=I_.mp hv;have fx:=N_ he;have a9:J.take (i+1)=J.take i++[e]:=by rw[aM,he];rfl
 have bg:∀U∈J.take i,U.1≠e.1:=λU av c=>by have h3:((J.take<|i+1).map (·.1)).Nodup:=T.uu.sublist<|(fK _ _).map _;rw[a9,L_,bL]at h3;exact h3.2.2 U.1 (DD.mpr ⟨U,av,rfl⟩) e.1 (by simp) c
 dsimp only[E1,D1,Px,List.set,kvT,Zw];refine⟨e.2,grp (s.as.map Jc) e.1,rfl,hL e fx,R_ (hBl e.1)<|by decide,y8 e.1,λzs l μ4 C hl e4 V=>?_⟩;have ep:dput (.dt<|B.map kvT) (.tuple [.int (e.1.1:Nat),.int (e.1.2:Nat)]) (.R l)=some (.dt<|(putK B e.1 l).map kvT):=by rw[<- XS];rfl
 have ldk:l≠dk:=by rintro rfl;rw[T3.D.dd]at hl;cases hl
 have xf:=T3.D.n;refine Ab (V _ _ T3.D.dd) (Ab ep ⟨A3<|show(B.map kvT).length<=1000 by rw[B_];omega,hW _ _ ⟨_,_,λk=>if k=e.1 then zs else G k,putK B e.1 l,rfl,?_,λU av=>?_,λk hk=>?_,λU av=>?_,Ff (S3.trans V) u9⟩⟩);exact(T3.sub V).put (hB3 _<|(T.kk e.1).mp ⟨e,fx,rfl⟩) (by rw[T_ rfl];exact e4) ldk λj hj=>M_ hj;rw[a9]at av;dsimp only;rcases P_.mp av with h|h;rw[M_<|bg U h];exact hC U h;rw[H_.mp h,T_ rfl];exact C;rw[a9]at hk;dsimp only;rw[M_ λz=>hk e (by simp) z.symm];exact hO k λU av=>hk U<|aH _ av;rw[Ag (l2 U av).2];exact V _ _<|hL U av;rintro M μ3 ⟨X,o5,G,B,rfl,T3,hC,hO,hL,S3⟩;rw[B_,aJ]at hC hO;refine hZ _ _ ⟨_,_,G,B,rfl,T3,MI.start (λk=>?_) hB0 y8 (λk z hz t ht=>(zy k z hz t ht).elim) λk z hz t ht=>(zy k z hz t ht).elim,S3⟩;by_cases h:∃e∈J,e.1=k;obtain⟨e,he,rfl⟩:=h;exact hC e he;rw[hO k λe he c=>h ⟨e,he,c⟩,show grp (s.as.map Jc) k=[] from aY λc=>h<|(T.kk k).mpr c];exact⟨(λ_ h=>nomatch h),(λ_ h=>nomatch h),bQ⟩;rintro M μ1 ⟨X,o5,G,B,rfl,T,I,S1⟩;refine Bg (λM u=>∃O Y Q,M=[oF<|Nx g,oF<|Mr s,oE 200,oD dk,X,o5,oD O]/\Kpt u dk G B/\DcK u O Y Q/\Wt g G Y Q/\O≠dk/\L O=none/\Sub L u) (λZ hZ=>?_) ?_;exact ED (R:=λv u=>Z [oF<|Nx g,oF<|Mr s,oE 200,oD dk,X,o5,some v] u) hg T I.tb λO Y Q μ2 T2 D2 W2 h1 h2 S2=>hZ _ _ ⟨O,Y,Q,rfl,T2,D2,W2,h1,S1.none h2,S1.trans S2⟩;clear T S1;rintro M μ2 ⟨O,Y,Q,rfl,T2,D2,W2,jx,w0,S2⟩;have jp:∀{L G B},Kpt L dk G B->MI g (grp<|s.as.map Jc) s.es G->(B.map λe=>(G e.1).length).sum<=200:=λ{L G B} T I=>by
  have h1:=Pa I.few<|B.map (·.1);have h2:=DR T.D.uu λk hk=>by obtain⟨e,he,rfl⟩:=DD.mp hk;exact T.b e he
  rw[aE]at h1;exact R_ h1<|by omega
 refine Bg (λM u=>∃o6 G B,M=[oF<|Nx g,oF<|Mr s,oE 200,oD dk,X,o5,o6]/\Kpt u dk G B/\MI g (grp<|s.as.map Jc) s.es G/\(∀k,rgp g.rs k≠[]->Under (F1 g G k) (G k))/\Sub L u) (λZ hZ=>?_) ?_
 ·refine G3 (λm M u=>∃O Y Q G B,M=[oF<|Nx g,oF<|Mr s,oE 200,oD dk,X,o5,oD O]/\Kpt u dk G B/\DcK u O Y Q/\Wt g G Y Q/\MI g (grp<|s.as.map Jc) s.es G/\O≠dk/\L O=none/\cnt G+m=128/\Sub L u) (128-cnt G) ⟨O,Y,Q,G,B,rfl,T2,D2,W2,I,jx,w0,kD<|EA I,S2⟩ ?_;clear T2 D2 W2 I jx w0 S2;rintro m M μ3 W ⟨O,Y,Q,G,B,rfl,T,D,Wk,I,hd,w0,hm,S⟩ hW;refine Ab D.dd<|dif (λc=>?_) λc=>?_;have w9:Q≠[]:=by
   rintro rfl;exact absurd c<|by decide
  refine⟨dk,G,B,rfl,T.D,λe he=>(I.tb e.1).1,λμ4 V=>dif (λc2=>?_) λc2=>absurd (Int.ofNat_le.mpr<|jp T I) c2⟩;have hP:=λe he=>hg.pt<|Wk.k e he;refine⟨dk,O,G,Y,B,Q,rfl,T.sub V,⟨V _ _ D.dd,λe he=>⟨V _ _ (D.ll e he).1,(D.ll e he).2⟩,D.n,D.uu⟩,w9,λe he=>(Wk.w e he).1,λe he=>?_,I.tb,λe he=>?_,hd.symm,λc N qm μ5 dm C T5 S5=>?_⟩;obtain⟨h1,h2,_⟩:=hP e he;exact⟨V_ h1 hs.o,h2⟩;obtain⟨_,h2,h3⟩:=Wk.w e he;exact⟨Tq h3 λz hz=>(h2 z hz).2.1,λz hz=>(h2 z hz).2.1⟩;have yz:=I.more hg<|IM hg Wk C;have hc5:=DZ hg Wk C dm;have se:=EA yz;have S05:Sub L μ5:=λb m hb=>S5 _ _<|by
   rw[Be (by rintro rfl;rw[u9]at hb;cases hb),Be<|by rintro rfl;rw[w0]at hb;cases hb];exact V _ _<|S _ _ hb
  exact ED (R:=λv u=>W [oF<|Nx g,oF<|Mr s,oE 200,oD dk,X,o5,some v] u) hg T5 yz.tb λdw2 Wf2 kw2 μ6 T6 D6 W6 h1 h2 S6=>hW (128-cnt λk=>G k++N k) _ _ (by omega) ⟨dw2,Wf2,kw2,_,qm,rfl,T6,D6,W6,yz,h1,S05.none h2,kD se,S05.trans S6⟩
  ·have w9:Q=[]:=by
    cases Q with
    |nil=>rfl
    |cons e l=>exact absurd (show(0:Int)<(((e::l).map kvT).length:Nat) from by rw[B_,aS];omega) c
   exact Eg rfl<|hZ _ _ ⟨_,G,B,rfl,T,I,Wk.c w9,S⟩
 rintro M μ3 ⟨o6,G,B,rfl,T,I,hU,S⟩;refine B3 ⟨dk,G,B,rfl,T.D,λe he=>(I.tb e.1).1,λμ4 V=>dif (λc=>absurd (Int.ofNat_lt.mp c)<|kY<|jp T I) λc=>?_⟩;have T4:=T.sub V;have hmn:=jp T I;refine⟨dk,G,B,rfl,⟨T4.D.dd,λe he=>⟨(T4.D.ll e he).1,(T4.D.ll e he).2,R_ (I.tb e.1).1<|by decide,I.b e.1⟩,T4.D.n⟩,λl μ5 hl e5 S5=>?_⟩;have ag:(Dl G B).length<=200:=by unfold Dl;rw[List.length_flatMap];simp only[List.length_map];exact hmn
 have g9:dats ((Dl G B).map Vl)=some (((Dl G B).map YA).map Da):=by rw[show(Dl G B).map Vl=(((Dl G B).map YA).map Da).map .D by rw[aE,aE];rfl];exact B1 _
 refine Ab e5<|Ab g9 ⟨?_,λes p hp gy=>?_⟩;exact Yb (k:=true) (by rw[B_];omega) λa ha=>by
  obtain⟨a',_,rfl⟩:=DD.mp ha
  rfl
 obtain⟨Ms,rfl,hp2⟩:=Dp hp ((Dl G B).map YA) rfl;have dz:=hp2.length_eq;rw[B_]at dz;have zj:∀a,a∈Ms↔∃b∈Dl G B,YA b=a:=λa=>by rw[hp2.mem_iff,DD]
 have S6:Sub L μ5:=λb m hb=>S5 _ _<|by
  rw[Be<|by rintro rfl;rw[u9]at hb;cases hb];exact V _ _<|S _ _ hb
 have a8:∀a∈Ms,∃k,∃z∈G k,a=⟨k.1,k.2,B4 z.2,some z.1⟩:=λa ha=>by obtain⟨b,hb,rfl⟩:=(zj a).mp ha;obtain⟨e,he,z,hz,rfl⟩:=Vr.mp hb;exact⟨e.1,z,hz,rfl⟩
 have eS:(λp w=>F2 (grp<|s.as.map Jc) s.es w p)=(λp w=>rd s.as [] w p=true):=funext λp=>funext λw=>propext (by rw[hs.s];exact(IN t5 w p).symm);refine Ab (Av Ac) (Ab (B1 _) ⟨_,Sub.refl,q Ms _ ⟨by omega,λa ha=>?_,λp x cq=>?_,λa ha=>?_⟩<|S6.new<|S6.none gy⟩);obtain⟨k,z,hz,rfl⟩:=a8 a ha;exact R_ (bN _ _) (by rw[bE];decide);rw[<- eS]at cq;obtain⟨z,hz,hb⟩:=IF hg.rs (λk y hy=>by obtain⟨z,hz,_,r⟩:=I.z k y hy;exact⟨z,hz,r⟩) hU cq;have wu:B4 z.2=[]:=jL.mpr λt ht=>by have h:=hb t ht;rw[hs.s]at h;exact absurd h<|by unfold F2;simp
 obtain⟨e,he,e1⟩:∃e∈B,e.1=(p,x):=aY λc=>by rw[T.o (p,x) λe he h=>c ⟨e,he,h⟩]at hz;cases hz
 refine⟨YA ⟨e.1.1,e.1.2,B4 z.2,z.1⟩,(zj _).mpr ⟨_,Vr.mpr ⟨e,he,z,by rw[e1];exact hz,rfl⟩,rfl⟩,?_,?_,wu⟩;show e.1.1=p;rw[e1];show e.1.2=x;rw[e1];obtain⟨k,z,hz,rfl⟩:=a8 a ha;refine⟨z.1,rfl,λh0 hp=>?_⟩;have h0:B4 z.2=[]:=h0;have h:=I.s k z hz [] 0 λt ht=>by rw[h0]at ht;cases ht
 rw[eS]at h;exact h.elim (λz=>z.2) λz=>absurd hp<|kY z.1
end
section
variable {P:lJ}{w:lK}{K:lI}{mg:Str->oB lE}{base:lN}{f:lH}{fd:lQ}
def EE{a b:oA Nat}(h:Bt a=Bt b):a=b:=by
 unfold Bt at h;rw[PyData.tuple.injEq]at h
 induction a generalizing b with
 |nil=>cases b with
  |nil=>rfl
  |cons y b=>cases h
 |cons x a c=>cases b with
  |nil=>cases h
  |cons y b=>simp only[List.map_cons,List.cons.injEq,PyData.int.injEq]at h;rw[c h.2,show x=y by omega]
def Iy{b:Nat}{ps:Prg}{r:Rul}:r∈Ew b ps↔∃a,a<=b/\∃q∈pts ps,r=crs ps a q\/∃x∈Fx ps a q,r=Ma ps a q x:=by unfold Ew O6 O5 owns;constructor;intro h;obtain⟨a,ha,h⟩:=bA.mp h;obtain⟨q,hq,h⟩:=bA.mp h;have ha:=aL.mp ha;refine⟨a,by omega,q,hq,?_⟩;rcases Y_.mp h with h|h;exact .inl h;obtain⟨x,hx,rfl⟩:=DD.mp h;exact .inr ⟨x,hx,rfl⟩;rintro⟨a,ha,q,hq,h⟩;refine bA.mpr ⟨a,aL.mpr<|by omega,bA.mpr ⟨q,hq,?_⟩⟩;rcases h with rfl|⟨x,hx,rfl⟩;exact .head _;exact .tail _<|DD.mpr ⟨x,hx,rfl⟩
def Pb{ps:Prg}{q a:Pt}(h:q∈pts ps)(h':a∈pts ps)(e:ix ps q=ix ps a):q=a:=by have:=O2 h;rw[e,O2 h']at this;cases this;rfl
def Rs{d:Nat}{ps:Prg}{a h:Nat}{q:Pt}(ha:a<=d)(l:h<=1)(hq:q∈pts ps)(j:h≠hdP ps q):crs ps a q∈Ew d ps/\(crs ps a q).p=2*a+h/\∀r∈Ew d ps,r.p=2*a+h->r.n=ix ps q->r=crs ps a q:=by have m:=Dy ps q;refine⟨Iy.mpr ⟨a,ha,q,hq,.inl rfl⟩,by show 2*a+(1-hdP ps q)=_;omega,λr hr h1 h2=>?_⟩;obtain⟨g,i,c,b,hr⟩:=Iy.mp hr;have k:=Dy ps c;rcases hr with rfl|⟨x,hx,rfl⟩;have e:=Pb b hq h2;subst e;have h1:2*g+(1-hdP ps c)=2*a+h:=h1;rw[show g=a by omega];have e:=Pb b hq h2;subst e;have h1:2*g+hdP ps c=2*a+h:=h1;exact absurd (show h=hdP ps c by omega) j
def Me{d:Nat}{ps:Prg}{a:Nat}{q:Pt}(ha:a<=d)(hq:q∈pts ps):(∀x∈Fx ps a q,Ma ps a q x∈Ew d ps)/\∀r∈Ew d ps,r.p=2*a+hdP ps q->r.n=ix ps q->∃x∈Fx ps a q,r=Ma ps a q x:=by
 have j:=Dy ps q;refine⟨λx hx=>Iy.mpr ⟨a,ha,q,hq,.inr ⟨x,hx,rfl⟩⟩,λr hr h1 h2=>?_⟩;obtain⟨g,h,b,c,hr⟩:=Iy.mp hr;have i:=Dy ps b;rcases hr with rfl|⟨x,hx,rfl⟩;have e:=Pb c hq h2;subst e;have h1:2*g+(1-hdP ps b)=2*a+hdP ps b:=h1;omega;have e:=Pb c hq h2;subst e;have h1:2*g+hdP ps b=2*a+hdP ps b:=h1;have:g=a:=by omega
 subst this;exact⟨x,hx,rfl⟩
def Rt{a b:Rul}(h:Fs a=Fs b):a=b:=by obtain⟨p,n,g,w⟩:=a;obtain⟨d,e,i,k⟩:=b;unfold Fs at h;rw[PyData.tuple.injEq]at h;simp only[List.cons.injEq,PyData.int.injEq,and_true]at h;obtain⟨h1,h2,j,c⟩:=h;rw[show p=d by omega,show n=e by omega,show g=i by omega,EE c]
def EF{a:Nat}{ps:Prg}{es:oA lG}(i:es.Nodup)(c:∀d,d∈es↔d∈(Ew a ps).map Fs):∃A:oA Rul,es=A.map Fs/\A.Nodup/\∀r,r∈A↔r∈Ew a ps:=by obtain⟨A,rfl,_⟩:=unmap (g:=Fs) (B:=Ew a ps) λe he=>(c e).mp he;refine⟨A,rfl,?_,λr=>?_⟩;exact(gU.mp i).imp λh e=>h (by rw[e]);constructor;intro h;obtain⟨b,hb,e⟩:=DD.mp<|(c _).mp<|DD.mpr ⟨r,h,rfl⟩;rw[<- Rt e];exact hb;intro h;obtain⟨b,hb,e⟩:=DD.mp<|(c _).mpr<|DD.mpr ⟨r,h,rfl⟩;rw[<- Rt e];exact hb
def QE{ps:Prg}{q:Pt}(hq:q∈pts ps)(h:ix ps q∈mks ps):stepAt ps q=some .mark:=by
 have h1:=(aR.mp h).2;unfold DC at h1;rw[O2 hq]at h1;dsimp only at h1;cases e:stepAt ps q with
 |none=>rw[e]at h1;cases h1
 |some st=>
  rw[e]at h1;cases st with
  |mark=>rfl
  |_=>cases h1
def QF{ps:Prg}{q:Pt}(hq:q∈pts ps)(e:stepAt ps q=some .mark):ix ps q∈mks ps:=by refine aR.mpr ⟨aL.mpr<|iB.mpr hq,?_⟩;unfold DC;rw[O2 hq];dsimp only;rw[e]
def Yd(b:Nat)(ps:Prg):oA Arw:=(List.range<|b+1).flatMap λa=>(mks ps).map λN=>⟨2*a,N,[],none⟩
def YD(b:Nat)(ps:Prg):HU b ps=(Yd b ps).map Da:=by unfold HU Yd;rw[List.map_flatMap];congr 1;funext a;rw[aE];rfl
def JZ{b:Nat}{ps:Prg}{p N:Nat}{w:oA Nat}:rd (Yd b ps) [] (N::w) p=true↔(∃a,a<=b/\p=2*a)/\N∈mks ps:=by show((Yd b ps).any λa=>decide (a.p=p/\a.x=N)&&a.ts.all λt=>rd (Yd b ps) [] w t)=true↔_;rw[bX];constructor;rintro⟨x,hx,h⟩;obtain⟨a,ha,hx⟩:=bA.mp hx;obtain⟨k,hk,rfl⟩:=DD.mp hx;have h1:=aF (jT.mp h).1;have ha:=aL.mp ha;exact⟨⟨a,by omega,h1.1.symm⟩,by rw[<- h1.2];exact hk⟩;rintro⟨⟨a,ha,rfl⟩,c⟩;refine⟨⟨2*a,N,[],none⟩,bA.mpr ⟨a,aL.mpr<|by omega,DD.mpr ⟨N,c,rfl⟩⟩,?_⟩;rw[aV ⟨rfl,rfl⟩];rfl
def IP(r:Rul):Rq:=⟨r.p,r.n,r.g,r.w⟩
def plq(a:Nat):oA (Str×Nat):=([("offone",0),("offtwo",1),("onone",0),("ontwo",1)]:oA<|Str×Nat).take<|2*(a+1)
def Pg(a:Nat)(ps:Prg)(A:oA Rul):Gq:=⟨plq a,(pts ps).map ltr,A.map IP⟩
def QG{a:Nat}(h:a<=1):VZ a=(plq a).map WY:=by rcases(show a=0\/a=1 by omega) with rfl|rfl<;>rfl
def YE{a:Nat}(h:a<=1)(ps:Prg)(A:oA Rul):gmD a ps (A.map Fs)=Nx (Pg a ps A):=by unfold gmD Nx Pg;rw[QG h,aE,aE];rfl
def Kw{a:Nat}(h:a<=1):(plq a).length=2*(a+1):=by rcases(show a=0\/a=1 by omega) with rfl|rfl<;>rfl
def QH(a:Nat)(ps:Prg):OY a ps=Mr ⟨0,Yd a ps,[]⟩:=by unfold OY Mr;rw[YD];rfl
structure Sml(sw:Nat)(ps:Prg):Prop where
 g:PgOk sw ps
 n:ps.length<=2
 l:∀p∈ps,p.length<=3
 s:∀p∈ps,∀s∈p,To sw s
theorem Ru:∀(k:Nat) (ps:Prg),(∀p∈ps,p.length<=3)->(Fd k ps).length<=4*ps.length
 |_,[],_=>J_ _
 |k,p::ps,h=>by have h1:=Ru (k+1) ps λq hq=>h q<|.tail _ hq;have h2:=h p<|.head _;simp only[Fd,List.length_append,List.length_map,List.length_range,List.length_cons];omega
def Sml.pts{a:Nat}{ps:Prg}(h:Sml a ps):(pts ps).length<=8:=by have h1:(K85.pts ps).length<=4*ps.length:=Ru 0 ps h.l;have:=h.n;omega
def Pc{b:Nat}{ps:Prg}(h:Sml b ps){a:Nat}(ha:a<=b){q:Pt}{x:Nat×oA Pt}(hx:x∈Fx ps a q):x.1<=b:=by
 unfold Fx at hx;cases e:stepAt ps q with
 |none=>rw[e]at hx;rw[H_.mp hx];exact ha
 |some st=>
  obtain⟨p,g,d⟩:=Iv e;have c:=h.s p (N_ g) st<|N_ d;rw[e]at hx;cases st with
  |set v=>rw[H_.mp hx];exact c
  |mark=>cases hx
  |ask x y=>rcases Y_.mp hx with rfl|hx;exact ha;rw[H_.mp hx];exact ha
  |chance x y=>rcases Y_.mp hx with rfl|hx;exact ha;rw[H_.mp hx];exact ha
  |_=>rw[H_.mp hx];exact ha
def Pd(ps:Prg)(l:oA Pt):HR ps l<=1:=by
 cases l with
 |nil=>exact aG _
 |cons q l=>exact Dy ps q
def YF{a:Nat}{ps:Prg}(h:Sml a ps){q:Pt}(hq:q∈pts ps):ix ps q<8:=V_ (iB.mpr hq) h.pts
section
variable {sw:Nat}{ps:Prg}{A:oA Rul}
def YG(h:Sml sw ps)(k:A.Nodup)(j:∀r,r∈A↔r∈Ew sw ps):GmOk (Pg sw ps A):=by
 have m:=h.g.sw;have hp:=Kw m;have e:∀r∈A,r.p<2*(sw+1)/\r.g<2*(sw+1)/\r.n<8/\r.w.length<=2/\(r.w=[]->r.g=0\/r.g=2):=λr hr=>by obtain⟨a,ha,q,hq,h1⟩:=Iy.mp<|(j r).mp hr;have y:=Dy ps q;have i:=YF h hq;rcases h1 with rfl|⟨x,hx,rfl⟩;refine⟨?_,?_,i,by show 1<=2;decide,λz=>by cases z⟩;show 2*a+(1-hdP ps q)<_;omega;show 2*a+hdP ps q<_;omega;have t:=Pc h ha hx;have o:=((J1 h.g.ok<|Fw.mp hq).2 x hx).1;have s:=Pd ps x.2;refine⟨?_,?_,i,?_,λz=>?_⟩;show 2*a+hdP ps q<_;omega;show 2*x.1+HR ps x.2<_;omega;show(x.2.map<|ix ps).length<=2;rw[B_];exact o;have z:x.2=[]:=List.map_eq_nil_iff.mp z;show 2*x.1+HR ps x.2=0\/2*x.1+HR ps x.2=2;rw[z];show 2*x.1+0=0\/2*x.1+0=2;omega
 refine⟨by show(plq sw).length<=4;omega,?_,λr hr=>?_,λr hr l=>?_⟩;show(A.map IP).length<=60;rw[B_]
 letI:DecidableEq Rul:=λa b=>Classical.propDecidable<|a=b
 have h1:=G6 k λr hr=>(j r).mp hr;have h2:(Ew sw ps).length<=(List.range<|sw+1).length*24:=Ft _ 24 _ λa _=>by have:=Ft (O5 ps a) 3 (pts ps) λq hq=>Ra h.g.ok<|Fw.mp hq;have v:=h.pts;unfold O6;omega
 rw[bE]at h2;omega;obtain⟨u,hu,rfl⟩:=DD.mp<|show r∈A.map IP from hr;obtain⟨a,b,c,d,_⟩:=e u hu;show u.p<(plq sw).length/\u.g<(plq sw).length/\u.n<8/\u.w.length<=2;rw[hp];exact⟨a,b,c,d⟩;obtain⟨u,hu,rfl⟩:=DD.mp<|show r∈A.map IP from hr;exact(e u hu).2.2.2.2 l
def Mf(b:sw<=1){a h:Nat}(ha:a<=sw)(c:h<=1)(x:Nat):hnd (Pg sw ps A) (2*a+h,x)=h:=by show((plq sw).map (·.2)).getD (2*a+h) 0=h;rcases(show sw=0\/sw=1 by omega) with rfl|rfl;rcases(show a=0 by omega) with rfl;rcases(show h=0\/h=1 by omega) with rfl|rfl<;>rfl;rcases(show a=0\/a=1 by omega) with rfl|rfl<;>rcases(show h=0\/h=1 by omega) with rfl|rfl<;>rfl
def Hz{p N:Nat}{r:Rq}:r∈rgp (Pg sw ps A).rs (p,N)↔∃u∈A,r=IP u/\u.p=p/\u.n=N:=by unfold rgp Fy;rw[aR,a_,bB,bB];constructor;rintro⟨h1,h2,a⟩;obtain⟨u,hu,rfl⟩:=DD.mp<|show r∈A.map IP from h1;exact⟨u,hu,rfl,h2,a⟩;rintro⟨u,hu,rfl,h2,a⟩;exact⟨DD.mpr ⟨u,hu,rfl⟩,h2,a⟩
def YH(h:Sml sw ps):SyOk (Pg sw ps A) ⟨0,Yd sw ps,[]⟩:=by
 have e:=h.g.sw;have hp:=Kw e;have c:∀a∈Yd sw ps,∃b N,b<=sw/\N∈mks ps/\a=⟨2*b,N,[],none⟩:=λa ha=>by obtain⟨b,hb,ha⟩:=bA.mp ha;obtain⟨N,d,rfl⟩:=DD.mp ha;exact⟨b,N,by have:=aL.mp hb;omega,d,rfl⟩
 have i:(mks ps).length<=8:=R_ (bN _ _) (by rw[bE];exact h.pts);refine⟨?_,λa ha=>?_,λa ha=>?_,λa ha=>?_,λa ha=>?_,by show(plq sw).length<=5;omega,rfl⟩;show(Yd sw ps).length<=72;have:=Ft (λa=>(mks ps).map λN=>(⟨2*a,N,[],none⟩:Arw)) 8 (List.range<|sw+1) λa _=>by rw[B_];exact i
 rw[bE]at this;unfold Yd;omega;obtain⟨b,N,hb,d,rfl⟩:=c a ha;show 2*b<(plq sw).length;omega;obtain⟨b,N,hb,d,rfl⟩:=c a ha;rfl;obtain⟨b,N,hb,d,rfl⟩:=c a ha;rfl;obtain⟨b,N,hb,d,rfl⟩:=c a ha;exact V_ (aL.mp (aR.mp d).1) h.pts
end
end
section
variable {P:lJ}{w:lK}{K:lI}{mg:Str->oB lE}{base:lN}{f:lH}{fd:lQ}
def win(ps:Prg):Nat->Nat->Nat->oA Pt->Bool
 |_,_,_,[]=>false
 | 0,_,_,_::_=>false
 |n+1,k,a,q::r=>match stepAt ps q with
  |none=>false
  |some .mark=>true
  |some (.ask x y)=>match k with
   | 0=>false
   |k+1=>win ps n k a (strip ps<|(q.1,x)::r)||win ps n k a (strip ps<|(q.1,y)::r)
  |some (.chance x y)=>match k with
   | 0=>false
   |k+1=>win ps n k a (strip ps<|(q.1,x)::r)&&win ps n k a (strip ps<|(q.1,y)::r)
  |some (.iff x y)=>win ps n k a (strip ps<|(q.1,if a=1 then x else y)::r)
  |some (.set v)=>win ps n k v (strip ps<|(q.1,q.2+1)::r)
  |some (.call j)=>win ps n k a (strip ps<|(j,0)::(q.1,q.2+1)::r)
  |some .back=>win ps n k a<|strip ps r
def gT(ps:Prg)(a:oA Nat):Out×Nat:=G9 ps 60 0 (strip ps [(0,0)]) a 0
def mkd(ps:Prg):Nat->oA Nat->Bool
 | 0,a=>match(gT ps a).1 with
  |.marked=>true
  |_=>false
 |k+1,a=>match(gT ps a).1 with
  |.marked=>true
  |.lacks true=>mkd ps k (a++[0])||mkd ps k (a++[1])
  |.lacks false=>mkd ps k (a++[0])&&mkd ps k (a++[1])
  |_=>false
def IQ(ps:Prg):∀(n k a:Nat) (l:oA Pt) (st:Nat) (b:oA Nat),(∀i,gT ps (b++i)=G9 ps n a l i st)->mkd ps k b=win ps n k a l:=by
 intro n
 induction n with
 |zero=>
  intro k a l st b h;have d:=h [];rw[bP]at d;cases l with
  |nil=>
   have e:(gT ps b).1=.over:=by rw[d];rfl
   cases k<;>(rw[mkd,e];rfl)
  |cons q r=>
   have e:(gT ps b).1=.more:=by rw[d];rfl
   cases k<;>(rw[mkd,e];rfl)
 |succ n m=>
  intro k a l st b h;have d:=h [];rw[bP]at d;cases l with
  |nil=>
   have e:(gT ps b).1=.over:=by rw[d];rfl
   cases k<;>(rw[mkd,e];rfl)
  |cons q r=>
   have o:∀(c:Nat) (x y:Nat),(stepAt ps q=some (.ask x y)\/stepAt ps q=some (.chance x y))->∀k,mkd ps k (b++[c])=win ps n k a (strip ps<|(q.1,if c=0 then x else y)::r):=λc x y e k=>by refine m k a _ (st+1) (b++[c]) λi=>?_;rw[eL,h];show G9 ps (n+1) a (q::r) (c::i) st=_;rcases e with e|e<;>rw[G9,e]
   cases e:stepAt ps q with
   |none=>
    have g:(gT ps b).1=.over:=by rw[d,G9,e]
    rw[win,e];cases k<;>rw[mkd,g]
   |some s=>
    cases s with
    |mark=>
     have g:(gT ps b).1=.marked:=by rw[d,G9,e]
     rw[win,e];cases k<;>rw[mkd,g]
    |ask x y=>
     have g:(gT ps b).1=.lacks true:=by rw[d,G9,e]
     rw[win,e];cases k with
     |zero=>rw[mkd,g]
     |succ k=>rw[mkd,g];dsimp only;rw[o 0 x y<|.inl e,o 1 x y<|.inl e];rfl
    |chance x y=>
     have g:(gT ps b).1=.lacks false:=by rw[d,G9,e]
     rw[win,e];cases k with
     |zero=>rw[mkd,g]
     |succ k=>rw[mkd,g];dsimp only;rw[o 0 x y<|.inr e,o 1 x y<|.inr e];rfl
    |iff x y=>rw[win,e];exact m k a _ (st+1) b λi=>by rw[h,G9,e]
    |set v=>rw[win,e];exact m k v _ (st+1) b λi=>by rw[h,G9,e]
    |call j=>rw[win,e];exact m k a _ (st+1) b λi=>by rw[h,G9,e]
    |back=>rw[win,e];exact m k a _ (st+1) b λi=>by rw[h,G9,e]
def YI(ps:Prg):∀(n a:Nat) (l:oA Pt) (b:oA Nat) (st:Nat),F4 ps n a l b st=((G9 ps n a l b st).1.word,(G9 ps n a l b st).2):=by
 intro n
 induction n with
 |zero=>intro a l b st;cases l<;>rfl
 |succ n d=>
  intro a l b st;cases l with
  |nil=>rfl
  |cons q r=>
   rw[F4,G9];cases stepAt ps q with
   |none=>rfl
   |some s=>
    cases s with
    |mark=>rfl
    |ask x y=>
     cases b with
     |nil=>rfl
     |cons c b=>exact d ..
    |chance x y=>
     cases b with
     |nil=>rfl
     |cons c b=>exact d ..
    |_=>exact d ..
section
variable {sw:Nat}{ps:Prg}{A:oA Rul}
abbrev EG(sw:Nat)(ps:Prg):Nat->oA Nat->Prop:=λp w=>rd (Yd sw ps) [] w p=true
def Good(sw:Nat)(ps:Prg)(A:oA Rul)(a:Nat)(l:oA Pt):Prop:=∀h,h<=1->Pre (Pg sw ps A) (EG sw ps) (2*a+h) (l.map<|ix ps)
def Fz{q:Pt}{s:oB Stp}(e:stepAt ps q=s)(h:∀x y,s≠some (.chance x y)):hdP ps q=0:=by
 unfold hdP;rw[e];split;exact absurd rfl (h _ _)
 rfl
def Vs(H:Sml sw ps)(b:∀r,r∈A↔r∈Ew sw ps){a:Nat}(ha:a<=sw){q:Pt}(hq:q∈pts ps){r:oA Pt}(h0:hdP ps q=0){x:Nat×oA Pt}(hx:x∈Fx ps a q)(hG:Good sw ps A x.1<|x.2++r):Pre (Pg sw ps A) (EG sw ps) (2*a+hdP ps q) (ix ps q::r.map (ix ps)):=by refine .one (r:=IP<|Ma ps a q x) (Hz.mpr ⟨Ma ps a q x,(b _).mpr<|(Me ha hq).1 x hx,rfl,rfl,rfl⟩) (by rw[Mf H.g.sw ha<|Dy ps q,h0];decide) ?_;have:=hG (HR ps x.2)<|Pd _ _;rw[L_]at this;exact this
def IR(H:Sml sw ps)(b:∀r,r∈A↔r∈Ew sw ps){a:Nat}(ha:a<=sw){q:Pt}(hq:q∈pts ps){r:oA Pt}(h1:hdP ps q=1){x0:Nat×oA Pt}(h0:x0∈Fx ps a q)(hG:∀x∈Fx ps a q,Good sw ps A x.1<|x.2++r):Pre (Pg sw ps A) (EG sw ps) (2*a+hdP ps q) (ix ps q::r.map (ix ps)):=by refine .all (by rw[Mf H.g.sw ha<|Dy ps q,h1]) (List.ne_nil_of_mem<|Hz.mpr ⟨Ma ps a q x0,(b _).mpr<|(Me ha hq).1 x0 h0,rfl,rfl,rfl⟩) λu hu=>?_;obtain⟨u,hv,rfl,d,c⟩:=Hz.mp hu;obtain⟨x,hx,rfl⟩:=(Me ha hq).2 u ((b u).mp hv) d c;have:=hG x hx (HR ps x.2)<|Pd _ _;rw[L_]at this;exact this
def Hb(H:Sml sw ps)(d:∀r,r∈A↔r∈Ew sw ps){a:Nat}(ha:a<=sw){q:Pt}(hq:q∈pts ps){r:oA Pt}(hp:Pre (Pg sw ps A) (EG sw ps) (2*a+hdP ps q)<|ix ps q::r.map (ix ps)):Good sw ps A a (q::r):=λh b=>by by_cases c:h=hdP ps q;rw[c];exact hp;obtain⟨i,c2,l⟩:=Rs ha b hq c;have e:IP (crs ps a q)∈rgp (Pg sw ps A).rs (2*a+h,ix ps q):=Hz.mpr ⟨_,(d _).mpr i,rfl,c2,rfl⟩;rcases(show h=0\/h=1 by omega) with rfl|rfl;exact .one e (by rw[Mf H.g.sw ha b];decide) hp;refine .all (Mf H.g.sw ha b _) (List.ne_nil_of_mem e) λu hu=>?_;obtain⟨u,hv,rfl,k,j⟩:=Hz.mp hu;rw[l u ((d u).mp hv) k j];exact hp
theorem Ia(H:Sml sw ps)(c:∀r,r∈A↔r∈Ew sw ps){a:Nat}(ha:a<=sw):∀{l:oA Pt},(∀q∈l,Bv ps q)->Good sw ps A a (strip ps l)->Good sw ps A a l
 |[],_,h=>h
 |q::r,b,h=>by
  cases e:stepAt ps q with
  |none=>rw[strip,e]at h;have hG:=Ia H c ha (λx hx=>b x<|.tail _ hx) h;exact Hb H c ha (Fw.mpr<|b q<|.head _) (Vs H c ha (Fw.mpr<|b q<|.head _) (Fz e<|by simp) (x:=(a,[])) (by unfold Fx;rw[e];simp) hG)
  |some s=>rw[strip,e]at h;exact h
def EH(H:Sml sw ps)(b:∀r,r∈A↔r∈Ew sw ps):∀(n k a:Nat) (l:oA Pt),a<=sw->(∀q∈l,Bv ps q)->win ps n k a l=true->Good sw ps A a l:=by
 intro n
 induction n with
 |zero=>intro k a l _ _ h;cases l<;>cases h
 |succ n u=>
  intro k a l ha t h;cases l with
  |nil=>cases h
  |cons q r=>
   have o:=t q<|.head _;have hq:=Fw.mpr o;have i:∀x∈Fx ps a q,∀k,win ps n k x.1 (strip ps<|x.2++r)=true->Good sw ps A x.1 (x.2++r):=λx hx k m=>by have d:∀y∈x.2++r,Bv ps y:=λy hy=>(P_.mp hy).elim (((J1 H.g.ok o).2 x hx).2 y) λhy=>t y<|.tail _ hy;exact Ia H b (Pc H ha hx) d<|u k x.1 _ (Pc H ha hx) (C0 d) m
   have c:hdP ps q=0->∀x∈Fx ps a q,∀k,win ps n k x.1 (strip ps<|x.2++r)=true->Good sw ps A a (q::r):=λB x hx k m=>Hb H b ha hq<|Vs H b ha hq B hx<|i x hx k m;rw[win]at h;cases e:stepAt ps q with
   |none=>rw[e]at h;cases h
   |some s=>
    rw[e]at h;cases s with
    |mark=>refine Hb H b ha hq (.say ?_<|JZ.mpr ⟨⟨a,ha,by rw[Fz e<|by simp];rfl⟩,QF hq e⟩);show _<(plq sw).length;rw[Kw H.g.sw,Fz e<|by simp];omega
    |ask x y=>
     cases k with
     |zero=>cases h
     |succ k=>rcases kE.mp h with h|h;exact c (Fz e<|by simp) (a,[(q.1,x)]) (by unfold Fx;rw[e];simp) k h;exact c (Fz e<|by simp) (a,[(q.1,y)]) (by unfold Fx;rw[e];simp) k h
    |chance x y=>
     cases k with
     |zero=>cases h
     |succ k=>
      obtain⟨h1,h2⟩:=jT.mp h;have p:Fx ps a q=[(a,[(q.1,x)]),(a,[(q.1,y)])]:=by unfold Fx;rw[e]
      refine Hb H b ha hq (IR H b ha hq (by unfold hdP;rw[e]) (x0:=(a,[(q.1,x)])) (by rw[p];simp) λz hz=>?_);have hz':=hz;rw[p]at hz';rcases Y_.mp hz' with rfl|hz';exact i _ hz k h1;obtain rfl:=H_.mp hz';exact i _ hz k h2
    |iff x y=>exact c (Fz e<|by simp) (a,[(q.1,if a=1 then x else y)]) (by unfold Fx;rw[e];simp) k h
    |set v=>exact c (Fz e<|by simp) (v,[(q.1,q.2+1)]) (by unfold Fx;rw[e];simp) k h
    |call j=>exact c (Fz e<|by simp) (a,[(j,0),(q.1,q.2+1)]) (by unfold Fx;rw[e];simp) k h
    |back=>exact c (Fz e<|by simp) (a,[]) (by unfold Fx;rw[e];simp) k h
def Vt{a h n k:Nat}{l:oA Pt}(c:∀q∈l,Bv ps q)(b:0<n)(hs:EG sw ps (2*a+h)<|l.map<|ix ps):win ps n k a (strip ps l)=true:=by
 cases l with
 |nil=>exact absurd hs (by unfold EG;simp[rd])
 |cons q r=>have e:=QE (Fw.mpr<|c q<|.head _) (JZ.mp hs).2;obtain⟨n,rfl⟩:=dC<|gX b;rw[show strip ps (q::r)=q::r by rw[strip,e]];show win ps (n+1) k a (q::r)=true;rw[win,e]
def IS(H:Sml sw ps)(B:∀r,r∈A↔r∈Ew sw ps):∀(c:Nat) {a h:Nat} {l:oA Pt} {n k:Nat},F3 (Pg sw ps A) (EG sw ps) c (2*a+h) (l.map<|ix ps)->a<=sw->h<=1->(∀q∈l,Bv ps q)->c<n->c<=k->win ps n k a (strip ps l)=true:=by
 intro c
 induction c with
 |zero=>exact λ{a h l n k} hp _ _ m d _=>Vt m d hp
 |succ c L=>
  intro a h l n k hp ha J m d hk;rcases hp with hs|⟨N,v,E,hc⟩;exact Vt m (dG (aG _) d) hs;cases l with
  |nil=>cases E
  |cons q r=>
   have G:=m q<|.head _;have hq:=Fw.mpr G;rw[aQ,List.cons.injEq]at E;obtain⟨rfl,rfl⟩:=E;have D:(h=1/\∀u∈A,u.p=2*a+h->u.n=ix ps q->F3 (Pg sw ps A) (EG sw ps) c u.g (u.w++r.map (ix ps)))\/(h=0/\∃u∈A,u.p=2*a+h/\u.n=ix ps q/\F3 (Pg sw ps A) (EG sw ps) c u.g (u.w++r.map (ix ps))):=by rw[Mf H.g.sw ha J]at hc;rcases hc with⟨h1,_,h2⟩|⟨h1,u,hu,h2⟩;exact .inl ⟨h1,λu hu b j=>h2 (IP u)<|Hz.mpr ⟨u,hu,rfl,b,j⟩⟩;obtain⟨u,hv,rfl,b,j⟩:=Hz.mp hu;exact .inr ⟨by omega,u,hv,b,j,h2⟩
   by_cases i:h=hdP ps q
   ·have M:∀x∈Fx ps a q,F3 (Pg sw ps A) (EG sw ps) c (Ma ps a q x).g ((Ma ps a q x).w++r.map (ix ps))->∀n k,c<n->c<=k->win ps n k x.1 (strip ps<|x.2++r)=true:=λx hx hp n k d hk=>by
     have F:∀y∈x.2++r,Bv ps y:=λy hy=>(P_.mp hy).elim (((J1 H.g.ok G).2 x hx).2 y) λhy=>m y<|.tail _ hy;exact L (h:=HR ps x.2) (by rw[L_];exact hp) (Pc H ha hx) (Pd _ _) F d hk
    have one:h=0->∃x∈Fx ps a q,∀n k,c<n->c<=k->win ps n k x.1 (strip ps<|x.2++r)=true:=λR=>by rcases D with⟨h1,_⟩|⟨_,u,hu,b,j,h2⟩;omega;rw[i]at b;obtain⟨x,hx,rfl⟩:=(Me ha hq).2 u ((B u).mp hu) b j;exact⟨x,hx,M x hx h2⟩
    obtain⟨n,rfl⟩:=dC (show n≠0 by omega);have t:c<n:=iX d;have I:c<=k:=fN hk;cases e:stepAt ps q with
    |none=>obtain⟨x,hx,o⟩:=one (by rw[i];exact Fz e<|by simp);unfold Fx at hx;rw[e]at hx;obtain rfl:=H_.mp hx;rw[show strip ps (q::r)=strip ps r by rw[strip,e]];exact o (n+1) k (dB t) I
    |some s=>
     rw[show strip ps (q::r)=q::r by rw[strip,e]];show win ps (n+1) k a (q::r)=true;rw[win,e];cases s with
     |mark=>rfl
     |ask x y=>obtain⟨z,hz,o⟩:=one (by rw[i];exact Fz e<|by simp);obtain⟨k,rfl⟩:=dC (show k≠0 by omega);have:=o n k t<|Nat.le_of_succ_le_succ hk;unfold Fx at hz;rw[e]at hz;show(_||_)=true;rcases Y_.mp hz with rfl|hz;exact kE.mpr<|.inl this;obtain rfl:=H_.mp hz;exact kE.mpr (.inr this)
     |chance x y=>
      have h1:h=1:=by rw[i];unfold hdP;rw[e]
      obtain⟨k,rfl⟩:=dC (show k≠0 by omega);rcases D with⟨_,h2⟩|⟨R,_⟩;have C:∀x∈Fx ps a q,win ps n k x.1 (strip ps<|x.2++r)=true:=λx hx=>M x hx (h2 _ ((B _).mpr<|(Me ha hq).1 x hx) (by rw[i];rfl) rfl) n k t<|Nat.le_of_succ_le_succ hk;unfold Fx at C;rw[e]at C;exact jT.mpr ⟨C (a,[(q.1,x)])<|by simp,C (a,[(q.1,y)])<|by simp⟩;omega
     |_=>obtain⟨z,hz,o⟩:=one (by rw[i];exact Fz e<|by simp);unfold Fx at hz;rw[e]at hz;obtain rfl:=H_.mp hz;exact o n k t I
   obtain⟨Q,c2,O⟩:=Rs ha J hq i;have hp:F3 (Pg sw ps A) (EG sw ps) c (2*a+hdP ps q) ((q::r).map<|ix ps):=by rcases D with⟨_,h2⟩|⟨_,u,hu,b,j,h2⟩;exact h2 _ ((B _).mpr Q) c2 rfl;rw[O u ((B u).mp hu) b j]at h2;exact h2
   exact L hp ha (Dy ps q) m (bU d)<|fN hk
end
end
section
variable {P:lJ}{w:lK}{K:lI}{mg:Str->oB lE}{base:lN}{f:lH}{fd:lQ}{h:lN}{x:Str}{st:lP}{oc kV bj pm am ct:lE}{od an:oB lH}{f8:oC<|oB lE}{n:Nat}{ps:oA Str}{sp:ASp}
def EI{ps:Prg}:∀(n a:Nat) (l:oA Pt) (b:oA Nat) (st:Nat),PyData.canLay0 (.str (F4 ps n a l b st).1)=true/\(F4 ps n a l b st).2<=st+n:=by
 have d:PyData.canLay0 (.str "over")=true:=by decide +kernel
 have i:PyData.canLay0 (.str "more")=true:=by decide +kernel
 have j:PyData.canLay0 (.str "marked")=true:=by decide +kernel
 have e:PyData.canLay0 (.str "lacks")=true:=by decide +kernel
 intro n
 induction n with
 |zero=>
  intro a l b st;cases l with
  |nil=>exact⟨d,J_ _⟩
  |cons q r=>exact⟨i,J_ _⟩
 |succ n g=>
  intro a l b st;cases l with
  |nil=>exact⟨d,by show st<=_;omega⟩
  |cons q r=>have c:∀a l b,PyData.canLay0 (.str (F4 ps n a l b<|st+1).1)=true/\(F4 ps n a l b<|st+1).2<=st+(n+1):=λa l b=>⟨(g a l b<|st+1).1,by have:=(g a l b<|st+1).2;omega⟩;rw[F4];split;exact⟨d,by show st<=_;omega⟩;exact⟨j,by show st+1<=_;omega⟩;split;exact⟨e,by show st<=_;omega⟩;exact c _ _ _;split;exact⟨e,by show st<=_;omega⟩;exact c _ _ _;exact c _ _ _;exact c _ _ _;exact c _ _ _;exact c _ _ _
def QI(ps:Prg)(b:oA Nat)(a:Nat):Bz (X1 ps b a):=by have h:=(EI (ps:=ps) a 0 (strip ps [(0,0)]) b 0).1;unfold X1 PD;constructor;simp only[PyData.canLay0,PyData.canLayAll0,A0]at h ⊢;rw[h];rfl;simp[PyData.depth,PyData.depthAll,A0]
def YJ{q:Type}{p:lH}{g:AG}{tst:AT}{te:AE}{u:M->Prop}{R:M->Prop}{τ:ASt}{m:M}(as:oA q)(z:q->AV)(b:q->Bool)(f:q->AV)(o:ASt->Prop)(h0:o τ)(hp:m p=none)(B:as.length<=999)(hk:∀ a,Sub m a->u a)
  (step:∀(x:q) (j:ASt) (a:M) (W:ASt->AV->M->Prop) (v:ASt->M->Prop),x∈as->o j->Sub m a->(b x=true->∀ c d,o c->Sub a d->W c (f x) d)->(b x=false->∀ c d,o c->Sub a d->v c d) ->
   g (z x) j a λc t=>tst c t λk d=>brP k (te c d<|W c)<|v c d)
  (done:∀ a,a p=oG ((as.filter b).map f)->Sub m a->R a):cl p g tst te u R (as.map z) [] τ (An m p<|.lst []):=by
 refine Ht (λi l j a=>o j/\l=((as.take i).filter b).map f/\a p=oG l/\Sub m a) ⟨h0,by simp,Ac,Sub.refl.new hp⟩ (by rintro i l τ a ⟨_,_,_,S⟩;exact hk _ S) ?_ ?_;rintro i y l j a W hy ⟨A,rfl,e,S⟩ hW;rw[G_]at hy;obtain⟨x,hx,rfl⟩:=I_.mp hy;have C:i<as.length:=(E_.mp hx).1;have ht:as.take (i+1)=as.take i++[x]:=by rw[aM,hx];rfl
 refine step x j a _ (λc d=>W (((as.take i).filter b).map f) c d) (N_ hx) A S (λhb c d s r=>⟨r _ _ e,A3 ?_,hW _ _ _ ⟨s,?_,Ac,Ff (S.trans r) hp⟩⟩) λhb c d s r=>hW _ _ _ ⟨s,?_,r _ _ e,S.trans r⟩;rw[B_];have h1:=bN b<|as.take i;rw[bF]at h1;omega;rw[ht,dH,L_,fZ,T_ hb];rfl;rw[ht,dH,L_,fZ,M_<|by rw[hb];exact Q_];simp;rintro l j a ⟨_,rfl,e,S⟩;rw[B_,aJ]at e;exact done _ e S
def IT{n m:Nat}{ps:oA Str}{sp:Nat->ASp}(h:∀k,k<=m->FnOk P w K mg base Dm n f fd ps (D5 K ps.length<|sp k)):FnOk P w K mg base Dm n f fd ps (D5 K ps.length (λb d R=>∃k,k<=m/\sp k b d R)) :=
 ⟨by rintro i H Q E ⟨b,d,R,g,hr,hc,⟨k,hk,e⟩,hq⟩;exact (h k hk).len i H Q E ⟨b,d,R,g,hr,hc,e,hq⟩,by rintro A a s H c j i Q E hr he hb hv ⟨b,d,R,g,hx,hc,⟨k,hk,e⟩,hq⟩;exact (h k hk).run A a s H c j i Q E hr he hb hv ⟨b,d,R,g,hx,hc,e,hq⟩⟩
def Vu(o:Out):Bz (.str o.word):=Az<|by cases o<;>(show PyData.canLay0 (.str<|Str.ofString _)=true)<;>decide +kernel
def YK(o:Out):PyData.eqv (.str o.word) (.str "lacks")=(match o with|.lacks _=>true|_=>false):=by rcases o with _|_|_|(_|_)<;>(show PyData.eqv (.str<|Str.ofString _) _=_)<;>decide +kernel
def YL(o:Out):PyData.eqv (.str o.word) (.str "marked")=(match o with|.marked=>true|_=>false):=by rcases o with _|_|_|(_|_)<;>(show PyData.eqv (.str<|Str.ofString _) _=_)<;>decide +kernel
def Rv:Bz (.str "lacks"):=Az<|by decide +kernel
def Nz:Bz (.str "marked"):=Az<|by decide +kernel
def Tv:Bz (.str "ask"):=Az<|by decide +kernel
def Tw(a b:Bool):Bz (.tuple [.bool a,.bool b]):=⟨rfl,by simp[PyData.depth,PyData.depthAll]⟩
abbrev nMk:oA Str:=["_law_program_here","_law_choices","_law_left","_law_word","_law_steps","_law_due","_law_found"]
def Ye:FnScope nMk oN (Ai QT):=Br<|by decide +kernel
def YM:(qO:oA Str).Nodup:=by decide +kernel
def EJ(k:Nat):ASp:=λc d R=>∃(e:Nat) (ps:Prg) (b:oA Nat),c=[.D<|B0 e ps,.D<|Vg b,.D<|A0 k]/\RunIn ps b 60/\b.length+k<=8/\∀ a,Sub d a->R (.D<|.bool<|mkd ps k b) a
def Vv{n:Nat}(F:Fun K "_law_marked" "_law_marked" QT f fd) (k:Nat) (sp:ASp) (J:∀d,k=d+1->sp=EJ d) (T:VCal P w K mg base n "_law_run" oW HX) (Q:VCal P w K mg base n "run_program" oV HW) (M:VCal P w K mg base n "_law_marked" oN sp) (U:mg "range" = none):FnOk P w K mg base Dm (n+1) f fd oN (D5 K 3<|EJ k):=by
 refine F.vok Ye λam A y s H E hr=>⟨_,(Ae (Fm (Al T hr rfl<|Aa (vv 0)<|Aa (vv 1)<|Aa Af Ad)<|Cz (n:=3) rfl<|Ao (Ak (i:=3) Ye.nd rfl oH)<|Ao (Ak (i:=4) Ye.nd rfl oH)<|Ao (Ak (i:=5) Ye.nd rfl oH) Bs)<|Ae (Bq (Ax (MU hr) (Al Q hr rfl<|Aa (vv 0)<|Aa (vv 1)<|Aa Af Ad) (Aq<|Aa (vv 3)<|Aa (vv 4) Ad)<|nomark _) (Ah<|Ay D3) A6)<|Ae (Bq (VW.pt<|Zj (Ax (MU hr) (vv 3) Bb<|nomark _)<|Sa<|Ax (C1 hr) (vv 2) Af<|nomark _) (Ah<|Ay<|Jf (C1 hr) (vv 3) Bb<|nomark _) A6)<|Ae (Go (i:=6) (N':=qO) (mp:=[none,some 0,some 1,some 2]) rfl Ye.nd rfl rfl (Dv rfl U<|Aa Af Ad) (λ_ _ _ _=>(Ak (i:=0) YM rfl oH oI)) (λ_ _ _ _=>B2) (λ_ _ _ _=>(Al M hr rfl<|Aa (vv 1)<|Aa (A9 B6 (vv 2)<|Aq<|Aa (vv 0) Ad)<|Aa (A9 JC (vv 3) Af) Ad))<|Bc (N:=nMk) (pn:=(Ai QT).names)<|by decide +kernel)<|Ae (Bq (Ax (Wq hr) D3 (vv 6)<|by with_unfolding_all rfl) (Ah<|Ay D3) A6)<|Ae (Bq (Ax (C1 hr) (vv 5) Bb<|nomark _) (Ah<|Ay<|Jf (Wq hr) Ez (vv 6)<|by with_unfolding_all rfl) A6)<|Ah<|Ay<|Jf (FV hr) Ez (vv 6)<|by with_unfolding_all rfl),?_⟩
 rintro xs u R _ ⟨l,ps,a,rfl,r,hl,q⟩;have C:X1 ps a 60=.tuple [.str (gT ps a).1.word,A0 (gT ps a).2]:=by unfold X1;rw[YI];rfl
 refine Bg (λp j=>p=[oF<|B0 l ps,oF<|Vg a,oF<|A0 k,oF<|.str (gT ps a).1.word,oF<|A0 (gT ps a).2,oF (gT ps a).1.due,none]/\u=j) (λZ B=>⟨l,ps,a,60,rfl,r,rfl,B _ _ ⟨rfl,rfl⟩⟩) ?_;rintro p _ ⟨rfl,rfl⟩;refine B3 ⟨l,ps,a,60,rfl,r,?_⟩;have g:=QI ps a 60;rw[C]at g ⊢;refine⟨g,g,Eg (by rw[PySem.SeqAt.eqv_refl _ g.1];rfl) ?_⟩;clear g C;have Y:∀{o:Out},(gT ps a).1=o->(∀b,o≠.lacks b)->mkd ps k a=(match o with|.marked=>true|_=>false):=λ{o} e ho=>by cases k<;>(rw[mkd,e];all_goals (cases o<;>first|rfl|exact absurd rfl<|ho _))
 generalize (gT ps a).2=st;cases eo:(gT ps a).1 with
 |lacks b=>
  refine B3 ⟨Vu _,Rv,Eg (by rw[YK];rfl)<|ieq (λc=>?_) λc=>?_⟩
  ·have c:(k:Int)=0:=c;obtain rfl:k=0:=by omega
   refine⟨Vu _,Nz,_,Sub.refl,?_⟩;rw[YL];have:=q u Sub.refl;rw[mkd,eo]at this;exact this
  ·have c:(k:Int)≠0:=c;obtain⟨d,rfl⟩:=dC (show k≠0 by omega);obtain rfl:=J d rfl;refine Bg (λp j=>∃z,p=[oF<|B0 l ps,oF<|Vg a,oF<|A0<|d+1,oF<|.str (Out.lacks b).word,oF<|A0 st,oF (Out.lacks b).due,oD z]/\j z=oG [.D<|.bool<|mkd ps d<|a++[0],.D<|.bool<|mkd ps d<|a++[1]]/\Sub u j) (λZ B=>?_) ?_
   ·refine⟨by decide,by decide,λO L=>?_⟩;refine YJ (List.range 2) Ch (λ_=>true) (λc=>.D<|.bool<|mkd ps d<|a++[c]) (λp=>∃o,p=[o,oF<|B0 l ps,oF<|Vg a,oF<|A0<|d+1]) ⟨none,rfl⟩ L (by decide) (λ_ _=>trivial) ?_ ?_
    ·rintro x τ' j W W2 hx ⟨o,rfl⟩ G k1 _;have hx:=aL.mp hx;refine Fk rfl ⟨?_,l,ps,a++[x],?_,⟨r.ok,r.ne,λc hc=>?_,r.most⟩,by rw[O_];show a.length+1+d<=8;omega,λV S3=>k1 rfl _ _ ⟨_,rfl⟩ S3⟩
     ·exact R_ (show(a.map A0).length+1<=9 by rw[B_];omega)<|by decide
     ·show [AV.D<|B0 l ps,AV.D<|.tuple<|a.map A0++[A0 x],AV.D<|.int<|((d+1:Nat):Int)-1]=[AV.D<|B0 l ps,AV.D<|.tuple<|(a++[x]).map A0,AV.D<|A0 d];rw[L_,show(((d+1:Nat):Int)-1)=(d:Nat) by omega];rfl
     ·rcases P_.mp hc with hc|hc
      ·exact r.cs c hc
      ·rw[H_.mp hc];omega
    ·intro I X G;exact B _ _ ⟨O,rfl,X,G⟩
   rintro p v ⟨z,rfl,t,S⟩;have m:=q v S;rw[mkd,eo]at m;generalize mkd ps d (a++[0])=b0 at t m;generalize mkd ps d (a++[1])=b1 at t m;refine B3 (Ab rfl<|Ab (Av t)<|Ab (x:=[.bool b0,.bool b1]) rfl ⟨Jk,Tw b0 b1,Eg (by cases b0<;>cases b1<;>rfl) ?_⟩);cases b with
   |true=>refine B3 ⟨Tv,Tv,Fk Xs<|Ab rfl<|Ab (Av t)<|Ab (x:=[.bool b0,.bool b1]) rfl ⟨G4 _,Tw b0 b1,_,Sub.refl,?_⟩⟩;cases b0<;>cases b1<;>exact m
   |false=>refine B3 ⟨Nv,Tv,Eg Oy<|Ab rfl<|Ab (Av t)<|Ab (x:=[.bool b0,.bool b1]) rfl ⟨G4 _,Tw b0 b1,_,Sub.refl,?_⟩⟩;cases b0<;>cases b1<;>exact m
 |_=>have m:=q u Sub.refl;rw[Y eo<|by simp]at m;refine B3 ⟨Vu _,Rv,Fk (by rw[YK];rfl)<|Fk rfl ⟨Vu _,Nz,_,Sub.refl,?_⟩⟩;rw[YL];exact m
def EL:ASp:=λa b R=>∃k,k<=8/\EJ k a b R
def QJ{n:Nat}(F:Fun K "_law_marked" "_law_marked" QT f fd) (i:Binds K fd oN []) (e:PySem.W.keepIn K (.ref f)=true) (a:mg "_law_marked" = some (.ref f)) (d:VCal P w K mg base (n+1) "_law_run" oW HX) (c:VCal P w K mg base (n+1) "run_program" oV HW) (g:mg "range" = none) :
  ∀k:Nat,FnOk P w K mg base Dm (n+2+k) f fd oN (D5 K 3<|EJ k):=by
 intro k
 induction k with
 |zero=>refine Vv F 0 (λ_ _ _=>False) (by intro j h;cases h) d c ⟨f,fd,F.ok Ye (λm H Q E h=>?_) λam A b s H m Q E hr h=>?_,i,e,a⟩ g;obtain⟨_,_,_,_,_,_,h,_⟩:=h;exact h.elim;obtain⟨_,_,_,_,_,_,h,_⟩:=h;exact h.elim
 |succ k l=>exact Vv (n:=n+2+k) F (k+1) (EJ k) (by rintro j h;cases h;rfl) (d.mono<|by omega) (c.mono<|by omega) ⟨f,fd,l,i,e,a⟩ g
def YN{n:Nat}(F:Fun K "_law_marked" "_law_marked" QT f fd) (g:Binds K fd oN []) (c:PySem.W.keepIn K (.ref f)=true) (a:mg "_law_marked" = some (.ref f)) (b:VCal P w K mg base (n+1) "_law_run" oW HX) (e:VCal P w K mg base (n+1) "run_program" oV HW) (d:mg "range" = none) :
  FnOk P w K mg base Dm (n+10) f fd oN (D5 K 3 EL) :=
 IT (m:=8) λk hk=>(QJ F g c a b e d k).mono<|by omega
abbrev YO:oA Str:=["_law_script","_law_pot_here","_law_program_here","_law_arrows","_law_found","_law_place","_law_pile","_law_costs"]
def Iz:FnScope YO oX (Ai CH):=Br<|by decide +kernel
def Pe:(qP:oA Str).Nodup:=by decide +kernel
def isC(p:Nat)(a:Arw):Bool:=decide (a.p=p/\a.x=0/\a.ts=[])
def EM(p x:Nat)(ts:oA Nat)(c:oB Nat)(a:Nat):PyData.eqv (.tuple [.int (p:Nat),.int (x:Nat),Bt ts]) (.tuple [.int (a:Nat),.int 0,.tuple []])=isC a ⟨p,x,ts,c⟩:=by
 unfold isC;cases ts with
 |nil=>show(decide ((p:Int)=a)&&(decide ((x:Int)=0)&&(true&&true)))=_;rw[Bool.and_true,Bool.and_true,<- Bool.decide_and];exact g_.mpr ⟨by rintro ⟨h1,h2⟩;exact ⟨by show p=a;omega,by show x=0;omega,rfl⟩,by rintro ⟨h1,h2,_⟩;exact ⟨by have h1:p=a:=h1;omega,by have h2:x=0:=h2;omega⟩⟩
 |cons t ts=>show(decide ((p:Int)=a)&&(decide ((x:Int)=0)&&(false&&true)))=_;rw[Bool.false_and,Bool.and_false,Bool.and_false];exact(aW λh=>by cases h.2.2).symm
def QK(c:oA Arw)(p:Nat):rd c [] [0] p=decide (0<(c.filter<|isC p).length):=by rw[fH,EB,bB,List.length_pos_iff_exists_mem];constructor;rintro⟨a,ha,h1,h2,b⟩;refine⟨a,aR.mpr ⟨ha,aV ⟨h1,h2,jL.mpr λt ht=>?_⟩⟩⟩;have:=EC.mp<|b t ht;cases this;rintro⟨a,ha⟩;obtain⟨ha,h⟩:=aR.mp ha;obtain⟨h1,h2,b⟩:=aF h;exact⟨a,ha,h1,h2,λt ht=>by rw[b]at ht;cases ht⟩
def Rw(p x:Nat)(ts:oA Nat):Bz (.tuple [.int (p:Nat),.int (x:Nat),Bt ts]):=by have h1:=Ov (ns:=ts);refine⟨?_,?_⟩;simp only[Bt,PyData.canLay0,PyData.canLayAll0,h1.1,Bool.and_true];have:=h1.2;simp only[Bt,PyData.depth,PyData.depthAll];omega
def IU{a:Nat}{ps:Prg}(h:PgOk a ps):ix ps (0,0)=0:=by obtain⟨p,b,rfl⟩:=List.exists_cons_of_ne_nil<|List.ne_nil_of_length_pos h.n0;exact VH<|by unfold pts;rw[Fd,List.range_succ_eq_map];rfl
def spL:ASp:=λb c R=>∃(ns:oA Int),b=[.D<|Mm ns]/\ns.length<=63/\∀ a,R (.D<|.bool true) a
def IV{n:Nat}(F:Fun K "law" "law" CH f fd) (wa:VCal P w K mg base n "_law_pot" oY OF) (yr:VCal P w K mg base n "_law_program" qA OP) (yy:VCal P w K mg base n "game_of" oJ OX) (wn:VCal P w K mg base n "saying_of" oJ OZ) (x4:VCal P w K mg base n "machine" qE QD) (ub:VCal P w K mg base n "_law_marked" oN EL) (xy:VCal P w K mg base n "begin_of" oJ PB) (wy:VCal P w K mg base n "reads" oZ OJ) (O:mg "len" = none) (bw:mg "min" = none):FnOk P w K mg base Dm (n+1) f fd oX (D5 K 1 spL):=by
 refine F.vok0 Iz λam A outer s H E hr=>⟨_,(Cm (VS.z<|Am (i:=1) Iz.nd rfl oH<|Al wa hr rfl<|Aa (vv 0)<|Aa Af Ad)<|Cm (VS.z<|Am (i:=2) Iz.nd rfl oH<|Al yr hr rfl<|Aa (vv 1) Ad)<|Cm (VS.z<|Am (i:=3) Iz.nd rfl oH D3)<|Cm (CG λxe pn=>(Ah<|Am (i:=3) Iz.nd rfl oH<|Al x4 hr rfl<|Aa (Al yy hr rfl<|Aa (vv 2) Ad)<|Aa (Al wn hr rfl<|Aa (vv 2) Ad)<|Aa Af Ad))<|Cm (VS.z<|Am (i:=4) Iz.nd rfl oH<|Al ub hr rfl<|Aa (vv 2)<|Aa (Aq Ad)<|Aa Af Ad)<|Cm (VS.z<|Bq (VW.pt<|Zj (Ax Ug (vv 4) D3<|nomark _)<|Sa<|Ax Ug (vv 3) D3<|nomark _) (Ah<|Ay Ez) A6)<|Cm (VS.z<|Fm (Al xy hr rfl<|Aa (vv 2) Ad)<|Cz (n:=2) rfl<|Ao (Ak (i:=5) Iz.nd rfl oI)<|Ao (Ak (i:=6) Iz.nd rfl oH) Bs)<|Cm (VS.z<|Go (i:=7) (N':=qP) (mp:=[none,none,none,none,some 5]) rfl Iz.nd rfl rfl (Bo<|vv 3) (λ_ _ _ _=>(Cz (n:=4) rfl<|Ao (Ak (i:=0) Pe rfl oH oI)<|Ao (Ak (i:=1) Pe rfl oH oI)<|Ao (Ak (i:=2) Pe rfl oH oI)<|Ao (Ak (i:=3) Pe rfl oH oI) Bs)) (λ_ _ _ _=>(Ih<|Ax (C1 hr) (Aq<|Aa (vv 0)<|Aa (vv 1)<|Aa (vv 2) Ad) (Aq<|Aa (vv 4)<|Aa Af<|Aa (Aq Ad) Ad)<|nomark _)) (λ_ _ _ _=>(vv 3))<|Bc (N:=YO) (pn:=(Ai CH).names)<|by decide +kernel)<|Cm (VS.z<|Bq (Ax (MU hr) (Al wy hr rfl<|Aa (vv 3)<|Aa (Aq Ad)<|Aa (vv 5)<|Aa (vv 6) Ad) (Jf Ki (A8 Di rfl O bH<|Aa (vv 7) Ad) Af<|nomark _)<|nomark _) (Ah<|Ay Ez) A6)<|Cm (VS.z<|Bq (VW.pt<|Hr (Jh<|vv 4)<|Fl<|Ax (C1 hr) (A8 Di rfl O bH<|Aa (vv 7) Ad) Af<|nomark _) (Ah<|Ay Ez) A6)<|Zx<|VS.z<|Ay<|IZ (vv 4)<|IZ (Jf (C1 hr) (A8 Di rfl O bH<|Aa (vv 7) Ad) Af<|nomark _)<|MS<|Jf Ki (A8 (Ti hr rfl) rfl bw jF<|Aa (vv 7) Ad) Af<|nomark _),?_⟩
 rintro xs μ R _ ⟨ns,rfl,ie,q⟩;refine B3 ⟨ns,0,rfl,by decide,ie,λa l μ1 _ _ P1 _=>?_⟩;refine B3 ⟨a,l,rfl,P1,λk ps μ2 h1 h2 h3 h4 X h6 _ _=>?_⟩;have I:PgOk k ps:=⟨h1,h2,R_ h4<|by decide,λp hp=>⟨(X p hp).1,R_ (X p hp).2<|by decide⟩,h3⟩;have G:Sml k ps:=⟨I,h4,λp hp=>(X p hp).2,h6⟩;refine B3 ?_;refine Bg (λm t=>∃(A:oA Rul) (g:oA Arw),m=[oF<|Mm ns,oD a,oF<|B0 k ps,oF<|.tuple<|g.map Da,none,none,none,none]/\(∀r,r∈A↔r∈Ew k ps)/\MsOk (Pg k ps A) ⟨0,Yd k ps,[]⟩ g) (λZ v=>?_) ?_;refine⟨k,ps,rfl,I,λes μ3 hn hm S3=>?_⟩;obtain⟨A,rfl,S,y⟩:=EF hn hm;refine⟨k,ps,rfl,I,λB S4=>?_⟩;rw[YE h3,QH];exact⟨Pg k ps A,⟨0,Yd k ps,[]⟩,rfl,YG G S y,YH G,λg μ5 u S5=>v _ _ ⟨A,g,rfl,y,u⟩⟩;rintro m μ3 ⟨A,g,rfl,y,u⟩;refine Bg (λm t=>m=[oF<|Mm ns,oD a,oF<|B0 k ps,oF<|.tuple<|g.map Da,oF<|.bool<|mkd ps 8 [],none,none,none]) (λZ v=>⟨8,J_ _,k,ps,[],rfl,⟨h1,h2,(λ_ z=>nomatch z),by decide⟩,by decide,λB S4=>v _ _ rfl⟩) ?_;rintro m B rfl;have Y:∀q∈[((0,0):Pt)],Bv ps q:=λq hq=>by rw[H_.mp hq];exact Em h2
 have eW:mkd ps 8 []=win ps 60 8 0 (strip ps [(0,0)]):=IQ ps 60 8 0 _ 0 [] λkm=>rfl;have ut:=IU I;have M:mkd ps 8 []=true->0<(g.filter<|isC<|hdP ps (0,0)).length:=λe=>by have hg:=Ia G y (aG _) Y (EH G y 60 8 0 _ (aG _) (C0 Y)<|eW.symm.trans e) (hdP ps (0,0))<|Dy _ _;rw[aQ,ut,Nat.mul_zero,eY]at hg;obtain⟨b,hb,L,e2,Q⟩:=u.i _ _ hg;exact gI<|aR.mpr ⟨hb,aV ⟨L,e2,Q⟩⟩
 have J:∀b∈g.filter (isC<|hdP ps (0,0)),b.c.getD 0<=8->mkd ps 8 []=true:=λb hb hc=>by
  obtain⟨hb,h⟩:=aR.mp hb;obtain⟨L,e2,Q⟩:=aF h;obtain⟨c,V,hk⟩:=u.c b hb;rw[V]at hc;have hp:=hk Q (by
   show b.p<(plq k).length;have:=Dy ps (0,0);rw[Kw h3,L];omega)
  rw[eW];refine IS G y c (a:=0) (h:=hdP ps (0,0)) (l:=[(0,0)]) ?_ (aG _) (Dy _ _) Y (dG hc<|by decide) hc;rw[aQ,ut,Nat.mul_zero,eY,<- L,<- e2];exact hp
 generalize mkd ps 8 []=fo at M J;generalize hp0:hdP ps (0,0)=o at M J;refine B3<|Eg rfl<|Eg rfl ?_;refine Bg (λm t=>m=[oF<|Mm ns,oD a,oF<|B0 k ps,oF<|.tuple<|g.map Da,oF<|.bool fo,oE (o:Nat),oF<|.tuple [.int 0],none]) (λZ v=>⟨k,ps,rfl,I,rfl,v _ _<|by rw[hp0];rfl⟩) ?_;rintro m μ5 rfl;have T:=u.n;refine Bg (λm t=>∃C,m=[oF<|Mm ns,oD a,oF<|B0 k ps,oF<|.tuple<|g.map Da,oF<|.bool fo,oE (o:Nat),oF<|.tuple [.int 0],oD C]/\t C=oG ((g.filter<|isC o).map λb=>.D<|.int (b.c.getD 0:Nat))) (λZ v=>?_) ?_;refine Ab (D9 g) λC b7=>?_;refine cmapf g (λb=>.D<|Da b) (isC o) (λb=>.D<|.int (b.c.getD 0:Nat)) (λm=>∃o1 o2 o3 o4,m=[o1,o2,o3,o4,oE (o:Nat)]) ⟨none,none,none,none,rfl⟩ Ac (seven<|by omega) (λ_=>D9 g) ?_ ?_;rintro j b τ' acc W W2 hj ⟨o1,o2,o3,o4,rfl⟩ w1 w2;obtain⟨c,V,_⟩:=u.c b<|N_ hj;obtain⟨p,x,ts,c'⟩:=b;obtain rfl:c'=some c:=V;refine⟨rfl,?_⟩;exact⟨Rw p x ts,Rw o 0 [],br (λe=>w1 ((EM p x ts (some c) o).symm.trans e) _ ⟨_,_,_,_,rfl⟩) λe=>w2 ((EM p x ts (some c) o).symm.trans e) _ ⟨_,_,_,_,rfl⟩⟩;exact v _ _ ⟨C,rfl,Ac⟩;rintro m μ6 ⟨C,rfl,e6⟩;generalize hC:g.filter (isC o)=Cs at M J e6;have yh:=QK g o;rw[hC]at yh;have hl:((Cs.map λb=>AV.D<|.int (b.c.getD 0:Nat)).length:Int)=Cs.length:=by rw[B_]
 refine B3 ⟨g,[],o,[0],rfl,T,λa ha=>R_ (u.l a ha)<|by decide,by decide,λU S7=>Ab (S7 _ _ e6) ⟨G4 _,G4 _,Eg ?_ ?_⟩⟩;rw[yh,hl];show(!(decide (0<Cs.length)==decide ((0:Int)<(Cs.length:Nat))))=false;rw[show decide ((0:Int)<(Cs.length:Nat))=decide (0<Cs.length) from g_.mpr ⟨λh=>by omega,λh=>by omega⟩];simp;have e7:=S7 _ _ e6;cases fo with
 |true=>refine B3<|Fk rfl<|Ab e7<|ieq (λc=>?_) λ_=>?_;rw[hl]at c;have:=M rfl;omega;exact Fk rfl ⟨_,Sub.refl,q _⟩
 |false=>
  refine B3<|Eg rfl<|Eg rfl ?_;refine Eg rfl<|Ab e7 ⟨Bi _,Bi _,?_⟩;rw[hl];show brP (PyData.eqv (.int (Cs.length:Nat))<|.int 0) _ _;refine br (λ_=>⟨_,Sub.refl,q _⟩) λc=>?_;rw[Fn]at c;have c:=iF c;have g9:dats (Cs.map λb=>AV.D<|.int (b.c.getD 0:Nat))=some (Cs.map λb=>PyData.int (b.c.getD 0:Nat)):=by rw[show(Cs.map λb=>AV.D<|.int (b.c.getD 0:Nat))=(Cs.map λb=>PyData.int (b.c.getD 0:Nat)).map .D by rw[aE];rfl];exact B1 _
  refine Ab e7 (Ab g9 ⟨⟨by rw[B_];omega,λd hd=>?_⟩,λd hd _=>?_⟩);obtain⟨b,_,rfl⟩:=DD.mp hd;refine⟨Bi _,λe he=>?_⟩;obtain⟨b',_,rfl⟩:=DD.mp he
  rfl
  obtain⟨b,hb,rfl⟩:=DD.mp hd;have h8:8<b.c.getD 0:=Nat.lt_of_not_le λh=>by have:=J b hb h;cases this
  refine⟨_,Sub.refl,?_⟩;show R (.D<|.bool<|decide ((8:Int)<((b.c.getD 0:Nat):Int))) U;rw[aV<|show(8:Int)<((b.c.getD 0:Nat):Int) by omega];exact q _
def Vw(K:lI):Sp:=λc H Q _=>∃(a:lH) (ns:oA Int),c=[.ref a]/\Fu K H a (ns.map V.int)/\Only H/\ns.length<=63/\∀b,Q (.bl true) b
theorem Vx{H:Hp}:∀(ns:oA Int),Ap K H (ns.map .int) (ns.map V.int)
 |[]=>Ce
 |n::ns=>Bf B9<|Vx ns
def QL{n:Nat}(F:Fun K "law" "law" CH f fd) (p:VCal P w K mg base n "_law_pot" oY OF) (b:VCal P w K mg base n "_law_program" qA OP) (l:VCal P w K mg base n "game_of" oJ OX) (c:VCal P w K mg base n "saying_of" oJ OZ) (s:VCal P w K mg base n "machine" qE QD) (t:VCal P w K mg base n "_law_marked" oN EL) (k:VCal P w K mg base n "begin_of" oJ PB) (r:VCal P w K mg base n "reads" oZ OJ) (d:mg "len" = none) (j:mg "min" = none):FnOk P w K mg base Dm (n+1) f fd oX (Vw K):=by refine(IV F p b l c s t k r d j).imp ?_;rintro A H Q E ⟨a,ns,rfl,g,m,i,q⟩;refine⟨[.D<|Mm ns],λ_=>none,λv _=>v=.D (.bool true),rfl,.cons ?_ .nil,(λ_ _ z=>nomatch z),⟨ns,rfl,i,λ_=>rfl⟩,?_⟩;refine MQ (xs:=ns.map V.int) ?_<|Vx ns;rcases g with(h|h)|h;rcases m a with z|⟨o,xs,z⟩;rw[z]at h;cases h;rw[z]at h;cases h;exact .inl h;exact .inr h;rintro x y v u _ _ e rfl;cases RelA.bl e;exact q _
def Vy{b:oA lE}(h:b.length=1):∃a,b=[a]:=by obtain⟨a,t,rfl,h2⟩:=E5 h;rw[dA h2];exact⟨a,rfl⟩
def Vz{c:oA lE}(h:c.length=2):∃b a,c=[b,a]:=by obtain⟨b,t,rfl,h2⟩:=E5 h;obtain⟨a,rfl⟩:=Vy h2;exact⟨b,a,rfl⟩
def V0{c:oA lE}(h:c.length=3):∃a b a2,c=[a,b,a2]:=by obtain⟨a,t,rfl,h2⟩:=E5 h;obtain⟨b,a2,rfl⟩:=Vz h2;exact⟨a,b,a2,rfl⟩
def EN{d:oA lE}(h:d.length=4):∃b c a2 a,d=[b,c,a2,a]:=by obtain⟨b,t,rfl,h2⟩:=E5 h;obtain⟨c,a2,a,rfl⟩:=V0 h2;exact⟨b,c,a2,a,rfl⟩
def Bm(K:lI)(x:Str)(st:lP):Prop:=∃f fd,PySem.W.nsIn K mainGlobals x=some (some<|.ref f)/\Fun K x x st f fd
def defat(a:PySem.W.nsIn K mainGlobals x=some (some<|.ref f))(l:K.lookup f=some ⟨oc,od,.func<|PySem.W.fnOf x x (Dz st) (Cr st) (Ai st) .none kV bj pm an am ct,f8⟩)(c:PySem.W.codeIn K am x=true)(k:PySem.W.keepIn K (.ref f)=true):Bm K x st:=⟨f,_,a,MN l c k⟩
def Bm.cal(d:Bm K x st)(X:K.In h)(G:h.Ns mainGlobals mg)(ok:∀{f fd},Fun K x x st f fd->FnOk P w K mg base Dm n f fd ps (D5 K ps.length sp))(hb:∀(kV bj pm:lE) (an:oB lH) (am ct:lE) (b:oA lE),b.length=ps.length->bindArgs (PySem.W.fnOf x x (Dz st) (Cr st) (Ai st) .none kV bj pm an am ct) ⟨b,[]⟩=pure (ps.zip b):=by intro _ _ _ _ _ _ b c;first|(obtain⟨e,rfl⟩:=Vy c;rfl)|(obtain⟨e,g,rfl⟩:=Vz c;rfl)|(obtain⟨e,g,a2,rfl⟩:=V0 c;rfl)|(obtain⟨e,g,a2,i,rfl⟩:=EN c;rfl)):VCal P w K mg base n x ps sp :=
 by obtain⟨f,fd,a,F⟩:=d;exact⟨f,fd,ok F,F.binds hb,F.kp,eG X G a⟩
def V1(K:lI)(x:Str)(st:lP)(v:Int):Prop:=∃f fd T t,PySem.W.nsIn K mainGlobals x=some (some<|.ref f)/\FunD K x x st f fd T/\PySem.W.keepIn K (.ref f)=true/\∃oc od n f8,K.lookup T=some ⟨oc,od,.seq #[.int v t] n,f8⟩
def defad{v:Int}{T:lH}{t:Tok}{m:Nat}{e:lE}{d:oB lH}{b:oC<|oB lE}(a:PySem.W.nsIn K mainGlobals x=some (some<|.ref f))(l:K.lookup f=some ⟨oc,od,.func<|PySem.W.fnOf x x (Dz st) (Cr st) (Ai st) (.ref T) kV bj pm an am ct,f8⟩)(c:PySem.W.codeIn K am x=true)(k:PySem.W.keepIn K (.ref f)=true)(g:K.lookup T=some ⟨e,d,.seq #[.int v t] m,b⟩):V1 K x st v:=⟨f,_,T,t,a,⟨_,_,_,_,_,_,_,_,_,rfl,l,c⟩,k,_,_,_,_,g⟩
def V1.calF{v:Int}(d:V1 K x st v)(X:K.In h)(G:h.Ns mainGlobals mg)(ok:∀{f fd T},FunD K x x st f fd T->FnOk P w K mg base Dm n f fd ps (D5 K ps.length sp))(hb:∀(T:lH) (tk:Tok) (kV bj pm:lE) (an:oB lH) (am ct:lE) (c:oA lE),c.length=ps.length->∃k,bindArgs (PySem.W.fnOf x x (Dz st) (Cr st) (Ai st) (.ref T) kV bj pm an am ct) ⟨c,[]⟩=seqItems? (.ref T)>>=k/\k (some #[.int v tk])=pure (ps.zip c):=by intro _ _ _ _ _ _ _ _ c b;first|(obtain⟨e,rfl⟩:=Vy b;exact⟨_,rfl,rfl⟩)|(obtain⟨e,g,rfl⟩:=Vz b;exact⟨_,rfl,rfl⟩)|(obtain⟨e,g,a2,rfl⟩:=V0 b;exact⟨_,rfl,rfl⟩)|(obtain⟨e,g,a2,i,rfl⟩:=EN b;exact⟨_,rfl,rfl⟩)):VCal P w K mg base n x ps sp:=by obtain⟨f,fd,T,tk,a,F,k,_,_,_,_,l⟩:=d;refine⟨f,fd,ok F,λs c X b=>?_,k,eG X G a⟩;obtain⟨_,_,kV,bj,pm,an,am,ct,_,rfl,j,m⟩:=F.ex;rw[bP]at b ⊢;obtain⟨k,h1,h2⟩:=hb T tk kV bj pm an am ct c b;exact .of_defaults rfl (X _ _ l) rfl h1 h2
def Bm.calR(d:Bm K x st)(X:K.In h)(G:h.Ns mainGlobals mg)(ok:∀{f fd},Fun K x x st f fd->Binds K fd ps []->PySem.W.keepIn K (.ref f)=true->mg x=some (.ref f)->FnOk P w K mg base Dm n f fd ps (D5 K ps.length sp))(hb:∀(kV bj pm:lE) (an:oB lH) (am ct:lE) (b:oA lE),b.length=ps.length->bindArgs (PySem.W.fnOf x x (Dz st) (Cr st) (Ai st) .none kV bj pm an am ct) ⟨b,[]⟩=pure (ps.zip b):=by intro _ _ _ _ _ _ b c;first|(obtain⟨e,rfl⟩:=Vy c;rfl)|(obtain⟨e,g,rfl⟩:=Vz c;rfl)|(obtain⟨e,g,a2,rfl⟩:=V0 c;rfl)|(obtain⟨e,g,a2,i,rfl⟩:=EN c;rfl)):VCal P w K mg base n x ps sp :=
 by obtain⟨f,fd,a,F⟩:=d;exact⟨f,fd,ok F (F.binds hb) F.kp<|eG X G a,F.binds hb,F.kp,eG X G a⟩
end
def all_mk{l:PySem.W.OpenLaw}{w:lK}{K:lI}{h:lN}{j:Str->oB lE}{fa:lH}(X:K.In h)(G:h.Ns mainGlobals j)(U:j "law" = some (.ref fa))
  {B cw t q u r:lH} {R kd0 kd1 kd2 kd3 S:oB lH} {knw N kn1 A kn3 kn4:Nat} {Z L ks1 ks2 ks3 E:oC<|oB lE} {z7 z6 t1 t2 t3 q0 r0 m r1 g r2 p r3:Tok}
  (d1:Bm K "as_bits" sAb)
  (d2:Bm K "as_stands" YV)
  (d3:Bm K "has_within" sHw)
  (d4:Bm K "least_alone" sLa)
  (d5:Bm K "thinned" sTh)
  (d6:Bm K "one_of_any" sOa)
  (d7:Bm K "one_of_each" sOe)
  (d8:Bm K "each_with_each" sEe)
  (d9:Bm K "arrows_by_top" sAt) (C:Bm K "readings_by" UK) (O:V1 K "machine" YW 200)
  (d12:Bm K "how_many" YX)
  (d13:Bm K "as_arrows" YY)
  (d14:Bm K "following" UL)
  (d15:Bm K "rules_by_top" sRt) (I:Bm K "keep_cheapest" UM)
  (d17:Bm K "not_kept" UN)
  (d18:Bm K "word_at" sWo)
  (d19:Bm K "goings_on" YZ)
  (d20:Bm K "run_program" sRp)
  (d21:Bm K "without_ends" sWe) (Y:Bm K "game_of" ZA)
  (d23:Bm K "saying_of" sSf)
  (d24:Bm K "begin_of" sBf)
  (d25:Bm K "all_points" ZB)
  (d26:Bm K "own_hand" sOh)
  (d27:Bm K "own_place" sOp)
  (d28:Bm K "place_of" sPf)
  (d29:Bm K "crossing_rule" sCr) (Q:Bm K "own_rules" ZC)
  (d31:Bm K "reads" sRe)
  (d32:Bm K "reading_with" ZD)
  (d33:Bm K "_law_pot" sPo) (M:Bm K "_law_draw" sDr)
  (d35:Bm K "_law_program" ZE)
  (d36:Bm K "_law_run" sRu)
  (d37:Bm K "_law_marked" QT)
  (d38:Bm K "law" CH)
  (kd:PySem.W.nsIn K mainGlobals "tuple" = some none)
  (kn:PySem.W.nsIn K mainGlobals "range" = some none)
  (iz:PySem.W.nsIn K mainGlobals "sorted" = some none)
  (qu:PySem.W.nsIn K mainGlobals "set" = some none)
  (on:PySem.W.nsIn K mainGlobals "max" = some none)
  (lz:PySem.W.nsIn K mainGlobals "list" = some none)
  (uw:PySem.W.nsIn K mainGlobals "len" = some none)
  (sy:PySem.W.nsIn K mainGlobals "sum" = some none)
  (uz:PySem.W.nsIn K mainGlobals "min" = some none)
  (fh:PySem.W.nsIn K mainGlobals "enumerate" = some none)
  (ge:PySem.W.nsIn K mainGlobals "reversed" = some none)
  (qx:PySem.W.nsIn K mainGlobals "all" = some none)
  (y1:PySem.W.nsIn K mainGlobals "OTHER_HAND" = some (some<|.int 1 t1))
  (y2:PySem.W.nsIn K mainGlobals "FIRST_HAND" = some (some<|.int 0 t2))
  (y3:PySem.W.nsIn K mainGlobals "SIGNS" = some (some<|.str "abcdefghijklmnopqrstuvwxyz" t3))
  (y4:PySem.W.nsIn K mainGlobals "PLACES" = some (some<|.ref B))
  (y5:K.lookup B=some ⟨.type "tuple",kd0,.seq #[.ref t,.ref q,.ref u,.ref r] N,L⟩)
  (w0:K.lookup t=some ⟨.type "tuple",kd1,.seq #[.str "offone" q0,.int 0 r0] kn1,ks1⟩)
  (w1:K.lookup q=some ⟨.type "tuple",kd2,.seq #[.str "offtwo" m,.int 1 r1] A,ks2⟩)
  (w2:K.lookup u=some ⟨.type "tuple",kd3,.seq #[.str "onone" g,.int 0 r2] kn3,ks3⟩)
  (w3:K.lookup r=some ⟨.type "tuple",S,.seq #[.str "ontwo" p,.int 1 r3] kn4,E⟩)
  (v1:PySem.W.nsIn K mainGlobals "CHOOSING_WORDS" = some (some<|.ref cw))
  (v2:K.lookup cw=some ⟨.type "tuple",R,.seq #[.str "ask" z7,.str "chance" z6] knw,Z⟩) :
  ∃fd:lQ,(∀(s:lF) (v:lE),BindsTo s fd ⟨[v],[]⟩ [("_law_script",v)])/\∀base:lN,K.In base->base.Ns mainGlobals j->FnOk l.prog w K j base Dm 65 fa fd oX (Vw K):=by
 have d:=bW X G kd;have f:=bW X G kn;have x:=bW X G iz;have fm:=bW X G qu;have jg:=bW X G on;have gl:=bW X G lz;have c:=bW X G uw;have jj:=bW X G sy;have bw:=bW X G uz;have aw:=bW X G fh;have bm:=bW X G ge;have jh:=bW X G qx;have nv:=eG X G y1;have og:=eG X G y2;have vn:j "SIGNS" = some (.str sgs t3):=eG X G y3;have wj:=eG X G y4;have dc0:∀H,Dk K H (.tuple [.str "offone",.int 0]) (.ref t):=λH=>G1 (xs:=[.str "offone",.int 0]) rfl w0 rfl rfl (show 2<=sizeLine by decide) (.cons ⟨q0,rfl⟩<|.cons ⟨r0,rfl⟩ .nil)<|Bf Eb<|Bf B9 Ce;have dc1:∀H,Dk K H (.tuple [.str "offtwo",.int 1]) (.ref q):=λH=>G1 (xs:=[.str "offtwo",.int 1]) rfl w1 rfl rfl (show 2<=sizeLine by decide) (.cons ⟨m,rfl⟩<|.cons ⟨r1,rfl⟩ .nil)<|Bf Eb<|Bf B9 Ce;have dc2:∀H,Dk K H (.tuple [.str "onone",.int 0]) (.ref u):=λH=>G1 (xs:=[.str "onone",.int 0]) rfl w2 rfl rfl (show 2<=sizeLine by decide) (.cons ⟨g,rfl⟩<|.cons ⟨r2,rfl⟩ .nil)<|Bf Eb<|Bf B9 Ce;have dc3:∀H,Dk K H (.tuple [.str "ontwo",.int 1]) (.ref r):=λH=>G1 (xs:=[.str "ontwo",.int 1]) rfl w3 rfl rfl (show 2<=sizeLine by decide) (.cons ⟨p,rfl⟩<|.cons ⟨r3,rfl⟩ .nil)<|Bf Eb<|Bf B9 Ce;have wo:∀H,Dk K H (.tuple plcs) (.ref B):=λH=>G1 (xs:=[.ref t,.ref q,.ref u,.ref r]) rfl y5 rfl rfl (show 4<=sizeLine by decide) (.cons rfl<|.cons rfl<|.cons rfl<|.cons rfl .nil)<|Bf (dc0 H)<|Bf (dc1 H)<|Bf (dc2 H)<|Bf (dc3 H) Ce;have ym:=eG X G v1;have wm:∀H,Dk K H (.tuple [.str "ask",.str "chance"]) (.ref cw):=λH=>G1 (xs:=[.str "ask",.str "chance"]) rfl v2 rfl rfl (show 2<=sizeLine by decide) (.cons ⟨z7,rfl⟩<|.cons ⟨z6,rfl⟩ .nil)<|Bf Eb<|Bf Eb Ce;obtain⟨f0,fd0,a0,F0⟩:=d38;have e:=U.symm.trans<|eG X G a0;cases e;refine⟨fd0,λs v=>?_,λbase _ _=>?_⟩;obtain⟨_,_,_,_,_,_,_,_,_,rfl,_,_⟩:=F0.ex;exact .of_eq rfl;have m:=d1.cal (P:=l.prog) (w:=w) (base:=base) X G λF=>WK (n:=0) F;have g:=d2.cal (P:=l.prog) (w:=w) (base:=base) X G λF=>WM (n:=0) F d f;have p:=d3.cal (P:=l.prog) (w:=w) (base:=base) X G λF=>WQ (n:=0) F;have q4:=d4.cal (P:=l.prog) (w:=w) (base:=base) X G λF=>WR (n:=1) F (p.mono<|by decide) x;have q5:=d5.cal (P:=l.prog) (w:=w) (base:=base) X G λF=>WS (n:=2) F (q4.mono<|by decide) x fm;have q6:=d6.cal (P:=l.prog) (w:=w) (base:=base) X G λF=>WV (n:=3) F (q5.mono<|by decide);have q8:=d8.cal (P:=l.prog) (w:=w) (base:=base) X G λF=>WO (n:=0) F jg gl;have q7:=d7.cal (P:=l.prog) (w:=w) (base:=base) X G λF=>WT (n:=3) F (q5.mono<|by decide) (q8.mono<|by decide);have q9:=d9.cal (P:=l.prog) (w:=w) (base:=base) X G λF=>WX (n:=1) F (m.mono<|by decide);have V:=C.cal (P:=l.prog) (w:=w) (base:=base) X G λF=>XG (n:=4) F (m.mono<|by decide) (g.mono<|by decide) (q5.mono<|by decide) (q7.mono<|by decide) c;have q17:=d17.cal (P:=l.prog) (w:=w) (base:=base) X G λF=>XM (n:=1) F (p.mono<|by decide) c;have q15:=d15.cal (P:=l.prog) (w:=w) (base:=base) X G λF=>XB (n:=0) F;have q14:=d14.cal (P:=l.prog) (w:=w) (base:=base) X G λF=>XJ (n:=5) F (q15.mono<|by decide) (V.mono<|by decide) (q7.mono<|by decide) (q6.mono<|by decide) nv;have z:=d12.cal (P:=l.prog) (w:=w) (base:=base) X G λF=>XQ (n:=0) F jj c;have J:=I.cal (P:=l.prog) (w:=w) (base:=base) X G λF=>XW (n:=0) F bw;have q13:=d13.cal (P:=l.prog) (w:=w) (base:=base) X G λF=>XY (n:=1) F (g.mono<|by decide);have q11:=O.calF (P:=l.prog) (w:=w) (base:=base) X G λF=>YC (n:=6) F (q9.mono<|by decide) (q4.mono<|by decide) (q17.mono<|by decide) (q14.mono<|by decide) (z.mono<|by decide) (J.mono<|by decide) (q13.mono<|by decide) c d x;have o:=d18.cal (P:=l.prog) (w:=w) (base:=base) X G λF=>UX (n:=0) F c;have i:=d19.cal (P:=l.prog) (w:=w) (base:=base) X G λF=>UZ (n:=1) F (o.mono<|by decide);have q21:=d21.cal (P:=l.prog) (w:=w) (base:=base) X G λF=>WG (n:=1) F (o.mono<|by decide) c;have q20:=d20.cal (P:=l.prog) (w:=w) (base:=base) X G λF=>WH (n:=2) F (q21.mono<|by decide) (o.mono<|by decide) (i.mono<|by decide) c ym wm;have zg:=d25.cal (P:=l.prog) (w:=w) (base:=base) X G λF=>VL (n:=0) F aw f c;have za:=d26.cal (P:=l.prog) (w:=w) (base:=base) X G λF=>VM (n:=1) F (o.mono<|by decide) nv og;have T:=d28.cal (P:=l.prog) (w:=w) (base:=base) X G λF=>VN (n:=0) F;have q29:=d29.cal (P:=l.prog) (w:=w) (base:=base) X G λF=>VR (n:=2) F (za.mono<|by decide) (T.mono<|by decide);have v7:=d27.cal (P:=l.prog) (w:=w) (base:=base) X G λF=>VP (n:=2) F (za.mono<|by decide) (T.mono<|by decide);have q30:=Q.cal (P:=l.prog) (w:=w) (base:=base) X G λF=>VX (n:=3) F (i.mono<|by decide) (v7.mono<|by decide) (T.mono<|by decide) c d og;have q22:=Y.cal (P:=l.prog) (w:=w) (base:=base) X G λF=>WA (n:=4) F (zg.mono<|by decide) (q29.mono<|by decide) (q30.mono<|by decide) f d x fm wj wo vn;have D:=d23.cal (P:=l.prog) (w:=w) (base:=base) X G λF=>WC (n:=3) F (zg.mono<|by decide) (v7.mono<|by decide) (o.mono<|by decide) f aw d;have q24:=d24.cal (P:=l.prog) (w:=w) (base:=base) X G λF=>WD (n:=3) F (v7.mono<|by decide);have q32:=d32.cal (P:=l.prog) (w:=w) (base:=base) X G λF=>UT (n:=0) F jh;have q31:=d31.cal (P:=l.prog) (w:=w) (base:=base) X G λF=>UU (n:=1) F (q32.mono<|by decide) bm;have q33:=d33.cal (P:=l.prog) (w:=w) (base:=base) X G λF=>UQ (n:=0) F;have q34:=M.cal (P:=l.prog) (w:=w) (base:=base) X G λF=>UP (n:=0) F c;have y:=d35.cal (P:=l.prog) (w:=w) (base:=base) X G λF=>VF (n:=1) F (q34.mono<|by decide) f c d;have q36:=d36.cal (P:=l.prog) (w:=w) (base:=base) X G λF=>WJ (n:=0) F c;have q37:=d37.calR (P:=l.prog) (w:=w) (base:=base) X G λF b k a=>YN (n:=3) F b k a (q36.mono<|by decide) (q20.mono<|by decide) f;exact(QL (n:=13) F0 (q33.mono<|by decide) (y.mono<|by decide) (q22.mono<|by decide) (D.mono<|by decide) (q11.mono<|by decide) (q37.mono<|by decide) (q24.mono<|by decide) (q31.mono<|by decide) c bw).mono<|by decide
def walk{l:PySem.W.OpenLaw}{q:lJ}{j:oA Str}{p:(Str->oB lE)->lN->Prop}{e:lK->lN->Prop}{d:DefRec}{K:Params->lI}(o:l.most=some 63)(t:d.params.defaults=[])
  (v:∀(w:lK) (h:lN),e w h->(K w.params).In h) (F:∀(w:lK) (c:Str->oB lE) (i:lH) (h:lN),(K w.params).In h->h.Ns mainGlobals c->c d.name=some (.ref i) ->
   ∃g:lQ,(∀(s:lF) (u:lE),BindsTo s g ⟨[u],[]⟩ [("_law_script",u)])/\∀b:lN,(K w.params).In b->b.Ns mainGlobals c->FnOk l.prog w (K w.params) c b Dm 65 i g oX (Vw<|K w.params)) :
  PySem.W.WalkO q j p e l.row.toRowW d [] (λf A=>PySem.call f A) :=
 L2.walk_of (n:=63) (k:=65) (x := "_law_script") (CX:=λ_=>Dm) (sp:=λw=>Vw<|K w.params) o (by decide) t ⟨rfl,by decide,by decide,rfl⟩ v F (λ_ _ a ns r y m=>⟨a,ns,rfl,m,y,r,λ_=>rfl⟩) λ_ _ _ _ _ z=>z
end K85
namespace PySem.W.Fast
def tw229724987118433270:True:=trivial
def tw7409733439820832300:True:=trivial
def tw16359184670685876504:True:=trivial
def tw5138944682381006299:True:=trivial
def tw14184757428023601034:True:=trivial
def tw1149501050145490548:True:=trivial
def tw3050725908019262124:True:=trivial
def tw5378373545263193883:True:=trivial
def tw11494470083076070019:True:=trivial
def tw1097189802628230043:True:=trivial
def tw7198897991028291260:True:=trivial
def tw17013370827032796669:True:=trivial
def tw15382436066257745720:True:=trivial
def tw11167069152379540674:True:=trivial
def tw17075002455356910911:True:=trivial
def tw6980957767244681621:True:=trivial
def tw7376686144223836857:True:=trivial
def tw16868796284421911782:True:=trivial
def tw17846157384897290915:True:=trivial
def tw17236715671214019035:True:=trivial
def tw18277077744208799577:True:=trivial
def tw32074867292767731:True:=trivial
def tw3214604027760473440:True:=trivial
def tw17723198934659029254:True:=trivial
def tw5863824537217157782:True:=trivial
def tw13256571327928563599:True:=trivial
def tw10442097464712469190:True:=trivial
def tw2766086103076207250:True:=trivial
def tw12913025241162572457:True:=trivial
def tw11417672755215284471:True:=trivial
def tw10755225990467017937:True:=trivial
def tw11926239245472046800:True:=trivial
def tw8276558456969061669:True:=trivial
def tw2166325072648316816:True:=trivial
def tw12381209016024977524:True:=trivial
def tw699465354492286393:True:=trivial
def tw15779526152829434241:True:=trivial
def tw374469225373835448:True:=trivial
def tw4772840958635046957:True:=trivial
def tw9502199264440137703:True:=trivial
def tw1214564733426370929:True:=trivial
def tw13679998633887166604:True:=trivial
def tw15294040485467273911:True:=trivial
def tw16915458561307976924:True:=trivial
def tw16978303049496252299:True:=trivial
def tw13596664196459979753:True:=trivial
def tw15201594424233663285:True:=trivial
def tw10743095002775797812:True:=trivial
def tw2713783656037017509:True:=trivial
def tw6056658442883596305:True:=trivial
def tw8009208558792176253:True:=trivial
def tw12374047969299111338:True:=trivial
def tw14672856084082509675:True:=trivial
def tw14037154843056572829:True:=trivial
def tw2951087118638332195:True:=trivial
def tw15507087545416830975:True:=trivial
def tw12306812882511445111:True:=trivial
def tw3159049970064829444:True:=trivial
def tw6685076073527038104:True:=trivial
def tw12335247180527302126:True:=trivial
def tw17720565387244954411:True:=trivial
def tw5637683057718873430:True:=trivial
def tw10224781004947342185:True:=trivial
def tw10974077035902723313:True:=trivial
def tw9551808944226263763:True:=trivial
def tw7309791868635491171:True:=trivial
def tw8821723497947494223:True:=trivial
def tw9716329468337298109:True:=trivial
def tw17030042321340692259:True:=trivial
def tw11684071219812720656:True:=trivial
def tw10464168806676310557:True:=trivial
def tw15028214006441190098:True:=trivial
def tw18054329688338051753:True:=trivial
def tw3135995832536628646:True:=trivial
def tw10804757447729316755:True:=trivial
def tw7180922673455971757:True:=trivial
def tw16483366705611769324:True:=trivial
def tw15998135757881642938:True:=trivial
def tw12891882966134049566:True:=trivial
def tw212649664640199383:True:=trivial
def tw7325864834649284590:True:=trivial
def tw2295173910301184667:True:=trivial
def tw8451397965028329006:True:=trivial
def tw15525609916273068056:True:=trivial
def tw15804102264615226795:True:=trivial
def tw15160525065945999246:True:=trivial
def tw16188351593899994228:True:=trivial
def tw17297202423846507224:True:=trivial
def tw2840324455576708385:True:=trivial
def tw6168186422381891538:True:=trivial
def tw13130976316753739202:True:=trivial
def tw14282980379286177466:True:=trivial
end PySem.W.Fast
open PySem PySem.W PyProof.Rows
set_option maxRecDepth 100000 in
set_option maxHeartbeats 0 in
theorem PySem.Challenge.cw_pileduel_k85_whole_programs_marked_by_th_holds : PySem.Challenge.rw_pileduel_k85_whole_programs_marked_by_th.Holds := by
 w_on;o_law;k_head;(case hw=>w_witness2)
 k_fill
 refine K85.walk (l:=PySem.Challenge.rw_pileduel_k85_whole_programs_marked_by_th) rfl rfl (fun w h Y=>PySem.W.kIn_of Y) ?F
 case F =>
  intro w mg fa h KX G hmg
  refine' K85.all_mk KX G hmg ?_ ?_ ?_ ?_ ?_ ?_ ?_ ?_ ?_ ?_ ?_ ?_ ?_ ?_ ?_ ?_ ?_ ?_ ?_ ?_ ?_ ?_ ?_ ?_ ?_ ?_ ?_ ?_ ?_ ?_ ?_ ?_ ?_ ?_ ?_ ?_ ?_ ?_ ?_ ?_ ?_ ?_ ?_ ?_ ?_ ?_ ?_ ?_ ?_ ?_ ?_ ?_ ?_ ?_ ?_ ?_ ?_ ?_ ?_ ?_ ?_
  all_goals first | (refine' K85.defat ?a ?l ?c ?k;(case a=>k_is);(case l=>k_is);(case c=>k_is);(case k=>k_is)) | (refine' K85.defad ?a ?l ?c ?k ?l2;(case a=>k_is);(case l=>k_is);(case c=>k_is);(case k=>k_is);(case l2=>k_is)) | k_is | skip
