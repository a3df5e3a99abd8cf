import PyProof.Rows.All
import Wide.All
import OpenK.AllK
import Wide.FinOn
import Lean
import PyProof.EqAt
import PyProof.EqKinds
import PyProof.TupleCall
import PyProof.CompFree
import PyProof.CompUse
import PyProof.CollectIter
import PyProof.ListNew
import KE.KRevIter
import PyProof.EnumMake
import PyProof.Draws
import PyProof.TupleIter
import PyProof.WalksMore
import PyProof.ReprRoads
import PyProof.P3Eq
import PyProof.NeData
import PyProof.EqLayable
import PyProof.Rows.RegFStrParts
import PyProof.AutoListH
import KE.KItemsList
import KE.KDictList
import PyProof.StrBlockG
import PyProof.StrLawsOcc
import PyProof.StrLawsTight
import PyProof.StrLawsChain
import PyProof.Rows.Range3
import PyProof.MinMaxWalk
import PyProof.WalkInts
import PyProof.ExcClass3
import PyProof.ExcInit
import PyProof.InstStoreFacts
import PyProof.ExcArgsOwn
import KE.KIsAll
import PyProof.RaisesMany
import PyProof.RulesTry
import PyProof.Raises
import PyProof.RulesAs
import PyProof.NsDelKeeps
import PyProof.PassesOwn
import PyProof.Rows.CatchHere
import KE.KSortTup
import PyProof.FactsAll.tuple_2
import PyProof.TupleKey
import PyProof.Rows.RowHeap
import PyProof.SetKind
import PyProof.SetNew
import PyProof.DictIter
import PyProof.CollectWalk
import PyProof.Walks
import PyProof.ZipIter
import KE.KRevSl
import KE.KStateDown
import PyProof.SetRoads
import PyProof.SumWalk
import PyProof.CallStr
import PyProof.FactsAll.tuple_3
import PyProof.StrLawsIn
import PyProof.Rows.RuleM_int
import PyProof.FactsAll.dict_3
import KE.KItemsList
import PyProof.Rows.TupDisplay
import PyProof.FactsAll.dict_itemiterator_1
import PyProof.DictWalks
import PyProof.IsiH_list
import KE.KDictOf
import KE.KSortKey
import KE.KLam
import PyProof.TupleOfSeq
import PyProof.Rows.CallKwBuiltin
import PyProof.OldK
import KE.KMinBuiltin
import PySem.Challenge.RW_pileduel_k45_whole_within_and_machine
set_option Elab.async false
set_option linter.all false
set_option compiler.extract_closed false
set_option maxRecDepth 100000
def A_:=@PySem.wpAny_bind
def B_:=@List.length_map
def C_:=@PySem.wpAny_pure
def DD:=@PySem.Heap.get?_push_of_some
def D_:=@List.getElem?_eq_some_iff
def E_:=@List.mem_map
def F_:=@Nat.le_refl
def G_:=@Nat.le_trans
def H_:=@Option.map_eq_some_iff
def I_:=@List.mem_singleton
def J_:=@List.getElem?_eq_getElem
def K_:=@PySem.Heap.get?_push_size
def L_:=@List.getElem?_map
def M_:=@List.map_append
def N_:=@PySem.Heap.lt_size
abbrev O_:=@if_neg
def P_:=@List.length_append
def Q_:=@List.mem_append
def R_:=@List.size_toArray
def S_:=@Nat.lt_of_lt_of_le
abbrev T_:=@if_pos
def U_:=@PyProof.Rows.wpS_bind
def V_:=@Bool.false_ne_true
def W_:=@PyProof.Rows.wpS_pure
def X_:=@List.mem_of_getElem?
def Y_:=@List.mem_append_left
def Z_:=@Nat.ne_of_lt
def aA:=@PySem.PassesOwn.never
def aB:=@List.take_length
def aC:=@PySem.wpAny_newObj_type
def aD:=@List.mem_cons
abbrev aE:=@of_decide_eq_true
def aF:=@List.map_map
def aG:=@List.take_succ
abbrev aH:=@decide_eq_false
def aJ:=@List.mem_cons_of_mem
def aK:=@List.mem_append_right
def aL:=@PySem.Heap.SameBut.update
def aM:=@PySem.wpAny_mono
def aN:=@Nat.zero_le
def aO:=@PySem.wpAny_call_entry
def aP:=@PySem.Heap.get?_update_self
abbrev aQ:=@decide_eq_true
def aR:=@Option.some.inj
def aS:=@List.map_cons
def aU:=@PySem.wpAny_callSpecial?_slot
def aV:=@Bool.and_eq_true
def aW:=@List.mem_cons_self
def aX:=@PySem.boot_len
def aY:=@List.nodup_append
def aZ:=@List.any_eq_true
def a_:=@List.getD_eq_getElem?_getD
def bA:=@PySem.Calls.spliced_cons
def bB:=@PySem.Paired.length
def bC:=@List.drop_eq_getElem_cons
def bD:=@List.length_take
def bE:=@List.length_cons
def bF:=@PyProof.Rows.boot_tuple
def bG:=@PyProof.Rows.callWith_type1
def bH:=@List.mem_filter
def bI:=@PySem.Heap.get?_update_other
def bJ:=@List.nodup_nil
def bK:=@Nat.le_succ_of_le
abbrev bL:=@decide_eq_true_iff
def bM:=@PySem.W.mg_none_of
def bN:=@Array.getElem?_eq_getElem
abbrev bO:=@Classical.byContradiction
def bP:=@Array.getElem?_toList
def bQ:=@PySem.wpAny_field
def bR:=@List.all_eq_true
def bS:=@PySem.wpAny_holding
def bT:=@PySem.wpAny_Call_Name_kw
def bU:=@Nat.le_succ
def bV:=@PySem.F.slot_list_append
def bW:=@PySem.F.type_list_append
abbrev bX:=@Ne.symm
def bY:=@PySem.Calls.spliced_nil
def bZ:=@Nat.lt_succ_of_lt
abbrev b_:=@congrArg
def cB:=@List.length_filter_le
def cD:=@List.eq_nil_of_length_eq_zero
def cF:=@Nat.lt_irrefl
abbrev cH:=@Exists.elim
def cJ:=@List.take_of_length_le
def cK:=@Nat.lt_of_succ_lt
def cL:=@PyProof.Rows.slot_tuple_getitem
def cP:=@List.append_nil
def cQ:=@List.nodup_cons
def cU:=@List.getElem?_append_right
def cV:=@PySem.Around.under_plainId
def cW:=@List.getElem?_append_left
def cX:=@Nat.le_of_lt
def cY:=@PySem.Obj.data_mapFields
def cZ:=@List.mem_range
def c_:=@PySem.Heap.size_push
def dA:=@Option.isSome_iff_exists
def dB:=@List.length_drop
def dC:=@List.lookup_cons
def dD:=@List.drop_length
def dE:=@List.mem_flatMap
def dF:=@Array.length_toList
def dG:=@PySem.builtinLookup_eq_fast
def dH:=@PySem.wpAny_dictEntries
def dI:=@PySem.wpAny_specialOf
def dJ:=@Nat.ne_of_gt
def dL:=@Nat.le_add_right
def dM:=@PySem.wpAny_rule
def dN:=@PySem.wpAny_truthy_bool
def dO:=@PySem.plainId_quiet
def dP:=@PySem.wpAny_seqItems
def dQ:=@PySem.wpAny_attempt
def dS:=@PySem.wpAny_updateSeq
def dU:=@Int.natCast_nonneg
def dW:=@PySem.wpAny_isInstance
def dX:=@List.any_cons
def dY:=@Int.toNat_natCast
def dZ:=@PySem.wpAny_setField
def d_:=@Array.toList_append
def eB:=@List.map_congr_left
def eC:=@PySem.wpAny_of_eq
def eD:=@PySem.codeAny_builtin
def eE:=@Nat.lt_succ_self
def eF:=@PySem.wpAny_setField_rec
def eG:=@PySem.Heap.size_update
def eI:=@PySem.wpAny_typeNameOfWhole_itemiter
def eJ:=@PySem.W.mg_of
def eK:=@PySem.wpAny_letGo
def eL:=@PySem.wpAny_typeNameOfWhole_keyiter
def eM:=@PySem.wpAny_fieldsOf
def eO:=@List.length_range
def eQ:=@Bool.or_eq_true
def eT:=@PySem.typeLookup_type
def eU:=@PySem.wpAny_dictEpoch
def eV:=@PyProof.Rows.wpS_modify
def eX:=@List.getElem_of_mem
def eY:=@Nat.succ.inj
def eZ:=@List.getElem_mem
def e_:=@PySem.tupleKind_room_in1
def fA:=@Nat.lt_of_le_of_lt
def fB:=@Array.forIn_toList
def fC:=@PySem.wpAny_tryCatch
def fD:=@List.getElem?_eq_none
def fE:=@PySem.Obj.isFreed_of_fields
def fF:=@PySem.wpAny_typeNameOf_itemiter
def fG:=@List.exists_mem_of_ne_nil
def fH:=@PySem.wpAny_passesOwn
def fI:=@List.of_mem_zip
def fJ:=@Bool.eq_iff_iff
def fK:=@List.foldl_cons
def fL:=@List.take_sublist
def fM:=@PySem.wpAny_pyIter_list
def fN:=@Nat.lt_or_ge
def fO:=@PySem.wpAny_pyIter_slot
def fP:=@List.mem_of_mem_take
def fQ:=@PySem.wpAny_typeNameOf_keyiter
def fS:=@PyProof.Rows.boot_sorted
def fU:=@Int.ofNat.inj
def fV:=@List.sum_cons
def fW:=@PySem.mem_of_lookup
def fX:=@List.length_reverse
def fY:=@PySem.F.plainAttrs_dict
def fZ:=@PySem.wpAny_getItem_str_slice
def f_:=@List.drop_zero
def gA:=@PyProof.Rows.wpS_mono
def gB:=@PySem.wpAny_typeNameOfWhole_valiter
def gC:=@PySem.Calls.callWith_builtin
def gD:=@Nat.le_of_eq
def gE:=@List.filter_append
def gF:=@Array.getElem?_eq_none
def gG:=@PySem.wpAny_isOneOf_itemiter
def gH:=@PyProof.Rows.wpS_forRange
def gI:=@PyProof.Rows.listUpdate_at
def gJ:=@PySem.wpAny_notOrdered_dict
def gK:=@PyProof.Rows.boot_all
abbrev gL:=@Sum.inl.inj
def gM:=@Int.le_refl
def gN:=@Nat.succ_ne_self
def gO:=@List.filter_cons
def gP:=@Int.emod_eq_emod_iff_emod_sub_eq_zero
def gQ:=@Nat.succ_le_succ
def gR:=@List.extract_eq_take_drop
abbrev gS:=@beq_eq_false_iff_ne
def gU:=@Nat.add_le_add_left
def gV:=@List.length_pos_iff
def gW:=@PySem.F.args_tuple_add_2
def gX:=@PySem.F.slot_dict_itemiterator_iter
def gY:=@Nat.lt_succ_iff_lt_or_eq
def gZ:=@PySem.F.slot_list_extend
def g_:=@PySem.F.type_list_extend
def hJ:=@PySem.wpAny_execs_nil
def hX:=@PySem.wpAny_loadPart'
def h_:=@Nat.min_eq_left
def iA:=@PyProof.Rows.get?_update_seq
def iB:=@Int.emod_nonneg
def iC:=@PyProof.Rows.assignInOrder_cons
def iD:=@PySem.wpAny_pyIter_tuple
def iE:=@Nat.pos_of_ne_zero
def iF:=@PySem.F.entry_tuple_add
def iG:=@PySem.Paired.snoc
def iH:=@List.getElem?_cons_succ
def iI:=@PySem.W.cellsFrom_some
def iJ:=@PySem.F.slot_tuple_add
def iK:=@PySem.wpAny_typeOf
def iL:=@List.reverse_cons
def iM:=@Option.isSome_map
def iN:=@PySem.call_meetsIn
def iO:=@PySem.isSubtype_type
def iP:=@List.ext_getElem?
def iQ:=@PySem.Obj.cls_mapFields
def iR:=@PySem.WalksT.enumerateD
def iS:=@PySem.wpAny_pyIter_enum
def iT:=@Nat.sub_zero
def iU:=@Nat.zero_add
def iV:=@List.append_assoc
def iW:=@PySem.isSubtype_stop
def iX:=@PySem.eqIsQuiet_byValue
def iY:=@PyProof.Rows.wpS_get
def iZ:=@List.length_singleton
def i_:=@PySem.F.slot_dict_get
def jA:=@PySem.wpAny_isOneOf_keyiter
def jB:=@PySem.wpAny_isOneOf_valiter
def jC:=@PyProof.Rows.boot_max
def jD:=@PySem.SeqAt.eqAt_reads
def jE:=@Nat.not_lt_of_le
def jF:=@Nat.sub_le
def jG:=@Array.toList_zip
abbrev jH:=@decide_eq_decide
def jI:=@Nat.min_eq_right
def jJ:=@PySem.wpAny_handled
def jK:=@PySem.Calls.evalArgs_plain
def jL:=@List.length_dropLast
def jM:=@Array.toList_extract
def jN:=@List.mem_of_mem_drop
def jO:=@Nat.mul_le_mul_right
def jP:=@PySem.post_val_or_str
def jQ:=@List.filterMap_cons
def jR:=@List.filter_sublist
def jS:=@Nat.not_lt
def jT:=@PySem.wpAny_tupleItemsOf
def jU:=@PySem.wpAny_newTuple
def jV:=@Int.emod_lt_of_pos
def jW:=@PySem.wpAny_throw
def jX:=@PySem.Heap.SameBut.refl
def jY:=@PyProof.Rows.seqEpoch_at
def jZ:=@Bool.not_eq_true'
def j_:=@List.flatten_cons
abbrev kC:=@Iff.rfl
def kD:=@Bool.false_or
def kE:=@PySem.wpAny_newList
def kF:=@PySem.noFill_tuple_add
def kG:=@PySem.wpAny_Dict_empty
def kH:=@Nat.le_of_not_lt
abbrev kI:=@beq_self_eq_true
def kJ:=@PySem.wpAny_forIn_list
def kK:=@PyProof.Rows.wpS_lift
def kL:=@List.map_snd_zip
def kM:=@List.mem_flatten
def kN:=@PySem.Txt.slice_le
def kO:=@PySem.Walks.list
def kP:=@Nat.sub_self
def kQ:=@Nat.sub_lt
def kU:=@Int.zero_add
def kW:=@Int.ofNat_lt
def kX:=@PySem.sizeLine_eq
abbrev kY:=@Prod.ext
abbrev kZ:=@PySem.Value
abbrev k_:=@PySem.Shared
abbrev lA:=@PySem.PyData
abbrev lB:=@PySem.Addr
abbrev lC:=@PySem.W.Frag
abbrev lD:=@PySem.Program
abbrev lE:=@PySem.World
abbrev lF:=@PySem.Expr
abbrev lG:=@PySem.Around
abbrev lH:=@PySem.Heap
abbrev lI:=@PySem.Obj
abbrev lJ:=@PySem.Stmt
abbrev lK:=@PySem.FuncData
abbrev lL:=@PyProof.Rows.Keyed
abbrev lM:=@PySem.Scope
abbrev lN:=@PySem.NameKind
abbrev lO:=@PySem.Result
abbrev lP:=@PyProof.Rows.SortSt
abbrev lQ:=@PyProof.Rows.SortKind
abbrev oA:=List
abbrev oB:=Option
abbrev oC:=Array
def oH{α:Type}{a:α}{p:Prop}:a=a∨p:=.inl rfl
def oI{α:Type}{a:α}{p:Prop}:p∨a=a:=.inr rfl
abbrev yL{α:Type}(p:PySem.Program)(w:PySem.World):=@PySem.wpAny α<|PySem.model p w
namespace L2
def Mz{c:Sort _}{a b:c->Prop}{P:Prop}(h:∃x,a x/\b x)(k:∀x,a x->b x->P):P:=cH h λx y=>k x y.1 y.2
def C8{e d:Sort _}{a b c:e->d->Prop}{P:Prop}(h:∃x y,a x y/\b x y/\c x y)(k:∀x y,a x y->b x y->c x y->P):P:=cH h λx h=>cH h λy h=>k x y h.1 h.2.1 h.2.2
def B4{g f e:Sort _}{a b c d:g->f->e->Prop}{P:Prop}(h:∃x y z,a x y z/\b x y z/\c x y z/\d x y z)(k:∀x y z,a x y z->b x y z->c x y z->d x y z->P):P:=cH h λx h=>cH h λy h=>cH h λz h=>k x y z h.1 h.2.1 h.2.2.1 h.2.2.2
def Er{j g f i:Sort _}{a b c d e:j->g->f->i->Prop}{P:Prop}(h:∃x y z u,a x y z u/\b x y z u/\c x y z u/\d x y z u/\e x y z u)(k:∀x y z u,a x y z u->b x y z u->c x y z u->d x y z u->e x y z u->P):P:=cH h λx h=>cH h λy h=>cH h λz h=>cH h λu h=>k x y z u h.1 h.2.1 h.2.2.1 h.2.2.2.1 h.2.2.2.2
def J6{l i g j:Sort _}{a b c d e f:l->i->g->j->Prop}{P:Prop}(h:∃x y z u,a x y z u/\b x y z u/\c x y z u/\d x y z u/\e x y z u/\f x y z u)(k:∀x y z u,a x y z u->b x y z u->c x y z u->d x y z u->e x y z u->f x y z u->P):P:=cH h λx h=>cH h λy h=>cH h λz h=>cH h λu h=>k x y z u h.1 h.2.1 h.2.2.1 h.2.2.2.1 h.2.2.2.2.1 h.2.2.2.2.2
def Ge{j g f i e l:Sort _}{a b c d:j->g->f->i->e->l->Prop}{P:Prop}(h:∃x y z u v w,a x y z u v w/\b x y z u v w/\c x y z u v w/\d x y z u v w)(k:∀x y z u v w,a x y z u v w->b x y z u v w->c x y z u v w->d x y z u v w->P):P:=cH h λx h=>cH h λy h=>cH h λz h=>cH h λu h=>cH h λv h=>cH h λw h=>k x y z u v w h.1 h.2.1 h.2.2.1 h.2.2.2
open PySem PySem.Spec PyProof.Rows
abbrev Key:=Sum Int Str
def Ki:Key->kZ->Bool
 |.inl k,v=>Value.isInt k v
 |.inr x,v=>Value.isStrOf x v
def FI(w:lE):Key->Int
 |.inl k=>hashInt k
 |.inr x=>hashStr w x
def keyIs_shape:∀{k:Key} {v:kZ},Ki k v=true->(∃i t,k=Sum.inl i/\v=Value.int i t)\/(∃x t,k=Sum.inr x/\v=Value.str x t)
 |.inl i,v,h=>by obtain⟨t,e⟩:=Value.isInt_shape (k:=i) (v:=v) h;exact .inl ⟨i,t,rfl,e⟩
 |.inr x,v,h=>by obtain⟨t,e⟩:=Value.isStrOf_shape (x:=x) (v:=v) h;exact .inr ⟨x,t,rfl,e⟩
def Sn(i:Int)(t:Tok):Ki (.inl i) (.int i t)=true:=by simp[Ki,Value.isInt]
def So(x:Str)(t:Tok):Ki (.inr x) (.str x t)=true:=by simp[Ki,Value.isStrOf]
def FJ(a b:Int):decide ((Sum.inl a:Key)=Sum.inl b)=(a==b):=by by_cases e:a=b;subst e;simp;have h:¬(Sum.inl a:Key)=Sum.inl b:=λq=>e<|gL q;rw[aH h];exact(gS.mpr e).symm
def FK(a b:Str):decide ((Sum.inr a:Key)=Sum.inr b)=decide (a=b):=by by_cases e:a=b;subst e;simp;have h:¬(Sum.inr a:Key)=Sum.inr b:=λq=>e<|Sum.inr.inj q;rw[aH h,aH e]
def FL(a:Int)(b:Str):decide ((Sum.inl a:Key)=Sum.inr b)=false:=aH (λq=>nomatch q)
def FM(a:Str)(b:Int):decide ((Sum.inr a:Key)=Sum.inl b)=false:=aH (λq=>nomatch q)
def Bo(prog:lD)(w:lE):PySem.KeyKind prog w Key where
 is:=Ki
 hash:=FI w
 inj:=λv a b ha hb=>by rcases keyIs_shape ha with⟨i,t,rfl,rfl⟩|⟨x,t,rfl,rfl⟩;rcases keyIs_shape hb with⟨j,u,rfl,e⟩|⟨y,u,rfl,e⟩;injection e with e1 _;rw[e1];exact nomatch e;rcases keyIs_shape hb with⟨j,u,rfl,e⟩|⟨y,u,rfl,e⟩;exact nomatch e;injection e with e1 _;rw[e1]
 byValue:=λk v h=>by rcases keyIs_shape h with⟨i,t,rfl,rfl⟩|⟨x,t,rfl,rfl⟩<;>rfl
 pyHash:=λhv h=>by rcases keyIs_shape hv with⟨i,t,rfl,rfl⟩|⟨x,t,rfl,rfl⟩;exact wpAny_pyHash_int h;exact wpAny_pyHash_str h
 eqBool:=λhu hv h=>by rcases keyIs_shape hu with⟨i,t,rfl,rfl⟩|⟨x,t,rfl,rfl⟩;rcases keyIs_shape hv with⟨j,u,rfl,rfl⟩|⟨y,u,rfl,rfl⟩;rw[FJ]at h;exact wpAny_eqBool_int h;rw[FL]at h;exact SeqAt.EqAt.int_str i t y u _ _ _ _ h;rcases keyIs_shape hv with⟨j,u,rfl,rfl⟩|⟨y,u,rfl,rfl⟩;rw[FM]at h;exact SeqAt.EqAt.str_int x t j u _ _ _ _ h;rw[FK]at h;exact wpAny_eqBool_str h
 «strs»:=λk x t v h=>by rcases keyIs_shape h with⟨i,u,rfl,e⟩|⟨y,u,rfl,e⟩;exact nomatch e;injection e with e1 _;subst e1;cases v<;>rfl
def Fg(prog:lD)(w:lE)(i:Int)(t:Tok):(Bo prog w).is (.inl i) (.int i t)=true:=Sn i t
def Fh(prog:lD)(w:lE)(x:Str)(t:Tok):(Bo prog w).is (.inr x) (.str x t)=true:=So x t
end L2
namespace L2
open PySem PySem.Spec PyProof.Rows
inductive V where
 |non|bl (b:Bool)|int (i:Int)|str (x:Str)|byt (b:oC UInt8)|flt (b:UInt64)|ref (a:lB)|ty (n:String)
 deriving DecidableEq
def Bf:V->kZ->Prop
 |.non,u=>u=Value.none
 |.bl b,u=>u=Value.bool b
 |.int i,u=>∃t,u=Value.int i t
 |.str x,u=>∃t,u=Value.str x t
 |.byt b,u=>∃t,u=Value.bytes b t
 |.flt b,u=>∃t,u=Value.float b t
 |.ref a,u=>u=Value.ref a
 |.ty n,u=>u=Value.type n
abbrev Vals:oA V->oA kZ->Prop:=Paired Bf
def Vals.length{xs:oA V}{us:oA kZ}(r:Vals xs us):xs.length=us.length:=bB r
theorem Vals.get:∀{xs:oA V} {us:oA kZ} {i:Nat} {x:V},Vals xs us->xs[i]?=some x->∃u,us[i]?=some u/\Bf x u
 |_,_,_,_,.nil,e=>by simp at e
 |_,_,0,_,.cons r _,e=>by simp at e;subst e;exact⟨_,rfl,r⟩
 |_,_,i+1,x,.cons _ t,e=>by obtain⟨u,h1,h2⟩:=Vals.get (i:=i) (x:=x) t (by simpa using e);exact⟨u,by simpa using h1,h2⟩
theorem Vals.append:∀{xs ys:oA V} {us a:oA kZ},Vals xs us->Vals ys a->Vals (xs++ys) (us++a)
 |_,_,_,_,.nil,s=>s
 |_,_,_,_,.cons r t,s=>.cons r<|Vals.append t s
theorem Vals.take:∀{xs:oA V} {us:oA kZ} (n:Nat),Vals xs us->Vals (xs.take n) (us.take n)
 |_,_,0,_=>.nil
 |_,_,_+1,.nil=>.nil
 |_,_,n+1,.cons r t=>.cons r<|Vals.take n t
theorem Vals.drop:∀{xs:oA V} {us:oA kZ} (n:Nat),Vals xs us->Vals (xs.drop n) (us.drop n)
 |_,_,0,r=>r
 |_,_,_+1,.nil=>.nil
 |_,_,n+1,.cons _ t=>Vals.drop n t
def Ho:oB V->oB kZ->Prop
 |some v,some u=>Bf v u
 |none,none=>True
 |_,_=>False
def KV{a:Type}:oA (a×V)->oA (a×kZ)->Prop:=Paired λ(p:a×V) (q:a×kZ)=>p.1=q.1/\Bf p.2 q.2
def kV:Key->V
 |.inl i=>.int i
 |.inr x=>.str x
mutual
def Kj(w:lE):lA->Int
 |.int i=>FI w (.inl i)
 |.str x=>FI w (.inr x)
 |.tuple a=>reduceHash (Builtin.Tuple.tupleHashOf<|Dv w a)
 |_=>0
def Dv(w:lE):oA lA->oA Int
 |[]=>[]
 |d::a=>Kj w d::Dv w a
end
def UW(w:lE)(x:lA×lB×kZ):DictEntry:=⟨Kj w x.1,.ref x.2.1,x.2.2⟩
def UX(w:lE)(h:lH)(a:lB)(xs:oA<|lA×lB×kZ):Prop :=
 ∃o b c,h.get? a=some o/\o.ExactDict/\o.data=.dict b c/\b.toList=xs.map (UW w)/\(xs.map (·.1)).Nodup/\(a==sysModules)=false/\xs.length<=sizeLine
inductive HO where
 |lst (xs:oA V)
 |tup (xs:oA V)
 |dK (kvs:oA<|Key×V)|dT (kvs:oA<|oA Key×V)
 |set (S:Int->Bool) (n:Nat)
 |ins (C dx:lB) (fs:oA<|Str×V)
 |own (x:lB)
 |xd (fs:oA<|Str×V)
 |met (f x:lB)
 |rng (lo hi:Int)
 |frz (o:lI) (u:HO)
 |tbl (ps:oC kZ)
 |ext (φ:lH->Prop)
 |dd (xs:oA<|lA×lB×kZ)
abbrev Hp:=lB->oB HO
def upd(H:Hp)(a:lB)(o:HO):Hp:=λb=>if b=a then some o else H b
def A6{H:Hp}{a:lB}{o:HO}:upd H a o a=some o:=by unfold upd;rw[T_ rfl]
def An{H:Hp}{a b:lB}{o:HO}(h:b≠a):upd H a o b=H b:=by unfold upd;rw[O_ h]
def M3{H:Hp}{a b:lB}{o u:HO}(h:H a=some o)(h':H b=some u)(d:o≠u):a≠b:=by intro e;subst e;rw[h]at h';exact d<|aR h'
def B6{H:Hp}{a b:lB}{o:HO}(h:H a=some o)(h':H b=none):a≠b:=by intro e;subst e;rw[h]at h';cases h'
section
variable(P:lD)(w:lE)
def Bs(H:Hp)(h:lH)(a:lB):HO->Prop
 |.lst b=>b.length<=sizeLine/\∃(e:oA kZ) (n:Nat),Vals b e/\h.get? a=some {cls:=.type "list",data:=.seq e.toArray n}
 |.tup b=>b.length<=sizeLine/\∃e:oA kZ,Vals b e/\IsTup h a e.toArray
 |.dK c=>c.length<=sizeLine/\(a==sysModules)=false/\∃k,KV c k/\h.DictOf (Bo P w) a k
 |.dT c=>c.length<=sizeLine/\(a==sysModules)=false/\∃b:oA<|oA Key×lB×kZ,
   Paired (λ(p:oA Key×V) (q:oA Key×lB×kZ)=>p.1=q.1/\H q.2.1=some (.tup<|p.1.map kV)/\Bf p.2 q.2.2) c b /\
   ∃o l r,h.get? a=some o/\o.ExactDict/\o.data=.dict l r/\l.toList=b.map (entryOfKey<|tupleKind<|Bo P w)/\(b.map (·.1)).Nodup
 |.set S n=>h.SetOf (intKind P w) a S n
 |.ins C i g=>H i=some (.own a)/\g.length<=1000/\i≠a/\h.get? a=some (PySem.W.instObj C i) /\
   ∃d,h.Ns1 i d/\(∀f,Ho (g.lookup f)<|d f)/\PySem.Within d (g.map (·.1))
 |.own _=>∃o,h.get? a=some o
 |.xd g=>∃d,h.Ns1 a d/\∀f,Ho (g.lookup f) (d f)
 |.rng lo hi=>∃t u v,h.get? a=some {cls:=.type "range",data:=.fields #[.int lo t,.int hi u,.int 1 v]}
 |.frz o u=>h.get? a=some o/\Bs H h a u
 |.tbl m=>h.get? a=some {cls:=.none,data:=.fields m}
 |.met f x=>h.get? a=some (PySem.W.methodObj (.ref f)<|.ref x)
 |.ext j=>j h/\(∃o,h.get? a=some o)/\∀h1 h2:lH,j h1->(∀o,h1.get? a=some o->h2.get? a=some o)->j h2
 |.dd b=>UX w h a b
def HOk(H:Hp)(h:lH):Prop:=∀a o,H a=some o->Bs P w H h a o
end
section
variable {P:lD}{w:lE}{H H':Hp}{h h':lH}{a:lB}{o:HO}{x e:lB}{o':HO}{fs fs' ex ex':oA lB}{H1 H2:Hp}{h1 h2:lH}
theorem Bs.lt(x:Bs P w H h a o):a<h.objs.size:=by
 cases o with
 |lst c=>obtain⟨_,_,_,_,e⟩:=x;exact N_ e
 |tup c=>obtain⟨_,_,_,p⟩:=x;exact p.lt
 |dK b=>obtain⟨_,_,_,_,o,_,_,e,_⟩:=x;exact N_ e
 |dT b=>obtain⟨_,_,_,_,o,_,_,e,_⟩:=x;exact N_ e
 |set S n=>obtain⟨o,_,_,_,e,_⟩:=x;exact N_ e
 |ins C i fs=>obtain⟨_,_,_,e,_⟩:=x;exact N_ e
 |own y=>obtain⟨_,e⟩:=x;exact N_ e
 |xd fs=>obtain⟨_,⟨_,_,_,e,_⟩,_⟩:=x;exact N_ e
 |rng lo hi=>obtain⟨_,_,_,e⟩:=x;exact N_ e
 |frz d u=>obtain⟨e,_⟩:=x;exact N_ e
 |tbl g=>exact N_ (show h.get? a=some _ from x)
 |met f y=>exact N_ (show h.get? a=some _ from x)
 |ext j=>obtain⟨_,⟨_,e⟩,_⟩:=x;exact N_ e
 |dd c=>obtain⟨_,_,_,e,_⟩:=x;exact N_ e
theorem Paired.mapP{i g:Type}{F G:i->g->Prop}:∀{c:oA i} {d:oA g},Paired F c d->(∀a b,F a b->G a b)->Paired G c d
 |_,_,.nil,_=>.nil
 |_,_,.cons r t,f=>.cons (f _ _ r)<|Paired.mapP t f
def Bs.stay(x:Bs P w H h a o)(k:∀b u,(b=a\/H b=some (.own a))->h.get? b=some u->h'.get? b=some u) (F:∀b,H b=some (.own a)->H' b=some (.own a)) (E:∀b l,H b=some (.tup l)->H' b=some (.tup l)):Bs P w H' h' a o:=by
 induction o with
 |lst l=>obtain⟨z,s,n,r,e⟩:=x;exact⟨z,s,n,r,k _ _ (.inl rfl) e⟩
 |tup l=>obtain⟨z,s,r,j,e,c⟩:=x;exact⟨z,s,r,j,k _ _ (.inl rfl) e,c⟩
 |dK A=>obtain⟨z,y,G,r,j,g,i,e,c⟩:=x;exact⟨z,y,G,r,j,g,i,k _ _ (.inl rfl) e,c⟩
 |dT A=>obtain⟨z,y,l,r,j,g,i,e,c⟩:=x;exact⟨z,y,l,Paired.mapP r λp q z=>⟨z.1,E _ _ z.2.1,z.2.2⟩,j,g,i,k _ _ (.inl rfl) e,c⟩
 |set S n=>obtain⟨j,g,i,t,e,c⟩:=x;exact⟨j,g,i,t,k _ _ (.inl rfl) e,c⟩
 |ins C L fs=>obtain⟨d,z,ne,e,m,⟨B,g,i,J,c⟩,r⟩:=x;exact⟨F _ d,z,ne,k _ _ (.inl rfl) e,m,⟨B,g,i,k _ _ (.inr d) J,c⟩,r⟩
 |own y=>obtain⟨j,e⟩:=x;exact⟨j,k _ _ (.inl rfl) e⟩
 |xd fs=>obtain⟨m,⟨B,g,i,e,c⟩,r⟩:=x;exact⟨m,⟨B,g,i,k _ _ (.inl rfl) e,c⟩,r⟩
 |rng lo hi=>obtain⟨t,u,v,e⟩:=x;exact⟨t,u,v,k _ _ (.inl rfl) e⟩
 |frz j u I=>obtain⟨e,q⟩:=x;exact⟨k _ _ (.inl rfl) e,I q⟩
 |tbl D=>have e:h.get? a=some {cls:=.none,data:=.fields D}:=x;show h'.get? a=some {cls:=.none,data:=.fields D};exact k a _ (.inl rfl) e
 |met f y=>have e:h.get? a=some (PySem.W.methodObj (.ref f)<|.ref y):=x;show h'.get? a=some (PySem.W.methodObj (.ref f)<|.ref y);exact k a _ (.inl rfl) e
 |ext M=>obtain⟨p,⟨o,e⟩,st⟩:=x;exact⟨st _ _ p λo q=>k _ _ (.inl rfl) q,⟨o,k _ _ (.inl rfl) e⟩,st⟩
 |dd l=>obtain⟨o,g,i,e,c⟩:=x;exact⟨o,g,i,k _ _ (.inl rfl) e,c⟩
theorem HOk.lt(x:HOk P w H h)(e:H a=some o):a<h.objs.size:=(x a o e).lt
def HOk.fresh(x:HOk P w H h)(e:h.objs.size<=a):H a=none:=by
 cases q:H a with
 |none=>rfl
 |some u=>exact absurd (S_ (x.lt q) e)<|cF _
def HOk.kept(x:HOk P w H h)(k:∀b u,h.get? b=some u->h'.get? b=some u):HOk P w H h':=λa o e=>
 (x a o e).stay (λb u _ q=>k b u q) (λ_ q=>q) λ_ _ q=>q
def HOk.laid(x:HOk P w H h)(k:∀b u,h.get? b=some u->h'.get? b=some u)(hp:h.objs.size<=a)(d:Bs P w (upd H a o) h' a o):HOk P w (upd H a o) h':=λb u e=>by have f:=x.fresh hp;by_cases hb:b=a;subst hb;rw[A6]at e;cases e;exact d;rw[An hb]at e;exact(x b u e).stay (λc v _ q=>k c v q) (λc q=>by rw[An<|B6 q f];exact q) λc g q=>by rw[An<|B6 q f];exact q
def Rd(H:Hp)(a:lB)(u:HO):Prop:=H a=some u\/∃o,H a=some (.frz o u)
def Rd.ok{P:lD}{w:lE}{H:Hp}{h:lH}{a:lB}{u:HO}(r:Rd H a u)(x:HOk P w H h):Bs P w H h a u:=by rcases r with r|⟨o,r⟩;exact x a u r;obtain⟨_,q⟩:=x a _ r;exact q
def Mut:oB HO->Prop
 |some (.lst _)=>True
 |some (.dK _)=>True
 |some (.dT _)=>True
 |some (.set _ _)=>True
 |some (.ins _ _ _)=>True
 |some (.ext _)=>True
 |some (.dd _)=>True
 |_=>False
def HOk.write(ok:HOk P w H h)(g:Mut<|H x)(he:e=x\/H e=some (.own x))(k:∀b u,b≠e->h.get? b=some u->h'.get? b=some u)(m:∃u,h'.get? e=some u)
  (i:Bs P w (upd H x o') h' x o'):HOk P w (upd H x o') h':=λb u q=>by
 have j:∀c y,H c=some (.own y)->c≠x:=λc y r z=>by subst z;rw[r]at g;exact g
 have n:∀c f,H c=some (.tup f)->c≠x:=λc f r z=>by subst z;rw[r]at g;exact g
 by_cases hb:b=x;subst hb;rw[A6]at q;cases q;exact i;rw[An hb]at q;by_cases d:b=e;have l:H b=some (.own x):=by rcases he with z|z;exact absurd (d.trans z) hb;rw[d];exact z
 rw[q]at l;cases l;obtain⟨v,hv⟩:=m;exact⟨v,by rw[d];exact hv⟩;refine(ok b u q).stay (λc v hc r=>k c v ?_ r) (λc r=>by rw[An<|j c b r];exact r) λc f r=>by rw[An<|n c f r];exact r
 rcases hc with rfl|hc;exact d;rintro rfl;rcases he with z|z;exact j c b hc z;rw[hc]at z;cases z;exact hb rfl
structure Un(fs ex:oA lB)(H H':Hp)(h h':lH):Prop where
 keep:∀b o,h.get? b=some o->H b=none->b∉fs->b∉ex->h'.get? b=some o
 slot:∀b o,h.get? b=some o->H b=none->b∈fs->b∉ex->∃sl,h'.get? b=some {o with slots:=sl}
 free:∀b o,h.get? b=some o->H b=none->b∉ex->H' b=none
 there:∀b o,h.get? b=some o->b∉ex->∃o',h'.get? b=some o'
 tups:∀b xs,H b=some (.tup xs)->H' b=some (.tup xs)
 frzs:∀b o u,H b=some (.frz o u)->H' b=some (.frz o u)
 tbls:∀b ps,H b=some (.tbl ps)->∃more,H' b=some (.tbl<|ps++more)
def Un.any(u:Un fs ex H H1 h h1){b:lB}{c:lI}(q:h.get? b=some c)(n:H b=none)(hx:b∉ex):∃d,h1.get? b=some {c with slots:=d}:=by by_cases hb:b∈fs;exact u.slot b c q n hb hx;exact⟨c.slots,u.keep b c q n hb hx⟩
def Un.kept(k:∀b u,h.get? b=some u->h'.get? b=some u):Un fs ex H H h h' :=
 ⟨λb c q _ _ _=>k b c q,λb c q _ _ _=>⟨c.slots,k b c q⟩,λ_ _ _ n _=>n,λb c q _=>⟨c,k b c q⟩,λ_ _ q=>q,λ_ _ _ q=>q,λ_ d q=>⟨#[],by rw[q];simp⟩⟩
def Un.refl:Un fs ex H H h h:=Un.kept λ_ _ q=>q
def Un.laid(k:∀b u,h.get? b=some u->h'.get? b=some u)(hp:h.objs.size<=a)(hn:H a=none):Un fs ex H (upd H a o) h h' where
 keep:=λb u q _ _ _=>k b u q
 slot:=λb u q _ _ _=>⟨u.slots,k b u q⟩
 free:=λb u q n _=>by rw[An<|Z_<|S_ (N_ q) hp];exact n
 there:=λb u q _=>⟨u,k b u q⟩
 tups:=λb c q=>by rw[An<|B6 q hn];exact q
 frzs:=λb u c q=>by rw[An<|B6 q hn];exact q
 tbls:=λb d q=>⟨#[],by rw[An<|B6 q hn,q];simp⟩
def Un.write(d:Mut<|H x)(he:e=x\/H e=some (.own x))(k:∀b u,b≠e->h.get? b=some u->h'.get? b=some u)(j:∃u,h'.get? e=some u):Un fs ex H (upd H x o) h h':=by
 have hx:∀b,H b=none->b≠x:=λb n z=>by subst z;rw[n]at d;exact d
 have hb:∀b,H b=none->b≠e:=λb n z=>by subst z;rcases he with r|r;exact hx b n r;rw[n]at r;cases r
 have f:∀b u,H b=some u->¬Mut (some u)->b≠x:=λb u q i z=>by subst z;rw[q]at d;exact i d
 refine⟨λb u q n _ _=>k b u (hb b n) q,λb u q n _ _=>⟨u.slots,k b u (hb b n) q⟩,λb u q n _=>by rw[An<|hx b n];exact n,λb u q _=>?_,
  λb g q=>by rw[An<|f b _ q λz=>z];exact q,λb u g q=>by rw[An<|f b _ q λz=>z];exact q,λb l q=>⟨#[],by rw[An<|f b _ q λz=>z,q];simp⟩⟩
 by_cases c:b=e;subst c;exact j;exact⟨u,k b u c q⟩
end
def trk(h:lH)(H:Hp):oA lB:=(List.range h.objs.size).filter λa=>(H a).isSome
def J7(h:lH)(H:Hp):lH:=PySem.W.hideAll h<|trk h H
def Sq(h:lH)(H:Hp):(J7 h H).objs.size=h.objs.size:=PySem.W.hideAll_size _ _
def G5{h:lH}{H:Hp}{b:lB}{o:lI}(e:h.get? b=some o)(n:H b=none):(J7 h H).get? b=some o :=
 PySem.W.hideAll_get _ e λa=>by have q:(H b).isSome=true:=(bH.mp a).2;rw[n]at q;simp at q
def Zs{h:lH}{H:Hp}{b:lB}{o:lI}(e:(J7 h H).get? b=some o):h.get? b=some o/\H b=none:=by
 have a:h.get? b=some o:=PySem.W.of_hideAll (trk h H) e;refine⟨a,?_⟩;cases q:H b with
 |none=>rfl
 |some x=>have c:b∈trk h H:=bH.mpr ⟨cZ.mpr<|N_ a,by simp[q]⟩;have z:(J7 h H).get? b=none:=PySem.W.hideAll_none (trk h H) c;rw[z]at e;cases e
def Zt(g h:lH)(L:lB):oA (lB×lI):=(List.range h.objs.size).filterMap λa=>if a=L\/(g.get? a).isSome=true then none else(h.get? a).map λo=>(a,o)
def rest(g h:lH)(L d:lB):oA (lB×lI):=(Zt g h L).filter λp=>decide (p.1≠d)
structure Mod(K:lC)(mg:Str->oB kZ)(base:lH):Prop where
 kin:K.In base
 glob:base.Ns mainGlobals mg
 blt:∃mb,base.Ns builtinsNs mb/\∀x:Str,x ≠ "__name__" -> mb x=bootBuiltins x
 nolimit:base.NoLimit
structure Cx where
 prog:lD
 w:lE
 K:lC
 mg:Str->oB kZ
 base:lH
 A:lG
 N:oA Str
 s₀:k_
 H₀:Hp
 env:Env
 outer:oA Env
 stack:oA Env
 ex:oA lB
 fn:Str->Bool
 calm:Bool
 pn:oA (lB×lI)
 xe:kZ->k_->Prop
def frs(l:oA Env):oA lB:=l.filterMap (·.frame)
abbrev Cx.fs(X:Cx):oA lB:=frs X.outer
def Vis(sc:lM)(x:Str):Prop:=sc.names.lookup x=some .local\/sc.names.lookup x=some .cell\/sc.names.lookup x=some .free
def Loc(sc:lM)(x:Str):Prop:=sc.names.lookup x=some .local\/sc.names.lookup x=some .cell
def Look(env:Env)(h:lH)(m:Str->oB kZ)(x:Str)(u:kZ):Prop :=
 (env.kindOf x=some .local/\m x=some u)\/((env.kindOf x=some .cell\/env.kindOf x=some .free)/\∃c,env.cells.lookup x=some c/\h.IsCell c (some u))
structure Cx.Ok(X:Cx):Prop where
 mod:Mod X.K X.mg X.base
 kind:X.env.scope.kind=.function
 glob:X.env.globals=mainGlobals
 blt:X.env.builtins=builtinsNs
 above:X.s₀.heap.objs.size<=X.env.locals
 inj:∀x y c,X.env.cells.lookup x=some c->X.env.cells.lookup y=some c->x=y
 has:∀x,(X.env.kindOf x=some .cell\/X.env.kindOf x=some .free)->∃c,X.env.cells.lookup x=some c
 cab:∀x c,X.fn x=true->X.env.cells.lookup x=some c->X.s₀.heap.objs.size<=c
 hd:X.calm=true->X.A.handled=none
 frames:X.A.frames=some X.stack
 stk:X.stack=X.outer\/(X.stack=X.env::X.outer/\X.env.frame=some X.env.locals)
 exf:∀b∈X.ex,b≠X.env.locals/\∀x c,X.env.cells.lookup x=some c->c≠b
 bs:∀b o,X.base.get? b=some o->X.s₀.heap.get? b=some o/\X.H₀ b=none
 bsz:X.base.objs.size<=X.s₀.heap.objs.size
 noex:∀b o,X.base.get? b=some o->b∉X.ex
 exfs:∀b∈X.ex,b∉X.fs
 funs:X.s₀.heap.FunFrames X.base X.outer
 frf:∀b∈X.fs,X.H₀ b=none
structure Inv(X:Cx)(aa:oA<|lB×lI)(σ:oA<|oB V)(H:Hp)(s:k_):Prop where
 ok:X.Ok
 os:s.os=X.s₀.os
 bare:AllBare s.gens
 base:Un X.fs X.ex X.H₀ H X.s₀.heap s.heap
 loc:∃m,s.heap.Ns X.env.locals m/\∀(i:Nat) (x:Str) (v:V),X.N[i]?=some x->σ[i]?=some (some v)->Vis X.env.scope x->∃u,Bf v u/\Look X.env s.heap m x u
 cell:∀x c,X.env.cells.lookup x=some c->∃v,s.heap.IsCell c v
 free:H X.env.locals=none
 freeC:∀x c,X.env.cells.lookup x=some c->H c=none
 pin:∀p∈X.pn++aa,s.heap.get? p.1=some p.2/\H p.1=none/\p.1≠X.env.locals/\p.1∉X.fs/\∀v,p.2.data≠.cell v
 hok:HOk X.prog X.w H s.heap
 len:σ.length=X.N.length
section
variable {X:Cx}{aa:oA<|lB×lI}{σ:oA<|oB V}{H H':Hp}{s:k_}{h':lH}{a b:lF}{ta tb:TE}{pos:Pos}{tA k8:TT}{rest:oA lF}
def Cx.Ok.nofr(ok:X.Ok){b:lB}{o:lI}(e:X.base.get? b=some o):b∉X.fs:=λhb=>by have:=(ok.funs.mem hb).1;rw[e]at this;cases this
def Inv.bs(I:Inv X aa σ H s):∀b o,X.base.get? b=some o->s.heap.get? b=some o/\H b=none:=λb o e=>
 ⟨I.base.keep b o (I.ok.bs b o e).1 (I.ok.bs b o e).2 (I.ok.nofr e)<|I.ok.noex b o e,I.base.free b o (I.ok.bs b o e).1 (I.ok.bs b o e).2<|I.ok.noex b o e⟩
def Inv.bk(I:Inv X aa σ H s):∀b o,X.base.get? b=some o->s.heap.get? b=some o:=λb o e=>(I.bs b o e).1
def Inv.mod(I:Inv X aa σ H s):Mod X.K X.mg X.base:=I.ok.mod
def Inv.kIn(I:Inv X aa σ H s):X.K.In s.heap:=I.ok.mod.kin.keeps I.bk
def Inv.lt(I:Inv X aa σ H s):X.env.locals<s.heap.objs.size:=by obtain⟨_,c,_⟩:=I.loc;exact c.lt
def Inv.sz(I:Inv X aa σ H s):X.s₀.heap.objs.size<=s.heap.objs.size:=G_ I.ok.above<|cX I.lt
def Inv.nofs(I:Inv X aa σ H s){a:lB}(h:s.heap.objs.size<=a):a∉X.fs:=λhb=>by obtain⟨_,o,c,_⟩:=I.ok.funs.mem hb;exact absurd (S_ (N_ c)<|G_ I.sz h)<|cF _
def Inv.cne(I:Inv X aa σ H s):∀x c,X.env.cells.lookup x=some c->c≠X.env.locals:=λx c e z=>by obtain⟨v,o,f,g⟩:=I.cell x c e;obtain⟨m,⟨i,j,k,d,h,_⟩,_⟩:=I.loc;rw[z,d]at f;cases f;rw[h]at g;cases g
theorem Inv.funs(I:Inv X aa σ H s):s.heap.FunFrames X.base X.outer:=by
 have all:∀(l:oA Env),(∀b∈frs l,b∈X.fs)->X.s₀.heap.FunFrames X.base l->s.heap.FunFrames X.base l:=by
  intro l
  induction l with
  |nil=>intro _ _;trivial
  |cons m r g=>intro f j;obtain⟨hk,⟨L,o,d,h,i,n⟩,k⟩:=j;have c:L∈X.fs:=f L (by unfold frs;rw[jQ,d];exact aW);obtain⟨p,e⟩:=I.base.slot L o i (I.ok.frf L c) c λz=>I.ok.exfs L z c;exact⟨hk,⟨L,_,d,h,e,n⟩,g (λb hb=>f b<|by unfold frs;rw[jQ,d];exact aJ _ hb) k⟩
 exact all X.outer (λ_ hb=>hb) I.ok.funs
def Inv.stack(I:Inv X aa σ H s):s.heap.FunFrames X.base X.stack:=by rcases I.ok.stk with e|⟨e,d⟩;rw[e];exact I.funs;rw[e];obtain⟨m,c,_⟩:=I.loc;refine .cons (by rw[I.ok.kind];decide) d c ?_ I.funs;exact Heap.get?_none_of_le<|G_ I.ok.bsz I.ok.above
def Inv.stkSub(I:Inv X aa σ H s):∀b∈frs X.stack,b∈X.env.locals::X.fs:=λb hb=>by rcases I.ok.stk with e|⟨e,c⟩;rw[e]at hb;exact aJ _ hb;rw[e]at hb;unfold frs at hb;rw[jQ,c]at hb;exact hb
def Inv.stkFree(I:Inv X aa σ H s):∀b∈frs X.stack,H b=none:=λb hb=>by rcases aD.mp (I.stkSub b hb) with e|hb;rw[e];exact I.free;obtain⟨_,o,c,_⟩:=I.ok.funs.mem hb;exact I.base.free b o c (I.ok.frf b hb) λz=>I.ok.exfs b z hb
def Inv.step{g':oC GenState}{t':Nat}{d':Drawn}{ch:oA lB}(I:Inv X aa σ H s) (C:∀b∈ch,(b∈X.ex\/X.s₀.heap.objs.size<=b)/\b≠X.env.locals/\(∀x c,X.env.cells.lookup x=some c->c≠b)/\∀p∈X.pn++aa,p.1≠b)
  (g:∀b o,b≠X.env.locals->b∉X.fs->b∉ch->s.heap.get? b=some o->H b=none->h'.get? b=some o)
  (slot:∀b o,b≠X.env.locals->b∈X.fs->b∉ch->s.heap.get? b=some o->H b=none->∃O,h'.get? b=some {o with slots:=O}) (f:∀b o,b∉ch->s.heap.get? b=some o->H b=none->H' b=none)
  (t:∀b o,b∉ch->s.heap.get? b=some o->∃F,h'.get? b=some F) (B:∀b j,H b=some (.tup j)->H' b=some (.tup j)) (A:∀b o u,H b=some (.frz o u)->H' b=some (.frz o u)) (D:∀b M,H b=some (.tbl M)->∃G,H' b=some (.tbl<|M++G))
  (ns:∀m,s.heap.Ns X.env.locals m->h'.Ns X.env.locals m) (Q:HOk X.prog X.w H' h') (Z:AllBare g') :
  Inv X aa σ H' {s with heap:=h',gens:=g',drawn:=d',toks:=t'}:=by
 have R:∀b o,X.s₀.heap.get? b=some o->b≠X.env.locals:=λb o e=>Z_<|S_ (N_ e) I.ok.above;have L:∀b o,X.s₀.heap.get? b=some o->b∉X.ex->b∉ch:=λb o e hx hb=>by rcases(C b hb).1 with z|z;exact hx z;exact absurd (S_ (N_ e) z)<|cF _
 have T:∀x c,X.env.cells.lookup x=some c->∀v,s.heap.IsCell c v->h'.IsCell c v:=λx c e v ⟨o,y,P⟩=>by have E:c∉ch:=λz=>(C c z).2.2.1 x c e rfl;by_cases hc:c∈X.fs;obtain⟨O,q⟩:=slot c o (I.cne x c e) hc E y<|I.freeC x c e;exact⟨_,q,P⟩;exact⟨o,g c o (I.cne x c e) hc E y<|I.freeC x c e,P⟩
 refine⟨I.ok,I.os,Z,⟨λb o e n hb hx=>?_,λb o e n hb hx=>?_,λb o e n hx=>?_,λb o e hx=>?_,λb j e=>B b j<|I.base.tups b j e,λb o j e=>A b o j<|I.base.frzs b o j e,λb M e=>?_⟩,?_,λx c e=>?_,?_,λx c e=>?_,λp hp=>?_,Q,I.len⟩;exact g b o (R b o e) hb (L b o e hx) (I.base.keep b o e n hb hx)<|I.base.free b o e n hx;obtain⟨O,h⟩:=I.base.slot b o e n hb hx;obtain⟨N,J⟩:=slot b _ (R b o e) hb (L b o e hx) h<|I.base.free b o e n hx;exact⟨N,J⟩;obtain⟨F,h⟩:=I.base.there b o e hx;exact f b F (L b o e hx) h<|I.base.free b o e n hx;obtain⟨F,h⟩:=I.base.there b o e hx;exact t b F (L b o e hx) h;obtain⟨U,h⟩:=I.base.tbls b M e;obtain⟨m2,J⟩:=D b _ h;exact⟨U++m2,by rw[J,Array.append_assoc]⟩;obtain⟨m,W,Y⟩:=I.loc;refine⟨m,ns m W,λi x v h J e3=>?_⟩;obtain⟨u,r,l⟩:=Y i x v h J e3;refine⟨u,r,?_⟩;rcases l with l|⟨k,c,e,z⟩;exact .inl l;exact .inr ⟨k,c,e,T x c e _ z⟩;obtain⟨v,z⟩:=I.cell x c e;exact⟨v,T x c e v z⟩;obtain⟨m,⟨o,_,_,y,_⟩,_⟩:=I.loc;exact f _ o (λz=>(C _ z).2.1 rfl) y I.free;obtain⟨v,o,y,P⟩:=I.cell x c e;exact f c o (λz=>(C c z).2.2.1 x c e rfl) y<|I.freeC x c e;obtain⟨e,n,ne,S,d⟩:=I.pin p hp;have E:p.1∉ch:=λz=>(C p.1 z).2.2.2 p hp rfl;exact⟨g p.1 p.2 ne S E e n,f p.1 p.2 E e n,ne,S,d⟩
def Inv.un{t':Nat}(I:Inv X aa σ H s)(u:Un X.fs [] H H' s.heap h')(d:HOk X.prog X.w H' h'):Inv X aa σ H' {s with heap:=h',toks:=t'}:=by
 obtain⟨m,⟨o,q,t,h,r⟩,_⟩:=id I.loc;obtain⟨l,j⟩:=u.any h I.free (by simp);exact I.step (g':=s.gens) (d':=s.drawn) (ch:=[]) (λ_ z=>nomatch z) (λb o _ hb _ e n=>u.keep b o e n hb<|by simp) (λb o _ hb _ e n=>u.slot b o e n hb<|by simp) (λb o _ e n=>u.free b o e n<|by simp) (λb o _ e=>u.there b o e<|by simp) u.tups u.frzs u.tbls (λv i=>by
  obtain⟨p,f,g,c,k⟩:=i;rw[h]at c;cases c;exact⟨_,f,g,j,k⟩) d I.bare
def Inv.call{g':oC GenState}{t':Nat}{d':Drawn}{ch:oA lB}(I:Inv X aa σ H s)(u:Un (frs X.stack) ch H H' s.heap h')(g:HOk X.prog X.w H' h')(q:AllBare g')
  (k:∀b∈ch,(b∈X.ex\/X.s₀.heap.objs.size<=b)/\b≠X.env.locals/\(∀x c,X.env.cells.lookup x=some c->c≠b)/\∀p∈X.pn++aa,p.1≠b) :
  Inv X aa σ H' {s with heap:=h',gens:=g',drawn:=d',toks:=t'}:=by
 obtain⟨m,⟨o,A,C,j,r⟩,_⟩:=id I.loc;obtain⟨v,f⟩:=u.any j I.free λz=>(k _ z).2.1 rfl;exact I.step (ch:=ch) k (λb o f hb hc e n=>u.keep b o e n (λz=>(aD.mp<|I.stkSub b z).elim f hb) hc) (λb o _ _ hc e n=>u.any e n hc) (λb o hc e n=>u.free b o e n hc) (λb o hc e=>u.there b o e hc) u.tups u.frzs u.tbls (λB l=>by
  obtain⟨y,h,i,d,t⟩:=l;rw[j]at d;cases d;exact⟨_,h,i,f,t⟩) g q
def Inv.turned{t':Nat}{d:lB}(I:Inv X aa σ H s)(k:∀b o,b≠d->s.heap.get? b=some o->h'.get? b=some o)(hn:H d=none)(f:d≠X.env.locals)
  (h1:d∈X.ex\/X.s₀.heap.objs.size<=d) (h2:∀x c,X.env.cells.lookup x=some c->c≠d) (j:∀p∈X.pn++aa,p.1≠d):Inv X aa σ H {s with heap:=h',toks:=t'}:=by
 have g:∀b u,H b=some u->b≠d:=λb u e z=>by rw[z,hn]at e;cases e
 refine I.step (g':=s.gens) (d':=s.drawn) (ch:=[d]) (λb hb=>?_) (λb o _ _ hc e _=>k b o (λz=>hc<|by simp[z]) e) (λb o _ _ hc e _=>⟨o.slots,k b o (λz=>hc<|by simp[z]) e⟩) (λ_ _ _ _ n=>n)
  (λb o hc e=>⟨o,k b o (λz=>hc<|by simp[z]) e⟩) (λ_ _ e=>e) (λ_ _ _ e=>e) (λb w e=>⟨#[],by rw[e];simp⟩) (λm h=>?_) (λb u e=>?_) I.bare
 have e:b=d:=by simpa using hb
 subst e;exact⟨h1,f,h2,j⟩;obtain⟨o,l,t,i,r⟩:=h;exact⟨o,l,t,k _ o (bX f) i,r⟩;refine(I.hok b u e).stay (λc v hc q=>k c v ?_ q) (λ_ q=>q) λ_ _ q=>q;rcases hc with z|z;rw[z];exact g b u e;exact g c _ z
def Inv.tok(I:Inv X aa σ H s)(t:Nat):Inv X aa σ H {s with toks:=t}:=I.un (h':=s.heap) (t':=t) Un.refl I.hok
def Inv.kept{t':Nat}(I:Inv X aa σ H s)(k:∀b u,s.heap.get? b=some u->h'.get? b=some u):Inv X aa σ H {s with heap:=h',toks:=t'}:=I.un (Un.kept k)<|I.hok.kept k
def Inv.laid{a:lB}{o:HO}{t':Nat}(I:Inv X aa σ H s)(k:∀b u,s.heap.get? b=some u->h'.get? b=some u)(hp:s.heap.objs.size<=a)(c:Bs X.prog X.w (upd H a o) h' a o) :
  Inv X aa σ (upd H a o) {s with heap:=h',toks:=t'}:=I.un (Un.laid k hp<|I.hok.fresh hp)<|I.hok.laid k hp c
def Inv.write{x e:lB}{o:HO}{t':Nat}(I:Inv X aa σ H s)(d:Mut<|H x)(he:e=x\/H e=some (.own x))(k:∀b u,b≠e->s.heap.get? b=some u->h'.get? b=some u)(f:∃u,h'.get? e=some u)
  (c:Bs X.prog X.w (upd H x o) h' x o):Inv X aa σ (upd H x o) {s with heap:=h',toks:=t'}:=I.un (Un.write d he k f)<|I.hok.write d he k f c
def Inv.pins_of{pins':oA<|lB×lI}(I:Inv X aa σ H s)(h:∀p∈pins',s.heap.get? p.1=some p.2/\H p.1=none/\p.1≠X.env.locals/\p.1∉X.fs/\∀v,p.2.data≠.cell v):Inv X pins' σ H s :=
 ⟨I.ok,I.os,I.bare,I.base,I.loc,I.cell,I.free,I.freeC,λp hp=>(Q_.mp hp).elim (λz=>I.pin p<|Y_ _ z)<|h p,I.hok,I.len⟩
def M4{N:oA Str}(c:N.Nodup){i j:Nat}{x:Str}(a:N[i]?=some x)(b:N[j]?=some x):i=j:=by obtain⟨h1,d⟩:=D_.mp a;obtain⟨h2,e⟩:=D_.mp b;exact(List.getElem_inj c).mp<|d.trans e.symm
def Kk{M:Model}{A:lG}{E:kZ->k_->Prop}{i:Nat}{x:Str}{v:V}{u:kZ}{Q:Unit->k_->Prop}(I:Inv X aa σ H s)(hN:X.N.Nodup)(hi:X.N[i]?=some x)(hx:Loc X.env.scope x)(r:Bf v u)
  (h:∀W,Inv X aa (σ.set i<|some v) H W->(∃a,Heap.SameBut a s.heap W.heap/\(a=X.env.locals\/X.env.cells.lookup x=some a))->Q () W) (hf:X.fn x=true\/X.env.scope.names.lookup x=some .local:=by first|exact .inl rfl|exact .inr rfl|assumption):wpAny M A (storeName X.env x u) Q E s:=by
 obtain⟨m,U,hl⟩:=id I.loc;have wy:(X.env.scope.kind==.class||(X.env.scope.kind==.module&&X.env.locals != X.env.globals))=false:=by rw[I.ok.kind];rfl
 have B:i<σ.length:=by rw[I.len];exact(D_.mp hi).1
 have C:=I.cne;have ii:∀{a:lB} {h':lH},(∃o,s.heap.get? a=some o/\H a=none)->Heap.SameBut a s.heap h'->HOk X.prog X.w H h':=λ{a h'} ha f b ob e=>by obtain⟨_,_,l⟩:=ha;refine(I.hok b ob e).stay (λc L hc q=>(f.2 c ?_).trans q) (λ_ q=>q) λ_ _ q=>q;rintro rfl;rcases hc with rfl|hc;rw[l]at e;cases e;rw[l]at hc;cases hc
 rcases hx with hk|hk;refine wpAny_storeName_local hk U (λh' qq f=>?_) wy;obtain⟨oL,_,_,O,_⟩:=id U;refine h _ ⟨I.ok,I.os,I.bare,⟨λb o e n hb hx=>?_,λb o e n hb hx=>?_,I.base.free,λb o e hx=>?_,I.base.tups,I.base.frzs,I.base.tbls⟩,⟨_,qq,λj y S g t e3=>?_⟩,λy c e=>?_,I.free,I.freeC,λp hp=>?_,ii ⟨oL,O,I.free⟩ f,by simpa using I.len⟩ ⟨_,f,.inl rfl⟩;exact(f.2 b<|Z_<|S_ (N_ e) I.ok.above).trans<|I.base.keep b o e n hb hx;obtain⟨P,g⟩:=I.base.slot b o e n hb hx;exact⟨P,(f.2 b<|Z_<|S_ (N_ e) I.ok.above).trans g⟩;obtain⟨Z,g⟩:=I.base.there b o e hx;exact⟨Z,(f.2 b<|Z_<|S_ (N_ e) I.ok.above).trans g⟩;by_cases hj:j=i;subst hj;rw[hi]at g;cases g;rw[List.getElem?_set_self B]at t;cases t;exact⟨u,r,.inl ⟨hk,by simp⟩⟩;rw[List.getElem?_set_ne<|bX hj]at t;obtain⟨R,Y,q⟩:=hl j y S g t e3;refine⟨R,Y,?_⟩;rcases q with⟨k,e⟩|⟨k,c,e,z⟩;refine .inl ⟨k,?_⟩;have:y≠x:=λe=>hj<|M4 hN g<|e ▸ hi;simp[this,e];exact .inr ⟨k,c,e,z.sameBut f<|C y c e⟩;obtain⟨L,z⟩:=I.cell y c e;exact⟨L,z.sameBut f<|C y c e⟩;obtain⟨e,n,ne,T,d⟩:=I.pin p hp;exact⟨(f.2 p.1 ne).trans e,n,ne,T,d⟩;have ly:X.fn x=true:=by rcases hf with z|z;exact z;rw[z]at hk;cases hk
 obtain⟨c,hc⟩:=I.ok.has x<|.inl hk;obtain⟨L,z⟩:=I.cell x c hc;refine wpAny_storeName_cell I.ok.kind hk hc z λh' bv f=>?_;obtain⟨oc,D,F⟩:=id z;refine h {s with heap:=h'} ⟨I.ok,I.os,I.bare,⟨λb o e n hb hx=>?_,λb o e n hb hx=>?_,I.base.free,λb o e hx=>?_,I.base.tups,I.base.frzs,I.base.tbls⟩,⟨m,U.sameBut f<|bX<|C x c hc,λj y S g t e3=>?_⟩,λy J e=>?_,I.free,I.freeC,λp hp=>?_,ii ⟨oc,D,I.freeC x c hc⟩ f,by simpa using I.len⟩ ⟨c,f,.inr hc⟩;exact(f.2 b<|Z_<|S_ (N_ e)<|I.ok.cab x c ly hc).trans<|I.base.keep b o e n hb hx;obtain⟨P,g⟩:=I.base.slot b o e n hb hx;exact⟨P,(f.2 b<|Z_<|S_ (N_ e)<|I.ok.cab x c ly hc).trans g⟩;obtain⟨Z,g⟩:=I.base.there b o e hx;exact⟨Z,(f.2 b<|Z_<|S_ (N_ e)<|I.ok.cab x c ly hc).trans g⟩;by_cases hj:j=i;subst hj;rw[hi]at g;cases g;rw[List.getElem?_set_self B]at t;cases t;exact⟨u,r,.inr ⟨.inl hk,c,hc,bv⟩⟩;rw[List.getElem?_set_ne<|bX hj]at t;obtain⟨R,Y,q⟩:=hl j y S g t e3;refine⟨R,Y,?_⟩;rcases q with q|⟨k,J,e,z'⟩;exact .inl q;refine .inr ⟨k,J,e,z'.sameBut f ?_⟩;rintro rfl;exact hj<|M4 hN g<|I.ok.inj _ _ _ e hc ▸ hi;by_cases G:J=c;subst G;exact⟨_,bv⟩;obtain⟨w2,z2⟩:=I.cell y J e;exact⟨w2,z2.sameBut f G⟩;obtain⟨e,n,ne,T,d⟩:=I.pin p hp;refine⟨(f.2 p.1 ?_).trans e,n,ne,T,d⟩;intro q;rw[q,D]at e;have q':oc=p.2:=aR e;exact d L<|by rw[<- q'];exact F
def Fi{M:Model}{A:lG}{E:kZ->k_->Prop}{i:Nat}{x:Str}{v:V}{u:kZ}{Q:Unit->k_->Prop}(I:Inv X aa σ H s)(e:X.N.Nodup)(hi:X.N[i]?=some x)(hx:Loc X.env.scope x)(r:Bf v u)
  (h:∀c,Inv X aa (σ.set i<|some v) H c->Q () c) (f:X.fn x=true\/X.env.scope.names.lookup x=some .local:=by first|exact .inl rfl|exact .inr rfl|assumption):wpAny M A (storeName X.env x u) Q E s :=
 Kk I e hi hx r (λc d _=>h c d) f
def Inv.call'{d:k_}{ch:oA lB}(I:Inv X aa σ H s)(g:d.os=s.os)(u:Un (frs X.stack) ch H H' s.heap d.heap)(f:HOk X.prog X.w H' d.heap)(i:AllBare d.gens)
  (j:∀b∈ch,(b∈X.ex\/X.s₀.heap.objs.size<=b)/\b≠X.env.locals/\(∀x c,X.env.cells.lookup x=some c->c≠b)/\∀p∈X.pn++aa,p.1≠b):Inv X aa σ H' d:=by
 obtain⟨h',g',d',t',h⟩:=d;have e:h=s.os:=g;subst e;exact I.call (g':=g') (t':=t') (d':=d') u f i j
abbrev XK:=kZ->oB lB->Hp->Prop
abbrev St:=oA<|oB V
abbrev VK:=V->Hp->Prop
abbrev TE:=St->Hp->VK->Prop
abbrev TT:=St->Hp->(Bool->Hp->Prop)->Prop
abbrev TA:=St->Hp->(oA V->Hp->Prop)->Prop
structure Ends where
 nx:St->Hp->Prop
 rt:VK
 bk:St->Hp->Prop:=λ_ _=>False
 ct:St->Hp->Prop:=λ_ _=>False
abbrev TS:=Ends->St->Hp->Prop
def EP(X:Cx)(aa:oA<|lB×lI)(σ:St)(Q:VK)(u:kZ)(c:k_):Prop:=∃v H',Inv X aa σ H' c/\Bf v u/\Q v H'
def TP(X:Cx)(aa:oA<|lB×lI)(σ:St)(Q:Bool->Hp->Prop)(b:Bool)(c:k_):Prop:=∃H',Inv X aa σ H' c/\Q b H'
def AP(X:Cx)(aa:oA<|lB×lI)(σ:St)(Q:oA V->Hp->Prop)(us:oA kZ)(d:k_):Prop:=∃c H',Inv X aa σ H' d/\Vals c us/\Q c H'
def SP(X:Cx)(aa:oA<|lB×lI)(D:Ends)(f:Flow)(d:k_):Prop :=
 match f with
 |.next=>∃ c H',Inv X aa c H' d/\D.nx c H'
 |.brk=>∃ c H',Inv X aa c H' d/\D.bk c H'
 |.cont=>∃ c H',Inv X aa c H' d/\D.ct c H'
 |.ret u=>∃v c H',Inv X aa c H' d/\Bf v u/\D.rt v H'
def PE(X:Cx)(e:lF)(t:TE):Prop :=
 ∀(aa:oA<|lB×lI) (s:k_) (σ:St) (H:Hp) (Q:VK),Inv X aa σ H s->t σ H Q->yL X.prog X.w X.A (eval e X.env) (EP X aa σ Q) X.xe s
def PT(X:Cx)(e:lF)(t:TT):Prop :=
 ∀(aa:oA<|lB×lI) (s:k_) (σ:St) (H:Hp) (Q:Bool->Hp->Prop),Inv X aa σ H s->t σ H Q->yL X.prog X.w X.A (isTrue e X.env<|eval e X.env) (TP X aa σ Q) X.xe s
def PW(X:Cx)(e:lF)(t:TT):Prop :=
 ∀(c:Sem kZ) (aa:oA<|lB×lI) (s:k_) (σ:St) (H:Hp) (Q:Bool->Hp->Prop),Inv X aa σ H s->t σ H Q->yL X.prog X.w X.A (isTrue e X.env c) (TP X aa σ Q) X.xe s
def PW.pt{X:Cx}{e:lF}{t:TT}(h:PW X e t):PT X e t:=h _
def PA(X:Cx)(es:oA lF)(t:TA):Prop :=
 ∀(pos:Pos) (aa:oA<|lB×lI) (s:k_) (σ:St) (H:Hp) (Q:oA V->Hp->Prop),Inv X aa σ H s->t σ H Q->yL X.prog X.w X.A (spliced<|backTo pos<|starEach es X.env) (AP X aa σ Q) X.xe s
def PS(X:Cx)(st:lJ)(t:TS):Prop :=
 ∀(aa:oA<|lB×lI) (s:k_) (σ:St) (H:Hp) (D:Ends),Inv X aa σ H s->t D σ H->yL X.prog X.w X.A (exec st X.env) (SP X aa D) X.xe s
def PSs(X:Cx)(st:oA lJ)(t:TS):Prop :=
 ∀(aa:oA<|lB×lI) (s:k_) (σ:St) (H:Hp) (D:Ends),Inv X aa σ H s->t D σ H->yL X.prog X.w X.A (execs st X.env) (SP X aa D) X.xe s
def thn{d:Type}{t:Sem d}{Q c:d->k_->Prop}{M:Model}{A:lG}{E:kZ->k_->Prop}{s:k_}(h:wpAny M A t Q E s)(e:∀a s,Q a s->c a s):wpAny M A t c E s:=aM h e λ_ _ x=>x
def LD(i:Nat):TE:=λσ H Q=>∃v,σ[i]?=some (some v)/\Q v H
def tC(v:V):TE:=λ_ H Q=>Q v H
def FN{i:Nat}{x:Str}{pos:Pos}(p:X.N[i]?=some x)(hv:Vis X.env.scope x)(g:(x==("__debug__" : Str))=false:=by decide) (o:(x==("__classdict__" : Str))=false:=by decide):PE X (.Name x pos) (LD i):=by intro aa s σ H Q I h;obtain⟨v,e,h⟩:=h;obtain⟨m,j,n⟩:=I.loc;obtain⟨u,r,l⟩:=n i x v p e hv;have f:EP X aa σ Q u s:=⟨v,H,I,r,h⟩;rcases l with⟨hk,k⟩|⟨hk,c,hc,d⟩;exact wpAny_Name (wpAny_loadName_local I.ok.kind hk j k f) g;rcases hk with hk|hk;exact wpAny_Name (wpAny_loadName_cell I.ok.kind hk hc d f) g;exact wpAny_Name (wpAny_loadName_free I.ok.kind hk hc d f o) g
def FO{i j pos}:PE X (.Constant (.int i) j pos) (tC<|.int i):=λ_ _ _ H _ I h=>wpAny_Constant_int ⟨.int i,H,I.tok _,⟨_,rfl⟩,h⟩
def LF{b j pos}:PE X (.Constant (.bool b) j pos) (tC<|.bl b):=λ_ _ _ H _ I h=>Constant_bool ⟨.bl b,H,I,rfl,h⟩
def FP{j pos}:PE X (.Constant .none j pos) (tC .non):=λ_ _ _ H _ I h=>Constant_none ⟨.non,H,I,rfl,h⟩
def U0{x j pos}:PE X (.Constant (.str x) j pos) (tC<|.str x):=λ_ _ _ H _ I h=>Calls.Constant_str ⟨.str x,H,I.tok _,⟨_,rfl⟩,h⟩
def Gl(X:Cx)(x:Str):Prop:=X.env.kindOf x=some .globalImplicit
def Q1{E:kZ->k_->Prop}{aa:oA<|lB×lI}{s:k_}{σ:St}{H:Hp}{x:Str}{u:kZ}{pos:Pos}{Q:kZ->k_->Prop}(I:Inv X aa σ H s)(d:Gl X x)(c:X.mg x=some u)(h:Q u s)
  (e:(x==("__debug__" : Str))=false:=by decide):yL X.prog X.w X.A (eval (.Name x pos) X.env) Q E s :=
 Calls.Name_function_global I.ok.kind d (Calls.loadGlobal_global (by rw[I.ok.glob];exact I.mod.glob.keeps I.bk) c h) e
def Dx{E:kZ->k_->Prop}{aa:oA<|lB×lI}{s:k_}{σ:St}{H:Hp}{x:Str}{u:kZ}{pos:Pos}{Q:kZ->k_->Prop}(I:Inv X aa σ H s)(d:Gl X x)(c:X.mg x=none)(hv:bootBuiltins x=some u)(h:Q u s)
  (hn:x ≠ "__name__" := by decide) (e:(x==("__debug__" : Str))=false:=by decide):yL X.prog X.w X.A (eval (.Name x pos) X.env) Q E s:=by
 obtain⟨f,h1,h2⟩:=I.mod.blt;exact Calls.Name_function_global I.ok.kind d (Calls.loadGlobal_builtin (by rw[I.ok.glob];exact I.mod.glob.keeps I.bk) c (by rw[I.ok.blt];exact h1.keeps I.bk) ((h2 x hn).trans hv) h) e
def Zu{x:Str}{v:V}{u:kZ}{pos:Pos}(d:Gl X x)(c:X.mg x=some u)(r:Bf v u)(e:(x==("__debug__" : Str))=false:=by decide):PE X (.Name x pos) (tC v) :=
 λ_ _ _ H _ I h=>Q1 I d c ⟨v,H,I,r,h⟩ e
def PC(X:Cx)(e:CmpOp)(a b:lF)(t:TE):Prop :=
 ∀(aa:oA<|lB×lI) (s:k_) (σ:St) (H:Hp) (Q:VK),Inv X aa σ H s->t σ H Q ->
  yL X.prog X.w X.A (eval a X.env) (λv c=>yL X.prog X.w X.A (eval b X.env) (λu d=>yL X.prog X.w X.A (compareOp e v u) (EP X aa σ Q) X.xe d) X.xe c) X.xe s
def tB(t:TE):TT:=λσ H Q=>t σ H λx d=>∃c,x=.bl c/\Q c d
def FQ{c:CmpOp}{t:TE}(h:PC X c a b t)(h1:behindInMarks c b=false:=by first|exact nobehind _ (by decide) (by decide)|rfl):PE X (.Compare a [c] [b] pos) t:=λaa s σ H Q I d=>wpAny_Compare1 (h aa s σ H Q I d) h1
def Pa{e:CmpOp}{t:TE}(h:PC X e a b t)(h1:behindInMarks e b=false:=by first|exact nobehind _ (by decide) (by decide)|rfl):PT X (.Compare a [e] [b] pos) (tB t):=by intro aa s σ H Q I f;refine wpAny_isTrue_Compare1 (thn (h aa s σ H _ I f) λv o h1=>thn h1 λu m h2=>thn h2 λc n l=>C8 l λx j i g k=>?_) h1;obtain⟨d,rfl,q⟩:=k;cases g;exact dN ⟨j,i,q⟩
def FR{e:lF}{t:TE}(h:PE X e t)(he:∀c,isTrue e X.env c=(do let v <- c;standAt e.pos;holding [v]<|truthy v):=by intro _;rfl):PT X e (tB t):=by intro aa s σ H Q I f;refine isTrue_plain (thn (h aa s σ H _ I f) λv m g=>C8 g λx k j i l=>?_)<|he _;obtain⟨d,rfl,q⟩:=l;cases i;exact dN ⟨k,j,q⟩
def UY(t u:TT):TT:=λσ H Q=>t σ H λc d=>if c=true then u σ d Q else Q false d
def tOr(t u:TT):TT:=λσ H Q=>t σ H λc d=>if c=true then Q true d else u σ d Q
def UZ(t:TT):TT:=λσ H Q=>t σ H λc d=>Q (!c) d
def Zv(ha:PT X a tA):PW X (.BoolOp .And [a] pos) tA:=by
 intro d aa s σ H Q I h;refine isTrue_and<|thn (ha aa s σ H Q I h) λc f e=>?_;cases c with
 |true=>exact isTrue_and_nil e
 |false=>exact e
def FS(ha:PT X a tA):PW X (.BoolOp .Or [a] pos) tA:=by
 intro d aa s σ H Q I h;refine isTrue_or<|thn (ha aa s σ H Q I h) λc f e=>?_;cases c with
 |false=>exact isTrue_or_nil e
 |true=>exact e
def FU(ha:PT X a tA)(hb:PW X (.BoolOp .And (b::rest) pos) k8):PW X (.BoolOp .And (a::b::rest) pos) (UY tA k8):=by
 intro g aa s σ H Q I h;refine isTrue_and<|thn (ha aa s σ H _ I h) λc i ⟨e,d,f⟩=>?_;cases c with
 |true=>exact hb g aa i σ e Q d f
 |false=>exact⟨e,d,f⟩
def LG(ha:PT X a tA)(hb:PW X (.BoolOp .Or (b::rest) pos) k8):PW X (.BoolOp .Or (a::b::rest) pos) (tOr tA k8):=by
 intro g aa s σ H Q I h;refine isTrue_or<|thn (ha aa s σ H _ I h) λc i ⟨e,d,f⟩=>?_;cases c with
 |true=>exact⟨e,d,f⟩
 |false=>exact hb g aa i σ e Q d f
def FV(ha:PT X a tA):PT X (.UnaryOp .Not a pos) (UZ tA):=by intro aa s σ H Q I h;exact isTrue_not<|ha aa s σ H (λc d=>Q (!c) d) I h
def LH(ta tb:TE):TE:=λσ H Q=>ta σ H λx d=>∃c,x=.bl c/\if c=true then tb σ d Q else Q (.bl false) d
def VB(ta tb:TE):TE:=λσ H Q=>ta σ H λx d=>∃c,x=.bl c/\if c=true then Q (.bl true) d else tb σ d Q
def FW{op}{t:TE}(h:PE X a t):PE X (.BoolOp op [a] pos) t:=λaa s σ H Q I c=>BoolOp_one<|h aa s σ H Q I c
def FX(ha:PE X a ta)(hb:PE X (.BoolOp .And (b::rest) pos) tb):PE X (.BoolOp .And (a::b::rest) pos) (LH ta tb):=by
 intro aa s σ H Q I h;refine BoolOp_and<|thn (ha aa s σ H _ I h) λv j i=>C8 i λx f e g d=>?_;obtain⟨c,rfl,d⟩:=d;cases g;refine dN ?_;cases c with
 |true=>exact hb aa j σ f Q e d
 |false=>exact⟨.bl false,f,e,rfl,d⟩
def LI(ha:PE X a ta)(hb:PE X (.BoolOp .Or (b::rest) pos) tb):PE X (.BoolOp .Or (a::b::rest) pos) (VB ta tb):=by
 intro aa s σ H Q I h;refine BoolOp_or<|thn (ha aa s σ H _ I h) λv j i=>C8 i λx f e g d=>?_;obtain⟨c,rfl,d⟩:=d;cases g;refine dN ?_;cases c with
 |false=>exact hb aa j σ f Q e d
 |true=>exact⟨.bl true,f,e,rfl,d⟩
def tIf(t:TT)(ta tb:TE):TE:=λσ H Q=>t σ H λc d=>if c=true then ta σ d Q else tb σ d Q
def U1{c:lF}(hc:PT X c tA)(ha:PE X a ta)(hb:PE X b tb):PE X (.IfExp c a b pos) (tIf tA ta tb):=by
 intro aa s σ H Q I h;refine wpAny_IfExp<|thn (hc aa s σ H _ I h) λd g ⟨i,f,e⟩=>?_;cases d with
 |true=>exact ha aa g σ i Q f e
 |false=>exact hb aa g σ i Q f e
end
def Ep(K:lC)(H:Hp)(a:lB)(xs:oA V):Prop :=
 Rd H a (.lst xs) \/
  ∃(o:lI) (b:oC kZ) (n:Nat),K.lookup a=some o/\o.cls=.type "list" /\ o.dict=none/\o.data=.seq b n/\b.size<=sizeLine/\Vals xs b.toList
def Hn(K:lC)(H:Hp)(a:lB)(xs:oA V):Prop :=
 Rd H a (.tup xs) \/
  ∃(o:lI) (b:oC kZ) (n:Nat),K.lookup a=some o/\o.cls=.type "tuple" /\ o.data=.seq b n/\b.size<=sizeLine/\Vals xs b.toList
def VC:kZ->oB V
 |.none=>some .non
 |.bool b=>some (.bl b)
 |.int i _=>some (.int i)
 |.str x _=>some (.str x)
 |.bytes b _=>some (.byt b)
 |.float b _=>some (.flt b)
 |.ref a=>some (.ref a)
 |.type n=>some (.ty n)
 |_=>none
def Bf.abs{x:V}{u:kZ}(r:Bf x u):VC u=some x:=by
 cases x with
 |non=>cases r;rfl
 |bl _=>cases r;rfl
 |int _=>obtain⟨t,rfl⟩:=r;rfl
 |str _=>obtain⟨t,rfl⟩:=r;rfl
 |byt _=>obtain⟨t,rfl⟩:=r;rfl
 |flt _=>obtain⟨t,rfl⟩:=r;rfl
 |ref _=>cases r;rfl
 |ty _=>cases r;rfl
def Bf.inj{x y:V}{u:kZ}(r:Bf x u)(q:Bf y u):x=y:=aR<|r.abs.symm.trans q.abs
theorem Vals.inj:∀{xs ys:oA V} {us:oA kZ},Vals xs us->Vals ys us->xs=ys
 |_,_,_,.nil,.nil=>rfl
 |_,_,_,.cons r t,.cons a b=>by rw[r.inj a,Vals.inj t b]
section
variable {X:Cx}{aa:oA<|lB×lI}{σ:St}{H:Hp}{s:k_}{a:lB}{xs ys:oA V}{E:kZ->k_->Prop}{st:lJ}{rest:oA lJ}{t u:TS}{e:lF}{te:TE}{pos:Pos}{tg:lF}
def Ep.of{K:lC}(h:H a=some (.lst xs)):Ep K H a xs:=.inl<|.inl h
def Hn.of{K:lC}(h:H a=some (.tup xs)):Hn K H a xs:=.inl<|.inl h
def Inv.list(I:Inv X aa σ H s)(h:Ep X.K H a xs):∃b:oA kZ,Vals xs b/\PlainL s.heap a b.toArray/\xs.length<=sizeLine:=by rcases h with h|⟨o,b,n,hk,hc,d,c,hz,r⟩;obtain⟨z,b,n,r,e⟩:=h.ok I.hok;exact⟨b,r,⟨_,n,e,rfl,rfl,rfl⟩,z⟩;refine⟨b.toList,r,⟨o,n,I.kIn a o hk,hc,d,by simpa using c⟩,?_⟩;have e:=r.length;simp only[Array.length_toList]at e;omega
def Inv.tuple(I:Inv X aa σ H s)(h:Hn X.K H a xs):∃b:oA kZ,Vals xs b/\IsTup s.heap a b.toArray/\xs.length<=sizeLine:=by rcases h with h|⟨o,b,n,hk,hc,c,hz,r⟩;obtain⟨z,b,r,p⟩:=h.ok I.hok;exact⟨b,r,p,z⟩;refine⟨b.toList,r,⟨o,I.kIn a o hk,hc,n,by simpa using c⟩,?_⟩;have e:=r.length;simp only[Array.length_toList]at e;omega
def Inv.list_inj(I:Inv X aa σ H s)(h:Ep X.K H a xs)(h':Ep X.K H a ys):xs=ys:=by
 obtain⟨i,r,⟨o,n,e,_,_,d⟩,_⟩:=I.list h;obtain⟨b,g,⟨j,k,c,_,_,f⟩,_⟩:=I.list h';rw[e]at c;cases c;rw[d]at f;injection f with d1 _;have:i=b:=by simpa using b_ Array.toList d1
 subst this;exact r.inj g
def Inv.tuple_inj(I:Inv X aa σ H s)(h:Hn X.K H a xs)(h':Hn X.K H a ys):xs=ys:=by
 obtain⟨i,r,⟨o,e,_,n,d⟩,_⟩:=I.tuple h;obtain⟨b,g,⟨j,c,_,k,f⟩,_⟩:=I.tuple h';rw[e]at c;cases c;rw[d]at f;injection f with d1 _;have:i=b:=by simpa using b_ Array.toList d1
 subst this;exact r.inj g
abbrev Cx.wish(X:Cx)(E:kZ->k_->Prop):Cx:={X with xe:=E}
abbrev Cx.nox(X:Cx):Cx:=X.wish λ_ _=>False
def Cx.Ok.wish{X:Cx}(ok:X.Ok)(E:kZ->k_->Prop):(X.wish E).Ok :=
 ⟨ok.mod,ok.kind,ok.glob,ok.blt,ok.above,ok.inj,ok.has,ok.cab,ok.hd,ok.frames,ok.stk,ok.exf,ok.bs,ok.bsz,ok.noex,ok.exfs,ok.funs,ok.frf⟩
def Cx.Ok.unwish{X:Cx}{E:kZ->k_->Prop}(ok:(X.wish E).Ok):X.Ok :=
 ⟨ok.mod,ok.kind,ok.glob,ok.blt,ok.above,ok.inj,ok.has,ok.cab,ok.hd,ok.frames,ok.stk,ok.exf,ok.bs,ok.bsz,ok.noex,ok.exfs,ok.funs,ok.frf⟩
def Inv.wish(I:Inv X aa σ H s)(E:kZ->k_->Prop):Inv (X.wish E) aa σ H s:=⟨I.ok.wish E,I.os,I.bare,I.base,I.loc,I.cell,I.free,I.freeC,I.pin,I.hok,I.len⟩
def Inv.unwish(I:Inv (X.wish E) aa σ H s):Inv X aa σ H s:=⟨I.ok.unwish,I.os,I.bare,I.base,I.loc,I.cell,I.free,I.freeC,I.pin,I.hok,I.len⟩
theorem SP.unwish{D:Ends}{f:Flow}{d:k_}(h:SP (X.wish E) aa D f d):SP X aa D f d:=by
 cases f with
 |next=>obtain⟨b,c,I,q⟩:=h;exact⟨b,c,I.unwish,q⟩
 |brk=>obtain⟨b,c,I,q⟩:=h;exact⟨b,c,I.unwish,q⟩
 |cont=>obtain⟨b,c,I,q⟩:=h;exact⟨b,c,I.unwish,q⟩
 |ret u=>obtain⟨v,b,c,I,r,q⟩:=h;exact⟨v,b,c,I.unwish,r,q⟩
def PSs.nox{st:oA lJ}{t:TS}(h:PSs X.nox st t):PSs X st t:=λaa s σ H D I b=>
 aM (h aa s σ H D (I.wish _) b) (λ_ _ q=>q.unwish) λ_ _ z=>False.elim z
def LJ:TS:=λD σ H=>D.nx σ H
def VD(t u:TS):TS:=λD σ H=>t {D with nx:=u D} σ H
def Zw:PSs X [] LJ:=λ_ _ σ H _ I h=>hJ ⟨σ,H,I,h⟩
def M5(h1:PS X st t)(h2:PSs X rest u):PSs X (st::rest) (VD t u):=by
 intro aa s σ H D I h;refine wpAny_execs_cons<|thn (h1 aa s σ H {D with nx:=u D} I h) λf d q=>?_;cases f with
 |next=>obtain⟨b,g,c,q⟩:=q;exact h2 aa d b g D c q
 |ret v=>exact q
 |brk=>exact q
 |cont=>exact q
def Q2(h1:PS X st t):PSs X [st] t:=by
 intro aa s σ H D I h;refine wpAny_execs_cons<|thn (h1 aa s σ H D I h) λf b q=>?_;cases f with
 |next=>exact hJ q
 |ret v=>exact q
 |brk=>exact q
 |cont=>exact q
def Inv.quiet{aa:oA<|lB×lI}{σ:St}{H:Hp}{s:k_}(I:Inv X aa σ H s):interactive X.env=false:=by simp[interactive,I.ok.kind]
def LK(te:TE):TS:=λD σ H=>te σ H λ_ b=>D.nx σ b
def Zx(he:PE X e te)(b:swapsWith e none pos.line X.env=pure false:=by rfl):PS X (.Expr e pos) (LK te):=by intro aa s σ H D I h;exact wpAny_Expr_any (thn (he aa s σ H _ I h) λv j g=>C8 g λx f d i c=>⟨σ,f,d,c⟩) I.quiet b
def VF(te:TE):TS:=λD σ H=>te σ H D.rt
def FY(he:PE X e te):PS X (.Return (some e) pos) (VF te):=by intro aa s σ H D I h;exact wpAny_Return_some<|thn (he aa s σ H _ I h) λv i f=>C8 f λx g d b c=>⟨x,σ,g,d,b,c⟩
def VH(c:TT)(t u:TS):TS:=λD σ H=>c σ H λb d=>if b=true then t D σ d else u D σ d
def LL{c:lF}{a b:oA lJ}{g:TT}(hc:PT X c g)(ha:PSs X a t)(hb:PSs X b u):PS X (.If c a b pos) (VH g t u):=by
 intro aa s σ H D I h;refine wpAny_If<|thn (hc aa s σ H _ I h) λd k ⟨i,f,j⟩=>?_;cases d with
 |true=>exact ha aa k σ i D f j
 |false=>exact hb aa k σ i D f j
def FZ:TS:=λ_ _ _=>False
def U2:PS X st FZ:=λ_ _ _ _ _ _ h=>h.elim
abbrev TG:=V->St->Hp->(St->Hp->Prop)->Prop
abbrev TGs:=oA V->St->Hp->(St->Hp->Prop)->Prop
def PG(X:Cx)(d:lF)(t:TG):Prop :=
 ∀(aa:oA<|lB×lI) (s:k_) (σ:St) (H:Hp) (v:V) (u:kZ) (Q:St->Hp->Prop),Inv X aa σ H s->Bf v u->t v σ H Q ->
  yL X.prog X.w X.A (assign d X.env u) (λ_ f=>∃ b c,Inv X aa b c f/\Q b c) X.xe s
def PGs(X:Cx)(ts:oA lF)(t:TGs):Prop :=
 ∀(aa:oA<|lB×lI) (s:k_) (σ:St) (H:Hp) (vs:oA V) (us:oA kZ) (Q:St->Hp->Prop),Inv X aa σ H s->Vals vs us->t vs σ H Q ->
  yL X.prog X.w X.A (assignInOrder ((assignEach ts X.env).map (·.2)) us) (λ_ d=>∃ b c,Inv X aa b c d/\Q b c) X.xe s
def U3(i:Nat):TG:=λv σ H Q=>Q (σ.set i<|some v) H
def Zy{i:Nat}{x:Str}(c:X.N.Nodup)(hi:X.N[i]?=some x)(hx:Loc X.env.scope x)(d:X.fn x=true\/X.env.scope.names.lookup x=some .local:=by first|exact .inl rfl|exact .inr rfl|assumption):PG X (.Name x pos) (U3 i):=by intro aa s σ H v u Q I r h;exact wpAny_assign_Name<|Fi I c hi hx r (λf b=>⟨_,H,b,h⟩) d
def VJ:TGs:=λb σ H Q=>b=[]/\Q σ H
def LM(t:TG)(u:TGs):TGs:=λd σ H Q=>∃v r,d=v::r/\t v σ H λb c=>u r b c Q
def Zz:PGs X [] VJ:=by intro aa s σ H c b Q I r h;obtain⟨e,h⟩:=h;subst e;cases r;exact assignInOrder_nil ⟨σ,H,I,h⟩
def U4{e:lF}{es:oA lF}{t:TG}{u:TGs}(h1:PG X e t)(h2:PGs X es u)
  (c:(assignEach (e::es) X.env).map (·.2)=assign e X.env::(assignEach es X.env).map (·.2):=by rfl):PGs X (e::es) (LM t u):=by
 intro aa s σ H m n Q I r h;obtain⟨v,o,f,h⟩:=h;subst f;cases r with
 |cons r k=>rw[c];refine iC<|thn (h1 aa s σ H _ _ _ I r h) λ_ l d=>?_;obtain⟨b,i,g,j⟩:=d;exact h2 aa l b i _ _ Q g k j
def VL(K:lC)(n:Nat)(t:TGs):TG:=λv σ H Q=>∃a xs,v=.ref a/\Hn K H a xs/\xs.length=n/\t xs σ H Q
def U5{es:oA lF}{k:Nat}{t:TGs}{n:Nat}(hc:X.calm=true)(h:PGs X es t)
  (hn:(assignEach es X.env).length=n:=by rfl) (l:(assignEach es X.env).findIdx? (·.1)=none:=by rfl):PG X (.Tuple es k pos) (VL X.K n t):=by
 intro aa s σ H v u Q I r c;obtain⟨a,xs,i,hq,g,c⟩:=c;subst i;cases r;obtain⟨p,d,f,hz⟩:=I.tuple hq;refine assign_Tuple_tuple (I.ok.hd hc) f (by simp[hn,<- g,d.length]) l λm hx=>?_;have j:Inv X aa σ H {s with heap:=m}:=I.kept (t':=s.toks) λb o e=>hx b o (Z_<|N_ e) e;exact h aa _ σ H xs _ Q j (by simpa using d) c
def Z0(te:TE)(g:TG):TS:=λD σ H=>te σ H λx b=>g x σ b D.nx
def GA{tg e:lF}{te:TE}{g:TG}(he:PE X e te)(i:PG X tg g)(b:swapsWithSole [tg] e pos.line X.env=pure false:=by rfl)(c:swappedStores [tg] e X.env=pure none:=by rfl)
  (h1:(assignEach [tg] X.env).map (·.2)=[assign tg X.env]:=by rfl):PS X (.Assign [tg] e pos) (Z0 te g):=by
 intro aa s σ H D I h;refine wpAny_Assign_stores (thn (he aa s σ H _ I h) λv m f=>C8 f λx k j d l=>?_) b c;rw[h1];exact thn (i aa m σ k x v _ j d l) λ_ n q=>q
def GB{i:Nat}{x:Str}{e:lF}{te:TE}{b:Pos}(k:X.N.Nodup)(hi:X.N[i]?=some x)(hx:Loc X.env.scope x)(he:PE X e te)(c:swapsWith e (some<|.Name x b) pos.line X.env=pure false:=by rfl)(n:X.fn x=true\/X.env.scope.names.lookup x=some .local:=by first|exact .inl rfl|exact .inr rfl|assumption) :
  PS X (.Assign [.Name x b] e pos) (Z0 te<|U3 i):=by
 intro aa s σ H D I h;refine wpAny_Assign_Name (thn (he aa s σ H _ I h) λv p d=>C8 d λy j g f m=>?_) c;exact Fi g k hi hx f (λo l=>⟨_,j,l,m⟩) n
def GC(c:TT)(tb:TS):TS:=λD σ H=>∃W:Nat->St->Hp->Prop,(∃m,W m σ H)/\∀m σ H,W m σ H ->
 c σ H λb h=>if b=true then ∃N:St->Hp->Prop,(∀ d g,N d g->∃f,f<m/\W f d g)/\tb {D with nx:=N,ct:=N,bk:=D.nx} σ h else D.nx σ h
def U6{c:lF}{i:oA lJ}{B:TT}{tb:TS}(hp:PassesOwn (model X.prog X.w) X.A X.env X.xe)(hc:PT X c B)(hb:PSs X i tb):PS X (.While c i [] pos) (GC B tb):=by
 intro aa s σ H D I h;obtain⟨W,⟨L,O⟩,Q⟩:=h;refine wpAny_While<|codeAny_whileLoop (λn P=>∃ k G,Inv X aa k G P/\W n k G) ?_ L ⟨σ,H,I,O⟩;rintro n S ⟨g,C,R,M⟩;refine fH hp<|thn (hc aa S g C _ R<|Q n g C M) λb J ⟨y,z,l⟩=>?_;cases b with
 |true=>
  obtain⟨N,F,l⟩:=l;rw[T_ rfl];refine fH hp<|thn (hb aa J g y _ z l) λf T m=>?_;cases f with
  |next=>obtain⟨d,j,r,p⟩:=m;obtain⟨x,o,q⟩:=F d j p;exact⟨x,o,d,j,r,q⟩
  |cont=>obtain⟨d,j,r,p⟩:=m;obtain⟨x,o,q⟩:=F d j p;exact⟨x,o,d,j,r,q⟩
  |brk=>exact m
  |ret v=>exact m
 |false=>rw[O_ V_];exact hJ ⟨g,y,z,l⟩
structure It where
 go:Nat->Hp->Prop
 yld:Nat->Hp->V->Hp->Prop
 stop:Nat->Hp->Prop
def Fj(X:Cx)(aa:oA<|lB×lI)(H:Hp)(b:lB):Prop :=
 H b=none/\b≠X.env.locals/\b∉X.fs/\(b∈X.ex\/X.s₀.heap.objs.size<=b)/\(∀x c,X.env.cells.lookup x=some c->c≠b)/\∀p∈X.pn++aa,p.1≠b
def Inv.fpOk{X:Cx}{aa:oA<|lB×lI}{σ:St}{H H':Hp}{s:k_}{b:lB}(I:Inv X aa σ H s)(hb:s.heap.objs.size<=b)(hn:H' b=none):Fj X aa H' b:=by refine⟨hn,dJ<|S_ I.lt hb,I.nofs hb,.inr<|G_ I.sz hb,λx c e z=>?_,λp hp z=>?_⟩;obtain⟨v,q⟩:=I.cell x c e;exact absurd (S_ q.lt<|by rw[z];exact hb)<|cF _;exact absurd (S_ (N_ (I.pin p hp).1)<|by rw[z];exact hb)<|cF _
structure Turn(P:lD)(w:lE)(K:lC)(tg:lF)(J:It)(fp:oA lB)(it:lB)(tn:Nat->lH->Prop):Prop where
 mem:it∈fp
 obj:∀i h,tn i h->∀b∈fp,∃o,h.get? b=some o/\∀v,o.data≠.cell v
 keep:∀i h h',tn i h->(∀b∈fp,∀o,h.get? b=some o->h'.get? b=some o)->tn i h'
 item:∀(X:Cx),X.prog=P->X.w=w->X.K=K->X.calm=true->∀(i:Nat) (aa:oA<|lB×lI) (s:k_) (σ:St) (H:Hp) (E:kZ->k_->Prop),Inv X aa σ H s->(∀b∈fp,Fj X aa H b)->tn i s.heap->J.go i H ->
  yL P w X.A (pyNext<|.ref it) (λr s1=>∃u,r=some u /\
   yL P w X.A (letOwnedTupleGo tg (.ref it) u) (λ_ s2=>∃x H',Inv X aa σ H' s2/\Bf x u/\J.yld i H x H'/\tn (i+1) s2.heap/\∀b∈fp,H' b=none) E s1) E s
 done:∀(X:Cx),X.prog=P->X.w=w->X.K=K->X.calm=true->∀(i:Nat) (aa:oA<|lB×lI) (s:k_) (σ:St) (H:Hp) (E:kZ->k_->Prop),Inv X aa σ H s->(∀b∈fp,Fj X aa H b)->tn i s.heap->J.stop i H ->
  yL P w X.A (pyNext<|.ref it) (λr s1=>r=none/\Inv X aa σ H s1) E s
 self:∀(A:lG) (i:Nat) (s:k_) (Q:kZ->k_->Prop) (E:kZ->k_->Prop),tn i s.heap->Q (.ref it) s->yL P w A (pyIter<|.ref it) Q E s
abbrev TI:=St->Hp->(It->Hp->Prop)->Prop
def PIE(X:Cx)(aa:oA<|lB×lI)(σ:St)(tg:lF)(R:It->Hp->Prop)(f:kZ)(d:k_):Prop :=
 ∃(c:lB) (fp:oA lB) (tn:Nat->lH->Prop) (J:It) (H':Hp),f=.ref c/\Inv X aa σ H' d/\Turn X.prog X.w X.K tg J fp c tn/\tn 0 d.heap/\(∀b∈fp,Fj X aa H' b)/\R J H'
def PI(X:Cx)(tg iter:lF)(b:TI):Prop :=
 ∀(aa:oA<|lB×lI) (s:k_) (σ:St) (H:Hp) (R:It->Hp->Prop),Inv X aa σ H s->b σ H R ->
  yL X.prog X.w X.A (eval iter X.env) (λv c=>yL X.prog X.w X.A (pyIter v) (PIE X aa σ tg R) X.xe c) X.xe s
def M6{M:Model}{A:lG}{E:kZ->k_->Prop}{s:k_}{tg:lF}{c:lB}{u:kZ}{o:lI}{n:String}{vs:oC kZ}{Q:Unit->k_->Prop}(d:s.heap.get? c=some o)(hc:o.cls=.type n)(f:o.data=.fields vs)
  (hn:["enumerate","zip","dict_itemiterator","dict_reverseitemiterator","odict_iterator","itertools.zip_longest","itertools.pairwise"].contains n=false) (b:Q () s):wpAny M A (letOwnedTupleGo tg (.ref c) u) Q E s:=by
 unfold letOwnedTupleGo;cases tg<;>first
  |exact C_ b
  | (cases u<;>first
    |exact C_ b
    | (refine A_ (wpAny_load d ?_)
       rw [hc, f];show wpAny M A (if (["enumerate", "zip", "dict_itemiterator", "dict_reverseitemiterator", "odict_iterator", "itertools.zip_longest", "itertools.pairwise"].contains n&&vs[0]? == some (rawInt _)) = true then _ else _) Q E s;rw [O_<|by intro h; rw [hn, Bool.false_and] at h; cases h];exact C_ b))
def Itl(K:lC)(a:lB):It :=
 ⟨λi H=>∃xs x,Ep K H a xs/\xs[i]?=some x,λi H x b=>b=H/\∀xs,Ep K H a xs->xs[i]?=some x,λi H=>∃xs,Ep K H a xs/\xs.length<=i⟩
def Itt(K:lC)(a:lB):It :=
 ⟨λi H=>∃xs x,Hn K H a xs/\xs[i]?=some x,λi H x b=>b=H/\∀xs,Hn K H a xs->xs[i]?=some x,λi H=>∃xs,Hn K H a xs/\xs.length<=i⟩
def Itr(lo:Int)(n:Nat):It:=⟨λi _=>i<n,λi H x b=>b=H/\x=.int (lo+i),λi _=>n<=i⟩
def Sr{P:lD}{w:lE}{K:lC}{tg:lF}(a f:lB):Turn P w K tg (Itl K a) [f] f (λi h=>h.IsListIter f a i) where
 mem:=by simp
 obj:=λi h st b hb=>by
  have e:b=f:=by simpa using hb
  subst e;obtain⟨o,e,c,d⟩:=st;exact⟨o,e,λv z=>by rw[d]at z;cases z⟩
 keep:=λi h g st k=>st.at λo e=>k f (by simp) o e
 item:=by intro X y A C hc i aa s σ H E I j st B;subst y A C;obtain⟨xs,x,hq,hx⟩:=B;obtain⟨J,m,p,hz⟩:=I.list hq;obtain⟨u,hu,O⟩:=m.get hx;obtain⟨l,n,N,r,q,D⟩:=j f (by simp);refine wpAny_pyNext_list_item st p.isList (x:=u) (by simpa using hu) λg F G=>?_;have L:Inv X aa σ H {s with heap:=g}:=I.turned (t':=s.toks) (λb o hb e=>(G.2 b hb).trans e) l n r q D;obtain⟨o,e,c,d⟩:=id F;exact⟨u,rfl,M6 (s:={s with heap:=g}) e c d (by decide) ⟨x,H,L,O,⟨rfl,λys hy=>by rw[I.list_inj hy hq];exact hx⟩,F,λb hb=>(j b hb).1⟩⟩
 done:=by intro X y A C hc i aa s σ H E I j st B;subst y A C;obtain⟨xs,hq,hx⟩:=B;obtain⟨J,m,p,hz⟩:=I.list hq;obtain⟨l,n,N,r,q,D⟩:=j f (by simp);have Q:=m.length;exact wpAny_pyNext_list_end (I.ok.hd hc) st p.isList (by simp;omega) λg M=>⟨rfl,I.turned (t':=s.toks) (λb o hb e=>M b o hb e) l n r q D⟩
 self:=λ_ _ _ _ _ st h=>wpAny_pyIter_listiter st h
def Pb{P:lD}{w:lE}{K:lC}{tg:lF}(a f:lB):Turn P w K tg (Itt K a) [f] f (λi h=>h.IsTupleIter f a i) where
 mem:=by simp
 obj:=λi h st b hb=>by
  have e:b=f:=by simpa using hb
  subst e;obtain⟨o,e,c,d⟩:=st;exact⟨o,e,λv z=>by rw[d]at z;cases z⟩
 keep:=λi h g st k=>st.at λo e=>k f (by simp) o e
 item:=by intro X A B D hc i aa s σ H E I j st C;subst A B D;obtain⟨xs,x,hq,hx⟩:=C;obtain⟨y,m,p,hz⟩:=I.tuple hq;obtain⟨u,hu,O⟩:=m.get hx;obtain⟨l,n,N,r,q,F⟩:=j f (by simp);refine wpAny_pyNext_tuple_item st (show s.heap.IsTuple a y.toArray from p) (x:=u) (by simpa using hu) λg G J=>?_;have L:Inv X aa σ H {s with heap:=g}:=I.turned (t':=s.toks) (λb o hb e=>(J.2 b hb).trans e) l n r q F;obtain⟨o,e,c,d⟩:=id G;exact⟨u,rfl,M6 (s:={s with heap:=g}) e c d (by decide) ⟨x,H,L,O,⟨rfl,λys hy=>by rw[I.tuple_inj hy hq];exact hx⟩,G,λb hb=>(j b hb).1⟩⟩
 done:=by intro X A B D hc i aa s σ H E I j st C;subst A B D;obtain⟨xs,hq,hx⟩:=C;obtain⟨y,m,p,hz⟩:=I.tuple hq;obtain⟨l,n,N,r,q,F⟩:=j f (by simp);have Q:=m.length;exact wpAny_pyNext_tuple_end (I.ok.hd hc) st (show s.heap.IsTuple a y.toArray from p) (by simp;omega) λg M=>⟨rfl,I.turned (t':=s.toks) (λb o hb e=>M b o hb e) l n r q F⟩
 self:=λ_ _ _ _ _ st h=>wpAny_pyIter_tupleiter st h
def Pc{P:lD}{w:lE}{K:lC}{tg:lF}(c:lB)(lo:Int)(n:Nat):Turn P w K tg (Itr lo n) [c] c (λi h=>IsRangeIter h c (lo+(i:Nat)*1) ((n:Int)-(i:Nat)) 1) where
 mem:=by simp
 obj:=λi h st b hb=>by
  have e:b=c:=by simpa using hb
  subst e;exact⟨_,st,λv z=>by
   have C:Data.fields _=Data.cell v:=z;cases C⟩
 keep:=λi h d st k=>k c (by simp) _ st
 item:=by intro X q p x hc i aa s σ H E I f st r;subst q p x;obtain⟨g,j,J,m,l,y⟩:=f c (by simp);have W:=Walks.range (prog:=X.prog) (w:=X.w) (I.ok.hd hc) c lo 1 n;refine W.item i s _ _ r st λv d B hv A D=>?_;obtain⟨t,rfl⟩:=hv;have F:Inv X aa σ H {s with heap:=d,toks:=B}:=I.turned (λb o hb e=>D b o (by simpa using hb) e) g j m l y;refine⟨_,rfl,M6 (s:={s with heap:=d,toks:=B}) (n := "range_iterator") A rfl rfl (by decide) ⟨.int<|lo+i,H,F,⟨t,?_⟩,⟨rfl,rfl⟩,A,λb hb=>(f b hb).1⟩⟩;rw[Int.mul_one]
 done:=by intro X q p x hc i aa s σ H E I f st r;subst q p x;obtain⟨g,j,J,m,l,y⟩:=f c (by simp);exact wpAny_pyNext_range_end (I.ok.hd hc) st (by have:n<=i:=r;omega) λd G=>⟨rfl,I.turned (t':=s.toks) (λb o hb e=>G b o hb e) g j m l y⟩
 self:=λ_ _ _ _ _ st h=>wpAny_pyIter_rangeiter st h
def U7{aa:oA<|lB×lI}{σ:St}{H:Hp}{s:k_}{R:It->Hp->Prop}{E:kZ->k_->Prop}{lo hi:Int}{t u v:Tok}{tk:Nat}(I:Inv X aa σ H s)(h1:-(2^62)<=lo)(h2:lo<2^62)(g:-(2^62)<=hi)(d:hi<2^62)
  (q:R (Itr lo (hi-lo).toNat) H):yL X.prog X.w X.A (pyIter<|.ref s.heap.objs.size) (PIE X aa σ tg R) E {s with heap:=s.heap.push {cls:=.type "range",data:=.fields #[.int lo t,.int hi u,.int 1 v]},toks:=tk}:=by
 refine wpAny_pyIter_range (IsRange.new ..) (small_one h1 h2 g d) ?_;have c:Inv X aa σ H {s with heap:=s.heap.push {cls:=.type "range",data:=.fields #[.int lo t,.int hi u,.int 1 v]},toks:=tk}:=I.kept λb o e=>DD _ e;refine⟨(s.heap.push {cls:=.type "range",data:=.fields #[.int lo t,.int hi u,.int 1 v]}).objs.size,[(s.heap.push {cls:=.type "range",data:=.fields #[.int lo t,.int hi u,.int 1 v]}).objs.size],_,_,H,rfl,
  c.kept (t':=tk) λb o e=>DD _ e,Pc _ lo (hi-lo).toNat,?_,λb hb=>?_,q⟩
 have f:lo+((0:Nat):Int)*1=lo:=by simp
 have h:(((hi-lo).toNat:Nat):Int)-((0:Nat):Int)=Builtin.Range.rangeSize lo hi 1:=by rw[rangeSize_one];split<;>omega
 show IsRangeIter _ _ (lo+((0:Nat):Int)*1) ((((hi-lo).toNat:Nat):Int)-((0:Nat):Int)) 1;rw[f,h];exact K_ _ rfl;have e:b=(s.heap.push {cls:=.type "range",data:=.fields #[.int lo t,.int hi u,.int 1 v]}).objs.size:=by simpa using hb
 subst e;exact c.fpOk (F_ _)<|c.hok.fresh<|F_ _
def LN(c:TA):TI:=λσ H R=>c σ H λd b=>∃j:Int,d=[.int j]/\-(2^62)<=j/\j<2^62/\R (Itr 0 j.toNat) b
def Ss{a:lF}{c:TA}{p pos:Pos}(k:Gl X "range") (g:X.mg "range" = none) (ha:PA X [a] c) (d:starEach [a] X.env=[(false,eval a X.env)]:=by rfl):PI X tg (.Call (.Name "range" p) [a] [] pos) (LN c):=by
 intro aa s σ H R I h;refine Call_<|Dx I k g boot_range<|bG (thn (ha pos aa s σ H _ I h) λw x m=>C8 m λv o l f b=>?_) d rfl;obtain⟨j,e,b,i,q⟩:=b;subst e;cases f with
 |cons r n=>cases n;obtain⟨t,rfl⟩:=r;exact call_range_1<|U7 l (by omega) (by omega) b i<|by simpa using q
def VM(h:TI)(g:TG)(tb:TS):TS:=λD σ H=>h σ H λJ k=>∃W:Nat->Nat->St->Hp->Prop,(∃m,W 0 m σ k)/\∀i m σ H,W i m σ H ->
 (J.stop i H/\D.nx σ H)\/(J.go i H/\∃N:St->Hp->Prop,(∀ b c,N b c->∃f,f<m/\W (i+1) f b c)/\∀x c,J.yld i H x c->g x σ c λd j=>tb {D with nx:=N,ct:=N,bk:=D.nx} d j)
def Iq(fp:oA lB)(h:lH):oA (lB×lI):=fp.filterMap λb=>(h.get? b).map λo=>(b,o)
def E6{fp:oA lB}{h:lH}{b:lB}{o:lI}(hb:b∈fp)(e:h.get? b=some o):(b,o)∈Iq fp h:=List.mem_filterMap.mpr ⟨b,hb,by rw[e];rfl⟩
def Su{fp:oA lB}{h:lH}{p:lB×lI}(hp:p∈Iq fp h):p.1∈fp/\h.get? p.1=some p.2:=by
 obtain⟨b,hb,e⟩:=List.mem_filterMap.mp hp;cases q:h.get? b with
 |none=>rw[q]at e;cases e
 |some o=>rw[q]at e;have c:(b,o)=p:=aR e;subst c;exact⟨hb,q⟩
def Inv.pinned{aa:oA<|lB×lI}{σ:St}{H:Hp}{s:k_}{fp:oA lB}(I:Inv X aa σ H s)(g:∀b∈fp,Fj X aa H b)(h:∀b∈fp,∃o,s.heap.get? b=some o/\∀v,o.data≠.cell v):Inv X (aa++Iq fp s.heap) σ H s :=
 I.pins_of λp hp=>(Q_.mp hp).elim (λz=>I.pin p<|aK _ z) λz=>by obtain⟨hb,e⟩:=Su z;obtain⟨f,i,j,_⟩:=g p.1 hb;obtain⟨o,c,d⟩:=h p.1 hb;rw[e]at c;cases c;exact⟨e,f,i,j,d⟩
def Inv.unpinned{aa b:oA<|lB×lI}{σ:St}{H:Hp}{s:k_}(I:Inv X (aa++b) σ H s):Inv X aa σ H s:=I.pins_of λp hp=>I.pin p<|aK _<|Y_ _ hp
def U8{iter:lF}{y:oA lJ}{wi:TI}{g:TG}{tb:TS}{pos:Pos}(hp:PassesOwn (model X.prog X.w) X.A X.env X.xe)(hc:X.calm=true)(hi:PI X tg iter wi)(hg:PG X tg g)(hb:PSs X y tb)
  (hs:∀x,foldedSetIterable iter X.env x=pure x:=by intro _;rfl):PS X (.For tg iter y [] pos) (VM wi g tb):=by
 intro aa s σ H D I h;refine wpAny_For (thn (hi aa s σ H _ I h) λv s1 h1=>thn h1 λvx s2 h2=>?_) hs;obtain⟨it,F,U,J,H2,e,I2,T,ge,f2,W,⟨m0,w0⟩,fg⟩:=h2;subst e;have O:∀{H':Hp},(∀b∈F,H' b=none)->∀b∈F,Fj X aa H' b:=λhn b hb=>⟨hn b hb,(f2 b hb).2⟩;refine codeAny_forLoop_any (λn s'=>∃i l H',Inv X aa l H' s'/\U i s'.heap/\(∀b∈F,H' b=none)/\W i n l H') ?_ m0 ⟨0,σ,H2,I2,ge,λb hb=>(f2 b hb).1,w0⟩;rintro n Z ⟨i,k,L,I3,G,C,w3⟩;rcases fg i n k L w3 with⟨stop,qn⟩|⟨go,N,hN,step⟩;refine fH hp<|thn (T.done X rfl rfl rfl hc i aa Z k L X.xe I3 (O C) G stop) λr s4 ⟨S,I4⟩=>?_;subst S;exact hJ ⟨k,L,I4,qn⟩
 ·refine fH hp<|thn (T.item X rfl rfl rfl hc i aa Z k L X.xe I3 (O C) G go) λr s4 ⟨u,S,h4⟩=>?_;subst S;refine fH hp<|thn h4 λ_ s5 pi=>?_;obtain⟨x,Y,I5,r5,y5,z,M⟩:=pi;have P:=I5.pinned (O M)<|T.obj _ _ z;refine fH hp<|thn (hg _ s5 k Y x u _ P r5<|step x Y y5) λ_ s6 sf=>?_;obtain⟨R,H6,I6,q6⟩:=sf;refine fH hp<|thn (hb _ s6 R H6 _ I6 q6) λf Q q=>?_;have again:∀{c:St} {j:Hp},Inv X (aa++Iq F s5.heap) c j Q->N c j->∃m,m<n/\∃i l H',Inv X aa l H' Q/\U i Q.heap/\(∀b∈F,H' b=none)/\W i m l H':=λ{c j} p B=>by
   obtain⟨m',hm,w7⟩:=hN c j B;refine⟨m',hm,i+1,c,j,p.unpinned,T.keep _ _ _ z λb hb o e=>(p.pin (b,o)<|aK _<|aK _<|E6 hb e).1,λb hb=>?_,w7⟩;obtain⟨o,e,d⟩:=T.obj _ _ z b hb;exact(p.pin (b,o)<|aK _<|aK _<|E6 hb e).2.1
  cases f with
  |next=>obtain⟨c,j,p,B⟩:=q;exact again p B
  |cont=>obtain⟨c,j,p,B⟩:=q;exact again p B
  |brk=>obtain⟨c,j,p,q⟩:=q;exact⟨c,j,p.unpinned,q⟩
  |ret v=>obtain⟨x7,c,j,p,r7,q⟩:=q;exact⟨x7,c,j,p.unpinned,r7,q⟩
end
abbrev R2:=V->V->Hp->VK->Prop
def G4(X:Cx)(f:kZ->kZ->Sem kZ)(r:R2):Prop :=
 ∀(b:oA<|lB×lI) (s:k_) (a:St) (H:Hp) (x y:V) (v u:kZ) (Q:VK),Inv X b a H s->Bf x v->Bf y u->r x y H Q ->
  yL X.prog X.w X.A (f v u) (EP X b a Q) X.xe s
def Et(X:Cx)(f:kZ)(r:oA V->Hp->VK->Prop):Prop :=
 ∀(b:oA<|lB×lI) (s:k_) (a:St) (H:Hp) (xs:oA V) (us:oA kZ) (Q:VK),Inv X b a H s->Vals xs us->r xs H Q ->
  yL X.prog X.w X.A (call f us) (EP X b a Q) X.xe s
def LP(r:R2)(b tb:TE):TE:=λa H Q=>b a H λx d=>tb a d λy c=>r x y c Q
def rI(C:Int->Int->Prop)(g:Int->Int->V):R2:=λx y H Q=>∃i j,x=.int i/\y=.int j/\C i j/\Q (g i j) H
def U9(g:Int->Int->V):R2:=λx y H Q=>∃i j,x=.int i/\y=.int j/\Q (g i j) H
section
variable {X:Cx}{a b c:lF}{ta tb tc:TE}{pos:Pos}{e:lF}{es:oA lF}{te:TE}{t:TA}{aa:oA<|lB×lI}{σ:St}{H:Hp}{s s':k_}{CX:CXT}{k:Nat}{f C:lB}{fd:lK}{ps:oA Str}{sp:Sp}{dvs:oA V}{ds:oA kZ}{E:XK}{x m:Str}{p a8:Pos}{o:lF}{id T:String}{r:oA V->Hp->VK->Prop}
def GD(ha:PE X a ta)(hb:PE X b tb){aa:oA<|lB×lI}{s:k_}{σ:St}{H:Hp}{R:V->V->Hp->Prop}(I:Inv X aa σ H s)
  (h:ta σ H λx l=>tb σ l λy d=>R x y d) {Q:kZ->k_->Prop} {f:kZ->kZ->Sem kZ}
  (M:∀v u j x y d,Inv X aa σ d j->Bf x v->Bf y u->R x y d->yL X.prog X.w X.A (f v u) Q X.xe j) :
  yL X.prog X.w X.A (eval a X.env) (λv g=>yL X.prog X.w X.A (eval b X.env) (λu i=>yL X.prog X.w X.A (f v u) Q X.xe i) X.xe g) X.xe s:=by
 refine thn (ha aa s σ H _ I h) λv L D=>C8 D λx l z n G=>?_;refine thn (hb aa L σ l _ z G) λu j F=>C8 F λy d J B q=>?_;exact M v u j x y d J n B q
def LQ{d:Operator}{r:R2}(j:G4 X (binaryOp d) r)(ha:PE X a ta)(hb:PE X b tb):PE X (.BinOp a d b pos) (LP r ta tb):=by intro aa s σ H Q I h;exact wpAny_BinOp<|GD ha hb I h λv u l x y n w i g q=>j aa l σ n x y v u Q w i g q
def KP{f:kZ->kZ->Sem kZ}{C:Int->Int->Prop}{g:Int->Int->Int}
  (rule:∀(i j:Int) (t u:Tok) (s:k_) (Q:kZ->k_->Prop) (E:kZ->k_->Prop),C i j->Q (.int (g i j) s.toks) {s with toks:=s.toks+1}->yL X.prog X.w X.A (f (.int i t)<|.int j u) Q E s) :
  G4 X f (rI C λi j=>.int<|g i j):=by
 intro aa s σ H x y v u Q I l d h;obtain⟨i,j,rfl,rfl,hc,q⟩:=h;obtain⟨t,rfl⟩:=l;obtain⟨n,rfl⟩:=d;exact rule i j t n s _ _ hc ⟨.int<|g i j,H,I.tok _,⟨_,rfl⟩,q⟩
def Z1{f:kZ->kZ->Sem kZ}{g:Int->Int->Int}
  (rule:∀(i j:Int) (t u:Tok) (s:k_) (Q:kZ->k_->Prop) (E:kZ->k_->Prop),Q (.int (g i j) s.toks) {s with toks:=s.toks+1}->yL X.prog X.w X.A (f (.int i t)<|.int j u) Q E s) :
  G4 X f (U9 λi j=>.int<|g i j):=by
 intro aa s σ H x y v u Q I l d h;obtain⟨i,j,rfl,rfl,q⟩:=h;obtain⟨t,rfl⟩:=l;obtain⟨n,rfl⟩:=d;exact rule i j t n s _ _ ⟨.int<|g i j,H,I.tok _,⟨_,rfl⟩,q⟩
def Z5{f:kZ->kZ->Sem kZ}{g:Int->Int->Bool}
  (rule:∀(i j:Int) (t u:Tok) (s:k_) (Q:kZ->k_->Prop) (E:kZ->k_->Prop),Q (.bool<|g i j) s->yL X.prog X.w X.A (f (.int i t)<|.int j u) Q E s) :
  G4 X f (U9 λi j=>.bl<|g i j):=by
 intro aa s σ H x y v u Q I l d h;obtain⟨i,j,rfl,rfl,q⟩:=h;obtain⟨t,rfl⟩:=l;obtain⟨n,rfl⟩:=d;exact rule i j t n s _ _ ⟨.bl<|g i j,H,I,rfl,q⟩
def CDiv(i j:Int):Prop:=0<j/\j<1073741824
def CPow(i j:Int):Prop:=0<=j/\j<=1000000/\i.natAbs<2^64
def CMul(i j:Int):Prop:=(-(2^64)<i/\i<2^64)\/(-(2^64)<j/\j<2^64)
def CMul.ok{i j:Int}(h:CMul i j):IntMulOk i j:=by rcases h with⟨h1,h2⟩|⟨h1,h2⟩;exact .of_left<|intBits_le_64 h1 h2;exact .of_right<|intBits_le_64 h1 h2
def Pd(k:Nat):(0:Int)<=2^k:=by rw[two_pow_cast];exact dU _
def GE:G4 X (binaryOp .Add) (U9 λi j=>.int<|i+j):=Z1 λ_ _ _ _ _ _ _ q=>add_int q
def GF:G4 X (binaryOp .Sub) (U9 λi j=>.int<|i-j):=Z1 λ_ _ _ _ _ _ _ q=>sub_int q
def GG:G4 X (binaryOp .Mult) (rI CMul λi j=>.int<|i*j):=KP λ_ _ _ _ _ _ _ hc q=>mul_int q hc.ok
def Z6:G4 X (binaryOp .FloorDiv) (rI CDiv λi j=>.int<|i / j):=KP λi j _ _ _ _ _ hc q=>by have h1:(0:Int)<j:=hc.1;have h2:j<1073741824:=hc.2;exact floordiv_int (by omega) (by rw[Int.fdiv_eq_ediv_of_nonneg i<|by omega];exact q)<|.inl<|PyProof.noPylong_small<|by omega
def GH:G4 X (binaryOp .Mod) (rI (λ_ j=>0<j) λi j=>.int<|i%j):=KP λi j _ _ _ _ _ hc q=>by have h1:(0:Int)<j:=hc;exact mod_int' (by omega)<|by rw[Int.fmod_eq_emod_of_nonneg i<|by omega];exact q
def GI:G4 X (binaryOp .Pow) (rI CPow λi j=>.int<|i^j.toNat):=KP λ_ _ _ _ _ _ _ hc q=>pow_int_small hc.1 hc.2.1 hc.2.2 q
def GJ:G4 X (binaryOp .LShift) (rI CPow λi j=>.int<|i*2^j.toNat):=KP λ_ _ _ _ _ _ _ hc q=>lshift_int_small hc.1 hc.2.1 hc.2.2 q
def GK:G4 X (binaryOp .RShift) (rI (λ_ j=>0<=j) λi j=>.int<|i / 2^j.toNat):=KP λi j _ _ _ _ _ hc q=>
 rshift_int hc (by rw[Int.fdiv_eq_ediv_of_nonneg i<|Pd _];exact q)
def GL:G4 X (binaryOp .BitAnd) (U9 λi j=>.int<|Builtin.bitAnd i j):=Z1 λ_ _ _ _ _ _ _ q=>and_int q
def LR:G4 X (binaryOp .BitOr) (U9 λi j=>.int<|Builtin.bitOr i j):=Z1 λ_ _ _ _ _ _ _ q=>or_int q
def Ln{aa:oA<|lB×lI}{σ:St}{H:Hp}{s:k_}{Q:VK}{k d:Bool}(I:Inv X aa σ H s)(q:Q (.bl k) H)(e:k=d):EP X aa σ Q (.bool d) s:=by subst e;exact⟨.bl k,H,I,rfl,q⟩
def LU:G4 X (compareOp .Lt) (U9 λi j=>.bl<|decide (i<j)):=Z5 λ_ _ _ _ _ _ _ q=>lt_int q
def LW:G4 X (compareOp .LtE) (U9 λi j=>.bl<|decide (i<=j)):=Z5 λ_ _ _ _ _ _ _ q=>le_int q
def LX:G4 X (compareOp .Gt) (U9 λi j=>.bl<|decide (j<i)):=Z5 λ_ _ _ _ _ _ _ q=>gt_int q
def LY:G4 X (compareOp .GtE) (U9 λi j=>.bl<|decide (j<=i)):=Z5 λ_ _ _ _ _ _ _ q=>ge_int q
def Sv:G4 X (compareOp .In) (λx y H Q=>∃i j,x=.str i/\y=.str j/\Q (.bl<|!(Builtin.Str.occurrences j i 0 j.length 1).isEmpty) H):=by intro aa s σ H x y v u Q I g d h;obtain⟨i,j,rfl,rfl,q⟩:=h;obtain⟨t,rfl⟩:=g;obtain⟨l,rfl⟩:=d;exact in_str<|Ln I q rfl
def Va:G4 X (compareOp .Is) (λx y H Q=>y=.non/\Q (.bl<|decide (x=.non)) H):=by
 intro aa s σ H x y v u Q I d g h;obtain⟨rfl,q⟩:=h;cases g;refine is_none_gen<|Ln I q ?_;cases x<;>first
  | (cases d;rfl)
  | (obtain⟨t,rfl⟩:=d;rfl)
def Q3:G4 X (compareOp .IsNot) (λx y H Q=>y=.non/\Q (.bl<|!decide (x=.non)) H):=by
 intro aa s σ H x y v u Q I d g h;obtain⟨rfl,q⟩:=h;cases g;refine isnot_none_gen<|Ln I q ?_;cases x<;>first
  | (cases d;rfl)
  | (obtain⟨t,rfl⟩:=d;rfl)
def nomark(b:lF){d:CmpOp}(h:d≠.In:=by decide)(h2:d≠.NotIn:=by decide):behindInMarks d b=false:=by
 have g:(d==CmpOp.In)=false:=by cases d<;>first|rfl|exact absurd rfl h
 have i:(d==CmpOp.NotIn)=false:=by cases d<;>first|rfl|exact absurd rfl h2
 cases b<;>simp[behindInMarks,g,i]
def Z7{d:CmpOp}{r:R2}(l:G4 X (compareOp d) r)(ha:PE X a ta)(hb:PE X b tb)(j:behindInMarks d b=false):PE X (.Compare a [d] [b] pos) (LP r ta tb):=by intro aa s σ H Q I h;exact wpAny_Compare1 (GD ha hb I h λv u n x y w z i g q=>l aa n σ w x y v u Q z i g q) j
def DW(t:TE):TT:=λσ H Q=>t σ H λx d=>∃k,x=.bl k/\Q k d
def Z8{d:CmpOp}{r:R2}(i:G4 X (compareOp d) r)(ha:PE X a ta)(hb:PE X b tb)(g:behindInMarks d b=false):PT X (.Compare a [d] [b] pos) (DW<|LP r ta tb):=by
 intro aa s σ H Q I h;refine wpAny_isTrue_Compare1 (thn (ha aa s σ H _ I h) λv N A=>C8 A λx L G B M=>thn (hb aa N σ L _ G M) λu j n=>C8 n λy l w J F=>
  thn (i aa j σ l x y v u _ w B J F) λc R ⟨z,q,O,D,k,e,P⟩=>?_) g
 subst e;cases D;exact dN ⟨q,O,P⟩
def Ir:(sizeLine:Nat)<2^63:=by rw[kX];decide
def Pe:G4 X (binaryOp .Add) (λx y H Q=>∃i j,x=.str i/\y=.str j/\i.length+j.length<=sizeLine/\Q (.str<|i++j) H):=by intro aa s σ H x y v u Q I g d h;obtain⟨i,j,rfl,rfl,hz,q⟩:=h;obtain⟨t,rfl⟩:=g;obtain⟨l,rfl⟩:=d;exact add_str (λl n=>⟨.str<|i++j,H,I.tok _,⟨_,rfl⟩,q⟩) hz
def Eg{x:V}{us:oA kZ}(r:Vals [x] us):∃u,us=[u]/\Bf x u:=by
 cases r with
 |cons d g=>cases g;exact⟨_,rfl,d⟩
def LZ{x y:V}{us:oA kZ}(r:Vals [x,y] us):∃u d,us=[u,d]/\Bf x u/\Bf y d:=by
 cases r with
 |cons g j=>
  cases j with
  |cons i h=>cases h;exact⟨_,_,rfl,g,i⟩
def Sw(hc:X.calm=true):Et X (.builtin "max") (λd H Q=>∃i j,d=[.int i,.int j]/\Q (.int<|if j>i then j else i) H):=by intro aa s σ H d n Q I r h;obtain⟨i,j,rfl,q⟩:=h;obtain⟨u,v,rfl,⟨t,rfl⟩,⟨l,rfl⟩⟩:=LZ r;refine max_two_ints (I.ok.hd hc) λw g k=>⟨_,H,I.kept k,?_,q⟩;by_cases hj:j>i;rw[T_ hj,T_ hj];exact⟨_,rfl⟩;rw[O_ hj,O_ hj];exact⟨_,rfl⟩
def Kl:Et X (.type "int") (λd H Q=>(∃i,d=[.int i]/\Q (.int i) H)\/∃k,d=[.bl k]/\Q (.int<|if k then 1 else 0) H):=by intro aa s σ H d j Q I r h;rcases h with⟨i,rfl,q⟩|⟨k,rfl,q⟩;obtain⟨u,rfl,t,rfl⟩:=Eg r;exact call_int_int ⟨.int i,H,I,⟨_,rfl⟩,q⟩;obtain⟨u,rfl,g⟩:=Eg r;cases g;exact call_int_bool ⟨.int<|if k then 1 else 0,H,I.tok _,⟨_,rfl⟩,q⟩
def Ho.some_of{v:V}{o:oB kZ}(r:Ho (some v) o):∃u,o=some u/\Bf v u:=by
 cases o with
 |none=>exact(show False from r).elim
 |some u=>exact⟨u,rfl,r⟩
structure Room(k:Nat)(A:lG):Prop where
 hd:A.handled=none
 dp:A.depth+3*k+5<recursionLimit
 un:A.units+16*k+200<cLine
 gd:A.guards=some []
def Room.mono{j k:Nat}{A:lG}(r:Room k A)(h:j<=k):Room j A:=⟨r.hd,by have:=r.dp;omega,by have:=r.un;omega,r.gd⟩
def Room.deeper{k:Nat}{A:lG}(r:Room (k+1) A)(env:Env):Room k (A.deeper env) :=
 ⟨r.hd,by have:=r.dp;show A.depth+1+3*k+5<_;omega,by have:=r.un;show A.units+3+16*k+200<_;omega,r.gd⟩
def Room.in1{k:Nat}{A:lG}(r:Room (k+1) A):Room k A.in1 :=
 ⟨r.hd,by have:=r.dp;show A.depth+3*k+5<_;omega,by have:=r.un;show A.units+1+16*k+200<_;omega,r.gd⟩
def Room.depth{k:Nat}{A:lG}(r:Room k A):A.depth<recursionLimit:=by have:=r.dp;omega
def Room.units{k:Nat}{A:lG}(r:Room k A):A.units+64<cLine:=by have:=r.un;omega
def VN:TA:=λ_ H Q=>Q [] H
def MA(ta:TE)(d:TA):TA:=λσ H Q=>ta σ H λx i=>d σ i λg h=>Q (x::g) h
def GM:PA X [] VN:=λ_ _ _ _ H Q I h=>bY ⟨[],H,I,.nil,h⟩
def Z9(ha:PE X e te)(z:PA X es t)(d:starEach (e::es) X.env=(false,eval e X.env)::starEach es X.env:=by rfl):PA X (e::es) (MA te t):=by intro pos aa s σ H Q I h;rw[d];show wpAny _ _ (spliced<|(false,eval e X.env)::backTo pos (starEach es X.env)) _ _ s;refine bA<|thn (ha aa s σ H _ I h) λu D l=>C8 l λx y n g A=>?_;exact thn (z pos aa D σ y _ n A) λG F q=>C8 q λi v B w j=>⟨x::i,v,B,.cons g w,j⟩
def VP(t:TA):TE:=λσ H Q=>t σ H λd g=>d.length<=sizeLine/\∀p,g p=none->Q (.ref p) (upd g p<|.tup d)
def VQ(t:TA):TE:=λσ H Q=>t σ H λd g=>d.length<=sizeLine/\∀p,g p=none->Q (.ref p) (upd g p<|.lst d)
def GN{x1}(h:PA X es t):PE X (.Tuple es x1 pos) (VP t):=by intro aa s σ H Q I hq;refine wpAny_Tuple_spliced (thn (h pos aa s σ H _ I hq) λl d ⟨j,i,g,r,z,q⟩=>⟨by rw[<- r.length];exact z,?_⟩);have n:i d.heap.objs.size=none:=g.hok.fresh<|F_ _;refine⟨.ref d.heap.objs.size,upd i d.heap.objs.size<|.tup j,g.laid (t':=d.toks) (λb u e=>DD _ e) (F_ _) ?_,rfl,q _ n⟩;exact⟨z,l,r,⟨_,K_ _ rfl,rfl,_,rfl⟩⟩
def GO(h:PA X es t):PE X (.List es pos) (VQ t):=by intro aa s σ H Q I hq;refine wpAny_List_spliced (thn (h pos aa s σ H _ I hq) λl d ⟨j,i,g,r,z,q⟩=>⟨by rw[<- r.length];exact z,?_⟩);have n:i d.heap.objs.size=none:=g.hok.fresh<|F_ _;refine⟨.ref d.heap.objs.size,upd i d.heap.objs.size<|.lst j,g.laid (t':=d.toks) (λb u e=>DD _ e) (F_ _) ?_,rfl,q _ n⟩;exact⟨z,l,0,r,K_ _ rfl⟩
abbrev Sp:=oA V->Hp->VK->XK->Prop
abbrev CXT:=oA Env->Hp->k_->XK->kZ->k_->Prop
structure Env0(P:lD)(w:lE)(K:lC)(mg:Str->oB kZ)(base:lH)(A:lG)(outer:oA Env)(s:k_)(H:Hp):Prop where
 frames:A.frames=some outer
 mod:Mod K mg base
 bs:∀b o,base.get? b=some o->s.heap.get? b=some o/\H b=none
 bsz:base.objs.size<=s.heap.objs.size
 funs:s.heap.FunFrames base outer
 frf:∀b∈frs outer,H b=none
 hok:HOk P w H s.heap
 bare:AllBare s.gens
def CE(outer:oA Env)(P:lD)(w:lE)(H:Hp)(s:k_)(Q:VK)(u:kZ)(s':k_):Prop :=
 ∃v d,s'.os=s.os/\AllBare s'.gens/\Un (frs outer) [] H d s.heap s'.heap/\HOk P w d s'.heap/\Bf v u/\Q v d
def CR(CX:CXT)(outer:oA Env)(P:lD)(w:lE)(H:Hp)(s:k_)(Q:VK)(E:XK)(r:lO)(s':k_):Prop :=
 match r with
 |.ok (.ret u)=>CE outer P w H s Q u s'
 |.ok _=>False
 |.error e=>CX outer H s E e s'
structure FnOk(P:lD)(w:lE)(K:lC)(mg:Str->oB kZ)(base:lH)(CX:CXT)(k:Nat)(f:lB)(fd:lK)(ps:oA Str)(sp:Sp):Prop where
 len:∀vs H Q E,sp vs H Q E->vs.length=ps.length
 run:∀(A:lG) (outer:oA Env) (s:k_) (H:Hp) (args:Args) (us:oA kZ) (vs:oA V) (Q:VK) (E:XK),Room k A->Env0 P w K mg base A outer s H->BindsTo s fd args (ps.zip us)->Vals vs us->sp vs H Q E ->
  codeAny (model P w) A (.call (.ref f) args) (CR CX outer P w H s Q E) s
def FnOk.mono{P:lD}{w:lE}{K:lC}{i:Str->oB kZ}{base:lH}{CX:CXT}{j k:Nat}{f:lB}{fd:lK}{ps:oA Str}{sp:Sp}(F:FnOk P w K i base CX j f fd ps sp)(h:j<=k) :
  FnOk P w K i base CX k f fd ps sp:=⟨F.len,λA d s H g q l Q E n=>F.run A d s H g q l Q E<|n.mono h⟩
def FnOk.imp{P:lD}{w:lE}{K:lC}{j:Str->oB kZ}{base:lH}{CX:CXT}{k:Nat}{f:lB}{fd:lK}{ps:oA Str}{sp l:Sp}(F:FnOk P w K j base CX k f fd ps sp)
  (h:∀g H Q E,l g H Q E->sp g H Q E):FnOk P w K j base CX k f fd ps l :=
 ⟨λg H Q E q=>F.len g H Q E<|h _ _ _ _ q,λA d s H i v g Q E u he hb hv n=>F.run A d s H i v g Q E u he hb hv<|h _ _ _ _ n⟩
def Env0.in1{P:lD}{w:lE}{K:lC}{d:Str->oB kZ}{base:lH}{A:lG}{outer:oA Env}{s:k_}{H:Hp}(e:Env0 P w K d base A outer s H) :
  Env0 P w K d base A.in1 outer s H:=⟨e.frames,e.mod,e.bs,e.bsz,e.funs,e.frf,e.hok,e.bare⟩
def Inv.env0(I:Inv X aa σ H s):Env0 X.prog X.w X.K X.mg X.base X.A X.stack s H :=
 ⟨I.ok.frames,I.ok.mod,I.bs,G_ I.ok.bsz I.sz,I.stack,I.stkFree,I.hok,I.bare⟩
def Inv.after{Q:VK}{u:kZ}(I:Inv X aa σ H s)(h:CE X.stack X.prog X.w H s Q u s'):EP X aa σ Q u s':=by obtain⟨v,A,os,i,n,l,r,q⟩:=h;obtain⟨y,g,d,t,j⟩:=s';obtain rfl:j=s.os:=os;exact⟨v,A,I.call (h':=y) (g':=g) (d':=d) (t':=t) (ch:=[]) n l i λb z=>absurd z<|by simp,r,q⟩
def MB(sp:Sp)(dvs:oA V)(E:XK)(t:TA):TE:=λσ H Q=>t σ H λg d=>sp (g++dvs) d Q E
def Binds(K:lC)(fd:lK)(ps:oA Str)(ds:oA kZ):Prop :=
 ∀(s:k_) (us:oA kZ),K.In s.heap->(us++ds).length=ps.length->BindsTo s fd ⟨us,[]⟩ (ps.zip<|us++ds)
def Binds.all{K:lC}{fd:lK}{ps:oA Str}(h:∀d:oA kZ,d.length=ps.length->bindArgs fd ⟨d,[]⟩=pure (ps.zip d)):Binds K fd ps []:=λs d _ g=>by rw[cP]at g ⊢;exact .of_eq<|h d g
def Passes(CX:CXT)(X:Cx)(E:XK):Prop:=∀(aa:oA<|lB×lI) (σ:St) (H:Hp) (s:k_) (e:kZ) (s':k_),Inv X aa σ H s->CX X.stack H s E e s'->X.xe e s'
def GP{aa:oA<|lB×lI}{σ:St}{H:Hp}{s:k_}{Q:VK}{us:oA kZ}{vs:oA V}(F:FnOk X.prog X.w X.K X.mg X.base CX k f fd ps sp)(i:Room k X.A)(hb:Binds X.K fd ps ds)(j:Vals dvs ds)(hx:Passes CX X E) (I:Inv X aa σ H s) (r:Vals vs us) (h:sp (vs++dvs) H Q E):yL X.prog X.w X.A (call (.ref f) us) (EP X aa σ Q) X.xe s:=by
 have d:Vals (vs++dvs) (us++ds):=r.append j;have g:(us++ds).length=ps.length:=by rw[<- d.length];exact F.len _ _ _ _ h
 refine wpAny_call<|codeAny_mono (F.run X.A X.stack s H ⟨us,[]⟩ (us++ds) (vs++dvs) Q E i I.env0 (hb s us I.kIn g) d h) λr s' hq=>?_;cases r with
 |error e=>exact hx aa σ H s e s' I hq
 |ok fl=>
  cases fl with
  |ret u=>exact I.after hq
  |next=>exact False.elim hq
  |brk=>exact False.elim hq
  |cont=>exact False.elim hq
def Q4(F:FnOk X.prog X.w X.K X.mg X.base CX k f fd ps sp)(l:Room k X.A)(i:Gl X x)(g:X.mg x=some (.ref f))(hk:PySem.W.keepIn X.K (.ref f)=true)(hb:Binds X.K fd ps ds)(n:Vals dvs ds)(hx:Passes CX X E)
  (ha:PA X (e::es) t) (hdb:(x==("__debug__" : Str))=false:=by decide) (he:starEach (e::es) X.env=(false,eval e X.env)::starEach es X.env:=by rfl) (hpl:(backTo pos<|starEach es X.env).any (·.1)=false:=by rfl) :
  PE X (.Call (.Name x p) (e::es) [] pos) (MB sp dvs E t):=by
 intro aa s σ H Q I h;refine bT<|Q1 I i g ?_ hdb;refine PySem.W.callWith_K (h₀:=X.base) I.ok.mod.kin hk (thn (ha pos aa s σ H _ I h) λy z j=>C8 j λv u d r q=>⟨d.kIn,?_⟩) he hpl;exact GP F l hb n hx d r q
structure FnScope(N P:oA Str)(sc:lM):Prop where
 kind:sc.kind=.function
 co:sc.isCoroutine=false
 gen:sc.isGenerator=false
 nd:N.Nodup
 pre:N.take P.length=P
 par:∀x∈P,sc.names.lookup x=some .local\/sc.names.lookup x=some .cell
 nofree:∀y∈sc.names,y.2≠.free
theorem Km{kindOf:Str->oB lN}{x:Str}:∀{d:oA<|Str×kZ} {m:Str->oB kZ},(∀v,(x,v)∉d)->bindL kindOf d m x=m x
 |[],_,_=>rfl
 | (n,v)::r,m,h=>by
  unfold bindL;rw[Km λw g=>h w<|aJ _ g];split;have:x≠n:=by rintro rfl;exact h v aW
  simp[this]
  rfl
theorem Kn{kindOf:Str->oB lN}{x:Str}:∀{d:oA<|Str×kZ} {m:Str->oB kZ},(∀v,(x,v)∉d)->bindC kindOf d m x=m x
 |[],_,_=>rfl
 | (n,v)::r,m,h=>by
  unfold bindC;rw[Kn λw g=>h w<|aJ _ g];split
  rfl
  have:x≠n:=by rintro rfl;exact h v aW
  simp[this]
theorem Ko{kindOf:Str->oB lN}{x:Str}{v:kZ}:∀{P:oA Str} {vs:oA kZ} {i:Nat} {m:Str->oB kZ},P.Nodup->P[i]?=some x->vs[i]?=some v->kindOf x=some .local ->
  bindL kindOf (P.zip vs) m x=some v
 |[],_,_,_,_,h,_,_=>by simp at h
 |_::_,[],_,_,_,_,h,_=>by simp at h
 |p::P,w::vs,0,m,nd,h1,h2,hk=>by simp at h1 h2;subst h1;subst h2;show bindL kindOf ((p,w)::P.zip vs) m p=_;unfold bindL;rw[Km λv hv=>(cQ.mp nd).1 (fI hv).1,T_ hk];simp
 |p::P,w::vs,i+1,m,nd,h1,h2,hk=>by show bindL kindOf ((p,w)::P.zip vs) m x=_;unfold bindL;exact Ko (i:=i) (cQ.mp nd).2 (by simpa using h1) (by simpa using h2) hk
theorem Kq{kindOf:Str->oB lN}{x:Str}{v:kZ}:∀{P:oA Str} {vs:oA kZ} {i:Nat} {m:Str->oB kZ},P.Nodup->P[i]?=some x->vs[i]?=some v->kindOf x≠some .local ->
  bindC kindOf (P.zip vs) m x=some v
 |[],_,_,_,_,h,_,_=>by simp at h
 |_::_,[],_,_,_,_,h,_=>by simp at h
 |p::P,w::vs,0,m,nd,h1,h2,hk=>by simp at h1 h2;subst h1;subst h2;show bindC kindOf ((p,w)::P.zip vs) m p=_;unfold bindC;rw[Kn λv hv=>(cQ.mp nd).1 (fI hv).1,O_ hk];simp
 |p::P,w::vs,i+1,m,nd,h1,h2,hk=>by show bindC kindOf ((p,w)::P.zip vs) m x=_;unfold bindC;exact Kq (i:=i) (cQ.mp nd).2 (by simpa using h1) (by simpa using h2) hk
def start(N:oA Str)(vs:oA V):St:=vs.map some++List.replicate (N.length-vs.length) none
def Hq(CX:CXT)(P:lD)(w:lE)(K:lC)(mg:Str->oB kZ)(base:lH)(N:oA Str)(g:Str)(d:lM)(f:lB)(h:kZ)(A:lG)(outer:oA Env)(s:k_)(H:Hp)(E:XK):Cx where
 prog:=P
 w:=w
 K:=K
 mg:=mg
 base:=base
 A:=A.deeper (envOfC g d s.heap.objs.size f h)
 N:=N
 s₀:=s
 H₀:=H
 env:=envOfC g d s.heap.objs.size f h
 outer:=outer
 stack:=envOfC g d s.heap.objs.size f h::outer
 ex:=[]
 calm:=true
 fn:=λ_=>true
 pn:=[]
 xe:=λe s'=>yL P w (A.deeper<|envOfC g d s.heap.objs.size f h) («leaving» (envOfC g d s.heap.objs.size f h) e) (λ_ i=>CX outer H s E e i) (λj i=>CX outer H s E j i) s'
def M7{sc:lM}{n:Nat}{x:Str}(h:sc.names.lookup x=some .cell):∃c,(cellsFrom n sc.names []).lookup x=some c:=by have q:=iI sc.names n []<|.inl h;exact dA.mp q
def Kr{CX:CXT}{P:lD}{w:lE}{K:lC}{F:Str->oB kZ}{base:lH}{N ps:oA Str}{g:Str}{d:lM}{f:lB}{B:kZ}{A:lG}{outer:oA Env}{s G:k_}{H:Hp}{E:XK}{us:oA kZ}{vs:oA V}
  (S:FnScope N ps d) (L:A.handled=none) (j:Env0 P w K F base A outer s H) (O:vs.length=ps.length) (r:Vals vs us)
  (x:InCallC s s.heap.objs.size (bindL (envOfC g d s.heap.objs.size f B).kindOf (ps.zip us) λ_=>none) (cellsFrom (s.heap.objs.size+1) d.names []) (bindC (envOfC g d s.heap.objs.size f B).kindOf (ps.zip us) λ_=>none) G) :
  Inv (Hq CX P w K F base N g d f B A outer s H E) [] (start N vs) H G:=by
 have I:ps.length<=N.length:=by have:=b_ List.length S.pre;rw[bD]at this;omega
 obtain⟨h1,Q,rfl,hk⟩:=x.done;have D:∀b:lB,b∉(Hq CX P w K F base N g d f B A outer s H E).ex:=λb z=>absurd (show b∈([]:oA lB) from z) (by simp);refine⟨⟨j.mod,S.kind,rfl,rfl,F_ _,λy z c h1 h2=>?_,λy hy=>?_,λy c _ h=>?_,λ_=>L,Around.frames_deeper j.frames,.inr ⟨rfl,rfl⟩,λb z=>absurd z<|D b,j.bs,j.bsz,λb _ _=>D b,λb z=>absurd z<|D b,j.funs,j.frf⟩,
  rfl,j.bare,Un.kept hk,⟨_,x.toInCall.ns,λi y v h1 h2 M=>?_⟩,λy c h=>⟨_,x.cell y c h⟩,j.hok.fresh<|F_ _,λy c h=>?_,λp hp=>absurd (show p∈([]:oA<|lB×lI) from hp)<|by simp,j.hok.kept hk,?_⟩
 exact name_of_addr x.apart (fW h1)<|fW h2
 have hy:d.names.lookup y=some .cell\/d.names.lookup y=some .free:=hy;rcases hy with hy|hy;exact M7 hy;exact absurd rfl<|S.nofree _<|fW hy;exact cX<|x.above y c<|fW h
 ·have hi:i<vs.length:=by
   unfold start at h2;by_cases hi:i<vs.length;exact hi;rw[cU<|by simpa using hi]at h2;rw[List.getElem?_replicate]at h2;split at h2<;>cases h2
  have ha:vs[i]?=some v:=by
   unfold start at h2;rw[cW<|by simpa using hi,L_]at h2;cases e:vs[i]? with
   |none=>rw[e]at h2;cases h2
   |some a=>rw[e]at h2;cases h2;rfl
  obtain⟨u,hu,J⟩:=r.get ha;have hp:ps[i]?=some y:=by rw[<- S.pre,List.getElem?_take_of_lt<|by omega];exact h1
  have l:ps.Nodup:=by rw[<- S.pre];exact S.nd.sublist<|fL _ _
  refine⟨u,J,?_⟩;rcases S.par y (X_ hp) with k|k;exact .inl ⟨k,Ko l hp hu k⟩;obtain⟨c,e⟩:=M7 (n:=s.heap.objs.size+1) k;refine .inr ⟨.inl k,c,e,?_⟩;have q:=x.cell y c e;rw[Kq l hp hu<|by show d.names.lookup y≠_;rw[k];decide]at q;exact q
 exact j.hok.fresh<|cX<|x.above y c<|fW h
 unfold start;show _=N.length;rw[P_,B_,List.length_replicate];omega
def Vb{CX:CXT}{P:lD}{w:lE}{K:lC}{D:Str->oB kZ}{base:lH}{k:Nat}{f:lB}{name g:Str}{h:Arguments}{i:oA lJ}{d:lM}{M kV R L l ct oc:kZ}{Z od:oB lB}
  {e7:oC<|oB kZ} {N ps:oA Str} {sp:Sp} (lk:K.lookup f=some ⟨oc,od,.func<|PySem.W.fnOf name g h i d M kV R L Z l ct,e7⟩) (cy:PySem.W.codeIn K l g=true) (S:FnScope N ps d)
  (len:∀vs H Q E,sp vs H Q E->vs.length=ps.length)
  (bz:∀(A:lG) (outer:oA Env) (s:k_) (H:Hp) (vs:oA V) (Q:VK) (E:XK),Room k (A.deeper<|envOfC g d s.heap.objs.size f l)->sp vs H Q E ->
   ∃t,PSs (Hq CX P w K D base N g d f l A outer s H E) i t/\t {nx:=λ_ H'=>Q .non H',rt:=Q} (start N vs) H) :
  FnOk P w K D base CX (k+1) f (PySem.W.fnOf name g h i d M kV R L Z l ct) ps sp:=by
 refine⟨len,λA outer s H args us vs Q E G B hb r Y=>?_⟩;have hl:=len _ _ _ _ Y;have KX:K.In s.heap:=B.mod.kin.keeps λb o e=>(B.bs b o e).1;have zc:s.heap.NoLimit:=B.mod.nolimit.keeps λb o e=>(B.bs b o e).1;have i6:∀y∈ps.zip us,d.names.lookup y.1=some .local\/(d.names.lookup y.1=some .cell/\((cellsFrom (s.heap.objs.size+1) d.names []).lookup y.1).isSome=true):=λ⟨n,v⟩ hy=>by rcases S.par n (fI hy).1 with q|q;exact .inl q;exact .inr ⟨q,iI _ _ _<|.inl q⟩
 refine codeAny_call_function G.depth (KX _ _ lk) rfl S.co S.gen rfl (PySem.W.codeRec_of KX cy)<|hb _ _ _ _ ?_;refine wpAny_newFunctionEnv_cells S.kind i6 λenv he U x=>?_;subst he;refine⟨zc.keeps x.toInCall.keep,codeAny_func ?_⟩;obtain⟨t,ht,hq⟩:=bz A outer s H vs Q E (G.deeper _) Y;have I:Inv (Hq CX P w K D base N g d f l A outer s H E) [] (start N vs) H U:=Kr S G.hd B hl r x;refine aM (ht [] U (start N vs) H _ I hq) (λfl s' z=>?_) λe s' z=>z;have O:∀{j:St} {H':Hp} {v:V} {u:kZ},Inv (Hq CX P w K D base N g d f l A outer s H E) [] j H' s'->Bf v u->Q v H'->CE outer P w H s Q u s' :=
  λ{j H' v u} J F q=>⟨v,H',J.os,J.bare,J.base,J.hok,F,q⟩
 cases fl with
 |ret u=>obtain⟨v,j,H',J,F,q⟩:=z;exact O J F q
 |next=>obtain⟨j,H',J,q⟩:=z;exact O (v:=V.non) (u:=Value.none) J rfl q
 |brk=>obtain⟨_,_,_,q⟩:=z;exact False.elim q
 |cont=>obtain⟨_,_,_,q⟩:=z;exact False.elim q
def VR(r:oA V->Hp->VK->Prop)(t:TA):TE:=λσ H Q=>t σ H λg d=>r g d Q
def Vc(hc:Et X (.builtin id) r)(j:Gl X x)(g:X.mg x=none)(hv:bootBuiltins x=some (.builtin id))(ha:PA X (e::es) t)(hn:x ≠ "__name__" := by decide) (hdb:(x==("__debug__" : Str))=false:=by decide)
  (he:starEach (e::es) X.env=(false,eval e X.env)::starEach es X.env:=by rfl) (hpl:(backTo pos<|starEach es X.env).any (·.1)=false:=by rfl):PE X (.Call (.Name x p) (e::es) [] pos) (VR r t):=by
 intro aa s σ H Q I h;refine bT<|Dx I j g hv ?_ hn hdb;exact PyProof.Rows.callWith_builtin1 (thn (ha pos aa s σ H _ I h) λv w i=>C8 i λq n l d u=>hc aa w σ n q v Q l d u) he hpl
def Sx(hc:Et X (.type T) r)(i:Gl X x)(g:X.mg x=none)(hv:bootBuiltins x=some (.type T))(ha:PA X (e::es) t)(hn:x ≠ "__name__" := by decide) (hdb:(x==("__debug__" : Str))=false:=by decide)
  (he:starEach (e::es) X.env=(false,eval e X.env)::starEach es X.env:=by rfl) (hpl:(backTo pos<|starEach es X.env).any (·.1)=false:=by rfl):PE X (.Call (.Name x p) (e::es) [] pos) (VR r t):=by
 intro aa s σ H Q I h;refine bT<|Dx I i g hv ?_ hn hdb;exact bG (thn (ha pos aa s σ H _ I h) λu v w=>C8 w λn l j d q=>hc aa v σ l n u Q j d q) he hpl
end
end L2
namespace HT
open PySem PyProof.Rows
section
open PySem.SeqAt
open PySem.AutoSeq1 (wpAny_loadPart')
open PySem.MeetsSeq PySem.MeetsSeq2 PySem.MeetsSeq3
end
section
variable {prog:lD}{w:lE}{A:lG}{E:kZ->k_->Prop}{s:k_}
def cat_tup{t b:lB}{vs a:oA kZ}{Q:kZ->k_->Prop}(p:IsTup s.heap t vs.toArray)(hb:IsTup s.heap b a.toArray)(hv:vs≠[])
  (h1:a=[]->Q (.ref t) s) (h2:a≠[]->Q (.ref s.heap.objs.size) {s with heap:=s.heap.push {cls:=.type "tuple",data:=.seq (vs++a).toArray}})
  (hsz:vs.length+a.length<=sizeLine):yL prog w A (binaryOp .Add (.ref t)<|.ref b) Q E s:=by
 obtain⟨⟨cls,dd,data,m⟩,h,hc,n,o⟩:=id p;obtain⟨⟨l,f,data2,d⟩,i,c,k,j⟩:=id hb;simp only at hc o c j;subst hc o c j;have e:vs.toArray++a.toArray=(vs++a).toArray:=by simp
 by_cases g:a=[];exact concat_meets ⟨_,h,rfl⟩ ⟨_,i,rfl⟩ kF seq_tuple_add iJ iF (gW _ _)
  (tuple_addW1 t b vs.toArray a.toArray n k dd f m d (by simpa using hv)<|by simp[g]) ⟨h,i,h1 g⟩
 refine concat_meets ⟨_,h,rfl⟩ ⟨_,i,rfl⟩ kF seq_tuple_add iJ iF (gW _ _)
  (tuple_addW2 t b vs.toArray a.toArray n k dd f m d (by simpa using hv) (by simpa using g)<|by rw[R_,R_];exact hsz) ⟨h,i,?_⟩
 rw[e];exact h2 g
def sIx(n d:Nat):oB Int->Nat
 |none=>d
 |some v=>if v<0 then(v+(n:Int)).toNat else min v.toNat n
def sIx_none(n d:Nat):sIx n d none=d:=rfl
def sIx_nat(n d k:Nat):sIx n d (some (k:Int))=min k n:=by show(if(k:Int)<0 then((k:Int)+(n:Int)).toNat else min (k:Int).toNat n)=min k n;rw[O_<|by omega,dY]
def GQ(n d:Nat)(a:d<=n)(o:oB Int):sIx n d o<=n:=by
 cases o with
 |none=>exact a
 |some v=>show(if v<0 then(v+(n:Int)).toNat else min v.toNat n)<=n;by_cases hv:v<0;rw[T_ hv];omega;rw[O_ hv];exact Nat.min_le_right _ _
def Q5(v:Int)(n d:Nat):(if v<0 then max (v+(n:Int)) 0 else min v (n:Int))=((sIx n d (some v):Nat):Int):=by show(if v<0 then max (v+(n:Int)) 0 else min v (n:Int))=(((if v<0 then(v+(n:Int)).toNat else min v.toNat n):Nat):Int);by_cases hv:v<0;simp only[if_pos hv];omega;simp only[if_neg hv];omega
def Pg(lo hi:oB Int)(n:Nat):Builtin.Slice.sliceAdjust lo hi 1 (n:Int)=(((sIx n 0 lo:Nat):Int),((sIx n n hi:Nat):Int)):=by
 have h1:¬((1:Int)<0):=by omega
 unfold Builtin.Slice.sliceAdjust;simp only[h1,if_false];refine kY ?_ ?_
 ·cases lo with
  |none=>rfl
  |some v=>exact Q5 v n 0
 ·cases hi with
  |none=>rfl
  |some v=>exact Q5 v n n
def Ph(i j:Nat):Builtin.Slice.slicePlaces (i:Int) (j:Int) 1=j-i:=by
 unfold Builtin.Slice.slicePlaces;have h1:(1:Int)>0:=by omega
 simp only[h1,if_true,Int.ediv_one];split<;>omega
def Iu{v:kZ}{o:oB Int}{Q:oB Int->k_->Prop}(p:IsPart v o)(h:Q o s):yL prog w A (Builtin.Slice.slicePartIndex v) Q E s:=by
 cases p with
 |none=>exact slicePart_none h
 |int i t=>exact slicePart_int h
def Eu{e:lB}{c d:kZ}{lo hi:oB Int}{n:Nat}{Q:Int×Int×Nat->k_->Prop}(f:s.heap.IsSliceOf e c d .none)(i:IsPart c lo)(g:IsPart d hi)
  (h:Q (((sIx n 0 lo:Nat):Int),1,sIx n n hi-sIx n 0 lo) s):yL prog w A (Builtin.Slice.sliceApplied (.ref e)<|pure (n:Int)) Q E s:=by
 obtain⟨os,b,j,a⟩:=id f;unfold Builtin.Slice.sliceApplied Builtin.Slice.sliceFields;refine A_<|A_<|bQ b a (x:=c) rfl<|A_<|bQ b a (x:=d) rfl<|A_<|bQ b a (x:=.none) rfl<|C_ ?_;refine A_<|slicePart_none ?_;show wpAny _ _ (if((1:Int)==0)=true then _ else _) _ _ s;rw[O_<|by decide];refine A_<|Iu i<|A_<|Iu g<|A_<|C_ ?_;show wpAny _ _ (match Builtin.Slice.sliceAdjust lo hi 1 (n:Int) with|(lo,hi)=>pure (lo,(1:Int),Builtin.Slice.slicePlaces lo hi 1)) _ _ s;rw[Pg lo hi n];show wpAny _ _ (pure (((sIx n 0 lo:Nat):Int),(1:Int),Builtin.Slice.slicePlaces ((sIx n 0 lo:Nat):Int) ((sIx n n hi:Nat):Int) 1)) _ _ s;rw[Ph];exact C_ h
def Vd(xs:oC kZ)(i k:Nat):((List.range k).filterMap λ(m:Nat)=>xs[((i:Int)+(m:Int)*1).toNat]?).toArray=((xs.toList.drop i).take k).toArray:=by
 have e:(λ(m:Nat)=>xs[((i:Int)+(m:Int)*1).toNat]?)=λm=>xs[i+m]?:=by
  funext m
  have:((i:Int)+(m:Int)*1).toNat=i+m:=by omega
  rw[this]
 rw[e];have:=pick_run xs i k;rw[List.filterMap_map]at this;have a:((λx=>xs[x]?) ∘ λx=>i+x)=λm=>xs[i+m]?:=rfl;rw[a]at this;rw[this]
def getItem_tuple_cut{t c:lB}{items:oC kZ}{f g:kZ}{lo hi:oB Int}{Q:kZ->k_->Prop}(a:IsTup s.heap t items)(e:s.heap.IsSliceOf c f g .none)(p:IsPart f lo)(i:IsPart g hi)
  (j:¬(sIx items.size 0 lo=0/\sIx items.size items.size hi=items.size))
  (h:Q (.ref s.heap.objs.size) {s with heap:=s.heap.push {cls:=.type "tuple",data:=.seq ((items.toList.drop<|sIx items.size 0 lo).take<|sIx items.size items.size hi-sIx items.size 0 lo).toArray}})
  (hsz:items.size<=sizeLine):yL prog w A (getItem (.ref t)<|.ref c) Q E s:=by
 have b:sizeOk (.seq ((items.toList.drop<|sIx items.size 0 lo).take<|sIx items.size items.size hi-sIx items.size 0 lo).toArray):=by show((items.toList.drop<|sIx items.size 0 lo).take<|sIx items.size items.size hi-sIx items.size 0 lo).toArray.size<=sizeLine;rw[R_,bD,dB,dF];omega
 have hj:sIx items.size items.size hi<=items.size:=GQ _ _ (F_ _) hi;obtain⟨os,d,o,k⟩:=id e;have l:s.TypeIs (.ref c) "slice" := ⟨os,d,o⟩;unfold getItem
 try with_reducible refine bS ?_
 first|refine A_ (C_ ?_)|skip
 refine A_ (wpAny_sequenceKey a.typeIs (by decide) ?_);refine A_<|aU (name:=Str.ofString "__getitem__") a.typeIs cL
  (aO cL a.typeIs entry_tuple_getitem ?_<|args_tuple_getitem _ _)
 show wpAny _ _ (Builtin.Tuple.tupleItemsOf (.ref t)>>=_) _ _ s;refine A_<|tupleItemsOf_ a ?_;refine A_<|iK l ?_;rw[T_<|by decide];refine A_<|Eu e p i ?_;have n:¬((((sIx items.size 0 lo:Nat):Int)==0&&(1:Int)==1&&(sIx items.size items.size hi-sIx items.size 0 lo)==items.size)=true):=by intro q;rw[aV,aV]at q;have u:((sIx items.size 0 lo:Nat):Int)=0:=eq_of_beq q.1.1;have r:sIx items.size items.size hi-sIx items.size 0 lo=items.size:=eq_of_beq q.2;exact j ⟨by omega,by omega⟩
 show wpAny _ _ (if(((sIx items.size 0 lo:Nat):Int)==0&&(1:Int)==1&&(sIx items.size items.size hi-sIx items.size 0 lo)==items.size)=true then _ else _) _ _ s;rw[O_ n,Vd]
 first
  |exact A_ (m:=Builtin.Tuple.tupleExact _) (aC (C_ ⟨_,rfl,C_ h⟩) b)
  |exact A_ (m:=Builtin.Tuple.tupleExact _) (aC (A_<|C_<|C_ ⟨_,rfl,C_ h⟩) b)
  |exact A_ (A_ (m:=Builtin.Tuple.tupleExact _)<|aC (C_<|C_ ⟨_,rfl,C_ h⟩) b)
  |exact A_<|A_ (m:=Builtin.Tuple.tupleExact _)<|aC (C_ ⟨_,rfl,C_ h⟩) b
end
end HT
namespace L2
open PySem PySem.Spec PyProof.Rows
abbrev TO:=St->Hp->(oB Int->Hp->Prop)->Prop
def PO(X:Cx)(e:oB lF)(t:TO):Prop :=
 ∀(b:oA<|lB×lI) (s:k_) (a:St) (H:Hp) (Q:oB Int->Hp->Prop),Inv X b a H s->t a H Q ->
  yL X.prog X.w X.A (evalPart e X.env) (λu d=>∃o c,Inv X b a c d/\IsPart u o/\Q o c) X.xe s
def AB:TO:=λ_ H Q=>Q none H
def MC(t:TE):TO:=λa H Q=>t a H λx b=>∃i,x=.int i/\Q (some i) b
section
variable {X:Cx}{e:lF}{te:TE}{lo hi:oB lF}{tl th:TO}{pos p2:Pos}{a b:lF}{ta tb:TE}{o:lF}{es:oA lF}{to:TE}{t:TA}{name:Str}{a8 ao:Pos}{T id:String}{r:V->oA V->Hp->VK->Prop}
def AD:PO X none AB:=by intro d s c H Q I h;rw[evalPart_none];exact C_ ⟨none,H,I,.none,h⟩
def AF(h:PE X e te):PO X (some e) (MC te):=by intro m s k H Q I c;rw[evalPart_some];refine thn (h m s k H _ I c) λu n f=>C8 f λx j g d l=>?_;obtain⟨i,rfl,q⟩:=l;obtain⟨t,rfl⟩:=d;exact⟨some i,j,g,.int i t,q⟩
def MD(X:Cx)(r:V->oB Int->oB Int->Hp->VK->Prop):Prop :=
 ∀(g:oA<|lB×lI) (s:k_) (c:St) (H:Hp) (x:V) (v f h:kZ) (lo hi:oB Int) (d:lB) (Q:VK),Inv X g c H s->Bf x v->s.heap.IsSliceOf d f h .none->IsPart f lo->IsPart h hi->r x lo hi H Q ->
  ∃T id,typeLookup (.type T) "__getitem__" = pure (some<|.builtin id)/\s.TypeIs v T/\yL X.prog X.w X.A (getItem v<|.ref d) (EP X g c Q) X.xe s
def tSl(r:V->oB Int->oB Int->Hp->VK->Prop)(te:TE)(tl th:TO):TE:=λc H Q=>te c H λx g=>tl c g λl d=>th c d λu f=>r x l u f Q
def Ve{r:V->oB Int->oB Int->Hp->VK->Prop}(N:MD X r)(he:PE X e te)(F:PO X lo tl)(hu:PO X hi th):PE X (.Subscript e (.Slice lo hi none p2) pos) (tSl r te tl th):=by intro f s d H Q I h;refine Subscript_<|thn (he f s d H _ I h) λv S U=>C8 U λx M J E O=>?_;refine wpAny_Slice<|thn (F f S d M _ J O) λg n C=>C8 C λl y B P G=>thn (hu f n d y _ B G) λi c D=>C8 D λu j W k R=>?_;rw[evalPart_none];refine C_ ?_;have p:Inv X f d j {c with heap:=c.heap.push {cls:=.type "slice",data:=.fields #[g,i,.none]}}:=W.kept (t':=c.toks) λb Y q=>DD _ q;obtain⟨T,id,z,m,L⟩:=N f {c with heap:=c.heap.push {cls:=.type "slice",data:=.fields #[g,i,.none]}} d j x v g i l u c.heap.objs.size Q p E (Heap.IsSliceOf.new ..) P k R;show yL X.prog X.w X.A (subscriptTail e (.Slice lo hi none p2) v<|.ref c.heap.objs.size) (EP X f d Q) X.xe {c with heap:=c.heap.push {cls:=.type "slice",data:=.fields #[g,i,.none]}};exact tail_any (ops:=[.ref c.heap.objs.size,v]) m z L<|by with_unfolding_all rfl
def J8(xs:oA V)(lo hi:oB Int):oA V:=(xs.drop<|HT.sIx xs.length 0 lo).take<|HT.sIx xs.length xs.length hi-HT.sIx xs.length 0 lo
def Ib(xs:oA V)(lo hi:oB Int):(J8 xs lo hi).length<=xs.length:=by unfold J8;rw[bD,dB];omega
def VU(K:lC):V->oB Int->oB Int->Hp->VK->Prop:=λx lo hi H Q=>∃a c,x=.ref a/\Hn K H a c /\
 ¬(HT.sIx c.length 0 lo=0/\HT.sIx c.length c.length hi=c.length)/\∀p,H p=none->Q (.ref p) (upd H p<|.tup<|J8 c lo hi)
def GR:MD X (VU X.K):=by
 intro y s p H x v w z lo hi u Q I k g l i h;obtain⟨a,c,rfl,hx,j,q⟩:=h;cases k;obtain⟨m,r,f,hz⟩:=I.tuple hx;have d:m.toArray.size=c.length:=by rw[R_];exact r.length.symm
 refine⟨"tuple",_,cL.lookup,f.typeIs,?_⟩;refine HT.getItem_tuple_cut f g l i (by rw[d];exact j) ?_ (by rw[d];exact hz);rw[d];refine⟨.ref s.heap.objs.size,_,I.laid (t':=s.toks) (o:=.tup<|J8 c lo hi) (λb n q=>DD _ q) (F_ _) ?_,rfl,q _<|I.hok.fresh<|F_ _⟩;exact⟨G_ (Ib c lo hi) hz,_,(r.drop<|HT.sIx c.length 0 lo).take<|HT.sIx c.length c.length hi-HT.sIx c.length 0 lo,IsTup.new _ _⟩
def Vals.nil_iff{xs:oA V}{us:oA kZ}(r:Vals xs us):us=[]↔xs=[]:=by
 cases r with
 |nil=>simp
 |cons _ _=>simp
def AH(n:Nat)(i:Int):oB Nat:=if 0<=i then(if i<n then some i.toNat else none) else if -(n:Int)<=i then some (i+n).toNat else none
def atI{c:Type}(xs:oA c)(i:Int):oB c:=(AH xs.length i).bind λj=>xs[j]?
def AJ{n:Nat}{i:Int}{j:Nat}(h:AH n i=some j):seqIndex? i n=some j/\j<n/\-(n:Int)<=i/\i<n:=by unfold AH at h;by_cases h0:0<=i;rw[T_ h0]at h;by_cases h1:i<n;rw[T_ h1]at h;have e:i.toNat=j:=aR h;exact⟨by rw[seqIndex_of h0 h1,e],by omega,by omega,h1⟩;rw[O_ h1]at h;cases h;rw[O_ h0]at h;by_cases h1:-(n:Int)<=i;rw[T_ h1]at h;have e:(i+n).toNat=j:=aR h;exact⟨by rw[seqIndex_neg (by omega) h1,e],by omega,h1,by omega⟩;rw[O_ h1]at h;cases h
def Lo{c:Type}{xs:oA c}{i:Int}{v:c}(h:atI xs i=some v):∃j,seqIndex? i xs.length=some j/\xs[j]?=some v/\j<xs.length/\-(xs.length:Int)<=i/\i<xs.length:=by
 unfold atI at h;cases e:AH xs.length i with
 |none=>rw[e]at h;cases h
 |some j=>rw[e]at h;obtain⟨h1,h2,d,f⟩:=AJ e;exact⟨j,h1,h,h2,d,f⟩
def Aj{c:Type}{xs:oA c}{j:Nat}{v:c}(h:xs[j]?=some v):atI xs (j:Int)=some v:=by
 have hj:j<xs.length:=(D_.mp h).1;have e:AH xs.length (j:Int)=some j:=by unfold AH;rw[T_<|by omega,T_<|by omega];simp
 unfold atI;rw[e];exact h
def Q6(b:lF):Prop:=∀o i,subscripted b false o i=operate [o,i] (getItem o i)
def ME(X:Cx)(r:R2):Prop :=
 ∀(d c:lF) (g:oA<|lB×lI) (s:k_) (f:St) (H:Hp) (x y:V) (v u:kZ) (Q:VK),Inv X g f H s->Bf x v->Bf y u->r x y H Q ->
  subscripted c false v u=operate [v,u] (getItem v u)->yL X.prog X.w X.A (subscriptTail d c v u) (EP X g f Q) X.xe s
def DX(X:Cx)(id:String)(r:V->oA V->Hp->VK->Prop):Prop :=
 ∀(d:oA<|lB×lI) (s:k_) (c:St) (H:Hp) (x:V) (xs:oA V) (v:kZ) (us:oA kZ) (Q:VK),Inv X d c H s->Bf x v->Vals xs us->r x xs H Q ->
  yL X.prog X.w X.A (call (.builtin id)<|v::us) (EP X d c Q) X.xe s
def MF{r:R2}(k:ME X r)(ha:PE X a ta)(hb:PE X b tb)(c:Q6 b):PE X (.Subscript a b pos) (LP r ta tb):=by intro m s j H Q I h;exact Subscript_<|GD ha hb I h λv u g x y i l f d q=>k a b m g j i x y v u Q l f d q<|c _ _
def VX(K:lC):R2:=λx y H Q=>∃p c i v,x=.ref p/\y=.int i/\Ep K H p c/\atI c i=some v/\Q v H
def VY(K:lC):R2:=λx y H Q=>∃p c i v,x=.ref p/\y=.int i/\Hn K H p c/\atI c i=some v/\Q v H
def VZ:R2:=λx y H Q=>∃z i c,x=.str z/\y=.int i/\z.length<=sizeLine/\atI z.cps.toList i=some c/\Q (.str ⟨#[c]⟩) H
def Q7:ME X (VX X.K):=by
 intro c d k s g H x y v u Q I E D h l;obtain⟨p,L,i,z,rfl,rfl,hq,he,q⟩:=h;cases E;obtain⟨t,rfl⟩:=D;obtain⟨C,r,f,hz⟩:=I.list hq;obtain⟨j,h1,h2,M,F,B⟩:=Lo he;obtain⟨w,n,A⟩:=r.get h2;have J:=r.length;have N:=Ir;have m:EP X k g Q w s:=⟨z,H,I,A,q⟩;by_cases h0:0<=i;have hj:i.toNat=j:=by rw[seqIndex_of h0 B]at h1;exact aR h1
 exact item_listR f.isList h0 (by omega) (by rw[hj];simpa using n) m l
 have hj:(i+(C.toArray.size:Int)).toNat=j:=by rw[seqIndex_neg (by omega) F]at h1;rw[R_,<- J];exact aR h1
 exact subscriptTail_builtinR (x:=w) f.isList.typeIs slot_list_getitem.lookup
  (wpAny_getItem_list_neg (Q:=λr G=>r=w/\EP X k g Q r G) f.isList (by omega) (by rw[R_]<;>omega) (by omega) (by rw[hj];simpa using n) ⟨rfl,m⟩) l
def GS:ME X (VY X.K):=by
 intro c d g s f H x y v u Q I A n h m;obtain⟨p,F,i,z,rfl,rfl,hq,he,q⟩:=h;cases A;obtain⟨t,rfl⟩:=n;obtain⟨L,r,k,hz⟩:=I.tuple hq;obtain⟨j,h1,h2,J,N,G⟩:=Lo he;obtain⟨w,E,l⟩:=r.get h2;have C:=r.length;have M:=Ir;have D:EP X g f Q w s:=⟨z,H,I,l,q⟩;exact subscriptTail_builtinR (x:=w) k.typeIs slot_tuple_getitem.lookup
  (getItem_tuple (j:=j) (Q:=λr B=>r=w/\EP X g f Q r B) k (by omega) (by omega) (by rw[R_,<- C];exact h1) (by simpa using E) ⟨rfl,D⟩) m
def GT:ME X VZ:=by
 intro d f F s D H x y v u Q I l k h g;obtain⟨z,i,c,rfl,rfl,hz,he,q⟩:=h;obtain⟨t,rfl⟩:=l;obtain⟨C,rfl⟩:=k;obtain⟨j,h1,h2,E,m,w⟩:=Lo he;have n:z.cps.toList.length=z.length:=by simp[Str.length]
 rw[n]at h1 m w;have B:=Ir;exact tail_any (typeIs_str s z t) slot_str_getitem.lookup (getItem_str (c:=c) (by
  have p:decide (i < -(2^63:Int))=false:=aH (by omega);have A:decide (i>=2^63)=false:=aH (by omega);rw[p,A,Bool.or_false]) (by rw[h1];simpa using h2) ⟨.str ⟨#[c]⟩,H,I.tok _,⟨_,rfl⟩,q⟩) g
def Lp(lo hi:oB Int)(n:Nat):(sliceBounds lo hi none n).1=((HT.sIx n 0 lo:Nat):Int)/\(sliceBounds lo hi none n).2.1=((HT.sIx n n hi:Nat):Int)/\(sliceBounds lo hi none n).2.2=1:=by
 refine⟨?_,?_,rfl⟩
 ·cases lo with
  |none=>simp[sliceBounds,HT.sIx]
  |some i=>simp only[sliceBounds,HT.sIx,Option.getD_none,show(1:Int)>0 by decide,if_true];by_cases h:i<0;simp only[h,if_true]<;>omega;simp only[h,if_false]<;>omega
 ·cases hi with
  |none=>simp[sliceBounds,HT.sIx]
  |some i=>simp only[sliceBounds,HT.sIx,Option.getD_none,show(1:Int)>0 by decide,if_true];by_cases h:i<0;simp only[h,if_true]<;>omega;simp only[h,if_false]<;>omega
def J9(c:oA kZ)(lo hi:oB Int):slicePick c.toArray lo hi none=((c.drop<|HT.sIx c.length 0 lo).take<|HT.sIx c.length c.length hi-HT.sIx c.length 0 lo).toArray:=by obtain⟨h1,h2,d⟩:=Lp lo hi c.toArray.size;unfold slicePick;rw[h1,h2,d];simp only[sliceRange_one,pick_run,List.size_toArray]<;>rfl
def WA(K:lC):V->oB Int->oB Int->Hp->VK->Prop:=λx lo hi H Q=>∃a c,x=.ref a/\Ep K H a c/\∀p,H p=none->Q (.ref p) (upd H p<|.lst<|J8 c lo hi)
def AK:MD X (WA X.K):=by intro w s m H x v p y lo hi n Q I i f k g h;obtain⟨a,c,rfl,hx,q⟩:=h;cases i;obtain⟨u,r,d,hz⟩:=I.list hx;have j:=r.length;refine⟨"list",_,slot_list_getitem.lookup,d.isList.typeIs,?_⟩;refine wpAny_getItem_list_slice d.isList f k g .none (by simp) ?_ (by rw[R_]<;>omega);rw[J9,<- j];refine⟨.ref s.heap.objs.size,_,I.laid (t':=s.toks) (o:=.lst<|J8 c lo hi) (λb l q=>DD _ q) (F_ _) ?_,rfl,q _<|I.hok.fresh<|F_ _⟩;exact⟨G_ (Ib c lo hi) hz,_,0,(r.drop<|HT.sIx c.length 0 lo).take<|HT.sIx c.length c.length hi-HT.sIx c.length 0 lo,K_ _ rfl⟩
def Lq:G4 X (compareOp .NotIn) (λx y H Q=>∃i j,x=.str i/\y=.str j/\Q (.bl<|!(!(Builtin.Str.occurrences j i 0 j.length 1).isEmpty)) H):=by intro k s g H x y v u Q I d c h;obtain⟨i,j,rfl,rfl,q⟩:=h;obtain⟨t,rfl⟩:=d;obtain⟨f,rfl⟩:=c;exact notIn_str ⟨.bl _,H,I,rfl,q⟩
def E7:Et X (.builtin "len") (λi H Q=>∃p c,i=[.ref p]/\(Ep X.K H p c\/Hn X.K H p c)/\Q (.int c.length) H):=by intro v s m H i n Q I r h;obtain⟨p,c,rfl,hq,q⟩:=h;obtain⟨u,rfl,j⟩:=Eg r;cases j;have l:=Ir;rcases hq with hq|hq;obtain⟨k,f,g,hz⟩:=I.list hq;have d:=f.length;exact Calls.call_len_list g.isList (by simp only[List.size_toArray]<;>omega) ⟨.int c.length,H,I.tok _,⟨s.toks+1,by rw[R_,d]⟩,q⟩;obtain⟨k,f,g,hz⟩:=I.tuple hq;have d:=f.length;exact len_tuple g (by simp only[List.size_toArray]<;>omega) ⟨.int c.length,H,I.tok _,⟨s.toks+1,by rw[R_,d]⟩,q⟩
def Lr:Et X (.builtin "len") (λc H Q=>∃z,c=[.str z]/\z.length<=sizeLine/\Q (.int z.length) H):=by intro i s f H c g Q I r h;obtain⟨z,rfl,hz,q⟩:=h;obtain⟨u,rfl,t,rfl⟩:=Eg r;have d:=Ir;exact len_str (by omega) ⟨.int z.length,H,I.tok _,⟨_,rfl⟩,q⟩
def Gk:Et X (.type "tuple") (λj H Q=>∃p c,j=[.ref p]/\((Ep X.K H p c/\∀l,H l=none->Q (.ref l) (upd H l<|.tup c))\/(Hn X.K H p c/\Q (.ref p) H))):=by
 intro n s m H j A Q I r h;obtain⟨p,c,rfl,h⟩:=h;obtain⟨u,rfl,v⟩:=Eg r;cases v;rcases h with⟨hq,q⟩|⟨hq,q⟩;obtain⟨i,f,g,hz⟩:=I.list hq;have z:=f.length;refine call_tuple_list g.isList (λd x=>?_) (by simp only[List.size_toArray]<;>omega);have k:Inv X n m H {s with heap:=d}:=I.kept (t':=s.toks) x;have y:Inv X n m (upd H d.objs.size<|.tup c) {s with heap:=d.push {cls:=.type "tuple",data:=.seq i.toArray}} :=
  k.laid (t':=s.toks) (λb o e=>DD _ e) (F_ _) (show Bs X.prog X.w _ _ _ (.tup c) from⟨hz,i,f,IsTup.new _ _⟩)
 exact⟨.ref d.objs.size,_,y,rfl,q _<|k.hok.fresh<|F_ _⟩
 obtain⟨i,f,g,hz⟩:=I.tuple hq;exact call_tuple_same g ⟨.ref p,H,I,rfl,q⟩
def UC(K:lC)(T:String)(x:V)(H:Hp):Prop:=match x with
 |.str _=>T = "str"
 |.int _=>T = "int"
 |.ref p=>(T = "list" /\ ∃d,Ep K H p d)\/(T = "tuple" /\ ∃o,K.lookup p=some o/\o.cls=.type "tuple" /\ o.dict=none) \/
   (T = "dict" /\ ((∃c,H p=some (.dK c))\/∃c,H p=some (.dT c)))\/(T = "set" /\ ∃S n,H p=some (.set S n))
 |_=>False
def Vf{m:oA<|lB×lI}{l:St}{H:Hp}{s:k_}{T:String}{x:V}{v:kZ}(I:Inv X m l H s)(r:Bf x v)(ty:UC X.K T x H) :
  s.TypeIs v T/\∀a,v=.ref a->∃j,s.heap.get? a=some j/\j.dict=none:=by
 cases x with
 |str z=>obtain⟨t,rfl⟩:=r;cases (show T = "str" from ty);exact⟨typeIs_str s z t,λ_ e=>nomatch e⟩
 |int i=>obtain⟨t,rfl⟩:=r;cases (show T = "int" from ty);exact⟨typeIs_int s i t,λ_ e=>nomatch e⟩
 |ref p=>
  cases r;rcases ty with⟨rfl,q,hq⟩|⟨rfl,o,hk,hc,h⟩|⟨rfl,hk⟩|⟨rfl,S,n,hk⟩;obtain⟨u,_,k,_⟩:=I.list hq;refine⟨k.isList.typeIs,λa e=>?_⟩;cases e;obtain⟨o,n,e,c,h,_⟩:=k;exact⟨o,e,h⟩;refine⟨⟨o,I.kIn p o hk,hc⟩,λa e=>?_⟩;cases e;exact⟨o,I.kIn _ o hk,h⟩;have z:∃o,s.heap.get? p=some o/\o.ExactDict:=by rcases hk with⟨f,hk⟩|⟨f,hk⟩;obtain⟨_,_,_,_,o,_,_,e,d,_⟩:=I.hok p _ hk;exact⟨o,e,d⟩;obtain⟨_,_,_,_,o,_,_,e,d,_⟩:=I.hok p _ hk;exact⟨o,e,d⟩
  obtain⟨o,e,d⟩:=z;refine⟨⟨o,e,d.1⟩,λa g=>?_⟩;cases g;exact⟨o,e,d.2.1⟩;obtain⟨o,_,_,_,e,d,_⟩:=I.hok p _ hk;refine⟨⟨o,e,d.1⟩,λa g=>?_⟩;cases g;exact⟨o,e,d.2.1⟩
 |_=>exact False.elim ty
def GU(K:lC)(T:String)(r:V->oA V->Hp->VK->Prop)(to:TE):TE:=λd H Q=>to d H λx c=>UC K T x c/\r x [] c Q
def tBM(K:lC)(T:String)(r:V->oA V->Hp->VK->Prop)(to:TE)(t:TA):TE:=λc H Q=>to c H λx d=>UC K T x d/\t c d λf g=>r x f g Q
def Ls(k:PlainAttrs T)(slot:Slot T name id)(m:typeOf (.builtin id)=pure (.type "method_descriptor")) (i:DX X id r) (j:PE X o to)
  (n:attributeBase o name X.env (eval o X.env)=eval o X.env:=by rfl) (u:(a8.endLine==ao.line)=true:=by rfl):PE X (.Call (.Attribute o name a8) [] [] ao) (GU X.K T r to):=by
 intro g s f H Q I h;refine wpAny_Call_method0_late n u<|thn (j g s f H _ I h) λv w l=>?_;obtain⟨x,p,d,c,ty,q⟩:=l;obtain⟨h1,h2⟩:=Vf d c ty;exact⟨T,id,k,slot,m,h1,h2,gC rfl<|PySem.evalArgs_none<|i g w f p x [] v [] Q d c .nil q⟩
def DY(m:PlainAttrs T)(slot:Slot T name id)(q:typeOf (.builtin id)=pure (.type "method_descriptor")) (k:DX X id r) (l:PE X o to) (ha:PA X (e::es) t) (F:attributeBase o name X.env (eval o X.env)=eval o X.env:=by rfl) (D:((backTo ao<|starEach (e::es) X.env).all (λx=>!x.1)&&(backToKw ao<|keywordEach [] X.env).all (λx=>x.1.isSome)
   && decide ((e::es).length+([]:oA Keyword).length+(if([]:oA Keyword).isEmpty then 0 else 1)<30))=true:=by rfl) (A:(a8.endLine==ao.line)=true:=by rfl) (B:starEach (e::es) X.env=(false,eval e X.env)::starEach es X.env:=by rfl) (u:(backTo ao<|starEach es X.env).any (·.1)=false:=by rfl) :
  PE X (.Call (.Attribute o name a8) (e::es) [] ao) (tBM X.K T r to t):=by
 intro d s c H Q I h;refine wpAny_Call_method_late F D A rfl<|thn (l d s c H _ I h) λv L n=>?_;obtain⟨x,G,i,g,ty,J⟩:=n;obtain⟨h1,h2⟩:=Vf i g ty;refine⟨T,id,m,slot,q,h1,h2,?_⟩;have f:=ha ao d L c G _ i J;rw[B]at f ⊢;refine gC (by show(false||(backTo ao<|starEach es X.env).any (·.1))=false;rw[u]<;>rfl)<|jK ?_;exact thn f λM p j=>C8 j λy w z E C=>k d p c w x y v M Q z g E C
end
def WB(X:Cx)(id:String)(r:V->oA V->Hp->VK->Prop):Prop :=
 ∀(b:oA<|lB×lI) (s:k_) (a:St) (H:Hp) (x:V) (xs:oA V) (v:kZ) (us:oA kZ) (Q:VK),Inv X b a H s->Bf x v->Vals xs us->r x xs H Q ->
  yL X.prog X.w X.A (call (.builtin id)<|v::us) (EP X b a Q) X.xe s
def Vals.one:∀{x:V} {us:oA kZ},Vals [x] us->∃u,us=[u]/\Bf x u
 |_,_,.cons r .nil=>⟨_,rfl,r⟩
def Vals.zero:∀{us:oA kZ},Vals [] us->us=[]
 |_,.nil=>rfl
theorem Vals.dropLast{xs:oA V}{us:oA kZ}(h:Vals xs us):Vals xs.dropLast us.dropLast:=by
 induction h with
 |nil=>exact .nil
 |cons r t a=>
  cases t with
  |nil=>exact .nil
  |cons q b=>exact .cons r a
theorem Vals.reverse{xs:oA V}{us:oA kZ}(h:Vals xs us):Vals xs.reverse us.reverse:=by
 induction h with
 |nil=>exact .nil
 |cons r t a=>rw[iL,iL];exact Vals.append a<|.cons r .nil
def Pi{d:Type}(l:oA d):l.eraseIdx (l.length-1)=l.dropLast:=by
 induction l with
 |nil=>rfl
 |cons a r c=>
  cases r with
  |nil=>rfl
  |cons b r=>
   have e:(a::b::r).length-1=((b::r).length-1)+1:=by have h1:(a::b::r).length=r.length+2:=rfl;have h2:(b::r).length=r.length+1:=rfl;omega
   rw[e,List.eraseIdx_cons_succ,c]
   all_goals rfl
section
variable {X:Cx}{aa:oA<|lB×lI}{σ:St}{H:Hp}{s:k_}{l b:lB}{xs ys zs:oA V}
def Inv.lset{a its':oA kZ}{n:Nat}{f:oC kZ->oC kZ}{t':Nat}(I:Inv X aa σ H s)(d:H l=some (.lst xs))
  (e:s.heap.get? l=some {cls:=.type "list",data:=.seq a.toArray n}) (c:f a.toArray=its'.toArray) (hv:Vals ys its') (hz:ys.length<=sizeLine) :
  Inv X aa σ (upd H l<|.lst ys) {s with heap:=s.heap.update l<|Obj.mapSeq f,toks:=t'}:=by
 have q:=PySem.IsL.update e f;rw[c]at q;refine I.write (x:=l) (e:=l) (by rw[d];exact trivial) (.inl rfl) (λg u hb hu=>(bI s.heap (Obj.mapSeq f)<|bX hb).trans hu) ⟨_,q⟩ ?_;exact⟨hz,its',_,hv,q⟩
def Inv.lnew{a:oA kZ}{t':Nat}(I:Inv X aa σ H s)(hv:Vals ys a)(hz:ys.length<=sizeLine) :
  Inv X aa σ (upd H s.heap.objs.size<|.lst ys) {s with heap:=s.heap.push {cls:=.type "list",data:=.seq a.toArray},toks:=t'} :=
 I.laid (λ_ _ q=>DD _ q) (F_ _) ⟨hz,a,0,hv,K_ _ rfl⟩
def Inv.fresh(I:Inv X aa σ H s):H s.heap.objs.size=none:=I.hok.fresh<|F_ _
def Inv.lstM(I:Inv X aa σ H s)(c:H l=some (.lst xs)):xs.length<=sizeLine/\∃(a:oA kZ) (n:Nat),Vals xs a/\xs.length=a.length/\s.heap.get? l=some {cls:=.type "list",data:=.seq a.toArray n}:=by obtain⟨z,a,n,r,e⟩:=I.hok l _ c;exact⟨z,a,n,r,r.length,e⟩
def Vg{n:Nat}(h:n<=sizeLine):Builtin.List.listTooLong n=false:=by unfold Builtin.List.listTooLong;exact aH<|by omega
def AL:V->oA V->Hp->VK->Prop:=λx a H Q=>∃l xs y,x=.ref l/\a=[y]/\H l=some (.lst xs)/\xs.length<sizeLine/\Q .non (upd H l<|.lst<|xs++[y])
def Ks:WB X "list.append" AL:=by intro aa s σ H x j v k Q I d f h;obtain⟨l,xs,y,rfl,rfl,a,hz,q⟩:=h;cases d;obtain⟨u,rfl,g⟩:=f.one;obtain⟨z,c,n,r,i,e⟩:=I.lstM a;refine call_meets F.slot_list_append ⟨_,e,rfl⟩ F.entry_list_append (F.args_list_append_2 _ _) (PySem.list_append l c.toArray n u<|by rw[R_];omega) ⟨e,?_⟩;refine⟨.non,_,I.lset (its':=c++[u]) a e (by simp) (r.append<|.cons g .nil) ?_,rfl,q⟩;rw[P_,iZ];omega
def AM:V->oA V->Hp->VK->Prop:=λx a H Q=>∃l b xs zs,x=.ref l/\a=[.ref b]/\H l=some (.lst xs)/\H b=some (.lst zs)/\xs.length+zs.length<=sizeLine/\Q .non (upd H l<|.lst<|xs++zs)
def Sy:WB X "list.extend" AM:=by
 intro aa s σ H x w v C Q I k g h;obtain⟨l,b,xs,zs,rfl,rfl,f,o,hz,q⟩:=h;cases k;obtain⟨u,rfl,t⟩:=g.one;cases t;obtain⟨z,c,n,r,B,e⟩:=I.lstM f;obtain⟨A,a,i,m,y,p⟩:=I.lstM o;have d:c.toArray.size+a.toArray.size<=sizeLine:=by rw[R_,R_];omega
 have j:¬(!c.toArray.isEmpty&&Builtin.List.listTooLong (c.toArray.size+a.toArray.size))=true:=by rw[Vg d,Bool.and_false];exact V_
 refine call_meets F.slot_list_extend ⟨_,e,rfl⟩ F.entry_list_extend (F.args_list_extend_2 _ _) (AutoSeq1.list_extend_list_list_0 l c.toArray n b a.toArray i j (by rw[R_];omega)<|by omega) ⟨e,p,?_⟩
 refine⟨.non,_,I.lset (its':=c++a) f e (by simp) (r.append m) ?_,rfl,q⟩;rw[P_];omega
def WC:V->oA V->Hp->VK->Prop:=λx a H Q=>∃l xs y,x=.ref l/\a=[]/\H l=some (.lst xs)/\xs[xs.length-1]?=some y/\Q y (upd H l<|.lst xs.dropLast)
def GV:WB X "list.pop" WC:=by
 intro aa s σ H x m v o Q I d g h;obtain⟨l,xs,y,rfl,rfl,c,hy,q⟩:=h;cases d;have i:=g.zero;subst i;obtain⟨z,a,n,r,f,e⟩:=I.lstM c;obtain⟨u,hu,k⟩:=r.get hy;have j:a.toArray[a.toArray.size-1]?=some u:=by show a.toArray[a.length-1]?=some u;rw[<- bP,<- f];exact hu
 refine call_meets F.slot_list_pop ⟨_,e,rfl⟩ F.entry_list_pop (F.args_list_pop_1 _) (MeetsSeq.list_pop_last l a.toArray n u j<|by rw[R_];omega) ⟨e,?_⟩;refine⟨y,_,I.lset (its':=a.dropLast) c e ?_ r.dropLast ?_,k,q⟩;show a.toArray.eraseIdxIfInBounds (a.toArray.size-1)=a.dropLast.toArray;rw[R_,List.eraseIdxIfInBounds_toArray,Pi];rw[jL];omega
def WD:R2:=λx y H Q=>∃l b xs zs,x=.ref l/\y=.ref b/\H l=some (.lst xs)/\H b=some (.lst zs)/\xs.length+zs.length<=sizeLine/\∀p,H p=none->Q (.ref p) (upd H p<|.lst<|xs++zs)
def GW:G4 X (binaryOp .Add) WD:=by
 intro aa s σ H x y v u Q I g d h;obtain⟨l,b,xs,zs,rfl,rfl,i,k,hz,q⟩:=h;cases g;cases d;obtain⟨z,c,n,r,p,e⟩:=I.lstM i;obtain⟨o,a,t,j,w,m⟩:=I.lstM k;refine PySem.P.add_list e m ?_ (by rw[R_,R_];omega);have f:c.toArray++a.toArray=(c++a).toArray:=by simp
 rw[f];exact⟨.ref _,_,I.lnew (t':=s.toks) (r.append j)<|by rw[P_];omega,rfl,q _ I.fresh⟩
end
section
variable {κ:Type} [DecidableEq κ]
def El(kvs:oA<|κ×V)(k:κ):oB V:=(kvs.find? λa=>decide (a.1=k)).map (·.2)
def putK(kvs:oA<|κ×V)(k:κ)(v:V):oA (κ×V) :=
 if(kvs.any λa=>decide (a.1=k))=true then kvs.map (λa=>if a.1=k then(a.1,v) else a) else kvs++[(k,v)]
def Iv{p:κ×V}{r:oA<|κ×V}{k:κ}(e:p.1=k):El (p::r) k=some p.2:=by simp[El,List.find?_cons,e]
def Iw{p:κ×V}{r:oA<|κ×V}{k:κ}(e:¬p.1=k):El (p::r) k=El r k:=by simp[El,List.find?_cons,e]
theorem M8(k:κ):∀a:oA<|κ×V,(a.any λb=>decide (b.1=k))=(El a k).isSome
 |[]=>rfl
 |p::r=>by rw[dX];by_cases e:p.1=k;simp only[Iv e,decide_eq_true e,Bool.true_or,Option.isSome_some];rw[Iw e,aH e,kD];exact M8 k r
def Eh(kvs:oA<|κ×V)(k:κ)(v:V):(putK kvs k v).length<=kvs.length+1:=by unfold putK;split;rw[B_];omega;rw[P_,bE,List.length_nil];omega
def Ho.isSome_eq{o:oB V}{u:oB kZ}(r:Ho o u):o.isSome=u.isSome:=by
 cases o with
 |none=>cases u with
  |none=>rfl
  |some _=>exact(show False from r).elim
 |some _=>cases u with
  |none=>exact(show False from r).elim
  |some _=>rfl
theorem Ho.getD{o:oB V}{u:oB kZ}{d:V}{d':kZ}(r:Ho o u)(rd:Bf d d'):Bf (o.getD d) (u.getD d'):=by
 cases o with
 |none=>cases u with
  |none=>exact rd
  |some _=>exact(show False from r).elim
 |some _=>cases u with
  |none=>exact(show False from r).elim
  |some _=>exact r
def KV.val{kvs:oA<|κ×V}{vs:oA<|κ×kZ}(r:KV kvs vs)(k:κ):Ho (El kvs k) (valueAt vs k):=by
 unfold KV at r
 induction r with
 |nil=>exact True.intro
 |@cons p q f c h t d=>
  obtain⟨h1,h2⟩:=h;by_cases e:p.1=k;have a:q.1=k:=h1.symm.trans e;have b:valueAt (q::c) k=some q.2:=by simp[valueAt,List.find?_cons,a]
  rw[Iv e,b];exact h2;have a:¬q.1=k:=λz=>e<|h1.trans z;have b:valueAt (q::c) k=valueAt c k:=by simp[valueAt,List.find?_cons,a]
  rw[Iw e,b];exact d
theorem KV.any{kvs:oA<|κ×V}{vs:oA<|κ×kZ}(r:KV kvs vs)(k:κ):(kvs.any λa=>decide (a.1=k))=vs.any λa=>decide (a.1=k):=by
 unfold KV at r
 induction r with
 |nil=>rfl
 |cons h t b=>rw[dX,dX,b,h.1]
def KV.repl{kvs:oA<|κ×V}{vs:oA<|κ×kZ}(r:KV kvs vs)(k:κ){y:V}{u:kZ}(b:Bf y u) :
  KV (kvs.map λa=>if a.1=k then(a.1,y) else a) (vs.map λa=>if a.1=k then(a.1,u) else a):=by
 unfold KV at r ⊢
 induction r with
 |nil=>exact .nil
 |@cons p q d f h t c=>rw[aS,aS];refine .cons ?_ c;obtain⟨h1,h2⟩:=h;by_cases e:p.1=k;rw[T_ e,T_<|h1.symm.trans e];exact⟨h1,b⟩;rw[O_ e,O_ λz=>e<|h1.trans z];exact⟨h1,h2⟩
def KV.put{kvs:oA<|κ×V}{vs:oA<|κ×kZ}(r:KV kvs vs)(k:κ){y:V}{u:kZ}(a:Bf y u):KV (putK kvs k y) (stored vs k u):=by unfold putK stored;rw[r.any k];by_cases e:(vs.any λb=>decide (b.1=k))=true;rw[T_ e,T_ e];exact r.repl k a;rw[O_ e,O_ e];exact iG r ⟨rfl,a⟩
def KV.length{kvs:oA<|κ×V}{vs:oA<|κ×kZ}(r:KV kvs vs):kvs.length=vs.length:=bB r
end
def Ix{P:lD}{w:lE}{k:Key}{u:kZ}(r:Bf (kV k) u):(Bo P w).is k u=true:=by
 cases k with
 |inl i=>obtain⟨t,e⟩:=(show ∃t,u=Value.int i t from r);subst e;exact Fg P w i t
 |inr x=>obtain⟨t,e⟩:=(show ∃t,u=Value.str x t from r);subst e;exact Fh P w x t
theorem Ku{P:lD}{w:lE}:∀{ks:oA Key} {us:oA kZ},Vals (ks.map kV) us->ItemsAre (Bo P w) ks us
 |[],_,r=>by rw[List.map_nil]at r;cases r;exact .nil
 |k::ks,_,r=>by
  rw[aS]at r;cases r with
  |cons h t=>exact .cons (Ix h)<|Ku t
abbrev KT(H:Hp):oA (oA Key×V)->oA (oA Key×lB×kZ)->Prop:=Paired λp q=>p.1=q.1/\H q.2.1=some (.tup<|p.1.map kV)/\Bf p.2 q.2.2
def KT.val{H:Hp}{kvs:oA<|oA Key×V}{xs:oA<|oA Key×lB×kZ}(r:KT H kvs xs)(k:oA Key):Ho (El kvs k) ((atKey xs k).map (·.2)):=by
 induction r with
 |nil=>exact True.intro
 |@cons p q f c h t d=>
  obtain⟨h1,_,h2⟩:=h;by_cases e:p.1=k;have a:q.1=k:=h1.symm.trans e;have b:atKey (q::c) k=some q.2:=by simp[atKey,List.find?_cons,a]
  rw[Iv e,b];exact h2;have a:¬q.1=k:=λz=>e<|h1.trans z;have b:atKey (q::c) k=atKey c k:=by simp[atKey,List.find?_cons,a]
  rw[Iw e,b];exact d
def KT.repl{H:Hp}{kvs:oA<|oA Key×V}{xs:oA<|oA Key×lB×kZ}(r:KT H kvs xs)(k:oA Key){y:V}{u:kZ}(b:Bf y u) :
  KT H (kvs.map λa=>if a.1=k then(a.1,y) else a) (xs.map<|putAt k u):=by
 induction r with
 |nil=>exact .nil
 |@cons p q f g h t c=>rw[aS,aS];refine .cons ?_ c;obtain⟨h1,h2,d⟩:=h;unfold putAt;by_cases e:p.1=k;rw[T_ e,T_<|h1.symm.trans e];exact⟨h1,h2,b⟩;rw[O_ e,O_ λz=>e<|h1.trans z];exact⟨h1,h2,d⟩
def KT.put{H:Hp}{kvs:oA<|oA Key×V}{xs:oA<|oA Key×lB×kZ}(r:KT H kvs xs)(k:oA Key){b:lB}{y:V}{u:kZ}(hb:H b=some (.tup<|k.map kV))(a:Bf y u) :
  KT H (putK kvs k y) (storedH xs k b u):=by
 have e:(kvs.any λc=>decide (c.1=k))=(atKey xs k).isSome:=by rw[M8,(r.val k).isSome_eq,iM]
 unfold putK storedH;rw[e];by_cases q:(atKey xs k).isSome=true;rw[T_ q,T_ q];exact r.repl k a;rw[O_ q,O_ q];exact iG r ⟨rfl,hb,a⟩
def KT.keeps{H H':Hp}{kvs:oA<|oA Key×V}{xs:oA<|oA Key×lB×kZ}(r:KT H kvs xs)(c:∀b a,H b=some (.tup a)->H' b=some (.tup a)):KT H' kvs xs :=
 Paired.mapP r λ_ _ z=>⟨z.1,c _ _ z.2.1,z.2.2⟩
section
variable {P:lD}{w:lE}{H:Hp}{h:lH}{a:lB}{X:Cx}{aa:oA<|lB×lI}{σ:St}{s:k_}{y v:V}{u r:kZ}{o:oB V}{A:lG}{E:kZ->k_->Prop}
def DZ{u:HO}(ok:HOk P w H h)(e:Rd H a u):Bs P w H h a u:=e.ok ok
def Ic{kvs:oA<|Key×V}(ok:HOk P w H h)(e:Rd H a<|.dK kvs):kvs.length<=sizeLine/\(a==sysModules)=false/\∃b,KV kvs b/\h.DictOf (Bo P w) a b :=
 show Bs P w H h a (.dK kvs) from DZ ok e
def EA{kvs:oA<|Key×V}(ok:HOk P w H h)(e:H a=some (.dK kvs)):kvs.length<=sizeLine/\(a==sysModules)=false/\∃b,KV kvs b/\h.DictOf (Bo P w) a b:=Ic ok<|.inl e
def Gq{ks:oA Key}(ok:HOk P w H h)(e:H a=some (.tup<|ks.map kV)):(tupleKind<|Bo P w).is h ks a:=by obtain⟨_,c,r,o,h1,h2,n,b⟩:=(show Bs P w H h a (.tup<|ks.map kV) from ok a _ e);exact⟨o,c.toArray,n,h1,h2,b,by simpa using Ku r⟩
def Iy{kvs:oA<|oA Key×V}(ok:HOk P w H h)(e:Rd H a<|.dT kvs):kvs.length<=sizeLine/\(a==sysModules)=false /\
  ∃b,KT H kvs b/\h.DictOfH (tupleKind<|Bo P w) a b:=by
 obtain⟨z,y,b,r,o,i,j,h1,h2,g,d,f⟩:=(show Bs P w H h a (.dT kvs) from DZ ok e);refine⟨z,y,b,r,o,i,j,h1,h2,g,d,λx hx=>?_,f⟩;have all:∀{l:oA<|oA Key×V} {m:oA<|oA Key×lB×kZ},KT H l m->∀x∈m,(tupleKind<|Bo P w).is h x.1 x.2.1:=by
  intro l m q
  induction q with
  |nil=>intro x hx;exact nomatch hx
  |@cons p q k n hq t c=>intro x hx;rcases aD.mp hx with e|hx;subst e;exact Gq ok (by rw[<- hq.1];exact hq.2.1);exact c x hx
 exact all r x hx
def M9{kvs:oA<|oA Key×V}(ok:HOk P w H h)(e:H a=some (.dT kvs)):kvs.length<=sizeLine/\(a==sysModules)=false /\
  ∃b,KT H kvs b/\h.DictOfH (tupleKind<|Bo P w) a b:=Iy ok<|.inl e
def DGet(H:Hp)(a:lB)(y:V)(r:oB V):Prop :=
 (∃c k,Rd H a (.dK c)/\y=kV k/\r=El c k)\/∃c k b,Rd H a (.dT c)/\y=.ref b/\H b=some (.tup<|k.map kV)/\r=El c k
def DPut(H:Hp)(a:lB)(y v:V)(H':Hp):Prop :=
 (∃c k,H a=some (.dK c)/\y=kV k/\c.length<sizeLine/\H'=upd H a (.dK<|putK c k v)) \/
 ∃c k b,H a=some (.dT c)/\y=.ref b/\H b=some (.tup<|k.map kV)/\c.length<sizeLine/\H'=upd H a (.dT<|putK c k v)
def DGet.k{H:Hp}{a:lB}{kvs:oA<|Key×V}{k:Key}(e:H a=some (.dK kvs)):DGet H a (kV k) (El kvs k):=.inl ⟨kvs,k,.inl e,rfl,rfl⟩
def DGet.t{H:Hp}{a b:lB}{kvs:oA<|oA Key×V}{k:oA Key}(e:H a=some (.dT kvs))(c:H b=some (.tup<|k.map kV)):DGet H a (.ref b) (El kvs k):=.inr ⟨kvs,k,b,.inl e,rfl,c,rfl⟩
def DPut.k{H:Hp}{a:lB}{kvs:oA<|Key×V}{k:Key}{v:V}(e:H a=some (.dK kvs))(b:kvs.length<sizeLine):DPut H a (kV k) v (upd H a<|.dK<|putK kvs k v):=.inl ⟨kvs,k,e,rfl,b,rfl⟩
def DPut.t{H:Hp}{a b:lB}{kvs:oA<|oA Key×V}{k:oA Key}{v:V}(e:H a=some (.dT kvs))(d:H b=some (.tup<|k.map kV))(c:kvs.length<sizeLine) :
  DPut H a (.ref b) v (upd H a<|.dT<|putK kvs k v):=.inr ⟨kvs,k,b,e,rfl,d,c,rfl⟩
def Inv.big(I:Inv X aa σ H s):sysModules<s.heap.objs.size:=by have h:mainGlobals<s.heap.objs.size:=(I.mod.glob.keeps I.bk).lt;exact Nat.lt_trans (by decide) h
def Sz{Q:kZ->k_->Prop}(hu:A.units+1<cLine)(I:Inv X aa σ H s)(g:DGet H a y<|some v)(n:Bf y u)(h:∀d q,Inv X aa σ H q->Bf v d->Q d q) :
  yL X.prog X.w A (getItem (.ref a) u) Q E s:=by
 rcases g with⟨j,k,e,m,l⟩|⟨j,k,b,e,m,B,l⟩;subst m;obtain⟨z,D,C,c,dd⟩:=Ic I.hok e;obtain⟨d,f,i⟩:=Ho.some_of (v:=v) (o:=valueAt C k) (by rw[l];exact c.val k);exact wpAny_getItem_of (Ix n) dd.mapOf f<|h d _ (I.tok _) i;subst m;cases (show u=Value.ref b from n);obtain⟨z,D,t,c,dd⟩:=Iy I.hok e;obtain⟨d,f,i⟩:=Ho.some_of (v:=v) (o:=(atKey t k).map (·.2)) (by rw[l];exact c.val k);obtain⟨p,hp,x⟩:=H_.mp f;refine wpAny_getItem_heap (e_ hu) (Gq I.hok B) dd hp ?_;rw[x];exact h d _ (I.tok _) i
def WE{Q:kZ->k_->Prop}(hu:A.units+1<cLine)(I:Inv X aa σ H s)(g:DGet H a y o)(j:Bf y u)(h:∀m,Inv X aa σ H m->Q (.bool o.isSome) m) :
  yL X.prog X.w A (compareOp .In u<|.ref a) Q E s:=by
 rcases g with⟨d,k,e,f,l⟩|⟨d,k,b,e,f,n,l⟩;subst f;obtain⟨z,i,t,c,dd⟩:=Ic I.hok e;refine wpAny_in_of (Ix j) i dd.mapOf ?_;rw[<- (c.val k).isSome_eq,<- l];exact h _<|I.tok _;subst f;cases (show u=Value.ref b from j);obtain⟨z,i,p,c,dd⟩:=Iy I.hok e;refine wpAny_in_heap (e_ hu) (Gq I.hok n) i dd ?_;have q:=(c.val k).isSome_eq;rw[iM]at q;rw[<- q,<- l];exact h _<|I.tok _
def AN{Q:kZ->k_->Prop}(hu:A.units+1<cLine)(I:Inv X aa σ H s)(g:DGet H a y o)(j:Bf y u)(h:∀m,Inv X aa σ H m->Q (.bool<|!o.isSome) m) :
  yL X.prog X.w A (compareOp .NotIn u<|.ref a) Q E s:=by
 rcases g with⟨d,k,e,f,l⟩|⟨d,k,b,e,f,n,l⟩;subst f;obtain⟨z,i,t,c,dd⟩:=Ic I.hok e;refine wpAny_notIn_of (Ix j) i dd.mapOf ?_;rw[<- (c.val k).isSome_eq,<- l];exact h _<|I.tok _;subst f;cases (show u=Value.ref b from j);obtain⟨z,i,p,c,dd⟩:=Iy I.hok e;refine wpAny_notIn_heap (e_ hu) (Gq I.hok n) i dd ?_;have q:=(c.val k).isSome_eq;rw[iM]at q;rw[<- q,<- l];exact h _<|I.tok _
def F6{h':lH}{t':Nat}{c:HO}(I:Inv X aa σ H s)(g:Mut<|H a)(f:Heap.SameBut a s.heap h')(he:∃q,h'.get? a=some q)(d:Bs X.prog X.w (upd H a c) h' a c) :
  Inv X aa σ (upd H a c) {s with heap:=h',toks:=t'} :=
 I.write (x:=a) (e:=a) g (.inl rfl) (λb q hb z=>(f.2 b hb).trans z) he d
def Vh{P:lD}{w:lE}{H':Hp}{h':lH}{kvs:oA<|Key×V}{vs:oA<|Key×kZ}(z:kvs.length<=sizeLine)(c:(a==sysModules)=false)(b:KV kvs vs)(dd:h'.DictOf (Bo P w) a vs) :
  Bs P w H' h' a (.dK kvs):=⟨z,c,vs,b,dd⟩
def S9{H':Hp}{Q:Unit->k_->Prop}(hu:A.units+1<cLine)(I:Inv X aa σ H s)(g:DPut H a y v H')(C:Bf y u)(x:Bf v r)(h:∀D,Inv X aa σ H' D->Q () D) :
  yL X.prog X.w A (setItem (.ref a) u r) Q E s:=by
 rcases g with⟨d,k,e,t,l,j⟩|⟨d,k,b,e,t,F,l,j⟩;subst t j;obtain⟨z,m,M,f,dd⟩:=EA I.hok e;have hz:M.length<=sizeLine:=by rw[<- f.length];exact z
 have p:(putK d k v).length<=sizeLine:=by have:=Eh d k v;omega
 refine wpAny_setItem_pairs (hsz:=hz) (Ix C) dd λB i n=>h _ ?_;have he:∃q,B.get? a=some q:=let⟨q,_,_,hq,_⟩:=i;⟨q,hq⟩
 exact F6 I (by rw[e];exact True.intro) n he<|Vh p m (f.put k x) i
 subst t j;cases (show u=Value.ref b from C);obtain⟨z,m,J,f,dd⟩:=M9 I.hok e;have hz:J.length<=sizeLine:=by rw[<- bB f];exact z
 have p:(putK d k v).length<=sizeLine:=by have:=Eh d k v;omega
 refine wpAny_setItem_heap (hsz:=hz) (e_ hu) (Gq I.hok F) dd λB i n=>h _ ?_;obtain⟨q,O,S,hq,h2,N,R,_,L⟩:=i;refine F6 I (by rw[e];exact True.intro) n ⟨q,hq⟩ ⟨p,m,_,(f.put k F x).keeps λc T G=>?_,q,O,S,hq,h2,N,R,L⟩;rw[An<|M3 G e (λz=>nomatch z)];exact G
end
section
variable {X:Cx}{aa:oA<|lB×lI}{σ:St}{H:Hp}{s:k_}{a:lB}{kvs:oA<|Key×V}{k:Key}{u:kZ}{A:lG}{E:kZ->k_->Prop}{o i e value:lF}{pos cq ju:Pos}{td ty tv:TE}
def MG{Q:kZ->k_->Prop}(I:Inv X aa σ H s)(e:Rd H a<|.dK kvs)(h:∀t c,Inv X aa σ H c->Q (.int kvs.length t) c):yL X.prog X.w A (call (.builtin "len") [.ref a]) Q E s:=by obtain⟨z,d,f,b,dd⟩:=Ic I.hok e;refine call_len_dict d dd (by rw[<- b.length];rw[kX]at z;omega) ?_;rw[<- b.length];exact h _ _<|I.tok _
def AQ(i:lF):Prop:=∀c b,subscripted i false c b=operate [c,b] (getItem c b)
def Q8{prog:lD}{w:lE}{A:lG}{E:kZ->k_->Prop}{s:k_}{env:Env}{value b:lF}{pos:Pos}{T id:String}{Q:kZ->k_->Prop}
  (q:typeLookup (.type T) "__getitem__" = pure (some<|.builtin id)) (p:AQ b)
  (h:yL prog w A (eval value env) (λo g=>yL prog w A (eval b env) (λi c=>c.TypeIs o T/\yL prog w A (getItem o i) Q E c) E g) E s) :
  yL prog w A (eval (.Subscript value b pos) env) Q E s:=by
 refine Subscript_<|aM h (λo g j=>aM j (λi c d=>?_) λ_ _ x=>x) λ_ _ x=>x;obtain⟨n,d⟩:=d;unfold subscriptTail;refine A_ ?_;rw[getitemInPython_of_ne n.not_modules];refine A_<|dI n q ?_;have m:yL prog w A (subscripted b false o i) (λr f=>yL prog w A (letTemporaryGo value o r>>=λ_=>pure r) Q E f) E c:=by rw[p o i];exact wpAny_operating<|aM d (λr f l=>A_<|wpAny_letTemporaryGo<|C_ l) λ_ _ x=>x
 first
  |exact C_ (A_ m)
  |exact A_ (C_<|A_ m)
  |exact A_ m
def Na{X:Cx}{aa:oA<|lB×lI}{σ:St}{H:Hp}{s:k_}{a:lB}{y:V}{o:oB V}(I:Inv X aa σ H s)(g:DGet H a y o):s.TypeIs (.ref a) "dict" := by rcases g with⟨kvs,k,e,_,_⟩|⟨kvs,k,b,e,_,_,_⟩;obtain⟨_,_,d,_,dd⟩:=Ic I.hok e;exact dd.typeIs;obtain⟨_,_,c,_,dd⟩:=Iy I.hok e;exact dd.typeIs
def MH(td ty:TE):TE:=λσ H Q=>td σ H λx c=>ty σ c λy b=>∃a v,x=.ref a/\DGet b a y (some v)/\Q v b
def MJ(ty td:TE):TE:=λσ H Q=>ty σ H λy c=>td σ c λx b=>∃a o,x=.ref a/\DGet b a y o/\Q (.bl o.isSome) b
def Q9(ty td:TE):TE:=λσ H Q=>ty σ H λy c=>td σ c λx b=>∃a o,x=.ref a/\DGet b a y o/\Q (.bl<|!o.isSome) b
def MK(td ty tv:TE):TS:=λD σ H=>tv σ H λv f=>td σ f λx c=>ty σ c λy d=>∃a b,x=.ref a/\DPut d a y v b/\D.nx σ b
def AR(hu:X.A.units+1<cLine)(l:PE X o td)(hi:PE X i ty)(c:AQ i):PE X (.Subscript o i pos) (MH td ty):=by intro aa s σ H Q I h;refine Q8 PySem.F.slot_dict_getitem.lookup c<|thn (l aa s σ H _ I h) λu C j=>C8 j λx t q m z=>thn (hi aa C σ t _ q z) λG D n=>?_;obtain⟨y,r,b,d,a,v,w,g,p⟩:=n;subst w;obtain rfl:u=Value.ref a:=m;exact⟨Na b g,Sz hu b g d λL J B f=>⟨v,r,B,f,p⟩⟩
def Vi(hu:X.A.units+1<cLine)(hi:PE X i ty)(d:PE X o td):PC X .In i o (MJ ty td):=by intro aa s σ H Q I h;refine thn (hi aa s σ H _ I h) λC w f=>C8 f λy p l b t=>thn (d aa w σ p _ l t) λu B z=>?_;obtain⟨x,m,r,c,a,n,q,g,j⟩:=z;subst q;obtain rfl:u=Value.ref a:=c;exact WE hu r g b λD v=>⟨.bl n.isSome,m,v,rfl,j⟩
def Ta(hu:X.A.units+1<cLine)(hi:PE X i ty)(d:PE X o td):PC X .NotIn i o (Q9 ty td):=by intro aa s σ H Q I h;refine thn (hi aa s σ H _ I h) λC w z=>C8 z λy n j b t=>thn (d aa w σ n _ j t) λu B p=>?_;obtain⟨x,l,r,c,a,m,q,g,f⟩:=p;subst q;obtain rfl:u=Value.ref a:=c;exact AN hu r g b λD v=>⟨.bl<|!m.isSome,l,v,rfl,f⟩
def AU(hu:X.A.units+1<cLine)(b:PE X o td)(hi:PE X i ty)(hv:PE X value tv)(q:swapsWith value (some<|.Subscript o i cq) pos.line X.env=pure false) :
  PS X (.Assign [.Subscript o i cq] value pos) (MK td ty tv):=by
 intro aa s σ H D I h;refine wpAny_Assign_Subscript (thn (hv aa s σ H _ I h) λr L f=>C8 f λv F C d J=>thn (b aa L σ F _ C J) λu c p=>C8 p λx l n w B=>thn (hi aa c σ l _ n B) λR P m=>?_) q;obtain⟨y,O,M,t,a,z,G,g,N⟩:=m;subst G;obtain rfl:u=Value.ref a:=w;exact S9 hu M g t d λQ j=>⟨σ,z,j,N⟩
def Nb{P:lD}{w:lE}{H:Hp}(h:lH)(hb:sysModules<h.objs.size):Bs P w H (h.push {cls:=.type "dict",data:=.dict #[]}) h.objs.size (.dK []) :=
 ⟨aN _,gS.mpr<|bX<|Z_ hb,[],.nil,Heap.DictOf.new h⟩
def Vj{P:lD}{w:lE}{H:Hp}(h:lH)(hb:sysModules<h.objs.size):Bs P w H (h.push {cls:=.type "dict",data:=.dict #[]}) h.objs.size (.dT []) :=
 ⟨aN _,gS.mpr<|bX<|Z_ hb,[],.nil,_,#[],0,K_ _ rfl,⟨rfl,rfl,rfl⟩,rfl,rfl,bJ⟩
def GX:TE:=λ_ H Q=>∀p,H p=none->Q (.ref p) (upd H p<|.dK [])
def GY:TE:=λ_ H Q=>∀p,H p=none->Q (.ref p) (upd H p<|.dT [])
def Vk:PE X (.Dict [] [] pos) GX:=λaa s σ H Q I h=>
 kG ⟨.ref s.heap.objs.size,_,I.laid (a:=s.heap.objs.size) (o:=.dK []) (t':=s.toks) (λ_ _ q=>DD _ q) (F_ _)<|Nb s.heap I.big,rfl,h _<|I.hok.fresh<|F_ _⟩
def Vl:PE X (.Dict [] [] pos) GY:=λaa s σ H Q I h=>
 kG ⟨.ref s.heap.objs.size,_,I.laid (a:=s.heap.objs.size) (o:=.dT []) (t':=s.toks) (λ_ _ q=>DD _ q) (F_ _)<|Vj s.heap I.big,rfl,h _<|I.hok.fresh<|F_ _⟩
end
def Lu:oA (TE×TE)->St->Hp->(oA (V×V)->Hp->Prop)->Prop
 |[],_,H,Q=>Q [] H
 | (f,b)::r,a,H,Q=>f a H λx g=>b a g λy d=>Lu r a d λc e=>Q ((x,y)::c) e
abbrev VV:oA (V×V)->oA (kZ×kZ)->Prop:=Paired λp q=>Bf p.1 q.1/\Bf p.2 q.2
def PPs(X:Cx)(c:Pos)(h:oA<|oB lF)(a:oA lF)(i:oA<|TE×TE):Prop :=
 ∀(e:oA<|lB×lI) (s:k_) (b:St) (H:Hp) (Q:oA (V×V)->Hp->Prop),Inv X e b H s->Lu i b H Q ->
  yL X.prog X.w X.A (evalPairs<|pairTrees h a X.env c) (λj g=>∃d f,Inv X e b f g/\VV d j/\Q d f) X.xe s
def AW{X:Cx}{a:Pos}:PPs X a [] [] []:=λc s b H Q I h=>pairTrees_nil_walk ⟨[],H,I,.nil,h⟩
def Vm{X:Cx}{a:Pos}{k v:lF}{ks:oA<|oB lF}{vs:oA lF}{tk e:TE}{f:oA<|TE×TE}(hk:PE X k tk)(hv:PE X v e)(A:PPs X a ks vs f) :
  PPs X a (some k::ks) (v::vs) ((tk,e)::f):=λc s b H Q I h=>
 pairTrees_cons_walk (thn (hk c s b H _ I h) λu C p=>C8 p λx z w o B=>thn (hv c C b z _ w B) λG g m=>C8 m λy i l n r=>
  thn (A c g b i _ l r) λJ F q=>C8 q λt j D d E=>⟨(x,y)::t,j,D,.cons ⟨o,n⟩ d,E⟩)
def Gr(kvs more:oA<|Key×V):oA (Key×V):=more.foldl (λa b=>putK a b.1 b.2) kvs
def KV.merge:∀{more:oA<|Key×V} {a:oA<|Key×kZ} {kvs:oA<|Key×V} {vs:oA<|Key×kZ},KV more a->KV kvs vs->KV (Gr kvs more) (merged vs a):=by
 intro more a kvs vs r;unfold KV at r
 induction r generalizing kvs vs with
 |nil=>intro q;exact q
 |@cons p q d f h t b=>
  intro c;have e:KV (putK kvs p.1 p.2) (stored vs q.1 q.2):=by have:=c.put p.1 h.2;rw[<- h.1];exact this
  exact b e
theorem Gm:∀(more kvs:oA<|Key×V),(Gr kvs more).length<=kvs.length+more.length
 |[],kvs=>by show kvs.length<=kvs.length+0;omega
 |p::r,kvs=>by have h1:=Gm r<|putK kvs p.1 p.2;have h2:=Eh kvs p.1 p.2;show(Gr (putK kvs p.1 p.2) r).length<=_;rw[bE];omega
theorem Iz{P:lD}{w:lE}:∀{kvs:oA<|Key×V} {f:oA<|kZ×kZ},VV (kvs.map λe=>(kV e.1,e.2)) f->∃d,Carries (Bo P w) f d/\KV kvs d
 |[],_,r=>by rw[List.map_nil]at r;cases r;exact⟨[],True.intro,.nil⟩
 |p::kvs,_,r=>by
  rw[aS]at r;cases r with
  |@cons a b as i h t=>obtain⟨d,c,q⟩:=Iz (P:=P) (w:=w) t;obtain⟨j,g⟩:=b;exact⟨(p.1,g)::d,⟨Ix h.1,rfl,c⟩,.cons ⟨rfl,h.2⟩ q⟩
def MM(f:oA<|TE×TE):TE:=λd H Q=>∀p,H p=none->Lu f d (upd H p<|.dK []) λe c=>c p=some (.dK [])/\∃a:oA<|Key×V,e=a.map (λb=>(kV b.1,b.2))/\a.length<=15/\Q (.ref p) (upd c p<|.dK<|Gr [] a)
def AY{X:Cx}{g:Pos}{d:oA<|oB lF}{b:oA lF}{k:oA<|TE×TE}(h:PPs X g d b k)(m:d.all (·.isSome)=true)(B:d.length=b.length)(h0:d≠[]) (E:d.length<=15):PE X (.Dict d b g) (MM k):=by
 intro u s r H Q I q;have x:=I.hok.fresh<|F_ s.heap.objs.size;have D:=I.laid (a:=s.heap.objs.size) (o:=.dK []) (h':=s.heap.push {cls:=.type "dict",data:=.dict #[]}) (t':=s.toks) (λ_ _ q=>DD _ q) (F_ _)<|Nb s.heap I.big;refine wpAny_Dict_walk (knd:=Bo X.prog X.w) m B h0 E<|thn (h u _ r _ _ D<|q _ x) λL G n=>?_;obtain⟨M,J,j,i,e,f,F,N,C⟩:=n;subst F;obtain⟨p,c,rk⟩:=Iz (P:=X.prog) (w:=X.w) i;obtain⟨z,t,A,y,dd⟩:=EA j.hok e;cases y;refine⟨p,c,dd,λh' l v=>⟨.ref s.heap.objs.size,_,?_,rfl,C⟩⟩;have hz:(Gr [] f).length<=sizeLine:=by have h1:=Gm f [];rw[List.length_nil]at h1;rw[kX];omega
 have he:∃q,h'.get? s.heap.objs.size=some q:=by obtain⟨q,_,_,hq,_⟩:=l;exact⟨q,hq⟩
 exact F6 j (by rw[e];exact True.intro) v he<|Vh hz t (rk.merge .nil) l
structure M1(X:Cx)(o:lF)(m:Str)(a8:Pos)(e:lF)(ao:Pos):Prop where
 base:attributeBase o m X.env (eval o X.env)=eval o X.env
 few:((backTo ao<|starEach [e] X.env).all (λx=>!x.1)&&(backToKw ao<|keywordEach [] X.env).all (λx=>x.1.isSome)
  && decide (([e]:oA lF).length+([]:oA Keyword).length+(if([]:oA Keyword).isEmpty then 0 else 1)<30))=true
 line:(a8.endLine==ao.line)=true
 trees:backTo ao (starEach [e] X.env)=[(false,eval e X.env)]
structure M2(X:Cx)(o:lF)(m:Str)(a8:Pos)(e f:lF)(ao:Pos):Prop where
 base:attributeBase o m X.env (eval o X.env)=eval o X.env
 few:((backTo ao<|starEach [e,f] X.env).all (λx=>!x.1)&&(backToKw ao<|keywordEach [] X.env).all (λx=>x.1.isSome)
  && decide (([e,f]:oA lF).length+([]:oA Keyword).length+(if([]:oA Keyword).isEmpty then 0 else 1)<30))=true
 line:(a8.endLine==ao.line)=true
 trees:backTo ao (starEach [e,f] X.env)=[(false,eval e X.env),(false,eval f X.env)]
def UD(H:Hp)(a:lB):Prop:=(∃b,Rd H a<|.dK b)\/∃b,Rd H a<|.dT b
def Vn{X:Cx}{i:oA<|lB×lI}{h:St}{H:Hp}{s:k_}{a:lB}(I:Inv X i h H s)(d:UD H a) :
  s.TypeIs (.ref a) "dict" /\ (∀b,Value.ref a=.ref b->∃c,s.heap.get? b=some c/\c.dict=none)/\(a==sysModules)=false:=by
 rcases d with⟨f,e⟩|⟨f,e⟩;obtain⟨_,g,k,_,dd⟩:=Ic I.hok e;refine⟨dd.typeIs,λb q=>?_,g⟩;cases q;obtain⟨c,_,_,h1,h2,_⟩:=dd;exact⟨c,h1,h2.2.1⟩;obtain⟨_,g,j,_,dd⟩:=Iy I.hok e;refine⟨dd.typeIs,λb q=>?_,g⟩;cases q;obtain⟨c,_,_,h1,h2,_⟩:=dd;exact⟨c,h1,h2.2.1⟩
section
variable {X:Cx}{aa:oA<|lB×lI}{σ:St}{H:Hp}{s:k_}{a:lB}{y d:V}{u r:kZ}{o:oB V}{A:lG}{E:kZ->k_->Prop}
def GZ{Q:kZ->k_->Prop}(hu:A.units+1<cLine)(I:Inv X aa σ H s)(g:DGet H a y o)(m:Bf y u)(rd:Bf d r)(h:∀p n,Inv X aa σ H n->Bf (o.getD d) p->Q p n) :
  yL X.prog X.w A (call (.builtin "dict.get") [.ref a,u,r]) Q E s:=by
 rcases g with⟨f,k,e,i,l⟩|⟨f,k,b,e,i,t,l⟩;subst i;obtain⟨z,j,v,c,dd⟩:=Ic I.hok e;refine iN i_ dd.typeIs PySem.F.entry_dict_get (PySem.F.args_dict_get_3 _ _ _) (meets_dict_get_default (Bo X.prog X.w) a (Ix m) j r) ⟨_,dd.mapOf,h _ _ (I.tok _) ?_⟩;rw[l];exact(c.val k).getD rd;subst i;cases (show u=Value.ref b from m);obtain⟨z,j,q,c,dd⟩:=Iy I.hok e;refine iN i_ dd.typeIs PySem.F.entry_dict_get (PySem.F.args_dict_get_3 _ _ _) (meetsH_dict_get_default (tupleKind<|Bo X.prog X.w) a b j r) ⟨e_ hu,k,q,Gq I.hok t,dd,h _ _ (I.tok _) ?_⟩;rw[l];exact(c.val k).getD rd
end
def HA(td ty e:TE):TE:=λb H Q=>td b H λx d=>∃a,x=.ref a/\UD d a/\ty b d λy f=>e b f λz c=>∃o,DGet c a y o/\Q (o.getD z) c
section
variable {X:Cx}{o e f:lF}{a8 ao:Pos}{td ty tx:TE}
def Vo(hu:X.A.units+1<cLine)(k:PE X o td)(he:PE X e ty)(R:PE X f tx)(m:M2 X o "get" a8 e f ao):PE X (.Call (.Attribute o "get" a8) [e,f] [] ao) (HA td ty tx):=by
 intro c s b H Q I h;refine wpAny_Call_method m.base m.few m.line fY i_ PySem.F.type_dict_get<|thn (k c s b H _ I h) λu O p=>?_;obtain⟨x,J,i,D,a,L,d,M⟩:=p;subst L;obtain rfl:u=Value.ref a:=D;obtain⟨E,l,_⟩:=Vn i d;refine⟨E,l,?_⟩;rw[m.trees];refine gC rfl<|jK<|bA<|thn (he c O b J _ i M) λU n B=>C8 B λy q v C G=>
  bA (thn (R c n b q _ v G) λW S ⟨z,t,N,w,V,g,P⟩=>bY ?_)
 exact GZ hu N g C w λY T r j=>⟨_,t,r,j,P⟩
end
end L2
namespace Att
open PySem PySem.W PySem.Calls PyProof.Rows
def Ih{P:Params}{h:lH}:∀(ns:oA Int) (vs:oA kZ),WellAll P h vs (ns.map WData.int)->IntsAre vs ns:=by
 intro ns
 induction ns with
 |nil=>intro vs w;rw[List.map_nil]at w;cases w;exact .nil
 |cons n ns c=>
  intro vs w;rw[aS]at w;cases w with
  |cons a b=>cases a;exact .cons _ _<|c _ b
def Tb{l:OpenLaw}{n:Nat}(hn:l.most=some n){P:Params}{h:lH}{args:oA WData}{f:oA kZ}
  (i:l.row.toRowW.claim.pre args=true) (m:WellAll P h f args) :
  ∃a g ns,f=[Value.ref a]/\args=[WData.list<|ns.map WData.int]/\h.get? a=some {cls:=.type "list",data:=.seq g.toArray}/\IntsAre g ns/\ns.length<=n:=by
 have e:WShape.hasAll [] args [.list .int]=true:=(pre_splitW i).1;have hc:l.pre.holds [] {args:=args}=true:=(pre_splitW i).2;obtain⟨d,r,rfl,h1,h2⟩:=hasAllW_cons e;obtain rfl:=hasAllW_nil h2;obtain⟨v,rfl,t⟩:=hasW_list h1;obtain⟨ns,rfl⟩:=items_int t;have o:ns.length<=n:=by
  unfold OpenLaw.pre at hc;have b:(WTm.not<|.lt (.lit<|.int (n:Int))<|.len<|.arg 0).holds [] {args:=[.list<|ns.map .int]}=true:=by have b:=(holds_andW hc).1;rw[hn]at b;exact b
  have c:=condW_of b<|w_not<|w_lt w_lit<|w_len_list<|w_arg rfl;rw[B_]at c;refine kH λq=>?_;have u:(n:Int)<((ns.length:Nat):Int):=by omega
  first
   | (rw[aQ u]at c;exact absurd c<|by decide)
   | (simp at c;omega)
 cases m with
 |cons p s=>
  cases s;cases p with
  |list j k=>exact⟨_,_,ns,rfl,rfl,j,Ih ns _ k,o⟩
def Tc(l:OpenLaw)(args:oA WData):l.row.toRowW.claim.post args (.bool true) args=true :=
 postW_of (r:=l.row.toRowW) (X:=(true==true))
  (show WShape.has [] (.bool true) .bool=true by first|rfl|decide|simp[WShape.has,WShape.arms,WShape.armsAll])
  (show(WTm.eq .res<|.lit<|.bool true).value [] {args:=args,res:=some<|.bool true,after:=args}=some (.bool<|true==true) from w_eq_bool (w_res rfl) w_lit) rfl
def attach_call{l:OpenLaw}{n:Nat}{q:lD}{x:oA Str}{y:(Str->oB kZ)->lH->Prop}{u:lE->lH->Prop}{d:DefRec}
  (hn:l.most=some n) (F:d.params.defaults=[])
  (call:∀(w:lE) (s₀ b:k_) (j m:Str->oB kZ) (e:lB) (o:lI) (k i s:kZ) (a:lB) (vs:oA kZ) (ns:oA Int),
   Ground q x [] y w s₀ j m b.heap->u w b.heap ->
   b.heap.get? e=some o->o.data=.func (docDef d.name d.params d.body d.scope k i s)->b.heap.CodeRec i d.name->j d.name=some (.ref e) ->
   b.heap.get? a=some {cls:=.type "list",data:=.seq vs.toArray}->IntsAre vs ns->ns.length<=n->b.gens=#[] ->
   codeAny (model l.prog w) callerA (.call (.ref e) ⟨[.ref a],[]⟩) (λr h=>r=.ok (.ret<|.bool true)/\OldK b.heap h.heap/\h.os=b.os/\AllBare h.gens) b) :
  WalkO q x y u l.row.toRowW d [] (λf vs=>PySem.call f vs):=by
 intro w s₀ b j m G Y e o k i s J kV B I O z p N v P as L t C D Q;obtain rfl:J=.none:=Dflts.none z F;obtain rfl:kV=.none:=Dflts.noKw z;obtain⟨a,vs,ns,rfl,rfl,g,c,E⟩:=Tb hn L D;refine enter_call<|codeAny_mono (call w s₀ b j m e o k i s a vs ns G Y B (fd_plain I) O p g c E N) λr h hq=>?_;obtain⟨rfl,h2,H,M⟩:=hq;exact⟨.inl ⟨.bool true,.bool true,[],rfl,λ_=>rfl,.bool true,Tc l _,λ_=>⟨List.Pairwise.nil,λ_ A=>(nomatch A)⟩⟩,h2,H,M⟩
end Att
namespace L2
open PySem PySem.Spec PyProof.Rows
theorem Kv:∀{vs:oA kZ} {ns:oA Int},IntsAre vs ns->Vals (ns.map V.int) vs
 |_,_,.nil=>.nil
 |_,_,.cons n t h=>.cons ⟨t,rfl⟩<|Kv h
def Cq(s:lJ):Arguments:=match s with
 |.FunctionDef _ a _ _ _ _ _ _ _ _=>a
 |_=>{posonlyargs:=[],args:=[],vararg:=none,kwonlyargs:=[],kw_defaults:=[],kwarg:=none,defaults:=[]}
def B1(s:lJ):oA lJ:=match s with
 |.FunctionDef _ _ b _ _ _ _ _ _ _=>b
 |_=>[]
def Ah(s:lJ):lM:=match s with
 |.FunctionDef _ _ _ _ _ _ sc _ _ _=>sc
 |_=>{kind:=.function,names:=[],isGenerator:=false,isCoroutine:=false}
abbrev Cm:CXT:=λ_ _ _ _ _ _=>False
abbrev E0:XK:=λ_ _ _=>False
def EB{X:Cx}:Passes Cm X E0:=λ_ _ _ _ _ _ _ h=>h.elim
structure Fun(K:lC)(x qual:Str)(st:lJ)(f:lB)(fd:lK):Prop where
 ex:∃(oc:kZ) (od:oB lB) (kV bq pm:kZ) (an:oB lB) (av ct:kZ) (e7:oC<|oB kZ),
  fd=PySem.W.fnOf x qual (Cq st) (B1 st) (Ah st) .none kV bq pm an av ct/\K.lookup f=some ⟨oc,od,.func fd,e7⟩/\PySem.W.codeIn K av qual=true
 kp:PySem.W.keepIn K (.ref f)=true
section
variable {P:lD}{w:lE}{K:lC}{mg:Str->oB kZ}{base:lH}{X:Cx}
def Fun.ok{x a:Str}{st:lJ}{f:lB}{d:lK}{N c:oA Str}{k:Nat}{sp:Sp}(F:Fun K x a st f d)(S:FnScope N c<|Ah st)(len:∀vs H Q E,sp vs H Q E->vs.length=c.length)
  (e:∀(b:kZ) (A:lG) (outer:oA Env) (s:k_) (H:Hp) (vs:oA V) (Q:VK) (E:XK),Room k (A.deeper<|envOfC a (Ah st) s.heap.objs.size f b)->sp vs H Q E ->
   ∃t,PSs (Hq Cm P w K mg base N a (Ah st) f b A outer s H E).nox (B1 st) t/\t {nx:=λ_ m=>Q .non m,rt:=Q} (start N vs) H):FnOk P w K mg base Cm (k+1) f d c sp:=by
 obtain⟨p,v,kV,r,n,o,b,y,u,rfl,i,g⟩:=F.ex;refine Vb i g S len λA outer s H vs Q E j l=>?_;obtain⟨t,h,q⟩:=e b A outer s H vs Q E j l;exact⟨t,h.nox,q⟩
def Fun.binds{x a:Str}{st:lJ}{f:lB}{i:lK}{b:oA Str}(F:Fun K x a st f i)
  (h:∀(kV d c:kZ) (e:oB lB) (g ct:kZ) (us:oA kZ),us.length=b.length->bindArgs (PySem.W.fnOf x a (Cq st) (B1 st) (Ah st) .none kV d c e g ct) ⟨us,[]⟩=pure (b.zip us)):Binds K i b []:=by
 obtain⟨j,n,kV,d,c,e,g,ct,m,rfl,l,k⟩:=F.ex;exact .all<|h kV d c e g ct
def HB{x a:Str}{st:lJ}{f:lB}{h:kZ}{j e:oB lB}{i:oC<|oB kZ}{kV d g b ct:kZ}(l:K.lookup f=some ⟨h,j,.func<|PySem.W.fnOf x a (Cq st) (B1 st) (Ah st) .none kV d g e b ct,i⟩)
  (c:PySem.W.codeIn K b a=true) (k:PySem.W.keepIn K (.ref f)=true):Fun K x a st f (PySem.W.fnOf x a (Cq st) (B1 st) (Ah st) .none kV d g e b ct):=⟨⟨h,j,kV,d,g,e,b,ct,i,rfl,l,c⟩,k⟩
def Bu{A:lG}{k:Nat}(a:Room k A):A.units+1<cLine:=fA (gU (by decide:1<=64) _) a.units
def A0{n:Nat}(h:n<=1000):n<sizeLine:=fA h<|by decide
def Td:Et X (.builtin "len") (λc H Q=>∃a b,c=[V.ref a]/\H a=some (.dK b)/\Q (.int b.length) H):=by intro j s g H c i Q I r h;obtain⟨a,b,rfl,ha,q⟩:=h;obtain⟨u,rfl,e⟩:=Eg r;cases e;exact MG I (.inl ha) λt f d=>⟨.int b.length,H,d,⟨t,rfl⟩,q⟩
end
section
variable {κ:Type} [DecidableEq κ]
end
end L2
set_option maxHeartbeats 4000000
namespace L2
open PySem
def Ev(a:oA<|Str×lB):oA (Str×lN)->oA (Str×lB)->oA (Str×lB)
 |[],b=>b
 | (n,k)::r,b=>if k=NameKind.free then Ev a r ((n,(a.lookup n).getD 0)::b) else Ev a r b
def Gn{a:lM}{env:Env}(h:∀x∈a.names,x.2=.free->∃c,env.cells.lookup x.1=some c) :
  closureFor a env=pure (Ev env.cells a.names []):=by
 have g:∀(names:oA<|Str×lN) (acc:oA<|Str×lB),(∀x∈names,x.2=.free->∃c,env.cells.lookup x.1=some c) ->
   (do
     let mut f:=acc
     for (b,d) in names do
      if d==.free then f:=(b,<- cellOf env b)::f
     return f:Sem<|oA<|Str×lB)=pure (Ev env.cells names acc):=by
  intro names
  induction names with
  |nil=>intro acc _;rfl
  |cons x r i=>
   intro acc h;obtain⟨n,k⟩:=x;have j:∀y∈r,y.2=.free->∃c,env.cells.lookup y.1=some c:=λy hy=>h y<|aJ _ hy;by_cases hk:k=.free;subst hk;obtain⟨c,hc⟩:=h (n,.free) aW rfl;have e:cellOf env n=pure c:=by unfold cellOf;rw[hc]
   have q:=i ((n,c)::acc) j;simp only[List.forIn_cons,beq_self_eq_true,if_true,e];unfold Ev;rw[T_ rfl,hc];exact q;have hb:(k==NameKind.free)=false:=by simpa using hk
   have q:=i acc j;simp only[List.forIn_cons,hb,Bool.false_eq_true,if_false];unfold Ev;rw[O_ hk];exact q
 exact g a.names [] h
theorem G6{a:oA<|Str×lB}:∀{names:oA<|Str×lN} {acc:oA<|Str×lB},
  (∀x∈names,x.2=.free->∃c,a.lookup x.1=some c)->(∀x c,acc.lookup x=some c->a.lookup x=some c) ->
  ∀x c,(Ev a names acc).lookup x=some c->a.lookup x=some c
 |[],_,_,h,x,c,e=>h x c e
 | (n,k)::r,acc,g,h,x,c,e=>by
  unfold Ev at e;have f:∀y∈r,y.2=.free->∃c,a.lookup y.1=some c:=λy hy=>g y<|aJ _ hy;by_cases hk:k=.free
  ·rw[T_ hk]at e;refine G6 f (λy d q=>?_) x c e;obtain⟨i,b⟩:=g (n,k) aW hk;have b:a.lookup n=some i:=b;rw[dC]at q;cases hy:y==n with
   |true=>
    rw[hy,b]at q;have j:y=n:=by simpa using hy
    rw[j,b];exact q
   |false=>rw[hy]at q;exact h y d q
  rw[O_ hk]at e;exact G6 f h x c e
theorem Gu{a:oA<|Str×lB}{x:Str}:∀{names:oA<|Str×lN} {acc:oA<|Str×lB},
  (∃c,acc.lookup x=some c)->∃c,(Ev a names acc).lookup x=some c
 |[],_,h=>h
 | (n,k)::r,acc,⟨c,h⟩=>by
  unfold Ev;split
  ·refine Gu ?_;rw[dC];cases x==n with
   |true=>exact⟨_,rfl⟩
   |false=>exact⟨c,h⟩
  exact Gu ⟨c,h⟩
theorem G7{a:oA<|Str×lB}{x:Str}:∀{names:oA<|Str×lN} {acc:oA<|Str×lB},
  (x,NameKind.free)∈names->∃c,(Ev a names acc).lookup x=some c
 | (n,k)::r,acc,h=>by unfold Ev;rcases aD.mp h with e|e;cases e;rw[T_ rfl];refine Gu ?_;rw[dC,kI];exact⟨_,rfl⟩;split;exact G7 e;exact G7 e
end L2
namespace PySem
open Sem (wp)
section
variable {prog:lD}{w:lE}{A:lG}{E:kZ->k_->Prop}{R:lO->k_->Prop}{s:k_}
def Nc{C y iter:lF}{B:oA lF}{f:lM}{u:Pos}{z acc:kZ}{env:Env}(I:Nat->k_->Prop) (F:∀n s,I n s->yL prog w A (pyNext z) (λr e=>match r with
   |none=>R (.ok .next) e
   |some v=>yL prog w A (letOwnedTupleGo y z v) (λ_ a=>yL prog w A (assign y env v) (λ_ k=>
     yL prog w A (forIn B true λc r=>if r=true then do let ok <- isTrue c env (eval c env);pure (ForInStep.yield ok) else pure<|ForInStep.yield r) (λok d=>
      if ok=true then yL prog w A (eval C env) (λx i=>
       yL prog w A (call (.builtin "list.append") [acc,x]) (λ_ l=>∃m,m<n/\I m l) (λ_ _=>False) i) (λ_ _=>False) d
      else ∃m,m<n/\I m d) (λ_ _=>False) k) (λ_ _=>False) a) (λ_ _=>False) e) (λ_ _=>False) s)
  (n:Nat) (h:I n s) :
  codeAny (model prog w) A (.compLoop (.ListComp C [⟨y,iter,B,0⟩] f u) 0 z acc env) R s:=by
 refine codeAny_loop rfl I (λn s D=>?_) n h;show wpAny _ A ((compTurn (.ListComp C [⟨y,iter,B,0⟩] f u) 0 z acc env).onRaise λx=>do noteFrame x env;theTreesLotGoes x) _ _ s;refine wpAny_noted ?_;rw[compTurn_list];refine A_<|wpAny_standAt<|A_<|aM (F n s D) (λr e g=>?_) λ_ _ b=>b.elim;cases r with
 |none=>exact C_ g
 |some v=>
  refine A_<|aM g (λ_ a o=>?_) λ_ _ b=>b.elim;refine A_<|aM o (λ_ k q=>A_<|aM q (λok d j=>?_) λ_ _ b=>b.elim) λ_ _ b=>b.elim;cases ok with
  |false=>exact C_ ⟨rfl,j⟩
  |true=>exact A_<|A_<|aM j (λx i t=>A_<|aM t (λ_ l p=>C_<|C_ ⟨rfl,p⟩) λ_ _ b=>b.elim) λ_ _ b=>b.elim
end
end PySem
namespace L2
open PySem PySem.Spec PyProof.Rows
def Nd(mp:oA<|oB Nat)(a:St):St:=mp.map λo=>match o with|some i=>(a[i]?).join|none=>none
def AZ(pn:oA<|Str×lN)(x:Str):Bool:=decide (pn.lookup x=some .cell)||decide (pn.lookup x=some .free)
def Nf{pn:oA<|Str×lN}{x:Str}(h:AZ pn x=true):pn.lookup x=some .cell\/pn.lookup x=some .free:=by unfold AZ at h;rcases(eQ _ _).mp h with h|h;exact .inl<|aE h;exact .inr<|aE h
theorem Lv{env:Env}:∀{names:oA<|Str×lN} {x:Str},names.lookup x=some .free ->
  (names.map λ(n,k)=>if(k==NameKind.free&&env.scope.kind==.function&&env.kindOf n==some .cell) then(n,NameKind.cell) else(n,k)).lookup x=some .cell \/
  (names.map λ(n,k)=>if(k==NameKind.free&&env.scope.kind==.function&&env.kindOf n==some .cell) then(n,NameKind.cell) else(n,k)).lookup x=some .free
 |[],_,h=>by simp at h
 | (n,k)::r,x,h=>by
  have a:=@Lv env r x;rw[aS];cases hx:x==n with
  |true=>simp only[List.lookup_cons,hx]at h;cases h;by_cases hc:(NameKind.free==NameKind.free&&env.scope.kind==.function&&env.kindOf n==some .cell)=true;refine .inl ?_;simp only[hc,if_true,List.lookup_cons,hx];refine .inr ?_;simp only[if_neg hc,List.lookup_cons,hx]
  |false=>simp only[List.lookup_cons,hx]at h;by_cases hc:(k==NameKind.free&&env.scope.kind==.function&&env.kindOf n==some .cell)=true;simp only[hc,if_true,List.lookup_cons,hx];exact a h;simp only[if_neg hc,List.lookup_cons,hx];exact a h
end L2
namespace PySem
open Sem (wp)
section
variable {prog:lD}{w:lE}{A:lG}{E:kZ->k_->Prop}{R:lO->k_->Prop}{s:k_}{I:lB}{fp wr:oA lB}{G:oC GenState->oC GenState->Prop}{n:Nat}{P:Nat->kZ->Prop}{St:Nat->k_->Prop}
def Lw:typeLookup (.type "list_reverseiterator") "__len__" = pure none:=by rw[eT,dG];kernel_rfl
def Ng:typeLookup (.type "list_reverseiterator") "__length_hint__" = pure (some<|.builtin "list_reverseiterator.__length_hint__"):=by rw[eT,dG];kernel_rfl
set_option maxRecDepth 100000 in
def Ka(W:WalksS prog w A.in1 I fp wr G n P St)(j:∀i s,St i s->s.TypeIs (.ref I) "list_reverseiterator") (S:lB) (res:kZ) (g:St 0 s) (m:S∉fp) (v:I∈fp)
  {c:Nat} (q:s.heap.get? S=some {cls:=.type "list",dict:=none,data:=.seq #[] c,slots:=#[]})
  (t:∀a k d,Moved (S::wr) G s a->a.heap.get? S=some {cls:=.type "list",dict:=none,data:=.seq k d,slots:=#[]}->ItemsOf P k n->R (.ok<|.ret res) a) (hn:n<=sizeLine:=by size_fits) :
  yL prog w A.in1 (Builtin.List.listExtendWith (.ref S) (.ref I) res)
   (λr a=>match r with|.done f=>R (.ok f) a|.again d=>d.quiet=true/\codeAny (model prog w) A d R a) (λe a=>R (.error e) a) s:=by
 have l:S≠I:=λe=>m<|e ▸ v;have h1:Builtin.List.listSameRef (.ref S) (.ref I)=false:=by simp[Builtin.List.listSameRef,l]
 unfold Builtin.List.listExtendWith;refine A_<|iK (j 0 _ g) ?_;rw[O_<|by rw[h1];decide];refine A_<|W.self 0 _ _ _ g ?_;refine A_<|bS ?_;unfold Builtin.List.listLengthHint;refine A_<|dI (j 0 _ g) Lw ?_;show wpAny _ A.in1 (specialOf (Value.ref I) (Str.ofString "__length_hint__")>>=_) _ _ _;refine A_<|dI (j 0 _ g) Ng ?_;generalize h:("list_reverseiterator.__length_hint__" : String)=id0
 wp_delta
 rw[show splitId id0=some ("list_reverseiterator","__length_hint__") from by subst h;decide +kernel];subst h;refine A_ (dW (b:=true) (j 0 _ g) (by rw[iO];kernel_rfl) ?_);refine C_ ?_;rw[O_<|by decide];exact C_ ⟨dO F.plain_extend_loop _,codeAny_extend_loopS W hn _ m _ n 0 _ _ _ rfl (aN _) g q (ItemsOf.nil P) λa k d o u p=>t a k d o u p⟩
set_option maxRecDepth 100000 in
def Hr(W:WalksS prog w A.in1 I fp wr G n P St)(t:∀i s,St i s->s.TypeIs (.ref I) "list_reverseiterator") (S:lB) (x:St 0 s) (l:S∉fp) (y:I∈fp)
  (k:s.heap.get? S=some {cls:=.type "list",data:=.seq #[]})
  (u:∀a j d,Moved (S::wr) G s a->a.heap.get? S=some {cls:=.type "list",dict:=none,data:=.seq j d,slots:=#[]}->ItemsOf P j n->R (.ok<|.ret .none) a) (hn:n<=sizeLine:=by size_fits) :
  yL prog w A.in1 (Builtin.«list.__init__» ⟨[.ref S,.ref I],[]⟩)
   (λr a=>match r with|.done f=>R (.ok f) a|.again d=>d.quiet=true/\codeAny (model prog w) A d R a) (λe a=>R (.error e) a) s:=by
 show wpAny _ A.in1 (do let q <- Builtin.List.listItems (.ref S);Builtin.List.listUpdate (.ref S) λ_=>#[];letGo q.toList.reverse;Builtin.List.listExtendWith (.ref S) (.ref I) .none) _ _ s;refine A_ ?_;unfold Builtin.List.listItems;refine A_<|dP k rfl<|C_ ?_;show wpAny _ A.in1 (updateSeq S (λ_=>#[])>>=λ_=>letGo (#[]:oC kZ).toList.reverse>>=λ_=>Builtin.List.listExtendWith (.ref S) (.ref I) .none) _ _ s;refine A_<|dS k rfl ?_;have c:=aP (Obj.mapSeq λ_=>(#[]:oC kZ)) k rfl;have g:∀b o,b≠S->s.heap.get? b=some o->(s.heap.update S<|Obj.mapSeq λ_=>(#[]:oC kZ)).get? b=some o :=
  λb o hb e=>(bI _ _<|bX hb).trans e
 refine A_<|eK ?_;refine Ka (hn:=hn) W t S .none (W.frame 0 s _ s.toks x (F_ _) λb hb o e=>g b o (λh=>l<|h ▸ hb) e) l y c λa j d m v p=>?_;exact u a j d (Moved.trans W.gtrans ((Moved.refl W.grefl).then_heap (F_ _) λb o hb e=>g b o (λh=>hb<|h ▸ aW) e) m) v p
def Ht{Q:kZ->k_->Prop}(W:WalksS prog w A.in1.in1 I fp wr G n P St)(p:∀i s,St i s->s.TypeIs (.ref I) "list_reverseiterator") (t:St 0 s) (v:∀b∈fp,b<s.heap.objs.size) (u:I∈fp)
  (q:∀c g h,Moved (s.heap.objs.size::wr) G {s with heap:=s.heap.push {cls:=.type "list",data:=.seq #[]}} c ->
   c.heap.get? s.heap.objs.size=some {cls:=.type "list",dict:=none,data:=.seq g h,slots:=#[]}->ItemsOf P g n->Q (.ref s.heap.objs.size) c) (hn:n<=sizeLine:=by size_fits) :
  yL prog w A (call (.type "list") [.ref I]) Q E s:=by
 have m:s.heap.objs.size∉fp:=λj=>cF _<|v _ j;refine callType_codes (Q₁:=λf a=>f=.ref s.heap.objs.size/\a={s with heap:=s.heap.push {cls:=.type "list",data:=.seq #[]}}) F.called_list (F.typeCall_list_1 _) F.entry_list_init
  (code_list_new _ ⟨rfl,rfl⟩) λf a d=>?_
 obtain⟨rfl,rfl⟩:=d;have k:(s.heap.push {cls:=.type "list",data:=.seq #[]}).get? s.heap.objs.size=some {cls:=.type "list",data:=.seq #[]}:=K_ _ rfl;refine⟨⟨_,k,rfl⟩,F.args_list_init_2 _ _,Hr (hn:=hn) W p _ (W.frame 0 s _ s.toks t (F_ _) λb _ o e=>DD _ e) m u k λc g h j r l=>?_⟩;exact⟨rfl,q c g h j r l⟩
end
end PySem
namespace L2
open PySem PySem.Spec PyProof.Rows
def PIfs(X:Cx)(d:oA lF)(t:TT):Prop :=
 ∀(b:oA<|lB×lI) (s:k_) (a:St) (H:Hp) (Q:Bool->Hp->Prop),Inv X b a H s->t a H Q ->
  yL X.prog X.w X.A (forIn d true λc r=>if r=true then do let ok <- isTrue c X.env (eval c X.env);pure (ForInStep.yield ok) else pure<|ForInStep.yield r) (TP X b a Q) X.xe s
def WF:TT:=λ_ H Q=>Q true H
def Vp{X:Cx}:PIfs X [] WF:=λ_ _ _ H _ I h=>wpAny_tests_nil ⟨H,I,h⟩
def Vq{X:Cx}{c:lF}{t:TT}(h:PT X c t):PIfs X [c] t:=λd s b H Q I a=>wpAny_tests_one<|h d s b H Q I a
def Vr(p:lB)(J:It)(g:TG)(tst:TT)(te:TE)(Q:Hp->Prop)(f:St)(H:Hp):Prop :=
 ∃W:Nat->Nat->oA V->St->Hp->Prop,(∃m,W 0 m [] f H)/\∀i m a d e,W i m a d e ->
  (J.stop i e/\Q e)\/(J.go i e/\∃N:oA V->St->Hp->Prop,(∀a f H,N a f H->∃n,n<m/\W (i+1) n a f H)/\∀x l,J.yld i e x l->g x d l λc o=>tst c o λb j=>
   if b=true then te c j λv k=>∃h,k p=some (.lst h)/\h.length<sizeLine/\N (h++[v]) c (upd k p<|.lst<|h++[v])
   else N a c j)
def Vs(mp:oA<|oB Nat)(c:TI)(g:TG)(tst:TT)(te:TE):TE:=λa H Q=>c a H λJ b=>∀p,b p=none ->
 Vr p J g tst te (λd=>Q (.ref p) d) (Nd mp a) (upd b p<|.lst [])
section
variable {X:Cx}{N':oA Str}{mp:oA<|oB Nat}{dj tg iter:lF}{c7:oA lF}{scope:lM}{pos:Pos}{wi:TI}{g:TG}{tst:TT}{te:TE}{K:lC}{a p:lB}{xs:oA V}{Q:Hp->Prop}{σ:St}{H:Hp}
def Inv.letgo{d:oA<|lB×lI}{σ:St}{H:Hp}{s:k_}{C:lB}{h':lH}(I:Inv X d σ H s)(hn:H C=none)(h1:X.s₀.heap.objs.size<=C)(h:C≠X.env.locals)(h2:∀x c,X.env.cells.lookup x=some c->c≠C)
  (i:∀q∈X.pn++d,q.1≠C) (f:Heap.SameBut C s.heap h'):Inv X d σ H {s with heap:=h'} :=
 I.turned (t':=s.toks) (λb o hb e=>(f.2 b hb).trans e) hn h (.inr h1) h2 i
def Ra{J:It}(n:Nat)(f:Nat->oA V->St->Hp->Prop)(h0:f 0 [] σ H)
  (w:∀i c σ H,i<n->f i c σ H->J.go i H) (t:∀c σ H,f n c σ H->J.stop n H/\Q H)
  (s:∀i x c σ H h,i<n->f i c σ H->J.yld i H x h->g x σ h λd u=>tst d u λb r=>
   if b=true then te d r λv o=>∃j,o p=some (.lst j)/\j.length<sizeLine/\f (i+1) (j++[v]) d (upd o p<|.lst<|j++[v]) else f (i+1) c d r) :
  Vr p J g tst te Q σ H:=by
 refine⟨λi m c σ H=>m=n-i/\i<=n/\f i c σ H,⟨n,by simp,aN _,h0⟩,?_⟩;rintro i m c σ H ⟨rfl,hi,k⟩;by_cases l:i<n;exact .inr ⟨w i c σ H l k,f<|i+1,λc σ H q=>⟨n-(i+1),by omega,rfl,l,q⟩,λx h y=>s i x c σ H h l k y⟩;have e:i=n:=by omega
 subst e;exact .inl<|t c σ H k
def WG:V->oB Int->oB Int->Hp->VK->Prop:=λx lo hi H Q=>∃z,x=.str z/\z.length<=sizeLine/\Q (.str<|Txt.slice z lo hi) H
def HC:MD X WG:=by
 intro r s σ H x v y A lo hi w Q I n b o e h;obtain⟨z,rfl,hz,q⟩:=h;obtain⟨t,rfl⟩:=n;refine⟨"str",_,F.slot_str_getitem.lookup,typeIs_str _ _ _,?_⟩;have c:∀f k,EP X r σ Q (.str (Txt.slice z lo hi) f) {s with toks:=k}:=λf k=>⟨.str _,H,I.tok _,⟨_,rfl⟩,q⟩;cases o with
 |none=>
  cases e with
  |none=>exact fZ (l:=none) (u:=none) (st:=none) b rfl (jP ⟨G_ (kN z _ _) hz,c⟩)
  |int j d=>exact fZ (l:=none) (u:=some (j,d)) (st:=none) b rfl (jP ⟨G_ (kN z _ _) hz,c⟩)
 |int i m=>
  cases e with
  |none=>exact fZ (l:=some (i,m)) (u:=none) (st:=none) b rfl (jP ⟨G_ (kN z _ _) hz,c⟩)
  |int j d=>exact fZ (l:=some (i,m)) (u:=some (j,d)) (st:=none) b rfl<|jP ⟨G_ (kN z _ _) hz,c⟩
def Vt(hc:X.calm=true):Et X (.builtin "all") (λxs H Q=>∃(p:lB) (c:oA Bool),xs=[.ref p]/\Ep X.K H p (c.map V.bl)/\Q (.bl<|c.all id) H):=by
 intro E s σ H xs L Q I r h;obtain⟨p,c,rfl,hq,q⟩:=h;obtain⟨u,rfl,z⟩:=Eg r;cases z;obtain⟨f,m,j,hz⟩:=I.list hq;have d:=m.length;rw[B_]at d;refine call_all_walk<|fM j.isList ?_;have w:p≠s.heap.objs.size:=Z_ (by obtain⟨_,n,_⟩:=j.isList;exact N_ n);refine⟨s.heap.objs.size,_,_,_,_,_,λi=>c.getD i true,rfl,kO (show X.A.in1.handled=none from I.ok.hd hc) s.heap.objs.size p w f.toArray,?_,?_,λF J k=>?_⟩;exact⟨⟨_,K_ _ rfl,rfl,rfl⟩,j.isList.at λo e=>DD _ e⟩;intro i v B C G y t;have hv:f[i]?=some v:=by simpa using y
 have hi:i<c.length:=by rw[d];exact(D_.mp hv).1
 obtain⟨u,hu,D⟩:=m.get (i:=i) (x:=V.bl c[i]) (by simp[hi]);rw[hv]at hu;cases hu;cases (show v=Value.bool c[i] from D);refine dN ?_;have e:c.getD i true=c[i]:=by simp[hi]
 have l:C (c.getD i true) B:=t;rw[e]at l;exact l;have e:(List.range f.toArray.size).all (λi=>c.getD i true)=c.all id:=by rw[R_,<- d];rw[fJ,bR,bR];constructor;intro a x hx;obtain⟨i,hi,rfl⟩:=List.mem_iff_getElem.mp hx;have:=a i<|cZ.mpr hi;simpa [hi] using this;intro a i hi;have hi:=cZ.mp hi;have:=a c[i]<|eZ hi;simpa [hi] using this
 rw[e];exact⟨.bl _,H,I.kept λb o e=>k b o (by
  intro hb;have:b=s.heap.objs.size:=by simpa using hb
  exact absurd (N_ e)<|by rw[this];exact cF _)<|DD _ e,rfl,q⟩
def Pj{ys:oA Str}{us:oA kZ}(h:Vals (ys.map V.str) us):StrsAre us ys:=by
 induction ys generalizing us with
 |nil=>cases h;exact .nil
 |cons y ys b=>
  cases h with
  |cons r t=>obtain⟨c,rfl⟩:=r;exact .cons y c<|b t
def BA:DX X "str.join" (λx xs H Q=>∃z p b,x=.str z/\xs=[.ref p]/\Ep X.K H p (b.map V.str)/\(b.map (·.length)).sum+b.length*z.length<=16777216/\Q (.str<|Txt.join z b) H):=by intro m s σ H x xs v j Q I c r h;obtain⟨z,p,b,rfl,rfl,hq,hz,q⟩:=h;obtain⟨t,rfl⟩:=c;obtain⟨u,rfl,f⟩:=Eg r;cases f;obtain⟨l,d,e,_⟩:=I.list hq;exact join_list e.isList (Pj<|by simpa using d) hz λi k=>⟨.str _,H,I.tok _,⟨_,rfl⟩,q⟩
def MN(K:lC)(te:TE):TE:=λσ H Q=>te σ H λx b=>∃a xs,x=.ref a/\Ep K b a xs/\∀l,b l=none->Q (.ref l) (upd b l<|.lst xs.reverse)
def BB{e:lF}{te:TE}{p B pos t:Pos}(hc:X.calm=true)(hg:Gl X "list") (x:X.mg "list" = none) (O:Gl X "reversed") (N:X.mg "reversed" = none) (he:PE X e te) (E:starEach [.Call (.Name "reversed" B) [e] [] t] X.env=[(false,eval (.Call (.Name "reversed" B) [e] [] t) X.env)]:=by rfl) (G:starEach [e] X.env=[(false,eval e X.env)]:=by rfl) :
  PE X (.Call (.Name "list" p) [.Call (.Name "reversed" B) [e] [] t] [] pos) (MN X.K te):=by
 intro T s σ H Q I h;refine bT<|Dx I hg x boot_list ?_;refine bG ?_ E rfl;rw[E];refine bA ?_;refine bT<|Dx I O N boot_reversed ?_;refine bG ?_ G rfl;rw[G];refine bA<|thn (he T s σ H _ I h) λu c S=>bY ?_;obtain⟨v,H1,C,U,q1⟩:=S;obtain⟨a,xs,rfl,hq,q⟩:=q1;cases U;obtain⟨d,F,n,hz⟩:=C.list hq;have M:=F.length;refine call_reversed_list n.isList<|bY ?_;have R:a≠c.heap.objs.size:=Z_ (by obtain⟨_,y,_⟩:=n.isList;exact N_ y);have r:(c.heap.push<|revObj a<|(d.toArray.size:Int)-1).IsList a d.toArray:=n.isList.at λo e=>DD _ e;refine Ht (s:={c with heap:=c.heap.push<|revObj a<|(d.toArray.size:Int)-1}) (Walks.listRev (show X.A.in1.in1.handled=none from I.ok.hd hc) c.heap.objs.size a R d.toArray).toS (λi s st=>st.2.1.typeIs) ?_ ?_ (by simp) (λZ f J l hS m=>?_) (by rw[R_,<- M];exact hz);refine⟨aN _,⟨_,K_ _ rfl,rfl,?_⟩,r⟩;simp[revObj];intro b hb;rw[c_];rcases aD.mp hb with rfl|hb;exact eE _;have:b=a:=by simpa using hb
 subst this;exact bZ (by obtain⟨_,y,_⟩:=n.isList;exact N_ y);have D:(c.heap.push<|revObj a<|(d.toArray.size:Int)-1).objs.size=c.heap.objs.size+1:=c_ ..;obtain⟨h',g',d',t',o'⟩:=Z;have eg:g'=c.gens:=l.gens;have ed:d'=c.drawn:=l.drawn;have L:o'=c.os:=l.os;subst eg ed L;have k:∀b o,c.heap.get? b=some o->h'.get? b=some o:=λb o e=>by
  have hb:=N_ e;refine l.heap b o (λx=>?_)<|DD _<|DD _ e;rcases aD.mp x with z|z;have z:b=(c.heap.push<|revObj a<|(d.toArray.size:Int)-1).objs.size:=z;rw[z,D]at hb;exact absurd hb<|jS.mpr<|bU _;have z:b=c.heap.objs.size:=by simpa using z
  rw[z]at hb;exact absurd hb<|cF _
 have W:f.toList=d.reverse:=by
  refine iP λj=>?_;have Y:f.toList.length=d.length:=by have:=m.1;simp at this ⊢;omega
  by_cases hj:j<d.length;have h1:f[j]?=some (f[j]'(by have:=m.1;simp at this;omega)):=bN _;have h2:=m.2 j _ h1;rw[List.getElem?_reverse hj];have P:d[d.length-1-j]?=some (f[j]'(by have:=m.1;simp at this;omega)):=by simpa using h2
  rw[P];simpa using h1;rw[fD<|by omega,fD<|by rw[fX];omega]
 refine⟨.ref (c.heap.push<|revObj a<|(d.toArray.size:Int)-1).objs.size,upd H1 (c.heap.push<|revObj a<|(d.toArray.size:Int)-1).objs.size<|.lst xs.reverse,
  C.laid (h':=h') (t':=t') k (by omega) (show Bs X.prog X.w _ h' _ (.lst xs.reverse) from⟨by rw[fX];exact hz,f.toList,J,by rw[W];exact F.reverse,by simpa using hS⟩),rfl,q _<|C.hok.fresh<|by omega⟩
end
def seven{n:Nat}(h:n<=1000):n<=sizeLine:=cX<|A0 h
end L2
namespace PySem
open Sem (wp)
open AutoSeq1 (wpAny_loadPart')
set_option maxRecDepth 100000
section
variable {prog:lD}{w:lE}{A:lG}{E:kZ->k_->Prop}{s:k_}
def Fk{a t:lB}{i:Nat}{items}{x:kZ}{Q:kZ->k_->Prop}(d:s.heap.IsTupleIter a t i)
  (g:s.heap.IsTuple t items) (hx:items[i]?=some x)
  (j:∀f,f.IsTupleIter a t (i+1)->Heap.SameBut a s.heap f->Q x {s with heap:=f}) :
  yL prog w A (Builtin.SmallTypes.nextOf<|.ref a) Q E s:=by
 obtain⟨o,c,hc,b⟩:=id d;obtain⟨l,e,_,k,h⟩:=g;unfold Builtin.SmallTypes.nextOf;refine A_<|aU (name:=Str.ofString "__next__") d.typeIs F.slot_tuple_iterator_next
  (aO F.slot_tuple_iterator_next d.typeIs F.entry_tuple_iterator_next ?_<|F.args_tuple_iterator_next_1 _)
 show wpAny _ _ (field (.ref a) 0>>=_) _ _ s;refine A_<|bQ c b (x:=.ref t) rfl ?_;show wpAny _ _ (if(Value.ref t==Value.none)=true then _ else _) _ _ s;rw[O_<|show ¬((Value.ref t==Value.none)=true) from V_];show wpAny _ _ (field (.ref a) 1>>=_) _ _ s;refine A_<|bQ c b (x:=.int i 0) rfl ?_;show wpAny _ _ (seqItems? (.ref t)>>=_) _ _ s;refine A_<|dP e h ?_;simp only[Int.toNat_natCast,hx];refine A_ (dZ c b (by simp)<|C_ ⟨x,rfl,C_<|j _ ?_<|aL ..⟩);exact⟨_,aP _ c<|fE<|cY b _,(iQ ..).trans hc,by
  rw[cY b];simp[rawInt]⟩
def Gf{b t:lB}{i:Nat}{items}{Q:kZ->k_->Prop}(j:A.handled=none)
  (d:s.heap.IsTupleIter b t i) (k:s.heap.IsTuple t items) (hx:items[i]?=none)
  (n:∀h e,Heap.ExtBut b s.heap h->(∃o,h.get? e=some o/\o.cls=.type "StopIteration")->E (.ref e) {s with heap:=h}) :
  yL prog w A (Builtin.SmallTypes.nextOf<|.ref b) Q E s:=by
 obtain⟨o,c,hc,g⟩:=id d;obtain⟨q,f,_,p,l⟩:=k;unfold Builtin.SmallTypes.nextOf;refine A_<|aU (name:=Str.ofString "__next__") d.typeIs F.slot_tuple_iterator_next
  (aO F.slot_tuple_iterator_next d.typeIs F.entry_tuple_iterator_next ?_<|F.args_tuple_iterator_next_1 _)
 show wpAny _ _ (field (.ref b) 0>>=_) _ _ s;refine A_<|bQ c g (x:=.ref t) rfl ?_;show wpAny _ _ (if(Value.ref t==Value.none)=true then _ else _) _ _ s;rw[O_<|show ¬((Value.ref t==Value.none)=true) from V_];show wpAny _ _ (field (.ref b) 1>>=_) _ _ s;refine A_<|bQ c g (x:=.int i 0) rfl ?_;show wpAny _ _ (seqItems? (.ref t)>>=_) _ _ s;refine A_<|dP f l ?_;simp only[Int.toNat_natCast,hx];refine A_ (dM<|A_<|dZ c g (by simp) ?_);show wpAny _ _ (newExc (.type "StopIteration") []>>=_) _ _ _;refine A_ ?_;simp only[newExc,newTuple];refine A_ (aC ?_<|by size_fits);refine A_ (m:=firstArgMember _ _) (eC (a:=Value.none) (by first|rfl|(simp only[firstArgMember];rfl)) ?_);refine aC ?_ (by size_fits);simp only[raiseNew];refine A_<|jJ ?_
 first|rw[show A.in1.handled=none from j]|rw[j]
 refine A_<|C_<|jW ?_;exact n _ _ (((aL ..).extBut.push _).push _) ⟨_,K_ _ rfl,rfl⟩
def Fl{prog:lD}{w:lE}{A:lG}(f:A.handled=none)(a l:lB)(j:l≠a)(items:oC kZ) :
  Draws prog w A a [a,l] items.size (λi v=>items[i]?=some v) (λi h=>h.IsTupleIter a l i/\h.IsTuple l items) where
 live:=λ_ _ st=>let⟨o,c,_⟩:=st.1;⟨o,c⟩
 frame:=λ_ _ _ st hk=>⟨st.1.at λo e=>hk a (by simp) o e,st.2.at λo e=>hk l (by simp) o e⟩
 item:=λi s Q E hi st g=>by refine Fk st.1 st.2 (x:=items[i]) (by simp[hi]) λm d b=>?_;exact g _ m s.toks (by simp[hi]) ⟨d,st.2.extBut b.extBut j⟩ b
 done:=λs Q E st k=>Gf f st.1 st.2 (by simp) k
def Gg(l:lB)(items:oC kZ)(n:Nat)(i:oB lB)(f:oC<|oB kZ) :
  Meets (Builtin.«enumerate.__new__» ⟨[.type "enumerate",.ref l],[]⟩) (λ_ R s=>s.heap.get? l=some {cls:=.type "tuple",dict:=i,data:=.seq items n,slots:=f} /\
   R (.ok<|.ret<|.ref (s.heap.push {cls:=.type "tuple_iterator",data:=.fields #[.ref l,.int 0 0]}).objs.size)
    {s with heap:=(s.heap.push {cls:=.type "tuple_iterator",data:=.fields #[.ref l,.int 0 0]}).push {cls:=.type "enumerate",data:=.fields #[.none,.bool false,.ref s.heap.objs.size,rawInt 0,.none,.none]}}) :=
 .of_wp λprog w A R s h=>by
  obtain⟨hp,g,d,e,os⟩:=s;obtain⟨a,h⟩:=h;have j:=sub_enumerate;have b:Heap.IsTuple (Shared.heap ⟨hp,g,d,e,os⟩) l items:=⟨_,a,rfl,n,rfl⟩
  wp_walk using hX a
  refine wpAny_stack_any λst=>C_ ?_;split;rename_i c _ _ _ _ _;cases (c==Value.type "enumerate")
  wp_walk using hX a,iD b
  exact⟨_,rfl,h⟩
  wp_walk using hX a,iD b
  exact⟨_,rfl,h⟩
  wp_walk using hX a,iD b
  exact⟨_,rfl,h⟩
def Gv{l:lB}{items:oC kZ}{Q:kZ->k_->Prop}(g:s.heap.IsTuple l items)
  (h:∀a,IsEnum a (s.heap.objs.size+1) s.heap.objs.size 0 .none->a.IsTupleIter s.heap.objs.size l 0->a.objs.size=s.heap.objs.size+2 ->
   (∀b o,s.heap.get? b=some o->a.get? b=some o)->Q (.ref<|s.heap.objs.size+1) {s with heap:=a}) :
  yL prog w A (call (.type "enumerate") [.ref l]) Q E s:=by
 obtain⟨⟨c,j,dt,i⟩,f,hc,n,e⟩:=g;replace hc:c=.type "tuple" := hc;replace e:dt=.seq items n:=e;subst hc e;refine callType_new F.called_enumerate (by decide) (F.typeCall_enumerate_1 _) (F.newCall_enumerate_1 _) (λd=>F.args_object_init_2 d _) F.entry_enumerate_new
  (Gg l items n j i) ⟨f,?_⟩
 have hz:(s.heap.push {cls:=.type "tuple_iterator",data:=.fields #[.ref l,.int 0 0]}).objs.size=s.heap.objs.size+1:=c_ ..;show _/\_;rw[hz];have he:IsEnum ((s.heap.push {cls:=.type "tuple_iterator",data:=.fields #[.ref l,.int 0 0]}).push
   {cls:=.type "enumerate",data:=.fields #[.none,.bool false,.ref s.heap.objs.size,rawInt 0,.none,.none]}) (s.heap.objs.size+1) s.heap.objs.size 0 .none:=by
  have:=K_ (s.heap.push {cls:=.type "tuple_iterator",data:=.fields #[.ref l,.int 0 0]})
   (o:={cls:=.type "enumerate",data:=.fields #[.none,.bool false,.ref s.heap.objs.size,rawInt 0,.none,.none]}) rfl
  rw[hz]at this;exact this
 refine⟨⟨_,he,rfl⟩,h _ he ⟨_,DD _<|K_ _ rfl,rfl,rfl⟩ (by rw[c_,hz]) λb o x=>DD _<|DD _ x⟩
end
end PySem
namespace L2
open PySem PySem.Spec PyProof.Rows
def Kc(ds:oA lA)(lo hi:oB Int):oA lA:=(ds.drop<|HT.sIx ds.length 0 lo).take<|HT.sIx ds.length ds.length hi-HT.sIx ds.length 0 lo
section
variable {X:Cx}{k:Nat}{aa:oA<|lB×lI}{σ:St}{H:Hp}{s:k_}{h':lH}
noncomputable def O7(h:lH)(e:lA)(u:kZ):Bool:=@decide (∃d as,Reads h u d as/\d.canLay0=true/\PyData.eqv d e=true) (Classical.propDecidable _)
def HD{h:lH}{e d:lA}{u:kZ}{as:oA lB}(r:Reads h u d as)(c:d.canLay0=true):O7 h e u=PyData.eqv d e:=by
 unfold O7;cases q:PyData.eqv d e with
 |true=>exact @aQ _ (Classical.propDecidable _) ⟨d,as,r,c,q⟩
 |false=>refine @aH _ (Classical.propDecidable _) λa=>?_;obtain⟨g,f,i,_,b⟩:=a;rw[SeqAt.Reads.unique d g u as f c r i,b]at q;cases q
theorem Ew{A:lG}{s:k_}{e:lA}{v:kZ}{i:oA lB}(f:Reads s.heap v e i)(g:e.canLay0=true)(hu:A.units+64<cLine):∀{ds:oA lA} {us:oA kZ} {as:oA lB},ReadsAll s.heap us ds as ->
  PyData.canLayAll0 ds=true->PyData.depthAll ds<=64->(∀u∈us,SeqAt.EqAt A s u v<|O7 s.heap e u)/\us.any (O7 s.heap e)=ds.any λd=>PyData.eqv d e
 |[],_,_,r,_,_=>by cases r;exact⟨(λ_ z=>nomatch z),rfl⟩
 |d::ds,_,_,r,c,l=>by
  cases r with
  |cons a m=>simp only[PyData.canLayAll0,Bool.and_eq_true]at c;simp only[PyData.depthAll]at l;obtain⟨h,j⟩:=Ew f g hu m c.2 (by omega);have b:=HD (e:=e) a c.1;refine⟨λu n=>?_,?_⟩;rcases aD.mp n with rfl|z;rw[b];exact jD d e A s _ v _ _ a f c.1 g (by omega);exact h u z;rw[dX,dX,b,j]
def Inv.turnedL{t':Nat}{fp:oA lB}(I:Inv X aa σ H s)(k:∀b o,b∉fp->s.heap.get? b=some o->h'.get? b=some o)(a:∀b∈fp,Fj X aa H b):Inv X aa σ H {s with heap:=h',toks:=t'}:=by
 have d:∀b u,H b=some u->b∉fp:=λb u e z=>by rw[(a b z).1]at e;cases e
 have g:X.env.locals∉fp:=λz=>(a _ z).2.1 rfl;refine I.step (g':=s.gens) (d':=s.drawn) (ch:=fp) (λb hb=>?_) (λb o _ _ hc e _=>k b o hc e) (λb o _ _ hc e _=>⟨o.slots,k b o hc e⟩) (λ_ _ _ _ n=>n)
  (λb o hc e=>⟨o,k b o hc e⟩) (λ_ _ e=>e) (λ_ _ _ e=>e) (λb x e=>⟨#[],by rw[e];simp⟩) (λm f=>?_) (λb u e=>?_) I.bare
 obtain⟨_,i,_,l,j,t⟩:=a b hb;exact⟨l,i,j,t⟩;obtain⟨o,p,w,h,r⟩:=f;exact⟨o,p,w,k _ o g h,r⟩;refine(I.hok b u e).stay (λc v hc q=>k c v ?_ q) (λ_ q=>q) λ_ _ q=>q;rcases hc with z|z;rw[z];exact d b u e;exact d c _ z
def Inv.track{T:lB}{o:HO}(I:Inv X aa σ H s)(l:Fj X aa H T)(d:Bs X.prog X.w (upd H T o) s.heap T o):Inv X aa σ (upd H T o) s:=by
 obtain⟨f,i,_,p,j,r⟩:=l;have a:∀b u,H b=some u->b≠T:=λb u e z=>by rw[z,f]at e;cases e
 refine I.step (H':=upd H T o) (h':=s.heap) (g':=s.gens) (d':=s.drawn) (t':=s.toks) (ch:=[T]) (λb hb=>?_) (λb o _ _ _ e _=>e) (λb o _ _ _ e _=>⟨o.slots,e⟩)
  (λb u hc _ n=>by rw[An λz=>hc<|by simp[z]];exact n) (λb o _ e=>⟨o,e⟩) (λb g e=>by rw[An<|a b _ e];exact e) (λb u v e=>by rw[An<|a b _ e];exact e)
  (λb t e=>⟨#[],by rw[An<|a b _ e,e];simp⟩) (λm h=>h) (λb u e=>?_) I.bare
 have e:b=T:=by simpa using hb
 subst e;exact⟨p,i,j,r⟩;by_cases hb:b=T;subst hb;rw[A6]at e;cases e;exact d;rw[An hb]at e;exact(I.hok b u e).stay (λ_ _ _ q=>q) (λc q=>by rw[An<|a c _ q];exact q) λc g q=>by rw[An<|a c _ q];exact q
def Ien(K:lC)(a:lB):It :=
 ⟨λi H=> ∃ b x, Hn K H a b /\ b[i]? = some x,
  λi H v c=> ∃ T x, H T = none /\ v = .ref T /\ c = upd H T (.tup [.int i, x]) /\ ∀ b, Hn K H a b -> b[i]? = some x,
  λi H=> ∃ b, Hn K H a b /\ b.length = i⟩
def Te{P:lD}{w:lE}{K:lC}{b8:oA lF}{k:Nat}{G:Pos}(a e l:lB)(J:e≠l) :
  Turn P w K (.Tuple b8 k G) (Ien K a) [e,l] e (λi h=>(∃m,IsEnum h e l i m)/\h.IsTupleIter l a i) where
 mem:=by simp
 obj:=λi h st b hb=>by
  rcases aD.mp hb with rfl|hb;obtain⟨⟨m,he⟩,_⟩:=st;exact⟨_,he,λv z=>nomatch z⟩;have q:b=l:=by simpa using hb
  subst q;obtain⟨_,o,e,c,d⟩:=st;exact⟨o,e,λv z=>by rw[d]at z;cases z⟩
 keep:=λi h h' st k=>⟨by obtain⟨m,he⟩:=st.1;exact⟨m,k e (by simp) _ he⟩,st.2.at λo q=>k l (by simp) o q⟩
 item:=by
  intro X V N O hc i aa s σ H E I F st Z;subst V N O;obtain⟨xs,x,hq,hx⟩:=Z;obtain⟨C,R,p,hz⟩:=I.tuple hq;obtain⟨u,hu,ru⟩:=R.get hx;obtain⟨⟨m,he⟩,B⟩:=id st;have Y:a≠e:=by intro z;subst z;obtain⟨o,g,n,_⟩:=p;rw[he]at g;cases g;exact absurd n<|by intro z;injection z with z;exact absurd z<|by decide
  have S:a≠l:=by intro z;subst z;obtain⟨o,g,n,_⟩:=p;obtain⟨o',j,f,_⟩:=B;rw[g]at j;cases j;rw[n]at f;exact absurd f<|by intro z;injection z with z;exact absurd z<|by decide
  have W:=iR (prog:=X.prog) (w:=X.w) (A:=X.A) (Fl (A:=X.A.in1) (I.ok.hd hc) l a S C.toArray) e J (by simp[J,Ne.symm Y]) (by simp);refine W.item i s _ _ (by rw[R_];exact(D_.mp hu).1) ⟨⟨m,he⟩,B,p⟩ λT jv h' D hv M ht hm U=>?_;have y:=W.apart i T h' hm;refine⟨_,rfl,W.go b8 k G i T _ _ _ hm λh9 jn jp=>?_⟩;obtain⟨t,L,qr,rfl⟩:=hv;have xq:L=u:=by
   have:C[i]?=some L:=by simpa using qr
   rw[hu]at this;exact(aR this).symm
  subst xq;have I1:Inv X aa σ H {s with heap:=h',toks:=D}:=I.turnedL U F;have I2:Inv X aa σ H {s with heap:=h9,toks:=D}:=I1.turnedL (s:={s with heap:=h',toks:=D}) (t':=D) jp F;have fT:Fj X aa H T:=I.fpOk M<|I.hok.fresh M;have nu:IsTup h9 T #[.int i t,L]:=let⟨o,g,r⟩:=ht;⟨o,jp T o y g,r⟩
  refine⟨.ref T,upd H T<|.tup [.int i,x],I2.track fT ⟨by show 2<=sizeLine;decide,[.int i t,L],.cons ⟨t,rfl⟩<|.cons ru .nil,nu⟩,rfl,⟨T,x,fT.1,rfl,rfl,λys hy=>by rw[I.tuple_inj hy hq];exact hx⟩,⟨jn.1,jn.2.1⟩,λb hb=>?_⟩;have h8:b≠T:=by
   rcases aD.mp hb with rfl|hb;exact Z_<|S_ (N_ he) M;have q:b=l:=by simpa using hb
   subst q;obtain⟨o,g,_⟩:=B;exact Z_<|S_ (N_ g) M
  rw[An h8];exact(F b hb).1
 done:=by
  intro X V N O hc i aa s σ H E I F st Z;subst V N O;obtain⟨xs,hq,hl⟩:=Z;obtain⟨C,R,p,hz⟩:=I.tuple hq;obtain⟨⟨m,he⟩,B⟩:=id st;have Y:a≠e:=by intro z;subst z;obtain⟨o,g,n,_⟩:=p;rw[he]at g;cases g;exact absurd n<|by intro z;injection z with z;exact absurd z<|by decide
  have S:a≠l:=by intro z;subst z;obtain⟨o,g,n,_⟩:=p;obtain⟨o',j,f,_⟩:=B;rw[g]at j;cases j;rw[n]at f;exact absurd f<|by intro z;injection z with z;exact absurd z<|by decide
  have W:=iR (prog:=X.prog) (w:=X.w) (A:=X.A) (Fl (A:=X.A.in1) (I.ok.hd hc) l a S C.toArray) e J (by simp[J,Ne.symm Y]) (by simp);have hn:C.toArray.size=i:=by rw[R_,<- R.length];exact hl
  subst hn;exact W.done s _ _ ⟨⟨m,he⟩,B,p⟩ λh' D U=>⟨rfl,I.turnedL U F⟩
 self:=λA i s Q E st h=>by obtain⟨⟨_,he⟩,_⟩:=st;exact iS he h
def Vu{J:It}{g:TG}{tb:TS}{D:Ends}{σ:St}{H:Hp}(n:Nat)(a:Nat->St->Hp->Prop)(h0:a 0 σ H)(r:∀i σ H,i<n->a i σ H->J.go i H)(o:∀ σ H,a n σ H->J.stop n H/\D.nx σ H)
  (l:∀i x σ H f,i<n->a i σ H->J.yld i H x f->g x σ f λc q=>tb {D with nx:=a<|i+1,ct:=a<|i+1,bk:=D.nx} c q) :
  ∃W:Nat->Nat->St->Hp->Prop,(∃m,W 0 m σ H)/\∀i m σ H,W i m σ H ->
   (J.stop i H/\D.nx σ H)\/(J.go i H/\∃N:St->Hp->Prop,(∀ d b,N d b->∃j,j<m/\W (i+1) j d b)/\∀x b,J.yld i H x b->g x σ b λc f=>tb {D with nx:=N,ct:=N,bk:=D.nx} c f):=by
 refine⟨λi m σ H=>m=n-i/\i<=n/\a i σ H,⟨n,by simp,aN _,h0⟩,?_⟩;rintro i m σ H ⟨rfl,hi,p⟩;by_cases h:i<n;exact .inr ⟨r i σ H h p,a<|i+1,λd b t=>⟨n-(i+1),by omega,rfl,h,t⟩,λx b y=>l i x σ H b h p y⟩;have e:i=n:=by omega
 subst e;exact .inl<|o σ H p
def MP(i j l:Nat)(a:TA):TS:=λD σ H=>a σ H λc b=>∃u v w,c=[u,v,w]/\D.nx (((σ.set i<|some u).set j<|some v).set l<|some w) b
def BC{i j l:Nat}{x y z:Str}{a b c:lF}{O:TA}{B J r E n:Pos}{kt k2 pt2}(hc:X.calm=true)(F:X.N.Nodup)(hi:X.N[i]?=some x)(hj:X.N[j]?=some y)(T:X.N[l]?=some z)(yt:i≠j)(w4:i≠l)(V:j≠l)
  (hx:X.env.scope.names.lookup x=some .local) (hy:X.env.scope.names.lookup y=some .local) (hz:X.env.scope.names.lookup z=some .local) (ha:PA X [a,b,c] O) (Q:swappedStores [.Tuple [.Name x B,.Name y J,.Name z r] kt E] (.Tuple [a,b,c] k2 pt2) X.env=pure (some [x,y,z])) (R:swapsWithSole [.Tuple [.Name x B,.Name y J,.Name z r] kt E] (.Tuple [a,b,c] k2 pt2) n.line X.env=pure false:=by rfl) :
  PS X (.Assign [.Tuple [.Name x B,.Name y J,.Name z r] kt E] (.Tuple [a,b,c] k2 pt2) n) (MP i j l O):=by
 intro aa s σ H D I h;rw[exec_Assign_arm];refine A_<|wpAny_standAt ?_;rw[R];refine A_<|C_ ?_;rw[O_<|by decide];refine A_<|Tuple_<|thn (ha _ aa s σ H _ I h) λZ g P=>?_;obtain⟨vs,L,I1,S,G⟩:=P;obtain⟨u,v,w,t,G⟩:=G;subst t;obtain⟨f,d,m,rfl,ru,rv,gr⟩:∃f d m,Z=[f,d,m]/\Bf u f/\Bf v d/\Bf w m:=by
  cases S with
  |cons p q=>
   cases q with
   |cons p' q'=>
    cases q' with
    |cons mx C=>cases C;exact⟨_,_,_,rfl,p,p',mx⟩
 refine aC ?_ (by show 3<=sizeLine;decide);have I2:Inv X aa σ L {g with heap:=g.heap.push {cls:=.type "tuple",data:=.seq [f,d,m].toArray}}:=I1.kept (t':=g.toks) λb o e=>DD _ e;rw[Q];refine A_<|C_ ?_;show yL X.prog X.w X.A (do rule "assign.swapped-stores";let items <- unpackItems (.ref g.heap.objs.size) 3 none;assignInOrder [λv=>bindName X.env z v,λv=>bindName X.env y v,λv=>bindName X.env x v] items.reverse;pure Flow.next) _ _ _;refine A_<|dM<|A_<|unpackItems_tuple (items:=#[f,d,m]) (I.ok.hd hc) (IsTup.new g.heap _) λh' U=>?_;have Y:=I2.kept (h':=h') (t':=g.toks) λb o e=>U b o (Z_<|N_ e) e;show wpAny _ _ (assignInOrder [λv=>bindName X.env z v,λv=>bindName X.env y v,λv=>bindName X.env x v] [m,d,f]>>=λ_=>pure Flow.next) _ _ _;refine A_<|iC<|wpAny_bindName<|Fi Y F T (.inl hz) gr (λs2 I4=>?_)<|.inr hz;refine iC<|wpAny_bindName<|Fi I4 F hj (.inl hy) rv (λs3 I5=>?_)<|.inr hy;refine iC<|wpAny_bindName<|Fi I5 F hi (.inl hx) ru (λs4 M=>assignInOrder_nil<|C_ ?_)<|.inr hx;have t:((σ.set l<|some w).set j<|some v).set i (some u)=((σ.set l<|some w).set i<|some u).set j (some v):=List.set_comm _ _<|bX yt;have e2:(σ.set l<|some w).set i (some u)=(σ.set i<|some u).set l (some w):=List.set_comm _ _<|bX w4;have W:((σ.set i<|some u).set l<|some w).set j (some v)=((σ.set i<|some u).set j<|some v).set l (some w):=List.set_comm _ _<|bX V;rw[t,e2,W]at M;exact⟨_,L,M,G⟩
def Lx:G4 X (binaryOp .Mult) (λx y H Q=>∃z n,x=.str z/\y=.int n/\(n=0\/n=1)/\Q (.str<|if n=0 then Str.empty else z) H):=by intro aa s σ H x y v u Q I c a h;obtain⟨z,n,rfl,rfl,b,q⟩:=h;obtain⟨t,rfl⟩:=c;obtain⟨d,rfl⟩:=a;rcases b with rfl|rfl;exact P.mul_str_none (by decide) (by decide) ⟨.str Str.empty,H,I.tok _,⟨_,rfl⟩,by simpa using q⟩;refine P.mul_str (by decide) (λ_ z=>by simp at z) (λ_ z=>by simp at z) ?_;rw[O_<|by decide,T_<|by simp];exact⟨.str z,H,I,⟨_,rfl⟩,by simpa using q⟩
end
end L2
namespace HT
open PySem PySem.Spec PyProof.Rows
section
variable {prog:lD}{w:lE}{A:lG}{E:kZ->k_->Prop}{s:k_}
def getItem_tuple_all{t b:lB}{items:oC kZ}{f g:kZ}{lo hi:oB Int}{Q:kZ->k_->Prop}(a:IsTup s.heap t items)(d:s.heap.IsSliceOf b f g .none)(m:IsPart f lo)(i:IsPart g hi)
  (e:sIx items.size 0 lo=0/\sIx items.size items.size hi=items.size)
  (h:Q (.ref t) s):yL prog w A (getItem (.ref t)<|.ref b) Q E s:=by
 obtain⟨os,c,l,j⟩:=id d;have k:s.TypeIs (.ref b) "slice" := ⟨os,c,l⟩;unfold getItem
 try with_reducible refine bS ?_
 first|refine A_ (C_ ?_)|skip
 refine A_ (wpAny_sequenceKey a.typeIs (by decide) ?_);refine A_<|aU (name:=Str.ofString "__getitem__") a.typeIs cL
  (aO cL a.typeIs entry_tuple_getitem ?_<|args_tuple_getitem _ _)
 show wpAny _ _ (Builtin.Tuple.tupleItemsOf (.ref t)>>=_) _ _ s;refine A_<|tupleItemsOf_ a ?_;refine A_<|iK k ?_;rw[T_<|by decide];refine A_<|Eu d m i ?_;have n:(((sIx items.size 0 lo:Nat):Int)==0&&(1:Int)==1&&(sIx items.size items.size hi-sIx items.size 0 lo)==items.size)=true:=by rw[e.1,e.2];simp
 show wpAny _ _ (if(((sIx items.size 0 lo:Nat):Int)==0&&(1:Int)==1&&(sIx items.size items.size hi-sIx items.size 0 lo)==items.size)=true then _ else _) _ _ s;rw[T_ n];unfold Builtin.Tuple.tupleIsExact;refine A_<|A_<|iK a.typeIs<|C_ ?_;rw[T_<|by decide];refine A_<|dM ?_
 first
  |exact C_ ⟨_,rfl,C_ h⟩
  |exact A_ (C_<|C_ ⟨_,rfl,C_ h⟩)
  |exact A_<|C_ ⟨_,rfl,C_ h⟩
end
end HT
namespace L2
open PySem PySem.Spec PyProof.Rows
section
variable {X:Cx}
def Vv{ds:oA lA}{lo hi:oB Int}(h:HT.sIx ds.length 0 lo=0/\HT.sIx ds.length ds.length hi=ds.length):Kc ds lo hi=ds:=by unfold Kc;rw[h.1,h.2,f_,iT,cJ<|F_ _]
def Iel(K:lC)(a:lB):It :=
 ⟨λi H=> ∃ b x, Ep K H a b /\ b[i]? = some x,
  λi H v c=> ∃ T x, H T = none /\ v = .ref T /\ c = upd H T (.tup [.int i, x]) /\ ∀ b, Ep K H a b -> b[i]? = some x,
  λi H=> ∃ b, Ep K H a b /\ b.length = i⟩
def Pk{P:lD}{w:lE}{K:lC}{b8:oA lF}{k:Nat}{J:Pos}(a e l:lB)(L:e≠l) :
  Turn P w K (.Tuple b8 k J) (Iel K a) [e,l] e (λi h=>(∃m,IsEnum h e l i m)/\h.IsListIter l a i) where
 mem:=by simp
 obj:=λi h st b hb=>by
  rcases aD.mp hb with rfl|hb;obtain⟨⟨m,he⟩,_⟩:=st;exact⟨_,he,λv z=>nomatch z⟩;have q:b=l:=by simpa using hb
  subst q;obtain⟨_,o,e,c,d⟩:=st;exact⟨o,e,λv z=>by rw[d]at z;cases z⟩
 keep:=λi h D st k=>⟨by obtain⟨m,he⟩:=st.1;exact⟨m,k e (by simp) _ he⟩,st.2.at λo q=>k l (by simp) o q⟩
 item:=by
  intro X hP R S hc i O s Y H E I G st hg;subst hP R S;obtain⟨xs,x,hq,hx⟩:=hg;obtain⟨C,U,p,hz⟩:=I.list hq;obtain⟨u,hu,ru⟩:=U.get hx;obtain⟨⟨m,he⟩,B⟩:=id st;have mf:a≠e:=by intro z;subst z;obtain⟨o,g,n,_⟩:=p.isList;rw[he]at g;cases g;exact absurd n<|by intro z;injection z with z;exact absurd z<|by decide
  have V:a≠l:=by intro z;subst z;obtain⟨o,g,n,_⟩:=p.isList;obtain⟨o',j,f,_⟩:=B;rw[g]at j;cases j;rw[n]at f;exact absurd f<|by intro z;injection z with z;exact absurd z<|by decide
  have W:=iR (prog:=X.prog) (w:=X.w) (A:=X.A) (Draws.list (A:=X.A.in1) (I.ok.hd hc) l a V C.toArray) e L (by simp[L,Ne.symm mf]) (by simp);refine W.item i s _ _ (by rw[R_];exact(D_.mp hu).1) ⟨⟨m,he⟩,B,p.isList⟩ λT jv D F hv N ht hm Z=>?_;have y:=W.apart i T D hm;refine⟨_,rfl,W.go b8 k J i T _ _ _ hm λh9 jn jp=>?_⟩;obtain⟨t,M,qr,rfl⟩:=hv;have xq:M=u:=by
   have:C[i]?=some M:=by simpa using qr
   rw[hu]at this;exact(aR this).symm
  subst xq;have I1:Inv X O Y H {s with heap:=D,toks:=F}:=I.turnedL Z G;have I2:Inv X O Y H {s with heap:=h9,toks:=F}:=I1.turnedL (s:={s with heap:=D,toks:=F}) (t':=F) jp G;have fT:Fj X O H T:=I.fpOk N<|I.hok.fresh N;have nu:IsTup h9 T #[.int i t,M]:=let⟨o,g,r⟩:=ht;⟨o,jp T o y g,r⟩
  refine⟨.ref T,upd H T<|.tup [.int i,x],I2.track fT ⟨by show 2<=sizeLine;decide,[.int i t,M],.cons ⟨t,rfl⟩<|.cons ru .nil,nu⟩,rfl,⟨T,x,fT.1,rfl,rfl,λys hy=>by rw[I.list_inj hy hq];exact hx⟩,⟨jn.1,jn.2.1⟩,λb hb=>?_⟩;have h8:b≠T:=by
   rcases aD.mp hb with rfl|hb;exact Z_<|S_ (N_ he) N;have q:b=l:=by simpa using hb
   subst q;obtain⟨o,g,_⟩:=B;exact Z_<|S_ (N_ g) N
  rw[An h8];exact(G b hb).1
 done:=by
  intro X hP R S hc i O s Y H E I G st hg;subst hP R S;obtain⟨xs,hq,hl⟩:=hg;obtain⟨C,U,p,hz⟩:=I.list hq;obtain⟨⟨m,he⟩,B⟩:=id st;have mf:a≠e:=by intro z;subst z;obtain⟨o,g,n,_⟩:=p.isList;rw[he]at g;cases g;exact absurd n<|by intro z;injection z with z;exact absurd z<|by decide
  have V:a≠l:=by intro z;subst z;obtain⟨o,g,n,_⟩:=p.isList;obtain⟨o',j,f,_⟩:=B;rw[g]at j;cases j;rw[n]at f;exact absurd f<|by intro z;injection z with z;exact absurd z<|by decide
  have W:=iR (prog:=X.prog) (w:=X.w) (A:=X.A) (Draws.list (A:=X.A.in1) (I.ok.hd hc) l a V C.toArray) e L (by simp[L,Ne.symm mf]) (by simp);have hn:C.toArray.size=i:=by rw[R_,<- U.length];exact hl
  subst hn;exact W.done s _ _ ⟨⟨m,he⟩,B,p.isList⟩ λD F Z=>⟨rfl,I.turnedL Z G⟩
 self:=λA i s Q E st h=>by obtain⟨⟨_,he⟩,_⟩:=st;exact iS he h
end
end L2
namespace PySem
open Sem (wp)
open AutoSeq1 (wpAny_loadPart')
set_option maxRecDepth 100000
section
variable {prog:lD}{w:lE}{K:Type} [DecidableEq K]
end
end PySem
namespace L2
open PySem PySem.Spec PyProof.Rows
section
variable {X:Cx}{K:lC}{o e:lF}{es:oA lF}{to:TE}{t:TA}{name:Str}{a8 ao:Pos}{T id:String}{r:V->oA V->Hp->VK->Prop}
theorem Ea{f g:Type}{F:f->g->Prop}:∀{c:oA f} {d:oA g} {j:Nat} {a:f},Paired F c d->c[j]?=some a->∃b,d[j]?=some b/\F a b
 |_,_,_,_,.nil,e=>by simp at e
 |_,_,0,_,.cons r _,e=>by simp at e;subst e;exact⟨_,rfl,r⟩
 |_,_,j+1,a,.cons _ t,e=>by obtain⟨b,h1,h2⟩:=Ea (j:=j) (a:=a) t (by simpa using e);exact⟨b,by simpa using h1,h2⟩
def BD{a b:Str}(h:a.cps.toList=b.cps.toList):a=b:=PySem.Str.ext'<|by simpa using b_ List.toArray h
def Tf:DX X "str.join" (λx b H Q=>∃z p a,x=.str z/\b=[.ref p]/\H p=some (.lst<|a.map V.str)/\(a.map (·.length)).sum+a.length*z.length<=16777216/\Q (.str<|Txt.join z a) H):=by intro j s f H x b v g Q I c r h;obtain⟨z,p,a,d,i,hp,hz,q⟩:=h;exact BA j s f H x b v g Q I c r ⟨z,p,a,d,i,Ep.of hp,hz,q⟩
end
def Cal(P:lD)(w:lE)(K:lC)(c:Str->oB kZ)(base:lH)(n:Nat)(x:Str)(b:oA Str)(sp:Sp):Prop :=
 ∃g a,FnOk P w K c base Cm n g a b sp/\Binds K a b []/\PySem.W.keepIn K (.ref g)=true/\c x=some (.ref g)
def Cal.mono{P:lD}{w:lE}{K:lC}{b:Str->oB kZ}{base:lH}{n m:Nat}{x:Str}{a:oA Str}{sp:Sp}(c:Cal P w K b base n x a sp)(h:n<=m):Cal P w K b base m x a sp :=
 by obtain⟨g,d,G,r⟩:=c;exact⟨g,d,G.mono h,r⟩
end L2
namespace L2
open PySem PySem.Spec PySem.Calls PyProof.Rows
abbrev bmV:oA kZ:=[.type "ValueError",.type "Exception",.type "BaseException",.type "object"]
def Qar(K:lC)(C:lB)(a:ClassData)(b:oC<|oB kZ):Bool:=a.mro.head?==some (.ref C) && !a.hasDel&&PySem.W.tailIn K bmV a.mro.tail&&b.size==6&&b[4]?==some (some<|.builtin "ValueError.__new__")
def WH{g:oC<|oB kZ}{v:oB kZ}(h:g.size=6)(e:g[4]?=some v):∃j q w i r,g=#[j,q,w,i,v,r]:=by
 obtain⟨l⟩:=g;have s:∀{n:Nat} {l:oA<|oB kZ},l.length=n+1->∃a t,l=a::t/\t.length=n:=λ{n l} h=>by
  cases l with
  |nil=>cases h
  |cons a t=>exact⟨a,t,rfl,eY h⟩
 obtain⟨a,_,rfl,h1⟩:=s h;obtain⟨b,_,rfl,h2⟩:=s h1;obtain⟨c,_,rfl,u⟩:=s h2;obtain⟨d,_,rfl,m⟩:=s u;obtain⟨k,_,rfl,p⟩:=s m;obtain⟨f,_,rfl,o⟩:=s p;cases cD o;have:k=v:=by simpa using e
 subst this;exact⟨a,b,c,d,f,rfl⟩
section
open Builtin Builtin.ObjectAttr
variable {prog:lD}{w:lE}{A:lG}{E:kZ->k_->Prop}{s:k_}{K:lC}{x C:lB}{ox:lI}{od:oB lI}{name:Str}{v:kZ}{R:lO->k_->Prop}
end
def XD(c:lB)(b:oA<|Str×V):HO:=.ext λh=>∃a,h.Ns1 c a/\(∀f,Ho (b.lookup f)<|a f)/\PySem.Within a (b.map (·.1))
inductive Ctxs (h:lH):lB->oA lB->Prop
 |nil {e:lB} {o:lI} {vs:oC kZ}:h.get? e=some o->o.data=.fields vs->vs[2]?=some Value.none->Ctxs h e []
 |cons {e E:lB} {o:lI} {vs:oC kZ} {l:oA lB}:h.get? e=some o->o.data=.fields vs->vs[2]?=some (Value.ref E)->Ctxs h E l->Ctxs h e (E::l)
structure ExcRec(h:lH)(e:lB)(cls:kZ)(d:oB lB)(vs:oC kZ):Prop where
 at_:h.get? e=some ⟨cls,d,.fields vs,#[]⟩
 six:vs.size=6
 tb:vs[1]?=some .none\/∃T oT ts,vs[1]?=some (.ref T)/\T≠e/\h.get? T=some oT/\oT.data=.fields ts/\ts[3]?=some .none
 cx:∃l,Ctxs h e l
def XR(e C:lB)(d:oB lB):HO:=.ext λh=>∃a:oC kZ,h.get? e=some ⟨.ref C,d,.fields a,#[]⟩/\a.size=6
section
variable {X:Cx}{aa:oA<|lB×lI}{σ:St}{H:Hp}{s:k_}{a C:lB}{d:oB lB}{h':lH}
def WI(X:Cx)(b:XK):Prop:=∀(aa:oA<|lB×lI) (σ:St) (H:Hp) (s:k_) (a C:lB) (d:oB lB) (vs:oC kZ),Inv X aa σ H s->H a=some (XR a C d)->ExcRec s.heap a (.ref C) d vs->b (.ref C) (some a) H->X.xe (.ref a) s
abbrev Cx.suite(X:Cx)(e:lB):Cx:={X with A:=X.A.mark<|some<|.ref e,calm:=false,xe:=λ_ _=>False}
abbrev Cx.taking(X:Cx)(xe:kZ->k_->Prop)(pn:oA<|lB×lI):Cx:={X with xe:=xe,pn:=pn}
def Inv.take{xe:kZ->k_->Prop}(I:Inv X aa σ H s):Inv (X.taking xe<|X.pn++aa) [] σ H s :=
 ⟨⟨I.ok.mod,I.ok.kind,I.ok.glob,I.ok.blt,I.ok.above,I.ok.inj,I.ok.has,I.ok.cab,I.ok.hd,I.ok.frames,I.ok.stk,I.ok.exf,I.ok.bs,I.ok.bsz,I.ok.noex,I.ok.exfs,I.ok.funs,I.ok.frf⟩,I.os,I.bare,I.base,I.loc,I.cell,I.free,I.freeC,λp hp=>I.pin p<|by rw[cP]at hp;exact hp,I.hok,I.len⟩
def Inv.untake{xe:kZ->k_->Prop}{pins':oA<|lB×lI}(ok:X.Ok)(I:Inv (X.taking xe<|X.pn++aa) pins' σ H s):Inv X aa σ H s :=
 ⟨ok,I.os,I.bare,I.base,I.loc,I.cell,I.free,I.freeC,λp hp=>I.pin p<|Y_ _ hp,I.hok,I.len⟩
end
end L2
namespace L2
open PySem PySem.Spec PyProof.Rows
inductive AV where
 |D (d:lA)|R (a:lB)|C (ds:oA lA)|X (C:lB) (fs:oA<|Str×lA)
 deriving Inhabited
mutual
def Cano:lA->Bool
 |.int _=>true
 |.str _=>true
 |.tuple a=>Bg a
 |_=>false
def Bg:oA lA->Bool
 |[]=>true
 |x::a=>Cano x&&Bg a
end
structure KeyTree(d:lA):Prop where
 can:Cano d=true
 lay:d.canLay0=true
 dep:d.depth<=6
def O8(K:lC)(H:Hp)(a:lB)(xs:oA V):Prop :=
 (∃o,H a=some (.frz o<|.lst xs)) \/
  ∃(o:lI) (b:oC kZ) (n:Nat),K.lookup a=some o/\o.cls=.type "list" /\ o.dict=none/\o.data=.seq b n/\b.size<=sizeLine/\Vals xs b.toList
def O8.sq{K:lC}{H:Hp}{a:lB}{xs:oA V}(h:O8 K H a xs):Ep K H a xs:=by rcases h with⟨o,h⟩|h;exact .inl<|.inr ⟨o,h⟩;exact .inr h
def Lit:oA lA->Bool
 |.str _::_=>true
 |.tuple _::_=>true
 |_=>false
def Tg(K:lC)(H:Hp)(a:lB)(ds:oA lA)(xs:oA V):Prop :=
 H a=some (.tup xs)\/(Lit ds=true/\∃(o:lI) (b:oC kZ) (n:Nat),K.lookup a=some o/\o.cls=.type "tuple" /\ o.data=.seq b n/\b.size<=sizeLine/\Vals xs b.toList)
def Tg.sq{K:lC}{H:Hp}{a:lB}{ds:oA lA}{xs:oA V}(h:Tg K H a ds xs):Hn K H a xs:=by rcases h with h|h;exact Hn.of h;exact .inr h.2
mutual
def Dk(K:lC)(H:Hp):lA->V->Prop
 |.none,x=>x=.non
 |.bool b,x=>x=.bl b
 |.int i,x=>x=.int i
 |.str z,x=>x=.str z
 |.list d,x=>∃a c,x=.ref a/\O8 K H a c/\Ap K H d c
 |.tuple d,x=>∃a c,x=.ref a/\Tg K H a d c/\Ap K H d c
 |.dict _,_=>False
def Ap(K:lC)(H:Hp):oA lA->oA V->Prop
 |[],a=>a=[]
 |d::b,a=>∃x r,a=x::r/\Dk K H d x/\Ap K H b r
end
structure Kp(H H':Hp):Prop where
 t:∀b xs,H b=some (.tup xs)->H' b=some (.tup xs)
 f:∀b o u,H b=some (.frz o u)->H' b=some (.frz o u)
def Kp.refl{H:Hp}:Kp H H:=⟨λ_ _ h=>h,λ_ _ _ h=>h⟩
def Kp.trans{H g e:Hp}(a:Kp H g)(b:Kp g e):Kp H e:=⟨λc d h=>b.t c d<|a.t c d h,λc o u h=>b.f c o u<|a.f c o u h⟩
def Kp.new{H:Hp}{p:lB}(h:H p=none)(o:HO):Kp H (upd H p o) :=
 ⟨λb a e=>by rw[An<|B6 e h];exact e,λb c u e=>by rw[An<|B6 e h];exact e⟩
def Mt:HO->Prop
 |.lst _=>True
 |.dK _=>True
 |.dT _=>True
 |.dd _=>True
 |.tbl _=>True
 |_=>False
def Kp.put{H:Hp}{p:lB}{a:HO}(h:H p=some a)(m:Mt a)(o:HO):Kp H (upd H p o) :=
 ⟨λb c e=>by rw[An<|M3 e h<|by intro z;subst z;exact m];exact e,λb d u e=>by rw[An<|M3 e h<|by intro z;subst z;exact m];exact e⟩
def O8.kp{K:lC}{H H':Hp}{a:lB}{xs:oA V}(S:Kp H H')(h:O8 K H a xs):O8 K H' a xs:=by rcases h with⟨o,h⟩|h;exact .inl ⟨o,S.f _ _ _ h⟩;exact .inr h
def Tg.kp{K:lC}{H H':Hp}{a:lB}{ds:oA lA}{xs:oA V}(S:Kp H H')(h:Tg K H a ds xs):Tg K H' a ds xs:=by rcases h with h|h;exact .inl<|S.t _ _ h;exact .inr h
section
variable {K:lC}{H H':Hp}{X:Cx}{a b c:lF}{ta tb tc:AE}{pos:Pos}{rest:oA lF}{tA k8:AT}{es:oA lF}{t:AA}{k:Nat}{x:Str}{p:Pos}{e:lF}{g7 T:String}{r:AC}{o:lF}{to:AE}{name:Str}{a8 ao:Pos}{m:AV->AC}
mutual
theorem Dk.kp(S:Kp H H'):∀(d:lA) (x:V),Dk K H d x->Dk K H' d x
 |.none,x,h=>by simp only[Dk]at h ⊢;exact h
 |.bool b,x,h=>by simp only[Dk]at h ⊢;exact h
 |.int i,x,h=>by simp only[Dk]at h ⊢;exact h
 |.str z,x,h=>by simp only[Dk]at h ⊢;exact h
 |.list g,x,h=>by simp only[Dk]at h ⊢;obtain⟨a,f,e,q,r⟩:=h;exact⟨a,f,e,q.kp S,Ap.kp S g f r⟩
 |.tuple g,x,h=>by simp only[Dk]at h ⊢;obtain⟨a,f,e,q,r⟩:=h;exact⟨a,f,e,q.kp S,Ap.kp S g f r⟩
 |.dict _,x,h=>by simp only[Dk]at h
theorem Ap.kp(S:Kp H H'):∀(ds:oA lA) (xs:oA V),Ap K H ds xs->Ap K H' ds xs
 |[],xs,h=>by simp only[Ap]at h ⊢;exact h
 |d::ds,xs,h=>by simp only[Ap]at h ⊢;obtain⟨x,r,e,h1,h2⟩:=h;exact⟨x,r,e,Dk.kp S d x h1,Ap.kp S ds r h2⟩
end
def Co{i:Int}:Dk K H (.int i) (.int i):=by simp only[Dk]
def Kw{b:Bool}:Dk K H (.bool b) (.bl b):=by simp only[Dk]
def Pl{z:Str}:Dk K H (.str z) (.str z):=by simp only[Dk]
def Vw:Dk K H .none .non:=by simp only[Dk]
def Dk.int{x:V}{i:Int}(h:Dk K H (.int i) x):x=.int i:=by simp only[Dk]at h;exact h
def Dk.bl{x:V}{i:Bool}(h:Dk K H (.bool i) x):x=.bl i:=by simp only[Dk]at h;exact h
def Dk.str{x:V}{i:Str}(h:Dk K H (.str i) x):x=.str i:=by simp only[Dk]at h;exact h
def Dk.non{x:V}(h:Dk K H .none x):x=.non:=by simp only[Dk]at h;exact h
def Dk.tup{x:V}{ds:oA lA}(h:Dk K H (.tuple ds) x):∃a d,x=.ref a/\Tg K H a ds d/\Ap K H ds d:=by simp only[Dk]at h;exact h
def Dk.lst{x:V}{ds:oA lA}(h:Dk K H (.list ds) x):∃a d,x=.ref a/\O8 K H a d/\Ap K H ds d:=by simp only[Dk]at h;exact h
def Gw{a:lB}{xs:oA V}{ds:oA lA}(h:H a=some (.tup xs))(r:Ap K H ds xs):Dk K H (.tuple ds) (.ref a):=by simp only[Dk];exact⟨a,xs,rfl,.inl h,r⟩
def HE{a:lB}{xs:oA V}{ds:oA lA}(h:O8 K H a xs)(r:Ap K H ds xs):Dk K H (.list ds) (.ref a):=by simp only[Dk];exact⟨a,xs,rfl,h,r⟩
def Cr:Ap K H [] []:=by simp only[Ap]
def B8{d:lA}{ds:oA lA}{x:V}{xs:oA V}(h:Dk K H d x)(r:Ap K H ds xs):Ap K H (d::ds) (x::xs):=by simp only[Ap];exact⟨x,xs,rfl,h,r⟩
def Ap.cons{d:lA}{ds:oA lA}{xs:oA V}(h:Ap K H (d::ds) xs):∃x r,xs=x::r/\Dk K H d x/\Ap K H ds r:=by simp only[Ap]at h;exact h
def Ap.nil{xs:oA V}(h:Ap K H [] xs):xs=[]:=by simp only[Ap]at h;exact h
theorem Ap.length:∀{ds:oA lA} {xs:oA V},Ap K H ds xs->xs.length=ds.length
 |[],_,h=>by rw[h.nil];rfl
 |_::ds,_,h=>by obtain⟨x,r,rfl,_,h2⟩:=h.cons;rw[bE,bE,Ap.length h2]
theorem Ap.get:∀{ds:oA lA} {xs:oA V} {i:Nat} {d:lA},Ap K H ds xs->ds[i]?=some d->∃x,xs[i]?=some x/\Dk K H d x
 |[],_,_,_,_,e=>by simp at e
 |_::ds,_,0,d,h,e=>by obtain⟨x,r,rfl,h1,_⟩:=h.cons;simp at e;subst e;exact⟨x,rfl,h1⟩
 |_::ds,_,i+1,d,h,e=>by obtain⟨x,r,rfl,_,h2⟩:=h.cons;obtain⟨y,f,g⟩:=Ap.get (i:=i) (d:=d) h2 (by simpa using e);exact⟨y,by simpa using f,g⟩
theorem Ap.append:∀{ds es:oA lA} {xs ys:oA V},Ap K H ds xs->Ap K H es ys->Ap K H (ds++es) (xs++ys)
 |[],_,_,_,h,k=>by rw[h.nil];exact k
 |_::ds,_,_,_,h,k=>by obtain⟨x,r,rfl,h1,h2⟩:=h.cons;exact B8 h1<|Ap.append h2 k
theorem Ap.drop:∀(n:Nat) {ds:oA lA} {xs:oA V},Ap K H ds xs->Ap K H (ds.drop n) (xs.drop n)
 | 0,_,_,h=>h
 |_+1,[],_,h=>by rw[h.nil];exact Cr
 |n+1,_::ds,_,h=>by obtain⟨x,r,rfl,_,h2⟩:=h.cons;exact Ap.drop n h2
theorem Ap.take:∀(n:Nat) {ds:oA lA} {xs:oA V},Ap K H ds xs->Ap K H (ds.take n) (xs.take n)
 | 0,_,_,_=>Cr
 |_+1,[],_,h=>by rw[h.nil];exact Cr
 |n+1,_::ds,_,h=>by obtain⟨x,r,rfl,h1,h2⟩:=h.cons;exact B8 h1<|Ap.take n h2
def Ap.cut{ds:oA lA}{xs:oA V}(h:Ap K H ds xs)(lo hi:oB Int):Ap K H (Kc ds lo hi) (J8 xs lo hi):=by unfold Kc J8;rw[h.length];exact(h.drop _).take _
theorem Ap.atI{ds:oA lA}{xs:oA V}{i:Int}{d:lA}(h:Ap K H ds xs)(e:atI ds i=some d):∃x,L2.atI xs i=some x/\Dk K H d x:=by
 unfold L2.atI at e ⊢;rw[h.length];cases q:AH ds.length i with
 |none=>rw[q]at e;cases e
 |some j=>rw[q]at e;obtain⟨x,hx,f⟩:=h.get<|show ds[j]?=some d from e;exact⟨x,hx,f⟩
def Vx(K:lC)(H:Hp):oA (Str×lA)->oA (Str×V)->Prop:=Paired λp q=>p.1=q.1/\Dk K H p.2 q.2
def Vx.kp{d:oA<|Str×lA}{vs:oA<|Str×V}(S:Kp H H')(h:Vx K H d vs):Vx K H' d vs:=Paired.mapP h λp q r=>⟨r.1,Dk.kp S _ _ r.2⟩
def XFs(K:lC)(H:Hp)(d:oB lB)(g:oA<|Str×lA):Prop:=match d with
 |none=>g=[]
 |some d=>∃h f,H d=some (.frz h<|XD d f)/\Vx K H g f
theorem XFs.kp{d:oB lB}{i:oA<|Str×lA}(S:Kp H H')(h:XFs K H d i):XFs K H' d i:=by
 cases d with
 |none=>exact h
 |some d=>obtain⟨j,g,q,r⟩:=h;exact⟨j,g,S.f _ _ _ q,r.kp S⟩
def RelA(K:lC)(H:Hp):AV->V->Prop
 |.D d,v=>Dk K H d v
 |.R a,v=>v=.ref a
 |.C g,v=>∃a f,v=.ref a/\(∀H,Hn K H a f)/\Ap K H g f
 |.X C h,v=>∃a o d,v=.ref a/\H a=some (.frz o<|XR a C d)/\XFs K H d h
def Ct{i:Int}:RelA K H (.D<|.int i) (.int i):=Co (K:=K) (H:=H)
def D5{i:Bool}:RelA K H (.D<|.bool i) (.bl i):=Kw (K:=K) (H:=H)
def Ja{i:Str}:RelA K H (.D<|.str i) (.str i):=Pl (K:=K) (H:=H)
def Hu:RelA K H (.D .none) .non:=Vw (K:=K) (H:=H)
def RelA.int{x:V}{i:Int}(h:RelA K H (.D<|.int i) x):x=.int i:=Dk.int (K:=K) (H:=H) h
def RelA.bl{x:V}{i:Bool}(h:RelA K H (.D<|.bool i) x):x=.bl i:=Dk.bl (K:=K) (H:=H) h
def RelA.str{x:V}{i:Str}(h:RelA K H (.D<|.str i) x):x=.str i:=Dk.str (K:=K) (H:=H) h
def RelA.non{x:V}(h:RelA K H (.D .none) x):x=.non:=Dk.non (K:=K) (H:=H) h
def RelA.tup{x:V}{ds:oA lA}(h:RelA K H (.D<|.tuple ds) x):∃a d,x=.ref a/\Tg K H a ds d/\Ap K H ds d:=Dk.tup (K:=K) (H:=H) h
def RelA.lst{x:V}{ds:oA lA}(h:RelA K H (.D<|.list ds) x):∃a d,x=.ref a/\O8 K H a d/\Ap K H ds d:=Dk.lst (K:=K) (H:=H) h
def RelA.ref{x:V}{a:lB}(h:RelA K H (.R a) x):x=.ref a:=h
def Dy{a:lB}:RelA K H (.R a) (.ref a):=rfl
def Th{d:lA}{v:V}(h:Dk K H d v):RelA K H (.D d) v:=h
def Ly{a:lB}{xs:oA V}{ds:oA lA}(h:H a=some (.tup xs))(r:Ap K H ds xs):RelA K H (.D<|.tuple ds) (.ref a):=Gw (K:=K) (H:=H) h r
abbrev A5(K:lC)(H:Hp):oA AV->oA V->Prop:=Paired<|RelA K H
theorem RelA.kp(S:Kp H H'):∀{x:AV} {v:V},RelA K H x v->RelA K H' x v
 |.D d,v,h=>Dk.kp S d v h
 |.R a,_,h=>h
 |.C i,v,⟨a,g,e,q,r⟩=>⟨a,g,e,q,Ap.kp S i g r⟩
 |.X C j,v,⟨a,o,d,e,q,r⟩=>⟨a,o,d,e,S.f _ _ _ q,r.kp S⟩
def A5.kp(S:Kp H H'){xs:oA AV}{vs:oA V}(h:A5 K H xs vs):A5 K H' xs vs:=Paired.mapP h λ_ _ q=>q.kp S
def A5.length{xs:oA AV}{vs:oA V}(h:A5 K H xs vs):xs.length=vs.length:=bB h
def A5.append{xs ys:oA AV}{us d:oA V}(h:A5 K H xs us)(s:A5 K H ys d):A5 K H (xs++ys) (us++d):=by
 induction h with
 |nil=>exact s
 |cons r t f=>exact .cons r f
theorem A5.get:∀{xs:oA AV} {us:oA V} {i:Nat} {x:AV},A5 K H xs us->xs[i]?=some x->∃u,us[i]?=some u/\RelA K H x u
 |_,_,_,_,.nil,e=>by simp at e
 |_,_,0,_,.cons r _,e=>by simp at e;subst e;exact⟨_,rfl,r⟩
 |_,_,i+1,x,.cons _ t,e=>by obtain⟨u,h1,h2⟩:=A5.get (i:=i) (x:=x) t (by simpa using e);exact⟨u,by simpa using h1,h2⟩
theorem A5.drop:∀{xs:oA AV} {us:oA V} (n:Nat),A5 K H xs us->A5 K H (xs.drop n) (us.drop n)
 |_,_,0,r=>r
 |_,_,_+1,.nil=>.nil
 |_,_,n+1,.cons _ t=>A5.drop n t
theorem A5.take:∀{xs:oA AV} {us:oA V} (n:Nat),A5 K H xs us->A5 K H (xs.take n) (us.take n)
 |_,_,0,_=>.nil
 |_,_,_+1,.nil=>.nil
 |_,_,n+1,.cons r t=>.cons r<|A5.take n t
theorem A5.dropLast{xs:oA AV}{us:oA V}(h:A5 K H xs us):A5 K H xs.dropLast us.dropLast:=by
 induction h with
 |nil=>exact .nil
 |cons r t d=>
  cases t with
  |nil=>exact .nil
  |cons f t=>exact .cons r d
def A5.rev{xs:oA AV}{us:oA V}(h:A5 K H xs us):A5 K H xs.reverse us.reverse:=by
 induction h with
 |nil=>exact .nil
 |cons r t d=>rw[iL,iL];exact d.append<|.cons r .nil
def Kd(xs:oA AV)(lo hi:oB Int):oA AV:=(xs.drop<|HT.sIx xs.length 0 lo).take<|HT.sIx xs.length xs.length hi-HT.sIx xs.length 0 lo
def A5.cut{xs:oA AV}{us:oA V}(h:A5 K H xs us)(lo hi:oB Int):A5 K H (Kd xs lo hi) (J8 us lo hi):=by unfold Kd J8;rw[h.length];exact(h.drop _).take _
theorem A5.atI{xs:oA AV}{us:oA V}{i:Int}{x:AV}(h:A5 K H xs us)(e:atI xs i=some x):∃u,L2.atI us i=some u/\RelA K H x u:=by
 unfold L2.atI at e ⊢;rw[<- h.length];cases q:AH xs.length i with
 |none=>rw[q]at e;cases e
 |some j=>rw[q]at e;obtain⟨x,hx,d⟩:=h.get<|show xs[j]?=some x from e;exact⟨x,hx,d⟩
def dats:oA AV->oB (oA lA)
 |[]=>some []
 |.D d::r=>match dats r with
  |some f=>some (d::f)
  |none=>none
 |.R _::_=>none
 |.C _::_=>none
 |.X _ _::_=>none
@[simp] theorem dats_nil:dats []=some []:=rfl
theorem Bx:∀(ds:oA lA),dats (ds.map .D)=some ds
 |[]=>rfl
 |d::ds=>by simp only[List.map_cons,dats,Bx ds]
theorem Ij:∀{xs:oA AV} {ds:oA lA},dats xs=some ds->xs=ds.map .D
 |[],ds,h=>by cases h;rfl
 |.D d::r,ds,h=>by
  simp only[dats]at h;cases q:dats r with
  |none=>rw[q]at h;cases h
  |some es=>rw[q]at h;cases h;rw[Ij q];rfl
 |.R _::_,_,h=>by simp[dats]at h
 |.C _::_,_,h=>by simp[dats]at h
 |.X _ _::_,_,h=>by simp[dats]at h
theorem A5.dk:∀{ds:oA lA} {vs:oA V},A5 K H (ds.map .D) vs->Ap K H ds vs
 |[],_,h=>by cases h;exact Cr
 |_::_,_,h=>by
  rw[aS]at h;cases h with
  |cons r t=>exact B8 r<|A5.dk t
theorem Ap.rel:∀{ds:oA lA} {vs:oA V},Ap K H ds vs->A5 K H (ds.map .D) vs
 |[],_,h=>by rw[h.nil];exact .nil
 |_::_,_,h=>by obtain⟨x,r,rfl,h1,h2⟩:=h.cons;exact .cons h1<|Ap.rel h2
def A5.dats{xs:oA AV}{vs:oA V}{ds:oA lA}(h:A5 K H xs vs)(e:dats xs=some ds):Ap K H ds vs:=by rw[Ij e]at h;exact h.dk
inductive MO where
 |lst (xs:oA AV)|dk (kvs:oA<|Key×AV)|dt (kvs:oA<|oA Key×AV)|dd (kvs:oA<|lA×AV)|tb (ps:oC kZ)
abbrev M:=lB->oB MO
def Ao(d:M)(a:lB)(m:MO):M:=λb=>if b=a then some m else d b
def Ac{d:M}{a:lB}{m:MO}:Ao d a m a=some m:=by unfold Ao;rw[T_ rfl]
def Af{d:M}{a b:lB}{m:MO}(h:b≠a):Ao d a m b=d b:=by unfold Ao;rw[O_ h]
def Bk{d:M}{a:lB}{m n:MO}:Ao (Ao d a m) a n=Ao d a n:=by funext b;unfold Ao;split<;>rfl
def Ex{d:Type}(K:lC)(H:Hp):oA (d×AV)->oA (d×V)->Prop:=Paired λp q=>p.1=q.1/\RelA K H p.2 q.2
def Ex.kp{d:Type}(S:Kp H H'){xs:oA<|d×AV}{vs:oA<|d×V}(h:Ex K H xs vs):Ex K H' xs vs:=Paired.mapP h λ_ _ q=>⟨q.1,q.2.kp S⟩
def Ed(K:lC)(H:Hp):oA (lA×AV)->oA (lA×lB×kZ)->Prop:=Paired λp q=>p.1=q.1/\KeyTree p.1/\Dk K H p.1 (.ref q.2.1)/\∃v,RelA K H p.2 v/\Bf v q.2.2
def Ed.kp(S:Kp H H'){xs:oA<|lA×AV}{vs:oA<|lA×lB×kZ}(h:Ed K H xs vs):Ed K H' xs vs:=Paired.mapP h<|by rintro _ _ ⟨a,b,c,v,r,q⟩;exact ⟨a,b,Dk.kp S _ _ c,v,r.kp S,q⟩
def Hv(K:lC)(H:Hp):MO->HO->Prop
 |.lst g,o=>∃f,o=.lst f/\A5 K H g f
 |.dk d,o=>∃f,o=.dK f/\Ex K H d f
 |.dt d,o=>∃f,o=.dT f/\Ex K H d f
 |.dd d,o=>∃g,o=.dd g/\Ed K H d g
 |.tb h,o=>o=.tbl h
theorem Hv.kp(S:Kp H H'){m:MO}{o:HO}(h:Hv K H m o):Hv K H' m o:=by
 cases m with
 |lst f=>obtain⟨d,e,r⟩:=h;exact⟨d,e,r.kp S⟩
 |dk f=>obtain⟨d,e,r⟩:=h;exact⟨d,e,r.kp S⟩
 |dt f=>obtain⟨d,e,r⟩:=h;exact⟨d,e,r.kp S⟩
 |dd f=>obtain⟨d,e,r⟩:=h;exact⟨d,e,r.kp S⟩
 |tb g=>exact h
def Dh{xs:oA AV}{vs:oA V}(h:A5 K H xs vs):Hv K H (.lst xs) (.lst vs):=⟨vs,rfl,h⟩
def Cn(K:lC)(d:M)(H:Hp):Prop:=∀a m,d a=some m->∃o,H a=some o/\Hv K H m o
theorem Cn.none{d:M}{p:lB}(c:Cn K d H)(h:H p=none):d p=none:=by
 cases q:d p with
 |none=>rfl
 |some m=>obtain⟨o,e,_⟩:=c p m q;rw[h]at e;cases e
def Cn.over{d:M}{p:lB}{o:HO}(c:Cn K d H)(h:H p=Option.none):Cn K d (upd H p o):=λa m e=>by obtain⟨g,f,r⟩:=c a m e;exact⟨g,by rw[An<|B6 f h];exact f,r.kp<|Kp.new h o⟩
def Cn.new{d:M}{p:lB}{m:MO}{o:HO}(c:Cn K d H)(h:H p=Option.none)(r:Hv K H m o):Cn K (Ao d p m) (upd H p o):=λa f e=>by by_cases ha:a=p;subst ha;rw[Ac]at e;cases e;exact⟨o,A6,r.kp<|Kp.new h o⟩;rw[Af ha]at e;exact c.over h a f e
def Cn.put{f:M}{p:lB}{m:MO}{o d:HO}(c:Cn K f H)(h:H p=some d)(g:Mt d)(r:Hv K H m o):Cn K (Ao f p m) (upd H p o):=λa l e=>by by_cases ha:a=p;subst ha;rw[Ac]at e;cases e;exact⟨o,A6,r.kp<|Kp.put h g o⟩;rw[Af ha]at e;obtain⟨i,j,n⟩:=c a l e;exact⟨i,by rw[An ha];exact j,n.kp<|Kp.put h g o⟩
def Sub(f d:M):Prop:=∀a m,f a=some m->d a=some m
def Sub.refl{d:M}:Sub d d:=λ_ _ h=>h
def Sub.trans{f g d:M}(h:Sub f g)(k:Sub g d):Sub f d:=λa m e=>k a m<|h a m e
def Sub.new{d g:M}{p:lB}{m:MO}(h:Sub d g)(e:d p=none):Sub d (Ao g p m):=λa i f=>by rw[Af<|by intro z;subst z;rw[e]at f;cases f];exact h a i f
theorem Sub.none{d f:M}{p:lB}(h:Sub d f)(e:f p=none):d p=none:=by
 cases q:d p with
 |none=>rfl
 |some m=>rw[h p m q]at e;cases e
def Cn.sub{d f:M}(c:Cn K f H)(h:Sub d f):Cn K d H:=λa m e=>c a m<|h a m e
abbrev ASt:=oA<|oB AV
def Kx(K:lC)(H:Hp)(a:oB AV)(b:oB V):Prop:=∀x,a=some x->∃v,b=some v/\RelA K H x v
abbrev D8(K:lC)(H:Hp):ASt->St->Prop:=Paired<|Kx K H
def Kx.kp{a:oB AV}{b:oB V}(S:Kp H H')(h:Kx K H a b):Kx K H' a b:=λx e=>by obtain⟨v,d,r⟩:=h x e;exact⟨v,d,r.kp S⟩
def D8.kp{τ:ASt}{d:St}(S:Kp H H')(h:D8 K H τ d):D8 K H' τ d:=Paired.mapP h λ_ _ q=>q.kp S
theorem D8.get:∀{τ:ASt} {d:St} {i:Nat} {x:AV},D8 K H τ d->τ[i]?=some (some x)->∃v,d[i]?=some (some v)/\RelA K H x v
 |_,_,_,_,.nil,e=>by simp at e
 |_,_,0,_,.cons r _,e=>by simp at e;subst e;obtain⟨v,rfl,q⟩:=r _ rfl;exact⟨v,rfl,q⟩
 |_,_,i+1,x,.cons _ t,e=>by obtain⟨u,h1,h2⟩:=D8.get (i:=i) (x:=x) t (by simpa using e);exact⟨u,by simpa using h1,h2⟩
def Gx{x:AV}{v:V}(r:RelA K H x v):Kx K H (some x) (some v):=λy e=>by cases e;exact⟨v,rfl,r⟩
def Jb{b:oB V}:Kx K H none b:=λy e=>nomatch e
theorem D8.set{x:AV}{v:V}(r:RelA K H x v):∀{τ:ASt} {d:St} (i:Nat),D8 K H τ d->D8 K H (τ.set i<|some x) (d.set i<|some v)
 |_,_,_,.nil=>.nil
 |_,_,0,.cons _ t=>.cons (Gx r) t
 |_,_,i+1,.cons q t=>.cons q<|D8.set r i t
def Em(N:oA Str)(xs:oA AV):ASt:=xs.map some++List.replicate (N.length-xs.length) none
theorem D8.rep:∀(n:Nat),D8 K H (List.replicate n none) (List.replicate n none)
 | 0=>.nil
 |n+1=>.cons Jb<|D8.rep n
theorem D8.somes:∀{xs:oA AV} {vs:oA V},A5 K H xs vs->D8 K H (xs.map some) (vs.map some)
 |_,_,.nil=>.nil
 |_,_,.cons r t=>.cons (Gx r)<|D8.somes t
def D8.append{τ f:ASt}{g d:St}(h:D8 K H τ g)(s:D8 K H f d):D8 K H (τ++f) (g++d):=by
 induction h with
 |nil=>exact s
 |cons r t i=>exact .cons r i
def D8.begin{N:oA Str}{xs:oA AV}{vs:oA V}(h:A5 K H xs vs):D8 K H (Em N xs) (start N vs):=by unfold Em start;rw[h.length];exact(D8.somes h).append<|D8.rep _
def HF(mp:oA<|oB Nat)(τ:ASt):ASt:=mp.map λo=>match o with
 |none=>none
 |some j=>match τ[j]? with
  |some x=>x
  |none=>none
theorem D8.sub{τ:ASt}{d:St}(h:D8 K H τ d):∀(mp:oA<|oB Nat),D8 K H (HF mp τ) (Nd mp d)
 |[]=>.nil
 |none::mp=>.cons Jb (D8.sub h mp)
 |some j::mp=>by
  refine .cons (λx e=>?_)<|D8.sub h mp;have f:τ[j]?=some (some x):=by
   dsimp only at e;cases q:τ[j]? with
   |none=>rw[q]at e;cases e
   |some y=>rw[q]at e;exact b_ some e
  obtain⟨v,hv,r⟩:=h.get f;refine⟨v,?_,r⟩;show(d[j]?).join=some v;rw[hv];rfl
abbrev AE:=ASt->M->(AV->M->Prop)->Prop
abbrev AT:=ASt->M->(Bool->M->Prop)->Prop
abbrev AA:=ASt->M->(oA AV->M->Prop)->Prop
abbrev AO:=ASt->M->(oB Int->M->Prop)->Prop
abbrev AS:=(ASt->M->Prop)->(AV->M->Prop)->(ASt->M->Prop)->(ASt->M->Prop)->ASt->M->Prop
abbrev AG:=AV->ASt->M->(ASt->M->Prop)->Prop
abbrev AGs:=oA AV->ASt->M->(ASt->M->Prop)->Prop
abbrev A2:=AV->AV->M->(AV->M->Prop)->Prop
abbrev AC:=oA AV->M->(AV->M->Prop)->Prop
@[irreducible] def brP (b:Bool) (T F:Prop):Prop:=match b with
 |true=>T
 |false=>F
@[irreducible] def opt {d:Type} (o:oB d) (k:d->Prop):Prop:=match o with
 |some x=>k x
 |none=>False
def br{b:Bool}{T F:Prop}(h1:b=true->T)(h2:b=false->F):brP b T F:=by
 unfold brP;cases b with
 |true=>exact h1 rfl
 |false=>exact h2 rfl
def J4{b:Bool}{T F:Prop}(hb:b=true)(h:T):brP b T F:=by subst hb;unfold brP;exact h
def J5{b:Bool}{T F:Prop}(hb:b=false)(h:F):brP b T F:=by subst hb;unfold brP;exact h
def Vy{T F:Prop}:brP true T F=T:=by unfold brP;rfl
def br_e{b:Bool}{T F:Prop}(h:brP b T F):(b=true/\T)\/(b=false/\F):=by
 unfold brP at h;cases b with
 |true=>exact .inl ⟨rfl,h⟩
 |false=>exact .inr ⟨rfl,h⟩
def Ab{d:Type}{o:oB d}{x:d}{k:d->Prop}(h:o=some x)(q:k x):opt o k:=by subst h;unfold opt;exact q
def A4{d:Type}{o:oB d}{k:d->Prop}(h:opt o k):∃x,o=some x/\k x:=by
 unfold opt at h;cases o with
 |none=>exact h.elim
 |some x=>exact⟨x,rfl,h⟩
def dif{p:Prop} [Decidable p]{T F:Prop}(h1:p->T)(h2:¬p->F):brP (decide p) T F:=br (λh=>h1<|aE h) λh=>h2<|of_decide_eq_false h
def LV(K:lC)(H:Hp)(R:AV->M->Prop)(Q:VK):Prop:=∀x d v H',Kp H H'->Cn K d H'->RelA K H' x v->R x d->Q v H'
def LB(K:lC)(H:Hp)(R:Bool->M->Prop)(Q:Bool->Hp->Prop):Prop:=∀b d H',Kp H H'->Cn K d H'->R b d->Q b H'
def LA(K:lC)(n:Nat)(H:Hp)(R:oA AV->M->Prop)(Q:oA V->Hp->Prop):Prop:=∀d f g H',Kp H H'->Cn K f H'->A5 K H' d g->d.length=n->R d f->Q g H'
def LO(K:lC)(H:Hp)(R:oB Int->M->Prop)(Q:oB Int->Hp->Prop):Prop:=∀b d H',Kp H H'->Cn K d H'->R b d->Q b H'
def LS(K:lC)(H:Hp)(R:ASt->M->Prop)(Q:St->Hp->Prop):Prop:=∀ g f d H',Kp H H'->D8 K H' g d->Cn K f H'->R g f->Q d H'
def LV.kp{K:lC}{H H':Hp}{R:AV->M->Prop}{Q:VK}(h:LV K H R Q)(S:Kp H H'):LV K H' R Q:=λx d v g f=>h x d v g<|S.trans f
def LB.kp{K:lC}{H H':Hp}{R:Bool->M->Prop}{Q:Bool->Hp->Prop}(h:LB K H R Q)(S:Kp H H'):LB K H' R Q:=λx d g f=>h x d g<|S.trans f
def LS.kp{K:lC}{H H':Hp}{R:ASt->M->Prop}{Q:St->Hp->Prop}(h:LS K H R Q)(S:Kp H H'):LS K H' R Q:=λx d v g f=>h x d v g<|S.trans f
structure LE'(K:lC)(H:Hp)(k:ASt->M->Prop)(r:AV->M->Prop)(b c:ASt->M->Prop)(D:Ends):Prop where
 nx:LS K H k D.nx
 rt:LV K H r D.rt
 bk:LS K H b D.bk
 ct:LS K H c D.ct
def LE'.kp{K:lC}{H H':Hp}{k:ASt->M->Prop}{r:AV->M->Prop}{b c:ASt->M->Prop}{D:Ends}(h:LE' K H k r b c D)(S:Kp H H'):LE' K H' k r b c D:=⟨h.nx.kp S,h.rt.kp S,h.bk.kp S,h.ct.kp S⟩
def cE(K:lC)(t:AE):TE:=λg H Q=>∃ d f R,D8 K H d g/\Cn K f H/\t d f R/\LV K H R Q
def cT(K:lC)(t:AT):TT:=λg H Q=>∃ d f R,D8 K H d g/\Cn K f H/\t d f R/\LB K H R Q
def cA(K:lC)(n:Nat)(t:AA):TA:=λg H Q=>∃ f d R,D8 K H f g/\Cn K d H/\t f d R/\LA K n H R Q
def cO(K:lC)(t:AO):TO:=λg H Q=>∃ d f R,D8 K H d g/\Cn K f H/\t d f R/\LO K H R Q
def cS(K:lC)(t:AS):TS:=λD g H=>∃ f d k r b c,D8 K H f g/\Cn K d H/\t k r b c f d/\LE' K H k r b c D
def cG(K:lC)(t:AG):TG:=λv g H Q=>∃x f d R,RelA K H x v/\D8 K H f g/\Cn K d H/\t x f d R/\LS K H R Q
def cGs(K:lC)(t:AGs):TGs:=λi h H Q=>∃f g d R,A5 K H f i/\D8 K H g h/\Cn K d H/\t f g d R/\LS K H R Q
def cR(K:lC)(r:A2):R2:=λx y H Q=>∃a b d R,RelA K H a x/\RelA K H b y/\Cn K d H/\r a b d R/\LV K H R Q
def cC(K:lC)(r:AC):oA V->Hp->VK->Prop:=λf H Q=>∃as d R,A5 K H as f/\Cn K d H/\r as d R/\LV K H R Q
def cM(K:lC)(r:AV->AC):V->oA V->Hp->VK->Prop:=λx f H Q=>∃a as d R,RelA K H a x/\A5 K H as f/\Cn K d H/\r a as d R/\LV K H R Q
def VE(X:Cx)(e:lF)(t:AE):Prop:=PE X e<|cE X.K t
def VT(X:Cx)(e:lF)(t:AT):Prop:=PT X e<|cT X.K t
def VW(X:Cx)(e:lF)(t:AT):Prop:=PW X e<|cT X.K t
def VA(X:Cx)(es:oA lF)(t:AA):Prop:=PA X es<|cA X.K es.length t
def VO(X:Cx)(e:oB lF)(t:AO):Prop:=PO X e<|cO X.K t
def VS(X:Cx)(st:lJ)(t:AS):Prop:=PS X st<|cS X.K t
def VSs(X:Cx)(st:oA lJ)(t:AS):Prop:=PSs X st<|cS X.K t
def VG(X:Cx)(e:lF)(t:AG):Prop:=PG X e<|cG X.K t
def VGs(X:Cx)(es:oA lF)(t:AGs):Prop:=PGs X es<|cGs X.K t
def VOp(X:Cx)(f:kZ->kZ->Sem kZ)(r:A2):Prop:=G4 X f<|cR X.K r
def VIx(X:Cx)(r:A2):Prop:=ME X<|cR X.K r
def VCall(X:Cx)(f:kZ)(r:AC):Prop:=Et X f<|cC X.K r
def VMt(X:Cx)(id:String)(r:AV->AC):Prop:=DX X id<|cM X.K r
def PE.imp{e:lF}{t u:TE}(h:PE X e t)(i:∀ d H Q,u d H Q->t d H Q):PE X e u:=λf s d H Q I q=>h f s d H Q I<|i d H Q q
def PT.imp{e:lF}{t u:TT}(h:PT X e t)(i:∀ d H Q,u d H Q->t d H Q):PT X e u:=λf s d H Q I q=>h f s d H Q I<|i d H Q q
def PW.imp{e:lF}{t u:TT}(h:PW X e t)(i:∀ d H Q,u d H Q->t d H Q):PW X e u:=λf g s d H Q I q=>h f g s d H Q I<|i d H Q q
def PA.imp{e:oA lF}{t u:TA}(h:PA X e t)(i:∀ d H Q,u d H Q->t d H Q):PA X e u:=λpos f s d H Q I q=>h pos f s d H Q I<|i d H Q q
def PO.imp{e:oB lF}{t u:TO}(h:PO X e t)(i:∀ d H Q,u d H Q->t d H Q):PO X e u:=λf s d H Q I q=>h f s d H Q I<|i d H Q q
def PS.imp{e:lJ}{t u:TS}(h:PS X e t)(i:∀D d H,u D d H->t D d H):PS X e u:=λf s d H D I q=>h f s d H D I<|i D d H q
def PSs.imp{e:oA lJ}{t u:TS}(h:PSs X e t)(i:∀D d H,u D d H->t D d H):PSs X e u:=λf s d H D I q=>h f s d H D I<|i D d H q
def PG.imp{e:lF}{t u:TG}(h:PG X e t)(i:∀v d H Q,u v d H Q->t v d H Q):PG X e u:=λf s d H v w Q I r q=>h f s d H v w Q I r<|i v d H Q q
def PGs.imp{e:oA lF}{t u:TGs}(h:PGs X e t)(i:∀v d H Q,u v d H Q->t v d H Q):PGs X e u:=λf s d H v w Q I r q=>h f s d H v w Q I r<|i v d H Q q
def Jc(i:Nat):AE:=λf d R=>match f[i]? with
 |some (some x)=>R x d
 |_=>False
def Vz{K:lC}{i:Nat}{d:St}{H:Hp}{Q:VK}(h:cE K (Jc i) d H Q):LD i d H Q:=by obtain⟨l,j,R,f,hc,h,hq⟩:=h;unfold Jc at h;split at h;rename_i x e;obtain⟨v,g,r⟩:=f.get e;exact⟨v,g,hq _ _ _ _ Kp.refl hc r h⟩;exact h.elim
def vv(i:Nat){x:Str}{pos:Pos}(d:X.N[i]?=some x:=by rfl)(hv:Vis X.env.scope x:=by first|exact Or.inl rfl|exact Or.inr (Or.inl rfl)|exact Or.inr<|Or.inr rfl)(f:(x==("__debug__" : Str))=false:=by decide)
  (g:(x==("__classdict__" : Str))=false:=by decide):VE X (.Name x pos) (Jc i):=(FN d hv f g).imp λ_ _ _ h=>Vz h
def vC(x:AV):AE:=λ_ d R=>R x d
def Fm{e:lF}{v:V}{d:lA}(h:PE X e<|tC v)(r:∀H,Dk X.K H d v):VE X e (vC<|.D d):=h.imp λi H Q f=>B4 f λl j R g hc h hq=>hq _ _ _ _ Kp.refl hc (Th<|r H) h
def Ag{i j pos}:VE X (.Constant (.int i) j pos) (vC<|.D<|.int i):=Fm FO λ_=>Co
def Fe{b j pos}:VE X (.Constant (.bool b) j pos) (vC<|.D<|.bool b):=Fm LF λ_=>Kw
def Cu{j pos}:VE X (.Constant .none j pos) (vC<|.D .none):=Fm FP λ_=>Vw
def Ca{x j pos}:VE X (.Constant (.str x) j pos) (vC<|.D<|.str x):=Fm U0 λ_=>Pl
def Ik{x:Str}{v:V}{u:kZ}{d:lA}{pos:Pos}(g:Gl X x)(f:X.mg x=some u)(r:Bf v u)(h:∀H,Dk X.K H d v)(h1:(x==("__debug__" : Str))=false:=by decide):VE X (.Name x pos) (vC<|.D d):=Fm (Zu g f r h1) h
def HG(r:A2)(ta tb:AE):AE:=λg h R=>ta g h λx d=>tb g d λy f=>r x y f R
def Il{K:lC}{r:A2}{ta tb:AE}{l:St}{H:Hp}{Q:VK}(h:cE K (HG r ta tb) l H Q):LP (cR K r) (cE K ta) (cE K tb) l H Q:=by obtain⟨i,z,R,g,hc,h,hq⟩:=h;exact⟨i,z,_,g,hc,h,λx d v C n w s hx=>⟨i,d,_,g.kp n,w,hx,λy f u B j A q hy=>⟨x,y,f,R,s.kp j,q,A,hy,hq.kp<|n.trans j⟩⟩⟩
def A9{d:Operator}{r:A2}(f:VOp X (binaryOp d) r)(ha:VE X a ta)(hb:VE X b tb):VE X (.BinOp a d b pos) (HG r ta tb):=(LQ f ha hb).imp λ_ _ _ h=>Il h
def E8{d:CmpOp}{r:A2}(g:VOp X (compareOp d) r)(ha:VE X a ta)(hb:VE X b tb)(f:behindInMarks d b=false):VE X (.Compare a [d] [b] pos) (HG r ta tb):=(Z7 g ha hb f).imp λ_ _ _ h=>Il h
def Ky(t:AE):AT:=λg f R=>t g f λx d=>match x with
 |.D (.bool k)=>R k d
 |_=>False
def Ey{K:lC}{t:AE}{u:TE}(hu:∀ d H Q,cE K t d H Q->u d H Q){d:St}{H:Hp}{Q:Bool->Hp->Prop}(h:cT K (Ky t) d H Q):DW u d H Q:=by obtain⟨i,q,R,f,hc,h,hq⟩:=h;refine hu _ _ _ ⟨i,q,_,f,hc,h,λx l v s n j g hx=>?_⟩;split at hx;cases RelA.bl g;exact⟨_,rfl,hq _ _ _ n j hx⟩;exact hx.elim
def A7{d:CmpOp}{r:A2}(g:VOp X (compareOp d) r)(ha:VE X a ta)(hb:VE X b tb)(f:behindInMarks d b=false):VT X (.Compare a [d] [b] pos) (Ky<|HG r ta tb) :=
 (Z8 g ha hb f).imp λ_ _ _ h=>Ey (λ_ _ _ q=>Il q) h
def E9{e:lF}{t:AE}(h:VE X e t)(he:∀d,isTrue e X.env d=(do let v <- d;standAt e.pos;holding [v]<|truthy v):=by intro _;rfl):VT X e (Ky t) :=
 (FR h he).imp λ_ _ _ h=>by have h:=Ey (λ_ _ _ q=>q) h;exact h
def WJ(t u:AT):AT:=λf g R=>t f g λk d=>brP k (u f d R)<|R false d
def vOr(t u:AT):AT:=λf g R=>t f g λk d=>brP k (R true d)<|u f d R
def WK(t:AT):AT:=λg f R=>t g f λk d=>R (!k) d
def VW.pt{e:lF}{t:AT}(h:VW X e t):VT X e t:=PW.pt h
def D3(ha:VT X a tA):VW X (.BoolOp .And [a] pos) tA:=Zv ha
def Pm(ha:VT X a tA):VW X (.BoolOp .Or [a] pos) tA:=FS ha
def Eb(ha:VT X a tA)(hb:VW X (.BoolOp .And (b::rest) pos) k8):VW X (.BoolOp .And (a::b::rest) pos) (WJ tA k8) :=
 (FU ha hb).imp λu H Q d=>B4 d λl q R j hc h hq=>⟨l,q,_,j,hc,h,λk f s i n hk=>by
  rcases br_e hk with⟨rfl,g⟩|⟨rfl,g⟩;exact⟨l,f,R,j.kp i,n,g,hq.kp i⟩;exact hq _ _ _ i n g⟩
def V0(ha:VT X a tA)(hb:VW X (.BoolOp .Or (b::rest) pos) k8):VW X (.BoolOp .Or (a::b::rest) pos) (vOr tA k8) :=
 (LG ha hb).imp λu H Q f=>B4 f λl q R j hc h hq=>⟨l,q,_,j,hc,h,λk d s i n hk=>by
  rcases br_e hk with⟨rfl,g⟩|⟨rfl,g⟩;exact hq _ _ _ i n g;exact⟨l,d,R,j.kp i,n,g,hq.kp i⟩⟩
def Lz(ha:VT X a tA):VT X (.UnaryOp .Not a pos) (WK tA):=(FV ha).imp λs H Q d=>B4 d λg l R f hc h hq=>⟨g,l,_,f,hc,h,λk j q n i hk=>hq _ _ _ n i hk⟩
def Jd{op}{t:AE}(h:VE X a t):VE X (.BoolOp op [a] pos) t:=FW h
def MQ(ta tb:AE):AE:=λf g R=>ta f g λx d=>match x with
 |.D (.bool k)=>brP k (tb f d R) (R (.D<|.bool false) d)
 |_=>False
def WL(ta tb:AE):AE:=λf g R=>ta f g λx d=>match x with
 |.D (.bool k)=>brP k (R (.D<|.bool true) d) (tb f d R)
 |_=>False
def Pn(ha:VE X a ta)(hb:VE X (.BoolOp .And (b::rest) pos) tb):VE X (.BoolOp .And (a::b::rest) pos) (MQ ta tb) :=
 (FX ha hb).imp λw H Q i=>B4 i λl s R j hc h hq=>⟨l,s,_,j,hc,h,λx d v u g n q hk=>by
  split at hk;cases RelA.bl q;rcases br_e hk with⟨rfl,f⟩|⟨rfl,f⟩;exact⟨true,rfl,⟨l,d,R,j.kp g,n,f,hq.kp g⟩⟩;exact⟨false,rfl,hq _ _ _ _ g n D5 f⟩;exact hk.elim⟩
def EC(ha:VE X a ta)(hb:VE X (.BoolOp .Or (b::rest) pos) tb):VE X (.BoolOp .Or (a::b::rest) pos) (WL ta tb) :=
 (LI ha hb).imp λw H Q f=>B4 f λl s R j hc h hq=>⟨l,s,_,j,hc,h,λx d v u i n q hk=>by
  split at hk;cases RelA.bl q;rcases br_e hk with⟨rfl,g⟩|⟨rfl,g⟩;exact⟨true,rfl,hq _ _ _ _ i n D5 g⟩;exact⟨false,rfl,⟨l,d,R,j.kp i,n,g,hq.kp i⟩⟩;exact hk.elim⟩
def vIf(t:AT)(ta tb:AE):AE:=λf g R=>t f g λk d=>brP k (ta f d R)<|tb f d R
def Fn(hc:VT X c tA)(ha:VE X a ta)(hb:VE X b tb):VE X (.IfExp c a b pos) (vIf tA ta tb) :=
 (U1 hc ha hb).imp λu H Q l=>B4 l λi q R g hc h hq=>⟨i,q,_,g,hc,h,λk d s f n hk=>by
  rcases br_e hk with⟨rfl,j⟩|⟨rfl,j⟩;exact⟨i,d,R,g.kp f,n,j,hq.kp f⟩;exact⟨i,d,R,g.kp f,n,j,hq.kp f⟩⟩
def Po:AA:=λ_ d R=>R [] d
def V1(ta:AE)(h:AA):AA:=λg i R=>ta g i λx d=>h g d λj f=>R (x::j) f
def Ad:VA X [] Po:=GM.imp λi H Q d=>B4 d λj f R g hc h hq=>hq [] f [] H Kp.refl hc .nil rfl h
def Aa{e:lF}{es:oA lF}{te:AE}{t:AA}(ha:VE X e te)(C:VA X es t)(f:starEach (e::es) X.env=(false,eval e X.env)::starEach es X.env:=by rfl):VA X (e::es) (V1 te t) :=
 (Z9 ha C f).imp λG H Q d=>B4 d λj B R f hc h hq=>⟨j,B,_,f,hc,h,λx g v F n w s hx=>⟨j,g,_,f.kp n,w,hx,λq i A y l D z u E=>
  hq (x::q) i (v::A) y (n.trans l) D (.cons (s.kp l) z) (by rw[bE,u];rfl) E⟩⟩
def MR(t:AA):AE:=λi g R=>t i g λh d=>match dats h with
 |some f=>R (.D<|.tuple f) d
 |none=>False
def MS(t:AA):AE:=λh f R=>t h f λg d=>∀p,d p=none->R (.R p) (Ao d p<|.lst g)
def Bc{k:Nat}(h:VA X es t)(hn:es.length<=sizeLine:=by decide):VE X (.Tuple es k pos) (MR t) :=
 (GN h).imp λz H Q d=>B4 d λi q R g hc h hq=>⟨i,q,_,g,hc,h,λv n y w s l f j hx=>⟨by rw[<- f.length,j];exact hn,λp hp=>by
  split at hx;rename_i u e;refine hq _ _ _ _ (s.trans<|Kp.new hp _) (l.over hp) ?_ hx;exact Gw A6<|Ap.kp (Kp.new hp _) _ _<|f.dats e;exact hx.elim⟩⟩
def Cb(h:VA X es t)(hn:es.length<=sizeLine:=by decide):VE X (.List es pos) (MS t) :=
 (GO h).imp λy H Q d=>B4 d λj q R i hc h hq=>⟨j,q,_,i,hc,h,λu n w v s f g l hx=>⟨by rw[<- g.length,l];exact hn,λp hp=>
  hq _ _ _ _ (s.trans<|Kp.new hp _) (f.new hp<|Dh<|g) Dy (hx p<|f.none hp)⟩⟩
mutual
theorem Dk.reads{y:oA<|lB×lI}{w:St}{H:Hp}{s:k_}(I:Inv X y w H s):∀(d:lA) (x:V) (u:kZ),Dk X.K H d x->Bf x u->∃as,Reads s.heap u d as
 |.none,x,u,h,r=>by cases h.non;cases r;exact⟨_,.none⟩
 |.bool b,x,u,h,r=>by cases h.bl;cases r;exact⟨_,.bool b⟩
 |.int i,x,u,h,r=>by cases h.int;obtain⟨t,rfl⟩:=r;exact⟨_,.int i t⟩
 |.str z,x,u,h,r=>by cases h.str;obtain⟨t,rfl⟩:=r;exact⟨_,.str z t⟩
 |.list f,x,u,h,r=>by obtain⟨a,g,rfl,q,k⟩:=h.lst;cases r;obtain⟨l,j,⟨o,n,e,c,_,d⟩,_⟩:=I.list q.sq;obtain⟨as,v⟩:=Ap.reads I f g l k j;exact⟨_,.list e c d<|by simpa using v⟩
 |.tuple f,x,u,h,r=>by obtain⟨a,g,rfl,q,k⟩:=h.tup;cases r;obtain⟨l,j,⟨o,e,c,n,d⟩,_⟩:=I.tuple q.sq;obtain⟨as,v⟩:=Ap.reads I f g l k j;exact⟨_,.tuple e c d<|by simpa using v⟩
 |.dict _,x,u,h,_=>by simp only[Dk]at h
theorem Ap.reads{q:oA<|lB×lI}{l:St}{H:Hp}{s:k_}(I:Inv X q l H s):∀(ds:oA lA) (xs:oA V) (us:oA kZ),Ap X.K H ds xs->Vals xs us->∃as,ReadsAll s.heap us ds as
 |[],xs,us,h,r=>by have e:=h.nil;subst e;cases r;exact⟨_,.nil⟩
 |d::ds,xs,us,h,r=>by
  obtain⟨x,n,rfl,h1,h2⟩:=h.cons;cases r with
  |cons f g=>obtain⟨as,i⟩:=Dk.reads I d x _ h1 f;obtain⟨u,j⟩:=Ap.reads I ds n _ h2 g;exact⟨_,.cons i j⟩
end
def see(g:M):AV->oB lA
 |.X _ _=>none
 |.D d=>some d
 |.C f=>some (.tuple f)
 |.R a=>match g a with
  |some (.lst h)=>match dats h with
   |some f=>some (.list f)
   |none=>none
  |_=>none
@[simp] theorem see_D {f:M} {d:lA}:see f (.D d)=some d:=rfl
def F7{E:oA<|lB×lI}{B:St}{H:Hp}{s:k_}{w:M}{x:AV}{v:V}{u:kZ}{d:lA}(I:Inv X E B H s)(hc:Cn X.K w H)(i:RelA X.K H x v)(r:Bf v u)(e:see w x=some d):∃as,Reads s.heap u d as:=by
 cases x with
 |X C J=>cases e
 |D L=>cases e;exact Dk.reads I _ _ _ i r
 |C f=>cases e;obtain⟨a,l,rfl,q,k⟩:=i;cases r;obtain⟨h,g,⟨o,e,c,n,d⟩,_⟩:=I.tuple<|q H;obtain⟨as,j⟩:=Ap.reads I f l h k g;exact⟨_,.tuple e c d<|by simpa using j⟩
 |R a=>dsimp only[see]at e;split at e;rename_i l G;split at e;rename_i f F;cases e;cases (show v=.ref a from i);cases r;obtain⟨o,y,A,rfl,z⟩:=hc a _ G;obtain⟨h,g,⟨o,n,e,c,_,dd⟩,_⟩:=I.list<|Ep.of y;obtain⟨as,j⟩:=Ap.reads I f A h (z.dats F) g;exact⟨_,.list e c dd<|by simpa using j⟩;cases e;cases e
def Cp(d:lA):Prop:=d.canLay0=true/\d.depth<=64
def ZS:A2:=λx y f R=>match x,y with
 |.D d,.D e=>Cp d/\Cp e/\R (.D<|.bool<|PyData.eqv d e) f
 |x,y=>opt (see f x) λd=>opt (see f y) λe=>Cp d/\Cp e/\R (.D<|.bool<|PyData.eqv d e) f
def BE{x y:AV}{f:M}{R:AV->M->Prop}(h:ZS x y f R):∃d e,see f x=some d/\see f y=some e/\Cp d/\Cp e/\R (.D<|.bool<|PyData.eqv d e) f:=by
 have g:∀(h:opt (see f x) λd=>opt (see f y) λe=>Cp d/\Cp e/\R (.D<|.bool<|PyData.eqv d e) f),∃d e,see f x=some d/\see f y=some e/\Cp d/\Cp e/\R (.D<|.bool<|PyData.eqv d e) f:=by intro h;obtain⟨d,i,h⟩:=A4 h;obtain⟨e,j,h⟩:=A4 h;exact⟨d,e,i,j,h⟩
 cases x with
 |D d=>
  cases y with
  |D e=>exact⟨_,_,rfl,rfl,h⟩
  |_=>exact g h
 |_=>exact g h
def D9(B:Room k X.A):VOp X (compareOp .Eq) ZS:=by intro F s D H x y v u Q I j i f;refine Er f λa b E R q w hc h hq=>?_;obtain⟨d,e,z,l,h⟩:=BE h;obtain⟨as,g⟩:=F7 I hc q j z;obtain⟨C,n⟩:=F7 I hc w i l;have hu:=B.un;have:=h.1.2;exact SeqAt.compareEq_reads g n h.1.1 h.2.1.1 (by omega) ⟨.bl _,H,I,rfl,hq _ _ _ _ Kp.refl hc D5 h.2.2⟩
def Nh:lA->oB Key
 |.int i=>some (.inl i)
 |.str z=>some (.inr z)
 |_=>none
def items(f:M):AV->oB (oA AV)
 |.D (.tuple d)=>some (d.map .D)
 |.C d=>some (d.map .D)
 |.D (.list d)=>some (d.map .D)
 |.R a=>match f a with
  |some (.lst g)=>some g
  |_=>none
 |_=>none
def Kz{H:Hp}{g:M}{x:AV}{v:V}{xs:oA AV}(hc:Cn X.K g H)(f:RelA X.K H x v)(e:items g x=some xs):∃p d,v=.ref p/\(Ep X.K H p d\/Hn X.K H p d)/\A5 X.K H xs d:=by unfold items at e;split at e;cases e;obtain⟨a,d,rfl,q,r⟩:=RelA.tup f;exact⟨a,d,rfl,.inr q.sq,r.rel⟩;cases e;obtain⟨a,d,rfl,q,r⟩:=f;exact⟨a,d,rfl,.inr<|q H,r.rel⟩;cases e;obtain⟨a,d,rfl,q,r⟩:=RelA.lst f;exact⟨a,d,rfl,.inl q.sq,r.rel⟩;split at e;rename_i l j;cases e;obtain⟨o,h,d,rfl,i⟩:=hc _ _ j;exact⟨_,d,f,.inl<|Ep.of h,i⟩;cases e;cases e
def ED:AV->Bool
 |.D (.tuple _)=>true
 |.C _=>true
 |_=>false
def Cc{H:Hp}{g:M}{x:AV}{v:V}{xs:oA AV}(hc:Cn X.K g H)(f:RelA X.K H x v)(e:items g x=some xs):∃p d,v=.ref p/\((ED x=false/\Ep X.K H p d)\/(ED x=true/\Hn X.K H p d))/\A5 X.K H xs d:=by unfold items at e;split at e;cases e;obtain⟨a,d,rfl,q,r⟩:=RelA.tup f;exact⟨a,d,rfl,.inr ⟨rfl,q.sq⟩,r.rel⟩;cases e;obtain⟨a,d,rfl,q,r⟩:=f;exact⟨a,d,rfl,.inr ⟨rfl,q H⟩,r.rel⟩;cases e;obtain⟨a,d,rfl,q,r⟩:=RelA.lst f;exact⟨a,d,rfl,.inl ⟨rfl,q.sq⟩,r.rel⟩;split at e;rename_i l j;cases e;obtain⟨o,h,d,rfl,i⟩:=hc _ _ j;exact⟨_,d,f,.inl ⟨rfl,Ep.of h⟩,i⟩;cases e;cases e
def KQ(h:Bool->Bool):A2:=λx y g R=>match y with
 |.D (.str j)=>match x with
  |.D (.str i)=>R (.D<|.bool<|h<|!(Builtin.Str.occurrences j i 0 j.length 1).isEmpty) g
  |_=>False
 |.C f=>opt (see g x) λd=>Cp d/\Cp (.tuple f)/\R (.D<|.bool<|h<|f.any λe=>PyData.eqv e d) g
 |.D (.tuple f)=>opt (see g x) λd=>Cp d/\Cp (.tuple f)/\R (.D<|.bool<|h<|f.any λe=>PyData.eqv e d) g
 |y=>opt (see g x) λd=>opt (items g y) λl=>opt (dats l) λf=>Cp d/\Cp (.tuple f)/\R (.D<|.bool<|h<|f.any λe=>PyData.eqv e d) g
def Rb{n:Bool->Bool}{x y:AV}{i:M}{R:AV->M->Prop}(h:KQ n x y i R)(hn:∀z,y≠.D (.str z)):∃d j g,see i x=some d/\items i y=some j/\dats j=some g/\Cp d/\Cp (.tuple g)/\R (.D<|.bool<|n<|g.any λe=>PyData.eqv e d) i:=by unfold KQ at h;split at h;exact absurd rfl<|hn _;obtain⟨d,f,h⟩:=A4 h;exact⟨d,_,_,f,rfl,Bx _,h⟩;obtain⟨d,f,h⟩:=A4 h;exact⟨d,_,_,f,rfl,Bx _,h⟩;obtain⟨d,f,h⟩:=A4 h;obtain⟨j,q,h⟩:=A4 h;obtain⟨g,l,h⟩:=A4 h;exact⟨d,j,g,f,q,l,h⟩
def Ni{ds:oA lA}(h:Cp<|.tuple ds):PyData.canLayAll0 ds=true/\PyData.depthAll ds<=64:=by obtain⟨h1,h2⟩:=h;simp only[PyData.canLay0]at h1;simp only[PyData.depth]at h2;exact⟨h1,Nat.le_of_succ_le h2⟩
def HH(Z:Room k X.A):VOp X (compareOp .In) (KQ λb=>b):=by
 intro V s U H x y v u Q I O N i;refine Er i λa b μ R P f hc h hq=>?_;by_cases hb:∃z,b=.D (.str z);obtain⟨z,rfl⟩:=hb;unfold KQ at h;dsimp only at h;split at h;cases RelA.str P;cases RelA.str f;exact Sv V s U H _ _ v u Q I O N ⟨_,_,rfl,rfl,hq _ _ _ _ Kp.refl hc D5 h⟩;exact h.elim;obtain⟨d,ys,G,Y,ey,C,h⟩:=Rb h λz e=>hb ⟨z,e⟩
 skip
 obtain⟨j,B,h⟩:=h;obtain⟨as,M⟩:=F7 I hc P O Y;obtain⟨p,J,rfl,hp,S⟩:=Kz hc f ey;cases N;obtain⟨n,l⟩:=Ni B;have L:=S.dats C;have hu:=Z.un;have q:=hq _ _ _ _ Kp.refl hc D5 h;rcases hp with hp|hp;obtain⟨g,r,F,hz⟩:=I.list hp;obtain⟨W,f⟩:=Ap.reads I G J g L r;have e:=λA=>Ew (A:=A) M j.1;refine SeqAt.in_listAt (O7 s.heap d) F.isList (λw E=>(e _ (by first|(show X.A.units+64<_;omega)|(show X.A.units+1+64<_;omega)|(show X.A.units+1+1+64<_;omega)) f n l).1 w<|by simpa using E) ⟨.bl _,H,I,rfl,?_⟩;rw[show g.toArray.any (O7 s.heap d)=g.any (O7 s.heap d) by simp,(e X.A (by omega) f n l).2];exact q;obtain⟨g,r,F,hz⟩:=I.tuple hp;obtain⟨W,f⟩:=Ap.reads I G J g L r;have e:=λA=>Ew (A:=A) M j.1;refine SeqAt.in_tupleAt (O7 s.heap d) F (λw E=>(e _ (by first|(show X.A.units+64<_;omega)|(show X.A.units+1+64<_;omega)|(show X.A.units+1+1+64<_;omega)) f n l).1 w<|by simpa using E) ⟨.bl _,H,I,rfl,?_⟩;rw[show g.toArray.any (O7 s.heap d)=g.any (O7 s.heap d) by simp,(e X.A (by omega) f n l).2];exact q
def L0(Z:Room k X.A):VOp X (compareOp .NotIn) (KQ λb=>!b):=by
 intro V s U H x y v u Q I O N i;refine Er i λa b μ R P f hc h hq=>?_;by_cases hb:∃z,b=.D (.str z);obtain⟨z,rfl⟩:=hb;unfold KQ at h;dsimp only at h;split at h;cases RelA.str P;cases RelA.str f;exact Lq V s U H _ _ v u Q I O N ⟨_,_,rfl,rfl,hq _ _ _ _ Kp.refl hc D5 h⟩;exact h.elim;obtain⟨d,ys,G,Y,ey,C,h⟩:=Rb h λz e=>hb ⟨z,e⟩
 skip
 obtain⟨j,B,h⟩:=h;obtain⟨as,M⟩:=F7 I hc P O Y;obtain⟨p,J,rfl,hp,S⟩:=Kz hc f ey;cases N;obtain⟨n,l⟩:=Ni B;have L:=S.dats C;have hu:=Z.un;have q:=hq _ _ _ _ Kp.refl hc D5 h;rcases hp with hp|hp;obtain⟨g,r,F,hz⟩:=I.list hp;obtain⟨W,f⟩:=Ap.reads I G J g L r;have e:=λA=>Ew (A:=A) M j.1;refine SeqAt.notIn_listAt (O7 s.heap d) F.isList (λw E=>(e _ (by first|(show X.A.units+64<_;omega)|(show X.A.units+1+64<_;omega)|(show X.A.units+1+1+64<_;omega)) f n l).1 w<|by simpa using E) ⟨.bl _,H,I,rfl,?_⟩;rw[show g.toArray.any (O7 s.heap d)=g.any (O7 s.heap d) by simp,(e X.A (by omega) f n l).2];exact q;obtain⟨g,r,F,hz⟩:=I.tuple hp;obtain⟨W,f⟩:=Ap.reads I G J g L r;have e:=λA=>Ew (A:=A) M j.1;refine SeqAt.notIn_tupleAt (O7 s.heap d) F (λw E=>(e _ (by first|(show X.A.units+64<_;omega)|(show X.A.units+1+64<_;omega)|(show X.A.units+1+1+64<_;omega)) f n l).1 w<|by simpa using E) ⟨.bl _,H,I,rfl,?_⟩;rw[show g.toArray.any (O7 s.heap d)=g.any (O7 s.heap d) by simp,(e X.A (by omega) f n l).2];exact q
def MT:A2:=λx y d R=>match x,y with
 |.D .none,.D .none=>R (.D<|.bool true) d
 |_,.D .none=>R (.D<|.bool false) d
 |_,_=>False
def EE:A2:=λx y d R=>match x,y with
 |.D .none,.D .none=>R (.D<|.bool false) d
 |_,.D .none=>R (.D<|.bool true) d
 |_,_=>False
def Nj{K:lC}{H:Hp}{x:AV}(h:RelA K H x .non):x=.D .none:=by
 cases x with
 |R a=>cases (show V.non=.ref a from h)
 |C f=>obtain⟨_,_,e,_⟩:=h;cases e
 |X C g=>obtain⟨_,_,_,e,_⟩:=h;cases e
 |D d=>
  cases d with
  |none=>rfl
  |bool b=>cases RelA.bl h
  |int b=>cases RelA.int h
  |str b=>cases RelA.str h
  |list b=>obtain⟨_,_,e,_⟩:=RelA.lst h;cases e
  |tuple b=>obtain⟨_,_,e,_⟩:=RelA.tup h;cases e
  |dict b=>exact absurd h<|by simp only[RelA,Dk];exact id
def Nk:VOp X (compareOp .Is) MT:=by
 intro n s l H x y v u Q I g f d;refine Er d λa b q R i j hc h hq=>?_;unfold MT at h;split at h;cases RelA.non i;cases RelA.non j;exact Va n s l H _ _ v u Q I g f ⟨rfl,hq _ _ _ _ Kp.refl hc D5 h⟩;rename_i ne;cases RelA.non j;refine Va n s l H _ _ v u Q I g f ⟨rfl,hq _ _ _ _ Kp.refl hc ?_ h⟩;have:x≠.non:=by intro e;subst e;exact ne<|Nj i
 rw[aH this];exact D5;exact h.elim
def V2:VOp X (compareOp .IsNot) EE:=by
 intro n s l H x y v u Q I g f d;refine Er d λa b q R i j hc h hq=>?_;unfold EE at h;split at h;cases RelA.non i;cases RelA.non j;exact Q3 n s l H _ _ v u Q I g f ⟨rfl,hq _ _ _ _ Kp.refl hc D5 h⟩;rename_i ne;cases RelA.non j;refine Q3 n s l H _ _ v u Q I g f ⟨rfl,hq _ _ _ _ Kp.refl hc ?_ h⟩;have:x≠.non:=by intro e;subst e;exact ne<|Nj i
 rw[aH this];exact D5;exact h.elim
def aI(C:Int->Int->Prop)(g:Int->Int->lA):A2:=λx y d R=>match x,y with
 |.D (.int i),.D (.int j)=>C i j/\R (.D<|g i j) d
 |_,_=>False
def EF(g:Int->Int->lA):A2:=λx y d R=>match x,y with
 |.D (.int i),.D (.int j)=>R (.D<|g i j) d
 |_,_=>False
def MU{f:kZ->kZ->Sem kZ}{C:Int->Int->Prop}{g:Int->Int->V}{g':Int->Int->lA}(h:G4 X f<|rI C g)(E:∀i j H,Dk X.K H (g' i j)<|g i j):VOp X f (aI C g'):=by
 intro z s w H x y v u Q I B A n;refine Er n λa b G R F q hc l hq=>?_;cases a with
 |D d=>
  cases d with
  |int i=>
   cases b with
   |D e=>
    cases e with
    |int j=>cases RelA.int F;cases RelA.int q;exact h z s w H _ _ v u Q I B A ⟨_,_,rfl,rfl,l.1,hq _ _ _ _ Kp.refl hc (Th<|E _ _ _) l.2⟩
    |_=>exact False.elim l
   |_=>exact False.elim l
  |_=>exact False.elim l
 |_=>exact False.elim l
def Pp{f:kZ->kZ->Sem kZ}{g:Int->Int->V}{g':Int->Int->lA}(h:G4 X f<|U9 g)(z:∀i j H,Dk X.K H (g' i j)<|g i j):VOp X f (EF g'):=by
 intro E s C H x y v u Q I w q l;refine Er l λa b F R A B hc n hq=>?_;cases a with
 |D d=>
  cases d with
  |int i=>
   cases b with
   |D e=>
    cases e with
    |int j=>cases RelA.int A;cases RelA.int B;exact h E s C H _ _ v u Q I w q ⟨_,_,rfl,rfl,hq _ _ _ _ Kp.refl hc (Th<|z _ _ _) n⟩
    |_=>exact False.elim n
   |_=>exact False.elim n
  |_=>exact False.elim n
 |_=>exact False.elim n
abbrev WM:A2:=EF λi j=>.int<|i-j
abbrev MV:A2:=aI CDiv λi j=>.int<|i / j
abbrev WN:A2:=aI (λ_ j=>0<j) λi j=>.int<|i%j
abbrev WO:A2:=aI CPow λi j=>.int<|i^j.toNat
abbrev aLt:A2:=EF λi j=>.bool<|decide (i<j)
abbrev aLe:A2:=EF λi j=>.bool<|decide (i<=j)
abbrev aGt:A2:=EF λi j=>.bool<|decide (j<i)
abbrev aGe:A2:=EF λi j=>.bool<|decide (j<=i)
def K0:VOp X (binaryOp .Sub) WM:=Pp GF λ_ _ _=>Co
def HI:VOp X (binaryOp .FloorDiv) MV:=MU Z6 λ_ _ _=>Co
def G8:VOp X (binaryOp .Mod) WN:=MU GH λ_ _ _=>Co
def MW:VOp X (binaryOp .Pow) WO:=MU GI λ_ _ _=>Co
def HJ:VOp X (compareOp .Lt) aLt:=Pp LU λ_ _ _=>Kw
def MX:VOp X (compareOp .LtE) aLe:=Pp LW λ_ _ _=>Kw
def L1:VOp X (compareOp .Gt) aGt:=Pp LX λ_ _ _=>Kw
def HK:VOp X (compareOp .GtE) aGe:=Pp LY λ_ _ _=>Kw
def WP:A2:=λx y d R=>match x,y with
 |.D (.int i),.D (.int j)=>CMul i j/\R (.D<|.int<|i*j) d
 |.D (.str z),.D (.int n)=>(n=0\/n=1)/\R (.D<|.str<|if n=0 then Str.empty else z) d
 |_,_=>False
def G9:VOp X (binaryOp .Mult) WP:=by
 intro A s w H x y v u Q I l g f;refine Er f λa b B R n q hc h hq=>?_;cases a with
 |D d=>
  cases d with
  |int i=>
   cases b with
   |D e=>
    cases e with
    |int j=>cases RelA.int n;cases RelA.int q;exact GG A s w H _ _ v u Q I l g ⟨_,_,rfl,rfl,h.1,hq _ _ _ _ Kp.refl hc Ct h.2⟩
    |_=>exact False.elim h
   |_=>exact False.elim h
  |str z=>
   cases b with
   |D e=>
    cases e with
    |int j=>cases RelA.str n;cases RelA.int q;exact Lx A s w H _ _ v u Q I l g ⟨_,_,rfl,rfl,h.1,hq _ _ _ _ Kp.refl hc Ja h.2⟩
    |_=>exact False.elim h
   |_=>exact False.elim h
  |_=>exact False.elim h
 |_=>exact False.elim h
def WQ:A2:=λx y d R=>match x,y with
 |.D (.int i),.D (.int j)=>R (.D<|.int<|i+j) d
 |.D (.str i),.D (.str j)=>i.length+j.length<=sizeLine/\R (.D<|.str<|i++j) d
 |.D (.tuple i),.D (.tuple j)=>i.length+j.length<=sizeLine/\R (.D<|.tuple<|i++j) d
 |.R i,.R j=>opt (d i) λm=>opt (d j) λn=>match m,n with
  |.lst f,.lst g=>f.length+g.length<=sizeLine/\∀p,d p=none->R (.R p) (Ao d p<|.lst<|f++g)
  |_,_=>False
 |_,_=>False
def WR{K:lC}{P:oA<|lB×lI}{M:St}{H:Hp}{s:k_}{v u:kZ}{x y:V}{ds es:oA lA}{Q:VK}(hK:X.K=K)(I:Inv X P M H s)(rx:Bf x v)(ry:Bf y u)(hx:Dk K H (.tuple ds) x)(hy:Dk K H (.tuple es) y)
  (hz:ds.length+es.length<=sizeLine) (q:∀z H',Kp H H'->(∀ Z,Cn K Z H->Cn K Z H')->Dk K H' (.tuple<|ds++es) z->Q z H'):yL X.prog X.w X.A (binaryOp .Add v u) (EP X P M Q) X.xe s:=by
 subst hK;obtain⟨a,F,rfl,ha,O⟩:=hx.tup;obtain⟨b,U,rfl,hb,d⟩:=hy.tup;cases rx;cases ry;obtain⟨ae,h,R,_⟩:=I.tuple ha.sq;obtain⟨g,l,L,_⟩:=I.tuple hb.sq;have D:=O.length;have C:=d.length;by_cases hv:F=[];subst hv;have e:ae=[]:=h.nil_iff.mpr rfl;subst e;have B:ds=[]:=List.length_eq_zero_iff.mp D.symm;subst B;obtain⟨⟨cls,dd,Y,sl⟩,G,hc,n,N⟩:=id R;obtain⟨⟨J,j,data2,i⟩,W,f,n2,S⟩:=id L;simp only at hc N f S;subst hc N f S;exact concat_meets ⟨_,G,rfl⟩ ⟨_,W,rfl⟩ kF seq_tuple_add iJ iF (gW _ _)
  (tuple_addW0 a b [].toArray g.toArray n n2 dd j sl i rfl) ⟨G,W,.ref b,H,I,rfl,q _ _ Kp.refl (λ_ c=>c)<|by simpa using hy⟩
 refine HT.cat_tup R L (λz=>hv<|h.nil_iff.mp z) (λz=>⟨.ref a,H,I,rfl,q _ _ Kp.refl (λ_ c=>c) ?_⟩) (λz=>?_) (by rw[<- h.length,<- l.length,D,C];exact hz);have e:U=[]:=l.nil_iff.mp z;subst e;have B:es=[]:=List.length_eq_zero_iff.mp C.symm;subst B;simpa using hx;have E:=I.hok.fresh<|F_ s.heap.objs.size;refine⟨.ref s.heap.objs.size,_,I.laid (t':=s.toks) (o:=.tup<|F++U) (λb ob q=>DD _ q) (F_ _) ?_,rfl,q _ _ (Kp.new E _) (λ_ c=>c.over E) ?_⟩;exact⟨by rw[P_,D,C];exact hz,_,h.append l,IsTup.new _ _⟩;exact Gw A6<|Ap.kp (Kp.new E _) _ _<|O.append d
def Ce:VOp X (binaryOp .Add) WQ:=by
 intro E s C H x y v u Q I w q g;refine Er g λa b W R A l hc h hq=>?_;cases a with
 |D d=>
  cases d with
  |int i=>
   cases b with
   |D e=>
    cases e with
    |int j=>cases RelA.int A;cases RelA.int l;exact GE E s C H _ _ v u Q I w q ⟨_,_,rfl,rfl,hq _ _ _ _ Kp.refl hc Ct h⟩
    |_=>exact False.elim h
   |_=>exact False.elim h
  |str z=>
   cases b with
   |D e=>
    cases e with
    |str j=>cases RelA.str A;cases RelA.str l;exact Pe E s C H _ _ v u Q I w q ⟨_,_,rfl,rfl,h.1,hq _ _ _ _ Kp.refl hc Ja h.2⟩
    |_=>exact False.elim h
   |_=>exact False.elim h
  |tuple P=>
   cases b with
   |D e=>
    cases e with
    |tuple es=>exact WR rfl I w q A l h.1 λz H' S c M=>hq _ _ _ _ S (c _ hc) (Th M) h.2
    |_=>exact False.elim h
   |_=>exact False.elim h
  |_=>exact False.elim h
 |R i=>
  cases b with
  |R j=>
   obtain⟨m,G,h⟩:=A4 h;obtain⟨n,O,h⟩:=A4 h;cases m with
   |lst U=>
    cases n with
    |lst V=>cases (show x=.ref i from A);cases (show y=.ref j from l);obtain⟨o,J,L,rfl,F⟩:=hc i _ G;obtain⟨Y,B,N,rfl,f⟩:=hc j _ O;exact GW E s C H _ _ v u Q I w q ⟨i,j,L,N,rfl,rfl,J,B,by rw[<- F.length,<- f.length];exact h.1,λp hp=>hq _ _ _ _ (Kp.new hp _) (hc.new hp<|Dh<|F.append f) Dy<|h.2 p<|hc.none hp⟩
    |_=>exact False.elim h
   |_=>exact False.elim h
  |_=>exact False.elim h
 |_=>exact False.elim h
def MY:A2:=λx y f R=>match x,y with
 |.D (.str z),.D (.int i)=>z.length<=sizeLine/\opt (atI z.cps.toList i) λc=>R (.D<|.str ⟨#[c]⟩) f
 |.D (.tuple g),.D (.int i)=>opt (atI g i) λd=>R (.D d) f
 |.D (.list g),.D (.int i)=>opt (atI g i) λd=>R (.D d) f
 |.R a,.D (.int i)=>opt (f a) λm=>match m with
  |.lst h=>opt (atI h i) λw=>R w f
  |_=>False
 |_,_=>False
def BF{x y:AV}{f:M}{R:AV->M->Prop}(h:MY x y f R):∃i,y=.D (.int i):=by
 have g:(∀d,MY (.D d) y f R->False)->(∀a,MY (.R a) y f R->False)->False:=λh1 h2=>by
  cases x with
  |D d=>exact h1 d h
  |R a=>exact h2 a h
  |_=>exact h
 cases y with
 |D e=>
  cases e with
  |int i=>exact⟨i,rfl⟩
  |_=>exact(g (λd q=>by cases d<;>exact q) λa q=>q).elim
 |_=>exact(g (λd q=>by cases d<;>exact q) λa q=>q).elim
def A8:VIx X MY:=by
 intro f g A s q H x y v u Q I E C S B;refine Er S λa b V R F N hc h hq=>?_;obtain⟨i,rfl⟩:=BF h;cases RelA.int N;cases a with
 |D d=>
  cases d with
  |str z=>cases RelA.str F;obtain⟨h1,h⟩:=h;obtain⟨c,e,h⟩:=A4 h;exact GT f g A s q H _ _ v u Q I E C ⟨_,_,_,rfl,rfl,h1,e,hq _ _ _ _ Kp.refl hc Ja h⟩ B
  |tuple L=>obtain⟨d,G,h⟩:=A4 h;obtain⟨p,J,rfl,hp,j⟩:=RelA.tup F;obtain⟨z,n,l⟩:=j.atI G;exact GS f g A s q H _ _ v u Q I E C ⟨_,_,_,_,rfl,rfl,hp.sq,n,hq _ _ _ _ Kp.refl hc (Th l) h⟩ B
  |list L=>obtain⟨d,G,h⟩:=A4 h;obtain⟨p,J,rfl,hp,j⟩:=RelA.lst F;obtain⟨z,n,l⟩:=j.atI G;exact Q7 f g A s q H _ _ v u Q I E C ⟨_,_,_,_,rfl,rfl,hp.sq,n,hq _ _ _ _ Kp.refl hc (Th l) h⟩ B
  |_=>exact False.elim h
 |R a=>
  obtain⟨m,O,h⟩:=A4 h;cases m with
  |lst U=>obtain⟨w,P,h⟩:=A4 h;obtain⟨o,M,J,rfl,j⟩:=hc _ _ O;cases (show x=.ref _ from F);obtain⟨z,n,l⟩:=j.atI P;exact Q7 f g A s q H _ _ v u Q I E C ⟨_,_,_,_,rfl,rfl,Ep.of M,n,hq _ _ _ _ Kp.refl hc l h⟩ B
  |_=>exact False.elim h
 |_=>exact False.elim h
def Au{r:A2}(f:VIx X r)(ha:VE X a ta)(hb:VE X b tb)(d:Q6 b:=by intro _ _;rfl):VE X (.Subscript a b pos) (HG r ta tb):=(MF f ha hb d).imp λ_ _ _ h=>Il h
def BG:AO:=λ_ d R=>R none d
def MZ(t:AE):AO:=λg f R=>t g f λx d=>match x with
 |.D (.int i)=>R (some i) d
 |_=>False
def Dc:VO X none BG:=AD.imp λg H Q d=>B4 d λj i R f hc h hq=>hq _ _ _ Kp.refl hc h
def Cs(h:VE X a ta):VO X (some a) (MZ ta):=(AF h).imp λu H Q d=>B4 d λi n R f hc h hq=>⟨i,n,_,f,hc,h,λx l v s q j g hx=>by
 split at hx;cases RelA.int g;exact⟨_,rfl,hq _ _ _ q j hx⟩;exact hx.elim⟩
def WS(x:AV)(lo hi:oB Int):M->(AV->M->Prop)->Prop:=λd R=>match x with
 |.D (.str z)=>z.length<=sizeLine/\R (.D<|.str<|Txt.slice z lo hi) d
 |.D (.tuple f)=>R (.D<|.tuple<|Kc f lo hi) d
 |.C _=>False
 |x=>opt (items d x) λg=>∀p,d p=none->R (.R p) (Ao d p<|.lst<|Kd g lo hi)
def cSl(K:lC):V->oB Int->oB Int->Hp->VK->Prop:=λx lo hi H Q=>∃a d R,RelA K H a x/\Cn K d H/\WS a lo hi d R/\LV K H R Q
def WT:MD X (cSl X.K):=by
 intro z s u H x v y A lo hi w Q I l j n i ⟨a,N,R,g,hc,h,hq⟩;unfold WS at h;split at h;cases RelA.str g;exact HC z s u H _ v y A lo hi w Q I l j n i ⟨_,rfl,h.1,hq _ _ _ _ Kp.refl hc Ja h.2⟩;rename_i f;by_cases B:HT.sIx f.length 0 lo=0/\HT.sIx f.length f.length hi=f.length;obtain⟨a,q,rfl,ha,hx⟩:=RelA.tup g;cases l;obtain⟨G,r,d,hz⟩:=I.tuple ha.sq;have D:G.toArray.size=f.length:=by rw[R_,<- r.length,hx.length]
 refine⟨"tuple",_,cL.lookup,d.typeIs,?_⟩;refine HT.getItem_tuple_all d j n i (by rw[D];exact B) ⟨.ref a,H,I,rfl,hq _ _ _ _ Kp.refl hc ?_ h⟩;rw[Vv B];exact g;obtain⟨a,q,rfl,ha,hx⟩:=RelA.tup g;refine GR z s u H (.ref a) v y A lo hi w Q I l j n i ⟨a,q,rfl,ha.sq,by rw[hx.length];exact B,λp hp=>?_⟩;exact hq _ _ _ _ (Kp.new hp _) (hc.over hp) (Ly A6<|Ap.kp (Kp.new hp _) _ _<|hx.cut lo hi) h;exact h.elim;rename_i L C F;obtain⟨q,J,h⟩:=A4 h;obtain⟨p,M,rfl,hp,E⟩:=Cc hc g J;rcases hp with⟨_,hp⟩|⟨d,hp⟩;exact AK z s u H _ v y A lo hi w Q I l j n i ⟨_,_,rfl,hp,λp hp=>hq _ _ _ _ (Kp.new hp _) (hc.new hp<|Dh<|E.cut lo hi) Dy<|h p<|hc.none hp⟩;exfalso;unfold ED at d;split at d;exact C _ rfl;exact F _ rfl;cases d
def vSl(te:AE)(i n:AO):AE:=λg j R=>te g j λx h=>i g h λl f=>n g f λu d=>WS x l u d R
def Cf{lo hi:oB lF}{y A:AO}{B:Pos}(he:VE X a ta)(q:VO X lo y)(hu:VO X hi A):VE X (.Subscript a (.Slice lo hi none B) pos) (vSl ta y A) :=
 (Ve WT he q hu).imp λL H Q d=>B4 d λs G R n hc h hq=>⟨s,G,_,n,hc,h,λx g v M j E D hx=>⟨s,g,_,n.kp j,E,hx,λl w I f C q=>⟨s,w,_,n.kp<|j.trans f,C,q,λu i J z F hu=>
  ⟨x,i,R,D.kp<|f.trans z,F,hu,hq.kp<|j.trans<|f.trans z⟩⟩⟩⟩
def WU(r:AC)(t:AA):AE:=λh f R=>t h f λg d=>r g d R
def Rc{K:lC}{n:Nat}{r:AC}{t:AA}{f:St}{H:Hp}{Q:VK}(h:cE K (WU r t) f H Q):VR (cC K r) (cA K n t) f H Q:=by obtain⟨j,u,R,g,hc,h,hq⟩:=h;exact⟨j,u,_,g,hc,h,λi d y w s l q v hx=>⟨i,d,R,q,l,hx,hq.kp s⟩⟩
def Ay(hc:VCall X (.builtin g7) r)(f:Gl X x)(d:X.mg x=none)(hv:bootBuiltins x=some (.builtin g7))(ha:VA X (e::es) t)(hn:x ≠ "__name__" := by decide) (g:(x==("__debug__" : Str))=false:=by decide)
  (i:starEach (e::es) X.env=(false,eval e X.env)::starEach es X.env:=by rfl) (hpl:(backTo pos<|starEach es X.env).any (·.1)=false:=by rfl):VE X (.Call (.Name x p) (e::es) [] pos) (WU r t) :=
 (Vc hc f d hv ha hn g i hpl).imp λ_ _ _ h=>Rc h
def Bv(hc:VCall X (.type T) r)(f:Gl X x)(d:X.mg x=none)(hv:bootBuiltins x=some (.type T))(ha:VA X (e::es) t)(hn:x ≠ "__name__" := by decide) (g:(x==("__debug__" : Str))=false:=by decide)
  (i:starEach (e::es) X.env=(false,eval e X.env)::starEach es X.env:=by rfl) (hpl:(backTo pos<|starEach es X.env).any (·.1)=false:=by rfl):VE X (.Call (.Name x p) (e::es) [] pos) (WU r t) :=
 (Sx hc f d hv ha hn g i hpl).imp λ_ _ _ h=>Rc h
def NA:AC:=λh d R=>match h with
 |[.D<|.str z]=>z.length<=sizeLine/\R (.D<|.int z.length) d
 |[.D<|.tuple f]=>R (.D<|.int f.length) d
 |[.D<|.list f]=>R (.D<|.int f.length) d
 |[.R a]=>opt (d a) λm=>match m with
  |.lst i=>R (.D<|.int i.length) d
  |.dk g=>R (.D<|.int g.length) d
  |_=>False
 |_=>False
def Cy:VCall X (.builtin "len") NA:=by
 intro l s j H O n Q I r i;refine B4 i λas M R L hc h hq=>?_;have C:∀{y:AV} {t:oA AV} {x:AV},NA (x::y::t) M R->False:=λ{y t x} q=>by
  cases x with
  |D d=>cases d<;>exact q
  |_=>exact q
 cases L with
 |nil=>exact False.elim h
 |@cons x v E N u J=>
  cases J with
  |cons _ _=>exact(C h).elim
  |nil=>
   cases x with
   |D d=>
    cases d with
    |str z=>cases RelA.str u;exact Lr l s j H _ n Q I r ⟨_,rfl,h.1,hq _ _ _ _ Kp.refl hc Ct h.2⟩
    |tuple B=>obtain⟨p,g,rfl,hp,f⟩:=RelA.tup u;refine E7 l s j H _ n Q I r ⟨p,g,rfl,.inr hp.sq,hq _ _ _ _ Kp.refl hc ?_ h⟩;rw[f.length];exact Ct
    |list B=>obtain⟨p,g,rfl,hp,f⟩:=RelA.lst u;refine E7 l s j H _ n Q I r ⟨p,g,rfl,.inl hp.sq,hq _ _ _ _ Kp.refl hc ?_ h⟩;rw[f.length];exact Ct
    |_=>exact False.elim h
   |R a=>
    obtain⟨m,F,h⟩:=A4 h;cases (show _=V.ref _ from u);obtain⟨o,w,A⟩:=hc _ _ F;cases m with
    |lst P=>obtain⟨g,rfl,f⟩:=A;refine E7 l s j H _ n Q I r ⟨_,g,rfl,.inl<|Ep.of w,hq _ _ _ _ Kp.refl hc ?_ h⟩;rw[f.length];exact Ct
    |dk G=>obtain⟨g,rfl,f⟩:=A;refine Td l s j H _ n Q I r ⟨_,g,rfl,w,hq _ _ _ _ Kp.refl hc ?_ h⟩;rw[bB f];exact Ct
    |_=>exact False.elim h
   |_=>exact False.elim h
def L3:AC:=λg f R=>match g with
 |[.D<|.tuple d]=>R (.D<|.tuple d) f
 |[.C _]=>False
 |[y]=>opt (items f y) λh=>opt (dats h) λd=>R (.D<|.tuple d) f
 |_=>False
def Pq{x:AV}{t:oA AV}{f:M}{R:AV->M->Prop}(h:L3 (x::t) f R):t=[]:=by
 cases t with
 |nil=>rfl
 |cons y t=>
  refine False.elim ?_;cases x with
  |D d=>cases d<;>exact h
  |_=>exact h
def Ti{x:AV}{f:M}{R:AV->M->Prop}(i:ED x=false)(h:L3 [x] f R):opt (items f x) λj=>opt (dats j) λg=>R (.D<|.tuple g) f:=by
 cases x with
 |D d=>cases d<;>first|exact h|cases i
 |C g=>cases i
 |_=>exact h
def V3{x:AV}{g:M}{R:AV->M->Prop}(i:ED x=true)(h:L3 [x] g R):∃f,x=.D (.tuple f)/\R (.D<|.tuple f) g:=by
 cases x with
 |D d=>
  cases d with
  |tuple f=>exact⟨f,rfl,h⟩
  |_=>cases i
 |C f=>exact False.elim h
 |_=>cases i
def Dd:VCall X (.type "tuple") L3:=by
 intro q s n H J u Q I r d;refine B4 d λas M R D hc h hq=>?_;cases D with
 |nil=>exact False.elim h
 |@cons y v A G g C=>
  have B:=Pq h;subst B;cases C;cases ht:ED y with
  |true=>obtain⟨z,rfl,h⟩:=V3 ht h;obtain⟨p,f,rfl,hp,j⟩:=RelA.tup g;exact Gk q s n H _ u Q I r ⟨p,f,rfl,.inr ⟨hp.sq,hq _ _ _ _ Kp.refl hc g h⟩⟩
  |false=>obtain⟨L,F,h⟩:=A4<|Ti ht h;obtain⟨z,E,h⟩:=A4 h;obtain⟨p,f,rfl,hp,j⟩:=Cc hc g F;rcases hp with⟨_,hp⟩|⟨w,_⟩;exact Gk q s n H _ u Q I r ⟨p,f,rfl,.inl ⟨hp,λl i=>hq _ _ _ _ (Kp.new i _) (hc.over i) (Ly A6<|Ap.kp (Kp.new i _) _ _<|j.dats E) h⟩⟩;rw[ht]at w;cases w
def bools:oA AV->oB (oA Bool)
 |[]=>some []
 |.D (.bool b)::r=>match bools r with
  |some d=>some (b::d)
  |none=>none
 |_::_=>none
theorem K5:∀(d:oA Bool),bools (d.map λb=>.D<|.bool b)=some d
 |[]=>rfl
 |b::d=>by simp only[List.map_cons,bools,K5 d]
theorem A5.bools{K:lC}{H:Hp}{xs:oA AV}{vs:oA V}{f:oA Bool}(h:A5 K H xs vs)(e:L2.bools xs=some f):vs=f.map V.bl:=by
 induction h generalizing f with
 |nil=>cases e;rfl
 |@cons x v xs vs r t g=>
  cases x with
  |D d=>
   cases d with
   |bool b=>
    simp only[L2.bools]at e;cases q:L2.bools xs with
    |none=>rw[q]at e;cases e
    |some i=>rw[q]at e;cases e;cases RelA.bl r;rw[g q];rfl
   |_=>simp[L2.bools]at e
  |_=>simp[L2.bools]at e
def HL:AC:=λf d R=>match f with
 |[.R a]=>opt (d a) λm=>match m with
  |.lst g=>opt (bools g) λh=>R (.D<|.bool<|h.all id) d
  |_=>False
 |_=>False
def Re(w:X.calm=true):VCall X (.builtin "all") HL:=by
 intro z s v H A y Q I r d;refine B4 d λas C R u hc h hq=>?_;unfold HL at h;split at h
 ·cases u with
  |cons g n=>cases n;obtain⟨m,f,h⟩:=A4 h;split at h;obtain⟨j,l,h⟩:=A4 h;obtain⟨o,i,B,rfl,q⟩:=hc _ _ f;cases (show _=V.ref _ from g);exact Vt w z s v H _ y Q I r ⟨_,j,rfl,Ep.of<|by rw[i,q.bools l],hq _ _ _ _ Kp.refl hc D5 h⟩;exact h.elim
 exact h.elim
def EG:AC:=λf d R=>match f with
 |[.D<|.int i,.D<|.int j]=>R (.D<|.int<|if j>i then j else i) d
 |_=>False
def V4(n:X.calm=true):VCall X (.builtin "max") EG:=by
 intro u s l H v q Q I r d;refine B4 d λas w R j hc h hq=>?_;unfold EG at h;split at h
 ·cases j with
  |cons g f=>
   cases f with
   |cons f i=>cases i;cases RelA.int g;cases RelA.int f;exact Sw n u s l H _ q Q I r ⟨_,_,rfl,hq _ _ _ _ Kp.refl hc Ct h⟩
 exact h.elim
def K6(d:M):AV->Prop
 |.R a=>opt (d a) λm=>match m with
  |.lst _=>True
  |_=>False
 |.D (.list _)=>True
 |_=>False
def EH:AV->Prop
 |.D (.str _)=>True
 |_=>False
def K6.ty{H:Hp}{d:M}{x:AV}{v:V}(hc:Cn X.K d H)(f:RelA X.K H x v)(h:K6 d x):UC X.K "list" v H:=by unfold K6 at h;split at h;obtain⟨m,e,h⟩:=A4 h;split at h;obtain⟨o,g,j,rfl,_⟩:=hc _ _ e;cases (show v=.ref _ from f);exact .inl ⟨rfl,j,Ep.of g⟩;exact h.elim;obtain⟨a,i,rfl,q,_⟩:=RelA.lst f;exact .inl ⟨rfl,i,q.sq⟩;exact h.elim
def WV(m:AV->AC)(to:AE):AE:=λg f R=>to g f λx d=>K6 d x/\m x [] d R
def vBL(m:AV->AC)(to:AE)(t:AA):AE:=λg h R=>to g h λx d=>K6 d x/\t g d λi f=>m x i f R
def vBS(m:AV->AC)(to:AE)(t:AA):AE:=λg h R=>to g h λx d=>EH x/\t g d λi f=>m x i f R
def HM(slot:Slot "list" name g7) (s:typeOf (.builtin g7)=pure (.type "method_descriptor")) (l:VMt X g7 m) (n:VE X o to)
  (u:attributeBase o name X.env (eval o X.env)=eval o X.env:=by rfl) (z:(a8.endLine==ao.line)=true:=by rfl):VE X (.Call (.Attribute o name a8) [] [] ao) (WV m to) :=
 (Ls PySem.F.plainAttrs_list slot s l n u z).imp λB H Q d=>B4 d λq w R j hc h hq=>⟨q,w,_,j,hc,h,λx f v A y i g hx=>⟨hx.1.ty i g,x,[],f,R,g,.nil,i,hx.2,hq.kp y⟩⟩
def Ff(slot:Slot "list" name g7) (z:typeOf (.builtin g7)=pure (.type "method_descriptor")) (w:VMt X g7 m) (y:VE X o to) (ha:VA X (e::es) t) (I:attributeBase o name X.env (eval o X.env)=eval o X.env:=by rfl) (G:((backTo ao<|starEach (e::es) X.env).all (λx=>!x.1)&&(backToKw ao<|keywordEach [] X.env).all (λx=>x.1.isSome)
   && decide ((e::es).length+([]:oA Keyword).length+(if([]:oA Keyword).isEmpty then 0 else 1)<30))=true:=by rfl) (C:(a8.endLine==ao.line)=true:=by rfl) (f:starEach (e::es) X.env=(false,eval e X.env)::starEach es X.env:=by rfl) (A:(backTo ao<|starEach es X.env).any (·.1)=false:=by rfl) :
  VE X (.Call (.Attribute o name a8) (e::es) [] ao) (vBL m to t) :=
 (DY PySem.F.plainAttrs_list slot z w y ha I G C f A).imp λN H Q d=>B4 d λq J R f hc h hq=>⟨q,J,_,f,hc,h,λx g v P l s n hx=>⟨hx.1.ty s n,q,g,_,f.kp l,s,hx.2,λu i M L j D B O E=>
  ⟨x,u,i,R,n.kp j,B,D,E,hq.kp<|l.trans j⟩⟩⟩
def NB(slot:Slot "str" name g7) (y:typeOf (.builtin g7)=pure (.type "method_descriptor")) (u:VMt X g7 m) (w:VE X o to) (ha:VA X (e::es) t) (I:attributeBase o name X.env (eval o X.env)=eval o X.env:=by rfl) (G:((backTo ao<|starEach (e::es) X.env).all (λx=>!x.1)&&(backToKw ao<|keywordEach [] X.env).all (λx=>x.1.isSome)
   && decide ((e::es).length+([]:oA Keyword).length+(if([]:oA Keyword).isEmpty then 0 else 1)<30))=true:=by rfl) (B:(a8.endLine==ao.line)=true:=by rfl) (f:starEach (e::es) X.env=(false,eval e X.env)::starEach es X.env:=by rfl) (z:(backTo ao<|starEach es X.env).any (·.1)=false:=by rfl) :
  VE X (.Call (.Attribute o name a8) (e::es) [] ao) (vBS m to t) :=
 (DY PySem.F.plainAttrs_str slot y u w ha I G B f z).imp λN H Q d=>B4 d λq J R f hc h hq=>⟨q,J,_,f,hc,h,λx g v P l E n hx=>⟨by
   obtain⟨hx,_⟩:=hx;unfold EH at hx;split at hx;cases RelA.str n;rfl;exact hx.elim,q,g,_,f.kp l,E,hx.2,λs i M L j C A O D=>
  ⟨x,s,i,R,n.kp j,A,C,D,hq.kp<|l.trans j⟩⟩⟩
def L4:AV->AC:=λx g d R=>match x,g with
 |.R a,[y]=>opt (d a) λm=>match m with
  |.lst f=>f.length<sizeLine/\R (.D .none) (Ao d a<|.lst<|f++[y])
  |_=>False
 |_,_=>False
def Dl:VMt X "list.append" L4:=by
 intro B s u H x C v A Q I j r d;refine Er d λa as D R q n hc h hq=>?_;unfold L4 at h;split at h
 ·rename_i a y;obtain⟨m,z,h⟩:=A4 h;split at h
  ·cases n with
   |cons i l=>cases l;obtain⟨o,f,w,rfl,g⟩:=hc _ _ z;cases (show x=.ref a from q);exact Ks B s u H _ _ v A Q I j r ⟨a,w,_,rfl,rfl,f,by rw[<- g.length];exact h.1,hq _ _ _ _ (Kp.put f trivial _) (hc.put f trivial (Dh<|g.append<|.cons i .nil)) Hu h.2⟩
  exact h.elim
 exact h.elim
def Rf:AV->AC:=λx h d R=>match x,h with
 |.R a,[.R b]=>opt (d a) λm=>opt (d b) λn=>match m,n with
  |.lst g,.lst f=>g.length+f.length<=sizeLine/\R (.D .none) (Ao d a<|.lst<|g++f)
  |_,_=>False
 |_,_=>False
def Je:VMt X "list.extend" Rf:=by
 intro y s u H x G v E Q I A r f;refine Er f λa as J R C l hc h hq=>?_;unfold Rf at h;split at h
 ·rename_i a b;obtain⟨m,F,h⟩:=A4 h;obtain⟨n,D,h⟩:=A4 h;split at h
  ·cases l with
   |cons z B=>cases B;obtain⟨o,g,q,rfl,j⟩:=hc _ _ F;obtain⟨L,i,w,rfl,d⟩:=hc _ _ D;cases (show x=.ref a from C);cases (show _=V.ref b from z);exact Sy y s u H _ _ v E Q I A r ⟨a,b,q,w,rfl,rfl,g,i,by rw[<- j.length,<- d.length];exact h.1,hq _ _ _ _ (Kp.put g trivial _) (hc.put g trivial (Dh<|j.append d)) Hu h.2⟩
  exact h.elim
 exact h.elim
def NC:AV->AC:=λx g f R=>match x,g with
 |.R a,[]=>opt (f a) λm=>match m with
  |.lst d=>opt d[d.length-1]? λy=>R y (Ao f a<|.lst d.dropLast)
  |_=>False
 |_,_=>False
def ND:VMt X "list.pop" NC:=by intro D s u H x E v C Q I i r d;refine Er d λa as F R n l hc h hq=>?_;unfold NC at h;split at h;rename_i a;obtain⟨m,B,h⟩:=A4 h;split at h;obtain⟨y,j,h⟩:=A4 h;cases l;obtain⟨o,f,q,rfl,g⟩:=hc _ _ B;cases (show x=.ref a from n);obtain⟨z,w,A⟩:=g.get j;exact GV D s u H _ _ v C Q I i r ⟨a,q,z,rfl,rfl,f,by rw[<- g.length];exact w,hq _ _ _ _ (Kp.put f trivial _) (hc.put f trivial (Dh<|g.dropLast)) (A.kp<|Kp.put f trivial _) h⟩;exact h.elim;exact h.elim
end
section
variable {X:Cx}{a b c:lF}{ta tb tc:AE}{pos:Pos}{x:Str}{p:Pos}{e:lF}{es:oA lF}{t:AA}{k:Nat}{ps:oA Str}{sp:ASp}{st:lJ}{rest:oA lJ}{s1 s2:AS}{tg:lF}{N':oA Str}{mp:oA<|oB Nat}{dj iter:lF}{c7:oA lF}{scope:lM}{wi:AI}{g:AG}{tst:AT}{te:AE}{P:lD}{w:lE}{K:lC}{mg:Str->oB kZ}{base:lH}
abbrev ASp:=oA AV->M->(AV->M->Prop)->Prop
def Dj(K:lC)(n:Nat)(sp:ASp):Sp:=λh H Q _=>∃d f R,d.length=n/\A5 K H d h/\Cn K f H/\sp d f R/\LV K H R Q
def VCal(P:lD)(w:lE)(K:lC)(mg:Str->oB kZ)(base:lH)(k:Nat)(x:Str)(ps:oA Str)(sp:ASp):Prop:=Cal P w K mg base k x ps<|Dj K ps.length sp
def NE(n:Nat)(sp:ASp)(t:AA):AE:=λi f R=>t i f λh d=>sp h d R
def Al(F:VCal X.prog X.w X.K X.mg X.base k x ps sp)(C:Room k X.A)(y:Gl X x)(ha:VA X (e::es) t)(u:(e::es).length=ps.length:=by rfl)(hdb:(x==("__debug__" : Str))=false:=by decide)
  (q:starEach (e::es) X.env=(false,eval e X.env)::starEach es X.env:=by rfl) (hpl:(backTo pos<|starEach es X.env).any (·.1)=false:=by rfl):VE X (.Call (.Name x p) (e::es) [] pos) (NE ps.length sp t):=by
 obtain⟨g,L,G,n,l,o⟩:=F;refine PE.imp (Q4 (E:=E0) G C y o l n .nil EB ha (hdb:=hdb) (he:=q) (hpl:=hpl)) λI H Q d=>B4 d λv B R r hc h hq=>?_;exact⟨v,B,_,r,hc,h,λi f D J m z j s hx=>⟨i,f,R,s.trans u,by rw[cP];exact j,z,hx,hq.kp m⟩⟩
def NF:AS:=λk _ _ _ f d=>k f d
def Tj(t u:AS):AS:=λk r b c f d=>t (u k r b c) r b c f d
def Bh:VSs X [] NF:=Zw.imp λD i H d=>Ge d λm j l nr n o f hc h hq=>hq.nx _ _ _ _ Kp.refl f hc h
def Ae(h1:VS X st s1)(h2:VSs X rest s2):VSs X (st::rest) (Tj s1 s2):=(M5 h1 h2).imp λD A H d=>Ge d λn q l nr u v j hc h hq=>
 ⟨n,q,_,_,_,_,j,hc,h,⟨λf i r z m o s y=>⟨f,i,l,nr,u,v,o,s,y,hq.kp m⟩,hq.rt,hq.bk,hq.ct⟩⟩
def Ai(h1:VS X st s1):VSs X [st] s1:=Q2 h1
def NG(te:AE):AS:=λk _ _ _ f h=>te f h λ_ d=>k f d
def Ch(he:VE X a ta)(f:swapsWith a none pos.line X.env=pure false:=by rfl):VS X (.Expr a pos) (NG ta):=(Zx he f).imp λD s H d=>Ge d λj n o nr u y f hc h hq=>
 ⟨j,n,_,f,hc,h,λx m v r i l q hx=>hq.nx _ _ _ _ i (f.kp i) l hx⟩
def WW(te:AE):AS:=λ_ r _ _ d f=>te d f r
def Aw(he:VE X a ta):VS X (.Return (some a) pos) (WW ta):=(FY he).imp λD l H d=>Ge d λj i m nr n o f hc h hq=>⟨j,i,_,f,hc,h,hq.rt⟩
def WX(ct:AT)(t u:AS):AS:=λk r b c f h=>ct f h λx d=>brP x (t k r b c f d)<|u k r b c f d
def B9{c:lF}{a b:oA lJ}{tc:AT}(hc:VT X c tc)(ha:VSs X a s1)(hb:VSs X b s2):VS X (.If c a b pos) (WX tc s1 s2):=(LL hc ha hb).imp λD v H d=>Ge d λl s n nr q r j hc h hq=>
 ⟨l,s,_,j,hc,h,λk f u i o hk=>by
  rcases br_e hk with⟨rfl,m⟩|⟨rfl,m⟩;exact⟨l,f,n,nr,q,r,j.kp i,o,m,hq.kp i⟩;exact⟨l,f,n,nr,q,r,j.kp i,o,m,hq.kp i⟩⟩
def HN:AS:=λ_ _ _ _ _ _=>False
def V5:VS X st HN:=U2.imp λD i H d=>Ge d λm j l nr n o f hc h hq=>h.elim
def Ei(i:Nat):AG:=λv f d R=>R (f.set i<|some v) d
def Ak{i:Nat}{x:Str}(l:X.N.Nodup)(hi:X.N[i]?=some x)(hx:Loc X.env.scope x)(m:X.fn x=true\/X.env.scope.names.lookup x=some .local:=by first|exact .inl rfl|exact .inr rfl|assumption):VG X (.Name x pos) (Ei i) :=
 (Zy l hi hx m).imp λv o H Q d=>Er d λx n q R j f hc h hq=>hq _ _ _ _ Kp.refl (f.set j i) hc h
def Ps:AGs:=λh f d R=>match h with
 |[]=>R f d
 |_::_=>False
def Fo(t:AG)(u:AGs):AGs:=λj i h R=>match j with
 |[]=>False
 |v::r=>t v i h λd f=>u r d f R
def B2:VGs X [] Ps:=Zz.imp λo j H Q d=>Er d λm n l R i f hc h hq=>by
 cases i with
 |nil=>exact⟨rfl,hq _ _ _ _ Kp.refl f hc h⟩
 |cons=>exact h.elim
def Av{e:lF}{es:oA lF}{t:AG}{u:AGs}(h1:VG X e t)(h2:VGs X es u)
  (f:(assignEach (e::es) X.env).map (·.2)=assign e X.env::(assignEach es X.env).map (·.2):=by rfl):VGs X (e::es) (Fo t u):=(U4 h1 h2 f).imp λC D H Q d=>Er d λB o s R n f hc h hq=>by
 cases n with
 |nil=>exact h.elim
 |cons m q=>exact⟨_,_,rfl,_,o,s,_,m,f,hc,h,λi j v A l r y z=>⟨_,i,j,R,A5.kp l q,r,y,z,hq.kp l⟩⟩
def NH(n:Nat)(t:AGs):AG:=λv h f R=>match v with
 |.D (.tuple d)=>d.length=n/\t (d.map .D) h f R
 |_=>False
def Di{es:oA lF}{k:Nat}{t:AGs}{n:Nat}(m:X.calm=true)(h:VGs X es t)
  (hn:(assignEach es X.env).length=n:=by rfl) (s:(assignEach es X.env).findIdx? (·.1)=none:=by rfl):VG X (.Tuple es k pos) (NH n t):=(U5 m h hn s).imp λv u H Q d=>Er d λx j o R i f hc h hq=>by
 unfold NH at h;split at h;obtain⟨a,l,rfl,q,r⟩:=RelA.tup i;exact⟨a,l,rfl,q.sq,by rw[r.length];exact h.1,_,j,o,R,r.rel,f,hc,h.2,hq⟩;exact h.elim
def Qa3(o i v:AV)(d:M)(R:M->Prop):Prop:=match o,i with
 |.R a,.D (.int k)=>opt (d a) λm=>match m with
  |.lst f=>opt (AH f.length k) λj=>R (Ao d a<|.lst<|f.set j v)
  |_=>False
 |_,_=>False
def Tk(te:AE)(g:AG):AS:=λk _ _ _ f h=>te f h λx d=>g x f d k
def V6{K:lC}{te:AE}{g:AG}{D:Ends}{j:St}{H:Hp}(h:cS K (Tk te g) D j H):Z0 (cE K te) (cG K g) D j H:=by obtain⟨i,o,q,nr,s,u,f,hc,h,hq⟩:=h;exact⟨i,o,_,f,hc,h,λx d v r l n m hx=>⟨x,i,d,_,m,f.kp l,n,hx,hq.nx.kp l⟩⟩
def V7{tg:lF}{g:AG}(he:VE X a ta)(i:VG X tg g)(d:swapsWithSole [tg] a pos.line X.env=pure false:=by rfl)(f:swappedStores [tg] a X.env=pure none:=by rfl)
  (h1:(assignEach [tg] X.env).map (·.2)=[assign tg X.env]:=by rfl):VS X (.Assign [tg] a pos) (Tk ta g):=(GA he i d f h1).imp λ_ _ _ h=>V6 h
def Aq{i:Nat}{x:Str}{j:Pos}(r:X.N.Nodup)(hi:X.N[i]?=some x)(hx:Loc X.env.scope x)(he:VE X a ta)(f:swapsWith a (some<|.Name x j) pos.line X.env=pure false:=by rfl)(u:X.fn x=true\/X.env.scope.names.lookup x=some .local:=by first|exact .inl rfl|exact .inr rfl|assumption) :
  VS X (.Assign [.Name x j] a pos) (Tk ta<|Ei i):=(GB r hi hx he f u).imp λD A H d=>Ge d λn s y nr B C f hc h hq=>
 ⟨n,s,_,f,hc,h,λx q v z l o m hx=>hq.nx _ _ _ _ l ((f.kp l).set m i) o hx⟩
def Qa4(i j:Nat)(t:AA):AS:=λk _ _ _ f h=>t f h λl d=>match l with
 |[v,w]=>k ((f.set i<|some v).set j<|some w) d
 |_=>False
def NI(i j l:Nat)(t:AA):AS:=λk _ _ _ f h=>t f h λm d=>match m with
 |[u,v,w]=>k (((f.set i<|some u).set j<|some v).set l<|some w) d
 |_=>False
def BH{i j l:Nat}{x y z:Str}{t:AA}{n s m o:Pos}{kt k2 pt2}(hc:X.calm=true)(M:X.N.Nodup)(hi:X.N[i]?=some x)(hj:X.N[j]?=some y)(v:X.N[l]?=some z)(E:i≠j)(I:i≠l)(Q:j≠l)
  (hx:X.env.scope.names.lookup x=some .local) (hy:X.env.scope.names.lookup y=some .local) (hz:X.env.scope.names.lookup z=some .local) (ha:VA X [a,b,c] t) (F:swappedStores [.Tuple [.Name x n,.Name y s,.Name z m] kt o] (.Tuple [a,b,c] k2 pt2) X.env=pure (some [x,y,z]))
  (f:swapsWithSole [.Tuple [.Name x n,.Name y s,.Name z m] kt o] (.Tuple [a,b,c] k2 pt2) pos.line X.env=pure false:=by rfl) :
  VS X (.Assign [.Tuple [.Name x n,.Name y s,.Name z m] kt o] (.Tuple [a,b,c] k2 pt2) pos) (NI i j l t):=(BC hc M hi hj v E I Q hx hy hz ha F f).imp λD T H d=>Ge d λJ O V nr U Y f hc h hq=>
 ⟨J,O,_,f,hc,h,λR C S W u L B v hx=>by
  split at hx
  ·cases B with
   |cons G r=>
    cases r with
    |cons r q=>
     cases q with
     |cons q A=>cases A;exact⟨_,_,_,rfl,hq.nx _ _ _ _ u ((((f.kp u).set G i).set r j).set q l) L hx⟩
  exact hx.elim⟩
def wl(c:AT)(tb:AS)(k:ASt->M->Prop)(r:AV->M->Prop):Nat->ASt->M->Prop
 | 0=>λ_ _=>False
 |n+1=>λf h=>c f h λx d=>brP x (tb (wl c tb k r n) r k (wl c tb k r n) f d)<|k f d
def HP(c:AT)(tb:AS):AS:=λk r _ _ f d=>∃n,wl c tb k r n f d
def Nl{c:lF}{o:oA lJ}{tc:AT}{tb:AS}(hp:PassesOwn (model X.prog X.w) X.A X.env X.xe)(hc:VT X c tc)(hb:VSs X o tb):VS X (.While c o [] pos) (HP tc tb):=(U6 hp hc hb).imp λD V H R=>Ge R λQ T M nr W Y O hc N hq=>by
 obtain⟨n,h⟩:=N;refine⟨λm s v=>∃ i j,Kp H v/\D8 X.K v i s/\Cn X.K j v/\wl tc tb M nr m i j,⟨n,Q,T,Kp.refl,O,hc,h⟩,?_⟩;rintro m s v ⟨i,j,J,F,G,h1⟩;cases m with
 |zero=>exact h1.elim
 |succ m=>refine⟨i,j,_,F,G,h1,λk B U u L hk=>?_⟩;rcases br_e hk with⟨rfl,z⟩|⟨rfl,z⟩;rw[T_ rfl];refine⟨λl r=>∃ f d,Kp H r/\D8 X.K r f l/\Cn X.K d r/\wl tc tb M nr m f d,by rintro l r ⟨f,d,q⟩;exact ⟨m,eE _,f,d,q⟩,i,B,_,_,_,_,F.kp u,L,z,?_⟩;have S:=J.trans u;exact⟨λf d l r y I C E=>⟨f,d,S.trans y,I,C,E⟩,hq.rt.kp S,hq.nx.kp S,λf d l r y I C E=>⟨f,d,S.trans y,I,C,E⟩⟩;rw[O_ V_];exact hq.nx _ _ _ _ (J.trans u) (F.kp u) L z
structure ItOk(K:lC)(H0:Hp)(J:It)(xs:oA AV)(kp:M->Prop):Prop where
 go:∀i H μ,Kp H0 H->Cn K μ H->kp μ->i<xs.length->J.go i H
 yld:∀i H μ v H' x,Kp H0 H->Cn K μ H->kp μ->xs[i]?=some x->J.yld i H v H'->Kp H H'/\Cn K μ H'/\RelA K H' x v
 stop:∀H μ,Kp H0 H->Cn K μ H->kp μ->J.stop xs.length H
abbrev AI:=ASt->M->(oA AV->(M->Prop)->M->Prop)->Prop
def cI(K:lC)(wi:AI):TI:=λn H R=>∃ j h l,D8 K H j n/\Cn K h H/\wi j h l/\∀i m d J f,Kp H f->Cn K d f->ItOk K f J i m->l i m d->R J f
def VI(X:Cx)(tg iter:lF)(wi:AI):Prop:=PI X tg iter<|cI X.K wi
def PI.imp{tg e:lF}{t u:TI}(h:PI X tg e t)(i:∀ d H Q,u d H Q->t d H Q):PI X tg e u:=λf s d H Q I q=>h f s d H Q I<|i d H Q q
def Tl{K:lC}{j:Hp}{a:lB}{xs:oA AV}{l:M->Prop}(h:∀H f,Kp j H->Cn K f H->l f->∃d,Ep K H a d/\A5 K H xs d):ItOk K j (Itl K a) xs l:=by refine⟨λi H f S c k hi=>?_,λi H f v o x S c k e y=>?_,λH f S c k=>?_⟩;obtain⟨d,q,r⟩:=h H f S c k;exact⟨d,d[i]'(by rw[<- r.length];exact hi),q,J_ _⟩;obtain⟨d,q,r⟩:=h H f S c k;obtain⟨rfl,y⟩:=y;obtain⟨u,m,n⟩:=r.get e;rw[y d q]at m;cases m;exact⟨Kp.refl,c,n⟩;obtain⟨d,q,r⟩:=h H f S c k;exact⟨d,q,by rw[r.length];exact F_ _⟩
def V8{K:lC}{j:Hp}{a:lB}{xs:oA AV}{l:M->Prop}(h:∀H f,Kp j H->Cn K f H->l f->∃d,Hn K H a d/\A5 K H xs d):ItOk K j (Itt K a) xs l:=by refine⟨λi H f S c k hi=>?_,λi H f v o x S c k e y=>?_,λH f S c k=>?_⟩;obtain⟨d,q,r⟩:=h H f S c k;exact⟨d,d[i]'(by rw[<- r.length];exact hi),q,J_ _⟩;obtain⟨d,q,r⟩:=h H f S c k;obtain⟨rfl,y⟩:=y;obtain⟨u,m,n⟩:=r.get e;rw[y d q]at m;cases m;exact⟨Kp.refl,c,n⟩;obtain⟨d,q,r⟩:=h H f S c k;exact⟨d,q,by rw[r.length];exact F_ _⟩
def Ee(lo:Int):Nat->oA AV
 | 0=>[]
 |n+1=>.D (.int lo)::Ee (lo+1) n
theorem Bp:∀(n:Nat) (lo:Int),(Ee lo n).length=n
 | 0,_=>rfl
 |n+1,lo=>by rw[Ee,bE,Bp n]
theorem Fp:∀(n:Nat) (lo:Int) (i:Nat) {x:AV},(Ee lo n)[i]?=some x->x=.D (.int<|lo+i)
 | 0,_,_,_,h=>by simp[Ee]at h
 |n+1,lo,0,_,h=>by simp[Ee]at h;rw[<- h];simp
 |n+1,lo,i+1,_,h=>by rw[Ee,iH]at h;rw[Fp n (lo+1) i h];congr 2;omega
def V9{K:lC}{f:Hp}{lo:Int}{n:Nat}:ItOk K f (Itr lo n) (Ee lo n) (λ_=>True):=by refine⟨λi H d S c k hi=>?_,λi H d v h x S c k e y=>?_,λH d S c k=>?_⟩;show i<n;rw[Bp]at hi;exact hi;obtain⟨rfl,rfl⟩:=y;rw[Fp n lo i e];exact⟨Kp.refl,c,Ct⟩;show n<=_;rw[Bp];exact F_ _
def NJ(t:AA):AI:=λi f R=>t i f λh d=>match h with
 |[.D<|.int j]=>-(2^62)<=j/\j<2^62/\R (Ee 0 j.toNat) (λ_=>True) d
 |_=>False
def Ck{t:AA}{p:Pos}(m:Gl X "range") (j:X.mg "range" = none) (ha:VA X [a] t) (f:starEach [a] X.env=[(false,eval a X.env)]:=by rfl):VI X tg (.Call (.Name "range" p) [a] [] pos) (NJ t) :=
 (Ss m j ha f).imp λB H Q d=>B4 d λl s R f hc h hq=>⟨l,s,_,f,hc,h,λv r A z u n q y hx=>by
  split at hx
  ·cases q with
   |cons i o=>cases o;cases RelA.int i;exact⟨_,rfl,hx.1,hx.2.1,hq _ _ _ _ _ u n V9 hx.2.2⟩
  exact hx.elim⟩
def fl(g:AG)(tb:AS)(k:ASt->M->Prop)(r:AV->M->Prop)(f:M->Prop):oA AV->ASt->M->Prop
 |[]=>λi d=>f d/\k i d
 |x::l=>λi d=>f d/\g x i d λh j=>tb (fl g tb k r f l) r k (fl g tb k r f l) h j
def WY(wi:AI)(g:AG)(tb:AS):AS:=λk r _ _ f h=>wi f h λi j d=>fl g tb k r j i f d
def NK{g:AG}{tb:AS}{k:ASt->M->Prop}{r:AV->M->Prop}{f:M->Prop}{xs:oA AV}{τ:ASt}{d:M}(h:fl g tb k r f xs τ d):f d:=by
 cases xs with
 |nil=>exact h.1
 |cons x xs=>exact h.1
def B3{iter:lF}{n:oA lJ}{wi:AI}{g:AG}{tb:AS}(hp:PassesOwn (model X.prog X.w) X.A X.env X.xe)(de:X.calm=true)(hi:VI X tg iter wi)(hg:VG X tg g)(hb:VSs X n tb)(x8:∀x,foldedSetIterable iter X.env x=pure x:=by intro _;rfl) :
  VS X (.For tg iter n [] pos) (WY wi g tb):=(U8 hp de hi hg hb x8).imp λD σ H s=>Ge s λV μ nk nr nb nc U hc h hq=>by
 refine⟨V,μ,_,U,hc,h,λQ kp G J R z c0 M h0=>?_⟩;refine Vu Q.length (λi l m=>∃ f d,Kp R m/\D8 X.K m f l/\Cn X.K d m/\fl g tb nk nr kp (Q.drop i) f d) ⟨V,G,Kp.refl,U.kp z,c0,h0⟩ ?_ ?_ ?_;rintro i l m hi ⟨f,d,q,u,j,h1⟩;exact M.go i m d q j (NK h1) hi;rintro l m ⟨f,d,q,u,j,h1⟩;rw[dD]at h1;exact⟨M.stop m d q j h1.1,hq.nx _ _ _ _ (z.trans q) u j h1.2⟩;rintro i v l m Z hi ⟨f,d,q,u,j,h1⟩ y;rw[bC hi]at h1;obtain⟨hk,h1⟩:=h1;obtain⟨T,c2,rx⟩:=M.yld i m d v Z _ q j hk (J_ hi) y;refine⟨_,f,d,_,rx,u.kp T,c2,h1,λI E Y H3 W fj C h3=>⟨I,E,_,_,_,_,fj,C,h3,?_⟩⟩;have S:Kp R H3:=q.trans<|T.trans W;exact⟨λr o O H' B N F L=>⟨r,o,S.trans B,N,F,L⟩,hq.rt.kp<|z.trans S,hq.nx.kp<|z.trans S,λr o O H' B N F L=>⟨r,o,S.trans B,N,F,L⟩⟩
def VIfs(X:Cx)(c7:oA lF)(t:AT):Prop:=PIfs X c7<|cT X.K t
def HQ:AT:=λ_ d R=>R true d
def Bm:VIfs X [] HQ:=λi s f H Q I d=>B4 d λm l R j hc h hq=>Vp i s f H Q I<|hq _ _ _ Kp.refl hc h
def Dm{t:AT}(h:VT X a t):VIfs X [a] t:=Vq h
def cl(p:lB)(g:AG)(tst:AT)(te:AE)(l:M->Prop)(R:M->Prop):oA AV->oA AV->ASt->M->Prop
 |[]=>λ_ _ i=>l i/\R i
 |x::n=>λd o i=>l i/\g x o i λf m=>tst f m λk j=>
  brP k (te f j λv h=>h p=some (.lst d)/\d.length<sizeLine/\cl p g tst te l R n (d++[v]) f (Ao h p<|.lst<|d++[v])) (cl p g tst te l R n d f j)
def Nm(mp:oA<|oB Nat)(wi:AI)(g:AG)(tst:AT)(te:AE):AE:=λh i R=>wi h i λj l d=>∀p,d p=none->cl p g tst te l (λf=>R (.R p) f) j [] (HF mp h) (Ao d p<|.lst [])
def NL{p:lB}{g:AG}{tst:AT}{te:AE}{f:M->Prop}{R:M->Prop}{xs acc:oA AV}{τ:ASt}{d:M}(h:cl p g tst te f R xs acc τ d):f d:=by
 cases xs with
 |nil=>exact h.1
 |cons x xs=>exact h.1
def K7{K:lC}{mp:oA<|oB Nat}{wi:AI}{g:AG}{tst:AT}{te:AE}{σ:St}{H:Hp}{Q:VK}(h:cE K (Nm mp wi g tst te) σ H Q):Vs mp (cI K wi) (cG K g) (cT K tst) (cE K te) σ H Q:=by obtain⟨τ,μ,R,Z,hc,h,hq⟩:=h;refine⟨τ,μ,_,Z,hc,h,λxs kp T J E S0 c0 U h0=>?_⟩;intro p hp;have h0:=h0 p<|c0.none hp;have yy:Cn K (Ao T p<|.lst []) (upd E p<|.lst []):=c0.new hp<|Dh<|.nil;have C:Kp E (upd E p<|.lst []):=Kp.new hp _;refine Ra xs.length (λi q n l=>∃ f d as,Kp E l/\D8 K l f n/\Cn K d l/\A5 K l as q/\cl p g tst te kp (λV=>R (.R p) V) (xs.drop i) as f d) ⟨_,_,[],C,((Z.kp S0).kp C).sub mp,yy,.nil,h0⟩ ?_ ?_ ?_;rintro i q n l hi ⟨f,d,as,r,I,j,L,h1⟩;exact U.go i l d r j (NL h1) hi;rintro q n l ⟨f,d,as,r,I,j,L,h1⟩;rw[dD]at h1;exact⟨U.stop l d r j h1.1,hq _ _ _ _ (S0.trans r) j Dy h1.2⟩;rintro i v q n l H2 hi ⟨f,d,as,r,I,j,L,h1⟩ y;rw[bC hi]at h1;obtain⟨hk,h1⟩:=h1;obtain⟨F,c2,rx⟩:=U.yld i l d v H2 _ r j hk (J_ hi) y;refine⟨_,f,d,_,rx,I.kp F,c2,h1,λm O σ3 H3 W D G h3=>⟨m,O,_,D,G,h3,λk z H4 B c4 h4=>?_⟩⟩;rcases br_e h4 with⟨rfl,s⟩|⟨rfl,s⟩;rw[T_ rfl];refine⟨m,z,_,D.kp B,c4,s,λw μ5 u H5 Y c5 rw M=>?_⟩;obtain⟨e5,hl,M⟩:=M;obtain⟨o,A,vs,rfl,N⟩:=c5 _ _ e5;have S:Kp l H5:=F.trans<|W.trans<|B.trans Y;exact⟨vs,A,by rw[<- N.length];exact hl,m,_,_,(r.trans S).trans<|Kp.put A trivial _,(D.kp<|B.trans Y).kp<|Kp.put A trivial _,c5.put A trivial (Dh<|N.append<|.cons rw .nil),(N.append<|.cons rw .nil).kp<|Kp.put A trivial _,M⟩;rw[O_ V_];have S:Kp l H4:=F.trans<|W.trans B;exact⟨m,z,as,r.trans S,D.kp B,c4,L.kp S,s⟩
def UE(R:AV->M->Prop):ASt->M->Prop:=λ_ d=>∃ f,Sub f d/\R (.D .none) f
def NM(R:AV->M->Prop):AV->M->Prop:=λv d=>∃ f,Sub f d/\R v f
def EI:ASt->M->Prop:=λ_ _=>False
def Fun.vok{x d:Str}{st:lJ}{f:lB}{C:lK}{N ps:oA Str}{k:Nat}{sp:ASp}(F:Fun K x d st f C)(S:FnScope N ps<|Ah st) (L:∀(o:kZ) (A:lG) (outer:oA Env) (s:k_) (H:Hp) (E:XK),Room k (A.deeper<|envOfC d (Ah st) s.heap.objs.size f o) ->
   ∃t,VSs (Hq Cm P w K mg base N d (Ah st) f o A outer s H E).nox (B1 st) t/\∀i l R,i.length=ps.length->sp i l R->t (UE R) (NM R) EI EI (Em N i) l):FnOk P w K mg base Cm (k+1) f C ps (Dj K ps.length sp):=by
 refine F.ok S (λI H Q E h=>?_) λo A outer s H I Q E M h=>?_;obtain⟨i,l,R,B,y,_⟩:=h;rw[<- y.length];exact B;obtain⟨i,l,R,B,y,hc,O,hq⟩:=h;obtain⟨t,D,h⟩:=L o A outer s H E M;refine⟨_,D,Em N i,l,_,_,_,_,D8.begin y,hc,h i l R B O,⟨λV z U T q _ c n=>Mz n λJ j r=>?_,λv z u T q c G m=>Mz m λJ j r=>?_,λ_ _ _ _ _ _ _ h=>h.elim,λ_ _ _ _ _ _ _ h=>h.elim⟩⟩;exact hq _ _ _ _ q (c.sub j) Hu r;exact hq _ _ _ _ q (c.sub j) G r
def HR(t:AE):AI:=λi f R=>t i f λx d=>opt (items d x) λh=>R h (λf=>items f x=some h) d
def Be(N:VE X a ta):VI X tg a (HR ta):=by
 intro J s F H R I m;refine B4 m λO y G L hc h hq=>?_;refine thn (N J s F H (λv j=>∃x d l,Kp H j/\Cn X.K d j/\RelA X.K j x v/\items d x=some l/\G l (λy=>items y x=some l) d) I ⟨O,y,_,L,hc,h,λx d v j z u r hx=>?_⟩) λv s1 Q=>?_;obtain⟨l,e,hx⟩:=A4 hx;exact⟨x,d,l,z,u,r,e,hx⟩;obtain⟨V,j,f,M,x,d,l,z,u,r,e,hx⟩:=Q;obtain⟨p,U,rfl,hp,T⟩:=Cc u r e;cases M;rcases hp with⟨k,hp⟩|⟨k,hp⟩;obtain⟨D,E,C,hz⟩:=f.list hp;refine fM C.isList ?_;refine⟨s1.heap.objs.size,[s1.heap.objs.size],_,_,j,rfl,f.kept (t':=s1.toks) λb o e=>DD _ e,Sr p _,⟨_,K_ _ rfl,rfl,rfl⟩,λb hb=>?_,hq _ _ _ _ _ z u (Tl λH y S c A=>?_) hx⟩;have e:b=s1.heap.objs.size:=by simpa using hb
 subst e;exact f.fpOk (F_ _)<|f.hok.fresh<|F_ _;obtain⟨q,B,e,i,rw⟩:=Cc c (r.kp S) A;cases e;rcases i with⟨_,i⟩|⟨n,_⟩;exact⟨B,i,rw⟩;rw[k]at n;cases n;obtain⟨D,E,C,hz⟩:=f.tuple hp;refine iD (show s1.heap.IsTuple p D.toArray from C) ?_;refine⟨s1.heap.objs.size,[s1.heap.objs.size],_,_,j,rfl,f.kept (t':=s1.toks) λb o e=>DD _ e,Pb p _,⟨_,K_ _ rfl,rfl,rfl⟩,λb hb=>?_,hq _ _ _ _ _ z u (V8 λH y S c A=>?_) hx⟩;have e:b=s1.heap.objs.size:=by simpa using hb
 subst e;exact f.fpOk (F_ _)<|f.hok.fresh<|F_ _;obtain⟨q,B,e,i,rw⟩:=Cc c (r.kp S) A;cases e;rcases i with⟨n,_⟩|⟨_,i⟩;rw[k]at n;cases n;exact⟨B,i,rw⟩
end
section
variable {c:AT}{g:AG}{tb:AS}{k:ASt->M->Prop}{r:AV->M->Prop}{bb cc:ASt->M->Prop}{tst:AT}{te:AE}{X:Cx}{K:lC}{H:Hp}{o i e value:lF}{pos cq:Pos}{td ty tv tx:AE}
def Rg{τ:ASt}{a:M}(I:Nat->ASt->M->Prop)(m:Nat)(h0:I m τ a)
  (step:∀m τ a (W:ASt->M->Prop),I m τ a->(∀j b d,j<m->I j b d->W b d)->c τ a λx f=>brP x (tb W r k W τ f)<|k τ f):∃n,wl c tb k r n τ a:=by
 have p:∀n m τ a,m<n->I m τ a->wl c tb k r n τ a:=by
  intro n
  induction n with
  |zero=>intro m τ a h _;omega
  |succ n q=>intro m τ a h s;exact step m τ a (wl c tb k r n) s λj b d t l=>q j b d (by omega) l
 exact⟨m+1,p (m+1) m τ a (eE _) h0⟩
def Az{t u:AS}{τ:ASt}{d:M}(J:ASt->M->Prop)(h1:∀W:ASt->M->Prop,(∀ a b,J a b->W a b)->t W r bb cc τ d)(h2:∀ a b,J a b->u k r bb cc a b):Tj t u k r bb cc τ d:=h1 (u k r bb cc) h2
def Cg{t u:AS}{τ:ASt}{a:M}(h:t (u k r bb cc) r bb cc τ a):Tj t u k r bb cc τ a:=h
def Ci{j:M->Prop}{xs:oA AV}{τ:ASt}{a:M}(I:Nat->ASt->M->Prop)(h0:I 0 τ a)(hk:∀i τ a,I i τ a->j a)
  (step:∀i x τ a (W:ASt->M->Prop),xs[i]?=some x->I i τ a->(∀ b d,I (i+1) b d->W b d)->g x τ a λl p=>tb W r k W l p)
  (done:∀ τ a,I xs.length τ a->k τ a):fl g tb k r j xs τ a:=by
 have m:∀n i τ a,n+i=xs.length->I i τ a->fl g tb k r j (xs.drop i) τ a:=by
  intro n
  induction n with
  |zero=>
   intro i τ a h f;have e:i=xs.length:=by omega
   subst e;rw[dD];exact⟨hk _ _ _ f,done τ a f⟩
  |succ n s=>
   intro i τ a h f;have hi:i<xs.length:=by omega
   rw[bC hi];exact⟨hk _ _ _ f,step i _ τ a _ (J_ hi) f λb d q=>s (i+1) b d (by omega) q⟩
 exact m xs.length 0 τ a rfl h0
def Dn{p:lB}{u:M->Prop}{R:M->Prop}{xs:oA AV}{τ:ASt}{b:M}(I:Nat->oA AV->ASt->M->Prop)(h0:I 0 [] τ b)(hk:∀i a τ b,I i a τ b->u b)
  (step:∀i x a τ b (W:oA AV->ASt->M->Prop),xs[i]?=some x->I i a τ b->(∀l d f,I (i+1) l d f->W l d f)->g x τ b λj w=>tst j w λk t=>
   brP k (te j t λv m=>m p=some (.lst a)/\a.length<sizeLine/\W (a++[v]) j (Ao m p<|.lst<|a++[v])) (W a j t))
  (done:∀a τ b,I xs.length a τ b->R b):cl p g tst te u R xs [] τ b:=by
 have y:∀n i a τ b,n+i=xs.length->I i a τ b->cl p g tst te u R (xs.drop i) a τ b:=by
  intro n
  induction n with
  |zero=>
   intro i a τ b h s;have e:i=xs.length:=by omega
   subst e;rw[dD];exact⟨hk _ _ _ _ s,done a τ b s⟩
  |succ n z=>
   intro i a τ b h s;have hi:i<xs.length:=by omega
   rw[bC hi];exact⟨hk _ _ _ _ s,step i _ a τ b (λl d f=>cl p g tst te u R (xs.drop<|i+1) l d f) (J_ hi) s λl d f q=>z (i+1) l d f (by omega) q⟩
 exact y xs.length 0 [] τ b rfl h0
def Wa{z:Str}(h:PyData.canLay0 (.str z)=true):Cp (.str z):=⟨h,by simp[PyData.depth]⟩
def Bz(i:Int):Cp (.int i):=⟨rfl,by simp[PyData.depth]⟩
def Rh(i j:Int):PyData.eqv (.int i) (.int j)=decide (i=j):=by rw[PyData.eqv];exact fJ.mpr<|by simp
def ieq{i j:Int}{T F:Prop}(h1:i=j->T)(h2:i≠j->F):Cp (.int i)/\Cp (.int j)/\brP (PyData.eqv (.int i)<|.int j) T F:=by refine⟨Bz _,Bz _,?_⟩;rw[Rh];exact dif h1 h2
def Am{a:M}{p:lB}{xs:oA AV}(h:a p=some (.lst xs)):items a (.R p)=some xs:=by show(match a p with|some (.lst xs)=>some xs|_=>none)=_;rw[h]
def Bw{a:Type} [DecidableEq a](kvs:oA<|a×AV)(k:a):oB AV:=(kvs.find? λb=>decide (b.1=k)).map (·.2)
def Dz{b:Type} [DecidableEq b](kvs:oA<|b×AV)(k:b)(v:AV):oA (b×AV) :=
 if(kvs.any λa=>decide (a.1=k))=true then kvs.map λa=>if a.1=k then(a.1,v) else a else kvs++[(k,v)]
def Jf:oA lA->oB (oA Key)
 |[]=>some []
 |d::a=>match Nh d,Jf a with
  |some k,some b=>some (k::b)
  |_,_=>none
def Nn(ds:oA lA):oB (oA Key):=match Lit ds with
 |true=>none
 |false=>Jf ds
def L5{ds:oA lA}{ks:oA Key}(h:Nn ds=some ks):Lit ds=false/\Jf ds=some ks:=by
 unfold Nn at h;cases c:Lit ds with
 |true=>rw[c]at h;cases h
 |false=>rw[c]at h;exact⟨rfl,h⟩
def Tg.heap{K:lC}{H:Hp}{a:lB}{ds:oA lA}{xs:oA V}(h:Tg K H a ds xs)(b:Lit ds=false):H a=some (.tup xs):=by rcases h with h|h;exact h;rw[b]at h;cases h.1
def dget(m:MO)(d:lA):oB (oB AV):=match m with
 |.dk a=>(Nh d).map (Bw a)
 |.dt a=>match d with
  |.tuple b=>(Nn b).map (Bw a)
  |_=>none
 |.lst _=>none
 |.dd _=>none
 |.tb _=>none
def dput(m:MO)(d:lA)(v:AV):oB MO:=match m with
 |.dk a=>(Nh d).map λk=>.dk (Dz a k v)
 |.dt a=>match d with
  |.tuple b=>(Nn b).map λk=>.dt (Dz a k v)
  |_=>none
 |.lst _=>none
 |.dd _=>none
 |.tb _=>none
def dsize:MO->Nat
 |.dk a=>a.length
 |.dt a=>a.length
 |.lst b=>b.length
 |.dd a=>a.length
 |.tb _=>0
def Ri(K:lC)(H:Hp):oB AV->oB V->Prop
 |some x,some v=>RelA K H x v
 |none,none=>True
 |_,_=>False
def Ex.val{a:Type} [DecidableEq a]{kvs:oA<|a×AV}{vs:oA<|a×V}(h:Ex K H kvs vs)(k:a):Ri K H (Bw kvs k) (El vs k):=by
 unfold Ex at h
 induction h with
 |nil=>exact trivial
 |@cons p q d f r t b=>obtain⟨j,m⟩:=p;obtain⟨n,l⟩:=q;obtain⟨e,r⟩:=r;dsimp only at e;subst e;unfold Bw El at b ⊢;by_cases hk:j=k;simp only[List.find?_cons,decide_eq_true hk];exact r;simp only[List.find?_cons,decide_eq_false hk];exact b
def Ex.put{j:Type} [DecidableEq j]{kvs:oA<|j×AV}{vs:oA<|j×V}(h:Ex K H kvs vs)(k:j){x:AV}{v:V}(r:RelA K H x v):Ex K H (Dz kvs k x) (putK vs k v):=by
 have m:(kvs.any λa=>decide (a.1=k))=(vs.any λa=>decide (a.1=k)):=by
  unfold Ex at h
  induction h with
  |nil=>rfl
  |@cons p q b f d t l=>rw[dX,dX,l,d.1]
 have n:Ex K H (kvs.map λa=>if a.1=k then(a.1,x) else a) (vs.map λa=>if a.1=k then(a.1,v) else a):=by
  clear m;unfold Ex at h ⊢
  induction h with
  |nil=>exact .nil
  |@cons p q b f d t l=>refine .cons ?_ l;obtain⟨e,d⟩:=d;dsimp only;by_cases hk:p.1=k;rw[T_ hk,T_<|e ▸ hk];exact⟨e,r⟩;rw[O_ hk,O_<|e ▸ hk];exact⟨e,d⟩
 have ha:Ex K H (kvs++[(k,x)]) (vs++[(k,v)]):=by clear m n;unfold Ex at h ⊢;exact iG h ⟨rfl,r⟩
 unfold Dz putK;rw[m];split;exact n;exact ha
def L6{d:lA}{k:Key}{v:V}(h:Dk K H d v)(e:Nh d=some k):v=kV k:=by unfold Nh at e;split at e;cases e;exact h.int;cases e;exact h.str;cases e
theorem Ha:∀{ds:oA lA} {ks:oA Key} {vs:oA V},Ap K H ds vs->Jf ds=some ks->vs=ks.map kV
 |[],ks,vs,h,e=>by cases e;exact h.nil
 |d::ds,ks,vs,h,e=>by obtain⟨x,r,rfl,h1,h2⟩:=h.cons;simp only[Jf]at e;split at e;rename_i k b a f;cases e;rw[L6 h1 a,Ha h2 f];rfl;cases e
def Im{l:M}{a:lB}{m:MO}{d:lA}{v:V}{o:oB AV}(hc:Cn K l H)(q:l a=some m)(n:Dk K H d v)(e:dget m d=some o):∃r,DGet H a v r/\Ri K H o r:=by obtain⟨x,j,p⟩:=hc a m q;unfold dget at e;split at e;obtain⟨k,f,rfl⟩:=H_.mp e;obtain⟨u,rfl,h⟩:=p;rw[L6 n f];exact⟨_,DGet.k j,h.val k⟩;split at e;obtain⟨s,f,rfl⟩:=H_.mp e;obtain⟨u,rfl,h⟩:=p;obtain⟨b,y,rfl,hb,hx⟩:=n.tup;obtain⟨w,f⟩:=L5 f;have hb:=hb.heap w;rw[Ha hx f]at hb;exact⟨_,DGet.t j hb,h.val s⟩;cases e;cases e;cases e;cases e
def BI{n:M}{a:lB}{m s:MO}{d:lA}{v w:V}{x:AV}(hc:Cn K n H)(y:n a=some m)(q:Dk K H d v)(hx:RelA K H x w)(e:dput m d x=some s)(p:dsize m<sizeLine):∃l,DPut H a v w l/\Kp H l/\Cn K (Ao n a s) l:=by obtain⟨D,f,u⟩:=hc a m y;unfold dput at e;split at e;obtain⟨k,h,rfl⟩:=H_.mp e;obtain⟨A,rfl,j⟩:=u;rw[L6 q h];exact⟨_,DPut.k f<|by rw[<- bB j];exact p,Kp.put f trivial _,hc.put f trivial ⟨_,rfl,j.put k hx⟩⟩;split at e;obtain⟨z,h,rfl⟩:=H_.mp e;obtain⟨A,rfl,j⟩:=u;obtain⟨b,E,rfl,hb,C⟩:=q.tup;obtain⟨B,h⟩:=L5 h;have hb:=hb.heap B;rw[Ha C h]at hb;exact⟨_,DPut.t f hb<|by rw[<- bB j];exact p,Kp.put f trivial _,hc.put f trivial ⟨_,rfl,j.put z hx⟩⟩;cases e;cases e;cases e;cases e
def NN(td ty:AE):AE:=λh j R=>td h j λx f=>ty h f λy b=>match x,y with
 |.R a,.D d=>opt (b a) λm=>opt (dget m d) λr=>opt r λv=>R v b
 |_,_=>False
def C0(hu:X.A.units+1<cLine)(s:VE X o td)(hi:VE X i ty)(b:AQ i:=by intro _ _;rfl):VE X (.Subscript o i pos) (NN td ty):=(AR hu s hi b).imp λL H Q a=>B4 a λq G R b hc h hq=>
 ⟨q,G,_,b,hc,h,λx d v N n E D hx=>⟨q,d,_,b.kp n,E,hx,λy I u J j p C hy=>by
  split at hy
  ·obtain⟨m,B,hy⟩:=A4 hy;obtain⟨r,t,hy⟩:=A4 hy;obtain⟨w,rfl,f⟩:=A4 hy;obtain⟨F,g,l⟩:=Im p B C t;cases F with
   |none=>exact l.elim
   |some z=>exact⟨_,z,(D.kp j).ref,g,hq _ _ _ _ (n.trans j) p l f⟩
  exact hy.elim⟩⟩
def Wb(l:Bool->Bool)(ty td:AE):AE:=λh j R=>ty h j λy f=>td h f λx b=>match x,y with
 |.R a,.D d=>opt (b a) λm=>opt (dget m d) λr=>R (.D<|.bool<|l r.isSome) b
 |_,_=>False
def Ri.some{o:oB AV}{r:oB V}(h:Ri K H o r):o.isSome=r.isSome:=by cases o<;>cases r<;>first|rfl|exact h.elim
def No{K:lC}{l:St}{H:Hp}{Q:VK}(h:cE K (Wb (λb=>b) ty td) l H Q):MJ (cE K ty) (cE K td) l H Q:=by obtain⟨f,B,R,d,hc,h,hq⟩:=h;refine⟨f,B,_,d,hc,h,λy a v F n w s hx=>⟨f,a,_,d.kp n,w,hx,λx D u E j p t hy=>?_⟩⟩;split at hy;obtain⟨m,q,hy⟩:=A4 hy;obtain⟨r,C,hy⟩:=A4 hy;obtain⟨A,g,z⟩:=Im p q (s.kp j) C;refine⟨_,A,t.ref,g,hq _ _ _ _ (n.trans j) p ?_ hy⟩;rw[z.some];exact D5;exact hy.elim
def Np{K:lC}{l:St}{H:Hp}{Q:VK}(h:cE K (Wb (λb=>!b) ty td) l H Q):Q9 (cE K ty) (cE K td) l H Q:=by obtain⟨f,B,R,d,hc,h,hq⟩:=h;refine⟨f,B,_,d,hc,h,λy a v F n w s hx=>⟨f,a,_,d.kp n,w,hx,λx D u E j p t hy=>?_⟩⟩;split at hy;obtain⟨m,q,hy⟩:=A4 hy;obtain⟨r,C,hy⟩:=A4 hy;obtain⟨A,g,z⟩:=Im p q (s.kp j) C;refine⟨_,A,t.ref,g,hq _ _ _ _ (n.trans j) p ?_ hy⟩;rw[z.some];exact D5;exact hy.elim
def Pt(hu:X.A.units+1<cLine)(hi:VE X i ty)(a:VE X o td)(h1:behindInMarks .In o=false:=by rfl):VE X (.Compare i [.In] [o] pos) (Wb (λb=>b) ty td):=(FQ (Vi hu hi a) h1).imp λ_ _ _ h=>No h
def HS(hu:X.A.units+1<cLine)(hi:VE X i ty)(a:VE X o td)(h1:behindInMarks .In o=false:=by rfl):VT X (.Compare i [.In] [o] pos) (Ky<|Wb (λb=>b) ty td):=(Pa (Vi hu hi a) h1).imp λ_ _ _ h=>Ey (λ_ _ _ q=>No q) h
def K8(hu:X.A.units+1<cLine)(hi:VE X i ty)(a:VE X o td)(h1:behindInMarks .NotIn o=false:=by rfl):VT X (.Compare i [.NotIn] [o] pos) (Ky<|Wb (λb=>!b) ty td):=(Pa (Ta hu hi a) h1).imp λ_ _ _ h=>Ey (λ_ _ _ q=>Np q) h
def Rj(td ty tv:AE):AS:=λk _ _ _ f l=>tv f l λv h=>td f h λx j=>ty f j λy b=>match x,y with
 |.R a,.D d=>opt (b a) λm=>opt (dput m d v) λn=>dsize m<sizeLine/\k f (Ao b a n)
 |_,_=>False
def C1(hu:X.A.units+1<cLine)(u:VE X o td)(hi:VE X i ty)(hv:VE X value tv)(b:swapsWith value (some<|.Subscript o i cq) pos.line X.env=pure false:=by rfl):VS X (.Assign [.Subscript o i cq] value pos) (Rj td ty tv):=(AU hu u hi hv b).imp λD R H d=>Ge d λq N U nr T Z b hc h hq=>
 ⟨q,N,_,b,hc,h,λv n vv W p J w h1=>⟨q,n,_,b.kp p,J,h1,λx s V P l B G h2=>⟨q,s,_,b.kp<|p.trans l,B,h2,λy z O Q j L F a=>by
  split at a;obtain⟨m,E,a⟩:=A4 a;obtain⟨Y,f,a⟩:=A4 a;obtain⟨I,g,C,t⟩:=BI L E F (w.kp<|l.trans j) f a.1;have S:=p.trans<|l.trans<|j.trans C;exact⟨_,I,(G.kp j).ref,g,hq.nx _ _ _ _ S (b.kp S) t a.2⟩;exact a.elim⟩⟩⟩
def HU:AE:=λ_ a R=>∀p,a p=none->R (.R p) (Ao a p<|.dk [])
def HV:AE:=λ_ a R=>∀p,a p=none->R (.R p) (Ao a p<|.dt [])
def Wc{kvs:oA<|Key×AV}{vs:oA<|Key×V}(h:Ex K H kvs vs):Hv K H (.dk kvs) (.dK vs):=⟨vs,rfl,h⟩
def EJ{kvs:oA<|oA Key×AV}{vs:oA<|oA Key×V}(h:Ex K H kvs vs):Hv K H (.dt kvs) (.dT vs):=⟨vs,rfl,h⟩
def Fq:VE X (.Dict [] [] pos) HU:=Vk.imp λd H Q a=>B4 a λj f R b hc h hq=>λp hp=>hq _ _ _ _ (Kp.new hp _) (hc.new hp<|Wc .nil) Dy<|h p<|hc.none hp
def Ez:VE X (.Dict [] [] pos) HV:=Vl.imp λd H Q a=>B4 a λj f R b hc h hq=>λp hp=>hq _ _ _ _ (Kp.new hp _) (hc.new hp<|EJ .nil) Dy<|h p<|hc.none hp
end
end L2
namespace L2
def Ec{b:Type}{us:oA b}{n:Nat}(h:us.length=n+1):∃a t,us=a::t/\t.length=n:=match us,h with|a::t,h=>⟨a,t,rfl,eY h⟩
def BJ{b:Type}{us:oA b}(h:us.length=1):∃a,us=[a]:=by obtain⟨a,t,rfl,h2⟩:=Ec h;rw[cD h2];exact⟨a,rfl⟩
def UF{c:Type}{us:oA c}(h:us.length=2):∃a b,us=[a,b]:=by obtain⟨a,t,rfl,h2⟩:=Ec h;obtain⟨b,rfl⟩:=BJ h2;exact⟨a,b,rfl⟩
open PySem PySem.Spec PySem.Calls PyProof.Rows
abbrev AX:=lB->oA (Str×lA)->M->Prop
def XFx(K:lC)(H:Hp)(d:oB lB)(b:oA<|Str×lA):Prop:=match d with
 |none=>b=[]
 |some d=>∃a,H d=some (XD d a)/\Vx K H b a
def EK(K:lC)(f:AX):XK:=λc g H=>∃a C e b d,c=.ref C/\g=some a/\H a=some (XR a C d)/\XFx K H d e/\Cn K b H/\f C e b
def XA(X:Cx)(a:AX):Prop:=WI X<|EK X.K a
abbrev Qa5:=oA AV->M->(AV->M->Prop)->AX->Prop
def ZT(K:lC)(f:Hp)(t:AS):TS:=λD e H=>∃ d a k r b c,D8 K H d e/\Cn K a H/\t k r b c d a/\LE' K f k r b c D
def NO(X:Cx)(st:lJ)(t:AS):Prop:=PS X st<|ZT X.K X.H₀ t
def BK(X:Cx)(st:oA lJ)(t:AS):Prop:=PSs X st<|ZT X.K X.H₀ t
section
variable {X:Cx}{aa:oA<|lB×lI}{σ:St}{H:Hp}{s:k_}{st:lJ}{rest:oA lJ}{t s1 s2:AS}{a:lF}{ta:AE}{pos p p2:Pos}{x:Str}
def Inv.kp0(I:Inv X aa σ H s):Kp X.H₀ H:=⟨I.base.tups,I.base.frzs⟩
def VS.z(h:VS X st t):NO X st t:=λaa s σ H D I d=>Ge d λf g k r b c e hc i hq=>h aa s σ H D I ⟨f,g,k,r,b,c,e,hc,i,hq.kp I.kp0⟩
def K9(h1:NO X st s1)(h2:BK X rest s2):BK X (st::rest) (Tj s1 s2):=(M5 h1 h2).imp λD σ H b=>Ge b λg j f nr m n e hc h hq=>
 ⟨g,j,_,_,_,_,e,hc,h,⟨λc d k q r i l o=>⟨c,d,f,nr,m,n,i,l,o,hq⟩,hq.rt,hq.bk,hq.ct⟩⟩
def Wd(h1:NO X st s1):BK X [st] s1:=Q2 h1
def Fun.vok0{P:lD}{w:lE}{K:lC}{B:Str->oB kZ}{base:lH}{x b:Str}{st:lJ}{f:lB}{z:lK}{N m:oA Str}{k:Nat}{sp:ASp}(F:Fun K x b st f z)(S:FnScope N m<|Ah st) (L:∀(l:kZ) (A:lG) (outer:oA Env) (s:k_) (H:Hp) (E:XK),Room k (A.deeper<|envOfC b (Ah st) s.heap.objs.size f l) ->
   ∃t,BK (Hq Cm P w K B base N b (Ah st) f l A outer s H E).nox (B1 st) t/\∀d g R,d.length=m.length->sp d g R->t (UE R) (NM R) EI EI (Em N d) g):FnOk P w K B base Cm (k+1) f z m (Dj K m.length sp):=by
 refine F.ok S (λI H Q E h=>?_) λl A outer s H I Q E M h=>?_;obtain⟨d,g,R,y,o,_⟩:=h;rw[<- o.length];exact y;obtain⟨d,g,R,y,o,hc,G,hq⟩:=h;obtain⟨t,C,h⟩:=L l A outer s H E M;refine⟨_,C,Em N d,g,_,_,_,_,D8.begin o,hc,h d g R y G,⟨λT q σ O n _ c j=>Mz j λJ e r=>?_,λv q u O n c D i=>Mz i λJ e r=>?_,λ_ _ _ _ _ _ _ h=>h.elim,λ_ _ _ _ _ _ _ h=>h.elim⟩⟩;exact hq _ _ _ _ n (c.sub e) Hu r;exact hq _ _ _ _ n (c.sub e) D r
def NP:A2:=λx y b R=>match x,y with
 |.D (.bool i),.D (.bool j)=>R (.D<|.bool<|i==j) b
 |_,_=>False
def NQ:VOp X (compareOp .Is) NP:=by intro aa s σ H x y v u Q I e d c;refine Er c λa b i R f g hc h hq=>?_;unfold NP at h;split at h;cases RelA.bl f;cases RelA.bl g;cases e;cases d;exact is_bool<|Ln I (hq _ _ _ _ Kp.refl hc D5 h) rfl;exact h.elim
end
end L2
namespace L2
open PySem PySem.Spec PyProof.Rows
def Ej:Nat->oA lA->oA AV
 |_,[]=>[]
 |i,d::a=>.D (.tuple [.int i,d])::Ej (i+1) a
theorem C2:∀(ds:oA lA) (k:Nat),(Ej k ds).length=ds.length
 |[],_=>rfl
 |_::ds,k=>by rw[Ej,bE,C2 ds,bE]
theorem F8:∀{ds:oA lA} {k i:Nat} {x:AV},(Ej k ds)[i]?=some x->∃d,ds[i]?=some d/\x=.D (.tuple [.int ((k+i:Nat):Int),d])
 |[],_,_,_,h=>by simp[Ej]at h
 |d::ds,k,0,_,h=>by simp[Ej]at h;exact⟨d,rfl,by rw[<- h];simp⟩
 |_::ds,k,i+1,_,h=>by
  rw[Ej,iH]at h;obtain⟨d,e,q⟩:=F8 h;refine⟨d,by simpa using e,?_⟩;rw[q];have a:k+1+i=k+(i+1):=by omega
  rw[a]
def Pu{K:lC}{l:Hp}{a:lB}{ys:oA AV}{ds:oA lA}{m:M->Prop}(n:dats ys=some ds)(h:∀H f,Kp l H->Cn K f H->m f->∃b,Hn K H a b/\A5 K H ys b):ItOk K l (Ien K a) (Ej 0 ds) m:=by
 have j:ds.length=ys.length:=by rw[Ij n,B_]
 refine⟨λi H f S c k hi=>?_,λi H f v t x S c k e y=>?_,λH f S c k=>?_⟩;obtain⟨b,q,r⟩:=h H f S c k;rw[C2,j]at hi;exact⟨b,b[i]'(by rw[<- r.length];exact hi),q,J_ _⟩;obtain⟨b,q,r⟩:=h H f S c k;obtain⟨T,z,g,rfl,rfl,y⟩:=y;obtain⟨d,p,rfl⟩:=F8 e;obtain⟨u,o,s⟩:=(r.dats n).get p;rw[y b q]at o;cases o;refine⟨Kp.new g _,c.over g,Ly A6 ?_⟩;rw[iU];exact B8 Co<|B8 (Dk.kp (Kp.new g _) _ _ s) Cr;obtain⟨b,q,r⟩:=h H f S c k;exact⟨b,q,by rw[C2,j,r.length]⟩
def Pw{K:lC}{l:Hp}{a:lB}{ys:oA AV}{ds:oA lA}{m:M->Prop}(n:dats ys=some ds)(h:∀H f,Kp l H->Cn K f H->m f->∃b,Ep K H a b/\A5 K H ys b):ItOk K l (Iel K a) (Ej 0 ds) m:=by
 have j:ds.length=ys.length:=by rw[Ij n,B_]
 refine⟨λi H f S c k hi=>?_,λi H f v t x S c k e y=>?_,λH f S c k=>?_⟩;obtain⟨b,q,r⟩:=h H f S c k;rw[C2,j]at hi;exact⟨b,b[i]'(by rw[<- r.length];exact hi),q,J_ _⟩;obtain⟨b,q,r⟩:=h H f S c k;obtain⟨T,z,g,rfl,rfl,y⟩:=y;obtain⟨d,p,rfl⟩:=F8 e;obtain⟨u,o,s⟩:=(r.dats n).get p;rw[y b q]at o;cases o;refine⟨Kp.new g _,c.over g,Ly A6 ?_⟩;rw[iU];exact B8 Co<|B8 (Dk.kp (Kp.new g _) _ _ s) Cr;obtain⟨b,q,r⟩:=h H f S c k;exact⟨b,q,by rw[C2,j,r.length]⟩
def NR(t:AE):AI:=λe b R=>t e b λx a=>opt (items a x) λc=>opt (dats c) λd=>R (Ej 0 d) (λb=>items b x=some c) a
section
variable {X:Cx}{a:lF}{ta:AE}{pos p:Pos}{al:oA<|oB lF}{values:oA lF}{ks:oA Key}{ts:oA AE}
def Io{V:oA lF}{k:Nat}{Z:Pos}(hg:Gl X "enumerate") (N:X.mg "enumerate" = none) (hl:VE X a ta) (J:starEach [a] X.env=[(false,eval a X.env)]:=by rfl):VI X (.Tuple V k Z) (.Call (.Name "enumerate" p) [a] [] pos) (NR ta):=by
 intro G s P H R I t;refine B4 t λτ w Q U hc h hq=>?_;refine bT<|Dx I hg N boot_enumerate ?_;refine bG ?_ J rfl;rw[J];refine bA<|thn (hl G s P H (λv g=>∃x d j m,Kp H g/\Cn X.K d g/\RelA X.K g x v/\items d x=some j/\dats j=some m/\Q (Ej 0 m) (λw=>items w x=some j) d) I ⟨τ,w,_,U,hc,h,λx d v g y r o hx=>?_⟩) λu f ua=>bY ?_;obtain⟨j,e,hx⟩:=A4 hx;obtain⟨m,z,hx⟩:=A4 hx;exact⟨x,d,j,m,y,r,o,e,z,hx⟩;obtain⟨xv,g,l,Y,x,d,j,m,y,r,o,e,z,hx⟩:=ua;obtain⟨p,vs,rfl,hp,rs⟩:=Cc r o e;cases Y;have L:∀b∈[f.heap.objs.size+1,f.heap.objs.size],Fj X G g b:=λb hb=>by
  have M:f.heap.objs.size<=b:=by
   rcases aD.mp hb with rfl|hb;exact bU _;have e:b=f.heap.objs.size:=by simpa using hb
   exact gD e.symm
  exact l.fpOk M<|l.hok.fresh M
 rcases hp with⟨k,hp⟩|⟨k,hp⟩;obtain⟨T,O,E,hz⟩:=l.list hp;refine call_enumerate_list E.isList λW he D F B=>?_;refine iS he ?_;refine⟨f.heap.objs.size+1,[f.heap.objs.size+1,f.heap.objs.size],_,_,g,rfl,l.kept (t':=f.toks) B,Pk p _ _<|gN _,⟨⟨_,he⟩,D⟩,L,hq _ _ _ _ _ y r (Pw z λH w S c A=>?_) hx⟩;obtain⟨q,C,e,i,rw⟩:=Cc c (o.kp S) A;cases e;rcases i with⟨_,i⟩|⟨n,_⟩;exact⟨C,i,rw⟩;rw[k]at n;cases n;obtain⟨T,O,E,hz⟩:=l.tuple hp;refine Gv E λW he D F B=>?_;refine iS he ?_;refine⟨f.heap.objs.size+1,[f.heap.objs.size+1,f.heap.objs.size],_,_,g,rfl,l.kept (t':=f.toks) B,Te p _ _<|gN _,⟨⟨_,he⟩,D⟩,L,hq _ _ _ _ _ y r (Pu z λH w S c A=>?_) hx⟩;obtain⟨q,C,e,i,rw⟩:=Cc c (o.kp S) A;cases e;rcases i with⟨n,_⟩|⟨_,i⟩;rw[k]at n;cases n;exact⟨C,i,rw⟩
def Px{kvs:oA<|Key×V}{k:Key}{v:V}(h:k∉kvs.map (·.1)):putK kvs k v=kvs++[(k,v)]:=by unfold putK;rw[O_];intro q;rw[aZ]at q;obtain⟨x,hx,e⟩:=q;exact h<|E_.mpr ⟨x,hx,aE e⟩
theorem Hb:∀(more kvs:oA<|Key×V),((kvs++more).map (·.1)).Nodup->Gr kvs more=kvs++more
 |[],kvs,_=>by rw[cP];rfl
 | (k,v)::more,kvs,h=>by
  show Gr (putK kvs k v) more=_;have hk:k∉kvs.map (·.1):=λz=>by rw[M_,aY]at h;exact h.2.2 k z k (by simp) rfl
  rw[Px hk,Hb more,iV]
  rfl
  rw[iV];exact h
def WZ:oA AE->ASt->M->(oA AV->M->Prop)->Prop
 |[],_,b,R=>R [] b
 |t::ts,e,b,R=>t e b λx c=>WZ ts e c λf d=>R (x::f) d
def EL(K:lC)(ks:oA Key)(ts:oA AE):oA (TE×TE):=(ks.zip ts).map λp=>(tC<|kV p.1,cE K p.2)
theorem Nq{K:lC}:∀{ks:oA Key} {ts:oA AE} {τ:ASt} {b:M} {R:oA AV->M->Prop} {f:St} {H:Hp} {Q:oA (V×V)->Hp->Prop},ks.length=ts.length->D8 K H τ f->Cn K b H->WZ ts τ b R ->
  (∀c d e g,Kp H g->Cn K d g->A5 K g c e->c.length=ts.length->R c d->Q ((ks.zip e).map λn=>(kV n.1,n.2)) g)->Lu (EL K ks ts) f H Q
 |[],[],τ,b,R,f,H,Q,_,i,hc,h,q=>q [] b [] H Kp.refl hc .nil rfl h
 |k::ks,t::ts,τ,b,R,f,H,Q,z,i,hc,h,q=>
  ⟨τ,b,_,i,hc,h,λx s v C m A y hx=>Nq (ks:=ks) (ts:=ts) (by simpa using z) (i.kp m) A hx λc j e o l u r w B=>q (x::c) j (v::e) o (m.trans l) u (.cons (y.kp l) r) (by simp[w]) B⟩
def VPs(X:Cx)(pos:Pos)(al:oA<|oB lF)(values:oA lF)(ks:oA Key)(ts:oA AE):Prop:=PPs X pos al values<|EL X.K ks ts
def NS(ks:oA Key)(ts:oA AE):AE:=λe c R=>∀p,c p=none->WZ ts e (Ao c p<|.dk []) λd b=>b p=some (.dk [])/\R (.R p) (Ao b p<|.dk<|ks.zip d)
def BL:VPs X pos [] [] [] []:=AW
def L7{z:Str}{j}{p:Pos}{v:lF}{t:AE}(hv:VE X v t)(b:VPs X pos al values ks ts):VPs X pos (some (.Constant (.str z) j p)::al) (v::values) (.inr z::ks) (t::ts):=Vm (tk:=tC<|kV<|.inr z) U0 hv b
theorem A5.zipK{K:lC}{H:Hp}:∀(ks:oA Key) {xs:oA AV} {vs:oA V},A5 K H xs vs->Ex K H (ks.zip xs) (ks.zip vs)
 |[],_,_,_=>.nil
 |_::_,_,_,.nil=>.nil
 |_::ks,_,_,.cons r t=>.cons ⟨rfl,r⟩<|A5.zipK ks t
def BM(h:VPs X pos al values ks ts)(hk:ks.Nodup)(g:ks.length=ts.length:=by rfl)(r:ks.length<=15:=by decide)(k:al.all (·.isSome)=true:=by rfl)(l:al.length=values.length:=by rfl)(h0:al≠[]:=by intro z;cases z)(q:al.length<=15:=by decide):VE X (.Dict al values pos) (NS ks ts) :=
 (AY h k l h0 q).imp λw H Q b=>B4 b λt x R i hc h hq=>by
  intro p hp;refine Nq g (i.kp<|Kp.new hp _) (hc.new hp<|Wc .nil) (h p<|hc.none hp) λs m f v n d e j hx=>?_;obtain⟨o,c,y,rfl,rk⟩:=d _ _ hx.1;cases rk;have u:ks.length=f.length:=by rw[<- e.length,j];exact g
  refine⟨c,ks.zip f,rfl,by rw[List.length_zip];omega,?_⟩;rw[Hb _ _<|by rw[List.nil_append,List.map_fst_zip<|by omega];exact hk,List.nil_append];exact hq _ _ _ _ ((Kp.new hp _).trans<|n.trans<|Kp.put c trivial _) (d.put c trivial (Wc<|e.zipK ks)) Dy hx.2
end
def D4{a:Type} [DecidableEq a]{k:a}{v:AV}{r:oA<|a×AV}:Bw ((k,v)::r) k=some v:=by unfold Bw;simp only[List.find?_cons,decide_eq_true (rfl:k=k)];rfl
def De{a:Type} [DecidableEq a]{k b:a}{v:AV}{r:oA<|a×AV}(h:b≠k):Bw ((b,v)::r) k=Bw r k:=by unfold Bw;simp only[List.find?_cons,decide_eq_false h]
def Nr{a:Type}(g:a->Bool)(xs:oA a):bools (xs.map λx=>.D<|.bool<|g x)=some (xs.map g):=by rw[show(xs.map λx=>AV.D<|.bool<|g x)=(xs.map g).map λb=>.D (.bool b) by rw[aF];rfl];exact K5 _
def Tm{a:M}{p:lB}{m:MO}(h:a p=some m):Ao a p m=a:=by
 funext b
 unfold Ao;split;rename_i e;rw[e,h]
 rfl
def cmapf{n:Type}{p:lB}{g:AG}{tst:AT}{te:AE}{t:M->Prop}{R:M->Prop}{τ:ASt}{j:M}(as:oA n)(u:n->AV)(b:n->Bool)(f:n->AV)(l:ASt->Prop)(h0:l τ)(hp:j p=some (.lst []))(hn:as.length<=sizeLine)(hk:∀acc,t<|Ao j p<|.lst acc)
  (step:∀(i:Nat) (x:n) (c:ASt) (acc:oA AV) (W:ASt->AV->M->Prop) (s:ASt->M->Prop),as[i]?=some x->l c->(b x=true->∀ a,l a->W a (f x) (Ao j p<|.lst acc))->(b x=false->∀ a,l a->s a (Ao j p<|.lst acc)) ->
   g (u x) c (Ao j p<|.lst acc) λa o=>tst a o λk h=>brP k (te a h<|W a)<|s a h)
  (done:R<|Ao j p<|.lst<|(as.filter b).map f):cl p g tst te t R (as.map u) [] τ j:=by
 refine Dn (λi acc c d=>l c/\acc=((as.take i).filter b).map f/\d=Ao j p (.lst acc)) ⟨h0,by simp,(Tm hp).symm⟩ (by rintro i acc τ d ⟨_,_,e⟩;rw[e];exact hk _) ?_ ?_;rintro i y acc c d W hy ⟨w,rfl,rfl⟩ hW;rw[L_]at hy;obtain⟨x,hx,rfl⟩:=H_.mp hy;have hi:i<as.length:=(D_.mp hx).1;have r:as.take (i+1)=as.take i++[x]:=by rw[aG,hx];rfl
 refine step i x c _ (λa v m=>m p=some (.lst<|((as.take i).filter b).map f)/\(((as.take i).filter b).map f).length<sizeLine/\W ((((as.take i).filter b).map f)++[v]) a (Ao m p<|.lst<|(((as.take i).filter b).map f)++[v])) (λa h=>W (((as.take i).filter b).map f) a h) hx w (λhb a q=>⟨Ac,?_,hW _ _ _ ⟨q,?_,Bk⟩⟩) λhb a q=>hW _ _ _ ⟨q,?_,rfl⟩;rw[B_];have h1:=cB b<|as.take i;rw[bD]at h1;omega;rw[r,gE,M_,gO,T_ hb];rfl;rw[r,gE,M_,gO,O_<|by rw[hb];exact V_];simp;rintro acc c d ⟨_,rfl,rfl⟩;rw[B_,aB];exact done
def cmap{j:Type}{p:lB}{g:AG}{te:AE}{k:M->Prop}{R:M->Prop}{τ:ASt}{c:M}(as:oA j)(h f:j->AV)(d:ASt->Prop)(h0:d τ)(hp:c p=some (.lst []))(hn:as.length<=sizeLine)(hk:∀acc,k<|Ao c p<|.lst acc)
  (step:∀(i:Nat) (x:j) (b:ASt) (acc:oA AV) (W:ASt->AV->M->Prop),as[i]?=some x->d b->(∀ a,d a->W a (f x) (Ao c p<|.lst acc))->g (h x) b (Ao c p<|.lst acc) λa e=>te a e<|W a)
  (done:R<|Ao c p<|.lst<|as.map f):cl p g HQ te k R (as.map h) [] τ c:=by
 refine cmapf as h (λ_=>true) f d h0 hp hn hk (λi x b acc W m hx l h1 _=>?_) (by rw[List.filter_eq_self.mpr λ_ _=>rfl];exact done);have:=step i x b acc W hx l<|h1 rfl;simp only[HQ,Vy];exact this
def We{b:Type}{g:b->Bool}{as:oA b}{a:M}{p:lB}{R:AV->M->Prop}(h:a p=some (.lst<|as.map λx=>.D<|.bool<|g x))(q:R (.D<|.bool<|as.all g) a):HL [.R p] a R:=by refine Ab h<|Ab (Nr g as) ?_;rw[List.all_map];exact q
def rk:lA->Nat
 |.none=>0|.bool _=>1|.int _=>2|.str _=>3|.list _=>4|.tuple _=>5|.dict _=>6
def NT(a b:Str):Bool:=decide (a.cps.toList<b.cps.toList)
mutual
def Zr:lA->lA->Bool
 |.int a,.int b=>decide (a<b)
 |.str a,.str b=>NT a b
 |.tuple c,.tuple d=>Ke c d
 |x,y=>decide (rk x<rk y)
def Ke:oA lA->oA lA->Bool
 |[],[]=>false
 |[],_::_=>true
 |_::_,[]=>false
 |x::a,y::b=>if PyData.eqv x y then Ke a b else Zr x y
end
mutual
theorem Wg:∀(x y:lA),Cano x=true->Cano y=true->PyData.eqv x y=true->x=y
 |.int a,.int b,_,_,h=>by simp[PyData.eqv]at h;rw[h]
 |.str a,.str b,_,_,h=>by simp[PyData.eqv]at h;rw[h]
 |.tuple c,.tuple d,h1,h2,h=>by simp only[Cano]at h1 h2;rw[PyData.eqv]at h;rw[Rk c d h1 h2 h]
 |.int _,.str _,_,_,h=>by simp[PyData.eqv]at h
 |.int _,.tuple _,_,_,h=>by simp[PyData.eqv]at h
 |.str _,.int _,_,_,h=>by simp[PyData.eqv]at h
 |.str _,.tuple _,_,_,h=>by simp[PyData.eqv]at h
 |.tuple _,.int _,_,_,h=>by simp[PyData.eqv]at h
 |.tuple _,.str _,_,_,h=>by simp[PyData.eqv]at h
 |.none,_,h,_,_=>by simp[Cano]at h
 |.bool _,_,h,_,_=>by simp[Cano]at h
 |.list _,_,h,_,_=>by simp[Cano]at h
 |.dict _,_,h,_,_=>by simp[Cano]at h
 |.int _,.none,_,h,_=>by simp[Cano]at h
 |.int _,.bool _,_,h,_=>by simp[Cano]at h
 |.int _,.list _,_,h,_=>by simp[Cano]at h
 |.int _,.dict _,_,h,_=>by simp[Cano]at h
 |.str _,.none,_,h,_=>by simp[Cano]at h
 |.str _,.bool _,_,h,_=>by simp[Cano]at h
 |.str _,.list _,_,h,_=>by simp[Cano]at h
 |.str _,.dict _,_,h,_=>by simp[Cano]at h
 |.tuple _,.none,_,h,_=>by simp[Cano]at h
 |.tuple _,.bool _,_,h,_=>by simp[Cano]at h
 |.tuple _,.list _,_,h,_=>by simp[Cano]at h
 |.tuple _,.dict _,_,h,_=>by simp[Cano]at h
theorem Rk:∀(xs ys:oA lA),Bg xs=true->Bg ys=true->PyData.eqvAll xs ys=true->xs=ys
 |[],[],_,_,_=>rfl
 |[],_::_,_,_,h=>by simp[PyData.eqvAll]at h
 |_::_,[],_,_,h=>by simp[PyData.eqvAll]at h
 |x::xs,y::ys,h1,h2,h=>by simp only[Bg,Bool.and_eq_true]at h1 h2;rw[PyData.eqvAll,aV]at h;rw[Wg x y h1.1 h2.1 h.1,Rk xs ys h1.2 h2.2 h.2]
end
mutual
theorem Fr:∀(x:lA),Cano x=true->PyData.eqv x x=true
 |.int a,_=>by simp[PyData.eqv]
 |.str a,_=>by simp[PyData.eqv]
 |.tuple b,h=>by rw[PyData.eqv];exact La b (by simpa only[Cano] using h)
 |.none,h=>by simp[Cano]at h
 |.bool _,h=>by simp[Cano]at h
 |.list _,h=>by simp[Cano]at h
 |.dict _,h=>by simp[Cano]at h
theorem La:∀(xs:oA lA),Bg xs=true->PyData.eqvAll xs xs=true
 |[],_=>rfl
 |x::xs,h=>by simp only[Bg,Bool.and_eq_true]at h;rw[PyData.eqvAll,Fr x h.1,La xs h.2];rfl
end
def HW{x y:lA}(hx:Cano x=true)(hy:Cano y=true):PyData.eqv x y=false↔x≠y:=by
 constructor;rintro h rfl;rw[Fr x hx]at h;cases h
 ·intro h;cases e:PyData.eqv x y with
  |false=>rfl
  |true=>exact absurd (Wg x y hx hy e) h
end L2
namespace L2
open PySem PySem.W PyProof.Rows
def gallop':Bool->lL->oC lL->Nat->Nat->Nat->StateT lP Sem (oB Nat):=sortPriv% PySem.Builtin.gallop
def setMinGallop':Nat->StateT lP Sem Unit:=sortPriv% PySem.Builtin.setMinGallop
def Py(left:Bool)(b:lL)(arr:oC lL)(base n a:Nat):gallop' left b arr base n a=(do
 let d (i:Nat):StateT lP Sem (oB Bool):=do
  let x <- elem' arr (base+i)
  if left then lt' x b else return (<- lt' b x).map (!·)
 let mut lastofs:=0
 let mut ofs:=1
 let mut lo:=0
 let mut hi:=0
 let some right <- d a|return none
 if right then
  let c:=n-a
  for _ in [0:n] do
   if ofs>=c then break
   let some more <- d (a+ofs)|return none
   if !more then break
   lastofs:=ofs
   ofs:=2*ofs+1
  lo:=a+lastofs+1
  hi:=a+min ofs c
 else
  let c:=a+1
  for _ in [0:n] do
   if ofs>=c then break
   let some found <- d (a-ofs)|return none
   if found then break
   lastofs:=ofs
   ofs:=2*ofs+1
  lo:=a+1-min ofs c
  hi:=a-lastofs
 for _ in [0:n] do
  if lo>=hi then break
  let m:=lo+(hi-lo) / 2
  let some more <- d m|return none
  if more then lo:=m+1 else hi:=m
 return some hi):=rfl
section
variable {prog:lD}{w:lE}{A:lG}{E:kZ->k_->Prop}{s:k_}{κ:lQ}{it:oC lL}{n:Nat}{lt:Nat->Nat->Bool}
def byd(left:Bool)(a:lL)(arr:oC lL)(base i:Nat):StateT lP Sem (oB Bool):=do
 let x <- elem' arr (base+i)
 if left then lt' x a else return (<- lt' a x).map (!·)
end
def mergeLo':oC lL->oC lL->StateT lP Sem (oC lL):=sortPriv% PySem.Builtin.mergeLo
def mergeHi':oC lL->oC lL->StateT lP Sem (oC lL):=sortPriv% PySem.Builtin.mergeHi
def C5(g:Nat):setMinGallop' g=modify λst=>SortSt.mk' (kindOf st) (arrOf st) (pendingOf st) g (failedOf st):=rfl
def Nt(a b:oC lL):mergeLo' a b=(do
 rule "list.sort.merge-lo"
 let f:=a.size+b.size
 let done (out:oC lL) (c d:Nat):=out++a.extract c a.size++b.extract d b.size
 let e (out:oC lL) (c d:Nat):=out++b.extract d b.size++a.extract c a.size
 let mut out:oC lL:=#[<- elem' b 0]
 let mut c:=0
 let mut d:=1
 if d==b.size then return done out c d
 if c+1==a.size then return e out c d
 let mut minGallop:=gallopOf (<- get)
 for _ in [0:f] do
  let mut acount:=0
  let mut bcount:=0
  for _ in [0:f] do
   let some bWins <- lt' (<- elem' b d) (<- elem' a c)|return done out c d
   if bWins then
    out:=out.push<|<- elem' b d;d:=d+1;bcount:=bcount+1;acount:=0
    if d==b.size then return done out c d
    if bcount>=minGallop then break
   else
    out:=out.push<|<- elem' a c;c:=c+1;acount:=acount+1;bcount:=0
    if c+1==a.size then return e out c d
    if acount>=minGallop then break
  rule "list.sort.gallop"
  minGallop:=minGallop+1
  for _ in [0:f] do
   if minGallop>1 then minGallop:=minGallop-1
   setMinGallop' minGallop
   let some k <- gallop' false (<- elem' b d) a c (a.size-c) 0|return done out c d
   acount:=k
   if k>0 then
    out:=out++a.extract c (c+k);c:=c+k
    if c+1==a.size then return e out c d
    if c==a.size then return done out c d
   out:=out.push<|<- elem' b d;d:=d+1
   if d==b.size then return done out c d
   let some k <- gallop' true (<- elem' a c) b d (b.size-d) 0|return done out c d
   bcount:=k
   if k>0 then
    out:=out++b.extract d (d+k);d:=d+k
    if d==b.size then return done out c d
   out:=out.push<|<- elem' a c;c:=c+1
   if c+1==a.size then return e out c d
   if acount<7&&bcount<7 then break
  minGallop:=minGallop+1
  setMinGallop' minGallop
 unsupported "internal:list.sort.merge-bound"):=rfl
section
variable {prog:lD}{w:lE}{A:lG}{E:kZ->k_->Prop}{s:k_}{κ:lQ}{it:oC lL}{n:Nat}{lt:Nat->Nat->Bool}
abbrev XB(p:oC Nat)(i:Nat):Nat:=p.getD i 0
def In(n:Nat)(p:oC Nat):Prop:=∀i,i<p.size->XB p i<n
structure MI(lt:Nat->Nat->Bool)(a b out:oC Nat)(ia ib:Nat):Prop where
 ha:ia<=a.size
 hb:ib<=b.size
 sz:out.size=ia+ib
 perm:out.toList.Perm (a.toList.take ia++b.toList.take ib)
 srt:out.toList.Pairwise λx y=>lt y x=false
 lea:∀x∈out.toList,∀j,ia<=j->j<a.size->lt (XB a j) x=false
 leb:∀x∈out.toList,∀j,ib<=j->j<b.size->lt (XB b j) x=false
abbrev NU:=oB (oC lL)×oC lL×Nat×Nat×Nat×Nat×Nat
abbrev Da(st:lP)(g:Nat):lP:=SortSt.mk' (kindOf st) (arrOf st) (pendingOf st) g<|failedOf st
def BN(a b c:oC lL)(d g h e f:Nat):StateT lP Sem (ForInStep NU) :=
 elem' a d>>=λy=>
  if(d+1+1==a.size)=true then pure (ForInStep.done (some<|c.push y++b.extract g b.size++a.extract (d+1) a.size,c.push y,d+1,g,h,e,f))
  else if(decide (e<7)&&decide (f<7))=true then pure (ForInStep.done (none,c.push y,d+1,g,h,e,f))
  else pure<|ForInStep.yield (none,c.push y,d+1,g,h,e,f)
def BO(a b d:oC lL)(e c g f h:Nat):StateT lP Sem (ForInStep NU) :=
 elem' b c>>=λy=>
  if(c+1==b.size)=true then pure (ForInStep.done (some<|d.push y++a.extract e a.size++b.extract (c+1) b.size,d.push y,e,c+1,g,f,h))
  else elem' a e>>=λz=>gallop' true z b (c+1) (b.size-(c+1)) 0>>=λx=>
   match x with
   |some k=>if k>0 then
     (if(c+1+k==b.size)=true then pure (ForInStep.done (some<|d.push y++b.extract (c+1) (c+1+k)++a.extract e a.size++b.extract (c+1+k) b.size,d.push y++b.extract (c+1) (c+1+k),e,c+1+k,g,f,k))
     else BN a b (d.push y++b.extract (c+1) (c+1+k)) e (c+1+k) g f k)
    else BN a b (d.push y) e (c+1) g f k
   |_=>pure<|ForInStep.done (some<|d.push y++a.extract e a.size++b.extract (c+1) b.size,d.push y,e,c+1,g,f,h)
def HX(a b d:oC lL)(c e f h g:Nat):StateT lP Sem (ForInStep NU) :=
 setMinGallop' f>>=λ_=>elem' b e>>=λy=>gallop' false y a c (a.size-c) 0>>=λx=>
  match x with
  |some k=>if k>0 then
    (if(c+k+1==a.size)=true then pure (ForInStep.done (some<|d++a.extract c (c+k)++b.extract e b.size++a.extract (c+k) a.size,d++a.extract c (c+k),c+k,e,f,k,g))
    else if(c+k==a.size)=true then pure (ForInStep.done (some<|d++a.extract c (c+k)++a.extract (c+k) a.size++b.extract e b.size,d++a.extract c (c+k),c+k,e,f,k,g))
    else BO a b (d++a.extract c (c+k)) (c+k) e f k g)
   else BO a b d c e f k g
  |_=>pure<|ForInStep.done (some<|d++a.extract c a.size++b.extract e b.size,d,c,e,f,h,g)
section
variable {a b:oC Nat}{st:lP}{Qd Qy:NU->lP->Prop}{out:oC Nat}{ia ib mg ac bc:Nat}
end
end
def Nu(a b:oC lL):mergeHi' a b=(do
 rule "list.sort.merge-hi"
 let d:=a.size+b.size
 let done (out:oC lL) (na nb:Nat):=a.extract 0 na++b.extract 0 nb++out.reverse
 let c (out:oC lL) (na nb:Nat):=b.extract 0 nb++a.extract 0 na++out.reverse
 let mut na:=a.size-1
 let mut nb:=b.size
 let mut out:oC lL:=#[<- elem' a na]
 if na==0 then return done out na nb
 if nb==1 then return c out na nb
 let mut minGallop:=gallopOf (<- get)
 for _ in [0:d] do
  let mut acount:=0
  let mut bcount:=0
  for _ in [0:d] do
   let some aWins <- lt' (<- elem' b (nb-1)) (<- elem' a (na-1))|return done out na nb
   if aWins then
    na:=na-1;out:=out.push<|<- elem' a na;acount:=acount+1;bcount:=0
    if na==0 then return done out na nb
    if acount>=minGallop then break
   else
    nb:=nb-1;out:=out.push<|<- elem' b nb;bcount:=bcount+1;acount:=0
    if nb==1 then return c out na nb
    if bcount>=minGallop then break
  rule "list.sort.gallop"
  minGallop:=minGallop+1
  for _ in [0:d] do
   if minGallop>1 then minGallop:=minGallop-1
   setMinGallop' minGallop
   let some at_ <- gallop' false (<- elem' b (nb-1)) a 0 na (na-1)|return done out na nb
   let k:=na-at_
   acount:=k
   if k>0 then
    out:=out++(a.extract at_ na).reverse;na:=at_
    if na==0 then return done out na nb
   nb:=nb-1;out:=out.push (<- elem' b nb)
   if nb==1 then return c out na nb
   let some at_ <- gallop' true (<- elem' a (na-1)) b 0 nb (nb-1)|return done out na nb
   let k:=nb-at_
   bcount:=k
   if k>0 then
    out:=out++(b.extract at_ nb).reverse;nb:=at_
    if nb==1 then return c out na nb
    if nb==0 then return done out na nb
   na:=na-1;out:=out.push (<- elem' a na)
   if na==0 then return done out na nb
   if acount<7&&bcount<7 then break
  minGallop:=minGallop+1
  setMinGallop' minGallop
 unsupported "internal:list.sort.merge-bound"):=rfl
section
variable {prog:lD}{w:lE}{A:lG}{E:kZ->k_->Prop}{s:k_}{κ:lQ}{it:oC lL}{n:Nat}{lt:Nat->Nat->Bool}
section
variable {a b out:oC Nat}{na nb:Nat}
end
abbrev NV:=oB (oC lL)×Nat×Nat×oC lL×Nat×Nat×Nat
def BP(a b c:oC lL)(d g h e f:Nat):StateT lP Sem (ForInStep NV) :=
 elem' a (d-1)>>=λy=>
  if(d-1==0)=true then pure (ForInStep.done (some<|a.extract 0 (d-1)++b.extract 0 g++(c.push y).reverse,d-1,g,c.push y,h,e,f))
  else if(decide (e<7)&&decide (f<7))=true then pure (ForInStep.done (none,d-1,g,c.push y,h,e,f))
  else pure<|ForInStep.yield (none,d-1,g,c.push y,h,e,f)
def BQ(a b c:oC lL)(e d g f h:Nat):StateT lP Sem (ForInStep NV) :=
 elem' b (d-1)>>=λy=>
  if(d-1==1)=true then pure (ForInStep.done (some<|b.extract 0 (d-1)++a.extract 0 e++(c.push y).reverse,e,d-1,c.push y,g,f,h))
  else elem' a (e-1)>>=λz=>gallop' true z b 0 (d-1) (d-1-1)>>=λx=>
   match x with
   |some k=>if d-1-k>0 then
     (if(k==1)=true then pure (ForInStep.done (some<|b.extract 0 k++a.extract 0 e++(c.push y++(b.extract k<|d-1).reverse).reverse,e,k,c.push y++(b.extract k<|d-1).reverse,g,f,d-1-k))
     else if(k==0)=true then pure (ForInStep.done (some<|a.extract 0 e++b.extract 0 k++(c.push y++(b.extract k<|d-1).reverse).reverse,e,k,c.push y++(b.extract k<|d-1).reverse,g,f,d-1-k))
     else BP a b (c.push y++(b.extract k<|d-1).reverse) e k g f<|d-1-k)
    else BP a b (c.push y) e (d-1) g f (d-1-k)
   |_=>pure<|ForInStep.done (some<|a.extract 0 e++b.extract 0 (d-1)++(c.push y).reverse,e,d-1,c.push y,g,f,h)
def HY(a b c:oC lL)(d e f h g:Nat):StateT lP Sem (ForInStep NV) :=
 setMinGallop' f>>=λ_=>elem' b (e-1)>>=λy=>gallop' false y a 0 d (d-1)>>=λx=>
  match x with
  |some k=>if d-k>0 then
    (if(k==0)=true then pure (ForInStep.done (some<|a.extract 0 k++b.extract 0 e++(c++(a.extract k d).reverse).reverse,k,e,c++(a.extract k d).reverse,f,d-k,g))
    else BQ a b (c++(a.extract k d).reverse) k e f (d-k) g)
   else BQ a b c d e f (d-k) g
  |_=>pure<|ForInStep.done (some<|a.extract 0 d++b.extract 0 e++c.reverse,d,e,c,f,h,g)
section
variable {a b:oC Nat}{st:lP}{Qd Qy:NV->lP->Prop}{out:oC Nat}{na nb mg ac bc:Nat}
end
end
def Nv(i:Nat):mergeAt' i=(do
 let s <- get
 let(some (d,e,b),some (f,c,_)):=((pendingOf s)[i]?,(pendingOf s)[i+1]?)|unsupported "internal:list.sort.pending"
 set (setPending s<|((pendingOf s).setIfInBounds i (d,e+c,b)).eraseIdxIfInBounds<|i+1)
 let some k <- gallop' false (<- elem' (arrOf s) f) (arrOf s) d e 0|return false
 let(d,e):=(d+k,e-k)
 if e==0 then return true
 let some c <- gallop' true (<- elem' (arrOf s) (d+e-1)) (arrOf s) f c (c-1)|return false
 if c==0 then return true
 let x:=(arrOf s).extract d f
 let y:=(arrOf s).extract f (f+c)
 let merged <- if e<=c then mergeLo' x y else mergeHi' x y
 modify λs=>setArr s (merged.toList.zipIdx.foldl (λa (p,j)=>a.setIfInBounds (d+j) p)<|arrOf s)
 return (failedOf<|<- get).isNone):=rfl
section
variable {prog:lD}{w:lE}{A:lG}{E:kZ->k_->Prop}{s:k_}{κ:lQ}{it:oC lL}{n:Nat}{lt:Nat->Nat->Bool}{p:oC Nat}{pd:oC<|Nat×Nat×Nat}{g:Nat}
def BR{a:Type}{M:Model}{x:a}{Q:PUnit->a->Prop}{st:a}(h:Q ⟨⟩ x):wpS M A E s (set x:StateT a Sem PUnit) Q st:=by unfold wpS;rw[StateT.run_set];exact C_ ⟨rfl,h⟩
def wr{a:Type}(b:Nat):oA a->Nat->oC a->oC a
 |[],_,p=>p
 |x::c,k,p=>wr b c (k+1)<|p.setIfInBounds (b+k) x
theorem Rl{b:Type}(c:Nat):∀(xs:oA b) (k:Nat) (p:oC b),(xs.zipIdx k).foldl (λa (z:b×Nat)=>a.setIfInBounds (c+z.2) z.1) p=wr c xs k p
 |[],_,_=>rfl
 |x::xs,k,p=>by rw[List.zipIdx_cons,fK,wr];exact Rl c xs (k+1) _
theorem Wh{b:Type}(a:Nat):∀(xs:oA b) (k:Nat) (p:oC b),a+k+xs.length<=p.size->∀i:Nat,(wr a xs k p)[i]?=if a+k<=i/\i<a+k+xs.length then xs[i-(a+k)]? else p[i]?
 |[],k,p,_,i=>by rw[wr,O_<|by simp only[List.length_nil];omega]
 |x::xs,k,p,h,i=>by rw[bE]at h;rw[wr,Wh a xs (k+1) _<|by rw[Array.size_setIfInBounds];omega,Array.getElem?_setIfInBounds,bE];by_cases h1:a+k=i;subst h1;rw[O_<|by omega,T_ rfl,T_<|by omega,T_<|by omega,kP];rfl;by_cases h2:a+(k+1)<=i/\i<a+(k+1)+xs.length;rw[T_ h2,T_<|by omega];rw[show i-(a+k)=i-(a+(k+1))+1 by omega,iH];rw[O_ h2,O_ h1,O_<|by omega]
def Wi(lo a n:Nat):StateT lP Sem (oB Nat):=do
 reverseSlice' lo (lo+n)
 let mut n:=n
 for _ in [n:a] do
  let some smaller <- ltAt' (lo+n) (lo+n-1)|return none
  if smaller then break
  n:=n+1
 return some n
def Wj(lo a n:Nat):StateT lP Sem (oB Nat):=do
 rule "list.sort.descending-run"
 let mut n:=n+1
 let mut neq:=0
 for _ in [n:a] do
  let some smaller <- ltAt' (lo+n) (lo+n-1)|return none
  if smaller then
   if neq>0 then reverseSlice' (lo+n-(neq+1)) (lo+n)
   neq:=0
  else
   let some larger <- ltAt' (lo+n-1) (lo+n)|return none
   if larger then break
   neq:=neq+1
  n:=n+1
 if neq>0 then reverseSlice' (lo+n-(neq+1)) (lo+n)
 Wi lo a n
def L8(lo a:Nat):countRun' lo a=(do
 let mut n:=1
 for _ in [1:a] do
  let some smaller <- ltAt' (lo+n) (lo+n-1)|return none
  if smaller then break
  n:=n+1
 if n==a then return some n
 if n>1 then
  let some rose <- ltAt' lo (lo+n-1)|return none
  if rose then return some n
  reverseSlice' lo (lo+n)
 Wj lo a n):=rfl
abbrev rvs(p:oC Nat)(i j:Nat):oC Nat:=mirror p i j<|(j-i) / 2
def Chain:oA (Nat×Nat×Nat)->Nat->Nat->Prop
 |[],lo,hi=>lo=hi
 | (a,l,_)::r,lo,hi=>a=lo/\0<l/\Chain r (lo+l) hi
theorem Chain.le:∀{l:oA<|Nat×Nat×Nat} {lo hi:Nat},Chain l lo hi->lo+l.length<=hi
 |[],_,_,h=>by cases h;simp
 | (a,l,_)::r,lo,hi,h=>by have:=h.2.2.le;have:=h.2.1;rw[bE];omega
theorem Chain.app:∀{l m:oA<|Nat×Nat×Nat} {lo hi:Nat},Chain (l++m) lo hi↔∃k,Chain l lo k/\Chain m k hi
 |[],m,lo,hi=>⟨λh=>⟨lo,rfl,h⟩,λ⟨k,e,h⟩=>by cases e;exact h⟩
 | (a,l,q)::r,m,lo,hi=>by constructor;rintro⟨h1,h2,b⟩;obtain⟨k,d,f⟩:=Chain.app.mp b;exact⟨k,⟨h1,h2,d⟩,f⟩;rintro⟨k,⟨h1,h2,b⟩,c⟩;exact⟨h1,h2,Chain.app.mpr ⟨k,b,c⟩⟩
def Nw{l:oA<|Nat×Nat×Nat}{i:Nat}{a b:Nat×Nat×Nat}(h1:l[i]?=some a)(h2:l[i+1]?=some b):l=l.take i++a::b::l.drop (i+2):=by obtain⟨d,e⟩:=D_.mp h1;obtain⟨f,h⟩:=D_.mp h2;have c:=(List.take_append_drop i l).symm;rw[bC d,bC f,e,h]at c;exact c
def BS{pd:oC<|Nat×Nat×Nat}{i:Nat}{a b c:Nat×Nat×Nat}(h1:pd[i]?=some a)(h2:pd[i+1]?=some b):((pd.setIfInBounds i c).eraseIdxIfInBounds<|i+1).toList=pd.toList.take i++c::pd.toList.drop (i+2):=by
 have f:pd.toList[i]?=some a:=by rw[bP];exact h1
 have d:pd.toList[i+1]?=some b:=by rw[bP];exact h2
 have hi:=(D_.mp f).1;have hj:=(D_.mp d).1;rw[Array.toList_eraseIdxIfInBounds,Array.toList_setIfInBounds,List.eraseIdx_eq_take_drop_succ,List.take_set,List.drop_set_of_lt<|by omega];have e:=Nw f d;have h:(pd.toList.take i).length=i:=by rw[bD];omega
 rw[show i+1+1=i+2 from rfl];have:(pd.toList.take<|i+1).set i c=pd.toList.take i++[c]:=by rw[aG,f,List.set_append_right _ _<|gD h,h,kP];rfl
 rw[this,iV];rfl
theorem Chain.mod{f:Nat×Nat×Nat->Nat×Nat×Nat}(b:∀e,(f e).1=e.1/\(f e).2.1=e.2.1):∀{l:oA<|Nat×Nat×Nat} {i lo hi:Nat},Chain l lo hi->Chain (l.modify i f) lo hi
 |[],i,lo,hi,h=>by rw[List.modify_nil];exact h
 | (a,l,q)::r,0,lo,hi,h=>by rw[List.modify_zero_cons];have:=b (a,l,q);generalize f (a,l,q)=e at this;obtain⟨d,c,j⟩:=e;obtain⟨h1,h2⟩:=this;dsimp only at h1 h2;subst h1;subst h2;exact h
 | (a,l,q)::r,i+1,lo,hi,h=>by rw[List.modify_succ_cons];exact⟨h.1,h.2.1,h.2.2.mod b⟩
end
end L2
namespace L2
open PySem
def Wl(A:lG)(s:k_)(u v:kZ)(b:Bool):Prop:=∀(prog:lD) (w:lE) (E:kZ->k_->Prop) (Q:kZ->k_->Prop),Q (.bool b) s->yL prog w A (richCompare .Lt u v) Q E s
inductive LexAt (A:lG) (s:k_):oA kZ->oA kZ->Bool->Prop
 |nil {ys:oA kZ}:LexAt A s [] ys (decide (0<ys.length))
 |stop {x:kZ} {xs:oA kZ}:LexAt A s (x::xs) [] false
 |eq {x y:kZ} {xs ys:oA kZ} {r:Bool}:SeqAt.EqAt A s x y true->LexAt A s xs ys r->LexAt A s (x::xs) (y::ys) r
 |ne {x y:kZ} {xs ys:oA kZ} {r:Bool}:SeqAt.EqAt A s x y false->Wl A s x y r->LexAt A s (x::xs) (y::ys) r
section
variable {prog:lD}{w:lE}{A:lG}{E:kZ->k_->Prop}{s:k_}
def LexAt.ends{xs ys:oA kZ}{r:Bool}(h:LexAt A s xs ys r)(e:xs.zip ys=[]):r=decide (xs.length<ys.length):=by
 cases h with
 |nil=>simp
 |stop=>simp
 |eq=>simp at e
 |ne=>simp at e
def Kf{a b:lB}{p i:lI}{xs ys:oC kZ}{n k:Nat}{P:PySem.Fin->k_->Prop}{r:Bool}(ha:s.heap.get? a=some p)(hb:s.heap.get? b=some i)(y:i.cls=.type "tuple") (t:p.data=.seq xs n) (x:i.data=.seq ys k)
  (h:LexAt A s xs.toList ys.toList r) (q:P (.done<|.ret<|.bool r) s):yL prog w A (Builtin.«tuple.__lt__» ⟨[.ref a,.ref b],[]⟩) P E s:=by
 have tb:s.TypeIs (.ref b) "tuple" := ⟨i,hb,y⟩;refine(show wpAny _ _ (isInstance (.ref b) (.type "tuple")>>=_) _ _ s from A_<|dW tb isSubtype_tuple_tuple ?_);rw[show(!true)=false from rfl,O_ V_];refine A_<|jT ha t<|A_<|jT hb x<|A_ ?_;refine kJ _ (λleft f o=>f.1=none/\o=s/\∃g d,left=List.zip g d/\LexAt A s g d r/\decide (g.length<d.length)=decide (xs.size<ys.size)) _ ?_ ?_ _ _ ⟨rfl,rfl,xs.toList,ys.toList,rfl,h,by simp⟩
 ·rintro⟨u,v⟩ left f o ⟨j,rfl,g,d,c,m,l⟩;cases m with
  |nil=>simp at c
  |stop=>simp at c
  |eq h1 h2=>simp only[List.zip_cons_cons,List.cons.injEq,Prod.mk.injEq]at c;obtain⟨⟨rfl,rfl⟩,rfl⟩:=c;refine A_<|h1 prog w _ _ ?_;dsimp only;rw[show(!true)=false from rfl,O_ V_];exact C_ ⟨rfl,rfl,_,_,rfl,h2,by simpa using l⟩
  |ne h1 h2=>simp only[List.zip_cons_cons,List.cons.injEq,Prod.mk.injEq]at c;obtain⟨⟨rfl,rfl⟩,rfl⟩:=c;refine A_<|h1 prog w _ _ ?_;simp only[Bool.not_false,if_true];exact A_<|dM<|A_<|h2 prog w _ _<|A_<|C_<|C_<|C_ q
 rintro⟨z,a2⟩ o ⟨j,rfl,g,d,c,m,l⟩;simp only at j;subst j;have e:=m.ends c.symm;rw[e,l]at q;exact C_ q
def Pz{a b:lB}{c d:lI}{xs ys:oC kZ}{n k:Nat}{r:Bool}(ha:s.heap.get? a=some c)(hb:s.heap.get? b=some d)(e:c.cls=.type "tuple") (f:d.cls=.type "tuple") (g:c.data=.seq xs n) (i:d.data=.seq ys k)
  (hu:A.units<cLine) (h:LexAt A.in1 s xs.toList ys.toList r):Wl A s (.ref a) (.ref b) r:=λprog w E Q q=>
 wpAny_richCompare_same_room (T := "tuple") ⟨c,ha,e⟩ ⟨d,hb,f⟩ F.slot_tuple_lt (aO F.slot_tuple_lt ⟨c,ha,e⟩ F.entry_tuple_lt (Kf ha hb f g i h ⟨_,rfl,(λz=>nomatch z),q⟩)<|F.args_tuple_lt_2 _ _) hu
end
mutual
def cmpb:lA->lA->Bool
 |.int _,.int _=>true
 |.tuple b,.tuple a=>cmpbs b a
 |_,_=>false
def cmpbs:oA lA->oA lA->Bool
 |[],_=>true
 |_::_,[]=>true
 |x::a,y::b=>if PyData.eqv x y then cmpbs a b else cmpb x y
end
def P0{u a b c d:Nat}(h:u+min (max a b) (max c d)<cLine):u+min a c<cLine:=fA (gU (Nat.le_min_of_le_of_le (G_ (Nat.min_le_left _ _)<|Nat.le_max_left _ _)<|G_ (Nat.min_le_right _ _)<|Nat.le_max_left _ _) u) h
def HZ{u a b c d:Nat}(h:u+min (max a b) (max c d)<cLine):u+min b d<cLine:=P0 (b:=a) (d:=c) (by rw[Nat.max_comm b a,Nat.max_comm d c];exact h)
mutual
theorem Jg:∀(x y:lA) (A:lG) (s:k_) (u v:kZ) (as g:oA lB),Reads s.heap u x as->Reads s.heap v y g->x.canLay0=true->y.canLay0=true->cmpb x y=true->A.units+min x.depth y.depth<cLine->Wl A s u v (Zr x y)
 |.int a,.int b,A,s,u,v,as,g,d,i,_,_,_,_=>by
  cases d;cases i;intro j w E Q q;have e:Zr (.int a) (.int b)=decide (a<b):=by simp[Zr]
  rw[e]at q;exact wpAny_lt_int q
 |.tuple c,.tuple f,A,s,u,v,as,g,d,i,l,k,hc,hu=>by
  cases d with
  |tuple z a2 n p=>
   cases i with
   |tuple r o t m=>
    have e:Zr (.tuple c) (.tuple f)=Ke c f:=by simp[Zr]
    rw[e];simp only[PyData.canLay0]at l k;simp only[cmpb]at hc;simp only[PyData.depth]at hu;refine Pz z r a2 o n t (by omega)<|Fs c f A.in1 s _ _ _ _ p m l k hc ?_;show A.units+1+_<_;omega
 |.int _,.none,_,_,_,_,_,_,_,_,_,_,h,_=>by simp[cmpb]at h
 |.int _,.bool _,_,_,_,_,_,_,_,_,_,_,h,_=>by simp[cmpb]at h
 |.int _,.str _,_,_,_,_,_,_,_,_,_,_,h,_=>by simp[cmpb]at h
 |.int _,.list _,_,_,_,_,_,_,_,_,_,_,h,_=>by simp[cmpb]at h
 |.int _,.tuple _,_,_,_,_,_,_,_,_,_,_,h,_=>by simp[cmpb]at h
 |.int _,.dict _,_,_,_,_,_,_,_,_,_,_,h,_=>by simp[cmpb]at h
 |.tuple _,.none,_,_,_,_,_,_,_,_,_,_,h,_=>by simp[cmpb]at h
 |.tuple _,.bool _,_,_,_,_,_,_,_,_,_,_,h,_=>by simp[cmpb]at h
 |.tuple _,.str _,_,_,_,_,_,_,_,_,_,_,h,_=>by simp[cmpb]at h
 |.tuple _,.list _,_,_,_,_,_,_,_,_,_,_,h,_=>by simp[cmpb]at h
 |.tuple _,.int _,_,_,_,_,_,_,_,_,_,_,h,_=>by simp[cmpb]at h
 |.tuple _,.dict _,_,_,_,_,_,_,_,_,_,_,h,_=>by simp[cmpb]at h
 |.none,_,_,_,_,_,_,_,_,_,_,_,h,_=>by simp[cmpb]at h
 |.bool _,_,_,_,_,_,_,_,_,_,_,_,h,_=>by simp[cmpb]at h
 |.str _,_,_,_,_,_,_,_,_,_,_,_,h,_=>by simp[cmpb]at h
 |.list _,_,_,_,_,_,_,_,_,_,_,_,h,_=>by simp[cmpb]at h
 |.dict _,_,_,_,_,_,_,_,_,_,_,_,h,_=>by simp[cmpb]at h
theorem Fs:∀(xs ys:oA lA) (A:lG) (s:k_) (us vs:oA kZ) (as d:oA lB),ReadsAll s.heap us xs as->ReadsAll s.heap vs ys d->PyData.canLayAll0 xs=true->PyData.canLayAll0 ys=true->cmpbs xs ys=true->A.units+min (PyData.depthAll xs) (PyData.depthAll ys)<cLine->LexAt A s us vs (Ke xs ys)
 |[],ys,A,s,us,vs,as,d,a,b,_,_,_,_=>by
  cases a;have e:Ke [] ys=decide (0<vs.length):=by cases b<;>simp[Ke]
  rw[e];exact .nil
 |x::xs,[],A,s,us,vs,as,d,a,b,_,_,_,_=>by
  cases b;cases a with
  |cons g a2=>
   have e:Ke (x::xs) []=false:=by simp[Ke]
   rw[e];exact .stop
 |x::xs,y::ys,A,s,us,vs,as,d,a,b,f,c,hc,hu=>by
  simp only[PyData.canLayAll0,Bool.and_eq_true]at f c;simp only[PyData.depthAll]at hu;cases a with
  |cons g a2=>
   cases b with
   |cons h i=>
    have q:=jD x y A s _ _ _ _ g h f.1 c.1<|P0 hu;simp only[cmpbs]at hc;simp only[Ke];cases e:PyData.eqv x y with
    |true=>rw[e]at q hc;exact .eq q (Fs xs ys A s _ _ _ _ a2 i f.2 c.2 hc<|HZ hu)
    |false=>rw[e]at q hc;exact .ne q<|Jg x y A s _ _ _ _ g h f.1 c.1 hc<|P0 hu
end
end L2
namespace L2
open PySem PySem.W PyProof.Rows
section
variable {prog:lD}{w:lE}{A:lG}{E:kZ->k_->Prop}{s:k_}
def BT{c b:Bool}{Q:Bool->k_->Prop}:∀{us vs:oA kZ} {r:Bool},LexAt A s us vs r->c=decide (us.length<vs.length)->∀i,(b&&i==0)=false->Q r s->KatLex prog w A b c Q (us.zip vs) i s:=by
 intro us vs r h
 induction h with
 |nil=>intro e i a q;have d:c=decide (0<_):=e;rw[<- d]at q;exact kat_nil q
 |stop=>
  intro e i a q;have d:c=false:=by rw[e];simp
  rw[<- d]at q;exact kat_nil q
 |eq h1 h2 f=>intro e i a q;exact kat_cons (h1 prog w _ _<|kat_yes<|f (by rw[e];simp) (i+1) (by simp) q)
 |ne h1 h2=>intro e i a q;refine kat_cons<|h1 prog w _ _<|kat_no ?_;rw[a];exact kat_one _ _<|h2 prog w _ _<|show PySem.W.BoolBack Q (.bool _) s from q
def IA{x y:lB}{a b:Int}{c d:oA lA}{as D:oA lB}{Q:Bool->k_->Prop}(C:Reads s.heap (.ref x) (.tuple<|.int a::c) as)(F:Reads s.heap (.ref y) (.tuple<|.int b::d) D)(l:(PyData.tuple<|.int a::c).canLay0=true)(k:(PyData.tuple<|.int b::d).canLay0=true)
  (hc:cmpb (.tuple<|.int a::c) (.tuple<|.int b::d)=true) (hu:A.units+64<cLine) (z:(PyData.tuple<|.int a::c).depth<=64) (q:Q (Zr (.tuple<|.int a::c)<|.tuple<|.int b::d) s):yL prog w A (keyLt' (tuples' true) (.ref x)<|.ref y) Q E s:=by
 cases C with
 |@tuple _ N g n _ _ L a2 p j=>
  cases F with
  |@tuple _ O h m _ _ v M B i=>
   refine kat_lt L p v B ?_;simp only[PyData.canLay0,PyData.canLayAll0,Bool.and_eq_true]at l k;simp only[PyData.depth,PyData.depthAll]at z;simp only[cmpb,cmpbs]at hc;simp only[Zr,Ke]at q;have I:g.size=g.toList.length:=by simp
   have J:h.size=h.toList.length:=by simp
   rw[I,J];generalize g.toList=us at j ⊢;generalize h.toList=vs at i ⊢;cases j with
   |cons G o=>
    cases i with
    |cons u H=>
     cases G with
     |int _ t=>
      cases u with
      |int _ r=>
       rw[List.zip_cons_cons];have f:=jD (.int a) (.int b) A s _ _ _ _ (.int a t) (.int b r) rfl rfl (by simp[PyData.depth];omega);cases e:PyData.eqv (.int a) (.int b) with
       |true=>rw[e]at f hc q;refine kat_cons<|f prog w _ _<|kat_yes ?_;refine BT (Fs c d A s _ _ _ _ o H l.2 k.2 hc<|by omega) (by simp) 1 rfl q
       |false=>rw[e]at f hc q;refine kat_cons<|f prog w _ _<|kat_no ?_;exact kat_lt_int q
end
end L2
namespace L2
open PySem PySem.Spec PyProof.Rows
theorem Gy:∀{ds:oA lA},PyData.canLayAll0 ds=true->∀d∈ds,d.canLay0=true
 |d::ds,h,e,he=>by simp only[PyData.canLayAll0,Bool.and_eq_true]at h;rcases aD.mp he with rfl|he;exact h.1;exact Gy h.2 e he
theorem Lb:∀{ds:oA lA},∀d∈ds,d.depth<=PyData.depthAll ds
 |d::ds,e,he=>by simp only[PyData.depthAll];rcases aD.mp he with rfl|he;omega;have:=Lb (ds:=ds) e he;omega
def Wm{a:Type}{xs:oA a}{i:Nat}{d:a}(h:i<xs.length):xs.getD i d∈xs:=by rw[a_,J_ h];exact eZ h
theorem Hw{h h':lH}(hk:∀b o,h.get? b=some o->h'.get? b=some o):∀{us:oA kZ} {ds:oA lA} {as:oA lB},ReadsAll h us ds as->ReadsAll h' us ds as
 |_,_,_,.nil=>.nil
 |_,_,_,.cons r t=>.cons (PyProof.Rows.Reads.keeps hk r)<|Hw hk t
theorem NW{h:lH}:∀{us:oA kZ} {ds:oA lA} {as:oA lB} {i:Nat},ReadsAll h us ds as->i<ds.length->∃a,Reads h (us.getD i .none) (ds.getD i .none) a
 |_,_,_,0,.cons r _,_=>⟨_,r⟩
 |_,_,_,i+1,.cons _ t,hi=>NW (i:=i) t<|by simpa using hi
theorem Rm{h:lH}:∀{us:oA kZ} {ds:oA lA} {as:oA lB},ReadsAll h us ds as->us.length=ds.length
 |_,_,_,.nil=>rfl
 |_,_,_,.cons _ t=>by simp[Rm t]
theorem Nx{h:lH}:∀{us:oA kZ} {ds:oA lA} {as:oA lB},ReadsAll h us ds as->(∀d∈ds,∃i r,d=.tuple (.int i::r))->∃b:oA kZ,PySem.W.KatTups h us b/\b.length=us.length/\∀v∈b,∃i t,v=.int i t
 |_,_,_,.nil,_=>⟨[],PySem.W.KatTups.nil,rfl,λ_ z=>nomatch z⟩
 |_,_,_,.cons r t,e=>by
  obtain⟨b,k,l,z⟩:=Nx t λd j=>e d<|aJ _ j;obtain⟨i,y,rfl⟩:=e _ aW;cases r with
  |@tuple a o g n s as q a2 f c=>
   cases hv:g.toList with
   |nil=>rw[hv]at c;cases c
   |cons w x=>
    rw[hv]at c;cases c with
    |cons m u=>
     cases m with
     |int _ p=>refine⟨.int i p::b,PySem.W.KatTups.cons q a2 f ?_ k,by simp[l],λv hv'=>?_⟩;rw[<- bP,hv];rfl;rcases aD.mp hv' with rfl|hv';exact⟨_,_,rfl⟩;exact z v hv'
def Ny(t:lB)(i:Int):lI:={cls:=.type "reversed",data:=.fields #[.ref t,rawInt i]}
def Ft(h:lH)(a t:lB)(i:Int):Prop:=∃o,h.get? a=some o/\o.cls=.type "reversed" /\ o.data=.fields #[.ref t,rawInt i]
def Nz:Manifest.owners.lookup (String.ofList ['d','e','s','r','e','v','e','r'].reverse)=some Manifest.sig_reversed:=by kernel_rfl
def Hc:Slot "reversed" "__next__" "reversed.__next__" := .of (owner := "reversed") (n := "__next__") (by rw[eT,dG];kernel_rfl) (by decide +kernel) (by decide +kernel) (by decide +kernel) (.inl<|by decide +kernel)<|by rw[iO];kernel_rfl
def N0:entryFor table "reversed.__next__" = some Builtin.«reversed.__next__»:=entryFor_of_tree<|by kernel_rfl
def Rn(a:kZ):argsOk "reversed.__next__" ⟨[a],[]⟩:=by rw[argsOk,signature?_of (id := "reversed.__next__") (n:=['_','_','t','x','e','n','_','_']) (o:=['d','e','s','r','e','v','e','r']) (by kernel_rfl) Nz];kernel_rfl
def Ro:Slot "reversed" "__iter__" "reversed.__iter__" := .of (owner := "reversed") (n := "__iter__") (by rw[eT,dG];kernel_rfl) (by decide +kernel) (by decide +kernel) (by decide +kernel) (.inl<|by decide +kernel)<|by rw[iO];kernel_rfl
def Wo(a:kZ):argsOk "reversed.__iter__" ⟨[a],[]⟩:=by rw[argsOk,signature?_of (id := "reversed.__iter__") (n:=['_','_','r','e','t','i','_','_']) (o:=['d','e','s','r','e','v','e','r']) (by kernel_rfl) Nz];kernel_rfl
def Tn:entryFor table "reversed.__iter__" = some Builtin.«dict_keyiterator.__iter__»:=entryFor_alias (id' := "dict_keyiterator.__iter__") (by kernel_rfl) (by first|rfl|decide +kernel) (by decide +kernel)<|by kernel_rfl
def BU:typeLookup (.type "tuple") "__reversed__" = pure none:=by rw[eT,dG];kernel_rfl
def To:isSubtype (.type "tuple") (.type "dict")=pure false:=by rw[iO];kernel_rfl
def L9:Slot "reversed" "__init__" "object.__init__" := .of (owner := "object") (n := "__init__") (by rw[eT,dG];kernel_rfl) (by decide +kernel) (by decide +kernel) (by decide +kernel) (.inl<|by decide +kernel)<|by rw[iO];kernel_rfl
def Tp:TypeCalled "reversed" "reversed.__new__" "object.__init__" := ⟨by decide +kernel,F.create_reversed,⟨_,_,F.mro_reversed⟩,F.made_reversed,by decide +kernel,F.sub_reversed_self,L9⟩
section
variable {prog:lD}{w:lE}{A:lG}{E:kZ->k_->Prop}{s:k_}{X:Cx}{tg a:lF}{ta:AE}{pos p:Pos}{o e f:lF}{a8 ao:Pos}{td ty tx te:AE}{p2 cg:Pos}
def Ft.typeIs{b t:lB}{i:Int}(x:Ft s.heap b t i):s.TypeIs (.ref b) "reversed" := by obtain⟨o,c,hc,_⟩:=x;exact⟨o,c,hc⟩
def Ft.at{h h':lH}{b t:lB}{i:Int}(x:Ft h b t i)(e:∀o,h.get? b=some o->h'.get? b=some o):Ft h' b t i:=by obtain⟨o,c,r⟩:=x;exact⟨o,e _ c,r⟩
def Gh{t:lB}{items:oC kZ}{Q:kZ->k_->Prop}(g:IsTup s.heap t items)(k:¬(items.size:Int)>=2^63)
  (h:∀b,Q (.ref s.heap.objs.size) {s with heap:=s.heap.push<|Ny t<|(items.size:Int)-1,toks:=b}):yL prog w A (call (.type "reversed") [.ref t]) Q E s:=by
 have c:s.TypeIs (.ref t) "tuple" := g.typeIs;refine callType_newIn Tp (by decide) (F.typeCall_reversed_1 _) (F.newCall_reversed_1 _) (λj=>by kernel_rfl) F.entry_reversed_new (S:=λi R d=>d=s/\∀b,R (.ok<|.ret<|.ref s.heap.objs.size) {s with heap:=s.heap.push<|Ny t<|(items.size:Int)-1,toks:=b})
  (.of_wp λi R d h1=>?_) ⟨rfl,λb=>⟨⟨_,K_ _ rfl,rfl⟩,h b⟩⟩
 obtain⟨rfl,h1⟩:=h1;rw[Builtin.«reversed.__new__»];refine A_<|eC (newClass_reversed _) ?_;refine A_ (eC (a:=()) (by first|rfl|kernel_rfl)<|A_<|eC (a:=()) (by first|rfl|kernel_rfl) ?_);refine A_<|dI c BU<|A_ ?_;refine(show wpAny _ _ (isInstance (.ref t) (.type "dict")>>=_) _ _ d from A_<|dW c To ?_);rw[O_ V_];refine A_<|dI c F.slot_tuple_getitem.lookup ?_;dsimp only;rw[T_<|by decide];refine C_ ?_;rw[show(!true)=false from rfl,O_ V_];refine A_ (PyProof.Rows.len_tuple g (by omega)<|A_<|eC (a:=some (items.size:Int)) rfl ?_);refine(show wpAny _ _ (newObj (.type "reversed") (.fields #[.ref t,rawInt<|(items.size:Int)-1])>>=_) _ _ _ from A_<|aC<|C_ ⟨_,rfl,h1 _⟩)
def N1{b t:lB}{i:Nat}{items:oC kZ}{x:kZ}{Q:oB kZ->k_->Prop}(g:Ft s.heap b t (i:Int))(j:IsTup s.heap t items)(hx:items[i]?=some x)(q:t≠b)(hi:(i:Int)<2^63)
  (n:∀h l,Ft h b t ((i:Int)-1)->Heap.SameBut b s.heap h->Q (some x) {s with heap:=h,toks:=l}):yL prog w A (pyNext<|.ref b) Q E s:=by
 obtain⟨o,d,hc,c⟩:=id g;have k:s.TypeIs (.ref t) "tuple" := j.typeIs;unfold pyNext;refine A_<|dQ<|aU (name:=Str.ofString "__next__") g.typeIs Hc<|aO Hc g.typeIs N0 ?_<|Rn _;rw[Builtin.«reversed.__next__»];refine A_<|eC (a:=(Value.ref b,[])) rfl<|A_<|bQ d c (x:=.ref t) rfl<|A_<|bQ d c (x:=rawInt (i:Int)) rfl ?_;refine(show wpAny _ _ (if(i:Int)<0 then _ else _) _ _ s from ?_);rw[O_<|by omega];refine A_<|dI k F.slot_tuple_getitem.lookup ?_;have hk:seqIndex? (i:Int) items.size=some i:=by
  have m:i<items.size:=by rcases fN i items.size with z|z;exact z;rw[gF z]at hx;cases hx
  have h0:¬((i:Int)<0):=by omega
  unfold seqIndex?;simp[m,h0]
 refine(show wpAny _ _ (mkInt (i:Int)>>=_) _ _ s from A_<|wpAny_mkInt<|A_<|dQ<|PyProof.Rows.getItem_tuple j (by omega) hi hk hx ?_);refine A_<|bQ d c (x:=rawInt (i:Int)) rfl ?_;refine(show wpAny _ _ (setField (.ref b) 1 (rawInt<|(i:Int)-1)>>=_) _ _ _ from A_<|dZ d c (by simp)<|C_ ⟨x,rfl,C_<|n _ _ ?_<|aL ..⟩);exact⟨_,aP _ d<|fE<|cY c _,(iQ ..).trans hc,by rw[cY c];simp⟩
def P9{c t:lB}{Q:oB kZ->k_->Prop}(k:A.handled=none)(h:Ft s.heap c t<|-1)
  (l:∀j,Heap.ExtBut c s.heap j->Q none {s with heap:=j}):yL prog w A (pyNext<|.ref c) Q E s:=by
 obtain⟨o,g,hc,d⟩:=id h;unfold pyNext;refine A_<|dQ<|aU (name:=Str.ofString "__next__") h.typeIs Hc<|aO Hc h.typeIs N0 ?_<|Rn _;rw[Builtin.«reversed.__next__»];refine A_<|eC (a:=(Value.ref c,[])) rfl<|A_<|bQ g d (x:=.ref t) rfl<|A_<|bQ g d (x:=rawInt<|-1) rfl ?_;refine(show wpAny _ _ (if(-1:Int)<0 then _ else _) _ _ s from ?_);rw[T_<|by decide];refine A_<|dM<|A_ ?_;have h1:(s.heap.update c<|Obj.mapFields λi=>i.set! 1<|rawInt<|-1).get? c=some (o.mapFields λi=>i.set! 1<|rawInt<|-1):=aP _ g<|fE<|cY d _;refine(show wpAny _ _ (setField (.ref c) 1 (rawInt<|-1)>>=λ_=>setField (.ref c) 0 .none) _ _ s from A_<|dZ g d (by simp)<|dZ h1 (cY d _) (by simp) ?_);refine A_<|show wpAny _ _ (newExc (.type "StopIteration") []>>=_) _ _ _ from A_ ?_;simp only[newExc,newTuple];refine A_ (aC (A_ (m:=firstArgMember _ _)<|eC (a:=Value.none) (by first|rfl|(simp only[firstArgMember];rfl))<|aC ?_<|by size_fits)<|by size_fits);simp only[raiseNew];refine A_<|jJ<|show wpAny _ _ _ _ _ _ from ?_;rw[show A.in1.handled=none from k];refine A_<|C_<|jW<|show wpAny _ _ _ _ _ _ from ?_;refine A_<|dW (T := "StopIteration") (b:=true) ⟨_,K_ _ rfl,rfl⟩ iW<|C_<|l _ ?_;exact λb n hb e=>DD _<|DD _<|((aL _ c _).2 b hb).trans<|((aL s.heap c _).2 b hb).trans e
def Wp{b t:lB}{i:Int}{Q:kZ->k_->Prop}(c:Ft s.heap b t i)(h:Q (.ref b) s):yL prog w A (pyIter<|.ref b) Q E s :=
 fO c.typeIs Ro (aO Ro c.typeIs Tn (C_ ⟨_,rfl,"reversed",_,c.typeIs,Hc.lookup,h⟩)<|Wo _)
def Irv(K:lC)(a:lB)(n:Nat):It :=
 ⟨λi H=>∃b x,Hn K H a b/\b.length=n/\b.reverse[i]?=some x,λi H x c=>c=H/\∀b,Hn K H a b->b.reverse[i]?=some x,λi H=>∃b,Hn K H a b/\b.length=n/\n<=i⟩
def Ma{b:Type}{xs:oA b}{i:Nat}{x:b}(h:xs.reverse[i]?=some x):i<xs.length/\xs[xs.length-1-i]?=some x:=by
 have hi:i<xs.length:=by have:=(D_.mp h).1;simpa using this
 rw[List.getElem?_reverse hi]at h;exact⟨hi,h⟩
def Wq{P:lD}{w:lE}{K:lC}{tg:lF}(a g:lB)(Y:a≠g)(n:Nat)(hn:(n:Int)<2^63):Turn P w K tg (Irv K a n) [g] g (λi h=>i<=n/\Ft h g a ((n:Int)-1-i)) where
 mem:=by simp
 obj:=λi h st b hb=>by
  have e:b=g:=by simpa using hb
  subst e;obtain⟨_,o,e,c,d⟩:=st;exact⟨o,e,λv z=>by rw[d]at z;cases z⟩
 keep:=λi h l st k=>⟨st.1,st.2.at λo e=>k g (by simp) o e⟩
 item:=by
  intro X G F L hc i T s S H E I m st J;subst G F L;obtain⟨V,x,hq,U,hx⟩:=J;obtain⟨Z,R,p,hz⟩:=I.tuple hq;have ak:=R.length;obtain⟨hi,N⟩:=Ma hx;obtain⟨u,hu,ru⟩:=R.get N;obtain⟨r,y,f2,C,B,O⟩:=m g (by simp);have t:(n:Int)-1-i=((n-1-i:Nat):Int):=by omega
  have j:=st.2;rw[t]at j;refine N1 j (show IsTup s.heap a Z.toArray from p) (x:=u) (by rw[<- U];simpa using hu) Y (by omega) λl M D W=>?_;have I1:Inv X T S H {s with heap:=l,toks:=M}:=I.turned (t':=M) (λb o hb e=>(W.2 b hb).trans e) r y C B O;have e2:((n-1-i:Nat):Int)-1=(n:Int)-1-((i+1:Nat):Int):=by omega
  rw[e2]at D;obtain⟨o,e,c,d⟩:=id D;exact⟨u,rfl,M6 (s:={s with heap:=l,toks:=M}) e c d (by decide) ⟨x,H,I1,ru,⟨rfl,λys hy=>by rw[I.tuple_inj hy hq];exact hx⟩,⟨by omega,D⟩,λb hb=>(m b hb).1⟩⟩
 done:=by
  intro X G F L hc i T s S H E I m st J;subst G F L;obtain⟨V,hq,U,hx⟩:=J;obtain⟨r,y,f2,C,B,O⟩:=m g (by simp);have t:(n:Int)-1-i=-1:=by have:=st.1;omega
  have j:=st.2;rw[t]at j;refine P9 (I.ok.hd hc) j λl eb=>⟨rfl,?_⟩;exact I.turned (t':=s.toks) (λb o hb e=>eb b o hb e) r y C B O
 self:=λA i s Q E st q=>Wp st.2 q
def Wr{K:lC}{j:Hp}{a:lB}{xs:oA AV}{n:Nat}{l:M->Prop}(hn:xs.length=n)(h:∀H d,Kp j H->Cn K d H->l d->∃b,Hn K H a b/\A5 K H xs b):ItOk K j (Irv K a n) xs.reverse l:=by
 refine⟨λi H d S c k hi=>?_,λi H d v G x S c k e y=>?_,λH d S c k=>?_⟩;obtain⟨b,q,r⟩:=h H d S c k;have g:=r.length;have B:i<b.reverse.length:=by simp at hi ⊢;omega
 exact⟨b,b.reverse[i],q,by omega,J_ B⟩
 obtain⟨b,q,r⟩:=h H d S c k;obtain⟨rfl,y⟩:=y;have z:=y b q;have g:=r.length;obtain⟨hi,C⟩:=Ma e;obtain⟨u,t,F⟩:=r.get C;obtain⟨D,m⟩:=Ma z;rw[<- g]at m;rw[m]at t;cases t;exact⟨Kp.refl,c,F⟩;obtain⟨b,q,r⟩:=h H d S c k;exact⟨b,q,by rw[<- r.length];exact hn,by rw[fX];omega⟩
def XC(t:AE):AI:=λg d R=>t g d λx b=>match x with
 |.D (.tuple c)=>R (c.map AV.D).reverse (λ_=>True) b
 |_=>False
def Ws(hg:Gl X "reversed") (L:X.mg "reversed" = none) (hl:VE X a ta) (F:starEach [a] X.env=[(false,eval a X.env)]:=by rfl):VI X tg (.Call (.Name "reversed" p) [a] [] pos) (XC ta):=by
 intro Z s U H R I j;refine B4 j λτ C V W hc h hq=>?_;refine bT<|Dx I hg L boot_reversed ?_;refine bG ?_ F rfl;rw[F];refine bA<|thn (hl Z s U H (λv l=>∃i d,Kp H l/\Cn X.K d l/\RelA X.K l (.D<|.tuple i) v/\V (i.map AV.D).reverse (λ_=>True) d) I ⟨τ,C,_,W,hc,h,λx d v l y r n hx=>?_⟩) λu g dq=>bY ?_;split at hx;exact⟨_,d,y,r,n,hx⟩;exact hx.elim;obtain⟨xv,l,t,r1,i,d,y,r,n,hx⟩:=dq;have hi:items d (.D<|.tuple i)=some (i.map AV.D):=rfl;obtain⟨q,vs,rfl,hp,T⟩:=Cc r n hi;cases r1;rcases hp with⟨z,_⟩|⟨_,hp⟩;exact absurd z (by simp[ED]);obtain⟨k,O,G,hz⟩:=t.tuple hp;have Q:=O.length;have N:(k.length:Int)<2^63:=by
  have:sizeLine<2^62:=by decide
  omega
 refine Gh (show IsTup g.heap q k.toArray from G) (by rw[R_];omega) λtk=>?_;have P:q<g.heap.objs.size:=by obtain⟨_,M,_⟩:=G;exact N_ M
 have m:∀b o,g.heap.get? b=some o->(g.heap.push<|Ny q<|(k.toArray.size:Int)-1).get? b=some o:=λb o e=>DD _ e;have J:Ft (g.heap.push<|Ny q<|(k.toArray.size:Int)-1) g.heap.objs.size q ((k.length:Int)-1-(0:Nat)):=⟨_,K_ _ rfl,rfl,by simp[Ny]⟩;refine Wp J ?_;refine⟨g.heap.objs.size,[g.heap.objs.size],_,_,l,rfl,t.kept (t':=tk) m,Wq q _ (Z_ P) k.length N,⟨aN _,J⟩,λb hb=>?_,hq _ _ _ _ _ y r (Wr ?_ λH C S c _=>?_) hx⟩;have e:b=g.heap.objs.size:=by simpa using hb
 subst e;exact t.fpOk (F_ _)<|t.hok.fresh<|F_ _;rw[<- Q,<- T.length];obtain⟨q2,Y,e,B,rw⟩:=Cc c (n.kp S)<|show items C (.D<|.tuple i)=some (i.map AV.D) from rfl;cases e;rcases B with⟨z,_⟩|⟨_,B⟩;exact absurd z (by simp[ED]);exact⟨Y,B,rw⟩
def IB:MO->Prop
 |.dk _=>True
 |.dt _=>True
 |_=>False
def Wu(td ty tx:AE):AE:=λg i R=>td g i λx b=>match x with
 |.R a=>(∃m,b a=some m/\IB m)/\ty g b λy h=>tx g h λz c=>match y with
  |.D d=>opt (c a) λm=>opt (dget m d) λr=>R (r.getD z) c
  |_=>False
 |_=>False
def Wv{K:lC}{g:M}{H:Hp}{a:lB}{m:MO}(hc:Cn K g H)(e:g a=some m)(h:IB m):UD H a:=by
 obtain⟨j,d,i⟩:=hc a m e;cases m with
 |dk b=>obtain⟨c,rfl,_⟩:=i;exact .inl ⟨c,.inl d⟩
 |dt b=>obtain⟨c,rfl,_⟩:=i;exact .inr ⟨c,.inl d⟩
 |lst k=>exact h.elim
 |dd b=>exact h.elim
 |tb l=>exact h.elim
def Hd(hu:X.A.units+1<cLine)(F:VE X o td)(he:VE X e ty)(T:VE X f tx)(m:M2 X o "get" a8 e f ao:=by exact⟨rfl,rfl,rfl,rfl⟩):VE X (.Call (.Attribute o "get" a8) [e,f] [] ao) (Wu td ty tx):=(Vo hu F he T m).imp λZ H Q b=>B4 b λk S R j hc h hq=>
 ⟨k,S,_,j,hc,h,λx d v H1 i C P hx=>by
  split at hx
  ·rename_i a;obtain⟨⟨Y,l,M⟩,hx⟩:=hx;cases P;refine⟨a,rfl,Wv C l M,k,d,_,j.kp i,C,hx,λy q u V B L O hy=>⟨k,q,_,(j.kp i).kp B,L,hy,λz G U W t D J hz=>?_⟩⟩;split at hz
   ·obtain⟨m,N,hz⟩:=A4 hz;obtain⟨r,I,hz⟩:=A4 hz;obtain⟨n,g,c⟩:=Im D N (Dk.kp t _ _ O) I;refine⟨n,g,hq _ _ _ _ ((i.trans B).trans t) D ?_ hz⟩;cases r with
    |none=>
     cases n with
     |none=>exact J
     |some _=>exact c.elim
    |some _=>
     cases n with
     |none=>exact c.elim
     |some _=>exact c
   exact hz.elim
  exact hx.elim⟩
def NX(te:AE):AE:=λg c R=>te g c λx b=>match x with
 |.R a=>opt (b a) λm=>match m with
  |.lst d=>∀l,b l=none->R (.R l) (Ao b l<|.lst d.reverse)
  |_=>False
 |_=>False
def Rp(hc:X.calm=true)(C:Gl X "list") (i:X.mg "list" = none) (r:Gl X "reversed") (q:X.mg "reversed" = none) (he:VE X e te)
  (c:starEach [.Call (.Name "reversed" p2) [e] [] cg] X.env=[(false,eval (.Call (.Name "reversed" p2) [e] [] cg) X.env)]:=by rfl) (F:starEach [e] X.env=[(false,eval e X.env)]:=by rfl) :
  VE X (.Call (.Name "list" p) [.Call (.Name "reversed" p2) [e] [] cg] [] pos) (NX te):=(BB hc C i r q he c F).imp λI H Q b=>B4 b λB D R c hc h hq=>
 ⟨B,D,_,c,hc,h,λx n v J t g z hx=>by
  split at hx;rename_i a;obtain⟨m,y,hx⟩:=A4 hx;split at hx;obtain⟨G,j,u,rfl,k⟩:=g _ _ y;cases z;exact⟨a,u,rfl,Ep.of j,λl d=>hq _ _ _ _ (t.trans<|Kp.new d _) (g.new d<|Dh k.rev) Dy<|hx l<|g.none d⟩;exact hx.elim;exact hx.elim⟩
end
end L2
namespace L2
open PySem
section
variable {prog:lD}{w:lE}{Kt:Type} [DecidableEq Kt]{knd:KeyKind prog w Kt}{A:lG}{E:kZ->k_->Prop}{s:k_}{a:lB}{led:Bool}
end
section
variable {prog:lD}{w:lE}{Kt:Type} [DecidableEq Kt]{knd:KeyKind prog w Kt}{A:lG}{R:lO->k_->Prop}{sa it t:lB}{led:Bool}
end
section
variable {prog:lD}{w:lE}{Kt:Type} [DecidableEq Kt]{knd:KeyKind prog w Kt}{A:lG}{E:kZ->k_->Prop}{s:k_}{sa t:lB}{led:Bool}
end
end L2
namespace L2
open PySem PySem.Spec PyProof.Rows PySem.W
section
variable {prog:lD}{w:lE}{A:lG}{E:kZ->k_->Prop}{s:k_}
def IC:kZ->Int
 |.int n _=>n
 |_=>0
end
end L2
namespace L2
open PySem PySem.Spec PyProof.Rows
noncomputable instance decPD:DecidableEq lA:=λa b=>Classical.propDecidable (a=b)
mutual
def Jh:lA->Nat
 |.tuple a=>Df a+1
 |_=>1
def Df:oA lA->Nat
 |[]=>0
 |d::a=>Jh d+Df a
end
theorem Ji(w:lE):∀(a b:oA lA),Dv w (a++b)=Dv w a++Dv w b
 |[],b=>rfl
 |x::a,b=>by simp only[List.cons_append,Dv,Ji w a b]
theorem Ie:∀(a b:oA lA),Df (a++b)=Df a+Df b
 |[],b=>by simp[Df]
 |x::a,b=>by simp only[List.cons_append,Df,Ie a b];exact(Nat.add_assoc _ _ _).symm
section
variable {prog:lD}{w:lE}
def BV:∀(n:Nat) (d:lA) (u:kZ) (as:oA lB) (A:lG) (E:kZ->k_->Prop) (s:k_) (Q:Int->k_->Prop),d.depth<=n->Cano d=true->Reads s.heap u d as->A.units+n<cLine->Q (Kj w d) {s with toks:=s.toks+Jh d} ->
  yL prog w A (pyHash u) Q E s:=by
 intro n
 induction n with
 |zero=>
  intro d u as A E s Q z hc g hu h;cases g with
  |int i t=>exact(Bo prog w).pyHash (Fg _ _ _ _) h
  |str x t=>exact(Bo prog w).pyHash (Fh _ _ _ _) h
  |tuple v a2 l r=>simp[PyData.depth]at z
  |none=>simp[Cano]at hc
  |bool b=>simp[Cano]at hc
  |list v a2 l r=>simp[Cano]at hc
  |dict v a2 l r T=>simp[Cano]at hc
 |succ n S=>
  intro d u as A E s Q z hc g hu h;cases g with
  |int i t=>exact(Bo prog w).pyHash (Fg _ _ _ _) h
  |str x t=>exact(Bo prog w).pyHash (Fh _ _ _ _) h
  |none=>simp[Cano]at hc
  |bool b=>simp[Cano]at hc
  |list v a2 l r=>simp[Cano]at hc
  |dict v a2 l r T=>simp[Cano]at hc
  |@tuple a o items m k as L e B hi=>
   have q:s.TypeIs (.ref a) "tuple" := ⟨o,L,e⟩;have O:PyData.depthAll k<=n:=by simp only[PyData.depth]at z;omega
   have R:Bg k=true:=hc;unfold pyHash
   first|unfold pyHashByItsType|skip
   first|refine A_ (wpAny_cRoomFor_or (.inr<|by omega) ?_)|skip
   refine A_<|dI q F.slot_tuple_hash.lookup<|show wpAny _ _ (if(some (Value.builtin "tuple.__hash__")==some Value.none)=true then _ else _) Q E s from ?_;rw[O_<|by rw[beq_builtin_none];exact V_];refine A_<|dI q F.slot_tuple_hash.lookup<|show wpAny _ _ (callSpecialIfBoundUnlessNone? (.ref a) "__hash__" _>>=_) Q E s from ?_;refine A_<|wpAny_callSpecialIfBoundUnlessNone?_slot q F.slot_tuple_hash<|aO F.slot_tuple_hash q F.entry_tuple_hash (show wpAny _ _ (Builtin.Tuple.tupleItemsOf (.ref a)>>=_) _ _ s from ?_)<|F.args_tuple_hash_1 _;refine A_<|jT L B<|A_ ?_;rw[<- fB];refine kJ _ (λrest (b:oC Int) D=>∃c f H,k=c++f/\ReadsAll s.heap rest f H/\Bg f=true/\PyData.depthAll f<=n/\b.toList=Dv w c/\D={s with toks:=s.toks+Df c}) _ ?_ ?_ _ _ ⟨[],k,as,rfl,hi,R,O,rfl,rfl⟩
   ·rintro x rest b D ⟨c,f,H,rfl,G,e,M,hb,rfl⟩;cases G with
    |@cons _ _ d j J y h1 P=>
     simp only[Bg,Bool.and_eq_true]at e;simp only[PyData.depthAll]at M;refine A_ (S d x J A.in1 _ {s with toks:=s.toks+Df c} _ (by omega) e.1 h1 (by show A.units+1+n<_;omega) ?_);have N:∃C p I,c++d::j=C++p/\ReadsAll s.heap rest p I/\Bg p=true/\PyData.depthAll p<=n/\(b.push<|Kj w d).toList=Dv w C/\({s with toks:=s.toks+Df c+Jh d}:k_)={s with toks:=s.toks+Df C} :=
      ⟨c++[d],j,y,by simp,P,e.2,by omega,by simp[hb,Ji,Dv],by simp[Ie,Df,Nat.add_assoc]⟩
     first
      |exact C_ N
      |exact A_<|C_<|C_ N
   rintro b D ⟨c,f,H,rfl,G,e,M,hb,rfl⟩;cases G;rw[cP]at h;simp only[Kj,Jh]at h;refine(show wpAny _ _ (retInt<|Builtin.Tuple.tupleHashOf b.toList) _ _ _ from ?_);rw[hb];refine wpAny_ret_mkInt<|show wpAny _ _ (if(decide (-(2:Int)^63<=Builtin.Tuple.tupleHashOf (Dv w c))&&decide (Builtin.Tuple.tupleHashOf (Dv w c)<2^63))=true then _ else _) Q E _ from ?_;unfold reduceHash at h;by_cases g:(decide (-(2:Int)^63<=Builtin.Tuple.tupleHashOf (Dv w c))&&decide (Builtin.Tuple.tupleHashOf (Dv w c)<2^63))=true;rw[T_ g]at h ⊢;exact C_ (by simpa [Nat.add_assoc] using h);rw[O_ g]at h ⊢;exact A_<|dM<|C_<|by simpa [Nat.add_assoc] using h
def Ww:∀(n q:Nat) (d:lA) (u:kZ) (as:oA lB) (A:lG) (E:kZ->k_->Prop) (s:k_) (Q:Bool->k_->Prop),d.depth<=n->n<q->Cano d=true->Reads s.heap u d as->Q true s->yL prog w A (eqIsQuiet q u) Q E s:=by
 intro n
 induction n with
 |zero=>
  intro q d u as A E s Q B hq hc c h;cases c with
  |int i t=>rw[iX _ rfl];exact C_ h
  |str x t=>rw[iX _ rfl];exact C_ h
  |tuple l a2 g j=>simp[PyData.depth]at B
  |none=>simp[Cano]at hc
  |bool b=>simp[Cano]at hc
  |list l a2 g j=>simp[Cano]at hc
  |dict l a2 g j S=>simp[Cano]at hc
 |succ n O=>
  intro q d u as A E s Q B hq hc c h;cases c with
  |int i t=>rw[iX _ rfl];exact C_ h
  |str x t=>rw[iX _ rfl];exact C_ h
  |none=>simp[Cano]at hc
  |bool b=>simp[Cano]at hc
  |list l a2 g j=>simp[Cano]at hc
  |dict l a2 g j S=>simp[Cano]at hc
  |@tuple a o items m p as H e D hi=>
   have I:s.TypeIs (.ref a) "tuple" := ⟨o,H,e⟩;have L:PyData.depthAll p<=n:=by simp only[PyData.depth]at B;omega
   have N:Bg p=true:=hc;obtain⟨C,rfl⟩:∃C,q=C+1:=⟨q-1,by omega⟩;unfold eqIsQuiet;refine A_<|dI I F.slot_tuple_eq.lookup<|show wpAny _ _ (isInstance (.ref a) (.type "tuple")>>=_) _ _ s from A_<|dW I isSubtype_tuple_tuple ?_;simp only[Bool.not_true,Bool.false_eq_true,if_false];refine A_<|dP H D<|A_<|show wpAny _ _ (forIn items _ _) _ _ s from ?_;rw[<- fB];refine kJ _ (λrest r k=>r.1=none/\k=s/\∃f J,ReadsAll s.heap rest f J/\Bg f=true/\PyData.depthAll f<=n) _ ?_ ?_ _ _ ⟨rfl,rfl,p,as,hi,N,L⟩
   ·rintro v rest r k ⟨c,rfl,f,J,R,e,P⟩;cases R with
    |@cons _ _ d z G y h1 M=>simp only[Bg,Bool.and_eq_true]at e;simp only[PyData.depthAll]at P;refine A_ (O C d v G A _ k _ (by omega) (by omega) e.1 h1 ?_);simp only[Bool.not_true,Bool.false_eq_true,if_false];exact C_ ⟨rfl,rfl,z,y,M,e.2,by omega⟩
   rintro⟨T,U⟩ k ⟨c,rfl,_⟩;simp only at c;subst c;exact C_ h
mutual
theorem Lc{h:lH}:∀{v:kZ} {d e:lA} {as n:oA lB},Reads h v d as->Reads h v e n->Cano d=true->Cano e=true->d=e
 |_,_,_,_,_,.int i t,r,_,_=>by cases r;rfl
 |_,_,_,_,_,.str x t,r,_,_=>by cases r;rfl
 |_,_,_,_,_,.tuple l a2 j k,r,hc,a=>by
  cases r with
  |tuple c m f g=>rw[l]at c;cases c;rw[j]at f;cases f;rw[He k g hc a]
  |list c m f g=>simp[Cano]at a
  |dict c m f g o=>simp[Cano]at a
 |_,_,_,_,_,.none,_,hc,_=>by simp[Cano]at hc
 |_,_,_,_,_,.bool b,_,hc,_=>by simp[Cano]at hc
 |_,_,_,_,_,.list l a2 j k,_,hc,_=>by simp[Cano]at hc
 |_,_,_,_,_,.dict l a2 j k p,_,hc,_=>by simp[Cano]at hc
theorem He{h:lH}:∀{vs:oA kZ} {ds es:oA lA} {as d:oA lB},ReadsAll h vs ds as->ReadsAll h vs es d->Bg ds=true->Bg es=true->ds=es
 |_,_,_,_,_,.nil,r,_,_=>by cases r;rfl
 |_,_,_,_,_,.cons b e,r,hc,a=>by
  cases r with
  |cons f c=>simp only[Bg,Bool.and_eq_true]at hc a;rw[Lc b f hc.1 a.1,He e c hc.2 a.2]
end
mutual
theorem Ld{h h':lH}{p:lB}(hk:∀b o,b≠p->h.get? b=some o->h'.get? b=some o)(hp:∀o f n,h.get? p=some o->o.data≠.seq f n):∀{v:kZ} {d:lA} {as:oA lB},Reads h v d as->Cano d=true->Reads h' v d as
 |_,_,_,.int i t,_=>.int i t
 |_,_,_,.str x t,_=>.str x t
 |_,_,_,.tuple c a2 a e,hc=>.tuple (hk _ _ (λz=>by subst z;exact hp _ _ _ c a) c) a2 a (Hf hk hp e hc)
 |_,_,_,.none,hc=>by simp[Cano]at hc
 |_,_,_,.bool b,hc=>by simp[Cano]at hc
 |_,_,_,.list c a2 a e,hc=>by simp[Cano]at hc
 |_,_,_,.dict c a2 a e g,hc=>by simp[Cano]at hc
theorem Hf{h h':lH}{p:lB}(hk:∀b o,b≠p->h.get? b=some o->h'.get? b=some o)(hp:∀o vs n,h.get? p=some o->o.data≠.seq vs n):∀{vs:oA kZ} {ds:oA lA} {as:oA lB},ReadsAll h vs ds as->Bg ds=true->ReadsAll h' vs ds as
 |_,_,_,.nil,_=>.nil
 |_,_,_,.cons a c,hc=>by simp only[Bg,Bool.and_eq_true]at hc;exact .cons (Ld hk hp a hc.1)<|Hf hk hp c hc.2
end
def BW{x y:lA}(hx:Cano x=true)(hy:Cano y=true):PyData.eqv x y=decide (x=y):=by by_cases h:x=y;subst h;rw[Fr x hx,aQ rfl];rw[aH h];exact(HW hx hy).mpr h
variable(prog w) in
noncomputable def Fu:HeapKind prog w lA where
 is:=λh d a=>KeyTree d/\∃as,Reads h (.ref a) d as
 hash:=Kj w
 draws:=Jh
 room:=λA=>A.units+6<cLine
 inj:=λ⟨c,_,i⟩ ⟨f,_,g⟩=>Lc i g c.can f.can
 keeps:=λ⟨k,as,r⟩ ho hd hs=>⟨k,as,Ld (λb o hb e=>(hs.2 b hb).trans e) (λm l n e q=>by rw[ho]at e;cases e;rw[hd]at q;cases q) r k.can⟩
 pyHash:=λhu ⟨k,as,r⟩ h=>BV 6 _ _ as _ _ _ _ k.dep k.can r hu h
 eqBool:=λhu ⟨c,as,i⟩ ⟨f,j,g⟩ h=>jD _ _ _ _ _ _ _ _ i g c.lay f.lay (by have:=c.dep;omega) _ _ _ _ (by rw[BW c.can f.can];exact h)
 quiet:=λ⟨k,as,r⟩ h=>Ww 6 8 _ _ as _ _ _ _ k.dep (by decide) k.can r h
end
section
variable {X:Cx}{aa:oA<|lB×lI}{σ:St}{H:Hp}{s:k_}{a:lB}{e:lF}{te:AE}{τ:ASt}{μ:M}{o i value:lF}{pos cq:Pos}{td ty tv:AE}{prog:lD}{w:lE}{A:lG}{E:kZ->k_->Prop}{aw lg:Str}{at' fg:Int}
def VE.run{f:AV->M->Prop}(he:VE X e te)(I:Inv X aa σ H s)(g:D8 X.K H τ σ)(hc:Cn X.K μ H)(h:te τ μ f) :
  yL X.prog X.w X.A (eval e X.env) (λu l=>∃x v b d,Inv X aa σ d l/\Bf v u/\Kp H d/\Cn X.K b d/\RelA X.K d x v/\f x b) X.xe s :=
 aM (he aa s σ H (λv d=>∃x b,Kp H d/\Cn X.K b d/\RelA X.K d x v/\f x b) I ⟨τ,μ,f,g,hc,h,λx b v d S c r q=>⟨x,b,S,c,r,q⟩⟩)
  (λ_ _ z=>by obtain⟨v,d,k,j,x,b,S,c,r,q⟩:=z;exact⟨x,v,b,d,k,j,S,c,r,q⟩) λ_ _ e=>e
def Ed.mem{K:lC}{H:Hp}{kvs:oA<|lA×AV}{xs:oA<|lA×lB×kZ}(h:Ed K H kvs xs):∀x∈xs,KeyTree x.1/\Dk K H x.1 (.ref x.2.1):=by
 unfold Ed at h
 induction h with
 |nil=>exact λ_ h=>nomatch h
 |@cons p q f c r t b=>intro x hx;rcases aD.mp hx with rfl|hx;obtain⟨e,k,d,_⟩:=r;rw[<- e];exact⟨k,d⟩;exact b x hx
def Wx{kvs:oA<|lA×AV}{xs:oA<|lA×lB×kZ}(I:Inv X aa σ H s)(e:H a=some (.dd xs))(r:Ed X.K H kvs xs):(a==sysModules)=false/\xs.length<=sizeLine/\s.heap.DictOfH (Fu X.prog X.w) a xs:=by obtain⟨o,j,l,h1,h2,g,b,f,c,h⟩:=(show Bs X.prog X.w H s.heap a (.dd xs) from I.hok a _ e);refine⟨c,h,o,j,l,h1,h2,g,b,λx hx=>?_,f⟩;obtain⟨k,d⟩:=r.mem x hx;exact⟨k,Dk.reads I _ _ _ d rfl⟩
def Ed.val{K:lC}{H:Hp}{kvs:oA<|lA×AV}{xs:oA<|lA×lB×kZ}(h:Ed K H kvs xs)(d:lA):match Bw kvs d with|some x=>∃p v,atKey xs d=some p/\RelA K H x v/\Bf v p.2|none=>atKey xs d=none:=by
 unfold Ed at h
 induction h with
 |nil=>exact rfl
 |@cons p q u n r t b=>obtain⟨c,l⟩:=p;obtain⟨m,f⟩:=q;obtain⟨e,k,dk,v,j,g⟩:=r;dsimp only at e;subst e;unfold Bw atKey at b ⊢;by_cases hk:c=d;simp only[List.find?_cons,decide_eq_true hk];exact⟨f,v,rfl,j,g⟩;simp only[List.find?_cons,decide_eq_false hk];exact b
def Ed.len{K:lC}{H:Hp}{kvs:oA<|lA×AV}{xs:oA<|lA×lB×kZ}(h:Ed K H kvs xs):kvs.length=xs.length:=bB h
theorem Ed.any{K:lC}{H:Hp}{kvs:oA<|lA×AV}{xs:oA<|lA×lB×kZ}(h:Ed K H kvs xs)(d:lA):(kvs.any λg=>decide (g.1=d))=(atKey xs d).isSome:=by
 unfold Ed at h
 induction h with
 |nil=>rfl
 |@cons p q m l r t c=>obtain⟨b,k⟩:=p;obtain⟨f,j⟩:=q;have e:b=f:=r.1;subst e;rw[dX,c];unfold atKey;by_cases hk:b=d;simp only[List.find?_cons,decide_eq_true hk,Bool.true_or];rfl;simp only[List.find?_cons,decide_eq_false hk,Bool.false_or]
def Ed.put{K:lC}{H:Hp}{kvs:oA<|lA×AV}{xs:oA<|lA×lB×kZ}(h:Ed K H kvs xs){d:lA}{b:lB}{x:AV}{v:V}{u:kZ}(k:KeyTree d)(dk:Dk K H d<|.ref b)(m:RelA K H x v)(l:Bf v u):Ed K H (Dz kvs d x) (storedH xs d b u):=by
 have y:Ed K H (kvs.map λg=>if g.1=d then(g.1,x) else g) (xs.map<|putAt d u):=by
  unfold Ed at h ⊢
  induction h with
  |nil=>exact .nil
  |@cons p q D C r t B=>refine .cons ?_ B;obtain⟨e,n,c,z,f,j⟩:=r;unfold putAt;dsimp only;by_cases hk:p.1=d;rw[T_ hk,T_<|e ▸ hk];exact⟨e,n,c,v,m,l⟩;rw[O_ hk,O_<|e ▸ hk];exact⟨e,n,c,z,f,j⟩
 unfold Dz storedH;rw[h.any d];split;exact y;exact iG h ⟨rfl,k,dk,v,m,l⟩
def EM{K:lC}{H:Hp}{kvs:oA<|lA×AV}{xs:oA<|lA×lB×kZ}(h:Ed K H kvs xs):Hv K H (.dd kvs) (.dd xs):=⟨xs,rfl,h⟩
def N2(xs:oA<|lA×lB×kZ)(d:lA)(b:lB)(u:kZ):(storedH xs d b u).length<=xs.length+1:=by unfold storedH;split;simp;simp
def ID(td ty:AE):AE:=λτ μ R=>td τ μ λx d=>ty τ d λy b=>match x,y with
 |.R a,.D (.tuple f)=>opt (b a) λm=>match m with
  |.dd c=>KeyTree (.tuple f)/\opt (Bw c<|.tuple f) λv=>R v b
  |_=>False
 |_,_=>False
def EN(g:Bool->Bool)(ty td:AE):AE:=λτ μ R=>ty τ μ λy d=>td τ d λx b=>match x,y with
 |.R a,.D (.tuple f)=>opt (b a) λm=>match m with
  |.dd c=>KeyTree (.tuple f)/\R (.D<|.bool<|g (Bw c<|.tuple f).isSome) b
  |_=>False
 |_,_=>False
def IE(td ty tv:AE):AS:=λk _ _ _ τ μ=>tv τ μ λv d=>td τ d λx f=>ty τ f λy c=>match x,y with
 |.R a,.D (.tuple g)=>opt (c a) λm=>match m with
  |.dd b=>KeyTree (.tuple g)/\b.length<sizeLine/\k τ (Ao c a<|.dd<|Dz b (.tuple g) v)
  |_=>False
 |_,_=>False
def IF:AE:=λ_ μ R=>∀p,μ p=none->R (.R p) (Ao μ p<|.dd [])
def Wy(hu:X.A.units+7<cLine)(t:VE X o td)(hi:VE X i ty)(J:AQ i:=by intro _ _;rfl):VE X (.Subscript o i pos) (ID td ty):=by rintro aa s σ H Q I ⟨τ,μ,R,n,hc,h,hq⟩;refine Q8 PySem.F.slot_dict_getitem.lookup J<|aM (t.run I n hc h) (λu s1 dq=>J6 dq λx v C H1 T B k S N h1=>aM (hi.run T (n.kp k) S h1) (λu2 s2 U=>J6 U λy v2 μ2 j d c g l q h2=>?_) λ_ _ e=>e) λ_ _ e=>e;split at h2;rename_i a r;obtain⟨m,L,h2⟩:=A4 h2;split at h2;rename_i O;obtain⟨P,h2⟩:=h2;obtain⟨z,W,h2⟩:=A4 h2;obtain⟨ob,Z,G⟩:=l _ _ L;obtain⟨xs,rfl,rd⟩:=G;have Y:=N.kp g;cases Y;cases B;obtain⟨b,ws,rfl,hb,D⟩:=Dk.tup (K:=X.K) (H:=j) q;cases c;obtain⟨j9,hz,dd⟩:=Wx d Z rd;have hv:=rd.val<|.tuple r;rw[W]at hv;obtain⟨p,vv,hp,V,f⟩:=hv;refine⟨dd.typeIs,wpAny_getItem_heap (knd:=Fu X.prog X.w) (show X.A.units+1+6<cLine by omega) ⟨P,Dk.reads d _ _ _ q rfl⟩ dd hp ?_⟩;exact⟨vv,j,d.tok _,f,hq _ _ _ _ (k.trans g) l V h2⟩;exact h2.elim;exact h2.elim
def Wz{H':Hp}{h':lH}{xs:oA<|lA×lB×kZ}(b:(a==sysModules)=false)(hz:xs.length<=sizeLine)(dd:h'.DictOfH (Fu X.prog X.w) a xs):Bs X.prog X.w H' h' a (.dd xs):=by obtain⟨o,f,g,h1,h2,c,d,_,h⟩:=dd;exact⟨o,f,g,h1,h2,c,d,h,b,hz⟩
def W0(hu:X.A.units+7<cLine)(J:VE X o td)(hi:VE X i ty)(hv:VE X value tv)(U:swapsWith value (some<|.Subscript o i cq) pos.line X.env=pure false:=by rfl):VS X (.Assign [.Subscript o i cq] value pos) (IE td ty tv):=by
 rintro aa s σ H D I ⟨τ,μ,nk,nr,nb,nc,d,hc,h,hq⟩;refine wpAny_Assign_Subscript (aM (hv.run I d hc h) (λu s1 N=>J6 N λz v μ1 H1 I1 Z l c1 O h1=>aM (J.run I1 (d.kp l) c1 h1) (λu2 s2 jq=>J6 jq λx v2 μ2 H2 I2 B k c2 rx h2=>aM (hi.run I2 (d.kp<|l.trans k) c2 h2) (λu3 s3 Q=>J6 Q λy v3 μ3 L r p j G n c=>?_) λ_ _ e=>e) λ_ _ e=>e) λ_ _ e=>e) U;split at c;rename_i a g;obtain⟨m,V,c⟩:=A4 c;split at c;rename_i kvs;obtain⟨C,bw,c⟩:=c;obtain⟨ob,f,T⟩:=G _ _ V;obtain⟨t,rfl,rd⟩:=T;have mj:=rx.kp j;cases mj;cases B;obtain⟨b,ws,rfl,hb,P⟩:=Dk.tup (K:=X.K) (H:=L) n;cases p;obtain⟨Y,hz,dd⟩:=Wx r f rd;refine wpAny_setItem_heap (knd:=Fu X.prog X.w) (hsz:=hz) (show X.A.units+1+6<cLine by omega) ⟨C,Dk.reads r _ _ _ n rfl⟩ dd λR F wg=>?_;have he:∃q,R.get? a=some q:=let⟨q,_,_,hq,_⟩:=F;⟨q,hq⟩
 have W:(storedH t (.tuple g) b u).length<=sizeLine:=by have:=N2 t (.tuple g) b u;have:=rd.len;omega
 have S:=l.trans<|k.trans<|j.trans<|Kp.put (o:=.dd<|storedH t (.tuple g) b u) f trivial;refine⟨σ,_,F6 r (by rw[f];exact True.intro) wg he<|Wz Y W F,hq.nx _ _ _ _ S (d.kp S) (G.put f trivial (EM<|rd.put C n (O.kp<|k.trans j) Z)) c⟩;exact c.elim;exact c.elim
def N3:VE X (.Dict [] [] pos) IF:=by rintro aa s σ H Q I ⟨τ,μ,R,d,hc,h,hq⟩;have b:=I.hok.fresh<|F_ s.heap.objs.size;have c:(s.heap.objs.size==sysModules)=false:=gS.mpr<|bX<|Z_ I.big;refine kG ⟨.ref s.heap.objs.size,_,I.laid (a:=s.heap.objs.size) (o:=.dd []) (t':=s.toks) (λ_ _ q=>DD _ q) (F_ _)<|Wz c (aN _)<|Heap.DictOfH.new s.heap,rfl,?_⟩;exact hq _ _ _ _ (Kp.new b _) (hc.new b<|EM (kvs:=[]) .nil) Dy<|h _<|hc.none b
def Qa(hu:X.A.units+7<cLine)(hi:VE X i ty)(D:VE X o td):PC X .NotIn i o (cE X.K<|EN (λb=>!b) ty td):=by
 rintro aa s σ H Q I ⟨τ,μ,R,t,hc,h,hq⟩;refine aM (hi.run I t hc h) (λu s1 V=>J6 V λy v G H1 W F q U P h1=>aM (D.run W (t.kp q) U h1) (λu2 s2 J=>J6 J λx v2 Z n k j l r S h2=>?_) λ_ _ e=>e) λ_ _ e=>e;split at h2
 ·rename_i a g;obtain⟨m,O,h2⟩:=A4 h2;split at h2
  ·rename_i f;obtain⟨T,h2⟩:=h2;obtain⟨ob,Y,N⟩:=r _ _ O;obtain⟨B,rfl,rd⟩:=N;have d:=RelA.kp l P;cases S;cases j;obtain⟨b,ws,rfl,hb,L⟩:=Dk.tup (K:=X.K) (H:=n) d;cases F;obtain⟨C,hz,dd⟩:=Wx k Y rd;refine wpAny_notIn_heap (knd:=Fu X.prog X.w) (show X.A.units+1+6<cLine by omega) ⟨T,Dk.reads k _ _ _ d rfl⟩ C dd ?_;have hv:=rd.val<|.tuple g;have e:(atKey B<|.tuple g).isSome=(Bw f<|.tuple g).isSome:=by
    cases c:Bw f (.tuple g) with
    |none=>rw[c]at hv;dsimp only at hv;rw[hv];rfl
    |some z=>rw[c]at hv;obtain⟨p,_,hp,_⟩:=hv;rw[hp];rfl
   rw[e];exact⟨.bl _,n,k.tok _,rfl,hq _ _ _ _ (q.trans l) r D5 h2⟩
  exact h2.elim
 exact h2.elim
def Qb(hu:X.A.units+7<cLine)(hi:VE X i ty)(c:VE X o td)(h1:behindInMarks .NotIn o=false:=by rfl):VT X (.Compare i [.NotIn] [o] pos) (Ky<|EN (λb=>!b) ty td):=(Pa (Qa hu hi c) h1).imp λ_ _ _ h=>Ey (λ_ _ _ q=>q) h
def XE{A:lG}{k:Nat}(b:Room k A):A.units+7<cLine:=fA (gU (by decide:7<=64) _) b.units
abbrev ZObj(h:lH)(z TI TO:lB)(f0:kZ)(b1:Bool):Prop :=
 h.get? z=some {cls:=.type "zip",dict:=none,data:=.fields #[f0,.bool b1,.bool false,.ref TI,.ref TO],slots:=#[]}
def Tq{M:Model}{a:lB}{Q:oB lI->k_->Prop}(h:Q (s.heap.get? a) s):wpAny M A (loadIfAlive a) Q E s:=λ_ _ _=>h
def Jj{z TI TO T:lB}{b:Bool}{Q:Bool->k_->Prop}(hz:ZObj s.heap z TI TO (rawInt T) b)(f:∃o,s.heap.get? T=some o)(h:∀d,ZObj d z TI TO (rawInt T) true->Heap.SameBut z s.heap d->Q false {s with heap:=d}) :
  yL prog w A (Builtin.SmallTypes.ownedTupleIsFree<|.ref z) Q E s:=by
 obtain⟨k,c⟩:=f;unfold Builtin.SmallTypes.ownedTupleIsFree;refine A_<|bQ hz rfl (x:=rawInt T) rfl<|show wpAny _ _ (loadIfAlive ((T:Int).toNat)>>=_) _ _ _ from A_<|Tq ?_;rw[dY,c];refine(show wpAny _ _ (field (.ref z) 1>>=_) _ _ _ from A_<|bQ hz rfl (x:=.bool b) rfl ?_);cases b with
 |true=>exact C_ (h s.heap hz<|jX _ _)
 |false=>exact A_<|eF hz (by simp) λh1 j g=>C_<|h h1 j g
def W5{z TI TO b d l k T:lB}{m n:Nat}{I:Bool}{xs ys:oC kZ}{x y:kZ}{Q:kZ->k_->Prop}(D:ZipApart z TI TO b d l k)
  (hz:ZObj s.heap z TI TO (rawInt T) I) (F:∃o,s.heap.get? T=some o) (J:IsPair s.heap TI (.ref b)<|.ref d)
  (h1:s.heap.IsListIter b l m) (h2:s.heap.IsListIter d k n) (L:s.heap.IsList l xs) (G:s.heap.IsList k ys) (hx:xs[m]?=some x) (hy:ys[n]?=some y) (R:∀f,ZObj f z TI TO (rawInt T) true->f.IsListIter b l (m+1)->f.IsListIter d k (n+1)->IsPair f s.heap.objs.size x y ->
   (∀c o,c≠z->c≠b->c≠d->s.heap.get? c=some o->f.get? c=some o)->Q (.ref s.heap.objs.size) {s with heap:=f}) :
  yL prog w A (Builtin.«zip.__next__» ⟨[.ref z],[]⟩) (λP N=>∃v,P=.done (.ret v)/\Q v N) E s:=by
 refine(show wpAny _ _ (field (.ref z) 2>>=_) _ _ _ from A_<|bQ hz rfl (x:=.bool false) rfl<|show wpAny _ _ (field (.ref z) 3>>=_) _ _ _ from A_<|bQ hz rfl (x:=.ref TI) rfl<|A_<|dP J rfl<|show wpAny _ _ (Builtin.SmallTypes.ownedTupleIsFree (.ref z)>>=_) _ _ _ from A_<|Jj hz F λV S g=>?_);simp only[Bool.false_eq_true,if_false];refine A_ ?_;rw[<- fB];simp only[List.forIn_cons,List.forIn_nil];refine A_<|A_<|bS<|show wpAny _ _ (Builtin.SmallTypes.nextOf (.ref b)>>=_) _ _ _ from A_<|wpAny_nextOf_list_item (h1.extBut g.extBut D.i1z) (L.extBut g.extBut D.l1z) hx λU r h=>C_<|C_ ?_;refine A_ (A_<|bS<|show wpAny _ _ (Builtin.SmallTypes.nextOf (.ref d)>>=_) _ _ _ from A_<|wpAny_nextOf_list_item ((h2.extBut g.extBut D.i2z).extBut h.extBut D.i12.symm) ((G.extBut g.extBut D.l2z).extBut h.extBut D.l2i1) hy λB u j=>C_<|C_<|C_<|A_<|jU (C_ ⟨_,rfl,?_⟩) (hsz:=(show 2<=sizeLine by decide)));have C:B.objs.size=s.heap.objs.size:=by rw[j.1,h.1,g.1]
 rw[C];have O:∀c o,c≠z->c≠b->c≠d->s.heap.get? c=some o->B.get? c=some o:=λc o q p t e=>j.extBut _ _ t<|h.extBut _ _ p<|g.extBut _ _ q e;refine R _ (DD _<|j.extBut _ _ D.i2z.symm<|h.extBut _ _ D.i1z.symm S) ((r.extBut j.extBut D.i12).at λo e=>DD _ e) (u.at λo e=>DD _ e) ?_ λc o q p t e=>DD _<|O c o q p t e;rw[<- C];exact K_ _ rfl
def W7{z TI TO b f g u T:lB}{j:Nat}{p:Bool}{xs:oC kZ}{Q:PySem.Fin->k_->Prop}(m:A.handled=none)(D:ZipApart z TI TO b f g u)
  (hz:ZObj s.heap z TI TO (rawInt T) p) (n:∃o,s.heap.get? T=some o) (r:IsPair s.heap TI (.ref b)<|.ref f)
  (h1:s.heap.IsListIter b g j) (t:s.heap.IsList g xs) (hx:xs[j]?=none)
  (y:∀h e,(∀c o,c≠z->c≠b->c≠f->s.heap.get? c=some o->h.get? c=some o)->(∃o,h.get? e=some o/\o.cls=.type "StopIteration")->E (.ref e) {s with heap:=h}) :
  yL prog w A (Builtin.«zip.__next__» ⟨[.ref z],[]⟩) Q E s:=by
 refine(show wpAny _ _ (field (.ref z) 2>>=_) _ _ _ from A_<|bQ hz rfl (x:=.bool false) rfl<|show wpAny _ _ (field (.ref z) 3>>=_) _ _ _ from A_<|bQ hz rfl (x:=.ref TI) rfl<|A_<|dP r rfl<|show wpAny _ _ (Builtin.SmallTypes.ownedTupleIsFree (.ref z)>>=_) _ _ _ from A_<|Jj hz n λG F d=>?_);simp only[Bool.false_eq_true,if_false];refine A_ ?_;rw[<- fB];simp only[List.forIn_cons,List.forIn_nil];refine A_<|A_<|bS<|show wpAny _ _ (Builtin.SmallTypes.nextOf (.ref b)>>=_) _ _ _ from A_<|wpAny_nextOf_list_end m (h1.extBut d.extBut D.i1z) (t.extBut d.extBut D.l1z) hx λk e B he=>?_;exact y k e (λc o l v C q=>B c o v<|d.extBut _ _ l q) he
def IG:typeLookup (.type "zip") "__len__" = pure none:=by rw[eT,dG];kernel_rfl
def BX:typeLookup (.type "zip") "__length_hint__" = pure none:=by rw[eT,dG];kernel_rfl
structure PairsAt(h:lH)(no:oA lB)(base:Nat)(as:oA lB)(ps:oA<|kZ×kZ):Prop where
 rise:as.Pairwise (· < ·)
 new:∀T∈as,base<=T/\T∉no
 at_:Paired (λT p=>IsPair h T p.1 p.2) as ps
def PairsAt.kp{h h':lH}{d:oA lB}{base:Nat}{as:oA lB}{f:oA<|kZ×kZ}(x:PairsAt h d base as f)(hk:∀b o,b∉d->h.get? b=some o->h'.get? b=some o):PairsAt h' d base as f:=by
 obtain⟨a,b,c⟩:=x;refine⟨a,b,?_⟩;clear a
 induction c with
 |nil=>exact .nil
 |@cons T p k j r t g=>exact .cons (hk T _ (b T aW).2 r)<|g λU hU=>b U<|aJ _ hU
def Qc{d c:Type}{F:d->c->Prop}{xs:oA d}{ys:oA c}(h:Paired F xs ys):∀x∈xs,∃y,F x y:=by
 induction h with
 |nil=>exact λ_ h=>nomatch h
 |@cons a b j g r t f=>intro x hx;rcases aD.mp hx with rfl|hx;exact⟨b,r⟩;exact f x hx
def ZSt(h:lH)(z TI TO c d g f:lB)(xs ys:oC kZ)(i:Nat):Prop :=
 IsPair h TI (.ref c) (.ref d)/\h.IsListIter c g i/\h.IsListIter d f i/\h.IsList g xs/\h.IsList f ys/\((ZObj h z TI TO .none false/\∃a b,IsPair h TO a b)\/∃(T:lB) (j:Bool),ZObj h z TI TO (rawInt T) j/\(∃o,h.get? T=some o)/\(∃o,h.get? TO=some o)/\T≠z/\T≠TO/\T≠c/\T≠d)
def W8{z TI TO f g J I:lB}{i:Nat}{xs ys:oC kZ}{x y:kZ}{Q:oB kZ->k_->Prop}(D:ZipApart z TI TO f g J I)(st:ZSt s.heap z TI TO f g J I xs ys i)(hx:xs[i]?=some x)(hy:ys[i]?=some y) (S:∀d T,ZSt d z TI TO f g J I xs ys (i+1)->IsPair d T x y->s.heap.objs.size<=T->(∀c o,c≠z->c≠TO->c≠f->c≠g->s.heap.get? c=some o->d.get? c=some o)->Q (some<|.ref T) {s with heap:=d}) :
  yL prog w A (pyNext<|.ref z) Q E s:=by
 obtain⟨l,a2,t,k,n,a6⟩:=st;have j:∀{c o},s.heap.get? c=some o->s.heap.objs.size≠c:=λe=>dJ<|N_ e;have p:s.heap.objs.size≠f:=by obtain⟨_,e,_⟩:=a2;exact j e
 have G:s.heap.objs.size≠g:=by obtain⟨_,e,_⟩:=t;exact j e
 rcases a6 with⟨hz,a,b,h⟩|⟨T,b1,hz,O,⟨Z,u⟩,R,V,N,L⟩;refine wpAny_pyNext_zip_item D hz l h a2 t k n hx hy λd v W C B m _ hk=>?_;refine S d _ ⟨hk _ _ D.TIz D.TITO D.TIi1 D.TIi2 l,C,B,k.at λo e=>hk _ o D.l1z D.l1TO D.l1i1 D.l1i2 e,n.at λo e=>hk _ o D.l2z D.l2TO D.l2i1 D.l2i2 e,.inr ⟨_,false,v,⟨_,m⟩,⟨_,W⟩,j hz,j h,p,G⟩⟩ m (F_ _) hk;have P:s.TypeIs (.ref z) "zip" := ⟨_,hz,rfl⟩;unfold pyNext;refine A_<|dQ<|aU (name:=Str.ofString "__next__") P F.slot_zip_next<|aO F.slot_zip_next P F.entry_zip_next (W5 D hz O l a2 t k n hx hy λd v C B m hk=>?_)<|F.args_zip_next_1 _;have r:∀c o,c≠z->c≠TO->c≠f->c≠g->s.heap.get? c=some o->d.get? c=some o:=λc o Y _ c3 U e=>hk c o Y c3 U e;obtain⟨oT,q⟩:=O;exact C_<|S d _ ⟨hk _ _ D.TIz D.TIi1 D.TIi2 l,C,B,k.at λo e=>r _ o D.l1z D.l1TO D.l1i1 D.l1i2 e,n.at λo e=>r _ o D.l2z D.l2TO D.l2i1 D.l2i2 e,.inr ⟨T,true,v,⟨oT,hk _ _ R N L q⟩,⟨Z,hk _ _ D.TOz D.TOi1 D.TOi2 u⟩,R,V,N,L⟩⟩ m (F_ _) r
def W9{z TI TO f g q n:lB}{xs ys:oC kZ}{i:Nat}{Q:oB kZ->k_->Prop}(l:A.handled=none)(D:ZipApart z TI TO f g q n)(st:ZSt s.heap z TI TO f g q n xs ys i)(hx:xs[i]?=none)
  (m:∀d,(∀c o,c≠z->c≠TO->c≠f->c≠g->s.heap.get? c=some o->d.get? c=some o)->Q none {s with heap:=d}):yL prog w A (pyNext<|.ref z) Q E s:=by
 obtain⟨p,a2,u,j,G,C⟩:=st;rcases C with⟨hz,a,b,h⟩|⟨T,N,hz,v,⟨P,x⟩,O,I,L,J⟩;exact wpAny_pyNext_zip_end l D hz p h a2 u j G (.inl hx) m;have k:s.TypeIs (.ref z) "zip" := ⟨_,hz,rfl⟩;unfold pyNext;refine A_<|dQ<|aU (name:=Str.ofString "__next__") k F.slot_zip_next<|aO F.slot_zip_next k F.entry_zip_next (W7 l D hz v p a2 j hx λd e hk he=>?_)<|F.args_zip_next_1 _;obtain⟨o,t,hc⟩:=he;refine A_<|dW (T := "StopIteration") (b:=true) ⟨o,t,hc⟩ iW ?_;exact C_<|m _ λc o y _ B r e=>hk c o y B r e
def Xa{R:lO->k_->Prop}{base:Nat}{z TI TO g h l1 W S:lB}{xs ys:oC kZ}{res:kZ}(hh:A.handled=none)(D:ZipApart z TI TO g h l1 W)(r:S∉[z,TI,TO,g,h,l1,W])(hz:xs.size=ys.size)(hn:xs.size<=1000) :
  ∀(m i:Nat) (s:k_) (acc:oC kZ) (c:Nat) (as:oA lB),m+i=xs.size->ZSt s.heap z TI TO g h l1 W xs ys i->s.heap.get? S=some {cls:=.type "list",dict:=none,data:=.seq acc c,slots:=#[]}->acc.toList=as.map Value.ref->PairsAt s.heap [S,z,TO,g,h] base as ((xs.toList.zip ys.toList).take i)->base<=s.heap.objs.size ->
   (∀f u I C,(∀b o,b∉[S,z,TO,g,h]->s.heap.get? b=some o->f.get? b=some o)->f.get? S=some {cls:=.type "list",dict:=none,data:=.seq u I,slots:=#[]}->u.toList=C.map Value.ref->PairsAt f [S,z,TO,g,h] base C (xs.toList.zip ys.toList)->R (.ok<|.ret res) {s with heap:=f}) ->
   codeAny (model prog w) A (.builtin "list.extend.loop" ⟨[.ref S,.ref z,res],[]⟩) R s:=by
 simp only[List.mem_cons,List.not_mem_nil,or_false,not_or]at r;obtain⟨x,n2,B,P,N,n6,n7⟩:=r;intro m
 induction m with
 |zero=>
  intro i s acc c as hm st v G l hB hR;refine eD F.entry_extend_loop ?_;rw[cV F.plain_extend_loop _];refine(show wpAny _ A.in1 (pyNext (.ref z)>>=_) _ _ s from A_<|W9 (show A.in1.handled=none from hh) D st (by rw[gF<|by omega]) λf hk=>?_);have t:∀b o,b∉[S,z,TO,g,h]->s.heap.get? b=some o->f.get? b=some o:=λb o hb e=>by simp only[List.mem_cons,List.not_mem_nil,or_false,not_or]at hb;exact hk b o hb.2.1 hb.2.2.1 hb.2.2.2.1 hb.2.2.2.2 e
  refine C_<|hR f acc c as t (hk S _ x B P N v) G ?_;have:=l.kp t;rwa[cJ<|by simp;omega]at this
 |succ m ih=>
  intro i s acc c as hm st v G l hB hR;have bw:i<xs.size:=by omega
  have hx:xs[i]?=some xs[i]:=bN bw;have gw:i<ys.size:=by omega
  have hy:ys[i]?=some ys[i]:=bN gw;have bt:acc.size=i:=by have h1:=bB l.at_;have h2:=b_ List.length G;simp at h1 h2;omega
  refine eD F.entry_extend_loop ?_;rw[cV F.plain_extend_loop _];refine(show wpAny _ A.in1 (pyNext (.ref z)>>=_) _ _ s from A_<|W8 D st hx hy λf T au hp y hk=>?_);have Y:=hk S _ x B P N v;have d:∀b o,b≠S->f.get? b=some o->(f.update S<|Obj.mapSeq (·.push (Value.ref T))).get? b=some o:=λb o hb e=>(bI _ _<|bX hb).trans e;have kk:∀b o,b∉[S,z,TO,g,h]->s.heap.get? b=some o->(f.update S<|Obj.mapSeq (·.push (Value.ref T))).get? b=some o:=λb o hb e=>by simp only[List.mem_cons,List.not_mem_nil,or_false,not_or]at hb;exact d b o hb.1<|hk b o hb.2.1 hb.2.2.1 hb.2.2.2.1 hb.2.2.2.2 e
  refine(show wpAny _ A.in1 (updateSeq S (·.push (.ref T))>>=_) _ _ _ from A_<|dS Y rfl (C_ ⟨dO F.plain_extend_loop _,ih (i+1) _ (acc.push<|.ref T) _ (as++[T]) (by omega) ?_ (aP _ Y rfl) (by rw[Array.toList_push,G,M_];rfl) ?_ ?_ λh2 u I C t J O Z=>?_⟩) (by rw[bt];exact G_ (by omega)<|show 1000<=sizeLine by decide)<|by show(acc.push _).size<=sizeLine+1;rw[Array.size_push,bt];exact G_ (by omega)<|show 1001<=sizeLine+1 by decide);obtain⟨a1,a2,a3,a4,a5,a6⟩:=au;refine⟨d _ _ (bX n2) a1,a2.at λo e=>d _ o (bX P) e,a3.at λo e=>d _ o (bX N) e,a4.at λo e=>d _ o (bX n6) e,a5.at λo e=>d _ o (bX n7) e,?_⟩;rcases a6 with⟨hz,a,b,n⟩|⟨T,b1,hz,⟨oT,L⟩,⟨oO,k⟩,t1⟩;exact .inl ⟨d _ _ (bX x) hz,a,b,d _ _ (bX B) n⟩;refine .inr ⟨T,b1,d _ _ (bX x) hz,?_,⟨oO,d _ _ (bX B) k⟩,t1⟩;by_cases p:T=S;subst p;exact⟨_,aP _ Y rfl⟩;exact⟨oT,d _ _ p L⟩;have j:∀{c o},s.heap.get? c=some o->T≠c:=λe=>dJ<|S_ (N_ e) y;have t0:T≠S:=j v;have e1:(xs.toList.zip ys.toList).take (i+1)=(xs.toList.zip ys.toList).take i++[(xs[i],ys[i])]:=by
   rw[aG];have:(xs.toList.zip ys.toList)[i]?=some (xs[i],ys[i]):=by rw[J_<|by simp;omega,List.getElem_zip];rfl
   rw[this];rfl
  obtain⟨_,⟨_,b2,_⟩,⟨_,b3,_⟩,_,_,b6⟩:=st;have tz:T≠z/\T≠TO:=by rcases b6 with⟨hz,a,b,n⟩|⟨T,b1,hz,_,⟨oO,k⟩,_⟩;exact⟨j hz,j n⟩;exact⟨j hz,j k⟩
  have Q:=l.kp kk;rw[e1];refine⟨?_,λU hU=>?_,iG Q.at_<|d _ _ t0 hp⟩;rw[List.pairwise_append];refine⟨l.rise,List.pairwise_singleton _ _,λU hU V hV=>?_⟩;rw[I_.mp hV];obtain⟨_,q⟩:=Qc l.at_ U hU;exact S_ (N_ q) y;rcases Q_.mp hU with hU|hU;exact l.new U hU;rw[I_.mp hU];refine⟨G_ hB y,?_⟩;simp only[List.mem_cons,List.not_mem_nil,or_false,not_or];exact⟨t0,tz.1,tz.2,j b2,j b3⟩;have:=N_ hp;rw[eG];exact G_ hB<|G_ y<|cX this;exact hR h2 u I C (λb o hb e=>t b o hb<|kk b o hb e) J O Z
def N4{z TI TO n p G C:lB}{xs ys:oC kZ}{Q:oA kZ->k_->Prop}(hh:A.handled=none)(D:ZipApart z TI TO n p G C)(st:ZSt s.heap z TI TO n p G C xs ys 0)(hz:xs.size=ys.size)(hn:xs.size<=1000)(k:s.TypeIs (.ref z) "zip")
  (h:∀m as,(∀b o,b∉[s.heap.objs.size,z,TO,n,p]->s.heap.get? b=some o->m.get? b=some o)->PairsAt m [s.heap.objs.size,z,TO,n,p] s.heap.objs.size as (xs.toList.zip ys.toList)->Q (as.map Value.ref) {s with heap:=m}) :
  yL prog w A (collect<|.ref z) Q E s:=by
 have f:∀{c o},s.heap.get? c=some o->s.heap.objs.size≠c:=λe=>dJ<|N_ e;unfold collect;refine A_<|wpAny_runValue<|eD F.entry_proto_collect ?_;rw[cV F.plain_proto_collect _];refine(show wpAny _ A.in1 (newList []>>=λl=>again<|.builtin "list.__iadd__" ⟨[l,.ref z],[]⟩) _ _ s from A_<|aC<|C_ ⟨dO F.plain_list_iadd _,eD F.entry_list_iadd ?_⟩);rw[cV F.plain_list_iadd _];obtain⟨a1,a2,J,N,Y,U⟩:=st;have j:s.heap.objs.size≠z:=by obtain⟨o,e,_⟩:=(show ∃o,s.heap.get? z=some o/\_ from k);exact f e
 have u:s.heap.objs.size≠n:=by obtain⟨_,e,_⟩:=a2;exact f e
 have x:s.heap.objs.size≠p:=by obtain⟨_,e,_⟩:=J;exact f e
 have v:s.heap.objs.size≠G:=by obtain⟨_,e,_⟩:=N;exact f e
 have I:s.heap.objs.size≠C:=by obtain⟨_,e,_⟩:=Y;exact f e
 have y:s.heap.objs.size≠TI:=f a1;have t:s.heap.objs.size≠TO:=by rcases U with⟨_,a,b,e⟩|⟨T,O,_,_,⟨Z,e⟩,_⟩;exact f e;exact f e
 generalize W:s.heap.objs.size=S at j u x v I y t h ⊢;generalize P:s.heap.push {cls:=.type "list",data:=.seq ([]:oA kZ).toArray}=h1;have L:∀b o,s.heap.get? b=some o->h1.get? b=some o:=λb o e=>by subst P;exact DD _ e
 have r:h1.get? S=some {cls:=.type "list",data:=.seq ([]:oA kZ).toArray}:=by subst P;subst W;exact K_ _ rfl
 have g:Shared.TypeIs {s with heap:=h1} (.ref z) "zip" := by obtain⟨o,e,c⟩:=(show ∃o,s.heap.get? z=some o/\_ from k);exact⟨o,L z o e,c⟩
 have u9:Builtin.List.listSameRef (.ref S) (.ref z)=false:=by simp[Builtin.List.listSameRef,j]
 refine(show wpAny _ A.in1 (Builtin.List.listExtendWith (.ref S) (.ref z)<|.ref S) _ _ {s with heap:=h1} from ?_);unfold Builtin.List.listExtendWith;refine A_ (iK g<|wpAny_ite_split (λjx=>absurd jx<|by rw[u9];decide) λ_=>A_ ?_);refine fO g F.slot_zip_iter<|aO F.slot_zip_iter g F.entry_zip_iter (show wpAny _ _ (ret<|.ref z) _ _ _ from C_ ⟨_,rfl,"zip",_,g,F.slot_zip_next.lookup,?_⟩)<|F.args_zip_iter_1 _;refine A_<|bS ?_;unfold Builtin.List.listLengthHint;refine A_<|dI g IG<|show wpAny _ A.in1 (specialOf (Value.ref z) (Str.ofString "__length_hint__")>>=_) _ _ _ from A_<|dI g BX<|C_ ?_;refine(show wpAny _ A.in1 (rule "list.extend.makes-room" >>= λ_=>Builtin.List.listTouch (.ref S)>>=λ_=>again<|.builtin "list.extend.loop" ⟨[.ref S,.ref z,.ref S],[]⟩) _ _ _ from A_<|dM<|A_<|show wpAny _ _ (updateSeq S (·.push .none)>>=λ_=>updateSeq S (·.pop)) _ _ _ from A_<|dS r rfl<|dS (aP (Obj.mapSeq (·.push Value.none)) r rfl) rfl ?_);have V:=aP (Obj.mapSeq (·.pop)) (aP (Obj.mapSeq (·.push Value.none)) r rfl) rfl;have R:∀b o,b≠S->h1.get? b=some o->((h1.update S<|Obj.mapSeq (·.push Value.none)).update S<|Obj.mapSeq (·.pop)).get? b=some o:=λb o hb e=>(bI _ _<|bX hb).trans<|(bI _ _<|bX hb).trans e;have z4:S<=((h1.update S<|Obj.mapSeq (·.push Value.none)).update S<|Obj.mapSeq (·.pop)).objs.size:=by rw[eG,eG];exact cX<|N_ r
 generalize ((h1.update S<|Obj.mapSeq (·.push Value.none)).update S<|Obj.mapSeq (·.pop))=h4 at V R z4 ⊢;have d:∀b o,b≠S->s.heap.get? b=some o->h4.get? b=some o:=λb o hb e=>R b o hb<|L b o e;refine C_ ⟨dO F.plain_extend_loop _,Xa (base:=S) hh D ?_ hz hn xs.size 0 {s with heap:=h4} #[] _ [] (by omega) ⟨d _ _ (bX y) a1,a2.at λo e=>d _ o (bX u) e,J.at λo e=>d _ o (bX x) e,N.at λo e=>d _ o (bX v) e,Y.at λo e=>d _ o (bX I) e,?_⟩ V rfl ⟨List.Pairwise.nil,(λ_ h=>nomatch h),.nil⟩ z4 λm be c' lx bu fh eA hP=>?_⟩;simp only[List.mem_cons,List.not_mem_nil,or_false,not_or];exact⟨j,y,t,u,x,v,I⟩;rcases U with⟨B,a,b,q⟩|⟨T,O,B,⟨oT,q⟩,⟨Z,q3⟩,q4⟩;exact .inl ⟨d _ _ (bX j) B,a,b,d _ _ (bX t) q⟩;exact .inr ⟨T,O,d _ _ (bX j) B,⟨oT,d _ _ (λz=>by subst z;exact absurd (N_ q)<|by rw[W];exact cF _) q⟩,⟨Z,d _ _ (bX t) q3⟩,q4⟩;refine A_<|wpAny_load fh<|C_ ?_;rw[eA];refine h m lx (λb o hb e=>bu b o hb<|d b o ?_ e) hP;exact λz=>hb<|by simp[z]
def Tr(z TI TO c d r q:lB)(xs ys:oC kZ)(D:ZipApart z TI TO c d r q)(hz:xs.size=ys.size)(hn:xs.size<=1000) :
  MeetsIn prog w (Builtin.«tuple.__new__» ⟨[.type "tuple",.ref z],[]⟩) (λA R s=>A.handled=none/\ZSt s.heap z TI TO c d r q xs ys 0/\(∃f l,ZObj s.heap z TI TO f l) /\
   ∀(h':lH) (as:oA lB),(∀b o,b∉[s.heap.objs.size,z,TO,c,d]->s.heap.get? b=some o->h'.get? b=some o)->PairsAt h' [s.heap.objs.size,z,TO,c,d] s.heap.objs.size as (xs.toList.zip ys.toList) ->
    R (.ok<|.ret<|.ref h'.objs.size) {s with heap:=h'.push {cls:=.type "tuple",data:=.seq (as.map Value.ref).toArray}}) :=
 .of_wp λA R s h=>by
  obtain⟨hp,g,p,n,os⟩:=s;obtain⟨u,st,⟨f,l,j⟩,h⟩:=h;have y:=sub_tuple_self;have x:=init_tuple_lookup;have B:=madeHere_tuple;have k:Shared.TypeIs ⟨hp,g,p,n,os⟩ (.ref z) "zip" := ⟨_,j,rfl⟩
  wp_walk using hX j,iK k,N4 (A:=A.in1) (s:=⟨hp,g,p,n,os⟩) u D st hz hn k
  intro h' as hk m;have t:(as.map Value.ref).toArray.size<=sizeLine:=by have:=bB m.at_;simp at this ⊢;exact G_ (by omega)<|show 1000<=sizeLine by decide
  refine(show wpAny _ _ (Builtin.Tuple.tupleExact (as.map Value.ref).toArray>>=λv=>ret v) _ _ _ from ?_);unfold Builtin.Tuple.tupleExact;exact A_<|aC (C_ ⟨_,rfl,h h' as hk m⟩) t
theorem Inv.trackP:∀{as:oA lB} {d:oA<|V×V} {us:oA<|kZ×kZ} {H:Hp},Inv X aa σ H s->as.Pairwise (· < ·)->(∀a∈as,Fj X aa H a)->Paired (λT p=>IsPair s.heap T p.1 p.2) as us->Paired (λ(p:V×V) (u:kZ×kZ)=>Bf p.1 u.1/\Bf p.2 u.2) d us ->
  ∃c,Inv X aa σ c s/\(∀b o,H b=some o->c b=some o)/\Paired (λa (p:V×V)=>c a=some (.tup [p.1,p.2])) as d/\∀b,b∉as->c b=H b
 |[],_,_,H,I,_,_,h1,h2=>by cases h1;cases h2;exact⟨H,I,λ_ _ e=>e,.nil,λ_ _=>rfl⟩
 |a::as,_,_,H,I,hp,l,h1,h2=>by
  cases h1 with
  |@cons _ u _ us t v=>
  cases h2 with
  |@cons p _ d _ g n=>
   have f:=l a aW;have x:Inv X aa σ (upd H a<|.tup [p.1,p.2]) s:=I.track f ⟨by show 2<=sizeLine;decide,[u.1,u.2],.cons g.1<|.cons g.2 .nil,_,t,rfl,_,rfl⟩;have j:=(List.pairwise_cons.mp hp).1;obtain⟨c,y,C,r,k⟩:=Inv.trackP x (List.pairwise_cons.mp hp).2 (λb hb=>by
    obtain⟨m,q⟩:=l b<|aJ _ hb;exact⟨by rw[An<|dJ<|j b hb];exact m,q⟩) v n
   have B:a∉as:=λh=>cF _<|j a h;refine⟨c,y,λb o e=>C b o<|by rw[An<|B6 e f.1];exact e,.cons (by rw[k a B];exact A6) r,λb hb=>?_⟩;rw[k b λh=>hb<|aJ _ h,An λz=>hb<|by simp[z]]
def Kp.all{H H':Hp}(h:∀b o,H b=some o->H' b=some o):Kp H H':=⟨λb c e=>h b _ e,λb o u e=>h b _ e⟩
def Cn.allK{K:lC}{μ:M}{H H':Hp}(c:Cn K μ H)(h:∀b o,H b=some o->H' b=some o):Cn K μ H':=λa m e=>by obtain⟨o,d,r⟩:=c a m e;exact⟨o,h a o d,r.kp<|Kp.all h⟩
def NY(j tb:AE):AE:=λτ μ R=>j τ μ λx g=>tb τ g λy c=>match x,y with
 |.R a,.R b=>opt (c a) λm=>opt (c b) λn=>match m,n with
  |.lst l,.lst k=>opt (dats l) λf=>opt (dats k) λh=>(f.length=h.length/\f.length<=1000)/\R (.D<|.tuple<|List.zipWith (λd e=>PyData.tuple [d,e]) f h) c
  |_,_=>False
 |_,_=>False
def Ts{xs ys:oA V}{us vs:oA kZ}(h:Vals xs us)(k:Vals ys vs):Paired (λ(p:V×V) (u:kZ×kZ)=>Bf p.1 u.1/\Bf p.2 u.2) (xs.zip ys) (us.zip vs):=by
 induction h generalizing ys vs with
 |nil=>simp;exact .nil
 |cons b g c=>
  cases k with
  |nil=>simp;exact .nil
  |cons f d=>exact .cons ⟨b,f⟩<|c d
theorem N5{K:lC}{H':Hp}:∀{as:oA lB} {xs ys:oA V} {ds es:oA lA},Paired (λa (p:V×V)=>H' a=some (.tup [p.1,p.2])) as (xs.zip ys)->Ap K H' ds xs->Ap K H' es ys->Ap K H' (List.zipWith (λd e=>PyData.tuple [d,e]) ds es) (as.map V.ref)
 |as,xs,ys,[],es,h,h1,h2=>by have:=h1.nil;subst this;simp at h;cases h;exact Cr
 |as,xs,ys,d::ds,[],h,h1,h2=>by have:=h2.nil;subst this;simp at h;cases h;exact Cr
 |as,xs,ys,d::ds,e::es,h,h1,h2=>by
  obtain⟨x,r,rfl,j,a2⟩:=h1.cons;obtain⟨y,q,rfl,g,f⟩:=h2.cons;cases h with
  |cons b c=>exact B8 (Gw b<|B8 j<|B8 g Cr)<|N5 c a2 f
def BY{e1 l:lF}{ta tb:AE}{p p2 pos O:Pos}(hc:X.calm=true)(hg:Gl X "tuple") (hm:X.mg "tuple" = none) (j7:Gl X "zip") (f6:X.mg "zip" = none) (h1:VE X e1 ta) (h2:VE X l tb)
  (hs:starEach [.Call (.Name "zip" p2) [e1,l] [] O] X.env=[(false,eval (.Call (.Name "zip" p2) [e1,l] [] O) X.env)]:=by rfl) (eh:starEach [e1,l] X.env=(false,eval e1 X.env)::starEach [l] X.env:=by rfl) (fj:starEach [l] X.env=[(false,eval l X.env)]:=by rfl) (hpl:(backTo O<|starEach [l] X.env).any (·.1)=false:=by rfl) :
  VE X (.Call (.Name "tuple" p) [.Call (.Name "zip" p2) [e1,l] [] O] [] pos) (NY ta tb):=by
 intro aa s σ H Q I dq;refine B4 dq λτ μ R bg U h hq=>?_;refine bT<|Dx I hg hm boot_tuple<|bG ?_ hs rfl;rw[hs];refine bA<|bT<|Dx I j7 f6 boot_zip<|bG ?_ eh hpl;rw[eh];refine bA<|aM (h1.run I bg U h) (λu1 s1 zu=>?_) λ_ _ e=>e;obtain⟨x,v,μ1,H1,I1,rv,S1,c1,rx,q1⟩:=zu;rw[fj];refine bA<|aM (h2.run I1 (bg.kp S1) c1 q1) (λu2 q zu=>bY ?_) λ_ _ e=>e;obtain⟨y,v2,μ2,H2,L,rv2,S2,c2,ry,g⟩:=zu;split at g
 ·rename_i a b;obtain⟨m,em,g⟩:=A4 g;obtain⟨n,en,g⟩:=A4 g;split at g
  ·rename_i us vs;obtain⟨ds,ed,g⟩:=A4 g;obtain⟨es,ee,g⟩:=A4 g;obtain⟨⟨ak,hmax⟩,g⟩:=g;obtain⟨oa,ha,ws,rfl,ra⟩:=c2 _ _ em;obtain⟨ob,hb,zs,rfl,rb⟩:=c2 _ _ en;have mj:=rx.kp S2;cases mj;cases rv;cases ry;cases rv2;obtain⟨j,r1,t,_⟩:=L.list<|Ep.of (K:=X.K) ha;obtain⟨r,r2,z,_⟩:=L.list<|Ep.of (K:=X.K) hb;have da:=ra.dats ed;have db:=rb.dats ee;have l1:=r1.length;have l2:=r2.length;have l3:=da.length;have l4:=db.length;have J:a<q.heap.objs.size:=by obtain⟨o,_,e,_⟩:=t;exact N_ e
   have C:b<q.heap.objs.size:=by obtain⟨o,_,e,_⟩:=z;exact N_ e
   refine call_zip_2 t.isList z.isList λP z1 z2 z3 z4 z5 z6 Z=>bY ?_;generalize hB:q.heap.objs.size=B at J C z1 z2 z3 z4 z5 z6;have D:ZipApart (B+4) (B+2) (B+3) B (B+1) a b:=by have f:∀{c:lB} (k:Nat),c<B->c≠B+k:=λk h=>Z_<|S_ h<|dL B k;exact⟨(show(B+2:Nat)≠B+4 by omega),(show(B+3:Nat)≠B+4 by omega),(show(B:Nat)≠B+4 by omega),(show(B+1:Nat)≠B+4 by omega),(show(B+2:Nat)≠B+3 by omega),(show(B+2:Nat)≠B by omega),(show(B+2:Nat)≠B+1 by omega),(show(B+3:Nat)≠B by omega),(show(B+3:Nat)≠B+1 by omega),(show(B:Nat)≠B+1 by omega),f 4 J,f 3 J,f 0 J,f 1 J,f 4 C,f 3 C,f 0 C,f 1 C⟩
   have m7:j.toArray.size=r.toArray.size:=by simp;omega
   have yo:j.toArray.size<=1000:=by simp;omega
   refine callType_newIn F.called_tuple (by decide) (F.typeCall_tuple_1 _) (F.newCall_tuple_1 _) (λobj=>F.args_object_init_2 obj _) F.entry_tuple_new
    (Tr (B+4) (B+2) (B+3) B (B+1) a b j.toArray r.toArray D m7 yo) ⟨I.ok.hd hc,⟨z2,z4,z5,t.isList.at λo e=>Z _ o e,z.isList.at λo e=>Z _ o e,.inl ⟨z1,_,_,z3⟩⟩,⟨_,_,z1⟩,λu as hk S=>⟨⟨_,K_ _ rfl,rfl⟩,?_⟩⟩
   have kk:∀c o,q.heap.get? c=some o->u.get? c=some o:=λc o e=>by
    have Y:=N_ e;rw[hB]at Y;refine hk c o ?_<|Z c o e;simp only[List.mem_cons,List.not_mem_nil,or_false,not_or];have G:P.objs.size=B+5:=z6;refine⟨?_,?_,?_,?_,?_⟩
    ·show ¬c=P.objs.size;rw[G];exact Z_<|S_ Y<|by omega
    all_goals exact Z_<|S_ Y<|by omega
   have I3:Inv X aa σ H2 {q with heap:=u}:=L.kept kk;have xk:∀T∈as,Fj X aa H2 T:=λT hT=>by
    have q0:q.heap.objs.size<=T:=by have:=(S.new T hT).1;have G:P.objs.size=B+5:=z6;have:P.objs.size<=T:=this;rw[hB];omega
    exact L.fpOk q0<|L.hok.fresh q0
   have hpv:=Ts r1 r2;obtain⟨H4,I4,k4,p4,_⟩:=Inv.trackP (s:={q with heap:=u}) I3 S.rise xk S.at_ (by simpa using hpv);have W:=Kp.all k4;have N:=I4.hok.fresh<|F_ u.objs.size;have dk:=N5 p4 (Ap.kp W _ _ da)<|Ap.kp W _ _ db;have i5:(as.map V.ref).length<=sizeLine:=by have:=bB S.at_;simp at this ⊢;exact G_ (by omega)<|show 1000<=sizeLine by decide
   refine⟨.ref u.objs.size,_,I4.laid (a:=u.objs.size) (o:=.tup<|as.map V.ref) (t':=q.toks) (λb o e=>DD _ e) (F_ _) ⟨i5,as.map Value.ref,refsV as,IsTup.new _ _⟩,rfl,?_⟩;have S5:Kp H4 (upd H4 u.objs.size<|.tup<|as.map V.ref):=Kp.new N _;exact hq (.D<|.tuple<|List.zipWith (λd e=>PyData.tuple [d,e]) ds es) _ _ _ (((S1.trans S2).trans W).trans S5) ((c2.allK k4).over N) (Gw (K:=X.K) A6<|Ap.kp S5 _ _ dk) g
  ·exact g.elim
 ·exact g.elim
where
 refsV:∀(as:oA lB),Vals (as.map V.ref) (as.map Value.ref)
  |[]=>.nil
  |a::as=>.cons rfl<|refsV as
def XF:AC:=λc μ R=>match c with
 |[.D<|.bool b]=>R (.D<|.int<|if b then 1 else 0) μ
 |[.D<|.int i]=>R (.D<|.int i) μ
 |_=>False
def EO:VCall X (.type "int") XF:=by
 intro aa s σ H n f Q I r l;refine B4 l λas μ R k hc h hq=>?_;cases k with
 |nil=>exact False.elim h
 |@cons x v m j c g=>
  cases g with
  |nil=>
   cases x with
   |D d=>
    cases d with
    |bool b=>cases RelA.bl c;exact Kl aa s σ H _ f Q I r (.inr ⟨_,rfl,hq _ _ _ _ Kp.refl hc Ct h⟩)
    |int i=>cases RelA.int c;exact Kl aa s σ H _ f Q I r (.inl ⟨_,rfl,hq _ _ _ _ Kp.refl hc Ct h⟩)
    |_=>exact False.elim h
   |_=>exact False.elim h
  |cons _ _=>
   refine False.elim ?_;cases x with
   |D d=>cases d<;>exact h
   |_=>exact h
def txts:oA AV->oB (oA Str)
 |[]=>some []
 |.D (.str z)::b=>(txts b).map (z::·)
 |_::_=>none
theorem N6{K:lC}{H:Hp}:∀{xs:oA AV} {vs:oA V} {b:oA Str},A5 K H xs vs->txts xs=some b->vs=b.map V.str
 |[],_,b,r,e=>by cases r;cases e;rfl
 |x::xs,_,b,r,e=>by
  cases r with
  |cons c d=>unfold txts at e;split at e;rename_i h;cases h;rename_i z f h;cases h;obtain⟨j,g,rfl⟩:=H_.mp e;cases RelA.str c;rw[N6 d g];rfl;cases e
def EQ:AV->AC:=λx c μ R=>match x,c with
 |.D (.str z),[.R p]=>opt (μ p) λm=>match m with
  |.lst d=>opt (txts d) λb=>(b.map (·.length)).sum+b.length*z.length<=16777216/\R (.D<|.str<|Txt.join z b) μ
  |_=>False
 |_,_=>False
def IH:VMt X "str.join" EQ:=by
 intro aa s σ H x u v t Q I g r l;refine Er l λa as μ R n k hc h hq=>?_;unfold EQ at h;split at h
 ·obtain⟨m,c,h⟩:=A4 h;split at h
  ·obtain⟨d,p,h⟩:=A4 h;obtain⟨o,b,y,rfl,q⟩:=hc _ _ c;cases RelA.str n;cases k with
   |cons f j=>cases j;cases f;rw[N6 q p]at b;exact Tf aa s σ H _ _ v t Q I g r ⟨_,_,d,rfl,rfl,b,h.1,hq _ _ _ _ Kp.refl hc Ja h.2⟩
  exact h.elim
 exact h.elim
def Xb(hc:X.calm=true):Et X (.builtin "any") (λj H Q=>∃(p:lB) (c:oA Bool),j=[.ref p]/\Ep X.K H p (c.map V.bl)/\Q (.bl<|c.any id) H):=by
 intro aa s σ H j N Q I r h;obtain⟨p,c,rfl,hq,q⟩:=h;obtain⟨u,rfl,B⟩:=Eg r;cases B;obtain⟨f,m,g,hz⟩:=I.list hq;have d:=m.length;rw[B_]at d;have y:p≠s.heap.objs.size:=Z_ (by obtain⟨_,n,_⟩:=g.isList;exact N_ n);refine call_any_walk<|fM g.isList ⟨s.heap.objs.size,_,_,_,_,_,λi=>c.getD i true,rfl,kO (show X.A.in1.handled=none from I.ok.hd hc) s.heap.objs.size p y f.toArray,⟨⟨_,K_ _ rfl,rfl,rfl⟩,g.isList.at λo e=>DD _ e⟩,?_,λG L k=>?_⟩;intro i v C D J z t;have hv:f[i]?=some v:=by simpa using z
 have hi:i<c.length:=by rw[d];exact(D_.mp hv).1
 obtain⟨u,hu,F⟩:=m.get (i:=i) (x:=V.bl c[i]) (by simp[hi]);rw[hv]at hu;cases hu;cases (show v=Value.bool c[i] from F);have e:c.getD i true=c[i]:=by simp[hi]
 have l:D (c.getD i true) C:=t;rw[e]at l;exact dN l;have e:(List.range f.toArray.size).any (λi=>c.getD i true)=c.any id:=by rw[R_,<- d,fJ,aZ,aZ];constructor;rintro⟨i,hi,hb⟩;have hi:=cZ.mp hi;exact⟨c[i],eZ hi,by simpa [hi] using hb⟩;rintro⟨x,hx,hb⟩;obtain⟨i,hi,rfl⟩:=List.mem_iff_getElem.mp hx;exact⟨i,cZ.mpr hi,by simpa [hi] using hb⟩
 rw[e];exact⟨.bl _,H,I.kept λb o e=>k b o (by
  intro hb;have:b=s.heap.objs.size:=by simpa using hb
  exact absurd (N_ e)<|by rw[this];exact cF _)<|DD _ e,rfl,q⟩
def NZ:AC:=λb μ R=>match b with
 |[.R a]=>opt (μ a) λm=>match m with
  |.lst c=>opt (bools c) λd=>R (.D<|.bool<|d.any id) μ
  |_=>False
 |_=>False
def OA(n:X.calm=true):VCall X (.builtin "any") NZ:=by
 intro aa s σ H t q Q I r p;refine B4 p λas μ R l hc h hq=>?_;unfold NZ at h;split at h
 ·cases l with
  |cons c j=>cases j;obtain⟨m,b,h⟩:=A4 h;split at h;obtain⟨f,g,h⟩:=A4 h;obtain⟨o,d,u,rfl,k⟩:=hc _ _ b;cases (show _=V.ref _ from c);exact Xb n aa s σ H _ q Q I r ⟨_,f,rfl,Ep.of<|by rw[d,k.bools g],hq _ _ _ _ Kp.refl hc D5 h⟩;exact h.elim
 exact h.elim
def II(c:AE):AE:=λτ μ R=>c τ μ λx b=>match x with
 |.D (.int n)=>(0<=n/\n<=1000)/\∀p,b p=none->R (.R p) (Ao b p<|.lst<|Ee 0 n.toNat)
 |_=>False
theorem Rq{K:lC}{H:Hp}:∀(n:Nat) (lo:Int),A5 K H (Ee lo n) ((List.range n).map λ(i:Nat)=>V.int<|lo+i)
 | 0,lo=>.nil
 |n+1,lo=>by
  rw[List.range_succ_eq_map,aS,aF];refine .cons (by simpa using Ct) ?_;have:=Rq (K:=K) (H:=H) n<|lo+1;have e:(λ(i:Nat)=>V.int<|lo+1+i)=(λ(i:Nat)=>V.int<|lo+i) ∘ Nat.succ:=by
   funext i
   simp only[Function.comp];congr 1;omega
  rw[e]at this;exact this
def Xc{acc:oC kZ}{n:Nat}{lo:Int}(h:ItemsOf (λi v=>∃t,v=.int (lo+i*1) t) acc n):Vals ((List.range n).map λ(i:Nat)=>V.int<|lo+i) acc.toList:=by
 obtain⟨h1,h2⟩:=h;have f:∀(m:Nat) (us:oA kZ),us.length=m->(∀j v,us[j]?=some v->∃t,v=Value.int (lo+(j:Nat)*1) t)->Vals ((List.range m).map λ(i:Nat)=>V.int<|lo+i) us:=by
  intro m
  induction m with
  |zero=>intro us b _;rw[cD b];exact .nil
  |succ m d=>
   intro us b hu;have c:us≠[]:=by intro z;rw[z]at b;cases b
   rw[<- List.dropLast_concat_getLast c,List.range_succ,M_];have g:us.dropLast.length=m:=by rw[jL];omega
   refine iG (d us.dropLast g λj v e=>?_) ?_;have hj:j<us.dropLast.length:=(D_.mp e).1;rw[List.getElem?_dropLast,T_<|by omega]at e;exact hu j v e;obtain⟨t,e⟩:=hu m (us.getLast c) (by rw[List.getLast_eq_getElem];simp[b]);rw[e];exact⟨t,by rw[Int.mul_one]⟩
 exact f n acc.toList (by simpa using h1) λj v e=>h2 j v<|by rw[<- bP];exact e
def Xd{g:Hp}{lo hi:Int}{tk:Nat}{t u v:Tok}{Q:VK}{d:k_}(n:X.calm=true)(f:Inv X aa σ g d)(B:-1000<=lo)(z:lo<=hi)(k:hi<=1000)
  (q:∀l,g l=none->Q (.ref l) (upd g l<|.lst<|(List.range (hi-lo).toNat).map λ(i:Nat)=>V.int<|lo+i)) :
  yL X.prog X.w X.A (call (.type "list") [.ref d.heap.objs.size]) (EP X aa σ Q) X.xe {d with heap:=d.heap.push {cls:=.type "range",data:=.fields #[.int lo t,.int hi u,.int 1 v]},toks:=tk}:=by
 have y:Builtin.Range.rangeSize lo hi 1=((hi-lo).toNat:Nat):=by rw[rangeSize_one];split<;>omega
 have j:(hi-lo).toNat<=2000:=by omega
 refine call_list_range (s:={d with heap:=d.heap.push {cls:=.type "range",data:=.fields #[.int lo t,.int hi u,.int 1 v]},toks:=tk}) (f.ok.hd n) (IsRange.new ..) (small_one (by omega) (by omega) (by omega)<|by omega) y (G_ j<|by decide) λh2 m h c r x p=>?_;have hp:d.heap.objs.size<=(d.heap.push {cls:=.type "range",data:=.fields #[.int lo t,.int hi u,.int 1 v]}).objs.size:=by rw[c_];exact bU _
 have hz:((List.range (hi-lo).toNat).map λ(i:Nat)=>V.int<|lo+i).length<=sizeLine:=by rw[B_,eO];exact G_ j<|show 2000<=sizeLine by decide
 refine⟨.ref _,_,f.laid (t':=m) (o:=.lst _) (λb o e=>r b o<|DD _ e) hp ⟨hz,h.toList,c,Xc p,by simpa using x⟩,rfl,q _<|f.hok.fresh hp⟩
def Xe{e1:lF}{j:AE}{p f pos c:Pos}(hc:X.calm=true)(N:Gl X "list") (r:X.mg "list" = none) (C:Gl X "range") (B:X.mg "range" = none) (h1:VE X e1 j)
  (k:starEach [.Call (.Name "range" f) [e1] [] c] X.env=[(false,eval (.Call (.Name "range" f) [e1] [] c) X.env)]:=by rfl) (q:starEach [e1] X.env=[(false,eval e1 X.env)]:=by rfl) :
  VE X (.Call (.Name "list" p) [.Call (.Name "range" f) [e1] [] c] [] pos) (II j):=by
 intro aa s σ H Q I G;refine B4 G λτ μ R F d h hq=>?_;refine bT<|Dx I N r boot_list<|bG ?_ k rfl;rw[k];refine bA<|bT<|Dx I C B boot_range<|bG ?_ q rfl;rw[q];refine bA<|aM (h1.run I F d h) (λP T ⟨x,v,z,S,O,y,D,m,J,b⟩=>bY ?_) λ_ _ e=>e;split at b;rename_i n _;obtain⟨⟨L,u⟩,b⟩:=b;cases RelA.int J;obtain⟨t,rfl⟩:=y;refine call_range_1 (bY<|Xd hc O (by omega) L u λl g=>?_);refine hq _ _ _ _ (D.trans<|Kp.new g _) (m.new g<|Dh<|Rq _ 0) Dy ?_;rw[Int.sub_zero];exact b l<|m.none g;exact b.elim
def lets(z:Str):Prop:=∀c∈z.cps.toList,97<=c/\c<=122
def Hg(a b:Str):(a++b).cps.toList=a.cps.toList++b.cps.toList:=by show(a.cps++b.cps).toList=_;simp
def Dg(z:Str):z.length=z.cps.toList.length:=by simp[Str.length]
def Fv{a b:Str}(ha:lets a)(hb:lets b):lets (a++b):=λc hc=>by rw[Hg]at hc;rcases Q_.mp hc with h|h;exact ha c h;exact hb c h
def Jk{x:Str}{j:Int}(h0:0<=j)(h1:j<=(x.length:Int)):(Txt.slice x none<|some j).cps.toList=x.cps.toList.take j.toNat:=by have:=StrLaws.sliceText_to (x:=x) (j:=j) ⟨h0,by rw[<- Dg];exact h1⟩;show(StrLaws.sliceText x none<|some j).cps.toList=_;rw[this];simp
def Gz{x:Str}{j:Int}(h0:0<=j)(h1:j<=(x.length:Int)):(Txt.slice x (some j) none).cps.toList=x.cps.toList.drop j.toNat:=by
 have b:j<=(x.cps.toList.length:Int):=by rw[<- Dg];exact h1
 have:=StrLaws.sliceText_from (x:=x) (i:=j) ⟨h0,b⟩;show(StrLaws.sliceText x (some j) none).cps.toList=_;rw[this];show(((x.cps.toList.drop j.toNat).take ((x.cps.toList.length:Int)-j).toNat).toArray).toList=_;rw[List.toList_toArray,cJ<|by rw[dB];omega]
def IJ:("" : Str).cps.toList=[]:=by decide +kernel
def Tt:∀{b:oA Str},(∀z∈b,lets z)->lets (Txt.join "" b):=λ{b} h=>by
 show lets (PySem.Builtin.Str.glued "" b);rw[StrLaws.glued_eq_join]
 induction b with
 |nil=>exact λc hc=>by simp[Str.join,Str.empty]at hc
 |cons x b d=>
  cases b with
  |nil=>exact h x aW
  |cons y b=>show lets (x ++ "" ++ Str.join "" (y::b));exact Fv (Fv (h x aW) λc hc=>by rw[IJ]at hc;simp at hc)<|d λz hz=>h z<|aJ _ hz
def OB:("q" : Str).cps.toList=[113]:=by decide +kernel
end
end L2
namespace L2
open PySem PySem.SetTable
def XG(mask:Nat)(p:Probe):Probe :=
 if p.more>0 then {p with j:=p.j+1,more:=p.more-1} else
 {p with j:=(leap mask p.i p.perturb).1,more:=runEnd mask (leap mask p.i p.perturb).1-(leap mask p.i p.perturb).1,i:=(leap mask p.i p.perturb).1,perturb:=(leap mask p.i p.perturb).2}
def XI(mask i perturb l:Nat):Probe:={j:=i+l,more:=runEnd mask i-i-l,i:=i,perturb:=perturb,dummy:=none}
def ZU(mask:Nat)(h:Int):Nat->Probe
 | 0=>XI mask (bits h%(mask+1)) (bits h) 0
 |n+1=>XG mask<|ZU mask h n
def sq(mask:Nat)(h:Int)(n:Nat):Nat:=(ZU mask h n).j
def rn(mask:Nat)(h:Int):Nat->Nat×Nat
 | 0=>(bits h%(mask+1),bits h)
 |r+1=>leap mask (rn mask h r).1 (rn mask h r).2
def nr(mask:Nat)(h:Int):Nat->Nat
 | 0=>0
 |r+1=>nr mask h r+(runEnd mask (rn mask h r).1-(rn mask h r).1)+1
end L2
namespace L2
open PySem
section
variable {prog:lD}{w:lE}{A:lG}{E:kZ->k_->Prop}{s:k_}
def UG{d:Type}{c:Prop} [Decidable c]{b a:Sem d}{Q:d->k_->Prop}(h:yL prog w A a Q E s)(h1:yL prog w A a Q E s->yL prog w A b Q E s):yL prog w A (if c then b else a) Q E s:=by split;exact h1 h;exact h
end
end L2
namespace L2
open PySem PySem.Spec PyProof.Rows
section
variable {prog:lD}{w:lE}{A:lG}{R:lO->k_->Prop}{sa it t:lB}{led:Bool}
def Dp{n o:Type}{f:n->o}{l m:oA o}(h:l.Perm m):∀c:oA n,m=c.map f->∃g:oA n,l=g.map f/\g.Perm c:=by
 induction h with
 |nil=>
  intro c e;have:c=[]:=by simpa using e.symm
  subst this;exact⟨[],rfl,.nil⟩
 |cons a h r=>
  intro c e;cases c with
  |nil=>cases e
  |cons x c=>injection e with i d;obtain⟨g,rfl,p⟩:=r c d;exact⟨x::g,by rw[i];rfl,p.cons x⟩
 |swap a b l=>
  intro c e
  match c,e with
  |x::y::c,e=>injection e with i d;injection d with d e3;exact⟨y::x::c,by rw[i,d,e3];rfl,.swap x y c⟩
 |trans h1 h2 j k=>intro c e;obtain⟨g,i,s⟩:=k c e;obtain⟨q,d,u⟩:=j g i;exact⟨q,d,u.trans s⟩
end
section
variable {prog:lD}{w:lE}{Kt:Type} [DecidableEq Kt]{knd:KeyKind prog w Kt}{A:lG}{R:lO->k_->Prop}{sa it t:lB}{led:Bool}
variable {E:kZ->k_->Prop}{s:k_}
end
end L2
namespace L2
open PySem PySem.Spec PySem.Calls PyProof.Rows
def XJ:AV->AC:=λx f b R=>match x,f with
 |.R a,[y]=>opt (see b y) λd=>opt (b a) λm=>match m with
  |.lst g=>opt (dats g) λc=>Cp d/\Cp (.tuple c)/\opt (c.findIdx? λe=>PyData.eqv e d) λj=>R (.D<|.int (j:Nat)) b
  |_=>False
 |_,_=>False
section
variable {X:Cx}{k:Nat}
def Qa6:A2:=λx y a R=>match x,y with
 |.D (.str i),.D (.str j)=>R (.D<|.bool<|!decide (i=j)) a
 |_,_=>False
def XL(xs:oA AV)(n:Nat):oA AV:=(List.replicate n xs).flatten
def ZV:A2:=λx y b R=>match x,y with
 |.R a,.D (.int n)=>opt (b a) λm=>match m with
  |.lst c=>(0<=n/\n<=1000/\c.length<=1000)/\∀p,b p=none->R (.R p) (Ao b p<|.lst<|XL c n.toNat)
  |_=>False
 |_,_=>False
def Jl(ns:oA Int):Nat->Int:=preSum λi=>ns.getD i 0
theorem Xf{ns:oA Int}(h:∀n∈ns,0<=n/\n<=1000):∀j,j<=ns.length->0<=Jl ns j/\Jl ns j<=1000*j
 | 0,_=>⟨gM _,gM _⟩
 |j+1,hj=>by
  have a:=Xf h j (by omega);have b:=h (ns.getD j 0) (by rw[a_,J_<|by omega];exact eZ _);have e:Jl ns (j+1)=Jl ns j+ns.getD j 0:=rfl;rw[e];constructor;omega
  push_cast;omega
theorem Rr:∀(ns:oA Int) (j:Nat),Jl ns j=(ns.take j).sum
 |ns,0=>by rw[List.take_zero];rfl
 |ns,j+1=>by
  have e:Jl ns (j+1)=Jl ns j+ns.getD j 0:=rfl;rw[e,Rr ns j,aG,List.sum_append];congr 1;rw[a_];cases ns[j]? with
  |none=>rfl
  |some v=>simp
def Xg(hc:X.calm=true):Et X (.builtin "sum") (λg H Q=>∃(p:lB) (ns:oA Int),g=[.ref p]/\Ep X.K H p (ns.map V.int)/\(∀n∈ns,0<=n/\n<=1000)/\ns.length<=1000/\Q (.int ns.sum) H):=by
 intro G s F H g N Q I r h;obtain⟨p,ns,rfl,hq,hb,L,q⟩:=h;obtain⟨u,rfl,B⟩:=Eg r;cases B;obtain⟨f,l,c,hz⟩:=I.list hq;have a:=l.length;rw[B_]at a;refine call_sum_walk<|fM c.isList ?_;have w:p≠s.heap.objs.size:=Z_ (by obtain⟨_,d,_⟩:=c.isList;exact N_ d);refine⟨s.heap.objs.size,_,_,_,_,_,λi=>ns.getD i 0,rfl,kO (show X.A.in1.handled=none from I.ok.hd hc) s.heap.objs.size p w f.toArray,?_,?_,?_,?_,λJ M E k=>?_⟩;exact⟨⟨_,K_ _ rfl,rfl,rfl⟩,c.isList.at λo e=>DD _ e⟩;intro b hb;have C:p<s.heap.objs.size:=let⟨_,d,_⟩:=c.isList;N_ d
 simp only[List.mem_cons,List.not_mem_nil,or_false]at hb;have m:∀o:lI,(s.heap.push o).objs.size=s.heap.objs.size+1:=λo=>by simp[Heap.push]
 show b<(s.heap.push _).objs.size;rw[m];rcases hb with rfl|rfl;exact eE _;exact bZ C;intro i v y;have hv:f[i]?=some v:=by simpa using y
 have hi:i<ns.length:=by rw[a];exact(D_.mp hv).1
 obtain⟨u,hu,D⟩:=l.get (i:=i) (x:=V.int ns[i]) (by simp[hi]);rw[hv]at hu;cases hu;obtain⟨t,rfl⟩:=(show ∃t,v=Value.int ns[i] t from D);exact⟨t,by simp[hi]⟩;intro j hj;rw[R_,<- a]at hj;have h1:=hb (ns.getD j 0) (by rw[a_,J_ hj];exact eZ _);have h2:=Xf hb (j+1) hj;have e:preSum (λi=>ns.getD i 0) (j+1)=Jl ns (j+1):=rfl;rw[e];show InLong (ns.getD j 0)/\InLong (Jl ns<|j+1);generalize Jl ns (j+1)=z at h2 ⊢;refine⟨⟨by omega,by omega⟩,by omega,?_⟩;have:=h2.2
 push_cast at this
 omega;have e:preSum (λi=>ns.getD i 0) f.toArray.size=ns.sum:=by rw[R_,<- a];show Jl ns ns.length=_;rw[Rr,aB]
 rw[e];exact⟨.int _,H,I.kept λb o e=>k b o (by
  intro hb;have:b=s.heap.objs.size:=by simpa using hb
  exact absurd (N_ e)<|by rw[this];exact cF _)<|DD _ e,⟨_,rfl⟩,q⟩
def Fa:oA AV->oB (oA Int)
 |[]=>some []
 |.D (.int i)::a=>(Fa a).map (i::·)
 |_=>none
theorem G1{K:lC}{H:Hp}:∀{xs:oA AV} {ns:oA Int} {vs:oA V},Fa xs=some ns->A5 K H xs vs->vs=ns.map V.int
 |[],_,_,e,.nil=>by cases e;rfl
 |x::xs,ns,_,e,.cons b c=>by
  cases x with
  |D d=>
   cases d with
   |int i=>obtain⟨f,a,rfl⟩:=H_.mp<|show(Fa xs).map (i::·)=some ns from e;rw[G1 a c,RelA.int b];rfl
   |_=>cases e
  |_=>cases e
def OC:AC:=λc b R=>match c with
 |[.R a]=>opt (b a) λm=>match m with
  |.lst d=>opt (Fa d) λns=>((∀n∈ns,0<=n/\n<=1000)/\ns.length<=1000)/\R (.D<|.int ns.sum) b
  |_=>False
 |_=>False
def OD(j:X.calm=true):VCall X (.builtin "sum") OC:=by
 intro p s i H q n Q I r l;refine B4 l λas u R g hc h hq=>?_;unfold OC at h;split at h
 ·cases g with
  |cons b e=>cases e;obtain⟨m,a,h⟩:=A4 h;split at h;obtain⟨ns,d,h⟩:=A4 h;obtain⟨o,c,t,rfl,f⟩:=hc _ _ a;cases (show _=V.ref _ from b);exact Xg j p s i H _ n Q I r ⟨_,ns,rfl,Ep.of<|by rw[c,G1 d f],h.1.1,h.1.2,hq _ _ _ _ Kp.refl hc Ct h.2⟩;exact h.elim
 exact h.elim
end
end L2
namespace L2
open PySem PySem.Spec PySem.Calls PyProof.Rows PySem.W
end L2
namespace L2
open PySem PySem.Spec PySem.Calls PyProof.Rows
end L2
namespace L2
open PySem PySem.Spec PySem.Calls PyProof.Rows PySem.W
end L2
namespace L2
open PySem
end L2
namespace L2
open PySem PySem.Spec PySem.Calls PyProof.Rows
def IK:Key->lA
 |.inl i=>.int i
 |.inr z=>.str z
def OE{K:lC}{H:Hp}(k:Key):Dk K H (IK k) (kV k):=by
 cases k with
 |inl i=>exact Co
 |inr z=>exact Pl
section
variable {X:Cx}{k:Nat}
abbrev XM:A2:=EF λi j=>.int<|Builtin.bitOr i j
abbrev OF:A2:=EF λi j=>.int<|Builtin.bitAnd i j
abbrev XN:A2:=aI CPow λi j=>.int<|i*2^j.toNat
abbrev XO:A2:=aI (λ_ j=>0<=j) λi j=>.int<|i / 2^j.toNat
def ER:VOp X (binaryOp .BitOr) XM:=Pp LR λ_ _ _=>Co
def Xh:VOp X (binaryOp .BitAnd) OF:=Pp GL λ_ _ _=>Co
def OG:VOp X (binaryOp .LShift) XN:=MU GJ λ_ _ _=>Co
def OH:VOp X (binaryOp .RShift) XO:=MU GK λ_ _ _=>Co
def BZ:DX X "int.bit_length" (λx c H Q=>∃i:Int,x=.int i/\c=[]/\Q (.int (Builtin.Int.intBits i:Nat)) H):=by intro j s f H x d v g Q I a r h;obtain⟨i,rfl,rfl,q⟩:=h;obtain⟨t,rfl⟩:=a;cases r;exact call_int_bit_length ⟨.int _,H,I.kept (t':=s.toks+1) λb o e=>e,⟨_,rfl⟩,q⟩
def ES:AV->AC:=λx b a R=>match x,b with
 |.D (.int i),[]=>R (.D<|.int (Builtin.Int.intBits i:Nat)) a
 |_,_=>False
def IL:VMt X "int.bit_length" ES:=by intro i s f H x j v g Q I b r c;refine Er c λa as l R e d hc h hq=>?_;unfold ES at h;split at h;cases RelA.int e;cases d;exact BZ i s f H _ _ v g Q I b r ⟨_,rfl,rfl,hq _ _ _ _ Kp.refl hc Ct h⟩;exact h.elim
def isInt:AV->Prop
 |.D (.int _)=>True
 |_=>False
def XQ(m:AV->AC)(c:AE):AE:=λd b R=>c d b λx a=>isInt x/\m x [] a R
def IM{name:Str}{b:String}{o:lF}{e:AE}{m:AV->AC}{d f:Pos}(slot:Slot "int" name b) (p:typeOf (.builtin b)=pure (.type "method_descriptor")) (i:VMt X b m) (j:VE X o e)
  (r:attributeBase o name X.env (eval o X.env)=eval o X.env:=by rfl) (u:(d.endLine==f.line)=true:=by rfl):VE X (.Call (.Attribute o name d) [] [] f) (XQ m e) :=
 (Ls PySem.F.plainAttrs_int slot p i j r u).imp λy H Q q=>B4 q λl s R g hc h hq=>⟨l,s,_,g,hc,h,λx a v w t n c hx=>⟨by
   obtain⟨hx,_⟩:=hx;unfold isInt at hx;split at hx;cases RelA.int c;exact rfl;exact hx.elim,x,[],a,R,c,.nil,n,hx.2,hq.kp t⟩⟩
end
section
variable {s:k_}{E:kZ->k_->Prop}{A:lG}{prog:lD}{w:lE}{K:Type} [DecidableEq K]{knd:HeapKind prog w K}
def sdH{d a:lB}{xs:oA<|K×lB×kZ}{k:K}{v:kZ}{Q:kZ->k_->Prop}(hu:knd.room A)(hk:knd.is s.heap k a)(t:s.heap.DictOfH knd d xs)(hz:xs.length<=sizeLine)
  (h1:∀p,atKey xs k=some p->Q p.2 {s with toks:=s.toks+knd.draws k})
  (h2:atKey xs k=none->∀l,l.DictOfH knd d (storedH xs k a v)->Heap.SameBut d s.heap l->Q v {s with heap:=l,toks:=s.toks+knd.draws k}):yL prog w A (dictSetDefault d (.ref a) v) Q E s:=by
 obtain⟨o,D,C,g,B,f,h,q,i⟩:=t;unfold dictSetDefault
 (try with_reducible refine bS ?_)
 refine A_<|knd.pyHash hu hk<|A_<|wpAny_dictFind_heap (s:={s with toks:=s.toks+knd.draws k}) hu hk g f h q i (λn=>?_) λj p hj=>?_;have r:=atKey_none_of_get n;have z:k∉xs.map (·.1):=not_mem_keys_of_get n;have F:=size_of_entries h;refine A_ (dM<|A_<|wpAny_updateDictKeys (hz:=by omega) (s:={s with toks:=s.toks+knd.draws k}) g f<|C_<|h2 r _ ?_<|aL ..);have st:=storedH_new (a:=a) (v:=v) r;rw[st];refine⟨_,_,C+1,aP _ g<|Obj.isFreed_of_dict<|Obj.data_mapDictKeys f _,B.mapDictKeys _,Obj.data_mapDictKeys f _,by simp[h,entryOfKey],λx hx=>?_,?_⟩;have c:∀{y:K} {b:lB},knd.is s.heap y b->knd.is (s.heap.update d<|Obj.mapDictKeys λx=>x.push ⟨knd.hash k,.ref a,v⟩) y b:=λhy=>knd.keeps hy g f<|aL ..;rcases Q_.mp hx with m|m;exact c<|q x m;rw[I_.mp m];exact c hk;rw[M_];exact aY.mpr ⟨i,by simp,λx hx y hy e=>z (by
  have hy:y=k:=by simpa using hy
  rw[hy]at e;rw[<- e];exact hx)⟩
 have u:=atKey_of_get i hj;refine A_<|dH (s:={s with toks:=s.toks+knd.draws k}) g f ?_;rw[entry_at h j,hj];exact A_<|dM<|C_<|h1 _ u
end
section
variable {w:lE}{prog:lD}{K:Type} [DecidableEq K](knd:HeapKind prog w K)(d a:lB)
def Tu(h:(d==sysModules)=false)(dflt:kZ):MeetsIn prog w (Builtin.«dict.setdefault» ⟨[.ref d,.ref a,dflt],[]⟩) (λA R s=>knd.room A.in1/\∃k c,knd.is s.heap k a/\s.heap.DictOfH knd d c/\c.length<=sizeLine /\
   (∀p,atKey c k=some p->R (.ok<|.ret p.2) {s with toks:=s.toks+knd.draws k}) /\
   (atKey c k=none->∀f,f.DictOfH knd d (storedH c k a dflt)->Heap.SameBut d s.heap f->R (.ok<|.ret dflt) {s with heap:=f,toks:=s.toks+knd.draws k})) :=
 .of_wp λA R s ⟨hu,k,c,hk,g,hz,h1,h2⟩=>by unfold Builtin.«dict.setdefault» Builtin.Dict.keyAndDefault;refine A_<|A_<|gJ g.typeIs<|show wpAny _ _ (pure (d,Value.ref a,some dflt)) _ _ s from C_ ?_;show wpAny _ _ (if(d==sysModules)=true then _ else(dictSetDefault d (.ref a) dflt>>=_)) _ _ s;rw[h,O_ V_];exact A_<|sdH hu hk g hz (λp e=>C_ ⟨_,rfl,h1 p e⟩) λe f m b=>C_ ⟨_,rfl,h2 e f m b⟩
end
section
variable {X:Cx}{aa:oA<|lB×lI}{σ:St}{H:Hp}{s:k_}{A:lG}{E:kZ->k_->Prop}{a b:lB}{r:kZ}{o e f:lF}{a8 ao:Pos}{prog:lD}{w:lE}{d it:lB}{es:oC DictEntry}{ep i k:Nat}
def IN{Q:kZ->k_->Prop}{kvs:oA<|oA Key×V}{k:oA Key}{n:V}(hu:A.units+1<cLine)(I:Inv X aa σ H s)(e:H a=some (.dT kvs))(x:H b=some (.tup<|k.map kV))(l:kvs.length<sizeLine)(rd:Bf n r)
  (h1:∀v,El kvs k=some v->∀B m,Inv X aa σ H m->Bf v B->Q B m) (h2:El kvs k=none->∀m,Inv X aa σ (upd H a<|.dT<|putK kvs k n) m->Q r m) :
  yL X.prog X.w A (call (.builtin "dict.setdefault") [.ref a,.ref b,r]) Q E s:=by
 obtain⟨z,u,t,j,dd⟩:=M9 I.hok e;have hz:t.length<=sizeLine:=by rw[<- bB j];exact z
 have O:(putK kvs k n).length<=sizeLine:=by have:=Eh kvs k n;omega
 have g:=j.val k;refine iN PySem.F.slot_dict_setdefault dd.typeIs PySem.F.entry_dict_setdefault (PySem.F.args_dict_setdefault_3 _ _ _) (Tu (tupleKind<|Bo X.prog X.w) a b u r) ⟨e_ hu,k,t,Gq I.hok x,dd,hz,λp hp=>?_,λL P N J=>?_⟩
 ·rw[hp]at g;cases h:El kvs k with
  |none=>rw[h]at g;exact g.elim
  |some v=>rw[h]at g;exact h1 v h _ _ (I.tok _) g
 ·rw[L]at g;have h:El kvs k=none:=by
   cases h:El kvs k with
   |none=>rfl
   |some v=>rw[h]at g;exact g.elim
  refine h2 h _ ?_;obtain⟨q,es,ep,hq,M,D,C,_,G⟩:=N;refine F6 I (by rw[e];exact True.intro) J ⟨q,hq⟩ ⟨O,u,_,(j.put k x rd).keeps λc R y=>?_,q,es,ep,hq,M,D,C,G⟩;rw[An<|M3 y e (λz=>nomatch z)];exact y
def XS(td ty j:TE):TE:=λσ H Q=>td σ H λx h=>∃a,x=.ref a/\UD h a/\ty σ h λy l=>j σ l λz g=>∃c k b,g a=some (.dT c)/\y=.ref b/\g b=some (.tup<|k.map kV)/\c.length<sizeLine /\
 (∀v,El c k=some v->Q v g)/\(El c k=none->Q z (upd g a<|.dT<|putK c k z))
def IP{td ty j:TE}(hu:X.A.units+1<cLine)(B:PE X o td)(he:PE X e ty)(hf:PE X f j)(m:M2 X o "setdefault" a8 e f ao):PE X (.Call (.Attribute o "setdefault" a8) [e,f] [] ao) (XS td ty j):=by intro aa s σ H Q I h;refine wpAny_Call_method m.base m.few m.line fY PySem.F.slot_dict_setdefault PySem.F.type_dict_setdefault<|thn (B aa s σ H _ I h) λu s1 P=>?_;obtain⟨x,H1,p,T,a,ex,d,q1⟩:=P;subst ex;cases (show u=Value.ref a from T);obtain⟨U,C,_⟩:=Vn p d;refine⟨U,C,?_⟩;rw[m.trees];refine gC rfl<|jK<|bA<|thn (he aa s1 σ H1 _ p q1) λiv G S=>C8 S λy J N R Y=>bA<|thn (hf aa G σ J _ N Y) λfv s3 dq=>bY ?_;obtain⟨z,M,t,n,V,k,b,W,ey,Z,l,L,D⟩:=dq;subst ey;cases (show iv=Value.ref b from R);exact IN hu t W Z l n (λv g w' O c q=>⟨v,M,c,q,L v g⟩) λg O c=>⟨z,_,c,n,D g⟩
def XT(td ty q:AE):AE:=λj t R=>td j t λx h=>match x with
 |.R a=>(∃m,h a=some m/\IB m)/\ty j h λy n=>q j n λz g=>match y with
  |.D (.tuple p)=>opt (Nn p) λl=>opt (g a) λm=>match m with
   |.dt c=>c.length<sizeLine/\(∀v,Bw c l=some v->R v g)/\(Bw c l=none->R z (Ao g a<|.dt<|Dz c l z))
   |_=>False
  |_=>False
 |_=>False
def Xi{td ty N:AE}(hu:X.A.units+1<cLine)(S:VE X o td)(he:VE X e ty)(hf:VE X f N)(m:M2 X o "setdefault" a8 e f ao:=by exact⟨rfl,rfl,rfl,rfl⟩):VE X (.Call (.Attribute o "setdefault" a8) [e,f] [] ao) (XT td ty N) :=
 (IP hu S he hf m).imp λσ H Q zz=>B4 zz λG μ R D hc h hq=>⟨G,μ,_,D,hc,h,λx B v H1 n P rx hx=>by
  split at hx
  ·rename_i a;obtain⟨⟨m0,J,W⟩,hx⟩:=hx;cases rx;refine⟨a,rfl,Wv P J W,G,B,_,D.kp n,P,hx,λy M u H2 t V ry hy=>⟨G,M,_,(D.kp n).kp t,V,hy,λz U zv H3 q L O hz=>?_⟩⟩;split at hz
   ·obtain⟨l,I,hz⟩:=A4 hz;obtain⟨m,Z,hz⟩:=A4 hz;split at hz
    ·rename_i g;obtain⟨ob,p,T,rfl,C⟩:=L _ _ Z;obtain⟨b,xs,rfl,hb,Y⟩:=(Dk.kp q _ _ ry).tup;obtain⟨e0,I⟩:=L5 I;have hb:=hb.heap e0;rw[Ha Y I]at hb;have c:=C.val l;refine⟨T,l,b,p,rfl,hb,by rw[<- bB C];exact hz.1,λv F=>?_,λF=>?_⟩
     ·rw[F]at c;cases j:Bw g l with
      |none=>rw[j]at c;exact c.elim
      |some w=>rw[j]at c;exact hq _ _ _ _ ((n.trans t).trans q) L c (hz.2.1 w j)
     ·rw[F]at c;have j:Bw g l=none:=by
       cases j:Bw g l with
       |none=>rfl
       |some w=>rw[j]at c;exact c.elim
      exact hq _ _ _ _ (((n.trans t).trans q).trans<|Kp.put p trivial _) (L.put p trivial (EJ<|C.put l O)) (O.kp<|Kp.put p trivial _) (hz.2.2 j)
    exact hz.elim
   exact hz.elim
  exact hx.elim⟩
def En(h:lH)(d:lB)(es:oC DictEntry)(ep:Nat):Prop:=∃o,h.get? d=some o/\o.ExactDict/\o.data=.dict es ep
def En.ty{s:k_}{d:lB}{es:oC DictEntry}{ep:Nat}(x:En s.heap d es ep):s.TypeIs (.ref d) "dict" := by obtain⟨o,h1,h2,_⟩:=x;exact⟨o,h1,h2.1⟩
def En.mv{h h':lH}{d:lB}{es:oC DictEntry}{ep:Nat}(x:En h d es ep)(k:∀o,h.get? d=some o->h'.get? d=some o):En h' d es ep:=by obtain⟨o,h1,r⟩:=x;exact⟨o,k o h1,r⟩
def En.lt{h:lH}{d:lB}{es:oC DictEntry}{ep:Nat}(x:En h d es ep):d<h.objs.size:=by obtain⟨_,h1,_⟩:=x;exact N_ h1
def Xj{Q:kZ->k_->Prop}(h:(d==sysModules)=false)(c:En s.heap d es ep)
  (q:Q (.ref s.heap.objs.size) {s with heap:=s.heap.push {cls:=.type "dict_keyiterator",data:=.fields #[.ref d,.int 0 0,.int es.size 0,.int ep 0]}}):yL prog w A (pyIter<|.ref d) Q E s:=by
 have T:=c.ty;obtain⟨o,h1,h2,g⟩:=c;refine fO T F.slot_dict_iter<|aO F.slot_dict_iter T F.entry_dict_iter ?_<|F.args_dict_iter_1 _;unfold Builtin.«dict.__iter__» Builtin.Dict.dictSlotNone;refine A_<|A_<|gJ T<|show wpAny _ _ (pure<|Value.ref d) _ _ s from C_ ?_;show yL prog w _ (Builtin.Dict.showsAll d>>=_) _ _ s;unfold Builtin.Dict.showsAll;rw[h,O_ V_];refine A_<|C_<|A_<|dH h1 g<|A_<|eU h1 g<|A_<|aC<|C_ ⟨_,rfl,"dict_keyiterator",_,⟨_,K_ _ rfl,rfl⟩,F.slot_dict_keyiterator_next.lookup,?_⟩;simpa [rawInt] using q
def Xk{Q:oB kZ->k_->Prop}(j:s.heap.IsKeyIter it d i es.size ep)(n:En s.heap d es ep)(hi:i<es.size)
  (q:∀h,h.IsKeyIter it d (i+1) es.size ep->Heap.SameBut it s.heap h->Q (some es[i].key) {s with heap:=h}):yL prog w A (pyNext<|.ref it) Q E s:=by
 have T:=j.typeIs;obtain⟨o,g,p,c⟩:=id j;obtain⟨t,h1,h2,l⟩:=n;unfold pyNext;refine A_<|dQ<|aU (name:=Str.ofString "__next__") T F.slot_dict_keyiterator_next<|aO F.slot_dict_keyiterator_next T F.entry_dict_keyiterator_next ?_<|F.args_dict_keyiterator_next_1 _;refine A_<|C_<|A_<|A_ ?_
 first|refine A_ (eL T<|C_<|A_<|eM g c ?_)|refine A_<|fQ T<|C_<|A_<|eM g c ?_
 simp only[show Builtin.Dict_items.ownsTuple "dict_keyiterator" = false by decide,Bool.false_eq_true,if_false];show yL prog w _ (if(Value.ref d==Value.none)=true then _ else _) _ _ s;rw[O_<|by exact V_];refine A_<|C_<|A_<|dH h1 l ?_;rw[O_<|by simp];refine A_<|C_<|A_<|eU h1 l ?_;rw[O_<|by simp];refine C_ ?_;simp only[show ¬((i:Int)<0) by omega,if_false,Int.toNat_natCast,Array.getElem?_eq_getElem hi];refine A_ ?_
 first|refine A_ (eL T<|C_<|A_<|jA T ?_)|refine A_<|fQ T<|C_<|A_<|jA T ?_
 show yL prog w _ (setField (.ref it) 1 (rawInt<|(i:Int)+1)>>=_) _ _ s;refine A_ (dZ g c (by simp)<|A_<|bS ?_);have m:(s.heap.update it<|Obj.mapFields (·.setIfInBounds 1 (rawInt<|(i:Int)+1))).IsKeyIter it d (i+1) es.size ep:=⟨_,aP _ g<|fE<|cY c _,(iQ ..).trans p,by rw[cY c];simp[rawInt]⟩;refine A_<|jA (s:={s with heap:=s.heap.update it<|Obj.mapFields (·.setIfInBounds 1 (rawInt<|(i:Int)+1))}) m.typeIs<|show wpAny _ _ (pure es[i].key) _ _ _ from ?_;exact C_<|C_ ⟨_,rfl,C_<|q _ m<|aL ..⟩
def CA{Q:oB kZ->k_->Prop}(p:A.handled=none)(j:s.heap.IsKeyIter it d es.size es.size ep)(n:En s.heap d es ep)(q:∀l,Heap.ExtBut it s.heap l->Q none {s with heap:=l}):yL prog w A (pyNext<|.ref it) Q E s:=by
 have T:=j.typeIs;obtain⟨o,c,u,g⟩:=id j;obtain⟨t,h1,h2,h⟩:=n;unfold pyNext;refine A_<|dQ<|aU (name:=Str.ofString "__next__") T F.slot_dict_keyiterator_next<|aO F.slot_dict_keyiterator_next T F.entry_dict_keyiterator_next ?_<|F.args_dict_keyiterator_next_1 _;refine A_<|C_<|A_<|A_ ?_
 first|refine A_ (eL T<|C_<|A_<|eM c g ?_)|refine A_<|fQ T<|C_<|A_<|eM c g ?_
 simp only[show Builtin.Dict_items.ownsTuple "dict_keyiterator" = false by decide,Bool.false_eq_true,if_false];show yL prog w _ (if(Value.ref d==Value.none)=true then _ else _) _ _ s;rw[O_<|by exact V_];refine A_<|C_<|A_<|dH h1 h ?_;rw[O_<|by simp];refine A_<|C_<|A_<|eU h1 h ?_;rw[O_<|by simp];refine C_ ?_;simp only[show ¬((es.size:Int)<0) by omega,if_false,Int.toNat_natCast,Array.getElem?_eq_none<|Nat.le_refl es.size];refine A_ ?_
 first|refine A_ (eL T<|C_ ?_)|refine A_<|fQ T<|C_ ?_
 show yL prog w _ (setField (.ref it) 0 .none>>=_) _ _ s;refine A_ (dZ c g (by simp)<|show wpAny _ _ (newExc (.type "StopIteration") []>>=_) _ _ _ from A_ ?_);simp only[newExc,newTuple];refine A_ (aC (A_ (m:=firstArgMember _ _)<|eC (a:=Value.none) (by first|rfl|(simp only[firstArgMember];rfl))<|aC ?_<|by size_fits)<|by size_fits);simp only[raiseNew];refine A_<|jJ (?_:_);rw[show A.in1.handled=none from p];refine A_<|C_<|jW ?_;refine A_ (dW (T := "StopIteration") (b:=true) (by exact⟨_,K_ _ rfl,rfl⟩) iW ?_);exact C_<|q _<|((aL ..).extBut.push _).push _
def Tv(l:A.handled=none)(I d:lB)(m:d≠I)(es:oC DictEntry)(ep:Nat) :
  Walks prog w A I [I,d] [I] es.size (λi v=>∃e,es[i]?=some e/\v=e.key) (λi h=>h.IsKeyIter I d i es.size ep/\En h d es ep) where
 sub:=λb hb=>by
  have:b=I:=by simpa using hb
  simp[this]
 frame:=λ_ _ _ st k=>⟨st.1.at λo e=>k I (by simp) o e,st.2.mv λo e=>k d (by simp) o e⟩
 item:=λi s Q E hi st g=>Xk st.1 st.2 hi λc x j=>g _ c s.toks ⟨es[i],by simp[hi],rfl⟩ ⟨x,st.2.mv λo e=>j.extBut d o m e⟩ λb o hb e=>j.extBut b o (λz=>hb<|by simp[z]) e
 done:=λs Q E st g=>CA l st.1 st.2 λc x=>g c s.toks λb o hb e=>x b o (λz=>hb<|by simp[z]) e
 self:=λ_ _ _ _ st q=>wpAny_pyIter_keyiter st.1 q
def CB(lo:(d==sysModules)=false):PySem.W.KdlSrc prog w "dict" d d es.size (λi v=>∃e,es[i]?=some e/\v=e.key) (λh=>En h d es ep) where
 type:=λ_ x=>x.ty
 there:=λ_ x=>⟨x.lt,x.lt⟩
 keep:=λ_ _ x k=>x.mv λo e=>k d (.inl rfl) o e
 notList:=by decide
 notTuple:=by decide
 hint:=λ_ _ _ _ x q=>PySem.W.kdl_hint_dict x.ty q
 iter:=λ_ _ c x=>⟨_,_,(λ_ _ q=>Xj lo x q),Tv c _ d (Z_ x.lt) es ep,⟨⟨_,K_ _ rfl,rfl,rfl⟩,x.mv λo e=>DD _ e⟩⟩
theorem ET:∀(c:oA lB),Vals (c.map V.ref) (c.map Value.ref)
 |[]=>.nil
 |_::c=>.cons rfl<|ET c
theorem Rs{h c j:Type}{F:h->c->Prop}{G:h->j->Prop}{f:c->j}:∀{l:oA h} {m:oA c},Paired F l m->(∀x y,F x y->G x (f y))->Paired G l (m.map f)
 |_,_,.nil,_=>.nil
 |_,_,.cons r t,g=>.cons (g _ _ r)<|Rs t g
def Mb(hc:X.calm=true):Et X (.type "list") (λB H Q=>∃a g,B=[.ref a]/\H a=some (.dT g)/\∀l (x:oA lB),H l=none->Paired (λ(p:oA Key×V) b=>H b=some (.tup<|p.1.map kV)) g x->Q (.ref l) (upd H l<|.lst<|x.map V.ref)):=by
 intro aa s σ H B Y Q I r h;obtain⟨a,g,rfl,ha,q⟩:=h;obtain⟨u,rfl,P⟩:=Eg r;cases P;obtain⟨hz,v,n,t,o,es,ep,h1,h2,M,D,_⟩:=M9 I.hok ha;have F:=bB t;have J:es.size=n.length:=by have:=b_ List.length D;simpa using this
 refine PySem.W.kdl_call (CB (es:=es) (ep:=ep) v) (I.ok.hd hc) ⟨o,h1,h2,M⟩ (by rw[J,<- F];exact hz) λU S m c N O C=>?_;have R:m.toList=(n.map λy=>y.2.1).map Value.ref:=by
  refine iP λj=>?_;rw[bP];rcases(fN j m.size) with hj|hj;obtain⟨e,L,T⟩:=C.2 j m[j] (by simp[hj]);have G:(n.map<|entryOfKey<|tupleKind<|Bo X.prog X.w)[j]?=some e:=by rw[<- D,bP];exact L
  rw[L_]at G;obtain⟨y,hy,rfl⟩:=H_.mp G;rw[L_,L_,hy,bN hj,T];rfl;rw[gF hj,fD<|by rw[B_,B_,<- J,<- C.1];exact hj]
 have x:Paired (λ(p:oA Key×V) b=>H b=some (.tup<|p.1.map kV)) g (n.map λy=>y.2.1):=Rs t λp y z=>z.2.1;refine⟨.ref s.heap.objs.size,_,I.laid (t':=S) (o:=.lst<|(n.map λy=>y.2.1).map V.ref) N (F_ _) ?_,rfl,q _ _ (I.hok.fresh<|F_ _) x⟩;exact⟨by rw[B_,B_,<- F];exact hz,m.toList,c,by rw[R];exact ET _,by simpa using O⟩
def Xl:AC:=λh c R=>match h with
 |[.R a]=>opt (c a) λm=>match m with
  |.dt g=>∀p,c p=none->R (.R p) (Ao c p<|.lst<|g.map λq=>.D<|.tuple<|q.1.map IK)
  |_=>False
 |_=>False
theorem Qe{K:lC}{H:Hp}:∀(ks:oA Key),Ap K H (ks.map IK) (ks.map kV)
 |[]=>Cr
 |k::ks=>B8 (OE k)<|Qe ks
theorem Rt{K:lC}{H:Hp}:∀{kvs:oA<|oA Key×AV} {g:oA<|oA Key×V} {c:oA lB},Ex K H kvs g->Paired (λ(p:oA Key×V) b=>H b=some (.tup<|p.1.map kV)) g c->A5 K H (kvs.map λq=>.D<|.tuple<|q.1.map IK) (c.map V.ref)
 |[],_,_,r,p=>by cases r;cases p;exact .nil
 |_::_,_,_,r,p=>by
  cases r with
  |cons h m=>
   cases p with
   |cons j l=>refine .cons ?_<|Rt m l;dsimp only;rw[h.1];exact Gw j<|Qe _
def CC(x:X.calm=true):VCall X (.type "list") Xl:=by
 intro aa s σ H B y Q I r u;refine B4 u λas D R v c h hq=>?_;unfold Xl at h;split at h
 ·rename_i a;obtain⟨m,j,h⟩:=A4 h;split at h
  ·rename_i p;obtain⟨o,q,z,rfl,rk⟩:=c _ _ j;cases v with
   |cons n t=>cases t;cases n;exact Mb x aa s σ H _ y Q I r ⟨a,z,rfl,q,λl C g hp=>hq (.R l) _ _ _ (Kp.new g _) (c.new g<|Dh<|Rt rk hp) rfl<|h l<|c.none g⟩
  exact h.elim
 exact h.elim
end
end L2
namespace L2
open PySem PySem.Spec PyProof.Rows
def Ru(N:oA Str)(pn cn:oA<|Str×lN)(N':oA Str)(mp:oA<|oB Nat):Bool :=
 decide (N'.length=mp.length)&&decide N'.Nodup &&
 (List.range N'.length).all (λk=>match mp[k]?,N'[k]? with
  |some (some i),some x=>decide (N[i]?=some x)&&AZ pn x&&decide ((x,NameKind.free)∈cn)&&decide (cn.lookup x=some .free)
  |_,_=>true) &&
 cn.all (λp=>decide (p.2≠.cell)||decide (cn.lookup p.1=some .cell))&&cn.all (λp=>decide (p.2≠.free)||AZ pn p.1)&&cn.all (λp=>decide (p.2≠.local)||decide (cn.lookup p.1=some .local))
structure CompOkC(N:oA Str)(pn cn:oA<|Str×lN)(N':oA Str)(mp:oA<|oB Nat):Prop where
 len:N'.length=mp.length
 map:∀(k i:Nat) (x:Str),mp[k]?=some (some i)->N'[k]?=some x->N[i]?=some x/\(pn.lookup x=some .cell\/pn.lookup x=some .free)/\(x,NameKind.free)∈cn/\cn.lookup x=some .free
 ownc:∀p∈cn,p.2=.cell->cn.lookup p.1=some .cell
 free:∀p∈cn,p.2=.free->(pn.lookup p.1=some .cell\/pn.lookup p.1=some .free)
 loc:∀p∈cn,p.2=.local->cn.lookup p.1=some .local
def Ax{N:oA Str}{pn cn:oA<|Str×lN}{N':oA Str}{mp:oA<|oB Nat}(h:Ru N pn cn N' mp=true):CompOkC N pn cn N' mp:=by unfold Ru at h;obtain⟨h,g⟩:=(aV _ _).mp h;obtain⟨h,j⟩:=(aV _ _).mp h;obtain⟨h,b⟩:=(aV _ _).mp h;obtain⟨h,l⟩:=(aV _ _).mp h;obtain⟨h1,h2⟩:=(aV _ _).mp h;refine⟨aE h1,λk i x f a=>?_,λp hp e=>?_,λp hp e=>?_,λp hp e=>?_⟩;have hk:k<N'.length:=(D_.mp a).1;have q:=bR.mp l k<|cZ.mpr hk;simp only[f,a]at q;obtain⟨q,c⟩:=(aV _ _).mp q;obtain⟨q,n⟩:=(aV _ _).mp q;obtain⟨m,d⟩:=(aV _ _).mp q;exact⟨aE m,Nf d,aE n,aE c⟩;rcases(eQ _ _).mp (bR.mp b p hp) with z|z;exact absurd e<|aE z;exact aE z;rcases(eQ _ _).mp (bR.mp j p hp) with z|z;exact absurd e<|aE z;exact Nf z;rcases(eQ _ _).mp (bR.mp g p hp) with z|z;exact absurd e<|aE z;exact aE z
def relabel_back2{env:Env}{names:oA<|Str×lN}{x:Str}(h:((names.map λ(n,k)=>if(k==NameKind.free&&env.scope.kind==.function&&env.kindOf n==some .cell) then(n,NameKind.cell) else(n,k)).lookup x=some .cell \/
  (names.map λ(n,k)=>if(k==NameKind.free&&env.scope.kind==.function&&env.kindOf n==some .cell) then(n,NameKind.cell) else(n,k)).lookup x=some .free)):(x,NameKind.free)∈names\/(x,NameKind.cell)∈names:=by
 have a:∀k,(names.map λ(n,k)=>if(k==NameKind.free&&env.scope.kind==.function&&env.kindOf n==some .cell) then(n,NameKind.cell) else(n,k)).lookup x=some k->(k=.cell\/k=.free)->(x,NameKind.free)∈names\/(x,NameKind.cell)∈names:=λk hk hc=>by
  obtain⟨⟨n,c⟩,b,e⟩:=E_.mp<|mem_of_lookup hk;dsimp only at e;split at e;rename_i hb;cases e;simp only[Bool.and_eq_true]at hb;have:c=.free:=by simpa using hb.1.1
  subst this;exact .inl b;cases e;rcases hc with rfl|rfl;exact .inr b;exact .inl b
 exact h.elim (λz=>a _ z<|.inl rfl) λz=>a _ z<|.inr rfl
theorem cf_dich:∀{names:oA<|Str×lN} {n:Nat} {acc:oA<|Str×lB} {x:Str} {c:lB},(cellsFrom n names acc).lookup x=some c->(n<=c/\(x,NameKind.cell)∈names)\/acc.lookup x=some c
 |[],_,_,_,_,h=>.inr h
 | (d,k)::r,n,acc,x,c,h=>by
  unfold cellsFrom at h;split at h
  ·rename_i hk;have hk:k=.cell:=by simpa using hk
   rcases cf_dich h with⟨a,b⟩|z;exact .inl ⟨Nat.le_of_succ_le a,.tail _ b⟩
   ·rw[dC]at z;cases e:x==d with
    |true=>rw[e]at z;cases z;rw[beq_iff_eq.mp e,hk];exact .inl ⟨F_ _,.head _⟩
    |false=>rw[e]at z;exact .inr z
  rcases cf_dich h with⟨a,b⟩|z;exact .inl ⟨a,.tail _ b⟩;exact .inr z
theorem Fw:∀{names:oA<|Str×lN} {n:Nat} {acc:oA<|Str×lB} {x:Str},(∃c,acc.lookup x=some c)->∃c,(cellsFrom n names acc).lookup x=some c
 |[],_,_,_,h=>h
 | (a,k)::r,n,acc,x,⟨c,h⟩=>by
  unfold cellsFrom;split
  ·refine Fw ?_;rw[dC];cases x==a with
   |true=>exact⟨_,rfl⟩
   |false=>exact⟨c,h⟩
  exact Fw ⟨c,h⟩
theorem Qf:∀{names:oA<|Str×lN} {n:Nat} {acc:oA<|Str×lB} {x:Str},(x,NameKind.cell)∈names->∃c,(cellsFrom n names acc).lookup x=some c
 | (a,k)::r,n,acc,x,h=>by unfold cellsFrom;rcases aD.mp h with e|e;cases e;rw[T_<|show(NameKind.cell==NameKind.cell)=true from rfl];refine Fw ?_;rw[dC,kI];exact⟨_,rfl⟩;split;exact Qf e;exact Qf e
theorem Qg:∀{names:oA<|Str×lN} {n:Nat} {acc:oA<|Str×lB},(∀x y c,acc.lookup x=some c->acc.lookup y=some c->x=y)->(∀x c,acc.lookup x=some c->c<n)->∀x y c,(cellsFrom n names acc).lookup x=some c->(cellsFrom n names acc).lookup y=some c->x=y
 |[],_,_,h,_,x,y,c,f,d=>h x y c f d
 | (i,k)::r,n,acc,h,g,x,y,c,f,d=>by unfold cellsFrom at f d;split at f;rename_i hk;rw[T_ hk]at d;refine Qg (acc:=(i,n)::acc) (λx y c f d=>?_) (λx c e=>?_) x y c f d;rw[dC]at f d;cases a:x==i<;>cases b:y==i<;>rw[a]at f<;>rw[b]at d;exact h x y c f d;cases d;exact absurd (g _ _ f)<|cF _;cases f;exact absurd (g _ _ d)<|cF _;rw[beq_iff_eq.mp a,beq_iff_eq.mp b];rw[dC]at e;cases a:x==i<;>rw[a]at e;exact bZ<|g x c e;cases e;exact eE _;rename_i hk;rw[O_ hk]at d;exact Qg h g x y c f d
theorem Mc:∀{names:oA<|Str×lN} {h:lH} {acc:oA<|Str×lB},(∀x c,acc.lookup x=some c->∃v,h.IsCell c v)->∀x c,(cellsFrom h.objs.size names acc).lookup x=some c->∃v,(pushCells h names).IsCell c v
 |[],_,_,hc,x,c,e=>hc x c e
 | (f,k)::r,h,acc,hc,x,c,e=>by
  unfold cellsFrom at e;unfold pushCells;split at e;rename_i hk;rw[T_ hk];have g:(cellsFrom (h.push {cls:=.type "cell",data:=.cell none}).objs.size r<|(f,h.objs.size)::acc).lookup x=some c:=by rw[c_];exact e
  refine Mc (λy d z=>?_) x c g;rw[dC]at z;cases a:y==f<;>rw[a]at z;obtain⟨v,q⟩:=hc y d z;exact⟨v,q.keeps λb o e=>DD _ e⟩;cases z;exact⟨none,_,K_ _ rfl,rfl⟩;rename_i hk;rw[O_ hk];exact Mc hc x c e
def Md(names:oA<|Str×lN)(x:Str):Bool:=match names.lookup x with
 |some .cell=>true
 |_=>false
theorem Qh:∀{names:oA<|Str×lN} {n m:Nat} {acc:oA<|Str×lB} {x:Str} {c:lB},m<=n->(cellsFrom n names acc).lookup x=some c->((x,NameKind.cell)∈names\/∀b,acc.lookup x=some b->m<=b)->m<=c
 |[],_,_,_,_,_,_,h,z=>z.elim (λz=>nomatch z) λz=>z _ h
 | (f,k)::r,n,m,acc,x,c,d,h,z=>by
  unfold cellsFrom at h;split at h
  ·refine Qh (bK d) h ?_;cases a:x==f with
   |true=>refine .inr λb e=>?_;rw[dC,a]at e;cases e;exact d
   |false=>rcases z with z|z;rcases aD.mp z with e|e;cases e;rw[kI]at a;cases a;exact .inl e;refine .inr λb e=>?_;rw[dC,a]at e;exact z b e
  rename_i hk;refine Qh d h<|z.imp_left λz=>?_;rcases aD.mp z with e|e;cases e;exact absurd rfl hk;exact e
def Qi{names:oA<|Str×lN}{x:Str}(h:Md names x=true):(x,NameKind.cell)∈names:=by unfold Md at h;split at h;rename_i e;exact mem_of_lookup e;cases h
def Me{M:Model}{A:lG}{E:kZ->k_->Prop}{s:k_}{a:lM}{globals:lB}{cl:oA<|Str×lB}{b:Str}{outer:Env}{Q:Env->k_->Prop}
  (f:Q (newEnv a s.heap.objs.size globals (cellsFrom (s.heap.objs.size+1) a.names cl) b none .none (some outer) builtinsNs) {s with heap:=pushCells (s.heap.push {cls:=.type "dict",data:=.dict #[]}) a.names}) :
  wpAny M A (newFunctionEnv a globals cl [] b none .none<|some outer) Q E s:=by
 simp only[newFunctionEnv,Option.isSome_some,if_true];refine A_<|wpAny_alloc ?_;refine A_ (wpAny_layCells _ (λe c d=>by cases hkc:c==NameKind.cell<;>simp[hkc]) _ _ _ _ ?_);rw[show({s with heap:=s.heap.push {cls:=.type "dict",data:=.dict #[]}}:k_).heap.objs.size=s.heap.objs.size+1 from c_ ..];exact A_<|by rw[List.forIn_nil];exact C_<|C_ f
def Bl(X:Cx)(N':oA Str)(a:lM)(C:lB)(s:k_)(H:Hp)(fp:oA lB):Cx :=
 {X with N:=N',s₀:=s,H₀:=H,env:=compEnvC a (cellsFrom (C+1) a.names<|Ev X.env.cells a.names []) C X.env,outer:=X.stack,stack:=X.stack,ex:=fp,fn:=Md a.names,pn:=[],xe:=λ_ _=>False}
section
variable {X:Cx}{N':oA Str}{mp:oA<|oB Nat}{dj tg iter:lF}{c7:oA lF}{scope:lM}{pos:Pos}{wi:TI}{g:TG}{tst:TT}{te:TE}
def Inv.comp0C{L:oA<|lB×lI}{f:St}{H:Hp}{s:k_}{fp:oA lB}{tn:lH->Prop}{a:lH}{tk:Nat}{C:lB}(ok:CompOkC X.N X.env.scope.names scope.names N' mp)(hk:scope.kind=.function) (I:Inv X L f H s) (F:∀b∈fp,Fj X L H b) (Z:∀b∈fp,∃o,s.heap.get? b=some o) (hC:C=s.heap.objs.size+1) (O:∃m,a.Ns C m) (d:∀b o,s.heap.get? b=some o->a.get? b=some o) (bt:∃n,a.get? s.heap.objs.size=some {cls:=.type "list",data:=.seq #[] n}) (fq:∀x c,(cellsFrom (C+1) scope.names<|Ev X.env.cells scope.names []).lookup x=some c->∃v,a.IsCell c v) :
  Inv (Bl X N' scope C s H fp) [] (Nd mp f) (upd H s.heap.objs.size<|.lst []) {s with heap:=a,toks:=tk}:=by
 subst hC;have P:∀x∈scope.names,x.2=.free->∃c,X.env.cells.lookup x.1=some c:=λx hx e=>I.ok.has x.1<|ok.free x hx e;have sub:∀x c,(Ev X.env.cells scope.names []).lookup x=some c->X.env.cells.lookup x=some c:=G6 P (λx c e=>by simp at e);have D:∀x c,(cellsFrom (s.heap.objs.size+1+1) scope.names<|Ev X.env.cells scope.names []).lookup x=some c->(s.heap.objs.size+1+1<=c/\(x,NameKind.cell)∈scope.names)\/X.env.cells.lookup x=some c:=λx c e=>(cf_dich e).imp_right λz=>sub x c z;have M:∀b∈fp,b<s.heap.objs.size:=λb hb=>by obtain⟨_,e⟩:=Z b hb;exact N_ e
 have A:H (s.heap.objs.size+1)=none:=I.hok.fresh<|bU _;have B:H s.heap.objs.size=none:=I.hok.fresh<|F_ _;have W:∀b∈fp,b∉frs X.stack:=λb hb z=>by obtain⟨_,V,f2,_⟩:=F b hb;rcases aD.mp (I.stkSub b z) with e|e;exact V e;exact f2 e
 refine⟨⟨I.ok.mod,hk,I.ok.glob,I.ok.blt,bU _,Qg (λx y c w E=>I.ok.inj x y c (sub x c w)<|sub y c E) (λx c e=>by obtain⟨_,z⟩:=I.cell x c<|sub x c e;exact bZ<|bZ z.lt),λx e=>?_,λx c ly e=>G_ (bK<|bU _)<|Qh (F_ _) e<|.inl<|Qi ly,I.ok.hd,I.ok.frames,.inl rfl,λb hb=>⟨?_,λx c e=>?_⟩,I.bs,G_ I.ok.bsz I.sz,λb o e hb=>?_,W,I.stack,I.stkFree⟩,
  rfl,I.bare,Un.laid d (F_ _) B,?_,λx c e=>?_,?_,λx c e=>?_,λp hp=>(nomatch hp),I.hok.laid d (F_ _) ?_,?_⟩
 rcases relabel_back2 e with z|z;exact Fw<|G7 z;exact Qf z;exact Z_<|bZ<|M b hb;rcases D x c e with⟨z,_⟩|z;exact λq=>absurd (q ▸ M b hb)<|jE<|G_ (bK<|bU _) z;exact(F b hb).2.2.2.2.1 x c z;rcases(F b hb).2.2.2.1 with z|z;exact I.ok.noex b o e z;exact absurd (S_ (N_ e)<|G_ I.ok.bsz z)<|cF _
 ·obtain⟨m,R⟩:=O;refine⟨m,R,λi x v w E e3=>?_⟩;have h:(Nd mp f)[i]?=some (some v):=E;unfold Nd at h;rw[L_]at h;cases hmp:mp[i]? with
  |none=>rw[hmp]at h;cases h
  |some o=>
   rw[hmp]at h;cases o with
   |none=>cases h
   |some j=>
    have Y:f[j]?=some (some v):=by
     have q:(f[j]?).join=some v:=aR h;cases hj:f[j]? with
     |none=>rw[hj]at q;cases q
     |some y=>rw[hj]at q;exact b_ some q
    obtain⟨a1,a2,U,G⟩:=ok.map i j x hmp w;obtain⟨m0,S,Q⟩:=I.loc;obtain⟨u,r,l⟩:=Q j x v a1 Y<|a2.elim (λz=>.inr<|.inl z) λz=>.inr<|.inr z;refine⟨u,r,.inr ⟨?_,?_⟩⟩;exact Lv G;rcases l with⟨t,_⟩|⟨_,c,l2,T⟩;have t:X.env.scope.names.lookup x=some .local:=t;rcases a2 with a2|a2<;>rw[a2]at t<;>cases t;obtain⟨k,J⟩:∃k,(cellsFrom (s.heap.objs.size+1+1) scope.names<|Ev X.env.cells scope.names []).lookup x=some k:=Fw<|G7 U;have:k=c:=by rcases D x k J with⟨_,z⟩|z;have:=ok.ownc _ z rfl;rw[G]at this;cases this;exact aR<|z.symm.trans l2
    subst this;exact⟨k,J,T.keeps d⟩
 exact fq x c e
 show upd H s.heap.objs.size (.lst []) (s.heap.objs.size+1)=none;rw[An<|gN _];exact A;show upd H s.heap.objs.size (.lst []) c=none;rcases D x c e with⟨z,_⟩|z;rw[An<|dJ<|S_ (bZ<|eE _) z];exact I.hok.fresh<|G_ (bK<|bU _) z;obtain⟨v,y⟩:=I.cell x c z;rw[An<|Z_ y.lt];exact I.freeC x c z;obtain⟨n,e⟩:=bt;exact⟨aN _,[],n,.nil,e⟩;show(Nd mp f).length=N'.length;unfold Nd;rw[B_,ok.len]
def Le{aa:oA<|lB×lI}{σ:St}{H:Hp}{s:k_}{it:lB}{fp:oA lB}{tn:Nat->lH->Prop}{J:It}{Q:lB->Hp->Prop}{E:kZ->k_->Prop}{RR:kZ->lB->lO->k_->Prop}
  (ok:CompOkC X.N X.env.scope.names scope.names N' mp) (hk:scope.kind=.function) (hc:X.calm=true) (I:Inv X aa σ H s) (T:Turn X.prog X.w X.K tg J fp it tn) (st:tn 0 s.heap) (hf:∀b∈fp,Fj X aa H b)
  (hg:∀C s H fp,PG (Bl X N' scope C s H fp) tg g) (ht:∀C s H fp,PIfs (Bl X N' scope C s H fp) c7 tst) (he:∀C s H fp,PE (Bl X N' scope C s H fp) dj te)
  (h:∀p,H p=none->Vr p J g tst te (Q p) (Nd mp σ) (upd H p<|.lst []))
  (hRR:∀C O H',Inv X aa σ H' O->(∃m,O.heap.Ns C m)->H' C=none->X.s₀.heap.objs.size<=C->C≠X.env.locals->(∀x c,X.env.cells.lookup x=some c->c≠C)->(∀q∈X.pn++aa,q.1≠C)->Q s.heap.objs.size H'->RR (.ref s.heap.objs.size) C (.ok .next) O) :
  yL X.prog X.w X.A (newList []) (λf a=>yL X.prog X.w X.A (newFunctionEnv scope X.env.globals (Ev X.env.cells scope.names []) [] X.env.qual none .none<|some X.env) (λpb R=>
   codeAny (model X.prog X.w) X.A (.compStart (.ListComp dj [⟨tg,iter,c7,0⟩] scope pos) 0 (.ref it) f {pb with scope:=relabel scope X.env}) (RR f pb.locals) R) E a) E s:=by
 refine aC<|Me ?_;dsimp only;generalize vm:s.heap.push {cls:=.type "list",dict:=none,data:=.seq ([]:oA kZ).toArray}=H2;have hC:H2.objs.size=s.heap.objs.size+1:=by rw[<- vm,c_]
 have we:∀b o,H2.get? b=some o->(pushCells (H2.push {cls:=.type "dict",data:=.dict #[]}) scope.names).get? b=some o:=λb o e=>pushCells_keeps _ _ b o<|DD _ e;have j:∀b o,s.heap.get? b=some o->(pushCells (H2.push {cls:=.type "dict",data:=.dict #[]}) scope.names).get? b=some o:=λb o e=>we b o<|vm ▸ DD _ e;have bt:∃n,(pushCells (H2.push {cls:=.type "dict",data:=.dict #[]}) scope.names).get? s.heap.objs.size=some {cls:=.type "list",data:=.seq #[] n} :=
  ⟨_,we _ _<|vm ▸ K_ _ rfl⟩
 have l:(pushCells (H2.push {cls:=.type "dict",data:=.dict #[]}) scope.names).Ns H2.objs.size λ_=>none:=(Heap.Ns.new H2<|.type "dict").keeps<|pushCells_keeps _ _;have w5:∀x∈scope.names,x.2=.free->∃c,X.env.cells.lookup x.1=some c:=λx hx e=>I.ok.has x.1<|ok.free x hx e;have fq:∀x c,(cellsFrom (H2.objs.size+1) scope.names<|Ev X.env.cells scope.names []).lookup x=some c->∃v,(pushCells (H2.push {cls:=.type "dict",data:=.dict #[]}) scope.names).IsCell c v:=λx c e=>by refine Mc (h:=H2.push {cls:=.type "dict",data:=.dict #[]}) (λy d z=>?_) x c (by rw[c_];exact e);obtain⟨v,q⟩:=I.cell y d (G6 w5 (λx c e=>by simp at e) y d z);exact⟨v,q.keeps λb o e=>DD _<|vm ▸ DD _ e⟩
 generalize pushCells (H2.push {cls:=.type "dict",data:=.dict #[]}) scope.names=h₁ at j bt l fq;have iq:∀b∈fp,∃o,s.heap.get? b=some o:=λb hb=>by obtain⟨o,e,_⟩:=T.obj _ _ st b hb;exact⟨o,e⟩
 have kr:s.heap.objs.size<=H2.objs.size:=by rw[hC];exact bU _
 have I0:=I.comp0C (tn:=tn 0) (C:=H2.objs.size) (tk:=s.toks) ok hk hf iq hC ⟨_,l⟩ j bt fq;have l7:tn 0 h₁:=T.keep _ _ _ st λb hb o e=>j b o e;obtain⟨W,⟨m0,w0⟩,fg⟩:=h _<|I.hok.fresh<|F_ _;have mh:∀b∈fp,b∉frs X.stack:=I0.ok.exfs;have g9:∀{H':Hp},(∀b∈fp,H' b=none)->∀b∈fp,Fj (Bl X N' scope H2.objs.size s H fp) [] H' b:=λhn b hb=>
  ⟨hn b hb,(I0.ok.exf b hb).1,mh b hb,.inl hb,(I0.ok.exf b hb).2,λq hq=>(nomatch hq)⟩
 have pg:∀a:k_,a={s with heap:=h₁} ->
   codeAny (model X.prog X.w) X.A (.compLoop (.ListComp dj [⟨tg,iter,c7,0⟩] scope pos) 0 (.ref it) (.ref s.heap.objs.size)<|compEnvC scope (cellsFrom (H2.objs.size+1) scope.names<|Ev X.env.cells scope.names []) H2.objs.size X.env) (RR (.ref s.heap.objs.size) H2.objs.size) a:=by
  rintro a rfl;refine Nc (λn O=>∃i f k H',Inv (Bl X N' scope H2.objs.size s H fp) [] k H' O/\tn i O.heap/\(∀b∈fp,H' b=none)/\W i n f k H') ?_ m0
   ⟨0,[],_,_,I0,l7,λb hb=>by rw[An<|Z_ (by obtain⟨_,e⟩:=iq b hb;exact N_ e)];exact(hf b hb).1,w0⟩
  rintro n s3 ⟨i,f,t,Y,I3,S,P,w3⟩;rcases fg i n f t Y w3 with⟨stop,qn⟩|⟨go,N,hN,step⟩;refine thn (T.done (Bl X N' scope H2.objs.size s H fp) rfl rfl rfl hc i [] s3 t Y _ I3 (g9 P) S stop) λr s4 ⟨hr,M⟩=>?_;subst hr;refine hRR _ s4 Y ?_ (by obtain⟨m,hm,_⟩:=M.loc;exact⟨m,hm⟩) M.free (G_ I.sz kr) (dJ<|S_ I.lt kr) (λx c e=>?_) (λq hq=>?_) qn;exact I.call' M.os M.base M.hok M.bare λb hb=>by obtain⟨_,f1,_,f3,f4,f5⟩:=hf b hb;exact⟨f3,f1,f4,f5⟩
  obtain⟨v,z⟩:=I.cell x c e;exact Z_<|S_ z.lt kr;exact Z_<|S_ (N_ (I.pin q hq).1) kr
  ·refine thn (T.item (Bl X N' scope H2.objs.size s H fp) rfl rfl rfl hc i [] s3 t Y _ I3 (g9 P) S go) λr s4 ⟨u,hr,h4⟩=>?_;subst hr;refine thn h4 λ_ s5 uf=>?_;obtain⟨x,H5,I5,r5,y5,D,fr5⟩:=uf;have I5':=I5.pinned (g9 fr5)<|T.obj _ _ D;refine thn (hg _ _ _ _ _ s5 t H5 x u _ I5' r5<|step x H5 y5) λ_ s6 p6=>?_;obtain⟨G,H6,I6,q6⟩:=p6;refine thn (ht _ _ _ _ _ s6 G H6 _ I6 q6) λb s7 ⟨H7,I7,Z⟩=>?_;have again:∀{B:St} {F:Hp} {m4:oA V} {L:k_},Inv (Bl X N' scope H2.objs.size s H fp) ([]++Iq fp s5.heap) B F L->(∃m',m'<n/\W (i+1) m' m4 B F) ->
     ∃m,m<n/\∃i f k H',Inv (Bl X N' scope H2.objs.size s H fp) [] k H' L/\tn i L.heap/\(∀b∈fp,H' b=none)/\W i m f k H':=λ{B F m4 L} U hw=>by
    obtain⟨m',hm,w8⟩:=hw;refine⟨m',hm,i+1,m4,B,F,U.unpinned,T.keep _ _ _ D λb hb o e=>(U.pin (b,o)<|aK _<|aK _<|E6 hb e).1,λb hb=>?_,w8⟩;obtain⟨o,e,d⟩:=T.obj _ _ D b hb;exact(U.pin (b,o)<|aK _<|aK _<|E6 hb e).2.1
   cases b with
   |false=>rw[O_ V_];rw[O_ V_]at Z;exact again I7 (hN _ _ _ Z)
   |true=>rw[T_ rfl];rw[T_ rfl]at Z;refine thn (he _ _ _ _ _ s7 G H7 _ I7 Z) λy L rf=>?_;obtain⟨v,F,U,r8,ac,e8,z8,w8⟩:=rf;refine thn (Ks (X:=Bl X N' scope H2.objs.size s H fp) _ L G F (.ref s.heap.objs.size) [v] (.ref s.heap.objs.size) [y] (λ_ H9=>H9=upd F s.heap.objs.size (.lst<|ac++[v])) U rfl (.cons r8 .nil) ⟨_,ac,v,rfl,rfl,e8,z8,rfl⟩) λ_ s9 p5=>?_;obtain⟨_,H9,I9,_,e9⟩:=p5;subst e9;exact again I9<|hN _ _ _ w8
 exact codeAny_compStart_list (pg _ rfl)<|T.self _ 0 _ _ _ l7<|pg _ rfl
def N7(hc:X.calm=true)(hi:PI X tg iter wi)(z:∀C s H a,PG (Bl X N' scope C s H a) tg g)(k:∀C s H a,PIfs (Bl X N' scope C s H a) c7 tst)(he:∀C s H a,PE (Bl X N' scope C s H a) dj te)
  (ok:CompOkC X.N X.env.scope.names scope.names N' mp) (hk:scope.kind=.function:=by rfl) (t:∀x,foldedSetIterable iter X.env x=pure x:=by intro _;rfl) :
  PE X (.ListComp dj [⟨tg,iter,c7,0⟩] scope pos) (Vs mp wi g tst te):=by
 intro f s d H Q I h;rw[eval_ListComp];refine wpAny_comprehension_free (use:=none) rfl t (Gn λx hx e=>I.ok.has x.1<|ok.free x hx e) hk ok.loc<|thn (hi f s d H _ I h) λv U h1=>thn h1 λM o h2=>?_;obtain⟨S,a,L,J,O,e,r,T,n,G,u⟩:=h2;subst e;refine Le (Q:=λp c=>Q (.ref p) c) (RR:=λb C=>compPost (model X.prog X.w) X.A X.xe none (EP X f d Q) b C) ok hk hc r T n G z k he u ?_;intro C R c D i y h1 B j F q;obtain⟨m,l⟩:=i;exact⟨m,l,λP E=>⟨.ref o.heap.objs.size,c,D.letgo y h1 B j F E,rfl,q⟩⟩
def Xm{i:Nat}{y:Str}{d t:Pos}(hc:X.calm=true)(Z:X.N.Nodup)(M:X.N[i]?=some y)(hy:X.env.scope.names.lookup y=some .local)
  (hi:PI X tg iter wi) (W:∀C s H b,PG (Bl X N' scope C s H b) tg g) (E:∀C s H b,PIfs (Bl X N' scope C s H b) c7 tst) (he:∀C s H b,PE (Bl X N' scope C s H b) dj te)
  (ok:CompOkC X.N X.env.scope.names scope.names N' mp) (O:swapsWith (.ListComp dj [⟨tg,iter,c7,0⟩] scope pos) (some<|.Name y d) t.line X.env=pure true:=by rfl)
  (hk:scope.kind=.function:=by rfl) (R:∀x,foldedSetIterable iter X.env x=pure x:=by intro _;rfl) :
  PS X (.Assign [.Name y d] (.ListComp dj [⟨tg,iter,c7,0⟩] scope pos) t) (Z0 (Vs mp wi g tst te)<|U3 i):=by
 intro j s u H D I h;rw[exec_Assign_Name_used _ _ _ _ O];refine A_<|wpAny_standAt<|A_ ?_;show wpAny _ _ (do let _ <- comprehension (.ListComp dj [⟨tg,iter,c7,0⟩] scope pos) scope X.env _ (newList []) false (eval iter X.env) (some<|assign (.Name y d) X.env)) _ _ s;refine A_<|aM (wpAny_comprehension_free (use:=some<|assign (.Name y d) X.env) (Q:=λ_ c=>SP X j D .next c) rfl R (Gn λx hx e=>I.ok.has x.1<|ok.free x hx e) hk ok.loc
  (thn (hi j s u H _ I h) λv s1 h1=>thn h1 λvx r h2=>?_)) (λ_ c hq=>C_<|C_ hq) λ_ _ e=>e
 obtain⟨it,b,tn,J,H2,e,P,T,G,f2,S⟩:=h2;subst e;refine Le (Q:=λp n=>D.nx (u.set i<|some<|.ref p) n) (RR:=λl C=>compPost (model X.prog X.w) X.A X.xe (some<|assign (.Name y d) X.env) (λ_ c=>SP X j D .next c) l C) ok hk hc P T G f2 W E he S ?_;intro C c n Y B V h1 z o n8 q;obtain⟨m,F⟩:=B;show wpAny _ _ (assign (.Name y d) X.env<|.ref r.heap.objs.size) _ _ c;refine wpAny_assign_Name<|Kk Y Z M (.inl hy) (v:=.ref r.heap.objs.size) rfl (λv5 k L=>?_)<|.inr hy;obtain⟨a,U,ha⟩:=L;have f:C≠a:=by rcases ha with rfl|ha;exact z;exact(o _ _ ha).symm
 refine⟨m,F.sameBut U f,λh' cp=>?_⟩;exact⟨_,n,k.letgo V h1 z o n8 cp,q⟩
def Bq{wi:AI}{g:AG}{tst:AT}{te:AE}(hc:X.calm=true)(hi:VI X tg iter wi)(d:∀C s H a,VG (Bl X N' scope C s H a) tg g)(c:∀C s H a,VIfs (Bl X N' scope C s H a) c7 tst)(he:∀C s H a,VE (Bl X N' scope C s H a) dj te)
  (ok:CompOkC X.N X.env.scope.names scope.names N' mp) (hk:scope.kind=.function:=by rfl) (b:∀x,foldedSetIterable iter X.env x=pure x:=by intro _;rfl) :
  VE X (.ListComp dj [⟨tg,iter,c7,0⟩] scope pos) (Nm mp wi g tst te):=(N7 (g:=cG X.K g) (tst:=cT X.K tst) (te:=cE X.K te) hc hi (λC s H a=>d C s H a) (λC s H a=>c C s H a) (λC s H a=>he C s H a) ok hk b).imp λ_ _ _ h=>K7 h
def D7{wi:AI}{g:AG}{tst:AT}{te:AE}{i:Nat}{y:Str}{f d:Pos}(hc:X.calm=true)(r:X.N.Nodup)(l:X.N[i]?=some y)(hy:X.env.scope.names.lookup y=some .local)
  (hi:VI X tg iter wi) (q:∀C s H a,VG (Bl X N' scope C s H a) tg g) (j:∀C s H a,VIfs (Bl X N' scope C s H a) c7 tst) (he:∀C s H a,VE (Bl X N' scope C s H a) dj te)
  (ok:CompOkC X.N X.env.scope.names scope.names N' mp) (m:swapsWith (.ListComp dj [⟨tg,iter,c7,0⟩] scope pos) (some<|.Name y f) d.line X.env=pure true:=by rfl)
  (hk:scope.kind=.function:=by rfl) (c:∀x,foldedSetIterable iter X.env x=pure x:=by intro _;rfl) :
  VS X (.Assign [.Name y f] (.ListComp dj [⟨tg,iter,c7,0⟩] scope pos) d) (Tk (Nm mp wi g tst te)<|Ei i):=(Xm (g:=cG X.K g) (tst:=cT X.K tst) (te:=cE X.K te) hc r l hy hi (λC s H a=>q C s H a) (λC s H a=>j C s H a) (λC s H a=>he C s H a) ok m hk c).imp λD u H b=>Ge b λo t z nr w B c hc h hq=>
 K7 (K:=X.K) ⟨o,t,_,c,hc,h,λx k v A e p n hx=>hq.nx _ _ _ _ e ((c.kp e).set n i) p hx⟩
end
end L2
namespace L2
open PySem PySem.Spec PySem.Calls PyProof.Rows
abbrev RIt(h:lH)(it d:lB)(i n ep:Nat)(z:kZ)(f:Bool)(ok ov:kZ):Prop :=
 h.get? it=some {cls:=.type "dict_itemiterator",dict:=none,data:=.fields #[z,.bool f,.ref d,.int i 0,.int n 0,.int ep 0,ok,ov],slots:=#[]}
section
variable {prog:lD}{w:lE}{A:lG}{E:kZ->k_->Prop}{s:k_}{d it v:lB}{es:oC DictEntry}{ep i:Nat}{z ok ov:kZ}{f:Bool}{R:lO->k_->Prop}{X:Cx}{k:Nat}{aa:oA<|lB×lI}{σ:St}{H:Hp}{o:lF}{a8 ao ju pos:Pos}{tg:lF}{K:lC}{a:lB}{od:lI}{ws:oA<|oA Key×V}{N':oA Str}{mp:oA<|oB Nat}{dj:lF}{c7:oA lF}{scope:lM}
def Tw(c:(d==sysModules)=false):MeetsIn prog w (Builtin.«dict.items» ⟨[.ref d],[]⟩) (λ_ R s=>(∃es ep,En s.heap d es ep)/\R (.ok<|.ret<|.ref s.heap.objs.size) {s with heap:=s.heap.push {cls:=.type "dict_items",data:=.fields #[.ref d]}}) :=
 .of_wp λA R s ⟨⟨_,_,b⟩,h⟩=>by unfold Builtin.«dict.items» Builtin.Dict.noArgs;refine A_<|A_<|gJ b.ty<|show wpAny _ _ (pure d) _ _ s from C_ ?_;show wpAny _ _ (Builtin.Dict.showsAll d>>=_) _ _ s;unfold Builtin.Dict.showsAll;rw[c,O_ V_];exact A_<|C_<|A_<|aC<|C_ ⟨_,rfl,h⟩
def Tx{Q:kZ->k_->Prop}(hv:s.heap.IsItemsView v d)(c:En s.heap d es ep)
  (q:Q (.ref s.heap.objs.size) {s with heap:=s.heap.push {cls:=.type "dict_itemiterator",data:=.fields #[.none,.bool false,.ref d,.int 0 0,.int es.size 0,.int ep 0,.none,.none]}}):yL prog w A (pyIter<|.ref v) Q E s:=by
 obtain⟨h,e,_,g⟩:=id hv;obtain⟨o,h1,_,b⟩:=id c;refine fO hv.typeIs F.slot_dict_items_iter<|aO F.slot_dict_items_iter hv.typeIs F.entry_dict_items_iter ?_<|F.args_dict_items_iter_1 _;unfold Builtin.«dict_items.__iter__» Builtin.Dict_items.dictOf Builtin.Dict_items.newIterator;refine A_<|C_<|A_<|A_<|bQ e g (x:=.ref d) rfl<|C_<|A_<|A_<|dH h1 b<|A_<|eU h1 b ?_;simp only[show Builtin.Dict_items.ownsTuple "dict_itemiterator" = true by decide,if_true];refine aC (C_ ⟨_,rfl,"dict_itemiterator",_,⟨_,K_ _ rfl,rfl⟩,F.slot_dict_itemiterator_next.lookup,?_⟩)
  (by simp only[sizeOk,Builtin.Dict_items.ownedTupleFields,List.size_toArray,List.length_append,List.length_cons,List.length_nil,sizeLine_eq];exact Nat.le_add_left _ _)
 simpa [rawInt,Builtin.Dict_items.ownedTupleFields] using q
def Ty{Q:oB kZ->k_->Prop}(B:RIt s.heap it d i es.size ep z f ok ov)(hz:(z=.none/\f=false)\/∃(a:lB) (S:lI),z=rawInt a/\s.heap.get? a=some S/\a≠it)(hm:En s.heap d es ep)(hi:i<es.size)
  (hQ:∀y j p G C,RIt y it d (i+1) es.size ep j p G C->((z=.none/\j=rawInt s.heap.objs.size/\p=false)\/∃a:lB,z=rawInt a/\j=rawInt a)->y.get? s.heap.objs.size=some {cls:=.type "tuple",data:=.seq #[es[i].key,es[i].val]}->y.objs.size=s.heap.objs.size+1 ->
   (∀b o,b≠it->s.heap.get? b=some o->y.get? b=some o)->Q (some<|.ref s.heap.objs.size) {s with heap:=y}):yL prog w A (pyNext<|.ref it) Q E s:=by
 obtain⟨hp,g,u,t,os⟩:=s;obtain⟨od,h1,_,Y⟩:=id hm;have T:Shared.TypeIs ⟨hp,g,u,t,os⟩ (.ref it) "dict_itemiterator" := ⟨_,B,rfl⟩;unfold pyNext;refine A_<|dQ<|aU (name:=Str.ofString "__next__") T F.slot_dict_itemiterator_next<|aO F.slot_dict_itemiterator_next T F.entry_dict_itemiterator_next ?_<|F.args_dict_itemiterator_next_1 _;refine A_<|C_<|A_<|A_ ?_
 first|refine A_ (eI T<|C_<|A_<|eM B rfl ?_)|refine A_<|fF T<|C_<|A_<|eM B rfl ?_
 simp only[show Builtin.Dict_items.ownsTuple "dict_itemiterator" = true by decide,if_true];show yL prog w _ (if(Value.ref d==Value.none)=true then _ else _) _ _ _;rw[O_<|by exact V_];refine A_<|C_<|A_<|dH h1 Y ?_;rw[O_<|by simp];refine A_<|C_<|A_<|eU h1 Y ?_;rw[O_<|by simp];refine C_ ?_;simp only[show ¬((i:Int)<0) by omega,if_false,Int.toNat_natCast,Array.getElem?_eq_getElem hi];refine A_ ?_
 first|refine A_ (eI T<|C_<|A_<|gG T ?_)|refine A_<|fF T<|C_<|A_<|gG T ?_
 show yL prog w _ (setField (.ref it) 3 (rawInt<|(i:Int)+1)>>=_) _ _ ⟨hp,g,u,t,os⟩;refine A_ (eF B (by simp) λn D I=>?_);replace I:Heap.SameBut it hp n:=I;replace D:RIt n it d (i+1) es.size ep z f ok ov:=by unfold RIt;rw[show((i+1:Nat):Int)=(i:Int)+1 by omega];simpa [rawInt] using D
 have N:Shared.TypeIs ⟨n,g,u,t,os⟩ (.ref it) "dict_itemiterator" := ⟨_,D,rfl⟩;refine A_<|bS<|A_<|gG N<|A_<|gG N ?_;show yL prog w _ (Builtin.Dict_items.pairFromOwner (.ref it) 6 es[i].key es[i].val) _ _ ⟨n,g,u,t,os⟩;unfold Builtin.Dict_items.pairFromOwner;refine A_<|jU ?_;have l:RIt (n.push {cls:=.type "tuple",data:=.seq #[es[i].key,es[i].val]}) it d (i+1) es.size ep z f ok ov:=DD _ D;generalize L:n.push {cls:=.type "tuple",data:=.seq #[es[i].key,es[i].val]}=r at l;have J:n.objs.size=hp.objs.size:=I.1;have il:it<hp.objs.size:=N_ B;have t2:r.get? hp.objs.size=some {cls:=.type "tuple",data:=.seq #[es[i].key,es[i].val]}:=by rw[<- L,<- J];exact K_ _ rfl
 have z2:r.objs.size=hp.objs.size+1:=by rw[<- L,c_,J]
 have Z:∀b o,b≠it->hp.get? b=some o->r.get? b=some o:=λb o hb e=>by rw[<- L];exact DD _<|I.extBut b o hb e
 show yL prog w _ (Builtin.Dict_items.ownedTupleIsFree (.ref it)>>=_) _ _ ⟨r,g,u,t,os⟩;rw[J];clear L D I N J n;have P:∀(h:lH) j p G C,RIt h it d (i+1) es.size ep j p G C->((z=.none/\j=rawInt hp.objs.size/\p=false)\/∃a:lB,z=rawInt a/\j=rawInt a)->Heap.SameBut it r h->Q (some<|.ref hp.objs.size) ⟨h,g,u,t,os⟩:=λh j p G C m c q=>
  hQ h j p G C m c (q.extBut _ _ (dJ il) t2) (by show h.objs.size=_;rw[q.1,z2]) λb o hb e=>q.extBut b o hb<|Z b o hb e
 refine A_ ?_;unfold Builtin.Dict_items.ownedTupleIsFree;rcases hz with⟨rfl,rfl⟩|⟨a,S,rfl,ha,kg⟩;refine A_<|bQ l rfl (x:=.none) rfl<|C_ ?_;simp only[if_true];refine A_<|bQ l rfl (x:=ok) rfl<|A_<|bQ l rfl (x:=ov) rfl ?_;refine A_ (eF l (by simp) λh m q=>?_);replace m:RIt h it d (i+1) es.size ep .none false es[i].key ov:=m;refine A_ (eF m (by simp) λk4 M s4=>?_);replace M:RIt k4 it d (i+1) es.size ep .none false es[i].key es[i].val:=M;refine A_ (eF M (by simp) λk5 O s5=>?_);replace O:RIt k5 it d (i+1) es.size ep (rawInt hp.objs.size) false es[i].key es[i].val:=O;refine A_ (eF O (by simp) λk6 U s6=>?_);replace U:RIt k6 it d (i+1) es.size ep (rawInt hp.objs.size) false es[i].key es[i].val:=U;exact A_<|eK<|C_<|C_ ⟨_,rfl,C_<|P k6 _ _ _ _ U (.inl ⟨rfl,rfl,rfl⟩)<|((Heap.SameBut.trans q s4).trans s5).trans s6⟩
 ·refine A_<|bQ l rfl (x:=rawInt a) rfl ?_;show yL prog w _ (loadIfAlive ((a:Int).toNat)>>=_) _ _ _;rw[dY];refine A_<|PySem.W.kdx_alive (Z a S kg ha) ?_;simp only[Option.isNone_some,Bool.false_eq_true,if_false];refine A_<|bQ l rfl (x:=.bool f) rfl ?_;cases f with
  |true=>rw[O_<|by exact V_];refine C_ ?_;simp only[Bool.false_eq_true,if_false];exact C_ (C_ ⟨_,rfl,C_<|P r _ _ _ _ l (.inr ⟨a,rfl,rfl⟩)<|jX _ _⟩)
  |false=>rw[T_<|by rfl];refine A_ (eF l (by simp) λh m q=>C_ ?_);replace m:RIt h it d (i+1) es.size ep (rawInt a) true ok ov:=m;simp only[Bool.false_eq_true,if_false];exact C_<|C_ ⟨_,rfl,C_<|P h _ _ _ _ m (.inr ⟨a,rfl,rfl⟩) q⟩
def Xn{Q:oB kZ->k_->Prop}(j:A.handled=none)(c:RIt s.heap it d es.size es.size ep z f ok ov)(h:En s.heap d es ep)(q:∀g,Heap.ExtBut it s.heap g->Q none {s with heap:=g}):yL prog w A (pyNext<|.ref it) Q E s:=by
 obtain⟨od,h1,_,e⟩:=id h;have T:s.TypeIs (.ref it) "dict_itemiterator" := ⟨_,c,rfl⟩;unfold pyNext;refine A_<|dQ<|aU (name:=Str.ofString "__next__") T F.slot_dict_itemiterator_next<|aO F.slot_dict_itemiterator_next T F.entry_dict_itemiterator_next ?_<|F.args_dict_itemiterator_next_1 _;refine A_<|C_<|A_<|A_ ?_
 first|refine A_ (eI T<|C_<|A_<|eM c rfl ?_)|refine A_<|fF T<|C_<|A_<|eM c rfl ?_
 simp only[show Builtin.Dict_items.ownsTuple "dict_itemiterator" = true by decide,if_true];show yL prog w _ (if(Value.ref d==Value.none)=true then _ else _) _ _ s;rw[O_<|by exact V_];refine A_<|C_<|A_<|dH h1 e ?_;rw[O_<|by simp];refine A_<|C_<|A_<|eU h1 e ?_;rw[O_<|by simp];refine C_ ?_;simp only[show ¬((es.size:Int)<0) by omega,if_false,Int.toNat_natCast,Array.getElem?_eq_none<|Nat.le_refl es.size];refine A_ ?_
 first|refine A_ (eI T<|C_ ?_)|refine A_<|fF T<|C_ ?_
 show yL prog w _ (setField (.ref it) 2 .none>>=_) _ _ s;refine A_ (dZ c rfl (by simp)<|show wpAny _ _ (newExc (.type "StopIteration") []>>=_) _ _ _ from A_ ?_);simp only[newExc,newTuple];refine A_ (aC (A_ (m:=firstArgMember _ _)<|eC (a:=Value.none) (by first|rfl|(simp only[firstArgMember];rfl))<|aC ?_<|by size_fits)<|by size_fits);simp only[raiseNew];refine A_<|jJ (?_:_);rw[show A.in1.handled=none from j];refine A_<|C_<|jW ?_;refine A_ (dW (T := "StopIteration") (b:=true) (by exact⟨_,K_ _ rfl,rfl⟩) iW ?_);exact C_<|q _<|((aL ..).extBut.push _).push _
def Tz:DX X "dict.items" (λx n H Q=>∃a c,x=.ref a/\n=[]/\H a=some (.dT c)/\∀v,H v=none->Q (.ref v) (upd H v<|.ext λh=>h.IsItemsView v a)):=by intro aa s σ H x y v D Q I l r h;obtain⟨a,c,rfl,rfl,ha,q⟩:=h;cases l;have m:=Vals.zero r;subst m;obtain⟨hz,g,C,p,o,es,ep,h1,h2,t,B,_⟩:=M9 I.hok ha;have j:En s.heap a es ep:=⟨o,h1,h2,t⟩;refine iN PySem.F.slot_dict_items j.ty PySem.F.entry_dict_items (PySem.F.args_dict_items_1 _) (Tw g) ⟨⟨es,ep,j⟩,?_⟩;refine⟨.ref s.heap.objs.size,_,I.laid (t':=s.toks) (o:=.ext λh=>h.IsItemsView s.heap.objs.size a) (λb u q=>DD _ q) (F_ _) ?_,rfl,q _<|I.hok.fresh<|F_ _⟩;exact⟨⟨_,K_ _ rfl,rfl,rfl⟩,⟨_,K_ _ rfl⟩,by rintro h1 h2 ⟨o,e,r⟩ k;exact ⟨o,k o e,r⟩⟩
def Inv.freezeT{a:lB}{od:lI}{ws:oA<|oA Key×V}(I:Inv X aa σ H s)(e:H a=some (.dT ws))(h:s.heap.get? a=some od):Inv X aa σ (upd H a<|.frz od<|.dT ws) s:=by obtain⟨z,p,g,b,o,es,ep,h1,h2,n,l,m⟩:=(show Bs X.prog X.w H s.heap a (.dT ws) from I.hok a _ e);refine F6 (h':=s.heap) (t':=s.toks) I (by rw[e];exact True.intro) (jX _ _) ⟨od,h⟩ ⟨h,z,p,g,KT.keeps (show KT H ws g from b) λc q j=>?_,o,es,ep,h1,h2,n,l,m⟩;rw[An<|M3 j e (λz=>nomatch z)];exact j
def Iit(d:lB)(od:lI)(ws:oA<|oA Key×V):It :=
 ⟨λi H=> H d = some (.frz od<|.dT ws) /\ i<ws.length,
  λi H v c=> ∃ T b k y, H T = none /\ v = .ref T /\ ws[i]? = some (k, y) /\ H b = some (.tup<|k.map kV) /\ c = upd H T (.tup [.ref b, y]),
  λi H=> H d = some (.frz od<|.dT ws) /\ ws.length = i⟩
def Jm:PySem.entryFor PySem.table "dict_itemiterator.__iter__" = some Builtin.«dict_keyiterator.__iter__»:=PySem.entryFor_alias (id' := "dict_keyiterator.__iter__") (by kernel_rfl) rfl (by decide +kernel)<|by kernel_rfl
def Ii{prog:lD}{w:lE}{A:lG}{E:kZ->k_->Prop}{s:k_}{it d:lB}{i n ep:Nat}{ok ov:kZ}{Q:kZ->k_->Prop}(c:IsItemIter s.heap it d i n ep ok ov)(h:Q (.ref it) s):yL prog w A (pyIter<|.ref it) Q E s:=by have b:s.TypeIs (.ref it) "dict_itemiterator" := ⟨_,c,rfl⟩;refine fO b gX<|aO gX b Jm ?_<|PySem.F.args_dict_itemiterator_iter_1 _;show wpAny _ _ (ret<|.ref it) _ _ s;exact C_ ⟨_,rfl,"dict_itemiterator",_,b,PySem.F.slot_dict_itemiterator_next.lookup,h⟩
def Qj{P:lD}{w:lE}{K:lC}{b8:oA lF}{k:Nat}{pos:Pos}(d it:lB)(od:lI)(ws:oA<|oA Key×V)(es:oC DictEntry)(ep:Nat)(u:od.data=.dict es ep)(hsz:es.size=ws.length) :
  Turn P w K (.Tuple b8 k pos) (Iit d od ws) [it] it (λi h=>∃ok ov,IsItemIter h it d i es.size ep ok ov) where
 mem:=by simp
 obj:=λi h st b hb=>by
  have e:b=it:=by simpa using hb
  subst e;obtain⟨ok,ov,st⟩:=st;exact⟨_,st,λv z=>nomatch z⟩
 keep:=λi h t st k=>let⟨ok,ov,st⟩:=st;⟨ok,ov,k it (by simp) _ st⟩
 item:=by
  intro X D m x hc i aa s σ H E I p st F;subst D m x;obtain⟨ok,ov,g⟩:=st;obtain⟨B,bw⟩:=F;obtain⟨n,z,hd,c,j,o,y,G,h1,h2,r,T,h5⟩:=(show Bs X.prog X.w H s.heap d (.frz od<|.dT ws) from I.hok d _ B);rw[n]at h1;cases h1;rw[u]at r;cases r;have S:i<es.size:=by omega
  have hxl:=bB j;have hx:c[i]?=some c[i]:=J_ (by omega);have m:ws[i]?=some ws[i]:=J_ bw;obtain⟨x',J,r1,r2,r3⟩:=Ea j m;rw[hx]at J;cases J;have Y:es[i]=entryOfKey (tupleKind<|Bo X.prog X.w) c[i]:=by have N:=b_ (λl=>l[i]?) T;simp only[Array.getElem?_toList,Array.getElem?_eq_getElem S,List.getElem?_map,hx,Option.map_some]at N;exact aR N
  refine Ty (z:=.none) (f:=false) g (.inl ⟨rfl,rfl⟩) ⟨od,n,h2,u⟩ S λt z' f' om oq ix Z hT cp C=>?_;have yo:z'=rawInt s.heap.objs.size/\f'=false:=by rcases Z with⟨_,h⟩|⟨a,h,_⟩;exact h;cases h
  obtain⟨rfl,rfl⟩:=yo;refine⟨_,rfl,wpAny_letOwnedTupleGo_items ix λW wv M=>?_⟩;have I1:Inv X aa σ H {s with heap:=t,toks:=s.toks}:=I.turnedL (fp:=[it]) (λb o hb e=>C b o (λq=>hb<|by simp[q]) e) p;have I2:Inv X aa σ H {s with heap:=W,toks:=s.toks}:=I1.turnedL (s:={s with heap:=t,toks:=s.toks}) (t':=s.toks) (fp:=[it]) (λb o hb e=>M.extBut b o (λq=>hb<|by simp[q]) e) p;have U:Fj X aa H s.heap.objs.size:=I.fpOk (F_ _)<|I.hok.fresh<|F_ _;have L:it<s.heap.objs.size:=N_ g;have O:W.get? s.heap.objs.size=some {cls:=.type "tuple",data:=.seq #[es[i].key,es[i].val]}:=M.extBut _ _ (dJ L) hT;rw[Y]at O;refine⟨.ref s.heap.objs.size,upd H s.heap.objs.size<|.tup [.ref c[i].2.1,ws[i].2],I2.track U ⟨by show 2<=sizeLine;decide,[.ref c[i].2.1,c[i].2.2],.cons rfl<|.cons r3 .nil,_,O,rfl,_,rfl⟩,rfl,⟨s.heap.objs.size,c[i].2.1,ws[i].1,ws[i].2,U.1,rfl,m,r2,rfl⟩,⟨_,_,wv⟩,λb hb=>?_⟩;have e:b=it:=by simpa using hb
  subst e;rw[An<|Z_ L];exact(p b hb).1
 done:=by intro X D m x hc i aa s σ H E I p st F;subst D m x;obtain⟨ok,ov,g⟩:=st;obtain⟨B,rfl⟩:=F;obtain⟨n,z,hd,c,j,o,y,G,h1,h2,r,T,h5⟩:=(show Bs X.prog X.w H s.heap d (.frz od<|.dT ws) from I.hok d _ B);rw[n]at h1;cases h1;rw[u]at r;cases r;rw[<- hsz]at g;exact Xn (I.ok.hd hc) g ⟨od,n,h2,u⟩ λt C=>⟨rfl,I.turnedL (t':=s.toks) (fp:=[it]) (λb o hb e=>C b o (λq=>hb<|by simp[q]) e) p⟩
 self:=λA i s Q E st h=>by obtain⟨_,_,g⟩:=st;exact Ii g h
def B5(c:M)(a:lB):M:=λb=>if b=a then none else c b
def Bb{c:M}{a b:lB}(h:b≠a):B5 c a b=c b:=O_ h
def OI:V->oA V->Hp->VK->Prop:=λx c H Q=>∃a b,x=.ref a/\c=[]/\H a=some (.dT b)/\∀v,H v=none->Q (.ref v) (upd H v<|.ext λh=>h.IsItemsView v a)
def iIt(K:lC)(td:TE):TI:=λσ H R=>GU K "dict" OI td σ H λv b=>∃a ws vv,v=.ref vv/\b vv=some (.ext λh=>h.IsItemsView vv a)/\b a=some (.dT ws)/\∀od,R (Iit a od ws)<|upd b a<|.frz od<|.dT ws
def Xo{D:oA lF}{G:Nat}{td:TE}(y:PE X o td)(M:attributeBase o "items" X.env (eval o X.env)=eval o X.env:=by rfl) (C:(a8.endLine==ao.line)=true:=by rfl) :
  PI X (.Tuple D G ju) (.Call (.Attribute o "items" a8) [] [] ao) (iIt X.K td):=by
 intro aa s σ H R I h;refine thn (Ls (T := "dict") (r:=OI) fY PySem.F.slot_dict_items PySem.F.type_dict_items Tz y M C aa s σ H _ I h) λv c L=>?_;obtain⟨x,p,j,N,a,ws,vv,rfl,hv,ha,q⟩:=L;cases N;obtain⟨g,_,_⟩:=(show Bs X.prog X.w p c.heap vv (.ext λh=>h.IsItemsView vv a) from j.hok vv _ hv);obtain⟨hz,u,P,m,od,es,ep,h1,h2,t,J,Q⟩:=(show Bs X.prog X.w p c.heap a (.dT ws) from j.hok a _ ha);refine Tx g ⟨od,h1,h2,t⟩ ?_;have n:es.size=ws.length:=by have e:=b_ List.length J;rw[B_]at e;rw[bB m,<- e];simp
 have B:=j.kept (t':=c.toks) (h':=c.heap.push {cls:=.type "dict_itemiterator",data:=.fields #[.none,.bool false,.ref a,.int 0 0,.int es.size 0,.int ep 0,.none,.none]}) λb O e=>DD _ e;have l:=j.hok.fresh<|F_ c.heap.objs.size;have f:=j.fpOk (F_ _) l;refine⟨c.heap.objs.size,[c.heap.objs.size],_,_,upd p a<|.frz od<|.dT ws,rfl,B.freezeT ha<|DD _ h1,Qj a _ od ws es ep t n,⟨.none,.none,K_ _ rfl⟩,λb hb=>?_,q od⟩;have e:b=c.heap.objs.size:=by simpa using hb
 subst e;exact⟨by rw[An λz=>by rw[z]at l;rw[ha]at l;cases l];exact f.1,f.2⟩
def KR(g:AGs)(tb:AS)(k:ASt->M->Prop)(r:AV->M->Prop):oA (oA Key×AV)->ASt->M->Prop
 |[]=>k
 |p::e=>λj h=>g [.D<|.tuple<|p.1.map IK,p.2] j h λb c=>tb (KR g tb k r e) r k (KR g tb k r e) b c
def OJ(td:AE)(g:AGs)(tb:AS):AS:=λk r _ _ e h=>td e h λx b=>match x with
 |.R a=>opt (b a) λm=>match m with
  |.dt c=>KR g tb k r c e (B5 b a)
  |_=>False
 |_=>False
def Hh{N:oA lF}{kt:Nat}{r:oA lJ}{td:AE}{g:AGs}{tb:AS}(hp:PassesOwn (model X.prog X.w) X.A X.env X.xe)(de:X.calm=true)(hd:VE X o td)(hg:VGs X N g)(hb:VSs X r tb)
  (hn:(assignEach N X.env).length=2:=by rfl) (bg:(assignEach N X.env).findIdx? (·.1)=none:=by rfl) (x8:∀x,foldedSetIterable (.Call (.Attribute o "items" a8) [] [] ao) X.env x=pure x:=by intro _;rfl)
  (bh:attributeBase o "items" X.env (eval o X.env)=eval o X.env:=by rfl) (bi:(a8.endLine==ao.line)=true:=by rfl) :
  VS X (.For (.Tuple N kt ju) (.Call (.Attribute o "items" a8) [] [] ao) r [] pos) (OJ td g tb) :=
 (U8 hp de (Xo hd bh bi) (U5 de hg hn bg) hb x8).imp λD σ H J=>Ge J λτ μ nk nr nb nc hs hc h hq=>by
 refine⟨τ,μ,_,hs,hc,h,λx μ1 v G Q c1 rx hx=>?_⟩;split at hx;rename_i a;obtain⟨m,em,hx⟩:=A4 hx;split at hx;rename_i n;obtain⟨ob,I,ws,rfl,rk⟩:=c1 _ _ em;cases (show v=.ref a from rx);refine⟨.inr<|.inr<|.inl ⟨rfl,.inr ⟨ws,I⟩⟩,a,ws,rfl,rfl,I,λvv O=>?_⟩;have xi:a≠vv:=λz=>by rw[z]at I;rw[I]at O;cases O
 have c8:upd G vv (.ext λh=>h.IsItemsView vv a) a=some (.dT ws):=by rw[An xi];exact I
 refine⟨a,ws,vv,rfl,A6,c8,λod=>?_⟩;have F:Kp G (upd (upd G vv<|.ext λh=>h.IsItemsView vv a) a<|.frz od<|.dT ws):=(Kp.new O _).trans<|Kp.put c8 trivial _;have c2:Cn X.K (B5 μ1 a) (upd (upd G vv<|.ext λh=>h.IsItemsView vv a) a<|.frz od<|.dT ws):=λb m' e=>by
  have j2:b≠a:=λz=>by rw[z]at e;unfold B5 at e;rw[T_ rfl]at e;cases e
  rw[Bb j2]at e;obtain⟨o',e',r'⟩:=c1 b m' e;exact⟨o',by rw[An j2,An<|B6 e' O];exact e',r'.kp F⟩
 have gz:upd (upd G vv<|.ext λh=>h.IsItemsView vv a) a (.frz od<|.dT ws) a=some (.frz od<|.dT ws):=A6;have Y:=rk.kp F;generalize upd (upd G vv<|.ext λh=>h.IsItemsView vv a) a (.frz od<|.dT ws)=H2 at F c2 gz Y;have hl:=bB Y;refine Vu ws.length (λi p u=>∃ c j,Kp H2 u/\D8 X.K u c p/\Cn X.K j u/\KR g tb nk nr (n.drop i) c j) ⟨τ,_,Kp.refl,hs.kp<|Q.trans F,c2,hx⟩ ?_ ?_ ?_;rintro i p u hi ⟨c,j,B,M,q,h1⟩;exact⟨B.f _ _ _ gz,hi⟩;rintro p u ⟨c,j,B,M,q,h1⟩;rw[<- hl,dD]at h1;exact⟨⟨B.f _ _ _ gz,rfl⟩,hq.nx _ _ _ _ (Q.trans<|F.trans B) M q h1⟩;rintro i v' p u H'' hi ⟨c,j,B,M,q,h1⟩ ⟨T,b,k,y,hT,rfl,hw,h8,rfl⟩;have jz:i<n.length:=by omega
 rw[bC jz]at h1;obtain⟨q',e1,r1,r2⟩:=Ea Y<|J_ jz;rw[hw]at e1;cases e1;have L:Kp u (upd u T<|.tup [.ref b,y]):=Kp.new hT _;refine⟨T,[.ref b,y],rfl,Hn.of A6,rfl,[.D<|.tuple<|n[i].1.map IK,n[i].2],c,j,_,.cons ?_<|.cons (r2.kp<|B.trans L) .nil,M.kp L,q.over hT,h1,λτ3 μ3 σ3 H3 S5 fj P h3=>⟨τ3,μ3,_,_,_,_,fj,P,h3,?_⟩⟩;have Z:n[i].1=k:=r1;rw[Z];exact Gw (L.t _ _ h8)<|Qe _;have S:Kp H2 H3:=B.trans<|L.trans S5;have S0:Kp H H3:=Q.trans<|F.trans S;exact⟨λC l σ' H4 S' cp U W=>⟨C,l,S.trans S',cp,U,W⟩,hq.rt.kp S0,hq.nx.kp S0,λC l σ' H4 S' cp U W=>⟨C,l,S.trans S',cp,U,W⟩⟩;exact hx.elim;exact hx.elim
def Jn{g:AGs}{tb:AS}{k:ASt->M->Prop}{r:AV->M->Prop}{kvs:oA<|oA Key×AV}{τ:ASt}{b:M}(I:Nat->ASt->M->Prop)(h0:I 0 τ b)
  (step:∀i p τ b (W:ASt->M->Prop),kvs[i]?=some p->I i τ b->(∀ c j,I (i+1) c j->W c j)->g [.D<|.tuple<|p.1.map IK,p.2] τ b λl t=>tb W r k W l t)
  (done:∀ τ b,I kvs.length τ b->k τ b):KR g tb k r kvs τ b:=by
 have m:∀n i τ b,n+i=kvs.length->I i τ b->KR g tb k r (kvs.drop i) τ b:=by
  intro n
  induction n with
  |zero=>
   intro i τ b x q;have e:i=kvs.length:=by omega
   subst e;rw[dD];exact done τ b q
  |succ n u=>
   intro i τ b x q;have hi:i<kvs.length:=by omega
   rw[bC hi];exact step i _ τ b _ (J_ hi) q λc j h=>u (i+1) c j (by omega) h
 have:=m kvs.length 0 τ b (by omega) h0;rwa[f_]at this
def Qk(c:(d==sysModules)=false):MeetsIn prog w (Builtin.«dict.values» ⟨[.ref d],[]⟩) (λ_ R s=>(∃es ep,En s.heap d es ep)/\R (.ok<|.ret<|.ref s.heap.objs.size) {s with heap:=s.heap.push {cls:=.type "dict_values",data:=.fields #[.ref d]}}) :=
 .of_wp λA R s ⟨⟨_,_,b⟩,h⟩=>A_<|by
  unfold Builtin.Dict.noArgs;refine A_<|gJ b.ty<|show wpAny _ _ (pure d) _ _ s from C_<|show wpAny _ _ (Builtin.Dict.showsAll d>>=_) _ _ s from ?_;simp only[Builtin.Dict.showsAll,c,Bool.false_eq_true,ite_false];exact A_<|C_<|A_<|aC<|C_ ⟨_,rfl,h⟩
def EU:Builtin.Dict_items.ownsTuple "dict_valueiterator" = false:=by decide
def Ql{Q:kZ->k_->Prop}(hv:s.heap.IsValuesView v d)(g:En s.heap d es ep)
  (q:Q (.ref s.heap.objs.size) {s with heap:=s.heap.push {cls:=.type "dict_valueiterator",data:=.fields #[.ref d,.int 0 0,.int es.size 0,.int ep 0]}}):yL prog w A (pyIter<|.ref v) Q E s:=by
 obtain⟨ov,h,_,e⟩:=id hv;obtain⟨od,b,_,c⟩:=id g;refine fO hv.typeIs F.slot_dict_values_iter<|aO F.slot_dict_values_iter hv.typeIs F.entry_dict_values_iter (A_<|C_<|A_<|A_<|bQ h e (x:=.ref d) rfl<|C_<|A_<|A_<|dH b c<|A_<|eU b c ?_)<|F.args_dict_values_iter_1 _
 simp only[EU,Bool.false_eq_true,if_false];exact aC<|C_ ⟨_,rfl,_,_,⟨_,K_ _ rfl,rfl⟩,F.slot_dict_valueiterator_next.lookup,by simpa [rawInt] using q⟩
def Lf{Q:oB kZ->k_->Prop}(x:A.handled=none)(c:s.heap.IsValIter it d i es.size ep)(t:En s.heap d es ep)
  (more:∀hi:i<es.size,∀h,h.IsValIter it d (i+1) es.size ep->Heap.SameBut it s.heap h->Q (some es[i].val) {s with heap:=h})
  (l:es.size<=i->∀h,Heap.ExtBut it s.heap h->Q none {s with heap:=h}):yL prog w A (pyNext<|.ref it) Q E s:=by
 obtain⟨B,n,y,j⟩:=id c;obtain⟨od,p,_,q⟩:=id t;unfold pyNext;refine A_<|dQ<|aU (name:=Str.ofString "__next__") c.typeIs F.slot_dict_valueiterator_next<|aO F.slot_dict_valueiterator_next c.typeIs F.entry_dict_valueiterator_next
  (A_<|C_<|A_<|A_<|A_<|gB c.typeIs<|C_<|A_<|eM n j ?_)  (F.args_dict_valueiterator_next_1 _)
 have u:(Value.ref d==Value.none)=false:=rfl;simp only[EU,List.drop_zero,List.take_succ_cons,List.take_zero,u,Bool.false_eq_true,if_false];refine A_<|C_<|A_<|dH p q ?_;rw[O_<|by simp];refine A_<|C_<|A_<|eU p q ?_;rw[O_<|by simp];refine C_ ?_;simp only[Int.not_lt.2<|Int.natCast_nonneg i,if_false,Int.toNat_natCast];by_cases hi:i<es.size;rw[bN hi];refine A_ (A_<|gB c.typeIs<|C_<|A_<|jB c.typeIs<|show wpAny _ _ (setField (.ref it) 1 (rawInt<|(i:Int)+1)>>=_) _ _ s from A_<|dZ n j (by simp) ?_);generalize e:s.heap.update it _=g;have r:g.IsValIter it d (i+1) es.size ep:=by rw[<- e];exact⟨_,aP _ n<|fE<|cY j _,(iQ ..).trans y,(cY j _).trans<|by simp[rawInt]⟩
 have ty:=Heap.IsValIter.typeIs (s:={s with heap:=g}) r;exact A_<|bS<|A_<|jB ty<|A_<|jB ty<|show wpAny _ _ (pure es[i].val) _ _ _ from C_<|C_ ⟨_,rfl,C_<|more hi _ r<|e ▸ aL ..⟩;rw[gF<|jS.1 hi];refine A_ (A_<|gB c.typeIs<|C_<|show wpAny _ _ (setField (.ref it) 0 .none>>=_) _ _ s from A_<|dZ n j (by simp)<|show wpAny _ _ (newExc (.type "StopIteration") []>>=_) _ _ _ from A_ ?_);simp only[newExc,newTuple];refine A_ (aC (A_ (m:=firstArgMember _ _)<|eC (a:=Value.none) rfl<|aC ?_<|by size_fits)<|by size_fits);simp only[raiseNew];refine A_<|jJ ?_;simp only[show A.in1.handled=A.handled from rfl,x];refine A_ <|C_ <|jW ?_;exact A_ <|dW (T := "StopIteration") (b:=true) ⟨_,K_ _ rfl,rfl⟩ iW (C_<|l (jS.1 hi) _<|((aL ..).extBut.push _).push _)
def Vit(d:lB)(od:lI)(ws:oA<|oA Key×V):It :=
 ⟨λi H=> H d = some (.frz od<|.dT ws) /\ i<ws.length,
  λi H v b=> ∃ k, ws[i]? = some (k, v) /\ b = H,
  λi H=> H d = some (.frz od<|.dT ws) /\ ws.length = i⟩
def N8{P:lD}{w:lE}{K:lC}{tg:lF}(d it:lB)(od:lI)(ws:oA<|oA Key×V)(es:oC DictEntry)(ep:Nat)(r:od.data=.dict es ep)(hsz:es.size=ws.length) :
  Turn P w K tg (Vit d od ws) [it] it (λi h=>h.IsValIter it d i es.size ep) where
 mem:=by simp
 obj:=λi h st b hb=>by
  have e:b=it:=by simpa using hb
  subst e;obtain⟨o,g,_,x⟩:=st;exact⟨o,g,λv z=>by rw[x]at z;cases z⟩
 keep:=λi h p st k=>st.at λo e=>k it (by simp) o e
 item:=by
  intro X D m y hc i aa s σ H E I t st F;subst D m y;obtain⟨C,bw⟩:=F;obtain⟨g,z,x,u,j,o,B,G,h1,h2,n,O,h5⟩:=(show Bs X.prog X.w H s.heap d (.frz od<|.dT ws) from I.hok d _ C);rw[g]at h1;cases h1;rw[r]at n;cases n;have M:i<es.size:=by omega
  have hxl:=bB j;have hx:u[i]?=some u[i]:=J_ (by omega);have m:ws[i]?=some ws[i]:=J_ bw;obtain⟨x',J,r1,r2,Y⟩:=Ea j m;rw[hx]at J;cases J;have T:es[i]=entryOfKey (tupleKind<|Bo X.prog X.w) u[i]:=by have L:=b_ (λl=>l[i]?) O;simp only[Array.getElem?_toList,Array.getElem?_eq_getElem M,List.getElem?_map,hx,Option.map_some]at L;exact aR L
  refine Lf (I.ok.hd hc) st ⟨od,g,h2,r⟩ (λ_ p N cp=>?_) λz=>absurd M<|jS.2 z;obtain⟨S,U,f2,f3,W,Z⟩:=t it (by simp);have I1:Inv X aa σ H {s with heap:=p}:=I.turned (t':=s.toks) (λb o hb e=>(cp.2 b hb).trans e) S U f3 W Z;obtain⟨o,e,c,dd⟩:=id N;refine⟨_,rfl,M6 (s:={s with heap:=p}) e c dd (by decide) ⟨ws[i].2,H,I1,?_,⟨ws[i].1,m,rfl⟩,N,λb hb=>(t b hb).1⟩⟩;rw[T];exact Y
 done:=by intro X D m y hc i aa s σ H E I t st F;subst D m y;obtain⟨C,rfl⟩:=F;obtain⟨g,z,x,u,j,o,B,G,h1,h2,n,O,h5⟩:=(show Bs X.prog X.w H s.heap d (.frz od<|.dT ws) from I.hok d _ C);rw[g]at h1;cases h1;rw[r]at n;cases n;rw[<- hsz]at st;exact Lf (I.ok.hd hc) st ⟨od,g,h2,r⟩ (λz=>absurd z<|cF _) λ_ p kk=>⟨rfl,I.turnedL (t':=s.toks) (fp:=[it]) (λb o hb e=>kk b o (λq=>hb<|by simp[q]) e) t⟩
 self:=λA i s Q E st h=>wpAny_pyIter_valiter st h
def Inv.notFrz{a:lB}{ws:oA<|oA Key×V}(I:Inv X aa σ H s)(e:H a=some (.dT ws)):∀o u,X.H₀ a≠some (.frz o u):=λo u z=>by have:=I.base.frzs a o u z;rw[e]at this;cases this
def Inv.thawT{a:lB}{od:lI}{ws:oA<|oA Key×V}(I:Inv X aa σ H s)(e:H a=some (.frz od<|.dT ws))(hn:∀o u,X.H₀ a≠some (.frz o u)):Inv X aa σ (upd H a<|.dT ws) s:=by
 have l:∀{b:lB},H b=none->b≠a:=λh z=>by rw[z,e]at h;cases h
 have m:∀{b:lB} {xs:oA V},H b=some (.tup xs)->b≠a:=λh z=>by rw[z,e]at h;cases h
 have B:∀{b y:lB},H b=some (.own y)->b≠a:=λh z=>by rw[z,e]at h;cases h
 refine⟨I.ok,I.os,I.bare,⟨I.base.keep,I.base.slot,λb o h1 h2 g=>?_,I.base.there,λb xs h=>?_,λb o u h=>?_,λb G h=>?_⟩,I.loc,I.cell,?_,λx c h=>?_,λp hp=>?_,λb u q=>?_,I.len⟩;have:=I.base.free b o h1 h2 g;rw[An<|l this];exact this;have:=I.base.tups b xs h;rw[An<|m this];exact this;have:=I.base.frzs b o u h;rw[An<|by rintro rfl;exact hn o u h];exact this;obtain⟨j,this⟩:=I.base.tbls b G h;exact⟨j,by rw[An λz=>by rw[z,e]at this;cases this];exact this⟩;rw[An<|l I.free];exact I.free;rw[An<|l<|I.freeC x c h];exact I.freeC x c h;obtain⟨h1,h2,g⟩:=I.pin p hp;exact⟨h1,by rw[An<|l h2];exact h2,g⟩;by_cases hb:b=a;subst hb;rw[A6]at q;cases q;obtain⟨J,z,D,xs,n,o,es,ep,h1,h2,g,F,C⟩:=(show Bs X.prog X.w H s.heap b (.frz od<|.dT ws) from I.hok b _ e);exact⟨z,D,xs,KT.keeps (show KT H ws xs from n) λc L t=>by rw[An<|m t];exact t,o,es,ep,h1,h2,g,F,C⟩;rw[An hb]at q;exact(I.hok b u q).stay (λc v _ r=>r) (λc r=>by rw[An<|B r];exact r) λc xs r=>by rw[An<|m r];exact r
def Qm:DX X "dict.values" (λx n H Q=>∃a c,x=.ref a/\n=[]/\H a=some (.dT c)/\∀v,H v=none->Q (.ref v) (upd H v<|.ext λh=>h.IsValuesView v a)):=by intro aa s σ H x y v D Q I l r h;obtain⟨a,c,rfl,rfl,ha,q⟩:=h;cases l;have m:=Vals.zero r;subst m;obtain⟨hz,g,C,p,o,es,ep,h1,h2,t,B,_⟩:=M9 I.hok ha;have j:En s.heap a es ep:=⟨o,h1,h2,t⟩;refine iN PySem.F.slot_dict_values j.ty PySem.F.entry_dict_values (PySem.F.args_dict_values_1 _) (Qk g) ⟨⟨es,ep,j⟩,?_⟩;refine⟨.ref s.heap.objs.size,_,I.laid (t':=s.toks) (o:=.ext λh=>h.IsValuesView s.heap.objs.size a) (λb u q=>DD _ q) (F_ _) ?_,rfl,q _<|I.hok.fresh<|F_ _⟩;exact⟨⟨_,K_ _ rfl,rfl,rfl⟩,⟨_,K_ _ rfl⟩,by rintro h1 h2 ⟨o,e,r⟩ k;exact ⟨o,k o e,r⟩⟩
def OK:V->oA V->Hp->VK->Prop:=λx c H Q=>∃a b,x=.ref a/\c=[]/\H a=some (.dT b)/\∀v,H v=none->Q (.ref v) (upd H v<|.ext λh=>h.IsValuesView v a)
def iVa(X:Cx)(td:TE):TI:=λσ H R=>GU X.K "dict" OK td σ H λv b=>∃a ws vv,v=.ref vv/\b vv=some (.ext λh=>h.IsValuesView vv a)/\b a=some (.dT ws)/\∀od,(∀o u,X.H₀ a≠some (.frz o u))->R (Vit a od ws) (upd b a<|.frz od<|.dT ws)
def T7{td:TE}(y:PE X o td)(J:attributeBase o "values" X.env (eval o X.env)=eval o X.env:=by rfl) (C:(a8.endLine==ao.line)=true:=by rfl) :
  PI X tg (.Call (.Attribute o "values" a8) [] [] ao) (iVa X td):=by
 intro aa s σ H R I h;refine thn (Ls (T := "dict") (r:=OK) fY PySem.F.slot_dict_values PySem.F.type_dict_values Qm y J C aa s σ H _ I h) λv c G=>?_;obtain⟨x,p,j,L,a,ws,vv,rfl,hv,ha,q⟩:=G;cases L;obtain⟨g,_,_⟩:=(show Bs X.prog X.w p c.heap vv (.ext λh=>h.IsValuesView vv a) from j.hok vv _ hv);obtain⟨hz,u,N,m,od,es,ep,h1,h2,t,D,O⟩:=(show Bs X.prog X.w p c.heap a (.dT ws) from j.hok a _ ha);refine Ql g ⟨od,h1,h2,t⟩ ?_;have n:es.size=ws.length:=by have e:=b_ List.length D;rw[B_]at e;rw[bB m,<- e];simp
 have B:=j.kept (t':=c.toks) (h':=c.heap.push {cls:=.type "dict_valueiterator",data:=.fields #[.ref a,.int 0 0,.int es.size 0,.int ep 0]}) λb M e=>DD _ e;have l:=j.hok.fresh<|F_ c.heap.objs.size;have f:=j.fpOk (F_ _) l;refine⟨c.heap.objs.size,[c.heap.objs.size],_,_,upd p a<|.frz od<|.dT ws,rfl,B.freezeT ha<|DD _ h1,N8 a _ od ws es ep t n,⟨_,K_ _ rfl,rfl,rfl⟩,λb hb=>?_,q od<|j.notFrz ha⟩;have e:b=c.heap.objs.size:=by simpa using hb
 subst e;exact⟨by rw[An λz=>by rw[z]at l;rw[ha]at l;cases l];exact f.1,f.2⟩
def XU(e:H a=some (.frz od<|.dT ws)){b:lB}{xs:oA V}(h:H b=some (.tup xs)):upd H a (.dT ws) b=some (.tup xs):=by rw[An λz=>by rw[z,e]at h;cases h];exact h
def IQ(e:H a=some (.frz od<|.dT ws)){b:lB}{o:lI}{u:HO}(hu:∀w,u≠.dT w)(h:H b=some (.frz o u)):upd H a (.dT ws) b=some (.frz o u):=by rw[An λz=>by rw[z,e]at h;injection h with h;injection h with _ h;exact hu _ h.symm];exact h
def O8.th(e:H a=some (.frz od<|.dT ws)){b:lB}{xs:oA V}(h:O8 K H b xs):O8 K (upd H a<|.dT ws) b xs:=by rcases h with⟨o,h⟩|h;exact .inl ⟨o,IQ e (λ_ z=>nomatch z) h⟩;exact .inr h
def Tg.th(e:H a=some (.frz od<|.dT ws)){b:lB}{ds:oA lA}{xs:oA V}(h:Tg K H b ds xs):Tg K (upd H a<|.dT ws) b ds xs:=by rcases h with h|h;exact .inl<|XU e h;exact .inr h
mutual
theorem Dk.th(e:H a=some (.frz od<|.dT ws)):∀(d:lA) (x:V),Dk K H d x->Dk K (upd H a<|.dT ws) d x
 |.none,x,h=>by simp only[Dk]at h ⊢;exact h
 |.bool b,x,h=>by simp only[Dk]at h ⊢;exact h
 |.int i,x,h=>by simp only[Dk]at h ⊢;exact h
 |.str z,x,h=>by simp only[Dk]at h ⊢;exact h
 |.list g,x,h=>by simp only[Dk]at h ⊢;obtain⟨a,c,j,q,r⟩:=h;exact⟨a,c,j,q.th e,Ap.th e g c r⟩
 |.tuple g,x,h=>by simp only[Dk]at h ⊢;obtain⟨a,c,j,q,r⟩:=h;exact⟨a,c,j,q.th e,Ap.th e g c r⟩
 |.dict _,x,h=>by simp only[Dk]at h
theorem Ap.th(e:H a=some (.frz od<|.dT ws)):∀(ds:oA lA) (xs:oA V),Ap K H ds xs->Ap K (upd H a<|.dT ws) ds xs
 |[],xs,h=>by simp only[Ap]at h ⊢;exact h
 |d::ds,xs,h=>by simp only[Ap]at h ⊢;obtain⟨x,r,b,h1,h2⟩:=h;exact⟨x,r,b,Dk.th e d x h1,Ap.th e ds r h2⟩
end
theorem XFs.th(e:H a=some (.frz od<|.dT ws)){d:oB lB}{c:oA<|Str×lA}(h:XFs K H d c):XFs K (upd H a<|.dT ws) d c:=by
 cases d with
 |none=>exact h
 |some d=>obtain⟨od,b,q,r⟩:=h;exact⟨od,b,IQ e (λ_ z=>nomatch z) q,Paired.mapP r λp q r=>⟨r.1,Dk.th e _ _ r.2⟩⟩
theorem RelA.th(e:H a=some (.frz od<|.dT ws)):∀{x:AV} {v:V},RelA K H x v->RelA K (upd H a<|.dT ws) x v
 |.D d,v,h=>Dk.th e d v h
 |.R a,_,h=>h
 |.C j,v,⟨b,g,c,q,r⟩=>⟨b,g,c,q,Ap.th e j g r⟩
 |.X C l,v,⟨b,o,d,c,q,r⟩=>⟨b,o,d,c,IQ e (λ_ z=>nomatch z) q,r.th e⟩
theorem Hv.th(e:H a=some (.frz od<|.dT ws)){m:MO}{o:HO}(h:Hv K H m o):Hv K (upd H a<|.dT ws) m o:=by
 cases m with
 |lst j=>obtain⟨b,g,r⟩:=h;exact⟨b,g,Paired.mapP r λ_ _ q=>q.th e⟩
 |dk j=>obtain⟨b,g,r⟩:=h;exact⟨b,g,Paired.mapP r λ_ _ q=>⟨q.1,q.2.th e⟩⟩
 |dt j=>obtain⟨b,g,r⟩:=h;exact⟨b,g,Paired.mapP r λ_ _ q=>⟨q.1,q.2.th e⟩⟩
 |dd j=>obtain⟨b,g,r⟩:=h;exact⟨b,g,Paired.mapP r<|by rintro _ _ ⟨x,y,c,v,r,q⟩;exact ⟨x,y,Dk.th e _ _ c,v,r.th e,q⟩⟩
 |tb l=>exact h
def OL(X:Cx)(t:TE):TE:=λσ H Q=>t σ H λv b=>∃a od ws,b a=some (.frz od<|.dT ws)/\(∀o u,X.H₀ a≠some (.frz o u))/\Q v (upd b a<|.dT ws)
def CD{e:lF}{t:TE}(h:PE X e t):PE X e (OL X t):=by intro aa s σ H Q I hq;refine thn (h aa s σ H _ I hq) λv m c=>?_;obtain⟨x,l,j,g,a,od,ws,e,b,q⟩:=c;exact⟨x,upd l a<|.dT ws,j.thawT e b,g,q⟩
def IR(mp:oA<|oB Nat)(td:AE)(g:AG)(tst:AT)(te:AE):AE:=λh j R=>td h j λx b=>match x with
 |.R a=>opt (b a) λm=>match m with
  |.dt c=>∀p,b p=none->cl p g tst te (λ_=>True) (λe=>R (.R p)<|Ao e a<|.dt c) (c.map (·.2)) [] (HF mp h) (Ao (B5 b a) p<|.lst [])
  |_=>False
 |_=>False
def N9{td:AE}{g:AG}{tst:AT}{te:AE}(hc:X.calm=true)(hd:VE X o td)(hg:∀C s H n,VG (Bl X N' scope C s H n) tg g)(ht:∀C s H n,VIfs (Bl X N' scope C s H n) c7 tst)(he:∀C s H n,VE (Bl X N' scope C s H n) dj te)
  (ok:CompOkC X.N X.env.scope.names scope.names N' mp) (hk:scope.kind=.function:=by rfl) (hs:∀x,foldedSetIterable (.Call (.Attribute o "values" a8) [] [] ao) X.env x=pure x:=by intro _;rfl)
  (bh:attributeBase o "values" X.env (eval o X.env)=eval o X.env:=by rfl) (bi:(a8.endLine==ao.line)=true:=by rfl) :
  VE X (.ListComp dj [⟨tg,.Call (.Attribute o "values" a8) [] [] ao,c7,0⟩] scope pos) (IR mp td g tst te) :=
 (CD<|N7 (g:=cG X.K g) (tst:=cT X.K tst) (te:=cE X.K te) hc (T7 hd bh bi) (λC s H n=>hg C s H n) (λC s H n=>ht C s H n) (λC s H n=>he C s H n) ok hk hs).imp λσ H Q zz=>B4 zz λτ μ R bg hcn h hq=>by
 refine⟨τ,μ,_,bg,hcn,h,λx μ1 v D S1 c1 rx hx=>?_⟩;split at hx;rename_i a;obtain⟨m,em,hx⟩:=A4 hx;split at hx;rename_i r;obtain⟨ob,M,ws,rfl,rk⟩:=c1 _ _ em;cases (show v=.ref a from rx);refine⟨.inr<|.inr<|.inl ⟨rfl,.inr ⟨ws,M⟩⟩,a,ws,rfl,rfl,M,λvv li=>?_⟩;have xi:a≠vv:=λz=>by rw[z]at M;rw[M]at li;cases li
 have c8:upd D vv (.ext λh=>h.IsValuesView vv a) a=some (.dT ws):=by rw[An xi];exact M
 refine⟨a,ws,vv,rfl,A6,c8,λod hnf=>?_⟩;have O:Kp D (upd (upd D vv<|.ext λh=>h.IsValuesView vv a) a<|.frz od<|.dT ws):=(Kp.new li _).trans<|Kp.put c8 trivial _;have c2:Cn X.K (B5 μ1 a) (upd (upd D vv<|.ext λh=>h.IsValuesView vv a) a<|.frz od<|.dT ws):=λb m' e=>by
  have P:b≠a:=λz=>by rw[z]at e;unfold B5 at e;rw[T_ rfl]at e;cases e
  rw[Bb P]at e;obtain⟨o',e',r'⟩:=c1 b m' e;exact⟨o',by rw[An P,An<|B6 e' li];exact e',r'.kp O⟩
 have gz:upd (upd D vv<|.ext λh=>h.IsValuesView vv a) a (.frz od<|.dT ws) a=some (.frz od<|.dT ws):=A6;have ny:=rk.kp O;have Y:∀b,upd (upd D vv<|.ext λh=>h.IsValuesView vv a) a (.frz od<|.dT ws) b=none->D b=none:=λb e=>by by_cases h1:b=a;rw[h1,A6]at e;cases e;rw[An h1]at e;by_cases h2:b=vv;rw[h2,A6]at e;cases e;rw[An h2]at e;exact e
 generalize upd (upd D vv<|.ext λh=>h.IsValuesView vv a) a (.frz od<|.dT ws)=H2 at O c2 gz ny Y;have hl:=bB ny;intro p hp;have hx:=hx p<|c1.none<|Y p hp;have yy:Cn X.K (Ao (B5 μ1 a) p<|.lst []) (upd H2 p<|.lst []):=c2.new hp<|Dh .nil;have S0':Kp H2 (upd H2 p<|.lst []):=Kp.new hp _;have j1:(r.map (·.2)).length=ws.length:=by rw[B_];exact hl
 refine Ra ws.length (λi J G y=>∃ c j as,Kp H2 y/\D8 X.K y c G/\Cn X.K j y/\A5 X.K y as J/\cl p g tst te (λ_=>True) (λμ2=>R (.R p)<|Ao μ2 a<|.dt r) ((r.map λq:oA Key×AV=>q.2).drop i) as c j) ⟨_,_,[],S0',(((bg.kp S1).kp O).kp S0').sub mp,yy,.nil,hx⟩ ?_ ?_ ?_;rintro i J G y hi ⟨c,j,as,B,bx,I,ra,h1⟩;exact⟨B.f _ _ _ gz,hi⟩;rintro J G y ⟨c,j,as,B,bx,I,ra,h1⟩;rw[<- j1,dD]at h1;have ke:=B.f _ _ _ gz;refine⟨⟨ke,rfl⟩,a,od,ws,ke,hnf,?_⟩;have K1:∀b Z,y b=some (.tup Z)->upd y a (.dT ws) b=some (.tup Z):=λb Z e=>by rw[An λz=>by rw[z,ke]at e;cases e];exact e
 have K2:Kp D (upd y a<|.dT ws):=⟨λb Z e=>K1 b Z<|B.t _ _<|O.t _ _ e,λb o' u e=>by
  rw[An λz=>by rw[z,M]at e;cases e];exact B.f _ _ _<|O.f _ _ _ e⟩
 refine hq _ _ _ _ (S1.trans K2) (λb m' e=>?_) Dy h1.2;by_cases P:b=a;subst P;rw[Ac]at e;cases e;exact⟨_,A6,ws,rfl,rk.kp K2⟩;rw[Af P]at e;obtain⟨o',e',r'⟩:=I b m' e;exact⟨o',by rw[An P];exact e',r'.th ke⟩;rintro i v' J G y T hi ⟨c,j,as,B,bx,I,ra,h1⟩ ⟨k,hw,rfl⟩;have jz:i<(r.map (·.2)).length:=by omega
 rw[bC jz]at h1;obtain⟨_,h1⟩:=h1;have hi3:i<r.length:=by rw[B_]at jz;exact jz
 obtain⟨q',e1,r1,r2⟩:=Ea ny<|J_ hi3;rw[hw]at e1;cases e1;rw[List.getElem_map]at h1;refine⟨_,c,j,_,r2.kp B,bx,I,h1,λF μ3 σ3 H3 S4 fj hc3 h3=>⟨F,μ3,_,fj,hc3,h3,λk U H4 W c4 h4=>?_⟩⟩;rcases br_e h4 with⟨rfl,L⟩|⟨rfl,L⟩;rw[T_ rfl];refine⟨F,U,_,fj.kp W,c4,L,λw μ5 u H5 S6 c5 rw h5=>?_⟩;obtain⟨e5,jw,h5⟩:=h5;obtain⟨o5,l,vs,rfl,rs⟩:=c5 _ _ e5;have S:Kp T H5:=S4.trans<|W.trans S6;exact⟨vs,l,by rw[<- rs.length];exact jw,F,_,_,(B.trans S).trans<|Kp.put l trivial _,(fj.kp<|W.trans S6).kp<|Kp.put l trivial _,c5.put l trivial (Dh<|rs.append<|.cons rw .nil),(rs.append<|.cons rw .nil).kp<|Kp.put l trivial _,h5⟩;rw[O_ V_];have S:Kp T H4:=S4.trans W;exact⟨F,U,as,B.trans S,fj.kp W,c4,ra.kp S,L⟩;exact hx.elim;exact hx.elim
end
section
variable {prog:lD}{w:lE}{A:lG}{R:lO->k_->Prop}{I S:lB}{fp wr:oA lB}{n:Nat}{P:Nat->kZ->Prop}{St:Nat->lH->Prop}{h0:lH}{φ:Prop}{f:kZ->Int}{X:Cx}{k:Nat}
def Hi(h0 h:lH):Prop:=∀b o,h0.get? b=some o->h.get? b=some o
def Xp(W:Walks prog w A.in1 I fp wr n P St)(Y:S∉fp)(N:h0.objs.size<=S)(hw:∀b∈wr,h0.objs.size<=b)(hc:∀i j u v (s:k_),P i u->P j v->Hi h0 s.heap->∃r,Wl A.in1 s u v r/\(φ->r=decide (f u<f v)))(Z:∀i u v,P i u->P i v->u=v) :
  ∀(k j:Nat) (s:k_) (d:oB kZ) (c:Nat),j+k=n->(d=none->0<k/\j=0)->(∀v,d=some v->(∃i,P i v)/\(φ->∀i<j,∀u,P i u->f v<=f u))->St j s.heap->Hi h0 s.heap ->
  s.heap.get? S=some {cls:=.type "list",data:=.seq (d.elim #[] λv=>#[v,v]) c} ->
  (∀i v m D,P i v->(φ->∀i<n,∀u,P i u->f v<=f u)->Hi h0 m->R (.ok<|.ret v) {s with heap:=m,toks:=D}) ->
  codeAny (model prog w) A (.builtin "min.loop" ⟨[.ref I,.none,.ref S],[]⟩) R s:=by
 have O:∀{b o},h0.get? b=some o->b∉wr:=λe z=>absurd (N_ e)<|jS.2<|hw _ z;have nS:∀{b o},h0.get? b=some o->S≠b:=λe z=>absurd (N_ e)<|jS.2<|z ▸ N;have Q:S∉wr:=λz=>Y<|W.sub _ z;have M:∀{h:lH} (f:lI->lI),Hi h0 h->Hi h0 (h.update S f):=λf q b o e=>(bI _ _<|nS e).trans<|q b o e;have J:(toString "min" ++ toString ".loop" : String) = "min.loop" := by decide
 have hz:∀d:oB kZ,(d.elim #[] λv=>#[v,v]).size<=sizeLine:=λd=>by cases d<;>exact(by decide:2<=sizeLine) |> G_ (by first|exact aN _|exact F_ _)
 intro k
 induction k with
 |zero=>
  intro j s d c hj h1 h2 st g B q;obtain⟨l,rfl⟩:∃l,d=some l:=by
   cases d with
   |none=>exact absurd (h1 rfl).1 (cF _)
   |some v=>exact⟨v,rfl⟩
  obtain⟨⟨i,hi⟩,G⟩:=h2 _ rfl;rw[show j=n from hj]at G;refine eD F.entry_min_loop ?_;rw[cV F.plain_min_loop _];refine(show wpAny _ A.in1 (seqItems? (.ref S)>>=_) _ _ s from A_<|dP B rfl<|show wpAny _ A.in1 (tryCatch (pyNext<|.ref I) _>>=_) _ _ s from A_<|fC<|W.done s _ _ (by rw[<- hj];exact st) λm D t=>?_);exact(show wpAny _ A.in1 (updateSeq S (λ_=>#[])>>=_) _ _ _ from A_<|dS (t S _ Q B) rfl (hz:=hz _)<|A_<|eK<|C_<|q i l _ D hi G<|M _ λb o e=>t b o (O e)<|g b o e)
 |succ k L=>
  intro j s d c hj h1 h2 st g B q;refine eD F.entry_min_loop ?_;rw[cV F.plain_min_loop _];refine(show wpAny _ A.in1 (seqItems? (.ref S)>>=_) _ _ s from A_<|dP B rfl<|show wpAny _ A.in1 (tryCatch (pyNext<|.ref I) _>>=_) _ _ s from A_<|fC<|W.item j s _ _ (by omega) st λv m D p U t=>?_);have C:=t S _ Q B;have H:Hi h0 m:=λb o e=>t b o (O e)<|g b o e;have E:∀f,St (j+1) (m.update S f):=λf=>W.frame _ _ _ U λb hb o e=>(bI _ _ λz:S=b=>Y<|z ▸ hb).trans e;cases d with
  |none=>
   refine(show wpAny _ A.in1 (updateSeq S (λ_=>#[v,v])>>=_) _ _ _ from A_<|dS C rfl (hz:=hz _) ?_);rw[J];have h5:∀u,some v=some u->(∃i,P i u)/\(φ->∀i<j+1,∀x,P i x->f u<=f x):=λu e=>by
    cases e;refine⟨⟨j,p⟩,λ_ i hi u hu=>?_⟩;obtain rfl:i=j:=by have:=(h1 rfl).2;omega
    rw[Z _ u _ hu p];exact gM _
   exact C_ ⟨dO F.plain_min_loop _,L (j+1) _ (some v) _ (by omega) (λz=>nomatch z) h5 (E _) (M _ H) (aP _ C rfl) q⟩
  |some l=>
   obtain⟨⟨i,hi⟩,G⟩:=h2 l rfl;have V:∀x y,P j y->(φ->f x<=f l)->(φ->f x<=f y)->φ->∀i<j+1,∀u,P i u->f x<=f u:=λx y hy a1 a2 a i hi u hu=>by rcases gY.mp hi with z|rfl;exact Int.le_trans (a1 a)<|G a i z u hu;rw[Z _ u _ hu hy];exact a2 a
   obtain⟨r,hr,T⟩:=hc j i v l {s with heap:=m,toks:=D} p hi H;refine(show wpAny _ A.in1 (tryCatch (holding [v,v]<|richCompare .Lt v l>>=_) _>>=_) _ _ _ from A_<|fC<|bS<|A_<|hr prog w _ _ ?_);refine A_<|bS<|dN<|A_<|eK<|C_ ?_;cases r with
   |true=>simp only[if_true];refine A_<|dS C rfl (hz:=hz _)<|A_<|eK ?_;rw[J];exact C_ ⟨dO F.plain_min_loop _,L (j+1) _ (some v) _ (by omega) (λz=>nomatch z) (λu e=>by cases e;exact⟨⟨j,p⟩,V _ _ p (λa=>Int.le_of_lt<|aE (T a).symm) λ_=>gM _⟩) (E _) (M _ H) (aP _ C rfl) q⟩
   |false=>simp only[Bool.false_eq_true,if_false];refine A_<|eK ?_;rw[J];exact C_ ⟨dO F.plain_min_loop _,L (j+1) _ (some l) _ (by omega) (λz=>nomatch z) (λu e=>by cases e;exact⟨⟨i,hi⟩,V _ _ p (λ_=>gM _) λa=>Int.not_lt.mp<|of_decide_eq_false (T a).symm⟩) U H C q⟩
def Xq{E:kZ->k_->Prop}{s:k_}{p:lB}{c:oA kZ}{Q:kZ->k_->Prop}(J:A.handled=none)(m:s.heap.IsList p c.toArray)(hn:0<c.length)(hc:∀u∈c,∀v∈c,∀l:k_,Hi s.heap l.heap->∃r,Wl A.in1 l u v r/\(φ->r=decide (f u<f v)))
  (q:∀v∈c,(φ->∀u∈c,f v<=f u)->∀h t,Hi s.heap h->Q v {s with heap:=h,toks:=t}):yL prog w A (call (.builtin "min") [.ref p]) Q E s:=by
 have hp:p<s.heap.objs.size:=by obtain⟨_,C,_⟩:=m;exact N_ C
 have G:p≠s.heap.objs.size:=Z_ hp;refine call_function_tree F.kind_min F.plain_min F.entry_min (F.args_min1 _)<|show wpAny _ A.in1 (Builtin.Builtins.bindParams "min" ["key","default"] 0 ⟨[],[]⟩>>=_) _ _ s from A_<|eC (show _=pure [none,none] from rfl)<|A_<|C_<|A_<|fM m<|A_<|aC ?_;rw[show(toString "min" ++ toString ".loop" : String) = "min.loop" by decide];have d:∀{i:Nat} {v},c.toArray[i]?=some v->v∈c:=λ{i v} e=>X_ (i:=i) (by simpa using e);have x:Hi s.heap (s.heap.push {cls:=.type "list_iterator",data:=.fields #[.ref p,.int 0 0]}):=λb o e=>DD _ e;refine C_ ⟨dO F.plain_min_loop _,Xp (h0:=s.heap) (kO (show A.in1.handled=none from J) s.heap.objs.size p G c.toArray) ?_ ?_ ?_ (λi j u v l hi hj g=>hc u (d hi) v (d hj) l g) (λi u v D y=>by rw[D]at y;exact aR y) c.toArray.size 0 _ none 0 (iU _) (λ_=>⟨by simpa using hn,rfl⟩) (λv e=>nomatch e) ?_ ?_ (K_ _ rfl) λi v h t H B g=>q v (d H) (λa u hu=>by obtain⟨k,hk,e⟩:=eX hu;exact B a k (by simpa using hk) u<|by rw[<- e];simp[hk]) h t g⟩;intro z;rw[c_]at z;rcases aD.mp z with z|z;exact absurd z<|gN _;exact absurd (I_.mp z)<|dJ<|bZ hp;rw[c_];exact bU _;exact λb hb=>by rw[I_.mp hb];exact F_ _
 exact⟨⟨_,DD _<|K_ _ rfl,rfl,rfl⟩,m.at λo e=>DD _<|x _ _ e⟩
 exact λb o e=>DD _<|x b o e
def EV:AC:=λg c R=>match g with
 |[.R a]=>opt (c a) λm=>match m with
  |.lst h=>opt (dats h) λb=>(0<b.length/\∀d∈b,Cp d/\∀e∈b,cmpb d e=true)/\∀d∈b,((∀e∈b,∃j,e=.int j)->∀i j,d=.int i->.int j∈b->i<=j)->R (.D d) c
  |_=>False
 |_=>False
def Xr(hr:Room k X.A)(de:X.calm=true):VCall X (.builtin "min") EV:=by
 intro aa s σ H xs us Q I r zq;refine B4 zq λas μ R ra hc h hq=>?_;unfold EV at h;split at h
 ·cases ra with
  |cons r1 r2=>
   cases r2;obtain⟨m,Z,h⟩:=A4 h;split at h;obtain⟨p,ed,⟨hn,c⟩,h⟩:=A4 h;obtain⟨o,W,Y,rfl,rs⟩:=hc _ _ Z;cases (show _=V.ref _ from r1);obtain⟨u,rfl,C⟩:=Eg r;cases C;obtain⟨z,F,pl,hz⟩:=I.list<|Ep.of (K:=X.K) W;have dk:=rs.dats ed;obtain⟨L,rd⟩:=Ap.reads I p Y z dk F;have J:=Rm rd;have hu:=hr.un;refine Xq (φ:=∀e∈p,∃j,e=.int j) (f:=IC) (I.ok.hd de) pl.isList (by rw[J];exact hn) (λu B v hv T g=>?_) λv hv hm h' tk g=>?_;have one:∀{x},x∈z->∃d∈p,∃as,Reads T.heap x d as:=λ{x} hx=>by
    obtain⟨i,hi,rfl⟩:=eX hx;have b:i<p.length:=by rw[<- J];exact hi
    obtain⟨as,q⟩:=NW (Hw g rd) b;rw[show z.getD i .none=z[i] by rw[a_,J_ hi];rfl]at q;exact⟨_,Wm b,as,q⟩
   obtain⟨d,b,as,M⟩:=one B;obtain⟨e,he,L,U⟩:=one hv;have h1:=(c d b).1;have h2:=(c e he).1;have:=h1.2;exact⟨_,Jg d e X.A.in1 T u v as L M U h1.1 h2.1 ((c d b).2 e he)<|by show X.A.units+1+_<_;omega,λa=>by
    obtain⟨i,rfl⟩:=a d b;obtain⟨j,rfl⟩:=a e he;cases M;cases U;show Zr (.int i) (.int j)=decide (i<j);simp only[Zr]⟩
   obtain⟨i,hi,rfl⟩:=eX hv;have b:i<p.length:=by rw[<- J];exact hi
   obtain⟨x,hx,G⟩:=dk.get<|J_ b;obtain⟨u,B,C⟩:=F.get hx;rw[J_ hi]at B;cases B;refine⟨x,H,I.kept (t':=tk) g,C,hq (.D p[i]) _ _ _ Kp.refl hc G<|h _ (eZ b) λa i' j ei E=>?_⟩;obtain⟨l,hl,E⟩:=eX E;obtain⟨y,hy,O⟩:=dk.get<|J_ hl;obtain⟨v,hv',ry⟩:=F.get hy;rw[ei]at G;rw[E]at O;cases Dk.int G;cases Dk.int O;have N:=hm a v<|X_ hv';obtain⟨t,e⟩:=(show ∃t,z[i]=Value.int i' t from C);obtain⟨t',rfl⟩:=(show ∃t,v=Value.int j t from ry);rw[e]at N;exact N;exact h.elim
 exact h.elim
end
structure FunD(K:lC)(x qual:Str)(st:lJ)(f:lB)(fd:lK)(T:lB):Prop where
 ex:∃(oc:kZ) (od:oB lB) (kV bq pm:kZ) (an:oB lB) (av ct:kZ) (e7:oC<|oB kZ),
  fd=PySem.W.fnOf x qual (Cq st) (B1 st) (Ah st) (.ref T) kV bq pm an av ct/\K.lookup f=some ⟨oc,od,.func fd,e7⟩/\PySem.W.codeIn K av qual=true
section
variable {P:lD}{w:lE}{K:lC}{mg:Str->oB kZ}{base:lH}{x qual:Str}{st:lJ}{f T:lB}{fd:lK}{N ps:oA Str}{k:Nat}{sp:ASp}{prog:lD}{A:lG}{E:kZ->k_->Prop}{s:k_}
def FunD.vok(F:FunD K x qual st f fd T)(S:FnScope N ps<|Ah st)
  (q:∀(e:kZ) (A:lG) (outer:oA Env) (s:k_) (H:Hp) (E:XK),Room k (A.deeper<|envOfC qual (Ah st) s.heap.objs.size f e) ->
   ∃t,VSs (Hq Cm P w K mg base N qual (Ah st) f e A outer s H E).nox (B1 st) t/\∀a d R,a.length=ps.length->sp a d R->t (UE R) (NM R) EI EI (Em N a) d):FnOk P w K mg base Cm (k+1) f fd ps (Dj K ps.length sp):=by
 obtain⟨M,W,kV,U,I,L,e,X,V,rfl,B,y⟩:=F.ex;refine Vb B y S (λo H Q E h=>?_) λA outer s H o Q E C h=>?_;obtain⟨a,d,R,l,i,_⟩:=h;rw[<- i.length];exact l;obtain⟨a,d,R,l,i,hc,D,hq⟩:=h;obtain⟨t,m,h⟩:=q e A outer s H E C;refine⟨_,m.nox,Em N a,d,_,_,_,_,D8.begin i,hc,h a d R l D,⟨λO j J G g _ c z=>Mz z λp b r=>hq _ _ _ _ g (c.sub b) Hu r,λv j u G g c n z=>Mz z λp b r=>hq _ _ _ _ g (c.sub b) n r,λ_ _ _ _ _ _ _ h=>h.elim,λ_ _ _ _ _ _ _ h=>h.elim⟩⟩
def FunD.binds{d:Int}{tk:Tok}{n:Nat}{i:kZ}{l:oB lB}{j:oC<|oB kZ}(F:FunD K x qual st f fd T)(m:K.lookup T=some ⟨i,l,.seq #[.int d tk] n,j⟩)
  (h:∀(kV b a:kZ) (c:oB lB) (e ct:kZ) (us:oA kZ),us.length+1=ps.length->∃k,bindArgs (PySem.W.fnOf x qual (Cq st) (B1 st) (Ah st) (.ref T) kV b a c e ct) ⟨us,[]⟩=seqItems? (.ref T)>>=k/\k (some #[.int d tk])=pure (ps.zip<|us++[.int d tk])):Binds K fd ps [.int d tk]:=by
 obtain⟨_,_,kV,b,a,c,e,ct,_,rfl,p,o⟩:=F.ex;intro s us X g;obtain⟨k,h1,h2⟩:=h kV b a c e ct us (by rw[P_]at g;exact g);exact .of_defaults rfl (X _ _ m) rfl h1 h2
def Hj(P:lD)(w:lE)(K:lC)(mg:Str->oB kZ)(base:lH)(k:Nat)(x:Str)(ps:oA Str)(d:Int)(sp:ASp):Prop :=
 ∃g a b,FnOk P w K mg base Cm k g a ps (Dj K ps.length sp)/\Binds K a ps [.int d b]/\PySem.W.keepIn K (.ref g)=true/\mg x=some (.ref g)
def Hj.mono{d:Int}{n m:Nat}(c:Hj P w K mg base n x ps d sp)(h:n<=m):Hj P w K mg base m x ps d sp:=by obtain⟨g,a,b,G,r⟩:=c;exact⟨g,a,b,G.mono h,r⟩
def IS(sp:ASp)(d:Int)(t:AA):AE:=λe b R=>t e b λc a=>sp (c++[.D<|.int d]) a R
def Oa{X:Cx}{d:Int}{p a:Pos}{e:lF}{es:oA lF}{t:AA}(F:Hj X.prog X.w X.K X.mg X.base k x ps d sp)(D:Room k X.A)(v:Gl X x)(ha:VA X (e::es) t)(r:(e::es).length+1=ps.length:=by rfl)(hdb:(x==("__debug__" : Str))=false:=by decide)
  (n:starEach (e::es) X.env=(false,eval e X.env)::starEach es X.env:=by rfl) (hpl:(backTo a<|starEach es X.env).any (·.1)=false:=by rfl):VE X (.Call (.Name x p) (e::es) [] a) (IS sp d t):=by
 obtain⟨g,O,B,G,l,i,m⟩:=F;refine PE.imp (Q4 (dvs:=[.int d]) (E:=E0) G D v m i l (.cons ⟨B,rfl⟩ .nil) EB ha (hdb:=hdb) (he:=n) (hpl:=hpl)) λL H Q z=>B4 z λu C R o hc h hq=>?_;exact⟨u,C,_,o,hc,h,λI b J M j y c q hx=>⟨_,b,R,by rw[P_,q];exact r,c.append<|.cons Ct .nil,y,hx,hq.kp j⟩⟩
def CF{d:lB}{o:lI}{es:oC DictEntry}{ep:Nat}{n:Nat}{Q:kZ->k_->Prop}(i:(d==sysModules)=false)(b:s.heap.get? d=some o)(hc:o.ExactDict)(g:o.data=.dict es ep)(hn:es.size=n)(j:(n:Int)<2^63)(h:∀t c,Q (.int n t) {s with toks:=c}):yL prog w A (call (.builtin "len") [.ref d]) Q E s:=by
 have ty:s.TypeIs (.ref d) "dict" := ⟨o,b,hc.1⟩;have mt:MeetsIn prog w (Builtin.«dict.__len__» ⟨[.ref d],[]⟩) (λ_ R a=>a.heap=s.heap/\R (.ok<|.ret<|.int n a.toks) {a with toks:=a.toks+1}):=.of_wp λA R a ⟨e,h⟩=>by show wpAny _ _ (dictSize d>>=_) _ _ a;unfold dictSize;exact A_<|A_<|dH (by rw[e];exact b) g<|C_<|show wpAny _ _ (Builtin.Dict.pendingCount d>>=_) _ _ a from A_<|wpAny_pendingCount_other i<|wpAny_ret_mkInt<|by rw[Nat.add_zero,hn];exact h
 refine Calls.call_function_entry kind_len plain_len entry_len (args_len1 _) ?_;unfold Builtin.«len»;refine A_ (m:=oneArg "len" _)<|C_<|A_ (m:=callSpecial? (.ref d)<|Str.ofString "__len__")<|aU (name:=Str.ofString "__len__") ty F.slot_dict_len<|iN F.slot_dict_len ty F.entry_dict_len (F.args_dict_len_1 _) mt ⟨rfl,?_⟩;show wpAny _ _ _ _ _ {s with toks:=s.toks+1};refine A_<|bS<|C_<|A_<|eK<|show wpAny _ _ (if((n:Nat):Int)<0 then _ else _) _ _ _ from ?_;rw[O_<|by omega];refine(show wpAny _ _ (if((n:Nat):Int)>=2^63 then _ else _) _ _ _ from ?_);rw[O_<|by omega];exact A_<|wpAny_mkInt<|C_ ⟨_,rfl,h _ _⟩
end
def OM:AC:=λd c R=>match d with
 |[.R a]=>opt (c a) λm=>match m with
  |.dt b=>R (.D<|.int b.length) c
  |_=>False
 |_=>False
def IT{X:Cx}:VCall X (.builtin "len") OM:=by
 intro L s G H d P Q I r b;refine B4 b λas N R C hc h hq=>?_;cases C with
 |nil=>exact False.elim h
 |@cons x v j D n B=>
  cases x with
  |R a=>
   cases B with
   |cons _ _=>exact False.elim h
   |nil=>
    obtain⟨m,l,h⟩:=A4 h;cases (show _=V.ref _ from n);obtain⟨o,e,k⟩:=hc _ _ l;cases m with
    |dt A=>
     obtain⟨c,rfl,f⟩:=k;obtain⟨u,rfl,E⟩:=Eg r;cases E;obtain⟨z,y,d,r,O,i,J,h1,h2,g,q,F⟩:=(show Bs X.prog X.w H s.heap a (.dT c) from I.hok a _ e);have p:i.size=c.length:=by rw[<- dF,q,B_,<- bB r]
     refine CF y h1 h2 g p (by rw[kX]at z;omega) λt M=>⟨.int c.length,H,I.tok _,⟨t,rfl⟩,hq _ _ _ _ Kp.refl hc ?_ h⟩;rw[bB f];exact Ct
    |_=>exact False.elim h
  |_=>exact False.elim h
section
variable(l:lB)(ae:oC kZ)(n:Nat)(dd:oB lB)(sl:oC<|oB kZ)(t:Tok)
end
end L2
namespace L2
open PySem PySem.W PyProof.Rows
noncomputable def cn(x:lL)(l:oA lL):Nat:=@List.count _ (@instBEqOfDecidableEq _ λa b=>Classical.propDecidable<|a=b) x l
def Qn{l m:oA lL}:l.Perm m↔∀x,cn x l=cn x m:=@List.perm_iff_count _ (@instBEqOfDecidableEq _ λa b=>Classical.propDecidable<|a=b) _ l m
def Eo(x:lL)(l m:oA lL):cn x (l++m)=cn x l+cn x m:=@List.count_append _ (_) x l m
def Xs(x:lL)(l:oA lL):cn x l.reverse=cn x l:=Qn.mp (List.reverse_perm l) x
noncomputable def cx(x:lL)(a:oC lL)(i j:Nat):Nat:=cn x (a.extract i j).toList
def Fx(x:lL)(a:oC lL){i j k:Nat}(h1:i<=j)(h2:j<=k):cx x a i k=cx x a i j+cx x a j k:=by unfold cx;rw[<- Eo,<- d_,Array.extract_append_extract,h_ h1,Nat.max_eq_right h2]
def Jo(x:lL)(a:oC lL):cx x a 0 a.size=cn x a.toList:=by unfold cx;rw[Array.extract_size]
def ON{a:oC lL}{i:Nat}(h:i<a.size):a.extract i (i+1)=#[a[i]]:=by
 apply Array.ext;simp;omega;intro j h1 h2;have:j=0:=by simpa using h2
 subst this;simp
def ML(a b o:oC lL)(i i' j c:Nat):Prop:=∀x,cn x o.toList+cx x a i i'+cx x b j c=cn x a.toList+cn x b.toList
def Mg(a b R:oC lL):Prop:=∀x,cn x R.toList=cn x a.toList+cn x b.toList
section
variable {a b o:oC lL}{i i' j j' m:Nat}
def ML.sw(h:ML a b o i i' j j'):ML b a o j j' i i':=λx=>by have:=h x;omega
def ML.loA(h:ML a b o i i' j j')(h1:i<=m)(h2:m<=i'):ML a b (o++a.extract i m) m i' j j':=λx=>by have:=h x;have:=Fx x a h1 h2;rw[d_,Eo];unfold cx at *;omega
def ML.hiA(h:ML a b o i i' j j')(h1:i<=m)(h2:m<=i'):ML a b (o++(a.extract m i').reverse) i m j j':=λx=>by have:=h x;have:=Fx x a h1 h2;rw[d_,Eo,Array.toList_reverse,Xs];unfold cx at *;omega
def ML.loB(h:ML a b o i i' j j')(h1:j<=m)(h2:m<=j'):ML a b (o++b.extract j m) i i' m j':=(h.sw.loA h1 h2).sw
def ML.hiB(h:ML a b o i i' j j')(h1:j<=m)(h2:m<=j'):ML a b (o++(b.extract m j').reverse) i i' j m:=(h.sw.hiA h1 h2).sw
def ML.puA(h:ML a b o i i' j j')(h1:i<i')(h2:i<a.size):ML a b (o.push a[i]) (i+1) i' j j':=by have:=h.loA (bU i) h1;rw[ON h2]at this;simpa using this
def ML.puB(h:ML a b o i i' j j')(h1:j<j')(h2:j<b.size):ML a b (o.push b[j]) i i' (j+1) j':=(h.sw.puA h1 h2).sw
def ML.poA(h:ML a b o i i' j j')(h1:i<i')(h2:i'-1<a.size):ML a b (o.push a[i'-1]) i (i'-1) j j':=by have:=h.hiA (m:=i'-1) (Nat.le_sub_one_of_lt h1)<|jF _ _;rw[show a.extract (i'-1) i'=#[a[i'-1]] from by rw[<- ON h2];congr 1;omega]at this;simpa using this
def ML.poB(h:ML a b o i i' j j')(h1:j<j')(h2:j'-1<b.size):ML a b (o.push b[j'-1]) i i' j (j'-1):=(h.sw.poA h1 h2).sw
def ML.d1(h:ML a b o i i' j j'):Mg a b (o++a.extract i i'++b.extract j j'):=λx=>by have:=h x;rw[d_,d_,Eo,Eo];exact this
def ML.d2(h:ML a b o i i' j j'):Mg a b (o++b.extract j j'++a.extract i i'):=λx=>by rw[h.sw.d1 x];exact Nat.add_comm _ _
def ML.d3(h:ML a b o i i' j j'):Mg a b (a.extract i i'++b.extract j j'++o.reverse):=λx=>by have:=h x;rw[d_,d_,Eo,Eo,Array.toList_reverse,Xs];unfold cx at this;omega
def ML.d4(h:ML a b o i i' j j'):Mg a b (b.extract j j'++a.extract i i'++o.reverse):=λx=>by rw[h.sw.d3 x];exact Nat.add_comm _ _
end
def AOk(vs:oA kZ)(p:oC lL):Prop:=∀x∈p.toList,x.1∈vs
def AOk.at{vs:oA kZ}{p:oC lL}{i:Nat}(h:AOk vs p)(hi:i<p.size):p[i].1∈vs:=h _<|by simp
def AOk.pm{vs:oA kZ}{p q:oC lL}(h:AOk vs p)(k:q.toList.Perm p.toList):AOk vs q:=λx hx=>h x<|k.mem_iff.mp hx
def AOk.ex{vs:oA kZ}{p:oC lL}{i j:Nat}(h:AOk vs p):AOk vs (p.extract i j):=λx hx=>h x<|by
 rw[jM]at hx;exact jN<|fP<|by rwa[gR]at hx
section
variable {prog:lD}{w:lE}{A:lG}{E:kZ->k_->Prop}{s:k_}{κ:lQ}{vs:oA kZ}
def Ef(prog:lD)(w:lE)(A:lG)(κ:lQ)(vs:oA kZ)(s:k_):Prop :=
 ∀u∈vs,∀v∈vs,∃c:Bool,∀C:Bool->k_->Prop,C c s->yL prog w A (keyLt' κ u v) C (λ_ _=>False) s
def Xt(hc:Ef prog w A κ vs s){st:lP}(hk:kindOf st=κ){x y:lL}(hx:x.1∈vs)(hy:y.1∈vs){Q:oB Bool->lP->Prop}(h:∀c,Q (some c) st):wpS (model prog w) A E s (lt' x y) Q st:=by obtain⟨c,hc⟩:=hc _ hx _ hy;rw[lt'_eq];refine U_<|iY ?_;rw[hk];refine U_<|kK<|dQ<|aM (hc (λb a=>a=s/\b=c) ⟨rfl,rfl⟩) (λc a e=>?_) λ_ _ d=>d.elim;obtain⟨rfl,rfl⟩:=e;exact⟨rfl,W_<|h _⟩
def B7{st:lP}{p:oC lL}{i:Nat}(hi:i<p.size){Q:lL->lP->Prop}(h:Q p[i] st):wpS (model prog w) A E s (elem' p i) Q st:=by rw[elem'_eq,bN hi];exact W_ h
def IU{g:Type}{m n:Nat}{F:Nat->oB g×Nat×Nat->StateT lP Sem (ForInStep<|oB g×Nat×Nat)}{st:lP}
  (l:∀x lo hi (Q:ForInStep (oB g×Nat×Nat)->lP->Prop),lo<=hi->hi<=m->(lo=hi->Q (.done (none,lo,hi)) st)->(∀i d,i<=d->d<=m->d-i<hi-lo->Q (.yield (none,i,d)) st)->wpS (model prog w) A E s (F x (none,lo,hi)) Q st)
  {lo hi:Nat} (h1:lo<=hi) (h2:hi<=m) (j:hi-lo<=n) {Q:oB g×Nat×Nat->lP->Prop} (h:∀k,k<=m->Q (none,k,k) st):wpS (model prog w) A E s (forIn [0:n] ((none,lo,hi):oB g×Nat×Nat) F) Q st:=by
 refine gA (gH (I:=λx c f=>f=st/\∃lo hi,c=(none,lo,hi)/\lo<=hi/\hi<=m/\hi-lo<=n-x) (Q:=λc f=>f=st/\∃k,c=(none,k,k)/\k<=m) ?_ ?_ ⟨rfl,lo,hi,rfl,h1,h2,j⟩) ?_;rintro x c f _ hx ⟨rfl,lo,hi,rfl,h1,h2,j⟩;exact l x lo hi _ h1 h2 (λe=>⟨rfl,lo,by rw[e],G_ h1 h2⟩) λi d a b c=>⟨rfl,i,d,rfl,a,b,by omega⟩;rintro c f ⟨rfl,lo,hi,rfl,h1,h2,j⟩;exact⟨rfl,lo,by rw[show hi=lo by omega],G_ h1 h2⟩;rintro c f ⟨rfl,k,rfl,hk⟩;exact h k hk
def Xu{left:Bool}{j:lL}{arr:oC lL}{base m e:Nat}{st:lP}(n:e<m)
  (l:∀i Q,i<m->(∀c,Q (some c) st)->wpS (model prog w) A E s (byd left j arr base i) Q st) {Q:oB Nat->lP->Prop} (h:∀k,k<=m->Q (some k) st):wpS (model prog w) A E s (gallop' left j arr base m e) Q st:=by
 rw[Py];dsimp only;refine U_<|l e _ n λp=>?_;dsimp only;cases p with
 |true=>rw[T_ rfl];refine U_<|gA (gH (I:=λx c g=>g=st/\∃f d,c=(none,f,d)/\f<d/\f<m-e) (Q:=λc g=>g=st/\∃f d,c=(none,f,d)/\f<d/\f<m-e) ?_ (λ_ _ z=>z) ⟨rfl,0,1,rfl,Nat.succ_pos _,Nat.sub_pos_of_lt n⟩) ?_;rintro x c g _ hx ⟨rfl,f,d,rfl,h1,h2⟩;dsimp only;by_cases c:d>=m-e;rw[T_ c];exact W_ ⟨rfl,f,d,rfl,h1,h2⟩;rw[O_ c];refine U_ (l _ _ (by omega) λc=>?_);cases c;exact W_ ⟨rfl,f,d,rfl,h1,h2⟩;exact W_ ⟨rfl,d,_,rfl,by omega,Nat.lt_of_not_le c⟩;rintro c g ⟨rfl,f,d,rfl,h1,h2⟩;dsimp only;refine U_ (IU (m:=m) (λx lo hi q a b o hy=>?_) (by omega) (by omega) (by omega) λk hk=>W_<|h k hk);dsimp only;by_cases c:lo>=hi;rw[T_ c];exact W_ (o<|by omega);rw[O_ c];refine U_ (l _ _ (by omega) λc=>?_);cases c;exact W_ (hy _ _ (dL _ _) (by omega)<|by omega);exact W_ (hy _ _ (by omega) (b)<|by omega)
 |false=>rw[O_ V_];refine U_<|gA (gH (I:=λx c g=>g=st/\∃f d,c=(none,f,d)/\f<d/\f<=e) (Q:=λc g=>g=st/\∃f d,c=(none,f,d)/\f<d/\f<=e) ?_ (λ_ _ z=>z) ⟨rfl,0,1,rfl,Nat.succ_pos _,aN _⟩) ?_;rintro x c g _ hx ⟨rfl,f,d,rfl,h1,h2⟩;dsimp only;by_cases c:d>=e+1;rw[T_ c];exact W_ ⟨rfl,f,d,rfl,h1,h2⟩;rw[O_ c];refine U_<|l _ _ (fA (jF e d) n) λc=>?_;cases c;exact W_ ⟨rfl,d,_,rfl,by omega,by omega⟩;exact W_ ⟨rfl,f,d,rfl,h1,h2⟩;rintro c g ⟨rfl,f,d,rfl,h1,h2⟩;dsimp only;refine U_ (IU (m:=m) (λx lo hi q a b o hy=>?_) (by omega) (by omega) (by omega) λk hk=>W_<|h k hk);dsimp only;by_cases c:lo>=hi;rw[T_ c];exact W_ (o<|by omega);rw[O_ c];refine U_ (l _ _ (by omega) λc=>?_);cases c;exact W_ (hy _ _ (dL _ _) (by omega)<|by omega);exact W_<|hy _ _ (by omega) (b)<|by omega
def KS{left:Bool}(hc:Ef prog w A κ vs s){st:lP}(hk:kindOf st=κ){p:oC lL}{b:lL}{base m a:Nat}(e:a<m)(hb:base+m<=p.size)(hp:AOk vs p)(d:b.1∈vs){Q:oB Nat->lP->Prop}(h:∀k,k<=m->Q (some k) st):wpS (model prog w) A E s (gallop' left b p base m a) Q st:=by refine Xu e (λi f hi q=>?_) h;unfold byd;refine U_ (B7 (by omega) ?_);cases left;exact U_<|Xt hc hk d (hp.at _) λc=>W_<|q _;exact Xt hc hk (hp.at _) d q
structure LMid(a b:oC lL)(q:Nat)(o:oC lL)(ia ib:Nat):Prop where
 m:ML a b o ia a.size ib b.size
 ha:ia+1<a.size
 hb:ib<b.size
 q:q<=ia+ib
structure RMid(a b:oC lL)(q:Nat)(o:oC lL)(na nb:Nat):Prop where
 m:ML a b o 0 na 0 nb
 h1:na<=a.size
 h2:nb<=b.size
 ha:0<na
 hb:1<nb
 q:na+nb+q<=a.size+b.size
section
variable {a b out:oC lL}{st:lP}{Qd Qy:NU->lP->Prop}{ia ib mg ac bc:Nat}
def OO(M:ML a b out ia a.size ib b.size)(ha:ia+1<a.size)(hb:ib<b.size)(h:∀R c,Mg a b R->c.1=some R->Qd c st)(f:∀o i j m x y,LMid a b (ia+ib+1) o i j->Qd (none,o,i,j,m,x,y) st/\Qy (none,o,i,j,m,x,y) st) :
  wpS (model prog w) A E s (BN a b out ia ib mg ac bc) (λr d=>match r with|.done c'=>Qd c' d|.yield c'=>Qy c' d) st:=by
 unfold BN;refine U_<|B7 (cK ha) ?_;have M1:=M.puA (cK ha)<|cK ha;by_cases e:ia+1+1=a.size;rw[T_<|by simpa using e];exact W_<|h _ _ M1.d2 rfl;rw[O_<|by simpa using e];have g:=f _ _ _ mg ac bc ⟨M1,by omega,hb,by omega⟩;split;exact W_ g.1;exact W_ g.2
def OP(hc:Ef prog w A κ vs s)(hk:kindOf st=κ)(u:AOk vs a)(p:AOk vs b)(M:ML a b out ia a.size ib b.size)(ha:ia+1<a.size)(hb:ib<b.size)(f:∀R c,Mg a b R->c.1=some R->Qd c st)(t:∀o i j m x y,LMid a b (ia+ib+1) o i j->Qd (none,o,i,j,m,x,y) st/\Qy (none,o,i,j,m,x,y) st) :
  wpS (model prog w) A E s (BO a b out ia ib mg ac bc) (λr g=>match r with|.done c'=>Qd c' g|.yield c'=>Qy c' g) st:=by
 unfold BO;refine U_<|B7 hb ?_;have M1:=M.puB hb hb;have d:∀k,∀o i j m x y,LMid a b (ia+(ib+1+k)+1) o i j->Qd (none,o,i,j,m,x,y) st/\Qy (none,o,i,j,m,x,y) st:=λk o i j m x y h=>t o i j m x y ⟨h.m,h.ha,h.hb,by have:=h.q;omega⟩;by_cases e:ib+1=b.size;rw[T_<|by simpa using e];exact W_<|f _ _ M1.d1 rfl;rw[O_<|by simpa using e];refine U_ (B7 (cK ha)<|U_<|KS hc hk (by omega) (by omega) p (u.at _) λk v=>?_);dsimp only;by_cases l:k>0;rw[T_ l];have M2:=M1.loB (m:=ib+1+k) (dL _ _) (by omega);by_cases n:ib+1+k=b.size;rw[T_<|by simpa using n];exact W_<|f _ _ M2.d1 rfl;rw[O_<|by simpa using n];exact OO M2 ha (by omega) f<|d k;rw[O_ l];exact OO M1 ha (by omega) f<|d 0
def XV(hc:Ef prog w A κ vs s)(hk:kindOf st=κ)(f:AOk vs a)(e:AOk vs b)(M:ML a b out ia a.size ib b.size)(ha:ia+1<a.size)(hb:ib<b.size)(d:∀R c,Mg a b R->c.1=some R->Qd c (Da st mg))(l:∀o i j m x y,LMid a b (ia+ib+1) o i j->Qd (none,o,i,j,m,x,y) (Da st mg)/\Qy (none,o,i,j,m,x,y) (Da st mg)) :
  wpS (model prog w) A E s (HX a b out ia ib mg ac bc) (λr g=>match r with|.done c'=>Qd c' g|.yield c'=>Qy c' g) st:=by
 unfold HX;rw[C5];refine U_ (eV<|U_<|B7 hb<|U_<|KS hc (st:=Da st mg) hk (by omega) (by omega) f (e.at _) λk u=>?_);dsimp only;by_cases p:k>0;rw[T_ p];have M1:=M.loA (m:=ia+k) (dL _ _) (by omega);by_cases n:ia+k+1=a.size;rw[T_<|by simpa using n];exact W_<|d _ _ M1.d2 rfl;rw[O_<|by simpa using n];by_cases t:ia+k=a.size;rw[T_<|by simpa using t];exact W_<|d _ _ M1.d1 rfl;rw[O_<|by simpa using t];exact OP hc (st:=Da st mg) hk f e M1 (by omega) hb d λo i j m x y h=>l o i j m x y ⟨h.m,h.ha,h.hb,by have:=h.q;omega⟩;rw[O_ p];exact OP hc (st:=Da st mg) hk f e M ha hb d l
end
section
variable {a b out:oC lL}{st:lP}{Qd Qy:NV->lP->Prop}{na nb mg ac bc q:Nat}
def OQ(M:RMid a b q out na nb)(k:∀R c,Mg a b R->c.1=some R->Qd c st)(h:∀o i j m x y,RMid a b (q+1) o i j->Qd (none,i,j,o,m,x,y) st/\Qy (none,i,j,o,m,x,y) st) :
  wpS (model prog w) A E s (BP a b out na nb mg ac bc) (λr d=>match r with|.done c'=>Qd c' d|.yield c'=>Qy c' d) st:=by
 obtain⟨M,h1,h2,ha,hb,hq⟩:=M;unfold BP;refine U_ (B7 (by omega) ?_);have M1:=M.poA ha (by omega);by_cases e:na-1=0;rw[T_<|by simpa using e];exact W_<|k _ _ M1.d3 rfl;rw[O_<|by simpa using e];have g:=h _ _ _ mg ac bc ⟨M1,G_ (jF na 1) h1,h2,iE e,hb,by omega⟩;by_cases f:(decide (ac<7)&&decide (bc<7))=true;rw[T_ f];exact W_ g.1;rw[O_ f];exact W_ g.2
def OR(hc:Ef prog w A κ vs s)(hk:kindOf st=κ)(u:AOk vs a)(p:AOk vs b)(M:RMid a b q out na nb)(d:∀R c,Mg a b R->c.1=some R->Qd c st)(f:∀o i j m x y,RMid a b (q+1) o i j->Qd (none,i,j,o,m,x,y) st/\Qy (none,i,j,o,m,x,y) st) :
  wpS (model prog w) A E s (BQ a b out na nb mg ac bc) (λr n=>match r with|.done c'=>Qd c' n|.yield c'=>Qy c' n) st:=by
 obtain⟨M,h1,h2,ha,hb,hq⟩:=M;unfold BQ;refine U_ (B7 (by omega) ?_);have M1:=M.poB (cK hb) (by omega);by_cases e:nb-1=1;rw[T_<|by simpa using e];exact W_<|d _ _ M1.d4 rfl;rw[O_<|by simpa using e];refine U_ (B7 (by omega)<|U_<|KS hc hk (by omega) (by omega) p (u.at _) λk t=>?_);dsimp only;by_cases h:nb-1-k>0;rw[T_ h];have M2:=M1.hiB (m:=k) (aN _) t;by_cases g:k=1;rw[T_<|by simpa using g];exact W_<|d _ _ M2.d4 rfl;rw[O_<|by simpa using g];by_cases l:k=0;rw[T_<|by simpa using l];exact W_<|d _ _ M2.d3 rfl;rw[O_<|by simpa using l];exact OQ ⟨M2,h1,by omega,ha,by omega,by omega⟩ d f;rw[O_ h];exact OQ ⟨M1,h1,G_ (jF nb 1) h2,ha,by omega,by omega⟩ d f
def XW(hc:Ef prog w A κ vs s)(hk:kindOf st=κ)(g:AOk vs a)(d:AOk vs b)(M:RMid a b q out na nb)(f:∀R c,Mg a b R->c.1=some R->Qd c (Da st mg))(h:∀o i j m x y,RMid a b (q+1) o i j->Qd (none,i,j,o,m,x,y) (Da st mg)/\Qy (none,i,j,o,m,x,y) (Da st mg)) :
  wpS (model prog w) A E s (HY a b out na nb mg ac bc) (λr p=>match r with|.done c'=>Qd c' p|.yield c'=>Qy c' p) st:=by
 obtain⟨M,h1,h2,ha,hb,hq⟩:=M;unfold HY;rw[C5];refine U_ (eV<|U_<|B7 (by omega)<|U_<|KS hc (st:=Da st mg) hk (kQ ha<|by decide) (by omega) g (d.at _) λk n=>?_);dsimp only;by_cases l:na-k>0;rw[T_ l];have M1:=M.hiA (m:=k) (aN _) n;by_cases e:k=0;rw[T_<|by simpa using e];exact W_<|f _ _ M1.d3 rfl;rw[O_<|by simpa using e];exact OR hc (st:=Da st mg) hk g d ⟨M1,G_ n h1,h2,iE e,hb,by omega⟩ f h;rw[O_ l];exact OR hc (st:=Da st mg) hk g d ⟨M,h1,h2,ha,hb,hq⟩ f h
end
def LMid.dn{a b o:oC lL}{q y i j:Nat}(M:LMid a b (q+(y+1)) o i j):LMid a b (q+1) o i j:=⟨M.m,M.ha,M.hb,G_ (by omega) M.q⟩
def RMid.dn{a b o:oC lL}{q y i j:Nat}(M:RMid a b (q+(y+1)) o i j):RMid a b (q+1) o i j:=⟨M.m,M.h1,M.h2,M.ha,M.hb,G_ (by omega) M.q⟩
def Hx{d b e j τ:Type}{P:oC lL->Prop}{L:Nat->d->b->e->Prop}{N n m g:Nat}{f:Nat->(oB (oC lL)×d×b×e×j)->StateT lP Sem (ForInStep<|oB (oC lL)×d×b×e×j)}{k:(oB (oC lL)×d×b×e×j)->StateT lP Sem τ}{Q:τ->lP->Prop}{st l:lP}{u:d}{v:b}{x:e}{r:j}(t:l=Da st g)(h0:L n u v x)
  (step:∀y u v x r g,L (n+y) u v x->wpS (model prog w) A E s (f y (none,u,v,x,r)) (λz a=>match z with
   |.done c=>(∃g,a=Da st g)/\((∃R,c.1=some R/\P R)\/(c.1=none/\L m c.2.1 c.2.2.1 c.2.2.2.1))
   |.yield c=>(∃g,a=Da st g)/\c.1=none/\L (n+(y+1)) c.2.1 c.2.2.1 c.2.2.2.1) (Da st g))
  (i:∀u v x,L (n+N) u v x->L m u v x) (o:∀R c g,P R->wpS (model prog w) A E s (k (some R,c)) Q (Da st g)) (q:∀u v x r g,L m u v x->wpS (model prog w) A E s (k (none,u,v,x,r)) Q (Da st g)):wpS (model prog w) A E s (forIn [0:N] (none,u,v,x,r) f>>=k) Q l:=by
 refine U_<|gA (gH (I:=λy c a=>(∃g,a=Da st g)/\c.1=none/\L (n+y) c.2.1 c.2.2.1 c.2.2.2.1) (Q:=λc a=>(∃g,a=Da st g)/\((∃R,c.1=some R/\P R)\/(c.1=none/\L m c.2.1 c.2.2.1 c.2.2.2.1))) ?_ ?_ ⟨⟨g,t⟩,rfl,h0⟩) ?_;rintro y ⟨B,u,v,x,r⟩ a _ _ ⟨⟨g,rfl⟩,rfl,h⟩;refine gA (step y u v x r g h) ?_;rintro(c|c) a hh<;>exact hh;rintro c a ⟨C,h1,h2⟩;rw[Nat.zero_max]at h2;exact⟨C,.inr ⟨h1,i _ _ _ h2⟩⟩;rintro⟨B,u,v,x,r⟩ a ⟨⟨g,rfl⟩,⟨R,rfl,D⟩|⟨rfl,p⟩⟩;exact o R _ g D;exact q u v x r g p
def Xv{a b o:oC lL}{q i j:Nat}{p:Prop}(M:LMid a b (q+(a.size+b.size)) o i j):p:=by have h1:=M.ha;have h2:=M.hb;have c:=M.q;omega
def T8(hc:Ef prog w A κ vs s){a b:oC lL}{st:lP}(hk:kindOf st=κ)(G:AOk vs a)(D:AOk vs b)(N:0<a.size)(B:0<b.size){Q:oC lL->lP->Prop}(h:∀R g,Mg a b R->Q R (Da st g)):wpS (model prog w) A E s (mergeLo' a b) Q st:=by
 have C:ML a b #[b[0]] 0 a.size 1 b.size:=ML.puB (o:=#[]) (j:=0) (λx=>by rw[Jo,Jo];show 0+_+_=_;omega) B B;rw[Nt];refine U_<|kK<|dM ⟨rfl,?_⟩;refine U_<|B7 B ?_;dsimp only;by_cases F:1=b.size;rw[T_<|by simpa using F];exact W_<|h _ (gallopOf st) C.d1;rw[O_<|by simpa using F];by_cases H:0+1=a.size;rw[T_<|by simpa using H];exact W_<|h _ (gallopOf st) C.d2;rw[O_<|by simpa using H];refine U_<|iY ?_;refine Hx (P:=Mg a b) (L:=LMid a b) (n:=1) (m:=1+(a.size+b.size)) (g:=gallopOf st) rfl ⟨C,by show 0+1<_;omega,by show 1<_;omega,F_ _⟩ (λx o I J f g M=>?_) (λ_ _ _ M=>M) (λR c g p=>W_<|h R g p) λo i j r g M=>Xv M;dsimp only;refine Hx (P:=Mg a b) (L:=LMid a b) (n:=1+x) (m:=1+x+1) (g:=g) rfl M (λy o l k r g M=>?_) (λ_ _ _ M=>Xv M) (λR c g p=>W_ ⟨⟨g,rfl⟩,.inl ⟨R,rfl,p⟩⟩) λo l k r g M=>?_
 ·have ha:=M.ha;have hb:=M.hb;have hq:=M.q;have M:=M.m;dsimp only;refine U_<|B7 hb<|U_<|B7 (cK ha)<|U_<|Xt hc (st:=Da st g) hk (D.at _) (G.at _) λc=>?_;dsimp only;cases c with
  |true=>rw[T_ rfl];refine U_<|B7 hb ?_;have M1:=M.puB hb hb;by_cases v:k+1=b.size;rw[T_<|by simpa using v];exact W_ ⟨⟨g,rfl⟩,.inl ⟨_,rfl,M1.d1⟩⟩;rw[O_<|by simpa using v];have h1:LMid a b (1+x+(y+1)) _ l (k+1):=⟨M1,ha,by omega,by omega⟩;by_cases t:r.2+1>=f<;>simp only[t,if_true,if_false];exact W_ ⟨⟨g,rfl⟩,.inr ⟨rfl,h1.dn⟩⟩;exact W_ ⟨⟨g,rfl⟩,rfl,h1⟩
  |false=>rw[O_ V_];refine U_<|B7 (cK ha) ?_;have M1:=M.puA (cK ha)<|cK ha;by_cases v:l+1+1=a.size;rw[T_<|by simpa using v];exact W_ ⟨⟨g,rfl⟩,.inl ⟨_,rfl,M1.d2⟩⟩;rw[O_<|by simpa using v];have h1:LMid a b (1+x+(y+1)) _ (l+1) k:=⟨M1,by omega,hb,by omega⟩;by_cases t:r.1+1>=f<;>simp only[t,if_true,if_false];exact W_ ⟨⟨g,rfl⟩,.inr ⟨rfl,h1.dn⟩⟩;exact W_ ⟨⟨g,rfl⟩,rfl,h1⟩
 dsimp only;refine U_<|kK<|dM ⟨rfl,?_⟩;refine Hx (P:=Mg a b) (L:=LMid a b) (n:=1+x+1) (m:=1+x+1) (g:=g) rfl M (λy o l k r g M=>?_) (λ_ _ _ M=>Xv M) (λR c g p=>W_ ⟨⟨g,rfl⟩,.inl ⟨R,rfl,p⟩⟩) λo l k r g M=>?_;dsimp only;have z:∀f,wpS (model prog w) A E s (HX a b o l k f r.2.1 r.2.2) _ (Da st g):=λf=>
  XV (Qd:=λc u=>(∃g,u=Da st g)/\((∃R,c.1=some R/\Mg a b R)\/(c.1=none/\LMid a b (1+x+1) c.2.1 c.2.2.1 c.2.2.2.1))) (Qy:=λc u=>(∃g,u=Da st g)/\c.1=none/\LMid a b (1+x+1+(y+1)) c.2.1 c.2.2.1 c.2.2.2.1) hc (st:=Da st g) hk G D M.m M.ha M.hb (λR c p e=>⟨⟨f,rfl⟩,.inl ⟨R,e,p⟩⟩)
   λo i j m x y d=>⟨⟨⟨f,rfl⟩,.inr ⟨rfl,d.m,d.ha,d.hb,by have:=d.q;have:=M.q;show _<=i+j;omega⟩⟩,⟨f,rfl⟩,rfl,d.m,d.ha,d.hb,by have:=d.q;have:=M.q;show _<=i+j;omega⟩
 by_cases t:r.1>1;rw[T_ t];refine gA (z<|r.1-1) ?_;rintro(c|c) u hh<;>exact hh;rw[O_ t];refine gA (z r.1) ?_;rintro(c|c) u hh<;>exact hh;dsimp only;rw[C5];exact U_<|eV<|W_ ⟨⟨_,rfl⟩,rfl,M⟩
def Xw{a b o:oC lL}{q i j:Nat}{p:Prop}(M:RMid a b (q+(a.size+b.size)) o i j):p:=by have h1:=M.ha;have c:=M.q;omega
def T9(hc:Ef prog w A κ vs s){a b:oC lL}{st:lP}(hk:kindOf st=κ)(G:AOk vs a)(F:AOk vs b)(B:0<a.size)(J:0<b.size){Q:oC lL->lP->Prop}(h:∀R g,Mg a b R->Q R (Da st g)):wpS (model prog w) A E s (mergeHi' a b) Q st:=by
 have D:ML a b #[a[a.size-1]'(kQ B<|by decide)] 0 (a.size-1) 0 b.size:=ML.poA (o:=#[]) (i:=0) (i':=a.size) (λx=>by rw[Jo,Jo];show 0+_+_=_;omega) B (kQ B<|by decide);rw[Nu];refine U_<|kK<|dM ⟨rfl,?_⟩;refine U_ (B7 (kQ B<|by decide) ?_);dsimp only;by_cases C:a.size-1=0;rw[T_<|by simpa using C];exact W_<|h _ (gallopOf st) D.d3;rw[O_<|by simpa using C];by_cases H:b.size=1;rw[T_<|by simpa using H];exact W_<|h _ (gallopOf st) D.d4;rw[O_<|by simpa using H];refine U_<|iY ?_;refine Hx (P:=Mg a b) (L:=λq i j o=>RMid a b q o i j) (n:=1) (m:=1+(a.size+b.size)) (g:=gallopOf st) rfl ⟨D,jF _ _,F_ _,iE C,by show 1<b.size;omega,by show a.size-1+b.size+1<=_;omega⟩ (λx I N o l g M=>?_) (λ_ _ _ M=>M) (λR c g p=>W_<|h R g p) λi j o r g M=>Xw M;dsimp only;refine Hx (P:=Mg a b) (L:=λq i j o=>RMid a b q o i j) (n:=1+x) (m:=1+x+1) (g:=g) rfl M (λy k f o r g M=>?_) (λ_ _ _ M=>Xw M) (λR c g p=>W_ ⟨⟨g,rfl⟩,.inl ⟨R,rfl,p⟩⟩) λk f o r g M=>?_
 ·have h1:=M.h1;have h2:=M.h2;have ha:=M.ha;have hb:=M.hb;have hq:=M.q;have M:=M.m;dsimp only;refine U_ (B7 (by omega)<|U_<|B7 (by omega)<|U_<|Xt hc (st:=Da st g) hk (F.at _) (G.at _) λc=>?_);dsimp only;cases c with
  |true=>rw[T_ rfl];refine U_ (B7 (by omega) ?_);have M1:=M.poA ha (by omega);by_cases u:k-1=0;rw[T_<|by simpa using u];exact W_ ⟨⟨g,rfl⟩,.inl ⟨_,rfl,M1.d3⟩⟩;rw[O_<|by simpa using u];have h1:RMid a b (1+x+(y+1)) _ (k-1) f:=⟨M1,G_ (jF k 1) h1,h2,iE u,hb,by omega⟩;by_cases t:r.1+1>=l<;>simp only[t,if_true,if_false];exact W_ ⟨⟨g,rfl⟩,.inr ⟨rfl,h1.dn⟩⟩;exact W_ ⟨⟨g,rfl⟩,rfl,h1⟩
  |false=>rw[O_ V_];refine U_ (B7 (by omega) ?_);have M1:=M.poB (cK hb) (by omega);by_cases u:f-1=1;rw[T_<|by simpa using u];exact W_ ⟨⟨g,rfl⟩,.inl ⟨_,rfl,M1.d4⟩⟩;rw[O_<|by simpa using u];have h1:RMid a b (1+x+(y+1)) _ k (f-1):=⟨M1,h1,G_ (jF f 1) h2,ha,by omega,by omega⟩;by_cases t:r.2+1>=l<;>simp only[t,if_true,if_false];exact W_ ⟨⟨g,rfl⟩,.inr ⟨rfl,h1.dn⟩⟩;exact W_ ⟨⟨g,rfl⟩,rfl,h1⟩
 dsimp only;refine U_<|kK<|dM ⟨rfl,?_⟩;refine Hx (P:=Mg a b) (L:=λq i j o=>RMid a b q o i j) (n:=1+x+1) (m:=1+x+1) (g:=g) rfl M (λy k f o r g M=>?_) (λ_ _ _ M=>Xw M) (λR c g p=>W_ ⟨⟨g,rfl⟩,.inl ⟨R,rfl,p⟩⟩) λk f o r g M=>?_;dsimp only;have z:∀l,wpS (model prog w) A E s (HY a b o k f l r.2.1 r.2.2) _ (Da st g):=λl=>
  XW (Qd:=λc v=>(∃g,v=Da st g)/\((∃R,c.1=some R/\Mg a b R)\/(c.1=none/\RMid a b (1+x+1) c.2.2.2.1 c.2.1 c.2.2.1))) (Qy:=λc v=>(∃g,v=Da st g)/\c.1=none/\RMid a b (1+x+1+(y+1)) c.2.2.2.1 c.2.1 c.2.2.1) hc (st:=Da st g) hk G F (q:=1+x+1+y) M (λR c p e=>⟨⟨l,rfl⟩,.inl ⟨R,e,p⟩⟩)
   λo i j m x y d=>⟨⟨⟨l,rfl⟩,.inr ⟨rfl,d.m,d.h1,d.h2,d.ha,d.hb,by have:=d.q;show i+j+_<=_;omega⟩⟩,⟨l,rfl⟩,rfl,d.m,d.h1,d.h2,d.ha,d.hb,by have:=d.q;show i+j+_<=_;omega⟩
 by_cases t:r.1>1;rw[T_ t];refine gA (z<|r.1-1) ?_;rintro(c|c) v hh<;>exact hh;rw[O_ t];refine gA (z r.1) ?_;rintro(c|c) v hh<;>exact hh;dsimp only;rw[C5];exact U_<|eV<|W_ ⟨⟨_,rfl⟩,rfl,M⟩
def SZq(κ:lQ)(p:oC lL)(a:oC<|Nat×Nat×Nat)(g:Nat):lP:=SortSt.mk' κ p a g none
def IV{c:Type}(a:Nat)(R:oA c)(p:oC c)(h:a+R.length<=p.size):(wr a R 0 p).toList=p.toList.take a++R++p.toList.drop (a+R.length):=by
 apply iP;intro i;rw[bP,Wh a R 0 p h];simp only[Nat.add_zero];have b:(p.toList.take a).length=a:=by rw[bD,dF];omega
 by_cases h1:i<a;rw[O_<|by omega,iV,cW<|by omega,List.getElem?_take_of_lt h1,bP];by_cases h2:i<a+R.length;rw[T_<|by omega,cW<|by rw[P_];omega,cU<|by omega,b];rw[O_<|by omega,cU<|by rw[P_];omega,P_,b,List.getElem?_drop,bP];congr 1;omega
def OS(x:lL)(a:Nat)(R:oA lL)(p:oC lL)(h:a+R.length<=p.size):cn x (wr a R 0 p).toList=cx x p 0 a+cn x R+cx x p (a+R.length) p.size:=by rw[IV a R p h,Eo,Eo];unfold cx;rw[jM,jM,gR,gR,iT,f_];congr 2;rw[cJ<|by rw[dB,dF];exact F_ _]
def Ua(hc:Ef prog w A κ vs s){p:oC lL}{f:oC<|Nat×Nat×Nat}{g i b c n d u:Nat}(hp:AOk vs p)(h1:f[i]?=some (b,c,n))(h2:f[i+1]?=some (b+c,d,u))(ha:0<c)(hb:0<d)(q:b+c+d<=p.size){Q:Bool->lP->Prop}
  (h:∀B g',B.toList.Perm p.toList->Q true (SZq κ B ((f.setIfInBounds i (b,c+d,n)).eraseIdxIfInBounds<|i+1) g')):wpS (model prog w) A E s (mergeAt' i) Q (SZq κ p f g):=by
 rw[Nv];refine U_<|iY ?_;have C:(pendingOf<|SZq κ p f g)[i]?=some (b,c,n):=h1;have I:(pendingOf<|SZq κ p f g)[i+1]?=some (b+c,d,u):=h2;rw[C,I];dsimp only;rw[show arrOf (SZq κ p f g)=p from rfl];refine U_ (BR<|U_<|B7 (by omega)<|U_<|KS hc (st:=SZq κ p ((f.setIfInBounds i (b,c+d,n)).eraseIdxIfInBounds<|i+1) g) rfl ha (G_ (dL (b+c) d) q) hp (hp.at _) λk D=>?_);dsimp only;by_cases v:c-k=0;rw[T_<|by simpa using v];exact W_<|h p g<|.refl _;rw[O_<|by simpa using v];refine U_ (B7 (by omega)<|U_<|KS hc (st:=SZq κ p ((f.setIfInBounds i (b,c+d,n)).eraseIdxIfInBounds<|i+1) g) rfl (kQ hb<|by decide) q hp (hp.at _) λm N=>?_);dsimp only;by_cases t:m=0;rw[T_<|by simpa using t];exact W_<|h p g<|.refl _;rw[O_<|by simpa using t];have F:(p.extract (b+k)<|b+c).size=c-k:=by rw[Array.size_extract];omega
 have G:(p.extract (b+c)<|b+c+m).size=m:=by rw[Array.size_extract];omega
 have r:∀(R:oC lL) (g':Nat),Mg (p.extract (b+k)<|b+c) (p.extract (b+c)<|b+c+m) R->∀o,o=SZq κ p ((f.setIfInBounds i (b,c+d,n)).eraseIdxIfInBounds<|i+1) g' ->
   wpS (model prog w) A E s (do
    modify λs=>setArr s (R.toList.zipIdx.foldl (λa (p,j)=>a.setIfInBounds (b+k+j) p)<|arrOf s)
    return (failedOf<|<- get).isNone) Q o:=λR g' l o e=>by
  subst e;refine U_<|eV<|U_<|iY<|W_ ?_;show Q true (SortSt.mk' κ (R.toList.zipIdx.foldl (λa (z:lL×Nat)=>a.setIfInBounds (b+k+z.2) z.1) p) _ g' none);rw[Rl];refine h _ g'<|Qn.mpr λx=>?_;have H:R.toList.length=c-k+m:=by have:=(Qn.mpr λx=>by rw[Eo];exact l x:R.toList.Perm<|(p.extract (b+k)<|b+c).toList++(p.extract (b+c)<|b+c+m).toList).length_eq;simp only[List.length_append,Array.length_toList,F,G]at this;rw[dF];exact this
  have O:=l x;have M:=Jo x p;have a2:=Fx x p (aN<|b+k) (show b+k<=p.size by omega);have J:=Fx x p (show b+k<=b+c from gU D b)<|show b+c<=p.size from G_ (dL (b+c) d) q;have L:=Fx x p (show b+c<=b+c+m from dL _ _) (show b+c+m<=p.size by omega);rw[OS x _ _ _<|by omega,H,show b+k+(c-k+m)=b+c+m by omega];unfold cx at *;omega
 by_cases y:c-k<=m;rw[T_ y];exact U_ (T8 hc rfl hp.ex hp.ex (by omega) (by omega) λR g' l=>r R g' l _ rfl);rw[O_ y];exact U_<|T9 hc rfl hp.ex hp.ex (by omega) (by omega) λR g' l=>r R g' l _ rfl
section
variable {p:oC lL}{pd:oC<|Nat×Nat×Nat}{g:Nat}
def Hy(hc:Ef prog w A κ vs s)(hp:AOk vs p){i j:Nat}(hi:i<p.size)(hj:j<p.size){Q:oB Bool->lP->Prop}(h:∀c,Q (some c)<|SZq κ p pd g):wpS (model prog w) A E s (ltAt' i j) Q (SZq κ p pd g):=by rw[ltAt'_eq];refine U_<|iY ?_;exact(show wpS _ _ _ _ (do let x <- elem' p i;let y <- elem' p j;lt' x y) Q _ from U_<|B7 hi<|U_<|B7 hj<|Xt hc rfl (hp.at _) (hp.at _) h)
def Rv{i j:Nat}{Q:Unit->lP->Prop}(h:∀a,a.toList.Perm p.toList->Q () (SZq κ a pd g)):wpS (model prog w) A E s (reverseSlice' i j) Q (SZq κ p pd g):=by rw[reverseSlice'_eq];exact eV<|h _ (mirror_perm p i j _).toList
def Fy{p q:oC lL}(h:q.toList.Perm p.toList):q.size=p.size:=by have:=h.length_eq;rwa[dF,dF]at this
def EW{e:Type}{b m:Nat}{st:lP}(h1:1<=m)(f:m<=b){F:Nat->oB e×Nat->StateT lP Sem (ForInStep<|oB e×Nat)}
  (i:∀x k (Q:ForInStep (oB e×Nat)->lP->Prop),1<=k->k<b->Q (.done (none,k)) st->Q (.yield (none,k+1)) st->wpS (model prog w) A E s (F x (none,k)) Q st)
  {Q:oB e×Nat->lP->Prop} (h:∀k,1<=k->k<=b->Q (none,k) st):wpS (model prog w) A E s (forIn [m:b] ((none,m):oB e×Nat) F) Q st:=by
 refine gA (gH (I:=λx c d=>d=st/\c=(none,x)/\1<=x/\x<=b) (Q:=λc d=>d=st/\∃k,c=(none,k)/\1<=k/\k<=b) ?_ ?_ ⟨rfl,rfl,h1,f⟩) ?_;rintro x c d _ hx ⟨rfl,rfl,a,a2⟩;exact i x x _ a hx ⟨rfl,x,rfl,a,a2⟩ ⟨rfl,rfl,bK a,hx⟩;rintro c d ⟨rfl,rfl,a,a2⟩;exact⟨rfl,_,rfl,a,a2⟩;rintro c d ⟨rfl,k,rfl,a,a2⟩;exact h k a a2
def Xx(hc:Ef prog w A κ vs s)(hp:AOk vs p){lo a m:Nat}(h1:1<=m)(h:m<=a)(n:lo+a<=p.size){Q:oB Nat->lP->Prop}
  (j:∀k d,1<=k->k<=a->d.toList.Perm p.toList->Q (some k) (SZq κ d pd g)):wpS (model prog w) A E s (Wi lo a m) Q (SZq κ p pd g):=by
 unfold Wi;refine U_<|Rv λd b=>?_;have hz:=Fy b;refine U_ (EW h1 h (λx k o e f l i=>U_<|Hy hc (hp.pm b) (by omega) (by omega) λc=>?_) λk e f=>W_<|j k _ e f b);cases c;exact W_ i;exact W_ l
def Xy(hc:Ef prog w A κ vs s)(hp:AOk vs p){lo f m:Nat}(h1:1<=m)(u:m+1<=f)(z:lo+f<=p.size){Q:oB Nat->lP->Prop}
  (t:∀k a,1<=k->k<=f->a.toList.Perm p.toList->Q (some k) (SZq κ a pd g)):wpS (model prog w) A E s (Wj lo f m) Q (SZq κ p pd g):=by
 unfold Wj;refine U_<|kK<|dM ⟨rfl,?_⟩;refine U_<|gA (gH (I:=λx c d=>∃a q,d=SZq κ a pd g/\c=(none,x,q)/\a.toList.Perm p.toList/\1<=x/\x<=f) (Q:=λc d=>∃a k q,d=SZq κ a pd g/\c=(none,k,q)/\a.toList.Perm p.toList/\1<=k/\k<=f) ?_ ?_ ⟨p,0,rfl,rfl,.refl _,bK h1,u⟩) ?_
 ·rintro x c d _ hx ⟨a,q,rfl,rfl,K,b,e⟩;have i:=hp.pm K;have hz:=Fy K;dsimp only;refine U_ (Hy hc i (by omega) (by omega) λy=>?_);dsimp only;cases y with
  |true=>rw[T_ rfl];by_cases hq:q>0;rw[T_ hq];exact U_<|Rv λr h=>W_ ⟨r,0,rfl,rfl,h.trans K,bK b,hx⟩;rw[O_ hq];exact W_ ⟨a,0,rfl,rfl,K,bK b,hx⟩
  |false=>rw[O_ V_];refine U_ (Hy hc i (by omega) (by omega) λv=>?_);cases v;exact W_ ⟨a,_,rfl,rfl,K,bK b,hx⟩;exact W_ ⟨a,x,q,rfl,rfl,K,b,e⟩
 rintro c d ⟨a,q,rfl,rfl,K,b,e⟩;exact⟨a,_,q,rfl,rfl,K,b,e⟩;rintro c d ⟨a,k,q,rfl,rfl,K,b,e⟩;have i:=hp.pm K;have hz:=Fy K;dsimp only;by_cases hq:q>0;rw[T_ hq];exact U_ (Rv λr h=>Xx hc (i.pm h) b e (by rw[Fy h];omega) λo j n a2 l=>t o j n a2<|l.trans<|h.trans K);rw[O_ hq];exact Xx hc i b e (by omega) λo j n a2 l=>t o j n a2<|l.trans K
def CG(hc:Ef prog w A κ vs s)(hp:AOk vs p){lo b:Nat}(h1:1<=b)(i:lo+b<=p.size){Q:oB Nat->lP->Prop}
  (d:∀k l,1<=k->k<=b->l.toList.Perm p.toList->Q (some k) (SZq κ l pd g)):wpS (model prog w) A E s (countRun' lo b) Q (SZq κ p pd g):=by
 rw[L8];refine U_ (EW (F_ 1) h1 (λx k v a h q n=>U_<|Hy hc hp (by omega) (by omega) λc=>?_) λk a h=>?_);cases c;exact W_ n;exact W_ q;dsimp only;by_cases e:k=b;rw[T_<|by simpa using e];exact W_<|d k p a h<|.refl _;rw[O_<|by simpa using e];by_cases j:k>1
 ·rw[T_ j];refine U_ (Hy hc hp (by omega) (by omega) λc=>?_);dsimp only;cases c with
  |true=>exact W_ (d k p a h<|.refl _)
  |false=>rw[O_ V_];exact U_<|Rv λu f=>Xy hc (hp.pm f) a (by omega) (by rw[Fy f];exact i) λt m r a2 o=>d t m r a2<|o.trans f
 rw[O_ j];exact Xy hc hp a (by omega) i d
def Xz(hc:Ef prog w A κ vs s)(hp:AOk vs p){lo m ok:Nat}(n:ok<=m)(j:lo+m<=p.size){Q:Bool->lP->Prop}
  (f:∀a,a.toList.Perm p.toList->Q true (SZq κ a pd g)):wpS (model prog w) A E s (binarySort' lo m ok) Q (SZq κ p pd g):=by
 rw[binarySort'_eq];refine U_<|gA (gH (I:=λx c b=>∃a,b=SZq κ a pd g/\c=(none,())/\a.toList.Perm p.toList) (Q:=λc b=>∃a,b=SZq κ a pd g/\c=(none,())/\a.toList.Perm p.toList) ?_ (λ_ _ z=>z) ⟨p,rfl,rfl,.refl _⟩) ?_;rintro x c b d hx ⟨a,rfl,rfl,K⟩;have h:=hp.pm K;have hz:=Fy K;refine U_<|IU (m:=x) (λy l r o q a2 i hy=>?_) (aN _) (F_ _) (F_ _) λk hk=>?_;dsimp only;by_cases e:l>=r;rw[T_ e];exact W_ (i<|by omega);rw[O_ e];refine U_ (Hy hc h (by omega) (by omega) λc=>?_);cases c;exact W_ (hy _ _ (by omega) a2<|by omega);exact W_ (hy _ _ (by omega) (by omega)<|by omega);dsimp only;rw[moveDown'_eq];exact U_<|eV<|W_ ⟨_,rfl,rfl,((bubble_perm a _ _).toList).trans K⟩;rintro c b ⟨a,rfl,rfl,K⟩;exact W_<|f a K
def Jp(hc:Ef prog w A κ vs s)(hp:AOk vs p){i hi:Nat}(o:Chain pd.toList 0 hi)(H:hi<=p.size)(f:i+1<pd.size){Q:Bool->lP->Prop}
  (h:∀d e j,d.toList.Perm p.toList->Chain e.toList 0 hi->e.size+1=pd.size->Q true (SZq κ d e j)):wpS (model prog w) A E s (mergeAt' i) Q (SZq κ p pd g):=by
 have a:pd[i]?=some pd[i]:=bN<|cK f;have b:pd[i+1]?=some pd[i+1]:=bN f;generalize pd[i]'(cK f)=ea at a;generalize pd[i+1]=eb at b;obtain⟨l,m,u⟩:=ea;obtain⟨z,n,G⟩:=eb;have F:pd.toList[i]?=some (l,m,u):=by rw[bP];exact a
 have C:pd.toList[i+1]?=some (z,n,G):=by rw[bP];exact b
 have q:=Nw F C;rw[q]at o;obtain⟨k,B,D,r,y,x,t⟩:=Chain.app.mp o;subst D;subst y;have I:=t.le;refine Ua hc hp a b r x (by omega) λd j K=>?_;have v:=BS (c:=(l,m+n,u)) a b;refine h d _ j K ?_ ?_;rw[v];exact Chain.app.mpr ⟨l,B,rfl,S_ r<|dL m n,by rw[<- Nat.add_assoc];exact t⟩;have:=b_ List.length v;have hz:=b_ List.length q;simp only[List.length_append,List.length_cons,Array.length_toList]at this hz;omega
def Chain.pu{lo m:Nat}(h:Chain pd.toList 0 lo)(a:0<m):Chain (pd.push (lo,m,0)).toList 0 (lo+m):=by rw[Array.toList_push];exact Chain.app.mpr ⟨lo,h,rfl,a,rfl⟩
end
section
variable {p:oC lL}{pd:oC<|Nat×Nat×Nat}{g:Nat}
def Mf{d e b τ:Type}{N:Nat}{f:Nat->e->StateT d Sem (ForInStep e)}{k:e->StateT d Sem τ}{Q:τ->d->Prop}{S:b->d}{C:b->e}{I:Nat->b->Prop}{J:b->Prop}{st:d}{c:e}(l:b)(m:st=S l)(hc:c=C l)(h0:I 0 l)
  (step:∀x i,x<N->I x i->wpS (model prog w) A E s (f x<|C i) (λz a=>match z with
   |.done c=>∃i,a=S i/\c=C i/\J i
   |.yield c=>∃i,a=S i/\c=C i/\I (x+1) i) (S i))
  (j:∀i,I N i->J i) (n:∀i,J i->wpS (model prog w) A E s (k<|C i) Q (S i)):wpS (model prog w) A E s (forIn [0:N] c f>>=k) Q st:=by
 refine U_<|gA (gH (I:=λx c a=>∃i,a=S i/\c=C i/\I x i) (Q:=λc a=>∃i,a=S i/\c=C i/\J i) ?_ ?_ ⟨l,m,hc,h0⟩) ?_;rintro x c a _ hx ⟨i,rfl,rfl,h⟩;refine gA (step x i hx h) ?_;rintro(c|c) a hh<;>exact hh;rintro c a ⟨i,h1,h2,h⟩;rw[Nat.zero_max]at h;exact⟨i,h1,h2,j i h⟩;rintro c a ⟨i,rfl,rfl,h⟩;exact n i h
def Jq(hc:Ef prog w A κ vs s)(hp:AOk vs p){Q:Unit->lP->Prop}(hQ:∀F G X,F.toList.Perm p.toList->Q () (SZq κ F G X)):wpS (model prog w) A E s sortRuns' Q (SZq κ p #[] g):=by
 rw[sortRuns'_eq];refine U_<|iY ?_;rw[show arrOf (SZq κ p #[] g)=p from rfl];generalize Z:p.size=N;dsimp only;generalize minRun' N N 0=mr;refine Mf (S:=λi:oC lL×oC (Nat×Nat×Nat)×Nat×Nat=>SZq κ i.1 i.2.1 i.2.2.1) (C:=λi=>(none,i.2.2.2)) (I:=λx i=>i.1.toList.Perm p.toList/\Chain i.2.1.toList 0 i.2.2.2/\i.2.2.2<=N/\x<=i.2.2.2) (J:=λi=>i.1.toList.Perm p.toList/\Chain i.2.1.toList 0 N) (p,#[],g,0) rfl rfl ⟨.refl _,rfl,aN _,F_ _⟩ (λx i hx h=>?_) (λi h=>?_) λi h=>?_
 ·have hz:=Fy h.1;dsimp only;by_cases e:i.2.2.2>=N;rw[T_ e];have L:i.2.2.2=N:=Nat.le_antisymm h.2.2.1 e;exact W_ ⟨i,rfl,rfl,h.1,L ▸ h.2.1⟩;rw[O_ e];refine U_ (CG hc (hp.pm h.1) (show 1<=N-i.2.2.2 by omega) (by omega) λk u R k2 f=>?_);have z1:=Fy f;dsimp only;by_cases a:k<mr
  ·rw[T_ a];refine U_<|kK<|dM ⟨rfl,?_⟩;refine U_ (Xz hc ((hp.pm h.1).pm f) (m:=min (N-i.2.2.2) mr) (by omega) (by omega) λq U=>?_);rw[O_<|show ¬(!true)=true by decide];have hq:q.toList.Perm p.toList/\1<=min (N-i.2.2.2) mr/\i.2.2.2+min (N-i.2.2.2) mr<=N:=⟨U.trans<|f.trans h.1,by omega,by omega⟩;refine U_<|iY ?_;show wpS _ _ _ _ (match i.2.1.back? with
    |some (B,o,_)=>_
    |_=>_) _ _
   have b:x+1<=i.2.2.2+min (N-i.2.2.2) mr:=Nat.add_le_add h.2.2.2 hq.2.1;cases eb:i.2.1.back? with
   |none=>dsimp only;exact U_ (eV<|W_ ⟨(q,_,i.2.2.1,_),rfl,rfl,hq.1,h.2.1.pu hq.2.1,hq.2.2,b⟩)
   |some e=>obtain⟨B,o,q1⟩:=e;dsimp only;refine Mf (S:=λj:oC lL×oC (Nat×Nat×Nat)×Nat=>SZq κ j.1 j.2.1 j.2.2) (C:=λ_=>(none,())) (I:=λ_ j=>j.1.toList.Perm p.toList/\Chain j.2.1.toList 0 i.2.2.2) (J:=λj=>j.1.toList.Perm p.toList/\Chain j.2.1.toList 0 i.2.2.2) (q,i.2.1,i.2.2.1) rfl rfl ⟨hq.1,h.2.1⟩ (λy j _ W=>?_) (λ_ W=>W) λj W=>?_;refine U_<|iY ?_;rw[show pendingOf (SZq κ j.1 j.2.1 j.2.2)=j.2.1 from rfl];by_cases d:j.2.1.size>1;rw[T_ d,bN<|by omega];generalize j.2.1[j.2.1.size-2]'(by omega)=e3;obtain⟨Y,O,T⟩:=e3;dsimp only;split;exact W_ ⟨j,rfl,rfl,W⟩;refine U_ (Jp hc (hp.pm W.1) (i:=j.2.1.size-2) W.2 (by rw[Fy W.1];omega) (by omega) λl D r t v _=>?_);rw[O_<|show ¬(!true)=true by decide];exact W_ ⟨(l,D,r),rfl,rfl,t.trans W.1,v⟩;rw[O_ d];exact W_ ⟨j,rfl,rfl,W⟩;dsimp only;refine U_<|eV<|U_<|eV<|W_ ⟨(j.1,_,j.2.2,_),rfl,rfl,W.1,Chain.pu ?_ hq.2.1,hq.2.2,b⟩;show Chain (j.2.1.modify (j.2.1.size-1) _).toList 0 _;rw[Array.toList_modify];refine Chain.mod ?_ W.2;exact λe=>⟨rfl,rfl⟩
  ·rw[O_ a];have hq:u.toList.Perm p.toList/\1<=k/\i.2.2.2+k<=N:=⟨f.trans h.1,R,by omega⟩;refine U_<|iY ?_;show wpS _ _ _ _ (match i.2.1.back? with
    |some (B,o,_)=>_
    |_=>_) _ _
   have b:x+1<=i.2.2.2+k:=Nat.add_le_add h.2.2.2 hq.2.1;cases eb:i.2.1.back? with
   |none=>dsimp only;exact U_ (eV<|W_ ⟨(u,_,i.2.2.1,_),rfl,rfl,hq.1,h.2.1.pu hq.2.1,hq.2.2,b⟩)
   |some e=>obtain⟨B,o,q1⟩:=e;dsimp only;refine Mf (S:=λj:oC lL×oC (Nat×Nat×Nat)×Nat=>SZq κ j.1 j.2.1 j.2.2) (C:=λ_=>(none,())) (I:=λ_ j=>j.1.toList.Perm p.toList/\Chain j.2.1.toList 0 i.2.2.2) (J:=λj=>j.1.toList.Perm p.toList/\Chain j.2.1.toList 0 i.2.2.2) (u,i.2.1,i.2.2.1) rfl rfl ⟨hq.1,h.2.1⟩ (λy j _ W=>?_) (λ_ W=>W) λj W=>?_;refine U_<|iY ?_;rw[show pendingOf (SZq κ j.1 j.2.1 j.2.2)=j.2.1 from rfl];by_cases d:j.2.1.size>1;rw[T_ d,bN<|by omega];generalize j.2.1[j.2.1.size-2]'(by omega)=e3;obtain⟨Y,O,T⟩:=e3;dsimp only;split;exact W_ ⟨j,rfl,rfl,W⟩;refine U_ (Jp hc (hp.pm W.1) (i:=j.2.1.size-2) W.2 (by rw[Fy W.1];omega) (by omega) λl D r t v _=>?_);rw[O_<|show ¬(!true)=true by decide];exact W_ ⟨(l,D,r),rfl,rfl,t.trans W.1,v⟩;rw[O_ d];exact W_ ⟨j,rfl,rfl,W⟩;dsimp only;refine U_<|eV<|U_<|eV<|W_ ⟨(j.1,_,j.2.2,_),rfl,rfl,W.1,Chain.pu ?_ hq.2.1,hq.2.2,b⟩;show Chain (j.2.1.modify (j.2.1.size-1) _).toList 0 _;rw[Array.toList_modify];refine Chain.mod ?_ W.2;exact λe=>⟨rfl,rfl⟩
 have e:i.2.2.2=N:=Nat.le_antisymm h.2.2.1 h.2.2.2;exact⟨h.1,e ▸ h.2.1⟩;dsimp only;refine Mf (S:=λj:oC lL×oC (Nat×Nat×Nat)×Nat=>SZq κ j.1 j.2.1 j.2.2) (C:=λ_=>(none,())) (I:=λ_ j=>j.1.toList.Perm p.toList/\Chain j.2.1.toList 0 N) (J:=λj=>j.1.toList.Perm p.toList/\Chain j.2.1.toList 0 N) (i.1,i.2.1,i.2.2.1) rfl rfl h (λx j _ W=>?_) (λ_ W=>W) λj W=>W_<|hQ j.1 j.2.1 j.2.2 W.1;refine U_<|iY ?_;rw[show pendingOf (SZq κ j.1 j.2.1 j.2.2)=j.2.1 from rfl];by_cases a:j.2.1.size<=1;rw[T_ a];exact W_ ⟨j,rfl,rfl,W⟩;rw[O_ a];refine U_ (Jp hc (hp.pm W.1) W.2 (by rw[Fy W.1];exact gD<|Eq.symm Z) ?_ λP n V H M _=>?_);have z:∀(c:Prop) [Decidable c],(if c then j.2.1.size-2-1 else j.2.1.size-2)+1<j.2.1.size:=λc _=>by by_cases h:c;rw[T_ h];omega;rw[O_ h];omega
 exact z _
 rw[O_<|show ¬(!true)=true by decide];exact W_ ⟨(P,n,V),rfl,rfl,H.trans W.1,M⟩
end
def OT(hc:Ef prog w A κ vs s){Q:lP->k_->Prop}(b:∀st:lP,(arrOf st).toList.Perm (vs.toArray.zip vs.toArray).toList->failedOf st=none->Q st s) :
  yL prog w A ((sortRuns').run<|SortSt.mk' κ (vs.toArray.zip vs.toArray) #[] 7 none) (λr a=>Q r.2 a) E s:=by
 refine aM (Jq (E:=E) (g:=7) hc (λx hx=>?_) (Q:=λ_ st=>Q st s) λf c d K=>b _ K rfl) (λr a h=>?_) λ_ _ e=>e;rw[jG]at hx;exact(fI hx).1;obtain⟨rfl,h⟩:=h;exact h
end
section
variable {prog:lD}{w:lE}{A:lG}{E:kZ->k_->Prop}{s:k_}{X:Cx}{aa:oA<|lB×lI}{σ:St}{H:Hp}{k:Nat}
def Qo{a:lB}{vs:oA kZ}{n:Nat}{P:PySem.Fin->k_->Prop}(i:s.heap.get? a=some (seqObj "list" vs.toArray n)) (C:vs.length<1000000)
  (hk:2<=vs.length->∀h':lH,(∀b o,b≠a->s.heap.get? b=some o->h'.get? b=some o)->∃ l,(∀Q:lQ->k_->Prop,Q l {s with heap:=h'}->yL prog w A (keyKind' vs.toArray) Q E {s with heap:=h'})/\Ef prog w A l vs {s with heap:=h'})
  (h:∀(us:oA kZ) (h':lH) (c:Nat),us.Perm vs->(∀b o,b≠a->s.heap.get? b=some o->h'.get? b=some o)->h'.get? a=some (seqObj "list" us.toArray c)->P (.done<|.ret .none) {s with heap:=h'}) :
  yL prog w A (Builtin.«list.sort» ⟨[.ref a],[]⟩) P E s:=by
 obtain⟨j,f⟩:∃j,(s.heap.update a<|Obj.mapSeq λ_=>(#[]:oC kZ)).get? a=some (seqObj "list" #[] j):=⟨_,iA i λ_=>#[]⟩;have g:vs.toArray.size<=sizeLine:=by rw[R_];exact G_ (cX C)<|by decide
 have m:∀b o,b≠a->s.heap.get? b=some o->(((s.heap.update a<|Obj.mapSeq λ_=>(#[]:oC kZ)).push<|seqObj "tuple" vs.toArray 0).push<|seqObj "list" #[] 0).get? b=some o:=λb o hb e=>
  DD _ (DD _<|((aL s.heap a _).2 b hb).trans e)
 have d:(((s.heap.update a<|Obj.mapSeq λ_=>(#[]:oC kZ)).push<|seqObj "tuple" vs.toArray 0).push<|seqObj "list" #[] 0).get? a=some (seqObj "list" #[] j):=DD _<|DD _ f;rw[list_sort_plain];refine A_ (listItems_at i rfl<|A_<|gI i rfl (A_<|jY f rfl<|A_<|jU (A_<|kE (bS ?_)<|aN _)<|by simpa using g) g<|aN _);show yL prog w A _ P E {s with heap:=(((s.heap.update a<|Obj.mapSeq λ_=>(#[]:oC kZ)).push<|seqObj "tuple" vs.toArray 0).push<|seqObj "list" #[] 0)};generalize ((s.heap.update a<|Obj.mapSeq λ_=>(#[]:oC kZ)).push<|seqObj "tuple" vs.toArray 0).push (seqObj "list" #[] 0)=h2 at m d ⊢;dsimp only;have t:((vs.toArray.zip vs.toArray).toList.map (·.2))=vs:=by rw[jG];exact kL<|F_ _
 have u:∀st:lP,(arrOf st).toList.Perm (vs.toArray.zip vs.toArray).toList->P (.done<|.ret .none) {s with heap:=h2.update a<|Obj.mapSeq λ_=>(arrOf st).map (·.2)}/\((arrOf st).map (·.2)).size=vs.length:=λst hp=>by
  have x:((arrOf st).map (·.2)).toList.Perm vs:=by rw[Array.toList_map,<- t];exact(hp.map _).trans<|by rw[t]
  refine⟨h _ _ _ x (λb o hb z=>((aL h2 a _).2 b hb).trans<|m b o hb z)<|iA d _,?_⟩;rw[<- dF];exact x.length_eq
 by_cases h1:vs.toArray.size<2;rw[T_ h1,T_ h1];refine A_<|C_ ?_;rw[StateT.run_pure];obtain⟨r,q⟩:=u (SortSt.mk' general' (vs.toArray.zip vs.toArray) #[] 7 none)<|.refl _;refine A_<|C_<|A_<|jY d rfl<|A_<|gI d rfl ?_ (aN _) ?_;rw[show failedOf (SortSt.mk' general' (vs.toArray.zip vs.toArray) #[] 7 none)=none from rfl,bne_self_eq_false,O_ V_];exact C_ r;refine G_ ?_<|bK g;rw[R_];exact gD q;rw[O_ h1,O_ h1];obtain⟨l,B,y⟩:=hk (by rw[R_]at h1;exact kH h1) h2 m;refine A_<|B _<|A_<|aM (OT y (Q:=λst v=>v={s with heap:=h2}/\(arrOf st).toList.Perm (vs.toArray.zip vs.toArray).toList/\failedOf st=none) λst hp p=>⟨rfl,hp,p⟩) ?_ λ_ _ e=>e;rintro⟨⟨⟩,st⟩ v ⟨rfl,hp,p⟩;dsimp only;obtain⟨r,q⟩:=u st hp;refine A_<|jY d rfl<|A_<|gI d rfl ?_ (aN _) ?_;rw[p,bne_self_eq_false,O_ V_];exact C_ r;refine G_ ?_<|bK g;rw[R_];exact gD q
def Mh{v:kZ}{Q:kZ->k_->Prop}(p:yL prog w A.in1 (collect v) (λd a=>d.length<1000000 /\
   (2<=d.length->∀h':lH,(∀b o,a.heap.get? b=some o->h'.get? b=some o)->∃ i,(∀Q:lQ->k_->Prop,Q i {a with heap:=h'}->yL prog w A.in1.in1 (keyKind' d.toArray) Q E {a with heap:=h'})/\Ef prog w A.in1.in1 i d {a with heap:=h'}) /\
   ∀(us:oA kZ) (h':lH) (l c:Nat),us.Perm d->a.heap.objs.size<=l->(∀b o,a.heap.get? b=some o->h'.get? b=some o)->h'.get? l=some (seqObj "list" us.toArray c)->Q (.ref l) {a with heap:=h'}) E s) :
  yL prog w A (call (.builtin "sorted") [v]) Q E s:=by
 refine Calls.call_function_entry kind_sorted plain_sorted entry_sorted (args_sorted1 _) ?_;unfold Builtin.«sorted»;refine A_ (m:=checkCount "sorted" 1 1 _)<|C_<|A_<|aM p (λd a hx=>?_) λ_ _ e=>e;obtain⟨j,hk,h⟩:=hx;have r:d.length<=sizeLine:=G_ (cX j) (by decide);have g:(a.heap.push<|seqObj "list" d.toArray 0).get? a.heap.objs.size=some (seqObj "list" d.toArray 0):=K_ _ rfl;refine A_<|kE (A_<|bS<|aO slot_list_sort ⟨_,g,rfl⟩ entry_list_sort ?_<|args_list_sort _) r;have f:∀(h':lH),(∀b o,b≠a.heap.objs.size->(a.heap.push<|seqObj "list" d.toArray 0).get? b=some o->h'.get? b=some o)->∀b o,a.heap.get? b=some o->h'.get? b=some o:=λh' k b o q=>k b o (Z_<|N_ q)<|DD _ q;exact Qo (s:={a with heap:=a.heap.push<|seqObj "list" d.toArray 0}) g j (λh2 h' k=>hk h2 h'<|f h' k) λus h' c n k e=>⟨_,rfl,C_ ⟨_,rfl,h us h' _ c n (F_ _) (f h' k) e⟩⟩
structure SortOkP(ds:oA lA):Prop where
 len:ds.length<1000000
 can:PyData.canLayAll0 ds=true
 dp:PyData.depthAll ds<=64
 fst:∀d∈ds,∃i r,d=.tuple (.int i::r)
 cmp:∀d∈ds,∀e∈ds,cmpb d e=true
theorem X0{h:lH}{v:kZ}:∀{us:oA kZ} {ds:oA lA} {as:oA lB},ReadsAll h us ds as->v∈us->∃d∈ds,∃a,Reads h v d a
 |_,_,_,.cons r t,hv=>by rcases aD.mp hv with rfl|hv;exact⟨_,.head _,_,r⟩;obtain⟨d,c,b⟩:=X0 t hv;exact⟨d,.tail _ c,b⟩
def Rw{b:oA kZ}{ds:oA lA}{z:oA lB}(ok:SortOkP ds)(rd:ReadsAll s.heap b ds z)(h2:2<=ds.length)(hu:A.units+64<cLine):∃ f,(∀Q:lQ->k_->Prop,Q f s->yL prog w A (keyKind' b.toArray) Q E s)/\Ef prog w A f b s:=by
 have P:=Rm rd;obtain⟨N,r,I,F⟩:=Nx rd ok.fst;refine⟨tuples' true,λQ q=>?_,λu m v hv'=>?_⟩;refine PySem.W.kat_kind (T:=.type "int") r (by omega) (λv hv=>?_) rfl q;obtain⟨i,t,rfl⟩:=F v hv;exact PySem.W.Looks.of_pure rfl
 ·obtain⟨d,a,g,D⟩:=X0 rd m;obtain⟨e,he,c,y⟩:=X0 rd hv';have B:=Gy ok.can _ a;have o:=Gy ok.can _ he;have x:=ok.cmp _ a _ he;have h:=G_ (Lb _ a) ok.dp;obtain⟨L,J,rfl⟩:=ok.fst d a;obtain⟨M,O,rfl⟩:=ok.fst e he;cases D with
  |tuple G a2 l n=>
   cases y with
   |tuple g c p j=>exact⟨_,λC q=>IA (.tuple G a2 l n) (.tuple g c p j) B o x hu h q⟩
theorem IW{K:lC}{H:Hp}:∀{ds:oA lA} {c:oA V} {b:oA kZ},Ap K H ds c->Vals c b->∃a:oA<|lA×V×kZ,ds=a.map (·.1)/\b=a.map (·.2.2)/\∀z∈a,Dk K H z.1 z.2.1/\Bf z.2.1 z.2.2
 |[],c,b,h,r=>by have e:=h.nil;subst e;cases r;exact⟨[],rfl,rfl,λ_ z=>nomatch z⟩
 |d::ds,c,b,h,r=>by
  obtain⟨x,j,rfl,h1,h2⟩:=Ap.cons (K:=K) (H:=H) h;cases r with
  |cons f g=>obtain⟨a,rfl,rfl,i⟩:=IW h2 g;refine⟨(d,x,_)::a,rfl,rfl,λy hy=>?_⟩;rcases aD.mp hy with rfl|hy;exact⟨h1,f⟩;exact i y hy
theorem Qp{K:lC}{H:Hp}:∀{e:oA<|lA×V×kZ},(∀z∈e,Dk K H z.1 z.2.1/\Bf z.2.1 z.2.2)->Ap K H (e.map (·.1)) (e.map (·.2.1))/\Vals (e.map (·.2.1)) (e.map (·.2.2))
 |[],_=>⟨Cr,.nil⟩
 |z::e,h=>by obtain⟨a,b⟩:=Qp λy hy=>h y<|.tail _ hy;obtain⟨c,d⟩:=h z<|.head _;exact⟨B8 c a,.cons d b⟩
def Ob:AC:=λd b R=>match d with
 |[.R a]=>opt (b a) λm=>match m with
  |.lst e=>opt (dats e) λc=>SortOkP c/\∀(es:oA lA) (p:lB),es.Perm c->b p=none->R (.R p) (Ao b p<|.lst<|es.map .D)
  |_=>False
 |_=>False
def Hz(hr:Room k X.A):VCall X (.builtin "sorted") Ob:=by
 intro aa s σ H xs us Q I r i;refine B4 i λas μ R Y hc h hq=>?_;unfold Ob at h;split at h
 ·rename_i a;cases Y with
  |cons T W=>
  cases W;obtain⟨m,S,h⟩:=A4 h;split at h;rename_i j;obtain⟨G,Z,ok,h⟩:=A4 h;obtain⟨o,J,P,rfl,M⟩:=hc _ _ S;cases T;obtain⟨u,rfl,U⟩:=Eg r;cases U;obtain⟨N,y,pl,hz⟩:=I.list<|Ep.of (K:=X.K) J;have dk:=M.dats Z;obtain⟨bs,rd⟩:=Ap.reads I G P N dk y;obtain⟨g,rfl,rfl,n⟩:=IW dk y;have l1:=Rm rd;have D:(g.map (·.2.2)).length<1000000:=by rw[l1];exact ok.len
  have C:(g.map (·.2.2)).length<=sizeLine:=G_ (cX D) (by decide);have d:∀b o,s.heap.get? b=some o->((s.heap.push<|seqObj "list" #[] 0).update s.heap.objs.size<|Obj.mapSeq (·++(g.map (·.2.2)).toArray)).get? b=some o:=λb o q=>
   ((aL (s.heap.push<|seqObj "list" #[] 0) s.heap.objs.size _).2 b<|Z_<|N_ q).trans (DD _ q)
  refine Mh<|collect_list pl.isList ⟨D,λh2 v t=>?_,λus v l c F V t e=>?_⟩ C;have hu:=hr.un;exact Rw (s:={s with heap:=v,toks:=s.toks}) ok (Hw (λb o q=>t b o<|d b o q) rd) (by omega) (by show X.A.units+1+1+64<_;omega);obtain⟨j,rfl,p⟩:=Dp F g rfl;obtain⟨O,hv⟩:=Qp λz hz=>n z<|p.mem_iff.mp hz;have B:s.heap.objs.size<=l:=by refine G_ ?_ V;rw[eG];exact G_ (bU _)<|gD (c_ _ _).symm
  have L:(j.map (·.2.1)).length<=sizeLine:=by rw[B_,p.length_eq,<- B_ (f:=(·.2.2)) (as:=g)];exact C
  have x:=I.hok.fresh B;refine⟨.ref l,_,I.laid (t':=s.toks) (λb o q=>t b o<|d b o q) B<|show Bs X.prog X.w _ v _ (.lst<|j.map (·.2.1)) from⟨L,_,c,hv,e⟩,rfl,?_⟩;exact hq _ _ _ _ (Kp.new x _) (hc.new x<|Dh O.rel) Dy<|h (j.map (·.1)) l (p.map _)<|hc.none x;exact h.elim
 exact h.elim
end
end L2
namespace L2
open PySem PySem.Spec PySem.Calls PyProof.Rows
abbrev Qba:=oA AV->M->(AV->M->Prop)->(M->Prop)->Prop
def zk(k:Int):Key×V:=(.inl k,.int 0)
def fsb(N P:oA Str)(sc:lM):Bool:=sc.kind==.function && !sc.isCoroutine && !sc.isGenerator&&decide N.Nodup&&decide (N.take P.length=P)&&P.all (λx=>sc.names.lookup x==some .local||sc.names.lookup x==some .cell)&&sc.names.all λy=>y.2 != .free
def Bi{N P:oA Str}{sc:lM}(h:fsb N P sc=true):FnScope N P sc:=by unfold fsb at h;simp only[Bool.and_eq_true,Bool.not_eq_true',beq_iff_eq,decide_eq_true_iff,List.all_eq_true,Bool.or_eq_true,bne_iff_ne]at h;exact⟨h.1.1.1.1.1.1,h.1.1.1.1.1.2,h.1.1.1.1.2,h.1.1.1.2,h.1.1.2,h.1.2,h.2⟩
def vNo:AE:=λ_ _ _=>False
section
variable {X:Cx}{body suite:oA lJ}{pos:Pos}{tb:AX->AS}
def OU{e:lF}:VE X e vNo:=λd s a H Q I z=>B4 z λc b R _ _ h _=>h.elim
def OV:XA X λ_ _ _=>False:=by rintro c b H s a C d e I q R ⟨_,_,_,_,_,_,_,_,_,_,h⟩;exact h.elim
def XH(X:Cx)(f:oA<|lB×lI)(D:Ends)(d:oA ExceptHandler):kZ->k_->Prop:=λe c=>yL X.prog X.w X.A (noteFrame e X.env) (λ_ b=>yL X.prog X.w X.A (setFlight e none) (λ_ a=>
  yL X.prog X.w X.A (handleBy e X.env d) (SP X f D) X.xe a) X.xe b) X.xe c
def X1{h₀:ExceptHandler}{w:oA ExceptHandler}{EXf:(ASt->M->Prop)->(AV->M->Prop)->(ASt->M->Prop)->(ASt->M->Prop)->AX}(hb:∀y t x,XA (X.taking y t) x->VSs (X.taking y t) body (tb x)) (B:∀d i H s D l nr j m,Inv X d i H s->LE' X.K X.H₀ l nr j m D->XA (X.taking (XH X d D<|h₀::w)<|X.pn++d) (EXf l nr j m)):NO X (.Try body (h₀::w) [] [] pos) λk r b c n o=>tb (EXf k r b c) k r b c n o:=by
 intro d s i H D I z;refine Ge z λn o l nr j m C hc h hq=>?_;refine wpAny_Try_except ?_;have ok:=I.ok;refine aM (hb _ (X.pn++d) _ (B d i H s D l nr j m I hq) [] s i H D I.take ⟨n,o,_,_,_,_,C,hc,h,hq.kp I.kp0⟩) (λfl E p=>?_) λe E he=>he;cases fl with
 |ret u=>obtain⟨v,a,g,f,A,q⟩:=p;exact⟨v,a,g,f.untake ok,A,q⟩
 |next=>obtain⟨a,g,f,q⟩:=p;exact hJ ⟨a,g,f.untake ok,q⟩
 |_=>obtain⟨a,g,f,q⟩:=p;exact⟨a,g,f.untake ok,q⟩
def X2{h₀:ExceptHandler}{c:oA ExceptHandler}{t:AS}(hb:∀b a,VSs (X.taking b a) body t):NO X (.Try body (h₀::c) [] [] pos) t :=
 X1 (tb:=λ_=>t) (EXf:=λ_ _ _ _ _ _ _=>False) (λb a _ _=>hb b a) λ_ _ _ _ _ _ _ _ _ _ _=>OV
end
end L2
namespace L2
open PySem PySem.W PyProof.Rows
section
variable {prog:lD}{w:lE}{A:lG}{E:kZ->k_->Prop}{s:k_}{P:lD}{K:lC}{mg:Str->oB kZ}{base:lH}{k:Nat}{f c':lB}{N ps:oA Str}{name qual:Str}{params:Arguments}{body:lF}{scope:lM}{pm ic:kZ}{outer:oA Env}{H:Hp}{us:oA kZ}{vs:oA V}{Q:VK}
def IX{b:lQ}{ks:oA kZ}(hc:Ef prog w A b ks s){arr:oC lL}(hx:∀x∈arr.toList,x.1∈ks){Q:lP->k_->Prop}(c:∀st:lP,(arrOf st).toList.Perm arr.toList->failedOf st=none->Q st s) :
  yL prog w A ((sortRuns').run<|SortSt.mk' b arr #[] 7 none) (λr a=>Q r.2 a) E s:=by
 refine aM (Jq (E:=E) (g:=7) hc hx (Q:=λ_ st=>Q st s) λj d i K=>c _ K rfl) (λr a h=>?_) λ_ _ e=>e;obtain⟨rfl,h⟩:=h;exact h
structure KySt(a kS:lB)(e1:Nat)(al:oA kZ)(s:k_):Prop where
 l:s.heap.get? a=some (seqObj "list" #[] e1)
 k:∃e,s.heap.get? kS=some (seqObj "list" al.toArray e)
def Qq{a:lB}{f:kZ}{vs:oA kZ}{n:Nat}{P:PySem.Fin->k_->Prop}(I:Nat->oA kZ->k_->Prop)(D:s.heap.get? a=some (seqObj "list" vs.toArray n)) (gy:vs.length<1000000) {e1:Nat} {h1:lH}
  (F:h1=((s.heap.update a<|Obj.mapSeq λ_=>(#[]:oC kZ)).push<|seqObj "tuple" vs.toArray 0).push (seqObj "list" #[] 0)) (S:(s.heap.update a<|Obj.mapSeq λ_=>(#[]:oC kZ)).get? a=some (seqObj "list" #[] e1))
  (h0:I 0 [] {s with heap:=h1}) (M:∀i d g,I i d g->d.length=i/\KySt a (s.heap.objs.size+1) e1 d g) (W:∀i v d g,vs[i]?=some v->I i d g->yL prog w A (call f [v]) (λk h=>KySt a (s.heap.objs.size+1) e1 d h/\∀h' c,(∀b o,b≠s.heap.objs.size+1->h.heap.get? b=some o->h'.get? b=some o)->h'.objs.size=h.heap.objs.size->h'.get? (s.heap.objs.size+1)=some (seqObj "list" (d++[k]).toArray c)->I (i+1) (d++[k]) {h with heap:=h'}) (λ_ _=>False) g)
  (done:∀d g,I vs.length d g->(2<=vs.length->∃ G,(∀Q:lQ->k_->Prop,Q G g->yL prog w A (keyKind' d.toArray) Q E g)/\Ef prog w A G d g) /\
   ∀(us:oA kZ) (h':lH) (c:Nat),us.Perm vs->(∀b o,b≠a->b≠s.heap.objs.size+1->g.heap.get? b=some o->h'.get? b=some o)->h'.objs.size=g.heap.objs.size->h'.get? a=some (seqObj "list" us.toArray c)->P (.done<|.ret .none) {g with heap:=h'}) :
  yL prog w A (ksk_tree a f false) P E s:=by
 have ha:a<s.heap.objs.size:=N_ D;have C:s.heap.objs.size+1≠a:=dJ<|bZ ha;have t:vs.toArray.size<=sizeLine:=by rw[R_];exact G_ (cX gy)<|by decide
 have R:((s.heap.update a<|Obj.mapSeq λ_=>(#[]:oC kZ)).push<|seqObj "tuple" vs.toArray 0).objs.size=s.heap.objs.size+1:=by rw[size_push',eG]
 unfold ksk_tree;refine A_ (listItems_at D rfl<|A_<|gI D rfl (A_<|jY S rfl<|A_<|jU (A_<|kE (bS ?_)<|aN _)<|by simpa using t) t<|aN _);show yL prog w A (ksk_rest a f false vs.toArray e1<|.ref ((s.heap.update a<|Obj.mapSeq λ_=>(#[]:oC kZ)).push<|seqObj "tuple" vs.toArray 0).objs.size) P E {s with heap:=((s.heap.update a<|Obj.mapSeq λ_=>(#[]:oC kZ)).push<|seqObj "tuple" vs.toArray 0).push<|seqObj "list" #[] 0};rw[R,<- F];unfold ksk_rest;refine A_<|dM ?_
 first
  |rw[List.forIn_toArray]
  | (rw[<- fB];simp only[List.toList_toArray])
  |rw[<- fB]
 refine A_<|ksk_fold (λi g=>∃d,I i d g) vs 0 _ ⟨[],h0⟩ ?step ?done
 case step=>
  rintro j x g hx ⟨d,hi⟩;rw[iU]at hi ⊢;obtain⟨z,_⟩:=M _ _ _ hi;have hj:j<vs.length:=(D_.mp hx).1;refine A_<|dQ<|aM (W j x d g hx hi) (λk h ⟨K,hk⟩=>?_) λ_ _ Z=>Z.elim;obtain⟨e,B⟩:=K.k;have u:=aL h.heap (s.heap.objs.size+1)<|Obj.mapSeq (·.push k);obtain⟨p,r⟩:∃p,(h.heap.update (s.heap.objs.size+1)<|Obj.mapSeq (·.push k)).get? (s.heap.objs.size+1)=some (seqObj "list" (d.toArray.push k) p):=⟨_,iA B (·.push k)⟩;have T:d.toArray.size<=sizeLine:=by rw[R_,z];rw[R_]at t;omega
  refine A_ (gI B rfl ?_ T<|G_ (gD<|Array.size_push ..)<|by rw[R_,z];rw[R_]at t;omega);refine C_ ⟨rfl,d++[k],hk _ p (λb o hb q=>(u.2 b hb).trans q) (eG ..)<|by rw[r];simp⟩
 case done=>
  rintro g ⟨d,hi⟩;rw[iU]at hi;obtain⟨z,K⟩:=M _ _ _ hi;obtain⟨hk,Y⟩:=done d g hi;obtain⟨e,B⟩:=K.k;refine A_<|listItems_at B rfl ?_;unfold ksk_end;dsimp only;rw[O_ V_];have hz:(d.toArray.zip vs.toArray).toList.map (·.2)=vs:=by rw[jG];exact kL<|by rw[z];exact F_ _
  have m:∀st:lP,(arrOf st).toList.Perm (d.toArray.zip vs.toArray).toList->failedOf st=none->yL prog w A (ksk_tail a false e1 (.ref<|s.heap.objs.size+1) st) P E g:=λst hp y=>by
   have O:((arrOf st).map (·.2)).toList.Perm vs:=by rw[Array.toList_map,<- hz];exact(hp.map _).trans<|by rw[hz]
   have L:((arrOf st).map (·.2)).size=vs.length:=by rw[<- dF];exact O.length_eq
   have u:=aL g.heap (s.heap.objs.size+1)<|Obj.mapSeq λ_=>(#[]:oC kZ);have J:(g.heap.update (s.heap.objs.size+1)<|Obj.mapSeq λ_=>(#[]:oC kZ)).get? a=some (seqObj "list" #[] e1):=(u.2 a C.symm).trans K.l;have h:=aL (g.heap.update (s.heap.objs.size+1)<|Obj.mapSeq λ_=>(#[]:oC kZ)) a<|Obj.mapSeq λ_=>(arrOf st).map (·.2);obtain⟨p,r⟩:∃p,((g.heap.update (s.heap.objs.size+1)<|Obj.mapSeq λ_=>(#[]:oC kZ)).update a<|Obj.mapSeq λ_=>(arrOf st).map (·.2)).get? a=some (seqObj "list" ((arrOf st).map (·.2)) p):=⟨_,iA J λ_=>(arrOf st).map (·.2)⟩;unfold ksk_tail;dsimp only;refine A_ (gI B rfl ?_ (by rw[R_,z];rw[R_]at t;exact t)<|aN _);refine A_<|eK ?_;refine A_<|jY J rfl ?_;refine A_ (gI J rfl ?_ (aN _)<|by rw[O_ V_,L];rw[R_]at t;omega);rw[y];simp only[bne_self_eq_false,Bool.false_eq_true,if_false];exact C_<|Y _ _ p O (λb o hb U q=>(h.2 b hb).trans<|(u.2 b U).trans q) (by rw[eG,eG])<|by rw[r]
  by_cases h2:vs.toArray.size<2;rw[T_ h2,T_ h2];refine A_<|C_ ?_;rw[StateT.run_pure];exact A_<|C_<|m (SortSt.mk' general' (d.toArray.zip vs.toArray) #[] 7 none) (.refl _) rfl;rw[O_ h2,O_ h2];obtain⟨G,q1,X⟩:=hk (by rw[R_]at h2;exact kH h2);refine A_<|q1 _<|A_<|aM (IX X (arr:=d.toArray.zip vs.toArray) (λx hx=>by
   rw[jG]at hx;exact(fI hx).1) (Q:=λst u=>u=g/\(arrOf st).toList.Perm (d.toArray.zip vs.toArray).toList/\failedOf st=none) λst hp y=>⟨rfl,hp,y⟩) ?_ λ_ _ e=>e
  rintro⟨⟨⟩,st⟩ u ⟨rfl,hp,y⟩;exact m st hp y
def X3(d:Room (k+1) A)(c:Env0 P w K mg base A outer s H)(j:s.heap.get? f=some (kla_obj name qual params body scope [] pm c' ic))(B:s.heap.CodeRec (.ref c') qual)(S:FnScope N ps scope)
  (hb:bindArgs (kla_fn name qual params body scope [] pm (.ref c') ic) ⟨us,[]⟩=pure (ps.zip us)) (r:Vals vs us) (l:vs.length=ps.length) {t:TE} (i:PE (Hq Cm P w K mg base N qual scope f (.ref c') A outer s H λ_ _ _=>False) body t) (hq:t (start N vs) H Q) :
  yL P w A (call (.ref f) us) (CE outer P w H s Q) (λ_ _=>False) s:=by
 have C:s.heap.NoLimit:=c.mod.nolimit.keeps λb o e=>(c.bs b o e).1;have D:∀y∈ps.zip us,scope.names.lookup y.1=some .local\/(scope.names.lookup y.1=some .cell/\((cellsFrom (s.heap.objs.size+1) scope.names []).lookup y.1).isSome=true):=λ⟨n,v⟩ hy=>by rcases S.par n (fI hy).1 with q|q;exact .inl q;exact .inr ⟨q,iI _ _ _<|.inl q⟩
 refine wpAny_call<|kla_callFunE d.depth j rfl S.co S.gen rfl B ?_;rw[hb];refine C_<|wpAny_newFunctionEnv_cells S.kind D λF he g x=>?_;subst he;refine⟨C.keeps x.toInCall.keep,kla_codeExpr ?_⟩;have I:Inv (Hq Cm P w K mg base N qual scope f (.ref c') A outer s H λ_ _ _=>False) [] (start N vs) H g:=Kr S d.hd c l r x;refine aM (i [] g (start N vs) H Q I hq) (λu m a=>?_) λe m a=>aM a (λ_ _ z=>False.elim z) λ_ _ z=>False.elim z;obtain⟨v,h,J,p,q⟩:=a;exact⟨v,h,J.os,J.bare,J.base,J.hok,p,q⟩
end
section
variable {X:Cx}{aa:oA<|lB×lI}{σ:St}{H:Hp}{s:k_}{c P:lB}{ps:oC kZ}{params:Arguments}{body:lF}{scope:lM}{pos:Pos}{Q:kZ->k_->Prop}{prog:lD}{w:lE}{A:lG}{E:kZ->k_->Prop}{k:Nat}
def Inv.tabled{h':lH}{t':Nat}{more:oC kZ}(I:Inv X aa σ H s)(i:H P=some (.tbl ps))(k:∀b o,b≠P->s.heap.get? b=some o->h'.get? b=some o)(e:h'.get? P=some {cls:=.none,data:=.fields<|ps++more}) :
  Inv X aa σ (upd H P<|.tbl<|ps++more) {s with heap:=h',toks:=t'}:=by
 have h:∀b,H b=none->b≠P:=λb hb z=>by rw[z,i]at hb;cases hb
 have f:∀b u,H b=some u->(∀j,u≠.tbl j)->b≠P:=λb u hb hu z=>by rw[z,i]at hb;exact hu ps (aR hb).symm
 have d:∀b g,H b=some (.tup g)->upd H P (.tbl<|ps++more) b=some (.tup g):=λb g q=>by rw[An<|f b _ q λ_ z=>by cases z];exact q
 refine I.un (H':=upd H P<|.tbl<|ps++more) ⟨λb o q n _ _=>k b o (h b n) q,λb o q n _ _=>⟨o.slots,k b o (h b n) q⟩,λb o q n _=>by rw[An<|h b n];exact n,λb o q _=>?_,d,λb o u q=>by rw[An<|f b _ q λ_ z=>by cases z];exact q,λb j q=>?_⟩ λa o q=>?_;by_cases hb:b=P;rw[hb];exact⟨_,e⟩;exact⟨o,k b o hb q⟩;by_cases hb:b=P;subst hb;rw[i]at q;obtain rfl:=HO.tbl.inj<|aR q;exact⟨more,A6⟩;exact⟨#[],by rw[An hb,q];simp⟩;by_cases ha:a=P;subst ha;rw[A6]at q;obtain rfl:=aR q;exact e;rw[An ha]at q;refine(I.hok a o q).stay (λb u hb hu=>k b u ?_ hu) (λb hb=>by rw[An<|f b _ hb λ_ z=>by cases z];exact hb) d;rcases hb with rfl|hb;exact ha;exact f b _ hb λ_ z=>by cases z
def X4(I:Inv X aa σ H s)(l:H P=some (.tbl ps))(hc:X.env.code=.ref c)(C:CodeHd X.base c P)(u:TriplesOk ps.toList)(hn:codeAmong pos ps.toList=none)(L:X.base.BuiltinsAt X.mg P)(v:defaultsOf params X.env=([],[]))(q:closureFor scope X.env=pure [])
  (h:∀(f a:lB) (d:kZ) (more:oC kZ) (g:k_),Inv X aa σ (upd H P<|.tbl<|ps++more) g->s.heap.objs.size<=f->s.heap.objs.size<=a->g.heap.get? f=some (kla_obj "<lambda>" (X.env.qual ++ "<lambda>") params body scope [] ((X.mg "__name__").getD .none) a d)->g.heap.CodeRec (.ref a) (X.env.qual ++ "<lambda>")->(∀b o,b≠P->s.heap.get? b=some o->g.heap.get? b=some o)->Q (.ref f) g) :
  yL X.prog X.w X.A (eval (.Lambda params body scope pos) X.env) Q X.xe s:=by
 have m:mainGlobals≠P:=λz=>by obtain⟨o,_,_,e,_⟩:=I.mod.glob;have:=(I.bs _ _ e).2;rw[z,l]at this;cases this
 obtain⟨B,r,y,x,D,t,N,F⟩:=L;refine kla_eval v<|kla_makeFunction q I.ok.glob (I.mod.glob.keeps I.bk) hc (C.keeps I.bk) (I.hok P _ l) u hn m ⟨B,r,y,x,D,t,I.bk _ _ N,F⟩ λa d j G hx n M J i=>?_;have p:∀b o,b≠P->s.heap.get? b=some o->(j.push<|kla_obj "<lambda>" (X.env.qual ++ "<lambda>") params body scope [] ((X.mg "__name__").getD .none) a d).get? b=some o:=λb o hb e=>DD _<|hx b o hb e;refine h j.objs.size a d _ {s with heap:=j.push<|kla_obj "<lambda>" (X.env.qual ++ "<lambda>") params body scope [] ((X.mg "__name__").getD .none) a d,toks:=G} (I.tabled l p<|DD _ i) (G_ n<|cX M) n (K_ _ rfl) (J.push _) p
def Mi{v:kZ}{f:lB}{Q:kZ->k_->Prop}(h:yL prog w A.in1 (collect v) (λb a=>b.length<1000000 /\
   yL prog w A.in1.in1 (ksk_tree a.heap.objs.size (.ref f) false) (λg d=>g=.done (.ret .none)/\Q (.ref a.heap.objs.size) d) E {a with heap:=a.heap.push<|seqObj "list" b.toArray 0}) E s) :
  yL prog w A (call (.builtin "sorted") [v] [(Str.ofString "key",.ref f)]) Q E s:=by
 refine call_function_entry_kw kind_sorted plain_sorted entry_sorted (ksk_s1 _ _) ?_;unfold Builtin.«sorted»;refine A_ (m:=checkCount "sorted" 1 1 _)<|C_<|A_<|aM h (λb a hx=>?_) λ_ _ e=>e;obtain⟨j,hk⟩:=hx;have i:b.length<=sizeLine:=G_ (cX j) (by decide);have l:(a.heap.push<|seqObj "list" b.toArray 0).get? a.heap.objs.size=some (seqObj "list" b.toArray 0):=K_ _ rfl;refine A_<|kE (A_<|bS<|wpAny_call_entry_kw slot_list_sort ⟨_,l,rfl⟩ entry_list_sort ?_<|ksk_l1 _ _) i;show yL prog w A.in1.in1 (Builtin.«list.sort» ⟨[.ref a.heap.objs.size],[(Str.ofString "key",.ref f)]⟩) _ _ _;rw[ksk_t1];exact aM hk (by rintro g d ⟨e,q⟩;exact ⟨_,e,C_ ⟨_,rfl,q⟩⟩) λ_ _ e=>e
def IY(P:lB)(j:Pos)(te tk:AE):AE:=λh i R=>te h i λx a=>match x with
 |.D (.tuple e)=>opt (a P) λm=>match m with
  |.tb ps=>TriplesOk ps.toList/\codeAmong j ps.toList=none/\∃g:lA->lA,(∀d∈e,∀(b:M) (f:AV->M->Prop),f (.D<|g d) b->tk [some<|.D d] b f)/\SortOkP (e.map g)/\∀(es:oA lA) (p:lB),es.Perm e->a p=none->R (.R p) (Ao (B5 a P) p<|.lst<|es.map .D)
  |_=>False
 |_=>False
def X5{e:lF}{te tk:AE}{p pos Z j8:Pos}{x:Str}{params:Arguments}{body:lF}{scope:lM}{c P:lB}(hr:Room (k+1+1+1) X.A)(hg:Gl X "sorted") (hm:X.mg "sorted" = none) (he:VE X e te)
  (hc:X.env.code=.ref c) (C:CodeHd X.base c P) (hB:X.base.BuiltinsAt X.mg P) (S:FnScope [x] [x] scope)
  (hk:∀(A:lG) (outer:oA Env) (s:k_) (H:Hp) (f n:lB),VE (Hq Cm X.prog X.w X.K X.mg X.base [x] (X.env.qual ++ "<lambda>") scope f (.ref n) A outer s H λ_ _ _=>False) body tk)
  (mn:defaultsOf params X.env=([],[])) (bp:closureFor scope X.env=pure [])
  (hb:∀(pm:kZ) (n:lB) (ic u:kZ),bindArgs (kla_fn "<lambda>" (X.env.qual ++ "<lambda>") params body scope [] pm (.ref n) ic) ⟨[u],[]⟩=pure [(x,u)])
  (hs:starEach [e] X.env=[(false,eval e X.env)]:=by rfl) :
  VE X (.Call (.Name "sorted" p) [e] [⟨some "key",.Lambda params body scope j8,Z⟩] pos) (IY P j8 te tk):=by
 intro aa s σ H Q I zz;refine B4 zz λτ μ R bg hcn h hq=>?_;refine bT (Dx I hg hm fS<|PyProof.Rows.callWith_kw ?_ (by rw[hs];rfl)<|by rw[hs];rfl);rw[hs];refine bA<|aM (he.run I bg hcn h) (λu1 s1 uz=>J6 uz λxx v G Y I1 rv S1 c1 rx O=>bY ?_) λ_ _ e=>e;split at O;rename_i ds;obtain⟨m,em,O⟩:=A4 O;split at O;rename_i ps;obtain⟨ht,hn,kd,hkd,ok,O⟩:=O;obtain⟨o,hP,ho⟩:=c1 _ _ em;obtain rfl:o=.tbl ps:=ho;have hPs:P<s1.heap.objs.size:=(I1.hok P _ hP).lt;refine PyProof.Rows.kws_cons<|X4 I1 hP hc C ht hn hB mn bp λf n ic g s2 I2 hf bv gf cy keep=>PyProof.Rows.kws_nil ?_;have V:Kp Y (upd Y P<|.tbl<|ps++g):=Kp.put hP trivial _;have ly:upd Y P (.tbl<|ps++g) f=none:=by rw[An<|dJ<|S_ hPs hf];exact I1.hok.fresh hf
 have rh:upd Y P (.tbl<|ps++g) n=none:=by rw[An<|dJ<|S_ hPs bv];exact I1.hok.fresh bv
 have c2:Cn X.K (B5 G P) (upd Y P<|.tbl<|ps++g):=λb m hb=>by
  have hbP:b≠P:=λz=>by unfold B5 at hb;rw[T_ z]at hb;cases hb
  rw[Bb hbP]at hb;obtain⟨o',e',r'⟩:=c1 b m hb;exact⟨o',by rw[An hbP];exact e',r'.kp V⟩
 have am:∀b,upd Y P (.tbl<|ps++g) b=none->Y b=none:=λb hb=>by by_cases z:b=P;rw[z,A6]at hb;cases hb;rw[An z]at hb;exact hb
 have ff:=I1.fpOk hf ly;have fc:=I1.fpOk bv rh;generalize upd Y P (.tbl<|ps++g)=H2 at I2 V ly rh c2 am ff fc;obtain⟨ta,xs,rfl,fz,dk⟩:=(rx.kp V).tup;cases rv;obtain⟨ae,rvs,tup,hz⟩:=I2.tuple fz.sq;obtain⟨d,rfl,rfl,hzs⟩:=IW dk rvs;obtain⟨ot,t1,t2,n0,t3⟩:=tup;obtain⟨cc,oc,cvs,ct,ec,gc,dc,nc⟩:=cy;cases ec;have gy:(d.map (·.2.2)).length<1000000:=by have:=ok.len;simpa using this
 have sz:(d.map (·.2.2)).length<=sizeLine:=G_ (cX gy) (by decide);refine Mi (wpAny_collect_seq ta (.inr rfl) t1 t2 t3 (λa k3=>⟨by simpa using gy,?_⟩)<|by simpa using sz);rw[List.toList_toArray];have I3:=I2.kept (h':=a) (t':=s2.toks) k3;have fa:=I3.fpOk (b:=a.objs.size) (F_ _)<|I3.hok.fresh<|F_ _;have U:=I3.fpOk (b:=(a.push<|seqObj "list" (d.map (·.2.2)).toArray 0).objs.size+1) (by rw[size_push'];exact G_ (bU _)<|bU _) (I3.hok.fresh<|by rw[size_push'];exact G_ (bU _)<|bU _);have gf3:=k3 _ _ gf;have gc3:=k3 _ _ gc;have lf:=N_ gf3;have lc:=N_ gc3;have hL:(a.push<|seqObj "list" (d.map (·.2.2)).toArray 0).get? a.objs.size=some (seqObj "list" (d.map (·.2.2)).toArray 0):=K_ _ rfl;have u5:(a.push<|seqObj "list" (d.map (·.2.2)).toArray 0).objs.size+1=a.objs.size+1+1:=by rw[size_push']
 obtain⟨e1,i3⟩:∃e1,((a.push<|seqObj "list" (d.map (·.2.2)).toArray 0).update a.objs.size<|Obj.mapSeq λ_=>(#[]:oC kZ)).get? a.objs.size=some (seqObj "list" #[] e1):=⟨_,iA hL λ_=>#[]⟩;have hu:=hr.un;have key:=λ(E:kZ->k_->Prop)=>Qq (prog:=X.prog) (w:=X.w) (A:=X.A.in1.in1) (E:=E) (f:=.ref f) (P:=λaz s'=>az=.done (.ret .none)/\EP X aa σ Q (.ref a.objs.size) s') (s:={s2 with heap:=a.push<|seqObj "list" (d.map (·.2.2)).toArray 0})
  (λi L s'=>∃M l J,Inv X (aa++[(a.objs.size,seqObj "list" #[] e1),((a.push<|seqObj "list" (d.map (·.2.2)).toArray 0).objs.size+1,seqObj "list" L.toArray J),(f,kla_obj "<lambda>" (X.env.qual ++ "<lambda>") params body scope [] ((X.mg "__name__").getD .none) n ic),(n,oc)]) σ M s'/\Kp H2 M/\Cn X.K (B5 G P) M/\Ap X.K M (((d.map (·.1)).take i).map kd) l/\Vals l L/\i<=d.length) hL gy (e1:=e1) rfl i3
 refine key _ ?_ ?_ ?_ ?_;have k5:∀b o,s2.heap.get? b=some o->((((a.push<|seqObj "list" (d.map (·.2.2)).toArray 0).update a.objs.size<|Obj.mapSeq λ_=>(#[]:oC kZ)).push<|seqObj "tuple" (d.map (·.2.2)).toArray 0).push<|seqObj "list" #[] 0).get? b=some o:=λb o q=>by have q3:=k3 b o q;exact DD _<|DD _<|((aL (a.push<|seqObj "list" (d.map (·.2.2)).toArray 0) a.objs.size<|Obj.mapSeq λ_=>(#[]:oC kZ)).2 b<|Z_<|N_ q3).trans<|DD _ q3
 have I5:=I2.kept (t':=s2.toks) k5;refine⟨H2,[],0,I5.pins_of λp hp=>?_,Kp.refl,c2,Cr,.nil,aN _⟩;rcases Q_.mp hp with hp|hp;exact I5.pin p<|aK _ hp;simp only[List.mem_cons,List.not_mem_nil,or_false]at hp;rcases hp with rfl|rfl|rfl|rfl;exact⟨DD _<|DD _ i3,fa.1,fa.2.1,fa.2.2.1,λv z=>nomatch z⟩;refine⟨?_,U.1,U.2.1,U.2.2.1,λv z=>nomatch z⟩;have e:(a.push<|seqObj "list" (d.map (·.2.2)).toArray 0).objs.size+1=(((a.push<|seqObj "list" (d.map (·.2.2)).toArray 0).update a.objs.size<|Obj.mapSeq λ_=>(#[]:oC kZ)).push<|seqObj "tuple" (d.map (·.2.2)).toArray 0).objs.size:=by simp only[size_push',Heap.size_update]
 show Heap.get? _ ((a.push<|seqObj "list" (d.map (·.2.2)).toArray 0).objs.size+1)=_;rw[e];exact K_ _ rfl;exact⟨k5 _ _ gf,ff.1,ff.2.1,ff.2.2.1,λv z=>nomatch z⟩;exact⟨k5 _ _ gc,fc.1,fc.2.1,fc.2.2.1,λv z=>by rw[dc]at z;cases z⟩;rintro i L s' ⟨M,l,J,r,S',N,t,F,hi⟩;refine⟨?_,(r.pin (a.objs.size,_)<|by simp).1,J,(r.pin (_,seqObj "list" L.toArray J)<|by simp).1⟩;have l1:=t.length;have l2:=F.length;rw[B_,bD,B_]at l1;omega;rintro i v L s' hv ⟨M,l,J,r,S',N,t,F,hi⟩;rw[L_]at hv;obtain⟨z,ez,rfl⟩:=H_.mp hv;have j5:=X_ ez;obtain⟨dz,rz⟩:=hzs z j5;have hiz:i<d.length:=(D_.mp ez).1;have gfp:=r.pin (f,kla_obj "<lambda>" (X.env.qual ++ "<lambda>") params body scope [] ((X.mg "__name__").getD .none) n ic) (by simp);have gcp:=r.pin (n,oc) (by simp);have rd:Dk X.K M z.1 z.2.1:=Dk.kp S' _ _ dz;refine aM (X3 (A:=X.A.in1.in1) (k:=k) (vs:=[z.2.1]) (us:=[z.2.2]) (Q:=λv' B=>Kp M B/\Cn X.K (B5 G P) B/\Dk X.K B (kd z.1) v') hr.in1.in1 r.env0.in1.in1 gfp.1 ⟨n,oc,cvs,ct,rfl,gcp.1,dc,nc⟩ S (hb _ _ _ _) (.cons rz .nil) rfl (hk _ _ _ _ _ _) ?_) ?_ λ_ _ e=>e;exact⟨[some<|.D z.1],B5 G P,λy μ'=>y=.D (kd z.1)/\μ'=B5 G P,.cons (Gx (x:=.D z.1) rd) .nil,N,hkd z.1 (List.mem_map_of_mem j5) _ _ ⟨rfl,rfl⟩,λy v' μ' B W c'' ra ⟨e1,e2⟩=>by subst e1 e2;exact⟨W,c'',ra⟩⟩;rintro u s2' ⟨v',B,os,bare,un,hok,rv',W,c'',dv⟩;have j:=r.call' (ch:=[]) os un hok bare λ_ z=>nomatch z;refine⟨⟨(j.pin (a.objs.size,_)<|by simp).1,J,(j.pin (_,seqObj "list" L.toArray J)<|by simp).1⟩,λh' cN Z yj e'=>?_⟩;have pa:=j.pin (a.objs.size,seqObj "list" #[] e1) (by simp);have pk:=j.pin ((a.push<|seqObj "list" (d.map (·.2.2)).toArray 0).objs.size+1,seqObj "list" L.toArray J) (by simp);have pf:=j.pin (f,kla_obj "<lambda>" (X.env.qual ++ "<lambda>") params body scope [] ((X.mg "__name__").getD .none) n ic) (by simp);have pc:=j.pin (n,oc) (by simp);have I6:=(j.pins_of (pins':=aa) λp hp=>j.pin p<|by simp[hp]).turnedL (h':=h') (t':=s2'.toks) (fp:=[(a.push<|seqObj "list" (d.map (·.2.2)).toArray 0).objs.size+1]) (λb o hb q=>Z b o (λz=>hb<|by rw[z];exact .head _) q) λb hb=>by
  rw[I_]at hb;subst hb;exact⟨pk.2.1,U.2.1,U.2.2.1,U.2.2.2.1,U.2.2.2.2.1,U.2.2.2.2.2⟩
 refine⟨B,l++[v'],cN,I6.pins_of λp hp=>?_,S'.trans W,c'',?_,Vals.append F<|.cons rv' .nil,hiz⟩;rcases Q_.mp hp with hp|hp;exact I6.pin p<|aK _ hp;simp only[List.mem_cons,List.not_mem_nil,or_false]at hp;rcases hp with rfl|rfl|rfl|rfl;exact⟨Z _ _ (by show a.objs.size≠_;rw[u5];omega) pa.1,pa.2⟩;exact⟨e',pk.2.1,pk.2.2.1,pk.2.2.2.1,λv z=>nomatch z⟩;exact⟨Z _ _ (by show f≠_;rw[u5];exact Z_<|S_ lf<|G_ (bU _)<|bU _) pf.1,pf.2⟩;exact⟨Z _ _ (by show n≠_;rw[u5];exact Z_<|S_ lc<|G_ (bU _)<|bU _) pc.1,pc.2⟩;have et:(d.map (·.1)).take (i+1)=(d.map (·.1)).take i++[z.1]:=by rw[List.take_add_one,L_,ez];rfl
 rw[et,M_];exact(Ap.kp W _ _ t).append<|B8 dv Cr;rintro L s' ⟨M,l,J,r,S',N,t,F,hi⟩;have et:(d.map (·.1)).take (d.map (·.2.2)).length=d.map (·.1):=cJ (by simp);rw[et]at t;refine⟨λh2=>?_,λus h' cN pu Z yj e'=>⟨rfl,?_⟩⟩;obtain⟨bs,rd⟩:=Ap.reads r _ l L t F;exact Rw ok rd (by simpa using h2) (by show X.A.units+1+1+64<_;omega);obtain⟨ys,rfl,py⟩:=Dp pu d rfl;obtain⟨hd,hv⟩:=Qp (K:=X.K) (H:=M) λz hz=>⟨Dk.kp S' _ _ (hzs z<|py.mem_iff.mp hz).1,(hzs z<|py.mem_iff.mp hz).2⟩;have pa:=r.pin (a.objs.size,seqObj "list" #[] e1) (by simp);have pk:=r.pin ((a.push<|seqObj "list" (d.map (·.2.2)).toArray 0).objs.size+1,seqObj "list" L.toArray J) (by simp);have I6:=(r.pins_of (pins':=aa) λp hp=>r.pin p<|by simp[hp]).turnedL (h':=h') (t':=s'.toks) (fp:=[a.objs.size,(a.push<|seqObj "list" (d.map (·.2.2)).toArray 0).objs.size+1]) (λb o hb q=>Z b o (λz=>hb<|by simp[z]) (λz=>hb<|by simp[z]) q) (λb hb=>by
  simp only[List.mem_cons,List.not_mem_nil,or_false]at hb;rcases hb with rfl|rfl;exact⟨pa.2.1,fa.2⟩;exact⟨pk.2.1,U.2⟩)
 have ak:(ys.map (·.2.1)).length<=sizeLine:=by rw[B_,py.length_eq,<- B_ (f:=(·.2.2)) (as:=d)];exact sz
 have I7:=I6.track (T:=a.objs.size) (o:=.lst<|ys.map (·.2.1)) ⟨pa.2.1,fa.2⟩<|show Bs X.prog X.w _ h' _ (.lst<|ys.map (·.2.1)) from⟨ak,_,cN,hv,e'⟩;refine⟨.ref a.objs.size,_,I7,rfl,?_⟩;exact hq _ _ _ _ (S1.trans<|V.trans<|S'.trans<|Kp.new pa.2.1 _) (N.new pa.2.1<|Dh hd.rel) Dy<|O (ys.map (·.1)) _ (py.map _)<|c1.none<|am _ fa.1;exact O.elim;exact O.elim
end
def Ub{P:lD}{w:lE}{K:Frag}{n S:Str->oB kZ}{k:Nat}{U a c T:lB}{fd:lK}{x:Str}{sp:Sp}{f:k_}{vs:oA kZ}{ns:oA Int}
  (KX:K.In f.heap) (y:f.heap.get? T=some (tabObj #[])) (t7:K.lookup T=none) (hC:CodeHd f.heap c T) (hB:∃J p,n "__builtins__" = some (.ref J)/\J≠builtinsNs/\f.heap.get? J=some p/\p.cls=.type "module" /\ p.dict=some builtinsNs/\p.data=.plain) (Y:f.heap.Ns mainGlobals n) (hb:f.heap.Ns builtinsNs S) (Z:∀x:Str,x ≠ "__name__" -> S x=bootBuiltins x) (xb:f.heap.NoLimit) (hg:f.gens=#[])
  (ha:f.heap.get? a=some {cls:=.type "list",data:=.seq vs.toArray}) (hi:IntsAre vs ns) (hl:ns.length<=sizeLine) (hr:Room k callerA) (F:∀g:lH,K.In g->g.Ns mainGlobals n->CodeHd g c T->g.BuiltinsAt n T->FnOk P w K n g Cm k U fd [x] sp) (qi:∀(s:k_) (u:kZ),BindsTo s fd ⟨[u],[]⟩ [(x,u)])
  (fy:∀H:Hp,H T=some (.tbl #[])->O8 K H a (ns.map V.int)->sp [.ref a] H (λv _=>v=.bl true) λ_ _ _=>False) :
  codeAny (model P w) callerA (.call (.ref U) ⟨[.ref a],[]⟩) (λr i=>r=.ok (.ret<|.bool true)/\OldK f.heap i.heap/\i.os=f.os/\AllBare i.gens) f:=by
 have rv:=Kv hi;have wq:=hi.length;have aw:∀H:Hp,H T=some (.tbl #[])->O8 K H a (ns.map V.int)->HOk P w H f.heap->(∀b,b≠T->H b≠none->b=a/\K.lookup a=none/\∃o xs,H b=some (.frz o<|.lst xs)) ->
   codeAny (model P w) callerA (.call (.ref U) ⟨[.ref a],[]⟩) (λr i=>r=.ok (.ret<|.bool true)/\OldK f.heap i.heap/\i.os=f.os/\AllBare i.gens) f:=by
  intro H X hS D N;have no:∀{b:lB} {o:lI},f.heap.get? b=some o->o.cls≠.none->o.cls≠.type "list" -> H b=none:=λ{b o} e h1 h2=>by
   cases q:H b with
   |none=>rfl
   |some u=>by_cases hb:b=T;subst hb;rw[y]at e;cases e;exact absurd rfl h1;obtain⟨rfl,_⟩:=N b hb (by rw[q];simp);rw[ha]at e;cases e;exact absurd rfl h2
  have noD:∀{b:lB} {o:lI} {es:oC DictEntry} {ep:Nat},f.heap.get? b=some o->o.data=.dict es ep->H b=none:=λ{b o es ep} e d=>by
   cases q:H b with
   |none=>rfl
   |some u=>by_cases hb:b=T;subst hb;rw[y]at e;cases e;cases d;obtain⟨rfl,_⟩:=N b hb (by rw[q];simp);rw[ha]at e;cases e;have d':Data.seq vs.toArray _=Data.dict es ep:=d;cases d'
  have M:∀{b:lB} {m:Str->oB kZ},f.heap.Ns b m->(J7 f.heap H).Ns b m:=λ{b m} ⟨o,es,ep,e,d,r⟩=>⟨o,es,ep,G5 e<|noD e d,d,r⟩;have A:K.In (J7 f.heap H):=λb o e=>by
   refine G5 (KX b o e) ?_;cases q:H b with
   |none=>rfl
   |some u=>
    have hb:b≠T:=by rintro rfl;rw[t7]at e;cases e
    obtain⟨rfl,z,_⟩:=N b hb (by rw[q];simp);rw[z]at e;cases e
  have hM:Mod K n (J7 f.heap H):=⟨A,M Y,⟨S,M hb,Z⟩,by obtain⟨mc,h1,h2⟩:=xb;exact⟨mc,M h1,h2⟩⟩;have e0:Env0 P w K n (J7 f.heap H) callerA [] f H:=⟨rfl,hM,λb o e=>Zs e,gD<|Sq _ _,trivial,λb hb=>absurd (show b∈([]:oA lB) from hb)<|by simp,D,.of_eq hg⟩;have hC':CodeHd (J7 f.heap H) c T:=by obtain⟨o,cs,I,tf,t,tg,inF,E,tt,e,G,r⟩:=hC;exact⟨o,cs,I,tf,t,tg,inF,E,tt,G5 e<|no e (by rw[G];exact λz=>nomatch z)<|by rw[G];exact λz=>absurd (Value.type.inj z)<|by decide,G,r⟩
  have hB':(J7 f.heap H).BuiltinsAt n T:=by obtain⟨J,p,b1,b2,O,R,b5,W⟩:=hB;have hn:=no O (by rw[R];exact λz=>nomatch z) (by rw[R];exact λz=>absurd (Value.type.inj z)<|by decide);refine⟨J,p,b1,b2,λz=>?_,λz=>?_,G5 O hn,R,b5,W⟩;obtain⟨o,es,ep,e,hd,_⟩:=Y;rw[z,e]at O;cases O;rw[hd]at W;cases W;rw[z,X]at hn;cases hn
  refine codeAny_mono ((F _ A (M Y) hC' hB').run callerA [] f H ⟨[.ref a],[]⟩ [.ref a] [.ref a] _ _ hr e0 (qi f<|.ref a) (.cons rfl .nil)<|fy H X hS) λr i h=>?_;cases r with
  |error e=>exact False.elim h
  |ok fl=>
   cases fl with
   |next=>exact False.elim h
   |brk=>exact False.elim h
   |cont=>exact False.elim h
   |ret u=>
    obtain⟨v,H',os,B,Q,j,r',q⟩:=h;have q':v=.bl true:=q;subst q';obtain rfl:u=Value.bool true:=r';have kp:∀b o,b≠T->f.heap.get? b=some o->i.heap.get? b=some o:=λb o hb e=>by
     cases q:H b with
     |none=>exact Q.keep b o e q (by intro z;exact absurd (show b∈([]:oA lB) from z)<|by simp) (by simp)
     |some u=>obtain⟨_,_,p,xs,z⟩:=N b hb (by rw[q];simp);have z2:=Q.frzs b p _ z;obtain⟨e1,_⟩:=D b _ z;obtain⟨G,_⟩:=j b _ z2;rw[e]at e1;cases e1;exact G
    obtain⟨l,hm⟩:=Q.tbls T #[] X;have gT:i.heap.get? T=some {cls:=.none,data:=.fields<|#[]++l}:=j T _ hm;refine⟨rfl,⟨λb o e=>?_,λb o e=>?_⟩,os,B⟩;by_cases hb:b=T;subst hb;rw[y]at e;cases e;exact .inr<|.inl ⟨(hC.tab y).isCodeTable,rfl,#[],l,rfl,gT⟩;exact .inl<|kp b o hb e;by_cases hb:b=T;exact⟨_,by rw[hb];exact gT⟩;exact⟨o,kp b o hb e⟩
 have po:a≠T:=λz=>by rw[z,y]at ha;cases ha
 have L:∀(H:Hp) (b:lB) (u:HO),b=T->upd H T (.tbl #[]) b=some u->Bs P w (upd H T<|.tbl #[]) f.heap b u:=λH b u hb z=>by subst hb;rw[A6]at z;cases z;exact y
 cases hk:K.lookup a with
 |some o=>have e:=KX a o hk;rw[ha]at e;cases e;refine aw (upd (λ_=>none) T<|.tbl #[]) A6 (.inr ⟨_,vs.toArray,_,hk,rfl,rfl,rfl,by rw[R_,wq];exact hl,by simpa using rv⟩) (λb u z=>?_) λb hb z=>absurd (An hb) z;by_cases hb:b=T;exact L _ b u hb z;rw[An hb]at z;cases z
 |none=>refine aw (upd (upd (λ_=>none) a<|.frz {cls:=.type "list",data:=.seq vs.toArray}<|.lst<|ns.map V.int) T<|.tbl #[]) A6 (.inl ⟨{cls:=.type "list",data:=.seq vs.toArray},by rw[An po,A6]⟩) (λb u z=>?_) λb hb z=>?_;by_cases hb:b=T;exact L _ b u hb z;rw[An hb]at z;by_cases C:b=a;subst C;rw[A6]at z;cases z;exact⟨ha,by rw[B_];exact hl,vs,_,rv,ha⟩;rw[An C]at z;cases z;rw[An hb]at z ⊢;by_cases C:b=a;subst C;exact⟨rfl,hk,_,_,A6⟩;exact absurd (An C) z
def X6{l:OpenLaw}{n k:Nat}{q:lD}{P:oA Str}{Q:(Str->oB kZ)->lH->Prop}{r:lE->lH->Prop}{d:DefRec}{K:Params->Frag}{T:lB}{sp:Frag->lB->Sp}{x:Str}
  (hn:l.most=some n) (O:n<=sizeLine) (L:d.params.defaults=[]) (R:Room k callerA) (M:∀(w:lE) (h:lH),r w h->(K w.params).In h) (J:∀(w:lE) (h:lH),r w h->h.get? T=some (tabObj #[])) (F:∀(w:lE) (j:Str->oB kZ) (p:lB) (h:lH),(K w.params).In h->h.Ns mainGlobals j->j d.name=some (.ref p) ->
   ∃(c:lB) (z:lK),codeHdIn (K w.params) c T=true/\(K w.params).lookup T=none/\(∀(s:k_) (u:kZ),BindsTo s z ⟨[u],[]⟩ [(x,u)]) /\
    ∀e:lH,(K w.params).In e->e.Ns mainGlobals j->CodeHd e c T->e.BuiltinsAt j T->FnOk l.prog w (K w.params) j e Cm k p z [x] (sp (K w.params) T)) (U:∀(K:Frag) (H:Hp) (T a:lB) (ns:oA Int),ns.length<=n->H T=some (.tbl #[])->O8 K H a (ns.map V.int)->sp K T [.ref a] H (λv _=>v=.bl true) λ_ _ _=>False) :
  WalkO q P Q r l.row.toRowW d [] (λf C=>PySem.call f C):=by
 refine Att.attach_call hn L λw A D j Z p o X cd bq a C ns G Y W hd cy t m i B N=>?_;have y:=M w _ Y;obtain⟨c,z,E,I,hb,S⟩:=F w j p _ y G.T.g t;exact Ub y (J w _ Y) I (codeHd_of_K y E) G.T.bmain G.T.g G.T.b G.T.builtins G.T.nolimit N m i (G_ B O) R S hb λH h1 h2=>U _ H T a ns B h1 h2
section
variable {P:lD}{w:lE}{K:Frag}{mg:Str->oB kZ}{base:lH}{x qual:Str}{st:lJ}{f D:lB}{fd:lK}{N ps:oA Str}{k:Nat}{sp:ASp}
def FunD.vokC{c:lB}(F:FunD K x qual st f fd D)(m:fd.code=.ref c)(S:FnScope N ps<|Ah st) (B:∀(A:lG) (outer:oA Env) (s:k_) (H:Hp) (E:XK),Room k (A.deeper<|envOfC qual (Ah st) s.heap.objs.size f<|.ref c) ->
   ∃t,VSs (Hq Cm P w K mg base N qual (Ah st) f (.ref c) A outer s H E).nox (B1 st) t/\∀a d R,a.length=ps.length->sp a d R->t (UE R) (NM R) EI EI (Em N a) d):FnOk P w K mg base Cm (k+1) f fd ps (Dj K ps.length sp) :=
 (show FunD K x qual st f fd D/\fd.code=.ref c from⟨F,m⟩).elim λF m=>by
 obtain⟨T,X,kV,V,L,O,y,Y,W,rfl,C,e⟩:=F.ex;obtain rfl:y=.ref c:=m;exact Vb C e S (by rintro p H Q E ⟨a,d,R,l,i,_⟩;rw[<- i.length];exact l) λA outer s H p Q E G ⟨a,d,R,l,i,hc,I,hq⟩=>by obtain⟨t,n,h⟩:=B A outer s H E G;exact⟨_,n.nox,Em N a,d,_,_,_,_,D8.begin i,hc,h a d R l I,⟨λU j M J g _ c z=>Mz z λq b r=>hq _ _ _ _ g (c.sub b) Hu r,λv j u J g c o z=>Mz z λq b r=>hq _ _ _ _ g (c.sub b) o r,λ_ _ _ _ _ _ _ h=>h.elim,λ_ _ _ _ _ _ _ h=>h.elim⟩⟩
end
end L2
namespace L2
open PySem PySem.Spec PySem.Calls PyProof.Rows
section
variable {prog:lD}{w:lE}{A:lG}{R:lO->k_->Prop}{I S:lB}{fp wr:oA lB}{n:Nat}{P:Nat->kZ->Prop}{St:Nat->lH->Prop}{kw:oA<|Str×kZ}{X:Cx}{k:Nat}
def Fb:(toString "max" ++ toString ".loop" : String) = "max.loop" := by decide
def Uc(W:Walks prog w A.in1 I fp wr n P St)(f:Nat->Int)(V:∀i v,P i v->∃t,v=.int (f i) t)(T:S∉fp) :
  ∀(k j:Nat) (s:k_) (m:Int) (a:Tok) (c:Nat),n-j=k->j<=n->St j s.heap->(∀i,i<j->f i<=m)->(∃i,i<j/\m=f i) ->
  s.heap.get? S=some {cls:=.type "list",dict:=none,data:=.seq #[.int m a,.int m a] c,slots:=#[]} ->
  (∀g q y z,(∀i,i<n->f i<=g)->(∃i,i<n/\g=f i)->(∀b o,b∉wr->b≠S->s.heap.get? b=some o->y.get? b=some o)->R (.ok<|.ret<|.int g q) {s with heap:=y,toks:=z}) ->
  codeAny (model prog w) A (.builtin "max.loop" ⟨[.ref I,.none,.ref S],kw⟩) R s:=by
 have N:S∉wr:=λh=>T<|W.sub _ h;intro k
 induction k with
 |zero=>
  intro j s m a c hk hj E B G u C;obtain rfl:j=n:=by omega
  refine eD F.entry_max_loop ?_;rw[cV F.plain_max_loop _];show wpAny _ A.in1 (seqItems? (.ref S)>>=_) _ _ s;refine A_<|dP u rfl ?_;show wpAny _ A.in1 (tryCatch (pyNext<|.ref I) _>>=_) _ _ s;refine A_<|fC<|W.done s _ _ E λy z p=>?_;have r:=p S _ N u;show wpAny _ A.in1 (updateSeq S (λ_=>#[])>>=_) _ _ _;refine A_<|dS r rfl<|A_<|eK<|C_ ?_;exact C m a _ z B G λb o d l e=>(bI _ _<|bX l).trans (p b o d e)
 |succ k Q=>
  intro j s m a c hk hj E B G u C;have H:j<n:=by omega
  refine eD F.entry_max_loop ?_;rw[cV F.plain_max_loop _];show wpAny _ A.in1 (seqItems? (.ref S)>>=_) _ _ s;refine A_<|dP u rfl ?_;show wpAny _ A.in1 (tryCatch (pyNext<|.ref I) _>>=_) _ _ s;refine A_<|fC<|W.item j s _ _ H E λv y z hv O p=>?_;have r:=p S _ N u;obtain⟨x,rfl⟩:=V j v hv;show wpAny _ A.in1 (tryCatch (holding [_,_]<|richCompare .Gt (.int (f j) x) (.int m a)>>=_) _>>=_) _ _ _;refine A_ (fC<|bS<|A_<|CmpOf.ints_gt (prog:=prog) (w:=w) (A:=A.in1) (P:=λi v=>(i=0/\v=.int (f j) x)\/(i=1/\v=.int m a)) (λi=>if i=0 then f j else m) (λi v h=>by rcases h with⟨rfl,rfl⟩|⟨rfl,rfl⟩;exact⟨x,rfl⟩;exact⟨a,rfl⟩) 0 1 _ _ _ _ _ (.inl ⟨rfl,rfl⟩) (.inr ⟨rfl,rfl⟩) ?_);refine A_<|bS<|dN ?_;refine A_<|eK<|C_ ?_;show wpAny _ A.in1 (if decide (f j>m)=true then _ else _) _ _ _;by_cases hc:f j>m;rw[T_<|aQ hc];refine A_<|dS r rfl<|A_<|eK ?_;rw[Fb];refine C_ ⟨dO F.plain_max_loop _,Q (j+1) _ (f j) x _ (by omega) H (W.frame _ _ _ O λb U o e=>?_) (λi hi=>?_) ⟨j,eE _,rfl⟩ (aP _ r rfl) λg q J L M a2 D=>?_⟩;exact(bI _ _ (λh:S=b=>T<|by rw[h];exact U)).trans e;rcases gY.mp hi with h|rfl;have:=B i h;omega;exact gM _;exact C g q J L M a2 λb o d l e=>D b o d l<|(bI _ _<|bX l).trans<|p b o d e;rw[O_<|by rw[bL];exact hc];refine A_<|eK ?_;rw[Fb];refine C_ ⟨dO F.plain_max_loop _,Q (j+1) _ m a c (by omega) H O (λi hi=>?_) (by obtain⟨i,h1,h2⟩:=G;exact⟨i,bZ h1,h2⟩) r λg q J L M a2 D=>?_⟩;rcases gY.mp hi with h|rfl;exact B i h;omega;exact C g q J L M a2 λb o d l e=>D b o d l<|p b o d e
def Qr(W:Walks prog w A.in1 I fp wr n P St)(f:Nat->Int)(z:∀i v,P i v->∃t,v=.int (f i) t)(q:S∉fp){s:k_}{c:Nat}{d:kZ}{x:Str}(y:St 0 s.heap) (B:s.heap.get? S=some {cls:=.type "list",dict:=none,data:=.seq #[] c,slots:=#[]})
  (h0:n=0->∀a g,(∀b o,b∉wr->b≠S->s.heap.get? b=some o->a.get? b=some o)->R (.ok<|.ret d) {s with heap:=a,toks:=g}) (L:∀j p a g,(∀i,i<n->f i<=j)->(∃i,i<n/\j=f i)->(∀b o,b∉wr->b≠S->s.heap.get? b=some o->a.get? b=some o)->R (.ok<|.ret<|.int j p) {s with heap:=a,toks:=g}) :
  codeAny (model prog w) A (.builtin "max.loop" ⟨[.ref I,.none,.ref S],[(x,d)]⟩) R s:=by
 have C:S∉wr:=λh=>q<|W.sub _ h;refine eD F.entry_max_loop ?_;rw[cV F.plain_max_loop _];show wpAny _ A.in1 (seqItems? (.ref S)>>=_) _ _ s;refine A_<|dP B rfl ?_;show wpAny _ A.in1 (tryCatch (pyNext<|.ref I) _>>=_) _ _ s;by_cases J:n=0;subst J;refine A_<|fC<|W.done s _ _ y λa g m=>?_;exact A_<|dM<|C_<|h0 rfl a g λb o l _ e=>m b o l e;refine A_ (fC<|W.item 0 s _ _ (by omega) y λv a g hv E m=>?_);have u:=m S _ C B;obtain⟨G,rfl⟩:=z 0 v hv;show wpAny _ A.in1 (updateSeq S (λ_=>#[_,_])>>=_) _ _ _;refine A_<|dS u rfl ?_;rw[Fb];refine C_ ⟨dO F.plain_max_loop _,Uc W f z q _ 1 _ (f 0) G _ rfl (by omega) (W.frame _ _ _ E λb H o e=>?_) (λi hi=>?_) ⟨0,Nat.one_pos,rfl⟩ (aP _ u rfl) λj p M N O a2 D=>?_⟩;exact(bI _ _ (λh:S=b=>q<|by rw[h];exact H)).trans e;rw[show i=0 by omega];exact gM _;exact L j p M N O a2 λb o l r e=>D b o l r<|(bI _ _<|bX r).trans<|m b o l e
def Ud(a v:kZ):argsOk "max" ⟨[a],[(Str.ofString "default",v)]⟩:=by unfold argsOk;kernel_rfl
def OW(te td:AE):AE:=λd f R=>te d f λx c=>td d c λy b=>match x,y with
 |.R a,.D (.int m)=>opt (b a) λo=>match o with
  |.lst e=>opt (Fa e) λns=>∀v,(ns=[]->v=m)->(ns≠[]->v∈ns/\∀n∈ns,n<=v)->R (.D<|.int v) b
  |_=>False
 |_,_=>False
def CH{e1 B:lF}{te td:AE}{p N kp:Pos}(hc:X.calm=true)(hg:Gl X "max") (hm:X.mg "max" = none) (h1:VE X e1 te) (h2:VE X B td) (E:starEach [e1] X.env=[(false,eval e1 X.env)]:=by rfl) :
  VE X (.Call (.Name "max" p) [e1] [⟨some "default",B,kp⟩] N) (OW te td):=by
 intro aa s σ H Q I zz;refine B4 zz λτ μ R U C h hq=>?_;refine bT (Dx I hg hm jC<|PyProof.Rows.callWith_kw ?_ (by rw[E];rfl)<|by rw[E];rfl);rw[E];refine bA<|aM (h1.run I U C h) (λu1 s1 uz=>J6 uz λx v μ1 H1 I1 rv T c1 rx q1=>bY ?_) λ_ _ e=>e;refine PyProof.Rows.kws_cons<|aM (h2.run I1 (U.kp T) c1 q1) (λu2 l G=>J6 G λy v2 μ2 H2 I2 J O c2 ry c=>PyProof.Rows.kws_nil ?_) λ_ _ e=>e;have mj:=rx.kp O;split at c;rename_i a m;obtain⟨o,eo,c⟩:=A4 c;split at c;rename_i ys;obtain⟨ns,en,c⟩:=A4 c;obtain⟨ob,g,vs,rfl,rs⟩:=c2 _ _ eo;cases (show v=V.ref a from mj);cases rv;cases RelA.int ry;obtain⟨r,rfl⟩:=J;rw[G1 en rs]at g;obtain⟨D,Y,z,hz⟩:=I2.list<|Ep.of g;have ak:=Y.length;rw[B_]at ak;have am:a≠l.heap.objs.size:=Z_ (by obtain⟨_,g,_⟩:=z.isList;exact N_ g);have la:a<l.heap.objs.size:=let⟨_,g,_⟩:=z.isList;N_ g
 have mw:∀(i:Nat) (v:kZ),D.toArray[i]?=some v->∃n t,ns[i]?=some n/\v=.int n t:=λi v e=>by
  have e:D[i]?=some v:=by simpa using e
  have hi:i<ns.length:=by rw[ak];exact(D_.mp e).1
  obtain⟨u,hu,t,ru⟩:=Y.get (i:=i) (x:=.int ns[i]) (by rw[L_,J_ hi];rfl);rw[e]at hu;cases hu;exact⟨ns[i],t,J_ hi,ru⟩
 refine PyProof.Rows.kmb_tree PySem.F.kind_max PySem.F.plain_max PySem.F.entry_max (Ud _ _) ?_;show wpAny _ X.A.in1 (Builtin.Builtins.bindParams "max" ["key","default"] 0 ⟨[],[(Str.ofString "default",.int m r)]⟩>>=_) _ _ l;refine A_<|eC (show Builtin.Builtins.bindParams "max" ["key","default"] 0 ⟨[],[(Str.ofString "default",.int m r)]⟩=pure [none,some<|.int m r] from rfl) ?_;refine A_<|C_<|A_<|fM z.isList<|A_<|aC ?_;rw[Fb];have W:∀(d:Int) (t':Tok) (h':lH) (tk:Nat),(ns=[]->d=m)->(ns≠[]->d∈ns/\∀n∈ns,n<=d)->(∀b o,l.heap.get? b=some o->h'.get? b=some o)->EP X aa σ Q (.int d t') {l with heap:=h',toks:=tk}:=λd t' h' tk a1 a2 a3=>
  ⟨.int d,H2,I2.kept a3,⟨_,rfl⟩,hq _ _ _ _ (T.trans O) c2 Ct<|c d a1 a2⟩
 refine C_ ⟨dO PySem.F.plain_max_loop _,Qr (kO (show X.A.in1.handled=none from I.ok.hd hc) l.heap.objs.size a am D.toArray) (λi=>ns.getD i 0) (λi v e=>?_) ?_ ⟨⟨_,DD _<|K_ _ rfl,rfl,rfl⟩,z.isList.at λo e=>DD _<|DD _ e⟩ (K_ _ rfl) (λM h' tk L=>?_) λd t' h' tk Z q L=>?_⟩;obtain⟨n,t,e1,B⟩:=mw i v e;exact⟨t,by rw[B,a_,e1];rfl⟩;intro hb;simp only[List.mem_cons,List.not_mem_nil,or_false]at hb;have e1:∀(h:lH) (o:lI),(h.push o).objs.size=h.objs.size+1:=λh o=>by simp[Heap.push]
 rw[e1]at hb;rcases hb with hb|hb;exact absurd hb<|gN _;exact absurd hb<|dJ<|bZ la;refine W m r h' tk (λ_=>rfl) (λh=>absurd (cD ?_) h) λb o e=>L b o ?_ ?_<|DD _<|DD _ e;rw[R_]at M;omega;intro hb;have f:=N_ e;simp only[List.mem_cons,List.not_mem_nil,or_false]at hb;exact absurd hb<|Z_ f;have f:=N_ e;rw[show ∀(h:lH) (o:lI),(h.push o).objs.size=h.objs.size+1 from λh o=>by simp[Heap.push]];exact Z_<|bZ f;obtain⟨i,hi,rfl⟩:=q;rw[R_]at hi Z;have q:ns.getD i 0∈ns:=by rw[a_,J_<|by omega];exact eZ _
 refine W _ t' h' tk (λh=>by rw[h]at q;cases q) (λ_=>⟨q,λn M=>?_⟩) λb o e=>L b o ?_ ?_<|DD _<|DD _ e;obtain⟨j,hj,rfl⟩:=eX M;have:=Z j (by omega);rwa[a_ (i:=j),J_ hj]at this;intro hb;have f:=N_ e;simp only[List.mem_cons,List.not_mem_nil,or_false]at hb;exact absurd hb<|Z_ f;have f:=N_ e;rw[show ∀(h:lH) (o:lI),(h.push o).objs.size=h.objs.size+1 from λh o=>by simp[Heap.push]];exact Z_<|bZ f;exact c.elim;exact c.elim
end
end L2
namespace L2
open PySem PySem.Spec PyProof.Rows
end L2
abbrev oD(a:PySem.Addr):Option L2.AV:=some<|.R a
abbrev oE(a:Int):Option L2.AV:=some<|.D<|.int a
abbrev oF(a:PySem.PyData):Option L2.AV:=some<|.D a
abbrev oG(a:List L2.AV):Option L2.MO:=some<|.lst a
abbrev oJ:List PySem.Str:=["game","saying","here","k","known"]
abbrev oK:List PySem.Str:=["_law_deal_here","_law_many"]
abbrev oM:List PySem.Str:=["game","saying","most"]
abbrev oN:List PySem.Str:=["pairs"]
abbrev oP:List PySem.Str:=["groups","least"]
abbrev oQ:List PySem.Str:=["tops"]
abbrev oR:List PySem.Str:=["saying","place","pile"]
abbrev oS:List PySem.Str:=["game","place","pile"]
abbrev oU:List PySem.Str:=["pairs","least"]
abbrev oV:List PySem.Str:=["_law_deal_here","_law_game_here","_law_most"]
abbrev oW:List PySem.Str:=["game","place","letter"]
abbrev oX:List PySem.Str:=["game","place","pile","rule"]
abbrev oY:List PySem.Str:=["_law_script"]
abbrev oZ:List PySem.Str:=["_law_script","_law_base"]
abbrev qA:List PySem.Str:=["_law_cell"]
abbrev qB:List PySem.Str:=["_law_deal_here","_law_sizes","_law_hand"]
abbrev qC:List PySem.Str:=["_law_deal_here","_law_game_here","_law_own","_law_many","_law_most"]
abbrev qD:List PySem.Str:=["arrows","ends","stand","pile"]
abbrev qE:List PySem.Str:=["game","saying","place","pile","k"]
abbrev qF:List PySem.Str:=["lows","bits"]
abbrev qG:List PySem.Str:=["cost","bits"]
abbrev qH:List PySem.Str:=["target","beneath"]
abbrev qI:List PySem.Str:=["_law_game_here","_law_saying_here"]
abbrev qJ:List PySem.Str:=["_law_game_here","_law_saying_here","_law_made_here","_law_paper","_law_where"]
abbrev qK:List PySem.Str:=["_law_deal_here","_law_sizes","_law_found"]
abbrev qL:List PySem.Str:=["_law_deal_here","_law_hands","_law_letters","_law_many","_law_most"]
abbrev qM:List PySem.Str:=["_law_deal_here","_law_stands","_law_most"]
abbrev qN:List PySem.Str:=["arrows","reading","letter"]
abbrev qO:List PySem.Str:=["game","saying","place","pile"]
abbrev qP:List PySem.Str:=["pairs","others"]
abbrev qQ:List PySem.Str:=["tops","stand","w","least"]
abbrev qR:List PySem.Str:=["game","tops","least"]
abbrev qS:List PySem.Str:=["kept","found"]
abbrev qT:List PySem.Str:=["kept","waiting"]
abbrev qU:List PySem.Str:=["ahead","stand","letter","targets","most_cost"]
abbrev qV:List PySem.Str:=["game","ahead","rule","arrow"]
abbrev qW:List PySem.Str:=["game","ahead","arrow"]
abbrev qX:List PySem.Str:=["paper","letter","beneath"]
abbrev qY:List PySem.Str:=["saying","paper","pile"]
abbrev qZ:List PySem.Str:=["saying","paper","place","pile"]
abbrev yA:List PySem.Str:=["_law_k","_law_letters","_law_deal_here"]
abbrev yB:List PySem.Str:=["_law_k","_law_deal_here","_law_letters"]
abbrev yC:List PySem.Str:=["_law_k","_law_hand","_law_deal_here"]
abbrev yD:List PySem.Str:=["_law_stand","_law_deal_here"]
abbrev yE:List PySem.Str:=["_law_k","_law_deal_here","_law_game_here"]
abbrev yF:List PySem.Str:=["number","rule","place","letter"]
abbrev yG:List PySem.Str:=["rule","game","saying","k","known","here"]
abbrev yH:List PySem.Str:=["groups","least","found","group"]
abbrev yI:List PySem.Str:=["rest_cost","rest_bits","cost"]
abbrev yJ:List PySem.Str:=["target","ahead","left","w","arrow"]
abbrev yK:List PySem.Str:=["rule","game","ahead","arrow"]
namespace K45
open PySem L2
def top(i:Nat):lJ:=PySem.Challenge.pw_pileduel_k45_whole_within_and_machine.main.body.getD i<|.Pass ⟨0,0,0,0⟩
abbrev UH:lJ:=top 5
abbrev XX:lJ:=top 7
abbrev XY:lJ:=top 8
abbrev XZ:lJ:=top 10
abbrev UI:lJ:=top 11
abbrev YA:lJ:=top 12
abbrev YB:lJ:=top 15
abbrev YC:lJ:=top 16
abbrev OX:lJ:=top 17
abbrev KU:lJ:=top 18
abbrev YD:lJ:=top 20
abbrev UJ:lJ:=top 21
abbrev YE:lJ:=top 22
abbrev YF:lJ:=top 23
abbrev YG:lJ:=top 24
abbrev YH:lJ:=top 25
abbrev YI:lJ:=top 26
abbrev YJ:lJ:=top 27
abbrev YK:lJ:=top 29
abbrev OY:lJ:=top 30
abbrev UK:lJ:=top 32
abbrev UL:lJ:=top 33
abbrev UM:lJ:=top 34
abbrev OZ:lJ:=top 35
abbrev YL:lJ:=top 36
abbrev PB:lJ:=top 37
abbrev PD:lJ:=top 38
abbrev UN:lJ:=top 40
abbrev PF:lJ:=top 41
abbrev UO:lJ:=top 42
abbrev UP:lJ:=top 43
abbrev YM:lJ:=top 45
abbrev YN:lJ:=top 46
abbrev PH:lJ:=top 47
abbrev PJ:lJ:=top 49
abbrev YO:lJ:=top 50
abbrev UQ:lJ:=top 51
abbrev PK:lJ:=top 52
abbrev UR:lJ:=top 53
abbrev US:lJ:=top 54
abbrev UT:lJ:=top 55
abbrev YQ:lJ:=top 56
abbrev UU:lJ:=top 57
abbrev YR:lJ:=top 58
abbrev YS:lJ:=top 59
abbrev CI:lJ:=top 60
section
variable {P:lD}{w:lE}{K:lC}{mg:Str->oB kZ}{base:lH}{f:lB}{fd:lK}
def G2(i:Int):AV:=.D<|.int i
def Go(b a:Int)(l:lB):MO:=.dk [(.inr "seed",.D<|.int b),(.inr "number",.D<|.int a),(.inr "left",.R l)]
structure PotAt(μ:M)(a l:lB)(sd nm:Int)(ns:oA Int):Prop where
 ha:μ a=some (Go sd nm l)
 hl:μ l=oG (ns.map G2)
 s0:0<=sd
 s1:sd<2147483648
 n0:0<=nm
 p0:∀n∈ns,0<=n
 ne:a≠l
def Pot(c:M)(a l:lB):Prop:=∃b d ns,PotAt c a l b d ns
def YT:(.inr "seed" : Key)≠.inr "number" := by decide +kernel
def YU:(.inr "seed" : Key)≠.inr "left" := by decide +kernel
def YV:(.inr "number" : Key)≠.inr "left" := by decide +kernel
def PL:("seed" : Str) ≠ "number" := by decide +kernel
def YW:("seed" : Str) ≠ "left" := by decide +kernel
def YX:("number" : Str) ≠ "left" := by decide +kernel
def Qs{a b:Int}{l:lB}:dget (Go a b l) (.str "seed")=some (oE a):=b_ some D4
def EY{b a:Int}{l:lB}:dget (Go b a l) (.str "number")=some (oE a):=b_ some<|(De YT).trans D4
def X7{b a:Int}{l:lB}:dget (Go b a l) (.str "left")=some (oD l):=b_ some<|(De YU).trans<|(De YV).trans D4
def IZ{b a v:Int}{l:lB}:dput (Go b a l) (.str "seed") (.D<|.int v)=some (Go v a l):=by refine b_ some<|b_ MO.dk ?_;simp[Dz,PL.symm,YW.symm]
def EZ{a b v:Int}{l:lB}:dput (Go a b l) (.str "number") (.D<|.int v)=some (Go a v l):=by refine b_ some<|b_ MO.dk ?_;simp[Dz,PL,YX.symm]
def Mj{b a:Int}{l:lB}:dsize (Go b a l)<sizeLine:=A0 (n:=3)<|by decide
def Bn(a l:lB)(d c:M):Prop:=∀b m,b≠a->b≠l->d b=some m->c b=some m
def Bn.refl{a l:lB}{b:M}:Bn a l b b:=λ_ _ _ _ h=>h
def Bn.trans{a l:lB}{c g d:M}(h:Bn a l c g)(k:Bn a l g d):Bn a l c d:=λb m h1 h2 e=>k b m h1 h2<|h b m h1 h2 e
def Bn.new{a l p:lB}{d c:M}{o:MO}(h:Bn a l d c)(e:c p=none):Bn a l d (Ao c p o):=λb m h1 h2 q=>by have:=h b m h1 h2 q;rw[Af<|by intro z;subst z;rw[e]at this;cases this];exact this
def Bn.put{a l p:lB}{c d:M}{o:MO}(h:Bn a l c d)(e:c p=none):Bn a l c (Ao d p o):=λb m h1 h2 q=>by rw[Af<|by intro z;subst z;rw[e]at q;cases q];exact h b m h1 h2 q
def Bn.a{a l:lB}{c d:M}{o:MO}(h:Bn a l c d):Bn a l c (Ao d a o):=λb m h1 h2 q=>by rw[Af h1];exact h b m h1 h2 q
def Bn.l{a l:lB}{c d:M}{o:MO}(h:Bn a l c d):Bn a l c (Ao d l o):=λb m h1 h2 q=>by rw[Af h2];exact h b m h1 h2 q
theorem Bn.none{a l p:lB}{b c:M}(h:Bn a l b c)(h1:a≠p)(h2:l≠p)(e:c p=none):b p=none:=by
 cases q:b p with
 |none=>rfl
 |some m=>rw[h p m h1.symm h2.symm q]at e;cases e
def PotAt.other{b:M}{a l p:lB}{d c:Int}{ns:oA Int}{o:MO}(h:PotAt b a l d c ns)(h1:a≠p)(h2:l≠p):PotAt (Ao b p o) a l d c ns :=
 ⟨by rw[Af h1];exact h.ha,by rw[Af h2];exact h.hl,h.s0,h.s1,h.n0,h.p0,h.ne⟩
def Pot.other{b:M}{a l p:lB}{o:MO}(h:Pot b a l)(h1:a≠p)(h2:l≠p):Pot (Ao b p o) a l:=by obtain⟨d,c,ns,h⟩:=h;exact⟨d,c,ns,h.other h1 h2⟩
def Pot.ne{b:M}{a l p:lB}(h:Pot b a l)(e:b p=none):a≠p/\l≠p:=by obtain⟨d,c,ns,h⟩:=h;exact⟨λz=>by(subst z;rw[h.ha]at e;cases e),λz=>by(subst z;rw[h.hl]at e;cases e)⟩
def Pot.new{b:M}{a l p:lB}{o:MO}(h:Pot b a l)(e:b p=none):Pot (Ao b p o) a l:=h.other (h.ne e).1 (h.ne e).2
abbrev nDr:oA Str:=["_law_deal_here","_law_many","_law_number","_law_one","_law_other"]
def CJ:FnScope nDr oK (Ah YO):=Bi<|by decide +kernel
def Mk:ASp:=λd c R=>∃(a l:lB) (many:Nat),d=[.R a,.D<|.int many]/\Pot c a l/\0<many/\many<=1000000/\∀(v:Nat) (b:M),v<many->Pot b a l->Bn a l c b->R (.D<|.int v) b
def X8{v:Int}{many:Nat}(h0:0<=v)(h1:v<many):∃n:Nat,v=n/\n<many:=⟨v.toNat,by omega,by omega⟩
def X9(x:Int){m:Int}(h:0<m):0<=x%m:=iB x<|by omega
def Ya(x:Int){m:Int}(h:0<m)(h2:m<=2147483648):x%m<2147483648:=Int.lt_of_lt_of_le (jV x h) h2
def FA{x:Int}{many:Nat}{Q:Int->Prop}(h0:0<many)(h:∀v:Nat,v<many->Q v):Q (x%many):=by obtain⟨v,a,hv⟩:=X8 (iB x<|show(many:Int)≠0 by omega) (jV x<|show 0<(many:Int) by omega);rw[a];exact h v hv
def PM{n:Nat}(F:Fun K "_law_draw" "_law_draw" YO f fd) (N:mg "len" = none):FnOk P w K mg base Cm (n+1) f fd oK (Dj K 2 Mk):=by
 refine F.vok CJ λav A y s H E k=>⟨_,(Ae (Nl aA (VW.pt<|Eb (A7 (D9 k) (C0 (Bu k) (vv 0) Ca) Ag<|nomark _)<|D3<|A7 L1 (Ay Cy rfl N aX<|Aa (C0 (Bu k) (vv 0) Ca) Ad) Ag<|nomark _)<|Ai<|C1 (Bu k) (vv 0) Ca<|HM PySem.F.slot_list_pop PySem.F.type_list_pop ND<|C0 (Bu k) (vv 0) Ca)<|Ae (Aq (i:=2) CJ.nd rfl oH<|C0 (Bu k) (vv 0) Ca)<|Ae (B9 (A7 L1 (vv 2) Ag<|nomark _) (Ae (C1 (Bu k) (vv 0) Ca<|A9 HI (vv 2)<|vv 1)<|Ai<|Aw<|A9 G8 (vv 2)<|vv 1) Bh)<|Ae (Aq (i:=3) CJ.nd rfl oH<|A9 G8 (A9 Ce (A9 G9 (C0 (Bu k) (vv 0) Ca) Ag) Ag) Ag)<|Ae (C1 (Bu k) (vv 0) Ca<|A9 G8 (A9 Ce (A9 G9 (vv 3) Ag) Ag) Ag)<|Ae (Aq (i:=4) CJ.nd rfl oH<|A9 G8 (A9 G9 (C0 (Bu k) (vv 0) Ca)<|C0 (Bu k) (vv 0) Ca) Ag)<|Ai<|Aw<|A9 G8 (A9 Ce (A9 G9 (A9 G8 (A9 G9 (vv 3)<|vv 3) Ag) Ag)<|vv 4)<|vv 1),?_⟩
 rintro U B R _ ⟨a,l,d,rfl,⟨g,e,ns,I⟩,h0,h1,q⟩;refine Az (λj b=>∃g e ns,j=[oD a,oE d,none,none,none]/\PotAt b a l g e ns/\Bn a l B b) (λY o=>?_) ?_;refine Rg (λm j b=>∃g e ns,j=[oD a,oE d,none,none,none]/\m=ns.length/\PotAt b a l g e ns/\Bn a l B b) ns.length ⟨g,e,ns,rfl,rfl,I,Bn.refl⟩ ?_;rintro m j b W ⟨g,e,ns,rfl,rfl,D,S⟩ p;refine Ab D.ha<|Ab EY<|Ab rfl<|ieq (λc=>?_) λc=>J5 rfl<|o _ _ ⟨g,e,ns,rfl,D,S⟩;refine Ab D.ha<|Ab X7<|Ab rfl<|Ab D.hl<|dif (λC=>?_) λC=>o _ _ ⟨g,e,ns,rfl,D,S⟩;have r:ns≠[]:=by rintro rfl;exact absurd C<|by decide
 have G:(ns.map G2)[(ns.map G2).length-1]?=some (G2<|ns.getLast r):=by rw[<- List.getLast?_eq_getElem?,List.getLast?_map,List.getLast?_eq_some_getLast r];rfl
 have M:(ns.map G2).dropLast=ns.dropLast.map G2:=by rw[List.map_dropLast]
 have x:Ao b l (.lst (ns.map G2).dropLast) a=some (Go g e l):=by rw[Af D.ne];exact D.ha
 have L:0<ns.length:=gV.mpr r;refine Ab D.ha (Ab X7<|Ab rfl ⟨Ab D.hl trivial,Ab D.hl<|Ab G<|Ab x<|Ab EZ ⟨Mj,p ns.dropLast.length _ _ (by rw[jL];omega) ⟨g,ns.getLast r,ns.dropLast,rfl,rfl,?_,S.l.a⟩⟩⟩);exact⟨Ac,by rw[Af D.ne.symm,Ac,M],D.s0,D.s1,D.p0 _<|List.getLast_mem r,λz hz=>D.p0 z<|(List.dropLast_sublist ns).subset hz,D.ne⟩;rintro j b ⟨g,e,ns,rfl,D,S⟩;refine Cg<|Ab D.ha<|Ab EY<|Ab rfl<|Cg<|dif (λc=>?_) λc=>?_;refine Cg ⟨⟨by omega,by omega⟩,Ab D.ha<|Ab EZ ⟨Mj,(by show(0:Int)<_;omega),_,Sub.refl,?_⟩⟩;refine FA (Q:=λi=>R (.D<|.int i) _) h0 λv hv=>?_;exact q v _ hv ⟨g,e / d,ns,Ac,by rw[Af D.ne.symm];exact D.hl,D.s0,D.s1,Int.ediv_nonneg D.n0<|dU _,D.p0,D.ne⟩ S.a;refine Az (λj h=>∃one:Int,j=[oD a,oE d,oE e,oE one,none]/\b=h/\0<=one/\one<2147483648) (λW p=>?_) ?_;exact Ab D.ha (Ab Qs<|Ab rfl ⟨.inr ⟨by decide,by decide⟩,(by show(0:Int)<_;decide),p _ _ ⟨_,rfl,rfl,X9 _<|by decide,Ya _ (by decide)<|by decide⟩⟩);rintro j h ⟨one,rfl,rfl,T,V⟩;refine Az (λj h=>∃u:Int,j=[oD a,oE d,oE e,oE one,none]/\PotAt h a l u e ns/\Bn a l B h) (λW p=>?_) ?_;exact⟨.inr ⟨by decide,by decide⟩,(by show(0:Int)<_;decide),Ab D.ha<|Ab IZ ⟨Mj,p _ _ ⟨_,rfl,⟨Ac,by rw[Af D.ne.symm];exact D.hl,X9 _<|by decide,Ya _ (by decide)<|by decide,D.n0,D.p0,D.ne⟩,S.a⟩⟩⟩;rintro j O ⟨u,rfl,t,J⟩;have Z:=t.s0;have X:=t.s1;refine Cg (Ab t.ha<|Ab Qs<|Ab rfl<|Ab t.ha<|Ab Qs<|Ab rfl ⟨.inl ⟨by omega,by omega⟩,(by show(0:Int)<_;decide),?_⟩);refine⟨.inl ⟨by omega,by omega⟩,(by show(0:Int)<_;decide),.inr ⟨by decide,by decide⟩,(by show(0:Int)<_;omega),_,Sub.refl,?_⟩;exact FA (Q:=λi=>R (.D<|.int i) _) h0 λv hv=>q v _ hv ⟨u,e,ns,t⟩ J
abbrev YY:oA Str:=["_law_script","_law_base","_law_cell","_law_cells","_law_number"]
def Yb:FnScope YY oZ (Ah PJ):=Bi<|by decide +kernel
def PN:(qA:oA Str).Nodup:=by decide +kernel
def PP:(qA:oA Str).Nodup:=by decide +kernel
def Kg(ns:oA Int):lA:=.list<|ns.map .int
def Ue(a:M)(ns:oA Int):items a (.D<|Kg ns)=some (ns.map G2):=by show some ((ns.map PyData.int).map AV.D)=_;rw[aF];rfl
def Yc{a:Type}(g:a->AV)(xs:oA a)(lo hi:oB Int):∃b:oA a,Kd (xs.map g) lo hi=b.map g/\b.length<=xs.length:=by refine⟨(xs.drop<|HT.sIx (xs.map g).length 0 lo).take<|HT.sIx (xs.map g).length (xs.map g).length hi-HT.sIx (xs.map g).length 0 lo,?_,?_⟩;unfold Kd;rw[<- List.map_drop,<- List.map_take];rw[bD,dB];omega
def JA:ASp:=λe d R=>∃(ns:oA Int) (b:Nat),e=[.D<|Kg ns,.D<|.int b]/\b<1000/\ns.length<=63/\∀(a l:lB) (c:M),d a=none->d l=none->Pot c a l->Sub d c->R (.R a) c
def Qt(i:Int):Int:=if 0-i>i then 0-i else i
def JB(i:Int):0<=Qt i:=by unfold Qt;split<;>omega
def PQ{c:Int}{Q:Prop}(h:Q){x:Int}(hc:-(2^64)<c/\c<2^64:=by decide):CMul c x/\Q:=⟨.inl hc,h⟩
def PR{n:Nat}(F:Fun K "_law_deal" "_law_deal" PJ f fd) (cu:mg "max" = none) (bj:mg "list" = none) (a7:mg "reversed" = none):FnOk P w K mg base Cm (n+1) f fd oZ (Dj K 2 JA):=by
 refine F.vok Yb λav A T s H E hr=>⟨_,(Ae (D7 (i:=3) (N':=qA) (mp:=[none]) rfl Yb.nd rfl rfl (Be<|Cf (vv 0) (Cs<|vv 1)<|Cs Ag) (λ_ _ _ _=>(Ak (i:=0) PN rfl oH oI)) (λ_ _ _ _=>Bm) (λ_ _ _ _=>(Ay (V4 rfl) rfl cu jC<|Aa (vv 0)<|Aa (A9 K0 Ag<|vv 0) Ad))<|Ax (N:=YY) (pn:=(Ah PJ).names)<|by decide +kernel)<|Ae (Aq (i:=4) Yb.nd rfl oH<|A9 Ce Ag<|A9 G9 Ag<|vv 1)<|Ae (B3 aA rfl (Be<|vv 3) (Ak (i:=2) Yb.nd rfl oH)<|Ai<|Aq (i:=4) Yb.nd rfl oH<|A9 G8 (A9 Ce (A9 Ce (A9 G9 (vv 4) Ag)<|A9 G8 (vv 2) Ag) Ag) Ag)<|Ai<|Aw<|BM (L7 (vv 4)<|L7 Ag<|L7 (Rp rfl rfl bj rfl a7<|Bq (N':=qA) (mp:=[none]) rfl (Be<|vv 3) (λ_ _ _ _=>(Ak (i:=0) PP rfl oH oI)) (λ_ _ _ _=>(Dm<|A7 HK (vv 0) (A9 MW Ag Ag)<|nomark _)) (λ_ _ _ _=>(vv 0))<|Ax (N:=YY) (pn:=(Ah PJ).names)<|by decide +kernel) BL)<|by decide +kernel),?_⟩
 rintro X μ R _ ⟨ns,b,rfl,hb,hn,q⟩;obtain⟨B,ecs,bp⟩:=Yc G2 ns (some (b:Int))<|some 63;refine Az (λe G=>∃h,e=[oF<|Kg ns,oE b,none,oD h,none]/\μ h=none/\G h=oG ((B.map Qt).map G2)/\Sub μ G) (λW C=>?_) ?_;refine Ab (Ue _ ns) λp hp=>?_;rw[ecs];refine Ab (Am Ac) λh m=>?_;have O:p≠h:=by intro z;subst z;rw[Ac]at m;cases m
 have Z:μ h=none:=by rw[Af O.symm]at m;exact m
 refine cmap B G2 (λi=>G2<|Qt i) (λe=>∃o,e=[o]) ⟨_,rfl⟩ Ac (seven<|by omega) (λu=>Am<|by rw[Af O,Af O,Ac]) ?_ ?_;rintro i x S u W2 hi ⟨o,rfl⟩ hW2;exact hW2 _ ⟨_,rfl⟩;refine C _ _ ⟨h,rfl,Z,?_,((Sub.refl.new hp).new Z).new Z⟩;rw[Ac,aF];rfl;rintro e k ⟨h,rfl,gt,m,r⟩;refine Az (λe d=>∃g:Int,e=[oF<|Kg ns,oE b,none,oD h,oE g]/\k=d/\0<=g/\g<2147483648) (λW C=>PQ<|C _ _ ⟨_,rfl,rfl,by omega,by omega⟩) ?_;rintro e d ⟨U,rfl,rfl,z0,z1⟩;refine Az (λe d=>∃(t:oB AV) (g:Int),e=[oF<|Kg ns,oE b,t,oD h,oE g]/\k=d/\0<=g/\g<2147483648) (λW C=>?_) ?_;refine Ab (Am m) ?_;refine Ci (λi e d=>∃(t:oB AV) (g:Int),e=[oF<|Kg ns,oE b,t,oD h,oE g]/\k=d/\0<=g/\g<2147483648) ⟨none,U,rfl,rfl,z0,z1⟩ ?_ ?_ ?_;rintro i e d ⟨t,g,rfl,rfl,_⟩;exact Am m;rintro i y e d W2 hy ⟨t,g,rfl,rfl,h0,h1⟩ hW2;rw[L_]at hy;obtain⟨c,hc,rfl⟩:=H_.mp hy;exact⟨.inr ⟨by decide,by decide⟩,(by show(0:Int)<_;decide),(by show(0:Int)<_;decide),hW2 _ _ ⟨_,_,rfl,rfl,X9 _<|by decide,Ya _ (by decide)<|by decide⟩⟩;rintro e d ⟨t,g,rfl,rfl,h0,h1⟩;exact C _ _ ⟨_,_,rfl,rfl,h0,h1⟩;rintro e d ⟨t,g,rfl,rfl,h0,h1⟩;intro a ha;have V:a≠h:=by intro z;subst z;rw[m]at ha;cases ha
 have Q:Ao k a (.dk []) h=oG ((B.map Qt).map G2):=by rw[Af V.symm];exact m
 refine Ab (Am Q) λL j=>?_;have J:a≠L:=by intro z;subst z;rw[Ac]at j;cases j
 have u8:h≠L:=by intro z;subst z;rw[Q]at j;cases j
 have se:k L=none:=by rw[Af J.symm]at j;exact j
 refine cmapf (B.map Qt) G2 (λx=>decide ((10:Int)^(18:Int).toNat<=x)) G2 (λe=>∃o,e=[o]) ⟨none,rfl⟩ Ac (seven<|by rw[B_];omega) (λu=>Am<|by rw[Af u8,Af u8];exact Q) ?_ ?_;rintro i x S u W2 W3 hi ⟨o,rfl⟩ h2 h3;exact⟨⟨by decide,by decide,by decide⟩,br (λc=>h2 c _ ⟨_,rfl⟩) λc=>h3 c _ ⟨_,rfl⟩⟩;generalize ig:(B.map Qt).filter (λx=>decide ((10:Int)^(18:Int).toNat<=x))=X;have Y:∀x∈X,0<=x:=λx hx=>by rw[<- ig]at hx;obtain⟨z,_,rfl⟩:=E_.mp (bH.mp hx).1;exact JB z
 refine Ab Ac λl v=>?_;have c9:L≠l:=by intro z;subst z;rw[Ac]at v;cases v
 have M:a≠l:=by intro z;subst z;rw[Af J,Af J,Ac]at v;cases v
 have I:k l=none:=by rw[Af c9.symm,Af c9.symm,Af M.symm]at v;exact v
 refine⟨by rw[Af M,Af J,Af J,Ac],_,Sub.refl,q a l _ (r.none ha) (r.none I) ⟨g,0,X.reverse,Ac,?_,h0,h1,gM 0,λz hz=>Y z<|List.mem_reverse.mp hz,M⟩ ?_⟩;rw[Af M.symm,Ac,List.map_reverse];exact((((r.new<|r.none ha).new<|r.none se).new<|r.none se).new<|r.none I).new<|r.none ha
def A3(ns:oA Nat):lA:=.tuple<|ns.map λ(n:Nat)=>.int n
theorem F9{a:Type} [DecidableEq a]:∀{xs ys:oA a},xs.Nodup->(∀x∈xs,x∈ys)->xs.length<=ys.length
 |[],_,_,_=>aN _
 |x::xs,ys,c,h=>by have hx:=h x aW;obtain⟨b,d⟩:=cQ.mp c;have:=F9 (xs:=xs) (ys:=ys.erase x) d λz hz=>(List.mem_erase_of_ne<|by rintro rfl;exact b hz).mpr<|h z<|aJ _ hz;rw[List.length_erase_of_mem hx]at this;have hp:0<ys.length:=List.length_pos_of_mem hx;simp only[List.length_cons];omega
def Fz{l:Type} [DecidableEq l](k g:l)(v:AV):∀(kvs:oA<|l×AV),Bw (Dz kvs k v) g=if g=k then some v else Bw kvs g:=by
 intro kvs;unfold Dz;split
 ·rename_i h
  induction kvs with
  |nil=>simp at h
  |cons c kvs j=>
   rw[aS];by_cases e:c.1=k;rw[T_ e];by_cases d:g=k;rw[T_ d,d,e];exact D4;rw[O_ d];obtain⟨a,b⟩:=c;have n:a=k:=e;subst n;rw[De<|bX d,De<|bX d];by_cases h2:(kvs.any λc=>decide (c.1=a))=true;rw[j h2,O_ d];congr 1;refine(eB λz hz=>?_).trans<|List.map_id kvs;rw[O_]
   rfl
   intro m;exact h2<|aZ.mpr ⟨z,hz,aQ m⟩;rw[O_ e];obtain⟨a,b⟩:=c;have h2:(kvs.any λc=>decide (c.1=k))=true:=by rw[dX,aH e,kD]at h;exact h
   by_cases i:a=g;subst i;rw[D4,O_ e];exact D4.symm;rw[De i,De i,j h2]
 ·rename_i h
  induction kvs with
  |nil=>by_cases d:g=k;rw[T_ d,d];exact D4;rw[O_ d];show Bw ((k,v)::[]) g=_;rw[De<|bX d]
  |cons c kvs j=>
   obtain⟨a,b⟩:=c;have h1:a≠k:=by intro z;apply h;rw[dX,aQ z];rfl
   have h2:¬(kvs.any λc=>decide (c.1=k))=true:=by intro z;apply h;rw[dX,z,Bool.or_true]
   show Bw ((a,b)::(kvs++[(k,v)])) g=_;by_cases i:a=g;subst i;rw[D4,O_ h1];exact D4.symm;rw[De i,j h2,De i]
def Bj{a:M}(ns:oA Nat):items a (.D<|A3 ns)=some (ns.map λ(n:Nat)=>.D<|.int n):=by show some ((ns.map λ(n:Nat)=>PyData.int n).map AV.D)=_;rw[aF];rfl
def Fc{ns:oA Nat}:PyData.canLayAll0 (ns.map λ(n:Nat)=>.int n)=true/\PyData.depthAll (ns.map λ(n:Nat)=>.int n)<=1:=by
 induction ns with
 |nil=>exact⟨rfl,by simp[PyData.depthAll]⟩
 |cons n ns a=>simp only[List.map_cons,PyData.canLayAll0,PyData.depthAll,a.1,Bool.and_true];refine⟨rfl,?_⟩;have:=a.2;simp only[PyData.depth];omega
def Lg{ns:oA Nat}:Cp (A3 ns):=⟨by simp only[A3,PyData.canLay0];exact Fc.1,by have:=(Fc (ns:=ns)).2;simp only[A3,PyData.depth];omega⟩
def Yd{a:Type}{L:oA a}{g:a->Bool}{i:Nat}{x:a}(h:L[i]?=some x):(L.take<|i+1).any g=((L.take i).any g||g x):=by rw[aG,h,List.any_append];simp
def Jr{a:Type} [DecidableEq a](kvs:oA<|a×AV)(k:a)(v:AV):(Dz kvs k v).length<=kvs.length+1:=by unfold Dz;split;rw[B_];omega;rw[P_];exact F_ _
def B0(n:Nat):AV:=.D<|.int n
def E3(ns:oA Nat):dats (ns.map B0)=some (ns.map λ(n:Nat)=>.int n):=by rw[show ns.map B0=(ns.map λ(n:Nat)=>PyData.int n).map .D by rw[aF];rfl];exact Bx _
theorem Ga:∀(ns:oA Nat),Bg (ns.map λ(n:Nat)=>.int n)=true
 |[]=>rfl
 |n::ns=>by simp only[List.map_cons,Bg,Cano,Ga ns,Bool.and_self]
theorem Oc:∀(a ns:oA Nat),cmpbs (a.map λ(n:Nat)=>.int n) (ns.map λ(n:Nat)=>.int n)=true
 |[],_=>by simp only[List.map_nil,cmpbs]
 |_::_,[]=>by simp only[List.map_nil,List.map_cons,cmpbs]
 |m::a,n::ns=>by simp only[List.map_cons,cmpbs,cmpb,Oc a ns,ite_self]
theorem unmap{c d:Type}{g:c->d}{B:oA c}:∀{es:oA d},(∀e∈es,e∈B.map g)->∃A:oA c,es=A.map g/\A.length=es.length/\∀a∈A,a∈B
 |[],_=>⟨[],rfl,rfl,λ_ z=>nomatch z⟩
 |e::es,h=>by obtain⟨A,rfl,j,i⟩:=unmap (es:=es) λx hx=>h x<|aJ _ hx;obtain⟨a,ha,rfl⟩:=E_.mp<|h e aW;refine⟨a::A,rfl,by simp,λb hb=>?_⟩;rcases aD.mp hb with rfl|hb;exact ha;exact i b hb
def Dq(z:Str):AV:=.D<|.str z
def CK{z:Str}(h:lets z):PyData.canLay0 (.str z)=true:=by show PyData.strOk z=true;unfold PyData.strOk;rw[Array.all_eq_true];intro i hi;have:=h z.cps[i] (by simp);simp;omega
def Uf{z:Str}(h:lets z):Cp (.str z):=Wa<|CK h
def Od(a:oA Str):dats (a.map Dq)=some (a.map PyData.str):=by rw[show a.map Dq=(a.map PyData.str).map .D by rw[aF];rfl];exact Bx _
theorem Oe:∀(a:oA Str),txts (a.map Dq)=some a
 |[]=>rfl
 |z::a=>by simp only[List.map_cons,Dq,txts,Option.map_eq_some_iff];exact⟨a,Oe a,rfl⟩
def CL:∀i:Fin 26,∃c,("abcdefghijklmnopqrstuvwxyz" : Str).cps.toList[i.val]?=some c/\97<=c/\c<=122:=by decide +kernel
def Ye{v:Nat}(h:v<26):∃c,atI ("abcdefghijklmnopqrstuvwxyz" : Str).cps.toList (v:Int)=some c/\97<=c/\c<=122:=by obtain⟨c,e,h1⟩:=CL ⟨v,h⟩;exact⟨c,Aj e,h1⟩
def Of{c:Nat}(h:97<=c/\c<=122):lets ⟨#[c]⟩:=λd a=>by
 have:d=c:=by simpa using a
 rw[this];exact h
def Yf:("abcdefghijklmnopqrstuvwxyz" : Str).length<=sizeLine:=by decide +kernel
def Yg:("" : Str).length=0:=by decide +kernel
def Fd(x y:Str):(x++y).length=x.length+y.length:=by rw[Dg,Dg,Dg,Hg,P_]
theorem Og:∀{a:oA Str},(∀z∈a,z.length=1)->(a.map (·.length)).sum=a.length
 |[],_=>rfl
 |z::a,h=>by simp only[List.map_cons,List.sum_cons,List.length_cons];rw[h z aW,Og λy hy=>h y<|aJ _ hy];omega
def Ug(a:oA Str):(Txt.join "" a).length=(a.map (·.length)).sum:=by
 show(PySem.Builtin.Str.glued "" a).length=_;rw[StrLaws.glued_eq_join]
 induction a with
 |nil=>rfl
 |cons x a b=>
  cases a with
  |nil=>simp[Str.join]
  |cons y a=>have e:Str.join "" (x::y::a)=x ++ "" ++ Str.join "" (y::a):=rfl;rw[e,Fd,Fd,Yg,b];simp
def CM{x:Str}{j:Nat}(h:lets x)(hj:j<=x.length):lets (Txt.slice x none<|some (j:Int)):=λc hc=>by rw[Jk (by omega)<|by omega]at hc;exact h c<|fP hc
def Uh{x:Str}{j:Nat}(h:lets x)(hj:j<=x.length):lets (Txt.slice x (some (j:Int)) none):=λc hc=>by rw[Gz (by omega)<|by omega]at hc;exact h c<|jN hc
def JC{x:Str}{j:Nat}(hj:j<=x.length):(Txt.slice x none<|some (j:Int)).length=j:=by rw[Dg,Jk (by omega)<|by omega,bD,<- Dg];omega
def Yh{x:Str}{j:Nat}(hj:j<=x.length):(Txt.slice x (some (j:Int)) none).length=x.length-j:=by rw[Dg,Gz (by omega)<|by omega,dB,<- Dg];omega
def JD:lets "q" := λc h=>by rw[OB,I_]at h;omega
abbrev Gp:oA Str:=["place","letter","rule","own","arrow","ends","one","other"]
def Ui:Cp (.tuple<|Gp.map PyData.str):=⟨by decide +kernel,by decide +kernel⟩
def PU{x:AV}{i:Nat}{u:AS}{k:ASt->M->Prop}{r:AV->M->Prop}{b c:ASt->M->Prop}{τ:ASt}{a:M}(h:u k r b c (τ.set i<|some x) a):Tj (Tk (vC x)<|Ei i) u k r b c τ a:=h
abbrev ZW:oA Str:=["_law_deal_here","_law_many","_law_letters","_law_kept","_law_k","_law_core","_law_at","_law_turn","_law_found","_law_name"]
def Ml:FnScope ZW oK (Ah UQ):=Bi<|by decide +kernel
def PV:(yA:oA Str).Nodup:=by decide +kernel
structure Nms(zs:oA Str):Prop where
 l:∀z∈zs,lets z
 n:∀z∈zs,z.length<=7
 d:zs.Nodup
def JE:∀i:Fin 26,("abcdefghijklmnopqrstuvwxyz" : Str).cps.toList[i.val]?=some (97+i.val):=by decide +kernel
def Uz(b:Str)(a tn k:Nat):Str:=Txt.slice b none (some (a:Int))++(⟨#[97+(((tn:Int)+7*(0+(k:Int)))%26).toNat]⟩:Str)++Txt.slice b (some (a:Int)) none
def Rx{b:Str}{a tn:Nat}(h:a<=b.length)(k:Nat):(Uz b a tn k).cps.toList=b.cps.toList.take a++[97+(((tn:Int)+7*(0+(k:Int)))%26).toNat]++b.cps.toList.drop a:=by unfold Uz;rw[Hg,Hg,Jk (by omega)<|by omega,Gz (by omega)<|by omega,dY]
def Ry{b:Str}{a tn:Nat}(h:a<=b.length)(k:Nat):(Uz b a tn k).length=b.length+1:=by rw[Dg,Rx h,Dg b];rw[Dg]at h;simp only[List.length_append,List.length_take,List.length_drop,List.length_singleton];omega
def n26{t i j:Int}(a:0<=i)(hi:i<26)(b:0<=j)(hj:j<26)(e:(t+7*(0+i))%26=(t+7*(0+j))%26):i=j:=by have d:=Int.dvd_of_emod_eq_zero<|gP.mp e;rw[Int.add_sub_add_left,<- Int.mul_sub,kU,kU]at d;have d:=Int.dvd_sub (Int.dvd_trans d<|Int.dvd_mul_left 15 _)<|Int.dvd_mul_right 26<|4*(i-j);rw[<- Int.mul_assoc,<- Int.mul_assoc,<- Int.sub_mul,show(15*7-26*4:Int)=1 from rfl,Int.one_mul]at d;have d:=gP.mpr<|Int.emod_eq_zero_of_dvd d;rwa[Int.emod_eq_of_lt a hi,Int.emod_eq_of_lt b hj]at d
def CN{b:Str}{a tn i j:Nat}(h:a<=b.length)(hi:i<26)(hj:j<26)(e:Uz b a tn i=Uz b a tn j):i=j:=by have e:=b_ (λs:Str=>s.cps.toList) e;simp only[Rx h]at e;have e:=List.append_cancel_left<|List.append_cancel_right e;injection e with e;have e:=b_ Int.ofNat<|Nat.add_left_cancel e;rw[Int.ofNat_eq_natCast,Int.ofNat_eq_natCast,Int.toNat_of_nonneg<|iB _<|by decide,Int.toNat_of_nonneg<|iB _<|by decide]at e;exact fU<|n26 (dU _) (kW.mpr hi) (dU _) (kW.mpr hj) e
def KW(b:Str)(a tn n:Nat)(c:oA Str):Prop:=∀x∈c,∃j,j<n/\∃z:Str,(z = "q" \/ z=Str.empty)/\x=Uz b a tn j++z
def qe_len{z:Str}(h:z = "q" \/ z=Str.empty):(z = "q" /\ z.length=1)\/(z=Str.empty/\z.length=0):=by rcases h with rfl|rfl;exact .inl ⟨rfl,by decide +kernel⟩;exact .inr ⟨rfl,rfl⟩
def KW.new{i:Str}{g tn n:Nat}{k:oA Str}(D:KW i g tn n k)(h:g<=i.length)(hn:n<26){z:Str}(hz:z = "q" \/ z=Str.empty):Uz i g tn n++z∉k:=λm=>by
 obtain⟨j,hj,r,o,e⟩:=D _ m;have p:=b_ Str.length e;rw[Fd,Fd,Ry h,Ry h]at p;have q:z=r:=by rcases qe_len hz with⟨a,b⟩|⟨a,b⟩<;>rcases qe_len o with⟨c,d⟩|⟨c,d⟩<;>first|(rw[a,c];done)|(exfalso;omega)
 subst q;have l:=b_ (λs:Str=>s.cps.toList) e;simp only[Hg]at l;have t:Uz i g tn n=Uz i g tn j:=BD<|List.append_cancel_right l;have:=CN h hn (by omega) t;omega
def KW.step{b:Str}{a tn n:Nat}{c:oA Str}(D:KW b a tn n c){z:Str}(hz:z = "q" \/ z=Str.empty):KW b a tn (n+1) (c++[Uz b a tn n++z]):=λx hx=>by rcases Q_.mp hx with h|h;obtain⟨j,hj,r⟩:=D x h;exact⟨j,by omega,r⟩;rw[I_.mp h];exact⟨n,eE _,z,hz,rfl⟩
def Js{c:Type}{xs:oA c}{x:c}(h:xs.Nodup)(hx:x∉xs):(xs++[x]).Nodup:=by rw[aY];refine⟨h,cQ.mpr ⟨by simp,bJ⟩,λa ha b hb e=>?_⟩;rw[I_.mp hb]at e;exact hx<|e ▸ ha
def PX:ASp:=λd c R=>∃(a l:lB) (many:Nat),d=[.R a,.D<|.int many]/\many<=5/\Pot c a l/\∀(b:oA Str) (p:lB) μ',b.length=many->Nms b->c p=none->μ' p=oG (b.map Dq)->Pot μ' a l->Bn a l c μ'->R (.R p) μ'
def PY{n:Nat}(F:Fun K "_law_names" "_law_names" UQ f fd) (ck:VCal P w K mg base n "_law_draw" oK Mk) (aj:mg "range" = none) (ag:mg "len" = none) (fm:mg "int" = none):FnOk P w K mg base Cm (n+1) f fd oK (Dj K 2 PX):=by
 refine F.vok Ml λav A outer s H E hr=>⟨_,(Ae (Aq (i:=2) Ml.nd rfl oI Ca)<|Ae (Aq (i:=3) Ml.nd rfl oH<|Bc<|Aa Ca<|Aa Ca<|Aa Ca<|Aa Ca<|Aa Ca<|Aa Ca<|Aa Ca<|Aa Ca Ad)<|Ae (Aq (i:=5) Ml.nd rfl oH<|NB PySem.F.slot_str_join PySem.F.type_str_join IH Ca<|Aa (Bq (N':=yA) (mp:=[none,some 2,some 0]) rfl (Ck rfl aj<|Aa (Al ck hr rfl<|Aa (vv 0)<|Aa Ag Ad) Ad) (λ_ _ _ _=>(Ak (i:=0) PV rfl oH oI)) (λ_ _ _ _=>Bm) (λ_ _ _ _=>(Au A8 (vv 1)<|Al ck hr rfl<|Aa (vv 2)<|Aa Ag Ad))<|Ax (N:=ZW) (pn:=(Ah UQ).names)<|by decide +kernel) Ad)<|Ae (Aq (i:=6) Ml.nd rfl oH<|Al ck hr rfl<|Aa (vv 0)<|Aa (A9 Ce (Ay Cy rfl ag aX<|Aa (vv 5) Ad) Ag) Ad)<|Ae (Aq (i:=7) Ml.nd rfl oH<|Al ck hr rfl<|Aa (vv 0)<|Aa Ag Ad)<|Ae (Aq (i:=8) Ml.nd rfl oH<|Cb Ad)<|Ae (B3 aA rfl (Ck rfl aj<|Aa (vv 1) Ad) (Ak (i:=4) Ml.nd rfl oH)<|Ae (Aq (i:=9) Ml.nd rfl oH<|A9 Ce (A9 Ce (Cf (vv 5) Dc<|Cs<|vv 6)<|Au A8 (vv 2)<|A9 G8 (A9 Ce (vv 7)<|A9 G9 Ag<|vv 4) Ag)<|Cf (vv 5) (Cs<|vv 6) Dc)<|Ai<|Ch<|Ff bV bW Dl (vv 8)<|Aa (A9 Ce (vv 9)<|A9 G9 Ca<|Bv EO rfl fm PyProof.Rows.boot_int<|Aa (E8 (HH hr) (vv 9) (vv 3)<|by with_unfolding_all rfl) Ad) Ad)<|Ai<|Aw<|vv 8),?_⟩
 rintro xs S R _ ⟨a,l,many,rfl,hm,hP,q⟩;refine PU<|Az (λk b=>k=[oD a,oE many,some<|Dq "abcdefghijklmnopqrstuvwxyz",oF<|.tuple<|Gp.map PyData.str,none,none,none,none,none,none]/\S=b) (λZ J=>J _ _ ⟨rfl,rfl⟩) ?_;rintro k _ ⟨rfl,rfl⟩;refine Az (λk b=>∃r:Str,k=[oD a,oE many,some<|Dq "abcdefghijklmnopqrstuvwxyz",oF<|.tuple<|Gp.map PyData.str,none,some<|Dq r,none,none,none,none]/\lets r/\r.length<=4/\Pot b a l/\Bn a l S b) (λZ J=>?_) ?_;refine⟨trivial,a,l,5,rfl,hP,by decide,by decide,λc μ1 hc P1 S1=>⟨by omega,by omega,λpl C=>?_⟩⟩;have G:=P1.ne C;have ak:(Ee 0 (c:Int).toNat).length=c:=by rw[Bp];omega
 refine Dn (λj L k b=>∃(o:oB AV) (p:oA Str),k=[o,some<|Dq "abcdefghijklmnopqrstuvwxyz",oD a]/\L=p.map Dq/\p.length=j/\(∀z∈p,lets z/\z.length=1)/\b pl=oG L/\Pot b a l/\Bn a l μ1 b) ⟨none,[],rfl,rfl,rfl,(λ_ z=>nomatch z),Ac,P1.new C,Bn.refl.new C⟩ (λ_ _ _ _ _=>trivial) ?_ ?_;rintro j x L k T Z2 hx ⟨o,p,rfl,rfl,B,hb,e2,Q,O⟩ hZ2;refine J4 rfl ⟨a,l,26,rfl,Q,by decide,by decide,λv μ3 hv V M=>?_⟩;have e3:=M pl _ G.1.symm G.2.symm e2;obtain⟨I,ec,fu⟩:=Ye hv;have hj:j<c:=by rw[<- ak];exact(D_.mp hx).1
 refine⟨Yf,Ab ec ⟨e3,A0<|by rw[B_];omega,hZ2 _ _ _ ⟨_,p++[⟨#[I]⟩],rfl,by rw[M_];rfl,by rw[P_,B];rfl,λz hz=>?_,Ac,V.other G.1 G.2,(O.trans M).put C⟩⟩⟩;rcases Q_.mp hz with h|h;exact hb z h;rw[I_.mp h];exact⟨Of fu,rfl⟩;rintro L k T ⟨o,p,rfl,rfl,B,hb,e2,Q,O⟩;rw[ak]at B;have tu:=Og λz hz=>(hb z hz).2;refine Ab e2<|Ab (Oe p) ⟨?_,J _ _ ⟨Txt.join "" p,rfl,Tt λz hz=>(hb z hz).1,?_,Q,S1.trans O⟩⟩;rw[tu,Yg];omega;rw[Ug,tu];omega;rintro k μ1 ⟨r,rfl,lc,hc4,P1,S1⟩;have fq:r.length<=sizeLine:=G_ hc4 (by decide);refine Az (λk b=>∃g:Nat,k=[oD a,oE many,some<|Dq "abcdefghijklmnopqrstuvwxyz",oF<|.tuple<|Gp.map PyData.str,none,some<|Dq r,oE g,none,none,none]/\g<=r.length/\Pot b a l/\Bn a l S b) (λZ J=>?_) ?_;exact⟨fq,a,l,r.length+1,rfl,P1,by omega,by omega,λv T hv Q O=>J _ _ ⟨v,rfl,by omega,Q,S1.trans O⟩⟩;rintro k T ⟨g,rfl,l8,Q,O⟩;refine Az (λk b=>∃tn:Nat,k=[oD a,oE many,some<|Dq "abcdefghijklmnopqrstuvwxyz",oF<|.tuple<|Gp.map PyData.str,none,some<|Dq r,oE g,oE tn,none,none]/\Pot b a l/\Bn a l S b) (λZ J=>?_) ?_;exact⟨a,l,26,rfl,Q,by decide,by decide,λv μ3 hv V M=>J _ _ ⟨v,rfl,V,O.trans M⟩⟩;rintro k μ3 ⟨tn,rfl,V,M⟩;intro u cz;have G:=V.ne cz;have lh:S u=none:=M.none G.1 G.2 cz;refine Az (λk b=>∃U X p,k=[oD a,oE many,some<|Dq "abcdefghijklmnopqrstuvwxyz",oF<|.tuple<|Gp.map PyData.str,U,some<|Dq r,oE g,oE tn,oD u,X]/\p.length=many/\Nms p/\b u=oG (p.map Dq)/\Pot b a l/\Bn a l S b) (λZ J=>?_) ?_
 ·refine⟨by omega,by omega,?_⟩;have ak:(Ee 0 (many:Int).toNat).length=many:=by rw[Bp];omega
  refine Ci (λi k b=>∃U X p,k=[oD a,oE many,some<|Dq "abcdefghijklmnopqrstuvwxyz",oF<|.tuple<|Gp.map PyData.str,U,some<|Dq r,oE g,oE tn,oD u,X]/\p.length=i/\Nms p/\KW r g tn i p/\b u=oG (p.map Dq)/\Pot b a l/\Bn a l S b) ⟨none,none,[],rfl,rfl,⟨(λ_ z=>nomatch z),(λ_ z=>nomatch z),bJ⟩,(λ_ z=>nomatch z),Ac,V.new cz,M.new cz⟩ (λ_ _ _ _=>trivial) ?_ ?_
  ·rintro i y k t Z2 hy ⟨U,X,p,rfl,B,hz,hD,W,Y,S4⟩ hZ2;have hi:i<many:=by rw[<- ak];exact(D_.mp hy).1
   have ey:=Fp _ _ _ hy;subst ey;obtain⟨v,ev,hv⟩:=X8 (many:=26) (v:=((tn:Int)+7*(0+(i:Int)))%26) (iB _<|by decide) (jV _<|by decide);obtain⟨I,ec,fu⟩:=Ye hv;have hcv:I=97+v:=by have:=Aj<|JE ⟨v,hv⟩;exact(aR<|ec.symm.trans this)
   rw[<- ev]at ec;have ql:Txt.slice r none (some (g:Int))++(⟨#[I]⟩:Str)++Txt.slice r (some (g:Int)) none=Uz r g tn i:=by unfold Uz;rw[ev,dY,hcv]
   have ls1:=CM lc l8;have ls2:=Uh lc l8;have ln1:=JC l8;have ln2:=Yh l8;generalize bx:Txt.slice r none (some (g:Int))=s1 at ls1 ln1 ql;generalize eh:Txt.slice r (some (g:Int)) none=s2 at ls2 ln2 ql;have l1:(s1++(⟨#[I]⟩:Str)).length=s1.length+1:=by rw[Fd];rfl
   have l2:(s1++(⟨#[I]⟩:Str)++s2).length=s1.length+1+s2.length:=by rw[Fd,l1]
   have yf:lets (s1++(⟨#[I]⟩:Str)++s2):=Fv (Fv ls1<|Of fu) ls2;refine Az (λk b=>k=[oD a,oE many,some<|Dq "abcdefghijklmnopqrstuvwxyz",oF<|.tuple<|Gp.map PyData.str,oE<|0+(i:Int),some<|Dq r,oE g,oE tn,oD u,some<|Dq<|s1++(⟨#[I]⟩:Str)++s2]/\t=b) (λZ3 b9=>?_) ?_;subst bx eh;refine⟨fq,.inl<|by decide,(show(0:Int)<26 by decide),Yf,Ab ec ⟨?_,fq,?_,b9 _ _ ⟨rfl,rfl⟩⟩⟩;show _+1<=sizeLine;exact G_ (show _<=10 by omega) (by decide);rw[l1];exact G_ (show _<=10 by omega) (by decide);rintro k _ ⟨rfl,rfl⟩;generalize (s1++(⟨#[I]⟩:Str)++s2)=nm at l2 yf ql;refine⟨Ab W trivial,Ab rfl ⟨Uf yf,Ui,?_⟩⟩;have az:∀z:Str,lets z->z.length<=1->(z = "q" \/ z=Str.empty)->nm.length+z.length<=sizeLine/\opt (t u) λm=>match m with
     |.lst ys=>ys.length<sizeLine/\Z2 [oD a,oE many,some<|Dq "abcdefghijklmnopqrstuvwxyz",oF<|.tuple<|Gp.map PyData.str,oE<|0+(i:Int),some<|Dq r,oE g,oE tn,oD u,some<|Dq nm] (Ao t u<|.lst<|ys++[Dq<|nm++z])
     |_=>False:=λz lz m7 zt=>by
    refine⟨G_ (show _<=10 by omega)<|by decide,Ab W ⟨A0<|by rw[B_];omega,hZ2 _ _ ⟨_,_,p++[nm++z],rfl,by rw[P_,B];rfl,⟨λx hx=>?_,λx hx=>?_,Js hz.d<|by rw[ql];exact hD.new l8 (by omega) zt⟩,by rw[ql];exact hD.step zt,by rw[Ac,M_];rfl,Y.other G.1 G.2,S4.put lh⟩⟩⟩;rcases Q_.mp hx with h|h;exact hz.l x h;rw[I_.mp h];exact Fv yf lz;rcases Q_.mp hx with h|h;exact hz.n x h;rw[I_.mp h,Fd];omega
   cases hb:(Gp.map PyData.str).any λe=>PyData.eqv e (.str nm) with
   |true=>exact⟨.inr rfl,az "q" JD (by decide +kernel)<|.inl rfl⟩
   |false=>exact⟨.inl rfl,az Str.empty (λc h=>by simp[Str.empty]at h) (by decide +kernel)<|.inr rfl⟩
  rintro k t ⟨U,X,p,rfl,B,hz,_,W,Y,S4⟩;rw[ak]at B;exact J _ _ ⟨_,_,p,rfl,B,hz,W,Y,S4⟩
 rintro k t ⟨U,X,p,rfl,B,hz,W,Y,S4⟩;exact⟨_,Sub.refl,q p u _ B hz lh W Y S4⟩
structure Rul where
 p:Nat
 x:Nat
 q:Nat
 w:oA Nat
deriving DecidableEq
def C9(r:Rul):lA:=.tuple [.int r.p,.int r.x,.int r.q,A3 r.w]
def D1(r:Rul):AV:=.D<|C9 r
structure RulOk(pl le:Nat)(r:Rul):Prop where
 p:r.p<pl
 x:r.x<le
 q:r.q<pl
 w:∀z∈r.w,z<le
 n:r.w.length<=2
theorem Oh:∀(ns:oA Nat),PyData.depthAll (ns.map λ(n:Nat)=>.int n)<=0
 |[]=>F_ _
 |n::ns=>by have:=Oh ns;simp only[List.map_cons,PyData.depthAll,PyData.depth];omega
def Mm(r:Rul):(C9 r).canLay0=true/\(C9 r).depth<=2/\Cano (C9 r)=true:=by have h1:=Fc (ns:=r.w);have h2:=Ga r.w;refine⟨?_,?_,?_⟩;simp only[C9,A3,PyData.canLay0,PyData.canLayAll0,h1.1,Bool.and_true];have:=h1.2;simp only[C9,A3,PyData.depth,PyData.depthAll];have e:PyData.depthAll (r.w.map λ(n:Nat)=>.int n)<=0:=Oh r.w;omega;simp only[C9,A3,Cano,Bg,h2,Bool.and_true,Bool.true_and]
theorem Mn:∀(B:oA Rul),PyData.canLayAll0 (B.map C9)=true/\PyData.depthAll (B.map C9)<=2/\Bg (B.map C9)=true
 |[]=>⟨rfl,by simp[PyData.depthAll],rfl⟩
 |a::B=>by obtain⟨h1,h2,d⟩:=Mm a;obtain⟨b,e,c⟩:=Mn B;simp only[List.map_cons,PyData.canLayAll0,PyData.depthAll,Bg,h1,d,b,c,Bool.and_self,true_and,and_true];omega
def Yi(a:Rul):Cp (C9 a):=⟨(Mm a).1,G_ (Mm a).2.1 (by decide)⟩
def Uj(B:oA Rul):Cp (.tuple<|B.map C9):=⟨by simp only[PyData.canLay0];exact(Mn B).1,by have:=(Mn B).2.1;simp only[PyData.depth];omega⟩
def Oi(B:oA Rul):dats (B.map D1)=some (B.map C9):=by rw[show(B.map D1)=(B.map C9).map .D by rw[aF];rfl];exact Bx _
def pushes(B:oA Rul):Nat:=(B.filter λr=>decide (r.w.length=2)).length
def eights:∀v:Fin 8,∃w,([0,0,1,1,1,2,2,2]:oA Nat)[v.val]?=some w/\w<=2:=by decide +kernel
abbrev YZ:oA Str:=["_law_deal_here","_law_sizes","_law_found","_law_places","_law_letters","_law_most","_law_word","_law_p","_law_x","_law_q"]
def Qu:FnScope YZ qK (Ah PK):=Bi<|by decide +kernel
def PZ:(["_law_rule_here"]:oA Str).Nodup:=by decide +kernel
def QA:(yB:oA Str).Nodup:=by decide +kernel
def Yj(b c a:Nat):lA:=.tuple [.int b,.int c,.int a]
def QB:ASp:=λi e R=>∃(a l:lB) (h:AV) (c d g:Nat) (B:oA Rul),i=[.R a,.D<|Yj c d g,h]/\0<c/\c<=5/\0<d/\d<=5/\B.length<=20/\Pot e a l/\(∀ b,Bn a l e b->items b h=some (B.map D1))/\∀(r:Rul) b,RulOk c d r->(r.w.length=2->pushes B<g)->Pot b a l->Bn a l e b->R (D1 r) b
def QC{n:Nat}(F:Fun K "_law_rule" "_law_rule" PK f fd) (V:VCal P w K mg base n "_law_draw" oK Mk) (ag:mg "len" = none) (ai:mg "tuple" = none) (aj:mg "range" = none):FnOk P w K mg base Cm (n+1) f fd qK (Dj K 3 QB):=by
 refine F.vok Qu λav A outer s H E L=>⟨_,(Ae (V7 (vv 1)<|Di (n:=3) rfl<|Av (Ak (i:=3) Qu.nd rfl oH)<|Av (Ak (i:=4) Qu.nd rfl oI)<|Av (Ak (i:=5) Qu.nd rfl oH) B2)<|Ae (Aq (i:=6) Qu.nd rfl oH<|Au A8 (Cb<|Aa Ag<|Aa Ag<|Aa Ag<|Aa Ag<|Aa Ag<|Aa Ag<|Aa Ag<|Aa Ag Ad)<|Al V L rfl<|Aa (vv 0)<|Aa Ag Ad)<|Ae (B9 (VW.pt<|Eb (A7 (D9 L) (vv 6) Ag<|nomark _)<|D3<|A7 HK (Ay Cy rfl ag aX<|Aa (Bq (N':=["_law_rule_here"]) (mp:=[none]) rfl (Be<|vv 2) (λ_ _ _ _=>(Ak (i:=0) PZ rfl oH oI)) (λ_ _ _ _=>(Dm<|A7 (D9 L) (Ay Cy rfl ag aX<|Aa (Au A8 (vv 0) Ag) Ad) Ag<|nomark _)) (λ_ _ _ _=>(vv 0))<|Ax (N:=YZ) (pn:=(Ah PK).names)<|by decide +kernel) Ad) (vv 5)<|nomark _) (Ai<|Aq (i:=6) Qu.nd rfl oH Ag) Bh)<|Ae (BH (i:=7) (j:=8) (l:=9) rfl Qu.nd rfl rfl rfl (by decide) (by decide) (by decide) rfl rfl rfl (Aa (Al V L rfl<|Aa (vv 0)<|Aa (vv 3) Ad)<|Aa (Al V L rfl<|Aa (vv 0)<|Aa (vv 4) Ad)<|Aa (Al V L rfl<|Aa (vv 0)<|Aa (vv 3) Ad) Ad) rfl)<|Ai<|Aw<|Bc<|Aa (vv 7)<|Aa (vv 8)<|Aa (vv 9)<|Aa (Bv Dd rfl ai bF<|Aa (Bq (N':=yB) (mp:=[none,some 0,some 4]) rfl (Ck rfl aj<|Aa (vv 6) Ad) (λ_ _ _ _=>(Ak (i:=0) QA rfl oH oI)) (λ_ _ _ _=>Bm) (λ_ _ _ _=>(Al V L rfl<|Aa (vv 1)<|Aa (vv 2) Ad))<|Ax (N:=YZ) (pn:=(Ah PK).names)<|by decide +kernel) Ad) Ad),?_⟩
 rintro xs μ R _ ⟨a,l,xf,u,k,I,B,rfl,oh,hp5,fb,jw,hB,hP,T,q⟩;refine Az (λe b=>e=[oD a,oF<|Yj u k I,some xf,oE u,oE k,oE I,none,none,none,none]/\μ=b) (λZ J=>⟨rfl,J _ _ ⟨rfl,rfl⟩⟩) ?_;rintro e _ ⟨rfl,rfl⟩;refine Az (λe b=>∃G:Nat,e=[oD a,oF<|Yj u k I,some xf,oE u,oE k,oE I,oE G,none,none,none]/\G<=2/\Pot b a l/\Bn a l μ b) (λZ J=>?_) ?_;intro p8 km;have d:=hP.ne km;refine⟨a,l,8,rfl,hP.new km,by decide,by decide,λv μ1 hv M C=>?_⟩;obtain⟨G,ew,hw⟩:=eights ⟨v,hv⟩;have e8:=C p8 _ d.1.symm d.2.symm Ac;refine Ab e8 (Ab (Aj (j:=v) (xs:=[0,0,1,1,1,2,2,2].map B0)<|by rw[L_,ew];rfl)<|J _ _ ⟨G,rfl,hw,M,(Bn.refl.new km).trans C⟩);rintro e μ1 ⟨G,rfl,xj,M,C⟩;refine Az (λe b=>∃G:Nat,e=[oD a,oF<|Yj u k I,some xf,oE u,oE k,oE I,oE G,none,none,none]/\G<=2/\(G=2->pushes B<I)/\Pot b a l/\Bn a l μ b) (λZ J=>?_) ?_;refine ieq (λc=>?_) (λc=>J5 rfl<|J _ _ ⟨G,rfl,xj,λz=>absurd (by rw[z];rfl) c,M,C⟩);refine Ab (T _ C) λpc g=>?_;have d:=M.ne g;refine cmapf B D1 (λr=>decide (r.w.length=2)) D1 (λe=>∃o,e=[o]) ⟨none,rfl⟩ Ac (seven<|by omega) (λm=>?_) ?_ ?_;exact T _<|(C.new g).put<|C.none d.1 d.2 g;rintro i r τ' m W W2 hi ⟨o,rfl⟩ h1 h2;refine Ab (Aj (j:=3) rfl) (ieq (λc1=>h1 (aQ<|by rw[B_]at c1;omega) _ ⟨_,rfl⟩) λc1=>h2 (aH λz=>c1<|by rw[B_,z];rfl) _ ⟨_,rfl⟩);refine Ab Ac<|dif (λ_=>?_) λc3=>?_;exact J _ _ ⟨1,rfl,by decide,(λz=>nomatch z),(M.new g).other d.1 d.2,(C.new g).put<|C.none d.1 d.2 g⟩;exact J _ _ ⟨G,rfl,xj,λ_=>by rw[B_]at c3;unfold pushes;omega,(M.new g).other d.1 d.2,(C.new g).put<|C.none d.1 d.2 g⟩;rintro e μ2 ⟨Y,rfl,hwd2,hpu,P2,S2⟩;refine Az (λe b=>∃p x t:Nat,e=[oD a,oF<|Yj u k I,some xf,oE u,oE k,oE I,oE Y,oE p,oE x,oE t]/\p<u/\x<k/\t<u/\Pot b a l/\Bn a l μ b) (λZ J=>?_) ?_;exact⟨a,l,u,rfl,P2,oh,by omega,λp U hp P3 S3=>⟨a,l,k,rfl,P3,fb,by omega,λx O hx Q S=>⟨a,l,u,rfl,Q,oh,by omega,λt μ5 ht P5 X=>J _ _ ⟨p,x,t,rfl,hp,hx,ht,P5,((S2.trans S3).trans S).trans X⟩⟩⟩⟩;rintro e U ⟨p,x,t,rfl,hp,hx,ht,P3,S3⟩;refine⟨by omega,by omega,λpc g=>?_⟩;have d:=P3.ne g;have ak:(Ee 0 (Y:Int).toNat).length=Y:=by rw[Bp];omega
 refine Dn (λj m e b=>∃(o:oB AV) (ns:oA Nat),e=[o,oD a,oE k]/\m=ns.map B0/\ns.length=j/\(∀n∈ns,n<k)/\b pc=oG m/\Pot b a l/\Bn a l U b) ⟨none,[],rfl,rfl,rfl,(λ_ z=>nomatch z),Ac,P3.new g,Bn.refl.new g⟩ (λ_ _ _ _ _=>trivial) ?_ ?_;rintro j y m e O Z2 hy ⟨o,ns,rfl,rfl,hn,hb,e4,Q,S⟩ hZ2;have hj:j<Y:=by rw[<- ak];exact(D_.mp hy).1
 refine J4 rfl ⟨a,l,k,rfl,Q,fb,by omega,λv μ5 hv P5 X=>?_⟩;have e5:=X pc _ d.1.symm d.2.symm e4;refine⟨e5,A0<|by rw[B_];omega,hZ2 _ _ _ ⟨_,ns++[v],rfl,by rw[M_];rfl,by rw[P_,hn];rfl,λn qq=>?_,Ac,P5.other d.1 d.2,(S.trans X).put g⟩⟩;rcases Q_.mp qq with h|h;exact hb n h;rw[I_.mp h];exact hv;rintro m e O ⟨o,ns,rfl,rfl,hn,hb,e4,Q,S⟩;rw[ak]at hn;exact Ab (Am e4)<|Ab (E3 ns) ⟨_,Sub.refl,q ⟨p,x,t,ns⟩ _ ⟨hp,hx,ht,hb,(show ns.length<=2 by omega)⟩ (λz=>hpu (by have z:ns.length=2:=z;omega)) Q<|S3.trans S⟩
abbrev ZX:oA Str:=["_law_deal_here","_law_hands","_law_letters","_law_many","_law_most","_law_found","_law_k","_law_rule_here","_law_there"]
def Yk:FnScope ZX qL (Ah UR):=Bi<|by decide +kernel
def QD:(["_law_one","_law_rule_here"]:oA Str).Nodup:=by decide +kernel
def Oj(E:oA Rul)(v:Rul):Nat:=(E.filter λr=>decide (r.p=v.p/\r.x=v.x)).length
def ZY(r v:Rul):PyData.eqv (A3 [r.p,r.x]) (A3 [v.p,v.x])=decide (r.p=v.p/\r.x=v.x):=by show(decide ((r.p:Int)=v.p)&&(decide ((r.x:Int)=v.x)&&true))=_;rw[Bool.and_true,<- Bool.decide_and];exact jH.mpr ⟨λh=>⟨by omega,by omega⟩,λh=>⟨by omega,by omega⟩⟩
structure RsOk(hs:oA Nat)(mo:Nat)(B:oA Rul):Prop where
 nd:B.Nodup
 ps:pushes B<=mo
 an:∀i r,B[i]?=some r->hs.getD r.p 0≠0->Oj (B.take i) r<2
def RsOk.nil{a:oA Nat}{b:Nat}:RsOk a b []:=⟨bJ,aN _,λi r h=>by simp at h⟩
def RsOk.snoc{b:oA Nat}{a:Nat}{B:oA Rul}{v:Rul}(h:RsOk b a B)(h1:v∉B)(h2:v.w.length=2->pushes B<a)(g:b.getD v.p 0≠0->Oj B v<2):RsOk b a (B++[v]):=by
 refine⟨Js h.nd h1,?_,λi r e d=>?_⟩;unfold pushes;rw[gE,P_];by_cases c:v.w.length=2;have:=h2 c;unfold pushes at this;rw[List.filter_cons_of_pos<|by simpa using c];show _+1<=a;omega;rw[List.filter_cons_of_neg<|by simpa using c];exact h.ps;rcases fN i B.length with hi|hi;rw[cW hi]at e;rw[List.take_append_of_le_length<|by omega];exact h.an i r e d;have:i=B.length:=by have:=(D_.mp e).1;rw[P_]at this;simp at this;omega
 subst this;rw[cU<|F_ _]at e;simp at e;subst e;rw[List.take_left];exact g d
def QE:ASp:=λh e R=>∃(a l d:lB) (b:oA Nat) (c many g:Nat),h=[.R a,.R d,.D<|.int c,.D<|.int many,.D<|.int g]/\0<b.length/\b.length<=5/\0<c/\c<=5/\many<=20/\Pot e a l/\d≠a/\d≠l/\e d=oG (b.map B0)/\∀(B:oA Rul) μ',(∀r∈B,RulOk b.length c r)->B.length<=many->(many=0\/0<B.length)->RsOk b g B->Pot μ' a l->Bn a l e μ'->R (.D<|.tuple<|B.map C9) μ'
def Yl{B:oA Rul}{a:Rul}(h:((B.map C9).any λe=>PyData.eqv e<|C9 a)=false):C9 a∉B.map C9:=λb=>by have:((B.map C9).any λe=>PyData.eqv e<|C9 a)=true:=aZ.mpr ⟨_,b,Fr (C9 a) (Mm a).2.2⟩;rw[this]at h;cases h
def QF{n:Nat}(F:Fun K "_law_rules" "_law_rules" UR f fd) (cRu:VCal P w K mg base n "_law_rule" qK QB) (aj:mg "range" = none) (ag:mg "len" = none) (ai:mg "tuple" = none):FnOk P w K mg base Cm (n+1) f fd qL (Dj K 5 QE):=by
 refine F.vok Yk λav A outer s H E hr=>⟨_,(Ae (Aq (i:=5) Yk.nd rfl oH<|Cb Ad)<|Ae (B3 aA rfl (Ck rfl aj<|Aa (vv 3) Ad) (Ak (i:=6) Yk.nd rfl oH)<|Ae (Aq (i:=7) Yk.nd rfl oI<|Al cRu hr rfl<|Aa (vv 0)<|Aa (Bc<|Aa (Ay Cy rfl ag aX<|Aa (vv 1) Ad)<|Aa (vv 2)<|Aa (vv 4) Ad)<|Aa (vv 5) Ad)<|Ae (Aq (i:=8) Yk.nd rfl oH<|Ay Cy rfl ag aX<|Aa (Bq (N':=["_law_one","_law_rule_here"]) (mp:=[none,some 7]) rfl (Be<|vv 5) (λ_ _ _ _=>(Ak (i:=0) QD rfl oH oI)) (λ_ _ _ _=>(Dm<|A7 (D9 hr) (Cf (vv 0) Dc<|Cs Ag) (Cf (vv 1) Dc<|Cs Ag)<|nomark _)) (λ_ _ _ _=>(vv 0))<|Ax (N:=ZX) (pn:=(Ah UR).names)<|by decide +kernel) Ad)<|Ai<|B9 (VW.pt<|Eb (A7 (L0 hr) (vv 7) (vv 5)<|by with_unfolding_all rfl)<|D3<|VW.pt<|V0 (A7 (D9 hr) (Au A8 (vv 1)<|Au A8 (vv 7) Ag) Ag<|nomark _)<|Pm<|A7 HJ (vv 8) Ag<|nomark _) (Ai<|Ch<|Ff bV bW Dl (vv 5)<|Aa (vv 7) Ad) Bh)<|Ai<|Aw<|Bv Dd rfl ai bF<|Aa (vv 5) Ad),?_⟩
 rintro xs μ R _ ⟨a,l,k,g,m,many,t,rfl,hh0,hh5,fb,jw,hm,hP,na,nl,eH,q⟩;intro d T;have J:=hP.ne T;have hph:k≠d:=by rintro rfl;rw[eH]at T;cases T
 refine Az (λe b=>∃V M I,∃B:oA Rul,e=[oD a,oD k,oE m,oE many,oE t,oD d,V,M,I]/\b d=oG (B.map D1)/\B.length<=many/\(many=0\/0<B.length)/\(∀r∈B,RulOk g.length m r)/\RsOk g t B/\Pot b a l/\Bn a l μ b) (λZ hZ=>?_) ?_;refine⟨by omega,by omega,?_⟩;have ak:(Ee 0 (many:Int).toNat).length=many:=by rw[Bp];omega
 refine Ci (λi e b=>∃V M I,∃B:oA Rul,e=[oD a,oD k,oE m,oE many,oE t,oD d,V,M,I]/\b d=oG (B.map D1)/\b k=oG (g.map B0)/\B.length<=i/\(i=0\/0<B.length)/\(∀r∈B,RulOk g.length m r)/\RsOk g t B/\Pot b a l/\Bn a l μ b) ⟨none,none,none,[],rfl,Ac,by rw[Af hph];exact eH,F_ _,.inl rfl,(λ_ z=>nomatch z),RsOk.nil,hP.new T,Bn.refl.new T⟩ (λ_ _ _ _=>trivial) ?_ ?_;rintro i y e μ3 Z2 hy ⟨V,M,I,B,rfl,Q,h3,hB,Y,U,O,P3,X⟩ hZ2;have hi:i<many:=by rw[<- ak];exact(D_.mp hy).1
 refine Az (λe b=>∃v:Rul,e=[oD a,oD k,oE m,oE many,oE t,oD d,some y,some<|D1 v,I]/\RulOk g.length m v/\(v.w.length=2->pushes B<t)/\b d=oG (B.map D1)/\b k=oG (g.map B0)/\Pot b a l/\Bn a l μ b) (λZ3 b9=>?_) ?_;refine Ab h3 ⟨a,l,.R d,g.length,m,t,B,by rw[B_];rfl,hh0,hh5,fb,jw,by omega,P3,λb S=>Am<|S d _ J.1.symm J.2.symm Q,λv μ4 hv gp P4 L=>b9 _ _ ⟨v,rfl,hv,gp,L d _ J.1.symm J.2.symm Q,L k _ na nl h3,P4,X.trans L⟩⟩;rintro e μ4 ⟨v,rfl,hv,gp,e4,h4,P4,L⟩;refine Az (λe b=>∃G:Nat,e=[oD a,oD k,oE m,oE many,oE t,oD d,some y,some<|D1 v,oE G]/\G=Oj B v/\b d=oG (B.map D1)/\b k=oG (g.map B0)/\Pot b a l/\Bn a l μ b) (λZ3 b9=>?_) ?_;refine Ab (Am e4) λpc C=>?_;have mi:=P4.ne C;have on:d≠pc:=by rintro rfl;rw[e4]at C;cases C
 have fu:k≠pc:=by rintro rfl;rw[h4]at C;cases C
 refine cmapf B D1 (λr=>decide (r.p=v.p/\r.x=v.x)) D1 (λe=>∃o,e=[o,some<|D1 v]) ⟨none,rfl⟩ Ac (seven<|by omega) (λacc=>Am<|by rw[Af on,Af on];exact e4) ?_ ?_;rintro j r τ' acc W W2 hj ⟨o,rfl⟩ h1 h2;exact⟨Lg (ns:=[r.p,r.x]),Lg (ns:=[v.p,v.x]),br (λc=>h1 ((ZY r v).symm.trans c) _ ⟨_,rfl⟩) λc=>h2 ((ZY r v).symm.trans c) _ ⟨_,rfl⟩⟩;refine Ab Ac (b9 _ _ ⟨_,rfl,by rw[B_];rfl,by rw[Af on,Af on];exact e4,by rw[Af fu,Af fu];exact h4,(P4.new C).other mi.1 mi.2,(L.new C).put<|L.none mi.1 mi.2 C⟩);rintro e u ⟨G,rfl,hth,e5,h5,P5,S5⟩;have yes:v∉B->(g.getD v.p 0≠0->Oj B v<2)->Z2 [oD a,oD k,oE m,oE many,oE t,oD d,some y,some<|D1 v,oE G] (Ao u d<|.lst<|B.map D1++[D1 v]):=λn1 n2=>by refine hZ2 _ _ ⟨_,_,_,B++[v],rfl,by rw[Ac,M_];rfl,by rw[Af hph];exact h5,by rw[P_];show B.length+1<=_;omega,.inr<|by simp,λr io=>?_,O.snoc n1 gp n2,P5.other J.1 J.2,S5.put T⟩;rcases Q_.mp io with h|h;exact U r h;rw[I_.mp h];exact hv
 have no:0<B.length->Z2 [oD a,oD k,oE m,oE many,oE t,oD d,some y,some<|D1 v,oE G] u:=λh0=>
  hZ2 _ _ ⟨_,_,_,B,rfl,e5,h5,by omega,.inr h0,U,O,P5,S5⟩
 have put:v∉B->(g.getD v.p 0≠0->Oj B v<2)->K6 u (.R d)/\L4 (.R d) [D1 v] u λ_ μ1=>Z2 [oD a,oD k,oE m,oE many,oE t,oD d,some y,some<|D1 v,oE G] μ1:=λn1 n2=>⟨Ab e5 trivial,Ab e5 ⟨A0<|by rw[B_];omega,yes n1 n2⟩⟩;have hgt:(g.map B0)[v.p]?=some (B0<|g.getD v.p 0):=by rw[L_,J_ hv.p];simp[hv.p]
 refine Ab rfl<|Ab (Am e5)<|Ab (Oi B) ⟨Yi v,Uj B,br (λc1=>?_) λc1=>?_⟩;have nv:v∉B:=λhm=>by rw[jZ]at c1;exact Yl c1<|E_.mpr ⟨v,hm,rfl⟩
 refine Ab (Aj (j:=0) rfl) (Ab h5<|Ab (Aj hgt)<|ieq (λc2=>J4 rfl<|put nv λz=>absurd (by omega) z) λc2=>dif (λc3=>put nv λ_=>by omega) λc3=>no ?_);rcases Nat.eq_zero_or_pos B.length with h0|h0;exact absurd (show(G:Int)<2 by rw[hth,cD h0];show(0:Int)<2;decide) c3;exact h0;refine J5 rfl<|no ?_;rcases Nat.eq_zero_or_pos B.length with h0|h0;rw[cD h0]at c1;cases c1;exact h0;rintro e μ3 ⟨V,M,I,B,rfl,Q,h3,hB,Y,U,O,P3,X⟩;rw[ak]at hB Y;exact hZ _ _ ⟨_,_,_,B,rfl,Q,hB,Y,U,O,P3,X⟩;rintro e μ3 ⟨V,M,I,B,rfl,Q,hB,Y,U,O,P3,X⟩;exact Ab (Am Q)<|Ab (Oi B) ⟨_,Sub.refl,q B _ U hB Y O P3 X⟩
abbrev ZZ:oA Str:=["_law_deal_here","_law_sizes","_law_hand","_law_hands","_law_letters","_law_rules_here"]
def CO:FnScope ZZ qB (Ah US):=Bi<|by decide +kernel
def QG:(yC:oA Str).Nodup:=by decide +kernel
structure Gam where
 pl:oA (Str×Nat)
 le:oA Str
 rs:oA Rul
def Ym(p:Str×Nat):lA:=.tuple [.str p.1,.int p.2]
def Bt(g:Gam):lA:=.tuple [.tuple<|g.pl.map Ym,.tuple<|g.le.map PyData.str,.tuple<|g.rs.map C9]
structure GamOk(g:Gam)(np nl nr:Nat)(mo:Nat):Prop where
 p0:0<g.pl.length
 p1:g.pl.length<=np
 l0:0<g.le.length
 l1:g.le.length<=nl
 r0:0<g.rs.length
 r1:g.rs.length<=nr
 hd:∀p∈g.pl,p.2<2
 pn:Nms (g.pl.map (·.1))
 ln:Nms g.le
 ru:∀r∈g.rs,RulOk g.pl.length g.le.length r
 ro:RsOk (g.pl.map (·.2)) mo g.rs
def JF:ASp:=λh e R=>∃(a l:lB) (b c nr d:Nat),h=[.R a,.D<|.tuple [.int b,.int c,.int nr,.int d],.D<|.int 2]/\0<b/\b<=3/\0<c/\c<=3/\0<nr/\nr<=8/\Pot e a l/\∀(g:Gam) μ',GamOk g b c nr d->Pot μ' a l->Bn a l e μ'->R (.D<|Bt g) μ'
theorem Yn:∀(ys:oA Str) (a:oA Nat),List.zipWith (λd e=>PyData.tuple [d,e]) (ys.map PyData.str) (a.map λ(n:Nat)=>PyData.int n)=(ys.zip a).map Ym
 |[],_=>rfl
 |_::_,[]=>rfl
 |y::ys,h::a=>by simp only[List.map_cons,List.zipWith_cons_cons,List.zip_cons_cons,Yn ys a];rfl
def QH{n:Nat}(F:Fun K "_law_game" "_law_game" US f fd) (ck:VCal P w K mg base n "_law_draw" oK Mk) (X:VCal P w K mg base n "_law_names" oK PX) (cRs:VCal P w K mg base n "_law_rules" qL QE) (aj:mg "range" = none) (fm:mg "int" = none) (ag:mg "len" = none) (ai:mg "tuple" = none) (jd:mg "zip" = none):FnOk P w K mg base Cm (n+1) f fd qB (Dj K 3 JF):=by
 refine F.vok CO λav A outer s H E S=>⟨_,(Ae (D7 (i:=3) (N':=yC) (mp:=[none,some 2,some 0]) rfl CO.nd rfl rfl (Ck rfl aj<|Aa (A9 Ce Ag<|Al ck S rfl<|Aa (vv 0)<|Aa (Au A8 (vv 1) Ag) Ad) Ad) (λ_ _ _ _=>(Ak (i:=0) QG rfl oH oI)) (λ_ _ _ _=>Bm) (λ_ _ _ _=>(Au A8 (Cb<|Aa (Al ck S rfl<|Aa (vv 2)<|Aa Ag Ad)<|Aa (vv 1) Ad)<|Bv EO rfl fm PyProof.Rows.boot_int<|Aa (E8 HJ (vv 1) Ag<|nomark _) Ad))<|Ax (N:=ZZ) (pn:=(Ah US).names)<|by decide +kernel)<|Ae (Aq (i:=4) CO.nd rfl oH<|Al X S rfl<|Aa (vv 0)<|Aa (A9 Ce Ag<|Al ck S rfl<|Aa (vv 0)<|Aa (Au A8 (vv 1) Ag) Ad) Ad)<|Ae (Aq (i:=5) CO.nd rfl oH<|Al cRs S rfl<|Aa (vv 0)<|Aa (vv 3)<|Aa (Ay Cy rfl ag aX<|Aa (vv 4) Ad)<|Aa (A9 Ce Ag<|Al ck S rfl<|Aa (vv 0)<|Aa (Au A8 (vv 1) Ag) Ad)<|Aa (Au A8 (vv 1) Ag) Ad)<|Ai<|Aw<|Bc<|Aa (BY rfl rfl ai rfl jd (Al X S rfl<|Aa (vv 0)<|Aa (Ay Cy rfl ag aX<|Aa (vv 3) Ad) Ad)<|vv 3)<|Aa (Bv Dd rfl ai bF<|Aa (vv 4) Ad)<|Aa (vv 5) Ad),?_⟩
 rintro xs μ R _ ⟨a,l,W,nl,nr,V,rfl,oh,hp3,fb,m8,hr0,y0,hP,q⟩;refine Az (λu b=>∃(c:oA Nat) (e:lB),u=[oD a,oF<|.tuple [.int W,.int nl,.int nr,.int V],oE 2,oD e,none,none]/\0<c.length/\c.length<=W/\(∀h∈c,h<2)/\e≠a/\e≠l/\b e=oG (c.map B0)/\Pot b a l/\Bn a l μ b) (λZ hZ=>?_) ?_;refine Ab (Aj (j:=0) rfl) ⟨a,l,W,rfl,hP,oh,by omega,λv μ1 hv P1 S1=>⟨by omega,by omega,λpc a9=>?_⟩⟩;have x:=P1.ne a9;have ak:(Ee 0 (1+(v:Int)).toNat).length=1+v:=by rw[Bp];omega
 refine Dn (λj G u b=>∃(o:oB AV) (c:oA Nat),u=[o,oE 2,oD a]/\G=c.map B0/\c.length=j/\(∀h∈c,h<2)/\b pc=oG G/\Pot b a l/\Bn a l μ1 b) ⟨none,[],rfl,rfl,rfl,(λ_ z=>nomatch z),Ac,P1.new a9,Bn.refl.new a9⟩ (λ_ _ _ _ _=>trivial) ?_ ?_;rintro j y G u T Z2 hy ⟨o,c,rfl,rfl,hn,hb,U,L,I⟩ hZ2;have hj:j<1+v:=by rw[<- ak];exact(D_.mp hy).1
 refine J4 rfl ⟨a,l,2,rfl,L,by decide,by decide,λd C hd J m=>λp8 km=>?_⟩;have e3:=m pc _ x.1.symm x.2.symm U;have hn8:=J.ne km;have hc8:pc≠p8:=by rintro rfl;rw[e3]at km;cases km
 have e8:Ao C p8 (.lst [B0 d,.D<|.int 2]) pc=oG (c.map B0):=by rw[Af hc8];exact e3
 refine Ab Ac (Ab (Aj (j:=0) (v:=B0 d) rfl) ⟨e8,A0<|by rw[B_];omega,hZ2 _ _ _ ⟨_,c++[d],rfl,by rw[M_];rfl,by rw[P_,hn];rfl,λh hh=>?_,Ac,(J.new km).other x.1 x.2,((I.trans m).new km).put a9⟩⟩);rcases Q_.mp hh with h1|h1;exact hb h h1;rw[I_.mp h1];exact hd;rintro G u T ⟨o,c,rfl,rfl,hn,hb,U,L,I⟩;rw[ak]at hn;exact hZ _ _ ⟨c,pc,rfl,by omega,by omega,hb,x.1.symm,x.2.symm,U,L,S1.trans I⟩;rintro u μ1 ⟨c,e,rfl,hh0,hhn,hh2,Q,g,e1,P1,S1⟩;refine Az (λu b=>∃(k:oA Str) (t:lB),u=[oD a,oF<|.tuple [.int W,.int nl,.int nr,.int V],oE 2,oD e,oD t,none]/\0<k.length/\k.length<=nl/\Nms k/\t≠a/\t≠l/\b t=oG (k.map Dq)/\b e=oG (c.map B0)/\Pot b a l/\Bn a l μ b) (λZ hZ=>?_) ?_;refine Ab (Aj (j:=1) rfl) ⟨a,l,nl,rfl,P1,fb,by omega,λv T hv L I=>⟨a,l,1+v,rfl,by omega,L,λk t C hz hN hf ez J m=>?_⟩⟩;have x:=L.ne hf;exact hZ _ _ ⟨k,t,rfl,by omega,by omega,hN,x.1.symm,x.2.symm,ez,m e _ Q g<|I e _ Q g e1,J,(S1.trans I).trans m⟩;rintro u T ⟨k,t,rfl,Y,hzn,hN,za,zl,ez,U,L,I⟩;refine Az (λu b=>∃B:oA Rul,u=[oD a,oF<|.tuple [.int W,.int nl,.int nr,.int V],oE 2,oD e,oD t,oF<|.tuple<|B.map C9]/\0<B.length/\B.length<=nr/\(∀r∈B,RulOk c.length k.length r)/\RsOk c V B/\b t=oG (k.map Dq)/\b e=oG (c.map B0)/\Pot b a l/\Bn a l μ b) (λZ hZ=>?_) ?_;refine Ab ez (Ab (Aj (j:=2) rfl) ⟨a,l,nr,rfl,L,hr0,by omega,λv C hv J m=>Ab (Aj (j:=3) rfl) ⟨a,l,e,c,k.length,1+v,V,by rw[B_];rfl,hh0,by omega,Y,by omega,by omega,J,Q,g,m e _ Q g U,λB μ4 kB hB j4 kR P4 O=>?_⟩⟩);exact hZ _ _ ⟨B,rfl,by omega,by omega,kB,kR,O t _ za zl<|m t _ za zl ez,O e _ Q g<|m e _ Q g U,P4,(I.trans m).trans O⟩;rintro u C ⟨B,rfl,j4,hBn,kB,kR,ez3,e3,J,m⟩;refine Ab e3 ⟨a,l,c.length,by rw[B_],by omega,J,λM py μ4 hy hNy hf ey P4 O=>?_⟩;have e4:=O e _ Q g e3;have ez4:=O t _ za zl ez3;refine Ab ey (Ab e4<|Ab (Od M)<|Ab (E3 c) ⟨⟨by simp[hy],by simp;omega⟩,Ab (Am ez4)<|Ab (Od k) ⟨_,Sub.refl,?_⟩⟩);rw[Yn];have gj:(M.zip c).length=c.length:=by rw[List.length_zip];omega
 refine q ⟨M.zip c,k,B⟩ _ ⟨?_,?_,Y,hzn,j4,hBn,λp hp=>?_,?_,hN,?_,?_⟩ P4<|m.trans O;show 0<(M.zip c).length;omega;show(M.zip c).length<=W;omega;exact hh2 p.2 (fI hp).2;show Nms ((M.zip c).map (·.1));rw[List.map_fst_zip<|by omega];exact hNy;show ∀r∈B,RulOk (M.zip c).length k.length r;rw[gj];exact kB;show RsOk ((M.zip c).map (·.2)) V B;rw[kL<|by omega];exact kR
def KY{a:Type}(g:a->lA)(xs:oA a)(n:Nat):Kc (xs.map g) none (some (n:Int))=(xs.take n).map g:=by unfold Kc;rw[HT.sIx_none,HT.sIx_nat,f_,iT,<- List.map_take,B_];by_cases h:n<=xs.length;rw[h_ h];rw[jI<|by omega,aB,cJ<|by omega]
def Uk{a:Type}(g:a->lA)(xs:oA a)(n:Nat):Kc (xs.map g) (some (n:Int)) none=(xs.drop n).map g:=by unfold Kc;rw[HT.sIx_none,HT.sIx_nat,<- List.map_drop,B_];by_cases h:n<=xs.length;rw[h_ h,cJ<|by rw[B_,dB];exact F_ _];rw[jI<|by omega,dD,List.drop_of_length_le<|by omega];simp
def Lh{a:Type}(g:a->AV)(xs:oA a)(n:Nat):Kd (xs.map g) none (some (n:Int))=(xs.take n).map g:=by unfold Kd;rw[HT.sIx_none,HT.sIx_nat,f_,iT,<- List.map_take,B_];by_cases h:n<=xs.length;rw[h_ h];rw[jI<|by omega,aB,cJ<|by omega]
def Ul{a:Type}(g:a->AV)(xs:oA a)(n:Nat):Kd (xs.map g) (some (n:Int)) none=(xs.drop n).map g:=by unfold Kd;rw[HT.sIx_none,HT.sIx_nat,<- List.map_drop,B_];by_cases h:n<=xs.length;rw[h_ h,cJ<|by rw[B_,dB];exact F_ _];rw[jI<|by omega,dD,List.drop_of_length_le<|by omega];simp
structure Arw where
 p:Nat
 x:Nat
 ts:oA Nat
 c:oB Nat
def Yo(a:Arw):oA lA:=.int a.p::.int a.x::A3 a.ts::(match a.c with|none=>[]|some c=>[.int c])
def Br(a:Arw):lA:=.tuple<|Yo a
def Gb{b:M}(A:oA Arw):items b (.D<|.tuple<|A.map Br)=some (A.map λa=>.D<|Br a):=by show some ((A.map Br).map AV.D)=_;rw[aF];rfl
def JG{a:Arw}:atI (Yo a) 2=some (A3 a.ts):=Aj (j:=2) rfl
def Jt(a:Arw):(Br a).canLay0=true/\(Br a).depth<=3/\Cano (Br a)=true:=by
 obtain⟨p,x,ts,c⟩:=a;have h1:=Fc (ns:=ts);have h2:=Ga ts;cases c with
 |none=>simp only[Br,Yo,A3,PyData.canLay0,PyData.canLayAll0,PyData.depth,PyData.depthAll,Cano,Bg,h1.1,h2,Bool.and_true,Bool.true_and,true_and,and_true];have:=h1.2;omega
 |some c=>simp only[Br,Yo,A3,PyData.canLay0,PyData.canLayAll0,PyData.depth,PyData.depthAll,Cano,Bg,h1.1,h2,Bool.and_true,Bool.true_and,true_and,and_true];have:=h1.2;omega
def Rz{a b:Arw}(h:a.c.isSome=b.c.isSome):cmpb (Br a) (Br b)=true:=by obtain⟨p,x,ts,c⟩:=a;obtain⟨i,g,e,d⟩:=b;cases c<;>cases d<;>simp at h<;>simp only[Br,Yo,A3,cmpb,cmpbs,Oc,ite_self]
theorem Ip:∀(B:oA Arw),PyData.canLayAll0 (B.map Br)=true/\PyData.depthAll (B.map Br)<=3/\Bg (B.map Br)=true
 |[]=>⟨rfl,by simp[PyData.depthAll],rfl⟩
 |a::B=>by obtain⟨h1,h2,d⟩:=Jt a;obtain⟨b,e,c⟩:=Ip B;simp only[List.map_cons,PyData.canLayAll0,PyData.depthAll,Bg,h1,d,b,c,Bool.and_self,true_and,and_true];omega
def CP{B:oA Arw}{a:Arw}(h:((B.map Br).any λe=>PyData.eqv e<|Br a)=false):Br a∉B.map Br:=λb=>by have:((B.map Br).any λe=>PyData.eqv e<|Br a)=true:=aZ.mpr ⟨_,b,Fr (Br a) (Jt a).2.2⟩;rw[this]at h;cases h
def Ol(B:oA Arw):dats (B.map λa=>.D<|Br a)=some (B.map Br):=by rw[show(B.map λa=>AV.D<|Br a)=(B.map Br).map .D by rw[aF];rfl];exact Bx _
def Yp(a:Arw):Cp (Br a):=⟨(Jt a).1,G_ (Jt a).2.1 (by decide)⟩
def Um(B:oA Arw):Cp (.tuple<|B.map Br):=⟨by simp only[PyData.canLay0];exact(Ip B).1,by have:=(Ip B).2.1;simp only[PyData.depth];omega⟩
abbrev nSo:oA Str:=["_law_deal_here","_law_stands","_law_most","_law_found"]
def QI:FnScope nSo qM (Ah UT):=Bi<|by decide +kernel
def QJ:(yD:oA Str).Nodup:=by decide +kernel
def QK:ASp:=λg c R=>∃(a l b:lB) (d:oA Nat) (e:Nat),g=[.R a,.R b,.D<|.int e]/\d.length<=20/\b≠a/\b≠l/\c b=oG (d.map B0)/\Pot c a l/\∀(ns:oA Nat) μ',ns.Sublist d->ns.length<=e->Pot μ' a l->Bn a l c μ'->R (.D<|A3 ns) μ'
def QL{n:Nat}(F:Fun K "_law_some" "_law_some" UT f fd) (ck:VCal P w K mg base n "_law_draw" oK Mk) (ai:mg "tuple" = none):FnOk P w K mg base Cm (n+1) f fd qM (Dj K 3 QK):=by
 refine F.vok QI λav A G s H E X=>⟨_,(Ae (D7 (i:=3) (N':=yD) (mp:=[none,some 0]) rfl QI.nd rfl rfl (Be<|vv 1) (λ_ _ _ _=>(Ak (i:=0) QJ rfl oH oI)) (λ_ _ _ _=>(Dm<|A7 (D9 X) (Al ck X rfl<|Aa (vv 1)<|Aa Ag Ad) Ag<|nomark _)) (λ_ _ _ _=>(vv 0))<|Ax (N:=nSo) (pn:=(Ah UT).names)<|by decide +kernel)<|Ai<|Aw<|Bv Dd rfl ai bF<|Aa (Cf (vv 3) Dc<|Cs<|vv 2) Ad),?_⟩
 rintro xs V R _ ⟨a,l,z,k,mo,rfl,hs,na,nl,I,S,q⟩;refine Az (λh b=>∃(ns:oA Nat) (C:lB),h=[oD a,oD z,oE mo,oD C]/\ns.Sublist k/\b C=oG (ns.map B0)/\Pot b a l/\Bn a l V b) (λZ hZ=>?_) ?_;refine Ab (Am I) λt m=>?_;have u:=S.ne m;have T:z≠t:=by rintro rfl;rw[I]at m;cases m
 refine Dn (λj d h b=>∃(o:oB AV) (ns:oA Nat),h=[o,oD a]/\d=ns.map B0/\ns.Sublist (k.take j)/\b t=oG d/\b z=oG (k.map B0)/\Pot b a l/\Bn a l V b) ⟨none,[],rfl,rfl,by simp,Ac,by rw[Af T];exact I,S.new m,Bn.refl.new m⟩ (by rintro _ _ _ _ ⟨_,_,_,_,_,_,e,_⟩;exact Am e) ?_ ?_;rintro j y d h L Z2 hy ⟨o,ns,rfl,rfl,g,J,O,B,r⟩ hZ2;rw[L_]at hy;obtain⟨x,hx,rfl⟩:=H_.mp hy;have hj:j<k.length:=(D_.mp hx).1;have U:k.take (j+1)=k.take j++[x]:=by rw[aG,hx];rfl
 refine⟨a,l,2,rfl,B,by decide,by decide,λv μ3 hv W p=>?_⟩;have Y:=p t _ u.1.symm u.2.symm J;have Q:=p z _ na nl O;have hl:=g.length_le;rw[bD]at hl;refine ieq (λc=>⟨Y,A0<|by rw[B_];omega,hZ2 _ _ _ ⟨_,ns++[x],rfl,by rw[M_];rfl,by rw[U];exact g.append<|List.Sublist.refl _,Ac,by rw[Af T];exact Q,W.other u.1 u.2,(r.trans p).put m⟩⟩) (λc=>hZ2 _ _ _ ⟨_,ns,rfl,rfl,by rw[U];exact g.trans<|List.sublist_append_left _ _,Y,Q,W,r.trans p⟩);rintro d h L ⟨o,ns,rfl,rfl,g,J,O,B,r⟩;rw[B_,aB]at g;exact hZ _ _ ⟨ns,t,rfl,g,J,B,r⟩;rintro h μ1 ⟨ns,C,rfl,g,e1,P1,S1⟩;refine Ab (Am e1) λp2 M=>?_;rw[Lh];exact Ab (Am Ac)<|Ab (E3 _) ⟨_,Sub.refl,q _ _ ((fL _ _).trans g) (List.length_take_le _ _) (P1.new M)<|S1.new M⟩
abbrev nSa:oA Str:=["_law_deal_here","_law_game_here","_law_own","_law_many","_law_most","_law_places","_law_stands","_law_arrows","_law_k","_law_arrow"]
def Uo:FnScope nSa qC (Ah YQ):=Bi<|by decide +kernel
structure Say where
 own:Nat
 as:oA Arw
 es:oA Nat
def Cj(s:Say):lA:=.tuple [.int s.own,.tuple<|s.as.map Br,A3 s.es]
structure SayOk(g:Gam)(s:Say)(own many:Nat):Prop where
 o:s.own<=own
 n:s.as.length<=many
 c:∀a∈s.as,a.c=none
 p:∀a∈s.as,a.p<g.pl.length+s.own
 x:∀a∈s.as,a.x<g.le.length
 t:∀a∈s.as,∀t∈a.ts,g.pl.length<=t/\t<g.pl.length+s.own
 tn:∀a∈s.as,a.ts.length<=own
 e:∀t∈s.es,t<g.pl.length+s.own
 en:s.es.length<=g.pl.length+s.own
def JH:ASp:=λd b R=>∃(a l:lB) (g:Gam) (own many c:Nat),d=[.R a,.D<|Bt g,.D<|.int own,.D<|.int many,.D<|.int c]/\0<g.pl.length/\g.pl.length<=5/\0<g.le.length/\g.le.length<=5/\own<=5/\many<=20/\Pot b a l/\∀(s:Say) μ',SayOk g s own many->Pot μ' a l->Bn a l b μ'->R (.D<|Cj s) μ'
structure AwOk(g:Gam)(ow own:Nat)(a:Arw):Prop where
 c:a.c=none
 p:a.p<g.pl.length+ow
 x:a.x<g.le.length
 t:∀t∈a.ts,g.pl.length<=t/\t<g.pl.length+ow
 tn:a.ts.length<=own
def Li{B:oA Arw}{k:Bool}(i:B.length<=400)(hc:∀a∈B,a.c.isSome=k):SortOkP (B.map Br):=by obtain⟨h,j,_⟩:=Ip B;refine⟨by rw[B_];omega,h,by omega,λd g=>?_,λd g e he=>?_⟩;obtain⟨a,ha,rfl⟩:=E_.mp g;exact⟨a.p,_,rfl⟩;obtain⟨a,ha,rfl⟩:=E_.mp g;obtain⟨b,hb,rfl⟩:=E_.mp he;exact Rz<|(hc a ha).trans (hc b hb).symm
theorem R0:∀(n k:Nat),Ee (k:Int) n=(List.range' k n).map B0
 | 0,k=>rfl
 |n+1,k=>by
  rw[List.range'_succ,aS,<- R0 n (k+1)]
  rfl
def Yq(n:Nat):Ee 0 n=(List.range n).map B0:=by rw[List.range_eq_range'];exact R0 n 0
def QM{n:Nat}(F:Fun K "_law_saying" "_law_saying" YQ f fd) (ck:VCal P w K mg base n "_law_draw" oK Mk) (cSo:VCal P w K mg base n "_law_some" qM QK) (ag:mg "len" = none) (bj:mg "list" = none) (aj:mg "range" = none) (ai:mg "tuple" = none) (ay:mg "sorted" = none):FnOk P w K mg base Cm (n+1) f fd qC (Dj K 5 JH):=by
 refine F.vok Uo λav A outer s H E L=>⟨_,(Ae (Aq (i:=5) Uo.nd rfl oH<|Ay Cy rfl ag aX<|Aa (Au A8 (vv 1) Ag) Ad)<|Ae (Aq (i:=6) Uo.nd rfl oH<|Xe rfl rfl bj rfl aj<|A9 Ce (vv 5)<|Al ck L rfl<|Aa (vv 0)<|Aa (A9 Ce (vv 2) Ag) Ad)<|Ae (Aq (i:=7) Uo.nd rfl oH<|Cb Ad)<|Ae (B3 aA rfl (Ck rfl aj<|Aa (Al ck L rfl<|Aa (vv 0)<|Aa (A9 Ce (vv 3) Ag) Ad) Ad) (Ak (i:=8) Uo.nd rfl oH)<|Ae (Aq (i:=9) Uo.nd rfl oH<|Bc<|Aa (Al ck L rfl<|Aa (vv 0)<|Aa (Ay Cy rfl ag aX<|Aa (vv 6) Ad) Ad)<|Aa (Al ck L rfl<|Aa (vv 0)<|Aa (Ay Cy rfl ag aX<|Aa (Au A8 (vv 1) Ag) Ad) Ad)<|Aa (Al cSo L rfl<|Aa (vv 0)<|Aa (Cf (vv 6) (Cs<|vv 5) Dc)<|Aa (vv 4) Ad) Ad)<|Ai<|B9 (A7 (L0 L) (vv 9) (vv 7)<|by with_unfolding_all rfl) (Ai<|Ch<|Ff bV bW Dl (vv 7)<|Aa (vv 9) Ad) Bh)<|Ai<|Aw<|Bc<|Aa (A9 K0 (Ay Cy rfl ag aX<|Aa (vv 6) Ad)<|vv 5)<|Aa (Bv Dd rfl ai bF<|Aa (Ay (Hz L) rfl ay fS<|Aa (vv 7) Ad) Ad)<|Aa (Al cSo L rfl<|Aa (vv 0)<|Aa (vv 6)<|Aa (Ay Cy rfl ag aX<|Aa (vv 6) Ad) Ad) Ad),?_⟩
 rintro xs W R _ ⟨a,l,g,own,h,Q,rfl,oh,hp5,fb,jw,ho,hm,hP,q⟩;refine Az (λu d=>u=[oD a,oF<|Bt g,oE own,oE h,oE Q,oE g.pl.length,none,none,none,none]/\W=d) (λZ T=>Ab (Aj (j:=0) rfl)<|by rw[<- B_ (f:=Ym)]at T;exact T _ _ ⟨rfl,rfl⟩) ?_;rintro u _ ⟨rfl,rfl⟩;refine Az (λu d=>∃(o:Nat) (m:lB),u=[oD a,oF<|Bt g,oE own,oE h,oE Q,oE g.pl.length,oD m,none,none,none]/\o<=own/\m≠a/\m≠l/\d m=oG ((List.range<|g.pl.length+o).map B0)/\Pot d a l/\Bn a l W d) (λZ T=>?_) ?_;refine⟨a,l,own+1,rfl,hP,by omega,by omega,λv μ1 hv P1 S1=>⟨by omega,λm gu=>?_⟩⟩;have r:=P1.ne gu;refine T _ _ ⟨v,m,rfl,by omega,r.1.symm,r.2.symm,?_,P1.new gu,S1.new gu⟩;rw[Ac,show((g.pl.length:Int)+(v:Int)).toNat=g.pl.length+v by omega,Yq];rintro u μ1 ⟨o,m,rfl,how,sa,sl,s1,P1,S1⟩;intro C U;have r:=P1.ne U;have lh:W C=none:=S1.none r.1 r.2 U;have hsf:m≠C:=by rintro rfl;rw[s1]at U;cases U
 have xm:((List.range<|g.pl.length+o).map B0).length=g.pl.length+o:=by simp
 refine Az (λu d=>∃S V,∃B:oA Arw,u=[oD a,oF<|Bt g,oE own,oE h,oE Q,oE g.pl.length,oD m,oD C,S,V]/\d C=oG (B.map λb=>.D<|Br b)/\d m=oG ((List.range<|g.pl.length+o).map B0)/\B.length<=h/\(B.map Br).Nodup/\(∀b∈B,AwOk g o own b)/\Pot d a l/\Bn a l W d) (λZ T=>?_) ?_;refine⟨a,l,h+1,rfl,P1.new U,by omega,by omega,λc μ2 hc P2 S2=>⟨by omega,by omega,?_⟩⟩;have ak:(Ee 0 (c:Int).toNat).length=c:=by rw[Bp];omega
 have e2:=S2 C _ r.1.symm r.2.symm Ac;have s2:=S2 m _ sa sl (by rw[Af hsf];exact s1);refine Ci (λi u d=>∃S V,∃B:oA Arw,u=[oD a,oF<|Bt g,oE own,oE h,oE Q,oE g.pl.length,oD m,oD C,S,V]/\d C=oG (B.map λb=>.D<|Br b)/\d m=oG ((List.range<|g.pl.length+o).map B0)/\B.length<=i/\(B.map Br).Nodup/\(∀b∈B,AwOk g o own b)/\Pot d a l/\Bn a l W d) ⟨none,none,[],rfl,e2,s2,F_ _,bJ,(λ_ z=>nomatch z),P2,(S1.new U).trans S2⟩ (λ_ _ _ _=>trivial) ?_ ?_;rintro i y u M Z2 hy ⟨S,V,B,rfl,e3,J,hB,nB,I,P3,X⟩ hZ2;have hi:i<c:=by rw[<- ak];exact(D_.mp hy).1
 refine Az (λu d=>∃v:Arw,u=[oD a,oF<|Bt g,oE own,oE h,oE Q,oE g.pl.length,oD m,oD C,some y,oF<|Br v]/\AwOk g o own v/\d C=oG (B.map λb=>.D<|Br b)/\d m=oG ((List.range<|g.pl.length+o).map B0)/\Pot d a l/\Bn a l W d) (λZ3 b9=>?_) ?_;refine Ab J ⟨a,l,g.pl.length+o,by rw[xm],P3,by omega,by omega,λp μ4 hp P4 O=>Ab (Aj (j:=1) rfl) ⟨a,l,g.le.length,by rw[B_],P4,fb,by omega,λx μ5 hx P5 Y=>?_⟩⟩;have s5:=Y m _ sa sl<|O m _ sa sl J;have e5:=Y C _ r.1.symm r.2.symm<|O C _ r.1.symm r.2.symm e3;refine Ab (Am s5) λpc N=>?_;have mi:=P5.ne N;have on:C≠pc:=by rintro rfl;rw[e5]at N;cases N
 have fq:m≠pc:=by rintro rfl;rw[s5]at N;cases N
 rw[Ul];refine⟨a,l,pc,(List.range<|g.pl.length+o).drop g.pl.length,Q,rfl,by simp;omega,mi.1.symm,mi.2.symm,Ac,P5.new N,λts μ6 cr hts P6 S6=>b9 _ _ ⟨⟨p,x,ts,none⟩,rfl,⟨rfl,hp,hx,λt ht=>?_,?_⟩,S6 C _ r.1.symm r.2.symm<|by rw[Af on];exact e5,S6 m _ sa sl<|by rw[Af fq];exact s5,P6,(((X.trans O).trans Y).new N).trans S6⟩⟩;have h1:=cr.subset ht;refine⟨?_,cZ.mp<|jN h1⟩;obtain⟨i,hi,e⟩:=eX h1;rw[List.getElem_drop,List.getElem_range]at e;omega;have:=cr.length_le;rw[dB,eO]at this;show ts.length<=own;omega;rintro u μ4 ⟨v,rfl,hv,e4,s4,P4,O⟩;refine Ab rfl<|Ab (Am e4)<|Ab (Ol B) ⟨Yp v,Um B,br (λc1=>?_) λc1=>?_⟩;have c1':((B.map Br).any λe=>PyData.eqv e<|Br v)=false:=by simpa using c1
 refine⟨Ab e4 trivial,Ab e4 ⟨A0<|by rw[B_];omega,hZ2 _ _ ⟨_,_,B++[v],rfl,by rw[Ac,M_];rfl,by rw[Af hsf];exact s4,by rw[P_];show B.length+1<=_;omega,?_,λb hb=>?_,P4.other r.1 r.2,O.put lh⟩⟩⟩;rw[M_];refine aY.mpr ⟨nB,cQ.mpr ⟨by simp,bJ⟩,λz hz z' j5 e=>?_⟩;have e':z'=Br v:=by simpa using j5
 rw[e,e']at hz;exact CP c1' hz;rcases Q_.mp hb with hb|hb;exact I b hb;rw[I_.mp hb];exact hv;exact hZ2 _ _ ⟨_,_,B,rfl,e4,s4,by omega,nB,I,P4,O⟩;rintro u M ⟨S,V,B,rfl,e3,J,hB,nB,I,P3,X⟩;rw[ak]at hB;exact T _ _ ⟨_,_,B,rfl,e3,J,by omega,nB,I,P3,X⟩;rintro u M ⟨S,V,B,rfl,e3,J,hB,nB,I,P3,X⟩;refine Ab J (Ab e3<|Ab (Ol B) ⟨Li (k:=false) (by omega) λb hb=>by rw[(I b hb).c];rfl,λes p ma hp=>?_⟩);obtain⟨A',rfl,m6,G⟩:=unmap (g:=Br) (B:=B) (es:=es) λe he=>ma.mem_iff.mp he;have c9:=ma.length_eq;rw[B_,B_]at c9;have gu:m≠p:=by rintro rfl;rw[J]at hp;cases hp
 have s4:Ao M p (.lst<|(A'.map Br).map .D) m=oG ((List.range<|g.pl.length+o).map B0):=by rw[Af gu];exact J
 refine Ab (Am Ac) (Ab (Bx _)<|Ab s4 ⟨a,l,m,List.range<|g.pl.length+o,g.pl.length+o,by rw[xm],by simp;omega,sa,sl,s4,P3.new hp,λns μ5 cr gs P5 Y=>⟨_,Sub.refl,?_⟩⟩);rw[xm];dsimp only;rw[show((g.pl.length+o:Nat):Int)-(g.pl.length:Int)=(o:Nat) by omega];refine q ⟨o,A',ns⟩ _ ⟨how,by show A'.length<=_;omega,λb hb=>(I b<|G b hb).c,λb hb=>(I b<|G b hb).p,λb hb=>(I b<|G b hb).x,λb hb=>(I b<|G b hb).t,λb hb=>(I b<|G b hb).tn,λt ht=>cZ.mp<|cr.subset ht,?_⟩ P5<|(X.new hp).trans Y;exact gs
abbrev nPi:oA Str:=oV
def ZA:FnScope nPi oV (Ah UU):=Bi<|by decide +kernel
def QN:(yE:oA Str).Nodup:=by decide +kernel
def JI:ASp:=λd c R=>∃(a l:lB) (g:Gam) (b:Nat),d=[.R a,.D<|Bt g,.D<|.int b]/\0<g.le.length/\g.le.length<=5/\b<=20/\Pot c a l/\∀(ns:oA Nat) μ',(∀n∈ns,n<g.le.length)->ns.length<=b->Pot μ' a l->Bn a l c μ'->R (.D<|A3 ns) μ'
def QO{n:Nat}(F:Fun K "_law_pile" "_law_pile" UU f fd) (L:VCal P w K mg base n "_law_draw" oK Mk) (Z:mg "tuple" = none) (V:mg "range" = none) (ag:mg "len" = none):FnOk P w K mg base Cm (n+1) f fd oV (Dj K 3 JI):=by
 refine F.vok ZA λav A C s H E M=>⟨_,(Ai<|Aw<|Bv Dd rfl Z bF<|Aa (Bq (N':=yE) (mp:=[none,some 0,some 1]) rfl (Ck rfl V<|Aa (Al L M rfl<|Aa (vv 0)<|Aa (A9 Ce (vv 2) Ag) Ad) Ad) (λ_ _ _ _=>(Ak (i:=0) QN rfl oH oI)) (λ_ _ _ _=>Bm) (λ_ _ _ _=>(Al L M rfl<|Aa (vv 1)<|Aa (Ay Cy rfl ag aX<|Aa (Au A8 (vv 2) Ag) Ad) Ad))<|Ax (N:=nPi) (pn:=(Ah UU).names)<|by decide +kernel) Ad),?_⟩;rintro xs μ R _ ⟨a,l,g,X,rfl,S,jw,hm,W,q⟩;refine⟨a,l,X+1,rfl,W,by omega,by omega,λc p hc O T=>⟨by omega,by omega,λJ k=>?_⟩⟩;have e:=O.ne k;have I:(Ee 0 (c:Int).toNat).length=c:=by rw[Bp];omega
 refine Dn (λj b B d=>∃(o:oB AV) (ns:oA Nat),B=[o,oD a,oF<|Bt g]/\b=ns.map B0/\ns.length=j/\(∀n∈ns,n<g.le.length)/\d J=oG b/\Pot d a l/\Bn a l p d) ⟨none,[],rfl,rfl,rfl,(λ_ z=>nomatch z),Ac,O.new k,Bn.refl.new k⟩ (λ_ _ _ _ _=>trivial) ?_ ?_;rintro j y b B m Z2 hy ⟨o,ns,rfl,rfl,x,hb,t,r,u⟩ hZ2;have hj:j<c:=by rw[<- I];exact(D_.mp hy).1
 refine J4 rfl (Ab (Aj (j:=1) rfl) ⟨a,l,g.le.length,by rw[B_],r,S,by omega,λv Q hv P5 G=>?_⟩);have Y:=G J _ e.1.symm e.2.symm t;refine⟨Y,A0<|by rw[B_];omega,hZ2 _ _ _ ⟨_,ns++[v],rfl,by rw[M_];rfl,by rw[P_,x];rfl,λn U=>?_,Ac,P5.other e.1 e.2,(u.trans G).put k⟩⟩;rcases Q_.mp U with h|h;exact hb n h;rw[I_.mp h];exact hv;rintro b B m ⟨o,ns,rfl,rfl,x,hb,t,r,u⟩;rw[I]at x;exact Ab (Am t)<|Ab (E3 ns) ⟨_,Sub.refl,q ns _ hb (by omega) r<|T.trans u⟩
def rd(A:oA Arw)(b:oA Nat):oA Nat->Nat->Bool
 |[],s=>decide (s∈b)
 |x::w,s=>A.any λa=>decide (a.p=s/\a.x=x)&&a.ts.all λt=>rd A b w t
def Fits(b:oA Nat)(x:Nat)(a:Arw)(s:Nat):Prop:=a.p=s/\a.x=x/\∀t∈a.ts,t∈b
def CQ{A:oA Arw}{b w g:oA Nat}{x s:Nat}(h:∀t,t∈g↔rd A b w t=true):rd A b (x::w) s=true↔∃a∈A,Fits g x a s:=by rw[rd,aZ];constructor;rintro⟨a,ha,e⟩;rw[aV,bR]at e;have d:=aE e.1;exact⟨a,ha,d.1,d.2,λt c=>(h t).mpr<|e.2 t c⟩;rintro⟨a,ha,h1,h2,i⟩;exact⟨a,ha,by rw[aV,bR];exact⟨aQ ⟨h1,h2⟩,λt c=>(h t).mp<|i t c⟩⟩
def Up{a:Type} [DecidableEq a](kvs:oA<|a×AV)(k:a)(v:AV):(Dz kvs k v).map (·.1)=if k∈kvs.map (·.1) then kvs.map (·.1) else kvs.map (·.1)++[k]:=by
 unfold Dz;by_cases h:k∈kvs.map (·.1);obtain⟨z,hz,e⟩:=E_.mp h;rw[T_ h,T_<|aZ.mpr ⟨z,hz,aQ e⟩,aF];exact eB λz _=>by show(if z.1=k then(z.1,v) else z).1=_;split<;>rfl
 rw[O_ h,O_,M_]
 rfl
 intro q;obtain⟨z,hz,e⟩:=aZ.mp q;exact h<|E_.mpr ⟨z,hz,aE e⟩
def Uq{a:Type} [DecidableEq a](kvs:oA<|a×AV)(k:a):(Bw kvs k).isSome=decide (k∈kvs.map (·.1)):=by unfold Bw;rw[iM,fJ,List.find?_isSome,bL,E_];exact⟨by rintro ⟨x,hx,e⟩;exact ⟨x,hx,aE e⟩,by rintro ⟨x,hx,e⟩;exact ⟨x,hx,aQ e⟩⟩
def Om(n:Nat):Key:=.inl (n:Int)
def Mo{s:Nat}{a:oA Nat}:Om s∈a.map Om↔s∈a:=by
 constructor;intro h;obtain⟨z,hz,e⟩:=E_.mp h;have:z=s:=by unfold Om at e;have:=gL e;omega
 rw[<- this];exact hz;exact λh=>E_.mpr ⟨s,h,rfl⟩
def Dr(d:M)(c:lB)(b:oA Nat):Prop:=∃a,d c=some (.dk a)/\a.map (·.1)=b.map Om/\b.Nodup
def Dr.has{b:M}{d:lB}{c:oA Nat}(h:Dr b d c):∃a,b d=some (.dk a)/\∀t:Nat,∃r,dget (.dk a) (.int (t:Nat))=some r/\r.isSome=decide (t∈c):=by obtain⟨a,e,k,_⟩:=h;refine⟨a,e,λt=>⟨Bw a<|Om t,rfl,?_⟩⟩;rw[Uq,k];exact jH.mpr Mo
def Dr.put{l:M}{d:lB}{b:oA Nat}(p:Nat)(h:Dr l d b):∃a m g,l d=some (.dk a)/\a.length=b.length/\dput (.dk a) (.int (p:Nat)) (.D<|.bool true)=some m/\(∀ i,Dr (Ao i d m) d g)/\g.length<=b.length+1/\∀s,s∈g↔s∈b\/s=p:=by
 obtain⟨a,e,k,nd⟩:=h;have c:=Up a (Om p)<|.D<|.bool true;rw[k]at c;have j:a.length=b.length:=by rw[<- B_ (f:=(·.1)) (as:=a),k,B_]
 by_cases hp:p∈b;rw[T_<|Mo.mpr hp]at c;exact⟨a,_,b,e,j,rfl,λ_=>⟨_,Ac,c,nd⟩,by omega,λs=>⟨.inl,λh=>h.elim id λz=>by rw[z];exact hp⟩⟩;rw[O_ λz=>hp<|Mo.mp z]at c;refine⟨a,_,b++[p],e,j,rfl,λ_=>⟨_,Ac,c.trans<|by rw[M_];rfl,aY.mpr ⟨nd,cQ.mpr ⟨by simp,bJ⟩,λz hz o n q=>?_⟩⟩,by simp,λs=>by simp⟩;have r:o=p:=by simpa using n
 rw[q,r]at hz;exact hp hz
abbrev nRw:oA Str:=["arrows","reading","letter","above","arrow"]
def JJ:FnScope nRw qN (Ah UI):=Bi<|by decide +kernel
def QP:(["target","reading"]:oA Str).Nodup:=by decide +kernel
def QQ:ASp:=λi d R=>∃(A:oA Arw) (h:lB) (g:oA Nat) (x:Nat),i=[.D<|.tuple<|A.map Br,.R h,.D<|.int (x:Nat)]/\A.length<=400/\(∀a∈A,a.ts.length<=400)/\Dr d h g/\∀e c b,Dr b e c->c.length<=400->(∀s,s∈c↔∃a∈A,Fits g x a s)->Sub d b->R (.R e) b
def QR{n:Nat}(F:Fun K "reading_with" "reading_with" UI f fd) (bn:mg "all" = none):FnOk P w K mg base Cm (n+1) f fd qN (Dj K 3 QQ):=by
 refine F.vok JJ λav A outer s H E hr=>⟨_,(Ae (Aq (i:=3) JJ.nd rfl oH Fq)<|Ae (B3 aA rfl (Be<|vv 0) (Ak (i:=4) JJ.nd rfl oH)<|Ai<|B9 (VW.pt<|Eb (A7 (D9 hr) (Au A8 (vv 4) Ag) (vv 2)<|nomark _)<|D3<|E9<|Ay (Re rfl) rfl bn gK<|Aa (Bq (N':=["target","reading"]) (mp:=[none,some 1]) rfl (Be<|Au A8 (vv 4) Ag) (λ_ _ _ _=>(Ak (i:=0) QP rfl oH oI)) (λ_ _ _ _=>Bm) (λ_ _ _ _=>(Pt (Bu hr) (vv 0)<|vv 1))<|Ax (N:=nRw) (pn:=(Ah UI).names)<|by decide +kernel) Ad) (Ai<|C1 (Bu hr) (vv 3) (Au A8 (vv 4) Ag) Fe) Bh)<|Ai<|Aw<|vv 3),?_⟩
 rintro xs μ R _ ⟨A,J,u,x,rfl,hA,kA,O,q⟩;obtain⟨rkv,er,hr1⟩:=O.has;intro v V;have n9:J≠v:=by rintro rfl;rw[er]at V;cases V
 refine Az (λB k=>∃L d,B=[oF<|.tuple<|A.map Br,oD J,oE (x:Nat),oD v,L]/\Dr k v d/\d.length<=400/\(∀s,s∈d↔∃a∈A,Fits u x a s)/\Sub μ k) (λZ hZ=>?_) ?_;refine Ab (Gb A) ?_;refine Ci (λi B k=>∃L d,B=[oF<|.tuple<|A.map Br,oD J,oE (x:Nat),oD v,L]/\Dr k v d/\d.length<=i/\(∀s,s∈d↔∃a∈A.take i,Fits u x a s)/\Sub μ k) ⟨none,[],rfl,⟨[],Ac,rfl,bJ⟩,F_ _,(λs=>by simp),Sub.refl.new V⟩ (λ_ _ _ _=>Gb A) ?_ ?_;rintro i y B l Z2 hy ⟨L,d,rfl,I,X,z,S⟩ hZ2;rw[L_]at hy;obtain⟨a,ha,rfl⟩:=H_.mp hy;have hi:i<A.length:=(D_.mp ha).1;have kA1:=kA a<|X_ ha;have bo:A.take (i+1)=A.take i++[a]:=by rw[aG,ha];rfl
 have zj:=S J _ er;have cf:(∀s,¬Fits u x a s)->∀s,s∈d↔∃a∈A.take (i+1),Fits u x a s:=λhn s=>by rw[z s,bo];constructor;rintro⟨b,hb,e⟩;exact⟨b,Y_ _ hb,e⟩;rintro⟨b,hb,e⟩;rcases Q_.mp hb with hb|hb;exact⟨b,hb,e⟩;rw[I_.mp hb]at e;exact absurd e<|hn s
 refine Ab (Aj (j:=1) rfl) (ieq (λc=>?_) λc=>J5 rfl<|hZ2 _ _ ⟨_,d,rfl,I,by omega,cf λs h=>c<|by rw[h.2.1],S⟩);refine Ab JG<|Ab (Bj a.ts) λC g=>?_;have i5:v≠C:=by rintro rfl;obtain⟨_,T,_⟩:=I;rw[T]at g;cases g
 have v6:J≠C:=by rintro rfl;rw[zj]at g;cases g
 refine cmap a.ts _ (λt=>.D<|.bool<|decide (t∈u)) (λB=>∃o,B=[o,oD J]) ⟨none,rfl⟩ Ac (seven<|by omega) (λ_=>Bj a.ts) ?_ ?_;rintro j t τ' acc W hj ⟨o,rfl⟩ hW;obtain⟨r,e1,e2⟩:=hr1 t;refine Ab (x:=MO.dk rkv) (by rw[Af v6,Af v6];exact zj)<|Ab e1 ?_;rw[e2];exact hW _ ⟨_,rfl⟩;dsimp only[Po];have M:Sub μ (Ao (Ao l C<|.lst []) C<|.lst<|a.ts.map λt=>.D<|.bool<|decide (t∈u)):=λb m hb=>by
  have h1:=S b m hb;have b2:b≠C:=by rintro rfl;rw[h1]at g;cases g
  rw[Af b2,Af b2];exact h1
 have Q:Dr (Ao (Ao l C<|.lst []) C<|.lst<|a.ts.map λt=>.D<|.bool<|decide (t∈u)) v d:=by obtain⟨G,T,r⟩:=I;exact⟨G,by rw[Af i5,Af i5];exact T,r⟩
 refine We Ac<|br (λc2=>?_) λc2=>?_;have i7:Fits u x a a.p:=⟨rfl,by omega,λt Y=>aE<|(bR.mp c2) t Y⟩;obtain⟨G,m',md,T,el,ep,hI3,m8,hm3⟩:=Q.put a.p;refine Ab (Aj (j:=0) rfl) (Ab T<|Ab ep ⟨A0<|show G.length<=1000 by omega,hZ2 _ _ ⟨_,md,rfl,hI3 _,by omega,λs=>?_,λb m hb=>?_⟩⟩);rw[hm3 s,z s,bo];constructor;rintro(⟨b,hb,e⟩|rfl);exact⟨b,Y_ _ hb,e⟩;exact⟨a,aK _<|by simp,i7⟩;rintro⟨b,hb,e⟩;rcases Q_.mp hb with hb|hb;exact .inl ⟨b,hb,e⟩;rw[I_.mp hb]at e;exact .inr e.1.symm;have b1:b≠v:=by rintro rfl;rw[V]at hb;cases hb
 rw[Af b1];exact M b m hb;refine hZ2 _ _ ⟨_,d,rfl,Q,by omega,cf λs h=>?_,M⟩;have U:(a.ts.all λt=>decide (t∈u))=false:=c2;rw[bR.mpr λt Y=>aQ<|h.2.2 t Y]at U;cases U;rintro B l ⟨L,d,rfl,O,X,z,S⟩;rw[B_]at X z;rw[aB]at z;exact hZ _ _ ⟨_,d,rfl,O,by omega,z,S⟩;rintro B l ⟨L,d,rfl,O,X,z,S⟩;exact⟨_,Sub.refl,q v d _ O X z S⟩
def R3{W:oA Nat}{i:Nat}{y:AV}(hy:((W.map λ(n:Nat)=>PyData.int n).map AV.D).reverse[i]?=some y):i<W.length/\∃x,W[W.length-1-i]?=some x/\y=.D (.int (x:Nat)):=by obtain⟨hi,e⟩:=Ma hy;rw[B_,B_]at hi e;rw[L_,L_]at e;obtain⟨c,a,rfl⟩:=H_.mp e;obtain⟨x,b,rfl⟩:=H_.mp a;exact⟨hi,x,b,rfl⟩
abbrev nRe:oA Str:=["arrows","ends","stand","pile","reading","end","letter"]
def Yr:FnScope nRe qD (Ah XZ):=Bi<|by decide +kernel
def JK:ASp:=λe d R=>∃(A:oA Arw) (b:oA Nat) (s:Nat) (W:oA Nat),e=[.D<|.tuple<|A.map Br,.D<|A3 b,.D<|.int (s:Nat),.D<|A3 W]/\A.length<=400/\(∀a∈A,a.ts.length<=400)/\b.length<=400/\∀ c,Sub d c->R (.D<|.bool<|rd A b W s) c
def QS{n:Nat}(F:Fun K "reads" "reads" XZ f fd) (V:VCal P w K mg base n "reading_with" qN QQ) (a7:mg "reversed" = none):FnOk P w K mg base Cm (n+1) f fd qD (Dj K 4 JK):=by
 refine F.vok Yr λav A M s H E X=>⟨_,(Ae (Aq (i:=4) Yr.nd rfl oH Fq)<|Ae (B3 aA rfl (Be<|vv 1) (Ak (i:=5) Yr.nd rfl oH)<|Ai<|C1 (Bu X) (vv 4) (vv 5) Fe)<|Ae (B3 aA rfl (Ws rfl a7<|vv 3) (Ak (i:=6) Yr.nd rfl oH)<|Ai<|Aq (i:=4) Yr.nd rfl oH<|Al V X rfl<|Aa (vv 0)<|Aa (vv 4)<|Aa (vv 6) Ad)<|Ai<|Aw<|Pt (Bu X) (vv 2)<|vv 4),?_⟩
 rintro xs I R _ ⟨A,a,s,W,rfl,hA,kA,he,q⟩;intro h n9;refine Az (λg c=>∃o d,g=[oF<|.tuple<|A.map Br,oF<|A3 a,oE (s:Nat),oF<|A3 W,oD h,o,none]/\Dr c h d/\(∀t,t∈d↔t∈a)/\Sub I c) (λZ U=>?_) ?_;refine Ab (Bj a) ?_;refine Ci (λi g c=>∃o d,g=[oF<|.tuple<|A.map Br,oF<|A3 a,oE (s:Nat),oF<|A3 W,oD h,o,none]/\Dr c h d/\d.length<=i/\(∀t,t∈d↔t∈a.take i)/\Sub I c) ⟨none,[],rfl,⟨[],Ac,rfl,bJ⟩,F_ _,(λt=>by simp),Sub.refl.new n9⟩ (λ_ _ _ _=>Bj a) ?_ ?_;rintro i y g B Z2 hy ⟨o,d,rfl,l,hl,j,S⟩ hZ2;rw[L_]at hy;obtain⟨e,Y,rfl⟩:=H_.mp hy;have hi:i<a.length:=(D_.mp Y).1;obtain⟨C,m',md,L,el,ep,u,m8,p⟩:=l.put e;refine Ab L (Ab ep ⟨A0<|show C.length<=1000 by omega,hZ2 _ _ ⟨_,md,rfl,u _,by omega,λt=>?_,λb m hb=>?_⟩⟩);rw[p t,j t,aG,Y,Q_];simp;have b1:b≠h:=by rintro rfl;rw[n9]at hb;cases hb
 rw[Af b1];exact S b m hb;rintro g B ⟨o,d,rfl,l,hl,j,S⟩;rw[B_,aB]at j;exact U _ _ ⟨_,d,rfl,l,j,S⟩;rintro g B ⟨o,Q,rfl,O,T,S1⟩;refine Az (λg c=>∃v h d,g=[oF<|.tuple<|A.map Br,oF<|A3 a,oE (s:Nat),oF<|A3 W,oD h,o,v]/\Dr c h d/\(∀t,t∈d↔rd A a W t=true)/\Sub I c) (λZ U=>?_) ?_;refine Ci (λi g c=>∃v h d,g=[oF<|.tuple<|A.map Br,oF<|A3 a,oE (s:Nat),oF<|A3 W,oD h,o,v]/\Dr c h d/\(∀t,t∈d↔rd A a (W.drop<|W.length-i) t=true)/\Sub I c) ⟨none,h,Q,rfl,O,(λt=>by rw[T t,iT,dD];exact(bL).symm),S1⟩ (λ_ _ _ _=>trivial) ?_ ?_;rintro i y g G Z2 hy ⟨v,k,d,rfl,l,j,z⟩ hZ2;obtain⟨hi,x,ex,rfl⟩:=R3 hy;have jj:W.drop (W.length-(i+1))=x::W.drop (W.length-i):=by
  obtain⟨h1,h2⟩:=D_.mp ex;have J:W.length-(i+1)=W.length-1-i:=by omega
  have N:W.length-i=W.length-1-i+1:=by omega
  rw[J,N,bC h1,h2]
 refine⟨A,k,d,x,rfl,hA,kA,l,λab ps μ3 u _ p S3=>hZ2 _ _ ⟨_,ab,ps,rfl,u,λt=>?_,λb m hb=>S3 b m<|z b m hb⟩⟩;rw[p t,jj];exact(CQ j).symm;rintro g G ⟨v,k,d,rfl,l,j,z⟩;rw[fX,B_,B_,kP,f_]at j;exact U _ _ ⟨_,k,d,rfl,l,j,z⟩;rintro g G ⟨v,k,d,rfl,l,j,z⟩;obtain⟨C,L,hg⟩:=l.has;obtain⟨r,J,N⟩:=hg s;refine Ab L<|Ab J ⟨_,Sub.refl,?_⟩;rw[N,show decide (s∈d)=rd A a W s by rw[fJ,bL];exact j s];exact q _ z
def Du(p:Nat)(w:oA Nat):lA:=.tuple [.int p,A3 w]
abbrev nIi:oA Str:=oR
def ZB:FnScope nIi oR (Ah YA):=Bi<|by decide +kernel
structure SayLe(s:Say):Prop where
 a:s.as.length<=400
 t:∀a∈s.as,a.ts.length<=400
 e:s.es.length<=400
def CS:ASp:=λc b R=>∃(s:Say) (p:Nat) (W:oA Nat),c=[.D<|Cj s,.D<|.int p,.D<|A3 W]/\SayLe s/\∀ a,Sub b a->R (.D<|.bool<|rd s.as s.es W p) a
def QT{n:Nat}(F:Fun K "is_in" "is_in" YA f fd) (g:VCal P w K mg base n "reads" qD JK):FnOk P w K mg base Cm (n+1) f fd oR (Dj K 3 CS):=by refine F.vok ZB λm A b s H E i=>⟨_,(Ai<|Aw<|Al g i rfl<|Aa (Au A8 (vv 0) Ag)<|Aa (Au A8 (vv 0) Ag)<|Aa (vv 1)<|Aa (vv 2) Ad),?_⟩;rintro k l R _ ⟨S,p,W,rfl,c,q⟩;exact Ab (Aj (j:=1) rfl)<|Ab (Aj (j:=2) rfl) ⟨S.as,S.es,p,W,rfl,c.a,c.t,c.e,λd h=>⟨_,Sub.refl,q _ h⟩⟩
def KZ(p x:Nat)(r:Rul):Bool:=decide (r.p=p)&&decide (r.x=x)
def JL(a:oA Rul)(p x:Nat):oA (Rul×Nat):=a.zipIdx.filter λz=>KZ p x z.1
theorem On:∀(a:oA Rul) (k:Nat),Ej k (a.map C9)=(a.zipIdx k).map λz=>.D (.tuple [.int ((z.2:Nat):Int),C9 z.1])
 |[],_=>rfl
 |r::a,k=>by rw[aS,Ej,On a<|k+1,List.zipIdx_cons,aS]
abbrev nRa:oA Str:=oW
def ZC:FnScope nRa oW (Ah UH):=Bi<|by decide +kernel
def FB:(yF:oA Str).Nodup:=by decide +kernel
def JM:ASp:=λb a R=>∃(g:Gam) (p x:Nat),b=[.D<|Bt g,.D<|.int p,.D<|.int x]/\g.rs.length<=20/\∀(l:lB) μ',a l=none->μ' l=oG ((JL g.rs p x).map λz=>B0 z.2)->Sub a μ'->R (.R l) μ'
def QU{n:Nat}(F:Fun K "rules_at" "rules_at" UH f fd) (h:mg "enumerate" = none):FnOk P w K mg base Cm (n+1) f fd oW (Dj K 3 JM):=by refine F.vok ZC λC A a s H E d=>⟨_,(Ai<|Aw<|Bq (N':=yF) (mp:=[none,none,some 1,some 2]) rfl (Io rfl h<|Au A8 (vv 0) Ag) (λ_ _ _ _=>(Di (n:=2) rfl<|Av (Ak (i:=0) FB rfl oH oI)<|Av (Ak (i:=1) FB rfl oH oI) B2)) (λ_ _ _ _=>(Dm<|VW.pt<|Eb (A7 (D9 d) (Au A8 (vv 1) Ag) (vv 2)<|nomark _)<|D3<|A7 (D9 d) (Au A8 (vv 1) Ag) (vv 3)<|nomark _)) (λ_ _ _ _=>(vv 0))<|Ax (N:=nRa) (pn:=(Ah UH).names)<|by decide +kernel),?_⟩;rintro u B R _ ⟨g,p,x,rfl,y,q⟩;refine Ab (Aj (j:=2) rfl)<|Ab rfl<|Ab (Bx _) λl b=>?_;rw[On];refine cmapf g.rs.zipIdx _ (λz=>KZ p x z.1) (λz=>B0 z.2) (λk=>∃c e,k=[c,e,oE p,oE x]) ⟨none,none,rfl⟩ Ac (seven<|by rw[List.length_zipIdx];omega) (λ_=>rfl) ?_ ?_;rintro i z m r W v hi ⟨c,e,rfl⟩ h1 h2;refine⟨rfl,Ab (Aj (j:=0) rfl)<|ieq (λo=>Ab (Aj (j:=1) rfl)<|ieq (λt=>h1 ?_ _ ⟨_,_,rfl⟩) λt=>h2 ?_ _ ⟨_,_,rfl⟩) λo=>J5 rfl<|h2 ?_ _ ⟨_,_,rfl⟩⟩;rw[KZ,aQ<|show z.1.p=p by omega,aQ<|show z.1.x=x by omega];rfl;rw[KZ,aH<|show ¬z.1.x=x by omega,Bool.and_false];rw[KZ,aH<|show ¬z.1.p=p by omega,Bool.false_and];exact⟨_,Sub.refl,q l _ b Ac<|by rw[Bk];exact Sub.refl.new b⟩
abbrev nRh:oA Str:=oS
def ZD:FnScope nRh oS (Ah XX):=Bi<|by decide +kernel
def Ds(a:oA Rul)(p:Nat):oA Nat->oA (Rul×Nat)
 |[]=>[]
 |x::_=>JL a p x
def CT:ASp:=λb a R=>∃(g:Gam) (p:Nat) (W:oA Nat),b=[.D<|Bt g,.D<|.int p,.D<|A3 W]/\g.rs.length<=20/\∀(l:lB) μ',a l=none->μ' l=oG ((Ds g.rs p W).map λz=>B0 z.2)->Sub a μ'->R (.R l) μ'
def QV{n:Nat}(F:Fun K "rules_here" "rules_here" XX f fd) (m:VCal P w K mg base n "rules_at" oW JM) (k:mg "len" = none):FnOk P w K mg base Cm (n+1) f fd oS (Dj K 3 CT):=by
 refine F.vok ZD λt A b s H E d=>⟨_,(Ae (B9 (A7 (D9 d) (Ay Cy rfl k aX<|Aa (vv 2) Ad) Ag<|nomark _) (Ai<|Aw<|Cb Ad) Bh)<|Ai<|Aw<|Al m d rfl<|Aa (vv 0)<|Aa (vv 1)<|Aa (Au A8 (vv 2) Ag) Ad),?_⟩
 rintro o r R _ ⟨g,p,W,rfl,h,q⟩;cases W with
 |nil=>exact ieq (λ_ l a=>⟨_,Sub.refl,q l _ a Ac<|Sub.refl.new a⟩) (λc=>absurd rfl c)
 |cons x W=>refine ieq (λc=>absurd c<|by rw[B_,bE];omega) λ_=>?_;exact Ab (Aj (j:=0) rfl) ⟨g,p,x,rfl,h,λl i a e S=>⟨_,Sub.refl,q l _ a e S⟩⟩
def QW(W:oA Nat):Kc (W.map λ(n:Nat)=>PyData.int n) (some 1) none=(W.drop 1).map λ(n:Nat)=>PyData.int n:=Uk _ W 1
abbrev nBe:oA Str:=["game","place","pile","rule","gone_by"]
def QX:FnScope nBe oX (Ah XY):=Bi<|by decide +kernel
def CU:ASp:=λb a R=>∃(g:Gam) (p:Nat) (W:oA Nat) (i:Nat) (r:Rul),b=[.D<|Bt g,.D<|.int p,.D<|A3 W,.D<|.int i]/\g.rs[i]?=some r/\r.w.length<=10/\W.length<=100/\R (.D<|Du r.q<|r.w++W.drop 1) a
def QY{n:Nat}(F:Fun K "behind" "behind" XY f fd):FnOk P w K mg base Cm (n+1) f fd oX (Dj K 4 CU):=by
 refine F.vok QX λk A a s H E h=>⟨_,(Ae (Aq (i:=4) QX.nd rfl oH<|Au A8 (Au A8 (vv 0) Ag)<|vv 3)<|Ai<|Aw<|Bc<|Aa (Au A8 (vv 4) Ag)<|Aa (A9 Ce (Au A8 (vv 4) Ag)<|Cf (vv 2) (Cs Ag) Dc) Ad),?_⟩
 rintro c e R _ ⟨g,p,W,i,r,rfl,hi,b,d,q⟩;refine Ab (Aj (j:=2) rfl) (Ab (Aj (v:=C9 r)<|by rw[L_,hi];rfl)<|Ab (Aj (j:=2) rfl)<|Ab (Aj (j:=3) rfl) ⟨?_,⟨_,Sub.refl,?_⟩⟩);rw[QW];simp only[List.length_map,List.length_drop];exact G_ (show _<=110 by omega) (by decide);rw[QW,<- M_];exact q
def C7(d:lB)(c a:M):Prop:=∀b m,b≠d->c b=some m->a b=some m
def C7.refl{b:lB}{a:M}:C7 b a a:=λ_ _ _ h=>h
def C7.trans{a:lB}{c g d:M}(h:C7 a c g)(k:C7 a g d):C7 a c d:=λb m h1 e=>k b m h1<|h b m h1 e
def C7.new{d p:lB}{c a:M}{o:MO}(h:C7 d c a)(e:a p=none):C7 d c (Ao a p o):=λb m h1 q=>by have:=h b m h1 q;rw[Af<|by intro z;subst z;rw[e]at this;cases this];exact this
def C7.put{d p:lB}{a c:M}{o:MO}(h:C7 d a c)(e:a p=none):C7 d a (Ao c p o):=λb m h1 q=>by rw[Af<|by intro z;subst z;rw[e]at q;cases q];exact h b m h1 q
def C7.k{a:lB}{c d:M}{o:MO}(h:C7 a c d):C7 a c (Ao d a o):=λb m h1 q=>by rw[Af h1];exact h b m h1 q
theorem C7.none{c p:lB}{a b:M}(h:C7 c a b)(h1:c≠p)(e:b p=none):a p=none:=by
 cases q:a p with
 |none=>rfl
 |some m=>rw[h p m h1.symm q]at e;cases e
def F1{d:lB}{a c:M}(h:Sub a c):C7 d a c:=λb m _ e=>h b m e
def O9(p:Nat)(w:oA Nat)(k:Nat):lA:=.tuple [Du p w,.int k]
def Ys(p:Nat)(w:oA Nat)(k:Nat):KeyTree (O9 p w k):=by have h1:=Fc (ns:=w);have h2:=Ga w;refine⟨?_,?_,?_⟩;simp only[O9,Du,A3,Cano,Bg,h2,Bool.and_true,Bool.true_and];simp only[O9,Du,A3,PyData.canLay0,PyData.canLayAll0,h1.1,Bool.and_true,Bool.true_and];have:=h1.2;simp only[O9,Du,A3,PyData.depth,PyData.depthAll];omega
def Yt{a b:oA Nat}(h:A3 a=A3 b):a=b:=by unfold A3 at h;injection h with h;exact List.map_inj_right (λx y e=>by injection e with e;omega) |>.mp h
def JN{p c:Nat}{w a:oA Nat}{k b:Nat}(h:O9 p w k=O9 c a b):p=c/\w=a/\k=b:=by unfold O9 Du at h;injection h with h;injection h with h1 h2;injection h2 with h2 _;injection h1 with h1;injection h1 with h3 h4;injection h4 with h4 _;injection h2 with h2;injection h3 with h3;exact⟨by omega,Yt h4,by omega⟩
def hand(g:Gam)(p:Nat):Nat:=(g.pl.getD p default).2
def mbt(h:Nat)(a:oA Bool):Bool:=if h=1 then decide (0<a.length)&&a.all id else a.any id
def wn(g:Gam)(S:Say):Nat->Nat->oA Nat->Bool
 | 0,p,w=>rd S.as S.es w p
 |k+1,p,w=>rd S.as S.es w p||mbt (hand g p) ((Ds g.rs p w).map λz=>wn g S k z.1.q<|z.1.w++w.drop 1)
def mbw(g:Gam)(S:Say)(k p:Nat)(w:oA Nat):Bool:=mbt (hand g p)<|(Ds g.rs p w).map λz=>wn g S k z.1.q<|z.1.w++w.drop 1
def cst:Nat->Nat
 | 0=>1
 |k+1=>1+8*cst k
structure GsOk(g:Gam)(S:Say):Prop where
 n:g.rs.length<=8
 q:∀r∈g.rs,r.q<g.pl.length/\r.w.length<=2
 h:∀p∈g.pl,p.2<2
 s:SayLe S
def Oo(g:Gam)(S:Say)(b:M)(c:lB)(N:Nat):Prop:=∃a,b c=some (.dd a)/\a.length<=N/\∀p w k v,Bw a (O9 p w k)=some v->v=.D (.bool<|wn g S k p w)
def Oo.ext{g:Gam}{S:Say}{d i:M}{b:lB}{N:Nat}(h:Oo g S d b N)(e:∀m,d b=some m->i b=some m):Oo g S i b N:=by obtain⟨c,a,r⟩:=h;exact⟨c,e _ a,r⟩
def Oo.mono{g:Gam}{S:Say}{d:M}{i:lB}{N N':Nat}(h:Oo g S d i N)(e:N<=N'):Oo g S d i N':=by obtain⟨c,a,b,r⟩:=h;exact⟨c,a,G_ b e,r⟩
def Oo.ne{g:Gam}{S:Say}{b:M}{c p:lB}{N:Nat}(h:Oo g S b c N)(e:b p=none):c≠p:=by rintro rfl;obtain⟨d,a,_⟩:=h;rw[a]at e;cases e
def Yu(k:Nat):ASp:=λd c R=>∃(g:Gam) (S:Say) (p:Nat) (w:oA Nat) (b:lB) (N:Nat),d=[.D<|Bt g,.D<|Cj S,.D<|Du p w,.D<|.int k,.R b]/\GsOk g S/\p<g.pl.length/\w.length+k<=50/\Oo g S c b N/\N+cst k<=16000000/\∀ a,Oo g S a b (N+cst k)->C7 b c a->R (.D<|.bool<|wn g S k p w) a
def CV(k:Nat):ASp:=λd c R=>∃(g:Gam) (S:Say) (p:Nat) (w:oA Nat) (b:lB) (N:Nat),d=[.D<|Bt g,.D<|Cj S,.D<|Du p w,.D<|.int k,.R b]/\GsOk g S/\p<g.pl.length/\w.length+k+1<=50/\Oo g S c b N/\N+8*cst k<=16000000/\∀ a,Oo g S a b (N+8*cst k)->C7 b c a->R (.D<|.bool<|mbw g S k p w) a
abbrev nBr:oA Str:=oJ
def ZE:FnScope nBr oJ (Ah OX):=Bi<|by decide +kernel
def R4{n:Nat}(F:Fun K "brings" "brings" OX f fd) (k:Nat) (U:ASp) (fy:∀i,k=i+1->U=CV i) (oo:VCal P w K mg base n "is_in" oR CS) (J:VCal P w K mg base n "moves_bring" oJ U):FnOk P w K mg base Cm (n+1) f fd oJ (Dj K 5<|Yu k):=by
 refine F.vok ZE λav A Q s H E y=>⟨_,(Ae (B9 (Qb (XE y) (Bc<|Aa (vv 2)<|Aa (vv 3) Ad)<|vv 4) (Ai<|W0 (XE y) (vv 4) (Bc<|Aa (vv 2)<|Aa (vv 3) Ad)<|EC (Al oo y rfl<|Aa (vv 1)<|Aa (Au A8 (vv 2) Ag)<|Aa (Au A8 (vv 2) Ag) Ad)<|Jd<|Pn (E8 L1 (vv 3) Ag<|nomark _)<|Jd<|Al J y rfl<|Aa (vv 0)<|Aa (vv 1)<|Aa (vv 2)<|Aa (A9 K0 (vv 3) Ag)<|Aa (vv 4) Ad) Bh)<|Ai<|Aw<|Wy (XE y) (vv 4)<|Bc<|Aa (vv 2)<|Aa (vv 3) Ad),?_⟩
 rintro xs X R _ ⟨g,S,p,w,l,N,rfl,hG,hp,hw,hK,hN,q⟩;have hc:1<=cst k:=by cases k<;>simp[cst]
 have hsz:sizeLine=16777216:=rfl;refine Az (λV x=>∃a,V=[oF<|Bt g,oF<|Cj S,oF<|Du p w,oE k,oD l]/\x l=some (.dd a)/\a.length<=N+cst k/\(∀p w k v,Bw a (O9 p w k)=some v->v=.D (.bool<|wn g S k p w))/\Bw a (O9 p w k)=oF (.bool<|wn g S k p w)/\C7 l X x) (λZ W=>?_) ?_
 ·obtain⟨a,r,O,hv⟩:=hK;refine Ab r ⟨Ys p w k,br (λc=>?_) λc=>?_⟩
  ·
   have put:∀(b:Bool) (d:M) (t:oA<|lA×AV),b=wn g S k p w->d l=some (.dd t)->t.length<N+cst k->(∀p w k v,Bw t (O9 p w k)=some v->v=.D (.bool<|wn g S k p w))->C7 l X d->opt (d l) λm=>match m with
     |.dd a=>KeyTree (O9 p w k)/\a.length<sizeLine/\Z [oF<|Bt g,oF<|Cj S,oF<|Du p w,oE k,oD l] (Ao d l<|.dd<|Dz a (O9 p w k)<|.D<|.bool b)
     |_=>False:=λb d t hb T c9 I G=>by
    refine Ab T ⟨Ys p w k,by omega,W _ _ ⟨_,rfl,Ac,?_,λp' w' i v h=>?_,?_,G.k⟩⟩;have:=Jr t (O9 p w k)<|.D<|.bool b;omega;rw[Fz]at h;split at h;rename_i e;obtain⟨rfl,rfl,rfl⟩:=JN e;rw[<- aR h,hb];exact I _ _ _ _ h;rw[Fz,T_ rfl,hb]
   refine Ab (Aj (j:=0) rfl)<|Ab (Aj (j:=1) rfl) ⟨S,p,w,rfl,hG.s,λu o=>br (λB=>?_) λB=>?_⟩;refine put true u a ?_ (o l _ r) (by omega) hv<|F1 o;cases k<;>simp only[wn,B,Bool.true_or]
   ·refine dif (λL=>?_) λL=>?_
    ·cases k with
     |zero=>exact absurd L (by decide)
     |succ i=>have e:=fy i rfl;subst e;have zah:cst (i+1)=1+8*cst i:=rfl;refine⟨g,S,p,w,l,N,by dsimp only;rw[show((i+1:Nat):Int)-1=(i:Nat) by omega],hG,hp,by omega,⟨a,o l _ r,O,hv⟩,by omega,λd C G=>?_⟩;obtain⟨t,T,c9,I⟩:=C;refine put _ d t ?_ T (by omega) I<|(F1 o).trans G;show mbw g S i p w=wn g S (i+1) p w;simp only[wn,B,Bool.false_or];rfl
    ·refine put false u a ?_ (o l _ r) (by omega) hv<|F1 o;cases k with
     |zero=>simp only[wn,B]
     |succ i=>exact absurd (show(0:Int)<((i+1:Nat):Int) by omega) L
  have Y:(!(Bw a<|O9 p w k).isSome)=false:=c;have hs:(Bw a<|O9 p w k).isSome=true:=by simpa using Y
  obtain⟨v,z⟩:=dA.mp hs;have:=hv _ _ _ _ z;subst this;exact W _ _ ⟨a,rfl,r,by omega,hv,z,C7.refl⟩
 rintro V u ⟨a,rfl,r,O,hv,z,o⟩;exact Ab r ⟨Ys p w k,Ab z ⟨_,Sub.refl,q _ ⟨a,r,O,hv⟩ o⟩⟩
abbrev nMb:oA Str:=["game","saying","here","k","known","rules","told"]
def CW:FnScope nMb oJ (Ah KU):=Bi<|by decide +kernel
def QZ:(yG:oA Str).Nodup:=by decide +kernel
def Op{a:oA Rul}{p:Nat}{w:oA Nat}{z:Rul×Nat}(h:z∈Ds a p w):a[z.2]?=some z.1/\z.1∈a:=by unfold Ds at h;split at h;cases h;obtain⟨h1,_⟩:=bH.mp h;obtain⟨r,i⟩:=z;have e:=List.mk_mem_zipIdx_iff_getElem?.mp h1;exact⟨e,X_ e⟩
def Oq(a:oA Rul)(p:Nat)(w:oA Nat):(Ds a p w).length<=a.length:=by unfold Ds;split;exact aN _;exact G_ (cB _ _)<|by rw[List.length_zipIdx];exact F_ _
def CY{n:Nat}(F:Fun K "moves_bring" "moves_bring" KU f fd) (k:Nat) (uq:VCal P w K mg base n "rules_here" oS CT) (pe:VCal P w K mg base n "behind" oX CU) (uc:VCal P w K mg base n "brings" oJ<|Yu k) {t1:Tok} (ir:mg "OTHER_HAND" = some (.int 1 t1)) (bn:mg "all" = none) (ag:mg "len" = none) (dh:mg "any" = none):FnOk P w K mg base Cm (n+1) f fd oJ (Dj K 5<|CV k):=by
 refine F.vok CW λav A Y s H E W=>⟨_,(Ae (Aq (i:=5) CW.nd rfl oH<|Al uq W rfl<|Aa (vv 0)<|Aa (Au A8 (vv 2) Ag)<|Aa (Au A8 (vv 2) Ag) Ad)<|Ae (D7 (i:=6) (N':=yG) (mp:=[none,some 0,some 1,some 3,some 4,some 2]) rfl CW.nd rfl rfl (Be<|vv 5) (λ_ _ _ _=>(Ak (i:=0) QZ rfl oH oI)) (λ_ _ _ _=>Bm) (λ_ _ _ _=>(Al uc W rfl<|Aa (vv 1)<|Aa (vv 2)<|Aa (Al pe W rfl<|Aa (vv 1)<|Aa (Au A8 (vv 5) Ag)<|Aa (Au A8 (vv 5) Ag)<|Aa (vv 0) Ad)<|Aa (vv 3)<|Aa (vv 4) Ad))<|Ax (N:=nMb) (pn:=(Ah KU).names)<|by decide +kernel)<|Ae (B9 (A7 (D9 W) (Au A8 (Au A8 (Au A8 (vv 0) Ag)<|Au A8 (vv 2) Ag) Ag) (Ik rfl ir (v:=.int 1) ⟨_,rfl⟩ λ_=>Co)<|nomark _) (Ai<|Aw<|Pn (E8 L1 (Ay Cy rfl ag aX<|Aa (vv 6) Ad) Ag<|nomark _)<|Jd<|Ay (Re rfl) rfl bn gK<|Aa (vv 6) Ad) Bh)<|Ai<|Aw<|Ay (OA rfl) rfl dh PyProof.Rows.boot_any<|Aa (vv 6) Ad),?_⟩
 rintro xs μ R _ ⟨g,S,p,w,h,N,rfl,hG,hp,hw,hK,hN,q⟩;have hL:=Oq g.rs p w;have hn8:=hG.n;refine Az (λd a=>∃u,d=[oF<|Bt g,oF<|Cj S,oF<|Du p w,oE k,oD h,oD u,none]/\a u=oG ((Ds g.rs p w).map λz=>B0 z.2)/\u≠h/\Sub μ a) (λZ O=>?_) ?_;refine Ab (Aj (j:=0) rfl) (Ab (Aj (j:=1) rfl) ⟨g,p,w,rfl,by omega,λl M hl e J=>O _ _ ⟨l,rfl,e,(hK.ne hl).symm,J⟩⟩);rintro d M ⟨u,rfl,er,hrk,J⟩;have zm:Oo g S M h N:=hK.ext λm e=>J h m e;refine Az (λd a=>∃T,d=[oF<|Bt g,oF<|Cj S,oF<|Du p w,oE k,oD h,oD u,oD T]/\a T=oG ((Ds g.rs p w).map λz=>.D<|.bool<|wn g S k z.1.q<|z.1.w++w.drop 1)/\Oo g S a h (N+8*cst k)/\C7 h μ a) (λZ O=>?_) ?_
 ·refine Ab (Am er) λV Q=>?_;have U:=zm.ne Q;have L:u≠V:=by rintro rfl;rw[er]at Q;cases Q
  refine Dn (λj B d a=>∃(o:oB AV),d=[o,oF<|Bt g,oF<|Cj S,oE k,oD h,oF<|Du p w]/\B=(((Ds g.rs p w).take j).map λz=>.D<|.bool<|wn g S k z.1.q<|z.1.w++w.drop 1)/\a V=oG B/\a u=oG ((Ds g.rs p w).map λz=>B0 z.2)/\Oo g S a h (N+j*cst k)/\C7 h μ a) ⟨none,rfl,rfl,Ac,by rw[Af L];exact er,(zm.mono<|by omega).ext λm e=>by rw[Af U];exact e,(F1 J).new Q⟩ (by rintro _ _ _ _ ⟨_,_,_,_,e,_⟩;exact Am e) ?_ ?_
  ·rintro j y B d C Z2 hy ⟨o,rfl,rfl,r,r2,G,I⟩ hZ2;rw[L_]at hy;obtain⟨z,hz,rfl⟩:=H_.mp hy;have hj:j<(Ds g.rs p w).length:=(D_.mp hz).1;obtain⟨hi,hm⟩:=Op<|X_ hz;obtain⟨hq1,hq2⟩:=hG.q _ hm;have xj:(z.1.w++w.drop 1).length<=w.length+2:=by rw[P_,dB];omega
   have zaf:1<=w.length:=by
    cases w with
    |nil=>simp[Ds]at hz
    |cons x t=>simp
   have bo:(Ds g.rs p w).take (j+1)=(Ds g.rs p w).take j++[z]:=by rw[aG,hz];rfl
   have hjc:(j+1)*cst k=j*cst k+cst k:=by rw[Nat.add_mul,Nat.one_mul]
   have hj8:(j+1)*cst k<=8*cst k:=jO _ (by omega);refine J4 rfl (Ab (Aj (j:=0) rfl)<|Ab (Aj (j:=1) rfl) ⟨g,p,w,z.2,z.1,rfl,hi,by omega,by omega,g,S,z.1.q,z.1.w++w.drop 1,h,N+j*cst k,rfl,hG,hq1,?_,G,by omega,λμ3 K3 X=>?_⟩);rw[P_,dB];omega;have e3:=X V _ U.symm r;refine⟨e3,A0<|by rw[B_,bD];omega,hZ2 _ _ _ ⟨_,rfl,by rw[bo,M_];rfl,Ac,by rw[Af L];exact X u _ hrk r2,?_,(I.trans X).put ?_⟩⟩;rw[hjc,<- Nat.add_assoc];exact K3.ext λm e=>by rw[Af U];exact e
   exact(F1 J).none U Q
  rintro B d C ⟨o,rfl,rfl,r,r2,G,I⟩;rw[B_]at G r;rw[aB]at r;refine O _ _ ⟨V,rfl,r,G.mono ?_,I⟩;have:(Ds g.rs p w).length*cst k<=8*cst k:=jO _ (by omega);omega
 rintro d C ⟨T,rfl,r,G,I⟩;have wt:(g.pl.map Ym)[p]?=some (Ym g.pl[p]):=by rw[L_,J_ hp];rfl
 have vz:hand g p=g.pl[p].2:=by unfold hand;simp[hp]
 have az:∀b:Bool,b=mbw g S k p w->R (.D<|.bool b) C:=λb hb=>by rw[hb];exact q _ G I
 have qp:=Nr (λz:Rul×Nat=>wn g S k z.1.q<|z.1.w++w.drop 1)<|Ds g.rs p w;refine Az (λd a=>d=[oF<|Bt g,oF<|Cj S,oF<|Du p w,oE k,oD h,oD u,oD T]/\C=a/\hand g p≠1) (λZ O=>?_) ?_;refine Ab (Aj (j:=0) rfl) (Ab (Aj (j:=0) rfl)<|Ab (Aj wt)<|Ab (Aj (j:=1) rfl)<|ieq (λc=>?_) λc=>O _ _ ⟨rfl,rfl,λz=>c<|by omega⟩);have h1:hand g p=1:=by omega
 refine Ab r<|dif (λc1=>Ab r<|Ab qp ⟨_,Sub.refl,az _ ?_⟩) λc1=>⟨_,Sub.refl,az _ ?_⟩;unfold mbw mbt;rw[T_ h1,B_,aQ<|show 0<(Ds g.rs p w).length by rw[B_]at c1;omega,Bool.true_and];unfold mbw mbt;rw[T_ h1,B_,aH<|show ¬ 0<(Ds g.rs p w).length by rw[B_]at c1;omega,Bool.false_and];rintro d _ ⟨rfl,rfl,h1⟩;refine Ab r<|Ab qp ⟨_,Sub.refl,az _ ?_⟩;unfold mbw mbt;rw[O_ h1]
def RA{n:Nat}{a:lB}{b:lK}(F:Fun K "brings" "brings" OX f fd) (l:Fun K "moves_bring" "moves_bring" KU a b) (C:Binds K fd oJ []) (q:PySem.W.keepIn K (.ref f)=true) (d:mg "brings" = some (.ref f)) (e:Binds K b oJ []) (g:PySem.W.keepIn K (.ref a)=true) (j:mg "moves_bring" = some (.ref a))
  (i:VCal P w K mg base (n+1) "is_in" oR CS) (z:VCal P w K mg base (n+1) "rules_here" oS CT) (m:VCal P w K mg base (n+1) "behind" oX CU) (p:mg "all" = none) (D:mg "len" = none) (G:mg "any" = none) {u:Tok} (t:mg "OTHER_HAND" = some (.int 1 u)) :
  ∀k:Nat,FnOk P w K mg base Cm (n+2+2*k) f fd oJ (Dj K 5<|Yu k):=by
 intro k
 induction k with
 |zero=>refine R4 F 0 (λ_ _ _=>False) (by intro y h;cases h) i ⟨a,b,l.ok CW (λo H Q E h=>?_) λI A c s H o Q E J h=>?_,e,g,j⟩;obtain⟨_,_,_,_,_,_,h,_⟩:=h;exact h.elim;obtain⟨_,_,_,_,_,_,h,_⟩:=h;exact h.elim
 |succ k r=>have B:VCal P w K mg base (n+2+2*k) "brings" oJ (Yu k):=⟨f,fd,r,C,q,d⟩;have v:=CY l k (z.mono<|by omega) (m.mono<|by omega) B t p D G;have x:VCal P w K mg base (n+2+2*k+1) "moves_bring" oJ (CV k):=⟨a,b,v,e,g,j⟩;exact R4 (n:=n+2+2*k+1) F (k+1) (CV k) (by rintro y h;cases h;rfl) (i.mono<|by omega) x
abbrev nBw:oA Str:=qE
def ZF:FnScope nBw qE (Ah YB):=Bi<|by decide +kernel
def Yv:∀{k:Nat},k<=6->cst k<=299593
 | 0,_=>by decide
 | 1,_=>by decide
 | 2,_=>by decide
 | 3,_=>by decide
 | 4,_=>by decide
 | 5,_=>by decide
 | 6,_=>by decide
def RB:ASp:=λc b R=>∃(g:Gam) (S:Say) (p:Nat) (w:oA Nat) (k:Nat),c=[.D<|Bt g,.D<|Cj S,.D<|.int p,.D<|A3 w,.D<|.int k]/\GsOk g S/\p<g.pl.length/\w.length<=20/\k<=6/\∀ a,Sub b a->R (.D<|.bool<|wn g S k p w) a
def CZ{n m:Nat}{e:oA Str}{sp:Nat->ASp}(h:∀k,k<=m->FnOk P w K mg base Cm n f fd e (Dj K e.length<|sp k)):FnOk P w K mg base Cm n f fd e (Dj K e.length (λb d R=>∃k,k<=m/\sp k b d R)) :=
 ⟨by rintro j H Q E ⟨b,d,R,i,l,hc,⟨k,hk,g⟩,hq⟩;exact (h k hk).len j H Q E ⟨b,d,R,i,l,hc,g,hq⟩,by rintro A a s H c o j Q E l he hb hv ⟨b,d,R,i,hx,hc,⟨k,hk,g⟩,hq⟩;exact (h k hk).run A a s H c o j Q E l he hb hv ⟨b,d,R,i,hx,hc,g,hq⟩⟩
def Yw:ASp:=λb a R=>∃k,k<=6/\Yu k b a R
def JO{n:Nat}{b:lB}{c:lK}(F:Fun K "brings" "brings" OX f fd) (i:Fun K "moves_bring" "moves_bring" KU b c) (p:Binds K fd oJ []) (u:PySem.W.keepIn K (.ref f)=true) (a:mg "brings" = some (.ref f)) (j:Binds K c oJ []) (h:PySem.W.keepIn K (.ref b)=true) (s:mg "moves_bring" = some (.ref b))
  (g:VCal P w K mg base (n+1) "is_in" oR CS) (l:VCal P w K mg base (n+1) "rules_here" oS CT) (o:VCal P w K mg base (n+1) "behind" oX CU) (t:mg "all" = none) (q:mg "len" = none) (r:mg "any" = none) {e:Tok} (d:mg "OTHER_HAND" = some (.int 1 e)) :
  FnOk P w K mg base Cm (n+14) f fd oJ (Dj K 5 Yw) :=
 CZ (m:=6) λk hk=>(RA F i p u a j h s g l o t q r d k).mono<|by omega
def RC{n:Nat}(F:Fun K "brings_within" "brings_within" YB f fd) (e:VCal P w K mg base n "brings" oJ Yw):FnOk P w K mg base Cm (n+1) f fd qE (Dj K 5 RB):=by
 refine F.vok ZF λv A a s H E o=>⟨_,(Ai<|Aw<|Al e o rfl<|Aa (vv 0)<|Aa (vv 1)<|Aa (Bc<|Aa (vv 2)<|Aa (vv 3) Ad)<|Aa (vv 4)<|Aa N3 Ad),?_⟩;rintro t u R _ ⟨g,S,p,w,k,rfl,hG,hp,r,hk,q⟩;intro d j;have:=Yv hk;refine⟨k,hk,g,S,p,w,d,0,rfl,hG,hp,by omega,⟨[],Ac,F_ _,λ_ _ _ _ h=>by cases h⟩,by omega,λi _ l=>⟨_,Sub.refl,q _ λb m hb=>?_⟩⟩;have c:b≠d:=by rintro rfl;rw[j]at hb;cases hb
 exact l b m c<|by rw[Af c];exact hb
def lmo(g:Gam)(S:Say)(p:Nat)(w:oA Nat):oB Nat:=(List.range 7).find? λk=>wn g S k p w
def RD:oB Nat->AV
 |none=>.D .none
 |some k=>.D<|.int (k:Nat)
abbrev nLm:oA Str:=["game","saying","place","pile","known","k"]
def JP:FnScope nLm qO (Ah YC):=Bi<|by decide +kernel
def RE:ASp:=λc b R=>∃(g:Gam) (S:Say) (p:Nat) (w:oA Nat),c=[.D<|Bt g,.D<|Cj S,.D<|.int p,.D<|A3 w]/\GsOk g S/\p<g.pl.length/\w.length<=20/\∀ a,Sub b a->R (RD<|lmo g S p w) a
def RF{n:Nat}(F:Fun K "least_moves" "least_moves" YC f fd) (O:VCal P w K mg base n "brings" oJ Yw) (U:mg "range" = none) {N:Tok} (W:mg "MOST_MOVES" = some (.int 6 N)):FnOk P w K mg base Cm (n+1) f fd qO (Dj K 4 RE):=by
 refine F.vok JP λav A C s H E X=>⟨_,(Ae (Aq (i:=4) JP.nd rfl oH N3)<|Ae (B3 aA rfl (Ck rfl U<|Aa (A9 Ce (Ik rfl W (v:=.int 6) ⟨_,rfl⟩ λ_=>Co) Ag) Ad) (Ak (i:=5) JP.nd rfl oH)<|Ai<|B9 (E9<|Al O X rfl<|Aa (vv 0)<|Aa (vv 1)<|Aa (Bc<|Aa (vv 2)<|Aa (vv 3) Ad)<|Aa (vv 5)<|Aa (vv 4) Ad) (Ai<|Aw<|vv 5) Bh)<|Ai<|Aw Cu),?_⟩
 rintro xs t R _ ⟨g,S,p,w,rfl,hG,hp,hw,q⟩;refine Az (λl a=>∃d,l=[oF<|Bt g,oF<|Cj S,oE p,oF<|A3 w,oD d,none]/\Oo g S a d 0/\C7 d t a/\t d=none) (λZ B=>λd u=>B _ _ ⟨d,rfl,⟨[],Ac,F_ _,λ_ _ _ _ h=>by cases h⟩,C7.refl.new u,u⟩) ?_;rintro l Q ⟨d,rfl,Y,T,u⟩;have L:∀ a,C7 d t a->Sub t a:=λa M b m hb=>M b m (by rintro rfl;rw[u]at hb;cases hb) hb;refine Az (λl a=>C7 d t a/\∀k,k<7->wn g S k p w=false) (λZ B=>?_) ?_;refine⟨by decide,by decide,?_⟩;refine Ci (λi l a=>∃x,l=[oF<|Bt g,oF<|Cj S,oE p,oF<|A3 w,oD d,x]/\Oo g S a d (i*300000)/\C7 d t a/\∀k,k<i->wn g S k p w=false) ⟨none,rfl,Y,T,λ_ h=>absurd h<|Nat.not_lt_zero _⟩ (λ_ _ _ _=>trivial) ?_ ?_;rintro i y l o Z2 hy ⟨x,rfl,G,r,h2⟩ hZ2;have hi:i<7:=by have:=(D_.mp hy).1;rwa[Bp]at this
 have J:=Fp _ _ _ hy;rw[kU]at J;subst J;have hc:=Yv (show i<=6 by omega);refine⟨i,by omega,g,S,p,w,d,i*300000,rfl,hG,hp,by omega,G,by omega,λz V I=>br (λc=>?_) λc=>?_⟩;refine⟨_,Sub.refl,?_⟩;have e:lmo g S p w=some i:=List.find?_range_eq_some.mpr ⟨c,cZ.mpr hi,λj hj=>by rw[h2 j hj];rfl⟩;have:=q z<|L _<|r.trans I;rw[e]at this;exact this;refine hZ2 _ _ ⟨_,rfl,V.mono<|by omega,r.trans I,λk hk=>?_⟩;rcases(show k<i\/k=i by omega) with h|rfl;exact h2 k h;exact c;rintro l o ⟨x,rfl,G,r,h2⟩;exact B _ _ ⟨r,h2⟩;rintro l o ⟨r,h2⟩;refine⟨_,Sub.refl,?_⟩;have e:lmo g S p w=none:=List.find?_range_eq_none.mpr λk hk=>by rw[h2 k hk];rfl
 have:=q o<|L _ r;rw[e]at this;exact this
def R5(m n:Nat):Builtin.bitOr (m:Int) (n:Int)=((m |||n:Nat):Int):=by
 have a:∀k:Nat,Builtin.bitNot (k:Int)=-(k:Int)-1:=λ_=>rfl;unfold Builtin.bitOr;rw[a,a];unfold Builtin.bitAnd;rw[aH<|by omega,aH<|by omega];show Builtin.bitNot (Builtin.bitNot (((Builtin.bitNot<|-(m:Int)-1).toNat ||| (Builtin.bitNot<|-(n:Int)-1).toNat:Nat):Int))=_;have b:∀k:Nat,(Builtin.bitNot<|-(k:Int)-1).toNat=k:=λk=>by show(-(-(k:Int)-1)-1).toNat=k;omega
 rw[b,b];show -(-((m |||n:Nat):Int)-1)-1=_;omega
def Yx(m n:Nat):Builtin.bitAnd (m:Int) (n:Int)=((m &&& n:Nat):Int):=by
 unfold Builtin.bitAnd;rw[aQ<|dU _,aQ<|dU _]
 rfl
def bts:oA Nat->Nat:=List.foldl (λb k=>b ||| 2^k) 0
abbrev nAb:oA Str:=["stands","bits","stand"]
def DA:FnScope nAb ["stands"] (Ah YD):=Bi<|by decide +kernel
def JQ:ASp:=λb a R=>∃(x:AV) (ts:oA Nat),b=[x]/\items a x=some (ts.map B0)/\(∀t∈ts,t<60)/\R (.D<|.int (bts ts:Nat)) a
def RG{n:Nat}(F:Fun K "as_bits" "as_bits" YD f fd):FnOk P w K mg base Cm (n+1) f fd ["stands"] (Dj K 1 JQ):=by
 refine F.vok DA λm A d s H E p=>⟨_,(Ae (Aq (i:=1) DA.nd rfl oH Ag)<|Ae (B3 aA rfl (Be<|vv 0) (Ak (i:=2) DA.nd rfl oH)<|Ai<|Aq (i:=1) DA.nd rfl oH<|A9 ER (vv 1)<|A9 OG Ag<|vv 2)<|Ai<|Aw<|vv 1),?_⟩
 rintro l g R _ ⟨x,ts,rfl,hx,j,q⟩;refine PU<|Az (λb a=>∃c,b=[some x,oE (bts ts:Nat),c]/\g=a) (λZ k=>?_) ?_;refine Ab hx ?_;refine Ci (λi b a=>∃c,b=[some x,oE (bts (ts.take i):Nat),c]/\g=a) ⟨none,rfl,rfl⟩ (by rintro _ _ _ ⟨_,_,e⟩;subst e;exact hx) ?_ ?_;rintro i y b _ o hy ⟨c,rfl,rfl⟩ hZ2;rw[L_]at hy;obtain⟨t,h1,rfl⟩:=H_.mp hy;have h:=j t<|X_ h1;refine⟨⟨dU _,by omega,by decide⟩,hZ2 _ _ ⟨some<|B0 t,?_,rfl⟩⟩;have e:Builtin.bitOr (bts (ts.take i):Nat) (1*2^(t:Int).toNat)=((bts (ts.take<|i+1):Nat):Int):=by rw[Int.one_mul,dY,show((2:Int)^t)=((2^t:Nat):Int) by rw[Int.natCast_pow];rfl,R5,aG,h1];unfold bts;rw[List.foldl_append];rfl
 rw[<- e];rfl;rintro b _ ⟨c,rfl,rfl⟩;rw[B_,aB];exact k _ _ ⟨_,rfl,rfl⟩;rintro b _ ⟨c,rfl,rfl⟩;exact⟨_,Sub.refl,q⟩
def DB(k:Nat):Ee 0 k=(List.range k).map B0:=by
 refine iP λj=>?_;rcases fN j k with h|h;have h1:j<(Ee 0 k).length:=by rw[Bp];exact h
 rw[J_ h1,Fp _ _ _<|J_ h1,L_,List.getElem?_range h];show some _=some (B0 j);unfold B0;rw[kU];rw[fD<|by rw[Bp];exact h,fD<|by rw[B_,eO];exact h]
def Cd(n:Nat):oA Nat:=(List.range 5).filter λk=>n.testBit k
abbrev nAs:oA Str:=["bits"]
def ZG:FnScope nAs ["bits"] (Ah UJ):=Bi<|by decide +kernel
def RH:(["stand","bits"]:oA Str).Nodup:=by decide +kernel
def JR:ASp:=λb c R=>∃(n:Nat),b=[.D<|.int n]/\n<32/\∀ a,Sub c a->R (.D<|A3<|Cd n) a
def RI{n:Nat}(F:Fun K "as_stands" "as_stands" UJ f fd) (t:mg "tuple" = none) (l:mg "range" = none):FnOk P w K mg base Cm (n+1) f fd ["bits"] (Dj K 1 JR):=by
 refine F.vok ZG λB A g s H E v=>⟨_,(Ai<|Aw<|Bv Dd rfl t bF<|Aa (Bq (N':=["stand","bits"]) (mp:=[none,some 0]) rfl (Ck rfl l<|Aa (IM PyProof.Rows.slot_int_bit_length PyProof.Rows.type_int_bit_length IL<|vv 0) Ad) (λ_ _ _ _=>(Ak (i:=0) RH rfl oH oI)) (λ_ _ _ _=>(Dm<|A7 (D9 v) (A9 Xh (A9 OH (vv 1)<|vv 0) Ag) Ag<|nomark _)) (λ_ _ _ _=>(vv 0))<|Ax (N:=nAs) (pn:=(Ah UJ).names)<|by decide +kernel) Ad),?_⟩;rintro y C R _ ⟨n,rfl,m,q⟩;have hb:∀n:Fin 32,Builtin.Int.intBits ((n.val:Nat):Int)<=5/\(List.range<|Builtin.Int.intBits ((n.val:Nat):Int)).filter (λk=>n.val.testBit k)=Cd n.val:=by decide +kernel
 obtain⟨b,d⟩:=hb ⟨n,m⟩;have b:Builtin.Int.intBits (n:Int)<=5:=b;have d:(List.range<|Builtin.Int.intBits (n:Int)).filter (λk=>n.testBit k)=Cd n:=d;refine⟨trivial,by omega,by omega,λG a=>?_⟩;rw[dY,DB];refine cmapf (List.range<|Builtin.Int.intBits (n:Int)) B0 (λk=>n.testBit k) B0 (λp=>∃o,p=[o,oE n]) ⟨none,rfl⟩ Ac (seven<|by rw[eO];omega) (λ_=>trivial) ?_ ?_;rintro i k r u W z hk ⟨o,rfl⟩ w1 w2;have e:Builtin.bitAnd ((n:Int) / 2^(k:Int).toNat) 1=((n / 2^k%2:Nat):Int):=by rw[dY,show((n:Int) / 2^k)=((n / 2^k:Nat):Int) by rw[Int.natCast_ediv,Int.natCast_pow];rfl,show(1:Int)=((1:Nat):Int) from rfl,Yx,Nat.and_one_is_mod]
 have x:n.testBit k=decide (n / 2^k%2=1):=Nat.testBit_eq_decide_div_mod_eq;have j:PyData.eqv (.int<|Builtin.bitAnd ((n:Int) / 2^(k:Int).toNat) 1) (.int 1)=n.testBit k:=by rw[e,Rh,x];exact jH.mpr ⟨λh=>by omega,λh=>by omega⟩
 exact⟨dU _,Bz _,Bz _,br (λc=>w1 (j.symm.trans c) _ ⟨_,rfl⟩) λc=>w2 (j.symm.trans c) _ ⟨_,rfl⟩⟩
 rw[d];refine Ab (Am Ac)<|Ab (E3 _) ⟨_,Sub.refl,q _<|(Sub.refl.new a).new a⟩
def JS{n:Nat}(h:n<=300000):n<sizeLine:=fA h<|by decide
abbrev Pr:=Nat×Nat
def Gi(p:Pr):lA:=.tuple [.int (p.1:Nat),.int (p.2:Nat)]
def Ba(p:Pr):AV:=.D<|Gi p
def ewe(p o:Pr):Pr:=(max p.1 o.1,p.2 |||o.2)
def Os(p:Pr):oA Key×AV:=([.inl (p.1:Nat),.inl (p.2:Nat)],.D<|.bool true)
def adz(a:oA Pr)(z:Pr):oA Pr:=if z∈a then a else a++[z]
def JT{p q:Pr}(h:(Os p).1=(Os q).1):p=q:=by obtain⟨a,b⟩:=p;obtain⟨c,d⟩:=q;have h:([.inl ((a:Nat):Int),.inl ((b:Nat):Int)]:oA Key)=[.inl ((c:Nat):Int),.inl ((d:Nat):Int)]:=h;injection h with h1 h2;injection h2 with h2 _;have h1:=fU<|gL h1;have h2:=fU<|gL h2;rw[h1,h2]
def JU(b:oA Pr)(z:Pr):Dz (b.map Os) (Os z).1 (.D<|.bool true)=(adz b z).map Os:=by
 unfold Dz adz;by_cases h:z∈b;rw[T_<|aZ.mpr ⟨Os z,E_.mpr ⟨z,h,rfl⟩,aQ rfl⟩,T_ h,aF];refine eB λp _=>?_;show(if(Os p).1=(Os z).1 then((Os p).1,AV.D<|.bool true) else Os p)=Os p;split<;>rfl;rw[O_,O_ h,M_]
 rfl
 intro a;obtain⟨c,h1,h2⟩:=aZ.mp a;obtain⟨p,hp,rfl⟩:=E_.mp h1;rw[<- JT (aE h2)]at h;exact h hp
def DC{a:oA Pr}{z y:Pr}:y∈adz a z↔y∈a\/y=z:=by unfold adz;split;rename_i h;exact⟨.inl,λc=>c.elim id λe=>by rw[e];exact h⟩;rw[Q_,I_]
def JV{c:oA Pr}{z:Pr}(h:c.Nodup):(adz c z).Nodup:=by unfold adz;split;exact h;rename_i d;exact aY.mpr ⟨h,cQ.mpr ⟨by simp,bJ⟩,λa ha b hb e=>d<|by rw[I_.mp hb]at e;rw[<- e];exact ha⟩
def DE(a:oA Pr)(z:Pr):(adz a z).length<=a.length+1:=by unfold adz;split;exact bU _;rw[P_];exact F_ _
def Ot{a b:lA}{i j:Nat}{τ:ASt}{c:M}{R:ASt->M->Prop}(h:R ((τ.set i<|oF a).set j<|oF b) c):Fo (Ei i) (Fo (Ei j) Ps) (List.map AV.D [a,b]) τ c R:=h
def Cl{c b:M}{x:AV}{us:oA AV}(h:items c x=some us)(S:Sub c b):items b x=some us:=by
 cases x with
 |R a=>
  have h:(match c a with|some (.lst g)=>some g|_=>none)=some us:=h;cases e:c a with
  |none=>rw[e]at h;cases h
  |some m=>
   rw[e]at h;cases m with
   |lst g=>cases h;exact Am (S a _ e)
   |_=>cases h
 |D d=>cases d<;>exact h
 |_=>exact h
abbrev nEe:oA Str:=["pairs","others","found","cost","bits","other_cost","other_bits"]
def Ur:FnScope nEe qP (Ah YJ):=Bi<|by decide +kernel
def RJ:ASp:=λc b R=>∃(x y:AV) (P O:oA Pr),c=[x,y]/\items b x=some (P.map Ba)/\items b y=some (O.map Ba)/\P.length*O.length<=200000/\∀(a:oA Pr) (l:lB) μ',(∀z,z∈a↔∃p∈P,∃o∈O,z=ewe p o)->a.Nodup->a.length<=P.length*O.length->b l=none->μ' l=oG (a.map Ba)->Sub b μ'->R (.R l) μ'
def RK{n:Nat}(F:Fun K "each_with_each" "each_with_each" YJ f fd) (Y:mg "max" = none) (W:mg "list" = none):FnOk P w K mg base Cm (n+1) f fd qP (Dj K 2 RJ):=by
 refine F.vok Ur λav A Q s H E hr=>⟨_,(Ae (Aq (i:=2) Ur.nd rfl oH Ez)<|Ae (B3 aA rfl (Be<|vv 0) (Di (n:=2) rfl<|Av (Ak (i:=3) Ur.nd rfl oH)<|Av (Ak (i:=4) Ur.nd rfl oH) B2)<|Ai<|B3 aA rfl (Be<|vv 1) (Di (n:=2) rfl<|Av (Ak (i:=5) Ur.nd rfl oH)<|Av (Ak (i:=6) Ur.nd rfl oH) B2)<|Ai<|C1 (Bu hr) (vv 2) (Bc<|Aa (Ay (V4 rfl) rfl Y jC<|Aa (vv 3)<|Aa (vv 5) Ad)<|Aa (A9 ER (vv 4)<|vv 6) Ad) Fe)<|Ai<|Aw<|Bv (CC rfl) rfl W PyProof.Rows.boot_list<|Aa (vv 2) Ad),?_⟩
 rintro xs t R _ ⟨x,y,P,O,rfl,hx,hy,hn,q⟩;intro d C;have S0:Sub t (Ao t d<|.dt []):=Sub.refl.new C;refine Az (λr g=>∃I G c m,∃a:oA Pr,r=[some x,some y,oD d,I,G,c,m]/\(∀z,z∈a↔∃p∈P,∃o∈O,z=ewe p o)/\a.Nodup/\a.length<=P.length*O.length/\g=Ao t d (.dt<|a.map Os)) (λZ hZ=>?_) ?_;refine Ab (Cl hx S0) ?_;refine Ci (λi r g=>∃I G c m,∃a:oA Pr,r=[some x,some y,oD d,I,G,c,m]/\(∀z,z∈a↔∃p∈P.take i,∃o∈O,z=ewe p o)/\a.Nodup/\a.length<=i*O.length/\g=Ao t d (.dt<|a.map Os)) ⟨none,none,none,none,[],rfl,by simp,bJ,aN _,rfl⟩ (by rintro _ _ _ ⟨_,_,_,_,_,_,_,_,_,e⟩;subst e;exact Cl hx<|Sub.refl.new C) ?_ ?_;rintro i v r _ Z2 hv ⟨I,G,c,m,a,rfl,B,hnd,J,rfl⟩ hZ2;rw[L_]at hv;obtain⟨p,hp,rfl⟩:=H_.mp hv;have hi:=(D_.mp hp).1;have bo:P.take (i+1)=P.take i++[p]:=by rw[aG,hp];rfl
 refine⟨rfl,Ot ?_⟩;dsimp only[List.set];refine Ab (Cl hy<|Sub.refl.new C) ?_;have xc:(i+1)*O.length<=P.length*O.length:=jO _ hi;have j9:(i+1)*O.length=i*O.length+O.length:=Nat.succ_mul _ _;refine Ci (λj r g=>∃c m,∃b:oA Pr,r=[some x,some y,oD d,oE (p.1:Nat),oE (p.2:Nat),c,m]/\(∀z,z∈b↔z∈a\/∃o∈O.take j,z=ewe p o)/\b.Nodup/\b.length<=i*O.length+j/\g=Ao t d (.dt<|b.map Os)) ⟨c,m,a,rfl,by simp,hnd,J,rfl⟩ (by rintro _ _ _ ⟨_,_,_,_,_,_,_,e⟩;subst e;exact Cl hy<|Sub.refl.new C) ?_ ?_;rintro j u r _ Z3 hu ⟨c,m,b,rfl,L,k,V,rfl⟩ b9;rw[L_]at hu;obtain⟨o,U,rfl⟩:=H_.mp hu;have hj:=(D_.mp U).1;have M:O.take (j+1)=O.take j++[o]:=by rw[aG,U];rfl
 refine⟨rfl,Ot ?_⟩;dsimp only[List.set];have ec:(if((o.1:Nat):Int)>((p.1:Nat):Int) then((o.1:Nat):Int) else((p.1:Nat):Int))=(((ewe p o).1:Nat):Int):=by show _=((max p.1 o.1:Nat):Int);split<;>omega
 have eb:Builtin.bitOr ((p.2:Nat):Int) ((o.2:Nat):Int)=(((ewe p o).2:Nat):Int):=R5 _ _;have X:dput (.dt<|b.map Os) (.tuple [.int<|if((o.1:Nat):Int)>((p.1:Nat):Int) then((o.1:Nat):Int) else((p.1:Nat):Int),.int<|Builtin.bitOr ((p.2:Nat):Int) ((o.2:Nat):Int)]) (.D<|.bool true)=some (.dt<|(adz b<|ewe p o).map Os):=by rw[ec,eb,<- JU];rfl
 refine Ab Ac (Ab X ⟨JS<|show(b.map Os).length<=300000 by rw[B_];omega,b9 _ _ ⟨_,_,adz b<|ewe p o,rfl,λz=>?_,JV k,?_,?_⟩⟩);rw[DC,L,M];constructor;rintro((h|⟨N,h1,h2⟩)|h);exact .inl h;exact .inr ⟨N,Y_ _ h1,h2⟩;exact .inr ⟨o,by simp,h⟩;rintro(h|⟨N,h1,h2⟩);exact .inl<|.inl h;rcases Q_.mp h1 with h1|h1;exact .inl<|.inr ⟨N,h1,h2⟩;rw[I_.mp h1]at h2;exact .inr h2;have:=DE b<|ewe p o;omega;rw[Bk];rintro r _ ⟨c,m,b,rfl,L,k,V,rfl⟩;rw[B_]at L V;rw[aB]at L;refine hZ2 _ _ ⟨_,_,_,_,b,rfl,λz=>?_,k,by omega,rfl⟩;rw[L,B,bo];constructor;rintro(⟨S,h1,h2⟩|h);exact⟨S,Y_ _ h1,h2⟩;exact⟨p,by simp,h⟩;rintro⟨S,h1,h2⟩;rcases Q_.mp h1 with h1|h1;exact .inl ⟨S,h1,h2⟩;rw[I_.mp h1]at h2;exact .inr h2;rintro r _ ⟨I,G,c,m,a,rfl,B,hnd,J,rfl⟩;rw[B_]at B J;rw[aB]at B;exact hZ _ _ ⟨_,_,_,_,a,rfl,B,hnd,J,rfl⟩;rintro r _ ⟨I,G,c,m,a,rfl,B,hnd,J,rfl⟩;refine Ab Ac λl T=>⟨_,Sub.refl,q a l _ B hnd J ((Sub.refl.new C:Sub t _).none T) ?_<|(Sub.refl.new C:Sub t _).new<|(Sub.refl.new C:Sub t _).none T⟩;rw[Ac,aF];rfl
def Ou(P:oA Pr):dats (P.map Ba)=some (P.map Gi):=by rw[show P.map Ba=(P.map Gi).map .D by rw[aF];rfl];exact Bx _
def R6(p q:Pr):cmpb (Gi p) (Gi q)=true:=by show cmpbs [.int _,.int _] [.int _,.int _]=true;simp only[cmpbs];split;split<;>simp only[cmpb];simp only[cmpb]
def Ov(p:Pr):Cp (Gi p):=⟨rfl,by show PyData.depth (.tuple [.int _,.int _])<=64;simp[PyData.depth,PyData.depthAll]⟩
theorem R7:∀P:oA Pr,PyData.canLayAll0 (P.map Gi)=true/\PyData.depthAll (P.map Gi)<=64
 |[]=>⟨rfl,by simp[PyData.depthAll]⟩
 |p::P=>by obtain⟨a,b⟩:=R7 P;obtain⟨c,d⟩:=Ov p;refine⟨?_,?_⟩;simp only[List.map_cons,PyData.canLayAll0,c,a,Bool.and_self];simp only[List.map_cons,PyData.depthAll];omega
def Yy{P:oA Pr}(h:P.length<=5000):SortOkP (P.map Gi):=by obtain⟨a,b⟩:=R7 P;refine⟨by rw[B_];omega,a,b,λd c=>?_,λd c e he=>?_⟩;obtain⟨p,_,rfl⟩:=E_.mp c;exact⟨_,_,rfl⟩;obtain⟨p,_,rfl⟩:=E_.mp c;obtain⟨q,_,rfl⟩:=E_.mp he;exact R6 p q
def Yz{es:oA lA}{P:oA Pr}(h:es.Perm<|P.map Gi):∃a:oA Pr,es=a.map Gi/\a.Perm P:=by obtain⟨a,e,hp⟩:=Dp h P rfl;exact⟨a,e,hp⟩
def Wn(z y:Pr):Prop:=∀t,z.2.testBit t=true->y.2.testBit t=true
def Mp{z y:Pr}:z.2 &&& y.2=z.2↔Wn z y:=by
 constructor;intro h t a;have:=b_ (λn=>n.testBit t) h;simp only[Nat.testBit_and,a,Bool.true_and]at this;exact this
 ·intro h;refine Nat.eq_of_testBit_eq λt=>?_;rw[Nat.testBit_and];cases e:z.2.testBit t with
  |true=>rw[h t e];rfl
  |false=>rfl
def Wn.refl(z:Pr):Wn z z:=λ_ h=>h
def Wn.trans{a b c:Pr}(h:Wn a b)(k:Wn b c):Wn a c:=λt d=>k t<|h t d
def F3{a c:M}{p:lB}{o:MO}(S:Sub a c)(h:a p=none):Sub a (Ao c p o):=λb m hb=>by rw[Af<|by rintro rfl;rw[h]at hb;cases hb];exact S b m hb
abbrev nHw:oA Str:=["lows","bits","low"]
def RL:FnScope nHw qF (Ah YE):=Bi<|by decide +kernel
def JW:ASp:=λe c R=>∃(a:lB) (d:oA Nat) (b:Nat),e=[.R a,.D<|.int (b:Nat)]/\c a=oG (d.map B0)/\R (.D<|.bool<|d.any λl=>decide (l &&& b=l)) c
def RM{n:Nat}(F:Fun K "has_within" "has_within" YE f fd):FnOk P w K mg base Cm (n+1) f fd qF (Dj K 2 JW):=by
 refine F.vok RL λy A j s H E t=>⟨_,(Ae (B3 aA rfl (Be<|vv 0) (Ak (i:=2) RL.nd rfl oH)<|Ai<|B9 (A7 (D9 t) (A9 Xh (vv 2)<|vv 1) (vv 2)<|nomark _) (Ai<|Aw Fe) Bh)<|Ai<|Aw Fe),?_⟩
 rintro u p R _ ⟨a,m,b,rfl,ha,q⟩;refine Az (λh d=>p=d/\(m.any λl=>decide (l &&& b=l))=false) (λZ r=>?_) ?_;refine Ab (Am ha) ?_;refine Ci (λi h d=>∃o,h=[oD a,oE (b:Nat),o]/\p=d/\((m.take i).any λl=>decide (l &&& b=l))=false) ⟨none,rfl,rfl,rfl⟩ (by rintro _ _ _ ⟨_,_,e,_⟩;rw[<- e];exact Am ha) ?_ ?_;rintro i v h _ x hv ⟨o,rfl,rfl,g⟩ hZ2;rw[L_]at hv;obtain⟨l,k,rfl⟩:=H_.mp hv;have hb:Builtin.bitAnd ((l:Nat):Int) ((b:Nat):Int)=((l &&& b:Nat):Int):=rfl;refine ieq (λc=>⟨_,Sub.refl,?_⟩) λc=>hZ2 _ _ ⟨_,rfl,rfl,?_⟩;rw[aZ.mpr ⟨l,X_ k,aQ<|fU c⟩]at q;exact q;rw[Yd k,g,kD];exact aH λe=>c<|b_ Int.ofNat e;rintro h _ ⟨o,rfl,rfl,g⟩;rw[B_,aB]at g;exact r _ _ ⟨rfl,g⟩;rintro h _ ⟨rfl,g⟩;rw[g]at q;exact⟨_,Sub.refl,q⟩
abbrev nLa:oA Str:=["pairs","kept","lows","cost","bits"]
def Y0:FnScope nLa oN (Ah YF):=Bi<|by decide +kernel
structure CvA(P zs:oA Pr):Prop where
 m:∀z∈zs,z∈P
 c:∀y∈P,∃z∈zs,Wn z y
 u:(zs.map (·.2)).Nodup
def Qv{a:oA Pr}(h:(a.map (·.2)).Nodup)(hb:∀z∈a,z.2<32):a.length<=32:=by
 have:=F9 (ys:=List.range 32) h λb c=>by obtain⟨z,hz,rfl⟩:=E_.mp c;exact cZ.mpr<|hb z hz
 rwa[B_,eO]at this
def JX:ASp:=λd b R=>∃(a:lB) (P:oA Pr),d=[.R a]/\b a=oG (P.map Ba)/\P.length<=5000/\(∀p∈P,p.2<32)/\∀(c:oA Pr) (l:lB) μ',CvA P c->b l=none->μ' l=oG (c.map Ba)->Sub b μ'->R (.R l) μ'
def RN{n:Nat}(F:Fun K "least_alone" "least_alone" YF f fd) (x6:VCal P w K mg base n "has_within" qF JW) (ay:mg "sorted" = none):FnOk P w K mg base Cm (n+1) f fd oN (Dj K 1 JX):=by
 refine F.vok Y0 λav A outer s H E hr=>⟨_,(Ae (Aq (i:=1) Y0.nd rfl oH<|Cb Ad)<|Ae (Aq (i:=2) Y0.nd rfl oH<|Cb Ad)<|Ae (B3 aA rfl (Be<|Ay (Hz hr) rfl ay fS<|Aa (vv 0) Ad) (Di (n:=2) rfl<|Av (Ak (i:=3) Y0.nd rfl oH)<|Av (Ak (i:=4) Y0.nd rfl oH) B2)<|Ai<|B9 (Lz<|E9<|Al x6 hr rfl<|Aa (vv 2)<|Aa (vv 4) Ad) (Ae (Ch<|Ff bV bW Dl (vv 1)<|Aa (Bc<|Aa (vv 3)<|Aa (vv 4) Ad) Ad)<|Ai<|Ch<|Ff bV bW Dl (vv 2)<|Aa (vv 4) Ad) Bh)<|Ai<|Aw<|vv 1),?_⟩
 rintro xs o R _ ⟨a,P,rfl,ha,hP,hb,q⟩;intro g N k r;have X:Sub o (Ao (Ao o g<|.lst []) k<|.lst []):=(Sub.refl.new N).new<|(Sub.refl.new N:Sub o _).none r;have cj:g≠k:=by rintro rfl;rw[Ac]at r;cases r
 have l0:o k=none:=(Sub.refl.new N:Sub o<|Ao o g<|.lst []).none r;have ek:Ao (Ao o g<|.lst []) k (.lst []) g=oG []:=by rw[Af cj,Ac]
 have el:Ao (Ao o g<|.lst []) k (.lst []) k=oG []:=Ac;generalize Ao (Ao o g<|.lst []) k (.lst [])=μ1 at X ek el;refine Az (λI j=>∃G B,∃d:oA Pr,I=[oD a,oD g,oD k,G,B]/\j g=oG (d.map Ba)/\CvA P d/\Sub o j) (λZ hZ=>?_) ?_
 ·refine Ab (X _ _ ha)<|Ab (Ou P) ⟨Yy hP,λes p hp O=>?_⟩;obtain⟨Q,rfl,hQ⟩:=Yz hp;have j6:g≠p:=by rintro rfl;rw[ek]at O;cases O
  have J:k≠p:=by rintro rfl;rw[el]at O;cases O
  have L:Ao μ1 p (.lst<|(Q.map Gi).map .D) p=oG (Q.map Ba):=by rw[Ac,aF];rfl
  have k2:Ao μ1 p (.lst<|(Q.map Gi).map .D) g=oG []:=by rw[Af j6];exact ek
  have l2:Ao μ1 p (.lst<|(Q.map Gi).map .D) k=oG []:=by rw[Af J];exact el
  have W:Sub o (Ao μ1 p<|.lst<|(Q.map Gi).map .D):=X.new<|X.none O;generalize Ao μ1 p (.lst<|(Q.map Gi).map .D)=T at L k2 l2 W;refine Ab (Am L) ?_;refine Ci (λi I j=>∃G B,∃d:oA Pr,I=[oD a,oD g,oD k,G,B]/\j g=oG (d.map Ba)/\j k=oG ((d.map (·.2)).map B0)/\j p=oG (Q.map Ba)/\d.length<=i/\CvA (Q.take i) d/\Sub o j) ⟨none,none,[],rfl,k2,l2,L,F_ _,⟨(λ_ h=>nomatch h),(λ_ h=>nomatch h),bJ⟩,W⟩ (by rintro _ _ _ ⟨_,_,_,_,_,_,e,_⟩;exact Am e) ?_ ?_
  ·rintro i v I S Z2 hv ⟨G,B,d,rfl,M,V,e3,x,C,U⟩ hZ2;rw[L_]at hv;obtain⟨y,hy,rfl⟩:=H_.mp hv;have hi:=(D_.mp hy).1;have hQl:Q.length=P.length:=hQ.length_eq;have Y:Q.take (i+1)=Q.take i++[y]:=by rw[aG,hy];rfl
   refine⟨rfl,Ot ⟨k,d.map (·.2),y.2,rfl,V,?_⟩⟩;cases hh:(d.map (·.2)).any λl=>decide (l &&& y.2=l) with
   |true=>refine J5 rfl<|hZ2 _ _ ⟨_,_,d,rfl,M,V,e3,bK x,⟨λz hz=>?_,λu hu=>?_,C.u⟩,U⟩;rw[Y];exact Y_ _<|C.m z hz;rw[Y]at hu;rcases Q_.mp hu with hu|hu;exact C.c u hu;rw[I_.mp hu];obtain⟨b,h8,e⟩:=aZ.mp hh;obtain⟨z,hz,rfl⟩:=E_.mp h8;exact⟨z,hz,Mp.mp<|aE e⟩
   |false=>
    have cf:∀z∈d,¬Wn z y:=λz hz hw=>by have:=List.any_eq_false.mp hh z.2<|E_.mpr ⟨z,hz,rfl⟩;exact this<|aQ<|Mp.mpr hw
    refine J4 rfl (Cg ⟨Ab M trivial,Ab M ⟨JS<|by rw[B_];omega,?_⟩⟩);have l4:Ao S g (.lst<|d.map Ba++[Ba y]) k=oG ((d.map (·.2)).map B0):=by rw[Af cj.symm];exact V
    refine⟨Ab l4 trivial,Ab l4 ⟨JS<|by rw[B_,B_];omega,hZ2 _ _ ⟨_,_,d++[y],rfl,by rw[Af cj,Ac,M_];rfl,by rw[Ac,M_,M_];rfl,by rw[Af J.symm,Af j6.symm];exact e3,by rw[P_];exact gQ x,⟨λz hz=>?_,λu hu=>?_,?_⟩,F3 (F3 U N) l0⟩⟩⟩;rw[Y];rcases Q_.mp hz with hz|hz;exact Y_ _<|C.m z hz;exact aK _ hz;rw[Y]at hu;rcases Q_.mp hu with hu|hu;obtain⟨z,hz,h⟩:=C.c u hu;exact⟨z,Y_ _ hz,h⟩;rw[I_.mp hu];exact⟨y,by simp,Wn.refl y⟩;rw[M_,aY];refine⟨C.u,by simp,λb h8 c hc e=>?_⟩;obtain⟨z,hz,rfl⟩:=E_.mp h8;have hc:c=y.2:=by simpa using hc
    exact cf z hz λt ht=>by rw[<- hc,<- e];exact ht
  rintro I S ⟨G,B,d,rfl,M,V,e3,x,C,U⟩;rw[B_,aB]at C;exact hZ _ _ ⟨_,_,d,rfl,M,⟨λz hz=>hQ.mem_iff.mp<|C.m z hz,λy hy=>C.c y<|hQ.mem_iff.mpr hy,C.u⟩,U⟩
 rintro I T ⟨G,B,d,rfl,L,C,W⟩;exact⟨_,Sub.refl,q d g T C N L W⟩
abbrev nTh:oA Str:=oU
def ZH:FnScope nTh oU (Ah YG):=Bi<|by decide +kernel
def DF:ASp:=λd b R=>∃(a:lB) (P:oA Pr),d=[.R a,.D<|.bool true]/\b a=oG (P.map Ba)/\P.length<=5000/\(∀p∈P,p.2<32)/\∀(c:oA Pr) (l:lB) μ',CvA P c->b l=none->μ' l=oG (c.map Ba)->Sub b μ'->R (.R l) μ'
def RO{n:Nat}(F:Fun K "thinned" "thinned" YG f fd) (i:VCal P w K mg base n "least_alone" oN JX) (p:mg "sorted" = none) (m:mg "set" = none):FnOk P w K mg base Cm (n+1) f fd oU (Dj K 2 DF):=by refine F.vok ZH λr A b s H E j=>⟨_,(Ai<|Aw<|Fn (E9<|vv 1) (Al i j rfl<|Aa (vv 0) Ad) OU),?_⟩;rintro k o R _ ⟨a,P,rfl,ha,h,hb,q⟩;exact J4 rfl ⟨a,P,rfl,ha,h,hb,λd l c C g e S=>⟨_,Sub.refl,q d l c C g e S⟩⟩
def cho:oA (oA Pr)->oA Pr:=List.foldl (λF G=>F.flatMap λp=>G.map<|ewe p) [(0,0)]
structure GrAt(μ:M)(ps:oA lB)(Gs:oA<|oA Pr):Prop where
 l:ps.length=Gs.length
 a:∀(i:Nat) p G,ps[i]?=some p->Gs[i]?=some G->μ p=oG (G.map Ba)
structure Cv(P zs:oA Pr):Prop where
 m:∀z∈zs,z∈P
 c:∀y∈P,∃z∈zs,Wn z y
 u:(zs.map (·.2)).Nodup
 b:∀z∈zs,z.2<32
def Cv.len{P a:oA Pr}(h:Cv P a):a.length<=32:=Qv h.u h.b
def Y1{p q r s:Pr}(h:Wn p q)(k:Wn r s):Wn (ewe p r) (ewe q s):=λt a=>by have a:(p.2 |||r.2).testBit t=true:=a;show(q.2 |||s.2).testBit t=true;rw[Nat.testBit_or,eQ]at a ⊢;exact a.imp (h t)<|k t
def Ow{Gs:oA<|oA Pr}{G:oA Pr}{z:Pr}:z∈cho (Gs++[G])↔∃y∈cho Gs,∃o∈G,z=ewe y o:=by unfold cho;rw[List.foldl_append,fK,List.foldl_nil,dE];constructor;rintro⟨y,h1,h2⟩;obtain⟨o,a,rfl⟩:=E_.mp h2;exact⟨y,h1,o,a,rfl⟩;rintro⟨y,h1,o,h2,rfl⟩;exact⟨y,h1,E_.mpr ⟨o,h2,rfl⟩⟩
abbrev nOe:oA Str:=yH
def DG:FnScope nOe oP (Ah YI):=Bi<|by decide +kernel
def JY:ASp:=λd a R=>∃(x:AV) (c:oA lB) (Gs:oA<|oA Pr),d=[x,.D<|.bool true]/\items a x=some (c.map .R)/\GrAt a c Gs/\(∀G∈Gs,G.length<=32/\∀p∈G,p.2<32)/\∀(b:oA Pr) (l:lB) μ',Cv (cho Gs) b->a l=none->μ' l=oG (b.map Ba)->Sub a μ'->R (.R l) μ'
def RP{n:Nat}(F:Fun K "one_of_each" "one_of_each" YI f fd) (ou:VCal P w K mg base n "thinned" oU DF) (W:VCal P w K mg base n "each_with_each" qP RJ):FnOk P w K mg base Cm (n+1) f fd oP (Dj K 2 JY):=by
 refine F.vok DG λav A Q s H E hr=>⟨_,(Ae (Aq (i:=2) DG.nd rfl oH<|Cb<|Aa (Bc<|Aa Ag<|Aa Ag Ad) Ad)<|Ae (B3 aA rfl (Be<|vv 0) (Ak (i:=3) DG.nd rfl oH)<|Ai<|Aq (i:=2) DG.nd rfl oH<|Al ou hr rfl<|Aa (Al W hr rfl<|Aa (vv 2)<|Aa (vv 3) Ad)<|Aa (vv 1) Ad)<|Ai<|Aw<|vv 2),?_⟩
 rintro xs h R _ ⟨x,ps,r,rfl,hx,hG,hb,q⟩;intro l0 Y;refine Az (λt e=>∃l k,∃d:oA Pr,t=[some x,oF<|.bool true,oD l,k]/\Cv (cho r) d/\h l=none/\e l=oG (d.map Ba)/\Sub h e) (λZ hZ=>?_) ?_;have S0:Sub h (Ao h l0<|.lst [Ba (0,0)]):=Sub.refl.new Y;refine Ab (Cl hx S0) ?_;refine Ci (λi t e=>∃l k,∃d:oA Pr,t=[some x,oF<|.bool true,oD l,k]/\Cv (cho<|r.take i) d/\h l=none/\e l=oG (d.map Ba)/\Sub h e) ⟨l0,none,[(0,0)],rfl,⟨λz hz=>hz,λy hy=>⟨y,hy,Wn.refl y⟩,by simp,λz hz=>by rw[I_.mp hz];decide⟩,Y,Ac,S0⟩ (by rintro _ _ _ ⟨_,_,_,_,_,_,_,S⟩;exact Cl hx S) ?_ ?_;rintro i v t g Z2 hv ⟨l,k,d,rfl,C,L,I,j⟩ hZ2;rw[L_]at hv;obtain⟨p,hp,rfl⟩:=H_.mp hv;have hi:i<r.length:=by rw[<- hG.l];exact(D_.mp hp).1
 have N:=J_ hi;generalize r[i]=G at N;have bo:r.take (i+1)=r.take i++[G]:=by rw[aG,N];rfl
 have eg:=j _ _<|hG.a i p G hp N;obtain⟨V,O⟩:=hb G<|X_ N;have xc:d.length*G.length<=32*32:=Nat.mul_le_mul C.len V;refine⟨.R l,.R p,d,G,rfl,Am I,Am eg,by omega,λys l2 X T hnd2 c9 rj e2 S2=>?_⟩;have J:∀z∈ys,z.2<32:=λz hz=>by obtain⟨y,h1,o,h2,rfl⟩:=(T z).mp hz;exact Nat.or_lt_two_pow (n:=5) (C.b y h1)<|O o h2
 refine⟨l2,ys,rfl,e2,by omega,J,λus l3 μ3 M U e3 S3=>?_⟩;have B:Sub h X:=λb m hb=>S2 b m<|j b m hb;refine hZ2 _ _ ⟨l3,_,us,rfl,⟨λz hz=>?_,λy hy=>?_,M.u,λz hz=>J z<|M.m z hz⟩,B.none U,e3,λb m hb=>S3 b m<|B b m hb⟩;obtain⟨y,h1,o,h2,rfl⟩:=(T z).mp<|M.m z hz;rw[bo];exact Ow.mpr ⟨y,C.m y h1,o,h2,rfl⟩;rw[bo]at hy;obtain⟨u,h1,o,h2,rfl⟩:=Ow.mp hy;obtain⟨y,h3,h4⟩:=C.c u h1;obtain⟨z,h5,h6⟩:=M.c (ewe y o)<|(T _).mpr ⟨y,h3,o,h2,rfl⟩;exact⟨z,h5,h6.trans<|Y1 h4<|Wn.refl o⟩;rintro t g ⟨l,k,d,rfl,C,L,I,j⟩;rw[B_,hG.l,aB]at C;exact hZ _ _ ⟨l,_,d,rfl,C,L,I,j⟩;rintro t g ⟨l,k,d,rfl,C,L,I,j⟩;exact⟨_,Sub.refl,q d l g C L I j⟩
abbrev nOa:oA Str:=yH
def JZ:FnScope nOa oP (Ah YH):=Bi<|by decide +kernel
def Us{a:Type}{Gs:oA<|oA a}{i:Nat}{G:oA a}(h:Gs[i]?=some G):(Gs.take<|i+1).flatten=(Gs.take i).flatten++G:=by rw[aG,h,List.flatten_append];simp
theorem Ju{a:Type}:∀{Gs:oA<|oA a},(∀G∈Gs,G.length<=32)->Gs.flatten.length<=32*Gs.length
 |[],_=>by simp
 |G::Gs,h=>by have h1:=h G aW;have h2:=Ju (Gs:=Gs) λb hG=>h b<|aJ _ hG;rw[j_,P_,bE];omega
def RQ:ASp:=λd a R=>∃(x:AV) (c:oA lB) (Gs:oA<|oA Pr),d=[x,.D<|.bool true]/\items a x=some (c.map .R)/\GrAt a c Gs/\Gs.length<=20/\(∀G∈Gs,G.length<=32/\∀p∈G,p.2<32)/\∀(b:oA Pr) (l:lB) μ',Cv Gs.flatten b->a l=none->μ' l=oG (b.map Ba)->Sub a μ'->R (.R l) μ'
def RS{n:Nat}(F:Fun K "one_of_any" "one_of_any" YH f fd) (M:VCal P w K mg base n "thinned" oU DF):FnOk P w K mg base Cm (n+1) f fd oP (Dj K 2 RQ):=by
 refine F.vok JZ λav A y s H E hr=>⟨_,(Ae (Aq (i:=2) JZ.nd rfl oH<|Cb Ad)<|Ae (B3 aA rfl (Be<|vv 0) (Ak (i:=3) JZ.nd rfl oH)<|Ai<|Ch<|Ff gZ g_ Je (vv 2)<|Aa (vv 3) Ad)<|Ai<|Aw<|Al M hr rfl<|Aa (vv 2)<|Aa (vv 1) Ad),?_⟩
 rintro xs t R _ ⟨x,ps,Gs,rfl,hx,hG,Q,hb,q⟩;intro o J;have k:∀z∈Gs.flatten,z.2<32:=λz hz=>by obtain⟨G,h1,h2⟩:=kM.mp hz;exact(hb G h1).2 z h2
 refine Az (λh b=>∃g,h=[some x,oF<|.bool true,oD o,g]/\b o=oG (Gs.flatten.map Ba)/\Sub t b) (λZ V=>?_) ?_;have L:Sub t (Ao t o<|.lst []):=Sub.refl.new J;refine Ab (Cl hx L) ?_;refine Ci (λi h b=>∃g,h=[some x,oF<|.bool true,oD o,g]/\b o=oG ((Gs.take i).flatten.map Ba)/\Sub t b) ⟨none,rfl,Ac,L⟩ (by rintro _ _ _ ⟨_,_,_,S⟩;exact Cl hx S) ?_ ?_;rintro i v h j Z2 hv ⟨g,rfl,d,e⟩ hZ2;rw[L_]at hv;obtain⟨p,hp,rfl⟩:=H_.mp hv;have hi:i<Gs.length:=by rw[<- hG.l];exact(D_.mp hp).1
 have r:=J_ hi;generalize Gs[i]=G at r;have X:=e _ _<|hG.a i p G hp r;have zad:=(hb G<|X_ r).1;have B:=Ju (Gs:=Gs.take i) λW T=>(hb W<|fP T).1;have Y:(Gs.take i).length<=20:=by rw[bD];omega
 refine⟨Ab d trivial,Ab d<|Ab X ⟨cX<|JS<|by rw[B_,B_];omega,hZ2 _ _ ⟨_,rfl,?_,e.new J⟩⟩⟩;rw[Ac,Us r,M_];rintro h j ⟨g,rfl,d,e⟩;rw[B_,hG.l,aB]at d;exact V _ _ ⟨_,rfl,d,e⟩;rintro h j ⟨g,rfl,d,e⟩;have B:=Ju λG hG=>(hb G hG).1;exact⟨_,Gs.flatten,rfl,d,by omega,k,λN l I C U e2 O=>⟨_,Sub.refl,q N l I ⟨C.m,C.c,C.u,λz hz=>k z<|C.m z hz⟩ (e.none U) e2<|e.trans O⟩⟩
structure Ar where
 p:Nat
 x:Nat
 ts:oA Nat
 c:Nat
def arD(a:Ar):lA:=.tuple [.int (a.p:Nat),.int (a.x:Nat),A3 a.ts,.int (a.c:Nat)]
def R8(a:Ar):AV:=.D<|arD a
def Ek(k:Nat×Nat)(a:Ar):Bool:=decide (a.p=k.1)&&decide (a.x=k.2)
def grp(A:oA Ar)(k:Nat×Nat):oA Pr:=(A.filter<|Ek k).map λa=>(a.c,bts a.ts)
def kvT(e:(Nat×Nat)×lB):oA Key×AV:=([.inl (e.1.1:Nat),.inl (e.1.2:Nat)],.R e.2)
structure TopW(μ0 μ:M)(d:lB)(A:oA Ar)(K:Nat×Nat->Prop)(kvs:oA<|(Nat×Nat)×lB):Prop where
 dd:μ d=some (.dt<|kvs.map kvT)
 ll:∀e∈kvs,μ e.2=oG ((grp A e.1).map Ba)
 kk:∀k,(∃e∈kvs,e.1=k)↔K k
 uu:(kvs.map (·.1)).Nodup
 vv:(kvs.map (·.2)).Nodup
 fd:μ0 d=none
 fe:∀e∈kvs,μ0 e.2=none/\e.2≠d
 ss:Sub μ0 μ
def Y2(a b:M)(d:lB)(A:oA Ar)(kvs:oA<|(Nat×Nat)×lB):Prop:=TopW a b d A (λk=>grp A k≠[]) kvs
def Mq{k l:Nat×Nat}(h:([.inl (k.1:Nat),.inl (k.2:Nat)]:oA Key)=[.inl (l.1:Nat),.inl (l.2:Nat)]):k=l:=by injection h with h1 h2;injection h2 with h2 _;exact kY (fU<|gL h1)<|fU<|gL h2
theorem Gc:∀{kvs:oA<|(Nat×Nat)×lB} {e:(Nat×Nat)×lB},(kvs.map (·.1)).Nodup->e∈kvs->Bw (kvs.map kvT) [.inl (e.1.1:Nat),.inl (e.1.2:Nat)]=oD e.2
 |x::kvs,e,a,he=>by
  rw[aS];rw[aS,cQ]at a;by_cases h:x.1=e.1;have hx:e=x:=by
   rcases aD.mp he with rfl|he
   rfl
   exact absurd (E_.mpr ⟨e,he,h.symm⟩) a.1
  subst hx;exact D4;have b:e∈kvs:=by rcases aD.mp he with rfl|he;exact absurd rfl h;exact he
  rw[show Bw (kvT x::kvs.map kvT) [.inl (e.1.1:Nat),.inl (e.1.2:Nat)]=Bw (kvs.map kvT) [.inl (e.1.1:Nat),.inl (e.1.2:Nat)] from De λz=>h<|Mq z];exact Gc a.2 b
theorem Hk:∀{kvs:oA<|(Nat×Nat)×lB} {k:Nat×Nat},(∀e∈kvs,e.1≠k)->Bw (kvs.map kvT) [.inl (k.1:Nat),.inl (k.2:Nat)]=none
 |[],_,_=>rfl
 |x::kvs,k,h=>by rw[aS,show Bw (kvT x::kvs.map kvT) [.inl (k.1:Nat),.inl (k.2:Nat)]=Bw (kvs.map kvT) [.inl (k.1:Nat),.inl (k.2:Nat)] from De λz=>h x aW<|Mq z];exact Hk λe he=>h e<|aJ _ he
def F4{kvs:oA<|(Nat×Nat)×lB}{k:Nat×Nat}{z:lB}(h:∀e∈kvs,e.1≠k):Dz (kvs.map kvT) [.inl (k.1:Nat),.inl (k.2:Nat)] (.R z)=(kvs++[(k,z)]).map kvT:=by
 unfold Dz;rw[O_,M_]
 rfl
 intro a;obtain⟨b,h1,h2⟩:=aZ.mp a;obtain⟨e,he,rfl⟩:=E_.mp h1;exact h e he<|Mq<|aE h2
def Ox{kvs:oA<|(Nat×Nat)×lB}{e f:(Nat×Nat)×lB}(h:(kvs.map (·.1)).Nodup)(he:e∈kvs)(b:f∈kvs)(c:e.1=f.1):e=f:=by
 induction kvs with
 |nil=>cases he
 |cons x r a=>rw[aS,cQ]at h;rcases aD.mp he with h1|h1<;>rcases aD.mp b with h2|h2;rw[h1,h2];exact absurd (E_.mpr ⟨f,h2,by rw[<- h1];exact c.symm⟩) h.1;exact absurd (E_.mpr ⟨e,h1,by rw[<- h2];exact c⟩) h.1;exact a h.2 h1 h2
def Lj{kvs:oA<|(Nat×Nat)×lB}{e f:(Nat×Nat)×lB}(h:(kvs.map (·.2)).Nodup)(he:e∈kvs)(b:f∈kvs)(c:e.2=f.2):e=f:=by
 induction kvs with
 |nil=>cases he
 |cons x r a=>rw[aS,cQ]at h;rcases aD.mp he with h1|h1<;>rcases aD.mp b with h2|h2;rw[h1,h2];exact absurd (E_.mpr ⟨f,h2,by rw[<- h1];exact c.symm⟩) h.1;exact absurd (E_.mpr ⟨e,h1,by rw[<- h2];exact c⟩) h.1;exact a h.2 h1 h2
def Oy(A:oA Ar)(a:Ar)(k:Nat×Nat):grp (A++[a]) k=grp A k++(if Ek k a then [(a.c,bts a.ts)] else []):=by unfold grp;rw[gE,M_,gO,List.filter_nil];split<;>rfl
def Jv(a:Ar):Ek (a.p,a.x) a=true:=by unfold Ek;simp
def Mr{a:Ar}{k:Nat×Nat}(h:k≠(a.p,a.x)):Ek k a=false:=by unfold Ek;rw[<- Bool.decide_and];exact aH λc=>h<|kY c.1.symm c.2.symm
def ZI{a b c d:lA}{i j k l:Nat}{τ:ASt}{e:M}{R:ASt->M->Prop}(h:R ((((τ.set i<|oF a).set j<|oF b).set k<|oF c).set l<|oF d) e):Fo (Ei i) (Fo (Ei j)<|Fo (Ei k)<|Fo (Ei l) Ps) (List.map AV.D [a,b,c,d]) τ e R:=h
abbrev nAt:oA Str:=["arrows","tops","stand","letter","targets","cost"]
def Ut:FnScope nAt ["arrows"] (Ah YK):=Bi<|by decide +kernel
def RT:ASp:=λg e R=>∃(x:AV) (A:oA Ar),g=[x]/\items e x=some (A.map R8)/\A.length<=300/\(∀a∈A,∀t∈a.ts,t<5)/\∀d c b,Y2 e b d A c->R (.R d) b
def RU{n:Nat}(F:Fun K "arrows_by_top" "arrows_by_top" YK f fd) (x4:VCal P w K mg base n "as_bits" ["stands"] JQ):FnOk P w K mg base Cm (n+1) f fd ["arrows"] (Dj K 1 RT):=by
 refine F.vok Ut λav A outer s H E hr=>⟨_,(Ae (Aq (i:=1) Ut.nd rfl oH Ez)<|Ae (B3 aA rfl (Be<|vv 0) (Di (n:=4) rfl<|Av (Ak (i:=2) Ut.nd rfl oH)<|Av (Ak (i:=3) Ut.nd rfl oH)<|Av (Ak (i:=4) Ut.nd rfl oH)<|Av (Ak (i:=5) Ut.nd rfl oH) B2)<|Ae (Ch<|Xi (Bu hr) (vv 1) (Bc<|Aa (vv 2)<|Aa (vv 3) Ad)<|Cb Ad)<|Ai<|Ch<|Ff bV bW Dl (C0 (Bu hr) (vv 1)<|Bc<|Aa (vv 2)<|Aa (vv 3) Ad)<|Aa (Bc<|Aa (vv 5)<|Aa (Al x4 hr rfl<|Aa (vv 4) Ad) Ad) Ad)<|Ai<|Aw<|vv 1),?_⟩
 rintro xs V R _ ⟨x,A,rfl,hx,hn,ht,q⟩;intro d Y;refine Az (λI r=>∃S O N M,∃g:oA<|(Nat×Nat)×lB,I=[some x,oD d,S,O,N,M]/\Y2 V r d A g) (λZ hZ=>?_) ?_;refine Ab (Cl hx<|Sub.refl.new Y) ?_;refine Ci (λi I r=>∃S O N M,∃g:oA<|(Nat×Nat)×lB,I=[some x,oD d,S,O,N,M]/\g.length<=i/\Y2 V r d (A.take i) g) ⟨none,none,none,none,[],rfl,aN _,⟨Ac,(λ_ h=>nomatch h),λk=>⟨(by rintro ⟨_,h,_⟩;exact nomatch h),λh=>absurd rfl h⟩,bJ,bJ,Y,(λ_ h=>nomatch h),Sub.refl.new Y⟩⟩ (by rintro _ _ _ ⟨_,_,_,_,_,_,_,T⟩;exact Cl hx T.ss) ?_ ?_;rintro i v I j Z2 hv ⟨S,O,N,M,g,rfl,Q,T⟩ hZ2;rw[L_]at hv;obtain⟨a,ha,rfl⟩:=H_.mp hv;have hi:=(D_.mp ha).1;have bo:A.take (i+1)=A.take i++[a]:=by rw[aG,ha];rfl
 refine⟨rfl,ZI ?_⟩;dsimp only[List.set];generalize hB:A.take i=B at T bo;refine Az (λI r=>∃g:oA<|(Nat×Nat)×lB,I=[some x,oD d,oE (a.p:Nat),oE (a.x:Nat),oF<|A3 a.ts,oE (a.c:Nat)]/\g.length<=i+1/\TopW V r d B (λk=>grp B k≠[]\/k=(a.p,a.x)) g) (λZ3 b9=>?_) ?_;refine⟨⟨_,T.dd,trivial⟩,λz hz=>Ab (x:=[.inl (a.p:Nat),.inl (a.x:Nat)]) rfl ?_⟩;have J:Sub j (Ao j z<|.lst []):=Sub.refl.new hz;have ez:Ao j z (.lst []) z=oG []:=Ac;have zd:z≠d:=by rintro rfl;rw[T.dd]at hz;cases hz
 have z0:V z=none:=T.ss.none hz;have zk:∀e∈g,e.2≠z:=λe he c=>by have:=T.ll e he;rw[c,hz]at this;cases this
 generalize Ao j z (.lst [])=u at J ez;refine Ab (J _ _ T.dd) ⟨A0<|by rw[B_];omega,λv hv=>?_,λhv=>?_⟩;have gl:∃e∈g,e.1=(a.p,a.x):=bO λU=>by rw[Hk (k:=(a.p,a.x)) λe he c=>U ⟨e,he,c⟩]at hv;cases hv
 refine b9 _ _ ⟨g,rfl,bK Q,⟨J _ _ T.dd,λe he=>J _ _<|T.ll e he,λk=>?_,T.uu,T.vv,T.fd,T.fe,λb m hb=>J b m<|T.ss b m hb⟩⟩;rw[T.kk];refine⟨.inl,λc=>c.elim id λc=>?_⟩;rw[c];exact(T.kk _).mp gl;have U:∀e∈g,e.1≠(a.p,a.x):=λe he c=>by have:=Gc T.uu he;rw[c]at this;rw[this]at hv;cases hv
 rw[F4 (k:=(a.p,a.x)) U];have g0:grp B (a.p,a.x)=[]:=bO λc=>by obtain⟨e,he,h⟩:=(T.kk _).mpr c;exact U e he h
 have ne:∀{b:lB},b≠d->Ao u d (.dt<|(g++[((a.p,a.x),z)]).map kvT) b=u b:=λh=>Af h;refine b9 _ _ ⟨g++[((a.p,a.x),z)],rfl,by rw[P_];show g.length+1<=_;exact gQ Q,⟨Ac,λe he=>?_,λk=>?_,?_,?_,T.fd,λe he=>?_,λb m hb=>?_⟩⟩;rcases Q_.mp he with he|he;rw[ne (T.fe e he).2];exact J _ _<|T.ll e he;rw[I_.mp he,ne zd,g0];exact ez;constructor;rintro⟨e,he,rfl⟩;rcases Q_.mp he with he|he;exact .inl<|(T.kk _).mp ⟨e,he,rfl⟩;rw[I_.mp he];exact .inr rfl;rintro(h|rfl);obtain⟨e,he,h⟩:=(T.kk k).mpr h;exact⟨e,Y_ _ he,h⟩;exact⟨((a.p,a.x),z),by simp,rfl⟩;rw[M_,aY];refine⟨T.uu,by simp,λx hx y hy e=>?_⟩;obtain⟨X,W,rfl⟩:=E_.mp hx;have hy:y=(a.p,a.x):=by simpa using hy
 exact U X W<|e.trans hy
 rw[M_,aY];refine⟨T.vv,by simp,λx hx y hy e=>?_⟩;obtain⟨X,W,rfl⟩:=E_.mp hx;have hy:y=z:=by simpa using hy
 exact zk X W<|e.trans hy
 rcases Q_.mp he with he|he;exact T.fe e he;rw[I_.mp he];exact⟨z0,zd⟩;rw[Af<|by rintro rfl;rw[T.fd]at hb;cases hb];exact J b m<|T.ss b m hb;clear Q T;rintro I u ⟨g,rfl,Q,T⟩;obtain⟨C,l,G⟩:=(T.kk (a.p,a.x)).mpr<|.inr rfl;have jl:=Gc T.uu l;rw[G]at jl;have lv:=T.ll C l;have ed:dget (.dt<|g.map kvT) (.tuple [.int (a.p:Nat),.int (a.x:Nat)])=some (some<|AV.R C.2):=by show some (Bw (g.map kvT) [.inl (a.p:Nat),.inl (a.x:Nat)])=_;rw[jl]
 refine Ab T.dd (Ab ed<|Ab (x:=AV.R C.2) rfl ⟨Ab lv trivial,_,a.ts,rfl,Bj a.ts,λt h=>Nat.lt_trans (ht a (X_ ha) t h)<|by decide,Ab lv ⟨?_,hZ2 _ _ ⟨_,_,_,_,g,rfl,Q,?_⟩⟩⟩);rw[B_];refine A0 ?_;unfold grp;rw[B_];have:=cB (Ek C.1) B;rw[<- hB,bD]at this;rw[<- hB];omega;rw[bo];have ne:∀{b:lB} {o:MO},b≠C.2->Ao u C.2 o b=u b:=λh=>Af h;refine⟨by rw[ne (T.fe C l).2.symm];exact T.dd,λe he=>?_,λk=>?_,T.uu,T.vv,T.fd,T.fe,λb m hb=>?_⟩;rw[Oy];by_cases L:e.1=(a.p,a.x);have:e=C:=Ox T.uu he l<|L.trans G.symm;subst this;rw[Ac,G,Jv,T_ rfl,M_];rfl;have:e.2≠C.2:=λc=>L (by rw[Lj T.vv he l c];exact G);rw[ne this,Mr L,O_ V_,cP];exact T.ll e he;rw[T.kk,Oy];by_cases hk:k=(a.p,a.x);rw[hk,Jv,T_ rfl];exact⟨λ_=>by simp,λ_=>.inr rfl⟩;rw[Mr hk,O_ V_,cP];exact⟨λc=>c.elim id λc=>absurd c hk,.inl⟩;rw[ne<|by rintro rfl;rw[(T.fe C l).1]at hb;cases hb];exact T.ss b m hb;rintro I j ⟨S,O,N,M,g,rfl,Q,T⟩;rw[B_,aB]at T;exact hZ _ _ ⟨_,_,_,_,g,rfl,T⟩;rintro I j ⟨S,O,N,M,g,rfl,T⟩;exact⟨_,Sub.refl,q d g j T⟩
def F5(k:Nat×Nat)(a:Rul):Bool:=decide (a.p=k.1)&&decide (a.x=k.2)
def rgp(A:oA Rul)(k:Nat×Nat):oA Rul:=A.filter<|F5 k
structure TpW(μ0 μ:M)(d:lB)(A:oA Rul)(K:Nat×Nat->Prop)(kvs:oA<|(Nat×Nat)×lB):Prop where
 dd:μ d=some (.dt<|kvs.map kvT)
 ll:∀e∈kvs,μ e.2=oG ((rgp A e.1).map D1)
 kk:∀k,(∃e∈kvs,e.1=k)↔K k
 uu:(kvs.map (·.1)).Nodup
 vv:(kvs.map (·.2)).Nodup
 fd:μ0 d=none
 fe:∀e∈kvs,μ0 e.2=none/\e.2≠d
 ss:Sub μ0 μ
def KA(a b:M)(d:lB)(A:oA Rul)(kvs:oA<|(Nat×Nat)×lB):Prop:=TpW a b d A (λk=>rgp A k≠[]) kvs
def Oz(A:oA Rul)(a:Rul)(k:Nat×Nat):rgp (A++[a]) k=rgp A k++(if F5 k a then [a] else []):=by unfold rgp;rw[gE,gO,List.filter_nil]
def O0(a:Rul):F5 (a.p,a.x) a=true:=by unfold F5;simp
def Y3{a:Rul}{k:Nat×Nat}(h:k≠(a.p,a.x)):F5 k a=false:=by unfold F5;rw[<- Bool.decide_and];exact aH λc=>h<|kY c.1.symm c.2.symm
abbrev nRt:oA Str:=["game","tops","rule"]
def KB:FnScope nRt ["game"] (Ah YL):=Bi<|by decide +kernel
def RV:ASp:=λc e R=>∃(g:Gam),c=[.D<|Bt g]/\g.rs.length<=300/\∀d b a,KA e a d g.rs b->R (.R d) a
def RW{n:Nat}(F:Fun K "rules_by_top" "rules_by_top" YL f fd):FnOk P w K mg base Cm (n+1) f fd ["game"] (Dj K 1 RV):=by
 refine F.vok KB λav A X s H E hr=>⟨_,(Ae (Aq (i:=1) KB.nd rfl oH Ez)<|Ae (B3 aA rfl (Be<|Au A8 (vv 0) Ag) (Ak (i:=2) KB.nd rfl oH)<|Ae (Ch<|Xi (Bu hr) (vv 1) (Cf (vv 2) Dc<|Cs Ag)<|Cb Ad)<|Ai<|Ch<|Ff bV bW Dl (C0 (Bu hr) (vv 1)<|Cf (vv 2) Dc<|Cs Ag)<|Aa (vv 2) Ad)<|Ai<|Aw<|vv 1),?_⟩
 rintro xs U R _ ⟨g,rfl,hn,q⟩;generalize Y:g.rs=A at hn q;have Q:∀ ν:M,items ν (.D<|.tuple<|A.map C9)=some (A.map D1):=λν=>by show some ((A.map C9).map AV.D)=_;rw[aF];rfl
 have j7:atI ([.tuple<|g.pl.map Ym,.tuple<|g.le.map .str,.tuple<|g.rs.map C9]:oA lA) (2:Int)=some (.tuple<|A.map C9):=by rw[Y];rfl
 intro d hd;refine Az (λI t=>∃O,∃j:oA<|(Nat×Nat)×lB,I=[oF<|Bt g,oD d,O]/\KA U t d A j) (λZ hZ=>?_) ?_;refine Ab j7<|Ab (Q _) ?_;refine Ci (λi I t=>∃O,∃j:oA<|(Nat×Nat)×lB,I=[oF<|Bt g,oD d,O]/\j.length<=i/\KA U t d (A.take i) j) ⟨none,[],rfl,aN _,⟨Ac,(λ_ h=>nomatch h),λk=>⟨(by rintro ⟨_,h,_⟩;exact nomatch h),λh=>absurd rfl h⟩,bJ,bJ,hd,(λ_ h=>nomatch h),Sub.refl.new hd⟩⟩ (λ_ _ _ _=>Q _) ?_ ?_;rintro i v I l Z2 hv ⟨O,j,rfl,N,T⟩ hZ2;rw[L_]at hv;obtain⟨a,ha,rfl⟩:=H_.mp hv;have hi:=(D_.mp ha).1;have bo:A.take (i+1)=A.take i++[a]:=by rw[aG,ha];rfl
 generalize hB:A.take i=B at T bo;refine Az (λI t=>∃j:oA<|(Nat×Nat)×lB,I=[oF<|Bt g,oD d,some<|D1 a]/\j.length<=i+1/\TpW U t d B (λk=>rgp B k≠[]\/k=(a.p,a.x)) j) (λZ3 b9=>?_) ?_;refine⟨⟨_,T.dd,trivial⟩,λz hz=>Ab (x:=[.inl (a.p:Nat),.inl (a.x:Nat)]) rfl ?_⟩;have J:Sub l (Ao l z<|.lst []):=Sub.refl.new hz;have ez:Ao l z (.lst []) z=oG []:=Ac;have zd:z≠d:=by rintro rfl;rw[T.dd]at hz;cases hz
 have z0:U z=none:=T.ss.none hz;have zk:∀e∈j,e.2≠z:=λe he c=>by have:=T.ll e he;rw[c,hz]at this;cases this
 generalize Ao l z (.lst [])=u at J ez;refine Ab (J _ _ T.dd) ⟨A0<|by rw[B_];omega,λv hv=>?_,λhv=>?_⟩;have gl:∃e∈j,e.1=(a.p,a.x):=bO λS=>by rw[Hk (k:=(a.p,a.x)) λe he c=>S ⟨e,he,c⟩]at hv;cases hv
 refine b9 _ _ ⟨j,rfl,bK N,⟨J _ _ T.dd,λe he=>J _ _<|T.ll e he,λk=>?_,T.uu,T.vv,T.fd,T.fe,λb m hb=>J b m<|T.ss b m hb⟩⟩;rw[T.kk];refine⟨.inl,λc=>c.elim id λc=>?_⟩;rw[c];exact(T.kk _).mp gl;have S:∀e∈j,e.1≠(a.p,a.x):=λe he c=>by have:=Gc T.uu he;rw[c]at this;rw[this]at hv;cases hv
 rw[F4 (k:=(a.p,a.x)) S];have g0:rgp B (a.p,a.x)=[]:=bO λc=>by obtain⟨e,he,h⟩:=(T.kk _).mpr c;exact S e he h
 have ne:∀{b:lB},b≠d->Ao u d (.dt<|(j++[((a.p,a.x),z)]).map kvT) b=u b:=λh=>Af h;refine b9 _ _ ⟨j++[((a.p,a.x),z)],rfl,by rw[P_];show j.length+1<=_;exact gQ N,⟨Ac,λe he=>?_,λk=>?_,?_,?_,T.fd,λe he=>?_,λb m hb=>?_⟩⟩;rcases Q_.mp he with he|he;rw[ne (T.fe e he).2];exact J _ _<|T.ll e he;rw[I_.mp he,ne zd,g0];exact ez;constructor;rintro⟨e,he,rfl⟩;rcases Q_.mp he with he|he;exact .inl<|(T.kk _).mp ⟨e,he,rfl⟩;rw[I_.mp he];exact .inr rfl;rintro(h|rfl);obtain⟨e,he,h⟩:=(T.kk k).mpr h;exact⟨e,Y_ _ he,h⟩;exact⟨((a.p,a.x),z),by simp,rfl⟩;rw[M_,aY];refine⟨T.uu,by simp,λx hx y hy e=>?_⟩;obtain⟨W,V,rfl⟩:=E_.mp hx;have hy:y=(a.p,a.x):=by simpa using hy
 exact S W V<|e.trans hy
 rw[M_,aY];refine⟨T.vv,by simp,λx hx y hy e=>?_⟩;obtain⟨W,V,rfl⟩:=E_.mp hx;have hy:y=z:=by simpa using hy
 exact zk W V<|e.trans hy
 rcases Q_.mp he with he|he;exact T.fe e he;rw[I_.mp he];exact⟨z0,zd⟩;rw[Af<|by rintro rfl;rw[T.fd]at hb;cases hb];exact J b m<|T.ss b m hb;clear N T;rintro I u ⟨j,rfl,N,T⟩;obtain⟨C,r,G⟩:=(T.kk (a.p,a.x)).mpr<|.inr rfl;have jl:=Gc T.uu r;rw[G]at jl;have lv:=T.ll C r;have ed:dget (.dt<|j.map kvT) (.tuple [.int (a.p:Nat),.int (a.x:Nat)])=some (some<|AV.R C.2):=by show some (Bw (j.map kvT) [.inl (a.p:Nat),.inl (a.x:Nat)])=_;rw[jl]
 refine Ab T.dd<|Ab ed<|Ab (x:=AV.R C.2) rfl ⟨Ab lv trivial,Ab lv ⟨?_,hZ2 _ _ ⟨_,j,rfl,N,?_⟩⟩⟩;rw[B_];refine A0 ?_;unfold rgp;have:=cB (F5 C.1) B;rw[<- hB,bD]at this;rw[<- hB];omega;rw[bo];have ne:∀{b:lB} {o:MO},b≠C.2->Ao u C.2 o b=u b:=λh=>Af h;refine⟨by rw[ne (T.fe C r).2.symm];exact T.dd,λe he=>?_,λk=>?_,T.uu,T.vv,T.fd,T.fe,λb m hb=>?_⟩;rw[Oz];by_cases L:e.1=(a.p,a.x);have:e=C:=Ox T.uu he r<|L.trans G.symm;subst this;rw[Ac,G,O0,T_ rfl,M_];rfl;have:e.2≠C.2:=λc=>L (by rw[Lj T.vv he r c];exact G);rw[ne this,Y3 L,O_ V_,cP];exact T.ll e he;rw[T.kk,Oz];by_cases hk:k=(a.p,a.x);rw[hk,O0,T_ rfl];exact⟨λ_=>by simp,λ_=>.inr rfl⟩;rw[Y3 hk,O_ V_,cP];exact⟨λc=>c.elim id λc=>absurd c hk,.inl⟩;rw[ne<|by rintro rfl;rw[(T.fe C r).1]at hb;cases hb];exact T.ss b m hb;rintro I l ⟨O,j,rfl,N,T⟩;rw[B_,aB]at T;exact hZ _ _ ⟨_,j,rfl,T⟩;rintro I l ⟨O,j,rfl,T⟩;exact⟨_,Sub.refl,q d j l T⟩
def hnd(g:Gam)(k:Nat×Nat):Nat:=(g.pl.map (·.2)).getD k.1 0
abbrev Tops:=Nat×Nat->oA Pr
def Kh(G:Tops)(s:Nat):oA Nat->oA Pr
 |[]=>[(0,bts [s])]
 |[x]=>G (s,x)
 |x::y::_=>(G (s,x)).flatMap λp=>(cho<|(Cd p.2).map λt=>G (t,y)).map λq=>(p.1+q.1,q.2)
def Gj(g:Gam)(G:Tops)(k:Nat×Nat):oA Pr:=if hnd g k=1 then cho ((rgp g.rs k).map λr=>Kh G r.q r.w) else((rgp g.rs k).map λr=>Kh G r.q r.w).flatten
def E4(G:Tops)(E:oA Nat):oA Nat->Nat->Prop
 |[],s=>s∈E
 |x::v,s=>∃p∈G (s,x),∀t∈Cd p.2,E4 G E v t
inductive Pre (g:Gam) (S:Nat->oA Nat->Prop):Nat->oA Nat->Prop where
 |say {p:Nat} {w:oA Nat}:p<g.pl.length->S p w->Pre g S p w
 |one {p x:Nat} {v:oA Nat} {r:Rul}:r∈rgp g.rs (p,x)->hnd g (p,x)≠1->Pre g S r.q (r.w++v)->Pre g S p (x::v)
 |all {p x:Nat} {v:oA Nat}:hnd g (p,x)=1->rgp g.rs (p,x)≠[]->(∀r∈rgp g.rs (p,x),Pre g S r.q<|r.w++v)->Pre g S p (x::v)
def Cz{n t:Nat}:t∈Cd n↔t<5/\n.testBit t=true:=by unfold Cd;rw[bH,cZ]
def Mu(p q:Pr)(t:Nat):(ewe p q).2.testBit t=(p.2.testBit t||q.2.testBit t):=Nat.testBit_or ..
def Y4{Q:Nat->Prop}{Gs:oA<|oA Pr}(h:∀G∈Gs,∃p∈G,∀t∈Cd p.2,Q t):∃z∈cho Gs,∀t∈Cd z.2,Q t:=by
 have b:∀(Gs:oA<|oA Pr) (F:oA Pr),(∀G∈Gs,∃p∈G,∀t∈Cd p.2,Q t)->(∃f∈F,∀t∈Cd f.2,Q t)->∃z∈Gs.foldl (λF G=>F.flatMap λp=>G.map<|ewe p) F,∀t∈Cd z.2,Q t:=by
  intro Gs
  induction Gs with
  |nil=>exact λF _ h=>h
  |cons G Gs d=>intro F h g;obtain⟨f,i,h1⟩:=g;obtain⟨p,hp,h2⟩:=h G<|.head _;refine d _ (λe hG=>h e<|.tail _ hG) ⟨ewe f p,dE.mpr ⟨f,i,E_.mpr ⟨p,hp,rfl⟩⟩,λt a=>?_⟩;obtain⟨c,hb⟩:=Cz.mp a;rw[Mu,eQ]at hb;exact hb.elim (λhb=>h1 t<|Cz.mpr ⟨c,hb⟩) λhb=>h2 t<|Cz.mpr ⟨c,hb⟩
 exact b Gs _ h ⟨(0,0),.head _,λt a=>absurd (Cz.mp a).2<|by rw[Nat.zero_testBit];decide⟩
def Y5{s:Nat}(b:s<5):Cd (bts [s])=[s]:=by
 have a:∀i:_root_.Fin 5,Cd (bts [i.val])=[i.val]:=by decide +kernel
 exact a ⟨s,b⟩
def R9{G:Tops}{E:oA Nat}{s:Nat}(b:s<5){u:oA Nat}(hu:u.length<=2){v:oA Nat}(h:E4 G E (u++v) s):∃z∈Kh G s u,∀t∈Cd z.2,E4 G E v t:=by
 match u,hu with
 |[],_=>refine⟨(0,bts [s]),.head _,λt a=>?_⟩;rw[Y5 b]at a;rw[I_.mp a];exact h
 |[x],_=>exact h
 |[x,y],_=>
  obtain⟨p,hp,h⟩:=h;obtain⟨q,hq,hb⟩:=Y4 (Q:=E4 G E v) (Gs:=(Cd p.2).map λt=>G (t,y)) λK c=>by obtain⟨t,a,rfl⟩:=E_.mp c;exact h t a
  exact⟨(p.1+q.1,q.2),dE.mpr ⟨p,hp,E_.mpr ⟨q,hq,rfl⟩⟩,hb⟩
structure RgOk(g:Gam):Prop where
 p:g.pl.length<=5
 q:∀r∈g.rs,r.q<g.pl.length/\r.w.length<=2
def Under(P Q:oA Pr):Prop:=∀y∈P,∃z∈Q,∀t∈Cd z.2,t∈Cd y.2
theorem Lk{G K:Tops}{E:oA Nat}(h:∀k,Under (G k)<|K k):∀{w:oA Nat} {s:Nat},E4 G E w s->E4 K E w s
 |[],_,a=>a
 |x::_,s,⟨p,hp,a⟩=>by obtain⟨z,hz,hb⟩:=h (s,x) p hp;exact⟨z,hz,λt b=>Lk h<|a t<|hb t b⟩
def DH{g:Gam}(l:RgOk g){B G:Tops}{E:oA Nat}(h1:∀k,Under (B k)<|G k)(h2:∀k,rgp g.rs k≠[]->Under (Gj g G k) (G k)){p:Nat}{w:oA Nat}(h:Pre g (λp w=>E4 B E w p) p w):E4 G E w p:=by
 have d:∀k,∀r∈rgp g.rs k,r.q<5/\r.w.length<=2:=λk r d=>by obtain⟨a,b⟩:=l.q r (bH.mp d).1;have:=l.p;exact⟨by omega,b⟩
 have m:∀{p x:Nat} {v:oA Nat} {y:Pr},rgp g.rs (p,x)≠[]->y∈Gj g G (p,x)->(∀t∈Cd y.2,E4 G E v t)->E4 G E (x::v) p:=λ{p x v y} i hy hv=>by obtain⟨z,hz,hb⟩:=h2 (p,x) i y hy;exact⟨z,hz,λt n=>hv t<|hb t n⟩
 induction h with
 |say _ o=>exact Lk h1 o
 |@one p x v r c j _ e=>obtain⟨a,b⟩:=d _ r c;obtain⟨y,hy,hv⟩:=R9 a b e;refine m (λz=>by rw[z]at c;cases c) (?_:y∈_) hv;unfold Gj;rw[O_ j];exact kM.mpr ⟨_,E_.mpr ⟨r,c,rfl⟩,hy⟩
 |@all p x v j i _ e=>
  obtain⟨y,hy,hv⟩:=Y4 (Q:=E4 G E v) (Gs:=(rgp g.rs (p,x)).map λr=>Kh G r.q r.w) λK s=>by obtain⟨r,c,rfl⟩:=E_.mp s;obtain⟨a,b⟩:=d _ r c;exact R9 a b<|e r c
  refine m i (?_:y∈_) hv;unfold Gj;rw[T_ j];exact hy
structure TopK(μ:M)(d:lB)(G:Tops):Prop where
 at':∃kvs:oA<|(Nat×Nat)×lB,μ d=some (.dt<|kvs.map kvT)/\(∀e∈kvs,μ e.2=oG ((G e.1).map Ba))/\(∀k,(∀e∈kvs,e.1≠k)->G k=[])/\(kvs.map (·.1)).Nodup
def TopK.sub{b c:M}{d:lB}{G:Tops}(h:TopK b d G)(S:Sub b c):TopK c d G:=by obtain⟨a,h1,h2,g,i⟩:=h.at';exact⟨a,S _ _ h1,λe he=>S _ _<|h2 e he,g,i⟩
def Mv(G:Tops):Prop:=∀k,(G k).length<=32/\∀z∈G k,z.2<32
def Hl{i a:M}{d:lB}{G:Tops}{td ty:AE}{τ:ASt}{R:AV->M->Prop}(h:TopK i d G)(m:Sub i a)(p x:Nat)(e1:∀Q:AV->M->Prop,Q (.R d) a->td τ a Q)(r:∀Q:AV->M->Prop,Q (.D<|.tuple [.int (p:Nat),.int (x:Nat)]) a->ty τ a Q)(q:∀l g,g l=oG ((G (p,x)).map Ba)->Sub a g->(i l≠none\/a l=none)->R (.R l) g):Wu td ty (MS Po) τ a R:=by obtain⟨b,h1,h2,o,n⟩:=h.at';refine e1 _ ⟨⟨_,m _ _ h1,trivial⟩,r _ λz hz=>?_⟩;have S:Sub a (Ao a z<|.lst []):=Sub.refl.new hz;refine Ab (S _ _<|m _ _ h1) ?_;by_cases hk:∀e∈b,e.1≠(p,x);have j:=Hk (k:=(p,x)) hk;refine Ab (x:=none) (by show some (Bw (b.map kvT) [.inl (p:Nat),.inl (x:Nat)])=_;rw[j])<|q z _ ?_ S<|.inr hz;rw[Ac,o _ hk];rfl;obtain⟨e,he,hex⟩:∃e∈b,e.1=(p,x):=bO λc=>hk λe he z=>c ⟨e,he,z⟩;have j:=Gc n he;rw[hex]at j;refine Ab (x:=some<|AV.R e.2) (by show some (Bw (b.map kvT) [.inl (p:Nat),.inl (x:Nat)])=_;rw[j]) (show R (AV.R e.2) _ from q e.2 _ ?_ S<|.inl λc=>by rw[h2 e he]at c;cases c);have:=S _ _<|m _ _<|h2 e he;rw[hex]at this;exact this
theorem Qw:∀{ts:oA Nat},(∀t∈ts,t<5)->∀{b:Nat},b<32->ts.foldl (λb k=>b ||| 2^k) b<32
 |[],_,_,hb=>hb
 |t::ts,h,b,hb=>by refine Qw (ts:=ts) (λu hu=>h u<|aJ _ hu) ?_;have a:=h t aW;exact Nat.or_lt_two_pow (n:=5) hb<|Nat.pow_lt_pow_right (by decide) a
def UV(G:Tops)(y b:Nat):oA Pr:=cho<|(Cd b).map λt=>G (t,y)
def RX(G:Tops)(y:Nat)(f r:lB)(kvs:oA<|Key×AV)(b:M):Prop:=∀(k:Nat) v,Bw kvs (.inl (k:Nat))=some v->∃(a:lB) (ys:oA Pr),v=.R a/\a≠f/\a≠r/\b a=oG (ys.map Ba)/\Cv (UV G y k) ys
structure Cw(P zs:oA Pr):Prop where
 m:∀z∈zs,z∈P
 c:∀y∈P,∃z∈zs,Wn z y
 b:∀z∈zs,z.2<32
def Cw.thin{P d us:oA Pr}(h:Cw P d)(k:CvA d us):Cv P us:=⟨λu hu=>h.m u<|k.m u hu,λy hy=>by obtain⟨z,hz,a⟩:=h.c y hy;obtain⟨u,hu,b⟩:=k.c z hz;exact⟨u,hu,b.trans a⟩,k.u,λu hu=>h.b u<|k.m u hu⟩
def Cw.app{P Q a ys:oA Pr}(h:Cw P a)(k:Cw Q ys):Cw (P++Q) (a++ys):=by refine⟨λz hz=>?_,λy hy=>?_,λz hz=>(Q_.mp hz).elim (h.b z)<|k.b z⟩;exact Q_.mpr<|(Q_.mp hz).imp (h.m z)<|k.m z;rcases Q_.mp hy with hy|hy;obtain⟨z,hz,e⟩:=h.c y hy;exact⟨z,Y_ _ hz,e⟩;obtain⟨z,hz,e⟩:=k.c y hy;exact⟨z,aK _ hz,e⟩
def Cv.up{P a:oA Pr}(h:Cv P a)(c:Nat):Cw (P.map λq=>(c+q.1,q.2)) (a.map λq=>(c+q.1,q.2)):=by refine⟨λz hz=>?_,λy hy=>?_,λz hz=>?_⟩;obtain⟨q,hq,rfl⟩:=E_.mp hz;exact E_.mpr ⟨q,h.m q hq,rfl⟩;obtain⟨q,hq,rfl⟩:=E_.mp hy;obtain⟨z,hz,e⟩:=h.c q hq;exact⟨_,E_.mpr ⟨z,hz,rfl⟩,e⟩;obtain⟨q,hq,rfl⟩:=E_.mp hz;exact h.b q hq
abbrev ZJ:oA Str:=["tops","stand","w","least","firsts","found","rests","cost","bits"]
def Uu:FnScope ZJ qQ (Ah OY):=Bi<|by decide +kernel
def RY:(["target","tops","w"]:oA Str).Nodup:=by decide +kernel
def FC:(yI:oA Str).Nodup:=by decide +kernel
def RZ:ASp:=λc a R=>∃(d:lB) (G:Tops) (s:Nat) (w:oA Nat),c=[.R d,.D<|.int (s:Nat),.D<|A3 w,.D<|.bool true]/\TopK a d G/\Mv G/\s<5/\w.length<=2/\∀(b:oA Pr) (l:lB) μ',Cv (Kh G s w) b->a l=none->μ' l=oG (b.map Ba)->Sub a μ'->R (.R l) μ'
def SA{n:Nat}(F:Fun K "readings_by" "readings_by" OY f fd) (x4:VCal P w K mg base n "as_bits" ["stands"] JQ) (yk:VCal P w K mg base n "as_stands" ["bits"] JR) (ou:VCal P w K mg base n "thinned" oU DF) (yl:VCal P w K mg base n "one_of_each" oP JY) (ag:mg "len" = none):FnOk P w K mg base Cm (n+1) f fd qQ (Dj K 4 RZ):=by
 refine F.vok Uu λav A outer s H E L=>⟨_,(Ae (B9 (A7 (D9 L) (Ay Cy rfl ag aX<|Aa (vv 2) Ad) Ag<|nomark _) (Ai<|Aw<|Cb<|Aa (Bc<|Aa Ag<|Aa (Al x4 L rfl<|Aa (Bc<|Aa (vv 1) Ad) Ad) Ad) Ad) Bh)<|Ae (Aq (i:=4) Uu.nd rfl oH<|Hd (Bu L) (vv 0) (Bc<|Aa (vv 1)<|Aa (Au A8 (vv 2) Ag) Ad)<|Cb Ad)<|Ae (B9 (A7 (D9 L) (Ay Cy rfl ag aX<|Aa (vv 2) Ad) Ag<|nomark _) (Ai<|Aw<|Al ou L rfl<|Aa (vv 4)<|Aa (vv 3) Ad) Bh)<|Ae (Aq (i:=5) Uu.nd rfl oH<|Cb Ad)<|Ae (Aq (i:=6) Uu.nd rfl oH Fq)<|Ae (B3 aA rfl (Be<|vv 4) (Di (n:=2) rfl<|Av (Ak (i:=7) Uu.nd rfl oI)<|Av (Ak (i:=8) Uu.nd rfl oH) B2)<|Ae (B9 (K8 (Bu L) (vv 8)<|vv 6) (Ai<|C1 (Bu L) (vv 6) (vv 8)<|Al yl L rfl<|Aa (Bq (N':=["target","tops","w"]) (mp:=[none,some 0,some 2]) rfl (Be<|Al yk L rfl<|Aa (vv 8) Ad) (λ_ _ _ _=>(Ak (i:=0) RY rfl oH oI)) (λ_ _ _ _=>Bm) (λ_ _ _ _=>(Hd (Bu L) (vv 1) (Bc<|Aa (vv 0)<|Aa (Au A8 (vv 2) Ag) Ad)<|Cb Ad))<|Ax (N:=ZJ) (pn:=(Ah OY).names)<|by decide +kernel)<|Aa (vv 3) Ad) Bh)<|Ai<|Ch<|Ff gZ g_ Je (vv 5)<|Aa (Bq (N':=yI) (mp:=[none,none,some 7]) rfl (Be<|C0 (Bu L) (vv 6)<|vv 8) (λ_ _ _ _=>(Di (n:=2) rfl<|Av (Ak (i:=0) FC rfl oH oI)<|Av (Ak (i:=1) FC rfl oH oI) B2)) (λ_ _ _ _=>Bm) (λ_ _ _ _=>(Bc<|Aa (A9 Ce (vv 2)<|vv 0)<|Aa (vv 1) Ad))<|Ax (N:=ZJ) (pn:=(Ah OY).names)<|by decide +kernel) Ad)<|Ai<|Aw<|Al ou L rfl<|Aa (vv 5)<|Aa (vv 3) Ad),?_⟩
 rintro xs μ R _ ⟨d,T,s,w,rfl,hT,hB,hs,hw,q⟩
 match w,hw,q with
 |[],_,q=>refine Cg ⟨Bz _,Bz _,J4 rfl ⟨_,[s],rfl,rfl,λt h=>by rw[I_.mp h];omega,λl hl=>⟨_,Sub.refl,q [(0,bts [s])] l _ ⟨λz hz=>hz,λy hy=>⟨y,hy,Wn.refl y⟩,by simp,λz hz=>by rw[I_.mp hz];exact Qw (ts:=[s]) (λt h=>by rw[I_.mp h];exact hs)<|by decide⟩ hl Ac<|Sub.refl.new hl⟩⟩⟩
 |[x],_,q=>refine Cg ⟨Bz _,Bz _,J5 rfl ?_⟩;refine Cg<|Hl hT Sub.refl s x (λQ h=>h) (λQ h=>Ab (x:=PyData.int (x:Nat)) rfl h) λl I hl S zg=>?_;refine Cg ⟨Bz _,Bz _,J4 rfl ?_⟩;obtain⟨hg,hgb⟩:=hB (s,x);exact⟨l,T (s,x),rfl,hl,by omega,hgb,λO p μ2 C hp e2 S2=>⟨_,Sub.refl,q O p μ2 ⟨C.m,C.c,C.u,λz hz=>hgb z<|C.m z hz⟩ (S.none hp) e2 λb m hb=>S2 b m<|S b m hb⟩⟩
 |[x,y],_,q=>
  refine Cg ⟨Bz _,Bz _,J5 rfl ?_⟩;refine Cg<|Hl hT Sub.refl s x (λQ h=>h) (λQ h=>Ab (x:=PyData.int (x:Nat)) rfl h) λl I hl S zg=>?_;refine Cg ⟨Bz _,Bz _,J5 rfl ?_⟩;intro f hf r L;have S1:Sub μ (Ao I f<|.lst []):=S.new<|S.none hf;have ef:Ao I f (.lst []) f=oG []:=Ac;have gj:Ao I f (.lst []) l=oG ((T (s,x)).map Ba):=Sub.refl.new hf _ _ hl;have fr:f≠r:=by rintro rfl;rw[ef]at L;cases L
  have f0:μ f=none:=S.none hf;have r0:μ r=none:=S1.none L;have S2:Sub μ (Ao (Ao I f<|.lst []) r<|.dk []):=S1.new r0;have zy:Ao (Ao I f<|.lst []) r (.dk []) f=oG []:=by rw[Af fr];exact ef
  have er2:Ao (Ao I f<|.lst []) r (.dk []) r=some (.dk []):=Ac;have c9:Ao (Ao I f<|.lst []) r (.dk []) l=oG ((T (s,x)).map Ba):=Sub.refl.new L _ _ gj;have lf:l≠f:=by rintro rfl;rw[hf]at hl;cases hl
  have lr:l≠r:=by rintro rfl;rw[L]at gj;cases gj
  generalize Ao (Ao I f<|.lst []) r (.dk [])=μ2 at S2 zy er2 c9;clear gj ef S1;obtain⟨hG,hGl⟩:=hB (s,x);show Tj _ _ _ _ _ _ [oD d,oE (s:Nat),oF<|A3 [x,y],oF<|.bool true,oD l,oD f,oD r,none,none] μ2;have eq:Kh T s [x,y]=(T (s,x)).flatMap λp=>(UV T y p.2).map λq=>(p.1+q.1,q.2):=rfl;rw[eq]at q;generalize T (s,x)=G at hG hGl q c9;refine Az (λτ B=>∃o7 o8,∃O:oA Pr,τ=[oD d,oE (s:Nat),oF<|A3 [x,y],oF<|.bool true,oD l,oD f,oD r,o7,o8]/\B f=oG (O.map Ba)/\Cw (G.flatMap λp=>(UV T y p.2).map λq=>(p.1+q.1,q.2)) O/\O.length<=1024/\Sub μ B) (λZ hZ=>?_) ?_
  ·refine Ab (Am c9) ?_;refine Ci (λi τ B=>∃o7 o8,∃(O:oA Pr) (kvs:oA<|Key×AV),τ=[oD d,oE (s:Nat),oF<|A3 [x,y],oF<|.bool true,oD l,oD f,oD r,o7,o8]/\B f=oG (O.map Ba)/\B r=some (.dk kvs)/\B l=oG (G.map Ba)/\Cw ((G.take i).flatMap λp=>(UV T y p.2).map λq=>(p.1+q.1,q.2)) O/\O.length<=32*i/\kvs.length<=i/\RX T y f r kvs B/\Sub μ B) ⟨none,none,[],[],rfl,zy,er2,c9,⟨(λ_ h=>nomatch h),(λ_ h=>nomatch h),(λ_ h=>nomatch h)⟩,F_ _,F_ _,(λ_ _ h=>nomatch h),S2⟩ (by rintro _ _ _ ⟨_,_,_,_,_,_,_,e,_⟩;exact Am e) ?_ ?_
   ·rintro i v τ μ3 Z2 hv ⟨o7,o8,O,kvs,rfl,e3f,e3r,e3l,hm,hzl,cj,hR,S3⟩ hZ2;rw[L_]at hv;obtain⟨⟨c,b⟩,hp,rfl⟩:=H_.mp hv;have hb:b<32:=hGl _<|X_ hp;have hi:=(D_.mp hp).1;refine⟨rfl,Ot ?_⟩;dsimp only[List.set];refine Az (λτ B=>∃(kvs:oA<|Key×AV) (v:AV),τ=[oD d,oE (s:Nat),oF<|A3 [x,y],oF<|.bool true,oD l,oD f,oD r,oE (c:Nat),oE (b:Nat)]/\B f=oG (O.map Ba)/\B r=some (.dk kvs)/\B l=oG (G.map Ba)/\Bw kvs (.inl (b:Nat))=some v/\kvs.length<=i+1/\RX T y f r kvs B/\Sub μ B) (λZ3 b9=>?_) ?_
    ·refine Ab e3r<|Ab (x:=Bw kvs<|.inl (b:Nat)) rfl ?_;cases hv:Bw kvs (.inl (b:Nat)) with
     |some v=>exact J5 rfl (b9 _ _ ⟨kvs,v,rfl,e3f,e3r,e3l,hv,bK cj,hR,S3⟩)
     |none=>
      refine J4 rfl ⟨b,rfl,hb,λJ S4=>Ab (Bj _) λY M=>?_⟩;have hTB:TopK J d T:=hT.sub λb m hb=>S4 b m<|S3 b m hb;have h5:(Cd b).length<=5:=G_ (cB _ _) (by rw[eO];exact F_ _);refine Dn (λi V τ' B=>∃o,∃ps:oA lB,τ'=[o,oD d,oF<|A3 [x,y]]/\V=ps.map .R/\ps.length=i/\(∀(j:Nat) p t,ps[j]?=some p->(Cd b)[j]?=some t->p≠Y/\B p=oG ((T (t,y)).map Ba))/\B Y=oG V/\Sub J B) ⟨none,[],rfl,rfl,rfl,(λ_ _ _ h=>nomatch h),Ac,Sub.refl.new M⟩ (λ_ _ _ _ _=>Bj _) ?_ ?_;rintro j0 v V τ' μ5 W hv' ⟨o,ps,rfl,rfl,ak,gu,e5,X⟩ hW;rw[L_]at hv';obtain⟨t,bg,rfl⟩:=H_.mp hv';have hj5:=(D_.mp bg).1;refine J4 rfl (Hl hTB X t y (λQ h=>h) (λQ h=>Ab (x:=PyData.int (y:Nat)) rfl h) λl5 μ6 jw S6 ho=>⟨S6 _ _ e5,A0<|by rw[B_];omega,hW _ _ _ ⟨_,ps++[l5],rfl,by rw[M_];rfl,by rw[P_,ak];rfl,?_,Ac,λb m hb=>?_⟩⟩);have am:l5≠Y:=by rintro rfl;rcases ho with h|h;exact h M;rw[e5]at h;cases h
      intro j p t' h1 h2;rcases fN j ps.length with h|h;rw[cW h]at h1;obtain⟨n,e⟩:=gu j p t' h1 h2;exact⟨n,by rw[Af n];exact S6 _ _ e⟩;rw[cU h]at h1;have h3:=(D_.mp h1).1;rw[iZ]at h3;have h4:j=j0:=by omega
      rw[show j-ps.length=0 by omega]at h1;have h6:l5=p:=aR h1;rw[h4,bg]at h2;have h7:t=t':=aR h2;rw[<- h6,<- h7];exact⟨am,by rw[Af am];exact jw⟩;rw[Af<|by rintro rfl;rw[M]at hb;cases hb];exact S6 _ _<|X _ _ hb;rintro V τ' μ5 ⟨o,ps,rfl,rfl,ak,gu,e5,X⟩;rw[B_]at ak;refine⟨.R Y,ps,(Cd b).map λt=>T (t,y),rfl,Am e5,⟨by rw[B_];exact ak,λj p g h1 h2=>?_⟩,λG' x9=>?_,λus l6 μ6 C6 hl6 e6 S6=>?_⟩;rw[L_]at h2;obtain⟨t,h3,rfl⟩:=H_.mp h2;exact(gu j p t h1 h3).2;obtain⟨t,_,rfl⟩:=E_.mp x9;exact hB (t,y);have S36:Sub μ3 μ6:=λb m hb=>S6 _ _<|X _ _<|S4 _ _ hb;have lf6:l6≠f:=by rintro rfl;rw[X _ _<|S4 _ _ e3f]at hl6;cases hl6
      have lr6:l6≠r:=by rintro rfl;rw[X _ _<|S4 _ _ e3r]at hl6;cases hl6
      have gt:=Jr kvs (.inl (b:Nat))<|.R l6;refine Ab (S36 _ _ e3r) (Ab (x:=MO.dk<|Dz kvs (.inl (b:Nat))<|.R l6) rfl ⟨A0<|show kvs.length<=_ by omega,b9 _ _ ⟨Dz kvs (.inl (b:Nat))<|.R l6,.R l6,rfl,by rw[Af fr];exact S36 _ _ e3f,Ac,by rw[Af lr];exact S36 _ _ e3l,by rw[Fz,T_ rfl],by omega,λk v hk=>?_,λb m hb=>?_⟩⟩);rw[Fz]at hk;by_cases e:(Sum.inl (k:Int):Key)=.inl (b:Int);rw[T_ e]at hk;have e:k=b:=fU<|gL e;subst e;exact⟨l6,us,(aR hk).symm,lf6,lr6,by rw[Af lr6];exact e6,C6⟩;rw[O_ e]at hk;obtain⟨a,ys,rfl,af,ar,ea,U⟩:=hR _ _ hk;exact⟨a,ys,rfl,af,ar,by rw[Af ar];exact S36 _ _ ea,U⟩;rw[Af<|by rintro rfl;rw[r0]at hb;cases hb];exact S36 _ _<|S3 _ _ hb
    clear cj hR;rintro τ J ⟨kvs,v,rfl,e4f,e4r,e4l,hv,cj,hR,S4⟩;obtain⟨a,ys,rfl,af,ar,ea,U⟩:=hR _ _ hv;have hyl:=U.len;refine⟨Ab e4f trivial,Ab e4r<|Ab (x:=some<|AV.R a) (by show some (Bw kvs<|.inl (b:Nat))=_;rw[hv])<|Ab (x:=AV.R a) rfl<|Ab (Am ea) λY M=>?_⟩;have pa:a≠Y:=by rintro rfl;rw[M]at ea;cases ea
    have pf:f≠Y:=by rintro rfl;rw[M]at e4f;cases e4f
    have p0:μ Y=none:=S4.none M;refine cmap ys Ba (λq=>Ba (c+q.1,q.2)) (λτ=>∃o1 o2,τ=[o1,o2,oE (c:Nat)]) ⟨none,none,rfl⟩ Ac (seven<|by omega) (λV=>Am<|by rw[Bk,Af pa];exact ea) ?_ ?_;rintro j ⟨c2,b2⟩ τ' V W hq ⟨o1,o2,rfl⟩ hW;refine⟨rfl,Ot ?_⟩;exact hW _ ⟨_,_,rfl⟩;rw[Bk];have X:Sub J (Ao J Y<|.lst<|ys.map λq=>Ba (c+q.1,q.2)):=Sub.refl.new M;have e5:Ao J Y (.lst<|ys.map λq=>Ba (c+q.1,q.2)) Y=oG (ys.map λq=>Ba (c+q.1,q.2)):=Ac;generalize Ao J Y (.lst<|ys.map λq=>Ba (c+q.1,q.2))=μ5 at X e5;have bo:G.take (i+1)=G.take i++[(c,b)]:=by rw[aG,hp];rfl
    refine Ab (X _ _ e4f) (Ab e5 ⟨cX<|JS<|by rw[B_,B_];omega,hZ2 _ _ ⟨_,_,O++ys.map (λq=>(c+q.1,q.2)),kvs,rfl,?_,by rw[Af fr.symm];exact X _ _ e4r,by rw[Af lf];exact X _ _ e4l,?_,by rw[P_,B_];omega,cj,λk v hk=>?_,λb m hb=>?_⟩⟩);rw[Ac,M_,aF];rfl;rw[bo,List.flatMap_append,List.flatMap_singleton];exact hm.app<|U.up c;obtain⟨a,ys,rfl,af,ar,ea,U⟩:=hR _ _ hk;exact⟨a,ys,rfl,af,ar,by rw[Af af];exact X _ _ ea,U⟩;rw[Af<|by rintro rfl;rw[f0]at hb;cases hb];exact X _ _<|S4 _ _ hb
   rintro τ μ3 ⟨o7,o8,O,kvs,rfl,e3f,e3r,e3l,hm,hzl,cj,hR,S3⟩;rw[B_]at hm hzl;rw[aB]at hm;exact hZ _ _ ⟨_,_,O,rfl,e3f,hm,by omega,S3⟩
  rintro τ μ3 ⟨o7,o8,O,rfl,e3,hm,hzl,S3⟩;exact⟨f,O,rfl,e3,by omega,hm.b,λus p J C4 hp e4 S4=>⟨_,Sub.refl,q us p J (hm.thin C4) (S3.none hp) e4 λb m hb=>S4 b m<|S3 b m hb⟩⟩
theorem Y6:∀{Gs a:oA<|oA Pr} {F F':oA Pr},Paired (λb P=>Cv P b) Gs a->(∀z∈F,z∈F')->∀z∈Gs.foldl (λF G=>F.flatMap λp=>G.map<|ewe p) F,z∈a.foldl (λF G=>F.flatMap λp=>G.map<|ewe p) F'
 |_,_,_,_,.nil,h=>h
 |_,_,_,_,.cons r t,h=>by rw[fK,fK];refine Y6 t λz hz=>?_;obtain⟨p,hp,hz⟩:=dE.mp hz;obtain⟨o,c,rfl⟩:=E_.mp hz;exact dE.mpr ⟨p,h p hp,E_.mpr ⟨o,r.m o c,rfl⟩⟩
theorem Y7:∀{Gs b:oA<|oA Pr} {F F':oA Pr},Paired (λg P=>Cv P g) Gs b->(∀y∈F',∃z∈F,Wn z y)->∀y∈b.foldl (λF G=>F.flatMap λp=>G.map<|ewe p) F',∃z∈Gs.foldl (λF G=>F.flatMap λp=>G.map<|ewe p) F,Wn z y
 |_,_,_,_,.nil,h=>h
 |_,_,_,_,.cons r t,h=>by rw[fK,fK];refine Y7 t λy hy=>?_;obtain⟨p,hp,hy⟩:=dE.mp hy;obtain⟨o,i,rfl⟩:=E_.mp hy;obtain⟨e,k,j⟩:=h p hp;obtain⟨d,a,l⟩:=r.c o i;exact⟨ewe e d,dE.mpr ⟨e,k,E_.mpr ⟨d,a,rfl⟩⟩,Y1 j l⟩
def KC{Gs d:oA<|oA Pr}(h:Paired (λa P=>Cv P a) Gs d){a:oA Pr}(C:Cv (cho Gs) a):Cv (cho d) a:=by refine⟨λz hz=>?_,λy hy=>?_,C.u,C.b⟩;exact Y6 h (F:=[(0,0)]) (F':=[(0,0)]) (λz hz=>hz) z<|C.m z hz;obtain⟨u,hu,e⟩:=Y7 h (F:=[(0,0)]) (F':=[(0,0)]) (λz hz=>⟨z,hz,Wn.refl z⟩) y hy;obtain⟨z,hz,g⟩:=C.c u hu;exact⟨z,hz,g.trans e⟩
theorem Sa:∀{Gs a:oA<|oA Pr},Paired (λd P=>Cv P d) Gs a->Cw a.flatten Gs.flatten
 |_,_,.nil=>⟨(λ_ h=>nomatch h),(λ_ h=>nomatch h),(λ_ h=>nomatch h)⟩
 |_,_,.cons r t=>by rw[j_,j_];exact Cw.app ⟨r.m,r.c,r.b⟩<|Sa t
def DI{Gs d:oA<|oA Pr}(h:Paired (λa P=>Cv P a) Gs d){a:oA Pr}(C:Cv Gs.flatten a):Cv d.flatten a:=by have k:=Sa h;refine⟨λz hz=>?_,λy hy=>?_,C.u,C.b⟩;exact k.m z<|C.m z hz;obtain⟨u,hu,e⟩:=k.c y hy;obtain⟨z,hz,g⟩:=C.c u hu;exact⟨z,hz,g.trans e⟩
def up1(z:Pr):Pr:=(z.1+1,z.2)
def Cv.up1{P a:oA Pr}(h:Cv P a):Cv (P.map up1) (a.map up1):=by refine⟨λz hz=>?_,λy hy=>?_,by rw[aF];exact h.u,λz hz=>?_⟩;obtain⟨u,hu,rfl⟩:=E_.mp hz;exact E_.mpr ⟨u,h.m u hu,rfl⟩;obtain⟨u,hu,rfl⟩:=E_.mp hy;obtain⟨z,hz,e⟩:=h.c u hu;exact⟨_,E_.mpr ⟨z,hz,rfl⟩,e⟩;obtain⟨u,hu,rfl⟩:=E_.mp hz;exact h.b u hu
structure GqOk(g:Gam):Prop where
 p:g.pl.length<=5
 r:g.rs.length<=8
 ok:∀r∈g.rs,r.p<g.pl.length/\r.q<5/\r.w.length<=2
structure FlwK(μ0 μ:M)(d:lB)(g:Gam)(G Pf:Tops)(kvs:oA<|(Nat×Nat)×lB):Prop where
 dd:μ d=some (.dt<|kvs.map kvT)
 ll:∀e∈kvs,μ e.2=oG ((Pf e.1).map Ba)/\e.2≠d
 n:kvs.length<=9
 kk:∀k,(∃e∈kvs,e.1=k)↔rgp g.rs k≠[]
 uu:(kvs.map (·.1)).Nodup
 pf:∀e∈kvs,Cv ((Gj g G e.1).map up1) (Pf e.1)
 nd:μ0 d=none
 ss:Sub μ0 μ
abbrev ZK:oA Str:=["game","tops","least","found","top","rules","groups","chosen"]
def Uv:FnScope ZK qR (Ah OZ):=Bi<|by decide +kernel
def SB:(["rule","tops","least"]:oA Str).Nodup:=by decide +kernel
def FD:(qG:oA Str).Nodup:=by decide +kernel
def KD:ASp:=λh c R=>∃(g:Gam) (d:lB) (G:Tops),h=[.D<|Bt g,.R d,.D<|.bool true]/\GqOk g/\TopK c d G/\Mv G/\∀e i b a,FlwK c a e g G i b->R (.R e) a
def SC{n:Nat}(F:Fun K "following" "following" OZ f fd) (cRt:VCal P w K mg base n "rules_by_top" ["game"] RV) (cRb:VCal P w K mg base n "readings_by" qQ RZ) (yl:VCal P w K mg base n "one_of_each" oP JY) (cOa:VCal P w K mg base n "one_of_any" oP RQ) {t1:Tok} (ir:mg "OTHER_HAND" = some (.int 1 t1)):FnOk P w K mg base Cm (n+1) f fd qR (Dj K 3 KD):=by
 refine F.vok Uv λav A outer s H E hr=>⟨_,(Ae (Aq (i:=3) Uv.nd rfl oH Ez)<|Ae (Hh aA rfl (Al cRt hr rfl<|Aa (vv 0) Ad) (Av (Ak (i:=4) Uv.nd rfl oH)<|Av (Ak (i:=5) Uv.nd rfl oH) B2)<|Ae (D7 (i:=6) (N':=["rule","tops","least"]) (mp:=[none,some 1,some 2]) rfl Uv.nd rfl rfl (Be<|vv 5) (λ_ _ _ _=>(Ak (i:=0) SB rfl oH oI)) (λ_ _ _ _=>Bm) (λ_ _ _ _=>(Al cRb hr rfl<|Aa (vv 1)<|Aa (Au A8 (vv 0) Ag)<|Aa (Au A8 (vv 0) Ag)<|Aa (vv 2) Ad))<|Ax (N:=ZK) (pn:=(Ah OZ).names)<|by decide +kernel)<|Ae (Aq (i:=7) Uv.nd rfl oH<|Fn (A7 (D9 hr) (Au A8 (Au A8 (Au A8 (vv 0) Ag)<|Au A8 (vv 4) Ag) Ag) (Ik rfl ir (v:=.int 1) ⟨_,rfl⟩ λ_=>Co)<|nomark _) (Al yl hr rfl<|Aa (vv 6)<|Aa (vv 2) Ad)<|Al cOa hr rfl<|Aa (vv 6)<|Aa (vv 2) Ad)<|Ai<|C1 (Bu hr) (vv 3) (vv 4)<|Bq (N':=qG) (mp:=[none,none]) rfl (Be<|vv 7) (λ_ _ _ _=>(Di (n:=2) rfl<|Av (Ak (i:=0) FD rfl oH oI)<|Av (Ak (i:=1) FD rfl oH oI) B2)) (λ_ _ _ _=>Bm) (λ_ _ _ _=>(Bc<|Aa (A9 Ce (vv 0) Ag)<|Aa (vv 1) Ad))<|Ax (N:=ZK) (pn:=(Ah OZ).names)<|by decide +kernel)<|Ai<|Aw<|vv 3),?_⟩
 rintro xs μ R _ ⟨g,d,G,rfl,hg,hT,hB,q⟩;have hp3:=hg.p;have y0:=hg.r;intro f hf;refine Az (λJ t=>∃o4 o5 o6 o7 a Y,J=[oF<|Bt g,oD d,oF<|.bool true,oD f,o4,o5,o6,o7]/\FlwK μ t f g G Y a) (λZ hZ=>?_) ?_;refine⟨g,rfl,by omega,λdR ku S T=>Ab T.dd ?_⟩;have Sf:Sub μ (Ao μ f<|.dt []):=Sub.refl.new hf;have dR0:μ dR=none:=Sf.none T.fd;have fR:f≠dR:=by rintro rfl;have:=T.fd;rw[Ac]at this;cases this
 have S1:Sub μ (B5 S dR):=λb m hb=>by rw[Bb<|by rintro rfl;rw[dR0]at hb;cases hb];exact T.ss _ _<|Sf _ _ hb
 have ef:B5 S dR f=some (.dt<|([]:oA<|(Nat×Nat)×lB).map kvT):=by rw[Bb fR];exact T.ss _ _ Ac
 have eR:∀e∈ku,B5 S dR e.2=oG ((rgp g.rs e.1).map D1)/\e.2≠f:=λe he=>by obtain⟨h1,h2⟩:=T.fe e he;refine⟨by rw[Bb h2];exact T.ll e he,λz=>?_⟩;rw[z,Ac]at h1;cases h1
 have cj:ku.length<=8:=by
  have:=F9 (xs:=ku.map (·.1)) (ys:=g.rs.map λr=>(r.p,r.x)) T.uu λk hk=>by obtain⟨e,he,rfl⟩:=E_.mp hk;have h1:=(T.kk e.1).mp ⟨e,he,rfl⟩;obtain⟨r,h2⟩:=fG _ h1;obtain⟨h3,h4⟩:=bH.mp h2;refine E_.mpr ⟨r,h3,?_⟩;unfold F5 at h4;rw[aV,bL,bL]at h4;exact kY h4.1 h4.2
  rw[B_,B_]at this;exact G_ this y0
 refine Jn (λi J t=>∃o4 o5 o6 o7 a Y,J=[oF<|Bt g,oD d,oF<|.bool true,oD f,o4,o5,o6,o7]/\t f=some (.dt<|a.map kvT)/\(∀e∈a,t e.2=oG ((Y e.1).map Ba)/\e.2≠f)/\a.map (·.1)=(ku.take i).map (·.1)/\(∀e∈a,Cv ((Gj g G e.1).map up1)<|Y e.1)/\(∀e∈ku,t e.2=oG ((rgp g.rs e.1).map D1))/\Sub μ t) ⟨none,none,none,none,[],λ_=>[],rfl,ef,(λ_ h=>nomatch h),rfl,(λ_ h=>nomatch h),λe he=>(eR e he).1,S1⟩ ?_ ?_;rintro i v J V W hv ⟨o4,o5,o6,o7,a,Y,rfl,e2,hll,u,cz,hRs,S2⟩ hW;rw[L_]at hv;obtain⟨e,he,rfl⟩:=H_.mp hv;have gn:=X_ he;have vp:=hRs e gn;dsimp only[Fo,Ei,Ps,List.set,kvT];refine Az (λJ t=>∃O I Gs,J=[oF<|Bt g,oD d,oF<|.bool true,oD f,oF<|.tuple [.int (e.1.1:Nat),.int (e.1.2:Nat)],oD e.2,oD O,o7]/\t O=oG (I.map .R)/\GrAt t I Gs/\Paired (λy P=>Cv P y) Gs ((rgp g.rs e.1).map λr=>Kh G r.q r.w)/\(∀K∈Gs,K.length<=32/\∀p∈K,p.2<32)/\Sub V t) (λZ3 b9=>?_) ?_;have v6:(rgp g.rs e.1).length<=8:=G_ (cB _ _) y0;refine Ab (Am vp) λO hpl=>?_;have qk:e.2≠O:=by intro z;rw[z,hpl]at vp;cases vp
 refine Dn (λj U τ' t=>∃o,∃(I:oA lB) (Gs:oA<|oA Pr),τ'=[o,oD d,oF<|.bool true]/\U=I.map .R/\I.length=j/\Gs.length=j/\(∀(k:Nat) p G,I[k]?=some p->Gs[k]?=some G->p≠O/\t p=oG (G.map Ba))/\Paired (λy P=>Cv P y) Gs (((rgp g.rs e.1).take j).map λr=>Kh G r.q r.w)/\(∀K∈Gs,K.length<=32/\∀p∈K,p.2<32)/\t O=oG U/\t e.2=oG ((rgp g.rs e.1).map D1)/\Sub V t) ⟨none,[],[],rfl,rfl,rfl,rfl,(λ_ _ _ h=>by simp at h),.nil,(λ_ h=>nomatch h),Ac,by rw[Af qk];exact vp,Sub.refl.new hpl⟩ (by rintro _ _ _ _ ⟨_,_,_,_,_,_,_,_,_,_,_,e3,_⟩;exact Am e3) ?_ ?_;rintro j v U τ' μ3 W2 gp ⟨o,I,Gs,rfl,rfl,gj,c9,gu,hpr,L,e3,f3,S3⟩ hW2;rw[L_]at gp;obtain⟨r,io,rfl⟩:=H_.mp gp;have hj:=(D_.mp io).1;obtain⟨h1,_⟩:=bH.mp<|X_ io;obtain⟨_,hq5,hw2⟩:=hg.ok r h1;refine J4 rfl<|Ab (Aj (j:=2) rfl)<|Ab (Aj (j:=3) rfl) ⟨d,G,r.q,r.w,rfl,hT.sub<|S2.trans S3,hB,hq5,hw2,λy l M C hl e4 X=>?_⟩;have sv:l≠O:=by rintro rfl;rw[e3]at hl;cases hl
 refine⟨X _ _ e3,A0<|by rw[B_];omega,hW2 _ _ _ ⟨_,I++[l],Gs++[y],rfl,by rw[M_];rfl,by rw[P_,gj];rfl,by rw[P_,c9];rfl,λk p G k1 k2=>?_,?_,λG hG=>?_,Ac,by rw[Af qk];exact X _ _ f3,(S3.trans X).new hpl⟩⟩;rcases fN k I.length with h|h;rw[cW h]at k1;rw[cW<|by omega]at k2;obtain⟨n1,n2⟩:=gu k p G k1 k2;exact⟨n1,by rw[Af n1];exact X _ _ n2⟩;rw[cU h]at k1;rw[cU<|by omega]at k2;have h3:=(D_.mp k1).1;rw[iZ]at h3;rw[show k-I.length=0 by omega]at k1;rw[show k-Gs.length=0 by omega]at k2;cases k1;cases k2;exact⟨sv,by rw[Af sv];exact e4⟩;rw[aG,io,M_];exact iG hpr C;rcases Q_.mp hG with h|h;exact L G h;rw[I_.mp h];exact⟨C.len,C.b⟩;rintro U τ' μ3 ⟨o,I,Gs,rfl,rfl,gj,c9,gu,hpr,L,e3,f3,S3⟩;rw[B_,aB]at hpr;exact b9 _ _ ⟨O,I,Gs,rfl,e3,⟨by omega,λk p G h1 h2=>(gu k p G h1 h2).2⟩,hpr,L,S3⟩;rintro J μ3 ⟨O,I,Gs,rfl,e3,hGr,ko,L,S3⟩;have j6:e.1.1<g.pl.length:=by obtain⟨r,h2⟩:=fG _<|(T.kk e.1).mp ⟨e,gn,rfl⟩;obtain⟨h3,h4⟩:=bH.mp h2;unfold F5 at h4;rw[aV,bL,bL]at h4;rw[<- h4.1];exact(hg.ok r h3).1
 have l8:atI (g.pl.map Ym) ((e.1.1:Nat):Int)=some (Ym g.pl[e.1.1]):=Aj (by rw[L_,J_ j6];rfl);have vz:hnd g e.1=(g.pl[e.1.1]).2:=by unfold hnd;rw[a_,L_,J_ j6];rfl
 have wz:Gs.length<=20:=by have h1:=bB ko;rw[B_]at h1;have:=cB (F5 e.1) g.rs;unfold rgp at h1;omega
 generalize g.pl[e.1.1]=pp at l8 vz;refine Az (λJ t=>∃lc,∃y:oA Pr,J=[oF<|Bt g,oD d,oF<|.bool true,oD f,oF<|.tuple [.int (e.1.1:Nat),.int (e.1.2:Nat)],oD e.2,oD O,oD lc]/\t lc=oG (y.map Ba)/\Cv (Gj g G e.1) y/\Sub μ3 t) (λZ3 b9=>?_) ?_;refine Ab (Aj (j:=0) rfl)<|Ab (Aj (j:=0) rfl)<|Ab l8<|Ab (Aj (j:=1) rfl)<|ieq (λc=>?_) λc=>?_;refine⟨.R O,I,Gs,rfl,Am e3,hGr,L,λy l M C hl e4 X=>b9 _ _ ⟨l,y,rfl,e4,?_,X⟩⟩;unfold Gj;rw[T_<|by rw[vz];omega];exact KC ko C;refine⟨.R O,I,Gs,rfl,Am e3,hGr,wz,L,λy l M C hl e4 X=>b9 _ _ ⟨l,y,rfl,e4,?_,X⟩⟩;unfold Gj;rw[O_<|by rw[vz];omega];exact DI ko C;rintro J M ⟨lc,y,rfl,e4,C,X⟩;have hz9:=C.len;have cf:∀B∈a,B.1≠e.1:=λB bf c=>by
  have h1:e.1∈(ku.take i).map (·.1):=by rw[<- u,<- c];exact E_.mpr ⟨B,bf,rfl⟩
  have h2:((ku.take<|i+1).map (·.1)).Nodup:=T.uu.sublist<|(fL _ _).map _;rw[aG,he,M_,aY]at h2;exact h2.2.2 _ h1 e.1 (by simp) rfl
 refine Ab (Am e4) λpn gt=>?_;have lcn:lc≠pn:=by rintro rfl;rw[e4]at gt;cases gt
 have S24:=S3.trans X;have v9:V pn=none:=S24.none gt;have zo:pn≠f:=by rintro rfl;rw[e2]at v9;cases v9
 refine cmap y Ba (λz=>Ba (z.1+1,z.2)) (λJ=>∃o1 o2,J=[o1,o2]) ⟨none,none,rfl⟩ Ac (seven<|by omega) (λ_=>Am<|by rw[Af lcn,Af lcn];exact e4) ?_ ?_;rintro j ⟨c,b⟩ τ' U W2 hj ⟨o1,o2,rfl⟩ hW2;exact⟨rfl,Ot<|hW2 _ ⟨_,_,rfl⟩⟩;have S5:Sub V (Ao (Ao M pn<|.lst []) pn<|.lst<|y.map λz=>Ba (z.1+1,z.2)):=(S24.new v9).new v9;have e5:Ao (Ao M pn<|.lst []) pn (.lst<|y.map λz=>Ba (z.1+1,z.2)) pn=oG (y.map λz=>Ba (z.1+1,z.2)):=Ac;generalize Ao (Ao M pn<|.lst []) pn (.lst<|y.map λz=>Ba (z.1+1,z.2))=μ5 at S5 e5;have ep:dput (.dt<|a.map kvT) (.tuple [.int (e.1.1:Nat),.int (e.1.2:Nat)]) (.R pn)=some (.dt<|(a++[(e.1,pn)]).map kvT):=by rw[<- F4 cf];rfl
 have zab:a.length<=8:=by have:=b_ List.length u;rw[B_,B_,bD]at this;omega
 refine Ab (S5 _ _ e2) (Ab ep ⟨A0<|show(a.map kvT).length<=1000 by rw[B_];omega,hW _ _ ⟨_,_,_,_,a++[(e.1,pn)],λk=>if k=e.1 then y.map up1 else Y k,rfl,Ac,λB bf=>?_,?_,λB bf=>?_,λB bf=>?_,(S2.trans S5).new hf⟩⟩);rcases Q_.mp bf with h|h;obtain⟨h1,h2⟩:=hll B h;dsimp only;rw[O_<|cf B h,Af h2];exact⟨S5 _ _ h1,h2⟩;rw[I_.mp h];dsimp only;rw[T_ rfl,Af zo];exact⟨by rw[e5,aF];rfl,zo⟩;rw[M_,u,aG,he,M_];rfl;rcases Q_.mp bf with h|h;dsimp only;rw[O_<|cf B h];exact cz B h;rw[I_.mp h];dsimp only;rw[T_ rfl];exact C.up1;rw[Af (eR B bf).2];exact S5 _ _<|hRs B bf;rintro J V ⟨o4,o5,o6,o7,a,Y,rfl,e2,hll,u,cz,hRs,S2⟩;rw[B_,aB]at u;have hlk:a.length=ku.length:=by have:=b_ List.length u;rwa[B_,B_]at this
 refine hZ _ _ ⟨_,_,_,_,a,Y,rfl,⟨e2,hll,by omega,λk=>?_,by rw[u];exact T.uu,cz,hf,S2⟩⟩;rw[<- T.kk k];constructor;rintro⟨e,he,rfl⟩;have:e.1∈ku.map (·.1):=by rw[<- u];exact E_.mpr ⟨e,he,rfl⟩
 obtain⟨B,h1,h2⟩:=E_.mp this;exact⟨B,h1,h2⟩;rintro⟨e,he,rfl⟩;have:e.1∈a.map (·.1):=by rw[u];exact E_.mpr ⟨e,he,rfl⟩
 obtain⟨B,h1,h2⟩:=E_.mp this;exact⟨B,h1,h2⟩;rintro J S ⟨o4,o5,o6,o7,a,Y,rfl,Q⟩;exact⟨_,Sub.refl,q f Y a S Q⟩
structure DcK(μ:M)(d:lB)(Pf:Tops)(kvs:oA<|(Nat×Nat)×lB):Prop where
 dd:μ d=some (.dt<|kvs.map kvT)
 ll:∀e∈kvs,μ e.2=oG ((Pf e.1).map Ba)/\e.2≠d
 n:kvs.length<=20
 uu:(kvs.map (·.1)).Nodup
structure WtOk(G Pf:Tops)(kvs:oA<|(Nat×Nat)×lB)(Wf:Tops)(kw:oA<|(Nat×Nat)×lB):Prop where
 k:∀e∈kw,∃e'∈kvs,e'.1=e.1
 w:∀e∈kw,Wf e.1≠[]/\(Wf e.1).Sublist (Pf e.1)/\∀z∈Wf e.1,∀y∈G e.1,¬Wn y z
 c:∀e'∈kvs,∀z∈Pf e'.1,(∃y∈G e'.1,Wn y z)\/∃e∈kw,e.1=e'.1/\z∈Wf e.1
def TopK.del{a:M}{d f:lB}{G:Tops}(h:TopK a d G)(i:f≠d){kvs:oA<|oA Key×AV}(e:a f=some (.dt kvs)):TopK (B5 a f) d G:=by obtain⟨k,h1,h2,b,g⟩:=h.at';refine⟨k,by rw[Bb i.symm];exact h1,λx hx=>?_,b,g⟩;have:=h2 x hx;rw[Bb λc=>by rw[c,e]at this;cases this];exact this
abbrev ZL:oA Str:=["kept","found","waiting","top","pairs","lows","left"]
def Uw:FnScope ZL qS (Ah PD):=Bi<|by decide +kernel
def FE:(qG:oA Str).Nodup:=by decide +kernel
def SD:(["pair","lows"]:oA Str).Nodup:=by decide +kernel
def KF:ASp:=λi b R=>∃(dk c:lB) (G Pf:Tops) (kvs:oA<|(Nat×Nat)×lB),i=[.R dk,.R c]/\TopK b dk G/\Mv G/\DcK b c Pf kvs/\(∀e∈kvs,(Pf e.1).length<=32/\∀z∈Pf e.1,z.2<32)/\c≠dk/\∀d h g a,DcK a d h g->WtOk G Pf kvs h g->b d=none->Sub (B5 b c) a->R (.R d) a
def SE{n:Nat}(F:Fun K "not_kept" "not_kept" PD f fd) (x6:VCal P w K mg base n "has_within" qF JW) (ag:mg "len" = none):FnOk P w K mg base Cm (n+1) f fd qS (Dj K 2 KF):=by
 refine F.vok Uw λav A outer s H E hr=>⟨_,(Ae (Aq (i:=2) Uw.nd rfl oH Ez)<|Ae (Hh aA rfl (vv 1) (Av (Ak (i:=3) Uw.nd rfl oH)<|Av (Ak (i:=4) Uw.nd rfl oH) B2)<|Ae (Aq (i:=5) Uw.nd rfl oI<|Bq (N':=qG) (mp:=[none,none]) rfl (Be<|Hd (Bu hr) (vv 0) (vv 3)<|Cb Ad) (λ_ _ _ _=>(Di (n:=2) rfl<|Av (Ak (i:=0) FE rfl oH oI)<|Av (Ak (i:=1) FE rfl oH oI) B2)) (λ_ _ _ _=>Bm) (λ_ _ _ _=>(vv 1))<|Ax (N:=ZL) (pn:=(Ah PD).names)<|by decide +kernel)<|Ae (D7 (i:=6) (N':=["pair","lows"]) (mp:=[none,some 5]) rfl Uw.nd rfl rfl (Be<|vv 4) (λ_ _ _ _=>(Ak (i:=0) SD rfl oH oI)) (λ_ _ _ _=>(Dm<|Lz<|E9<|Al x6 hr rfl<|Aa (vv 1)<|Aa (Au A8 (vv 0) Ag) Ad)) (λ_ _ _ _=>(vv 0))<|Ax (N:=ZL) (pn:=(Ah PD).names)<|by decide +kernel)<|Ai<|B9 (A7 L1 (Ay Cy rfl ag aX<|Aa (vv 6) Ad) Ag<|nomark _) (Ai<|C1 (Bu hr) (vv 2) (vv 3)<|vv 6) Bh)<|Ai<|Aw<|vv 2),?_⟩
 rintro xs μ R _ ⟨dk,J,G,L,u,rfl,hT,hB,D,hPB,m5,q⟩;intro M jy;have wf:M≠J:=by rintro rfl;rw[D.dd]at jy;cases jy
 have S0:Sub (B5 μ J) (B5 (Ao μ M<|.dt []) J):=λb m hb=>by
  have f9:b≠J:=λz=>by rw[z]at hb;unfold B5 at hb;rw[T_ rfl]at hb;cases hb
  rw[Bb f9]at hb ⊢;rw[Af<|by rintro rfl;rw[jy]at hb;cases hb];exact hb
 have hTd:=hT.del m5 D.dd;have zae:=D.n;refine Az (λτ d=>∃o3 o4 Y V C p,τ=[oD dk,oD J,oD M,o3,o4,Y,V]/\DcK d M C p/\WtOk G L u C p/\Sub (B5 μ J) d) (λZ hZ=>?_) ?_
 ·refine Ab (x:=MO.dt<|u.map kvT) (by rw[Af wf.symm];exact D.dd) ?_;refine Jn (λi τ d=>∃o3 o4 Y V C p,τ=[oD dk,oD J,oD M,o3,o4,Y,V]/\p.length<=i/\DcK d M C p/\WtOk G L (u.take i) C p/\Sub (B5 μ J) d) ⟨none,none,none,none,λ_=>[],[],rfl,F_ _,⟨by rw[Bb wf];exact Ac,(λ_ h=>nomatch h),aN _,bJ⟩,⟨(λ_ h=>nomatch h),(λ_ h=>nomatch h),(λ_ h=>nomatch h)⟩,S0⟩ ?_ ?_
  ·rintro i v τ r W hv ⟨o3,o4,Y,V,C,p,rfl,cj,B,I,T⟩ hW;rw[L_]at hv;obtain⟨e,he,rfl⟩:=H_.mp hv;have gn:=X_ he;have hi:=(D_.mp he).1;obtain⟨i3,hed⟩:=D.ll e gn;have eP:r e.2=oG ((L e.1).map Ba):=T _ _ (by rw[Bb hed];exact i3);obtain⟨hg32,hgb⟩:=hB e.1;obtain⟨hp32,hpb⟩:=hPB e gn;have bo:u.take (i+1)=u.take i++[e]:=by rw[aG,he];rfl
   have cf:∀g∈p,g.1≠e.1:=λg o c=>by obtain⟨e2,h1,h2⟩:=I.k g o;have S:((u.take<|i+1).map (·.1)).Nodup:=D.uu.sublist<|(fL _ _).map _;rw[bo,M_,aY]at S;exact S.2.2 e2.1 (E_.mpr ⟨e2,h1,rfl⟩) e.1 (by simp)<|h2.trans c
   dsimp only[Fo,Ei,Ps,List.set,kvT];refine Az (λτ d=>∃O,τ=[oD dk,oD J,oD M,oF<|.tuple [.int (e.1.1:Nat),.int (e.1.2:Nat)],oD e.2,oD O,V]/\d O=oG (((G e.1).map (·.2)).map B0)/\Sub r d) (λZ3 b9=>?_) ?_;dsimp only[Tk,Nm,HR];refine Hl (td:=Jc 0) (ty:=Jc 3) (τ:=[oD dk,oD J,oD M,oF<|.tuple [.int (e.1.1:Nat),.int (e.1.2:Nat)],oD e.2,Y,V]) hTd T e.1.1 e.1.2 (λQ h=>h) (λQ h=>h) ?_;intro l μ2 hl X _;refine Ab (Am hl) λO yq=>?_;have llw:l≠O:=by rintro rfl;rw[hl]at yq;cases yq
   refine cmap (G e.1) Ba (λz=>B0 z.2) (λτ=>∃o1 o2,τ=[o1,o2]) ⟨none,none,rfl⟩ Ac (seven<|by omega) (λ_=>Am<|by rw[Bk,Af llw];exact hl) ?_ ?_;rintro j z τ' acc W2 hj ⟨o1,o2,rfl⟩ hW2;exact⟨rfl,Ot<|hW2 _ ⟨_,_,rfl⟩⟩;rw[Bk];exact b9 _ _ ⟨O,rfl,by rw[Ac,aF];rfl,X.new<|X.none yq⟩;rintro τ μ2 ⟨O,rfl,e2,X⟩;have vt:=X _ _ eP;refine Az (λτ d=>∃t,τ=[oD dk,oD J,oD M,oF<|.tuple [.int (e.1.1:Nat),.int (e.1.2:Nat)],oD e.2,oD O,oD t]/\d t=oG (((L e.1).filter λz=>!((G e.1).map (·.2)).any λl=>decide (l &&& z.2=l)).map Ba)/\r t=none/\Sub r d) (λZ3 b9=>?_) ?_
   ·refine Ab (Am vt) λt U=>?_;have l1:e.2≠t:=by intro c;rw[c,U]at vt;cases vt
    have l2:O≠t:=by rintro rfl;rw[e2]at U;cases U
    refine cmapf (L e.1) Ba (λz=>!((G e.1).map (·.2)).any λl=>decide (l &&& z.2=l)) Ba (λτ=>∃o1,τ=[o1,oD O]) ⟨none,rfl⟩ Ac (seven<|by omega) (λ_=>Am<|by rw[Bk,Af l1];exact vt) ?_ ?_
    ·rintro j z τ' acc W1 W2 hj ⟨o1,rfl⟩ w1 w2;refine Ab (x:=PyData.int (z.2:Nat)) (Aj (j:=1) rfl) ⟨O,(G e.1).map (·.2),z.2,rfl,by rw[Bk,Af l2];exact e2,?_⟩;rw[Bk]at w1 w2 ⊢;cases hh:((G e.1).map (·.2)).any λl=>decide (l &&& z.2=l) with
     |true=>exact J5 rfl (w2 (by rw[hh];rfl) _ ⟨_,rfl⟩)
     |false=>exact J4 rfl<|w1 (by rw[hh];rfl) _ ⟨_,rfl⟩
    rw[Bk];exact b9 _ _ ⟨t,rfl,Ac,X.none U,X.new<|X.none U⟩
   rintro τ μ3 ⟨t,rfl,e3,U,S3⟩;have yc:∀z:Pr,(((G e.1).map (·.2)).any λl=>decide (l &&& z.2=l))=true↔∃y∈G e.1,Wn y z:=λz=>by rw[aZ];constructor;rintro⟨b,hb,h⟩;obtain⟨y,hy,rfl⟩:=E_.mp hb;exact⟨y,hy,Mp.mp<|aE h⟩;rintro⟨y,hy,h⟩;exact⟨y.2,E_.mpr ⟨y,hy,rfl⟩,aQ<|Mp.mpr h⟩
   have j1:∀z,z∈((L e.1).filter λz=>!((G e.1).map (·.2)).any λl=>decide (l &&& z.2=l))↔z∈L e.1/\¬ ∃y∈G e.1,Wn y z:=λz=>by rw[bH,<- yc z,jZ,Bool.not_eq_true]
   have lv:((L e.1).filter λz=>!((G e.1).map (·.2)).any λl=>decide (l &&& z.2=l)).Sublist (L e.1):=jR;generalize ((L e.1).filter λz=>!((G e.1).map (·.2)).any λl=>decide (l &&& z.2=l))=lf0 at e3 j1 lv;have va:∀z∈L e.1,(∃y∈G e.1,Wn y z)\/z∈lf0:=λz hz=>(Classical.em (∃y∈G e.1,Wn y z)).imp id λh=>(j1 z).mpr ⟨hz,h⟩;refine Ab e3<|dif (λc=>?_) λc=>?_;have am:lf0≠[]:=by rintro rfl;exact absurd c<|by decide
   have zn:t≠M:=by rintro rfl;rw[B.dd]at U;cases U
   have ep:dput (.dt<|p.map kvT) (.tuple [.int (e.1.1:Nat),.int (e.1.2:Nat)]) (.R t)=some (.dt<|(p++[(e.1,t)]).map kvT):=by rw[<- F4 cf];rfl
   refine Ab (S3 _ _ B.dd) (Ab ep ⟨A0<|show(p.map kvT).length<=1000 by rw[B_];omega,hW _ _ ⟨_,_,_,_,λk=>if k=e.1 then lf0 else C k,p++[(e.1,t)],rfl,by rw[P_];exact gQ cj,⟨Ac,λg o=>?_,by rw[P_];show p.length+1<=20;omega,?_⟩,⟨λg o=>?_,λg o=>?_,λg o z hz=>?_⟩,F3 (T.trans S3)<|by rw[Bb wf];exact jy⟩⟩);rcases Q_.mp o with h|h;obtain⟨h1,h2⟩:=B.ll g h;rw[O_<|cf g h,Af h2];exact⟨S3 _ _ h1,h2⟩;rw[I_.mp h];rw[T_ rfl,Af zn];exact⟨e3,zn⟩;rw[M_,aY];refine⟨B.uu,by simp,λx hx y hy c2=>?_⟩;obtain⟨g,o,rfl⟩:=E_.mp hx;have hy:y=e.1:=by simpa using hy
   exact cf g o<|c2.trans hy
   rw[bo];rcases Q_.mp o with h|h;obtain⟨ij,h1,h2⟩:=I.k g h;exact⟨ij,Y_ _ h1,h2⟩;rw[I_.mp h];exact⟨e,by simp,rfl⟩;rcases Q_.mp o with h|h;rw[O_<|cf g h];exact I.w g h;rw[I_.mp h];rw[T_ rfl];exact⟨am,lv,λz hz y hy hw=>((j1 z).mp hz).2 ⟨y,hy,hw⟩⟩;rw[bo]at o;rcases Q_.mp o with h|h;refine(I.c g h z hz).imp id λ⟨ij,h1,h2,S⟩=>⟨ij,Y_ _ h1,h2,?_⟩;rw[O_<|cf ij h1];exact S;rw[I_.mp h]at hz ⊢;refine(va z hz).imp id λS=>⟨(e.1,t),by simp,rfl,?_⟩;rw[T_ rfl];exact S
   ·have jr:lf0=[]:=by
     cases lf0 with
     |nil=>rfl
     |cons a l=>exact absurd (show(0:Int)<(((a::l).map Ba).length:Nat) from by rw[B_,bE];omega) c
    refine hW _ _ ⟨_,_,_,_,C,p,rfl,bK cj,⟨S3 _ _ B.dd,λg o=>⟨S3 _ _ (B.ll g o).1,(B.ll g o).2⟩,B.n,B.uu⟩,⟨λg o=>?_,I.w,λg o z hz=>?_⟩,T.trans S3⟩;rw[bo];obtain⟨ij,h1,h2⟩:=I.k g o;exact⟨ij,Y_ _ h1,h2⟩;rw[bo]at o;rcases Q_.mp o with h|h;exact I.c g h z hz;rw[I_.mp h]at hz ⊢;refine(va z hz).imp id λS=>?_;rw[jr]at S;cases S
  rintro τ r ⟨o3,o4,Y,V,C,p,rfl,cj,B,I,T⟩;rw[B_,aB]at I;exact hZ _ _ ⟨_,_,_,_,C,p,rfl,B,I,T⟩
 rintro τ r ⟨o3,o4,Y,V,C,p,rfl,B,I,T⟩;exact⟨_,Sub.refl,q M C p r B I jy T⟩
def DJ(l:oA Nat):Fa (l.map B0)=some (l.map λ(n:Nat)=>(n:Int)):=by
 induction l with
 |nil=>rfl
 |cons n l a=>show(Fa<|l.map B0).map _=_;rw[a];rfl
theorem O1:∀ns:oA Nat,(ns.map λ(n:Nat)=>(n:Int)).sum=((ns.sum:Nat):Int)
 |[]=>rfl
 |n::ns=>by rw[aS,fV,fV,O1 ns];rfl
abbrev nHm:oA Str:=oQ
def ZM:FnScope nHm oQ (Ah UL):=Bi<|by decide +kernel
def SF:(oN:oA Str).Nodup:=by decide +kernel
def SG:ASp:=λc b R=>∃(d:lB) (G:Tops) (kvs:oA<|(Nat×Nat)×lB),c=[.R d]/\DcK b d G kvs/\(∀e∈kvs,(G e.1).length<=32)/\∀ a,Sub b a->R (.D<|.int ((kvs.map λe=>(G e.1).length).sum:Nat)) a
def SH{n:Nat}(F:Fun K "how_many" "how_many" UL f fd) (l:mg "sum" = none) (y:mg "len" = none):FnOk P w K mg base Cm (n+1) f fd oQ (Dj K 1 SG):=by
 refine F.vok ZM λC A h s H E J=>⟨_,(Ai<|Aw<|Ay (OD rfl) rfl l PyProof.Rows.boot_sum<|Aa (N9 (N':=oN) (mp:=[none]) rfl (vv 0) (λ_ _ _ _=>(Ak (i:=0) SF rfl oH oI)) (λ_ _ _ _=>Bm) (λ_ _ _ _=>(Ay Cy rfl y aX<|Aa (vv 0) Ad))<|Ax (N:=nHm) (pn:=(Ah UL).names)<|by decide +kernel) Ad),?_⟩;rintro B I R _ ⟨d,G,a,rfl,D,hb,q⟩;refine Ab D.dd λp hp=>?_;have k:d≠p:=by rintro rfl;rw[D.dd]at hp;cases hp
 rw[show(a.map kvT).map (λx=>x.2)=a.map λe=>AV.R e.2 by rw[aF];rfl];have j:=D.n;refine cmap a (λe=>AV.R e.2) (λe=>.D<|.int ((G e.1).length:Nat)) (λr=>∃o,r=[o]) ⟨none,rfl⟩ Ac (seven<|by omega) (λ_=>trivial) ?_ ?_;rintro i e t v W he ⟨o,rfl⟩ hW;obtain⟨h1,h2⟩:=D.ll e<|X_ he;have u:e.2≠p:=λz=>by rw[z,hp]at h1;cases h1
 refine Ab (x:=MO.lst<|(G e.1).map Ba) (by rw[Bk,Af u,Bb h2];exact h1) ?_;show W _ (.D<|.int (((G e.1).map Ba).length:Nat)) _;rw[B_];exact hW _ ⟨_,rfl⟩;refine Ab (x:=MO.lst<|(a.map λe=>(G e.1).length).map B0) (by rw[Af k.symm,Ac,aF];rfl) (Ab (DJ _) ⟨⟨λn j=>?_,by rw[B_,B_];omega⟩,_,Sub.refl,?_⟩);obtain⟨m,c,rfl⟩:=E_.mp j;obtain⟨e,he,rfl⟩:=E_.mp c;have:=hb e he;omega;rw[O1];refine q _ λb m c=>?_;by_cases g:b=d;rw[g,Ac,<- c,g,D.dd];rw[Af g,Af (by rintro rfl;rw[hp]at c;cases c),Af (by rintro rfl;rw[hp]at c;cases c),Bb g];exact c
structure Kpt(μ:M)(d:lB)(G:Tops)(kk:oA<|(Nat×Nat)×lB):Prop where
 D:DcK μ d G kk
 o:∀k,(∀e∈kk,e.1≠k)->G k=[]
 b:∀e∈kk,e.1.1<5/\e.1.2<4
def Kpt.top{b:M}{d:lB}{G:Tops}{a:oA<|(Nat×Nat)×lB}(h:Kpt b d G a):TopK b d G:=⟨a,h.D.dd,λe he=>(h.D.ll e he).1,h.o,h.D.uu⟩
def KG{ks:oA<|Nat×Nat}(h:ks.Nodup)(hb:∀k∈ks,k.1<5/\k.2<4):ks.length<=20:=by have:=F9 (ys:=(List.range 5).flatMap λi=>(List.range 4).map λj=>(i,j)) h λk hk=>dE.mpr ⟨k.1,cZ.mpr (hb k hk).1,E_.mpr ⟨k.2,cZ.mpr (hb k hk).2,rfl⟩⟩;exact this
def putK(kvs:oA<|(Nat×Nat)×lB)(k:Nat×Nat)(z:lB):oA ((Nat×Nat)×lB):=if ∃e∈kvs,e.1=k then kvs.map λe=>if e.1=k then(k,z) else e else kvs++[(k,z)]
def SI{kvs:oA<|(Nat×Nat)×lB}{k:Nat×Nat}{z:lB}:Dz (kvs.map kvT) [.inl (k.1:Nat),.inl (k.2:Nat)] (.R z)=(putK kvs k z).map kvT:=by unfold putK;split;rename_i h;obtain⟨e,he,rfl⟩:=h;unfold Dz;rw[T_<|aZ.mpr ⟨kvT e,E_.mpr ⟨e,he,rfl⟩,aQ rfl⟩,aF,aF];refine eB λx _=>?_;by_cases c:x.1=e.1;show ite _ _ _=kvT (ite _ _ _);rw[T_ c,T_<|by rw[<- c];rfl,<- c];rfl;show ite _ _ _=kvT (ite _ _ _);rw[O_ c];exact O_ λz=>c<|Mq z;rename_i h;exact F4 λe he c=>h ⟨e,he,c⟩
def put_mem{kvs:oA<|(Nat×Nat)×lB}{k:Nat×Nat}{z:lB}{e:(Nat×Nat)×lB}(h:e∈putK kvs k z):e=(k,z)\/(e∈kvs/\e.1≠k):=by unfold putK at h;split at h;obtain⟨x,hx,rfl⟩:=E_.mp h;by_cases c:x.1=k;rw[T_ c];exact .inl rfl;rw[O_ c];exact .inr ⟨hx,c⟩;rename_i a;rcases Q_.mp h with h|h;exact .inr ⟨h,λc=>a ⟨e,h,c⟩⟩;exact .inl<|I_.mp h
def put_keys{kvs:oA<|(Nat×Nat)×lB}{k:Nat×Nat}{z:lB}:(putK kvs k z).map (·.1)=kvs.map (·.1)\/(k∉kvs.map (·.1)/\(putK kvs k z).map (·.1)=kvs.map (·.1)++[k]):=by
 unfold putK;split;refine .inl ?_;rw[aF];refine eB λx _=>?_;show(ite _ _ _:(Nat×Nat)×lB).1=x.1;split;rename_i c;exact c.symm
 rfl
 rename_i a;refine .inr ⟨λz=>?_,by rw[M_];rfl⟩;obtain⟨e,he,c⟩:=E_.mp z;exact a ⟨e,he,c⟩
def DK{kvs:oA<|(Nat×Nat)×lB}{k:Nat×Nat}{z:lB}:k∈(putK kvs k z).map (·.1):=by rcases put_keys (kvs:=kvs) (k:=k) (z:=z) with h|h;unfold putK at h ⊢;split;rename_i a;obtain⟨e,he,rfl⟩:=a;rw[T_ ⟨e,he,rfl⟩]at h;rw[h];exact E_.mpr ⟨e,he,rfl⟩;rw[M_];exact aK _<|.head _;rw[h.2];exact aK _<|.head _
def Kpt.put{p:M}{d z:lB}{G l:Tops}{g:oA<|(Nat×Nat)×lB}{k:Nat×Nat}(h:Kpt p d G g)(hk:k.1<5/\k.2<4)(hz:p z=oG ((l k).map Ba))(i:z≠d)(r:∀j,j≠k->l j=G j):Kpt (Ao p d<|.dt<|(putK g k z).map kvT) d l (putK g k z):=by
 have hb:∀e∈putK g k z,e.1.1<5/\e.1.2<4:=λe he=>(put_mem he).elim (λc=>by rw[c];exact hk) λc=>h.b e c.1;have hu:((putK g k z).map (·.1)).Nodup:=by rcases put_keys (kvs:=g) (k:=k) (z:=z) with e|⟨n,e⟩;rw[e];exact h.D.uu;rw[e,aY];exact⟨h.D.uu,by simp,λa ha b hb c=>n<|by rw[<- I_.mp hb,<- c];exact ha⟩
 refine⟨⟨Ac,λe he=>?_,?_,hu⟩,λj hj=>?_,hb⟩;rcases put_mem he with rfl|⟨h1,h2⟩;exact⟨by rw[Af i];exact hz,i⟩;obtain⟨y,s⟩:=h.D.ll e h1;exact⟨by rw[Af s,r _ h2];exact y,s⟩;have:=KG hu λk hk=>by obtain⟨e,he,rfl⟩:=E_.mp hk;exact hb e he
 rwa[B_]at this;have m:j≠k:=λc=>by obtain⟨e,he,u⟩:=E_.mp<|DK (kvs:=g) (k:=k) (z:=z);exact hj e he<|u.trans c.symm
 rw[r j m];refine h.o j λe he c=>?_;have:e.1∈(putK g k z).map (·.1):=by rcases put_keys (kvs:=g) (k:=k) (z:=z) with q|⟨_,q⟩;rw[q];exact E_.mpr ⟨e,he,rfl⟩;rw[q];exact Y_ _<|E_.mpr ⟨e,he,rfl⟩
 obtain⟨x,v,t⟩:=E_.mp this;exact hj x v<|t.trans c
abbrev ZN:oA Str:=["kept","waiting","pairs","cheapest","top"]
def DL:FnScope ZN qT (Ah PB):=Bi<|by decide +kernel
def SJ:(oN:oA Str).Nodup:=by decide +kernel
def SK:(["pair","cheapest"]:oA Str).Nodup:=by decide +kernel
structure Chp(Wf N:Tops)(kw:oA<|(Nat×Nat)×lB)(c:Nat):Prop where
 i:∀e∈kw,N e.1=(Wf e.1).filter λz=>decide (z.1=c)
 o:∀k,(∀e∈kw,e.1≠k)->N k=[]
def SL:ASp:=λi h R=>∃(dk g:lB) (G d:Tops) (j a:oA<|(Nat×Nat)×lB),i=[.R dk,.R g]/\Kpt h dk G j/\DcK h g d a/\a≠[]/\(∀e∈a,d e.1≠[])/\(∀e∈a,e.1.1<5/\e.1.2<4)/\Mv G/\(∀e∈a,(d e.1).length<=32/\∀z∈d e.1,z.2<32)/\dk≠g /\
 ∀c N l b,(∃e∈a,∃z∈d e.1,z.1=c)->Chp d N a c->Kpt b dk (λk=>G k++N k) l->Sub (B5 (B5 h g) dk) b->R (.D .none) b
def SM{n:Nat}(F:Fun K "keep_cheapest" "keep_cheapest" PB f fd) (ie:mg "min" = none):FnOk P w K mg base Cm (n+1) f fd qT (Dj K 2 SL):=by
 refine F.vok DL λav A outer s H E hr=>⟨_,(Ae (Aq (i:=3) DL.nd rfl oI<|Ay (Xr hr rfl) rfl ie PyProof.Rows.boot_min<|Aa (N9 (N':=oN) (mp:=[none]) rfl (vv 1) (λ_ _ _ _=>(Ak (i:=0) SJ rfl oH oI)) (λ_ _ _ _=>Bm) (λ_ _ _ _=>(Au A8 (Ay (Xr hr rfl) rfl ie PyProof.Rows.boot_min<|Aa (vv 0) Ad) Ag))<|Ax (N:=ZN) (pn:=(Ah PB).names)<|by decide +kernel) Ad)<|Ai<|Hh aA rfl (vv 1) (Av (Ak (i:=4) DL.nd rfl oH)<|Av (Ak (i:=2) DL.nd rfl oH) B2)<|Ai<|C1 (Bu hr) (vv 0) (vv 4)<|A9 Ce (Hd (Bu hr) (vv 0) (vv 4)<|Cb Ad)<|Bq (N':=["pair","cheapest"]) (mp:=[none,some 3]) rfl (Be<|vv 2) (λ_ _ _ _=>(Ak (i:=0) SK rfl oH oI)) (λ_ _ _ _=>(Dm<|A7 (D9 hr) (Au A8 (vv 0) Ag) (vv 1)<|nomark _)) (λ_ _ _ _=>(vv 0))<|Ax (N:=ZN) (pn:=(Ah PB).names)<|by decide +kernel),?_⟩
 rintro xs μ R _ ⟨dk,u,G,a,kk,U,rfl,T,D,am,hW0,im,hGB,hWB,jy,q⟩;refine Az (λτ g=>∃c:Nat,τ=[oD dk,oD u,none,oE (c:Nat),none]/\Sub μ g/\∃e∈U,∃z∈a e.1,z.1=c) (λZ hZ=>?_) ?_;refine Ab D.dd λp hp=>?_;have x5:u≠p:=by rintro rfl;rw[D.dd]at hp;cases hp
 rw[show(U.map kvT).map (λx=>x.2)=U.map λe=>AV.R e.2 by rw[aF];rfl];have hn:=D.n;refine Dn (λi L τ g=>∃(o:oB AV) (S:oA Nat),τ=[o]/\L=S.map B0/\S.length=i/\(∀c∈S,∃e∈U,∃z∈a e.1,z.1=c)/\g=Ao (B5 μ u) p (.lst L)) ⟨none,[],rfl,rfl,rfl,(λ_ h=>nomatch h),rfl⟩ (λ_ _ _ _ _=>trivial) ?_ ?_;rintro i x L τ g W hx ⟨o,S,rfl,rfl,bp,fq,rfl⟩ hW;rw[L_]at hx;obtain⟨e,he,rfl⟩:=H_.mp hx;have V:=X_ he;obtain⟨h1,h2⟩:=D.ll e V;have xo:e.2≠p:=λz=>by rw[z,hp]at h1;cases h1
 refine J4 rfl (Ab (x:=MO.lst<|(a e.1).map Ba) (by rw[Af xo,Bb h2];exact h1)<|Ab (Ou _) ⟨⟨?_,λd I=>?_⟩,λd I _=>?_⟩);rw[B_];exact gV.mpr<|hW0 e V;obtain⟨z,_,rfl⟩:=E_.mp I;exact⟨Ov z,λd I=>by obtain⟨y,_,rfl⟩:=E_.mp I;exact R6 z y⟩;obtain⟨z,hz,rfl⟩:=E_.mp I;refine Ab (x:=PyData.int (z.1:Nat)) (Aj (j:=0) rfl) ⟨Ac,by rw[B_,bp];exact S_ (D_.mp he).1<|G_ hn<|by decide,hW _ _ _ ⟨_,S++[z.1],rfl,by rw[M_];rfl,by rw[P_,bp];rfl,λc hc=>?_,Bk⟩⟩;rcases Q_.mp hc with hc|hc;exact fq c hc;exact⟨e,V,z,hz,(I_.mp hc).symm⟩;rintro L τ g ⟨o,S,rfl,rfl,bp,fq,rfl⟩;have hc0:0<S.length:=by rw[bp,B_];exact gV.mpr am
 refine Ab (x:=MO.lst<|S.map B0) (by rw[Af x5.symm,Ac]) (Ab (E3 S) ⟨⟨by rw[B_];exact hc0,λd I=>?_⟩,λd I _=>?_⟩);obtain⟨c,_,rfl⟩:=E_.mp I;refine⟨Bz _,λd I=>?_⟩;obtain⟨c',_,rfl⟩:=E_.mp I;simp only[cmpb];obtain⟨c,hc,rfl⟩:=E_.mp I;refine hZ _ _ ⟨c,rfl,λb m hm=>?_,fq c hc⟩;by_cases f9:b=u;rw[f9,Ac,<- hm,f9,D.dd];rw[Af f9,Af (by rintro rfl;rw[hp]at hm;cases hm),Bb f9];exact hm;rintro τ μ1 ⟨c,rfl,S1,de⟩;refine Ab (S1 _ _ D.dd) ?_;have S0:Sub (B5 (B5 μ u) dk) (B5 μ1 u):=λb m hb=>by
  have h1:b≠dk:=λz=>by rw[z]at hb;unfold B5 at hb;rw[T_ rfl]at hb;cases hb
  rw[Bb h1]at hb;have h2:b≠u:=λz=>by rw[z]at hb;unfold B5 at hb;rw[T_ rfl]at hb;cases hb
  rw[Bb h2]at hb ⊢;exact S1 _ _ hb
 have T0:Kpt (B5 μ1 u) dk (λk=>G k++[]) kk:=⟨⟨by rw[Bb jy];exact S1 _ _ T.D.dd,λe he=>?_,T.D.n,T.D.uu⟩,λk hk=>by rw[T.o k hk];rfl,T.b⟩;refine Jn (λi τ g=>∃o2 o4 N qg,τ=[oD dk,oD u,o2,oE (c:Nat),o4]/\Chp a N (U.take i) c/\Kpt g dk (λk=>G k++N k) qg/\Sub (B5 (B5 μ u) dk) g) ⟨none,none,λ_=>[],kk,rfl,⟨(λ_ h=>nomatch h),λ_ _=>rfl⟩,T0,S0⟩ ?_ ?_;rintro i v τ M W hv ⟨o2,o4,N,t,rfl,C,r,S2⟩ hW;rw[L_]at hv;obtain⟨e,he,rfl⟩:=H_.mp hv;have V:=X_ he;have bo:U.take (i+1)=U.take i++[e]:=by rw[aG,he];rfl
 obtain⟨i3,hed⟩:=D.ll e V;have hek:e.2≠dk:=λz=>by rw[z,T.D.dd]at i3;cases i3
 have eW:M e.2=oG ((a e.1).map Ba):=S2 _ _ (by rw[Bb hek,Bb hed];exact i3);have dk0:B5 (B5 μ u) dk dk=none:=T_ rfl;have cf:∀B∈U.take i,B.1≠e.1:=λB O c=>by have X:((U.take<|i+1).map (·.1)).Nodup:=D.uu.sublist<|(fL _ _).map _;rw[bo,M_,aY]at X;exact X.2.2 B.1 (E_.mpr ⟨B,O,rfl⟩) e.1 (by simp) c
 have hN:N e.1=[]:=C.o _ cf;dsimp only[Fo,Ei,Ps,List.set,kvT,Rj,HG,Nm,HR];refine Hl (td:=Jc 0) (ty:=Jc 4) (τ:=[oD dk,oD u,oD e.2,oE (c:Nat),oF<|.tuple [.int (e.1.1:Nat),.int (e.1.2:Nat)]]) r.top Sub.refl e.1.1 e.1.2 (λQ h=>h) (λQ h=>h) ?_;intro l J hl S3 _;have hl:J l=oG ((G e.1).map Ba):=by rw[hl];show some (MO.lst<|(G e.1++N e.1).map Ba)=_;rw[hN,cP]
 have wb:=S3 _ _ eW;obtain⟨hg32,hgb⟩:=hGB e.1;obtain⟨hw32,hwb⟩:=hWB e V;refine Ab (Am wb) λp hp=>?_;have l1:e.2≠p:=by intro z;rw[z,hp]at wb;cases wb
 have l2:l≠p:=by rintro rfl;rw[hl]at hp;cases hp
 refine cmapf (a e.1) Ba (λz=>decide (z.1=c)) Ba (λτ=>∃o1,τ=[o1,oE (c:Nat)]) ⟨none,rfl⟩ Ac (seven<|by omega) (λ_=>Am<|by rw[Bk,Af l1];exact wb) ?_ ?_;rintro j z τ' L W1 W2 hj ⟨o1,rfl⟩ w1 w2;exact Ab (x:=PyData.int (z.1:Nat)) (Aj (j:=0) rfl)<|ieq (λe=>w1 (aQ<|fU e) _ ⟨_,rfl⟩) λe=>w2 (aH λh=>e<|b_ Int.ofNat h) _ ⟨_,rfl⟩;rw[Bk];have ak:((a e.1).filter λz=>decide (z.1=c)).length<=32:=G_ (cB _ _) hw32;have S4:Sub M (Ao J p<|.lst<|((a e.1).filter λz=>decide (z.1=c)).map Ba):=S3.new<|S3.none hp;have e4:Ao J p (.lst<|((a e.1).filter λz=>decide (z.1=c)).map Ba) l=oG ((G e.1).map Ba):=by rw[Af l2];exact hl
 have p4:Ao J p (.lst<|((a e.1).filter λz=>decide (z.1=c)).map Ba) p=oG (((a e.1).filter λz=>decide (z.1=c)).map Ba):=Ac;generalize Ao J p (.lst<|((a e.1).filter λz=>decide (z.1=c)).map Ba)=μ4 at S4 e4 p4;refine Ab e4 (Ab p4 ⟨by rw[B_,B_];exact seven<|by omega,λz hz=>?_⟩);have z2:=S4.none hz;have zd:z≠dk:=by rintro rfl;rw[r.D.dd]at z2;cases z2
 have Y:Sub M (Ao μ4 z<|.lst<|(G e.1).map Ba++((a e.1).filter λz=>decide (z.1=c)).map Ba):=S4.new z2;have e5:Ao μ4 z (.lst<|(G e.1).map Ba++((a e.1).filter λz=>decide (z.1=c)).map Ba) z=oG ((G e.1++(a e.1).filter λz=>decide (z.1=c)).map Ba):=by rw[Ac,M_]
 generalize Ao μ4 z (.lst<|(G e.1).map Ba++((a e.1).filter λz=>decide (z.1=c)).map Ba)=μ5 at Y e5;have ep:dput (.dt<|t.map kvT) (.tuple [.int (e.1.1:Nat),.int (e.1.2:Nat)]) (.R z)=some (.dt<|(putK t e.1 z).map kvT):=by rw[<- SI];rfl
 have w6:=r.D.n;refine Ab (Y _ _ r.D.dd) (Ab ep ⟨A0<|show(t.map kvT).length<=1000 by rw[B_];omega,hW _ _ ⟨_,_,λk=>if k=e.1 then(a e.1).filter (λz=>decide (z.1=c)) else N k,putK t e.1 z,rfl,⟨λB O=>?_,λk hk=>?_⟩,?_,F3 (S2.trans Y) dk0⟩⟩);rw[bo]at O;rcases Q_.mp O with h|h;rw[O_<|cf B h];exact C.i B h;rw[I_.mp h,T_ rfl];rw[bo]at hk;rw[O_ λz=>hk e (by simp) z.symm];exact C.o k λB O=>hk B<|Y_ _ O;refine Kpt.put (G:=λk=>G k++N k) ⟨⟨Y _ _ r.D.dd,λB O=>⟨Y _ _ (r.D.ll B O).1,(r.D.ll B O).2⟩,r.D.n,r.D.uu⟩,r.o,r.b⟩ (im e V) (by dsimp only;rw[T_ rfl];exact e5) zd λj hj=>by dsimp only;rw[O_ hj]
 rintro τ M ⟨o2,o4,N,t,rfl,C,r,S2⟩;rw[B_,aB]at C;exact⟨_,Sub.refl,q c N t M de C r S2⟩;obtain⟨h1,h2⟩:=T.D.ll e he;have X:=S1 _ _ h1;have h4:e.2≠u:=λz=>by rw[z,S1 _ _ D.dd]at X;cases X
 exact⟨by rw[Bb h4];show _=some (MO.lst<|(G e.1++[]).map Ba);rw[cP];exact X,h2⟩
end
section
variable {P:lD}{w:lE}{K:lC}{mg:Str->oB kZ}{base:lH}{f:lB}{fd:lK}
def E5(g:Gam)(S:Nat->oA Nat->Prop):Nat->Nat->oA Nat->Prop
 | 0,p,w=>S p w
 |n+1,p,w=>S p w\/∃x v,w=x::v/\((hnd g (p,x)=1/\rgp g.rs (p,x)≠[]/\∀r∈rgp g.rs (p,x),E5 g S n r.q<|r.w++v)\/(hnd g (p,x)≠1/\∃r∈rgp g.rs (p,x),E5 g S n r.q<|r.w++v))
section
variable {g:Gam}{S:Nat->oA Nat->Prop}
def E5.say{p:Nat}{w:oA Nat}(h:S p w):∀n,E5 g S n p w
 | 0=>h
 |_+1=>.inl h
theorem E5.up:∀{n p:Nat} {w:oA Nat},E5 g S n p w->E5 g S (n+1) p w
 | 0,_,_,h=>.inl h
 |_+1,_,_,h=>h.imp id<|by rintro ⟨x,v,e,h⟩;exact ⟨x,v,e,h.imp (by rintro ⟨a,b,c⟩;exact ⟨a,b,λr d=>(c r d).up⟩)<|by rintro ⟨a,r,d,c⟩;exact ⟨a,r,d,c.up⟩⟩
def E5.le{n m p:Nat}{w:oA Nat}(h:n<=m)(k:E5 g S n p w):E5 g S m p w:=by
 induction h with
 |refl=>exact k
 |step _ a=>exact a.up
theorem E5.pre(i:RgOk g):∀{n p:Nat} {w:oA Nat},p<g.pl.length->E5 g S n p w->Pre g S p w
 | 0,_,_,hp,h=>.say hp h
 |_+1,_,_,hp,.inl h=>.say hp h
 |_+1,_,_,hp,.inr ⟨x,v,e,.inl ⟨a,b,c⟩⟩=>by subst e;exact .all a b λr d=>(c r d).pre i (i.q r (bH.mp d).1).1
 |_+1,_,_,hp,.inr ⟨x,v,e,.inr ⟨a,r,d,c⟩⟩=>by subst e;exact .one d a<|c.pre i (i.q r (bH.mp d).1).1
def LC(g:Gam)(S:Nat->oA Nat->Prop)(m s:Nat)(w:oA Nat):Prop:=(s<g.pl.length/\E5 g S m s w)\/(g.pl.length<=s/\S s w)
def LC.le{n m s:Nat}{w:oA Nat}(h:n<=m)(k:LC g S n s w):LC g S m s w:=k.imp (by rintro ⟨a,b⟩;exact ⟨a,b.le h⟩) id
def Y8(g:Gam)(S:Nat->oA Nat->Prop)(G:Tops):Prop:=∀k,∀p∈G k,∀v m,(∀t∈Cd p.2,LC g S m t v)->LC g S (p.1+m) k.1 (k.2::v)
def Sb{Gs:oA<|oA Pr}{z:Pr}(hz:z∈cho Gs):∀G∈Gs,∃p∈G,p.1<=z.1/\∀t,p.2.testBit t=true->z.2.testBit t=true:=by
 have b:∀(Gs:oA<|oA Pr) (F:oA Pr),z∈Gs.foldl (λF G=>F.flatMap λp=>G.map<|ewe p) F->(∃f∈F,f.1<=z.1/\∀t,f.2.testBit t=true->z.2.testBit t=true)/\∀G∈Gs,∃p∈G,p.1<=z.1/\∀t,p.2.testBit t=true->z.2.testBit t=true:=by
  intro Gs
  induction Gs with
  |nil=>exact λF h=>⟨⟨z,h,F_ _,λ_ h=>h⟩,λ_ h=>nomatch h⟩
  |cons G Gs d=>intro F h;obtain⟨⟨f,c,h0,h1⟩,h2⟩:=d _ h;obtain⟨y,hy,c⟩:=dE.mp c;obtain⟨o,e,rfl⟩:=E_.mp c;have h0:max y.1 o.1<=z.1:=h0;refine⟨⟨y,hy,by omega,λt a=>h1 t<|by rw[Mu,a];rfl⟩,λi hG=>?_⟩;rcases aD.mp hG with rfl|hG;exact⟨o,e,by omega,λt a=>h1 t<|by rw[Mu,a,Bool.or_true]⟩;exact h2 i hG
 exact(b Gs _ hz).2
def Y9{G:Tops}(h:Y8 g S G){s:Nat}(a:s<5){u:oA Nat}(hu:u.length<=2){z:Pr}(hz:z∈Kh G s u){v:oA Nat}{m:Nat}(hv:∀t∈Cd z.2,LC g S m t v):LC g S (z.1+m) s (u++v):=by
 match u,hu with
 |[],_=>rw[I_.mp hz,Y5 a]at hv;exact(hv s<|.head _).le (Nat.le_add_left _ _)
 |[x],_=>exact h (s,x) z hz v m hv
 |[x,y],_=>
  obtain⟨p,hp,hz⟩:=dE.mp hz;obtain⟨q,hq,rfl⟩:=E_.mp hz;have:=h (s,x) p hp (y::v) (q.1+m) λt b=>by obtain⟨o,c,hc,hb⟩:=Sb hq _<|E_.mpr ⟨t,b,rfl⟩;exact(h (t,y) o c v m λi hi=>hv i<|Cz.mpr ⟨(Cz.mp hi).1,hb i (Cz.mp hi).2⟩).le<|Nat.add_le_add_right hc m
  exact this.le<|by show p.1+(q.1+m)<=p.1+q.1+m;omega
def Za(e:RgOk g){G:Tops}(h:Y8 g S G){k:Nat×Nat}(hk:k.1<g.pl.length)(hn:rgp g.rs k≠[]){z:Pr}(hz:z∈Gj g G k){v:oA Nat}{m:Nat}(hv:∀t∈Cd z.2,LC g S m t v):LC g S (z.1+1+m) k.1 (k.2::v):=by
 have b:∀r∈rgp g.rs k,∀y∈Kh G r.q r.w,y.1<=z.1->(∀t∈Cd y.2,LC g S m t v)->E5 g S (z.1+m) r.q (r.w++v):=λr b y hy hc hv=>by obtain⟨h1,h2⟩:=e.q r (bH.mp b).1;have:=e.p;exact((Y9 h (by omega) h2 hy hv).le<|Nat.add_le_add_right hc m).elim (λz=>z.2) λz=>absurd h1<|by omega
 rw[show z.1+1+m=z.1+m+1 by omega];unfold Gj at hz;split at hz;rename_i c;refine .inl ⟨hk,.inr ⟨k.2,v,rfl,.inl ⟨c,hn,λr a=>?_⟩⟩⟩;obtain⟨y,hy,hc,hb⟩:=Sb hz _<|E_.mpr ⟨r,a,rfl⟩;exact b r a y hy hc λt d=>hv t<|Cz.mpr ⟨(Cz.mp d).1,hb t (Cz.mp d).2⟩;rename_i c;obtain⟨K,i,hz⟩:=kM.mp hz;obtain⟨r,a,rfl⟩:=E_.mp i;exact .inl ⟨hk,.inr ⟨k.2,v,rfl,.inr ⟨c,r,a,b r a z hz (F_ _) hv⟩⟩⟩
def DM(G:Tops)(E:oA Nat):oA Nat->Nat->Nat->Prop
 |[],s,c=>s∈E/\c=0
 |x::v,s,c=>∃p∈G (s,x),∃m,c=p.1+m/\∀t∈Cd p.2,∃d,d<=m/\DM G E v t d
theorem O2{G:Tops}{E:oA Nat}(h:Y8 g S G)(i:∀s∈E,LC g S 0 s []):∀{w:oA Nat} {s c:Nat},DM G E w s c->LC g S c s w
 |[],s,_,⟨a,e⟩=>by rw[e];exact i s a
 |x::v,s,_,⟨p,hp,m,e,a⟩=>by rw[e];exact h (s,x) p hp v m λt j=>by obtain⟨d,k,b⟩:=a t j;exact(O2 h i b).le k
theorem O3{G:Tops}{E:oA Nat}:∀{w:oA Nat} {s:Nat},E4 G E w s->∃c,DM G E w s c
 |[],s,h=>⟨0,h,rfl⟩
 |x::v,s,⟨p,hp,h⟩=>by
  have i:∀l:oA Nat,(∀t∈l,E4 G E v t)->∃m,∀t∈l,∃d,d<=m/\DM G E v t d:=by
   intro l
   induction l with
   |nil=>exact λ_=>⟨0,λ_ h=>nomatch h⟩
   |cons t l k=>intro j;obtain⟨m,b⟩:=k λu hu=>j u<|.tail _ hu;obtain⟨d,n⟩:=O3<|j t<|.head _;refine⟨max d m,λu hu=>?_⟩;rcases aD.mp hu with rfl|hu;exact⟨d,Nat.le_max_left _ _,n⟩;obtain⟨e,he,a⟩:=b u hu;exact⟨e,G_ he<|Nat.le_max_right _ _,a⟩
  obtain⟨m,b⟩:=i (Cd p.2) h;exact⟨p.1+m,p,hp,m,rfl,b⟩
def Zb{B:Tops}{E:oA Nat}(h:∀k,∀p∈B k,∀t∈Cd p.2,g.pl.length<=t):Y8 g (λp w=>E4 B E w p) B:=λk p hp v m hv=>by have a:E4 B E (k.2::v) k.1:=⟨p,hp,λt b=>(hv t b).elim (λz=>absurd (h k p hp t b)<|Nat.not_le_of_lt z.1) λz=>z.2⟩;rcases fN k.1 g.pl.length with hk|hk;exact .inl ⟨hk,.say a _⟩;exact .inr ⟨hk,a⟩
end
end
section
variable {P:lD}{w:lE}{K:lC}{mg:Str->oB kZ}{base:lH}{f:lB}{fd:lK}
def Db(Pf:Nat×Nat->oA Pr)(kvs:oA<|(Nat×Nat)×lB):oA Ar:=kvs.flatMap λe=>(Pf e.1).map λz=>⟨e.1.1,e.1.2,Cd z.2,z.1⟩
theorem Sc{Pf:Nat×Nat->oA Pr}:∀{kvs:oA<|(Nat×Nat)×lB},(∀e∈kvs,(Pf e.1).length<=992)->(Db Pf kvs).length<=992*kvs.length
 |[],_=>by simp[Db]
 |e::kvs,h=>by have h1:=h e aW;have h2:=Sc (kvs:=kvs) λa he=>h a<|aJ _ he;unfold Db at h2 ⊢;rw[List.flatMap_cons,P_,B_,bE];omega
abbrev nAw:oA Str:=["tops","arrows","top","pairs"]
def DN:FnScope nAw oQ (Ah UM):=Bi<|by decide +kernel
def FF:(["cost","bits","top"]:oA Str).Nodup:=by decide +kernel
structure TopQ(μ:M)(d:lB)(Pf:Nat×Nat->oA Pr)(kvs:oA<|(Nat×Nat)×lB):Prop where
 dd:μ d=some (.dt<|kvs.map kvT)
 ll:∀e∈kvs,μ e.2=oG ((Pf e.1).map Ba)/\e.2≠d/\(Pf e.1).length<=992/\∀z∈Pf e.1,z.2<32
 n:kvs.length<=20
def SN:ASp:=λb a R=>∃(d:lB) (Pf:Nat×Nat->oA Pr) (kvs:oA<|(Nat×Nat)×lB),b=[.R d]/\TopQ a d Pf kvs/\∀(l:lB) μ',a l=none->μ' l=oG ((Db Pf kvs).map R8)->Sub (B5 a d) μ'->R (.R l) μ'
def SO{n:Nat}(F:Fun K "as_arrows" "as_arrows" UM f fd) (yk:VCal P w K mg base n "as_stands" ["bits"] JR):FnOk P w K mg base Cm (n+1) f fd oQ (Dj K 1 SN):=by
 refine F.vok DN λav A Y s H E hr=>⟨_,(Ae (Aq (i:=1) DN.nd rfl oH<|Cb Ad)<|Ae (Hh aA rfl (vv 0) (Av (Ak (i:=2) DN.nd rfl oI)<|Av (Ak (i:=3) DN.nd rfl oH) B2)<|Ai<|Ch<|Ff gZ g_ Je (vv 1)<|Aa (Bq (N':=["cost","bits","top"]) (mp:=[none,none,some 2]) rfl (Be<|vv 3) (λ_ _ _ _=>(Di (n:=2) rfl<|Av (Ak (i:=0) FF rfl oH oI)<|Av (Ak (i:=1) FF rfl oH oI) B2)) (λ_ _ _ _=>Bm) (λ_ _ _ _=>(A9 Ce (vv 2)<|Bc<|Aa (Al yk hr rfl<|Aa (vv 1) Ad)<|Aa (vv 0) Ad))<|Ax (N:=nAw) (pn:=(Ah UM).names)<|by decide +kernel) Ad)<|Ai<|Aw<|vv 1),?_⟩
 rintro xs L R _ ⟨d,Pf,kvs,rfl,T,q⟩;intro l J;have ld:l≠d:=by rintro rfl;rw[T.dd]at J;cases J
 refine Az (λG a=>∃g C,G=[oD d,oD l,g,C]/\a l=oG ((Db Pf kvs).map R8)/\Sub (B5 L d) a) (λZ hZ=>?_) ?_;refine Ab (x:=MO.dt<|kvs.map kvT) (by rw[Af ld.symm];exact T.dd) ?_;refine Jn (λi G a=>∃g C,G=[oD d,oD l,g,C]/\a l=oG ((Db Pf<|kvs.take i).map R8)/\Sub (B5 L d) a) ⟨none,none,rfl,?_,?_⟩ ?_ ?_;rw[Bb ld];exact Ac;intro b m hb;have f9:b≠d:=λz=>by rw[z]at hb;unfold B5 at hb;rw[T_ rfl]at hb;cases hb
 rw[Bb f9]at hb ⊢;rw[Af<|by rintro rfl;rw[J]at hb;cases hb];exact hb;rintro i v G p W hv ⟨g,C,rfl,t,u⟩ hW;rw[L_]at hv;obtain⟨e,he,rfl⟩:=H_.mp hv;obtain⟨i3,hed,hel,heb⟩:=T.ll e<|X_ he;have O:p e.2=oG ((Pf e.1).map Ba):=u _ _ (by rw[Bb hed];exact i3);have hi:=(D_.mp he).1;have hn9:=T.n;have bo:Db Pf (kvs.take<|i+1)=Db Pf (kvs.take i)++(Pf e.1).map λz=>⟨e.1.1,e.1.2,Cd z.2,z.1⟩:=by unfold Db;rw[aG,he,List.flatMap_append];simp
 have i5:=Sc (Pf:=Pf) (kvs:=kvs.take i) λe' bf=>(T.ll e'<|fP bf).2.2.1;rw[bD]at i5;refine⟨Ab t trivial,Ab (Am O) λV k=>?_⟩;have sv:l≠V:=by rintro rfl;rw[t]at k;cases k
 have qk:e.2≠V:=by rintro h;rw[h,k]at O;cases O
 have I:∀{ν:M} {o:MO},Sub (B5 L d) ν->Sub (B5 L d) (Ao ν V o):=λS=>S.new<|u.none k;refine Dn (λj r y a=>∃o1 g,y=[o1,g,oF<|.tuple [.int (e.1.1:Nat),.int (e.1.2:Nat)]]/\r=(((Pf e.1).take j).map λz=>R8 ⟨e.1.1,e.1.2,Cd z.2,z.1⟩)/\a V=oG r/\a e.2=oG ((Pf e.1).map Ba)/\a l=oG ((Db Pf<|kvs.take i).map R8)/\Sub (B5 L d) a) ⟨none,none,rfl,rfl,Ac,by rw[Af qk];exact O,by rw[Af sv];exact t,I u⟩ (by rintro _ _ _ _ ⟨_,_,_,_,_,e2,_⟩;exact Am e2) ?_ ?_;rintro j v r y μ2 W2 gp ⟨o1,g,rfl,rfl,U,f2,f3,X⟩ hW2;rw[L_]at gp;obtain⟨⟨c,b⟩,B,rfl⟩:=H_.mp gp;have hj:=(D_.mp B).1;refine⟨rfl,Ot<|J4 rfl ⟨b,rfl,heb _<|X_ B,λμ3 Q=>⟨by show 2+2<=sizeLine;decide,Q _ _ U,JS<|by rw[B_,bD];omega,hW2 _ _ _ ⟨_,_,rfl,?_,Ac,by rw[Af qk];exact Q _ _ f2,by rw[Af sv];exact Q _ _ f3,I<|X.trans Q⟩⟩⟩⟩;rw[aG,B,M_];rfl;rintro r y μ2 ⟨o1,g,rfl,rfl,U,f2,f3,X⟩;rw[B_,aB]at U;refine Ab f3 (Ab U ⟨cX<|JS<|by rw[B_,B_];omega,hW _ _ ⟨_,_,rfl,?_,?_⟩⟩);rw[Ac,bo,M_,aF];rfl;exact X.new (by rw[Bb ld];exact J);rintro G p ⟨g,C,rfl,t,u⟩;rw[B_,aB]at t;exact hZ _ _ ⟨_,_,rfl,t,u⟩;rintro G p ⟨g,C,rfl,t,u⟩;exact⟨_,Sub.refl,q l p J t u⟩
end
section
variable {P:lD}{w:lE}{K:lC}{mg:Str->oB kZ}{base:lH}{f:lB}{fd:lK}
theorem Ll(p:Ar->Bool):∀A:oA Ar,(A.filter p).length+(A.filter λa=>!p a).length=A.length
 |[]=>rfl
 |a::A=>by have:=Ll p A;cases h:p a<;>simp[List.filter_cons,h]<;>omega
def Zc{A:oA Ar}{k l:Nat×Nat}(h:l≠k):grp (A.filter λa=>!Ek k a) l=grp A l:=by
 unfold grp;rw[List.filter_filter];congr 1;refine List.filter_congr λa _=>?_;cases c:Ek l a
 rfl
 have e:l=(a.p,a.x):=bO λz=>by rw[Mr z]at c;cases c
 rw[Mr (a:=a) (k:=k) λz=>h<|e.trans z.symm];rfl
theorem Sd:∀{ks:oA<|Nat×Nat} {A:oA Ar},ks.Nodup->(ks.map λk=>(grp A k).length).sum<=A.length
 |[],_,_=>aN _
 |k::ks,A,h=>by
  rw[cQ]at h;have e:(ks.map λl=>(grp A l).length)=ks.map λl=>(grp (A.filter λa=>!Ek k a) l).length:=eB λl b=>by rw[Zc λc=>h.1<|by rw[<- c];exact b]
  have:=Sd (ks:=ks) (A:=A.filter λa=>!Ek k a) h.2;have hp:=Ll (Ek k) A;have d:(grp A k).length=(A.filter<|Ek k).length:=by unfold grp;rw[B_]
  rw[aS,fV,e];omega
structure GmOk(g:Gam):Prop where
 p:g.pl.length<=3
 r:g.rs.length<=8
 ok:∀r∈g.rs,r.p<g.pl.length/\r.q<g.pl.length/\r.x<2/\r.w.length<=2
def GmOk.gq{g:Gam}(h:GmOk g):GqOk g:=⟨G_ h.p<|by decide,h.r,λr d=>by obtain⟨a,b,_,c⟩:=h.ok r d;exact⟨a,S_ b<|G_ h.p<|by decide,c⟩⟩
def GmOk.rs{g:Gam}(h:GmOk g):RgOk g:=⟨G_ h.p<|by decide,λr a=>by obtain⟨_,b,_,c⟩:=h.ok r a;exact⟨b,c⟩⟩
def T6:oA (Nat×Nat):=[(0,0),(0,1),(1,0),(1,1),(2,0),(2,1)]
def in6{k:Nat×Nat}(h1:k.1<3)(h2:k.2<2):k∈T6:=by
 obtain⟨i,j⟩:=k;have a:∀(i:_root_.Fin 3) (j:_root_.Fin 2),(i.val,j.val)∈T6:=by decide +kernel
 exact a ⟨i,h1⟩ ⟨j,h2⟩
def GmOk.pt{g:Gam}(h:GmOk g){k:Nat×Nat}(hk:rgp g.rs k≠[]):k.1<g.pl.length/\k∈T6:=by obtain⟨r,h2⟩:=fG _ hk;obtain⟨d,b⟩:=bH.mp h2;unfold F5 at b;rw[aV,bL,bL]at b;obtain⟨a,_,c,_⟩:=h.ok r d;rw[b.1]at a;rw[b.2]at c;exact⟨a,in6 (S_ a h.p) c⟩
structure MI(g:Gam)(B:Tops)(E:oA Nat)(G:Tops):Prop where
 n:∀k,((G k).map (·.2)).Nodup
 b:∀k,∀z∈G k,z.2<32
 z:∀k,∀y∈B k,∃z∈G k,z.1=0/\∀t∈Cd z.2,t∈Cd y.2
 s:Y8 g (λp w=>E4 B E w p) G
 l:∀k,k∉T6->(G k).length<=(B k).length
 f:∀k,∀z∈G k,z.1=0\/k.1<g.pl.length
structure More(g:Gam)(G N:Tops):Prop where
 k:∀k,N k≠[]->k.1<g.pl.length/\rgp g.rs k≠[]
 f:∀k,∀z∈N k,(∃y∈Gj g G k,up1 y=z)/\z.2<32/\∀y∈G k,¬Wn y z
 u:∀k,((N k).map (·.2)).Nodup
section
variable {g:Gam}{B G N Wf Pf:Tops}{E:oA Nat}{kvs kw:oA<|(Nat×Nat)×lB}
def Zd{P Q:oA Pr}(h:∀y∈P,∃z∈Q,Wn z y):Under P Q:=λy hy=>by obtain⟨z,hz,b⟩:=h y hy;exact⟨z,hz,λt a=>Cz.mpr ⟨(Cz.mp a).1,b t (Cz.mp a).2⟩⟩
def MI.tb(h:MI g B E G):Mv G:=λk=>⟨Qv (h.n k)<|h.b k,h.b k⟩
def MI.more(d:GmOk g)(h:MI g B E G)(m:More g G N):MI g B E (λk=>G k++N k):=by
 refine⟨λk=>?_,λk z hz=>(Q_.mp hz).elim (h.b k z) λhz=>(m.f k z hz).2.1,λk y hy=>by obtain⟨z,hz,r⟩:=h.z k y hy;exact⟨z,Y_ _ hz,r⟩,λk p hp v c hv=>?_,λk hk=>?_,λk z hz=>(Q_.mp hz).elim (h.f k z) λhz=>.inr (m.k k λe=>by rw[e]at hz;cases hz).1⟩;rw[M_,aY];refine⟨h.n k,m.u k,λa ha b hb e=>?_⟩;obtain⟨y,hy,rfl⟩:=E_.mp ha;obtain⟨z,hz,rfl⟩:=E_.mp hb;exact(m.f k z hz).2.2 y hy λt i=>by rw[<- e];exact i
 rcases Q_.mp hp with hp|hp;exact h.s k p hp v c hv;obtain⟨⟨y,hy,rfl⟩,_,_⟩:=m.f k p hp;obtain⟨h1,h2⟩:=m.k k λz=>by rw[z]at hp;cases hp
 exact Za d.rs h.s h1 h2 hy hv
 have e:N k=[]:=bO λc=>hk (d.pt (m.k k c).2).2;rw[e,cP];exact h.l k hk
def SQ{P:oA Pr}(h:(P.map (·.2)).Nodup):P.Nodup:=(List.pairwise_map.mp h).imp λh e=>h<|b_ _ e
def MI.start(a:∀k,CvA (B k)<|G k)(h0:∀k,∀z∈B k,z.1=0)(hb:∀k,∀z∈B k,z.2<32)(e:∀k,∀p∈B k,∀t∈Cd p.2,g.pl.length<=t):MI g B E G :=
 ⟨λk=>(a k).u,λk z hz=>hb k z<|(a k).m z hz,λk y hy=>by
  obtain⟨z,hz,d⟩:=(a k).c y hy;exact⟨z,hz,h0 k z<|(a k).m z hz,λt b=>Cz.mpr ⟨(Cz.mp b).1,d t (Cz.mp b).2⟩⟩,λk p hp v m hv=>Zb e k p ((a k).m p hp) v m hv,λk _=>F9 (SQ (a k).u) (a k).m,λk z hz=>.inl<|h0 k z<|(a k).m z hz⟩
structure Wt(g:Gam)(G Wf:Tops)(kw:oA<|(Nat×Nat)×lB):Prop where
 k:∀e∈kw,rgp g.rs e.1≠[]
 w:∀e∈kw,Wf e.1≠[]/\(∀z∈Wf e.1,(∃y∈Gj g G e.1,up1 y=z)/\z.2<32/\∀y∈G e.1,¬Wn y z)/\((Wf e.1).map (·.2)).Nodup
 c:kw=[]->∀k,rgp g.rs k≠[]->Under (Gj g G k) (G k)
def SR(hk:∀k,(∃e∈kvs,e.1=k)↔rgp g.rs k≠[])(hp:∀e∈kvs,Cv ((Gj g G e.1).map up1)<|Pf e.1)(W:WtOk G Pf kvs Wf kw):Wt g G Wf kw:=by refine⟨λe he=>(hk _).mp<|W.k e he,λe he=>?_,λh k l=>?_⟩;obtain⟨d,h1,h2⟩:=W.k e he;obtain⟨n,i,j⟩:=W.w e he;have C:=hp d h1;rw[h2]at C;exact⟨n,λz hz=>⟨E_.mp<|C.m z<|i.subset hz,C.b z<|i.subset hz,j z hz⟩,C.u.sublist<|i.map _⟩;obtain⟨d,h1,rfl⟩:=(hk k).mpr l;refine Zd λy hy=>?_;obtain⟨z,hz,a⟩:=(hp d h1).c _<|E_.mpr ⟨y,hy,rfl⟩;rcases W.c d h1 z hz with⟨x,hx,b⟩|⟨e,he,_⟩;exact⟨x,hx,b.trans a⟩;rw[h]at he;cases he
def DO{c:Nat}(b:GmOk g)(W:Wt g G Wf kw)(C:Chp Wf N kw c):More g G N:=by
 have a:∀k,N k≠[]->∃e∈kw,e.1=k:=λk hk=>bO λz=>hk<|C.o k λe he h=>z ⟨e,he,h⟩;refine⟨λk hk=>?_,λk z hz=>?_,λk=>?_⟩;obtain⟨e,he,rfl⟩:=a k hk;exact⟨(b.pt<|W.k e he).1,W.k e he⟩;obtain⟨e,he,rfl⟩:=a k λc=>by rw[c]at hz;cases hz
 rw[C.i e he]at hz;exact(W.w e he).2.1 z (bH.mp hz).1;by_cases h:N k=[];rw[h];exact bJ;obtain⟨e,he,rfl⟩:=a k h;rw[C.i e he];exact(W.w e he).2.2.sublist (jR.map _)
def cnt(G:Tops):Nat:=(T6.map λk=>(G k).length).sum
theorem Ze{f g:Nat×Nat->Nat}(b:∀k,f k<=g k){k:Nat×Nat}(hk:f k<g k):∀{l:oA<|Nat×Nat},(l.map f).sum<=(l.map g).sum/\(k∈l->(l.map f).sum<(l.map g).sum)
 |[]=>⟨F_ _,λh=>nomatch h⟩
 |x::l=>by obtain⟨h1,h2⟩:=Ze b hk (l:=l);have a:=b x;rw[aS,aS,fV,fV];refine⟨Nat.add_le_add a h1,λh=>?_⟩;rcases aD.mp h with rfl|h;exact Nat.add_lt_add_of_lt_of_le hk h1;exact Nat.add_lt_add_of_le_of_lt a<|h2 h
def Zf{c:Nat}(a:GmOk g)(W:Wt g G Wf kw)(C:Chp Wf N kw c)(hc:∃e∈kw,∃z∈Wf e.1,z.1=c):cnt G<cnt λk=>G k++N k:=by
 obtain⟨e,he,z,hz,b⟩:=hc;have h1:z∈N e.1:=by rw[C.i e he];exact bH.mpr ⟨hz,aQ b⟩
 refine(Ze (λk=>?_) (k:=e.1) ?_).2 (a.pt<|W.k e he).2;rw[P_];exact dL _ _;rw[P_];exact Nat.lt_add_of_pos_right<|List.length_pos_of_mem h1
theorem Se{A:oA Ar}(b:Mv G)(h:∀k,k∉T6->(G k).length<=(grp A k).length):∀a:oA<|Nat×Nat,(a.map λk=>(G k).length).sum<=32*(a.filter λk=>decide (k∈T6)).length+(a.map λk=>(grp A k).length).sum
 |[]=>aN _
 |k::a=>by have d:=Se b h a;have h1:=(b k).1;rw[aS,aS,fV,fV,gO];by_cases c:k∈T6;rw[T_<|aQ c,bE];omega;rw[O_<|by rw[aH c];decide];have:=h k c;omega
def DP{A:oA Ar}(a:Mv G)(h:∀k,k∉T6->(G k).length<=(grp A k).length){ks:oA<|Nat×Nat}(hn:ks.Nodup):(ks.map λk=>(G k).length).sum<=192+A.length:=by have h1:=Se a h ks;have h2:=Sd (A:=A) hn;have b:(ks.filter λk=>decide (k∈T6)).length<=6:=F9 (ys:=T6) (hn.sublist jR) λk hk=>aE (bH.mp hk).2;omega
def Zg(h:Mv G):cnt G<=192:=by
 have a:∀l:oA<|Nat×Nat,(l.map λk=>(G k).length).sum<=32*l.length:=λl=>by
  induction l with
  |nil=>exact F_ _
  |cons k l b=>have:=(h k).1;rw[aS,fV,bE];omega
 exact a T6
def Mw{A:oA Arw}{c w:oA Nat}{x q:Nat}:rd A c (x::w) q=true↔∃a∈A,a.p=q/\a.x=x/\∀t∈a.ts,rd A c w t=true:=by rw[rd,aZ];constructor;rintro⟨a,ha,e⟩;rw[aV,bR]at e;have b:=aE e.1;exact⟨a,ha,b.1,b.2,e.2⟩;rintro⟨a,ha,h1,h2,d⟩;exact⟨a,ha,by rw[aV,bR];exact⟨aQ ⟨h1,h2⟩,d⟩⟩
def Jw{A:oA Arw}{a:oA Nat}{q:Nat}:rd A a [] q=true↔q∈a:=bL
theorem Mx{c:oA Arw}(h1:∀k,∀z∈G k,∃a∈c,a.p=k.1/\a.x=k.2/\∀t,t∈a.ts↔t∈Cd z.2)(h2:∀a∈c,∃z∈G (a.p,a.x),∀t,t∈a.ts↔t∈Cd z.2):∀(w:oA Nat) (s:Nat),rd c E w s=true↔E4 G E w s
 |[],s=>Jw
 |x::w,s=>by rw[Mw];constructor;rintro⟨a,ha,rfl,rfl,h⟩;obtain⟨z,hz,e⟩:=h2 a ha;exact⟨z,hz,λt b=>(Mx h1 h2 w t).mp<|h t<|(e t).mpr b⟩;rintro⟨z,hz,h⟩;obtain⟨a,ha,d,i,e⟩:=h1 (s,x) z hz;exact⟨a,ha,d,i,λt b=>(Mx h1 h2 w t).mpr<|h t<|(e t).mp b⟩
end
def Hm(a:Arw):Ar:=⟨a.p,a.x,a.ts,0⟩
def SS(a:Ar):Arw:=⟨a.p,a.x,a.ts,some a.c⟩
theorem Sg(t:Nat):∀(ts:oA Nat) (b:Nat),(ts.foldl (λb k=>b ||| 2^k) b).testBit t=(b.testBit t||ts.contains t)
 |[],b=>by simp
 |u::ts,b=>by rw[fK,Sg t ts,Nat.testBit_or,Nat.testBit_two_pow,List.contains_cons,Bool.or_assoc];congr 2;exact jH.mpr ⟨Eq.symm,Eq.symm⟩
def Qx{ts:oA Nat}(h:∀t∈ts,t<5)(t:Nat):t∈ts↔t∈Cd (bts ts):=by rw[Cz];unfold bts;rw[Sg,Nat.zero_testBit,kD,List.contains_iff_mem];exact⟨λz=>⟨h t z,z⟩,λz=>z.2⟩
def Ia{S:oA Arw}{k:Nat×Nat}{z:Pr}:z∈grp (S.map Hm) k↔∃a∈S,a.p=k.1/\a.x=k.2/\z=(0,bts a.ts):=by unfold grp;rw[E_];constructor;rintro⟨a,ha,rfl⟩;obtain⟨h1,h2⟩:=bH.mp ha;obtain⟨b,hb,rfl⟩:=E_.mp h1;unfold Ek at h2;rw[aV,bL,bL]at h2;exact⟨b,hb,h2.1,h2.2,rfl⟩;rintro⟨a,ha,h1,h2,rfl⟩;exact⟨Hm a,bH.mpr ⟨E_.mpr ⟨a,ha,rfl⟩,by rw[show k=((Hm a).p,(Hm a).x) from kY h1.symm h2.symm];exact Jv _⟩,rfl⟩
def DQ{S:oA Arw}{E:oA Nat}(h:∀a∈S,∀t∈a.ts,t<5)(w:oA Nat)(s:Nat):rd S E w s=true↔E4 (grp<|S.map Hm) E w s :=
 Mx (λk z hz=>by
  obtain⟨a,ha,h1,h2,rfl⟩:=Ia.mp hz;exact⟨a,ha,h1,h2,Qx<|h a ha⟩) (λa ha=>⟨(0,bts a.ts),Ia.mpr ⟨a,ha,rfl,rfl,rfl⟩,Qx<|h a ha⟩) w s
def My{Pf:Tops}{kvs:oA<|(Nat×Nat)×lB}{a:Ar}:a∈Db Pf kvs↔∃e∈kvs,∃z∈Pf e.1,a=⟨e.1.1,e.1.2,Cd z.2,z.1⟩:=by unfold Db;rw[dE];constructor;rintro⟨e,he,h⟩;obtain⟨z,hz,rfl⟩:=E_.mp h;exact⟨e,he,z,hz,rfl⟩;rintro⟨e,he,z,hz,rfl⟩;exact⟨e,he,E_.mpr ⟨z,hz,rfl⟩⟩
def Zh{G:Tops}{E:oA Nat}{d:oA<|(Nat×Nat)×lB}(j:∀k,(∀e∈d,e.1≠k)->G k=[]){i:oA Arw}(g:∀a,a∈i↔∃b∈Db G d,SS b=a)(w:oA Nat)(s:Nat):rd i E w s=true↔E4 G E w s :=
 Mx (λk z hz=>by
  obtain⟨e,he,rfl⟩:∃e∈d,e.1=k:=bO λc=>by rw[j k λe he h=>c ⟨e,he,h⟩]at hz;cases hz
  exact⟨_,(g _).mpr ⟨_,My.mpr ⟨e,he,z,hz,rfl⟩,rfl⟩,rfl,rfl,λ_=>kC⟩) (λa ha=>by
  obtain⟨b,hb,rfl⟩:=(g a).mp ha;obtain⟨e,he,z,hz,rfl⟩:=My.mp hb;exact⟨z,hz,λ_=>kC⟩) w s
end
section
variable {P:lD}{w:lE}{K:lC}{mg:Str->oB kZ}{base:lH}{f:lB}{fd:lK}
structure Gd(np:Nat)(s:Say):Prop where
 t:∀a∈s.as,∀t∈a.ts,np<=t/\t<np+s.own
 p:∀a∈s.as,a.p<np+s.own
 c:∀a∈s.as,a.c=none
structure SyOk(g:Gam)(s:Say):Prop where
 d:Gd g.pl.length s
 n:s.as.length<=8
 x:∀a∈s.as,a.x<2
 o:g.pl.length+s.own<=5
def Jx(s:Say)(p:Nat)(w:oA Nat):Prop:=rd s.as s.es w p=true
structure MsOk(g:Gam)(s:Say)(Ms:oA Arw):Prop where
 n:Ms.length<=200
 l:∀a∈Ms,a.ts.length<=5
 r:∀p w,p<g.pl.length->(rd Ms s.es w p=true↔∃n,E5 g (Jx s) n p w)
 c:∀a∈Ms,∃c,a.c=some c/\(c=0\/a.p<g.pl.length)/\∀v m,(∀t∈a.ts,LC g (Jx s) m t v)->LC g (Jx s) (c+m) a.p (a.x::v)
def Kpt.sub{a g:M}{d:lB}{G:Tops}{c:oA<|(Nat×Nat)×lB}(h:Kpt a d G c)(S:Sub a g):Kpt g d G c:=⟨⟨S _ _ h.D.dd,λe he=>⟨S _ _ (h.D.ll e he).1,(h.D.ll e he).2⟩,h.D.n,h.D.uu⟩,h.o,h.b⟩
def Zi{g:Gam}{G:Tops}{s:oA<|(Nat×Nat)×lB}{dk:lB}{a:M}{R:AV->M->Prop}(u:GmOk g)(T:Kpt a dk G s)(r:Mv G)(q:∀d l k c,Kpt c dk G s->DcK c d l k->Wt g G l k->d≠dk->a d=none->Sub a c->R (.R d) c):KD [.D<|Bt g,.R dk,.D<|.bool true] a λv j=>KF [.R dk,v] j R:=by
 refine⟨g,dk,G,rfl,u.gq,T.top,r,λx t p j Q=>⟨dk,x,G,t,p,rfl,T.top.sub Q.ss,r,⟨Q.dd,Q.ll,G_ Q.n<|by decide,Q.uu⟩,λe he=>⟨(Q.pf e he).len,(Q.pf e he).b⟩,?_,λd l k i D W o S=>?_⟩⟩;rintro rfl;have:=T.D.dd;rw[Q.nd]at this;cases this;have h:Sub a i:=λb m hb=>S _ _<|by
  rw[Bb<|by rintro rfl;rw[Q.nd]at hb;cases hb];exact Q.ss _ _ hb
 refine q d l k i (T.sub h) D (SR Q.kk Q.pf W) ?_ (Q.ss.none o) h;rintro rfl;rw[Q.ss _ _ T.D.dd]at o;cases o
abbrev nMc:oA Str:=["game","saying","most","kept","top","pairs","waiting"]
def Ux:FnScope nMc oM (Ah UK):=Bi<|by decide +kernel
def ST:(["arrow"]:oA Str).Nodup:=by decide +kernel
def KH:ASp:=λc b R=>∃(g:Gam) (s:Say),c=[.D<|Bt g,.D<|Cj s,.D<|.int 200]/\GmOk g/\SyOk g s/\∀(a:oA Arw) μ',MsOk g s a->Sub b μ'->R (.D<|.tuple<|a.map Br) μ'
def FG{n:Nat}{T:lB}(F:FunD K "machine" "machine" UK f fd T) (cAt:VCal P w K mg base n "arrows_by_top" ["arrows"] RT) (yp:VCal P w K mg base n "least_alone" oN JX) (cNk:VCal P w K mg base n "not_kept" qS KF) (cFg:VCal P w K mg base n "following" qR KD) (cHm:VCal P w K mg base n "how_many" oQ SG) (cKc:VCal P w K mg base n "keep_cheapest" qT SL) (cAw:VCal P w K mg base n "as_arrows" oQ SN) (ag:mg "len" = none) (ai:mg "tuple" = none) (ay:mg "sorted" = none):FnOk P w K mg base Cm (n+1) f fd oM (Dj K 3 KH):=by
 refine F.vok Ux λav A outer s H E X=>⟨_,(Ae (Aq (i:=3) Ux.nd rfl oH Ez)<|Ae (Hh aA rfl (Al cAt X rfl<|Aa (Bq (N':=["arrow"]) (mp:=[none]) rfl (Be<|Au A8 (vv 1) Ag) (λ_ _ _ _=>(Ak (i:=0) ST rfl oH oI)) (λ_ _ _ _=>Bm) (λ_ _ _ _=>(A9 Ce (vv 0)<|Bc<|Aa Ag Ad))<|Ax (N:=nMc) (pn:=(Ah UK).names)<|by decide +kernel) Ad) (Av (Ak (i:=4) Ux.nd rfl oH)<|Av (Ak (i:=5) Ux.nd rfl oH) B2)<|Ai<|C1 (Bu X) (vv 3) (vv 4)<|Al yp X rfl<|Aa (vv 5) Ad)<|Ae (Aq (i:=6) Ux.nd rfl oH<|Al cNk X rfl<|Aa (vv 3)<|Aa (Al cFg X rfl<|Aa (vv 0)<|Aa (vv 3)<|Aa Fe Ad) Ad)<|Ae (Nl aA (VW.pt<|Eb (A7 L1 (Ay IT rfl ag aX<|Aa (vv 6) Ad) Ag<|nomark _)<|D3<|A7 MX (Al cHm X rfl<|Aa (vv 3) Ad) (vv 2)<|nomark _)<|Ae (Ch<|Al cKc X rfl<|Aa (vv 3)<|Aa (vv 6) Ad)<|Ai<|Aq (i:=6) Ux.nd rfl oH<|Al cNk X rfl<|Aa (vv 3)<|Aa (Al cFg X rfl<|Aa (vv 0)<|Aa (vv 3)<|Aa Fe Ad) Ad)<|Ae (B9 (A7 L1 (Al cHm X rfl<|Aa (vv 3) Ad) (vv 2)<|nomark _) (Ai V5) Bh)<|Ai<|Aw<|Bv Dd rfl ai bF<|Aa (Ay (Hz X) rfl ay fS<|Aa (Al cAw X rfl<|Aa (vv 3) Ad) Ad) Ad),?_⟩
 rintro xs L R _ ⟨g,s,rfl,hg,hs,q⟩;have t5:∀a∈s.as,∀t∈a.ts,t<5:=λa ha t ht=>S_ (hs.d.t a ha t ht).2 hs.o;have hs8:=hs.n;have hAl:(s.as.map Hm).length<=8:=by rw[B_];exact hs8
 have j4:∀k,∀z∈grp (s.as.map Hm) k,z.1=0:=λk z hz=>by
  obtain⟨a,ha,_,_,rfl⟩:=Ia.mp hz
  rfl
 have u4:∀k,∀z∈grp (s.as.map Hm) k,z.2<32:=λk z hz=>by obtain⟨a,ha,_,_,rfl⟩:=Ia.mp hz;exact Qw (t5 a ha)<|by decide
 have hB2:∀k,∀z∈grp (s.as.map Hm) k,∀t∈Cd z.2,g.pl.length<=t:=λk z hz t ht=>by obtain⟨a,ha,_,_,rfl⟩:=Ia.mp hz;exact(hs.d.t a ha t<|(Qx (t5 a ha) t).mpr ht).1
 have vw:∀k,grp (s.as.map Hm) k≠[]->k.1<5/\k.2<4:=λk hk=>by obtain⟨z,hz⟩:=fG _ hk;obtain⟨a,ha,e1,e2,_⟩:=Ia.mp hz;rw[<- e1,<- e2];exact⟨S_ (hs.d.p a ha) hs.o,Nat.lt_trans (hs.x a ha)<|by decide⟩
 have hBl:∀k,(grp (s.as.map Hm) k).length<=8:=λk=>by unfold grp;rw[B_];exact G_ (cB _ _) hAl
 intro dk wa;refine Az (λM u=>∃Y o5 G B,M=[oF<|Bt g,oF<|Cj s,oE 200,oD dk,Y,o5,none]/\Kpt u dk G B/\MI g (grp<|s.as.map Hm) s.es G/\Sub L u) (λZ hZ=>?_) ?_;refine Ab (Aj (j:=1) rfl)<|Ab (Gb s.as) λpc a9=>?_;have S0:Sub L (Ao L dk<|.dt []):=Sub.refl.new wa;have e0:Ao L dk (.dt []) dk=some (.dt []):=Ac;generalize Ao L dk (.dt [])=μ0 at a9 S0 e0;refine cmap s.as _ (λa=>R8<|Hm a) (λM=>∃o,M=[o]) ⟨none,rfl⟩ Ac (seven<|by omega) (λ_=>Gb s.as) ?_ ?_;rintro i a τ' acc W ha ⟨o,rfl⟩ hW;have hc:=hs.d.c a<|X_ ha;obtain⟨p,x,ts,c⟩:=a;dsimp only at hc;subst hc;exact⟨by show 3+1<=sizeLine;decide,hW _ ⟨_,rfl⟩⟩;rw[Bk];have mz:dk≠pc:=by rintro rfl;rw[e0]at a9;cases a9
 have S1:Sub L (Ao μ0 pc<|.lst<|s.as.map λa=>R8<|Hm a):=S0.new<|S0.none a9;have e1:Ao μ0 pc (.lst<|s.as.map λa=>R8<|Hm a) dk=some (.dt []):=by rw[Af mz];exact e0
 have p1:Ao μ0 pc (.lst<|s.as.map λa=>R8<|Hm a) pc=oG ((s.as.map Hm).map R8):=by rw[Ac,aF];rfl
 generalize Ao μ0 pc (.lst<|s.as.map λa=>R8<|Hm a)=μ1 at S1 e1 p1;refine⟨.R pc,s.as.map Hm,rfl,Am p1,G_ hAl<|by decide,λa ha t ht=>?_,λd J μ2 T=>?_⟩;obtain⟨b,hb,rfl⟩:=E_.mp ha;exact t5 b hb t ht;refine Ab T.dd ?_;have dkd:dk≠d:=by rintro rfl;have:=T.fd;rw[e1]at this;cases this
 have d0:L d=none:=S1.none T.fd;have S2:Sub L (B5 μ2 d):=λb m hb=>by rw[Bb<|by rintro rfl;rw[d0]at hb;cases hb];exact T.ss _ _<|S1 _ _ hb
 have e2:B5 μ2 d dk=some (.dt<|([]:oA<|(Nat×Nat)×lB).map kvT):=by rw[Bb dkd];exact T.ss _ _ e1
 have l2:∀e∈J,B5 μ2 d e.2=oG ((grp (s.as.map Hm) e.1).map Ba)/\e.2≠dk:=λe he=>by obtain⟨h1,h2⟩:=T.fe e he;exact⟨by rw[Bb h2];exact T.ll e he,λz=>by rw[z,e1]at h1;cases h1⟩
 refine Jn (λi M u=>∃Y o5 G B,M=[oF<|Bt g,oF<|Cj s,oE 200,oD dk,Y,o5,none]/\Kpt u dk G B/\(∀e∈J.take i,CvA (grp (s.as.map Hm) e.1)<|G e.1)/\(∀k,(∀e∈J.take i,e.1≠k)->G k=[])/\(∀e∈J,u e.2=oG ((grp (s.as.map Hm) e.1).map Ba))/\Sub L u) ⟨none,none,λ_=>[],[],rfl,⟨⟨e2,(λ_ h=>nomatch h),aN _,bJ⟩,λ_ _=>rfl,(λ_ h=>nomatch h)⟩,(λ_ h=>nomatch h),λ_ _=>rfl,λe he=>(l2 e he).1,S2⟩ ?_ ?_;rintro i v M μ3 W hv ⟨Y,o5,G,B,rfl,T3,hC,hO,hL,S3⟩ hW;rw[L_]at hv;obtain⟨e,he,rfl⟩:=H_.mp hv;have gn:=X_ he;have bo:J.take (i+1)=J.take i++[e]:=by rw[aG,he];rfl
 have cf:∀U∈J.take i,U.1≠e.1:=λU bf c=>by have h3:((J.take<|i+1).map (·.1)).Nodup:=T.uu.sublist<|(fL _ _).map _;rw[bo,M_,aY]at h3;exact h3.2.2 U.1 (E_.mpr ⟨U,bf,rfl⟩) e.1 (by simp) c
 dsimp only[Fo,Ei,Ps,List.set,kvT,Rj];refine⟨e.2,grp (s.as.map Hm) e.1,rfl,hL e gn,G_ (hBl e.1)<|by decide,u4 e.1,λzs l μ4 C hl e4 V=>?_⟩;have ep:dput (.dt<|B.map kvT) (.tuple [.int (e.1.1:Nat),.int (e.1.2:Nat)]) (.R l)=some (.dt<|(putK B e.1 l).map kvT):=by rw[<- SI];rfl
 have ldk:l≠dk:=by rintro rfl;rw[T3.D.dd]at hl;cases hl
 have w6:=T3.D.n;refine Ab (V _ _ T3.D.dd) (Ab ep ⟨A0<|show(B.map kvT).length<=1000 by rw[B_];omega,hW _ _ ⟨_,_,λk=>if k=e.1 then zs else G k,putK B e.1 l,rfl,?_,λU bf=>?_,λk hk=>?_,λU bf=>?_,F3 (S3.trans V) wa⟩⟩);exact(T3.sub V).put (vw _<|(T.kk e.1).mp ⟨e,gn,rfl⟩) (by rw[T_ rfl];exact e4) ldk λj hj=>O_ hj;rw[bo]at bf;dsimp only;rcases Q_.mp bf with h|h;rw[O_<|cf U h];exact hC U h;rw[I_.mp h,T_ rfl];exact C;rw[bo]at hk;dsimp only;rw[O_ λz=>hk e (by simp) z.symm];exact hO k λU bf=>hk U<|Y_ _ bf;rw[Af (l2 U bf).2];exact V _ _<|hL U bf;rintro M μ3 ⟨Y,o5,G,B,rfl,T3,hC,hO,hL,S3⟩;rw[B_,aB]at hC hO;refine hZ _ _ ⟨_,_,G,B,rfl,T3,MI.start (λk=>?_) j4 u4 hB2,S3⟩;by_cases h:∃e∈J,e.1=k;obtain⟨e,he,rfl⟩:=h;exact hC e he;rw[hO k λe he c=>h ⟨e,he,c⟩,show grp (s.as.map Hm) k=[] from bO λc=>h<|(T.kk k).mpr c];exact⟨(λ_ h=>nomatch h),(λ_ h=>nomatch h),bJ⟩;rintro M μ1 ⟨Y,o5,G,B,rfl,T,I,S1⟩;refine Az (λM u=>∃O Wf Q,M=[oF<|Bt g,oF<|Cj s,oE 200,oD dk,Y,o5,oD O]/\Kpt u dk G B/\DcK u O Wf Q/\Wt g G Wf Q/\O≠dk/\L O=none/\Sub L u) (λZ hZ=>?_) ?_;exact Zi (R:=λv u=>Z [oF<|Bt g,oF<|Cj s,oE 200,oD dk,Y,o5,some v] u) hg T I.tb λO Wf Q μ2 T2 D2 W2 h1 h2 S2=>hZ _ _ ⟨O,Wf,Q,rfl,T2,D2,W2,h1,S1.none h2,S1.trans S2⟩;clear T S1;rintro M μ2 ⟨O,Wf,Q,rfl,T2,D2,W2,jy,w0,S2⟩;have js:∀{L G B},Kpt L dk G B->MI g (grp<|s.as.map Hm) s.es G->(B.map λe=>(G e.1).length).sum<=200:=λ{L G B} T I=>by have:=DP I.tb I.l T.D.uu;rw[aF]at this;exact G_ this<|by omega
 refine Az (λM u=>∃o6 G B,M=[oF<|Bt g,oF<|Cj s,oE 200,oD dk,Y,o5,o6]/\Kpt u dk G B/\MI g (grp<|s.as.map Hm) s.es G/\(∀k,rgp g.rs k≠[]->Under (Gj g G k) (G k))/\Sub L u) (λZ hZ=>?_) ?_
 ·refine Rg (λm M u=>∃O Wf Q G B,M=[oF<|Bt g,oF<|Cj s,oE 200,oD dk,Y,o5,oD O]/\Kpt u dk G B/\DcK u O Wf Q/\Wt g G Wf Q/\MI g (grp<|s.as.map Hm) s.es G/\O≠dk/\L O=none/\cnt G+m=192/\Sub L u) (192-cnt G) ⟨O,Wf,Q,G,B,rfl,T2,D2,W2,I,jy,w0,Nat.add_sub_cancel'<|Zg I.tb,S2⟩ ?_;clear T2 D2 W2 I jy w0 S2;rintro m M μ3 W ⟨O,Wf,Q,G,B,rfl,T,D,Wk,I,hd,w0,hm,S⟩ hW;refine Ab D.dd<|dif (λc=>?_) λc=>?_;have yw:Q≠[]:=by
   rintro rfl;exact absurd c<|by decide
  refine⟨dk,G,B,rfl,T.D,λe he=>(I.tb e.1).1,λμ4 V=>dif (λc2=>?_) λc2=>absurd (Int.ofNat_le.mpr<|js T I) c2⟩;have hP:=λe he=>hg.pt<|Wk.k e he;refine⟨dk,O,G,Wf,B,Q,rfl,T.sub V,⟨V _ _ D.dd,λe he=>⟨V _ _ (D.ll e he).1,(D.ll e he).2⟩,D.n,D.uu⟩,yw,λe he=>(Wk.w e he).1,λe he=>?_,I.tb,λe he=>?_,hd.symm,λc N qg μ5 de C T5 S5=>?_⟩;have h1:=(hP e he).2;simp only[T6,List.mem_cons,List.not_mem_nil,or_false]at h1;rcases h1 with h|h|h|h|h|h<;>rw[h]<;>decide;obtain⟨_,h2,h3⟩:=Wk.w e he;exact⟨Qv h3 λz hz=>(h2 z hz).2.1,λz hz=>(h2 z hz).2.1⟩;have xw:=I.more hg<|DO hg Wk C;have hc5:=Zf hg Wk C de;have jw:=Zg xw.tb;have S05:Sub L μ5:=λb m hb=>S5 _ _<|by
   rw[Bb (by rintro rfl;rw[wa]at hb;cases hb),Bb<|by rintro rfl;rw[w0]at hb;cases hb];exact V _ _<|S _ _ hb
  exact Zi (R:=λv u=>W [oF<|Bt g,oF<|Cj s,oE 200,oD dk,Y,o5,some v] u) hg T5 xw.tb λdw2 Wf2 kw2 μ6 T6 D6 W6 h1 h2 S6=>hW (192-cnt λk=>G k++N k) _ _ (by omega) ⟨dw2,Wf2,kw2,_,qg,rfl,T6,D6,W6,xw,h1,S05.none h2,Nat.add_sub_cancel' jw,S05.trans S6⟩
  ·have yw:Q=[]:=by
    cases Q with
    |nil=>rfl
    |cons e l=>exact absurd (show(0:Int)<(((e::l).map kvT).length:Nat) from by rw[B_,bE];omega) c
   exact J5 rfl<|hZ _ _ ⟨_,G,B,rfl,T,I,Wk.c yw,S⟩
 rintro M μ3 ⟨o6,G,B,rfl,T,I,hU,S⟩;refine Cg ⟨dk,G,B,rfl,T.D,λe he=>(I.tb e.1).1,λμ4 V=>dif (λc=>absurd (kW.mp c)<|jE<|js T I) λc=>?_⟩;have T4:=T.sub V;have hmn:=js T I;refine⟨dk,G,B,rfl,⟨T4.D.dd,λe he=>⟨(T4.D.ll e he).1,(T4.D.ll e he).2,G_ (I.tb e.1).1<|by decide,I.b e.1⟩,T4.D.n⟩,λl μ5 hl e5 S5=>?_⟩;have ak:(Db G B).length<=200:=by unfold Db;rw[List.length_flatMap];simp only[List.length_map];exact hmn
 have hda:dats ((Db G B).map R8)=some (((Db G B).map SS).map Br):=by rw[show(Db G B).map R8=(((Db G B).map SS).map Br).map .D by rw[aF,aF];rfl];exact Bx _
 refine Ab e5<|Ab hda ⟨?_,λes p hp gt=>?_⟩;exact Li (k:=true) (by rw[B_];omega) λa ha=>by
  obtain⟨a',_,rfl⟩:=E_.mp ha
  rfl
 obtain⟨Ms,rfl,iy⟩:=Dp hp ((Db G B).map SS) rfl;have c9:=iy.length_eq;rw[B_]at c9;have hmm:∀a,a∈Ms↔∃b∈Db G B,SS b=a:=λa=>by rw[iy.mem_iff,E_]
 have S6:Sub L μ5:=λb m hb=>S5 _ _<|by
  rw[Bb<|by rintro rfl;rw[wa]at hb;cases hb];exact V _ _<|S _ _ hb
 have gl:∀a∈Ms,∃k,∃z∈G k,a=⟨k.1,k.2,Cd z.2,some z.1⟩:=λa ha=>by obtain⟨b,hb,rfl⟩:=(hmm a).mp ha;obtain⟨e,he,z,hz,rfl⟩:=My.mp hb;exact⟨e.1,z,hz,rfl⟩
 have eS:(λp w=>E4 (grp<|s.as.map Hm) s.es w p)=Jx s:=funext λp=>funext λw=>propext (DQ t5 w p).symm;have hU2:∀k,Under (grp (s.as.map Hm) k) (G k):=λk y hy=>by obtain⟨z,hz,_,r⟩:=I.z k y hy;exact⟨z,hz,r⟩
 have ww:=I.s;rw[eS]at ww;refine Ab (Am Ac) (Ab (Bx _) ⟨_,Sub.refl,q Ms _ ⟨by omega,λa ha=>?_,λp w hp=>?_,λa ha=>?_⟩<|S6.new<|S6.none gt⟩);obtain⟨k,z,hz,rfl⟩:=gl a ha;exact G_ (cB _ _) (by rw[eO];decide);rw[Zh T.o hmm w p];refine⟨λh=>?_,λ⟨n,h⟩=>?_⟩;obtain⟨c,hc⟩:=O3 h;exact⟨c,(O2 ww (λt ht=>(fN t g.pl.length).elim (λh=>.inl ⟨h,Jw.mpr ht⟩) λh=>.inr ⟨h,Jw.mpr ht⟩) hc).elim (λz=>z.2) λz=>absurd hp<|jE z.1⟩;rw[<- eS]at h;exact DH hg.rs hU2 hU<|h.pre hg.rs hp;obtain⟨k,z,hz,rfl⟩:=gl a ha;exact⟨z.1,rfl,I.f k z hz,λv m hv=>ww k z hz v m hv⟩
def Dt(r:Arw×lA):lA:=.tuple [.int r.1.p,.int r.1.x,A3 r.1.ts,.int (r.1.c.getD 0:Nat),r.2]
def Zj(r:Arw×lA):AV:=.D<|Dt r
def Jy(L:oA<|Arw×lA):dats (L.map Zj)=some (L.map Dt):=by rw[show L.map Zj=(L.map Dt).map .D by rw[aF];rfl];exact Bx _
def Qz{L:oA<|Arw×lA}{i:Nat}{x:AV}(h:(Ej 0<|L.map Dt)[i]?=some x):∃r,L[i]?=some r/\x=.D (.tuple [.int i,Dt r]):=by obtain⟨d,a,rfl⟩:=F8 h;rw[L_]at a;obtain⟨p,hp,rfl⟩:=H_.mp a;exact⟨p,hp,by rw[iU]⟩
def Si(a b:Int):Cp (.tuple [.int a,.int b]):=⟨rfl,by simp[PyData.depth,PyData.depthAll]⟩
def Sj(ts:oA Nat):Cp (A3 ts):=⟨by have:=Fc (ns:=ts);simp only[A3,PyData.canLay0,this.1],by have:=(Fc (ns:=ts)).2;simp only[A3,PyData.depth];omega⟩
structure Ahd(μ:M)(ah:lB)(L:oA<|Arw×lA):Prop where
 e:μ ah=oG (L.map Zj)
 n:L.length<=200
 t:∀r∈L,r.1.ts.length<=5
def Ahd.sub{b c:M}{a:lB}{L:oA<|Arw×lA}(h:Ahd b a L)(S:Sub b c):Ahd c a L:=⟨S _ _ h.e,h.n,h.t⟩
abbrev nRx:oA Str:=["ahead","stand","letter","targets","most_cost","number","row"]
def KI:FnScope nRx qU (Ah UP):=Bi<|by decide +kernel
def SU:(["target","targets"]:oA Str).Nodup:=by decide +kernel
def SV:ASp:=λc b R=>∃(a:lB) (L:oA<|Arw×lA) (s x:Nat) (ts:oA Nat) (m:Int),c=[.R a,.D<|.int s,.D<|.int x,.D<|A3 ts,.D<|.int m]/\Ahd b a L/\∀(o:oB Nat) μ',Sub b μ'->R (RD o) μ'
def SW{n:Nat}(F:Fun K "row_within" "row_within" UP f fd) (B:mg "enumerate" = none) (U:mg "all" = none):FnOk P w K mg base Cm (n+1) f fd qU (Dj K 5 SV):=by
 refine F.vok KI λY A h s H E v=>⟨_,(Ae (B3 aA rfl (Io rfl B<|vv 0) (Di (n:=2) rfl<|Av (Ak (i:=5) KI.nd rfl oH)<|Av (Ak (i:=6) KI.nd rfl oH) B2)<|Ai<|B9 (VW.pt<|Eb (A7 (D9 v) (Cf (vv 6) Dc<|Cs Ag) (Bc<|Aa (vv 1)<|Aa (vv 2) Ad)<|nomark _)<|Eb (A7 MX (Au A8 (vv 6) Ag) (vv 4)<|nomark _)<|D3<|E9<|Ay (Re rfl) rfl U gK<|Aa (Bq (N':=["target","targets"]) (mp:=[none,some 3]) rfl (Be<|Au A8 (vv 6) Ag) (λ_ _ _ _=>(Ak (i:=0) SU rfl oH oI)) (λ_ _ _ _=>Bm) (λ_ _ _ _=>(E8 (HH v) (vv 0) (vv 1)<|by with_unfolding_all rfl))<|Ax (N:=nRx) (pn:=(Ah UP).names)<|by decide +kernel) Ad) (Ai<|Aw<|vv 5) Bh)<|Ai<|Aw Cu),?_⟩
 rintro V u R _ ⟨G,L,s,x,ts,m,rfl,k,q⟩;refine Az (λb a=>Sub u a) (λZ Q=>?_) λb d C=>⟨_,Sub.refl,q none _ C⟩;refine Ab (Am k.e)<|Ab (Jy L) ?_;refine Ci (λi b a=>∃p z,b=[oD G,oE s,oE x,oF<|A3 ts,oE m,p,z]/\Sub u a) ⟨none,none,rfl,Sub.refl⟩ (by rintro _ _ _ ⟨_,_,_,S⟩;exact Am<|S _ _ k.e) ?_ (by rintro b d ⟨_,_,_,S⟩;exact Q _ _ S);rintro i y b d Z2 hy ⟨p,z,rfl,S⟩ hZ2;obtain⟨r,J,rfl⟩:=Qz hy;have X:=k.t r<|X_ J;refine⟨rfl,Si _ _,Si _ _,br (λc=>?_) λc=>J5 rfl<|hZ2 _ _ ⟨_,_,rfl,S⟩⟩;refine Ab (Aj (j:=3) rfl)<|dif (λM=>?_) λM=>J5 rfl<|hZ2 _ _ ⟨_,_,rfl,S⟩;refine Ab (Aj (j:=2) rfl)<|Ab (Bj r.1.ts) λpl g=>?_;refine cmap r.1.ts _ (λt=>.D<|.bool<|(ts.map λ(n:Nat)=>PyData.int n).any λe=>PyData.eqv e<|.int t) (λb=>∃o,b=[o,oF<|A3 ts]) ⟨none,rfl⟩ Ac (seven<|by omega) (λ_=>Bj r.1.ts) ?_ ?_;rintro j t O T W hj ⟨o,rfl⟩ hW;exact Ab rfl ⟨Bz _,Sj ts,hW _ ⟨_,rfl⟩⟩;rw[Bk];dsimp only[Po];have l:=S.new (S.none g) (m:=.lst<|r.1.ts.map λ(t:Nat)=>.D<|.bool<|(ts.map λ(n:Nat)=>PyData.int n).any λe=>PyData.eqv e<|.int t);refine We Ac<|br (λI=>?_) λI=>?_;exact⟨_,Sub.refl,q (some i) _ l⟩;exact hZ2 _ _ ⟨_,_,rfl,l⟩
def Zk:oB Nat->lA
 |none=>.none
 |some n=>.int (n:Nat)
def ZO(o:oB Nat):RD o=.D (Zk o):=by cases o<;>rfl
theorem Q0:∀os:oA<|oB Nat,PyData.canLayAll0 (os.map Zk)=true/\PyData.depthAll (os.map Zk)<=1
 |[]=>⟨rfl,by simp[PyData.depthAll]⟩
 |o::os=>by obtain⟨h1,h2⟩:=Q0 os;cases o<;>simp only[List.map_cons,Zk,PyData.canLayAll0,PyData.canLay0,PyData.depthAll,PyData.depth,h1,Bool.and_self,true_and]<;>omega
def Zl(os:oA<|oB Nat):Cp (.tuple<|os.map Zk):=⟨by simp only[PyData.canLay0];exact(Q0 os).1,by have:=(Q0 os).2;simp only[PyData.depth];omega⟩
def O4(p x:Nat)(ts:oA Nat)(c:Nat):lA:=.tuple [.int p,.int x,A3 ts,.int c]
abbrev nTw:oA Str:=["game","ahead","rule","arrow","place","w","first","row","left","rest"]
def O5:FnScope nTw qV (Ah UO):=Bi<|by decide +kernel
def SX:(yJ:oA Str).Nodup:=by decide +kernel
def SY:ASp:=λe b R=>∃(g:Gam) (a:lB) (L:oA<|Arw×lA) (i:Nat) (r:Rul) (p x:Nat) (ts:oA Nat) (c:Nat),e=[.D<|Bt g,.R a,.D<|.int i,.D<|O4 p x ts c]/\g.rs[i]?=some r/\r.w.length<=2/\Ahd b a L/\∀(d:lA) μ',Sub b μ'->R (.D d) μ'
def SZ{n:Nat}(F:Fun K "triple_within" "triple_within" UO f fd) (G:VCal P w K mg base n "row_within" qU SV) (ag:mg "len" = none) (aq:mg "enumerate" = none) (ai:mg "tuple" = none):FnOk P w K mg base Cm (n+1) f fd qV (Dj K 4 SY):=by
 refine F.vok O5 λav A W s H E m=>⟨_,(Ae (Aq (i:=4) O5.nd rfl oH<|Au A8 (Au A8 (Au A8 (vv 0) Ag)<|vv 2) Ag)<|Ae (Aq (i:=5) O5.nd rfl oI<|Au A8 (Au A8 (Au A8 (vv 0) Ag)<|vv 2) Ag)<|Ae (B9 (A7 (D9 m) (Ay Cy rfl ag aX<|Aa (vv 5) Ad) Ag<|nomark _) (Ai<|Aw<|Fn (A7 (HH m) (vv 4) (Au A8 (vv 3) Ag)<|by with_unfolding_all rfl) (Bc<|Aa (vv 2)<|Aa Cu<|Aa (Bc Ad) Ad) Cu) Bh)<|Ae (B9 (A7 (D9 m) (Ay Cy rfl ag aX<|Aa (vv 5) Ad) Ag<|nomark _) (Ae (Aq (i:=6) O5.nd rfl oH<|Al G m rfl<|Aa (vv 1)<|Aa (vv 4)<|Aa (Au A8 (vv 5) Ag)<|Aa (Au A8 (vv 3) Ag)<|Aa (A9 K0 (Au A8 (vv 3) Ag) Ag) Ad)<|Ai<|Aw<|Fn (A7 Nk (vv 6) Cu<|nomark _) Cu<|Bc<|Aa (vv 2)<|Aa (vv 6)<|Aa (Bc Ad) Ad) Bh)<|Ae (B3 aA rfl (Io rfl aq<|vv 1) (Di (n:=2) rfl<|Av (Ak (i:=6) O5.nd rfl oH)<|Av (Ak (i:=7) O5.nd rfl oH) B2)<|Ai<|B9 (A7 (D9 m) (Cf (vv 7) Dc<|Cs Ag) (Bc<|Aa (vv 4)<|Aa (Au A8 (vv 5) Ag) Ad)<|nomark _) (Ae (Aq (i:=8) O5.nd rfl oI<|A9 K0 (A9 K0 (Au A8 (vv 3) Ag) Ag)<|Au A8 (vv 7) Ag)<|Ae (D7 (i:=9) (N':=yJ) (mp:=[none,some 1,some 8,some 5,some 3]) rfl O5.nd rfl rfl (Be<|Au A8 (vv 7) Ag) (λ_ _ _ _=>(Ak (i:=0) SX rfl oH oI)) (λ_ _ _ _=>Bm) (λ_ _ _ _=>(Al G m rfl<|Aa (vv 1)<|Aa (vv 0)<|Aa (Au A8 (vv 3) Ag)<|Aa (Au A8 (vv 4) Ag)<|Aa (vv 2) Ad))<|Ax (N:=nTw) (pn:=(Ah UO).names)<|by decide +kernel)<|Ai<|B9 (VW.pt<|Eb (A7 HK (vv 8) Ag<|nomark _)<|D3<|A7 (L0 m) Cu (vv 9)<|by with_unfolding_all rfl) (Ai<|Aw<|Bc<|Aa (vv 2)<|Aa (vv 6)<|Aa (Bv Dd rfl ai bF<|Aa (vv 9) Ad) Ad) Bh) Bh)<|Ai<|Aw Cu),?_⟩
 rintro xs V R _ ⟨g,u,L,i,⟨rp,rx,C,rw⟩,p,x,ts,c,rfl,hi,hw,O,q⟩;have M:(g.rs.map C9)[i]?=some (C9 ⟨rp,rx,C,rw⟩):=by rw[L_,hi];rfl
 refine Ab (Aj (j:=2) rfl)<|Ab (Aj M)<|Ab (Aj (j:=2) rfl) ?_;refine Ab (Aj (j:=2) rfl) (Ab (Aj M)<|Ab (Aj (j:=3) rfl) ?_)
 match rw,hw with
 |[],_=>exact ieq (λ_=>Ab (Aj (j:=2) rfl)<|Ab rfl ⟨Bz _,Sj ts,br (λX=>⟨_,Sub.refl,q _ _ Sub.refl⟩) λX=>⟨_,Sub.refl,q _ _ Sub.refl⟩⟩) (λI=>absurd rfl I)
 |[y],_=>
  refine ieq (λI=>absurd I<|show ¬((1:Nat):Int)=0 by decide) λ_=>ieq (λ_=>?_) λY=>absurd rfl Y;refine Ab (Aj (j:=0) rfl)<|Ab (Aj (j:=2) rfl)<|Ab (Aj (j:=3) rfl) ⟨u,L,C,y,ts,(c:Int)-1,rfl,O,λo d U=>?_⟩;cases o with
  |none=>exact J4 rfl ⟨_,Sub.refl,q _ _ U⟩
  |some k=>exact J5 rfl ⟨_,Sub.refl,q _ _ U⟩
 |[y,z],_=>
  refine ieq (λI=>absurd I<|show ¬((2:Nat):Int)=0 by decide) (λ_=>ieq (λY=>absurd Y<|show ¬((2:Nat):Int)=1 by decide) λ_=>?_);refine Az (λb a=>Sub V a) (λZ hZ=>?_) λb d U=>⟨_,Sub.refl,q .none _ U⟩;refine Ab (Am O.e)<|Ab (Jy L) ?_;refine Ci (λj b a=>∃o6 o7 o8 o9,b=[oF<|Bt g,oD u,oE i,oF<|O4 p x ts c,oE (C:Nat),oF<|A3 [y,z],o6,o7,o8,o9]/\Sub V a) ⟨none,none,none,none,rfl,Sub.refl⟩ (by rintro _ _ _ ⟨_,_,_,_,_,S⟩;exact Am<|S _ _ O.e) ?_ (by rintro b d ⟨_,_,_,_,_,S⟩;exact hZ _ _ S);rintro j y' b d Z2 hy ⟨o6,o7,o8,o9,rfl,S⟩ hZ2;obtain⟨r,io,rfl⟩:=Qz hy;have k5:=O.t r<|X_ io;refine⟨rfl,Ab (Aj (j:=0) rfl) ⟨Si _ _,Si _ _,br (λX=>?_) λX=>hZ2 _ _ ⟨_,_,_,_,rfl,S⟩⟩⟩;refine Az (λb a=>b=[oF<|Bt g,oD u,oE i,oF<|O4 p x ts c,oE (C:Nat),oF<|A3 [y,z],oE j,oF<|Dt r,oE<|(c:Int)-1-(r.1.c.getD 0:Nat),o9]/\d=a) (λZ3 b9=>Ab (Aj (j:=3) rfl)<|Ab (Aj (j:=3) rfl)<|b9 _ _ ⟨rfl,rfl⟩) ?_;rintro b _ ⟨rfl,rfl⟩;refine Az (λb a=>∃(B:lB) (os:oA<|oB Nat),b=[oF<|Bt g,oD u,oE i,oF<|O4 p x ts c,oE (C:Nat),oF<|A3 [y,z],oE j,oF<|Dt r,oE<|(c:Int)-1-(r.1.c.getD 0:Nat),oD B]/\a B=oG (os.map λo=>.D<|Zk o)/\Sub V a) (λZ3 b9=>?_) ?_;refine Ab (Aj (j:=2) rfl)<|Ab (Bj r.1.ts) λB a9=>?_;refine Dn (λk h b a=>∃(o:oB AV) (os:oA<|oB Nat),b=[o,oD u,oE<|(c:Int)-1-(r.1.c.getD 0:Nat),oF<|A3 [y,z],oF<|O4 p x ts c]/\h=(os.map λo=>.D<|Zk o)/\os.length=k/\a B=oG h/\Sub V a) ⟨none,[],rfl,rfl,rfl,Ac,S.new<|S.none a9⟩ (λ_ _ _ _ _=>Bj r.1.ts) ?_ ?_;rintro k y2 h b T Z4 Q ⟨o,os,rfl,rfl,J,v,l⟩ hZ4;rw[L_]at Q;obtain⟨t,ht,rfl⟩:=H_.mp Q;have hk:k<r.1.ts.length:=(D_.mp ht).1;refine J4 rfl<|Ab (Aj (j:=1) rfl)<|Ab (Aj (j:=2) rfl) ⟨u,L,t,z,ts,_,rfl,O.sub l,λo μ3 S3=>?_⟩;rw[ZO];refine⟨S3 _ _ v,A0<|by rw[B_];omega,hZ4 _ _ _ ⟨_,os++[o],rfl,by rw[M_];rfl,by rw[P_,J];rfl,Ac,(l.trans S3).new<|S.none a9⟩⟩;rintro h b T ⟨o,os,rfl,rfl,J,v,l⟩;exact b9 _ _ ⟨B,os,rfl,v,l⟩;rintro b T ⟨B,os,rfl,v,l⟩;have ed:dats (os.map λo=>AV.D<|Zk o)=some (os.map Zk):=by rw[show(os.map λo=>AV.D<|Zk o)=(os.map Zk).map .D by rw[aF];rfl];exact Bx _
  refine dif (λc3=>?_) λc3=>J5 rfl<|hZ2 _ _ ⟨_,_,_,_,rfl,l⟩;refine Ab rfl (Ab (Am v)<|Ab ed ⟨⟨rfl,by decide⟩,Zl os,br (λc4=>?_) λc4=>hZ2 _ _ ⟨_,_,_,_,rfl,l⟩⟩);exact Ab (Am v)<|Ab ed ⟨_,Sub.refl,q _ _ l⟩
structure GpOk(g:Gam):Prop where
 n:g.rs.length<=20
 w:∀r∈g.rs,r.w.length<=2
abbrev ZP:oA Str:=["game","ahead","arrow","triples"]
def TB:FnScope ZP qW (Ah PF):=Bi<|by decide +kernel
def TC:(yK:oA Str).Nodup:=by decide +kernel
def TD:(["triple"]:oA Str).Nodup:=by decide +kernel
def TF:ASp:=λe b R=>∃(g:Gam) (a:lB) (L:oA<|Arw×lA) (p x:Nat) (ts:oA Nat) (c:Nat),e=[.D<|Bt g,.R a,.D<|O4 p x ts c]/\GpOk g/\(c=0\/p<g.pl.length)/\Ahd b a L/\∀(d:lA) μ',Sub b μ'->R (.D d) μ'
def TH{n:Nat}(F:Fun K "why_of" "why_of" PF f fd) (yr:VCal P w K mg base n "rules_at" oW JM) (cTw:VCal P w K mg base n "triple_within" qV SY) {t1:Tok} (ir:mg "OTHER_HAND" = some (.int 1 t1)) (ai:mg "tuple" = none):FnOk P w K mg base Cm (n+1) f fd qW (Dj K 3 TF):=by
 refine F.vok TB λav A X s H E S=>⟨_,(Ae (B9 (A7 (D9 S) (Au A8 (vv 2) Ag) Ag<|nomark _) (Ai<|Aw<|Bc Ad) Bh)<|Ae (D7 (i:=3) (N':=yK) (mp:=[none,some 0,some 1,some 2]) rfl TB.nd rfl rfl (Be<|Al yr S rfl<|Aa (vv 0)<|Aa (Au A8 (vv 2) Ag)<|Aa (Au A8 (vv 2) Ag) Ad) (λ_ _ _ _=>(Ak (i:=0) TC rfl oH oI)) (λ_ _ _ _=>Bm) (λ_ _ _ _=>(Al cTw S rfl<|Aa (vv 1)<|Aa (vv 2)<|Aa (vv 0)<|Aa (vv 3) Ad))<|Ax (N:=ZP) (pn:=(Ah PF).names)<|by decide +kernel)<|Ae (B9 (A7 (D9 S) (Au A8 (Au A8 (Au A8 (vv 0) Ag)<|Au A8 (vv 2) Ag) Ag) (Ik rfl ir (v:=.int 1) ⟨_,rfl⟩ λ_=>Co)<|nomark _) (Ai<|Aw<|Bv Dd rfl ai bF<|Aa (vv 3) Ad) Bh)<|Ai<|Aw<|Bv Dd rfl ai bF<|Aa (Cf (Bq (N':=["triple"]) (mp:=[none]) rfl (Be<|vv 3) (λ_ _ _ _=>(Ak (i:=0) TD rfl oH oI)) (λ_ _ _ _=>(Dm<|A7 V2 (vv 0) Cu<|nomark _)) (λ_ _ _ _=>(vv 0))<|Ax (N:=ZP) (pn:=(Ah PF).names)<|by decide +kernel) Dc<|Cs Ag) Ad),?_⟩
 rintro xs μ R _ ⟨g,W,L,p,x,ts,c,rfl,hg,hc,hL,q⟩;refine Ab (Aj (j:=3) rfl)<|ieq (λc0=>⟨_,Sub.refl,q _ _ Sub.refl⟩) λc0=>?_;have hp:p<g.pl.length:=hc.resolve_left (by omega);have wt:(g.pl.map Ym)[p]?=some (Ym g.pl[p]):=by rw[L_,J_ hp];rfl
 have hn:=hg.n;have v6:(JL g.rs p x).length<=g.rs.length:=Oq g.rs p [x];refine Az (λt a=>∃(I:lB) (ds:oA lA),t=[oF<|Bt g,oD W,oF<|O4 p x ts c,oD I]/\a I=oG (ds.map .D)/\ds.length<=20/\Sub μ a) (λZ hZ=>?_) ?_;refine Ab (Aj (j:=0) rfl)<|Ab (Aj (j:=1) rfl) ⟨g,p,x,rfl,hg.n,λl μ1 hl B C=>Ab (Am B) λpc T=>?_⟩;have J:l≠pc:=by rintro rfl;rw[B]at T;cases T
 refine Dn (λk h t a=>∃(o:oB AV) (ds:oA lA),t=[o,oF<|Bt g,oD W,oF<|O4 p x ts c]/\h=ds.map .D/\ds.length=k/\a pc=oG h/\a l=oG ((JL g.rs p x).map λz=>B0 z.2)/\Sub μ a) ⟨none,[],rfl,rfl,rfl,Ac,by rw[Af J];exact B,C.new<|C.none T⟩ (by rintro _ _ _ _ ⟨_,_,_,_,_,_,e,_⟩;exact Am e) ?_ ?_;rintro k y h t m Y hy ⟨o,ds,rfl,rfl,u,G,l2,r⟩ hZ2;rw[L_]at hy;obtain⟨z,hz,rfl⟩:=H_.mp hy;have hk:k<(JL g.rs p x).length:=(D_.mp hz).1;obtain⟨hi,hm⟩:=Op (w:=[x])<|X_ hz;refine J4 rfl ⟨g,W,L,z.2,z.1,p,x,ts,c,rfl,hi,hg.w _ hm,hL.sub r,λd μ3 U=>?_⟩;exact⟨U _ _ G,A0<|by rw[B_];omega,hZ2 _ _ _ ⟨_,ds++[d],rfl,by rw[M_];rfl,by rw[P_,u];rfl,Ac,by rw[Af J];exact U _ _ l2,(r.trans U).new<|C.none T⟩⟩;rintro h t m ⟨o,ds,rfl,rfl,u,G,l2,r⟩;rw[B_]at u;exact hZ _ _ ⟨pc,ds,rfl,G,by omega,r⟩;rintro t μ1 ⟨I,ds,rfl,B,u,C⟩;refine Ab (Aj (j:=0) rfl)<|Ab (Aj (j:=0) rfl)<|Ab (Aj wt)<|Ab (Aj (j:=1) rfl)<|ieq (λc1=>?_) λc1=>?_;exact Ab (Am B)<|Ab (Bx _) ⟨_,Sub.refl,q _ _ C⟩;refine Ab (Am B) λO Q=>?_;have M:I≠O:=by rintro rfl;rw[B]at Q;cases Q
 refine Dn (λk h t a=>∃(o:oB AV) (es:oA lA),t=[o]/\h=es.map .D/\es.length<=k/\a O=oG h/\a I=oG (ds.map .D)/\Sub μ a) ⟨none,[],rfl,rfl,F_ _,Ac,by rw[Af M];exact B,C.new<|C.none Q⟩ (by rintro _ _ _ _ ⟨_,_,_,_,_,_,e,_⟩;exact Am e) ?_ ?_;rintro k y h t m Y hy ⟨o,es,rfl,rfl,vj,G,V,r⟩ hZ2;rw[L_]at hy;obtain⟨d,hd,rfl⟩:=H_.mp hy;have hk:k<ds.length:=(D_.mp hd).1
 suffices hb:∀b:Bool,brP b (m O=oG (es.map .D)/\(es.map AV.D).length<sizeLine/\Y (es.map .D++[.D d]) [oF d] (Ao m O<|.lst<|es.map .D++[.D d])) (Y (es.map .D) [oF d] m) by cases d<;>exact hb _
 intro b;refine br (λ_=>?_) (λ_=>hZ2 _ _ _ ⟨_,es,rfl,rfl,by omega,G,V,r⟩);exact⟨G,A0<|by rw[B_];omega,hZ2 _ _ _ ⟨_,es++[d],rfl,by rw[M_];rfl,by rw[P_];show es.length+1<=_;omega,Ac,by rw[Af M];exact V,r.new<|C.none Q⟩⟩;rintro h t m ⟨o,es,rfl,rfl,vj,G,V,r⟩;refine Ab (Am G) λp2 iy=>?_;rw[show Kd (es.map .D) none (some 1)=(es.take 1).map .D from Lh .D es 1];exact Ab (Am Ac)<|Ab (Bx _) ⟨_,Sub.refl,q _ _<|r.new<|r.none iy⟩
theorem Zm{A B:oA Arw}{b:oA Nat}(h:∀a,a∈A↔a∈B):∀(w:oA Nat) (s:Nat),rd A b w s=true↔rd B b w s=true
 |[],_=>kC
 |x::w,s=>by rw[Mw,Mw];exact exists_congr λa=>and_congr (h a)<|and_congr kC<|and_congr kC<|forall_congr' λt=>imp_congr kC<|Zm h w t
def MsOk.perm{g:Gam}{s:Say}{A B:oA Arw}(h:MsOk g s A)(p:B.Perm A):MsOk g s B :=
 ⟨by rw[p.length_eq];exact h.n,λa ha=>h.l a<|p.mem_iff.mp ha,λq w hq=>(Zm (λa=>p.mem_iff) w q).trans<|h.r q w hq,λa ha=>h.c a<|p.mem_iff.mp ha⟩
def kyO:lA->lA
 |.tuple [a,b,c,e]=>.tuple [e,.tuple [a,b,c,e]]
 |d=>d
def KJ(a:Arw):lA:=.tuple [.int (a.c.getD 0:Nat),Br a]
def TJ{a:Arw}{c:Nat}(h:a.c=some c):kyO (Br a)=KJ a:=by
 obtain⟨p,x,ts,b⟩:=a;cases h
 rfl
theorem Zn:∀B:oA Arw,PyData.canLayAll0 (B.map KJ)=true/\PyData.depthAll (B.map KJ)<=4
 |[]=>⟨rfl,by simp[PyData.depthAll]⟩
 |a::B=>by obtain⟨h1,h2⟩:=Zn B;obtain⟨b,c,_⟩:=Jt a;simp only[List.map_cons,KJ,PyData.canLayAll0,PyData.canLay0,PyData.depthAll,PyData.depth,h1,b,Bool.and_self,true_and];omega
def Zo{B:oA Arw}(i:B.length<=400)(hc:∀a∈B,a.c.isSome=true):SortOkP (B.map KJ):=by obtain⟨h,j⟩:=Zn B;refine⟨by rw[B_];omega,h,by omega,λd g=>?_,λd g e he=>?_⟩;obtain⟨a,ha,rfl⟩:=E_.mp g;exact⟨(a.c.getD 0:Nat),_,rfl⟩;obtain⟨a,ha,rfl⟩:=E_.mp g;obtain⟨b,hb,rfl⟩:=E_.mp he;have:=Rz<|(hc a ha).trans (hc b hb).symm;simp only[KJ,cmpb,cmpbs,this,ite_self]
def TK(st:lJ):lM:=match B1 st with
 |.Assign _ (.Call _ _ (⟨_,.Lambda _ _ sc _,_⟩::_) _) _::_=>sc
 |_=>Ah st
def TL:FnScope ["arrow"] ["arrow"] (TK UN):=Bi<|by decide +kernel
abbrev nPf:oA Str:=["game","saying","most","arrows","paper","arrow"]
def DR:FnScope nPf oM (Ah UN):=Bi<|by decide +kernel
def KK(T:lB):ASp:=λb a R=>∃(g:Gam) (s:Say),b=[.D<|Bt g,.D<|Cj s,.D<|.int 200]/\GmOk g/\SyOk g s/\a T=some (.tb #[])/\∀(L:oA<|Arw×lA) μ',MsOk g s (L.map (·.1))->C7 T a μ'->R (.D<|.tuple<|L.map Dt) μ'
def TM{n:Nat}{T c D:lB}(F:FunD K "paper_for" "paper_for" UN f fd D) (cy:fd.code=.ref c) (hC:PySem.W.CodeHd base c T) (hB:base.BuiltinsAt mg T) (xn:VCal P w K mg base (n+1+1+1) "machine" oM KH) (X:VCal P w K mg base (n+1+1+1) "why_of" qW TF) (ay:mg "sorted" = none) (ai:mg "tuple" = none):FnOk P w K mg base Cm (n+1+1+1+1) f fd oM (Dj K 3<|KK T):=by
 refine F.vokC cy DR λA outer s H E G=>⟨_,(Ae (Aq (i:=3) DR.nd rfl oH<|X5 (x := "arrow") G rfl ay (Al xn G rfl<|Aa (vv 0)<|Aa (vv 1)<|Aa (vv 2) Ad) rfl hC hB TL (λ_ _ _ _ _ _=>(Bc<|Aa (Au A8 (vv 0) Ag)<|Aa (vv 0) Ad)) rfl rfl λ_ _ _ _=>rfl)<|Ae (Aq (i:=4) DR.nd rfl oH<|Cb Ad)<|Ae (B3 aA rfl (Be<|vv 3) (Ak (i:=5) DR.nd rfl oH)<|Ai<|Ch<|Ff bV bW Dl (vv 4)<|Aa (A9 Ce (vv 5)<|Bc<|Aa (Al X G rfl<|Aa (vv 0)<|Aa (vv 4)<|Aa (vv 5) Ad) Ad) Ad)<|Ai<|Aw<|Bv Dd rfl ai bF<|Aa (vv 4) Ad),?_⟩
 rintro xs M R _ ⟨g,s,rfl,hg,hs,hT,q⟩;refine Az (λz k=>∃(o:oA Arw) (p t:_) ,z=[oF<|Bt g,oF<|Cj s,oE 200,oD p,none,t]/\MsOk g s o/\k p=oG (o.map λa=>.D<|Br a)/\C7 T M k) (λZ hZ=>?_) ?_;refine⟨g,s,rfl,hg,hs,λMs μ1 v Y=>?_⟩;have hc:∀a∈Ms,a.c.isSome=true:=λa ha=>by obtain⟨c,e,_⟩:=v.c a ha;rw[e];rfl
 refine Ab (Y _ _ hT) ⟨?_,rfl,kyO,λd hd k R' h=>?_,?_,λes p hp gt=>?_⟩;exact trivial;obtain⟨a,ha,rfl⟩:=E_.mp hd;obtain⟨c0,e,_⟩:=v.c a ha;obtain⟨p,x,ts,c⟩:=a;cases e;exact Ab (Aj (j:=3) rfl) h;rw[aF,eB (g:=KJ) λa ha=>by
  obtain⟨c,e,_⟩:=v.c a ha;exact TJ e]
 exact Zo (by have:=v.n;omega) hc
 obtain⟨o,rfl,ko⟩:=Dp hp Ms rfl;refine hZ _ _ ⟨o,p,_,rfl,v.perm ko,by rw[Ac,aF];rfl,λb m hb e=>?_⟩;rw[Af (by rintro rfl;rw[Y _ _ e]at gt;cases gt),Bb hb];exact Y _ _ e;rintro z μ1 ⟨o,p,t,rfl,v,ep,E1⟩;intro u Q;have am:p≠u:=by rintro rfl;rw[ep]at Q;cases Q
 have I:M u=none\/u=T:=by
  by_cases h:u=T;exact .inr h
  ·refine .inl ?_;cases e:M u with
   |none=>rfl
   |some m=>rw[E1 _ _ h e]at Q;cases Q
 refine Az (λz k=>∃(t:oB AV) (L:oA<|Arw×lA),z=[oF<|Bt g,oF<|Cj s,oE 200,oD p,oD u,t]/\L.map (·.1)=o/\k u=oG (L.map Zj)/\C7 T M k) (λZ hZ=>?_) ?_;refine Ab (Am<|by rw[Af am];exact ep) ?_;refine Ci (λi z k=>∃(t:oB AV) (L:oA<|Arw×lA),z=[oF<|Bt g,oF<|Cj s,oE 200,oD p,oD u,t]/\L.map (·.1)=o.take i/\k u=oG (L.map Zj)/\k p=oG (o.map λa=>.D<|Br a)/\C7 T M k) ⟨t,[],rfl,rfl,Ac,by rw[Af am];exact ep,λb m hb e=>by
  rw[Af (by rintro rfl;rcases I with h|h;rw[h]at e;cases e;exact hb h)];exact E1 _ _ hb e⟩ (by rintro _ _ _ ⟨_,_,_,_,_,e,_⟩;exact Am e) ?_ ?_
 rintro i y z O Z2 hy ⟨t,L,rfl,B,C,p2,N⟩ hZ2;rw[L_]at hy;obtain⟨a,ha,rfl⟩:=H_.mp hy;have ham:=X_ ha;have hi:i<o.length:=(D_.mp ha).1;have bo:o.take (i+1)=o.take i++[a]:=by rw[aG,ha];rfl
 obtain⟨c,hc,U,_⟩:=v.c a ham;have hLl:L.length=i:=by have:=b_ List.length B;rw[B_,bD]at this;omega
 have hn:=v.n;have h5:=v.l;obtain⟨ap,ax,J,ac⟩:=a;cases hc;have V:∀r∈L,r.1.ts.length<=5:=λr G=>h5 r.1 (fP (i:=i)<|by rw[<- B];exact E_.mpr ⟨r,G,rfl⟩);refine⟨Ab C trivial,g,u,L,ap,ax,J,c,rfl,⟨G_ hg.r<|by decide,λr G=>(hg.ok r G).2.2.2⟩,U,⟨C,by omega,V⟩,λd μ3 S=>⟨by show 4+1<=sizeLine;decide,?_⟩⟩;refine Ab (S _ _ C) ⟨A0<|by rw[B_];omega,hZ2 _ _ ⟨_,L++[(⟨ap,ax,J,some c⟩,d)],rfl,by rw[M_,B,bo];rfl,by rw[Ac,M_];rfl,by rw[Af am];exact S _ _ p2,λb m hb e=>?_⟩⟩;rw[Af (by rintro rfl;rcases I with h|h;rw[h]at e;cases e;exact hb h)];exact S _ _<|N _ _ hb e;rintro z O ⟨t,L,rfl,B,C,p2,N⟩;rw[B_,aB]at B;exact hZ _ _ ⟨_,L,rfl,B,C,N⟩;rintro z O ⟨t,L,rfl,B,C,N⟩;refine Ab (Am C)<|Ab (Jy L) ⟨_,Sub.refl,q L _ (by rw[B];exact v) N⟩
end
section
variable {P:lD}{w:lE}{K:lC}{mg:Str->oB kZ}{base:lH}{f:lB}{fd:lK}
def DS{a b:Nat}(h:Om a=Om b):a=b:=by unfold Om at h;have:=gL h;omega
def LyV(kvs:oA<|Key×AV)(φ:Nat->oB Nat):Prop:=∀s:Nat,(φ s=none/\Bw kvs (Om s)=none)\/∃c d,φ s=some c/\Bw kvs (Om s)=oF (.tuple [.int (c:Nat),d])
def Lyr(c:M)(b:lB)(φ:Nat->oB Nat)(n:Nat):Prop:=∃a,c b=some (.dk a)/\a.length<=n/\LyV a φ
def Lyr.sub{c d:M}{b:lB}{φ:Nat->oB Nat}{n:Nat}(h:Lyr c b φ n)(S:Sub c d):Lyr d b φ n:=by obtain⟨a,e,r⟩:=h;exact⟨a,S _ _ e,r⟩
def Lyr.mono{c:M}{b:lB}{φ:Nat->oB Nat}{n m:Nat}(h:Lyr c b φ n)(l:n<=m):Lyr c b φ m:=by obtain⟨a,e,r,q⟩:=h;exact⟨a,e,G_ r l,q⟩
def Lyr.ext{c d:M}{b:lB}{φ:Nat->oB Nat}{n:Nat}(h:Lyr c b φ n)(S:∀m,c b=some m->d b=some m):Lyr d b φ n:=by obtain⟨a,e,r⟩:=h;exact⟨a,S _ e,r⟩
def Lyr.none{c:M}{b p:lB}{φ:Nat->oB Nat}{n:Nat}(h:Lyr c b φ n)(e:c p=none):b≠p:=by rintro rfl;obtain⟨d,a,_⟩:=h;rw[e]at a;cases a
def Lyr.has{g:M}{b:lB}{φ:Nat->oB Nat}{n:Nat}(h:Lyr g b φ n):∃a,g b=some (.dk a)/\∀t:Nat,∃r,dget (.dk a) (.int (t:Nat))=some r/\r.isSome=(φ t).isSome/\∀c,φ t=some c->∃d,r=oF (.tuple [.int (c:Nat),d]):=by obtain⟨a,e,_,v⟩:=h;refine⟨a,e,λt=>⟨_,rfl,?_⟩⟩;rcases v t with⟨h1,h2⟩|⟨c,d,h1,h2⟩;exact⟨by rw[h1];show(Bw a<|Om t).isSome=_;rw[h2];rfl,λc h=>by rw[h1]at h;cases h⟩;exact⟨by rw[h1];show(Bw a<|Om t).isSome=_;rw[h2];rfl,λi h=>by rw[h1]at h;cases h;exact⟨d,h2⟩⟩
def Lyr.put{i:M}{b:lB}{φ:Nat->oB Nat}{n:Nat}(h:Lyr i b φ n)(s c:Nat)(d:lA):∃a j,i b=some (.dk a)/\a.length<=n/\dput (.dk a) (.int (s:Nat)) (.D<|.tuple [.int (c:Nat),d])=some j/\∀ g,Lyr (Ao g b j) b (λt=>if t=s then some c else φ t) (n+1):=by obtain⟨a,e,l,v⟩:=h;refine⟨a,_,e,l,rfl,λg=>⟨_,Ac,G_ (Jr _ _ _)<|gQ l,λt=>?_⟩⟩;show(_/\Bw (Dz a (Om s)<|.D<|.tuple [.int (c:Nat),d]) (Om t)=_)\/∃k m,_/\Bw (Dz a (Om s)<|.D<|.tuple [.int (c:Nat),d]) (Om t)=oF (.tuple [.int (k:Nat),m]);rw[Fz];dsimp only;by_cases h:t=s;rw[T_ h,T_<|by rw[h]];exact .inr ⟨c,d,rfl,rfl⟩;rw[O_ h,O_ λz=>h<|DS z];exact v t
theorem Jz(f:Nat->Nat):∀ns:oA Nat,Fa (ns.map λn=>.D<|.int (f n:Nat))=some (ns.map λn=>(f n:Int))
 |[]=>rfl
 |n::ns=>by rw[aS,Fa,Jz f ns];rfl
structure Abv(L:oA<|Arw×lA)(x:Nat)(φ ψ:Nat->oB Nat):Prop where
 i:∀s,(ψ s).isSome=true↔∃r∈L,r.1.p=s/\r.1.x=x/\∀t∈r.1.ts,(φ t).isSome=true
 c:∀s c,ψ s=some c->∃r∈L,r.1.p=s/\r.1.x=x/\∃m,c=r.1.c.getD 0+m/\∀t∈r.1.ts,∃d,d<=m/\φ t=some d
def Abv.skip{L:oA<|Arw×lA}{r:Arw×lA}{x:Nat}{φ g:Nat->oB Nat}(h:Abv L x φ g)(hn:r.1.x=x->(∀t∈r.1.ts,(φ t).isSome=true)->(g r.1.p).isSome=true):Abv (L++[r]) x φ g :=
 ⟨λs=>⟨λz=>by obtain⟨a,b,c⟩:=(h.i s).mp z;exact⟨a,Y_ _ b,c⟩,λ⟨a,b,c,d,e⟩=>(Q_.mp b).elim (λb=>(h.i s).mpr ⟨a,b,c,d,e⟩) λb=>by
  rw[I_.mp b]at c d e;rw[<- c];exact hn d e⟩,λs c z=>by obtain⟨a,b,e⟩:=h.c s c z;exact⟨a,Y_ _ b,e⟩⟩
def Abv.put{L:oA<|Arw×lA}{r:Arw×lA}{x m:Nat}{φ j:Nat->oB Nat}(h:Abv L x φ j)(hx:r.1.x=x)(g:∀t∈r.1.ts,∃d,d<=m/\φ t=some d):Abv (L++[r]) x φ (λt=>if t=r.1.p then some (r.1.c.getD 0+m) else j t):=by
 refine⟨λs=>?_,λs c z=>?_⟩;by_cases e:s=r.1.p;rw[T_ e];exact⟨λ_=>⟨r,by simp,e.symm,hx,λt l=>by obtain⟨d,_,z⟩:=g t l;rw[z];rfl⟩,λ_=>rfl⟩;rw[O_ e,h.i s];exact⟨by rintro ⟨a,b,c⟩;exact ⟨a,Y_ _ b,c⟩,λ⟨a,b,c,d⟩=>(Q_.mp b).elim (λb=>⟨a,b,c,d⟩) λb=>by
  rw[I_.mp b]at c;exact absurd c.symm e⟩
 by_cases e:s=r.1.p;rw[T_ e]at z;cases z;exact⟨r,by simp,e.symm,hx,m,rfl,g⟩;rw[O_ e]at z;obtain⟨a,b,k⟩:=h.c s c z;exact⟨a,Y_ _ b,k⟩
abbrev ZQ:oA Str:=["paper","letter","beneath","best","number","row","cost"]
def Zp:FnScope ZQ qX (Ah PH):=Bi<|by decide +kernel
def TN:(qH:oA Str).Nodup:=by decide +kernel
def TQ:(qH:oA Str).Nodup:=by decide +kernel
def TR:ASp:=λe d R=>∃(L:oA<|Arw×lA) (x:Nat) (a:lB) (φ:Nat->oB Nat),e=[.D<|.tuple<|L.map Dt,.D<|.int x,.R a]/\L.length<=200/\(∀r∈L,r.1.ts.length<=5)/\Lyr d a φ 200/\∀(b:lB) (c:Nat->oB Nat) μ',Lyr μ' b c 200->Abv L x φ c->Sub d μ'->R (.R b) μ'
def TU{n:Nat}(F:Fun K "best_rows" "best_rows" PH f fd) (aq:mg "enumerate" = none) (bn:mg "all" = none) (cu:mg "max" = none):FnOk P w K mg base Cm (n+1) f fd qX (Dj K 3 TR):=by
 refine F.vok Zp λav A outer s H E X=>⟨_,(Ae (Aq (i:=3) Zp.nd rfl oH Fq)<|Ae (B3 aA rfl (Io rfl aq<|vv 0) (Di (n:=2) rfl<|Av (Ak (i:=4) Zp.nd rfl oH)<|Av (Ak (i:=5) Zp.nd rfl oH) B2)<|Ai<|B9 (VW.pt<|Eb (A7 (D9 X) (Au A8 (vv 5) Ag) (vv 1)<|nomark _)<|D3<|E9<|Ay (Re rfl) rfl bn gK<|Aa (Bq (N':=qH) (mp:=[none,some 2]) rfl (Be<|Au A8 (vv 5) Ag) (λ_ _ _ _=>(Ak (i:=0) TN rfl oH oI)) (λ_ _ _ _=>Bm) (λ_ _ _ _=>(Pt (Bu X) (vv 0)<|vv 1))<|Ax (N:=ZQ) (pn:=(Ah PH).names)<|by decide +kernel) Ad) (Ae (Aq (i:=6) Zp.nd rfl oH<|A9 Ce (Au A8 (vv 5) Ag)<|CH rfl rfl cu (Bq (N':=qH) (mp:=[none,some 2]) rfl (Be<|Au A8 (vv 5) Ag) (λ_ _ _ _=>(Ak (i:=0) TQ rfl oH oI)) (λ_ _ _ _=>Bm) (λ_ _ _ _=>(Au A8 (C0 (Bu X) (vv 1)<|vv 0) Ag))<|Ax (N:=ZQ) (pn:=(Ah PH).names)<|by decide +kernel) Ag)<|Ai<|B9 (VW.pt<|V0 (K8 (Bu X) (Au A8 (vv 5) Ag)<|vv 3)<|Pm<|A7 HJ (vv 6) (Au A8 (C0 (Bu X) (vv 3)<|Au A8 (vv 5) Ag) Ag)<|nomark _) (Ai<|C1 (Bu X) (vv 3) (Au A8 (vv 5) Ag)<|Bc<|Aa (vv 6)<|Aa (vv 4) Ad) Bh) Bh)<|Ai<|Aw<|vv 3),?_⟩
 rintro xs μ R _ ⟨L,x,J,l,rfl,hl,h5,hB,q⟩;intro M jx;have j2:=hB.none jx;refine Az (λk e=>∃V U B g,k=[oF<|.tuple<|L.map Dt,oE x,oD J,oD M,V,U,B]/\Lyr e M g 200/\Abv L x l g/\Sub μ e) (λZ hZ=>?_) ?_;refine Ab rfl<|Ab (Bx _) ?_;refine Ci (λi k e=>∃V U B g,k=[oF<|.tuple<|L.map Dt,oE x,oD J,oD M,V,U,B]/\Lyr e M g i/\Abv (L.take i) x l g/\Sub μ e) ⟨none,none,none,λ_=>none,rfl,⟨[],Ac,F_ _,λ_=>.inl ⟨rfl,rfl⟩⟩,⟨λs=>⟨nofun,by rintro ⟨_,h,_⟩;simp at h⟩,nofun⟩,Sub.refl.new jx⟩ (λ_ _ _ _=>rfl) ?_ ?_;rintro i y k a Z2 hy ⟨V,U,B,g,rfl,O,G,S⟩ hZ2;obtain⟨r,io,rfl⟩:=Qz hy;have hi:i<L.length:=(D_.mp io).1;have k5:=h5 r<|X_ io;have bo:L.take (i+1)=L.take i++[r]:=by rw[aG,io];rfl
 have u4:=hB.sub S;have skip:∀ C B,Sub a C->(r.1.x=x->(∀t∈r.1.ts,(l t).isSome=true)->(g r.1.p).isSome=true)->Z2 [oF<|.tuple<|L.map Dt,oE x,oD J,oD M,oE i,oF<|Dt r,B] C:=λC B I hn=>hZ2 _ _ ⟨_,_,_,g,rfl,(O.sub I).mono<|bU _,by rw[bo];exact G.skip hn,S.trans I⟩;refine⟨rfl,Ab (Aj (j:=1) rfl)<|ieq (λc=>?_) λc=>J5 rfl<|skip _ _ Sub.refl λh=>absurd (by rw[h]) c⟩;have hx:r.1.x=x:=by omega
 obtain⟨bkv,eb,hb⟩:=u4.has;refine Ab (Aj (j:=2) rfl)<|Ab (Bj r.1.ts) λpl Y=>?_;have qp:=u4.none Y;refine cmap r.1.ts _ (λt=>.D<|.bool (l t).isSome) (λk=>∃o,k=[o,oD J]) ⟨none,rfl⟩ Ac (seven<|by omega) (λ_=>Bj r.1.ts) ?_ ?_;rintro j t τ' acc W hj ⟨o,rfl⟩ hW;obtain⟨v,T,e2,_⟩:=hb t;refine Ab (x:=MO.dk bkv) (by rw[Af qp,Af qp];exact eb)<|Ab T ?_;rw[e2];exact hW _ ⟨_,rfl⟩;rw[Bk];dsimp only[Po];have I:Sub a (Ao a pl<|.lst<|r.1.ts.map λt=>.D<|.bool (l t).isSome):=Sub.refl.new Y;refine We Ac (br (λc2=>?_) λc2=>skip _ _ I λ_ h=>by rw[bR.mpr h]at c2;cases c2);have gg:∀t∈r.1.ts,(l t).isSome=true:=bR.mp c2;generalize Ao a pl (.lst<|r.1.ts.map λt=>.D<|.bool (l t).isSome)=C at I;refine Az (λk e=>∃m:Nat,k=[oF<|.tuple<|L.map Dt,oE x,oD J,oD M,oE i,oF<|Dt r,oE (r.1.c.getD 0+m:Nat)]/\(∀t∈r.1.ts,∃d,d<=m/\l t=some d)/\Sub a e) (λZ hZ=>?_) ?_;refine Ab (Aj (j:=3) rfl)<|Ab (Aj (j:=2) rfl)<|Ab (Bj r.1.ts) λp2 iy=>?_;have z7:=I _ _ eb;have fx:J≠p2:=by rintro rfl;rw[z7]at iy;cases iy
 refine cmap r.1.ts _ (λt=>.D<|.int ((l t).getD 0:Nat)) (λk=>∃o,k=[o,oD J]) ⟨none,rfl⟩ Ac (seven<|by omega) (λ_=>Bj r.1.ts) ?_ ?_;rintro j t τ' acc W hj ⟨o,rfl⟩ hW;obtain⟨v,T,_,e3⟩:=hb t;obtain⟨c0,Q⟩:=dA.mp<|gg t<|X_ hj;obtain⟨d,rfl⟩:=e3 c0 Q;refine Ab (x:=MO.dk bkv) (by rw[Af fx,Af fx];exact z7)<|Ab T<|Ab rfl<|Ab (Aj (j:=0) rfl) ?_;have:=hW _ ⟨oE (t:Nat),rfl⟩;rw[Q]at this;exact this;rw[Bk];dsimp only[Po];refine Ab Ac<|Ab (Jz (λt=>(l t).getD 0) r.1.ts) λv h0 h1=>?_;have hm:∃m:Nat,v=m/\∀t∈r.1.ts,∃d,d<=m/\l t=some d:=by by_cases hn:r.1.ts=[];exact⟨0,h0<|by rw[hn];rfl,λt ht=>by rw[hn]at ht;cases ht⟩;obtain⟨h2,h3⟩:=h1 λz=>hn<|List.map_eq_nil_iff.mp z;obtain⟨t,_,rfl⟩:=E_.mp h2;refine⟨_,rfl,λu hu=>?_⟩;obtain⟨c0,Q⟩:=dA.mp<|gg u hu;have:=h3 _<|E_.mpr ⟨u,hu,rfl⟩;rw[Q]at this;exact⟨c0,Int.ofNat_le.mp this,Q⟩
 obtain⟨m,rfl,hm⟩:=hm;exact hZ _ _ ⟨m,rfl,hm,I.new<|I.none iy⟩;rintro k μ3 ⟨m,rfl,hm,S3⟩;have hA3:=O.sub S3;obtain⟨kvs,m',ek,el,ep,hP⟩:=hA3.put r.1.p (r.1.c.getD 0+m)<|.int (i:Nat);have vc:Rj (Jc 3) (HG MY (Jc 5)<|vC<|.D<|.int 0) (MR<|V1 (Jc 6)<|V1 (Jc 4) Po) Z2 (NM R) Z2 Z2 [oF<|.tuple<|L.map Dt,oE x,oD J,oD M,oE i,oF<|Dt r,oE (r.1.c.getD 0+m:Nat)] μ3 :=
  Ab (Aj (j:=0) rfl) (Ab ek<|Ab ep ⟨A0<|show kvs.length<=1000 by omega,hZ2 _ _ ⟨_,_,_,_,rfl,hP _,by rw[bo];exact G.put hx hm,λb o hb=>by
   rw[Af<|by rintro rfl;rw[jx]at hb;cases hb];exact S3 _ _<|S _ _ hb⟩⟩)
 obtain⟨akv,ea,ha⟩:=hA3.has;obtain⟨v,T,e2,e3⟩:=ha r.1.p;refine Ab (Aj (j:=0) rfl)<|Ab ea<|Ab T<|br (λc=>J4 rfl vc) λc=>?_;rw[e2]at c;have hs:(g r.1.p).isSome=true:=by simpa using c
 obtain⟨c0,Q⟩:=dA.mp hs;obtain⟨d,rfl⟩:=e3 c0 Q;exact Ab (Aj (j:=0) rfl)<|Ab ea<|Ab T<|Ab rfl<|Ab (Aj (j:=0) rfl)<|dif (λ_=>vc) λ_=>skip _ _ S3 λ_ _=>hs;rintro k a ⟨V,U,B,g,rfl,O,G,S⟩;rw[C2,B_]at O G;rw[aB]at G;exact hZ _ _ ⟨_,_,_,g,rfl,O.mono hl,G,S⟩;rintro k a ⟨V,U,B,g,rfl,O,G,S⟩;exact⟨_,Sub.refl,q M g _ O G S⟩
section
variable {g:Gam}{s:Say}{L:oA<|Arw×lA}{φ ψ:Nat->oB Nat}{W:oA Nat}{x:Nat}
structure LyOk(g:Gam)(s:Say)(L:oA<|Arw×lA)(W:oA Nat)(φ:Nat->oB Nat):Prop where
 i:∀t,(φ t).isSome=rd (L.map (·.1)) s.es W t
 c:∀t c,φ t=some c->LC g (Jx s) c t W
def LyOk.up(l:MsOk g s<|L.map (·.1))(h:LyOk g s L W φ)(a:Abv L x φ ψ):LyOk g s L (x::W) ψ:=by refine⟨λt=>?_,λt c e=>?_⟩;rw[fJ,a.i t,Mw];constructor;rintro⟨r,j,h1,h2,k⟩;exact⟨r.1,E_.mpr ⟨r,j,rfl⟩,h1,h2,λu hu=>by rw[<- h.i u];exact k u hu⟩;rintro⟨b,hb,h1,h2,k⟩;obtain⟨r,j,rfl⟩:=E_.mp hb;exact⟨r,j,h1,h2,λu hu=>by rw[h.i u];exact k u hu⟩;obtain⟨r,j,rfl,rfl,m,rfl,k⟩:=a.c t c e;obtain⟨o,h1,_,h2⟩:=l.c r.1<|E_.mpr ⟨r,j,rfl⟩;rw[h1];exact h2 W m λu hu=>by obtain⟨d,n,e⟩:=k u hu;exact(h.c u d e).le n
def LyOk.nil:LyOk g s L [] (λt=>if t∈s.es then some 0 else none):=by refine⟨λt=>?_,λt c e=>?_⟩;rw[rd];by_cases h:t∈s.es;rw[T_ h,aQ h];rfl;rw[O_ h,aH h];rfl;by_cases h:t∈s.es;rw[T_ h]at e;cases e;rcases fN t g.pl.length with k|k;exact .inl ⟨k,Jw.mpr h⟩;exact .inr ⟨k,Jw.mpr h⟩;rw[O_ h]at e;cases e
end
abbrev nBl:oA Str:=["saying","paper","pile","layer","end","layers","letter"]
def Uy:FnScope nBl qY (Ah YN):=Bi<|by decide +kernel
def TV:ASp:=λc a R=>∃(g:Gam) (s:Say) (L:oA<|Arw×lA) (W:oA Nat),c=[.D<|Cj s,.D<|.tuple<|L.map Dt,.D<|A3 W]/\s.es.length<=20/\MsOk g s (L.map (·.1))/\W.length<=20/\∀(l b:lB) (d:oA AV) (φ:Nat->oB Nat) μ',μ' l=oG (.R b::d)->Lyr μ' b φ 200->LyOk g s L W φ->Sub a μ'->R (.R l) μ'
def TW{n:Nat}(F:Fun K "best_layers" "best_layers" YN f fd) (cBs:VCal P w K mg base n "best_rows" qX TR) (a7:mg "reversed" = none) (bj:mg "list" = none):FnOk P w K mg base Cm (n+1) f fd qY (Dj K 3 TV):=by
 refine F.vok Uy λav A outer sh H E Y=>⟨_,(Ae (Aq (i:=3) Uy.nd rfl oH Fq)<|Ae (B3 aA rfl (Be<|Au A8 (vv 0) Ag) (Ak (i:=4) Uy.nd rfl oH)<|Ai<|C1 (Bu Y) (vv 3) (vv 4)<|Bc<|Aa Ag<|Aa Cu Ad)<|Ae (Aq (i:=5) Uy.nd rfl oH<|Cb<|Aa (vv 3) Ad)<|Ae (B3 aA rfl (Ws rfl a7<|vv 2) (Ak (i:=6) Uy.nd rfl oH)<|Ae (Aq (i:=3) Uy.nd rfl oH<|Al cBs Y rfl<|Aa (vv 1)<|Aa (vv 6)<|Aa (vv 3) Ad)<|Ai<|Ch<|Ff bV bW Dl (vv 5)<|Aa (vv 3) Ad)<|Ai<|Aw<|Rp rfl rfl bj rfl a7<|vv 5),?_⟩
 rintro xs X R _ ⟨g,s,L,W,rfl,he,hM,hW,q⟩;have U:=hM.n;rw[B_]at U;have hL5:∀r∈L,r.1.ts.length<=5:=λr Y=>hM.l r.1<|E_.mpr ⟨r,Y,rfl⟩;intro I n9;refine Az (λp d=>∃v k,p=[oF<|Cj s,oF<|.tuple<|L.map Dt,oF<|A3 W,oD I,v,none,none]/\Lyr d I k 20/\LyOk g s L [] k/\Sub X d) (λZ hZ=>?_) ?_;refine Ab (Aj (j:=2) rfl)<|Ab (Bj s.es) ?_;refine Ci (λi p d=>∃v,p=[oF<|Cj s,oF<|.tuple<|L.map Dt,oF<|A3 W,oD I,v,none,none]/\Lyr d I (λt=>if t∈s.es.take i then some 0 else none) i/\Sub X d) ⟨none,rfl,⟨[],Ac,F_ _,λ_=>.inl ⟨by simp,rfl⟩⟩,Sub.refl.new n9⟩ (λ_ _ _ _=>Bj s.es) ?_ ?_;rintro i y p Q Z2 hy ⟨v,rfl,B,S⟩ hZ2;rw[L_]at hy;obtain⟨e,bf,rfl⟩:=H_.mp hy;have hi:i<s.es.length:=(D_.mp bf).1;obtain⟨T,m',ek,el,ep,hI3⟩:=B.put e 0 .none;refine Ab ek (Ab ep ⟨A0<|show T.length<=1000 by omega,hZ2 _ _ ⟨_,rfl,?_,λb m hb=>?_⟩⟩);rw[show(λt=>if t∈s.es.take (i+1) then some 0 else none)=(λt=>if t=e then some 0 else if t∈s.es.take i then some 0 else none:Nat->oB Nat) from funext λt=>by
  rw[aG,bf];by_cases h:t=e;rw[T_ h,T_<|by simp[h]];rw[O_ h];simp[h]]
 exact hI3 _
 have b1:b≠I:=by rintro rfl;rw[n9]at hb;cases hb
 rw[Af b1];exact S b m hb;rintro p Q ⟨v,rfl,B,S⟩;rw[B_,aB]at B;exact hZ _ _ ⟨_,_,rfl,B.mono he,LyOk.nil,S⟩;rintro p Q ⟨v,φ0,rfl,B,hO,S1⟩;intro J z;have zr:=B.none z;refine Az (λp d=>∃N b u k,p=[oF<|Cj s,oF<|.tuple<|L.map Dt,oF<|A3 W,oD b,v,oD J,N]/\d J=oG (u++[.R b])/\Lyr d b k 200/\LyOk g s L W k/\Sub X d) (λZ hZ=>?_) ?_;refine Ci (λi p d=>∃N b u k,p=[oF<|Cj s,oF<|.tuple<|L.map Dt,oF<|A3 W,oD b,v,oD J,N]/\u.length=i/\b≠J/\d J=oG (u++[.R b])/\Lyr d b k 200/\LyOk g s L (W.drop<|W.length-i) k/\Sub X d) ⟨none,I,[],φ0,rfl,rfl,zr,Ac,(B.mono<|by decide).ext λm e=>by rw[Af zr];exact e,by rw[iT,dD];exact hO,S1.new<|S1.none z⟩ (λ_ _ _ _=>trivial) ?_ ?_;rintro i y p V Z2 hy ⟨N,b,u,k,rfl,O,hbp,C,M,o,G⟩ hZ2;obtain⟨hi,x,ex,rfl⟩:=R3 hy;have jj:W.drop (W.length-(i+1))=x::W.drop (W.length-i):=by
  obtain⟨h1,h2⟩:=D_.mp ex;have e1:W.length-(i+1)=W.length-1-i:=by omega
  have C:W.length-i=W.length-1-i+1:=by omega
  rw[e1,C,bC h1,h2]
 refine Cg ⟨L,x,b,k,rfl,U,hL5,M,λb2 ψ μ3 vw hV S3=>?_⟩;have e3:=S3 _ _ C;have fx:b2≠J:=by rintro rfl;obtain⟨T,a,_⟩:=vw;rw[e3]at a;cases a
 refine⟨Ab e3 trivial,Ab e3 ⟨A0<|by rw[P_];show u.length+1<=_;omega,hZ2 _ _ ⟨_,b2,u++[.R b],ψ,rfl,by rw[P_,O];rfl,fx,Ac,vw.ext λm e=>by rw[Af fx];exact e,by rw[jj];exact o.up hM hV,λc m hc=>?_⟩⟩⟩;rw[Af<|by rintro rfl;rw[S1.none z]at hc;cases hc];exact S3 _ _<|G _ _ hc;rintro p V ⟨N,b,u,k,rfl,O,hbp,C,M,o,G⟩;rw[fX,B_,B_,kP,f_]at o;exact hZ _ _ ⟨_,b,u,k,rfl,C,M,o,G⟩;rintro p V ⟨N,b,u,k,rfl,C,M,o,G⟩;refine Ab C λl hl=>⟨_,Sub.refl,q l b u.reverse k _ (by rw[Ac,List.reverse_append];rfl) (M.ext λm e=>by rw[Af<|M.none hl];exact e) o<|G.new<|G.none hl⟩
abbrev nLc:oA Str:=["saying","paper","place","pile","best"]
def TX:FnScope nLc qZ (Ah YM):=Bi<|by decide +kernel
def TY:ASp:=λb a R=>∃(g:Gam) (s:Say) (L:oA<|Arw×lA) (p:Nat) (W:oA Nat),b=[.D<|Cj s,.D<|.tuple<|L.map Dt,.D<|.int p,.D<|A3 W]/\s.es.length<=20/\MsOk g s (L.map (·.1))/\W.length<=20/\∀(o:oB Nat) μ',o.isSome=rd (L.map (·.1)) s.es W p->(∀c,o=some c->LC g (Jx s) c p W)->Sub a μ'->R (RD o) μ'
def TZ{n:Nat}(F:Fun K "least_cost" "least_cost" YM f fd) (t:VCal P w K mg base n "best_layers" qY TV):FnOk P w K mg base Cm (n+1) f fd qZ (Dj K 4 TY):=by
 refine F.vok TX λO A h N H E a=>⟨_,(Ae (Aq (i:=4) TX.nd rfl oH<|Au A8 (Al t a rfl<|Aa (vv 0)<|Aa (vv 1)<|Aa (vv 3) Ad) Ag)<|Ai<|Aw<|Fn (HS (Bu a) (vv 2)<|vv 4) (Au A8 (C0 (Bu a) (vv 4)<|vv 2) Ag) Cu),?_⟩
 rintro J S R _ ⟨g,s,L,p,W,rfl,he,B,y,q⟩;refine Cg ⟨g,s,L,W,rfl,he,B,y,λl b Q M z x I k u=>?_⟩;refine Ab x<|Ab (Aj (j:=0) rfl) ?_;obtain⟨D,v,G⟩:=I.has;obtain⟨r,h1,h2,C⟩:=G p;refine Ab v<|Ab h1<|br (λc=>?_) λc=>?_;rw[h2]at c;obtain⟨m,o⟩:=dA.mp c;obtain⟨d,a⟩:=C m o;exact Ab v (Ab h1<|Ab a<|Ab (Aj (j:=0) rfl) ⟨_,Sub.refl,q (some m) _ (by rw[<- k.i,o]) (λc e=>by cases e;exact k.c p m o) u⟩);rw[h2]at c;exact⟨_,Sub.refl,q none _ (by rw[<- k.i];exact c.symm) nofun u⟩
end
section
variable {P:lD}{w:lE}{K:lC}{mg:Str->oB kZ}{base:lH}{f:lB}{fd:lK}{h:lH}{x:Str}{st:lJ}{oc kV bq pm av ct:kZ}{od an:oB lB}{e7:oC<|oB kZ}{n:Nat}{ps:oA Str}{sp:ASp}
def DU(a:oA Rul)(p x:Nat):(JL a p x).map (·.1)=rgp a (p,x):=by have h:=List.filter_map (f:=Prod.fst) (p:=KZ p x) (l:=a.zipIdx);rw[List.zipIdx_map_fst]at h;exact h.symm
theorem G3{g:Gam}{s:Say}:∀{k p:Nat} {w:oA Nat},wn g s k p w=true↔E5 g (Jx s) k p w
 | 0,_,_=>kC
 |k+1,p,[]=>by show(_||mbt _ [])=true↔_\/_;rw[eQ];refine or_congr kC ⟨λh=>?_,by rintro ⟨x,v,e,_⟩;exact nomatch e⟩;unfold mbt at h;split at h<;>cases h
 |k+1,p,x::v=>by
  show(_||mbt _ ((JL g.rs p x).map<|(λr=>wn g s k r.q<|r.w++v) ∘ Prod.fst))=true↔_\/_;rw[<- aF,DU,eQ];refine or_congr kC ?_;have i:hand g p=hnd g (p,x):=by unfold hand hnd;rw[a_,a_,L_];cases g.pl[p]?<;>rfl
  rw[i];unfold mbt;constructor;intro h;refine⟨x,v,rfl,?_⟩;split at h;rename_i h1;rw[aV,bL,B_,bR]at h;exact .inl ⟨h1,List.ne_nil_of_length_pos h.1,λr a=>G3.mp<|h.2 _<|E_.mpr ⟨r,a,rfl⟩⟩;rename_i h1;obtain⟨b,hb,c⟩:=aZ.mp h;obtain⟨r,a,rfl⟩:=E_.mp hb;exact .inr ⟨h1,r,a,G3.mp c⟩;rintro⟨_,_,e,h⟩;cases e;rcases h with⟨h1,h2,d⟩|⟨h1,r,a,d⟩;rw[T_ h1,aV,bL,B_,bR];refine⟨gV.mpr h2,λb hb=>?_⟩;obtain⟨r,a,rfl⟩:=E_.mp hb;exact G3.mpr<|d r a;rw[O_ h1];exact aZ.mpr ⟨_,E_.mpr ⟨r,a,rfl⟩,G3.mpr d⟩
def O6{g:Gam}{s:Say}{p k:Nat}{w:oA Nat}(h:lmo g s p w=some k):E5 g (Jx s) k p w/\∀j,j<k->¬E5 g (Jx s) j p w:=by obtain⟨h1,_,a⟩:=List.find?_range_eq_some.mp h;exact⟨G3.mp h1,λj hj z=>by have:=a j hj;rw[G3.mpr z]at this;cases this⟩
abbrev nMd:oA Str:=["_law_game_here","_law_saying_here","_law_found"]
def KL:FnScope nMd qI (Ah YS):=Bi<|by decide +kernel
def KM:ASp:=λc b R=>∃(g:Gam) (s:Say),c=[.D<|Bt g,.D<|Cj s]/\GmOk g/\SyOk g s/\∀(a:oA Arw) μ',MsOk g s a->Sub b μ'->R (.D<|.tuple<|a.map Br) μ'
def UA{n:Nat}(F:Fun K "_law_made" "_law_made" YS f fd) (e:Hj P w K mg base n "machine" oM 200 KH):FnOk P w K mg base Cm (n+1) f fd qI (Dj K 2 KM):=by
 refine F.vok0 KL λav A b s H E j=>⟨_,(K9 (VS.z<|Aq (i:=2) KL.nd rfl oH Cu)<|K9 (X2 λp m=>(Ai<|Aq (i:=2) KL.nd rfl oH<|Oa e j rfl<|Aa (vv 0)<|Aa (vv 1) Ad))<|Wd<|VS.z<|Aw<|vv 2),?_⟩
 rintro l o R _ ⟨g,s,rfl,d,c,q⟩;refine Cg<|Cg ?_;exact⟨g,s,rfl,d,c,λk a h S=>⟨a,Sub.refl,q k a h S⟩⟩
abbrev nRi:oA Str:=["_law_game_here","_law_saying_here","_law_made_here","_law_paper","_law_where","_law_place","_law_pile_here","_law_cost","_law_moves"]
def Zq:FnScope nRi qJ (Ah YR):=Bi<|by decide +kernel
def KN:ASp:=λd c R=>∃(g:Gam) (s:Say) (b:oA Arw) (L:oA<|Arw×lA) (p:Nat) (W:oA Nat),d=[.D<|Bt g,.D<|Cj s,.D<|.tuple<|b.map Br,.D<|.tuple<|L.map Dt,.D<|Du p W]/\GsOk g s/\s.es.length<=20/\MsOk g s b/\MsOk g s (L.map (·.1))/\p<g.pl.length/\W.length<=20/\∀ a,Sub c a->R (.D<|.bool true) a
def UB{n:Nat}(F:Fun K "_law_right" "_law_right" YR f fd) (M:VCal P w K mg base n "least_cost" qZ TY) (N:VCal P w K mg base n "least_moves" qO RE) (ym:VCal P w K mg base n "reads" qD JK) (C:VCal P w K mg base n "brings_within" qE RB):FnOk P w K mg base Cm (n+1) f fd qJ (Dj K 5 KN):=by
 refine F.vok Zq λav A O sh H E v=>⟨_,(Ae (V7 (vv 4)<|Di (n:=2) rfl<|Av (Ak (i:=5) Zq.nd rfl oH)<|Av (Ak (i:=6) Zq.nd rfl oH) B2)<|Ae (Aq (i:=7) Zq.nd rfl oH<|Al M v rfl<|Aa (vv 1)<|Aa (vv 3)<|Aa (vv 5)<|Aa (vv 6) Ad)<|Ae (Aq (i:=8) Zq.nd rfl oH<|Al N v rfl<|Aa (vv 0)<|Aa (vv 1)<|Aa (vv 5)<|Aa (vv 6) Ad)<|Ae (B9 (Lz<|E9<|Al ym v rfl<|Aa (vv 2)<|Aa (Au A8 (vv 1) Ag)<|Aa (vv 5)<|Aa (vv 6) Ad) (Ai<|Aw<|Pn (E8 Nk (vv 7) Cu<|nomark _)<|Jd<|E8 Nk (vv 8) Cu<|nomark _) Bh)<|Ae (B9 (VW.pt<|V0 (A7 Nk (vv 7) Cu<|nomark _)<|Pm<|VW.pt<|Eb (A7 V2 (vv 8) Cu<|nomark _)<|D3<|A7 L1 (vv 8) (vv 7)<|nomark _) (Ai<|Aw Fe) Bh)<|Ai<|Aw<|EC (E8 L1 (vv 7) Ag<|nomark _)<|Jd<|E8 NQ (Al C v rfl<|Aa (vv 0)<|Aa (vv 1)<|Aa (vv 5)<|Aa (vv 6)<|Aa (vv 7) Ad) Fe<|nomark _),?_⟩
 rintro xs μ R _ ⟨g,s,m,L,p,W,rfl,hG,he,J,U,hp,G,q⟩;refine Az (λt b=>t=[oF<|Bt g,oF<|Cj s,oF<|.tuple<|m.map Br,oF<|.tuple<|L.map Dt,oF<|Du p W,oE p,oF<|A3 W,none,none]/\Sub μ b) (λZ e=>⟨rfl,e _ _ ⟨rfl,Sub.refl⟩⟩) ?_;rintro t μ0 ⟨rfl,S0⟩;refine Cg ⟨g,s,L,p,W,rfl,he,U,G,λo μ1 h1 h2 S1=>?_⟩;refine Cg ⟨g,s,p,W,rfl,hG,hp,G,λμ2 Y=>?_⟩;have S:∀c,o=some c->E5 g (Jx s) c p W:=λc h=>(h2 c h).elim (λz=>z.2) λz=>absurd hp<|jE z.1;have Q:=U.r p W hp;have u:=J.r p W hp;have B:=(S0.trans S1).trans Y;have ll:∀a∈m,a.ts.length<=400:=λa ha=>G_ (J.l a ha) (by decide);refine Cg (Ab (Aj (j:=2) rfl) ⟨m,s.es,p,W,rfl,G_ J.n<|by decide,ll,by omega,λI X=>?_⟩);have d:=B.trans X;have y:o.isSome=rd m s.es W p:=by rw[h1,fJ,Q,u]
 refine br (λc=>?_) λc=>?_
 ·rw[jZ]at c;rw[c]at y;have hn:∀n,¬E5 g (Jx s) n p W:=λn z=>by rw[u.mpr ⟨n,z⟩]at c;cases c
  cases o with
  |some k=>cases y
  |none=>
   cases hl:lmo g s p W with
   |some k=>exact absurd (O6 hl).1 (hn k)
   |none=>exact J4 rfl ⟨_,Sub.refl,q _ d⟩
 ·rw[Bool.not_eq_false']at c;rw[c]at y;obtain⟨k,rfl⟩:=dA.mp y;have hk:=S k rfl;refine Az (λt b=>t=[oF<|Bt g,oF<|Cj s,oF<|.tuple<|m.map Br,oF<|.tuple<|L.map Dt,oF<|Du p W,oE p,oF<|A3 W,oE k,some<|RD<|lmo g s p W]/\I=b) (λZ e=>J5 rfl ?_) ?_
  ·cases hl:lmo g s p W with
   |none=>rw[hl]at e;exact J5 rfl (J5 rfl<|e _ _ ⟨rfl,rfl⟩)
   |some j=>rw[hl]at e;exact J4 rfl<|dif (λT=>absurd hk<|(O6 hl).2 k<|kW.mp T) λ_=>e _ _ ⟨rfl,rfl⟩
  rintro t _ ⟨rfl,rfl⟩;refine dif (λ_=>⟨_,Sub.refl,q _ d⟩) (λT=>⟨g,s,p,W,k,rfl,hG,hp,G,by omega,λV S4=>?_⟩);rw[G3.mpr hk];exact⟨_,Sub.refl,q _<|d.trans S4⟩
abbrev ZR:oA Str:=["_law_script","_law_deal_here","_law_game_here","_law_saying_here","_law_made_here","_law_paper","_law_turn","_law_where"]
def Ig:FnScope ZR oY (Ah CI):=Bi<|by decide +kernel
def Pot.pf{b c:M}{a l:lB}(h:Pot b a l)(ha:∀m,b a=some m->c a=some m)(e:∀m,b l=some m->c l=some m):Pot c a l:=by obtain⟨g,d,ns,h⟩:=h;exact⟨g,d,ns,ha _ h.ha,e _ h.hl,h.s0,h.s1,h.n0,h.p0,h.ne⟩
def spL(T:lB):ASp:=λc b R=>∃(ns:oA Int),c=[.D<|Kg ns]/\ns.length<=63/\b T=some (.tb #[])/\∀ a,R (.D<|.bool true) a
def DV{n:Nat}{T:lB}(F:Fun K "law" "law" CI f fd) (wm:VCal P w K mg base n "_law_deal" oZ JA) (y4:VCal P w K mg base n "_law_game" qB JF) (wx:VCal P w K mg base n "_law_saying" qC JH) (yz:VCal P w K mg base n "_law_made" qI KM) (wo:Hj P w K mg base n "paper_for" oM 200<|KK T) (ck:VCal P w K mg base n "_law_draw" oK Mk) (xh:VCal P w K mg base n "_law_pile" oV JI) (xg:VCal P w K mg base n "_law_right" qJ KN) (aj:mg "range" = none) (ag:mg "len" = none):FnOk P w K mg base Cm (n+1) f fd oY (Dj K 1<|spL T):=by
 refine F.vok Ig λav A M sh H E b=>⟨_,(Ae (Aq (i:=1) Ig.nd rfl oH<|Al wm b rfl<|Aa (vv 0)<|Aa Ag Ad)<|Ae (Aq (i:=2) Ig.nd rfl oH<|Al y4 b rfl<|Aa (vv 1)<|Aa (Bc<|Aa Ag<|Aa Ag<|Aa Ag<|Aa Ag Ad)<|Aa Ag Ad)<|Ae (Aq (i:=3) Ig.nd rfl oH<|Al wx b rfl<|Aa (vv 1)<|Aa (vv 2)<|Aa Ag<|Aa Ag<|Aa Ag Ad)<|Ae (Aq (i:=4) Ig.nd rfl oH<|Al yz b rfl<|Aa (vv 2)<|Aa (vv 3) Ad)<|Ae (B9 (A7 Nk (vv 4) Cu<|nomark _) (Ai<|Aw Fe) Bh)<|Ae (Aq (i:=5) Ig.nd rfl oH<|Oa wo b rfl<|Aa (vv 2)<|Aa (vv 3) Ad)<|Ae (B3 aA rfl (Ck rfl aj<|Aa Ag Ad) (Ak (i:=6) Ig.nd rfl oH)<|Ae (Aq (i:=7) Ig.nd rfl oH<|Bc<|Aa (Al ck b rfl<|Aa (vv 1)<|Aa (Ay Cy rfl ag aX<|Aa (Au A8 (vv 2) Ag) Ad) Ad)<|Aa (Al xh b rfl<|Aa (vv 1)<|Aa (vv 2)<|Aa Ag Ad) Ad)<|Ai<|B9 (Lz<|E9<|Al xg b rfl<|Aa (vv 2)<|Aa (vv 3)<|Aa (vv 4)<|Aa (vv 5)<|Aa (vv 7) Ad) (Ai<|Aw Fe) Bh)<|Ai<|Aw Fe),?_⟩
 rintro xs μ R _ ⟨ns,rfl,gs,X,q⟩;refine Cg ⟨ns,0,rfl,by decide,gs,λa l μ1 ha hl P1 S1=>?_⟩;have O:T≠a:=by rintro rfl;rw[X]at ha;cases ha
 have C:T≠l:=by rintro rfl;rw[X]at hl;cases hl
 refine Cg ⟨a,l,3,2,6,2,rfl,by decide,by decide,by decide,by decide,by decide,by decide,P1,λg μ2 d P2 S2=>?_⟩;have we:=d.p1;have gj:=d.l1;have hr1:=d.r1;have oh:=d.p0;refine Cg ⟨a,l,g,2,6,2,rfl,d.p0,by omega,d.l0,by omega,by decide,by decide,P2,λs Y u P3 S3=>?_⟩;have ho:=u.o;have hsn:=u.n;have hen:=u.en;have G:Y T=some (.tb #[]):=S3 T _ O C<|S2 T _ O C<|S1 _ _ X;have hG:GmOk g:=⟨we,by omega,λr b=>⟨(d.ru r b).p,(d.ru r b).q,S_ (d.ru r b).x gj,(d.ru r b).n⟩⟩;have hS:SyOk g s:=⟨⟨u.t,u.p,u.c⟩,by omega,λa ha=>S_ (u.x a ha) gj,by omega⟩;have B:GsOk g s:=⟨by omega,λr b=>⟨(d.ru r b).q,(d.ru r b).n⟩,d.hd,⟨by omega,λa ha=>by have:=u.tn a ha;omega,by omega⟩⟩;refine Cg ⟨g,s,rfl,hG,hS,λI μ4 hM J=>?_⟩;refine Cg<|J5 rfl ?_;refine Cg ⟨g,s,rfl,hG,hS,J _ _ G,λL V hL S5=>?_⟩;have P5:Pot V a l:=P3.pf (λm e=>S5 _ _ O.symm<|J _ _ e) λm e=>S5 _ _ C.symm<|J _ _ e;refine Az (λv k=>True) (λZ hZ=>?_) λv k _=>⟨_,Sub.refl,q _⟩;refine⟨by decide,by decide,?_⟩;refine Ci (λi v k=>∃o6 o7,v=[oF<|Kg ns,oD a,oF<|Bt g,oF<|Cj s,oF<|.tuple<|I.map Br,oF<|.tuple<|L.map Dt,o6,o7]/\Pot k a l) ⟨none,none,rfl,P5⟩ (λ_ _ _ _=>trivial) ?_ λv k _=>hZ _ _ trivial;rintro i y v μ6 Z2 hy ⟨o6,o7,rfl,P6⟩ hZ2;refine Az (λv k=>∃(p:Nat) (W:oA Nat),v=[oF<|Kg ns,oD a,oF<|Bt g,oF<|Cj s,oF<|.tuple<|I.map Br,oF<|.tuple<|L.map Dt,some y,oF<|Du p W]/\p<g.pl.length/\W.length<=3/\Pot k a l) (λZ3 b9=>?_) ?_;refine Ab (Aj (j:=0) rfl) ⟨a,l,(g.pl.map Ym).length,rfl,P6,by rw[B_];omega,by rw[B_];omega,λz Q hz S S7=>?_⟩;rw[B_]at hz;exact⟨a,l,g,3,rfl,d.l0,by omega,by decide,S,λW U _ hW P8 N=>b9 _ _ ⟨z,W,rfl,hz,hW,P8⟩⟩;rintro v Q ⟨p,W,rfl,hp,hW,S⟩;exact⟨g,s,I,L,p,W,rfl,B,by omega,hM,hL,hp,by omega,λU N=>J5 rfl<|hZ2 _ _ ⟨_,_,rfl,S.pf (N _)<|N _⟩⟩
def Sk(K:lC)(T:lB):Sp:=λc H Q _=>∃(a:lB) (ns:oA Int),c=[.ref a]/\O8 K H a (ns.map V.int)/\H T=some (.tbl #[])/\ns.length<=63/\∀b,Q (.bl true) b
theorem Sl{H:Hp}:∀(ns:oA Int),Ap K H (ns.map .int) (ns.map V.int)
 |[]=>Cr
 |n::ns=>B8 Co<|Sl ns
def KO{n:Nat}{T:lB}(F:Fun K "law" "law" CI f fd) (c:VCal P w K mg base n "_law_deal" oZ JA) (p:VCal P w K mg base n "_law_game" qB JF) (k:VCal P w K mg base n "_law_saying" qC JH) (u:VCal P w K mg base n "_law_made" qI KM) (j:Hj P w K mg base n "paper_for" oM 200<|KK T) (o:VCal P w K mg base n "_law_draw" oK Mk) (s:VCal P w K mg base n "_law_pile" oV JI) (d:VCal P w K mg base n "_law_right" qJ KN) (y:mg "range" = none) (t:mg "len" = none):FnOk P w K mg base Cm (n+1) f fd oY (Sk K T):=by refine(DV F c p k u j o s d y t).imp ?_;rintro z H Q E ⟨a,ns,rfl,l,r,i,q⟩;refine⟨[.D<|Kg ns],λb=>if b=T then some (.tb #[]) else none,λv _=>v=.D (.bool true),rfl,.cons (HE (xs:=ns.map V.int) l<|Sl ns) .nil,λb m e=>?_,⟨ns,rfl,i,T_ rfl,λ_=>rfl⟩,?_⟩;dsimp only at e;by_cases h:b=T;subst h;rw[T_ rfl]at e;cases e;exact⟨_,r,rfl⟩;rw[O_ h]at e;cases e;rintro x A v B _ _ g rfl;cases RelA.bl g;exact q _
def J0{us:oA kZ}(h:us.length=1):∃a,us=[a]:=by obtain⟨a,t,rfl,h2⟩:=Ec h;rw[cD h2];exact⟨a,rfl⟩
def J1{us:oA kZ}(h:us.length=2):∃b a,us=[b,a]:=by obtain⟨b,t,rfl,h2⟩:=Ec h;obtain⟨a,rfl⟩:=J0 h2;exact⟨b,a,rfl⟩
def J2{us:oA kZ}(h:us.length=3):∃b a a2,us=[b,a,a2]:=by obtain⟨b,t,rfl,h2⟩:=Ec h;obtain⟨a,a2,rfl⟩:=J1 h2;exact⟨b,a,a2,rfl⟩
def J3{us:oA kZ}(h:us.length=4):∃c a a2 b,us=[c,a,a2,b]:=by obtain⟨c,t,rfl,h2⟩:=Ec h;obtain⟨a,a2,b,rfl⟩:=J2 h2;exact⟨c,a,a2,b,rfl⟩
def Sm{us:oA kZ}(h:us.length=5):∃d b a2 c a,us=[d,b,a2,c,a]:=by obtain⟨d,t,rfl,h2⟩:=Ec h;obtain⟨b,a2,c,a,rfl⟩:=J3 h2;exact⟨d,b,a2,c,a,rfl⟩
def Bd(K:lC)(x:Str)(st:lJ):Prop:=∃f fd,PySem.W.nsIn K mainGlobals x=some (some<|.ref f)/\Fun K x x st f fd
def defat(a:PySem.W.nsIn K mainGlobals x=some (some<|.ref f))(l:K.lookup f=some ⟨oc,od,.func<|PySem.W.fnOf x x (Cq st) (B1 st) (Ah st) .none kV bq pm an av ct,e7⟩)(c:PySem.W.codeIn K av x=true)(k:PySem.W.keepIn K (.ref f)=true):Bd K x st:=⟨f,_,a,HB l c k⟩
def Bd.cal(d:Bd K x st)(X:K.In h)(G:h.Ns mainGlobals mg)(ok:∀{f fd},Fun K x x st f fd->FnOk P w K mg base Cm n f fd ps (Dj K ps.length sp))(hb:∀(kV bq pm:kZ) (an:oB lB) (av ct:kZ) (us:oA kZ),us.length=ps.length->bindArgs (PySem.W.fnOf x x (Cq st) (B1 st) (Ah st) .none kV bq pm an av ct) ⟨us,[]⟩=pure (ps.zip us):=by intro _ _ _ _ _ _ us b;first|(obtain⟨c,rfl⟩:=J0 b;rfl)|(obtain⟨c,e,rfl⟩:=J1 b;rfl)|(obtain⟨c,e,a2,rfl⟩:=J2 b;rfl)|(obtain⟨c,e,a2,g,rfl⟩:=J3 b;rfl)|(obtain⟨c,e,a2,g,i,rfl⟩:=Sm b;rfl)):VCal P w K mg base n x ps sp :=
 by obtain⟨f,fd,a,F⟩:=d;exact⟨f,fd,ok F,F.binds hb,F.kp,eJ X G a⟩
def Lm(K:lC)(x:Str)(st:lJ)(v:Int):Prop:=∃f fd T t,PySem.W.nsIn K mainGlobals x=some (some<|.ref f)/\FunD K x x st f fd T/\PySem.W.keepIn K (.ref f)=true/\∃oc od n e7,K.lookup T=some ⟨oc,od,.seq #[.int v t] n,e7⟩
def defad{v:Int}{T:lB}{t:Tok}{m:Nat}{e:kZ}{b:oB lB}{d:oC<|oB kZ}(a:PySem.W.nsIn K mainGlobals x=some (some<|.ref f))(l:K.lookup f=some ⟨oc,od,.func<|PySem.W.fnOf x x (Cq st) (B1 st) (Ah st) (.ref T) kV bq pm an av ct,e7⟩)(c:PySem.W.codeIn K av x=true)(k:PySem.W.keepIn K (.ref f)=true)(g:K.lookup T=some ⟨e,b,.seq #[.int v t] m,d⟩):Lm K x st v:=⟨f,_,T,t,a,⟨_,_,_,_,_,_,_,_,_,rfl,l,c⟩,k,_,_,_,_,g⟩
def Lm.cal{v:Int}(d:Lm K x st v)(X:K.In h)(G:h.Ns mainGlobals mg)(ok:∀{f fd T},FunD K x x st f fd T->FnOk P w K mg base Cm n f fd ps (Dj K ps.length sp))(hb:∀(T:lB) (tk:Tok) (kV bq pm:kZ) (an:oB lB) (av ct:kZ) (us:oA kZ),us.length+1=ps.length->∃k,bindArgs (PySem.W.fnOf x x (Cq st) (B1 st) (Ah st) (.ref T) kV bq pm an av ct) ⟨us,[]⟩=seqItems? (.ref T)>>=k/\k (some #[.int v tk])=pure (ps.zip<|us++[.int v tk]):=by intro _ _ _ _ _ _ _ _ us b;first|(obtain⟨c,rfl⟩:=J0<|eY b;exact⟨_,rfl,rfl⟩)|(obtain⟨c,e,rfl⟩:=J1<|eY b;exact⟨_,rfl,rfl⟩)|(obtain⟨c,e,a2,rfl⟩:=J2<|eY b;exact⟨_,rfl,rfl⟩)|(obtain⟨c,e,a2,g,rfl⟩:=J3<|eY b;exact⟨_,rfl,rfl⟩)):Hj P w K mg base n x ps v sp :=
 by obtain⟨f,fd,T,t,a,F,k,_,_,_,_,l⟩:=d;exact⟨f,fd,t,ok F,F.binds l<|hb T t,k,eJ X G a⟩
def Lm.calF{v:Int}(d:Lm K x st v)(X:K.In h)(G:h.Ns mainGlobals mg)(ok:∀{f fd T},FunD K x x st f fd T->FnOk P w K mg base Cm n f fd ps (Dj K ps.length sp))(hb:∀(T:lB) (tk:Tok) (kV bq pm:kZ) (an:oB lB) (av ct:kZ) (us:oA kZ),us.length=ps.length->∃k,bindArgs (PySem.W.fnOf x x (Cq st) (B1 st) (Ah st) (.ref T) kV bq pm an av ct) ⟨us,[]⟩=seqItems? (.ref T)>>=k/\k (some #[.int v tk])=pure (ps.zip us):=by intro _ _ _ _ _ _ _ _ us b;first|(obtain⟨c,rfl⟩:=J0 b;exact⟨_,rfl,rfl⟩)|(obtain⟨c,e,rfl⟩:=J1 b;exact⟨_,rfl,rfl⟩)|(obtain⟨c,e,a2,rfl⟩:=J2 b;exact⟨_,rfl,rfl⟩)|(obtain⟨c,e,a2,g,rfl⟩:=J3 b;exact⟨_,rfl,rfl⟩)|(obtain⟨c,e,a2,g,m,rfl⟩:=Sm b;exact⟨_,rfl,rfl⟩)):VCal P w K mg base n x ps sp:=by obtain⟨f,fd,T,tk,a,F,k,_,_,_,_,l⟩:=d;refine⟨f,fd,ok F,λs us X b=>?_,k,eJ X G a⟩;obtain⟨_,_,kV,bq,pm,an,av,ct,_,rfl,j,i⟩:=F.ex;rw[cP]at b ⊢;obtain⟨k,h1,h2⟩:=hb T tk kV bq pm an av ct us b;exact .of_defaults rfl (X _ _ l) rfl h1 h2
def Bd.calP{y:Str}{g:lJ}{ps2:oA Str}(d:Bd K x st)(p:Bd K y g)(X:K.In h)(G:h.Ns mainGlobals mg)(ok:∀{f fd i k},Fun K x x st f fd->Fun K y y g i k->Binds K fd ps []->PySem.W.keepIn K (.ref f)=true->mg x=some (.ref f)->Binds K k ps2 []->PySem.W.keepIn K (.ref i)=true->mg y=some (.ref i)->FnOk P w K mg base Cm n f fd ps (Dj K ps.length sp))(hb:∀(kV bq pm:kZ) (an:oB lB) (av ct:kZ) (us:oA kZ),us.length=ps.length->bindArgs (PySem.W.fnOf x x (Cq st) (B1 st) (Ah st) .none kV bq pm an av ct) ⟨us,[]⟩=pure (ps.zip us):=by intro _ _ _ _ _ _ us b;first|(obtain⟨c,rfl⟩:=J0 b;rfl)|(obtain⟨c,e,rfl⟩:=J1 b;rfl)|(obtain⟨c,e,a2,rfl⟩:=J2 b;rfl)|(obtain⟨c,e,a2,j,rfl⟩:=J3 b;rfl)|(obtain⟨c,e,a2,j,o,rfl⟩:=Sm b;rfl))(m:∀(kV bq pm:kZ) (an:oB lB) (av ct:kZ) (us:oA kZ),us.length=ps2.length->bindArgs (PySem.W.fnOf y y (Cq g) (B1 g) (Ah g) .none kV bq pm an av ct) ⟨us,[]⟩=pure (ps2.zip us):=by intro _ _ _ _ _ _ us b;first|(obtain⟨c,rfl⟩:=J0 b;rfl)|(obtain⟨c,e,rfl⟩:=J1 b;rfl)|(obtain⟨c,e,a2,rfl⟩:=J2 b;rfl)|(obtain⟨c,e,a2,j,rfl⟩:=J3 b;rfl)|(obtain⟨c,e,a2,j,o,rfl⟩:=Sm b;rfl)):VCal P w K mg base n x ps sp :=
 by obtain⟨f,fd,a,F⟩:=d;obtain⟨i,k,a2,l⟩:=p;exact⟨f,fd,ok F l (F.binds hb) F.kp (eJ X G a) (l.binds m) l.kp<|eJ X G a2,F.binds hb,F.kp,eJ X G a⟩
def FH(K:lC)(x:Str)(st:lJ)(v:Int)(T:lB):Prop:=∃f fd D t c,PySem.W.nsIn K mainGlobals x=some (some<|.ref f)/\(FunD K x x st f fd D/\fd.code=.ref c)/\PySem.W.keepIn K (.ref f)=true/\PySem.W.codeHdIn K c T=true/\K.lookup T=none/\∃oc od n e7,K.lookup D=some ⟨oc,od,.seq #[.int v t] n,e7⟩
def defac{v:Int}{D T c:lB}{t:Tok}{m:Nat}{j:kZ}{b:oB lB}{i:oC<|oB kZ}(a:PySem.W.nsIn K mainGlobals x=some (some<|.ref f))(l:K.lookup f=some ⟨oc,od,.func<|PySem.W.fnOf x x (Cq st) (B1 st) (Ah st) (.ref D) kV bq pm an (.ref c) ct,e7⟩)(e:PySem.W.codeIn K (.ref c) x=true)(k:PySem.W.keepIn K (.ref f)=true)(o:K.lookup D=some ⟨j,b,.seq #[.int v t] m,i⟩)(d:PySem.W.codeHdIn K c T=true)(g:K.lookup T=none):FH K x st v T:=⟨f,_,D,t,c,a,⟨⟨_,_,_,_,_,_,_,_,_,rfl,l,e⟩,rfl⟩,k,d,g,_,_,_,_,o⟩
end
def all_mk{l:PySem.W.OpenLaw}{w:lE}{K:lC}{h:lH}{j:Str->oB kZ}{fa T:lB}(X:K.In h)(G:h.Ns mainGlobals j)(hfa:j "law" = some (.ref fa))
  {t1 t2:Tok}
  (d1:Bd K "rules_at" UH)
  (d2:Bd K "rules_here" XX)
  (d3:Bd K "behind" XY)
  (d4:Bd K "reads" XZ)
  (d5:Bd K "reading_with" UI)
  (d6:Bd K "is_in" YA)
  (d7:Bd K "brings_within" YB)
  (d8:Bd K "least_moves" YC)
  (d9:Bd K "brings" OX)
  (d10:Bd K "moves_bring" KU)
  (d11:Bd K "as_bits" YD)
  (d12:Bd K "as_stands" UJ)
  (d13:Bd K "has_within" YE)
  (d14:Bd K "least_alone" YF) (Z:Bd K "thinned" YG)
  (d16:Bd K "one_of_any" YH)
  (d17:Bd K "one_of_each" YI)
  (d18:Bd K "each_with_each" YJ)
  (d19:Bd K "arrows_by_top" YK)
  (d20:Bd K "readings_by" OY)
  (o:Lm K "machine" UK 200)
  (d22:Bd K "how_many" UL)
  (d23:Bd K "as_arrows" UM)
  (d24:Bd K "following" OZ)
  (d25:Bd K "rules_by_top" YL)
  (d26:Bd K "keep_cheapest" PB)
  (d27:Bd K "not_kept" PD)
  (d28:FH K "paper_for" UN 200 T)
  (d29:Bd K "why_of" PF)
  (d30:Bd K "triple_within" UO)
  (d31:Bd K "row_within" UP) (J:Bd K "least_cost" YM)
  (d33:Bd K "best_layers" YN) (M:Bd K "best_rows" PH)
  (d35:Bd K "_law_deal" PJ)
  (d36:Bd K "_law_draw" YO) (V:Bd K "_law_names" UQ)
  (d38:Bd K "_law_rule" PK)
  (d39:Bd K "_law_rules" UR)
  (d40:Bd K "_law_game" US)
  (d41:Bd K "_law_some" UT)
  (d42:Bd K "_law_saying" YQ)
  (d43:Bd K "_law_pile" UU) (L:Bd K "_law_right" YR)
  (d45:Bd K "_law_made" YS) (N:Bd K "law" CI)
  (f8:PySem.W.nsIn K mainGlobals "enumerate" = some none)
  (r9:PySem.W.nsIn K mainGlobals "len" = some none)
  (gx:PySem.W.nsIn K mainGlobals "reversed" = some none)
  (uh:PySem.W.nsIn K mainGlobals "all" = some none)
  (kj:PySem.W.nsIn K mainGlobals "range" = some none)
  (t8:PySem.W.nsIn K mainGlobals "any" = some none)
  (ka:PySem.W.nsIn K mainGlobals "tuple" = some none)
  (i8:PySem.W.nsIn K mainGlobals "sorted" = some none)
  (qt:PySem.W.nsIn K mainGlobals "set" = some none)
  (um:PySem.W.nsIn K mainGlobals "max" = some none)
  (ni:PySem.W.nsIn K mainGlobals "list" = some none)
  (ud:PySem.W.nsIn K mainGlobals "sum" = some none)
  (sk:PySem.W.nsIn K mainGlobals "min" = some none)
  (uv:PySem.W.nsIn K mainGlobals "int" = some none)
  (p3:PySem.W.nsIn K mainGlobals "zip" = some none)
  (y1:PySem.W.nsIn K mainGlobals "OTHER_HAND" = some (some<|.int 1 t1))
  (y2:PySem.W.nsIn K mainGlobals "MOST_MOVES" = some (some<|.int 6 t2)) :
  ∃(c:lB) (fd:lK),PySem.W.codeHdIn K c T=true/\K.lookup T=none/\(∀(s:k_) (v:kZ),BindsTo s fd ⟨[v],[]⟩ [("_law_script",v)])/\∀base:lH,K.In base->base.Ns mainGlobals j->PySem.W.CodeHd base c T->base.BuiltinsAt j T->FnOk l.prog w K j base Cm 65 fa fd oY (Sk K T):=by
 have C:=bM X G f8;have d:=bM X G r9;have a7:=bM X G gx;have H:=bM X G uh;have g:=bM X G kj;have dh:=bM X G t8;have f:=bM X G ka;have m:=bM X G i8;have lj:=bM X G qt;have cu:=bM X G um;have D:=bM X G ni;have je:=bM X G ud;have ie:=bM X G sk;have fm:=bM X G uv;have jd:=bM X G p3;have R:=eJ X G y1;have yb:=eJ X G y2;obtain⟨fT,fdT,DT,tT,c,aT,⟨FT,cy⟩,kT,hc,t7,_,_,_,_,lT⟩:=d28;obtain⟨f0,fd0,u,F0⟩:=N;have e:=hfa.symm.trans<|eJ X G u;cases e;refine⟨c,fd0,hc,t7,λs v=>?_,λbase _ _ hC hB=>?_⟩;obtain⟨_,_,_,_,_,_,_,_,_,rfl,_,_⟩:=F0.ex;exact .of_eq rfl;have q1:=d1.cal (P:=l.prog) (w:=w) (base:=base) X G λF=>QU (n:=0) F C;have q2:=d2.cal (P:=l.prog) (w:=w) (base:=base) X G λF=>QV (n:=1) F (q1.mono<|by decide) d;have q3:=d3.cal (P:=l.prog) (w:=w) (base:=base) X G λF=>QY (n:=0) F;have q5:=d5.cal (P:=l.prog) (w:=w) (base:=base) X G λF=>QR (n:=0) F H;have q4:=d4.cal (P:=l.prog) (w:=w) (base:=base) X G λF=>QS (n:=1) F (q5.mono<|by decide) a7;have q6:=d6.cal (P:=l.prog) (w:=w) (base:=base) X G λF=>QT (n:=2) F (q4.mono<|by decide);have q9:=d9.calP (P:=l.prog) (w:=w) (base:=base) (ps2:=oJ) d10 X G λF F2 b k a b2 k2 a2=>JO (n:=3) F F2 b k a b2 k2 a2 (q6.mono<|by decide) (q2.mono<|by decide) (q3.mono<|by decide) H d dh R;have q7:=d7.cal (P:=l.prog) (w:=w) (base:=base) X G λF=>RC (n:=17) F (q9.mono<|by decide);have q8:=d8.cal (P:=l.prog) (w:=w) (base:=base) X G λF=>RF (n:=17) F (q9.mono<|by decide) g yb;have B:=d11.cal (P:=l.prog) (w:=w) (base:=base) X G λF=>RG (n:=0) F;have x:=d12.cal (P:=l.prog) (w:=w) (base:=base) X G λF=>RI (n:=0) F f g;have zx:=d13.cal (P:=l.prog) (w:=w) (base:=base) X G λF=>RM (n:=0) F;have y6:=d14.cal (P:=l.prog) (w:=w) (base:=base) X G λF=>RN (n:=1) F (zx.mono<|by decide) m;have wk:=Z.cal (P:=l.prog) (w:=w) (base:=base) X G λF=>RO (n:=2) F (y6.mono<|by decide) m lj;have q16:=d16.cal (P:=l.prog) (w:=w) (base:=base) X G λF=>RS (n:=3) F (wk.mono<|by decide);have O:=d18.cal (P:=l.prog) (w:=w) (base:=base) X G λF=>RK (n:=0) F cu D;have z:=d17.cal (P:=l.prog) (w:=w) (base:=base) X G λF=>RP (n:=3) F (wk.mono<|by decide) (O.mono<|by decide);have t:=d19.cal (P:=l.prog) (w:=w) (base:=base) X G λF=>RU (n:=1) F (B.mono<|by decide);have q20:=d20.cal (P:=l.prog) (w:=w) (base:=base) X G λF=>SA (n:=4) F (B.mono<|by decide) (x.mono<|by decide) (wk.mono<|by decide) (z.mono<|by decide) d;have p:=d27.cal (P:=l.prog) (w:=w) (base:=base) X G λF=>SE (n:=1) F (zx.mono<|by decide) d;have S:=d25.cal (P:=l.prog) (w:=w) (base:=base) X G λF=>RW (n:=0) F;have y:=d24.cal (P:=l.prog) (w:=w) (base:=base) X G λF=>SC (n:=5) F (S.mono<|by decide) (q20.mono<|by decide) (z.mono<|by decide) (q16.mono<|by decide) R;have q:=d22.cal (P:=l.prog) (w:=w) (base:=base) X G λF=>SH (n:=0) F je d;have r:=d26.cal (P:=l.prog) (w:=w) (base:=base) X G λF=>SM (n:=0) F ie;have A:=d23.cal (P:=l.prog) (w:=w) (base:=base) X G λF=>SO (n:=1) F (x.mono<|by decide);have r21:=o.calF (P:=l.prog) (w:=w) (base:=base) X G λF=>FG (n:=6) F (t.mono<|by decide) (y6.mono<|by decide) (p.mono<|by decide) (y.mono<|by decide) (q.mono<|by decide) (r.mono<|by decide) (A.mono<|by decide) d f m;have q21:=o.cal (P:=l.prog) (w:=w) (base:=base) X G λF=>FG (n:=6) F (t.mono<|by decide) (y6.mono<|by decide) (p.mono<|by decide) (y.mono<|by decide) (q.mono<|by decide) (r.mono<|by decide) (A.mono<|by decide) d f m;have q31:=d31.cal (P:=l.prog) (w:=w) (base:=base) X G λF=>SW (n:=0) F C H;have q30:=d30.cal (P:=l.prog) (w:=w) (base:=base) X G λF=>SZ (n:=1) F (q31.mono<|by decide) d C f;have q29:=d29.cal (P:=l.prog) (w:=w) (base:=base) X G λF=>TH (n:=2) F (q1.mono<|by decide) (q30.mono<|by decide) R f;have Q:Hj l.prog w K j base 11 "paper_for" oM 200 _:=⟨_,_,tT,TM (P:=l.prog) (w:=w) (n:=7) FT cy hC hB (r21.mono<|by decide) (q29.mono<|by decide) m f,FT.binds lT λ_ _ _ _ _ _ us E=>by(first|(obtain⟨u,rfl⟩:=J0<|eY E;exact⟨_,rfl,rfl⟩)|(obtain⟨u,a1,rfl⟩:=J1<|eY E;exact⟨_,rfl,rfl⟩)|(obtain⟨u,a1,a2,rfl⟩:=J2<|eY E;exact⟨_,rfl,rfl⟩)|(obtain⟨u,a1,a2,a3,rfl⟩:=J3<|eY E;exact⟨_,rfl,rfl⟩)),kT,eJ X G aT⟩;have q34:=M.cal (P:=l.prog) (w:=w) (base:=base) X G λF=>TU (n:=0) F C H cu;have q33:=d33.cal (P:=l.prog) (w:=w) (base:=base) X G λF=>TW (n:=1) F (q34.mono<|by decide) a7 D;have Y:=J.cal (P:=l.prog) (w:=w) (base:=base) X G λF=>TZ (n:=2) F (q33.mono<|by decide);have q35:=d35.cal (P:=l.prog) (w:=w) (base:=base) X G λF=>PR (n:=0) F cu D a7;have i:=d36.cal (P:=l.prog) (w:=w) (base:=base) X G λF=>PM (n:=0) F d;have I:=V.cal (P:=l.prog) (w:=w) (base:=base) X G λF=>PY (n:=1) F (i.mono<|by decide) g d fm;have q38:=d38.cal (P:=l.prog) (w:=w) (base:=base) X G λF=>QC (n:=1) F (i.mono<|by decide) d f g;have q39:=d39.cal (P:=l.prog) (w:=w) (base:=base) X G λF=>QF (n:=2) F (q38.mono<|by decide) g d f;have q40:=d40.cal (P:=l.prog) (w:=w) (base:=base) X G λF=>QH (n:=3) F (i.mono<|by decide) (I.mono<|by decide) (q39.mono<|by decide) g fm d f jd;have q41:=d41.cal (P:=l.prog) (w:=w) (base:=base) X G λF=>QL (n:=1) F (i.mono<|by decide) f;have q42:=d42.cal (P:=l.prog) (w:=w) (base:=base) X G λF=>QM (n:=2) F (i.mono<|by decide) (q41.mono<|by decide) d D g f m;have q43:=d43.cal (P:=l.prog) (w:=w) (base:=base) X G λF=>QO (n:=1) F (i.mono<|by decide) f g d;have q44:=L.cal (P:=l.prog) (w:=w) (base:=base) X G λF=>UB (n:=18) F (Y.mono<|by decide) (q8.mono<|by decide) (q4.mono<|by decide) (q7.mono<|by decide);have U:=d45.cal (P:=l.prog) (w:=w) (base:=base) X G λF=>UA (n:=7) F (q21.mono<|by decide);exact(KO (n:=19) F0 (q35.mono<|by decide) (q40.mono<|by decide) (q42.mono<|by decide) (U.mono<|by decide) (Q.mono<|by decide) (i.mono<|by decide) (q43.mono<|by decide) (q44.mono<|by decide) g d).mono<|by decide
def walk{l:PySem.W.OpenLaw}{q:lD}{r:oA Str}{v:(Str->oB kZ)->lH->Prop}{g:lE->lH->Prop}{d:DefRec}{K:Params->lC}{T:lB}(hn:l.most=some 63)(y:d.params.defaults=[])
  (z:∀(w:lE) (h:lH),g w h->(K w.params).In h) (i:∀(w:lE) (h:lH),g w h->h.get? T=some (PySem.W.tabObj #[])) (F:∀(w:lE) (e:Str->oB kZ) (m:lB) (h:lH),(K w.params).In h->h.Ns mainGlobals e->e d.name=some (.ref m) ->
   ∃(c:lB) (j:lK),PySem.W.codeHdIn (K w.params) c T=true/\(K w.params).lookup T=none/\(∀(s:k_) (u:kZ),BindsTo s j ⟨[u],[]⟩ [("_law_script",u)])/\∀b:lH,(K w.params).In b->b.Ns mainGlobals e->PySem.W.CodeHd b c T->b.BuiltinsAt e T->FnOk l.prog w (K w.params) e b Cm 65 m j oY (Sk (K w.params) T)) :
  PySem.W.WalkO q r v g l.row.toRowW d [] (λf t=>PySem.call f t) :=
 X6 (n:=63) (k:=65) (x := "_law_script") (sp:=Sk) hn (by decide) y ⟨rfl,by decide,by decide,rfl⟩ z i F λ_ _ _ a ns o i p=>⟨a,ns,rfl,p,i,o,λ_=>rfl⟩
end K45
namespace PySem.W.Fast
def tw14693463385350714550:True:=trivial
def tw13350884914633806026:True:=trivial
def tw5539036990043809706:True:=trivial
def tw1838428320867756699:True:=trivial
def tw16005434992337932518:True:=trivial
def tw15728464814101568513:True:=trivial
def tw6695014431408616792:True:=trivial
def tw10568135779450024904:True:=trivial
def tw7627530258475627323:True:=trivial
def tw2602893820781634993:True:=trivial
def tw10636307270363506479:True:=trivial
def tw12374514327900929038:True:=trivial
def tw9960443813956931384:True:=trivial
def tw5804246346414698571:True:=trivial
def tw3077025244953464074:True:=trivial
def tw15216775220287093976:True:=trivial
def tw5899609901013702277:True:=trivial
def tw13204958980264162893:True:=trivial
def tw4942567611343615979:True:=trivial
def tw5169657931479923237:True:=trivial
def tw9529126456596159148:True:=trivial
def tw15602624054948317146:True:=trivial
def tw486076263549485618:True:=trivial
def tw12660697354188778551:True:=trivial
def tw12741221638274586172:True:=trivial
def tw7324711262454542562:True:=trivial
def tw16861660586670923962:True:=trivial
def tw11650273058144101446:True:=trivial
def tw15961201716618312002:True:=trivial
def tw15088765257807305524:True:=trivial
def tw968869777999376387:True:=trivial
def tw13741928547245152499:True:=trivial
def tw14239832534924121527:True:=trivial
def tw544948880860738763:True:=trivial
def tw16928938196578651540:True:=trivial
def tw15506349470896912202:True:=trivial
def tw11595342105581224189:True:=trivial
def tw17951719331618326171:True:=trivial
def tw4123132096910355826:True:=trivial
def tw5917899425006918449:True:=trivial
def tw7494093535695878398:True:=trivial
def tw3761765652966481664:True:=trivial
def tw3343447605208333362:True:=trivial
def tw12604004461678262679:True:=trivial
def tw9684818975238028666:True:=trivial
def tw12995121055273474795:True:=trivial
def tw3281448650476513598:True:=trivial
def tw17104398986961602892:True:=trivial
def tw2277371297805564757:True:=trivial
def tw14356709198643103664:True:=trivial
def tw1771262400973887543:True:=trivial
def tw7600291715473816962:True:=trivial
def tw2627995512288059194:True:=trivial
def tw6049210225532162697:True:=trivial
def tw5672510024436845888:True:=trivial
def tw8300166005833217937:True:=trivial
def tw13154627381537285344:True:=trivial
def tw12353074431492972747:True:=trivial
def tw15748448990185337077:True:=trivial
def tw9041152796344068273:True:=trivial
def tw10755977634485148592:True:=trivial
def tw9052912640568119758:True:=trivial
def tw11561727198889431467:True:=trivial
def tw14885220829966628526:True:=trivial
def tw1440931492007417873:True:=trivial
def tw5798054060932238680:True:=trivial
def tw12523287176632705069:True:=trivial
def tw15189150530917748114:True:=trivial
def tw10225069896435720772:True:=trivial
def tw9570626179825997833:True:=trivial
def tw15206788441974605819:True:=trivial
def tw5124606979258922082:True:=trivial
def tw4046549570902045833:True:=trivial
def tw5217221663692168637:True:=trivial
def tw10743221710699457082:True:=trivial
def tw13972268334089726598:True:=trivial
def tw2606043812448021400:True:=trivial
def tw5088016588748970111:True:=trivial
def tw6217360226867323384:True:=trivial
def tw3176921277547935350:True:=trivial
def tw18109687778635684440:True:=trivial
def tw18295421954188437515:True:=trivial
def tw3216590210661034589:True:=trivial
def tw7114948145552748072:True:=trivial
def tw12460906982654703766:True:=trivial
def tw11429906269576879319:True:=trivial
def tw14369603051635988474:True:=trivial
def tw16837439174687789190:True:=trivial
def tw9876122311378023014:True:=trivial
def tw9180835130619209933:True:=trivial
def tw6885574156896227557:True:=trivial
def tw14639355770209299316:True:=trivial
def tw15668574068016715922:True:=trivial
def tw4528675913665970423:True:=trivial
def tw15567944577655144756:True:=trivial
def tw9057268404358466261:True:=trivial
def tw4511351327736646931:True:=trivial
def tw6158860897867430121:True:=trivial
def tw14427104302742131243:True:=trivial
def tw13394404555708761207:True:=trivial
def tw1151543940431820536:True:=trivial
def tw7745615325843167786:True:=trivial
def tw387689172900773102:True:=trivial
def tw14937430819253746557:True:=trivial
def tw7881602997007605982:True:=trivial
def tw3810783795524468442:True:=trivial
def tw16680114587348227156:True:=trivial
def tw6421561191666496564:True:=trivial
def tw17649082672996754344:True:=trivial
def tw11944292575964982120:True:=trivial
def tw7944785227397684525:True:=trivial
def tw10912896316506402913:True:=trivial
def tw6013470022078967459:True:=trivial
def tw9755476579890537978:True:=trivial
end PySem.W.Fast
open PySem PySem.W PyProof.Rows
set_option maxRecDepth 100000 in
set_option maxHeartbeats 0 in
theorem PySem.Challenge.cw_pileduel_k45_whole_within_and_machine_holds : PySem.Challenge.rw_pileduel_k45_whole_within_and_machine.Holds := by
 w_on;o_law;k_head;(case hw=>w_witness2)
 k_fill
 refine K45.walk (l:=PySem.Challenge.rw_pileduel_k45_whole_within_and_machine) rfl rfl (fun w h Y=>PySem.W.km_in_of Y) (fun w h Y=>PySem.W.km_tabs_of Y _ (.head _)) ?F
 case F =>
  intro w mg fa h KX G hmg
  refine' K45.all_mk KX G hmg ?_ ?_ ?_ ?_ ?_ ?_ ?_ ?_ ?_ ?_ ?_ ?_ ?_ ?_ ?_ ?_ ?_ ?_ ?_ ?_ ?_ ?_ ?_ ?_ ?_ ?_ ?_ ?_ ?_ ?_ ?_ ?_ ?_ ?_ ?_ ?_ ?_ ?_ ?_ ?_ ?_ ?_ ?_ ?_ ?_ ?_ ?_ ?_ ?_ ?_ ?_ ?_ ?_ ?_ ?_ ?_ ?_ ?_ ?_ ?_ ?_ ?_ ?_
  all_goals first | (refine' K45.defat ?a ?l ?c ?k;(case a=>k_is);(case l=>k_is);(case c=>k_is);(case k=>k_is)) | (refine' K45.defad ?a ?l ?c ?k ?l2;(case a=>k_is);(case l=>k_is);(case c=>k_is);(case k=>k_is);(case l2=>k_is)) | (refine' K45.defac ?a ?l ?c1 ?k ?l2 ?l3 ?l4;(case a=>k_is);(case l=>k_is);(case c1=>k_is);(case k=>k_is);(case l2=>k_is);(case l3=>kernel_rfl);(case l4=>kernel_rfl)) | k_is | skip
