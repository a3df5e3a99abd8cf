import PyProof.Rows.All
import Wide.All
import OpenK.AllK
import Wide.FinOn
import Lean
import PyProof.EqAt
import PyProof.EqKinds
import PyProof.TupleCall
import PyProof.CompFree
import PyProof.CompUse
import PyProof.CollectIter
import PyProof.ListNew
import KE.KRevIter
import PyProof.EnumMake
import PyProof.Draws
import PyProof.TupleIter
import PyProof.WalksMore
import PyProof.ReprRoads
import PyProof.P3Eq
import PyProof.NeData
import PyProof.EqLayable
import PyProof.Rows.RegFStrParts
import PyProof.AutoListH
import KE.KItemsList
import KE.KDictList
import PyProof.StrBlockG
import PyProof.StrLawsOcc
import PyProof.StrLawsTight
import PyProof.StrLawsChain
import PyProof.Rows.Range3
import PyProof.MinMaxWalk
import PyProof.WalkInts
import PyProof.ExcClass3
import PyProof.ExcInit
import PyProof.InstStoreFacts
import PyProof.ExcArgsOwn
import KE.KIsAll
import PyProof.RaisesMany
import PyProof.RulesTry
import PyProof.Raises
import PyProof.RulesAs
import PyProof.NsDelKeeps
import PyProof.PassesOwn
import PyProof.Rows.CatchHere
import KE.KSortTup
import PyProof.FactsAll.tuple_2
import PyProof.TupleKey
import PyProof.Rows.RowHeap
import PyProof.SetKind
import PyProof.SetNew
import PyProof.DictIter
import PyProof.CollectWalk
import PyProof.Walks
import PyProof.ZipIter
import KE.KRevSl
import KE.KStateDown
import PyProof.SetRoads
import PyProof.SumWalk
import PyProof.CallStr
import PyProof.FactsAll.tuple_3
import PyProof.StrLawsIn
import PyProof.Rows.RuleM_int
import PyProof.FactsAll.dict_3
import KE.KItemsList
import PyProof.Rows.TupDisplay
import PyProof.FactsAll.dict_itemiterator_1
import PySem.Challenge.RW_pileduel_k24_what_follows
set_option Elab.async false
set_option linter.all false
set_option maxRecDepth 100000
abbrev A_:=@PySem.wpAny_bind
abbrev B_:=@List.length_map
abbrev C_:=@PySem.wpAny_pure
abbrev DD:=@PySem.Heap.get?_push_of_some
abbrev D_:=@List.mem_map
abbrev E_:=@Nat.le_refl
abbrev F_:=@List.getElem?_eq_some_iff
abbrev G_:=@Nat.le_trans
abbrev H_:=@List.getElem?_map
abbrev I_:=@List.length_append
abbrev J_:=@if_neg
abbrev K_:=@Option.map_eq_some_iff
abbrev L_:=@Bool.false_ne_true
abbrev M_:=@List.getElem?_eq_getElem
abbrev N_:=@PySem.Heap.lt_size
abbrev O_:=@List.mem_append
abbrev P_:=@List.mem_singleton
abbrev Q_:=@if_pos
abbrev R_:=@PySem.Heap.get?_push_size
abbrev S_:=@List.map_append
abbrev T_:=@PyProof.Rows.wpS_bind
abbrev U_:=@Nat.lt_of_lt_of_le
abbrev V_:=@Array.getElem?_toList
abbrev W_:=@Nat.ne_of_lt
abbrev XJ:=@List.mem_cons
abbrev XM:=@PyProof.Rows.wpS_pure
abbrev XN:=@List.mem_cons_of_mem
abbrev XO:=@List.mem_of_getElem?
abbrev XQ:=@Nat.zero_le
abbrev XS:=@List.size_toArray
abbrev XT:=@List.mem_cons_self
abbrev XU:=@Array.length_toList
abbrev XV:=@List.map_map
abbrev XW:=@Array.getElem?_eq_getElem
abbrev XX:=@PySem.PassesOwn.never
abbrev XY:=@List.map_cons
abbrev XZ:=@List.mem_range
abbrev X_:=@List.length_take
abbrev YA:=@List.length_cons
abbrev YB:=@List.take_length
abbrev YC:=@List.take_succ
abbrev YD:=@of_decide_eq_true
abbrev YE:=@Nat.eq_or_lt_of_le
abbrev YF:=@PySem.wpAny_newObj_type
abbrev YG:=@Nat.le_add_right
abbrev YH:=@decide_eq_false
abbrev YI:=@PySem.W.mg_of
abbrev YJ:=@PySem.wpAny_setState_of
abbrev YK:=@List.mem_append_right
abbrev YL:=@decide_eq_true
abbrev YM:=@Nat.le_of_lt
abbrev YN:=@Array.getD_eq_getD_getElem?
abbrev YO:=@Option.some.inj
abbrev YQ:=@Array.size_reverse
abbrev YR:=@List.getD_eq_getElem?_getD
abbrev YS:=@PySem.wpAny_call_entry
abbrev YT:=@PySem.Heap.SameBut.update
abbrev YU:=@List.mem_filter
abbrev YV:=@List.drop_eq_getElem_cons
abbrev YW:=@Classical.byContradiction
abbrev YX:=@Nat.le_succ_of_le
abbrev YY:=@Nat.add_sub_cancel'
abbrev YZ:=@Nat.lt_trans
abbrev Y_:=@Nat.lt_or_ge
abbrev ZA:=@PySem.F.slot_list_append
abbrev ZB:=@PySem.F.type_list_append
abbrev ZC:=@Bool.and_eq_true
abbrev ZD:=@List.getElem?_eq_none
abbrev ZE:=@List.foldl_cons
abbrev ZF:=@PySem.wpAny_holding
abbrev ZG:=@List.mem_flatMap
abbrev ZH:=@Nat.le_of_lt_succ
abbrev ZI:=@Nat.lt_of_succ_lt
abbrev ZJ:=@List.pairwise_map
abbrev ZK:=@List.length_range
abbrev ZL:=@Nat.lt_of_le_of_lt
abbrev ZM:=@List.length_filter_le
abbrev ZN:=@Nat.le_of_not_lt
abbrev ZO:=@Exists.elim
abbrev ZP:=@List.mem_append_left
abbrev ZQ:=@PyProof.Rows.wpS_forRange
abbrev ZR:=@Int.natCast_nonneg
abbrev ZS:=@PySem.Calls.spliced_cons
abbrev ZT:=@PyProof.Rows.slot_tuple_getitem
abbrev ZU:=@PySem.Heap.get?_update_self
abbrev ZV:=@List.nodup_cons
abbrev ZW:=@PySem.wpAny_mono
abbrev ZX:=@congrArg
abbrev ZY:=@List.getElem?_append_right
abbrev ZZ:=@PySem.wpAny_callSpecial?_slot
abbrev Z_:=@PySem.boot_len
abbrev aA:=@PyProof.Rows.boot_tuple
abbrev aB:=@PySem.Paired.length
abbrev aC:=@PySem.Calls.spliced_nil
abbrev aD:=@List.mem_of_mem_take
abbrev aE:=@decide_eq_true_iff
abbrev aF:=@PySem.W.mg_none_of
abbrev aG:=@List.append_nil
abbrev aH:=@List.lookup_cons
abbrev aJ:=@Nat.lt_succ_self
abbrev aK:=@PySem.F.slot_list_extend
abbrev aL:=@PySem.F.type_list_extend
abbrev aM:=@Nat.add_lt_add_left
abbrev aN:=@Array.toList_append
abbrev aO:=@PyProof.Rows.callWith_type1
abbrev aP:=@Nat.lt_succ_of_lt
abbrev aQ:=@List.append_assoc
abbrev aR:=@PySem.wpAny_Call_Name_kw
abbrev aS:=@Nat.lt_irrefl
abbrev aT:=@Array.getElem?_eq_none
abbrev aU:=@List.getElem?_append_left
abbrev aV:=@PyProof.Rows.wpS_mono
abbrev aW:=@PySem.wpAny_rule
abbrev aX:=@List.map_congr_left
abbrev aY:=@List.nodup_append
abbrev aZ:=@List.flatMap_cons
abbrev a_:=@PySem.Heap.size_push
abbrev bA:=@Int.ofNat.inj
abbrev bB:=@Nat.pos_of_ne_zero
abbrev bC:=@List.getElem_mem
abbrev bD:=@Nat.succ_le_succ
abbrev bE:=@Array.toList_reverse
abbrev bF:=@PySem.Around.under_plainId
abbrev bG:=@List.any_cons
abbrev bH:=@Ne.symm
abbrev bI:=@Int.toNat_natCast
abbrev bJ:=@List.nodup_nil
abbrev bK:=@List.pairwise_lt_range
abbrev bL:=@PySem.wpAny_fieldsOf
abbrev bM:=@Nat.add_le_add_left
abbrev bN:=@List.flatMap_append
abbrev bO:=@List.pairwise_iff_getElem
abbrev bP:=@List.take_append_drop
abbrev bQ:=@PySem.wpAny_isInstance
abbrev bR:=@PySem.wpAny_typeNameOfWhole_itemiter
abbrev bS:=@List.eq_nil_of_length_eq_zero
abbrev bT:=@Array.reverse_append
abbrev bU:=@PySem.wpAny_typeNameOfWhole_keyiter
abbrev bV:=@List.ext_getElem?
abbrev bW:=@Nat.succ_le_of_lt
abbrev bX:=@PySem.wpAny_dictEntries
abbrev bY:=@PySem.wpAny_specialOf
abbrev bZ:=@PyProof.Rows.wpS_modify
abbrev b_:=@Nat.not_lt_zero
abbrev cB:=@PySem.codeAny_builtin
abbrev cD:=@List.take_of_length_le
abbrev cF:=@Nat.add_assoc
abbrev cH:=@List.length_drop
abbrev cJ:=@List.all_eq_true
abbrev cK:=@List.any_eq_true
abbrev cL:=@PySem.wpAny_setField_rec
abbrev cN:=@PySem.wpAny_typeNameOf_itemiter
abbrev cP:=@List.exists_mem_of_ne_nil
abbrev cQ:=@PySem.wpAny_passesOwn
abbrev cU:=@Nat.le_succ
abbrev cV:=@List.pairwise_append
abbrev cW:=@Array.map_extract
abbrev cX:=@List.flatten_cons
abbrev cY:=@List.getElem?_take_of_lt
abbrev cZ:=@PySem.plainId_quiet
abbrev c_:=@PyProof.Rows.Reads.keeps
abbrev dA:=@PySem.wpAny_typeNameOf_keyiter
abbrev dB:=@List.filterMap_cons
abbrev dC:=@PySem.mem_of_lookup
abbrev dD:=@List.getElem_of_mem
abbrev dE:=@PyProof.Rows.callWith_builtin1
abbrev dF:=@PySem.isSubtype_type
abbrev dG:=@PySem.wpAny_getItem_str_slice
abbrev dH:=@List.length_eq_zero_iff
abbrev dI:=@List.drop_length
abbrev dJ:=@Array.size_map
abbrev dL:=@PySem.wpAny_forIn_list
abbrev dM:=@List.pairwise_singleton
abbrev dN:=@PySem.wpAny_field
abbrev dO:=@PySem.Calls.callWith_builtin
abbrev dP:=@PySem.Heap.get?_update_other
abbrev dQ:=@PySem.tupleKind_room_in1
abbrev dS:=@Nat.le_of_eq
abbrev dU:=@Array.size_extract
abbrev dW:=@List.pairwise_cons
abbrev dX:=@PySem.wpAny_isOneOf_itemiter
abbrev dY:=@PySem.wpAny_dictEpoch
abbrev dZ:=@PySem.wpAny_attempt
abbrev d_:=@List.map_take
abbrev eA:=@List.length_singleton
abbrev eB:=@PySem.builtinLookup_eq_fast
abbrev eC:=@Array.reverse_reverse
abbrev eD:=@PySem.wpAny_pyIter_list
abbrev eE:=@PySem.wpAny_pyIter_slot
abbrev eG:=@List.foldl_append
abbrev eI:=@PySem.wpAny_seqItems
abbrev eJ:=@List.mem_of_mem_drop
abbrev eK:=@Array.getElem?_eq_some_iff
abbrev eL:=@Nat.mul_le_mul_right
abbrev eM:=@PySem.wpAny_typeOf
abbrev eN:=@List.filter_cons
abbrev eO:=@List.nodup_range
abbrev eQ:=@Nat.succ_pos
abbrev eT:=@Nat.lt_of_not_le
abbrev eU:=@beq_eq_false_iff_ne
abbrev eV:=@PySem.F.args_tuple_add_2
abbrev eW:=@Array.size_setIfInBounds
abbrev eX:=@List.Pairwise.imp_of_mem
abbrev eZ:=@PySem.F.slot_dict_itemiterator_iter
abbrev e_:=@Bool.or_eq_true
abbrev fA:=@Bool.eq_iff_iff
abbrev fB:=@Array.append_assoc
abbrev fC:=@PyProof.Rows.assignInOrder_cons
abbrev fD:=@List.mem_filterMap
abbrev fE:=@Nat.eq_zero_or_pos
abbrev fF:=@List.filter_append
abbrev fG:=@PySem.Obj.data_mapFields
abbrev fH:=@Array.forIn_toList
abbrev fI:=@PySem.F.entry_tuple_add
abbrev fJ:=@PySem.F.plainAttrs_dict
abbrev fK:=@PySem.wpAny_truthy_bool
abbrev fL:=@Nat.ne_of_gt
abbrev fM:=@List.take_sublist
abbrev fN:=@PySem.F.slot_tuple_add
abbrev fO:=@List.reverse_cons
abbrev fP:=@Nat.le_of_succ_le
abbrev fQ:=@PyProof.Rows.wpS_get
abbrev fS:=@List.Perm.append_right
abbrev fU:=@Array.toList_push
abbrev fV:=@PySem.wpAny_storeSet_of
abbrev fW:=@PySem.wpAny_runValue
abbrev fX:=@PySem.eqIsQuiet_byValue
abbrev fY:=@Int.zero_add
abbrev fZ:=@Nat.or_lt_two_pow
abbrev f_:=@List.flatMap_singleton
abbrev gA:=@PySem.F.slot_dict_get
abbrev gB:=@List.getElem?_reverse
abbrev gC:=@PySem.wpAny_notOrdered_dict
abbrev gD:=@PySem.wpAny_isOneOf_keyiter
abbrev gE:=@PyProof.Rows.boot_max
abbrev gF:=@List.contains_iff_mem
abbrev gG:=@beq_self_eq_true
abbrev gH:=@PySem.SeqAt.eqAt_reads
abbrev gI:=@Nat.sub_le
abbrev gJ:=@Array.map_append
abbrev gK:=@List.map_drop
abbrev gL:=@Sum.inl.inj
abbrev gM:=@Prod.ext
abbrev gN:=@PySem.Calls.evalArgs_plain
abbrev gO:=@PySem.wpAny_execs_nil
abbrev gP:=@PySem.typeLookup_type
abbrev gQ:=@PySem.wpAny_updateSeq
abbrev gR:=@PySem.post_val_or_str
abbrev gS:=@PySem.wpAny_ite_split
abbrev gT:=@List.filter_sublist
abbrev gU:=@PySem.codeAny_mono
abbrev gV:=@Nat.sub_self
abbrev gW:=@Nat.add_comm
abbrev gX:=@PySem.wpAny_pyIter_tuple
abbrev gY:=@List.getElem?_drop
abbrev gZ:=@PySem.wpAny_tupleItemsOf
abbrev g_:=@List.Perm.refl
abbrev hJ:=@PySem.wpAny_setField
abbrev h_:=@Int.emod_lt_of_pos
abbrev iA:=@PySem.Paired.snoc
abbrev iB:=@List.getElem?_inj
abbrev iC:=@Array.size_append
abbrev iD:=@List.reverse_perm
abbrev iE:=@Nat.lt_trichotomy
abbrev iF:=@Nat.lt_succ_of_le
abbrev iG:=@List.Pairwise.imp
abbrev iH:=@Bool.false_or
abbrev iI:=@List.sum_cons
abbrev iJ:=@PySem.noFill_tuple_add
abbrev iK:=@PyProof.Rows.wpS_lift
abbrev iL:=@Array.toList_inj
abbrev iM:=@PySem.wpAny_askSetting
abbrev iN:=@Nat.zero_testBit
abbrev iO:=@PySem.call_meets
abbrev iP:=@List.map_nil
abbrev iQ:=@PySem.call_meetsIn
abbrev iR:=@Nat.sub_lt
abbrev iS:=@PySem.wpAny_of_eq
abbrev iT:=@Int.le_refl
abbrev iU:=@Iff.rfl
abbrev iV:=@PySem.Value
abbrev iW:=@PySem.Shared
abbrev iX:=@PySem.PyData
abbrev iY:=@PySem.Addr
abbrev iZ:=@PySem.W.Frag
abbrev i_:=@PySem.Program
abbrev jA:=@PySem.World
abbrev jB:=@PySem.Expr
abbrev jC:=@PySem.Around
abbrev jD:=@PySem.Heap
abbrev jE:=@PySem.Obj
abbrev jF:=@PySem.Stmt
abbrev jG:=@PySem.FuncData
abbrev jH:=@PyProof.Rows.Keyed
abbrev jI:=@PySem.Scope
abbrev jJ:=@PySem.NameKind
abbrev jK:=@PySem.Result
abbrev jL:=@PyProof.Rows.SortSt
abbrev jM:=@PyProof.Rows.SortKind
namespace L2
theorem MF{α:Sort _}{a b:α->Prop}{P:Prop}(h:∃x,a x/\b x)(k:∀x,a x->b x->P):P:=ZO h λx y=>k x y.1 y.2
theorem Cz{α β:Sort _}{a b c:α->β->Prop}{P:Prop}(h:∃x y,a x y/\b x y/\c x y)(k:∀x y,a x y->b x y->c x y->P):P:=ZO h λx h=>ZO h λy h=>k x y h.1 h.2.1 h.2.2
theorem Ca{α β γ:Sort _}{a b c d:α->β->γ->Prop}{P:Prop}(h:∃x y z,a x y z/\b x y z/\c x y z/\d x y z)(k:∀x y z,a x y z->b x y z->c x y z->d x y z->P):P:=ZO h λx h=>ZO h λy h=>ZO h λz h=>k x y z h.1 h.2.1 h.2.2.1 h.2.2.2
theorem Ee{α β γ δ:Sort _}{a b c d e:α->β->γ->δ->Prop}{P:Prop}(h:∃x y z u,a x y z u/\b x y z u/\c x y z u/\d x y z u/\e x y z u)(k:∀x y z u,a x y z u->b x y z u->c x y z u->d x y z u->e x y z u->P):P:=ZO h λx h=>ZO h λy h=>ZO h λz h=>ZO h λu h=>k x y z u h.1 h.2.1 h.2.2.1 h.2.2.2.1 h.2.2.2.2
theorem MG{α β γ δ:Sort _}{a b c d e f:α->β->γ->δ->Prop}{P:Prop}(h:∃x y z u,a x y z u/\b x y z u/\c x y z u/\d x y z u/\e x y z u/\f x y z u)(k:∀x y z u,a x y z u->b x y z u->c x y z u->d x y z u->e x y z u->f x y z u->P):P:=ZO h λx h=>ZO h λy h=>ZO h λz h=>ZO h λu h=>k x y z u h.1 h.2.1 h.2.2.1 h.2.2.2.1 h.2.2.2.2.1 h.2.2.2.2.2
theorem G7{α β γ δ ε ζ:Sort _}{a b c d:α->β->γ->δ->ε->ζ->Prop}{P:Prop}(h:∃x y z u v w,a x y z u v w/\b x y z u v w/\c x y z u v w/\d x y z u v w)(k:∀x y z u v w,a x y z u v w->b x y z u v w->c x y z u v w->d x y z u v w->P):P:=ZO h λx h=>ZO h λy h=>ZO h λz h=>ZO h λu h=>ZO h λv h=>ZO h λw h=>k x y z u v w h.1 h.2.1 h.2.2.1 h.2.2.2
open PySem PySem.Spec PyProof.Rows
abbrev Key:=Sum Int Str
def Ht:Key->iV->Bool
 | .inl k,v=>Value.isInt k v
 | .inr x,v=>Value.isStrOf x v
def GI(w:jA):Key->Int
 | .inl k=>hashInt k
 | .inr x=>hashStr w x
theorem keyIs_shape:∀{k:Key} {v:iV},Ht k v=true->(∃i t,k=Sum.inl i/\v=Value.int i t)\/(∃x t,k=Sum.inr x/\v=Value.str x t)
 | .inl i,v,h=>by
  obtain⟨t,e⟩:=Value.isInt_shape (k:=i) (v:=v) h
  exact .inl ⟨i,t,rfl,e⟩
 | .inr x,v,h=>by
  obtain⟨t,e⟩:=Value.isStrOf_shape (x:=x) (v:=v) h
  exact .inr ⟨x,t,rfl,e⟩
theorem Tz(i:Int)(t:Tok):Ht (.inl i) (.int i t)=true:=by simp [Ht,Value.isInt]
theorem T0(x:Str)(t:Tok):Ht (.inr x) (.str x t)=true:=by simp [Ht,Value.isStrOf]
theorem GJ(a b:Int):decide ((Sum.inl a:Key)=Sum.inl b)=(a==b):=by
 by_cases e:a=b
 ·subst e;simp
 ·have h:¬(Sum.inl a:Key)=Sum.inl b:=λq=>e (gL q)
  rw [YH h]
  exact(eU.mpr e).symm
theorem GK(a b:Str):decide ((Sum.inr a:Key)=Sum.inr b)=decide (a=b):=by
 by_cases e:a=b
 ·subst e;simp
 ·have h:¬(Sum.inr a:Key)=Sum.inr b:=λq=>e (Sum.inr.inj q)
  rw [YH h,YH e]
theorem GL(a:Int)(b:Str):decide ((Sum.inl a:Key)=Sum.inr b)=false:=YH (λq=>nomatch q)
theorem GM(a:Str)(b:Int):decide ((Sum.inr a:Key)=Sum.inl b)=false:=YH (λq=>nomatch q)
def Aw(prog:i_)(w:jA):PySem.KeyKind prog w Key where
 is:=Ht
 hash:=GI w
 inj:=λv a b ha hb=>by
  rcases keyIs_shape ha with⟨i,t,rfl,rfl⟩ | ⟨x,t,rfl,rfl⟩
  ·rcases keyIs_shape hb with⟨j,u,rfl,e⟩ | ⟨y,u,rfl,e⟩
   ·injection e with e1 _;rw [e1]
   ·exact nomatch e
  ·rcases keyIs_shape hb with⟨j,u,rfl,e⟩ | ⟨y,u,rfl,e⟩
   ·exact nomatch e
   ·injection e with e1 _;rw [e1]
 byValue:=λk v h=>by
  rcases keyIs_shape h with⟨i,t,rfl,rfl⟩ | ⟨x,t,rfl,rfl⟩ <;> rfl
 pyHash:=λhv h=>by
  rcases keyIs_shape hv with⟨i,t,rfl,rfl⟩ | ⟨x,t,rfl,rfl⟩
  ·exact wpAny_pyHash_int h
  ·exact wpAny_pyHash_str h
 eqBool:=λhu hv h=>by
  rcases keyIs_shape hu with⟨i,t,rfl,rfl⟩ | ⟨x,t,rfl,rfl⟩
  ·rcases keyIs_shape hv with⟨j,u,rfl,rfl⟩ | ⟨y,u,rfl,rfl⟩
   ·rw [GJ]at h;exact wpAny_eqBool_int h
   ·rw [GL]at h;exact SeqAt.EqAt.int_str i t y u _ _ _ _ h
  ·rcases keyIs_shape hv with⟨j,u,rfl,rfl⟩ | ⟨y,u,rfl,rfl⟩
   ·rw [GM]at h;exact SeqAt.EqAt.str_int x t j u _ _ _ _ h
   ·rw [GK]at h;exact wpAny_eqBool_str h
 «strs»:=λk x t v h=>by
  rcases keyIs_shape h with⟨i,u,rfl,e⟩ | ⟨y,u,rfl,e⟩
  ·exact nomatch e
  ·injection e with e1 _
   subst e1
   cases v <;> rfl
theorem Cy(prog:i_)(w:jA)(i:Int)(t:Tok):(Aw prog w).is (.inl i) (.int i t)=true:=Tz i t
theorem E6(prog:i_)(w:jA)(x:Str)(t:Tok):(Aw prog w).is (.inr x) (.str x t)=true:=T0 x t
end L2
namespace L2
open PySem PySem.Spec PyProof.Rows
inductive V where
 | non | bl (b:Bool) | int (i:Int) | str (x:Str) | byt (b:Array UInt8) | flt (b:UInt64) | ref (a:iY) | ty (n:String)
 deriving DecidableEq
def Bb:V->iV->Prop
 | .non,u=>u=Value.none
 | .bl b,u=>u=Value.bool b
 | .int i,u=>∃t,u=Value.int i t
 | .str x,u=>∃t,u=Value.str x t
 | .byt b,u=>∃t,u=Value.bytes b t
 | .flt b,u=>∃t,u=Value.float b t
 | .ref a,u=>u=Value.ref a
 | .ty n,u=>u=Value.type n
abbrev Vals:List V->List iV->Prop:=Paired Bb
theorem Vals.length{xs:List V}{a:List iV}(r:Vals xs a):xs.length=a.length:=aB r
theorem Vals.get:∀{xs:List V} {a:List iV} {i:Nat} {x:V},Vals xs a->xs[i]?=some x->∃u,a[i]?=some u/\Bb x u
 | _,_,_,_,.nil,e=>by simp at e
 | _,_,0,_,.cons r _,e=>by simp at e;subst e;exact⟨_,rfl,r⟩
 | _,_,i+1,x,.cons _ t,e=>by
  obtain⟨u,h1,h2⟩:=Vals.get (i:=i) (x:=x) t (by simpa using e)
  exact⟨u,by simpa using h1,h2⟩
theorem Vals.append:∀{xs ys:List V} {a b:List iV},Vals xs a->Vals ys b->Vals (xs++ys) (a++b)
 | _,_,_,_,.nil,s=>s
 | _,_,_,_,.cons r t,s=>.cons r (Vals.append t s)
theorem Vals.take:∀{xs:List V} {a:List iV} (n:Nat),Vals xs a->Vals (xs.take n) (a.take n)
 | _,_,0,_=>.nil
 | _,_,_+1,.nil=>.nil
 | _,_,n+1,.cons r t=>.cons r (Vals.take n t)
theorem Vals.drop:∀{xs:List V} {a:List iV} (n:Nat),Vals xs a->Vals (xs.drop n) (a.drop n)
 | _,_,0,r=>r
 | _,_,_+1,.nil=>.nil
 | _,_,n+1,.cons _ t=>Vals.drop n t
def G8:Option V->Option iV->Prop
 | some v,some u=>Bb v u
 | none,none=>True
 | _,_=>False
def KV{κ:Type}:List (κ×V)->List (κ×iV)->Prop:=Paired λ(p:κ×V) (q:κ×iV)=>p.1=q.1/\Bb p.2 q.2
def kV:Key->V
 | .inl i=>.int i
 | .inr x=>.str x
mutual
def A1(w:jA):iX->Int
 | .int i=>GI w (.inl i)
 | .str x=>GI w (.inr x)
 | .tuple a=>reduceHash (Builtin.Tuple.tupleHashOf (C3 w a))
 | _=>0
def C3(w:jA):List iX->List Int
 | []=>[]
 | d :: a=>A1 w d :: C3 w a
end
def SD(w:jA)(x:iX×iY×iV):DictEntry:=⟨A1 w x.1,.ref x.2.1,x.2.2⟩
def SE(w:jA)(h:jD)(a:iY)(xs:List (iX×iY×iV)):Prop :=
 ∃o b c,h.get? a=some o/\o.ExactDict/\o.data=.dict b c/\b.toList=xs.map (SD w)/\(xs.map (·.1)).Nodup/\(a==sysModules)=false/\xs.length<=sizeLine
inductive HO where
 | lst (xs:List V)
 | tup (xs:List V)
 | dK (kvs:List (Key×V)) | dT (kvs:List (List Key×V))
 | set (S:Int->Bool) (n:Nat)
 | ins (C dx:iY) (fs:List (Str×V))
 | own (x:iY)
 | xd (fs:List (Str×V))
 | met (f x:iY)
 | rng (lo hi:Int)
 | frz (o:jE) (u:HO)
 | tbl (ps:Array iV)
 | ext (φ:jD->Prop)
 | dd (xs:List (iX×iY×iV))
abbrev Hp:=iY->Option HO
def upd(H:Hp)(a:iY)(o:HO):Hp:=λb=>if b=a then some o else H b
theorem B2{H:Hp}{a:iY}{o:HO}:upd H a o a=some o:=by unfold upd;rw [Q_ rfl]
theorem Ay{H:Hp}{a b:iY}{o:HO}(h:b≠a):upd H a o b=H b:=by unfold upd;rw [J_ h]
theorem Nm{H:Hp}{a b:iY}{o u:HO}(h:H a=some o)(h':H b=some u)(d:o≠u):a≠b:=by
 intro e;subst e;rw [h]at h';exact d (YO h')
theorem B7{H:Hp}{a b:iY}{o:HO}(h:H a=some o)(h':H b=none):a≠b:=by
 intro e;subst e;rw [h]at h';cases h'
section
variable(P:i_)(w:jA)
def Bs(H:Hp)(h:jD)(a:iY):HO->Prop
 | .lst b=>b.length<=sizeLine/\∃(g:List iV) (n:Nat),Vals b g/\h.get? a=some { cls:=.type "list",data:=.seq g.toArray n }
 | .tup b=>b.length<=sizeLine/\∃g:List iV,Vals b g/\IsTup h a g.toArray
 | .dK c=>c.length<=sizeLine/\(a==sysModules)=false/\∃k,KV c k/\h.DictOf (Aw P w) a k
 | .dT c=>c.length<=sizeLine/\(a==sysModules)=false/\∃b:List (List Key×iY×iV),
   Paired (λ(p:List Key×V) (q:List Key×iY×iV)=>p.1=q.1/\H q.2.1=some (.tup (p.1.map kV))/\Bb p.2 q.2.2) c b /\
   ∃o j m,h.get? a=some o/\o.ExactDict/\o.data=.dict j m/\j.toList=b.map (entryOfKey (tupleKind (Aw P w)))/\(b.map (·.1)).Nodup
 | .set S n=>h.SetOf (intKind P w) a S n
 | .ins C i e=>H i=some (.own a)/\e.length<=1000/\i≠a/\h.get? a=some (PySem.W.instObj C i) /\
   ∃d,h.Ns1 i d/\(∀f,G8 (e.lookup f) (d f))/\PySem.Within d (e.map (·.1))
 | .own _=>∃o,h.get? a=some o
 | .xd e=>∃d,h.Ns1 a d/\∀f,G8 (e.lookup f) (d f)
 | .rng lo r=>∃t u v,h.get? a=some { cls:=.type "range",data:=.fields #[.int lo t,.int r u,.int 1 v] }
 | .frz o u=>h.get? a=some o/\Bs H h a u
 | .tbl l=>h.get? a=some { cls:=.none,data:=.fields l }
 | .met f x=>h.get? a=some (PySem.W.methodObj (.ref f) (.ref x))
 | .ext φ=>φ h/\(∃o,h.get? a=some o)/\∀h1 h2:jD,φ h1->(∀o,h1.get? a=some o->h2.get? a=some o)->φ h2
 | .dd b=>SE w h a b
def HOk(H:Hp)(h:jD):Prop:=∀a o,H a=some o->Bs P w H h a o
end
section
variable {P:i_}{w:jA}{H H':Hp}{h h':jD}{a:iY}{o:HO}{x e:iY}{o':HO}{fs fs' ex ex':List iY}{H1 H2:Hp}{h1 h2:jD}
theorem Bs.lt(x:Bs P w H h a o):a < h.objs.size:=by
 cases o with
 | lst c=>obtain⟨_,_,_,_,e⟩:=x;exact N_ e
 | tup c=>obtain⟨_,_,_,p⟩:=x;exact p.lt
 | dK b=>obtain⟨_,_,_,_,o,_,_,e,_⟩:=x;exact N_ e
 | dT b=>obtain⟨_,_,_,_,o,_,_,e,_⟩:=x;exact N_ e
 | set S n=>obtain⟨o,_,_,_,e,_⟩:=x;exact N_ e
 | ins C g fs=>obtain⟨_,_,_,e,_⟩:=x;exact N_ e
 | own y=>obtain⟨_,e⟩:=x;exact N_ e
 | xd fs=>obtain⟨_,⟨_,_,_,e,_⟩,_⟩:=x;exact N_ e
 | rng lo i=>obtain⟨_,_,_,e⟩:=x;exact N_ e
 | frz d u=>obtain⟨e,_⟩:=x;exact N_ e
 | tbl j=>exact N_ (show h.get? a=some _ from x)
 | met f y=>exact N_ (show h.get? a=some _ from x)
 | ext φ=>obtain⟨_,⟨_,e⟩,_⟩:=x;exact N_ e
 | dd c=>obtain⟨_,_,_,e,_⟩:=x;exact N_ e
theorem Paired.mapP{α β:Type}{F G:α->β->Prop}:∀{l₁:List α} {l₂:List β},Paired F l₁ l₂->(∀a b,F a b->G a b)->Paired G l₁ l₂
 | _,_,.nil,_=>.nil
 | _,_,.cons r t,f=>.cons (f _ _ r) (Paired.mapP t f)
theorem Bs.stay(x:Bs P w H h a o)(k:∀b u,(b=a\/H b=some (.own a))->h.get? b=some u->h'.get? b=some u)
  (F:∀b,H b=some (.own a)->H' b=some (.own a)) (E:∀b l,H b=some (.tup l)->H' b=some (.tup l)):Bs P w H' h' a o:=by
 induction o with
 | lst l=>obtain⟨z,m,n,r,e⟩:=x;exact⟨z,m,n,r,k _ _ (.inl rfl) e⟩
 | tup l=>obtain⟨z,m,r,j,e,c⟩:=x;exact⟨z,m,r,j,k _ _ (.inl rfl) e,c⟩
 | dK s=>obtain⟨z,y,G,r,j,g,i,e,c⟩:=x;exact⟨z,y,G,r,j,g,i,k _ _ (.inl rfl) e,c⟩
 | dT s =>
  obtain⟨z,y,l,r,j,g,i,e,c⟩:=x
  exact⟨z,y,l,Paired.mapP r λp q z=>⟨z.1,E _ _ z.2.1,z.2.2⟩,j,g,i,k _ _ (.inl rfl) e,c⟩
 | set S n=>obtain⟨j,g,i,t,e,c⟩:=x;exact⟨j,g,i,t,k _ _ (.inl rfl) e,c⟩
 | ins C J fs =>
  obtain⟨d,z,ne,e,A,⟨B,g,i,e2,c⟩,r⟩:=x
  exact⟨F _ d,z,ne,k _ _ (.inl rfl) e,A,⟨B,g,i,k _ _ (.inr d) e2,c⟩,r⟩
 | own y=>obtain⟨j,e⟩:=x;exact⟨j,k _ _ (.inl rfl) e⟩
 | xd fs=>obtain⟨A,⟨B,g,i,e,c⟩,r⟩:=x;exact⟨A,⟨B,g,i,k _ _ (.inl rfl) e,c⟩,r⟩
 | rng lo L=>obtain⟨t,u,v,e⟩:=x;exact⟨t,u,v,k _ _ (.inl rfl) e⟩
 | frz j u I=>obtain⟨e,q⟩:=x;exact⟨k _ _ (.inl rfl) e,I q⟩
 | tbl D =>
  have e:h.get? a=some { cls:=.none,data:=.fields D }:=x
  show h'.get? a=some { cls:=.none,data:=.fields D }
  exact k a _ (.inl rfl) e
 | met f y =>
  have e:h.get? a=some (PySem.W.methodObj (.ref f) (.ref y)):=x
  show h'.get? a=some (PySem.W.methodObj (.ref f) (.ref y))
  exact k a _ (.inl rfl) e
 | ext φ=>obtain⟨p,⟨o,e⟩,st⟩:=x;exact⟨st _ _ p λo q=>k _ _ (.inl rfl) q,⟨o,k _ _ (.inl rfl) e⟩,st⟩
 | dd l=>obtain⟨o,g,i,e,c⟩:=x;exact⟨o,g,i,k _ _ (.inl rfl) e,c⟩
theorem HOk.lt(x:HOk P w H h)(e:H a=some o):a < h.objs.size:=(x a o e).lt
theorem HOk.fresh(x:HOk P w H h)(e:h.objs.size<=a):H a=none:=by
 cases q:H a with
 | none=>rfl
 | some u=>exact absurd (U_ (x.lt q) e) (aS _)
theorem HOk.kept(x:HOk P w H h)(k:∀b u,h.get? b=some u->h'.get? b=some u):HOk P w H h':=λa o e =>
 (x a o e).stay (λb u _ q=>k b u q) (λ_ q=>q) λ_ _ q=>q
theorem HOk.laid(x:HOk P w H h)(k:∀b u,h.get? b=some u->h'.get? b=some u)(hp:h.objs.size<=a)(d:Bs P w (upd H a o) h' a o):HOk P w (upd H a o) h':=λb u e=>by
 have hn:=x.fresh hp
 by_cases hb:b=a
 ·subst hb;rw [B2]at e;cases e;exact d
 ·rw [Ay hb]at e
  exact(x b u e).stay (λc v _ q=>k c v q) (λc q=>by rw [Ay (B7 q hn)];exact q) λc f q=>by rw [Ay (B7 q hn)];exact q
def Rd(H:Hp)(a:iY)(u:HO):Prop:=H a=some u\/∃o,H a=some (.frz o u)
theorem Rd.ok{P:i_}{w:jA}{H:Hp}{h:jD}{a:iY}{u:HO}(r:Rd H a u)(x:HOk P w H h):Bs P w H h a u:=by
 rcases r with r | ⟨o,r⟩
 ·exact x a u r
 ·obtain⟨_,q⟩:=x a _ r
  exact q
def Mut:Option HO->Prop
 | some (.lst _)=>True
 | some (.dK _)=>True
 | some (.dT _)=>True
 | some (.set _ _)=>True
 | some (.ins _ _ _)=>True
 | some (.ext _)=>True
 | some (.dd _)=>True
 | _=>False
theorem HOk.write(ok:HOk P w H h)(f:Mut (H x))(he:e=x\/H e=some (.own x))(k:∀b u,b≠e->h.get? b=some u->h'.get? b=some u)(n:∃u,h'.get? e=some u)
  (i:Bs P w (upd H x o') h' x o'):HOk P w (upd H x o') h':=λb u q=>by
 have l:∀c y,H c=some (.own y)->c≠x:=λc y r z=>by subst z;rw [r]at f;exact f
 have j:∀c g,H c=some (.tup g)->c≠x:=λc g r z=>by subst z;rw [r]at f;exact f
 by_cases hb:b=x
 ·subst hb;rw [B2]at q;cases q;exact i
 ·rw [Ay hb]at q
  by_cases d:b=e
  ·have m:H b=some (.own x):=by
    rcases he with z | z
    ·exact absurd (d.trans z) hb
    ·rw [d];exact z
   rw [q]at m;cases m
   obtain⟨v,hv⟩:=n
   exact⟨v,by rw [d];exact hv⟩
  ·refine(ok b u q).stay (λc v hc r=>k c v ?_ r) (λc r=>by rw [Ay (l c b r)];exact r) λc g r=>by rw [Ay (j c g r)];exact r
   rcases hc with rfl | hc
   ·exact d
   ·rintro rfl
    rcases he with z | z
    ·exact l c b hc z
    ·rw [hc]at z;cases z;exact hb rfl
structure Un(fs ex:List iY)(H H':Hp)(h h':jD):Prop where
 keep:∀b o,h.get? b=some o->H b=none->b∉fs->b∉ex->h'.get? b=some o
 slot:∀b o,h.get? b=some o->H b=none->b∈fs->b∉ex->∃sl,h'.get? b=some { o with slots:=sl }
 free:∀b o,h.get? b=some o->H b=none->b∉ex->H' b=none
 there:∀b o,h.get? b=some o->b∉ex->∃o',h'.get? b=some o'
 tups:∀b xs,H b=some (.tup xs)->H' b=some (.tup xs)
 frzs:∀b o u,H b=some (.frz o u)->H' b=some (.frz o u)
 tbls:∀b ps,H b=some (.tbl ps)->∃more,H' b=some (.tbl (ps++more))
theorem Un.any(u:Un fs ex H H1 h h1){b:iY}{c:jE}(q:h.get? b=some c)(n:H b=none)(hx:b∉ex):∃d,h1.get? b=some { c with slots:=d }:=by
 by_cases hb:b∈fs
 ·exact u.slot b c q n hb hx
 ·exact⟨c.slots,u.keep b c q n hb hx⟩
theorem Un.kept(k:∀b u,h.get? b=some u->h'.get? b=some u):Un fs ex H H h h' :=
 ⟨λb c q _ _ _=>k b c q,λb c q _ _ _=>⟨c.slots,k b c q⟩,λ_ _ _ n _=>n,λb c q _=>⟨c,k b c q⟩,λ_ _ q=>q,λ_ _ _ q=>q,λ_ d q=>⟨#[],by rw [q];simp⟩⟩
theorem Un.refl:Un fs ex H H h h:=Un.kept λ_ _ q=>q
theorem Un.laid(k:∀b u,h.get? b=some u->h'.get? b=some u)(hp:h.objs.size<=a)(hn:H a=none):Un fs ex H (upd H a o) h h' where
 keep:=λb u q _ _ _=>k b u q
 slot:=λb u q _ _ _=>⟨u.slots,k b u q⟩
 free:=λb u q n _=>by rw [Ay (W_ (U_ (N_ q) hp))];exact n
 there:=λb u q _=>⟨u,k b u q⟩
 tups:=λb c q=>by rw [Ay (B7 q hn)];exact q
 frzs:=λb u c q=>by rw [Ay (B7 q hn)];exact q
 tbls:=λb d q=>⟨#[],by rw [Ay (B7 q hn),q];simp⟩
theorem Un.write(d:Mut (H x))(he:e=x\/H e=some (.own x))(k:∀b u,b≠e->h.get? b=some u->h'.get? b=some u)(g:∃u,h'.get? e=some u):Un fs ex H (upd H x o) h h':=by
 have hx:∀b,H b=none->b≠x:=λb n z=>by subst z;rw [n]at d;exact d
 have hb:∀b,H b=none->b≠e:=λb n z=>by
  subst z
  rcases he with r | r
  ·exact hx b n r
  ·rw [n]at r;cases r
 have f:∀b u,H b=some u->¬Mut (some u)->b≠x:=λb u q i z=>by subst z;rw [q]at d;exact i d
 refine⟨λb u q n _ _=>k b u (hb b n) q,λb u q n _ _=>⟨u.slots,k b u (hb b n) q⟩,λb u q n _=>by rw [Ay (hx b n)];exact n,λb u q _=>?_,
  λb j q=>by rw [Ay (f b _ q λz=>z)];exact q,λb u j q=>by rw [Ay (f b _ q λz=>z)];exact q,λb l q=>⟨#[],by rw [Ay (f b _ q λz=>z),q];simp⟩⟩
 by_cases c:b=e
 ·subst c;exact g
 ·exact⟨u,k b u c q⟩
end
def trk(h:jD)(H:Hp):List iY:=(List.range h.objs.size).filter λa=>(H a).isSome
def L0(h:jD)(H:Hp):jD:=PySem.W.hideAll h (trk h H)
theorem T2(h:jD)(H:Hp):(L0 h H).objs.size=h.objs.size:=PySem.W.hideAll_size _ _
theorem Vu{h:jD}{H:Hp}{b:iY}{o:jE}(e:h.get? b=some o)(n:H b=none):(L0 h H).get? b=some o :=
 PySem.W.hideAll_get _ e λa=>by
  have q:(H b).isSome=true:=(YU.mp a).2
  rw [n]at q;simp at q
theorem Zj{h:jD}{H:Hp}{b:iY}{o:jE}(e:(L0 h H).get? b=some o):h.get? b=some o/\H b=none:=by
 have a:h.get? b=some o:=PySem.W.of_hideAll (trk h H) e
 refine⟨a,?_⟩
 cases q:H b with
 | none=>rfl
 | some x =>
  have c:b∈trk h H:=YU.mpr ⟨XZ.mpr (N_ a),by simp [q]⟩
  have z:(L0 h H).get? b=none:=PySem.W.hideAll_none (trk h H) c
  rw [z]at e;cases e
def Zk(g h:jD)(L:iY):List (iY×jE):=(List.range h.objs.size).filterMap λa=>if a=L\/(g.get? a).isSome=true then none else(h.get? a).map λo=>(a,o)
def rest(g h:jD)(L d:iY):List (iY×jE):=(Zk g h L).filter λp=>decide (p.1≠d)
structure Mod(K:iZ)(mg:Str->Option iV)(base:jD):Prop where
 kin:K.In base
 glob:base.Ns mainGlobals mg
 blt:∃mb,base.Ns builtinsNs mb/\∀x:Str,x ≠ "__name__" -> mb x=bootBuiltins x
 nolimit:base.NoLimit
structure Cx where
 prog:i_
 w:jA
 K:iZ
 mg:Str->Option iV
 base:jD
 A:jC
 N:List Str
 s₀:iW
 H₀:Hp
 env:Env
 outer:List Env
 stack:List Env
 ex:List iY
 fn:Str->Bool
 calm:Bool
 pn:List (iY×jE)
 xe:iV->iW->Prop
def frs(l:List Env):List iY:=l.filterMap (·.frame)
abbrev Cx.fs(X:Cx):List iY:=frs X.outer
def Vis(a:jI)(x:Str):Prop:=a.names.lookup x=some .local\/a.names.lookup x=some .cell\/a.names.lookup x=some .free
def Loc(a:jI)(x:Str):Prop:=a.names.lookup x=some .local\/a.names.lookup x=some .cell
def Look(env:Env)(h:jD)(m:Str->Option iV)(x:Str)(u:iV):Prop :=
 (env.kindOf x=some .local/\m x=some u)\/((env.kindOf x=some .cell\/env.kindOf x=some .free)/\∃c,env.cells.lookup x=some c/\h.IsCell c (some u))
structure Cx.Ok(X:Cx):Prop where
 mod:Mod X.K X.mg X.base
 kind:X.env.scope.kind=.function
 glob:X.env.globals=mainGlobals
 blt:X.env.builtins=builtinsNs
 above:X.s₀.heap.objs.size<=X.env.locals
 inj:∀x y c,X.env.cells.lookup x=some c->X.env.cells.lookup y=some c->x=y
 has:∀x,(X.env.kindOf x=some .cell\/X.env.kindOf x=some .free)->∃c,X.env.cells.lookup x=some c
 cab:∀x c,X.fn x=true->X.env.cells.lookup x=some c->X.s₀.heap.objs.size<=c
 hd:X.calm=true->X.A.handled=none
 frames:X.A.frames=some X.stack
 stk:X.stack=X.outer\/(X.stack=X.env :: X.outer/\X.env.frame=some X.env.locals)
 exf:∀b∈X.ex,b≠X.env.locals/\∀x c,X.env.cells.lookup x=some c->c≠b
 bs:∀b o,X.base.get? b=some o->X.s₀.heap.get? b=some o/\X.H₀ b=none
 bsz:X.base.objs.size<=X.s₀.heap.objs.size
 noex:∀b o,X.base.get? b=some o->b∉X.ex
 exfs:∀b∈X.ex,b∉X.fs
 funs:X.s₀.heap.FunFrames X.base X.outer
 frf:∀b∈X.fs,X.H₀ b=none
structure Inv(X:Cx)(aa:List (iY×jE))(σ:List (Option V))(H:Hp)(s:iW):Prop where
 ok:X.Ok
 os:s.os=X.s₀.os
 bare:AllBare s.gens
 base:Un X.fs X.ex X.H₀ H X.s₀.heap s.heap
 loc:∃m,s.heap.Ns X.env.locals m/\∀(i:Nat) (x:Str) (v:V),X.N[i]?=some x->σ[i]?=some (some v)->Vis X.env.scope x->∃u,Bb v u/\Look X.env s.heap m x u
 cell:∀x c,X.env.cells.lookup x=some c->∃v,s.heap.IsCell c v
 free:H X.env.locals=none
 freeC:∀x c,X.env.cells.lookup x=some c->H c=none
 pin:∀p∈X.pn++aa,s.heap.get? p.1=some p.2/\H p.1=none/\p.1≠X.env.locals/\p.1∉X.fs/\∀v,p.2.data≠.cell v
 hok:HOk X.prog X.w H s.heap
 len:σ.length=X.N.length
section
variable {X:Cx}{aa:List (iY×jE)}{σ:List (Option V)}{H H':Hp}{s:iW}{h':jD}{a b:jB}{ta tb:TE}{pos:Pos}{tA kj:TT}{rest:List jB}
theorem Cx.Ok.nofr(ok:X.Ok){b:iY}{o:jE}(e:X.base.get? b=some o):b∉X.fs:=λhb=>by
 have:=(ok.funs.mem hb).1
 rw [e]at this;cases this
theorem Inv.bs(I:Inv X aa σ H s):∀b o,X.base.get? b=some o->s.heap.get? b=some o/\H b=none:=λb o e =>
 ⟨I.base.keep b o (I.ok.bs b o e).1 (I.ok.bs b o e).2 (I.ok.nofr e) (I.ok.noex b o e),I.base.free b o (I.ok.bs b o e).1 (I.ok.bs b o e).2 (I.ok.noex b o e)⟩
theorem Inv.bk(I:Inv X aa σ H s):∀b o,X.base.get? b=some o->s.heap.get? b=some o:=λb o e=>(I.bs b o e).1
theorem Inv.mod(I:Inv X aa σ H s):Mod X.K X.mg X.base:=I.ok.mod
theorem Inv.kIn(I:Inv X aa σ H s):X.K.In s.heap:=I.ok.mod.kin.keeps I.bk
theorem Inv.lt(I:Inv X aa σ H s):X.env.locals < s.heap.objs.size:=let⟨_,hn,_⟩:=I.loc;hn.lt
theorem Inv.sz(I:Inv X aa σ H s):X.s₀.heap.objs.size<=s.heap.objs.size:=G_ I.ok.above (YM I.lt)
theorem Inv.nofs(I:Inv X aa σ H s){a:iY}(h:s.heap.objs.size<=a):a∉X.fs:=λhb=>by
 obtain⟨_,o,c,_⟩:=I.ok.funs.mem hb
 exact absurd (U_ (N_ c) (G_ I.sz h)) (aS _)
theorem Inv.cne(I:Inv X aa σ H s):∀x c,X.env.cells.lookup x=some c->c≠X.env.locals:=λx c e z=>by
 obtain⟨v,o,f,g⟩:=I.cell x c e
 obtain⟨m,⟨j,k,i,d,h,_⟩,_⟩:=I.loc
 rw [z,d]at f;cases f;rw [h]at g;cases g
theorem Inv.funs(I:Inv X aa σ H s):s.heap.FunFrames X.base X.outer:=by
 have all:∀(l:List Env),(∀b∈frs l,b∈X.fs)->X.s₀.heap.FunFrames X.base l->s.heap.FunFrames X.base l:=by
  intro l
  induction l with
  | nil=>intro _ _;trivial
  | cons k r g =>
   intro d h
   obtain⟨hk,⟨L,o,hf,hn,i,j⟩,f⟩:=h
   have c:L∈X.fs:=d L (by unfold frs;rw [dB,hf];exact XT)
   obtain⟨m,e⟩:=I.base.slot L o i (I.ok.frf L c) c λz=>I.ok.exfs L z c
   exact⟨hk,⟨L,_,hf,hn,e,j⟩,g (λb hb=>d b (by unfold frs;rw [dB,hf];exact XN _ hb)) f⟩
 exact all X.outer (λ_ hb=>hb) I.ok.funs
theorem Inv.stack(I:Inv X aa σ H s):s.heap.FunFrames X.base X.stack:=by
 rcases I.ok.stk with e | ⟨e,hf⟩
 ·rw [e];exact I.funs
 ·rw [e]
  obtain⟨m,hn,_⟩:=I.loc
  refine .cons (by rw [I.ok.kind];decide) hf hn ?_ I.funs
  exact Heap.get?_none_of_le (G_ I.ok.bsz I.ok.above)
theorem Inv.stkSub(I:Inv X aa σ H s):∀b∈frs X.stack,b∈X.env.locals :: X.fs:=λb hb=>by
 rcases I.ok.stk with e | ⟨e,hf⟩
 ·rw [e]at hb;exact XN _ hb
 ·rw [e]at hb
  unfold frs at hb
  rw [dB,hf]at hb
  exact hb
theorem Inv.stkFree(I:Inv X aa σ H s):∀b∈frs X.stack,H b=none:=λb hb=>by
 rcases XJ.mp (I.stkSub b hb) with e | hb
 ·rw [e];exact I.free
 ·obtain⟨_,o,c,_⟩:=I.ok.funs.mem hb
  exact I.base.free b o c (I.ok.frf b hb) λz=>I.ok.exfs b z hb
theorem Inv.step{g':Array GenState}{t':Nat}{d':Drawn}{ch:List iY}(I:Inv X aa σ H s)
  (F:∀b∈ch,(b∈X.ex\/X.s₀.heap.objs.size<=b)/\b≠X.env.locals/\(∀x c,X.env.cells.lookup x=some c->c≠b)/\∀p∈X.pn++aa,p.1≠b)
  (g:∀b o,b≠X.env.locals->b∉X.fs->b∉ch->s.heap.get? b=some o->H b=none->h'.get? b=some o)
  (slot:∀b o,b≠X.env.locals->b∈X.fs->b∉ch->s.heap.get? b=some o->H b=none->∃P,h'.get? b=some { o with slots:=P }) (f:∀b o,b∉ch->s.heap.get? b=some o->H b=none->H' b=none)
  (t:∀b o,b∉ch->s.heap.get? b=some o->∃A,h'.get? b=some A)
  (G:∀b j,H b=some (.tup j)->H' b=some (.tup j)) (D:∀b o u,H b=some (.frz o u)->H' b=some (.frz o u)) (B:∀b M,H b=some (.tbl M)->∃E,H' b=some (.tbl (M++E)))
  (ns:∀m,s.heap.Ns X.env.locals m->h'.Ns X.env.locals m) (N:HOk X.prog X.w H' h') (T:AllBare g') :
  Inv X aa σ H' { s with heap:=h',gens:=g',drawn:=d',toks:=t' }:=by
 have C:∀b o,X.s₀.heap.get? b=some o->b≠X.env.locals:=λb o e=>W_ (U_ (N_ e) I.ok.above)
 have L:∀b o,X.s₀.heap.get? b=some o->b∉X.ex->b∉ch:=λb o e hx hb=>by
  rcases(F b hb).1 with z | z
  ·exact hx z
  ·exact absurd (U_ (N_ e) z) (aS _)
 have R:∀x c,X.env.cells.lookup x=some c->∀v,s.heap.IsCell c v->h'.IsCell c v:=λx c e v ⟨o,y,Q⟩=>by
  have J:c∉ch:=λz=>(F c z).2.2.1 x c e rfl
  by_cases hc:c∈X.fs
  ·obtain⟨P,q⟩:=slot c o (I.cne x c e) hc J y (I.freeC x c e)
   exact⟨_,q,Q⟩
  ·exact⟨o,g c o (I.cne x c e) hc J y (I.freeC x c e),Q⟩
 refine⟨I.ok,I.os,T,⟨λb o e n hb hx=>?_,λb o e n hb hx=>?_,λb o e n hx=>?_,λb o e hx=>?_,λb j e=>G b j (I.base.tups b j e),λb o j e=>D b o j (I.base.frzs b o j e),λb M e=>?_⟩,?_,λx c e=>?_,?_,λx c e=>?_,λp hp=>?_,N,I.len⟩
 ·exact g b o (C b o e) hb (L b o e hx) (I.base.keep b o e n hb hx) (I.base.free b o e n hx)
 ·obtain⟨P,h⟩:=I.base.slot b o e n hb hx
  obtain⟨O,e2⟩:=slot b _ (C b o e) hb (L b o e hx) h (I.base.free b o e n hx)
  exact⟨O,e2⟩
 ·obtain⟨A,h⟩:=I.base.there b o e hx
  exact f b A (L b o e hx) h (I.base.free b o e n hx)
 ·obtain⟨A,h⟩:=I.base.there b o e hx
  exact t b A (L b o e hx) h
 ·obtain⟨m1,h⟩:=I.base.tbls b M e
  obtain⟨m2,e2⟩:=B b _ h
  exact⟨m1++m2,by rw [e2,fB]⟩
 ·obtain⟨m,hn,W⟩:=I.loc
  refine⟨m,ns m hn,λi x v h e2 U=>?_⟩
  obtain⟨u,r,l⟩:=W i x v h e2 U
  refine⟨u,r,?_⟩
  rcases l with l | ⟨k,c,e,z⟩
  ·exact .inl l
  ·exact .inr ⟨k,c,e,R x c e _ z⟩
 ·obtain⟨v,z⟩:=I.cell x c e
  exact⟨v,R x c e v z⟩
 ·obtain⟨m,⟨o,_,_,y,_⟩,_⟩:=I.loc
  exact f _ o (λz=>(F _ z).2.1 rfl) y I.free
 ·obtain⟨v,o,y,Q⟩:=I.cell x c e
  exact f c o (λz=>(F c z).2.2.1 x c e rfl) y (I.freeC x c e)
 ·obtain⟨e,n,ne,S,d⟩:=I.pin p hp
  have J:p.1∉ch:=λz=>(F p.1 z).2.2.2 p hp rfl
  exact⟨g p.1 p.2 ne S J e n,f p.1 p.2 J e n,ne,S,d⟩
theorem Inv.un{t':Nat}(I:Inv X aa σ H s)(u:Un X.fs [] H H' s.heap h')(d:HOk X.prog X.w H' h'):Inv X aa σ H' { s with heap:=h',toks:=t' }:=by
 obtain⟨m,⟨o,q,v,g,r⟩,_⟩:=id I.loc
 obtain⟨l,i⟩:=u.any g I.free (by simp)
 exact I.step (g':=s.gens) (d':=s.drawn) (ch:=[]) (λ_ z=>nomatch z) (λb o _ hb _ e n=>u.keep b o e n hb (by simp)) (λb o _ hb _ e n=>u.slot b o e n hb (by simp)) (λb o _ e n=>u.free b o e n (by simp)) (λb o _ e=>u.there b o e (by simp)) u.tups u.frzs u.tbls (λt h=>by
  obtain⟨p,j,f,c,k⟩:=h
  rw [g]at c;cases c
  exact⟨_,j,f,i,k⟩) d I.bare
theorem Inv.call{g':Array GenState}{t':Nat}{d':Drawn}{ch:List iY}(I:Inv X aa σ H s)(u:Un (frs X.stack) ch H H' s.heap h')(f:HOk X.prog X.w H' h')(k:AllBare g')
  (j:∀b∈ch,(b∈X.ex\/X.s₀.heap.objs.size<=b)/\b≠X.env.locals/\(∀x c,X.env.cells.lookup x=some c->c≠b)/\∀p∈X.pn++aa,p.1≠b) :
  Inv X aa σ H' { s with heap:=h',gens:=g',drawn:=d',toks:=t' }:=by
 obtain⟨m,⟨o,A,C,i,r⟩,_⟩:=id I.loc
 obtain⟨v,g⟩:=u.any i I.free λz=>(j _ z).2.1 rfl
 exact I.step (ch:=ch) j (λb o g hb hc e n=>u.keep b o e n (λz=>(XJ.mp (I.stkSub b z)).elim g hb) hc) (λb o _ _ hc e n=>u.any e n hc) (λb o hc e n=>u.free b o e n hc) (λb o hc e=>u.there b o e hc) u.tups u.frzs u.tbls (λB l=>by
  obtain⟨y,q,h,d,t⟩:=l
  rw [i]at d;cases d
  exact⟨_,q,h,g,t⟩) f k
theorem Inv.turned{t':Nat}{d:iY}(I:Inv X aa σ H s)(k:∀b o,b≠d->s.heap.get? b=some o->h'.get? b=some o)(hn:H d=none)(f:d≠X.env.locals)
  (h1:d∈X.ex\/X.s₀.heap.objs.size<=d) (h2:∀x c,X.env.cells.lookup x=some c->c≠d) (j:∀p∈X.pn++aa,p.1≠d):Inv X aa σ H { s with heap:=h',toks:=t' }:=by
 have g:∀b u,H b=some u->b≠d:=λb u e z=>by rw [z,hn]at e;cases e
 refine I.step (g':=s.gens) (d':=s.drawn) (ch:=[d]) (λb hb=>?_) (λb o _ _ hc e _=>k b o (λz=>hc (by simp [z])) e) (λb o _ _ hc e _=>⟨o.slots,k b o (λz=>hc (by simp [z])) e⟩) (λ_ _ _ _ n=>n)
  (λb o hc e=>⟨o,k b o (λz=>hc (by simp [z])) e⟩) (λ_ _ e=>e) (λ_ _ _ e=>e) (λb w e=>⟨#[],by rw [e];simp⟩) (λm h=>?_) (λb u e=>?_) I.bare
 ·have e:b=d:=by simpa using hb
  subst e
  exact⟨h1,f,h2,j⟩
 ·obtain⟨o,i,t,l,r⟩:=h
  exact⟨o,i,t,k _ o (bH f) l,r⟩
 ·refine(I.hok b u e).stay (λc v hc q=>k c v ?_ q) (λ_ q=>q) λ_ _ q=>q
  rcases hc with z | z
  ·rw [z];exact g b u e
  ·exact g c _ z
theorem Inv.tok(I:Inv X aa σ H s)(t:Nat):Inv X aa σ H { s with toks:=t }:=I.un (h':=s.heap) (t':=t) Un.refl I.hok
theorem Inv.kept{t':Nat}(I:Inv X aa σ H s)(k:∀b u,s.heap.get? b=some u->h'.get? b=some u):Inv X aa σ H { s with heap:=h',toks:=t' }:=I.un (Un.kept k) (I.hok.kept k)
theorem Inv.laid{a:iY}{o:HO}{t':Nat}(I:Inv X aa σ H s)(k:∀b u,s.heap.get? b=some u->h'.get? b=some u)(hp:s.heap.objs.size<=a)(c:Bs X.prog X.w (upd H a o) h' a o) :
  Inv X aa σ (upd H a o) { s with heap:=h',toks:=t' }:=I.un (Un.laid k hp (I.hok.fresh hp)) (I.hok.laid k hp c)
theorem Inv.write{x e:iY}{o:HO}{t':Nat}(I:Inv X aa σ H s)(d:Mut (H x))(he:e=x\/H e=some (.own x))(k:∀b u,b≠e->s.heap.get? b=some u->h'.get? b=some u)(f:∃u,h'.get? e=some u)
  (c:Bs X.prog X.w (upd H x o) h' x o):Inv X aa σ (upd H x o) { s with heap:=h',toks:=t' }:=I.un (Un.write d he k f) (I.hok.write d he k f c)
theorem Inv.pins_of{c:List (iY×jE)}(I:Inv X aa σ H s)(h:∀p∈c,s.heap.get? p.1=some p.2/\H p.1=none/\p.1≠X.env.locals/\p.1∉X.fs/\∀v,p.2.data≠.cell v):Inv X c σ H s :=
 ⟨I.ok,I.os,I.bare,I.base,I.loc,I.cell,I.free,I.freeC,λp hp=>(O_.mp hp).elim (λz=>I.pin p (ZP _ z)) (h p),I.hok,I.len⟩
theorem Nn{N:List Str}(d:N.Nodup){i j:Nat}{x:Str}(a:N[i]?=some x)(b:N[j]?=some x):i=j:=by
 obtain⟨h1,c⟩:=F_.mp a
 obtain⟨h2,e2⟩:=F_.mp b
 exact(List.getElem_inj d).mp (c.trans e2.symm)
theorem Kr{M:Model}{A:jC}{E:iV->iW->Prop}{i:Nat}{x:Str}{v:V}{u:iV}{Q:Unit->iW->Prop}(I:Inv X aa σ H s)(hN:X.N.Nodup)(t:X.N[i]?=some x)(hx:Loc X.env.scope x)(r:Bb v u)
  (h:∀R,Inv X aa (σ.set i (some v)) H R->(∃a,Heap.SameBut a s.heap R.heap/\(a=X.env.locals\/X.env.cells.lookup x=some a))->Q () R) (hf:X.fn x=true\/X.env.scope.names.lookup x=some .local:=by first | exact .inl rfl | exact .inr rfl | assumption):wpAny M A (storeName X.env x u) Q E s:=by
 obtain⟨m,hn,hl⟩:=id I.loc
 have ya:(X.env.scope.kind==.class || (X.env.scope.kind==.module && X.env.locals != X.env.globals))=false:=by rw [I.ok.kind];rfl
 have tσ:i < σ.length:=by rw [I.len];exact(F_.mp t).1
 have B:=I.cne
 have i0:∀{a:iY} {h':jD},(∃o,s.heap.get? a=some o/\H a=none)->Heap.SameBut a s.heap h'->HOk X.prog X.w H h':=λ{a h'} ha f b ob e=>by
  obtain⟨_,_,l⟩:=ha
  refine(I.hok b ob e).stay (λc J hc q=>(f.2 c ?_).trans q) (λ_ q=>q) λ_ _ q=>q
  rintro rfl
  rcases hc with rfl | hc
  ·rw [l]at e;cases e
  ·rw [l]at hc;cases hc
 rcases hx with hk | hk
 ·refine wpAny_storeName_local hk hn (λh' lv f=>?_) ya
  obtain⟨oL,_,_,W,_⟩:=id hn
  refine h _ ⟨I.ok,I.os,I.bare,⟨λb o e n hb hx=>?_,λb o e n hb hx=>?_,I.base.free,λb o e hx=>?_,I.base.tups,I.base.frzs,I.base.tbls⟩,⟨_,lv,λj y U g e2 O=>?_⟩,λy c e=>?_,I.free,I.freeC,λp hp=>?_,i0 ⟨oL,W,I.free⟩ f,by simpa using I.len⟩ ⟨_,f,.inl rfl⟩
  ·exact(f.2 b (W_ (U_ (N_ e) I.ok.above))).trans (I.base.keep b o e n hb hx)
  ·obtain⟨Y,g⟩:=I.base.slot b o e n hb hx
   exact⟨Y,(f.2 b (W_ (U_ (N_ e) I.ok.above))).trans g⟩
  ·obtain⟨P,g⟩:=I.base.there b o e hx
   exact⟨P,(f.2 b (W_ (U_ (N_ e) I.ok.above))).trans g⟩
  ·by_cases hj:j=i
   ·subst hj
    rw [t]at g;cases g
    rw [List.getElem?_set_self tσ]at e2
    cases e2
    exact⟨u,r,.inl ⟨hk,by simp⟩⟩
   ·rw [List.getElem?_set_ne (bH hj)]at e2
    obtain⟨S,T,q⟩:=hl j y U g e2 O
    refine⟨S,T,?_⟩
    rcases q with⟨k,e⟩ | ⟨k,c,e,z⟩
    ·refine .inl ⟨k,?_⟩
     have:y≠x:=λe=>hj (Nn hN g (e ▸ t))
     simp [this,e]
    ·exact .inr ⟨k,c,e,z.sameBut f (B y c e)⟩
  ·obtain⟨J,z⟩:=I.cell y c e
   exact⟨J,z.sameBut f (B y c e)⟩
  ·obtain⟨e,n,ne,Z,d⟩:=I.pin p hp
   exact⟨(f.2 p.1 ne).trans e,n,ne,Z,d⟩
 ·have L:X.fn x=true:=by
   rcases hf with z | z
   ·exact z
   ·rw [z]at hk;cases hk
  obtain⟨c,hc⟩:=I.ok.has x (.inl hk)
  obtain⟨J,z⟩:=I.cell x c hc
  refine wpAny_storeName_cell I.ok.kind hk hc z (λh' bp f=>?_)
  obtain⟨oc,F,C⟩:=id z
  refine h { s with heap:=h' } ⟨I.ok,I.os,I.bare,⟨λb o e n hb hx=>?_,λb o e n hb hx=>?_,I.base.free,λb o e hx=>?_,I.base.tups,I.base.frzs,I.base.tbls⟩,⟨m,hn.sameBut f (bH (B x c hc)),λj y U g e2 O=>?_⟩,λy G e=>?_,I.free,I.freeC,λp hp=>?_,i0 ⟨oc,F,I.freeC x c hc⟩ f,by simpa using I.len⟩ ⟨c,f,.inr hc⟩
  ·exact(f.2 b (W_ (U_ (N_ e) (I.ok.cab x c L hc)))).trans (I.base.keep b o e n hb hx)
  ·obtain⟨Y,g⟩:=I.base.slot b o e n hb hx
   exact⟨Y,(f.2 b (W_ (U_ (N_ e) (I.ok.cab x c L hc)))).trans g⟩
  ·obtain⟨P,g⟩:=I.base.there b o e hx
   exact⟨P,(f.2 b (W_ (U_ (N_ e) (I.ok.cab x c L hc)))).trans g⟩
  ·by_cases hj:j=i
   ·subst hj
    rw [t]at g;cases g
    rw [List.getElem?_set_self tσ]at e2
    cases e2
    exact⟨u,r,.inr ⟨.inl hk,c,hc,bp⟩⟩
   ·rw [List.getElem?_set_ne (bH hj)]at e2
    obtain⟨S,T,q⟩:=hl j y U g e2 O
    refine⟨S,T,?_⟩
    rcases q with q | ⟨k,G,e,z'⟩
    ·exact .inl q
    ·refine .inr ⟨k,G,e,z'.sameBut f ?_⟩
     rintro rfl
     exact hj (Nn hN g (I.ok.inj _ _ _ e hc ▸ t))
  ·by_cases D:G=c
   ·subst D;exact⟨_,bp⟩
   ·obtain⟨w2,z2⟩:=I.cell y G e
    exact⟨w2,z2.sameBut f D⟩
  ·obtain⟨e,n,ne,Z,d⟩:=I.pin p hp
   refine⟨(f.2 p.1 ?_).trans e,n,ne,Z,d⟩
   intro q
   rw [q,F]at e
   have q':oc=p.2:=YO e
   exact d J (by rw [<- q'];exact C)
theorem E7{M:Model}{A:jC}{E:iV->iW->Prop}{i:Nat}{x:Str}{v:V}{u:iV}{Q:Unit->iW->Prop}(I:Inv X aa σ H s)(f:X.N.Nodup)(e:X.N[i]?=some x)(hx:Loc X.env.scope x)(r:Bb v u)
  (h:∀c,Inv X aa (σ.set i (some v)) H c->Q () c) (hf:X.fn x=true\/X.env.scope.names.lookup x=some .local:=by first | exact .inl rfl | exact .inr rfl | assumption):wpAny M A (storeName X.env x u) Q E s :=
 Kr I f e hx r (λc d _=>h c d) hf
theorem Inv.call'{d:iW}{ch:List iY}(I:Inv X aa σ H s)(h:d.os=s.os)(u:Un (frs X.stack) ch H H' s.heap d.heap)(f:HOk X.prog X.w H' d.heap)(g:AllBare d.gens)
  (i:∀b∈ch,(b∈X.ex\/X.s₀.heap.objs.size<=b)/\b≠X.env.locals/\(∀x c,X.env.cells.lookup x=some c->c≠b)/\∀p∈X.pn++aa,p.1≠b):Inv X aa σ H' d:=by
 obtain⟨h',g',d',t',j⟩:=d
 have e:j=s.os:=h
 subst e
 exact I.call (g':=g') (t':=t') (d':=d') u f g i
abbrev XK:=iV->Option iY->Hp->Prop
abbrev St:=List (Option V)
abbrev VK:=V->Hp->Prop
abbrev TE:=St->Hp->VK->Prop
abbrev TT:=St->Hp->(Bool->Hp->Prop)->Prop
abbrev TA:=St->Hp->(List V->Hp->Prop)->Prop
structure Ends where
 nx:St->Hp->Prop
 rt:VK
 bk:St->Hp->Prop:=λ_ _=>False
 ct:St->Hp->Prop:=λ_ _=>False
abbrev TS:=Ends->St->Hp->Prop
def EP(X:Cx)(aa:List (iY×jE))(σ:St)(Q:VK)(u:iV)(c:iW):Prop:=∃v H',Inv X aa σ H' c/\Bb v u/\Q v H'
def TP(X:Cx)(aa:List (iY×jE))(σ:St)(Q:Bool->Hp->Prop)(b:Bool)(c:iW):Prop:=∃H',Inv X aa σ H' c/\Q b H'
def AP(X:Cx)(aa:List (iY×jE))(σ:St)(Q:List V->Hp->Prop)(d:List iV)(e:iW):Prop:=∃c H',Inv X aa σ H' e/\Vals c d/\Q c H'
def SP(X:Cx)(aa:List (iY×jE))(D:Ends)(f:Flow)(c:iW):Prop :=
 match f with
 | .next=>∃ σ' H',Inv X aa σ' H' c/\D.nx σ' H'
 | .brk=>∃ σ' H',Inv X aa σ' H' c/\D.bk σ' H'
 | .cont=>∃ σ' H',Inv X aa σ' H' c/\D.ct σ' H'
 | .ret u=>∃v σ' H',Inv X aa σ' H' c/\Bb v u/\D.rt v H'
def PE(X:Cx)(e:jB)(t:TE):Prop :=
 ∀(aa:List (iY×jE)) (s:iW) (σ:St) (H:Hp) (Q:VK),Inv X aa σ H s->t σ H Q->wpAny (model X.prog X.w) X.A (eval e X.env) (EP X aa σ Q) X.xe s
def PT(X:Cx)(e:jB)(t:TT):Prop :=
 ∀(aa:List (iY×jE)) (s:iW) (σ:St) (H:Hp) (Q:Bool->Hp->Prop),Inv X aa σ H s->t σ H Q->wpAny (model X.prog X.w) X.A (isTrue e X.env (eval e X.env)) (TP X aa σ Q) X.xe s
def PW(X:Cx)(e:jB)(t:TT):Prop :=
 ∀(c:Sem iV) (aa:List (iY×jE)) (s:iW) (σ:St) (H:Hp) (Q:Bool->Hp->Prop),Inv X aa σ H s->t σ H Q->wpAny (model X.prog X.w) X.A (isTrue e X.env c) (TP X aa σ Q) X.xe s
theorem PW.pt{X:Cx}{e:jB}{t:TT}(h:PW X e t):PT X e t:=h _
def PA(X:Cx)(es:List jB)(t:TA):Prop :=
 ∀(pos:Pos) (aa:List (iY×jE)) (s:iW) (σ:St) (H:Hp) (Q:List V->Hp->Prop),Inv X aa σ H s->t σ H Q->wpAny (model X.prog X.w) X.A (spliced (backTo pos (starEach es X.env))) (AP X aa σ Q) X.xe s
def PS(X:Cx)(st:jF)(t:TS):Prop :=
 ∀(aa:List (iY×jE)) (s:iW) (σ:St) (H:Hp) (D:Ends),Inv X aa σ H s->t D σ H->wpAny (model X.prog X.w) X.A (exec st X.env) (SP X aa D) X.xe s
def PSs(X:Cx)(st:List jF)(t:TS):Prop :=
 ∀(aa:List (iY×jE)) (s:iW) (σ:St) (H:Hp) (D:Ends),Inv X aa σ H s->t D σ H->wpAny (model X.prog X.w) X.A (execs st X.env) (SP X aa D) X.xe s
theorem thn{α:Type}{t:Sem α}{Q c:α->iW->Prop}{M:Model}{A:jC}{E:iV->iW->Prop}{s:iW}(h:wpAny M A t Q E s)(d:∀a s,Q a s->c a s):wpAny M A t c E s:=ZW h d λ_ _ x=>x
def MH(i:Nat):TE:=fun σ H Q=>∃v,σ[i]?=some (some v)/\Q v H
def tC(v:V):TE:=λ_ H Q=>Q v H
theorem GN{i:Nat}{x:Str}{pos:Pos}(o:X.N[i]?=some x)(hv:Vis X.env.scope x)(g:(x==("__debug__" : Str))=false:=by decide) (j:(x==("__classdict__" : Str))=false:=by decide):PE X (.Name x pos) (MH i):=by
 intro aa s σ H Q I h
 obtain⟨v,e,h⟩:=h
 obtain⟨m,hn,n⟩:=I.loc
 obtain⟨u,r,l⟩:=n i x v o e hv
 have f:EP X aa σ Q u s:=⟨v,H,I,r,h⟩
 rcases l with⟨hk,k⟩ | ⟨hk,c,hc,d⟩
 ·exact wpAny_Name (wpAny_loadName_local I.ok.kind hk hn k f) g
 ·rcases hk with hk | hk
  ·exact wpAny_Name (wpAny_loadName_cell I.ok.kind hk hc d f) g
  ·exact wpAny_Name (wpAny_loadName_free I.ok.kind hk hc d f j) g
theorem GO{i j pos}:PE X (.Constant (.int i) j pos) (tC (.int i)):=λ_ _ _ H _ I h=>wpAny_Constant_int ⟨.int i,H,I.tok _,⟨_,rfl⟩,h⟩
theorem MJ{b j pos}:PE X (.Constant (.bool b) j pos) (tC (.bl b)):=λ_ _ _ H _ I h=>Constant_bool ⟨.bl b,H,I,rfl,h⟩
theorem Vv{x j pos}:PE X (.Constant (.str x) j pos) (tC (.str x)):=λ_ _ _ H _ I h=>Calls.Constant_str ⟨.str x,H,I.tok _,⟨_,rfl⟩,h⟩
def Gl(X:Cx)(x:Str):Prop:=X.env.kindOf x=some .globalImplicit
theorem Ru{E:iV->iW->Prop}{aa:List (iY×jE)}{s:iW}{σ:St}{H:Hp}{x:Str}{u:iV}{pos:Pos}{Q:iV->iW->Prop}(I:Inv X aa σ H s)(c:Gl X x)(e:X.mg x=some u)(h:Q u s)
  (d:(x==("__debug__" : Str))=false:=by decide):wpAny (model X.prog X.w) X.A (eval (.Name x pos) X.env) Q E s :=
 Calls.Name_function_global I.ok.kind c (Calls.loadGlobal_global (by rw [I.ok.glob];exact I.mod.glob.keeps I.bk) e h) d
theorem Ep{E:iV->iW->Prop}{aa:List (iY×jE)}{s:iW}{σ:St}{H:Hp}{x:Str}{u:iV}{pos:Pos}{Q:iV->iW->Prop}(I:Inv X aa σ H s)(c:Gl X x)(e:X.mg x=none)(hv:bootBuiltins x=some u)(h:Q u s)
  (hn:x ≠ "__name__" := by decide) (d:(x==("__debug__" : Str))=false:=by decide):wpAny (model X.prog X.w) X.A (eval (.Name x pos) X.env) Q E s:=by
 obtain⟨f,h1,h2⟩:=I.mod.blt
 exact Calls.Name_function_global I.ok.kind c (Calls.loadGlobal_builtin (by rw [I.ok.glob];exact I.mod.glob.keeps I.bk) e (by rw [I.ok.blt];exact h1.keeps I.bk) ((h2 x hn).trans hv) h) d
theorem Zl{x:Str}{v:V}{u:iV}{pos:Pos}(c:Gl X x)(e:X.mg x=some u)(r:Bb v u)(d:(x==("__debug__" : Str))=false:=by decide):PE X (.Name x pos) (tC v) :=
 λ_ _ _ H _ I h=>Ru I c e ⟨v,H,I,r,h⟩ d
def PC(X:Cx)(c:CmpOp)(a b:jB)(t:TE):Prop :=
 ∀(aa:List (iY×jE)) (s:iW) (σ:St) (H:Hp) (Q:VK),Inv X aa σ H s->t σ H Q ->
  wpAny (model X.prog X.w) X.A (eval a X.env) (λv s₁=>wpAny (model X.prog X.w) X.A (eval b X.env) (λu s₂=>wpAny (model X.prog X.w) X.A (compareOp c v u) (EP X aa σ Q) X.xe s₂) X.xe s₁) X.xe s
def tB(t:TE):TT:=fun σ H Q=>t σ H λx d=>∃c,x=.bl c/\Q c d
theorem GP{e:CmpOp}{t:TE}(h:PC X e a b t)(h1:behindInMarks e b=false:=by first | exact nobehind _ (by decide) (by decide) | rfl):PT X (.Compare a [e] [b] pos) (tB t):=by
 intro aa s σ H Q I hw
 refine wpAny_isTrue_Compare1 (thn (h aa s σ H _ I hw) λv n h1=>thn h1 λu l h2=>thn h2 λc m g=>Cz g λx j k f i=>?_) h1
 obtain⟨d,rfl,q⟩:=i
 cases f
 exact fK ⟨j,k,q⟩
theorem GQ{e:jB}{t:TE}(h:PE X e t)(he:∀c,isTrue e X.env c=(do let v <- c;standAt e.pos;holding [v] (truthy v)):=by intro _;rfl):PT X e (tB t):=by
 intro aa s σ H Q I hw
 refine isTrue_plain (thn (h aa s σ H _ I hw) λv l g=>Cz g λx j k f i=>?_) (he _)
 obtain⟨d,rfl,q⟩:=i
 cases f
 exact fK ⟨j,k,q⟩
def SF(t u:TT):TT:=fun σ H Q=>t σ H λc d=>if c=true then u σ d Q else Q false d
def VZ(t u:TT):TT:=fun σ H Q=>t σ H λc d=>if c=true then Q true d else u σ d Q
def SG(t:TT):TT:=fun σ H Q=>t σ H λc d=>Q (!c) d
theorem Zm(ha:PT X a tA):PW X (.BoolOp .And [a] pos) tA:=by
 intro d aa s σ H Q I h
 refine isTrue_and (thn (ha aa s σ H Q I h) λc f e=>?_)
 cases c with
 | true=>exact isTrue_and_nil e
 | false=>exact e
theorem GR(ha:PT X a tA):PW X (.BoolOp .Or [a] pos) tA:=by
 intro d aa s σ H Q I h
 refine isTrue_or (thn (ha aa s σ H Q I h) λc f e=>?_)
 cases c with
 | false=>exact isTrue_or_nil e
 | true=>exact e
theorem GS(ha:PT X a tA)(hb:PW X (.BoolOp .And (b :: rest) pos) kj):PW X (.BoolOp .And (a :: b :: rest) pos) (SF tA kj):=by
 intro g aa s σ H Q I h
 refine isTrue_and (thn (ha aa s σ H _ I h) λc i ⟨e,f,d⟩=>?_)
 cases c with
 | true=>exact hb g aa i σ e Q f d
 | false=>exact⟨e,f,d⟩
theorem MK(ha:PT X a tA)(hb:PW X (.BoolOp .Or (b :: rest) pos) kj):PW X (.BoolOp .Or (a :: b :: rest) pos) (VZ tA kj):=by
 intro g aa s σ H Q I h
 refine isTrue_or (thn (ha aa s σ H _ I h) λc i ⟨e,f,d⟩=>?_)
 cases c with
 | true=>exact⟨e,f,d⟩
 | false=>exact hb g aa i σ e Q f d
theorem GT(ha:PT X a tA):PT X (.UnaryOp .Not a pos) (SG tA):=by
 intro aa s σ H Q I h
 exact isTrue_not (ha aa s σ H (λc d=>Q (!c) d) I h)
def WA(t:TT)(ta tb:TE):TE:=fun σ H Q=>t σ H λc d=>if c=true then ta σ d Q else tb σ d Q
theorem Vw{c:jB}(hc:PT X c tA)(ha:PE X a ta)(hb:PE X b tb):PE X (.IfExp c a b pos) (WA tA ta tb):=by
 intro aa s σ H Q I h
 refine wpAny_IfExp (thn (hc aa s σ H _ I h) λd g ⟨f,i,e⟩=>?_)
 cases d with
 | true=>exact ha aa g σ f Q i e
 | false=>exact hb aa g σ f Q i e
end
def E8(K:iZ)(H:Hp)(a:iY)(xs:List V):Prop :=
 Rd H a (.lst xs) \/
  ∃(o:jE) (b:Array iV) (n:Nat),K.lookup a=some o/\o.cls=.type "list" /\ o.dict=none/\o.data=.seq b n/\b.size<=sizeLine/\Vals xs b.toList
def Kf(K:iZ)(H:Hp)(a:iY)(xs:List V):Prop :=
 Rd H a (.tup xs) \/
  ∃(o:jE) (b:Array iV) (n:Nat),K.lookup a=some o/\o.cls=.type "tuple" /\ o.data=.seq b n/\b.size<=sizeLine/\Vals xs b.toList
def SH:iV->Option V
 | .none=>some .non
 | .bool b=>some (.bl b)
 | .int i _=>some (.int i)
 | .str x _=>some (.str x)
 | .bytes b _=>some (.byt b)
 | .float b _=>some (.flt b)
 | .ref a=>some (.ref a)
 | .type n=>some (.ty n)
 | _=>none
theorem Bb.abs{x:V}{u:iV}(r:Bb x u):SH u=some x:=by
 cases x with
 | non=>cases r;rfl
 | bl _=>cases r;rfl
 | int _=>obtain⟨t,rfl⟩:=r;rfl
 | str _=>obtain⟨t,rfl⟩:=r;rfl
 | byt _=>obtain⟨t,rfl⟩:=r;rfl
 | flt _=>obtain⟨t,rfl⟩:=r;rfl
 | ref _=>cases r;rfl
 | ty _=>cases r;rfl
theorem Bb.inj{x y:V}{u:iV}(r:Bb x u)(q:Bb y u):x=y:=YO (r.abs.symm.trans q.abs)
theorem Vals.inj:∀{xs ys:List V} {a:List iV},Vals xs a->Vals ys a->xs=ys
 | _,_,_,.nil,.nil=>rfl
 | _,_,_,.cons r t,.cons c b=>by rw [r.inj c,Vals.inj t b]
section
variable {X:Cx}{aa:List (iY×jE)}{σ:St}{H:Hp}{s:iW}{a:iY}{xs ys:List V}{E:iV->iW->Prop}{st:jF}{rest:List jF}{t u:TS}{e:jB}{te:TE}{pos:Pos}{tg:jB}
theorem E8.of{K:iZ}(h:H a=some (.lst xs)):E8 K H a xs:=.inl (.inl h)
theorem Kf.of{K:iZ}(h:H a=some (.tup xs)):Kf K H a xs:=.inl (.inl h)
theorem Inv.list(I:Inv X aa σ H s)(h:E8 X.K H a xs):∃b:List iV,Vals xs b/\PlainL s.heap a b.toArray/\xs.length<=sizeLine:=by
 rcases h with h | ⟨o,b,n,hk,hc,c,d,hz,r⟩
 ·obtain⟨z,b,n,r,e⟩:=h.ok I.hok
  exact⟨b,r,⟨_,n,e,rfl,rfl,rfl⟩,z⟩
 ·refine⟨b.toList,r,⟨o,n,I.kIn a o hk,hc,c,by simpa using d⟩,?_⟩
  have e:=r.length
  simp only [Array.length_toList]at e
  omega
theorem Inv.tuple(I:Inv X aa σ H s)(h:Kf X.K H a xs):∃b:List iV,Vals xs b/\IsTup s.heap a b.toArray/\xs.length<=sizeLine:=by
 rcases h with h | ⟨o,b,n,hk,hc,c,hz,r⟩
 ·obtain⟨z,b,r,p⟩:=h.ok I.hok
  exact⟨b,r,p,z⟩
 ·refine⟨b.toList,r,⟨o,I.kIn a o hk,hc,n,by simpa using c⟩,?_⟩
  have e:=r.length
  simp only [Array.length_toList]at e
  omega
theorem Inv.list_inj(I:Inv X aa σ H s)(h:E8 X.K H a xs)(h':E8 X.K H a ys):xs=ys:=by
 obtain⟨g,r,⟨o,n,e,_,_,d⟩,_⟩:=I.list h
 obtain⟨b,i,⟨j,k,f,_,_,c⟩,_⟩:=I.list h'
 rw [e]at f;cases f
 rw [d]at c
 injection c with d1 _
 have:g=b:=by simpa using ZX Array.toList d1
 subst this
 exact r.inj i
theorem Inv.tuple_inj(I:Inv X aa σ H s)(h:Kf X.K H a xs)(h':Kf X.K H a ys):xs=ys:=by
 obtain⟨g,r,⟨o,e,_,n,d⟩,_⟩:=I.tuple h
 obtain⟨b,i,⟨j,f,_,k,c⟩,_⟩:=I.tuple h'
 rw [e]at f;cases f
 rw [d]at c
 injection c with d1 _
 have:g=b:=by simpa using ZX Array.toList d1
 subst this
 exact r.inj i
abbrev Cx.wish(X:Cx)(E:iV->iW->Prop):Cx:={ X with xe:=E }
abbrev Cx.nox(X:Cx):Cx:=X.wish λ_ _=>False
theorem Cx.Ok.wish{X:Cx}(ok:X.Ok)(E:iV->iW->Prop):(X.wish E).Ok :=
 ⟨ok.mod,ok.kind,ok.glob,ok.blt,ok.above,ok.inj,ok.has,ok.cab,ok.hd,ok.frames,ok.stk,ok.exf,ok.bs,ok.bsz,ok.noex,ok.exfs,ok.funs,ok.frf⟩
theorem Cx.Ok.unwish{X:Cx}{E:iV->iW->Prop}(ok:(X.wish E).Ok):X.Ok :=
 ⟨ok.mod,ok.kind,ok.glob,ok.blt,ok.above,ok.inj,ok.has,ok.cab,ok.hd,ok.frames,ok.stk,ok.exf,ok.bs,ok.bsz,ok.noex,ok.exfs,ok.funs,ok.frf⟩
theorem Inv.wish(I:Inv X aa σ H s)(E:iV->iW->Prop):Inv (X.wish E) aa σ H s:=⟨I.ok.wish E,I.os,I.bare,I.base,I.loc,I.cell,I.free,I.freeC,I.pin,I.hok,I.len⟩
theorem Inv.unwish(I:Inv (X.wish E) aa σ H s):Inv X aa σ H s:=⟨I.ok.unwish,I.os,I.bare,I.base,I.loc,I.cell,I.free,I.freeC,I.pin,I.hok,I.len⟩
theorem SP.unwish{D:Ends}{f:Flow}{c:iW}(h:SP (X.wish E) aa D f c):SP X aa D f c:=by
 cases f with
 | next=>obtain⟨σ',b,I,q⟩:=h;exact⟨σ',b,I.unwish,q⟩
 | brk=>obtain⟨σ',b,I,q⟩:=h;exact⟨σ',b,I.unwish,q⟩
 | cont=>obtain⟨σ',b,I,q⟩:=h;exact⟨σ',b,I.unwish,q⟩
 | ret u=>obtain⟨v,σ',b,I,r,q⟩:=h;exact⟨v,σ',b,I.unwish,r,q⟩
theorem PSs.nox{st:List jF}{t:TS}(h:PSs X.nox st t):PSs X st t:=λaa s σ H D I hw =>
 ZW (h aa s σ H D (I.wish _) hw) (λ_ _ q=>q.unwish) λ_ _ z=>False.elim z
def ML:TS:=λD σ H=>D.nx σ H
def SI(t u:TS):TS:=λD σ H=>t { D with nx:=u D } σ H
theorem Zn:PSs X [] ML:=λ_ _ σ H _ I h=>gO ⟨σ,H,I,h⟩
theorem Vx(h1:PS X st t)(h2:PSs X rest u):PSs X (st :: rest) (SI t u):=by
 intro aa s σ H D I h
 refine wpAny_execs_cons (thn (h1 aa s σ H { D with nx:=u D } I h) λf c q=>?_)
 cases f with
 | next =>
  obtain⟨σ',b,d,q⟩:=q
  exact h2 aa c σ' b D d q
 | ret v=>exact q
 | brk=>exact q
 | cont=>exact q
theorem Zo(h1:PS X st t):PSs X [st] t:=by
 intro aa s σ H D I h
 refine wpAny_execs_cons (thn (h1 aa s σ H D I h) λf b q=>?_)
 cases f with
 | next=>exact gO q
 | ret v=>exact q
 | brk=>exact q
 | cont=>exact q
theorem Inv.quiet{aa:List (iY×jE)}{σ:St}{H:Hp}{s:iW}(I:Inv X aa σ H s):interactive X.env=false:=by simp [interactive,I.ok.kind]
def MM(te:TE):TS:=λD σ H=>te σ H λ_ b=>D.nx σ b
theorem Zp(he:PE X e te)(hs:swapsWith e none pos.line X.env=pure false:=by rfl):PS X (.Expr e pos) (MM te):=by
 intro aa s σ H D I h
 exact wpAny_Expr_any (thn (he aa s σ H _ I h) λv i b=>Cz b λx d f g c=>⟨σ,d,f,c⟩) I.quiet hs
def SJ(te:TE):TS:=λD σ H=>te σ H D.rt
theorem GU(he:PE X e te):PS X (.Return (some e) pos) (SJ te):=by
 intro aa s σ H D I h
 exact wpAny_Return_some (thn (he aa s σ H _ I h) λv i c=>Cz c λx f g b d=>⟨x,σ,f,g,b,d⟩)
def SK(c:TT)(t u:TS):TS:=λD σ H=>c σ H λb d=>if b=true then t D σ d else u D σ d
theorem MN{c:jB}{a b:List jF}{f:TT}(hc:PT X c f)(ha:PSs X a t)(hb:PSs X b u):PS X (.If c a b pos) (SK f t u):=by
 intro aa s σ H D I h
 refine wpAny_If (thn (hc aa s σ H _ I h) λd j ⟨i,k,g⟩=>?_)
 cases d with
 | true=>exact ha aa j σ i D k g
 | false=>exact hb aa j σ i D k g
abbrev TG:=V->St->Hp->(St->Hp->Prop)->Prop
abbrev TGs:=List V->St->Hp->(St->Hp->Prop)->Prop
def PG(X:Cx)(b:jB)(t:TG):Prop :=
 ∀(aa:List (iY×jE)) (s:iW) (σ:St) (H:Hp) (v:V) (u:iV) (Q:St->Hp->Prop),Inv X aa σ H s->Bb v u->t v σ H Q ->
  wpAny (model X.prog X.w) X.A (assign b X.env u) (λ_ c=>∃ σ' H',Inv X aa σ' H' c/\Q σ' H') X.xe s
def PGs(X:Cx)(ts:List jB)(t:TGs):Prop :=
 ∀(aa:List (iY×jE)) (s:iW) (σ:St) (H:Hp) (vs:List V) (b:List iV) (Q:St->Hp->Prop),Inv X aa σ H s->Vals vs b->t vs σ H Q ->
  wpAny (model X.prog X.w) X.A (assignInOrder ((assignEach ts X.env).map (·.2)) b) (λ_ c=>∃ σ' H',Inv X aa σ' H' c/\Q σ' H') X.xe s
def Vy(i:Nat):TG:=λv σ H Q=>Q (σ.set i (some v)) H
theorem Zq{i:Nat}{x:Str}(c:X.N.Nodup)(b:X.N[i]?=some x)(hx:Loc X.env.scope x)(hf:X.fn x=true\/X.env.scope.names.lookup x=some .local:=by first | exact .inl rfl | exact .inr rfl | assumption):PG X (.Name x pos) (Vy i):=by
 intro aa s σ H v u Q I r h
 exact wpAny_assign_Name (E7 I c b hx r (λf d=>⟨_,H,d,h⟩) hf)
def SL:TGs:=λb σ H Q=>b=[]/\Q σ H
def MP(t:TG)(u:TGs):TGs:=λb σ H Q=>∃v r,b=v :: r/\t v σ H fun σ' H'=>u r σ' H' Q
theorem Zr:PGs X [] SL:=by
 intro aa s σ H vs us Q I r h
 obtain⟨e,h⟩:=h
 subst e
 cases r
 exact assignInOrder_nil ⟨σ,H,I,h⟩
theorem Vz{e:jB}{es:List jB}{t:TG}{u:TGs}(h1:PG X e t)(h2:PGs X es u)
  (hs:(assignEach (e :: es) X.env).map (·.2)=assign e X.env :: (assignEach es X.env).map (·.2):=by rfl):PGs X (e :: es) (MP t u):=by
 intro aa s σ H vs us Q I r h
 obtain⟨v,k,c,h⟩:=h
 subst c
 cases r with
 | cons r d =>
  rw [hs]
  refine fC (thn (h1 aa s σ H _ _ _ I r h) λ_ j b=>?_)
  obtain⟨σ1,g,i,f⟩:=b
  exact h2 aa j σ1 g _ _ Q i d f
def SM(K:iZ)(n:Nat)(t:TGs):TG:=λv σ H Q=>∃a xs,v=.ref a/\Kf K H a xs/\xs.length=n/\t xs σ H Q
theorem Ps{es:List jB}{k:Nat}{t:TGs}{n:Nat}(hc:X.calm=true)(h:PGs X es t)
  (hn:(assignEach es X.env).length=n:=by rfl) (g:(assignEach es X.env).findIdx? (·.1)=none:=by rfl):PG X (.Tuple es k pos) (SM X.K n t):=by
 intro aa s σ H v u Q I r c
 obtain⟨a,xs,l,hq,i,c⟩:=c
 subst l
 cases r
 obtain⟨p,d,j,hz⟩:=I.tuple hq
 refine assign_Tuple_tuple (I.ok.hd hc) j (by simp [hn,<- i,d.length]) g λf hx=>?_
 have m:Inv X aa σ H { s with heap:=f }:=I.kept (t':=s.toks) λb o e=>hx b o (W_ (N_ e)) e
 exact h aa _ σ H xs _ Q m (by simpa using d) c
def Zs(te:TE)(g:TG):TS:=λD σ H=>te σ H λx b=>g x σ b D.nx
theorem V0{tg e:jB}{te:TE}{g:TG}(he:PE X e te)(c:PG X tg g)(hs:swapsWithSole [tg] e pos.line X.env=pure false:=by rfl)(f:swappedStores [tg] e X.env=pure none:=by rfl)
  (h1:(assignEach [tg] X.env).map (·.2)=[assign tg X.env]:=by rfl):PS X (.Assign [tg] e pos) (Zs te g):=by
 intro aa s σ H D I h
 refine wpAny_Assign_stores (thn (he aa s σ H _ I h) λv l b=>Cz b λx j k d i=>?_) hs f
 rw [h1]
 exact thn (c aa l σ j x v _ k d i) λ_ m q=>q
theorem GV{i:Nat}{x:Str}{e:jB}{te:TE}{b:Pos}(j:X.N.Nodup)(g:X.N[i]?=some x)(hx:Loc X.env.scope x)(he:PE X e te)(hs:swapsWith e (some (.Name x b)) pos.line X.env=pure false:=by rfl)(hf:X.fn x=true\/X.env.scope.names.lookup x=some .local:=by first | exact .inl rfl | exact .inr rfl | assumption) :
  PS X (.Assign [.Name x b] e pos) (Zs te (Vy i)):=by
 intro aa s σ H D I h
 refine wpAny_Assign_Name (thn (he aa s σ H _ I h) λv o d=>Cz d λy l m f k=>?_) hs
 exact E7 m j g hx f (λn c=>⟨_,l,c,k⟩) hf
def GW(c:TT)(g:TS):TS:=λD σ H=>∃W:Nat->St->Hp->Prop,(∃m,W m σ H)/\∀m σ H,W m σ H ->
 c σ H λb f=>if b=true then ∃N:St->Hp->Prop,(∀ σ' H',N σ' H'->∃d,d < m/\W d σ' H')/\g { D with nx:=N,ct:=N,bk:=D.nx } σ f else D.nx σ f
theorem V1{c:jB}{d:List jF}{y:TT}{C:TS}(hp:PassesOwn (model X.prog X.w) X.A X.env X.xe)(hc:PT X c y)(hb:PSs X d C):PS X (.While c d [] pos) (GW y C):=by
 intro aa s σ H D I h
 obtain⟨W,⟨J,L⟩,g⟩:=h
 refine wpAny_While (codeAny_whileLoop (λn G=>∃ σ' H',Inv X aa σ' H' G/\W n σ' H') ?_ J ⟨σ,H,I,L⟩)
 rintro n P ⟨σ1,B,O,M⟩
 refine cQ hp (thn (hc aa P σ1 B _ O (g n σ1 B M)) λb F ⟨z,r,j⟩=>?_)
 cases b with
 | true =>
  obtain⟨N,x,j⟩:=j
  rw [Q_ rfl]
  refine cQ hp (thn (hb aa F σ1 z _ r j) λf Q k=>?_)
  cases f with
  | next =>
   obtain⟨σ3,i,q,l⟩:=k
   obtain⟨m,p,o⟩:=x σ3 i l
   exact⟨m,p,σ3,i,q,o⟩
  | cont =>
   obtain⟨σ3,i,q,l⟩:=k
   obtain⟨m,p,o⟩:=x σ3 i l
   exact⟨m,p,σ3,i,q,o⟩
  | brk=>exact k
  | ret v=>exact k
 | false =>
  rw [J_ L_]
  exact gO ⟨σ1,z,r,j⟩
structure It where
 go:Nat->Hp->Prop
 yld:Nat->Hp->V->Hp->Prop
 stop:Nat->Hp->Prop
def Il(X:Cx)(aa:List (iY×jE))(H:Hp)(b:iY):Prop :=
 H b=none/\b≠X.env.locals/\b∉X.fs/\(b∈X.ex\/X.s₀.heap.objs.size<=b)/\(∀x c,X.env.cells.lookup x=some c->c≠b)/\∀p∈X.pn++aa,p.1≠b
theorem Inv.fpOk{X:Cx}{aa:List (iY×jE)}{σ:St}{H H':Hp}{s:iW}{b:iY}(I:Inv X aa σ H s)(hb:s.heap.objs.size<=b)(hn:H' b=none):Il X aa H' b:=by
 refine⟨hn,fL (U_ I.lt hb),I.nofs hb,.inr (G_ I.sz hb),λx c e z=>?_,λp hp z=>?_⟩
 ·obtain⟨v,q⟩:=I.cell x c e
  exact absurd (U_ q.lt (by rw [z];exact hb)) (aS _)
 ·exact absurd (U_ (N_ (I.pin p hp).1) (by rw [z];exact hb)) (aS _)
structure Turn(P:i_)(w:jA)(K:iZ)(tg:jB)(J:It)(fp:List iY)(it:iY)(tn:Nat->jD->Prop):Prop where
 mem:it∈fp
 obj:∀i h,tn i h->∀b∈fp,∃o,h.get? b=some o/\∀v,o.data≠.cell v
 keep:∀i h h',tn i h->(∀b∈fp,∀o,h.get? b=some o->h'.get? b=some o)->tn i h'
 item:∀(X:Cx),X.prog=P->X.w=w->X.K=K->X.calm=true->∀(i:Nat) (aa:List (iY×jE)) (s:iW) (σ:St) (H:Hp) (E:iV->iW->Prop),Inv X aa σ H s->(∀b∈fp,Il X aa H b)->tn i s.heap->J.go i H ->
  wpAny (model P w) X.A (pyNext (.ref it)) (λr s1=>∃u,r=some u /\
   wpAny (model P w) X.A (letOwnedTupleGo tg (.ref it) u) (λ_ s2=>∃x H',Inv X aa σ H' s2/\Bb x u/\J.yld i H x H'/\tn (i+1) s2.heap/\∀b∈fp,H' b=none) E s1) E s
 done:∀(X:Cx),X.prog=P->X.w=w->X.K=K->X.calm=true->∀(i:Nat) (aa:List (iY×jE)) (s:iW) (σ:St) (H:Hp) (E:iV->iW->Prop),Inv X aa σ H s->(∀b∈fp,Il X aa H b)->tn i s.heap->J.stop i H ->
  wpAny (model P w) X.A (pyNext (.ref it)) (λr s1=>r=none/\Inv X aa σ H s1) E s
 self:∀(A:jC) (i:Nat) (s:iW) (Q:iV->iW->Prop) (E:iV->iW->Prop),tn i s.heap->Q (.ref it) s->wpAny (model P w) A (pyIter (.ref it)) Q E s
abbrev TI:=St->Hp->(It->Hp->Prop)->Prop
def PIE(X:Cx)(aa:List (iY×jE))(σ:St)(tg:jB)(R:It->Hp->Prop)(f:iV)(d:iW):Prop :=
 ∃(c:iY) (fp:List iY) (tn:Nat->jD->Prop) (J:It) (H':Hp),f=.ref c/\Inv X aa σ H' d/\Turn X.prog X.w X.K tg J fp c tn/\tn 0 d.heap/\(∀b∈fp,Il X aa H' b)/\R J H'
def PI(X:Cx)(tg iter:jB)(b:TI):Prop :=
 ∀(aa:List (iY×jE)) (s:iW) (σ:St) (H:Hp) (R:It->Hp->Prop),Inv X aa σ H s->b σ H R ->
  wpAny (model X.prog X.w) X.A (eval iter X.env) (λv c=>wpAny (model X.prog X.w) X.A (pyIter v) (PIE X aa σ tg R) X.xe c) X.xe s
theorem V2{M:Model}{A:jC}{E:iV->iW->Prop}{s:iW}{tg:jB}{c:iY}{u:iV}{o:jE}{n:String}{vs:Array iV}{Q:Unit->iW->Prop}(d:s.heap.get? c=some o)(hc:o.cls=.type n)(f:o.data=.fields vs)
  (hn:["enumerate","zip","dict_itemiterator","dict_reverseitemiterator","odict_iterator","itertools.zip_longest","itertools.pairwise"].contains n=false) (b:Q () s):wpAny M A (letOwnedTupleGo tg (.ref c) u) Q E s:=by
 unfold letOwnedTupleGo
 cases tg <;> first
  | exact C_ b
  | (cases u <;> first
    | exact C_ b
    | (refine A_ (wpAny_load d ?_)
       rw [hc, f]
       show wpAny M A (if (["enumerate", "zip", "dict_itemiterator", "dict_reverseitemiterator", "odict_iterator", "itertools.zip_longest", "itertools.pairwise"].contains n && vs[0]? == some (rawInt _)) = true then _ else _) Q E s
       rw [J_ (by intro h; rw [hn, Bool.false_and] at h; cases h)]
       exact C_ b))
def Itl(K:iZ)(a:iY):It :=
 ⟨λi H=>∃xs x,E8 K H a xs/\xs[i]?=some x,λi H x b=>b=H/\∀xs,E8 K H a xs->xs[i]?=some x,λi H=>∃xs,E8 K H a xs/\xs.length<=i⟩
def Itt(K:iZ)(a:iY):It :=
 ⟨λi H=>∃xs x,Kf K H a xs/\xs[i]?=some x,λi H x b=>b=H/\∀xs,Kf K H a xs->xs[i]?=some x,λi H=>∃xs,Kf K H a xs/\xs.length<=i⟩
def Itr(lo:Int)(n:Nat):It:=⟨λi _=>i < n,λi H x b=>b=H/\x=.int (lo+i),λi _=>n<=i⟩
theorem T3{P:i_}{w:jA}{K:iZ}{tg:jB}(a f:iY):Turn P w K tg (Itl K a) [f] f (λi h=>h.IsListIter f a i) where
 mem:=by simp
 obj:=λi h st b hb=>by
  have e:b=f:=by simpa using hb
  subst e
  obtain⟨o,e,c,d⟩:=st
  exact⟨o,e,λv z=>by rw [d]at z;cases z⟩
 keep:=λi h g st k=>st.at λo e=>k f (by simp) o e
 item:=by
  intro X n B y hc i aa s σ H E I hf st hg
  subst n B y
  obtain⟨xs,x,hq,hx⟩:=hg
  obtain⟨F,m,p,hz⟩:=I.list hq
  obtain⟨u,hu,G⟩:=m.get hx
  obtain⟨l,A,J,j,q,r⟩:=hf f (by simp)
  refine wpAny_pyNext_list_item st p.isList (x:=u) (by simpa using hu) λg C L=>?_
  have M:Inv X aa σ H { s with heap:=g }:=I.turned (t':=s.toks) (λb o hb e=>(L.2 b hb).trans e) l A j q r
  obtain⟨o,e,c,d⟩:=id C
  exact⟨u,rfl,V2 (s:={ s with heap:=g }) e c d (by decide) ⟨x,H,M,G,⟨rfl,λys hy=>by rw [I.list_inj hy hq];exact hx⟩,C,λb hb=>(hf b hb).1⟩⟩
 done:=by
  intro X n B y hc i aa s σ H E I hf st hg
  subst n B y
  obtain⟨xs,hq,hx⟩:=hg
  obtain⟨F,m,p,hz⟩:=I.list hq
  obtain⟨l,A,J,j,q,r⟩:=hf f (by simp)
  have N:=m.length
  exact wpAny_pyNext_list_end (I.ok.hd hc) st p.isList (by simp;omega) λg D=>⟨rfl,I.turned (t':=s.toks) (λb o hb e=>D b o hb e) l A j q r⟩
 self:=λ_ _ _ _ _ st h=>wpAny_pyIter_listiter st h
theorem Pt{P:i_}{w:jA}{K:iZ}{tg:jB}(a f:iY):Turn P w K tg (Itt K a) [f] f (λi h=>h.IsTupleIter f a i) where
 mem:=by simp
 obj:=λi h st b hb=>by
  have e:b=f:=by simpa using hb
  subst e
  obtain⟨o,e,c,d⟩:=st
  exact⟨o,e,λv z=>by rw [d]at z;cases z⟩
 keep:=λi h g st k=>st.at λo e=>k f (by simp) o e
 item:=by
  intro X q C A hc i aa s σ H E I hf st hg
  subst q C A
  obtain⟨xs,x,hq,hx⟩:=hg
  obtain⟨m,n,p,hz⟩:=I.tuple hq
  obtain⟨u,hu,G⟩:=n.get hx
  obtain⟨l,B,J,j,r,y⟩:=hf f (by simp)
  refine wpAny_pyNext_tuple_item st (show s.heap.IsTuple a m.toArray from p) (x:=u) (by simpa using hu) λg D L=>?_
  have M:Inv X aa σ H { s with heap:=g }:=I.turned (t':=s.toks) (λb o hb e=>(L.2 b hb).trans e) l B j r y
  obtain⟨o,e,c,d⟩:=id D
  exact⟨u,rfl,V2 (s:={ s with heap:=g }) e c d (by decide) ⟨x,H,M,G,⟨rfl,λys hy=>by rw [I.tuple_inj hy hq];exact hx⟩,D,λb hb=>(hf b hb).1⟩⟩
 done:=by
  intro X q C A hc i aa s σ H E I hf st hg
  subst q C A
  obtain⟨xs,hq,hx⟩:=hg
  obtain⟨m,n,p,hz⟩:=I.tuple hq
  obtain⟨l,B,J,j,r,y⟩:=hf f (by simp)
  have N:=n.length
  exact wpAny_pyNext_tuple_end (I.ok.hd hc) st (show s.heap.IsTuple a m.toArray from p) (by simp;omega) λg F=>⟨rfl,I.turned (t':=s.toks) (λb o hb e=>F b o hb e) l B j r y⟩
 self:=λ_ _ _ _ _ st h=>wpAny_pyIter_tupleiter st h
theorem Pu{P:i_}{w:jA}{K:iZ}{tg:jB}(c:iY)(lo:Int)(n:Nat):Turn P w K tg (Itr lo n) [c] c (λi h=>IsRangeIter h c (lo+(i:Nat) * 1) ((n:Int) - (i:Nat)) 1) where
 mem:=by simp
 obj:=λi h st b hb=>by
  have e:b=c:=by simpa using hb
  subst e
  exact⟨_,st,λv z=>by
   have F:Data.fields _=Data.cell v:=z
   cases F⟩
 keep:=λi h d st k=>k c (by simp) _ st
 item:=by
  intro X j r p hc i aa s σ H E I hf st hg
  subst j r p
  obtain⟨g,q,C,f,l,m⟩:=hf c (by simp)
  have W:=Walks.range (prog:=X.prog) (w:=X.w) (I.ok.hd hc) c lo 1 n
  refine W.item i s _ _ hg st λv d y hv x B=>?_
  obtain⟨t,rfl⟩:=hv
  have D:Inv X aa σ H { s with heap:=d,toks:=y }:=I.turned (λb o hb e=>B b o (by simpa using hb) e) g q f l m
  refine⟨_,rfl,V2 (s:={ s with heap:=d,toks:=y }) (n := "range_iterator") x rfl rfl (by decide) ⟨.int (lo+i),H,D,⟨t,?_⟩,⟨rfl,rfl⟩,x,λb hb=>(hf b hb).1⟩⟩
  rw [Int.mul_one]
 done:=by
  intro X j r p hc i aa s σ H E I hf st hg
  subst j r p
  obtain⟨g,q,C,f,l,m⟩:=hf c (by simp)
  exact wpAny_pyNext_range_end (I.ok.hd hc) st (by have:n<=i:=hg;omega) λd A=>⟨rfl,I.turned (t':=s.toks) (λb o hb e=>A b o hb e) g q f l m⟩
 self:=λ_ _ _ _ _ st h=>wpAny_pyIter_rangeiter st h
theorem V3{aa:List (iY×jE)}{σ:St}{H:Hp}{s:iW}{R:It->Hp->Prop}{E:iV->iW->Prop}{lo c:Int}{t u v:Tok}{tk:Nat}(I:Inv X aa σ H s)(h1:-(2 ^ 62)<=lo)(h2:lo < 2 ^ 62)(h:-(2 ^ 62)<=c)(f:c < 2 ^ 62)
  (q:R (Itr lo (c - lo).toNat) H):wpAny (model X.prog X.w) X.A (pyIter (.ref s.heap.objs.size)) (PIE X aa σ tg R) E { s with heap:=s.heap.push { cls:=.type "range",data:=.fields #[.int lo t,.int c u,.int 1 v] },toks:=tk }:=by
 refine wpAny_pyIter_range (IsRange.new ..) (small_one h1 h2 h f) ?_
 have d:Inv X aa σ H { s with heap:=s.heap.push { cls:=.type "range",data:=.fields #[.int lo t,.int c u,.int 1 v] },toks:=tk }:=I.kept λb o e=>DD _ e
 refine⟨(s.heap.push { cls:=.type "range",data:=.fields #[.int lo t,.int c u,.int 1 v] }).objs.size,[(s.heap.push { cls:=.type "range",data:=.fields #[.int lo t,.int c u,.int 1 v] }).objs.size],_,_,H,rfl,
  d.kept (t':=tk) λb o e=>DD _ e,Pu _ lo (c - lo).toNat,?_,λb hb=>?_,q⟩
 ·have g:lo+((0:Nat):Int) * 1=lo:=by simp
  have e2:(((c - lo).toNat:Nat):Int) - ((0:Nat):Int)=Builtin.Range.rangeSize lo c 1:=by rw [rangeSize_one];split <;> omega
  show IsRangeIter _ _ (lo+((0:Nat):Int) * 1) ((((c - lo).toNat:Nat):Int) - ((0:Nat):Int)) 1
  rw [g,e2]
  exact R_ _ rfl
 ·have e:b=(s.heap.push { cls:=.type "range",data:=.fields #[.int lo t,.int c u,.int 1 v] }).objs.size:=by simpa using hb
  subst e
  exact d.fpOk (E_ _) (d.hok.fresh (E_ _))
def MQ(d:TA):TI:=fun σ H R=>d σ H λb c=>∃j:Int,b=[.int j]/\-(2 ^ 62)<=j/\j < 2 ^ 62/\R (Itr 0 j.toNat) c
theorem T4{a:jB}{c:TA}{p pos:Pos}(d:Gl X "range") (f:X.mg "range" = none) (ha:PA X [a] c) (hs:starEach [a] X.env=[(false,eval a X.env)]:=by rfl):PI X tg (.Call (.Name "range" p) [a] [] pos) (MQ c):=by
 intro aa s σ H R I h
 refine Call_ (Ep I d f boot_range (aO (thn (ha pos aa s σ H _ I h) λn w i=>Cz i λv o m k b=>?_) hs rfl))
 obtain⟨j,e,b,g,q⟩:=b
 subst e
 cases k with
 | cons r l =>
  cases l
  obtain⟨t,rfl⟩:=r
  exact call_range_1 (V3 m (by omega) (by omega) b g (by simpa using q))
def SN(f:TI)(g:TG)(h:TS):TS:=λD σ H=>f σ H λJ d=>∃W:Nat->Nat->St->Hp->Prop,(∃m,W 0 m σ d)/\∀i m σ H,W i m σ H ->
 (J.stop i H/\D.nx σ H)\/(J.go i H/\∃N:St->Hp->Prop,(∀ σ' b,N σ' b->∃c,c < m/\W (i+1) c σ' b)/\∀x b,J.yld i H x b->g x σ b fun σ2 H2=>h { D with nx:=N,ct:=N,bk:=D.nx } σ2 H2)
def Iw(fp:List iY)(h:jD):List (iY×jE):=fp.filterMap λb=>(h.get? b).map λo=>(b,o)
theorem Er{fp:List iY}{h:jD}{b:iY}{o:jE}(hb:b∈fp)(e:h.get? b=some o):(b,o)∈Iw fp h:=fD.mpr ⟨b,hb,by rw [e];rfl⟩
theorem T5{fp:List iY}{h:jD}{p:iY×jE}(hp:p∈Iw fp h):p.1∈fp/\h.get? p.1=some p.2:=by
 obtain⟨b,hb,e⟩:=fD.mp hp
 cases q:h.get? b with
 | none=>rw [q]at e;cases e
 | some o =>
  rw [q]at e
  have c:(b,o)=p:=YO e
  subst c
  exact⟨hb,q⟩
theorem Inv.pinned{aa:List (iY×jE)}{σ:St}{H:Hp}{s:iW}{fp:List iY}(I:Inv X aa σ H s)(hf:∀b∈fp,Il X aa H b)(h:∀b∈fp,∃o,s.heap.get? b=some o/\∀v,o.data≠.cell v):Inv X (aa++Iw fp s.heap) σ H s :=
 I.pins_of λp hp=>(O_.mp hp).elim (λz=>I.pin p (YK _ z)) λz=>by
  obtain⟨hb,e⟩:=T5 z
  obtain⟨f,g,i,_⟩:=hf p.1 hb
  obtain⟨o,c,d⟩:=h p.1 hb
  rw [e]at c;cases c
  exact⟨e,f,g,i,d⟩
theorem Inv.unpinned{aa pl:List (iY×jE)}{σ:St}{H:Hp}{s:iW}(I:Inv X (aa++pl) σ H s):Inv X aa σ H s:=I.pins_of λp hp=>I.pin p (YK _ (ZP _ hp))
theorem V4{iter:jB}{k:List jF}{wi:TI}{g:TG}{Y:TS}{pos:Pos}(hp:PassesOwn (model X.prog X.w) X.A X.env X.xe)(hc:X.calm=true)(hi:PI X tg iter wi)(hg:PG X tg g)(hb:PSs X k Y)
  (hs:∀x,foldedSetIterable iter X.env x=pure x:=by intro _;rfl):PS X (.For tg iter k [] pos) (SN wi g Y):=by
 intro aa s σ H D I h
 refine wpAny_For (thn (hi aa s σ H _ I h) λv s1 h1=>thn h1 λwz s2 h2=>?_) hs
 obtain⟨it,q,R,J,H2,e,I2,T,Q,U,W,⟨m0,w0⟩,B⟩:=h2
 subst e
 have O:∀{H':Hp},(∀b∈q,H' b=none)->∀b∈q,Il X aa H' b:=λhn b hb=>⟨hn b hb,(U b hb).2⟩
 refine codeAny_forLoop_any (λn S=>∃i σ' H',Inv X aa σ' H' S/\R i S.heap/\(∀b∈q,H' b=none)/\W i n σ' H') ?_ m0 ⟨0,σ,H2,I2,Q,λb hb=>(U b hb).1,w0⟩
 rintro n Z ⟨i,σ3,F,I3,z,y,w3⟩
 rcases B i n σ3 F w3 with⟨stop,qn⟩ | ⟨go,N,hN,step⟩
 ·refine cQ hp (thn (T.done X rfl rfl rfl hc i aa Z σ3 F X.xe I3 (O y) z stop) λr s4 ⟨M,I4⟩=>?_)
  subst M
  exact gO ⟨σ3,F,I4,qn⟩
 ·refine cQ hp (thn (T.item X rfl rfl rfl hc i aa Z σ3 F X.xe I3 (O y) z go) λr s4 ⟨u,M,h4⟩=>?_)
  subst M
  refine cQ hp (thn h4 λ_ s5 so=>?_)
  obtain⟨x,H5,I5,r5,y5,p,P⟩:=so
  have L:=I5.pinned (O P) (T.obj _ _ p)
  refine cQ hp (thn (hg _ s5 σ3 H5 x u _ L r5 (step x H5 y5)) λ_ s6 qz=>?_)
  obtain⟨σ6,H6,I6,q6⟩:=qz
  refine cQ hp (thn (hb _ s6 σ6 H6 _ I6 q6) λf G l=>?_)
  have again:∀{σ7:St} {j:Hp},Inv X (aa++Iw q s5.heap) σ7 j G->N σ7 j->∃m,m < n/\∃i σ' H',Inv X aa σ' H' G/\R i G.heap/\(∀b∈q,H' b=none)/\W i m σ' H':=λ{σ7 j} c C=>by
   obtain⟨m',hm,w7⟩:=hN σ7 j C
   refine⟨m',hm,i+1,σ7,j,c.unpinned,T.keep _ _ _ p λb hb o e=>(c.pin (b,o) (YK _ (YK _ (Er hb e)))).1,λb hb=>?_,w7⟩
   obtain⟨o,e,d⟩:=T.obj _ _ p b hb
   exact(c.pin (b,o) (YK _ (YK _ (Er hb e)))).2.1
  cases f with
  | next=>obtain⟨σ7,j,c,C⟩:=l;exact again c C
  | cont=>obtain⟨σ7,j,c,C⟩:=l;exact again c C
  | brk=>obtain⟨σ7,j,c,l⟩:=l;exact⟨σ7,j,c.unpinned,l⟩
  | ret v=>obtain⟨x7,σ7,j,c,r7,l⟩:=l;exact⟨x7,σ7,j,c.unpinned,r7,l⟩
end
abbrev R2:=V->V->Hp->VK->Prop
def Hu(X:Cx)(f:iV->iV->Sem iV)(r:R2):Prop :=
 ∀(a:List (iY×jE)) (s:iW) (σ:St) (H:Hp) (x y:V) (v u:iV) (Q:VK),Inv X a σ H s->Bb x v->Bb y u->r x y H Q ->
  wpAny (model X.prog X.w) X.A (f v u) (EP X a σ Q) X.xe s
def Ex(X:Cx)(f:iV)(r:List V->Hp->VK->Prop):Prop :=
 ∀(b:List (iY×jE)) (s:iW) (σ:St) (H:Hp) (xs:List V) (a:List iV) (Q:VK),Inv X b σ H s->Vals xs a->r xs H Q ->
  wpAny (model X.prog X.w) X.A (call f a) (EP X b σ Q) X.xe s
def RT(r:R2)(c d:TE):TE:=fun σ H Q=>c σ H λx a=>d σ a λy b=>r x y b Q
def rI(C:Int->Int->Prop)(g:Int->Int->V):R2:=λx y H Q=>∃i j,x=.int i/\y=.int j/\C i j/\Q (g i j) H
def Zf(g:Int->Int->V):R2:=λx y H Q=>∃i j,x=.int i/\y=.int j/\Q (g i j) H
section
variable {X:Cx}{a b c:jB}{ta tb tc:TE}{pos:Pos}{e:jB}{es:List jB}{te:TE}{t:TA}{aa:List (iY×jE)}{σ:St}{H:Hp}{s s':iW}{CX:CXT}{k:Nat}{f C:iY}{fd:jG}{ps:List Str}{sp:Sp}{ma:List V}{ds:List iV}{E:XK}{x m:Str}{p aq:Pos}{o:jB}{id T:String}{r:List V->Hp->VK->Prop}
theorem MR(ha:PE X a ta)(hb:PE X b tb){aa:List (iY×jE)}{s:iW}{σ:St}{H:Hp}{R:V->V->Hp->Prop}(I:Inv X aa σ H s)
  (h:ta σ H λx i=>tb σ i λy d=>R x y d) {Q:iV->iW->Prop} {f:iV->iV->Sem iV}
  (hf:∀v u g x y d,Inv X aa σ d g->Bb x v->Bb y u->R x y d->wpAny (model X.prog X.w) X.A (f v u) Q X.xe g) :
  wpAny (model X.prog X.w) X.A (eval a X.env) (λv s₁=>wpAny (model X.prog X.w) X.A (eval b X.env) (λu s₂=>wpAny (model X.prog X.w) X.A (f v u) Q X.xe s₂) X.xe s₁) X.xe s:=by
 refine thn (ha aa s σ H _ I h) λv F l=>Cz l λx i G B D=>?_
 refine thn (hb aa F σ i _ G D) λu g q=>Cz q λy d j z n=>?_
 exact hf v u g x y d j B z n
theorem MS{d:Operator}{r:R2}(n:Hu X (binaryOp d) r)(ha:PE X a ta)(hb:PE X b tb):PE X (.BinOp a d b pos) (RT r ta tb):=by
 intro aa s σ H Q I h
 exact wpAny_BinOp (MR ha hb I h λv u l x y w i g j q=>n aa l σ w x y v u Q i g j q)
theorem LK{f:iV->iV->Sem iV}{C:Int->Int->Prop}{g:Int->Int->Int}
  (rule:∀(i j:Int) (t u:Tok) (s:iW) (Q:iV->iW->Prop) (E:iV->iW->Prop),C i j->Q (.int (g i j) s.toks) { s with toks:=s.toks+1 }->wpAny (model X.prog X.w) X.A (f (.int i t) (.int j u)) Q E s) :
  Hu X f (rI C λi j=>.int (g i j)):=by
 intro aa s σ H x y v u Q I rx ry h
 obtain⟨i,j,rfl,rfl,hc,q⟩:=h
 obtain⟨t,rfl⟩:=rx
 obtain⟨d,rfl⟩:=ry
 exact rule i j t d s _ _ hc ⟨.int (g i j),H,I.tok _,⟨_,rfl⟩,q⟩
theorem Zt{f:iV->iV->Sem iV}{g:Int->Int->Int}
  (rule:∀(i j:Int) (t u:Tok) (s:iW) (Q:iV->iW->Prop) (E:iV->iW->Prop),Q (.int (g i j) s.toks) { s with toks:=s.toks+1 }->wpAny (model X.prog X.w) X.A (f (.int i t) (.int j u)) Q E s) :
  Hu X f (Zf λi j=>.int (g i j)):=by
 intro aa s σ H x y v u Q I rx ry h
 obtain⟨i,j,rfl,rfl,q⟩:=h
 obtain⟨t,rfl⟩:=rx
 obtain⟨d,rfl⟩:=ry
 exact rule i j t d s _ _ ⟨.int (g i j),H,I.tok _,⟨_,rfl⟩,q⟩
theorem GX{f:iV->iV->Sem iV}{g:Int->Int->Bool}
  (rule:∀(i j:Int) (t u:Tok) (s:iW) (Q:iV->iW->Prop) (E:iV->iW->Prop),Q (.bool (g i j)) s->wpAny (model X.prog X.w) X.A (f (.int i t) (.int j u)) Q E s) :
  Hu X f (Zf λi j=>.bl (g i j)):=by
 intro aa s σ H x y v u Q I rx ry h
 obtain⟨i,j,rfl,rfl,q⟩:=h
 obtain⟨t,rfl⟩:=rx
 obtain⟨d,rfl⟩:=ry
 exact rule i j t d s _ _ ⟨.bl (g i j),H,I,rfl,q⟩
def CDiv(i j:Int):Prop:=0 < j/\j < 1073741824
def CPow(i j:Int):Prop:=0<=j/\j<=1000000/\i.natAbs < 2 ^ 64
def CMul(i j:Int):Prop:=(-(2 ^ 64) < i/\i < 2 ^ 64)\/(-(2 ^ 64) < j/\j < 2 ^ 64)
theorem CMul.ok{i j:Int}(h:CMul i j):IntMulOk i j:=by
 rcases h with⟨h1,h2⟩ | ⟨h1,h2⟩
 ·exact .of_left (intBits_le_64 h1 h2)
 ·exact .of_right (intBits_le_64 h1 h2)
theorem Pw(k:Nat):(0:Int)<=2 ^ k:=by
 rw [two_pow_cast]
 exact ZR _
theorem GY:Hu X (binaryOp .Add) (Zf λi j=>.int (i+j)):=Zt λ_ _ _ _ _ _ _ q=>add_int q
theorem GZ:Hu X (binaryOp .Sub) (Zf λi j=>.int (i - j)):=Zt λ_ _ _ _ _ _ _ q=>sub_int q
theorem HA:Hu X (binaryOp .Mult) (rI CMul λi j=>.int (i * j)):=LK λ_ _ _ _ _ _ _ hc q=>mul_int q hc.ok
theorem Zu:Hu X (binaryOp .FloorDiv) (rI CDiv λi j=>.int (i / j)):=LK λi j _ _ _ _ _ hc q=>by
 have h1:(0:Int) < j:=hc.1
 have h2:j < 1073741824:=hc.2
 exact floordiv_int (by omega) (by rw [Int.fdiv_eq_ediv_of_nonneg i (by omega)];exact q) (.inl (PyProof.noPylong_small (by omega)))
theorem HB:Hu X (binaryOp .Mod) (rI (λ_ j=>0 < j) λi j=>.int (i % j)):=LK λi j _ _ _ _ _ hc q=>by
 have h1:(0:Int) < j:=hc
 exact mod_int' (by omega) (by rw [Int.fmod_eq_emod_of_nonneg i (by omega)];exact q)
theorem HC:Hu X (binaryOp .Pow) (rI CPow λi j=>.int (i ^ j.toNat)):=LK λ_ _ _ _ _ _ _ hc q=>pow_int_small hc.1 hc.2.1 hc.2.2 q
theorem HD:Hu X (binaryOp .LShift) (rI CPow λi j=>.int (i * 2 ^ j.toNat)):=LK λ_ _ _ _ _ _ _ hc q=>lshift_int_small hc.1 hc.2.1 hc.2.2 q
theorem HE:Hu X (binaryOp .RShift) (rI (λ_ j=>0<=j) λi j=>.int (i / 2 ^ j.toNat)):=LK λi j _ _ _ _ _ hc q =>
 rshift_int hc (by rw [Int.fdiv_eq_ediv_of_nonneg i (Pw _)];exact q)
theorem HF:Hu X (binaryOp .BitAnd) (Zf λi j=>.int (Builtin.bitAnd i j)):=Zt λ_ _ _ _ _ _ _ q=>and_int q
theorem MT:Hu X (binaryOp .BitOr) (Zf λi j=>.int (Builtin.bitOr i j)):=Zt λ_ _ _ _ _ _ _ q=>or_int q
theorem V5{aa:List (iY×jE)}{σ:St}{H:Hp}{s:iW}{Q:VK}{k d:Bool}(I:Inv X aa σ H s)(q:Q (.bl k) H)(e:k=d):EP X aa σ Q (.bool d) s:=by
 subst e
 exact⟨.bl k,H,I,rfl,q⟩
theorem MU:Hu X (compareOp .Lt) (Zf λi j=>.bl (decide (i < j))):=GX λ_ _ _ _ _ _ _ q=>lt_int q
theorem MV:Hu X (compareOp .Gt) (Zf λi j=>.bl (decide (j < i))):=GX λ_ _ _ _ _ _ _ q=>gt_int q
theorem MW:Hu X (compareOp .GtE) (Zf λi j=>.bl (decide (j<=i))):=GX λ_ _ _ _ _ _ _ q=>ge_int q
theorem T6:Hu X (compareOp .In) (λx y H Q=>∃i j,x=.str i/\y=.str j/\Q (.bl (!(Builtin.Str.occurrences j i 0 j.length 1).isEmpty)) H):=by
 intro aa s σ H x y v u Q I rx ry h
 obtain⟨i,j,rfl,rfl,q⟩:=h
 obtain⟨t,rfl⟩:=rx
 obtain⟨d,rfl⟩:=ry
 exact in_str (V5 I q rfl)
theorem nomark(b:jB){d:CmpOp}(h:d≠.In:=by decide)(h2:d≠.NotIn:=by decide):behindInMarks d b=false:=by
 have g:(d==CmpOp.In)=false:=by cases d <;> first | rfl | exact absurd rfl h
 have e2:(d==CmpOp.NotIn)=false:=by cases d <;> first | rfl | exact absurd rfl h2
 cases b <;> simp [behindInMarks,g,e2]
def EK(t:TE):TT:=fun σ H Q=>t σ H λx d=>∃k,x=.bl k/\Q k d
theorem Zv{d:CmpOp}{r:R2}(G:Hu X (compareOp d) r)(ha:PE X a ta)(hb:PE X b tb)(j:behindInMarks d b=false):PT X (.Compare a [d] [b] pos) (EK (RT r ta tb)):=by
 intro aa s σ H Q I h
 refine wpAny_isTrue_Compare1 (thn (ha aa s σ H _ I h) λv O i=>Cz i λx L N D J=>thn (hb aa O σ L _ N J) λu w q=>Cz q λy M g P l =>
  thn (G aa w σ M x y v u _ g D P l) λc R ⟨z,n,A,F,k,e,B⟩=>?_) j
 subst e
 cases F
 exact fK ⟨n,A,B⟩
theorem Ix:(sizeLine:Nat) < 2 ^ 63:=by rw [sizeLine_eq];decide
theorem Px:Hu X (binaryOp .Add) (λx y H Q=>∃i j,x=.str i/\y=.str j/\i.length+j.length<=sizeLine/\Q (.str (i++j)) H):=by
 intro aa s σ H x y v u Q I rx ry h
 obtain⟨i,j,rfl,rfl,hz,q⟩:=h
 obtain⟨t,rfl⟩:=rx
 obtain⟨d,rfl⟩:=ry
 exact add_str (λd g=>⟨.str (i++j),H,I.tok _,⟨_,rfl⟩,q⟩) hz
theorem Fr{x:V}{d:List iV}(r:Vals [x] d):∃u,d=[u]/\Bb x u:=by
 cases r with
 | cons g h=>cases h;exact⟨_,rfl,g⟩
theorem EL{x y:V}{d:List iV}(r:Vals [x,y] d):∃u g,d=[u,g]/\Bb x u/\Bb y g:=by
 cases r with
 | cons i l =>
  cases l with
  | cons h j=>cases j;exact⟨_,_,rfl,i,h⟩
theorem T7(hc:X.calm=true):Ex X (.builtin "max") (λd H Q=>∃i j,d=[.int i,.int j]/\Q (.int (if j > i then j else i)) H):=by
 intro aa s σ H d us Q I r h
 obtain⟨i,j,rfl,q⟩:=h
 obtain⟨u,v,rfl,⟨t,rfl⟩,⟨l,rfl⟩⟩:=EL r
 refine max_two_ints (I.ok.hd hc) λg n k=>⟨_,H,I.kept k,?_,q⟩
 by_cases hj:j > i
 ·rw [Q_ hj,Q_ hj];exact⟨_,rfl⟩
 ·rw [J_ hj,J_ hj];exact⟨_,rfl⟩
theorem T8(hc:X.calm=true):Ex X (.builtin "min") (λd H Q=>∃i j,d=[.int i,.int j]/\Q (.int (if j < i then j else i)) H):=by
 intro aa s σ H d us Q I r h
 obtain⟨i,j,rfl,q⟩:=h
 obtain⟨u,v,rfl,⟨t,rfl⟩,⟨l,rfl⟩⟩:=EL r
 refine min_two_ints (I.ok.hd hc) λg n k=>⟨_,H,I.kept k,?_,q⟩
 by_cases hj:j < i
 ·rw [Q_ hj,Q_ hj];exact⟨_,rfl⟩
 ·rw [J_ hj,J_ hj];exact⟨_,rfl⟩
theorem G8.some_of{v:V}{o:Option iV}(r:G8 (some v) o):∃u,o=some u/\Bb v u:=by
 cases o with
 | none=>exact(show False from r).elim
 | some u=>exact⟨u,rfl,r⟩
structure Room(k:Nat)(A:jC):Prop where
 hd:A.handled=none
 dp:A.depth+3 * k+5 < recursionLimit
 un:A.units+16 * k+200 < cLine
 gd:A.guards=some []
theorem Room.mono{j k:Nat}{A:jC}(r:Room k A)(h:j<=k):Room j A:=⟨r.hd,by have:=r.dp;omega,by have:=r.un;omega,r.gd⟩
theorem Room.deeper{k:Nat}{A:jC}(r:Room (k+1) A)(env:Env):Room k (A.deeper env) :=
 ⟨r.hd,by have:=r.dp;show A.depth+1+3 * k+5 < _;omega,by have:=r.un;show A.units+3+16 * k+200 < _;omega,r.gd⟩
theorem Room.depth{k:Nat}{A:jC}(r:Room k A):A.depth < recursionLimit:=by have:=r.dp;omega
theorem Room.units{k:Nat}{A:jC}(r:Room k A):A.units+64 < cLine:=by have:=r.un;omega
def SO:TA:=λ_ H Q=>Q [] H
def MX(ta:TE)(d:TA):TA:=fun σ H Q=>ta σ H λx g=>d σ g λi h=>Q (x :: i) h
theorem HG:PA X [] SO:=λ_ _ _ _ H Q I h=>aC ⟨[],H,I,.nil,h⟩
theorem Zw(ha:PE X e te)(d:PA X es t)(hs:starEach (e :: es) X.env=(false,eval e X.env) :: starEach es X.env:=by rfl):PA X (e :: es) (MX te t):=by
 intro pos aa s σ H Q I h
 rw [hs]
 show wpAny _ _ (spliced ((false,eval e X.env) :: backTo pos (starEach es X.env))) _ _ s
 refine ZS (thn (ha aa s σ H _ I h) λu A q=>Cz q λx w z n v=>?_)
 exact thn (d pos aa A σ w _ z v) λF D g=>Cz g λl y i B j=>⟨x :: l,y,i,.cons n B,j⟩
def SQ(t:TA):TE:=fun σ H Q=>t σ H λg d=>g.length<=sizeLine/\∀p,d p=none->Q (.ref p) (upd d p (.tup g))
def SR(t:TA):TE:=fun σ H Q=>t σ H λg d=>g.length<=sizeLine/\∀p,d p=none->Q (.ref p) (upd d p (.lst g))
theorem V6{x1}(h:PA X es t):PE X (.Tuple es x1 pos) (SQ t):=by
 intro aa s σ H Q I hq
 refine wpAny_Tuple_spliced (thn (h pos aa s σ H _ I hq) λj d ⟨l,g,i,r,z,q⟩=>⟨by rw [<- r.length];exact z,?_⟩)
 have hf:g d.heap.objs.size=none:=i.hok.fresh (E_ _)
 refine⟨.ref d.heap.objs.size,upd g d.heap.objs.size (.tup l),i.laid (t':=d.toks) (λb u e=>DD _ e) (E_ _) ?_,rfl,q _ hf⟩
 exact⟨z,j,r,⟨_,R_ _ rfl,rfl,_,rfl⟩⟩
theorem HH(h:PA X es t):PE X (.List es pos) (SR t):=by
 intro aa s σ H Q I hq
 refine wpAny_List_spliced (thn (h pos aa s σ H _ I hq) λj d ⟨l,g,i,r,z,q⟩=>⟨by rw [<- r.length];exact z,?_⟩)
 have hf:g d.heap.objs.size=none:=i.hok.fresh (E_ _)
 refine⟨.ref d.heap.objs.size,upd g d.heap.objs.size (.lst l),i.laid (t':=d.toks) (λb u e=>DD _ e) (E_ _) ?_,rfl,q _ hf⟩
 exact⟨z,j,0,r,R_ _ rfl⟩
abbrev Sp:=List V->Hp->VK->XK->Prop
abbrev CXT:=List Env->Hp->iW->XK->iV->iW->Prop
structure Env0(P:i_)(w:jA)(K:iZ)(mg:Str->Option iV)(base:jD)(A:jC)(outer:List Env)(s:iW)(H:Hp):Prop where
 frames:A.frames=some outer
 mod:Mod K mg base
 bs:∀b o,base.get? b=some o->s.heap.get? b=some o/\H b=none
 bsz:base.objs.size<=s.heap.objs.size
 funs:s.heap.FunFrames base outer
 frf:∀b∈frs outer,H b=none
 hok:HOk P w H s.heap
 bare:AllBare s.gens
def CE(outer:List Env)(P:i_)(w:jA)(H:Hp)(s:iW)(Q:VK)(u:iV)(s':iW):Prop :=
 ∃v d,s'.os=s.os/\AllBare s'.gens/\Un (frs outer) [] H d s.heap s'.heap/\HOk P w d s'.heap/\Bb v u/\Q v d
def CR(CX:CXT)(outer:List Env)(P:i_)(w:jA)(H:Hp)(s:iW)(Q:VK)(E:XK)(r:jK)(s':iW):Prop :=
 match r with
 | .ok (.ret u)=>CE outer P w H s Q u s'
 | .ok _=>False
 | .error e=>CX outer H s E e s'
structure FnOk(P:i_)(w:jA)(K:iZ)(mg:Str->Option iV)(base:jD)(CX:CXT)(k:Nat)(f:iY)(fd:jG)(ps:List Str)(sp:Sp):Prop where
 len:∀vs H Q E,sp vs H Q E->vs.length=ps.length
 run:∀(A:jC) (outer:List Env) (s:iW) (H:Hp) (args:Args) (us:List iV) (vs:List V) (Q:VK) (E:XK),Room k A->Env0 P w K mg base A outer s H->BindsTo s fd args (ps.zip us)->Vals vs us->sp vs H Q E ->
  codeAny (model P w) A (.call (.ref f) args) (CR CX outer P w H s Q E) s
theorem FnOk.mono{P:i_}{w:jA}{K:iZ}{mg:Str->Option iV}{base:jD}{CX:CXT}{j k:Nat}{f:iY}{fd:jG}{ps:List Str}{sp:Sp}(F:FnOk P w K mg base CX j f fd ps sp)(h:j<=k) :
  FnOk P w K mg base CX k f fd ps sp:=⟨F.len,λA d s H g l n Q E i=>F.run A d s H g l n Q E (i.mono h)⟩
theorem FnOk.imp{P:i_}{w:jA}{K:iZ}{mg:Str->Option iV}{base:jD}{CX:CXT}{k:Nat}{f:iY}{fd:jG}{ps:List Str}{sp j:Sp}(F:FnOk P w K mg base CX k f fd ps sp)
  (h:∀g H Q E,j g H Q E->sp g H Q E):FnOk P w K mg base CX k f fd ps j :=
 ⟨λg H Q E q=>F.len g H Q E (h _ _ _ _ q),λA d s H i u g Q E l he hb hv n=>F.run A d s H i u g Q E l he hb hv (h _ _ _ _ n)⟩
theorem Inv.env0(I:Inv X aa σ H s):Env0 X.prog X.w X.K X.mg X.base X.A X.stack s H :=
 ⟨I.ok.frames,I.ok.mod,I.bs,G_ I.ok.bsz I.sz,I.stack,I.stkFree,I.hok,I.bare⟩
theorem Inv.after{Q:VK}{u:iV}(I:Inv X aa σ H s)(h:CE X.stack X.prog X.w H s Q u s'):EP X aa σ Q u s':=by
 obtain⟨v,y,os,i,A,j,r,q⟩:=h
 obtain⟨n,g,d,t,l⟩:=s'
 obtain rfl:l=s.os:=os
 exact⟨v,y,I.call (h':=n) (g':=g) (d':=d) (t':=t) (ch:=[]) A j i (λb z=>absurd z (by simp)),r,q⟩
def MY(sp:Sp)(ma:List V)(E:XK)(t:TA):TE:=fun σ H Q=>t σ H λg d=>sp (g++ma) d Q E
def Binds(K:iZ)(fd:jG)(ps:List Str)(ds:List iV):Prop :=
 ∀(s:iW) (d:List iV),K.In s.heap->(d++ds).length=ps.length->BindsTo s fd ⟨d,[]⟩ (ps.zip (d++ds))
theorem Binds.all{K:iZ}{fd:jG}{ps:List Str}(h:∀d:List iV,d.length=ps.length->bindArgs fd ⟨d,[]⟩=pure (ps.zip d)):Binds K fd ps []:=λs d _ g=>by
 rw [aG]at g ⊢
 exact .of_eq (h d g)
def Passes(CX:CXT)(X:Cx)(E:XK):Prop:=∀(aa:List (iY×jE)) (σ:St) (H:Hp) (s:iW) (e:iV) (s':iW),Inv X aa σ H s->CX X.stack H s E e s'->X.xe e s'
theorem HI{aa:List (iY×jE)}{σ:St}{H:Hp}{s:iW}{Q:VK}{d:List iV}{vs:List V}(F:FnOk X.prog X.w X.K X.mg X.base CX k f fd ps sp)(i:Room k X.A)(hb:Binds X.K fd ps ds)(l:Vals ma ds)(hx:Passes CX X E)
  (I:Inv X aa σ H s) (r:Vals vs d) (h:sp (vs++ma) H Q E):wpAny (model X.prog X.w) X.A (call (.ref f) d) (EP X aa σ Q) X.xe s:=by
 have g:Vals (vs++ma) (d++ds):=r.append l
 have j:(d++ds).length=ps.length:=by rw [<- g.length];exact F.len _ _ _ _ h
 refine wpAny_call (gU (F.run X.A X.stack s H ⟨d,[]⟩ (d++ds) (vs++ma) Q E i I.env0 (hb s d I.kIn j) g h) λr s' hq=>?_)
 cases r with
 | error e=>exact hx aa σ H s e s' I hq
 | ok fl =>
  cases fl with
  | ret u=>exact I.after hq
  | next=>exact False.elim hq
  | brk=>exact False.elim hq
  | cont=>exact False.elim hq
theorem Zx(F:FnOk X.prog X.w X.K X.mg X.base CX k f fd ps sp)(g:Room k X.A)(i:Gl X x)(j:X.mg x=some (.ref f))(hk:PySem.W.keepIn X.K (.ref f)=true)(hb:Binds X.K fd ps ds)(n:Vals ma ds)(hx:Passes CX X E)
  (ha:PA X (e :: es) t) (hdb:(x==("__debug__" : Str))=false:=by decide) (he:starEach (e :: es) X.env=(false,eval e X.env) :: starEach es X.env:=by rfl) (hpl:(backTo pos (starEach es X.env)).any (·.1)=false:=by rfl) :
  PE X (.Call (.Name x p) (e :: es) [] pos) (MY sp ma E t):=by
 intro aa s σ H Q I h
 refine aR (Ru I i j ?_ hdb)
 refine PySem.W.callWith_K (h₀:=X.base) I.ok.mod.kin hk (thn (ha pos aa s σ H _ I h) λu z l=>Cz l λy v d r q=>⟨d.kIn,?_⟩) he hpl
 exact HI F g hb n hx d r q
structure FnScope(N P:List Str)(sc:jI):Prop where
 kind:sc.kind=.function
 co:sc.isCoroutine=false
 gen:sc.isGenerator=false
 nd:N.Nodup
 pre:N.take P.length=P
 par:∀x∈P,sc.names.lookup x=some .local\/sc.names.lookup x=some .cell
 nofree:∀y∈sc.names,y.2≠.free
theorem Ks{kindOf:Str->Option jJ}{x:Str}:∀{d:List (Str×iV)} {m:Str->Option iV},(∀v,(x,v)∉d)->bindL kindOf d m x=m x
 | [],_,_=>rfl
 | (n,v) :: r,m,h=>by
  unfold bindL
  rw [Ks λw g=>h w (XN _ g)]
  split
  ·have:x≠n:=by rintro rfl;exact h v XT
   simp [this]
  ·rfl
theorem Ku{kindOf:Str->Option jJ}{x:Str}:∀{d:List (Str×iV)} {m:Str->Option iV},(∀v,(x,v)∉d)->bindC kindOf d m x=m x
 | [],_,_=>rfl
 | (n,v) :: r,m,h=>by
  unfold bindC
  rw [Ku λw g=>h w (XN _ g)]
  split
  ·rfl
  ·have:x≠n:=by rintro rfl;exact h v XT
   simp [this]
theorem Kv{kindOf:Str->Option jJ}{x:Str}{v:iV}:∀{P:List Str} {vs:List iV} {i:Nat} {m:Str->Option iV},P.Nodup->P[i]?=some x->vs[i]?=some v->kindOf x=some .local ->
  bindL kindOf (P.zip vs) m x=some v
 | [],_,_,_,_,h,_,_=>by simp at h
 | _ :: _,[],_,_,_,_,h,_=>by simp at h
 | p :: P,w :: vs,0,m,nd,h1,h2,hk=>by
  simp at h1 h2;subst h1;subst h2
  show bindL kindOf ((p,w) :: P.zip vs) m p=_
  unfold bindL
  rw [Ks λv hv=>(ZV.mp nd).1 (List.of_mem_zip hv).1,Q_ hk]
  simp
 | p :: P,w :: vs,i+1,m,nd,h1,h2,hk=>by
  show bindL kindOf ((p,w) :: P.zip vs) m x=_
  unfold bindL
  exact Kv (i:=i) (ZV.mp nd).2 (by simpa using h1) (by simpa using h2) hk
theorem Kw{kindOf:Str->Option jJ}{x:Str}{v:iV}:∀{P:List Str} {vs:List iV} {i:Nat} {m:Str->Option iV},P.Nodup->P[i]?=some x->vs[i]?=some v->kindOf x≠some .local ->
  bindC kindOf (P.zip vs) m x=some v
 | [],_,_,_,_,h,_,_=>by simp at h
 | _ :: _,[],_,_,_,_,h,_=>by simp at h
 | p :: P,w :: vs,0,m,nd,h1,h2,hk=>by
  simp at h1 h2;subst h1;subst h2
  show bindC kindOf ((p,w) :: P.zip vs) m p=_
  unfold bindC
  rw [Ku λv hv=>(ZV.mp nd).1 (List.of_mem_zip hv).1,J_ hk]
  simp
 | p :: P,w :: vs,i+1,m,nd,h1,h2,hk=>by
  show bindC kindOf ((p,w) :: P.zip vs) m x=_
  unfold bindC
  exact Kw (i:=i) (ZV.mp nd).2 (by simpa using h1) (by simpa using h2) hk
def start(N:List Str)(vs:List V):St:=vs.map some++List.replicate (N.length - vs.length) none
def Py(CX:CXT)(P:i_)(w:jA)(K:iZ)(mg:Str->Option iV)(base:jD)(N:List Str)(g:Str)(d:jI)(f:iY)(h:iV)(A:jC)(outer:List Env)(s:iW)(H:Hp)(E:XK):Cx where
 prog:=P
 w:=w
 K:=K
 mg:=mg
 base:=base
 A:=A.deeper (envOfC g d s.heap.objs.size f h)
 N:=N
 s₀:=s
 H₀:=H
 env:=envOfC g d s.heap.objs.size f h
 outer:=outer
 stack:=envOfC g d s.heap.objs.size f h :: outer
 ex:=[]
 calm:=true
 fn:=λ_=>true
 pn:=[]
 xe:=λe s'=>wpAny (model P w) (A.deeper (envOfC g d s.heap.objs.size f h)) («leaving» (envOfC g d s.heap.objs.size f h) e) (λ_ i=>CX outer H s E e i) (λj i=>CX outer H s E j i) s'
theorem No{d:jI}{n:Nat}{x:Str}(h:d.names.lookup x=some .cell):∃c,(cellsFrom n d.names []).lookup x=some c:=by
 have q:=PySem.W.cellsFrom_some d.names n [] (.inl h)
 exact Option.isSome_iff_exists.mp q
theorem T9{CX:CXT}{P:i_}{w:jA}{K:iZ}{mg:Str->Option iV}{base:jD}{N ps:List Str}{g:Str}{d:jI}{f:iY}{B:iV}{A:jC}{outer:List Env}{s I:iW}{H:Hp}{E:XK}{G:List iV}{vs:List V}
  (S:FnScope N ps d) (M:A.handled=none) (j:Env0 P w K mg base A outer s H) (O:vs.length=ps.length) (r:Vals vs G)
  (x:InCallC s s.heap.objs.size (bindL (envOfC g d s.heap.objs.size f B).kindOf (ps.zip G) λ_=>none) (cellsFrom (s.heap.objs.size+1) d.names []) (bindC (envOfC g d s.heap.objs.size f B).kindOf (ps.zip G) λ_=>none) I) :
  Inv (Py CX P w K mg base N g d f B A outer s H E) [] (start N vs) H I:=by
 have J:ps.length<=N.length:=by have:=ZX List.length S.pre;rw [X_]at this;omega
 obtain⟨h1,R,rfl,hk⟩:=x.done
 have F:∀b:iY,b∉(Py CX P w K mg base N g d f B A outer s H E).ex:=λb z=>absurd (show b∈([]:List iY) from z) (by simp)
 refine⟨⟨j.mod,S.kind,rfl,rfl,E_ _,λy z c h1 h2=>?_,λy hy=>?_,λy c _ h=>?_,λ_=>M,Around.frames_deeper j.frames,.inr ⟨rfl,rfl⟩,λb z=>absurd z (F b),j.bs,j.bsz,λb _ _=>F b,λb z=>absurd z (F b),j.funs,j.frf⟩,
  rfl,j.bare,Un.kept hk,⟨_,x.toInCall.ns,λi y v h1 h2 Q=>?_⟩,λy c h=>⟨_,x.cell y c h⟩,j.hok.fresh (E_ _),λy c h=>?_,λp hp=>absurd (show p∈([]:List (iY×jE)) from hp) (by simp),j.hok.kept hk,?_⟩
 ·exact name_of_addr x.apart (dC h1) (dC h2)
 ·have hy:d.names.lookup y=some .cell\/d.names.lookup y=some .free:=hy
  rcases hy with hy | hy
  ·exact No hy
  ·exact absurd rfl (S.nofree _ (dC hy))
 ·exact YM (x.above y c (dC h))
 ·have D:i < vs.length:=by
   unfold start at h2
   by_cases D:i < vs.length
   ·exact D
   ·rw [ZY (by simpa using D)]at h2
    rw [List.getElem?_replicate]at h2
    split at h2 <;> cases h2
  have ha:vs[i]?=some v:=by
   unfold start at h2
   rw [aU (by simpa using D),H_]at h2
   cases e:vs[i]? with
   | none=>rw [e]at h2;cases h2
   | some a=>rw [e]at h2;cases h2;rfl
  obtain⟨u,hu,L⟩:=r.get ha
  have hp:ps[i]?=some y:=by
   rw [<- S.pre,cY (by omega)];exact h1
  have l:ps.Nodup:=by rw [<- S.pre];exact S.nd.sublist (fM _ _)
  refine⟨u,L,?_⟩
  rcases S.par y (XO hp) with k | k
  ·exact .inl ⟨k,Kv l hp hu k⟩
  ·obtain⟨c,e⟩:=No (n:=s.heap.objs.size+1) k
   refine .inr ⟨.inl k,c,e,?_⟩
   have q:=x.cell y c e
   rw [Kw l hp hu (by show d.names.lookup y≠_;rw [k];decide)]at q
   exact q
 ·exact j.hok.fresh (YM (x.above y c (dC h)))
 ·unfold start
  show _=N.length
  rw [I_,B_,List.length_replicate]
  omega
theorem MZ{CX:CXT}{P:i_}{w:jA}{K:iZ}{mg:Str->Option iV}{base:jD}{k:Nat}{f:iY}{name g:Str}{h:Arguments}{i:List jF}{d:jI}{M kV R Y j ct oc:iV}{Z od:Option iY}
  {lq:Array (Option iV)} {N ps:List Str} {sp:Sp} (lk:K.lookup f=some ⟨oc,od,.func (PySem.W.fnOf name g h i d M kV R Y Z j ct),lq⟩) (js:PySem.W.codeIn K j g=true) (S:FnScope N ps d)
  (len:∀vs H Q E,sp vs H Q E->vs.length=ps.length)
  (gz:∀(A:jC) (outer:List Env) (s:iW) (H:Hp) (vs:List V) (Q:VK) (E:XK),Room k (A.deeper (envOfC g d s.heap.objs.size f j))->sp vs H Q E ->
   ∃t,PSs (Py CX P w K mg base N g d f j A outer s H E) i t/\t { nx:=λ_ H'=>Q .non H',rt:=Q } (start N vs) H) :
  FnOk P w K mg base CX (k+1) f (PySem.W.fnOf name g h i d M kV R Y Z j ct) ps sp:=by
 refine⟨len,λA outer s H L us vs Q E F B hb r O=>?_⟩
 have hl:=len _ _ _ _ O
 have KX:K.In s.heap:=B.mod.kin.keeps λb o e=>(B.bs b o e).1
 have D:s.heap.NoLimit:=B.mod.nolimit.keeps λb o e=>(B.bs b o e).1
 have ug:∀y∈ps.zip us,d.names.lookup y.1=some .local\/(d.names.lookup y.1=some .cell/\((cellsFrom (s.heap.objs.size+1) d.names []).lookup y.1).isSome=true):=λ⟨n,v⟩ hy=>by
  rcases S.par n (List.of_mem_zip hy).1 with q | q
  ·exact .inl q
  ·exact .inr ⟨q,PySem.W.cellsFrom_some _ _ _ (.inl q)⟩
 refine codeAny_call_function F.depth (KX _ _ lk) rfl S.co S.gen rfl (PySem.W.codeRec_of KX js) (hb _ _ _ _ ?_)
 refine wpAny_newFunctionEnv_cells S.kind ug λenv he U x=>?_
 subst he
 refine⟨D.keeps x.toInCall.keep,codeAny_func ?_⟩
 obtain⟨t,ht,hq⟩:=gz A outer s H vs Q E (F.deeper _) O
 have I:Inv (Py CX P w K mg base N g d f j A outer s H E) [] (start N vs) H U:=T9 S F.hd B hl r x
 refine ZW (ht [] U (start N vs) H _ I hq) (λfl s' l=>?_) λe s' l=>l
 have z:∀{σ':St} {H':Hp} {v:V} {u:iV},Inv (Py CX P w K mg base N g d f j A outer s H E) [] σ' H' s'->Bb v u->Q v H'->CE outer P w H s Q u s' :=
  λ{σ' H' v u} J G q=>⟨v,H',J.os,J.bare,J.base,J.hok,G,q⟩
 cases fl with
 | ret u =>
  obtain⟨v,σ',H',J,G,q⟩:=l
  exact z J G q
 | next =>
  obtain⟨σ',H',J,q⟩:=l
  exact z (v:=V.non) (u:=Value.none) J rfl q
 | brk =>
  obtain⟨_,_,_,q⟩:=l
  exact False.elim q
 | cont =>
  obtain⟨_,_,_,q⟩:=l
  exact False.elim q
def ST(r:List V->Hp->VK->Prop)(t:TA):TE:=fun σ H Q=>t σ H λd g=>r d g Q
theorem V7(hc:Ex X (.builtin id) r)(g:Gl X x)(i:X.mg x=none)(hv:bootBuiltins x=some (.builtin id))(ha:PA X (e :: es) t)(hn:x ≠ "__name__" := by decide) (hdb:(x==("__debug__" : Str))=false:=by decide)
  (he:starEach (e :: es) X.env=(false,eval e X.env) :: starEach es X.env:=by rfl) (hpl:(backTo pos (starEach es X.env)).any (·.1)=false:=by rfl):PE X (.Call (.Name x p) (e :: es) [] pos) (ST r t):=by
 intro aa s σ H Q I h
 refine aR (Ep I g i hv ?_ hn hdb)
 exact dE (thn (ha pos aa s σ H _ I h) λl w d=>Cz d λu q v j n=>hc aa w σ q u l Q v j n) he hpl
theorem Ua(hc:Ex X (.type T) r)(d:Gl X x)(i:X.mg x=none)(hv:bootBuiltins x=some (.type T))(ha:PA X (e :: es) t)(hn:x ≠ "__name__" := by decide) (hdb:(x==("__debug__" : Str))=false:=by decide)
  (he:starEach (e :: es) X.env=(false,eval e X.env) :: starEach es X.env:=by rfl) (hpl:(backTo pos (starEach es X.env)).any (·.1)=false:=by rfl):PE X (.Call (.Name x p) (e :: es) [] pos) (ST r t):=by
 intro aa s σ H Q I h
 refine aR (Ep I d i hv ?_ hn hdb)
 exact aO (thn (ha pos aa s σ H _ I h) λl w g=>Cz g λu q v j n=>hc aa w σ q u l Q v j n) he hpl
end
end L2
namespace HT
open PySem PyProof.Rows
section
open PySem.SeqAt
open PySem.AutoSeq1 (wpAny_loadPart')
open PySem.MeetsSeq PySem.MeetsSeq2 PySem.MeetsSeq3
end
section
variable {prog:i_}{w:jA}{A:jC}{E:iV->iW->Prop}{s:iW}
theorem cat_tup{t b:iY}{vs a:List iV}{Q:iV->iW->Prop}(p:IsTup s.heap t vs.toArray)(hb:IsTup s.heap b a.toArray)(hv:vs≠[])
  (h1:a=[]->Q (.ref t) s) (h2:a≠[]->Q (.ref s.heap.objs.size) { s with heap:=s.heap.push { cls:=.type "tuple",data:=.seq (vs++a).toArray } })
  (hsz:vs.length+a.length<=sizeLine):wpAny (model prog w) A (binaryOp .Add (.ref t) (.ref b)) Q E s:=by
 obtain⟨⟨cls,dd,data,j⟩,f,hc,n,o⟩:=id p
 obtain⟨⟨k,c,data2,m⟩,h,d,i,l⟩:=id hb
 simp only at hc o d l
 subst hc o d l
 have e:vs.toArray++a.toArray=(vs++a).toArray:=by simp
 by_cases g:a=[]
 ·exact concat_meets ⟨_,f,rfl⟩ ⟨_,h,rfl⟩ iJ seq_tuple_add fN fI (eV _ _)
   (tuple_addW1 t b vs.toArray a.toArray n i dd c j m (by simpa using hv) (by simp [g])) ⟨f,h,h1 g⟩
 ·refine concat_meets ⟨_,f,rfl⟩ ⟨_,h,rfl⟩ iJ seq_tuple_add fN fI (eV _ _)
   (tuple_addW2 t b vs.toArray a.toArray n i dd c j m (by simpa using hv) (by simpa using g) (by rw [XS,XS];exact hsz)) ⟨f,h,?_⟩
  rw [e]
  exact h2 g
def sIx(n d:Nat):Option Int->Nat
 | none=>d
 | some v=>if v < 0 then(v+(n:Int)).toNat else min v.toNat n
theorem sIx_nat(n d k:Nat):sIx n d (some (k:Int))=min k n:=by
 show(if(k:Int) < 0 then((k:Int)+(n:Int)).toNat else min (k:Int).toNat n)=min k n
 rw [J_ (by omega),bI]
theorem HJ(n d:Nat)(a:d<=n)(o:Option Int):sIx n d o<=n:=by
 cases o with
 | none=>exact a
 | some v =>
  show(if v < 0 then(v+(n:Int)).toNat else min v.toNat n)<=n
  by_cases hv:v < 0
  ·rw [Q_ hv];omega
  ·rw [J_ hv];exact Nat.min_le_right _ _
theorem Rv(v:Int)(n d:Nat):(if v < 0 then max (v+(n:Int)) 0 else min v (n:Int))=((sIx n d (some v):Nat):Int):=by
 show(if v < 0 then max (v+(n:Int)) 0 else min v (n:Int))=(((if v < 0 then(v+(n:Int)).toNat else min v.toNat n):Nat):Int)
 by_cases hv:v < 0
 ·simp only [if_pos hv];omega
 ·simp only [if_neg hv];omega
theorem Pz(lo a:Option Int)(n:Nat):Builtin.Slice.sliceAdjust lo a 1 (n:Int)=(((sIx n 0 lo:Nat):Int),((sIx n n a:Nat):Int)):=by
 have h1:¬((1:Int) < 0):=by omega
 unfold Builtin.Slice.sliceAdjust
 simp only [h1,if_false]
 refine gM ?_ ?_
 ·cases lo with
  | none=>rfl
  | some v=>exact Rv v n 0
 ·cases a with
  | none=>rfl
  | some v=>exact Rv v n n
theorem P0(i j:Nat):Builtin.Slice.slicePlaces (i:Int) (j:Int) 1=j - i:=by
 unfold Builtin.Slice.slicePlaces
 have h1:(1:Int) > 0:=by omega
 simp only [h1,if_true,Int.ediv_one]
 split <;> omega
theorem Iy{v:iV}{o:Option Int}{Q:Option Int->iW->Prop}(p:IsPart v o)(h:Q o s):wpAny (model prog w) A (Builtin.Slice.slicePartIndex v) Q E s:=by
 cases p with
 | none=>exact slicePart_none h
 | int i t=>exact slicePart_int h
theorem Ef{f:iY}{e d:iV}{lo a:Option Int}{n:Nat}{Q:Int×Int×Nat->iW->Prop}(hs:s.heap.IsSliceOf f e d .none)(pl:IsPart e lo)(g:IsPart d a)
  (h:Q (((sIx n 0 lo:Nat):Int),1,sIx n n a - sIx n 0 lo) s):wpAny (model prog w) A (Builtin.Slice.sliceApplied (.ref f) (pure (n:Int))) Q E s:=by
 obtain⟨os,b,i,c⟩:=id hs
 unfold Builtin.Slice.sliceApplied Builtin.Slice.sliceFields
 refine A_ (A_ (dN b c (x:=e) rfl (A_ (dN b c (x:=d) rfl (A_ (dN b c (x:=.none) rfl (C_ ?_)))))))
 refine A_ (slicePart_none ?_)
 show wpAny _ _ (if((1:Int)==0)=true then _ else _) _ _ s
 rw [J_ (by decide)]
 refine A_ (Iy pl (A_ (Iy g (A_ (C_ ?_)))))
 show wpAny _ _ (match Builtin.Slice.sliceAdjust lo a 1 (n:Int) with | (lo,a)=>pure (lo,(1:Int),Builtin.Slice.slicePlaces lo a 1)) _ _ s
 rw [Pz lo a n]
 show wpAny _ _ (pure (((sIx n 0 lo:Nat):Int),(1:Int),Builtin.Slice.slicePlaces ((sIx n 0 lo:Nat):Int) ((sIx n n a:Nat):Int) 1)) _ _ s
 rw [P0]
 exact C_ h
theorem V8(xs:Array iV)(i k:Nat):((List.range k).filterMap λ(m:Nat)=>xs[((i:Int)+(m:Int) * 1).toNat]?).toArray=((xs.toList.drop i).take k).toArray:=by
 have e:(λ(m:Nat)=>xs[((i:Int)+(m:Int) * 1).toNat]?)=λm=>xs[i+m]?:=by
  funext m
  have:((i:Int)+(m:Int) * 1).toNat=i+m:=by omega
  rw [this]
 rw [e]
 have:=pick_run xs i k
 rw [List.filterMap_map]at this
 have e2:((λx=>xs[x]?) ∘ λx=>i+x)=λm=>xs[i+m]?:=rfl
 rw [e2]at this
 rw [this]
theorem getItem_tuple_cut{t d:iY}{items:Array iV}{g f:iV}{lo a:Option Int}{Q:iV->iW->Prop}(c:IsTup s.heap t items)(hs:s.heap.IsSliceOf d g f .none)(pl:IsPart g lo)(n:IsPart f a)
  (k:¬(sIx items.size 0 lo=0/\sIx items.size items.size a=items.size))
  (h:Q (.ref s.heap.objs.size) { s with heap:=s.heap.push { cls:=.type "tuple",data:=.seq ((items.toList.drop (sIx items.size 0 lo)).take (sIx items.size items.size a - sIx items.size 0 lo)).toArray } })
  (hsz:items.size<=sizeLine):wpAny (model prog w) A (getItem (.ref t) (.ref d)) Q E s:=by
 have b:sizeOk (.seq ((items.toList.drop (sIx items.size 0 lo)).take (sIx items.size items.size a - sIx items.size 0 lo)).toArray):=by
  show((items.toList.drop (sIx items.size 0 lo)).take (sIx items.size items.size a - sIx items.size 0 lo)).toArray.size<=sizeLine
  rw [XS,X_,cH,XU]
  omega
 have hj:sIx items.size items.size a<=items.size:=HJ _ _ (E_ _) a
 obtain⟨os,e,i,o⟩:=id hs
 have j:s.TypeIs (.ref d) "slice" := ⟨os,e,i⟩
 unfold getItem
 try with_reducible refine ZF ?_
 first | refine A_ (C_ ?_) | skip
 refine A_ (wpAny_sequenceKey c.typeIs (by decide) ?_)
 refine A_ (ZZ (name:=Str.ofString "__getitem__") c.typeIs ZT
  (YS ZT c.typeIs entry_tuple_getitem ?_ (args_tuple_getitem _ _)))
 show wpAny _ _ (Builtin.Tuple.tupleItemsOf (.ref t) >>= _) _ _ s
 refine A_ (tupleItemsOf_ c ?_)
 refine A_ (eM j ?_)
 rw [Q_ (by decide)]
 refine A_ (Ef hs pl n ?_)
 have l:¬((((sIx items.size 0 lo:Nat):Int)==0 && (1:Int)==1 && (sIx items.size items.size a - sIx items.size 0 lo)==items.size)=true):=by
  intro q
  rw [ZC,ZC]at q
  have r:((sIx items.size 0 lo:Nat):Int)=0:=eq_of_beq q.1.1
  have p:sIx items.size items.size a - sIx items.size 0 lo=items.size:=eq_of_beq q.2
  exact k ⟨by omega,by omega⟩
 show wpAny _ _ (if(((sIx items.size 0 lo:Nat):Int)==0 && (1:Int)==1 && (sIx items.size items.size a - sIx items.size 0 lo)==items.size)=true then _ else _) _ _ s
 rw [J_ l,V8]
 first
  | exact A_ (m:=Builtin.Tuple.tupleExact _) (YF (C_ ⟨_,rfl,C_ h⟩) b)
  | exact A_ (m:=Builtin.Tuple.tupleExact _) (YF (A_ (C_ (C_ ⟨_,rfl,C_ h⟩))) b)
  | exact A_ (A_ (m:=Builtin.Tuple.tupleExact _) (YF (C_ (C_ ⟨_,rfl,C_ h⟩)) b))
  | exact A_ (A_ (m:=Builtin.Tuple.tupleExact _) (YF (C_ ⟨_,rfl,C_ h⟩) b))
end
end HT
namespace L2
open PySem PySem.Spec PyProof.Rows
abbrev TO:=St->Hp->(Option Int->Hp->Prop)->Prop
def PO(X:Cx)(e:Option jB)(t:TO):Prop :=
 ∀(b:List (iY×jE)) (s:iW) (σ:St) (H:Hp) (Q:Option Int->Hp->Prop),Inv X b σ H s->t σ H Q ->
  wpAny (model X.prog X.w) X.A (evalPart e X.env) (λu c=>∃o a,Inv X b σ a c/\IsPart u o/\Q o a) X.xe s
def Zy:TO:=λ_ H Q=>Q none H
def NA(t:TE):TO:=fun σ H Q=>t σ H λx a=>∃i,x=.int i/\Q (some i) a
section
variable {X:Cx}{e:jB}{te:TE}{lo hi:Option jB}{tl th:TO}{pos p2:Pos}{a b:jB}{ta tb:TE}{o:jB}{es:List jB}{to:TE}{t:TA}{name:Str}{aq aj:Pos}{T id:String}{r:V->List V->Hp->VK->Prop}
theorem Zz:PO X none Zy:=by
 intro c s σ H Q I h
 rw [evalPart_none]
 exact C_ ⟨none,H,I,.none,h⟩
theorem Z0(h:PE X e te):PO X (some e) (NA te):=by
 intro j s σ H Q I hw
 rw [evalPart_some]
 refine thn (h j s σ H _ I hw) λu l d=>Cz d λx g k c f=>?_
 obtain⟨i,rfl,q⟩:=f
 obtain⟨t,rfl⟩:=c
 exact⟨some i,g,k,.int i t,q⟩
def NB(X:Cx)(r:V->Option Int->Option Int->Hp->VK->Prop):Prop :=
 ∀(g:List (iY×jE)) (s:iW) (σ:St) (H:Hp) (x:V) (v c d:iV) (lo hi:Option Int) (f:iY) (Q:VK),Inv X g σ H s->Bb x v->s.heap.IsSliceOf f c d .none->IsPart c lo->IsPart d hi->r x lo hi H Q ->
  ∃T id,typeLookup (.type T) "__getitem__" = pure (some (.builtin id))/\s.TypeIs v T/\wpAny (model X.prog X.w) X.A (getItem v (.ref f)) (EP X g σ Q) X.xe s
def WB(r:V->Option Int->Option Int->Hp->VK->Prop)(te:TE)(tl th:TO):TE:=fun σ H Q=>te σ H λx c=>tl σ c λl d=>th σ d λu f=>r x l u f Q
theorem V9{r:V->Option Int->Option Int->Hp->VK->Prop}(j:NB X r)(he:PE X e te)(M:PO X lo tl)(hu:PO X hi th):PE X (.Subscript e (.Slice lo hi none p2) pos) (WB r te tl th):=by
 intro d s σ H Q I h
 refine Subscript_ (thn (he d s σ H _ I h) λv U E=>Cz E λx R S y P=>?_)
 refine wpAny_Slice (thn (M d U σ R _ S P) λf n z=>Cz z λl C m N F=>thn (hu d n σ C _ m F) λg c G=>Cz G λu i J D L=>?_)
 rw [evalPart_none]
 refine C_ ?_
 have O:Inv X d σ i { c with heap:=c.heap.push { cls:=.type "slice",data:=.fields #[f,g,.none] } }:=J.kept (t':=c.toks) λb W q=>DD _ q
 obtain⟨T,id,B,p,k⟩:=j d { c with heap:=c.heap.push { cls:=.type "slice",data:=.fields #[f,g,.none] } } σ i x v f g l u c.heap.objs.size Q O y (Heap.IsSliceOf.new ..) N D L
 show wpAny (model X.prog X.w) X.A (subscriptTail e (.Slice lo hi none p2) v (.ref c.heap.objs.size)) (EP X d σ Q) X.xe { c with heap:=c.heap.push { cls:=.type "slice",data:=.fields #[f,g,.none] } }
 exact tail_any (ops:=[.ref c.heap.objs.size,v]) p B k (by with_unfolding_all rfl)
def Kg(xs:List V)(lo hi:Option Int):List V:=(xs.drop (HT.sIx xs.length 0 lo)).take (HT.sIx xs.length xs.length hi - HT.sIx xs.length 0 lo)
theorem Hv(xs:List V)(lo hi:Option Int):(Kg xs lo hi).length<=xs.length:=by
 unfold Kg
 rw [X_,cH]
 omega
def SU(K:iZ):V->Option Int->Option Int->Hp->VK->Prop:=λx lo hi H Q=>∃a c,x=.ref a/\Kf K H a c /\
 ¬(HT.sIx c.length 0 lo=0/\HT.sIx c.length c.length hi=c.length)/\∀p,H p=none->Q (.ref p) (upd H p (.tup (Kg c lo hi)))
theorem HK:NB X (SU X.K):=by
 intro j s σ H x v vl vu lo hi sl Q I rx hs pl pu h
 obtain⟨a,c,rfl,hx,i,q⟩:=h
 cases rx
 obtain⟨g,r,f,hz⟩:=I.tuple hx
 have d:g.toArray.size=c.length:=by rw [XS];exact r.length.symm
 refine⟨"tuple",_,ZT.lookup,f.typeIs,?_⟩
 refine HT.getItem_tuple_cut f hs pl pu (by rw [d];exact i) ?_ (by rw [d];exact hz)
 rw [d]
 refine⟨.ref s.heap.objs.size,_,I.laid (t':=s.toks) (o:=.tup (Kg c lo hi)) (λb k q=>DD _ q) (E_ _) ?_,rfl,q _ (I.hok.fresh (E_ _))⟩
 exact⟨G_ (Hv c lo hi) hz,_,(r.drop (HT.sIx c.length 0 lo)).take (HT.sIx c.length c.length hi - HT.sIx c.length 0 lo),IsTup.new _ _⟩
theorem Vals.nil_iff{xs:List V}{c:List iV}(r:Vals xs c):c=[]↔xs=[]:=by
 cases r with
 | nil=>simp
 | cons _ _=>simp
def Z1(n:Nat)(i:Int):Option Nat:=if 0<=i then(if i < n then some i.toNat else none) else if -(n:Int)<=i then some (i+n).toNat else none
def atI{α:Type}(xs:List α)(i:Int):Option α:=(Z1 xs.length i).bind λj=>xs[j]?
theorem Z6{n:Nat}{i:Int}{j:Nat}(h:Z1 n i=some j):seqIndex? i n=some j/\j < n/\-(n:Int)<=i/\i < n:=by
 unfold Z1 at h
 by_cases c:0<=i
 ·rw [Q_ c]at h
  by_cases h1:i < n
  ·rw [Q_ h1]at h
   have e:i.toNat=j:=YO h
   exact⟨by rw [seqIndex_of c h1,e],by omega,by omega,h1⟩
  ·rw [J_ h1]at h;cases h
 ·rw [J_ c]at h
  by_cases h1:-(n:Int)<=i
  ·rw [Q_ h1]at h
   have e:(i+n).toNat=j:=YO h
   exact⟨by rw [seqIndex_neg (by omega) h1,e],by omega,h1,by omega⟩
  ·rw [J_ h1]at h;cases h
theorem L3{α:Type}{xs:List α}{i:Int}{v:α}(h:atI xs i=some v):∃j,seqIndex? i xs.length=some j/\xs[j]?=some v/\j < xs.length/\-(xs.length:Int)<=i/\i < xs.length:=by
 unfold atI at h
 cases e:Z1 xs.length i with
 | none=>rw [e]at h;cases h
 | some j =>
  rw [e]at h
  obtain⟨h1,h2,d,c⟩:=Z6 e
  exact⟨j,h1,h,h2,d,c⟩
theorem Bf{α:Type}{xs:List α}{j:Nat}{v:α}(h:xs[j]?=some v):atI xs (j:Int)=some v:=by
 have hj:j < xs.length:=(F_.mp h).1
 have e:Z1 xs.length (j:Int)=some j:=by
  unfold Z1
  rw [Q_ (by omega),Q_ (by omega)];simp
 unfold atI;rw [e];exact h
def Rw(b:jB):Prop:=∀o i,subscripted b false o i=operate [o,i] (getItem o i)
def NC(X:Cx)(r:R2):Prop :=
 ∀(d c:jB) (f:List (iY×jE)) (s:iW) (σ:St) (H:Hp) (x y:V) (v u:iV) (Q:VK),Inv X f σ H s->Bb x v->Bb y u->r x y H Q ->
  subscripted c false v u=operate [v,u] (getItem v u)->wpAny (model X.prog X.w) X.A (subscriptTail d c v u) (EP X f σ Q) X.xe s
def HL(X:Cx)(id:String)(r:V->List V->Hp->VK->Prop):Prop :=
 ∀(d:List (iY×jE)) (s:iW) (σ:St) (H:Hp) (x:V) (xs:List V) (v:iV) (c:List iV) (Q:VK),Inv X d σ H s->Bb x v->Vals xs c->r x xs H Q ->
  wpAny (model X.prog X.w) X.A (call (.builtin id) (v :: c)) (EP X d σ Q) X.xe s
theorem ND{r:R2}(c:NC X r)(ha:PE X a ta)(hb:PE X b tb)(hs:Rw b):PE X (.Subscript a b pos) (RT r ta tb):=by
 intro g s σ H Q I h
 exact Subscript_ (MR ha hb I h λv u j x y k f d i q=>c a b g j σ k x y v u Q f d i q (hs _ _))
def SV(K:iZ):R2:=λx y H Q=>∃p c i v,x=.ref p/\y=.int i/\E8 K H p c/\atI c i=some v/\Q v H
def SW(K:iZ):R2:=λx y H Q=>∃p c i v,x=.ref p/\y=.int i/\Kf K H p c/\atI c i=some v/\Q v H
def SX:R2:=λx y H Q=>∃z i c,x=.str z/\y=.int i/\z.length<=sizeLine/\atI z.cps.toList i=some c/\Q (.str ⟨#[c]⟩) H
theorem Rx:NC X (SV X.K):=by
 intro g d k s σ H x y v u Q I rx ry h hs
 obtain⟨p,F,i,z,rfl,rfl,hq,he,q⟩:=h
 cases rx
 obtain⟨t,rfl⟩:=ry
 obtain⟨A,r,f,hz⟩:=I.list hq
 obtain⟨j,h1,h2,G,C,n⟩:=L3 he
 obtain⟨w,l,E⟩:=r.get h2
 have D:=r.length
 have hn:=Ix
 have c:EP X k σ Q w s:=⟨z,H,I,E,q⟩
 by_cases m:0<=i
 ·have hj:i.toNat=j:=by
   rw [seqIndex_of m n]at h1
   exact YO h1
  exact item_listR f.isList m (by omega) (by rw [hj];simpa using l) c hs
 ·have hj:(i+(A.toArray.size:Int)).toNat=j:=by
   rw [seqIndex_neg (by omega) C]at h1
   rw [XS,<- D]
   exact YO h1
  exact subscriptTail_builtinR (x:=w) f.isList.typeIs slot_list_getitem.lookup
   (wpAny_getItem_list_neg (Q:=λr B=>r=w/\EP X k σ Q r B) f.isList (by omega) (by rw [XS] <;> omega) (by omega) (by rw [hj];simpa using l) ⟨rfl,c⟩) hs
theorem HN:NC X (SW X.K):=by
 intro f d g s σ H x y v u Q I rx ry h hs
 obtain⟨p,D,i,z,rfl,rfl,hq,he,q⟩:=h
 cases rx
 obtain⟨t,rfl⟩:=ry
 obtain⟨C,r,k,hz⟩:=I.tuple hq
 obtain⟨j,h1,h2,F,E,B⟩:=L3 he
 obtain⟨w,m,A⟩:=r.get h2
 have n:=r.length
 have hn:=Ix
 have c:EP X g σ Q w s:=⟨z,H,I,A,q⟩
 exact subscriptTail_builtinR (x:=w) k.typeIs slot_tuple_getitem.lookup
  (getItem_tuple (j:=j) (Q:=λr l=>r=w/\EP X g σ Q r l) k (by omega) (by omega) (by rw [XS,<- n];exact h1) (by simpa using m) ⟨rfl,c⟩) hs
theorem HP:NC X SX:=by
 intro f d n s σ H x y v u Q I rx ry h hs
 obtain⟨z,i,c,rfl,rfl,hz,he,q⟩:=h
 obtain⟨t,rfl⟩:=rx
 obtain⟨p,rfl⟩:=ry
 obtain⟨j,h1,h2,w,k,g⟩:=L3 he
 have l:z.cps.toList.length=z.length:=by simp [Str.length]
 rw [l]at h1 k g
 have hn:=Ix
 exact tail_any (typeIs_str s z t) slot_str_getitem.lookup (getItem_str (c:=c) (by
  have m:decide (i < -(2 ^ 63:Int))=false:=YH (by omega)
  have e2:decide (i>=2 ^ 63)=false:=YH (by omega)
  rw [m,e2,Bool.or_false]) (by rw [h1];simpa using h2) ⟨.str ⟨#[c]⟩,H,I.tok _,⟨_,rfl⟩,q⟩) hs
theorem L4(lo hi:Option Int)(n:Nat):(sliceBounds lo hi none n).1=((HT.sIx n 0 lo:Nat):Int)/\(sliceBounds lo hi none n).2.1=((HT.sIx n n hi:Nat):Int)/\(sliceBounds lo hi none n).2.2=1:=by
 refine⟨?_,?_,rfl⟩
 ·cases lo with
  | none=>simp [sliceBounds,HT.sIx]
  | some i =>
   simp only [sliceBounds,HT.sIx,Option.getD_none,show(1:Int) > 0 by decide,if_true]
   by_cases h:i < 0
   ·simp only [h,if_true] <;> omega
   ·simp only [h,if_false] <;> omega
 ·cases hi with
  | none=>simp [sliceBounds,HT.sIx]
  | some i =>
   simp only [sliceBounds,HT.sIx,Option.getD_none,show(1:Int) > 0 by decide,if_true]
   by_cases h:i < 0
   ·simp only [h,if_true] <;> omega
   ·simp only [h,if_false] <;> omega
theorem Kh(c:List iV)(lo hi:Option Int):slicePick c.toArray lo hi none=((c.drop (HT.sIx c.length 0 lo)).take (HT.sIx c.length c.length hi - HT.sIx c.length 0 lo)).toArray:=by
 obtain⟨h1,h2,d⟩:=L4 lo hi c.toArray.size
 unfold slicePick
 rw [h1,h2,d]
 simp only [sliceRange_one,pick_run,List.size_toArray] <;> rfl
def SY(K:iZ):V->Option Int->Option Int->Hp->VK->Prop:=λx lo hi H Q=>∃a c,x=.ref a/\E8 K H a c/\∀p,H p=none->Q (.ref p) (upd H p (.lst (Kg c lo hi)))
theorem Z7:NB X (SY X.K):=by
 intro i s σ H x v vl vu lo hi sl Q I rx hs pl pu h
 obtain⟨a,c,rfl,hx,q⟩:=h
 cases rx
 obtain⟨g,r,d,hz⟩:=I.list hx
 have f:=r.length
 refine⟨"list",_,slot_list_getitem.lookup,d.isList.typeIs,?_⟩
 refine wpAny_getItem_list_slice d.isList hs pl pu .none (by simp) ?_ (by rw [XS] <;> omega)
 rw [Kh,<- f]
 refine⟨.ref s.heap.objs.size,_,I.laid (t':=s.toks) (o:=.lst (Kg c lo hi)) (λb j q=>DD _ q) (E_ _) ?_,rfl,q _ (I.hok.fresh (E_ _))⟩
 exact⟨G_ (Hv c lo hi) hz,_,0,(r.drop (HT.sIx c.length 0 lo)).take (HT.sIx c.length c.length hi - HT.sIx c.length 0 lo),R_ _ rfl⟩
theorem L5:Hu X (compareOp .NotIn) (λx y H Q=>∃i j,x=.str i/\y=.str j/\Q (.bl (!(!(Builtin.Str.occurrences j i 0 j.length 1).isEmpty))) H):=by
 intro c s σ H x y v u Q I rx ry h
 obtain⟨i,j,rfl,rfl,q⟩:=h
 obtain⟨t,rfl⟩:=rx
 obtain⟨d,rfl⟩:=ry
 exact notIn_str ⟨.bl _,H,I,rfl,q⟩
theorem Et:Ex X (.builtin "len") (λi H Q=>∃p c,i=[.ref p]/\(E8 X.K H p c\/Kf X.K H p c)/\Q (.int c.length) H):=by
 intro l s σ H i us Q I r h
 obtain⟨p,c,rfl,hq,q⟩:=h
 obtain⟨u,rfl,j⟩:=Fr r
 cases j
 have hn:=Ix
 rcases hq with hq | hq
 ·obtain⟨k,d,f,hz⟩:=I.list hq
  have g:=d.length
  exact Calls.call_len_list f.isList (by simp only [List.size_toArray] <;> omega) ⟨.int c.length,H,I.tok _,⟨s.toks+1,by rw [XS,g]⟩,q⟩
 ·obtain⟨k,d,f,hz⟩:=I.tuple hq
  have g:=d.length
  exact len_tuple f (by simp only [List.size_toArray] <;> omega) ⟨.int c.length,H,I.tok _,⟨s.toks+1,by rw [XS,g]⟩,q⟩
theorem L6:Ex X (.builtin "len") (λc H Q=>∃z,c=[.str z]/\z.length<=sizeLine/\Q (.int z.length) H):=by
 intro d s σ H c us Q I r h
 obtain⟨z,rfl,hz,q⟩:=h
 obtain⟨u,rfl,t,rfl⟩:=Fr r
 have hn:=Ix
 exact len_str (by omega) ⟨.int z.length,H,I.tok _,⟨_,rfl⟩,q⟩
theorem Ft:Ex X (.type "tuple") (λk H Q=>∃p c,k=[.ref p]/\((E8 X.K H p c/\∀l,H l=none->Q (.ref l) (upd H l (.tup c)))\/(Kf X.K H p c/\Q (.ref p) H))):=by
 intro j s σ H k us Q I r h
 obtain⟨p,c,rfl,h⟩:=h
 obtain⟨u,rfl,n⟩:=Fr r
 cases n
 rcases h with⟨hq,q⟩ | ⟨hq,q⟩
 ·obtain⟨f,g,i,hz⟩:=I.list hq
  have y:=g.length
  refine call_tuple_list i.isList (λd x=>?_) (by simp only [List.size_toArray] <;> omega)
  have m:Inv X j σ H { s with heap:=d }:=I.kept (t':=s.toks) x
  have v:Inv X j σ (upd H d.objs.size (.tup c)) { s with heap:=d.push { cls:=.type "tuple",data:=.seq f.toArray } } :=
   m.laid (t':=s.toks) (λb o e=>DD _ e) (E_ _) (show Bs X.prog X.w _ _ _ (.tup c) from⟨hz,f,g,IsTup.new _ _⟩)
  exact⟨.ref d.objs.size,_,v,rfl,q _ (m.hok.fresh (E_ _))⟩
 ·obtain⟨f,g,i,hz⟩:=I.tuple hq
  exact call_tuple_same i ⟨.ref p,H,I,rfl,q⟩
def RU(K:iZ)(T:String)(x:V)(H:Hp):Prop:=match x with
 | .str _=>T = "str"
 | .int _=>T = "int"
 | .ref p=>(T = "list" /\ ∃d,E8 K H p d)\/(T = "tuple" /\ ∃o,K.lookup p=some o/\o.cls=.type "tuple" /\ o.dict=none) \/
   (T = "dict" /\ ((∃c,H p=some (.dK c))\/∃c,H p=some (.dT c)))\/(T = "set" /\ ∃S n,H p=some (.set S n))
 | _=>False
theorem Wa{k:List (iY×jE)}{σ:St}{H:Hp}{s:iW}{T:String}{x:V}{v:iV}(I:Inv X k σ H s)(r:Bb x v)(ty:RU X.K T x H) :
  s.TypeIs v T/\∀a,v=.ref a->∃h,s.heap.get? a=some h/\h.dict=none:=by
 cases x with
 | str z =>
  obtain⟨t,rfl⟩:=r
  cases (show T = "str" from ty)
  exact⟨typeIs_str s z t,λ_ e=>nomatch e⟩
 | int i =>
  obtain⟨t,rfl⟩:=r
  cases (show T = "int" from ty)
  exact⟨typeIs_int s i t,λ_ e=>nomatch e⟩
 | ref p =>
  cases r
  rcases ty with⟨rfl,m,hq⟩ | ⟨rfl,o,hk,hc,g⟩ | ⟨rfl,hk⟩ | ⟨rfl,S,n,hk⟩
  ·obtain⟨l,_,j,_⟩:=I.list hq
   refine⟨j.isList.typeIs,λa e=>?_⟩
   cases e
   obtain⟨o,n,e,c,g,_⟩:=j
   exact⟨o,e,g⟩
  ·refine⟨⟨o,I.kIn p o hk,hc⟩,λa e=>?_⟩
   cases e
   exact⟨o,I.kIn _ o hk,g⟩
  ·have z:∃o,s.heap.get? p=some o/\o.ExactDict:=by
    rcases hk with⟨f,hk⟩ | ⟨f,hk⟩
    ·obtain⟨_,_,_,_,o,_,_,e,d,_⟩:=I.hok p _ hk
     exact⟨o,e,d⟩
    ·obtain⟨_,_,_,_,o,_,_,e,d,_⟩:=I.hok p _ hk
     exact⟨o,e,d⟩
   obtain⟨o,e,d⟩:=z
   refine⟨⟨o,e,d.1⟩,λa e2=>?_⟩
   cases e2
   exact⟨o,e,d.2.1⟩
  ·obtain⟨o,_,_,_,e,d,_⟩:=I.hok p _ hk
   refine⟨⟨o,e,d.1⟩,λa e2=>?_⟩
   cases e2
   exact⟨o,e,d.2.1⟩
 | _=>exact False.elim ty
def NE(K:iZ)(T:String)(r:V->List V->Hp->VK->Prop)(to:TE):TE:=fun σ H Q=>to σ H λx c=>RU K T x c/\r x [] c Q
def WC(K:iZ)(T:String)(r:V->List V->Hp->VK->Prop)(to:TE)(t:TA):TE:=fun σ H Q=>to σ H λx c=>RU K T x c/\t σ c λf d=>r x f d Q
theorem Qa(j:PlainAttrs T)(slot:Slot T name id)(l:typeOf (.builtin id)=pure (.type "method_descriptor")) (g:HL X id r) (k:PE X o to)
  (q:attributeBase o name X.env (eval o X.env)=eval o X.env:=by rfl) (m:(aq.endLine==aj.line)=true:=by rfl):PE X (.Call (.Attribute o name aq) [] [] aj) (NE X.K T r to):=by
 intro c s σ H Q I h
 refine wpAny_Call_method0_late q m (thn (k c s σ H _ I h) λv u i=>?_)
 obtain⟨x,p,f,d,ty,n⟩:=i
 obtain⟨h1,h2⟩:=Wa f d ty
 exact⟨T,id,j,slot,l,h1,h2,dO rfl (PySem.evalArgs_none (g c u σ p x [] v [] Q f d .nil n))⟩
theorem EM(z:PlainAttrs T)(slot:Slot T name id)(C:typeOf (.builtin id)=pure (.type "method_descriptor")) (w:HL X id r) (k:PE X o to) (ha:PA X (e :: es) t)
  (m:attributeBase o name X.env (eval o X.env)=eval o X.env:=by rfl)
  (q:((backTo aj (starEach (e :: es) X.env)).all (λx=>!x.1) && (backToKw aj (keywordEach [] X.env)).all (λx=>x.1.isSome)
   && decide ((e :: es).length+([]:List Keyword).length+(if([]:List Keyword).isEmpty then 0 else 1) < 30))=true:=by rfl)
  (D:(aq.endLine==aj.line)=true:=by rfl) (hs:starEach (e :: es) X.env=(false,eval e X.env) :: starEach es X.env:=by rfl) (A:(backTo aj (starEach es X.env)).any (·.1)=false:=by rfl) :
  PE X (.Call (.Attribute o name aq) (e :: es) [] aj) (WC X.K T r to t):=by
 intro c s σ H Q I h
 refine wpAny_Call_method_late m q D rfl (thn (k c s σ H _ I h) λv G p=>?_)
 obtain⟨x,F,g,d,ty,E⟩:=p
 obtain⟨h1,h2⟩:=Wa g d ty
 refine⟨T,id,z,slot,C,h1,h2,?_⟩
 have f:=ha aj c G σ F _ g E
 rw [hs]at f ⊢
 refine dO (by show(false || (backTo aj (starEach es X.env)).any (·.1))=false;rw [A] <;> rfl) (gN ?_)
 exact thn f λB j u=>Cz u λl n i J y=>w c j σ n x l v B Q i d J y
end
def NF(X:Cx)(id:String)(r:V->List V->Hp->VK->Prop):Prop :=
 ∀(b:List (iY×jE)) (s:iW) (σ:St) (H:Hp) (x:V) (xs:List V) (v:iV) (a:List iV) (Q:VK),Inv X b σ H s->Bb x v->Vals xs a->r x xs H Q ->
  wpAny (model X.prog X.w) X.A (call (.builtin id) (v :: a)) (EP X b σ Q) X.xe s
theorem Vals.one:∀{x:V} {a:List iV},Vals [x] a->∃u,a=[u]/\Bb x u
 | _,_,.cons r .nil=>⟨_,rfl,r⟩
theorem Vals.zero:∀{a:List iV},Vals [] a->a=[]
 | _,.nil=>rfl
theorem Vals.dropLast{xs:List V}{a:List iV}(h:Vals xs a):Vals xs.dropLast a.dropLast:=by
 induction h with
 | nil=>exact .nil
 | cons r t b =>
  cases t with
  | nil=>exact .nil
  | cons q c=>exact .cons r b
theorem Vals.reverse{xs:List V}{a:List iV}(h:Vals xs a):Vals xs.reverse a.reverse:=by
 induction h with
 | nil=>exact .nil
 | cons r t b=>rw [fO,fO];exact Vals.append b (.cons r .nil)
theorem Qb{α:Type}(l:List α):l.eraseIdx (l.length - 1)=l.dropLast:=by
 induction l with
 | nil=>rfl
 | cons a r c =>
  cases r with
  | nil=>rfl
  | cons b r =>
   have e:(a :: b :: r).length - 1=((b :: r).length - 1)+1:=by
    have h1:(a :: b :: r).length=r.length+2:=rfl
    have h2:(b :: r).length=r.length+1:=rfl
    omega
   rw [e,List.eraseIdx_cons_succ,c]
   all_goals rfl
section
variable {X:Cx}{aa:List (iY×jE)}{σ:St}{H:Hp}{s:iW}{l b:iY}{xs ys zs:List V}
theorem Inv.lset{a its':List iV}{n:Nat}{f:Array iV->Array iV}{t':Nat}(I:Inv X aa σ H s)(c:H l=some (.lst xs))
  (e:s.heap.get? l=some { cls:=.type "list",data:=.seq a.toArray n }) (hf:f a.toArray=its'.toArray) (hv:Vals ys its') (hz:ys.length<=sizeLine) :
  Inv X aa σ (upd H l (.lst ys)) { s with heap:=s.heap.update l (Obj.mapSeq f),toks:=t' }:=by
 have q:=PySem.IsL.update e f
 rw [hf]at q
 refine I.write (x:=l) (e:=l) (by rw [c];exact trivial) (.inl rfl) (λd u hb hu=>(dP s.heap (Obj.mapSeq f) (bH hb)).trans hu) ⟨_,q⟩ ?_
 exact⟨hz,its',_,hv,q⟩
theorem Inv.lnew{a:List iV}{t':Nat}(I:Inv X aa σ H s)(hv:Vals ys a)(hz:ys.length<=sizeLine) :
  Inv X aa σ (upd H s.heap.objs.size (.lst ys)) { s with heap:=s.heap.push { cls:=.type "list",data:=.seq a.toArray },toks:=t' } :=
 I.laid (λ_ _ q=>DD _ q) (E_ _) ⟨hz,a,0,hv,R_ _ rfl⟩
theorem Inv.fresh(I:Inv X aa σ H s):H s.heap.objs.size=none:=I.hok.fresh (E_ _)
theorem Inv.lstM(I:Inv X aa σ H s)(c:H l=some (.lst xs)):xs.length<=sizeLine/\∃(a:List iV) (n:Nat),Vals xs a/\xs.length=a.length/\s.heap.get? l=some { cls:=.type "list",data:=.seq a.toArray n }:=by
 obtain⟨z,a,n,r,e⟩:=I.hok l _ c
 exact⟨z,a,n,r,r.length,e⟩
theorem Np{n:Nat}(h:n<=sizeLine):Builtin.List.listTooLong n=false:=by
 unfold Builtin.List.listTooLong
 exact YH (by omega)
def Z8:V->List V->Hp->VK->Prop:=λx a H Q=>∃l xs y,x=.ref l/\a=[y]/\H l=some (.lst xs)/\xs.length < sizeLine/\Q .non (upd H l (.lst (xs++[y])))
theorem Kx:NF X "list.append" Z8:=by
 intro aa s σ H x vs v us Q I rx rv h
 obtain⟨l,xs,y,rfl,rfl,a,hz,q⟩:=h
 cases rx
 obtain⟨u,rfl,d⟩:=rv.one
 obtain⟨z,c,n,r,f,e⟩:=I.lstM a
 refine iO F.slot_list_append ⟨_,e,rfl⟩ F.entry_list_append (F.args_list_append_2 _ _) (PySem.list_append l c.toArray n u (by rw [XS];omega)) ⟨e,?_⟩
 refine⟨.non,_,I.lset (its':=c++[u]) a e (by simp) (r.append (.cons d .nil)) ?_,rfl,q⟩
 rw [I_,eA]
 omega
def Z9:V->List V->Hp->VK->Prop:=λx a H Q=>∃l b xs zs,x=.ref l/\a=[.ref b]/\H l=some (.lst xs)/\H b=some (.lst zs)/\xs.length+zs.length<=sizeLine/\Q .non (upd H l (.lst (xs++zs)))
theorem Ub:NF X "list.extend" Z9:=by
 intro aa s σ H x vs v us Q I rx rv h
 obtain⟨l,b,xs,zs,rfl,rfl,f,g,hz,q⟩:=h
 cases rx
 obtain⟨u,rfl,k⟩:=rv.one
 cases k
 obtain⟨z,c,n,r,p,e⟩:=I.lstM f
 obtain⟨o,a,i,m,t,e2⟩:=I.lstM g
 have d:c.toArray.size+a.toArray.size<=sizeLine:=by rw [XS,XS];omega
 have j:¬(!c.toArray.isEmpty && Builtin.List.listTooLong (c.toArray.size+a.toArray.size))=true:=by
  rw [Np d,Bool.and_false]
  exact L_
 refine iO F.slot_list_extend ⟨_,e,rfl⟩ F.entry_list_extend (F.args_list_extend_2 _ _)
  (AutoSeq1.list_extend_list_list_0 l c.toArray n b a.toArray i j (by rw [XS];omega) (by omega)) ⟨e,e2,?_⟩
 refine⟨.non,_,I.lset (its':=c++a) f e (by simp) (r.append m) ?_,rfl,q⟩
 rw [I_]
 omega
def SZ:V->List V->Hp->VK->Prop:=λx a H Q=>∃l xs y,x=.ref l/\a=[]/\H l=some (.lst xs)/\xs[xs.length - 1]?=some y/\Q y (upd H l (.lst xs.dropLast))
theorem HQ:NF X "list.pop" SZ:=by
 intro aa s σ H x vs v us Q I rx rv h
 obtain⟨l,xs,y,rfl,rfl,d,hy,q⟩:=h
 cases rx
 have i:=rv.zero
 subst i
 obtain⟨z,a,n,r,g,e⟩:=I.lstM d
 obtain⟨u,hu,f⟩:=r.get hy
 have c:a.toArray[a.toArray.size - 1]?=some u:=by
  show a.toArray[a.length - 1]?=some u
  rw [<- V_,<- g]
  exact hu
 refine iO F.slot_list_pop ⟨_,e,rfl⟩ F.entry_list_pop (F.args_list_pop_1 _) (MeetsSeq.list_pop_last l a.toArray n u c (by rw [XS];omega)) ⟨e,?_⟩
 refine⟨y,_,I.lset (its':=a.dropLast) d e ?_ r.dropLast ?_,f,q⟩
 ·show a.toArray.eraseIdxIfInBounds (a.toArray.size - 1)=a.dropLast.toArray
  rw [XS,List.eraseIdxIfInBounds_toArray,Qb]
 ·rw [List.length_dropLast]
  omega
def HR:V->List V->Hp->VK->Prop:=λx a H Q=>∃l xs,x=.ref l/\a=[]/\H l=some (.lst xs)/\Q .non (upd H l (.lst []))
theorem Wb:NF X "list.clear" HR:=by
 intro aa s σ H x vs v us Q I rx rv h
 obtain⟨l,xs,rfl,rfl,a,q⟩:=h
 cases rx
 have c:=rv.zero
 subst c
 obtain⟨z,d,n,r,f,e⟩:=I.lstM a
 refine iO F.slot_list_clear ⟨_,e,rfl⟩ F.entry_list_clear (F.args_list_clear_1 _) (AutoSeq1.list_clear_list_0 l d.toArray n (by rw [XS];omega)) ⟨e,?_⟩
 exact⟨.non,_,I.lset (its':=[]) (ys:=[]) a e rfl .nil (XQ _),rfl,q⟩
def TB:R2:=λx y H Q=>∃l b xs zs,x=.ref l/\y=.ref b/\H l=some (.lst xs)/\H b=some (.lst zs)/\xs.length+zs.length<=sizeLine/\∀p,H p=none->Q (.ref p) (upd H p (.lst (xs++zs)))
theorem HS:Hu X (binaryOp .Add) TB:=by
 intro aa s σ H x y v u Q I rx ry h
 obtain⟨l,b,xs,zs,rfl,rfl,f,d,hz,q⟩:=h
 cases rx
 cases ry
 obtain⟨z,c,n,r,m,e⟩:=I.lstM f
 obtain⟨j,a,k,i,o,e2⟩:=I.lstM d
 refine PySem.P.add_list e e2 ?_ (by rw [XS,XS];omega)
 have g:c.toArray++a.toArray=(c++a).toArray:=by simp
 rw [g]
 exact⟨.ref _,_,I.lnew (t':=s.toks) (r.append i) (by rw [I_];omega),rfl,q _ I.fresh⟩
end
section
variable {κ:Type} [DecidableEq κ]
def D9(kvs:List (κ×V))(k:κ):Option V:=(kvs.find? λa=>decide (a.1=k)).map (·.2)
def Dl(kvs:List (κ×V))(k:κ)(v:V):List (κ×V) :=
 if(kvs.any λa=>decide (a.1=k))=true then kvs.map (λa=>if a.1=k then(a.1,v) else a) else kvs++[(k,v)]
theorem Iz{p:κ×V}{r:List (κ×V)}{k:κ}(e:p.1=k):D9 (p :: r) k=some p.2:=by simp [D9,List.find?_cons,e]
theorem Ja{p:κ×V}{r:List (κ×V)}{k:κ}(e:¬p.1=k):D9 (p :: r) k=D9 r k:=by simp [D9,List.find?_cons,e]
theorem Nq(k:κ):∀a:List (κ×V),(a.any λb=>decide (b.1=k))=(D9 a k).isSome
 | []=>rfl
 | p :: r=>by
  rw [bG]
  by_cases e:p.1=k
  ·simp only [Iz e,decide_eq_true e,Bool.true_or,Option.isSome_some]
  ·rw [Ja e,YH e,iH];exact Nq k r
theorem Dz(kvs:List (κ×V))(k:κ)(v:V):(Dl kvs k v).length<=kvs.length+1:=by
 unfold Dl
 split
 ·rw [B_];omega
 ·rw [I_,YA,List.length_nil];omega
theorem G8.isSome_eq{o:Option V}{u:Option iV}(r:G8 o u):o.isSome=u.isSome:=by
 cases o with
 | none=>cases u with
  | none=>rfl
  | some _=>exact(show False from r).elim
 | some _=>cases u with
  | none=>exact(show False from r).elim
  | some _=>rfl
theorem G8.getD{o:Option V}{u:Option iV}{d:V}{d':iV}(r:G8 o u)(a:Bb d d'):Bb (o.getD d) (u.getD d'):=by
 cases o with
 | none=>cases u with
  | none=>exact a
  | some _=>exact(show False from r).elim
 | some _=>cases u with
  | none=>exact(show False from r).elim
  | some _=>exact r
theorem KV.val{kvs:List (κ×V)}{vs:List (κ×iV)}(r:KV kvs vs)(k:κ):G8 (D9 kvs k) (valueAt vs k):=by
 unfold KV at r
 induction r with
 | nil=>exact True.intro
 | @cons p q f a h t d =>
  obtain⟨h1,h2⟩:=h
  by_cases e:p.1=k
  ·have c:q.1=k:=h1.symm.trans e
   have b:valueAt (q :: a) k=some q.2:=by simp [valueAt,List.find?_cons,c]
   rw [Iz e,b];exact h2
  ·have c:¬q.1=k:=λz=>e (h1.trans z)
   have b:valueAt (q :: a) k=valueAt a k:=by simp [valueAt,List.find?_cons,c]
   rw [Ja e,b];exact d
theorem KV.any{kvs:List (κ×V)}{vs:List (κ×iV)}(r:KV kvs vs)(k:κ):(kvs.any λa=>decide (a.1=k))=vs.any λa=>decide (a.1=k):=by
 unfold KV at r
 induction r with
 | nil=>rfl
 | cons h t b=>rw [bG,bG,b,h.1]
theorem KV.repl{kvs:List (κ×V)}{vs:List (κ×iV)}(r:KV kvs vs)(k:κ){y:V}{u:iV}(c:Bb y u) :
  KV (kvs.map λa=>if a.1=k then(a.1,y) else a) (vs.map λa=>if a.1=k then(a.1,u) else a):=by
 unfold KV at r ⊢
 induction r with
 | nil=>exact .nil
 | @cons p q f d h t b =>
  rw [XY,XY]
  refine .cons ?_ b
  obtain⟨h1,h2⟩:=h
  by_cases e:p.1=k
  ·rw [Q_ e,Q_ (h1.symm.trans e)];exact⟨h1,c⟩
  ·rw [J_ e,J_ (λz=>e (h1.trans z))];exact⟨h1,h2⟩
theorem KV.put{kvs:List (κ×V)}{vs:List (κ×iV)}(r:KV kvs vs)(k:κ){y:V}{u:iV}(a:Bb y u):KV (Dl kvs k y) (stored vs k u):=by
 unfold Dl stored
 rw [r.any k]
 by_cases e:(vs.any λb=>decide (b.1=k))=true
 ·rw [Q_ e,Q_ e];exact r.repl k a
 ·rw [J_ e,J_ e];exact iA r ⟨rfl,a⟩
theorem KV.length{kvs:List (κ×V)}{vs:List (κ×iV)}(r:KV kvs vs):kvs.length=vs.length:=aB r
end
theorem Ky{P:i_}{w:jA}{k:Key}{u:iV}(r:Bb (kV k) u):(Aw P w).is k u=true:=by
 cases k with
 | inl i=>obtain⟨t,e⟩:=(show ∃t,u=Value.int i t from r);subst e;exact Cy P w i t
 | inr x=>obtain⟨t,e⟩:=(show ∃t,u=Value.str x t from r);subst e;exact E6 P w x t
theorem Kz{P:i_}{w:jA}:∀{ks:List Key} {a:List iV},Vals (ks.map kV) a->ItemsAre (Aw P w) ks a
 | [],_,r=>by rw [iP]at r;cases r;exact .nil
 | k :: ks,_,r=>by
  rw [XY]at r
  cases r with
  | cons h t=>exact .cons (Ky h) (Kz t)
abbrev KT(H:Hp):List (List Key×V)->List (List Key×iY×iV)->Prop:=Paired λp q=>p.1=q.1/\H q.2.1=some (.tup (p.1.map kV))/\Bb p.2 q.2.2
theorem KT.val{H:Hp}{kvs:List (List Key×V)}{xs:List (List Key×iY×iV)}(r:KT H kvs xs)(k:List Key):G8 (D9 kvs k) ((atKey xs k).map (·.2)):=by
 induction r with
 | nil=>exact True.intro
 | @cons p q f a h t d =>
  obtain⟨h1,_,h2⟩:=h
  by_cases e:p.1=k
  ·have c:q.1=k:=h1.symm.trans e
   have b:atKey (q :: a) k=some q.2:=by simp [atKey,List.find?_cons,c]
   rw [Iz e,b];exact h2
  ·have c:¬q.1=k:=λz=>e (h1.trans z)
   have b:atKey (q :: a) k=atKey a k:=by simp [atKey,List.find?_cons,c]
   rw [Ja e,b];exact d
theorem KT.repl{H:Hp}{kvs:List (List Key×V)}{xs:List (List Key×iY×iV)}(r:KT H kvs xs)(k:List Key){y:V}{u:iV}(c:Bb y u) :
  KT H (kvs.map λa=>if a.1=k then(a.1,y) else a) (xs.map (putAt k u)):=by
 induction r with
 | nil=>exact .nil
 | @cons p q g f h t b =>
  rw [XY,XY]
  refine .cons ?_ b
  obtain⟨h1,h2,d⟩:=h
  unfold putAt
  by_cases e:p.1=k
  ·rw [Q_ e,Q_ (h1.symm.trans e)];exact⟨h1,h2,c⟩
  ·rw [J_ e,J_ (λz=>e (h1.trans z))];exact⟨h1,h2,d⟩
theorem KT.put{H:Hp}{kvs:List (List Key×V)}{xs:List (List Key×iY×iV)}(r:KT H kvs xs)(k:List Key){b:iY}{y:V}{u:iV}(hb:H b=some (.tup (k.map kV)))(a:Bb y u) :
  KT H (Dl kvs k y) (storedH xs k b u):=by
 have e:(kvs.any λc=>decide (c.1=k))=(atKey xs k).isSome:=by
  rw [Nq,(r.val k).isSome_eq,Option.isSome_map]
 unfold Dl storedH
 rw [e]
 by_cases q:(atKey xs k).isSome=true
 ·rw [Q_ q,Q_ q];exact r.repl k a
 ·rw [J_ q,J_ q];exact iA r ⟨rfl,hb,a⟩
theorem KT.keeps{H H':Hp}{kvs:List (List Key×V)}{xs:List (List Key×iY×iV)}(r:KT H kvs xs)(c:∀b a,H b=some (.tup a)->H' b=some (.tup a)):KT H' kvs xs :=
 Paired.mapP r λ_ _ z=>⟨z.1,c _ _ z.2.1,z.2.2⟩
section
variable {P:i_}{w:jA}{H:Hp}{h:jD}{a:iY}{X:Cx}{aa:List (iY×jE)}{σ:St}{s:iW}{y v:V}{u r:iV}{o:Option V}{A:jC}{E:iV->iW->Prop}
theorem EN{u:HO}(ok:HOk P w H h)(e:Rd H a u):Bs P w H h a u:=e.ok ok
theorem Jb{kvs:List (Key×V)}(ok:HOk P w H h)(e:Rd H a (.dK kvs)):kvs.length<=sizeLine/\(a==sysModules)=false/\∃b,KV kvs b/\h.DictOf (Aw P w) a b :=
 show Bs P w H h a (.dK kvs) from EN ok e
theorem EO{kvs:List (Key×V)}(ok:HOk P w H h)(e:H a=some (.dK kvs)):kvs.length<=sizeLine/\(a==sysModules)=false/\∃b,KV kvs b/\h.DictOf (Aw P w) a b:=Jb ok (.inl e)
theorem G9{ks:List Key}(ok:HOk P w H h)(e:H a=some (.tup (ks.map kV))):(tupleKind (Aw P w)).is h ks a:=by
 obtain⟨_,c,r,o,h1,h2,n,b⟩:=(show Bs P w H h a (.tup (ks.map kV)) from ok a _ e)
 exact⟨o,c.toArray,n,h1,h2,b,by simpa using Kz r⟩
theorem K0{kvs:List (List Key×V)}(ok:HOk P w H h)(e:Rd H a (.dT kvs)):kvs.length<=sizeLine/\(a==sysModules)=false /\
  ∃b,KT H kvs b/\h.DictOfH (tupleKind (Aw P w)) a b:=by
 obtain⟨z,y,b,r,o,d,j,h1,h2,i,g,f⟩:=(show Bs P w H h a (.dT kvs) from EN ok e)
 refine⟨z,y,b,r,o,d,j,h1,h2,i,g,λx hx=>?_,f⟩
 have all:∀{l:List (List Key×V)} {m:List (List Key×iY×iV)},KT H l m->∀x∈m,(tupleKind (Aw P w)).is h x.1 x.2.1:=by
  intro l m q
  induction q with
  | nil=>intro x hx;exact nomatch hx
  | @cons p q n k hq t c =>
   intro x hx
   rcases XJ.mp hx with e | hx
   ·subst e
    exact G9 ok (by rw [<- hq.1];exact hq.2.1)
   ·exact c x hx
 exact all r x hx
theorem Ry{kvs:List (List Key×V)}(ok:HOk P w H h)(e:H a=some (.dT kvs)):kvs.length<=sizeLine/\(a==sysModules)=false /\
  ∃b,KT H kvs b/\h.DictOfH (tupleKind (Aw P w)) a b:=K0 ok (.inl e)
def DGet(H:Hp)(a:iY)(y:V)(r:Option V):Prop :=
 (∃c k,Rd H a (.dK c)/\y=kV k/\r=D9 c k)\/∃c k b,Rd H a (.dT c)/\y=.ref b/\H b=some (.tup (k.map kV))/\r=D9 c k
def DPut(H:Hp)(a:iY)(y v:V)(H':Hp):Prop :=
 (∃c k,H a=some (.dK c)/\y=kV k/\c.length < sizeLine/\H'=upd H a (.dK (Dl c k v))) \/
 ∃c k b,H a=some (.dT c)/\y=.ref b/\H b=some (.tup (k.map kV))/\c.length < sizeLine/\H'=upd H a (.dT (Dl c k v))
theorem DGet.k{H:Hp}{a:iY}{kvs:List (Key×V)}{k:Key}(e:H a=some (.dK kvs)):DGet H a (kV k) (D9 kvs k):=.inl ⟨kvs,k,.inl e,rfl,rfl⟩
theorem DGet.t{H:Hp}{a b:iY}{kvs:List (List Key×V)}{k:List Key}(e:H a=some (.dT kvs))(c:H b=some (.tup (k.map kV))):DGet H a (.ref b) (D9 kvs k):=.inr ⟨kvs,k,b,.inl e,rfl,c,rfl⟩
theorem DPut.k{H:Hp}{a:iY}{kvs:List (Key×V)}{k:Key}{v:V}(e:H a=some (.dK kvs))(b:kvs.length < sizeLine):DPut H a (kV k) v (upd H a (.dK (Dl kvs k v))):=.inl ⟨kvs,k,e,rfl,b,rfl⟩
theorem DPut.t{H:Hp}{a b:iY}{kvs:List (List Key×V)}{k:List Key}{v:V}(e:H a=some (.dT kvs))(d:H b=some (.tup (k.map kV)))(c:kvs.length < sizeLine) :
  DPut H a (.ref b) v (upd H a (.dT (Dl kvs k v))):=.inr ⟨kvs,k,b,e,rfl,d,c,rfl⟩
theorem Inv.big(I:Inv X aa σ H s):sysModules < s.heap.objs.size:=by
 have h:mainGlobals < s.heap.objs.size:=(I.mod.glob.keeps I.bk).lt
 exact YZ (by decide) h
theorem Uc{Q:iV->iW->Prop}(hu:A.units+1 < cLine)(I:Inv X aa σ H s)(g:DGet H a y (some v))(n:Bb y u)(h:∀d q,Inv X aa σ H q->Bb v d->Q d q) :
  wpAny (model X.prog X.w) A (getItem (.ref a) u) Q E s:=by
 rcases g with⟨f,k,e,m,l⟩ | ⟨f,k,b,e,m,x,l⟩
 ·subst m
  obtain⟨z,C,D,c,dd⟩:=Jb I.hok e
  obtain⟨d,i,j⟩:=G8.some_of (v:=v) (o:=valueAt D k) (by rw [l];exact c.val k)
  exact wpAny_getItem_of (Ky n) dd.mapOf i (h d _ (I.tok _) j)
 ·subst m
  cases (show u=Value.ref b from n)
  obtain⟨z,C,B,c,dd⟩:=K0 I.hok e
  obtain⟨d,i,j⟩:=G8.some_of (v:=v) (o:=(atKey B k).map (·.2)) (by rw [l];exact c.val k)
  obtain⟨p,hp,t⟩:=K_.mp i
  refine wpAny_getItem_heap (dQ hu) (G9 I.hok x) dd hp ?_
  rw [t]
  exact h d _ (I.tok _) j
theorem AB{Q:iV->iW->Prop}(hu:A.units+1 < cLine)(I:Inv X aa σ H s)(g:DGet H a y o)(j:Bb y u)(h:∀m,Inv X aa σ H m->Q (.bool (!o.isSome)) m) :
  wpAny (model X.prog X.w) A (compareOp .NotIn u (.ref a)) Q E s:=by
 rcases g with⟨d,k,e,i,l⟩ | ⟨d,k,b,e,i,n,l⟩
 ·subst i
  obtain⟨z,f,t,c,dd⟩:=Jb I.hok e
  refine wpAny_notIn_of (Ky j) f dd.mapOf ?_
  rw [<- (c.val k).isSome_eq,<- l]
  exact h _ (I.tok _)
 ·subst i
  cases (show u=Value.ref b from j)
  obtain⟨z,f,p,c,dd⟩:=K0 I.hok e
  refine wpAny_notIn_heap (dQ hu) (G9 I.hok n) f dd ?_
  have q:=(c.val k).isSome_eq
  rw [Option.isSome_map]at q
  rw [<- q,<- l]
  exact h _ (I.tok _)
theorem Gj{h':jD}{t':Nat}{d:HO}(I:Inv X aa σ H s)(f:Mut (H a))(hs:Heap.SameBut a s.heap h')(he:∃q,h'.get? a=some q)(c:Bs X.prog X.w (upd H a d) h' a d) :
  Inv X aa σ (upd H a d) { s with heap:=h',toks:=t' } :=
 I.write (x:=a) (e:=a) f (.inl rfl) (λb q hb z=>(hs.2 b hb).trans z) he c
theorem Wc{P:i_}{w:jA}{H':Hp}{h':jD}{kvs:List (Key×V)}{vs:List (Key×iV)}(z:kvs.length<=sizeLine)(c:(a==sysModules)=false)(b:KV kvs vs)(dd:h'.DictOf (Aw P w) a vs) :
  Bs P w H' h' a (.dK kvs):=⟨z,c,vs,b,dd⟩
theorem Ud{H':Hp}{Q:Unit->iW->Prop}(hu:A.units+1 < cLine)(I:Inv X aa σ H s)(g:DPut H a y v H')(G:Bb y u)(C:Bb v r)(h:∀B,Inv X aa σ H' B->Q () B) :
  wpAny (model X.prog X.w) A (setItem (.ref a) u r) Q E s:=by
 rcases g with⟨f,k,e,j,l,m⟩ | ⟨f,k,b,e,j,x,l,m⟩
 ·subst j m
  obtain⟨z,t,N,d,dd⟩:=EO I.hok e
  have hz:N.length<=sizeLine:=by rw [<- d.length];exact z
  have p:(Dl f k v).length<=sizeLine:=by have:=Dz f k v;omega
  refine wpAny_setItem_pairs (hsz:=hz) (Ky G) dd λF i n=>h _ ?_
  have he:∃q,F.get? a=some q:=let⟨q,_,_,hq,_⟩:=i;⟨q,hq⟩
  exact Gj I (by rw [e];exact True.intro) n he (Wc p t (d.put k C) i)
 ·subst j m
  cases (show u=Value.ref b from G)
  obtain⟨z,t,L,d,dd⟩:=Ry I.hok e
  have hz:L.length<=sizeLine:=by rw [<- aB d];exact z
  have p:(Dl f k v).length<=sizeLine:=by have:=Dz f k v;omega
  refine wpAny_setItem_heap (hsz:=hz) (dQ hu) (G9 I.hok x) dd λF i n=>h _ ?_
  obtain⟨q,J,S,hq,h2,R,M,_,O⟩:=i
  refine Gj I (by rw [e];exact True.intro) n ⟨q,hq⟩ ⟨p,t,_,(d.put k x C).keeps λc T D=>?_,q,J,S,hq,h2,R,M,O⟩
  rw [Ay (Nm D e (λz=>nomatch z))]
  exact D
end
section
variable {X:Cx}{aa:List (iY×jE)}{σ:St}{H:Hp}{s:iW}{a:iY}{kvs:List (Key×V)}{k:Key}{u:iV}{A:jC}{E:iV->iW->Prop}{o i e value:jB}{pos dw n5:Pos}{td ty tv:TE}
theorem NG{Q:iV->iW->Prop}(I:Inv X aa σ H s)(e:Rd H a (.dK kvs))(h:∀t c,Inv X aa σ H c->Q (.int kvs.length t) c):wpAny (model X.prog X.w) A (call (.builtin "len") [.ref a]) Q E s:=by
 obtain⟨z,d,f,b,dd⟩:=Jb I.hok e
 refine call_len_dict d dd (by rw [<- b.length];rw [sizeLine_eq]at z;omega) ?_
 rw [<- b.length]
 exact h _ _ (I.tok _)
def HU(i:jB):Prop:=∀c b,subscripted i false c b=operate [c,b] (getItem c b)
theorem AD{prog:i_}{w:jA}{A:jC}{E:iV->iW->Prop}{s:iW}{env:Env}{value b:jB}{pos:Pos}{T id:String}{Q:iV->iW->Prop}
  (f:typeLookup (.type T) "__getitem__" = pure (some (.builtin id))) (hs:HU b)
  (h:wpAny (model prog w) A (eval value env) (λo s₁=>wpAny (model prog w) A (eval b env) (λi s₂=>s₂.TypeIs o T/\wpAny (model prog w) A (getItem o i) Q E s₂) E s₁) E s) :
  wpAny (model prog w) A (eval (.Subscript value b pos) env) Q E s:=by
 refine Subscript_ (ZW h (λo s₁ h₁=>ZW h₁ (λi s₂ h₂=>?_) λ_ _ x=>x) λ_ _ x=>x)
 obtain⟨d,h₂⟩:=h₂
 unfold subscriptTail
 refine A_ ?_
 rw [getitemInPython_of_ne d.not_modules]
 refine A_ (bY d f ?_)
 have c:wpAny (model prog w) A (subscripted b false o i) (λr s₃=>wpAny (model prog w) A (letTemporaryGo value o r >>= λ_=>pure r) Q E s₃) E s₂:=by
  rw [hs o i]
  exact wpAny_operating (ZW h₂ (λr s₃ h₃=>A_ (wpAny_letTemporaryGo (C_ h₃))) λ_ _ x=>x)
 first
  | exact C_ (A_ c)
  | exact A_ (C_ (A_ c))
  | exact A_ c
theorem Nr{X:Cx}{aa:List (iY×jE)}{σ:St}{H:Hp}{s:iW}{a:iY}{y:V}{o:Option V}(I:Inv X aa σ H s)(g:DGet H a y o):s.TypeIs (.ref a) "dict" := by
 rcases g with⟨kvs,k,e,_,_⟩ | ⟨kvs,k,b,e,_,_,_⟩
 ·obtain⟨_,_,c,_,dd⟩:=Jb I.hok e
  exact dd.typeIs
 ·obtain⟨_,_,d,_,dd⟩:=K0 I.hok e
  exact dd.typeIs
def NH(td ty:TE):TE:=fun σ H Q=>td σ H λx c=>ty σ c λy b=>∃a v,x=.ref a/\DGet b a y (some v)/\Q v b
def Rz(ty td:TE):TE:=fun σ H Q=>ty σ H λy c=>td σ c λx b=>∃a o,x=.ref a/\DGet b a y o/\Q (.bl (!o.isSome)) b
def NI(td ty tv:TE):TS:=λD σ H=>tv σ H λv c=>td σ c λx d=>ty σ d λy f=>∃a b,x=.ref a/\DPut f a y v b/\D.nx σ b
theorem AF(hu:X.A.units+1 < cLine)(p:PE X o td)(q:PE X i ty)(hs:HU i):PE X (.Subscript o i pos) (NH td ty):=by
 intro aa s σ H Q I h
 refine AD PySem.F.slot_dict_getitem.lookup hs (thn (p aa s σ H _ I h) λu C f=>Cz f λx t B c r=>thn (q aa C σ t _ B r) λG D n=>?_)
 obtain⟨y,z,b,m,a,v,d,g,j⟩:=n
 subst d
 obtain rfl:u=Value.ref a:=c
 exact⟨Nr b g,Uc hu b g m λL J l w=>⟨v,z,l,w,j⟩⟩
theorem Ue(hu:X.A.units+1 < cLine)(q:PE X i ty)(p:PE X o td):PC X .NotIn i o (Rz ty td):=by
 intro aa s σ H Q I h
 refine thn (q aa s σ H _ I h) λD B t=>Cz t λy v z m r=>thn (p aa B σ v _ z r) λu C d=>?_
 obtain⟨x,w,f,b,a,n,c,g,j⟩:=d
 subst c
 obtain rfl:u=Value.ref a:=b
 exact AB hu f g m λF l=>⟨.bl (!n.isSome),w,l,rfl,j⟩
theorem AH(hu:X.A.units+1 < cLine)(m:PE X o td)(C:PE X i ty)(hv:PE X value tv)(hs:swapsWith value (some (.Subscript o i dw)) pos.line X.env=pure false) :
  PS X (.Assign [.Subscript o i dw] value pos) (NI td ty tv):=by
 intro aa s σ H D I h
 refine wpAny_Assign_Subscript (thn (hv aa s σ H _ I h) λr N b=>Cz b λv J M l F=>thn (m aa N σ J _ M F) λu j L=>Cz L λx n d p q=>thn (C aa j σ n _ d q) λO P f=>?_) hs
 obtain⟨y,Q,t,w,a,G,c,g,z⟩:=f
 subst c
 obtain rfl:u=Value.ref a:=p
 exact Ud hu t g w l λR B=>⟨σ,G,B,z⟩
theorem Nt{P:i_}{w:jA}{H:Hp}(h:jD)(hb:sysModules < h.objs.size):Bs P w H (h.push { cls:=.type "dict",data:=.dict #[] }) h.objs.size (.dK []) :=
 ⟨XQ _,eU.mpr (bH (W_ hb)),[],.nil,Heap.DictOf.new h⟩
theorem Wd{P:i_}{w:jA}{H:Hp}(h:jD)(hb:sysModules < h.objs.size):Bs P w H (h.push { cls:=.type "dict",data:=.dict #[] }) h.objs.size (.dT []) :=
 ⟨XQ _,eU.mpr (bH (W_ hb)),[],.nil,_,#[],0,R_ _ rfl,⟨rfl,rfl,rfl⟩,rfl,rfl,bJ⟩
def HV:TE:=λ_ H Q=>∀p,H p=none->Q (.ref p) (upd H p (.dK []))
def HW:TE:=λ_ H Q=>∀p,H p=none->Q (.ref p) (upd H p (.dT []))
theorem We:PE X (.Dict [] [] pos) HV:=λaa s σ H Q I h =>
 wpAny_Dict_empty ⟨.ref s.heap.objs.size,_,I.laid (a:=s.heap.objs.size) (o:=.dK []) (t':=s.toks) (λ_ _ q=>DD _ q) (E_ _) (Nt s.heap I.big),rfl,h _ (I.hok.fresh (E_ _))⟩
theorem Wf:PE X (.Dict [] [] pos) HW:=λaa s σ H Q I h =>
 wpAny_Dict_empty ⟨.ref s.heap.objs.size,_,I.laid (a:=s.heap.objs.size) (o:=.dT []) (t':=s.toks) (λ_ _ q=>DD _ q) (E_ _) (Wd s.heap I.big),rfl,h _ (I.hok.fresh (E_ _))⟩
end
def L7:List (TE×TE)->St->Hp->(List (V×V)->Hp->Prop)->Prop
 | [],_,H,Q=>Q [] H
 | (b,a) :: r,σ,H,Q=>b σ H λx c=>a σ c λy d=>L7 r σ d λf e=>Q ((x,y) :: f) e
abbrev VV:List (V×V)->List (iV×iV)->Prop:=Paired λp q=>Bb p.1 q.1/\Bb p.2 q.2
def PPs(X:Cx)(a:Pos)(f:List (Option jB))(g:List jB)(e:List (TE×TE)):Prop :=
 ∀(c:List (iY×jE)) (s:iW) (σ:St) (H:Hp) (Q:List (V×V)->Hp->Prop),Inv X c σ H s->L7 e σ H Q ->
  wpAny (model X.prog X.w) X.A (evalPairs (pairTrees f g X.env a)) (λh i=>∃d b,Inv X c σ b i/\VV d h/\Q d b) X.xe s
theorem AJ{X:Cx}{a:Pos}:PPs X a [] [] []:=λb s σ H Q I h=>pairTrees_nil_walk ⟨[],H,I,.nil,h⟩
theorem Wg{X:Cx}{a:Pos}{k v:jB}{ks:List (Option jB)}{vs:List jB}{tk d:TE}{e:List (TE×TE)}(hk:PE X k tk)(hv:PE X v d)(f:PPs X a ks vs e) :
  PPs X a (some k :: ks) (v :: vs) ((tk,d) :: e):=λc s σ H Q I h =>
 pairTrees_cons_walk (thn (hk c s σ H _ I h) λu C n=>Cz n λx A B m z=>thn (hv c C σ A _ B z) λG i w=>Cz w λy l g p o =>
  thn (f c i σ l _ g o) λF E j=>Cz j λD q r b t=>⟨(x,y) :: D,q,r,.cons ⟨m,p⟩ b,t⟩)
def Fz(kvs more:List (Key×V)):List (Key×V):=more.foldl (λa b=>Dl a b.1 b.2) kvs
theorem KV.merge:∀{more:List (Key×V)} {a:List (Key×iV)} {kvs:List (Key×V)} {vs:List (Key×iV)},KV more a->KV kvs vs->KV (Fz kvs more) (merged vs a):=by
 intro more a kvs vs r
 unfold KV at r
 induction r generalizing kvs vs with
 | nil=>intro q;exact q
 | @cons p q f d h t b =>
  intro c
  have e:KV (Dl kvs p.1 p.2) (stored vs q.1 q.2):=by
   have:=c.put p.1 h.2
   rw [<- h.1];exact this
  exact b e
theorem Fu:∀(more kvs:List (Key×V)),(Fz kvs more).length<=kvs.length+more.length
 | [],kvs=>by show kvs.length<=kvs.length+0;omega
 | p :: r,kvs=>by
  have h1:=Fu r (Dl kvs p.1 p.2)
  have h2:=Dz kvs p.1 p.2
  show(Fz (Dl kvs p.1 p.2) r).length<=_
  rw [YA];omega
theorem Jc{P:i_}{w:jA}:∀{kvs:List (Key×V)} {e:List (iV×iV)},VV (kvs.map λf=>(kV f.1,f.2)) e->∃d,Carries (Aw P w) e d/\KV kvs d
 | [],_,r=>by rw [iP]at r;cases r;exact⟨[],True.intro,.nil⟩
 | p :: kvs,_,r=>by
  rw [XY]at r
  cases r with
  | @cons a b i g h t =>
   obtain⟨d,c,q⟩:=Jc (P:=P) (w:=w) t
   obtain⟨b1,b2⟩:=b
   exact⟨(p.1,b2) :: d,⟨Ky h.1,rfl,c⟩,.cons ⟨rfl,h.2⟩ q⟩
def NJ(d:List (TE×TE)):TE:=fun σ H Q=>∀p,H p=none->L7 d σ (upd H p (.dK [])) λe b=>b p=some (.dK [])/\∃a:List (Key×V),e=a.map (λc=>(kV c.1,c.2))/\a.length<=15/\Q (.ref p) (upd b p (.dK (Fz [] a)))
theorem AK{X:Cx}{d:Pos}{b:List (Option jB)}{g:List jB}{m:List (TE×TE)}(h:PPs X d b g m)(y:b.all (·.isSome)=true)(x:b.length=g.length)(D:b≠[])
  (j:b.length<=15):PE X (.Dict b g d) (NJ m):=by
 intro v s σ H Q I q
 have hn:=I.hok.fresh (E_ s.heap.objs.size)
 have E:=I.laid (a:=s.heap.objs.size) (o:=.dK []) (h':=s.heap.push { cls:=.type "dict",data:=.dict #[] }) (t':=s.toks) (λ_ _ q=>DD _ q) (E_ _) (Nt s.heap I.big)
 refine wpAny_Dict_walk (knd:=Aw X.prog X.w) y x D j (thn (h v _ σ _ _ E (q _ hn)) λL G r=>?_)
 obtain⟨M,J,k,i,e,f,A,F,u⟩:=r
 subst A
 obtain⟨p,c,rk⟩:=Jc (P:=X.prog) (w:=X.w) i
 obtain⟨z,B,C,t,dd⟩:=EO k.hok e
 cases t
 refine⟨p,c,dd,λh' l n=>⟨.ref s.heap.objs.size,_,?_,rfl,u⟩⟩
 have hz:(Fz [] f).length<=sizeLine:=by
  have h1:=Fu f []
  rw [List.length_nil]at h1
  rw [sizeLine_eq];omega
 have he:∃q,h'.get? s.heap.objs.size=some q:=let⟨q,_,_,hq,_⟩:=l;⟨q,hq⟩
 exact Gj k (by rw [e];exact True.intro) n he (Wc hz B (rk.merge .nil) l)
structure M1(X:Cx)(o:jB)(m:Str)(aq:Pos)(e:jB)(aj:Pos):Prop where
 base:attributeBase o m X.env (eval o X.env)=eval o X.env
 few:((backTo aj (starEach [e] X.env)).all (λx=>!x.1) && (backToKw aj (keywordEach [] X.env)).all (λx=>x.1.isSome)
  && decide (([e]:List jB).length+([]:List Keyword).length+(if([]:List Keyword).isEmpty then 0 else 1) < 30))=true
 line:(aq.endLine==aj.line)=true
 trees:backTo aj (starEach [e] X.env)=[(false,eval e X.env)]
structure M2(X:Cx)(o:jB)(m:Str)(aq:Pos)(e f:jB)(aj:Pos):Prop where
 base:attributeBase o m X.env (eval o X.env)=eval o X.env
 few:((backTo aj (starEach [e,f] X.env)).all (λx=>!x.1) && (backToKw aj (keywordEach [] X.env)).all (λx=>x.1.isSome)
  && decide (([e,f]:List jB).length+([]:List Keyword).length+(if([]:List Keyword).isEmpty then 0 else 1) < 30))=true
 line:(aq.endLine==aj.line)=true
 trees:backTo aj (starEach [e,f] X.env)=[(false,eval e X.env),(false,eval f X.env)]
def RV(H:Hp)(a:iY):Prop:=(∃b,Rd H a (.dK b))\/∃b,Rd H a (.dT b)
theorem Wh{X:Cx}{h:List (iY×jE)}{σ:St}{H:Hp}{s:iW}{a:iY}(I:Inv X h σ H s)(d:RV H a) :
  s.TypeIs (.ref a) "dict" /\ (∀b,Value.ref a=.ref b->∃c,s.heap.get? b=some c/\c.dict=none)/\(a==sysModules)=false:=by
 rcases d with⟨f,e⟩ | ⟨f,e⟩
 ·obtain⟨_,g,j,_,dd⟩:=Jb I.hok e
  refine⟨dd.typeIs,λb q=>?_,g⟩
  cases q
  obtain⟨c,_,_,h1,h2,_⟩:=dd
  exact⟨c,h1,h2.2.1⟩
 ·obtain⟨_,g,i,_,dd⟩:=K0 I.hok e
  refine⟨dd.typeIs,λb q=>?_,g⟩
  cases q
  obtain⟨c,_,_,h1,h2,_⟩:=dd
  exact⟨c,h1,h2.2.1⟩
section
variable {X:Cx}{aa:List (iY×jE)}{σ:St}{H:Hp}{s:iW}{a:iY}{y d:V}{u r:iV}{o:Option V}{A:jC}{E:iV->iW->Prop}
theorem HX{Q:iV->iW->Prop}(hu:A.units+1 < cLine)(I:Inv X aa σ H s)(g:DGet H a y o)(n:Bb y u)(p:Bb d r)(h:∀q m,Inv X aa σ H m->Bb (o.getD d) q->Q q m) :
  wpAny (model X.prog X.w) A (call (.builtin "dict.get") [.ref a,u,r]) Q E s:=by
 rcases g with⟨f,k,e,j,l⟩ | ⟨f,k,b,e,j,t,l⟩
 ·subst j
  obtain⟨z,i,x,c,dd⟩:=Jb I.hok e
  refine iQ gA dd.typeIs PySem.F.entry_dict_get (PySem.F.args_dict_get_3 _ _ _) (meets_dict_get_default (Aw X.prog X.w) a (Ky n) i r) ⟨_,dd.mapOf,h _ _ (I.tok _) ?_⟩
  rw [l]
  exact(c.val k).getD p
 ·subst j
  cases (show u=Value.ref b from n)
  obtain⟨z,i,v,c,dd⟩:=K0 I.hok e
  refine iQ gA dd.typeIs PySem.F.entry_dict_get (PySem.F.args_dict_get_3 _ _ _) (meetsH_dict_get_default (tupleKind (Aw X.prog X.w)) a b i r) ⟨dQ hu,k,v,G9 I.hok t,dd,h _ _ (I.tok _) ?_⟩
  rw [l]
  exact(c.val k).getD p
end
def HY(e ty d:TE):TE:=fun σ H Q=>e σ H λx b=>∃a,x=.ref a/\RV b a/\ty σ b λy f=>d σ f λz c=>∃o,DGet c a y o/\Q (o.getD z) c
section
variable {X:Cx}{o e f:jB}{aq aj:Pos}{td ty tx:TE}
theorem Wi(hu:X.A.units+1 < cLine)(n:PE X o td)(he:PE X e ty)(hf:PE X f tx)(m:M2 X o "get" aq e f aj):PE X (.Call (.Attribute o "get" aq) [e,f] [] aj) (HY td ty tx):=by
 intro b s σ H Q I h
 refine wpAny_Call_method m.base m.few m.line fJ gA PySem.F.type_dict_get (thn (n b s σ H _ I h) λu N D=>?_)
 obtain⟨x,L,c,r,a,i,d,J⟩:=D
 subst i
 obtain rfl:u=Value.ref a:=r
 obtain⟨O,G,_⟩:=Wh c d
 refine⟨O,G,?_⟩
 rw [m.trees]
 refine dO rfl (gN (ZS (thn (he b N σ L _ c J) λP k q=>Cz q λy p j w t =>
  ZS (thn (hf b k σ p _ j t) λS R ⟨z,v,B,l,T,g,C⟩=>aC ?_))))
 exact HX hu B g w l λU V E M=>⟨_,v,E,M,C⟩
end
end L2
namespace Att
open PySem PySem.W PySem.Calls PyProof.Rows
theorem Im{P:Params}{h:jD}:∀(ns:List Int) (vs:List iV),WellAll P h vs (ns.map WData.int)->IntsAre vs ns:=by
 intro ns
 induction ns with
 | nil =>
  intro vs w
  rw [iP]at w
  cases w
  exact .nil
 | cons n ns c =>
  intro vs w
  rw [XY]at w
  cases w with
  | cons a b =>
   cases a
   exact .cons _ _ (c _ b)
theorem Uf{l:OpenLaw}{n:Nat}(hn:l.most=some n){P:Params}{h:jD}{args:List WData}{g:List iV}
  (j:l.row.toRowW.claim.pre args=true) (t:WellAll P h g args) :
  ∃a i b,g=[Value.ref a]/\args=[WData.list (b.map WData.int)]/\h.get? a=some { cls:=.type "list",data:=.seq i.toArray }/\IntsAre i b/\b.length<=n:=by
 have f:WShape.hasAll [] args [.list .int]=true:=(pre_splitW j).1
 have hc:l.pre.holds [] { args:=args }=true:=(pre_splitW j).2
 obtain⟨d,r,rfl,h1,h2⟩:=hasAllW_cons f
 obtain rfl:=hasAllW_nil h2
 obtain⟨w,rfl,o⟩:=hasW_list h1
 obtain⟨b,rfl⟩:=items_int o
 have u:b.length<=n:=by
  unfold OpenLaw.pre at hc
  have e:(WTm.not (.lt (.lit (.int (n:Int))) (.len (.arg 0)))).holds [] { args:=[.list (b.map .int)] }=true:=by
   have e:=(holds_andW hc).1
   rw [hn]at e
   exact e
  have c:=condW_of e (w_not (w_lt w_lit (w_len_list (w_arg rfl))))
  rw [B_]at c
  refine ZN λq=>?_
  have k:(n:Int) < ((b.length:Nat):Int):=by omega
  first
   | (rw [YL k]at c;exact absurd c (by decide))
   | (simp at c;omega)
 cases t with
 | cons m v =>
  cases v
  cases m with
  | list p s=>exact⟨_,_,b,rfl,rfl,p,Im b _ s,u⟩
theorem Ug(l:OpenLaw)(args:List WData):l.row.toRowW.claim.post args (.bool true) args=true :=
 postW_of (r:=l.row.toRowW) (X:=(true==true))
  (show WShape.has [] (.bool true) .bool=true by first | rfl | decide | simp [WShape.has,WShape.arms,WShape.armsAll])
  (show(WTm.eq .res (.lit (.bool true))).value [] { args:=args,res:=some (.bool true),after:=args }=some (.bool (true==true)) from w_eq_bool (w_res rfl) w_lit) rfl
theorem attach_call{l:OpenLaw}{n:Nat}{q:i_}{m:List Str}{t:(Str->Option iV)->jD->Prop}{p:jA->jD->Prop}{d:DefRec}
  (hn:l.most=some n) (v:d.params.defaults=[])
  (call:∀(w:jA) (s₀ s₁:iW) (mg i:Str->Option iV) (c:iY) (o:jE) (k h j:iV) (a:iY) (vs:List iV) (ns:List Int),
   Ground q m [] t w s₀ mg i s₁.heap->p w s₁.heap ->
   s₁.heap.get? c=some o->o.data=.func (docDef d.name d.params d.body d.scope k h j)->s₁.heap.CodeRec h d.name->mg d.name=some (.ref c) ->
   s₁.heap.get? a=some { cls:=.type "list",data:=.seq vs.toArray }->IntsAre vs ns->ns.length<=n->s₁.gens=#[] ->
   codeAny (model l.prog w) callerA (.call (.ref c) ⟨[.ref a],[]⟩) (λr g=>r=.ok (.ret (.bool true))/\OldK s₁.heap g.heap/\g.os=s₁.os/\AllBare g.gens) s₁) :
  WalkO q m t p l.row.toRowW d [] (λf vs=>PySem.call f vs):=by
 intro w s₀ s₁ mg i G Y c o k h j dV kV ho hd js hD hmg hg args nq as kw hlay hrd km hlo
 obtain rfl:dV=.none:=Dflts.none hD v
 obtain rfl:kV=.none:=Dflts.noKw hD
 obtain⟨a,vs,ns,rfl,rfl,e,b,z⟩:=Uf hn kw km
 refine enter_call (gU (call w s₀ s₁ mg i c o k h j a vs ns G Y ho (fd_plain hd) js hmg e b z hg) λr g hq=>?_)
 obtain⟨rfl,h2,y,x⟩:=hq
 exact⟨.inl ⟨.bool true,.bool true,[],rfl,λ_=>rfl,.bool true,Ug l _,λ_=>⟨List.Pairwise.nil,λ_ u=>(nomatch u)⟩⟩,h2,y,x⟩
end Att
namespace L2
open PySem PySem.Spec PyProof.Rows
theorem K5:∀{vs:List iV} {ns:List Int},IntsAre vs ns->Vals (ns.map V.int) vs
 | _,_,.nil=>.nil
 | _,_,.cons n t h=>.cons ⟨t,rfl⟩ (K5 h)
def Only(H:Hp):Prop:=∀b,H b=none\/∃o a,H b=some (.frz o (.lst a))
theorem Wj{P:i_}{w:jA}{K:iZ}{mg B:Str->Option iV}{CX:CXT}{k:Nat}{y a:iY}{S:jG}{x:Str}{sp:Sp}{s₁:iW}{vs:List iV}{ns:List Int}
  (R:K.In s₁.heap) (U:s₁.heap.Ns mainGlobals mg) (hb:s₁.heap.Ns builtinsNs B) (A:∀x:Str,x ≠ "__name__" -> B x=bootBuiltins x) (E:s₁.heap.NoLimit) (W:s₁.gens=#[])
  (ha:s₁.heap.get? a=some { cls:=.type "list",data:=.seq vs.toArray }) (M:IntsAre vs ns) (T:ns.length<=sizeLine) (hr:Room k callerA)
  (F:∀f:jD,K.In f->f.Ns mainGlobals mg->FnOk P w K mg f CX k y S [x] sp) (vh:∀(s:iW) (u:iV),BindsTo s S ⟨[u],[]⟩ [(x,u)])
  (X:∀H:Hp,Only H->E8 K H a (ns.map V.int)->sp [.ref a] H (λv _=>v=.bl true) λ_ _ _=>False)
  (Z:∀H e c,CX [] H s₁ (λ_ _ _=>False) e c->False) :
  codeAny (model P w) callerA (.call (.ref y) ⟨[.ref a],[]⟩) (λr c=>r=.ok (.ret (.bool true))/\OldK s₁.heap c.heap/\c.os=s₁.os/\AllBare c.gens) s₁:=by
 have O:=K5 M
 have C:=M.length
 have Q:∀H:Hp,Only H->E8 K H a (ns.map V.int)->HOk P w H s₁.heap->(∀b,H b≠none->b=a)->(H a≠none->K.lookup a=none) ->
   codeAny (model P w) callerA (.call (.ref y) ⟨[.ref a],[]⟩) (λr c=>r=.ok (.ret (.bool true))/\OldK s₁.heap c.heap/\c.os=s₁.os/\AllBare c.gens) s₁:=by
  intro H J hS g L hK
  have N:∀{b:iY} {o:jE},s₁.heap.get? b=some o->H b=none->(L0 s₁.heap H).get? b=some o:=λe n=>Vu e n
  have qo:∀{b:iY} {o:jE} {es:Array DictEntry} {ep:Nat},s₁.heap.get? b=some o->o.data=.dict es ep->H b=none:=λ{b o es ep} e d=>by
   cases q:H b with
   | none=>rfl
   | some u =>
    have D:b=a:=L b (by rw [q];simp)
    subst D
    rw [ha]at e;cases e
    have d':Data.seq vs.toArray _=Data.dict es ep:=d
    cases d'
  have t:∀{b:iY} {m:Str->Option iV},s₁.heap.Ns b m->(L0 s₁.heap H).Ns b m:=λ{b m} ⟨o,es,ep,e,d,r⟩=>⟨o,es,ep,N e (qo e d),d,r⟩
  have j:K.In (L0 s₁.heap H):=λb o e=>N (R b o e) (by
   cases q:H b with
   | none=>rfl
   | some u =>
    have D:b=a:=L b (by rw [q];simp)
    subst D
    rw [hK (by rw [q];simp)]at e;cases e)
  have hM:Mod K mg (L0 s₁.heap H):=⟨j,t U,⟨B,t hb,A⟩,let⟨mc,h1,h2⟩:=E;⟨mc,t h1,h2⟩⟩
  have e0:Env0 P w K mg (L0 s₁.heap H) callerA [] s₁ H:=⟨rfl,hM,λb o e=>Zj e,dS (T2 _ _),trivial,λb hb=>absurd (show b∈([]:List iY) from hb) (by simp),g,.of_eq W⟩
  refine gU ((F _ j (t U)).run callerA [] s₁ H ⟨[.ref a],[]⟩ [.ref a] [.ref a] _ _ hr e0 (vh s₁ (.ref a)) (.cons rfl .nil) (X H J hS)) λr c h=>?_
  cases r with
  | error e=>exact(Z H e c h).elim
  | ok fl =>
   cases fl with
   | next=>exact False.elim h
   | brk=>exact False.elim h
   | cont=>exact False.elim h
   | ret u =>
    obtain⟨v,H',os,i,I,p,Y,q⟩:=h
    have q':v=.bl true:=q
    subst q'
    obtain rfl:u=Value.bool true:=Y
    refine⟨rfl,OldK.of_keep λb o e=>?_,os,i⟩
    cases q:H b with
    | none=>exact I.keep b o e q (by intro z;exact absurd (show b∈([]:List iY) from z) (by simp)) (by simp)
    | some u =>
     rcases J b with z | ⟨ob,xs,z⟩
     ·rw [q]at z;cases z
     ·have z2:=I.frzs b ob _ z
      obtain⟨G,_⟩:=g b _ z
      obtain⟨e2,_⟩:=p b _ z2
      rw [e]at G;cases G
      exact e2
 cases hk:K.lookup a with
 | some o =>
  have e:=R a o hk
  rw [ha]at e
  cases e
  refine Q (λ_=>none) (λ_=>.inl rfl) (.inr ⟨_,vs.toArray,_,hk,rfl,rfl,rfl,by rw [XS,C];exact T,by simpa using O⟩) (λb u z=>by have l:(none:Option HO)=some u:=z;cases l) (λb z=>absurd rfl z) λz=>absurd rfl z
 | none =>
  refine Q (λb=>if b=a then some (.frz { cls:=.type "list",data:=.seq vs.toArray } (.lst (ns.map V.int))) else none) (λb=>?_) (.inl (.inr ⟨{ cls:=.type "list",data:=.seq vs.toArray },Q_ rfl⟩)) (λb u z=>?_) (λb z=>?_) λ_=>hk
  ·by_cases hb:b=a
   ·exact .inr ⟨_,_,Q_ hb⟩
   ·exact .inl (J_ hb)
  ·by_cases hb:b=a
   ·have l:=(Q_ hb).symm.trans z
    cases l
    subst hb
    exact⟨ha,by rw [B_];exact T,vs,_,O,ha⟩
   ·have l:=(J_ hb).symm.trans z
    cases l
  ·by_cases hb:b=a
   ·exact hb
   ·exact absurd (J_ hb) z
theorem walk_of{l:PySem.W.OpenLaw}{n k:Nat}{q:i_}{L:List Str}{C:(Str->Option iV)->jD->Prop}{p:jA->jD->Prop}{d:DefRec}{K:Params->iZ}{CX:jA->CXT}{sp:jA->Sp}{x:Str}
  (hn:l.most=some n) (I:n<=sizeLine) (z:d.params.defaults=[]) (y:Room k callerA)
  (J:∀(w:jA) (h:jD),p w h->(K w.params).In h)
  (F:∀(w:jA) (mg:Str->Option iV) (i:iY) (h:jD),(K w.params).In h->h.Ns mainGlobals mg->mg d.name=some (.ref i) ->
   ∃m:jG,(∀(s:iW) (u:iV),BindsTo s m ⟨[u],[]⟩ [(x,u)]) /\
    ∀c:jD,(K w.params).In c->c.Ns mainGlobals mg->FnOk l.prog w (K w.params) mg c (CX w) k i m [x] (sp w))
  (D:∀(w:jA) (H:Hp) (a:iY) (ns:List Int),ns.length<=n->Only H->E8 (K w.params) H a (ns.map V.int)->sp w [.ref a] H (λv _=>v=.bl true) λ_ _ _=>False)
  (M:∀(w:jA) (H:Hp) (s:iW) (e:iV) (j:iW),CX w [] H s (λ_ _ _=>False) e j->False) :
  PySem.W.WalkO q L C p l.row.toRowW d [] (λf r=>PySem.call f r):=by
 refine Att.attach_call hn z λw s₀ s₁ mg mb i o pm cd gl a r ns G Y ho hd js hmg hobj hints ae hg=>?_
 have t:=J w _ Y
 obtain⟨m,hb,A⟩:=F w mg i _ t G.T.g hmg
 exact Wj t G.T.g G.T.b G.T.builtins G.T.nolimit hg hobj hints (G_ ae I) y A hb (λH B E=>D w H a ns ae B E) λH e j=>M w H s₁ e j
def A3(s:jF):Arguments:=match s with
 | .FunctionDef _ a _ _ _ _ _ _ _ _=>a
 | _=>{ posonlyargs:=[],args:=[],vararg:=none,kwonlyargs:=[],kw_defaults:=[],kwarg:=none,defaults:=[] }
def Az(s:jF):List jF:=match s with
 | .FunctionDef _ _ b _ _ _ _ _ _ _=>b
 | _=>[]
def Ag(s:jF):jI:=match s with
 | .FunctionDef _ _ _ _ _ _ a _ _ _=>a
 | _=>{ kind:=.function,names:=[],isGenerator:=false,isCoroutine:=false }
abbrev Fk:CXT:=λ_ _ _ _ _ _=>False
abbrev E0:XK:=λ_ _ _=>False
theorem NK{X:Cx}:Passes Fk X E0:=λ_ _ _ _ _ _ _ h=>h.elim
structure Fun(K:iZ)(x qual:Str)(st:jF)(f:iY)(fd:jG):Prop where
 ex:∃(oc:iV) (od:Option iY) (kV gl pm:iV) (an:Option iY) (ba ct:iV) (lq:Array (Option iV)),
  fd=PySem.W.fnOf x qual (A3 st) (Az st) (Ag st) .none kV gl pm an ba ct/\K.lookup f=some ⟨oc,od,.func fd,lq⟩/\PySem.W.codeIn K ba qual=true
 kp:PySem.W.keepIn K (.ref f)=true
section
variable {P:i_}{w:jA}{K:iZ}{mg:Str->Option iV}{base:jD}{X:Cx}
theorem Fun.ok{x a:Str}{st:jF}{f:iY}{c:jG}{N ps:List Str}{k:Nat}{sp:Sp}(F:Fun K x a st f c)(S:FnScope N ps (Ag st))(len:∀vs H Q E,sp vs H Q E->vs.length=ps.length)
  (i:∀(b:iV) (A:jC) (outer:List Env) (s:iW) (H:Hp) (vs:List V) (Q:VK) (E:XK),Room k (A.deeper (envOfC a (Ag st) s.heap.objs.size f b))->sp vs H Q E ->
   ∃t,PSs (Py Fk P w K mg base N a (Ag st) f b A outer s H E).nox (Az st) t/\t { nx:=λ_ g=>Q .non g,rt:=Q } (start N vs) H):FnOk P w K mg base Fk (k+1) f c ps sp:=by
 obtain⟨m,u,kV,r,v,o,b,p,n,rfl,j,e⟩:=F.ex
 refine MZ j e S len λA outer s H vs Q E d l=>?_
 obtain⟨t,h,q⟩:=i b A outer s H vs Q E d l
 exact⟨t,h.nox,q⟩
theorem Fun.binds{x a:Str}{st:jF}{f:iY}{i:jG}{ps:List Str}(F:Fun K x a st f i)
  (h:∀(kV e g:iV) (b:Option iY) (c ct:iV) (d:List iV),d.length=ps.length->bindArgs (PySem.W.fnOf x a (A3 st) (Az st) (Ag st) .none kV e g b c ct) ⟨d,[]⟩=pure (ps.zip d)):Binds K i ps []:=by
 obtain⟨k,n,kV,e,g,b,c,ct,m,rfl,l,j⟩:=F.ex
 exact .all (h kV e g b c ct)
theorem Bn{x a:Str}{st:jF}{f:iY}{h:iV}{i d:Option iY}{j:Array (Option iV)}{kV e g b ct:iV}(l:K.lookup f=some ⟨h,i,.func (PySem.W.fnOf x a (A3 st) (Az st) (Ag st) .none kV e g d b ct),j⟩)
  (c:PySem.W.codeIn K b a=true) (k:PySem.W.keepIn K (.ref f)=true):Fun K x a st f (PySem.W.fnOf x a (A3 st) (Az st) (Ag st) .none kV e g d b ct):=⟨⟨h,i,kV,e,g,d,b,ct,j,rfl,l,c⟩,k⟩
theorem Cq{A:jC}{k:Nat}(a:Room k A):A.units+1 < cLine:=ZL (bM (by decide:1<=64) _) a.units
theorem Ax{n:Nat}(h:n<=1000):n < sizeLine:=ZL h (by decide)
theorem Uh:Ex X (.builtin "len") (λc H Q=>∃a b,c=[V.ref a]/\H a=some (.dK b)/\Q (.int b.length) H):=by
 intro f s σ H c us Q I r h
 obtain⟨a,b,rfl,ha,q⟩:=h
 obtain⟨u,rfl,d⟩:=Fr r
 cases d
 exact NG I (.inl ha) λt g e=>⟨.int b.length,H,e,⟨t,rfl⟩,q⟩
end
section
variable {κ:Type} [DecidableEq κ]
end
end L2
set_option maxHeartbeats 4000000
namespace L2
open PySem
def Eg(a:List (Str×iY)):List (Str×jJ)->List (Str×iY)->List (Str×iY)
 | [],b=>b
 | (n,k) :: r,b=>if k=NameKind.free then Eg a r ((n,(a.lookup n).getD 0) :: b) else Eg a r b
theorem Fv{a:jI}{env:Env}(h:∀x∈a.names,x.2=.free->∃c,env.cells.lookup x.1=some c) :
  closureFor a env=pure (Eg env.cells a.names []):=by
 have g:∀(names:List (Str×jJ)) (acc:List (Str×iY)),(∀x∈names,x.2=.free->∃c,env.cells.lookup x.1=some c) ->
   (do
     let mut f:=acc
     for (b,d) in names do
      if d==.free then f:=(b,<- cellOf env b) :: f
     return f:Sem (List (Str×iY)))=pure (Eg env.cells names acc):=by
  intro names
  induction names with
  | nil=>intro acc _;rfl
  | cons x r j =>
   intro acc h
   obtain⟨n,k⟩:=x
   have i:∀y∈r,y.2=.free->∃c,env.cells.lookup y.1=some c:=λy hy=>h y (XN _ hy)
   by_cases hk:k=.free
   ·subst hk
    obtain⟨c,hc⟩:=h (n,.free) XT rfl
    have e:cellOf env n=pure c:=by unfold cellOf;rw [hc]
    have q:=j ((n,c) :: acc) i
    simp only [List.forIn_cons,beq_self_eq_true,if_true,e]
    unfold Eg
    rw [Q_ rfl,hc]
    exact q
   ·have hb:(k==NameKind.free)=false:=by simpa using hk
    have q:=j acc i
    simp only [List.forIn_cons,hb,Bool.false_eq_true,if_false]
    unfold Eg
    rw [J_ hk]
    exact q
 exact g a.names [] h
theorem Gk{a:List (Str×iY)}:∀{names:List (Str×jJ)} {acc:List (Str×iY)},
  (∀x∈names,x.2=.free->∃c,a.lookup x.1=some c)->(∀x c,acc.lookup x=some c->a.lookup x=some c) ->
  ∀x c,(Eg a names acc).lookup x=some c->a.lookup x=some c
 | [],_,_,h,x,c,e=>h x c e
 | (n,k) :: r,acc,hf,h,x,c,e=>by
  unfold Eg at e
  have f:∀y∈r,y.2=.free->∃c,a.lookup y.1=some c:=λy hy=>hf y (XN _ hy)
  by_cases hk:k=.free
  ·rw [Q_ hk]at e
   refine Gk f (λy d q=>?_) x c e
   obtain⟨g,b⟩:=hf (n,k) XT hk
   have b:a.lookup n=some g:=b
   rw [aH]at q
   cases hy:y==n with
   | true =>
    rw [hy,b]at q
    have i:y=n:=by simpa using hy
    rw [i,b]
    exact q
   | false=>rw [hy]at q;exact h y d q
  ·rw [J_ hk]at e
   exact Gk f h x c e
theorem F0{a:List (Str×iY)}{x:Str}:∀{names:List (Str×jJ)} {acc:List (Str×iY)},
  (∃c,acc.lookup x=some c)->∃c,(Eg a names acc).lookup x=some c
 | [],_,h=>h
 | (n,k) :: r,acc,⟨c,h⟩=>by
  unfold Eg
  split
  ·refine F0 ?_
   rw [aH]
   cases x==n with
   | true=>exact⟨_,rfl⟩
   | false=>exact⟨c,h⟩
  ·exact F0 ⟨c,h⟩
theorem Gm{a:List (Str×iY)}{x:Str}:∀{names:List (Str×jJ)} {acc:List (Str×iY)},
  (x,NameKind.free)∈names->∃c,(Eg a names acc).lookup x=some c
 | (n,k) :: r,acc,h=>by
  unfold Eg
  rcases XJ.mp h with e | e
  ·cases e
   rw [Q_ rfl]
   refine F0 ?_
   rw [aH,gG]
   exact⟨_,rfl⟩
  ·split
   ·exact Gm e
   ·exact Gm e
end L2
namespace PySem
open Sem (wp)
section
variable {prog:i_}{w:jA}{A:jC}{E:iV->iW->Prop}{R:jK->iW->Prop}{s:iW}
theorem Nu{i f iter:jB}{j:List jB}{b:jI}{d:Pos}{g acc:iV}{env:Env}(I:Nat->iW->Prop)
  (e:∀n s,I n s->wpAny (model prog w) A (pyNext g) (λr s₁=>match r with
   | none=>R (.ok .next) s₁
   | some v=>wpAny (model prog w) A (letOwnedTupleGo f g v) (λ_ s₁'=>wpAny (model prog w) A (assign f env v) (λ_ s₂ =>
     wpAny (model prog w) A (forIn j true λc r=>if r=true then do let ok <- isTrue c env (eval c env);pure (ForInStep.yield ok) else pure (ForInStep.yield r)) (λok s₃ =>
      if ok=true then wpAny (model prog w) A (eval i env) (λx s₄ =>
       wpAny (model prog w) A (call (.builtin "list.append") [acc,x]) (λ_ s₅=>∃m,m < n/\I m s₅) (λ_ _=>False) s₄) (λ_ _=>False) s₃
      else ∃m,m < n/\I m s₃) (λ_ _=>False) s₂) (λ_ _=>False) s₁') (λ_ _=>False) s₁) (λ_ _=>False) s)
  (n:Nat) (h:I n s) :
  codeAny (model prog w) A (.compLoop (.ListComp i [⟨f,iter,j,0⟩] b d) 0 g acc env) R s:=by
 refine codeAny_loop rfl I (λn s k=>?_) n h
 show wpAny _ A ((compTurn (.ListComp i [⟨f,iter,j,0⟩] b d) 0 g acc env).onRaise (λx=>do noteFrame x env;theTreesLotGoes x)) _ _ s
 refine wpAny_noted ?_
 rw [compTurn_list]
 refine A_ (wpAny_standAt (A_ (ZW (e n s k) (λr s₁ h₁=>?_) λ_ _ a=>a.elim)))
 cases r with
 | none=>exact C_ h₁
 | some v =>
  refine A_ (ZW h₁ (λ_ s₁' h₁'=>?_) λ_ _ a=>a.elim)
  refine A_ (ZW h₁' (λ_ s₂ h₂=>A_ (ZW h₂ (λok s₃ h₃=>?_) λ_ _ a=>a.elim)) λ_ _ a=>a.elim)
  cases ok with
  | false=>exact C_ ⟨rfl,h₃⟩
  | true =>
   exact A_ (A_ (ZW h₃ (λx s₄ h₄=>A_ (ZW h₄ (λ_ s₅ h₅=>C_ (C_ ⟨rfl,h₅⟩)) λ_ _ a=>a.elim)) λ_ _ a=>a.elim))
end
end PySem
namespace L2
open PySem PySem.Spec PyProof.Rows
def Nv(mp:List (Option Nat))(σ:St):St:=mp.map λo=>match o with | some i=>(σ[i]?).join | none=>none
def AL(pn:List (Str×jJ))(x:Str):Bool:=decide (pn.lookup x=some .cell) || decide (pn.lookup x=some .free)
theorem Nw{pn:List (Str×jJ)}{x:Str}(h:AL pn x=true):pn.lookup x=some .cell\/pn.lookup x=some .free:=by
 unfold AL at h
 rcases(e_ _ _).mp h with h | h
 ·exact .inl (YD h)
 ·exact .inr (YD h)
theorem L8{env:Env}:∀{names:List (Str×jJ)} {x:Str},names.lookup x=some .free ->
  (names.map λ(n,k)=>if(k==NameKind.free && env.scope.kind==.function && env.kindOf n==some .cell) then(n,NameKind.cell) else(n,k)).lookup x=some .cell \/
  (names.map λ(n,k)=>if(k==NameKind.free && env.scope.kind==.function && env.kindOf n==some .cell) then(n,NameKind.cell) else(n,k)).lookup x=some .free
 | [],_,h=>by simp at h
 | (n,k) :: r,x,h=>by
  have a:=@L8 env r x
  rw [XY]
  cases hx:x==n with
  | true =>
   simp only [List.lookup_cons,hx]at h
   cases h
   by_cases hc:(NameKind.free==NameKind.free && env.scope.kind==.function && env.kindOf n==some .cell)=true
   ·refine .inl ?_
    simp only [hc,if_true,List.lookup_cons,hx]
   ·refine .inr ?_
    simp only [if_neg hc,List.lookup_cons,hx]
  | false =>
   simp only [List.lookup_cons,hx]at h
   by_cases hc:(k==NameKind.free && env.scope.kind==.function && env.kindOf n==some .cell)=true
   ·simp only [hc,if_true,List.lookup_cons,hx];exact a h
   ·simp only [if_neg hc,List.lookup_cons,hx];exact a h
end L2
namespace PySem
open Sem (wp)
section
variable {prog:i_}{w:jA}{A:jC}{E:iV->iW->Prop}{R:jK->iW->Prop}{s:iW}{I:iY}{fp wr:List iY}{G:Array GenState->Array GenState->Prop}{n:Nat}{P:Nat->iV->Prop}{St:Nat->iW->Prop}
theorem L9:typeLookup (.type "list_reverseiterator") "__len__" = pure none:=by rw [gP,eB];kernel_rfl
theorem Nx:typeLookup (.type "list_reverseiterator") "__length_hint__" = pure (some (.builtin "list_reverseiterator.__length_hint__")):=by rw [gP,eB];kernel_rfl
set_option maxRecDepth 100000 in
theorem Ki(W:WalksS prog w A.in1 I fp wr G n P St)(j:∀i s,St i s->s.TypeIs (.ref I) "list_reverseiterator") (S:iY) (res:iV) (d:St 0 s) (m:S∉fp) (u:I∈fp)
  {c:Nat} (v:s.heap.get? S=some { cls:=.type "list",dict:=none,data:=.seq #[] c,slots:=#[] })
  (t:∀a h g,Moved (S :: wr) G s a->a.heap.get? S=some { cls:=.type "list",dict:=none,data:=.seq h g,slots:=#[] }->ItemsOf P h n->R (.ok (.ret res)) a) (hn:n<=sizeLine:=by size_fits) :
  wpAny (model prog w) A.in1 (Builtin.List.listExtendWith (.ref S) (.ref I) res)
   (λk a=>match k with | .done f=>R (.ok f) a | .again g=>g.quiet=true/\codeAny (model prog w) A g R a) (λe a=>R (.error e) a) s:=by
 have l:S≠I:=λe=>m (e ▸ u)
 have h1:Builtin.List.listSameRef (.ref S) (.ref I)=false:=by simp [Builtin.List.listSameRef,l]
 unfold Builtin.List.listExtendWith
 refine A_ (eM (j 0 _ d) ?_)
 rw [J_ (by rw [h1];decide)]
 refine A_ (W.self 0 _ _ _ d ?_)
 refine A_ (ZF ?_)
 unfold Builtin.List.listLengthHint
 refine A_ (bY (j 0 _ d) L9 ?_)
 show wpAny _ A.in1 (specialOf (Value.ref I) (Str.ofString "__length_hint__") >>= _) _ _ _
 refine A_ (bY (j 0 _ d) Nx ?_)
 generalize o:("list_reverseiterator.__length_hint__" : String)=id0
 wp_delta
 rw [show splitId id0=some ("list_reverseiterator","__length_hint__") from by subst o;decide +kernel]
 subst o
 refine A_ (bQ (b:=true) (j 0 _ d) (by rw [dF];kernel_rfl) ?_)
 refine C_ ?_
 rw [J_ (by decide)]
 exact C_ ⟨cZ F.plain_extend_loop _,codeAny_extend_loopS W hn _ m _ n 0 _ _ _ rfl (XQ _) d v (ItemsOf.nil P) λa h g r q p=>t a h g r q p⟩
set_option maxRecDepth 100000 in
theorem Ha(W:WalksS prog w A.in1 I fp wr G n P St)(v:∀i s,St i s->s.TypeIs (.ref I) "list_reverseiterator") (S:iY) (t:St 0 s) (l:S∉fp) (x:I∈fp)
  (g:s.heap.get? S=some { cls:=.type "list",data:=.seq #[] })
  (u:∀a j c,Moved (S :: wr) G s a->a.heap.get? S=some { cls:=.type "list",dict:=none,data:=.seq j c,slots:=#[] }->ItemsOf P j n->R (.ok (.ret .none)) a) (hn:n<=sizeLine:=by size_fits) :
  wpAny (model prog w) A.in1 (Builtin.«list.__init__» ⟨[.ref S,.ref I],[]⟩)
   (λk a=>match k with | .done f=>R (.ok f) a | .again c=>c.quiet=true/\codeAny (model prog w) A c R a) (λe a=>R (.error e) a) s:=by
 show wpAny _ A.in1 (do let p <- Builtin.List.listItems (.ref S);Builtin.List.listUpdate (.ref S) (λ_=>#[]);letGo p.toList.reverse;Builtin.List.listExtendWith (.ref S) (.ref I) .none) _ _ s
 refine A_ ?_
 unfold Builtin.List.listItems
 refine A_ (eI g rfl (C_ ?_))
 show wpAny _ A.in1 (updateSeq S (λ_=>#[]) >>= λ_=>letGo (#[]:Array iV).toList.reverse >>= λ_=>Builtin.List.listExtendWith (.ref S) (.ref I) .none) _ _ s
 refine A_ (gQ g rfl ?_)
 have g₂:=ZU (Obj.mapSeq (λ_=>(#[]:Array iV))) g rfl
 have d:∀b o,b≠S->s.heap.get? b=some o->(s.heap.update S (Obj.mapSeq (λ_=>(#[]:Array iV)))).get? b=some o :=
  λb o hb e=>(dP _ _ (bH hb)).trans e
 refine A_ (wpAny_letGo ?_)
 refine Ki (hn:=hn) W v S .none (W.frame 0 s _ s.toks t (E_ _) λb hb o e=>d b o (λh=>l (h ▸ hb)) e) l x g₂ λa j c r q m=>?_
 exact u a j c (Moved.trans W.gtrans ((Moved.refl W.grefl).then_heap (E_ _) λb o hb e=>d b o (λh=>hb (h ▸ XT)) e) r) q m
theorem Hb{Q:iV->iW->Prop}(W:WalksS prog w A.in1.in1 I fp wr G n P St)(r:∀i s,St i s->s.TypeIs (.ref I) "list_reverseiterator") (q:St 0 s) (p:∀b∈fp,b < s.heap.objs.size) (t:I∈fp)
  (u:∀a d g,Moved (s.heap.objs.size :: wr) G { s with heap:=s.heap.push { cls:=.type "list",data:=.seq #[] } } a ->
   a.heap.get? s.heap.objs.size=some { cls:=.type "list",dict:=none,data:=.seq d g,slots:=#[] }->ItemsOf P d n->Q (.ref s.heap.objs.size) a) (hn:n<=sizeLine:=by size_fits) :
  wpAny (model prog w) A (call (.type "list") [.ref I]) Q E s:=by
 have l:s.heap.objs.size∉fp:=λf=>aS _ (p _ f)
 refine callType_codes (Q₁:=λc s₁=>c=.ref s.heap.objs.size/\s₁={ s with heap:=s.heap.push { cls:=.type "list",data:=.seq #[] } }) F.called_list (F.typeCall_list_1 _) F.entry_list_init
  (code_list_new _ ⟨rfl,rfl⟩) λc s₁ h₁=>?_
 obtain⟨rfl,rfl⟩:=h₁
 have j:(s.heap.push { cls:=.type "list",data:=.seq #[] }).get? s.heap.objs.size=some { cls:=.type "list",data:=.seq #[] }:=R_ _ rfl
 refine⟨⟨_,j,rfl⟩,F.args_list_init_2 _ _,Ha (hn:=hn) W r _ (W.frame 0 s _ s.toks q (E_ _) λb _ o e=>DD _ e) l t j λa d g f m k=>?_⟩
 exact⟨rfl,u a d g f m k⟩
end
end PySem
namespace L2
open PySem PySem.Spec PyProof.Rows
def PIfs(X:Cx)(b:List jB)(t:TT):Prop :=
 ∀(a:List (iY×jE)) (s:iW) (σ:St) (H:Hp) (Q:Bool->Hp->Prop),Inv X a σ H s->t σ H Q ->
  wpAny (model X.prog X.w) X.A (forIn b true λc r=>if r=true then do let ok <- isTrue c X.env (eval c X.env);pure (ForInStep.yield ok) else pure (ForInStep.yield r)) (TP X a σ Q) X.xe s
def TC:TT:=λ_ H Q=>Q true H
theorem Wk{X:Cx}:PIfs X [] TC:=λ_ _ _ H _ I h=>wpAny_tests_nil ⟨H,I,h⟩
theorem Wl{X:Cx}{c:jB}{t:TT}(h:PT X c t):PIfs X [c] t:=λa s σ H Q I hw=>wpAny_tests_one (h a s σ H Q I hw)
def Wm(p:iY)(J:It)(g:TG)(tst:TT)(te:TE)(Q:Hp->Prop)(σ:St)(H:Hp):Prop :=
 ∃W:Nat->Nat->List V->St->Hp->Prop,(∃m,W 0 m [] σ H)/\∀i m a σ' H',W i m a σ' H' ->
  (J.stop i H'/\Q H')\/(J.go i H'/\∃N:List V->St->Hp->Prop,(∀a σ H,N a σ H->∃e,e < m/\W (i+1) e a σ H)/\∀x h,J.yld i H' x h->g x σ' h fun σ3 H3=>tst σ3 H3 λb f =>
   if b=true then te σ3 f λv d=>∃c,d p=some (.lst c)/\c.length < sizeLine/\N (c++[v]) σ3 (upd d p (.lst (c++[v])))
   else N a σ3 f)
def Wn(mp:List (Option Nat))(c:TI)(g:TG)(tst:TT)(te:TE):TE:=fun σ H Q=>c σ H λJ a=>∀p,a p=none ->
 Wm p J g tst te (λb=>Q (.ref p) b) (Nv mp σ) (upd a p (.lst []))
section
variable {X:Cx}{N':List Str}{mp:List (Option Nat)}{fw tg iter:jB}{d4:List jB}{scope:jI}{pos:Pos}{wi:TI}{g:TG}{tst:TT}{te:TE}{K:iZ}{a p:iY}{xs:List V}{Q:Hp->Prop}{σ:St}{H:Hp}
theorem Inv.letgo{d:List (iY×jE)}{σ:St}{H:Hp}{s:iW}{C:iY}{h':jD}(I:Inv X d σ H s)(hn:H C=none)(h1:X.s₀.heap.objs.size<=C)(f:C≠X.env.locals)(h2:∀x c,X.env.cells.lookup x=some c->c≠C)
  (h:∀q∈X.pn++d,q.1≠C) (hs:Heap.SameBut C s.heap h'):Inv X d σ H { s with heap:=h' } :=
 I.turned (t':=s.toks) (λb o hb e=>(hs.2 b hb).trans e) hn f (.inr h1) h2 h
theorem AM{J:It}(n:Nat)(d:Nat->List V->St->Hp->Prop)(r:d 0 [] σ H)
  (j:∀i c σ H,i < n->d i c σ H->J.go i H) (s:∀c σ H,d n c σ H->J.stop n H/\Q H)
  (hs:∀i x c σ H h,i < n->d i c σ H->J.yld i H x h->g x σ h fun σ3 H3=>tst σ3 H3 λb o =>
   if b=true then te σ3 o λv l=>∃f,l p=some (.lst f)/\f.length < sizeLine/\d (i+1) (f++[v]) σ3 (upd l p (.lst (f++[v]))) else d (i+1) c σ3 o) :
  Wm p J g tst te Q σ H:=by
 refine⟨λi m c σ H=>m=n - i/\i<=n/\d i c σ H,⟨n,by simp,XQ _,r⟩,?_⟩
 rintro i m c σ H ⟨rfl,t,k⟩
 by_cases hlt:i < n
 ·exact .inr ⟨j i c σ H hlt k,d (i+1),λc σ H q=>⟨n - (i+1),by omega,rfl,hlt,q⟩,λx h y=>hs i x c σ H h hlt k y⟩
 ·have e:i=n:=by omega
  subst e
  exact .inl (s c σ H k)
def TD:V->Option Int->Option Int->Hp->VK->Prop:=λx lo b H Q=>∃z,x=.str z/\z.length<=sizeLine/\Q (.str (Txt.slice z lo b)) H
theorem HZ:NB X TD:=by
 intro f s σ H x v vl vu lo hi sl Q I rx hs pl pu h
 obtain⟨z,rfl,hz,q⟩:=h
 obtain⟨t,rfl⟩:=rx
 refine⟨"str",_,F.slot_str_getitem.lookup,typeIs_str _ _ _,?_⟩
 have b:∀e k,EP X f σ Q (.str (Txt.slice z lo hi) e) { s with toks:=k }:=λe k=>⟨.str _,H,I.tok _,⟨_,rfl⟩,q⟩
 cases pl with
 | none =>
  cases pu with
  | none=>exact dG (l:=none) (u:=none) (st:=none) hs rfl (gR ⟨G_ (Txt.slice_le z _ _) hz,b⟩)
  | int j c=>exact dG (l:=none) (u:=some (j,c)) (st:=none) hs rfl (gR ⟨G_ (Txt.slice_le z _ _) hz,b⟩)
 | int i d =>
  cases pu with
  | none=>exact dG (l:=some (i,d)) (u:=none) (st:=none) hs rfl (gR ⟨G_ (Txt.slice_le z _ _) hz,b⟩)
  | int j c=>exact dG (l:=some (i,d)) (u:=some (j,c)) (st:=none) hs rfl (gR ⟨G_ (Txt.slice_le z _ _) hz,b⟩)
theorem NL(hc:X.calm=true):Ex X (.builtin "all") (λxs H Q=>∃(p:iY) (c:List Bool),xs=[.ref p]/\E8 X.K H p (c.map V.bl)/\Q (.bl (c.all id)) H):=by
 intro J s σ H xs us Q I r h
 obtain⟨p,c,rfl,hq,q⟩:=h
 obtain⟨u,rfl,D⟩:=Fr r
 cases D
 obtain⟨f,n,l,hz⟩:=I.list hq
 have j:=n.length
 rw [B_]at j
 refine call_all_walk (eD l.isList ?_)
 have E:p≠s.heap.objs.size:=W_ (let⟨_,B,_⟩:=l.isList;N_ B)
 refine⟨s.heap.objs.size,_,_,_,_,_,λi=>c.getD i true,rfl,Walks.list (show X.A.in1.handled=none from I.ok.hd hc) s.heap.objs.size p E f.toArray,?_,?_,λG L k=>?_⟩
 ·exact⟨⟨_,R_ _ rfl,rfl,rfl⟩,l.isList.at λo e=>DD _ e⟩
 ·intro i v w C F z m
  have hv:f[i]?=some v:=by simpa using z
  have d:i < c.length:=by rw [j];exact(F_.mp hv).1
  obtain⟨u,hu,y⟩:=n.get (i:=i) (x:=V.bl c[i]) (by simp [d])
  rw [hv]at hu
  cases hu
  cases (show v=Value.bool c[i] from y)
  refine fK ?_
  have e:c.getD i true=c[i]:=by simp [d]
  have t:C (c.getD i true) w:=m
  rw [e]at t
  exact t
 ·have e:(List.range f.toArray.size).all (λi=>c.getD i true)=c.all id:=by
   rw [XS,<- j]
   rw [fA,cJ,cJ]
   constructor
   ·intro a x hx
    obtain⟨i,d,rfl⟩:=List.mem_iff_getElem.mp hx
    have:=a i (XZ.mpr d)
    simpa [d] using this
   ·intro a i d
    have d:=XZ.mp d
    have:=a c[i] (bC d)
    simpa [d] using this
  rw [e]
  exact⟨.bl _,H,I.kept λb o e=>k b o (by
   intro hb
   have:b=s.heap.objs.size:=by simpa using hb
   exact absurd (N_ e) (by rw [this];exact aS _)) (DD _ e),rfl,q⟩
theorem Qc{ys:List Str}{b:List iV}(h:Vals (ys.map V.str) b):StrsAre b ys:=by
 induction ys generalizing b with
 | nil=>cases h;exact .nil
 | cons y ys c =>
  cases h with
  | cons r t =>
   obtain⟨d,rfl⟩:=r
   exact .cons y d (c t)
theorem AN:HL X "str.join" (λx xs H Q=>∃z p b,x=.str z/\xs=[.ref p]/\E8 X.K H p (b.map V.str)/\(b.map (·.length)).sum+b.length * z.length<=16777216/\Q (.str (Txt.join z b)) H):=by
 intro f s σ H x xs v us Q I rx r h
 obtain⟨z,p,b,rfl,rfl,hq,hz,q⟩:=h
 obtain⟨t,rfl⟩:=rx
 obtain⟨u,rfl,c⟩:=Fr r
 cases c
 obtain⟨i,e,d,_⟩:=I.list hq
 exact join_list d.isList (Qc (by simpa using e)) hz λj k=>⟨.str _,H,I.tok _,⟨_,rfl⟩,q⟩
def NM(K:iZ)(te:TE):TE:=fun σ H Q=>te σ H λx b=>∃a xs,x=.ref a/\E8 K b a xs/\∀l,b l=none->Q (.ref l) (upd b l (.lst xs.reverse))
theorem AQ{e:jB}{te:TE}{p r pos x:Pos}(hc:X.calm=true)(G:Gl X "list") (C:X.mg "list" = none) (J:Gl X "reversed") (dh:X.mg "reversed" = none) (he:PE X e te)
  (hs:starEach [.Call (.Name "reversed" r) [e] [] x] X.env=[(false,eval (.Call (.Name "reversed" r) [e] [] x) X.env)]:=by rfl) (F:starEach [e] X.env=[(false,eval e X.env)]:=by rfl) :
  PE X (.Call (.Name "list" p) [.Call (.Name "reversed" r) [e] [] x] [] pos) (NM X.K te):=by
 intro Y s σ H Q I h
 refine aR (Ep I G C boot_list ?_)
 refine aO ?_ hs rfl
 rw [hs]
 refine ZS ?_
 refine aR (Ep I J dh boot_reversed ?_)
 refine aO ?_ F rfl
 rw [F]
 refine ZS (thn (he Y s σ H _ I h) λu c P=>aC ?_)
 obtain⟨v,H1,D,R,q1⟩:=P
 obtain⟨a,xs,rfl,hq,q⟩:=q1
 cases R
 obtain⟨d,E,n,hz⟩:=D.list hq
 have T:=E.length
 refine call_reversed_list n.isList (aC ?_)
 have al:a≠c.heap.objs.size:=W_ (let⟨_,y,_⟩:=n.isList;N_ y)
 have t:(c.heap.push (revObj a ((d.toArray.size:Int) - 1))).IsList a d.toArray:=n.isList.at λo e=>DD _ e
 refine Hb (s:={ c with heap:=c.heap.push (revObj a ((d.toArray.size:Int) - 1)) }) (Walks.listRev (show X.A.in1.in1.handled=none from I.ok.hd hc) c.heap.objs.size a al d.toArray).toS (λi s st=>st.2.1.typeIs) ?_ ?_ (by simp) (λN f Z l S m=>?_) (by rw [XS,<- T];exact hz)
 ·refine⟨XQ _,⟨_,R_ _ rfl,rfl,?_⟩,t⟩
  simp [revObj]
 ·intro b hb
  rw [a_]
  rcases XJ.mp hb with rfl | hb
  ·exact aJ _
  ·have:b=a:=by simpa using hb
   subst this
   exact aP (let⟨_,y,_⟩:=n.isList;N_ y)
 ·have B:(c.heap.push (revObj a ((d.toArray.size:Int) - 1))).objs.size=c.heap.objs.size+1:=a_ ..
  obtain⟨h',W,O,t',M⟩:=N
  have U:W=c.gens:=l.gens
  have ed:O=c.drawn:=l.drawn
  have eo:M=c.os:=l.os
  subst U ed eo
  have k:∀b o,c.heap.get? b=some o->h'.get? b=some o:=λb o e=>by
   have hb:=N_ e
   refine l.heap b o (λC=>?_) (DD _ (DD _ e))
   rcases XJ.mp C with z | z
   ·have z:b=(c.heap.push (revObj a ((d.toArray.size:Int) - 1))).objs.size:=z
    rw [z,B]at hb
    exact absurd hb (Nat.not_lt.mpr (cU _))
   ·have z:b=c.heap.objs.size:=by simpa using z
    rw [z]at hb
    exact absurd hb (aS _)
  have L:f.toList=d.reverse:=by
   refine bV λj=>?_
   have zci:f.toList.length=d.length:=by have:=m.1;simp at this ⊢;omega
   by_cases hj:j < d.length
   ·have h1:f[j]?=some (f[j]'(by have:=m.1;simp at this;omega)):=XW _
    have h2:=m.2 j _ h1
    rw [gB hj]
    have h3:d[d.length - 1 - j]?=some (f[j]'(by have:=m.1;simp at this;omega)):=by simpa using h2
    rw [h3]
    simpa using h1
   ·rw [ZD (by omega),ZD (by rw [List.length_reverse];omega)]
  refine⟨.ref (c.heap.push (revObj a ((d.toArray.size:Int) - 1))).objs.size,upd H1 (c.heap.push (revObj a ((d.toArray.size:Int) - 1))).objs.size (.lst xs.reverse),
   D.laid (h':=h') (t':=t') k (by omega) (show Bs X.prog X.w _ h' _ (.lst xs.reverse) from⟨by rw [List.length_reverse];exact hz,f.toList,Z,by rw [L];exact E.reverse,by simpa using S⟩),rfl,q _ (D.hok.fresh (by omega))⟩
end
theorem seven{n:Nat}(h:n<=1000):n<=sizeLine:=YM (Ax h)
end L2
namespace PySem
open Sem (wp)
open AutoSeq1 (wpAny_loadPart')
set_option maxRecDepth 100000
end PySem
namespace L2
open PySem PySem.Spec PyProof.Rows
def Wo(ds:List iX)(lo a:Option Int):List iX:=(ds.drop (HT.sIx ds.length 0 lo)).take (HT.sIx ds.length ds.length a - HT.sIx ds.length 0 lo)
structure OkB(dep wt:Nat)(d:iX):Prop where
 lay:d.canLay0=true
 dp:d.depth<=dep
 wt:d.weight<=wt
 sh:d.intsShort 13=true
 sw:d.showable=true
structure OkBs(dep wt:Nat)(ds:List iX):Prop where
 lay:PyData.canLayAll0 ds=true
 dp:PyData.depthAll ds<=dep
 wt:PyData.weightAll ds<=wt
 sh:PyData.intsShortAll 13 ds=true
 sw:PyData.showableAll ds=true
theorem OkBs.nil{dep wt:Nat}:OkBs dep wt []:=⟨rfl,by simp [PyData.depthAll],by simp [PyData.weightAll],rfl,rfl⟩
theorem OkBs.cons{dep b a:Nat}{d:iX}{ds:List iX}(h:OkB dep b d)(r:OkBs dep a ds):OkBs dep (b+1+a) (d :: ds):=by
 refine⟨?_,?_,?_,?_,?_⟩
 ·simp only [PyData.canLayAll0,h.lay,r.lay,Bool.and_self]
 ·simp only [PyData.depthAll];exact Nat.max_le.mpr ⟨h.dp,r.dp⟩
 ·simp only [PyData.weightAll];have:=h.wt;have:=r.wt;omega
 ·simp only [PyData.intsShortAll,h.sh,r.sh,Bool.and_self]
 ·simp only [PyData.showableAll,h.sw,r.sw,Bool.and_self]
theorem OkBs.mono{dep wt d' a:Nat}{ds:List iX}(h:OkBs dep wt ds)(h1:dep<=d')(h2:wt<=a):OkBs d' a ds:=⟨h.lay,G_ h.dp h1,G_ h.wt h2,h.sh,h.sw⟩
theorem OkB.mono{dep wt d' a:Nat}{d:iX}(h:OkB dep wt d)(h1:dep<=d')(h2:wt<=a):OkB d' a d:=⟨h.lay,G_ h.dp h1,G_ h.wt h2,h.sh,h.sw⟩
theorem OkBs.cons'{dep a b w3:Nat}{d:iX}{ds:List iX}(h:OkB dep a d)(r:OkBs dep b ds)(e:a+1+b<=w3):OkBs dep w3 (d :: ds):=(OkBs.cons h r).mono (E_ _) e
theorem OkBs.all{dep w n:Nat}{ds:List iX}(h:∀d∈ds,OkB dep w d)(hn:ds.length<=n):OkBs dep (n * (w+1)) ds:=by
 induction ds generalizing n with
 | nil=>exact OkBs.nil
 | cons d ds a =>
  cases n with
  | zero=>simp at hn
  | succ m =>
   refine OkBs.cons' (h d XT) (a (n:=m) (λe he=>h e (XN _ he)) (by simp at hn;omega)) ?_
   rw [Nat.succ_mul];omega
theorem OkBs.tup{dep w:Nat}{ds:List iX}(h:OkBs dep w ds):OkB (dep+1) w (.tuple ds) :=
 ⟨by simp only [PyData.canLay0,h.lay],by simp only [PyData.depth];exact bD h.dp,by simp only [PyData.weight];exact h.wt,by simp only [PyData.intsShort,h.sh],by simp only [PyData.showable,h.sw]⟩
theorem OkBs.lst{dep w:Nat}{ds:List iX}(h:OkBs dep w ds):OkB (dep+1) w (.list ds) :=
 ⟨by simp only [PyData.canLay0,h.lay],by simp only [PyData.depth];exact bD h.dp,by simp only [PyData.weight];exact h.wt,by simp only [PyData.intsShort,h.sh],by simp only [PyData.showable,h.sw]⟩
theorem AR{i:Int}(b:-1000000000<=i)(h1:i<=1000000000):OkB 0 40 (.int i):=by
 have hn:i.natAbs<=1000000000:=by omega
 have c:i.natAbs.log2<=30:=by
  rcases fE i.natAbs with z | z
  ·rw [z];decide
  ·exact YM ((Nat.log2_lt (by omega)).mpr (ZL hn (by decide)))
 refine⟨rfl,E_ _,?_,?_,?_⟩
 ·simp only [PyData.weight];split <;> omega
 ·have:=int_text_length_le10 (a:=i) (k:=10) (by decide) (ZL hn (by decide))
  simp only [PyData.intsShort,PyData.shown]
  refine YL ?_
  show(Str.ofString (toString i)).length<=13
  rw [PySem.ofString_length];omega
 ·simp only [PyData.showable];exact YL (by omega)
structure OkD(d:iX):Prop where
 lay:d.layable0=true
 sh:d.intsShort 13=true
 sw:d.showable=true
theorem OkB.ok{dep w:Nat}{d:iX}(h:OkB dep w d)(h1:dep<=64)(h2:w<=1048576):OkD d:=by
 refine⟨?_,h.sh,h.sw⟩
 show(d.canLay0 && decide (d.depth<=64) && decide (d.weight<=2 ^ 20))=true
 rw [h.lay,YL (G_ h.dp h1),YL (G_ h.wt (show w<=2 ^ 20 by simpa using h2))]
 rfl
theorem OkD.depth{d:iX}(h:OkD d):d.depth<=64:=SeqAt.depth_of_layable h.lay
section
variable {X:Cx}{k:Nat}{aa:List (iY×jE)}{σ:St}{H:Hp}{s:iW}{h':jD}
noncomputable def Pp(h:jD)(e:iX)(u:iV):Bool:=@decide (∃d a,Reads h u d a/\d.canLay0=true/\PyData.eqv d e=true) (Classical.propDecidable _)
theorem IA{h:jD}{e d:iX}{u:iV}{a:List iY}(r:Reads h u d a)(c:d.canLay0=true):Pp h e u=PyData.eqv d e:=by
 unfold Pp
 cases q:PyData.eqv d e with
 | true=>exact @YL _ (Classical.propDecidable _) ⟨d,a,r,c,q⟩
 | false =>
  refine @YH _ (Classical.propDecidable _) λi=>?_
  obtain⟨f,b,j,_,g⟩:=i
  rw [SeqAt.Reads.unique d f u a b c r j,g]at q
  cases q
theorem Eh{A:jC}{s:iW}{e:iX}{v:iV}{l:List iY}(g:Reads s.heap v e l)(f:e.canLay0=true)(hu:A.units+64 < cLine):∀{ds:List iX} {b:List iV} {m:List iY},ReadsAll s.heap b ds m ->
  PyData.canLayAll0 ds=true->PyData.depthAll ds<=64->(∀u∈b,SeqAt.EqAt A s u v (Pp s.heap e u))/\b.any (Pp s.heap e)=ds.any λd=>PyData.eqv d e
 | [],_,_,r,_,_=>by
  cases r
  exact⟨(λ_ z=>nomatch z),rfl⟩
 | d :: ds,_,_,r,c,n=>by
  cases r with
  | cons i p =>
   simp only [PyData.canLayAll0,Bool.and_eq_true]at c
   simp only [PyData.depthAll]at n
   obtain⟨o,j⟩:=Eh g f hu p c.2 (by omega)
   have h:=IA (e:=e) i c.1
   refine⟨λu a=>?_,?_⟩
   ·rcases XJ.mp a with rfl | z
    ·rw [h]
     exact gH d e A s _ v _ _ i g c.1 f (by omega)
    ·exact o u z
   ·rw [bG,bG,h,j]
theorem Inv.turnedL{t':Nat}{fp:List iY}(I:Inv X aa σ H s)(k:∀b o,b∉fp->s.heap.get? b=some o->h'.get? b=some o)(hf:∀b∈fp,Il X aa H b):Inv X aa σ H { s with heap:=h',toks:=t' }:=by
 have a:∀b u,H b=some u->b∉fp:=λb u e z=>by rw [(hf b z).1]at e;cases e
 have j:X.env.locals∉fp:=λz=>(hf _ z).2.1 rfl
 refine I.step (g':=s.gens) (d':=s.drawn) (ch:=fp) (λb hb=>?_) (λb o _ _ hc e _=>k b o hc e) (λb o _ _ hc e _=>⟨o.slots,k b o hc e⟩) (λ_ _ _ _ n=>n)
  (λb o hc e=>⟨o,k b o hc e⟩) (λ_ _ e=>e) (λ_ _ _ e=>e) (λb w e=>⟨#[],by rw [e];simp⟩) (λm i=>?_) (λb u e=>?_) I.bare
 ·obtain⟨_,h,_,d,f,g⟩:=hf b hb
  exact⟨d,h,f,g⟩
 ·obtain⟨o,l,t,p,r⟩:=i
  exact⟨o,l,t,k _ o j p,r⟩
 ·refine(I.hok b u e).stay (λc v hc q=>k c v ?_ q) (λ_ q=>q) λ_ _ q=>q
  rcases hc with z | z
  ·rw [z];exact a b u e
  ·exact a c _ z
theorem Inv.track{T:iY}{o:HO}(I:Inv X aa σ H s)(r:Il X aa H T)(d:Bs X.prog X.w (upd H T o) s.heap T o):Inv X aa σ (upd H T o) s:=by
 obtain⟨g,j,_,f,h,i⟩:=r
 have a:∀b u,H b=some u->b≠T:=λb u e z=>by rw [z,g]at e;cases e
 refine I.step (H':=upd H T o) (h':=s.heap) (g':=s.gens) (d':=s.drawn) (t':=s.toks) (ch:=[T]) (λb hb=>?_) (λb o _ _ _ e _=>e) (λb o _ _ _ e _=>⟨o.slots,e⟩)
  (λb u hc _ n=>by rw [Ay (λz=>hc (by simp [z]))];exact n) (λb o _ e=>⟨o,e⟩) (λb p e=>by rw [Ay (a b _ e)];exact e) (λb u v e=>by rw [Ay (a b _ e)];exact e)
  (λb t e=>⟨#[],by rw [Ay (a b _ e),e];simp⟩) (λm l=>l) (λb u e=>?_) I.bare
 ·have e:b=T:=by simpa using hb
  subst e
  exact⟨f,j,h,i⟩
 ·by_cases hb:b=T
  ·subst hb
   rw [B2]at e
   cases e
   exact d
  ·rw [Ay hb]at e
   exact(I.hok b u e).stay (λ_ _ _ q=>q) (λc q=>by rw [Ay (a c _ q)];exact q) λc p q=>by rw [Ay (a c _ q)];exact q
theorem Wp{J:It}{g:TG}{f:TS}{D:Ends}{σ:St}{H:Hp}(n:Nat)(a:Nat->St->Hp->Prop)(j:a 0 σ H)(c:∀i σ H,i < n->a i σ H->J.go i H)(l:∀ σ H,a n σ H->J.stop n H/\D.nx σ H)
  (hs:∀i x σ H H2,i < n->a i σ H->J.yld i H x H2->g x σ H2 fun σ2 H3=>f { D with nx:=a (i+1),ct:=a (i+1),bk:=D.nx } σ2 H3) :
  ∃W:Nat->Nat->St->Hp->Prop,(∃m,W 0 m σ H)/\∀i m σ H,W i m σ H ->
   (J.stop i H/\D.nx σ H)\/(J.go i H/\∃N:St->Hp->Prop,(∀ σ' b,N σ' b->∃d,d < m/\W (i+1) d σ' b)/\∀x b,J.yld i H x b->g x σ b fun σ2 H2=>f { D with nx:=N,ct:=N,bk:=D.nx } σ2 H2):=by
 refine⟨λi m σ H=>m=n - i/\i<=n/\a i σ H,⟨n,by simp,XQ _,j⟩,?_⟩
 rintro i m σ H ⟨rfl,o,p⟩
 by_cases hlt:i < n
 ·exact .inr ⟨c i σ H hlt p,a (i+1),fun σ' b h=>⟨n - (i+1),by omega,rfl,hlt,h⟩,λx b y=>hs i x σ H b hlt p y⟩
 ·have e:i=n:=by omega
  subst e
  exact .inl (l σ H p)
def NN(i j l:Nat)(a:TA):TS:=λD σ H=>a σ H λc b=>∃u v w,c=[u,v,w]/\D.nx (((σ.set i (some u)).set j (some v)).set l (some w)) b
theorem AU{i j l:Nat}{x y z:Str}{a b c:jB}{O:TA}{E B F G n:Pos}{kt k2 ju}(hc:X.calm=true)(t:X.N.Nodup)(hi:X.N[i]?=some x)(hj:X.N[j]?=some y)(hl:X.N[l]?=some z)(Z:i≠j)(R:i≠l)(J:j≠l)
  (hx:X.env.scope.names.lookup x=some .local) (hy:X.env.scope.names.lookup y=some .local) (hz:X.env.scope.names.lookup z=some .local) (ha:PA X [a,b,c] O)
  (hw:swappedStores [.Tuple [.Name x E,.Name y B,.Name z F] kt G] (.Tuple [a,b,c] k2 ju) X.env=pure (some [x,y,z]))
  (hs:swapsWithSole [.Tuple [.Name x E,.Name y B,.Name z F] kt G] (.Tuple [a,b,c] k2 ju) n.line X.env=pure false:=by rfl) :
  PS X (.Assign [.Tuple [.Name x E,.Name y B,.Name z F] kt G] (.Tuple [a,b,c] k2 ju) n) (NN i j l O):=by
 intro aa s σ H D I h
 rw [exec_Assign_arm]
 refine A_ (wpAny_standAt ?_)
 rw [hs]
 refine A_ (C_ ?_)
 rw [J_ (by decide)]
 refine A_ (Tuple_ (thn (ha _ aa s σ H _ I h) λus g uv=>?_))
 obtain⟨vs,P,I1,Y,L⟩:=uv
 obtain⟨u,v,w,r,L⟩:=L
 subst r
 obtain⟨m,d,f,rfl,V,W,gy⟩:∃m d f,us=[m,d,f]/\Bb u m/\Bb v d/\Bb w f:=by
  cases Y with
  | cons p q =>
   cases q with
   | cons p' q' =>
    cases q' with
    | cons T C =>
     cases C
     exact⟨_,_,_,rfl,p,p',T⟩
 refine YF ?_ (by show 3<=sizeLine;decide)
 have Q:Inv X aa σ P { g with heap:=g.heap.push { cls:=.type "tuple",data:=.seq [m,d,f].toArray } }:=I1.kept (t':=g.toks) λb o e=>DD _ e
 rw [hw]
 refine A_ (C_ ?_)
 show wpAny (model X.prog X.w) X.A (do rule "assign.swapped-stores";let items <- unpackItems (.ref g.heap.objs.size) 3 none;assignInOrder [λv=>bindName X.env z v,λv=>bindName X.env y v,λv=>bindName X.env x v] items.reverse;pure Flow.next) _ _ _
 refine A_ (aW (A_ (unpackItems_tuple (items:=#[m,d,f]) (I.ok.hd hc) (IsTup.new g.heap _) λh' hx'=>?_)))
 have I3:=Q.kept (h':=h') (t':=g.toks) λb o e=>hx' b o (W_ (N_ e)) e
 show wpAny _ _ (assignInOrder [λv=>bindName X.env z v,λv=>bindName X.env y v,λv=>bindName X.env x v] [f,d,m] >>= λ_=>pure Flow.next) _ _ _
 refine A_ (fC (wpAny_bindName (E7 I3 t hl (.inl hz) gy (λs2 I4=>?_) (.inr hz))))
 refine fC (wpAny_bindName (E7 I4 t hj (.inl hy) W (λs3 U=>?_) (.inr hy)))
 refine fC (wpAny_bindName (E7 U t hi (.inl hx) V (λs4 M=>assignInOrder_nil (C_ ?_)) (.inr hx)))
 have r:((σ.set l (some w)).set j (some v)).set i (some u)=((σ.set l (some w)).set i (some u)).set j (some v):=List.set_comm _ _ (bH Z)
 have e2:(σ.set l (some w)).set i (some u)=(σ.set i (some u)).set l (some w):=List.set_comm _ _ (bH R)
 have S:((σ.set i (some u)).set l (some w)).set j (some v)=((σ.set i (some u)).set j (some v)).set l (some w):=List.set_comm _ _ (bH J)
 rw [r,e2,S]at M
 exact⟨_,P,M,L⟩
theorem Ma:Hu X (binaryOp .Mult) (λx y H Q=>∃z n,x=.str z/\y=.int n/\(n=0\/n=1)/\Q (.str (if n=0 then Str.empty else z)) H):=by
 intro aa s σ H x y v u Q I rx ry h
 obtain⟨z,n,rfl,rfl,hn,q⟩:=h
 obtain⟨t,rfl⟩:=rx
 obtain⟨a,rfl⟩:=ry
 rcases hn with rfl | rfl
 ·exact P.mul_str_none (by decide) (by decide) ⟨.str Str.empty,H,I.tok _,⟨_,rfl⟩,by simpa using q⟩
 ·refine P.mul_str (by decide) (λ_ z=>by simp at z) (λ_ z=>by simp at z) ?_
  rw [J_ (by decide),Q_ (by simp)]
  exact⟨.str z,H,I,⟨_,rfl⟩,by simpa using q⟩
end
end L2
namespace HT
open PySem PySem.Spec PyProof.Rows
section
variable {prog:i_}{w:jA}{A:jC}{E:iV->iW->Prop}{s:iW}
theorem getItem_tuple_all{t c:iY}{items:Array iV}{g f:iV}{lo b:Option Int}{Q:iV->iW->Prop}(a:IsTup s.heap t items)(hs:s.heap.IsSliceOf c g f .none)(pl:IsPart g lo)(l:IsPart f b)
  (i:sIx items.size 0 lo=0/\sIx items.size items.size b=items.size)
  (h:Q (.ref t) s):wpAny (model prog w) A (getItem (.ref t) (.ref c)) Q E s:=by
 obtain⟨os,d,j,m⟩:=id hs
 have k:s.TypeIs (.ref c) "slice" := ⟨os,d,j⟩
 unfold getItem
 try with_reducible refine ZF ?_
 first | refine A_ (C_ ?_) | skip
 refine A_ (wpAny_sequenceKey a.typeIs (by decide) ?_)
 refine A_ (ZZ (name:=Str.ofString "__getitem__") a.typeIs ZT
  (YS ZT a.typeIs entry_tuple_getitem ?_ (args_tuple_getitem _ _)))
 show wpAny _ _ (Builtin.Tuple.tupleItemsOf (.ref t) >>= _) _ _ s
 refine A_ (tupleItemsOf_ a ?_)
 refine A_ (eM k ?_)
 rw [Q_ (by decide)]
 refine A_ (Ef hs pl l ?_)
 have e:(((sIx items.size 0 lo:Nat):Int)==0 && (1:Int)==1 && (sIx items.size items.size b - sIx items.size 0 lo)==items.size)=true:=by
  rw [i.1,i.2];simp
 show wpAny _ _ (if(((sIx items.size 0 lo:Nat):Int)==0 && (1:Int)==1 && (sIx items.size items.size b - sIx items.size 0 lo)==items.size)=true then _ else _) _ _ s
 rw [Q_ e]
 unfold Builtin.Tuple.tupleIsExact
 refine A_ (A_ (eM a.typeIs (C_ ?_)))
 rw [Q_ (by decide)]
 refine A_ (aW ?_)
 first
  | exact C_ ⟨_,rfl,C_ h⟩
  | exact A_ (C_ (C_ ⟨_,rfl,C_ h⟩))
  | exact A_ (C_ ⟨_,rfl,C_ h⟩)
end
end HT
namespace L2
open PySem PySem.Spec PyProof.Rows
section
variable {X:Cx}
theorem Wq{ds:List iX}{lo a:Option Int}(h:HT.sIx ds.length 0 lo=0/\HT.sIx ds.length ds.length a=ds.length):Wo ds lo a=ds:=by
 unfold Wo
 rw [h.1,h.2,List.drop_zero,Nat.sub_zero,cD (E_ _)]
end
end L2
namespace PySem
open Sem (wp)
open AutoSeq1 (wpAny_loadPart')
set_option maxRecDepth 100000
section
variable {prog:i_}{w:jA}{K:Type} [DecidableEq K]
end
end PySem
namespace L2
open PySem PySem.Spec PyProof.Rows
section
variable {X:Cx}{K:iZ}{o e:jB}{es:List jB}{to:TE}{t:TA}{name:Str}{aq aj:Pos}{T id:String}{r:V->List V->Hp->VK->Prop}
theorem Ga{α β:Type}{F:α->β->Prop}:∀{l₁:List α} {l₂:List β} {j:Nat} {a:α},Paired F l₁ l₂->l₁[j]?=some a->∃b,l₂[j]?=some b/\F a b
 | _,_,_,_,.nil,e=>by simp at e
 | _,_,0,_,.cons r _,e=>by simp at e;subst e;exact⟨_,rfl,r⟩
 | _,_,j+1,a,.cons _ t,e=>by
  obtain⟨b,h1,h2⟩:=Ga (j:=j) (a:=a) t (by simpa using e)
  exact⟨b,by simpa using h1,h2⟩
theorem Ui:HL X "str.join" (λx b H Q=>∃z p a,x=.str z/\b=[.ref p]/\H p=some (.lst (a.map V.str))/\(a.map (·.length)).sum+a.length * z.length<=16777216/\Q (.str (Txt.join z a)) H):=by
 intro d s σ H x b v us Q I rx r h
 obtain⟨z,p,a,c,e2,hp,hz,q⟩:=h
 exact AN d s σ H x b v us Q I rx r ⟨z,p,a,c,e2,E8.of hp,hz,q⟩
end
def Cal(P:i_)(w:jA)(K:iZ)(mg:Str->Option iV)(base:jD)(n:Nat)(x:Str)(ps:List Str)(sp:Sp):Prop :=
 ∃g a,FnOk P w K mg base Fk n g a ps sp/\Binds K a ps []/\PySem.W.keepIn K (.ref g)=true/\mg x=some (.ref g)
theorem Cal.mono{P:i_}{w:jA}{K:iZ}{mg:Str->Option iV}{base:jD}{n m:Nat}{x:Str}{ps:List Str}{sp:Sp}(c:Cal P w K mg base n x ps sp)(h:n<=m):Cal P w K mg base m x ps sp :=
 let⟨g,a,G,r⟩:=c;⟨g,a,G.mono h,r⟩
end L2
namespace L2
open PySem PySem.Spec PySem.Calls PyProof.Rows
abbrev WD:List iV:=[.type "ValueError",.type "Exception",.type "BaseException",.type "object"]
def WE(K:iZ)(C:iY)(a:ClassData)(b:Array (Option iV)):Bool:=a.mro.head?==some (.ref C) && !a.hasDel && PySem.W.tailIn K WD a.mro.tail && b.size==6 && b[4]?==some (some (.builtin "ValueError.__new__"))
theorem TF{a:Array (Option iV)}{v:Option iV}(h:a.size=6)(e:a[4]?=some v):∃d f b g c,a=#[d,f,b,g,v,c]:=by
 obtain⟨l⟩:=a
 match l,h with
 | [d,f,b,g,i,c],_ =>
  have:i=v:=by simpa using e
  subst this
  exact⟨d,f,b,g,c,rfl⟩
section
open Builtin Builtin.ObjectAttr
variable {prog:i_}{w:jA}{A:jC}{E:iV->iW->Prop}{s:iW}{K:iZ}{x C:iY}{ox:jE}{od:Option jE}{name:Str}{v:iV}{R:jK->iW->Prop}
end
def XD(c:iY)(b:List (Str×V)):HO:=.ext λh=>∃a,h.Ns1 c a/\(∀f,G8 (b.lookup f) (a f))/\PySem.Within a (b.map (·.1))
def XR(e C:iY)(d:Option iY):HO:=.ext λh=>∃a:Array iV,h.get? e=some ⟨.ref C,d,.fields a,#[]⟩/\a.size=6
end L2
namespace L2
open PySem PySem.Spec PyProof.Rows
inductive AV where
 | D (d:iX) | R (a:iY) | C (ds:List iX) | X (C:iY) (fs:List (Str×iX))
 deriving Inhabited
mutual
def Cano:iX->Bool
 | .int _=>true
 | .str _=>true
 | .tuple a=>Ao a
 | _=>false
def Ao:List iX->Bool
 | []=>true
 | x :: a=>Cano x && Ao a
end
structure KeyTree(d:iX):Prop where
 can:Cano d=true
 lay:d.canLay0=true
 dep:d.depth<=6
def AW(K:iZ)(H:Hp)(a:iY)(xs:List V):Prop :=
 (∃o,H a=some (.frz o (.lst xs))) \/
  ∃(o:jE) (b:Array iV) (n:Nat),K.lookup a=some o/\o.cls=.type "list" /\ o.dict=none/\o.data=.seq b n/\b.size<=sizeLine/\Vals xs b.toList
theorem AW.sq{K:iZ}{H:Hp}{a:iY}{xs:List V}(h:AW K H a xs):E8 K H a xs:=by
 rcases h with⟨o,h⟩ | h
 ·exact .inl (.inr ⟨o,h⟩)
 ·exact .inr h
def Lit:List iX->Bool
 | .str _ :: _=>true
 | .tuple _ :: _=>true
 | _=>false
def Zg(K:iZ)(H:Hp)(a:iY)(ds:List iX)(xs:List V):Prop :=
 H a=some (.tup xs)\/(Lit ds=true/\∃(o:jE) (b:Array iV) (n:Nat),K.lookup a=some o/\o.cls=.type "tuple" /\ o.data=.seq b n/\b.size<=sizeLine/\Vals xs b.toList)
theorem Zg.sq{K:iZ}{H:Hp}{a:iY}{ds:List iX}{xs:List V}(h:Zg K H a ds xs):Kf K H a xs:=by
 rcases h with h | h
 ·exact Kf.of h
 ·exact .inr h.2
mutual
def Dk(K:iZ)(H:Hp):iX->V->Prop
 | .none,x=>x=.non
 | .bool b,x=>x=.bl b
 | .int i,x=>x=.int i
 | .str z,x=>x=.str z
 | .list d,x=>∃a c,x=.ref a/\AW K H a c/\Am K H d c
 | .tuple d,x=>∃a c,x=.ref a/\Zg K H a d c/\Am K H d c
 | .dict _,_=>False
def Am(K:iZ)(H:Hp):List iX->List V->Prop
 | [],a=>a=[]
 | d :: b,a=>∃x r,a=x :: r/\Dk K H d x/\Am K H b r
end
structure Kp(H H':Hp):Prop where
 t:∀b xs,H b=some (.tup xs)->H' b=some (.tup xs)
 f:∀b o u,H b=some (.frz o u)->H' b=some (.frz o u)
theorem Kp.refl{H:Hp}:Kp H H:=⟨λ_ _ h=>h,λ_ _ _ h=>h⟩
theorem Kp.trans{H d e:Hp}(a:Kp H d)(b:Kp d e):Kp H e:=⟨λc g h=>b.t c g (a.t c g h),λc o u h=>b.f c o u (a.f c o u h)⟩
theorem Kp.new{H:Hp}{p:iY}(h:H p=none)(o:HO):Kp H (upd H p o) :=
 ⟨λb c e=>by rw [Ay (B7 e h)];exact e,λb a u e=>by rw [Ay (B7 e h)];exact e⟩
def Mt:HO->Prop
 | .lst _=>True
 | .dK _=>True
 | .dT _=>True
 | .dd _=>True
 | _=>False
theorem Kp.put{H:Hp}{p:iY}{a:HO}(h:H p=some a)(m:Mt a)(o:HO):Kp H (upd H p o) :=
 ⟨λb d e=>by rw [Ay (Nm e h (by intro z;subst z;exact m))];exact e,λb c u e=>by rw [Ay (Nm e h (by intro z;subst z;exact m))];exact e⟩
theorem AW.kp{K:iZ}{H H':Hp}{a:iY}{xs:List V}(S:Kp H H')(h:AW K H a xs):AW K H' a xs:=by
 rcases h with⟨o,h⟩ | h
 ·exact .inl ⟨o,S.f _ _ _ h⟩
 ·exact .inr h
theorem Zg.kp{K:iZ}{H H':Hp}{a:iY}{ds:List iX}{xs:List V}(S:Kp H H')(h:Zg K H a ds xs):Zg K H' a ds xs:=by
 rcases h with h | h
 ·exact .inl (S.t _ _ h)
 ·exact .inr h
section
variable {K:iZ}{H H':Hp}{X:Cx}{a b c:jB}{ta tb tc:AE}{pos:Pos}{rest:List jB}{tA kj:AT}{es:List jB}{t:AA}{k:Nat}{x:Str}{p:Pos}{e:jB}{iq T:String}{r:AC}{o:jB}{to:AE}{name:Str}{aq aj:Pos}{m:AV->AC}
mutual
theorem Dk.kp(S:Kp H H'):∀(d:iX) (x:V),Dk K H d x->Dk K H' d x
 | .none,x,h=>by simp only [Dk]at h ⊢;exact h
 | .bool b,x,h=>by simp only [Dk]at h ⊢;exact h
 | .int i,x,h=>by simp only [Dk]at h ⊢;exact h
 | .str z,x,h=>by simp only [Dk]at h ⊢;exact h
 | .list g,x,h=>by
  simp only [Dk]at h ⊢
  obtain⟨a,f,e,q,r⟩:=h
  exact⟨a,f,e,q.kp S,Am.kp S g f r⟩
 | .tuple g,x,h=>by
  simp only [Dk]at h ⊢
  obtain⟨a,f,e,q,r⟩:=h
  exact⟨a,f,e,q.kp S,Am.kp S g f r⟩
 | .dict _,x,h=>by simp only [Dk]at h
theorem Am.kp(S:Kp H H'):∀(ds:List iX) (xs:List V),Am K H ds xs->Am K H' ds xs
 | [],xs,h=>by simp only [Am]at h ⊢;exact h
 | d :: ds,xs,h=>by
  simp only [Am]at h ⊢
  obtain⟨x,r,e,h1,h2⟩:=h
  exact⟨x,r,e,Dk.kp S d x h1,Am.kp S ds r h2⟩
end
theorem C4{i:Int}:Dk K H (.int i) (.int i):=by simp only [Dk]
theorem Ny{b:Bool}:Dk K H (.bool b) (.bl b):=by simp only [Dk]
theorem Qe{z:Str}:Dk K H (.str z) (.str z):=by simp only [Dk]
theorem IB:Dk K H .none .non:=by simp only [Dk]
theorem Dk.int{x:V}{i:Int}(h:Dk K H (.int i) x):x=.int i:=by simp only [Dk]at h;exact h
theorem Dk.bl{x:V}{i:Bool}(h:Dk K H (.bool i) x):x=.bl i:=by simp only [Dk]at h;exact h
theorem Dk.str{x:V}{i:Str}(h:Dk K H (.str i) x):x=.str i:=by simp only [Dk]at h;exact h
theorem Dk.non{x:V}(h:Dk K H .none x):x=.non:=by simp only [Dk]at h;exact h
theorem Dk.tup{x:V}{ds:List iX}(h:Dk K H (.tuple ds) x):∃a d,x=.ref a/\Zg K H a ds d/\Am K H ds d:=by simp only [Dk]at h;exact h
theorem Dk.lst{x:V}{ds:List iX}(h:Dk K H (.list ds) x):∃a d,x=.ref a/\AW K H a d/\Am K H ds d:=by simp only [Dk]at h;exact h
theorem Jd{a:iY}{xs:List V}{ds:List iX}(h:H a=some (.tup xs))(r:Am K H ds xs):Dk K H (.tuple ds) (.ref a):=by simp only [Dk];exact⟨a,xs,rfl,.inl h,r⟩
theorem IC{a:iY}{xs:List V}{ds:List iX}(h:AW K H a xs)(r:Am K H ds xs):Dk K H (.list ds) (.ref a):=by simp only [Dk];exact⟨a,xs,rfl,h,r⟩
theorem D1:Am K H [] []:=by simp only [Am]
theorem Dp{d:iX}{ds:List iX}{x:V}{xs:List V}(h:Dk K H d x)(r:Am K H ds xs):Am K H (d :: ds) (x :: xs):=by simp only [Am];exact⟨x,xs,rfl,h,r⟩
theorem Am.cons{d:iX}{ds:List iX}{xs:List V}(h:Am K H (d :: ds) xs):∃x r,xs=x :: r/\Dk K H d x/\Am K H ds r:=by simp only [Am]at h;exact h
theorem Am.nil{xs:List V}(h:Am K H [] xs):xs=[]:=by simp only [Am]at h;exact h
theorem Am.length:∀{ds:List iX} {xs:List V},Am K H ds xs->xs.length=ds.length
 | [],_,h=>by rw [h.nil];rfl
 | _ :: ds,_,h=>by
  obtain⟨x,r,rfl,_,h2⟩:=h.cons
  rw [YA,YA,Am.length h2]
theorem Am.get:∀{ds:List iX} {xs:List V} {i:Nat} {d:iX},Am K H ds xs->ds[i]?=some d->∃x,xs[i]?=some x/\Dk K H d x
 | [],_,_,_,_,e=>by simp at e
 | _ :: ds,_,0,d,h,e=>by
  obtain⟨x,r,rfl,h1,_⟩:=h.cons
  simp at e;subst e
  exact⟨x,rfl,h1⟩
 | _ :: ds,_,i+1,d,h,e=>by
  obtain⟨x,r,rfl,_,h2⟩:=h.cons
  obtain⟨y,f,e2⟩:=Am.get (i:=i) (d:=d) h2 (by simpa using e)
  exact⟨y,by simpa using f,e2⟩
theorem Am.append:∀{ds es:List iX} {xs ys:List V},Am K H ds xs->Am K H es ys->Am K H (ds++es) (xs++ys)
 | [],_,_,_,h,k=>by rw [h.nil];exact k
 | _ :: ds,_,_,_,h,k=>by
  obtain⟨x,r,rfl,h1,h2⟩:=h.cons
  exact Dp h1 (Am.append h2 k)
theorem Am.drop:∀(n:Nat) {ds:List iX} {xs:List V},Am K H ds xs->Am K H (ds.drop n) (xs.drop n)
 | 0,_,_,h=>h
 | _+1,[],_,h=>by rw [h.nil];exact D1
 | n+1,_ :: ds,_,h=>by
  obtain⟨x,r,rfl,_,h2⟩:=h.cons
  exact Am.drop n h2
theorem Am.take:∀(n:Nat) {ds:List iX} {xs:List V},Am K H ds xs->Am K H (ds.take n) (xs.take n)
 | 0,_,_,_=>D1
 | _+1,[],_,h=>by rw [h.nil];exact D1
 | n+1,_ :: ds,_,h=>by
  obtain⟨x,r,rfl,h1,h2⟩:=h.cons
  exact Dp h1 (Am.take n h2)
theorem Am.cut{ds:List iX}{xs:List V}(h:Am K H ds xs)(lo d:Option Int):Am K H (Wo ds lo d) (Kg xs lo d):=by
 unfold Wo Kg
 rw [h.length]
 exact(h.drop _).take _
theorem Am.atI{ds:List iX}{xs:List V}{i:Int}{d:iX}(h:Am K H ds xs)(e:atI ds i=some d):∃x,L2.atI xs i=some x/\Dk K H d x:=by
 unfold L2.atI at e ⊢
 rw [h.length]
 cases q:Z1 ds.length i with
 | none=>rw [q]at e;cases e
 | some j =>
  rw [q]at e
  obtain⟨x,hx,f⟩:=h.get (show ds[j]?=some d from e)
  exact⟨x,hx,f⟩
def AY(K:iZ)(H:Hp):List (Str×iX)->List (Str×V)->Prop:=Paired λp q=>p.1=q.1/\Dk K H p.2 q.2
theorem AY.kp{d:List (Str×iX)}{vs:List (Str×V)}(S:Kp H H')(h:AY K H d vs):AY K H' d vs:=Paired.mapP h λp q r=>⟨r.1,Dk.kp S _ _ r.2⟩
def XFs(K:iZ)(H:Hp)(d:Option iY)(g:List (Str×iX)):Prop:=match d with
 | none=>g=[]
 | some d=>∃h f,H d=some (.frz h (XD d f))/\AY K H g f
theorem XFs.kp{d:Option iY}{i:List (Str×iX)}(S:Kp H H')(h:XFs K H d i):XFs K H' d i:=by
 cases d with
 | none=>exact h
 | some d=>obtain⟨j,g,q,r⟩:=h;exact⟨j,g,S.f _ _ _ q,r.kp S⟩
def RelA(K:iZ)(H:Hp):AV->V->Prop
 | .D d,v=>Dk K H d v
 | .R a,v=>v=.ref a
 | .C h,v=>∃a f,v=.ref a/\(∀H,Kf K H a f)/\Am K H h f
 | .X C g,v=>∃a o d,v=.ref a/\H a=some (.frz o (XR a C d))/\XFs K H d g
theorem C5{i:Int}:RelA K H (.D (.int i)) (.int i):=C4 (K:=K) (H:=H)
theorem Je{i:Bool}:RelA K H (.D (.bool i)) (.bl i):=Ny (K:=K) (H:=H)
theorem Hc{i:Str}:RelA K H (.D (.str i)) (.str i):=Qe (K:=K) (H:=H)
theorem Jf:RelA K H (.D .none) .non:=IB (K:=K) (H:=H)
theorem RelA.int{x:V}{i:Int}(h:RelA K H (.D (.int i)) x):x=.int i:=Dk.int (K:=K) (H:=H) h
theorem RelA.bl{x:V}{i:Bool}(h:RelA K H (.D (.bool i)) x):x=.bl i:=Dk.bl (K:=K) (H:=H) h
theorem RelA.str{x:V}{i:Str}(h:RelA K H (.D (.str i)) x):x=.str i:=Dk.str (K:=K) (H:=H) h
theorem RelA.tup{x:V}{ds:List iX}(h:RelA K H (.D (.tuple ds)) x):∃a d,x=.ref a/\Zg K H a ds d/\Am K H ds d:=Dk.tup (K:=K) (H:=H) h
theorem RelA.lst{x:V}{ds:List iX}(h:RelA K H (.D (.list ds)) x):∃a d,x=.ref a/\AW K H a d/\Am K H ds d:=Dk.lst (K:=K) (H:=H) h
theorem RelA.ref{x:V}{a:iY}(h:RelA K H (.R a) x):x=.ref a:=h
theorem Dq{a:iY}:RelA K H (.R a) (.ref a):=rfl
theorem Uj{d:iX}{v:V}(h:Dk K H d v):RelA K H (.D d) v:=h
theorem Wr{a:iY}{xs:List V}{ds:List iX}(h:H a=some (.tup xs))(r:Am K H ds xs):RelA K H (.D (.tuple ds)) (.ref a):=Jd (K:=K) (H:=H) h r
abbrev Au(K:iZ)(H:Hp):List AV->List V->Prop:=Paired (RelA K H)
theorem RelA.kp(S:Kp H H'):∀{x:AV} {v:V},RelA K H x v->RelA K H' x v
 | .D d,v,h=>Dk.kp S d v h
 | .R a,_,h=>h
 | .C i,v,⟨a,g,e,q,r⟩=>⟨a,g,e,q,Am.kp S i g r⟩
 | .X C j,v,⟨a,o,d,e,q,r⟩=>⟨a,o,d,e,S.f _ _ _ q,r.kp S⟩
theorem Au.kp(S:Kp H H'){xs:List AV}{vs:List V}(h:Au K H xs vs):Au K H' xs vs:=Paired.mapP h λ_ _ q=>q.kp S
theorem Au.length{xs:List AV}{vs:List V}(h:Au K H xs vs):xs.length=vs.length:=aB h
theorem Au.append{xs ys:List AV}{d f:List V}(h:Au K H xs d)(s:Au K H ys f):Au K H (xs++ys) (d++f):=by
 induction h with
 | nil=>exact s
 | cons r t g=>exact .cons r g
theorem Au.get:∀{xs:List AV} {d:List V} {i:Nat} {x:AV},Au K H xs d->xs[i]?=some x->∃u,d[i]?=some u/\RelA K H x u
 | _,_,_,_,.nil,e=>by simp at e
 | _,_,0,_,.cons r _,e=>by simp at e;subst e;exact⟨_,rfl,r⟩
 | _,_,i+1,x,.cons _ t,e=>by
  obtain⟨u,h1,h2⟩:=Au.get (i:=i) (x:=x) t (by simpa using e)
  exact⟨u,by simpa using h1,h2⟩
theorem Au.drop:∀{xs:List AV} {d:List V} (n:Nat),Au K H xs d->Au K H (xs.drop n) (d.drop n)
 | _,_,0,r=>r
 | _,_,_+1,.nil=>.nil
 | _,_,n+1,.cons _ t=>Au.drop n t
theorem Au.take:∀{xs:List AV} {d:List V} (n:Nat),Au K H xs d->Au K H (xs.take n) (d.take n)
 | _,_,0,_=>.nil
 | _,_,_+1,.nil=>.nil
 | _,_,n+1,.cons r t=>.cons r (Au.take n t)
theorem Au.dropLast{xs:List AV}{d:List V}(h:Au K H xs d):Au K H xs.dropLast d.dropLast:=by
 induction h with
 | nil=>exact .nil
 | cons r t f =>
  cases t with
  | nil=>exact .nil
  | cons g t=>exact .cons r f
theorem Au.rev{xs:List AV}{d:List V}(h:Au K H xs d):Au K H xs.reverse d.reverse:=by
 induction h with
 | nil=>exact .nil
 | cons r t f=>rw [fO,fO];exact f.append (.cons r .nil)
def Mb(xs:List AV)(lo d:Option Int):List AV:=(xs.drop (HT.sIx xs.length 0 lo)).take (HT.sIx xs.length xs.length d - HT.sIx xs.length 0 lo)
theorem Au.cut{xs:List AV}{d:List V}(h:Au K H xs d)(lo f:Option Int):Au K H (Mb xs lo f) (Kg d lo f):=by
 unfold Mb Kg
 rw [h.length]
 exact(h.drop _).take _
theorem Au.atI{xs:List AV}{d:List V}{i:Int}{x:AV}(h:Au K H xs d)(e:atI xs i=some x):∃u,L2.atI d i=some u/\RelA K H x u:=by
 unfold L2.atI at e ⊢
 rw [<- h.length]
 cases q:Z1 xs.length i with
 | none=>rw [q]at e;cases e
 | some j =>
  rw [q]at e
  obtain⟨x,hx,f⟩:=h.get (show xs[j]?=some x from e)
  exact⟨x,hx,f⟩
def dats:List AV->Option (List iX)
 | []=>some []
 | .D d :: r=>match dats r with
  | some f=>some (d :: f)
  | none=>none
 | .R _ :: _=>none
 | .C _ :: _=>none
 | .X _ _ :: _=>none
@[simp] theorem dats_nil:dats []=some []:=rfl
theorem Bv:∀(ds:List iX),dats (ds.map .D)=some ds
 | []=>rfl
 | d :: ds=>by simp only [List.map_cons,dats,Bv ds]
theorem R0:∀{xs:List AV} {ds:List iX},dats xs=some ds->xs=ds.map .D
 | [],ds,h=>by cases h;rfl
 | .D d :: r,ds,h=>by
  simp only [dats]at h
  cases q:dats r with
  | none=>rw [q]at h;cases h
  | some es=>rw [q]at h;cases h;rw [R0 q];rfl
 | .R _ :: _,_,h=>by simp [dats]at h
 | .C _ :: _,_,h=>by simp [dats]at h
 | .X _ _ :: _,_,h=>by simp [dats]at h
theorem Au.dk:∀{ds:List iX} {vs:List V},Au K H (ds.map .D) vs->Am K H ds vs
 | [],_,h=>by cases h;exact D1
 | _ :: _,_,h=>by
  rw [XY]at h
  cases h with
  | cons r t=>exact Dp r (Au.dk t)
theorem Am.rel:∀{ds:List iX} {vs:List V},Am K H ds vs->Au K H (ds.map .D) vs
 | [],_,h=>by rw [h.nil];exact .nil
 | _ :: _,_,h=>by
  obtain⟨x,r,rfl,h1,h2⟩:=h.cons
  exact .cons h1 (Am.rel h2)
theorem Au.dats{xs:List AV}{vs:List V}{ds:List iX}(h:Au K H xs vs)(e:dats xs=some ds):Am K H ds vs:=by rw [R0 e]at h;exact h.dk
inductive MO where
 | lst (xs:List AV) | dk (kvs:List (Key×AV)) | dt (kvs:List (List Key×AV)) | dd (kvs:List (iX×AV))
abbrev M:=iY->Option MO
def Al(μ:M)(a:iY)(m:MO):M:=λb=>if b=a then some m else μ b
theorem Ab{μ:M}{a:iY}{m:MO}:Al μ a m a=some m:=by unfold Al;rw [Q_ rfl]
theorem Ae{μ:M}{a b:iY}{m:MO}(h:b≠a):Al μ a m b=μ b:=by unfold Al;rw [J_ h]
theorem Bq{μ:M}{a:iY}{m n:MO}:Al (Al μ a m) a n=Al μ a n:=by funext b;unfold Al;split <;> rfl
def Ei{κ:Type}(K:iZ)(H:Hp):List (κ×AV)->List (κ×V)->Prop:=Paired λp q=>p.1=q.1/\RelA K H p.2 q.2
theorem Ei.kp{κ:Type}(S:Kp H H'){xs:List (κ×AV)}{vs:List (κ×V)}(h:Ei K H xs vs):Ei K H' xs vs:=Paired.mapP h λ_ _ q=>⟨q.1,q.2.kp S⟩
def AZ(K:iZ)(H:Hp):List (iX×AV)->List (iX×iY×iV)->Prop:=Paired λp q=>p.1=q.1/\KeyTree p.1/\Dk K H p.1 (.ref q.2.1)/\∃v,RelA K H p.2 v/\Bb v q.2.2
theorem AZ.kp(S:Kp H H'){xs:List (iX×AV)}{vs:List (iX×iY×iV)}(h:AZ K H xs vs):AZ K H' xs vs:=Paired.mapP h λ_ _ ⟨a,b,c,v,r,q⟩=>⟨a,b,Dk.kp S _ _ c,v,r.kp S,q⟩
def Mc(K:iZ)(H:Hp):MO->HO->Prop
 | .lst g,o=>∃f,o=.lst f/\Au K H g f
 | .dk d,o=>∃f,o=.dK f/\Ei K H d f
 | .dt d,o=>∃f,o=.dT f/\Ei K H d f
 | .dd d,o=>∃g,o=.dd g/\AZ K H d g
theorem Mc.kp(S:Kp H H'){m:MO}{o:HO}(h:Mc K H m o):Mc K H' m o:=by
 cases m with
 | lst f=>obtain⟨d,e,r⟩:=h;exact⟨d,e,r.kp S⟩
 | dk f=>obtain⟨d,e,r⟩:=h;exact⟨d,e,r.kp S⟩
 | dt f=>obtain⟨d,e,r⟩:=h;exact⟨d,e,r.kp S⟩
 | dd f=>obtain⟨d,e,r⟩:=h;exact⟨d,e,r.kp S⟩
theorem Cv{xs:List AV}{vs:List V}(h:Au K H xs vs):Mc K H (.lst xs) (.lst vs):=⟨vs,rfl,h⟩
def Cn(K:iZ)(μ:M)(H:Hp):Prop:=∀a m,μ a=some m->∃o,H a=some o/\Mc K H m o
theorem Cn.none{μ:M}{p:iY}(c:Cn K μ H)(h:H p=none):μ p=none:=by
 cases q:μ p with
 | none=>rfl
 | some m=>obtain⟨o,e,_⟩:=c p m q;rw [h]at e;cases e
theorem Cn.over{μ:M}{p:iY}{o:HO}(c:Cn K μ H)(h:H p=Option.none):Cn K μ (upd H p o):=λa m e=>by
 obtain⟨f,d,r⟩:=c a m e
 exact⟨f,by rw [Ay (B7 d h)];exact d,r.kp (Kp.new h o)⟩
theorem Cn.new{μ:M}{p:iY}{m:MO}{o:HO}(c:Cn K μ H)(h:H p=Option.none)(r:Mc K H m o):Cn K (Al μ p m) (upd H p o):=λa d e=>by
 by_cases ha:a=p
 ·subst ha;rw [Ab]at e;cases e;exact⟨o,B2,r.kp (Kp.new h o)⟩
 ·rw [Ae ha]at e;exact c.over h a d e
theorem Cn.put{μ:M}{p:iY}{m:MO}{o f:HO}(c:Cn K μ H)(h:H p=some f)(d:Mt f)(r:Mc K H m o):Cn K (Al μ p m) (upd H p o):=λa g e=>by
 by_cases ha:a=p
 ·subst ha;rw [Ab]at e;cases e;exact⟨o,B2,r.kp (Kp.put h d o)⟩
 ·rw [Ae ha]at e
  obtain⟨j,i,l⟩:=c a g e
  exact⟨j,by rw [Ay ha];exact i,l.kp (Kp.put h d o)⟩
def Sub(μ ν:M):Prop:=∀a m,μ a=some m->ν a=some m
theorem Sub.refl{μ:M}:Sub μ μ:=λ_ _ h=>h
theorem Sub.trans{μ ν ρ:M}(h:Sub μ ν)(k:Sub ν ρ):Sub μ ρ:=λa m e=>k a m (h a m e)
theorem Sub.new{μ ν:M}{p:iY}{m:MO}(h:Sub μ ν)(e:μ p=none):Sub μ (Al ν p m):=λa f d=>by
 rw [Ae (by intro z;subst z;rw [e]at d;cases d)];exact h a f d
theorem Sub.none{μ ν:M}{p:iY}(h:Sub μ ν)(e:ν p=none):μ p=none:=by
 cases q:μ p with
 | none=>rfl
 | some m=>rw [h p m q]at e;cases e
theorem Cn.sub{μ ν:M}(c:Cn K ν H)(h:Sub μ ν):Cn K μ H:=λa m e=>c a m (h a m e)
abbrev ASt:=List (Option AV)
def K6(K:iZ)(H:Hp)(a:Option AV)(b:Option V):Prop:=∀x,a=some x->∃v,b=some v/\RelA K H x v
abbrev Dy(K:iZ)(H:Hp):ASt->St->Prop:=Paired (K6 K H)
theorem K6.kp{a:Option AV}{b:Option V}(S:Kp H H')(h:K6 K H a b):K6 K H' a b:=λx e=>let⟨v,e2,r⟩:=h x e;⟨v,e2,r.kp S⟩
theorem Dy.kp{τ:ASt}{σ:St}(S:Kp H H')(h:Dy K H τ σ):Dy K H' τ σ:=Paired.mapP h λ_ _ q=>q.kp S
theorem Dy.get:∀{τ:ASt} {σ:St} {i:Nat} {x:AV},Dy K H τ σ->τ[i]?=some (some x)->∃v,σ[i]?=some (some v)/\RelA K H x v
 | _,_,_,_,.nil,e=>by simp at e
 | _,_,0,_,.cons r _,e=>by simp at e;subst e;obtain⟨v,rfl,q⟩:=r _ rfl;exact⟨v,rfl,q⟩
 | _,_,i+1,x,.cons _ t,e=>by
  obtain⟨u,h1,h2⟩:=Dy.get (i:=i) (x:=x) t (by simpa using e)
  exact⟨u,by simpa using h1,h2⟩
theorem Jg{x:AV}{v:V}(r:RelA K H x v):K6 K H (some x) (some v):=λy e=>by cases e;exact⟨v,rfl,r⟩
theorem Jh{b:Option V}:K6 K H none b:=λy e=>nomatch e
theorem Dy.set{x:AV}{v:V}(r:RelA K H x v):∀{τ:ASt} {σ:St} (i:Nat),Dy K H τ σ->Dy K H (τ.set i (some x)) (σ.set i (some v))
 | _,_,_,.nil=>.nil
 | _,_,0,.cons _ t=>.cons (Jg r) t
 | _,_,i+1,.cons q t=>.cons q (Dy.set r i t)
def Md(N:List Str)(xs:List AV):ASt:=xs.map some++List.replicate (N.length - xs.length) none
theorem Dy.rep:∀(n:Nat),Dy K H (List.replicate n none) (List.replicate n none)
 | 0=>.nil
 | n+1=>.cons Jh (Dy.rep n)
theorem Dy.somes:∀{xs:List AV} {vs:List V},Au K H xs vs->Dy K H (xs.map some) (vs.map some)
 | _,_,.nil=>.nil
 | _,_,.cons r t=>.cons (Jg r) (Dy.somes t)
theorem Dy.append{τ τ':ASt}{σ σ':St}(h:Dy K H τ σ)(s:Dy K H τ' σ'):Dy K H (τ++τ') (σ++σ'):=by
 induction h with
 | nil=>exact s
 | cons r t d=>exact .cons r d
theorem Dy.begin{N:List Str}{xs:List AV}{vs:List V}(h:Au K H xs vs):Dy K H (Md N xs) (start N vs):=by
 unfold Md start
 rw [h.length]
 exact(Dy.somes h).append (Dy.rep _)
def NO(mp:List (Option Nat))(τ:ASt):ASt:=mp.map λo=>match o with
 | none=>none
 | some j=>match τ[j]? with
  | some x=>x
  | none=>none
theorem Dy.sub{τ:ASt}{σ:St}(h:Dy K H τ σ):∀(mp:List (Option Nat)),Dy K H (NO mp τ) (Nv mp σ)
 | []=>.nil
 | none :: mp=>.cons Jh (Dy.sub h mp)
 | some j :: mp=>by
  refine .cons (λx e=>?_) (Dy.sub h mp)
  have d:τ[j]?=some (some x):=by
   dsimp only at e
   cases q:τ[j]? with
   | none=>rw [q]at e;cases e
   | some y=>rw [q]at e;exact ZX some e
  obtain⟨v,hv,r⟩:=h.get d
  refine⟨v,?_,r⟩
  show(σ[j]?).join=some v
  rw [hv];rfl
abbrev AE:=ASt->M->(AV->M->Prop)->Prop
abbrev AT:=ASt->M->(Bool->M->Prop)->Prop
abbrev AA:=ASt->M->(List AV->M->Prop)->Prop
abbrev AO:=ASt->M->(Option Int->M->Prop)->Prop
abbrev AS:=(ASt->M->Prop)->(AV->M->Prop)->(ASt->M->Prop)->(ASt->M->Prop)->ASt->M->Prop
abbrev AG:=AV->ASt->M->(ASt->M->Prop)->Prop
abbrev AGs:=List AV->ASt->M->(ASt->M->Prop)->Prop
abbrev A2:=AV->AV->M->(AV->M->Prop)->Prop
abbrev AC:=List AV->M->(AV->M->Prop)->Prop
@[irreducible] def brP (b:Bool) (T F:Prop):Prop:=match b with
 | true=>T
 | false=>F
@[irreducible] def opt {α:Type} (o:Option α) (k:α->Prop):Prop:=match o with
 | some x=>k x
 | none=>False
theorem br{b:Bool}{T F:Prop}(h1:b=true->T)(h2:b=false->F):brP b T F:=by
 unfold brP;cases b with
 | true=>exact h1 rfl
 | false=>exact h2 rfl
theorem Nz{b:Bool}{T F:Prop}(hb:b=true)(h:T):brP b T F:=by subst hb;unfold brP;exact h
theorem Uk{b:Bool}{T F:Prop}(hb:b=false)(h:F):brP b T F:=by subst hb;unfold brP;exact h
theorem Ws{T F:Prop}:brP true T F=T:=by unfold brP;rfl
theorem br_e{b:Bool}{T F:Prop}(h:brP b T F):(b=true/\T)\/(b=false/\F):=by
 unfold brP at h;cases b with
 | true=>exact .inl ⟨rfl,h⟩
 | false=>exact .inr ⟨rfl,h⟩
theorem Ad{α:Type}{o:Option α}{x:α}{k:α->Prop}(h:o=some x)(q:k x):opt o k:=by subst h;unfold opt;exact q
theorem A0{α:Type}{o:Option α}{k:α->Prop}(h:opt o k):∃x,o=some x/\k x:=by
 unfold opt at h;cases o with
 | none=>exact h.elim
 | some x=>exact⟨x,rfl,h⟩
theorem dif{p:Prop} [Decidable p]{T F:Prop}(h1:p->T)(h2:¬p->F):brP (decide p) T F:=br (λh=>h1 (YD h)) (λh=>h2 (of_decide_eq_false h))
def LV(K:iZ)(H:Hp)(R:AV->M->Prop)(Q:VK):Prop:=∀x μ v H',Kp H H'->Cn K μ H'->RelA K H' x v->R x μ->Q v H'
def LB(K:iZ)(H:Hp)(R:Bool->M->Prop)(Q:Bool->Hp->Prop):Prop:=∀b μ H',Kp H H'->Cn K μ H'->R b μ->Q b H'
def LA(K:iZ)(n:Nat)(H:Hp)(R:List AV->M->Prop)(Q:List V->Hp->Prop):Prop:=∀d μ vs H',Kp H H'->Cn K μ H'->Au K H' d vs->d.length=n->R d μ->Q vs H'
def LO(K:iZ)(H:Hp)(R:Option Int->M->Prop)(Q:Option Int->Hp->Prop):Prop:=∀b μ H',Kp H H'->Cn K μ H'->R b μ->Q b H'
def LS(K:iZ)(H:Hp)(R:ASt->M->Prop)(Q:St->Hp->Prop):Prop:=∀ τ μ σ H',Kp H H'->Dy K H' τ σ->Cn K μ H'->R τ μ->Q σ H'
theorem LV.kp{K:iZ}{H H':Hp}{R:AV->M->Prop}{Q:VK}(h:LV K H R Q)(S:Kp H H'):LV K H' R Q:=λx μ v H2 S2=>h x μ v H2 (S.trans S2)
theorem LB.kp{K:iZ}{H H':Hp}{R:Bool->M->Prop}{Q:Bool->Hp->Prop}(h:LB K H R Q)(S:Kp H H'):LB K H' R Q:=λx μ H2 S2=>h x μ H2 (S.trans S2)
theorem LS.kp{K:iZ}{H H':Hp}{R:ASt->M->Prop}{Q:St->Hp->Prop}(h:LS K H R Q)(S:Kp H H'):LS K H' R Q:=λx μ v H2 S2=>h x μ v H2 (S.trans S2)
structure LE'(K:iZ)(H:Hp)(k:ASt->M->Prop)(r:AV->M->Prop)(b c:ASt->M->Prop)(D:Ends):Prop where
 nx:LS K H k D.nx
 rt:LV K H r D.rt
 bk:LS K H b D.bk
 ct:LS K H c D.ct
theorem LE'.kp{K:iZ}{H H':Hp}{k:ASt->M->Prop}{r:AV->M->Prop}{b c:ASt->M->Prop}{D:Ends}(h:LE' K H k r b c D)(S:Kp H H'):LE' K H' k r b c D:=⟨h.nx.kp S,h.rt.kp S,h.bk.kp S,h.ct.kp S⟩
def cE(K:iZ)(t:AE):TE:=fun σ H Q=>∃ τ μ R,Dy K H τ σ/\Cn K μ H/\t τ μ R/\LV K H R Q
def cT(K:iZ)(t:AT):TT:=fun σ H Q=>∃ τ μ R,Dy K H τ σ/\Cn K μ H/\t τ μ R/\LB K H R Q
def cA(K:iZ)(n:Nat)(t:AA):TA:=fun σ H Q=>∃ τ μ R,Dy K H τ σ/\Cn K μ H/\t τ μ R/\LA K n H R Q
def cO(K:iZ)(t:AO):TO:=fun σ H Q=>∃ τ μ R,Dy K H τ σ/\Cn K μ H/\t τ μ R/\LO K H R Q
def cS(K:iZ)(t:AS):TS:=λD σ H=>∃ τ μ k r b c,Dy K H τ σ/\Cn K μ H/\t k r b c τ μ/\LE' K H k r b c D
def cG(K:iZ)(t:AG):TG:=λv σ H Q=>∃x τ μ R,RelA K H x v/\Dy K H τ σ/\Cn K μ H/\t x τ μ R/\LS K H R Q
def WF(K:iZ)(t:AGs):TGs:=λf σ H Q=>∃d τ μ R,Au K H d f/\Dy K H τ σ/\Cn K μ H/\t d τ μ R/\LS K H R Q
def cR(K:iZ)(r:A2):R2:=λx y H Q=>∃a b μ R,RelA K H a x/\RelA K H b y/\Cn K μ H/\r a b μ R/\LV K H R Q
def cC(K:iZ)(r:AC):List V->Hp->VK->Prop:=λf H Q=>∃d μ R,Au K H d f/\Cn K μ H/\r d μ R/\LV K H R Q
def cM(K:iZ)(r:AV->AC):V->List V->Hp->VK->Prop:=λx f H Q=>∃a d μ R,RelA K H a x/\Au K H d f/\Cn K μ H/\r a d μ R/\LV K H R Q
def VE(X:Cx)(e:jB)(t:AE):Prop:=PE X e (cE X.K t)
def VT(X:Cx)(e:jB)(t:AT):Prop:=PT X e (cT X.K t)
def VW(X:Cx)(e:jB)(t:AT):Prop:=PW X e (cT X.K t)
def VA(X:Cx)(es:List jB)(t:AA):Prop:=PA X es (cA X.K es.length t)
def VO(X:Cx)(e:Option jB)(t:AO):Prop:=PO X e (cO X.K t)
def VS(X:Cx)(st:jF)(t:AS):Prop:=PS X st (cS X.K t)
def VSs(X:Cx)(st:List jF)(t:AS):Prop:=PSs X st (cS X.K t)
def VG(X:Cx)(e:jB)(t:AG):Prop:=PG X e (cG X.K t)
def VGs(X:Cx)(es:List jB)(t:AGs):Prop:=PGs X es (WF X.K t)
def VOp(X:Cx)(f:iV->iV->Sem iV)(r:A2):Prop:=Hu X f (cR X.K r)
def VIx(X:Cx)(r:A2):Prop:=NC X (cR X.K r)
def VCall(X:Cx)(f:iV)(r:AC):Prop:=Ex X f (cC X.K r)
def VMt(X:Cx)(id:String)(r:AV->AC):Prop:=HL X id (cM X.K r)
theorem PE.imp{e:jB}{t u:TE}(h:PE X e t)(i:∀ σ H Q,u σ H Q->t σ H Q):PE X e u:=λd s σ H Q I q=>h d s σ H Q I (i σ H Q q)
theorem PT.imp{e:jB}{t u:TT}(h:PT X e t)(i:∀ σ H Q,u σ H Q->t σ H Q):PT X e u:=λd s σ H Q I q=>h d s σ H Q I (i σ H Q q)
theorem PW.imp{e:jB}{t u:TT}(h:PW X e t)(i:∀ σ H Q,u σ H Q->t σ H Q):PW X e u:=λf d s σ H Q I q=>h f d s σ H Q I (i σ H Q q)
theorem PA.imp{e:List jB}{t u:TA}(h:PA X e t)(i:∀ σ H Q,u σ H Q->t σ H Q):PA X e u:=λpos d s σ H Q I q=>h pos d s σ H Q I (i σ H Q q)
theorem PO.imp{e:Option jB}{t u:TO}(h:PO X e t)(i:∀ σ H Q,u σ H Q->t σ H Q):PO X e u:=λd s σ H Q I q=>h d s σ H Q I (i σ H Q q)
theorem PS.imp{e:jF}{t u:TS}(h:PS X e t)(i:∀D σ H,u D σ H->t D σ H):PS X e u:=λd s σ H D I q=>h d s σ H D I (i D σ H q)
theorem PSs.imp{e:List jF}{t u:TS}(h:PSs X e t)(i:∀D σ H,u D σ H->t D σ H):PSs X e u:=λd s σ H D I q=>h d s σ H D I (i D σ H q)
theorem PG.imp{e:jB}{t u:TG}(h:PG X e t)(i:∀v σ H Q,u v σ H Q->t v σ H Q):PG X e u:=λd s σ H v w Q I r q=>h d s σ H v w Q I r (i v σ H Q q)
theorem PGs.imp{e:List jB}{t u:TGs}(h:PGs X e t)(i:∀v σ H Q,u v σ H Q->t v σ H Q):PGs X e u:=λd s σ H v w Q I r q=>h d s σ H v w Q I r (i v σ H Q q)
def Ji(i:Nat):AE:=fun τ μ R=>match τ[i]? with
 | some (some x)=>R x μ
 | _=>False
theorem Wt{K:iZ}{i:Nat}{σ:St}{H:Hp}{Q:VK}(h:cE K (Ji i) σ H Q):MH i σ H Q:=by
 obtain⟨τ,μ,R,d,hc,h,hq⟩:=h
 unfold Ji at h
 split at h
 ·rename_i x e
  obtain⟨v,f,r⟩:=d.get e
  exact⟨v,f,hq _ _ _ _ Kp.refl hc r h⟩
 ·exact h.elim
theorem vv(i:Nat){x:Str}{pos:Pos}(g:X.N[i]?=some x:=by rfl)(hv:Vis X.env.scope x:=by first | exact Or.inl rfl | exact Or.inr (Or.inl rfl) | exact Or.inr (Or.inr rfl))(f:(x==("__debug__" : Str))=false:=by decide)
  (d:(x==("__classdict__" : Str))=false:=by decide):VE X (.Name x pos) (Ji i):=(GN g hv f d).imp λ_ _ _ h=>Wt h
def vC(x:AV):AE:=λ_ μ R=>R x μ
theorem Gn{e:jB}{v:V}{d:iX}(h:PE X e (tC v))(r:∀H,Dk X.K H d v):VE X e (vC (.D d)):=h.imp fun σ H Q zz1=>Ca zz1 fun τ μ R hs hc h hq=>hq _ _ _ _ Kp.refl hc (Uj (r H)) h
theorem Ah{i j pos}:VE X (.Constant (.int i) j pos) (vC (.D (.int i))):=Gn GO λ_=>C4
theorem K7{b j pos}:VE X (.Constant (.bool b) j pos) (vC (.D (.bool b))):=Gn MJ λ_=>Ny
theorem B3{x j pos}:VE X (.Constant (.str x) j pos) (vC (.D (.str x))):=Gn Vv λ_=>Qe
theorem BA{x:Str}{v:V}{u:iV}{d:iX}{pos:Pos}(f:Gl X x)(h:X.mg x=some u)(r:Bb v u)(g:∀H,Dk X.K H d v)(h1:(x==("__debug__" : Str))=false:=by decide):VE X (.Name x pos) (vC (.D d)):=Gn (Zl f h r h1) g
def Vs(r:A2)(ta tb:AE):AE:=fun τ μ R=>ta τ μ λx μ1=>tb τ μ1 λy μ2=>r x y μ2 R
theorem Me{K:iZ}{r:A2}{ta tb:AE}{σ:St}{H:Hp}{Q:VK}(h:cE K (Vs r ta tb) σ H Q):RT (cR K r) (cE K ta) (cE K tb) σ H Q:=by
 obtain⟨τ,μ,R,d,hc,h,hq⟩:=h
 exact⟨τ,μ,_,d,hc,h,λx μ1 v H1 S1 g rx hx=>⟨τ,μ1,_,d.kp S1,g,hx,λy μ2 u H2 S2 c2 f hy=>⟨x,y,μ2,R,rx.kp S2,f,c2,hy,hq.kp (S1.trans S2)⟩⟩⟩
theorem A4{d:Operator}{r:A2}(f:VOp X (binaryOp d) r)(ha:VE X a ta)(hb:VE X b tb):VE X (.BinOp a d b pos) (Vs r ta tb):=(MS f ha hb).imp λ_ _ _ h=>Me h
def R3(t:AE):AT:=fun τ μ R=>t τ μ λx μ1=>match x with
 | .D (.bool k)=>R k μ1
 | _=>False
theorem Hd{K:iZ}{t:AE}{u:TE}(hu:∀ σ H Q,cE K t σ H Q->u σ H Q){σ:St}{H:Hp}{Q:Bool->Hp->Prop}(h:cT K (R3 t) σ H Q):EK u σ H Q:=by
 obtain⟨τ,μ,R,d,hc,h,hq⟩:=h
 refine hu _ _ _ ⟨τ,μ,_,d,hc,h,λx μ1 v H1 S1 c1 rx hx=>?_⟩
 split at hx
 ·cases RelA.bl rx
  exact⟨_,rfl,hq _ _ _ S1 c1 hx⟩
 ·exact hx.elim
theorem Bh{d:CmpOp}{r:A2}(f:VOp X (compareOp d) r)(ha:VE X a ta)(hb:VE X b tb)(g:behindInMarks d b=false):VT X (.Compare a [d] [b] pos) (R3 (Vs r ta tb)) :=
 (Zv f ha hb g).imp λ_ _ _ h=>Hd (λ_ _ _ q=>Me q) h
theorem Wu{e:jB}{t:AE}(h:VE X e t)(he:∀d,isTrue e X.env d=(do let v <- d;standAt e.pos;holding [v] (truthy v)):=by intro _;rfl):VT X e (R3 t) :=
 (GQ h he).imp λ_ _ _ h=>by
  have h:=Hd (λ_ _ _ q=>q) h
  exact h
def TH(t u:AT):AT:=fun τ μ R=>t τ μ λk μ1=>brP k (u τ μ1 R) (R false μ1)
def WG(t u:AT):AT:=fun τ μ R=>t τ μ λk μ1=>brP k (R true μ1) (u τ μ1 R)
def TJ(t:AT):AT:=fun τ μ R=>t τ μ λk μ1=>R (!k) μ1
theorem VW.pt{e:jB}{t:AT}(h:VW X e t):VT X e t:=PW.pt h
theorem Mf(ha:VT X a tA):VW X (.BoolOp .And [a] pos) tA:=Zm ha
theorem Wv(ha:VT X a tA):VW X (.BoolOp .Or [a] pos) tA:=GR ha
theorem Mg(ha:VT X a tA)(hb:VW X (.BoolOp .And (b :: rest) pos) kj):VW X (.BoolOp .And (a :: b :: rest) pos) (TH tA kj) :=
 (GS ha hb).imp fun σ H Q zz3=>Ca zz3 fun τ μ R f hc h hq=>⟨τ,μ,_,f,hc,h,λk μ1 H1 S1 g hk=>by
  rcases br_e hk with⟨rfl,d⟩ | ⟨rfl,d⟩
  ·exact⟨τ,μ1,R,f.kp S1,g,d,hq.kp S1⟩
  ·exact hq _ _ _ S1 g d⟩
theorem EQ(ha:VT X a tA)(hb:VW X (.BoolOp .Or (b :: rest) pos) kj):VW X (.BoolOp .Or (a :: b :: rest) pos) (WG tA kj) :=
 (MK ha hb).imp fun σ H Q zz4=>Ca zz4 fun τ μ R f hc h hq=>⟨τ,μ,_,f,hc,h,λk μ1 H1 S1 g hk=>by
  rcases br_e hk with⟨rfl,d⟩ | ⟨rfl,d⟩
  ·exact hq _ _ _ S1 g d
  ·exact⟨τ,μ1,R,f.kp S1,g,d,hq.kp S1⟩⟩
theorem ID(ha:VT X a tA):VT X (.UnaryOp .Not a pos) (TJ tA):=(GT ha).imp fun σ H Q zz5=>Ca zz5 fun τ μ R d hc h hq=>⟨τ,μ,_,d,hc,h,λk μ1 H1 S1 c1 hk=>hq _ _ _ S1 c1 hk⟩
def WH(t:AT)(ta tb:AE):AE:=fun τ μ R=>t τ μ λk μ1=>brP k (ta τ μ1 R) (tb τ μ1 R)
theorem N0(hc:VT X c tA)(ha:VE X a ta)(hb:VE X b tb):VE X (.IfExp c a b pos) (WH tA ta tb) :=
 (Vw hc ha hb).imp fun σ H Q zz9=>Ca zz9 fun τ μ R f hc h hq=>⟨τ,μ,_,f,hc,h,λk μ1 H1 S1 g hk=>by
  rcases br_e hk with⟨rfl,d⟩ | ⟨rfl,d⟩
  ·exact⟨τ,μ1,R,f.kp S1,g,d,hq.kp S1⟩
  ·exact⟨τ,μ1,R,f.kp S1,g,d,hq.kp S1⟩⟩
def IE:AA:=λ_ μ R=>R [] μ
def ER(ta:AE)(d:AA):AA:=fun τ μ R=>ta τ μ λx μ1=>d τ μ1 λf μ2=>R (x :: f) μ2
theorem Ac:VA X [] IE:=HG.imp fun σ H Q zz10=>Ca zz10 fun τ μ R hs hc h hq=>hq [] μ [] H Kp.refl hc .nil rfl h
theorem Aa{e:jB}{es:List jB}{te:AE}{t:AA}(ha:VE X e te)(d:VA X es t)(hs:starEach (e :: es) X.env=(false,eval e X.env) :: starEach es X.env:=by rfl):VA X (e :: es) (ER te t) :=
 (Zw ha d hs).imp fun σ H Q zz11=>Ca zz11 fun τ μ R hs hc h hq=>⟨τ,μ,_,hs,hc,h,λx μ1 v H1 S1 f rx hx=>⟨τ,μ1,_,hs.kp S1,f,hx,λg μ2 vs H2 S2 c2 rs hl ix =>
  hq (x :: g) μ2 (v :: vs) H2 (S1.trans S2) c2 (.cons (rx.kp S2) rs) (by rw [YA,hl];rfl) ix⟩⟩
def TK(t:AA):AE:=fun τ μ R=>t τ μ λd μ1=>match dats d with
 | some f=>R (.D (.tuple f)) μ1
 | none=>False
def NP(t:AA):AE:=fun τ μ R=>t τ μ λd μ1=>∀p,μ1 p=none->R (.R p) (Al μ1 p (.lst d))
theorem Bc{k:Nat}(h:VA X es t)(hn:es.length<=sizeLine:=by decide):VE X (.Tuple es k pos) (TK t) :=
 (V6 h).imp fun σ H Q zz12=>Ca zz12 fun τ μ R d hc h hq=>⟨τ,μ,_,d,hc,h,λg μ1 vs H1 S1 c1 rs hl hx=>⟨by rw [<- rs.length,hl];exact hn,λp hp=>by
  split at hx
  ·rename_i f e
   refine hq _ _ _ _ (S1.trans (Kp.new hp _)) (c1.over hp) ?_ hx
   exact Jd B2 (Am.kp (Kp.new hp _) _ _ (rs.dats e))
  ·exact hx.elim⟩⟩
theorem Bd(h:VA X es t)(hn:es.length<=sizeLine:=by decide):VE X (.List es pos) (NP t) :=
 (HH h).imp fun σ H Q zz13=>Ca zz13 fun τ μ R f hc h hq=>⟨τ,μ,_,f,hc,h,λg μ1 vs H1 S1 c1 d hl hx=>⟨by rw [<- d.length,hl];exact hn,λp hp =>
  hq _ _ _ _ (S1.trans (Kp.new hp _)) (c1.new hp (Cv (d))) Dq (hx p (c1.none hp))⟩⟩
mutual
theorem Dk.reads{y:List (iY×jE)}{σ:St}{H:Hp}{s:iW}(I:Inv X y σ H s):∀(d:iX) (x:V) (u:iV),Dk X.K H d x->Bb x u->∃l,Reads s.heap u d l
 | .none,x,u,h,r=>by cases h.non;cases r;exact⟨_,.none⟩
 | .bool b,x,u,h,r=>by cases h.bl;cases r;exact⟨_,.bool b⟩
 | .int i,x,u,h,r=>by cases h.int;obtain⟨t,rfl⟩:=r;exact⟨_,.int i t⟩
 | .str z,x,u,h,r=>by cases h.str;obtain⟨t,rfl⟩:=r;exact⟨_,.str z t⟩
 | .list v,x,u,h,r=>by
  obtain⟨a,g,rfl,q,k⟩:=h.lst
  cases r
  obtain⟨f,j,⟨o,n,e,c,_,d⟩,_⟩:=I.list q.sq
  obtain⟨l,w⟩:=Am.reads I v g f k j
  exact⟨_,.list e c d (by simpa using w)⟩
 | .tuple v,x,u,h,r=>by
  obtain⟨a,g,rfl,q,k⟩:=h.tup
  cases r
  obtain⟨f,j,⟨o,e,c,n,d⟩,_⟩:=I.tuple q.sq
  obtain⟨l,w⟩:=Am.reads I v g f k j
  exact⟨_,.tuple e c d (by simpa using w)⟩
 | .dict _,x,u,h,_=>by simp only [Dk]at h
theorem Am.reads{l:List (iY×jE)}{σ:St}{H:Hp}{s:iW}(I:Inv X l σ H s):∀(ds:List iX) (xs:List V) (f:List iV),Am X.K H ds xs->Vals xs f->∃g,ReadsAll s.heap f ds g
 | [],xs,f,h,r=>by
  have e:=h.nil
  subst e
  cases r
  exact⟨_,.nil⟩
 | d :: ds,xs,f,h,r=>by
  obtain⟨x,j,rfl,h1,h2⟩:=h.cons
  cases r with
  | cons n u =>
   obtain⟨g,q⟩:=Dk.reads I d x _ h1 n
   obtain⟨v,i⟩:=Am.reads I ds j _ h2 u
   exact⟨_,.cons q i⟩
end
def see(μ:M):AV->Option iX
 | .X _ _=>none
 | .D d=>some d
 | .C f=>some (.tuple f)
 | .R a=>match μ a with
  | some (.lst g)=>match dats g with
   | some f=>some (.list f)
   | none=>none
  | _=>none
@[simp] theorem see_D {μ:M} {d:iX}:see μ (.D d)=some d:=rfl
theorem Ej{E:List (iY×jE)}{σ:St}{H:Hp}{s:iW}{μ:M}{x:AV}{v:V}{u:iV}{d:iX}(I:Inv X E σ H s)(hc:Cn X.K μ H)(i:RelA X.K H x v)(r:Bb v u)(e:see μ x=some d):∃h,Reads s.heap u d h:=by
 cases x with
 | X C G=>cases e
 | D J=>cases e;exact Dk.reads I _ _ _ i r
 | C j =>
  cases e
  obtain⟨a,w,rfl,q,k⟩:=i
  cases r
  obtain⟨f,g,⟨o,e,c,n,d⟩,_⟩:=I.tuple (q H)
  obtain⟨h,l⟩:=Am.reads I j w f k g
  exact⟨_,.tuple e c d (by simpa using l)⟩
 | R a =>
  dsimp only [see]at e
  split at e
  ·rename_i w y
   split at e
   ·rename_i j F
    cases e
    cases (show v=.ref a from i)
    cases r
    obtain⟨o,A,B,rfl,z⟩:=hc a _ y
    obtain⟨f,g,⟨o,n,e,c,_,dd⟩,_⟩:=I.list (E8.of A)
    obtain⟨h,l⟩:=Am.reads I j B f (z.dats F) g
    exact⟨_,.list e c dd (by simpa using l)⟩
   ·cases e
  ·cases e
def C0(d:iX):Prop:=d.canLay0=true/\d.depth<=64
def VB:A2:=λx y μ R=>match x,y with
 | .D d,.D e=>C0 d/\C0 e/\R (.D (.bool (PyData.eqv d e))) μ
 | x,y=>opt (see μ x) λd=>opt (see μ y) λe=>C0 d/\C0 e/\R (.D (.bool (PyData.eqv d e))) μ
theorem BB{x y:AV}{μ:M}{R:AV->M->Prop}(h:VB x y μ R):∃d e,see μ x=some d/\see μ y=some e/\C0 d/\C0 e/\R (.D (.bool (PyData.eqv d e))) μ:=by
 have g:∀(h:opt (see μ x) λd=>opt (see μ y) λe=>C0 d/\C0 e/\R (.D (.bool (PyData.eqv d e))) μ),∃d e,see μ x=some d/\see μ y=some e/\C0 d/\C0 e/\R (.D (.bool (PyData.eqv d e))) μ:=by
  intro h
  obtain⟨d,f,h⟩:=A0 h
  obtain⟨e,i,h⟩:=A0 h
  exact⟨d,e,f,i,h⟩
 cases x with
 | D d =>
  cases y with
  | D e=>exact⟨_,_,rfl,rfl,h⟩
  | _=>exact g h
 | _=>exact g h
theorem E3(f:Room k X.A):VOp X (compareOp .Eq) VB:=by
 intro q s σ H x y v u Q I rx ry zz14
 refine Ee zz14 λa b μ R ra rb hc h hq=>?_
 obtain⟨d,e,i,j,h⟩:=BB h
 ·obtain⟨n,g⟩:=Ej I hc ra rx i
  obtain⟨w,l⟩:=Ej I hc rb ry j
  have hu:=f.un
  have:=h.1.2
  exact SeqAt.compareEq_reads g l h.1.1 h.2.1.1 (by omega) ⟨.bl _,H,I,rfl,hq _ _ _ _ Kp.refl hc Je h.2.2⟩
def N1:iX->Option Key
 | .int i=>some (.inl i)
 | .str z=>some (.inr z)
 | _=>none
def items(μ:M):AV->Option (List AV)
 | .D (.tuple d)=>some (d.map .D)
 | .C d=>some (d.map .D)
 | .D (.list d)=>some (d.map .D)
 | .R a=>match μ a with
  | some (.lst f)=>some f
  | _=>none
 | _=>none
theorem K8{H:Hp}{μ:M}{x:AV}{v:V}{xs:List AV}(hc:Cn X.K μ H)(f:RelA X.K H x v)(e:items μ x=some xs):∃p d,v=.ref p/\(E8 X.K H p d\/Kf X.K H p d)/\Au X.K H xs d:=by
 unfold items at e
 split at e
 ·cases e;obtain⟨a,d,rfl,q,r⟩:=RelA.tup f;exact⟨a,d,rfl,.inr q.sq,r.rel⟩
 ·cases e;obtain⟨a,d,rfl,q,r⟩:=f;exact⟨a,d,rfl,.inr (q H),r.rel⟩
 ·cases e;obtain⟨a,d,rfl,q,r⟩:=RelA.lst f;exact⟨a,d,rfl,.inl q.sq,r.rel⟩
 ·split at e
  ·rename_i j i
   cases e
   obtain⟨o,h,d,rfl,g⟩:=hc _ _ i
   exact⟨_,d,f,.inl (E8.of h),g⟩
  ·cases e
 ·cases e
def LL:AV->Bool
 | .D (.tuple _)=>true
 | .C _=>true
 | _=>false
theorem Cw{H:Hp}{μ:M}{x:AV}{v:V}{xs:List AV}(hc:Cn X.K μ H)(f:RelA X.K H x v)(e:items μ x=some xs):∃p d,v=.ref p/\((LL x=false/\E8 X.K H p d)\/(LL x=true/\Kf X.K H p d))/\Au X.K H xs d:=by
 unfold items at e
 split at e
 ·cases e;obtain⟨a,d,rfl,q,r⟩:=RelA.tup f;exact⟨a,d,rfl,.inr ⟨rfl,q.sq⟩,r.rel⟩
 ·cases e;obtain⟨a,d,rfl,q,r⟩:=f;exact⟨a,d,rfl,.inr ⟨rfl,q H⟩,r.rel⟩
 ·cases e;obtain⟨a,d,rfl,q,r⟩:=RelA.lst f;exact⟨a,d,rfl,.inl ⟨rfl,q.sq⟩,r.rel⟩
 ·split at e
  ·rename_i j i
   cases e
   obtain⟨o,h,d,rfl,g⟩:=hc _ _ i
   exact⟨_,d,f,.inl ⟨rfl,E8.of h⟩,g⟩
  ·cases e
 ·cases e
def LM(g:Bool->Bool):A2:=λx y μ R=>match y with
 | .D (.str j)=>match x with
  | .D (.str i)=>R (.D (.bool (g (!(Builtin.Str.occurrences j i 0 j.length 1).isEmpty)))) μ
  | _=>False
 | .C f=>opt (see μ x) λd=>C0 d/\C0 (.tuple f)/\R (.D (.bool (g (f.any λe=>PyData.eqv e d)))) μ
 | .D (.tuple f)=>opt (see μ x) λd=>C0 d/\C0 (.tuple f)/\R (.D (.bool (g (f.any λe=>PyData.eqv e d)))) μ
 | y=>opt (see μ x) λd=>opt (items μ y) λh=>opt (dats h) λf=>C0 d/\C0 (.tuple f)/\R (.D (.bool (g (f.any λe=>PyData.eqv e d)))) μ
theorem R4{l:Bool->Bool}{x y:AV}{μ:M}{R:AV->M->Prop}(h:LM l x y μ R)(hn:∀z,y≠.D (.str z)):∃d i f,see μ x=some d/\items μ y=some i/\dats i=some f/\C0 d/\C0 (.tuple f)/\R (.D (.bool (l (f.any λe=>PyData.eqv e d)))) μ:=by
 unfold LM at h
 split at h
 ·exact absurd rfl (hn _)
 ·obtain⟨d,g,h⟩:=A0 h
  exact⟨d,_,_,g,rfl,Bv _,h⟩
 ·obtain⟨d,g,h⟩:=A0 h
  exact⟨d,_,_,g,rfl,Bv _,h⟩
 ·obtain⟨d,g,h⟩:=A0 h
  obtain⟨i,n,h⟩:=A0 h
  obtain⟨f,j,h⟩:=A0 h
  exact⟨d,i,f,g,n,j,h⟩
theorem N3{ds:List iX}(h:C0 (.tuple ds)):PyData.canLayAll0 ds=true/\PyData.depthAll ds<=64:=by
 obtain⟨h1,h2⟩:=h
 simp only [PyData.canLay0]at h1
 simp only [PyData.depth]at h2
 exact⟨h1,fP h2⟩
theorem NQ(J:Room k X.A):VOp X (compareOp .In) (LM λb=>b):=by
 intro M s σ H x y v u Q I rx ry zz16
 refine Ee zz16 λa b μ R ra f hc h hq=>?_
 by_cases hb:∃z,b=.D (.str z)
 ·obtain⟨z,rfl⟩:=hb
  unfold LM at h
  dsimp only at h
  split at h
  ·cases RelA.str ra;cases RelA.str f
   exact T6 M s σ H _ _ v u Q I rx ry ⟨_,_,rfl,rfl,hq _ _ _ _ Kp.refl hc Je h⟩
  ·exact h.elim
 ·obtain⟨d,V,G,P,S,l,h⟩:=R4 h λz e=>hb ⟨z,e⟩
  ·skip
   obtain⟨i,O,h⟩:=h
   obtain⟨U,E⟩:=Ej I hc ra rx P
   obtain⟨p,F,rfl,hp,L⟩:=K8 hc f S
   cases ry
   obtain⟨j,c2⟩:=N3 O
   have C:=L.dats l
   have hu:=J.un
   have q:=hq _ _ _ _ Kp.refl hc Je h
   rcases hp with hp | hp
   ·obtain⟨g,r,n,hz⟩:=I.list hp
    obtain⟨N,f⟩:=Am.reads I G F g C r
    have e:=λA=>Eh (A:=A) E i.1
    refine SeqAt.in_listAt (Pp s.heap d) n.isList (λw B=>(e _ (by first | (show X.A.units+64 < _;omega) | (show X.A.units+1+64 < _;omega) | (show X.A.units+1+1+64 < _;omega)) f j c2).1 w (by simpa using B)) ⟨.bl _,H,I,rfl,?_⟩
    rw [show g.toArray.any (Pp s.heap d)=g.any (Pp s.heap d) by simp,(e X.A (by omega) f j c2).2]
    exact q
   ·obtain⟨g,r,n,hz⟩:=I.tuple hp
    obtain⟨N,f⟩:=Am.reads I G F g C r
    have e:=λA=>Eh (A:=A) E i.1
    refine SeqAt.in_tupleAt (Pp s.heap d) n (λw B=>(e _ (by first | (show X.A.units+64 < _;omega) | (show X.A.units+1+64 < _;omega) | (show X.A.units+1+1+64 < _;omega)) f j c2).1 w (by simpa using B)) ⟨.bl _,H,I,rfl,?_⟩
    rw [show g.toArray.any (Pp s.heap d)=g.any (Pp s.heap d) by simp,(e X.A (by omega) f j c2).2]
    exact q
theorem BC(J:Room k X.A):VOp X (compareOp .NotIn) (LM λb=>!b):=by
 intro M s σ H x y v u Q I rx ry zz17
 refine Ee zz17 λa b μ R ra f hc h hq=>?_
 by_cases hb:∃z,b=.D (.str z)
 ·obtain⟨z,rfl⟩:=hb
  unfold LM at h
  dsimp only at h
  split at h
  ·cases RelA.str ra;cases RelA.str f
   exact L5 M s σ H _ _ v u Q I rx ry ⟨_,_,rfl,rfl,hq _ _ _ _ Kp.refl hc Je h⟩
  ·exact h.elim
 ·obtain⟨d,V,G,P,S,l,h⟩:=R4 h λz e=>hb ⟨z,e⟩
  ·skip
   obtain⟨i,O,h⟩:=h
   obtain⟨U,E⟩:=Ej I hc ra rx P
   obtain⟨p,F,rfl,hp,L⟩:=K8 hc f S
   cases ry
   obtain⟨j,c2⟩:=N3 O
   have C:=L.dats l
   have hu:=J.un
   have q:=hq _ _ _ _ Kp.refl hc Je h
   rcases hp with hp | hp
   ·obtain⟨g,r,n,hz⟩:=I.list hp
    obtain⟨N,f⟩:=Am.reads I G F g C r
    have e:=λA=>Eh (A:=A) E i.1
    refine SeqAt.notIn_listAt (Pp s.heap d) n.isList (λw B=>(e _ (by first | (show X.A.units+64 < _;omega) | (show X.A.units+1+64 < _;omega) | (show X.A.units+1+1+64 < _;omega)) f j c2).1 w (by simpa using B)) ⟨.bl _,H,I,rfl,?_⟩
    rw [show g.toArray.any (Pp s.heap d)=g.any (Pp s.heap d) by simp,(e X.A (by omega) f j c2).2]
    exact q
   ·obtain⟨g,r,n,hz⟩:=I.tuple hp
    obtain⟨N,f⟩:=Am.reads I G F g C r
    have e:=λA=>Eh (A:=A) E i.1
    refine SeqAt.notIn_tupleAt (Pp s.heap d) n (λw B=>(e _ (by first | (show X.A.units+64 < _;omega) | (show X.A.units+1+64 < _;omega) | (show X.A.units+1+1+64 < _;omega)) f j c2).1 w (by simpa using B)) ⟨.bl _,H,I,rfl,?_⟩
    rw [show g.toArray.any (Pp s.heap d)=g.any (Pp s.heap d) by simp,(e X.A (by omega) f j c2).2]
    exact q
def aI(C:Int->Int->Prop)(g:Int->Int->iX):A2:=λx y μ R=>match x,y with
 | .D (.int i),.D (.int j)=>C i j/\R (.D (g i j)) μ
 | _,_=>False
def IF(g:Int->Int->iX):A2:=λx y μ R=>match x,y with
 | .D (.int i),.D (.int j)=>R (.D (g i j)) μ
 | _,_=>False
theorem NR{f:iV->iV->Sem iV}{C:Int->Int->Prop}{g:Int->Int->V}{g':Int->Int->iX}(h:Hu X f (rI C g))(l:∀i j H,Dk X.K H (g' i j) (g i j)):VOp X f (aI C g'):=by
 intro n s σ H x y v u Q I rx ry zz20
 refine Ee zz20 λa b μ R ra rb hc h' hq=>?_
 cases a with
 | D d =>
  cases d with
  | int i =>
   cases b with
   | D e =>
    cases e with
    | int j =>
     cases RelA.int ra;cases RelA.int rb
     exact h n s σ H _ _ v u Q I rx ry ⟨_,_,rfl,rfl,h'.1,hq _ _ _ _ Kp.refl hc (Uj (l _ _ _)) h'.2⟩
    | _=>exact False.elim h'
   | _=>exact False.elim h'
  | _=>exact False.elim h'
 | _=>exact False.elim h'
theorem Ul{f:iV->iV->Sem iV}{g:Int->Int->V}{g':Int->Int->iX}(h:Hu X f (Zf g))(l:∀i j H,Dk X.K H (g' i j) (g i j)):VOp X f (IF g'):=by
 intro n s σ H x y v u Q I rx ry zz21
 refine Ee zz21 λa b μ R ra rb hc h' hq=>?_
 cases a with
 | D d =>
  cases d with
  | int i =>
   cases b with
   | D e =>
    cases e with
    | int j =>
     cases RelA.int ra;cases RelA.int rb
     exact h n s σ H _ _ v u Q I rx ry ⟨_,_,rfl,rfl,hq _ _ _ _ Kp.refl hc (Uj (l _ _ _)) h'⟩
    | _=>exact False.elim h'
   | _=>exact False.elim h'
  | _=>exact False.elim h'
 | _=>exact False.elim h'
abbrev TL:A2:=IF λi j=>.int (i - j)
abbrev ES:A2:=aI CDiv λi j=>.int (i / j)
abbrev IG:A2:=aI (λ_ j=>0 < j) λi j=>.int (i % j)
abbrev TM:A2:=aI CPow λi j=>.int (i ^ j.toNat)
abbrev WI:A2:=IF λi j=>.bool (decide (i < j))
abbrev WJ:A2:=IF λi j=>.bool (decide (j < i))
abbrev WK:A2:=IF λi j=>.bool (decide (j<=i))
theorem NS:VOp X (binaryOp .Sub) TL:=Ul GZ λ_ _ _=>C4
theorem Ww:VOp X (binaryOp .FloorDiv) ES:=NR Zu λ_ _ _=>C4
theorem Fw:VOp X (binaryOp .Mod) IG:=NR HB λ_ _ _=>C4
theorem NT:VOp X (binaryOp .Pow) TM:=NR HC λ_ _ _=>C4
theorem NU:VOp X (compareOp .Lt) WI:=Ul MU λ_ _ _=>Ny
theorem IH:VOp X (compareOp .Gt) WJ:=Ul MV λ_ _ _=>Ny
theorem TN:VOp X (compareOp .GtE) WK:=Ul MW λ_ _ _=>Ny
def TQ:A2:=λx y μ R=>match x,y with
 | .D (.int i),.D (.int j)=>CMul i j/\R (.D (.int (i * j))) μ
 | .D (.str z),.D (.int n)=>(n=0\/n=1)/\R (.D (.str (if n=0 then Str.empty else z))) μ
 | _,_=>False
theorem K9:VOp X (binaryOp .Mult) TQ:=by
 intro f s σ H x y v u Q I rx ry zz22
 refine Ee zz22 λa b μ R ra rb hc h hq=>?_
 cases a with
 | D d =>
  cases d with
  | int i =>
   cases b with
   | D e =>
    cases e with
    | int j =>
     cases RelA.int ra;cases RelA.int rb
     exact HA f s σ H _ _ v u Q I rx ry ⟨_,_,rfl,rfl,h.1,hq _ _ _ _ Kp.refl hc C5 h.2⟩
    | _=>exact False.elim h
   | _=>exact False.elim h
  | str z =>
   cases b with
   | D e =>
    cases e with
    | int j =>
     cases RelA.str ra;cases RelA.int rb
     exact Ma f s σ H _ _ v u Q I rx ry ⟨_,_,rfl,rfl,h.1,hq _ _ _ _ Kp.refl hc Hc h.2⟩
    | _=>exact False.elim h
   | _=>exact False.elim h
  | _=>exact False.elim h
 | _=>exact False.elim h
def BD:A2:=λx y μ R=>match x,y with
 | .D (.int i),.D (.int j)=>R (.D (.int (i+j))) μ
 | .D (.str i),.D (.str j)=>i.length+j.length<=sizeLine/\R (.D (.str (i++j))) μ
 | .D (.tuple i),.D (.tuple j)=>i.length+j.length<=sizeLine/\R (.D (.tuple (i++j))) μ
 | .R i,.R j=>opt (μ i) λm=>opt (μ j) λn=>match m,n with
  | .lst f,.lst d=>f.length+d.length<=sizeLine/\∀p,μ p=none->R (.R p) (Al μ p (.lst (f++d)))
  | _,_=>False
 | _,_=>False
theorem TR{K:iZ}{P:List (iY×jE)}{σ:St}{H:Hp}{s:iW}{v u:iV}{x y:V}{ds es:List iX}{Q:VK}(hK:X.K=K)(I:Inv X P σ H s)(Y:Bb x v)(ry:Bb y u)(hx:Dk K H (.tuple ds) x)(hy:Dk K H (.tuple es) y)
  (hz:ds.length+es.length<=sizeLine) (q:∀z H',Kp H H'->(∀ μ,Cn K μ H->Cn K μ H')->Dk K H' (.tuple (ds++es)) z->Q z H'):wpAny (model X.prog X.w) X.A (binaryOp .Add v u) (EP X P σ Q) X.xe s:=by
 subst hK
 obtain⟨a,F,rfl,ha,E⟩:=hx.tup
 obtain⟨b,N,rfl,hb,f⟩:=hy.tup
 cases Y
 cases ry
 obtain⟨U,h,O,_⟩:=I.tuple ha.sq
 obtain⟨g,C,D,_⟩:=I.tuple hb.sq
 have i:=E.length
 have l:=f.length
 by_cases hv:F=[]
 ·subst hv
  have e:U=[]:=h.nil_iff.mpr rfl
  subst e
  have B:ds=[]:=dH.mp i.symm
  subst B
  obtain⟨⟨Z,dd,J,sl⟩,L,hc,n,S⟩:=id O
  obtain⟨⟨G,j,data2,W⟩,M,d,n2,R⟩:=id D
  simp only at hc S d R
  subst hc S d R
  exact concat_meets ⟨_,L,rfl⟩ ⟨_,M,rfl⟩ iJ seq_tuple_add fN fI (eV _ _)
   (tuple_addW0 a b [].toArray g.toArray n n2 dd j sl W rfl) ⟨L,M,.ref b,H,I,rfl,q _ _ Kp.refl (λ_ c=>c) (by simpa using hy)⟩
 ·refine HT.cat_tup O D (λz=>hv (h.nil_iff.mp z)) (λz=>⟨.ref a,H,I,rfl,q _ _ Kp.refl (λ_ c=>c) ?_⟩) (λz=>?_) (by rw [<- h.length,<- C.length,i,l];exact hz)
  ·have e:N=[]:=C.nil_iff.mp z
   subst e
   have B:es=[]:=dH.mp l.symm
   subst B
   simpa using hx
  ·have hf:=I.hok.fresh (E_ s.heap.objs.size)
   refine⟨.ref s.heap.objs.size,_,I.laid (t':=s.toks) (o:=.tup (F++N)) (λb ob q=>DD _ q) (E_ _) ?_,rfl,q _ _ (Kp.new hf _) (λ_ c=>c.over hf) ?_⟩
   ·exact⟨by rw [I_,i,l];exact hz,_,h.append C,IsTup.new _ _⟩
   ·exact Jd B2 (Am.kp (Kp.new hf _) _ _ (E.append f))
theorem Ck:VOp X (binaryOp .Add) BD:=by
 intro g s σ H x y v u Q I rx ry zz23
 refine Ee zz23 λa b μ R ra rb hc h hq=>?_
 cases a with
 | D d =>
  cases d with
  | int i =>
   cases b with
   | D e =>
    cases e with
    | int j =>
     cases RelA.int ra;cases RelA.int rb
     exact GY g s σ H _ _ v u Q I rx ry ⟨_,_,rfl,rfl,hq _ _ _ _ Kp.refl hc C5 h⟩
    | _=>exact False.elim h
   | _=>exact False.elim h
  | str z =>
   cases b with
   | D e =>
    cases e with
    | str j =>
     cases RelA.str ra;cases RelA.str rb
     exact Px g s σ H _ _ v u Q I rx ry ⟨_,_,rfl,rfl,h.1,hq _ _ _ _ Kp.refl hc Hc h.2⟩
    | _=>exact False.elim h
   | _=>exact False.elim h
  | tuple M =>
   cases b with
   | D e =>
    cases e with
    | tuple es=>exact TR rfl I rx ry ra rb h.1 λz H' S c F=>hq _ _ _ _ S (c _ hc) (Uj F) h.2
    | _=>exact False.elim h
   | _=>exact False.elim h
  | _=>exact False.elim h
 | R i =>
  cases b with
  | R j =>
   obtain⟨m,C,h⟩:=A0 h
   obtain⟨n,w,h⟩:=A0 h
   cases m with
   | lst J =>
    cases n with
    | lst L =>
     cases (show x=.ref i from ra);cases (show y=.ref j from rb)
     obtain⟨o,A,B,rfl,q⟩:=hc i _ C
     obtain⟨G,l,E,rfl,f⟩:=hc j _ w
     exact HS g s σ H _ _ v u Q I rx ry ⟨i,j,B,E,rfl,rfl,A,l,by rw [<- q.length,<- f.length];exact h.1,λp hp=>hq _ _ _ _ (Kp.new hp _) (hc.new hp (Cv (q.append f))) Dq (h.2 p (hc.none hp))⟩
    | _=>exact False.elim h
   | _=>exact False.elim h
  | _=>exact False.elim h
 | _=>exact False.elim h
def LN:A2:=λx y μ R=>match x,y with
 | .D (.str z),.D (.int i)=>z.length<=sizeLine/\opt (atI z.cps.toList i) λc=>R (.D (.str ⟨#[c]⟩)) μ
 | .D (.tuple f),.D (.int i)=>opt (atI f i) λd=>R (.D d) μ
 | .D (.list f),.D (.int i)=>opt (atI f i) λd=>R (.D d) μ
 | .R a,.D (.int i)=>opt (μ a) λm=>match m with
  | .lst g=>opt (atI g i) λw=>R w μ
  | _=>False
 | _,_=>False
theorem BE{x y:AV}{μ:M}{R:AV->M->Prop}(h:LN x y μ R):∃i,y=.D (.int i):=by
 have f:(∀d,LN (.D d) y μ R->False)->(∀a,LN (.R a) y μ R->False)->False:=λh1 h2=>by
  cases x with
  | D d=>exact h1 d h
  | R a=>exact h2 a h
  | _=>exact h
 cases y with
 | D e =>
  cases e with
  | int i=>exact⟨i,rfl⟩
  | _=>exact(f (λd q=>by cases d <;> exact q) λa q=>q).elim
 | _=>exact(f (λd q=>by cases d <;> exact q) λa q=>q).elim
theorem Ce:VIx X LN:=by
 intro g f q s σ H x y v u Q I rx ry zq hs
 refine Ee zq λa b μ R ra rb hc h hq=>?_
 obtain⟨i,rfl⟩:=BE h
 cases RelA.int rb
 cases a with
 | D d =>
  cases d with
  | str z =>
   cases RelA.str ra
   obtain⟨h1,h⟩:=h
   obtain⟨c,e,h⟩:=A0 h
   exact HP g f q s σ H _ _ v u Q I rx ry ⟨_,_,_,rfl,rfl,h1,e,hq _ _ _ _ Kp.refl hc Hc h⟩ hs
  | tuple C =>
   obtain⟨d,A,h⟩:=A0 h
   obtain⟨p,B,rfl,hp,l⟩:=RelA.tup ra
   obtain⟨z,j,n⟩:=l.atI A
   exact HN g f q s σ H _ _ v u Q I rx ry ⟨_,_,_,_,rfl,rfl,hp.sq,j,hq _ _ _ _ Kp.refl hc (Uj n) h⟩ hs
  | list C =>
   obtain⟨d,A,h⟩:=A0 h
   obtain⟨p,B,rfl,hp,l⟩:=RelA.lst ra
   obtain⟨z,j,n⟩:=l.atI A
   exact Rx g f q s σ H _ _ v u Q I rx ry ⟨_,_,_,_,rfl,rfl,hp.sq,j,hq _ _ _ _ Kp.refl hc (Uj n) h⟩ hs
  | _=>exact False.elim h
 | R a =>
  obtain⟨m,G,h⟩:=A0 h
  cases m with
  | lst J =>
   obtain⟨w,E,h⟩:=A0 h
   obtain⟨o,F,B,rfl,l⟩:=hc _ _ G
   cases (show x=.ref _ from ra)
   obtain⟨z,j,n⟩:=l.atI E
   exact Rx g f q s σ H _ _ v u Q I rx ry ⟨_,_,_,_,rfl,rfl,E8.of F,j,hq _ _ _ _ Kp.refl hc n h⟩ hs
  | _=>exact False.elim h
 | _=>exact False.elim h
theorem Bj{r:A2}(d:VIx X r)(ha:VE X a ta)(hb:VE X b tb)(hs:Rw b:=by intro _ _;rfl):VE X (.Subscript a b pos) (Vs r ta tb):=(ND d ha hb hs).imp λ_ _ _ h=>Me h
def R5:AO:=λ_ μ R=>R none μ
def ET(t:AE):AO:=fun τ μ R=>t τ μ λx μ1=>match x with
 | .D (.int i)=>R (some i) μ1
 | _=>False
theorem D3:VO X none R5:=Zz.imp fun σ H Q zz24=>Ca zz24 fun τ μ R hs hc h hq=>hq _ _ _ Kp.refl hc h
theorem Cd(h:VE X a ta):VO X (some a) (ET ta):=(Z0 h).imp fun σ H Q zz25=>Ca zz25 fun τ μ R d hc h hq=>⟨τ,μ,_,d,hc,h,λx μ1 v H1 S1 c1 rx hx=>by
 split at hx
 ·cases RelA.int rx
  exact⟨_,rfl,hq _ _ _ S1 c1 hx⟩
 ·exact hx.elim⟩
def TU(x:AV)(lo d:Option Int):M->(AV->M->Prop)->Prop:=fun μ R=>match x with
 | .D (.str z)=>z.length<=sizeLine/\R (.D (.str (Txt.slice z lo d))) μ
 | .D (.tuple g)=>R (.D (.tuple (Wo g lo d))) μ
 | .C _=>False
 | x=>opt (items μ x) λf=>∀p,μ p=none->R (.R p) (Al μ p (.lst (Mb f lo d)))
def WL(K:iZ):V->Option Int->Option Int->Hp->VK->Prop:=λx lo d H Q=>∃a μ R,RelA K H a x/\Cn K μ H/\TU a lo d μ R/\LV K H R Q
theorem TV:NB X (WL X.K):=by
 intro i s σ H x v vl vu lo hi sl Q I rx hs pl pu ⟨a,μ,R,g,hc,h,hq⟩
 unfold TU at h
 split at h
 ·cases RelA.str g
  exact HZ i s σ H _ v vl vu lo hi sl Q I rx hs pl pu ⟨_,rfl,h.1,hq _ _ _ _ Kp.refl hc Hc h.2⟩
 ·rename_i f
  by_cases l:HT.sIx f.length 0 lo=0/\HT.sIx f.length f.length hi=f.length
  ·obtain⟨a,j,rfl,ha,hx⟩:=RelA.tup g
   cases rx
   obtain⟨y,r,d,hz⟩:=I.tuple ha.sq
   have z:y.toArray.size=f.length:=by rw [XS,<- r.length,hx.length]
   refine⟨"tuple",_,ZT.lookup,d.typeIs,?_⟩
   refine HT.getItem_tuple_all d hs pl pu (by rw [z];exact l) ⟨.ref a,H,I,rfl,hq _ _ _ _ Kp.refl hc ?_ h⟩
   rw [Wq l]
   exact g
  ·obtain⟨a,j,rfl,ha,hx⟩:=RelA.tup g
   refine HK i s σ H (.ref a) v vl vu lo hi sl Q I rx hs pl pu ⟨a,j,rfl,ha.sq,by rw [hx.length];exact l,λp hp=>?_⟩
   exact hq _ _ _ _ (Kp.new hp _) (hc.over hp) (Wr B2 (Am.kp (Kp.new hp _) _ _ (hx.cut lo hi))) h
 ·exact h.elim
 ·rename_i A q w
  obtain⟨j,n,h⟩:=A0 h
  ·obtain⟨p,B,rfl,hp,u⟩:=Cw hc g n
   rcases hp with⟨_,hp⟩ | ⟨d,hp⟩
   ·exact Z7 i s σ H _ v vl vu lo hi sl Q I rx hs pl pu ⟨_,_,rfl,hp,λp hp=>hq _ _ _ _ (Kp.new hp _) (hc.new hp (Cv (u.cut lo hi))) Dq (h p (hc.none hp))⟩
   ·exfalso
    unfold LL at d
    split at d
    ·exact q _ rfl
    ·exact w _ rfl
    ·cases d
def VC(te:AE)(d f:AO):AE:=fun τ μ R=>te τ μ λx μ1=>d τ μ1 λl μ2=>f τ μ2 λu μ3=>TU x l u μ3 R
theorem Cf{lo j:Option jB}{g i:AO}{n:Pos}(he:VE X a ta)(f:VO X lo g)(hu:VO X j i):VE X (.Subscript a (.Slice lo j none n) pos) (VC ta g i) :=
 (V9 TV he f hu).imp fun σ H Q zz26=>Ca zz26 fun τ μ R d hc h hq=>⟨τ,μ,_,d,hc,h,λx μ1 v H1 S1 q rx hx=>⟨τ,μ1,_,d.kp S1,q,hx,λl μ2 H2 S2 c2 f=>⟨τ,μ2,_,d.kp (S1.trans S2),c2,f,λu μ3 H3 S3 s hu =>
  ⟨x,μ3,R,rx.kp (S2.trans S3),s,hu,hq.kp (S1.trans (S2.trans S3))⟩⟩⟩⟩
def TW(r:AC)(t:AA):AE:=fun τ μ R=>t τ μ λd μ1=>r d μ1 R
theorem R6{K:iZ}{n:Nat}{r:AC}{t:AA}{σ:St}{H:Hp}{Q:VK}(h:cE K (TW r t) σ H Q):ST (cC K r) (cA K n t) σ H Q:=by
 obtain⟨τ,μ,R,d,hc,h,hq⟩:=h
 exact⟨τ,μ,_,d,hc,h,λi μ1 vs H1 S1 g f hl hx=>⟨i,μ1,R,f,g,hx,hq.kp S1⟩⟩
theorem A8(hc:VCall X (.builtin iq) r)(d:Gl X x)(g:X.mg x=none)(hv:bootBuiltins x=some (.builtin iq))(ha:VA X (e :: es) t)(hn:x ≠ "__name__" := by decide) (f:(x==("__debug__" : Str))=false:=by decide)
  (i:starEach (e :: es) X.env=(false,eval e X.env) :: starEach es X.env:=by rfl) (hpl:(backTo pos (starEach es X.env)).any (·.1)=false:=by rfl):VE X (.Call (.Name x p) (e :: es) [] pos) (TW r t) :=
 (V7 hc d g hv ha hn f i hpl).imp λ_ _ _ h=>R6 h
theorem Ci(hc:VCall X (.type T) r)(d:Gl X x)(g:X.mg x=none)(hv:bootBuiltins x=some (.type T))(ha:VA X (e :: es) t)(hn:x ≠ "__name__" := by decide) (f:(x==("__debug__" : Str))=false:=by decide)
  (i:starEach (e :: es) X.env=(false,eval e X.env) :: starEach es X.env:=by rfl) (hpl:(backTo pos (starEach es X.env)).any (·.1)=false:=by rfl):VE X (.Call (.Name x p) (e :: es) [] pos) (TW r t) :=
 (Ua hc d g hv ha hn f i hpl).imp λ_ _ _ h=>R6 h
def NV:AC:=λh μ R=>match h with
 | [.D (.str z)]=>z.length<=sizeLine/\R (.D (.int z.length)) μ
 | [.D (.tuple d)]=>R (.D (.int d.length)) μ
 | [.D (.list d)]=>R (.D (.int d.length)) μ
 | [.R a]=>opt (μ a) λm=>match m with
  | .lst g=>R (.D (.int g.length)) μ
  | .dk f=>R (.D (.int f.length)) μ
  | _=>False
 | _=>False
theorem D4:VCall X (.builtin "len") NV:=by
 intro i s σ H xs us Q I r zz27
 refine Ca zz27 λF μ R ra hc h hq=>?_
 have A:∀{y:AV} {t:List AV} {x:AV},NV (x :: y :: t) μ R->False:=λ{y t x} q=>by
  cases x with
  | D d=>cases d <;> exact q
  | _=>exact q
 cases ra with
 | nil=>exact False.elim h
 | @cons x v G E j u =>
  cases u with
  | cons _ _=>exact(A h).elim
  | nil =>
   cases x with
   | D d =>
    cases d with
    | str z =>
     cases RelA.str j
     exact L6 i s σ H _ us Q I r ⟨_,rfl,h.1,hq _ _ _ _ Kp.refl hc C5 h.2⟩
    | tuple B =>
     obtain⟨p,g,rfl,hp,f⟩:=RelA.tup j
     refine Et i s σ H _ us Q I r ⟨p,g,rfl,.inr hp.sq,hq _ _ _ _ Kp.refl hc ?_ h⟩
     rw [f.length];exact C5
    | list B =>
     obtain⟨p,g,rfl,hp,f⟩:=RelA.lst j
     refine Et i s σ H _ us Q I r ⟨p,g,rfl,.inl hp.sq,hq _ _ _ _ Kp.refl hc ?_ h⟩
     rw [f.length];exact C5
    | _=>exact False.elim h
   | R a =>
    obtain⟨m,w,h⟩:=A0 h
    cases (show _=V.ref _ from j)
    obtain⟨o,n,l⟩:=hc _ _ w
    cases m with
    | lst J =>
     obtain⟨g,rfl,f⟩:=l
     refine Et i s σ H _ us Q I r ⟨_,g,rfl,.inl (E8.of n),hq _ _ _ _ Kp.refl hc ?_ h⟩
     rw [f.length];exact C5
    | dk C =>
     obtain⟨g,rfl,f⟩:=l
     refine Uh i s σ H _ us Q I r ⟨_,g,rfl,n,hq _ _ _ _ Kp.refl hc ?_ h⟩
     rw [aB f];exact C5
    | _=>exact False.elim h
   | _=>exact False.elim h
def Mh:AC:=λg μ R=>match g with
 | [.D (.tuple d)]=>R (.D (.tuple d)) μ
 | [.C _]=>False
 | [y]=>opt (items μ y) λf=>opt (dats f) λd=>R (.D (.tuple d)) μ
 | _=>False
theorem Qf{x:AV}{t:List AV}{μ:M}{R:AV->M->Prop}(h:Mh (x :: t) μ R):t=[]:=by
 cases t with
 | nil=>rfl
 | cons y t =>
  refine False.elim ?_
  cases x with
  | D d=>cases d <;> exact h
  | _=>exact h
theorem Um{x:AV}{μ:M}{R:AV->M->Prop}(f:LL x=false)(h:Mh [x] μ R):opt (items μ x) λi=>opt (dats i) λg=>R (.D (.tuple g)) μ:=by
 cases x with
 | D d=>cases d <;> first | exact h | cases f
 | C g=>cases f
 | _=>exact h
theorem Wx{x:AV}{μ:M}{R:AV->M->Prop}(g:LL x=true)(h:Mh [x] μ R):∃f,x=.D (.tuple f)/\R (.D (.tuple f)) μ:=by
 cases x with
 | D d =>
  cases d with
  | tuple f=>exact⟨f,rfl,h⟩
  | _=>cases g
 | C f=>exact False.elim h
 | _=>cases g
theorem D5:VCall X (.type "tuple") Mh:=by
 intro j s σ H xs us Q I r zz28
 refine Ca zz28 λD μ R ra hc h hq=>?_
 cases ra with
 | nil=>exact False.elim h
 | @cons y v z w f B =>
  have hn:=Qf h
  subst hn
  cases B
  cases ht:LL y with
  | true =>
   obtain⟨q,rfl,h⟩:=Wx ht h
   obtain⟨p,g,rfl,hp,i⟩:=RelA.tup f
   exact Ft j s σ H _ us Q I r ⟨p,g,rfl,.inr ⟨hp.sq,hq _ _ _ _ Kp.refl hc f h⟩⟩
  | false =>
   obtain⟨C,A,h⟩:=A0 (Um ht h)
   obtain⟨q,u,h⟩:=A0 h
   obtain⟨p,g,rfl,hp,i⟩:=Cw hc f A
   rcases hp with⟨_,hp⟩ | ⟨n,_⟩
   ·exact Ft j s σ H _ us Q I r ⟨p,g,rfl,.inl ⟨hp,λl d=>hq _ _ _ _ (Kp.new d _) (hc.over d) (Wr B2 (Am.kp (Kp.new d _) _ _ (i.dats u))) h⟩⟩
   ·rw [ht]at n;cases n
def bools:List AV->Option (List Bool)
 | []=>some []
 | .D (.bool b) :: r=>match bools r with
  | some d=>some (b :: d)
  | none=>none
 | _ :: _=>none
def WM:AC:=λg μ R=>match g with
 | [.R a]=>opt (μ a) λm=>match m with
  | .lst d=>opt (bools d) λf=>R (.D (.bool (f.all id))) μ
  | _=>False
 | _=>False
def EU:AC:=λd μ R=>match d with
 | [.D (.int i),.D (.int j)]=>R (.D (.int (if j > i then j else i))) μ
 | _=>False
def EV:AC:=λd μ R=>match d with
 | [.D (.int i),.D (.int j)]=>R (.D (.int (if j < i then j else i))) μ
 | _=>False
theorem Wy(j:X.calm=true):VCall X (.builtin "max") EU:=by
 intro i s σ H xs us Q I r zz31
 refine Ca zz31 λl μ R ra hc h hq=>?_
 unfold EU at h
 split at h
 ·cases ra with
  | cons g d =>
   cases d with
   | cons d f =>
    cases f
    cases RelA.int g;cases RelA.int d
    exact T7 j i s σ H _ us Q I r ⟨_,_,rfl,hq _ _ _ _ Kp.refl hc C5 h⟩
 ·exact h.elim
theorem II(j:X.calm=true):VCall X (.builtin "min") EV:=by
 intro i s σ H xs us Q I r zz32
 refine Ca zz32 λl μ R ra hc h hq=>?_
 unfold EV at h
 split at h
 ·cases ra with
  | cons g d =>
   cases d with
   | cons d f =>
    cases f
    cases RelA.int g;cases RelA.int d
    exact T8 j i s σ H _ us Q I r ⟨_,_,rfl,hq _ _ _ _ Kp.refl hc C5 h⟩
 ·exact h.elim
def N4(μ:M):AV->Prop
 | .R a=>opt (μ a) λm=>match m with
  | .lst _=>True
  | _=>False
 | .D (.list _)=>True
 | _=>False
def EW:AV->Prop
 | .D (.str _)=>True
 | _=>False
theorem N4.ty{H:Hp}{μ:M}{x:AV}{v:V}(hc:Cn X.K μ H)(d:RelA X.K H x v)(h:N4 μ x):RU X.K "list" v H:=by
 unfold N4 at h
 split at h
 ·obtain⟨m,e,h⟩:=A0 h
  split at h
  ·obtain⟨o,f,g,rfl,_⟩:=hc _ _ e
   cases (show v=.ref _ from d)
   exact .inl ⟨rfl,g,E8.of f⟩
  ·exact h.elim
 ·obtain⟨a,i,rfl,q,_⟩:=RelA.lst d
  exact .inl ⟨rfl,i,q.sq⟩
 ·exact h.elim
def TX(m:AV->AC)(to:AE):AE:=fun τ μ R=>to τ μ λx μ1=>N4 μ1 x/\m x [] μ1 R
def VD(m:AV->AC)(to:AE)(t:AA):AE:=fun τ μ R=>to τ μ λx μ1=>N4 μ1 x/\t τ μ1 λd μ2=>m x d μ2 R
def WN(m:AV->AC)(to:AE)(t:AA):AE:=fun τ μ R=>to τ μ λx μ1=>EW x/\t τ μ1 λd μ2=>m x d μ2 R
theorem Wz(slot:Slot "list" name iq) (i:typeOf (.builtin iq)=pure (.type "method_descriptor")) (n:VMt X iq m) (g:VE X o to)
  (q:attributeBase o name X.env (eval o X.env)=eval o X.env:=by rfl) (j:(aq.endLine==aj.line)=true:=by rfl):VE X (.Call (.Attribute o name aq) [] [] aj) (TX m to) :=
 (Qa PySem.F.plainAttrs_list slot i n g q j).imp fun σ H Q zz33=>Ca zz33 fun τ μ R l hc h hq=>⟨τ,μ,_,l,hc,h,λx μ1 v H1 S1 f d hx=>⟨hx.1.ty f d,x,[],μ1,R,d,.nil,f,hx.2,hq.kp S1⟩⟩
theorem Db(slot:Slot "list" name iq) (s:typeOf (.builtin iq)=pure (.type "method_descriptor")) (g:VMt X iq m) (q:VE X o to) (ha:VA X (e :: es) t)
  (w:attributeBase o name X.env (eval o X.env)=eval o X.env:=by rfl)
  (f:((backTo aj (starEach (e :: es) X.env)).all (λx=>!x.1) && (backToKw aj (keywordEach [] X.env)).all (λx=>x.1.isSome)
   && decide ((e :: es).length+([]:List Keyword).length+(if([]:List Keyword).isEmpty then 0 else 1) < 30))=true:=by rfl)
  (u:(aq.endLine==aj.line)=true:=by rfl) (hs:starEach (e :: es) X.env=(false,eval e X.env) :: starEach es X.env:=by rfl) (n:(backTo aj (starEach es X.env)).any (·.1)=false:=by rfl) :
  VE X (.Call (.Attribute o name aq) (e :: es) [] aj) (VD m to t) :=
 (EM PySem.F.plainAttrs_list slot s g q ha w f u hs n).imp fun σ H Q zz34=>Ca zz34 fun τ μ R hs hc h hq=>⟨τ,μ,_,hs,hc,h,λx μ1 v H1 S1 d rx hx=>⟨hx.1.ty d rx,τ,μ1,_,hs.kp S1,d,hx.2,λl μ2 vs H2 S2 c2 i hl j =>
  ⟨x,l,μ2,R,rx.kp S2,i,c2,j,hq.kp (S1.trans S2)⟩⟩⟩
theorem NW(slot:Slot "str" name iq) (q:typeOf (.builtin iq)=pure (.type "method_descriptor")) (f:VMt X iq m) (n:VE X o to) (ha:VA X (e :: es) t)
  (u:attributeBase o name X.env (eval o X.env)=eval o X.env:=by rfl)
  (d:((backTo aj (starEach (e :: es) X.env)).all (λx=>!x.1) && (backToKw aj (keywordEach [] X.env)).all (λx=>x.1.isSome)
   && decide ((e :: es).length+([]:List Keyword).length+(if([]:List Keyword).isEmpty then 0 else 1) < 30))=true:=by rfl)
  (s:(aq.endLine==aj.line)=true:=by rfl) (hs:starEach (e :: es) X.env=(false,eval e X.env) :: starEach es X.env:=by rfl) (l:(backTo aj (starEach es X.env)).any (·.1)=false:=by rfl) :
  VE X (.Call (.Attribute o name aq) (e :: es) [] aj) (WN m to t) :=
 (EM PySem.F.plainAttrs_str slot q f n ha u d s hs l).imp fun σ H Q zz35=>Ca zz35 fun τ μ R hs hc h hq=>⟨τ,μ,_,hs,hc,h,λx μ1 v H1 S1 w rx hx=>⟨by
   obtain⟨hx,_⟩:=hx
   unfold EW at hx
   split at hx
   ·cases RelA.str rx;rfl
   ·exact hx.elim,τ,μ1,_,hs.kp S1,w,hx.2,λj μ2 vs H2 S2 c2 g hl i =>
  ⟨x,j,μ2,R,rx.kp S2,g,c2,i,hq.kp (S1.trans S2)⟩⟩⟩
def Mi:AV->AC:=λx f μ R=>match x,f with
 | .R a,[y]=>opt (μ a) λm=>match m with
  | .lst d=>d.length < sizeLine/\R (.D .none) (Al μ a (.lst (d++[y])))
  | _=>False
 | _,_=>False
theorem Cr:VMt X "list.append" Mi:=by
 intro g s σ H x xs v us Q I rx r zz36
 refine Ee zz36 λa q μ R ra rs hc h hq=>?_
 unfold Mi at h
 split at h
 ·rename_i a y
  obtain⟨m,l,h⟩:=A0 h
  split at h
  ·cases rs with
   | cons i n =>
    cases n
    obtain⟨o,d,j,rfl,f⟩:=hc _ _ l
    cases (show x=.ref a from ra)
    exact Kx g s σ H _ _ v us Q I rx r ⟨a,j,_,rfl,rfl,d,by rw [<- f.length];exact h.1,hq _ _ _ _ (Kp.put d trivial _) (hc.put d trivial (Cv (f.append (.cons i .nil)))) Jf h.2⟩
  ·exact h.elim
 ·exact h.elim
def R7:AV->AC:=λx g μ R=>match x,g with
 | .R a,[.R b]=>opt (μ a) λm=>opt (μ b) λn=>match m,n with
  | .lst d,.lst f=>d.length+f.length<=sizeLine/\R (.D .none) (Al μ a (.lst (d++f)))
  | _,_=>False
 | _,_=>False
theorem Ek:VMt X "list.extend" R7:=by
 intro l s σ H x xs v us Q I rx r zz37
 refine Ee zz37 λa B μ R ra rs hc h hq=>?_
 unfold R7 at h
 split at h
 ·rename_i a b
  obtain⟨m,y,h⟩:=A0 h
  obtain⟨n,j,h⟩:=A0 h
  split at h
  ·cases rs with
   | cons u z =>
    cases z
    obtain⟨o,f,w,rfl,i⟩:=hc _ _ y
    obtain⟨A,g,q,rfl,d⟩:=hc _ _ j
    cases (show x=.ref a from ra)
    cases (show _=V.ref b from u)
    exact Ub l s σ H _ _ v us Q I rx r ⟨a,b,w,q,rfl,rfl,f,g,by rw [<- i.length,<- d.length];exact h.1,hq _ _ _ _ (Kp.put f trivial _) (hc.put f trivial (Cv (i.append d))) Jf h.2⟩
  ·exact h.elim
 ·exact h.elim
def NX:AV->AC:=λx f μ R=>match x,f with
 | .R a,[]=>opt (μ a) λm=>match m with
  | .lst d=>opt d[d.length - 1]? λy=>R y (Al μ a (.lst d.dropLast))
  | _=>False
 | _,_=>False
theorem NY:VMt X "list.pop" NX:=by
 intro n s σ H x xs v us Q I rx r zz38
 refine Ee zz38 λa u μ R ra rs hc h hq=>?_
 unfold NX at h
 split at h
 ·rename_i a
  obtain⟨m,q,h⟩:=A0 h
  split at h
  ·obtain⟨y,i,h⟩:=A0 h
   ·cases rs
    obtain⟨o,d,l,rfl,f⟩:=hc _ _ q
    cases (show x=.ref a from ra)
    obtain⟨z,j,g⟩:=f.get i
    exact HQ n s σ H _ _ v us Q I rx r ⟨a,l,z,rfl,rfl,d,by rw [<- f.length];exact j,hq _ _ _ _ (Kp.put d trivial _) (hc.put d trivial (Cv (f.dropLast))) (g.kp (Kp.put d trivial _)) h⟩
  ·exact h.elim
 ·exact h.elim
end
section
variable {X:Cx}{a b c:jB}{ta tb tc:AE}{pos:Pos}{x:Str}{p:Pos}{e:jB}{es:List jB}{t:AA}{k:Nat}{ps:List Str}{sp:ASp}{st:jF}{rest:List jF}{s1 s2:AS}{tg:jB}{N':List Str}{mp:List (Option Nat)}{fw iter:jB}{d4:List jB}{scope:jI}{wi:AI}{g:AG}{tst:AT}{te:AE}{P:i_}{w:jA}{K:iZ}{mg:Str->Option iV}{base:jD}
abbrev ASp:=List AV->M->(AV->M->Prop)->Prop
def Hw(K:iZ)(n:Nat)(sp:ASp):Sp:=λf H Q _=>∃d μ R,d.length=n/\Au K H d f/\Cn K μ H/\sp d μ R/\LV K H R Q
def VCal(P:i_)(w:jA)(K:iZ)(mg:Str->Option iV)(base:jD)(k:Nat)(x:Str)(ps:List Str)(sp:ASp):Prop:=Cal P w K mg base k x ps (Hw K ps.length sp)
def NZ(n:Nat)(sp:ASp)(t:AA):AE:=fun τ μ R=>t τ μ λd μ1=>sp d μ1 R
theorem An(F:VCal X.prog X.w X.K X.mg X.base k x ps sp)(d:Room k X.A)(f:Gl X x)(ha:VA X (e :: es) t)(n:(e :: es).length=ps.length:=by rfl)(hdb:(x==("__debug__" : Str))=false:=by decide)
  (j:starEach (e :: es) X.env=(false,eval e X.env) :: starEach es X.env:=by rfl) (hpl:(backTo pos (starEach es X.env)).any (·.1)=false:=by rfl):VE X (.Call (.Name x p) (e :: es) [] pos) (NZ ps.length sp t):=by
 obtain⟨g,s,G,m,o,q⟩:=F
 refine PE.imp (Zx (E:=E0) G d f q o m .nil NK ha (hdb:=hdb) (he:=j) (hpl:=hpl)) fun σ H Q zz41=>Ca zz41 fun τ μ R i hc h hq=>?_
 exact⟨τ,μ,_,i,hc,h,λl μ1 vs H1 S1 r rs hn hx=>⟨l,μ1,R,hn.trans n,by rw [aG];exact rs,r,hx,hq.kp S1⟩⟩
def OA:AS:=λk _ _ _ τ μ=>k τ μ
def N5(t u:AS):AS:=λk r b c τ μ=>t (u k r b c) r b c τ μ
theorem Cs:VSs X [] OA:=Zn.imp λD σ H zz43=>G7 zz43 fun τ μ nk nr nb nc hs hc h hq=>hq.nx _ _ _ _ Kp.refl hs hc h
theorem Af(h1:VS X st s1)(h2:VSs X rest s2):VSs X (st :: rest) (N5 s1 s2):=(Vx h1 h2).imp λD σ H zz44=>G7 zz44 fun τ μ m nr l i j hc h hq =>
 ⟨τ,μ,_,_,_,_,j,hc,h,⟨fun τ' μ' σ' H' S' d n f=>⟨τ',μ',m,nr,l,i,d,n,f,hq.kp S'⟩,hq.rt,hq.bk,hq.ct⟩⟩
theorem Ai(h1:VS X st s1):VSs X [st] s1:=Zo h1
def EX(te:AE):AS:=λk _ _ _ τ μ=>te τ μ λ_ μ1=>k τ μ1
theorem Bk(he:VE X a ta)(hs:swapsWith a none pos.line X.env=pure false:=by rfl):VS X (.Expr a pos) (EX ta):=(Zp he hs).imp λD σ H zz48=>G7 zz48 fun τ μ nk nr nb nc hs hc h hq =>
 ⟨τ,μ,_,hs,hc,h,λx μ1 v H1 S1 c1 rx hx=>hq.nx _ _ _ _ S1 (hs.kp S1) c1 hx⟩
def TY(te:AE):AS:=λ_ r _ _ τ μ=>te τ μ r
theorem Be(he:VE X a ta):VS X (.Return (some a) pos) (TY ta):=(GU he).imp λD σ H zz49=>G7 zz49 fun τ μ nk nr nb nc d hc h hq=>⟨τ,μ,_,d,hc,h,hq.rt⟩
def TZ(ct:AT)(t u:AS):AS:=λk r b c τ μ=>ct τ μ λx μ1=>brP x (t k r b c τ μ1) (u k r b c τ μ1)
theorem D6{c:jB}{a b:List jF}{tc:AT}(hc:VT X c tc)(ha:VSs X a s1)(hb:VSs X b s2):VS X (.If c a b pos) (TZ tc s1 s2):=(MN hc ha hb).imp λD σ H zz51=>G7 zz51 fun τ μ j nr l i f hc h hq =>
 ⟨τ,μ,_,f,hc,h,λk μ1 H1 S1 m hk=>by
  rcases br_e hk with⟨rfl,d⟩ | ⟨rfl,d⟩
  ·exact⟨τ,μ1,j,nr,l,i,f.kp S1,m,d,hq.kp S1⟩
  ·exact⟨τ,μ1,j,nr,l,i,f.kp S1,m,d,hq.kp S1⟩⟩
def Dc(i:Nat):AG:=λv τ μ R=>R (τ.set i (some v)) μ
theorem Aj{i:Nat}{x:Str}(d:X.N.Nodup)(f:X.N[i]?=some x)(hx:Loc X.env.scope x)(hf:X.fn x=true\/X.env.scope.names.lookup x=some .local:=by first | exact .inl rfl | exact .inr rfl | assumption):VG X (.Name x pos) (Dc i) :=
 (Zq d f hx hf).imp λv σ H Q zz54=>Ee zz54 λx τ μ R rx hs hc h hq=>hq _ _ _ _ Kp.refl (hs.set rx i) hc h
def Uo:AGs:=λd τ μ R=>match d with
 | []=>R τ μ
 | _ :: _=>False
def Ey(t:AG)(u:AGs):AGs:=λd τ μ R=>match d with
 | []=>False
 | v :: r=>t v τ μ fun τ' μ'=>u r τ' μ' R
theorem B8:VGs X [] Uo:=Zr.imp λd σ H Q zz55=>Ee zz55 λf τ μ R rx hs hc h hq=>by
 cases rx with
 | nil=>exact⟨rfl,hq _ _ _ _ Kp.refl hs hc h⟩
 | cons=>exact h.elim
theorem Ap{e:jB}{es:List jB}{t:AG}{u:AGs}(h1:VG X e t)(h2:VGs X es u)
  (hs:(assignEach (e :: es) X.env).map (·.2)=assign e X.env :: (assignEach es X.env).map (·.2):=by rfl):VGs X (e :: es) (Ey t u):=(Vz h1 h2 hs).imp λn σ H Q zz56=>Ee zz56 λm τ μ R rx hs hc h hq=>by
 cases rx with
 | nil=>exact h.elim
 | cons j l=>exact⟨_,_,rfl,_,τ,μ,_,j,hs,hc,h,fun τ' μ' σ' H' S' i f d=>⟨_,τ',μ',R,Au.kp S' l,i,f,d,hq.kp S'⟩⟩
def OB(n:Nat)(t:AGs):AG:=λv τ μ R=>match v with
 | .D (.tuple d)=>d.length=n/\t (d.map .D) τ μ R
 | _=>False
theorem Dh{es:List jB}{k:Nat}{t:AGs}{n:Nat}(i:X.calm=true)(h:VGs X es t)
  (hn:(assignEach es X.env).length=n:=by rfl) (f:(assignEach es X.env).findIdx? (·.1)=none:=by rfl):VG X (.Tuple es k pos) (OB n t):=(Ps i h hn f).imp λv σ H Q zz57=>Ee zz57 λx τ μ R rx d hc h hq=>by
 unfold OB at h
 split at h
 ·obtain⟨a,j,rfl,q,r⟩:=RelA.tup rx
  exact⟨a,j,rfl,q.sq,by rw [r.length];exact h.1,_,τ,μ,R,r.rel,d,hc,h.2,hq⟩
 ·exact h.elim
def WO(o i v:AV)(μ:M)(R:M->Prop):Prop:=match o,i with
 | .R a,.D (.int k)=>opt (μ a) λm=>match m with
  | .lst d=>opt (Z1 d.length k) λj=>R (Al μ a (.lst (d.set j v)))
  | _=>False
 | _,_=>False
def Qg(te:AE)(g:AG):AS:=λk _ _ _ τ μ=>te τ μ λx μ1=>g x τ μ1 k
theorem W0{K:iZ}{te:AE}{g:AG}{D:Ends}{σ:St}{H:Hp}(h:cS K (Qg te g) D σ H):Zs (cE K te) (cG K g) D σ H:=by
 obtain⟨τ,μ,m,nr,l,j,d,hc,h,hq⟩:=h
 exact⟨τ,μ,_,d,hc,h,λx μ1 v H1 S1 i f hx=>⟨x,τ,μ1,_,f,d.kp S1,i,hx,hq.nx.kp S1⟩⟩
theorem IJ{tg:jB}{g:AG}(he:VE X a ta)(d:VG X tg g)(hs:swapsWithSole [tg] a pos.line X.env=pure false:=by rfl)(f:swappedStores [tg] a X.env=pure none:=by rfl)
  (h1:(assignEach [tg] X.env).map (·.2)=[assign tg X.env]:=by rfl):VS X (.Assign [tg] a pos) (Qg ta g):=(V0 he d hs f h1).imp λ_ _ _ h=>W0 h
theorem Aq{i:Nat}{x:Str}{d:Pos}(j:X.N.Nodup)(f:X.N[i]?=some x)(hx:Loc X.env.scope x)(he:VE X a ta)(hs:swapsWith a (some (.Name x d)) pos.line X.env=pure false:=by rfl)(hf:X.fn x=true\/X.env.scope.names.lookup x=some .local:=by first | exact .inl rfl | exact .inr rfl | assumption) :
  VS X (.Assign [.Name x d] a pos) (Qg ta (Dc i)):=(GV j f hx he hs hf).imp λD σ H zz59=>G7 zz59 fun τ μ nk nr nb nc hs hc h hq =>
 ⟨τ,μ,_,hs,hc,h,λx μ1 v H1 S1 c1 rx hx=>hq.nx _ _ _ _ S1 ((hs.kp S1).set rx i) c1 hx⟩
def WP(i j:Nat)(t:AA):AS:=λk _ _ _ τ μ=>t τ μ λd μ1=>match d with
 | [v,w]=>k ((τ.set i (some v)).set j (some w)) μ1
 | _=>False
def OC(i j l:Nat)(t:AA):AS:=λk _ _ _ τ μ=>t τ μ λd μ1=>match d with
 | [u,v,w]=>k (((τ.set i (some u)).set j (some v)).set l (some w)) μ1
 | _=>False
theorem BF{i j l:Nat}{x y z:Str}{t:AA}{m f n o:Pos}{kt k2 ju}(hc:X.calm=true)(B:X.N.Nodup)(E:X.N[i]?=some x)(hj:X.N[j]?=some y)(s:X.N[l]?=some z)(A:i≠j)(u:i≠l)(q:j≠l)
  (hx:X.env.scope.names.lookup x=some .local) (hy:X.env.scope.names.lookup y=some .local) (hz:X.env.scope.names.lookup z=some .local) (ha:VA X [a,b,c] t)
  (F:swappedStores [.Tuple [.Name x m,.Name y f,.Name z n] kt o] (.Tuple [a,b,c] k2 ju) X.env=pure (some [x,y,z]))
  (hs:swapsWithSole [.Tuple [.Name x m,.Name y f,.Name z n] kt o] (.Tuple [a,b,c] k2 ju) pos.line X.env=pure false:=by rfl) :
  VS X (.Assign [.Tuple [.Name x m,.Name y f,.Name z n] kt o] (.Tuple [a,b,c] k2 ju) pos) (OC i j l t):=(AU hc B E hj s A u q hx hy hz ha F hs).imp λD σ H zz61=>G7 zz61 fun τ μ nk nr nb nc hs hc h hq =>
 ⟨τ,μ,_,hs,hc,h,λG μ1 vs H1 S1 c1 rs s hx=>by
  split at hx
  ·cases rs with
   | cons v r =>
    cases r with
    | cons r d =>
     cases d with
     | cons d C =>
      cases C
      exact⟨_,_,_,rfl,hq.nx _ _ _ _ S1 ((((hs.kp S1).set v i).set r j).set d l) c1 hx⟩
  ·exact hx.elim⟩
def wl(c:AT)(tb:AS)(k:ASt->M->Prop)(r:AV->M->Prop):Nat->ASt->M->Prop
 | 0=>λ_ _=>False
 | n+1=>fun τ μ=>c τ μ λx μ1=>brP x (tb (wl c tb k r n) r k (wl c tb k r n) τ μ1) (k τ μ1)
def IK(c:AT)(tb:AS):AS:=λk r _ _ τ μ=>∃n,wl c tb k r n τ μ
theorem N6{c:jB}{d:List jF}{tc:AT}{tb:AS}(hp:PassesOwn (model X.prog X.w) X.A X.env X.xe)(hc:VT X c tc)(hb:VSs X d tb):VS X (.While c d [] pos) (IK tc tb):=(V1 hp hc hb).imp λD σ H zw=>G7 zw fun τ μ nk nr nb nc u hc zh hq=>by
 obtain⟨n,h⟩:=zh
 refine⟨λm σ1 H1=>∃ τ1 μ1,Kp H H1/\Dy X.K H1 τ1 σ1/\Cn X.K μ1 H1/\wl tc tb nk nr m τ1 μ1,⟨n,τ,μ,Kp.refl,u,hc,h⟩,?_⟩
 rintro m σ1 H1 ⟨τ1,μ1,s,r,l,h1⟩
 cases m with
 | zero=>exact h1.elim
 | succ m =>
  refine⟨τ1,μ1,_,r,l,h1,λk μ2 H2 S2 c2 hk=>?_⟩
  rcases br_e hk with⟨rfl,f⟩ | ⟨rfl,f⟩
  ·rw [Q_ rfl]
   refine⟨fun σ' H'=>∃ τ' μ',Kp H H'/\Dy X.K H' τ' σ'/\Cn X.K μ' H'/\wl tc tb nk nr m τ' μ',fun σ' H' ⟨τ',μ',q⟩=>⟨m,aJ _,τ',μ',q⟩,τ1,μ2,_,_,_,_,r.kp S2,c2,f,?_⟩
   have S:=s.trans S2
   exact⟨fun τ' μ' σ' H' S' o j i=>⟨τ',μ',S.trans S',o,j,i⟩,hq.rt.kp S,hq.nx.kp S,fun τ' μ' σ' H' S' o j i=>⟨τ',μ',S.trans S',o,j,i⟩⟩
  ·rw [J_ L_]
   exact hq.nx _ _ _ _ (s.trans S2) (r.kp S2) c2 f
structure ItOk(K:iZ)(H0:Hp)(J:It)(xs:List AV)(kp:M->Prop):Prop where
 go:∀i H μ,Kp H0 H->Cn K μ H->kp μ->i < xs.length->J.go i H
 yld:∀i H μ v H' x,Kp H0 H->Cn K μ H->kp μ->xs[i]?=some x->J.yld i H v H'->Kp H H'/\Cn K μ H'/\RelA K H' x v
 stop:∀H μ,Kp H0 H->Cn K μ H->kp μ->J.stop xs.length H
abbrev AI:=ASt->M->(List AV->(M->Prop)->M->Prop)->Prop
def cI(K:iZ)(wi:AI):TI:=fun σ H R=>∃ τ μ R',Dy K H τ σ/\Cn K μ H/\wi τ μ R'/\∀f d μ' J H',Kp H H'->Cn K μ' H'->ItOk K H' J f d->R' f d μ'->R J H'
def VI(X:Cx)(tg iter:jB)(wi:AI):Prop:=PI X tg iter (cI X.K wi)
theorem PI.imp{tg e:jB}{t u:TI}(h:PI X tg e t)(i:∀ σ H Q,u σ H Q->t σ H Q):PI X tg e u:=λd s σ H Q I q=>h d s σ H Q I (i σ H Q q)
theorem Uq{K:iZ}{f:Hp}{a:iY}{xs:List AV}{j:M->Prop}(h:∀H μ,Kp f H->Cn K μ H->j μ->∃d,E8 K H a d/\Au K H xs d):ItOk K f (Itl K a) xs j:=by
 refine⟨λi H μ S c k hi=>?_,λi H μ v H' x S c k e y=>?_,λH μ S c k=>?_⟩
 ·obtain⟨d,q,r⟩:=h H μ S c k
  exact⟨d,d[i]'(by rw [<- r.length];exact hi),q,M_ _⟩
 ·obtain⟨d,q,r⟩:=h H μ S c k
  obtain⟨rfl,y⟩:=y
  obtain⟨u,l,m⟩:=r.get e
  rw [y d q]at l
  cases l
  exact⟨Kp.refl,c,m⟩
 ·obtain⟨d,q,r⟩:=h H μ S c k
  exact⟨d,q,by rw [r.length];exact E_ _⟩
theorem W5{K:iZ}{f:Hp}{a:iY}{xs:List AV}{j:M->Prop}(h:∀H μ,Kp f H->Cn K μ H->j μ->∃d,Kf K H a d/\Au K H xs d):ItOk K f (Itt K a) xs j:=by
 refine⟨λi H μ S c k hi=>?_,λi H μ v H' x S c k e y=>?_,λH μ S c k=>?_⟩
 ·obtain⟨d,q,r⟩:=h H μ S c k
  exact⟨d,d[i]'(by rw [<- r.length];exact hi),q,M_ _⟩
 ·obtain⟨d,q,r⟩:=h H μ S c k
  obtain⟨rfl,y⟩:=y
  obtain⟨u,l,m⟩:=r.get e
  rw [y d q]at l
  cases l
  exact⟨Kp.refl,c,m⟩
 ·obtain⟨d,q,r⟩:=h H μ S c k
  exact⟨d,q,by rw [r.length];exact E_ _⟩
def Ea(lo:Int):Nat->List AV
 | 0=>[]
 | n+1=>.D (.int lo) :: Ea (lo+1) n
theorem A5:∀(n:Nat) (lo:Int),(Ea lo n).length=n
 | 0,_=>rfl
 | n+1,lo=>by rw [Ea,YA,A5 n]
theorem Dd:∀(n:Nat) (lo:Int) (i:Nat) {x:AV},(Ea lo n)[i]?=some x->x=.D (.int (lo+i))
 | 0,_,_,_,h=>by simp [Ea]at h
 | n+1,lo,0,_,h=>by simp [Ea]at h;rw [<- h];simp
 | n+1,lo,i+1,_,h=>by
  rw [Ea,List.getElem?_cons_succ]at h
  rw [Dd n (lo+1) i h]
  congr 2
  omega
theorem W6{K:iZ}{f:Hp}{lo:Int}{n:Nat}:ItOk K f (Itr lo n) (Ea lo n) (λ_=>True):=by
 refine⟨λi H μ S c k d=>?_,λi H μ v H' x S c k e y=>?_,λH μ S c k=>?_⟩
 ·show i < n
  rw [A5]at d;exact d
 ·obtain⟨rfl,rfl⟩:=y
  rw [Dd n lo i e]
  exact⟨Kp.refl,c,C5⟩
 ·show n<=_
  rw [A5];exact E_ _
def OD(t:AA):AI:=fun τ μ R=>t τ μ λd μ1=>match d with
 | [.D (.int j)]=>-(2 ^ 62)<=j/\j < 2 ^ 62/\R (Ea 0 j.toNat) (λ_=>True) μ1
 | _=>False
theorem B4{t:AA}{p:Pos}(d:Gl X "range") (i:X.mg "range" = none) (ha:VA X [a] t) (hs:starEach [a] X.env=[(false,eval a X.env)]:=by rfl):VI X tg (.Call (.Name "range" p) [a] [] pos) (OD t) :=
 (T4 d i ha hs).imp fun σ H Q zz62=>Ca zz62 fun τ μ R hs hc h hq=>⟨τ,μ,_,hs,hc,h,λl μ1 vs H1 S1 c1 rs hl hx=>by
  split at hx
  ·cases rs with
   | cons f j =>
    cases j
    cases RelA.int f
    exact⟨_,rfl,hx.1,hx.2.1,hq _ _ _ _ _ S1 c1 W6 hx.2.2⟩
  ·exact hx.elim⟩
def fl(g:AG)(tb:AS)(k:ASt->M->Prop)(r:AV->M->Prop)(d:M->Prop):List AV->ASt->M->Prop
 | []=>fun τ μ=>d μ/\k τ μ
 | x :: f=>fun τ μ=>d μ/\g x τ μ fun τ2 μ2=>tb (fl g tb k r d f) r k (fl g tb k r d f) τ2 μ2
def UA(wi:AI)(g:AG)(tb:AS):AS:=λk r _ _ τ μ=>wi τ μ λd f μ1=>fl g tb k r f d τ μ1
theorem OE{g:AG}{tb:AS}{k:ASt->M->Prop}{r:AV->M->Prop}{d:M->Prop}{xs:List AV}{τ:ASt}{μ:M}(h:fl g tb k r d xs τ μ):d μ:=by
 cases xs with
 | nil=>exact h.1
 | cons x xs=>exact h.1
theorem Bo{iter:jB}{f:List jF}{wi:AI}{g:AG}{tb:AS}(hp:PassesOwn (model X.prog X.w) X.A X.env X.xe)(E:X.calm=true)(l:VI X tg iter wi)(C:VG X tg g)(hb:VSs X f tb)(I:∀x,foldedSetIterable iter X.env x=pure x:=by intro _;rfl) :
  VS X (.For tg iter f [] pos) (UA wi g tb):=(V4 hp E l C hb I).imp λD σ H zz64=>G7 zz64 fun τ μ nk nr nb nc z hc h hq=>by
 refine⟨τ,μ,_,z,hc,h,λB M μ0 J H0 S0 F it N=>?_⟩
 refine Wp B.length (λi σ1 H1=>∃ τ1 μ1,Kp H0 H1/\Dy X.K H1 τ1 σ1/\Cn X.K μ1 H1/\fl g tb nk nr M (B.drop i) τ1 μ1) ⟨τ,μ0,Kp.refl,z.kp S0,F,N⟩ ?_ ?_ ?_
 ·rintro i σ1 H1 l ⟨τ1,μ1,j,m,d,h1⟩
  exact it.go i H1 μ1 j d (OE h1) l
 ·rintro σ1 H1 ⟨τ1,μ1,j,m,d,h1⟩
  rw [dI]at h1
  exact⟨it.stop H1 μ1 j d h1.1,hq.nx _ _ _ _ (S0.trans j) m d h1.2⟩
 ·rintro i v σ1 H1 H2 l ⟨τ1,μ1,j,m,d,h1⟩ y
  rw [YV l]at h1
  obtain⟨hk,h1⟩:=h1
  obtain⟨u,c2,G⟩:=it.yld i H1 μ1 v H2 _ j d hk (M_ l) y
  refine⟨_,τ1,μ1,_,G,m.kp u,c2,h1,fun τ3 μ3 σ3 H3 S3 s q L=>⟨τ3,μ3,_,_,_,_,s,q,L,?_⟩⟩
  have S:Kp H0 H3:=j.trans (u.trans S3)
  exact⟨fun τ' μ' σ' H' S' o n r=>⟨τ',μ',S.trans S',o,n,r⟩,hq.rt.kp (S0.trans S),hq.nx.kp (S0.trans S),fun τ' μ' σ' H' S' o n r=>⟨τ',μ',S.trans S',o,n,r⟩⟩
def VIfs(X:Cx)(d4:List jB)(t:AT):Prop:=PIfs X d4 (cT X.K t)
def IL:AT:=λ_ μ R=>R true μ
theorem Bw:VIfs X [] IL:=λd s σ H Q I zz65=>Ca zz65 fun τ μ R hs hc h hq=>Wk d s σ H Q I (hq _ _ _ Kp.refl hc h)
theorem Dr{t:AT}(h:VT X a t):VIfs X [a] t:=Wl h
def cl(p:iY)(g:AG)(tst:AT)(te:AE)(f:M->Prop)(R:M->Prop):List AV->List AV->ASt->M->Prop
 | []=>λ_ _ μ=>f μ/\R μ
 | x :: h=>λd τ μ=>f μ/\g x τ μ fun τ1 μ1=>tst τ1 μ1 λk μ2 =>
  brP k (te τ1 μ2 λv μ3=>μ3 p=some (.lst d)/\d.length < sizeLine/\cl p g tst te f R h (d++[v]) τ1 (Al μ3 p (.lst (d++[v])))) (cl p g tst te f R h d τ1 μ2)
def W7(mp:List (Option Nat))(wi:AI)(g:AG)(tst:AT)(te:AE):AE:=fun τ μ R=>wi τ μ λf d μ1=>∀p,μ1 p=none->cl p g tst te d (fun μ2=>R (.R p) μ2) f [] (NO mp τ) (Al μ1 p (.lst []))
theorem OF{p:iY}{g:AG}{tst:AT}{te:AE}{d:M->Prop}{R:M->Prop}{xs acc:List AV}{τ:ASt}{μ:M}(h:cl p g tst te d R xs acc τ μ):d μ:=by
 cases xs with
 | nil=>exact h.1
 | cons x xs=>exact h.1
theorem La{K:iZ}{mp:List (Option Nat)}{wi:AI}{g:AG}{tst:AT}{te:AE}{σ:St}{H:Hp}{Q:VK}(h:cE K (W7 mp wi g tst te) σ H Q):Wn mp (cI K wi) (cG K g) (cT K tst) (cE K te) σ H Q:=by
 obtain⟨τ,μ,R,G,hc,h,hq⟩:=h
 refine⟨τ,μ,_,G,hc,h,λI V μ0 J H0 S0 c0 it E=>?_⟩
 intro p hp
 have E:=E p (c0.none hp)
 have z:Cn K (Al μ0 p (.lst [])) (upd H0 p (.lst [])):=c0.new hp (Cv (.nil))
 have q:Kp H0 (upd H0 p (.lst [])):=Kp.new hp _
 refine AM I.length (λi f σ1 H1=>∃ τ1 μ1 m,Kp H0 H1/\Dy K H1 τ1 σ1/\Cn K μ1 H1/\Au K H1 m f/\cl p g tst te V (fun μ2=>R (.R p) μ2) (I.drop i) m τ1 μ1) ⟨_,_,[],q,((G.kp S0).kp q).sub mp,z,.nil,E⟩ ?_ ?_ ?_
 ·rintro i f σ1 H1 hi ⟨τ1,μ1,m,l,D,d,F,h1⟩
  exact it.go i H1 μ1 l d (OF h1) hi
 ·rintro f σ1 H1 ⟨τ1,μ1,m,l,D,d,F,h1⟩
  rw [dI]at h1
  exact⟨it.stop H1 μ1 l d h1.1,hq _ _ _ _ (S0.trans l) d Dq h1.2⟩
 ·rintro i v f σ1 H1 H2 hi ⟨τ1,μ1,m,l,D,d,F,h1⟩ y
  rw [YV hi]at h1
  obtain⟨hk,h1⟩:=h1
  obtain⟨r,c2,O⟩:=it.yld i H1 μ1 v H2 _ l d hk (M_ hi) y
  refine⟨_,τ1,μ1,_,O,D.kp r,c2,h1,fun τ3 μ3 σ3 H3 S3 j A U=>⟨τ3,μ3,_,j,A,U,λk μ4 H4 S4 L h4=>?_⟩⟩
  rcases br_e h4 with⟨rfl,C⟩ | ⟨rfl,C⟩
  ·rw [Q_ rfl]
   refine⟨τ3,μ4,_,j.kp S4,L,C,λw μ5 u H5 S5 c5 rw B=>?_⟩
   obtain⟨M,T,B⟩:=B
   obtain⟨o,n,N,rfl,s⟩:=c5 _ _ M
   have S:Kp H1 H5:=r.trans (S3.trans (S4.trans S5))
   exact⟨N,n,by rw [<- s.length];exact T,τ3,_,_,(l.trans S).trans (Kp.put n trivial _),(j.kp (S4.trans S5)).kp (Kp.put n trivial _),c5.put n trivial (Cv (s.append (.cons rw .nil))),(s.append (.cons rw .nil)).kp (Kp.put n trivial _),B⟩
  ·rw [J_ L_]
   have S:Kp H1 H4:=r.trans (S3.trans S4)
   exact⟨τ3,μ4,m,l.trans S,j.kp S4,L,F.kp S,C⟩
def WQ(R:AV->M->Prop):ASt->M->Prop:=λ_ μ'=>∃ ν,Sub ν μ'/\R (.D .none) ν
def UB(R:AV->M->Prop):AV->M->Prop:=λv μ'=>∃ ν,Sub ν μ'/\R v ν
def VF:ASt->M->Prop:=λ_ _=>False
theorem Fun.vok{x d:Str}{st:jF}{f:iY}{n:jG}{N ps:List Str}{k:Nat}{sp:ASp}(F:Fun K x d st f n)(S:FnScope N ps (Ag st))
  (q:∀(j:iV) (A:jC) (outer:List Env) (s:iW) (H:Hp) (E:XK),Room k (A.deeper (envOfC d (Ag st) s.heap.objs.size f j)) ->
   ∃t,VSs (Py Fk P w K mg base N d (Ag st) f j A outer s H E).nox (Az st) t/\∀i μ R,i.length=ps.length->sp i μ R->t (WQ R) (UB R) VF VF (Md N i) μ):FnOk P w K mg base Fk (k+1) f n ps (Hw K ps.length sp):=by
 refine F.ok S (λz H Q E h=>?_) (λj A outer s H z Q E o h=>?_)
 ·obtain⟨i,μ,R,m,l,_⟩:=h
  rw [<- l.length];exact m
 ·obtain⟨i,μ,R,m,l,hc,B,hq⟩:=h
  obtain⟨t,y,h⟩:=q j A outer s H E o
  refine⟨_,y,Md N i,μ,_,_,_,_,Dy.begin l,hc,h i μ R m B,⟨fun τ μ' σ H' S' _ c zz67=>MF zz67 fun ν hν r=>?_,λv μ' u H' S' c rv zz68=>MF zz68 fun ν hν r=>?_,λ_ _ _ _ _ _ _ h=>h.elim,λ_ _ _ _ _ _ _ h=>h.elim⟩⟩
  ·exact hq _ _ _ _ S' (c.sub hν) Jf r
  ·exact hq _ _ _ _ S' (c.sub hν) rv r
def UC(t:AE):AI:=fun τ μ R=>t τ μ λx μ1=>opt (items μ1 x) λd=>R d (fun μ=>items μ x=some d) μ1
theorem A7(E:VE X a ta):VI X tg a (UC ta):=by
 intro D s σ H R I zz69
 refine Ca zz69 fun τ μ R' A hc h hq=>?_
 refine thn (E D s σ H (λv i=>∃x μ1 j,Kp H i/\Cn X.K μ1 i/\RelA X.K i x v/\items μ1 x=some j/\R' j (fun μ=>items μ x=some j) μ1) I ⟨τ,μ,_,A,hc,h,λx μ1 v i r n m hx=>?_⟩) λv s1 F=>?_
 ·obtain⟨j,e,hx⟩:=A0 hx
  exact⟨x,μ1,j,r,n,m,e,hx⟩
 obtain⟨J,i,d,C,x,μ1,j,r,n,m,e,hx⟩:=F
 obtain⟨p,L,rfl,hp,G⟩:=Cw n m e
 cases C
 rcases hp with⟨k,hp⟩ | ⟨k,hp⟩
 ·obtain⟨z,B,y,hz⟩:=d.list hp
  refine eD y.isList ?_
  refine⟨s1.heap.objs.size,[s1.heap.objs.size],_,_,i,rfl,d.kept (t':=s1.toks) λb o e=>DD _ e,T3 p _,⟨_,R_ _ rfl,rfl,rfl⟩,λb hb=>?_,hq _ _ _ _ _ r n (Uq λH μ S c k2=>?_) hx⟩
  ·have e:b=s1.heap.objs.size:=by simpa using hb
   subst e
   exact d.fpOk (E_ _) (d.hok.fresh (E_ _))
  ·obtain⟨q,u,e,f,rw⟩:=Cw c (m.kp S) k2
   cases e
   rcases f with⟨_,f⟩ | ⟨l,_⟩
   ·exact⟨u,f,rw⟩
   ·rw [k]at l;cases l
 ·obtain⟨z,B,y,hz⟩:=d.tuple hp
  refine gX (show s1.heap.IsTuple p z.toArray from y) ?_
  refine⟨s1.heap.objs.size,[s1.heap.objs.size],_,_,i,rfl,d.kept (t':=s1.toks) λb o e=>DD _ e,Pt p _,⟨_,R_ _ rfl,rfl,rfl⟩,λb hb=>?_,hq _ _ _ _ _ r n (W5 λH μ S c k2=>?_) hx⟩
  ·have e:b=s1.heap.objs.size:=by simpa using hb
   subst e
   exact d.fpOk (E_ _) (d.hok.fresh (E_ _))
  ·obtain⟨q,u,e,f,rw⟩:=Cw c (m.kp S) k2
   cases e
   rcases f with⟨l,_⟩ | ⟨_,f⟩
   ·rw [k]at l;cases l
   ·exact⟨u,f,rw⟩
end
section
variable {c:AT}{g:AG}{tb:AS}{k:ASt->M->Prop}{r:AV->M->Prop}{bb cc:ASt->M->Prop}{tst:AT}{te:AE}{X:Cx}{K:iZ}{H:Hp}{o i e value:jB}{pos dw:Pos}{td ty tv tx:AE}
theorem R8{τ:ASt}{μ:M}(I:Nat->ASt->M->Prop)(m:Nat)(f:I m τ μ)
  (step:∀m τ μ (W:ASt->M->Prop),I m τ μ->(∀a τ' μ',a < m->I a τ' μ'->W τ' μ')->c τ μ λx μ1=>brP x (tb W r k W τ μ1) (k τ μ1)):∃n,wl c tb k r n τ μ:=by
 have b:∀n m τ μ,m < n->I m τ μ->wl c tb k r n τ μ:=by
  intro n
  induction n with
  | zero=>intro m τ μ h _;omega
  | succ n d=>intro m τ μ h hI;exact step m τ μ (wl c tb k r n) hI λa τ' μ' hm hI'=>d a τ' μ' (by omega) hI'
 exact⟨m+1,b (m+1) m τ μ (aJ _) f⟩
theorem A6{t u:AS}{τ:ASt}{μ:M}(J:ASt->M->Prop)(h1:∀W:ASt->M->Prop,(∀ τ' μ',J τ' μ'->W τ' μ')->t W r bb cc τ μ)(h2:∀ τ' μ',J τ' μ'->u k r bb cc τ' μ'):N5 t u k r bb cc τ μ:=h1 (u k r bb cc) h2
theorem C1{t u:AS}{τ:ASt}{μ:M}(h:t (u k r bb cc) r bb cc τ μ):N5 t u k r bb cc τ μ:=h
theorem Cl{a:M->Prop}{xs:List AV}{τ:ASt}{μ:M}(I:Nat->ASt->M->Prop)(j:I 0 τ μ)(hk:∀i τ μ,I i τ μ->a μ)
  (step:∀i x τ μ (W:ASt->M->Prop),xs[i]?=some x->I i τ μ->(∀ τ' μ',I (i+1) τ' μ'->W τ' μ')->g x τ μ fun τ2 μ2=>tb W r k W τ2 μ2)
  (done:∀ τ μ,I xs.length τ μ->k τ μ):fl g tb k r a xs τ μ:=by
 have b:∀n i τ μ,n+i=xs.length->I i τ μ->fl g tb k r a (xs.drop i) τ μ:=by
  intro n
  induction n with
  | zero =>
   intro i τ μ h hI
   have e:i=xs.length:=by omega
   subst e
   rw [dI]
   exact⟨hk _ _ _ hI,done τ μ hI⟩
  | succ n f =>
   intro i τ μ h hI
   have d:i < xs.length:=by omega
   rw [YV d]
   exact⟨hk _ _ _ hI,step i _ τ μ _ (M_ d) hI fun τ' μ' q=>f (i+1) τ' μ' (by omega) q⟩
 exact b xs.length 0 τ μ rfl j
theorem Di{p:iY}{d:M->Prop}{R:M->Prop}{xs:List AV}{τ:ASt}{μ:M}(I:Nat->List AV->ASt->M->Prop)(m:I 0 [] τ μ)(hk:∀i a τ μ,I i a τ μ->d μ)
  (step:∀i x a τ μ (W:List AV->ASt->M->Prop),xs[i]?=some x->I i a τ μ->(∀b τ' μ',I (i+1) b τ' μ'->W b τ' μ')->g x τ μ fun τ1 μ1=>tst τ1 μ1 λk μ2 =>
   brP k (te τ1 μ2 λv μ3=>μ3 p=some (.lst a)/\a.length < sizeLine/\W (a++[v]) τ1 (Al μ3 p (.lst (a++[v])))) (W a τ1 μ2))
  (done:∀a τ μ,I xs.length a τ μ->R μ):cl p g tst te d R xs [] τ μ:=by
 have f:∀n i a τ μ,n+i=xs.length->I i a τ μ->cl p g tst te d R (xs.drop i) a τ μ:=by
  intro n
  induction n with
  | zero =>
   intro i a τ μ h hI
   have e:i=xs.length:=by omega
   subst e
   rw [dI]
   exact⟨hk _ _ _ _ hI,done a τ μ hI⟩
  | succ n l =>
   intro i a τ μ h hI
   have j:i < xs.length:=by omega
   rw [YV j]
   exact⟨hk _ _ _ _ hI,step i _ a τ μ (λb τ' μ'=>cl p g tst te d R (xs.drop (i+1)) b τ' μ') (M_ j) hI λb τ' μ' q=>l (i+1) b τ' μ' (by omega) q⟩
 exact f xs.length 0 [] τ μ rfl m
theorem W8{z:Str}(h:PyData.canLay0 (.str z)=true):C0 (.str z):=⟨h,by simp [PyData.depth]⟩
theorem A9(i:Int):C0 (.int i):=⟨rfl,by simp [PyData.depth]⟩
theorem Mj(i j:Int):PyData.eqv (.int i) (.int j)=decide (i=j):=by
 rw [PyData.eqv];exact fA.mpr (by simp)
theorem R9(i j:Str):PyData.eqv (.str i) (.str j)=decide (i=j):=by
 rw [PyData.eqv];exact fA.mpr (by simp)
theorem ieq{i j:Int}{T F:Prop}(h1:i=j->T)(h2:i≠j->F):C0 (.int i)/\C0 (.int j)/\brP (PyData.eqv (.int i) (.int j)) T F:=by
 refine⟨A9 _,A9 _,?_⟩
 rw [Mj]
 exact dif h1 h2
theorem Ak{μ:M}{p:iY}{xs:List AV}(h:μ p=some (.lst xs)):items μ (.R p)=some xs:=by
 show(match μ p with | some (.lst xs)=>some xs | _=>none)=_
 rw [h]
def Cm{κ:Type} [DecidableEq κ](kvs:List (κ×AV))(k:κ):Option AV:=(kvs.find? λa=>decide (a.1=k)).map (·.2)
def E9{κ:Type} [DecidableEq κ](kvs:List (κ×AV))(k:κ)(v:AV):List (κ×AV) :=
 if(kvs.any λa=>decide (a.1=k))=true then kvs.map λa=>if a.1=k then(a.1,v) else a else kvs++[(k,v)]
def Jj:List iX->Option (List Key)
 | []=>some []
 | d :: b=>match N1 d,Jj b with
  | some k,some a=>some (k :: a)
  | _,_=>none
def N7(ds:List iX):Option (List Key):=match Lit ds with
 | true=>none
 | false=>Jj ds
theorem Mk{ds:List iX}{ks:List Key}(h:N7 ds=some ks):Lit ds=false/\Jj ds=some ks:=by
 unfold N7 at h
 cases c:Lit ds with
 | true=>rw [c]at h;cases h
 | false=>rw [c]at h;exact⟨rfl,h⟩
theorem Zg.heap{K:iZ}{H:Hp}{a:iY}{ds:List iX}{xs:List V}(h:Zg K H a ds xs)(b:Lit ds=false):H a=some (.tup xs):=by
 rcases h with h | h
 ·exact h
 ·rw [b]at h;cases h.1
def dget(m:MO)(d:iX):Option (Option AV):=match m with
 | .dk a=>(N1 d).map (Cm a)
 | .dt a=>match d with
  | .tuple b=>(N7 b).map (Cm a)
  | _=>none
 | .lst _=>none
 | .dd _=>none
def dput(m:MO)(d:iX)(v:AV):Option MO:=match m with
 | .dk a=>(N1 d).map λk=>.dk (E9 a k v)
 | .dt a=>match d with
  | .tuple b=>(N7 b).map λk=>.dt (E9 a k v)
  | _=>none
 | .lst _=>none
 | .dd _=>none
def dsize:MO->Nat
 | .dk a=>a.length
 | .dt a=>a.length
 | .lst b=>b.length
 | .dd a=>a.length
def Sa(K:iZ)(H:Hp):Option AV->Option V->Prop
 | some x,some v=>RelA K H x v
 | none,none=>True
 | _,_=>False
theorem Ei.val{κ:Type} [DecidableEq κ]{kvs:List (κ×AV)}{vs:List (κ×V)}(h:Ei K H kvs vs)(k:κ):Sa K H (Cm kvs k) (D9 vs k):=by
 unfold Ei at h
 induction h with
 | nil=>exact trivial
 | @cons p q l₁ l₂ r t a =>
  obtain⟨b,d⟩:=p
  obtain⟨j,f⟩:=q
  obtain⟨e,r⟩:=r
  dsimp only at e
  subst e
  unfold Cm D9 at a ⊢
  by_cases hk:b=k
  ·simp only [List.find?_cons,decide_eq_true hk];exact r
  ·simp only [List.find?_cons,decide_eq_false hk];exact a
theorem Ei.put{κ:Type} [DecidableEq κ]{kvs:List (κ×AV)}{vs:List (κ×V)}(h:Ei K H kvs vs)(k:κ){x:AV}{v:V}(r:RelA K H x v):Ei K H (E9 kvs k x) (Dl vs k v):=by
 have hn:(kvs.any λa=>decide (a.1=k))=(vs.any λa=>decide (a.1=k)):=by
  unfold Ei at h
  induction h with
  | nil=>rfl
  | @cons p q l₁ l₂ b t d=>rw [bG,bG,d,b.1]
 have f:Ei K H (kvs.map λa=>if a.1=k then(a.1,x) else a) (vs.map λa=>if a.1=k then(a.1,v) else a):=by
  clear hn
  unfold Ei at h ⊢
  induction h with
  | nil=>exact .nil
  | @cons p q l₁ l₂ b t d =>
   refine .cons ?_ d
   obtain⟨e,b⟩:=b
   dsimp only
   by_cases hk:p.1=k
   ·rw [Q_ hk,Q_ (e ▸ hk)];exact⟨e,r⟩
   ·rw [J_ hk,J_ (e ▸ hk)];exact⟨e,b⟩
 have ha:Ei K H (kvs++[(k,x)]) (vs++[(k,v)]):=by
  clear hn f
  unfold Ei at h ⊢
  exact iA h ⟨rfl,r⟩
 unfold E9 Dl
 rw [hn]
 split
 ·exact f
 ·exact ha
theorem Ml{d:iX}{k:Key}{v:V}(h:Dk K H d v)(e:N1 d=some k):v=kV k:=by
 unfold N1 at e
 split at e
 ·cases e;exact h.int
 ·cases e;exact h.str
 ·cases e
theorem Go:∀{ds:List iX} {ks:List Key} {vs:List V},Am K H ds vs->Jj ds=some ks->vs=ks.map kV
 | [],ks,vs,h,e=>by cases e;exact h.nil
 | d :: ds,ks,vs,h,e=>by
  obtain⟨x,r,rfl,h1,h2⟩:=h.cons
  simp only [Jj]at e
  split at e
  ·rename_i k a b e2
   cases e
   rw [Ml h1 b,Go h2 e2];rfl
  ·cases e
theorem Mm{μ:M}{a:iY}{m:MO}{d:iX}{v:V}{o:Option AV}(hc:Cn K μ H)(q:μ a=some m)(n:Dk K H d v)(e:dget m d=some o):∃r,DGet H a v r/\Sa K H o r:=by
 obtain⟨w,l,j⟩:=hc a m q
 unfold dget at e
 split at e
 ·obtain⟨k,f,rfl⟩:=K_.mp e
  obtain⟨u,rfl,h⟩:=j
  rw [Ml n f]
  exact⟨_,DGet.k l,h.val k⟩
 ·split at e
  ·obtain⟨p,f,rfl⟩:=K_.mp e
   obtain⟨u,rfl,h⟩:=j
   obtain⟨b,x,rfl,hb,hx⟩:=n.tup
   obtain⟨s,f⟩:=Mk f
   have hb:=hb.heap s
   rw [Go hx f]at hb
   exact⟨_,DGet.t l hb,h.val p⟩
  ·cases e
 ·cases e
 ·cases e
theorem BG{μ:M}{a:iY}{m p:MO}{d:iX}{v w:V}{x:AV}(hc:Cn K μ H)(u:μ a=some m)(q:Dk K H d v)(hx:RelA K H x w)(e:dput m d x=some p)(hs:dsize m < sizeLine):∃l,DPut H a v w l/\Kp H l/\Cn K (Al μ a p) l:=by
 obtain⟨B,f,n⟩:=hc a m u
 unfold dput at e
 split at e
 ·obtain⟨k,h,rfl⟩:=K_.mp e
  obtain⟨A,rfl,j⟩:=n
  rw [Ml q h]
  exact⟨_,DPut.k f (by rw [<- aB j];exact hs),Kp.put f trivial _,hc.put f trivial ⟨_,rfl,j.put k hx⟩⟩
 ·split at e
  ·obtain⟨s,h,rfl⟩:=K_.mp e
   obtain⟨A,rfl,j⟩:=n
   obtain⟨b,C,rfl,hb,y⟩:=q.tup
   obtain⟨z,h⟩:=Mk h
   have hb:=hb.heap z
   rw [Go y h]at hb
   exact⟨_,DPut.t f hb (by rw [<- aB j];exact hs),Kp.put f trivial _,hc.put f trivial ⟨_,rfl,j.put s hx⟩⟩
  ·cases e
 ·cases e
 ·cases e
def OG(td ty:AE):AE:=fun τ μ R=>td τ μ λx μ1=>ty τ μ1 λy μ2=>match x,y with
 | .R a,.D d=>opt (μ2 a) λm=>opt (dget m d) λr=>opt r λv=>R v μ2
 | _,_=>False
theorem C9(hu:X.A.units+1 < cLine)(d:VE X o td)(f:VE X i ty)(hs:HU i:=by intro _ _;rfl):VE X (.Subscript o i pos) (OG td ty):=(AF hu d f hs).imp fun σ H Q zz71=>Ca zz71 fun τ μ R hs hc h hq =>
 ⟨τ,μ,_,hs,hc,h,λx μ1 v H1 S1 p rx hx=>⟨τ,μ1,_,hs.kp S1,p,hx,λy μ2 u H2 S2 c2 ry hy=>by
  split at hy
  ·obtain⟨m,j,hy⟩:=A0 hy
   obtain⟨r,l,hy⟩:=A0 hy
   obtain⟨w,rfl,a⟩:=A0 hy
   obtain⟨n,g,b⟩:=Mm c2 j ry l
   cases n with
   | none=>exact b.elim
   | some z=>exact⟨_,z,(rx.kp S2).ref,g,hq _ _ _ _ (S1.trans S2) c2 b a⟩
  ·exact hy.elim⟩⟩
def OH(b:Bool->Bool)(ty td:AE):AE:=fun τ μ R=>ty τ μ λy μ1=>td τ μ1 λx μ2=>match x,y with
 | .R a,.D d=>opt (μ2 a) λm=>opt (dget m d) λr=>R (.D (.bool (b r.isSome))) μ2
 | _,_=>False
theorem Sa.some{o:Option AV}{r:Option V}(h:Sa K H o r):o.isSome=r.isSome:=by
 cases o <;> cases r <;> first | rfl | exact h.elim
theorem N8{K:iZ}{σ:St}{H:Hp}{Q:VK}(h:cE K (OH (λb=>!b) ty td) σ H Q):Rz (cE K ty) (cE K td) σ H Q:=by
 obtain⟨τ,μ,R,a,hc,h,hq⟩:=h
 refine⟨τ,μ,_,a,hc,h,λy μ1 v H1 S1 n ry hx=>⟨τ,μ1,_,a.kp S1,n,hx,λx μ2 u H2 S2 c2 rx hy=>?_⟩⟩
 split at hy
 ·obtain⟨m,l,hy⟩:=A0 hy
  obtain⟨r,j,hy⟩:=A0 hy
  obtain⟨d,g,f⟩:=Mm c2 l (ry.kp S2) j
  refine⟨_,d,rx.ref,g,hq _ _ _ _ (S1.trans S2) c2 ?_ hy⟩
  rw [f.some];exact Je
 ·exact hy.elim
theorem Ur(hu:X.A.units+1 < cLine)(d:VE X i ty)(a:VE X o td)(h1:behindInMarks .NotIn o=false:=by rfl):VT X (.Compare i [.NotIn] [o] pos) (R3 (OH (λb=>!b) ty td)):=(GP (Ue hu d a) h1).imp λ_ _ _ h=>Hd (λ_ _ _ q=>N8 q) h
def OI(td ty tv:AE):AS:=λk _ _ _ τ μ=>tv τ μ λv μ1=>td τ μ1 λx μ2=>ty τ μ2 λy μ3=>match x,y with
 | .R a,.D d=>opt (μ3 a) λm=>opt (dput m d v) λb=>dsize m < sizeLine/\k τ (Al μ3 a b)
 | _,_=>False
theorem Fl(hu:X.A.units+1 < cLine)(f:VE X o td)(l:VE X i ty)(hv:VE X value tv)(hs:swapsWith value (some (.Subscript o i dw)) pos.line X.env=pure false:=by rfl):VS X (.Assign [.Subscript o i dw] value pos) (OI td ty tv):=(AH hu f l hv hs).imp λD σ H zz72=>G7 zz72 fun τ μ nk nr nb nc hs hc h hq =>
 ⟨τ,μ,_,hs,hc,h,λv μ1 vv H1 S1 q rv h1=>⟨τ,μ1,_,hs.kp S1,q,h1,λx μ2 xv H2 S2 c2 rx h2=>⟨τ,μ2,_,hs.kp (S1.trans S2),c2,h2,λy μ3 yv H3 S3 c3 ry a=>by
  split at a
  ·obtain⟨m,n,a⟩:=A0 a
   obtain⟨s,b,a⟩:=A0 a
   obtain⟨p,g,d,j⟩:=BG c3 n ry (rv.kp (S2.trans S3)) b a.1
   have S:=S1.trans (S2.trans (S3.trans d))
   exact⟨_,p,(rx.kp S3).ref,g,hq.nx _ _ _ _ S (hs.kp S) j a.2⟩
  ·exact a.elim⟩⟩⟩
def IM:AE:=λ_ μ R=>∀p,μ p=none->R (.R p) (Al μ p (.dk []))
def IN:AE:=λ_ μ R=>∀p,μ p=none->R (.R p) (Al μ p (.dt []))
theorem W9{kvs:List (Key×AV)}{vs:List (Key×V)}(h:Ei K H kvs vs):Mc K H (.dk kvs) (.dK vs):=⟨vs,rfl,h⟩
theorem EY{kvs:List (List Key×AV)}{vs:List (List Key×V)}(h:Ei K H kvs vs):Mc K H (.dt kvs) (.dT vs):=⟨vs,rfl,h⟩
theorem Xa:VE X (.Dict [] [] pos) IM:=We.imp fun σ H Q zz73=>Ca zz73 fun τ μ R hs hc h hq=>λp hp=>hq _ _ _ _ (Kp.new hp _) (hc.new hp (W9 .nil)) Dq (h p (hc.none hp))
theorem Gp:VE X (.Dict [] [] pos) IN:=Wf.imp fun σ H Q zz74=>Ca zz74 fun τ μ R hs hc h hq=>λp hp=>hq _ _ _ _ (Kp.new hp _) (hc.new hp (EY .nil)) Dq (h p (hc.none hp))
end
end L2
namespace L2
theorem El{α:Type}{b:List α}{n:Nat}(h:b.length=n+1):∃a t,b=a :: t/\t.length=n:=match b,h with | a :: t,h=>⟨a,t,rfl,Nat.succ.inj h⟩
theorem BH{α:Type}{b:List α}(h:b.length=1):∃a,b=[a]:=by
 obtain⟨a,t,rfl,h2⟩:=El h
 rw [bS h2];exact⟨a,rfl⟩
theorem RW{α:Type}{c:List α}(h:c.length=2):∃a b,c=[a,b]:=by
 obtain⟨a,t,rfl,h2⟩:=El h
 obtain⟨b,rfl⟩:=BH h2
 exact⟨a,b,rfl⟩
open PySem PySem.Spec PySem.Calls PyProof.Rows
abbrev AX:=iY->List (Str×iX)->M->Prop
abbrev WR:=List AV->M->(AV->M->Prop)->AX->Prop
end L2
namespace L2
open PySem PySem.Spec PyProof.Rows
theorem Qh{kvs:List (Key×V)}{k:Key}{v:V}(h:k∉kvs.map (·.1)):Dl kvs k v=kvs++[(k,v)]:=by
 unfold Dl
 rw [J_]
 intro q
 rw [cK]at q
 obtain⟨x,hx,e⟩:=q
 exact h (D_.mpr ⟨x,hx,YD e⟩)
theorem Gr:∀(more kvs:List (Key×V)),((kvs++more).map (·.1)).Nodup->Fz kvs more=kvs++more
 | [],kvs,_=>by rw [aG];rfl
 | (k,v) :: more,kvs,h=>by
  show Fz (Dl kvs k v) more=_
  have hk:k∉kvs.map (·.1):=λz=>by
   rw [S_,aY]at h
   exact h.2.2 k z k (by simp) rfl
  rw [Qh hk,Gr more,aQ]
  ·rfl
  ·rw [aQ];exact h
def UD:List AE->ASt->M->(List AV->M->Prop)->Prop
 | [],_,μ,R=>R [] μ
 | t :: ts,τ,μ,R=>t τ μ λx μ1=>UD ts τ μ1 λa μ2=>R (x :: a) μ2
def EZ(K:iZ)(ks:List Key)(ts:List AE):List (TE×TE):=(ks.zip ts).map λp=>(tC (kV p.1),cE K p.2)
theorem N9{K:iZ}:∀{ks:List Key} {ts:List AE} {τ:ASt} {μ:M} {R:List AV->M->Prop} {σ:St} {H:Hp} {Q:List (V×V)->Hp->Prop},ks.length=ts.length->Dy K H τ σ->Cn K μ H->UD ts τ μ R ->
  (∀a μ' vs H',Kp H H'->Cn K μ' H'->Au K H' a vs->a.length=ts.length->R a μ'->Q ((ks.zip vs).map λc=>(kV c.1,c.2)) H')->L7 (EZ K ks ts) σ H Q
 | [],[],τ,μ,R,σ,H,Q,_,b,hc,h,q=>q [] μ [] H Kp.refl hc .nil rfl h
 | k :: ks,t :: ts,τ,μ,R,σ,H,Q,d,b,hc,h,q =>
  ⟨τ,μ,_,b,hc,h,λx μ1 v H1 S1 c1 rx hx=>N9 (ks:=ks) (ts:=ts) (by simpa using d) (b.kp S1) c1 hx λa μ2 vs H2 S2 c2 rs hn hr=>q (x :: a) μ2 (v :: vs) H2 (S1.trans S2) c2 (.cons (rx.kp S2) rs) (by simp [hn]) hr⟩
def VPs(X:Cx)(a:Pos)(b:List (Option jB))(c:List jB)(ks:List Key)(ts:List AE):Prop:=PPs X a b c (EZ X.K ks ts)
def OJ(ks:List Key)(ts:List AE):AE:=fun τ μ R=>∀p,μ p=none->UD ts τ (Al μ p (.dk [])) λa μ1=>μ1 p=some (.dk [])/\R (.R p) (Al μ1 p (.dk (ks.zip a)))
section
variable {X:Cx}{pos:Pos}{bm:List (Option jB)}{az:List jB}{ks:List Key}{ts:List AE}
theorem BI:VPs X pos [] [] [] []:=AJ
theorem Mn{z:Str}{j}{p:Pos}{v:jB}{t:AE}(hv:VE X v t)(a:VPs X pos bm az ks ts):VPs X pos (some (.Constant (.str z) j p) :: bm) (v :: az) (.inr z :: ks) (t :: ts):=Wg (tk:=tC (kV (.inr z))) Vv hv a
theorem Au.zipK{K:iZ}{H:Hp}:∀(ks:List Key) {xs:List AV} {vs:List V},Au K H xs vs->Ei K H (ks.zip xs) (ks.zip vs)
 | [],_,_,_=>.nil
 | _ :: _,_,_,.nil=>.nil
 | _ :: ks,_,_,.cons r t=>.cons ⟨rfl,r⟩ (Au.zipK ks t)
theorem BJ(h:VPs X pos bm az ks ts)(hk:ks.Nodup)(c:ks.length=ts.length:=by rfl)(d:ks.length<=15:=by decide)(f:bm.all (·.isSome)=true:=by rfl)(e:bm.length=az.length:=by rfl)(g:bm≠[]:=by intro z;cases z)(a:bm.length<=15:=by decide):VE X (.Dict bm az pos) (OJ ks ts) :=
 (AK h f e g a).imp fun σ H Q zz92=>Ca zz92 fun τ μ R hs hc h hq=>by
  intro p hp
  refine N9 c (hs.kp (Kp.new hp _)) (hc.new hp (W9 .nil)) (h p (hc.none hp)) λk μ1 vs H1 S1 c1 rs hn hx=>?_
  obtain⟨o,b,j,rfl,rk⟩:=c1 _ _ hx.1
  cases rk
  have i:ks.length=vs.length:=by rw [<- rs.length,hn];exact c
  refine⟨b,ks.zip vs,rfl,by rw [List.length_zip];omega,?_⟩
  rw [Gr _ _ (by rw [List.nil_append,List.map_fst_zip (by omega)];exact hk),List.nil_append]
  exact hq _ _ _ _ ((Kp.new hp _).trans (S1.trans (Kp.put b trivial _))) (c1.put b trivial (W9 (rs.zipK ks))) Dq hx.2
end
theorem Da{κ:Type} [DecidableEq κ]{k:κ}{v:AV}{r:List (κ×AV)}:Cm ((k,v) :: r) k=some v:=by
 unfold Cm
 simp only [List.find?_cons,decide_eq_true (rfl:k=k)];rfl
theorem Ct{κ:Type} [DecidableEq κ]{k a:κ}{v:AV}{r:List (κ×AV)}(h:a≠k):Cm ((a,v) :: r) k=Cm r k:=by
 unfold Cm
 simp only [List.find?_cons,decide_eq_false h]
theorem Us{μ:M}{p:iY}{m:MO}(h:μ p=some m):Al μ p m=μ:=by
 funext b
 unfold Al
 split
 ·rename_i e;rw [e,h]
 ·rfl
theorem cmapf{α:Type}{p:iY}{g:AG}{tst:AT}{te:AE}{l:M->Prop}{R:M->Prop}{τ:ASt}{μ:M}(a:List α)(j:α->AV)(b:α->Bool)(f:α->AV)(c:ASt->Prop)(o:c τ)(hp:μ p=some (.lst []))(hn:a.length<=sizeLine)(hk:∀acc,l (Al μ p (.lst acc)))
  (step:∀(i:Nat) (x:α) (τ':ASt) (acc:List AV) (W:ASt->AV->M->Prop) (m:ASt->M->Prop),a[i]?=some x->c τ'->(b x=true->∀ τ1,c τ1->W τ1 (f x) (Al μ p (.lst acc)))->(b x=false->∀ τ1,c τ1->m τ1 (Al μ p (.lst acc))) ->
   g (j x) τ' (Al μ p (.lst acc)) fun τ1 μ1=>tst τ1 μ1 λk μ2=>brP k (te τ1 μ2 (W τ1)) (m τ1 μ2))
  (done:R (Al μ p (.lst ((a.filter b).map f)))):cl p g tst te l R (a.map j) [] τ μ:=by
 refine Di (λi acc τ' μ'=>c τ'/\acc=((a.take i).filter b).map f/\μ'=Al μ p (.lst acc)) ⟨o,by simp,(Us hp).symm⟩ (λi acc τ μ' ⟨_,_,e⟩=>by rw [e];exact hk _) ?_ ?_
 ·rintro i y acc τ' μ' W hy ⟨n,rfl,rfl⟩ hW
  rw [H_]at hy
  obtain⟨x,hx,rfl⟩:=K_.mp hy
  have q:i < a.length:=(F_.mp hx).1
  have h:a.take (i+1)=a.take i++[x]:=by rw [YC,hx];rfl
  refine step i x τ' _ (fun τ1 v μ3=>μ3 p=some (.lst (((a.take i).filter b).map f))/\(((a.take i).filter b).map f).length < sizeLine/\W ((((a.take i).filter b).map f)++[v]) τ1 (Al μ3 p (.lst ((((a.take i).filter b).map f)++[v])))) (fun τ1 μ2=>W (((a.take i).filter b).map f) τ1 μ2) hx n (λhb τ1 d=>⟨Ab,?_,hW _ _ _ ⟨d,?_,Bq⟩⟩) (λhb τ1 d=>hW _ _ _ ⟨d,?_,rfl⟩)
  ·rw [B_]
   have h1:=ZM b (a.take i)
   rw [X_]at h1
   omega
  ·rw [h,fF,S_,eN,Q_ hb];rfl
  ·rw [h,fF,S_,eN,J_ (by rw [hb];exact L_)];simp
 ·rintro acc τ' μ' ⟨_,rfl,rfl⟩
  rw [B_,YB]
  exact done
theorem cmap{α:Type}{p:iY}{g:AG}{te:AE}{d:M->Prop}{R:M->Prop}{τ:ASt}{μ:M}(a:List α)(c f:α->AV)(b:ASt->Prop)(e:b τ)(hp:μ p=some (.lst []))(hn:a.length<=sizeLine)(hk:∀acc,d (Al μ p (.lst acc)))
  (step:∀(i:Nat) (x:α) (τ':ASt) (acc:List AV) (W:ASt->AV->M->Prop),a[i]?=some x->b τ'->(∀ τ1,b τ1->W τ1 (f x) (Al μ p (.lst acc)))->g (c x) τ' (Al μ p (.lst acc)) fun τ1 μ1=>te τ1 μ1 (W τ1))
  (done:R (Al μ p (.lst (a.map f)))):cl p g IL te d R (a.map c) [] τ μ:=by
 refine cmapf a c (λ_=>true) f b e hp hn hk (λi x τ' acc W W2 hx sh h1 _=>?_) (by rw [List.filter_eq_self.mpr (λ_ _=>rfl)];exact done)
 have:=step i x τ' acc W hx sh (h1 rfl)
 simp only [IL,Ws]
 exact this
def rk:iX->Nat
 | .none=>0 | .bool _=>1 | .int _=>2 | .str _=>3 | .list _=>4 | .tuple _=>5 | .dict _=>6
def Gu(a b:Str):Bool:=decide (a.cps.toList < b.cps.toList)
mutual
def E5:iX->iX->Bool
 | .int a,.int b=>decide (a < b)
 | .str a,.str b=>Gu a b
 | .tuple d,.tuple c=>C6 d c
 | x,y=>decide (rk x < rk y)
def C6:List iX->List iX->Bool
 | [],[]=>false
 | [],_ :: _=>true
 | _ :: _,[]=>false
 | x :: a,y :: b=>if PyData.eqv x y then C6 a b else E5 x y
end
mutual
theorem He:∀(x y:iX),Cano x=true->Cano y=true->PyData.eqv x y=true->x=y
 | .int a,.int b,_,_,h=>by simp [PyData.eqv]at h;rw [h]
 | .str a,.str b,_,_,h=>by simp [PyData.eqv]at h;rw [h]
 | .tuple d,.tuple c,h1,h2,h=>by
  simp only [Cano]at h1 h2
  rw [PyData.eqv]at h
  rw [Sb d c h1 h2 h]
 | .int _,.str _,_,_,h=>by simp [PyData.eqv]at h
 | .int _,.tuple _,_,_,h=>by simp [PyData.eqv]at h
 | .str _,.int _,_,_,h=>by simp [PyData.eqv]at h
 | .str _,.tuple _,_,_,h=>by simp [PyData.eqv]at h
 | .tuple _,.int _,_,_,h=>by simp [PyData.eqv]at h
 | .tuple _,.str _,_,_,h=>by simp [PyData.eqv]at h
 | .none,_,h,_,_=>by simp [Cano]at h
 | .bool _,_,h,_,_=>by simp [Cano]at h
 | .list _,_,h,_,_=>by simp [Cano]at h
 | .dict _,_,h,_,_=>by simp [Cano]at h
 | .int _,.none,_,h,_=>by simp [Cano]at h
 | .int _,.bool _,_,h,_=>by simp [Cano]at h
 | .int _,.list _,_,h,_=>by simp [Cano]at h
 | .int _,.dict _,_,h,_=>by simp [Cano]at h
 | .str _,.none,_,h,_=>by simp [Cano]at h
 | .str _,.bool _,_,h,_=>by simp [Cano]at h
 | .str _,.list _,_,h,_=>by simp [Cano]at h
 | .str _,.dict _,_,h,_=>by simp [Cano]at h
 | .tuple _,.none,_,h,_=>by simp [Cano]at h
 | .tuple _,.bool _,_,h,_=>by simp [Cano]at h
 | .tuple _,.list _,_,h,_=>by simp [Cano]at h
 | .tuple _,.dict _,_,h,_=>by simp [Cano]at h
theorem Sb:∀(xs ys:List iX),Ao xs=true->Ao ys=true->PyData.eqvAll xs ys=true->xs=ys
 | [],[],_,_,_=>rfl
 | [],_ :: _,_,_,h=>by simp [PyData.eqvAll]at h
 | _ :: _,[],_,_,h=>by simp [PyData.eqvAll]at h
 | x :: xs,y :: ys,h1,h2,h=>by
  simp only [Ao,Bool.and_eq_true]at h1 h2
  rw [PyData.eqvAll,ZC]at h
  rw [He x y h1.1 h2.1 h.1,Sb xs ys h1.2 h2.2 h.2]
end
mutual
theorem Gv:∀(x:iX),Cano x=true->PyData.eqv x x=true
 | .int a,_=>by simp [PyData.eqv]
 | .str a,_=>by simp [PyData.eqv]
 | .tuple b,h=>by rw [PyData.eqv];exact Lb b (by simpa only [Cano] using h)
 | .none,h=>by simp [Cano]at h
 | .bool _,h=>by simp [Cano]at h
 | .list _,h=>by simp [Cano]at h
 | .dict _,h=>by simp [Cano]at h
theorem Lb:∀(xs:List iX),Ao xs=true->PyData.eqvAll xs xs=true
 | [],_=>rfl
 | x :: xs,h=>by
  simp only [Ao,Bool.and_eq_true]at h
  rw [PyData.eqvAll,Gv x h.1,Lb xs h.2];rfl
end
theorem Qi{x y:iX}(hx:Cano x=true)(hy:Cano y=true):PyData.eqv x y=false↔x≠y:=by
 constructor
 ·rintro h rfl
  rw [Gv x hx]at h;cases h
 ·intro h
  cases e:PyData.eqv x y with
  | false=>rfl
  | true=>exact absurd (He x y hx hy e) h
theorem cano_cases{x:iX}(h:Cano x=true):(∃i,x=.int i)\/(∃z,x=.str z)\/∃a,x=.tuple a/\Ao a=true:=by
 cases x with
 | int i=>exact .inl ⟨i,rfl⟩
 | str z=>exact .inr (.inl ⟨z,rfl⟩)
 | tuple a=>exact .inr (.inr ⟨a,rfl,by simpa only [Cano] using h⟩)
 | none=>simp [Cano]at h
 | bool _=>simp [Cano]at h
 | list _=>simp [Cano]at h
 | dict _=>simp [Cano]at h
theorem Xb{a b c:Str}(h1:Gu a b=true)(h2:Gu b c=true):Gu a c=true:=by
 unfold Gu at *
 exact YL (List.lt_trans (YD h1) (YD h2))
theorem BK{a b:Str}(h:a.cps.toList=b.cps.toList):a=b:=by
 cases a;cases b
 simp only [Array.toList_inj]at h
 rw [h]
theorem Ut{a b:Str}(h:a≠b)(h1:Gu a b=false):Gu b a=true:=by
 unfold Gu at *
 have h1:=of_decide_eq_false h1
 refine YL ?_
 rcases Decidable.em (b.cps.toList < a.cps.toList) with z | z
 ·exact z
 ·exact absurd (BK (List.le_antisymm (List.not_lt.mp z) (List.not_lt.mp h1))) h
mutual
theorem Qj:∀(x y z:iX),Cano x=true->Cano y=true->Cano z=true->E5 x y=true->E5 y z=true->E5 x z=true
 | .int a,y,z,_,hy,hz,h1,h2=>by
  rcases cano_cases hy with⟨b,rfl⟩ | ⟨b,rfl⟩ | ⟨d,rfl,_⟩ <;> rcases cano_cases hz with⟨c,rfl⟩ | ⟨c,rfl⟩ | ⟨e,rfl,_⟩ <;> simp [E5,rk]at h1 h2 ⊢
  omega
 | .str a,y,z,_,hy,hz,h1,h2=>by
  rcases cano_cases hy with⟨b,rfl⟩ | ⟨b,rfl⟩ | ⟨d,rfl,_⟩ <;> rcases cano_cases hz with⟨c,rfl⟩ | ⟨c,rfl⟩ | ⟨e,rfl,_⟩ <;> simp [E5,rk]at h1 h2 ⊢
  exact Xb h1 h2
 | .tuple i,y,z,hx,hy,hz,h1,h2=>by
  rcases cano_cases hy with⟨b,rfl⟩ | ⟨b,rfl⟩ | ⟨d,rfl,f⟩ <;> rcases cano_cases hz with⟨c,rfl⟩ | ⟨c,rfl⟩ | ⟨e,rfl,g⟩ <;> simp [E5,rk]at h1 h2 ⊢
  exact Sc i d e (by simpa only [Cano] using hx) f g h1 h2
 | .none,_,_,h,_,_,_,_=>by simp [Cano]at h
 | .bool _,_,_,h,_,_,_,_=>by simp [Cano]at h
 | .list _,_,_,h,_,_,_,_=>by simp [Cano]at h
 | .dict _,_,_,h,_,_,_,_=>by simp [Cano]at h
theorem Sc:∀(xs ys a:List iX),Ao xs=true->Ao ys=true->Ao a=true->C6 xs ys=true->C6 ys a=true->C6 xs a=true
 | [],[],_,_,_,_,h1,_=>by simp [C6]at h1
 | [],_ :: _,[],_,_,_,_,h2=>by simp [C6]at h2
 | [],_ :: _,_ :: _,_,_,_,_,_=>by simp [C6]
 | _ :: _,[],_,_,_,_,h1,_=>by simp [C6]at h1
 | _ :: _,_ :: _,[],_,_,_,_,h2=>by simp [C6]at h2
 | x :: xs,y :: ys,z :: a,hx,hy,hz,h1,h2=>by
  simp only [Ao,Bool.and_eq_true]at hx hy hz
  simp only [C6]at h1 h2 ⊢
  cases e1:PyData.eqv x y with
  | true =>
   have e:=He x y hx.1 hy.1 e1
   subst e
   rw [e1]at h1
   cases e2:PyData.eqv x z with
   | true =>
    rw [e2]at h2
    exact Sc xs ys a hx.2 hy.2 hz.2 h1 h2
   | false=>rw [e2]at h2;exact h2
  | false =>
   rw [e1]at h1
   cases e2:PyData.eqv y z with
   | true =>
    have e:=He y z hy.1 hz.1 e2
    subst e
    rw [e1];exact h1
   | false =>
    rw [e2]at h2
    have b:=Qj x y z hx.1 hy.1 hz.1 h1 h2
    cases e3:PyData.eqv x z with
    | false=>exact b
    | true =>
     have e:=He x z hx.1 hz.1 e3
     subst e
     exact absurd b (by rw [Fm x hx.1];exact L_)
theorem Fm:∀(x:iX),Cano x=true->E5 x x=false
 | .int a,_=>by simp [E5]
 | .str a,_=>by simp [E5,Gu,List.lt_irrefl]
 | .tuple b,h=>by simp only [E5];exact Oa b (by simpa only [Cano] using h)
 | .none,h=>by simp [Cano]at h
 | .bool _,h=>by simp [Cano]at h
 | .list _,h=>by simp [Cano]at h
 | .dict _,h=>by simp [Cano]at h
theorem Oa:∀(xs:List iX),Ao xs=true->C6 xs xs=false
 | [],_=>by simp [C6]
 | x :: xs,h=>by
  simp only [Ao,Bool.and_eq_true]at h
  simp only [C6,Gv x h.1,if_true]
  exact Oa xs h.2
end
mutual
theorem Sd:∀(x y:iX),Cano x=true->Cano y=true->x≠y->E5 x y=false->E5 y x=true
 | .int a,y,_,hy,hn,h=>by
  rcases cano_cases hy with⟨b,rfl⟩ | ⟨b,rfl⟩ | ⟨c,rfl,_⟩ <;> simp [E5,rk]at h ⊢
  have:a≠b:=λz=>hn (by rw [z])
  omega
 | .str a,y,_,hy,hn,h=>by
  rcases cano_cases hy with⟨b,rfl⟩ | ⟨b,rfl⟩ | ⟨c,rfl,_⟩ <;> simp [E5,rk]at h ⊢
  exact Ut (λz=>hn (by rw [z])) h
 | .tuple e,y,hx,hy,hn,h=>by
  rcases cano_cases hy with⟨b,rfl⟩ | ⟨b,rfl⟩ | ⟨c,rfl,d⟩ <;> simp [E5,rk]at h ⊢
  exact Ob e c (by simpa only [Cano] using hx) d (λz=>hn (by rw [z])) h
 | .none,_,h,_,_,_=>by simp [Cano]at h
 | .bool _,_,h,_,_,_=>by simp [Cano]at h
 | .list _,_,h,_,_,_=>by simp [Cano]at h
 | .dict _,_,h,_,_,_=>by simp [Cano]at h
theorem Ob:∀(xs ys:List iX),Ao xs=true->Ao ys=true->xs≠ys->C6 xs ys=false->C6 ys xs=true
 | [],[],_,_,hn,_=>absurd rfl hn
 | [],_ :: _,_,_,_,h=>by simp [C6]at h
 | _ :: _,[],_,_,_,_=>by simp [C6]
 | x :: xs,y :: ys,hx,hy,hn,h=>by
  simp only [Ao,Bool.and_eq_true]at hx hy
  simp only [C6]at h ⊢
  cases e:PyData.eqv x y with
  | true =>
   have b:=He x y hx.1 hy.1 e
   subst b
   rw [e]at h ⊢
   exact Ob xs ys hx.2 hy.2 (λz=>hn (by rw [z])) h
  | false =>
   rw [e]at h
   have a:=(Qi hx.1 hy.1).mp e
   rw [(Qi hy.1 hx.1).mpr (bH a)]
   exact Sd x y hx.1 hy.1 a h
end
end L2
namespace L2
open PySem PySem.W PyProof.Rows
section
variable {n:Nat}{lt:Nat->Nat->Bool}{p:Array Nat}{s:iW}{prog:i_}{w:jA}{A:jC}{E:iV->iW->Prop}{κ:jM}{it:Array jH}
structure StrictOrd(n:Nat)(lt:Nat->Nat->Bool):Prop where
 tr:∀a b c,a < n->b < n->c < n->lt a b=true->lt b c=true->lt a c=true
 tot:∀a b,a < n->b < n->a≠b->lt a b=false->lt b a=true
 irr:∀a,a < n->lt a a=false
structure Pm(n:Nat)(p:Array Nat):Prop where
 size:p.size=n
 lt:∀i,i < n->p.getD i 0 < n
 inj:∀i j,i < n->j < n->i≠j->p.getD i 0≠p.getD j 0
 perm:p.toList.Perm (List.range n)
theorem FA{p:Array Nat}(h:p.toList.Perm (List.range n)):Pm n p:=by
 have f:p.size=n:=by
  have:=h.length_eq
  simpa using this
 have b:∀i,(a:i < n)->p.getD i 0=p[i]'(by omega):=λi a=>by simp [Array.getD,show i < p.size by omega]
 refine⟨f,λi a=>?_,λi j a hj d e=>?_,h⟩
 ·rw [b i a]
  have:p[i]'(by omega)∈p.toList:=by simp
  exact XZ.mp (h.mem_iff.mp this)
 ·rw [b i a,b j hj]at e
  have nd:p.toList.Nodup:=h.nodup_iff.mpr eO
  have c:p.toList[i]?=p.toList[j]?:=by
   rw [V_,V_,XW (by omega),XW (by omega),e]
  exact d ((iB (by simpa using (by omega:i < p.size)) nd).mp c)
def Up(lt:Nat->Nat->Bool)(p:Array Nat)(k:Nat):Prop:=∀i j,i < j->j < k->lt (p.getD i 0) (p.getD j 0)=true
structure WeakOrd(n:Nat)(lt:Nat->Nat->Bool):Prop where
 tr:∀a b c,a < n->b < n->c < n->lt b a=false->lt c b=false->lt c a=false
 asy:∀a b,a < n->b < n->lt a b=true->lt b a=false
theorem WeakOrd.irr{a:Nat}(O:WeakOrd n lt)(ha:a < n):lt a a=false:=by
 cases c:lt a a with
 | false=>rfl
 | true=>have:=O.asy a a ha ha c;rw [c]at this;cases this
theorem WeakOrd.low{a b c:Nat}(O:WeakOrd n lt)(ha:a < n)(hb:b < n)(hc:c < n)(h1:lt a b=true)(h2:lt c b=false):lt a c=true:=by
 cases e:lt a c with
 | true=>rfl
 | false=>rw [O.tr b c a hb hc ha h2 e]at h1;cases h1
theorem WeakOrd.high{a b c:Nat}(O:WeakOrd n lt)(ha:a < n)(hb:b < n)(hc:c < n)(h1:lt b a=false)(h2:lt b c=true):lt a c=true:=by
 cases e:lt a c with
 | true=>rfl
 | false=>rw [O.tr c a b hc ha hb e h1]at h2;cases h2
def VH(lt:Nat->Nat->Bool)(p:Array Nat)(k:Nat):Prop:=∀i j,i < j->j < k->lt (p.getD j 0) (p.getD i 0)=false
def gallop':Bool->jH->Array jH->Nat->Nat->Nat->StateT jL Sem (Option Nat):=sortPriv% PySem.Builtin.gallop
def setMinGallop':Nat->StateT jL Sem Unit:=sortPriv% PySem.Builtin.setMinGallop
theorem Ql(left:Bool)(b:jH)(e:Array jH)(base n a:Nat):gallop' left b e base n a=(do
 let d (i:Nat):StateT jL Sem (Option Bool):=do
  let x <- elem' e (base+i)
  if left then lt' x b else return (<- lt' b x).map (!·)
 let mut lastofs:=0
 let mut ofs:=1
 let mut lo:=0
 let mut hi:=0
 let some right <- d a | return none
 if right then
  let c:=n - a
  for _ in [0:n] do
   if ofs>=c then break
   let some more <- d (a+ofs) | return none
   if !more then break
   lastofs:=ofs
   ofs:=2 * ofs+1
  lo:=a+lastofs+1
  hi:=a+min ofs c
 else
  let c:=a+1
  for _ in [0:n] do
   if ofs>=c then break
   let some found <- d (a - ofs) | return none
   if found then break
   lastofs:=ofs
   ofs:=2 * ofs+1
  lo:=a+1 - min ofs c
  hi:=a - lastofs
 for _ in [0:n] do
  if lo>=hi then break
  let m:=lo+(hi - lo) / 2
  let some more <- d m | return none
  if more then lo:=m+1 else hi:=m
 return some hi):=rfl
def Cmp(prog:i_)(w:jA)(A:jC)(κ:jM)(it:Array jH)(n:Nat)(lt:Nat->Nat->Bool)(s:iW):Prop :=
 ∀(i j:Nat) (C:Bool->iW->Prop),i < n->j < n->C (lt i j) s->kas_cmp prog w A κ it i j C s
theorem Xc(hc:Cmp prog w A κ it n lt s){st:jL}(hk:kindOf st=κ){i j:Nat}(d:i < n)(hj:j < n){Q:Option Bool->jL->Prop}(h:Q (some (lt i j)) st):wpS (model prog w) A E s (lt' (kas_item it i) (kas_item it j)) Q st:=by
 rw [lt'_eq]
 refine T_ (fQ ?_)
 rw [hk]
 refine T_ (iK (dZ (ZW (hc i j (λc a=>a=s/\c=lt i j) d hj ⟨rfl,rfl⟩) (λc a e=>?_) λ_ _ b=>b.elim)))
 obtain⟨rfl,rfl⟩:=e
 exact⟨rfl,XM h⟩
theorem Bp{st:jL}{p:Array Nat}{i:Nat}(a:i < p.size){Q:jH->jL->Prop}(h:Q (kas_item it (p.getD i 0)) st):wpS (model prog w) A E s (elem' (p.map (kas_item it)) i) Q st:=by
 rw [elem'_eq]
 have e:(p.map (kas_item it))[i]?=some (kas_item it (p.getD i 0)):=by
  rw [Array.getElem?_map,XW a]
  simp [Array.getD,a]
 rw [e]
 exact XM h
structure Step(f:Nat->Bool)(n k:Nat):Prop where
 le:k<=n
 yes:∀i,i < k->f i=true
 no:∀i,k<=i->i < n->f i=false
def byd(left:Bool)(a:jH)(b:Array jH)(base i:Nat):StateT jL Sem (Option Bool):=do
 let x <- elem' b (base+i)
 if left then lt' x a else return (<- lt' a x).map (!·)
theorem Oc{left:Bool}{C:jH}{H:Array jH}{base m a:Nat}{f:Nat->Bool}{st:jL}(F:a < m)
  (hf:∀i Q,i < m->Q (some (f i)) st->wpS (model prog w) A E s (byd left C H base i) Q st)
  (o:∀i j,i<=j->j < m->f j=true->f i=true) {Q:Option Nat->jL->Prop} (h:∀k,Step f m k->Q (some k) st):wpS (model prog w) A E s (gallop' left C H base m a) Q st:=by
 rw [Ql]
 dsimp only
 have D:∀i j,i<=j->j < m->f i=false->f j=false:=λi j L hj e=>by
  cases c:f j with
  | false=>rfl
  | true=>rw [o i j L hj c]at e;cases e
 refine T_ (hf a _ F ?_)
 dsimp only
 cases J:f a with
 | true =>
  rw [Q_ rfl]
  refine T_ (aV (ZQ (I:=λx c q=>q=st/\∃d b,c=(none,d,b)/\d < b/\d < m - a/\x+1<=b/\f (a+d)=true) (Q:=λc q=>q=st/\∃d b,c=(none,d,b)/\d < b/\d < m - a/\f (a+d)=true/\(b < m - a->f (a+b)=false)) ?_ ?_ ⟨rfl,0,1,rfl,eQ _,Nat.sub_pos_of_lt F,E_ _,J⟩) ?_)
  ·rintro x c q _ hx ⟨rfl,d,b,rfl,h1,h2,B,t⟩
   dsimp only
   by_cases c:b>=m - a
   ·rw [Q_ c]
    exact XM ⟨rfl,d,b,rfl,h1,h2,t,λz=>by omega⟩
   ·rw [J_ c]
    refine T_ (hf _ _ (by omega) ?_)
    dsimp only
    cases e:f (a+b) with
    | false =>
     rw [Q_ (show(!false)=true from rfl)]
     exact XM ⟨rfl,d,b,rfl,h1,h2,t,λ_=>e⟩
    | true =>
     rw [J_ (show ¬(!true)=true by decide)]
     exact XM ⟨rfl,b,_,rfl,by omega,eT c,by omega,e⟩
  ·rintro c q ⟨rfl,d,b,rfl,h1,h2,B,t⟩
   exact⟨rfl,d,b,rfl,h1,h2,t,λz=>by omega⟩
  ·rintro c q ⟨rfl,d,b,rfl,h1,h2,t,G⟩
   have u:∀i,a+min b (m - a)<=i->i < m->f i=false:=λi g v=>by
    rcases Y_ b (m - a) with c | c
    ·exact D _ i (by omega) v (G c)
    ·omega
   dsimp only
   refine T_ (aV (ZQ (I:=λx c r=>r=q/\∃lo g,c=(none,lo,g)/\lo<=g/\g<=m/\g - lo<=m - x/\(∀i,i < lo->f i=true)/\(∀i,g<=i->i < m->f i=false)) (Q:=λc r=>r=q/\∃k,c=(none,k,k)/\Step f m k) ?_ ?_ ⟨rfl,_,_,rfl,by omega,by omega,by omega,λi g=>o i _ (ZH g) (by omega) t,u⟩) ?_)
   ·rintro x c r _ hx ⟨rfl,lo,g,rfl,h1,h2,B,l,u⟩
    dsimp only
    by_cases c:lo>=g
    ·rw [Q_ c]
     have:lo=g:=by omega
     subst this
     exact XM ⟨rfl,lo,rfl,h2,l,u⟩
    ·rw [J_ c]
     refine T_ (hf _ _ (by omega) ?_)
     dsimp only
     cases e:f (lo+(g - lo) / 2) with
     | true =>
      rw [Q_ rfl]
      refine XM ⟨rfl,_,_,rfl,by omega,h2,by omega,λi y=>o i _ (ZH y) (by omega) e,u⟩
     | false =>
      rw [J_ L_]
      exact XM ⟨rfl,_,_,rfl,YG _ _,by omega,by omega,l,λi y v=>D _ i y v e⟩
   ·rintro c r ⟨rfl,lo,g,rfl,h1,h2,B,l,u⟩
    have:lo=g:=by omega
    subst this
    exact⟨rfl,lo,rfl,h2,l,u⟩
   ·rintro c r ⟨rfl,k,rfl,hk⟩
    exact XM (h k hk)
 | false =>
  rw [J_ L_]
  refine T_ (aV (ZQ (I:=λx c q=>q=st/\∃d b,c=(none,d,b)/\d < b/\d<=a/\x+1<=b/\f (a - d)=false) (Q:=λc q=>q=st/\∃d b,c=(none,d,b)/\d < b/\d<=a/\f (a - d)=false/\(b < a+1->f (a - b)=true)) ?_ ?_ ⟨rfl,0,1,rfl,eQ _,XQ _,E_ _,J⟩) ?_)
  ·rintro x c q _ hx ⟨rfl,d,b,rfl,h1,h2,B,t⟩
   dsimp only
   by_cases c:b>=a+1
   ·rw [Q_ c]
    exact XM ⟨rfl,d,b,rfl,h1,h2,t,λz=>by omega⟩
   ·rw [J_ c]
    refine T_ (hf _ _ (ZL (gI a b) F) ?_)
    dsimp only
    cases e:f (a - b) with
    | true =>
     rw [Q_ rfl]
     exact XM ⟨rfl,d,b,rfl,h1,h2,t,λ_=>e⟩
    | false =>
     rw [J_ L_]
     exact XM ⟨rfl,b,_,rfl,by omega,by omega,by omega,e⟩
  ·rintro c q ⟨rfl,d,b,rfl,h1,h2,B,t⟩
   exact⟨rfl,d,b,rfl,h1,h2,t,λz=>by omega⟩
  ·rintro c q ⟨rfl,d,b,rfl,h1,h2,t,G⟩
   have l:∀i,i < a+1 - min b (a+1)->f i=true:=λi g=>by
    rcases Y_ b (a+1) with c | c
    ·exact o i (a - b) (by omega) (ZL (gI a b) F) (G c)
    ·omega
   dsimp only
   refine T_ (aV (ZQ (I:=λx c r=>r=q/\∃lo g,c=(none,lo,g)/\lo<=g/\g<=m/\g - lo<=m - x/\(∀i,i < lo->f i=true)/\(∀i,g<=i->i < m->f i=false)) (Q:=λc r=>r=q/\∃k,c=(none,k,k)/\Step f m k) ?_ ?_ ⟨rfl,_,_,rfl,by omega,by omega,by omega,l,λi g v=>D _ i g v t⟩) ?_)
   ·rintro x c r _ hx ⟨rfl,lo,g,rfl,h1,h2,B,l,u⟩
    dsimp only
    by_cases c:lo>=g
    ·rw [Q_ c]
     have:lo=g:=by omega
     subst this
     exact XM ⟨rfl,lo,rfl,h2,l,u⟩
    ·rw [J_ c]
     refine T_ (hf _ _ (by omega) ?_)
     dsimp only
     cases e:f (lo+(g - lo) / 2) with
     | true =>
      rw [Q_ rfl]
      refine XM ⟨rfl,_,_,rfl,by omega,h2,by omega,λi y=>o i _ (ZH y) (by omega) e,u⟩
     | false =>
      rw [J_ L_]
      exact XM ⟨rfl,_,_,rfl,YG _ _,by omega,by omega,l,λi y v=>D _ i y v e⟩
   ·rintro c r ⟨rfl,lo,g,rfl,h1,h2,B,l,u⟩
    have:lo=g:=by omega
    subst this
    exact⟨rfl,lo,rfl,h2,l,u⟩
   ·rintro c r ⟨rfl,k,rfl,hk⟩
    exact XM (h k hk)
end
def mergeLo':Array jH->Array jH->StateT jL Sem (Array jH):=sortPriv% PySem.Builtin.mergeLo
def mergeHi':Array jH->Array jH->StateT jL Sem (Array jH):=sortPriv% PySem.Builtin.mergeHi
theorem Cj(g:Nat):setMinGallop' g=modify λst=>SortSt.mk' (kindOf st) (arrOf st) (pendingOf st) g (failedOf st):=rfl
theorem Od(a b:Array jH):mergeLo' a b=(do
 rule "list.sort.merge-lo"
 let f:=a.size+b.size
 let done (out:Array jH) (c d:Nat):=out++a.extract c a.size++b.extract d b.size
 let e (out:Array jH) (c d:Nat):=out++b.extract d b.size++a.extract c a.size
 let mut out:Array jH:=#[<- elem' b 0]
 let mut c:=0
 let mut d:=1
 if d==b.size then return done out c d
 if c+1==a.size then return e out c d
 let mut minGallop:=gallopOf (<- get)
 for _ in [0:f] do
  let mut acount:=0
  let mut bcount:=0
  for _ in [0:f] do
   let some bWins <- lt' (<- elem' b d) (<- elem' a c) | return done out c d
   if bWins then
    out:=out.push (<- elem' b d);d:=d+1;bcount:=bcount+1;acount:=0
    if d==b.size then return done out c d
    if bcount>=minGallop then break
   else
    out:=out.push (<- elem' a c);c:=c+1;acount:=acount+1;bcount:=0
    if c+1==a.size then return e out c d
    if acount>=minGallop then break
  rule "list.sort.gallop"
  minGallop:=minGallop+1
  for _ in [0:f] do
   if minGallop > 1 then minGallop:=minGallop - 1
   setMinGallop' minGallop
   let some k <- gallop' false (<- elem' b d) a c (a.size - c) 0 | return done out c d
   acount:=k
   if k > 0 then
    out:=out++a.extract c (c+k);c:=c+k
    if c+1==a.size then return e out c d
    if c==a.size then return done out c d
   out:=out.push (<- elem' b d);d:=d+1
   if d==b.size then return done out c d
   let some k <- gallop' true (<- elem' a c) b d (b.size - d) 0 | return done out c d
   bcount:=k
   if k > 0 then
    out:=out++b.extract d (d+k);d:=d+k
    if d==b.size then return done out c d
   out:=out.push (<- elem' a c);c:=c+1
   if c+1==a.size then return e out c d
   if acount < 7 && bcount < 7 then break
  minGallop:=minGallop+1
  setMinGallop' minGallop
 unsupported "internal:list.sort.merge-bound"):=rfl
section
variable {prog:i_}{w:jA}{A:jC}{E:iV->iW->Prop}{s:iW}{κ:jM}{it:Array jH}{n:Nat}{lt:Nat->Nat->Bool}
abbrev at0(p:Array Nat)(i:Nat):Nat:=p.getD i 0
theorem IP(O:WeakOrd n lt)(hc:Cmp prog w A κ it n lt s){st:jL}(hk:kindOf st=κ){p:Array Nat}{a base m b:Nat}(o:b < m)(hb:base+m<=p.size)(hp:∀i,i < p.size->at0 p i < n)(l:a < n)
  (d:∀i j,base<=i->i < j->j < base+m->lt (at0 p j) (at0 p i)=false) {Q:Option Nat->jL->Prop}
  (h:∀k,k<=m->(∀i,i < k->lt a (at0 p (base+i))=false)->(∀i,k<=i->i < m->lt a (at0 p (base+i))=true)->Q (some k) st):wpS (model prog w) A E s (gallop' false (kas_item it a) (p.map (kas_item it)) base m b) Q st:=by
 refine Oc (f:=λi=>!lt a (at0 p (base+i))) o (λi u g q=>?_) (λi j r hj e=>?_) λk c=>h k c.le (λi g=>by simpa using c.yes i g) (λi h1 h2=>by simpa using c.no i h1 h2)
 ·unfold byd
  refine T_ (Bp (by omega) ?_)
  rw [J_ L_]
  exact T_ (Xc hc hk l (hp _ (by omega)) (XM q))
 ·rcases YE r with rfl | hlt
  ·exact e
  ·have t:lt a (at0 p (base+j))=false:=by simpa using e
   have:=O.tr _ _ _ (hp (base+i) (by omega)) (hp (base+j) (by omega)) l (d (base+i) (base+j) (YG _ _) (aM hlt base) (aM hj base)) t
   simpa using this
theorem IQ(O:WeakOrd n lt)(hc:Cmp prog w A κ it n lt s){st:jL}(hk:kindOf st=κ){p:Array Nat}{a base m b:Nat}(l:b < m)(hb:base+m<=p.size)(hp:∀i,i < p.size->at0 p i < n)(g:a < n)
  (d:∀i j,base<=i->i < j->j < base+m->lt (at0 p j) (at0 p i)=false) {Q:Option Nat->jL->Prop}
  (h:∀k,k<=m->(∀i,i < k->lt (at0 p (base+i)) a=true)->(∀i,k<=i->i < m->lt (at0 p (base+i)) a=false)->Q (some k) st):wpS (model prog w) A E s (gallop' true (kas_item it a) (p.map (kas_item it)) base m b) Q st:=by
 refine Oc (f:=λi=>lt (at0 p (base+i)) a) l (λi t r q=>?_) (λi j o hj e=>?_) λk c=>h k c.le c.yes c.no
 ·unfold byd
  refine T_ (Bp (by omega) ?_)
  rw [Q_ rfl]
  exact Xc hc hk (hp _ (by omega)) g q
 ·rcases YE o with rfl | hlt
  ·exact e
  ·exact O.high (hp (base+i) (by omega)) (hp (base+j) (by omega)) g (d (base+i) (base+j) (YG _ _) (aM hlt base) (aM hj base)) e
def Lc(lt:Nat->Nat->Bool)(p:Array Nat):Prop:=∀i j,i < j->j < p.size->lt (at0 p j) (at0 p i)=false
def In(n:Nat)(p:Array Nat):Prop:=∀i,i < p.size->at0 p i < n
structure MI(lt:Nat->Nat->Bool)(a b out:Array Nat)(ia ib:Nat):Prop where
 ha:ia<=a.size
 hb:ib<=b.size
 sz:out.size=ia+ib
 perm:out.toList.Perm (a.toList.take ia++b.toList.take ib)
 srt:out.toList.Pairwise λx y=>lt y x=false
 lea:∀x∈out.toList,∀j,ia<=j->j < a.size->lt (at0 a j) x=false
 leb:∀x∈out.toList,∀j,ib<=j->j < b.size->lt (at0 b j) x=false
theorem Bx(a:Array Nat)(i k:Nat):(a.extract i (i+k)).toList=(a.toList.drop i).take k:=by
 rw [Array.toList_extract,List.extract_eq_take_drop,Nat.add_sub_cancel_left]
theorem Ld(l:List Nat)(i k:Nat):l.take (i+k)=l.take i++(l.drop i).take k:=List.take_add ..
theorem Eu{a:Array Nat}{i k x:Nat}(h:x∈(a.toList.drop i).take k):∃j,i<=j/\j < i+k/\j < a.size/\x=at0 a j:=by
 obtain⟨m,b,e⟩:=dD h
 rw [X_,cH,XU]at b
 rw [List.getElem_take,List.getElem_drop]at e
 refine⟨i+m,YG _ _,by omega,by omega,?_⟩
 rw [<- e]
 simp [at0,Array.getD,show i+m < a.size by omega]
theorem Se{a:Array Nat}(h:Lc lt a)(i k:Nat):((a.toList.drop i).take k).Pairwise λx y=>lt y x=false:=by
 have:a.toList.Pairwise λx y=>lt y x=false:=by
  rw [bO]
  intro x y hx hy b
  have:=h x y b (by simpa using hy)
  simp only [Array.length_toList]at hx hy
  simpa [at0,Array.getD,hx,hy] using this
 exact(this.sublist (List.drop_sublist ..)).sublist (fM ..)
theorem MI.chunkA{a b e:Array Nat}{c f k:Nat}(h:MI lt a b e c f)(g:Lc lt a)(hk:c+k<=a.size)(o:∀i,i < k->∀j,f<=j->j < b.size->lt (at0 b j) (at0 a (c+i))=false):MI lt a b (e++a.extract c (c+k)) (c+k) f:=by
 refine⟨hk,h.hb,?_,?_,?_,?_,?_⟩
 ·rw [iC,h.sz,dU];omega
 ·rw [aN,Bx,Ld]
  refine(fS _ h.perm).trans ?_
  rw [aQ,aQ]
  exact List.Perm.append_left _ List.perm_append_comm
 ·rw [aN,Bx,cV]
  refine⟨h.srt,Se g _ _,λx hx y hy=>?_⟩
  obtain⟨j,j1,d,p,rfl⟩:=Eu hy
  exact h.lea x hx j j1 p
 ·intro x hx j j1 d
  rw [aN,Bx]at hx
  rcases O_.mp hx with hx | hx
  ·exact h.lea x hx j (G_ (YG c k) j1) d
  ·obtain⟨m,m1,m2,l,rfl⟩:=Eu hx
   exact g m j (by omega) d
 ·intro x hx j j1 d
  rw [aN,Bx]at hx
  rcases O_.mp hx with hx | hx
  ·exact h.leb x hx j j1 d
  ·obtain⟨m,m1,m2,l,rfl⟩:=Eu hx
   have:=o (m - c) (by omega) j j1 d
   rwa [show c+(m - c)=m from YY m1]at this
theorem MI.chunkB{a b e:Array Nat}{f c k:Nat}(h:MI lt a b e f c)(g:Lc lt b)(hk:c+k<=b.size)(o:∀i,i < k->∀j,f<=j->j < a.size->lt (at0 a j) (at0 b (c+i))=false):MI lt a b (e++b.extract c (c+k)) f (c+k):=by
 refine⟨h.ha,hk,?_,?_,?_,?_,?_⟩
 ·rw [iC,h.sz,dU];omega
 ·rw [aN,Bx,Ld,<- aQ]
  exact fS _ h.perm
 ·rw [aN,Bx,cV]
  refine⟨h.srt,Se g _ _,λx hx y hy=>?_⟩
  obtain⟨j,j1,d,p,rfl⟩:=Eu hy
  exact h.leb x hx j j1 p
 ·intro x hx j j1 d
  rw [aN,Bx]at hx
  rcases O_.mp hx with hx | hx
  ·exact h.lea x hx j j1 d
  ·obtain⟨m,m1,m2,l,rfl⟩:=Eu hx
   have:=o (m - c) (by omega) j j1 d
   rwa [show c+(m - c)=m from YY m1]at this
 ·intro x hx j j1 d
  rw [aN,Bx]at hx
  rcases O_.mp hx with hx | hx
  ·exact h.leb x hx j (G_ (YG c k) j1) d
  ·obtain⟨m,m1,m2,l,rfl⟩:=Eu hx
   exact g m j (by omega) d
theorem Mo{a:Array Nat}{i:Nat}(h:i < a.size)(b:Array Nat):b.push (at0 a i)=b++a.extract i (i+1):=by
 apply iL.mp
 rw [fU,aN,Bx,YV (by simpa using h)]
 simp [at0,Array.getD,h]
theorem MI.pushA{a b d:Array Nat}{c e:Nat}(h:MI lt a b d c e)(k:Lc lt a)(hk:c < a.size)(g:∀j,e<=j->j < b.size->lt (at0 b j) (at0 a c)=false):MI lt a b (d.push (at0 a c)) (c+1) e:=by
 rw [Mo hk]
 exact h.chunkA k hk λi l j j1 f=>by rw [show c+i=c by omega];exact g j j1 f
theorem MI.pushB{a b d:Array Nat}{e c:Nat}(h:MI lt a b d e c)(k:Lc lt b)(hk:c < b.size)(g:∀j,e<=j->j < a.size->lt (at0 a j) (at0 b c)=false):MI lt a b (d.push (at0 b c)) e (c+1):=by
 rw [Mo hk]
 exact h.chunkB k hk λi l j j1 f=>by rw [show c+i=c by omega];exact g j j1 f
structure Mgd(lt:Nat->Nat->Bool)(a b R:Array Nat):Prop where
 perm:R.toList.Perm (a.toList++b.toList)
 srt:R.toList.Pairwise λx y=>lt y x=false
theorem MI.end_{a b c:Array Nat}(h:MI lt a b c a.size b.size):Mgd lt a b c:=by
 refine⟨?_,h.srt⟩
 have:=h.perm
 rwa [cD (by simp),cD (by simp)]at this
theorem MI.doneB{a b d:Array Nat}{c:Nat}(h:MI lt a b d c b.size)(e:Lc lt a):Mgd lt a b (d++a.extract c a.size++b.extract b.size b.size):=by
 have h1:=h.chunkA (k:=a.size - c) e (by have:=h.ha;omega) λi _ j j1 f=>by omega
 rw [show c+(a.size - c)=a.size by have:=h.ha;exact YY this]at h1
 have:=h1.end_
 rwa [show b.extract b.size b.size=#[] by simp,Array.append_empty]
theorem MI.doneA{a b d:Array Nat}{c:Nat}(h:MI lt a b d a.size c)(e:Lc lt b):Mgd lt a b (d++a.extract a.size a.size++b.extract c b.size):=by
 have h1:=h.chunkB (k:=b.size - c) e (by have:=h.hb;omega) λi _ j j1 f=>by omega
 rw [show c+(b.size - c)=b.size by have:=h.hb;exact YY this]at h1
 have:=h1.end_
 rwa [show a.extract a.size a.size=#[] by simp,Array.append_empty]
theorem MI.lastA{a b d:Array Nat}{e c:Nat}(h:MI lt a b d e c)(o:Lc lt a)(m:Lc lt b)(f:e+1=a.size)(l:∀j,j < b.size->lt (at0 a (a.size - 1)) (at0 b j)=false):Mgd lt a b (d++b.extract c b.size++a.extract e a.size):=by
 have h1:=h.chunkB (k:=b.size - c) m (by have:=h.hb;omega) λi _ j j1 g=>by
  rw [show j=a.size - 1 by omega];exact l _ (by omega)
 rw [show c+(b.size - c)=b.size by have:=h.hb;exact YY this]at h1
 have h2:=h1.chunkA (k:=1) o (dS f) λi _ j j1 g=>by omega
 rw [f]at h2
 exact h2.end_
theorem FB(b a:Array Nat)(i k:Nat):b.map (kas_item it)++(a.map (kas_item it)).extract i k=(b++a.extract i k).map (kas_item it):=by
 rw [gJ,cW]
theorem FC(a:Array Nat)(x:Nat):(a.map (kas_item it)).push (kas_item it x)=(a.push x).map (kas_item it):=Array.map_push.symm
abbrev RX:=Option (Array jH)×Array jH×Nat×Nat×Nat×Nat×Nat
abbrev B6(st:jL)(g:Nat):jL:=SortSt.mk' (kindOf st) (arrOf st) (pendingOf st) g (failedOf st)
def BL(a b c:Array jH)(d g mg e f:Nat):StateT jL Sem (ForInStep RX) :=
 elem' a d >>= λy =>
  if(d+1+1==a.size)=true then pure (ForInStep.done (some (c.push y++b.extract g b.size++a.extract (d+1) a.size),c.push y,d+1,g,mg,e,f))
  else if(decide (e < 7) && decide (f < 7))=true then pure (ForInStep.done (none,c.push y,d+1,g,mg,e,f))
  else pure (ForInStep.yield (none,c.push y,d+1,g,mg,e,f))
def BM(a b d:Array jH)(e c mg f g:Nat):StateT jL Sem (ForInStep RX) :=
 elem' b c >>= λy =>
  if(c+1==b.size)=true then pure (ForInStep.done (some (d.push y++a.extract e a.size++b.extract (c+1) b.size),d.push y,e,c+1,mg,f,g))
  else elem' a e >>= λz=>gallop' true z b (c+1) (b.size - (c+1)) 0 >>= λx =>
   match x with
   | some k=>if k > 0 then
     (if(c+1+k==b.size)=true then pure (ForInStep.done (some (d.push y++b.extract (c+1) (c+1+k)++a.extract e a.size++b.extract (c+1+k) b.size),d.push y++b.extract (c+1) (c+1+k),e,c+1+k,mg,f,k))
     else BL a b (d.push y++b.extract (c+1) (c+1+k)) e (c+1+k) mg f k)
    else BL a b (d.push y) e (c+1) mg f k
   | _=>pure (ForInStep.done (some (d.push y++a.extract e a.size++b.extract (c+1) b.size),d.push y,e,c+1,mg,f,g))
def IR(a b d:Array jH)(c e mg g f:Nat):StateT jL Sem (ForInStep RX) :=
 setMinGallop' mg >>= λ_=>elem' b e >>= λy=>gallop' false y a c (a.size - c) 0 >>= λx =>
  match x with
  | some k=>if k > 0 then
    (if(c+k+1==a.size)=true then pure (ForInStep.done (some (d++a.extract c (c+k)++b.extract e b.size++a.extract (c+k) a.size),d++a.extract c (c+k),c+k,e,mg,k,f))
    else if(c+k==a.size)=true then pure (ForInStep.done (some (d++a.extract c (c+k)++a.extract (c+k) a.size++b.extract e b.size),d++a.extract c (c+k),c+k,e,mg,k,f))
    else BM a b (d++a.extract c (c+k)) (c+k) e mg k f)
   else BM a b d c e mg k f
  | _=>pure (ForInStep.done (some (d++a.extract c a.size++b.extract e b.size),d,c,e,mg,g,f))
structure Mid(lt:Nat->Nat->Bool)(it:Array jH)(a b:Array Nat)(q:Nat)(o:Array jH)(ia ib:Nat):Prop where
 m:∃out:Array Nat,o=out.map (kas_item it)/\MI lt a b out ia ib
 ha:ia+1 < a.size
 hb:ib < b.size
 q:q<=ia+ib
structure MPre(n:Nat)(lt:Nat->Nat->Bool)(a b:Array Nat):Prop where
 na:0 < a.size
 nb:0 < b.size
 ia:In n a
 ib:In n b
 ua:Lc lt a
 ub:Lc lt b
 h0:lt (at0 b 0) (at0 a 0)=true
 hl:∀j,j < b.size->lt (at0 b j) (at0 a (a.size - 1))=true
theorem MPre.le{a b:Array Nat}(O:WeakOrd n lt)(p:MPre n lt a b):∀j,j < b.size->lt (at0 a (a.size - 1)) (at0 b j)=false:=λj hj=>O.asy _ _ (p.ib j hj) (p.ia _ (by have:=p.na;exact iR this (by decide))) (p.hl j hj)
section
variable {a b:Array Nat}{st:jL}{Qd Qy:RX->jL->Prop}{out:Array Nat}{ia ib mg ac bc:Nat}
theorem FD(O:WeakOrd n lt)(p:MPre n lt a b)(M:MI lt a b out ia ib)(ha:ia+1 < a.size)(hb:ib < b.size)(k:∀j,ib<=j->j < b.size->lt (at0 b j) (at0 a ia)=false)
  (d:∀R c,Mgd lt a b R->c.1=some (R.map (kas_item it))->Qd c st) (h:∀o i j m x y,Mid lt it a b (ia+ib+1) o i j->Qd (none,o,i,j,m,x,y) st/\Qy (none,o,i,j,m,x,y) st) :
  wpS (model prog w) A E s (BL (a.map (kas_item it)) (b.map (kas_item it)) (out.map (kas_item it)) ia ib mg ac bc) (λr f=>match r with | .done c'=>Qd c' f | .yield c'=>Qy c' f) st:=by
 unfold BL
 refine T_ (Bp (ZI ha) ?_)
 have M1:=M.pushA p.ua (ZI ha) k
 simp only [Array.size_map,FC,FB]
 by_cases e:ia+1+1=a.size
 ·rw [Q_ (by simpa using e)]
  exact XM (d _ _ (M1.lastA p.ua p.ub e (p.le O)) rfl)
 ·rw [J_ (by simpa using e)]
  have g:=h _ _ _ mg ac bc (⟨⟨_,rfl,M1⟩,by omega,hb,by omega⟩:Mid lt it a b (ia+ib+1) _ (ia+1) ib)
  split
  ·exact XM g.1
  ·exact XM g.2
theorem FE(O:WeakOrd n lt)(hc:Cmp prog w A κ it n lt s)(hk:kindOf st=κ)(p:MPre n lt a b)(M:MI lt a b out ia ib)(ha:ia+1 < a.size)(hb:ib < b.size)(B:∀j,ia<=j->j < a.size->lt (at0 a j) (at0 b ib)=false)
  (d:∀R c,Mgd lt a b R->c.1=some (R.map (kas_item it))->Qd c st) (v:∀o i j m x y,Mid lt it a b (ia+ib+1) o i j->Qd (none,o,i,j,m,x,y) st/\Qy (none,o,i,j,m,x,y) st) :
  wpS (model prog w) A E s (BM (a.map (kas_item it)) (b.map (kas_item it)) (out.map (kas_item it)) ia ib mg ac bc) (λr t=>match r with | .done c'=>Qd c' t | .yield c'=>Qy c' t) st:=by
 unfold BM
 refine T_ (Bp hb ?_)
 have M1:=M.pushB p.ub hb B
 have g:∀k,∀o i j m x y,Mid lt it a b (ia+(ib+1+k)+1) o i j->Qd (none,o,i,j,m,x,y) st/\Qy (none,o,i,j,m,x,y) st:=λk o i j m x y h=>v o i j m x y ⟨h.m,h.ha,h.hb,by have:=h.q;omega⟩
 simp only [Array.size_map,FC]
 by_cases e:ib+1=b.size
 ·rw [Q_ (by simpa using e)]
  refine XM (d _ _ (show Mgd lt a b (out.push (at0 b ib)++a.extract ia a.size++b.extract (ib+1) b.size) from ?_) (by simp only [FB]))
  have:=(show MI lt a b (out.push (at0 b ib)) ia b.size by rw [<- e];exact M1).doneB p.ua
  rw [e];exact this
 ·rw [J_ (by simpa using e)]
  refine T_ (Bp (ZI ha) ?_)
  refine T_ (IQ O hc hk (by omega) (by omega) p.ib (p.ia ia (ZI ha)) (λi j h1 h2 F=>p.ub i j h2 (by omega)) λk D z l=>?_)
  dsimp only
  have M2:=M1.chunkB (k:=k) p.ub (by omega) λi C j j1 f=>by
   have h1:=z i C
   rcases YE j1 with rfl | j1
   ·exact O.asy _ _ (p.ib _ (by omega)) (p.ia _ f) h1
   ·exact O.tr _ _ _ (p.ib _ (by omega)) (p.ia ia (by omega)) (p.ia _ f) (O.asy _ _ (p.ib _ (by omega)) (p.ia _ (by omega)) h1) (p.ua ia j j1 f)
  by_cases u:k > 0
  ·rw [Q_ u]
   simp only [FB]
   by_cases e2:ib+1+k=b.size
   ·rw [Q_ (by simpa using e2)]
    refine XM (d _ _ (show Mgd lt a b (out.push (at0 b ib)++b.extract (ib+1) (ib+1+k)++a.extract ia a.size++b.extract (ib+1+k) b.size) from ?_) rfl)
    rw [e2]at M2 ⊢
    exact M2.doneB p.ua
   ·rw [J_ (by simpa using e2)]
    refine FD O p M2 ha (by omega) (λj j1 f=>?_) d (g k)
    have:=l (j - (ib+1)) (by omega) (by omega)
    rwa [show ib+1+(j - (ib+1))=j by omega]at this
  ·rw [J_ u]
   refine FD O p M1 ha (by omega) (λj j1 f=>?_) d (g 0)
   have:=l (j - (ib+1)) (by omega) (by omega)
   rwa [show ib+1+(j - (ib+1))=j from YY j1]at this
theorem OK(O:WeakOrd n lt)(hc:Cmp prog w A κ it n lt s)(hk:kindOf st=κ)(p:MPre n lt a b)(M:MI lt a b out ia ib)(ha:ia+1 < a.size)(hb:ib < b.size)
  (d:∀R c,Mgd lt a b R->c.1=some (R.map (kas_item it))->Qd c (B6 st mg)) (v:∀o i j m x y,Mid lt it a b (ia+ib+1) o i j->Qd (none,o,i,j,m,x,y) (B6 st mg)/\Qy (none,o,i,j,m,x,y) (B6 st mg)) :
  wpS (model prog w) A E s (IR (a.map (kas_item it)) (b.map (kas_item it)) (out.map (kas_item it)) ia ib mg ac bc) (λr t=>match r with | .done c'=>Qd c' t | .yield c'=>Qy c' t) st:=by
 unfold IR
 rw [Cj]
 refine T_ (bZ (T_ (Bp hb ?_)))
 simp only [Array.size_map]
 refine T_ (IP O hc (st:=B6 st mg) hk (by omega) (by omega) p.ia (p.ib ib hb) (λi j h1 h2 G=>p.ua i j h2 (by omega)) λk F z C=>?_)
 dsimp only
 have M1:=M.chunkA (k:=k) p.ua (by omega) λi D j j1 f=>by
  have h1:=z i D
  rcases YE j1 with rfl | j1
  ·exact h1
  ·exact O.tr _ _ _ (p.ia _ (by omega)) (p.ib ib hb) (p.ib _ f) h1 (p.ub ib j j1 f)
 have e:∀j,ia+k<=j->j < a.size->lt (at0 a j) (at0 b ib)=false:=λj j1 f=>by
  have:=C (j - ia) (by omega) (by omega)
  rw [show ia+(j - ia)=j by omega]at this
  exact O.asy _ _ (p.ib ib hb) (p.ia j f) this
 have l:∀o i j m x y,Mid lt it a b (ia+k+ib+1) o i j->Qd (none,o,i,j,m,x,y) (B6 st mg)/\Qy (none,o,i,j,m,x,y) (B6 st mg):=λo i j m x y h=>v o i j m x y ⟨h.m,h.ha,h.hb,by have:=h.q;omega⟩
 by_cases u:k > 0
 ·rw [Q_ u]
  simp only [FB]
  by_cases g:ia+k+1=a.size
  ·rw [Q_ (by simpa using g)]
   exact XM (d _ _ (M1.lastA p.ua p.ub g (p.le O)) rfl)
  ·rw [J_ (by simpa using g)]
   by_cases e2:ia+k=a.size
   ·rw [Q_ (by simpa using e2)]
    refine XM (d _ _ (show Mgd lt a b (out++a.extract ia (ia+k)++a.extract (ia+k) a.size++b.extract ib b.size) from ?_) rfl)
    rw [e2]at M1 ⊢
    exact M1.doneA p.ub
   ·rw [J_ (by simpa using e2)]
    exact FE O hc (st:=B6 st mg) hk p M1 (by omega) hb e d l
 ·rw [J_ u]
  have B:k=0:=by omega
  subst B
  exact FE O hc (st:=B6 st mg) hk p M ha hb e d l
end
theorem MI.zero(a b:Array Nat):MI lt a b #[] 0 0:=⟨XQ _,XQ _,rfl,by simp,.nil,λ_ h=>by simp at h,λ_ h=>by simp at h⟩
theorem MPre.first{a b:Array Nat}(O:WeakOrd n lt)(p:MPre n lt a b):MI lt a b #[at0 b 0] 0 1:=by
 refine(MI.zero a b).pushB p.ub p.nb λj _ c=>?_
 rcases fE j with rfl | j1
 ·exact O.asy _ _ (p.ib 0 p.nb) (p.ia 0 c) p.h0
 ·exact O.tr _ _ _ (p.ib 0 p.nb) (p.ia 0 p.na) (p.ia j c) (O.asy _ _ (p.ib 0 p.nb) (p.ia 0 p.na) p.h0) (p.ua 0 j j1 c)
theorem Uu(O:WeakOrd n lt)(hc:Cmp prog w A κ it n lt s){a b:Array Nat}{st:jL}(hk:kindOf st=κ)(p:MPre n lt a b){Q:Array jH->jL->Prop}(h:∀R g,Mgd lt a b R->Q (R.map (kas_item it)) (B6 st g)) :
  wpS (model prog w) A E s (mergeLo' (a.map (kas_item it)) (b.map (kas_item it))) Q st:=by
 rw [Od]
 dsimp only
 have V:=p.first O
 have na:=p.na
 have Z:=p.nb
 have Y:#[kas_item it (b.getD 0 0)]=(#[at0 b 0]:Array Nat).map (kas_item it):=by simp
 refine T_ (iK (aW ⟨rfl,?_⟩))
 refine T_ (Bp Z ?_)
 rw [Y]
 by_cases T:1=b.size
 ·rw [Q_ (by simpa using T)]
  simp only [Array.size_map,FB]
  refine XM (h _ (gallopOf st) ?_)
  have:=(show MI lt a b #[at0 b 0] 0 b.size by rw [<- T];exact V).doneB p.ua
  rw [<- T]at this ⊢
  exact this
 rw [J_ (by simpa using T)]
 by_cases e2:0+1=a.size
 ·rw [Q_ (by simpa using e2)]
  simp only [Array.size_map,FB]
  exact XM (h _ (gallopOf st) (V.lastA p.ua p.ub e2 (p.le O)))
 rw [J_ (by simpa using e2)]
 refine T_ (fQ ?_)
 have sa:(a.map (kas_item it)).size=a.size:=dJ ..
 have sb:(b.map (kas_item it)).size=b.size:=dJ ..
 refine T_ (aV (ZQ (I:=λx c d=>(∃g,d=B6 st g)/\c.1=none/\Mid lt it a b (1+x) c.2.1 c.2.2.1 c.2.2.2.1) (Q:=λc d=>(∃g,d=B6 st g)/\∃R,c.1=some (R.map (kas_item it))/\Mgd lt a b R) ?_ ?_ ⟨⟨gallopOf st,rfl⟩,rfl,⟨_,rfl,V⟩,by show 0+1 < _;omega,by show 1 < _;omega,by show 1+0<=0+1;exact E_ _⟩) ?_)
 ·rintro x ⟨P,o,z,B,t⟩ d _ hx ⟨⟨g,rfl⟩,rfl,⟨l,D,M⟩,ha,hb,hq⟩
  dsimp only at D M ha hb hq ⊢
  subst D
  refine T_ (aV (ZQ (I:=λx c d=>d=B6 st g/\c.1=none/\Mid lt it a b (z+B+x) c.2.1 c.2.2.1 c.2.2.2.1) (Q:=λc d=>d=B6 st g/\((∃R,c.1=some (R.map (kas_item it))/\Mgd lt a b R)\/(c.1=none/\Mid lt it a b (z+B+1) c.2.1 c.2.2.1 c.2.2.2.1))) ?_ ?_ ⟨rfl,rfl,⟨l,rfl,M⟩,ha,hb,E_ _⟩) ?_)
  ·clear M ha hb
   rintro y ⟨P,o,f,k,L,N⟩ d _ hy ⟨rfl,rfl,⟨l,D,M⟩,ha,hb,u⟩
   dsimp only at D M ha hb u ⊢
   subst D
   refine T_ (Bp hb (T_ (Bp (ZI ha) (T_ (Xc hc (st:=B6 st g) hk (p.ib _ hb) (p.ia _ (ZI ha)) ?_)))))
   dsimp only
   cases e:lt (b.getD k 0) (a.getD f 0) with
   | true =>
    rw [Q_ rfl]
    refine T_ (Bp hb ?_)
    have M1:=M.pushB p.ub hb λj j1 H=>by
     have W:=O.asy _ _ (p.ib _ hb) (p.ia f (ZL j1 H)) e
     rcases YE j1 with rfl | j1
     ·exact W
     ·exact O.tr _ _ _ (p.ib _ hb) (p.ia f (by omega)) (p.ia _ H) W (p.ua f j j1 H)
    simp only [FC]
    by_cases F:k+1=b.size
    ·rw [Q_ (by simpa using F)]
     simp only [FB,Array.size_map]
     refine XM ⟨rfl,.inl ⟨_,rfl,?_⟩⟩
     rw [F]at M1 ⊢
     exact M1.doneB p.ua
    ·rw [J_ (by simpa using F)]
     by_cases J:N+1>=t <;> simp only [J,if_true,if_false]
     ·exact XM ⟨rfl,.inr ⟨rfl,⟨_,rfl,M1⟩,ha,by show k+1 < _;omega,by show _<=f+(k+1);omega⟩⟩
     ·exact XM ⟨rfl,rfl,⟨_,rfl,M1⟩,ha,by show k+1 < _;omega,by show _<=f+(k+1);omega⟩
   | false =>
    rw [J_ L_]
    refine T_ (Bp (ZI ha) ?_)
    have M1:=M.pushA p.ua (ZI ha) λj j1 H=>by
     rcases YE j1 with rfl | j1
     ·exact e
     ·exact O.tr _ _ _ (p.ia f (ZI ha)) (p.ib _ hb) (p.ib _ H) e (p.ub k j j1 H)
    simp only [FC]
    by_cases F:f+1+1=a.size
    ·rw [Q_ (by simpa using F)]
     simp only [FB,Array.size_map]
     exact XM ⟨rfl,.inl ⟨_,rfl,M1.lastA p.ua p.ub F (p.le O)⟩⟩
    ·rw [J_ (by simpa using F)]
     by_cases J:L+1>=t <;> simp only [J,if_true,if_false]
     ·exact XM ⟨rfl,.inr ⟨rfl,⟨_,rfl,M1⟩,by show f+1+1 < _;omega,hb,by show _<=f+1+k;omega⟩⟩
     ·exact XM ⟨rfl,rfl,⟨_,rfl,M1⟩,by show f+1+1 < _;omega,hb,by show _<=f+1+k;omega⟩
  ·rintro c d ⟨_,_,⟨l,_,M⟩,U,X,u⟩
   omega
  ·rintro⟨P,o,f,k,L,N⟩ d ⟨rfl,⟨R,rfl,G⟩ | ⟨rfl,v⟩⟩
   ·exact XM ⟨⟨g,rfl⟩,R,rfl,G⟩
   ·dsimp only at v ⊢
    refine T_ (iK (aW ⟨rfl,?_⟩))
    refine T_ (aV (ZQ (I:=λx c d=>(∃g,d=B6 st g)/\c.1=none/\Mid lt it a b (z+B+1+x) c.2.1 c.2.2.1 c.2.2.2.1) (Q:=λc d=>(∃g,d=B6 st g)/\((∃R,c.1=some (R.map (kas_item it))/\Mgd lt a b R)\/(c.1=none/\Mid lt it a b (z+B+1) c.2.1 c.2.2.1 c.2.2.2.1))) ?_ ?_ ⟨⟨g,rfl⟩,rfl,v⟩) ?_)
    ·clear v
     rintro y ⟨P,o,f,k,t,L,N⟩ d _ hy ⟨⟨g,rfl⟩,rfl,⟨l,D,M⟩,ha,hb,u⟩
     dsimp only at D M ha hb u ⊢
     subst D
     have S:∀t,wpS (model prog w) A E s (IR (a.map (kas_item it)) (b.map (kas_item it)) (l.map (kas_item it)) f k t L N) (λr d=>match r with
       | .done c=>(∃g,d=B6 st g)/\((∃R,c.1=some (R.map (kas_item it))/\Mgd lt a b R)\/(c.1=none/\Mid lt it a b (z+B+1) c.2.1 c.2.2.1 c.2.2.2.1))
       | .yield c=>(∃g,d=B6 st g)/\c.1=none/\Mid lt it a b (z+B+1+(y+1)) c.2.1 c.2.2.1 c.2.2.2.1) (B6 st g):=λt =>
      OK (Qd:=λc d=>(∃g,d=B6 st g)/\((∃R,c.1=some (R.map (kas_item it))/\Mgd lt a b R)\/(c.1=none/\Mid lt it a b (z+B+1) c.2.1 c.2.2.1 c.2.2.2.1)))
       (Qy:=λc d=>(∃g,d=B6 st g)/\c.1=none/\Mid lt it a b (z+B+1+(y+1)) c.2.1 c.2.2.1 c.2.2.2.1) O hc (st:=B6 st g) hk p M ha hb (λR c G e=>⟨⟨t,rfl⟩,.inl ⟨R,e,G⟩⟩)
       λo i j m x y C=>⟨⟨⟨t,rfl⟩,.inr ⟨rfl,C.m,C.ha,C.hb,by have:=C.q;show _<=i+j;omega⟩⟩,⟨t,rfl⟩,rfl,C.m,C.ha,C.hb,by have:=C.q;show _<=i+j;omega⟩
     by_cases J:t > 1
     ·rw [Q_ J]
      refine aV (S (t - 1)) ?_
      rintro(c | c) d hh <;> exact hh
     ·rw [J_ J]
      refine aV (S t) ?_
      rintro(c | c) d hh <;> exact hh
    ·rintro c d ⟨⟨g,rfl⟩,h1,h2⟩
     exact⟨⟨g,rfl⟩,.inr ⟨h1,h2.m,h2.ha,h2.hb,by have:=h2.q;omega⟩⟩
    ·rintro⟨P,o,f,k,t,L,N⟩ d ⟨⟨g,rfl⟩,⟨R,rfl,G⟩ | ⟨rfl,v⟩⟩
     ·exact XM ⟨⟨g,rfl⟩,R,rfl,G⟩
     ·dsimp only at v ⊢
      rw [Cj]
      refine T_ (bZ (XM ⟨⟨_,rfl⟩,rfl,v.m,v.ha,v.hb,?_⟩))
      have:=v.q
      show _<=f+k
      omega
 ·rintro c d ⟨_,_,⟨l,_,M⟩,U,X,u⟩
  omega
 ·rintro⟨P,o⟩ d ⟨⟨g,rfl⟩,R,rfl,G⟩
  exact XM (h R g G)
end
theorem Oe(a b:Array jH):mergeHi' a b=(do
 rule "list.sort.merge-hi"
 let d:=a.size+b.size
 let done (out:Array jH) (na nb:Nat):=a.extract 0 na++b.extract 0 nb++out.reverse
 let c (out:Array jH) (na nb:Nat):=b.extract 0 nb++a.extract 0 na++out.reverse
 let mut na:=a.size - 1
 let mut nb:=b.size
 let mut out:Array jH:=#[<- elem' a na]
 if na==0 then return done out na nb
 if nb==1 then return c out na nb
 let mut minGallop:=gallopOf (<- get)
 for _ in [0:d] do
  let mut acount:=0
  let mut bcount:=0
  for _ in [0:d] do
   let some aWins <- lt' (<- elem' b (nb - 1)) (<- elem' a (na - 1)) | return done out na nb
   if aWins then
    na:=na - 1;out:=out.push (<- elem' a na);acount:=acount+1;bcount:=0
    if na==0 then return done out na nb
    if acount>=minGallop then break
   else
    nb:=nb - 1;out:=out.push (<- elem' b nb);bcount:=bcount+1;acount:=0
    if nb==1 then return c out na nb
    if bcount>=minGallop then break
  rule "list.sort.gallop"
  minGallop:=minGallop+1
  for _ in [0:d] do
   if minGallop > 1 then minGallop:=minGallop - 1
   setMinGallop' minGallop
   let some at_ <- gallop' false (<- elem' b (nb - 1)) a 0 na (na - 1) | return done out na nb
   let k:=na - at_
   acount:=k
   if k > 0 then
    out:=out++(a.extract at_ na).reverse;na:=at_
    if na==0 then return done out na nb
   nb:=nb - 1;out:=out.push (<- elem' b nb)
   if nb==1 then return c out na nb
   let some at_ <- gallop' true (<- elem' a (na - 1)) b 0 nb (nb - 1) | return done out na nb
   let k:=nb - at_
   bcount:=k
   if k > 0 then
    out:=out++(b.extract at_ nb).reverse;nb:=at_
    if nb==1 then return c out na nb
    if nb==0 then return done out na nb
   na:=na - 1;out:=out.push (<- elem' a na)
   if na==0 then return done out na nb
   if acount < 7 && bcount < 7 then break
  minGallop:=minGallop+1
  setMinGallop' minGallop
 unsupported "internal:list.sort.merge-bound"):=rfl
section
variable {prog:i_}{w:jA}{A:jC}{E:iV->iW->Prop}{s:iW}{κ:jM}{it:Array jH}{n:Nat}{lt:Nat->Nat->Bool}
abbrev flp(lt:Nat->Nat->Bool):Nat->Nat->Bool:=λx y=>lt y x
theorem WeakOrd.fl(O:WeakOrd n lt):WeakOrd n (flp lt):=⟨λa b c ha hb hc h1 h2=>O.tr c b a hc hb ha h2 h1,λa b ha hb h=>O.asy b a hb ha h⟩
theorem Co{p:Array Nat}{i:Nat}(h:i < p.size):at0 p.reverse i=at0 p (p.size - 1 - i):=by
 simp [at0,Array.getD,h,show p.size - 1 - i < p.size by omega]
theorem Mp(p:Array Nat){i j:Nat}(h:i<=j)(hj:j<=p.size):p.reverse.extract (p.size - j) (p.size - j+(j - i))=(p.extract i j).reverse:=by
 apply iL.mp
 rw [Bx,bE,bE,show j=i+(j - i) by omega,Bx,show i+(j - i)=j from YY h]
 apply bV
 intro k
 by_cases hk:k < j - i
 ·rw [cY hk,gY,gB (by simp;omega),gB (by simp;omega),cY (by simp;omega),gY]
  congr 1
  simp;omega
 ·rw [ZD (by simp;omega),ZD (by simp;omega)]
theorem Iq(p:Array Nat){j:Nat}(hj:j<=p.size):p.reverse.extract (p.size - j) p.reverse.size=(p.extract 0 j).reverse:=by
 rw [<- Mp p (XQ j) hj,YQ]
 congr 1;omega
theorem MPre.fl{a b:Array Nat}(O:WeakOrd n lt)(p:MPre n lt a b):MPre n (flp lt) b.reverse a.reverse:=by
 have g:=p.na
 have d:=p.nb
 refine⟨by simpa using d,by simpa using g,λi c=>?_,λi c=>?_,λi j f hj=>?_,λi j f hj=>?_,?_,λj hj=>?_⟩
 ·rw [YQ]at c;rw [Co c];exact p.ib _ (by omega)
 ·rw [YQ]at c;rw [Co c];exact p.ia _ (by omega)
 ·rw [YQ]at hj
  show lt (at0 b.reverse i) (at0 b.reverse j)=false
  rw [Co hj,Co (YZ f hj)]
  exact p.ub _ _ (by omega) (by omega)
 ·rw [YQ]at hj
  show lt (at0 a.reverse i) (at0 a.reverse j)=false
  rw [Co hj,Co (YZ f hj)]
  exact p.ua _ _ (by omega) (by omega)
 ·show lt (at0 b.reverse 0) (at0 a.reverse 0)=true
  rw [Co g,Co d]
  exact p.hl _ (by omega)
 ·rw [YQ]at hj
  show lt (at0 b.reverse (b.reverse.size - 1)) (at0 a.reverse j)=true
  rw [YQ,Co hj,Co (iR d (by decide)),show b.size - 1 - (b.size - 1)=0 by omega]
  rcases fE (a.size - 1 - j) with e | e
  ·rw [e];exact p.h0
  ·exact O.low (p.ib 0 d) (p.ia 0 g) (p.ia _ (by omega)) p.h0 (p.ua 0 _ e (by omega))
theorem Mgd.fl{a b R:Array Nat}(h:Mgd (flp lt) b.reverse a.reverse R):Mgd lt a b R.reverse:=by
 refine⟨?_,?_⟩
 ·rw [bE]
  refine(iD _).trans (h.perm.trans ?_)
  rw [bE,bE]
  exact((iD _).append (iD _)).trans List.perm_append_comm
 ·rw [bE,List.pairwise_reverse]
  exact h.srt
structure HM(lt:Nat->Nat->Bool)(a b out:Array Nat)(na nb:Nat):Prop where
 ha:na<=a.size
 hb:nb<=b.size
 m:MI (flp lt) b.reverse a.reverse out (b.size - nb) (a.size - na)
section
variable {a b out:Array Nat}{na nb:Nat}
theorem Lc.fl(h:Lc lt a):Lc (flp lt) a.reverse:=λi j c hj=>by
 rw [YQ]at hj
 show lt (at0 a.reverse i) (at0 a.reverse j)=false
 rw [Co hj,Co (YZ c hj)]
 exact h _ _ (by omega) (by omega)
theorem HM.chunkA(h:HM lt a b out na nb)(e:Lc lt a){k:Nat}(hk:k<=na)(d:∀i,k<=i->i < na->∀j,j < nb->lt (at0 a i) (at0 b j)=false):HM lt a b (out++(a.extract k na).reverse) k nb:=by
 have h1:=h.ha
 have h2:=h.hb
 refine⟨G_ hk h1,h2,?_⟩
 have:=h.m.chunkB (k:=na - k) e.fl (by rw [YQ];omega) λi f j j1 c=>by
  rw [YQ]at c
  show lt (at0 a.reverse _) (at0 b.reverse j)=false
  rw [Co c,Co (by omega)]
  exact d _ (by omega) (by omega) _ (by omega)
 rw [Mp a hk h1,show a.size - na+(na - k)=a.size - k by omega]at this
 exact this
theorem HM.chunkB(h:HM lt a b out na nb)(e:Lc lt b){k:Nat}(hk:k<=nb)(d:∀i,k<=i->i < nb->∀j,j < na->lt (at0 b i) (at0 a j)=false):HM lt a b (out++(b.extract k nb).reverse) na k:=by
 have h1:=h.ha
 have h2:=h.hb
 refine⟨h1,G_ hk h2,?_⟩
 have:=h.m.chunkA (k:=nb - k) e.fl (by rw [YQ];omega) λi f j j1 c=>by
  rw [YQ]at c
  show lt (at0 b.reverse _) (at0 a.reverse j)=false
  rw [Co c,Co (by omega)]
  exact d _ (by omega) (by omega) _ (by omega)
 rw [Mp b hk h2,show b.size - nb+(nb - k)=b.size - k by omega]at this
 exact this
theorem Sg{p:Array Nat}{i:Nat}(h:i < p.size)(out:Array Nat):out.push (at0 p i)=out++(p.extract i (i+1)).reverse:=by
 rw [Mo h]
 congr 1
 apply iL.mp
 rw [bE,Bx,YV (by simpa using h)]
 simp
theorem HM.pushA(h:HM lt a b out na nb)(d:Lc lt a)(f:0 < na)(c:∀j,j < nb->lt (at0 a (na - 1)) (at0 b j)=false):HM lt a b (out.push (at0 a (na - 1))) (na - 1) nb:=by
 have h1:=h.ha
 rw [Sg (show na - 1 < a.size by omega),show na - 1+1=na by omega]
 exact h.chunkA d (gI _ _) λi e g j hj=>by rw [show i=na - 1 by omega];exact c j hj
theorem HM.pushB(h:HM lt a b out na nb)(d:Lc lt b)(f:0 < nb)(c:∀j,j < na->lt (at0 b (nb - 1)) (at0 a j)=false):HM lt a b (out.push (at0 b (nb - 1))) na (nb - 1):=by
 have h1:=h.hb
 rw [Sg (show nb - 1 < b.size by omega),show nb - 1+1=nb by omega]
 exact h.chunkB d (gI _ _) λi e g j hj=>by rw [show i=nb - 1 by omega];exact c j hj
theorem HM.doneA(h:HM lt a b out 0 nb)(c:Lc lt b):Mgd lt a b (a.extract 0 0++b.extract 0 nb++out.reverse):=by
 have h2:=h.hb
 have:=(MI.doneB (a:=b.reverse) (b:=a.reverse) (by rw [YQ];exact h.m) c.fl).fl
 rw [Iq b h2,bT,bT,eC]at this
 rw [show(a.reverse.extract a.reverse.size a.reverse.size).reverse=a.extract 0 0 by simp,<- fB]at this
 exact this
theorem HM.doneB(h:HM lt a b out na 0)(c:Lc lt a):Mgd lt a b (a.extract 0 na++b.extract 0 0++out.reverse):=by
 have h1:=h.ha
 have:=(MI.doneA (a:=b.reverse) (b:=a.reverse) (by rw [YQ];exact h.m) c.fl).fl
 rw [Iq a h1,bT,bT,eC]at this
 rw [show(b.reverse.extract b.reverse.size b.reverse.size).reverse=b.extract 0 0 by simp,<- fB]at this
 exact this
theorem HM.firstB(O:WeakOrd n lt)(p:MPre n lt a b)(h:HM lt a b out na 1):Mgd lt a b (b.extract 0 1++a.extract 0 na++out.reverse):=by
 have h1:=h.ha
 have h2:=h.hb
 have:=(h.m.lastA p.ub.fl p.ua.fl (by rw [YQ];exact Nat.sub_add_cancel h2) ((p.fl O).le O.fl)).fl
 rw [Iq a h1,Iq b h2,bT,bT,eC,eC,<- fB]at this
 exact this
end
theorem VJ(b a:Array Nat)(i k:Nat):b.map (kas_item it)++((a.map (kas_item it)).extract i k).reverse=(b++(a.extract i k).reverse).map (kas_item it):=by
 rw [gJ,Array.map_reverse,cW]
theorem FF(x y z:Array Nat)(i j k l:Nat):(x.map (kas_item it)).extract i j++(y.map (kas_item it)).extract k l++(z.map (kas_item it)).reverse=(x.extract i j++y.extract k l++z.reverse).map (kas_item it):=by
 rw [gJ,gJ,Array.map_reverse,cW,cW]
abbrev RY:=Option (Array jH)×Nat×Nat×Array jH×Nat×Nat×Nat
def BN(a b c:Array jH)(d g mg e f:Nat):StateT jL Sem (ForInStep RY) :=
 elem' a (d - 1) >>= λy =>
  if(d - 1==0)=true then pure (ForInStep.done (some (a.extract 0 (d - 1)++b.extract 0 g++(c.push y).reverse),d - 1,g,c.push y,mg,e,f))
  else if(decide (e < 7) && decide (f < 7))=true then pure (ForInStep.done (none,d - 1,g,c.push y,mg,e,f))
  else pure (ForInStep.yield (none,d - 1,g,c.push y,mg,e,f))
def BO(a b c:Array jH)(e d mg f g:Nat):StateT jL Sem (ForInStep RY) :=
 elem' b (d - 1) >>= λy =>
  if(d - 1==1)=true then pure (ForInStep.done (some (b.extract 0 (d - 1)++a.extract 0 e++(c.push y).reverse),e,d - 1,c.push y,mg,f,g))
  else elem' a (e - 1) >>= λz=>gallop' true z b 0 (d - 1) (d - 1 - 1) >>= λx =>
   match x with
   | some k=>if d - 1 - k > 0 then
     (if(k==1)=true then pure (ForInStep.done (some (b.extract 0 k++a.extract 0 e++(c.push y++(b.extract k (d - 1)).reverse).reverse),e,k,c.push y++(b.extract k (d - 1)).reverse,mg,f,d - 1 - k))
     else if(k==0)=true then pure (ForInStep.done (some (a.extract 0 e++b.extract 0 k++(c.push y++(b.extract k (d - 1)).reverse).reverse),e,k,c.push y++(b.extract k (d - 1)).reverse,mg,f,d - 1 - k))
     else BN a b (c.push y++(b.extract k (d - 1)).reverse) e k mg f (d - 1 - k))
    else BN a b (c.push y) e (d - 1) mg f (d - 1 - k)
   | _=>pure (ForInStep.done (some (a.extract 0 e++b.extract 0 (d - 1)++(c.push y).reverse),e,d - 1,c.push y,mg,f,g))
def IS(a b c:Array jH)(d e mg g f:Nat):StateT jL Sem (ForInStep RY) :=
 setMinGallop' mg >>= λ_=>elem' b (e - 1) >>= λy=>gallop' false y a 0 d (d - 1) >>= λx =>
  match x with
  | some k=>if d - k > 0 then
    (if(k==0)=true then pure (ForInStep.done (some (a.extract 0 k++b.extract 0 e++(c++(a.extract k d).reverse).reverse),k,e,c++(a.extract k d).reverse,mg,d - k,f))
    else BO a b (c++(a.extract k d).reverse) k e mg (d - k) f)
   else BO a b c d e mg (d - k) f
  | _=>pure (ForInStep.done (some (a.extract 0 d++b.extract 0 e++c.reverse),d,e,c,mg,g,f))
structure HMid(lt:Nat->Nat->Bool)(it:Array jH)(a b:Array Nat)(q:Nat)(o:Array jH)(na nb:Nat):Prop where
 m:∃out:Array Nat,o=out.map (kas_item it)/\HM lt a b out na nb
 ha:0 < na
 hb:1 < nb
 q:na+nb+q<=a.size+b.size
section
variable {a b:Array Nat}{st:jL}{Qd Qy:RY->jL->Prop}{out:Array Nat}{na nb mg ac bc:Nat}
theorem FG(O:WeakOrd n lt)(p:MPre n lt a b)(M:HM lt a b out na nb)(ha:0 < na)(hb:1 < nb)(l:∀j,j < nb->lt (at0 a (na - 1)) (at0 b j)=false){q:Nat}(hq:na+nb+q<=a.size+b.size)
  (d:∀R c,Mgd lt a b R->c.1=some (R.map (kas_item it))->Qd c st) (k:∀o i j m x y,HMid lt it a b (q+1) o i j->Qd (none,i,j,o,m,x,y) st/\Qy (none,i,j,o,m,x,y) st) :
  wpS (model prog w) A E s (BN (a.map (kas_item it)) (b.map (kas_item it)) (out.map (kas_item it)) na nb mg ac bc) (λr h=>match r with | .done c'=>Qd c' h | .yield c'=>Qy c' h) st:=by
 have h1:=M.ha
 unfold BN
 refine T_ (Bp (by omega) ?_)
 have M1:=M.pushA p.ua ha l
 simp only [FC,FF]
 by_cases e:na - 1=0
 ·rw [Q_ (by simpa using e)]
  refine XM (d _ _ (show Mgd lt a b (a.extract 0 (na - 1)++b.extract 0 nb++(out.push (at0 a (na - 1))).reverse) from ?_) rfl)
  have:=(show HM lt a b (out.push (at0 a (na - 1))) 0 nb by rw [<- e];rw [e]at M1 ⊢;exact M1).doneA p.ub
  rw [e]at this ⊢
  exact this
 ·rw [J_ (by simpa using e)]
  have g:=k _ _ _ mg ac bc (⟨⟨_,rfl,M1⟩,bB e,hb,by omega⟩:HMid lt it a b (q+1) _ (na - 1) nb)
  by_cases f:(decide (ac < 7) && decide (bc < 7))=true
  ·rw [Q_ f];exact XM g.1
  ·rw [J_ f];exact XM g.2
theorem FH(O:WeakOrd n lt)(hc:Cmp prog w A κ it n lt s)(hk:kindOf st=κ)(p:MPre n lt a b)(M:HM lt a b out na nb)(ha:0 < na)(hb:1 < nb)(D:∀j,j < na->lt (at0 b (nb - 1)) (at0 a j)=false){q:Nat}(hq:na+nb+q<=a.size+b.size)
  (d:∀R c,Mgd lt a b R->c.1=some (R.map (kas_item it))->Qd c st) (h:∀o i j m x y,HMid lt it a b (q+1) o i j->Qd (none,i,j,o,m,x,y) st/\Qy (none,i,j,o,m,x,y) st) :
  wpS (model prog w) A E s (BO (a.map (kas_item it)) (b.map (kas_item it)) (out.map (kas_item it)) na nb mg ac bc) (λr t=>match r with | .done c'=>Qd c' t | .yield c'=>Qy c' t) st:=by
 have h1:=M.ha
 have h2:=M.hb
 unfold BO
 refine T_ (Bp (by omega) ?_)
 have M1:=M.pushB p.ub (ZI hb) D
 simp only [FC]
 by_cases e:nb - 1=1
 ·rw [Q_ (by simpa using e)]
  simp only [FF]
  refine XM (d _ _ (show Mgd lt a b (b.extract 0 (nb - 1)++a.extract 0 na++(out.push (at0 b (nb - 1))).reverse) from ?_) rfl)
  rw [e]at M1 ⊢
  exact M1.firstB O p
 ·rw [J_ (by simpa using e)]
  refine T_ (Bp (by omega) ?_)
  refine T_ (IQ O hc hk (by omega) (by omega) p.ib (p.ia (na - 1) (by omega)) (λi j _ h2 F=>p.ub i j h2 (by omega)) λk z g l=>?_)
  dsimp only
  simp only [Nat.zero_add]at g l
  have v:∀i,k<=i->i < nb - 1->∀j,j < na->lt (at0 b i) (at0 a j)=false:=λi B C j hj=>by
   have f:=l i B C
   rcases YE (show j<=na - 1 by omega) with rfl | hj'
   ·exact f
   ·exact O.tr _ _ _ (p.ia j (by omega)) (p.ia (na - 1) (by omega)) (p.ib i (by omega)) (p.ua j (na - 1) hj' (by omega)) f
  have M2:=M1.chunkB p.ub (k:=k) z v
  by_cases u:nb - 1 - k > 0
  ·rw [Q_ u]
   simp only [VJ,FF]
   by_cases f:k=1
   ·rw [Q_ (by simpa using f)]
    refine XM (d _ _ (show Mgd lt a b (b.extract 0 k++a.extract 0 na++(out.push (at0 b (nb - 1))++(b.extract k (nb - 1)).reverse).reverse) from ?_) rfl)
    subst f
    exact M2.firstB O p
   ·rw [J_ (by simpa using f)]
    by_cases e2:k=0
    ·rw [Q_ (by simpa using e2)]
     refine XM (d _ _ (show Mgd lt a b (a.extract 0 na++b.extract 0 k++(out.push (at0 b (nb - 1))++(b.extract k (nb - 1)).reverse).reverse) from ?_) rfl)
     subst e2
     exact M2.doneB p.ua
    ·rw [J_ (by simpa using e2)]
     exact FG O p M2 ha (by omega) (λj hj=>O.asy _ _ (p.ib j (by omega)) (p.ia _ (by omega)) (g j hj)) (q:=q) (by omega) d h
  ·rw [J_ u]
   exact FG O p M1 ha (by omega) (λj hj=>O.asy _ _ (p.ib j (by omega)) (p.ia _ (by omega)) (g j (by omega))) (q:=q) (by omega) d h
theorem OL(O:WeakOrd n lt)(hc:Cmp prog w A κ it n lt s)(hk:kindOf st=κ)(p:MPre n lt a b)(M:HM lt a b out na nb)(ha:0 < na)(hb:1 < nb){q:Nat}(hq:na+nb+q<=a.size+b.size)
  (e:∀R c,Mgd lt a b R->c.1=some (R.map (kas_item it))->Qd c (B6 st mg)) (h:∀o i j m x y,HMid lt it a b (q+1) o i j->Qd (none,i,j,o,m,x,y) (B6 st mg)/\Qy (none,i,j,o,m,x,y) (B6 st mg)) :
  wpS (model prog w) A E s (IS (a.map (kas_item it)) (b.map (kas_item it)) (out.map (kas_item it)) na nb mg ac bc) (λr t=>match r with | .done c'=>Qd c' t | .yield c'=>Qy c' t) st:=by
 have h1:=M.ha
 have h2:=M.hb
 unfold IS
 rw [Cj]
 refine T_ (bZ (T_ (Bp (by omega) ?_)))
 refine T_ (IP O hc (st:=B6 st mg) hk (iR ha (by decide)) (by omega) p.ia (p.ib (nb - 1) (by omega)) (λi j _ h2 C=>p.ua i j h2 (by omega)) λk z f l=>?_)
 dsimp only
 simp only [Nat.zero_add]at f l
 have v:∀i,k<=i->i < na->∀j,j < nb->lt (at0 a i) (at0 b j)=false:=λi B g j hj=>by
  have d:=O.asy _ _ (p.ib (nb - 1) (by omega)) (p.ia i (U_ g h1)) (l i B g)
  rcases YE (show j<=nb - 1 by omega) with rfl | hj'
  ·exact d
  ·exact O.tr _ _ _ (p.ib j (by omega)) (p.ib (nb - 1) (by omega)) (p.ia i (U_ g h1)) (p.ub j (nb - 1) hj' (by omega)) d
 have M1:=M.chunkA p.ua (k:=k) z v
 by_cases u:na - k > 0
 ·rw [Q_ u]
  simp only [VJ,FF]
  by_cases d:k=0
  ·rw [Q_ (by simpa using d)]
   refine XM (e _ _ (show Mgd lt a b (a.extract 0 k++b.extract 0 nb++(out++(a.extract k na).reverse).reverse) from ?_) rfl)
   subst d
   exact M1.doneA p.ub
  ·rw [J_ (by simpa using d)]
   exact FH O hc (st:=B6 st mg) hk p M1 (bB d) hb f (q:=q) (by omega) e h
 ·rw [J_ u]
  exact FH O hc (st:=B6 st mg) hk p M ha hb (λj hj=>f j (by omega)) (q:=q) hq e h
end
theorem MPre.last{a b:Array Nat}(O:WeakOrd n lt)(p:MPre n lt a b):HM lt a b #[at0 a (a.size - 1)] (a.size - 1) b.size:=by
 have c:=p.na
 have e:=p.nb
 have d:HM lt a b #[] a.size b.size:=⟨E_ _,E_ _,by rw [gV,gV];exact MI.zero _ _⟩
 exact d.pushA p.ua c λj hj=>p.le O j hj
theorem Uv(O:WeakOrd n lt)(hc:Cmp prog w A κ it n lt s){a b:Array Nat}{st:jL}(hk:kindOf st=κ)(p:MPre n lt a b){Q:Array jH->jL->Prop}(h:∀R g,Mgd lt a b R->Q (R.map (kas_item it)) (B6 st g)) :
  wpS (model prog w) A E s (mergeHi' (a.map (kas_item it)) (b.map (kas_item it))) Q st:=by
 rw [Oe]
 dsimp only
 have H:=p.last O
 have Z:=p.na
 have nb:=p.nb
 have W:(a.map (kas_item it)).size=a.size:=dJ ..
 have S:(b.map (kas_item it)).size=b.size:=dJ ..
 have V:#[kas_item it (a.getD (a.size - 1) 0)]=(#[at0 a (a.size - 1)]:Array Nat).map (kas_item it):=by simp
 refine T_ (iK (aW ⟨rfl,?_⟩))
 refine T_ (Bp (by omega) ?_)
 rw [W,V]
 by_cases G:a.size - 1=0
 ·rw [Q_ (by simpa using G)]
  simp only [S,FF]
  refine XM (h _ (gallopOf st) ?_)
  have:=(show HM lt a b #[at0 a (a.size - 1)] 0 b.size by rw [G]at H ⊢;exact H).doneA p.ub
  rw [G]at this ⊢
  exact this
 rw [J_ (by simpa using G)]
 by_cases e2:b.size=1
 ·rw [Q_ (by simpa using e2)]
  simp only [S,FF]
  refine XM (h _ (gallopOf st) ?_)
  rw [e2]at H ⊢
  exact H.firstB O p
 rw [J_ (by simpa using e2)]
 refine T_ (fQ ?_)
 refine T_ (aV (ZQ (I:=λx c d=>(∃g,d=B6 st g)/\c.1=none/\HMid lt it a b (1+x) c.2.2.2.1 c.2.1 c.2.2.1) (Q:=λc d=>(∃g,d=B6 st g)/\∃R,c.1=some (R.map (kas_item it))/\Mgd lt a b R) ?_ ?_ ⟨⟨gallopOf st,rfl⟩,rfl,⟨_,rfl,by rw [S];exact H⟩,by show 0 < a.size - 1;exact bB G,by show 1 < (b.map (kas_item it)).size;omega,by show a.size - 1+(b.map (kas_item it)).size+(1+0)<=_;omega⟩) ?_)
 ·rintro x ⟨L,X,Y,o,t⟩ d _ hx ⟨⟨g,rfl⟩,rfl,⟨l,B,M⟩,ha,hb,hq⟩
  dsimp only at B M ha hb hq ⊢
  subst B
  refine T_ (aV (ZQ (I:=λy c d=>d=B6 st g/\c.1=none/\HMid lt it a b (1+x+y) c.2.2.2.1 c.2.1 c.2.2.1) (Q:=λc d=>d=B6 st g/\((∃R,c.1=some (R.map (kas_item it))/\Mgd lt a b R)\/(c.1=none/\HMid lt it a b (1+x+1) c.2.2.2.1 c.2.1 c.2.2.1))) ?_ ?_ ⟨rfl,rfl,⟨l,rfl,M⟩,ha,hb,hq⟩) ?_)
  ·clear M ha hb hq
   rintro y ⟨L,f,k,o,F,J⟩ d _ hy ⟨rfl,rfl,⟨l,B,M⟩,ha,hb,r⟩
   dsimp only at B M ha hb r ⊢
   subst B
   have h1:=M.ha
   have h2:=M.hb
   refine T_ (Bp (by omega) (T_ (Bp (by omega) (T_ (Xc hc (st:=B6 st g) hk (p.ib _ (by omega)) (p.ia _ (by omega)) ?_)))))
   dsimp only
   cases e:lt (b.getD (k - 1) 0) (a.getD (f - 1) 0) with
   | true =>
    rw [Q_ rfl]
    refine T_ (Bp (by omega) ?_)
    have M1:=M.pushA p.ua ha λj hj=>by
     have T:=O.asy _ _ (p.ib _ (by omega)) (p.ia (f - 1) (by omega)) e
     rcases YE (show j<=k - 1 by omega) with rfl | hj'
     ·exact T
     ·exact O.tr _ _ _ (p.ib j (by omega)) (p.ib (k - 1) (by omega)) (p.ia (f - 1) (by omega)) (p.ub j (k - 1) hj' (by omega)) T
    simp only [FC]
    by_cases u:f - 1=0
    ·rw [Q_ (by simpa using u)]
     simp only [FF]
     refine XM ⟨rfl,.inl ⟨_,rfl,?_⟩⟩
     have:=(show HM lt a b (l.push (at0 a (f - 1))) 0 k by rw [u]at M1 ⊢;exact M1).doneA p.ub
     rw [u]at this ⊢
     exact this
    ·rw [J_ (by simpa using u)]
     by_cases D:F+1>=t <;> simp only [D,if_true,if_false]
     ·exact XM ⟨rfl,.inr ⟨rfl,⟨_,rfl,M1⟩,by show 0 < f - 1;exact bB u,hb,by show f - 1+k+_<=_;omega⟩⟩
     ·exact XM ⟨rfl,rfl,⟨_,rfl,M1⟩,by show 0 < f - 1;exact bB u,hb,by show f - 1+k+_<=_;omega⟩
   | false =>
    rw [J_ L_]
    refine T_ (Bp (by omega) ?_)
    have M1:=M.pushB p.ub (ZI hb) λj hj=>by
     rcases YE (show j<=f - 1 by omega) with rfl | hj'
     ·exact e
     ·exact O.tr _ _ _ (p.ia j (by omega)) (p.ia (f - 1) (by omega)) (p.ib (k - 1) (by omega)) (p.ua j (f - 1) hj' (by omega)) e
    simp only [FC]
    by_cases u:k - 1=1
    ·rw [Q_ (by simpa using u)]
     simp only [FF]
     refine XM ⟨rfl,.inl ⟨_,rfl,?_⟩⟩
     rw [u]at M1 ⊢
     exact M1.firstB O p
    ·rw [J_ (by simpa using u)]
     by_cases D:J+1>=t <;> simp only [D,if_true,if_false]
     ·exact XM ⟨rfl,.inr ⟨rfl,⟨_,rfl,M1⟩,ha,by show 1 < k - 1;omega,by show f+(k - 1)+_<=_;omega⟩⟩
     ·exact XM ⟨rfl,rfl,⟨_,rfl,M1⟩,ha,by show 1 < k - 1;omega,by show f+(k - 1)+_<=_;omega⟩
  ·rintro c d ⟨_,_,⟨l,_,M⟩,P,U,r⟩
   omega
  ·rintro⟨L,f,k,o,F,J⟩ d ⟨rfl,⟨R,rfl,C⟩ | ⟨rfl,v⟩⟩
   ·exact XM ⟨⟨g,rfl⟩,R,rfl,C⟩
   ·dsimp only at v ⊢
    refine T_ (iK (aW ⟨rfl,?_⟩))
    refine T_ (aV (ZQ (I:=λy c d=>(∃g,d=B6 st g)/\c.1=none/\HMid lt it a b (1+x+1+y) c.2.2.2.1 c.2.1 c.2.2.1) (Q:=λc d=>(∃g,d=B6 st g)/\((∃R,c.1=some (R.map (kas_item it))/\Mgd lt a b R)\/(c.1=none/\HMid lt it a b (1+x+1) c.2.2.2.1 c.2.1 c.2.2.1))) ?_ ?_ ⟨⟨g,rfl⟩,rfl,v⟩) ?_)
    ·clear v
     rintro y ⟨L,f,k,o,t,F,J⟩ d _ hy ⟨⟨g,rfl⟩,rfl,⟨l,B,M⟩,ha,hb,r⟩
     dsimp only at B M ha hb r ⊢
     subst B
     have N:∀t,wpS (model prog w) A E s (IS (a.map (kas_item it)) (b.map (kas_item it)) (l.map (kas_item it)) f k t F J) _ (B6 st g):=λt =>
      OL (Qd:=λc d=>(∃g,d=B6 st g)/\((∃R,c.1=some (R.map (kas_item it))/\Mgd lt a b R)\/(c.1=none/\HMid lt it a b (1+x+1) c.2.2.2.1 c.2.1 c.2.2.1)))
       (Qy:=λc d=>(∃g,d=B6 st g)/\c.1=none/\HMid lt it a b (1+x+1+(y+1)) c.2.2.2.1 c.2.1 c.2.2.1) O hc (st:=B6 st g) hk p M ha hb (q:=1+x+1+y) r (λR c C e=>⟨⟨t,rfl⟩,.inl ⟨R,e,C⟩⟩)
       λo i j m x y z=>⟨⟨⟨t,rfl⟩,.inr ⟨rfl,z.m,z.ha,z.hb,by have:=z.q;show i+j+_<=_;omega⟩⟩,⟨t,rfl⟩,rfl,z.m,z.ha,z.hb,by have:=z.q;show i+j+_<=_;omega⟩
     by_cases D:t > 1
     ·rw [Q_ D]
      refine aV (N (t - 1)) ?_
      rintro(c | c) d hh <;> exact hh
     ·rw [J_ D]
      refine aV (N t) ?_
      rintro(c | c) d hh <;> exact hh
    ·rintro c d ⟨⟨g,rfl⟩,h1,h2⟩
     exact⟨⟨g,rfl⟩,.inr ⟨h1,h2.m,h2.ha,h2.hb,by have:=h2.q;omega⟩⟩
    ·rintro⟨L,f,k,o,t,F,J⟩ d ⟨⟨g,rfl⟩,⟨R,rfl,C⟩ | ⟨rfl,v⟩⟩
     ·exact XM ⟨⟨g,rfl⟩,R,rfl,C⟩
     ·dsimp only at v ⊢
      rw [Cj]
      refine T_ (bZ (XM ⟨⟨_,rfl⟩,rfl,v.m,v.ha,v.hb,?_⟩))
      have:=v.q
      show f+k+_<=_
      omega
 ·rintro c d ⟨_,_,⟨l,_,M⟩,P,U,r⟩
  omega
 ·rintro⟨L,o⟩ d ⟨⟨g,rfl⟩,R,rfl,C⟩
  exact XM (h R g C)
end
theorem Of(i:Nat):mergeAt' i=(do
 let s <- get
 let(some (e,d,b),some (f,c,_)):=((pendingOf s)[i]?,(pendingOf s)[i+1]?) | unsupported "internal:list.sort.pending"
 set (setPending s (((pendingOf s).setIfInBounds i (e,d+c,b)).eraseIdxIfInBounds (i+1)))
 let some k <- gallop' false (<- elem' (arrOf s) f) (arrOf s) e d 0 | return false
 let(e,d):=(e+k,d - k)
 if d==0 then return true
 let some c <- gallop' true (<- elem' (arrOf s) (e+d - 1)) (arrOf s) f c (c - 1) | return false
 if c==0 then return true
 let x:=(arrOf s).extract e f
 let y:=(arrOf s).extract f (f+c)
 let merged <- if d<=c then mergeLo' x y else mergeHi' x y
 modify λs=>setArr s (merged.toList.zipIdx.foldl (λa (p,j)=>a.setIfInBounds (e+j) p) (arrOf s))
 return (failedOf (<- get)).isNone):=rfl
section
variable {prog:i_}{w:jA}{A:jC}{E:iV->iW->Prop}{s:iW}{κ:jM}{it:Array jH}{n:Nat}{lt:Nat->Nat->Bool}{p:Array Nat}{pd:Array (Nat×Nat×Nat)}{g:Nat}
def SS(κ:jM)(it:Array jH)(p:Array Nat)(pd:Array (Nat×Nat×Nat))(g:Nat):jL:=SortSt.mk' κ (p.map (kas_item it)) pd g none
def Seg(lt:Nat->Nat->Bool)(p:Array Nat)(lo len:Nat):Prop:=∀i j,lo<=i->i < j->j < lo+len->lt (at0 p j) (at0 p i)=false
theorem BP{σ:Type}{M:Model}{x:σ}{Q:PUnit->σ->Prop}{st:σ}(h:Q ⟨⟩ x):wpS M A E s (set x:StateT σ Sem PUnit) Q st:=by
 unfold wpS;rw [StateT.run_set];exact C_ ⟨rfl,h⟩
def wr{α:Type}(a:Nat):List α->Nat->Array α->Array α
 | [],_,p=>p
 | x :: b,k,p=>wr a b (k+1) (p.setIfInBounds (a+k) x)
theorem Si{α:Type}(b:Nat):∀(xs:List α) (k:Nat) (p:Array α),(xs.zipIdx k).foldl (λa (z:α×Nat)=>a.setIfInBounds (b+z.2) z.1) p=wr b xs k p
 | [],_,_=>rfl
 | x :: xs,k,p=>by
  rw [List.zipIdx_cons,ZE,wr]
  exact Si b xs (k+1) _
theorem Xd{α β:Type}(f:α->β)(a:Nat):∀(xs:List α) (k:Nat) (p:Array α),wr a (xs.map f) k (p.map f)=(wr a xs k p).map f
 | [],_,_=>rfl
 | x :: xs,k,p=>by
  rw [XY,wr,wr,<- Xd f a xs (k+1)]
  congr 1
  rw [Array.map_setIfInBounds]
theorem Sj{α:Type}(a:Nat):∀(xs:List α) (k:Nat) (p:Array α),(wr a xs k p).size=p.size
 | [],_,_=>rfl
 | x :: xs,k,p=>by rw [wr,Sj a xs,eW]
theorem Qm{α:Type}(a:Nat):∀(xs:List α) (k:Nat) (p:Array α),a+k+xs.length<=p.size->∀i:Nat,(wr a xs k p)[i]?=if a+k<=i/\i < a+k+xs.length then xs[i - (a+k)]? else p[i]?
 | [],k,p,_,i=>by rw [wr,J_ (by simp only [List.length_nil];omega)]
 | x :: xs,k,p,h,i=>by
  rw [YA]at h
  rw [wr,Qm a xs (k+1) _ (by rw [eW];omega),Array.getElem?_setIfInBounds,YA]
  by_cases h1:a+k=i
  ·subst h1
   rw [J_ (by omega),Q_ rfl,Q_ (by omega),Q_ (by omega),gV];rfl
  ·by_cases h2:a+(k+1)<=i/\i < a+(k+1)+xs.length
   ·rw [Q_ h2,Q_ (by omega)]
    rw [show i - (a+k)=i - (a+(k+1))+1 by omega,List.getElem?_cons_succ]
   ·rw [J_ h2,J_ h1,J_ (by omega)]
theorem Gb{p q:Array Nat}{i j:Nat}(h:p[i]?=q[j]?):at0 p i=at0 q j:=by
 unfold at0
 rw [YN,YN,h]
theorem Xe{p:Array Nat}{xs:List Nat}{i j:Nat}{d:Nat}(h:p[i]?=xs[j]?)(hj:j < xs.length):at0 p i=xs[j]:=by
 unfold at0
 rw [YN,h,M_ hj];rfl
theorem BQ(a:Nat)(R:List Nat)(p:Array Nat)(h:a+R.length<=p.size):(wr a R 0 p).toList=p.toList.take a++R++p.toList.drop (a+R.length):=by
 apply bV
 intro i
 rw [V_,Qm a R 0 p h]
 simp only [Nat.add_zero]
 have b:(p.toList.take a).length=a:=by rw [X_,XU];omega
 by_cases h1:i < a
 ·rw [J_ (by omega),aQ,aU (by omega),cY h1,V_]
 ·by_cases h2:i < a+R.length
  ·rw [Q_ (by omega),aU (by rw [I_];omega),ZY (by omega),b]
  ·rw [J_ (by omega),ZY (by rw [I_];omega),I_,b,gY,V_]
   congr 1;omega
theorem Eb{p:Array Nat}{i j k:Nat}(h:k < (p.extract i j).size):at0 (p.extract i j) k=at0 p (i+k):=Gb (by
 rw [Array.getElem?_extract]
 rw [dU]at h
 rw [Q_ h])
theorem BR{p:Array Nat}{i j k:Nat}(h1:i<=j)(h2:j<=k):(p.extract i j).toList++(p.extract j k).toList=(p.toList.drop i).take (k - i):=by
 rw [show j=i+(j - i) by omega,Bx,show i+(j - i)=j from YY h1,show k=j+(k - j) by omega,Bx,show j+(k - j) - i=(j - i)+(k - j) by omega,List.take_add,List.drop_drop,show i+(j - i)=j from YY h1]
structure Kept(p p':Array Nat)(lo hi:Nat):Prop where
 size:p'.size=p.size
 perm:p'.toList.Perm p.toList
 same:∀i,i < lo\/hi<=i->at0 p' i=at0 p i
theorem Kept.refl{p:Array Nat}{lo a:Nat}:Kept p p lo a:=⟨rfl,.refl _,λ_ _=>rfl⟩
theorem Kept.trans{p q r:Array Nat}{lo a:Nat}(h:Kept p q lo a)(k:Kept q r lo a):Kept p r lo a:=⟨k.size.trans h.size,k.perm.trans h.perm,λi a=>(k.same i a).trans (h.same i a)⟩
theorem Kept.mono{p q:Array Nat}{lo a b c:Nat}(h:Kept p q lo a)(h1:b<=lo)(h2:a<=c):Kept p q b c:=⟨h.size,h.perm,λi a=>h.same i (by omega)⟩
theorem BS{p:Array Nat}{x:Nat}(h:x∈p.toList):∃i,i < p.size/\x=at0 p i:=by
 obtain⟨i,a,e⟩:=dD h
 rw [XU]at a
 refine⟨i,a,?_⟩
 rw [<- e];simp [at0,Array.getD,a]
theorem BT{p:Array Nat}{i:Nat}(h:i < p.size):at0 p i∈p.toList:=by
 simp [at0,Array.getD,h]
theorem Kept.in{p b:Array Nat}{lo a:Nat}(h:Kept p b lo a)(hp:In n p):In n b:=λi a=>by
 obtain⟨j,hj,e⟩:=BS (h.perm.mem_iff.mp (BT a))
 rw [e];exact hp j hj
theorem Seg.kept{p b:Array Nat}{lo c a len:Nat}(h:Seg lt p a len)(k:Kept p b lo c)(e:a+len<=lo\/c<=a):Seg lt b a len:=λi j h1 h2 d=>by
 rw [k.same i (by omega),k.same j (by omega)]
 exact h i j h1 h2 d
theorem Uw(O:WeakOrd n lt)(hc:Cmp prog w A κ it n lt s){p:Array Nat}{pd:Array (Nat×Nat×Nat)}{g i c f J o wa:Nat}(hp:In n p)(h1:pd[i]?=some (c,f,J))(h2:pd[i+1]?=some (c+f,o,wa))(ha:0 < f)(hb:0 < o)(hs:c+f+o<=p.size)
  (G:Seg lt p c f) (F:Seg lt p (c+f) o) {Q:Bool->jL->Prop}
  (h:∀Z g',Kept p Z c (c+f+o)->Seg lt Z c (f+o)->Q true (SS κ it Z ((pd.setIfInBounds i (c,f+o,J)).eraseIdxIfInBounds (i+1)) g')):wpS (model prog w) A E s (mergeAt' i) Q (SS κ it p pd g):=by
 rw [Of]
 refine T_ (fQ ?_)
 have e1:(pendingOf (SS κ it p pd g))[i]?=some (c,f,J):=h1
 have e2:(pendingOf (SS κ it p pd g))[i+1]?=some (c+f,o,wa):=h2
 rw [e1,e2]
 dsimp only
 have yh:arrOf (SS κ it p pd g)=p.map (kas_item it):=rfl
 rw [yh]
 refine T_ (BP (T_ (Bp (by omega) ?_)))
 have r:=λi (hi:i < p.size)=>hp i hi
 refine T_ (IP O hc (st:=SS κ it p ((pd.setIfInBounds i (c,f+o,J)).eraseIdxIfInBounds (i+1)) g) rfl ha (G_ (YG (c+f) o) hs) hp (r _ (by omega)) (λx y a1 a2 l=>G x y a1 a2 l) λk k1 k2 k3=>?_)
 dsimp only
 have V:∀x,c<=x->x < c+k->lt (at0 p (c+f)) (at0 p x)=false:=λx a1 a2=>by
  have:=k2 (x - c) (by omega)
  rwa [show c+(x - c)=x from YY a1]at this
 have qb:∀y,c+f<=y->y < c+f+o->lt (at0 p y) (at0 p (c+f))=false:=λy a1 a2=>by
  rcases YE a1 with rfl | a1
  ·exact O.irr (r _ (U_ a2 hs))
  ·exact F _ y (E_ _) a1 (a2)
 have U:∀x y,c<=x->x < c+k->c+f<=y->y < c+f+o->lt (at0 p y) (at0 p x)=false:=λx y a1 a2 l I =>
  O.tr _ _ _ (r x (by omega)) (r (c+f) (ZL l (U_ I hs))) (r y (U_ I hs)) (V x a1 a2) (qb y l I)
 by_cases c1:f - k=0
 ·rw [Q_ (by simpa using c1)]
  refine XM (h p g .refl λx y a1 a2 l=>?_)
  rw [<- cF]at l
  by_cases c2:y < c+f
  ·exact G x y a1 a2 c2
  ·by_cases t:x < c+f
   ·exact U x y a1 (by omega) (ZN c2) l
   ·exact F x y (ZN t) a2 l
 rw [J_ (by simpa using c1)]
 refine T_ (Bp (by omega) ?_)
 refine T_ (IQ O hc (st:=SS κ it p ((pd.setIfInBounds i (c,f+o,J)).eraseIdxIfInBounds (i+1)) g) rfl (iR hb (by decide)) (hs) hp (r _ (by omega)) (λx y a1 a2 l=>F x y a1 a2 l) λm m1 m2 m3=>?_)
 dsimp only
 have T:c+k+(f - k) - 1=c+f - 1:=by omega
 rw [T]at m2 m3
 have Y:∀x,c<=x->x < c+f->lt (at0 p (c+f - 1)) (at0 p x)=false:=λx a1 a2=>by
  rcases YE (show x<=c+f - 1 by omega) with rfl | a2'
  ·exact O.irr (r _ (by omega))
  ·exact G x _ a1 a2' (by omega)
 have C:∀x y,c<=x->x < c+f->c+f+m<=y->y < c+f+o->lt (at0 p y) (at0 p x)=false:=λx y a1 a2 l I=>by
  have:=m3 (y - (c+f)) (by omega) (by omega)
  rw [show c+f+(y - (c+f))=y by omega]at this
  exact O.tr _ _ _ (r x (by omega)) (r (c+f - 1) (by omega)) (r y (U_ I hs)) (Y x a1 a2) this
 by_cases c2:m=0
 ·rw [Q_ (by simpa using c2)]
  refine XM (h p g .refl λx y a1 a2 l=>?_)
  by_cases t:y < c+f
  ·exact G x y a1 a2 t
  ·by_cases v:x < c+f
   ·exact C x y a1 v (by rw [c2];exact ZN t) (by rw [cF];exact l)
   ·exact F x y (ZN v) a2 (by rw [cF];exact l)
 rw [J_ (by simpa using c2)]
 have x1:(p.map (kas_item it)).extract (c+k) (c+f)=(p.extract (c+k) (c+f)).map (kas_item it):=cW.symm
 have x2:(p.map (kas_item it)).extract (c+f) (c+f+m)=(p.extract (c+f) (c+f+m)).map (kas_item it):=cW.symm
 rw [x1,x2]
 have P:(p.extract (c+k) (c+f)).size=f - k:=by rw [dU];omega
 have M:(p.extract (c+f) (c+f+m)).size=m:=by rw [dU];omega
 have N:MPre n lt (p.extract (c+k) (c+f)) (p.extract (c+f) (c+f+m)):=by
  have p1:0 < (p.extract (c+k) (c+f)).size:=by rw [P];exact bB c1
  have p2:0 < (p.extract (c+f) (c+f+m)).size:=by rw [M];exact bB c2
  refine⟨p1,p2,λx hx=>?_,λx hx=>?_,λx y a1 a2=>?_,λx y a1 a2=>?_,?_,λy hy=>?_⟩
  ·rw [Eb hx];rw [P]at hx;exact r _ (by omega)
  ·rw [Eb hx];rw [M]at hx;exact r _ (by omega)
  ·rw [Eb a2,Eb (YZ a1 a2)];rw [P]at a2;exact G _ _ (by omega) (aM a1 _) (by omega)
  ·rw [Eb a2,Eb (YZ a1 a2)];rw [M]at a2;exact F _ _ (YG _ _) (aM a1 _) (by omega)
  ·rw [Eb p1,Eb p2]
   have:=k3 k (E_ _) (by omega)
   exact this
  ·rw [Eb (iR p1 (by decide)),Eb hy,P,show c+k+(f - k - 1)=c+f - 1 by omega]
   rw [M]at hy
   exact m2 y hy
 have fin:∀(R:Array Nat) (g':Nat),Mgd lt (p.extract (c+k) (c+f)) (p.extract (c+f) (c+f+m)) R ->
   Q true (SS κ it (wr (c+k) R.toList 0 p) ((pd.setIfInBounds i (c,f+o,J)).eraseIdxIfInBounds (i+1)) g'):=λR g' u=>by
  have X:R.toList.length=f - k+m:=by
   have:=u.perm.length_eq
   rw [I_,XU,XU,XU,P,M]at this
   rw [XU];exact this
  have rc:c+k+R.toList.length<=p.size:=by omega
  have T:(p.extract (c+k) (c+f)).toList++(p.extract (c+f) (c+f+m)).toList=(p.toList.drop (c+k)).take R.toList.length:=by
   rw [BR (bM k1 c) (YG _ _),X]
   congr 1;omega
  have W:=Qm (c+k) R.toList 0 p rc
  simp only [Nat.add_zero]at W
  have q:∀x,x < c+k\/c+f+m<=x->at0 (wr (c+k) R.toList 0 p) x=at0 p x:=λx hx=>Gb (by rw [W,J_ (by omega)])
  have H:∀x,c+k<=x->x < c+f+m->∃hx,at0 (wr (c+k) R.toList 0 p) x=R.toList[x - (c+k)]'hx:=λx a1 a2=>⟨by omega,Xe (d:=0) (by rw [W,Q_ (by omega)]) (by omega)⟩
  have S:∀x,c+k<=x->x < c+f+m->∃y,c+k<=y/\y < c+f+m/\at0 (wr (c+k) R.toList 0 p) x=at0 p y:=λx a1 a2=>by
   obtain⟨hx,e⟩:=H x a1 a2
   have hm:R.toList[x - (c+k)]∈(p.toList.drop (c+k)).take R.toList.length:=by rw [<- T];exact u.perm.mem_iff.mp (bC _)
   obtain⟨j,j1,j2,j3,j4⟩:=Eu hm
   exact⟨j,j1,by omega,e.trans j4⟩
  refine h _ g' ⟨Sj _ _ _ _,?_,λx hx=>q x (by omega)⟩ λx y a1 a2 l=>?_
  ·rw [BQ _ _ _ rc]
   have e3:p.toList=p.toList.take (c+k)++(p.toList.drop (c+k)).take R.toList.length++p.toList.drop (c+k+R.toList.length):=by
    have a:=(bP (c+k) p.toList).symm
    have b:=(bP R.toList.length (p.toList.drop (c+k))).symm
    rw [List.drop_drop]at b
    refine a.trans ?_
    rw [aQ]
    exact ZX _ b
   refine List.Perm.trans ?_ (List.Perm.of_eq e3.symm)
   refine fS _ (List.Perm.append_left _ ?_)
   rw [<- T];exact u.perm
  ·have l:y < c+f+o:=by rw [cF];exact l
   by_cases t:y < c+k
   ·rw [q x (.inl (YZ a2 t)),q y (.inl t)];exact G x y a1 a2 (by omega)
   ·by_cases v:c+f+m<=y
    ·have I:c+f<=y:=G_ (YG _ _) v
     rw [q y (.inr v)]
     by_cases D:x < c+k
     ·rw [q x (.inl D)];exact U x y a1 D I l
     ·by_cases c6:c+f+m<=x
      ·rw [q x (.inr c6)];exact F x y (G_ (YG _ _) c6) a2 l
      ·obtain⟨z,b1,b2,e⟩:=S x (ZN D) (eT c6)
       rw [e]
       by_cases L:z < c+f
       ·exact C z y (G_ (YG _ _) b1) L v l
       ·exact F z y (ZN L) (U_ b2 v) l
    ·by_cases D:x < c+k
     ·obtain⟨z,b1,b2,e⟩:=S y (ZN t) (eT v)
      rw [e,q x (.inl D)]
      by_cases L:z < c+f
      ·exact G x z a1 (U_ D b1) L
      ·exact U x z a1 D (ZN L) (by omega)
     ·obtain⟨hx,ex⟩:=H x (ZN D) (YZ a2 (eT v))
      obtain⟨hy,ey⟩:=H y (ZN t) (eT v)
      rw [ex,ey]
      exact bO.mp u.srt _ _ hx hy (by omega)
 have B:∀(R:Array Nat) (g':Nat),Mgd lt (p.extract (c+k) (c+f)) (p.extract (c+f) (c+f+m)) R->∀ag,ag=SS κ it p ((pd.setIfInBounds i (c,f+o,J)).eraseIdxIfInBounds (i+1)) g' ->
   wpS (model prog w) A E s (do
    modify λs=>setArr s ((R.map (kas_item it)).toList.zipIdx.foldl (λa (p,j)=>a.setIfInBounds (c+k+j) p) (arrOf s))
    return (failedOf (<- get)).isNone) Q ag:=λR g' u ag e=>by
  subst e
  refine T_ (bZ (T_ (fQ (XM ?_))))
  have:=fin R g' u
  have e2:(R.map (kas_item it)).toList.zipIdx.foldl (λa (z:jH×Nat)=>a.setIfInBounds (c+k+z.2) z.1) (p.map (kas_item it))=(wr (c+k) R.toList 0 p).map (kas_item it):=by
   rw [Si,Array.toList_map,Xd]
  show Q true (SortSt.mk' κ ((R.map (kas_item it)).toList.zipIdx.foldl (λa (z:jH×Nat)=>a.setIfInBounds (c+k+z.2) z.1) (p.map (kas_item it))) _ g' none)
  rw [e2]
  exact this
 by_cases t:f - k<=m
 ·rw [Q_ t]
  refine T_ (Uu O hc rfl N λR g' u=>?_)
  exact B R g' u _ rfl
 ·rw [J_ t]
  refine T_ (Uv O hc rfl N λR g' u=>?_)
  exact B R g' u _ rfl
def Xf(lo a n:Nat):StateT jL Sem (Option Nat):=do
 reverseSlice' lo (lo+n)
 let mut n:=n
 for _ in [n:a] do
  let some smaller <- ltAt' (lo+n) (lo+n - 1) | return none
  if smaller then break
  n:=n+1
 return some n
def Xg(lo a n:Nat):StateT jL Sem (Option Nat):=do
 rule "list.sort.descending-run"
 let mut n:=n+1
 let mut neq:=0
 for _ in [n:a] do
  let some smaller <- ltAt' (lo+n) (lo+n - 1) | return none
  if smaller then
   if neq > 0 then reverseSlice' (lo+n - (neq+1)) (lo+n)
   neq:=0
  else
   let some larger <- ltAt' (lo+n - 1) (lo+n) | return none
   if larger then break
   neq:=neq+1
  n:=n+1
 if neq > 0 then reverseSlice' (lo+n - (neq+1)) (lo+n)
 Xf lo a n
theorem Mq(lo a:Nat):countRun' lo a=(do
 let mut n:=1
 for _ in [1:a] do
  let some smaller <- ltAt' (lo+n) (lo+n - 1) | return none
  if smaller then break
  n:=n+1
 if n==a then return some n
 if n > 1 then
  let some rose <- ltAt' lo (lo+n - 1) | return none
  if rose then return some n
  reverseSlice' lo (lo+n)
 Xg lo a n):=rfl
theorem Hf(hc:Cmp prog w A κ it n lt s)(hp:In n p){i j:Nat}(a:i < p.size)(hj:j < p.size){Q:Option Bool->jL->Prop}(h:Q (some (lt (at0 p i) (at0 p j))) (SS κ it p pd g)):wpS (model prog w) A E s (ltAt' i j) Q (SS κ it p pd g):=by
 rw [ltAt'_eq]
 refine T_ (fQ ?_)
 show wpS _ _ _ _ (do let x <- elem' (p.map (kas_item it)) i;let y <- elem' (p.map (kas_item it)) j;lt' x y) Q _
 exact T_ (Bp a (T_ (Bp hj (Xc hc rfl (hp i a) (hp j hj) h))))
abbrev rvs(p:Array Nat)(i j:Nat):Array Nat:=mirror p i j ((j - i) / 2)
theorem Ds{i j:Nat}(hj:j<=p.size)(k:Nat):at0 (rvs p i j) k=if i<=k/\k < j then at0 p (i+j - 1 - k) else at0 p k:=by
 have e:=getElem?_mirror_all (xs:=p) (i:=i) hj k
 by_cases h:i<=k/\k < j
 ·rw [Q_ h]at e ⊢;exact Gb e
 ·rw [J_ h]at e ⊢;exact Gb e
theorem Gw{i j:Nat}(hj:j<=p.size):Kept p (rvs p i j) i j:=⟨mirror_size _ _ _ _,(mirror_perm p i j _).toList,λk hk=>by rw [Ds hj,J_ (by omega)]⟩
theorem Sk{i j:Nat}{Q:Unit->jL->Prop}(h:Q () (SS κ it (rvs p i j) pd g)):wpS (model prog w) A E s (reverseSlice' i j) Q (SS κ it p pd g):=by
 rw [reverseSlice'_eq]
 refine bZ ?_
 have e:mirror (p.map (kas_item it)) i j ((j - i) / 2)=(rvs p i j).map (kas_item it):=kas_swaps_map _ _ _ _ _
 show Q () (SortSt.mk' κ (mirror (p.map (kas_item it)) i j ((j - i) / 2)) pd g none)
 rw [e];exact h
def Vt(lt:Nat->Nat->Bool)(p:Array Nat)(lo len:Nat):Prop:=∀i j,lo<=i->i < j->j < lo+len->lt (at0 p i) (at0 p j)=false
def OM(lt:Nat->Nat->Bool)(p:Array Nat)(a b:Nat):Prop:=∀i j,a<=i->i < b->a<=j->j < b->lt (at0 p i) (at0 p j)=false
theorem Seg.next(O:WeakOrd n lt)(hp:In n p){lo m:Nat}(h:Seg lt p lo m)(h1:1<=m)(a:lo+m < p.size)(e:lt (at0 p (lo+m)) (at0 p (lo+m - 1))=false):Seg lt p lo (m+1):=λi j a1 a2 b=>by
 by_cases c:j < lo+m
 ·exact h i j a1 a2 c
 ·have:j=lo+m:=by omega
  subst this
  by_cases c2:i=lo+m - 1
  ·subst c2;exact e
  ·exact O.tr _ _ _ (hp i (YZ a2 a)) (hp (lo+m - 1) (ZL (gI (lo+m) 1) a)) (hp (lo+m) a) (h i (lo+m - 1) a1 (by omega) (by omega)) e
theorem Vt.next(O:WeakOrd n lt)(hp:In n p){lo m:Nat}(h:Vt lt p lo m)(h1:1<=m)(a:lo+m < p.size)(e:lt (at0 p (lo+m - 1)) (at0 p (lo+m))=false):Vt lt p lo (m+1):=λi j a1 a2 b=>by
 by_cases c:j < lo+m
 ·exact h i j a1 a2 c
 ·have:j=lo+m:=by omega
  subst this
  by_cases c2:i=lo+m - 1
  ·subst c2;exact e
  ·exact O.tr _ _ _ (hp (lo+m) a) (hp (lo+m - 1) (ZL (gI (lo+m) 1) a)) (hp i (YZ a2 a)) e (h i (lo+m - 1) a1 (by omega) (by omega))
theorem Vt.turn{lo k a:Nat}(hs:lo+k<=p.size)(ha:lo<=a)(h:Vt lt p lo k)(e:OM lt p a (lo+k)):Vt lt (rvs p a (lo+k)) lo k:=λi j a1 a2 b=>by
 rw [Ds hs,Ds hs]
 by_cases h1:a<=i
 ·rw [Q_ ⟨h1,YZ a2 b⟩,Q_ ⟨G_ h1 (YM a2),b⟩]
  exact e _ _ (by omega) (by omega) (by omega) (by omega)
 ·rw [J_ (by omega)]
  by_cases h2:a<=j
  ·rw [Q_ ⟨h2,b⟩]
   exact h _ _ (a1) (by omega) (by omega)
  ·rw [J_ (by omega)]
   exact h _ _ a1 a2 b
theorem FI(O:WeakOrd n lt)(hc:Cmp prog w A κ it n lt s)(hp:In n p){lo a m:Nat}(h1:1<=m)(f:m<=a)(hs:lo+a<=p.size)(h:Seg lt p lo m){F:Nat->Option (Option Nat)×Nat->StateT jL Sem (ForInStep (Option (Option Nat)×Nat))}
  (j:∀x k Q,1<=k->k < a->(∀b,b=lt (at0 p (lo+k)) (at0 p (lo+k - 1))->Q (if b=true then ForInStep.done (none,k) else ForInStep.yield (none,k+1)) (SS κ it p pd g))->wpS (model prog w) A E s (F x (none,k)) Q (SS κ it p pd g))
  {Q:Option (Option Nat)×Nat->jL->Prop} (o:∀k,m<=k->k<=a->Seg lt p lo k->(k < a->lt (at0 p (lo+k)) (at0 p (lo+k - 1))=true)->Q (none,k) (SS κ it p pd g)):wpS (model prog w) A E s (forIn [m:a] ((none,m):Option (Option Nat)×Nat) F) Q (SS κ it p pd g):=by
 refine aV (ZQ (I:=λx c e=>e=SS κ it p pd g/\c=(none,x)/\m<=x/\x<=a/\Seg lt p lo x) (Q:=λc e=>e=SS κ it p pd g/\∃k,c=(none,k)/\m<=k/\k<=a/\Seg lt p lo k/\(k < a->lt (at0 p (lo+k)) (at0 p (lo+k - 1))=true)) ?_ ?_ ⟨rfl,rfl,E_ _,f,h⟩) ?_
 ·rintro x c e _ hx ⟨rfl,rfl,a1,a2,d⟩
  refine j x x _ (G_ h1 a1) hx λb i=>?_
  cases b with
  | true=>exact⟨rfl,x,rfl,a1,a2,d,λ_=>i.symm⟩
  | false=>exact⟨rfl,rfl,YX a1,bW hx,d.next O hp (G_ h1 a1) (by omega) i.symm⟩
 ·rintro c e ⟨rfl,rfl,a1,a2,d⟩
  rw [Nat.max_eq_right f]at d ⊢
  exact⟨rfl,a,rfl,f,E_ _,d,λz=>absurd z (aS _)⟩
 ·rintro c e ⟨rfl,k,rfl,a1,a2,d,l⟩
  exact o k a1 a2 d l
theorem Xh(O:WeakOrd n lt)(hc:Cmp prog w A κ it n lt s)(hp:In n p){lo a m:Nat}(h1:1<=m)(d:m<=a)(hs:lo+a<=p.size)(h:Vt lt p lo m){Q:Option Nat->jL->Prop}
  (v:∀k b,1<=k->k<=a->Kept p b lo (lo+a)->Seg lt b lo k->Q (some k) (SS κ it b pd g)):wpS (model prog w) A E s (Xf lo a m) Q (SS κ it p pd g):=by
 unfold Xf
 refine T_ (Sk ?_)
 have hk:Kept p (rvs p lo (lo+m)) lo (lo+a):=(Gw (by omega)).mono (E_ _) (bM d lo)
 have r:Seg lt (rvs p lo (lo+m)) lo m:=λi j a1 a2 o=>by
  rw [Ds (by omega),Ds (by omega),Q_ ⟨G_ a1 (YM a2),o⟩,Q_ ⟨a1,YZ a2 o⟩]
  exact h _ _ (by omega) (by omega) (by omega)
 have f:=hk.in hp
 have t:lo+a<=(rvs p lo (lo+m)).size:=by rw [hk.size];exact hs
 refine T_ (FI O hc f h1 d t r (λx k y l c q=>?_) λk l c u _=>XM (v k _ (G_ h1 l) c hk u))
 refine T_ (Hf hc f (by omega) (by omega) ?_)
 dsimp only
 have:=q _ rfl
 by_cases e:lt (at0 (rvs p lo (lo+m)) (lo+k)) (at0 (rvs p lo (lo+m)) (lo+k - 1))=true
 ·rw [Q_ e]at this ⊢;exact XM this
 ·rw [J_ e]at this ⊢;exact XM this
theorem Xi(O:WeakOrd n lt)(hc:Cmp prog w A κ it n lt s)(hp:In n p){lo d m:Nat}(h1:1<=m)(F:m+1<=d)(hs:lo+d<=p.size)(h:Vt lt p lo (m+1)){Q:Option Nat->jL->Prop}
  (G:∀k a,1<=k->k<=d->Kept p a lo (lo+d)->Seg lt a lo k->Q (some k) (SS κ it a pd g)):wpS (model prog w) A E s (Xg lo d m) Q (SS κ it p pd g):=by
 unfold Xg
 refine T_ (iK (aW ⟨rfl,?_⟩))
 have o:∀a:Array Nat,In n a->a.size=p.size->∀k,k < d->OM lt a (lo+(k+1) - (0+1)) (lo+(k+1)):=λa b hz k hk i j a1 a2 t v=>by
  have B:i=lo+k:=by omega
  have hj:j=lo+k:=by omega
  rw [B,hj]
  exact O.irr (b _ (by omega))
 refine T_ (aV (ZQ (I:=λx c r=>∃a q,r=SS κ it a pd g/\c=(none,x,q)/\Kept p a lo (lo+d)/\q+1<=x/\x<=d/\Vt lt a lo x/\OM lt a (lo+x - (q+1)) (lo+x))
  (Q:=λc r=>∃a k q,r=SS κ it a pd g/\c=(none,k,q)/\Kept p a lo (lo+d)/\q+1<=k/\k<=d/\Vt lt a lo k/\OM lt a (lo+k - (q+1)) (lo+k)) ?_ ?_ ⟨p,0,rfl,rfl,.refl,YX h1,F,h,o p hp rfl m (Nat.lt_of_succ_le F)⟩) ?_)
 ·rintro x c r _ hx ⟨a,q,rfl,rfl,K,u,f,D,e⟩
  have b:=K.in hp
  have hz:=K.size
  dsimp only
  refine T_ (Hf hc b (by omega) (by omega) ?_)
  dsimp only
  cases c1:lt (at0 a (lo+x)) (at0 a (lo+x - 1)) with
  | true =>
   rw [Q_ rfl]
   have c2:=O.asy _ _ (b _ (by omega)) (b _ (by omega)) c1
   by_cases hq:q > 0
   ·rw [Q_ hq]
    refine T_ (Sk (XM ?_))
    have l:Kept a (rvs a (lo+x - (q+1)) (lo+x)) lo (lo+d):=(Gw (by omega)).mono (by omega) (bM f lo)
    have C:=l.in b
    refine⟨_,0,rfl,rfl,K.trans l,Nat.le_add_left _ _,bW hx,(D.turn (by omega) (by omega) e).next O C (by omega) (by rw [l.size];omega) ?_,o _ C (l.size.trans hz) x (hx)⟩
    rw [Ds (by omega),Q_ ⟨by omega,by omega⟩,Ds (by omega),J_ (by omega),show lo+x - (q+1)+(lo+x) - 1 - (lo+x - 1)=lo+x - (q+1) by omega]
    exact O.tr _ _ _ (b _ (by omega)) (b (lo+x - 1) (by omega)) (b _ (by omega)) c2 (e _ _ (E_ _) (by omega) (by omega) (by omega))
   ·rw [J_ hq]
    exact XM ⟨_,0,rfl,rfl,K,Nat.le_add_left _ _,bW hx,D.next O b (by omega) (by omega) c2,o _ b hz x (hx)⟩
  | false =>
   rw [J_ L_]
   refine T_ (Hf hc b (by omega) (by omega) ?_)
   dsimp only
   cases c2:lt (at0 a (lo+x - 1)) (at0 a (lo+x)) with
   | true =>
    rw [Q_ rfl]
    exact XM ⟨_,x,q,rfl,rfl,K,u,f,D,e⟩
   | false =>
    rw [J_ L_]
    refine XM ⟨_,q+1,rfl,rfl,K,bD u,bW hx,D.next O b (by omega) (by omega) c2,λi j a1 a2 t v=>?_⟩
    by_cases B:i=lo+x
    ·subst B
     by_cases hj:j=lo+x
     ·subst hj;exact O.irr (b _ (by omega))
     ·exact O.tr _ _ _ (b j (by omega)) (b (lo+x - 1) (by omega)) (b (lo+x) (by omega)) (e (lo+x - 1) j (by omega) (by omega) (by omega) (by omega)) c1
    ·by_cases hj:j=lo+x
     ·subst hj
      exact O.tr _ _ _ (b (lo+x) (by omega)) (b (lo+x - 1) (by omega)) (b i (by omega)) c2 (e i (lo+x - 1) (by omega) (by omega) (by omega) (by omega))
     ·exact e i j (by omega) (by omega) (by omega) (by omega)
 ·rintro c r ⟨a,q,rfl,rfl,K,u,f,D,e⟩
  exact⟨a,_,q,rfl,rfl,K,u,f,D,e⟩
 ·rintro c r ⟨a,k,q,rfl,rfl,K,u,f,D,e⟩
  have b:=K.in hp
  have hz:=K.size
  dsimp only
  by_cases hq:q > 0
  ·rw [Q_ hq]
   have l:Kept a (rvs a (lo+k - (q+1)) (lo+k)) lo (lo+d):=(Gw (by omega)).mono (by omega) (bM f lo)
   refine T_ (Sk (Xh O hc (l.in b) (by omega) f (by rw [l.size];omega) (D.turn (by omega) (by omega) e) λz y a1 a2 t v=>G z y a1 a2 ((K.trans l).trans t) v))
  ·rw [J_ hq]
   exact Xh O hc b (by omega) f (by omega) D λz y a1 a2 t v=>G z y a1 a2 (K.trans t) v
theorem BU(O:WeakOrd n lt)(hc:Cmp prog w A κ it n lt s)(hp:In n p){lo b:Nat}(h1:1<=b)(hs:lo+b<=p.size){Q:Option Nat->jL->Prop}
  (f:∀k l,1<=k->k<=b->Kept p l lo (lo+b)->Seg lt l lo k->Q (some k) (SS κ it l pd g)):wpS (model prog w) A E s (countRun' lo b) Q (SS κ it p pd g):=by
 rw [Mq]
 refine T_ (FI O hc hp (E_ 1) h1 hs (λi j a1 a2 a=>by omega) (λx k C d c q=>?_) λk d c h y=>?_)
 ·refine T_ (Hf hc hp (by omega) (by omega) ?_)
  dsimp only
  have:=q _ rfl
  by_cases e:lt (at0 p (lo+k)) (at0 p (lo+k - 1))=true
  ·rw [Q_ e]at this ⊢;exact XM this
  ·rw [J_ e]at this ⊢;exact XM this
 dsimp only
 by_cases e:k=b
 ·rw [Q_ (by simpa using e)]
  exact XM (f k p d c .refl h)
 rw [J_ (by simpa using e)]
 have z:=y (Nat.lt_of_le_of_ne c e)
 have c2:=O.asy _ _ (hp (lo+k) (by omega)) (hp (lo+k - 1) (by omega)) z
 by_cases o:k > 1
 ·rw [Q_ o]
  refine T_ (Hf hc hp (by omega) (by omega) ?_)
  dsimp only
  cases e2:lt (at0 p lo) (at0 p (lo+k - 1)) with
  | true =>
   rw [Q_ rfl]
   exact XM (f k p d c .refl h)
  | false =>
   rw [J_ L_]
   have K:Kept p (rvs p lo (lo+k)) lo (lo+b):=(Gw (by omega)).mono (E_ _) (bM c lo)
   have r:∀i j,lo<=i->i<=j->j < lo+k->lt (at0 p j) (at0 p i)=false:=λi j a1 a2 a=>by
    rcases YE a2 with rfl | a2
    ·exact O.irr (hp _ (by omega))
    ·exact h i j a1 a2 a
   have all:OM lt p lo (lo+k):=λi j a1 a2 a t =>
    O.tr _ _ _ (hp j (by omega)) (hp lo (by omega)) (hp i (by omega)) (O.tr _ _ _ (hp j (by omega)) (hp (lo+k - 1) (by omega)) (hp lo (by omega)) (r j (lo+k - 1) a (by omega) (by omega)) e2) (r lo i (E_ _) a1 a2)
   have D:Vt lt (rvs p lo (lo+k)) lo k:=λi j a1 a2 a=>by
    rw [Ds (by omega),Ds (by omega),Q_ ⟨a1,YZ a2 a⟩,Q_ ⟨G_ a1 (YM a2),a⟩]
    exact all _ _ (by omega) (by omega) (by omega) (by omega)
   refine T_ (Sk (Xi O hc (K.in hp) d (by omega) (by rw [K.size];exact hs) (D.next O (K.in hp) d (by rw [K.size];omega) ?_) λB u a1 a2 a t=>f B u a1 a2 (K.trans a) t))
   rw [Ds (by omega),Q_ ⟨by omega,by omega⟩,Ds (by omega),J_ (by omega),show lo+(lo+k) - 1 - (lo+k - 1)=lo by omega]
   exact O.tr _ _ _ (hp _ (by omega)) (hp (lo+k - 1) (by omega)) (hp lo (by omega)) c2 (all lo (lo+k - 1) (E_ _) (by omega) (by omega) (by omega))
 ·rw [J_ o]
  have v:k=1:=by omega
  subst v
  refine Xi O hc hp (E_ 1) (by omega) hs (Vt.next O hp (m:=1) (λi j a1 a2 a=>by omega) (E_ 1) (by omega) c2) f
theorem IT{src d:Nat}(hs:src < p.size)(a:d<=src)(k:Nat):at0 (bubble p src d) k=if k=src - d then at0 p src else if src - d < k/\k<=src then at0 p (k - 1) else at0 p k:=by
 have e:=getElem?_bubble hs d a k
 by_cases h1:k=src - d
 ·rw [Q_ h1]at e ⊢;exact Gb e
 ·rw [J_ h1]at e ⊢
  by_cases h2:src - d < k/\k<=src
  ·rw [Q_ h2]at e ⊢;exact Gb e
  ·rw [J_ h2]at e ⊢;exact Gb e
theorem IU{src a:Nat}{Q:Unit->jL->Prop}(h:Q () (SS κ it (bubble p src (src - a)) pd g)):wpS (model prog w) A E s (moveDown' src a) Q (SS κ it p pd g):=by
 rw [moveDown'_eq]
 refine bZ ?_
 have e:bubble (p.map (kas_item it)) src (src - a)=(bubble p src (src - a)).map (kas_item it):=kas_swaps_map _ _ _ _ _
 show Q () (SortSt.mk' κ (bubble (p.map (kas_item it)) src (src - a)) pd g none)
 rw [e];exact h
theorem Xj(O:WeakOrd n lt)(hc:Cmp prog w A κ it n lt s)(hp:In n p){lo m ok:Nat}(h1:1<=ok)(C:ok<=m)(hs:lo+m<=p.size)(h:Seg lt p lo ok){Q:Bool->jL->Prop}
  (J:∀b,Kept p b lo (lo+m)->Seg lt b lo m->Q true (SS κ it b pd g)):wpS (model prog w) A E s (binarySort' lo m ok) Q (SS κ it p pd g):=by
 rw [binarySort'_eq,Nat.max_eq_left h1]
 refine T_ (aV (ZQ (I:=λx c f=>∃b,f=SS κ it b pd g/\c=(none,())/\Kept p b lo (lo+m)/\Seg lt b lo x/\x<=m) (Q:=λc f=>∃b,f=SS κ it b pd g/\c=(none,())/\Kept p b lo (lo+m)/\Seg lt b lo m) ?_ ?_ ⟨p,rfl,rfl,.refl,h,C⟩) ?_)
 ·rintro x c f F hx ⟨b,rfl,rfl,K,S,_⟩
  have o:=K.in hp
  have hz:=K.size
  refine T_ (aV (ZQ (I:=λy c f=>f=SS κ it b pd g/\∃l r,c=(none,l,r)/\l<=r/\r<=x/\r - l<=x - y/\(∀i,i < l->lt (at0 b (lo+x)) (at0 b (lo+i))=false)/\(∀i,r<=i->i < x->lt (at0 b (lo+x)) (at0 b (lo+i))=true))
   (Q:=λc f=>f=SS κ it b pd g/\∃l,c=(none,l,l)/\l<=x/\(∀i,i < l->lt (at0 b (lo+x)) (at0 b (lo+i))=false)/\(∀i,l<=i->i < x->lt (at0 b (lo+x)) (at0 b (lo+i))=true)) ?_ ?_ ⟨rfl,0,x,rfl,XQ _,E_ _,E_ _,λi D=>absurd D (b_ _),λi a1 a2=>by omega⟩) ?_)
  ·rintro y c f _ hy ⟨rfl,l,r,rfl,a1,a2,G,t,q⟩
   dsimp only
   by_cases e:l>=r
   ·rw [Q_ e]
    have:l=r:=by omega
    subst this
    exact XM ⟨rfl,l,rfl,a2,t,q⟩
   ·rw [J_ e]
    refine T_ (Hf hc o (by omega) (by omega) ?_)
    dsimp only
    cases c1:lt (at0 b (lo+x)) (at0 b (lo+(l+r) / 2)) with
    | true =>
     rw [Q_ rfl]
     refine XM ⟨rfl,l,(l+r) / 2,rfl,by omega,by omega,by omega,t,λi b1 b2=>?_⟩
     rcases YE b1 with rfl | b1
     ·exact c1
     ·exact O.low (o _ (by omega)) (o _ (by omega)) (o _ (by omega)) c1 (S _ _ (YG _ _) (aM b1 lo) (aM b2 lo))
    | false =>
     rw [J_ L_]
     refine XM ⟨rfl,(l+r) / 2+1,r,rfl,by omega,a2,by omega,λi b1=>?_,q⟩
     rcases YE (show i<=(l+r) / 2 from ZH b1) with rfl | b2
     ·exact c1
     ·exact O.tr _ _ _ (o _ (by omega)) (o _ (by omega)) (o _ (by omega)) (S (lo+i) (lo+(l+r) / 2) (YG _ _) (aM b2 lo) (by omega)) c1
  ·rintro c f ⟨rfl,l,r,rfl,a1,a2,G,t,q⟩
   have:l=r:=by omega
   subst this
   exact⟨rfl,l,rfl,a2,t,q⟩
  ·rintro c f ⟨rfl,l,rfl,a2,t,q⟩
   dsimp only
   refine T_ (IU (XM ?_))
   have H:lo+x - (lo+l)=x - l:=by omega
   rw [H]
   have u:=λk=>IT (p:=b) (src:=lo+x) (d:=x - l) (by omega) (by omega) k
   rw [show lo+x - (x - l)=lo+l by omega]at u
   refine⟨_,rfl,rfl,K.trans ⟨bubble_size _ _ _,(bubble_perm b _ _).toList,λi D=>by rw [u,J_ (by omega),J_ (by omega)]⟩,λi j b1 b2 L=>?_,bW hx⟩
   rw [u i,u j]
   by_cases v:i=lo+l
   ·rw [Q_ v,J_ (by omega),Q_ (by omega)]
    have:=q (j - 1 - lo) (by omega) (by omega)
    rw [show lo+(j - 1 - lo)=j - 1 by omega]at this
    exact O.asy _ _ (o _ (by omega)) (o _ (by omega)) this
   ·rw [J_ v]
    by_cases j1:j=lo+l
    ·rw [Q_ j1,J_ (by omega)]
     have:=t (i - lo) (by omega)
     rwa [show lo+(i - lo)=i from YY b1]at this
    ·rw [J_ j1]
     by_cases z:lo+l < i/\i<=lo+x
     ·rw [Q_ z,Q_ (by omega)]
      exact S _ _ (by omega) (by omega) (by omega)
     ·rw [J_ z]
      by_cases B:lo+l < j/\j<=lo+x
      ·rw [Q_ B];exact S _ _ b1 (by omega) (by omega)
      ·rw [J_ B];exact S _ _ b1 b2 (by omega)
 ·rintro c f ⟨b,rfl,rfl,K,S,a⟩
  rw [Nat.max_eq_right C]at S
  exact⟨b,rfl,rfl,K,S⟩
 ·rintro c f ⟨b,rfl,rfl,K,S⟩
  exact XM (J b K S)
def Chain:List (Nat×Nat×Nat)->Nat->Nat->Prop
 | [],lo,b=>lo=b
 | (a,l,_) :: r,lo,b=>a=lo/\0 < l/\Chain r (lo+l) b
theorem Chain.le:∀{l:List (Nat×Nat×Nat)} {lo b:Nat},Chain l lo b->lo+l.length<=b
 | [],_,_,h=>by cases h;simp
 | (a,l,_) :: r,lo,b,h=>by have:=h.2.2.le;have:=h.2.1;rw [YA];omega
theorem Chain.app:∀{l m:List (Nat×Nat×Nat)} {lo b:Nat},Chain (l++m) lo b↔∃k,Chain l lo k/\Chain m k b
 | [],m,lo,b=>⟨λh=>⟨lo,rfl,h⟩,λ⟨k,e,h⟩=>by cases e;exact h⟩
 | (a,l,q) :: r,m,lo,b=>by
  constructor
  ·rintro⟨h1,h2,c⟩
   obtain⟨k,i,d⟩:=Chain.app.mp c
   exact⟨k,⟨h1,h2,i⟩,d⟩
  ·rintro⟨k,⟨h1,h2,c⟩,f⟩
   exact⟨h1,h2,Chain.app.mpr ⟨k,c,f⟩⟩
theorem Chain.low:∀{l:List (Nat×Nat×Nat)} {lo b:Nat},Chain l lo b->∀e∈l,lo<=e.1/\e.1+e.2.1<=b
 | (a,l,q) :: r,lo,b,h,e,he=>by
  have c:=h.2.2.le
  rcases XJ.mp he with rfl | he
  ·exact⟨by rw [h.1];exact E_ _,by show a+l<=b;rw [h.1];exact G_ (YG (lo+l) r.length) c⟩
  ·have:=h.2.2.low e he
   exact⟨by have:=h.2.1;omega,this.2⟩
structure Wait(lt:Nat->Nat->Bool)(p:Array Nat)(l:List (Nat×Nat×Nat))(hi:Nat):Prop where
 ch:Chain l 0 hi
 sg:∀e∈l,Seg lt p e.1 e.2.1
theorem Wait.keep{b:Array Nat}{l:List (Nat×Nat×Nat)}{a top:Nat}(h:Wait lt p l a)(k:Kept p b a top):Wait lt b l a:=⟨h.ch,λe he=>(h.sg e he).kept k (.inl (h.ch.low e he).2)⟩
theorem Og{l:List (Nat×Nat×Nat)}{i:Nat}{a b:Nat×Nat×Nat}(h1:l[i]?=some a)(h2:l[i+1]?=some b):l=l.take i++a :: b :: l.drop (i+2):=by
 obtain⟨c,d⟩:=F_.mp h1
 obtain⟨e,e2⟩:=F_.mp h2
 have a1:=(bP i l).symm
 rw [YV c,YV e,d,e2]at a1
 exact a1
theorem BV{pd:Array (Nat×Nat×Nat)}{i:Nat}{a b c:Nat×Nat×Nat}(h1:pd[i]?=some a)(h2:pd[i+1]?=some b):((pd.setIfInBounds i c).eraseIdxIfInBounds (i+1)).toList=pd.toList.take i++c :: pd.toList.drop (i+2):=by
 have f:pd.toList[i]?=some a:=by rw [V_];exact h1
 have d:pd.toList[i+1]?=some b:=by rw [V_];exact h2
 have j:=(F_.mp f).1
 have hj:=(F_.mp d).1
 rw [Array.toList_eraseIdxIfInBounds,Array.toList_setIfInBounds,List.eraseIdx_eq_take_drop_succ,List.take_set,List.drop_set_of_lt (by omega)]
 have e:=Og f d
 have h:(pd.toList.take i).length=i:=by rw [X_];omega
 rw [show i+1+1=i+2 from rfl]
 have:(pd.toList.take (i+1)).set i c=pd.toList.take i++[c]:=by
  rw [YC,f,List.set_append_right _ _ (dS h),h,gV];rfl
 rw [this,aQ];rfl
theorem Jk(O:WeakOrd n lt)(hc:Cmp prog w A κ it n lt s)(hp:In n p){i f:Nat}(b:Wait lt p pd.toList f)(hs:f<=p.size)(j:i+1 < pd.size){Q:Bool->jL->Prop}
  (h:∀a l o,Kept p a 0 f->Wait lt a l.toList f->l.size+1=pd.size->Q true (SS κ it a l o)):wpS (model prog w) A E s (mergeAt' i) Q (SS κ it p pd g):=by
 have d:pd[i]?=some pd[i]:=XW (ZI j)
 have e2:pd[i+1]?=some pd[i+1]:=XW j
 generalize pd[i]'(ZI j)=ea at d
 generalize pd[i+1]=eb at e2
 obtain⟨u,q,B⟩:=ea
 obtain⟨I,r,H⟩:=eb
 have v:pd.toList[i]?=some (u,q,B):=by rw [V_];exact d
 have y:pd.toList[i+1]?=some (I,r,H):=by rw [V_];exact e2
 have z:=Og v y
 have x:=b.ch
 rw [z]at x
 obtain⟨k,C,c2,D,G,F,m⟩:=Chain.app.mp x
 subst c2
 subst G
 have J:=m.le
 refine Uw O hc hp d e2 D F (by omega) (b.sg _ (XO v)) (b.sg _ (XO y)) λa o K S=>?_
 have t:=BV (c:=(u,q+r,B)) d e2
 refine h a _ o (K.mono (XQ _) (by omega)) ⟨?_,λe he=>?_⟩ ?_
 ·rw [t]
  exact Chain.app.mpr ⟨u,C,rfl,U_ D (YG q r),by rw [<- cF];exact m⟩
 ·rw [t]at he
  rcases O_.mp he with he | he
  ·refine(b.sg e (aD he)).kept K (.inl ?_)
   exact(C.low e he).2
  ·rcases XJ.mp he with rfl | he
   ·exact S
   ·refine(b.sg e (eJ he)).kept K (.inr ?_)
    exact(m.low e he).1
 ·have:=ZX List.length t
  have hz:=ZX List.length z
  simp only [List.length_append,List.length_cons,Array.length_toList]at this hz
  omega
theorem Chain.mod{f:Nat×Nat×Nat->Nat×Nat×Nat}(hf:∀e,(f e).1=e.1/\(f e).2.1=e.2.1):∀{l:List (Nat×Nat×Nat)} {i lo b:Nat},Chain l lo b->Chain (l.modify i f) lo b
 | [],i,lo,b,h=>by rw [List.modify_nil];exact h
 | (a,l,q) :: r,0,lo,b,h=>by
  rw [List.modify_zero_cons]
  have:=hf (a,l,q)
  generalize f (a,l,q)=e at this
  obtain⟨c,d,j⟩:=e
  obtain⟨h1,h2⟩:=this
  dsimp only at h1 h2
  subst h1
  subst h2
  exact h
 | (a,l,q) :: r,i+1,lo,b,h=>by
  rw [List.modify_succ_cons]
  exact⟨h.1,h.2.1,h.2.2.mod hf⟩
theorem Sl{f:Nat×Nat×Nat->Nat×Nat×Nat}:∀{l:List (Nat×Nat×Nat)} {i:Nat} {e:Nat×Nat×Nat},e∈l.modify i f->∃b∈l,e=b\/e=f b
 | [],i,e,h=>by rw [List.modify_nil]at h;cases h
 | a :: r,0,e,h=>by
  rw [List.modify_zero_cons]at h
  rcases XJ.mp h with rfl | h
  ·exact⟨a,.head _,.inr rfl⟩
  ·exact⟨e,.tail _ h,.inl rfl⟩
 | a :: r,i+1,e,h=>by
  rw [List.modify_succ_cons]at h
  rcases XJ.mp h with rfl | h
  ·exact⟨e,.head _,.inl rfl⟩
  ·obtain⟨b,h1,h2⟩:=Sl h
   exact⟨b,.tail _ h1,h2⟩
theorem Wait.modify{f:Nat×Nat×Nat->Nat×Nat×Nat}(hf:∀e,(f e).1=e.1/\(f e).2.1=e.2.1){i b:Nat}(h:Wait lt p pd.toList b):Wait lt p (pd.modify i f).toList b:=by
 rw [Array.toList_modify]
 refine⟨h.ch.mod hf,λe he=>?_⟩
 obtain⟨a,h1,h2⟩:=Sl he
 have:=h.sg a h1
 rcases h2 with rfl | rfl
 ·exact this
 ·rw [(hf a).1,(hf a).2];exact this
theorem Wait.push{lo m:Nat}(h:Wait lt p pd.toList lo)(a:0 < m)(S:Seg lt p lo m):Wait lt p (pd.push (lo,m,0)).toList (lo+m):=by
 rw [fU]
 refine⟨Chain.app.mpr ⟨lo,h.ch,rfl,a,rfl⟩,λe he=>?_⟩
 rcases O_.mp he with he | he
 ·exact h.sg e he
 ·rw [P_.mp he];exact S
theorem Qn(O:WeakOrd n lt)(hc:Cmp prog w A κ it n lt s)(hp:In n p){Q:Unit->jL->Prop}(hQ:∀o d u,Kept p o 0 p.size->Seg lt o 0 p.size->Q () (SS κ it o d u)):wpS (model prog w) A E s sortRuns' Q (SS κ it p #[] g):=by
 rw [sortRuns'_eq]
 refine T_ (fQ ?_)
 have ez:(arrOf (SS κ it p #[] g)).size=p.size:=by show(p.map _).size=_;rw [dJ]
 rw [ez]
 generalize hN:p.size=N at hQ
 dsimp only
 generalize minRun' N N 0=mr
 refine T_ (aV (ZQ (I:=λx c B=>∃o d u lo,B=SS κ it o d u/\c=(none,lo)/\Kept p o 0 N/\Wait lt o d.toList lo/\lo<=N/\x<=lo) (Q:=λc B=>∃o d u,B=SS κ it o d u/\c=(none,N)/\Kept p o 0 N/\Wait lt o d.toList N) ?_ ?_ ⟨p,#[],g,0,rfl,rfl,.refl,⟨rfl,λe he=>by simp at he⟩,XQ _,E_ _⟩) ?_)
 ·rintro x c B _ hx ⟨o,d,u,lo,rfl,rfl,K,W,T,hxl⟩
  have bf:=K.in hp
  have hz:=K.size
  dsimp only
  by_cases e:lo>=N
  ·rw [Q_ e]
   have:lo=N:=by omega
   subst this
   exact XM ⟨o,d,u,rfl,rfl,K,W⟩
  rw [J_ e]
  refine T_ (BU O hc bf (show 1<=N - lo by omega) (by omega) λk p1 k1 k2 U S1=>?_)
  rw [show lo+(N - lo)=N from YY T]at U
  dsimp only
  have R:∀(t:Array Nat) (H:Array (Nat×Nat×Nat)) (S m:Nat),Kept p t 0 N->Wait lt t H.toList lo->Seg lt t lo m->1<=m->lo+m<=N ->
    ∃o d u n6,SS κ it t (H.push (lo,m,0)) S=SS κ it o d u/\((none:Option Unit),lo+m)=(none,n6)/\Kept p o 0 N/\Wait lt o d.toList n6/\n6<=N/\x+1<=n6:=λt H S m F J V m1 m2=>⟨t,_,S,lo+m,rfl,rfl,F,J.push m1 V,m2,by omega⟩
  by_cases Y:k < mr
  ·rw [Q_ Y]
   refine T_ (iK (aW ⟨rfl,?_⟩))
   refine T_ (Xj O hc (U.in bf) k1 (m:=min (N - lo) mr) (by omega) (by rw [U.size];omega) S1 λt Kb V=>?_)
   rw [J_ (show ¬(!true)=true by decide)]
   have F:Kept p t 0 N:=(K.trans (U.mono (XQ _) (E_ _))).trans (Kb.mono (XQ _) (by omega))
   have J:Wait lt t d.toList lo:=(W.keep U).keep Kb
   refine T_ (fQ ?_)
   show wpS _ _ _ _ (match d.back? with
    | some (L,G,_)=>_
    | _=>_) _ _
   cases eb:d.back? with
   | none =>
    dsimp only
    exact T_ (bZ (XM (R t d u _ F J V (by omega) (by omega))))
   | some e =>
    obtain⟨L,G,q1⟩:=e
    dsimp only
    refine T_ (aV (ZQ (I:=λ_ c B=>∃v r C,B=SS κ it v r C/\c=(none,())/\Kept t v 0 lo/\Wait lt v r.toList lo) (Q:=λc B=>∃v r C,B=SS κ it v r C/\c=(none,())/\Kept t v 0 lo/\Wait lt v r.toList lo) ?_ (λ_ _ z=>z) ⟨t,d,u,rfl,rfl,.refl,J⟩) ?_)
    ·rintro y c B _ _ ⟨v,r,C,rfl,rfl,D,M⟩
     refine T_ (fQ ?_)
     have iz:=D.in (F.in hp)
     have z3:v.size=N:=by rw [D.size,F.size,hN]
     have Z:pendingOf (SS κ it v r C)=r:=rfl
     rw [Z]
     by_cases c1:r.size > 1
     ·rw [Q_ c1,XW (by omega)]
      generalize r[r.size - 2]'(by omega)=e3
      obtain⟨u1,u2,u3⟩:=e3
      dsimp only
      by_cases c2:u3<=power' N (2 * L+G) (2 * L+G+G+min (N - lo) mr) N
      ·rw [Q_ c2]
       exact XM ⟨v,r,C,rfl,rfl,D,M⟩
      ·rw [J_ c2]
       refine T_ (Jk O hc iz (i:=r.size - 2) M (by omega) (by omega) λp4 X g4 K4 W4 _=>?_)
       rw [J_ (show ¬(!true)=true by decide)]
       exact XM ⟨p4,X,g4,rfl,rfl,D.trans K4,W4⟩
     ·rw [J_ c1]
      exact XM ⟨v,r,C,rfl,rfl,D,M⟩
    ·rintro c B ⟨v,r,C,rfl,rfl,D,M⟩
     dsimp only
     refine T_ (bZ (T_ (bZ (XM ?_))))
     exact R v _ C _ (F.trans (D.mono (E_ _) (T))) (Wait.modify (i:=r.size - 1) (f:=λx=>(x.1,x.2.1,power' N (2 * L+G) (2 * L+G+G+min (N - lo) mr) N)) (λe=>⟨rfl,rfl⟩) M) (V.kept D (.inr (E_ _))) (by omega) (by omega)
  ·rw [J_ Y]
   obtain⟨t,e2⟩:∃t,t=p1:=⟨_,rfl⟩
   subst e2
   have V:=S1
   have F:Kept p t 0 N:=K.trans (U.mono (XQ _) (E_ _))
   have J:Wait lt t d.toList lo:=W.keep U
   refine T_ (fQ ?_)
   show wpS _ _ _ _ (match d.back? with
    | some (L,G,_)=>_
    | _=>_) _ _
   cases eb:d.back? with
   | none =>
    dsimp only
    exact T_ (bZ (XM (R t d u _ F J V k1 (by omega))))
   | some e =>
    obtain⟨L,G,q1⟩:=e
    dsimp only
    refine T_ (aV (ZQ (I:=λ_ c B=>∃v r C,B=SS κ it v r C/\c=(none,())/\Kept t v 0 lo/\Wait lt v r.toList lo) (Q:=λc B=>∃v r C,B=SS κ it v r C/\c=(none,())/\Kept t v 0 lo/\Wait lt v r.toList lo) ?_ (λ_ _ z=>z) ⟨t,d,u,rfl,rfl,.refl,J⟩) ?_)
    ·rintro y c B _ _ ⟨v,r,C,rfl,rfl,D,M⟩
     refine T_ (fQ ?_)
     have iz:=D.in (F.in hp)
     have z3:v.size=N:=by rw [D.size,F.size,hN]
     have Z:pendingOf (SS κ it v r C)=r:=rfl
     rw [Z]
     by_cases c1:r.size > 1
     ·rw [Q_ c1,XW (by omega)]
      generalize r[r.size - 2]'(by omega)=e3
      obtain⟨u1,u2,u3⟩:=e3
      dsimp only
      by_cases c2:u3<=power' N (2 * L+G) (2 * L+G+G+k) N
      ·rw [Q_ c2]
       exact XM ⟨v,r,C,rfl,rfl,D,M⟩
      ·rw [J_ c2]
       refine T_ (Jk O hc iz (i:=r.size - 2) M (by omega) (by omega) λp4 X g4 K4 W4 _=>?_)
       rw [J_ (show ¬(!true)=true by decide)]
       exact XM ⟨p4,X,g4,rfl,rfl,D.trans K4,W4⟩
     ·rw [J_ c1]
      exact XM ⟨v,r,C,rfl,rfl,D,M⟩
    ·rintro c B ⟨v,r,C,rfl,rfl,D,M⟩
     dsimp only
     refine T_ (bZ (T_ (bZ (XM ?_))))
     exact R v _ C _ (F.trans (D.mono (E_ _) (T))) (Wait.modify (i:=r.size - 1) (f:=λx=>(x.1,x.2.1,power' N (2 * L+G) (2 * L+G+G+k) N)) (λe=>⟨rfl,rfl⟩) M) (V.kept D (.inr (E_ _))) k1 (by omega)
 ·rintro c B ⟨o,d,u,lo,rfl,rfl,K,W,T,hxl⟩
  have:lo=N:=by omega
  subst this
  exact⟨o,d,u,rfl,rfl,K,W⟩
 ·rintro c B ⟨o,d,u,rfl,rfl,K,W⟩
  dsimp only
  have h0:d.size<=N:=by have:=W.ch.le;rw [XU]at this;omega
  refine T_ (aV (ZQ (I:=λx c B=>∃o d u,B=SS κ it o d u/\c=(none,())/\Kept p o 0 N/\Wait lt o d.toList N/\(d.size<=1\/d.size+x<=N)) (Q:=λc B=>∃o d u,B=SS κ it o d u/\c=(none,())/\Kept p o 0 N/\Wait lt o d.toList N/\d.size<=1) ?_ ?_ ⟨o,d,u,rfl,rfl,K,W,.inr (by omega)⟩) ?_)
  ·clear K W h0
   rintro x c B _ hx ⟨o,d,u,rfl,rfl,K,W,P⟩
   refine T_ (fQ ?_)
   have Z:pendingOf (SS κ it o d u)=d:=rfl
   rw [Z]
   by_cases Y:d.size<=1
   ·rw [Q_ Y]
    exact XM ⟨o,d,u,rfl,rfl,K,W,Y⟩
   rw [J_ Y]
   have go:∀i,i+1 < d.size->wpS (model prog w) A E s (mergeAt' i) (λb B=>b=true/\∃t H S,B=SS κ it t H S/\Kept p t 0 N/\Wait lt t H.toList N/\(H.size<=1\/H.size+(x+1)<=N)) (SS κ it o d u):=λi hi =>
    Jk O hc (K.in hp) W (by rw [K.size];exact dS (Eq.symm hN)) hi λt H S F J hz2=>⟨rfl,t,H,S,rfl,K.trans F,J,by omega⟩
   refine T_ (aV (go _ ?_) ?_)
   ·have lem:∀(c:Prop) [Decidable c],(if c then d.size - 2 - 1 else d.size - 2)+1 < d.size:=λc _=>by
     by_cases h:c
     ·rw [Q_ h];omega
     ·rw [J_ h];omega
    exact lem _
   ·rintro b B ⟨rfl,t,H,S,rfl,F,J,h2⟩
    rw [J_ (show ¬(!true)=true by decide)]
    exact XM ⟨t,H,S,rfl,rfl,F,J,h2⟩
  ·rintro c B ⟨o,d,u,rfl,rfl,K,W,P⟩
   exact⟨o,d,u,rfl,rfl,K,W,by omega⟩
  ·clear K W h0
   rintro c B ⟨o,d,u,rfl,rfl,K,W,P⟩
   refine XM (hQ o d u K ?_)
   have fu:=W.ch
   have hsg:=W.sg
   rw [<- XU]at P
   generalize d.toList=l at fu hsg P
   match l,fu,hsg,P with
   | [],h,_,_=>cases h;exact λi j _ _ h3=>by omega
   | [(a,m,q)],h,hs,_ =>
    obtain⟨h1,h2,h3⟩:=h
    have:=hs (a,m,q) (.head _)
    have h3:0+m=N:=h3
    rw [h1,show m=N by omega]at this
    exact this
   | _ :: _ :: _,_,_,h=>simp at h
theorem StrictOrd.weak(O:StrictOrd n lt):WeakOrd n lt:=by
 have d:∀a b,a < n->b < n->lt a b=true->lt b a=false:=λa b ha hb h=>by
  cases c:lt b a with
  | false=>rfl
  | true =>
   have:=O.tr a b a ha hb ha h c
   rw [O.irr a ha]at this;cases this
 refine⟨λa b c ha hb hc h1 h2=>?_,d⟩
 by_cases e:b=a
 ·subst e;exact h2
 by_cases e2:c=b
 ·subst e2;exact h1
 exact d a c ha hc (O.tr a b c ha hb hc (O.tot b a hb ha e h1) (O.tot c b hc hb e2 h2))
theorem StrictOrd.up(O:StrictOrd n lt)(P:Pm n p)(h:VH lt p n):Up lt p n:=λi j a hj=>O.tot _ _ (P.lt j hj) (P.lt i (YZ a hj)) (P.inj j i hj (YZ a hj) (fL a)) (h i j a hj)
theorem BW{vs:List iV}{lt:Nat->Nat->Bool}(O:WeakOrd vs.length lt){κ:jM}(k:∀i j C,i < vs.length->j < vs.length->C (lt i j) s->kas_ask prog w A κ vs i j C s){Q:jL->iW->Prop}
  (l:∀(p:Array Nat) (st:jL),Pm vs.length p->VH lt p vs.length->arrOf st=p.map (kas_item (vs.toArray.zip vs.toArray))->failedOf st=none->Q st s) :
  wpAny (model prog w) A ((sortRuns').run (SortSt.mk' κ (vs.toArray.zip vs.toArray) #[] 7 none)) (λr f=>Q r.2 f) E s:=by
 have b:(vs.toArray.zip vs.toArray).size=vs.length:=by simp
 have c:SortSt.mk' κ (vs.toArray.zip vs.toArray) #[] 7 none=SS κ (vs.toArray.zip vs.toArray) (List.toArray (List.range vs.length)) #[] 7:=by
  have e:=kas_range (vs.toArray.zip vs.toArray)
  rw [b]at e
  show SortSt.mk' κ (vs.toArray.zip vs.toArray) #[] 7 none=SortSt.mk' κ ((List.toArray (List.range vs.length)).map (kas_item (vs.toArray.zip vs.toArray))) #[] 7 none
  rw [e]
 rw [c]
 have hc:Cmp prog w A κ (vs.toArray.zip vs.toArray) vs.length lt s:=λi j C a hj h=>by
  have:=k i j C a hj h
  rwa [kat_ask_eq rfl]at this
 have o:In vs.length (List.toArray (List.range vs.length)):=λi a=>by
  simp at a
  simp [at0,Array.getD,a]
 have q:(List.toArray (List.range vs.length)).size=vs.length:=by simp
 have:=Qn (E:=E) (g:=7) O hc o (Q:=λ_ st=>Q st s) λd u t K S=>by
  have P:Pm vs.length d:=FA (by have:=K.perm;simpa using this)
  refine l d _ P (λi j m hj=>?_) rfl rfl
  exact S i j (XQ _) m (by rw [q];omega)
 refine ZW this (λr f h=>?_) λ_ _ e=>e
 obtain⟨rfl,h⟩:=h
 exact h
end
end L2
namespace L2
open PySem
def IV(A:jC)(s:iW)(u v:iV)(b:Bool):Prop:=∀(prog:i_) (w:jA) (E:iV->iW->Prop) (Q:iV->iW->Prop),Q (.bool b) s->wpAny (model prog w) A (richCompare .Lt u v) Q E s
inductive LexAt (A:jC) (s:iW):List iV->List iV->Bool->Prop
 | nil {ys:List iV}:LexAt A s [] ys (decide (0 < ys.length))
 | stop {x:iV} {xs:List iV}:LexAt A s (x :: xs) [] false
 | eq {x y:iV} {xs ys:List iV} {r:Bool}:SeqAt.EqAt A s x y true->LexAt A s xs ys r->LexAt A s (x :: xs) (y :: ys) r
 | ne {x y:iV} {xs ys:List iV} {r:Bool}:SeqAt.EqAt A s x y false->IV A s x y r->LexAt A s (x :: xs) (y :: ys) r
section
variable {prog:i_}{w:jA}{A:jC}{E:iV->iW->Prop}{s:iW}
theorem LexAt.ends{xs ys:List iV}{r:Bool}(h:LexAt A s xs ys r)(e:xs.zip ys=[]):r=decide (xs.length < ys.length):=by
 cases h with
 | nil=>simp
 | stop=>simp
 | eq=>simp at e
 | ne=>simp at e
theorem Kj{a b:iY}{o i:jE}{xs ys:Array iV}{n k:Nat}{P:PySem.Fin->iW->Prop}{r:Bool}(ha:s.heap.get? a=some o)(hb:s.heap.get? b=some i)(t:i.cls=.type "tuple") (p:o.data=.seq xs n) (x:i.data=.seq ys k)
  (h:LexAt A s xs.toList ys.toList r) (q:P (.done (.ret (.bool r))) s):wpAny (model prog w) A (Builtin.«tuple.__lt__» ⟨[.ref a,.ref b],[]⟩) P E s:=by
 have y:s.TypeIs (.ref b) "tuple" := ⟨i,hb,t⟩
 refine(show wpAny _ _ (isInstance (.ref b) (.type "tuple") >>= _) _ _ s from A_ (bQ y isSubtype_tuple_tuple ?_))
 rw [show(!true)=false from rfl,J_ L_]
 refine A_ (gZ ha p (A_ (gZ hb x (A_ ?_))))
 refine dL _ (λleft f m=>f.1=none/\m=s/\∃g d,left=List.zip g d/\LexAt A s g d r/\decide (g.length < d.length)=decide (xs.size < ys.size)) _ ?_ ?_ _ _ ⟨rfl,rfl,xs.toList,ys.toList,rfl,h,by simp⟩
 ·rintro⟨u,v⟩ left f m ⟨j,rfl,g,d,c,l,hn⟩
  cases l with
  | nil=>simp at c
  | stop=>simp at c
  | eq h1 h2 =>
   simp only [List.zip_cons_cons,List.cons.injEq,Prod.mk.injEq]at c
   obtain⟨⟨rfl,rfl⟩,rfl⟩:=c
   refine A_ (h1 prog w _ _ ?_)
   dsimp only
   rw [show(!true)=false from rfl,J_ L_]
   exact C_ ⟨rfl,rfl,_,_,rfl,h2,by simpa using hn⟩
  | ne h1 h2 =>
   simp only [List.zip_cons_cons,List.cons.injEq,Prod.mk.injEq]at c
   obtain⟨⟨rfl,rfl⟩,rfl⟩:=c
   refine A_ (h1 prog w _ _ ?_)
   simp only [Bool.not_false,if_true]
   exact A_ (aW (A_ (h2 prog w _ _ (A_ (C_ (C_ (C_ q)))))))
 ·rintro⟨a1,a2⟩ m ⟨j,rfl,g,d,c,l,hn⟩
  simp only at j
  subst j
  have e:=l.ends c.symm
  rw [e,hn]at q
  exact C_ q
theorem Qo{a b:iY}{c d:jE}{xs ys:Array iV}{n k:Nat}{r:Bool}(ha:s.heap.get? a=some c)(hb:s.heap.get? b=some d)(e:c.cls=.type "tuple") (f:d.cls=.type "tuple") (g:c.data=.seq xs n) (i:d.data=.seq ys k)
  (hu:A.units < cLine) (h:LexAt A.in1 s xs.toList ys.toList r):IV A s (.ref a) (.ref b) r:=λprog w E Q q =>
 wpAny_richCompare_same_room (T := "tuple") ⟨c,ha,e⟩ ⟨d,hb,f⟩ F.slot_tuple_lt (YS F.slot_tuple_lt ⟨c,ha,e⟩ F.entry_tuple_lt (Kj ha hb f g i h ⟨_,rfl,(λz=>nomatch z),q⟩) (F.args_tuple_lt_2 _ _)) hu
end
mutual
def cmpb:iX->iX->Bool
 | .int _,.int _=>true
 | .tuple a,.tuple b=>cmpbs a b
 | _,_=>false
def cmpbs:List iX->List iX->Bool
 | [],_=>true
 | _ :: _,[]=>true
 | x :: a,y :: b=>if PyData.eqv x y then cmpbs a b else cmpb x y
end
theorem Xk{u a b c d:Nat}(h:u+min (max a b) (max c d) < cLine):u+min a c < cLine:=by omega
theorem IW{u a b c d:Nat}(h:u+min (max a b) (max c d) < cLine):u+min b d < cLine:=by omega
mutual
theorem Qp:∀(x y:iX) (A:jC) (s:iW) (u v:iV) (f i:List iY),Reads s.heap u x f->Reads s.heap v y i->x.canLay0=true->y.canLay0=true->cmpb x y=true->A.units+min x.depth y.depth < cLine->IV A s u v (E5 x y)
 | .int a,.int b,A,s,u,v,f,i,d,j,_,_,_,_=>by
  cases d;cases j
  intro k w E Q q
  have e:E5 (.int a) (.int b)=decide (a < b):=by simp [E5]
  rw [e]at q
  exact wpAny_lt_int q
 | .tuple c,.tuple g,A,s,u,v,f,i,d,j,l,c2,hc,hu=>by
  cases d with
  | tuple a1 a2 o p =>
   cases j with
   | tuple b1 b2 n m =>
    have e:E5 (.tuple c) (.tuple g)=C6 c g:=by simp [E5]
    rw [e]
    simp only [PyData.canLay0]at l c2
    simp only [cmpb]at hc
    simp only [PyData.depth]at hu
    refine Qo a1 b1 a2 b2 o n (by omega) (D7 c g A.in1 s _ _ _ _ p m l c2 hc ?_)
    show A.units+1+_ < _
    omega
 | .int _,.none,_,_,_,_,_,_,_,_,_,_,h,_=>by simp [cmpb]at h
 | .int _,.bool _,_,_,_,_,_,_,_,_,_,_,h,_=>by simp [cmpb]at h
 | .int _,.str _,_,_,_,_,_,_,_,_,_,_,h,_=>by simp [cmpb]at h
 | .int _,.list _,_,_,_,_,_,_,_,_,_,_,h,_=>by simp [cmpb]at h
 | .int _,.tuple _,_,_,_,_,_,_,_,_,_,_,h,_=>by simp [cmpb]at h
 | .int _,.dict _,_,_,_,_,_,_,_,_,_,_,h,_=>by simp [cmpb]at h
 | .tuple _,.none,_,_,_,_,_,_,_,_,_,_,h,_=>by simp [cmpb]at h
 | .tuple _,.bool _,_,_,_,_,_,_,_,_,_,_,h,_=>by simp [cmpb]at h
 | .tuple _,.str _,_,_,_,_,_,_,_,_,_,_,h,_=>by simp [cmpb]at h
 | .tuple _,.list _,_,_,_,_,_,_,_,_,_,_,h,_=>by simp [cmpb]at h
 | .tuple _,.int _,_,_,_,_,_,_,_,_,_,_,h,_=>by simp [cmpb]at h
 | .tuple _,.dict _,_,_,_,_,_,_,_,_,_,_,h,_=>by simp [cmpb]at h
 | .none,_,_,_,_,_,_,_,_,_,_,_,h,_=>by simp [cmpb]at h
 | .bool _,_,_,_,_,_,_,_,_,_,_,_,h,_=>by simp [cmpb]at h
 | .str _,_,_,_,_,_,_,_,_,_,_,_,h,_=>by simp [cmpb]at h
 | .list _,_,_,_,_,_,_,_,_,_,_,_,h,_=>by simp [cmpb]at h
 | .dict _,_,_,_,_,_,_,_,_,_,_,_,h,_=>by simp [cmpb]at h
theorem D7:∀(xs ys:List iX) (A:jC) (s:iW) (b vs:List iV) (d f:List iY),ReadsAll s.heap b xs d->ReadsAll s.heap vs ys f->PyData.canLayAll0 xs=true->PyData.canLayAll0 ys=true->cmpbs xs ys=true->A.units+min (PyData.depthAll xs) (PyData.depthAll ys) < cLine->LexAt A s b vs (C6 xs ys)
 | [],ys,A,s,b,vs,d,f,a,c,_,_,_,_=>by
  cases a
  have e:C6 [] ys=decide (0 < vs.length):=by
   cases c <;> simp [C6]
  rw [e]
  exact .nil
 | x :: xs,[],A,s,b,vs,d,f,a,c,_,_,_,_=>by
  cases c
  cases a with
  | cons a1 a2 =>
   have e:C6 (x :: xs) []=false:=by simp [C6]
   rw [e]
   exact .stop
 | x :: xs,y :: ys,A,s,b,vs,d,f,a,c,g,c2,hc,hu=>by
  simp only [PyData.canLayAll0,Bool.and_eq_true]at g c2
  simp only [PyData.depthAll]at hu
  cases a with
  | cons a1 a2 =>
   cases c with
   | cons b1 b2 =>
    have q:=gH x y A s _ _ _ _ a1 b1 g.1 c2.1 (Xk hu)
    simp only [cmpbs]at hc
    simp only [C6]
    cases e:PyData.eqv x y with
    | true =>
     rw [e]at q hc
     exact .eq q (D7 xs ys A s _ _ _ _ a2 b2 g.2 c2.2 hc (IW hu))
    | false =>
     rw [e]at q hc
     exact .ne q (Qp x y A s _ _ _ _ a1 b1 g.1 c2.1 hc (Xk hu))
end
end L2
namespace L2
open PySem PySem.W PyProof.Rows
section
variable {prog:i_}{w:jA}{A:jC}{E:iV->iW->Prop}{s:iW}
theorem Sm{a b:Bool}{Q:Bool->iW->Prop}:∀{d vs:List iV} {r:Bool},LexAt A s d vs r->a=decide (d.length < vs.length)->∀i,(b && i==0)=false->Q r s->KatLex prog w A b a Q (d.zip vs) i s:=by
 intro d vs r h
 induction h with
 | nil =>
  intro e i c q
  have f:a=decide (0 < _):=e
  rw [<- f]at q
  exact kat_nil q
 | stop =>
  intro e i c q
  have f:a=false:=by rw [e];simp
  rw [<- f]at q
  exact kat_nil q
 | eq h1 h2 g =>
  intro e i c q
  exact kat_cons (h1 prog w _ _ (kat_yes (g (by rw [e];simp) (i+1) (by simp) q)))
 | ne h1 h2 =>
  intro e i c q
  refine kat_cons (h1 prog w _ _ (kat_no ?_))
  rw [c]
  exact kat_one _ _ (h2 prog w _ _ (show PySem.W.BoolBack Q (.bool _) s from q))
theorem IX{x y:iY}{a b:Int}{c d:List iX}{u C:List iY}{Q:Bool->iW->Prop}(r:Reads s.heap (.ref x) (.tuple (.int a :: c)) u)(H:Reads s.heap (.ref y) (.tuple (.int b :: d)) C)(k:(PyData.tuple (.int a :: c)).canLay0=true)(c2:(PyData.tuple (.int b :: d)).canLay0=true)
  (hc:cmpb (.tuple (.int a :: c)) (.tuple (.int b :: d))=true) (hu:A.units+64 < cLine) (F:(PyData.tuple (.int a :: c)).depth<=64) (q:Q (E5 (.tuple (.int a :: c)) (.tuple (.int b :: d))) s):wpAny (model prog w) A (keyLt' (tuples' true) (.ref x) (.ref y)) Q E s:=by
 cases r with
 | @tuple _ J g n _ _ a1 a2 D j =>
  cases H with
  | @tuple _ I h m _ _ b1 b2 z i =>
   refine kat_lt a1 D b1 z ?_
   simp only [PyData.canLay0,PyData.canLayAll0,Bool.and_eq_true]at k c2
   simp only [PyData.depth,PyData.depthAll]at F
   simp only [cmpb,cmpbs]at hc
   simp only [E5,C6]at q
   have l:g.size=g.toList.length:=by simp
   have G:h.size=h.toList.length:=by simp
   rw [l,G]
   generalize g.toList=us at j ⊢
   generalize h.toList=vs at i ⊢
   cases j with
   | cons B o =>
    cases i with
    | cons v1 v =>
     cases B with
     | int _ t =>
      cases v1 with
      | int _ p =>
       rw [List.zip_cons_cons]
       have f:=gH (.int a) (.int b) A s _ _ _ _ (.int a t) (.int b p) rfl rfl (by simp [PyData.depth];omega)
       cases e:PyData.eqv (.int a) (.int b) with
       | true =>
        rw [e]at f hc q
        refine kat_cons (f prog w _ _ (kat_yes ?_))
        refine Sm (D7 c d A s _ _ _ _ o v k.2 c2.2 hc (by omega)) (by simp) 1 rfl q
       | false =>
        rw [e]at f hc q
        refine kat_cons (f prog w _ _ (kat_no ?_))
        exact kat_lt_int q
theorem BX{x y:iY}{a b:List iX}{f h:List iY}{Q:Bool->iW->Prop}(e:Reads s.heap (.ref x) (.tuple a) f)(l:Reads s.heap (.ref y) (.tuple b) h)(c:(PyData.tuple a).canLay0=true)(c2:(PyData.tuple b).canLay0=true)
  (hc:cmpb (.tuple a) (.tuple b)=true) (hu:A.units+64 < cLine) (j:(PyData.tuple a).depth<=64) (q:Q (E5 (.tuple a) (.tuple b)) s):wpAny (model prog w) A (keyLt' (tuples' false) (.ref x) (.ref y)) Q E s:=by
 cases e with
 | @tuple _ t p n _ _ a1 a2 i k =>
  cases l with
  | @tuple _ o r m _ _ b1 b2 g d =>
   refine kat_lt a1 i b1 g ?_
   simp only [PyData.canLay0]at c c2
   simp only [PyData.depth]at j
   simp only [cmpb]at hc
   simp only [E5]at q
   refine Sm (D7 a b A s _ _ _ _ k d c c2 hc (by omega)) (by simp) 0 rfl q
theorem Fa{a:iY}{vs:List iV}{l:Nat->Nat->Bool}{n:Nat}{P:PySem.Fin->iW->Prop}(B:s.heap.get? a=some (seqObj "list" vs.toArray n)) (H:vs.length < 1000000) (O:StrictOrd vs.length l)
  (hk:2<=vs.length->∀h':jD,(∀b o,b≠a->s.heap.get? b=some o->h'.get? b=some o)->∃ κ,(∀Q:jM->iW->Prop,Q κ { s with heap:=h' }->wpAny (model prog w) A (keyKind' vs.toArray) Q E { s with heap:=h' }) /\
   ∀i j C,i < vs.length->j < vs.length->C (l i j) { s with heap:=h' }->kas_ask prog w A κ vs i j C { s with heap:=h' })
  (h:∀(p:Array Nat) (h':jD) (c:Nat),Pm vs.length p->Up l p vs.length->(∀b o,b≠a->s.heap.get? b=some o->h'.get? b=some o)->h'.get? a=some (seqObj "list" (p.toList.map λi=>vs.getD i Value.none).toArray c)->P (.done (.ret .none)) { s with heap:=h' }) :
  wpAny (model prog w) A (Builtin.«list.sort» ⟨[.ref a],[]⟩) P E s:=by
 obtain⟨y,m⟩:∃y,(s.heap.update a (Obj.mapSeq λ_=>(#[]:Array iV))).get? a=some (seqObj "list" #[] y):=⟨_,get?_update_seq B λ_=>#[]⟩
 have v:vs.toArray.size<=sizeLine:=by rw [XS];exact G_ (YM H) (by decide)
 have x:∀b o,b≠a->s.heap.get? b=some o->(((s.heap.update a (Obj.mapSeq λ_=>(#[]:Array iV))).push (seqObj "tuple" vs.toArray 0)).push (seqObj "list" #[] 0)).get? b=some o:=λb o hb e =>
  DD _ (DD _ (((YT s.heap a _).2 b hb).trans e))
 have g:(((s.heap.update a (Obj.mapSeq λ_=>(#[]:Array iV))).push (seqObj "tuple" vs.toArray 0)).push (seqObj "list" #[] 0)).get? a=some (seqObj "list" #[] y):=DD _ (DD _ m)
 rw [list_sort_plain]
 refine A_ (listItems_at B rfl (A_ (listUpdate_at B rfl (A_ (seqEpoch_at m rfl (A_ (wpAny_newTuple (A_ (wpAny_newList (ZF ?_) (XQ _))) (by simpa using v))))) v (XQ _))))
 show wpAny (model prog w) A _ P E { s with heap:=(((s.heap.update a (Obj.mapSeq λ_=>(#[]:Array iV))).push (seqObj "tuple" vs.toArray 0)).push (seqObj "list" #[] 0)) }
 generalize ((s.heap.update a (Obj.mapSeq λ_=>(#[]:Array iV))).push (seqObj "tuple" vs.toArray 0)).push (seqObj "list" #[] 0)=h2 at x g ⊢
 dsimp only
 have t:∀(st:jL) (p:Array Nat),(arrOf st).map (·.2)=List.toArray (p.toList.map λi=>vs.getD i Value.none)->failedOf st=none->Pm vs.length p->Up l p vs.length->∀Q:jD->Prop,(∀(h':jD) (c:Nat),(∀b o,b≠a->s.heap.get? b=some o->h'.get? b=some o)->h'.get? a=some (seqObj "list" (p.toList.map λi=>vs.getD i Value.none).toArray c)->Q h') ->
   Q (h2.update a (Obj.mapSeq λ_=>(arrOf st).map (·.2))):=λst p e _ _ _ Q q=>by
  rw [e]
  exact q _ _ (λb o hb G=>((YT h2 a _).2 b hb).trans (x b o hb G)) (get?_update_seq g _)
 by_cases h1:vs.toArray.size < 2
 ·rw [Q_ h1,Q_ h1]
  refine A_ (C_ ?_)
  rw [StateT.run_pure]
  have d:Pm vs.length (List.range vs.length).toArray:=FA (by simp)
  have f:Up l (List.range vs.length).toArray vs.length:=λi j N hj=>by
   rw [XS]at h1
   omega
  have r:(arrOf (SortSt.mk' general' (vs.toArray.zip vs.toArray) #[] 7 none)).map (·.2)=List.toArray ((List.range vs.length).toArray.toList.map λi=>vs.getD i Value.none):=by
   have J:=kat_snds (ks:=vs) (vs:=vs) (st:=SortSt.mk' general' (vs.toArray.zip vs.toArray) #[] 7 none) (p:=(List.range vs.length).toArray) rfl (by
    have e:=kas_range (vs.toArray.zip vs.toArray)
    rw [show(vs.toArray.zip vs.toArray).size=vs.length by simp]at e
    exact e.symm)
   exact J
  have z:=t _ _ r rfl d f (λh'=>P (.done (.ret .none)) { s with heap:=h' }) (λh' c k e=>h _ h' c d f k e)
  refine A_ (C_ (A_ (seqEpoch_at g rfl (A_ (listUpdate_at g rfl ?_ (XQ _) ?_)))))
  ·rw [show failedOf (SortSt.mk' general' (vs.toArray.zip vs.toArray) #[] 7 none)=none from rfl,bne_self_eq_false,J_ L_]
   exact C_ z
  ·refine G_ ?_ (YX v)
   show(Array.map _ _).size<=_
   rw [r];simp
 ·rw [J_ h1,J_ h1]
  have I:2<=vs.length:=by rw [XS]at h1;exact ZN h1
  obtain⟨κ,M,L⟩:=hk I h2 x
  refine A_ (M _ ?_)
  refine A_ (ZW (BW O.weak L (Q:=λst D=>D={ s with heap:=h2 }/\∃p:Array Nat,(arrOf st).map (·.2)=List.toArray (p.toList.map λi=>vs.getD i Value.none)/\failedOf st=none/\Pm vs.length p/\Up l p vs.length)
   λp st d f F u=>⟨rfl,p,kat_snds rfl F,u,d,O.up d f⟩) ?_ λ_ _ e=>e)
  rintro⟨⟨⟩,st⟩ D ⟨rfl,p,r,u,d,f⟩
  dsimp only
  have z:=t _ _ r u d f (λh'=>P (.done (.ret .none)) { s with heap:=h' }) (λh' c k e=>h _ h' c d f k e)
  refine A_ (seqEpoch_at g rfl (A_ (listUpdate_at g rfl ?_ (XQ _) ?_)))
  ·rw [u,bne_self_eq_false,J_ L_]
   exact C_ z
  ·refine G_ ?_ (YX v)
   show(Array.map _ _).size<=_
   rw [r]
   simp [d.size]
theorem Ux{v:iV}{vs:List iV}{a:Nat->Nat->Bool}{h1:jD}{t1:Nat}{Q:iV->iW->Prop}(x:∀r:List iV->iW->Prop,r vs { s with heap:=h1,toks:=t1 }->wpAny (model prog w) A.in1 (collect v) r E s)(g:∀b o,s.heap.get? b=some o->h1.get? b=some o)(d:s.heap.objs.size<=h1.objs.size)(n:vs.length < 1000000)(O:StrictOrd vs.length a)
  (hk:2<=vs.length->∀h':jD,(∀b o,s.heap.get? b=some o->h'.get? b=some o)->∃ κ,(∀Q:jM->iW->Prop,Q κ { s with heap:=h',toks:=t1 }->wpAny (model prog w) A.in1.in1 (keyKind' vs.toArray) Q E { s with heap:=h',toks:=t1 }) /\
   ∀i j C,i < vs.length->j < vs.length->C (a i j) { s with heap:=h',toks:=t1 }->kas_ask prog w A.in1.in1 κ vs i j C { s with heap:=h',toks:=t1 })
  (h:∀(p:Array Nat) (h':jD) (l c:Nat),Pm vs.length p->Up a p vs.length->s.heap.objs.size<=l->(∀b o,s.heap.get? b=some o->h'.get? b=some o)->h'.get? l=some (seqObj "list" (p.toList.map λi=>vs.getD i Value.none).toArray c)->Q (.ref l) { s with heap:=h',toks:=t1 }) :
  wpAny (model prog w) A (call (.builtin "sorted") [v]) Q E s:=by
 have u:vs.length<=sizeLine:=G_ (YM n) (by decide)
 have f:(h1.push (seqObj "list" vs.toArray 0)).get? h1.objs.size=some (seqObj "list" vs.toArray 0):=R_ _ rfl
 refine Calls.call_function_entry kind_sorted plain_sorted entry_sorted (args_sorted1 _) ?_
 unfold Builtin.«sorted»
 refine A_ (m:=checkCount "sorted" 1 1 _) (C_ (A_ (x _ (A_ (wpAny_newList ?_ u)))))
 refine A_ (ZF (YS slot_list_sort ⟨_,f,rfl⟩ entry_list_sort ?_ (args_list_sort _)))
 refine Fa (s:={ s with heap:=h1.push (seqObj "list" vs.toArray 0),toks:=t1 }) f n O (λh2 h' k=>?_) λp h' c y t k e=>⟨_,rfl,C_ ⟨_,rfl,?_⟩⟩
 ·exact hk h2 h' λb o q=>k b o (W_ (U_ (N_ q) d)) (DD _ (g b o q))
 ·exact h p h' _ c y t d (λb o q=>k b o (W_ (U_ (N_ q) d)) (DD _ (g b o q))) e
end
end L2
namespace L2
open PySem PySem.Spec PyProof.Rows
structure SortOk(ds:List iX):Prop where
 len:ds.length < 1000000
 can:PyData.canLayAll0 ds=true
 dp:PyData.depthAll ds<=64
 cano:Ao ds=true
 nd:ds.Nodup
 fst:2<=ds.length->∀d∈ds,∃i r,d=.tuple (.int i :: r)
 cmp:∀d∈ds,∀e∈ds,cmpb d e=true
structure SortOkW(ds:List iX):Prop where
 len:ds.length < 1000000
 can:PyData.canLayAll0 ds=true
 dp:PyData.depthAll ds<=64
 cano:Ao ds=true
 nd:ds.Nodup
 fst:2<=ds.length->(∀d∈ds,∃i r,d=.tuple (.int i :: r))\/∀d∈ds,∃i r,d=.tuple (.tuple i :: r)
 cmp:∀d∈ds,∀e∈ds,cmpb d e=true
theorem SortOk.w{ds:List iX}(h:SortOk ds):SortOkW ds:=⟨h.len,h.can,h.dp,h.cano,h.nd,λz=>.inl (h.fst z),h.cmp⟩
def ON(ds:List iX)(i j:Nat):Bool:=E5 (ds.getD i .none) (ds.getD j .none)
theorem Cg:∀{ds:List iX},Ao ds=true->∀d∈ds,Cano d=true
 | d :: ds,h,e,he=>by
  simp only [Ao,Bool.and_eq_true]at h
  rcases XJ.mp he with rfl | he
  ·exact h.1
  ·exact Cg h.2 e he
theorem Gc:∀{ds:List iX},PyData.canLayAll0 ds=true->∀d∈ds,d.canLay0=true
 | d :: ds,h,e,he=>by
  simp only [PyData.canLayAll0,Bool.and_eq_true]at h
  rcases XJ.mp he with rfl | he
  ·exact h.1
  ·exact Gc h.2 e he
theorem Le:∀{ds:List iX},∀d∈ds,d.depth<=PyData.depthAll ds
 | d :: ds,e,he=>by
  simp only [PyData.depthAll]
  rcases XJ.mp he with rfl | he
  ·omega
  ·have:=Le (ds:=ds) e he
   omega
theorem Bz{α:Type}{xs:List α}{i:Nat}{d:α}(h:i < xs.length):xs.getD i d∈xs:=by
 rw [YR,M_ h];exact bC h
theorem C7{α:Type}{xs:List α}{i:Nat}{d:α}(h:i < xs.length):xs[i]?=some (xs.getD i d):=by
 rw [YR,M_ h];rfl
theorem SortOkW.ord{ds:List iX}(h:SortOkW ds):StrictOrd ds.length (ON ds):=by
 refine⟨λa b c ha hb hc h1 h2=>?_,λa b ha hb f h1=>?_,λa ha=>Fm _ (Cg h.cano _ (Bz ha))⟩
 ·exact Qj _ _ _ (Cg h.cano _ (Bz ha)) (Cg h.cano _ (Bz hb)) (Cg h.cano _ (Bz hc)) h1 h2
 ·refine Sd _ _ (Cg h.cano _ (Bz ha)) (Cg h.cano _ (Bz hb)) (λe=>f ?_) h1
  refine(iB ha h.nd).mp ?_
  rw [C7 (d:=PyData.none) ha,C7 (d:=PyData.none) hb,e]
theorem Lf{h h':jD}(hk:∀b o,h.get? b=some o->h'.get? b=some o):∀{a:List iV} {ds:List iX} {c:List iY},ReadsAll h a ds c->ReadsAll h' a ds c
 | _,_,_,.nil=>.nil
 | _,_,_,.cons r t=>.cons (c_ hk r) (Lf hk t)
theorem IY{h:jD}:∀{a:List iV} {ds:List iX} {b:List iY} {i:Nat},ReadsAll h a ds b->i < ds.length->∃d,Reads h (a.getD i .none) (ds.getD i .none) d
 | _,_,_,0,.cons r _,_=>⟨_,r⟩
 | _,_,_,i+1,.cons _ t,c=>IY (i:=i) t (by simpa using c)
theorem Xl{h:jD}:∀{a:List iV} {ds:List iX} {b:List iY},ReadsAll h a ds b->a.length=ds.length
 | _,_,_,.nil=>rfl
 | _,_,_,.cons _ t=>by simp [Xl t]
theorem Oh{h:jD}:∀{e:List iV} {ds:List iX} {f:List iY},ReadsAll h e ds f->(∀d∈ds,∃i r,d=.tuple (.int i :: r))->∃b:List iV,PySem.W.KatTups h e b/\b.length=e.length/\∀v∈b,∃i t,v=.int i t
 | _,_,_,.nil,_=>⟨[],PySem.W.KatTups.nil,rfl,λ_ z=>nomatch z⟩
 | _,_,_,.cons r t,g=>by
  obtain⟨b,k,l,z⟩:=Oh t λd p=>g d (XN _ p)
  obtain⟨i,A,rfl⟩:=g _ XT
  cases r with
  | @tuple a o m n x f a1 a2 s c =>
   cases hv:m.toList with
   | nil=>rw [hv]at c;cases c
   | cons u y =>
    rw [hv]at c
    cases c with
    | cons q w =>
     cases q with
     | int _ j =>
      refine⟨.int i j :: b,PySem.W.KatTups.cons a1 a2 s ?_ k,by simp [l],λv hv'=>?_⟩
      ·rw [<- V_,hv];rfl
      ·rcases XJ.mp hv' with rfl | hv'
       ·exact⟨_,_,rfl⟩
       ·exact z v hv'
theorem Oi{h:jD}:∀{e:List iV} {ds:List iX} {f:List iY},ReadsAll h e ds f->(∀d∈ds,∃i r,d=.tuple (.tuple i :: r))->∃b:List iV,PySem.W.KatTups h e b/\b.length=e.length/\∀v∈b,∃a o,v=.ref a/\h.get? a=some o/\o.cls=.type "tuple"
 | _,_,_,.nil,_=>⟨[],PySem.W.KatTups.nil,rfl,λ_ z=>nomatch z⟩
 | _,_,_,.cons r t,g=>by
  obtain⟨b,k,l,z⟩:=Oi t λd q=>g d (XN _ q)
  obtain⟨i,H,rfl⟩:=g _ XT
  cases r with
  | @tuple a o p n D f a1 a2 s c =>
   cases hv:p.toList with
   | nil=>rw [hv]at c;cases c
   | cons A E =>
    rw [hv]at c
    cases c with
    | cons w C =>
     cases w with
     | @tuple j B u x F m b1 b2 G y =>
      refine⟨.ref j :: b,PySem.W.KatTups.cons a1 a2 s ?_ k,by simp [l],λv hv'=>?_⟩
      ·rw [<- V_,hv];rfl
      ·rcases XJ.mp hv' with rfl | hv'
       ·exact⟨_,_,rfl,b1,b2⟩
       ·exact z v hv'
section
variable {prog:i_}{w:jA}{A:jC}{E:iV->iW->Prop}{s:iW}{X:Cx}{k:Nat}{o e f:jB}{aq aj:Pos}{td ty tx te:AE}{p p2 pos ay:Pos}
theorem Sn{a:List iV}{ds:List iX}{h:List iY}{i j:Nat}{b c:List iX}(ok:SortOkW ds)(m:ReadsAll s.heap a ds h)(n:i < ds.length)(hj:j < ds.length)(t:ds.getD i .none=.tuple b)(e2:ds.getD j .none=.tuple c):∃x y v h,a.getD i .none=.ref x/\a.getD j .none=.ref y/\Reads s.heap (.ref x) (.tuple b) v/\Reads s.heap (.ref y) (.tuple c) h/\(PyData.tuple b).canLay0=true/\(PyData.tuple c).canLay0=true/\cmpb (.tuple b) (.tuple c)=true/\(PyData.tuple b).depth<=64:=by
 obtain⟨b1,l⟩:=IY m n
 obtain⟨b2,g⟩:=IY m hj
 have m1:=Bz (d:=PyData.none) n
 have m2:=Bz (d:=PyData.none) hj
 rw [t]at l m1
 rw [e2]at g m2
 generalize a.getD i Value.none=u1 at l ⊢
 generalize a.getD j Value.none=u2 at g ⊢
 cases l with
 | tuple a1 a2 u z =>
  cases g with
  | tuple b1 b2 r q=>exact⟨_,_,_,_,rfl,rfl,.tuple a1 a2 u z,.tuple b1 b2 r q,Gc ok.can _ m1,Gc ok.can _ m2,ok.cmp _ m1 _ m2,G_ (Le _ m1) ok.dp⟩
theorem Xm{c:List iV}{ds:List iX}{z:List iY}(ok:SortOkW ds)(g:ReadsAll s.heap c ds z)(h2:2<=ds.length)(hu:A.units+64 < cLine):∃ κ,(∀Q:jM->iW->Prop,Q κ s->wpAny (model prog w) A (keyKind' c.toArray) Q E s)/\∀i j C,i < c.length->j < c.length->C (ON ds i j) s->PySem.W.kas_ask prog w A κ c i j C s:=by
 have H:=Xl g
 rcases ok.fst h2 with hf | hf
 ·obtain⟨I,r,M,B⟩:=Oh g hf
  refine⟨tuples' true,λQ q=>?_,λi j C b hj q=>?_⟩
  ·refine PySem.W.kat_kind (T:=.type "int") r (by omega) (λv hv=>?_) rfl q
   obtain⟨i,t,rfl⟩:=B v hv
   exact PySem.W.Looks.of_pure rfl
  ·rw [H]at b hj
   obtain⟨J,L,h⟩:=hf _ (Bz (d:=PyData.none) b)
   obtain⟨O,P,e2⟩:=hf _ (Bz (d:=PyData.none) hj)
   obtain⟨x,y,N,z,n,D,F,u,G,c2,l,m⟩:=Sn ok g b hj h e2
   have q:C (E5 (ds.getD i .none) (ds.getD j .none)) s:=q
   rw [h,e2]at q
   unfold PySem.W.kas_ask
   rw [n,D]
   exact IX F u G c2 l hu m q
 ·obtain⟨I,r,M,B⟩:=Oi g hf
  refine⟨tuples' false,λQ q=>?_,λi j C b hj q=>?_⟩
  ·refine PySem.W.kat_kind (T:=.type "tuple") r (by omega) (λv hv=>?_) rfl q
   obtain⟨a,o,rfl,h1,h2⟩:=B v hv
   rw [<- h2]
   exact(PySem.W.Looks.ld h1).andThen .now
  ·rw [H]at b hj
   obtain⟨J,L,h⟩:=hf _ (Bz (d:=PyData.none) b)
   obtain⟨O,P,e2⟩:=hf _ (Bz (d:=PyData.none) hj)
   obtain⟨x,y,N,z,n,D,F,u,G,c2,l,m⟩:=Sn ok g b hj h e2
   have q:C (E5 (ds.getD i .none) (ds.getD j .none)) s:=q
   rw [h,e2]at q
   unfold PySem.W.kas_ask
   rw [n,D]
   exact BX F u G c2 l hu m q
theorem Oj{n:Nat}{ds:List iX}{p:Array Nat}(m:Pm n p)(c:Up (ON ds) p n):(p.toList.map λi=>ds.getD i PyData.none).Pairwise (λa b=>E5 a b=true):=by
 rw [ZJ]
 refine bO.mpr λi j h hj l=>?_
 have hj':j < n:=by rw [<- m.size];simpa using hj
 have:=c i j l hj'
 have g:p.getD i 0=p.toList[i]:=by simp [Array.getD,show i < p.size by simpa using h]
 have d:p.getD j 0=p.toList[j]:=by simp [Array.getD,show j < p.size by simpa using hj]
 rw [g,d]at this
 exact this
def Jl(P:List iX->Prop):AC:=λg μ R=>match g with
 | [.R a]=>opt (μ a) λm=>match m with
  | .lst d=>opt (dats d) λc=>P c/\∀(es:List iX) (p:iY),es.Perm c->es.Pairwise (λa b=>E5 a b=true)->μ p=none->R (.R p) (Al μ p (.lst (es.map .D)))
  | _=>False
 | _=>False
abbrev BY:AC:=Jl SortOk
theorem Dt{α:Type}(xs:List α)(d:α):(List.range xs.length).map (λi=>xs.getD i d)=xs:=by
 apply bV
 intro i
 rw [H_]
 by_cases h:i < xs.length
 ·rw [List.getElem?_range h,C7 (d:=d) h];rfl
 ·rw [ZD (by simpa using h),ZD (by simpa using h)];rfl
theorem Am.pick{K:iZ}{H:Hp}{ds:List iX}{vs:List V}(h:Am K H ds vs):∀(p:List Nat),(∀i∈p,i < ds.length)->Am K H (p.map λi=>ds.getD i .none) (p.map λi=>vs.getD i .non)
 | [],_=>D1
 | i :: p,hp=>by
  obtain⟨x,b,a⟩:=h.get (C7 (d:=PyData.none) (hp i XT))
  refine Dp ?_ (h.pick p λj hj=>hp j (XN _ hj))
  have e:vs.getD i .non=x:=by rw [YR,b];rfl
  show Dk K H (ds.getD i .none) (vs.getD i .non)
  rw [e];exact a
theorem Vals.pick{xs:List V}{a:List iV}(h:Vals xs a):∀(p:List Nat),(∀i∈p,i < xs.length)->Vals (p.map λi=>xs.getD i .non) (p.map λi=>a.getD i .none)
 | [],_=>.nil
 | i :: p,hp=>by
  obtain⟨u,b,c⟩:=h.get (C7 (d:=V.non) (hp i XT))
  refine .cons ?_ (Vals.pick h p λj hj=>hp j (XN _ hj))
  have e:a.getD i .none=u:=by rw [YR,b];rfl
  show Bb (xs.getD i .non) (a.getD i .none)
  rw [e];exact c
theorem Uy{P:List iX->Prop}(N:∀d,P d->SortOkW d)(J:Room k X.A):VCall X (.builtin "sorted") (Jl P):=by
 intro aa s σ H xs us Q I r zz93
 refine Ca zz93 λas μ R ra hc h hq=>?_
 unfold Jl at h
 split at h
 ·rename_i a
  cases ra with
  | cons S M =>
  cases M
  obtain⟨m,V,h⟩:=A0 h
  split at h
  ·rename_i ys
   obtain⟨d,ed,ok,h⟩:=A0 h
   have ok:=N _ ok
   obtain⟨o,T,x,rfl,L⟩:=hc _ _ V
   cases S
   obtain⟨u,rfl,Z⟩:=Fr r
   cases Z
   obtain⟨g,C,pl,hz⟩:=I.list (E8.of (K:=X.K) T)
   have dk:=L.dats ed
   obtain⟨bs,B⟩:=Am.reads I d x g dk C
   have n:=Xl B
   have Y:=dk.length
   have D:g.length < 1000000:=by rw [n];exact ok.len
   have F:g.length<=sizeLine:=G_ (YM D) (by decide)
   have j:∀b o,s.heap.get? b=some o->((s.heap.push (seqObj "list" #[] 0)).update s.heap.objs.size (Obj.mapSeq (·++g.toArray))).get? b=some o:=λb o q =>
    ((YT (s.heap.push (seqObj "list" #[] 0)) s.heap.objs.size _).2 b (W_ (N_ q))).trans (DD _ q)
   have U:StrictOrd g.length (ON d):=by rw [n];exact ok.ord
   refine Ux (t1:=s.toks) (λQ' q=>collect_list pl.isList q F) j (by rw [Heap.size_update];exact G_ (cU _) (dS (a_ _ _).symm)) D U (λh2 v y=>?_) λp v l c t up G y e=>?_
   ·have hu:=J.un
    exact Xm (s:={ s with heap:=v,toks:=s.toks }) ok (Lf y B) (by omega) (by show X.A.units+1+1+64 < _;omega)
   ·have hp:∀i∈p.toList,i < d.length:=λi z=>by
     have:=t.perm.mem_iff.mp z
     rw [n]at this
     exact XZ.mp this
    have hv:=Vals.pick C p.toList λi z=>by rw [Y];exact hp i z
    have hd:=dk.pick p.toList hp
    have W:(p.toList.map λi=>x.getD i .non).length<=sizeLine:=by
     rw [B_,XU,t.size];exact F
    refine⟨.ref l,_,I.laid (t':=s.toks) y G (show Bs X.prog X.w _ v _ (.lst (p.toList.map λi=>x.getD i .non)) from⟨W,_,c,hv,e⟩),rfl,?_⟩
    have hn:=I.hok.fresh G
    refine hq _ _ _ _ (Kp.new hn _) (hc.new hn (Cv ?_)) Dq (h (p.toList.map λi=>d.getD i .none) l ?_ ?_ (hc.none hn))
    ·exact hd.rel
    ·have O:p.toList.Perm (List.range d.length):=by rw [<- n];exact t.perm
     have e2:=O.map λi=>d.getD i PyData.none
     rw [Dt]at e2
     exact e2
    ·exact Oj t up
  ·exact h.elim
 ·exact h.elim
theorem Ol(a:Room k X.A):VCall X (.builtin "sorted") BY:=Uy (λ_ h=>h.w) a
def IZ:MO->Prop
 | .dk _=>True
 | .dt _=>True
 | _=>False
def Xn(td ty tx:AE):AE:=fun τ μ R=>td τ μ λx μ1=>match x with
 | .R a=>(∃m,μ1 a=some m/\IZ m)/\ty τ μ1 λy μ2=>tx τ μ2 λz μ3=>match y with
  | .D d=>opt (μ3 a) λm=>opt (dget m d) λr=>R (r.getD z) μ3
  | _=>False
 | _=>False
theorem Xo{K:iZ}{μ:M}{H:Hp}{a:iY}{m:MO}(hc:Cn K μ H)(e:μ a=some m)(h:IZ m):RV H a:=by
 obtain⟨i,g,d⟩:=hc a m e
 cases m with
 | dk b=>obtain⟨c,rfl,_⟩:=d;exact .inl ⟨c,.inl g⟩
 | dt b=>obtain⟨c,rfl,_⟩:=d;exact .inr ⟨c,.inl g⟩
 | lst j=>exact h.elim
 | dd b=>exact h.elim
theorem Om(hu:X.A.units+1 < cLine)(l:VE X o td)(he:VE X e ty)(hf:VE X f tx)(m:M2 X o "get" aq e f aj:=by exact⟨rfl,rfl,rfl,rfl⟩):VE X (.Call (.Attribute o "get" aq) [e,f] [] aj) (Xn td ty tx):=(Wi hu l he hf m).imp fun σ H Q zz94=>Ca zz94 fun τ μ R b hc h hq =>
 ⟨τ,μ,_,b,hc,h,λx μ1 v H1 S1 j rx hx=>by
  split at hx
  ·rename_i a
   obtain⟨⟨B,c,q⟩,hx⟩:=hx
   cases rx
   refine⟨a,rfl,Xo j c q,τ,μ1,_,b.kp S1,j,hx,λy μ2 u H2 S2 c2 ry hy=>⟨τ,μ2,_,(b.kp S1).kp S2,c2,hy,λz μ3 zv H3 S3 c3 rz hz=>?_⟩⟩
   split at hz
   ·obtain⟨m,t,hz⟩:=A0 hz
    obtain⟨r,n,hz⟩:=A0 hz
    obtain⟨i,g,d⟩:=Mm c3 t (Dk.kp S3 _ _ ry) n
    refine⟨i,g,hq _ _ _ _ ((S1.trans S2).trans S3) c3 ?_ hz⟩
    cases r with
    | none =>
     cases i with
     | none=>exact rz
     | some _=>exact d.elim
    | some _ =>
     cases i with
     | none=>exact d.elim
     | some _=>exact d
   ·exact hz.elim
  ·exact hx.elim⟩
def OO(te:AE):AE:=fun τ μ R=>te τ μ λx μ1=>match x with
 | .R a=>opt (μ1 a) λm=>match m with
  | .lst b=>∀l,μ1 l=none->R (.R l) (Al μ1 l (.lst b.reverse))
  | _=>False
 | _=>False
theorem BZ(hc:X.calm=true)(c:Gl X "list") (g:X.mg "list" = none) (d:Gl X "reversed") (n:X.mg "reversed" = none) (he:VE X e te)
  (hs:starEach [.Call (.Name "reversed" p2) [e] [] ay] X.env=[(false,eval (.Call (.Name "reversed" p2) [e] [] ay) X.env)]:=by rfl) (t:starEach [e] X.env=[(false,eval e X.env)]:=by rfl) :
  VE X (.Call (.Name "list" p) [.Call (.Name "reversed" p2) [e] [] ay] [] pos) (OO te):=(AQ hc c g d n he hs t).imp fun σ H Q zz95=>Ca zz95 fun τ μ R hs hc h hq =>
 ⟨τ,μ,_,hs,hc,h,λx μ1 v H1 S1 c1 rx hx=>by
  split at hx
  ·rename_i a
   obtain⟨m,r,hx⟩:=A0 hx
   split at hx
   ·obtain⟨u,q,j,rfl,i⟩:=c1 _ _ r
    cases rx
    exact⟨a,j,rfl,E8.of q,λl b=>hq _ _ _ _ (S1.trans (Kp.new b _)) (c1.new b (Cv i.rev)) Dq (hx l (c1.none b))⟩
   ·exact hx.elim
  ·exact hx.elim⟩
end
end L2
namespace L2
open PySem
def Du(xs:Array Nat):Prop:=xs.toList.Pairwise (· < ·)
theorem Du.lt{xs:Array Nat}(h:Du xs){i j:Nat}{d:Nat}(a:i < j)(hj:j < xs.size):xs.getD i d < xs.getD j d:=by
 have:=bO.mp h i j (by simp;exact YZ a hj) (by simpa using hj) a
 simp only [Array.getElem_toList]at this
 simp only [Array.getD,show i < xs.size from Nat.lt_trans a hj,hj,dif_pos]
 exact this
theorem Jm{xs:Array Nat}(h:Du xs){j:Nat}:∀(f lo a:Nat),a - lo<=f->lo<=a->a<=xs.size->(∀i,i < lo->xs.getD i j < j)->(∀i,a<=i->i < xs.size->j<=xs.getD i j) ->
  SetTable.below.go xs j f lo a<=xs.size/\(∀i,i < SetTable.below.go xs j f lo a->xs.getD i j < j)/\∀i,SetTable.below.go xs j f lo a<=i->i < xs.size->j<=xs.getD i j
 | 0,lo,a,h1,h2,k,g,b=>by
  have e:lo=a:=by omega
  subst e
  exact⟨k,g,b⟩
 | f+1,lo,a,h1,h2,k,g,b=>by
  rw [SetTable.below.go]
  by_cases c:lo < a
  ·rw [Q_ c]
   dsimp only
   by_cases c2:xs.getD ((lo+a) / 2) j < j
   ·rw [Q_ c2]
    refine Jm h f _ _ (by omega) (by omega) k (λi l=>?_) b
    by_cases e:i=(lo+a) / 2
    ·rw [e];exact c2
    ·have:=h.lt (d:=j) (show i < (lo+a) / 2 by omega) (show(lo+a) / 2 < xs.size by omega)
     exact YZ this c2
   ·rw [J_ c2]
    refine Jm h f _ _ (by omega) (by omega) (by omega) g (λi l m=>?_)
    by_cases e:i=(lo+a) / 2
    ·rw [e];exact ZN c2
    ·have:=h.lt (d:=j) (show(lo+a) / 2 < i by omega) m
     omega
  ·rw [J_ c]
   have e:lo=a:=by omega
   subst e
   exact⟨k,g,b⟩
theorem Em{xs:Array Nat}(h:Du xs)(j:Nat):SetTable.below xs j<=xs.size/\(∀i,i < SetTable.below xs j->xs.getD i j < j)/\∀i,SetTable.below xs j<=i->i < xs.size->j<=xs.getD i j :=
 Jm h xs.size 0 xs.size (gI _ _) (XQ _) (E_ _) (λi a=>absurd a (b_ _)) λi a b=>by omega
theorem Qq{xs:Array Nat}(h:Du xs){k:Nat}(hk:k < xs.size):SetTable.below xs (xs[k]+1)=k+1:=by
 obtain⟨b1,b2,b⟩:=Em h (xs[k]+1)
 have g:∀i,(a:i < xs.size)->xs.getD i (xs[k]+1)=xs[i]:=λi a=>by simp [Array.getD,a]
 rcases iE (SetTable.below xs (xs[k]+1)) (k+1) with c | c | c
 ·have:=b k (ZH c) hk
  rw [g k hk]at this
  omega
 ·exact c
 ·have h1:k+1 < xs.size:=U_ c b1
  have:=b2 (k+1) c
  rw [g _ h1]at this
  have h2:=h.lt (d:=0) (aJ k) h1
  simp only [Array.getD,hk,h1,dif_pos]at h2
  have e:xs[k] < xs[k+1]:=h2
  omega
theorem Qr{xs:Array Nat}(h:Du xs):SetTable.below xs 0=0:=by
 obtain⟨b1,b2,a⟩:=Em h 0
 rcases fE (SetTable.below xs 0) with e | e
 ·exact e
 ·have:=b2 0 e;omega
theorem Fb{α:Type}(xs:Array α)(p:Nat)(x:α)(hp:p<=xs.size):(SetTable.insertAt xs p x).toList=xs.toList.take p++x :: xs.toList.drop p:=by
 rw [SetTable.toList_insertAt]
theorem On{xs:Array Nat}(h:Du xs){j:Nat}(hj:xs[SetTable.below xs j]?≠some j):Du (SetTable.insertAt xs (SetTable.below xs j) j):=by
 obtain⟨b1,b2,o⟩:=Em h j
 unfold Du
 rw [Fb _ _ _ b1]
 have m:∀a∈xs.toList.take (SetTable.below xs j),a < j:=λa ha=>by
  obtain⟨i,f,e⟩:=dD ha
  have h1:i < SetTable.below xs j:=by
   rw [X_]at f;omega
  have:=b2 i h1
  simp only [Array.getD,show i < xs.size from Nat.lt_of_lt_of_le h1 b1,dif_pos]at this
  rw [<- e]
  simpa using this
 have n:∀a∈xs.toList.drop (SetTable.below xs j),j < a:=λa ha=>by
  obtain⟨i,f,e⟩:=dD ha
  have h1:SetTable.below xs j+i < xs.size:=by
   rw [cH]at f;simp at f;omega
  have h2:=o _ (YG _ i) h1
  simp only [Array.getD,h1,dif_pos]at h2
  have e2:a=xs[SetTable.below xs j+i]:=by rw [<- e];simp
  have r:a≠j:=by
   intro z
   by_cases c:i=0
   ·subst c
    apply hj
    rw [XW (by omega)]
    exact ZX some (e2.symm.trans z)
   ·have g:SetTable.below xs j < xs.size:=by omega
    have l:=o _ (E_ _) g
    simp only [Array.getD,g,dif_pos]at l
    have k:=h.lt (d:=0) (show SetTable.below xs j < SetTable.below xs j+i by omega) h1
    simp only [Array.getD,g,h1,dif_pos]at k
    have p:xs[SetTable.below xs j] < xs[SetTable.below xs j+i]:=k
    have s:j<=xs[SetTable.below xs j]:=l
    omega
  have q:j<=xs[SetTable.below xs j+i]:=h2
  omega
 refine cV.mpr ⟨h.sublist (fM _ _),dW.mpr ⟨n,h.sublist (List.drop_sublist _ _)⟩,λa ha b hb=>?_⟩
 rcases XJ.mp hb with rfl | hb
 ·exact m a ha
 ·have:=m a ha
  have:=n b hb
  omega
structure TblOk(t:SetTable)(led:Bool):Prop where
 rise:Du t.place
 dum:t.dummies=#[]
 led:t.led=led
theorem Qs(n:Nat):Du (Array.range n):=by
 unfold Du
 rw [Array.toList_range]
 exact bK
theorem TblOk.standIn{t:SetTable}{led:Bool}(h:TblOk t led)(n:Nat):TblOk (t.standIn n) led:=⟨Qs n,rfl,h.led⟩
theorem TblOk.orStandIn{t:SetTable}{led:Bool}(h:TblOk t led)(n:Nat):TblOk (t.orStandIn n) led:=by
 unfold SetTable.orStandIn
 split
 ·exact h
 ·exact h.standIn n
theorem TblOk.plain{t:SetTable}{led:Bool}(h:TblOk t led)(b:Bool):TblOk { t with plain:=b } led:=⟨h.rise,h.dum,h.led⟩
theorem Jn(j:Nat):SetTable.has #[] j=false:=by
 unfold SetTable.has
 simp
theorem Jo{t:SetTable}{led:Bool}(h:TblOk t led){j:Nat}(e:t.slot j=.empty):t.place[SetTable.below t.place j]?≠some j:=by
 unfold SetTable.slot at e
 dsimp only at e
 split at e
 ·cases e
 ·rename_i c
  simpa using c
theorem Qt{t:SetTable}{led:Bool}(h:TblOk t led){j:Nat}:t.slot j≠.dummy:=by
 unfold SetTable.slot
 dsimp only
 rw [h.dum,Jn]
 split
 ·intro z;cases z
 ·intro z;cases z
theorem Kk(t:SetTable)(p:SetTable.Probe):(t.advance p).dummy=p.dummy:=by
 unfold SetTable.advance
 split <;> rfl
theorem Hx{t:SetTable}{led:Bool}(h:TblOk t led){hashAt:Nat->Int}{a:Int}{j:Nat}{d:Option Nat}:∀(f:Nat) (p:SetTable.Probe),p.dummy=none->SetTable.probe.go t hashAt a f p=some (.empty j d)->d=none/\t.slot j=.empty
 | 0,_,_,e=>by simp [SetTable.probe.go]at e
 | f+1,p,hp,e=>by
  rw [SetTable.probe.go]at e
  cases c:t.slot p.j with
  | empty =>
   rw [c]at e
   have b:=YO e
   injection b with e1 e2
   exact⟨e2.symm.trans hp,by rw [<- e1];exact c⟩
  | dummy=>exact absurd c (Qt h)
  | live i =>
   rw [c]at e
   dsimp only at e
   split at e
   ·cases e
   ·exact Hx h f _ ((Kk t p).trans hp) e
theorem CA{t:SetTable}{led:Bool}(h:TblOk t led){f:Int}{s:Nat}{b:Bool}(e:t.freeSlot f=some (s,b)):t.place[SetTable.below t.place s]?≠some s:=by
 unfold SetTable.freeSlot SetTable.probe at e
 split at e
 ·rename_i j d c
  obtain⟨rfl,g⟩:=Hx h _ _ rfl c
  have i:=YO e
  have a:j=s:=ZX Prod.fst i
  rw [<- a]
  exact Jo h g
 ·cases e
theorem TblOk.put{t:SetTable}{led:Bool}(h:TblOk t led){s:Nat}(hs:t.place[SetTable.below t.place s]?≠some s):TblOk (t.put s).1 led:=by
 refine⟨On h.rise hs,?_,h.led⟩
 show(if SetTable.has t.dummies s then _ else t.dummies)=#[]
 rw [h.dum,Jn];rfl
theorem TblOk.layNew{t:SetTable}{led:Bool}(h:TblOk t led)(es:Array (Int×iV))(a:Int)(x:iV):TblOk (layNew t es a x).2.1 led:=by
 unfold PySem.layNew
 split
 ·rename_i s b c
  exact(h.put (CA h c)).orStandIn _
 ·exact h.standIn _
theorem TblOk.laid{mask finger moves:Nat}{led plain:Bool}{hs:Array Int}{t:SetTable}{i:Array Nat}(e:SetTable.laid mask finger moves led plain hs=some (t,i)):TblOk t led:=by
 unfold SetTable.laid at e
 cases c:SetTable.layClean mask hs with
 | none=>rw [c]at e;cases e
 | some d =>
  rw [c]at e
  have h:=YO e
  injection h with e1 _
  subst e1
  refine⟨?_,rfl,rfl⟩
  unfold Du
  show(List.map _ _).Pairwise _
  rw [ZJ]
  refine List.Pairwise.filterMap _ (R:=(· < ·)) (λa j f b hb k g=>?_) bK
  obtain⟨z,_,rfl⟩:=K_.mp hb
  obtain⟨l,_,rfl⟩:=K_.mp g
  exact f
theorem TblOk.relayAll{t:SetTable}{led:Bool}(h:TblOk t led)(es:Array (Int×iV))(w:Nat):TblOk (relayAll t es w).2.1 led:=by
 unfold PySem.relayAll
 split
 ·rename_i b a c
  dsimp only
  split
  ·have:=TblOk.laid c
   rw [h.led]at this
   exact this
  ·exact h.standIn _
 ·exact h.standIn _
theorem TblOk.fresh(led:Bool):TblOk (.fresh 0 0 led) led:=⟨List.Pairwise.nil,rfl,rfl⟩
section
variable {prog:i_}{w:jA}{Kt:Type} [DecidableEq Kt]{knd:KeyKind prog w Kt}{A:jC}{E:iV->iW->Prop}{s:iW}{a:iY}{led:Bool}
def Dv(knd:KeyKind prog w Kt)(h:jD)(a:iY)(l:List (Int×iV))(led:Bool):Prop :=
 ∃o b c t,h.get? a=some o/\o.ExactSet/\o.data=.set b c t/\b.toList=l/\ElemsOf knd l/\t.fits b.size=true/\TblOk t led
theorem Lg{h:jD}{o:jE}{es:Array (Int×iV)}{ep:Nat}{t:SetTable}(d:h.get? a=some o)(i:o.ExactSet)(c:o.data=.set es ep t){b:Array (Int×iV)}{t':SetTable}(f:ElemsOf knd b.toList)(hf:t'.fits b.size=true)(g:TblOk t' led) :
  (h.update a (Obj.putSet b t')).get? a=some { o with data:=.set b (ep+1) t' }/\Dv knd (h.update a (Obj.putSet b t')) a b.toList led:=by
 have e:=ZU (Obj.putSet b t') d (by rw [putSet_of b t' c];rfl)
 rw [putSet_of b t' c]at e
 exact⟨e,_,b,ep+1,t',e,i,rfl,rfl,f,hf,g⟩
theorem Oo{g:Bool->Sem Unit}(C:∀(b:Bool) (B:iW) (u:Unit->iW->Prop),u () B->wpAny (model prog w) A (g b) u E B){o:jE}{es:Array (Int×iV)}{ep:Nat}{t:SetTable}(n:s.heap.get? a=some o)(y:o.ExactSet)(x:o.data=.set es ep t)
  {c:Array (Int×iV)} {d:SetTable} (v:ElemsOf knd c.toList) (hb:c.size < scanBound) (hf:d.fits c.size=true) (q:TblOk d led) {D:Bool} {R:Option Bool->iW->Prop}
  (h:∀j m,Heap.SameBut a s.heap j->Dv knd j a m led->m.Perm c.toList->R (some true) { s with heap:=j }) :
  wpAny (model prog w) A (do
   storeSet a c d
   if(!D && d.tooFull)=true then do
    g (relayAll d c (SetTable.grown c.size)).2.2
    storeSet a (relayAll d c (SetTable.grown c.size)).1 (relayAll d c (SetTable.grown c.size)).2.1
    pure (some true)
   else pure (some true)) R E s:=by
 obtain⟨l,F⟩:=Lg (knd:=knd) (led:=led) n y x v hf q
 refine A_ (fV n x ?_ (fits_of_scanBound hb))
 have b1:=YT s.heap a (Obj.putSet c d)
 split
 ·have f:=relayAll_perm d c (SetTable.grown c.size)
  have k:=relayAll_fits d c (SetTable.grown c.size)
  have i:=q.relayAll c (SetTable.grown c.size)
  generalize relayAll d c (SetTable.grown c.size)=R1 at f k i ⊢
  obtain⟨r,H,p⟩:=R1
  dsimp only at f k i ⊢
  have z:r.size < scanBound:=by
   have e:r.size=c.size:=by rw [<- XU,f.length_eq,XU]
   rw [e];exact hb
  obtain⟨_,G⟩:=Lg (knd:=knd) (led:=led) l y rfl (v.perm f) k i
  exact A_ (C _ _ _ (A_ (fV l rfl (C_ (h _ _ (b1.trans (YT _ a _)) G f)) (fits_of_scanBound z))))
 ·exact C_ (h _ _ b1 F (g_ _))
theorem CB{l:List (Int×iV)}{k:Kt}{x:iV}{Q:Bool->iW->Prop}(hx:knd.is k x=true)(hs:x.scannable=true)(J:Dv knd s.heap a l led)(hb:l.length+1 < scanBound)
  (h1:(∃e∈l,knd.is k e.2=true)->Q false s) (h2:(∀e∈l,knd.is k e.2=false)->∀d f,Heap.SameBut a s.heap d->Dv knd d a f led->f.Perm (l++[(knd.hash k,x)])->Q true { s with heap:=d }) :
  wpAny (model prog w) A (setAddHashed a x (knd.hash k)) Q E s:=by
 obtain⟨o,g,O,t,v,G,y,rfl,B,hf,I⟩:=J
 rw [XU]at hb
 have z:g.size < scanBound:=by omega
 unfold setAddHashed setAddHashedIn
 refine ZF (A_ (YJ v y hf (show wpAny _ _ _ _ _ _ from ?_)))
 dsimp only
 rw [byScan_of hs z B,Q_ rfl]
 unfold setAddByScan
 refine A_ (A_ (aW (A_ (wpAny_setScan_of hx v y hf B ?_))))
 cases c:List.findIdx? (λe=>knd.is k e.2) g.toList with
 | some j =>
  obtain⟨hj,hp,_⟩:=List.findIdx?_eq_some_iff_getElem.mp c
  exact C_ (C_ (h1 ⟨_,bC hj,hp⟩))
 | none =>
  have H:=List.findIdx?_eq_none_iff.mp c
  have h:=layNew_perm t g (knd.hash k) x
  have p:=layNew_fits t g (knd.hash k) x
  have r:=I.layNew g (knd.hash k) x
  dsimp only
  generalize layNew t g (knd.hash k) x=L1 at h p r ⊢
  obtain⟨C,P,N,M⟩:=L1
  dsimp only at h p r ⊢
  rw [fU]at h
  have D:ElemsOf knd C.toList:=(B.push hx hs).perm h
  have F:C.size < scanBound:=by
   rw [<- XU,h.length_eq,I_,XU];exact hb
  have L:∀(b:Bool) (u:iW) (m:Unit->iW->Prop),m () u->wpAny (model prog w) A (match b with | true=>rule "set.scan.the-table-gave-way" | false=>pure ()) m E u:=λb u m q=>by
   cases b
   ·exact C_ q
   ·exact aW q
  have n:∀d f,Heap.SameBut a s.heap d->Dv knd d a f led->f.Perm C.toList->Q true { s with heap:=d }:=λd f b1 b2 i=>h2 (λe he=>by simpa using H e he) d f b1 b2 (i.trans h)
  refine A_ (L _ _ _ ?_)
  split
  ·refine A_ (show wpAny _ _ (hashByValue 8 x) _ _ _ from ?_)
   rw [hashByValue_scannable 8 hs]
   refine C_ (Oo (led:=led) (λb u m q=>?_) v G y D F ?_ ?_ λd f b1 b2 i=>?_)
   ·cases b
    ·exact C_ q
    ·exact aW q
   ·split
    ·exact p
    ·exact SetTable.fits_plain_off p
   ·split
    ·exact r
    ·exact r.plain false
   ·dsimp only
    exact C_ (n d f b1 b2 i)
  ·refine A_ (C_ (show wpAny _ _ _ _ _ _ from ?_))
   rw [Q_ rfl]
   refine Oo (λb u m q=>?_) v G y D F p r λd f b1 b2 i=>?_
   ·cases b
    ·exact C_ q
    ·exact aW q
   ·dsimp only
    exact C_ (n d f b1 b2 i)
end
theorem De:plainId "set.update.loop" = true:=by decide +kernel
theorem Gx:entryFor table "set.update.loop" = some Builtin.«set.update.loop»:=entryFor_of_tree (by kernel_rfl)
section
variable {prog:i_}{w:jA}{Kt:Type} [DecidableEq Kt]{knd:KeyKind prog w Kt}{A:jC}{R:jK->iW->Prop}{sa it t:iY}{led:Bool}
def Unlike(knd:KeyKind prog w Kt)(l:List (Int×iV)):Prop:=l.Pairwise λe a=>∀k,knd.is k e.2=true->knd.is k a.2=false
def Keys(knd:KeyKind prog w Kt)(l:List (Int×iV))(ks:List Kt):Prop:=∀k,(∃e∈l,knd.is k e.2=true)↔k∈ks
theorem Unlike.add{l:List (Int×iV)}{x:iV}{k:Kt}{h:Int}(d:Unlike knd l)(hx:knd.is k x=true)(hn:∀e∈l,knd.is k e.2=false):Unlike knd (l++[(h,x)]):=by
 refine cV.mpr ⟨d,dM _ _,λe he i g a b=>?_⟩
 have f:i=(h,x):=by simpa using g
 subst f
 cases c:knd.is a x with
 | false=>rfl
 | true =>
  have:=knd.inj x a k c hx
  subst this
  rw [hn e he]at b;cases b
theorem Unlike.perm{l a:List (Int×iV)}(h:Unlike knd l)(p:a.Perm l):Unlike knd a:=by
 refine(List.Perm.pairwise_iff (R:=λ(e b:Int×iV)=>∀k,knd.is k e.2=true->knd.is k b.2=false) (λ{e b} hh k hk=>?_) p.symm).mp h
 cases c:knd.is k e.2 with
 | false=>rfl
 | true=>rw [hh k c]at hk;cases hk
theorem Op:∀{ks:List Kt} {vs:List iV} {i:Nat} {x:iV},ItemsAre knd ks vs->vs[i]?=some x->∃k,ks[i]?=some k/\knd.is k x=true
 | _,_,_,_,.nil,h=>by simp at h
 | _,_,0,_,.cons h1 _,h=>by simp at h;subst h;exact⟨_,rfl,h1⟩
 | _,_,i+1,_,.cons _ t,h=>by simpa using Op (i:=i) t (by simpa using h)
end
section
variable {prog:i_}{w:jA}{A:jC}{E:iV->iW->Prop}{s:iW}
theorem Xp{M:Model}{self v:iV}{Q:Unit->iW->Prop}(a:s.TypeIs self "set") (q:Q () s):wpAny M A (checkBuiltinCall "set.__init__" ⟨[self,v],[]⟩) Q E s:=by
 simp only [checkBuiltinCall,kind_set_init,split_set_init,sig_set_init]
 refine A_ (bQ a sub_set_self (show wpAny _ _ _ _ _ _ from ?_))
 rw [show(!true)=false from rfl,J_ L_]
 unfold Bind.checkArgs
 dsimp only
 refine A_ (m:=Bind.printed "set" true _ _) (PyProof.Rows.printed_name (by decide) (A_ (m:=Bind.printed "*" false _ _) (PyProof.Rows.printed_star (self:=self) rfl a λb=>?_)))
 have e:(if(Manifest.Receiver.self==Manifest.Receiver.none)=true then [self,v].length else [self,v].length - 1)=1:=rfl
 rw [e]
 have hc:Bind.check ⟨.positional,"set","*",.self,[⟨"iterable",.posOnly,false⟩]⟩ "set" b 1 []=pure ():=by simp +decide [Bind.check,Bind.checkCount,Bind.isPositional]
 simp only [List.map_nil]
 rw [hc];exact C_ q
theorem CC(v:iV):checkTypeCall "set" ⟨[v],[]⟩=pure ():=by kernel_rfl
theorem JA(v:iV):checkBuiltinCall "set.__new__" ⟨[.type "set",v],[]⟩=pure ():=by kernel_rfl
def En(w:jA):Bool:=!(w.params.followText "set-order")
def Br(w:jA):jE:={ cls:=.type "set",dict:=none,data:=.set #[] 0 (.fresh 0 0 (En w)) }
theorem CD{v:iV}{Q1:iV->iW->Prop}(h:Q1 (.ref s.heap.objs.size) { s with heap:=s.heap.push (Br w) }) :
  codeAny (model prog w) A (.call (.builtin "set.__new__") ⟨[.type "set",v],[]⟩) (wants Q1 E) s:=by
 refine codeAny_of_tree (show wpAny _ A.in1 (do checkBuiltinCall "set.__new__" ⟨[.type "set",v],[]⟩;again (.builtin "set.__new__" ⟨[.type "set",v],[]⟩)) _ _ s from ?_)
 refine A_ (iS (JA v) (C_ ⟨cZ F.plain_set_new _,cB F.entry_set_new (show wpAny _ _ _ _ _ _ from ?_)⟩))
 rw [bF F.plain_set_new _]
 unfold Builtin.«set.__new__» Builtin.Frozenset.newClass
 have a:=sub_set_self
 obtain⟨hp,g,d,b,os⟩:=s
 dsimp only
 wp_walk
 refine iM (C_ (show wpAny _ _ _ _ _ _ from ?_))
 dsimp only
 simp only [newObj]
 exact A_ (wpAny_alloc (C_ (C_ h)))
theorem Jp{v:iV}{Q:iV->iW->Prop}(h:wpAny (model prog w) A.in1.in1 (Builtin.Frozenset.updateFrom "set.__init__" s.heap.objs.size v) (λ_ b=>Q (.ref s.heap.objs.size) b) E { s with heap:=s.heap.push (Br w) }) :
  wpAny (model prog w) A (call (.type "set") [v]) Q E s:=by
 obtain⟨c,m,j⟩:=F.called_set.mro
 have x:=F.called_set.made
 have o:=F.called_set.sub
 refine wpAny_call (codeAny_of_tree (show wpAny _ _ (callAny (.type "set") _) _ _ _ from ?_))
 refine C_ ⟨Code.quiet_builtin _ (by decide +kernel),cB F.entry_type_call ?_⟩
 rw [Around.under_plain (weight_type_call_type "set" [v] []) rfl]
 have y:=F.called_set.notType
 have t:=F.called_set.canCreate
 have p:=CC v
 repeat any_goals first | assumption | wp_step
 refine gU (CD (E:=E) (Q1:=λi k=>i=.ref s.heap.objs.size/\k={ s with heap:=s.heap.push (Br w) }) ⟨rfl,rfl⟩) λr k d=>?_
 cases r with
 | error e=>exact d
 | ok fl =>
  cases fl with
  | ret i =>
   obtain⟨rfl,rfl⟩:=d
   have g:(s.heap.push (Br w)).get? s.heap.objs.size=some (Br w):=R_ _ rfl
   have T:Shared.TypeIs { s with heap:=s.heap.push (Br w) } (.ref s.heap.objs.size) "set" := ⟨_,g,rfl⟩
   have B:=F.called_set.init.lookup
   have n:=F.called_set.init.bind (.ref s.heap.objs.size)
   repeat any_goals first | assumption | wp_step
   refine gU (codeAny_call_builtin (R:=wants (λr b=>r=.none/\Q (.ref s.heap.objs.size) b) E) F.called_set.init.plain F.entry_set_init (Xp T ?_)) λl b a=>?_
   ·unfold Builtin.«set.__init__» noKeywords
    generalize u:Builtin.Frozenset.updateFrom=U at h ⊢
    unfold Br at g
    wp_walk
    exact ZW h (λ_ _ q=>C_ ⟨rfl,q⟩) λ_ _ e=>e
   ·cases l with
    | error e=>exact a
    | ok f =>
     cases f with
     | ret z =>
      obtain⟨rfl,q⟩:=a
      repeat any_goals first | assumption | wp_step
     | _=>exact a.elim
  | _=>exact d.elim
theorem Hy:isSubtype (.type "tuple") (.type "set")=pure false:=by rw [dF];kernel_rfl
theorem Hz:isSubtype (.type "tuple") (.type "frozenset")=pure false:=by rw [dF];kernel_rfl
end
section
variable {prog:i_}{w:jA}{Kt:Type} [DecidableEq Kt]{knd:KeyKind prog w Kt}{A:jC}{E:iV->iW->Prop}{s:iW}{sa t:iY}{led:Bool}
theorem Qu:ElemsOf knd []:=λe he=>by cases he
theorem Lh:Keys knd [] []:=λk=>⟨λ⟨e,he,_⟩=>(by cases he),λh=>(by cases h)⟩
theorem Jq{h:jD}:Dv knd (h.push (Br w)) h.objs.size [] (En w) :=
 ⟨_,#[],0,_,R_ _ rfl,⟨rfl,rfl,rfl⟩,rfl,rfl,Qu,rfl,TblOk.fresh _⟩
end
theorem Oq:Manifest.owners.lookup (String.ofList ['r','o','t','a','r','e','t','i','_','t','e','s'].reverse)=some Manifest.sig_set_iterator:=by kernel_rfl
theorem D8:Slot "set_iterator" "__next__" "set_iterator.__next__" := .of (owner := "set_iterator") (n := "__next__") (by rw [gP,eB];kernel_rfl) (by decide +kernel) (by decide +kernel) (by decide +kernel) (.inl (by decide +kernel)) (by rw [dF];kernel_rfl)
theorem Os:entryFor table "set_iterator.__next__" = some Builtin.«set_iterator.__next__»:=entryFor_of_tree (by kernel_rfl)
theorem So(a:iV):argsOk "set_iterator.__next__" ⟨[a],[]⟩:=by
 rw [argsOk,signature?_of (id := "set_iterator.__next__") (n:=['_','_','t','x','e','n','_','_']) (o:=['r','o','t','a','r','e','t','i','_','t','e','s']) (by kernel_rfl) Oq];kernel_rfl
theorem Sq:Slot "set_iterator" "__iter__" "set_iterator.__iter__" := .of (owner := "set_iterator") (n := "__iter__") (by rw [gP,eB];kernel_rfl) (by decide +kernel) (by decide +kernel) (by decide +kernel) (.inl (by decide +kernel)) (by rw [dF];kernel_rfl)
theorem Xq(a:iV):argsOk "set_iterator.__iter__" ⟨[a],[]⟩:=by
 rw [argsOk,signature?_of (id := "set_iterator.__iter__") (n:=['_','_','r','e','t','i','_','_']) (o:=['r','o','t','a','r','e','t','i','_','t','e','s']) (by kernel_rfl) Oq];kernel_rfl
theorem Uz:entryFor table "set_iterator.__iter__" = some Builtin.«dict_keyiterator.__iter__»:=entryFor_alias (id' := "dict_keyiterator.__iter__") (by kernel_rfl) (by first | rfl | decide +kernel) (by decide +kernel) (by kernel_rfl)
theorem Qv:entryFor table "set.__iter__" = some Builtin.«frozenset.__iter__»:=entryFor_alias (id' := "frozenset.__iter__") (by kernel_rfl) (by first | rfl | decide +kernel) (by decide +kernel) (by kernel_rfl)
section
variable {prog:i_}{w:jA}{A:jC}{E:iV->iW->Prop}{s:iW}
theorem Qw{M:Model}{src:Source}{n:Nat}{Q:Nat->iW->Prop}(hn:n≠0)(h:∀i a,i < n->Q i { s with drawn:=a }):wpAny M A (choose src n) Q E s:=fun Γ p _=>by
 unfold choose
 rw [Sem.wp_choose]
 refine⟨hn,?_⟩
 rw [Sem.wp_pure]
 exact h _ _ (Nat.mod_lt _ (bB hn))
theorem Hg{α:Type}:∀{xs:List α} {i:Nat} {x:α},xs[i]?=some x->(x :: xs.eraseIdx i).Perm xs
 | _ :: _,0,_,h=>by simp at h;subst h;exact g_ _
 | y :: a,i+1,x,h=>by
  have:=Hg (xs:=a) (i:=i) (x:=x) (by simpa using h)
  exact(List.Perm.swap y x _).trans (this.cons y)
theorem Jr{M:Model}{α:Type}:∀(n:Nat) (xs:List α) (s:iW) (Q:List α->iW->Prop),xs.length=n->(∀a d,a.Perm xs->Q a { s with drawn:=d })->wpAny M A (drawOrder n xs) Q E s
 | 0,xs,s,Q,hn,h=>by
  have:xs=[]:=bS hn
  subst this
  exact C_ (h [] s.drawn (g_ _))
 | n+1,[],s,Q,hn,h=>by cases hn
 | n+1,x :: xs,s,Q,hn,h=>by
  unfold drawOrder
  refine A_ (Qw (by simp) λi f b=>?_)
  have e:(x :: xs)[i]?=some (x :: xs)[i]:=M_ b
  rw [e]
  refine A_ (Jr n _ _ _ ?_ λa c hp=>C_ (h _ c ((hp.cons _).trans (Hg e))))
  rw [List.length_eraseIdx_of_lt b];simp at hn ⊢;exact hn
theorem Sr{α:Type}(next:Nat->Nat):∀(n k:Nat) (left:List α) (a:Array α),left.length=n->(pickOrder.go next n k left a).toList.Perm (a.toList++left)
 | 0,k,left,a,hn=>by
  have:left=[]:=bS hn
  subst this
  unfold pickOrder.go
  simp
 | n+1,k,left,a,hn=>by
  unfold pickOrder.go
  have b:next k % left.length < left.length:=Nat.mod_lt _ (by omega)
  have e:left[next k % left.length]?=some left[next k % left.length]:=M_ b
  rw [e]
  dsimp only
  refine(Sr next n (k+1) _ _ (by rw [List.length_eraseIdx_of_lt b];omega)).trans ?_
  rw [fU,aQ]
  exact(Hg e).append_left _
theorem U0{α:Type}(next:Nat->Nat)(xs:Array α):(pickOrder next xs).toList.Perm xs.toList:=by
 unfold pickOrder
 simpa using Sr next xs.size 0 xs.toList #[] (by simp)
def Dw(h:jD)(a:iY)(es:Array (Int×iV))(ep:Nat)(t:SetTable):Prop:=∃o,h.get? a=some o/\o.cls=.type "set" /\ o.data=.set es ep t/\t.fits es.size=true
theorem Dw.typeIs{a:iY}{es:Array (Int×iV)}{ep:Nat}{t:SetTable}(x:Dw s.heap a es ep t):s.TypeIs (.ref a) "set" := let⟨o,b,hc,_⟩:=x;⟨o,b,hc⟩
theorem Dw.at{h h':jD}{a:iY}{es:Array (Int×iV)}{ep:Nat}{t:SetTable}(x:Dw h a es ep t)(e:∀o,h.get? a=some o->h'.get? a=some o):Dw h' a es ep t:=let⟨o,b,r⟩:=x;⟨o,e _ b,r⟩
def Fc(h:jD)(b a:iY)(first:iV)(i n ep:Nat):Prop:=∃o,h.get? b=some o/\o.cls=.type "set_iterator" /\ o.data=.fields #[first,rawInt i,.ref a,rawInt n,rawInt ep]
theorem Fc.typeIs{b a:iY}{first:iV}{i n ep:Nat}(x:Fc s.heap b a first i n ep):s.TypeIs (.ref b) "set_iterator" := let⟨o,c,hc,_⟩:=x;⟨o,c,hc⟩
theorem Fc.at{h h':jD}{b a:iY}{first:iV}{i n ep:Nat}(x:Fc h b a first i n ep)(e:∀o,h.get? b=some o->h'.get? b=some o):Fc h' b a first i n ep:=let⟨o,c,r⟩:=x;⟨o,e _ c,r⟩
def Js(pl:Array Nat):Nat->Nat
 | 0=>0
 | i+1=>pl.getD i 0+1
inductive Mode (w:jA) (a:iY) (es:Array (Int×iV)) (ep:Nat) (t:SetTable) (h:jD):Nat->iV->List iV->Prop
 | text {i:Nat} (hb:w.params.followText "set-order" = true):Mode w a es ep t h i (rawInt 0) ((pickOrder (w.params.setOrder a ep) es).toList.map (·.2))
 | table {i:Nat} (hb:w.params.followText "set-order" = false) (hd:(!t.plain && decide (es.size > 1))=false):Mode w a es ep t h i (rawInt (Js t.place i)) (es.toList.map (·.2))
 | drawn {i:Nat} {pt:iY} {ps:List Nat} (hb:w.params.followText "set-order" = false) (hp:ps.Perm (List.range es.size)) (ht:h.IsTuple pt (ps.map λ(j:Nat)=>rawInt j).toArray):Mode w a es ep t h i (.ref pt) (ps.map λj=>(es.getD j (0,.none)).2)
theorem U1{α:Type}(xs:Array α)(d:α):(List.range xs.size).map (λj=>xs.getD j d)=xs.toList:=by
 refine List.ext_getElem (by simp) λi h1 h2=>?_
 simp at h1 h2 ⊢
 simp [h1]
theorem Mode.perm{a:iY}{es:Array (Int×iV)}{ep:Nat}{t:SetTable}{h:jD}{i:Nat}{first:iV}{ord:List iV}(m:Mode w a es ep t h i first ord):ord.Perm (es.toList.map (·.2)):=by
 cases m with
 | text hb=>exact(U0 _ _).map _
 | table hb c=>exact g_ _
 | @drawn d e hb hp b =>
  have:=hp.map λj=>(es.getD j (0,Value.none)).2
  refine this.trans (List.Perm.of_eq ?_)
  rw [<- U1 es (0,Value.none),XV];rfl
theorem Fn{Q:Bool->iW->Prop}(h:Q (w.params.followText "set-order") s):wpAny (model prog w) A setsByText Q E s:=by
 unfold setsByText
 exact A_ (iM (C_ h))
theorem Qx{a:iY}{es:Array (Int×iV)}{ep:Nat}{t:SetTable}{Q:iV->iW->Prop}(k:Dw s.heap a es ep t)(hz:es.size<=1000000)
  (h:∀j g p first ord,s.heap.objs.size<=j->(∀b o,s.heap.get? b=some o->g.get? b=some o)->Fc g j a first 0 es.size ep->Mode w a es ep t g 0 first ord->(∀c,first=.ref c->s.heap.objs.size<=c/\c≠j)->Q (.ref j) { s with heap:=g,drawn:=p }) :
  wpAny (model prog w) A (pyIter (.ref a)) Q E s:=by
 obtain⟨o,d,hc,f,hf⟩:=id k
 refine eE k.typeIs F.slot_set_iter (YS F.slot_set_iter k.typeIs Qv ?_ (F.args_set_iter_1 _))
 unfold Builtin.«frozenset.__iter__» Builtin.Frozenset.sizeOf setEntries setDrawn setEpoch
 refine(show wpAny _ _ (_ >>= _) _ _ _ from A_ (show wpAny _ _ (pure a) _ _ _ from C_ (A_ (A_ (A_ (YJ d f hf (C_ (C_ ?_))))))))
 refine A_ (A_ (YJ d f hf (A_ (Fn (C_ ?_)))))
 cases hb:w.params.followText "set-order" with
 | true =>
  refine(show wpAny _ _ (if(!true && _)=true then _ else _) _ _ _ from ?_)
  rw [Bool.not_true,Bool.false_and,J_ L_]
  refine A_ (C_ (A_ (A_ (YJ d f hf (C_ (A_ (YF (C_ ⟨_,rfl,"set_iterator",_,⟨_,R_ _ rfl,rfl⟩,D8.lookup,?_⟩))))))))
  exact h _ _ s.drawn _ _ (E_ _) (λb o e=>DD _ e) ⟨_,R_ _ rfl,rfl,rfl⟩ (.text hb) λc e=>by cases e
 | false =>
  cases j9:(!t.plain && decide (es.size > 1)) with
  | false =>
   refine(show wpAny _ _ (if(!false && (!t.plain && decide (es.size > 1)))=true then _ else _) _ _ _ from ?_)
   rw [j9,Bool.not_false,Bool.true_and,J_ L_]
   refine A_ (C_ (A_ (A_ (YJ d f hf (C_ (A_ (YF (C_ ⟨_,rfl,"set_iterator",_,⟨_,R_ _ rfl,rfl⟩,D8.lookup,?_⟩))))))))
   exact h _ _ s.drawn _ _ (E_ _) (λb o e=>DD _ e) ⟨_,R_ _ rfl,rfl,rfl⟩ (.table hb j9) λc e=>by cases e
  | true =>
   refine(show wpAny _ _ (if(!false && (!t.plain && decide (es.size > 1)))=true then _ else _) _ _ _ from ?_)
   rw [j9,Bool.not_false,Bool.true_and,Q_ rfl]
   refine A_ (Jr _ _ _ _ (by simp) λl n hp=>?_)
   refine A_ (m:=newTuple _) (show wpAny _ _ _ _ _ _ from ?_)
   simp only [newTuple]
   have r:l.length<=1000000:=by rw [hp.length_eq];simpa using hz
   refine YF ?_ (by size_fits)
   have q:=DD { cls:=Value.type "tuple",data:=Data.seq (List.map (λ(i:Nat)=>rawInt ↑i) l).toArray } d
   refine A_ (A_ (YJ q f hf (C_ (A_ (YF (C_ ⟨_,rfl,"set_iterator",_,⟨_,R_ _ rfl,rfl⟩,D8.lookup,?_⟩))))))
   refine h _ _ n _ _ (by rw [a_];exact cU _) (λb o e=>DD _ (DD _ e)) ⟨_,R_ _ rfl,rfl,rfl⟩ (.drawn hb hp ⟨_,DD _ (R_ _ rfl),rfl,0,rfl⟩) λc e=>?_
   cases e
   exact⟨E_ _,W_ (by rw [a_];exact aJ _)⟩
theorem Qz{t:SetTable}(a:Du t.place){i:Nat}(b:i<=t.place.size):SetTable.below t.place (Js t.place i)=i:=by
 cases i with
 | zero=>exact Qr a
 | succ i =>
  have:=Qq a (k:=i) (Nat.lt_of_succ_le b)
  show SetTable.below t.place (t.place.getD i 0+1)=i+1
  rw [show t.place.getD i 0=t.place[i] by simp [show i < t.place.size from Nat.lt_of_succ_le b]]
  exact this
theorem Li{a:iY}{es:Array (Int×iV)}{ep slot i:Nat}{t:SetTable}{Q:Option (iV×Nat)->iW->Prop}(d:Dw s.heap a es ep t)(hb:w.params.followText "set-order" = true) (h:Q (((pickOrder (w.params.setOrder a ep) es)[i]?).map λe=>(e.2,slot)) s) :
  wpAny (model prog w) A (setNext a slot i ep) Q E s:=by
 obtain⟨f,b,_,c,hf⟩:=d
 unfold setNext
 refine A_ (YJ b c hf (A_ (Fn (show wpAny _ _ (if _=true then _ else _) _ _ _ from ?_))))
 rw [Q_ hb]
 refine(show wpAny _ _ (if(ep != ep)=true then _ else _) _ _ _ from ?_)
 rw [J_ (by simp)]
 unfold setWalk
 refine A_ (A_ (YJ b c hf (A_ (Fn (show wpAny _ _ (if _=true then _ else _) _ _ _ from ?_)))))
 rw [Q_ hb]
 exact A_ (iM (C_ (C_ h)))
theorem Jt{a:iY}{es:Array (Int×iV)}{ep i g:Nat}{t:SetTable}{Q:Option (iV×Nat)->iW->Prop}(k:Dw s.heap a es ep t)(c:TblOk t (En w))(hb:w.params.followText "set-order" = false) (f:(!t.plain && decide (es.size > 1))=false) (m:i<=es.size)
  (h:Q (match es[i]?,t.place[i]? with | some (_,x),some j=>some (x,j+1) | _,_=>none) s):wpAny (model prog w) A (setNext a (Js t.place i) g ep) Q E s:=by
 obtain⟨l,b,_,d,hf⟩:=k
 have e:t.place.size=es.size:=by simp [SetTable.fits]at hf;exact hf.1
 unfold setNext
 refine A_ (YJ b d hf (A_ (Fn (show wpAny _ _ (if _=true then _ else _) _ _ _ from ?_))))
 rw [J_ (by rw [hb];exact L_)]
 refine(show wpAny _ _ (if(!t.plain && decide (es.size > 1))=true then _ else _) _ _ _ from ?_)
 rw [f,J_ L_]
 refine A_ (show wpAny _ _ (if(!t.led && !es.isEmpty)=true then _ else _) _ _ _ from ?_)
 rw [J_ (by rw [c.led,En,hb];simp)]
 refine C_ (show wpAny _ _ (pure _) _ _ _ from C_ ?_)
 rw [Qz c.rise (by omega)]
 exact h
theorem C8{a:iY}{o:jE}{vs:Array iV}{i:Nat}{x:iV}{Q:Unit->iW->Prop}(e:s.heap.get? a=some o)(c:o.data=.fields vs)(f:i < vs.size)
  (h:∀b d,b.get? a=some d->d.cls=o.cls->d.data=.fields (vs.setIfInBounds i x)->Heap.SameBut a s.heap b->Q () { s with heap:=b }):wpAny (model prog w) A (setField (.ref a) i x) Q E s :=
 hJ e c f (h _ _ (ZU _ e (Obj.isFreed_of_fields (fG c _))) (Obj.cls_mapFields ..) (fG c _) (YT ..))
theorem Xr{d a:iY}{es:Array (Int×iV)}{ep:Nat}{t:SetTable}{first x:iV}{i:Nat}{ord:List iV}{Q:Option iV->iW->Prop}(v:Dw s.heap a es ep t)(Y:TblOk t (En w))(D:Fc s.heap d a first i es.size ep)(X:Mode w a es ep t s.heap i first ord)(al:a≠d)(W:∀g,first=.ref g->g≠d)(hx:ord[i]?=some x)
  (F:∀b B,Fc b d a B (i+1) es.size ep->Mode w a es ep t b (i+1) B ord->(∀g,B=.ref g->first=.ref g)->Heap.SameBut d s.heap b->Q (some x) { s with heap:=b }) :
  wpAny (model prog w) A (pyNext (.ref d)) Q E s:=by
 obtain⟨o,p,hc,L⟩:=id D
 obtain⟨oa,k,_,N,hf⟩:=id v
 have m:t.place.size=es.size:=by simp [SetTable.fits]at hf;exact hf.1
 unfold pyNext
 refine A_ (dZ (ZZ (name:=Str.ofString "__next__") D.typeIs D8 (YS D8 D.typeIs Os ?_ (So _))))
 unfold Builtin.«set_iterator.__next__»
 refine(show wpAny _ _ (_ >>= _) _ _ _ from A_ (show wpAny _ _ (pure (Value.ref d,[])) _ _ _ from C_ (show wpAny _ _ (fieldsOf (.ref d) >>= _) _ _ _ from A_ (bL p L (show wpAny _ _ (setEntries a >>= _) _ _ _ from A_ ?_)))))
 refine(show wpAny _ _ (setState a >>= _) _ _ _ from A_ (YJ k N hf (C_ (show wpAny _ _ (if((es.size:Int) != (es.size:Int))=true then _ else _) _ _ _ from ?_))))
 rw [J_ (by simp)]
 have l:∀(J:PySem.Fin->iW->Prop) (T:iV->iW->Prop) (nx:Nat),(∀b,Fc b d a (rawInt nx) (i+1) es.size ep->Heap.SameBut d s.heap b->J (.done (.ret x)) { s with heap:=b }) ->
   wpAny (model prog w) A.in1 (setField (.ref d) 0 (rawInt (nx:Nat)) >>= λ_=>setField (.ref d) 1 (rawInt ((i:Int)+1)) >>= λ_=>ret x) J T s:=λJ T nx q=>by
  refine A_ (C8 p L (by simp) λh1 S h M G b1=>A_ (C8 (s:={ s with heap:=h1 }) h G (by simp) λh2 V e2 c2 U b2=>C_ (q h2 ⟨V,e2,c2.trans (M.trans hc),?_⟩ (b1.trans b2))))
  rw [U];simp [rawInt]
 cases X with
 | text hb =>
  refine(show wpAny _ _ (setNext a 0 i ep >>= _) _ _ _ from A_ (Li v hb ?_))
  obtain⟨e,he,rfl⟩:∃e,(pickOrder (w.params.setOrder a ep) es)[i]?=some e/\e.2=x:=by
   rw [H_,K_]at hx
   obtain⟨e,he,r⟩:=hx
   exact⟨e,by rw [<- V_];exact he,r⟩
  rw [he]
  exact l _ _ 0 λb n C=>⟨_,rfl,C_ (F b _ n (.text hb) (λ_ z=>z) C)⟩
 | table hb P =>
  have hlt:i < es.size:=by
   rw [H_]at hx
   rcases Y_ i es.size with c | c
   ·exact c
   ·simp [List.getElem?_eq_none,c]at hx
  refine(show wpAny _ _ (setNext a (Js t.place i) i ep >>= _) _ _ _ from A_ (Jt v Y hb P (YM hlt) ?_))
  have he:es[i]?=some es[i]:=XW hlt
  have hp:t.place[i]?=some (t.place.getD i 0):=by simp [m,hlt]
  have u:es[i].2=x:=by
   rw [H_,V_,he]at hx
   exact YO hx
  rw [he,hp]
  dsimp only
  rw [u]
  exact l _ _ (t.place.getD i 0+1) λb n C=>⟨_,rfl,C_ (F b _ n (.table (i:=i+1) hb P) (λ_ z=>by cases z) C)⟩
 | @drawn g f hb hp R =>
  have hlt:i < f.length:=by
   rcases Y_ i f.length with c | c
   ·exact c
   ·rw [ZD (by simpa using c)]at hx;cases hx
  have h:f[i]?=some f[i]:=M_ hlt
  have O:f[i] < es.size:=by simpa using hp.mem_iff.mp (bC hlt)
  obtain⟨y,hy,u⟩:∃y,es[f[i]]?=some y/\y.2=x:=by
   rw [H_,h]at hx
   have:=YO hx
   exact⟨es[f[i]],XW O,by simpa [O] using this⟩
  obtain⟨ot,H,_,Z,I⟩:=id R
  refine(show wpAny _ _ (seqItems? (.ref g) >>= _) _ _ _ from A_ (eI H I (show wpAny _ _ _ _ _ _ from ?_)))
  dsimp only
  have e2:((f.map λ(j:Nat)=>rawInt (j:Int)).toArray)[i]?=some (rawInt (f[i]:Int)):=by
   simp [h]
  rw [bI,e2]
  refine(show wpAny _ _ (setNextDrawn a f[i] ep >>= _) _ _ _ from A_ ?_)
  unfold setNextDrawn
  refine A_ (YJ k N hf (show wpAny _ _ (if(ep != ep)=true then _ else _) _ _ _ from ?_))
  rw [J_ (by simp),hy]
  refine C_ ?_
  rw [u]
  refine A_ (C8 p L (by simp) λh1 S h M G b1=>C_ ⟨_,rfl,C_ (F h1 (.ref g) ⟨S,h,M.trans hc,?_⟩ (.drawn hb hp (R.at λo e=>(b1.2 g (W g rfl)).trans e)) (λ_ z=>z) b1)⟩)
  rw [G];simp [rawInt]
theorem CF{c a:iY}{es:Array (Int×iV)}{ep:Nat}{t:SetTable}{first:iV}{ord:List iV}{Q:Option iV->iW->Prop}(M:A.handled=none)(k:Dw s.heap a es ep t)(L:TblOk t (En w))(v:Fc s.heap c a first es.size es.size ep)(y:Mode w a es ep t s.heap es.size first ord)
  (P:∀h',Heap.ExtBut c s.heap h'->Q none { s with heap:=h' }):wpAny (model prog w) A (pyNext (.ref c)) Q E s:=by
 obtain⟨o,f,hc,g⟩:=id v
 obtain⟨R,p,_,D,hf⟩:=id k
 have G:t.place.size=es.size:=by simp [SetTable.fits]at hf;exact hf.1
 have n:ord.length=es.size:=by rw [y.perm.length_eq];simp
 unfold pyNext
 refine A_ (dZ (ZZ (name:=Str.ofString "__next__") v.typeIs D8 (YS D8 v.typeIs Os ?_ (So _))))
 unfold Builtin.«set_iterator.__next__»
 refine(show wpAny _ _ (_ >>= _) _ _ _ from A_ (show wpAny _ _ (pure (Value.ref c,[])) _ _ _ from C_ (show wpAny _ _ (fieldsOf (.ref c) >>= _) _ _ _ from A_ (bL f g (show wpAny _ _ (setEntries a >>= _) _ _ _ from A_ ?_)))))
 refine(show wpAny _ _ (setState a >>= _) _ _ _ from A_ (YJ p D hf (C_ (show wpAny _ _ (if((es.size:Int) != (es.size:Int))=true then _ else _) _ _ _ from ?_))))
 rw [J_ (by simp)]
 have d:∀(h1:jD) (B:PySem.Fin->iW->Prop) (u:iV->iW->Prop) ,(∀e h',Heap.ExtBut c h1 h'->Shared.TypeIs { s with heap:=h' } e "StopIteration" -> u e { s with heap:=h' }) ->
   wpAny (model prog w) A.in1 (newExc (.type "StopIteration") [] >>= λe=>raiseNew e) B u { s with heap:=h1 }:=λh1 B u q=>by
  refine A_ ?_
  simp only [newExc,newTuple]
  refine A_ (YF (A_ (m:=firstArgMember _ _) (iS (a:=Value.none) (by first | rfl | (simp only [firstArgMember];rfl)) (YF ?_ (by size_fits)))) (by size_fits))
  simp only [raiseNew]
  refine A_ (wpAny_handled ?_)
  rw [show A.in1.handled=none from M]
  have N:Heap.ExtBut c h1 h1:=λb o hb e=>e
  refine A_ (C_ (wpAny_throw ?_))
  exact q _ _ ((N.push _).push _) ⟨_,R_ _ rfl,rfl⟩
 have r:∀(h1:jD) (e:iV) (h':jD),Heap.ExtBut c s.heap h1->Heap.ExtBut c h1 h'->Shared.TypeIs { s with heap:=h' } e "StopIteration" -> wpAny (model prog w) A (isInstance e (.type "StopIteration") >>= λb=>if b=true then pure none else throw e) Q E { s with heap:=h' }:=λh1 e h' F J T=>by
  refine A_ (bQ (b:=true) T isSubtype_stop ?_)
  exact C_ (P h' λb o hb e=>J b o hb (F b o hb e))
 cases y with
 | text hb =>
  refine(show wpAny _ _ (setNext a 0 es.size ep >>= _) _ _ _ from A_ (Li k hb ?_))
  rw [B_,XU]at n
  rw [aT (dS n)]
  exact A_ (C8 f g (by simp) λh1 C j z h b1=>d h1 _ _ λe h' x T=>r h1 e h' b1.extBut x T)
 | table hb H =>
  refine(show wpAny _ _ (setNext a (Js t.place es.size) es.size ep >>= _) _ _ _ from A_ (Jt k L hb H (E_ _) ?_))
  rw [aT (E_ _)]
  exact A_ (C8 f g (by simp) λh1 C j z h b1=>d h1 _ _ λe h' x T=>r h1 e h' b1.extBut x T)
 | @drawn O X hb hp I =>
  obtain⟨V,i,_,U,l⟩:=id I
  refine(show wpAny _ _ (seqItems? (.ref O) >>= _) _ _ _ from A_ (eI i l (show wpAny _ _ _ _ _ _ from ?_)))
  dsimp only
  rw [bI,aT (by simpa using dS (by simpa using n))]
  exact A_ (C8 f g (by simp) λh1 C j z h b1=>A_ (C8 (s:={ s with heap:=h1 }) j h (by simp) λh2 W e2 c2 S b2=>d h2 _ _ λe h' x T=>r h2 e h' (b1.trans b2).extBut x T))
end
end L2
namespace L2
open PySem PySem.Spec PyProof.Rows PySem.W
section
variable {prog:i_}{w:jA}{A:jC}{E:iV->iW->Prop}{s:iW}
theorem Mode.at{a:iY}{es:Array (Int×iV)}{ep:Nat}{t:SetTable}{h h':jD}{i:Nat}{first:iV}{ord:List iV}(m:Mode w a es ep t h i first ord)(hk:∀b,first=.ref b->∀o,h.get? b=some o->h'.get? b=some o):Mode w a es ep t h' i first ord:=by
 cases m with
 | text hb=>exact .text hb
 | table hb d=>exact .table hb d
 | @drawn b f hb hp c=>exact .drawn hb hp (c.at λo e=>hk b rfl o e)
theorem U3(D:A.handled=none){f a:iY}{es:Array (Int×iV)}{ep:Nat}{t:SetTable}{ord:List iV}(p:List iY)(r:TblOk t (En w))(u:a≠f)(B:f∉p)(G:ord.length=es.size) :
  Walks prog w A f (f :: a :: p) [f] es.size (λi v=>ord[i]?=some v) (λi h=>Dw h a es ep t/\∃first,Fc h f a first i es.size ep/\Mode w a es ep t h i first ord/\∀c,first=.ref c->c∈p) where
 sub:=λb hb=>by simp at hb;simp [hb]
 frame:=λi h l st hk=>by
  obtain⟨g,first,d,j,hp⟩:=st
  exact⟨g.at λo e=>hk a (by simp) o e,first,d.at λo e=>hk f (by simp) o e,j.at λc z o e=>hk c (by simp [hp c z]) o e,hp⟩
 item:=λi s Q E H st k=>by
  obtain⟨g,first,d,j,hp⟩:=st
  refine Xr g r d j u (λc z q=>B (q ▸ hp c z)) (x:=ord[i]'(by omega)) (M_ _) λl F m n y hb=>?_
  exact k _ l s.toks (M_ _) ⟨g.at λo e=>(hb.2 a u).trans e,F,m,n,λc z=>hp c (y c z)⟩ λb o C e=>hb.extBut b o (λz=>C (by simp [z])) e
 done:=λs Q E st k=>by
  obtain⟨g,first,d,j,hp⟩:=st
  exact CF D g r d j λl he=>k l s.toks λb o hb e=>he b o (λz=>hb (by simp [z])) e
 self:=λi s Q E st k=>by
  obtain⟨g,first,d,j,hp⟩:=st
  refine eE d.typeIs Sq (YS Sq d.typeIs Uz (show wpAny _ _ (ret (.ref f)) _ _ s from ?_) (Xq _))
  exact C_ ⟨_,rfl,"set_iterator",_,d.typeIs,D8.lookup,k⟩
theorem Xs{a:iY}{Q:Bool->iW->Prop}(c:s.TypeIs (.ref a) "set") (h:Q false s):wpAny (model prog w) A (Builtin.List.listLengthHint (.ref a)) Q E s:=by
 unfold Builtin.List.listLengthHint
 refine A_ (bY c PySem.F.slot_set_len.lookup ?_)
 generalize e:("set.__len__" : String)=id0
 wp_delta
 rw [show splitId id0=some ("set","__len__") from by subst e;decide +kernel]
 subst e
 refine A_ (bQ (T := "set") (b:=true) c sub_set_self (gS (λd=>absurd d (by decide)) λ_=>gS (λ_=>?_) (λd=>absurd (by decide +kernel) d)))
 exact A_ (eM c (C_ h))
theorem U4{ord:List iV}{acc:Array iV}{n:Nat}(h:ItemsOf (λi v=>ord[i]?=some v) acc n)(a:ord.length=n):acc.toList=ord:=by
 refine bV λi=>?_
 rw [V_]
 rcases Y_ i acc.size with c | c
 ·have:=h.2 i acc[i] (XW c)
  rw [this,XW c]
 ·rw [aT c,ZD (by rw [a,<- h.1];exact c)]
theorem Ia{a:iY}{es:Array (Int×iV)}{ep:Nat}{t:SetTable}{Q:List iV->iW->Prop}(hh:A.handled=none)(G:Dw s.heap a es ep t)(V:TblOk t (En w))(hz:es.size<=1000000)
  (h:∀x U tk ord,(∀b o,s.heap.get? b=some o->x.get? b=some o)->s.heap.objs.size<=x.objs.size->ord.Perm (es.toList.map (·.2))->Q ord { s with heap:=x,drawn:=U,toks:=tk }) :
  wpAny (model prog w) A (collect (.ref a)) Q E s:=by
 have I:a < s.heap.objs.size:=by obtain⟨o,e,_⟩:=G;exact N_ e
 unfold collect
 refine A_ (fW (cB F.entry_proto_collect ?_))
 rw [bF F.plain_proto_collect _]
 refine(show wpAny _ A.in1 (newList [] >>= λl=>again (.builtin "list.__iadd__" ⟨[l,.ref a],[]⟩)) _ _ s from A_ (YF (C_ ⟨cZ F.plain_list_iadd _,cB F.entry_list_iadd ?_⟩)))
 rw [bF F.plain_list_iadd _]
 generalize g:s.heap.objs.size=S
 generalize k:s.heap.push { cls:=.type "list",data:=.seq ([]:List iV).toArray }=h1
 have D:∀b o,s.heap.get? b=some o->h1.get? b=some o:=λb o e=>by subst k;exact DD _ e
 have N:h1.get? S=some { cls:=.type "list",data:=.seq ([]:List iV).toArray }:=by subst k;subst g;exact R_ _ rfl
 have d:S≠a:=bH (W_ (g ▸ I))
 have X:Builtin.List.listSameRef (.ref S) (.ref a)=false:=by simp [Builtin.List.listSameRef,d]
 have r:Dw h1 a es ep t:=G.at λo e=>D a o e
 refine(show wpAny _ A.in1 (Builtin.List.listExtendWith (.ref S) (.ref a) (.ref S)) _ _ { s with heap:=h1 } from ?_)
 unfold Builtin.List.listExtendWith
 refine A_ (eM (Dw.typeIs (s:={ s with heap:=h1 }) r) (gS (λy=>absurd y (by rw [X];decide)) λ_=>?_))
 refine A_ (Qx (s:={ s with heap:=h1 }) r hz λf h2 n first ord T p hI v Z=>?_)
 refine A_ (ZF (Xs (s:={ s with heap:=h2,drawn:=n }) (Dw.typeIs (s:={ s with heap:=h2,drawn:=n }) (r.at λo e=>p a o e)) ?_))
 refine gS (λ_=>?_) λy=>absurd (by decide) y
 have e2:h2.get? S=some { cls:=.type "list",data:=.seq ([]:List iV).toArray }:=p S _ N
 refine A_ (aW (A_ (show wpAny _ _ (updateSeq S (·.push .none) >>= λ_=>updateSeq S (·.pop)) _ _ _ from A_ (gQ e2 rfl (gQ (ZU (Obj.mapSeq (·.push Value.none)) e2 rfl) rfl ?_)))))
 have J:=ZU (Obj.mapSeq (·.pop)) (ZU (Obj.mapSeq (·.push Value.none)) e2 rfl) rfl
 have j:∀b o,b≠S->h2.get? b=some o->((h2.update S (Obj.mapSeq (·.push Value.none))).update S (Obj.mapSeq (·.pop))).get? b=some o:=λb o hb e=>(dP _ _ (bH hb)).trans ((dP _ _ (bH hb)).trans e)
 generalize ((h2.update S (Obj.mapSeq (·.push Value.none))).update S (Obj.mapSeq (·.pop)))=h4 at J j ⊢
 have B:S < h1.objs.size:=N_ N
 have P:h1.objs.size<=f:=T
 have O:S≠f:=by intro z;subst z;omega
 have na:a≠f:=W_ (YZ (g ▸ I) (U_ B P))
 obtain⟨m,R,u⟩:∃m:List iY,(∀c,first=.ref c->c∈m)/\∀c∈m,h1.objs.size<=c/\c≠f:=by
  by_cases hf:∃c,first=.ref c
  ·obtain⟨c,hf⟩:=hf
   exact⟨[c],λq hq=>by rw [hf]at hq;cases hq;simp,λq hq=>by rw [P_]at hq;subst hq;exact Z q hf⟩
  ·exact⟨[],λq hq=>absurd ⟨q,hq⟩ hf,λ_ hq=>nomatch hq⟩
 have H:ord.length=es.size:=by rw [v.perm.length_eq];simp
 have W:=U3 (prog:=prog) (A:=A.in1) hh (es:=es) (ep:=ep) (ord:=ord) m V na (λz=>(u f z).2 rfl) H
 have lm:S∉f :: a :: m:=by
  simp only [List.mem_cons,not_or]
  exact⟨O,d,λz=>by have:=(u S z).1;omega⟩
 refine C_ ⟨cZ F.plain_extend_loop _,codeAny_extend_loopS W.toS (G_ hz (by decide)) S lm (.ref S) es.size 0 { s with heap:=h4,drawn:=n } #[] _ rfl (XQ _) ?_ J (ItemsOf.nil _) λC au c' M L Y=>?_⟩
 ·refine⟨r.at λo e=>j a o (bH d) (p a o e),first,hI.at λo e=>j f o (bH O) e,v.at λc z o e=>j c o (λq=>?_) e,R⟩
  have:=(u c (R c z)).1
  subst q;omega
 ·rw [Moved.eq_with M]
  refine A_ (wpAny_load L (C_ ?_))
  rw [U4 Y H]
  refine h C.heap n C.toks ord (λb o e=>M.heap b o ?_ (j b o ?_ (p b o (D b o e)))) (YM ?_) v.perm
  ·have i:=N_ e
   simp only [List.mem_cons,List.not_mem_nil,or_false,not_or]
   rw [g]at i
   exact⟨W_ i,W_ (YZ i (U_ B P))⟩
  ·have i:=N_ e
   rw [g]at i
   exact W_ i
  ·rw [g];exact N_ L
theorem Ib{v:iV}{Q:iV->iW->Prop}(x:wpAny (model prog w) A.in1 (collect v) (λd a=>∃f:Nat->Nat->Bool,d.length < 1000000/\StrictOrd d.length f /\
   (2<=d.length->∀h':jD,(∀b o,a.heap.get? b=some o->h'.get? b=some o)->∃ κ,(∀Q:jM->iW->Prop,Q κ { a with heap:=h' }->wpAny (model prog w) A.in1.in1 (keyKind' d.toArray) Q E { a with heap:=h' }) /\
    ∀i j C,i < d.length->j < d.length->C (f i j) { a with heap:=h' }->kas_ask prog w A.in1.in1 κ d i j C { a with heap:=h' }) /\
   ∀(p:Array Nat) (h':jD) (l c:Nat),Pm d.length p->Up f p d.length->a.heap.objs.size<=l->(∀b o,a.heap.get? b=some o->h'.get? b=some o)->h'.get? l=some (seqObj "list" (p.toList.map λi=>d.getD i Value.none).toArray c)->Q (.ref l) { a with heap:=h' }) E s) :
  wpAny (model prog w) A (call (.builtin "sorted") [v]) Q E s:=by
 refine Calls.call_function_entry kind_sorted plain_sorted entry_sorted (args_sorted1 _) ?_
 unfold Builtin.«sorted»
 refine A_ (m:=checkCount "sorted" 1 1 _) (C_ (A_ (ZW x (λd a hx=>?_) λ_ _ e=>e)))
 obtain⟨f,r,O,hk,h⟩:=hx
 have u:d.length<=sizeLine:=G_ (YM r) (by decide)
 have g:(a.heap.push (seqObj "list" d.toArray 0)).get? a.heap.objs.size=some (seqObj "list" d.toArray 0):=R_ _ rfl
 refine A_ (wpAny_newList (A_ (ZF (YS slot_list_sort ⟨_,g,rfl⟩ entry_list_sort ?_ (args_list_sort _)))) u)
 have n:∀(h':jD),(∀b o,b≠a.heap.objs.size->(a.heap.push (seqObj "list" d.toArray 0)).get? b=some o->h'.get? b=some o)->∀b o,a.heap.get? b=some o->h'.get? b=some o:=λh' k b o q=>k b o (W_ (N_ q)) (DD _ q)
 exact Fa (s:={ a with heap:=a.heap.push (seqObj "list" d.toArray 0) }) g r O (λh2 h' k=>hk h2 h' (n h' k)) λp h' c y t k e=>⟨_,rfl,C_ ⟨_,rfl,h p h' _ c y t (E_ _) (n h' k) e⟩⟩
def B5:iV->Int
 | .int n _=>n
 | _=>0
def RZ(v:iV):Prop:=∃n t,v=.int n t
theorem Ot:∀{vs:List iV},(∀v∈vs,RZ v)->IntsAre vs (vs.map B5)
 | [],_=>.nil
 | v :: vs,h=>by
  obtain⟨n,t,rfl⟩:=h _ XT
  exact .cons n t (Ot λu hu=>h u (XN _ hu))
theorem CG{k:Key}{n:Int}{t:Tok}(h:(Aw prog w).is k (.int n t)=true):k=.inl n:=by
 rcases keyIs_shape (show Ht _ _=true from h) with⟨i,a,rfl,e⟩ | ⟨x,a,rfl,e⟩
 ·cases e;rfl
 ·cases e
theorem Fd{l:List (Int×iV)}{ns:List Int}(c:ElemsOf (Aw prog w) l)(b:Keys (Aw prog w) l (ns.map Sum.inl)){e:Int×iV}(he:e∈l):∃n t,e.2=.int n t/\n∈ns:=by
 obtain⟨⟨k,hk,_⟩,_⟩:=c e he
 have:=(b k).mp ⟨e,he,hk⟩
 obtain⟨n,hn,rfl⟩:=D_.mp this
 rcases keyIs_shape (show Ht (Sum.inl n) e.2=true from hk) with⟨i,t,a,e2⟩ | ⟨x,t,a,e2⟩
 ·cases a;exact⟨n,t,e2,hn⟩
 ·cases a
theorem Q0{a:iY}{l:List (Int×iV)}{ns:List Int}{Q:iV->iW->Prop}(Z:A.handled=none)(X:Dv (Aw prog w) s.heap a l (En w))(hU:Unlike (Aw prog w) l)(r:Keys (Aw prog w) l (ns.map Sum.inl))(hl:l.length < 64)
  (h:∀(h':jD) (d':Drawn) (tk p c:Nat) (vs:List iV),(∀b o,s.heap.get? b=some o->h'.get? b=some o)->s.heap.objs.size<=p->h'.get? p=some (seqObj "list" vs.toArray c)->(∀v∈vs,RZ v)->(vs.map B5).Pairwise (· < ·)->(∀n,n∈vs.map B5↔n∈ns)->vs.length < 64->Q (.ref p) { s with heap:=h',drawn:=d',toks:=tk }) :
  wpAny (model prog w) A (call (.builtin "sorted") [.ref a]) Q E s:=by
 obtain⟨o,G,ep,t,O,dj,hd,rfl,u,hf,W⟩:=X
 have hz:G.size < 64:=by simpa using hl
 refine Ib (Ia (show A.in1.handled=none from Z) ⟨o,O,dj.1,hd,hf⟩ W (by omega) λh1 U J ord M z1 hp=>?_)
 have m:∀v∈ord,RZ v:=λv hv=>by
  obtain⟨e,he,rfl⟩:=D_.mp (hp.mem_iff.mp hv)
  obtain⟨n,t,f,_⟩:=Fd u r he
  exact⟨n,t,f⟩
 have V:∀n,n∈ord.map B5↔n∈ns:=λn=>by
  rw [D_]
  constructor
  ·rintro⟨v,hv,rfl⟩
   obtain⟨e,he,rfl⟩:=D_.mp (hp.mem_iff.mp hv)
   obtain⟨n,t,f,e2⟩:=Fd u r he
   rw [f];exact e2
  ·intro hn
   obtain⟨e,he,hk⟩:=(r (.inl n)).mpr (D_.mpr ⟨n,hn,rfl⟩)
   obtain⟨F,t,f,_⟩:=Fd u r he
   rw [f]at hk
   have:=CG hk
   cases this
   exact⟨e.2,hp.mem_iff.mpr (D_.mpr ⟨e,he,rfl⟩),by rw [f];rfl⟩
 have hnd:(ord.map B5).Nodup:=by
  have f:(ord.map B5).Perm ((G.toList.map (·.2)).map B5):=hp.map _
  refine f.nodup_iff.mpr ?_
  unfold List.Nodup
  rw [ZJ,ZJ]
  refine eX (λ{e e'} he di hu q=>?_) hU
  obtain⟨n,t,f,_⟩:=Fd u r he
  obtain⟨F,t',e2,_⟩:=Fd u r di
  rw [f,e2]at q
  have q':n=F:=q
  subst q'
  have:=hu (.inl n) (by rw [f];exact Cy _ _ _ _)
  rw [e2,Cy]at this
  cases this
 have Y:ord.length < 64:=by rw [hp.length_eq];simpa using hz
 refine⟨λi j=>decide ((ord.map B5).getD i 0 < (ord.map B5).getD j 0),by omega,⟨λi j k _ _ _ h1 h2=>?_,λi j x hj' y h1=>?_,λi _=>YH (Int.lt_irrefl _)⟩,λh2 h' I=>⟨oneType',λQ q=>?_,λi j C x hj' q=>?_⟩,λp h' T c B S R I e=>?_⟩
 ·simp only [decide_eq_true_eq]at h1 h2 ⊢;omega
 ·simp only [decide_eq_false_iff_not,decide_eq_true_eq]at h1 ⊢
  suffices ne:(ord.map B5).getD j 0≠(ord.map B5).getD i 0 by omega
  refine λq=>y ?_
  refine((iB (by simpa using hj') hnd).mp ?_).symm
  rw [C7 (d:=(0:Int)) (by simpa using hj'),C7 (d:=(0:Int)) (by simpa using x),q]
 ·match ord,m,h2 with
  | v1 :: v2 :: vs,m,_ =>
   rw [keyKind_ints (Ot m)]
   exact C_ q
 ·unfold kas_ask
  obtain⟨n1,J,f⟩:=m _ (Bz (d:=Value.none) x)
  obtain⟨n2,t2,e2⟩:=m _ (Bz (d:=Value.none) hj')
  have g:∀i,i < ord.length->(ord.map B5).getD i 0=B5 (ord.getD i .none):=λi m=>by
   simp [List.getD_eq_getElem?_getD,m]
  dsimp only at q
  rw [g i x,g j hj',f,e2]at q
  rw [f,e2,keyLt'_oneType]
  exact oneLt_int q
 ·have L:∀i∈p.toList,i < ord.length:=λi m=>XZ.mp (B.perm.mem_iff.mp m)
  have g:∀i,i < ord.length->(ord.map B5).getD i 0=B5 (ord.getD i .none):=λi m=>by
   simp [List.getD_eq_getElem?_getD,m]
  have z:(p.toList.map λi=>ord.getD i Value.none).Perm ord:=by
   have e2:=B.perm.map λi=>ord.getD i Value.none
   rw [Dt]at e2
   exact e2
  refine h h' U J T c _ (λb o q=>I b o (M b o q)) (G_ z1 R) e (λv hv=>m v (z.mem_iff.mp hv)) ?_ (λn=>?_) (by rw [z.length_eq];exact Y)
  ·rw [XV,ZJ]
   refine bO.mpr λi j H D y=>?_
   have hj':j < ord.length:=by rw [<- B.size];simpa using D
   have:=S i j y hj'
   have P:p.getD i 0=p.toList[i]:=by simp [Array.getD,show i < p.size by simpa using H]
   have N:p.getD j 0=p.toList[j]:=by simp [Array.getD,show j < p.size by simpa using D]
   rw [P,N]at this
   dsimp only at this
   rw [g _ (L _ (bC H)),g _ (L _ (bC D))]at this
   simpa using this
  ·rw [<- V n]
   exact(z.map B5).mem_iff
end
end L2
namespace L2
open PySem PySem.Spec PyProof.Rows
section
variable {X:Cx}{aa:List (iY×jE)}{σ:St}{H:Hp}{s:iW}
theorem Inv.drw(I:Inv X aa σ H s)(d:Drawn):Inv X aa σ H { s with drawn:=d }:=⟨I.ok,I.os,I.bare,I.base,I.loc,I.cell,I.free,I.freeC,I.pin,I.hok,I.len⟩
theorem Hh{P:i_}{w:jA}:∀{ns:List Int} {c:List iV},Vals (ns.map V.int) c->ItemsAre (Aw P w) (ns.map Sum.inl) c/\∀v∈c,v.scannable=true
 | [],_,h=>by cases h;exact⟨.nil,λ_ h=>nomatch h⟩
 | n :: ns,_,h=>by
  cases h with
  | cons h1 h2 =>
   obtain⟨t,rfl⟩:=h1
   obtain⟨a,b⟩:=Hh (P:=P) (w:=w) h2
   refine⟨.cons (Cy _ _ _ _) a,λv hv=>?_⟩
   rcases XJ.mp hv with rfl | hv
   ·rfl
   ·exact b v hv
theorem Ou:∀{vs:List iV},(∀v∈vs,RZ v)->Vals ((vs.map B5).map V.int) vs
 | [],_=>.nil
 | v :: vs,h=>by
  obtain⟨n,t,rfl⟩:=h _ XT
  exact .cons ⟨t,rfl⟩ (Ou λu hu=>h u (XN _ hu))
theorem Ss{K:iZ}{H:Hp}:∀(ns:List Int),Au K H (ns.map λn=>AV.D (.int n)) (ns.map V.int)
 | []=>.nil
 | _ :: ns=>.cons C5 (Ss ns)
end
noncomputable instance decPD:DecidableEq iX:=λa b=>Classical.propDecidable (a=b)
mutual
def Hi:iX->Nat
 | .tuple a=>Cu a+1
 | _=>1
def Cu:List iX->Nat
 | []=>0
 | d :: a=>Hi d+Cu a
end
theorem Ju(w:jA):∀(a b:List iX),C3 w (a++b)=C3 w a++C3 w b
 | [],b=>rfl
 | x :: a,b=>by simp only [List.cons_append,C3,Ju w a b]
theorem Ic:∀(a b:List iX),Cu (a++b)=Cu a+Cu b
 | [],b=>by simp [Cu]
 | x :: a,b=>by simp only [List.cons_append,Cu,Ic a b];exact(cF _ _ _).symm
section
variable {prog:i_}{w:jA}
theorem CH:∀(n:Nat) (d:iX) (u:iV) (k:List iY) (A:jC) (E:iV->iW->Prop) (s:iW) (Q:Int->iW->Prop),d.depth<=n->Cano d=true->Reads s.heap u d k->A.units+n < cLine->Q (A1 w d) { s with toks:=s.toks+Hi d } ->
  wpAny (model prog w) A (pyHash u) Q E s:=by
 intro n
 induction n with
 | zero =>
  intro d u k A E s Q M hc e hu h
  cases e with
  | int i t=>exact(Aw prog w).pyHash (Cy _ _ _ _) h
  | str x t=>exact(Aw prog w).pyHash (E6 _ _ _ _) h
  | tuple a1 a2 r v=>simp [PyData.depth]at M
  | none=>simp [Cano]at hc
  | bool b=>simp [Cano]at hc
  | list a1 a2 r v=>simp [Cano]at hc
  | dict a1 a2 r v R=>simp [Cano]at hc
 | succ n T =>
  intro d u k A E s Q M hc e hu h
  cases e with
  | int i t=>exact(Aw prog w).pyHash (Cy _ _ _ _) h
  | str x t=>exact(Aw prog w).pyHash (E6 _ _ _ _) h
  | none=>simp [Cano]at hc
  | bool b=>simp [Cano]at hc
  | list a1 a2 r v=>simp [Cano]at hc
  | dict a1 a2 r v R=>simp [Cano]at hc
  | @tuple a o items m q k N f D U =>
   have p:s.TypeIs (.ref a) "tuple" := ⟨o,N,f⟩
   have S:PyData.depthAll q<=n:=by simp only [PyData.depth]at M;omega
   have P:Ao q=true:=hc
   unfold pyHash
   first | unfold pyHashByItsType | skip
   first | refine A_ (wpAny_cRoomFor_or (.inr (by omega)) ?_) | skip
   refine A_ (bY p F.slot_tuple_hash.lookup (show wpAny _ _ (if(some (Value.builtin "tuple.__hash__")==some Value.none)=true then _ else _) Q E s from ?_))
   rw [J_ (by rw [beq_builtin_none];exact L_)]
   refine A_ (bY p F.slot_tuple_hash.lookup (show wpAny _ _ (callSpecialIfBoundUnlessNone? (.ref a) "__hash__" _ >>= _) Q E s from ?_))
   refine A_ (wpAny_callSpecialIfBoundUnlessNone?_slot p F.slot_tuple_hash (YS F.slot_tuple_hash p F.entry_tuple_hash (show wpAny _ _ (Builtin.Tuple.tupleItemsOf (.ref a) >>= _) _ _ s from ?_) (F.args_tuple_hash_1 _)))
   refine A_ (gZ N D (A_ ?_))
   rw [<- fH]
   refine dL _ (λrest (b:Array Int) B=>∃c g J,q=c++g/\ReadsAll s.heap rest g J/\Ao g=true/\PyData.depthAll g<=n/\b.toList=C3 w c/\B={ s with toks:=s.toks+Cu c }) _ ?_ ?_ _ _ ⟨[],q,k,rfl,U,P,S,rfl,rfl⟩
   ·rintro x rest b B ⟨c,g,J,rfl,L,f,O,hb,rfl⟩
    cases L with
    | @cons _ _ d j I G h1 H =>
     simp only [Ao,Bool.and_eq_true]at f
     simp only [PyData.depthAll]at O
     refine A_ (T d x I A.in1 _ { s with toks:=s.toks+Cu c } _ (by omega) f.1 h1 (by show A.units+1+n < _;omega) ?_)
     have l:∃C y z,c++d :: j=C++y/\ReadsAll s.heap rest y z/\Ao y=true/\PyData.depthAll y<=n/\(b.push (A1 w d)).toList=C3 w C/\({ s with toks:=s.toks+Cu c+Hi d }:iW)={ s with toks:=s.toks+Cu C } :=
      ⟨c++[d],j,G,by simp,H,f.2,by omega,by simp [hb,Ju,C3],by simp [Ic,Cu,Nat.add_assoc]⟩
     first
      | exact C_ l
      | exact A_ (C_ (C_ l))
   ·rintro b B ⟨c,g,J,rfl,L,f,O,hb,rfl⟩
    cases L
    rw [aG]at h
    simp only [A1,Hi]at h
    refine(show wpAny _ _ (retInt (Builtin.Tuple.tupleHashOf b.toList)) _ _ _ from ?_)
    rw [hb]
    refine wpAny_ret_mkInt (show wpAny _ _ (if(decide (-(2:Int) ^ 63<=Builtin.Tuple.tupleHashOf (C3 w c)) && decide (Builtin.Tuple.tupleHashOf (C3 w c) < 2 ^ 63))=true then _ else _) Q E _ from ?_)
    unfold reduceHash at h
    by_cases e:(decide (-(2:Int) ^ 63<=Builtin.Tuple.tupleHashOf (C3 w c)) && decide (Builtin.Tuple.tupleHashOf (C3 w c) < 2 ^ 63))=true
    ·rw [Q_ e]at h ⊢
     exact C_ (by simpa [Nat.add_assoc] using h)
    ·rw [J_ e]at h ⊢
     exact A_ (aW (C_ (by simpa [Nat.add_assoc] using h)))
theorem Jv:∀(n q:Nat) (d:iX) (u:iV) (e:List iY) (A:jC) (E:iV->iW->Prop) (s:iW) (Q:Bool->iW->Prop),d.depth<=n->n < q->Cano d=true->Reads s.heap u d e->Q true s->wpAny (model prog w) A (eqIsQuiet q u) Q E s:=by
 intro n
 induction n with
 | zero =>
  intro q d u e A E s Q H hq hc c h
  cases c with
  | int i t=>rw [fX _ rfl];exact C_ h
  | str x t=>rw [fX _ rfl];exact C_ h
  | tuple a1 a2 j l=>simp [PyData.depth]at H
  | none=>simp [Cano]at hc
  | bool b=>simp [Cano]at hc
  | list a1 a2 j l=>simp [Cano]at hc
  | dict a1 a2 j l N=>simp [Cano]at hc
 | succ n P =>
  intro q d u e A E s Q H hq hc c h
  cases c with
  | int i t=>rw [fX _ rfl];exact C_ h
  | str x t=>rw [fX _ rfl];exact C_ h
  | none=>simp [Cano]at hc
  | bool b=>simp [Cano]at hc
  | list a1 a2 j l=>simp [Cano]at hc
  | dict a1 a2 j l N=>simp [Cano]at hc
  | @tuple a o items m B e I f y T =>
   have J:s.TypeIs (.ref a) "tuple" := ⟨o,I,f⟩
   have O:PyData.depthAll B<=n:=by simp only [PyData.depth]at H;omega
   have M:Ao B=true:=hc
   obtain⟨G,rfl⟩:∃G,q=G+1:=⟨q - 1,by omega⟩
   unfold eqIsQuiet
   refine A_ (bY J F.slot_tuple_eq.lookup (show wpAny _ _ (isInstance (.ref a) (.type "tuple") >>= _) _ _ s from A_ (bQ J isSubtype_tuple_tuple ?_)))
   simp only [Bool.not_true,Bool.false_eq_true,if_false]
   refine A_ (eI I y (A_ (show wpAny _ _ (forIn items _ _) _ _ s from ?_)))
   rw [<- fH]
   refine dL _ (λrest r g=>r.1=none/\g=s/\∃k L,ReadsAll s.heap rest k L/\Ao k=true/\PyData.depthAll k<=n) _ ?_ ?_ _ _ ⟨rfl,rfl,B,e,T,M,O⟩
   ·rintro v rest r g ⟨c,rfl,k,L,S,f,R⟩
    cases S with
    | @cons _ _ d p D z h1 C =>
     simp only [Ao,Bool.and_eq_true]at f
     simp only [PyData.depthAll]at R
     refine A_ (P G d v D A _ g _ (by omega) (by omega) f.1 h1 ?_)
     simp only [Bool.not_true,Bool.false_eq_true,if_false]
     exact C_ ⟨rfl,rfl,p,z,C,f.2,by omega⟩
   ·rintro⟨U,V⟩ g ⟨c,rfl,_⟩
    simp only at c
    subst c
    exact C_ h
mutual
theorem Lj{h:jD}:∀{v:iV} {d e:iX} {k l:List iY},Reads h v d k->Reads h v e l->Cano d=true->Cano e=true->d=e
 | _,_,_,_,_,.int i t,r,_,_=>by cases r;rfl
 | _,_,_,_,_,.str x t,r,_,_=>by cases r;rfl
 | _,_,_,_,_,.tuple a1 a2 g j,r,hc,a=>by
  cases r with
  | tuple b1 b2 c f =>
   rw [a1]at b1;cases b1
   rw [g]at c;cases c
   rw [Gy j f hc a]
  | list b1 b2 c f=>simp [Cano]at a
  | dict b1 b2 c f m=>simp [Cano]at a
 | _,_,_,_,_,.none,_,hc,_=>by simp [Cano]at hc
 | _,_,_,_,_,.bool b,_,hc,_=>by simp [Cano]at hc
 | _,_,_,_,_,.list a1 a2 g j,_,hc,_=>by simp [Cano]at hc
 | _,_,_,_,_,.dict a1 a2 g j n,_,hc,_=>by simp [Cano]at hc
theorem Gy{h:jD}:∀{vs:List iV} {ds es:List iX} {f c:List iY},ReadsAll h vs ds f->ReadsAll h vs es c->Ao ds=true->Ao es=true->ds=es
 | _,_,_,_,_,.nil,r,_,_=>by cases r;rfl
 | _,_,_,_,_,.cons e d,r,hc,a=>by
  cases r with
  | cons g b =>
   simp only [Ao,Bool.and_eq_true]at hc a
   rw [Lj e g hc.1 a.1,Gy d b hc.2 a.2]
end
mutual
theorem Hj{h h':jD}{p:iY}(hk:∀b o,b≠p->h.get? b=some o->h'.get? b=some o)(hp:∀o f n,h.get? p=some o->o.data≠.seq f n):∀{v:iV} {d:iX} {e:List iY},Reads h v d e->Cano d=true->Reads h' v d e
 | _,_,_,.int i t,_=>.int i t
 | _,_,_,.str x t,_=>.str x t
 | _,_,_,.tuple a1 a2 a c,hc=>.tuple (hk _ _ (λz=>by subst z;exact hp _ _ _ a1 a) a1) a2 a (Gz hk hp c hc)
 | _,_,_,.none,hc=>by simp [Cano]at hc
 | _,_,_,.bool b,hc=>by simp [Cano]at hc
 | _,_,_,.list a1 a2 a c,hc=>by simp [Cano]at hc
 | _,_,_,.dict a1 a2 a c g,hc=>by simp [Cano]at hc
theorem Gz{h h':jD}{p:iY}(hk:∀b o,b≠p->h.get? b=some o->h'.get? b=some o)(hp:∀o vs n,h.get? p=some o->o.data≠.seq vs n):∀{vs:List iV} {ds:List iX} {a:List iY},ReadsAll h vs ds a->Ao ds=true->ReadsAll h' vs ds a
 | _,_,_,.nil,_=>.nil
 | _,_,_,.cons d c,hc=>by
  simp only [Ao,Bool.and_eq_true]at hc
  exact .cons (Hj hk hp d hc.1) (Gz hk hp c hc.2)
end
theorem Su{x y:iX}(hx:Cano x=true)(hy:Cano y=true):PyData.eqv x y=decide (x=y):=by
 by_cases h:x=y
 ·subst h;rw [Gv x hx,YL rfl]
 ·rw [YH h];exact(Qi hx hy).mpr h
variable(prog w) in
noncomputable def Jw:HeapKind prog w iX where
 is:=λh d a=>KeyTree d/\∃c,Reads h (.ref a) d c
 hash:=A1 w
 draws:=Hi
 room:=λA=>A.units+6 < cLine
 inj:=λ⟨f,_,i⟩ ⟨g,_,j⟩=>Lj i j f.can g.can
 keeps:=λ⟨k,c,r⟩ ho hd hs=>⟨k,c,Hj (λb o hb e=>(hs.2 b hb).trans e) (λl p n e q=>by rw [ho]at e;cases e;rw [hd]at q;cases q) r k.can⟩
 pyHash:=λhu ⟨k,c,r⟩ h=>CH 6 _ _ c _ _ _ _ k.dep k.can r hu h
 eqBool:=λhu ⟨f,c,i⟩ ⟨g,m,j⟩ h=>gH _ _ _ _ _ _ _ _ i j f.lay g.lay (by have:=f.dep;omega) _ _ _ _ (by rw [Su f.can g.can];exact h)
 quiet:=λ⟨k,c,r⟩ h=>Jv 6 8 _ _ c _ _ _ _ k.dep (by decide) k.can r h
end
section
variable {X:Cx}{aa:List (iY×jE)}{σ:St}{H:Hp}{s:iW}{a:iY}{e:jB}{te:AE}{τ:ASt}{μ:M}{o i value:jB}{pos dw:Pos}{td ty tv:AE}
theorem VE.run{d:AV->M->Prop}(he:VE X e te)(I:Inv X aa σ H s)(hs:Dy X.K H τ σ)(hc:Cn X.K μ H)(h:te τ μ d) :
  wpAny (model X.prog X.w) X.A (eval e X.env) (λu j=>∃x v μ1 b,Inv X aa σ b j/\Bb v u/\Kp H b/\Cn X.K μ1 b/\RelA X.K b x v/\d x μ1) X.xe s :=
 ZW (he aa s σ H (λv b=>∃x μ1,Kp H b/\Cn X.K μ1 b/\RelA X.K b x v/\d x μ1) I ⟨τ,μ,d,hs,hc,h,λx μ1 v b S c r q=>⟨x,μ1,S,c,r,q⟩⟩)
  (λ_ _ z=>by obtain⟨v,b,f,g,x,μ1,S,c,r,q⟩:=z;exact⟨x,v,μ1,b,f,g,S,c,r,q⟩) λ_ _ e=>e
def VL(h k:AE):AE:=fun τ μ R=>h τ μ λx μ1=>k τ μ1 λy μ2=>match x,y with
 | .R a,.R b=>opt (μ2 a) λm=>opt (μ2 b) λn=>match m,n with
  | .lst g,.lst j=>opt (dats g) λc=>opt (dats j) λf=>(c.length=f.length/\c.length<=1000)/\R (.D (.tuple (List.zipWith (λd e=>PyData.tuple [d,e]) c f))) μ2
  | _,_=>False
 | _,_=>False
def WS:AC:=λc μ R=>match c with
 | [.D (.bool b)]=>R (.D (.int (if b then 1 else 0))) μ
 | [.D (.int i)]=>R (.D (.int i)) μ
 | _=>False
def txts:List AV->Option (List Str)
 | []=>some []
 | .D (.str z) :: b=>(txts b).map (z :: ·)
 | _ :: _=>none
theorem Ov{K:iZ}{H:Hp}:∀{xs:List AV} {vs:List V} {b:List Str},Au K H xs vs->txts xs=some b->vs=b.map V.str
 | [],_,b,r,e=>by cases r;cases e;rfl
 | x :: xs,_,b,r,e=>by
  cases r with
  | cons c f =>
   unfold txts at e
   split at e
   ·rename_i h;cases h
   ·rename_i z j h
    cases h
    obtain⟨g,d,rfl⟩:=K_.mp e
    cases RelA.str c
    rw [Ov f d];rfl
   ·cases e
def FJ:AV->AC:=λx d μ R=>match x,d with
 | .D (.str z),[.R p]=>opt (μ p) λm=>match m with
  | .lst c=>opt (txts c) λb=>(b.map (·.length)).sum+b.length * z.length<=16777216/\R (.D (.str (Txt.join z b))) μ
  | _=>False
 | _,_=>False
theorem JB:VMt X "str.join" FJ:=by
 intro aa s σ H x xs v us Q I rx r zz203
 refine Ee zz203 λa n μ R ra rs hc h hq=>?_
 unfold FJ at h
 split at h
 ·obtain⟨m,g,h⟩:=A0 h
  split at h
  ·obtain⟨d,c,h⟩:=A0 h
   obtain⟨o,b,l,rfl,j⟩:=hc _ _ g
   cases RelA.str ra
   cases rs with
   | cons f k =>
    cases k
    cases f
    rw [Ov j c]at b
    exact Ui aa s σ H _ _ v us Q I rx r ⟨_,_,d,rfl,rfl,b,h.1,hq _ _ _ _ Kp.refl hc Hc h.2⟩
  ·exact h.elim
 ·exact h.elim
end
def lets(z:Str):Prop:=∀c∈z.cps.toList,97<=c/\c<=122
theorem Mr(a b:Str):(a++b).cps.toList=a.cps.toList++b.cps.toList:=by
 show(a.cps++b.cps).toList=_
 simp
theorem Fo(z:Str):z.length=z.cps.toList.length:=by simp [Str.length]
theorem G0{a b:Str}(ha:lets a)(hb:lets b):lets (a++b):=λc hc=>by
 rw [Mr]at hc
 rcases O_.mp hc with h | h
 ·exact ha c h
 ·exact hb c h
theorem Ow{x:Str}{j:Int}(a:0<=j)(h1:j<=(x.length:Int)):(Txt.slice x none (some j)).cps.toList=x.cps.toList.take j.toNat:=by
 have:=StrLaws.sliceText_to (x:=x) (j:=j) ⟨a,by rw [<- Fo];exact h1⟩
 show(StrLaws.sliceText x none (some j)).cps.toList=_
 rw [this]
 simp
theorem JC:("" : Str).cps.toList=[]:=by decide +kernel
theorem U5:∀{a:List Str},(∀z∈a,lets z)->lets (Txt.join "" a):=λ{a} h=>by
 show lets (PySem.Builtin.Str.glued "" a)
 rw [StrLaws.glued_eq_join]
 induction a with
 | nil=>exact λc hc=>by simp [Str.join,Str.empty]at hc
 | cons x a b =>
  cases a with
  | nil=>exact h x XT
  | cons y a =>
   show lets (x ++ "" ++ Str.join "" (y :: a))
   exact G0 (G0 (h x XT) (λc hc=>by rw [JC]at hc;simp at hc)) (b λz hz=>h z (XN _ hz))
end L2
namespace L2
open PySem PySem.SetTable
theorem Df{α:Type} [DecidableEq α]:∀{xs ys:List α},xs.Nodup->(∀x∈xs,x∈ys)->xs.length<=ys.length
 | [],_,_,_=>XQ _
 | x :: xs,ys,hn,h=>by
  have a:=ZV.mp hn
  have hx:=h x (.head _)
  have:=Df (ys:=ys.erase x) a.2 λz hz=>(List.mem_erase_of_ne (by rintro rfl;exact a.1 hz)).mpr (h z (.tail _ hz))
  rw [List.length_erase_of_mem hx]at this
  have:0 < ys.length:=List.length_pos_of_mem hx
  rw [YA];omega
def advM(mask:Nat)(p:Probe):Probe :=
 if p.more > 0 then { p with j:=p.j+1,more:=p.more - 1 } else
 { p with j:=(leap mask p.i p.perturb).1,more:=runEnd mask (leap mask p.i p.perturb).1 - (leap mask p.i p.perturb).1,i:=(leap mask p.i p.perturb).1,perturb:=(leap mask p.i p.perturb).2 }
theorem CI(t:SetTable)(p:Probe):t.advance p=advM t.mask p:=rfl
def U6(mask i perturb l:Nat):Probe:={ j:=i+l,more:=runEnd mask i - i - l,i:=i,perturb:=perturb,dummy:=none }
def Lk(mask:Nat)(h:Int):Nat->Probe
 | 0=>U6 mask (bits h % (mask+1)) (bits h) 0
 | n+1=>advM mask (Lk mask h n)
def sq(mask:Nat)(h:Int)(n:Nat):Nat:=(Lk mask h n).j
def rn(mask:Nat)(h:Int):Nat->Nat×Nat
 | 0=>(bits h % (mask+1),bits h)
 | r+1=>leap mask (rn mask h r).1 (rn mask h r).2
def nr(mask:Nat)(h:Int):Nat->Nat
 | 0=>0
 | r+1=>nr mask h r+(runEnd mask (rn mask h r).1 - (rn mask h r).1)+1
theorem JD(mask i:Nat):runEnd mask i - i<=9:=by unfold runEnd;split <;> omega
theorem Xt(mask i:Nat):i<=runEnd mask i:=by unfold runEnd;split <;> omega
theorem Ox{mask i:Nat}(h:i<=mask):runEnd mask i<=mask:=by unfold runEnd;split <;> omega
theorem FK(mask:Nat)(h:Int):∀r,nr mask h r<=10 * r
 | 0=>E_ _
 | r+1=>by
  have:=FK mask h r
  have:=JD mask (rn mask h r).1
  rw [nr];omega
theorem Xu(mask:Nat)(h:Int):∀r,(rn mask h r).1<=mask
 | 0=>by have:=Nat.mod_lt (bits h) (show 0 < mask+1 from eQ _);rw [rn];dsimp only;exact ZH this
 | r+1=>by
  rw [rn,leap]
  have:=Nat.mod_lt ((rn mask h r).1 * 5+1+(rn mask h r).2 / 32) (show 0 < mask+1 from eQ _)
  dsimp only;exact ZH this
theorem Q3{mask:Nat}{h:Int}{n i a:Nat}(e:Lk mask h n=U6 mask i a 0):∀l,l<=runEnd mask i - i->Lk mask h (n+l)=U6 mask i a l
 | 0,_=>e
 | l+1,b=>by
  rw [<- cF,Lk,Q3 e l (fP b)]
  unfold advM
  rw [Q_ (show(U6 mask i a l).more > 0 by show _ - l > 0;omega)]
  show Probe.mk _ _ _ _ _=Probe.mk _ _ _ _ _
  congr 1
theorem Sv(mask:Nat)(h:Int):∀r,Lk mask h (nr mask h r)=U6 mask (rn mask h r).1 (rn mask h r).2 0
 | 0=>rfl
 | r+1=>by
  rw [nr,Lk,Q3 (Sv mask h r) _ (E_ _)]
  unfold advM
  rw [J_ (show ¬(U6 mask (rn mask h r).1 (rn mask h r).2 (runEnd mask (rn mask h r).1 - (rn mask h r).1)).more > 0 by show ¬(_ - _ - _ > 0);omega)]
  rfl
theorem Hk{mask:Nat}{h:Int}{r l:Nat}(a:l<=runEnd mask (rn mask h r).1 - (rn mask h r).1):sq mask h (nr mask h r+l)=(rn mask h r).1+l:=by
 unfold sq
 rw [Q3 (Sv mask h r) l a];rfl
theorem Hl(mask:Nat)(h:Int):∀n,(Lk mask h n).dummy=none
 | 0=>rfl
 | n+1=>by
  rw [Lk,advM]
  split
  ·exact Hl mask h n
  ·exact Hl mask h n
theorem FL(mask:Nat)(h:Int):∀r,(rn mask h r).2=bits h / 32 ^ r
 | 0=>by rw [rn,Nat.pow_zero,Nat.div_one]
 | r+1=>by
  rw [rn,leap]
  dsimp only
  rw [FL mask h r,Nat.div_div_eq_div_mul,Nat.pow_succ]
theorem CJ(h:Int):bits h < 2 ^ 64:=by
 unfold bits
 have h1:=h_ h (show(0:Int) < 2 ^ 64 by decide)
 have h2:=Int.emod_nonneg h (show(2 ^ 64:Int)≠0 by decide)
 omega
theorem CK(mask:Nat)(h:Int)(r:Nat):(rn mask h (13+r+1)).1=((rn mask h (13+r)).1 * 5+1) % (mask+1):=by
 rw [rn,leap]
 dsimp only
 have e:(rn mask h (13+r)).2=0:=by
  rw [FL]
  refine Nat.div_eq_of_lt (U_ (CJ h) ?_)
  exact G_ (show 2 ^ 64<=32 ^ 13 by decide) (Nat.pow_le_pow_right (by decide) (YG _ _))
 rw [e]
def cyc(mask:Nat)(i:Nat):Nat->Nat
 | 0=>i
 | b+1=>(cyc mask i b * 5+1) % (mask+1)
theorem Xv(mask:Nat)(h:Int):∀b,(rn mask h (13+b)).1=cyc mask (rn mask h 13).1 b
 | 0=>rfl
 | b+1=>by rw [<- cF,CK,Xv mask h b];rfl
theorem G1(mask i:Nat)(a:Nat):∀b,cyc mask (cyc mask i a) b=cyc mask i (a+b)
 | 0=>rfl
 | b+1=>by rw [cyc,G1 mask i a b];rfl
def Msk(mask:Nat):Prop:=mask=7\/mask=31\/mask=127\/mask=511\/mask=2047\/mask=8191
def orbit(mask:Nat):Nat->Nat->List Nat
 | 0,_=>[]
 | n+1,i=>i :: orbit mask n ((i * 5+1) % (mask+1))
theorem Ll(mask:Nat):∀(n i x:Nat),x∈orbit mask n i->∃b,b < n/\cyc mask i b=x
 | 0,_,_,h=>by cases h
 | n+1,i,x,h=>by
  rcases XJ.mp h with rfl | h
  ·exact⟨0,eQ _,rfl⟩
  ·obtain⟨b,hb,e⟩:=Ll mask n _ x h
   refine⟨b+1,Nat.add_lt_add_right hb 1,?_⟩
   rw [show b+1=1+b from gW _ _,<- G1]
   exact e
def Kl(mask:Nat):Nat->Nat->Nat->Nat
 | 0,_,a=>a
 | n+1,i,a=>Kl mask n ((i * 5+1) % (mask+1)) (a ||| 1 <<< i)
theorem orbB_mem(mask:Nat):∀(n i a x:Nat),(Kl mask n i a).testBit x=true->a.testBit x=true\/x∈orbit mask n i
 | 0,_,_,_,h=>.inl h
 | n+1,i,a,x,h=>by
  rcases orbB_mem mask n _ _ x h with h | h
  ·rw [Nat.testBit_or,e_]at h
   rcases h with h | h
   ·exact .inl h
   ·right
    rw [Nat.one_shiftLeft,Nat.testBit_two_pow]at h
    exact XJ.mpr (.inl (YD h).symm)
  ·exact .inr (XN _ h)
theorem orbs:(Kl 7 8 0 0=2 ^ 8 - 1/\cyc 7 0 8=0)/\(Kl 31 32 0 0=2 ^ 32 - 1/\cyc 31 0 32=0)/\(Kl 127 128 0 0=2 ^ 128 - 1/\cyc 127 0 128=0)/\(Kl 511 512 0 0=2 ^ 512 - 1/\cyc 511 0 512=0)/\(Kl 2047 2048 0 0=2 ^ 2048 - 1/\cyc 2047 0 2048=0)/\(Kl 8191 8192 0 0=2 ^ 8192 - 1/\cyc 8191 0 8192=0):=by decide +kernel
theorem orb{mask:Nat}(b:Msk mask):Kl mask (mask+1) 0 0=2 ^ (mask+1) - 1/\cyc mask 0 (mask+1)=0:=by
 obtain⟨h1,h2,c,a,d,e⟩:=orbs
 rcases b with rfl | rfl | rfl | rfl | rfl | rfl
 ·exact h1
 ·exact h2
 ·exact c
 ·exact a
 ·exact d
 ·exact e
theorem CL{mask:Nat}(g:Msk mask){i x:Nat}(k:i<=mask)(hx:x<=mask):∃b,b<=mask+1/\cyc mask i b=x:=by
 obtain⟨h1,h2⟩:=orb g
 have d:∀y,y<=mask->∃b,b < mask+1/\cyc mask 0 b=y:=λy hy=>Ll mask _ 0 y (by
  have j:(Kl mask (mask+1) 0 0).testBit y=true:=by rw [h1,Nat.testBit_two_pow_sub_one];exact YL (iF hy)
  rcases orbB_mem mask _ _ _ y j with h | h
  ·rw [iN]at h;cases h
  ·exact h)
 obtain⟨a,ha,e⟩:=d i k
 obtain⟨c,hc,f⟩:=d x hx
 rcases Y_ c a with h | h
 ·refine⟨mask+1 - a+c,by omega,?_⟩
  rw [<- e,G1,show a+(mask+1 - a+c)=(mask+1)+c by omega,<- G1,h2,f]
 ·refine⟨c - a,by omega,?_⟩
  rw [<- e,G1,show a+(c - a)=c from YY h,f]
theorem reach{mask:Nat}(a:Msk mask)(h:Int){x:Nat}(hx:x<=mask):∃r,r<=mask+14/\(rn mask h r).1=x:=by
 obtain⟨b,hb,e⟩:=CL a (Xu mask h 13) hx
 exact⟨13+b,by omega,by rw [Xv,e]⟩
theorem FM(mask:Nat)(h:Int):∀n,∃r l,l<=runEnd mask (rn mask h r).1 - (rn mask h r).1/\n=nr mask h r+l
 | 0=>⟨0,0,XQ _,rfl⟩
 | n+1=>by
  obtain⟨r,l,a,rfl⟩:=FM mask h n
  rcases Y_ l (runEnd mask (rn mask h r).1 - (rn mask h r).1) with c | c
  ·exact⟨r,l+1,c,rfl⟩
  ·exact⟨r+1,0,XQ _,by rw [nr];omega⟩
theorem Sw(mask:Nat)(h:Int)(n:Nat):sq mask h n<=mask:=by
 obtain⟨r,l,a,rfl⟩:=FM mask h n
 rw [Hk a]
 have:=Ox (Xu mask h r)
 have:=Xt mask (rn mask h r).1
 omega
theorem Q4{mask:Nat}(g:Msk mask)(h:Int)(a:Nat->Prop) [DecidablePred a]{x:Nat}(hx:x<=mask)(hn:¬a x):∃n,n < 10 * turns mask/\¬a (sq mask h n)/\∀m,m < n->a (sq mask h m):=by
 obtain⟨r,l,e⟩:=reach g h hx
 have d:¬a (sq mask h (nr mask h r)):=by
  rw [show nr mask h r=nr mask h r+0 from rfl,Hk (XQ _),e];exact hn
 have h1:nr mask h r < 10 * turns mask:=by have:=FK mask h r;unfold turns;omega
 generalize nr mask h r=k at d h1
 induction k using Nat.strongRecOn with
 | _ k f =>
  by_cases c:∀m,m < k->a (sq mask h m)
  ·exact⟨k,h1,d,c⟩
  ·have⟨m,b,i⟩:∃m,m < k/\¬a (sq mask h m):=by
    refine YW λz=>c λm j=>YW λy=>z ⟨m,j,y⟩
   exact f m b i (YZ b h1)
theorem Sx{mask:Nat}(h:Int)(owner:Array (Option Nat))(hs:owner.size=mask+1):∀(fuel r:Nat),(∃k,r<=k/\k < r+fuel/\owner.getD (rn mask h k).1 none=none)->(∀m,m < nr mask h r->(owner.getD (sq mask h m) none).isSome=true) ->
  ∃n,layClean.free mask owner fuel (rn mask h r).1 (rn mask h r).2=some (sq mask h n)/\owner.getD (sq mask h n) none=none/\∀m,m < n->(owner.getD (sq mask h m) none).isSome=true
 | 0,r,⟨k,h1,h2,_⟩,_=>by omega
 | fuel+1,r,hk,g=>by
  have a:∀j,j<=mask->owner.getD j (some 0)=owner.getD j none:=λj hj=>by
   simp only [Array.getD,show j < owner.size by omega,dite_true]
  have p:=Xu mask h r
  have i:=Ox p
  have w:=Xt mask (rn mask h r).1
  rw [layClean.free]
  cases c:(List.range (runEnd mask (rn mask h r).1+1 - (rn mask h r).1)).find? λk=>(owner.getD ((rn mask h r).1+k) (some 0)).isNone with
  | some k =>
   obtain⟨t,c2,u⟩:=List.find?_range_eq_some.mp c
   have s:=XZ.mp c2
   refine⟨nr mask h r+k,?_,?_,λm d=>?_⟩
   ·rw [Hk (by omega)]
   ·rw [Hk (by omega),<- a _ (by omega)]
    exact Option.isNone_iff_eq_none.mp t
   ·rcases Y_ m (nr mask h r) with z | z
    ·exact g m z
    ·have e:m=nr mask h r+(m - nr mask h r):=by omega
     rw [e,Hk (by omega),<- a _ (by omega)]
     have:=u (m - nr mask h r) (by omega)
     cases q:owner.getD ((rn mask h r).1+(m - nr mask h r)) (some 0) with
     | none=>rw [q]at this;cases this
     | some _=>rfl
  | none =>
   have o:=List.find?_range_eq_none.mp c
   have b:∀l,l<=runEnd mask (rn mask h r).1 - (rn mask h r).1->(owner.getD ((rn mask h r).1+l) none).isSome=true:=λl v=>by
    have:=o l (by omega)
    rw [a _ (by omega)]at this
    cases q:owner.getD ((rn mask h r).1+l) none with
    | none=>rw [q]at this;cases this
    | some _=>rfl
   refine Sx h owner hs fuel (r+1) ?_ λm d=>?_
   ·obtain⟨k,h1,h2,f⟩:=hk
    rcases YE h1 with rfl | h1
    ·have:=b 0 (XQ _)
     rw [Nat.add_zero,f]at this;cases this
    ·exact⟨k,h1,by omega,f⟩
   ·rcases Y_ m (nr mask h r) with z | z
    ·exact g m z
    ·have e:m=nr mask h r+(m - nr mask h r):=by omega
     rw [nr]at d
     rw [e,Hk (by omega)]
     exact b _ (by omega)
structure Own(mask:Nat)(hs:List Int)(owner:Array (Option Nat))(k:Nat):Prop where
 size:owner.size=mask+1
 lt:∀j x,owner.getD j none=some x->x < k
 has:∀x,x < k->∃j,owner.getD j none=some x
 inj:∀j j' x,owner.getD j none=some x->owner.getD j' none=some x->j=j'
 path:∀j x h,owner.getD j none=some x->hs[x]?=some h->∃n,sq mask h n=j/\∀m,m < n->(owner.getD (sq mask h m) none).isSome=true
theorem Xw(o:Array (Option Nat))(j:Nat)(v:Option Nat)(hj:j < o.size)(i:Nat):(o.setIfInBounds j v).getD i none=if i=j then v else o.getD i none:=by
 rw [YN,YN,Array.getElem?_setIfInBounds]
 by_cases e:i=j
 ·subst e
  rw [Q_ rfl,Q_ hj,Q_ rfl];rfl
 ·rw [J_ (λz=>e z.symm),J_ e]
theorem Sy{o:Array (Option Nat)}{j x:Nat}(h:o.getD j none=some x):j < o.size:=by
 rw [YN]at h
 cases c:o[j]? with
 | none=>rw [c]at h;cases h
 | some y=>exact(eK.mp c).1
theorem Xx{mask k:Nat}{hs:List Int}{owner:Array (Option Nat)}(o:Own mask hs owner k)(hk:k<=mask):∃x,x<=mask/\owner.getD x none=none:=by
 refine YW λz=>?_
 have f:∀j,j<=mask->∃x,owner.getD j none=some x:=λj hj=>by
  cases c:owner.getD j none with
  | none=>exact absurd ⟨j,hj,c⟩ z
  | some x=>exact⟨x,rfl⟩
 have h1:((List.range (mask+1)).map λj=>(owner.getD j none).getD 0).Nodup:=by
  rw [List.Nodup,ZJ]
  refine eX (R:=(· < ·)) (λ{a b} ha hb i5 e=>?_) bK
  obtain⟨x,d⟩:=f a (by have:=XZ.mp ha;exact ZH this)
  obtain⟨y,g⟩:=f b (by have:=XZ.mp hb;exact ZH this)
  rw [d,g]at e
  have h:x=y:=e
  subst h
  have:=o.inj a b x d g
  omega
 have h2:=Df (ys:=List.range k) h1 λy hy=>by
  obtain⟨j,hj,rfl⟩:=D_.mp hy
  obtain⟨x,d⟩:=f j (by have:=XZ.mp hj;exact ZH this)
  rw [d]
  exact XZ.mpr (o.lt j x d)
 rw [B_,ZK,ZK]at h2
 omega
theorem Xy{mask k:Nat}{hs:List Int}{owner:Array (Option Nat)}{h:Int}(B:Msk mask)(o:Own mask hs owner k)(hk:k<=mask)(z:hs[k]?=some h):∃j,layClean.free mask owner (turns mask) (bits h % (mask+1)) (bits h)=some j/\Own mask hs (owner.setIfInBounds j (some k)) (k+1):=by
 obtain⟨x,hx,q⟩:=Xx o hk
 obtain⟨r,F,E⟩:=reach B h hx
 obtain⟨n,v,e2,t⟩:=Sx h owner o.size (turns mask) 0 ⟨r,XQ _,by unfold turns;omega,by rw [E];exact q⟩ (λm d=>absurd d (b_ _))
 have hj:sq mask h n < owner.size:=by have:=Sw mask h n;rw [o.size];exact iF this
 have c:=Xw owner (sq mask h n) (some k) hj
 refine⟨_,v,by rw [eW];exact o.size,λj y e=>?_,λy hy=>?_,λj u y a b=>?_,λj y g a b=>?_⟩
 ·rw [c]at e
  split at e
  ·cases e;exact aJ _
  ·have:=o.lt j y e;exact aP this
 ·rcases(show y < k\/y=k by omega) with h' | rfl
  ·obtain⟨j,f⟩:=o.has y h'
   refine⟨j,?_⟩
   rw [c,J_ (by rintro rfl;rw [e2]at f;cases f)];exact f
  ·exact⟨_,by rw [c,Q_ rfl]⟩
 ·rw [c]at a b
  split at a
  ·rename_i l
   split at b
   ·rename_i C;exact l.trans C.symm
   ·cases a;have:=o.lt _ _ b;omega
  ·split at b
   ·cases b;have:=o.lt _ _ a;omega
   ·exact o.inj j u y a b
 ·have p:∀i,(owner.getD i none).isSome=true->((owner.setIfInBounds (sq mask h n) (some k)).getD i none).isSome=true:=λi D=>by
   rw [c]
   split
   ·rfl
   ·exact D
  rw [c]at a
  split at a
  ·rename_i l
   cases a
   rw [z]at b
   cases b
   exact⟨n,l.symm,λm d=>p _ (t m d)⟩
  ·obtain⟨s,A,w⟩:=o.path j y g a b
   exact⟨s,A,λm d=>p _ (w m d)⟩
def CM(mask:Nat)(acc:Option (Array (Option Nat)×Nat))(h:Int):Option (Array (Option Nat)×Nat):=do
 let(a,k) <- acc
 let j <- layClean.free mask a (turns mask) (bits h % (mask+1)) (bits h)
 pure (a.setIfInBounds j (some k),k+1)
theorem Oy{mask:Nat}(c:Msk mask){hs:List Int}(d:hs.length<=mask+1):∀(rest a:List Int) (owner:Array (Option Nat)),hs=a++rest->Own mask hs owner a.length->∃b,rest.foldl (CM mask) (some (owner,a.length))=some (b,hs.length)/\Own mask hs b hs.length
 | [],a,owner,e,o=>by
  rw [aG]at e
  subst e
  exact⟨owner,rfl,o⟩
 | h :: rest,a,owner,e,o=>by
  have hk:a.length<=mask:=by rw [e,I_,YA]at d;omega
  obtain⟨j,g,f⟩:=Xy c o hk (h:=h) (by rw [e];simp)
  have e2:CM mask (some (owner,a.length)) h=some (owner.setIfInBounds j (some a.length),(a++[h]).length):=by
   unfold CM
   simp only [Option.bind_eq_bind,Option.bind_some,g,List.length_append]
   rfl
  rw [ZE,e2]
  exact Oy c d rest (a++[h]) _ (by rw [e];simp) (by rw [I_];exact f)
theorem JE{mask:Nat}(d:Msk mask)(hs:Array Int)(c:hs.size<=mask+1):∃a,layClean mask hs=some a/\Own mask hs.toList a hs.size:=by
 have f:Own mask hs.toList (Array.replicate (mask+1) none) 0:=by
  have b:∀j,(Array.replicate (mask+1) (none:Option Nat)).getD j none=none:=λj=>by
   rw [YN,Array.getElem?_replicate]
   split <;> rfl
  exact⟨by simp,λj x e=>(by rw [b]at e;cases e),λx hx=>absurd hx (b_ _),λj i x e=>(by rw [b]at e;cases e),λj x h e=>(by rw [b]at e;cases e)⟩
 obtain⟨a,e,o⟩:=Oy d (hs:=hs.toList) (by simpa using c) hs.toList [] _ rfl f
 refine⟨a,?_,by simpa using o⟩
 unfold layClean
 rw [<- Array.foldl_toList]
 have g:List.foldl (CM mask) (some (Array.replicate (mask+1) none,0)) hs.toList=some (a,hs.toList.length):=e
 exact(ZX (Option.map (·.1)) g).trans rfl
structure TabQ(t:SetTable)(hs:List Int):Prop where
 msk:Msk t.mask
 len:t.place.size=hs.length
 le:∀j∈t.place.toList,j<=t.mask
 path:∀z∈t.place.toList.zip hs,∃n,sq t.mask z.2 n=z.1/\∀m,m < n->sq t.mask z.2 m∈t.place.toList
theorem CN{mask f mv:Nat}{led pl:Bool}(r:Msk mask)(hs:Array Int)(D:hs.size<=mask+1):∃t k,laid mask f mv led pl hs=some (t,k)/\t.mask=mask/\k.toList.Perm (List.range hs.size)/\TabQ t (k.toList.map λi=>hs.getD i 0):=by
 obtain⟨c,e,o⟩:=JE r hs D
 have d:∀j x,(j,x)∈((List.range (mask+1)).filterMap λj=>(c.getD j none).map (j,·))↔c.getD j none=some x:=λj x=>by
  rw [fD]
  constructor
  ·rintro⟨a,ha,q⟩
   obtain⟨y,h,B⟩:=K_.mp q
   cases B;exact h
  ·intro q
   refine⟨j,XZ.mpr ?_,by rw [q];rfl⟩
   have:=Sy q;rw [o.size]at this;exact this
 have hnd:((List.range (mask+1)).filterMap λj=>(c.getD j none).map (j,·)).Pairwise λp q=>p.2≠q.2:=by
  refine List.Pairwise.filterMap _ (R:=(· < ·)) (λa s A b hb G w=>?_) bK
  obtain⟨z,hz,rfl⟩:=K_.mp hb
  obtain⟨F,g,rfl⟩:=K_.mp w
  intro q
  have C:z=F:=q
  subst C
  have:=o.inj a s z hz g
  omega
 refine⟨_,_,by unfold laid;rw [e];rfl,rfl,?_,?_⟩
 ·show(List.map (λp:Nat×Nat=>p.2) _).Perm _
  refine(List.perm_ext_iff_of_nodup ?_ eO).mpr λx=>?_
  ·rw [List.Nodup,ZJ];exact hnd
  ·rw [D_,XZ]
   constructor
   ·rintro⟨⟨j,y⟩,hy,rfl⟩
    exact o.lt j y ((d j y).mp hy)
   ·intro hx
    obtain⟨j,u⟩:=o.has x hx
    exact⟨(j,x),(d j x).mpr u,rfl⟩
 ·refine⟨r,?_,λj hj=>?_,λz hz=>?_⟩
  ·show(List.map _ _).toArray.size=(List.map _ (List.map _ _)).length
   simp
  ·have hj':j∈List.map (·.1) ((List.range (mask+1)).filterMap λj=>(c.getD j none).map (j,·)):=hj
   obtain⟨⟨a,b⟩,q,rfl⟩:=D_.mp hj'
   have:=Sy ((d a b).mp q)
   rw [o.size]at this
   show a<=mask
   exact ZH this
  ·have g:z∈List.zip (List.map (·.1) ((List.range (mask+1)).filterMap λj=>(c.getD j none).map (j,·))) (List.map (λi=>hs.getD i 0) (List.map (·.2) ((List.range (mask+1)).filterMap λj=>(c.getD j none).map (j,·)))):=hz
   rw [XV,List.zip_map',D_]at g
   obtain⟨⟨a,b⟩,q,rfl⟩:=g
   have l:=(d a b).mp q
   have hb:=o.lt a b l
   obtain⟨n,v,e2⟩:=o.path a b (hs.getD b 0) l (by rw [V_,YN,XW hb];rfl)
   refine⟨n,v,λm E=>?_⟩
   obtain⟨y,h⟩:=Option.isSome_iff_exists.mp (e2 m E)
   exact D_.mpr ⟨(_,y),(d _ y).mpr h,rfl⟩
theorem Ch{xs:Array Nat}(h:Du xs){j k:Nat}(e:xs[k]?=some j):SetTable.below xs j=k:=by
 obtain⟨hk,f⟩:=eK.mp e
 obtain⟨h1,h2,a⟩:=Em h j
 have b:xs.getD k j=j:=by rw [YN,e];rfl
 rcases iE (SetTable.below xs j) k with c | c | c
 ·have:=h.lt (d:=j) c hk
  have:=a _ (E_ _) (YZ c hk)
  omega
 ·exact c
 ·have:=h2 k c
  omega
theorem Ms{t:SetTable}{led:Bool}(h:TblOk t led){j:Nat}(hj:j∈t.place.toList):∃i,t.slot j=.live i/\t.place[i]?=some j:=by
 obtain⟨i,a⟩:=List.getElem?_of_mem hj
 rw [V_]at a
 refine⟨i,?_,a⟩
 unfold SetTable.slot
 dsimp only
 rw [Ch h.rise a,a]
 simp
theorem Oz{t:SetTable}{led:Bool}(h:TblOk t led){j:Nat}(hj:j∉t.place.toList):t.slot j=.empty:=by
 unfold SetTable.slot
 dsimp only
 rw [h.dum,Jn,J_]
 ·rfl
 ·intro c
  have a:t.place[SetTable.below t.place j]?=some j:=by simpa using c
  rw [<- V_]at a
  exact hj (XO a)
theorem Jx{α β:Type}(a:α)(b:β):∀(p:Nat) (xs:List α) (ys:List β),xs.length=ys.length->(xs.take p++a :: xs.drop p).zip (ys.take p++b :: ys.drop p)=(xs.zip ys).take p++(a,b) :: (xs.zip ys).drop p
 | 0,xs,ys,_=>by simp
 | p+1,[],[],_=>by simp
 | p+1,x :: xs,y :: ys,h=>by
  have:=Jx a b p xs ys (by simpa using h)
  simpa using this
 | _+1,[],_ :: _,h=>by simp at h
 | _+1,_ :: _,[],h=>by simp at h
theorem TabQ.put{t:SetTable}{led:Bool}{hs:List Int}{h:Int}{n:Nat}(q:TabQ t hs)(T:TblOk t led)(l:∀m,m < n->sq t.mask h m∈t.place.toList):TabQ (t.put (sq t.mask h n)).1 (hs.take (SetTable.below t.place (sq t.mask h n))++h :: hs.drop (SetTable.below t.place (sq t.mask h n))):=by
 have hp:SetTable.below t.place (sq t.mask h n)<=t.place.size:=(Em T.rise _).1
 have e:(t.put (sq t.mask h n)).1.place.toList=t.place.toList.take (SetTable.below t.place (sq t.mask h n))++sq t.mask h n :: t.place.toList.drop (SetTable.below t.place (sq t.mask h n)):=Fb _ _ _ hp
 have i:(t.put (sq t.mask h n)).1.mask=t.mask:=rfl
 have o:=q.len
 have g:∀j,j∈t.place.toList->j∈(t.put (sq t.mask h n)).1.place.toList:=λj hj=>by
  rw [e]
  rw [<- bP (SetTable.below t.place (sq t.mask h n)) t.place.toList]at hj
  rcases O_.mp hj with hj | hj
  ·exact ZP _ hj
  ·exact YK _ (XN _ hj)
 have k:∀j,j∈(t.put (sq t.mask h n)).1.place.toList->j=sq t.mask h n\/j∈t.place.toList:=λj hj=>by
  rw [e]at hj
  rcases O_.mp hj with hj | hj
  ·exact .inr (aD hj)
  ·rcases XJ.mp hj with hj | hj
   ·exact .inl hj
   ·exact .inr (eJ hj)
 refine⟨q.msk,?_,λj hj=>?_,λz hz=>?_⟩
 ·rw [<- XU,e]
  simp only [List.length_append,List.length_cons,List.length_take,List.length_drop,Array.length_toList]
  omega
 ·rcases k j hj with rfl | hj
  ·exact Sw _ _ _
  ·exact q.le j hj
 ·rw [e,Jx _ _ _ _ _ (by rw [XU];exact o)]at hz
  rw [i]
  have f:z∈t.place.toList.zip hs->∃c,sq t.mask z.2 c=z.1/\∀m,m < c->sq t.mask z.2 m∈(t.put (sq t.mask h n)).1.place.toList:=λhz=>by
   obtain⟨c,a,b⟩:=q.path z hz
   exact⟨c,a,λm d=>g _ (b m d)⟩
  rcases O_.mp hz with hz | hz
  ·exact f (aD hz)
  ·rcases XJ.mp hz with rfl | hz
   ·exact⟨n,rfl,λm d=>g _ (l m d)⟩
   ·exact f (eJ hz)
theorem Xz{t:SetTable}{led:Bool}{hs:List Int}(q:TabQ t hs)(T:TblOk t led)(a:hs.length<=t.mask):∃x,x<=t.mask/\x∉t.place.toList:=by
 refine YW λz=>?_
 have:=Df (ys:=t.place.toList) (eO (n:=t.mask+1)) λx hx=>YW λy=>z ⟨x,by have:=XZ.mp hx;exact ZH this,y⟩
 rw [ZK,XU,q.len]at this
 omega
theorem probe_ok{t:SetTable}{led:Bool}(T:TblOk t led){hashAt:Nat->Int}{h:Int}{e:Nat}(he:sq t.mask h e∉t.place.toList)(hb:∀m,m < e->sq t.mask h m∈t.place.toList):∀(f n:Nat),n<=e->e < n+f ->
  (SetTable.probe.go t hashAt h f (Lk t.mask h n)=some (.empty (sq t.mask h e) none)/\∀m i,n<=m->m < e->t.place[i]?=some (sq t.mask h m)->hashAt i≠h) \/
  ∃k i,n<=k/\k < e/\t.place[i]?=some (sq t.mask h k)/\hashAt i=h/\SetTable.probe.go t hashAt h f (Lk t.mask h n)=some (.candidate (sq t.mask h k) i (Lk t.mask h (k+1)))/\∀m i,n<=m->m < k->t.place[i]?=some (sq t.mask h m)->hashAt i≠h
 | 0,n,h1,h2=>by omega
 | f+1,n,h1,h2=>by
  rw [SetTable.probe.go]
  have p:∀{i d j:Nat},t.place[i]?=some j->t.place[d]?=some j->i=d:=λa b=>(Ch T.rise a).symm.trans (Ch T.rise b)
  rcases YE h1 with rfl | h1
  ·rw [show t.slot (Lk t.mask h n).j=.empty from Oz T he]
   dsimp only
   rw [Hl]
   exact .inl ⟨rfl,λm i a b=>by omega⟩
  ·obtain⟨i,v,hp⟩:=Ms T (hb n h1)
   rw [show t.slot (Lk t.mask h n).j=.live i from v]
   dsimp only
   by_cases c:hashAt i=h
   ·rw [Q_ (by simpa using c)]
    exact .inr ⟨n,i,E_ _,h1,hp,c,rfl,λm i a b=>by omega⟩
   ·rw [J_ (by simpa using c),CI]
    have g:∀d,t.place[d]?=some (sq t.mask h n)->hashAt d≠h:=λd s=>by rw [p s hp];exact c
    rcases probe_ok T he hb f (n+1) h1 (by omega) with⟨a,b⟩ | ⟨k,d,a1,a2,u,w,q,r⟩
    ·refine .inl ⟨a,λm d m1 m2 o=>?_⟩
     rcases YE m1 with rfl | m1
     ·exact g d o
     ·exact b m d m1 m2 o
    ·refine .inr ⟨k,d,fP a1,a2,u,w,q,λm l m1 m2 o=>?_⟩
     rcases YE m1 with rfl | m1
     ·exact g l o
     ·exact r m l m1 m2 o
end L2
namespace L2
open PySem
section
variable {prog:i_}{w:jA}{A:jC}{E:iV->iW->Prop}{s:iW}
theorem X0:∀(n q:Nat) (d:iX) (u:iV) (e:List iY) (A:jC) (E:iV->iW->Prop) (s:iW) (Q:Bool->iW->Prop),d.depth<=n->n < q->Cano d=true->Reads s.heap u d e->Q false s->wpAny (model prog w) A (ofAClassStatement q u) Q E s:=by
 intro n
 induction n with
 | zero =>
  intro q d u e A E s Q G hq hc c h
  cases c with
  | int i t=>unfold ofAClassStatement;exact C_ h
  | str x t=>unfold ofAClassStatement;exact C_ h
  | tuple a1 a2 j l=>simp [PyData.depth]at G
  | none=>simp [Cano]at hc
  | bool b=>simp [Cano]at hc
  | list a1 a2 j l=>simp [Cano]at hc
  | dict a1 a2 j l L=>simp [Cano]at hc
 | succ n O =>
  intro q d u e A E s Q G hq hc c h
  cases c with
  | int i t=>unfold ofAClassStatement;exact C_ h
  | str x t=>unfold ofAClassStatement;exact C_ h
  | none=>simp [Cano]at hc
  | bool b=>simp [Cano]at hc
  | list a1 a2 j l=>simp [Cano]at hc
  | dict a1 a2 j l L=>simp [Cano]at hc
  | @tuple a o items m z e H f y S =>
   have M:s.TypeIs (.ref a) "tuple" := ⟨o,H,f⟩
   have N:PyData.depthAll z<=n:=by simp only [PyData.depth]at G;omega
   have J:Ao z=true:=hc
   obtain⟨F,rfl⟩:∃F,q=F+1:=⟨q - 1,by omega⟩
   unfold ofAClassStatement
   refine A_ (eM M ?_)
   dsimp only
   rw [Q_ (by decide:("tuple" == "tuple")=true)]
   refine A_ (C_ ?_)
   simp only [Bool.not_true,Bool.false_eq_true,if_false]
   refine A_ (eI H y ?_)
   dsimp only
   refine A_ (show wpAny _ _ (forIn items _ _) _ _ s from ?_)
   rw [<- fH]
   refine dL _ (λrest r g=>r.1=none/\g=s/\∃k I,ReadsAll s.heap rest k I/\Ao k=true/\PyData.depthAll k<=n) _ ?_ ?_ _ _ ⟨rfl,rfl,z,e,S,J,N⟩
   ·rintro v rest r g ⟨c,rfl,k,I,R,f,P⟩
    cases R with
    | @cons _ _ d p D B h1 C =>
     simp only [Ao,Bool.and_eq_true]at f
     simp only [PyData.depthAll]at P
     refine A_ (O F d v D A _ g _ (by omega) (by omega) f.1 h1 ?_)
     simp only [Bool.false_eq_true,if_false]
     exact C_ ⟨rfl,rfl,p,B,C,f.2,by omega⟩
   ·rintro⟨T,U⟩ g ⟨c,rfl,_⟩
    simp only at c
    subst c
    exact C_ h
theorem JF:∀(n q:Nat) (d:iX) (u:iV) (e:List iY) (A:jC) (E:iV->iW->Prop) (s:iW) (Q:Bool->iW->Prop),d.depth<=n->Cano d=true->Reads s.heap u d e->(∀b,Q b s)->wpAny (model prog w) A (hashByValue q u) Q E s:=by
 intro n
 induction n with
 | zero =>
  intro q d u e A E s Q G hc c h
  cases c with
  | int i t=>unfold hashByValue;exact C_ (h _)
  | str x t=>unfold hashByValue;exact C_ (h _)
  | tuple a1 a2 j l=>simp [PyData.depth]at G
  | none=>simp [Cano]at hc
  | bool b=>simp [Cano]at hc
  | list a1 a2 j l=>simp [Cano]at hc
  | dict a1 a2 j l L=>simp [Cano]at hc
 | succ n O =>
  intro q d u e A E s Q G hc c h
  cases c with
  | int i t=>unfold hashByValue;exact C_ (h _)
  | str x t=>unfold hashByValue;exact C_ (h _)
  | none=>simp [Cano]at hc
  | bool b=>simp [Cano]at hc
  | list a1 a2 j l=>simp [Cano]at hc
  | dict a1 a2 j l L=>simp [Cano]at hc
  | @tuple a o items m B e H f y T =>
   have M:s.TypeIs (.ref a) "tuple" := ⟨o,H,f⟩
   have N:PyData.depthAll B<=n:=by simp only [PyData.depth]at G;omega
   have J:Ao B=true:=hc
   cases q with
   | zero=>unfold hashByValue;exact C_ (h _)
   | succ R =>
    unfold hashByValue
    refine A_ (bY M F.slot_tuple_hash.lookup (show wpAny _ _ (seqItems? (.ref a) >>= _) _ _ s from ?_))
    refine A_ (eI H y (A_ (show wpAny _ _ (forIn items _ _) _ _ s from ?_)))
    rw [<- fH]
    refine dL _ (λrest r g=>r.1=none/\g=s/\∃k I,ReadsAll s.heap rest k I/\Ao k=true/\PyData.depthAll k<=n) _ ?_ ?_ _ _ ⟨rfl,rfl,B,e,T,J,N⟩
    ·rintro v rest r g ⟨c,rfl,k,I,S,f,P⟩
     cases S with
     | @cons _ _ d p D z h1 C =>
      simp only [Ao,Bool.and_eq_true]at f
      simp only [PyData.depthAll]at P
      refine A_ (O R d v D A _ g _ (by omega) f.1 h1 λb=>?_)
      cases b
      ·exact C_ (C_ (h _))
      ·exact C_ ⟨rfl,rfl,p,z,C,f.2,by omega⟩
    ·rintro⟨U,V⟩ g ⟨c,rfl,_⟩
     simp only at c
     subst c
     exact C_ (h _)
def Cb(h:jD)(d:iX)(b:iY):Prop:=KeyTree d/\∃a,Reads h (.ref b) d a
theorem CO{d:iX}{b:iY}(hx:Cb s.heap d b):∀{vs:List iV} {Q:Bool->iW->Prop},(∀v∈vs,∃e c,v=.ref c/\Cb s.heap e c)->Q false s->wpAny (model prog w) A (searchCouldBeSeen (.ref b) vs) Q E s:=by
 intro vs Q hv h
 obtain⟨g,n,j⟩:=hx
 unfold searchCouldBeSeen
 refine A_ (dL _ (λrest r f=>r.1=none/\f=s/\∀v∈rest,∃e c,v=.ref c/\Cb s.heap e c) _ ?_ ?_ _ _ ⟨rfl,rfl,hv⟩)
 ·rintro v rest ⟨o,p⟩ f ⟨i,rfl,hv'⟩
  obtain⟨e,c,rfl,a,m,k⟩:=hv' v (.head _)
  have l:∀v∈rest,∃e c,v=.ref c/\Cb f.heap e c:=λv h=>hv' v (.tail _ h)
  dsimp only
  split
  ·exact C_ ⟨rfl,rfl,l⟩
  ·refine A_ (Jv 6 8 _ _ n _ _ _ _ g.dep (by decide) g.can j ?_)
   simp only [Bool.not_true,Bool.false_eq_true,if_false]
   refine A_ (Jv 6 8 _ _ m _ _ _ _ a.dep (by decide) a.can k ?_)
   simp only [Bool.not_true,Bool.false_eq_true,if_false]
   refine A_ (X0 6 8 _ _ n _ _ _ _ g.dep (by decide) g.can j ?_)
   simp only [Bool.false_eq_true,if_false]
   refine A_ (X0 6 8 _ _ m _ _ _ _ a.dep (by decide) a.can k ?_)
   simp only [Bool.false_eq_true,if_false]
   exact C_ ⟨rfl,rfl,l⟩
 ·rintro⟨o,p⟩ f ⟨i,rfl,_⟩
  simp only at i
  subst i
  exact C_ h
def Km(w:jA)(x:iX×iY):Int×iV:=(A1 w x.1,.ref x.2)
def Ev(w:jA)(h:jD)(a:iY)(xs:List (iX×iY))(led:Bool):Prop :=
 ∃o b c t,h.get? a=some o/\o.ExactSet/\o.data=.set b c t/\b.toList=xs.map (Km w)/\(∀x∈xs,Cb h x.1 x.2)/\t.fits b.size=true/\TblOk t led/\TabQ t (xs.map λx=>A1 w x.1)/\xs.length * 5 < t.mask * 3
theorem Q5{t:SetTable}{f g:Nat->Int}{h:Int}{p:SetTable.Probe}(e:∀i,f i=g i):t.probe f h p=t.probe g h p:=by rw [funext e]
theorem CP{t:SetTable}{hs:List Int}(q:TabQ t hs):t.gaveWay=false:=by
 unfold SetTable.gaveWay
 rcases q.msk with h | h | h | h | h | h <;> rw [h] <;> decide
theorem U7{a:iY}{o:jE}{es:Array (Int×iV)}{ep:Nat}{t:SetTable}{xs:List (iX×iY)}{led:Bool}{d:iX}{b:iY}{Q:SetFound->iW->Prop}{u:Nat}(hu:A.units+6 < cLine)(R:s.heap.get? a=some o)(hd:o.data=.set es ep t)(hl:es.toList=xs.map (Km w))(V:∀x∈xs,Cb s.heap x.1 x.2)(hf:t.fits es.size=true)(r:TblOk t led)(M:TabQ t (xs.map λx=>A1 w x.1))(hx:Cb s.heap d b)
  (he:sq t.mask (A1 w d) u∉t.place.toList) (hb:∀m,m < u->sq t.mask (A1 w d) m∈t.place.toList) (qq:u < 10 * SetTable.turns t.mask)
  (h1:d∈xs.map (·.1)->Q (.there none) s) (h2:d∉xs.map (·.1)->Q (.free (sq t.mask (A1 w d) u) false) s) :
  ∀(k n fuel:Nat) (G:Option SetTable.Probe),n+k=u->k < fuel->(G=some (Lk t.mask (A1 w d) n)\/G=none/\n=0)->(∀(m i:Nat) (x:iX×iY),m < n->t.place[i]?=some (sq t.mask (A1 w d) m)->xs[i]?=some x->x.1≠d) ->
   wpAny (model prog w) A (setSearchFrom a (.ref b) (A1 w d) true fuel G) Q E s:=by
 intro k
 induction k using Nat.strongRecOn with
 | _ k ih =>
 intro n fuel G hn hfu bh Z
 obtain⟨fuel,rfl⟩:∃f,fuel=f+1:=⟨fuel - 1,by omega⟩
 have Y:∀{i:Nat} {x:iX×iY},xs[i]?=some x->es[i]?=some (Km w x):=λ{i x} h=>by
  rw [<- V_,hl,H_,h];rfl
 have S:∀{i j:Nat},t.place[i]?=some j->∃x,xs[i]?=some x:=λ{i j} h=>by
  have p:=(eK.mp h).1
  have:=M.len
  rw [B_]at this
  exact⟨_,M_ (by omega)⟩
 unfold setSearchFrom
 refine A_ (YJ R hd hf ?_)
 dsimp only
 rw [CP M,J_ L_]
 have O:G.getD (t.probeStart (A1 w d))=Lk t.mask (A1 w d) n:=by
  rcases bh with rfl | ⟨rfl,rfl⟩
  ·rfl
  ·rfl
 rw [O,Q5 (g:=λi=>((xs.map λx=>A1 w x.1)[i]?).getD 0) ?_]
 ·have T:=probe_ok (hashAt:=λi=>((xs.map λx=>A1 w x.1)[i]?).getD 0) r he hb (10 * SetTable.turns t.mask) n (by omega) (by omega)
  rcases T with⟨a1,a2⟩ | ⟨q,i,b1,b2,J,b4,b5,b6⟩
  ·rw [show t.probe (λi=>((xs.map λx=>A1 w x.1)[i]?).getD 0) (A1 w d) (Lk t.mask (A1 w d) n)=_ from a1]
   dsimp only
   refine C_ (h2 λdg=>?_)
   obtain⟨x,D,rfl⟩:=D_.mp dg
   obtain⟨i,p⟩:=List.getElem?_of_mem D
   have ur:i < t.place.size:=by
    have:=M.len
    have:=(F_.mp p).1
    rw [B_]at *
    omega
   have F:t.place[i]?=some t.place[i]:=XW ur
   obtain⟨H,P,e2⟩:=M.path (t.place[i],A1 w x.1) (XO (i:=i) (by
    rw [List.getElem?_zip_eq_some]
    exact⟨by rw [V_];exact F,by rw [H_,p];rfl⟩))
   dsimp only at P e2
   have hlt:H < u:=by
    rcases iE H u with c | c | c
    ·exact c
    ·subst c
     rw [P]at he
     exact absurd (by rw [<- V_]at F;exact XO F) he
    ·exact absurd (e2 u c) he
   rw [<- P]at F
   rcases Y_ H n with c | c
   ·exact Z H i x c F p rfl
   ·exact a2 H i c hlt F (by rw [H_,p];rfl)
  ·rw [show t.probe (λi=>((xs.map λx=>A1 w x.1)[i]?).getD 0) (A1 w d) (Lk t.mask (A1 w d) n)=_ from b5]
   obtain⟨x,p⟩:=S J
   have D:=XO p
   dsimp only
   rw [Y p]
   dsimp only [Km]
   split
   ·refine A_ (CO hx (λv hv=>?_) ?_)
    ·obtain⟨e,di,rfl⟩:=D_.mp hv
     have L:=(Array.mem_filter.mp (Array.mem_toList_iff.mp di)).1
     rw [<- Array.mem_toList_iff,hl]at L
     obtain⟨y,hy,rfl⟩:=D_.mp L
     exact⟨y.1,y.2,rfl,V y hy⟩
    rw [J_ L_]
    refine A_ (ZF ((Jw prog w).eqBool hu (V x D) hx ?_))
    refine A_ (YJ R hd hf ?_)
    dsimp only
    by_cases l:x.1=d
    ·rw [YL l,Q_ (by rfl)]
     exact C_ (h1 (D_.mpr ⟨x,D,l⟩))
    ·rw [YH l,J_ (by decide),show t.sameMemory t.moves t.mask=some true by unfold SetTable.sameMemory;rw [Q_ (by simp)]]
     dsimp only
     obtain⟨I,bw,N⟩:=Ms r (hb q b2)
     have X:I=i:=(Ch r.rise N).symm.trans (Ch r.rise J)
     subst X
     rw [Q_ rfl,bw]
     dsimp only
     rw [Y p]
     dsimp only [Km]
     refine A_ (wpAny_isSame_ref_self (A_ (C_ ?_)))
     show wpAny _ _ (if false=true then _ else setSearchFrom a (.ref b) (A1 w d) true fuel (some (Lk t.mask (A1 w d) (q+1)))) _ _ _
     rw [J_ L_]
     refine ih (u - (q+1)) (by omega) (q+1) fuel _ (by omega) (by omega) (.inl rfl) λm B y L C z=>?_
     rcases Y_ m n with c | c
     ·exact Z m B y c C z
     ·rcases Y_ m q with c2 | c2
      ·intro U
       refine b6 m B c c2 C ?_
       rw [H_,z,<- U];rfl
      ·have e6:m=q:=by omega
       subst e6
       have W:B=I:=(Ch r.rise C).symm.trans (Ch r.rise J)
       subst W
       rw [p]at z
       cases z
       exact l
   ·refine A_ (ZF ((Jw prog w).eqBool hu (V x D) hx ?_))
    refine A_ (YJ R hd hf ?_)
    dsimp only
    by_cases l:x.1=d
    ·rw [YL l,Q_ (by rfl)]
     exact C_ (h1 (D_.mpr ⟨x,D,l⟩))
    ·rw [YH l,J_ (by decide),show t.sameMemory t.moves t.mask=some true by unfold SetTable.sameMemory;rw [Q_ (by simp)]]
     dsimp only
     obtain⟨I,bw,N⟩:=Ms r (hb q b2)
     have X:I=i:=(Ch r.rise N).symm.trans (Ch r.rise J)
     subst X
     rw [Q_ rfl,bw]
     dsimp only
     rw [Y p]
     dsimp only [Km]
     refine A_ (wpAny_isSame_ref_self (A_ (C_ ?_)))
     show wpAny _ _ (if false=true then _ else setSearchFrom a (.ref b) (A1 w d) true fuel (some (Lk t.mask (A1 w d) (q+1)))) _ _ _
     rw [J_ L_]
     refine ih (u - (q+1)) (by omega) (q+1) fuel _ (by omega) (by omega) (.inl rfl) λm B y L C z=>?_
     rcases Y_ m n with c | c
     ·exact Z m B y c C z
     ·rcases Y_ m q with c2 | c2
      ·intro U
       refine b6 m B c c2 C ?_
       rw [H_,z,<- U];rfl
      ·have e6:m=q:=by omega
       subst e6
       have W:B=I:=(Ch r.rise C).symm.trans (Ch r.rise J)
       subst W
       rw [p]at z
       cases z
       exact l
 ·intro i
  show(es[i]?.map (·.1)).getD 0=_
  rw [<- V_,hl,H_,H_]
  cases xs[i]? <;> rfl
theorem Cb.but{h h':jD}{p:iY}{d:iX}{b:iY}(x:Cb h d b)(hk:∀c o,c≠p->h.get? c=some o->h'.get? c=some o)(hp:∀o e n,h.get? p=some o->o.data≠.seq e n):Cb h' d b:=let⟨k,a,r⟩:=x;⟨k,a,Hj hk hp r k.can⟩
theorem Jy{a:iY}{led:Bool}{h:jD}{o:jE}{es:Array (Int×iV)}{ep:Nat}{t:SetTable}(i:h.get? a=some o)(u:o.ExactSet)(g:o.data=.set es ep t){b:Array (Int×iV)}{t':SetTable}{d:List (iX×iY)}(m:b.toList=d.map (Km w))(l:∀x∈d,Cb h x.1 x.2)(hf:t'.fits b.size=true)(r:TblOk t' led)(v:TabQ t' (d.map λx=>A1 w x.1)) :
  (h.update a (Obj.putSet b t')).get? a=some { o with data:=.set b (ep+1) t' }/\(∀x∈d,Cb (h.update a (Obj.putSet b t')) x.1 x.2)/\(d.length * 5 < t'.mask * 3->Ev w (h.update a (Obj.putSet b t')) a d led):=by
 have e:=ZU (Obj.putSet b t') i (by rw [putSet_of b t' g];rfl)
 rw [putSet_of b t' g]at e
 have f:∀x∈d,Cb (h.update a (Obj.putSet b t')) x.1 x.2:=λx hx=>(l x hx).but (p:=a) (λc o hc e=>((YT h a (Obj.putSet b t')).2 c hc).trans e) (λy z n j q=>by rw [i]at j;cases j;rw [g]at q;cases q)
 exact⟨e,f,λk=>⟨_,b,ep+1,t',e,u,rfl,m,f,hf,r,v,k⟩⟩
theorem Jz{α:Type}:∀(ys a:List α),(List.range' a.length ys.length).filterMap (λi=>(a++ys)[i]?)=ys
 | [],a=>rfl
 | y :: ys,a=>by
  have:=Jz ys (a++[y])
  rw [I_,aQ]at this
  rw [YA,List.range'_succ,dB,ZY (E_ _),gV]
  show y :: _=_
  exact ZX (y :: ·) this
theorem Q6{α:Type}{xs:List α}{l:List Nat}(hp:l.Perm (List.range xs.length)):(l.filterMap λi=>xs[i]?).Perm xs:=by
 have h1:=hp.filterMap λi=>xs[i]?
 have h2:=Jz xs []
 rw [List.nil_append,List.length_nil,<- List.range_eq_range']at h2
 rwa [h2]at h1
theorem Lm{xs:List (iX×iY)}{hs:Array Int}(b:hs.toList=xs.map λx=>A1 w x.1):∀(l:List Nat),(∀i∈l,i < xs.length)->(l.map λi=>hs.getD i 0)=(l.filterMap λi=>xs[i]?).map λx=>A1 w x.1
 | [],_=>rfl
 | i :: l,a=>by
  have c:=a i (.head _)
  have e:xs[i]?=some xs[i]:=M_ c
  rw [XY,dB,e,XY,Lm b l λj hj=>a j (.tail _ hj)]
  rw [YN,<- V_,b,H_,e];rfl
theorem X1{a:iY}{led:Bool}{o:jE}{es:Array (Int×iV)}{ep:Nat}{t:SetTable}{xs:List (iX×iY)}{d:Nat}{Q:Unit->iW->Prop}(q:s.heap.get? a=some o)(I:o.ExactSet)(v:o.data=.set es ep t)(u:es.toList=xs.map (Km w))(B:∀x∈xs,Cb s.heap x.1 x.2)(hf:t.fits es.size=true)(F:TblOk t led)
  (G:Msk (SetTable.sizeAbove d - 1)) (hz:SetTable.sizeAbove d<=sizeLine) (hn:xs.length * 5 < (SetTable.sizeAbove d - 1) * 3)
  (h:∀r z,Heap.SameBut a s.heap r->Ev w r a z led->z.Perm xs->Q () { s with heap:=r }):wpAny (model prog w) A (setRelay a d) Q E s:=by
 have j:es.size=xs.length:=by rw [<- XU,u,B_]
 have p:(es.map (·.1)).toList=xs.map λx=>A1 w x.1:=by rw [Array.toList_map,u,XV];rfl
 obtain⟨c,b,y,e2,n,k⟩:=CN (f:=t.finger) (mv:=t.movedTo (SetTable.sizeAbove d - 1)) (led:=t.led) (pl:=t.plain) G (es.map (·.1)) (by rw [dJ,j];omega)
 rw [dJ,j]at n
 have g:TblOk c led:=by have:=TblOk.laid y;rw [F.led]at this;exact this
 have hlt:∀i∈b.toList,i < xs.length:=λi H=>XZ.mp (n.mem_iff.mp H)
 rw [Lm p b.toList hlt]at k
 have e:=Q6 n
 have l:(b.filterMap λi=>es[i]?).toList=(b.toList.filterMap λi=>xs[i]?).map (Km w):=by
  rw [Array.toList_filterMap,List.map_filterMap]
  congr 1
  funext i
  rw [<- V_,u,H_]
 have m:(b.filterMap λi=>es[i]?).size=es.size:=by rw [<- XU,l,B_,e.length_eq,j]
 unfold setRelay
 refine A_ (YJ q v hf (show wpAny _ _ _ _ _ _ from ?_))
 dsimp only
 rw [J_ (Nat.not_lt.mpr hz),show t.relaid (es.map (·.1)) d=some (c,b) from y]
 refine A_ (show wpAny _ _ (if((b.filterMap λi=>es[i]?).size != es.size)=true then _ else pure (b.filterMap λi=>es[i]?,c)) _ _ _ from ?_)
 rw [J_ (by rw [m];simp)]
 refine C_ (show wpAny _ _ (storeSet a (b.filterMap λi=>es[i]?) c) _ _ _ from ?_)
 generalize (b.filterMap λi=>es[i]?)=nu at l m
 generalize (b.toList.filterMap λi=>xs[i]?)=xs2 at l e k
 have L:=e.length_eq
 have C:c.fits nu.size=true:=by
  have:=k.len
  rw [B_]at this
  simp only [SetTable.fits,SetTable.fill,g.dum,Bool.and_eq_true,beq_iff_eq,decide_eq_true_eq]
  rw [e2,m]
  refine⟨by omega,?_⟩
  show c.place.size+0<=_
  omega
 obtain⟨J,M,D⟩:=Jy (led:=led) q I v l (λx hx=>B x (e.mem_iff.mp hx)) C g k
 exact fV q v (h _ _ (YT _ _ _) (D (by rw [e2];omega)) e) (by rw [m,j];have:sizeLine=16777216:=rfl;omega)
theorem TabQ.pln{t:SetTable}{hs:List Int}(q:TabQ t hs)(b:Bool):TabQ { t with plain:=b } hs:=⟨q.msk,q.len,q.le,q.path⟩
theorem X2{a:iY}{led:Bool}{xs:List (iX×iY)}{d:iX}{b:iY}{Q:Bool->iW->Prop}(hu:A.units+6 < cLine)(hx:Cb s.heap d b)(hS:Ev w s.heap a xs led)(hn:xs.length < 4900)
  (h1:d∈xs.map (·.1)->Q false s) (h2:d∉xs.map (·.1)->∀y I,Heap.SameBut a s.heap y->Ev w y a I led->I.Perm ((d,b) :: xs)->Q true { s with heap:=y }) :
  wpAny (model prog w) A (setAddHashed a (.ref b) (A1 w d)) Q E s:=by
 obtain⟨o,e,ep,t,v,dj,F,S,Z,hf,r,l,hB⟩:=hS
 have gc:e.size=xs.length:=by rw [<- XU,S,B_]
 have hpl:t.place.size=xs.length:=by have:=l.len;rwa [B_]at this
 obtain⟨x0,N,ln⟩:=Xz l r (by rw [B_];omega)
 obtain⟨g,f1,V,T⟩:=Q4 l.msk (A1 w d) (λj=>j∈t.place.toList) N ln
 unfold setAddHashed setAddHashedIn
 refine ZF (A_ (YJ v F hf (show wpAny _ _ _ _ _ _ from ?_)))
 dsimp only
 rw [show byScan (.ref b) e=false from rfl,J_ L_]
 unfold setSearch
 refine A_ (U7 hu v F S Z hf r l hx V T f1 (λdg=>?_) (λD=>?_) g 0 100000 none (by omega) ?_ (.inr ⟨rfl,rfl⟩) (λm i x hm=>absurd hm (b_ _)))
 ·exact C_ (h1 dg)
 ·dsimp only
  refine A_ (YJ v F hf ?_)
  dsimp only
  have hp:SetTable.below t.place (sq t.mask (A1 w d) g)<=t.place.size:=(Em r.rise _).1
  have G:=l.put (h:=A1 w d) (n:=g) r T
  have J:=r.put (Jo r (Oz r V))
  have e2:(t.put (sq t.mask (A1 w d) g)).2=SetTable.below t.place (sq t.mask (A1 w d) g):=rfl
  have H:(t.put (sq t.mask (A1 w d) g)).1.mask=t.mask:=rfl
  rw [e2]
  have k:(t.put (sq t.mask (A1 w d) g)).1.place.size=xs.length+1:=by
   have:=G.len
   rw [this]
   simp only [List.length_append,List.length_cons,List.length_take,List.length_drop,List.length_map]
   omega
  generalize R:SetTable.below t.place (sq t.mask (A1 w d) g)=p at hp G ⊢
  generalize (t.put (sq t.mask (A1 w d) g)).1=t1 at G J H k ⊢
  have B:(SetTable.insertAt e p (A1 w d,.ref b)).toList=(xs.take p++(d,b) :: xs.drop p).map (Km w):=by
   rw [Fb _ _ _ (by omega),S,S_,XY,d_,gK];rfl
  have M:TabQ t1 ((xs.take p++(d,b) :: xs.drop p).map λx=>A1 w x.1):=by
   rw [S_,XY,d_,gK];exact G
  have z:(xs.take p++(d,b) :: xs.drop p).Perm ((d,b) :: xs):=by
   refine List.perm_middle.trans ?_
   rw [bP]
  have P:=z.length_eq
  rw [YA]at P
  have C:∀x∈xs.take p++(d,b) :: xs.drop p,Cb s.heap x.1 x.2:=λx hx'=>by
   rcases XJ.mp (z.mem_iff.mp hx') with rfl | hx'
   ·exact hx
   ·exact Z x hx'
  have zf:(SetTable.insertAt e p (A1 w d,.ref b)).size=xs.length+1:=by rw [<- XU,B,B_,P]
  generalize SetTable.insertAt e p (A1 w d,.ref b)=cg at B zf ⊢
  generalize xs.take p++(d,b) :: xs.drop p=xs1 at B M z P C
  clear R hp G e2
  have hsl:sizeLine=16777216:=rfl
  have u:∀f:SetTable,f.mask=t.mask->f.place.size=xs.length+1->TblOk f led->TabQ f (xs1.map λx=>A1 w x.1)->wpAny (model prog w) A (do
    storeSet a cg f
    if(!false && f.tooFull)=true then do
     setRelay a (SetTable.grown (e.size+1))
     pure true
    else pure true) Q E s:=λf Y g2 L g4=>by
   have U:f.fits cg.size=true:=by
    simp only [SetTable.fits,SetTable.fill,L.dum,Bool.and_eq_true,beq_iff_eq,decide_eq_true_eq]
    refine⟨by omega,?_⟩
    show f.place.size+0<=_
    rcases l.msk with c | c | c | c | c | c <;> omega
   obtain⟨k1,k2,k3⟩:=Jy (led:=led) v dj F B C U L g4
   have b1:=YT s.heap a (Obj.putSet cg f)
   refine A_ (fV v F ?_ (by omega))
   have W:f.tooFull=decide ((xs.length+1) * 5>=t.mask * 3):=by
    unfold SetTable.tooFull SetTable.fill
    rw [Y,g2,L.dum];rfl
   by_cases c:(xs.length+1) * 5>=t.mask * 3
   ·rw [Q_ (by rw [W,YL c];rfl)]
    have t8:(t.mask=7/\e.size+1=5)\/(t.mask=31/\e.size+1=19)\/(t.mask=127/\e.size+1=77)\/(t.mask=511/\e.size+1=307)\/(t.mask=2047/\e.size+1=1229):=by
     rcases l.msk with q | q | q | q | q | q
     ·exact .inl ⟨q,by omega⟩
     ·exact .inr (.inl ⟨q,by omega⟩)
     ·exact .inr (.inr (.inl ⟨q,by omega⟩))
     ·exact .inr (.inr (.inr (.inl ⟨q,by omega⟩)))
     ·exact .inr (.inr (.inr (.inr ⟨q,by omega⟩)))
     ·omega
    have O:Msk (SetTable.sizeAbove (SetTable.grown (e.size+1)) - 1)/\SetTable.sizeAbove (SetTable.grown (e.size+1))<=sizeLine/\xs1.length * 5 < (SetTable.sizeAbove (SetTable.grown (e.size+1)) - 1) * 3:=by
     rcases t8 with⟨_,q⟩ | ⟨_,q⟩ | ⟨_,q⟩ | ⟨_,q⟩ | ⟨_,q⟩
     ·rw [q,show SetTable.sizeAbove (SetTable.grown 5)=32 by decide +kernel]
      exact⟨.inr (.inl rfl),by omega,by omega⟩
     ·rw [q,show SetTable.sizeAbove (SetTable.grown 19)=128 by decide +kernel]
      exact⟨.inr (.inr (.inl rfl)),by omega,by omega⟩
     ·rw [q,show SetTable.sizeAbove (SetTable.grown 77)=512 by decide +kernel]
      exact⟨.inr (.inr (.inr (.inl rfl))),by omega,by omega⟩
     ·rw [q,show SetTable.sizeAbove (SetTable.grown 307)=2048 by decide +kernel]
      exact⟨.inr (.inr (.inr (.inr (.inl rfl)))),by omega,by omega⟩
     ·rw [q,show SetTable.sizeAbove (SetTable.grown 1229)=8192 by decide +kernel]
      exact⟨.inr (.inr (.inr (.inr (.inr rfl)))),by omega,by omega⟩
    refine A_ (X1 (s:={ s with heap:=s.heap.update a (Obj.putSet cg f) }) (o:={ o with data:=.set cg (ep+1) f }) k1 dj rfl B k2 U L O.1 O.2.1 O.2.2 λy I c1 c2 c3=>C_ ?_)
    exact h2 D y I (b1.trans c1) c2 (c3.trans z)
   ·rw [J_ (by rw [W,YH c];decide)]
    exact C_ (h2 D _ _ b1 (k3 (by rw [Y];omega)) z)
  split
  ·obtain⟨X,as,rx⟩:=hx
   refine A_ (JF 6 8 _ _ as _ _ _ _ X.dep X.can rx λbv=>?_)
   cases bv
   ·exact u _ H k (J.plain false) (M.pln false)
   ·exact u _ H k J M
  ·exact A_ (C_ (u _ H k J M))
 ·have:SetTable.turns t.mask<=9000:=by unfold SetTable.turns;rcases l.msk with c | c | c | c | c | c <;> omega
  omega
end
end L2
namespace L2
open PySem PySem.Spec PyProof.Rows
section
variable {prog:i_}{w:jA}{A:jC}{R:jK->iW->Prop}{sa it t:iY}{led:Bool}
structure StepIt(prog:i_)(w:jA)(it t:iY)(items:Array iV)(St:Nat->jD->Prop):Prop where
 item:∀{A:jC} {E:iV->iW->Prop} {s:iW} {i:Nat} {x:iV} {Q:Option iV->iW->Prop},St i s.heap->items[i]?=some x->(∀h',St (i+1) h'->Heap.SameBut it s.heap h'->Q (some x) { s with heap:=h' })->wpAny (model prog w) A (pyNext (.ref it)) Q E s
 fin:∀{A:jC} {E:iV->iW->Prop} {s:iW} {i:Nat} {Q:Option iV->iW->Prop},A.handled=none->St i s.heap->items[i]?=none->(∀h',Heap.ExtBut it s.heap h'->Q none { s with heap:=h' })->wpAny (model prog w) A (pyNext (.ref it)) Q E s
 keep:∀{i:Nat} {h h':jD} {p:iY},it≠p->t≠p->St i h->Heap.SameBut p h h'->St i h'
 noseq:∀{i:Nat} {h:jD} {o:jE} {vs:Array iV} {n:Nat},St i h->h.get? it=some o->o.data≠.seq vs n
theorem Ln{items:Array iV}(g:t≠it):StepIt prog w it t items λi h=>h.IsListIter it t i/\h.IsList t items where
 item:=λst hx q=>wpAny_pyNext_list_item st.1 st.2 hx λf k a=>q f ⟨k,let⟨o,e,r⟩:=st.2;⟨o,(a.2 t g).trans e,r⟩⟩ a
 fin:=λj st hx q=>wpAny_pyNext_list_end j st.1 st.2 hx q
 keep:=λh1 h2 st a=>⟨st.1.at λo e=>(a.2 it h1).trans e,let⟨o,e,r⟩:=st.2;⟨o,(a.2 t h2).trans e,r⟩⟩
 noseq:=λst e q=>by
  obtain⟨⟨o,b,c,d⟩,_⟩:=st
  rw [e]at b;cases b
  rw [d]at q;cases q
theorem J0{items:Array iV}(g:t≠it):StepIt prog w it t items λi h=>h.IsTupleIter it t i/\h.IsTuple t items where
 item:=λst hx q=>wpAny_pyNext_tuple_item st.1 st.2 hx λf k a=>q f ⟨k,st.2.at λo e=>(a.2 t g).trans e⟩ a
 fin:=λj st hx q=>wpAny_pyNext_tuple_end j st.1 st.2 hx q
 keep:=λh1 h2 st a=>⟨st.1.at λo e=>(a.2 it h1).trans e,st.2.at λo e=>(a.2 t h2).trans e⟩
 noseq:=λst e q=>by
  obtain⟨⟨o,b,c,d⟩,_⟩:=st
  rw [e]at b;cases b
  rw [d]at q;cases q
theorem Ev.at{h h':jD}{xs:List (iX×iY)}(x:Ev w h sa xs led)(hs:∀o,h.get? sa=some o->h'.get? sa=some o)(f:∀x∈xs,Cb h x.1 x.2->Cb h' x.1 x.2):Ev w h' sa xs led:=by
 obtain⟨o,g,c,a,e,a1,a2,b,d,r⟩:=x
 exact⟨o,g,c,a,hs o e,a1,a2,b,λx hx=>f x hx (d x hx),r⟩
theorem Ev.noseq{h:jD}{xs:List (iX×iY)}(x:Ev w h sa xs led){o:jE}{vs:Array iV}{n:Nat}(e:h.get? sa=some o):o.data≠.seq vs n:=λq=>by
 obtain⟨f,d,c,b,a,_,a2,_⟩:=x
 rw [e]at a;cases a
 rw [a2]at q;cases q
theorem Lo{St:Nat->jD->Prop}{items:Array iV}(S:StepIt prog w it t items St)(hh:A.handled=none)(hu:A.units+20 < cLine)(U:sa≠it)(bh:sa≠t){ks:List (iX×iY)}(du:items.toList=ks.map λx=>.ref x.2)(jj:∀Q:List iX,Q.Nodup->(∀d∈Q,d∈ks.map (·.1))->Q.length < 4900) :
  ∀(m i:Nat) (s:iW) (xs:List (iX×iY)),m+i=items.size->St i s.heap->Ev w s.heap sa xs led->(∀x∈ks,Cb s.heap x.1 x.2)->(xs.map (·.1)).Nodup->(∀d,d∈xs.map (·.1)↔d∈(ks.take i).map (·.1))->(∀x∈xs,x∈ks)->xs.length<=i ->
   (∀a u f,(∀b o,b≠sa->b≠it->s.heap.get? b=some o->a.get? b=some o)->Ev w a sa f led->(f.map (·.1)).Nodup->(∀d,d∈f.map (·.1)↔d∈ks.map (·.1))->(∀x∈f,x∈ks)->f.length<=items.size->R (.ok (.ret .none)) { s with heap:=a,toks:=u }) ->
   codeAny (model prog w) A (.builtin "set.update.loop" ⟨[.ref sa,.ref it],[]⟩) R s:=by
 have dz:ks.length=items.size:=by rw [<- XU,du,B_]
 intro m
 induction m with
 | zero =>
  intro i s xs hm v P C B F r hl q
  refine cB Gx ?_
  rw [bF De _]
  refine(show wpAny _ A.in1 (pyNext (.ref it) >>= _) _ _ s from A_ (S.fin (show A.in1.handled=none from hh) v (by rw [aT (by omega)]) λa hx=>?_))
  refine C_ (q a s.toks xs (λb o h1 h2 e=>hx b o h2 e) ?_ B (λd=>?_) r (by omega))
  ·exact P.at (λo e=>hx sa o U e) λx _ g=>g.but (p:=it) (λc o hc e=>hx c o hc e) λo Y n e=>S.noseq v e
  ·rw [F d,cD (by omega)]
 | succ m ih =>
  intro i s xs hm v P C B F r hl q
  have hi:i < items.size:=by omega
  have j:i < ks.length:=by omega
  have hx:items[i]?=some (.ref ks[i].2):=by
   rw [<- V_,du,H_,M_ j];rfl
  have L:∀d,d∈(ks.take (i+1)).map (·.1)↔d=ks[i].1\/d∈(ks.take i).map (·.1):=λd=>by
   rw [YC,M_ j,S_,O_]
   simp only [Option.toList_some,List.map_cons,List.map_nil,List.mem_singleton]
   exact Or.comm
  have k:=bC j
  generalize ks[i]=kx at hx L k
  obtain⟨d0,I⟩:=kx
  refine cB Gx ?_
  rw [bF De _]
  refine(show wpAny _ A.in1 (pyNext (.ref it) >>= _) _ _ s from A_ (S.item v hx λh1 uk E=>?_))
  have D:∀{d:iX} {b:iY},Cb s.heap d b->Cb h1 d b:=λg=>g.but (p:=it) (λc o hc e=>(E.2 c hc).trans e) λo Y n e=>S.noseq v e
  have O:Ev w h1 sa xs led:=P.at (λo e=>(E.2 sa U).trans e) λx _ g=>D g
  have im:xs.length < 4900:=by
   have:=jj (xs.map (·.1)) B λd J=>by
    obtain⟨y,hy,rfl⟩:=D_.mp J
    exact D_.mpr ⟨y,r y hy,rfl⟩
   rwa [B_]at this
  have l:Cb h1 d0 I:=D (C _ k)
  refine(show wpAny _ A.in1 (holding [.ref I] (setAdd sa (.ref I)) >>= _) _ _ _ from A_ (ZF ?_))
  unfold setAdd
  have z:A.in1.units+6 < cLine:=by show A.units+1+6 < cLine;omega
  refine ZF (A_ ((Jw prog w).pyHash (s:={ s with heap:=h1 }) z l ?_))
  refine X2 (s:={ s with heap:=h1,toks:=s.toks+Hi d0 }) z l O im (λdj=>?_) (λdq h2 f V N hp=>?_)
  ·refine C_ ⟨cZ De _,ih (i+1) _ xs (by omega) uk O (λx hx'=>D (C x hx')) B (λd=>?_) r (YX hl) λa u T H a1 a2 W X M=>?_⟩
   ·rw [L d,<- F d]
    exact⟨.inr,λh=>h.elim (λe=>by rw [e];exact dj) id⟩
   ·exact q a u T (λb o b1 b2 e=>H b o b1 b2 ((E.2 b b2).trans e)) a1 a2 W X M
  ·have ae:f.length=xs.length+1:=hp.length_eq
   have G:∀{d:iX} {b:iY},Cb h1 d b->Cb h2 d b:=λg=>g.but (p:=sa) (λc o hc e=>(V.2 c hc).trans e) λo Y n e=>O.noseq e
   have Z:=hp.map (·.1)
   refine C_ ⟨cZ De _,ih (i+1) _ f (by omega) (S.keep U.symm bh.symm uk V) N (λx hx'=>G (D (C x hx'))) (Z.nodup_iff.mpr (ZV.mpr ⟨dq,B⟩)) (λd=>?_) (λx hx'=>?_) (by omega) λa u T H a1 a2 W X M=>?_⟩
   ·rw [Z.mem_iff,L d,<- F d]
    exact XJ
   ·rcases XJ.mp (hp.mem_iff.mp hx') with rfl | hx'
    ·exact k
    ·exact r x hx'
   ·exact q a u T (λb o b1 b2 e=>H b o b1 b2 ((V.2 b b1).trans ((E.2 b b2).trans e))) a1 a2 W X M
theorem Ie:isSubtype (.type "list") (.type "set")=pure false:=by rw [dF];kernel_rfl
theorem Ig:isSubtype (.type "list") (.type "frozenset")=pure false:=by rw [dF];kernel_rfl
theorem O0{h:jD}:Ev w (h.push (Br w)) h.objs.size [] (En w) :=
 ⟨_,#[],0,_,R_ _ rfl,⟨rfl,rfl,rfl⟩,rfl,rfl,(λ_ z=>nomatch z),rfl,TblOk.fresh _,⟨.inl rfl,rfl,(λ_ z=>nomatch z),(λ_ z=>nomatch z)⟩,(show 0 * 5 < 7 * 3 by decide)⟩
theorem X3{E:iV->iW->Prop}{s:iW}{id:String}{items:Array iV}{ks:List (iX×iY)}{Q:Unit->iW->Prop}(D:A.handled=none)(hu:A.units+20 < cLine)(f:s.heap.IsList t items)(F:items.toList=ks.map λx=>.ref x.2)(p:∀x∈ks,Cb s.heap x.1 x.2)(G:∀g:List iX,g.Nodup->(∀d∈g,d∈ks.map (·.1))->g.length < 4900)
  (j:Ev w s.heap sa [] led) (H:sa≠t)
  (h:∀c i a,(∀b o,b≠sa->s.heap.get? b=some o->c.get? b=some o)->Ev w c sa a led->(a.map (·.1)).Nodup->(∀d,d∈a.map (·.1)↔d∈ks.map (·.1))->(∀x∈a,x∈ks)->a.length<=items.size->Q () { s with heap:=c,toks:=i }) :
  wpAny (model prog w) A (Builtin.Frozenset.updateFrom id sa (.ref t)) Q E s:=by
 have T:s.TypeIs (.ref t) "list" := f.typeIs
 have M:=Ie
 have L:=Ig
 have N:(Value.type "list" == Value.type "dict")=false:=by decide
 unfold Builtin.Frozenset.updateFrom
 generalize C:pyIter=PI
 wp_walk
 subst C
 refine eD f (show wpAny _ _ _ _ _ _ from A_ (fW ?_))
 have q:t < s.heap.objs.size:=by obtain⟨o,e,_⟩:=f;exact N_ e
 have m:sa < s.heap.objs.size:=by obtain⟨o,_,_,_,e,_⟩:=j;exact N_ e
 have l:∀{d:iX} {b:iY},Cb s.heap d b->Cb (s.heap.push { cls:=.type "list_iterator",data:=.fields #[.ref t,.int 0 0] }) d b:=λ⟨k,y,r⟩=>⟨k,y,c_ (λb o e=>DD _ e) r⟩
 refine Lo (led:=led) (Ln (items:=items) (W_ q)) D hu (W_ m) H F G items.size 0 _ [] (by omega) ⟨⟨_,R_ _ rfl,rfl,rfl⟩,let⟨o,e,r⟩:=f;⟨o,DD _ e,r⟩⟩ (j.at (λo e=>DD _ e) λ_ _ v=>l v) (λx hx=>l (p x hx)) bJ (λd=>by simp) (λ_ z=>nomatch z) (XQ _) λc i a a1 a2 I J u B=>?_
 exact C_ (h c i a (λb o n e=>a1 b o n (W_ (N_ e)) (DD _ e)) a2 I J u B)
theorem U8{E:iV->iW->Prop}{s:iW}{id:String}{items:Array iV}{ks:List (iX×iY)}{Q:Unit->iW->Prop}(F:A.handled=none)(hu:A.units+20 < cLine)(f:s.heap.IsTuple t items)(G:items.toList=ks.map λx=>.ref x.2)(p:∀x∈ks,Cb s.heap x.1 x.2)(H:∀g:List iX,g.Nodup->(∀d∈g,d∈ks.map (·.1))->g.length < 4900)
  (j:Ev w s.heap sa [] led) (I:sa≠t)
  (h:∀c i a,(∀b o,b≠sa->s.heap.get? b=some o->c.get? b=some o)->Ev w c sa a led->(a.map (·.1)).Nodup->(∀d,d∈a.map (·.1)↔d∈ks.map (·.1))->(∀x∈a,x∈ks)->a.length<=items.size->Q () { s with heap:=c,toks:=i }) :
  wpAny (model prog w) A (Builtin.Frozenset.updateFrom id sa (.ref t)) Q E s:=by
 have T:s.TypeIs (.ref t) "tuple" := f.typeIs
 have N:=Hy
 have M:=Hz
 have O:(Value.type "tuple" == Value.type "dict")=false:=by decide
 unfold Builtin.Frozenset.updateFrom
 generalize D:pyIter=PI
 wp_walk
 subst D
 refine gX f (show wpAny _ _ _ _ _ _ from A_ (fW ?_))
 have q:t < s.heap.objs.size:=by obtain⟨o,e,_⟩:=f;exact N_ e
 have m:sa < s.heap.objs.size:=by obtain⟨o,_,_,_,e,_⟩:=j;exact N_ e
 have l:∀{u:jE} {d:iX} {b:iY},Cb s.heap d b->Cb (s.heap.push u) d b:=λ⟨k,B,r⟩=>⟨k,B,c_ (λb o e=>DD _ e) r⟩
 refine Lo (led:=led) (J0 (items:=items) (W_ q)) F hu (W_ m) I G H items.size 0 _ [] (by omega) ⟨⟨_,R_ _ rfl,rfl,rfl⟩,f.push _⟩ (j.at (λo e=>DD _ e) λ_ _ y=>l y) (λx hx=>l (p x hx)) bJ (λd=>by simp) (λ_ z=>nomatch z) (XQ _) λc i a a1 a2 J L v C=>?_
 exact C_ (h c i a (λb o n e=>a1 b o n (W_ (N_ e)) (DD _ e)) a2 J L v C)
theorem Cb.keeps{h h':jD}{d:iX}{b:iY}(x:Cb h d b)(hk:∀b o,h.get? b=some o->h'.get? b=some o):Cb h' d b:=let⟨k,a,r⟩:=x;⟨k,a,c_ hk r⟩
theorem Mu{α β:Type}{f:α->β}{l m:List β}(h:l.Perm m):∀c:List α,m=c.map f->∃d:List α,l=d.map f/\d.Perm c:=by
 induction h with
 | nil =>
  intro c e
  have:c=[]:=by simpa using e.symm
  subst this
  exact⟨[],rfl,.nil⟩
 | cons a h k =>
  intro c e
  cases c with
  | nil=>cases e
  | cons x c =>
   injection e with g e2
   obtain⟨d,rfl,p⟩:=k c e2
   exact⟨x :: d,by rw [g];rfl,p.cons x⟩
 | swap a b l =>
  intro c e
  match c,e with
  | x :: y :: c,e =>
   injection e with g e2
   injection e2 with e2 e3
   exact⟨y :: x :: c,by rw [g,e2,e3];rfl,.swap x y c⟩
 | trans h1 h2 j i =>
  intro c e
  obtain⟨d,g,n⟩:=i c e
  obtain⟨q,e2,o⟩:=j d g
  exact⟨q,e2,o.trans n⟩
theorem Ih{h:jD}:∀{a:List (iX×iY)},(∀x∈a,Cb h x.1 x.2)->∃b,ReadsAll h (a.map λx=>.ref x.2) (a.map (·.1)) b
 | [],_=>⟨_,.nil⟩
 | z :: a,hx=>by
  obtain⟨b,r⟩:=Ih λx hx'=>hx x (.tail _ hx')
  obtain⟨_,d,c⟩:=hx z (.head _)
  exact⟨_,.cons c r⟩
theorem O1{E:iV->iW->Prop}{s:iW}{a:iY}{xs:List (iX×iY)}{Q:iV->iW->Prop}(S:A.handled=none)(hu:A.units+100 < cLine)(P:Ev w s.heap a xs (En w))(g:∀d:List (iX×iY),d.Perm xs->SortOkW (d.map (·.1)))
  (h:∀(h':jD) (d':Drawn) (tk p c:Nat) (u:List (iX×iY)),(∀b o,s.heap.get? b=some o->h'.get? b=some o)->s.heap.objs.size<=p->h'.get? p=some (seqObj "list" (u.map λx=>Value.ref x.2).toArray c)->u.Perm xs->(u.map (·.1)).Pairwise (λa b=>E5 a b=true)->Q (.ref p) { s with heap:=h',drawn:=d',toks:=tk }) :
  wpAny (model prog w) A (call (.builtin "sorted") [.ref a]) Q E s:=by
 obtain⟨o,J,ep,t,N,Y,X,F,I,hf,O,hQ,Z⟩:=P
 have gc:J.size=xs.length:=by rw [<- XU,F,B_]
 have y:xs.length < 1000000:=by have:=(g xs (.refl _)).len;rwa [B_]at this
 refine Ib (Ia (show A.in1.handled=none from S) ⟨o,N,Y.1,X,hf⟩ O (by omega) λh1 C G ord D T hp=>?_)
 rw [F,XV]at hp
 obtain⟨d,rfl,k⟩:=Mu hp xs (f:=λx=>Value.ref x.2) rfl
 have ok:=g d k
 have n:d.length < 1000000:=by rw [k.length_eq];exact y
 have B:(d.map λx=>Value.ref x.2).length=(d.map (·.1)).length:=by rw [B_,B_]
 have r:∀x∈d,Cb h1 x.1 x.2:=λx hx=>(I x (k.mem_iff.mp hx)).keeps D
 refine⟨ON (d.map (·.1)),by rw [B_];exact n,by rw [B];exact ok.ord,λh2 h' v=>?_,λp h' l c z W V v e=>?_⟩
 ·obtain⟨bs,m⟩:=Ih (h:=h') λx hx=>(r x hx).keeps v
  exact Xm (s:={ s with heap:=h',drawn:=C,toks:=G }) ok m (by rw [<- B];exact h2) (by show A.units+1+1+64 < _;omega)
 ·have H:∀i∈p.toList,i < d.length:=λi j=>by
   have:=z.perm.mem_iff.mp j
   rw [B_]at this
   exact XZ.mp this
  have L:(p.toList.map λi=>(d.map λx=>Value.ref x.2).getD i Value.none)=(p.toList.map λi=>d.getD i (.none,0)).map λx=>Value.ref x.2:=by
   rw [XV]
   refine aX λi j=>?_
   have:=H i j
   simp [List.getD_eq_getElem?_getD,this]
  rw [L]at e
  have e2:(p.toList.map λi=>d.getD i (.none,0)).Perm d:=by
   have M:p.toList.Perm (List.range d.length):=by have:=z.perm;rwa [B_]at this
   have e2:=M.map λi=>d.getD i (PyData.none,0)
   rwa [Dt]at e2
  refine h h' C G l c _ (λb o q=>v b o (D b o q)) (G_ T V) e (e2.trans k) ?_
  have U:(p.toList.map λi=>d.getD i (PyData.none,0)).map (·.1)=p.toList.map λi=>(d.map (·.1)).getD i PyData.none:=by
   rw [XV]
   refine aX λi j=>?_
   have:=H i j
   simp [List.getD_eq_getElem?_getD,this]
  rw [U]
  exact Oj z W
end
section
variable {X:Cx}{aa:List (iY×jE)}{σ:St}{H:Hp}{s:iW}{k:Nat}
structure TOk(ds:List iX):Prop where
 len:ds.length < 300
 key:∀d∈ds,KeyTree d
 fst:∀d∈ds,∃i r,d=.tuple (.int i :: r)
 cmp:∀d∈ds,∀e∈ds,cmpb d e=true
def Few(ds:List iX):Prop:=∀a:List iX,a.Nodup->(∀d∈a,d∈ds)->a.length < 4900
structure TOkB(ds:List iX):Prop where
 len:Few ds
 key:∀d∈ds,KeyTree d
 fst:∀d∈ds,∃i r,d=.tuple (.int i :: r)
 cmp:∀d∈ds,∀e∈ds,cmpb d e=true
structure TOkW(ds:List iX):Prop where
 len:Few ds
 key:∀d∈ds,KeyTree d
 fst:(∀d∈ds,∃i r,d=.tuple (.int i :: r))\/∀d∈ds,∃i r,d=.tuple (.tuple i :: r)
 cmp:∀d∈ds,∀e∈ds,cmpb d e=true
theorem TOkB.w{ds:List iX}(h:TOkB ds):TOkW ds:=⟨h.len,h.key,.inl h.fst,h.cmp⟩
theorem TOkW.tup{ds:List iX}(h:TOkW ds):∀d∈ds,∃r,d=.tuple r:=λd a=>h.fst.elim (λz=>let⟨_,_,e⟩:=z d a;⟨_,e⟩) λz=>let⟨_,_,e⟩:=z d a;⟨_,e⟩
theorem X4{ds:List iX}(h:ds.length < 4900):Few ds:=λb hn a=>by have:=Df hn a;exact ZL this h
theorem TOk.b{ds:List iX}(h:TOk ds):TOkB ds:=⟨X4 (by have:=h.len;omega),h.key,h.fst,h.cmp⟩
theorem Mv:∀{ds:List iX},(∀d∈ds,KeyTree d)->PyData.canLayAll0 ds=true/\PyData.depthAll ds<=6/\Ao ds=true
 | [],_=>⟨rfl,XQ _,rfl⟩
 | d :: ds,h=>by
  obtain⟨a,b,c⟩:=Mv λe he=>h e (.tail _ he)
  have k:=h d (.head _)
  refine⟨?_,?_,?_⟩
  ·simp only [PyData.canLayAll0,k.lay,a];rfl
  ·simp only [PyData.depthAll];have:=k.dep;omega
  ·simp only [Ao,k.can,c];rfl
theorem TOkW.sort{ds es:List iX}(h:TOkW ds)(hs:∀d∈es,d∈ds)(hn:es.Nodup):SortOkW es:=by
 obtain⟨a,b,c⟩:=Mv λd f=>h.key d (hs d f)
 have:=h.len es hn hs
 exact⟨by omega,a,by omega,c,hn,λ_=>h.fst.imp (λz d f=>z d (hs d f)) λz d f=>z d (hs d f),λd f e he=>h.cmp d (hs d f) e (hs e he)⟩
theorem X5(I:Inv X aa σ H s):∀(ds:List iX) (f:List V) (c:List iV),Am X.K H ds f->Vals f c->(∀d∈ds,KeyTree d)->(∀d∈ds,∃r,d=.tuple r)->∃b:List (iX×iY),b.map (·.1)=ds/\c=b.map (λx=>.ref x.2)/\∀x∈b,Cb s.heap x.1 x.2/\Dk X.K H x.1 (.ref x.2)
 | [],f,c,h,r,_,_=>by
  have e:=h.nil
  subst e
  cases r
  exact⟨[],rfl,rfl,λ_ z=>nomatch z⟩
 | d :: ds,f,c,h,r,hk,hf=>by
  obtain⟨x,o,rfl,h1,h2⟩:=Am.cons (K:=X.K) (H:=H) h
  cases r with
  | @cons _ _ u n l p =>
   obtain⟨b,j,e2,i⟩:=X5 I ds o n h2 p (λd g=>hk d (.tail _ g)) (λd g=>hf d (.tail _ g))
   obtain⟨m,rfl⟩:=hf d (.head _)
   obtain⟨a,q,rfl,ha,g⟩:=Dk.tup (K:=X.K) (H:=H) h1
   cases l
   refine⟨(.tuple m,a) :: b,by rw [XY,j],by rw [XY,<- e2],λy hy=>?_⟩
   rcases XJ.mp hy with rfl | hy
   ·exact⟨⟨hk _ (.head _),Dk.reads I _ _ _ h1 rfl⟩,h1⟩
   ·exact i y hy
theorem X6{K:iZ}:∀{a:List (iX×iY)},(∀x∈a,Dk K H x.1 (.ref x.2))->Am K H (a.map (·.1)) (a.map λx=>.ref x.2)
 | [],_=>D1
 | z :: a,h=>Dp (h z (.head _)) (X6 λx hx=>h x (.tail _ hx))
theorem Sz:∀(a:List (iX×iY)),Vals (a.map λx=>V.ref x.2) (a.map λx=>Value.ref x.2)
 | []=>.nil
 | z :: a=>.cons rfl (Sz a)
def Mw(P:List iX->Prop)(te:AE):AE:=fun τ μ R=>te τ μ λx μ1=>opt (items μ1 x) λe=>opt (dats e) λc=>P c/\∀(es:List iX) (p:iY),es.Nodup->(∀d,d∈es↔d∈c)->es.Pairwise (λa b=>E5 a b=true)->μ1 p=none->R (.R p) (Al μ1 p (.lst (es.map .D)))
abbrev OP(te:AE):AE:=Mw TOk te
abbrev JG(te:AE):AE:=Mw TOkB te
theorem J1{P:List iX->Prop}{e:jB}{te:AE}{p J L M:Pos}(hP:∀n,P n->TOkW n)(U:Room k X.A)(hg:Gl X "sorted") (hm:X.mg "sorted" = none) (ii:Gl X "set") (dh:X.mg "set" = none) (he:VE X e te)
  (hs:starEach [.Call (.Name "set" J) [e] [] M] X.env=[(false,eval (.Call (.Name "set" J) [e] [] M) X.env)]:=by rfl) (Z:starEach [e] X.env=[(false,eval e X.env)]:=by rfl) :
  VE X (.Call (.Name "sorted" p) [.Call (.Name "set" J) [e] [] M] [] L) (Mw P te):=by
 intro aa s σ H Q I zz129
 refine Ca zz129 fun τ μ R bh hcn h hq=>?_
 refine aR (Ep I hg hm boot_sorted (dE ?_ hs rfl))
 rw [hs]
 refine ZS (aR (Ep I ii dh boot_set (aO ?_ Z rfl)))
 rw [Z]
 refine ZS (ZW (he.run I bh hcn h) (λu a ji=>MG ji λx v μ1 H1 I1 rv S1 c1 rx h1=>aC ?_) λ_ _ e=>e)
 obtain⟨f,ey,h1⟩:=A0 h1
 obtain⟨n,ed,ok,h1⟩:=A0 h1
 have ok:=hP _ ok
 obtain⟨T,S,rfl,hk,rs⟩:=Cw c1 rx ey
 cases rv
 have dk:=rs.dats ed
 have m:X.A.handled=none:=U.hd
 have hun:=U.un
 have l2:=dk.length
 have Y:=ok.len
 have E:∀(ks:List (iX×iY)),ks.map (·.1)=n->(∀x∈ks,Cb a.heap x.1 x.2/\Dk X.K H1 x.1 (.ref x.2))->∀(h1:jD) (tk:Nat) (xs:List (iX×iY)),(∀b o,a.heap.get? b=some o->h1.get? b=some o)->Ev X.w h1 a.heap.objs.size xs (En X.w)->(xs.map (·.1)).Nodup->(∀d,d∈xs.map (·.1)↔d∈ks.map (·.1))->(∀x∈xs,x∈ks) ->
   wpAny (model X.prog X.w) X.A (call (.builtin "sorted") [.ref a.heap.objs.size]) (EP X aa σ Q) X.xe { a with heap:=h1,toks:=tk }:=λks i du h2 tk xs z y j M2 D=>by
  rw [i]at M2
  refine O1 (s:={ a with heap:=h2,toks:=tk }) m (by omega) y (λf O=>ok.sort (λd m=>(M2 d).mp ((O.map (·.1)).mem_iff.mp m)) ((O.map (·.1)).nodup_iff.mpr j)) λh3 d3 t3 q c t k2 hp g C iu=>?_
  have lS:a.heap.objs.size < h2.objs.size:=by obtain⟨o,_,_,_,e,_⟩:=y;exact N_ e
  have W:a.heap.objs.size<=q:=G_ (YM lS) hp
  have mz:t.length < 1000000:=by
   have:=(ok.sort (es:=t.map (·.1)) (λd m=>(M2 d).mp ((C.map (·.1)).mem_iff.mp m)) ((C.map (·.1)).nodup_iff.mpr j)).len
   rwa [B_]at this
  have hz:(t.map λx=>V.ref x.2).length<=sizeLine:=by rw [B_];exact G_ (YM mz) (by decide)
  have hn:=I1.hok.fresh W
  refine⟨.ref q,_,(Inv.drw I1 d3).laid (t':=t3) (λb o e=>k2 b o (z b o e)) W (show Bs X.prog X.w _ h3 _ (.lst (t.map λx=>V.ref x.2)) from⟨hz,_,c,Sz t,g⟩),rfl,?_⟩
  refine hq _ _ _ _ (S1.trans (Kp.new hn _)) (c1.new hn (Cv ?_)) Dq (h1 (t.map (·.1)) q ((C.map (·.1)).nodup_iff.mpr j) (λd=>((C.map (·.1)).mem_iff).trans (M2 d)) iu (c1.none hn))
  exact(X6 λx hx=>(du x (D x (C.mem_iff.mp hx))).2).rel
 refine Jp (s:=a) ?_
 rcases hk with⟨_,hk⟩ | ⟨_,hk⟩
 ·obtain⟨F,G,B,hz⟩:=I1.list hk
  obtain⟨ks,i,e2,g⟩:=X5 I1 n S F dk G ok.key ok.tup
  have N:T < a.heap.objs.size:=by obtain⟨o,e,_⟩:=B.isList;exact N_ e
  have l:∀f:List iX,f.Nodup->(∀d∈f,d∈ks.map (·.1))->f.length < 4900:=by rw [i];exact Y
  refine X3 (s:={ a with heap:=a.heap.push (Br X.w) }) (show X.A.in1.in1.handled=none from m) (show X.A.units+1+1+20 < cLine by omega) (let⟨o,e,r⟩:=B.isList;⟨o,DD _ e,r⟩) (ks:=ks) (by simpa using e2) (λx hx=>(g x hx).1.keeps λb o e=>DD _ e) l O0 (bH (W_ N)) λh2 tk xs z y j M2 D L2=>aC ?_
  exact E ks i g h2 tk xs (λb o e=>z b o (W_ (N_ e)) (DD _ e)) y j M2 D
 ·obtain⟨F,G,B,hz⟩:=I1.tuple hk
  obtain⟨ks,i,e2,g⟩:=X5 I1 n S F dk G ok.key ok.tup
  have N:T < a.heap.objs.size:=by obtain⟨o,e,_⟩:=B;exact N_ e
  have l:∀f:List iX,f.Nodup->(∀d∈f,d∈ks.map (·.1))->f.length < 4900:=by rw [i];exact Y
  refine U8 (s:={ a with heap:=a.heap.push (Br X.w) }) (show X.A.in1.in1.handled=none from m) (show X.A.units+1+1+20 < cLine by omega) (Heap.IsTuple.push B _) (ks:=ks) (by simpa using e2) (λx hx=>(g x hx).1.keeps λb o e=>DD _ e) l O0 (bH (W_ N)) λh2 tk xs z y j M2 D L2=>aC ?_
  exact E ks i g h2 tk xs (λb o e=>z b o (W_ (N_ e)) (DD _ e)) y j M2 D
theorem CQ{e:jB}{te:AE}{p c d a:Pos}(f:Room k X.A)(g:Gl X "sorted") (l:X.mg "sorted" = none) (j:Gl X "set") (i:X.mg "set" = none) (he:VE X e te)
  (hs:starEach [.Call (.Name "set" c) [e] [] a] X.env=[(false,eval (.Call (.Name "set" c) [e] [] a) X.env)]:=by rfl) (m:starEach [e] X.env=[(false,eval e X.env)]:=by rfl) :
  VE X (.Call (.Name "sorted" p) [.Call (.Name "set" c) [e] [] a] [] d) (OP te):=J1 (λ_ h=>h.b.w) f g l j i he hs m
theorem O2{e:jB}{te:AE}{p b c a:Pos}(d:Room k X.A)(f:Gl X "sorted") (j:X.mg "sorted" = none) (i:Gl X "set") (g:X.mg "set" = none) (he:VE X e te)
  (hs:starEach [.Call (.Name "set" b) [e] [] a] X.env=[(false,eval (.Call (.Name "set" b) [e] [] a) X.env)]:=by rfl) (l:starEach [e] X.env=[(false,eval e X.env)]:=by rfl) :
  VE X (.Call (.Name "sorted" p) [.Call (.Name "set" b) [e] [] a] [] c) (JG te):=J1 (λ_ h=>h.w) d f j i g he hs l
end
section
variable {prog:i_}{w:jA}{Kt:Type} [DecidableEq Kt]{knd:KeyKind prog w Kt}{A:jC}{R:jK->iW->Prop}{sa it t:iY}{led:Bool}
theorem Lp{St:Nat->jD->Prop}{items:Array iV}(S:StepIt prog w it t items St)(Z:A.handled=none)(I:sa≠it)(bh:sa≠t){ks:List Kt}(T:ItemsAre knd ks items.toList)(X:∀v∈items.toList,v.scannable=true)(hsz:items.size < 1000) :
  ∀(m i:Nat) (s:iW) (l:List (Int×iV)) (g:List Kt),m+i=items.size->St i s.heap->Dv knd s.heap sa l led->Unlike knd l->Keys knd l g->l.length<=i->(∀k,k∈g↔k∈ks.take i) ->
   (∀d n c,(∀b o,b≠sa->b≠it->s.heap.get? b=some o->d.get? b=some o)->Dv knd d sa c led->Unlike knd c->Keys knd c ks->c.length<=items.size->R (.ok (.ret .none)) { s with heap:=d,toks:=n }) ->
   codeAny (model prog w) A (.builtin "set.update.loop" ⟨[.ref sa,.ref it],[]⟩) R s:=by
 intro m
 induction m with
 | zero =>
  intro i s l g hm M E p j U u q
  refine cB Gx ?_
  rw [bF De _]
  refine(show wpAny _ A.in1 (pyNext (.ref it) >>= _) _ _ s from A_ (S.fin (show A.in1.handled=none from Z) M (by rw [aT (by omega)]) λd hx=>?_))
  refine C_ (q d s.toks l (λb o h1 h2 e=>hx b o h2 e) ?_ p ?_ (by omega))
  ·obtain⟨o,z,L,y,e,r⟩:=E
   exact⟨o,z,L,y,hx sa o I e,r⟩
  ·intro k
   rw [j k,u k,cD]
   have:=T.length
   simp at this;omega
 | succ m Q =>
  intro i s l g hm M E p j U u q
  have hi:i < items.size:=by omega
  have hx:items[i]?=some items[i]:=XW hi
  obtain⟨k,ek,hk⟩:=Op (i:=i) (x:=items[i]) T (by rw [V_];exact hx)
  have G:=X items[i] (by simp)
  have O:∀a,a∈ks.take (i+1)↔a∈ks.take i\/a=k:=λa=>by
   rw [YC,ek,O_];simp
  refine cB Gx ?_
  rw [bF De _]
  refine(show wpAny _ A.in1 (pyNext (.ref it) >>= _) _ _ s from A_ (S.item M hx λh1 V H=>?_))
  have P:Dv knd h1 sa l led:=by
   obtain⟨o,z,L,y,e,r⟩:=E
   exact⟨o,z,L,y,(H.2 sa I).trans e,r⟩
  refine(show wpAny _ A.in1 (holding [items[i]] (setAdd sa items[i]) >>= _) _ _ _ from A_ (ZF ?_))
  unfold setAdd
  refine ZF (A_ (knd.pyHash hk ?_))
  refine CB hk G (s:={ s with heap:=h1,toks:=s.toks+1 }) P (by have:scanBound=4096:=rfl;omega) (λdj=>?_) (λY h2 c W C hp=>?_)
  ·refine C_ ⟨cZ De _,Q (i+1) _ l g (by omega) V P p j (YX U) (λa=>?_) λd n c B a1 a2 J N=>?_⟩
   ·rw [O a,<- u a]
    refine⟨.inl,λh=>h.elim id λe=>?_⟩
    rw [e];exact(j k).mp dj
   ·exact q d n c (λb o b1 b2 e=>B b o b1 b2 ((H.2 b b2).trans e)) a1 a2 J N
  ·have ae:c.length=l.length+1:=by rw [hp.length_eq,I_];rfl
   refine C_ ⟨cZ De _,Q (i+1) _ c (g++[k]) (by omega) (S.keep I.symm bh.symm V W) C ((p.add hk Y).perm hp) (λa=>?_) (by omega) (λa=>?_) λd n F B a1 a2 J N=>?_⟩
   ·rw [O_,<- j a]
    constructor
    ·rintro⟨e,he,f⟩
     rcases O_.mp (hp.mem_iff.mp he) with he | he
     ·exact .inl ⟨e,he,f⟩
     ·have D:e=(knd.hash k,items[i]):=by simpa using he
      subst D
      exact .inr (P_.mpr (knd.inj _ a k f hk))
    ·rintro(⟨e,he,f⟩ | he)
     ·exact⟨e,hp.mem_iff.mpr (ZP _ he),f⟩
     ·have D:a=k:=by simpa using he
      subst D
      exact⟨(knd.hash a,items[i]),hp.mem_iff.mpr (YK _ (P_.mpr rfl)),hk⟩
   ·rw [O a,<- u a,O_,P_]
   ·exact q d n F (λb o b1 b2 e=>B b o b1 b2 ((W.2 b b1).trans ((H.2 b b2).trans e))) a1 a2 J N
variable {E:iV->iW->Prop}{s:iW}
theorem Q7{id:String}{items:Array iV}{ks:List Kt}{Q:Unit->iW->Prop}(x:A.handled=none)(d:s.heap.IsTuple t items)(y:ItemsAre knd ks items.toList)(l:∀v∈items.toList,v.scannable=true)(hsz:items.size < 1000)
  (g:Dv knd s.heap sa [] led) (z:sa≠t)
  (h:∀c f a,(∀b o,b≠sa->s.heap.get? b=some o->c.get? b=some o)->Dv knd c sa a led->Unlike knd a->Keys knd a ks->a.length<=items.size->Q () { s with heap:=c,toks:=f }) :
  wpAny (model prog w) A (Builtin.Frozenset.updateFrom id sa (.ref t)) Q E s:=by
 have T:s.TypeIs (.ref t) "tuple" := d.typeIs
 have G:=Hy
 have F:=Hz
 have H:(Value.type "tuple" == Value.type "dict")=false:=by decide
 unfold Builtin.Frozenset.updateFrom
 generalize u:pyIter=PI
 wp_walk
 subst u
 refine gX d (show wpAny _ _ _ _ _ _ from A_ (fW ?_))
 have p:t < s.heap.objs.size:=by obtain⟨o,e,_⟩:=d;exact N_ e
 have j:sa < s.heap.objs.size:=by obtain⟨o,_,_,_,e,_⟩:=g;exact N_ e
 refine Lp (led:=led) (J0 (items:=items) (W_ p)) x (W_ j) z y l hsz items.size 0 _ [] [] (by omega) ⟨⟨_,R_ _ rfl,rfl,rfl⟩,d.push _⟩ ?_ List.Pairwise.nil Lh (XQ _) (λk=>by simp) λc f a a1 a2 B D q=>?_
 ·obtain⟨o,m,C,i,e,r⟩:=g
  exact⟨o,m,C,i,DD _ e,r⟩
 ·exact C_ (h c f a (λb o n e=>a1 b o n (W_ (N_ e)) (DD _ e)) a2 B D q)
theorem U9{id:String}{items:Array iV}{ks:List Kt}{Q:Unit->iW->Prop}(x:A.handled=none)(d:s.heap.IsList t items)(y:ItemsAre knd ks items.toList)(l:∀v∈items.toList,v.scannable=true)(hsz:items.size < 1000)
  (g:Dv knd s.heap sa [] led) (z:sa≠t)
  (h:∀c f a,(∀b o,b≠sa->s.heap.get? b=some o->c.get? b=some o)->Dv knd c sa a led->Unlike knd a->Keys knd a ks->a.length<=items.size->Q () { s with heap:=c,toks:=f }) :
  wpAny (model prog w) A (Builtin.Frozenset.updateFrom id sa (.ref t)) Q E s:=by
 have T:s.TypeIs (.ref t) "list" := d.typeIs
 have G:=Ie
 have F:=Ig
 have H:(Value.type "list" == Value.type "dict")=false:=by decide
 unfold Builtin.Frozenset.updateFrom
 generalize u:pyIter=PI
 wp_walk
 subst u
 refine eD d (show wpAny _ _ _ _ _ _ from A_ (fW ?_))
 have p:t < s.heap.objs.size:=by obtain⟨o,e,_⟩:=d;exact N_ e
 have j:sa < s.heap.objs.size:=by obtain⟨o,_,_,_,e,_⟩:=g;exact N_ e
 refine Lp (led:=led) (Ln (items:=items) (W_ p)) x (W_ j) z y l hsz items.size 0 _ [] [] (by omega) ⟨⟨_,R_ _ rfl,rfl,rfl⟩,let⟨o,e,r⟩:=d;⟨o,DD _ e,r⟩⟩ ?_ List.Pairwise.nil Lh (XQ _) (λk=>by simp) λc f a a1 a2 B D q=>?_
 ·obtain⟨o,m,C,i,e,r⟩:=g
  exact⟨o,m,C,i,DD _ e,r⟩
 ·exact C_ (h c f a (λb o n e=>a1 b o n (W_ (N_ e)) (DD _ e)) a2 B D q)
end
theorem Ii{K:iZ}{H:Hp}:∀{ns:List Int} {a:List V},Au K H (ns.map λn=>AV.D (.int n)) a->a=ns.map V.int
 | [],_,h=>by cases h;rfl
 | n :: ns,_,h=>by
  cases h with
  | cons b c =>
   cases RelA.int b
   rw [Ii c];rfl
def OQ(te:AE):AE:=fun τ μ R=>te τ μ λx μ1=>opt (items μ1 x) λc=>∃b:List Int,c=(b.map λn=>AV.D (.int n))/\b.length < 60/\∀(l:iY) (a:List Int),μ1 l=none->a.Pairwise (· < ·)->(∀n,n∈a↔n∈b)->R (.R l) (Al μ1 l (.lst (a.map λn=>.D (.int n))))
section
variable {X:Cx}{k:Nat}
theorem CS{e:jB}{te:AE}{p z B D:Pos}(S:Room k X.A)(U:Gl X "sorted") (hm:X.mg "sorted" = none) (Z:Gl X "set") (dh:X.mg "set" = none) (he:VE X e te)
  (hs:starEach [.Call (.Name "set" z) [e] [] D] X.env=[(false,eval (.Call (.Name "set" z) [e] [] D) X.env)]:=by rfl) (O:starEach [e] X.env=[(false,eval e X.env)]:=by rfl) :
  VE X (.Call (.Name "sorted" p) [.Call (.Name "set" z) [e] [] D] [] B) (OQ te):=by
 intro aa s σ H Q I zz129
 refine Ca zz129 fun τ μ R bh hcn h hq=>?_
 refine aR (Ep I U hm boot_sorted (dE ?_ hs rfl))
 rw [hs]
 refine ZS (aR (Ep I Z dh boot_set (aO ?_ O rfl)))
 rw [O]
 refine ZS (ZW (he.run I bh hcn h) (λu a ji=>MG ji λx v μ1 H1 I1 rv S1 c1 rx h1=>aC ?_) λ_ _ e=>e)
 obtain⟨us,Y,h1⟩:=A0 h1
 obtain⟨ns,rfl,hl,h1⟩:=h1
 obtain⟨N,ws,rfl,hk,rs⟩:=Cw c1 rx Y
 cases rv
 have ew:=Ii rs
 subst ew
 have L:X.A.handled=none:=S.hd
 have j:∀(h2:jD) (tk:Nat) (l:List (Int×iV)),(∀b o,a.heap.get? b=some o->h2.get? b=some o)->Dv (Aw X.prog X.w) h2 a.heap.objs.size l (En X.w)->Unlike (Aw X.prog X.w) l->Keys (Aw X.prog X.w) l (ns.map Sum.inl)->l.length < 64 ->
   wpAny (model X.prog X.w) X.A (call (.builtin "sorted") [.ref a.heap.objs.size]) (EP X aa σ Q) X.xe { a with heap:=h2,toks:=tk }:=λh2 tk l f d n t L2=>by
  refine Q0 (s:={ a with heap:=h2,toks:=tk }) L d n t L2 λh3 W t3 q c y k2 hp e3 hi lj fz g=>?_
  have T:a.heap.objs.size < h2.objs.size:=by obtain⟨o,_,_,_,e,_⟩:=d;exact N_ e
  have M:a.heap.objs.size<=q:=G_ (YM T) hp
  have hz:((y.map B5).map V.int).length<=sizeLine:=by simp;exact G_ (YM g) (by decide)
  have hn:=I1.hok.fresh M
  refine⟨.ref q,_,(Inv.drw I1 W).laid (t':=t3) (λb o e=>k2 b o (f b o e)) M (show Bs X.prog X.w _ h3 _ (.lst ((y.map B5).map V.int)) from⟨hz,y,c,Ou hi,e3⟩),rfl,?_⟩
  exact hq _ _ _ _ (S1.trans (Kp.new hn _)) (c1.new hn (Cv (Ss _))) Dq (h1 q (y.map B5) (c1.none hn) lj fz)
 refine Jp (s:=a) ?_
 rcases hk with⟨_,hk⟩ | ⟨_,hk⟩
 ·obtain⟨C,i,m,hz⟩:=I1.list hk
  obtain⟨E,F⟩:=Hh (P:=X.prog) (w:=X.w) i
  have g:=i.length
  have J:C.toArray.size < 60:=by simp at g ⊢;omega
  have G:N < a.heap.objs.size:=by obtain⟨o,e,_⟩:=m.isList;exact N_ e
  refine U9 (s:={ a with heap:=a.heap.push (Br X.w) }) (show X.A.in1.in1.handled=none from L) (let⟨o,e,r⟩:=m.isList;⟨o,DD _ e,r⟩) (by simpa using E) (by simpa using F) (by omega) Jq (bH (W_ G)) λh2 tk l f d n t L2=>aC ?_
  exact j h2 tk l (λb o e=>f b o (W_ (N_ e)) (DD _ e)) d n t (by omega)
 ·obtain⟨C,i,m,hz⟩:=I1.tuple hk
  obtain⟨E,F⟩:=Hh (P:=X.prog) (w:=X.w) i
  have g:=i.length
  have J:C.toArray.size < 60:=by simp at g ⊢;omega
  have G:N < a.heap.objs.size:=by obtain⟨o,e,_⟩:=m;exact N_ e
  refine Q7 (s:={ a with heap:=a.heap.push (Br X.w) }) (show X.A.in1.in1.handled=none from L) (Heap.IsTuple.push m _) (by simpa using E) (by simpa using F) (by omega) Jq (bH (W_ G)) λh2 tk l f d n t L2=>aC ?_
  exact j h2 tk l (λb o e=>f b o (W_ (N_ e)) (DD _ e)) d n t (by omega)
end
end L2
namespace L2
open PySem PySem.Spec PySem.Calls PyProof.Rows
def FN:AC:=λa μ R=>match a with
 | [x]=>opt (see μ x) λd=>OkD d/\R (.D (.str d.shown)) μ
 | _=>False
section
variable {X:Cx}{k:Nat}
theorem X7(j:Room k X.A):VCall X (.builtin "repr") FN:=by
 intro q s σ H xs us Q I r zz114
 refine Ca zz114 λy μ R ra hc h hq=>?_
 unfold FN at h
 split at h
 ·cases ra with
  | cons p x =>
   cases x
   obtain⟨u,rfl,m⟩:=Fr r
   obtain⟨d,w,ok,h⟩:=A0 h
   obtain⟨B,n⟩:=Ej I hc p m w
   have c:d.shown.length<=sizeLine:=G_ (PyProof.Rows.shown_le13 ok.lay ok.sh) (by decide)
   have hn:d.hasDict=false:=PyData.hasDict_of_layable ok.lay
   have hu:=j.un
   have v:=ok.depth
   have a:∀(h':jD) (t:Tok) (tk:Nat),(∀b o,s.heap.get? b=some o->h'.get? b=some o)->EP X q σ Q (.str d.shown t) { s with heap:=h',toks:=tk }:=λh' t tk hk =>
    ⟨.str d.shown,H,I.kept hk,⟨_,rfl⟩,hq _ _ _ _ Kp.refl hc Hc h⟩
   cases n with
   | none=>exact P.repr_of_none (by simpa only [PyData.shown] using a s.heap s.toks (s.toks+1) λ_ _ e=>e)
   | bool b=>exact P.repr_of_bool (by simpa only [PyData.shown] using a s.heap s.toks (s.toks+1) λ_ _ e=>e)
   | int i t =>
    have l:decide (i.natAbs.log2 < 1920)=true:=by simpa only [PyData.showable] using ok.sw
    exact P.repr_of_int (YD l) (by simpa only [PyData.shown] using a s.heap s.toks (s.toks+1) λ_ _ e=>e)
   | str z t=>exact P.repr_of_str (by simpa only [PyData.shown] using a s.heap s.toks (s.toks+1) λ_ _ e=>e) (by simpa only [PyData.shown] using c)
   | list h1 h2 g f=>exact repr_of_reads' (.list h1 h2 g f) ok.sw (PyData.noDict_hsm hn) j.gd (by omega) (λ_ _ e=>e) (λh' u tk hk=>a h' u tk hk) c
   | tuple h1 h2 g f=>exact repr_of_reads' (.tuple h1 h2 g f) ok.sw (PyData.noDict_hsm hn) j.gd (by omega) (λ_ _ e=>e) (λh' u tk hk=>a h' u tk hk) c
   | dict h1 h2 g f C=>simp [PyData.hasDict]at hn
 ·exact h.elim
def UE:A2:=λx y μ R=>match x,y with
 | .D (.str i),.D (.str j)=>R (.D (.bool (!decide (i=j)))) μ
 | _,_=>False
theorem OR:VOp X (compareOp .NotEq) UE:=by
 intro c s σ H x y v u Q I rx ry zq
 refine Ee zq λa b μ R ra rb hc h hq=>?_
 cases a with
 | D d =>
  cases d with
  | str i =>
   cases b with
   | D e =>
    cases e with
    | str j =>
     cases RelA.str ra
     cases RelA.str rb
     obtain⟨t,rfl⟩:=rx
     obtain⟨f,rfl⟩:=ry
     exact ne_str (V5 I (hq _ _ _ _ Kp.refl hc Je h) (by rw [fA];simp))
    | _=>exact False.elim h
   | _=>exact False.elim h
  | _=>exact False.elim h
 | _=>exact False.elim h
def UF(xs:List AV)(n:Nat):List AV:=(List.replicate n xs).flatten
def VM:A2:=λx y μ R=>match x,y with
 | .R a,.D (.int n)=>opt (μ a) λm=>match m with
  | .lst b=>(0<=n/\n<=1000/\b.length<=1000)/\∀p,μ p=none->R (.R p) (Al μ p (.lst (UF b n.toNat)))
  | _=>False
 | _,_=>False
def Gd:List AV->Option (List Int)
 | []=>some []
 | .D (.int i) :: a=>(Gd a).map (i :: ·)
 | _=>none
theorem J2{K:iZ}{H:Hp}:∀{xs:List AV} {ns:List Int} {vs:List V},Gd xs=some ns->Au K H xs vs->vs=ns.map V.int
 | [],_,_,e,.nil=>by cases e;rfl
 | x :: xs,ns,_,e,.cons b a=>by
  cases x with
  | D d =>
   cases d with
   | int i =>
    obtain⟨f,c,rfl⟩:=K_.mp (show(Gd xs).map (i :: ·)=some ns from e)
    rw [J2 c a,RelA.int b];rfl
   | _=>cases e
  | _=>cases e
end
end L2
namespace L2
open PySem PySem.Spec PySem.Calls PyProof.Rows PySem.W
end L2
namespace L2
open PySem PySem.Spec PySem.Calls PyProof.Rows
end L2
namespace L2
open PySem PySem.Spec PySem.Calls PyProof.Rows PySem.W
end L2
namespace L2
open PySem
end L2
namespace L2
open PySem PySem.Spec PySem.Calls PyProof.Rows
def JH:Key->iX
 | .inl i=>.int i
 | .inr z=>.str z
theorem OS{K:iZ}{H:Hp}(k:Key):Dk K H (JH k) (kV k):=by
 cases k with
 | inl i=>exact C4
 | inr z=>exact Qe
section
variable {X:Cx}{k:Nat}
def OT(g:AGs)(t:AA):AS:=λk _ _ _ τ μ=>t τ μ λa μ1=>g a τ μ1 k
theorem CT{ts es:List jB}{t:AA}{g:AGs}{a d:Nat}{c e b:Pos}(l:X.calm=true)(ha:VA X es t)(f:VGs X ts g)(hn:es.length<=sizeLine:=by decide)
  (n:(assignEach ts X.env).length=es.length:=by rfl) (i:(assignEach ts X.env).findIdx? (·.1)=none:=by rfl)
  (hs:swapsWithSole [.Tuple ts a c] (.Tuple es d e) b.line X.env=pure false:=by rfl) (o:swappedStores [.Tuple ts a c] (.Tuple es d e) X.env=pure none:=by rfl)
  (h1:(assignEach [.Tuple ts a c] X.env).map (·.2)=[assign (.Tuple ts a c) X.env]:=by rfl) :
  VS X (.Assign [.Tuple ts a c] (.Tuple es d e) b) (OT g t) :=
 (V0 (V6 ha) (Ps l f n i) hs o h1).imp λD σ H zz=>G7 zz fun τ μ j nr nb nc hs hc h hq =>
  ⟨τ,μ,_,hs,hc,h,λm μ1 q H1 S1 c1 rs fj hx=>⟨by rw [<- rs.length,fj];exact hn,λp hp =>
   ⟨p,q,rfl,Kf.of B2,by rw [<- rs.length,fj],m,τ,μ1,j,Au.kp (Kp.new hp _) rs,hs.kp (S1.trans (Kp.new hp _)),c1.over hp,hx,hq.nx.kp (S1.trans (Kp.new hp _))⟩⟩⟩
abbrev UG:A2:=IF λi j=>.int (Builtin.bitOr i j)
abbrev OU:A2:=IF λi j=>.int (Builtin.bitAnd i j)
abbrev UH:A2:=aI CPow λi j=>.int (i * 2 ^ j.toNat)
abbrev UI:A2:=aI (λ_ j=>0<=j) λi j=>.int (i / 2 ^ j.toNat)
theorem FO:VOp X (binaryOp .BitOr) UG:=Ul MT λ_ _ _=>C4
theorem X8:VOp X (binaryOp .BitAnd) OU:=Ul HF λ_ _ _=>C4
theorem OV:VOp X (binaryOp .LShift) UH:=NR HD λ_ _ _=>C4
theorem OW:VOp X (binaryOp .RShift) UI:=NR HE λ_ _ _=>C4
theorem CU:HL X "int.bit_length" (λx a H Q=>∃i:Int,x=.int i/\a=[]/\Q (.int (Builtin.Int.intBits i:Nat)) H):=by
 intro c s σ H x xs v us Q I rx r h
 obtain⟨i,rfl,rfl,q⟩:=h
 obtain⟨t,rfl⟩:=rx
 cases r
 exact call_int_bit_length ⟨.int _,H,I.kept (t':=s.toks+1) (λb o e=>e),⟨_,rfl⟩,q⟩
def FP:AV->AC:=λx a μ R=>match x,a with
 | .D (.int i),[]=>R (.D (.int (Builtin.Int.intBits i:Nat))) μ
 | _,_=>False
theorem JI:VMt X "int.bit_length" FP:=by
 intro b s σ H x xs v us Q I rx r zz
 refine Ee zz λa c μ R ra rs hc h hq=>?_
 unfold FP at h
 split at h
 ·cases RelA.int ra
  cases rs
  exact CU b s σ H _ _ v us Q I rx r ⟨_,rfl,rfl,hq _ _ _ _ Kp.refl hc C5 h⟩
 ·exact h.elim
def isInt:AV->Prop
 | .D (.int _)=>True
 | _=>False
def UJ(m:AV->AC)(a:AE):AE:=fun τ μ R=>a τ μ λx μ1=>isInt x/\m x [] μ1 R
theorem JJ{name:Str}{a:String}{o:jB}{c:AE}{m:AV->AC}{e d:Pos}(slot:Slot "int" name a) (j:typeOf (.builtin a)=pure (.type "method_descriptor")) (g:VMt X a m) (i:VE X o c)
  (n:attributeBase o name X.env (eval o X.env)=eval o X.env:=by rfl) (l:(e.endLine==d.line)=true:=by rfl):VE X (.Call (.Attribute o name e) [] [] d) (UJ m c) :=
 (Qa PySem.F.plainAttrs_int slot j g i n l).imp fun σ H Q zz=>Ca zz fun τ μ R f hc h hq=>⟨τ,μ,_,f,hc,h,λx μ1 v H1 S1 p b hx=>⟨by
   obtain⟨hx,_⟩:=hx
   unfold isInt at hx
   split at hx
   ·cases RelA.int b
    exact rfl
   ·exact hx.elim,x,[],μ1,R,b,.nil,p,hx.2,hq.kp S1⟩⟩
def X9:AV->AC:=λx b μ R=>match x,b with
 | .R a,[]=>opt (μ a) λm=>match m with
  | .lst _=>R (.D .none) (Al μ a (.lst []))
  | _=>False
 | _,_=>False
theorem CV:VMt X "list.clear" X9:=by
 intro d s σ H x xs v us Q I rx r zz
 refine Ee zz λa f μ R ra rs hc h hq=>?_
 unfold X9 at h
 split at h
 ·rename_i a
  obtain⟨m,e,h⟩:=A0 h
  split at h
  ·cases rs
   obtain⟨o,b,c,rfl,g⟩:=hc _ _ e
   cases (show x=.ref a from ra)
   exact Wb d s σ H _ _ v us Q I rx r ⟨a,c,rfl,rfl,b,hq _ _ _ _ (Kp.put b trivial _) (hc.put b trivial (Cv .nil)) Jf h⟩
  ·exact h.elim
 ·exact h.elim
theorem Ij(f:Nat->Int):∀n,argBest (λi j=>decide (f i > f j)) n<=n/\∀i,i<=n->f i<=f (argBest (λi j=>decide (f i > f j)) n)
 | 0=>⟨E_ _,λi a=>by rw [Nat.le_zero.mp a];exact iT _⟩
 | n+1=>by
  obtain⟨h1,h2⟩:=Ij f n
  rw [argBest]
  by_cases c:f (n+1) > f (argBest (λi j=>decide (f i > f j)) n)
  ·rw [Q_ (YL c)]
   refine⟨E_ _,λi a=>?_⟩
   rcases Y_ n i with h | h
   ·rw [show i=n+1 by omega];exact iT _
   ·have:=h2 i h;omega
  ·rw [J_ (by rw [aE];exact c)]
   refine⟨by omega,λi a=>?_⟩
   rcases Y_ n i with h | h
   ·rw [show i=n+1 by omega];omega
   ·exact h2 i h
theorem Va(hc:X.calm=true):Ex X (.builtin "max") (λl H Q=>∃(p:iY) (ns:List Int),l=[.ref p]/\E8 X.K H p (ns.map V.int)/\0 < ns.length/\∀m,m∈ns->(∀n∈ns,n<=m)->Q (.int m) H):=by
 intro M s σ H l us Q I r h
 obtain⟨p,ns,rfl,hq,hn,q⟩:=h
 obtain⟨u,rfl,E⟩:=Fr r
 cases E
 obtain⟨a,y,f,hz⟩:=I.list hq
 have d:=y.length
 rw [B_]at d
 refine call_max_walk (eD f.isList ?_)
 have G:p≠s.heap.objs.size:=W_ (let⟨_,g,_⟩:=f.isList;N_ g)
 have w:∀(i:Nat) (v:iV),a.toArray[i]?=some v->∃n t,ns[i]?=some n/\v=.int n t:=λi v e=>by
  have e:a[i]?=some v:=by simpa using e
  have z:i < ns.length:=by rw [d];exact(F_.mp e).1
  obtain⟨u,hu,t,C⟩:=y.get (i:=i) (x:=.int ns[i]) (by rw [H_,M_ z];rfl)
  rw [e]at hu
  cases hu
  exact⟨ns[i],t,M_ z,C⟩
 refine⟨_,_,_,_,_,_,_,rfl,Walks.list (show X.A.in1.handled=none from I.ok.hd hc) s.heap.objs.size p G a.toArray,⟨⟨_,R_ _ rfl,rfl,rfl⟩,f.isList.at λo e=>DD _ e⟩,λb hb=>?_,by rw [XS,<- d];exact hn,
  CmpOf.ints_gt (λi=>ns.getD i 0) (λi v e=>by obtain⟨n,t,c,e2⟩:=w i v e;exact⟨t,by rw [e2,YR,c];rfl⟩),λv L J D B=>?_⟩
 ·rw [a_]
  rcases XJ.mp hb with rfl | hb
  ·exact aJ _
  ·have:b=p:=by simpa using hb
   subst this
   exact aP (let⟨_,g,_⟩:=f.isList;N_ g)
 ·obtain⟨n,t,c,rfl⟩:=w _ v D
  refine⟨.int n,H,I.kept (t':=J) (λb o e=>B b o (λhb=>?_) (DD _ e)),⟨t,rfl⟩,q n (XO c) λm F=>?_⟩
  ·have:b=s.heap.objs.size:=by simpa using hb
   rw [this]at e
   exact absurd (N_ e) (aS _)
  ·obtain⟨j,hj,rfl⟩:=dD F
   have h2:=(Ij (λi=>ns.getD i 0) (a.toArray.size - 1)).2 j (by rw [XS,<- d];omega)
   have h2:ns.getD j 0<=ns.getD (argBest (λi j=>decide (ns.getD i 0 > ns.getD j 0)) (a.toArray.size - 1)) 0:=h2
   rw [YR,M_ hj]at h2
   refine Int.le_trans h2 ?_
   rw [YR,c]
   exact iT _
def FQ:AC:=λd μ R=>match d with
 | [.R a]=>opt (μ a) λm=>match m with
  | .lst c=>opt (Gd c) λb=>0 < b.length/\∀m,m∈b->(∀n∈b,n<=m)->R (.D (.int m)) μ
  | _=>False
 | _=>False
theorem JK(e:X.calm=true):VCall X (.builtin "max") FQ:=by
 intro c s σ H xs us Q I r zq
 refine Ca zq λl μ R ra hc h hq=>?_
 unfold FQ at h
 split at h
 ·cases ra with
  | cons f j =>
   cases j
   obtain⟨m,i,h⟩:=A0 h
   split at h
   ·obtain⟨a,d,h⟩:=A0 h
    obtain⟨o,g,n,rfl,b⟩:=hc _ _ i
    cases (show _=V.ref _ from f)
    exact Va e c s σ H _ us Q I r ⟨_,a,rfl,E8.of (by rw [g,J2 d b]),h.1,λm h1 h2=>hq _ _ _ _ Kp.refl hc C5 (h.2 m h1 h2)⟩
   ·exact h.elim
 ·exact h.elim
end
section
variable {s:iW}{E:iV->iW->Prop}{A:jC}{prog:i_}{w:jA}{K:Type} [DecidableEq K]{knd:HeapKind prog w K}
theorem WT{d a:iY}{xs:List (K×iY×iV)}{k:K}{v:iV}{Q:iV->iW->Prop}(hu:knd.room A)(hk:knd.is s.heap k a)(u:s.heap.DictOfH knd d xs)(hz:xs.length<=sizeLine)
  (h1:∀p,atKey xs k=some p->Q p.2 { s with toks:=s.toks+knd.draws k })
  (h2:atKey xs k=none->∀l,l.DictOfH knd d (storedH xs k a v)->Heap.SameBut d s.heap l->Q v { s with heap:=l,toks:=s.toks+knd.draws k }):wpAny (model prog w) A (dictSetDefault d (.ref a) v) Q E s:=by
 obtain⟨o,D,C,g,B,f,h,q,i⟩:=u
 unfold dictSetDefault
 (try with_reducible refine ZF ?_)
 refine A_ (knd.pyHash hu hk (A_ (wpAny_dictFind_heap (s:={ s with toks:=s.toks+knd.draws k }) hu hk g f h q i (λn=>?_) (λj p hj=>?_))))
 ·have r:=atKey_none_of_get n
  have z:k∉xs.map (·.1):=not_mem_keys_of_get n
  have F:=size_of_entries h
  refine A_ (aW (A_ (wpAny_updateDictKeys (hz:=by omega) (s:={ s with toks:=s.toks+knd.draws k }) g f (C_ (h2 r _ ?_ (YT ..))))))
  have st:=storedH_new (a:=a) (v:=v) r
  rw [st]
  refine⟨_,_,C+1,ZU _ g (Obj.isFreed_of_dict (Obj.data_mapDictKeys f _)),B.mapDictKeys _,Obj.data_mapDictKeys f _,by simp [h,entryOfKey],λx hx=>?_,?_⟩
  ·have c:∀{y:K} {b:iY},knd.is s.heap y b->knd.is (s.heap.update d (Obj.mapDictKeys λx=>x.push ⟨knd.hash k,.ref a,v⟩)) y b:=λhy=>knd.keeps hy g f (YT ..)
   rcases O_.mp hx with m | m
   ·exact c (q x m)
   ·rw [P_.mp m];exact c hk
  ·rw [S_]
   exact aY.mpr ⟨i,by simp,λx hx y hy e=>z (by
    have hy:y=k:=by simpa using hy
    rw [hy]at e
    rw [<- e];exact hx)⟩
 ·have t:=atKey_of_get i hj
  refine A_ (bX (s:={ s with toks:=s.toks+knd.draws k }) g f ?_)
  rw [entry_at h j,hj]
  exact A_ (aW (C_ (h1 _ t)))
end
section
variable {w:jA}{prog:i_}{K:Type} [DecidableEq K](knd:HeapKind prog w K)(d a:iY)
theorem Vb(h:(d==sysModules)=false)(dflt:iV):MeetsIn prog w (Builtin.«dict.setdefault» ⟨[.ref d,.ref a,dflt],[]⟩) (λA R s=>knd.room A.in1/\∃k c,knd.is s.heap k a/\s.heap.DictOfH knd d c/\c.length<=sizeLine /\
   (∀p,atKey c k=some p->R (.ok (.ret p.2)) { s with toks:=s.toks+knd.draws k }) /\
   (atKey c k=none->∀f,f.DictOfH knd d (storedH c k a dflt)->Heap.SameBut d s.heap f->R (.ok (.ret dflt)) { s with heap:=f,toks:=s.toks+knd.draws k })) :=
 .of_wp λA R s ⟨hu,k,c,hk,g,hz,h1,h2⟩=>by
  unfold Builtin.«dict.setdefault» Builtin.Dict.keyAndDefault
  refine A_ (A_ (gC g.typeIs (show wpAny _ _ (pure (d,Value.ref a,some dflt)) _ _ s from C_ ?_)))
  show wpAny _ _ (if(d==sysModules)=true then _ else(dictSetDefault d (.ref a) dflt >>= _)) _ _ s
  rw [h,J_ L_]
  exact A_ (WT hu hk g hz (λp e=>C_ ⟨_,rfl,h1 p e⟩) λe f m b=>C_ ⟨_,rfl,h2 e f m b⟩)
end
section
variable {X:Cx}{aa:List (iY×jE)}{σ:St}{H:Hp}{s:iW}{A:jC}{E:iV->iW->Prop}{a b:iY}{r:iV}{o e f:jB}{aq aj:Pos}{prog:i_}{w:jA}{d it:iY}{es:Array DictEntry}{ep i k:Nat}
theorem JL{Q:iV->iW->Prop}{kvs:List (List Key×V)}{k:List Key}{n:V}(hu:A.units+1 < cLine)(I:Inv X aa σ H s)(e:H a=some (.dT kvs))(t:H b=some (.tup (k.map kV)))(l:kvs.length < sizeLine)(G:Bb n r)
  (h1:∀v,D9 kvs k=some v->∀B m,Inv X aa σ H m->Bb v B->Q B m) (h2:D9 kvs k=none->∀m,Inv X aa σ (upd H a (.dT (Dl kvs k n))) m->Q r m) :
  wpAny (model X.prog X.w) A (call (.builtin "dict.setdefault") [.ref a,.ref b,r]) Q E s:=by
 obtain⟨z,y,u,j,dd⟩:=Ry I.hok e
 have hz:u.length<=sizeLine:=by rw [<- aB j];exact z
 have N:(Dl kvs k n).length<=sizeLine:=by have:=Dz kvs k n;omega
 have g:=j.val k
 refine iQ PySem.F.slot_dict_setdefault dd.typeIs PySem.F.entry_dict_setdefault (PySem.F.args_dict_setdefault_3 _ _ _) (Vb (tupleKind (Aw X.prog X.w)) a b y r) ⟨dQ hu,k,u,G9 I.hok t,dd,hz,λp hp=>?_,λhn P C D=>?_⟩
 ·rw [hp]at g
  cases h:D9 kvs k with
  | none=>rw [h]at g;exact g.elim
  | some v=>rw [h]at g;exact h1 v h _ _ (I.tok _) g
 ·rw [hn]at g
  have h:D9 kvs k=none:=by
   cases h:D9 kvs k with
   | none=>rfl
   | some v=>rw [h]at g;exact g.elim
  refine h2 h _ ?_
  obtain⟨q,es,ep,hq,M,J,O,_,L⟩:=C
  refine Gj I (by rw [e];exact True.intro) D ⟨q,hq⟩ ⟨N,y,_,(j.put k t G).keeps λc R x=>?_,q,es,ep,hq,M,J,O,L⟩
  rw [Ay (Nm x e (λz=>nomatch z))]
  exact x
def UK(l ty j:TE):TE:=fun σ H Q=>l σ H λx h=>∃a,x=.ref a/\RV h a/\ty σ h λy m=>j σ m λz g=>∃c k b,g a=some (.dT c)/\y=.ref b/\g b=some (.tup (k.map kV))/\c.length < sizeLine /\
 (∀v,D9 c k=some v->Q v g)/\(D9 c k=none->Q z (upd g a (.dT (Dl c k z))))
theorem JM{n ty p:TE}(hu:X.A.units+1 < cLine)(N:PE X o n)(he:PE X e ty)(hf:PE X f p)(m:M2 X o "setdefault" aq e f aj):PE X (.Call (.Attribute o "setdefault" aq) [e,f] [] aj) (UK n ty p):=by
 intro aa s σ H Q I h
 refine wpAny_Call_method m.base m.few m.line fJ PySem.F.slot_dict_setdefault PySem.F.type_dict_setdefault (thn (N aa s σ H _ I h) λu s1 R=>?_)
 obtain⟨x,H1,q,P,a,t,d,q1⟩:=R
 subst t
 cases (show u=Value.ref a from P)
 obtain⟨t1,t2,_⟩:=Wh q d
 refine⟨t1,t2,?_⟩
 rw [m.trees]
 refine dO rfl (gN (ZS (thn (he aa s1 σ H1 _ q q1) λM L D=>Cz D λy O B V T=>ZS (thn (hf aa L σ O _ B T) λfv s3 ⟨z,U,W,j,S,k,b,G,C,J,l,Y,Z⟩=>aC ?_))))
 subst C
 cases (show M=Value.ref b from V)
 exact JL hu W G J l j (λv c w' s4 g gy=>⟨v,U,g,gy,Y v c⟩) λc s4 g=>⟨z,_,g,j,Z c⟩
def UL(j ty h:AE):AE:=fun τ μ R=>j τ μ λx μ1=>match x with
 | .R a=>(∃m,μ1 a=some m/\IZ m)/\ty τ μ1 λy μ2=>h τ μ2 λz μ3=>match y with
  | .D (.tuple l)=>opt (N7 l) λg=>opt (μ3 a) λm=>match m with
   | .dt c=>c.length < sizeLine/\(∀v,Cm c g=some v->R v μ3)/\(Cm c g=none->R z (Al μ3 a (.dt (E9 c g z))))
   | _=>False
  | _=>False
 | _=>False
theorem Ya{D ty F:AE}(hu:X.A.units+1 < cLine)(J:VE X o D)(he:VE X e ty)(hf:VE X f F)(m:M2 X o "setdefault" aq e f aj:=by exact⟨rfl,rfl,rfl,rfl⟩):VE X (.Call (.Attribute o "setdefault" aq) [e,f] [] aj) (UL D ty F) :=
 (JM hu J he hf m).imp fun σ H Q zz=>Ca zz fun τ μ R p hc h hq=>⟨τ,μ,_,p,hc,h,λx μ1 v H1 S1 G rx hx=>by
  split at hx
  ·rename_i a
   obtain⟨⟨S,C,O⟩,hx⟩:=hx
   cases rx
   refine⟨a,rfl,Xo G C O,τ,μ1,_,p.kp S1,G,hx,λy μ2 u H2 S2 c2 ry hy=>⟨τ,μ2,_,(p.kp S1).kp S2,c2,hy,λz μ3 zv H3 S3 c3 rz hz=>?_⟩⟩
   split at hz
   ·obtain⟨l,B,hz⟩:=A0 hz
    obtain⟨m,L,hz⟩:=A0 hz
    split at hz
    ·rename_i g
     obtain⟨T,n,M,rfl,q⟩:=c3 _ _ L
     obtain⟨b,P,rfl,hb,I⟩:=(Dk.kp S3 _ _ ry).tup
     obtain⟨N,B⟩:=Mk B
     have hb:=hb.heap N
     rw [Go I B]at hb
     have c:=q.val l
     refine⟨M,l,b,n,rfl,hb,by rw [<- aB q];exact hz.1,λv t=>?_,λt=>?_⟩
     ·rw [t]at c
      cases j:Cm g l with
      | none=>rw [j]at c;exact c.elim
      | some w=>rw [j]at c;exact hq _ _ _ _ ((S1.trans S2).trans S3) c3 c (hz.2.1 w j)
     ·rw [t]at c
      have j:Cm g l=none:=by
       cases j:Cm g l with
       | none=>rfl
       | some w=>rw [j]at c;exact c.elim
      exact hq _ _ _ _ (((S1.trans S2).trans S3).trans (Kp.put n trivial _)) (c3.put n trivial (EY (q.put l rz))) (rz.kp (Kp.put n trivial _)) (hz.2.2 j)
    ·exact hz.elim
   ·exact hz.elim
  ·exact hx.elim⟩
def Fe(h:jD)(d:iY)(es:Array DictEntry)(ep:Nat):Prop:=∃o,h.get? d=some o/\o.ExactDict/\o.data=.dict es ep
theorem Fe.ty{s:iW}{d:iY}{es:Array DictEntry}{ep:Nat}(x:Fe s.heap d es ep):s.TypeIs (.ref d) "dict" := let⟨o,h1,h2,_⟩:=x;⟨o,h1,h2.1⟩
theorem Fe.mv{h h':jD}{d:iY}{es:Array DictEntry}{ep:Nat}(x:Fe h d es ep)(k:∀o,h.get? d=some o->h'.get? d=some o):Fe h' d es ep:=let⟨o,h1,r⟩:=x;⟨o,k o h1,r⟩
theorem Fe.lt{h:jD}{d:iY}{es:Array DictEntry}{ep:Nat}(x:Fe h d es ep):d < h.objs.size:=let⟨_,h1,_⟩:=x;N_ h1
theorem Yb{Q:iV->iW->Prop}(h:(d==sysModules)=false)(g:Fe s.heap d es ep)
  (q:Q (.ref s.heap.objs.size) { s with heap:=s.heap.push { cls:=.type "dict_keyiterator",data:=.fields #[.ref d,.int 0 0,.int es.size 0,.int ep 0] } }):wpAny (model prog w) A (pyIter (.ref d)) Q E s:=by
 have T:=g.ty
 obtain⟨o,h1,h2,c⟩:=g
 refine eE T F.slot_dict_iter (YS F.slot_dict_iter T F.entry_dict_iter ?_ (F.args_dict_iter_1 _))
 unfold Builtin.«dict.__iter__» Builtin.Dict.dictSlotNone
 refine A_ (A_ (gC T (show wpAny _ _ (pure (Value.ref d)) _ _ s from C_ ?_)))
 show wpAny (model prog w) _ (Builtin.Dict.showsAll d >>= _) _ _ s
 unfold Builtin.Dict.showsAll
 rw [h,J_ L_]
 refine A_ (C_ (A_ (bX h1 c (A_ (dY h1 c (A_ (YF (C_ ⟨_,rfl,"dict_keyiterator",_,⟨_,R_ _ rfl,rfl⟩,F.slot_dict_keyiterator_next.lookup,?_⟩))))))))
 simpa [rawInt] using q
theorem Yc{Q:Option iV->iW->Prop}(j:s.heap.IsKeyIter it d i es.size ep)(n:Fe s.heap d es ep)(t:i < es.size)
  (q:∀h,h.IsKeyIter it d (i+1) es.size ep->Heap.SameBut it s.heap h->Q (some es[i].key) { s with heap:=h }):wpAny (model prog w) A (pyNext (.ref it)) Q E s:=by
 have T:=j.typeIs
 obtain⟨o,g,p,c⟩:=id j
 obtain⟨u,h1,h2,m⟩:=n
 unfold pyNext
 refine A_ (dZ (ZZ (name:=Str.ofString "__next__") T F.slot_dict_keyiterator_next (YS F.slot_dict_keyiterator_next T F.entry_dict_keyiterator_next ?_ (F.args_dict_keyiterator_next_1 _))))
 refine A_ (C_ (A_ (A_ ?_)))
 first | refine A_ (bU T (C_ (A_ (bL g c ?_)))) | refine A_ (dA T (C_ (A_ (bL g c ?_))))
 simp only [show Builtin.Dict_items.ownsTuple "dict_keyiterator" = false by decide,Bool.false_eq_true,if_false]
 show wpAny (model prog w) _ (if(Value.ref d==Value.none)=true then _ else _) _ _ s
 rw [J_ (by exact L_)]
 refine A_ (C_ (A_ (bX h1 m ?_)))
 rw [J_ (by simp)]
 refine A_ (C_ (A_ (dY h1 m ?_)))
 rw [J_ (by simp)]
 refine C_ ?_
 simp only [show ¬((i:Int) < 0) by omega,if_false,Int.toNat_natCast,Array.getElem?_eq_getElem t]
 refine A_ ?_
 first | refine A_ (bU T (C_ (A_ (gD T ?_)))) | refine A_ (dA T (C_ (A_ (gD T ?_))))
 show wpAny (model prog w) _ (setField (.ref it) 1 (rawInt ((i:Int)+1)) >>= _) _ _ s
 refine A_ (hJ g c (by simp) (A_ (ZF ?_)))
 have l:(s.heap.update it (Obj.mapFields (·.setIfInBounds 1 (rawInt ((i:Int)+1))))).IsKeyIter it d (i+1) es.size ep:=⟨_,ZU _ g (Obj.isFreed_of_fields (fG c _)),(Obj.cls_mapFields ..).trans p,by rw [fG c];simp [rawInt]⟩
 refine A_ (gD (s:={ s with heap:=s.heap.update it (Obj.mapFields (·.setIfInBounds 1 (rawInt ((i:Int)+1)))) }) l.typeIs (show wpAny _ _ (pure es[i].key) _ _ _ from ?_))
 exact C_ (C_ ⟨_,rfl,C_ (q _ l (YT ..))⟩)
theorem CW{Q:Option iV->iW->Prop}(n:A.handled=none)(j:s.heap.IsKeyIter it d es.size es.size ep)(p:Fe s.heap d es ep)(q:∀h,Heap.ExtBut it s.heap h->Q none { s with heap:=h }):wpAny (model prog w) A (pyNext (.ref it)) Q E s:=by
 have T:=j.typeIs
 obtain⟨o,g,u,c⟩:=id j
 obtain⟨t,h1,h2,l⟩:=p
 unfold pyNext
 refine A_ (dZ (ZZ (name:=Str.ofString "__next__") T F.slot_dict_keyiterator_next (YS F.slot_dict_keyiterator_next T F.entry_dict_keyiterator_next ?_ (F.args_dict_keyiterator_next_1 _))))
 refine A_ (C_ (A_ (A_ ?_)))
 first | refine A_ (bU T (C_ (A_ (bL g c ?_)))) | refine A_ (dA T (C_ (A_ (bL g c ?_))))
 simp only [show Builtin.Dict_items.ownsTuple "dict_keyiterator" = false by decide,Bool.false_eq_true,if_false]
 show wpAny (model prog w) _ (if(Value.ref d==Value.none)=true then _ else _) _ _ s
 rw [J_ (by exact L_)]
 refine A_ (C_ (A_ (bX h1 l ?_)))
 rw [J_ (by simp)]
 refine A_ (C_ (A_ (dY h1 l ?_)))
 rw [J_ (by simp)]
 refine C_ ?_
 simp only [show ¬((es.size:Int) < 0) by omega,if_false,Int.toNat_natCast,Array.getElem?_eq_none (Nat.le_refl es.size)]
 refine A_ ?_
 first | refine A_ (bU T (C_ ?_)) | refine A_ (dA T (C_ ?_))
 show wpAny (model prog w) _ (setField (.ref it) 0 .none >>= _) _ _ s
 refine A_ (hJ g c (by simp) (show wpAny _ _ (newExc (.type "StopIteration") [] >>= _) _ _ _ from A_ ?_))
 simp only [newExc,newTuple]
 refine A_ (YF (A_ (m:=firstArgMember _ _) (iS (a:=Value.none) (by first | rfl | (simp only [firstArgMember];rfl)) (YF ?_ (by size_fits)))) (by size_fits))
 simp only [raiseNew]
 refine A_ (wpAny_handled (?_:_));rw [show A.in1.handled=none from n];refine A_ (C_ (wpAny_throw ?_))
 refine A_ (bQ (T := "StopIteration") (b:=true) (by exact⟨_,R_ _ rfl,rfl⟩) isSubtype_stop ?_)
 exact C_ (q _ (((YT ..).extBut.push _).push _))
theorem Vc(m:A.handled=none)(I d:iY)(n:d≠I)(es:Array DictEntry)(ep:Nat) :
  Walks prog w A I [I,d] [I] es.size (λi v=>∃e,es[i]?=some e/\v=e.key) (λi h=>h.IsKeyIter I d i es.size ep/\Fe h d es ep) where
 sub:=λb hb=>by
  have:b=I:=by simpa using hb
  simp [this]
 frame:=λ_ _ _ st k=>⟨st.1.at λo e=>k I (by simp) o e,st.2.mv λo e=>k d (by simp) o e⟩
 item:=λi s Q E j st g=>Yc st.1 st.2 j λc x l=>g _ c s.toks ⟨es[i],by simp [j],rfl⟩ ⟨x,st.2.mv λo e=>l.extBut d o n e⟩ λb o hb e=>l.extBut b o (λz=>hb (by simp [z])) e
 done:=λs Q E st g=>CW m st.1 st.2 λc x=>g c s.toks λb o hb e=>x b o (λz=>hb (by simp [z])) e
 self:=λ_ _ _ _ st q=>wpAny_pyIter_keyiter st.1 q
theorem CY(lo:(d==sysModules)=false):PySem.W.KdlSrc prog w "dict" d d es.size (λi v=>∃e,es[i]?=some e/\v=e.key) (λh=>Fe h d es ep) where
 type:=λ_ x=>x.ty
 there:=λ_ x=>⟨x.lt,x.lt⟩
 keep:=λ_ _ x k=>x.mv λo e=>k d (.inl rfl) o e
 notList:=by decide
 notTuple:=by decide
 hint:=λ_ _ _ _ x q=>PySem.W.kdl_hint_dict x.ty q
 iter:=λ_ _ c x=>⟨_,_,(λ_ _ q=>Yb lo x q),Vc c _ d (W_ x.lt) es ep,⟨⟨_,R_ _ rfl,rfl,rfl⟩,x.mv λo e=>DD _ e⟩⟩
theorem FR:∀(c:List iY),Vals (c.map V.ref) (c.map Value.ref)
 | []=>.nil
 | _ :: c=>.cons rfl (FR c)
theorem Ta{α β γ:Type}{F:α->β->Prop}{G:α->γ->Prop}{f:β->γ}:∀{l:List α} {m:List β},Paired F l m->(∀x y,F x y->G x (f y))->Paired G l (m.map f)
 | _,_,.nil,_=>.nil
 | _,_,.cons r t,g=>.cons (g _ _ r) (Ta t g)
theorem Mx(hc:X.calm=true):Ex X (.type "list") (λD H Q=>∃a m,D=[.ref a]/\H a=some (.dT m)/\∀l (x:List iY),H l=none->Paired (λ(p:List Key×V) b=>H b=some (.tup (p.1.map kV))) m x->Q (.ref l) (upd H l (.lst (x.map V.ref)))):=by
 intro aa s σ H D us Q I r h
 obtain⟨a,m,rfl,ha,q⟩:=h
 obtain⟨u,rfl,O⟩:=Fr r
 cases O
 obtain⟨hz,t,v,n,o,es,ep,h1,h2,R,G,_⟩:=Ry I.hok ha
 have J:=aB n
 have F:es.size=v.length:=by
  have:=ZX List.length G
  simpa using this
 refine PySem.W.kdl_call (CY (es:=es) (ep:=ep) t) (I.ok.hd hc) ⟨o,h1,h2,R⟩ (by rw [F,<- J];exact hz) λT S g c L M C=>?_
 have P:g.toList=(v.map λy=>y.2.1).map Value.ref:=by
  refine bV λj=>?_
  rw [V_]
  rcases(Y_ j g.size) with hj | hj
  ·obtain⟨e,N,e2⟩:=C.2 j g[j] (by simp [hj])
   have B:(v.map (entryOfKey (tupleKind (Aw X.prog X.w))))[j]?=some e:=by rw [<- G,V_];exact N
   rw [H_]at B
   obtain⟨y,hy,rfl⟩:=K_.mp B
   rw [H_,H_,hy,XW hj,e2];rfl
  ·rw [aT hj,ZD (by rw [B_,B_,<- F,<- C.1];exact hj)]
 have x:Paired (λ(p:List Key×V) b=>H b=some (.tup (p.1.map kV))) m (v.map λy=>y.2.1):=Ta n λp y z=>z.2.1
 refine⟨.ref s.heap.objs.size,_,I.laid (t':=S) (o:=.lst ((v.map λy=>y.2.1).map V.ref)) L (E_ _) ?_,rfl,q _ _ (I.hok.fresh (E_ _)) x⟩
 exact⟨by rw [B_,B_,<- J];exact hz,g.toList,c,by rw [P];exact FR _,by simpa using M⟩
def Yd:AC:=λg μ R=>match g with
 | [.R a]=>opt (μ a) λm=>match m with
  | .dt c=>∀p,μ p=none->R (.R p) (Al μ p (.lst (c.map λq=>.D (.tuple (q.1.map JH)))))
  | _=>False
 | _=>False
theorem Q8{K:iZ}{H:Hp}:∀(ks:List Key),Am K H (ks.map JH) (ks.map kV)
 | []=>D1
 | k :: ks=>Dp (OS k) (Q8 ks)
theorem Tb{K:iZ}{H:Hp}:∀{kvs:List (List Key×AV)} {c:List (List Key×V)} {g:List iY},Ei K H kvs c->Paired (λ(p:List Key×V) b=>H b=some (.tup (p.1.map kV))) c g->Au K H (kvs.map λq=>.D (.tuple (q.1.map JH))) (g.map V.ref)
 | [],_,_,r,p=>by
  cases r
  cases p
  exact .nil
 | _ :: _,_,_,r,p=>by
  cases r with
  | cons h m =>
   cases p with
   | cons l j =>
    refine .cons ?_ (Tb m j)
    dsimp only
    rw [h.1]
    exact Jd l (Q8 _)
theorem CZ(n:X.calm=true):VCall X (.type "list") Yd:=by
 intro aa s σ H xs us Q I r zz
 refine Ca zz λx μ R ra hcn h hq=>?_
 unfold Yd at h
 split at h
 ·rename_i a
  obtain⟨m,t,h⟩:=A0 h
  split at h
  ·rename_i g
   obtain⟨o,q,j,rfl,rk⟩:=hcn _ _ t
   cases ra with
   | cons p u =>
    cases u
    cases p
    exact Mx n aa s σ H _ us Q I r ⟨a,j,rfl,q,λl v c hp=>hq (.R l) _ _ _ (Kp.new c _) (hcn.new c (Cv (Tb rk hp))) rfl (h l (hcn.none c))⟩
  ·exact h.elim
 ·exact h.elim
end
end L2
namespace L2
open PySem PySem.Spec PyProof.Rows
structure TOkT(ds:List iX):Prop where
 len:ds.length < 300
 key:∀d∈ds,KeyTree d
 fst:∀d∈ds,∃i r,d=.tuple (.tuple i :: r)
 cmp:∀d∈ds,∀e∈ds,cmpb d e=true
theorem TOkT.w{ds:List iX}(h:TOkT ds):TOkW ds:=⟨X4 (by have:=h.len;omega),h.key,.inr h.fst,h.cmp⟩
abbrev JN(te:AE):AE:=Mw TOkT te
theorem Ye{X:Cx}{k:Nat}{e:jB}{te:AE}{p a b c:Pos}(d:Room k X.A)(f:Gl X "sorted") (i:X.mg "sorted" = none) (g:Gl X "set") (j:X.mg "set" = none) (he:VE X e te)
  (hs:starEach [.Call (.Name "set" a) [e] [] c] X.env=[(false,eval (.Call (.Name "set" a) [e] [] c) X.env)]:=by rfl) (l:starEach [e] X.env=[(false,eval e X.env)]:=by rfl) :
  VE X (.Call (.Name "sorted" p) [.Call (.Name "set" a) [e] [] c] [] b) (JN te):=J1 (λ_ h=>h.w) d f i g j he hs l
def Tc(N:List Str)(pn a:List (Str×jJ))(N':List Str)(mp:List (Option Nat)):Bool :=
 decide (N'.length=mp.length) && decide N'.Nodup &&
 (List.range N'.length).all (λk=>match mp[k]?,N'[k]? with
  | some (some i),some x=>decide (N[i]?=some x) && AL pn x && decide ((x,NameKind.free)∈a) && decide (a.lookup x=some .free)
  | _,_=>true) &&
 a.all (λp=>decide (p.2≠.cell) || decide (a.lookup p.1=some .cell)) && a.all (λp=>decide (p.2≠.free) || AL pn p.1) && a.all (λp=>decide (p.2≠.local) || decide (a.lookup p.1=some .local))
structure CompOkC(N:List Str)(pn cn:List (Str×jJ))(N':List Str)(mp:List (Option Nat)):Prop where
 len:N'.length=mp.length
 map:∀(k i:Nat) (x:Str),mp[k]?=some (some i)->N'[k]?=some x->N[i]?=some x/\(pn.lookup x=some .cell\/pn.lookup x=some .free)/\(x,NameKind.free)∈cn/\cn.lookup x=some .free
 ownc:∀p∈cn,p.2=.cell->cn.lookup p.1=some .cell
 free:∀p∈cn,p.2=.free->(pn.lookup p.1=some .cell\/pn.lookup p.1=some .free)
 loc:∀p∈cn,p.2=.local->cn.lookup p.1=some .local
theorem Av{N:List Str}{pn a:List (Str×jJ)}{N':List Str}{mp:List (Option Nat)}(h:Tc N pn a N' mp=true):CompOkC N pn a N' mp:=by
 unfold Tc at h
 obtain⟨h,n⟩:=(ZC _ _).mp h
 obtain⟨h,c⟩:=(ZC _ _).mp h
 obtain⟨h,f⟩:=(ZC _ _).mp h
 obtain⟨h,j⟩:=(ZC _ _).mp h
 obtain⟨h1,h2⟩:=(ZC _ _).mp h
 refine⟨YD h1,λk i x g e2=>?_,λp hp e=>?_,λp hp e=>?_,λp hp e=>?_⟩
 ·have hk:k < N'.length:=(F_.mp e2).1
  have q:=cJ.mp j k (XZ.mpr hk)
  simp only [g,e2]at q
  obtain⟨q,l⟩:=(ZC _ _).mp q
  obtain⟨q,d⟩:=(ZC _ _).mp q
  obtain⟨m,b⟩:=(ZC _ _).mp q
  exact⟨YD m,Nw b,YD d,YD l⟩
 ·rcases(e_ _ _).mp (cJ.mp f p hp) with z | z
  ·exact absurd e (YD z)
  ·exact YD z
 ·rcases(e_ _ _).mp (cJ.mp c p hp) with z | z
  ·exact absurd e (YD z)
  ·exact Nw z
 ·rcases(e_ _ _).mp (cJ.mp n p hp) with z | z
  ·exact absurd e (YD z)
  ·exact YD z
theorem relabel_back2{env:Env}{names:List (Str×jJ)}{x:Str}(h:((names.map λ(n,k)=>if(k==NameKind.free && env.scope.kind==.function && env.kindOf n==some .cell) then(n,NameKind.cell) else(n,k)).lookup x=some .cell \/
  (names.map λ(n,k)=>if(k==NameKind.free && env.scope.kind==.function && env.kindOf n==some .cell) then(n,NameKind.cell) else(n,k)).lookup x=some .free)):(x,NameKind.free)∈names\/(x,NameKind.cell)∈names:=by
 have a:∀k,(names.map λ(n,k)=>if(k==NameKind.free && env.scope.kind==.function && env.kindOf n==some .cell) then(n,NameKind.cell) else(n,k)).lookup x=some k->(k=.cell\/k=.free)->(x,NameKind.free)∈names\/(x,NameKind.cell)∈names:=λk hk hc=>by
  obtain⟨⟨n,c⟩,b,e⟩:=D_.mp (mem_of_lookup hk)
  dsimp only at e
  split at e
  ·rename_i hb
   cases e
   simp only [Bool.and_eq_true]at hb
   have:c=.free:=by simpa using hb.1.1
   subst this
   exact .inl b
  ·cases e
   rcases hc with rfl | rfl
   ·exact .inr b
   ·exact .inl b
 exact h.elim (λz=>a _ z (.inl rfl)) λz=>a _ z (.inr rfl)
theorem cf_dich:∀{names:List (Str×jJ)} {n:Nat} {acc:List (Str×iY)} {x:Str} {c:iY},(cellsFrom n names acc).lookup x=some c->(n<=c/\(x,NameKind.cell)∈names)\/acc.lookup x=some c
 | [],_,_,_,_,h=>.inr h
 | (d,k) :: r,n,acc,x,c,h=>by
  unfold cellsFrom at h
  split at h
  ·rename_i hk
   have hk:k=.cell:=by simpa using hk
   rcases cf_dich h with⟨a,b⟩ | z
   ·exact .inl ⟨fP a,.tail _ b⟩
   ·rw [aH]at z
    cases e:x==d with
    | true =>
     rw [e]at z
     cases z
     rw [beq_iff_eq.mp e,hk]
     exact .inl ⟨E_ _,.head _⟩
    | false=>rw [e]at z;exact .inr z
  ·rcases cf_dich h with⟨a,b⟩ | z
   ·exact .inl ⟨a,.tail _ b⟩
   ·exact .inr z
theorem Ff:∀{names:List (Str×jJ)} {n:Nat} {acc:List (Str×iY)} {x:Str},(∃c,acc.lookup x=some c)->∃c,(cellsFrom n names acc).lookup x=some c
 | [],_,_,_,h=>h
 | (a,k) :: r,n,acc,x,⟨c,h⟩=>by
  unfold cellsFrom
  split
  ·refine Ff ?_
   rw [aH]
   cases x==a with
   | true=>exact⟨_,rfl⟩
   | false=>exact⟨c,h⟩
  ·exact Ff ⟨c,h⟩
theorem Q9:∀{names:List (Str×jJ)} {n:Nat} {acc:List (Str×iY)} {x:Str},(x,NameKind.cell)∈names->∃c,(cellsFrom n names acc).lookup x=some c
 | (a,k) :: r,n,acc,x,h=>by
  unfold cellsFrom
  rcases XJ.mp h with e | e
  ·cases e
   rw [Q_ (show(NameKind.cell==NameKind.cell)=true from rfl)]
   refine Ff ?_
   rw [aH,gG]
   exact⟨_,rfl⟩
  ·split
   ·exact Q9 e
   ·exact Q9 e
theorem Ra:∀{names:List (Str×jJ)} {n:Nat} {acc:List (Str×iY)},(∀x y c,acc.lookup x=some c->acc.lookup y=some c->x=y)->(∀x c,acc.lookup x=some c->c < n)->∀x y c,(cellsFrom n names acc).lookup x=some c->(cellsFrom n names acc).lookup y=some c->x=y
 | [],_,_,h,_,x,y,c,d,e2=>h x y c d e2
 | (f,k) :: r,n,acc,h,hn,x,y,c,d,e2=>by
  unfold cellsFrom at d e2
  split at d
  ·rename_i hk
   rw [Q_ hk]at e2
   refine Ra (acc:=(f,n) :: acc) (λx y c d e2=>?_) (λx c e=>?_) x y c d e2
   ·rw [aH]at d e2
    cases a:x==f <;> cases b:y==f <;> rw [a]at d <;> rw [b]at e2
    ·exact h x y c d e2
    ·cases e2;exact absurd (hn _ _ d) (aS _)
    ·cases d;exact absurd (hn _ _ e2) (aS _)
    ·rw [beq_iff_eq.mp a,beq_iff_eq.mp b]
   ·rw [aH]at e
    cases a:x==f <;> rw [a]at e
    ·exact aP (hn x c e)
    ·cases e;exact aJ _
  ·rename_i hk
   rw [J_ hk]at e2
   exact Ra h hn x y c d e2
theorem My:∀{names:List (Str×jJ)} {h:jD} {acc:List (Str×iY)},(∀x c,acc.lookup x=some c->∃v,h.IsCell c v)->∀x c,(cellsFrom h.objs.size names acc).lookup x=some c->∃v,(pushCells h names).IsCell c v
 | [],_,_,hc,x,c,e=>hc x c e
 | (f,k) :: r,h,acc,hc,x,c,e=>by
  unfold cellsFrom at e
  unfold pushCells
  split at e
  ·rename_i hk
   rw [Q_ hk]
   have g:(cellsFrom (h.push { cls:=.type "cell",data:=.cell none }).objs.size r ((f,h.objs.size) :: acc)).lookup x=some c:=by rw [a_];exact e
   refine My (λy d z=>?_) x c g
   rw [aH]at z
   cases a:y==f <;> rw [a]at z
   ·obtain⟨v,q⟩:=hc y d z
    exact⟨v,q.keeps λb o e=>DD _ e⟩
   ·cases z;exact⟨none,_,R_ _ rfl,rfl⟩
  ·rename_i hk
   rw [J_ hk]
   exact My hc x c e
def Mz(names:List (Str×jJ))(x:Str):Bool:=match names.lookup x with
 | some .cell=>true
 | _=>false
theorem Rb:∀{names:List (Str×jJ)} {n m:Nat} {acc:List (Str×iY)} {x:Str} {c:iY},m<=n->(cellsFrom n names acc).lookup x=some c->((x,NameKind.cell)∈names\/∀b,acc.lookup x=some b->m<=b)->m<=c
 | [],_,_,_,_,_,_,h,z=>z.elim (λz=>nomatch z) λz=>z _ h
 | (f,k) :: r,n,m,acc,x,c,d,h,z=>by
  unfold cellsFrom at h
  split at h
  ·refine Rb (YX d) h ?_
   cases a:x==f with
   | true =>
    refine .inr λb e=>?_
    rw [aH,a]at e
    cases e;exact d
   | false =>
    rcases z with z | z
    ·rcases XJ.mp z with e | e
     ·cases e;rw [gG]at a;cases a
     ·exact .inl e
    ·refine .inr λb e=>?_
     rw [aH,a]at e
     exact z b e
  ·rename_i hk
   refine Rb d h (z.imp_left λz=>?_)
   rcases XJ.mp z with e | e
   ·cases e;exact absurd rfl hk
   ·exact e
theorem Rc{names:List (Str×jJ)}{x:Str}(h:Mz names x=true):(x,NameKind.cell)∈names:=by
 unfold Mz at h
 split at h
 ·rename_i e;exact mem_of_lookup e
 ·cases h
theorem M3{M:Model}{A:jC}{E:iV->iW->Prop}{s:iW}{a:jI}{globals:iY}{cl:List (Str×iY)}{b:Str}{outer:Env}{Q:Env->iW->Prop}
  (f:Q (newEnv a s.heap.objs.size globals (cellsFrom (s.heap.objs.size+1) a.names cl) b none .none (some outer) builtinsNs) { s with heap:=pushCells (s.heap.push { cls:=.type "dict",data:=.dict #[] }) a.names }) :
  wpAny M A (newFunctionEnv a globals cl [] b none .none (some outer)) Q E s:=by
 simp only [newFunctionEnv,Option.isSome_some,if_true]
 refine A_ (wpAny_alloc ?_)
 refine A_ (wpAny_layCells _ (λe c d=>by cases hkc:c==NameKind.cell <;> simp [hkc]) _ _ _ _ ?_)
 rw [show({ s with heap:=s.heap.push { cls:=.type "dict",data:=.dict #[] } }:iW).heap.objs.size=s.heap.objs.size+1 from a_ ..]
 exact A_ (by rw [List.forIn_nil];exact C_ (C_ f))
def Bg(X:Cx)(N':List Str)(a:jI)(C:iY)(s:iW)(H:Hp)(fp:List iY):Cx :=
 { X with N:=N',s₀:=s,H₀:=H,env:=compEnvC a (cellsFrom (C+1) a.names (Eg X.env.cells a.names [])) C X.env,outer:=X.stack,stack:=X.stack,ex:=fp,fn:=Mz a.names,pn:=[],xe:=λ_ _=>False }
section
variable {X:Cx}{N':List Str}{mp:List (Option Nat)}{fw tg iter:jB}{d4:List jB}{scope:jI}{pos:Pos}{wi:TI}{g:TG}{tst:TT}{te:TE}
theorem Inv.comp0C{D:List (iY×jE)}{σ:St}{H:Hp}{s:iW}{fp:List iY}{tn:jD->Prop}{h₁:jD}{tk:Nat}{C:iY}(ok:CompOkC X.N X.env.scope.names scope.names N' mp)(hk:scope.kind=.function)
  (I:Inv X D σ H s) (hf:∀b∈fp,Il X D H b) (M:∀b∈fp,∃o,s.heap.get? b=some o) (P:C=s.heap.objs.size+1)
  (jc:∃m,h₁.Ns C m) (a:∀b o,s.heap.get? b=some o->h₁.get? b=some o) (R:∃n,h₁.get? s.heap.objs.size=some { cls:=.type "list",data:=.seq #[] n }) (W:∀x c,(cellsFrom (C+1) scope.names (Eg X.env.cells scope.names [])).lookup x=some c->∃v,h₁.IsCell c v) :
  Inv (Bg X N' scope C s H fp) [] (Nv mp σ) (upd H s.heap.objs.size (.lst [])) { s with heap:=h₁,toks:=tk }:=by
 subst P
 have Y:∀x∈scope.names,x.2=.free->∃c,X.env.cells.lookup x.1=some c:=λx hx e=>I.ok.has x.1 (ok.free x hx e)
 have sub:∀x c,(Eg X.env.cells scope.names []).lookup x=some c->X.env.cells.lookup x=some c:=Gk Y (λx c e=>by simp at e)
 have t:∀x c,(cellsFrom (s.heap.objs.size+1+1) scope.names (Eg X.env.cells scope.names [])).lookup x=some c->(s.heap.objs.size+1+1<=c/\(x,NameKind.cell)∈scope.names)\/X.env.cells.lookup x=some c:=λx c e=>(cf_dich e).imp_right λz=>sub x c z
 have hlt:∀b∈fp,b < s.heap.objs.size:=λb hb=>let⟨_,e⟩:=M b hb;N_ e
 have A:H (s.heap.objs.size+1)=none:=I.hok.fresh (cU _)
 have L:H s.heap.objs.size=none:=I.hok.fresh (E_ _)
 have Z:∀b∈fp,b∉frs X.stack:=λb hb z=>by
  obtain⟨_,T,O,_⟩:=hf b hb
  rcases XJ.mp (I.stkSub b z) with e | e
  ·exact T e
  ·exact O e
 refine⟨⟨I.ok.mod,hk,I.ok.glob,I.ok.blt,cU _,Ra (λx y c w e2=>I.ok.inj x y c (sub x c w) (sub y c e2)) (λx c e=>let⟨_,z⟩:=I.cell x c (sub x c e);aP (aP z.lt)),λx e=>?_,λx c F e=>G_ (YX (cU _)) (Rb (E_ _) e (.inl (Rc F))),I.ok.hd,I.ok.frames,.inl rfl,λb hb=>⟨?_,λx c e=>?_⟩,I.bs,G_ I.ok.bsz I.sz,λb o e hb=>?_,Z,I.stack,I.stkFree⟩,
  rfl,I.bare,Un.laid a (E_ _) L,?_,λx c e=>?_,?_,λx c e=>?_,λp hp=>(nomatch hp),I.hok.laid a (E_ _) ?_,?_⟩
 ·rcases relabel_back2 e with z | z
  ·exact Ff (Gm z)
  ·exact Q9 z
 ·exact W_ (aP (hlt b hb))
 ·rcases t x c e with⟨z,_⟩ | z
  ·exact λq=>absurd (q ▸ hlt b hb) (Nat.not_lt_of_le (G_ (YX (cU _)) z))
  ·exact(hf b hb).2.2.2.2.1 x c z
 ·rcases(hf b hb).2.2.2.1 with z | z
  ·exact I.ok.noex b o e z
  ·exact absurd (U_ (N_ e) (G_ I.ok.bsz z)) (aS _)
 ·obtain⟨m,V⟩:=jc
  refine⟨m,V,λi x v w e2 e3=>?_⟩
  have d:(Nv mp σ)[i]?=some (some v):=e2
  unfold Nv at d
  rw [H_]at d
  cases hmp:mp[i]? with
  | none=>rw [hmp]at d;cases d
  | some o =>
   rw [hmp]at d
   cases o with
   | none=>cases d
   | some j =>
    have S:σ[j]?=some (some v):=by
     have q:(σ[j]?).join=some v:=YO d
     cases hj:σ[j]? with
     | none=>rw [hj]at q;cases q
     | some y=>rw [hj]at q;exact ZX some q
    obtain⟨a1,a2,a3,E⟩:=ok.map i j x hmp w
    obtain⟨m0,G,J⟩:=I.loc
    obtain⟨u,r,l⟩:=J j x v a1 S (a2.elim (λz=>.inr (.inl z)) λz=>.inr (.inr z))
    refine⟨u,r,.inr ⟨?_,?_⟩⟩
    ·exact L8 E
    ·rcases l with⟨k,_⟩ | ⟨_,c,Q,U⟩
     ·have k:X.env.scope.names.lookup x=some .local:=k
      rcases a2 with a2 | a2 <;> rw [a2]at k <;> cases k
     ·obtain⟨f,B⟩:∃f,(cellsFrom (s.heap.objs.size+1+1) scope.names (Eg X.env.cells scope.names [])).lookup x=some f:=Ff (Gm a3)
      have:f=c:=by
       rcases t x f B with⟨_,z⟩ | z
       ·have:=ok.ownc _ z rfl
        rw [E]at this;cases this
       ·exact YO (z.symm.trans Q)
      subst this
      exact⟨f,B,U.keeps a⟩
 ·exact W x c e
 ·show upd H s.heap.objs.size (.lst []) (s.heap.objs.size+1)=none
  rw [Ay (Nat.succ_ne_self _)];exact A
 ·show upd H s.heap.objs.size (.lst []) c=none
  rcases t x c e with⟨z,_⟩ | z
  ·rw [Ay (fL (U_ (aP (aJ _)) z))]
   exact I.hok.fresh (G_ (YX (cU _)) z)
  ·obtain⟨v,y⟩:=I.cell x c z
   rw [Ay (W_ y.lt)];exact I.freeC x c z
 ·obtain⟨n,e⟩:=R
  exact⟨XQ _,[],n,.nil,e⟩
 ·show(Nv mp σ).length=N'.length
  unfold Nv
  rw [B_,ok.len]
theorem Lq{S:List (iY×jE)}{σ:St}{H:Hp}{s:iW}{it:iY}{fp:List iY}{tn:Nat->jD->Prop}{J:It}{Q:iY->Hp->Prop}{E:iV->iW->Prop}{RR:iV->iY->jK->iW->Prop}
  (ok:CompOkC X.N X.env.scope.names scope.names N' mp) (hk:scope.kind=.function) (hc:X.calm=true) (I:Inv X S σ H s) (T:Turn X.prog X.w X.K tg J fp it tn) (st:tn 0 s.heap) (hf:∀b∈fp,Il X S H b)
  (hg:∀C s H fp,PG (Bg X N' scope C s H fp) tg g) (ht:∀C s H fp,PIfs (Bg X N' scope C s H fp) d4 tst) (he:∀C s H fp,PE (Bg X N' scope C s H fp) fw te)
  (h:∀p,H p=none->Wm p J g tst te (Q p) (Nv mp σ) (upd H p (.lst [])))
  (hRR:∀C t H',Inv X S σ H' t->(∃m,t.heap.Ns C m)->H' C=none->X.s₀.heap.objs.size<=C->C≠X.env.locals->(∀x c,X.env.cells.lookup x=some c->c≠C)->(∀q∈X.pn++S,q.1≠C)->Q s.heap.objs.size H'->RR (.ref s.heap.objs.size) C (.ok .next) t) :
  wpAny (model X.prog X.w) X.A (newList []) (λa s₃=>wpAny (model X.prog X.w) X.A (newFunctionEnv scope X.env.globals (Eg X.env.cells scope.names []) [] X.env.qual none .none (some X.env)) (λu9 s₄ =>
   codeAny (model X.prog X.w) X.A (.compStart (.ListComp fw [⟨tg,iter,d4,0⟩] scope pos) 0 (.ref it) a { u9 with scope:=relabel scope X.env }) (RR a u9.locals) s₄) E s₃) E s:=by
 refine YF (M3 ?_)
 dsimp only
 generalize Z:s.heap.push { cls:=.type "list",dict:=none,data:=.seq ([]:List iV).toArray }=H2
 have hC:H2.objs.size=s.heap.objs.size+1:=by rw [<- Z,a_]
 have fo:∀b o,H2.get? b=some o->(pushCells (H2.push { cls:=.type "dict",data:=.dict #[] }) scope.names).get? b=some o:=λb o e=>pushCells_keeps _ _ b o (DD _ e)
 have f:∀b o,s.heap.get? b=some o->(pushCells (H2.push { cls:=.type "dict",data:=.dict #[] }) scope.names).get? b=some o:=λb o e=>fo b o (Z ▸ DD _ e)
 have bn:∃n,(pushCells (H2.push { cls:=.type "dict",data:=.dict #[] }) scope.names).get? s.heap.objs.size=some { cls:=.type "list",data:=.seq #[] n } :=
  ⟨_,fo _ _ (Z ▸ R_ _ rfl)⟩
 have jc₁:(pushCells (H2.push { cls:=.type "dict",data:=.dict #[] }) scope.names).Ns H2.objs.size λ_=>none:=(Heap.Ns.new H2 (.type "dict")).keeps (pushCells_keeps _ _)
 have zbt:∀x∈scope.names,x.2=.free->∃c,X.env.cells.lookup x.1=some c:=λx hx e=>I.ok.has x.1 (ok.free x hx e)
 have kn:∀x c,(cellsFrom (H2.objs.size+1) scope.names (Eg X.env.cells scope.names [])).lookup x=some c->∃v,(pushCells (H2.push { cls:=.type "dict",data:=.dict #[] }) scope.names).IsCell c v:=λx c e=>by
  refine My (h:=H2.push { cls:=.type "dict",data:=.dict #[] }) (λy d z=>?_) x c (by rw [a_];exact e)
  obtain⟨v,q⟩:=I.cell y d (Gk zbt (λx c e=>by simp at e) y d z)
  exact⟨v,q.keeps λb o e=>DD _ (Z ▸ DD _ e)⟩
 generalize pushCells (H2.push { cls:=.type "dict",data:=.dict #[] }) scope.names=h₁ at f bn jc₁ kn
 have ww:∀b∈fp,∃o,s.heap.get? b=some o:=λb hb=>let⟨o,e,_⟩:=T.obj _ _ st b hb;⟨o,e⟩
 have R:s.heap.objs.size<=H2.objs.size:=by rw [hC];exact cU _
 have I0:=I.comp0C (tn:=tn 0) (C:=H2.objs.size) (tk:=s.toks) ok hk hf ww hC ⟨_,jc₁⟩ f bn kn
 have M:tn 0 h₁:=T.keep _ _ _ st λb hb o e=>f b o e
 obtain⟨W,⟨m0,w0⟩,L⟩:=h _ (I.hok.fresh (E_ _))
 have n8:∀b∈fp,b∉frs X.stack:=I0.ok.exfs
 have ip:∀{H':Hp},(∀b∈fp,H' b=none)->∀b∈fp,Il (Bg X N' scope H2.objs.size s H fp) [] H' b:=λhn b hb =>
  ⟨hn b hb,(I0.ok.exf b hb).1,n8 b hb,.inl hb,(I0.ok.exf b hb).2,λq hq=>(nomatch hq)⟩
 have j:∀s₃:iW,s₃={ s with heap:=h₁ } ->
   codeAny (model X.prog X.w) X.A (.compLoop (.ListComp fw [⟨tg,iter,d4,0⟩] scope pos) 0 (.ref it) (.ref s.heap.objs.size) (compEnvC scope (cellsFrom (H2.objs.size+1) scope.names (Eg X.env.cells scope.names [])) H2.objs.size X.env)) (RR (.ref s.heap.objs.size) H2.objs.size) s₃:=by
  rintro s₃ rfl
  refine Nu (λn t=>∃i a σ' H',Inv (Bg X N' scope H2.objs.size s H fp) [] σ' H' t/\tn i t.heap/\(∀b∈fp,H' b=none)/\W i n a σ' H') ?_ m0
   ⟨0,[],_,_,I0,M,λb hb=>by rw [Ay (W_ (let⟨_,e⟩:=ww b hb;N_ e))];exact(hf b hb).1,w0⟩
  rintro n s3 ⟨i,a,σ3,U,I3,G,F,w3⟩
  rcases L i n a σ3 U w3 with⟨stop,qn⟩ | ⟨go,N,hN,step⟩
  ·refine thn (T.done (Bg X N' scope H2.objs.size s H fp) rfl rfl rfl hc i [] s3 σ3 U _ I3 (ip F) G stop) λr s4 ⟨hr,D⟩=>?_
   subst hr
   refine hRR _ s4 U ?_ (let⟨m,hm,_⟩:=D.loc;⟨m,hm⟩) D.free (G_ I.sz R) (fL (U_ I.lt R)) (λx c e=>?_) (λq hq=>?_) qn
   ·exact I.call' D.os D.base D.hok D.bare λb hb=>let⟨_,f1,_,f3,f4,f5⟩:=hf b hb;⟨f3,f1,f4,f5⟩
   ·obtain⟨v,z⟩:=I.cell x c e
    exact W_ (U_ z.lt R)
   ·exact W_ (U_ (N_ (I.pin q hq).1) R)
  ·refine thn (T.item (Bg X N' scope H2.objs.size s H fp) rfl rfl rfl hc i [] s3 σ3 U _ I3 (ip F) G go) λr s4 ⟨u,hr,h4⟩=>?_
   subst hr
   refine thn h4 λ_ s5 vq=>?_
   obtain⟨x,H5,I5,r5,y5,k,fr5⟩:=vq
   have I5':=I5.pinned (ip fr5) (T.obj _ _ k)
   refine thn (hg _ _ _ _ _ s5 σ3 H5 x u _ I5' r5 (step x H5 y5)) λ_ s6 qx=>?_
   obtain⟨σ6,H6,I6,q6⟩:=qx
   refine thn (ht _ _ _ _ _ s6 σ6 H6 _ I6 q6) λb s7 ⟨H7,I7,P⟩=>?_
   have again:∀{σ8:St} {l:Hp} {nh:List V} {B:iW},Inv (Bg X N' scope H2.objs.size s H fp) ([]++Iw fp s5.heap) σ8 l B->(∃Y,Y < n/\W (i+1) Y nh σ8 l) ->
     ∃m,m < n/\∃i a σ' H',Inv (Bg X N' scope H2.objs.size s H fp) [] σ' H' B/\tn i B.heap/\(∀b∈fp,H' b=none)/\W i m a σ' H':=λ{σ8 l nh B} O hw=>by
    obtain⟨Y,hm,w8⟩:=hw
    refine⟨Y,hm,i+1,nh,σ8,l,O.unpinned,T.keep _ _ _ k λb hb o e=>(O.pin (b,o) (YK _ (YK _ (Er hb e)))).1,λb hb=>?_,w8⟩
    obtain⟨o,e,d⟩:=T.obj _ _ k b hb
    exact(O.pin (b,o) (YK _ (YK _ (Er hb e)))).2.1
   cases b with
   | false =>
    rw [J_ L_]
    rw [J_ L_]at P
    exact again I7 (hN _ _ _ P)
   | true =>
    rw [Q_ rfl]
    rw [Q_ rfl]at P
    refine thn (he _ _ _ _ _ s7 σ6 H7 _ I7 P) λy B vi=>?_
    obtain⟨v,l,O,r8,ac,e8,z8,w8⟩:=vi
    refine thn (Kx (X:=Bg X N' scope H2.objs.size s H fp) _ B σ6 l (.ref s.heap.objs.size) [v] (.ref s.heap.objs.size) [y] (λ_ H9=>H9=upd l s.heap.objs.size (.lst (ac++[v]))) O rfl (.cons r8 .nil) ⟨_,ac,v,rfl,rfl,e8,z8,rfl⟩) λ_ s9 qh=>?_
    obtain⟨_,H9,I9,_,e9⟩:=qh
    subst e9
    exact again I9 (hN _ _ _ w8)
 exact codeAny_compStart_list (j _ rfl) (T.self _ 0 _ _ _ M (j _ rfl))
theorem Yf(hc:X.calm=true)(B:PI X tg iter wi)(i:∀C s H a,PG (Bg X N' scope C s H a) tg g)(o:∀C s H a,PIfs (Bg X N' scope C s H a) d4 tst)(he:∀C s H a,PE (Bg X N' scope C s H a) fw te)
  (ok:CompOkC X.N X.env.scope.names scope.names N' mp) (hk:scope.kind=.function:=by rfl) (hs:∀x,foldedSetIterable iter X.env x=pure x:=by intro _;rfl) :
  PE X (.ListComp fw [⟨tg,iter,d4,0⟩] scope pos) (Wn mp wi g tst te):=by
 intro f s σ H Q I h
 rw [eval_ListComp]
 refine wpAny_comprehension_free (use:=none) rfl hs (Fv λx hx e=>I.ok.has x.1 (ok.free x hx e)) hk ok.loc (thn (B f s σ H _ I h) λv R h1=>thn h1 λF l h2=>?_)
 obtain⟨P,a,G,J,M,e,j,T,d,t,E⟩:=h2
 subst e
 refine Lq (Q:=λp b=>Q (.ref p) b) (RR:=λc C=>compPost (model X.prog X.w) X.A X.xe none (EP X f σ Q) c C) ok hk hc j T d t i o he E ?_
 intro C L b n D hn h1 k z y q
 obtain⟨m,u⟩:=D
 exact⟨m,u,λO r=>⟨.ref l.heap.objs.size,b,n.letgo hn h1 k z y r,rfl,q⟩⟩
theorem Yg{i:Nat}{y:Str}{d z:Pos}(hc:X.calm=true)(O:X.N.Nodup)(S:X.N[i]?=some y)(hy:X.env.scope.names.lookup y=some .local)
  (Y:PI X tg iter wi) (E:∀C s H c,PG (Bg X N' scope C s H c) tg g) (L:∀C s H c,PIfs (Bg X N' scope C s H c) d4 tst) (he:∀C s H c,PE (Bg X N' scope C s H c) fw te)
  (ok:CompOkC X.N X.env.scope.names scope.names N' mp) (W:swapsWith (.ListComp fw [⟨tg,iter,d4,0⟩] scope pos) (some (.Name y d)) z.line X.env=pure true:=by rfl)
  (hk:scope.kind=.function:=by rfl) (hs:∀x,foldedSetIterable iter X.env x=pure x:=by intro _;rfl) :
  PS X (.Assign [.Name y d] (.ListComp fw [⟨tg,iter,d4,0⟩] scope pos) z) (Zs (Wn mp wi g tst te) (Vy i)):=by
 intro n s σ H D I h
 rw [exec_Assign_Name_used _ _ _ _ W]
 refine A_ (wpAny_standAt (A_ ?_))
 show wpAny _ _ (do let _ <- comprehension (.ListComp fw [⟨tg,iter,d4,0⟩] scope pos) scope X.env _ (newList []) false (eval iter X.env) (some (assign (.Name y d) X.env))) _ _ s
 refine A_ (ZW (wpAny_comprehension_free (use:=some (assign (.Name y d) X.env)) (Q:=λ_ b=>SP X n D .next b) rfl hs (Fv λx hx e=>I.ok.has x.1 (ok.free x hx e)) hk ok.loc
  (thn (Y n s σ H _ I h) λv s1 h1=>thn h1 λwz u h2=>?_)) (λ_ b hq=>C_ (C_ hq)) λ_ _ e=>e)
 obtain⟨it,c,tn,J,H2,e,F,T,r,P,hw⟩:=h2
 subst e
 refine Lq (Q:=λp j=>D.nx (σ.set i (some (.ref p))) j) (RR:=λk C=>compPost (model X.prog X.w) X.A X.xe (some (assign (.Name y d) X.env)) (λ_ b=>SP X n D .next b) k C) ok hk hc F T r P E L he hw ?_
 intro C b j G Z hn h1 t B V q
 obtain⟨m,U⟩:=Z
 show wpAny _ _ (assign (.Name y d) X.env (.ref u.heap.objs.size)) _ _ b
 refine wpAny_assign_Name (Kr G O S (.inl hy) (v:=.ref u.heap.objs.size) rfl (λvy l R=>?_) (.inr hy))
 obtain⟨a,o,ha⟩:=R
 have f:C≠a:=by
  rcases ha with rfl | ha
  ·exact t
  ·exact(B _ _ ha).symm
 refine⟨m,U.sameBut o f,λh' M=>?_⟩
 exact⟨_,j,l.letgo hn h1 t B V M,q⟩
theorem Bl{wi:AI}{g:AG}{tst:AT}{te:AE}(hc:X.calm=true)(d:VI X tg iter wi)(b:∀C s H a,VG (Bg X N' scope C s H a) tg g)(c:∀C s H a,VIfs (Bg X N' scope C s H a) d4 tst)(he:∀C s H a,VE (Bg X N' scope C s H a) fw te)
  (ok:CompOkC X.N X.env.scope.names scope.names N' mp) (hk:scope.kind=.function:=by rfl) (hs:∀x,foldedSetIterable iter X.env x=pure x:=by intro _;rfl) :
  VE X (.ListComp fw [⟨tg,iter,d4,0⟩] scope pos) (W7 mp wi g tst te):=(Yf (g:=cG X.K g) (tst:=cT X.K tst) (te:=cE X.K te) hc d (λC s H a=>b C s H a) (λC s H a=>c C s H a) (λC s H a=>he C s H a) ok hk hs).imp λ_ _ _ h=>La h
theorem Fg{wi:AI}{g:AG}{tst:AT}{te:AE}{i:Nat}{y:Str}{b c:Pos}(hc:X.calm=true)(l:X.N.Nodup)(e:X.N[i]?=some y)(hy:X.env.scope.names.lookup y=some .local)
  (k:VI X tg iter wi) (d:∀C s H a,VG (Bg X N' scope C s H a) tg g) (j:∀C s H a,VIfs (Bg X N' scope C s H a) d4 tst) (he:∀C s H a,VE (Bg X N' scope C s H a) fw te)
  (ok:CompOkC X.N X.env.scope.names scope.names N' mp) (f:swapsWith (.ListComp fw [⟨tg,iter,d4,0⟩] scope pos) (some (.Name y b)) c.line X.env=pure true:=by rfl)
  (hk:scope.kind=.function:=by rfl) (hs:∀x,foldedSetIterable iter X.env x=pure x:=by intro _;rfl) :
  VS X (.Assign [.Name y b] (.ListComp fw [⟨tg,iter,d4,0⟩] scope pos) c) (Qg (W7 mp wi g tst te) (Dc i)):=(Yg (g:=cG X.K g) (tst:=cT X.K tst) (te:=cE X.K te) hc l e hy k (λC s H a=>d C s H a) (λC s H a=>j C s H a) (λC s H a=>he C s H a) ok f hk hs).imp λD σ H zz66=>G7 zz66 fun τ μ nk nr nb nc hs hc h hq =>
 La (K:=X.K) ⟨τ,μ,_,hs,hc,h,λx μ1 v H1 S1 c1 rx hx=>hq.nx _ _ _ _ S1 ((hs.kp S1).set rx i) c1 hx⟩
theorem Re(l:iY)(a:Array iV)(n:Nat)(b:iY)(o:Option iY)(k:Array (Option iV))(c:Array iV)(j:Nat)(m:¬(!a.isEmpty && Builtin.List.listTooLong (a.size+c.size))=true)(p:a.size<=sizeLine)(q:a.size+c.size<=sizeLine+1) :
  Meets (Builtin.«list.extend» ⟨[.ref l,.ref b],[]⟩) (λ_ R s=>s.heap.get? l=some { cls:=.type "list",dict:=none,data:=.seq a n,slots:=#[] }/\s.heap.get? b=some { cls:=.type "tuple",dict:=o,data:=.seq c j,slots:=k }/\R (.ok (.ret Value.none)) { s with heap:=s.heap.update l (Obj.mapSeq λx=>x++c),toks:=s.toks }) :=
 .of_wp λf w A R s h=>by
  obtain⟨hp,g,d,y,os⟩:=s
  obtain⟨e,hb,h⟩:=h
  have v:=AutoSeq1.idx_int
  have z:=AutoSeq1.sub_tuple_tuple
  have r:=AutoSeq1.sub_list_list
  have t:=AutoSeq1.sub_tuple_list
  have u:=AutoSeq1.sub_list_tuple
  have i:(a++c).size<=sizeLine+1:=by rw [iC];exact q
  wp_walk using (gQ e rfl (hz:=p) (_hz':=i)),AutoSeq1.wpAny_loadPart' e,AutoSeq1.wpAny_loadPart' hb
  exact⟨_,rfl,h⟩
def OX(K:iZ):V->List V->Hp->VK->Prop:=λx d H Q=>∃l b c a,x=.ref l/\d=[.ref b]/\H l=some (.lst c)/\Kf K H b a/\c.length+a.length<=sizeLine/\Q .non (upd H l (.lst (c++a)))
theorem DA:NF X "list.extend" (OX X.K):=by
 intro A s σ H x vs v us Q I rx rv h
 obtain⟨l,b,C,B,rfl,rfl,i,k,hz,q⟩:=h
 cases rx
 obtain⟨u,rfl,t⟩:=rv.one
 cases t
 obtain⟨z,c,n,r,D,e⟩:=I.lstM i
 obtain⟨a,j,⟨o,e2,hc,m,w⟩,_⟩:=I.tuple k
 obtain⟨y,f,E,os⟩:=o
 cases hc
 cases w
 have G:=j.length
 have d:c.toArray.size+a.toArray.size<=sizeLine:=by rw [XS,XS];omega
 have p:¬(!c.toArray.isEmpty && Builtin.List.listTooLong (c.toArray.size+a.toArray.size))=true:=by
  rw [Np d,Bool.and_false]
  exact L_
 refine iO F.slot_list_extend ⟨_,e,rfl⟩ F.entry_list_extend (F.args_list_extend_2 _ _)
  (Re l c.toArray n b f os a.toArray m p (by rw [XS];omega) (by omega)) ⟨e,e2,?_⟩
 refine⟨.non,_,I.lset (its':=c++a) i e (by simp) (r.append j) ?_,rfl,q⟩
 rw [I_]
 omega
def FS:AV->AC:=λx d μ R=>match x,d with
 | .R a,[.D (.tuple c)]=>opt (μ a) λm=>match m with
  | .lst b=>b.length+c.length<=sizeLine/\R (.D .none) (Al μ a (.lst (b++c.map .D)))
  | _=>False
 | _,_=>False
theorem JO:VMt X "list.extend" FS:=by
 intro f s σ H x xs v us Q I rx r zz37
 refine Ee zz37 λa t μ R ra rs hc h hq=>?_
 unfold FS at h
 split at h
 ·rename_i a q
  obtain⟨m,n,h⟩:=A0 h
  split at h
  ·cases rs with
   | cons k p =>
    cases p
    obtain⟨o,c,l,rfl,d⟩:=hc _ _ n
    obtain⟨b,i,rfl,hb,e⟩:=RelA.tup k
    cases (show x=.ref a from ra)
    have j:=e.length
    exact DA f s σ H _ _ v us Q I rx r ⟨a,b,l,i,rfl,rfl,c,hb.sq,by rw [<- d.length,j];exact h.1,hq _ _ _ _ (Kp.put c trivial _) (hc.put c trivial (Cv (d.append e.rel))) Jf h.2⟩
  ·exact h.elim
 ·exact h.elim
end
end L2
namespace L2
open PySem PySem.Spec PySem.Calls PyProof.Rows
abbrev RIt(h:jD)(it d:iY)(i n ep:Nat)(z:iV)(f:Bool)(ok ov:iV):Prop :=
 h.get? it=some { cls:=.type "dict_itemiterator",dict:=none,data:=.fields #[z,.bool f,.ref d,.int i 0,.int n 0,.int ep 0,ok,ov],slots:=#[] }
section
variable {prog:i_}{w:jA}{A:jC}{E:iV->iW->Prop}{s:iW}{d it v:iY}{es:Array DictEntry}{ep i:Nat}{z ok ov:iV}{f:Bool}{R:jK->iW->Prop}{X:Cx}{k:Nat}{aa:List (iY×jE)}{σ:St}{H:Hp}{o:jB}{aq aj n5 pos:Pos}
theorem Vd(a:(d==sysModules)=false):MeetsIn prog w (Builtin.«dict.items» ⟨[.ref d],[]⟩) (λ_ R s=>(∃es ep,Fe s.heap d es ep)/\R (.ok (.ret (.ref s.heap.objs.size))) { s with heap:=s.heap.push { cls:=.type "dict_items",data:=.fields #[.ref d] } }) :=
 .of_wp λA R s ⟨⟨_,_,b⟩,h⟩=>by
  unfold Builtin.«dict.items» Builtin.Dict.noArgs
  refine A_ (A_ (gC b.ty (show wpAny _ _ (pure d) _ _ s from C_ ?_)))
  show wpAny _ _ (Builtin.Dict.showsAll d >>= _) _ _ s
  unfold Builtin.Dict.showsAll
  rw [a,J_ L_]
  exact A_ (C_ (A_ (YF (C_ ⟨_,rfl,h⟩))))
theorem Ve{Q:iV->iW->Prop}(hv:s.heap.IsItemsView v d)(c:Fe s.heap d es ep)
  (q:Q (.ref s.heap.objs.size) { s with heap:=s.heap.push { cls:=.type "dict_itemiterator",data:=.fields #[.none,.bool false,.ref d,.int 0 0,.int es.size 0,.int ep 0,.none,.none] } }):wpAny (model prog w) A (pyIter (.ref v)) Q E s:=by
 obtain⟨e,b,_,e2⟩:=id hv
 obtain⟨o,h1,_,a⟩:=id c
 refine eE hv.typeIs F.slot_dict_items_iter (YS F.slot_dict_items_iter hv.typeIs F.entry_dict_items_iter ?_ (F.args_dict_items_iter_1 _))
 unfold Builtin.«dict_items.__iter__» Builtin.Dict_items.dictOf Builtin.Dict_items.newIterator
 refine A_ (C_ (A_ (A_ (dN b e2 (x:=.ref d) rfl (C_ (A_ (A_ (bX h1 a (A_ (dY h1 a ?_))))))))))
 simp only [show Builtin.Dict_items.ownsTuple "dict_itemiterator" = true by decide,if_true]
 refine YF (C_ ⟨_,rfl,"dict_itemiterator",_,⟨_,R_ _ rfl,rfl⟩,F.slot_dict_itemiterator_next.lookup,?_⟩)
  (by simp only [sizeOk,Builtin.Dict_items.ownedTupleFields,List.size_toArray,List.length_append,List.length_cons,List.length_nil,sizeLine_eq];exact Nat.le_add_left _ _)
 simpa [rawInt,Builtin.Dict_items.ownedTupleFields] using q
theorem Vf{Q:Option iV->iW->Prop}(C:RIt s.heap it d i es.size ep z f ok ov)(hz:(z=.none/\f=false)\/∃(a:iY) (N:jE),z=rawInt a/\s.heap.get? a=some N/\a≠it)(hm:Fe s.heap d es ep)(hi:i < es.size)
  (hQ:∀D l r G B,RIt D it d (i+1) es.size ep l r G B->((z=.none/\l=rawInt s.heap.objs.size/\r=false)\/∃a:iY,z=rawInt a/\l=rawInt a)->D.get? s.heap.objs.size=some { cls:=.type "tuple",data:=.seq #[es[i].key,es[i].val] }->D.objs.size=s.heap.objs.size+1 ->
   (∀b o,b≠it->s.heap.get? b=some o->D.get? b=some o)->Q (some (.ref s.heap.objs.size)) { s with heap:=D }):wpAny (model prog w) A (pyNext (.ref it)) Q E s:=by
 obtain⟨hp,g,u,y,os⟩:=s
 obtain⟨od,h1,_,h3⟩:=id hm
 have T:Shared.TypeIs ⟨hp,g,u,y,os⟩ (.ref it) "dict_itemiterator" := ⟨_,C,rfl⟩
 unfold pyNext
 refine A_ (dZ (ZZ (name:=Str.ofString "__next__") T F.slot_dict_itemiterator_next (YS F.slot_dict_itemiterator_next T F.entry_dict_itemiterator_next ?_ (F.args_dict_itemiterator_next_1 _))))
 refine A_ (C_ (A_ (A_ ?_)))
 first | refine A_ (bR T (C_ (A_ (bL C rfl ?_)))) | refine A_ (cN T (C_ (A_ (bL C rfl ?_))))
 simp only [show Builtin.Dict_items.ownsTuple "dict_itemiterator" = true by decide,if_true]
 show wpAny (model prog w) _ (if(Value.ref d==Value.none)=true then _ else _) _ _ _
 rw [J_ (by exact L_)]
 refine A_ (C_ (A_ (bX h1 h3 ?_)))
 rw [J_ (by simp)]
 refine A_ (C_ (A_ (dY h1 h3 ?_)))
 rw [J_ (by simp)]
 refine C_ ?_
 simp only [show ¬((i:Int) < 0) by omega,if_false,Int.toNat_natCast,Array.getElem?_eq_getElem hi]
 refine A_ ?_
 first | refine A_ (bR T (C_ (A_ (dX T ?_)))) | refine A_ (cN T (C_ (A_ (dX T ?_))))
 show wpAny (model prog w) _ (setField (.ref it) 3 (rawInt ((i:Int)+1)) >>= _) _ _ ⟨hp,g,u,y,os⟩
 refine A_ (cL C (by simp) λn I J=>?_)
 replace J:Heap.SameBut it hp n:=J
 replace I:RIt n it d (i+1) es.size ep z f ok ov:=by
  unfold RIt
  rw [show((i+1:Nat):Int)=(i:Int)+1 by omega]
  simpa [rawInt] using I
 have P:Shared.TypeIs ⟨n,g,u,y,os⟩ (.ref it) "dict_itemiterator" := ⟨_,I,rfl⟩
 refine A_ (ZF (A_ (dX P (A_ (dX P ?_)))))
 show wpAny (model prog w) _ (Builtin.Dict_items.pairFromOwner (.ref it) 6 es[i].key es[i].val) _ _ ⟨n,g,u,y,os⟩
 unfold Builtin.Dict_items.pairFromOwner
 refine A_ (wpAny_newTuple ?_)
 have j:RIt (n.push { cls:=.type "tuple",data:=.seq #[es[i].key,es[i].val] }) it d (i+1) es.size ep z f ok ov:=DD _ I
 generalize M:n.push { cls:=.type "tuple",data:=.seq #[es[i].key,es[i].val] }=t at j
 have L:n.objs.size=hp.objs.size:=J.1
 have il:it < hp.objs.size:=N_ C
 have t2:t.get? hp.objs.size=some { cls:=.type "tuple",data:=.seq #[es[i].key,es[i].val] }:=by rw [<- M,<- L];exact R_ _ rfl
 have z2:t.objs.size=hp.objs.size+1:=by rw [<- M,a_,L]
 have Y:∀b o,b≠it->hp.get? b=some o->t.get? b=some o:=λb o hb e=>by rw [<- M];exact DD _ (J.extBut b o hb e)
 show wpAny (model prog w) _ (Builtin.Dict_items.ownedTupleIsFree (.ref it) >>= _) _ _ ⟨t,g,u,y,os⟩
 rw [L]
 clear M I J P L n
 have q:∀(h:jD) l r G B,RIt h it d (i+1) es.size ep l r G B->((z=.none/\l=rawInt hp.objs.size/\r=false)\/∃a:iY,z=rawInt a/\l=rawInt a)->Heap.SameBut it t h->Q (some (.ref hp.objs.size)) ⟨h,g,u,y,os⟩:=λh l r G B m c p =>
  hQ h l r G B m c (p.extBut _ _ (fL il) t2) (by show h.objs.size=_;rw [p.1,z2]) λb o hb e=>p.extBut b o hb (Y b o hb e)
 refine A_ ?_
 unfold Builtin.Dict_items.ownedTupleIsFree
 rcases hz with⟨rfl,rfl⟩ | ⟨a,N,rfl,ha,O⟩
 ·refine A_ (dN j rfl (x:=.none) rfl (C_ ?_))
  simp only [if_true]
  refine A_ (dN j rfl (x:=ok) rfl (A_ (dN j rfl (x:=ov) rfl ?_)))
  refine A_ (cL j (by simp) λh m p=>?_)
  replace m:RIt h it d (i+1) es.size ep .none false es[i].key ov:=m
  refine A_ (cL m (by simp) λk4 V s4=>?_)
  replace V:RIt k4 it d (i+1) es.size ep .none false es[i].key es[i].val:=V
  refine A_ (cL V (by simp) λk5 U s5=>?_)
  replace U:RIt k5 it d (i+1) es.size ep (rawInt hp.objs.size) false es[i].key es[i].val:=U
  refine A_ (cL U (by simp) λZ S s6=>?_)
  replace S:RIt Z it d (i+1) es.size ep (rawInt hp.objs.size) false es[i].key es[i].val:=S
  exact A_ (wpAny_letGo (C_ (C_ ⟨_,rfl,C_ (q Z _ _ _ _ S (.inl ⟨rfl,rfl,rfl⟩) (((Heap.SameBut.trans p s4).trans s5).trans s6))⟩)))
 ·refine A_ (dN j rfl (x:=rawInt a) rfl ?_)
  show wpAny (model prog w) _ (loadIfAlive ((a:Int).toNat) >>= _) _ _ _
  rw [bI]
  refine A_ (PySem.W.kdx_alive (Y a N O ha) ?_)
  simp only [Option.isNone_some,Bool.false_eq_true,if_false]
  refine A_ (dN j rfl (x:=.bool f) rfl ?_)
  cases f with
  | true =>
   rw [J_ (by exact L_)]
   refine C_ ?_
   simp only [Bool.false_eq_true,if_false]
   exact C_ (C_ ⟨_,rfl,C_ (q t _ _ _ _ j (.inr ⟨a,rfl,rfl⟩) (Heap.SameBut.refl _ _))⟩)
  | false =>
   rw [Q_ (by rfl)]
   refine A_ (cL j (by simp) λh m p=>C_ ?_)
   replace m:RIt h it d (i+1) es.size ep (rawInt a) true ok ov:=m
   simp only [Bool.false_eq_true,if_false]
   exact C_ (C_ ⟨_,rfl,C_ (q h _ _ _ _ m (.inr ⟨a,rfl,rfl⟩) p)⟩)
theorem Yh{Q:Option iV->iW->Prop}(h:A.handled=none)(c:RIt s.heap it d es.size es.size ep z f ok ov)(j:Fe s.heap d es ep)(q:∀e,Heap.ExtBut it s.heap e->Q none { s with heap:=e }):wpAny (model prog w) A (pyNext (.ref it)) Q E s:=by
 obtain⟨l,h1,_,g⟩:=id j
 have T:s.TypeIs (.ref it) "dict_itemiterator" := ⟨_,c,rfl⟩
 unfold pyNext
 refine A_ (dZ (ZZ (name:=Str.ofString "__next__") T F.slot_dict_itemiterator_next (YS F.slot_dict_itemiterator_next T F.entry_dict_itemiterator_next ?_ (F.args_dict_itemiterator_next_1 _))))
 refine A_ (C_ (A_ (A_ ?_)))
 first | refine A_ (bR T (C_ (A_ (bL c rfl ?_)))) | refine A_ (cN T (C_ (A_ (bL c rfl ?_))))
 simp only [show Builtin.Dict_items.ownsTuple "dict_itemiterator" = true by decide,if_true]
 show wpAny (model prog w) _ (if(Value.ref d==Value.none)=true then _ else _) _ _ s
 rw [J_ (by exact L_)]
 refine A_ (C_ (A_ (bX h1 g ?_)))
 rw [J_ (by simp)]
 refine A_ (C_ (A_ (dY h1 g ?_)))
 rw [J_ (by simp)]
 refine C_ ?_
 simp only [show ¬((es.size:Int) < 0) by omega,if_false,Int.toNat_natCast,Array.getElem?_eq_none (Nat.le_refl es.size)]
 refine A_ ?_
 first | refine A_ (bR T (C_ ?_)) | refine A_ (cN T (C_ ?_))
 show wpAny (model prog w) _ (setField (.ref it) 2 .none >>= _) _ _ s
 refine A_ (hJ c rfl (by simp) (show wpAny _ _ (newExc (.type "StopIteration") [] >>= _) _ _ _ from A_ ?_))
 simp only [newExc,newTuple]
 refine A_ (YF (A_ (m:=firstArgMember _ _) (iS (a:=Value.none) (by first | rfl | (simp only [firstArgMember];rfl)) (YF ?_ (by size_fits)))) (by size_fits))
 simp only [raiseNew]
 refine A_ (wpAny_handled (?_:_));rw [show A.in1.handled=none from h];refine A_ (C_ (wpAny_throw ?_))
 refine A_ (bQ (T := "StopIteration") (b:=true) (by exact⟨_,R_ _ rfl,rfl⟩) isSubtype_stop ?_)
 exact C_ (q _ (((YT ..).extBut.push _).push _))
theorem Vg:HL X "dict.items" (λx p H Q=>∃a c,x=.ref a/\p=[]/\H a=some (.dT c)/\∀v,H v=none->Q (.ref v) (upd H v (.ext λh=>h.IsItemsView v a))):=by
 intro aa s σ H x xs v us Q I rx r h
 obtain⟨a,c,rfl,rfl,ha,q⟩:=h
 cases rx
 have n:=Vals.zero r
 subst n
 obtain⟨hz,g,t,m,o,es,ep,h1,h2,l,y,_⟩:=Ry I.hok ha
 have j:Fe s.heap a es ep:=⟨o,h1,h2,l⟩
 refine iQ PySem.F.slot_dict_items j.ty PySem.F.entry_dict_items (PySem.F.args_dict_items_1 _) (Vd g) ⟨⟨es,ep,j⟩,?_⟩
 refine⟨.ref s.heap.objs.size,_,I.laid (t':=s.toks) (o:=.ext λh=>h.IsItemsView s.heap.objs.size a) (λb u q=>DD _ q) (E_ _) ?_,rfl,q _ (I.hok.fresh (E_ _))⟩
 exact⟨⟨_,R_ _ rfl,rfl,rfl⟩,⟨_,R_ _ rfl⟩,λh1 h2 ⟨o,e,r⟩ k=>⟨o,k o e,r⟩⟩
theorem Inv.freezeT{a:iY}{h:jE}{b:List (List Key×V)}(I:Inv X aa σ H s)(e:H a=some (.dT b))(l:s.heap.get? a=some h):Inv X aa σ (upd H a (.frz h (.dT b))) s:=by
 obtain⟨z,r,j,g,o,es,ep,h1,h2,q,p,n⟩:=(show Bs X.prog X.w H s.heap a (.dT b) from I.hok a _ e)
 refine Gj (h':=s.heap) (t':=s.toks) I (by rw [e];exact True.intro) (Heap.SameBut.refl _ _) ⟨h,l⟩ ⟨l,z,r,j,KT.keeps (show KT H b j from g) λc t m=>?_,o,es,ep,h1,h2,q,p,n⟩
 rw [Ay (Nm m e (λz=>nomatch z))]
 exact m
def Iit(d:iY)(c:jE)(a:List (List Key×V)):It :=
 ⟨λi H => H d = some (.frz c (.dT a)) /\ i < a.length,
  λi H v e => ∃ T b k y, H T = none /\ v = .ref T /\ a[i]? = some (k, y) /\ H b = some (.tup (k.map kV)) /\ e = upd H T (.tup [.ref b, y]),
  λi H => H d = some (.frz c (.dT a)) /\ a.length = i⟩
theorem J3:PySem.entryFor PySem.table "dict_itemiterator.__iter__" = some Builtin.«dict_keyiterator.__iter__»:=PySem.entryFor_alias (id' := "dict_keyiterator.__iter__") (by kernel_rfl) rfl (by decide +kernel) (by kernel_rfl)
theorem Io{prog:i_}{w:jA}{A:jC}{E:iV->iW->Prop}{s:iW}{it d:iY}{i n ep:Nat}{ok ov:iV}{Q:iV->iW->Prop}(b:IsItemIter s.heap it d i n ep ok ov)(h:Q (.ref it) s):wpAny (model prog w) A (pyIter (.ref it)) Q E s:=by
 have a:s.TypeIs (.ref it) "dict_itemiterator" := ⟨_,b,rfl⟩
 refine eE a eZ (YS eZ a J3 ?_ (PySem.F.args_dict_itemiterator_iter_1 _))
 show wpAny _ _ (ret (.ref it)) _ _ s
 exact C_ ⟨_,rfl,"dict_itemiterator",_,a,PySem.F.slot_dict_itemiterator_next.lookup,h⟩
theorem Rf{P:i_}{w:jA}{K:iZ}{Y:List jB}{k:Nat}{pos:Pos}(d it:iY)(p:jE)(c:List (List Key×V))(es:Array DictEntry)(ep:Nat)(y:p.data=.dict es ep)(hsz:es.size=c.length) :
  Turn P w K (.Tuple Y k pos) (Iit d p c) [it] it (λi h=>∃ok ov,IsItemIter h it d i es.size ep ok ov) where
 mem:=by simp
 obj:=λi h st b hb=>by
  have e:b=it:=by simpa using hb
  subst e
  obtain⟨ok,ov,st⟩:=st
  exact⟨_,st,λv z=>nomatch z⟩
 keep:=λi h x st k=>let⟨ok,ov,st⟩:=st;⟨ok,ov,k it (by simp) _ st⟩
 item:=by
  intro X D n G hc i aa s σ H E I hf st hg
  subst D n G
  obtain⟨ok,ov,m⟩:=st
  obtain⟨F,hlt⟩:=hg
  obtain⟨r,z,hd,g,j,o,ck,L,h1,h2,t,N,h5⟩:=(show Bs X.prog X.w H s.heap d (.frz p (.dT c)) from I.hok d _ F)
  rw [r]at h1
  cases h1
  rw [y]at t
  cases t
  have O:i < es.size:=by omega
  have Z:=aB j
  have hx:g[i]?=some g[i]:=M_ (by omega)
  have n:c[i]?=some c[i]:=M_ hlt
  obtain⟨x',M,r1,r2,r3⟩:=Ga j n
  rw [hx]at M
  cases M
  have se:es[i]=entryOfKey (tupleKind (Aw X.prog X.w)) g[i]:=by
   have e2:=ZX (λl=>l[i]?) N
   simp only [Array.getElem?_toList,Array.getElem?_eq_getElem O,List.getElem?_map,hx,Option.map_some]at e2
   exact YO e2
  refine Vf (z:=.none) (f:=false) m (.inl ⟨rfl,rfl⟩) ⟨p,r,h2,y⟩ O λx z' f' on om ki gq hT fm B=>?_
  have J:z'=rawInt s.heap.objs.size/\f'=false:=by
   rcases gq with⟨_,h⟩ | ⟨a,h,_⟩
   ·exact h
   ·cases h
  obtain⟨rfl,rfl⟩:=J
  refine⟨_,rfl,wpAny_letOwnedTupleGo_items ki λu C T=>?_⟩
  have I1:Inv X aa σ H { s with heap:=x,toks:=s.toks }:=I.turnedL (fp:=[it]) (λb o hb e=>B b o (λq=>hb (by simp [q])) e) hf
  have I2:Inv X aa σ H { s with heap:=u,toks:=s.toks }:=I1.turnedL (s:={ s with heap:=x,toks:=s.toks }) (t':=s.toks) (fp:=[it]) (λb o hb e=>T.extBut b o (λq=>hb (by simp [q])) e) hf
  have S:Il X aa H s.heap.objs.size:=I.fpOk (E_ _) (I.hok.fresh (E_ _))
  have W:it < s.heap.objs.size:=N_ m
  have U:u.get? s.heap.objs.size=some { cls:=.type "tuple",data:=.seq #[es[i].key,es[i].val] }:=T.extBut _ _ (fL W) hT
  rw [se]at U
  refine⟨.ref s.heap.objs.size,upd H s.heap.objs.size (.tup [.ref g[i].2.1,c[i].2]),I2.track S ⟨by show 2<=sizeLine;decide,[.ref g[i].2.1,g[i].2.2],.cons rfl (.cons r3 .nil),_,U,rfl,_,rfl⟩,rfl,⟨s.heap.objs.size,g[i].2.1,c[i].1,c[i].2,S.1,rfl,n,r2,rfl⟩,⟨_,_,C⟩,λb hb=>?_⟩
  have e:b=it:=by simpa using hb
  subst e
  rw [Ay (W_ W)]
  exact(hf b hb).1
 done:=by
  intro X D n G hc i aa s σ H E I hf st hg
  subst D n G
  obtain⟨ok,ov,m⟩:=st
  obtain⟨F,rfl⟩:=hg
  obtain⟨r,z,hd,g,j,o,ck,L,h1,h2,t,N,h5⟩:=(show Bs X.prog X.w H s.heap d (.frz p (.dT c)) from I.hok d _ F)
  rw [r]at h1
  cases h1
  rw [y]at t
  cases t
  rw [<- hsz]at m
  exact Yh (I.ok.hd hc) m ⟨p,r,h2,y⟩ λx B=>⟨rfl,I.turnedL (t':=s.toks) (fp:=[it]) (λb o hb e=>B b o (λq=>hb (by simp [q])) e) hf⟩
 self:=λA i s Q E st h=>let⟨_,_,m⟩:=st;Io m h
def Ge(μ:M)(a:iY):M:=λb=>if b=a then none else μ b
theorem Dm{μ:M}{a b:iY}(h:b≠a):Ge μ a b=μ b:=J_ h
def OY:V->List V->Hp->VK->Prop:=λx c H Q=>∃a b,x=.ref a/\c=[]/\H a=some (.dT b)/\∀v,H v=none->Q (.ref v) (upd H v (.ext λh=>h.IsItemsView v a))
def WU(K:iZ)(g:TE):TI:=fun σ H R=>NE K "dict" OY g σ H λv b=>∃a c vv,v=.ref vv/\b vv=some (.ext λh=>h.IsItemsView vv a)/\b a=some (.dT c)/\∀e,R (Iit a e c) (upd b a (.frz e (.dT c)))
theorem Yi{G:List jB}{P:Nat}{y:TE}(M:PE X o y)(N:attributeBase o "items" X.env (eval o X.env)=eval o X.env:=by rfl) (Q:(aq.endLine==aj.line)=true:=by rfl) :
  PI X (.Tuple G P n5) (.Call (.Attribute o "items" aq) [] [] aj) (WU X.K y):=by
 intro aa s σ H R I h
 refine thn (Qa (T := "dict") (r:=OY) fJ PySem.F.slot_dict_items PySem.F.type_dict_items Vg M N Q aa s σ H _ I h) λv c J=>?_
 obtain⟨x,p,j,O,a,l,vv,rfl,hv,ha,q⟩:=J
 cases O
 obtain⟨g,_,_⟩:=(show Bs X.prog X.w p c.heap vv (.ext λh=>h.IsItemsView vv a) from j.hok vv _ hv)
 obtain⟨hz,B,S,t,n,es,ep,h1,h2,C,L,U⟩:=(show Bs X.prog X.w p c.heap a (.dT l) from j.hok a _ ha)
 refine Ve g ⟨n,h1,h2,C⟩ ?_
 have u:es.size=l.length:=by
  have e:=ZX List.length L
  rw [B_]at e
  rw [aB t,<- e];simp
 have D:=j.kept (t':=c.toks) (h':=c.heap.push { cls:=.type "dict_itemiterator",data:=.fields #[.none,.bool false,.ref a,.int 0 0,.int es.size 0,.int ep 0,.none,.none] }) λb V e=>DD _ e
 have m:=j.hok.fresh (E_ c.heap.objs.size)
 have f:=j.fpOk (E_ _) m
 refine⟨c.heap.objs.size,[c.heap.objs.size],_,_,upd p a (.frz n (.dT l)),rfl,D.freezeT ha (DD _ h1),Rf a _ n l es ep C u,⟨.none,.none,R_ _ rfl⟩,λb hb=>?_,q n⟩
 have e:b=c.heap.objs.size:=by simpa using hb
 subst e
 exact⟨by rw [Ay (λz=>by rw [z]at m;rw [ha]at m;cases m)];exact f.1,f.2⟩
def LP(g:AGs)(a:AS)(k:ASt->M->Prop)(r:AV->M->Prop):List (List Key×AV)->ASt->M->Prop
 | []=>k
 | p :: b=>fun τ μ=>g [.D (.tuple (p.1.map JH)),p.2] τ μ fun τ2 μ2=>a (LP g a k r b) r k (LP g a k r b) τ2 μ2
def OZ(c:AE)(g:AGs)(e:AS):AS:=λk r _ _ τ μ=>c τ μ λx μ1=>match x with
 | .R a=>opt (μ1 a) λm=>match m with
  | .dt b=>LP g e k r b τ (Ge μ1 a)
  | _=>False
 | _=>False
theorem Td{F:List jB}{kt:Nat}{n:List jF}{td:AE}{g:AGs}{Q:AS}(hp:PassesOwn (model X.prog X.w) X.A X.env X.xe)(Z:X.calm=true)(hd:VE X o td)(hg:VGs X F g)(hb:VSs X n Q)
  (hn:(assignEach F X.env).length=2:=by rfl) (bh:(assignEach F X.env).findIdx? (·.1)=none:=by rfl) (y4:∀x,foldedSetIterable (.Call (.Attribute o "items" aq) [] [] aj) X.env x=pure x:=by intro _;rfl)
  (bd:attributeBase o "items" X.env (eval o X.env)=eval o X.env:=by rfl) (be:(aq.endLine==aj.line)=true:=by rfl) :
  VS X (.For (.Tuple F kt n5) (.Call (.Attribute o "items" aq) [] [] aj) n [] pos) (OZ td g Q) :=
 (V4 hp Z (Yi hd bd be) (Ps Z hg hn bh) hb y4).imp λD σ H zz64=>G7 zz64 fun τ μ nk nr nb nc Y hc h hq=>by
 refine⟨τ,μ,_,Y,hc,h,λx μ1 v H1 S1 c1 rx hx=>?_⟩
 split at hx
 ·rename_i a
  obtain⟨m,em,hx⟩:=A0 hx
  split at hx
  ·rename_i c
   obtain⟨ob,u,j,rfl,rk⟩:=c1 _ _ em
   cases (show v=.ref a from rx)
   refine⟨.inr (.inr (.inl ⟨rfl,.inr ⟨j,u⟩⟩)),a,j,rfl,rfl,u,λvv C=>?_⟩
   have O:a≠vv:=λz=>by rw [z]at u;rw [u]at C;cases C
   have dy:upd H1 vv (.ext λh=>h.IsItemsView vv a) a=some (.dT j):=by rw [Ay O];exact u
   refine⟨a,j,vv,rfl,B2,dy,λB=>?_⟩
   have q:Kp H1 (upd (upd H1 vv (.ext λh=>h.IsItemsView vv a)) a (.frz B (.dT j))):=(Kp.new C _).trans (Kp.put dy trivial _)
   have c2:Cn X.K (Ge μ1 a) (upd (upd H1 vv (.ext λh=>h.IsItemsView vv a)) a (.frz B (.dT j))):=λb m' e=>by
    have r:b≠a:=λz=>by rw [z]at e;unfold Ge at e;rw [Q_ rfl]at e;cases e
    rw [Dm r]at e
    obtain⟨o',e',r'⟩:=c1 b m' e
    exact⟨o',by rw [Ay r,Ay (B7 e' C)];exact e',r'.kp q⟩
   have V:upd (upd H1 vv (.ext λh=>h.IsItemsView vv a)) a (.frz B (.dT j)) a=some (.frz B (.dT j)):=B2
   have M:=rk.kp q
   generalize upd (upd H1 vv (.ext λh=>h.IsItemsView vv a)) a (.frz B (.dT j))=H2 at q c2 V M
   have hl:=aB M
   refine Wp j.length (λi σ1 H'=>∃ τ1 μ',Kp H2 H'/\Dy X.K H' τ1 σ1/\Cn X.K μ' H'/\LP g Q nk nr (c.drop i) τ1 μ') ⟨τ,_,Kp.refl,Y.kp (S1.trans q),c2,hx⟩ ?_ ?_ ?_
   ·rintro i σ1 H' hi ⟨τ1,μ',p,I,l,h1⟩
    exact⟨p.f _ _ _ V,hi⟩
   ·rintro σ1 H' ⟨τ1,μ',p,I,l,h1⟩
    rw [<- hl,dI]at h1
    exact⟨⟨p.f _ _ _ V,rfl⟩,hq.nx _ _ _ _ (S1.trans (q.trans p)) I l h1⟩
   ·rintro i v' σ1 H' H'' hi ⟨τ1,μ',p,I,l,h1⟩ ⟨T,b,k,y,hT,rfl,hw,i4,rfl⟩
    have i9:i < c.length:=by omega
    rw [YV i9]at h1
    obtain⟨q',e1,r1,r2⟩:=Ga M (M_ i9)
    rw [hw]at e1
    cases e1
    have G:Kp H' (upd H' T (.tup [.ref b,y])):=Kp.new hT _
    refine⟨T,[.ref b,y],rfl,Kf.of B2,rfl,[.D (.tuple (c[i].1.map JH)),c[i].2],τ1,μ',_,.cons ?_ (.cons (r2.kp (p.trans G)) .nil),I.kp G,l.over hT,h1,fun τ3 μ3 σ3 H3 S5 P L h3=>⟨τ3,μ3,_,_,_,_,P,L,h3,?_⟩⟩
    ·have W:c[i].1=k:=r1
     rw [W]
     exact Jd (G.t _ _ i4) (Q8 _)
    have S:Kp H2 H3:=p.trans (G.trans S5)
    have S0:Kp H H3:=S1.trans (q.trans S)
    exact⟨fun τ' μ'' σ' H4 S' U J N=>⟨τ',μ'',S.trans S',U,J,N⟩,hq.rt.kp S0,hq.nx.kp S0,fun τ' μ'' σ' H4 S' U J N=>⟨τ',μ'',S.trans S',U,J,N⟩⟩
  ·exact hx.elim
 ·exact hx.elim
theorem Yj{g:AGs}{a:AS}{k:ASt->M->Prop}{r:AV->M->Prop}{kvs:List (List Key×AV)}{τ:ASt}{μ:M}(I:Nat->ASt->M->Prop)(l:I 0 τ μ)
  (step:∀i p τ μ (W:ASt->M->Prop),kvs[i]?=some p->I i τ μ->(∀ τ' μ',I (i+1) τ' μ'->W τ' μ')->g [.D (.tuple (p.1.map JH)),p.2] τ μ fun τ2 μ2=>a W r k W τ2 μ2)
  (done:∀ τ μ,I kvs.length τ μ->k τ μ):LP g a k r kvs τ μ:=by
 have b:∀n i τ μ,n+i=kvs.length->I i τ μ->LP g a k r (kvs.drop i) τ μ:=by
  intro n
  induction n with
  | zero =>
   intro i τ μ hn hI
   have e:i=kvs.length:=by omega
   subst e
   rw [dI]
   exact done τ μ hI
  | succ n j =>
   intro i τ μ hn hI
   have c:i < kvs.length:=by omega
   rw [YV c]
   exact step i _ τ μ _ (M_ c) hI fun τ' μ' h=>j (i+1) τ' μ' (by omega) h
 have:=b kvs.length 0 τ μ (by omega) l
 rwa [List.drop_zero]at this
end
end L2
namespace L2
open PySem PySem.Spec PyProof.Rows
end L2
namespace K24
open PySem L2
def top(i:Nat):jF:=PySem.Challenge.pw_pileduel_k24_what_follows.main.body.getD i (.Pass ⟨0,0,0,0⟩)
abbrev LQ:jF:=top 2
abbrev JP:jF:=top 3
abbrev LR:jF:=top 4
abbrev LU:jF:=top 5
abbrev LW:jF:=top 6
abbrev LX:jF:=top 7
abbrev LY:jF:=top 8
abbrev LZ:jF:=top 9
abbrev MA:jF:=top 11
abbrev FT:jF:=top 12
abbrev MB:jF:=top 14
abbrev JQ:jF:=top 15
abbrev FU:jF:=top 16
abbrev MC:jF:=top 17
abbrev FV:jF:=top 19
abbrev MD:jF:=top 20
abbrev JR:jF:=top 21
abbrev Zh:jF:=top 22
abbrev JS:jF:=top 25
abbrev JT:jF:=top 26
abbrev JU:jF:=top 27
abbrev JV:jF:=top 28
abbrev DB:jF:=top 29
abbrev Kn:jF:=top 30
section
variable {P:i_}{w:jA}{K:iZ}{mg:Str->Option iV}{base:jD}{f:iY}{fd:jG}
def Gf(i:Int):AV:=.D (.int i)
def Fx(a b:Int)(l:iY):MO:=.dk [(.inr "seed",.D (.int a)),(.inr "number",.D (.int b)),(.inr "left",.R l)]
structure PotAt(μ:M)(a l:iY)(sd nm:Int)(ns:List Int):Prop where
 ha:μ a=some (Fx sd nm l)
 hl:μ l=some (.lst (ns.map Gf))
 s0:0<=sd
 s1:sd < 2147483648
 n0:0<=nm
 p0:∀n∈ns,0<=n
 ne:a≠l
def Pot(μ:M)(a l:iY):Prop:=∃c d b,PotAt μ a l c d b
theorem UM:(.inr "seed" : Key)≠.inr "number" := by decide +kernel
theorem UN:(.inr "seed" : Key)≠.inr "left" := by decide +kernel
theorem UO:(.inr "number" : Key)≠.inr "left" := by decide +kernel
theorem PB:("seed" : Str) ≠ "number" := by decide +kernel
theorem UP:("seed" : Str) ≠ "left" := by decide +kernel
theorem UQ:("number" : Str) ≠ "left" := by decide +kernel
theorem Rg{a b:Int}{l:iY}:dget (Fx a b l) (.str "seed")=some (some (.D (.int a))):=ZX some Da
theorem FW{b a:Int}{l:iY}:dget (Fx b a l) (.str "number")=some (some (.D (.int a))):=ZX some ((Ct UM).trans Da)
theorem Yk{a b:Int}{l:iY}:dget (Fx a b l) (.str "left")=some (some (.R l)):=ZX some ((Ct UN).trans ((Ct UO).trans Da))
theorem JW{b a v:Int}{l:iY}:dput (Fx b a l) (.str "seed") (.D (.int v))=some (Fx v a l):=by
 refine ZX some (ZX MO.dk ?_)
 simp [E9,PB.symm,UP.symm]
theorem FX{a b v:Int}{l:iY}:dput (Fx a b l) (.str "number") (.D (.int v))=some (Fx a v l):=by
 refine ZX some (ZX MO.dk ?_)
 simp [E9,PB,UQ.symm]
theorem M4{a b:Int}{l:iY}:dsize (Fx a b l) < sizeLine:=Ax (n:=3) (by decide)
def Bi(a l:iY)(μ μ':M):Prop:=∀b m,b≠a->b≠l->μ b=some m->μ' b=some m
theorem Bi.refl{a l:iY}{μ:M}:Bi a l μ μ:=λ_ _ _ _ h=>h
theorem Bi.trans{a l:iY}{μ ν ρ:M}(h:Bi a l μ ν)(k:Bi a l ν ρ):Bi a l μ ρ:=λb m h1 h2 e=>k b m h1 h2 (h b m h1 h2 e)
theorem Bi.new{a l p:iY}{μ ν:M}{o:MO}(h:Bi a l μ ν)(e:ν p=none):Bi a l μ (Al ν p o):=λb m h1 h2 q=>by
 have:=h b m h1 h2 q
 rw [Ae (by intro z;subst z;rw [e]at this;cases this)];exact this
theorem Bi.put{a l p:iY}{μ ν:M}{o:MO}(h:Bi a l μ ν)(e:μ p=none):Bi a l μ (Al ν p o):=λb m h1 h2 q=>by
 rw [Ae (by intro z;subst z;rw [e]at q;cases q)];exact h b m h1 h2 q
theorem Bi.a{a l:iY}{μ ν:M}{o:MO}(h:Bi a l μ ν):Bi a l μ (Al ν a o):=λb m h1 h2 q=>by rw [Ae h1];exact h b m h1 h2 q
theorem Bi.l{a l:iY}{μ ν:M}{o:MO}(h:Bi a l μ ν):Bi a l μ (Al ν l o):=λb m h1 h2 q=>by rw [Ae h2];exact h b m h1 h2 q
theorem Bi.none{a l p:iY}{μ ν:M}(h:Bi a l μ ν)(h1:a≠p)(h2:l≠p)(e:ν p=none):μ p=none:=by
 cases q:μ p with
 | none=>rfl
 | some m=>rw [h p m h1.symm h2.symm q]at e;cases e
theorem PotAt.other{μ:M}{a l p:iY}{b c:Int}{ns:List Int}{o:MO}(h:PotAt μ a l b c ns)(h1:a≠p)(h2:l≠p):PotAt (Al μ p o) a l b c ns :=
 ⟨by rw [Ae h1];exact h.ha,by rw [Ae h2];exact h.hl,h.s0,h.s1,h.n0,h.p0,h.ne⟩
theorem Pot.other{μ:M}{a l p:iY}{o:MO}(h:Pot μ a l)(h1:a≠p)(h2:l≠p):Pot (Al μ p o) a l:=let⟨b,d,c,h⟩:=h;⟨b,d,c,h.other h1 h2⟩
theorem Pot.ne{μ:M}{a l p:iY}(h:Pot μ a l)(e:μ p=none):a≠p/\l≠p:=by
 obtain⟨b,d,c,h⟩:=h
 exact⟨λz=>by(subst z;rw [h.ha]at e;cases e),λz=>by(subst z;rw [h.hl]at e;cases e)⟩
theorem Pot.new{μ:M}{a l p:iY}{o:MO}(h:Pot μ a l)(e:μ p=none):Pot (Al μ p o) a l:=h.other (h.ne e).1 (h.ne e).2
abbrev WV:List Str:=["_law_deal_here","_law_many","_law_number","_law_one","_law_other"]
theorem DC:FnScope WV ["_law_deal_here","_law_many"] (Ag MD):=⟨rfl,rfl,rfl,by decide +kernel,rfl,by decide +kernel,by decide +kernel⟩
def Vh:ASp:=λc μ R=>∃(a l:iY) (b:Nat),c=[.R a,.D (.int b)]/\Pot μ a l/\0 < b/\b<=1000000/\∀(v:Nat) (μ':M),v < b->Pot μ' a l->Bi a l μ μ'->R (.D (.int v)) μ'
theorem JX{v:Int}{a:Nat}(b:0<=v)(h1:v < a):∃n:Nat,v=n/\n < a:=⟨v.toNat,by omega,by omega⟩
theorem Yl(x:Int){m:Int}(h:0 < m):0<=x % m:=Int.emod_nonneg x (by omega)
theorem Ym(x:Int){m:Int}(h:0 < m)(h2:m<=2147483648):x % m < 2147483648:=Int.lt_of_lt_of_le (h_ x h) h2
theorem FY{x:Int}{a:Nat}{Q:Int->Prop}(c:0 < a)(h:∀v:Nat,v < a->Q v):Q (x % a):=by
 obtain⟨v,b,hv⟩:=JX (Int.emod_nonneg x (show(a:Int)≠0 by omega)) (h_ x (show 0 < (a:Int) by omega))
 rw [b];exact h v hv
theorem PD{n:Nat}(F:Fun K "_law_draw" "_law_draw" MD f fd) (J:mg "len" = none):FnOk P w K mg base Fk (n+1) f fd ["_law_deal_here","_law_many"] (Hw K 2 Vh):=by
 refine F.vok DC λN A x s H E g=>⟨_,(Af (N6 XX (VW.pt (Mg (Bh (E3 g) (C9 (Cq g) (vv 0) B3) Ah (nomark _)) (Mf (Bh IH (A8 D4 rfl J Z_ (Aa (C9 (Cq g) (vv 0) B3) Ac)) Ah (nomark _))))) (Ai (Fl (Cq g) (vv 0) B3 (Wz PySem.F.slot_list_pop PySem.F.type_list_pop NY (C9 (Cq g) (vv 0) B3)))))
   (Af (Aq (i:=2) DC.nd rfl (Or.inl rfl) (C9 (Cq g) (vv 0) B3))
   (Af (D6 (Bh IH (vv 2) Ah (nomark _)) (Af (Fl (Cq g) (vv 0) B3 (A4 Ww (vv 2) (vv 1)))
   (Ai (Be (A4 Fw (vv 2) (vv 1))))) Cs)
   (Af (Aq (i:=3) DC.nd rfl (Or.inl rfl) (A4 Fw (A4 Ck (A4 K9 (C9 (Cq g) (vv 0) B3) Ah) Ah) Ah))
   (Af (Fl (Cq g) (vv 0) B3 (A4 Fw (A4 Ck (A4 K9 (vv 3) Ah) Ah) Ah))
   (Af (Aq (i:=4) DC.nd rfl (Or.inl rfl) (A4 Fw (A4 K9 (C9 (Cq g) (vv 0) B3) (C9 (Cq g) (vv 0) B3)) Ah))
   (Ai (Be (A4 Fw (A4 Ck (A4 K9 (A4 Fw (A4 K9 (vv 3) (vv 3)) Ah) Ah) (vv 4)) (vv 1)))))))))),?_⟩
 rintro M μ R _ ⟨a,l,k,rfl,⟨e,d,b,G⟩,B,h1,q⟩
 refine A6 (fun τ μ'=>∃e d b,τ=[some (.R a),some (.D (.int k)),none,none,none]/\PotAt μ' a l e d b/\Bi a l μ μ') (λO r=>?_) ?_
 ·refine R8 (λm τ μ'=>∃e d b,τ=[some (.R a),some (.D (.int k)),none,none,none]/\m=b.length/\PotAt μ' a l e d b/\Bi a l μ μ') b.length ⟨e,d,b,rfl,rfl,G,Bi.refl⟩ ?_
  rintro m τ μ' W ⟨e,d,b,rfl,rfl,D,S⟩ o
  refine Ad D.ha (Ad FW (Ad rfl (ieq (λc=>?_) (λc=>Uk rfl (r _ _ ⟨e,d,b,rfl,D,S⟩)))))
  refine Ad D.ha (Ad Yk (Ad rfl (Ad D.hl (dif (λc2=>?_) (λc2=>r _ _ ⟨e,d,b,rfl,D,S⟩)))))
  have t:b≠[]:=by rintro rfl;exact absurd c2 (by decide)
  have u:(b.map Gf)[(b.map Gf).length - 1]?=some (Gf (b.getLast t)):=by rw [<- List.getLast?_eq_getElem?,List.getLast?_map,List.getLast?_eq_some_getLast t];rfl
  have I:(b.map Gf).dropLast=b.dropLast.map Gf:=by rw [List.map_dropLast]
  have y:Al μ' l (.lst (b.map Gf).dropLast) a=some (Fx e d l):=by rw [Ae D.ne];exact D.ha
  have L:0 < b.length:=List.length_pos_iff.mpr t
  refine Ad D.ha (Ad Yk (Ad rfl ⟨Ad D.hl trivial,Ad D.hl (Ad u (Ad y (Ad FX ⟨M4,o b.dropLast.length _ _ (by rw [List.length_dropLast];omega) ⟨e,b.getLast t,b.dropLast,rfl,rfl,?_,S.l.a⟩⟩)))⟩))
  exact⟨Ab,by rw [Ae D.ne.symm,Ab,I],D.s0,D.s1,D.p0 _ (List.getLast_mem t),λz hz=>D.p0 z ((List.dropLast_sublist b).subset hz),D.ne⟩
 ·rintro τ μ' ⟨e,d,b,rfl,D,S⟩
  refine C1 (Ad D.ha (Ad FW (Ad rfl (C1 (dif (λc=>?_) (λc=>?_))))))
  ·refine C1 ⟨⟨by omega,by omega⟩,Ad D.ha (Ad FX ⟨M4,(by show(0:Int) < _;omega),_,Sub.refl,?_⟩)⟩
   refine FY (Q:=λi=>R (.D (.int i)) _) B λv hv=>?_
   exact q v _ hv ⟨e,d / k,b,Ab,by rw [Ae D.ne.symm];exact D.hl,D.s0,D.s1,Int.ediv_nonneg D.n0 (ZR _),D.p0,D.ne⟩ S.a
  ·refine A6 (fun τ μ1=>∃h:Int,τ=[some (.R a),some (.D (.int k)),some (.D (.int d)),some (.D (.int h)),none]/\μ'=μ1/\0<=h/\h < 2147483648) (λW o=>?_) ?_
   ·exact Ad D.ha (Ad Rg (Ad rfl ⟨.inr ⟨by decide,by decide⟩,(by show(0:Int) < _;decide),o _ _ ⟨_,rfl,rfl,Yl _ (by decide),Ym _ (by decide) (by decide)⟩⟩))
   rintro τ μ1 ⟨h,rfl,rfl,U,X⟩
   refine A6 (fun τ μ1=>∃j:Int,τ=[some (.R a),some (.D (.int k)),some (.D (.int d)),some (.D (.int h)),none]/\PotAt μ1 a l j d b/\Bi a l μ μ1) (λW o=>?_) ?_
   ·exact⟨.inr ⟨by decide,by decide⟩,(by show(0:Int) < _;decide),Ad D.ha (Ad JW ⟨M4,o _ _ ⟨_,rfl,⟨Ab,by rw [Ae D.ne.symm];exact D.hl,Yl _ (by decide),Ym _ (by decide) (by decide),D.n0,D.p0,D.ne⟩,S.a⟩⟩)⟩
   rintro τ μ2 ⟨j,rfl,p,C⟩
   have T:=p.s0
   have V:=p.s1
   refine C1 (Ad p.ha (Ad Rg (Ad rfl (Ad p.ha (Ad Rg (Ad rfl ⟨.inl ⟨by omega,by omega⟩,(by show(0:Int) < _;decide),?_⟩))))))
   refine⟨.inl ⟨by omega,by omega⟩,(by show(0:Int) < _;decide),.inr ⟨by decide,by decide⟩,(by show(0:Int) < _;omega),_,Sub.refl,?_⟩
   exact FY (Q:=λi=>R (.D (.int i)) _) B λv hv=>q v _ hv ⟨j,d,b,p⟩ C
abbrev UR:List Str:=["_law_script","_law_base","_law_cell","_law_cells","_law_number"]
theorem Yn:FnScope UR ["_law_script","_law_base"] (Ag FV):=⟨rfl,rfl,rfl,by decide +kernel,rfl,by decide +kernel,by decide +kernel⟩
theorem PF:(["_law_cell"]:List Str).Nodup:=by decide +kernel
theorem PH:(["_law_cell"]:List Str).Nodup:=by decide +kernel
def J4(ns:List Int):iX:=.list (ns.map .int)
theorem Vi(μ:M)(ns:List Int):items μ (.D (J4 ns))=some (ns.map Gf):=by
 show some ((ns.map PyData.int).map AV.D)=_
 rw [XV];rfl
theorem Yo{α:Type}(g:α->AV)(xs:List α)(lo b:Option Int):∃a:List α,Mb (xs.map g) lo b=a.map g/\a.length<=xs.length:=by
 refine⟨(xs.drop (HT.sIx (xs.map g).length 0 lo)).take (HT.sIx (xs.map g).length (xs.map g).length b - HT.sIx (xs.map g).length 0 lo),?_,?_⟩
 ·unfold Mb
  rw [<- gK,<- d_]
 ·rw [X_,cH];omega
def JY:ASp:=λc μ R=>∃(ns:List Int) (b:Nat),c=[.D (J4 ns),.D (.int b)]/\b < 1000/\ns.length<=63/\∀(a l:iY) (μ':M),μ a=none->μ l=none->Pot μ' a l->Sub μ μ'->R (.R a) μ'
def Rh(i:Int):Int:=if 0 - i > i then 0 - i else i
theorem JZ(i:Int):0<=Rh i:=by unfold Rh;split <;> omega
theorem PJ{n:Nat}(F:Fun K "_law_deal" "_law_deal" FV f fd) (cq:mg "max" = none) (df:mg "list" = none) (ci:mg "reversed" = none):FnOk P w K mg base Fk (n+1) f fd ["_law_script","_law_base"] (Hw K 2 JY):=by
 refine F.vok Yn λba A S s H E hr=>⟨_,(Af (Fg (i:=3) (N':=["_law_cell"]) (mp:=[none]) rfl Yn.nd rfl rfl (A7 (Cf (vv 0) (Cd (vv 1)) (Cd Ah))) (λ_ _ _ _=>(Aj (i:=0) PF rfl (Or.inl rfl) (Or.inr rfl))) (λ_ _ _ _=>Bw) (λ_ _ _ _=>(A8 (Wy rfl) rfl cq gE (Aa (vv 0) (Aa (A4 NS Ah (vv 0)) Ac)))) (Av (N:=UR) (pn:=(Ag FV).names) (by decide +kernel)))
   (Af (Aq (i:=4) Yn.nd rfl (Or.inl rfl) (A4 Ck Ah (vv 1)))
   (Af (Bo XX rfl (A7 (vv 3)) (Aj (i:=2) Yn.nd rfl (Or.inl rfl)) (Ai (Aq (i:=4) Yn.nd rfl (Or.inl rfl) (A4 Fw (A4 Ck (A4 K9 (vv 4) Ah) (A4 Fw (vv 2) Ah)) Ah))))
   (Ai (Be (BJ (Mn (vv 4) (Mn Ah (Mn (BZ rfl rfl df rfl ci (Bl (N':=["_law_cell"]) (mp:=[none]) rfl (A7 (vv 3)) (λ_ _ _ _=>(Aj (i:=0) PH rfl (Or.inl rfl) (Or.inr rfl))) (λ_ _ _ _=>(Dr (Bh TN (vv 0) (A4 NT Ah Ah) (nomark _)))) (λ_ _ _ _=>(vv 0)) (Av (N:=UR) (pn:=(Ag FV).names) (by decide +kernel)))) BI))) (by decide +kernel))))))),?_⟩
 rintro M μ R _ ⟨r,b,rfl,hb,hn,q⟩
 obtain⟨B,O,bx⟩:=Yo Gf r (some (b:Int)) (some 63)
 refine A6 (fun τ μ'=>∃e,τ=[some (.D (J4 r)),some (.D (.int b)),none,some (.R e),none]/\μ e=none/\μ' e=some (.lst ((B.map Rh).map Gf))/\Sub μ μ') (λW v=>?_) ?_
 ·refine Ad (Vi _ r) λp hp=>?_
  rw [O]
  refine Ad (Ak Ab) λe h=>?_
  have V:p≠e:=by intro z;subst z;rw [Ab]at h;cases h
  have T:μ e=none:=by rw [Ae V.symm]at h;exact h
  refine cmap B Gf (λi=>Gf (Rh i)) (fun τ=>∃o,τ=[o]) ⟨_,rfl⟩ Ab (seven (by omega)) (λm=>Ak (by rw [Ae V,Ae V,Ab])) ?_ ?_
  ·rintro i x τ' m W2 hi ⟨o,rfl⟩ hW2
   exact hW2 _ ⟨_,rfl⟩
  ·refine v _ _ ⟨e,rfl,T,?_,((Sub.refl.new hp).new T).new T⟩
   rw [Ab,XV];rfl
 rintro τ μ1 ⟨e,rfl,mj,h,j⟩
 refine A6 (fun τ μ2=>∃d:Int,τ=[some (.D (J4 r)),some (.D (.int b)),none,some (.R e),some (.D (.int d))]/\μ1=μ2/\0<=d/\d < 2147483648) (λW v=>id (v _ _ ⟨_,rfl,rfl,by omega,by omega⟩)) ?_
 rintro τ μ2 ⟨U,rfl,rfl,z0,z1⟩
 refine A6 (fun τ μ2=>∃(k:Option AV) (d:Int),τ=[some (.D (J4 r)),some (.D (.int b)),k,some (.R e),some (.D (.int d))]/\μ1=μ2/\0<=d/\d < 2147483648) (λW v=>?_) ?_
 ·refine Ad (Ak h) ?_
  refine Cl (λi τ μ2=>∃(k:Option AV) (d:Int),τ=[some (.D (J4 r)),some (.D (.int b)),k,some (.R e),some (.D (.int d))]/\μ1=μ2/\0<=d/\d < 2147483648) ⟨none,U,rfl,rfl,z0,z1⟩ ?_ ?_ ?_
  ·rintro i τ μ2 ⟨k,d,rfl,rfl,_⟩
   exact Ak h
  ·rintro i y τ μ2 W2 hy ⟨k,d,rfl,rfl,I,h1⟩ hW2
   rw [H_]at hy
   obtain⟨c,hc,rfl⟩:=K_.mp hy
   exact⟨.inr ⟨by decide,by decide⟩,(by show(0:Int) < _;decide),(by show(0:Int) < _;decide),hW2 _ _ ⟨_,_,rfl,rfl,Yl _ (by decide),Ym _ (by decide) (by decide)⟩⟩
  ·rintro τ μ2 ⟨k,d,rfl,rfl,I,h1⟩
   exact v _ _ ⟨_,_,rfl,rfl,I,h1⟩
 rintro τ μ2 ⟨k,d,rfl,rfl,I,h1⟩
 intro a ha
 have X:a≠e:=by intro z;subst z;rw [h]at ha;cases ha
 have L:Al μ1 a (.dk []) e=some (.lst ((B.map Rh).map Gf)):=by rw [Ae X.symm];exact h
 refine Ad (Ak L) λJ g=>?_
 have u:a≠J:=by intro z;subst z;rw [Ab]at g;cases g
 have Y:e≠J:=by intro z;subst z;rw [L]at g;cases g
 have Z:μ1 J=none:=by rw [Ae u.symm]at g;exact g
 refine cmapf (B.map Rh) Gf (λx=>decide ((10:Int) ^ (18:Int).toNat<=x)) Gf (fun τ=>∃o,τ=[o]) ⟨none,rfl⟩ Ab (seven (by rw [B_];omega)) (λm=>Ak (by rw [Ae Y,Ae Y];exact L)) ?_ ?_
 ·rintro i x τ' m W2 W3 hi ⟨o,rfl⟩ h2 h3
  exact⟨⟨by decide,by decide,by decide⟩,br (λc=>h2 c _ ⟨_,rfl⟩) (λc=>h3 c _ ⟨_,rfl⟩)⟩
 generalize ix:(B.map Rh).filter (λx=>decide ((10:Int) ^ (18:Int).toNat<=x))=M
 have Q:∀x∈M,0<=x:=λx hx=>by
  rw [<- ix]at hx
  obtain⟨z,_,rfl⟩:=D_.mp (YU.mp hx).1
  exact JZ z
 refine Ad Ab λl t=>?_
 have fj:J≠l:=by intro z;subst z;rw [Ab]at t;cases t
 have G:a≠l:=by
  intro z;subst z
  rw [Ae u,Ae u,Ab]at t;cases t
 have C:μ1 l=none:=by rw [Ae fj.symm,Ae fj.symm,Ae G.symm]at t;exact t
 refine⟨by rw [Ae G,Ae u,Ae u,Ab],_,Sub.refl,q a l _ (j.none ha) (j.none C) ⟨d,0,M.reverse,Ab,?_,I,h1,iT 0,λz hz=>Q z (List.mem_reverse.mp hz),G⟩ ?_⟩
 ·rw [Ae G.symm,Ab,List.map_reverse]
 ·exact((((j.new (j.none ha)).new (j.none Z)).new (j.none Z)).new (j.none C)).new (j.none ha)
def Ba(ns:List Nat):iX:=.tuple (ns.map λ(n:Nat)=>.int n)
theorem Ew{α:Type} [DecidableEq α]:∀{xs ys:List α},xs.Nodup->(∀x∈xs,x∈ys)->xs.length<=ys.length
 | [],_,_,_=>XQ _
 | x :: xs,ys,hn,h=>by
  have hx:=h x XT
  obtain⟨a,b⟩:=ZV.mp hn
  have:=Ew (xs:=xs) (ys:=ys.erase x) b λz hz=>(List.mem_erase_of_ne (by rintro rfl;exact a hz)).mpr (h z (XN _ hz))
  rw [List.length_erase_of_mem hx]at this
  have hp:0 < ys.length:=List.length_pos_of_mem hx
  simp only [List.length_cons];omega
theorem O3{κ:Type} [DecidableEq κ](k d:κ)(v:AV):∀(kvs:List (κ×AV)),Cm (E9 kvs k v) d=if d=k then some v else Cm kvs d:=by
 intro kvs
 unfold E9
 split
 ·rename_i h
  induction kvs with
  | nil=>simp at h
  | cons c kvs i =>
   rw [XY]
   by_cases e:c.1=k
   ·rw [Q_ e]
    by_cases e2:d=k
    ·rw [Q_ e2,e2,e];exact Da
    ·rw [J_ e2]
     obtain⟨a,b⟩:=c
     have l:a=k:=e
     subst l
     rw [Ct (bH e2),Ct (bH e2)]
     by_cases h2:(kvs.any λc=>decide (c.1=a))=true
     ·rw [i h2,J_ e2]
     ·congr 1
      refine(aX λz hz=>?_).trans (List.map_id kvs)
      rw [J_]
      ·rfl
      ·intro j
       exact h2 (cK.mpr ⟨z,hz,YL j⟩)
   ·rw [J_ e]
    obtain⟨a,b⟩:=c
    have h2:(kvs.any λc=>decide (c.1=k))=true:=by
     rw [bG,YH e,iH]at h;exact h
    by_cases g:a=d
    ·subst g
     rw [Da,J_ e];exact Da.symm
    ·rw [Ct g,Ct g,i h2]
 ·rename_i h
  induction kvs with
  | nil =>
   by_cases e2:d=k
   ·rw [Q_ e2,e2];exact Da
   ·rw [J_ e2]
    show Cm ((k,v) :: []) d=_
    rw [Ct (bH e2)]
  | cons c kvs i =>
   obtain⟨a,b⟩:=c
   have h1:a≠k:=by
    intro z;apply h;rw [bG,YL z];rfl
   have h2:¬(kvs.any λc=>decide (c.1=k))=true:=by
    intro z;apply h;rw [bG,z,Bool.or_true]
   show Cm ((a,b) :: (kvs++[(k,v)])) d=_
   by_cases g:a=d
   ·subst g
    rw [Da,J_ h1];exact Da.symm
   ·rw [Ct g,i h2,Ct g]
theorem Dx{μ:M}(ns:List Nat):items μ (.D (Ba ns))=some (ns.map λ(n:Nat)=>.D (.int n)):=by
 show some ((ns.map λ(n:Nat)=>PyData.int n).map AV.D)=_
 rw [XV];rfl
theorem Ir{ns:List Nat}:PyData.canLayAll0 (ns.map λ(n:Nat)=>.int n)=true/\PyData.depthAll (ns.map λ(n:Nat)=>.int n)<=1:=by
 induction ns with
 | nil=>exact⟨rfl,by simp [PyData.depthAll]⟩
 | cons n ns a =>
  simp only [List.map_cons,PyData.canLayAll0,PyData.depthAll,a.1,Bool.and_true]
  refine⟨rfl,?_⟩
  have:=a.2
  simp only [PyData.depth];omega
theorem Yp{κ:Type} [DecidableEq κ](kvs:List (κ×AV))(k:κ)(v:AV):(E9 kvs k v).length<=kvs.length+1:=by
 unfold E9
 split
 ·rw [B_];omega
 ·rw [I_];exact E_ _
def Ec(n:Nat):AV:=.D (.int n)
theorem G2(ns:List Nat):dats (ns.map Ec)=some (ns.map λ(n:Nat)=>.int n):=by
 rw [show ns.map Ec=(ns.map λ(n:Nat)=>PyData.int n).map .D by rw [XV];rfl];exact Bv _
theorem Fp:∀(ns:List Nat),Ao (ns.map λ(n:Nat)=>.int n)=true
 | []=>rfl
 | n :: ns=>by simp only [List.map_cons,Ao,Cano,Fp ns,Bool.and_self]
theorem G3:∀(a ns:List Nat),cmpbs (a.map λ(n:Nat)=>.int n) (ns.map λ(n:Nat)=>.int n)=true
 | [],_=>by simp only [List.map_nil,cmpbs]
 | _ :: _,[]=>by simp only [List.map_nil,List.map_cons,cmpbs]
 | m :: a,n :: ns=>by
  simp only [List.map_cons,cmpbs,cmpb,G3 a ns,ite_self]
theorem unmap{α β:Type}{g:α->β}{B:List α}:∀{es:List β},(∀e∈es,e∈B.map g)->∃A:List α,es=A.map g/\A.length=es.length/\∀a∈A,a∈B
 | [],_=>⟨[],rfl,rfl,λ_ z=>nomatch z⟩
 | e :: es,h=>by
  obtain⟨A,rfl,d,c⟩:=unmap (es:=es) λx hx=>h x (XN _ hx)
  obtain⟨a,ha,rfl⟩:=D_.mp (h e XT)
  refine⟨a :: A,rfl,by simp,λb hb=>?_⟩
  rcases XJ.mp hb with rfl | hb
  ·exact ha
  ·exact c b hb
theorem KA{x:AV}{i:Nat}{u:AS}{k:ASt->M->Prop}{r:AV->M->Prop}{b c:ASt->M->Prop}{τ:ASt}{μ:M}(h:u k r b c (τ.set i (some x)) μ):N5 (Qg (vC x) (Dc i)) u k r b c τ μ:=h
theorem Te(m n:Nat):Builtin.bitOr (m:Int) (n:Int)=((m ||| n:Nat):Int):=by
 have a:∀k:Nat,Builtin.bitNot (k:Int)=-(k:Int) - 1:=λ_=>rfl
 unfold Builtin.bitOr
 rw [a,a]
 unfold Builtin.bitAnd
 rw [YH (by omega),YH (by omega)]
 show Builtin.bitNot (Builtin.bitNot (((Builtin.bitNot (-(m:Int) - 1)).toNat ||| (Builtin.bitNot (-(n:Int) - 1)).toNat:Nat):Int))=_
 have e2:∀k:Nat,(Builtin.bitNot (-(k:Int) - 1)).toNat=k:=λk=>by
  show(-(-(k:Int) - 1) - 1).toNat=k
  omega
 rw [e2,e2]
 show -(-((m ||| n:Nat):Int) - 1) - 1=_
 omega
theorem Yq(m n:Nat):Builtin.bitAnd (m:Int) (n:Int)=((m &&& n:Nat):Int):=by
 unfold Builtin.bitAnd
 rw [YL (ZR _),YL (ZR _)]
 rfl
def bts:List Nat->Nat:=List.foldl (λb k=>b ||| 2 ^ k) 0
abbrev WW:List Str:=["stands","bits","stand"]
theorem DE:FnScope WW ["stands"] (Ag LQ):=⟨rfl,rfl,rfl,by decide +kernel,rfl,by decide +kernel,by decide +kernel⟩
def KB:ASp:=λa μ R=>∃(x:AV) (ts:List Nat),a=[x]/\items μ x=some (ts.map Ec)/\(∀t∈ts,t < 60)/\R (.D (.int (bts ts:Nat))) μ
theorem PK{n:Nat}(F:Fun K "as_bits" "as_bits" LQ f fd):FnOk P w K mg base Fk (n+1) f fd ["stands"] (Hw K 1 KB):=by
 refine F.vok DE λk A b s H E h=>⟨_,(Af (Aq (i:=1) DE.nd rfl (Or.inl rfl) Ah)
   (Af (Bo XX rfl (A7 (vv 0)) (Aj (i:=2) DE.nd rfl (Or.inl rfl)) (Ai (Aq (i:=1) DE.nd rfl (Or.inl rfl) (A4 FO (vv 1) (A4 OV Ah (vv 2))))))
   (Ai (Be (vv 1))))),?_⟩
 rintro j μ R _ ⟨x,ts,rfl,hx,g,q⟩
 refine KA (A6 (fun τ μ'=>∃a,τ=[some x,some (.D (.int (bts ts:Nat))),a]/\μ=μ') (λZ d=>?_) ?_)
 ·refine Ad hx ?_
  refine Cl (λi τ μ'=>∃a,τ=[some x,some (.D (.int (bts (ts.take i):Nat))),a]/\μ=μ') ⟨none,rfl,rfl⟩ (λ_ _ _ ⟨_,_,e⟩=>by subst e;exact hx) ?_ ?_
  ·rintro i y τ _ Z2 hy ⟨a,rfl,rfl⟩ hZ2
   rw [H_]at hy
   obtain⟨t,h1,rfl⟩:=K_.mp hy
   have c:=g t (XO h1)
   refine⟨⟨ZR _,by omega,by decide⟩,hZ2 _ _ ⟨some (Ec t),?_,rfl⟩⟩
   have e:Builtin.bitOr (bts (ts.take i):Nat) (1 * 2 ^ (t:Int).toNat)=((bts (ts.take (i+1)):Nat):Int):=by
    rw [Int.one_mul,bI,show((2:Int) ^ t)=((2 ^ t:Nat):Int) by rw [Int.natCast_pow];rfl,Te,YC,h1]
    unfold bts
    rw [eG];rfl
   rw [<- e];rfl
  ·rintro τ _ ⟨a,rfl,rfl⟩
   rw [B_,YB]
   exact d _ _ ⟨_,rfl,rfl⟩
 rintro τ _ ⟨a,rfl,rfl⟩
 exact⟨_,Sub.refl,q⟩
theorem DF(k:Nat):Ea 0 k=(List.range k).map Ec:=by
 refine bV λj=>?_
 rcases Y_ j k with h | h
 ·have h1:j < (Ea 0 k).length:=by rw [A5];exact h
  rw [M_ h1,Dd _ _ _ (M_ h1),H_,List.getElem?_range h]
  show some _=some (Ec j)
  unfold Ec
  rw [fY]
 ·rw [ZD (by rw [A5];exact h),ZD (by rw [B_,ZK];exact h)]
def B9(n:Nat):List Nat:=(List.range 5).filter λk=>n.testBit k
abbrev VN:List Str:=["bits"]
theorem US:FnScope VN ["bits"] (Ag JP):=⟨rfl,rfl,rfl,by decide +kernel,rfl,by decide +kernel,by decide +kernel⟩
theorem PL:(["stand","bits"]:List Str).Nodup:=by decide +kernel
def KC:ASp:=λa μ R=>∃(n:Nat),a=[.D (.int n)]/\n < 32/\∀ μ',Sub μ μ'->R (.D (Ba (B9 n))) μ'
theorem PM{n:Nat}(F:Fun K "as_stands" "as_stands" JP f fd) (m:mg "tuple" = none) (p:mg "range" = none):FnOk P w K mg base Fk (n+1) f fd ["bits"] (Hw K 1 KC):=by
 refine F.vok US λu A g s H E l=>⟨_,(Ai (Be (Ci D5 rfl m aA (Aa (Bl (N':=["stand","bits"]) (mp:=[none,some 0]) rfl (B4 rfl p (Aa (JJ PyProof.Rows.slot_int_bit_length PyProof.Rows.type_int_bit_length JI (vv 0)) Ac)) (λ_ _ _ _=>(Aj (i:=0) PL rfl (Or.inl rfl) (Or.inr rfl))) (λ_ _ _ _=>(Dr (Bh (E3 l) (A4 X8 (A4 OW (vv 1) (vv 0)) Ah) Ah (nomark _)))) (λ_ _ _ _=>(vv 0)) (Av (N:=VN) (pn:=(Ag JP).names) (by decide +kernel))) Ac)))),?_⟩
 rintro r μ R _ ⟨n,rfl,hn,q⟩
 have hb:∀n:Fin 32,Builtin.Int.intBits ((n.val:Nat):Int)<=5/\(List.range (Builtin.Int.intBits ((n.val:Nat):Int))).filter (λk=>n.val.testBit k)=B9 n.val:=by decide +kernel
 obtain⟨d,a⟩:=hb ⟨n,hn⟩
 have d:Builtin.Int.intBits (n:Int)<=5:=d
 have a:(List.range (Builtin.Int.intBits (n:Int))).filter (λk=>n.testBit k)=B9 n:=a
 refine⟨trivial,by omega,by omega,λt b=>?_⟩
 rw [bI,DF]
 refine cmapf (List.range (Builtin.Int.intBits (n:Int))) Ec (λk=>n.testBit k) Ec (fun τ=>∃o,τ=[o,some (.D (.int n))]) ⟨none,rfl⟩ Ab (seven (by rw [ZK];omega)) (λ_=>trivial) ?_ ?_
 ·rintro i k τ' acc W W2 hk ⟨o,rfl⟩ w1 w2
  have e:Builtin.bitAnd ((n:Int) / 2 ^ (k:Int).toNat) 1=((n / 2 ^ k % 2:Nat):Int):=by
   rw [bI,show((n:Int) / 2 ^ k)=((n / 2 ^ k:Nat):Int) by rw [Int.natCast_ediv,Int.natCast_pow];rfl,show(1:Int)=((1:Nat):Int) from rfl,Yq,Nat.and_one_is_mod]
  have e2:n.testBit k=decide (n / 2 ^ k % 2=1):=Nat.testBit_eq_decide_div_mod_eq
  have j:PyData.eqv (.int (Builtin.bitAnd ((n:Int) / 2 ^ (k:Int).toNat) 1)) (.int 1)=n.testBit k:=by
   rw [e,Mj,e2]
   exact decide_eq_decide.mpr ⟨λh=>by omega,λh=>by omega⟩
  exact⟨ZR _,A9 _,A9 _,br (λc=>w1 (j.symm.trans c) _ ⟨_,rfl⟩) (λc=>w2 (j.symm.trans c) _ ⟨_,rfl⟩)⟩
 ·rw [a]
  refine Ad (Ak Ab) (Ad (G2 _) ⟨_,Sub.refl,q _ ((Sub.refl.new b).new b)⟩)
theorem Zi{n:Nat}(h:n<=300000):n < sizeLine:=ZL h (by decide)
abbrev Pr:=Nat×Nat
def Hm(p:Pr):iX:=.tuple [.int (p.1:Nat),.int (p.2:Nat)]
def Bt(p:Pr):AV:=.D (Hm p)
def ewe(p o:Pr):Pr:=(max p.1 o.1,p.2 ||| o.2)
def O4(p:Pr):List Key×AV:=([.inl (p.1:Nat),.inl (p.2:Nat)],.D (.bool true))
def adz(a:List Pr)(z:Pr):List Pr:=if z∈a then a else a++[z]
theorem KD{p q:Pr}(h:(O4 p).1=(O4 q).1):p=q:=by
 obtain⟨a,b⟩:=p
 obtain⟨c,d⟩:=q
 have h:([.inl ((a:Nat):Int),.inl ((b:Nat):Int)]:List Key)=[.inl ((c:Nat):Int),.inl ((d:Nat):Int)]:=h
 injection h with h1 h2
 injection h2 with h2 _
 have h1:=bA (gL h1)
 have h2:=bA (gL h2)
 rw [h1,h2]
theorem KF(b:List Pr)(z:Pr):E9 (b.map O4) (O4 z).1 (.D (.bool true))=(adz b z).map O4:=by
 unfold E9 adz
 by_cases h:z∈b
 ·rw [Q_ (cK.mpr ⟨O4 z,D_.mpr ⟨z,h,rfl⟩,YL rfl⟩),Q_ h,XV]
  refine aX λp _=>?_
  show(if(O4 p).1=(O4 z).1 then((O4 p).1,AV.D (.bool true)) else O4 p)=O4 p
  split <;> rfl
 ·rw [J_,J_ h,S_]
  ·rfl
  ·intro a
   obtain⟨c,h1,h2⟩:=cK.mp a
   obtain⟨p,hp,rfl⟩:=D_.mp h1
   rw [<- KD (YD h2)]at h
   exact h hp
theorem DG{a:List Pr}{z y:Pr}:y∈adz a z↔y∈a\/y=z:=by
 unfold adz
 split
 ·rename_i h
  exact⟨.inl,λc=>c.elim id λe=>by rw [e];exact h⟩
 ·rw [O_,P_]
theorem KG{c:List Pr}{z:Pr}(h:c.Nodup):(adz c z).Nodup:=by
 unfold adz
 split
 ·exact h
 ·rename_i hn
  exact aY.mpr ⟨h,ZV.mpr ⟨by simp,bJ⟩,λa ha b hb e=>hn (by rw [P_.mp hb]at e;rw [<- e];exact ha)⟩
theorem DH(a:List Pr)(z:Pr):(adz a z).length<=a.length+1:=by
 unfold adz
 split
 ·exact cU _
 ·rw [I_];exact E_ _
theorem PN{a b:iX}{i j:Nat}{τ:ASt}{μ:M}{R:ASt->M->Prop}(h:R ((τ.set i (some (.D a))).set j (some (.D b))) μ):Ey (Dc i) (Ey (Dc j) Uo) (List.map AV.D [a,b]) τ μ R:=h
theorem Bu{μ μ':M}{x:AV}{b:List AV}(h:items μ x=some b)(S:Sub μ μ'):items μ' x=some b:=by
 cases x with
 | R a =>
  have h:(match μ a with | some (.lst c)=>some c | _=>none)=some b:=h
  cases e:μ a with
  | none=>rw [e]at h;cases h
  | some m =>
   rw [e]at h
   cases m with
   | lst c=>cases h;exact Ak (S a _ e)
   | _=>cases h
 | D d=>cases d <;> exact h
 | _=>exact h
abbrev WX:List Str:=["pairs","others","found","cost","bits","other_cost","other_bits"]
theorem Vj:FnScope WX ["pairs","others"] (Ag LZ):=⟨rfl,rfl,rfl,by decide +kernel,rfl,by decide +kernel,by decide +kernel⟩
def PP:ASp:=λb μ R=>∃(x y:AV) (P O:List Pr),b=[x,y]/\items μ x=some (P.map Bt)/\items μ y=some (O.map Bt)/\P.length * O.length<=200000/\∀(a:List Pr) (l:iY) μ',(∀z,z∈a↔∃p∈P,∃o∈O,z=ewe p o)->a.Nodup->a.length<=P.length * O.length->μ l=none->μ' l=some (.lst (a.map Bt))->Sub μ μ'->R (.R l) μ'
theorem PQ{n:Nat}(F:Fun K "each_with_each" "each_with_each" LZ f fd) (cq:mg "max" = none) (df:mg "list" = none):FnOk P w K mg base Fk (n+1) f fd ["pairs","others"] (Hw K 2 PP):=by
 refine F.vok Vj λba A I s H E T=>⟨_,(Af (Aq (i:=2) Vj.nd rfl (Or.inl rfl) Gp)
   (Af (Bo XX rfl (A7 (vv 0)) (Dh (n:=2) rfl (Ap (Aj (i:=3) Vj.nd rfl (Or.inl rfl)) (Ap (Aj (i:=4) Vj.nd rfl (Or.inl rfl)) B8))) (Ai (Bo XX rfl (A7 (vv 1)) (Dh (n:=2) rfl (Ap (Aj (i:=5) Vj.nd rfl (Or.inl rfl)) (Ap (Aj (i:=6) Vj.nd rfl (Or.inl rfl)) B8))) (Ai (Fl (Cq T) (vv 2) (Bc (Aa (A8 (Wy rfl) rfl cq gE (Aa (vv 3) (Aa (vv 5) Ac))) (Aa (A4 FO (vv 4) (vv 6)) Ac))) K7)))))
   (Ai (Be (Ci (CZ rfl) rfl df PyProof.Rows.boot_list (Aa (vv 2) Ac)))))),?_⟩
 rintro xs μ R _ ⟨x,y,P,O,rfl,hx,hy,hn,q⟩
 intro d r
 have S0:Sub μ (Al μ d (.dt [])):=Sub.refl.new r
 refine A6 (fun τ μ'=>∃B t k c,∃a:List Pr,τ=[some x,some y,some (.R d),B,t,k,c]/\(∀z,z∈a↔∃p∈P,∃o∈O,z=ewe p o)/\a.Nodup/\a.length<=P.length * O.length/\μ'=Al μ d (.dt (a.map O4))) (λZ V=>?_) ?_
 ·refine Ad (Bu hx S0) ?_
  refine Cl (λi τ μ'=>∃B t k c,∃a:List Pr,τ=[some x,some y,some (.R d),B,t,k,c]/\(∀z,z∈a↔∃p∈P.take i,∃o∈O,z=ewe p o)/\a.Nodup/\a.length<=i * O.length/\μ'=Al μ d (.dt (a.map O4))) ⟨none,none,none,none,[],rfl,by simp,bJ,XQ _,rfl⟩ (λ_ _ _ ⟨_,_,_,_,_,_,_,_,_,e⟩=>by subst e;exact Bu hx (Sub.refl.new r)) ?_ ?_
  ·rintro i v τ _ Z2 hv ⟨B,t,k,c,a,rfl,m,hnd,C,rfl⟩ hZ2
   rw [H_]at hv
   obtain⟨p,hp,rfl⟩:=K_.mp hv
   have hi:=(F_.mp hp).1
   have U:P.take (i+1)=P.take i++[p]:=by rw [YC,hp];rfl
   refine⟨rfl,PN ?_⟩
   dsimp only [List.set]
   refine Ad (Bu hy (Sub.refl.new r)) ?_
   have zag:(i+1) * O.length<=P.length * O.length:=eL _ hi
   have W:(i+1) * O.length=i * O.length+O.length:=Nat.succ_mul _ _
   refine Cl (λj τ μ'=>∃k c,∃b:List Pr,τ=[some x,some y,some (.R d),some (.D (.int (p.1:Nat))),some (.D (.int (p.2:Nat))),k,c]/\(∀z,z∈b↔z∈a\/∃o∈O.take j,z=ewe p o)/\b.Nodup/\b.length<=i * O.length+j/\μ'=Al μ d (.dt (b.map O4))) ⟨k,c,a,rfl,by simp,hnd,C,rfl⟩ (λ_ _ _ ⟨_,_,_,_,_,_,_,e⟩=>by subst e;exact Bu hy (Sub.refl.new r)) ?_ ?_
   ·rintro j u τ _ Z3 hu ⟨k,c,b,rfl,G,g,S,rfl⟩ bj
    rw [H_]at hu
    obtain⟨o,Q,rfl⟩:=K_.mp hu
    have hj:=(F_.mp Q).1
    have M:O.take (j+1)=O.take j++[o]:=by rw [YC,Q];rfl
    refine⟨rfl,PN ?_⟩
    dsimp only [List.set]
    have Y:(if((o.1:Nat):Int) > ((p.1:Nat):Int) then((o.1:Nat):Int) else((p.1:Nat):Int))=(((ewe p o).1:Nat):Int):=by
     show _=((max p.1 o.1:Nat):Int)
     split <;> omega
    have X:Builtin.bitOr ((p.2:Nat):Int) ((o.2:Nat):Int)=(((ewe p o).2:Nat):Int):=Te _ _
    have ep:dput (.dt (b.map O4)) (.tuple [.int (if((o.1:Nat):Int) > ((p.1:Nat):Int) then((o.1:Nat):Int) else((p.1:Nat):Int)),.int (Builtin.bitOr ((p.2:Nat):Int) ((o.2:Nat):Int))]) (.D (.bool true))=some (.dt ((adz b (ewe p o)).map O4)):=by
     rw [Y,X,<- KF];rfl
    refine Ad Ab (Ad ep ⟨Zi (show(b.map O4).length<=300000 by rw [B_];omega),bj _ _ ⟨_,_,adz b (ewe p o),rfl,λz=>?_,KG g,?_,?_⟩⟩)
    ·rw [DG,G,M]
     constructor
     ·rintro((h | ⟨L,h1,h2⟩) | h)
      ·exact .inl h
      ·exact .inr ⟨L,ZP _ h1,h2⟩
      ·exact .inr ⟨o,by simp,h⟩
     ·rintro(h | ⟨L,h1,h2⟩)
      ·exact .inl (.inl h)
      ·rcases O_.mp h1 with h1 | h1
       ·exact .inl (.inr ⟨L,h1,h2⟩)
       ·rw [P_.mp h1]at h2;exact .inr h2
    ·have:=DH b (ewe p o);omega
    ·rw [Bq]
   ·rintro τ _ ⟨k,c,b,rfl,G,g,S,rfl⟩
    rw [B_]at G S
    rw [YB]at G
    refine hZ2 _ _ ⟨_,_,_,_,b,rfl,λz=>?_,g,by omega,rfl⟩
    rw [G,m,U]
    constructor
    ·rintro(⟨J,h1,h2⟩ | h)
     ·exact⟨J,ZP _ h1,h2⟩
     ·exact⟨p,by simp,h⟩
    ·rintro⟨J,h1,h2⟩
     rcases O_.mp h1 with h1 | h1
     ·exact .inl ⟨J,h1,h2⟩
     ·rw [P_.mp h1]at h2;exact .inr h2
  ·rintro τ _ ⟨B,t,k,c,a,rfl,m,hnd,C,rfl⟩
   rw [B_]at m C
   rw [YB]at m
   exact V _ _ ⟨_,_,_,_,a,rfl,m,hnd,C,rfl⟩
 rintro τ _ ⟨B,t,k,c,a,rfl,m,hnd,C,rfl⟩
 refine Ad Ab λl N=>⟨_,Sub.refl,q a l _ m hnd C ((Sub.refl.new r:Sub μ _).none N) ?_ ((Sub.refl.new r:Sub μ _).new ((Sub.refl.new r:Sub μ _).none N))⟩
 rw [Ab,XV];rfl
theorem Yr(P:List Pr):dats (P.map Bt)=some (P.map Hm):=by
 rw [show P.map Bt=(P.map Hm).map .D by rw [XV];rfl];exact Bv _
theorem M5{p q:Pr}(h:Hm p=Hm q):p=q:=by
 obtain⟨a,b⟩:=p
 obtain⟨c,d⟩:=q
 have h:PyData.tuple [.int ((a:Nat):Int),.int ((b:Nat):Int)]=.tuple [.int ((c:Nat):Int),.int ((d:Nat):Int)]:=h
 injection h with h
 injection h with h1 h2
 injection h2 with h2 _
 injection h1 with h1
 injection h2 with h2
 rw [bA h1,bA h2]
def M6(p:Pr):Prop:=p.1<=30/\p.2 < 32
def PR:List Pr:=(List.range 31).flatMap λa=>(List.range 32).map λb=>(a,b)
theorem Ys:PR.length=992:=by decide +kernel
theorem Yt{p:Pr}(h:M6 p):p∈PR:=ZG.mpr ⟨p.1,XZ.mpr (by have:=h.1;exact iF this),D_.mpr ⟨p.2,XZ.mpr h.2,rfl⟩⟩
theorem M7{a:List Pr}(hn:a.Nodup)(h:∀p∈a,M6 p):a.length<=992:=by
 have:=Ew hn λp hp=>Yt (h p hp)
 rw [Ys]at this;exact this
theorem PU{p o:Pr}(h:M6 p)(k:M6 o):M6 (ewe p o):=⟨Nat.max_le.mpr ⟨h.1,k.1⟩,fZ (n:=5) h.2 k.2⟩
theorem J5:∀{es:List iX} {P:List Pr},(∀d∈es,d∈P.map Hm)->∃a:List Pr,es=a.map Hm
 | [],_,_=>⟨[],rfl⟩
 | d :: es,P,h=>by
  obtain⟨p,_,hp⟩:=D_.mp (h d XT)
  obtain⟨a,hz⟩:=J5 (es:=es) (P:=P) λe he=>h e (XN _ he)
  exact⟨p :: a,by rw [hz,<- hp];rfl⟩
theorem J6{a:List Pr}(h:(a.map Hm).Nodup):a.Nodup:=by
 unfold List.Nodup at h ⊢
 rw [ZJ]at h
 exact h.imp λb e=>b (by rw [e])
theorem DI{P:List Pr}(h:∀p∈P,M6 p):Few (P.map Hm):=λb hn a=>by
 obtain⟨c,rfl⟩:=J5 a
 have:=M7 (J6 hn) λp hp=>by
  obtain⟨q,hq,e⟩:=D_.mp (a _ (D_.mpr ⟨p,hp,rfl⟩))
  rw [<- M5 e];exact h q hq
 rw [B_];omega
theorem DJ{P:List Pr}(h:∀p∈P,M6 p):TOkB (P.map Hm):=by
 refine⟨DI h,λd c=>?_,λd c=>?_,λd c e he=>?_⟩
 ·obtain⟨a,ha,rfl⟩:=D_.mp c
  exact⟨rfl,rfl,by simp [Hm,PyData.depth,PyData.depthAll]⟩
 ·obtain⟨a,ha,rfl⟩:=D_.mp c
  exact⟨_,_,rfl⟩
 ·obtain⟨a,ha,rfl⟩:=D_.mp c
  obtain⟨b,hb,rfl⟩:=D_.mp he
  simp [Hm,cmpb,cmpbs]
abbrev WY:List Str:=["pairs","least"]
theorem UT:FnScope WY ["pairs","least"] (Ag LW):=⟨rfl,rfl,rfl,by decide +kernel,rfl,by decide +kernel,by decide +kernel⟩
def DK:ASp:=λ_ _ _=>False
def DL:ASp:=λb μ R=>∃(x:AV) (P:List Pr),b=[x,.D (.bool false)]/\items μ x=some (P.map Bt)/\(∀p∈P,M6 p)/\∀(a:List Pr) (l:iY) μ',(∀z,z∈a↔z∈P)->a.Nodup->a.length<=P.length->μ l=none->μ' l=some (.lst (a.map Bt))->Sub μ μ'->R (.R l) μ'
theorem PV{n:Nat}(F:Fun K "thinned" "thinned" LW f fd) (a:VCal P w K mg base n "least_alone" ["pairs"] DK) (l:mg "sorted" = none) (k:mg "set" = none):FnOk P w K mg base Fk (n+1) f fd ["pairs","least"] (Hw K 2 DL):=by
 refine F.vok UT λt A b s H E c=>⟨_,(Ai (Be (N0 (Wu (vv 1)) (An a c rfl (Aa (vv 0) Ac)) (O2 c rfl l rfl k (vv 0))))),?_⟩
 rintro r μ R _ ⟨x,P,rfl,hx,hn,q⟩
 refine Uk rfl (Ad hx (Ad (Yr P) ⟨DJ hn,λo p hnd g _ hp=>?_⟩))
 obtain⟨i,rfl⟩:=J5 λd m=>(g d).mp m
 have j:∀z,z∈i↔z∈P:=λz=>by
  have:=g (Hm z)
  rw [D_,D_]at this
  constructor
  ·intro h
   obtain⟨y,hy,e⟩:=this.mp ⟨z,h,rfl⟩
   rw [<- M5 e];exact hy
  ·intro h
   obtain⟨y,hy,e⟩:=this.mpr ⟨z,h,rfl⟩
   rw [<- M5 e];exact hy
 have hz:=J6 hnd
 refine⟨_,Sub.refl,q i p _ j hz (Ew hz λz h=>(j z).mp h) hp ?_ (Sub.refl.new hp)⟩
 rw [Ab,XV];rfl
def cho:List (List Pr)->List Pr:=List.foldl (λF G=>F.flatMap λp=>G.map (ewe p)) [(0,0)]
def pln:List (List Pr)->Nat:=List.foldl (λn G=>n * G.length) 1
structure GrAt(μ:M)(ps:List iY)(Gs:List (List Pr)):Prop where
 l:ps.length=Gs.length
 a:∀(i:Nat) p G,ps[i]?=some p->Gs[i]?=some G->μ p=some (.lst (G.map Bt))
abbrev WZ:List Str:=["groups","least","found","group"]
theorem DM:FnScope WZ ["groups","least"] (Ag LY):=⟨rfl,rfl,rfl,by decide +kernel,rfl,by decide +kernel,by decide +kernel⟩
def KH:ASp:=λb μ R=>∃(x:AV) (ps:List iY) (Gs:List (List Pr)),b=[x,.D (.bool false)]/\items μ x=some (ps.map .R)/\GrAt μ ps Gs/\(∀G∈Gs,G.length<=200/\∀p∈G,M6 p)/\∀(a:List Pr) (l:iY) μ',(∀z,z∈a↔z∈cho Gs)->a.Nodup->(a.length<=pln Gs/\∀z∈a,M6 z)->μ l=none->μ' l=some (.lst (a.map Bt))->Sub μ μ'->R (.R l) μ'
theorem PX{n:Nat}(F:Fun K "one_of_each" "one_of_each" LY f fd) (pg:VCal P w K mg base n "thinned" ["pairs","least"] DL) (T:VCal P w K mg base n "each_with_each" ["pairs","others"] PP):FnOk P w K mg base Fk (n+1) f fd ["groups","least"] (Hw K 2 KH):=by
 refine F.vok DM λba A O s H E U=>⟨_,(Af (Aq (i:=2) DM.nd rfl (Or.inl rfl) (Bd (Aa (Bc (Aa Ah (Aa Ah Ac))) Ac)))
   (Af (Bo XX rfl (A7 (vv 0)) (Aj (i:=3) DM.nd rfl (Or.inl rfl)) (Ai (Aq (i:=2) DM.nd rfl (Or.inl rfl) (An pg U rfl (Aa (An T U rfl (Aa (vv 2) (Aa (vv 3) Ac))) (Aa (vv 1) Ac))))))
   (Ai (Be (vv 2))))),?_⟩
 rintro xs μ R _ ⟨x,ps,d,rfl,hx,N,hb,q⟩
 intro V X
 refine A6 (fun τ μ'=>∃l j,∃c:List Pr,τ=[some x,some (.D (.bool false)),some (.R l),j]/\(∀z,z∈c↔z∈cho d)/\c.Nodup/\(c.length<=pln d/\∀z∈c,M6 z)/\μ l=none/\μ' l=some (.lst (c.map Bt))/\Sub μ μ') (λZ hZ=>?_) ?_
 ·have S0:Sub μ (Al μ V (.lst [Bt (0,0)])):=Sub.refl.new X
  refine Ad (Bu hx S0) ?_
  refine Cl (λi τ μ'=>∃l j,∃c:List Pr,τ=[some x,some (.D (.bool false)),some (.R l),j]/\(∀z,z∈c↔z∈cho (d.take i))/\c.Nodup/\(c.length<=pln (d.take i)/\∀z∈c,M6 z)/\μ l=none/\μ' l=some (.lst (c.map Bt))/\Sub μ μ') ⟨V,none,[(0,0)],rfl,λz=>iU,by simp,⟨E_ _,λz hz=>by rw [P_.mp hz];exact⟨XQ _,by decide⟩⟩,X,Ab,S0⟩ (λ_ _ _ ⟨_,_,_,_,_,_,_,_,_,S⟩=>Bu hx S) ?_ ?_
  ·rintro i v τ μ1 Z2 hv ⟨l,j,c,rfl,h,hnd,g,e,r,k⟩ hZ2
   rw [H_]at hv
   obtain⟨p,hp,rfl⟩:=K_.mp hv
   have hi:i < d.length:=by rw [<- N.l];exact(F_.mp hp).1
   have I:=M_ hi
   generalize d[i]=G at I
   have W:d.take (i+1)=d.take i++[G]:=by rw [YC,I];rfl
   have eg:=k _ _ (N.a i p G hp I)
   have hc:∀z,z∈cho (d.take (i+1))↔∃y∈cho (d.take i),∃o∈G,z=ewe y o:=λz=>by
    rw [W]
    unfold cho
    rw [eG,ZE,List.foldl_nil,ZG]
    constructor
    ·rintro⟨y,h1,h2⟩
     obtain⟨o,u,rfl⟩:=D_.mp h2
     exact⟨y,h1,o,u,rfl⟩
    ·rintro⟨y,h1,o,h2,rfl⟩
     exact⟨y,h1,D_.mpr ⟨o,h2,rfl⟩⟩
   have J:pln (d.take (i+1))=pln (d.take i) * G.length:=by
    rw [W]
    unfold pln
    rw [eG];rfl
   have zcg:c.length * G.length<=pln (d.take (i+1)):=by rw [J];exact eL _ g.1
   obtain⟨L,Q⟩:=hb G (XO I)
   have M:=M7 hnd g.2
   have zag:c.length * G.length<=992 * 200:=Nat.mul_le_mul M L
   refine⟨.R l,.R p,c,G,rfl,Ak r,Ak eg,by omega,λY l2 μ2 dh hnd2 fj nn e2 S2=>?_⟩
   have B:∀z∈Y,M6 z:=λz hz=>by
    obtain⟨y,h1,o,h2,rfl⟩:=(dh z).mp hz
    exact PU (g.2 y h1) (Q o h2)
   refine⟨.R l2,Y,rfl,Ak e2,B,λus l3 μ3 hm3 C mm hn3 e3 S3=>?_⟩
   have t:Sub μ μ2:=λb m hb=>S2 b m (k b m hb)
   refine hZ2 _ _ ⟨l3,_,us,rfl,λz=>?_,C,⟨by omega,λz hz=>B z ((hm3 z).mp hz)⟩,t.none hn3,e3,λb m hb=>S3 b m (t b m hb)⟩
   rw [hm3,dh,hc]
   constructor
   ·rintro⟨y,h1,o,h2,u⟩
    exact⟨y,(h y).mp h1,o,h2,u⟩
   ·rintro⟨y,h1,o,h2,u⟩
    exact⟨y,(h y).mpr h1,o,h2,u⟩
  ·rintro τ μ1 ⟨l,j,c,rfl,h,hnd,g,e,r,k⟩
   rw [B_,N.l,YB]at h g
   exact hZ _ _ ⟨l,_,c,rfl,h,hnd,g,e,r,k⟩
 rintro τ μ1 ⟨l,j,c,rfl,h,hnd,g,e,r,k⟩
 exact⟨_,Sub.refl,q c l μ1 h hnd g e r k⟩
structure Ar where
 p:Nat
 x:Nat
 ts:List Nat
 c:Nat
def Dj(a:Ar):iX:=.tuple [.int (a.p:Nat),.int (a.x:Nat),Ba a.ts,.int (a.c:Nat)]
def Hn(a:Ar):AV:=.D (Dj a)
def B0(k:Nat×Nat)(a:Ar):Bool:=decide (a.p=k.1) && decide (a.x=k.2)
def grp(A:List Ar)(k:Nat×Nat):List Pr:=(A.filter (B0 k)).map λa=>(a.c,bts a.ts)
def kvT(e:(Nat×Nat)×iY):List Key×AV:=([.inl (e.1.1:Nat),.inl (e.1.2:Nat)],.R e.2)
structure TopW(μ0 μ:M)(d:iY)(A:List Ar)(K:Nat×Nat->Prop)(kvs:List ((Nat×Nat)×iY)):Prop where
 dd:μ d=some (.dt (kvs.map kvT))
 ll:∀e∈kvs,μ e.2=some (.lst ((grp A e.1).map Bt))
 kk:∀k,(∃e∈kvs,e.1=k)↔K k
 uu:(kvs.map (·.1)).Nodup
 vv:(kvs.map (·.2)).Nodup
 fd:μ0 d=none
 fe:∀e∈kvs,μ0 e.2=none/\e.2≠d
 ss:Sub μ0 μ
def Tf(μ0 μ:M)(d:iY)(A:List Ar)(kvs:List ((Nat×Nat)×iY)):Prop:=TopW μ0 μ d A (λk=>grp A k≠[]) kvs
theorem Ri{k l:Nat×Nat}(h:([.inl (k.1:Nat),.inl (k.2:Nat)]:List Key)=[.inl (l.1:Nat),.inl (l.2:Nat)]):k=l:=by
 injection h with h1 h2
 injection h2 with h2 _
 exact gM (bA (gL h1)) (bA (gL h2))
theorem Fq:∀{kvs:List ((Nat×Nat)×iY)} {e:(Nat×Nat)×iY},(kvs.map (·.1)).Nodup->e∈kvs->Cm (kvs.map kvT) [.inl (e.1.1:Nat),.inl (e.1.2:Nat)]=some (.R e.2)
 | x :: kvs,e,hn,he=>by
  rw [XY]
  rw [XY,ZV]at hn
  by_cases h:x.1=e.1
  ·have hx:e=x:=by
    rcases XJ.mp he with rfl | he
    ·rfl
    ·exact absurd (D_.mpr ⟨e,he,h.symm⟩) hn.1
   subst hx
   exact Da
  ·have a:e∈kvs:=by
    rcases XJ.mp he with rfl | he
    ·exact absurd rfl h
    ·exact he
   rw [show Cm (kvT x :: kvs.map kvT) [.inl (e.1.1:Nat),.inl (e.1.2:Nat)]=Cm (kvs.map kvT) [.inl (e.1.1:Nat),.inl (e.1.2:Nat)] from Ct (λz=>h (Ri z))]
   exact Fq hn.2 a
theorem G4:∀{kvs:List ((Nat×Nat)×iY)} {k:Nat×Nat},(∀e∈kvs,e.1≠k)->Cm (kvs.map kvT) [.inl (k.1:Nat),.inl (k.2:Nat)]=none
 | [],_,_=>rfl
 | x :: kvs,k,h=>by
  rw [XY,show Cm (kvT x :: kvs.map kvT) [.inl (k.1:Nat),.inl (k.2:Nat)]=Cm (kvs.map kvT) [.inl (k.1:Nat),.inl (k.2:Nat)] from Ct (λz=>h x XT (Ri z))]
  exact G4 λe he=>h e (XN _ he)
theorem J7{kvs:List ((Nat×Nat)×iY)}{k:Nat×Nat}{z:iY}(h:∀e∈kvs,e.1≠k):E9 (kvs.map kvT) [.inl (k.1:Nat),.inl (k.2:Nat)] (.R z)=(kvs++[(k,z)]).map kvT:=by
 unfold E9
 rw [J_,S_]
 ·rfl
 ·intro a
  obtain⟨b,h1,h2⟩:=cK.mp a
  obtain⟨e,he,rfl⟩:=D_.mp h1
  exact h e he (Ri (YD h2))
theorem O5{kvs:List ((Nat×Nat)×iY)}{e f:(Nat×Nat)×iY}(h:(kvs.map (·.1)).Nodup)(he:e∈kvs)(hf:f∈kvs)(c:e.1=f.1):e=f:=by
 induction kvs with
 | nil=>cases he
 | cons x r a =>
  rw [XY,ZV]at h
  rcases XJ.mp he with h1 | h1 <;> rcases XJ.mp hf with h2 | h2
  ·rw [h1,h2]
  ·exact absurd (D_.mpr ⟨f,h2,by rw [<- h1];exact c.symm⟩) h.1
  ·exact absurd (D_.mpr ⟨e,h1,by rw [<- h2];exact c⟩) h.1
  ·exact a h.2 h1 h2
theorem Lr{kvs:List ((Nat×Nat)×iY)}{e f:(Nat×Nat)×iY}(h:(kvs.map (·.2)).Nodup)(he:e∈kvs)(hf:f∈kvs)(c:e.2=f.2):e=f:=by
 induction kvs with
 | nil=>cases he
 | cons x r a =>
  rw [XY,ZV]at h
  rcases XJ.mp he with h1 | h1 <;> rcases XJ.mp hf with h2 | h2
  ·rw [h1,h2]
  ·exact absurd (D_.mpr ⟨f,h2,by rw [<- h1];exact c.symm⟩) h.1
  ·exact absurd (D_.mpr ⟨e,h1,by rw [<- h2];exact c⟩) h.1
  ·exact a h.2 h1 h2
theorem O6(A:List Ar)(a:Ar)(k:Nat×Nat):grp (A++[a]) k=grp A k++(if B0 k a then [(a.c,bts a.ts)] else []):=by
 unfold grp
 rw [fF,S_,eN,List.filter_nil]
 split <;> rfl
theorem O7(a:Ar):B0 (a.p,a.x) a=true:=by unfold B0;simp
theorem M8{a:Ar}{k:Nat×Nat}(h:k≠(a.p,a.x)):B0 k a=false:=by
 unfold B0
 rw [<- Bool.decide_and]
 exact YH λc=>h (gM c.1.symm c.2.symm)
theorem PY{a b c d:iX}{i j k l:Nat}{τ:ASt}{μ:M}{R:ASt->M->Prop}(h:R ((((τ.set i (some (.D a))).set j (some (.D b))).set k (some (.D c))).set l (some (.D d))) μ):Ey (Dc i) (Ey (Dc j) (Ey (Dc k) (Ey (Dc l) Uo))) (List.map AV.D [a,b,c,d]) τ μ R:=h
abbrev XA:List Str:=["arrows","tops","stand","letter","targets","cost"]
theorem Vk:FnScope XA ["arrows"] (Ag MA):=⟨rfl,rfl,rfl,by decide +kernel,rfl,by decide +kernel,by decide +kernel⟩
def PZ:ASp:=λc μ R=>∃(x:AV) (A:List Ar),c=[x]/\items μ x=some (A.map Hn)/\A.length<=300/\(∀a∈A,∀t∈a.ts,t < 5)/\∀d b μ',Tf μ μ' d A b->R (.R d) μ'
theorem QA{n:Nat}(F:Fun K "arrows_by_top" "arrows_by_top" MA f fd) (O:VCal P w K mg base n "as_bits" ["stands"] KB):FnOk P w K mg base Fk (n+1) f fd ["arrows"] (Hw K 1 PZ):=by
 refine F.vok Vk λba A V s H E U=>⟨_,(Af (Aq (i:=1) Vk.nd rfl (Or.inl rfl) Gp)
   (Af (Bo XX rfl (A7 (vv 0)) (Dh (n:=4) rfl (Ap (Aj (i:=2) Vk.nd rfl (Or.inl rfl)) (Ap (Aj (i:=3) Vk.nd rfl (Or.inl rfl)) (Ap (Aj (i:=4) Vk.nd rfl (Or.inl rfl)) (Ap (Aj (i:=5) Vk.nd rfl (Or.inl rfl)) B8))))) (Af (Bk (Ya (Cq U) (vv 1) (Bc (Aa (vv 2) (Aa (vv 3) Ac))) (Bd Ac)))
   (Ai (Bk (Db ZA ZB Cr (C9 (Cq U) (vv 1) (Bc (Aa (vv 2) (Aa (vv 3) Ac)))) (Aa (Bc (Aa (vv 5) (Aa (An O U rfl (Aa (vv 4) Ac)) Ac))) Ac))))))
   (Ai (Be (vv 1))))),?_⟩
 rintro xs μ R _ ⟨x,A,rfl,hx,hn,ht,q⟩
 intro d W
 refine A6 (fun τ μ'=>∃I M L J,∃g:List ((Nat×Nat)×iY),τ=[some x,some (.R d),I,M,L,J]/\Tf μ μ' d A g) (λZ hZ=>?_) ?_
 ·refine Ad (Bu hx (Sub.refl.new W)) ?_
  refine Cl (λi τ μ'=>∃I M L J,∃g:List ((Nat×Nat)×iY),τ=[some x,some (.R d),I,M,L,J]/\g.length<=i/\Tf μ μ' d (A.take i) g) ⟨none,none,none,none,[],rfl,XQ _,⟨Ab,(λ_ h=>nomatch h),λk=>⟨(λ⟨_,h,_⟩=>nomatch h),λh=>absurd rfl h⟩,bJ,bJ,W,(λ_ h=>nomatch h),Sub.refl.new W⟩⟩ (λ_ _ _ ⟨_,_,_,_,_,_,_,T⟩=>Bu hx T.ss) ?_ ?_
  ·rintro i v τ μ1 Z2 hv ⟨I,M,L,J,g,rfl,G,T⟩ hZ2
   rw [H_]at hv
   obtain⟨a,ha,rfl⟩:=K_.mp hv
   have hi:=(F_.mp ha).1
   have bo:A.take (i+1)=A.take i++[a]:=by rw [YC,ha];rfl
   refine⟨rfl,PY ?_⟩
   dsimp only [List.set]
   generalize hB:A.take i=B at T bo
   refine A6 (fun τ μ'=>∃g:List ((Nat×Nat)×iY),τ=[some x,some (.R d),some (.D (.int (a.p:Nat))),some (.D (.int (a.x:Nat))),some (.D (Ba a.ts)),some (.D (.int (a.c:Nat)))]/\g.length<=i+1/\TopW μ μ' d B (λk=>grp B k≠[]\/k=(a.p,a.x)) g) (λZ3 X=>?_) ?_
   ·refine⟨⟨_,T.dd,trivial⟩,λz hz=>Ad (x:=[.inl (a.p:Nat),.inl (a.x:Nat)]) rfl ?_⟩
    have u:Sub μ1 (Al μ1 z (.lst [])):=Sub.refl.new hz
    have Y:Al μ1 z (.lst []) z=some (.lst []):=Ab
    have zd:z≠d:=by rintro rfl;rw [T.dd]at hz;cases hz
    have z0:μ z=none:=T.ss.none hz
    have zk:∀e∈g,e.2≠z:=λe he c=>by
     have:=T.ll e he
     rw [c,hz]at this;cases this
    generalize Al μ1 z (.lst [])=μ2 at u Y
    refine Ad (u _ _ T.dd) ⟨Ax (by rw [B_];omega),λv hv=>?_,λhv=>?_⟩
    ·have dg:∃e∈g,e.1=(a.p,a.x):=YW λN=>by
      rw [G4 (k:=(a.p,a.x)) λe he c=>N ⟨e,he,c⟩]at hv;cases hv
     refine X _ _ ⟨g,rfl,YX G,⟨u _ _ T.dd,λe he=>u _ _ (T.ll e he),λk=>?_,T.uu,T.vv,T.fd,T.fe,λb m hb=>u b m (T.ss b m hb)⟩⟩
     rw [T.kk]
     refine⟨.inl,λc=>c.elim id λc=>?_⟩
     rw [c]
     exact(T.kk _).mp dg
    ·have N:∀e∈g,e.1≠(a.p,a.x):=λe he c=>by
      have:=Fq T.uu he
      rw [c]at this
      rw [this]at hv;cases hv
     rw [J7 (k:=(a.p,a.x)) N]
     have g0:grp B (a.p,a.x)=[]:=YW λc=>by
      obtain⟨e,he,h⟩:=(T.kk _).mpr c
      exact N e he h
     have ne:∀{b:iY},b≠d->Al μ2 d (.dt ((g++[((a.p,a.x),z)]).map kvT)) b=μ2 b:=λh=>Ae h
     refine X _ _ ⟨g++[((a.p,a.x),z)],rfl,by rw [I_];show g.length+1<=_;exact bD G,⟨Ab,λe he=>?_,λk=>?_,?_,?_,T.fd,λe he=>?_,λb m hb=>?_⟩⟩
     ·rcases O_.mp he with he | he
      ·rw [ne (T.fe e he).2];exact u _ _ (T.ll e he)
      ·rw [P_.mp he,ne zd,g0];exact Y
     ·constructor
      ·rintro⟨e,he,rfl⟩
       rcases O_.mp he with he | he
       ·exact .inl ((T.kk _).mp ⟨e,he,rfl⟩)
       ·rw [P_.mp he];exact .inr rfl
      ·rintro(h | rfl)
       ·obtain⟨e,he,h⟩:=(T.kk k).mpr h
        exact⟨e,ZP _ he,h⟩
       ·exact⟨((a.p,a.x),z),by simp,rfl⟩
     ·rw [S_,aY]
      refine⟨T.uu,by simp,λx hx y hy e=>?_⟩
      obtain⟨S,Q,rfl⟩:=D_.mp hx
      have hy:y=(a.p,a.x):=by simpa using hy
      exact N S Q (e.trans hy)
     ·rw [S_,aY]
      refine⟨T.vv,by simp,λx hx y hy e=>?_⟩
      obtain⟨S,Q,rfl⟩:=D_.mp hx
      have hy:y=z:=by simpa using hy
      exact zk S Q (e.trans hy)
     ·rcases O_.mp he with he | he
      ·exact T.fe e he
      ·rw [P_.mp he];exact⟨z0,zd⟩
     ·rw [Ae (by rintro rfl;rw [T.fd]at hb;cases hb)]
      exact u b m (T.ss b m hb)
   clear G T
   rintro τ μ2 ⟨g,rfl,G,T⟩
   obtain⟨l,j,r⟩:=(T.kk (a.p,a.x)).mpr (.inr rfl)
   have jk:=Fq T.uu j
   rw [r]at jk
   have rh:=T.ll l j
   have ed:dget (.dt (g.map kvT)) (.tuple [.int (a.p:Nat),.int (a.x:Nat)])=some (some (AV.R l.2)):=by
    show some (Cm (g.map kvT) [.inl (a.p:Nat),.inl (a.x:Nat)])=_
    rw [jk]
   refine Ad T.dd (Ad ed (Ad (x:=AV.R l.2) rfl ⟨Ad rh trivial,_,a.ts,rfl,Dx a.ts,λt h=>YZ (ht a (XO ha) t h) (by decide),Ad rh ⟨?_,hZ2 _ _ ⟨_,_,_,_,g,rfl,G,?_⟩⟩⟩))
   ·rw [B_]
    refine Ax ?_
    unfold grp
    rw [B_]
    have:=ZM (B0 l.1) B
    rw [<- hB,X_]at this
    rw [<- hB]
    omega
   ·rw [bo]
    have ne:∀{b:iY} {o:MO},b≠l.2->Al μ2 l.2 o b=μ2 b:=λh=>Ae h
    refine⟨by rw [ne (T.fe l j).2.symm];exact T.dd,λe he=>?_,λk=>?_,T.uu,T.vv,T.fd,T.fe,λb m hb=>?_⟩
    ·rw [O6]
     by_cases C:e.1=(a.p,a.x)
     ·have:e=l:=O5 T.uu he j (C.trans r.symm)
      subst this
      rw [Ab,r,O7,Q_ rfl,S_];rfl
     ·have:e.2≠l.2:=λc=>C (by rw [Lr T.vv he j c];exact r)
      rw [ne this,M8 C,J_ L_,aG]
      exact T.ll e he
    ·rw [T.kk,O6]
     by_cases hk:k=(a.p,a.x)
     ·rw [hk,O7,Q_ rfl]
      exact⟨λ_=>by simp,λ_=>.inr rfl⟩
     ·rw [M8 hk,J_ L_,aG]
      exact⟨λc=>c.elim id λc=>absurd c hk,.inl⟩
    ·rw [ne (by rintro rfl;rw [(T.fe l j).1]at hb;cases hb)]
     exact T.ss b m hb
  ·rintro τ μ1 ⟨I,M,L,J,g,rfl,G,T⟩
   rw [B_,YB]at T
   exact hZ _ _ ⟨_,_,_,_,g,rfl,T⟩
 rintro τ μ1 ⟨I,M,L,J,g,rfl,T⟩
 exact⟨_,Sub.refl,q d g μ1 T⟩
abbrev XB:List Str:=["lows","bits","low"]
theorem QB:FnScope XB ["lows","bits"] (Ag LR):=⟨rfl,rfl,rfl,by decide +kernel,rfl,by decide +kernel,by decide +kernel⟩
theorem QC{n:Nat}(F:Fun K "has_within" "has_within" LR f fd):FnOk P w K mg base Fk (n+1) f fd ["lows","bits"] (Hw K 2 DK):=by
 refine F.vok QB λc A a s H E b=>⟨_,(Af (Bo XX rfl (A7 (vv 0)) (Aj (i:=2) QB.nd rfl (Or.inl rfl)) (Ai (D6 (Bh (E3 b) (A4 X8 (vv 2) (vv 1)) (vv 2) (nomark _)) (Ai (Be K7)) Cs)))
   (Ai (Be K7))),?_⟩
 rintro d μ R _ h
 exact h.elim
abbrev XC:List Str:=["pairs","kept","lows","cost","bits"]
theorem Yu:FnScope XC ["pairs"] (Ag LU):=⟨rfl,rfl,rfl,by decide +kernel,rfl,by decide +kernel,by decide +kernel⟩
theorem QD{n:Nat}(F:Fun K "least_alone" "least_alone" LU f fd) (a:VCal P w K mg base n "has_within" ["lows","bits"] DK) (d:mg "sorted" = none):FnOk P w K mg base Fk (n+1) f fd ["pairs"] (Hw K 1 DK):=by
 refine F.vok Yu λe A b s H E c=>⟨_,(Af (Aq (i:=1) Yu.nd rfl (Or.inl rfl) (Bd Ac))
   (Af (Aq (i:=2) Yu.nd rfl (Or.inl rfl) (Bd Ac))
   (Af (Bo XX rfl (A7 (A8 (Ol c) rfl d PyProof.Rows.boot_sorted (Aa (vv 0) Ac))) (Dh (n:=2) rfl (Ap (Aj (i:=3) Yu.nd rfl (Or.inl rfl)) (Ap (Aj (i:=4) Yu.nd rfl (Or.inl rfl)) B8))) (Ai (D6 (ID (Wu (An a c rfl (Aa (vv 2) (Aa (vv 4) Ac))))) (Af (Bk (Db ZA ZB Cr (vv 1) (Aa (Bc (Aa (vv 3) (Aa (vv 4) Ac))) Ac)))
   (Ai (Bk (Db ZA ZB Cr (vv 2) (Aa (vv 4) Ac))))) Cs)))
   (Ai (Be (vv 1)))))),?_⟩
 rintro g μ R _ h
 exact h.elim
structure TopR(μ:M)(d:iY)(A:List Ar):Prop where
 at':∃kvs:List ((Nat×Nat)×iY),μ d=some (.dt (kvs.map kvT))/\(∀e∈kvs,μ e.2=some (.lst ((grp A e.1).map Bt)))/\(∀k,(∃e∈kvs,e.1=k)↔grp A k≠[])/\(kvs.map (·.1)).Nodup
theorem TopW.r{μ0 μ:M}{d:iY}{A:List Ar}{kvs:List ((Nat×Nat)×iY)}(h:Tf μ0 μ d A kvs):TopR μ d A:=⟨kvs,h.dd,h.ll,h.kk,h.uu⟩
theorem TopR.sub{μ ν:M}{d:iY}{A:List Ar}(h:TopR μ d A)(S:Sub μ ν):TopR ν d A:=by
 obtain⟨a,h1,h2,c,b⟩:=h.at'
 exact⟨a,S _ _ h1,λe he=>S _ _ (h2 e he),c,b⟩
def tab:Nat->Nat
 | 0=>1 | 1=>1 | 2=>2 | 3=>3 | 4=>4 | 5=>6 | 6=>9 | 7=>12 | 8=>18 | _=>0
theorem DN:∀a,a < 9->∀b,b < 9->a+b<=8->tab a * b<=tab (a+b):=by decide
theorem KI:∀a,a < 9->tab a<=18:=by decide
theorem Tg:∀(Gs:List (List Pr)) (n a:Nat),n<=tab a->a+(Gs.map List.length).sum<=8->Gs.foldl (λn G=>n * G.length) n<=tab (a+(Gs.map List.length).sum)
 | [],n,a,h,_=>h
 | G :: Gs,n,a,h,b=>by
  rw [XY,iI]at b ⊢
  have h1:=DN a (by omega) G.length (by omega) (by omega)
  have h2:n * G.length<=tab (a+G.length):=G_ (eL _ h) h1
  have:=Tg Gs (n * G.length) (a+G.length) h2 (by omega)
  rw [cF]at this
  exact this
theorem Rj{Gs:List (List Pr)}(h:(Gs.map List.length).sum<=8):pln Gs<=18:=by
 have:=Tg Gs 1 0 (E_ _) (by omega)
 exact G_ this (KI _ (by omega))
theorem O8:∀(l:List Nat) (j:Nat),(l.take j).sum<=l.sum
 | [],j=>by rw [List.take_nil];exact E_ _
 | x :: l,0=>XQ _
 | x :: l,j+1=>by
  rw [List.take_succ_cons,iI,iI]
  exact bM (O8 l j) x
theorem Yv{Gs:List (List Pr)}(h:(Gs.map List.length).sum<=8)(j:Nat):pln (Gs.take j)<=18:=by
 refine Rj (G_ ?_ h)
 rw [d_]
 exact O8 _ _
theorem Lu(p:Ar->Bool):∀A:List Ar,(A.filter p).length+(A.filter λa=>!p a).length=A.length
 | []=>rfl
 | a :: A=>by
  have:=Lu p A
  cases h:p a <;> simp [List.filter_cons,h] <;> omega
theorem Yw{A:List Ar}{k l:Nat×Nat}(h:l≠k):grp (A.filter λa=>!B0 k a) l=grp A l:=by
 unfold grp
 rw [List.filter_filter]
 congr 1
 refine List.filter_congr λa _=>?_
 cases c:B0 l a
 ·rfl
 ·have e:l=(a.p,a.x):=YW λz=>by rw [M8 z]at c;cases c
  rw [M8 (a:=a) (k:=k) λz=>h (e.trans z.symm)];rfl
def grs(A:List Ar)(x:Nat)(ts:List Nat):List (List Pr):=ts.map λt=>grp A (t,x)
theorem M9:∀{ts:List Nat} {A:List Ar} {x:Nat},ts.Nodup->((grs A x ts).map List.length).sum<=A.length
 | [],A,x,_=>XQ _
 | t :: ts,A,x,h=>by
  rw [ZV]at h
  have e:grs A x ts=grs (A.filter λa=>!B0 (t,x) a) x ts:=by
   unfold grs
   refine aX λu hu=>?_
   rw [Yw λc=>h.1 (by have e:u=t:=(Prod.ext_iff.mp c).1;rw [<- e];exact hu)]
  have:=M9 (ts:=ts) (A:=A.filter λa=>!B0 (t,x) a) (x:=x) h.2
  have hp:=Lu (B0 (t,x)) A
  have b:(grp A (t,x)).length=(A.filter (B0 (t,x))).length:=by unfold grp;rw [B_]
  show((grp A (t,x) :: grs A x ts).map List.length).sum<=_
  rw [XY,iI,e]
  omega
theorem Yx(n:Nat):(B9 n).Nodup:=List.Nodup.sublist gT eO
def rdg(A:List Ar)(s:Nat):List Nat->List Pr
 | []=>[(0,bts [s])]
 | [x]=>grp A (s,x)
 | x :: y :: _=>(grp A (s,x)).flatMap λp=>(cho (grs A y (B9 p.2))).map λq=>(p.1+q.1,q.2)
theorem Na(A:List Ar)(k:Nat×Nat):(grp A k).length<=A.length:=by
 unfold grp
 rw [B_]
 exact ZM _ _
theorem Nb{μ0 μ:M}{d:iY}{A:List Ar}{m ty:AE}{τ:ASt}{R:AV->M->Prop}(h:TopR μ0 d A)(g:Sub μ0 μ)(p x:Nat)(o:∀Q:AV->M->Prop,Q (.R d) μ->m τ μ Q)(e2:∀Q:AV->M->Prop,Q (.D (.tuple [.int (p:Nat),.int (x:Nat)])) μ->ty τ μ Q)(q:∀l μ',μ' l=some (.lst ((grp A (p,x)).map Bt))->Sub μ μ'->(μ0 l≠none\/μ l=none)->R (.R l) μ'):Xn m ty (NP IE) τ μ R:=by
 obtain⟨a,h1,h2,j,n⟩:=h.at'
 refine o _ ⟨⟨_,g _ _ h1,trivial⟩,e2 _ λz hz=>?_⟩
 have S:Sub μ (Al μ z (.lst [])):=Sub.refl.new hz
 refine Ad (S _ _ (g _ _ h1)) ?_
 by_cases hk:grp A (p,x)=[]
 ·have r:∀e∈a,e.1≠(p,x):=λe he c=>by
   have:=(j (p,x)).mp ⟨e,he,c⟩
   exact this hk
  have b:=G4 (k:=(p,x)) r
  refine Ad (x:=none) (by show some (Cm (a.map kvT) [.inl (p:Nat),.inl (x:Nat)])=_;rw [b]) (q z _ ?_ S (.inr hz))
  rw [Ab,hk];rfl
 ·obtain⟨e,he,i⟩:=(j (p,x)).mpr hk
  have b:=Fq n he
  rw [i]at b
  refine Ad (x:=some (AV.R e.2)) (by show some (Cm (a.map kvT) [.inl (p:Nat),.inl (x:Nat)])=_;rw [b]) (show R (AV.R e.2) _ from q e.2 _ ?_ S (.inl λc=>by rw [h2 e he]at c;cases c))
  have:=S _ _ (g _ _ (h2 e he))
  rw [i]at this
  exact this
theorem Rk:∀{ts:List Nat},(∀t∈ts,t < 5)->∀{b:Nat},b < 32->ts.foldl (λb k=>b ||| 2 ^ k) b < 32
 | [],_,_,hb=>hb
 | t :: ts,h,b,hb=>by
  refine Rk (ts:=ts) (λu hu=>h u (XN _ hu)) ?_
  have a:=h t XT
  exact fZ (n:=5) hb (Nat.pow_lt_pow_right (by decide) a)
theorem Rl{A:List Ar}(h:∀a∈A,∀t∈a.ts,t < 5){k:Nat×Nat}{p:Pr}(hp:p∈grp A k):p.2 < 32:=by
 unfold grp at hp
 obtain⟨a,ha,rfl⟩:=D_.mp hp
 exact Rk (h a (YU.mp ha).1) (by decide)
theorem Yy{A:List Ar}(h:∀a∈A,a.c<=9){k:Nat×Nat}{p:Pr}(hp:p∈grp A k):p.1<=9:=by
 unfold grp at hp
 obtain⟨a,ha,rfl⟩:=D_.mp hp
 exact h a (YU.mp ha).1
theorem FZ:∀{Gs:List (List Pr)},(∀G∈Gs,∀p∈G,p.1<=9/\p.2 < 32)->∀{F:List Pr},(∀p∈F,p.1<=9/\p.2 < 32)->∀p∈List.foldl (λF G=>F.flatMap λp=>G.map (ewe p)) F Gs,p.1<=9/\p.2 < 32
 | [],_,_,c=>c
 | G :: Gs,h,F,c=>by
  rw [ZE]
  refine FZ (Gs:=Gs) (λd g=>h d (XN _ g)) λp hp=>?_
  obtain⟨y,h1,h2⟩:=ZG.mp hp
  obtain⟨o,e,rfl⟩:=D_.mp h2
  have a:=c y h1
  have b:=h G XT o e
  exact⟨Nat.max_le.mpr ⟨a.1,b.1⟩,fZ (n:=5) a.2 b.2⟩
theorem GA{A:List Ar}(h:∀a∈A,a.c<=9)(d:∀a∈A,∀t∈a.ts,t < 5){y:Nat}{e:List Nat}:∀G∈grs A y e,∀p∈G,p.1<=9/\p.2 < 32:=λG b p hp=>by
 unfold grs at b
 obtain⟨t,_,rfl⟩:=D_.mp b
 exact⟨Yy h hp,Rl d hp⟩
theorem O9{A:List Ar}(h:∀a∈A,a.c<=9)(d:∀a∈A,∀t∈a.ts,t < 5){s:Nat}(hs:s < 5):∀{w:List Nat},∀z∈rdg A s w,z.1<=18/\z.2 < 32
 | [],z,hz=>by
  rw [rdg,P_]at hz
  rw [hz]
  exact⟨XQ _,Rk (ts:=[s]) (λt d=>by rw [P_.mp d];exact hs) (by decide)⟩
 | [x],z,hz=>by
  rw [rdg]at hz
  exact⟨G_ (Yy h hz) (by decide),Rl d hz⟩
 | x :: y :: _,z,hz=>by
  rw [rdg]at hz
  obtain⟨p,h1,h2⟩:=ZG.mp hz
  obtain⟨q,e,rfl⟩:=D_.mp h2
  have a:=Yy h h1
  have b:=FZ (GA h d) (F:=[(0,0)]) (λp hp=>by rw [P_.mp hp];exact⟨XQ _,by decide⟩) q e
  exact⟨by dsimp only;omega,b.2⟩
def QE(A:List Ar)(y:Nat)(f r:iY)(kvs:List (Key×AV))(μ:M):Prop:=∀(k:Nat) v,Cm kvs (.inl (k:Nat))=some v->∃(a:iY) (ys:List Pr),v=.R a/\a≠f/\a≠r/\μ a=some (.lst (ys.map Bt))/\(∀z,z∈ys↔z∈cho (grs A y (B9 k)))/\ys.length<=18
theorem Vl{a b:iX}{i j:Nat}{τ:ASt}{μ:M}{R:ASt->M->Prop}(h:R ((τ.set i (some (.D a))).set j (some (.D b))) μ):Ey (Dc i) (Ey (Dc j) Uo) (List.map AV.D [a,b]) τ μ R:=h
abbrev UU:List Str:=["tops","stand","w","least","firsts","found","rests","cost","bits"]
theorem Vm:FnScope UU ["tops","stand","w","least"] (Ag FT):=⟨rfl,rfl,rfl,by decide +kernel,rfl,by decide +kernel,by decide +kernel⟩
theorem QF:(["target","tops","w"]:List Str).Nodup:=by decide +kernel
theorem GB:(["rest_cost","rest_bits","cost"]:List Str).Nodup:=by decide +kernel
def QG:ASp:=λe μ R=>∃(d:iY) (A:List Ar) (s:Nat) (w:List Nat),e=[.R d,.D (.int (s:Nat)),.D (Ba w),.D (.bool false)]/\TopR μ d A/\A.length<=8/\s < 5/\w.length<=2/\(∀a∈A,∀t∈a.ts,t < 5)/\(∀a∈A,a.c<=9)/\∀(b:List Pr) (l:iY) μ',(∀z,z∈b↔z∈rdg A s w)->b.Nodup->(b.length<=144/\∀z∈b,z.1<=18/\z.2 < 32)->μ l=none->μ' l=some (.lst (b.map Bt))->Sub μ μ'->R (.R l) μ'
theorem QH{n:Nat}(F:Fun K "readings_by" "readings_by" FT f fd) (cAb:VCal P w K mg base n "as_bits" ["stands"] KB) (cAs:VCal P w K mg base n "as_stands" ["bits"] KC) (pg:VCal P w K mg base n "thinned" ["pairs","least"] DL) (cOe:VCal P w K mg base n "one_of_each" ["groups","least"] KH) (am:mg "len" = none):FnOk P w K mg base Fk (n+1) f fd ["tops","stand","w","least"] (Hw K 4 QG):=by
 refine F.vok Vm λba A outer s H E C=>⟨_,(Af (D6 (Bh (E3 C) (A8 D4 rfl am Z_ (Aa (vv 2) Ac)) Ah (nomark _)) (Ai (Be (Bd (Aa (Bc (Aa Ah (Aa (An cAb C rfl (Aa (Bc (Aa (vv 1) Ac)) Ac)) Ac))) Ac)))) Cs)
   (Af (Aq (i:=4) Vm.nd rfl (Or.inl rfl) (Om (Cq C) (vv 0) (Bc (Aa (vv 1) (Aa (Bj Ce (vv 2) Ah) Ac))) (Bd Ac)))
   (Af (D6 (Bh (E3 C) (A8 D4 rfl am Z_ (Aa (vv 2) Ac)) Ah (nomark _)) (Ai (Be (An pg C rfl (Aa (vv 4) (Aa (vv 3) Ac))))) Cs)
   (Af (Aq (i:=5) Vm.nd rfl (Or.inl rfl) (Bd Ac))
   (Af (Aq (i:=6) Vm.nd rfl (Or.inl rfl) Xa)
   (Af (Bo XX rfl (A7 (vv 4)) (Dh (n:=2) rfl (Ap (Aj (i:=7) Vm.nd rfl (Or.inr rfl)) (Ap (Aj (i:=8) Vm.nd rfl (Or.inl rfl)) B8))) (Af (D6 (Ur (Cq C) (vv 8) (vv 6)) (Ai (Fl (Cq C) (vv 6) (vv 8) (An cOe C rfl (Aa (Bl (N':=["target","tops","w"]) (mp:=[none,some 0,some 2]) rfl (A7 (An cAs C rfl (Aa (vv 8) Ac))) (λ_ _ _ _=>(Aj (i:=0) QF rfl (Or.inl rfl) (Or.inr rfl))) (λ_ _ _ _=>Bw) (λ_ _ _ _=>(Om (Cq C) (vv 1) (Bc (Aa (vv 0) (Aa (Bj Ce (vv 2) Ah) Ac))) (Bd Ac))) (Av (N:=UU) (pn:=(Ag FT).names) (by decide +kernel))) (Aa (vv 3) Ac))))) Cs)
   (Ai (Bk (Db aK aL Ek (vv 5) (Aa (Bl (N':=["rest_cost","rest_bits","cost"]) (mp:=[none,none,some 7]) rfl (A7 (C9 (Cq C) (vv 6) (vv 8))) (λ_ _ _ _=>(Dh (n:=2) rfl (Ap (Aj (i:=0) GB rfl (Or.inl rfl) (Or.inr rfl)) (Ap (Aj (i:=1) GB rfl (Or.inl rfl) (Or.inr rfl)) B8)))) (λ_ _ _ _=>Bw) (λ_ _ _ _=>(Bc (Aa (A4 Ck (vv 2) (vv 0)) (Aa (vv 1) Ac)))) (Av (N:=UU) (pn:=(Ag FT).names) (by decide +kernel))) Ac))))))
   (Ai (Be (An pg C rfl (Aa (vv 5) (Aa (vv 3) Ac))))))))))),?_⟩
 rintro xs μ R _ ⟨d,A,s,w,rfl,hT,hA,hs,hw,ht,hc9,q⟩
 have q:∀(B:List Pr) (l:iY) μ',(∀z,z∈B↔z∈rdg A s w)->B.Nodup->B.length<=144->μ l=none->μ' l=some (.lst (B.map Bt))->Sub μ μ'->R (.R l) μ':=λB l μ' h1 h2 h3=>q B l μ' h1 h2 ⟨h3,λz hz=>O9 hc9 ht hs z ((h1 z).mp hz)⟩
 have mi:∀z∈rdg A s w,M6 z:=λz hz=>let⟨a,b⟩:=O9 hc9 ht hs z hz;⟨G_ a (by decide),b⟩
 match w,hw,q,mi with
 | [],_,q,mi =>
  refine C1 ⟨A9 _,A9 _,Nz rfl ⟨_,[s],rfl,rfl,λt h=>by rw [P_.mp h];omega,λl hl=>⟨_,Sub.refl,q [(0,bts [s])] l _ (λz=>iU) (by simp) (by rw [eA];decide) hl Ab (Sub.refl.new hl)⟩⟩⟩
 | [x],_,q,mi =>
  refine C1 ⟨A9 _,A9 _,Uk rfl ?_⟩
  refine C1 (Nb hT Sub.refl s x (λQ h=>h) (λQ h=>Ad (x:=PyData.int (x:Nat)) rfl h) λl μ1 hl S hlo=>?_)
  refine C1 ⟨A9 _,A9 _,Nz rfl ?_⟩
  have hg:=Na A (s,x)
  refine⟨_,grp A (s,x),rfl,Ak hl,mi,λB p μ2 X hnd mz hp e2 S2=>⟨_,Sub.refl,q B p μ2 X hnd (by omega) (S.none hp) e2 λb m hb=>S2 b m (S b m hb)⟩⟩
 | [x,y],_,q,mi =>
  refine C1 ⟨A9 _,A9 _,Uk rfl ?_⟩
  refine C1 (Nb hT Sub.refl s x (λQ h=>h) (λQ h=>Ad (x:=PyData.int (x:Nat)) rfl h) λl μ1 hl S hlo=>?_)
  refine C1 ⟨A9 _,A9 _,Uk rfl ?_⟩
  intro f hf r C
  have S1:Sub μ (Al μ1 f (.lst [])):=S.new (S.none hf)
  have ef:Al μ1 f (.lst []) f=some (.lst []):=Ab
  have gh:Al μ1 f (.lst []) l=some (.lst ((grp A (s,x)).map Bt)):=Sub.refl.new hf _ _ hl
  have fr:f≠r:=by rintro rfl;rw [ef]at C;cases C
  have f0:μ f=none:=S.none hf
  have r0:μ r=none:=S1.none C
  have S2:Sub μ (Al (Al μ1 f (.lst [])) r (.dk [])):=S1.new r0
  have ef2:Al (Al μ1 f (.lst [])) r (.dk []) f=some (.lst []):=by rw [Ae fr];exact ef
  have er2:Al (Al μ1 f (.lst [])) r (.dk []) r=some (.dk []):=Ab
  have fj:Al (Al μ1 f (.lst [])) r (.dk []) l=some (.lst ((grp A (s,x)).map Bt)):=Sub.refl.new C _ _ gh
  have lf:l≠f:=by rintro rfl;rw [hf]at hl;cases hl
  have lr:l≠r:=by rintro rfl;rw [C]at gh;cases gh
  generalize Al (Al μ1 f (.lst [])) r (.dk [])=μ2 at S2 ef2 er2 fj
  clear gh ef S1
  have hG:=Na A (s,x)
  have zg:=λp (hp:p∈grp A (s,x))=>Rl ht hp
  show N5 _ _ _ _ _ _ [some (.R d),some (.D (.int (s:Nat))),some (.D (Ba [x,y])),some (.D (.bool false)),some (.R l),some (.R f),some (.R r),none,none] μ2
  have eq:rdg A s [x,y]=(grp A (s,x)).flatMap λp=>(cho (grs A y (B9 p.2))).map λq=>(p.1+q.1,q.2):=rfl
  rw [eq]at q mi
  generalize grp A (s,x)=G at hG zg q fj mi
  refine A6 (fun τ μ'=>∃o7 o8,∃B:List Pr,τ=[some (.R d),some (.D (.int (s:Nat))),some (.D (Ba [x,y])),some (.D (.bool false)),some (.R l),some (.R f),some (.R r),o7,o8]/\μ' f=some (.lst (B.map Bt))/\(∀z,z∈B↔z∈G.flatMap λp=>(cho (grs A y (B9 p.2))).map λq=>(p.1+q.1,q.2))/\B.length<=144/\Sub μ μ') (λZ hZ=>?_) ?_
  ·refine Ad (Ak fj) ?_
   refine Cl (λi τ μ'=>∃o7 o8,∃(B:List Pr) (kvs:List (Key×AV)),τ=[some (.R d),some (.D (.int (s:Nat))),some (.D (Ba [x,y])),some (.D (.bool false)),some (.R l),some (.R f),some (.R r),o7,o8]/\μ' f=some (.lst (B.map Bt))/\μ' r=some (.dk kvs)/\μ' l=some (.lst (G.map Bt))/\(∀z,z∈B↔z∈(G.take i).flatMap λp=>(cho (grs A y (B9 p.2))).map λq=>(p.1+q.1,q.2))/\B.length<=18 * i/\kvs.length<=i/\QE A y f r kvs μ'/\Sub μ μ') ⟨none,none,[],[],rfl,ef2,er2,fj,(λz=>iU),E_ _,E_ _,(λ_ _ h=>nomatch h),S2⟩ (λ_ _ _ ⟨_,_,_,_,_,_,_,e,_⟩=>Ak e) ?_ ?_
   ·rintro i v τ μ3 Z2 hv ⟨o7,o8,B,kvs,rfl,T,U,e3l,X,mz,dz,hR,S3⟩ hZ2
    rw [H_]at hv
    obtain⟨⟨c,b⟩,hp,rfl⟩:=K_.mp hv
    have hb:b < 32:=zg _ (XO hp)
    have hi:=(F_.mp hp).1
    refine⟨rfl,Vl ?_⟩
    dsimp only [List.set]
    refine A6 (fun τ μ'=>∃(kvs:List (Key×AV)) (v:AV),τ=[some (.R d),some (.D (.int (s:Nat))),some (.D (Ba [x,y])),some (.D (.bool false)),some (.R l),some (.R f),some (.R r),some (.D (.int (c:Nat))),some (.D (.int (b:Nat)))]/\μ' f=some (.lst (B.map Bt))/\μ' r=some (.dk kvs)/\μ' l=some (.lst (G.map Bt))/\Cm kvs (.inl (b:Nat))=some v/\kvs.length<=i+1/\QE A y f r kvs μ'/\Sub μ μ') (λZ3 bj=>?_) ?_
    ·refine Ad U (Ad (x:=Cm kvs (.inl (b:Nat))) rfl ?_)
     cases hv:Cm kvs (.inl (b:Nat)) with
     | some v=>exact Uk rfl (bj _ _ ⟨kvs,v,rfl,T,U,e3l,hv,YX dz,hR,S3⟩)
     | none =>
      refine Nz rfl ⟨b,rfl,hb,fun μ4 S4=>Ad (Dx _) λO I=>?_⟩
      have hTB:TopR μ4 d A:=hT.sub λb m hb=>S4 b m (S3 b m hb)
      have jm:((grs A y (B9 b)).map List.length).sum<=8:=G_ (M9 (Yx b)) hA
      have h5:(B9 b).length<=5:=G_ (ZM _ _) (by rw [ZK];exact E_ _)
      refine Di (λi J τ' μ'=>∃o,∃ps:List iY,τ'=[o,some (.R d),some (.D (Ba [x,y]))]/\J=ps.map .R/\ps.length=i/\(∀(j:Nat) p t,ps[j]?=some p->(B9 b)[j]?=some t->p≠O/\μ' p=some (.lst ((grp A (t,y)).map Bt)))/\μ' O=some (.lst J)/\Sub μ4 μ') ⟨none,[],rfl,rfl,rfl,(λ_ _ _ h=>nomatch h),Ab,Sub.refl.new I⟩ (λ_ _ _ _ _=>Dx _) ?_ ?_
      ·rintro j0 v J τ' μ5 W hv' ⟨o,ps,rfl,rfl,ae,io,e5,M⟩ hW
       rw [H_]at hv'
       obtain⟨t,bh,rfl⟩:=K_.mp hv'
       have hj5:=(F_.mp bh).1
       refine Nz rfl (Nb hTB M t y (λQ h=>h) (λQ h=>Ad (x:=PyData.int (y:Nat)) rfl h) λl5 μ6 hl5 S6 ho=>⟨S6 _ _ e5,Ax (by rw [B_];omega),hW _ _ _ ⟨_,ps++[l5],rfl,by rw [S_];rfl,by rw [I_,ae];rfl,?_,Ab,λb m hb=>?_⟩⟩)
       ·have al:l5≠O:=by
         rintro rfl
         rcases ho with h | h
         ·exact h I
         ·rw [e5]at h;cases h
        intro j p t' h1 h2
        rcases Y_ j ps.length with h | h
        ·rw [aU h]at h1
         obtain⟨n,e⟩:=io j p t' h1 h2
         exact⟨n,by rw [Ae n];exact S6 _ _ e⟩
        ·rw [ZY h]at h1
         have h3:=(F_.mp h1).1
         rw [eA]at h3
         have h4:j=j0:=by omega
         rw [show j - ps.length=0 by omega]at h1
         have h6:l5=p:=YO h1
         rw [h4,bh]at h2
         have h7:t=t':=YO h2
         rw [<- h6,<- h7]
         exact⟨al,by rw [Ae al];exact hl5⟩
       ·rw [Ae (by rintro rfl;rw [I]at hb;cases hb)]
        exact S6 _ _ (M _ _ hb)
      ·rintro J τ' μ5 ⟨o,ps,rfl,rfl,ae,io,e5,M⟩
       rw [B_]at ae
       refine⟨.R O,ps,grs A y (B9 b),rfl,Ak e5,⟨by unfold grs;rw [B_];exact ae,λj p g h1 h2=>?_⟩,λG' sx=>⟨?_,λp hp=>let⟨a,b⟩:=GA hc9 ht G' sx p hp;⟨G_ a (by decide),b⟩⟩,λus l6 μ6 hm6 hnd6 jf hl6 e6 S6=>?_⟩
       ·unfold grs at h2
        rw [H_]at h2
        obtain⟨t,h3,rfl⟩:=K_.mp h2
        exact(io j p t h1 h3).2
       ·unfold grs at sx
        obtain⟨t,_,rfl⟩:=D_.mp sx
        exact G_ (Na A _) (by omega)
       ·have V:Sub μ3 μ6:=λb m hb=>S6 _ _ (M _ _ (S4 _ _ hb))
        have lf6:l6≠f:=by rintro rfl;rw [M _ _ (S4 _ _ T)]at hl6;cases hl6
        have lr6:l6≠r:=by rintro rfl;rw [M _ _ (S4 _ _ U)]at hl6;cases hl6
        have wm:=Rj jm
        have jf:=jf.1
        have mj:=Yp kvs (.inl (b:Nat)) (.R l6)
        refine Ad (V _ _ U) (Ad (x:=MO.dk (E9 kvs (.inl (b:Nat)) (.R l6))) rfl ⟨Ax (show kvs.length<=_ by omega),bj _ _ ⟨E9 kvs (.inl (b:Nat)) (.R l6),.R l6,rfl,by rw [Ae fr];exact V _ _ T,Ab,by rw [Ae lr];exact V _ _ e3l,by rw [O3,Q_ rfl],by omega,λk v hk=>?_,λb m hb=>?_⟩⟩)
        ·rw [O3]at hk
         by_cases e:(Sum.inl (k:Int):Key)=.inl (b:Int)
         ·rw [Q_ e]at hk
          have e:k=b:=bA (gL e)
          subst e
          exact⟨l6,us,(YO hk).symm,lf6,lr6,by rw [Ae lr6];exact e6,hm6,G_ jf wm⟩
         ·rw [J_ e]at hk
          obtain⟨a,Y,rfl,af,ar,ea,L,hyl⟩:=hR _ _ hk
          exact⟨a,Y,rfl,af,ar,by rw [Ae ar];exact V _ _ ea,L,hyl⟩
        ·rw [Ae (by rintro rfl;rw [r0]at hb;cases hb)]
         exact V _ _ (S3 _ _ hb)
    clear dz hR
    rintro τ μ4 ⟨kvs,v,rfl,e4f,e4r,e4l,hv,dz,hR,S4⟩
    obtain⟨a,Y,rfl,af,ar,ea,L,hyl⟩:=hR _ _ hv
    refine⟨Ad e4f trivial,Ad e4r (Ad (x:=some (AV.R a)) (by show some (Cm kvs (.inl (b:Nat)))=_;rw [hv]) (Ad (x:=AV.R a) rfl (Ad (Ak ea) λO I=>?_)))⟩
    have pa:a≠O:=by rintro rfl;rw [I]at ea;cases ea
    have pf:f≠O:=by rintro rfl;rw [I]at e4f;cases e4f
    have p0:μ O=none:=S4.none I
    refine cmap Y Bt (λq=>Bt (c+q.1,q.2)) (fun τ=>∃o1 o2,τ=[o1,o2,some (.D (.int (c:Nat)))]) ⟨none,none,rfl⟩ Ab (seven (by omega)) (λJ=>Ak (by rw [Bq,Ae pa];exact ea)) ?_ ?_
    ·rintro j ⟨c2,b2⟩ τ' J W hq ⟨o1,o2,rfl⟩ hW
     refine⟨rfl,Vl ?_⟩
     exact hW _ ⟨_,_,rfl⟩
    ·rw [Bq]
     have M:Sub μ4 (Al μ4 O (.lst (Y.map λq=>Bt (c+q.1,q.2)))):=Sub.refl.new I
     have e5:Al μ4 O (.lst (Y.map λq=>Bt (c+q.1,q.2))) O=some (.lst (Y.map λq=>Bt (c+q.1,q.2))):=Ab
     generalize Al μ4 O (.lst (Y.map λq=>Bt (c+q.1,q.2)))=μ5 at M e5
     have bo:G.take (i+1)=G.take i++[(c,b)]:=by rw [YC,hp];rfl
     refine Ad (M _ _ e4f) (Ad e5 ⟨YM (Ax (by rw [B_,B_];omega)),hZ2 _ _ ⟨_,_,B++Y.map (λq=>(c+q.1,q.2)),kvs,rfl,?_,by rw [Ae fr.symm];exact M _ _ e4r,by rw [Ae lf];exact M _ _ e4l,λz=>?_,by rw [I_,B_];omega,dz,λk v hk=>?_,λb m hb=>?_⟩⟩)
     ·rw [Ab,S_,XV];rfl
     ·rw [bo,bN,O_,O_,X,f_]
      refine or_congr iU ?_
      rw [D_,D_]
      exact⟨λ⟨u,h1,h2⟩=>⟨u,(L u).mp h1,h2⟩,λ⟨u,h1,h2⟩=>⟨u,(L u).mpr h1,h2⟩⟩
     ·obtain⟨a,Y,rfl,af,ar,ea,L,hyl⟩:=hR _ _ hk
      exact⟨a,Y,rfl,af,ar,by rw [Ae af];exact M _ _ ea,L,hyl⟩
     ·rw [Ae (by rintro rfl;rw [f0]at hb;cases hb)]
      exact M _ _ (S4 _ _ hb)
   ·rintro τ μ3 ⟨o7,o8,B,kvs,rfl,T,U,e3l,X,mz,dz,hR,S3⟩
    rw [B_]at X mz
    rw [YB]at X
    exact hZ _ _ ⟨_,_,B,rfl,T,X,by omega,S3⟩
  rintro τ μ3 ⟨o7,o8,B,rfl,e3,X,mz,S3⟩
  refine⟨_,B,rfl,Ak e3,λz hz=>mi z ((X z).mp hz),λus p μ4 hm4 hnd jf hp e4 S4=>⟨_,Sub.refl,q us p μ4 (λz=>(hm4 z).trans (X z)) hnd (G_ jf mz) (S3.none hp) e4 λb m hb=>S4 b m (S3 b m hb)⟩⟩
abbrev XE:List Str:=["groups","least","found","group"]
theorem KJ:FnScope XE ["groups","least"] (Ag LX):=⟨rfl,rfl,rfl,by decide +kernel,rfl,by decide +kernel,by decide +kernel⟩
theorem Vn{α:Type}{Gs:List (List α)}{i:Nat}{G:List α}(h:Gs[i]?=some G):(Gs.take (i+1)).flatten=(Gs.take i).flatten++G:=by
 rw [YC,h,List.flatten_append]
 simp
theorem Pa{α:Type}:∀{Gs:List (List α)},(∀G∈Gs,G.length<=200)->Gs.flatten.length<=200 * Gs.length
 | [],_=>by simp
 | G :: Gs,h=>by
  have h1:=h G XT
  have h2:=Pa (Gs:=Gs) λa b=>h a (XN _ b)
  rw [cX,I_,YA]
  omega
def QI:ASp:=λb μ R=>∃(x:AV) (ps:List iY) (Gs:List (List Pr)),b=[x,.D (.bool false)]/\items μ x=some (ps.map .R)/\GrAt μ ps Gs/\Gs.length<=20/\(∀G∈Gs,G.length<=200/\∀p∈G,M6 p)/\∀(a:List Pr) (l:iY) μ',(∀z,z∈a↔z∈Gs.flatten)->a.Nodup->(∀z∈a,M6 z)->μ l=none->μ' l=some (.lst (a.map Bt))->Sub μ μ'->R (.R l) μ'
theorem QJ{n:Nat}(F:Fun K "one_of_any" "one_of_any" LX f fd) (M:VCal P w K mg base n "thinned" ["pairs","least"] DL):FnOk P w K mg base Fk (n+1) f fd ["groups","least"] (Hw K 2 QI):=by
 refine F.vok KJ λQ A k s H E r=>⟨_,(Af (Aq (i:=2) KJ.nd rfl (Or.inl rfl) (Bd Ac))
   (Af (Bo XX rfl (A7 (vv 0)) (Aj (i:=3) KJ.nd rfl (Or.inl rfl)) (Ai (Bk (Db aK aL Ek (vv 2) (Aa (vv 3) Ac)))))
   (Ai (Be (An M r rfl (Aa (vv 2) (Aa (vv 1) Ac))))))),?_⟩
 rintro N μ R _ ⟨x,U,Gs,rfl,hx,j,O,hb,q⟩
 intro e m
 have g:∀z∈Gs.flatten,M6 z:=λz hz=>by
  obtain⟨G,h1,h2⟩:=List.mem_flatten.mp hz
  exact(hb G h1).2 z h2
 refine A6 (fun τ μ'=>∃d,τ=[some x,some (.D (.bool false)),some (.R e),d]/\μ' e=some (.lst (Gs.flatten.map Bt))/\Sub μ μ') (λZ u=>?_) ?_
 ·have o:Sub μ (Al μ e (.lst [])):=Sub.refl.new m
  refine Ad (Bu hx o) ?_
  refine Cl (λi τ μ'=>∃d,τ=[some x,some (.D (.bool false)),some (.R e),d]/\μ' e=some (.lst ((Gs.take i).flatten.map Bt))/\Sub μ μ') ⟨none,rfl,Ab,o⟩ (λ_ _ _ ⟨_,_,_,S⟩=>Bu hx S) ?_ ?_
  ·rintro i v τ μ1 Z2 hv ⟨d,rfl,c,b⟩ hZ2
   rw [H_]at hv
   obtain⟨p,hp,rfl⟩:=K_.mp hv
   have L:i < Gs.length:=by rw [<- j.l];exact(F_.mp hp).1
   have h:=M_ L
   generalize Gs[i]=G at h
   have I:=b _ _ (j.a i p G hp h)
   have y:=(hb G (XO h)).1
   have T:=Pa (Gs:=Gs.take i) λt B=>(hb t (aD B)).1
   have C:(Gs.take i).length<=20:=by rw [X_];omega
   refine⟨Ad c trivial,Ad c (Ad I ⟨YM (Zi (by rw [B_,B_];omega)),hZ2 _ _ ⟨_,rfl,?_,b.new m⟩⟩)⟩
   rw [Ab,Vn h,S_]
  ·rintro τ μ1 ⟨d,rfl,c,b⟩
   rw [B_,j.l,YB]at c
   exact u _ _ ⟨_,rfl,c,b⟩
 rintro τ μ1 ⟨d,rfl,c,b⟩
 exact⟨_,Gs.flatten,rfl,Ak c,g,λJ l μ2 hm hnd _ hl e2 S2=>⟨_,Sub.refl,q J l μ2 hm hnd (λz hz=>g z ((hm z).mp hz)) (b.none hl) e2 (b.trans S2)⟩⟩
structure Rq where
 p:Nat
 x:Nat
 q:Nat
 w:List Nat
deriving DecidableEq
def Nc(r:Rq):iX:=.tuple [.int (r.p:Nat),.int (r.x:Nat),.int (r.q:Nat),Ba r.w]
def G5(r:Rq):AV:=.D (Nc r)
structure Gq where
 pl:List (Str×Nat)
 le:List Str
 rs:List Rq
def Ho(p:Str×Nat):iX:=.tuple [.str p.1,.int (p.2:Nat)]
def Nd(g:Gq):iX:=.tuple [.tuple (g.pl.map Ho),.tuple (g.le.map .str),.tuple (g.rs.map Nc)]
def Dg(k:Nat×Nat)(a:Rq):Bool:=decide (a.p=k.1) && decide (a.x=k.2)
def rgp(A:List Rq)(k:Nat×Nat):List Rq:=A.filter (Dg k)
structure TpW(μ0 μ:M)(d:iY)(A:List Rq)(K:Nat×Nat->Prop)(kvs:List ((Nat×Nat)×iY)):Prop where
 dd:μ d=some (.dt (kvs.map kvT))
 ll:∀e∈kvs,μ e.2=some (.lst ((rgp A e.1).map G5))
 kk:∀k,(∃e∈kvs,e.1=k)↔K k
 uu:(kvs.map (·.1)).Nodup
 vv:(kvs.map (·.2)).Nodup
 fd:μ0 d=none
 fe:∀e∈kvs,μ0 e.2=none/\e.2≠d
 ss:Sub μ0 μ
def KK(μ0 μ:M)(d:iY)(A:List Rq)(kvs:List ((Nat×Nat)×iY)):Prop:=TpW μ0 μ d A (λk=>rgp A k≠[]) kvs
theorem G6(A:List Rq)(a:Rq)(k:Nat×Nat):rgp (A++[a]) k=rgp A k++(if Dg k a then [a] else []):=by
 unfold rgp
 rw [fF,eN,List.filter_nil]
theorem J8(a:Rq):Dg (a.p,a.x) a=true:=by unfold Dg;simp
theorem Rm{a:Rq}{k:Nat×Nat}(h:k≠(a.p,a.x)):Dg k a=false:=by
 unfold Dg
 rw [<- Bool.decide_and]
 exact YH λc=>h (gM c.1.symm c.2.symm)
abbrev XF:List Str:=["game","tops","rule"]
theorem KL:FnScope XF ["game"] (Ag MC):=⟨rfl,rfl,rfl,by decide +kernel,rfl,by decide +kernel,by decide +kernel⟩
def QK:ASp:=λb μ R=>∃(g:Gq),b=[.D (Nd g)]/\g.rs.length<=300/\∀d a μ',KK μ μ' d g.rs a->R (.R d) μ'
theorem QL{n:Nat}(F:Fun K "rules_by_top" "rules_by_top" MC f fd):FnOk P w K mg base Fk (n+1) f fd ["game"] (Hw K 1 QK):=by
 refine F.vok KL λba A Q s H E W=>⟨_,(Af (Aq (i:=1) KL.nd rfl (Or.inl rfl) Gp)
   (Af (Bo XX rfl (A7 (Bj Ce (vv 0) Ah)) (Aj (i:=2) KL.nd rfl (Or.inl rfl)) (Af (Bk (Ya (Cq W) (vv 1) (Cf (vv 2) D3 (Cd Ah)) (Bd Ac)))
   (Ai (Bk (Db ZA ZB Cr (C9 (Cq W) (vv 1) (Cf (vv 2) D3 (Cd Ah))) (Aa (vv 2) Ac))))))
   (Ai (Be (vv 1))))),?_⟩
 rintro xs μ R _ ⟨g,rfl,hn,q⟩
 generalize L:g.rs=A at hn q
 have V:∀ ν:M,items ν (.D (.tuple (A.map Nc)))=some (A.map G5):=fun ν=>by show some ((A.map Nc).map AV.D)=_;rw [XV];rfl
 have ii:atI ([.tuple (g.pl.map Ho),.tuple (g.le.map .str),.tuple (g.rs.map Nc)]:List iX) (2:Int)=some (.tuple (A.map Nc)):=by rw [L];rfl
 intro d hd
 refine A6 (fun τ μ'=>∃I,∃j:List ((Nat×Nat)×iY),τ=[some (.D (Nd g)),some (.R d),I]/\KK μ μ' d A j) (λZ hZ=>?_) ?_
 ·refine Ad ii (Ad (V _) ?_)
  refine Cl (λi τ μ'=>∃I,∃j:List ((Nat×Nat)×iY),τ=[some (.D (Nd g)),some (.R d),I]/\j.length<=i/\KK μ μ' d (A.take i) j) ⟨none,[],rfl,XQ _,⟨Ab,(λ_ h=>nomatch h),λk=>⟨(λ⟨_,h,_⟩=>nomatch h),λh=>absurd rfl h⟩,bJ,bJ,hd,(λ_ h=>nomatch h),Sub.refl.new hd⟩⟩ (λ_ _ _ _=>V _) ?_ ?_
  ·rintro i v τ μ1 Z2 hv ⟨I,j,rfl,G,T⟩ hZ2
   rw [H_]at hv
   obtain⟨a,ha,rfl⟩:=K_.mp hv
   have hi:=(F_.mp ha).1
   have Y:A.take (i+1)=A.take i++[a]:=by rw [YC,ha];rfl
   generalize X:A.take i=B at T Y
   refine A6 (fun τ μ'=>∃j:List ((Nat×Nat)×iY),τ=[some (.D (Nd g)),some (.R d),some (G5 a)]/\j.length<=i+1/\TpW μ μ' d B (λk=>rgp B k≠[]\/k=(a.p,a.x)) j) (λZ3 S=>?_) ?_
   ·refine⟨⟨_,T.dd,trivial⟩,λz hz=>Ad (x:=[.inl (a.p:Nat),.inl (a.x:Nat)]) rfl ?_⟩
    have u:Sub μ1 (Al μ1 z (.lst [])):=Sub.refl.new hz
    have U:Al μ1 z (.lst []) z=some (.lst []):=Ab
    have zd:z≠d:=by rintro rfl;rw [T.dd]at hz;cases hz
    have z0:μ z=none:=T.ss.none hz
    have zk:∀e∈j,e.2≠z:=λe he c=>by
     have:=T.ll e he
     rw [c,hz]at this;cases this
    generalize Al μ1 z (.lst [])=μ2 at u U
    refine Ad (u _ _ T.dd) ⟨Ax (by rw [B_];omega),λv hv=>?_,λhv=>?_⟩
    ·have dg:∃e∈j,e.1=(a.p,a.x):=YW λJ=>by
      rw [G4 (k:=(a.p,a.x)) λe he c=>J ⟨e,he,c⟩]at hv;cases hv
     refine S _ _ ⟨j,rfl,YX G,⟨u _ _ T.dd,λe he=>u _ _ (T.ll e he),λk=>?_,T.uu,T.vv,T.fd,T.fe,λb m hb=>u b m (T.ss b m hb)⟩⟩
     rw [T.kk]
     refine⟨.inl,λc=>c.elim id λc=>?_⟩
     rw [c]
     exact(T.kk _).mp dg
    ·have J:∀e∈j,e.1≠(a.p,a.x):=λe he c=>by
      have:=Fq T.uu he
      rw [c]at this
      rw [this]at hv;cases hv
     rw [J7 (k:=(a.p,a.x)) J]
     have g0:rgp B (a.p,a.x)=[]:=YW λc=>by
      obtain⟨e,he,h⟩:=(T.kk _).mpr c
      exact J e he h
     have ne:∀{b:iY},b≠d->Al μ2 d (.dt ((j++[((a.p,a.x),z)]).map kvT)) b=μ2 b:=λh=>Ae h
     refine S _ _ ⟨j++[((a.p,a.x),z)],rfl,by rw [I_];show j.length+1<=_;exact bD G,⟨Ab,λe he=>?_,λk=>?_,?_,?_,T.fd,λe he=>?_,λb m hb=>?_⟩⟩
     ·rcases O_.mp he with he | he
      ·rw [ne (T.fe e he).2];exact u _ _ (T.ll e he)
      ·rw [P_.mp he,ne zd,g0];exact U
     ·constructor
      ·rintro⟨e,he,rfl⟩
       rcases O_.mp he with he | he
       ·exact .inl ((T.kk _).mp ⟨e,he,rfl⟩)
       ·rw [P_.mp he];exact .inr rfl
      ·rintro(h | rfl)
       ·obtain⟨e,he,h⟩:=(T.kk k).mpr h
        exact⟨e,ZP _ he,h⟩
       ·exact⟨((a.p,a.x),z),by simp,rfl⟩
     ·rw [S_,aY]
      refine⟨T.uu,by simp,λx hx y hy e=>?_⟩
      obtain⟨O,N,rfl⟩:=D_.mp hx
      have hy:y=(a.p,a.x):=by simpa using hy
      exact J O N (e.trans hy)
     ·rw [S_,aY]
      refine⟨T.vv,by simp,λx hx y hy e=>?_⟩
      obtain⟨O,N,rfl⟩:=D_.mp hx
      have hy:y=z:=by simpa using hy
      exact zk O N (e.trans hy)
     ·rcases O_.mp he with he | he
      ·exact T.fe e he
      ·rw [P_.mp he];exact⟨z0,zd⟩
     ·rw [Ae (by rintro rfl;rw [T.fd]at hb;cases hb)]
      exact u b m (T.ss b m hb)
   clear G T
   rintro τ μ2 ⟨j,rfl,G,T⟩
   obtain⟨r,l,t⟩:=(T.kk (a.p,a.x)).mpr (.inr rfl)
   have jk:=Fq T.uu l
   rw [t]at jk
   have rh:=T.ll r l
   have ed:dget (.dt (j.map kvT)) (.tuple [.int (a.p:Nat),.int (a.x:Nat)])=some (some (AV.R r.2)):=by
    show some (Cm (j.map kvT) [.inl (a.p:Nat),.inl (a.x:Nat)])=_
    rw [jk]
   refine Ad T.dd (Ad ed (Ad (x:=AV.R r.2) rfl ⟨Ad rh trivial,Ad rh ⟨?_,hZ2 _ _ ⟨_,j,rfl,G,?_⟩⟩⟩))
   ·rw [B_]
    refine Ax ?_
    unfold rgp
    have:=ZM (Dg r.1) B
    rw [<- X,X_]at this
    rw [<- X]
    omega
   ·rw [Y]
    have ne:∀{b:iY} {o:MO},b≠r.2->Al μ2 r.2 o b=μ2 b:=λh=>Ae h
    refine⟨by rw [ne (T.fe r l).2.symm];exact T.dd,λe he=>?_,λk=>?_,T.uu,T.vv,T.fd,T.fe,λb m hb=>?_⟩
    ·rw [G6]
     by_cases C:e.1=(a.p,a.x)
     ·have:e=r:=O5 T.uu he l (C.trans t.symm)
      subst this
      rw [Ab,t,J8,Q_ rfl,S_];rfl
     ·have:e.2≠r.2:=λc=>C (by rw [Lr T.vv he l c];exact t)
      rw [ne this,Rm C,J_ L_,aG]
      exact T.ll e he
    ·rw [T.kk,G6]
     by_cases hk:k=(a.p,a.x)
     ·rw [hk,J8,Q_ rfl]
      exact⟨λ_=>by simp,λ_=>.inr rfl⟩
     ·rw [Rm hk,J_ L_,aG]
      exact⟨λc=>c.elim id λc=>absurd c hk,.inl⟩
    ·rw [ne (by rintro rfl;rw [(T.fe r l).1]at hb;cases hb)]
     exact T.ss b m hb
  ·rintro τ μ1 ⟨I,j,rfl,G,T⟩
   rw [B_,YB]at T
   exact hZ _ _ ⟨_,j,rfl,T⟩
 rintro τ μ1 ⟨I,j,rfl,T⟩
 exact⟨_,Sub.refl,q d j μ1 T⟩
def C2(Pf:Nat×Nat->List Pr)(kvs:List ((Nat×Nat)×iY)):List Ar:=kvs.flatMap λe=>(Pf e.1).map λz=>⟨e.1.1,e.1.2,B9 z.2,z.1⟩
theorem Nf{Pf:Nat×Nat->List Pr}:∀{kvs:List ((Nat×Nat)×iY)},(∀e∈kvs,(Pf e.1).length<=992)->(C2 Pf kvs).length<=992 * kvs.length
 | [],_=>by simp [C2]
 | e :: kvs,h=>by
  have h1:=h e XT
  have h2:=Nf (kvs:=kvs) λa he=>h a (XN _ he)
  unfold C2 at h2 ⊢
  rw [aZ,I_,B_,YA]
  omega
abbrev VP:List Str:=["tops","arrows","top","pairs"]
theorem DO:FnScope VP ["tops"] (Ag JQ):=⟨rfl,rfl,rfl,by decide +kernel,rfl,by decide +kernel,by decide +kernel⟩
theorem GC:(["cost","bits","top"]:List Str).Nodup:=by decide +kernel
structure TopQ(μ:M)(d:iY)(Pf:Nat×Nat->List Pr)(kvs:List ((Nat×Nat)×iY)):Prop where
 dd:μ d=some (.dt (kvs.map kvT))
 ll:∀e∈kvs,μ e.2=some (.lst ((Pf e.1).map Bt))/\e.2≠d/\(Pf e.1).length<=992/\∀z∈Pf e.1,z.2 < 32
 n:kvs.length<=9
def QM:ASp:=λa μ R=>∃(d:iY) (Pf:Nat×Nat->List Pr) (kvs:List ((Nat×Nat)×iY)),a=[.R d]/\TopQ μ d Pf kvs/\∀(l:iY) μ',μ l=none->μ' l=some (.lst ((C2 Pf kvs).map Hn))->Sub (Ge μ d) μ'->R (.R l) μ'
theorem QN{n:Nat}(F:Fun K "as_arrows" "as_arrows" JQ f fd) (cAs:VCal P w K mg base n "as_stands" ["bits"] KC):FnOk P w K mg base Fk (n+1) f fd ["tops"] (Hw K 1 QM):=by
 refine F.vok DO λba A Y s H E hr=>⟨_,(Af (Aq (i:=1) DO.nd rfl (Or.inl rfl) (Bd Ac))
   (Af (Td XX rfl (vv 0) (Ap (Aj (i:=2) DO.nd rfl (Or.inr rfl)) (Ap (Aj (i:=3) DO.nd rfl (Or.inl rfl)) B8)) (Ai (Bk (Db aK aL Ek (vv 1) (Aa (Bl (N':=["cost","bits","top"]) (mp:=[none,none,some 2]) rfl (A7 (vv 3)) (λ_ _ _ _=>(Dh (n:=2) rfl (Ap (Aj (i:=0) GC rfl (Or.inl rfl) (Or.inr rfl)) (Ap (Aj (i:=1) GC rfl (Or.inl rfl) (Or.inr rfl)) B8)))) (λ_ _ _ _=>Bw) (λ_ _ _ _=>(A4 Ck (vv 2) (Bc (Aa (An cAs hr rfl (Aa (vv 1) Ac)) (Aa (vv 0) Ac))))) (Av (N:=VP) (pn:=(Ag JQ).names) (by decide +kernel))) Ac)))))
   (Ai (Be (vv 1))))),?_⟩
 rintro xs μ R _ ⟨d,Pf,kvs,rfl,T,q⟩
 intro l B
 have ld:l≠d:=by rintro rfl;rw [T.dd]at B;cases B
 refine A6 (fun τ μ'=>∃a u,τ=[some (.R d),some (.R l),a,u]/\μ' l=some (.lst ((C2 Pf kvs).map Hn))/\Sub (Ge μ d) μ') (λZ hZ=>?_) ?_
 ·refine Ad (x:=MO.dt (kvs.map kvT)) (by rw [Ae ld.symm];exact T.dd) ?_
  refine Yj (λi τ μ'=>∃a u,τ=[some (.R d),some (.R l),a,u]/\μ' l=some (.lst ((C2 Pf (kvs.take i)).map Hn))/\Sub (Ge μ d) μ') ⟨none,none,rfl,?_,?_⟩ ?_ ?_
  ·rw [Dm ld];exact Ab
  ·intro b m hb
   have X:b≠d:=λz=>by rw [z]at hb;unfold Ge at hb;rw [Q_ rfl]at hb;cases hb
   rw [Dm X]at hb ⊢
   rw [Ae (by rintro rfl;rw [B]at hb;cases hb)];exact hb
  ·rintro i v τ μ1 W hv ⟨a,u,rfl,p,t⟩ hW
   rw [H_]at hv
   obtain⟨e,he,rfl⟩:=K_.mp hv
   obtain⟨Q,V,cr,U⟩:=T.ll e (XO he)
   have J:μ1 e.2=some (.lst ((Pf e.1).map Bt)):=t _ _ (by rw [Dm V];exact Q)
   have hi:=(F_.mp he).1
   have hn9:=T.n
   have bo:C2 Pf (kvs.take (i+1))=C2 Pf (kvs.take i)++(Pf e.1).map λz=>⟨e.1.1,e.1.2,B9 z.2,z.1⟩:=by
    unfold C2
    rw [YC,he,bN];simp
   have ni:=Nf (Pf:=Pf) (kvs:=kvs.take i) λe' di=>(T.ll e' (aD di)).2.2.1
   rw [X_]at ni
   refine⟨Ad p trivial,Ad (Ak J) λI g=>?_⟩
   have md:l≠I:=by rintro rfl;rw [p]at g;cases g
   have qc:e.2≠I:=by rintro h;rw [h,g]at J;cases J
   have C:∀{ν:M} {o:MO},Sub (Ge μ d) ν->Sub (Ge μ d) (Al ν I o):=λS=>S.new (t.none g)
   refine Di (λj k τ' μ'=>∃o1 a,τ'=[o1,a,some (.D (.tuple [.int (e.1.1:Nat),.int (e.1.2:Nat)]))]/\k=(((Pf e.1).take j).map λz=>Hn ⟨e.1.1,e.1.2,B9 z.2,z.1⟩)/\μ' I=some (.lst k)/\μ' e.2=some (.lst ((Pf e.1).map Bt))/\μ' l=some (.lst ((C2 Pf (kvs.take i)).map Hn))/\Sub (Ge μ d) μ') ⟨none,none,rfl,rfl,Ab,by rw [Ae qc];exact J,by rw [Ae md];exact p,C t⟩ (λ_ _ _ _ ⟨_,_,_,_,_,e2,_⟩=>Ak e2) ?_ ?_
   ·rintro j v k τ' μ2 W2 y ⟨o1,a,rfl,rfl,G,f2,L,O⟩ hW2
    rw [H_]at y
    obtain⟨⟨c,b⟩,r,rfl⟩:=K_.mp y
    have hj:=(F_.mp r).1
    refine⟨rfl,Vl (Nz rfl ⟨b,rfl,U _ (XO r),fun μ3 S3=>⟨by show 2+2<=sizeLine;decide,S3 _ _ G,Zi (by rw [B_,X_];omega),hW2 _ _ _ ⟨_,_,rfl,?_,Ab,by rw [Ae qc];exact S3 _ _ f2,by rw [Ae md];exact S3 _ _ L,C (O.trans S3)⟩⟩⟩)⟩
    rw [YC,r,S_];rfl
   ·rintro k τ' μ2 ⟨o1,a,rfl,rfl,G,f2,L,O⟩
    rw [B_,YB]at G
    refine Ad L (Ad G ⟨YM (Zi (by rw [B_,B_];omega)),hW _ _ ⟨_,_,rfl,?_,?_⟩⟩)
    ·rw [Ab,bo,S_,XV];rfl
    ·exact O.new (by rw [Dm ld];exact B)
  ·rintro τ μ1 ⟨a,u,rfl,p,t⟩
   rw [B_,YB]at p
   exact hZ _ _ ⟨_,_,rfl,p,t⟩
 rintro τ μ1 ⟨a,u,rfl,p,t⟩
 exact⟨_,Sub.refl,q l μ1 B p t⟩
def hnd(g:Gq)(k:Nat×Nat):Nat:=(g.pl.map (·.2)).getD k.1 0
def ME(g:Gq)(A:List Ar)(k:Nat×Nat):List (List Pr):=(rgp g.rs k).map λr=>rdg A r.q r.w
def flw(g:Gq)(A:List Ar)(k:Nat×Nat):List Pr:=if hnd g k=1 then cho (ME g A k) else(ME g A k).flatten
structure GqOk(g:Gq):Prop where
 p:g.pl.length<=3
 r:g.rs.length<=8
 ok:∀r∈g.rs,r.p < g.pl.length/\r.q < 5/\r.w.length<=2
def J9(G:List Pr)(H:List Pr):Prop:=∀z,z∈G↔z∈H
theorem Pb:∀{Gs b:List (List Pr)} {F c:List Pr},Paired J9 Gs b->J9 F c->J9 (List.foldl (λF G=>F.flatMap λp=>G.map (ewe p)) F Gs) (List.foldl (λF G=>F.flatMap λp=>G.map (ewe p)) c b)
 | _,_,_,_,.nil,h=>h
 | _,_,_,_,.cons r t,h=>by
  rw [ZE,ZE]
  refine Pb t λz=>?_
  rw [ZG,ZG]
  constructor
  ·rintro⟨y,h1,h2⟩
   obtain⟨o,a,rfl⟩:=D_.mp h2
   exact⟨y,(h y).mp h1,D_.mpr ⟨o,(r o).mp a,rfl⟩⟩
  ·rintro⟨y,h1,h2⟩
   obtain⟨o,a,rfl⟩:=D_.mp h2
   exact⟨y,(h y).mpr h1,D_.mpr ⟨o,(r o).mpr a,rfl⟩⟩
theorem Th{Gs a:List (List Pr)}(h:Paired J9 Gs a):J9 (cho Gs) (cho a):=Pb h λ_=>iU
theorem Pc:∀{Gs a:List (List Pr)},Paired J9 Gs a->J9 Gs.flatten a.flatten
 | _,_,.nil=>λ_=>iU
 | _,_,.cons r t=>λz=>by
  rw [cX,cX,O_,O_,r z,Pc t z]
abbrev UV:List Str:=["game","tops","least","found","top","rules","groups","chosen"]
theorem Vo:FnScope UV ["game","tops","least"] (Ag FU):=⟨rfl,rfl,rfl,by decide +kernel,rfl,by decide +kernel,by decide +kernel⟩
theorem QO:(["rule","tops","least"]:List Str).Nodup:=by decide +kernel
theorem GD:(["cost","bits"]:List Str).Nodup:=by decide +kernel
structure FlwQ(μ0 μ:M)(d:iY)(g:Gq)(A:List Ar)(Pf:Nat×Nat->List Pr)(kvs:List ((Nat×Nat)×iY))(K:Nat×Nat->Prop):Prop where
 q:TopQ μ d Pf kvs
 kk:∀k,(∃e∈kvs,e.1=k)↔K k
 uu:(kvs.map (·.1)).Nodup
 pf:∀e∈kvs,(Pf e.1).Nodup/\(∀z∈Pf e.1,z.1<=31)/\∀z,z∈Pf e.1↔∃y∈flw g A e.1,z=(y.1+1,y.2)
 nd:μ0 d=none
 ss:Sub μ0 μ
def QP:ASp:=λi μ R=>∃(g:Gq) (d:iY) (A:List Ar),i=[.D (Nd g),.R d,.D (.bool false)]/\GqOk g/\TopR μ d A/\A.length<=8/\(∀a∈A,∀t∈a.ts,t < 5)/\(∀a∈A,a.c<=9)/\∀e h b μ',FlwQ μ μ' e g A h b (λk=>rgp g.rs k≠[])->R (.R e) μ'
theorem QQ{n:Nat}(F:Fun K "following" "following" FU f fd) (cRt:VCal P w K mg base n "rules_by_top" ["game"] QK) (cRb:VCal P w K mg base n "readings_by" ["tops","stand","w","least"] QG) (cOe:VCal P w K mg base n "one_of_each" ["groups","least"] KH) (cOa:VCal P w K mg base n "one_of_any" ["groups","least"] QI) {t1:Tok} (mOH:mg "OTHER_HAND" = some (.int 1 t1)):FnOk P w K mg base Fk (n+1) f fd ["game","tops","least"] (Hw K 3 QP):=by
 refine F.vok Vo λba A outer s H E hr=>⟨_,(Af (Aq (i:=3) Vo.nd rfl (Or.inl rfl) Gp)
   (Af (Td XX rfl (An cRt hr rfl (Aa (vv 0) Ac)) (Ap (Aj (i:=4) Vo.nd rfl (Or.inl rfl)) (Ap (Aj (i:=5) Vo.nd rfl (Or.inl rfl)) B8)) (Af (Fg (i:=6) (N':=["rule","tops","least"]) (mp:=[none,some 1,some 2]) rfl Vo.nd rfl rfl (A7 (vv 5)) (λ_ _ _ _=>(Aj (i:=0) QO rfl (Or.inl rfl) (Or.inr rfl))) (λ_ _ _ _=>Bw) (λ_ _ _ _=>(An cRb hr rfl (Aa (vv 1) (Aa (Bj Ce (vv 0) Ah) (Aa (Bj Ce (vv 0) Ah) (Aa (vv 2) Ac)))))) (Av (N:=UV) (pn:=(Ag FU).names) (by decide +kernel)))
   (Af (Aq (i:=7) Vo.nd rfl (Or.inl rfl) (N0 (Bh (E3 hr) (Bj Ce (Bj Ce (Bj Ce (vv 0) Ah) (Bj Ce (vv 4) Ah)) Ah) (BA rfl mOH (v:=.int 1) ⟨_,rfl⟩ (λ_=>C4)) (nomark _)) (An cOe hr rfl (Aa (vv 6) (Aa (vv 2) Ac))) (An cOa hr rfl (Aa (vv 6) (Aa (vv 2) Ac)))))
   (Ai (Fl (Cq hr) (vv 3) (vv 4) (Bl (N':=["cost","bits"]) (mp:=[none,none]) rfl (A7 (vv 7)) (λ_ _ _ _=>(Dh (n:=2) rfl (Ap (Aj (i:=0) GD rfl (Or.inl rfl) (Or.inr rfl)) (Ap (Aj (i:=1) GD rfl (Or.inl rfl) (Or.inr rfl)) B8)))) (λ_ _ _ _=>Bw) (λ_ _ _ _=>(Bc (Aa (A4 Ck (vv 0) Ah) (Aa (vv 1) Ac)))) (Av (N:=UV) (pn:=(Ag FU).names) (by decide +kernel))))))))
   (Ai (Be (vv 3))))),?_⟩
 rintro xs μ R _ ⟨g,d,A,rfl,hg,hT,hA,ht,hc9,q⟩
 have iz:=hg.p
 have v7:=hg.r
 intro f hf
 refine A6 (fun τ μ'=>∃o4 o5 o6 o7 t I,τ=[some (.D (Nd g)),some (.R d),some (.D (.bool false)),some (.R f),o4,o5,o6,o7]/\FlwQ μ μ' f g A I t (λk=>rgp g.rs k≠[])) (λZ hZ=>?_) ?_
 ·refine⟨g,rfl,by omega,λdR Y μ1 T=>Ad T.dd ?_⟩
  have Sf:Sub μ (Al μ f (.dt [])):=Sub.refl.new hf
  have dR0:μ dR=none:=Sf.none T.fd
  have fR:f≠dR:=by rintro rfl;have:=T.fd;rw [Ab]at this;cases this
  have S1:Sub μ (Ge μ1 dR):=λb m hb=>by
   rw [Dm (by rintro rfl;rw [dR0]at hb;cases hb)]
   exact T.ss _ _ (Sf _ _ hb)
  have ef:Ge μ1 dR f=some (.dt (([]:List ((Nat×Nat)×iY)).map kvT)):=by rw [Dm fR];exact T.ss _ _ Ab
  have eR:∀e∈Y,Ge μ1 dR e.2=some (.lst ((rgp g.rs e.1).map G5))/\e.2≠f:=λe he=>by
   obtain⟨h1,h2⟩:=T.fe e he
   refine⟨by rw [Dm h2];exact T.ll e he,λz=>?_⟩
   rw [z,Ab]at h1;cases h1
  have dz:Y.length<=8:=by
   have:=Ew (xs:=Y.map (·.1)) (ys:=g.rs.map λr=>(r.p,r.x)) T.uu λk hk=>by
    obtain⟨e,he,rfl⟩:=D_.mp hk
    have h1:=(T.kk e.1).mp ⟨e,he,rfl⟩
    obtain⟨r,h2⟩:=cP _ h1
    obtain⟨S,J⟩:=YU.mp h2
    refine D_.mpr ⟨r,S,?_⟩
    unfold Dg at J
    rw [ZC,aE,aE]at J
    exact gM J.1 J.2
   rw [B_,B_]at this;exact G_ this v7
  refine Yj (λi τ μ'=>∃o4 o5 o6 o7 t I,τ=[some (.D (Nd g)),some (.R d),some (.D (.bool false)),some (.R f),o4,o5,o6,o7]/\μ' f=some (.dt (t.map kvT))/\(∀e∈t,μ' e.2=some (.lst ((I e.1).map Bt))/\e.2≠f/\(I e.1).length<=992/\∀z∈I e.1,z.2 < 32)/\t.map (·.1)=(Y.take i).map (·.1)/\(∀e∈t,(I e.1).Nodup/\(∀z∈I e.1,z.1<=31)/\∀z,z∈I e.1↔∃y∈flw g A e.1,z=(y.1+1,y.2))/\(∀e∈Y,μ' e.2=some (.lst ((rgp g.rs e.1).map G5)))/\Sub μ μ') ⟨none,none,none,none,[],λ_=>[],rfl,ef,(λ_ h=>nomatch h),rfl,(λ_ h=>nomatch h),λe he=>(eR e he).1,S1⟩ ?_ ?_
  ·rintro i v τ μ2 W hv ⟨o4,o5,o6,o7,t,I,rfl,e2,hll,X,fh,hRs,S2⟩ hW
   rw [H_]at hv
   obtain⟨e,he,rfl⟩:=K_.mp hv
   have pi:=XO he
   have wb:=hRs e pi
   dsimp only [Ey,Dc,Uo,List.set,kvT]
   refine A6 (fun τ μ'=>∃L ps Gs,τ=[some (.D (Nd g)),some (.R d),some (.D (.bool false)),some (.R f),some (.D (.tuple [.int (e.1.1:Nat),.int (e.1.2:Nat)])),some (.R e.2),some (.R L),o7]/\μ' L=some (.lst (ps.map .R))/\GrAt μ' ps Gs/\Paired J9 Gs (ME g A e.1)/\(∀G∈Gs,G.length<=200/\∀p∈G,p.1<=18/\p.2 < 32)/\Sub μ2 μ') (λZ3 bj=>?_) ?_
   ·have jh:(rgp g.rs e.1).length<=8:=G_ (ZM _ _) v7
    refine Ad (Ak wb) λL hpl=>?_
    have qc:e.2≠L:=by intro z;rw [z,hpl]at wb;cases wb
    refine Di (λj M τ' μ'=>∃o,∃(ps:List iY) (Gs:List (List Pr)),τ'=[o,some (.R d),some (.D (.bool false))]/\M=ps.map .R/\ps.length=j/\Gs.length=j/\(∀(k:Nat) p G,ps[k]?=some p->Gs[k]?=some G->p≠L/\μ' p=some (.lst (G.map Bt)))/\Paired J9 Gs (((rgp g.rs e.1).take j).map λr=>rdg A r.q r.w)/\(∀G∈Gs,G.length<=200/\∀p∈G,p.1<=18/\p.2 < 32)/\μ' L=some (.lst M)/\μ' e.2=some (.lst ((rgp g.rs e.1).map G5))/\Sub μ2 μ') ⟨none,[],[],rfl,rfl,rfl,rfl,(λ_ _ _ h=>by simp at h),.nil,(λ_ h=>nomatch h),Ab,by rw [Ae qc];exact wb,Sub.refl.new hpl⟩ (λ_ _ _ _ ⟨_,_,_,_,_,_,_,_,_,_,_,V,_⟩=>Ak V) ?_ ?_
    ·rintro j v M τ' μ3 W2 hv2 ⟨o,ps,Gs,rfl,rfl,gh,fj,io,d5,C,V,f3,S3⟩ hW2
     rw [H_]at hv2
     obtain⟨r,lj,rfl⟩:=K_.mp hv2
     have hj:=(F_.mp lj).1
     obtain⟨h1,_⟩:=YU.mp (XO lj)
     obtain⟨_,hq5,hw2⟩:=hg.ok r h1
     refine Nz rfl (Ad (Bf (j:=2) rfl) (Ad (Bf (j:=3) rfl) ⟨d,A,r.q,r.w,rfl,hT.sub (S2.trans S3),hA,hq5,hw2,ht,hc9,λu l μ4 hm hnd hb hl e4 U=>?_⟩))
     have md:l≠L:=by rintro rfl;rw [V]at hl;cases hl
     refine⟨U _ _ V,Ax (by rw [B_];omega),hW2 _ _ _ ⟨_,ps++[l],Gs++[u],rfl,by rw [S_];rfl,by rw [I_,gh];rfl,by rw [I_,fj];rfl,λk p G k1 k2=>?_,?_,λG hG=>?_,Ab,by rw [Ae qc];exact U _ _ f3,(S3.trans U).new hpl⟩⟩
     ·rcases Y_ k ps.length with h | h
      ·rw [aU h]at k1
       rw [aU (by omega)]at k2
       obtain⟨n1,n2⟩:=io k p G k1 k2
       exact⟨n1,by rw [Ae n1];exact U _ _ n2⟩
      ·rw [ZY h]at k1
       rw [ZY (by omega)]at k2
       have S:=(F_.mp k1).1
       rw [eA]at S
       rw [show k - ps.length=0 by omega]at k1
       rw [show k - Gs.length=0 by omega]at k2
       cases k1
       cases k2
       exact⟨md,by rw [Ae md];exact e4⟩
     ·rw [YC,lj,S_]
      exact iA d5 hm
     ·rcases O_.mp hG with h | h
      ·exact C G h
      ·rw [P_.mp h];exact⟨by have:=hb.1;omega,hb.2⟩
    ·rintro M τ' μ3 ⟨o,ps,Gs,rfl,rfl,gh,fj,io,d5,C,V,f3,S3⟩
     rw [B_,YB]at d5
     exact bj _ _ ⟨L,ps,Gs,rfl,V,⟨by omega,λk p G h1 h2=>(io k p G h1 h2).2⟩,d5,C,S3⟩
   rintro τ μ3 ⟨L,ps,Gs,rfl,V,hGr,kc,C,S3⟩
   have tm:∀G∈Gs,G.length<=200/\∀p∈G,M6 p:=λG hG=>⟨(C G hG).1,λp hp=>⟨by have:=((C G hG).2 p hp).1;omega,((C G hG).2 p hp).2⟩⟩
   have hkp:e.1.1 < g.pl.length:=by
    obtain⟨r,h2⟩:=cP _ ((T.kk e.1).mp ⟨e,pi,rfl⟩)
    obtain⟨S,J⟩:=YU.mp h2
    unfold Dg at J
    rw [ZC,aE,aE]at J
    rw [<- J.1];exact(hg.ok r S).1
   have kd:atI (g.pl.map Ho) ((e.1.1:Nat):Int)=some (Ho g.pl[e.1.1]):=Bf (by rw [H_,M_ hkp];rfl)
   have ml:hnd g e.1=(g.pl[e.1.1]).2:=by
    unfold hnd
    rw [YR,H_,M_ hkp];rfl
   have hgl:Gs.length<=20:=by
    have h1:=aB kc
    unfold ME at h1
    rw [B_]at h1
    have:=ZM (Dg e.1) g.rs
    unfold rgp at h1;omega
   generalize g.pl[e.1.1]=pp at kd ml
   refine A6 (fun τ μ'=>∃lc,∃u:List Pr,τ=[some (.D (Nd g)),some (.R d),some (.D (.bool false)),some (.R f),some (.D (.tuple [.int (e.1.1:Nat),.int (e.1.2:Nat)])),some (.R e.2),some (.R L),some (.R lc)]/\μ' lc=some (.lst (u.map Bt))/\(∀z,z∈u↔z∈flw g A e.1)/\u.Nodup/\(∀z∈u,M6 z)/\Sub μ3 μ') (λZ3 bj=>?_) ?_
   ·refine Ad (Bf (j:=0) rfl) (Ad (Bf (j:=0) rfl) (Ad kd (Ad (Bf (j:=1) rfl) (ieq (λc=>?_) (λc=>?_)))))
    ·refine⟨.R L,ps,Gs,rfl,Ak V,hGr,tm,λu l μ4 hm O hb hl e4 U=>bj _ _ ⟨l,u,rfl,e4,λz=>?_,O,hb.2,U⟩⟩
     unfold flw
     rw [Q_ (by rw [ml];omega),hm z];exact Th kc z
    ·refine⟨.R L,ps,Gs,rfl,Ak V,hGr,hgl,tm,λu l μ4 hm O hb hl e4 U=>bj _ _ ⟨l,u,rfl,e4,λz=>?_,O,hb,U⟩⟩
     unfold flw
     rw [J_ (by rw [ml];omega),hm z];exact Pc kc z
   rintro τ μ4 ⟨lc,u,rfl,e4,hzm,hznd,hzb,U⟩
   have hz9:=M7 hznd hzb
   have dq:∀B∈t,B.1≠e.1:=λB di c=>by
    have h1:e.1∈(Y.take i).map (·.1):=by rw [<- X,<- c];exact D_.mpr ⟨B,di,rfl⟩
    have h2:((Y.take (i+1)).map (·.1)).Nodup:=T.uu.sublist ((fM _ _).map _)
    rw [YC,he,S_,aY]at h2
    exact h2.2.2 _ h1 e.1 (by simp) rfl
   refine Ad (Ak e4) λpn mj=>?_
   have lcn:lc≠pn:=by rintro rfl;rw [e4]at mj;cases mj
   have S24:=S3.trans U
   have wc:μ2 pn=none:=S24.none mj
   have pnf:pn≠f:=by rintro rfl;rw [e2]at wc;cases wc
   refine cmap u Bt (λz=>Bt (z.1+1,z.2)) (fun τ=>∃o1 o2,τ=[o1,o2]) ⟨none,none,rfl⟩ Ab (seven (by omega)) (λ_=>Ak (by rw [Ae lcn,Ae lcn];exact e4)) ?_ ?_
   ·rintro j ⟨c,b⟩ τ' M W2 hj ⟨o1,o2,rfl⟩ hW2
    exact⟨rfl,Vl (hW2 _ ⟨_,_,rfl⟩)⟩
   ·have S5:Sub μ2 (Al (Al μ4 pn (.lst [])) pn (.lst (u.map λz=>Bt (z.1+1,z.2)))):=(S24.new wc).new wc
    have e5:Al (Al μ4 pn (.lst [])) pn (.lst (u.map λz=>Bt (z.1+1,z.2))) pn=some (.lst (u.map λz=>Bt (z.1+1,z.2))):=Ab
    generalize Al (Al μ4 pn (.lst [])) pn (.lst (u.map λz=>Bt (z.1+1,z.2)))=μ5 at S5 e5
    have ep:dput (.dt (t.map kvT)) (.tuple [.int (e.1.1:Nat),.int (e.1.2:Nat)]) (.R pn)=some (.dt ((t++[(e.1,pn)]).map kvT)):=by rw [<- J7 dq];rfl
    have zcf:t.length<=8:=by
     have:=ZX List.length X
     rw [B_,B_,X_]at this;omega
    have ue:∀z,z∈(u.map λz=>(z.1+1,z.2))↔∃y∈flw g A e.1,z=(y.1+1,y.2):=λz=>by
     rw [D_]
     exact⟨λ⟨y,h1,h2⟩=>⟨y,(hzm y).mp h1,h2.symm⟩,λ⟨y,h1,h2⟩=>⟨y,(hzm y).mpr h1,h2.symm⟩⟩
    refine Ad (S5 _ _ e2) (Ad ep ⟨Ax (show(t.map kvT).length<=1000 by rw [B_];omega),hW _ _ ⟨_,_,_,_,t++[(e.1,pn)],λk=>if k=e.1 then u.map (λz=>(z.1+1,z.2)) else I k,rfl,Ab,λB di=>?_,?_,λB di=>?_,λB di=>?_,(S2.trans S5).new hf⟩⟩)
    ·rcases O_.mp di with h | h
     ·obtain⟨h1,h2,S,J⟩:=hll B h
      dsimp only
      rw [J_ (dq B h),Ae h2]
      exact⟨S5 _ _ h1,h2,S,J⟩
     ·rw [P_.mp h]
      dsimp only
      rw [Q_ rfl,Ae pnf]
      refine⟨by rw [e5,XV];rfl,pnf,by rw [B_];exact hz9,λz hz=>?_⟩
      obtain⟨y,h1,rfl⟩:=D_.mp hz
      exact(hzb y h1).2
    ·rw [S_,X,YC,he,S_];rfl
    ·rcases O_.mp di with h | h
     ·dsimp only
      rw [J_ (dq B h)];exact fh B h
     ·rw [P_.mp h]
      dsimp only
      rw [Q_ rfl]
      refine⟨?_,λz hz=>?_,ue⟩
      ·unfold List.Nodup
       rw [ZJ]
       refine iG (λ{a b} h1 h2=>h1 ?_) hznd
       obtain⟨a1,a2⟩:=a
       obtain⟨b1,b2⟩:=b
       injection h2 with S J
       have S:a1+1=b1+1:=S
       have J:a2=b2:=J
       rw [show a1=b1 by omega,J]
      ·obtain⟨y,h1,rfl⟩:=D_.mp hz
       have:=(hzb y h1).1
       show y.1+1<=31
       exact bD this
    ·rw [Ae (eR B di).2];exact S5 _ _ (hRs B di)
  ·rintro τ μ2 ⟨o4,o5,o6,o7,t,I,rfl,e2,hll,X,fh,hRs,S2⟩
   rw [B_,YB]at X
   have z6:t.length=Y.length:=by have:=ZX List.length X;rwa [B_,B_]at this
   refine hZ _ _ ⟨_,_,_,_,t,I,rfl,⟨⟨e2,hll,by omega⟩,λk=>?_,by rw [X];exact T.uu,fh,hf,S2⟩⟩
   rw [<- T.kk k]
   constructor
   ·rintro⟨e,he,rfl⟩
    have:e.1∈Y.map (·.1):=by rw [<- X];exact D_.mpr ⟨e,he,rfl⟩
    obtain⟨B,h1,h2⟩:=D_.mp this
    exact⟨B,h1,h2⟩
   ·rintro⟨e,he,rfl⟩
    have:e.1∈t.map (·.1):=by rw [X];exact D_.mpr ⟨e,he,rfl⟩
    obtain⟨B,h1,h2⟩:=D_.mp this
    exact⟨B,h1,h2⟩
 rintro τ μ1 ⟨o4,o5,o6,o7,t,I,rfl,Q⟩
 exact⟨_,Sub.refl,q f I t μ1 Q⟩
theorem Yz{a b:List Nat}(h:Ba a=Ba b):a=b:=by
 unfold Ba at h
 rw [PyData.tuple.injEq]at h
 induction a generalizing b with
 | nil=>cases b with
  | nil=>rfl
  | cons y b=>cases h
 | cons x a c=>cases b with
  | nil=>cases h
  | cons y b =>
   simp only [List.map_cons,List.cons.injEq,PyData.int.injEq]at h
   rw [c h.2,show x=y by omega]
theorem Rn(a:Ar):KeyTree (Dj a):=by
 have h1:=Ir (ns:=a.ts)
 have h2:=Fp a.ts
 refine⟨?_,?_,?_⟩
 ·simp only [Dj,Ba,Cano,Ao,h2,Bool.and_true]
 ·simp only [Dj,Ba,PyData.canLay0,PyData.canLayAll0,h1.1,Bool.and_true,Bool.true_and]
 ·have:=h1.2
  simp only [Dj,Ba,PyData.depth,PyData.depthAll];omega
theorem Y0(a b:Ar):cmpb (Dj a) (Dj b)=true:=by simp only [Dj,Ba,cmpb,cmpbs,G3,ite_self]
theorem DP{B:List Ar}(h:B.length < 100000)(hn:(B.map Dj).Nodup):SortOk (B.map Dj):=by
 obtain⟨a,b,c⟩:=Mv (ds:=B.map Dj) λd g=>by
  obtain⟨x,_,rfl⟩:=D_.mp g
  exact Rn x
 refine⟨by rw [B_];omega,a,by omega,c,hn,λ_ d g=>?_,λd g e he=>?_⟩
 ·obtain⟨x,_,rfl⟩:=D_.mp g
  exact⟨_,_,rfl⟩
 ·obtain⟨x,_,rfl⟩:=D_.mp g
  obtain⟨y,_,rfl⟩:=D_.mp he
  exact Y0 x y
theorem DQ:∀a b:_root_.Fin 32,B9 a.val=B9 b.val->a=b:=by decide +kernel
theorem Fh:∀{a b:List Nat},(a.map λ(n:Nat)=>PyData.int n)=(b.map λ(n:Nat)=>PyData.int n)->a=b
 | [],[],_=>rfl
 | [],_ :: _,h=>by cases h
 | _ :: _,[],h=>by cases h
 | x :: a,y :: b,h=>by
  rw [XY,XY]at h
  injection h with h1 h2
  injection h1 with h1
  rw [bA h1,Fh h2]
theorem KM{a b:Ar}(h:Dj a=Dj b):a=b:=by
 obtain⟨p,x,ts,c⟩:=a
 obtain⟨i,j,g,k⟩:=b
 unfold Dj Ba at h
 injection h with h
 injection h with h1 h
 injection h with h2 h
 injection h with e h
 injection h with d h
 injection h1 with h1
 injection h2 with h2
 injection e with e
 injection d with d
 have h1:=bA h1
 have h2:=bA h2
 have e:=Fh e
 have d:=bA d
 dsimp only at h1 h2 e d
 rw [h1,h2,e,d]
theorem Ng{Pf:Nat×Nat->List Pr}{kvs:List ((Nat×Nat)×iY)}{a:Ar}:a∈C2 Pf kvs↔∃e∈kvs,∃z∈Pf e.1,a=⟨e.1.1,e.1.2,B9 z.2,z.1⟩:=by
 unfold C2
 rw [ZG]
 constructor
 ·rintro⟨e,he,h⟩
  obtain⟨z,hz,rfl⟩:=D_.mp h
  exact⟨e,he,z,hz,rfl⟩
 ·rintro⟨e,he,z,hz,rfl⟩
  exact⟨e,he,D_.mpr ⟨z,hz,rfl⟩⟩
theorem Lv{Pf:Nat×Nat->List Pr}:∀{kvs:List ((Nat×Nat)×iY)},(kvs.map (·.1)).Nodup->(∀e∈kvs,(Pf e.1).Nodup/\∀z∈Pf e.1,z.2 < 32)->(C2 Pf kvs).Nodup
 | [],_,_=>bJ
 | e :: kvs,hn,h=>by
  rw [XY,ZV]at hn
  obtain⟨h1,h2⟩:=h e XT
  have i:=Lv (kvs:=kvs) hn.2 λc he=>h c (XN _ he)
  have j:=λa=>Ng (Pf:=Pf) (kvs:=kvs) (a:=a)
  unfold C2 at i j ⊢
  rw [aZ,aY]
  refine⟨?_,i,λa ha b hb k=>?_⟩
  ·unfold List.Nodup
   rw [ZJ]
   refine eX (λ{a b} ha hb al heq=>al ?_) h1
   obtain⟨a1,a2⟩:=a
   obtain⟨b1,b2⟩:=b
   injection heq with _ _ h3 g
   have d:=DQ ⟨a2,h2 _ ha⟩ ⟨b2,h2 _ hb⟩ h3
   injection d with d
   have g:a1=b1:=g
   rw [g,d]
  ·obtain⟨z,hz,rfl⟩:=D_.mp ha
   obtain⟨c,l,p,q,o⟩:=(j b).mp hb
   rw [o]at k
   injection k with n m _ _
   exact hn.1 (D_.mpr ⟨c,l,(gM n m:e.1=c.1).symm⟩)
abbrev XG:List Str:=["game","arrows"]
theorem UW:FnScope XG ["game","arrows"] (Ag MB):=⟨rfl,rfl,rfl,by decide +kernel,rfl,by decide +kernel,by decide +kernel⟩
def KN:ASp:=λd μ R=>∃(g:Gq) (A:List Ar),d=[.D (Nd g),.D (.tuple (A.map Dj))]/\GqOk g/\A.length<=8/\(∀a∈A,∀t∈a.ts,t < 5)/\(∀a∈A,a.c<=9)/\∀(es:List iX) (l:iY) μ',es.Nodup->es.Pairwise (λa b=>E5 a b=true)->(∀v,v∈es↔∃k,rgp g.rs k≠[]/\∃y∈flw g A k,v=Dj ⟨k.1,k.2,B9 y.2,y.1+1⟩)->μ l=none->μ' l=some (.lst (es.map .D))->Sub μ μ'->R (.R l) μ'
theorem QR{n:Nat}(F:Fun K "follows" "follows" MB f fd) (u:VCal P w K mg base n "as_arrows" ["tops"] QM) (o:VCal P w K mg base n "following" ["game","tops","least"] QP) (B:VCal P w K mg base n "arrows_by_top" ["arrows"] PZ) (J:mg "sorted" = none):FnOk P w K mg base Fk (n+1) f fd ["game","arrows"] (Hw K 2 KN):=by
 refine F.vok UW λY A t s H E i=>⟨_,(Ai (Be (A8 (Ol i) rfl J PyProof.Rows.boot_sorted (Aa (An u i rfl (Aa (An o i rfl (Aa (vv 0) (Aa (An B i rfl (Aa (vv 1) Ac)) (Aa K7 Ac)))) Ac)) Ac)))),?_⟩
 rintro X μ R _ ⟨g,A,rfl,L,O,G,hc,q⟩
 have W:items μ (.D (.tuple (A.map Dj)))=some (A.map Hn):=by show some ((A.map Dj).map AV.D)=_;rw [XV];rfl
 refine⟨_,A,rfl,W,by omega,G,λd kvs μ1 T=>⟨g,d,A,rfl,L,TopW.r T,O,G,hc,λC Pf c μ2 Q=>⟨C,Pf,c,rfl,Q.q,λl μ3 hl e3 S3=>?_⟩⟩⟩
 have j:Sub μ1 (Ge μ2 C):=λb m hb=>by
  rw [Dm (by rintro rfl;rw [Q.nd]at hb;cases hb)]
  exact Q.ss _ _ hb
 have h:Sub μ μ3:=(T.ss.trans j).trans S3
 have Z:=Nf (Pf:=Pf) (kvs:=c) λe he=>(Q.q.ll e he).2.2.1
 have V:=Q.q.n
 have hnd:((C2 Pf c).map Dj).Nodup:=by
  unfold List.Nodup
  rw [ZJ]
  exact iG (λU x=>U (KM x)) (Lv Q.uu λe he=>⟨(Q.pf e he).1,(Q.q.ll e he).2.2.2⟩)
 have M:dats ((C2 Pf c).map Hn)=some ((C2 Pf c).map Dj):=by
  rw [show(C2 Pf c).map Hn=((C2 Pf c).map Dj).map .D by rw [XV];rfl];exact Bv _
 refine Ad e3 (Ad M ⟨DP (by omega) hnd,λN p hp S I=>⟨_,Sub.refl,q N p _ (hp.nodup_iff.mpr hnd) S (λv=>?_) (h.none I) Ab (h.new (h.none I))⟩⟩)
 rw [hp.mem_iff,D_]
 constructor
 ·rintro⟨a,ha,rfl⟩
  obtain⟨e,he,z,hz,rfl⟩:=Ng.mp ha
  obtain⟨y,hy,rfl⟩:=((Q.pf e he).2.2 z).mp hz
  exact⟨e.1,(Q.kk e.1).mp ⟨e,he,rfl⟩,y,hy,rfl⟩
 ·rintro⟨k,hk,y,hy,rfl⟩
  obtain⟨e,he,rfl⟩:=(Q.kk k).mpr hk
  exact⟨_,Ng.mpr ⟨e,he,(y.1+1,y.2),((Q.pf e he).2.2 _).mpr ⟨y,hy,rfl⟩,rfl⟩,rfl⟩
structure AOk(st:Nat)(a:Ar):Prop where
 p:a.p < st
 x:a.x < 3
 t:∀t∈a.ts,t < st
 u:a.ts.Pairwise (· < ·)
 c:a.c < 10
theorem KO{B:List Ar}(g:B.length<=290):TOk (B.map Dj):=by
 refine⟨by rw [B_];omega,λd c=>?_,λd c=>?_,λd c e he=>?_⟩
 ·obtain⟨a,ha,rfl⟩:=D_.mp c
  have h1:=Ir (ns:=a.ts)
  have h2:=Fp a.ts
  refine⟨?_,?_,?_⟩
  ·simp only [Dj,Ba,Cano,Ao,h2,Bool.and_true]
  ·simp only [Dj,Ba,PyData.canLay0,PyData.canLayAll0,h1.1,Bool.and_true,Bool.true_and]
  ·have:=h1.2
   simp only [Dj,Ba,PyData.depth,PyData.depthAll];omega
 ·obtain⟨a,ha,rfl⟩:=D_.mp c
  exact⟨_,_,rfl⟩
 ·obtain⟨a,ha,rfl⟩:=D_.mp c
  obtain⟨b,hb,rfl⟩:=D_.mp he
  simp only [Dj,Ba,cmpb,cmpbs,G3,ite_self]
theorem Ti(B:List Ar):dats (B.map Hn)=some (B.map Dj):=by
 rw [show B.map Hn=(B.map Dj).map .D by rw [XV];rfl];exact Bv _
abbrev VQ:List Str:=["_law_deal_here","_law_stands","_law_letters","_law_found","_law_k","_law_targets"]
theorem DR:FnScope VQ ["_law_deal_here","_law_stands","_law_letters"] (Ag JS):=⟨rfl,rfl,rfl,by decide +kernel,rfl,by decide +kernel,by decide +kernel⟩
theorem QS:(["_law_s","_law_deal_here"]:List Str).Nodup:=by decide +kernel
def KP:ASp:=λd μ R=>∃(a l:iY) (st c:Nat),d=[.R a,.D (.int st),.D (.int (c:Nat))]/\0 < st/\st<=5/\0 < c/\c<=3/\Pot μ a l/\∀(B:List Ar) μ',B.length<=8->B≠[]->(∀b∈B,AOk st b)->Pot μ' a l->Bi a l μ μ'->R (.D (.tuple (B.map Dj))) μ'
theorem QT{n:Nat}(F:Fun K "_law_arrows" "_law_arrows" JS f fd) (d7:VCal P w K mg base n "_law_draw" ["_law_deal_here","_law_many"] Vh) (ai:mg "range" = none) (ao:mg "tuple" = none) (ah:mg "sorted" = none) (bg:mg "set" = none):FnOk P w K mg base Fk (n+1) f fd ["_law_deal_here","_law_stands","_law_letters"] (Hw K 3 KP):=by
 refine F.vok DR λba A outer s H E L=>⟨_,(Af (Aq (i:=3) DR.nd rfl (Or.inl rfl) (Bd Ac))
   (Af (Bo XX rfl (B4 rfl ai (Aa (Bj Ce (Bd (Aa Ah (Aa Ah (Aa Ah Ac)))) (An d7 L rfl (Aa (vv 0) (Aa Ah Ac)))) Ac)) (Aj (i:=4) DR.nd rfl (Or.inl rfl)) (Af (Aq (i:=5) DR.nd rfl (Or.inl rfl) (Ci D5 rfl ao aA (Aa (Bl (N':=["_law_s","_law_deal_here"]) (mp:=[none,some 0]) rfl (B4 rfl ai (Aa (vv 1) Ac)) (λ_ _ _ _=>(Aj (i:=0) QS rfl (Or.inl rfl) (Or.inr rfl))) (λ_ _ _ _=>(Dr (Bh (E3 L) (An d7 L rfl (Aa (vv 1) (Aa Ah Ac))) Ah (nomark _)))) (λ_ _ _ _=>(vv 0)) (Av (N:=VQ) (pn:=(Ag JS).names) (by decide +kernel))) Ac)))
   (Ai (Bk (Db ZA ZB Cr (vv 3) (Aa (Bc (Aa (An d7 L rfl (Aa (vv 0) (Aa (vv 1) Ac))) (Aa (An d7 L rfl (Aa (vv 0) (Aa (vv 2) Ac))) (Aa (vv 5) (Aa (An d7 L rfl (Aa (vv 0) (Aa Ah Ac))) Ac))))) Ac))))))
   (Ai (Be (Ci D5 rfl ao aA (Aa (CQ L rfl ah rfl bg (vv 3)) Ac)))))),?_⟩
 rintro xs μ R _ ⟨a,l,st,nl,rfl,hs0,hs5,hn0,hn3,hP,q⟩
 intro g fh
 have r:=hP.ne fh
 refine A6 (fun τ μ'=>∃T O,∃B:List Ar,τ=[some (.R a),some (.D (.int st)),some (.D (.int (nl:Nat))),some (.R g),T,O]/\μ' g=some (.lst (B.map Hn))/\B.length<=8/\B≠[]/\(∀b∈B,AOk st b)/\Pot μ' a l/\Bi a l μ μ') (λZ hZ=>?_) ?_
 ·intro pt Y
  have hP1:Pot (Al (Al μ g (.lst [])) pt (.lst [.D (.int 3),.D (.int 5),.D (.int 8)])) a l:=(hP.new fh).new Y
  have qg:=(hP.new (o:=.lst []) fh).ne Y
  have yk:g≠pt:=by rintro rfl;rw [Ab]at Y;cases Y
  have E1:Bi a l μ (Al (Al μ g (.lst [])) pt (.lst [.D (.int 3),.D (.int 5),.D (.int 8)])):=(Bi.refl.new fh).new Y
  have e1:Al (Al μ g (.lst [])) pt (.lst [.D (.int 3),.D (.int 5),.D (.int 8)]) g=some (.lst []):=by rw [Ae yk,Ab]
  refine⟨a,l,3,rfl,hP1,by decide,by decide,λc μ2 hc P2 S2=>?_⟩
  have e2:=S2 g _ r.1.symm r.2.symm e1
  have I:=S2 pt _ qg.1.symm qg.2.symm Ab
  have E2:=E1.trans S2
  obtain⟨m,hm0,hm8,hix⟩:∃m:Nat,0 < m/\m<=8/\atI [AV.D (.int 3),.D (.int 5),.D (.int 8)] (c:Int)=some (.D (.int (m:Nat))):=by
   match c,hc with
   | 0,_=>exact⟨3,by decide,by decide,rfl⟩
   | 1,_=>exact⟨5,by decide,by decide,rfl⟩
   | 2,_=>exact⟨8,by decide,by decide,rfl⟩
  refine Ad I (Ad hix ⟨by omega,by omega,?_⟩)
  have ae:(Ea 0 (m:Int).toNat).length=m:=by rw [A5];omega
  refine Cl (λi τ μ'=>∃T O,∃B:List Ar,τ=[some (.R a),some (.D (.int st)),some (.D (.int (nl:Nat))),some (.R g),T,O]/\μ' g=some (.lst (B.map Hn))/\B.length=i/\(∀b∈B,AOk st b)/\Pot μ' a l/\Bi a l μ μ') ⟨none,none,[],rfl,e2,rfl,(λ_ z=>nomatch z),P2,E2⟩ (λ_ _ _ _=>trivial) ?_ ?_
  ·rintro i y τ μ3 Z2 hy ⟨T,O,B,rfl,I,S,V,J,U⟩ hZ2
   have hi:i < m:=by rw [<- ae];exact(F_.mp hy).1
   have ey:=Dd _ _ _ hy
   rw [fY]at ey
   subst ey
   refine A6 (fun τ μ'=>∃ts:List Nat,τ=[some (.R a),some (.D (.int st)),some (.D (.int (nl:Nat))),some (.R g),some (.D (.int i)),some (.D (Ba ts))]/\(∀t∈ts,t < st)/\ts.Pairwise (· < ·)/\μ' g=some (.lst (B.map Hn))/\Pot μ' a l/\Bi a l μ μ') (λZ3 bj=>?_) ?_
   ·refine⟨by omega,by omega,λpl k=>?_⟩
    have ge:=J.ne k
    have ue:g≠pl:=by rintro rfl;rw [I]at k;cases k
    have gx:(Ea 0 (st:Int).toNat).length=st:=by rw [A5];omega
    refine Di (λj G τ' μ'=>∃o,∃u:List Nat,τ'=[o,some (.R a)]/\G=u.map Ec/\u.length<=j/\(∀n∈u,n < j)/\u.Pairwise (· < ·)/\μ' pl=some (.lst G)/\μ' g=some (.lst (B.map Hn))/\Pot μ' a l/\Bi a l μ μ') ⟨none,[],rfl,rfl,E_ _,(λ_ z=>nomatch z),List.Pairwise.nil,Ab,by rw [Ae ue];exact I,J.new k,U.new k⟩ (λ_ _ _ _ _=>trivial) ?_ ?_
    ·rintro j x G τ' μ4 W hx ⟨o,u,rfl,rfl,hn,hb,hu,M,f4,X,Q⟩ hW
     have hj:j < st:=by rw [<- gx];exact(F_.mp hx).1
     have ex:=Dd _ _ _ hx
     rw [fY]at ex
     subst ex
     refine⟨a,l,3,rfl,X,by decide,by decide,λv μ5 hv P5 S5=>?_⟩
     have e5:=S5 pl _ ge.1.symm ge.2.symm M
     have f5:=S5 g _ r.1.symm r.2.symm f4
     refine ieq (λc=>?_) (λc=>hW _ _ _ ⟨_,u,rfl,rfl,YX hn,λn h=>aP (hb n h),hu,e5,f5,P5,Q.trans S5⟩)
     refine⟨e5,Ax (by rw [B_];omega),hW _ _ _ ⟨_,u++[j],rfl,by rw [S_];rfl,by rw [I_];show u.length+1<=_;exact bD hn,λn lv=>?_,?_,Ab,by rw [Ae ue];exact f5,P5.other ge.1 ge.2,λb m h1 h2 hb=>?_⟩⟩
     ·rcases O_.mp lv with h | h
      ·exact aP (hb n h)
      ·rw [P_.mp h];exact aJ _
     ·rw [cV]
      exact⟨hu,dM _ _,λx hx y hy=>by rw [P_.mp hy];exact hb x hx⟩
     ·have:=U b m h1 h2 hb
      rw [Ae (by rintro rfl;rw [k]at this;cases this)]
      exact S5 b m h1 h2 (Q b m h1 h2 hb)
    ·rintro G τ' μ4 ⟨o,u,rfl,rfl,hn,hb,hu,M,f4,X,Q⟩
     rw [gx]at hb
     exact Ad (Ak M) (Ad (G2 _) (bj _ _ ⟨u,rfl,hb,hu,f4,X,Q⟩))
   rintro τ μ4 ⟨ts,rfl,ht,hu,M,X,Q⟩
   refine⟨Ad M trivial,a,l,st,rfl,X,hs0,by omega,λp μ5 hp P5 S5=>⟨a,l,nl,rfl,P5,hn0,by omega,λx μ6 hx P6 S6=>⟨a,l,10,rfl,P6,by decide,by decide,λct μ7 hct P7 S7=>?_⟩⟩⟩
   have e7:=S7 g _ r.1.symm r.2.symm (S6 g _ r.1.symm r.2.symm (S5 g _ r.1.symm r.2.symm M))
   refine Ad e7 ⟨Ax (by rw [B_];omega),hZ2 _ _ ⟨_,_,B++[⟨p,x,ts,ct⟩],rfl,by rw [Ab,S_];rfl,by rw [I_,S];rfl,λb hb=>?_,P7.other r.1 r.2,(Q.trans (S5.trans (S6.trans S7))).put fh⟩⟩
   rcases O_.mp hb with hb | hb
   ·exact V b hb
   ·rw [P_.mp hb];exact⟨hp,U_ hx hn3,ht,hu,hct⟩
  ·rintro τ μ3 ⟨T,O,B,rfl,I,S,V,J,U⟩
   rw [ae]at S
   exact hZ _ _ ⟨_,_,B,rfl,I,by omega,by rintro rfl;simp at S;omega,V,J,U⟩
 rintro τ μ3 ⟨T,O,B,rfl,I,S,hB0,V,J,U⟩
 refine Ad (Ak I) (Ad (Ti B) ⟨KO (by omega),λes p hnd hm _ hp=>?_⟩)
 obtain⟨C,rfl,_,hC⟩:=unmap λd hd=>(hm d).mp hd
 have me:=J.ne hp
 have ae:C.length<=B.length:=by
  have:=Df hnd λd hd=>(hm d).mp hd
  rwa [B_,B_]at this
 refine Ad (Ak Ab) (Ad (Bv _) ⟨_,Sub.refl,q C _ (G_ ae S) (λe=>?_) (λb hb=>V b (hC b hb)) (J.other me.1 me.2) (U.new hp)⟩)
 obtain⟨b,hb⟩:=cP B hB0
 have:=(hm (Dj b)).mpr (D_.mpr ⟨b,hb,rfl⟩)
 rw [e]at this
 cases this
abbrev Pq:=List Nat×Nat
def Nh(p:Pq):iX:=.tuple [Ba p.1,.int (p.2:Nat)]
def Gg(p:Pq):AV:=.D (Nh p)
def chs:List (List Pq)->List (List Pq):=List.foldl (λF G=>F.flatMap λr=>G.map λt=>r++[t]) [[]]
theorem Pd(Gs:List (List Pq))(G:List Pq):chs (Gs++[G])=(chs Gs).flatMap λr=>G.map λt=>r++[t]:=by
 unfold chs
 rw [eG];rfl
abbrev Ls:=List (iY×List Pq)
def Cp(μ:M)(es:Ls):Prop:=∀e∈es,μ e.1=some (.lst (e.2.map Gg))
def Ez(es:Ls):List AV:=es.map λe=>.R e.1
theorem Cp.sub{μ ν:M}{es:Ls}(h:Cp μ es)(S:Sub μ ν):Cp ν es:=λe he=>S _ _ (h e he)
theorem Cp.snoc{μ:M}{es:Ls}{p:iY}{r:List Pq}(h:Cp μ es)(e:μ p=some (.lst (r.map Gg))):Cp μ (es++[(p,r)]):=λx hx=>by
 rcases O_.mp hx with hx | hx
 ·exact h x hx
 ·rw [P_.mp hx];exact e
theorem Cp.app{μ:M}{es a:Ls}(h:Cp μ es)(k:Cp μ a):Cp μ (es++a):=λx hx=>(O_.mp hx).elim (h x) (k x)
theorem Cp.put{μ:M}{es:Ls}{p:iY}{o:MO}(h:Cp μ es)(hp:∀e∈es,e.1≠p):Cp (Al μ p o) es:=λe he=>by rw [Ae (hp e he)];exact h e he
theorem Cp.ne{μ:M}{es:Ls}{p:iY}(h:Cp μ es)(hp:μ p=none):∀e∈es,e.1≠p:=λe he c=>by
 have:=h e he
 rw [c,hp]at this;cases this
theorem Dn{μ ν:M}{p:iY}{o:MO}(S:Sub μ ν)(h:μ p=none):Sub μ (Al ν p o):=λb m hb=>by
 rw [Ae (by rintro rfl;rw [h]at hb;cases hb)];exact S b m hb
theorem Cc{μ ν ρ:M}(h:Sub μ ν)(k:Sub ν ρ):Sub μ ρ:=λb m hb=>k b m (h b m hb)
abbrev VR:List Str:=["_law_some_here","_law_found","_law_things","_law_longer","_law_row"]
theorem Vp:FnScope VR ["_law_some_here"] (Ag JT):=⟨rfl,rfl,rfl,by decide +kernel,rfl,by decide +kernel,by decide +kernel⟩
theorem QU:(["_law_thing","_law_row"]:List Str).Nodup:=by decide +kernel
def KQ:ASp:=λb μ R=>∃(x:AV) (es:Ls),b=[x]/\items μ x=some (Ez es)/\Cp μ es/\es.length<=5/\(∀j,(chs ((es.map (·.2)).take j)).length<=30000)/\∀(a:Ls) (l:iY) μ',a.map (·.2)=chs (es.map (·.2))->Cp μ' a->(∀r∈a,μ r.1=none)->μ l=none->μ' l=some (.lst (Ez a))->Sub μ μ'->R (.R l) μ'
theorem QV{n:Nat}(F:Fun K "_law_choices" "_law_choices" JT f fd):FnOk P w K mg base Fk (n+1) f fd ["_law_some_here"] (Hw K 1 KQ):=by
 refine F.vok Vp λba A outer s H E hr=>⟨_,(Af (Aq (i:=1) Vp.nd rfl (Or.inl rfl) (Bd (Aa (Bd Ac) Ac)))
   (Af (Bo XX rfl (A7 (vv 0)) (Aj (i:=2) Vp.nd rfl (Or.inl rfl)) (Af (Aq (i:=3) Vp.nd rfl (Or.inl rfl) (Bd Ac))
   (Af (Bo XX rfl (A7 (vv 1)) (Aj (i:=4) Vp.nd rfl (Or.inr rfl)) (Ai (Bk (Db aK aL Ek (vv 3) (Aa (Bl (N':=["_law_thing","_law_row"]) (mp:=[none,some 4]) rfl (A7 (vv 2)) (λ_ _ _ _=>(Aj (i:=0) QU rfl (Or.inl rfl) (Or.inr rfl))) (λ_ _ _ _=>Bw) (λ_ _ _ _=>(A4 Ck (vv 1) (Bd (Aa (vv 0) Ac)))) (Av (N:=VR) (pn:=(Ag JT).names) (by decide +kernel))) Ac)))))
   (Ai (Aq (i:=1) Vp.nd rfl (Or.inl rfl) (vv 3))))))
   (Ai (Be (vv 1))))),?_⟩
 rintro xs μ R _ ⟨x,X,rfl,hx,hE,h5,wm,q⟩
 intro B ig J fo
 have S1:Sub μ (Al (Al μ B (.lst [])) J (.lst [.R B])):=(Sub.refl.new ig).new ((Sub.refl.new ig:Sub μ _).none fo)
 have h01:B≠J:=by rintro rfl;rw [Ab]at fo;cases fo
 have hn1:μ J=none:=(Sub.refl.new ig:Sub μ (Al μ B (.lst []))).none fo
 have e1:Al (Al μ B (.lst [])) J (.lst [.R B]) J=some (.lst [.R B]):=Ab
 have e0:Al (Al μ B (.lst [])) J (.lst [.R B]) B=some (.lst []):=by rw [Ae h01,Ab]
 generalize Al (Al μ B (.lst [])) J (.lst [.R B])=μ1 at S1 e1 e0
 show N5 _ _ _ _ _ _ [some x,some (.R J),none,none,none] μ1
 refine A6 (fun τ μ'=>∃o2 o3 m,∃(l:iY) (a:Ls),τ=[some x,some (.R l),o2,o3,m]/\a.map (·.2)=chs (X.map (·.2))/\Cp μ' a/\(∀r∈a,μ r.1=none)/\μ l=none/\μ' l=some (.lst (Ez a))/\Sub μ μ') (λZ hZ=>?_) ?_
 ·refine Ad (Bu hx S1) ?_
  refine Cl (λi τ μ'=>∃o2 o3 m,∃(l:iY) (a:Ls),τ=[some x,some (.R l),o2,o3,m]/\a.map (·.2)=chs ((X.map (·.2)).take i)/\(∀r∈a,r.2.length=i/\μ r.1=none)/\Cp μ' a/\μ l=none/\μ' l=some (.lst (Ez a))/\Sub μ μ') ⟨none,none,none,J,[(B,[])],rfl,rfl,(λr h=>by rw [P_.mp h];exact⟨rfl,ig⟩),(λe h=>by rw [P_.mp h];exact e0),hn1,e1,S1⟩ (λ_ _ _ ⟨_,_,_,_,_,_,_,_,_,_,_,S⟩=>Bu hx S) ?_ ?_
  ·rintro i v τ μ2 Z2 hv ⟨o2,o3,m,l,a,rfl,d,jh,hR,hl,e2,O⟩ hZ2
   unfold Ez at hv
   rw [H_]at hv
   obtain⟨⟨pe,G⟩,hp,rfl⟩:=K_.mp hv
   have hi:=(F_.mp hp).1
   have hG:μ2 pe=some (.lst (G.map Gg)):=O _ _ (hE _ (XO hp))
   have bo:(X.map (·.2)).take (i+1)=(X.map (·.2)).take i++[G]:=by rw [YC,H_,hp];rfl
   have hb:=wm (i+1)
   rw [bo,Pd,<- d]at hb
   have hbi:=wm i
   rw [<- d,B_]at hbi
   intro p Q
   have lgl:l≠p:=by rintro rfl;rw [e2]at Q;cases Q
   have lg0:μ p=none:=O.none Q
   have S3:Sub μ2 (Al μ2 p (.lst [])):=Sub.refl.new Q
   have e3:Al μ2 p (.lst []) p=some (.lst (Ez [])):=Ab
   have pel:pe≠p:=by rintro rfl;rw [hG]at Q;cases Q
   generalize Al μ2 p (.lst [])=μ3 at S3 e3
   show N5 _ _ _ _ _ _ [some x,some (.R l),some (.R pe),some (.R p),m] μ3
   have jm:∀j,((a.map (·.2)).take j).flatMap (λr=>G.map λt=>r++[t])=((a.map (·.2)).take j).flatMap (λr=>G.map λt=>r++[t]):=λ_=>rfl
   refine A6 (fun τ μ'=>∃m,∃b:Ls,τ=[some x,some (.R l),some (.R pe),some (.R p),m]/\b.map (·.2)=(a.map (·.2)).flatMap (λr=>G.map λt=>r++[t])/\(∀u∈b,u.2.length=i+1/\μ u.1=none)/\Cp μ' b/\μ' p=some (.lst (Ez b))/\Sub μ2 μ') (λZ3 bj=>?_) ?_
   ·refine Ad (Ak (S3 _ _ e2)) ?_
    refine Cl (λj τ μ'=>∃m,∃b:Ls,τ=[some x,some (.R l),some (.R pe),some (.R p),m]/\b.map (·.2)=((a.map (·.2)).take j).flatMap (λr=>G.map λt=>r++[t])/\(∀u∈b,(u.2.length=i+1/\μ u.1=none)/\u.1≠p)/\Cp μ' b/\μ' p=some (.lst (Ez b))/\Sub μ2 μ') ⟨m,[],rfl,rfl,(λ_ h=>nomatch h),(λ_ h=>nomatch h),e3,S3⟩ (λ_ _ _ ⟨_,_,_,_,_,_,_,S⟩=>Ak (S _ _ e2)) ?_ ?_
    ·rintro j v τ μ4 Z4 hv ⟨m,b,rfl,U,Y,hU,C,M⟩ jd
     unfold Ez at hv
     rw [H_]at hv
     obtain⟨⟨pr,r⟩,hr,rfl⟩:=K_.mp hv
     have j6:=XO hr
     have hr4:μ4 pr=some (.lst (r.map Gg)):=M _ _ (hR _ j6)
     have gt:r.length=i:=(jh _ j6).1
     have htr:(a.map (·.2)).take (j+1)=(a.map (·.2)).take j++[r]:=by rw [YC,H_,hr];rfl
     have cz:b.length+G.length<=30000:=by
      have e1:b.length=(((a.map (·.2)).take j).flatMap (λr=>G.map λt=>r++[t])).length:=by rw [<- U,B_]
      have e2:(((a.map (·.2)).take (j+1)).flatMap (λr=>G.map λt=>r++[t])).length=b.length+G.length:=by rw [htr,bN,I_,<- e1,f_,B_]
      have e3:(((a.map (·.2)).take (j+1)).flatMap (λr=>G.map λt=>r++[t])).length<=((a.map (·.2)).flatMap (λr=>G.map λt=>r++[t])).length:=by
       conv=>rhs;rw [<- bP (j+1) (a.map (·.2)),bN,I_]
       exact YG _ _
      omega
     have hG4:=M _ _ hG
     refine⟨Ad C trivial,Ad (Ak hG4) λpl D=>?_⟩
     have plg:p≠pl:=by rintro rfl;rw [C]at D;cases D
     refine Di (λk I τ' μ'=>∃o,∃y:Ls,τ'=[o,some (.R pr)]/\I=Ez y/\y.map (·.2)=(G.take k).map (λt=>r++[t])/\(∀u∈y,u.1≠pl/\μ4 u.1=none)/\Cp μ' y/\μ' pl=some (.lst I)/\Sub μ4 μ') ⟨none,[],rfl,rfl,rfl,(λ_ h=>nomatch h),(λ_ h=>nomatch h),Ab,Sub.refl.new D⟩ (λ_ _ _ _ ⟨_,_,_,_,_,_,_,_,S⟩=>Ak (S _ _ hG4)) ?_ ?_
     ·rintro k v I τ' μ5 W hv ⟨o,y,rfl,rfl,g,z,hV,e5,T⟩ hW
      rw [H_]at hv
      obtain⟨t,ht,rfl⟩:=K_.mp hv
      have hk:=(F_.mp ht).1
      have hvl:y.length<=30000:=by
       have:=ZX List.length g
       rw [B_,B_,X_]at this
       omega
      refine Nz rfl λq1 hq1=>?_
      have S6:Sub μ5 (Al μ5 q1 (.lst [Gg t])):=Sub.refl.new hq1
      refine Ad (S6 _ _ (T _ _ hr4)) (Ad Ab ⟨seven (by rw [B_];show r.length+1<=_;omega),λL V=>?_⟩)
      generalize Al μ5 q1 (.lst [Gg t])=μ6 at S6 V
      have S7:Sub μ5 (Al μ6 L (.lst (r.map Gg++[Gg t]))):=S6.new (S6.none V)
      have e7:Al μ6 L (.lst (r.map Gg++[Gg t])) L=some (.lst ((r++[t]).map Gg)):=by rw [Ab,S_];rfl
      have q5:μ5 L=none:=S6.none V
      have q4:μ4 L=none:=T.none q5
      have ql:L≠pl:=by rintro rfl;rw [e5]at q5;cases q5
      generalize Al μ6 L (.lst (r.map Gg++[Gg t]))=μ7 at S7 e7
      refine⟨S7 _ _ e5,Zi (by show(y.map _).length<=_;rw [B_];omega),hW _ _ _ ⟨_,y++[(L,r++[t])],rfl,by unfold Ez;rw [S_];rfl,?_,λu hu=>?_,?_,Ab,Dn (Cc T S7) D⟩⟩
      ·rw [S_,g,YC,ht,S_];rfl
      ·rcases O_.mp hu with hu | hu
       ·exact z u hu
       ·rw [P_.mp hu];exact⟨ql,q4⟩
      ·refine Cp.put ((hV.sub S7).snoc e7) λu hu=>?_
       rcases O_.mp hu with hu | hu
       ·exact(z u hu).1
       ·rw [P_.mp hu];exact ql
     ·rintro I τ' μ5 ⟨o,y,rfl,rfl,g,z,hV,e5,T⟩
      rw [B_,YB]at g
      have hvl:y.length=G.length:=by
       have:=ZX List.length g
       rwa [B_,B_]at this
      refine Ad (T _ _ C) (Ad e5 ⟨YM (Zi (by show(b.map _).length+(y.map _).length<=_;rw [B_,B_];omega)),jd _ _ ⟨_,b++y,rfl,?_,λu hu=>?_,?_,?_,Dn (Cc M T) Q⟩⟩)
      ·rw [S_,U,g,htr,bN,f_]
      ·rcases O_.mp hu with hu | hu
       ·exact Y u hu
       ·refine⟨⟨?_,(Cc O M).none (z u hu).2⟩,λc=>?_⟩
        ·have:u.2∈y.map (·.2):=D_.mpr ⟨u,hu,rfl⟩
         rw [g]at this
         obtain⟨t,_,e⟩:=D_.mp this
         rw [<- e,I_,gt];rfl
        ·have:=(z u hu).2
         rw [c,C]at this;cases this
      ·refine Cp.put ((hU.sub T).app hV) λu hu=>?_
       rcases O_.mp hu with hu | hu
       ·exact(Y u hu).2
       ·intro c
        have:=(z u hu).2
        rw [c,C]at this;cases this
      ·rw [Ab];unfold Ez;rw [S_]
    ·rintro τ μ4 ⟨m,b,rfl,U,Y,hU,C,M⟩
     have ht:(a.map (·.2)).take (Ez a).length=a.map (·.2):=by unfold Ez;rw [B_,<- B_ (f:=(·.2)),YB]
     rw [ht]at U
     exact bj _ _ ⟨_,b,rfl,U,λu hu=>(Y u hu).1,hU,C,M⟩
   rintro τ μ4 ⟨m,b,rfl,U,Y,hU,C,M⟩
   exact hZ2 _ _ ⟨_,_,_,p,b,rfl,by rw [U,bo,Pd,d],Y,hU,lg0,C,Cc O M⟩
  ·rintro τ μ2 ⟨o2,o3,m,l,a,rfl,d,jh,hR,hl,e2,O⟩
   have ht:(X.map (·.2)).take (Ez X).length=X.map (·.2):=by unfold Ez;rw [B_,<- B_ (f:=(·.2)),YB]
   rw [ht]at d
   exact hZ _ _ ⟨_,_,_,l,a,rfl,d,hR,λr hr=>(jh r hr).2,hl,e2,O⟩
 rintro τ μ2 ⟨o2,o3,m,l,a,rfl,d,hR,hrn,hl,e2,O⟩
 exact⟨_,Sub.refl,q a l μ2 d hR hrn hl e2 O⟩
theorem Pe:∀{xs ys:List iX},xs.Pairwise (λa b=>E5 a b=true)->ys.Pairwise (λa b=>E5 a b=true)->(∀d∈xs,Cano d=true)->(∀d,d∈xs↔d∈ys)->xs=ys
 | [],[],_,_,_,_=>rfl
 | [],y :: ys,_,_,_,h=>absurd ((h y).mpr (.head _)) (by simp)
 | x :: xs,[],_,_,_,h=>absurd ((h x).mp (.head _)) (by simp)
 | x :: xs,y :: ys,hx,hy,hc,h=>by
  obtain⟨j,n⟩:=dW.mp hx
  obtain⟨g,k⟩:=dW.mp hy
  have i:=hc x (.head _)
  have l:Cano y=true:=hc y ((h y).mpr (.head _))
  have e:x=y:=by
   rcases XJ.mp ((h x).mp (.head _)) with e | m1
   ·exact e
   ·rcases XJ.mp ((h y).mpr (.head _)) with e | m2
    ·exact e.symm
    ·have:=Qj x y x i l i (j y m2) (g x m1)
     rw [Fm x i]at this;cases this
  subst e
  rw [Pe n k (λd c=>hc d (.tail _ c)) λd=>?_]
  constructor
  ·intro c
   rcases XJ.mp ((h d).mp (.tail _ c)) with rfl | m
   ·have:=j d c;rw [Fm d i]at this;cases this
   ·exact m
  ·intro c
   rcases XJ.mp ((h d).mpr (.tail _ c)) with rfl | m
   ·have:=g d c;rw [Fm d i]at this;cases this
   ·exact m
theorem Ni:∀{xs ys:List Nat},xs.Pairwise (· < ·)->ys.Pairwise (· < ·)->(∀n,n∈xs↔n∈ys)->xs=ys
 | [],[],_,_,_=>rfl
 | [],y :: ys,_,_,h=>absurd ((h y).mpr XT) (by simp)
 | x :: xs,[],_,_,h=>absurd ((h x).mp XT) (by simp)
 | x :: xs,y :: ys,hx,hy,h=>by
  obtain⟨b,d⟩:=dW.mp hx
  obtain⟨a,c⟩:=dW.mp hy
  have e:x=y:=by
   rcases XJ.mp ((h x).mp XT) with e | e
   ·exact e
   ·rcases XJ.mp ((h y).mpr XT) with e2 | e2
    ·exact e2.symm
    ·have:=a x e
     have:=b y e2
     omega
  subst e
  rw [Ni d c λn=>?_]
  constructor
  ·intro hn
   rcases XJ.mp ((h n).mp (XN _ hn)) with e | e
   ·have:=b n hn;omega
   ·exact e
  ·intro hn
   rcases XJ.mp ((h n).mpr (XN _ hn)) with e | e
   ·have:=a n hn;omega
   ·exact e
theorem Lw:∀{a:List Int},(∀n∈a,∃e:Nat,n=e)->a=(a.map Int.toNat).map λ(n:Nat)=>(n:Int)
 | [],_=>rfl
 | m :: a,h=>by
  obtain⟨e,rfl⟩:=h m (.head _)
  rw [XY,XY,<- Lw λn hn=>h n (.tail _ hn),bI]
theorem Nj{c:List Int}{Es:List Nat}(l:c.Pairwise (· < ·))(k:∀n,n∈c↔n∈Es.map λ(n:Nat)=>(n:Int)):∃d:List Nat,c=(d.map λ(n:Nat)=>(n:Int))/\d.Pairwise (· < ·)/\∀e,e∈d↔e∈Es:=by
 have i:∀n∈c,∃e:Nat,n=e:=λn hn=>by
  obtain⟨e,_,rfl⟩:=D_.mp ((k n).mp hn)
  exact⟨e,rfl⟩
 have j:=Lw i
 generalize c.map Int.toNat=d at j
 subst j
 refine⟨d,rfl,?_,λe=>?_⟩
 ·rw [ZJ]at l
  exact l.imp λ{a b} h=>by omega
 ·have:=k (e:Int)
  constructor
  ·intro h
   obtain⟨g,h1,h2⟩:=D_.mp (this.mp (D_.mpr ⟨e,h,rfl⟩))
   rw [show e=g by omega];exact h1
  ·intro h
   obtain⟨g,h1,h2⟩:=D_.mp (this.mpr (D_.mpr ⟨e,h,rfl⟩))
   rw [show e=g by omega];exact h1
theorem Pg(a:List Nat):(a.map λ(n:Nat)=>(n:Int)).map (λn=>AV.D (.int n))=a.map Ec:=by rw [XV];rfl
theorem Fi{μ ν:M}{p:iY}{m:MO}(h:Sub μ ν)(e:ν p=none):Sub μ (Al ν p m):=h.new (h.none e)
theorem DS(l:List Nat):Gd (l.map Ec)=some (l.map λ(n:Nat)=>(n:Int)):=by
 induction l with
 | nil=>rfl
 | cons n l a=>show(Gd (l.map Ec)).map _=_;rw [a];rfl
def uni(r:List Pq):List Nat:=(List.range 5).filter λt=>r.any λp=>p.1.contains t
def mxc(r:List Pq):Nat:=r.foldl (λc p=>max c p.2) 0
theorem Tj:∀(r:List Pq) (c:Nat),c<=r.foldl (λc p=>max c p.2) c/\(∀p∈r,p.2<=r.foldl (λc p=>max c p.2) c)/\(r.foldl (λc p=>max c p.2) c=c\/∃p∈r,r.foldl (λc p=>max c p.2) c=p.2)
 | [],c=>⟨E_ _,(λ_ h=>nomatch h),.inl rfl⟩
 | p :: r,c=>by
  obtain⟨h1,h2,a⟩:=Tj r (max c p.2)
  rw [ZE]
  refine⟨by omega,λq hq=>?_,?_⟩
  ·rcases XJ.mp hq with rfl | hq
   ·omega
   ·exact h2 q hq
  ·rcases a with a | ⟨q,hq,a⟩
   ·rcases Nat.le_total c p.2 with h | h
    ·exact .inr ⟨p,.head _,by rw [a];omega⟩
    ·exact .inl (by rw [a];omega)
   ·exact .inr ⟨q,.tail _ hq,a⟩
theorem KR{r:List Pq}{m:Int}(h:m∈(0 :: r.map (·.2)).map λ(n:Nat)=>(n:Int))(b:∀n∈(0 :: r.map (·.2)).map λ(n:Nat)=>(n:Int),n<=m):m=(mxc r:Nat):=by
 obtain⟨h1,h2,a⟩:=Tj r 0
 refine Int.le_antisymm ?_ (b _ (D_.mpr ⟨mxc r,?_,rfl⟩))
 ·obtain⟨n,hn,rfl⟩:=D_.mp h
  rcases XJ.mp hn with rfl | hn
  ·exact ZR _
  ·obtain⟨p,hp,rfl⟩:=D_.mp hn
   have:=h2 p hp
   unfold mxc
   omega
 ·rcases a with a | ⟨q,hq,a⟩
  ·unfold mxc;rw [a];exact .head _
  ·unfold mxc;rw [a];exact .tail _ (D_.mpr ⟨q,hq,rfl⟩)
theorem KS(r:List Pq):(uni r).Pairwise (· < ·):=List.Pairwise.sublist gT bK
theorem DT{r:List Pq}(h:∀p∈r,∀t∈p.1,t < 5)(t:Nat):t∈uni r↔t∈r.flatMap (·.1):=by
 unfold uni
 rw [YU,XZ,cK,ZG]
 constructor
 ·rintro⟨_,p,hp,h1⟩
  exact⟨p,hp,gF.mp h1⟩
 ·rintro⟨p,hp,h1⟩
  exact⟨h p hp t h1,p,hp,gF.mpr h1⟩
abbrev VU:List Str:=["_law_pairs","_law_whole","_law_pair"]
theorem KU:FnScope VU ["_law_pairs"] (Ag JU):=⟨rfl,rfl,rfl,by decide +kernel,rfl,by decide +kernel,by decide +kernel⟩
theorem QW:(["_law_pair"]:List Str).Nodup:=by decide +kernel
def KW:ASp:=λb μ R=>∃(a:iY) (r:List Pq),b=[.R a]/\μ a=some (.lst (r.map Gg))/\r.length<=5/\(∀p∈r,p.1.length<=5/\∀t∈p.1,t < 5)/\∀ μ',Sub μ μ'->R (.D (Nh (uni r,mxc r))) μ'
theorem QX{n:Nat}(F:Fun K "_law_put" "_law_put" JU f fd) (cq:mg "max" = none) (ao:mg "tuple" = none) (X:mg "sorted" = none) (V:mg "set" = none):FnOk P w K mg base Fk (n+1) f fd ["_law_pairs"] (Hw K 1 KW):=by
 refine F.vok KU λba A C s H E U=>⟨_,(Af (Aq (i:=1) KU.nd rfl (Or.inl rfl) (Bd Ac))
   (Af (Bo XX rfl (A7 (vv 0)) (Aj (i:=2) KU.nd rfl (Or.inl rfl)) (Ai (Bk (Db aK aL JO (vv 1) (Aa (Bj Ce (vv 2) Ah) Ac)))))
   (Ai (Be (Bc (Aa (Ci D5 rfl ao aA (Aa (CS U rfl X rfl V (vv 1)) Ac)) (Aa (A8 (JK rfl) rfl cq gE (Aa (A4 Ck (Bd (Aa Ah Ac)) (Bl (N':=["_law_pair"]) (mp:=[none]) rfl (A7 (vv 0)) (λ_ _ _ _=>(Aj (i:=0) QW rfl (Or.inl rfl) (Or.inr rfl))) (λ_ _ _ _=>Bw) (λ_ _ _ _=>(Bj Ce (vv 0) Ah)) (Av (N:=VU) (pn:=(Ag JU).names) (by decide +kernel)))) Ac)) Ac))))))),?_⟩
 rintro xs μ R _ ⟨a,r,rfl,ha,h5,Q,q⟩
 intro k j
 have aw:a≠k:=by rintro rfl;rw [ha]at j;cases j
 refine A6 (fun τ μ'=>∃d,τ=[some (.R a),some (.R k),d]/\μ' k=some (.lst ((r.flatMap (·.1)).map Ec))/\(r.flatMap (·.1)).length<=25/\Sub μ μ') (λZ hZ=>?_) ?_
 ·refine Ad (Ak (Sub.refl.new j _ _ ha)) ?_
  refine Cl (λi τ μ'=>∃d,τ=[some (.R a),some (.R k),d]/\μ' k=some (.lst (((r.take i).flatMap (·.1)).map Ec))/\((r.take i).flatMap (·.1)).length<=5 * i/\Sub μ μ') ⟨none,rfl,Ab,E_ _,Sub.refl.new j⟩ (λ_ _ _ ⟨_,_,_,_,S⟩=>Ak (S _ _ ha)) ?_ ?_
  ·rintro i v τ μ1 Z2 hv ⟨d,rfl,b,L,c⟩ hZ2
   rw [H_]at hv
   obtain⟨p,hp,rfl⟩:=K_.mp hv
   have hi:=(F_.mp hp).1
   have hp5:=(Q p (XO hp)).1
   have O:(r.take (i+1)).flatMap (·.1)=(r.take i).flatMap (·.1)++p.1:=by rw [YC,hp,bN];simp
   refine⟨Ad b trivial,Ad (x:=Ba p.1) rfl (Ad b ⟨seven (by rw [B_,B_];omega),hZ2 _ _ ⟨_,rfl,?_,by rw [O,I_];omega,Dn c j⟩⟩)⟩
   rw [Ab,O,S_,XV];rfl
  ·rintro τ μ1 ⟨d,rfl,b,L,c⟩
   rw [B_,YB]at b
   rw [B_,YB]at L
   exact hZ _ _ ⟨_,rfl,b,by omega,c⟩
 rintro τ μ1 ⟨d,rfl,b,L,c⟩
 refine Ad (Ak b) ⟨(r.flatMap (·.1)).map λ(n:Nat)=>(n:Int),(Pg _).symm,by rw [B_];omega,λl ms ik iu vz=>?_⟩
 obtain⟨Fs,rfl,M,J⟩:=Nj iu vz
 have eF:Fs=uni r:=Ni M (KS r) λt=>(J t).trans (DT (λp hp=>(Q p hp).2) t).symm
 subst eF
 have y:Sub μ1 (Al μ1 l (.lst (((uni r).map λ(n:Nat)=>(n:Int)).map λn=>.D (.int n)))):=Sub.refl.new ik
 have e2:Al μ1 l (.lst (((uni r).map λ(n:Nat)=>(n:Int)).map λn=>.D (.int n))) l=some (.lst ((uni r).map Ec)):=by rw [Ab,Pg]
 generalize Al μ1 l (.lst (((uni r).map λ(n:Nat)=>(n:Int)).map λn=>.D (.int n)))=μ2 at y e2
 refine Ad (Ak e2) (Ad (G2 _) λh gg=>?_)
 have e:Sub μ (Al μ2 h (.lst [.D (.int 0)])):=(Cc c y).new ((Cc c y).none gg)
 have z:Al μ2 h (.lst [.D (.int 0)]) h=some (.lst [.D (.int 0)]):=Ab
 generalize Al μ2 h (.lst [.D (.int 0)])=μ3 at e z
 refine Ad (Ak (e _ _ ha)) λT g=>?_
 have G:a≠T:=by rintro rfl;rw [e _ _ ha]at g;cases g
 have B:h≠T:=by rintro rfl;rw [z]at g;cases g
 refine cmap r Gg (λp=>Ec p.2) (fun τ=>∃o,τ=[o]) ⟨none,rfl⟩ Ab (seven (by omega)) (λI=>Ak (by rw [Bq,Ae G];exact e _ _ ha)) ?_ ?_
 ·rintro i p τ' I W hp ⟨o,rfl⟩ hW
  exact Ad (x:=PyData.int (p.2:Nat)) rfl (hW _ ⟨_,rfl⟩)
 ·rw [Bq]
  refine Ad (x:=MO.lst [.D (.int 0)]) (by rw [Ae B];exact z) (Ad Ab ⟨seven (by rw [B_];show 1+r.length<=_;omega),λp4 u=>?_⟩)
  have Y:Gd ([AV.D (.int 0)]++r.map λp=>Ec p.2)=some ((0 :: r.map (·.2)).map λ(n:Nat)=>(n:Int)):=by
   rw [show [AV.D (.int 0)]++(r.map λp=>Ec p.2)=(0 :: r.map (·.2)).map Ec by rw [XY,XV];rfl]
   exact DS _
  refine Ad Ab (Ad Y ⟨by rw [B_];exact eQ _,λm h1 h2=>?_⟩)
  rw [KR h1 h2]
  exact⟨_,Sub.refl,q _ (Fi (e.new (e.none g)) u)⟩
def lgr(A:List Ar)(t y:Nat):List Pq:=(A.filter (B0 (t,y))).map λb=>(b.ts,b.c)
def Gh(A:List Ar)(s:Nat)(w:List Nat)(a:Ar):List Pq:=match w with
 | []=>[]
 | [x]=>if B0 (s,x) a then [(a.ts,a.c)] else []
 | x :: y :: _=>if B0 (s,x) a then(chs (a.ts.map λt=>lgr A t y)).map (λr=>(uni r,a.c+mxc r)) else []
def lrd(A:List Ar)(s:Nat)(w:List Nat):List Pq:=match w with
 | []=>[([s],0)]
 | x :: v=>A.flatMap (Gh A s (x :: v))
def psi(p:Pq):Pr:=(p.2,bts p.1)
def phi(p:Pr):Pq:=(B9 p.2,p.1)
def Psi(r:List Pq):Pr:=r.foldl (λz p=>ewe z (psi p)) (0,0)
theorem DU(A:List Ar)(t y:Nat):grp A (t,y)=(lgr A t y).map psi:=by unfold grp lgr;rw [XV];rfl
theorem Y1(r:List Pq)(t:Pq):Psi (r++[t])=ewe (Psi r) (psi t):=by unfold Psi;rw [eG];rfl
theorem Tk(Gs:List (List Pq)):cho (Gs.map λG=>G.map psi)=(chs Gs).map Psi:=by
 have a:∀(Gs:List (List Pq)) (F:List (List Pq)),(Gs.map λG=>G.map psi).foldl (λF G=>F.flatMap λp=>G.map (ewe p)) (F.map Psi)=(Gs.foldl (λF G=>F.flatMap λr=>G.map λt=>r++[t]) F).map Psi:=by
  intro Gs
  induction Gs with
  | nil=>intro F;rfl
  | cons G Gs b =>
   intro F
   rw [XY,ZE,ZE,<- b]
   congr 1
   rw [List.flatMap_map,List.map_flatMap]
   congr 1
   funext r
   rw [XV,XV]
   refine aX λt _=>?_
   exact(Y1 r t).symm
 exact a Gs [[]]
theorem Y2(G:List Pq):∀F:List (List Pq),(F.flatMap λr=>G.map λt=>r++[t]).length=F.length * G.length
 | []=>by simp
 | r :: F=>by rw [aZ,I_,B_,Y2 G F,YA,Nat.succ_mul];exact gW _ _
theorem Nk(Gs:List (List Pq)):(chs Gs).length=pln (Gs.map λG=>G.map psi):=by
 have a:∀(Gs:List (List Pq)) (F:List (List Pq)),(Gs.foldl (λF G=>F.flatMap λr=>G.map λt=>r++[t]) F).length=(Gs.map λG=>G.map psi).foldl (λn G=>n * G.length) F.length:=by
  intro Gs
  induction Gs with
  | nil=>intro F;rfl
  | cons G Gs b =>
   intro F
   rw [XY,ZE,ZE,b,Y2,B_]
 exact a Gs [[]]
theorem Tl{Q:Pq->Prop}{Gs:List (List Pq)}(h:∀G∈Gs,∀p∈G,Q p){r:List Pq}(a:r∈chs Gs):r.length=Gs.length/\∀p∈r,Q p:=by
 have c:∀(Gs:List (List Pq)) (F:List (List Pq)) (n:Nat),(∀G∈Gs,∀p∈G,Q p)->(∀r∈F,r.length=n/\∀p∈r,Q p)->∀r∈Gs.foldl (λF G=>F.flatMap λr=>G.map λt=>r++[t]) F,r.length=n+Gs.length/\∀p∈r,Q p:=by
  intro Gs
  induction Gs with
  | nil=>intro F n _ b r a;exact b r a
  | cons G Gs e =>
   intro F n d b r a
   have:=e _ (n+1) (λi g=>d i (.tail _ g)) (λu hu=>?_) r a
   ·rw [YA];exact⟨by have:=this.1;omega,this.2⟩
   ·obtain⟨z,hz,hu⟩:=ZG.mp hu
    obtain⟨t,j,rfl⟩:=D_.mp hu
    obtain⟨h1,h2⟩:=b z hz
    refine⟨by rw [I_,h1];rfl,λp hp=>?_⟩
    rcases O_.mp hp with hp | hp
    ·exact h2 p hp
    ·rw [P_.mp hp];exact d G (.head _) t j
 have:=c Gs [[]] 0 h (λr h=>by rw [P_.mp h];exact⟨rfl,λ_ z=>nomatch z⟩) r a
 rw [Nat.zero_add]at this
 exact this
theorem Tm(t:Nat):∀(ts:List Nat) (b:Nat),(ts.foldl (λb k=>b ||| 2 ^ k) b).testBit t=(b.testBit t || ts.contains t)
 | [],b=>by simp
 | k :: ts,b=>by
  rw [ZE,Tm t ts,Nat.testBit_or,Nat.testBit_two_pow,List.contains_cons,Bool.or_assoc]
  congr 2
  by_cases h:k=t
  ·rw [YL h,h,gG]
  ·rw [YH h]
   exact(eU.mpr λc=>h c.symm).symm
theorem Ph(t:Nat)(ts:List Nat):(bts ts).testBit t=ts.contains t:=by
 unfold bts
 rw [Tm,iN,iH]
theorem QY(n:Nat):(B9 n).Pairwise (· < ·):=List.Pairwise.sublist gT bK
theorem Ro{ts:List Nat}(hu:ts.Pairwise (· < ·))(h:∀t∈ts,t < 5):B9 (bts ts)=ts:=by
 refine Ni (QY _) hu λt=>?_
 unfold B9
 rw [YU,XZ,Ph,gF]
 exact⟨λz=>z.2,λz=>⟨h t z,z⟩⟩
theorem GE(r:List Pq):B9 (Psi r).2=uni r:=by
 have a:∀(t:Nat) (r:List Pq) (z:Pr),(r.foldl (λz p=>ewe z (psi p)) z).2.testBit t=(z.2.testBit t || r.any λp=>p.1.contains t):=by
  intro t r
  induction r with
  | nil=>intro z;simp
  | cons p r b =>
   intro z
   rw [ZE,b,bG,<- Bool.or_assoc]
   congr 1
   show(z.2 ||| bts p.1).testBit t=_
   rw [Nat.testBit_or,Ph]
 unfold B9 uni Psi
 refine List.filter_congr λt _=>?_
 rw [a,iN,iH]
theorem GF(r:List Pq):(Psi r).1=mxc r:=by
 have a:∀(r:List Pq) (z:Pr),(r.foldl (λz p=>ewe z (psi p)) z).1=r.foldl (λc p=>max c p.2) z.1:=by
  intro r
  induction r with
  | nil=>intro z;rfl
  | cons p r b=>intro z;rw [ZE,b];rfl
 exact a r (0,0)
theorem Hq{β:Type}(p:Ar->Bool)(g:Ar->List β):∀A:List Ar,(A.filter p).flatMap g=A.flatMap λa=>if p a then g a else []
 | []=>rfl
 | a :: A=>by
  rw [eN,aZ,<- Hq p g A]
  split
  ·rw [aZ]
  ·rfl
theorem Gi{α β:Type}{f g:α->List β}:∀{l:List α},(∀a∈l,f a=g a)->l.flatMap f=l.flatMap g
 | [],_=>rfl
 | a :: l,h=>by rw [aZ,aZ,h a (.head _),Gi λb hb=>h b (.tail _ hb)]
theorem Nl(A:List Ar)(y:Nat)(ts:List Nat):grs A y ts=(ts.map λt=>lgr A t y).map λG=>G.map psi:=by
 unfold grs
 rw [XV]
 exact aX λt _=>DU A t y
theorem DV{A:List Ar}{s:Nat}(hs:s < 5)(b:∀a∈A,AOk 5 a):∀w:List Nat,(rdg A s w).map phi=lrd A s w
 | []=>by
  show [(B9 (bts [s]),0)]=[([s],0)]
  rw [Ro (dM _ _) λt h=>by rw [P_.mp h];exact hs]
 | [x]=>by
  show(grp A (s,x)).map phi=A.flatMap λa=>if B0 (s,x) a then [(a.ts,a.c)] else []
  rw [<- Hq]
  unfold grp
  rw [XV,List.map_eq_flatMap]
  refine Gi λa ha=>?_
  show [(B9 (bts a.ts),a.c)]=_
  have h:=b a (YU.mp ha).1
  rw [Ro h.u h.t]
 | x :: y :: v=>by
  show((grp A (s,x)).flatMap λp=>(cho (grs A y (B9 p.2))).map λq=>(p.1+q.1,q.2)).map phi=A.flatMap λa=>if B0 (s,x) a then(chs (a.ts.map λt=>lgr A t y)).map (λr=>(uni r,a.c+mxc r)) else []
  rw [<- Hq,List.map_flatMap]
  unfold grp
  rw [List.flatMap_map]
  refine Gi λa ha=>?_
  have h:=b a (YU.mp ha).1
  rw [Ro h.u h.t,Nl,Tk,XV,XV]
  refine aX λr _=>?_
  show(B9 (Psi r).2,a.c+(Psi r).1)=_
  rw [GF,GE]
theorem Y3(p:Pq):Cano (Nh p)=true/\(Nh p).canLay0=true/\(Nh p).depth<=3:=by
 have h1:=Ir (ns:=p.1)
 have h2:=Fp p.1
 refine⟨?_,?_,?_⟩
 ·simp only [Nh,Ba,Cano,Ao,h2,Bool.and_true]
 ·simp only [Nh,Ba,PyData.canLay0,PyData.canLayAll0,h1.1,Bool.and_true]
 ·have:=h1.2
  simp only [Nh,Ba,PyData.depth,PyData.depthAll];omega
theorem KY{B:List Pq}(g:B.length<=290):TOkT (B.map Nh):=by
 refine⟨by rw [B_];omega,λd c=>?_,λd c=>?_,λd c e he=>?_⟩
 ·obtain⟨a,ha,rfl⟩:=D_.mp c
  obtain⟨h1,h2,h⟩:=Y3 a
  exact⟨h1,h2,by omega⟩
 ·obtain⟨a,ha,rfl⟩:=D_.mp c
  exact⟨_,_,rfl⟩
 ·obtain⟨a,ha,rfl⟩:=D_.mp c
  obtain⟨b,hb,rfl⟩:=D_.mp he
  simp only [Nh,Ba,cmpb,cmpbs,G3,ite_self]
theorem DW(B:List Pq):dats (B.map Gg)=some (B.map Nh):=by
 rw [show B.map Gg=(B.map Nh).map .D by rw [XV];rfl];exact Bv _
theorem Is(a b c d:Nat):PyData.eqv (.tuple [.int (a:Nat),.int (b:Nat)]) (.tuple [.int (c:Nat),.int (d:Nat)])=(decide (a=c) && decide (b=d)):=by
 rw [Su rfl rfl,fA,aE,ZC,aE,aE]
 constructor
 ·intro h
  have:=Yz (a:=[a,b]) (b:=[c,d]) h
  simp at this
  exact this
 ·rintro⟨rfl,rfl⟩;rfl
theorem Ed(a b:Nat):C0 (.tuple [.int (a:Nat),.int (b:Nat)]):=⟨rfl,by simp [PyData.depth,PyData.depthAll]⟩
theorem Tn{A:List Ar}(b:A.length<=8){s:Nat}{w:List Nat}{a:Ar}(hu:a.ts.Nodup):(Gh A s w a).length<=18:=by
 match w with
 | []=>exact XQ _
 | [x] =>
  show(if B0 (s,x) a then [(a.ts,a.c)] else []).length<=18
  split <;> simp
 | x :: y :: v =>
  show(if B0 (s,x) a then(chs (a.ts.map λt=>lgr A t y)).map (λr=>(uni r,a.c+mxc r)) else []).length<=18
  split
  ·rw [B_,Nk,<- Nl]
   exact Rj (G_ (M9 hu) b)
  ·exact XQ _
abbrev VX:List Str:=["_law_arrows_here","_law_stand","_law_w","_law_found","_law_s","_law_top","_law_targets","_law_cost","_law_some_here","_law_row","_law_more","_law_dear"]
theorem Ko:FnScope VX ["_law_arrows_here","_law_stand","_law_w"] (Ag JV):=⟨rfl,rfl,rfl,by decide +kernel,rfl,by decide +kernel,by decide +kernel⟩
theorem QZ:(["_law_target","_law_arrows_here","_law_w"]:List Str).Nodup:=by decide +kernel
theorem RA:(["_law_one","_law_target","_law_w"]:List Str).Nodup:=by decide +kernel
def RB:ASp:=λc μ R=>∃(A:List Ar) (s:Nat) (w:List Nat),c=[.D (.tuple (A.map Dj)),.D (.int (s:Nat)),.D (Ba w)]/\A.length<=8/\s < 5/\w.length<=2/\(∀a∈A,AOk 5 a)/\∀(es:List iX) (l:iY) μ',(∀d,d∈es↔d∈(lrd A s w).map Nh)->es.Pairwise (λa b=>E5 a b=true)->μ l=none->μ' l=some (.lst (es.map .D))->Sub μ μ'->R (.R l) μ'
theorem RC{n:Nat}(F:Fun K "_law_all_read" "_law_all_read" JV f fd) (cCh:VCal P w K mg base n "_law_choices" ["_law_some_here"] KQ) (zj:VCal P w K mg base n "_law_put" ["_law_pairs"] KW) (am:mg "len" = none) (ah:mg "sorted" = none) (bg:mg "set" = none):FnOk P w K mg base Fk (n+1) f fd ["_law_arrows_here","_law_stand","_law_w"] (Hw K 3 RB):=by
 refine F.vok Ko λba A outer s H E g=>⟨_,(Af (D6 (Bh (E3 g) (A8 D4 rfl am Z_ (Aa (vv 2) Ac)) Ah (nomark _)) (Ai (Be (Bd (Aa (Bc (Aa (Bc (Aa (vv 1) Ac)) (Aa Ah Ac))) Ac)))) Cs)
   (Af (Aq (i:=3) Ko.nd rfl (Or.inl rfl) (Bd Ac))
   (Af (Bo XX rfl (A7 (vv 0)) (Dh (n:=4) rfl (Ap (Aj (i:=4) Ko.nd rfl (Or.inl rfl)) (Ap (Aj (i:=5) Ko.nd rfl (Or.inl rfl)) (Ap (Aj (i:=6) Ko.nd rfl (Or.inl rfl)) (Ap (Aj (i:=7) Ko.nd rfl (Or.inl rfl)) B8))))) (Ai (D6 (VW.pt (Mg (Bh (E3 g) (Bc (Aa (vv 4) (Aa (vv 5) Ac))) (Bc (Aa (vv 1) (Aa (Bj Ce (vv 2) Ah) Ac))) (nomark _)) (Mf (Bh (E3 g) (A8 D4 rfl am Z_ (Aa (vv 2) Ac)) Ah (nomark _))))) (Ai (Bk (Db ZA ZB Cr (vv 3) (Aa (Bc (Aa (vv 6) (Aa (vv 7) Ac))) Ac)))) (Ai (D6 (Bh (E3 g) (Bc (Aa (vv 4) (Aa (vv 5) Ac))) (Bc (Aa (vv 1) (Aa (Bj Ce (vv 2) Ah) Ac))) (nomark _)) (Af (Fg (i:=8) (N':=["_law_target","_law_arrows_here","_law_w"]) (mp:=[none,some 0,some 2]) rfl Ko.nd rfl rfl (A7 (vv 6)) (λ_ _ _ _=>(Aj (i:=0) QZ rfl (Or.inr rfl) (Or.inl rfl))) (λ_ _ _ _=>Bw) (λ_ _ _ _=>(Bl (N':=["_law_one","_law_target","_law_w"]) (mp:=[none,some 0,some 2]) rfl (A7 (vv 1)) (λ_ _ _ _=>(Aj (i:=0) RA rfl (Or.inl rfl) (Or.inr rfl))) (λ_ _ _ _=>(Dr (Bh (E3 g) (Cf (vv 0) D3 (Cd Ah)) (Bc (Aa (vv 1) (Aa (Bj Ce (vv 2) Ah) Ac))) (nomark _)))) (λ_ _ _ _=>(Cf (vv 0) (Cd Ah) (Cd Ah))) (Av (by kernel_rfl)))) (Av (N:=VX) (pn:=(Ag JV).names) (by decide +kernel)))
   (Ai (Bo XX rfl (A7 (An cCh g rfl (Aa (vv 8) Ac))) (Aj (i:=9) Ko.nd rfl (Or.inl rfl)) (Af (IJ (An zj g rfl (Aa (vv 9) Ac)) (Dh (n:=2) rfl (Ap (Aj (i:=10) Ko.nd rfl (Or.inl rfl)) (Ap (Aj (i:=11) Ko.nd rfl (Or.inl rfl)) B8))))
   (Ai (Bk (Db ZA ZB Cr (vv 3) (Aa (Bc (Aa (vv 10) (Aa (A4 Ck (vv 7) (vv 11)) Ac))) Ac)))))))) Cs)))))
   (Ai (Be (Ye g rfl ah rfl bg (vv 3))))))),?_⟩
 rintro xs μ R _ ⟨A,s,w,rfl,hA,hs,hw,hO,q⟩
 cases w with
 | nil =>
  refine C1 ⟨A9 _,A9 _,Nz rfl λl hl=>⟨_,Sub.refl,q [Nh ([s],0)] l _ (λd=>iU) (dM _ _) hl Ab (Sub.refl.new hl)⟩⟩
 | cons x v =>
  have hv1:v.length<=1:=by rw [YA]at hw;omega
  refine C1 ⟨A9 _,A9 _,Uk (by rw [Mj];refine YH ?_;show ¬((((x :: v).map λ(n:Nat)=>PyData.int n).length:Nat):Int)=0;rw [B_,YA];omega) ?_⟩
  intro S fh
  have wk:∀ μ',items μ' (.D (.tuple (A.map Dj)))=some (A.map Hn):=fun μ'=>by
   show some ((A.map Dj).map AV.D)=_
   rw [XV];rfl
  refine A6 (fun τ μ'=>∃o4 o5 o6 o7 o8 I z C,τ=[some (.D (.tuple (A.map Dj))),some (.D (.int (s:Nat))),some (.D (Ba (x :: v))),some (.R S),o4,o5,o6,o7,o8,I,z,C]/\μ' S=some (.lst ((A.flatMap (Gh A s (x :: v))).map Gg))/\(A.flatMap (Gh A s (x :: v))).length<=144/\Sub μ μ') (λZ hZ=>?_) ?_
  ·refine Ad (wk _) ?_
   refine Cl (λi τ μ'=>∃o4 o5 o6 o7 o8 I z C,τ=[some (.D (.tuple (A.map Dj))),some (.D (.int (s:Nat))),some (.D (Ba (x :: v))),some (.R S),o4,o5,o6,o7,o8,I,z,C]/\μ' S=some (.lst (((A.take i).flatMap (Gh A s (x :: v))).map Gg))/\((A.take i).flatMap (Gh A s (x :: v))).length<=18 * i/\Sub μ μ') ⟨none,none,none,none,none,none,none,none,rfl,Ab,E_ _,Sub.refl.new fh⟩ (λ_ _ _ _=>wk _) ?_ ?_
   ·rintro i y τ μ1 Z2 hy ⟨o4,o5,o6,o7,o8,I,z,C,rfl,J,gh,M⟩ hZ2
    rw [H_]at hy
    obtain⟨a,ha,rfl⟩:=K_.mp hy
    have hi:=(F_.mp ha).1
    have haO:=hO a (XO ha)
    have hnd:a.ts.Nodup:=haO.u.imp λh=>W_ h
    have V:=Tn (s:=s) (w:=x :: v) hA hnd
    have bo:(A.take (i+1)).flatMap (Gh A s (x :: v))=(A.take i).flatMap (Gh A s (x :: v))++Gh A s (x :: v) a:=by rw [YC,ha,bN];simp
    generalize (A.take (i+1)).flatMap (Gh A s (x :: v))=B1 at bo hZ2
    generalize (A.take i).flatMap (Gh A s (x :: v))=B at bo J gh
    subst bo
    refine⟨rfl,PY ?_⟩
    dsimp only [List.set]
    have et:PyData.eqv (.tuple [.int (a.p:Nat),.int (a.x:Nat)]) (.tuple [.int (s:Nat),.int (x:Nat)])=B0 (s,x) a:=Is _ _ _ _
    refine Ad (x:=PyData.int (x:Nat)) (Bf (j:=0) rfl) ⟨Ed _ _,Ed _ _,br (λc=>?_) (λc=>Uk rfl (Ad (x:=PyData.int (x:Nat)) (Bf (j:=0) rfl) ⟨Ed _ _,Ed _ _,Uk c (hZ2 _ _ ⟨_,_,_,_,_,_,_,_,rfl,?_,?_,M⟩)⟩))⟩
    ·have hT:B0 (s,x) a=true:=et.symm.trans c
     cases v with
     | nil =>
      refine⟨A9 _,A9 _,Nz rfl ⟨Ad J trivial,Ad J ⟨Ax (by rw [B_];omega),hZ2 _ _ ⟨_,_,_,_,_,_,_,_,rfl,?_,?_,Dn M fh⟩⟩⟩⟩
      ·show _=some (MO.lst ((B++if B0 (s,x) a then [(a.ts,a.c)] else []).map Gg))
       rw [Q_ hT,Ab,S_];rfl
      ·rw [I_];omega
     | cons y v =>
      have ev:v=[]:=dH.mp (by rw [YA]at hv1;omega)
      subst ev
      refine⟨A9 _,A9 _,Uk rfl (Ad (x:=PyData.int (x:Nat)) rfl ⟨Ed _ _,Ed _ _,Nz c ?_⟩)⟩
      have h5:a.ts.length<=5:=by
       have:=Ew (ys:=List.range 5) hnd λt h=>XZ.mpr (haO.t t h)
       rwa [ZK]at this
      have fj:Gh A s [x,y] a=(chs (a.ts.map λt=>lgr A t y)).map (λr=>(uni r,a.c+mxc r)):=Q_ hT
      rw [fj]at V hZ2
      rw [B_]at V
      refine A6 (fun τ μ'=>∃(pl:iY) (es:Ls),τ=[some (.D (.tuple (A.map Dj))),some (.D (.int (s:Nat))),some (.D (Ba [x,y])),some (.R S),some (.D (.int (a.p:Nat))),some (.D (.int (a.x:Nat))),some (.D (Ba a.ts)),some (.D (.int (a.c:Nat))),some (.R pl),I,z,C]/\es.map (·.2)=(a.ts.map λt=>lgr A t y)/\Cp μ' es/\μ' pl=some (.lst (Ez es))/\Sub μ1 μ') (λZ3 bj=>?_) ?_
      ·refine Ad (Dx a.ts) λpl hpl=>?_
       refine Di (λj m τ' μ'=>∃o,∃es:Ls,τ'=[o,some (.D (.tuple (A.map Dj))),some (.D (Ba [x,y]))]/\m=Ez es/\es.map (·.2)=((a.ts.take j).map λt=>lgr A t y)/\(∀e∈es,e.1≠pl)/\Cp μ' es/\μ' pl=some (.lst m)/\Sub μ1 μ') ⟨none,[],rfl,rfl,rfl,(λ_ h=>nomatch h),(λ_ h=>nomatch h),Ab,Sub.refl.new hpl⟩ (λ_ _ _ _ _=>Dx _) ?_ ?_
       ·rintro j u m τ' μ2 W hu ⟨o,es,rfl,rfl,L,al,hE,e2,S2⟩ hW
        rw [H_]at hu
        obtain⟨t,ht,rfl⟩:=K_.mp hu
        have hj:=(F_.mp ht).1
        have cr:es.length<=5:=by
         have:=ZX List.length L
         rw [B_,B_,X_]at this
         omega
        refine Nz rfl (Ad (wk _) λp2 gg=>?_)
        have h2l:p2≠pl:=by rintro rfl;rw [e2]at gg;cases gg
        refine cmapf A Hn (B0 (t,y)) (λb=>Gg (b.ts,b.c)) (fun τ=>∃o,τ=[o,some (.D (.int (t:Nat))),some (.D (Ba [x,y]))]) ⟨none,rfl⟩ Ab (seven (by omega)) (λ_=>wk _) ?_ ?_
        ·rintro k b τ3 m W1 W2 hb ⟨o,rfl⟩ w1 w2
         have eb:PyData.eqv (.tuple [.int (b.p:Nat),.int (b.x:Nat)]) (.tuple [.int (t:Nat),.int (y:Nat)])=B0 (t,y) b:=Is _ _ _ _
         exact Ad (x:=PyData.int (y:Nat)) rfl ⟨Ed b.p b.x,Ed t y,br (λc=>w1 (eb.symm.trans c) _ ⟨_,rfl⟩) (λc=>w2 (eb.symm.trans c) _ ⟨_,rfl⟩)⟩
        ·rw [Bq]
         have Y:Sub μ2 (Al μ2 p2 (.lst ((A.filter (B0 (t,y))).map λb=>Gg (b.ts,b.c)))):=Sub.refl.new gg
         have e3:Al μ2 p2 (.lst ((A.filter (B0 (t,y))).map λb=>Gg (b.ts,b.c))) p2=some (.lst ((lgr A t y).map Gg)):=by rw [Ab,lgr,XV];rfl
         generalize Al μ2 p2 (.lst ((A.filter (B0 (t,y))).map λb=>Gg (b.ts,b.c)))=μ3 at Y e3
         refine⟨Y _ _ e2,Ax (by show(es.map _).length<=_;rw [B_];omega),hW _ _ _ ⟨_,es++[(p2,lgr A t y)],rfl,by unfold Ez;rw [S_];rfl,?_,λe he=>?_,?_,Ab,Dn (Cc S2 Y) hpl⟩⟩
         ·rw [S_,L,YC,ht,S_];rfl
         ·rcases O_.mp he with he | he
          ·exact al e he
          ·rw [P_.mp he];exact h2l
         ·refine Cp.put ((hE.sub Y).snoc e3) λe he=>?_
          rcases O_.mp he with he | he
          ·exact al e he
          ·rw [P_.mp he];exact h2l
       ·rintro m τ' μ2 ⟨o,es,rfl,rfl,L,al,hE,e2,S2⟩
        rw [B_,YB]at L
        exact bj _ _ ⟨pl,es,rfl,L,hE,e2,S2⟩
      rintro τ μ2 ⟨pl,es,rfl,L,hE,e2,S2⟩
      have cr:es.length=a.ts.length:=by
       have:=ZX List.length L
       rwa [B_,B_]at this
      have f2:=S2 _ _ J
      refine⟨.R pl,es,rfl,Ak e2,hE,by omega,λj=>?_,λT l μ3 O hR hrn hl e3 Y=>Ad (Ak e3) ?_⟩
      ·rw [Nk,L,d_,<- Nl]
       exact G_ (Yv (G_ (M9 hnd) hA) j) (by decide)
      rw [L]at O
      have jh:T.length<=18:=by rw [<- B_ (f:=(·.2)),O];exact V
      have wx:l≠S:=by rintro rfl;rw [f2]at hl;cases hl
      have hrf:∀r∈T,r.1≠S:=λr g c=>by
       have:=hrn r g
       rw [c,f2]at this;cases this
      refine Cl (λj τ μ'=>∃I z C,τ=[some (.D (.tuple (A.map Dj))),some (.D (.int (s:Nat))),some (.D (Ba [x,y])),some (.R S),some (.D (.int (a.p:Nat))),some (.D (.int (a.x:Nat))),some (.D (Ba a.ts)),some (.D (.int (a.c:Nat))),some (.R pl),I,z,C]/\μ' S=some (.lst ((B++(T.take j).map λr=>(uni r.2,a.c+mxc r.2)).map Gg))/\Cp μ' T/\μ' l=some (.lst (Ez T))/\Sub μ μ') ⟨_,_,_,rfl,by rw [List.take_zero,iP,aG];exact Y _ _ f2,hR,e3,Cc M (Cc S2 Y)⟩ (λ_ _ _ ⟨_,_,_,_,_,_,e,_⟩=>Ak e) ?_ ?_
      ·rintro j u τ μ4 Z4 hu ⟨I,z,C,rfl,e4,U,l4,S4⟩ jd
       unfold Ez at hu
       rw [H_]at hu
       obtain⟨⟨pr,r⟩,g,rfl⟩:=K_.mp hu
       have j6:=XO g
       have hj:=(F_.mp g).1
       have vd:r∈chs (a.ts.map λt=>lgr A t y):=by rw [<- O];exact D_.mpr ⟨_,j6,rfl⟩
       obtain⟨gt,wv⟩:=Tl (Q:=λp=>p.1.length<=5/\∀t∈p.1,t < 5) (λG hG p hp=>by
        obtain⟨t,_,rfl⟩:=D_.mp hG
        obtain⟨b,hb,rfl⟩:=D_.mp hp
        have X:=hO b (YU.mp hb).1
        have:=Ew (ys:=List.range 5) (X.u.imp λh=>W_ h:b.ts.Nodup) λt h=>XZ.mpr (X.t t h)
        rw [ZK]at this
        exact⟨this,X.t⟩) vd
       rw [B_]at gt
       refine C1 ⟨pr,r,rfl,U _ j6,by omega,wv,fun μ5 S5=>⟨rfl,Vl ?_⟩⟩
       have e5:=S5 _ _ e4
       refine⟨Ad e5 trivial,Ad e5 ⟨Ax (by rw [B_,I_,B_,X_];omega),jd _ _ ⟨_,_,_,rfl,?_,(U.sub S5).put hrf,by rw [Ae wx];exact S5 _ _ l4,Dn (Cc S4 S5) fh⟩⟩⟩
       rw [Ab,YC,g]
       simp only [List.map_append,List.append_assoc]
       rfl
      ·rintro τ μ4 ⟨I,z,C,rfl,e4,U,l4,S4⟩
       have ht:T.take (Ez T).length=T:=by unfold Ez;rw [B_,YB]
       rw [ht,show(T.map λr=>(uni r.2,a.c+mxc r.2))=(chs (a.ts.map λt=>lgr A t y)).map (λr=>(uni r,a.c+mxc r)) by rw [<- O,XV];rfl]at e4
       exact hZ2 _ _ ⟨_,_,_,_,_,_,_,_,rfl,e4,by rw [I_,B_];omega,S4⟩
    ·have hT:B0 (s,x) a=false:=et.symm.trans c
     have:Gh A s (x :: v) a=[]:=by
      cases v with
      | nil=>exact J_ (by rw [hT];exact L_)
      | cons y v=>exact J_ (by rw [hT];exact L_)
     rw [this,aG];exact J
    ·rw [I_];omega
   ·rintro τ μ1 ⟨o4,o5,o6,o7,o8,I,z,C,rfl,J,gh,M⟩
    rw [B_,YB]at J gh
    exact hZ _ _ ⟨_,_,_,_,_,_,_,_,rfl,J,by omega,M⟩
  rintro τ μ1 ⟨o4,o5,o6,o7,o8,I,z,C,rfl,J,gh,M⟩
  refine Ad (Ak J) (Ad (DW _) ⟨KY (by omega),λes p hnd hm iu hp=>⟨_,Sub.refl,q es p _ hm iu (M.none hp) Ab (M.new (M.none hp))⟩⟩)
def Bm(z:Str):AV:=.D (.str z)
theorem To{z:Str}(h:lets z):PyData.canLay0 (.str z)=true:=by
 show PyData.strOk z=true
 unfold PyData.strOk
 rw [Array.all_eq_true]
 intro i a
 have:=h z.cps[i] (by simp)
 simp
 omega
theorem Lx{z:Str}(h:lets z):C0 (.str z):=W8 (To h)
theorem Ka(a:List Str):dats (a.map Bm)=some (a.map PyData.str):=by
 rw [show a.map Bm=(a.map PyData.str).map .D by rw [XV];rfl];exact Bv _
theorem Pi:∀(a:List Str),txts (a.map Bm)=some a
 | []=>rfl
 | z :: a=>by simp only [List.map_cons,Bm,txts,Option.map_eq_some_iff];exact⟨a,Pi a,rfl⟩
theorem DX:∀i:Fin 26,∃c,("abcdefghijklmnopqrstuvwxyz" : Str).cps.toList[i.val]?=some c/\97<=c/\c<=122:=by decide +kernel
theorem KZ{v:Nat}(h:v < 26):∃c,atI ("abcdefghijklmnopqrstuvwxyz" : Str).cps.toList (v:Int)=some c/\97<=c/\c<=122:=by
 obtain⟨c,e,h1⟩:=DX ⟨v,h⟩
 exact⟨c,Bf e,h1⟩
theorem Kc{c:Nat}(h:97<=c/\c<=122):lets ⟨#[c]⟩:=λd a=>by
 have:d=c:=by simpa using a
 rw [this];exact h
theorem Rp:("abcdefghijklmnopqrstuvwxyz" : Str).length<=sizeLine:=by decide +kernel
theorem Y4:("" : Str).length=0:=by decide +kernel
theorem Iu(x y:Str):(x++y).length=x.length+y.length:=by rw [Fo,Fo,Fo,Mr,I_]
theorem Pj:∀{a:List Str},(∀z∈a,z.length=1)->(a.map (·.length)).sum=a.length
 | [],_=>rfl
 | z :: a,h=>by
  simp only [List.map_cons,List.sum_cons,List.length_cons]
  rw [h z XT,Pj λy hy=>h y (XN _ hy)];exact gW _ _
theorem Vq(a:List Str):(Txt.join "" a).length=(a.map (·.length)).sum:=by
 show(PySem.Builtin.Str.glued "" a).length=_
 rw [StrLaws.glued_eq_join]
 induction a with
 | nil=>rfl
 | cons x a b =>
  cases a with
  | nil=>simp [Str.join]
  | cons y a =>
   have e:Str.join "" (x :: y :: a)=x ++ "" ++ Str.join "" (y :: a):=rfl
   rw [e,Iu,Iu,Y4,b]
   simp
theorem SA{x:Str}{j:Nat}(h:lets x)(hj:j<=x.length):lets (Txt.slice x none (some (j:Int))):=λc hc=>by
 rw [Ow (ZR _) (by omega)]at hc
 exact h c (aD hc)
theorem LC{x:Str}{j:Nat}(hj:j<=x.length):(Txt.slice x none (some (j:Int))).length=j:=by
 rw [Fo,Ow (ZR _) (by omega),X_,<- Fo];omega
abbrev Eo:List Str:=["place","letter","rule","own","arrow","ends","one","other"]
theorem Pk(a:List Str)(z:Str):((a.map PyData.str).any λe=>PyData.eqv e (.str z))=true↔z∈a:=by
 rw [cK]
 constructor
 ·rintro⟨e,he,h⟩
  obtain⟨y,hy,rfl⟩:=D_.mp he
  rw [R9]at h
  rw [<- YD h];exact hy
 ·exact λh=>⟨_,D_.mpr ⟨z,h,rfl⟩,by rw [R9];exact YL rfl⟩
theorem Tp:∀{c:List Str},(∀z∈c,lets z)->PyData.canLayAll0 (c.map PyData.str)=true/\PyData.depthAll (c.map PyData.str)<=1
 | [],_=>⟨rfl,by simp [PyData.depthAll]⟩
 | z :: c,h=>by
  obtain⟨a,b⟩:=Tp λy hy=>h y (.tail _ hy)
  have:=To (h z (.head _))
  refine⟨?_,?_⟩
  ·simp only [List.map_cons,PyData.canLayAll0,this,a,Bool.and_self]
  ·simp only [List.map_cons,PyData.depthAll,PyData.depth];omega
theorem Ly{c:List Str}(h:∀z∈c,lets z):C0 (.tuple (c.map PyData.str)):=by
 obtain⟨a,b⟩:=Tp h
 exact⟨by simp only [PyData.canLay0];exact a,by simp only [PyData.depth];omega⟩
theorem Y5{x:Str}(h:lets x):lets (Txt.slice x none (some (4:Int))):=λc hc=>by
 have hc:c∈(StrLaws.sliceText x none (some (4:Int))).cps.toList:=hc
 unfold StrLaws.sliceText at hc
 split at hc
 ·exact h c hc
 ·rw [List.toList_toArray]at hc
  obtain⟨i,_,a⟩:=fD.mp hc
  refine h c ?_
  rw [<- V_]at a
  exact XO a
theorem DY(x:Str):(Txt.slice x none (some (4:Int))).length<=4:=by
 rcases Y_ x.length 4 with h | h
 ·exact G_ (Txt.slice_le x none (some (4:Int))) (YM h)
 ·exact dS (LC (j:=4) h)
theorem Y6:∀i:Fin 26,("abcdefghijklmnopqrstuvwxyz" : Str).cps.toList[i.val]?=some (97+i.val):=by decide +kernel
theorem Vr:∀z∈Eo,(z.cps.toList.all λc=>decide (97<=c/\c<=122))=true:=by decide +kernel
def Lz(z:Str):Nat:=(z.cps.toList.getLast?).getD 0
theorem Y7(x:Str)(c:Nat):Lz (x++(⟨#[c]⟩:Str))=c:=by
 unfold Lz
 rw [Mr]
 simp
theorem Y8{ys:List Str}{sp:Nat}(h:∀j,j < sp->∃z∈ys,Lz z=97+j):sp<=ys.length:=by
 have hnd:((List.range sp).map λj=>97+j).Nodup:=by
  unfold List.Nodup
  rw [ZJ]
  exact iG (λa e=>a (by omega)) eO
 have:=Ew hnd (ys:=ys.map Lz) λx hx=>by
  obtain⟨j,hj,rfl⟩:=D_.mp hx
  obtain⟨z,hz,e⟩:=h j (XZ.mp hj)
  exact D_.mpr ⟨z,hz,e⟩
 rwa [B_,ZK,B_]at this
abbrev VY:List Str:=["_law_deal_here","_law_many","_law_letters","_law_words","_law_found","_law_k","_law_size","_law_word","_law_spare"]
theorem Kq:FnScope VY ["_law_deal_here","_law_many"] (Ag JR):=⟨rfl,rfl,rfl,by decide +kernel,rfl,by decide +kernel,by decide +kernel⟩
theorem RD:(["_law_j","_law_letters","_law_deal_here"]:List Str).Nodup:=by decide +kernel
def RE:ASp:=λd μ R=>∃(a l:iY) (b:Nat),d=[.R a,.D (.int b)]/\b<=6/\Pot μ a l/\∀(c:List Str) (p:iY) μ',c.length=b->μ p=none->μ' p=some (.lst (c.map Bm))->Pot μ' a l->Bi a l μ μ'->R (.R p) μ'
theorem RF{n:Nat}(F:Fun K "_law_names" "_law_names" JR f fd) (d7:VCal P w K mg base n "_law_draw" ["_law_deal_here","_law_many"] Vh) (ai:mg "range" = none):FnOk P w K mg base Fk (n+1) f fd ["_law_deal_here","_law_many"] (Hw K 2 RE):=by
 refine F.vok Kq λba A outer s H E hr=>⟨_,(Af (Aq (i:=2) Kq.nd rfl (Or.inr rfl) B3)
   (Af (Aq (i:=3) Kq.nd rfl (Or.inl rfl) (Bd (Aa B3 (Aa B3 (Aa B3 (Aa B3 (Aa B3 (Aa B3 (Aa B3 (Aa B3 Ac))))))))))
   (Af (Aq (i:=4) Kq.nd rfl (Or.inl rfl) (Bd Ac))
   (Af (Bo XX rfl (B4 rfl ai (Aa (vv 1) Ac)) (Aj (i:=5) Kq.nd rfl (Or.inl rfl)) (Af (Aq (i:=6) Kq.nd rfl (Or.inl rfl) (A4 Ck Ah (An d7 hr rfl (Aa (vv 0) (Aa (Bj Ce (Bd (Aa Ah (Aa Ah Ac))) (An d7 hr rfl (Aa (vv 0) (Aa Ah Ac)))) Ac)))))
   (Af (Aq (i:=7) Kq.nd rfl (Or.inl rfl) (NW PySem.F.slot_str_join PySem.F.type_str_join JB B3 (Aa (Bl (N':=["_law_j","_law_letters","_law_deal_here"]) (mp:=[none,some 2,some 0]) rfl (B4 rfl ai (Aa (vv 6) Ac)) (λ_ _ _ _=>(Aj (i:=0) RD rfl (Or.inl rfl) (Or.inr rfl))) (λ_ _ _ _=>Bw) (λ_ _ _ _=>(Bj Ce (vv 1) (An d7 hr rfl (Aa (vv 2) (Aa Ah Ac))))) (Av (N:=VY) (pn:=(Ag JR).names) (by decide +kernel))) Ac)))
   (Af (Aq (i:=8) Kq.nd rfl (Or.inl rfl) Ah)
   (Af (N6 XX (VW.pt (EQ (Bh (NQ hr) (vv 7) (vv 4) (by with_unfolding_all rfl)) (Wv (Bh (NQ hr) (vv 7) (vv 3) (by with_unfolding_all rfl))))) (Af (Aq (i:=7) Kq.nd rfl (Or.inl rfl) (A4 Ck (A4 Ck (Cf (vv 7) D3 (Cd Ah)) (Bj Ce (vv 2) (A4 Fw (A4 Ww (vv 8) Ah) Ah))) (Bj Ce (vv 2) (A4 Fw (vv 8) Ah))))
   (Ai (Aq (i:=8) Kq.nd rfl (Or.inl rfl) (A4 Ck (vv 8) Ah)))))
   (Ai (Bk (Db ZA ZB Cr (vv 4) (Aa (vv 7) Ac)))))))))
   (Ai (Be (vv 4))))))),?_⟩
 rintro xs μ R _ ⟨a,l,r,rfl,hm,hP,q⟩
 refine KA (A6 (fun τ μ'=>∃b,τ=[some (.R a),some (.D (.int r)),some (Bm "abcdefghijklmnopqrstuvwxyz"),some (.R b),none,none,none,none,none]/\μ b=none/\μ' b=some (.lst (Eo.map Bm))/\Pot μ' a l/\Bi a l μ μ') (λZ hZ=>λb lz=>hZ _ _ ⟨b,rfl,lz,Ab,hP.new lz,Bi.refl.new lz⟩) ?_)
 rintro τ μ1 ⟨b,rfl,lz,e1,P1,S1⟩
 intro k V
 have U:=hP.ne lz
 have C:=P1.ne V
 have vw:μ k=none:=S1.none C.1 C.2 V
 have X:b≠k:=by rintro rfl;rw [e1]at V;cases V
 refine A6 (fun τ μ'=>∃T Q J B,∃e:List Str,τ=[some (.R a),some (.D (.int r)),some (Bm "abcdefghijklmnopqrstuvwxyz"),some (.R b),some (.R k),T,Q,J,B]/\e.length=r/\μ' k=some (.lst (e.map Bm))/\Pot μ' a l/\Bi a l μ μ') (λZ hZ=>?_) ?_
 ·refine⟨by omega,by omega,?_⟩
  have ae:(Ea 0 (r:Int).toNat).length=r:=by rw [A5];omega
  refine Cl (λi τ μ'=>∃T Q J B,∃e:List Str,τ=[some (.R a),some (.D (.int r)),some (Bm "abcdefghijklmnopqrstuvwxyz"),some (.R b),some (.R k),T,Q,J,B]/\e.length=i/\(∀z∈e,lets z)/\μ' k=some (.lst (e.map Bm))/\μ' b=some (.lst (Eo.map Bm))/\Pot μ' a l/\Bi a l μ μ') ⟨none,none,none,none,[],rfl,rfl,(λ_ z=>nomatch z),Ab,by rw [Ae X];exact e1,P1.new V,S1.new V⟩ (λ_ _ _ _=>trivial) ?_ ?_
  ·rintro i y τ μ2 Z2 hy ⟨T,Q,J,B,e,rfl,hn,hz,e2,k2,S,S2⟩ hZ2
   have hi:i < r:=by rw [<- ae];exact(F_.mp hy).1
   refine A6 (fun τ μ'=>∃u:Nat,τ=[some (.R a),some (.D (.int r)),some (Bm "abcdefghijklmnopqrstuvwxyz"),some (.R b),some (.R k),some y,some (.D (.int u)),J,B]/\u<=6/\μ' k=some (.lst (e.map Bm))/\μ' b=some (.lst (Eo.map Bm))/\Pot μ' a l/\Bi a l μ μ') (λZ3 Y=>?_) ?_
   ·intro pt L
    have qy:=S.ne L
    have hft:k≠pt:=by rintro rfl;rw [e2]at L;cases L
    have hkt:b≠pt:=by rintro rfl;rw [k2]at L;cases L
    refine⟨a,l,2,rfl,S.new L,by decide,by decide,λc μ3 hc P3 S3=>?_⟩
    obtain⟨m,hm0,hm6,hix⟩:∃m:Nat,0 < m/\m<=6/\atI [AV.D (.int 2),.D (.int 6)] (c:Int)=some (.D (.int (m:Nat))):=by
     match c,hc with
     | 0,_=>exact⟨2,by decide,by decide,rfl⟩
     | 1,_=>exact⟨6,by decide,by decide,rfl⟩
    refine Ad (S3 pt _ qy.1.symm qy.2.symm Ab) (Ad hix ⟨a,l,m,rfl,P3,hm0,by omega,λv μ4 hv P4 S4=>Y _ _ ⟨1+v,rfl,by omega,?_,?_,P4,(S2.new L).trans (S3.trans S4)⟩⟩)
    ·exact S4 k _ C.1.symm C.2.symm (S3 k _ C.1.symm C.2.symm (by rw [Ae hft];exact e2))
    ·exact S4 b _ U.1.symm U.2.symm (S3 b _ U.1.symm U.2.symm (by rw [Ae hkt];exact k2))
   rintro τ μ4 ⟨u,rfl,hsz,e4,k4,P4,S4⟩
   refine A6 (fun τ μ'=>∃d:Str,τ=[some (.R a),some (.D (.int r)),some (Bm "abcdefghijklmnopqrstuvwxyz"),some (.R b),some (.R k),some y,some (.D (.int u)),some (Bm d),B]/\lets d/\d.length<=6/\μ' k=some (.lst (e.map Bm))/\μ' b=some (.lst (Eo.map Bm))/\Pot μ' a l/\Bi a l μ μ') (λZ3 Y=>?_) ?_
   ·refine⟨trivial,by omega,by omega,λpl p=>?_⟩
    have ge:=P4.ne p
    have wx:k≠pl:=by rintro rfl;rw [e4]at p;cases p
    have z6:b≠pl:=by rintro rfl;rw [k4]at p;cases p
    have mh:(Ea 0 (u:Int).toNat).length=u:=by rw [A5];omega
    refine Di (λj G τ μ'=>∃(o:Option AV) (ys:List Str),τ=[o,some (Bm "abcdefghijklmnopqrstuvwxyz"),some (.R a)]/\G=ys.map Bm/\ys.length=j/\(∀z∈ys,lets z/\z.length=1)/\μ' pl=some (.lst G)/\μ' k=some (.lst (e.map Bm))/\μ' b=some (.lst (Eo.map Bm))/\Pot μ' a l/\Bi a l μ4 μ') ⟨none,[],rfl,rfl,rfl,(λ_ z=>nomatch z),Ab,by rw [Ae wx];exact e4,by rw [Ae z6];exact k4,P4.new p,Bi.refl.new p⟩ (λ_ _ _ _ _=>trivial) ?_ ?_
    ·rintro j x G τ μ6 Z4 hx ⟨o,ys,rfl,rfl,M,hb,l6,e6,k6,P6,S6⟩ jd
     refine Nz rfl ⟨a,l,26,rfl,P6,by decide,by decide,λv μ7 hv P7 S7=>?_⟩
     have l7:=S7 pl _ ge.1.symm ge.2.symm l6
     obtain⟨ch,ec,fu⟩:=KZ hv
     have hj:j < u:=by rw [<- mh];exact(F_.mp hx).1
     refine⟨Rp,Ad ec ⟨l7,Ax (by rw [B_];omega),jd _ _ _ ⟨_,ys++[⟨#[ch]⟩],rfl,by rw [S_];rfl,by rw [I_,M];rfl,λz I=>?_,Ab,by rw [Ae wx];exact S7 k _ C.1.symm C.2.symm e6,by rw [Ae z6];exact S7 b _ U.1.symm U.2.symm k6,P7.other ge.1 ge.2,(S6.trans S7).put p⟩⟩⟩
     rcases O_.mp I with h | h
     ·exact hb z h
     ·rw [P_.mp h];exact⟨Kc fu,rfl⟩
    ·rintro G τ μ6 ⟨o,ys,rfl,rfl,M,hb,l6,e6,k6,P6,S6⟩
     rw [mh]at M
     have jm:=Pj λz I=>(hb z I).2
     refine Ad l6 (Ad (Pi ys) ⟨?_,Y _ _ ⟨Txt.join "" ys,rfl,U5 λz I=>(hb z I).1,?_,e6,k6,P6,S4.trans S6⟩⟩)
     ·rw [jm,Y4];omega
     ·rw [Vq,jm];omega
   rintro τ μ5 ⟨d,rfl,g,t,e5,k5,P5,S5⟩
   refine KA (A6 (fun τ μ'=>∃B,∃d:Str,τ=[some (.R a),some (.D (.int r)),some (Bm "abcdefghijklmnopqrstuvwxyz"),some (.R b),some (.R k),some y,some (.D (.int u)),some (Bm d),B]/\lets d/\μ5=μ') (λZ3 Y=>?_) ?_)
   ·refine R8 (λm τ μ'=>∃sp:Nat,∃d:Str,τ=[some (.R a),some (.D (.int r)),some (Bm "abcdefghijklmnopqrstuvwxyz"),some (.R b),some (.R k),some y,some (.D (.int u)),some (Bm d),some (.D (.int (sp:Nat)))]/\lets d/\d.length<=6/\m+sp=20/\(∀j,j < sp->d∈e++Eo->∃z∈e++Eo,Lz z=97+j)/\sp<=15/\μ5=μ') 20 ⟨0,d,rfl,g,t,rfl,(λj h=>absurd h (b_ _)),XQ _,rfl⟩ ?_
    clear g t
    rintro m τ _ W ⟨sp,d,rfl,g,t,hmm,dg,jp,rfl⟩ hW
    have go:d∈e++Eo->N5 (Qg (Vs BD (Vs BD (VC (Ji 7) R5 (ET (vC (AV.D (PyData.int 4))))) (Vs LN (Ji 2) (Vs IG (Vs ES (Ji 8) (vC (AV.D (PyData.int 26)))) (vC (AV.D (PyData.int 26)))))) (Vs LN (Ji 2) (Vs IG (Ji 8) (vC (AV.D (PyData.int 26)))))) (Dc 7)) (Qg (Vs BD (Ji 8) (vC (AV.D (PyData.int 1)))) (Dc 8)) W (UB R) Z3 W [some (.R a),some (.D (.int r)),some (Bm "abcdefghijklmnopqrstuvwxyz"),some (.R b),some (.R k),some y,some (.D (.int u)),some (Bm d),some (.D (.int (sp:Nat)))] μ5:=λfz=>by
     have zao:sp<=(e++Eo).length:=Y8 λj hj=>dg j hj fz
     rw [I_,hn]at zao
     have h8:Eo.length=8:=rfl
     have e26:((sp:Int) % 26)=(sp:Nat):=Int.emod_eq_of_lt (ZR _) (by omega)
     have d26:((sp:Int) / 26) % 26=(0:Nat):=by rw [Int.ediv_eq_zero_of_lt (ZR _) (by omega)];rfl
     have ec:atI ("abcdefghijklmnopqrstuvwxyz" : Str).cps.toList ((sp:Int) % 26)=some (97+sp):=by rw [e26];exact Bf (Y6 ⟨sp,by omega⟩)
     have ed:atI ("abcdefghijklmnopqrstuvwxyz" : Str).cps.toList ((sp:Int) / 26 % 26)=some 97:=by rw [d26];exact Bf (Y6 ⟨0,eQ _⟩)
     have l4:=Y5 g
     have n4:=DY d
     refine A6 (fun τ μ'=>∃O:Str,τ=[some (.R a),some (.D (.int r)),some (Bm "abcdefghijklmnopqrstuvwxyz"),some (.R b),some (.R k),some y,some (.D (.int u)),some (Bm O),some (.D (.int (sp:Nat)))]/\lets O/\O.length<=6/\Lz O=97+sp/\μ5=μ') (λZ4 jd=>⟨G_ t (by decide),?_⟩) ?_
     ·generalize Txt.slice d none (some (4:Int))=s4 at l4 n4
      have m1:(s4++(⟨#[97]⟩:Str)).length=s4.length+1:=by rw [Iu];rfl
      have m2:(s4++(⟨#[97]⟩:Str)++(⟨#[97+sp]⟩:Str)).length=s4.length+1+1:=by rw [Iu,m1];rfl
      refine⟨⟨by decide,by decide⟩,(show(0:Int) < 26 by decide),Rp,Ad ed ⟨?_,(show(0:Int) < 26 by decide),Rp,Ad ec ⟨?_,jd _ _ ⟨s4++(⟨#[97]⟩:Str)++(⟨#[97+sp]⟩:Str),rfl,G0 (G0 l4 (Kc ⟨by decide,by decide⟩)) (Kc ⟨YG _ _,by omega⟩),by omega,Y7 _ _,rfl⟩⟩⟩⟩
      ·show s4.length+1<=sizeLine
       exact G_ (show _<=10 by omega) (by decide)
      ·rw [m1]
       show s4.length+1+1<=sizeLine
       exact G_ (show _<=10 by omega) (by decide)
     rintro τ _ ⟨O,rfl,ln',lv,hl',rfl⟩
     refine hW (m - 1) _ _ (by omega) ⟨sp+1,O,rfl,ln',lv,by omega,λj hj I=>?_,by omega,rfl⟩
     rcases Y_ j sp with h | h
     ·exact dg j h fz
     ·exact⟨O,I,by rw [hl',show j=sp by omega]⟩
    refine Ad rfl (Ad (Ak e5) (Ad (Ka e) ⟨Lx g,Ly hz,br (λc=>Nz rfl (go (ZP _ ((Pk e d).mp c)))) (λc=>Ad rfl (Ad (Ak k5) (Ad (Ka Eo) ⟨Lx g,Ly (λz h=>λc hc=>YD (cJ.mp (Vr z h) c hc)),br (λc2=>go (YK _ ((Pk Eo d).mp c2))) (λc2=>Y _ _ ⟨_,d,rfl,g,rfl⟩)⟩)))⟩))
   clear g t
   rintro τ _ ⟨B,d,rfl,g,rfl⟩
   refine⟨Ad e5 trivial,Ad e5 ⟨Ax (by rw [B_];omega),hZ2 _ _ ⟨_,_,_,_,e++[d],rfl,by rw [I_,hn];rfl,λz I=>?_,by rw [Ab,S_];rfl,by rw [Ae X];exact k5,P5.other C.1 C.2,S5.put vw⟩⟩⟩
   rcases O_.mp I with h | h
   ·exact hz z h
   ·rw [P_.mp h];exact g
  ·rintro τ μ2 ⟨T,Q,J,B,e,rfl,hn,hz,e2,k2,S,S2⟩
   rw [ae]at hn
   exact hZ _ _ ⟨_,_,_,_,e,rfl,hn,e2,S,S2⟩
 rintro τ μ2 ⟨T,Q,J,B,e,rfl,hn,e2,S,S2⟩
 exact⟨_,Sub.refl,q e k _ hn vw e2 S S2⟩
def UX(p:Str×Nat):AV:=.D (Ho p)
theorem DZ(B:List (Str×Nat)):dats (B.map UX)=some (B.map Ho):=by
 rw [show B.map UX=(B.map Ho).map .D by rw [XV];rfl];exact Bv _
theorem Tq(B:List Rq):dats (B.map G5)=some (B.map Nc):=by
 rw [show B.map G5=(B.map Nc).map .D by rw [XV];rfl];exact Bv _
theorem Y9(r:Rq):PyData.canLay0 (Nc r)=true/\(Nc r).depth<=3:=by
 have h1:=Ir (ns:=r.w)
 refine⟨?_,?_⟩
 ·simp only [Nc,Ba,PyData.canLay0,PyData.canLayAll0,h1.1,Bool.and_true,Bool.true_and]
 ·have:=h1.2
  simp only [Nc,Ba,PyData.depth,PyData.depthAll];omega
theorem EA(r:Rq):C0 (Nc r):=⟨(Y9 r).1,G_ (Y9 r).2 (by decide)⟩
theorem Za:∀B:List Rq,PyData.canLayAll0 (B.map Nc)=true/\PyData.depthAll (B.map Nc)<=3
 | []=>⟨rfl,by simp [PyData.depthAll]⟩
 | r :: B=>by
  obtain⟨a,b⟩:=Za B
  obtain⟨c,d⟩:=Y9 r
  refine⟨?_,?_⟩
  ·simp only [List.map_cons,PyData.canLayAll0,c,a,Bool.and_self]
  ·simp only [List.map_cons,PyData.depthAll];omega
theorem Zb(B:List Rq):C0 (.tuple (B.map Nc)):=by
 obtain⟨a,b⟩:=Za B
 exact⟨by simp only [PyData.canLay0];exact a,by simp only [PyData.depth];omega⟩
structure RqL(np nl:Nat)(r:Rq):Prop where
 p:r.p < np
 x:r.x < nl
 q:r.q < np
 w:r.w.length<=2
structure GqL(g:Gq):Prop where
 p0:0 < g.pl.length
 p3:g.pl.length<=3
 l0:0 < g.le.length
 l3:g.le.length<=3
 r8:g.rs.length<=8
 ok:∀r∈g.rs,RqL g.pl.length g.le.length r
 h2:∀p∈g.pl,p.2 < 2
 two:∀k,hnd g k≠0->(rgp g.rs k).length<=2
theorem RG{b:List Str}{a:Nat}(h:b.length=6)(e:a<=3):∃c:List Str,Mb (b.map Bm) (some 3) (some (3+(a:Int)))=c.map Bm/\c.length=a:=by
 refine⟨(b.drop 3).take a,?_,by rw [X_,cH];omega⟩
 have d:HT.sIx (b.map Bm).length 0 (some 3)=3:=by
  rw [show(some (3:Int))=some ((3:Nat):Int) from rfl,HT.sIx_nat,B_,h];rfl
 have e2:HT.sIx (b.map Bm).length (b.map Bm).length (some (3+(a:Int)))=3+a:=by
  rw [show(3+(a:Int))=((3+a:Nat):Int) by omega,HT.sIx_nat,B_,h];omega
 unfold Mb
 rw [d,e2,show 3+a - 3=a by omega,<- gK,<- d_]
theorem Tr(u r:Rq):PyData.eqv (.tuple [.int (u.p:Nat),.int (u.x:Nat)]) (.tuple [.int (r.p:Nat),.int (r.x:Nat)])=Dg (r.p,r.x) u:=Is _ _ _ _
theorem EB{hs:List Nat}{B:List Rq}{r:Rq}(h:∀k:Nat×Nat,hs.getD k.1 0≠0->(rgp B k).length<=2)(h2:hs.getD r.p 0=0\/(rgp B (r.p,r.x)).length < 2):∀k:Nat×Nat,hs.getD k.1 0≠0->(rgp (B++[r]) k).length<=2:=λk hk=>by
 rw [G6,I_]
 by_cases e:k=(r.p,r.x)
 ·subst e
  rw [J8,Q_ rfl]
  rcases h2 with h2 | h2
  ·exact absurd h2 hk
  ·show _+1<=2;exact bW h2
 ·rw [Rm e,J_ L_]
  exact h k hk
abbrev RH:List Str:=["_law_deal_here","_law_words","_law_many","_law_signs","_law_k","_law_places","_law_rules","_law_size","_law_rule","_law_place","_law_top","_law_to","_law_alike"]
theorem Ip:FnScope RH ["_law_deal_here"] (Ag Zh):=⟨rfl,rfl,rfl,by decide +kernel,rfl,by decide +kernel,by decide +kernel⟩
theorem RI:(["_law_k","_law_words","_law_deal_here"]:List Str).Nodup:=by decide +kernel
theorem RJ:(["_law_rule"]:List Str).Nodup:=by decide +kernel
theorem RK:(["_law_j","_law_deal_here","_law_signs"]:List Str).Nodup:=by decide +kernel
theorem RL:(["_law_one","_law_rule"]:List Str).Nodup:=by decide +kernel
def LD:ASp:=λb μ R=>∃(a l:iY),b=[.R a]/\Pot μ a l/\∀(g:Gq) μ',GqL g->Pot μ' a l->Bi a l μ μ'->R (.D (Nd g)) μ'
theorem RM{n:Nat}(F:Fun K "_law_game" "_law_game" Zh f fd) (d7:VCal P w K mg base n "_law_draw" ["_law_deal_here","_law_many"] Vh) (cNa:VCal P w K mg base n "_law_names" ["_law_deal_here","_law_many"] RE) (ai:mg "range" = none) (am:mg "len" = none) (ao:mg "tuple" = none) (j5:mg "min" = none):FnOk P w K mg base Fk (n+1) f fd ["_law_deal_here"] (Hw K 1 LD):=by
 refine F.vok Ip λba A outer s H E T=>⟨_,(Af (Aq (i:=1) Ip.nd rfl (Or.inr rfl) (An cNa T rfl (Aa (vv 0) (Aa Ah Ac))))
   (Af (CT rfl (Aa (A4 Ck Ah (An d7 T rfl (Aa (vv 0) (Aa Ah Ac)))) (Aa (A4 Ck Ah (An d7 T rfl (Aa (vv 0) (Aa Ah Ac)))) Ac)) (Ap (Aj (i:=2) Ip.nd rfl (Or.inl rfl)) (Ap (Aj (i:=3) Ip.nd rfl (Or.inr rfl)) B8)))
   (Af (Aq (i:=5) Ip.nd rfl (Or.inl rfl) (Ci D5 rfl ao aA (Aa (Bl (N':=["_law_k","_law_words","_law_deal_here"]) (mp:=[none,some 1,some 0]) rfl (B4 rfl ai (Aa (vv 2) Ac)) (λ_ _ _ _=>(Aj (i:=0) RI rfl (Or.inl rfl) (Or.inr rfl))) (λ_ _ _ _=>Bw) (λ_ _ _ _=>(Bc (Aa (Bj Ce (vv 1) (vv 0)) (Aa (An d7 T rfl (Aa (vv 2) (Aa Ah Ac))) Ac)))) (Av (N:=RH) (pn:=(Ag Zh).names) (by decide +kernel))) Ac)))
   (Af (Aq (i:=6) Ip.nd rfl (Or.inl rfl) (Bd Ac))
   (Af (Bo XX rfl (B4 rfl ai (Aa (Bj Ce (Bd (Aa Ah (Aa Ah Ac))) (An d7 T rfl (Aa (vv 0) (Aa Ah Ac)))) Ac)) (Aj (i:=4) Ip.nd rfl (Or.inl rfl)) (Af (Aq (i:=7) Ip.nd rfl (Or.inl rfl) (Bj Ce (Bd (Aa Ah (Aa Ah (Aa Ah (Aa Ah (Aa Ah Ac)))))) (An d7 T rfl (Aa (vv 0) (Aa Ah Ac)))))
   (Af (D6 (Bh (E3 T) (A8 D4 rfl am Z_ (Aa (Bl (N':=["_law_rule"]) (mp:=[none]) rfl (A7 (vv 6)) (λ_ _ _ _=>(Aj (i:=0) RJ rfl (Or.inl rfl) (Or.inr rfl))) (λ_ _ _ _=>(Dr (Bh (E3 T) (A8 D4 rfl am Z_ (Aa (Bj Ce (vv 0) Ah) Ac)) Ah (nomark _)))) (λ_ _ _ _=>(vv 0)) (Av (N:=RH) (pn:=(Ag Zh).names) (by decide +kernel))) Ac)) Ah (nomark _)) (Ai (Aq (i:=7) Ip.nd rfl (Or.inl rfl) (A8 (II rfl) rfl j5 PyProof.Rows.boot_min (Aa (vv 7) (Aa Ah Ac))))) Cs)
   (Af (BF (i:=9) (j:=10) (l:=11) rfl Ip.nd rfl rfl rfl (by decide) (by decide) (by decide) rfl rfl rfl (Aa (An d7 T rfl (Aa (vv 0) (Aa (vv 2) Ac))) (Aa (An d7 T rfl (Aa (vv 0) (Aa (vv 3) Ac))) (Aa (An d7 T rfl (Aa (vv 0) (Aa (vv 2) Ac))) Ac))) rfl)
   (Af (Aq (i:=8) Ip.nd rfl (Or.inr rfl) (Bc (Aa (vv 9) (Aa (vv 10) (Aa (vv 11) (Aa (Ci D5 rfl ao aA (Aa (Bl (N':=["_law_j","_law_deal_here","_law_signs"]) (mp:=[none,some 0,some 3]) rfl (B4 rfl ai (Aa (vv 7) Ac)) (λ_ _ _ _=>(Aj (i:=0) RK rfl (Or.inl rfl) (Or.inr rfl))) (λ_ _ _ _=>Bw) (λ_ _ _ _=>(An d7 T rfl (Aa (vv 1) (Aa (vv 2) Ac)))) (Av (N:=RH) (pn:=(Ag Zh).names) (by decide +kernel))) Ac)) Ac))))))
   (Af (Aq (i:=12) Ip.nd rfl (Or.inl rfl) (A8 D4 rfl am Z_ (Aa (Bl (N':=["_law_one","_law_rule"]) (mp:=[none,some 8]) rfl (A7 (vv 6)) (λ_ _ _ _=>(Aj (i:=0) RL rfl (Or.inl rfl) (Or.inr rfl))) (λ_ _ _ _=>(Dr (Bh (E3 T) (Cf (vv 0) D3 (Cd Ah)) (Cf (vv 1) D3 (Cd Ah)) (nomark _)))) (λ_ _ _ _=>(vv 0)) (Av (N:=RH) (pn:=(Ag Zh).names) (by decide +kernel))) Ac)))
   (Ai (D6 (VW.pt (Mg (Bh (BC T) (vv 8) (vv 6) (by with_unfolding_all rfl)) (Mg (Bh NU (A8 D4 rfl am Z_ (Aa (vv 6) Ac)) Ah (nomark _)) (Mf (VW.pt (EQ (Bh (E3 T) (Bj Ce (Bj Ce (vv 5) (vv 9)) Ah) Ah (nomark _)) (Wv (Bh NU (vv 12) Ah (nomark _))))))))) (Ai (Bk (Db ZA ZB Cr (vv 6) (Aa (vv 8) Ac)))) Cs))))))))
   (Ai (Be (Bc (Aa (vv 5) (Aa (Ci D5 rfl ao aA (Aa (Cf (vv 1) (Cd Ah) (Cd (A4 Ck Ah (vv 3)))) Ac)) (Aa (Ci D5 rfl ao aA (Aa (vv 6) Ac)) Ac))))))))))),?_⟩
 rintro xs μ R _ ⟨a,l,rfl,hP,q⟩
 refine C1 ⟨a,l,6,rfl,by decide,hP,λX b μ1 hz ku e1 P1 S1=>?_⟩
 have S:=hP.ne ku
 refine A6 (fun τ μ'=>∃(J O:Nat),τ=[some (.R a),some (.R b),some (.D (.int J)),some (.D (.int O)),none,none,none,none,none,none,none,none,none]/\0 < J/\J<=3/\0 < O/\O<=3/\μ' b=some (.lst (X.map Bm))/\Pot μ' a l/\Bi a l μ μ') (λZ hZ=>?_) ?_
 ·refine⟨a,l,3,rfl,P1,by decide,by decide,λv μ2 hv P2 S2=>⟨a,l,3,rfl,P2,by decide,by decide,λu μ3 hu P3 S3=>hZ _ _ ⟨1+v,1+u,rfl,by omega,by omega,by omega,by omega,S3 b _ S.1.symm S.2.symm (S2 b _ S.1.symm S.2.symm e1),P3,S1.trans (S2.trans S3)⟩⟩⟩
 rintro τ μ2 ⟨J,O,rfl,ig,iz,ik,mm,e2,P2,S2⟩
 refine A6 (fun τ μ'=>∃C:List (Str×Nat),τ=[some (.R a),some (.R b),some (.D (.int J)),some (.D (.int O)),none,some (.D (.tuple (C.map Ho))),none,none,none,none,none,none,none]/\C.length=J/\(∀p∈C,p.2 < 2)/\μ' b=some (.lst (X.map Bm))/\Pot μ' a l/\Bi a l μ μ') (λZ hZ=>?_) ?_
 ·refine⟨by omega,by omega,λpl e=>?_⟩
  have ge:=P2.ne e
  have km:b≠pl:=by rintro rfl;rw [e2]at e;cases e
  have ae:(Ea 0 (J:Int).toNat).length=J:=by rw [A5];omega
  refine Di (λj I τ' μ'=>∃o,∃C:List (Str×Nat),τ'=[o,some (.R b),some (.R a)]/\I=C.map UX/\C.length=j/\(∀p∈C,p.2 < 2)/\μ' pl=some (.lst I)/\μ' b=some (.lst (X.map Bm))/\Pot μ' a l/\Bi a l μ2 μ') ⟨none,[],rfl,rfl,rfl,(λ_ z=>nomatch z),Ab,by rw [Ae km];exact e2,P2.new e,Bi.refl.new e⟩ (λ_ _ _ _ _=>trivial) ?_ ?_
  ·rintro j x I τ' μ3 W hx ⟨o,C,rfl,rfl,hn,hh,e3,w3,P3,S3⟩ hW
   have hj:j < J:=by rw [<- ae];exact(F_.mp hx).1
   have ex:=Dd _ _ _ hx
   rw [fY]at ex
   subst ex
   obtain⟨z,ez⟩:∃z,X[j]?=some z:=⟨_,M_ (by omega)⟩
   have ea:atI (X.map Bm) ((j:Nat):Int)=some (Bm z):=Bf (by rw [H_,ez];rfl)
   refine Nz rfl (Ad w3 (Ad ea ⟨a,l,2,rfl,P3,by decide,by decide,λv μ4 hv P4 S4=>?_⟩))
   refine⟨S4 pl _ ge.1.symm ge.2.symm e3,Ax (by rw [B_];omega),hW _ _ _ ⟨_,C++[(z,v)],rfl,by rw [S_];rfl,by rw [I_,hn];rfl,λp hp=>?_,Ab,by rw [Ae km];exact S4 b _ S.1.symm S.2.symm w3,P4.other ge.1 ge.2,(S3.trans S4).put e⟩⟩
   rcases O_.mp hp with h | h
   ·exact hh p h
   ·rw [P_.mp h];exact hv
  ·rintro I τ' μ3 ⟨o,C,rfl,rfl,hn,hh,e3,w3,P3,S3⟩
   rw [ae]at hn
   exact Ad (Ak e3) (Ad (DZ _) (hZ _ _ ⟨C,rfl,hn,hh,w3,P3,S2.trans S3⟩))
 rintro τ μ3 ⟨C,rfl,io,hh,e3,P3,S3⟩
 intro d d5
 have U:=P3.ne d5
 have hwr:b≠d:=by rintro rfl;rw [e3]at d5;cases d5
 have hr0:μ d=none:=S3.none U.1 U.2 d5
 refine A6 (fun τ μ'=>∃o4 o7 o8 o9 ft fq j8,∃B:List Rq,τ=[some (.R a),some (.R b),some (.D (.int J)),some (.D (.int O)),o4,some (.D (.tuple (C.map Ho))),some (.R d),o7,o8,o9,ft,fq,j8]/\B.length<=8/\(∀r∈B,RqL J O r)/\(∀k:Nat×Nat,(C.map (·.2)).getD k.1 0≠0->(rgp B k).length<=2)/\μ' d=some (.lst (B.map G5))/\μ' b=some (.lst (X.map Bm))/\Pot μ' a l/\Bi a l μ μ') (λZ hZ=>?_) ?_
 ·intro pt fc
  have P4:Pot (Al (Al μ3 d (.lst [])) pt (.lst [.D (.int 9),.D (.int 13)])) a l:=(P3.new d5).new fc
  have qy:=(P3.new (o:=.lst []) d5).ne fc
  have hrt:d≠pt:=by rintro rfl;rw [Ab]at fc;cases fc
  have hwt:b≠pt:=by rintro rfl;rw [Ae hwr,e3]at fc;cases fc
  have E4:Bi a l μ (Al (Al μ3 d (.lst [])) pt (.lst [.D (.int 9),.D (.int 13)])):=(S3.new d5).new fc
  have r4:Al (Al μ3 d (.lst [])) pt (.lst [.D (.int 9),.D (.int 13)]) d=some (.lst []):=by rw [Ae hrt,Ab]
  have w4:Al (Al μ3 d (.lst [])) pt (.lst [.D (.int 9),.D (.int 13)]) b=some (.lst (X.map Bm)):=by rw [Ae hwt,Ae hwr];exact e3
  have t4:Al (Al μ3 d (.lst [])) pt (.lst [.D (.int 9),.D (.int 13)]) pt=some (.lst [.D (.int 9),.D (.int 13)]):=Ab
  generalize Al (Al μ3 d (.lst [])) pt (.lst [.D (.int 9),.D (.int 13)])=μ4 at P4 E4 r4 w4 t4
  refine⟨a,l,2,rfl,P4,by decide,by decide,λc μ5 hc P5 S5=>?_⟩
  obtain⟨m,hm13,hix⟩:∃m:Nat,m<=13/\atI [AV.D (.int 9),.D (.int 13)] (c:Int)=some (.D (.int (m:Nat))):=by
   match c,hc with
   | 0,_=>exact⟨9,by decide,rfl⟩
   | 1,_=>exact⟨13,by decide,rfl⟩
  refine Ad (S5 pt _ qy.1.symm qy.2.symm t4) (Ad hix ⟨by omega,by omega,?_⟩)
  have ae:(Ea 0 (m:Int).toNat).length=m:=by rw [A5];omega
  refine Cl (λi τ μ'=>∃o4 o7 o8 o9 ft fq j8,∃B:List Rq,τ=[some (.R a),some (.R b),some (.D (.int J)),some (.D (.int O)),o4,some (.D (.tuple (C.map Ho))),some (.R d),o7,o8,o9,ft,fq,j8]/\B.length<=8/\(∀r∈B,RqL J O r)/\(∀k:Nat×Nat,(C.map (·.2)).getD k.1 0≠0->(rgp B k).length<=2)/\μ' d=some (.lst (B.map G5))/\μ' b=some (.lst (X.map Bm))/\Pot μ' a l/\Bi a l μ μ') ⟨none,none,none,none,none,none,none,[],rfl,XQ _,(λ_ h=>nomatch h),(λ_ _=>XQ _),S5 d _ U.1.symm U.2.symm r4,S5 b _ S.1.symm S.2.symm w4,P5,E4.trans S5⟩ (λ_ _ _ _=>trivial) ?_ ?_
  ·clear t4 r4 w4 E4 P4 S5 P5
   rintro i y τ μ6 Z2 hy ⟨o4,o7,o8,o9,ft,fq,j8,B,rfl,hB,kB,tB,g,L,M,Q⟩ hZ2
   refine A6 (fun τ μ'=>∃G:Nat,τ=[some (.R a),some (.R b),some (.D (.int J)),some (.D (.int O)),some y,some (.D (.tuple (C.map Ho))),some (.R d),some (.D (.int (G:Nat))),o8,o9,ft,fq,j8]/\G<=2/\μ' d=some (.lst (B.map G5))/\μ' b=some (.lst (X.map Bm))/\Pot μ' a l/\Bi a l μ μ') (λZ3 bj=>?_) ?_
   ·intro pq nj
    have hnq:=M.ne nj
    have yg:d≠pq:=by rintro rfl;rw [g]at nj;cases nj
    have hwq:b≠pq:=by rintro rfl;rw [L]at nj;cases nj
    refine⟨a,l,5,rfl,M.new nj,by decide,by decide,λc2 μ7 hc2 P7 Y=>?_⟩
    obtain⟨G,bw,hix2⟩:∃G:Nat,G<=2/\atI [AV.D (.int 0),.D (.int 0),.D (.int 1),.D (.int 1),.D (.int 2)] (c2:Int)=some (.D (.int (G:Nat))):=by
     match c2,hc2 with
     | 0,_=>exact⟨0,by decide,rfl⟩
     | 1,_=>exact⟨0,by decide,rfl⟩
     | 2,_=>exact⟨1,by decide,rfl⟩
     | 3,_=>exact⟨1,by decide,rfl⟩
     | 4,_=>exact⟨2,by decide,rfl⟩
    exact Ad (Y pq _ hnq.1.symm hnq.2.symm Ab) (Ad hix2 (bj _ _ ⟨G,rfl,bw,Y d _ U.1.symm U.2.symm (by rw [Ae yg];exact g),Y b _ S.1.symm S.2.symm (by rw [Ae hwq];exact L),P7,(Q.new nj).trans Y⟩))
   clear g L M Q
   rintro τ μ6 ⟨G,rfl,bw,g,L,M,Q⟩
   refine A6 (fun τ μ'=>∃G:Nat,τ=[some (.R a),some (.R b),some (.D (.int J)),some (.D (.int O)),some y,some (.D (.tuple (C.map Ho))),some (.R d),some (.D (.int (G:Nat))),o8,o9,ft,fq,j8]/\G<=2/\μ' d=some (.lst (B.map G5))/\μ' b=some (.lst (X.map Bm))/\Pot μ' a l/\Bi a l μ μ') (λZ3 bj=>?_) ?_
   ·refine Ad (Ak g) λp8 V=>?_
    have oo:d≠p8:=by rintro rfl;rw [g]at V;cases V
    have v3:b≠p8:=by rintro rfl;rw [L]at V;cases V
    have hn8:=M.ne V
    refine cmapf B G5 (λu=>decide (u.w.length=2)) G5 (fun τ=>∃o,τ=[o]) ⟨none,rfl⟩ Ab (seven (by omega)) (λI=>Ak (by rw [Bq,Ae oo];exact g)) ?_ ?_
    ·rintro k u τ' I W1 W2 hu ⟨o,rfl⟩ w1 w2
     refine Ad (x:=Ba u.w) rfl (ieq (λc=>w1 (YL ?_) _ ⟨_,rfl⟩) (λc=>w2 (YH λc2=>c ?_) _ ⟨_,rfl⟩))
     ·have c:(((u.w.map λ(n:Nat)=>PyData.int n).length:Nat):Int)=2:=c
      rw [B_]at c
      omega
     ·show(((u.w.map λ(n:Nat)=>PyData.int n).length:Nat):Int)=2
      rw [B_,c2];rfl
    ·rw [Bq]
     have P8:=M.new (o:=.lst ((B.filter λu=>decide (u.w.length=2)).map G5)) V
     have S8:=Q.new (o:=.lst ((B.filter λu=>decide (u.w.length=2)).map G5)) V
     refine Ad Ab (ieq (λc=>?_) (λc=>bj _ _ ⟨G,rfl,bw,by rw [Ae oo];exact g,by rw [Ae v3];exact L,P8,S8⟩))
     have fin:∀v:Int,(v=(G:Nat)\/v=1)->∃wu:Nat,v=(wu:Nat)/\wu<=2:=λv hv=>hv.elim (λh=>⟨G,h,bw⟩) λh=>⟨1,h,by decide⟩
     have hv:(if(1:Int) < (G:Nat) then(1:Int) else(G:Nat))=(G:Nat)\/(if(1:Int) < (G:Nat) then(1:Int) else(G:Nat))=1:=by split <;> simp
     obtain⟨wu,e',h'⟩:=fin _ hv
     refine bj _ _ ⟨wu,?_,h',by rw [Ae oo];exact g,by rw [Ae v3];exact L,P8,S8⟩
     rw [<- e'];rfl
   clear g L M Q bw
   rintro τ μ6 ⟨G,rfl,bw,g,L,M,Q⟩
   refine A6 (fun τ μ'=>∃p x t:Nat,τ=[some (.R a),some (.R b),some (.D (.int J)),some (.D (.int O)),some y,some (.D (.tuple (C.map Ho))),some (.R d),some (.D (.int (G:Nat))),o8,some (.D (.int (p:Nat))),some (.D (.int (x:Nat))),some (.D (.int (t:Nat))),j8]/\p < J/\x < O/\t < J/\μ' d=some (.lst (B.map G5))/\μ' b=some (.lst (X.map Bm))/\Pot μ' a l/\Bi a l μ μ') (λZ3 bj=>?_) ?_
   ·refine⟨a,l,J,rfl,M,ig,by omega,λp μ7 hp P7 Y=>⟨a,l,O,rfl,P7,ik,by omega,λx μ8 hx P8 S8=>⟨a,l,J,rfl,P8,ig,by omega,λt μ9 ht P9 S9=>bj _ _ ⟨p,x,t,rfl,hp,hx,ht,?_,?_,P9,Q.trans (Y.trans (S8.trans S9))⟩⟩⟩⟩
    ·exact S9 d _ U.1.symm U.2.symm (S8 d _ U.1.symm U.2.symm (Y d _ U.1.symm U.2.symm g))
    ·exact S9 b _ S.1.symm S.2.symm (S8 b _ S.1.symm S.2.symm (Y b _ S.1.symm S.2.symm L))
   clear g L M Q
   rintro τ μ6 ⟨p,x,t,rfl,hp,hx,ht,g,L,M,Q⟩
   refine A6 (fun τ μ'=>∃w:List Nat,τ=[some (.R a),some (.R b),some (.D (.int J)),some (.D (.int O)),some y,some (.D (.tuple (C.map Ho))),some (.R d),some (.D (.int (G:Nat))),some (G5 ⟨p,x,t,w⟩),some (.D (.int (p:Nat))),some (.D (.int (x:Nat))),some (.D (.int (t:Nat))),j8]/\w.length<=2/\μ' d=some (.lst (B.map G5))/\μ' b=some (.lst (X.map Bm))/\Pot μ' a l/\Bi a l μ μ') (λZ3 bj=>?_) ?_
   ·refine⟨by omega,by omega,λpl e=>?_⟩
    have ge:=M.ne e
    have jh:d≠pl:=by rintro rfl;rw [g]at e;cases e
    have km:b≠pl:=by rintro rfl;rw [L]at e;cases e
    have ae:(Ea 0 (G:Int).toNat).length=G:=by rw [A5];omega
    refine Di (λj I τ' μ'=>∃o,∃ws:List Nat,τ'=[o,some (.R a),some (.D (.int O))]/\I=ws.map Ec/\ws.length=j/\μ' pl=some (.lst I)/\μ' d=some (.lst (B.map G5))/\μ' b=some (.lst (X.map Bm))/\Pot μ' a l/\Bi a l μ6 μ') ⟨none,[],rfl,rfl,rfl,Ab,by rw [Ae jh];exact g,by rw [Ae km];exact L,M.new e,Bi.refl.new e⟩ (λ_ _ _ _ _=>trivial) ?_ ?_
    ·rintro j x I τ' μ7 W hx ⟨o,ws,rfl,rfl,hn,e7,r7,w7,P7,Y⟩ hW
     have hj:j < G:=by rw [<- ae];exact(F_.mp hx).1
     refine Nz rfl ⟨a,l,O,rfl,P7,ik,by omega,λv μ8 hv P8 S8=>⟨S8 pl _ ge.1.symm ge.2.symm e7,Ax (by rw [B_];omega),hW _ _ _ ⟨_,ws++[v],rfl,by rw [S_];rfl,by rw [I_,hn];rfl,Ab,by rw [Ae jh];exact S8 d _ U.1.symm U.2.symm r7,by rw [Ae km];exact S8 b _ S.1.symm S.2.symm w7,P8.other ge.1 ge.2,(Y.trans S8).put e⟩⟩⟩
    ·rintro I τ' μ7 ⟨o,ws,rfl,rfl,hn,e7,r7,w7,P7,Y⟩
     rw [ae]at hn
     exact Ad (Ak e7) (Ad (G2 _) (bj _ _ ⟨ws,rfl,by omega,r7,w7,P7,Q.trans Y⟩))
   clear g L M Q
   rintro τ μ6 ⟨w,rfl,hw,g,L,M,Q⟩
   have kr:RqL J O ⟨p,x,t,w⟩:=⟨hp,hx,ht,hw⟩
   have wv:(⟨p,x,t,w⟩:Rq).p=p:=rfl
   refine A6 (fun τ μ'=>τ=[some (.R a),some (.R b),some (.D (.int J)),some (.D (.int O)),some y,some (.D (.tuple (C.map Ho))),some (.R d),some (.D (.int (G:Nat))),some (G5 ⟨p,x,t,w⟩),some (.D (.int (p:Nat))),some (.D (.int (x:Nat))),some (.D (.int (t:Nat))),some (.D (.int ((rgp B (p,x)).length:Nat)))]/\μ' d=some (.lst (B.map G5))/\μ' b=some (.lst (X.map Bm))/\Pot μ' a l/\Bi a l μ μ') (λZ3 bj=>?_) ?_
   ·refine Ad (Ak g) λp8 V=>?_
    have oo:d≠p8:=by rintro rfl;rw [g]at V;cases V
    have v3:b≠p8:=by rintro rfl;rw [L]at V;cases V
    have hn8:=M.ne V
    refine cmapf B G5 (Dg (p,x)) G5 (fun τ=>∃o,τ=[o,some (G5 ⟨p,x,t,w⟩)]) ⟨none,rfl⟩ Ab (seven (by omega)) (λI=>Ak (by rw [Bq,Ae oo];exact g)) ?_ ?_
    ·rintro k u τ' I W1 W2 hu ⟨o,rfl⟩ w1 w2
     have ph:∀x y:Nat,C0 (.tuple [.int (x:Nat),.int (y:Nat)]):=λx y=>⟨rfl,by simp [PyData.depth,PyData.depthAll]⟩
     refine⟨ph u.p u.x,ph p x,br (λc=>w1 ?_ _ ⟨_,rfl⟩) (λc=>w2 ?_ _ ⟨_,rfl⟩)⟩
     ·exact(Tr u ⟨p,x,t,w⟩).symm.trans c
     ·exact(Tr u ⟨p,x,t,w⟩).symm.trans c
    ·rw [Bq]
     refine Ad Ab (bj _ _ ⟨?_,by rw [Ae oo];exact g,by rw [Ae v3];exact L,M.new V,Q.new V⟩)
     rw [B_];rfl
   clear g L M Q
   rintro τ μ6 ⟨rfl,g,L,M,Q⟩
   have nxt:Z2 [some (.R a),some (.R b),some (.D (.int J)),some (.D (.int O)),some y,some (.D (.tuple (C.map Ho))),some (.R d),some (.D (.int (G:Nat))),some (G5 ⟨p,x,t,w⟩),some (.D (.int (p:Nat))),some (.D (.int (x:Nat))),some (.D (.int (t:Nat))),some (.D (.int ((rgp B (p,x)).length:Nat)))] μ6:=hZ2 _ _ ⟨_,_,_,_,_,_,_,B,rfl,hB,kB,tB,g,L,M,Q⟩
   obtain⟨z,ez⟩:∃z,C[p]?=some z:=⟨_,M_ (by omega)⟩
   have ea:atI (C.map Ho) ((p:Nat):Int)=some (Ho z):=Bf (by rw [H_,ez];rfl)
   have eg:(C.map (·.2)).getD p 0=z.2:=by rw [YR,H_,ez];rfl
   have fin:B.length < 8->((C.map (·.2)).getD p 0=0\/(rgp B (p,x)).length < 2)->EX (VD Mi (Ji 6) (ER (Ji 8) IE)) Z2 (UB R) Z Z2 [some (.R a),some (.R b),some (.D (.int J)),some (.D (.int O)),some y,some (.D (.tuple (C.map Ho))),some (.R d),some (.D (.int (G:Nat))),some (G5 ⟨p,x,t,w⟩),some (.D (.int (p:Nat))),some (.D (.int (x:Nat))),some (.D (.int (t:Nat))),some (.D (.int ((rgp B (p,x)).length:Nat)))] μ6:=λh8 h2=>by
    refine⟨Ad g trivial,Ad g ⟨Ax (by rw [B_];omega),hZ2 _ _ ⟨_,_,_,_,_,_,_,B++[⟨p,x,t,w⟩],rfl,by rw [I_];show B.length+1<=_;exact bW h8,λr T=>?_,EB tB h2,by rw [Ab,S_];rfl,by rw [Ae hwr];exact L,M.other U.1 U.2,Q.put hr0⟩⟩⟩
    rcases O_.mp T with h | h
    ·exact kB r h
    ·rw [P_.mp h];exact kr
   refine Ad rfl (Ad (Ak g) (Ad (Tq B) ⟨EA _,Zb B,br (λc=>?_) (λc=>Uk rfl nxt)⟩))
   refine Ad g (dif (λc8=>?_) (λ_=>Uk rfl nxt))
   have c8:B.length < 8:=by
    have c8:(((B.map G5).length:Nat):Int) < 8:=c8
    rw [B_]at c8;omega
   refine Ad ea (Ad (x:=PyData.int (z.2:Nat)) (Bf (j:=1) rfl) (ieq (λc2=>Nz rfl (fin c8 (.inl ?_))) (λc2=>dif (λc3=>fin c8 (.inr ?_)) (λ_=>nxt))))
   ·rw [eg];omega
   ·omega
  ·rintro τ μ6 ⟨o4,o7,o8,o9,ft,fq,j8,B,rfl,hB,kB,tB,g,L,M,Q⟩
   exact hZ _ _ ⟨_,_,_,_,_,_,_,B,rfl,hB,kB,tB,g,L,M,Q⟩
 rintro τ μ4 ⟨o4,o7,o8,o9,ft,fq,j8,B,rfl,hB,kB,tB,r4,e4,P4,S4⟩
 obtain⟨ys,ey,hys⟩:=RG hz mm
 refine Ad (Ak e4) λpc fx=>?_
 rw [ey]
 have vd:d≠pc:=by rintro rfl;rw [r4]at fx;cases fx
 have hnc:=P4.ne fx
 refine Ad (Ak Ab) (Ad (Ka ys) (Ad (Ak (by rw [Ae vd];exact r4)) (Ad (Tq B) ⟨_,Sub.refl,q ⟨C,ys,B⟩ _ ⟨?_,?_,?_,?_,hB,?_,hh,tB⟩ (P4.other hnc.1 hnc.2) (S4.new fx)⟩)))
 ·show 0 < C.length;omega
 ·show C.length<=3;omega
 ·show 0 < ys.length;omega
 ·show ys.length<=3;omega
 ·rw [io,hys];exact kB
theorem LF:∀b:_root_.Fin 32,bts (B9 b.val)=b.val:=by decide +kernel
theorem Ts{y:Pr}(h:y.2 < 32):psi (phi y)=y:=gM rfl (LF ⟨y.2,h⟩)
theorem LG{p r:Pq}(h:Nh p=Nh r):p=r:=by
 obtain⟨a,b⟩:=p
 obtain⟨c,d⟩:=r
 unfold Nh Ba at h
 injection h with h
 injection h with h1 h
 injection h with h2 h
 injection h1 with h1
 injection h2 with h2
 have h1:=Fh h1
 have h2:=bA h2
 dsimp only at h1 h2
 rw [h1,h2]
def Rr(A:List Ar)(E:List Pq)(r:Rq):Prop:=E.length<=144/\∀p,p∈E↔p∈lrd A r.q r.w
structure AsOk(A:List Ar):Prop where
 n:A.length<=8
 a:∀a∈A,AOk 5 a
theorem AsOk.c9{A:List Ar}(h:AsOk A):∀a∈A,a.c<=9:=λa ha=>ZH (h.a a ha).c
theorem AsOk.t5{A:List Ar}(h:AsOk A):∀a∈A,∀t∈a.ts,t < 5:=λa ha=>(h.a a ha).t
theorem Iv{A:List Ar}(h:AsOk A){r:Rq}(hq:r.q < 5)(p:Pq):p∈lrd A r.q r.w↔∃y∈rdg A r.q r.w,p=phi y:=by
 rw [<- DV hq h.a r.w,D_]
 exact⟨λ⟨y,a,b⟩=>⟨y,a,b.symm⟩,λ⟨y,a,b⟩=>⟨y,a,b.symm⟩⟩
theorem LH{A:List Ar}(h:AsOk A){E:List Pq}{r:Rq}(hq:r.q < 5)(a:Rr A E r):J9 (E.map psi) (rdg A r.q r.w):=λz=>by
 rw [D_]
 constructor
 ·rintro⟨p,hp,rfl⟩
  obtain⟨y,hy,rfl⟩:=(Iv h hq p).mp ((a.2 p).mp hp)
  rw [Ts (O9 h.c9 h.t5 hq y hy).2];exact hy
 ·exact λhz=>⟨phi z,(a.2 _).mpr ((Iv h hq _).mpr ⟨z,hz,rfl⟩),Ts (O9 h.c9 h.t5 hq z hz).2⟩
theorem Zc{A:List Ar}(h:AsOk A):∀{Es:List (List Pq)} {rk:List Rq},Paired (Rr A) Es rk->(∀r∈rk,r.q < 5)->Paired J9 (Es.map λE=>E.map psi) (rk.map λr=>rdg A r.q r.w)
 | _,_,.nil,_=>.nil
 | _,_,.cons r t,hq=>.cons (LH h (hq _ (.head _)) r) (Zc h t λb a=>hq b (.tail _ a))
theorem Pl{A:List Ar}(h:AsOk A):∀{Es:List (List Pq)} {rk:List Rq},Paired (Rr A) Es rk->(∀r∈rk,r.q < 5)->∀p,p∈Es.flatten↔∃y∈(rk.map λr=>rdg A r.q r.w).flatten,p=phi y
 | _,_,.nil,_,p=>⟨(λz=>nomatch z),(λ⟨_,z,_⟩=>nomatch z)⟩
 | _,_,.cons (a:=E) (b:=r) m t,hq,p=>by
  rw [cX,O_,m.2 p,Iv h (hq _ (.head _)),Pl h t (λd c=>hq d (.tail _ c)) p,XY,cX]
  constructor
  ·rintro(⟨y,h1,h2⟩ | ⟨y,h1,h2⟩)
   ·exact⟨y,ZP _ h1,h2⟩
   ·exact⟨y,YK _ h1,h2⟩
  ·rintro⟨y,h1,h2⟩
   rcases O_.mp h1 with h1 | h1
   ·exact .inl ⟨y,h1,h2⟩
   ·exact .inr ⟨y,h1,h2⟩
theorem EC{A:List Ar}(h:AsOk A){Es:List (List Pq)}{rk:List Rq}(hp:Paired (Rr A) Es rk)(hq:∀r∈rk,r.q < 5)(p:Pq):p∈(chs Es).map (λr=>(uni r,mxc r))↔∃y∈cho (rk.map λr=>rdg A r.q r.w),p=phi y:=by
 have b:=Th (Zc h hp hq)
 rw [Tk]at b
 have c:∀r:List Pq,(uni r,mxc r)=phi (Psi r):=λr=>by
  show _=(B9 (Psi r).2,(Psi r).1)
  rw [GF,GE]
 rw [D_]
 constructor
 ·rintro⟨r,a,rfl⟩
  exact⟨Psi r,(b _).mp (D_.mpr ⟨r,a,rfl⟩),c r⟩
 ·rintro⟨y,hy,rfl⟩
  obtain⟨r,a,rfl⟩:=D_.mp ((b y).mpr hy)
  exact⟨r,a,c r⟩
theorem Pn:∀(Gs:List (List Pr)) (n:Nat),(∀G∈Gs,G.length<=144)->Gs.foldl (λn G=>n * G.length) n<=n * 144 ^ Gs.length
 | [],n,_=>by simp
 | G :: Gs,n,h=>by
  rw [ZE,YA,Nat.pow_succ]
  refine G_ (Pn Gs _ λa b=>h a (.tail _ b)) ?_
  rw [Nat.mul_comm (144 ^ _) 144,<- Nat.mul_assoc]
  exact eL _ (Nat.mul_le_mul_left _ (h G (.head _)))
theorem Tt{Es:List (List Pq)}(h2:Es.length<=2)(h:∀E∈Es,E.length<=144):(chs Es).length<=20736:=by
 rw [Nk]
 refine G_ (Pn _ 1 λG b=>?_) ?_
 ·obtain⟨E,a,rfl⟩:=D_.mp b
  rw [B_];exact h E a
 ·rw [B_,Nat.one_mul]
  exact G_ (Nat.pow_le_pow_right (by decide) h2) (by decide)
theorem Kd:∀{Es:List (List Pq)},(∀E∈Es,E.length<=144)->Es.flatten.length<=144 * Es.length
 | [],_=>E_ _
 | E :: Es,h=>by
  have h1:=h E (.head _)
  have h2:=Kd (Es:=Es) λa b=>h a (.tail _ b)
  rw [cX,I_,YA];omega
theorem Rs{α β:Type}{F:α->β->Prop}:∀{xs:List α} {ys:List β},Paired F xs ys->∀x∈xs,∃y∈ys,F x y
 | _,_,.nil,_,h=>nomatch h
 | _,_,.cons r t,x,h=>by
  rcases XJ.mp h with rfl | h
  ·exact⟨_,.head _,r⟩
  ·obtain⟨y,hy,e⟩:=Rs t x h
   exact⟨y,.tail _ hy,e⟩
theorem ED{A:List Ar}(h:AsOk A)(s:Nat)(w:List Nat):(lrd A s w).length<=144:=by
 cases w with
 | nil=>show 1<=144;decide
 | cons x v =>
  have c:∀B:List Ar,(∀a∈B,AOk 5 a)->(B.flatMap (Gh A s (x :: v))).length<=18 * B.length:=by
   intro B
   induction B with
   | nil=>intro _;exact E_ _
   | cons b B e =>
    intro d
    have h1:=e λa h=>d a (.tail _ h)
    have h2:=Tn (A:=A) h.n (s:=s) (w:=x :: v) (a:=b) ((d b (.head _)).u.imp λh=>W_ h)
    rw [aZ,I_,YA];omega
  have:=c A h.a
  have:=h.n
  show(A.flatMap (Gh A s (x :: v))).length<=144
  omega
def SB(k:Nat×Nat)(y:Pr):Ar:=⟨k.1,k.2,B9 y.2,y.1+1⟩
def Tu(g:Gq)(A:List Ar)(Q:Nat×Nat->Prop)(B:List Ar):Prop:=∀a,a∈B↔∃k,Q k/\rgp g.rs k≠[]/\∃y∈flw g A k,a=SB k y
theorem Rt{A:List Rq}{k:Nat×Nat}(h:rgp A k≠[]):∃r∈A,k=(r.p,r.x):=by
 obtain⟨r,h2⟩:=cP _ h
 obtain⟨b,a⟩:=YU.mp h2
 unfold Dg at a
 rw [ZC,aE,aE]at a
 exact⟨r,b,gM a.1.symm a.2.symm⟩
theorem RN{g:Gq}{A:List Ar}(j:GqL g)(h:AsOk A){k:Nat×Nat}{y:Pr}(hy:y∈flw g A k):y.1<=18/\y.2 < 32:=by
 have c:∀G∈ME g A k,∀p∈G,p.1<=18/\p.2 < 32:=λG c p hp=>by
  unfold ME at c
  obtain⟨r,d,rfl⟩:=D_.mp c
  have d:=j.ok r (YU.mp d).1
  have:=d.q
  have:=j.p3
  exact O9 h.c9 h.t5 (by omega) p hp
 unfold flw at hy
 split at hy
 ·have i:∀(Gs:List (List Pr)) (F:List Pr),(∀G∈Gs,∀p∈G,p.1<=18/\p.2 < 32)->(∀p∈F,p.1<=18/\p.2 < 32)->∀p∈List.foldl (λF G=>F.flatMap λp=>G.map (ewe p)) F Gs,p.1<=18/\p.2 < 32:=by
   intro Gs
   induction Gs with
   | nil=>intro F _ e;exact e
   | cons G Gs l =>
    intro F c e
    rw [ZE]
    refine l _ (λs m=>c s (.tail _ m)) λp hp=>?_
    obtain⟨y,h1,h2⟩:=ZG.mp hp
    obtain⟨o,t,rfl⟩:=D_.mp h2
    have a:=e y h1
    have b:=c G (.head _) o t
    exact⟨Nat.max_le.mpr ⟨a.1,b.1⟩,fZ (n:=5) a.2 b.2⟩
  exact i _ [(0,0)] c (λp hp=>by rw [P_.mp hp];exact⟨by decide,by decide⟩) y hy
 ·obtain⟨G,h1,h2⟩:=List.mem_flatten.mp hy
  exact c G h1 y h2
theorem Zd{α β:Type}{n:Nat}{f:α->List β}:∀{l:List α},(∀a∈l,(f a).length<=n)->(l.flatMap f).length<=n * l.length
 | [],_=>E_ _
 | a :: l,h=>by
  have h1:=h a (.head _)
  have h2:=Zd (l:=l) λb hb=>h b (.tail _ hb)
  rw [aZ,I_,YA,Nat.mul_succ];omega
def Hr(g:Gq):List iX:=g.rs.flatMap λr=>(List.range 19).flatMap λc=>(List.range 32).map λb=>Dj (SB (r.p,r.x) (c,b))
theorem Ke{g:Gq}(a:GqL g):(Hr g).length<=4864:=by
 have:=a.r8
 refine G_ (Zd (n:=608) λr _=>?_) (by omega)
 refine G_ (Zd (n:=32) λc _=>?_) ?_
 ·rw [B_,ZK];exact E_ _
 ·rw [ZK];decide
theorem Tv{g:Gq}{A:List Ar}(b:GqL g)(h:AsOk A){k:Nat×Nat}(hk:rgp g.rs k≠[]){y:Pr}(hy:y∈flw g A k):Dj (SB k y)∈Hr g:=by
 obtain⟨r,a,rfl⟩:=Rt hk
 have hb:=RN b h hy
 exact ZG.mpr ⟨r,a,ZG.mpr ⟨y.1,XZ.mpr (by omega),D_.mpr ⟨y.2,XZ.mpr hb.2,rfl⟩⟩⟩
theorem EE{g:Gq}{A:List Ar}(i:GqL g)(h:AsOk A){Q:Nat×Nat->Prop}{B:List Ar}(j:Tu g A Q B):TOkB (B.map Dj):=by
 refine⟨λys hn l=>?_,λd c=>?_,λd c=>?_,λd c e he=>?_⟩
 ·have:=Df hn (ys:=Hr g) λd c=>by
   obtain⟨a,ha,rfl⟩:=D_.mp (l d c)
   obtain⟨k,_,hk,y,hy,rfl⟩:=(j a).mp ha
   exact Tv i h hk hy
  have:=Ke i
  omega
 ·obtain⟨a,ha,rfl⟩:=D_.mp c
  exact Rn a
 ·obtain⟨a,ha,rfl⟩:=D_.mp c
  exact⟨_,_,rfl⟩
 ·obtain⟨a,ha,rfl⟩:=D_.mp c
  obtain⟨b,hb,rfl⟩:=D_.mp he
  exact Y0 a b
abbrev SC:List Str:=["_law_game_here","_law_arrows_here","_law_found","_law_place","_law_top","_law_some_here","_law_pairs","_law_told"]
theorem Po:FnScope SC ["_law_game_here","_law_arrows_here"] (Ag DB):=⟨rfl,rfl,rfl,by decide +kernel,rfl,by decide +kernel,by decide +kernel⟩
theorem RO:(["_law_rule","_law_arrows_here","_law_place","_law_top"]:List Str).Nodup:=by decide +kernel
theorem RP:(["_law_row"]:List Str).Nodup:=by decide +kernel
theorem GG:(["_law_targets","_law_cost","_law_place","_law_top"]:List Str).Nodup:=by decide +kernel
def LI:ASp:=λc μ R=>∃(g:Gq) (A:List Ar),c=[.D (Nd g),.D (.tuple (A.map Dj))]/\GqL g/\AsOk A/\∀(es:List iX) (l:iY) μ',es.Pairwise (λa b=>E5 a b=true)->(∀v,v∈es↔∃k,rgp g.rs k≠[]/\∃y∈flw g A k,v=Dj (SB k y))->μ' l=some (.lst (es.map .D))->Sub μ μ'->R (.R l) μ'
theorem RQ{n:Nat}(F:Fun K "_law_due" "_law_due" DB f fd) (cAl:VCal P w K mg base n "_law_all_read" ["_law_arrows_here","_law_stand","_law_w"] RB) (cCh:VCal P w K mg base n "_law_choices" ["_law_some_here"] KQ) (zj:VCal P w K mg base n "_law_put" ["_law_pairs"] KW) (ai:mg "range" = none) (am:mg "len" = none) (ah:mg "sorted" = none) (bg:mg "set" = none):FnOk P w K mg base Fk (n+1) f fd ["_law_game_here","_law_arrows_here"] (Hw K 2 LI):=by
 refine F.vok Po λba A outer s H E U=>⟨_,(Af (Aq (i:=2) Po.nd rfl (Or.inl rfl) (Bd Ac))
   (Af (Bo XX rfl (B4 rfl ai (Aa (A8 D4 rfl am Z_ (Aa (Bj Ce (vv 0) Ah) Ac)) Ac)) (Aj (i:=3) Po.nd rfl (Or.inr rfl)) (Ai (Bo XX rfl (B4 rfl ai (Aa (A8 D4 rfl am Z_ (Aa (Bj Ce (vv 0) Ah) Ac)) Ac)) (Aj (i:=4) Po.nd rfl (Or.inr rfl)) (Af (Fg (i:=5) (N':=["_law_rule","_law_arrows_here","_law_place","_law_top"]) (mp:=[none,some 1,some 3,some 4]) rfl Po.nd rfl rfl (A7 (Bj Ce (vv 0) Ah)) (λ_ _ _ _=>(Aj (i:=0) RO rfl (Or.inl rfl) (Or.inr rfl))) (λ_ _ _ _=>(Dr (Bh (E3 U) (Cf (vv 0) D3 (Cd Ah)) (Bc (Aa (vv 2) (Aa (vv 3) Ac))) (nomark _)))) (λ_ _ _ _=>(An cAl U rfl (Aa (vv 1) (Aa (Bj Ce (vv 0) Ah) (Aa (Bj Ce (vv 0) Ah) Ac))))) (Av (N:=SC) (pn:=(Ag DB).names) (by decide +kernel)))
   (Af (Aq (i:=6) Po.nd rfl (Or.inl rfl) (Bd Ac))
   (Af (D6 (Bh (E3 U) (Bj Ce (Bj Ce (Bj Ce (vv 0) Ah) (vv 3)) Ah) Ah (nomark _)) (Ai (Bo XX rfl (A7 (vv 5)) (Aj (i:=7) Po.nd rfl (Or.inl rfl)) (Ai (Bk (Db aK aL Ek (vv 6) (Aa (vv 7) Ac)))))) (Ai (D6 (Bh IH (A8 D4 rfl am Z_ (Aa (vv 5) Ac)) Ah (nomark _)) (Ai (Fg (i:=6) (N':=["_law_row"]) (mp:=[none]) rfl Po.nd rfl rfl (A7 (An cCh U rfl (Aa (vv 5) Ac))) (λ_ _ _ _=>(Aj (i:=0) RP rfl (Or.inl rfl) (Or.inr rfl))) (λ_ _ _ _=>Bw) (λ_ _ _ _=>(An zj U rfl (Aa (vv 0) Ac))) (Av (N:=SC) (pn:=(Ag DB).names) (by decide +kernel)))) Cs)))
   (Ai (Bk (Db aK aL Ek (vv 2) (Aa (Bl (N':=["_law_targets","_law_cost","_law_place","_law_top"]) (mp:=[none,none,some 3,some 4]) rfl (A7 (vv 6)) (λ_ _ _ _=>(Dh (n:=2) rfl (Ap (Aj (i:=0) GG rfl (Or.inl rfl) (Or.inr rfl)) (Ap (Aj (i:=1) GG rfl (Or.inl rfl) (Or.inr rfl)) B8)))) (λ_ _ _ _=>Bw) (λ_ _ _ _=>(Bc (Aa (vv 2) (Aa (vv 3) (Aa (vv 0) (Aa (A4 Ck Ah (vv 1)) Ac)))))) (Av (N:=SC) (pn:=(Ag DB).names) (by decide +kernel))) Ac))))))))))
   (Ai (Be (O2 U rfl ah rfl bg (vv 2)))))),?_⟩
 rintro xs μ R _ ⟨g,A,rfl,hg,hA,q⟩
 have iz:=hg.p3
 have mm:=hg.l3
 have v7:=hg.r8
 have hq5:∀k,∀r∈rgp g.rs k,r.q < 5:=λk r U=>by
  have:=(hg.ok r (YU.mp U).1).q
  omega
 have itR:∀ ν:M,items ν (.D (.tuple (g.rs.map Nc)))=some (g.rs.map G5):=fun ν=>by show some ((g.rs.map Nc).map AV.D)=_;rw [XV];rfl
 intro J fh
 refine A6 (fun τ μ'=>∃o3 o4 o5 X O,∃B:List Ar,τ=[some (.D (Nd g)),some (.D (.tuple (A.map Dj))),some (.R J),o3,o4,o5,X,O]/\μ' J=some (.lst (B.map Hn))/\Tu g A (λk=>k.1 < g.pl.length) B/\Sub μ μ') (λZ hZ=>?_) ?_
 ·refine Ad (x:=PyData.tuple (g.pl.map Ho)) rfl ⟨?_,?_,?_⟩
  ·show -2 ^ 62<=(((g.pl.map Ho).length:Nat):Int);omega
  ·show(((g.pl.map Ho).length:Nat):Int) < 2 ^ 62;rw [B_];omega
  have ae:(Ea 0 (((g.pl.map Ho).length:Nat):Int).toNat).length=g.pl.length:=by rw [A5,B_];omega
  refine Cl (λi τ μ'=>∃o3 o4 o5 X O,∃B:List Ar,τ=[some (.D (Nd g)),some (.D (.tuple (A.map Dj))),some (.R J),o3,o4,o5,X,O]/\μ' J=some (.lst (B.map Hn))/\B.length<=30000 * (3 * i)/\Tu g A (λk=>k.1 < i) B/\Sub μ μ') ⟨none,none,none,none,none,[],rfl,Ab,E_ _,λa=>⟨(λh=>nomatch h),λ⟨_,h,_⟩=>absurd h (b_ _)⟩,Sub.refl.new fh⟩ (λ_ _ _ _=>trivial) ?_ ?_
  ·rintro i v τ μ1 Z2 hv ⟨o3,o4,o5,X,O,B,rfl,e1,hB,kB,S1⟩ hZ2
   have hi:i < g.pl.length:=by rw [<- ae];exact(F_.mp hv).1
   have ev:=Dd _ _ _ hv
   rw [fY]at ev
   subst ev
   refine Ad (x:=PyData.tuple (g.le.map .str)) (Bf (j:=1) rfl) ⟨?_,?_,?_⟩
   ·show -2 ^ 62<=(((g.le.map PyData.str).length:Nat):Int);omega
   ·show(((g.le.map PyData.str).length:Nat):Int) < 2 ^ 62;rw [B_];omega
   have gx:(Ea 0 (((g.le.map PyData.str).length:Nat):Int).toNat).length=g.le.length:=by rw [A5,B_];omega
   refine Cl (λj τ μ'=>∃o4 o5 X O,∃B:List Ar,τ=[some (.D (Nd g)),some (.D (.tuple (A.map Dj))),some (.R J),some (.D (.int i)),o4,o5,X,O]/\μ' J=some (.lst (B.map Hn))/\B.length<=30000 * (3 * i+j)/\Tu g A (λk=>k.1 < i\/(k.1=i/\k.2 < j)) B/\Sub μ μ') ⟨o4,o5,X,O,B,rfl,e1,hB,λa=>(kB a).trans ⟨λ⟨k,h,r⟩=>⟨k,.inl h,r⟩,λ⟨k,h,r⟩=>⟨k,h.elim id λh=>absurd h.2 (b_ _),r⟩⟩,S1⟩ (λ_ _ _ _=>trivial) ?_ ?_
   ·clear e1 hB kB S1
    rintro j v τ μ1 Z3 hv2 ⟨o4,o5,X,O,B,rfl,e1,hB,kB,S1⟩ bj
    have hj:j < g.le.length:=by rw [<- gx];exact(F_.mp hv2).1
    have ev:=Dd _ _ _ hv2
    rw [fY]at ev
    subst ev
    have jh:(rgp g.rs (i,j)).length<=8:=G_ (ZM _ _) v7
    refine A6 (fun τ μ'=>∃T,∃C:Ls,τ=[some (.D (Nd g)),some (.D (.tuple (A.map Dj))),some (.R J),some (.D (.int i)),some (.D (.int j)),some (.R T),X,O]/\μ' T=some (.lst (Ez C))/\Cp μ' C/\Paired (Rr A) (C.map (·.2)) (rgp g.rs (i,j))/\μ' J=some (.lst (B.map Hn))/\T≠J/\(∀e∈C,e.1≠J)/\Sub μ μ') (λZ4 jd=>?_) ?_
    ·refine Ad (x:=PyData.tuple (g.rs.map Nc)) (Bf (j:=2) rfl) (Ad (itR _) λT hpl=>?_)
     have v9:J≠T:=by rintro rfl;rw [e1]at hpl;cases hpl
     refine Di (λm I τ' μ'=>∃o,∃C:Ls,τ'=[o,some (.D (.tuple (A.map Dj))),some (.D (.int i)),some (.D (.int j))]/\I=Ez C/\C.length<=m/\Cp μ' C/\(∀e∈C,e.1≠T/\e.1≠J)/\Paired (Rr A) (C.map (·.2)) (rgp (g.rs.take m) (i,j))/\μ' T=some (.lst I)/\μ' J=some (.lst (B.map Hn))/\Sub μ μ') ⟨none,[],rfl,rfl,XQ _,(λ_ h=>nomatch h),(λ_ h=>nomatch h),.nil,Ab,by rw [Ae v9];exact e1,Fi S1 hpl⟩ (λ_ _ _ _ _=>itR _) ?_ ?_
     ·rintro m v I τ' μ2 W L ⟨o,C,rfl,rfl,cr,hE,al,d5,e2,f2,V⟩ hW
      rw [H_]at L
      obtain⟨r,lj,rfl⟩:=K_.mp L
      have j6:=XO lj
      have hm8:=(F_.mp lj).1
      have bo:rgp (g.rs.take (m+1)) (i,j)=rgp (g.rs.take m) (i,j)++(if Dg (i,j) r then [r] else []):=by rw [YC,lj];exact G6 _ _ _
      have kr:=hg.ok r j6
      have yg:r.q < 5:=by have:=kr.q;omega
      have et:PyData.eqv (.tuple [.int (r.p:Nat),.int (r.x:Nat)]) (.tuple [.int (i:Nat),.int (j:Nat)])=Dg (i,j) r:=Is _ _ _ _
      refine⟨Ed r.p r.x,Ed i j,br (λc=>?_) (λc=>hW _ _ _ ⟨_,C,rfl,rfl,YX cr,hE,al,?_,e2,f2,V⟩)⟩
      ·have hT:Dg (i,j) r=true:=et.symm.trans c
       refine Ad (x:=PyData.int (r.q:Nat)) (Bf (j:=2) rfl) (Ad (x:=Ba r.w) (Bf (j:=3) rfl) ⟨A,r.q,r.w,rfl,hA.n,yg,kr.w,hA.a,λnu l μ3 hm iu hl e3 S=>?_⟩)
       obtain⟨Es,rfl,_,hEs⟩:=unmap λd hd=>(hm d).mp hd
       have md:l≠T:=by rintro rfl;rw [e2]at hl;cases hl
       have lpf:l≠J:=by rintro rfl;rw [f2]at hl;cases hl
       have hnd:(Es.map Nh).Nodup:=iu.imp_of_mem λ{a b} ha _ hlt e=>by
        subst e
        obtain⟨p,_,rfl⟩:=D_.mp ha
        rw [Fm _ (Y3 p).1]at hlt;cases hlt
       have hML:Rr A Es r:=by
        refine⟨?_,λp=>⟨λh=>hEs p h,λh=>?_⟩⟩
        ·have:=Df hnd λd hd=>(hm d).mp hd
         rw [B_,B_]at this
         exact G_ this (ED hA _ _)
        ·obtain⟨p',bf,e⟩:=D_.mp ((hm (Nh p)).mpr (D_.mpr ⟨p,h,rfl⟩))
         rw [<- LG e];exact bf
       have e3':μ3 l=some (.lst (Es.map Gg)):=by rw [e3,XV];rfl
       refine⟨S _ _ e2,Ax (by show(C.map _).length<=_;rw [B_];omega),hW _ _ _ ⟨_,C++[(l,Es)],rfl,by unfold Ez;rw [S_];rfl,by rw [I_];show C.length+1<=_;exact bD cr,?_,λe he=>?_,?_,Ab,by rw [Ae v9];exact S _ _ f2,(Cc V S).new (S1.none hpl)⟩⟩
       ·refine Cp.put ((hE.sub S).snoc e3') λe he=>?_
        rcases O_.mp he with he | he
        ·exact(al e he).1
        ·rw [P_.mp he];exact md
       ·rcases O_.mp he with he | he
        ·exact al e he
        ·rw [P_.mp he];exact⟨md,lpf⟩
       ·rw [bo,hT,Q_ rfl,S_]
        exact iA d5 hML
      ·have hT:Dg (i,j) r=false:=et.symm.trans c
       rw [bo,hT,J_ L_,aG];exact d5
     ·rintro I τ' μ2 ⟨o,C,rfl,rfl,cr,hE,al,d5,e2,f2,V⟩
      rw [B_,YB]at d5
      exact jd _ _ ⟨T,C,rfl,e2,hE,d5,f2,v9.symm,λe he=>(al e he).2,V⟩
    clear e1 S1
    rintro τ μ2 ⟨T,C,rfl,e2,hE,d5,f2,v9,hef,V⟩
    have cr:C.length=(rgp g.rs (i,j)).length:=by
     have:=aB d5
     rwa [B_]at this
    have gr:∀E∈C.map (·.2),E.length<=144:=λE h=>by
     obtain⟨r,_,U⟩:=Rs d5 E h
     exact U.1
    have hk5:=hq5 (i,j)
    have ml:hnd g (i,j)=(g.pl[i]).2:=by
     unfold hnd
     rw [YR,H_,M_ hi];rfl
    have kd:atI (g.pl.map Ho) ((i:Nat):Int)=some (Ho g.pl[i]):=Bf (by rw [H_,M_ hi];rfl)
    have hh2:(g.pl[i]).2 < 2:=hg.h2 _ (bC hi)
    generalize g.pl[i]=pp at ml kd hh2
    intro Y ig
    have ye:J≠Y:=by rintro rfl;rw [f2]at ig;cases ig
    have p0l:T≠Y:=by rintro rfl;rw [e2]at ig;cases ig
    have S:Sub μ2 (Al μ2 Y (.lst [])):=Sub.refl.new ig
    have z3:Al μ2 Y (.lst []) Y=some (.lst []):=Ab
    have p00:μ Y=none:=V.none ig
    have zb3:∀e∈C,e.1≠Y:=hE.ne ig
    generalize Al μ2 Y (.lst [])=μ3 at S z3
    refine A6 (fun τ μ'=>∃O p6,∃ps:List Pq,τ=[some (.D (Nd g)),some (.D (.tuple (A.map Dj))),some (.R J),some (.D (.int i)),some (.D (.int j)),some (.R T),some (.R p6),O]/\μ' p6=some (.lst (ps.map Gg))/\(∀p,p∈ps↔rgp g.rs (i,j)≠[]/\∃y∈flw g A (i,j),p=phi y)/\ps.length<=30000/\p6≠J/\μ' J=some (.lst (B.map Hn))/\Sub μ μ') (λZ4 jd=>?_) ?_
    ·refine Ad (x:=PyData.tuple (g.pl.map Ho)) (Bf (j:=0) rfl) (Ad kd (Ad (x:=PyData.int (pp.2:Nat)) (Bf (j:=1) rfl) (ieq (λc=>?_) (λc=>?_))))
     ·refine Ad (Ak (S _ _ e2)) ?_
      refine Cl (λm τ μ'=>∃O,τ=[some (.D (Nd g)),some (.D (.tuple (A.map Dj))),some (.R J),some (.D (.int i)),some (.D (.int j)),some (.R T),some (.R Y),O]/\μ' Y=some (.lst ((((C.map (·.2)).take m).flatten).map Gg))/\Cp μ' C/\μ' T=some (.lst (Ez C))/\μ' J=some (.lst (B.map Hn))/\Sub μ μ') ⟨O,rfl,z3,hE.sub S,S _ _ e2,S _ _ f2,Cc V S⟩ (λ_ _ _ ⟨_,_,_,_,e,_⟩=>Ak e) ?_ ?_
      ·rintro m v τ μ4 Z5 L ⟨O,rfl,z4,hE4,e4,f4,S4⟩ hZ5
       unfold Ez at L
       rw [H_]at L
       obtain⟨e,he,rfl⟩:=K_.mp L
       have pi:=XO he
       have hm:=(F_.mp he).1
       have bo:((C.map (·.2)).take (m+1)).flatten=((C.map (·.2)).take m).flatten++e.2:=by rw [YC,H_,he,List.flatten_append];simp
       have h1:=Kd (Es:=(C.map (·.2)).take m) λE h=>gr E (aD h)
       have h2:=gr e.2 (D_.mpr ⟨e,pi,rfl⟩)
       rw [X_]at h1
       refine⟨Ad z4 trivial,Ad z4 (Ad (hE4 e pi) ⟨YM (Zi (by rw [B_,B_];omega)),hZ5 _ _ ⟨_,rfl,by rw [Ab,bo,S_],hE4.put zb3,by rw [Ae p0l];exact e4,by rw [Ae ye];exact f4,Dn S4 p00⟩⟩)⟩
      ·rintro τ μ4 ⟨O,rfl,z4,hE4,e4,f4,S4⟩
       have ht:(C.map (·.2)).take (Ez C).length=C.map (·.2):=by unfold Ez;rw [B_,<- B_ (f:=(·.2)),YB]
       rw [ht]at z4
       have h1:=Kd gr
       rw [B_]at h1
       refine jd _ _ ⟨_,Y,_,rfl,z4,λp=>?_,by omega,ye.symm,f4,S4⟩
       rw [Pl hA d5 hk5 p]
       unfold flw
       rw [J_ (by rw [ml];omega)]
       refine⟨λ⟨y,h1,h2⟩=>⟨λz=>?_,y,h1,h2⟩,λ⟨_,h⟩=>h⟩
       rw [z]at h1;cases h1
     ·have fo:pp.2=1:=by omega
      have zaj:C.length<=2:=by rw [cr];exact hg.two (i,j) (by rw [ml,fo];decide)
      refine Ad (S _ _ e2) (dif (λc2=>?_) (λc2=>?_))
      ·have v6:rgp g.rs (i,j)≠[]:=λz=>by
        have c2:(0:Int) < (((Ez C).length:Nat):Int):=c2
        unfold Ez at c2
        rw [z]at cr
        rw [B_,cr]at c2
        exact absurd c2 (by decide)
       refine⟨.R T,C,rfl,Ak (S _ _ e2),hE.sub S,by omega,λm=>?_,λrs l μ5 hrs hR hrn hl e5 S5=>Ad (Ak e5) λp6 ng=>?_⟩
       ·exact G_ (Tt (by rw [X_,B_];omega) λE h=>gr E (aD h)) (by decide)
       have h20:=Tt (Es:=C.map (·.2)) (by rw [B_];exact zaj) gr
       rw [<- hrs,B_]at h20
       have f5:=S5 _ _ (S _ _ f2)
       have S05:=Cc (Cc V S) S5
       have p6l:l≠p6:=by rintro rfl;rw [e5]at ng;cases ng
       have wj:J≠p6:=by rintro rfl;rw [f5]at ng;cases ng
       have hr6:=hR.ne ng
       refine Di (λm I τ' μ'=>∃o,τ'=[o]/\I=(rs.take m).map (λr=>Gg (uni r.2,mxc r.2))/\Cp μ' rs/\μ' p6=some (.lst I)/\μ' l=some (.lst (Ez rs))/\μ' J=some (.lst (B.map Hn))/\Sub μ μ') ⟨none,rfl,rfl,hR.put hr6,Ab,by rw [Ae p6l];exact e5,by rw [Ae wj];exact f5,Fi S05 ng⟩ (λ_ _ _ _ ⟨_,_,_,_,_,e,_⟩=>Ak e) ?_ ?_
       ·rintro m v I τ' μ6 W L ⟨o,rfl,rfl,hR6,e6,l6,f6,S6⟩ hW
        unfold Ez at L
        rw [H_]at L
        obtain⟨⟨pr,r⟩,U,rfl⟩:=K_.mp L
        have j6:=XO U
        have hm:=(F_.mp U).1
        have vd:r∈chs (C.map (·.2)):=by rw [<- hrs];exact D_.mpr ⟨_,j6,rfl⟩
        obtain⟨gt,wv⟩:=Tl (Q:=λp=>p.1.length<=5/\∀t∈p.1,t < 5) (λG hG p hp=>by
         obtain⟨u,hu,hGu⟩:=Rs d5 G hG
         obtain⟨y,_,rfl⟩:=(Iv hA (hk5 u hu) p).mp ((hGu.2 p).mp hp)
         exact⟨G_ (ZM _ _) (by rw [ZK];exact E_ _),λt h=>XZ.mp (YU.mp h).1⟩) vd
        rw [B_]at gt
        refine Nz rfl ⟨pr,r,rfl,hR6 _ j6,by omega,wv,fun μ7 S7=>⟨S7 _ _ e6,Zi (by rw [B_,X_];omega),hW _ _ _ ⟨_,rfl,?_,(hR6.sub S7).put hr6,Ab,by rw [Ae p6l];exact S7 _ _ l6,by rw [Ae wj];exact S7 _ _ f6,(Cc S6 S7).new (S05.none ng)⟩⟩⟩
        rw [YC,U,S_];rfl
       ·rintro I τ' μ6 ⟨o,rfl,rfl,hR6,e6,l6,f6,S6⟩
        have ht:rs.take (Ez rs).length=rs:=by unfold Ez;rw [B_,YB]
        rw [ht]at e6
        refine jd _ _ ⟨_,p6,rs.map λr=>(uni r.2,mxc r.2),rfl,by rw [e6,XV];rfl,λp=>?_,by rw [B_];omega,wj.symm,f6,S6⟩
        have hU:(rs.map λr=>(uni r.2,mxc r.2))=(chs (C.map (·.2))).map λr=>(uni r,mxc r):=by rw [<- hrs,XV];rfl
        rw [hU,EC hA d5 hk5 p]
        unfold flw
        rw [Q_ (by rw [ml];exact fo)]
        exact⟨λh=>⟨v6,h⟩,λh=>h.2⟩
      ·have v6:rgp g.rs (i,j)=[]:=by
        have c2:¬(0:Int) < (((Ez C).length:Nat):Int):=c2
        unfold Ez at c2
        rw [B_,cr]at c2
        exact dH.mp (by omega)
       exact jd _ _ ⟨_,Y,[],rfl,z3,λp=>⟨(λh=>nomatch h),λh=>absurd v6 h.1⟩,XQ _,ye.symm,S _ _ f2,Cc V S⟩
    rintro τ μ4 ⟨o7',p6,ps,rfl,e4,io,hpl3,wj,f4,S4⟩
    refine⟨Ad f4 trivial,Ad (Ak e4) λpc fx=>?_⟩
    have c6:p6≠pc:=by rintro rfl;rw [e4]at fx;cases fx
    have cf:J≠pc:=by rintro rfl;rw [f4]at fx;cases fx
    refine cmap ps Gg (λp=>Hn ⟨i,j,p.1,1+p.2⟩) (fun τ=>∃o1 o2,τ=[o1,o2,some (.D (.int i)),some (.D (.int j))]) ⟨none,none,rfl⟩ Ab (YM (Zi (by omega))) (λI=>Ak (by rw [Bq,Ae c6];exact e4)) ?_ ?_
    ·rintro m p τ' I W hp ⟨o1,o2,rfl⟩ hW
     exact⟨rfl,Vl (hW _ ⟨_,_,rfl⟩)⟩
    rw [Bq]
    refine Ad (x:=MO.lst (B.map Hn)) (by rw [Ae cf];exact f4) (Ad Ab ⟨YM (Zi (by rw [B_,B_];omega)),bj _ _ ⟨_,_,_,_,B++ps.map λp=>⟨i,j,p.1,1+p.2⟩,rfl,by rw [Ab,S_,XV];rfl,by rw [I_,B_];omega,λa=>?_,Dn (Fi S4 fx) fh⟩⟩)
    rw [O_,kB a,D_]
    constructor
    ·rintro(⟨k,h,r⟩ | ⟨p,hp,rfl⟩)
     ·exact⟨k,by omega,r⟩
     ·obtain⟨h1,y,h2,rfl⟩:=(io p).mp hp
      refine⟨(i,j),.inr ⟨rfl,aJ _⟩,h1,y,h2,?_⟩
      show Ar.mk i j (B9 y.2) (1+y.1)=⟨i,j,B9 y.2,y.1+1⟩
      rw [gW]
    ·rintro⟨k,h,hk,y,hy,rfl⟩
     rcases(show(k.1 < i\/(k.1=i/\k.2 < j))\/(k.1=i/\k.2=j) by omega) with h | ⟨h1,h2⟩
     ·exact .inl ⟨k,h,hk,y,hy,rfl⟩
     ·have ek:k=(i,j):=gM h1 h2
      subst ek
      refine .inr ⟨phi y,(io _).mpr ⟨hk,y,hy,rfl⟩,?_⟩
      show Ar.mk i j (B9 y.2) (1+y.1)=⟨i,j,B9 y.2,y.1+1⟩
      rw [gW]
   ·rintro τ μ2 ⟨o4,o5,X,O,B,rfl,e2,hB2,kB2,V⟩
    rw [gx]at hB2 kB2
    refine hZ2 _ _ ⟨_,_,_,_,_,B,rfl,e2,by omega,λa=>(kB2 a).trans ⟨λ⟨k,h,r⟩=>⟨k,by omega,r⟩,λ⟨k,h,hk,r⟩=>⟨k,?_,hk,r⟩⟩,V⟩
    obtain⟨u,hu,rfl⟩:=Rt hk
    have:=(hg.ok u hu).x
    dsimp only at h ⊢
    omega
  ·rintro τ μ2 ⟨o3,o4,o5,X,O,B,rfl,e2,hB2,kB2,V⟩
   rw [ae]at kB2
   exact hZ _ _ ⟨_,_,_,_,_,B,rfl,e2,kB2,V⟩
 rintro τ μ1 ⟨o3,o4,o5,X,O,B,rfl,e1,kB,S1⟩
 refine Ad (Ak e1) (Ad (Ti B) ⟨EE hg hA kB,λC p hnd hm iu hp=>⟨_,Sub.refl,q C p _ iu (λv=>?_) Ab (Fi S1 hp)⟩⟩)
 rw [hm,D_]
 constructor
 ·rintro⟨a,ha,rfl⟩
  obtain⟨k,_,hk,y,hy,rfl⟩:=(kB a).mp ha
  exact⟨k,hk,y,hy,rfl⟩
 ·rintro⟨k,hk,y,hy,rfl⟩
  refine⟨_,(kB _).mpr ⟨k,?_,hk,y,hy,rfl⟩,rfl⟩
  obtain⟨u,hu,rfl⟩:=Rt hk
  exact(hg.ok u hu).p
structure Qk where
 g:Gq
 A:List Ar
def XH(z:Qk):iX:=.tuple [Nd z.g,.tuple (z.A.map Dj)]
def EF(z:Qk):AV:=.D (XH z)
structure QkOk(z:Qk):Prop where
 g:GqL z.g
 a:AsOk z.A
theorem EG{α:Type}(g:α->AV)(xs:List α)(lo b:Option Int):∃a:List α,Mb (xs.map g) lo b=a.map g/\a.length<=xs.length/\∀y∈a,y∈xs:=by
 refine⟨(xs.drop (HT.sIx (xs.map g).length 0 lo)).take (HT.sIx (xs.map g).length (xs.map g).length b - HT.sIx (xs.map g).length 0 lo),?_,?_,λy hy=>eJ (aD hy)⟩
 ·unfold Mb
  rw [<- gK,<- d_]
 ·rw [X_,cH];omega
theorem Ze{n:Nat}(h:n < 32):OkB 0 5 (.int (n:Nat)):=by
 have b:∀m:_root_.Fin 32,PyData.weight (.int (m.val:Nat))<=5:=by decide +kernel
 have a:=AR (i:=(n:Nat)) (by omega) (by omega)
 exact⟨a.lay,a.dp,b ⟨n,h⟩,a.sh,a.sw⟩
theorem EH{g:Gq}(e:GqL g){d:iX}(h:d∈Hr g):OkB 2 49 d:=by
 obtain⟨r,j,h⟩:=ZG.mp h
 obtain⟨c,hc,h⟩:=ZG.mp h
 obtain⟨b,hb,rfl⟩:=D_.mp h
 have hc:=XZ.mp hc
 have hp:=(e.ok r j).p
 have hx:=(e.ok r j).x
 have:=e.p3
 have:=e.l3
 have a:OkB 1 30 (Ba (B9 b)):=(OkBs.all (dep:=0) (w:=5) (n:=5) (λd l=>by
  obtain⟨t,k,rfl⟩:=D_.mp l
  have:=XZ.mp (YU.mp k).1
  exact Ze (by omega)) (by rw [B_];exact G_ (ZM _ _) (by rw [ZK];exact E_ _))).tup
 have i:∀{n:Nat},n < 32->OkB 1 5 (.int (n:Nat)):=λh=>(Ze h).mono (by decide) (E_ _)
 exact(OkBs.cons' (w3:=49) (i (n:=r.p) (by omega)) (OkBs.cons' (w3:=43) (i (n:=r.x) (by omega)) (OkBs.cons' (w3:=37) a (OkBs.cons' (w3:=6) (i (n:=c+1) (by omega)) (OkBs.nil (wt:=0)) (by decide)) (by decide)) (by decide)) (by decide)).tup
theorem EI{g:Gq}(b:GqL g){es:List iX}(hn:es.Nodup)(a:∀d∈es,d∈Hr g):OkD (.list es) :=
 ((OkBs.all (dep:=2) (w:=49) (n:=4864) (λd c=>EH b (a d c)) (G_ (Df hn a) (Ke b))).lst).ok (by decide) (by decide)
theorem GH{μ:M}{p:iY}{xs:List AV}{ds:List iX}(h:μ p=some (.lst xs))(a:dats xs=some ds):see μ (.R p)=some (.list ds):=by
 simp only [see,h,a]
theorem UY{a b:iX}{i j:Nat}{τ:ASt}{μ:M}{R:ASt->M->Prop}(h:R ((τ.set i (some (.D a))).set j (some (.D b))) μ):Ey (Dc i) (Ey (Dc j) Uo) (List.map AV.D [a,b]) τ μ R:=h
abbrev UZ:List Str:=["_law_script","_law_deal_here","_law_asked","_law_k","_law_game_here","_law_arrows_here","_law_found"]
theorem Ik:FnScope UZ ["_law_script"] (Ag Kn):=⟨rfl,rfl,rfl,by decide +kernel,rfl,by decide +kernel,by decide +kernel⟩
def XI:ASp:=λa μ R=>∃(ns:List Int),a=[.D (J4 ns)]/\ns.length<=63/\∀ μ',R (.D (.bool true)) μ'
theorem EJ{n:Nat}(F:Fun K "law" "law" Kn f fd) (cDe:VCal P w K mg base n "_law_deal" ["_law_script","_law_base"] JY) (d7:VCal P w K mg base n "_law_draw" ["_law_deal_here","_law_many"] Vh) (cGa:VCal P w K mg base n "_law_game" ["_law_deal_here"] LD) (cAr:VCal P w K mg base n "_law_arrows" ["_law_deal_here","_law_stands","_law_letters"] KP) (cFo:VCal P w K mg base n "follows" ["game","arrows"] KN) (cDu:VCal P w K mg base n "_law_due" ["_law_game_here","_law_arrows_here"] LI) (ai:mg "range" = none) (am:mg "len" = none) (cv:mg "repr" = none):FnOk P w K mg base Fk (n+1) f fd ["_law_script"] (Hw K 1 XI):=by
 refine F.vok Ik λba A outer s H E m=>⟨_,(Af (Aq (i:=1) Ik.nd rfl (Or.inl rfl) (An cDe m rfl (Aa (vv 0) (Aa Ah Ac))))
   (Af (Aq (i:=2) Ik.nd rfl (Or.inl rfl) (Bd Ac))
   (Af (Bo XX rfl (B4 rfl ai (Aa (A4 Ck Ah (An d7 m rfl (Aa (vv 1) (Aa Ah Ac)))) Ac)) (Aj (i:=3) Ik.nd rfl (Or.inl rfl)) (Af (Aq (i:=4) Ik.nd rfl (Or.inl rfl) (An cGa m rfl (Aa (vv 1) Ac)))
   (Ai (Bk (Db ZA ZB Cr (vv 2) (Aa (Bc (Aa (vv 4) (Aa (An cAr m rfl (Aa (vv 1) (Aa (A4 Ck (A8 D4 rfl am Z_ (Aa (Bj Ce (vv 4) Ah) Ac)) (An d7 m rfl (Aa (vv 1) (Aa Ah Ac)))) (Aa (A8 D4 rfl am Z_ (Aa (Bj Ce (vv 4) Ah) Ac)) Ac)))) Ac))) Ac))))))
   (Af (Bo XX rfl (A7 (A4 Ck (vv 2) (Cf (vv 2) D3 (Cd Ah)))) (Dh (n:=2) rfl (Ap (Aj (i:=4) Ik.nd rfl (Or.inl rfl)) (Ap (Aj (i:=5) Ik.nd rfl (Or.inl rfl)) B8))) (Af (Aq (i:=6) Ik.nd rfl (Or.inl rfl) (An cFo m rfl (Aa (vv 4) (Aa (vv 5) Ac))))
   (Af (D6 (Bh OR (A8 (X7 m) rfl cv PyProof.Rows.boot_repr (Aa (vv 6) Ac)) (A8 (X7 m) rfl cv PyProof.Rows.boot_repr (Aa (An cDu m rfl (Aa (vv 4) (Aa (vv 5) Ac))) Ac)) (nomark _)) (Ai (Be K7)) Cs)
   (Ai (Bk (Wz PySem.F.slot_list_clear PySem.F.type_list_clear CV (vv 6)))))))
   (Ai (Be K7)))))),?_⟩
 rintro xs μ R _ ⟨V,rfl,jc,q⟩
 refine C1 ⟨V,0,rfl,by decide,jc,λa l μ1 _ _ P1 _=>?_⟩
 intro o lz
 have G:=P1.ne lz
 refine A6 (fun τ μ'=>∃J I,∃B:List Qk,τ=[some (.D (J4 V)),some (.R a),some (.R o),J,I,none,none]/\μ' o=some (.lst (B.map EF))/\B.length<=2/\(∀z∈B,QkOk z)) (λZ hZ=>?_) ?_
 ·refine⟨a,l,2,rfl,P1.new lz,by decide,by decide,λc μ2 hc P2 S2=>⟨by omega,by omega,?_⟩⟩
  have ae:(Ea 0 (1+(c:Int)).toNat).length=1+c:=by rw [A5];omega
  refine Cl (λi τ μ'=>∃J I,∃B:List Qk,τ=[some (.D (J4 V)),some (.R a),some (.R o),J,I,none,none]/\μ' o=some (.lst (B.map EF))/\B.length<=i/\(∀z∈B,QkOk z)/\Pot μ' a l) ⟨none,none,[],rfl,S2 o _ G.1.symm G.2.symm Ab,E_ _,(λ_ h=>nomatch h),P2⟩ (λ_ _ _ _=>trivial) ?_ ?_
  ·rintro i y τ μ3 Z2 hy ⟨J,I,B,rfl,X,T,L,P3⟩ hZ2
   have hi:i < 1+c:=by rw [<- ae];exact(F_.mp hy).1
   refine C1 ⟨a,l,rfl,P3,λg μ4 e P4 S4=>?_⟩
   have M:=S4 o _ G.1.symm G.2.symm X
   have ig:=e.p0
   have iz:=e.p3
   refine⟨Ad M trivial,Ad (x:=PyData.tuple (g.pl.map Ho)) (Bf (j:=0) rfl) ⟨a,l,3,rfl,P4,by decide,by decide,λv μ5 hv P5 Q=>Ad (x:=PyData.tuple (g.le.map .str)) (Bf (j:=1) rfl) ⟨a,l,g.pl.length+v,g.le.length,?_,by omega,by omega,e.l0,e.l3,P5,λC μ6 hC hC0 kC P6 S6=>?_⟩⟩⟩
   ·rw [B_,B_];rfl
   have W:=S6 o _ G.1.symm G.2.symm (Q o _ G.1.symm G.2.symm M)
   have kC5:AsOk C:=⟨hC,λb hb=>let h:=kC b hb;⟨U_ h.p (by omega),h.x,λt ht=>U_ (h.t t ht) (by omega),h.u,h.c⟩⟩
   refine Ad W ⟨Ax (by rw [B_];omega),hZ2 _ _ ⟨_,_,B++[⟨g,C⟩],rfl,by rw [Ab,S_];rfl,by rw [I_];show B.length+1<=_;exact bD T,λz hz=>?_,P6.other G.1 G.2⟩⟩
   rcases O_.mp hz with hz | hz
   ·exact L z hz
   ·rw [P_.mp hz];exact⟨e,kC5⟩
  ·rintro τ μ3 ⟨J,I,B,rfl,X,T,L,P3⟩
   rw [ae]at T
   exact hZ _ _ ⟨_,_,B,rfl,X,by omega,L⟩
 rintro τ μ2 ⟨J,I,B,rfl,e2,T,L⟩
 refine A6 (fun τ μ'=>True) (λZ hZ=>?_) (fun τ μ' _=>⟨_,Sub.refl,q _⟩)
 obtain⟨Y,eY,hYl,hYm⟩:=EG EF B none (some 1)
 refine Ad (Ak e2) λp1 fo=>?_
 rw [eY]
 have h1k:o≠p1:=by rintro rfl;rw [e2]at fo;cases fo
 refine Ad (x:=MO.lst (B.map EF)) (by rw [Ae h1k];exact e2) (Ad Ab ⟨seven (by rw [B_,B_];omega),λU gg=>?_⟩)
 rw [<- S_]
 have kY:∀z∈B++Y,QkOk z:=λz hz=>(O_.mp hz).elim (L z) λh=>L z (hYm z h)
 have M:Al (Al μ2 p1 (.lst (Y.map EF))) U (.lst ((B++Y).map EF)) U=some (.lst ((B++Y).map EF)):=Ab
 generalize Al (Al μ2 p1 (.lst (Y.map EF))) U (.lst ((B++Y).map EF))=μ4 at M
 refine Ad (Ak M) ?_
 refine Cl (λi τ μ'=>∃J I o5 o6,τ=[some (.D (J4 V)),some (.R a),some (.R o),J,I,o5,o6]/\Sub μ4 μ') ⟨_,_,_,_,rfl,Sub.refl⟩ (λ_ _ _ ⟨_,_,_,_,_,S⟩=>Ak (S _ _ M)) ?_ (fun τ μ' _=>hZ _ _ trivial)
 rintro i y τ μ5 Z2 hy ⟨J,I,o5,o6,rfl,Q⟩ hZ2
 rw [H_]at hy
 obtain⟨z,hz,rfl⟩:=K_.mp hy
 obtain⟨e,O⟩:=kY z (XO hz)
 have iz:=e.p3
 refine⟨rfl,UY ?_⟩
 dsimp only [List.set]
 refine C1 ⟨z.g,z.A,rfl,⟨e.p3,e.r8,λr m=>⟨(e.ok r m).p,U_ (e.ok r m).q (by omega),(e.ok r m).w⟩⟩,O.n,O.t5,O.c9,λes pl μ6 hnd iu hm1 hpl W S6=>?_⟩
 have fg:∀d∈es,d∈Hr z.g:=λd hd=>by
  obtain⟨k,hk,y,hy,rfl⟩:=(hm1 d).mp hd
  exact Tv e O hk hy
 have N:=EI e hnd fg
 refine C1 (Ad (GH W (Bv _)) ⟨N,z.g,z.A,rfl,e,O,λnu U μ7 hup2 dh e7 S7=>?_⟩)
 have ee:es=nu:=Pe iu hup2 (λd hd=>by
  obtain⟨k,hk,y,hy,rfl⟩:=(hm1 d).mp hd
  exact(Rn _).1) λd=>(hm1 d).trans (dh d).symm
 subst ee
 refine Ad (GH e7 (Bv _)) ⟨N,Uk (by rw [YL rfl];rfl) ?_⟩
 have e8:=S7 _ _ W
 have pn:μ4 pl=none:=Q.none hpl
 exact⟨Ad e8 trivial,Ad e8 (hZ2 _ _ ⟨_,_,_,_,rfl,Dn (Cc Q (Cc S6 S7)) pn⟩)⟩
def Tw(K:iZ):Sp:=λb H Q _=>∃(a:iY) (ns:List Int),b=[.ref a]/\E8 K H a (ns.map V.int)/\Only H/\ns.length<=63/\∀c,Q (.bl true) c
theorem Tx{H:Hp}:∀(ns:List Int),Am K H (ns.map .int) (ns.map V.int)
 | []=>D1
 | n :: ns=>Dp C4 (Tx ns)
theorem LJ{n:Nat}(F:Fun K "law" "law" Kn f fd) (d:VCal P w K mg base n "_law_deal" ["_law_script","_law_base"] JY) (r:VCal P w K mg base n "_law_draw" ["_law_deal_here","_law_many"] Vh) (g:VCal P w K mg base n "_law_game" ["_law_deal_here"] LD) (e:VCal P w K mg base n "_law_arrows" ["_law_deal_here","_law_stands","_law_letters"] KP) (i:VCal P w K mg base n "follows" ["game","arrows"] KN) (c:VCal P w K mg base n "_law_due" ["_law_game_here","_law_arrows_here"] LI) (l:mg "range" = none) (j:mg "len" = none) (m:mg "repr" = none):FnOk P w K mg base Fk (n+1) f fd ["_law_script"] (Tw K):=by
 refine(EJ F d r g e i c l j m).imp ?_
 rintro t H Q E ⟨a,b,rfl,s,p,k,q⟩
 refine⟨[.D (J4 b)],λ_=>none,λv _=>v=.D (.bool true),rfl,.cons ?_ .nil,(λ_ _ z=>nomatch z),⟨b,rfl,k,λ_=>rfl⟩,?_⟩
 ·refine IC (xs:=b.map V.int) ?_ (Tx b)
  rcases s with(h | h) | h
  ·rcases p a with z | ⟨o,xs,z⟩
   ·rw [z]at h;cases h
   ·rw [z]at h;cases h
  ·exact .inl h
  ·exact .inr h
 ·rintro x μ v H' _ _ rx rfl
  cases RelA.bl rx
  exact q _
end
theorem Fy{b:List iV}(h:b.length=1):∃a,b=[a]:=by
 obtain⟨a,t,rfl,h2⟩:=El h
 rw [bS h2];exact⟨a,rfl⟩
theorem Fj{b:List iV}(h:b.length=2):∃a a1,b=[a,a1]:=by
 obtain⟨a,t,rfl,h2⟩:=El h
 obtain⟨a1,rfl⟩:=Fy h2
 exact⟨a,a1,rfl⟩
theorem Ty{b:List iV}(h:b.length=3):∃a a1 a2,b=[a,a1,a2]:=by
 obtain⟨a,t,rfl,h2⟩:=El h
 obtain⟨a1,a2,rfl⟩:=Fj h2
 exact⟨a,a1,a2,rfl⟩
theorem RS{c:List iV}(h:c.length=4):∃b a1 a2 a,c=[b,a1,a2,a]:=by
 obtain⟨b,t,rfl,h2⟩:=El h
 obtain⟨a1,a2,a,rfl⟩:=Ty h2
 exact⟨b,a1,a2,a,rfl⟩
theorem all_mk{l:PySem.W.OpenLaw}{w:jA}{K:iZ}{h:jD}{mg:Str->Option iV}{fa f1 f2 f3 f4 f5 f6 f7 f8 f9 x yc q yw zp xw z5 xl t p xo yj xh y x6:iY}(X:K.In h)(G:h.Ns mainGlobals mg)(hfa:mg "law" = some (.ref fa))
  {od1 an1 od2 an2 od3 an3 od4 an4 od5 an5 od6 an6 od7 an7 od8 an8 od9 an9 yf xf zaa xt x8 za5 xa zak zbv zbl za7 zb0 zbi zi zat zbx xc zae zb1 yq zbk xn zap zce zy y6 yu yr za2 qw:Option iY} {sl1 pb sl3 sl4 sl5 sl6 sl7 sl8 sl9 y0 zbz zcc zah yt zac zax zc zx zbr zab zaz zb2 xg za9:Array (Option iV)} {oc1 kV1 dc1 pm1 cd1 ct1 oc2 kV2 dc2 pm2 F ct2 oc3 kV3 dc3 pm3 Z ct3 oc4 kV4 dc4 pm4 M ct4 oc5 kV5 dc5 pm5 O ct5 oc6 kV6 dc6 pm6 V ct6 oc7 kV7 dc7 pm7 cd7 ct7 oc8 kV8 dc8 pm8 U ct8 oc9 kV9 dc9 pm9 cd9 ct9 zav y9 zai xk ut ym zbd yz xq yp t7 xy yx zcd xu xp qp xm yi zbn zam zan tw zl zbh z9 zr zaw qk zbb zau zcb zb7 y2 sy za3 zaf zbg xi xj qv za4 za yn zbp zbo uy za1 yo zba zbe zbq rj y3 zbc xb zal zca qu zad za0 yd zay zu u6 zb6 zar x4 z7 zbs ri yl yy yb zb za8 sf zaq zbf za6 xx y8 u5 zb5 zb8 sk u8 qf mw qd:iV}
  {t1:Tok}
  (a1:PySem.W.nsIn K mainGlobals "as_bits" = some (some (.ref f1)))
  (l1:K.lookup f1=some ⟨oc1,od1,.func (PySem.W.fnOf "as_bits" "as_bits" (A3 LQ) (Az LQ) (Ag LQ) .none kV1 dc1 pm1 an1 cd1 ct1),sl1⟩)
  (c_1:PySem.W.codeIn K cd1 "as_bits" = true)
  (k1:PySem.W.keepIn K (.ref f1)=true)
  (a2:PySem.W.nsIn K mainGlobals "as_stands" = some (some (.ref f2)))
  (l2:K.lookup f2=some ⟨oc2,od2,.func (PySem.W.fnOf "as_stands" "as_stands" (A3 JP) (Az JP) (Ag JP) .none kV2 dc2 pm2 an2 F ct2),pb⟩)
  (c_2:PySem.W.codeIn K F "as_stands" = true)
  (k2:PySem.W.keepIn K (.ref f2)=true)
  (a3:PySem.W.nsIn K mainGlobals "has_within" = some (some (.ref f3)))
  (l3:K.lookup f3=some ⟨oc3,od3,.func (PySem.W.fnOf "has_within" "has_within" (A3 LR) (Az LR) (Ag LR) .none kV3 dc3 pm3 an3 Z ct3),sl3⟩)
  (c_3:PySem.W.codeIn K Z "has_within" = true)
  (k3:PySem.W.keepIn K (.ref f3)=true)
  (a4:PySem.W.nsIn K mainGlobals "least_alone" = some (some (.ref f4)))
  (l4:K.lookup f4=some ⟨oc4,od4,.func (PySem.W.fnOf "least_alone" "least_alone" (A3 LU) (Az LU) (Ag LU) .none kV4 dc4 pm4 an4 M ct4),sl4⟩)
  (c_4:PySem.W.codeIn K M "least_alone" = true)
  (k4:PySem.W.keepIn K (.ref f4)=true)
  (a5:PySem.W.nsIn K mainGlobals "thinned" = some (some (.ref f5)))
  (l5:K.lookup f5=some ⟨oc5,od5,.func (PySem.W.fnOf "thinned" "thinned" (A3 LW) (Az LW) (Ag LW) .none kV5 dc5 pm5 an5 O ct5),sl5⟩)
  (c_5:PySem.W.codeIn K O "thinned" = true)
  (k5:PySem.W.keepIn K (.ref f5)=true)
  (a6:PySem.W.nsIn K mainGlobals "one_of_any" = some (some (.ref f6)))
  (l6:K.lookup f6=some ⟨oc6,od6,.func (PySem.W.fnOf "one_of_any" "one_of_any" (A3 LX) (Az LX) (Ag LX) .none kV6 dc6 pm6 an6 V ct6),sl6⟩)
  (c_6:PySem.W.codeIn K V "one_of_any" = true)
  (k6:PySem.W.keepIn K (.ref f6)=true)
  (a7:PySem.W.nsIn K mainGlobals "one_of_each" = some (some (.ref f7)))
  (l7:K.lookup f7=some ⟨oc7,od7,.func (PySem.W.fnOf "one_of_each" "one_of_each" (A3 LY) (Az LY) (Ag LY) .none kV7 dc7 pm7 an7 cd7 ct7),sl7⟩)
  (c_7:PySem.W.codeIn K cd7 "one_of_each" = true)
  (k7:PySem.W.keepIn K (.ref f7)=true)
  (a8:PySem.W.nsIn K mainGlobals "each_with_each" = some (some (.ref f8)))
  (l8:K.lookup f8=some ⟨oc8,od8,.func (PySem.W.fnOf "each_with_each" "each_with_each" (A3 LZ) (Az LZ) (Ag LZ) .none kV8 dc8 pm8 an8 U ct8),sl8⟩)
  (c_8:PySem.W.codeIn K U "each_with_each" = true)
  (k8:PySem.W.keepIn K (.ref f8)=true)
  (a9:PySem.W.nsIn K mainGlobals "arrows_by_top" = some (some (.ref f9)))
  (l9:K.lookup f9=some ⟨oc9,od9,.func (PySem.W.fnOf "arrows_by_top" "arrows_by_top" (A3 MA) (Az MA) (Ag MA) .none kV9 dc9 pm9 an9 cd9 ct9),sl9⟩)
  (c_9:PySem.W.codeIn K cd9 "arrows_by_top" = true)
  (k9:PySem.W.keepIn K (.ref f9)=true)
  (a10:PySem.W.nsIn K mainGlobals "readings_by" = some (some (.ref x)))
  (l10:K.lookup x=some ⟨zav,yf,.func (PySem.W.fnOf "readings_by" "readings_by" (A3 FT) (Az FT) (Ag FT) .none y9 zai xk xf ut ym),y0⟩)
  (c_10:PySem.W.codeIn K ut "readings_by" = true)
  (k10:PySem.W.keepIn K (.ref x)=true)
  (a11:PySem.W.nsIn K mainGlobals "follows" = some (some (.ref yc)))
  (l11:K.lookup yc=some ⟨zbd,zaa,.func (PySem.W.fnOf "follows" "follows" (A3 MB) (Az MB) (Ag MB) .none yz xq yp xt t7 xy),zbz⟩)
  (C:PySem.W.codeIn K t7 "follows" = true)
  (k11:PySem.W.keepIn K (.ref yc)=true)
  (a12:PySem.W.nsIn K mainGlobals "as_arrows" = some (some (.ref q)))
  (l12:K.lookup q=some ⟨yx,x8,.func (PySem.W.fnOf "as_arrows" "as_arrows" (A3 JQ) (Az JQ) (Ag JQ) .none zcd xu xp za5 qp xm),zcc⟩)
  (c_12:PySem.W.codeIn K qp "as_arrows" = true)
  (k12:PySem.W.keepIn K (.ref q)=true)
  (a13:PySem.W.nsIn K mainGlobals "following" = some (some (.ref yw)))
  (l13:K.lookup yw=some ⟨yi,xa,.func (PySem.W.fnOf "following" "following" (A3 FU) (Az FU) (Ag FU) .none zbn zam zan zak tw zl),zah⟩)
  (c_13:PySem.W.codeIn K tw "following" = true)
  (k13:PySem.W.keepIn K (.ref yw)=true)
  (a14:PySem.W.nsIn K mainGlobals "rules_by_top" = some (some (.ref zp)))
  (l14:K.lookup zp=some ⟨zbh,zbv,.func (PySem.W.fnOf "rules_by_top" "rules_by_top" (A3 MC) (Az MC) (Ag MC) .none z9 zr zaw zbl qk zbb),yt⟩)
  (c_14:PySem.W.codeIn K qk "rules_by_top" = true)
  (k14:PySem.W.keepIn K (.ref zp)=true)
  (a15:PySem.W.nsIn K mainGlobals "_law_deal" = some (some (.ref xw)))
  (l15:K.lookup xw=some ⟨zau,za7,.func (PySem.W.fnOf "_law_deal" "_law_deal" (A3 FV) (Az FV) (Ag FV) .none zcb zb7 y2 zb0 sy za3),zac⟩)
  (c_15:PySem.W.codeIn K sy "_law_deal" = true)
  (E:PySem.W.keepIn K (.ref xw)=true)
  (a16:PySem.W.nsIn K mainGlobals "_law_draw" = some (some (.ref z5)))
  (l16:K.lookup z5=some ⟨zaf,zbi,.func (PySem.W.fnOf "_law_draw" "_law_draw" (A3 MD) (Az MD) (Ag MD) .none zbg xi xj zi qv za4),zax⟩)
  (c_16:PySem.W.codeIn K qv "_law_draw" = true)
  (k16:PySem.W.keepIn K (.ref z5)=true)
  (a17:PySem.W.nsIn K mainGlobals "_law_names" = some (some (.ref xl)))
  (l17:K.lookup xl=some ⟨za,zat,.func (PySem.W.fnOf "_law_names" "_law_names" (A3 JR) (Az JR) (Ag JR) .none yn zbp zbo zbx uy za1),zc⟩)
  (Y:PySem.W.codeIn K uy "_law_names" = true)
  (H:PySem.W.keepIn K (.ref xl)=true)
  (a18:PySem.W.nsIn K mainGlobals "_law_game" = some (some (.ref t)))
  (l18:K.lookup t=some ⟨yo,xc,.func (PySem.W.fnOf "_law_game" "_law_game" (A3 Zh) (Az Zh) (Ag Zh) .none zba zbe zbq zae rj y3),zx⟩)
  (J:PySem.W.codeIn K rj "_law_game" = true)
  (k18:PySem.W.keepIn K (.ref t)=true)
  (a19:PySem.W.nsIn K mainGlobals "_law_arrows" = some (some (.ref p)))
  (l19:K.lookup p=some ⟨zbc,zb1,.func (PySem.W.fnOf "_law_arrows" "_law_arrows" (A3 JS) (Az JS) (Ag JS) .none xb zal zca yq qu zad),zbr⟩)
  (c_19:PySem.W.codeIn K qu "_law_arrows" = true)
  (I:PySem.W.keepIn K (.ref p)=true)
  (a20:PySem.W.nsIn K mainGlobals "_law_choices" = some (some (.ref xo)))
  (l20:K.lookup xo=some ⟨za0,zbk,.func (PySem.W.fnOf "_law_choices" "_law_choices" (A3 JT) (Az JT) (Ag JT) .none yd zay zu xn u6 zb6),zab⟩)
  (T:PySem.W.codeIn K u6 "_law_choices" = true)
  (Q:PySem.W.keepIn K (.ref xo)=true)
  (a21:PySem.W.nsIn K mainGlobals "_law_put" = some (some (.ref yj)))
  (l21:K.lookup yj=some ⟨zar,zap,.func (PySem.W.fnOf "_law_put" "_law_put" (A3 JU) (Az JU) (Ag JU) .none x4 z7 zbs zce ri yl),zaz⟩)
  (c_21:PySem.W.codeIn K ri "_law_put" = true)
  (k21:PySem.W.keepIn K (.ref yj)=true)
  (a22:PySem.W.nsIn K mainGlobals "_law_all_read" = some (some (.ref xh)))
  (l22:K.lookup xh=some ⟨yy,zy,.func (PySem.W.fnOf "_law_all_read" "_law_all_read" (A3 JV) (Az JV) (Ag JV) .none yb zb za8 y6 sf zaq),zb2⟩)
  (S:PySem.W.codeIn K sf "_law_all_read" = true)
  (k22:PySem.W.keepIn K (.ref xh)=true)
  (a23:PySem.W.nsIn K mainGlobals "_law_due" = some (some (.ref y)))
  (l23:K.lookup y=some ⟨zbf,yu,.func (PySem.W.fnOf "_law_due" "_law_due" (A3 DB) (Az DB) (Ag DB) .none za6 xx y8 yr u5 zb5),xg⟩)
  (c_23:PySem.W.codeIn K u5 "_law_due" = true)
  (k23:PySem.W.keepIn K (.ref y)=true)
  (a24:PySem.W.nsIn K mainGlobals "law" = some (some (.ref x6)))
  (l24:K.lookup x6=some ⟨zb8,za2,.func (PySem.W.fnOf "law" "law" (A3 Kn) (Az Kn) (Ag Kn) .none sk u8 qf qw mw qd),za9⟩)
  (c_24:PySem.W.codeIn K mw "law" = true)
  (k24:PySem.W.keepIn K (.ref x6)=true)
  (g:PySem.W.nsIn K mainGlobals "tuple" = some none)
  (i:PySem.W.nsIn K mainGlobals "range" = some none)
  (f:PySem.W.nsIn K mainGlobals "sorted" = some none)
  (u:PySem.W.nsIn K mainGlobals "set" = some none)
  (o:PySem.W.nsIn K mainGlobals "max" = some none)
  (k:PySem.W.nsIn K mainGlobals "list" = some none)
  (m:PySem.W.nsIn K mainGlobals "len" = some none)
  (d:PySem.W.nsIn K mainGlobals "reversed" = some none)
  (z:PySem.W.nsIn K mainGlobals "min" = some none)
  (j:PySem.W.nsIn K mainGlobals "repr" = some none)
  (y1:PySem.W.nsIn K mainGlobals "OTHER_HAND" = some (some (.int 1 t1))) :
  ∃fd:jG,(∀(s:iW) (v:iV),BindsTo s fd ⟨[v],[]⟩ [("_law_script",v)])/\∀base:jD,K.In base->base.Ns mainGlobals mg->FnOk l.prog w K mg base Fk 65 fa fd ["_law_script"] (Tw K):=by
 have e:=hfa.symm.trans (YI X G a24)
 cases e
 have F1:=Bn (st:=LQ) l1 c_1 k1
 have F2:=Bn (st:=JP) l2 c_2 k2
 have F3:=Bn (st:=LR) l3 c_3 k3
 have F4:=Bn (st:=LU) l4 c_4 k4
 have F5:=Bn (st:=LW) l5 c_5 k5
 have F6:=Bn (st:=LX) l6 c_6 k6
 have F7:=Bn (st:=LY) l7 c_7 k7
 have F8:=Bn (st:=LZ) l8 c_8 k8
 have F9:=Bn (st:=MA) l9 c_9 k9
 have F10:=Bn (st:=FT) l10 c_10 k10
 have F11:=Bn (st:=MB) l11 C k11
 have R:=Bn (st:=JQ) l12 c_12 k12
 have F13:=Bn (st:=FU) l13 c_13 k13
 have D:=Bn (st:=MC) l14 c_14 k14
 have F15:=Bn (st:=FV) l15 c_15 E
 have F16:=Bn (st:=MD) l16 c_16 k16
 have F17:=Bn (st:=JR) l17 Y H
 have F18:=Bn (st:=Zh) l18 J k18
 have F19:=Bn (st:=JS) l19 c_19 I
 have F20:=Bn (st:=JT) l20 T Q
 have F21:=Bn (st:=JU) l21 c_21 k21
 have F22:=Bn (st:=JV) l22 S k22
 have N:=Bn (st:=DB) l23 c_23 k23
 have F24:=Bn (st:=Kn) l24 c_24 k24
 have b1:=F1.binds (ps:=["stands"]) λ_ _ _ _ _ _ b a=>by obtain⟨c,rfl⟩:=Fy a;rfl
 have b2:=F2.binds (ps:=["bits"]) λ_ _ _ _ _ _ b a=>by obtain⟨c,rfl⟩:=Fy a;rfl
 have b3:=F3.binds (ps:=["lows","bits"]) λ_ _ _ _ _ _ b a=>by obtain⟨c,a1,rfl⟩:=Fj a;rfl
 have b4:=F4.binds (ps:=["pairs"]) λ_ _ _ _ _ _ b a=>by obtain⟨c,rfl⟩:=Fy a;rfl
 have b5:=F5.binds (ps:=["pairs","least"]) λ_ _ _ _ _ _ b a=>by obtain⟨c,a1,rfl⟩:=Fj a;rfl
 have b6:=F6.binds (ps:=["groups","least"]) λ_ _ _ _ _ _ b a=>by obtain⟨c,a1,rfl⟩:=Fj a;rfl
 have b7:=F7.binds (ps:=["groups","least"]) λ_ _ _ _ _ _ b a=>by obtain⟨c,a1,rfl⟩:=Fj a;rfl
 have b8:=F8.binds (ps:=["pairs","others"]) λ_ _ _ _ _ _ b a=>by obtain⟨c,a1,rfl⟩:=Fj a;rfl
 have b9:=F9.binds (ps:=["arrows"]) λ_ _ _ _ _ _ b a=>by obtain⟨c,rfl⟩:=Fy a;rfl
 have b10:=F10.binds (ps:=["tops","stand","w","least"]) λ_ _ _ _ _ _ b a=>by obtain⟨c,a1,a2,a3,rfl⟩:=RS a;rfl
 have b11:=F11.binds (ps:=["game","arrows"]) λ_ _ _ _ _ _ b a=>by obtain⟨c,a1,rfl⟩:=Fj a;rfl
 have b12:=R.binds (ps:=["tops"]) λ_ _ _ _ _ _ b a=>by obtain⟨c,rfl⟩:=Fy a;rfl
 have b13:=F13.binds (ps:=["game","tops","least"]) λ_ _ _ _ _ _ b a=>by obtain⟨c,a1,a2,rfl⟩:=Ty a;rfl
 have b14:=D.binds (ps:=["game"]) λ_ _ _ _ _ _ b a=>by obtain⟨c,rfl⟩:=Fy a;rfl
 have b15:=F15.binds (ps:=["_law_script","_law_base"]) λ_ _ _ _ _ _ b a=>by obtain⟨c,a1,rfl⟩:=Fj a;rfl
 have b16:=F16.binds (ps:=["_law_deal_here","_law_many"]) λ_ _ _ _ _ _ b a=>by obtain⟨c,a1,rfl⟩:=Fj a;rfl
 have b17:=F17.binds (ps:=["_law_deal_here","_law_many"]) λ_ _ _ _ _ _ b a=>by obtain⟨c,a1,rfl⟩:=Fj a;rfl
 have b18:=F18.binds (ps:=["_law_deal_here"]) λ_ _ _ _ _ _ b a=>by obtain⟨c,rfl⟩:=Fy a;rfl
 have b19:=F19.binds (ps:=["_law_deal_here","_law_stands","_law_letters"]) λ_ _ _ _ _ _ b a=>by obtain⟨c,a1,a2,rfl⟩:=Ty a;rfl
 have b20:=F20.binds (ps:=["_law_some_here"]) λ_ _ _ _ _ _ b a=>by obtain⟨c,rfl⟩:=Fy a;rfl
 have b21:=F21.binds (ps:=["_law_pairs"]) λ_ _ _ _ _ _ b a=>by obtain⟨c,rfl⟩:=Fy a;rfl
 have b22:=F22.binds (ps:=["_law_arrows_here","_law_stand","_law_w"]) λ_ _ _ _ _ _ b a=>by obtain⟨c,a1,a2,rfl⟩:=Ty a;rfl
 have b23:=N.binds (ps:=["_law_game_here","_law_arrows_here"]) λ_ _ _ _ _ _ b a=>by obtain⟨c,a1,rfl⟩:=Fj a;rfl
 have ao:=aF X G g
 have A:=aF X G i
 have r:=aF X G f
 have bg:=aF X G u
 have cq:=aF X G o
 have df:=aF X G k
 have B:=aF X G m
 have ci:=aF X G d
 have j5:=aF X G z
 have cv:=aF X G j
 have mOH:=YI X G y1
 refine⟨PySem.W.fnOf "law" "law" (A3 Kn) (Az Kn) (Ag Kn) .none sk u8 qf qw mw qd,λs v=>.of_eq rfl,λbase _ _=>?_⟩
 have g1:=PK (P:=l.prog) (w:=w) (mg:=mg) (base:=base) (n:=0) F1
 have q1:VCal l.prog w K mg base 1 "as_bits" ["stands"] _:=⟨_,_,g1,b1,k1,YI X G a1⟩
 have g2:=PM (P:=l.prog) (w:=w) (mg:=mg) (base:=base) (n:=0) F2 ao A
 have q2:VCal l.prog w K mg base 1 "as_stands" ["bits"] _:=⟨_,_,g2,b2,k2,YI X G a2⟩
 have g3:=QC (P:=l.prog) (w:=w) (mg:=mg) (base:=base) (n:=0) F3
 have q3:VCal l.prog w K mg base 1 "has_within" ["lows","bits"] _:=⟨_,_,g3,b3,k3,YI X G a3⟩
 have g4:=QD (P:=l.prog) (w:=w) (mg:=mg) (base:=base) (n:=1) F4 (q3.mono (by decide)) r
 have q4:VCal l.prog w K mg base 2 "least_alone" ["pairs"] _:=⟨_,_,g4,b4,k4,YI X G a4⟩
 have g5:=PV (P:=l.prog) (w:=w) (mg:=mg) (base:=base) (n:=2) F5 (q4.mono (by decide)) r bg
 have q5:VCal l.prog w K mg base 3 "thinned" ["pairs","least"] _:=⟨_,_,g5,b5,k5,YI X G a5⟩
 have g6:=QJ (P:=l.prog) (w:=w) (mg:=mg) (base:=base) (n:=3) F6 (q5.mono (by decide))
 have q6:VCal l.prog w K mg base 4 "one_of_any" ["groups","least"] _:=⟨_,_,g6,b6,k6,YI X G a6⟩
 have g8:=PQ (P:=l.prog) (w:=w) (mg:=mg) (base:=base) (n:=0) F8 cq df
 have q8:VCal l.prog w K mg base 1 "each_with_each" ["pairs","others"] _:=⟨_,_,g8,b8,k8,YI X G a8⟩
 have g7:=PX (P:=l.prog) (w:=w) (mg:=mg) (base:=base) (n:=3) F7 (q5.mono (by decide)) (q8.mono (by decide))
 have q7:VCal l.prog w K mg base 4 "one_of_each" ["groups","least"] _:=⟨_,_,g7,b7,k7,YI X G a7⟩
 have g9:=QA (P:=l.prog) (w:=w) (mg:=mg) (base:=base) (n:=1) F9 (q1.mono (by decide))
 have q9:VCal l.prog w K mg base 2 "arrows_by_top" ["arrows"] _:=⟨_,_,g9,b9,k9,YI X G a9⟩
 have g10:=QH (P:=l.prog) (w:=w) (mg:=mg) (base:=base) (n:=4) F10 (q1.mono (by decide)) (q2.mono (by decide)) (q5.mono (by decide)) (q7.mono (by decide)) B
 have q10:VCal l.prog w K mg base 5 "readings_by" ["tops","stand","w","least"] _:=⟨_,_,g10,b10,k10,YI X G a10⟩
 have g12:=QN (P:=l.prog) (w:=w) (mg:=mg) (base:=base) (n:=1) R (q2.mono (by decide))
 have q12:VCal l.prog w K mg base 2 "as_arrows" ["tops"] _:=⟨_,_,g12,b12,k12,YI X G a12⟩
 have g14:=QL (P:=l.prog) (w:=w) (mg:=mg) (base:=base) (n:=0) D
 have q14:VCal l.prog w K mg base 1 "rules_by_top" ["game"] _:=⟨_,_,g14,b14,k14,YI X G a14⟩
 have g13:=QQ (P:=l.prog) (w:=w) (mg:=mg) (base:=base) (n:=5) F13 (q14.mono (by decide)) (q10.mono (by decide)) (q7.mono (by decide)) (q6.mono (by decide)) mOH
 have q13:VCal l.prog w K mg base 6 "following" ["game","tops","least"] _:=⟨_,_,g13,b13,k13,YI X G a13⟩
 have g11:=QR (P:=l.prog) (w:=w) (mg:=mg) (base:=base) (n:=6) F11 (q12.mono (by decide)) (q13.mono (by decide)) (q9.mono (by decide)) r
 have q11:VCal l.prog w K mg base 7 "follows" ["game","arrows"] _:=⟨_,_,g11,b11,k11,YI X G a11⟩
 have g15:=PJ (P:=l.prog) (w:=w) (mg:=mg) (base:=base) (n:=0) F15 cq df ci
 have q15:VCal l.prog w K mg base 1 "_law_deal" ["_law_script","_law_base"] _:=⟨_,_,g15,b15,E,YI X G a15⟩
 have g16:=PD (P:=l.prog) (w:=w) (mg:=mg) (base:=base) (n:=0) F16 B
 have w5:VCal l.prog w K mg base 1 "_law_draw" ["_law_deal_here","_law_many"] _:=⟨_,_,g16,b16,k16,YI X G a16⟩
 have g17:=RF (P:=l.prog) (w:=w) (mg:=mg) (base:=base) (n:=1) F17 (w5.mono (by decide)) A
 have q17:VCal l.prog w K mg base 2 "_law_names" ["_law_deal_here","_law_many"] _:=⟨_,_,g17,b17,H,YI X G a17⟩
 have g18:=RM (P:=l.prog) (w:=w) (mg:=mg) (base:=base) (n:=2) F18 (w5.mono (by decide)) (q17.mono (by decide)) A B ao j5
 have q18:VCal l.prog w K mg base 3 "_law_game" ["_law_deal_here"] _:=⟨_,_,g18,b18,k18,YI X G a18⟩
 have g19:=QT (P:=l.prog) (w:=w) (mg:=mg) (base:=base) (n:=1) F19 (w5.mono (by decide)) A ao r bg
 have q19:VCal l.prog w K mg base 2 "_law_arrows" ["_law_deal_here","_law_stands","_law_letters"] _:=⟨_,_,g19,b19,I,YI X G a19⟩
 have g20:=QV (P:=l.prog) (w:=w) (mg:=mg) (base:=base) (n:=0) F20
 have q20:VCal l.prog w K mg base 1 "_law_choices" ["_law_some_here"] _:=⟨_,_,g20,b20,Q,YI X G a20⟩
 have g21:=QX (P:=l.prog) (w:=w) (mg:=mg) (base:=base) (n:=0) F21 cq ao r bg
 have L:VCal l.prog w K mg base 1 "_law_put" ["_law_pairs"] _:=⟨_,_,g21,b21,k21,YI X G a21⟩
 have g22:=RC (P:=l.prog) (w:=w) (mg:=mg) (base:=base) (n:=1) F22 (q20.mono (by decide)) (L.mono (by decide)) B r bg
 have q22:VCal l.prog w K mg base 2 "_law_all_read" ["_law_arrows_here","_law_stand","_law_w"] _:=⟨_,_,g22,b22,k22,YI X G a22⟩
 have g23:=RQ (P:=l.prog) (w:=w) (mg:=mg) (base:=base) (n:=2) N (q22.mono (by decide)) (q20.mono (by decide)) (L.mono (by decide)) A B r bg
 have q23:VCal l.prog w K mg base 3 "_law_due" ["_law_game_here","_law_arrows_here"] _:=⟨_,_,g23,b23,k23,YI X G a23⟩
 have g24:=LJ (P:=l.prog) (w:=w) (mg:=mg) (base:=base) (n:=7) F24 (q15.mono (by decide)) (w5.mono (by decide)) (q18.mono (by decide)) (q19.mono (by decide)) (q11.mono (by decide)) (q23.mono (by decide)) A B cv
 exact g24.mono (by decide)
theorem walk{l:PySem.W.OpenLaw}{q:i_}{r:List Str}{v:(Str->Option iV)->jD->Prop}{g:jA->jD->Prop}{d:DefRec}{K:Params->iZ}(hn:l.most=some 63)(m:d.params.defaults=[])
  (p:∀(w:jA) (h:jD),g w h->(K w.params).In h)
  (F:∀(w:jA) (mg:Str->Option iV) (c:iY) (h:jD),(K w.params).In h->h.Ns mainGlobals mg->mg d.name=some (.ref c) ->
   ∃e:jG,(∀(s:iW) (u:iV),BindsTo s e ⟨[u],[]⟩ [("_law_script",u)])/\∀b:jD,(K w.params).In b->b.Ns mainGlobals mg->FnOk l.prog w (K w.params) mg b Fk 65 c e ["_law_script"] (Tw (K w.params))) :
  PySem.W.WalkO q r v g l.row.toRowW d [] (λf y=>PySem.call f y) :=
 L2.walk_of (n:=63) (k:=65) (x := "_law_script") (CX:=λ_=>Fk) (sp:=λw=>Tw (K w.params)) hn (by decide) m ⟨rfl,by decide,by decide,rfl⟩ p F (λ_ _ a j o t i=>⟨a,j,rfl,i,t,o,λ_=>rfl⟩) λ_ _ _ _ _ z=>z
end K24
namespace PySem.W.Fast
theorem tw6312962577818071732:True:=trivial
theorem tw7866722849893447120:True:=trivial
theorem tw10864112782499734009:True:=trivial
theorem tw12512919522220959454:True:=trivial
theorem tw4261339612512141420:True:=trivial
theorem tw9246610587583652894:True:=trivial
theorem tw11655287411395359914:True:=trivial
theorem tw6381779920789456629:True:=trivial
theorem tw9739294734150665437:True:=trivial
theorem tw13757302921406119295:True:=trivial
theorem tw15333364822734714936:True:=trivial
theorem tw17852594117354427156:True:=trivial
theorem tw9188221757545361020:True:=trivial
theorem tw12638709883447415242:True:=trivial
theorem tw9296541867776070444:True:=trivial
theorem tw12320637203311616225:True:=trivial
theorem tw3694561493105768971:True:=trivial
theorem tw1293057038215823509:True:=trivial
theorem tw947071230983629315:True:=trivial
theorem tw14682217356037984157:True:=trivial
theorem tw3941360584375056705:True:=trivial
theorem tw8702331449693787408:True:=trivial
theorem tw11836507928541437234:True:=trivial
theorem tw12070424831247523428:True:=trivial
theorem tw9876174890052935271:True:=trivial
theorem tw198437849735406386:True:=trivial
theorem tw5884814052053146482:True:=trivial
theorem tw3481347119844526941:True:=trivial
theorem tw17972312345478431829:True:=trivial
theorem tw4220794206713728228:True:=trivial
theorem tw16851911010330943884:True:=trivial
theorem tw415103829046680646:True:=trivial
theorem tw11115823937067995876:True:=trivial
theorem tw6360043842325140528:True:=trivial
theorem tw7011601154365515756:True:=trivial
theorem tw11787398943097230825:True:=trivial
theorem tw15096600867050551295:True:=trivial
theorem tw8082066217909369205:True:=trivial
theorem tw451792930361115558:True:=trivial
theorem tw8450687900202809398:True:=trivial
theorem tw1494084127399601077:True:=trivial
theorem tw2812884513199870058:True:=trivial
theorem tw12981245659140035819:True:=trivial
theorem tw5706948520324067478:True:=trivial
theorem tw11386655531428298309:True:=trivial
theorem tw12208335340434496488:True:=trivial
theorem tw7725998002550666347:True:=trivial
theorem tw7572191416525020039:True:=trivial
theorem tw2512597874178508641:True:=trivial
theorem tw3507441150457641638:True:=trivial
theorem tw374613483498676993:True:=trivial
theorem tw8381003205611627231:True:=trivial
theorem tw15290054536783030335:True:=trivial
theorem tw2152263347943500380:True:=trivial
theorem tw9149788183643281544:True:=trivial
theorem tw1743749521335349871:True:=trivial
theorem tw3726157187929178025:True:=trivial
theorem tw9995616778519056762:True:=trivial
theorem tw16198401602280850577:True:=trivial
theorem tw3458525975544836617:True:=trivial
theorem tw8978124106999275949:True:=trivial
theorem tw11179431756937541954:True:=trivial
theorem tw2820858635000253057:True:=trivial
end PySem.W.Fast
open PySem PySem.W PyProof.Rows
set_option maxRecDepth 100000 in
set_option maxHeartbeats 0 in
theorem PySem.Challenge.cw_pileduel_k24_what_follows_holds : PySem.Challenge.rw_pileduel_k24_what_follows.Holds := by
 w_on;o_law;k_head;(case hw=>w_witness2)
 k_fill
 refine K24.walk (l:=PySem.Challenge.rw_pileduel_k24_what_follows) rfl rfl (fun w h Y=>PySem.W.kIn_of Y) ?F
 case F =>
  intro w mg fa h KX G hmg
  refine' K24.all_mk KX G hmg ?a1 ?l1 ?c_1 ?k1 ?a2 ?l2 ?c_2 ?k2 ?a3 ?l3 ?c_3 ?k3 ?a4 ?l4 ?c_4 ?k4 ?a5 ?l5 ?c_5 ?k5 ?a6 ?l6 ?c_6 ?k6 ?a7 ?l7 ?c_7 ?k7 ?a8 ?l8 ?c_8 ?k8 ?a9 ?l9 ?c_9 ?k9 ?a10 ?l10 ?c_10 ?k10 ?a11 ?l11 ?c_11 ?k11 ?a12 ?l12 ?c_12 ?k12 ?a13 ?l13 ?c_13 ?k13 ?a14 ?l14 ?c_14 ?k14 ?a15 ?l15 ?c_15 ?k15 ?a16 ?l16 ?c_16 ?k16 ?a17 ?l17 ?c_17 ?k17 ?a18 ?l18 ?c_18 ?k18 ?a19 ?l19 ?c_19 ?k19 ?a20 ?l20 ?c_20 ?k20 ?a21 ?l21 ?c_21 ?k21 ?a22 ?l22 ?c_22 ?k22 ?a23 ?l23 ?c_23 ?k23 ?a24 ?l24 ?c_24 ?k24 ?z_tuple ?z_range ?z_sorted ?z_set ?z_max ?z_list ?z_len ?z_reversed ?z_min ?z_repr ?y1
  (case a1=>k_is)
  (case l1=>k_is)
  (case c_1=>k_is)
  (case k1=>k_is)
  (case a2=>k_is)
  (case l2=>k_is)
  (case c_2=>k_is)
  (case k2=>k_is)
  (case a3=>k_is)
  (case l3=>k_is)
  (case c_3=>k_is)
  (case k3=>k_is)
  (case a4=>k_is)
  (case l4=>k_is)
  (case c_4=>k_is)
  (case k4=>k_is)
  (case a5=>k_is)
  (case l5=>k_is)
  (case c_5=>k_is)
  (case k5=>k_is)
  (case a6=>k_is)
  (case l6=>k_is)
  (case c_6=>k_is)
  (case k6=>k_is)
  (case a7=>k_is)
  (case l7=>k_is)
  (case c_7=>k_is)
  (case k7=>k_is)
  (case a8=>k_is)
  (case l8=>k_is)
  (case c_8=>k_is)
  (case k8=>k_is)
  (case a9=>k_is)
  (case l9=>k_is)
  (case c_9=>k_is)
  (case k9=>k_is)
  (case a10=>k_is)
  (case l10=>k_is)
  (case c_10=>k_is)
  (case k10=>k_is)
  (case a11=>k_is)
  (case l11=>k_is)
  (case c_11=>k_is)
  (case k11=>k_is)
  (case a12=>k_is)
  (case l12=>k_is)
  (case c_12=>k_is)
  (case k12=>k_is)
  (case a13=>k_is)
  (case l13=>k_is)
  (case c_13=>k_is)
  (case k13=>k_is)
  (case a14=>k_is)
  (case l14=>k_is)
  (case c_14=>k_is)
  (case k14=>k_is)
  (case a15=>k_is)
  (case l15=>k_is)
  (case c_15=>k_is)
  (case k15=>k_is)
  (case a16=>k_is)
  (case l16=>k_is)
  (case c_16=>k_is)
  (case k16=>k_is)
  (case a17=>k_is)
  (case l17=>k_is)
  (case c_17=>k_is)
  (case k17=>k_is)
  (case a18=>k_is)
  (case l18=>k_is)
  (case c_18=>k_is)
  (case k18=>k_is)
  (case a19=>k_is)
  (case l19=>k_is)
  (case c_19=>k_is)
  (case k19=>k_is)
  (case a20=>k_is)
  (case l20=>k_is)
  (case c_20=>k_is)
  (case k20=>k_is)
  (case a21=>k_is)
  (case l21=>k_is)
  (case c_21=>k_is)
  (case k21=>k_is)
  (case a22=>k_is)
  (case l22=>k_is)
  (case c_22=>k_is)
  (case k22=>k_is)
  (case a23=>k_is)
  (case l23=>k_is)
  (case c_23=>k_is)
  (case k23=>k_is)
  (case a24=>k_is)
  (case l24=>k_is)
  (case c_24=>k_is)
  (case k24=>k_is)
  (case z_tuple=>k_is)
  (case z_range=>k_is)
  (case z_sorted=>k_is)
  (case z_set=>k_is)
  (case z_max=>k_is)
  (case z_list=>k_is)
  (case z_len=>k_is)
  (case z_reversed=>k_is)
  (case z_min=>k_is)
  (case z_repr=>k_is)
  (case y1=>k_is)
