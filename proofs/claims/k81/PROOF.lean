import PyProof.Rows.All
import Wide.All
import OpenK.AllK
import Wide.FinOn
import Lean
import PyProof.EqAt
import PyProof.EqKinds
import PyProof.TupleCall
import PyProof.CompFree
import PyProof.CompUse
import PyProof.CollectIter
import PyProof.ListNew
import KE.KRevIter
import PyProof.EnumMake
import PyProof.Draws
import PyProof.TupleIter
import PyProof.WalksMore
import PyProof.ReprRoads
import PyProof.P3Eq
import PyProof.NeData
import PyProof.EqLayable
import PyProof.Rows.RegFStrParts
import PyProof.AutoListH
import KE.KItemsList
import KE.KDictList
import PyProof.StrBlockG
import PyProof.StrLawsOcc
import PyProof.StrLawsTight
import PyProof.StrLawsChain
import PyProof.Rows.Range3
import PyProof.MinMaxWalk
import PyProof.WalkInts
import PyProof.ExcClass3
import PyProof.ExcInit
import PyProof.InstStoreFacts
import PyProof.ExcArgsOwn
import KE.KIsAll
import PyProof.RaisesMany
import PyProof.RulesTry
import PyProof.Raises
import PyProof.RulesAs
import PyProof.NsDelKeeps
import PyProof.PassesOwn
import PyProof.Rows.CatchHere
import KE.KSortTup
import PyProof.FactsAll.tuple_2
import PyProof.TupleKey
import PyProof.Rows.RowHeap
import PyProof.SetKind
import PyProof.SetNew
import PyProof.DictIter
import PyProof.CollectWalk
import PyProof.Walks
import PyProof.ZipIter
import KE.KRevSl
import KE.KStateDown
import PyProof.SetRoads
import PyProof.SumWalk
import PyProof.CallStr
import PyProof.FactsAll.tuple_3
import PyProof.StrLawsIn
import PyProof.Rows.RuleM_int
import PyProof.FactsAll.dict_3
import KE.KItemsList
import PyProof.Rows.TupDisplay
import PyProof.FactsAll.dict_itemiterator_1
import PyProof.DictWalks
import PySem.Challenge.RW_pileduel_k81_whole_machines_of_joined_sa
set_option Elab.async false
set_option linter.all false
set_option maxRecDepth 100000
abbrev A_:=@PySem.wpAny_bind
abbrev B_:=@List.length_map
abbrev C_:=@PySem.wpAny_pure
abbrev DD:=@PySem.Heap.get?_push_of_some
abbrev D_:=@List.mem_map
abbrev E_:=@List.getElem?_eq_some_iff
abbrev F_:=@Option.map_eq_some_iff
abbrev G_:=@List.mem_append
abbrev H_:=@List.getElem?_map
abbrev I_:=@Nat.le_refl
abbrev J_:=@List.getElem?_eq_getElem
abbrev K_:=@PySem.Heap.get?_push_size
abbrev L_:=@List.length_append
abbrev M_:=@if_neg
abbrev N_:=@List.map_append
abbrev O_:=@PySem.Heap.lt_size
abbrev P_:=@List.mem_singleton
abbrev Q_:=@Nat.le_trans
abbrev R_:=@Bool.false_ne_true
abbrev S_:=@if_pos
abbrev T_:=@PyProof.Rows.wpS_bind
abbrev U_:=@List.mem_of_getElem?
abbrev V_:=@PyProof.Rows.wpS_pure
abbrev W_:=@Nat.ne_of_lt
abbrev X_:=@Nat.lt_of_lt_of_le
abbrev YM:=@List.mem_append_left
abbrev YN:=@Array.getElem?_toList
abbrev YO:=@List.mem_append_right
abbrev YQ:=@List.size_toArray
abbrev YR:=@PySem.wpAny_newObj_type
abbrev YS:=@Array.length_toList
abbrev YT:=@List.map_map
abbrev YU:=@of_decide_eq_true
abbrev YV:=@List.mem_cons
abbrev YW:=@decide_eq_true
abbrev YX:=@Array.getElem?_eq_getElem
abbrev YY:=@List.take_length
abbrev YZ:=@Nat.zero_le
abbrev Y_:=@List.take_succ
abbrev ZA:=@PySem.W.mg_of
abbrev ZB:=@decide_eq_false
abbrev ZC:=@List.mem_filter
abbrev ZD:=@PySem.PassesOwn.never
abbrev ZE:=@Classical.byContradiction
abbrev ZF:=@PySem.Heap.SameBut.update
abbrev ZG:=@PySem.wpAny_holding
abbrev ZH:=@List.map_cons
abbrev ZI:=@PySem.wpAny_call_entry
abbrev ZJ:=@Bool.and_eq_true
abbrev ZK:=@List.mem_cons_of_mem
abbrev ZL:=@Option.some.inj
abbrev ZM:=@List.length_filter_le
abbrev ZN:=@decide_eq_true_iff
abbrev ZO:=@PySem.wpAny_setState_of
abbrev ZP:=@Nat.le_succ_of_le
abbrev ZQ:=@PySem.Heap.get?_update_self
abbrev ZR:=@PySem.wpAny_callSpecial?_slot
abbrev ZS:=@List.length_cons
abbrev ZT:=@PyProof.Rows.boot_tuple
abbrev ZU:=@List.drop_eq_getElem_cons
abbrev ZV:=@PySem.boot_len
abbrev ZW:=@List.nodup_append
abbrev ZX:=@List.length_take
abbrev ZY:=@List.mem_range
abbrev ZZ:=@PySem.Paired.length
abbrev Z_:=@List.mem_cons_self
abbrev aA:=@List.nodup_nil
abbrev aB:=@Nat.lt_or_ge
abbrev aC:=@List.length_range
abbrev aD:=@List.getElem?_append_right
abbrev aE:=@List.any_eq_true
abbrev aF:=@Exists.elim
abbrev aG:=@Array.getElem?_eq_none
abbrev aH:=@Nat.lt_of_succ_lt
abbrev aJ:=@PySem.F.slot_list_append
abbrev aK:=@PySem.F.type_list_append
abbrev aL:=@PySem.W.mg_none_of
abbrev aM:=@Array.getD_eq_getD_getElem?
abbrev aN:=@PyProof.Rows.slot_tuple_getitem
abbrev aO:=@List.nodup_cons
abbrev aP:=@PySem.wpAny_mono
abbrev aQ:=@List.all_eq_true
abbrev aR:=@List.mem_flatMap
abbrev aS:=@PySem.Around.under_plainId
abbrev aT:=@List.getElem?_append_left
abbrev aU:=@Nat.le_of_lt
abbrev aV:=@PySem.Calls.spliced_cons
abbrev aW:=@PySem.Obj.data_mapFields
abbrev aX:=@PyProof.Rows.wpS_forRange
abbrev aY:=@List.append_nil
abbrev aZ:=@List.lookup_cons
abbrev a_:=@PySem.Calls.spliced_nil
abbrev bA:=@PySem.wpAny_dictEntries
abbrev bB:=@congrArg
abbrev bC:=@List.getD_eq_getElem?_getD
abbrev bD:=@PySem.wpAny_isInstance
abbrev bE:=@PySem.wpAny_rule
abbrev bF:=@PySem.wpAny_field
abbrev bG:=@Nat.lt_irrefl
abbrev bH:=@PySem.wpAny_fieldsOf
abbrev bI:=@PySem.F.slot_list_extend
abbrev bJ:=@PySem.F.type_list_extend
abbrev bK:=@PySem.wpAny_specialOf
abbrev bL:=@PySem.codeAny_builtin
abbrev bM:=@PySem.wpAny_Call_Name_kw
abbrev bN:=@PyProof.Rows.callWith_type1
abbrev bO:=@PySem.wpAny_attempt
abbrev bP:=@PySem.plainId_quiet
abbrev bQ:=@PySem.Heap.get?_update_other
abbrev bR:=@PySem.isSubtype_type
abbrev bS:=@Nat.le_of_lt_succ
abbrev bT:=@PySem.Heap.size_push
abbrev bU:=@Int.toNat_natCast
abbrev bV:=@Nat.lt_succ_of_lt
abbrev bW:=@PyProof.Rows.wpS_mono
abbrev bX:=@Array.toList_append
abbrev bY:=@PySem.wpAny_of_eq
abbrev bZ:=@PySem.builtinLookup_eq_fast
abbrev b_:=@List.getElem_mem
abbrev cB:=@Nat.lt_succ_self
abbrev cD:=@List.drop_length
abbrev cF:=@PySem.wpAny_typeNameOfWhole_itemiter
abbrev cH:=@List.any_cons
abbrev cJ:=@List.eq_nil_of_length_eq_zero
abbrev cK:=@PySem.wpAny_setField
abbrev cL:=@PySem.wpAny_typeNameOfWhole_keyiter
abbrev cN:=@PySem.wpAny_pyIter_list
abbrev cP:=@PySem.wpAny_pyIter_slot
abbrev cQ:=@List.pairwise_map
abbrev cU:=@Bool.or_eq_true
abbrev cV:=@Bool.eq_iff_iff
abbrev cW:=@List.foldl_cons
abbrev cX:=@PySem.wpAny_dictEpoch
abbrev cY:=@PyProof.Rows.wpS_modify
abbrev cZ:=@List.map_congr_left
abbrev c_:=@Ne.symm
abbrev dA:=@Nat.lt_trans
abbrev dB:=@List.take_of_length_le
abbrev dC:=@Nat.le_succ
abbrev dD:=@Nat.le_add_right
abbrev dE:=@PySem.tupleKind_room_in1
abbrev dF:=@Nat.lt_of_le_of_lt
abbrev dG:=@PySem.wpAny_setField_rec
abbrev dH:=@PySem.Obj.isFreed_of_fields
abbrev dI:=@List.getElem?_eq_none
abbrev dJ:=@PySem.wpAny_typeNameOf_itemiter
abbrev dL:=@List.exists_mem_of_ne_nil
abbrev dM:=@PySem.wpAny_passesOwn
abbrev dN:=@List.take_sublist
abbrev dO:=@List.mem_of_mem_take
abbrev dP:=@PyProof.Rows.Reads.keeps
abbrev dQ:=@PySem.wpAny_typeNameOf_keyiter
abbrev dS:=@List.filterMap_cons
abbrev dU:=@PySem.mem_of_lookup
abbrev dW:=@PyProof.Rows.callWith_builtin1
abbrev dX:=@PySem.F.plainAttrs_dict
abbrev dY:=@PySem.wpAny_getItem_str_slice
abbrev dZ:=@PySem.wpAny_forIn_list
abbrev d_:=@PySem.wpAny_seqItems
abbrev eA:=@PySem.wpAny_typeNameOfWhole_valiter
abbrev eB:=@Int.natCast_nonneg
abbrev eC:=@PySem.Calls.callWith_builtin
abbrev eD:=@Nat.le_of_eq
abbrev eF:=@List.pairwise_lt_range
abbrev eG:=@Nat.pos_of_ne_zero
abbrev eI:=@PySem.wpAny_isOneOf_itemiter
abbrev eJ:=@PySem.F.slot_tuple_mul
abbrev eK:=@PySem.typeLookup_type
abbrev eM:=@Int.ofNat.inj
abbrev eN:=@List.sum_cons
abbrev eO:=@List.length_singleton
abbrev eQ:=@List.take_append_drop
abbrev eT:=@PySem.wpAny_notOrdered_dict
abbrev eU:=@PySem.wpAny_truthy_bool
abbrev eV:=@Array.getElem?_eq_some_iff
abbrev eX:=@List.filter_cons
abbrev eY:=@Nat.succ_le_succ
abbrev eZ:=@List.extract_eq_take_drop
abbrev e_:=@List.getElem_of_mem
abbrev fA:=@List.flatMap_append
abbrev fB:=@PySem.F.args_tuple_add_2
abbrev fC:=@Bool.false_or
abbrev fD:=@PySem.F.slot_dict_itemiterator_iter
abbrev fE:=@PySem.wpAny_updateSeq
abbrev fF:=@List.filter_append
abbrev fG:=@Array.forIn_toList
abbrev fH:=@Nat.eq_or_lt_of_le
abbrev fI:=@Sum.inl.inj
abbrev fJ:=@PySem.F.entry_tuple_add
abbrev fK:=@List.length_eq_zero_iff
abbrev fL:=@Nat.ne_of_gt
abbrev fM:=@PySem.wpAny_pyNext_list_item
abbrev fN:=@PySem.F.slot_tuple_add
abbrev fO:=@PySem.wpAny_typeOf
abbrev fP:=@Option.isSome_map
abbrev fQ:=@PySem.call_meetsIn
abbrev fS:=@List.drop_zero
abbrev fU:=@Nat.le_of_succ_le
abbrev fV:=@List.append_assoc
abbrev fW:=@PySem.Obj.cls_mapFields
abbrev fX:=@PySem.isSubtype_stop
abbrev fY:=@PySem.wpAny_storeSet_of
abbrev fZ:=@List.ext_getElem?
abbrev f_:=@PySem.wpAny_runValue
abbrev gA:=@PySem.eqIsQuiet_byValue
abbrev gB:=@List.length_pos_of_mem
abbrev gC:=@PyProof.Rows.wpS_get
abbrev gD:=@Nat.add_le_add
abbrev gE:=@PySem.wpAny_pyNext_list_end
abbrev gF:=@PySem.F.slot_dict_get
abbrev gG:=@PySem.wpAny_isOneOf_keyiter
abbrev gH:=@PySem.wpAny_isOneOf_valiter
abbrev gI:=@PyProof.Rows.boot_min
abbrev gJ:=@List.length_drop
abbrev gK:=@PySem.SeqAt.eqAt_reads
abbrev gL:=@decide_eq_decide
abbrev gM:=@PySem.wpAny_handled
abbrev gN:=@PySem.Calls.evalArgs_plain
abbrev gO:=@List.mem_of_mem_drop
abbrev gP:=@PySem.wpAny_letGo
abbrev gQ:=@Array.toList_extract
abbrev gR:=@PySem.wpAny_execs_nil
abbrev gS:=@List.of_mem_zip
abbrev gT:=@PySem.post_val_or_str
abbrev gU:=@Nat.not_lt_zero
abbrev gV:=@PySem.wpAny_ite_split
abbrev gW:=@beq_eq_false_iff_ne
abbrev gX:=@Nat.add_sub_cancel'
abbrev gY:=@List.filter_sublist
abbrev gZ:=@PySem.codeAny_mono
abbrev g_:=@Nat.succ_pos
abbrev hJ:=@List.mem_filterMap
abbrev hV:=@PySem.wpAny_pyIter_tuple
abbrev h_:=@PySem.wpAny_tupleItemsOf
abbrev iA:=@List.Perm.refl
abbrev iB:=@Int.emod_lt_of_pos
abbrev iC:=@Nat.testBit_or
abbrev iD:=@Nat.not_lt
abbrev iE:=@PySem.wpAny_throw
abbrev iF:=@Nat.lt_trichotomy
abbrev iG:=@Array.toList_push
abbrev iH:=@PySem.Heap.SameBut.refl
abbrev iI:=@List.flatten_cons
abbrev iJ:=@PySem.wpAny_standAt
abbrev iK:=@PySem.signature?_of
abbrev iL:=@Nat.add_assoc
abbrev iM:=@PySem.noFill_tuple_add
abbrev iN:=@Nat.le_of_not_lt
abbrev iO:=@beq_self_eq_true
abbrev iP:=@PySem.entryFor_of_tree
abbrev iQ:=@PySem.wpAny_askSetting
abbrev iR:=@Nat.zero_testBit
abbrev iS:=@Nat.not_lt_of_le
abbrev iT:=@PyProof.Rows.wpS_lift
abbrev iU:=@List.mem_flatten
abbrev iV:=@PySem.call_meets
abbrev iW:=@PySem.Txt.slice_le
abbrev iX:=@Nat.sub_self
abbrev iY:=@Prod.ext
abbrev iZ:=@PySem.Paired.snoc
abbrev i_:=@PySem.Value
abbrev jA:=@PySem.Shared
abbrev jG:=@PySem.PyData
abbrev jH:=@PySem.Addr
abbrev jI:=@PySem.W.Frag
abbrev jJ:=@PySem.Program
abbrev jK:=@PySem.World
abbrev jL:=@PySem.Expr
abbrev jM:=@PySem.Around
abbrev jN:=@PySem.Heap
abbrev jO:=@PySem.Obj
abbrev jP:=@PySem.Stmt
abbrev jQ:=@PySem.FuncData
abbrev jR:=@PyProof.Rows.Keyed
abbrev jS:=@PySem.Scope
abbrev jT:=@PySem.NameKind
abbrev jU:=@PySem.Result
abbrev jV:=@PyProof.Rows.SortSt
abbrev jW:=@PyProof.Rows.SortKind
namespace L2
theorem Zw{α:Sort _}{a b:α->Prop}{P:Prop}(h:∃x,a x/\b x)(k:∀x,a x->b x->P):P:=aF h λx y=>k x y.1 y.2
theorem Cz{α β:Sort _}{a b c:α->β->Prop}{P:Prop}(h:∃x y,a x y/\b x y/\c x y)(k:∀x y,a x y->b x y->c x y->P):P:=aF h λx h=>aF h λy h=>k x y h.1 h.2.1 h.2.2
theorem B9{α β γ:Sort _}{a b c d:α->β->γ->Prop}{P:Prop}(h:∃x y z,a x y z/\b x y z/\c x y z/\d x y z)(k:∀x y z,a x y z->b x y z->c x y z->d x y z->P):P:=aF h λx h=>aF h λy h=>aF h λz h=>k x y z h.1 h.2.1 h.2.2.1 h.2.2.2
theorem Ey{α β γ δ:Sort _}{a b c d e:α->β->γ->δ->Prop}{P:Prop}(h:∃x y z u,a x y z u/\b x y z u/\c x y z u/\d x y z u/\e x y z u)(k:∀x y z u,a x y z u->b x y z u->c x y z u->d x y z u->e x y z u->P):P:=aF h λx h=>aF h λy h=>aF h λz h=>aF h λu h=>k x y z u h.1 h.2.1 h.2.2.1 h.2.2.2.1 h.2.2.2.2
theorem MG{α β γ δ:Sort _}{a b c d e f:α->β->γ->δ->Prop}{P:Prop}(h:∃x y z u,a x y z u/\b x y z u/\c x y z u/\d x y z u/\e x y z u/\f x y z u)(k:∀x y z u,a x y z u->b x y z u->c x y z u->d x y z u->e x y z u->f x y z u->P):P:=aF h λx h=>aF h λy h=>aF h λz h=>aF h λu h=>k x y z u h.1 h.2.1 h.2.2.1 h.2.2.2.1 h.2.2.2.2.1 h.2.2.2.2.2
theorem Im{α β γ δ ε ζ:Sort _}{a b c d:α->β->γ->δ->ε->ζ->Prop}{P:Prop}(h:∃x y z u v w,a x y z u v w/\b x y z u v w/\c x y z u v w/\d x y z u v w)(k:∀x y z u v w,a x y z u v w->b x y z u v w->c x y z u v w->d x y z u v w->P):P:=aF h λx h=>aF h λy h=>aF h λz h=>aF h λu h=>aF h λv h=>aF h λw h=>k x y z u v w h.1 h.2.1 h.2.2.1 h.2.2.2
open PySem PySem.Spec PyProof.Rows
abbrev Key:=Sum Int Str
def Hx:Key->i_->Bool
 | .inl k,v=>Value.isInt k v
 | .inr x,v=>Value.isStrOf x v
def FO(w:jK):Key->Int
 | .inl k=>hashInt k
 | .inr x=>hashStr w x
theorem keyIs_shape:∀{k:Key} {v:i_},Hx k v=true->(∃i t,k=Sum.inl i/\v=Value.int i t)\/(∃x t,k=Sum.inr x/\v=Value.str x t)
 | .inl i,v,h=>by
  obtain⟨t,e⟩:=Value.isInt_shape (k:=i) (v:=v) h
  exact .inl ⟨i,t,rfl,e⟩
 | .inr x,v,h=>by
  obtain⟨t,e⟩:=Value.isStrOf_shape (x:=x) (v:=v) h
  exact .inr ⟨x,t,rfl,e⟩
theorem Tp(i:Int)(t:Tok):Hx (.inl i) (.int i t)=true:=by simp [Hx,Value.isInt]
theorem Tq(x:Str)(t:Tok):Hx (.inr x) (.str x t)=true:=by simp [Hx,Value.isStrOf]
theorem FP(a b:Int):decide ((Sum.inl a:Key)=Sum.inl b)=(a==b):=by
 by_cases e:a=b
 ·subst e;simp
 ·have h:¬(Sum.inl a:Key)=Sum.inl b:=λq=>e (fI q)
  rw [ZB h]
  exact(gW.mpr e).symm
theorem FQ(a b:Str):decide ((Sum.inr a:Key)=Sum.inr b)=decide (a=b):=by
 by_cases e:a=b
 ·subst e;simp
 ·have h:¬(Sum.inr a:Key)=Sum.inr b:=λq=>e (Sum.inr.inj q)
  rw [ZB h,ZB e]
theorem FR(a:Int)(b:Str):decide ((Sum.inl a:Key)=Sum.inr b)=false:=ZB (λq=>nomatch q)
theorem FS(a:Str)(b:Int):decide ((Sum.inr a:Key)=Sum.inl b)=false:=ZB (λq=>nomatch q)
def A8(prog:jJ)(w:jK):PySem.KeyKind prog w Key where
 is:=Hx
 hash:=FO w
 inj:=λv a b ha hb=>by
  rcases keyIs_shape ha with⟨i,t,rfl,rfl⟩ | ⟨x,t,rfl,rfl⟩
  ·rcases keyIs_shape hb with⟨j,u,rfl,e⟩ | ⟨y,u,rfl,e⟩
   ·injection e with e1 _;rw [e1]
   ·exact nomatch e
  ·rcases keyIs_shape hb with⟨j,u,rfl,e⟩ | ⟨y,u,rfl,e⟩
   ·exact nomatch e
   ·injection e with e1 _;rw [e1]
 byValue:=λk v h=>by
  rcases keyIs_shape h with⟨i,t,rfl,rfl⟩ | ⟨x,t,rfl,rfl⟩ <;> rfl
 pyHash:=λhv h=>by
  rcases keyIs_shape hv with⟨i,t,rfl,rfl⟩ | ⟨x,t,rfl,rfl⟩
  ·exact wpAny_pyHash_int h
  ·exact wpAny_pyHash_str h
 eqBool:=λhu hv h=>by
  rcases keyIs_shape hu with⟨i,t,rfl,rfl⟩ | ⟨x,t,rfl,rfl⟩
  ·rcases keyIs_shape hv with⟨j,u,rfl,rfl⟩ | ⟨y,u,rfl,rfl⟩
   ·rw [FP]at h;exact wpAny_eqBool_int h
   ·rw [FR]at h;exact SeqAt.EqAt.int_str i t y u _ _ _ _ h
  ·rcases keyIs_shape hv with⟨j,u,rfl,rfl⟩ | ⟨y,u,rfl,rfl⟩
   ·rw [FS]at h;exact SeqAt.EqAt.str_int x t j u _ _ _ _ h
   ·rw [FQ]at h;exact wpAny_eqBool_str h
 «strs»:=λk x t v h=>by
  rcases keyIs_shape h with⟨i,u,rfl,e⟩ | ⟨y,u,rfl,e⟩
  ·exact nomatch e
  ·injection e with e1 _
   subst e1
   cases v <;> rfl
theorem Ct(prog:jJ)(w:jK)(i:Int)(t:Tok):(A8 prog w).is (.inl i) (.int i t)=true:=Tp i t
theorem Fb(prog:jJ)(w:jK)(x:Str)(t:Tok):(A8 prog w).is (.inr x) (.str x t)=true:=Tq x t
end L2
namespace L2
open PySem PySem.Spec PyProof.Rows
inductive V where
 | non | bl (b:Bool) | int (i:Int) | str (x:Str) | byt (b:Array UInt8) | flt (b:UInt64) | ref (a:jH) | ty (n:String)
 deriving DecidableEq
def Bi:V->i_->Prop
 | .non,u=>u=Value.none
 | .bl b,u=>u=Value.bool b
 | .int i,u=>∃t,u=Value.int i t
 | .str x,u=>∃t,u=Value.str x t
 | .byt b,u=>∃t,u=Value.bytes b t
 | .flt b,u=>∃t,u=Value.float b t
 | .ref a,u=>u=Value.ref a
 | .ty n,u=>u=Value.type n
abbrev Vals:List V->List i_->Prop:=Paired Bi
theorem Vals.length{xs:List V}{a:List i_}(r:Vals xs a):xs.length=a.length:=ZZ r
theorem Vals.get:∀{xs:List V} {a:List i_} {i:Nat} {x:V},Vals xs a->xs[i]?=some x->∃u,a[i]?=some u/\Bi x u
 | _,_,_,_,.nil,e=>by simp at e
 | _,_,0,_,.cons r _,e=>by simp at e;subst e;exact⟨_,rfl,r⟩
 | _,_,i+1,x,.cons _ t,e=>by
  obtain⟨u,h1,h2⟩:=Vals.get (i:=i) (x:=x) t (by simpa using e)
  exact⟨u,by simpa using h1,h2⟩
theorem Vals.set{x:V}{u:i_}(r:Bi x u):∀{xs:List V} {a:List i_} (i:Nat),Vals xs a->Vals (xs.set i x) (a.set i u)
 | _,_,_,.nil=>.nil
 | _,_,0,.cons _ t=>.cons r t
 | _,_,i+1,.cons q t=>.cons q (Vals.set r i t)
theorem Vals.append:∀{xs ys:List V} {b a:List i_},Vals xs b->Vals ys a->Vals (xs++ys) (b++a)
 | _,_,_,_,.nil,s=>s
 | _,_,_,_,.cons r t,s=>.cons r (Vals.append t s)
theorem Vals.take:∀{xs:List V} {a:List i_} (n:Nat),Vals xs a->Vals (xs.take n) (a.take n)
 | _,_,0,_=>.nil
 | _,_,_+1,.nil=>.nil
 | _,_,n+1,.cons r t=>.cons r (Vals.take n t)
theorem Vals.drop:∀{xs:List V} {a:List i_} (n:Nat),Vals xs a->Vals (xs.drop n) (a.drop n)
 | _,_,0,r=>r
 | _,_,_+1,.nil=>.nil
 | _,_,n+1,.cons _ t=>Vals.drop n t
def Ha:Option V->Option i_->Prop
 | some v,some u=>Bi v u
 | none,none=>True
 | _,_=>False
def KV{κ:Type}:List (κ×V)->List (κ×i_)->Prop:=Paired λ(p:κ×V) (q:κ×i_)=>p.1=q.1/\Bi p.2 q.2
def kV:Key->V
 | .inl i=>.int i
 | .inr x=>.str x
mutual
def Bg(w:jK):jG->Int
 | .int i=>FO w (.inl i)
 | .str x=>FO w (.inr x)
 | .tuple a=>reduceHash (Builtin.Tuple.tupleHashOf (Dc w a))
 | _=>0
def Dc(w:jK):List jG->List Int
 | []=>[]
 | d :: a=>Bg w d :: Dc w a
end
def SW(w:jK)(x:jG×jH×i_):DictEntry:=⟨Bg w x.1,.ref x.2.1,x.2.2⟩
def SX(w:jK)(h:jN)(a:jH)(xs:List (jG×jH×i_)):Prop :=
 ∃o b c,h.get? a=some o/\o.ExactDict/\o.data=.dict b c/\b.toList=xs.map (SW w)/\(xs.map (·.1)).Nodup/\(a==sysModules)=false/\xs.length<=sizeLine
inductive HO where
 | lst (xs:List V)
 | tup (xs:List V)
 | dK (kvs:List (Key×V)) | dT (kvs:List (List Key×V))
 | set (S:Int->Bool) (n:Nat)
 | ins (C dx:jH) (fs:List (Str×V))
 | own (x:jH)
 | xd (fs:List (Str×V))
 | met (f x:jH)
 | rng (lo hi:Int)
 | frz (o:jO) (u:HO)
 | tbl (ps:Array i_)
 | ext (φ:jN->Prop)
 | dd (xs:List (jG×jH×i_))
abbrev Hp:=jH->Option HO
def upd(H:Hp)(a:jH)(o:HO):Hp:=λb=>if b=a then some o else H b
theorem Bo{H:Hp}{a:jH}{o:HO}:upd H a o a=some o:=by unfold upd;rw [S_ rfl]
theorem Au{H:Hp}{a b:jH}{o:HO}(h:b≠a):upd H a o b=H b:=by unfold upd;rw [M_ h]
theorem Nm{H:Hp}{a b:jH}{o u:HO}(h:H a=some o)(h':H b=some u)(d:o≠u):a≠b:=by
 intro e;subst e;rw [h]at h';exact d (ZL h')
theorem B5{H:Hp}{a b:jH}{o:HO}(h:H a=some o)(h':H b=none):a≠b:=by
 intro e;subst e;rw [h]at h';cases h'
section
variable(P:jJ)(w:jK)
def Br(H:Hp)(h:jN)(a:jH):HO->Prop
 | .lst b=>b.length<=sizeLine/\∃(g:List i_) (n:Nat),Vals b g/\h.get? a=some { cls:=.type "list",data:=.seq g.toArray n }
 | .tup b=>b.length<=sizeLine/\∃g:List i_,Vals b g/\IsTup h a g.toArray
 | .dK c=>c.length<=sizeLine/\(a==sysModules)=false/\∃k,KV c k/\h.DictOf (A8 P w) a k
 | .dT c=>c.length<=sizeLine/\(a==sysModules)=false/\∃b:List (List Key×jH×i_),
   Paired (λ(p:List Key×V) (q:List Key×jH×i_)=>p.1=q.1/\H q.2.1=some (.tup (p.1.map kV))/\Bi p.2 q.2.2) c b /\
   ∃o j m,h.get? a=some o/\o.ExactDict/\o.data=.dict j m/\j.toList=b.map (entryOfKey (tupleKind (A8 P w)))/\(b.map (·.1)).Nodup
 | .set S n=>h.SetOf (intKind P w) a S n
 | .ins C i e=>H i=some (.own a)/\e.length<=1000/\i≠a/\h.get? a=some (PySem.W.instObj C i) /\
   ∃d,h.Ns1 i d/\(∀f,Ha (e.lookup f) (d f))/\PySem.Within d (e.map (·.1))
 | .own _=>∃o,h.get? a=some o
 | .xd e=>∃d,h.Ns1 a d/\∀f,Ha (e.lookup f) (d f)
 | .rng lo l=>∃t u v,h.get? a=some { cls:=.type "range",data:=.fields #[.int lo t,.int l u,.int 1 v] }
 | .frz o u=>h.get? a=some o/\Br H h a u
 | .tbl r=>h.get? a=some { cls:=.none,data:=.fields r }
 | .met f x=>h.get? a=some (PySem.W.methodObj (.ref f) (.ref x))
 | .ext φ=>φ h/\(∃o,h.get? a=some o)/\∀h1 h2:jN,φ h1->(∀o,h1.get? a=some o->h2.get? a=some o)->φ h2
 | .dd b=>SX w h a b
def HOk(H:Hp)(h:jN):Prop:=∀a o,H a=some o->Br P w H h a o
end
section
variable {P:jJ}{w:jK}{H H':Hp}{h h':jN}{a:jH}{o:HO}{x e:jH}{o':HO}{fs fs' ex ex':List jH}{H1 H2:Hp}{h1 h2:jN}
theorem Br.lt(x:Br P w H h a o):a < h.objs.size:=by
 cases o with
 | lst c=>obtain⟨_,_,_,_,e⟩:=x;exact O_ e
 | tup c=>obtain⟨_,_,_,p⟩:=x;exact p.lt
 | dK b=>obtain⟨_,_,_,_,o,_,_,e,_⟩:=x;exact O_ e
 | dT b=>obtain⟨_,_,_,_,o,_,_,e,_⟩:=x;exact O_ e
 | set S n=>obtain⟨o,_,_,_,e,_⟩:=x;exact O_ e
 | ins C g fs=>obtain⟨_,_,_,e,_⟩:=x;exact O_ e
 | own y=>obtain⟨_,e⟩:=x;exact O_ e
 | xd fs=>obtain⟨_,⟨_,_,_,e,_⟩,_⟩:=x;exact O_ e
 | rng lo j=>obtain⟨_,_,_,e⟩:=x;exact O_ e
 | frz i u=>obtain⟨e,_⟩:=x;exact O_ e
 | tbl d=>exact O_ (show h.get? a=some _ from x)
 | met f y=>exact O_ (show h.get? a=some _ from x)
 | ext φ=>obtain⟨_,⟨_,e⟩,_⟩:=x;exact O_ e
 | dd c=>obtain⟨_,_,_,e,_⟩:=x;exact O_ e
theorem Paired.mapP{α β:Type}{F G:α->β->Prop}:∀{l₁:List α} {l₂:List β},Paired F l₁ l₂->(∀a b,F a b->G a b)->Paired G l₁ l₂
 | _,_,.nil,_=>.nil
 | _,_,.cons r t,f=>.cons (f _ _ r) (Paired.mapP t f)
theorem Br.stay(x:Br P w H h a o)(k:∀b u,(b=a\/H b=some (.own a))->h.get? b=some u->h'.get? b=some u)
  (F:∀b,H b=some (.own a)->H' b=some (.own a)) (I:∀b l,H b=some (.tup l)->H' b=some (.tup l)):Br P w H' h' a o:=by
 induction o with
 | lst l=>obtain⟨z,s,n,r,e⟩:=x;exact⟨z,s,n,r,k _ _ (.inl rfl) e⟩
 | tup l=>obtain⟨z,s,r,j,e,c⟩:=x;exact⟨z,s,r,j,k _ _ (.inl rfl) e,c⟩
 | dK B=>obtain⟨z,y,J,r,j,i,g,e,c⟩:=x;exact⟨z,y,J,r,j,i,g,k _ _ (.inl rfl) e,c⟩
 | dT B =>
  obtain⟨z,y,l,r,j,i,g,e,c⟩:=x
  exact⟨z,y,l,Paired.mapP r λp q z=>⟨z.1,I _ _ z.2.1,z.2.2⟩,j,i,g,k _ _ (.inl rfl) e,c⟩
 | set S n=>obtain⟨j,i,g,t,e,c⟩:=x;exact⟨j,i,g,t,k _ _ (.inl rfl) e,c⟩
 | ins C M fs =>
  obtain⟨d,z,ne,e,m,⟨A,i,g,G,c⟩,r⟩:=x
  exact⟨F _ d,z,ne,k _ _ (.inl rfl) e,m,⟨A,i,g,k _ _ (.inr d) G,c⟩,r⟩
 | own y=>obtain⟨j,e⟩:=x;exact⟨j,k _ _ (.inl rfl) e⟩
 | xd fs=>obtain⟨m,⟨A,i,g,e,c⟩,r⟩:=x;exact⟨m,⟨A,i,g,k _ _ (.inl rfl) e,c⟩,r⟩
 | rng lo L=>obtain⟨t,u,v,e⟩:=x;exact⟨t,u,v,k _ _ (.inl rfl) e⟩
 | frz j u E=>obtain⟨e,q⟩:=x;exact⟨k _ _ (.inl rfl) e,E q⟩
 | tbl D =>
  have e:h.get? a=some { cls:=.none,data:=.fields D }:=x
  show h'.get? a=some { cls:=.none,data:=.fields D }
  exact k a _ (.inl rfl) e
 | met f y =>
  have e:h.get? a=some (PySem.W.methodObj (.ref f) (.ref y)):=x
  show h'.get? a=some (PySem.W.methodObj (.ref f) (.ref y))
  exact k a _ (.inl rfl) e
 | ext φ=>obtain⟨p,⟨o,e⟩,st⟩:=x;exact⟨st _ _ p λo q=>k _ _ (.inl rfl) q,⟨o,k _ _ (.inl rfl) e⟩,st⟩
 | dd l=>obtain⟨o,i,g,e,c⟩:=x;exact⟨o,i,g,k _ _ (.inl rfl) e,c⟩
theorem HOk.lt(x:HOk P w H h)(e:H a=some o):a < h.objs.size:=(x a o e).lt
theorem HOk.fresh(x:HOk P w H h)(e:h.objs.size<=a):H a=none:=by
 cases q:H a with
 | none=>rfl
 | some u=>exact absurd (X_ (x.lt q) e) (bG _)
theorem HOk.kept(x:HOk P w H h)(k:∀b u,h.get? b=some u->h'.get? b=some u):HOk P w H h':=λa o e =>
 (x a o e).stay (λb u _ q=>k b u q) (λ_ q=>q) λ_ _ q=>q
theorem HOk.laid(x:HOk P w H h)(k:∀b u,h.get? b=some u->h'.get? b=some u)(hp:h.objs.size<=a)(d:Br P w (upd H a o) h' a o):HOk P w (upd H a o) h':=λb u e=>by
 have f:=x.fresh hp
 by_cases hb:b=a
 ·subst hb;rw [Bo]at e;cases e;exact d
 ·rw [Au hb]at e
  exact(x b u e).stay (λc v _ q=>k c v q) (λc q=>by rw [Au (B5 q f)];exact q) λc g q=>by rw [Au (B5 q f)];exact q
def Rd(H:Hp)(a:jH)(u:HO):Prop:=H a=some u\/∃o,H a=some (.frz o u)
theorem Rd.ok{P:jJ}{w:jK}{H:Hp}{h:jN}{a:jH}{u:HO}(r:Rd H a u)(x:HOk P w H h):Br P w H h a u:=by
 rcases r with r | ⟨o,r⟩
 ·exact x a u r
 ·obtain⟨_,q⟩:=x a _ r
  exact q
def Mut:Option HO->Prop
 | some (.lst _)=>True
 | some (.dK _)=>True
 | some (.dT _)=>True
 | some (.set _ _)=>True
 | some (.ins _ _ _)=>True
 | some (.ext _)=>True
 | some (.dd _)=>True
 | _=>False
theorem HOk.write(ok:HOk P w H h)(g:Mut (H x))(he:e=x\/H e=some (.own x))(k:∀b u,b≠e->h.get? b=some u->h'.get? b=some u)(n:∃u,h'.get? e=some u)
  (j:Br P w (upd H x o') h' x o'):HOk P w (upd H x o') h':=λb u q=>by
 have m:∀c y,H c=some (.own y)->c≠x:=λc y r z=>by subst z;rw [r]at g;exact g
 have i:∀c f,H c=some (.tup f)->c≠x:=λc f r z=>by subst z;rw [r]at g;exact g
 by_cases hb:b=x
 ·subst hb;rw [Bo]at q;cases q;exact j
 ·rw [Au hb]at q
  by_cases d:b=e
  ·have l:H b=some (.own x):=by
    rcases he with z | z
    ·exact absurd (d.trans z) hb
    ·rw [d];exact z
   rw [q]at l;cases l
   obtain⟨v,hv⟩:=n
   exact⟨v,by rw [d];exact hv⟩
  ·refine(ok b u q).stay (λc v hc r=>k c v ?_ r) (λc r=>by rw [Au (m c b r)];exact r) λc f r=>by rw [Au (i c f r)];exact r
   rcases hc with rfl | hc
   ·exact d
   ·rintro rfl
    rcases he with z | z
    ·exact m c b hc z
    ·rw [hc]at z;cases z;exact hb rfl
structure Un(fs ex:List jH)(H H':Hp)(h h':jN):Prop where
 keep:∀b o,h.get? b=some o->H b=none->b∉fs->b∉ex->h'.get? b=some o
 slot:∀b o,h.get? b=some o->H b=none->b∈fs->b∉ex->∃sl,h'.get? b=some { o with slots:=sl }
 free:∀b o,h.get? b=some o->H b=none->b∉ex->H' b=none
 there:∀b o,h.get? b=some o->b∉ex->∃o',h'.get? b=some o'
 tups:∀b xs,H b=some (.tup xs)->H' b=some (.tup xs)
 frzs:∀b o u,H b=some (.frz o u)->H' b=some (.frz o u)
 tbls:∀b ps,H b=some (.tbl ps)->∃more,H' b=some (.tbl (ps++more))
theorem Un.any(u:Un fs ex H H1 h h1){b:jH}{c:jO}(q:h.get? b=some c)(n:H b=none)(hx:b∉ex):∃d,h1.get? b=some { c with slots:=d }:=by
 by_cases hb:b∈fs
 ·exact u.slot b c q n hb hx
 ·exact⟨c.slots,u.keep b c q n hb hx⟩
theorem Un.kept(k:∀b u,h.get? b=some u->h'.get? b=some u):Un fs ex H H h h' :=
 ⟨λb c q _ _ _=>k b c q,λb c q _ _ _=>⟨c.slots,k b c q⟩,λ_ _ _ n _=>n,λb c q _=>⟨c,k b c q⟩,λ_ _ q=>q,λ_ _ _ q=>q,λ_ d q=>⟨#[],by rw [q];simp⟩⟩
theorem Un.refl:Un fs ex H H h h:=Un.kept λ_ _ q=>q
theorem Un.laid(k:∀b u,h.get? b=some u->h'.get? b=some u)(hp:h.objs.size<=a)(c:H a=none):Un fs ex H (upd H a o) h h' where
 keep:=λb u q _ _ _=>k b u q
 slot:=λb u q _ _ _=>⟨u.slots,k b u q⟩
 free:=λb u q n _=>by rw [Au (W_ (X_ (O_ q) hp))];exact n
 there:=λb u q _=>⟨u,k b u q⟩
 tups:=λb d q=>by rw [Au (B5 q c)];exact q
 frzs:=λb u d q=>by rw [Au (B5 q c)];exact q
 tbls:=λb f q=>⟨#[],by rw [Au (B5 q c),q];simp⟩
theorem Un.write(d:Mut (H x))(he:e=x\/H e=some (.own x))(k:∀b u,b≠e->h.get? b=some u->h'.get? b=some u)(j:∃u,h'.get? e=some u):Un fs ex H (upd H x o) h h':=by
 have hx:∀b,H b=none->b≠x:=λb n z=>by subst z;rw [n]at d;exact d
 have hb:∀b,H b=none->b≠e:=λb n z=>by
  subst z
  rcases he with r | r
  ·exact hx b n r
  ·rw [n]at r;cases r
 have f:∀b u,H b=some u->¬Mut (some u)->b≠x:=λb u q i z=>by subst z;rw [q]at d;exact i d
 refine⟨λb u q n _ _=>k b u (hb b n) q,λb u q n _ _=>⟨u.slots,k b u (hb b n) q⟩,λb u q n _=>by rw [Au (hx b n)];exact n,λb u q _=>?_,
  λb g q=>by rw [Au (f b _ q λz=>z)];exact q,λb u g q=>by rw [Au (f b _ q λz=>z)];exact q,λb l q=>⟨#[],by rw [Au (f b _ q λz=>z),q];simp⟩⟩
 by_cases c:b=e
 ·subst c;exact j
 ·exact⟨u,k b u c q⟩
end
def trk(h:jN)(H:Hp):List jH:=(List.range h.objs.size).filter λa=>(H a).isSome
def Mb(h:jN)(H:Hp):jN:=PySem.W.hideAll h (trk h H)
theorem Tr(h:jN)(H:Hp):(Mb h H).objs.size=h.objs.size:=PySem.W.hideAll_size _ _
theorem Vo{h:jN}{H:Hp}{b:jH}{o:jO}(e:h.get? b=some o)(n:H b=none):(Mb h H).get? b=some o :=
 PySem.W.hideAll_get _ e λa=>by
  have q:(H b).isSome=true:=(ZC.mp a).2
  rw [n]at q;simp at q
theorem Zx{h:jN}{H:Hp}{b:jH}{o:jO}(e:(Mb h H).get? b=some o):h.get? b=some o/\H b=none:=by
 have a:h.get? b=some o:=PySem.W.of_hideAll (trk h H) e
 refine⟨a,?_⟩
 cases q:H b with
 | none=>rfl
 | some x =>
  have c:b∈trk h H:=ZC.mpr ⟨ZY.mpr (O_ a),by simp [q]⟩
  have z:(Mb h H).get? b=none:=PySem.W.hideAll_none (trk h H) c
  rw [z]at e;cases e
def Zy(g h:jN)(L:jH):List (jH×jO):=(List.range h.objs.size).filterMap λa=>if a=L\/(g.get? a).isSome=true then none else(h.get? a).map λo=>(a,o)
def rest(g h:jN)(L d:jH):List (jH×jO):=(Zy g h L).filter λp=>decide (p.1≠d)
structure Mod(K:jI)(mg:Str->Option i_)(base:jN):Prop where
 kin:K.In base
 glob:base.Ns mainGlobals mg
 blt:∃mb,base.Ns builtinsNs mb/\∀x:Str,x ≠ "__name__" -> mb x=bootBuiltins x
 nolimit:base.NoLimit
structure Cx where
 prog:jJ
 w:jK
 K:jI
 mg:Str->Option i_
 base:jN
 A:jM
 N:List Str
 s₀:jA
 H₀:Hp
 env:Env
 outer:List Env
 stack:List Env
 ex:List jH
 fn:Str->Bool
 calm:Bool
 pn:List (jH×jO)
 xe:i_->jA->Prop
def frs(l:List Env):List jH:=l.filterMap (·.frame)
abbrev Cx.fs(X:Cx):List jH:=frs X.outer
def Vis(a:jS)(x:Str):Prop:=a.names.lookup x=some .local\/a.names.lookup x=some .cell\/a.names.lookup x=some .free
def Loc(a:jS)(x:Str):Prop:=a.names.lookup x=some .local\/a.names.lookup x=some .cell
def Look(env:Env)(h:jN)(m:Str->Option i_)(x:Str)(u:i_):Prop :=
 (env.kindOf x=some .local/\m x=some u)\/((env.kindOf x=some .cell\/env.kindOf x=some .free)/\∃c,env.cells.lookup x=some c/\h.IsCell c (some u))
structure Cx.Ok(X:Cx):Prop where
 mod:Mod X.K X.mg X.base
 kind:X.env.scope.kind=.function
 glob:X.env.globals=mainGlobals
 blt:X.env.builtins=builtinsNs
 above:X.s₀.heap.objs.size<=X.env.locals
 inj:∀x y c,X.env.cells.lookup x=some c->X.env.cells.lookup y=some c->x=y
 has:∀x,(X.env.kindOf x=some .cell\/X.env.kindOf x=some .free)->∃c,X.env.cells.lookup x=some c
 cab:∀x c,X.fn x=true->X.env.cells.lookup x=some c->X.s₀.heap.objs.size<=c
 hd:X.calm=true->X.A.handled=none
 frames:X.A.frames=some X.stack
 stk:X.stack=X.outer\/(X.stack=X.env :: X.outer/\X.env.frame=some X.env.locals)
 exf:∀b∈X.ex,b≠X.env.locals/\∀x c,X.env.cells.lookup x=some c->c≠b
 bs:∀b o,X.base.get? b=some o->X.s₀.heap.get? b=some o/\X.H₀ b=none
 bsz:X.base.objs.size<=X.s₀.heap.objs.size
 noex:∀b o,X.base.get? b=some o->b∉X.ex
 exfs:∀b∈X.ex,b∉X.fs
 funs:X.s₀.heap.FunFrames X.base X.outer
 frf:∀b∈X.fs,X.H₀ b=none
structure Inv(X:Cx)(aa:List (jH×jO))(σ:List (Option V))(H:Hp)(s:jA):Prop where
 ok:X.Ok
 os:s.os=X.s₀.os
 bare:AllBare s.gens
 base:Un X.fs X.ex X.H₀ H X.s₀.heap s.heap
 loc:∃m,s.heap.Ns X.env.locals m/\∀(i:Nat) (x:Str) (v:V),X.N[i]?=some x->σ[i]?=some (some v)->Vis X.env.scope x->∃u,Bi v u/\Look X.env s.heap m x u
 cell:∀x c,X.env.cells.lookup x=some c->∃v,s.heap.IsCell c v
 free:H X.env.locals=none
 freeC:∀x c,X.env.cells.lookup x=some c->H c=none
 pin:∀p∈X.pn++aa,s.heap.get? p.1=some p.2/\H p.1=none/\p.1≠X.env.locals/\p.1∉X.fs/\∀v,p.2.data≠.cell v
 hok:HOk X.prog X.w H s.heap
 len:σ.length=X.N.length
section
variable {X:Cx}{aa:List (jH×jO)}{σ:List (Option V)}{H H':Hp}{s:jA}{h':jN}{a b:jL}{ta tb:TE}{pos:Pos}{tA j9:TT}{rest:List jL}
theorem Cx.Ok.nofr(ok:X.Ok){b:jH}{o:jO}(e:X.base.get? b=some o):b∉X.fs:=λhb=>by
 have:=(ok.funs.mem hb).1
 rw [e]at this;cases this
theorem Inv.bs(I:Inv X aa σ H s):∀b o,X.base.get? b=some o->s.heap.get? b=some o/\H b=none:=λb o e =>
 ⟨I.base.keep b o (I.ok.bs b o e).1 (I.ok.bs b o e).2 (I.ok.nofr e) (I.ok.noex b o e),I.base.free b o (I.ok.bs b o e).1 (I.ok.bs b o e).2 (I.ok.noex b o e)⟩
theorem Inv.bk(I:Inv X aa σ H s):∀b o,X.base.get? b=some o->s.heap.get? b=some o:=λb o e=>(I.bs b o e).1
theorem Inv.mod(I:Inv X aa σ H s):Mod X.K X.mg X.base:=I.ok.mod
theorem Inv.kIn(I:Inv X aa σ H s):X.K.In s.heap:=I.ok.mod.kin.keeps I.bk
theorem Inv.lt(I:Inv X aa σ H s):X.env.locals < s.heap.objs.size:=let⟨_,c,_⟩:=I.loc;c.lt
theorem Inv.sz(I:Inv X aa σ H s):X.s₀.heap.objs.size<=s.heap.objs.size:=Q_ I.ok.above (aU I.lt)
theorem Inv.nofs(I:Inv X aa σ H s){a:jH}(h:s.heap.objs.size<=a):a∉X.fs:=λhb=>by
 obtain⟨_,o,c,_⟩:=I.ok.funs.mem hb
 exact absurd (X_ (O_ c) (Q_ I.sz h)) (bG _)
theorem Inv.cne(I:Inv X aa σ H s):∀x c,X.env.cells.lookup x=some c->c≠X.env.locals:=λx c e z=>by
 obtain⟨v,o,f,g⟩:=I.cell x c e
 obtain⟨m,⟨o',i,j,d,h,_⟩,_⟩:=I.loc
 rw [z,d]at f;cases f;rw [h]at g;cases g
theorem Inv.funs(I:Inv X aa σ H s):s.heap.FunFrames X.base X.outer:=by
 have all:∀(l:List Env),(∀b∈frs l,b∈X.fs)->X.s₀.heap.FunFrames X.base l->s.heap.FunFrames X.base l:=by
  intro l
  induction l with
  | nil=>intro _ _;trivial
  | cons g r h =>
   intro f i
   obtain⟨hk,⟨L,o,d,m,k,n⟩,j⟩:=i
   have c:L∈X.fs:=f L (by unfold frs;rw [dS,d];exact Z_)
   obtain⟨p,e⟩:=I.base.slot L o k (I.ok.frf L c) c λz=>I.ok.exfs L z c
   exact⟨hk,⟨L,_,d,m,e,n⟩,h (λb hb=>f b (by unfold frs;rw [dS,d];exact ZK _ hb)) j⟩
 exact all X.outer (λ_ hb=>hb) I.ok.funs
theorem Inv.stack(I:Inv X aa σ H s):s.heap.FunFrames X.base X.stack:=by
 rcases I.ok.stk with e | ⟨e,d⟩
 ·rw [e];exact I.funs
 ·rw [e]
  obtain⟨m,c,_⟩:=I.loc
  refine .cons (by rw [I.ok.kind];decide) d c ?_ I.funs
  exact Heap.get?_none_of_le (Q_ I.ok.bsz I.ok.above)
theorem Inv.stkSub(I:Inv X aa σ H s):∀b∈frs X.stack,b∈X.env.locals :: X.fs:=λb hb=>by
 rcases I.ok.stk with e | ⟨e,c⟩
 ·rw [e]at hb;exact ZK _ hb
 ·rw [e]at hb
  unfold frs at hb
  rw [dS,c]at hb
  exact hb
theorem Inv.stkFree(I:Inv X aa σ H s):∀b∈frs X.stack,H b=none:=λb hb=>by
 rcases YV.mp (I.stkSub b hb) with e | hb
 ·rw [e];exact I.free
 ·obtain⟨_,o,c,_⟩:=I.ok.funs.mem hb
  exact I.base.free b o c (I.ok.frf b hb) λz=>I.ok.exfs b z hb
theorem Inv.step{g':Array GenState}{t':Nat}{d':Drawn}{ch:List jH}(I:Inv X aa σ H s)
  (D:∀b∈ch,(b∈X.ex\/X.s₀.heap.objs.size<=b)/\b≠X.env.locals/\(∀x c,X.env.cells.lookup x=some c->c≠b)/\∀p∈X.pn++aa,p.1≠b)
  (g:∀b o,b≠X.env.locals->b∉X.fs->b∉ch->s.heap.get? b=some o->H b=none->h'.get? b=some o)
  (slot:∀b o,b≠X.env.locals->b∈X.fs->b∉ch->s.heap.get? b=some o->H b=none->∃P,h'.get? b=some { o with slots:=P }) (f:∀b o,b∉ch->s.heap.get? b=some o->H b=none->H' b=none)
  (t:∀b o,b∉ch->s.heap.get? b=some o->∃o',h'.get? b=some o')
  (B:∀b j,H b=some (.tup j)->H' b=some (.tup j)) (C:∀b o u,H b=some (.frz o u)->H' b=some (.frz o u)) (G:∀b L,H b=some (.tbl L)->∃A,H' b=some (.tbl (L++A)))
  (ns:∀m,s.heap.Ns X.env.locals m->h'.Ns X.env.locals m) (O:HOk X.prog X.w H' h') (T:AllBare g') :
  Inv X aa σ H' { s with heap:=h',gens:=g',drawn:=d',toks:=t' }:=by
 have J:∀b o,X.s₀.heap.get? b=some o->b≠X.env.locals:=λb o e=>W_ (X_ (O_ e) I.ok.above)
 have M:∀b o,X.s₀.heap.get? b=some o->b∉X.ex->b∉ch:=λb o e hx hb=>by
  rcases(D b hb).1 with z | z
  ·exact hx z
  ·exact absurd (X_ (O_ e) z) (bG _)
 have R:∀x c,X.env.cells.lookup x=some c->∀v,s.heap.IsCell c v->h'.IsCell c v:=λx c e v ⟨o,y,Q⟩=>by
  have F:c∉ch:=λz=>(D c z).2.2.1 x c e rfl
  by_cases hc:c∈X.fs
  ·obtain⟨P,q⟩:=slot c o (I.cne x c e) hc F y (I.freeC x c e)
   exact⟨_,q,Q⟩
  ·exact⟨o,g c o (I.cne x c e) hc F y (I.freeC x c e),Q⟩
 refine⟨I.ok,I.os,T,⟨λb o e n hb hx=>?_,λb o e n hb hx=>?_,λb o e n hx=>?_,λb o e hx=>?_,λb j e=>B b j (I.base.tups b j e),λb o j e=>C b o j (I.base.frzs b o j e),λb L e=>?_⟩,?_,λx c e=>?_,?_,λx c e=>?_,λp hp=>?_,O,I.len⟩
 ·exact g b o (J b o e) hb (M b o e hx) (I.base.keep b o e n hb hx) (I.base.free b o e n hx)
 ·obtain⟨P,h⟩:=I.base.slot b o e n hb hx
  obtain⟨N,E⟩:=slot b _ (J b o e) hb (M b o e hx) h (I.base.free b o e n hx)
  exact⟨N,E⟩
 ·obtain⟨o',h⟩:=I.base.there b o e hx
  exact f b o' (M b o e hx) h (I.base.free b o e n hx)
 ·obtain⟨o',h⟩:=I.base.there b o e hx
  exact t b o' (M b o e hx) h
 ·obtain⟨m1,h⟩:=I.base.tbls b L e
  obtain⟨U,E⟩:=G b _ h
  exact⟨m1++U,by rw [E,Array.append_assoc]⟩
 ·obtain⟨m,Z,Y⟩:=I.loc
  refine⟨m,ns m Z,λi x v h E W=>?_⟩
  obtain⟨u,r,l⟩:=Y i x v h E W
  refine⟨u,r,?_⟩
  rcases l with l | ⟨k,c,e,z⟩
  ·exact .inl l
  ·exact .inr ⟨k,c,e,R x c e _ z⟩
 ·obtain⟨v,z⟩:=I.cell x c e
  exact⟨v,R x c e v z⟩
 ·obtain⟨m,⟨o,_,_,y,_⟩,_⟩:=I.loc
  exact f _ o (λz=>(D _ z).2.1 rfl) y I.free
 ·obtain⟨v,o,y,Q⟩:=I.cell x c e
  exact f c o (λz=>(D c z).2.2.1 x c e rfl) y (I.freeC x c e)
 ·obtain⟨e,n,ne,S,d⟩:=I.pin p hp
  have F:p.1∉ch:=λz=>(D p.1 z).2.2.2 p hp rfl
  exact⟨g p.1 p.2 ne S F e n,f p.1 p.2 F e n,ne,S,d⟩
theorem Inv.un{t':Nat}(I:Inv X aa σ H s)(u:Un X.fs [] H H' s.heap h')(d:HOk X.prog X.w H' h'):Inv X aa σ H' { s with heap:=h',toks:=t' }:=by
 obtain⟨m,⟨o,p,t,g,r⟩,_⟩:=id I.loc
 obtain⟨q,h⟩:=u.any g I.free (by simp)
 exact I.step (g':=s.gens) (d':=s.drawn) (ch:=[]) (λ_ z=>nomatch z) (λb o _ hb _ e n=>u.keep b o e n hb (by simp)) (λb o _ hb _ e n=>u.slot b o e n hb (by simp)) (λb o _ e n=>u.free b o e n (by simp)) (λb o _ e=>u.there b o e (by simp)) u.tups u.frzs u.tbls (λl k=>by
  obtain⟨o',j,f,c,i⟩:=k
  rw [g]at c;cases c
  exact⟨_,j,f,h,i⟩) d I.bare
theorem Inv.call{g':Array GenState}{t':Nat}{d':Drawn}{ch:List jH}(I:Inv X aa σ H s)(u:Un (frs X.stack) ch H H' s.heap h')(g:HOk X.prog X.w H' h')(k:AllBare g')
  (j:∀b∈ch,(b∈X.ex\/X.s₀.heap.objs.size<=b)/\b≠X.env.locals/\(∀x c,X.env.cells.lookup x=some c->c≠b)/\∀p∈X.pn++aa,p.1≠b) :
  Inv X aa σ H' { s with heap:=h',gens:=g',drawn:=d',toks:=t' }:=by
 obtain⟨m,⟨o,y,B,i,r⟩,_⟩:=id I.loc
 obtain⟨A,f⟩:=u.any i I.free λz=>(j _ z).2.1 rfl
 exact I.step (ch:=ch) j (λb o f hb hc e n=>u.keep b o e n (λz=>(YV.mp (I.stkSub b z)).elim f hb) hc) (λb o _ _ hc e n=>u.any e n hc) (λb o hc e n=>u.free b o e n hc) (λb o hc e=>u.there b o e hc) u.tups u.frzs u.tbls (λv t=>by
  obtain⟨o',q,h,d,l⟩:=t
  rw [i]at d;cases d
  exact⟨_,q,h,f,l⟩) g k
theorem Inv.turned{t':Nat}{d:jH}(I:Inv X aa σ H s)(k:∀b o,b≠d->s.heap.get? b=some o->h'.get? b=some o)(j:H d=none)(f:d≠X.env.locals)
  (h1:d∈X.ex\/X.s₀.heap.objs.size<=d) (h2:∀x c,X.env.cells.lookup x=some c->c≠d) (h:∀p∈X.pn++aa,p.1≠d):Inv X aa σ H { s with heap:=h',toks:=t' }:=by
 have g:∀b u,H b=some u->b≠d:=λb u e z=>by rw [z,j]at e;cases e
 refine I.step (g':=s.gens) (d':=s.drawn) (ch:=[d]) (λb hb=>?_) (λb o _ _ hc e _=>k b o (λz=>hc (by simp [z])) e) (λb o _ _ hc e _=>⟨o.slots,k b o (λz=>hc (by simp [z])) e⟩) (λ_ _ _ _ n=>n)
  (λb o hc e=>⟨o,k b o (λz=>hc (by simp [z])) e⟩) (λ_ _ e=>e) (λ_ _ _ e=>e) (λb y e=>⟨#[],by rw [e];simp⟩) (λm t=>?_) (λb u e=>?_) I.bare
 ·have e:b=d:=by simpa using hb
  subst e
  exact⟨h1,f,h2,h⟩
 ·obtain⟨o,i,w,l,r⟩:=t
  exact⟨o,i,w,k _ o (c_ f) l,r⟩
 ·refine(I.hok b u e).stay (λc v hc q=>k c v ?_ q) (λ_ q=>q) λ_ _ q=>q
  rcases hc with z | z
  ·rw [z];exact g b u e
  ·exact g c _ z
theorem Inv.tok(I:Inv X aa σ H s)(t:Nat):Inv X aa σ H { s with toks:=t }:=I.un (h':=s.heap) (t':=t) Un.refl I.hok
theorem Inv.kept{t':Nat}(I:Inv X aa σ H s)(k:∀b u,s.heap.get? b=some u->h'.get? b=some u):Inv X aa σ H { s with heap:=h',toks:=t' }:=I.un (Un.kept k) (I.hok.kept k)
theorem Inv.laid{a:jH}{o:HO}{t':Nat}(I:Inv X aa σ H s)(k:∀b u,s.heap.get? b=some u->h'.get? b=some u)(hp:s.heap.objs.size<=a)(c:Br X.prog X.w (upd H a o) h' a o) :
  Inv X aa σ (upd H a o) { s with heap:=h',toks:=t' }:=I.un (Un.laid k hp (I.hok.fresh hp)) (I.hok.laid k hp c)
theorem Inv.write{x e:jH}{o:HO}{t':Nat}(I:Inv X aa σ H s)(f:Mut (H x))(he:e=x\/H e=some (.own x))(k:∀b u,b≠e->s.heap.get? b=some u->h'.get? b=some u)(d:∃u,h'.get? e=some u)
  (c:Br X.prog X.w (upd H x o) h' x o):Inv X aa σ (upd H x o) { s with heap:=h',toks:=t' }:=I.un (Un.write f he k d) (I.hok.write f he k d c)
theorem Inv.pins_of{c:List (jH×jO)}(I:Inv X aa σ H s)(h:∀p∈c,s.heap.get? p.1=some p.2/\H p.1=none/\p.1≠X.env.locals/\p.1∉X.fs/\∀v,p.2.data≠.cell v):Inv X c σ H s :=
 ⟨I.ok,I.os,I.bare,I.base,I.loc,I.cell,I.free,I.freeC,λp hp=>(G_.mp hp).elim (λz=>I.pin p (YM _ z)) (h p),I.hok,I.len⟩
theorem Nn{N:List Str}(c:N.Nodup){i j:Nat}{x:Str}(a:N[i]?=some x)(b:N[j]?=some x):i=j:=by
 obtain⟨h1,d⟩:=E_.mp a
 obtain⟨h2,e⟩:=E_.mp b
 exact(List.getElem_inj c).mp (d.trans e.symm)
theorem K0{M:Model}{A:jM}{E:i_->jA->Prop}{i:Nat}{x:Str}{v:V}{u:i_}{Q:Unit->jA->Prop}(I:Inv X aa σ H s)(hN:X.N.Nodup)(B:X.N[i]?=some x)(hx:Loc X.env.scope x)(r:Bi v u)
  (h:∀S,Inv X aa (σ.set i (some v)) H S->(∃a,Heap.SameBut a s.heap S.heap/\(a=X.env.locals\/X.env.cells.lookup x=some a))->Q () S) (hf:X.fn x=true\/X.env.scope.names.lookup x=some .local:=by first | exact .inl rfl | exact .inr rfl | assumption):wpAny M A (storeName X.env x u) Q E s:=by
 obtain⟨m,hn,hl⟩:=id I.loc
 have R:(X.env.scope.kind==.class || (X.env.scope.kind==.module && X.env.locals != X.env.globals))=false:=by rw [I.ok.kind];rfl
 have Bσ:i < σ.length:=by rw [I.len];exact(E_.mp B).1
 have C:=I.cne
 have h9:∀{a:jH} {h':jN},(∃o,s.heap.get? a=some o/\H a=none)->Heap.SameBut a s.heap h'->HOk X.prog X.w H h':=λ{a h'} ha f b ob e=>by
  obtain⟨_,_,l⟩:=ha
  refine(I.hok b ob e).stay (λc J hc q=>(f.2 c ?_).trans q) (λ_ q=>q) λ_ _ q=>q
  rintro rfl
  rcases hc with rfl | hc
  ·rw [l]at e;cases e
  ·rw [l]at hc;cases hc
 rcases hx with hk | hk
 ·refine wpAny_storeName_local hk hn (λh' v6 f=>?_) R
  obtain⟨oL,_,_,O,_⟩:=id hn
  refine h _ ⟨I.ok,I.os,I.bare,⟨λb o e n hb hx=>?_,λb o e n hb hx=>?_,I.base.free,λb o e hx=>?_,I.base.tups,I.base.frzs,I.base.tbls⟩,⟨_,v6,λj y Z g t U=>?_⟩,λy c e=>?_,I.free,I.freeC,λp hp=>?_,h9 ⟨oL,O,I.free⟩ f,by simpa using I.len⟩ ⟨_,f,.inl rfl⟩
  ·exact(f.2 b (W_ (X_ (O_ e) I.ok.above))).trans (I.base.keep b o e n hb hx)
  ·obtain⟨P,g⟩:=I.base.slot b o e n hb hx
   exact⟨P,(f.2 b (W_ (X_ (O_ e) I.ok.above))).trans g⟩
  ·obtain⟨o',g⟩:=I.base.there b o e hx
   exact⟨o',(f.2 b (W_ (X_ (O_ e) I.ok.above))).trans g⟩
  ·by_cases hj:j=i
   ·subst hj
    rw [B]at g;cases g
    rw [List.getElem?_set_self Bσ]at t
    cases t
    exact⟨u,r,.inl ⟨hk,by simp⟩⟩
   ·rw [List.getElem?_set_ne (c_ hj)]at t
    obtain⟨T,Y,q⟩:=hl j y Z g t U
    refine⟨T,Y,?_⟩
    rcases q with⟨k,e⟩ | ⟨k,c,e,z⟩
    ·refine .inl ⟨k,?_⟩
     have:y≠x:=λe=>hj (Nn hN g (e ▸ B))
     simp [this,e]
    ·exact .inr ⟨k,c,e,z.sameBut f (C y c e)⟩
  ·obtain⟨J,z⟩:=I.cell y c e
   exact⟨J,z.sameBut f (C y c e)⟩
  ·obtain⟨e,n,ne,W,d⟩:=I.pin p hp
   exact⟨(f.2 p.1 ne).trans e,n,ne,W,d⟩
 ·have lm:X.fn x=true:=by
   rcases hf with z | z
   ·exact z
   ·rw [z]at hk;cases hk
  obtain⟨c,hc⟩:=I.ok.has x (.inl hk)
  obtain⟨J,z⟩:=I.cell x c hc
  refine wpAny_storeName_cell I.ok.kind hk hc z (λh' bi f=>?_)
  obtain⟨oc,D,F⟩:=id z
  refine h { s with heap:=h' } ⟨I.ok,I.os,I.bare,⟨λb o e n hb hx=>?_,λb o e n hb hx=>?_,I.base.free,λb o e hx=>?_,I.base.tups,I.base.frzs,I.base.tbls⟩,⟨m,hn.sameBut f (c_ (C x c hc)),λj y Z g t U=>?_⟩,λy L e=>?_,I.free,I.freeC,λp hp=>?_,h9 ⟨oc,D,I.freeC x c hc⟩ f,by simpa using I.len⟩ ⟨c,f,.inr hc⟩
  ·exact(f.2 b (W_ (X_ (O_ e) (I.ok.cab x c lm hc)))).trans (I.base.keep b o e n hb hx)
  ·obtain⟨P,g⟩:=I.base.slot b o e n hb hx
   exact⟨P,(f.2 b (W_ (X_ (O_ e) (I.ok.cab x c lm hc)))).trans g⟩
  ·obtain⟨o',g⟩:=I.base.there b o e hx
   exact⟨o',(f.2 b (W_ (X_ (O_ e) (I.ok.cab x c lm hc)))).trans g⟩
  ·by_cases hj:j=i
   ·subst hj
    rw [B]at g;cases g
    rw [List.getElem?_set_self Bσ]at t
    cases t
    exact⟨u,r,.inr ⟨.inl hk,c,hc,bi⟩⟩
   ·rw [List.getElem?_set_ne (c_ hj)]at t
    obtain⟨T,Y,q⟩:=hl j y Z g t U
    refine⟨T,Y,?_⟩
    rcases q with q | ⟨k,L,e,z'⟩
    ·exact .inl q
    ·refine .inr ⟨k,L,e,z'.sameBut f ?_⟩
     rintro rfl
     exact hj (Nn hN g (I.ok.inj _ _ _ e hc ▸ B))
  ·by_cases G:L=c
   ·subst G;exact⟨_,bi⟩
   ·obtain⟨w2,z2⟩:=I.cell y L e
    exact⟨w2,z2.sameBut f G⟩
  ·obtain⟨e,n,ne,W,d⟩:=I.pin p hp
   refine⟨(f.2 p.1 ?_).trans e,n,ne,W,d⟩
   intro q
   rw [q,D]at e
   have q':oc=p.2:=ZL e
   exact d J (by rw [<- q'];exact F)
theorem No{M:Model}{A:jM}{E:i_->jA->Prop}{i:Nat}{x:Str}{v:V}{u:i_}{Q:Unit->jA->Prop}(I:Inv X aa σ H s)(d:X.N.Nodup)(f:X.N[i]?=some x)(hx:Loc X.env.scope x)(r:Bi v u)
  (h:∀c,Inv X aa (σ.set i (some v)) H c->Q () c) (e:X.fn x=true\/X.env.scope.names.lookup x=some .local:=by first | exact .inl rfl | exact .inr rfl | assumption):wpAny M A (storeName X.env x u) Q E s :=
 K0 I d f hx r (λc g _=>h c g) e
theorem Inv.call'{d:jA}{ch:List jH}(I:Inv X aa σ H s)(h:d.os=s.os)(u:Un (frs X.stack) ch H H' s.heap d.heap)(f:HOk X.prog X.w H' d.heap)(g:AllBare d.gens)
  (i:∀b∈ch,(b∈X.ex\/X.s₀.heap.objs.size<=b)/\b≠X.env.locals/\(∀x c,X.env.cells.lookup x=some c->c≠b)/\∀p∈X.pn++aa,p.1≠b):Inv X aa σ H' d:=by
 obtain⟨h',g',d',t',o'⟩:=d
 have e:o'=s.os:=h
 subst e
 exact I.call (g':=g') (t':=t') (d':=d') u f g i
abbrev XK:=i_->Option jH->Hp->Prop
abbrev St:=List (Option V)
abbrev VK:=V->Hp->Prop
abbrev TE:=St->Hp->VK->Prop
abbrev TT:=St->Hp->(Bool->Hp->Prop)->Prop
abbrev TA:=St->Hp->(List V->Hp->Prop)->Prop
structure Ends where
 nx:St->Hp->Prop
 rt:VK
 bk:St->Hp->Prop:=λ_ _=>False
 ct:St->Hp->Prop:=λ_ _=>False
abbrev TS:=Ends->St->Hp->Prop
def EP(X:Cx)(aa:List (jH×jO))(σ:St)(Q:VK)(u:i_)(c:jA):Prop:=∃v H',Inv X aa σ H' c/\Bi v u/\Q v H'
def TP(X:Cx)(aa:List (jH×jO))(σ:St)(Q:Bool->Hp->Prop)(b:Bool)(c:jA):Prop:=∃H',Inv X aa σ H' c/\Q b H'
def AP(X:Cx)(aa:List (jH×jO))(σ:St)(Q:List V->Hp->Prop)(e:List i_)(d:jA):Prop:=∃c H',Inv X aa σ H' d/\Vals c e/\Q c H'
def SP(X:Cx)(aa:List (jH×jO))(D:Ends)(f:Flow)(c:jA):Prop :=
 match f with
 | .next=>∃ σ' H',Inv X aa σ' H' c/\D.nx σ' H'
 | .brk=>∃ σ' H',Inv X aa σ' H' c/\D.bk σ' H'
 | .cont=>∃ σ' H',Inv X aa σ' H' c/\D.ct σ' H'
 | .ret u=>∃v σ' H',Inv X aa σ' H' c/\Bi v u/\D.rt v H'
def PE(X:Cx)(e:jL)(t:TE):Prop :=
 ∀(aa:List (jH×jO)) (s:jA) (σ:St) (H:Hp) (Q:VK),Inv X aa σ H s->t σ H Q->wpAny (model X.prog X.w) X.A (eval e X.env) (EP X aa σ Q) X.xe s
def PT(X:Cx)(e:jL)(t:TT):Prop :=
 ∀(aa:List (jH×jO)) (s:jA) (σ:St) (H:Hp) (Q:Bool->Hp->Prop),Inv X aa σ H s->t σ H Q->wpAny (model X.prog X.w) X.A (isTrue e X.env (eval e X.env)) (TP X aa σ Q) X.xe s
def PW(X:Cx)(e:jL)(t:TT):Prop :=
 ∀(c:Sem i_) (aa:List (jH×jO)) (s:jA) (σ:St) (H:Hp) (Q:Bool->Hp->Prop),Inv X aa σ H s->t σ H Q->wpAny (model X.prog X.w) X.A (isTrue e X.env c) (TP X aa σ Q) X.xe s
theorem PW.pt{X:Cx}{e:jL}{t:TT}(h:PW X e t):PT X e t:=h _
def PA(X:Cx)(es:List jL)(t:TA):Prop :=
 ∀(pos:Pos) (aa:List (jH×jO)) (s:jA) (σ:St) (H:Hp) (Q:List V->Hp->Prop),Inv X aa σ H s->t σ H Q->wpAny (model X.prog X.w) X.A (spliced (backTo pos (starEach es X.env))) (AP X aa σ Q) X.xe s
def PS(X:Cx)(st:jP)(t:TS):Prop :=
 ∀(aa:List (jH×jO)) (s:jA) (σ:St) (H:Hp) (D:Ends),Inv X aa σ H s->t D σ H->wpAny (model X.prog X.w) X.A (exec st X.env) (SP X aa D) X.xe s
def PSs(X:Cx)(st:List jP)(t:TS):Prop :=
 ∀(aa:List (jH×jO)) (s:jA) (σ:St) (H:Hp) (D:Ends),Inv X aa σ H s->t D σ H->wpAny (model X.prog X.w) X.A (execs st X.env) (SP X aa D) X.xe s
theorem thn{α:Type}{t:Sem α}{Q c:α->jA->Prop}{M:Model}{A:jM}{E:i_->jA->Prop}{s:jA}(h:wpAny M A t Q E s)(d:∀a s,Q a s->c a s):wpAny M A t c E s:=aP h d λ_ _ x=>x
def MH(i:Nat):TE:=fun σ H Q=>∃v,σ[i]?=some (some v)/\Q v H
def tC(v:V):TE:=λ_ H Q=>Q v H
theorem FT{i:Nat}{x:Str}{pos:Pos}(j:X.N[i]?=some x)(hv:Vis X.env.scope x)(g:(x==("__debug__" : Str))=false:=by decide) (n:(x==("__classdict__" : Str))=false:=by decide):PE X (.Name x pos) (MH i):=by
 intro aa s σ H Q I h
 obtain⟨v,e,h⟩:=h
 obtain⟨m,o,k⟩:=I.loc
 obtain⟨u,r,l⟩:=k i x v j e hv
 have f:EP X aa σ Q u s:=⟨v,H,I,r,h⟩
 rcases l with⟨hk,p⟩ | ⟨hk,c,hc,d⟩
 ·exact wpAny_Name (wpAny_loadName_local I.ok.kind hk o p f) g
 ·rcases hk with hk | hk
  ·exact wpAny_Name (wpAny_loadName_cell I.ok.kind hk hc d f) g
  ·exact wpAny_Name (wpAny_loadName_free I.ok.kind hk hc d f n) g
theorem FU{i j pos}:PE X (.Constant (.int i) j pos) (tC (.int i)):=λ_ _ _ H _ I h=>wpAny_Constant_int ⟨.int i,H,I.tok _,⟨_,rfl⟩,h⟩
theorem MJ{b j pos}:PE X (.Constant (.bool b) j pos) (tC (.bl b)):=λ_ _ _ H _ I h=>Constant_bool ⟨.bl b,H,I,rfl,h⟩
theorem FV{x j pos}:PE X (.Constant (.str x) j pos) (tC (.str x)):=λ_ _ _ H _ I h=>Calls.Constant_str ⟨.str x,H,I.tok _,⟨_,rfl⟩,h⟩
def Gl(X:Cx)(x:Str):Prop:=X.env.kindOf x=some .globalImplicit
theorem Re{E:i_->jA->Prop}{aa:List (jH×jO)}{s:jA}{σ:St}{H:Hp}{x:Str}{u:i_}{pos:Pos}{Q:i_->jA->Prop}(I:Inv X aa σ H s)(c:Gl X x)(d:X.mg x=some u)(h:Q u s)
  (e:(x==("__debug__" : Str))=false:=by decide):wpAny (model X.prog X.w) X.A (eval (.Name x pos) X.env) Q E s :=
 Calls.Name_function_global I.ok.kind c (Calls.loadGlobal_global (by rw [I.ok.glob];exact I.mod.glob.keeps I.bk) d h) e
theorem Fc{E:i_->jA->Prop}{aa:List (jH×jO)}{s:jA}{σ:St}{H:Hp}{x:Str}{u:i_}{pos:Pos}{Q:i_->jA->Prop}(I:Inv X aa σ H s)(c:Gl X x)(e:X.mg x=none)(hv:bootBuiltins x=some u)(h:Q u s)
  (d:x ≠ "__name__" := by decide) (f:(x==("__debug__" : Str))=false:=by decide):wpAny (model X.prog X.w) X.A (eval (.Name x pos) X.env) Q E s:=by
 obtain⟨g,h1,h2⟩:=I.mod.blt
 exact Calls.Name_function_global I.ok.kind c (Calls.loadGlobal_builtin (by rw [I.ok.glob];exact I.mod.glob.keeps I.bk) e (by rw [I.ok.blt];exact h1.keeps I.bk) ((h2 x d).trans hv) h) f
theorem Zz{x:Str}{v:V}{u:i_}{pos:Pos}(c:Gl X x)(d:X.mg x=some u)(r:Bi v u)(e:(x==("__debug__" : Str))=false:=by decide):PE X (.Name x pos) (tC v) :=
 λ_ _ _ H _ I h=>Re I c d ⟨v,H,I,r,h⟩ e
def PC(X:Cx)(c:CmpOp)(a b:jL)(t:TE):Prop :=
 ∀(aa:List (jH×jO)) (s:jA) (σ:St) (H:Hp) (Q:VK),Inv X aa σ H s->t σ H Q ->
  wpAny (model X.prog X.w) X.A (eval a X.env) (λv s₁=>wpAny (model X.prog X.w) X.A (eval b X.env) (λu s₂=>wpAny (model X.prog X.w) X.A (compareOp c v u) (EP X aa σ Q) X.xe s₂) X.xe s₁) X.xe s
def tB(t:TE):TT:=fun σ H Q=>t σ H λx d=>∃c,x=.bl c/\Q c d
theorem FW{c:CmpOp}{t:TE}(h:PC X c a b t)(h1:behindInMarks c b=false:=by first | exact nobehind _ (by decide) (by decide) | rfl):PE X (.Compare a [c] [b] pos) t:=λaa s σ H Q I hw=>wpAny_Compare1 (h aa s σ H Q I hw) h1
theorem FX{e:CmpOp}{t:TE}(h:PC X e a b t)(h1:behindInMarks e b=false:=by first | exact nobehind _ (by decide) (by decide) | rfl):PT X (.Compare a [e] [b] pos) (tB t):=by
 intro aa s σ H Q I hw
 refine wpAny_isTrue_Compare1 (thn (h aa s σ H _ I hw) λv m h1=>thn h1 λu n h2=>thn h2 λc l j=>Cz j λx i g k f=>?_) h1
 obtain⟨d,rfl,q⟩:=f
 cases k
 exact eU ⟨i,g,q⟩
theorem FY{e:jL}{t:TE}(h:PE X e t)(he:∀c,isTrue e X.env c=(do let v <- c;standAt e.pos;holding [v] (truthy v)):=by intro _;rfl):PT X e (tB t):=by
 intro aa s σ H Q I hw
 refine isTrue_plain (thn (h aa s σ H _ I hw) λv l f=>Cz f λx j i k g=>?_) (he _)
 obtain⟨d,rfl,q⟩:=g
 cases k
 exact eU ⟨j,i,q⟩
def SY(t u:TT):TT:=fun σ H Q=>t σ H λc d=>if c=true then u σ d Q else Q false d
def WU(t u:TT):TT:=fun σ H Q=>t σ H λc d=>if c=true then Q true d else u σ d Q
def SZ(t:TT):TT:=fun σ H Q=>t σ H λc d=>Q (!c) d
theorem Z0(ha:PT X a tA):PW X (.BoolOp .And [a] pos) tA:=by
 intro d aa s σ H Q I h
 refine isTrue_and (thn (ha aa s σ H Q I h) λc f e=>?_)
 cases c with
 | true=>exact isTrue_and_nil e
 | false=>exact e
theorem FZ(ha:PT X a tA):PW X (.BoolOp .Or [a] pos) tA:=by
 intro d aa s σ H Q I h
 refine isTrue_or (thn (ha aa s σ H Q I h) λc f e=>?_)
 cases c with
 | false=>exact isTrue_or_nil e
 | true=>exact e
theorem GA(ha:PT X a tA)(hb:PW X (.BoolOp .And (b :: rest) pos) j9):PW X (.BoolOp .And (a :: b :: rest) pos) (SY tA j9):=by
 intro g aa s σ H Q I h
 refine isTrue_and (thn (ha aa s σ H _ I h) λc i ⟨d,f,e⟩=>?_)
 cases c with
 | true=>exact hb g aa i σ d Q f e
 | false=>exact⟨d,f,e⟩
theorem MK(ha:PT X a tA)(hb:PW X (.BoolOp .Or (b :: rest) pos) j9):PW X (.BoolOp .Or (a :: b :: rest) pos) (WU tA j9):=by
 intro g aa s σ H Q I h
 refine isTrue_or (thn (ha aa s σ H _ I h) λc i ⟨d,f,e⟩=>?_)
 cases c with
 | true=>exact⟨d,f,e⟩
 | false=>exact hb g aa i σ d Q f e
theorem GB(ha:PT X a tA):PT X (.UnaryOp .Not a pos) (SZ tA):=by
 intro aa s σ H Q I h
 exact isTrue_not (ha aa s σ H (λc d=>Q (!c) d) I h)
def WV(t:TT)(ta tb:TE):TE:=fun σ H Q=>t σ H λc d=>if c=true then ta σ d Q else tb σ d Q
theorem Vp{c:jL}(hc:PT X c tA)(ha:PE X a ta)(hb:PE X b tb):PE X (.IfExp c a b pos) (WV tA ta tb):=by
 intro aa s σ H Q I h
 refine wpAny_IfExp (thn (hc aa s σ H _ I h) λd g ⟨e,i,f⟩=>?_)
 cases d with
 | true=>exact ha aa g σ e Q i f
 | false=>exact hb aa g σ e Q i f
end
def Fa(K:jI)(H:Hp)(a:jH)(xs:List V):Prop :=
 Rd H a (.lst xs) \/
  ∃(o:jO) (b:Array i_) (n:Nat),K.lookup a=some o/\o.cls=.type "list" /\ o.dict=none/\o.data=.seq b n/\b.size<=sizeLine/\Vals xs b.toList
def Io(K:jI)(H:Hp)(a:jH)(xs:List V):Prop :=
 Rd H a (.tup xs) \/
  ∃(o:jO) (b:Array i_) (n:Nat),K.lookup a=some o/\o.cls=.type "tuple" /\ o.data=.seq b n/\b.size<=sizeLine/\Vals xs b.toList
def TB:i_->Option V
 | .none=>some .non
 | .bool b=>some (.bl b)
 | .int i _=>some (.int i)
 | .str x _=>some (.str x)
 | .bytes b _=>some (.byt b)
 | .float b _=>some (.flt b)
 | .ref a=>some (.ref a)
 | .type n=>some (.ty n)
 | _=>none
theorem Bi.abs{x:V}{u:i_}(r:Bi x u):TB u=some x:=by
 cases x with
 | non=>cases r;rfl
 | bl _=>cases r;rfl
 | int _=>obtain⟨t,rfl⟩:=r;rfl
 | str _=>obtain⟨t,rfl⟩:=r;rfl
 | byt _=>obtain⟨t,rfl⟩:=r;rfl
 | flt _=>obtain⟨t,rfl⟩:=r;rfl
 | ref _=>cases r;rfl
 | ty _=>cases r;rfl
theorem Bi.inj{x y:V}{u:i_}(r:Bi x u)(q:Bi y u):x=y:=ZL (r.abs.symm.trans q.abs)
theorem Vals.inj:∀{xs ys:List V} {a:List i_},Vals xs a->Vals ys a->xs=ys
 | _,_,_,.nil,.nil=>rfl
 | _,_,_,.cons r t,.cons c b=>by rw [r.inj c,Vals.inj t b]
section
variable {X:Cx}{aa:List (jH×jO)}{σ:St}{H:Hp}{s:jA}{a:jH}{xs ys:List V}{E:i_->jA->Prop}{st:jP}{rest:List jP}{t u:TS}{e:jL}{te:TE}{pos:Pos}{tg:jL}
theorem Fa.of{K:jI}(h:H a=some (.lst xs)):Fa K H a xs:=.inl (.inl h)
theorem Io.of{K:jI}(h:H a=some (.tup xs)):Io K H a xs:=.inl (.inl h)
theorem Inv.list(I:Inv X aa σ H s)(h:Fa X.K H a xs):∃b:List i_,Vals xs b/\PlainL s.heap a b.toArray/\xs.length<=sizeLine:=by
 rcases h with h | ⟨o,b,n,hk,hc,c,d,hz,r⟩
 ·obtain⟨z,b,n,r,e⟩:=h.ok I.hok
  exact⟨b,r,⟨_,n,e,rfl,rfl,rfl⟩,z⟩
 ·refine⟨b.toList,r,⟨o,n,I.kIn a o hk,hc,c,by simpa using d⟩,?_⟩
  have e:=r.length
  simp only [Array.length_toList]at e
  omega
theorem Inv.tuple(I:Inv X aa σ H s)(h:Io X.K H a xs):∃b:List i_,Vals xs b/\IsTup s.heap a b.toArray/\xs.length<=sizeLine:=by
 rcases h with h | ⟨o,b,n,hk,hc,c,hz,r⟩
 ·obtain⟨z,b,r,p⟩:=h.ok I.hok
  exact⟨b,r,p,z⟩
 ·refine⟨b.toList,r,⟨o,I.kIn a o hk,hc,n,by simpa using c⟩,?_⟩
  have e:=r.length
  simp only [Array.length_toList]at e
  omega
theorem Inv.list_inj(I:Inv X aa σ H s)(h:Fa X.K H a xs)(h':Fa X.K H a ys):xs=ys:=by
 obtain⟨g,r,⟨o,n,e,_,_,d⟩,_⟩:=I.list h
 obtain⟨b,i,⟨o',j,c,_,_,f⟩,_⟩:=I.list h'
 rw [e]at c;cases c
 rw [d]at f
 injection f with d1 _
 have:g=b:=by simpa using bB Array.toList d1
 subst this
 exact r.inj i
theorem Inv.tuple_inj(I:Inv X aa σ H s)(h:Io X.K H a xs)(h':Io X.K H a ys):xs=ys:=by
 obtain⟨g,r,⟨o,e,_,n,d⟩,_⟩:=I.tuple h
 obtain⟨b,i,⟨o',c,_,j,f⟩,_⟩:=I.tuple h'
 rw [e]at c;cases c
 rw [d]at f
 injection f with d1 _
 have:g=b:=by simpa using bB Array.toList d1
 subst this
 exact r.inj i
abbrev Cx.wish(X:Cx)(E:i_->jA->Prop):Cx:={ X with xe:=E }
abbrev Cx.nox(X:Cx):Cx:=X.wish λ_ _=>False
theorem Cx.Ok.wish{X:Cx}(ok:X.Ok)(E:i_->jA->Prop):(X.wish E).Ok :=
 ⟨ok.mod,ok.kind,ok.glob,ok.blt,ok.above,ok.inj,ok.has,ok.cab,ok.hd,ok.frames,ok.stk,ok.exf,ok.bs,ok.bsz,ok.noex,ok.exfs,ok.funs,ok.frf⟩
theorem Cx.Ok.unwish{X:Cx}{E:i_->jA->Prop}(ok:(X.wish E).Ok):X.Ok :=
 ⟨ok.mod,ok.kind,ok.glob,ok.blt,ok.above,ok.inj,ok.has,ok.cab,ok.hd,ok.frames,ok.stk,ok.exf,ok.bs,ok.bsz,ok.noex,ok.exfs,ok.funs,ok.frf⟩
theorem Inv.wish(I:Inv X aa σ H s)(E:i_->jA->Prop):Inv (X.wish E) aa σ H s:=⟨I.ok.wish E,I.os,I.bare,I.base,I.loc,I.cell,I.free,I.freeC,I.pin,I.hok,I.len⟩
theorem Inv.unwish(I:Inv (X.wish E) aa σ H s):Inv X aa σ H s:=⟨I.ok.unwish,I.os,I.bare,I.base,I.loc,I.cell,I.free,I.freeC,I.pin,I.hok,I.len⟩
theorem SP.unwish{D:Ends}{f:Flow}{c:jA}(h:SP (X.wish E) aa D f c):SP X aa D f c:=by
 cases f with
 | next=>obtain⟨σ',b,I,q⟩:=h;exact⟨σ',b,I.unwish,q⟩
 | brk=>obtain⟨σ',b,I,q⟩:=h;exact⟨σ',b,I.unwish,q⟩
 | cont=>obtain⟨σ',b,I,q⟩:=h;exact⟨σ',b,I.unwish,q⟩
 | ret u=>obtain⟨v,σ',b,I,r,q⟩:=h;exact⟨v,σ',b,I.unwish,r,q⟩
theorem PSs.nox{st:List jP}{t:TS}(h:PSs X.nox st t):PSs X st t:=λaa s σ H D I hw =>
 aP (h aa s σ H D (I.wish _) hw) (λ_ _ q=>q.unwish) λ_ _ z=>False.elim z
def MM:TS:=λD σ H=>D.nx σ H
def TC(t u:TS):TS:=λD σ H=>t { D with nx:=u D } σ H
theorem Z6:PSs X [] MM:=λ_ _ σ H _ I h=>gR ⟨σ,H,I,h⟩
theorem Vq(h1:PS X st t)(h2:PSs X rest u):PSs X (st :: rest) (TC t u):=by
 intro aa s σ H D I h
 refine wpAny_execs_cons (thn (h1 aa s σ H { D with nx:=u D } I h) λf c q=>?_)
 cases f with
 | next =>
  obtain⟨σ',d,b,q⟩:=q
  exact h2 aa c σ' d D b q
 | ret v=>exact q
 | brk=>exact q
 | cont=>exact q
theorem Z7(h1:PS X st t):PSs X [st] t:=by
 intro aa s σ H D I h
 refine wpAny_execs_cons (thn (h1 aa s σ H D I h) λf b q=>?_)
 cases f with
 | next=>exact gR q
 | ret v=>exact q
 | brk=>exact q
 | cont=>exact q
theorem Inv.quiet{aa:List (jH×jO)}{σ:St}{H:Hp}{s:jA}(I:Inv X aa σ H s):interactive X.env=false:=by simp [interactive,I.ok.kind]
def MN(te:TE):TS:=λD σ H=>te σ H λ_ b=>D.nx σ b
theorem Z8(he:PE X e te)(hs:swapsWith e none pos.line X.env=pure false:=by rfl):PS X (.Expr e pos) (MN te):=by
 intro aa s σ H D I h
 exact wpAny_Expr_any (thn (he aa s σ H _ I h) λv i f=>Cz f λx b d g c=>⟨σ,b,d,c⟩) I.quiet hs
def TD(te:TE):TS:=λD σ H=>te σ H D.rt
theorem GC(he:PE X e te):PS X (.Return (some e) pos) (TD te):=by
 intro aa s σ H D I h
 exact wpAny_Return_some (thn (he aa s σ H _ I h) λv i b=>Cz b λx c g d f=>⟨x,σ,c,g,d,f⟩)
def TF(c:TT)(t u:TS):TS:=λD σ H=>c σ H λb d=>if b=true then t D σ d else u D σ d
theorem MP{c:jL}{a b:List jP}{f:TT}(hc:PT X c f)(ha:PSs X a t)(hb:PSs X b u):PS X (.If c a b pos) (TF f t u):=by
 intro aa s σ H D I h
 refine wpAny_If (thn (hc aa s σ H _ I h) λd j ⟨g,k,i⟩=>?_)
 cases d with
 | true=>exact ha aa j σ g D k i
 | false=>exact hb aa j σ g D k i
def GD:TS:=λ_ _ _=>False
theorem Vr:PS X st GD:=λ_ _ _ _ _ _ h=>h.elim
abbrev TG:=V->St->Hp->(St->Hp->Prop)->Prop
abbrev TGs:=List V->St->Hp->(St->Hp->Prop)->Prop
def PG(X:Cx)(b:jL)(t:TG):Prop :=
 ∀(aa:List (jH×jO)) (s:jA) (σ:St) (H:Hp) (v:V) (u:i_) (Q:St->Hp->Prop),Inv X aa σ H s->Bi v u->t v σ H Q ->
  wpAny (model X.prog X.w) X.A (assign b X.env u) (λ_ c=>∃ σ' H',Inv X aa σ' H' c/\Q σ' H') X.xe s
def PGs(X:Cx)(ts:List jL)(t:TGs):Prop :=
 ∀(aa:List (jH×jO)) (s:jA) (σ:St) (H:Hp) (c:List V) (b:List i_) (Q:St->Hp->Prop),Inv X aa σ H s->Vals c b->t c σ H Q ->
  wpAny (model X.prog X.w) X.A (assignInOrder ((assignEach ts X.env).map (·.2)) b) (λ_ d=>∃ σ' H',Inv X aa σ' H' d/\Q σ' H') X.xe s
abbrev TSet:=V->V->V->Hp->(Hp->Prop)->Prop
def PSet(X:Cx)(t:TSet):Prop :=
 ∀(aa:List (jH×jO)) (s:jA) (σ:St) (H:Hp) (o i v:V) (b c u:i_) (Q:Hp->Prop),Inv X aa σ H s->Bi o b->Bi i c->Bi v u->t o i v H Q ->
  wpAny (model X.prog X.w) X.A (setItem b c u) (λ_ f=>∃d,Inv X aa σ d f/\Q d) X.xe s
def Vs(i:Nat):TG:=λv σ H Q=>Q (σ.set i (some v)) H
theorem Z9{i:Nat}{x:Str}(b:X.N.Nodup)(c:X.N[i]?=some x)(hx:Loc X.env.scope x)(f:X.fn x=true\/X.env.scope.names.lookup x=some .local:=by first | exact .inl rfl | exact .inr rfl | assumption):PG X (.Name x pos) (Vs i):=by
 intro aa s σ H v u Q I r h
 exact wpAny_assign_Name (No I b c hx r (λg d=>⟨_,H,d,h⟩) f)
def TH:TGs:=λb σ H Q=>b=[]/\Q σ H
def MQ(t:TG)(u:TGs):TGs:=λb σ H Q=>∃v r,b=v :: r/\t v σ H fun σ' H'=>u r σ' H' Q
theorem AB:PGs X [] TH:=by
 intro aa s σ H vs us Q I r h
 obtain⟨e,h⟩:=h
 subst e
 cases r
 exact assignInOrder_nil ⟨σ,H,I,h⟩
theorem Vt{e:jL}{es:List jL}{t:TG}{u:TGs}(h1:PG X e t)(h2:PGs X es u)
  (hs:(assignEach (e :: es) X.env).map (·.2)=assign e X.env :: (assignEach es X.env).map (·.2):=by rfl):PGs X (e :: es) (MQ t u):=by
 intro aa s σ H vs us Q I r h
 obtain⟨v,k,c,h⟩:=h
 subst c
 cases r with
 | cons r b =>
  rw [hs]
  refine assignInOrder_cons (thn (h1 aa s σ H _ _ _ I r h) λ_ f i=>?_)
  obtain⟨σ1,j,g,d⟩:=i
  exact h2 aa f σ1 j _ _ Q g b d
def TJ(K:jI)(n:Nat)(t:TGs):TG:=λv σ H Q=>∃a xs,v=.ref a/\Io K H a xs/\xs.length=n/\t xs σ H Q
theorem Vu{es:List jL}{k:Nat}{t:TGs}{n:Nat}(hc:X.calm=true)(h:PGs X es t)
  (j:(assignEach es X.env).length=n:=by rfl) (m:(assignEach es X.env).findIdx? (·.1)=none:=by rfl):PG X (.Tuple es k pos) (TJ X.K n t):=by
 intro aa s σ H v u Q I r c
 obtain⟨a,xs,g,hq,f,c⟩:=c
 subst g
 cases r
 obtain⟨q,d,p,hz⟩:=I.tuple hq
 refine assign_Tuple_tuple (I.ok.hd hc) p (by simp [j,<- f,d.length]) m λl hx=>?_
 have i:Inv X aa σ H { s with heap:=l }:=I.kept (t':=s.toks) λb o e=>hx b o (W_ (O_ e)) e
 exact h aa _ σ H xs _ Q i (by simpa using d) c
def TK(f g:TE)(t:TSet):TG:=λv σ H Q=>f σ H λo b=>g σ b λi c=>t o i v c λd=>Q σ d
theorem GE{o i:jL}{d f:TE}{t:TSet}(A:PE X o d)(G:PE X i f)(hs:PSet X t)
  (ha:∀v,assign (.Subscript o i pos) X.env v=(do
   let b <- holding [v] (eval o X.env)
   let c <- holding [v,b] (eval i X.env)
   standAt pos
   holding [v,b,c] (setItem b c v)
   release [v,b,c] []):=by intro _;rfl):PG X (.Subscript o i pos) (TK d f t):=by
 intro aa s σ H v u Q I r h
 rw [ha]
 refine A_ (ZG (thn (A aa s σ H _ I h) λb m z=>Cz z λx B n J l=>?_))
 refine A_ (ZG (thn (G aa m σ B _ n l) λc w k=>Cz k λy j D C q=>?_))
 refine A_ (iJ (A_ (ZG (thn (hs aa w σ j x y v b c u _ D J C r q) λ_ L ⟨F,g,p⟩=>?_))))
 exact wpAny_release ⟨σ,F,g,p⟩
def AD(te:TE)(g:TG):TS:=λD σ H=>te σ H λx b=>g x σ b D.nx
theorem GF{tg e:jL}{te:TE}{g:TG}(he:PE X e te)(b:PG X tg g)(hs:swapsWithSole [tg] e pos.line X.env=pure false:=by rfl)(l:swappedStores [tg] e X.env=pure none:=by rfl)
  (h1:(assignEach [tg] X.env).map (·.2)=[assign tg X.env]:=by rfl):PS X (.Assign [tg] e pos) (AD te g):=by
 intro aa s σ H D I h
 refine wpAny_Assign_stores (thn (he aa s σ H _ I h) λv d i=>Cz i λx j f k c=>?_) hs l
 rw [h1]
 exact thn (b aa d σ j x v _ f k c) λ_ m q=>q
theorem GG{i:Nat}{x:Str}{e:jL}{te:TE}{b:Pos}(c:X.N.Nodup)(l:X.N[i]?=some x)(hx:Loc X.env.scope x)(he:PE X e te)(hs:swapsWith e (some (.Name x b)) pos.line X.env=pure false:=by rfl)(g:X.fn x=true\/X.env.scope.names.lookup x=some .local:=by first | exact .inl rfl | exact .inr rfl | assumption) :
  PS X (.Assign [.Name x b] e pos) (AD te (Vs i)):=by
 intro aa s σ H D I h
 refine wpAny_Assign_Name (thn (he aa s σ H _ I h) λv o m=>Cz m λy k f n d=>?_) hs
 exact No f c l hx n (λp j=>⟨_,k,j,d⟩) g
def GH(c:TT)(g:TS):TS:=λD σ H=>∃W:Nat->St->Hp->Prop,(∃m,W m σ H)/\∀m σ H,W m σ H ->
 c σ H λb d=>if b=true then ∃N:St->Hp->Prop,(∀ σ' H',N σ' H'->∃f,f < m/\W f σ' H')/\g { D with nx:=N,ct:=N,bk:=D.nx } σ d else D.nx σ d
theorem Vv{c:jL}{d:List jP}{r:TT}{x:TS}(hp:PassesOwn (model X.prog X.w) X.A X.env X.xe)(hc:PT X c r)(hb:PSs X d x):PS X (.While c d [] pos) (GH r x):=by
 intro aa s σ H D I h
 obtain⟨W,⟨O,F⟩,P⟩:=h
 refine wpAny_While (codeAny_whileLoop (λn J=>∃ σ' H',Inv X aa σ' H' J/\W n σ' H') ?_ O ⟨σ,H,I,F⟩)
 rintro n L ⟨σ1,z,G,C⟩
 refine dM hp (thn (hc aa L σ1 z _ G (P n σ1 z C)) λb M ⟨B,y,j⟩=>?_)
 cases b with
 | true =>
  obtain⟨N,q,j⟩:=j
  rw [S_ rfl]
  refine dM hp (thn (hb aa M σ1 B _ y j) λf Q i=>?_)
  cases f with
  | next =>
   obtain⟨σ3,g,k,p⟩:=i
   obtain⟨o,l,m⟩:=q σ3 g p
   exact⟨o,l,σ3,g,k,m⟩
  | cont =>
   obtain⟨σ3,g,k,p⟩:=i
   obtain⟨o,l,m⟩:=q σ3 g p
   exact⟨o,l,σ3,g,k,m⟩
  | brk=>exact i
  | ret v=>exact i
 | false =>
  rw [M_ R_]
  exact gR ⟨σ1,B,y,j⟩
structure It where
 go:Nat->Hp->Prop
 yld:Nat->Hp->V->Hp->Prop
 stop:Nat->Hp->Prop
def Ip(X:Cx)(aa:List (jH×jO))(H:Hp)(b:jH):Prop :=
 H b=none/\b≠X.env.locals/\b∉X.fs/\(b∈X.ex\/X.s₀.heap.objs.size<=b)/\(∀x c,X.env.cells.lookup x=some c->c≠b)/\∀p∈X.pn++aa,p.1≠b
theorem Inv.fpOk{X:Cx}{aa:List (jH×jO)}{σ:St}{H H':Hp}{s:jA}{b:jH}(I:Inv X aa σ H s)(hb:s.heap.objs.size<=b)(d:H' b=none):Ip X aa H' b:=by
 refine⟨d,fL (X_ I.lt hb),I.nofs hb,.inr (Q_ I.sz hb),λx c e z=>?_,λp hp z=>?_⟩
 ·obtain⟨v,q⟩:=I.cell x c e
  exact absurd (X_ q.lt (by rw [z];exact hb)) (bG _)
 ·exact absurd (X_ (O_ (I.pin p hp).1) (by rw [z];exact hb)) (bG _)
structure Turn(P:jJ)(w:jK)(K:jI)(tg:jL)(J:It)(fp:List jH)(it:jH)(tn:Nat->jN->Prop):Prop where
 mem:it∈fp
 obj:∀i h,tn i h->∀b∈fp,∃o,h.get? b=some o/\∀v,o.data≠.cell v
 keep:∀i h h',tn i h->(∀b∈fp,∀o,h.get? b=some o->h'.get? b=some o)->tn i h'
 item:∀(X:Cx),X.prog=P->X.w=w->X.K=K->X.calm=true->∀(i:Nat) (aa:List (jH×jO)) (s:jA) (σ:St) (H:Hp) (E:i_->jA->Prop),Inv X aa σ H s->(∀b∈fp,Ip X aa H b)->tn i s.heap->J.go i H ->
  wpAny (model P w) X.A (pyNext (.ref it)) (λr s1=>∃u,r=some u /\
   wpAny (model P w) X.A (letOwnedTupleGo tg (.ref it) u) (λ_ s2=>∃x H',Inv X aa σ H' s2/\Bi x u/\J.yld i H x H'/\tn (i+1) s2.heap/\∀b∈fp,H' b=none) E s1) E s
 done:∀(X:Cx),X.prog=P->X.w=w->X.K=K->X.calm=true->∀(i:Nat) (aa:List (jH×jO)) (s:jA) (σ:St) (H:Hp) (E:i_->jA->Prop),Inv X aa σ H s->(∀b∈fp,Ip X aa H b)->tn i s.heap->J.stop i H ->
  wpAny (model P w) X.A (pyNext (.ref it)) (λr s1=>r=none/\Inv X aa σ H s1) E s
 self:∀(A:jM) (i:Nat) (s:jA) (Q:i_->jA->Prop) (E:i_->jA->Prop),tn i s.heap->Q (.ref it) s->wpAny (model P w) A (pyIter (.ref it)) Q E s
abbrev TI:=St->Hp->(It->Hp->Prop)->Prop
def PIE(X:Cx)(aa:List (jH×jO))(σ:St)(tg:jL)(R:It->Hp->Prop)(f:i_)(d:jA):Prop :=
 ∃(c:jH) (fp:List jH) (tn:Nat->jN->Prop) (J:It) (H':Hp),f=.ref c/\Inv X aa σ H' d/\Turn X.prog X.w X.K tg J fp c tn/\tn 0 d.heap/\(∀b∈fp,Ip X aa H' b)/\R J H'
def PI(X:Cx)(tg iter:jL)(b:TI):Prop :=
 ∀(aa:List (jH×jO)) (s:jA) (σ:St) (H:Hp) (R:It->Hp->Prop),Inv X aa σ H s->b σ H R ->
  wpAny (model X.prog X.w) X.A (eval iter X.env) (λv c=>wpAny (model X.prog X.w) X.A (pyIter v) (PIE X aa σ tg R) X.xe c) X.xe s
theorem Np{M:Model}{A:jM}{E:i_->jA->Prop}{s:jA}{tg:jL}{c:jH}{u:i_}{o:jO}{n:String}{d:Array i_}{Q:Unit->jA->Prop}(f:s.heap.get? c=some o)(hc:o.cls=.type n)(i:o.data=.fields d)
  (g:["enumerate","zip","dict_itemiterator","dict_reverseitemiterator","odict_iterator","itertools.zip_longest","itertools.pairwise"].contains n=false) (b:Q () s):wpAny M A (letOwnedTupleGo tg (.ref c) u) Q E s:=by
 unfold letOwnedTupleGo
 cases tg <;> first
  | exact C_ b
  | (cases u <;> first
    | exact C_ b
    | (refine A_ (wpAny_load f ?_)
       rw [hc, i]
       show wpAny M A (if (["enumerate", "zip", "dict_itemiterator", "dict_reverseitemiterator", "odict_iterator", "itertools.zip_longest", "itertools.pairwise"].contains n && d[0]? == some (rawInt _)) = true then _ else _) Q E s
       rw [M_ (by intro h; rw [g, Bool.false_and] at h; cases h)]
       exact C_ b))
def Itl(K:jI)(a:jH):It :=
 ⟨λi H=>∃xs x,Fa K H a xs/\xs[i]?=some x,λi H x b=>b=H/\∀xs,Fa K H a xs->xs[i]?=some x,λi H=>∃xs,Fa K H a xs/\xs.length<=i⟩
def Itt(K:jI)(a:jH):It :=
 ⟨λi H=>∃xs x,Io K H a xs/\xs[i]?=some x,λi H x b=>b=H/\∀xs,Io K H a xs->xs[i]?=some x,λi H=>∃xs,Io K H a xs/\xs.length<=i⟩
def Itr(lo:Int)(n:Nat):It:=⟨λi _=>i < n,λi H x b=>b=H/\x=.int (lo+i),λi _=>n<=i⟩
theorem Ts{P:jJ}{w:jK}{K:jI}{tg:jL}(a f:jH):Turn P w K tg (Itl K a) [f] f (λi h=>h.IsListIter f a i) where
 mem:=by simp
 obj:=λi h st b hb=>by
  have e:b=f:=by simpa using hb
  subst e
  obtain⟨o,e,c,d⟩:=st
  exact⟨o,e,λv z=>by rw [d]at z;cases z⟩
 keep:=λi h g st k=>st.at λo e=>k f (by simp) o e
 item:=by
  intro X q A B hc i aa s σ H E I hf st hg
  subst q A B
  obtain⟨xs,x,hq,hx⟩:=hg
  obtain⟨J,j,p,hz⟩:=I.list hq
  obtain⟨u,hu,G⟩:=j.get hx
  obtain⟨n,l,L,y,m,r⟩:=hf f (by simp)
  refine fM st p.isList (x:=u) (by simpa using hu) λg C D=>?_
  have F:Inv X aa σ H { s with heap:=g }:=I.turned (t':=s.toks) (λb o hb e=>(D.2 b hb).trans e) n l y m r
  obtain⟨o,e,c,d⟩:=id C
  exact⟨u,rfl,Np (s:={ s with heap:=g }) e c d (by decide) ⟨x,H,F,G,⟨rfl,λys hy=>by rw [I.list_inj hy hq];exact hx⟩,C,λb hb=>(hf b hb).1⟩⟩
 done:=by
  intro X q A B hc i aa s σ H E I hf st hg
  subst q A B
  obtain⟨xs,hq,hx⟩:=hg
  obtain⟨J,j,p,hz⟩:=I.list hq
  obtain⟨n,l,L,y,m,r⟩:=hf f (by simp)
  have N:=j.length
  exact gE (I.ok.hd hc) st p.isList (by simp;omega) λg M=>⟨rfl,I.turned (t':=s.toks) (λb o hb e=>M b o hb e) n l y m r⟩
 self:=λ_ _ _ _ _ st h=>wpAny_pyIter_listiter st h
theorem Pm{P:jJ}{w:jK}{K:jI}{tg:jL}(a f:jH):Turn P w K tg (Itt K a) [f] f (λi h=>h.IsTupleIter f a i) where
 mem:=by simp
 obj:=λi h st b hb=>by
  have e:b=f:=by simpa using hb
  subst e
  obtain⟨o,e,c,d⟩:=st
  exact⟨o,e,λv z=>by rw [d]at z;cases z⟩
 keep:=λi h g st k=>st.at λo e=>k f (by simp) o e
 item:=by
  intro X q B C hc i aa s σ H E I hf st hg
  subst q B C
  obtain⟨xs,x,hq,hx⟩:=hg
  obtain⟨y,j,p,hz⟩:=I.tuple hq
  obtain⟨u,hu,J⟩:=j.get hx
  obtain⟨n,l,L,A,m,r⟩:=hf f (by simp)
  refine wpAny_pyNext_tuple_item st (show s.heap.IsTuple a y.toArray from p) (x:=u) (by simpa using hu) λg D F=>?_
  have G:Inv X aa σ H { s with heap:=g }:=I.turned (t':=s.toks) (λb o hb e=>(F.2 b hb).trans e) n l A m r
  obtain⟨o,e,c,d⟩:=id D
  exact⟨u,rfl,Np (s:={ s with heap:=g }) e c d (by decide) ⟨x,H,G,J,⟨rfl,λys hy=>by rw [I.tuple_inj hy hq];exact hx⟩,D,λb hb=>(hf b hb).1⟩⟩
 done:=by
  intro X q B C hc i aa s σ H E I hf st hg
  subst q B C
  obtain⟨xs,hq,hx⟩:=hg
  obtain⟨y,j,p,hz⟩:=I.tuple hq
  obtain⟨n,l,L,A,m,r⟩:=hf f (by simp)
  have N:=j.length
  exact wpAny_pyNext_tuple_end (I.ok.hd hc) st (show s.heap.IsTuple a y.toArray from p) (by simp;omega) λg M=>⟨rfl,I.turned (t':=s.toks) (λb o hb e=>M b o hb e) n l A m r⟩
 self:=λ_ _ _ _ _ st h=>wpAny_pyIter_tupleiter st h
theorem Pn{P:jJ}{w:jK}{K:jI}{tg:jL}(c:jH)(lo:Int)(n:Nat):Turn P w K tg (Itr lo n) [c] c (λi h=>IsRangeIter h c (lo+(i:Nat) * 1) ((n:Int) - (i:Nat)) 1) where
 mem:=by simp
 obj:=λi h st b hb=>by
  have e:b=c:=by simpa using hb
  subst e
  exact⟨_,st,λv z=>by
   have C:Data.fields _=Data.cell v:=z
   cases C⟩
 keep:=λi h d st k=>k c (by simp) _ st
 item:=by
  intro X l q r hc i aa s σ H E I hf st hg
  subst l q r
  obtain⟨j,f,D,p,g,m⟩:=hf c (by simp)
  have W:=Walks.range (prog:=X.prog) (w:=X.w) (I.ok.hd hc) c lo 1 n
  refine W.item i s _ _ hg st λv d x hv y B=>?_
  obtain⟨t,rfl⟩:=hv
  have A:Inv X aa σ H { s with heap:=d,toks:=x }:=I.turned (λb o hb e=>B b o (by simpa using hb) e) j f p g m
  refine⟨_,rfl,Np (s:={ s with heap:=d,toks:=x }) (n := "range_iterator") y rfl rfl (by decide) ⟨.int (lo+i),H,A,⟨t,?_⟩,⟨rfl,rfl⟩,y,λb hb=>(hf b hb).1⟩⟩
  rw [Int.mul_one]
 done:=by
  intro X l q r hc i aa s σ H E I hf st hg
  subst l q r
  obtain⟨j,f,D,p,g,m⟩:=hf c (by simp)
  exact wpAny_pyNext_range_end (I.ok.hd hc) st (by have:n<=i:=hg;omega) λd F=>⟨rfl,I.turned (t':=s.toks) (λb o hb e=>F b o hb e) j f p g m⟩
 self:=λ_ _ _ _ _ st h=>wpAny_pyIter_rangeiter st h
theorem Vw{aa:List (jH×jO)}{σ:St}{H:Hp}{s:jA}{R:It->Hp->Prop}{E:i_->jA->Prop}{lo c:Int}{t u v:Tok}{tk:Nat}(I:Inv X aa σ H s)(h1:-(2 ^ 62)<=lo)(h2:lo < 2 ^ 62)(f:-(2 ^ 62)<=c)(g:c < 2 ^ 62)
  (q:R (Itr lo (c - lo).toNat) H):wpAny (model X.prog X.w) X.A (pyIter (.ref s.heap.objs.size)) (PIE X aa σ tg R) E { s with heap:=s.heap.push { cls:=.type "range",data:=.fields #[.int lo t,.int c u,.int 1 v] },toks:=tk }:=by
 refine wpAny_pyIter_range (IsRange.new ..) (small_one h1 h2 f g) ?_
 have d:Inv X aa σ H { s with heap:=s.heap.push { cls:=.type "range",data:=.fields #[.int lo t,.int c u,.int 1 v] },toks:=tk }:=I.kept λb o e=>DD _ e
 refine⟨(s.heap.push { cls:=.type "range",data:=.fields #[.int lo t,.int c u,.int 1 v] }).objs.size,[(s.heap.push { cls:=.type "range",data:=.fields #[.int lo t,.int c u,.int 1 v] }).objs.size],_,_,H,rfl,
  d.kept (t':=tk) λb o e=>DD _ e,Pn _ lo (c - lo).toNat,?_,λb hb=>?_,q⟩
 ·have h:lo+((0:Nat):Int) * 1=lo:=by simp
  have i:(((c - lo).toNat:Nat):Int) - ((0:Nat):Int)=Builtin.Range.rangeSize lo c 1:=by rw [rangeSize_one];split <;> omega
  show IsRangeIter _ _ (lo+((0:Nat):Int) * 1) ((((c - lo).toNat:Nat):Int) - ((0:Nat):Int)) 1
  rw [h,i]
  exact K_ _ rfl
 ·have e:b=(s.heap.push { cls:=.type "range",data:=.fields #[.int lo t,.int c u,.int 1 v] }).objs.size:=by simpa using hb
  subst e
  exact d.fpOk (I_ _) (d.hok.fresh (I_ _))
def MR(b:TA):TI:=fun σ H R=>b σ H λc d=>∃j:Int,c=[.int j]/\-(2 ^ 62)<=j/\j < 2 ^ 62/\R (Itr 0 j.toNat) d
theorem Tt{a:jL}{c:TA}{p pos:Pos}(d:Gl X "range") (l:X.mg "range" = none) (ha:PA X [a] c) (hs:starEach [a] X.env=[(false,eval a X.env)]:=by rfl):PI X tg (.Call (.Name "range" p) [a] [] pos) (MR c):=by
 intro aa s σ H R I h
 refine Call_ (Fc I d l boot_range (bN (thn (ha pos aa s σ H _ I h) λn o k=>Cz k λw v g m b=>?_) hs rfl))
 obtain⟨j,e,b,i,q⟩:=b
 subst e
 cases m with
 | cons r f =>
  cases f
  obtain⟨t,rfl⟩:=r
  exact call_range_1 (Vw g (by omega) (by omega) b i (by simpa using q))
def TL(h:TI)(g:TG)(d:TS):TS:=λD σ H=>h σ H λJ f=>∃W:Nat->Nat->St->Hp->Prop,(∃m,W 0 m σ f)/\∀i m σ H,W i m σ H ->
 (J.stop i H/\D.nx σ H)\/(J.go i H/\∃N:St->Hp->Prop,(∀ σ' b,N σ' b->∃c,c < m/\W (i+1) c σ' b)/\∀x b,J.yld i H x b->g x σ b fun σ2 H2=>d { D with nx:=N,ct:=N,bk:=D.nx } σ2 H2)
def Jb(fp:List jH)(h:jN):List (jH×jO):=fp.filterMap λb=>(h.get? b).map λo=>(b,o)
theorem Ez{fp:List jH}{h:jN}{b:jH}{o:jO}(hb:b∈fp)(e:h.get? b=some o):(b,o)∈Jb fp h:=hJ.mpr ⟨b,hb,by rw [e];rfl⟩
theorem Tu{fp:List jH}{h:jN}{p:jH×jO}(hp:p∈Jb fp h):p.1∈fp/\h.get? p.1=some p.2:=by
 obtain⟨b,hb,e⟩:=hJ.mp hp
 cases q:h.get? b with
 | none=>rw [q]at e;cases e
 | some o =>
  rw [q]at e
  have c:(b,o)=p:=ZL e
  subst c
  exact⟨hb,q⟩
theorem Inv.pinned{aa:List (jH×jO)}{σ:St}{H:Hp}{s:jA}{fp:List jH}(I:Inv X aa σ H s)(g:∀b∈fp,Ip X aa H b)(i:∀b∈fp,∃o,s.heap.get? b=some o/\∀v,o.data≠.cell v):Inv X (aa++Jb fp s.heap) σ H s :=
 I.pins_of λp hp=>(G_.mp hp).elim (λz=>I.pin p (YO _ z)) λz=>by
  obtain⟨hb,e⟩:=Tu z
  obtain⟨j,f,h,_⟩:=g p.1 hb
  obtain⟨o,c,d⟩:=i p.1 hb
  rw [e]at c;cases c
  exact⟨e,j,f,h,d⟩
theorem Inv.unpinned{aa pl:List (jH×jO)}{σ:St}{H:Hp}{s:jA}(I:Inv X (aa++pl) σ H s):Inv X aa σ H s:=I.pins_of λp hp=>I.pin p (YO _ (YM _ hp))
theorem Vx{iter:jL}{k:List jP}{S:TI}{g:TG}{R:TS}{pos:Pos}(hp:PassesOwn (model X.prog X.w) X.A X.env X.xe)(hc:X.calm=true)(hi:PI X tg iter S)(hg:PG X tg g)(hb:PSs X k R)
  (hs:∀x,foldedSetIterable iter X.env x=pure x:=by intro _;rfl):PS X (.For tg iter k [] pos) (TL S g R):=by
 intro aa s σ H D I h
 refine wpAny_For (thn (hi aa s σ H _ I h) λv s1 h1=>thn h1 λv5 s2 h2=>?_) hs
 obtain⟨it,z,tn,J,H2,e,I2,T,jl,f2,W,⟨m0,w0⟩,gh⟩:=h2
 subst e
 have O:∀{H':Hp},(∀b∈z,H' b=none)->∀b∈z,Ip X aa H' b:=λhn b hb=>⟨hn b hb,(f2 b hb).2⟩
 refine codeAny_forLoop_any (λn Y=>∃i σ' H',Inv X aa σ' H' Y/\tn i Y.heap/\(∀b∈z,H' b=none)/\W i n σ' H') ?_ m0 ⟨0,σ,H2,I2,jl,λb hb=>(f2 b hb).1,w0⟩
 rintro n Z ⟨i,σ3,C,P,y,B,w3⟩
 rcases gh i n σ3 C w3 with⟨stop,qn⟩ | ⟨go,N,hN,step⟩
 ·refine dM hp (thn (T.done X rfl rfl rfl hc i aa Z σ3 C X.xe P (O B) y stop) λr s4 ⟨L,I4⟩=>?_)
  subst L
  exact gR ⟨σ3,C,I4,qn⟩
 ·refine dM hp (thn (T.item X rfl rfl rfl hc i aa Z σ3 C X.xe P (O B) y go) λr s4 ⟨u,L,h4⟩=>?_)
  subst L
  refine dM hp (thn h4 λ_ U uk=>?_)
  obtain⟨x,Q,I5,r5,y5,p,G⟩:=uk
  have F:=I5.pinned (O G) (T.obj _ _ p)
  refine dM hp (thn (hg _ U σ3 Q x u _ F r5 (step x Q y5)) λ_ s6 tz=>?_)
  obtain⟨σ6,H6,I6,q6⟩:=tz
  refine dM hp (thn (hb _ s6 σ6 H6 _ I6 q6) λf M l=>?_)
  have again:∀{σ7:St} {j:Hp},Inv X (aa++Jb z U.heap) σ7 j M->N σ7 j->∃m,m < n/\∃i σ' H',Inv X aa σ' H' M/\tn i M.heap/\(∀b∈z,H' b=none)/\W i m σ' H':=λ{σ7 j} c q=>by
   obtain⟨m',hm,w7⟩:=hN σ7 j q
   refine⟨m',hm,i+1,σ7,j,c.unpinned,T.keep _ _ _ p λb hb o e=>(c.pin (b,o) (YO _ (YO _ (Ez hb e)))).1,λb hb=>?_,w7⟩
   obtain⟨o,e,d⟩:=T.obj _ _ p b hb
   exact(c.pin (b,o) (YO _ (YO _ (Ez hb e)))).2.1
  cases f with
  | next=>obtain⟨σ7,j,c,q⟩:=l;exact again c q
  | cont=>obtain⟨σ7,j,c,q⟩:=l;exact again c q
  | brk=>obtain⟨σ7,j,c,l⟩:=l;exact⟨σ7,j,c.unpinned,l⟩
  | ret v=>obtain⟨x7,σ7,j,c,r7,l⟩:=l;exact⟨x7,σ7,j,c.unpinned,r7,l⟩
end
abbrev R2:=V->V->Hp->VK->Prop
def Hy(X:Cx)(f:i_->i_->Sem i_)(r:R2):Prop :=
 ∀(a:List (jH×jO)) (s:jA) (σ:St) (H:Hp) (x y:V) (v u:i_) (Q:VK),Inv X a σ H s->Bi x v->Bi y u->r x y H Q ->
  wpAny (model X.prog X.w) X.A (f v u) (EP X a σ Q) X.xe s
def Ek(X:Cx)(f:i_)(r:List V->Hp->VK->Prop):Prop :=
 ∀(b:List (jH×jO)) (s:jA) (σ:St) (H:Hp) (xs:List V) (a:List i_) (Q:VK),Inv X b σ H s->Vals xs a->r xs H Q ->
  wpAny (model X.prog X.w) X.A (call f a) (EP X b σ Q) X.xe s
def SO(r:R2)(c a:TE):TE:=fun σ H Q=>c σ H λx b=>a σ b λy d=>r x y d Q
def rI(C:Int->Int->Prop)(g:Int->Int->V):R2:=λx y H Q=>∃i j,x=.int i/\y=.int j/\C i j/\Q (g i j) H
def Zu(g:Int->Int->V):R2:=λx y H Q=>∃i j,x=.int i/\y=.int j/\Q (g i j) H
section
variable {X:Cx}{a b c:jL}{ta tb tc:TE}{pos:Pos}{e:jL}{es:List jL}{te:TE}{t:TA}{aa:List (jH×jO)}{σ:St}{H:Hp}{s s':jA}{CX:CXT}{k:Nat}{f C:jH}{fd:jQ}{ps:List Str}{sp:Sp}{dvs:List V}{ds:List i_}{E:XK}{x m:Str}{p aq:Pos}{o:jL}{id T:String}{r:List V->Hp->VK->Prop}
theorem MS(ha:PE X a ta)(hb:PE X b tb){aa:List (jH×jO)}{s:jA}{σ:St}{H:Hp}{R:V->V->Hp->Prop}(I:Inv X aa σ H s)
  (h:ta σ H λx i=>tb σ i λy d=>R x y d) {Q:i_->jA->Prop} {f:i_->i_->Sem i_}
  (q:∀v u g x y d,Inv X aa σ d g->Bi x v->Bi y u->R x y d->wpAny (model X.prog X.w) X.A (f v u) Q X.xe g) :
  wpAny (model X.prog X.w) X.A (eval a X.env) (λv s₁=>wpAny (model X.prog X.w) X.A (eval b X.env) (λu s₂=>wpAny (model X.prog X.w) X.A (f v u) Q X.xe s₂) X.xe s₁) X.xe s:=by
 refine thn (ha aa s σ H _ I h) λv l J=>Cz J λx i n G j=>?_
 refine thn (hb aa l σ i _ n j) λu g z=>Cz z λy d F D B=>?_
 exact q v u g x y d F G D B
theorem MT{d:Operator}{r:R2}(l:Hy X (binaryOp d) r)(ha:PE X a ta)(hb:PE X b tb):PE X (.BinOp a d b pos) (SO r ta tb):=by
 intro aa s σ H Q I h
 exact wpAny_BinOp (MS ha hb I h λv u i x y g j w n q=>l aa i σ g x y v u Q j w n q)
theorem LD{f:i_->i_->Sem i_}{C:Int->Int->Prop}{g:Int->Int->Int}
  (rule:∀(i j:Int) (t u:Tok) (s:jA) (Q:i_->jA->Prop) (E:i_->jA->Prop),C i j->Q (.int (g i j) s.toks) { s with toks:=s.toks+1 }->wpAny (model X.prog X.w) X.A (f (.int i t) (.int j u)) Q E s) :
  Hy X f (rI C λi j=>.int (g i j)):=by
 intro aa s σ H x y v u Q I rx ry h
 obtain⟨i,j,rfl,rfl,hc,q⟩:=h
 obtain⟨t,rfl⟩:=rx
 obtain⟨d,rfl⟩:=ry
 exact rule i j t d s _ _ hc ⟨.int (g i j),H,I.tok _,⟨_,rfl⟩,q⟩
theorem GI{f:i_->i_->Sem i_}{g:Int->Int->Int}
  (rule:∀(i j:Int) (t u:Tok) (s:jA) (Q:i_->jA->Prop) (E:i_->jA->Prop),Q (.int (g i j) s.toks) { s with toks:=s.toks+1 }->wpAny (model X.prog X.w) X.A (f (.int i t) (.int j u)) Q E s) :
  Hy X f (Zu λi j=>.int (g i j)):=by
 intro aa s σ H x y v u Q I rx ry h
 obtain⟨i,j,rfl,rfl,q⟩:=h
 obtain⟨t,rfl⟩:=rx
 obtain⟨d,rfl⟩:=ry
 exact rule i j t d s _ _ ⟨.int (g i j),H,I.tok _,⟨_,rfl⟩,q⟩
theorem AF{f:i_->i_->Sem i_}{g:Int->Int->Bool}
  (rule:∀(i j:Int) (t u:Tok) (s:jA) (Q:i_->jA->Prop) (E:i_->jA->Prop),Q (.bool (g i j)) s->wpAny (model X.prog X.w) X.A (f (.int i t) (.int j u)) Q E s) :
  Hy X f (Zu λi j=>.bl (g i j)):=by
 intro aa s σ H x y v u Q I rx ry h
 obtain⟨i,j,rfl,rfl,q⟩:=h
 obtain⟨t,rfl⟩:=rx
 obtain⟨d,rfl⟩:=ry
 exact rule i j t d s _ _ ⟨.bl (g i j),H,I,rfl,q⟩
def CDiv(i j:Int):Prop:=0 < j/\j < 1073741824
def CPow(i j:Int):Prop:=0<=j/\j<=1000000/\i.natAbs < 2 ^ 64
def CMul(i j:Int):Prop:=(-(2 ^ 64) < i/\i < 2 ^ 64)\/(-(2 ^ 64) < j/\j < 2 ^ 64)
theorem CMul.ok{i j:Int}(h:CMul i j):IntMulOk i j:=by
 rcases h with⟨h1,h2⟩ | ⟨h1,h2⟩
 ·exact .of_left (intBits_le_64 h1 h2)
 ·exact .of_right (intBits_le_64 h1 h2)
theorem Po(k:Nat):(0:Int)<=2 ^ k:=by
 rw [two_pow_cast]
 exact eB _
theorem GJ:Hy X (binaryOp .Add) (Zu λi j=>.int (i+j)):=GI λ_ _ _ _ _ _ _ q=>add_int q
theorem GK:Hy X (binaryOp .Mult) (rI CMul λi j=>.int (i * j)):=LD λ_ _ _ _ _ _ _ hc q=>mul_int q hc.ok
theorem AH:Hy X (binaryOp .FloorDiv) (rI CDiv λi j=>.int (i / j)):=LD λi j _ _ _ _ _ hc q=>by
 have h1:(0:Int) < j:=hc.1
 have h2:j < 1073741824:=hc.2
 exact floordiv_int (by omega) (by rw [Int.fdiv_eq_ediv_of_nonneg i (by omega)];exact q) (.inl (PyProof.noPylong_small (by omega)))
theorem GL:Hy X (binaryOp .Mod) (rI (λ_ j=>0 < j) λi j=>.int (i % j)):=LD λi j _ _ _ _ _ hc q=>by
 have h1:(0:Int) < j:=hc
 exact mod_int' (by omega) (by rw [Int.fmod_eq_emod_of_nonneg i (by omega)];exact q)
theorem GM:Hy X (binaryOp .Pow) (rI CPow λi j=>.int (i ^ j.toNat)):=LD λ_ _ _ _ _ _ _ hc q=>pow_int_small hc.1 hc.2.1 hc.2.2 q
theorem GN:Hy X (binaryOp .LShift) (rI CPow λi j=>.int (i * 2 ^ j.toNat)):=LD λ_ _ _ _ _ _ _ hc q=>lshift_int_small hc.1 hc.2.1 hc.2.2 q
theorem GO:Hy X (binaryOp .RShift) (rI (λ_ j=>0<=j) λi j=>.int (i / 2 ^ j.toNat)):=LD λi j _ _ _ _ _ hc q =>
 rshift_int hc (by rw [Int.fdiv_eq_ediv_of_nonneg i (Po _)];exact q)
theorem GP:Hy X (binaryOp .BitAnd) (Zu λi j=>.int (Builtin.bitAnd i j)):=GI λ_ _ _ _ _ _ _ q=>and_int q
theorem MU:Hy X (binaryOp .BitOr) (Zu λi j=>.int (Builtin.bitOr i j)):=GI λ_ _ _ _ _ _ _ q=>or_int q
theorem GQ{aa:List (jH×jO)}{σ:St}{H:Hp}{s:jA}{Q:VK}{k d:Bool}(I:Inv X aa σ H s)(q:Q (.bl k) H)(e:k=d):EP X aa σ Q (.bool d) s:=by
 subst e
 exact⟨.bl k,H,I,rfl,q⟩
theorem MV:Hy X (compareOp .Lt) (Zu λi j=>.bl (decide (i < j))):=AF λ_ _ _ _ _ _ _ q=>lt_int q
theorem MW:Hy X (compareOp .LtE) (Zu λi j=>.bl (decide (i<=j))):=AF λ_ _ _ _ _ _ _ q=>le_int q
theorem MX:Hy X (compareOp .Gt) (Zu λi j=>.bl (decide (j < i))):=AF λ_ _ _ _ _ _ _ q=>gt_int q
theorem MY:Hy X (compareOp .GtE) (Zu λi j=>.bl (decide (j<=i))):=AF λ_ _ _ _ _ _ _ q=>ge_int q
theorem Tv:Hy X (compareOp .In) (λx y H Q=>∃i j,x=.str i/\y=.str j/\Q (.bl (!(Builtin.Str.occurrences j i 0 j.length 1).isEmpty)) H):=by
 intro aa s σ H x y v u Q I rx ry h
 obtain⟨i,j,rfl,rfl,q⟩:=h
 obtain⟨t,rfl⟩:=rx
 obtain⟨d,rfl⟩:=ry
 exact in_str (GQ I q rfl)
theorem nomark(b:jL){d:CmpOp}(h:d≠.In:=by decide)(h2:d≠.NotIn:=by decide):behindInMarks d b=false:=by
 have g:(d==CmpOp.In)=false:=by cases d <;> first | rfl | exact absurd rfl h
 have i:(d==CmpOp.NotIn)=false:=by cases d <;> first | rfl | exact absurd rfl h2
 cases b <;> simp [behindInMarks,g,i]
def EC(t:TE):TT:=fun σ H Q=>t σ H λx d=>∃k,x=.bl k/\Q k d
theorem AJ{d:CmpOp}{r:R2}(J:Hy X (compareOp d) r)(ha:PE X a ta)(hb:PE X b tb)(N:behindInMarks d b=false):PT X (.Compare a [d] [b] pos) (EC (SO r ta tb)):=by
 intro aa s σ H Q I h
 refine wpAny_isTrue_Compare1 (thn (ha aa s σ H _ I h) λv q O=>Cz O λx L w P n=>thn (hb aa q σ L _ w n) λu D j=>Cz j λy l G F B =>
  thn (J aa D σ l x y v u _ G P F B) λc R ⟨z,M,i,g,k,e,A⟩=>?_) N
 subst e
 cases g
 exact eU ⟨M,i,A⟩
theorem Hb:(sizeLine:Nat) < 2 ^ 63:=by rw [sizeLine_eq];decide
theorem Pp:Hy X (binaryOp .Add) (λx y H Q=>∃i j,x=.str i/\y=.str j/\i.length+j.length<=sizeLine/\Q (.str (i++j)) H):=by
 intro aa s σ H x y v u Q I rx ry h
 obtain⟨i,j,rfl,rfl,hz,q⟩:=h
 obtain⟨t,rfl⟩:=rx
 obtain⟨d,rfl⟩:=ry
 exact add_str (λd g=>⟨.str (i++j),H,I.tok _,⟨_,rfl⟩,q⟩) hz
theorem Fd{x:V}{d:List i_}(r:Vals [x] d):∃u,d=[u]/\Bi x u:=by
 cases r with
 | cons h g=>cases g;exact⟨_,rfl,h⟩
theorem ED{x y:V}{d:List i_}(r:Vals [x,y] d):∃u g,d=[u,g]/\Bi x u/\Bi y g:=by
 cases r with
 | cons l i =>
  cases i with
  | cons h j=>cases j;exact⟨_,_,rfl,l,h⟩
theorem Tw(hc:X.calm=true):Ek X (.builtin "max") (λd H Q=>∃i j,d=[.int i,.int j]/\Q (.int (if j > i then j else i)) H):=by
 intro aa s σ H d us Q I r h
 obtain⟨i,j,rfl,q⟩:=h
 obtain⟨u,v,rfl,⟨t,rfl⟩,⟨g,rfl⟩⟩:=ED r
 refine max_two_ints (I.ok.hd hc) λn l k=>⟨_,H,I.kept k,?_,q⟩
 by_cases hj:j > i
 ·rw [S_ hj,S_ hj];exact⟨_,rfl⟩
 ·rw [M_ hj,M_ hj];exact⟨_,rfl⟩
theorem Tx(hc:X.calm=true):Ek X (.builtin "min") (λd H Q=>∃i j,d=[.int i,.int j]/\Q (.int (if j < i then j else i)) H):=by
 intro aa s σ H d us Q I r h
 obtain⟨i,j,rfl,q⟩:=h
 obtain⟨u,v,rfl,⟨t,rfl⟩,⟨g,rfl⟩⟩:=ED r
 refine min_two_ints (I.ok.hd hc) λn l k=>⟨_,H,I.kept k,?_,q⟩
 by_cases hj:j < i
 ·rw [S_ hj,S_ hj];exact⟨_,rfl⟩
 ·rw [M_ hj,M_ hj];exact⟨_,rfl⟩
theorem Ha.some_of{v:V}{o:Option i_}(r:Ha (some v) o):∃u,o=some u/\Bi v u:=by
 cases o with
 | none=>exact(show False from r).elim
 | some u=>exact⟨u,rfl,r⟩
structure Room(k:Nat)(A:jM):Prop where
 hd:A.handled=none
 dp:A.depth+3 * k+5 < recursionLimit
 un:A.units+16 * k+200 < cLine
 gd:A.guards=some []
theorem Room.mono{j k:Nat}{A:jM}(r:Room k A)(h:j<=k):Room j A:=⟨r.hd,by have:=r.dp;omega,by have:=r.un;omega,r.gd⟩
theorem Room.deeper{k:Nat}{A:jM}(r:Room (k+1) A)(env:Env):Room k (A.deeper env) :=
 ⟨r.hd,by have:=r.dp;show A.depth+1+3 * k+5 < _;omega,by have:=r.un;show A.units+3+16 * k+200 < _;omega,r.gd⟩
theorem Room.depth{k:Nat}{A:jM}(r:Room k A):A.depth < recursionLimit:=by have:=r.dp;omega
theorem Room.units{k:Nat}{A:jM}(r:Room k A):A.units+64 < cLine:=by have:=r.un;omega
def TM:TA:=λ_ H Q=>Q [] H
def MZ(ta:TE)(i:TA):TA:=fun σ H Q=>ta σ H λx d=>i σ d λg h=>Q (x :: g) h
theorem GR:PA X [] TM:=λ_ _ _ _ H Q I h=>a_ ⟨[],H,I,.nil,h⟩
theorem AK(ha:PE X e te)(n:PA X es t)(hs:starEach (e :: es) X.env=(false,eval e X.env) :: starEach es X.env:=by rfl):PA X (e :: es) (MZ te t):=by
 intro pos aa s σ H Q I h
 rw [hs]
 show wpAny _ _ (spliced ((false,eval e X.env) :: backTo pos (starEach es X.env))) _ _ s
 refine aV (thn (ha aa s σ H _ I h) λu j v=>Cz v λx z l A i=>?_)
 exact thn (n pos aa j σ z _ l i) λD F B=>Cz B λg d y w q=>⟨x :: g,d,y,.cons A w,q⟩
def TN(t:TA):TE:=fun σ H Q=>t σ H λd g=>d.length<=sizeLine/\∀p,g p=none->Q (.ref p) (upd g p (.tup d))
def TQ(t:TA):TE:=fun σ H Q=>t σ H λd g=>d.length<=sizeLine/\∀p,g p=none->Q (.ref p) (upd g p (.lst d))
theorem GS{x1}(h:PA X es t):PE X (.Tuple es x1 pos) (TN t):=by
 intro aa s σ H Q I hq
 refine wpAny_Tuple_spliced (thn (h pos aa s σ H _ I hq) λl d ⟨j,g,i,r,z,q⟩=>⟨by rw [<- r.length];exact z,?_⟩)
 have n:g d.heap.objs.size=none:=i.hok.fresh (I_ _)
 refine⟨.ref d.heap.objs.size,upd g d.heap.objs.size (.tup j),i.laid (t':=d.toks) (λb u e=>DD _ e) (I_ _) ?_,rfl,q _ n⟩
 exact⟨z,l,r,⟨_,K_ _ rfl,rfl,_,rfl⟩⟩
theorem GT(h:PA X es t):PE X (.List es pos) (TQ t):=by
 intro aa s σ H Q I hq
 refine wpAny_List_spliced (thn (h pos aa s σ H _ I hq) λl d ⟨j,g,i,r,z,q⟩=>⟨by rw [<- r.length];exact z,?_⟩)
 have n:g d.heap.objs.size=none:=i.hok.fresh (I_ _)
 refine⟨.ref d.heap.objs.size,upd g d.heap.objs.size (.lst j),i.laid (t':=d.toks) (λb u e=>DD _ e) (I_ _) ?_,rfl,q _ n⟩
 exact⟨z,l,0,r,K_ _ rfl⟩
abbrev Sp:=List V->Hp->VK->XK->Prop
abbrev CXT:=List Env->Hp->jA->XK->i_->jA->Prop
structure Env0(P:jJ)(w:jK)(K:jI)(mg:Str->Option i_)(base:jN)(A:jM)(outer:List Env)(s:jA)(H:Hp):Prop where
 frames:A.frames=some outer
 mod:Mod K mg base
 bs:∀b o,base.get? b=some o->s.heap.get? b=some o/\H b=none
 bsz:base.objs.size<=s.heap.objs.size
 funs:s.heap.FunFrames base outer
 frf:∀b∈frs outer,H b=none
 hok:HOk P w H s.heap
 bare:AllBare s.gens
def CE(outer:List Env)(P:jJ)(w:jK)(H:Hp)(s:jA)(Q:VK)(u:i_)(s':jA):Prop :=
 ∃v d,s'.os=s.os/\AllBare s'.gens/\Un (frs outer) [] H d s.heap s'.heap/\HOk P w d s'.heap/\Bi v u/\Q v d
def CR(CX:CXT)(outer:List Env)(P:jJ)(w:jK)(H:Hp)(s:jA)(Q:VK)(E:XK)(r:jU)(s':jA):Prop :=
 match r with
 | .ok (.ret u)=>CE outer P w H s Q u s'
 | .ok _=>False
 | .error e=>CX outer H s E e s'
structure FnOk(P:jJ)(w:jK)(K:jI)(mg:Str->Option i_)(base:jN)(CX:CXT)(k:Nat)(f:jH)(fd:jQ)(ps:List Str)(sp:Sp):Prop where
 len:∀vs H Q E,sp vs H Q E->vs.length=ps.length
 run:∀(A:jM) (outer:List Env) (s:jA) (H:Hp) (args:Args) (us:List i_) (vs:List V) (Q:VK) (E:XK),Room k A->Env0 P w K mg base A outer s H->BindsTo s fd args (ps.zip us)->Vals vs us->sp vs H Q E ->
  codeAny (model P w) A (.call (.ref f) args) (CR CX outer P w H s Q E) s
theorem FnOk.mono{P:jJ}{w:jK}{K:jI}{mg:Str->Option i_}{base:jN}{CX:CXT}{j k:Nat}{f:jH}{fd:jQ}{ps:List Str}{sp:Sp}(F:FnOk P w K mg base CX j f fd ps sp)(h:j<=k) :
  FnOk P w K mg base CX k f fd ps sp:=⟨F.len,λA d s H g i n Q E l=>F.run A d s H g i n Q E (l.mono h)⟩
theorem FnOk.imp{P:jJ}{w:jK}{K:jI}{mg:Str->Option i_}{base:jN}{CX:CXT}{k:Nat}{f:jH}{fd:jQ}{ps:List Str}{sp j:Sp}(F:FnOk P w K mg base CX k f fd ps sp)
  (h:∀g H Q E,j g H Q E->sp g H Q E):FnOk P w K mg base CX k f fd ps j :=
 ⟨λg H Q E q=>F.len g H Q E (h _ _ _ _ q),λA d s H i l g Q E u he hb hv n=>F.run A d s H i l g Q E u he hb hv (h _ _ _ _ n)⟩
theorem Inv.env0(I:Inv X aa σ H s):Env0 X.prog X.w X.K X.mg X.base X.A X.stack s H :=
 ⟨I.ok.frames,I.ok.mod,I.bs,Q_ I.ok.bsz I.sz,I.stack,I.stkFree,I.hok,I.bare⟩
theorem Inv.after{Q:VK}{u:i_}(I:Inv X aa σ H s)(h:CE X.stack X.prog X.w H s Q u s'):EP X aa σ Q u s':=by
 obtain⟨v,A,os,i,y,j,r,q⟩:=h
 obtain⟨n,g,d,t,l⟩:=s'
 obtain rfl:l=s.os:=os
 exact⟨v,A,I.call (h':=n) (g':=g) (d':=d) (t':=t) (ch:=[]) y j i (λb z=>absurd z (by simp)),r,q⟩
def NA(sp:Sp)(dvs:List V)(E:XK)(t:TA):TE:=fun σ H Q=>t σ H λd g=>sp (d++dvs) g Q E
def Binds(K:jI)(fd:jQ)(ps:List Str)(ds:List i_):Prop :=
 ∀(s:jA) (d:List i_),K.In s.heap->(d++ds).length=ps.length->BindsTo s fd ⟨d,[]⟩ (ps.zip (d++ds))
theorem Binds.all{K:jI}{fd:jQ}{ps:List Str}(h:∀d:List i_,d.length=ps.length->bindArgs fd ⟨d,[]⟩=pure (ps.zip d)):Binds K fd ps []:=λs d _ g=>by
 rw [aY]at g ⊢
 exact .of_eq (h d g)
def Passes(CX:CXT)(X:Cx)(E:XK):Prop:=∀(aa:List (jH×jO)) (σ:St) (H:Hp) (s:jA) (e:i_) (s':jA),Inv X aa σ H s->CX X.stack H s E e s'->X.xe e s'
theorem GU{aa:List (jH×jO)}{σ:St}{H:Hp}{s:jA}{Q:VK}{d:List i_}{g:List V}(F:FnOk X.prog X.w X.K X.mg X.base CX k f fd ps sp)(l:Room k X.A)(hb:Binds X.K fd ps ds)(n:Vals dvs ds)(hx:Passes CX X E)
  (I:Inv X aa σ H s) (r:Vals g d) (h:sp (g++dvs) H Q E):wpAny (model X.prog X.w) X.A (call (.ref f) d) (EP X aa σ Q) X.xe s:=by
 have i:Vals (g++dvs) (d++ds):=r.append n
 have j:(d++ds).length=ps.length:=by rw [<- i.length];exact F.len _ _ _ _ h
 refine wpAny_call (gZ (F.run X.A X.stack s H ⟨d,[]⟩ (d++ds) (g++dvs) Q E l I.env0 (hb s d I.kIn j) i h) λr s' hq=>?_)
 cases r with
 | error e=>exact hx aa σ H s e s' I hq
 | ok fl =>
  cases fl with
  | ret u=>exact I.after hq
  | next=>exact False.elim hq
  | brk=>exact False.elim hq
  | cont=>exact False.elim hq
theorem Rf(F:FnOk X.prog X.w X.K X.mg X.base CX k f fd ps sp)(i:Room k X.A)(g:Gl X x)(j:X.mg x=some (.ref f))(hk:PySem.W.keepIn X.K (.ref f)=true)(hb:Binds X.K fd ps ds)(n:Vals dvs ds)(hx:Passes CX X E)
  (ha:PA X (e :: es) t) (hdb:(x==("__debug__" : Str))=false:=by decide) (he:starEach (e :: es) X.env=(false,eval e X.env) :: starEach es X.env:=by rfl) (hpl:(backTo pos (starEach es X.env)).any (·.1)=false:=by rfl) :
  PE X (.Call (.Name x p) (e :: es) [] pos) (NA sp dvs E t):=by
 intro aa s σ H Q I h
 refine bM (Re I g j ?_ hdb)
 refine PySem.W.callWith_K (h₀:=X.base) I.ok.mod.kin hk (thn (ha pos aa s σ H _ I h) λu v l=>Cz l λz y d r q=>⟨d.kIn,?_⟩) he hpl
 exact GU F i hb n hx d r q
structure Mk(K:jI)(C f:jH):Prop where
 makes:PySem.W.makesIn K C=true
 init:PySem.W.findIn K (.ref C) "__init__" = some (some (.ref f))
 fn:PySem.W.isFn K (.ref f)=true
 kp:PySem.W.keepIn K (.ref C)=true
structure FnScope(N P:List Str)(sc:jS):Prop where
 kind:sc.kind=.function
 co:sc.isCoroutine=false
 gen:sc.isGenerator=false
 nd:N.Nodup
 pre:N.take P.length=P
 par:∀x∈P,sc.names.lookup x=some .local\/sc.names.lookup x=some .cell
 nofree:∀y∈sc.names,y.2≠.free
theorem K5{kindOf:Str->Option jT}{x:Str}:∀{d:List (Str×i_)} {m:Str->Option i_},(∀v,(x,v)∉d)->bindL kindOf d m x=m x
 | [],_,_=>rfl
 | (n,v) :: r,m,h=>by
  unfold bindL
  rw [K5 λw g=>h w (ZK _ g)]
  split
  ·have:x≠n:=by rintro rfl;exact h v Z_
   simp [this]
  ·rfl
theorem K6{kindOf:Str->Option jT}{x:Str}:∀{d:List (Str×i_)} {m:Str->Option i_},(∀v,(x,v)∉d)->bindC kindOf d m x=m x
 | [],_,_=>rfl
 | (n,v) :: r,m,h=>by
  unfold bindC
  rw [K6 λw g=>h w (ZK _ g)]
  split
  ·rfl
  ·have:x≠n:=by rintro rfl;exact h v Z_
   simp [this]
theorem K7{kindOf:Str->Option jT}{x:Str}{v:i_}:∀{P:List Str} {d:List i_} {i:Nat} {m:Str->Option i_},P.Nodup->P[i]?=some x->d[i]?=some v->kindOf x=some .local ->
  bindL kindOf (P.zip d) m x=some v
 | [],_,_,_,_,h,_,_=>by simp at h
 | _ :: _,[],_,_,_,_,h,_=>by simp at h
 | p :: P,w :: d,0,m,nd,h1,h2,hk=>by
  simp at h1 h2;subst h1;subst h2
  show bindL kindOf ((p,w) :: P.zip d) m p=_
  unfold bindL
  rw [K5 λv hv=>(aO.mp nd).1 (gS hv).1,S_ hk]
  simp
 | p :: P,w :: d,i+1,m,nd,h1,h2,hk=>by
  show bindL kindOf ((p,w) :: P.zip d) m x=_
  unfold bindL
  exact K7 (i:=i) (aO.mp nd).2 (by simpa using h1) (by simpa using h2) hk
theorem K8{kindOf:Str->Option jT}{x:Str}{v:i_}:∀{P:List Str} {d:List i_} {i:Nat} {m:Str->Option i_},P.Nodup->P[i]?=some x->d[i]?=some v->kindOf x≠some .local ->
  bindC kindOf (P.zip d) m x=some v
 | [],_,_,_,_,h,_,_=>by simp at h
 | _ :: _,[],_,_,_,_,h,_=>by simp at h
 | p :: P,w :: d,0,m,nd,h1,h2,hk=>by
  simp at h1 h2;subst h1;subst h2
  show bindC kindOf ((p,w) :: P.zip d) m p=_
  unfold bindC
  rw [K6 λv hv=>(aO.mp nd).1 (gS hv).1,M_ hk]
  simp
 | p :: P,w :: d,i+1,m,nd,h1,h2,hk=>by
  show bindC kindOf ((p,w) :: P.zip d) m x=_
  unfold bindC
  exact K8 (i:=i) (aO.mp nd).2 (by simpa using h1) (by simpa using h2) hk
def start(N:List Str)(d:List V):St:=d.map some++List.replicate (N.length - d.length) none
def Nq(CX:CXT)(P:jJ)(w:jK)(K:jI)(mg:Str->Option i_)(base:jN)(N:List Str)(g:Str)(d:jS)(f:jH)(h:i_)(A:jM)(outer:List Env)(s:jA)(H:Hp)(E:XK):Cx where
 prog:=P
 w:=w
 K:=K
 mg:=mg
 base:=base
 A:=A.deeper (envOfC g d s.heap.objs.size f h)
 N:=N
 s₀:=s
 H₀:=H
 env:=envOfC g d s.heap.objs.size f h
 outer:=outer
 stack:=envOfC g d s.heap.objs.size f h :: outer
 ex:=[]
 calm:=true
 fn:=λ_=>true
 pn:=[]
 xe:=λe s'=>wpAny (model P w) (A.deeper (envOfC g d s.heap.objs.size f h)) («leaving» (envOfC g d s.heap.objs.size f h) e) (λ_ i=>CX outer H s E e i) (λj i=>CX outer H s E j i) s'
theorem Nr{d:jS}{n:Nat}{x:Str}(h:d.names.lookup x=some .cell):∃c,(cellsFrom n d.names []).lookup x=some c:=by
 have q:=PySem.W.cellsFrom_some d.names n [] (.inl h)
 exact Option.isSome_iff_exists.mp q
theorem Ty{CX:CXT}{P:jJ}{w:jK}{K:jI}{mg:Str->Option i_}{base:jN}{N ps:List Str}{g:Str}{d:jS}{f:jH}{F:i_}{A:jM}{outer:List Env}{s J:jA}{H:Hp}{E:XK}{I:List i_}{l:List V}
  (S:FnScope N ps d) (O:A.handled=none) (j:Env0 P w K mg base A outer s H) (U:l.length=ps.length) (r:Vals l I)
  (x:InCallC s s.heap.objs.size (bindL (envOfC g d s.heap.objs.size f F).kindOf (ps.zip I) λ_=>none) (cellsFrom (s.heap.objs.size+1) d.names []) (bindC (envOfC g d s.heap.objs.size f F).kindOf (ps.zip I) λ_=>none) J) :
  Inv (Nq CX P w K mg base N g d f F A outer s H E) [] (start N l) H J:=by
 have L:ps.length<=N.length:=by have:=bB List.length S.pre;rw [ZX]at this;omega
 obtain⟨h1,Q,rfl,hk⟩:=x.done
 have G:∀b:jH,b∉(Nq CX P w K mg base N g d f F A outer s H E).ex:=λb z=>absurd (show b∈([]:List jH) from z) (by simp)
 refine⟨⟨j.mod,S.kind,rfl,rfl,I_ _,λy z c h1 h2=>?_,λy hy=>?_,λy c _ h=>?_,λ_=>O,Around.frames_deeper j.frames,.inr ⟨rfl,rfl⟩,λb z=>absurd z (G b),j.bs,j.bsz,λb _ _=>G b,λb z=>absurd z (G b),j.funs,j.frf⟩,
  rfl,j.bare,Un.kept hk,⟨_,x.toInCall.ns,λi y v h1 h2 R=>?_⟩,λy c h=>⟨_,x.cell y c h⟩,j.hok.fresh (I_ _),λy c h=>?_,λp hp=>absurd (show p∈([]:List (jH×jO)) from hp) (by simp),j.hok.kept hk,?_⟩
 ·exact name_of_addr x.apart (dU h1) (dU h2)
 ·have hy:d.names.lookup y=some .cell\/d.names.lookup y=some .free:=hy
  rcases hy with hy | hy
  ·exact Nr hy
  ·exact absurd rfl (S.nofree _ (dU hy))
 ·exact aU (x.above y c (dU h))
 ·have D:i < l.length:=by
   unfold start at h2
   by_cases D:i < l.length
   ·exact D
   ·rw [aD (by simpa using D)]at h2
    rw [List.getElem?_replicate]at h2
    split at h2 <;> cases h2
  have ha:l[i]?=some v:=by
   unfold start at h2
   rw [aT (by simpa using D),H_]at h2
   cases e:l[i]? with
   | none=>rw [e]at h2;cases h2
   | some a=>rw [e]at h2;cases h2;rfl
  obtain⟨u,hu,M⟩:=r.get ha
  have hp:ps[i]?=some y:=by
   rw [<- S.pre,List.getElem?_take_of_lt (by omega)];exact h1
  have B:ps.Nodup:=by rw [<- S.pre];exact S.nd.sublist (dN _ _)
  refine⟨u,M,?_⟩
  rcases S.par y (U_ hp) with k | k
  ·exact .inl ⟨k,K7 B hp hu k⟩
  ·obtain⟨c,e⟩:=Nr (n:=s.heap.objs.size+1) k
   refine .inr ⟨.inl k,c,e,?_⟩
   have q:=x.cell y c e
   rw [K8 B hp hu (by show d.names.lookup y≠_;rw [k];decide)]at q
   exact q
 ·exact j.hok.fresh (aU (x.above y c (dU h)))
 ·unfold start
  show _=N.length
  rw [L_,B_,List.length_replicate]
  omega
theorem EE{CX:CXT}{P:jJ}{w:jK}{K:jI}{mg:Str->Option i_}{base:jN}{k:Nat}{f:jH}{name g:Str}{h:Arguments}{i:List jP}{d:jS}{Z kV dg pm l ct oc:i_}{O od:Option jH}
  {iz:Array (Option i_)} {N ps:List Str} {sp:Sp} (lk:K.lookup f=some ⟨oc,od,.func (PySem.W.fnOf name g h i d Z kV dg pm O l ct),iz⟩) (ik:PySem.W.codeIn K l g=true) (S:FnScope N ps d)
  (len:∀j H Q E,sp j H Q E->j.length=ps.length)
  (du:∀(A:jM) (outer:List Env) (s:jA) (H:Hp) (j:List V) (Q:VK) (E:XK),Room k (A.deeper (envOfC g d s.heap.objs.size f l))->sp j H Q E ->
   ∃t,PSs (Nq CX P w K mg base N g d f l A outer s H E) i t/\t { nx:=λ_ H'=>Q .non H',rt:=Q } (start N j) H) :
  FnOk P w K mg base CX (k+1) f (PySem.W.fnOf name g h i d Z kV dg pm O l ct) ps sp:=by
 refine⟨len,λA outer s H M us j Q E L D hb r R=>?_⟩
 have hl:=len _ _ _ _ R
 have Y:K.In s.heap:=D.mod.kin.keeps λb o e=>(D.bs b o e).1
 have G:s.heap.NoLimit:=D.mod.nolimit.keeps λb o e=>(D.bs b o e).1
 have uy:∀y∈ps.zip us,d.names.lookup y.1=some .local\/(d.names.lookup y.1=some .cell/\((cellsFrom (s.heap.objs.size+1) d.names []).lookup y.1).isSome=true):=λ⟨n,v⟩ hy=>by
  rcases S.par n (gS hy).1 with q | q
  ·exact .inl q
  ·exact .inr ⟨q,PySem.W.cellsFrom_some _ _ _ (.inl q)⟩
 refine codeAny_call_function L.depth (Y _ _ lk) rfl S.co S.gen rfl (PySem.W.codeRec_of Y ik) (hb _ _ _ _ ?_)
 refine wpAny_newFunctionEnv_cells S.kind uy λenv he U x=>?_
 subst he
 refine⟨G.keeps x.toInCall.keep,codeAny_func ?_⟩
 obtain⟨t,ht,hq⟩:=du A outer s H j Q E (L.deeper _) R
 have I:Inv (Nq CX P w K mg base N g d f l A outer s H E) [] (start N j) H U:=Ty S L.hd D hl r x
 refine aP (ht [] U (start N j) H _ I hq) (λfl s' z=>?_) λe s' z=>z
 have B:∀{σ':St} {H':Hp} {v:V} {u:i_},Inv (Nq CX P w K mg base N g d f l A outer s H E) [] σ' H' s'->Bi v u->Q v H'->CE outer P w H s Q u s' :=
  λ{σ' H' v u} J F q=>⟨v,H',J.os,J.bare,J.base,J.hok,F,q⟩
 cases fl with
 | ret u =>
  obtain⟨v,σ',H',J,F,q⟩:=z
  exact B J F q
 | next =>
  obtain⟨σ',H',J,q⟩:=z
  exact B (v:=V.non) (u:=Value.none) J rfl q
 | brk =>
  obtain⟨_,_,_,q⟩:=z
  exact False.elim q
 | cont =>
  obtain⟨_,_,_,q⟩:=z
  exact False.elim q
def TR(r:List V->Hp->VK->Prop)(t:TA):TE:=fun σ H Q=>t σ H λg d=>r g d Q
theorem Vy(hc:Ek X (.builtin id) r)(d:Gl X x)(u:X.mg x=none)(hv:bootBuiltins x=some (.builtin id))(ha:PA X (e :: es) t)(q:x ≠ "__name__" := by decide) (hdb:(x==("__debug__" : Str))=false:=by decide)
  (he:starEach (e :: es) X.env=(false,eval e X.env) :: starEach es X.env:=by rfl) (hpl:(backTo pos (starEach es X.env)).any (·.1)=false:=by rfl):PE X (.Call (.Name x p) (e :: es) [] pos) (TR r t):=by
 intro aa s σ H Q I h
 refine bM (Fc I d u hv ?_ q hdb)
 exact dW (thn (ha pos aa s σ H _ I h) λg j v=>Cz v λw n l y i=>hc aa j σ n w g Q l y i) he hpl
theorem Tz(hc:Ek X (.type T) r)(g:Gl X x)(v:X.mg x=none)(hv:bootBuiltins x=some (.type T))(ha:PA X (e :: es) t)(u:x ≠ "__name__" := by decide) (hdb:(x==("__debug__" : Str))=false:=by decide)
  (he:starEach (e :: es) X.env=(false,eval e X.env) :: starEach es X.env:=by rfl) (hpl:(backTo pos (starEach es X.env)).any (·.1)=false:=by rfl):PE X (.Call (.Name x p) (e :: es) [] pos) (TR r t):=by
 intro aa s σ H Q I h
 refine bM (Fc I g v hv ?_ u hdb)
 exact bN (thn (ha pos aa s σ H _ I h) λi l d=>Cz d λw q n y j=>hc aa l σ q w i Q n y j) he hpl
end
end L2
namespace HT
open PySem PyProof.Rows
section
open PySem.SeqAt
open PySem.AutoSeq1 (wpAny_loadPart')
open PySem.MeetsSeq PySem.MeetsSeq2 PySem.MeetsSeq3
end
section
variable {prog:jJ}{w:jK}{A:jM}{E:i_->jA->Prop}{s:jA}
theorem cat_tup{t b:jH}{c a:List i_}{Q:i_->jA->Prop}(q:IsTup s.heap t c.toArray)(hb:IsTup s.heap b a.toArray)(hv:c≠[])
  (h1:a=[]->Q (.ref t) s) (h2:a≠[]->Q (.ref s.heap.objs.size) { s with heap:=s.heap.push { cls:=.type "tuple",data:=.seq (c++a).toArray } })
  (hsz:c.length+a.length<=sizeLine):wpAny (model prog w) A (binaryOp .Add (.ref t) (.ref b)) Q E s:=by
 obtain⟨⟨cls,dd,data,m⟩,g,hc,n,p⟩:=id q
 obtain⟨⟨l,d,data2,i⟩,f,o,j,k⟩:=id hb
 simp only at hc p o k
 subst hc p o k
 have e:c.toArray++a.toArray=(c++a).toArray:=by simp
 by_cases h:a=[]
 ·exact concat_meets ⟨_,g,rfl⟩ ⟨_,f,rfl⟩ iM seq_tuple_add fN fJ (fB _ _)
   (tuple_addW1 t b c.toArray a.toArray n j dd d m i (by simpa using hv) (by simp [h])) ⟨g,f,h1 h⟩
 ·refine concat_meets ⟨_,g,rfl⟩ ⟨_,f,rfl⟩ iM seq_tuple_add fN fJ (fB _ _)
   (tuple_addW2 t b c.toArray a.toArray n j dd d m i (by simpa using hv) (by simpa using h) (by rw [YQ,YQ];exact hsz)) ⟨g,f,?_⟩
  rw [e]
  exact h2 h
def sIx(n d:Nat):Option Int->Nat
 | none=>d
 | some v=>if v < 0 then(v+(n:Int)).toNat else min v.toNat n
theorem GV(n d:Nat)(a:d<=n)(o:Option Int):sIx n d o<=n:=by
 cases o with
 | none=>exact a
 | some v =>
  show(if v < 0 then(v+(n:Int)).toNat else min v.toNat n)<=n
  by_cases hv:v < 0
  ·rw [S_ hv];omega
  ·rw [M_ hv];exact Nat.min_le_right _ _
theorem Rg(v:Int)(n d:Nat):(if v < 0 then max (v+(n:Int)) 0 else min v (n:Int))=((sIx n d (some v):Nat):Int):=by
 show(if v < 0 then max (v+(n:Int)) 0 else min v (n:Int))=(((if v < 0 then(v+(n:Int)).toNat else min v.toNat n):Nat):Int)
 by_cases hv:v < 0
 ·simp only [if_pos hv];omega
 ·simp only [if_neg hv];omega
theorem Pq(lo a:Option Int)(n:Nat):Builtin.Slice.sliceAdjust lo a 1 (n:Int)=(((sIx n 0 lo:Nat):Int),((sIx n n a:Nat):Int)):=by
 have h1:¬((1:Int) < 0):=by omega
 unfold Builtin.Slice.sliceAdjust
 simp only [h1,if_false]
 refine iY ?_ ?_
 ·cases lo with
  | none=>rfl
  | some v=>exact Rg v n 0
 ·cases a with
  | none=>rfl
  | some v=>exact Rg v n n
theorem Ps(i j:Nat):Builtin.Slice.slicePlaces (i:Int) (j:Int) 1=j - i:=by
 unfold Builtin.Slice.slicePlaces
 have h1:(1:Int) > 0:=by omega
 simp only [h1,if_true,Int.ediv_one]
 split <;> omega
theorem Jc{v:i_}{o:Option Int}{Q:Option Int->jA->Prop}(p:IsPart v o)(h:Q o s):wpAny (model prog w) A (Builtin.Slice.slicePartIndex v) Q E s:=by
 cases p with
 | none=>exact slicePart_none h
 | int i t=>exact slicePart_int h
theorem El{f:jH}{d e:i_}{lo b:Option Int}{n:Nat}{Q:Int×Int×Nat->jA->Prop}(hs:s.heap.IsSliceOf f d e .none)(pl:IsPart d lo)(g:IsPart e b)
  (h:Q (((sIx n 0 lo:Nat):Int),1,sIx n n b - sIx n 0 lo) s):wpAny (model prog w) A (Builtin.Slice.sliceApplied (.ref f) (pure (n:Int))) Q E s:=by
 obtain⟨os,c,i,a⟩:=id hs
 unfold Builtin.Slice.sliceApplied Builtin.Slice.sliceFields
 refine A_ (A_ (bF c a (x:=d) rfl (A_ (bF c a (x:=e) rfl (A_ (bF c a (x:=.none) rfl (C_ ?_)))))))
 refine A_ (slicePart_none ?_)
 show wpAny _ _ (if((1:Int)==0)=true then _ else _) _ _ s
 rw [M_ (by decide)]
 refine A_ (Jc pl (A_ (Jc g (A_ (C_ ?_)))))
 show wpAny _ _ (match Builtin.Slice.sliceAdjust lo b 1 (n:Int) with | (lo,b)=>pure (lo,(1:Int),Builtin.Slice.slicePlaces lo b 1)) _ _ s
 rw [Pq lo b n]
 show wpAny _ _ (pure (((sIx n 0 lo:Nat):Int),(1:Int),Builtin.Slice.slicePlaces ((sIx n 0 lo:Nat):Int) ((sIx n n b:Nat):Int) 1)) _ _ s
 rw [Ps]
 exact C_ h
theorem Vz(xs:Array i_)(i k:Nat):((List.range k).filterMap λ(m:Nat)=>xs[((i:Int)+(m:Int) * 1).toNat]?).toArray=((xs.toList.drop i).take k).toArray:=by
 have e:(λ(m:Nat)=>xs[((i:Int)+(m:Int) * 1).toNat]?)=λm=>xs[i+m]?:=by
  funext m
  have:((i:Int)+(m:Int) * 1).toNat=i+m:=by omega
  rw [this]
 rw [e]
 have:=pick_run xs i k
 rw [List.filterMap_map]at this
 have a:((λx=>xs[x]?) ∘ λx=>i+x)=λm=>xs[i+m]?:=rfl
 rw [a]at this
 rw [this]
theorem getItem_tuple_cut{t e:jH}{items:Array i_}{i g:i_}{lo a:Option Int}{Q:i_->jA->Prop}(b:IsTup s.heap t items)(hs:s.heap.IsSliceOf e i g .none)(pl:IsPart i lo)(n:IsPart g a)
  (o:¬(sIx items.size 0 lo=0/\sIx items.size items.size a=items.size))
  (h:Q (.ref s.heap.objs.size) { s with heap:=s.heap.push { cls:=.type "tuple",data:=.seq ((items.toList.drop (sIx items.size 0 lo)).take (sIx items.size items.size a - sIx items.size 0 lo)).toArray } })
  (hsz:items.size<=sizeLine):wpAny (model prog w) A (getItem (.ref t) (.ref e)) Q E s:=by
 have c:sizeOk (.seq ((items.toList.drop (sIx items.size 0 lo)).take (sIx items.size items.size a - sIx items.size 0 lo)).toArray):=by
  show((items.toList.drop (sIx items.size 0 lo)).take (sIx items.size items.size a - sIx items.size 0 lo)).toArray.size<=sizeLine
  rw [YQ,ZX,gJ,YS]
  omega
 have hj:sIx items.size items.size a<=items.size:=GV _ _ (I_ _) a
 obtain⟨os,f,l,j⟩:=id hs
 have d:s.TypeIs (.ref e) "slice" := ⟨os,f,l⟩
 unfold getItem
 try with_reducible refine ZG ?_
 first | refine A_ (C_ ?_) | skip
 refine A_ (wpAny_sequenceKey b.typeIs (by decide) ?_)
 refine A_ (ZR (name:=Str.ofString "__getitem__") b.typeIs aN
  (ZI aN b.typeIs entry_tuple_getitem ?_ (args_tuple_getitem _ _)))
 show wpAny _ _ (Builtin.Tuple.tupleItemsOf (.ref t) >>= _) _ _ s
 refine A_ (tupleItemsOf_ b ?_)
 refine A_ (fO d ?_)
 rw [S_ (by decide)]
 refine A_ (El hs pl n ?_)
 have k:¬((((sIx items.size 0 lo:Nat):Int)==0 && (1:Int)==1 && (sIx items.size items.size a - sIx items.size 0 lo)==items.size)=true):=by
  intro q
  rw [ZJ,ZJ]at q
  have p:((sIx items.size 0 lo:Nat):Int)=0:=eq_of_beq q.1.1
  have r:sIx items.size items.size a - sIx items.size 0 lo=items.size:=eq_of_beq q.2
  exact o ⟨by omega,by omega⟩
 show wpAny _ _ (if(((sIx items.size 0 lo:Nat):Int)==0 && (1:Int)==1 && (sIx items.size items.size a - sIx items.size 0 lo)==items.size)=true then _ else _) _ _ s
 rw [M_ k,Vz]
 first
  | exact A_ (m:=Builtin.Tuple.tupleExact _) (YR (C_ ⟨_,rfl,C_ h⟩) c)
  | exact A_ (m:=Builtin.Tuple.tupleExact _) (YR (A_ (C_ (C_ ⟨_,rfl,C_ h⟩))) c)
  | exact A_ (A_ (m:=Builtin.Tuple.tupleExact _) (YR (C_ (C_ ⟨_,rfl,C_ h⟩)) c))
  | exact A_ (A_ (m:=Builtin.Tuple.tupleExact _) (YR (C_ ⟨_,rfl,C_ h⟩) c))
end
end HT
namespace L2
open PySem PySem.Spec PyProof.Rows
abbrev TO:=St->Hp->(Option Int->Hp->Prop)->Prop
def PO(X:Cx)(e:Option jL)(t:TO):Prop :=
 ∀(a:List (jH×jO)) (s:jA) (σ:St) (H:Hp) (Q:Option Int->Hp->Prop),Inv X a σ H s->t σ H Q ->
  wpAny (model X.prog X.w) X.A (evalPart e X.env) (λu c=>∃o b,Inv X a σ b c/\IsPart u o/\Q o b) X.xe s
def AL:TO:=λ_ H Q=>Q none H
def NB(t:TE):TO:=fun σ H Q=>t σ H λx a=>∃i,x=.int i/\Q (some i) a
section
variable {X:Cx}{e:jL}{te:TE}{lo hi:Option jL}{tl th:TO}{pos p2:Pos}{a b:jL}{ta tb:TE}{o:jL}{es:List jL}{to:TE}{t:TA}{name:Str}{aq am:Pos}{T id:String}{r:V->List V->Hp->VK->Prop}
theorem AM:PO X none AL:=by
 intro c s σ H Q I h
 rw [evalPart_none]
 exact C_ ⟨none,H,I,.none,h⟩
theorem AN(h:PE X e te):PO X (some e) (NB te):=by
 intro k s σ H Q I hw
 rw [evalPart_some]
 refine thn (h k s σ H _ I hw) λu l j=>Cz j λx c g d f=>?_
 obtain⟨i,rfl,q⟩:=f
 obtain⟨t,rfl⟩:=d
 exact⟨some i,c,g,.int i t,q⟩
def NC(X:Cx)(r:V->Option Int->Option Int->Hp->VK->Prop):Prop :=
 ∀(g:List (jH×jO)) (s:jA) (σ:St) (H:Hp) (x:V) (v c d:i_) (lo hi:Option Int) (f:jH) (Q:VK),Inv X g σ H s->Bi x v->s.heap.IsSliceOf f c d .none->IsPart c lo->IsPart d hi->r x lo hi H Q ->
  ∃T id,typeLookup (.type T) "__getitem__" = pure (some (.builtin id))/\s.TypeIs v T/\wpAny (model X.prog X.w) X.A (getItem v (.ref f)) (EP X g σ Q) X.xe s
def WW(r:V->Option Int->Option Int->Hp->VK->Prop)(te:TE)(tl th:TO):TE:=fun σ H Q=>te σ H λx c=>tl σ c λl d=>th σ d λu f=>r x l u f Q
theorem V0{r:V->Option Int->Option Int->Hp->VK->Prop}(R:NC X r)(he:PE X e te)(L:PO X lo tl)(hu:PO X hi th):PE X (.Subscript e (.Slice lo hi none p2) pos) (WW r te tl th):=by
 intro d s σ H Q I h
 refine Subscript_ (thn (he d s σ H _ I h) λv P M=>Cz M λx D y U O=>?_)
 refine wpAny_Slice (thn (L d P σ D _ y O) λg S N=>Cz N λl J C k B=>thn (hu d S σ J _ C B) λf c n=>Cz n λu i m E z=>?_)
 rw [evalPart_none]
 refine C_ ?_
 have p:Inv X d σ i { c with heap:=c.heap.push { cls:=.type "slice",data:=.fields #[g,f,.none] } }:=m.kept (t':=c.toks) λb W q=>DD _ q
 obtain⟨T,id,F,G,j⟩:=R d { c with heap:=c.heap.push { cls:=.type "slice",data:=.fields #[g,f,.none] } } σ i x v g f l u c.heap.objs.size Q p U (Heap.IsSliceOf.new ..) k E z
 show wpAny (model X.prog X.w) X.A (subscriptTail e (.Slice lo hi none p2) v (.ref c.heap.objs.size)) (EP X d σ Q) X.xe { c with heap:=c.heap.push { cls:=.type "slice",data:=.fields #[g,f,.none] } }
 exact tail_any (ops:=[.ref c.heap.objs.size,v]) G F j (by with_unfolding_all rfl)
def Kr(xs:List V)(lo hi:Option Int):List V:=(xs.drop (HT.sIx xs.length 0 lo)).take (HT.sIx xs.length xs.length hi - HT.sIx xs.length 0 lo)
theorem Hz(xs:List V)(lo hi:Option Int):(Kr xs lo hi).length<=xs.length:=by
 unfold Kr
 rw [ZX,gJ]
 omega
def TU(K:jI):V->Option Int->Option Int->Hp->VK->Prop:=λx lo hi H Q=>∃a c,x=.ref a/\Io K H a c /\
 ¬(HT.sIx c.length 0 lo=0/\HT.sIx c.length c.length hi=c.length)/\∀p,H p=none->Q (.ref p) (upd H p (.tup (Kr c lo hi)))
theorem GW:NC X (TU X.K):=by
 intro k s σ H x v vl vu lo hi sl Q I rx hs pl pu h
 obtain⟨a,c,rfl,hx,i,q⟩:=h
 cases rx
 obtain⟨g,r,f,hz⟩:=I.tuple hx
 have d:g.toArray.size=c.length:=by rw [YQ];exact r.length.symm
 refine⟨"tuple",_,aN.lookup,f.typeIs,?_⟩
 refine HT.getItem_tuple_cut f hs pl pu (by rw [d];exact i) ?_ (by rw [d];exact hz)
 rw [d]
 refine⟨.ref s.heap.objs.size,_,I.laid (t':=s.toks) (o:=.tup (Kr c lo hi)) (λb j q=>DD _ q) (I_ _) ?_,rfl,q _ (I.hok.fresh (I_ _))⟩
 exact⟨Q_ (Hz c lo hi) hz,_,(r.drop (HT.sIx c.length 0 lo)).take (HT.sIx c.length c.length hi - HT.sIx c.length 0 lo),IsTup.new _ _⟩
theorem Vals.nil_iff{xs:List V}{c:List i_}(r:Vals xs c):c=[]↔xs=[]:=by
 cases r with
 | nil=>simp
 | cons _ _=>simp
def Zv(n:Nat)(i:Int):Option Nat:=if 0<=i then(if i < n then some i.toNat else none) else if -(n:Int)<=i then some (i+n).toNat else none
def atI{α:Type}(xs:List α)(i:Int):Option α:=(Zv xs.length i).bind λj=>xs[j]?
theorem Rh{n:Nat}{i:Int}{j:Nat}(h:Zv n i=some j):seqIndex? i n=some j/\j < n/\-(n:Int)<=i/\i < n:=by
 unfold Zv at h
 by_cases c:0<=i
 ·rw [S_ c]at h
  by_cases h1:i < n
  ·rw [S_ h1]at h
   have e:i.toNat=j:=ZL h
   exact⟨by rw [seqIndex_of c h1,e],by omega,by omega,h1⟩
  ·rw [M_ h1]at h;cases h
 ·rw [M_ c]at h
  by_cases h1:-(n:Int)<=i
  ·rw [S_ h1]at h
   have e:(i+n).toNat=j:=ZL h
   exact⟨by rw [seqIndex_neg (by omega) h1,e],by omega,h1,by omega⟩
  ·rw [M_ h1]at h;cases h
theorem Mc{α:Type}{xs:List α}{i:Int}{v:α}(h:atI xs i=some v):∃j,seqIndex? i xs.length=some j/\xs[j]?=some v/\j < xs.length/\-(xs.length:Int)<=i/\i < xs.length:=by
 unfold atI at h
 cases e:Zv xs.length i with
 | none=>rw [e]at h;cases h
 | some j =>
  rw [e]at h
  obtain⟨h1,h2,c,d⟩:=Rh e
  exact⟨j,h1,h,h2,c,d⟩
theorem Ao{α:Type}{xs:List α}{j:Nat}{v:α}(h:xs[j]?=some v):atI xs (j:Int)=some v:=by
 have hj:j < xs.length:=(E_.mp h).1
 have e:Zv xs.length (j:Int)=some j:=by
  unfold Zv
  rw [S_ (by omega),S_ (by omega)];simp
 unfold atI;rw [e];exact h
def Ri(b:jL):Prop:=∀o i,subscripted b false o i=operate [o,i] (getItem o i)
def ND(X:Cx)(r:R2):Prop :=
 ∀(d c:jL) (f:List (jH×jO)) (s:jA) (σ:St) (H:Hp) (x y:V) (v u:i_) (Q:VK),Inv X f σ H s->Bi x v->Bi y u->r x y H Q ->
  subscripted c false v u=operate [v,u] (getItem v u)->wpAny (model X.prog X.w) X.A (subscriptTail d c v u) (EP X f σ Q) X.xe s
def LF(X:Cx)(id:String)(r:V->List V->Hp->VK->Prop):Prop :=
 ∀(d:List (jH×jO)) (s:jA) (σ:St) (H:Hp) (x:V) (xs:List V) (v:i_) (c:List i_) (Q:VK),Inv X d σ H s->Bi x v->Vals xs c->r x xs H Q ->
  wpAny (model X.prog X.w) X.A (call (.builtin id) (v :: c)) (EP X d σ Q) X.xe s
theorem NE{r:R2}(d:ND X r)(ha:PE X a ta)(hb:PE X b tb)(hs:Ri b):PE X (.Subscript a b pos) (SO r ta tb):=by
 intro f s σ H Q I h
 exact Subscript_ (MS ha hb I h λv u g x y c i k j q=>d a b f g σ c x y v u Q i k j q (hs _ _))
def TV(K:jI):R2:=λx y H Q=>∃p c i v,x=.ref p/\y=.int i/\Fa K H p c/\atI c i=some v/\Q v H
def TW(K:jI):R2:=λx y H Q=>∃p c i v,x=.ref p/\y=.int i/\Io K H p c/\atI c i=some v/\Q v H
def TX:R2:=λx y H Q=>∃z i c,x=.str z/\y=.int i/\z.length<=sizeLine/\atI z.cps.toList i=some c/\Q (.str ⟨#[c]⟩) H
theorem Rj:ND X (TV X.K):=by
 intro g f l s σ H x y v u Q I rx ry h hs
 obtain⟨p,G,i,z,rfl,rfl,hq,he,q⟩:=h
 cases rx
 obtain⟨t,rfl⟩:=ry
 obtain⟨n,r,d,hz⟩:=I.list hq
 obtain⟨j,h1,h2,F,B,C⟩:=Mc he
 obtain⟨w,m,D⟩:=r.get h2
 have A:=r.length
 have J:=Hb
 have c:EP X l σ Q w s:=⟨z,H,I,D,q⟩
 by_cases k:0<=i
 ·have hj:i.toNat=j:=by
   rw [seqIndex_of k C]at h1
   exact ZL h1
  exact item_listR d.isList k (by omega) (by rw [hj];simpa using m) c hs
 ·have hj:(i+(n.toArray.size:Int)).toNat=j:=by
   rw [seqIndex_neg (by omega) B]at h1
   rw [YQ,<- A]
   exact ZL h1
  exact subscriptTail_builtinR (x:=w) d.isList.typeIs slot_list_getitem.lookup
   (wpAny_getItem_list_neg (Q:=λr E=>r=w/\EP X l σ Q r E) d.isList (by omega) (by rw [YQ] <;> omega) (by omega) (by rw [hj];simpa using m) ⟨rfl,c⟩) hs
theorem GX:ND X (TW X.K):=by
 intro f d k s σ H x y v u Q I rx ry h hs
 obtain⟨p,D,i,z,rfl,rfl,hq,he,q⟩:=h
 cases rx
 obtain⟨t,rfl⟩:=ry
 obtain⟨B,r,g,hz⟩:=I.tuple hq
 obtain⟨j,h1,h2,C,E,F⟩:=Mc he
 obtain⟨w,A,m⟩:=r.get h2
 have l:=r.length
 have G:=Hb
 have c:EP X k σ Q w s:=⟨z,H,I,m,q⟩
 exact subscriptTail_builtinR (x:=w) g.typeIs slot_tuple_getitem.lookup
  (getItem_tuple (j:=j) (Q:=λr n=>r=w/\EP X k σ Q r n) g (by omega) (by omega) (by rw [YQ,<- l];exact h1) (by simpa using A) ⟨rfl,c⟩) hs
theorem GY:ND X TX:=by
 intro f d w s σ H x y v u Q I rx ry h hs
 obtain⟨z,i,c,rfl,rfl,hz,he,q⟩:=h
 obtain⟨t,rfl⟩:=rx
 obtain⟨A,rfl⟩:=ry
 obtain⟨j,h1,h2,p,k,l⟩:=Mc he
 have g:z.cps.toList.length=z.length:=by simp [Str.length]
 rw [g]at h1 k l
 have B:=Hb
 exact tail_any (typeIs_str s z t) slot_str_getitem.lookup (getItem_str (c:=c) (by
  have m:decide (i < -(2 ^ 63:Int))=false:=ZB (by omega)
  have n:decide (i>=2 ^ 63)=false:=ZB (by omega)
  rw [m,n,Bool.or_false]) (by rw [h1];simpa using h2) ⟨.str ⟨#[c]⟩,H,I.tok _,⟨_,rfl⟩,q⟩) hs
theorem Pt(c:List i_)(n j:Nat)(u:i_):Obj.mapSeq (·.setIfInBounds j u) { cls:=.type "list",data:=.seq c.toArray n }={ cls:=.type "list",data:=.seq (c.set j u).toArray n }:=by
 simp [Obj.mapSeq]
theorem Inv.lst{d:List (jH×jO)}{σ:St}{H:Hp}{s:jA}{p:jH}{xs:List V}(I:Inv X d σ H s)(h:H p=some (.lst xs)) :
  ∃(c:List i_) (n:Nat),Vals xs c/\s.heap.get? p=some { cls:=.type "list",data:=.seq c.toArray n }/\xs.length<=sizeLine:=by
 obtain⟨z,c,n,r,e⟩:=I.hok p _ h
 exact⟨c,n,r,e,z⟩
theorem Inv.lstUpd{g:List (jH×jO)}{σ:St}{H:Hp}{s:jA}{p:jH}{xs ys:List V}{d its':List i_}{n c:Nat}{f:jO->jO}(I:Inv X g σ H s)(h:H p=some (.lst xs))
  (j:s.heap.get? p=some { cls:=.type "list",data:=.seq d.toArray n }) (i:f { cls:=.type "list",data:=.seq d.toArray n }={ cls:=.type "list",data:=.seq its'.toArray c }) (r:Vals ys its') (hz:ys.length<=sizeLine) (t:Nat) :
  Inv X g σ (upd H p (.lst ys)) { s with heap:=s.heap.update p f,toks:=t }:=by
 have e:(s.heap.update p f).get? p=some { cls:=.type "list",data:=.seq its'.toArray c }:=by
  rw [ZQ f j (by rw [i] <;> rfl),i]
 refine I.write (x:=p) (e:=p) (by rw [h];trivial) (.inl rfl) (λb u hb q=>(bQ _ _ (c_ hb)).trans q) ⟨_,e⟩ ?_
 exact⟨hz,its',c,r,e⟩
def NF:V->V->V->Hp->(Hp->Prop)->Prop:=λo i v H Q=>∃p c k j,o=.ref p/\i=.int k/\H p=some (.lst c)/\Zv c.length k=some j/\Q (upd H p (.lst (c.set j v)))
theorem V1:PSet X NF:=by
 intro y s σ H o i v ov iv u Q I ro ri rv h
 obtain⟨p,x,k,j,rfl,rfl,hp,hj,q⟩:=h
 cases ro
 obtain⟨t,rfl⟩:=ri
 obtain⟨g,n,r,d,hz⟩:=I.lst hp
 obtain⟨h1,h2,l,m⟩:=Rh hj
 have c:=r.length
 have z:=Hb
 have w:Inv X y σ (upd H p (.lst (x.set j v))) { s with heap:=s.heap.update p (Obj.mapSeq (·.setIfInBounds j u)) } :=
  I.lstUpd hp d (Pt g n j u) (r.set rv j) (by rw [List.length_set];exact hz) s.toks
 by_cases f:0<=k
 ·have hk:k.toNat=j:=by
   rw [seqIndex_of f m]at h1
   exact ZL h1
  exact PySem.W.ki_setAt d f (by omega) (by rw [YQ,<- c];exact m) (by rw [hk];exact⟨_,w,q⟩)
 ·have hk:(k+(g.toArray.size:Int)).toNat=j:=by
   rw [seqIndex_neg (by omega) l]at h1
   rw [YQ,<- c]
   exact ZL h1
  exact PySem.W.ki_setBack d (by omega) (by rw [YQ,<- c];exact l) (by omega) (by rw [hk];exact⟨_,w,q⟩)
theorem Md(lo hi:Option Int)(n:Nat):(sliceBounds lo hi none n).1=((HT.sIx n 0 lo:Nat):Int)/\(sliceBounds lo hi none n).2.1=((HT.sIx n n hi:Nat):Int)/\(sliceBounds lo hi none n).2.2=1:=by
 refine⟨?_,?_,rfl⟩
 ·cases lo with
  | none=>simp [sliceBounds,HT.sIx]
  | some i =>
   simp only [sliceBounds,HT.sIx,Option.getD_none,show(1:Int) > 0 by decide,if_true]
   by_cases h:i < 0
   ·simp only [h,if_true] <;> omega
   ·simp only [h,if_false] <;> omega
 ·cases hi with
  | none=>simp [sliceBounds,HT.sIx]
  | some i =>
   simp only [sliceBounds,HT.sIx,Option.getD_none,show(1:Int) > 0 by decide,if_true]
   by_cases h:i < 0
   ·simp only [h,if_true] <;> omega
   ·simp only [h,if_false] <;> omega
theorem Ks(c:List i_)(lo hi:Option Int):slicePick c.toArray lo hi none=((c.drop (HT.sIx c.length 0 lo)).take (HT.sIx c.length c.length hi - HT.sIx c.length 0 lo)).toArray:=by
 obtain⟨h1,h2,d⟩:=Md lo hi c.toArray.size
 unfold slicePick
 rw [h1,h2,d]
 simp only [sliceRange_one,pick_run,List.size_toArray] <;> rfl
def TY(K:jI):V->Option Int->Option Int->Hp->VK->Prop:=λx lo hi H Q=>∃a c,x=.ref a/\Fa K H a c/\∀p,H p=none->Q (.ref p) (upd H p (.lst (Kr c lo hi)))
theorem AQ:NC X (TY X.K):=by
 intro j s σ H x v vl vu lo hi sl Q I rx hs pl pu h
 obtain⟨a,c,rfl,hx,q⟩:=h
 cases rx
 obtain⟨g,r,d,hz⟩:=I.list hx
 have f:=r.length
 refine⟨"list",_,slot_list_getitem.lookup,d.isList.typeIs,?_⟩
 refine wpAny_getItem_list_slice d.isList hs pl pu .none (by simp) ?_ (by rw [YQ] <;> omega)
 rw [Ks,<- f]
 refine⟨.ref s.heap.objs.size,_,I.laid (t':=s.toks) (o:=.lst (Kr c lo hi)) (λb i q=>DD _ q) (I_ _) ?_,rfl,q _ (I.hok.fresh (I_ _))⟩
 exact⟨Q_ (Hz c lo hi) hz,_,0,(r.drop (HT.sIx c.length 0 lo)).take (HT.sIx c.length c.length hi - HT.sIx c.length 0 lo),K_ _ rfl⟩
theorem Me:Hy X (compareOp .NotIn) (λx y H Q=>∃i j,x=.str i/\y=.str j/\Q (.bl (!(!(Builtin.Str.occurrences j i 0 j.length 1).isEmpty))) H):=by
 intro d s σ H x y v u Q I rx ry h
 obtain⟨i,j,rfl,rfl,q⟩:=h
 obtain⟨t,rfl⟩:=rx
 obtain⟨c,rfl⟩:=ry
 exact notIn_str ⟨.bl _,H,I,rfl,q⟩
theorem E1:Ek X (.builtin "len") (λi H Q=>∃p c,i=[.ref p]/\(Fa X.K H p c\/Io X.K H p c)/\Q (.int c.length) H):=by
 intro l s σ H i us Q I r h
 obtain⟨p,c,rfl,hq,q⟩:=h
 obtain⟨u,rfl,k⟩:=Fd r
 cases k
 have m:=Hb
 rcases hq with hq | hq
 ·obtain⟨j,f,d,hz⟩:=I.list hq
  have g:=f.length
  exact Calls.call_len_list d.isList (by simp only [List.size_toArray] <;> omega) ⟨.int c.length,H,I.tok _,⟨s.toks+1,by rw [YQ,g]⟩,q⟩
 ·obtain⟨j,f,d,hz⟩:=I.tuple hq
  have g:=f.length
  exact len_tuple d (by simp only [List.size_toArray] <;> omega) ⟨.int c.length,H,I.tok _,⟨s.toks+1,by rw [YQ,g]⟩,q⟩
theorem Mf:Ek X (.builtin "len") (λc H Q=>∃z,c=[.str z]/\z.length<=sizeLine/\Q (.int z.length) H):=by
 intro f s σ H c us Q I r h
 obtain⟨z,rfl,hz,q⟩:=h
 obtain⟨u,rfl,t,rfl⟩:=Fd r
 have d:=Hb
 exact len_str (by omega) ⟨.int z.length,H,I.tok _,⟨_,rfl⟩,q⟩
theorem Mh:Ek X (.type "list") (λx H Q=>∃p f,x=[.ref p]/\(Fa X.K H p f\/Io X.K H p f)/\∀l,H l=none->Q (.ref l) (upd H l (.lst f))):=by
 intro y s σ H x us Q I r h
 obtain⟨p,f,rfl,hq,q⟩:=h
 obtain⟨u,rfl,A⟩:=Fd r
 cases A
 have i:∀(c:List i_),Vals f c->f.length<=sizeLine->∀(h':jN) (d:Nat),(∀b o',s.heap.get? b=some o'->h'.get? b=some o') ->
   h'.get? s.heap.objs.size=some { cls:=.type "list",dict:=none,data:=.seq c.toArray d,slots:=#[] }->EP X y σ Q (.ref s.heap.objs.size) { s with heap:=h' }:=λc g hz h' d j e =>
  ⟨.ref s.heap.objs.size,_,I.laid (t':=s.toks) j (I_ _) (show Br X.prog X.w _ h' _ (.lst f) from⟨hz,c,d,g,e⟩),rfl,q _ (I.hok.fresh (I_ _))⟩
 rcases hq with hq | hq
 ·obtain⟨c,g,k,hz⟩:=I.list hq
  have z:=g.length
  obtain⟨o,m,hc,n,v⟩:=k.isList
  exact call_list_seq p (.inl rfl) m hc v (λh' d j e=>i c g hz h' d j e) (by simp only [List.size_toArray] <;> omega)
 ·obtain⟨c,g,k,hz⟩:=I.tuple hq
  have z:=g.length
  obtain⟨o,m,hc,n,v⟩:=k
  exact call_list_seq p (.inr rfl) m hc v (λh' d j e=>i c g hz h' d j e) (by simp only [List.size_toArray] <;> omega)
theorem Gb:Ek X (.type "tuple") (λj H Q=>∃p c,j=[.ref p]/\((Fa X.K H p c/\∀l,H l=none->Q (.ref l) (upd H l (.tup c)))\/(Io X.K H p c/\Q (.ref p) H))):=by
 intro m s σ H j us Q I r h
 obtain⟨p,c,rfl,h⟩:=h
 obtain⟨u,rfl,x⟩:=Fd r
 cases x
 rcases h with⟨hq,q⟩ | ⟨hq,q⟩
 ·obtain⟨f,i,g,hz⟩:=I.list hq
  have y:=i.length
  refine call_tuple_list g.isList (λd n=>?_) (by simp only [List.size_toArray] <;> omega)
  have k:Inv X m σ H { s with heap:=d }:=I.kept (t':=s.toks) n
  have v:Inv X m σ (upd H d.objs.size (.tup c)) { s with heap:=d.push { cls:=.type "tuple",data:=.seq f.toArray } } :=
   k.laid (t':=s.toks) (λb o e=>DD _ e) (I_ _) (show Br X.prog X.w _ _ _ (.tup c) from⟨hz,f,i,IsTup.new _ _⟩)
  exact⟨.ref d.objs.size,_,v,rfl,q _ (k.hok.fresh (I_ _))⟩
 ·obtain⟨f,i,g,hz⟩:=I.tuple hq
  exact call_tuple_same g ⟨.ref p,H,I,rfl,q⟩
def SQ(K:jI)(T:String)(x:V)(H:Hp):Prop:=match x with
 | .str _=>T = "str"
 | .int _=>T = "int"
 | .ref p=>(T = "list" /\ ∃d,Fa K H p d)\/(T = "tuple" /\ ∃o,K.lookup p=some o/\o.cls=.type "tuple" /\ o.dict=none) \/
   (T = "dict" /\ ((∃c,H p=some (.dK c))\/∃c,H p=some (.dT c)))\/(T = "set" /\ ∃S n,H p=some (.set S n))
 | _=>False
theorem V2{l:List (jH×jO)}{σ:St}{H:Hp}{s:jA}{T:String}{x:V}{v:i_}(I:Inv X l σ H s)(r:Bi x v)(ty:SQ X.K T x H) :
  s.TypeIs v T/\∀a,v=.ref a->∃k,s.heap.get? a=some k/\k.dict=none:=by
 cases x with
 | str z =>
  obtain⟨t,rfl⟩:=r
  cases (show T = "str" from ty)
  exact⟨typeIs_str s z t,λ_ e=>nomatch e⟩
 | int i =>
  obtain⟨t,rfl⟩:=r
  cases (show T = "int" from ty)
  exact⟨typeIs_int s i t,λ_ e=>nomatch e⟩
 | ref p =>
  cases r
  rcases ty with⟨rfl,q,hq⟩ | ⟨rfl,o,hk,hc,h⟩ | ⟨rfl,hk⟩ | ⟨rfl,S,n,hk⟩
  ·obtain⟨m,_,j,_⟩:=I.list hq
   refine⟨j.isList.typeIs,λa e=>?_⟩
   cases e
   obtain⟨o,n,e,c,h,_⟩:=j
   exact⟨o,e,h⟩
  ·refine⟨⟨o,I.kIn p o hk,hc⟩,λa e=>?_⟩
   cases e
   exact⟨o,I.kIn _ o hk,h⟩
  ·have z:∃o,s.heap.get? p=some o/\o.ExactDict:=by
    rcases hk with⟨f,hk⟩ | ⟨f,hk⟩
    ·obtain⟨_,_,_,_,o,_,_,e,d,_⟩:=I.hok p _ hk
     exact⟨o,e,d⟩
    ·obtain⟨_,_,_,_,o,_,_,e,d,_⟩:=I.hok p _ hk
     exact⟨o,e,d⟩
   obtain⟨o,e,d⟩:=z
   refine⟨⟨o,e,d.1⟩,λa g=>?_⟩
   cases g
   exact⟨o,e,d.2.1⟩
  ·obtain⟨o,_,_,_,e,d,_⟩:=I.hok p _ hk
   refine⟨⟨o,e,d.1⟩,λa g=>?_⟩
   cases g
   exact⟨o,e,d.2.1⟩
 | _=>exact False.elim ty
def GZ(K:jI)(T:String)(r:V->List V->Hp->VK->Prop)(to:TE):TE:=fun σ H Q=>to σ H λx c=>SQ K T x c/\r x [] c Q
def WX(K:jI)(T:String)(r:V->List V->Hp->VK->Prop)(to:TE)(t:TA):TE:=fun σ H Q=>to σ H λx c=>SQ K T x c/\t σ c λf d=>r x f d Q
theorem Pu(m:PlainAttrs T)(slot:Slot T name id)(j:typeOf (.builtin id)=pure (.type "method_descriptor")) (q:LF X id r) (n:PE X o to)
  (i:attributeBase o name X.env (eval o X.env)=eval o X.env:=by rfl) (u:(aq.endLine==am.line)=true:=by rfl):PE X (.Call (.Attribute o name aq) [] [] am) (GZ X.K T r to):=by
 intro d s σ H Q I h
 refine wpAny_Call_method0_late i u (thn (n d s σ H _ I h) λv l g=>?_)
 obtain⟨x,p,c,f,ty,k⟩:=g
 obtain⟨h1,h2⟩:=V2 c f ty
 exact⟨T,id,m,slot,j,h1,h2,eC rfl (PySem.evalArgs_none (q d l σ p x [] v [] Q c f .nil k))⟩
theorem NG(F:PlainAttrs T)(slot:Slot T name id)(j:typeOf (.builtin id)=pure (.type "method_descriptor")) (w:LF X id r) (p:PE X o to) (ha:PA X (e :: es) t)
  (i:attributeBase o name X.env (eval o X.env)=eval o X.env:=by rfl)
  (A:((backTo am (starEach (e :: es) X.env)).all (λx=>!x.1) && (backToKw am (keywordEach [] X.env)).all (λx=>x.1.isSome)
   && decide ((e :: es).length+([]:List Keyword).length+(if([]:List Keyword).isEmpty then 0 else 1) < 30))=true:=by rfl)
  (y:(aq.endLine==am.line)=true:=by rfl) (hs:starEach (e :: es) X.env=(false,eval e X.env) :: starEach es X.env:=by rfl) (k:(backTo am (starEach es X.env)).any (·.1)=false:=by rfl) :
  PE X (.Call (.Attribute o name aq) (e :: es) [] am) (WX X.K T r to t):=by
 intro c s σ H Q I h
 refine wpAny_Call_method_late i A y rfl (thn (p c s σ H _ I h) λv E z=>?_)
 obtain⟨x,q,d,g,ty,D⟩:=z
 obtain⟨h1,h2⟩:=V2 d g ty
 refine⟨T,id,F,slot,j,h1,h2,?_⟩
 have f:=ha am c E σ q _ d D
 rw [hs]at f ⊢
 refine eC (by show(false || (backTo am (starEach es X.env)).any (·.1))=false;rw [k] <;> rfl) (gN ?_)
 exact thn f λC G u=>Cz u λJ B n m l=>w c G σ B x J v C Q n g m l
end
def WH(X:Cx)(id:String)(r:V->List V->Hp->VK->Prop):Prop :=
 ∀(b:List (jH×jO)) (s:jA) (σ:St) (H:Hp) (x:V) (xs:List V) (v:i_) (a:List i_) (Q:VK),Inv X b σ H s->Bi x v->Vals xs a->r x xs H Q ->
  wpAny (model X.prog X.w) X.A (call (.builtin id) (v :: a)) (EP X b σ Q) X.xe s
theorem Vals.one:∀{x:V} {a:List i_},Vals [x] a->∃u,a=[u]/\Bi x u
 | _,_,.cons r .nil=>⟨_,rfl,r⟩
theorem Vals.zero:∀{a:List i_},Vals [] a->a=[]
 | _,.nil=>rfl
section
variable {X:Cx}{aa:List (jH×jO)}{σ:St}{H:Hp}{s:jA}{l b:jH}{xs ys zs:List V}
theorem Inv.lset{a its':List i_}{n:Nat}{f:Array i_->Array i_}{t':Nat}(I:Inv X aa σ H s)(c:H l=some (.lst xs))
  (e:s.heap.get? l=some { cls:=.type "list",data:=.seq a.toArray n }) (d:f a.toArray=its'.toArray) (hv:Vals ys its') (hz:ys.length<=sizeLine) :
  Inv X aa σ (upd H l (.lst ys)) { s with heap:=s.heap.update l (Obj.mapSeq f),toks:=t' }:=by
 have q:=PySem.IsL.update e f
 rw [d]at q
 refine I.write (x:=l) (e:=l) (by rw [c];exact trivial) (.inl rfl) (λg u hb hu=>(bQ s.heap (Obj.mapSeq f) (c_ hb)).trans hu) ⟨_,q⟩ ?_
 exact⟨hz,its',_,hv,q⟩
theorem Inv.lnew{a:List i_}{t':Nat}(I:Inv X aa σ H s)(hv:Vals ys a)(hz:ys.length<=sizeLine) :
  Inv X aa σ (upd H s.heap.objs.size (.lst ys)) { s with heap:=s.heap.push { cls:=.type "list",data:=.seq a.toArray },toks:=t' } :=
 I.laid (λ_ _ q=>DD _ q) (I_ _) ⟨hz,a,0,hv,K_ _ rfl⟩
theorem Inv.fresh(I:Inv X aa σ H s):H s.heap.objs.size=none:=I.hok.fresh (I_ _)
theorem Inv.lstM(I:Inv X aa σ H s)(c:H l=some (.lst xs)):xs.length<=sizeLine/\∃(a:List i_) (n:Nat),Vals xs a/\xs.length=a.length/\s.heap.get? l=some { cls:=.type "list",data:=.seq a.toArray n }:=by
 obtain⟨z,a,n,r,e⟩:=I.hok l _ c
 exact⟨z,a,n,r,r.length,e⟩
theorem V3{n:Nat}(h:n<=sizeLine):Builtin.List.listTooLong n=false:=by
 unfold Builtin.List.listTooLong
 exact ZB (by omega)
def AR:V->List V->Hp->VK->Prop:=λx a H Q=>∃l xs y,x=.ref l/\a=[y]/\H l=some (.lst xs)/\xs.length < sizeLine/\Q .non (upd H l (.lst (xs++[y])))
theorem K9:WH X "list.append" AR:=by
 intro aa s σ H x vs v us Q I rx rv h
 obtain⟨l,xs,y,rfl,rfl,c,hz,q⟩:=h
 cases rx
 obtain⟨u,rfl,d⟩:=rv.one
 obtain⟨z,a,n,r,f,e⟩:=I.lstM c
 refine iV F.slot_list_append ⟨_,e,rfl⟩ F.entry_list_append (F.args_list_append_2 _ _) (PySem.list_append l a.toArray n u (by rw [YQ];omega)) ⟨e,?_⟩
 refine⟨.non,_,I.lset (its':=a++[u]) c e (by simp) (r.append (.cons d .nil)) ?_,rfl,q⟩
 rw [L_,eO]
 omega
def AU:V->List V->Hp->VK->Prop:=λx a H Q=>∃l b xs zs,x=.ref l/\a=[.ref b]/\H l=some (.lst xs)/\H b=some (.lst zs)/\xs.length+zs.length<=sizeLine/\Q .non (upd H l (.lst (xs++zs)))
theorem T7:WH X "list.extend" AU:=by
 intro aa s σ H x vs v us Q I rx rv h
 obtain⟨l,b,xs,zs,rfl,rfl,f,k,hz,q⟩:=h
 cases rx
 obtain⟨u,rfl,j⟩:=rv.one
 cases j
 obtain⟨z,c,n,r,p,e⟩:=I.lstM f
 obtain⟨t,a,i,m,w,o⟩:=I.lstM k
 have d:c.toArray.size+a.toArray.size<=sizeLine:=by rw [YQ,YQ];omega
 have g:¬(!c.toArray.isEmpty && Builtin.List.listTooLong (c.toArray.size+a.toArray.size))=true:=by
  rw [V3 d,Bool.and_false]
  exact R_
 refine iV F.slot_list_extend ⟨_,e,rfl⟩ F.entry_list_extend (F.args_list_extend_2 _ _)
  (AutoSeq1.list_extend_list_list_0 l c.toArray n b a.toArray i g (by rw [YQ];omega) (by omega)) ⟨e,o,?_⟩
 refine⟨.non,_,I.lset (its':=c++a) f e (by simp) (r.append m) ?_,rfl,q⟩
 rw [L_]
 omega
def TZ:R2:=λx y H Q=>∃l b xs zs,x=.ref l/\y=.ref b/\H l=some (.lst xs)/\H b=some (.lst zs)/\xs.length+zs.length<=sizeLine/\∀p,H p=none->Q (.ref p) (upd H p (.lst (xs++zs)))
theorem HA:Hy X (binaryOp .Add) TZ:=by
 intro aa s σ H x y v u Q I rx ry h
 obtain⟨l,b,xs,zs,rfl,rfl,d,f,hz,q⟩:=h
 cases rx
 cases ry
 obtain⟨z,c,n,r,k,e⟩:=I.lstM d
 obtain⟨o,a,m,g,p,j⟩:=I.lstM f
 refine PySem.P.add_list e j ?_ (by rw [YQ,YQ];omega)
 have i:c.toArray++a.toArray=(c++a).toArray:=by simp
 rw [i]
 exact⟨.ref _,_,I.lnew (t':=s.toks) (r.append g) (by rw [L_];omega),rfl,q _ I.fresh⟩
end
section
variable {κ:Type} [DecidableEq κ]
def Eh(kvs:List (κ×V))(k:κ):Option V:=(kvs.find? λa=>decide (a.1=k)).map (·.2)
def putK(kvs:List (κ×V))(k:κ)(v:V):List (κ×V) :=
 if(kvs.any λa=>decide (a.1=k))=true then kvs.map (λa=>if a.1=k then(a.1,v) else a) else kvs++[(k,v)]
theorem Jd{p:κ×V}{r:List (κ×V)}{k:κ}(e:p.1=k):Eh (p :: r) k=some p.2:=by simp [Eh,List.find?_cons,e]
theorem Je{p:κ×V}{r:List (κ×V)}{k:κ}(e:¬p.1=k):Eh (p :: r) k=Eh r k:=by simp [Eh,List.find?_cons,e]
theorem Nt(k:κ):∀a:List (κ×V),(a.any λb=>decide (b.1=k))=(Eh a k).isSome
 | []=>rfl
 | p :: r=>by
  rw [cH]
  by_cases e:p.1=k
  ·simp only [Jd e,decide_eq_true e,Bool.true_or,Option.isSome_some]
  ·rw [Je e,ZB e,fC];exact Nt k r
theorem Fe(kvs:List (κ×V))(k:κ)(v:V):(putK kvs k v).length<=kvs.length+1:=by
 unfold putK
 split
 ·rw [B_];omega
 ·rw [L_,ZS,List.length_nil];omega
theorem Ha.isSome_eq{o:Option V}{u:Option i_}(r:Ha o u):o.isSome=u.isSome:=by
 cases o with
 | none=>cases u with
  | none=>rfl
  | some _=>exact(show False from r).elim
 | some _=>cases u with
  | none=>exact(show False from r).elim
  | some _=>rfl
theorem Ha.getD{o:Option V}{u:Option i_}{d:V}{d':i_}(r:Ha o u)(rd:Bi d d'):Bi (o.getD d) (u.getD d'):=by
 cases o with
 | none=>cases u with
  | none=>exact rd
  | some _=>exact(show False from r).elim
 | some _=>cases u with
  | none=>exact(show False from r).elim
  | some _=>exact r
theorem KV.val{kvs:List (κ×V)}{d:List (κ×i_)}(r:KV kvs d)(k:κ):Ha (Eh kvs k) (valueAt d k):=by
 unfold KV at r
 induction r with
 | nil=>exact True.intro
 | @cons p q g c h t f =>
  obtain⟨h1,h2⟩:=h
  by_cases e:p.1=k
  ·have a:q.1=k:=h1.symm.trans e
   have b:valueAt (q :: c) k=some q.2:=by simp [valueAt,List.find?_cons,a]
   rw [Jd e,b];exact h2
  ·have a:¬q.1=k:=λz=>e (h1.trans z)
   have b:valueAt (q :: c) k=valueAt c k:=by simp [valueAt,List.find?_cons,a]
   rw [Je e,b];exact f
theorem KV.any{kvs:List (κ×V)}{b:List (κ×i_)}(r:KV kvs b)(k:κ):(kvs.any λa=>decide (a.1=k))=b.any λa=>decide (a.1=k):=by
 unfold KV at r
 induction r with
 | nil=>rfl
 | cons h t c=>rw [cH,cH,c,h.1]
theorem KV.repl{kvs:List (κ×V)}{b:List (κ×i_)}(r:KV kvs b)(k:κ){y:V}{u:i_}(d:Bi y u) :
  KV (kvs.map λa=>if a.1=k then(a.1,y) else a) (b.map λa=>if a.1=k then(a.1,u) else a):=by
 unfold KV at r ⊢
 induction r with
 | nil=>exact .nil
 | @cons p q f g h t c =>
  rw [ZH,ZH]
  refine .cons ?_ c
  obtain⟨h1,h2⟩:=h
  by_cases e:p.1=k
  ·rw [S_ e,S_ (h1.symm.trans e)];exact⟨h1,d⟩
  ·rw [M_ e,M_ (λz=>e (h1.trans z))];exact⟨h1,h2⟩
theorem KV.put{kvs:List (κ×V)}{a:List (κ×i_)}(r:KV kvs a)(k:κ){y:V}{u:i_}(b:Bi y u):KV (putK kvs k y) (stored a k u):=by
 unfold putK stored
 rw [r.any k]
 by_cases e:(a.any λc=>decide (c.1=k))=true
 ·rw [S_ e,S_ e];exact r.repl k b
 ·rw [M_ e,M_ e];exact iZ r ⟨rfl,b⟩
theorem KV.length{kvs:List (κ×V)}{a:List (κ×i_)}(r:KV kvs a):kvs.length=a.length:=ZZ r
end
theorem La{P:jJ}{w:jK}{k:Key}{u:i_}(r:Bi (kV k) u):(A8 P w).is k u=true:=by
 cases k with
 | inl i=>obtain⟨t,e⟩:=(show ∃t,u=Value.int i t from r);subst e;exact Ct P w i t
 | inr x=>obtain⟨t,e⟩:=(show ∃t,u=Value.str x t from r);subst e;exact Fb P w x t
theorem Lb{P:jJ}{w:jK}:∀{ks:List Key} {a:List i_},Vals (ks.map kV) a->ItemsAre (A8 P w) ks a
 | [],_,r=>by rw [List.map_nil]at r;cases r;exact .nil
 | k :: ks,_,r=>by
  rw [ZH]at r
  cases r with
  | cons h t=>exact .cons (La h) (Lb t)
abbrev KT(H:Hp):List (List Key×V)->List (List Key×jH×i_)->Prop:=Paired λp q=>p.1=q.1/\H q.2.1=some (.tup (p.1.map kV))/\Bi p.2 q.2.2
theorem KT.val{H:Hp}{kvs:List (List Key×V)}{xs:List (List Key×jH×i_)}(r:KT H kvs xs)(k:List Key):Ha (Eh kvs k) ((atKey xs k).map (·.2)):=by
 induction r with
 | nil=>exact True.intro
 | @cons p q f c h t d =>
  obtain⟨h1,_,h2⟩:=h
  by_cases e:p.1=k
  ·have a:q.1=k:=h1.symm.trans e
   have b:atKey (q :: c) k=some q.2:=by simp [atKey,List.find?_cons,a]
   rw [Jd e,b];exact h2
  ·have a:¬q.1=k:=λz=>e (h1.trans z)
   have b:atKey (q :: c) k=atKey c k:=by simp [atKey,List.find?_cons,a]
   rw [Je e,b];exact d
theorem KT.repl{H:Hp}{kvs:List (List Key×V)}{xs:List (List Key×jH×i_)}(r:KT H kvs xs)(k:List Key){y:V}{u:i_}(d:Bi y u) :
  KT H (kvs.map λa=>if a.1=k then(a.1,y) else a) (xs.map (putAt k u)):=by
 induction r with
 | nil=>exact .nil
 | @cons p q f g h t b =>
  rw [ZH,ZH]
  refine .cons ?_ b
  obtain⟨h1,h2,c⟩:=h
  unfold putAt
  by_cases e:p.1=k
  ·rw [S_ e,S_ (h1.symm.trans e)];exact⟨h1,h2,d⟩
  ·rw [M_ e,M_ (λz=>e (h1.trans z))];exact⟨h1,h2,c⟩
theorem KT.put{H:Hp}{kvs:List (List Key×V)}{xs:List (List Key×jH×i_)}(r:KT H kvs xs)(k:List Key){b:jH}{y:V}{u:i_}(hb:H b=some (.tup (k.map kV)))(a:Bi y u) :
  KT H (putK kvs k y) (storedH xs k b u):=by
 have e:(kvs.any λc=>decide (c.1=k))=(atKey xs k).isSome:=by
  rw [Nt,(r.val k).isSome_eq,fP]
 unfold putK storedH
 rw [e]
 by_cases q:(atKey xs k).isSome=true
 ·rw [S_ q,S_ q];exact r.repl k a
 ·rw [M_ q,M_ q];exact iZ r ⟨rfl,hb,a⟩
theorem KT.keeps{H H':Hp}{kvs:List (List Key×V)}{xs:List (List Key×jH×i_)}(r:KT H kvs xs)(c:∀b a,H b=some (.tup a)->H' b=some (.tup a)):KT H' kvs xs :=
 Paired.mapP r λ_ _ z=>⟨z.1,c _ _ z.2.1,z.2.2⟩
section
variable {P:jJ}{w:jK}{H:Hp}{h:jN}{a:jH}{X:Cx}{aa:List (jH×jO)}{σ:St}{s:jA}{y v:V}{u r:i_}{o:Option V}{A:jM}{E:i_->jA->Prop}
theorem EF{u:HO}(ok:HOk P w H h)(e:Rd H a u):Br P w H h a u:=e.ok ok
theorem Ia{kvs:List (Key×V)}(ok:HOk P w H h)(e:Rd H a (.dK kvs)):kvs.length<=sizeLine/\(a==sysModules)=false/\∃b,KV kvs b/\h.DictOf (A8 P w) a b :=
 show Br P w H h a (.dK kvs) from EF ok e
theorem NH{kvs:List (Key×V)}(ok:HOk P w H h)(e:H a=some (.dK kvs)):kvs.length<=sizeLine/\(a==sysModules)=false/\∃b,KV kvs b/\h.DictOf (A8 P w) a b:=Ia ok (.inl e)
theorem Gi{ks:List Key}(ok:HOk P w H h)(e:H a=some (.tup (ks.map kV))):(tupleKind (A8 P w)).is h ks a:=by
 obtain⟨_,b,r,o,h1,h2,n,c⟩:=(show Br P w H h a (.tup (ks.map kV)) from ok a _ e)
 exact⟨o,b.toArray,n,h1,h2,c,by simpa using Lb r⟩
theorem Jf{kvs:List (List Key×V)}(ok:HOk P w H h)(e:Rd H a (.dT kvs)):kvs.length<=sizeLine/\(a==sysModules)=false /\
  ∃b,KT H kvs b/\h.DictOfH (tupleKind (A8 P w)) a b:=by
 obtain⟨z,y,b,r,o,i,j,h1,h2,d,f,g⟩:=(show Br P w H h a (.dT kvs) from EF ok e)
 refine⟨z,y,b,r,o,i,j,h1,h2,d,f,λx hx=>?_,g⟩
 have all:∀{l:List (List Key×V)} {m:List (List Key×jH×i_)},KT H l m->∀x∈m,(tupleKind (A8 P w)).is h x.1 x.2.1:=by
  intro l m q
  induction q with
  | nil=>intro x hx;exact nomatch hx
  | @cons p q k n hq t c =>
   intro x hx
   rcases YV.mp hx with e | hx
   ·subst e
    exact Gi ok (by rw [<- hq.1];exact hq.2.1)
   ·exact c x hx
 exact all r x hx
theorem Nu{kvs:List (List Key×V)}(ok:HOk P w H h)(e:H a=some (.dT kvs)):kvs.length<=sizeLine/\(a==sysModules)=false /\
  ∃b,KT H kvs b/\h.DictOfH (tupleKind (A8 P w)) a b:=Jf ok (.inl e)
def DGet(H:Hp)(a:jH)(y:V)(r:Option V):Prop :=
 (∃c k,Rd H a (.dK c)/\y=kV k/\r=Eh c k)\/∃c k b,Rd H a (.dT c)/\y=.ref b/\H b=some (.tup (k.map kV))/\r=Eh c k
def DPut(H:Hp)(a:jH)(y v:V)(H':Hp):Prop :=
 (∃c k,H a=some (.dK c)/\y=kV k/\c.length < sizeLine/\H'=upd H a (.dK (putK c k v))) \/
 ∃c k b,H a=some (.dT c)/\y=.ref b/\H b=some (.tup (k.map kV))/\c.length < sizeLine/\H'=upd H a (.dT (putK c k v))
theorem DGet.k{H:Hp}{a:jH}{kvs:List (Key×V)}{k:Key}(e:H a=some (.dK kvs)):DGet H a (kV k) (Eh kvs k):=.inl ⟨kvs,k,.inl e,rfl,rfl⟩
theorem DGet.t{H:Hp}{a b:jH}{kvs:List (List Key×V)}{k:List Key}(e:H a=some (.dT kvs))(c:H b=some (.tup (k.map kV))):DGet H a (.ref b) (Eh kvs k):=.inr ⟨kvs,k,b,.inl e,rfl,c,rfl⟩
theorem DPut.k{H:Hp}{a:jH}{kvs:List (Key×V)}{k:Key}{v:V}(e:H a=some (.dK kvs))(b:kvs.length < sizeLine):DPut H a (kV k) v (upd H a (.dK (putK kvs k v))):=.inl ⟨kvs,k,e,rfl,b,rfl⟩
theorem DPut.t{H:Hp}{a b:jH}{kvs:List (List Key×V)}{k:List Key}{v:V}(e:H a=some (.dT kvs))(d:H b=some (.tup (k.map kV)))(c:kvs.length < sizeLine) :
  DPut H a (.ref b) v (upd H a (.dT (putK kvs k v))):=.inr ⟨kvs,k,b,e,rfl,d,c,rfl⟩
theorem Inv.big(I:Inv X aa σ H s):sysModules < s.heap.objs.size:=by
 have h:mainGlobals < s.heap.objs.size:=(I.mod.glob.keeps I.bk).lt
 exact dA (by decide) h
theorem T8{Q:i_->jA->Prop}(hu:A.units+1 < cLine)(I:Inv X aa σ H s)(g:DGet H a y (some v))(n:Bi y u)(h:∀d q,Inv X aa σ H q->Bi v d->Q d q) :
  wpAny (model X.prog X.w) A (getItem (.ref a) u) Q E s:=by
 rcases g with⟨f,k,e,j,l⟩ | ⟨f,k,b,e,j,B,l⟩
 ·subst j
  obtain⟨z,D,C,c,dd⟩:=Ia I.hok e
  obtain⟨d,m,i⟩:=Ha.some_of (v:=v) (o:=valueAt C k) (by rw [l];exact c.val k)
  exact wpAny_getItem_of (La n) dd.mapOf m (h d _ (I.tok _) i)
 ·subst j
  cases (show u=Value.ref b from n)
  obtain⟨z,D,x,c,dd⟩:=Jf I.hok e
  obtain⟨d,m,i⟩:=Ha.some_of (v:=v) (o:=(atKey x k).map (·.2)) (by rw [l];exact c.val k)
  obtain⟨p,hp,t⟩:=F_.mp m
  refine wpAny_getItem_heap (dE hu) (Gi I.hok B) dd hp ?_
  rw [t]
  exact h d _ (I.tok _) i
theorem UA{Q:i_->jA->Prop}(hu:A.units+1 < cLine)(I:Inv X aa σ H s)(g:DGet H a y o)(j:Bi y u)(h:∀m,Inv X aa σ H m->Q (.bool o.isSome) m) :
  wpAny (model X.prog X.w) A (compareOp .In u (.ref a)) Q E s:=by
 rcases g with⟨d,k,e,f,l⟩ | ⟨d,k,b,e,f,n,l⟩
 ·subst f
  obtain⟨z,i,t,c,dd⟩:=Ia I.hok e
  refine wpAny_in_of (La j) i dd.mapOf ?_
  rw [<- (c.val k).isSome_eq,<- l]
  exact h _ (I.tok _)
 ·subst f
  cases (show u=Value.ref b from j)
  obtain⟨z,i,p,c,dd⟩:=Jf I.hok e
  refine wpAny_in_heap (dE hu) (Gi I.hok n) i dd ?_
  have q:=(c.val k).isSome_eq
  rw [fP]at q
  rw [<- q,<- l]
  exact h _ (I.tok _)
theorem AW{Q:i_->jA->Prop}(hu:A.units+1 < cLine)(I:Inv X aa σ H s)(g:DGet H a y o)(j:Bi y u)(h:∀m,Inv X aa σ H m->Q (.bool (!o.isSome)) m) :
  wpAny (model X.prog X.w) A (compareOp .NotIn u (.ref a)) Q E s:=by
 rcases g with⟨d,k,e,f,l⟩ | ⟨d,k,b,e,f,n,l⟩
 ·subst f
  obtain⟨z,i,t,c,dd⟩:=Ia I.hok e
  refine wpAny_notIn_of (La j) i dd.mapOf ?_
  rw [<- (c.val k).isSome_eq,<- l]
  exact h _ (I.tok _)
 ·subst f
  cases (show u=Value.ref b from j)
  obtain⟨z,i,p,c,dd⟩:=Jf I.hok e
  refine wpAny_notIn_heap (dE hu) (Gi I.hok n) i dd ?_
  have q:=(c.val k).isSome_eq
  rw [fP]at q
  rw [<- q,<- l]
  exact h _ (I.tok _)
theorem Iw{h':jN}{t':Nat}{c:HO}(I:Inv X aa σ H s)(f:Mut (H a))(hs:Heap.SameBut a s.heap h')(he:∃q,h'.get? a=some q)(d:Br X.prog X.w (upd H a c) h' a c) :
  Inv X aa σ (upd H a c) { s with heap:=h',toks:=t' } :=
 I.write (x:=a) (e:=a) f (.inl rfl) (λb q hb z=>(hs.2 b hb).trans z) he d
theorem HB{P:jJ}{w:jK}{H':Hp}{h':jN}{kvs:List (Key×V)}{c:List (Key×i_)}(z:kvs.length<=sizeLine)(d:(a==sysModules)=false)(b:KV kvs c)(dd:h'.DictOf (A8 P w) a c) :
  Br P w H' h' a (.dK kvs):=⟨z,d,c,b,dd⟩
theorem T9{H':Hp}{Q:Unit->jA->Prop}(hu:A.units+1 < cLine)(I:Inv X aa σ H s)(g:DPut H a y v H')(C:Bi y u)(x:Bi v r)(h:∀D,Inv X aa σ H' D->Q () D) :
  wpAny (model X.prog X.w) A (setItem (.ref a) u r) Q E s:=by
 rcases g with⟨f,k,e,t,l,m⟩ | ⟨f,k,b,e,t,G,l,m⟩
 ·subst t m
  obtain⟨z,j,S,d,dd⟩:=NH I.hok e
  have hz:S.length<=sizeLine:=by rw [<- d.length];exact z
  have n:(putK f k v).length<=sizeLine:=by have:=Fe f k v;omega
  refine wpAny_setItem_pairs (hsz:=hz) (La C) dd λB i p=>h _ ?_
  have he:∃q,B.get? a=some q:=let⟨q,_,_,hq,_⟩:=i;⟨q,hq⟩
  exact Iw I (by rw [e];exact True.intro) p he (HB n j (d.put k x) i)
 ·subst t m
  cases (show u=Value.ref b from C)
  obtain⟨z,j,N,d,dd⟩:=Nu I.hok e
  have hz:N.length<=sizeLine:=by rw [<- ZZ d];exact z
  have n:(putK f k v).length<=sizeLine:=by have:=Fe f k v;omega
  refine wpAny_setItem_heap (hsz:=hz) (dE hu) (Gi I.hok G) dd λB i p=>h _ ?_
  obtain⟨q,R,L,hq,h2,M,J,_,O⟩:=i
  refine Iw I (by rw [e];exact True.intro) p ⟨q,hq⟩ ⟨n,j,_,(d.put k G x).keeps λc T F=>?_,q,R,L,hq,h2,M,J,O⟩
  rw [Au (Nm F e (λz=>nomatch z))]
  exact F
end
section
variable {X:Cx}{aa:List (jH×jO)}{σ:St}{H:Hp}{s:jA}{a:jH}{kvs:List (Key×V)}{k:Key}{u:i_}{A:jM}{E:i_->jA->Prop}{o i e value:jL}{pos de mi:Pos}{td ty tv:TE}
theorem NI{Q:i_->jA->Prop}(I:Inv X aa σ H s)(e:Rd H a (.dK kvs))(h:∀t c,Inv X aa σ H c->Q (.int kvs.length t) c):wpAny (model X.prog X.w) A (call (.builtin "len") [.ref a]) Q E s:=by
 obtain⟨z,d,f,b,dd⟩:=Ia I.hok e
 refine call_len_dict d dd (by rw [<- b.length];rw [sizeLine_eq]at z;omega) ?_
 rw [<- b.length]
 exact h _ _ (I.tok _)
def HC(i:jL):Prop:=∀c b,subscripted i false c b=operate [c,b] (getItem c b)
theorem AY{prog:jJ}{w:jK}{A:jM}{E:i_->jA->Prop}{s:jA}{env:Env}{value b:jL}{pos:Pos}{T id:String}{Q:i_->jA->Prop}
  (f:typeLookup (.type T) "__getitem__" = pure (some (.builtin id))) (hs:HC b)
  (h:wpAny (model prog w) A (eval value env) (λo s₁=>wpAny (model prog w) A (eval b env) (λi s₂=>s₂.TypeIs o T/\wpAny (model prog w) A (getItem o i) Q E s₂) E s₁) E s) :
  wpAny (model prog w) A (eval (.Subscript value b pos) env) Q E s:=by
 refine Subscript_ (aP h (λo s₁ h₁=>aP h₁ (λi s₂ h₂=>?_) λ_ _ x=>x) λ_ _ x=>x)
 obtain⟨d,h₂⟩:=h₂
 unfold subscriptTail
 refine A_ ?_
 rw [getitemInPython_of_ne d.not_modules]
 refine A_ (bK d f ?_)
 have c:wpAny (model prog w) A (subscripted b false o i) (λr s₃=>wpAny (model prog w) A (letTemporaryGo value o r >>= λ_=>pure r) Q E s₃) E s₂:=by
  rw [hs o i]
  exact wpAny_operating (aP h₂ (λr s₃ h₃=>A_ (wpAny_letTemporaryGo (C_ h₃))) λ_ _ x=>x)
 first
  | exact C_ (A_ c)
  | exact A_ (C_ (A_ c))
  | exact A_ c
theorem Nv{X:Cx}{aa:List (jH×jO)}{σ:St}{H:Hp}{s:jA}{a:jH}{y:V}{o:Option V}(I:Inv X aa σ H s)(g:DGet H a y o):s.TypeIs (.ref a) "dict" := by
 rcases g with⟨kvs,k,e,_,_⟩ | ⟨kvs,k,b,e,_,_,_⟩
 ·obtain⟨_,_,d,_,dd⟩:=Ia I.hok e
  exact dd.typeIs
 ·obtain⟨_,_,c,_,dd⟩:=Jf I.hok e
  exact dd.typeIs
def NJ(td ty:TE):TE:=fun σ H Q=>td σ H λx c=>ty σ c λy b=>∃a v,x=.ref a/\DGet b a y (some v)/\Q v b
def NK(ty td:TE):TE:=fun σ H Q=>ty σ H λy c=>td σ c λx b=>∃a o,x=.ref a/\DGet b a y o/\Q (.bl o.isSome) b
def Rk(ty td:TE):TE:=fun σ H Q=>ty σ H λy c=>td σ c λx b=>∃a o,x=.ref a/\DGet b a y o/\Q (.bl (!o.isSome)) b
def NL(td ty tv:TE):TS:=λD σ H=>tv σ H λv c=>td σ c λx d=>ty σ d λy f=>∃a b,x=.ref a/\DPut f a y v b/\D.nx σ b
theorem AZ(hu:X.A.units+1 < cLine)(q:PE X o td)(t:PE X i ty)(hs:HC i):PE X (.Subscript o i pos) (NJ td ty):=by
 intro aa s σ H Q I h
 refine AY PySem.F.slot_dict_getitem.lookup hs (thn (q aa s σ H _ I h) λu l C=>Cz C λx r m w j=>thn (t aa l σ r _ m j) λJ G f=>?_)
 obtain⟨y,d,b,z,a,v,B,g,n⟩:=f
 subst B
 obtain rfl:u=Value.ref a:=w
 exact⟨Nv b g,T8 hu b g z λL D c p=>⟨v,d,c,p,n⟩⟩
theorem HD(hu:X.A.units+1 < cLine)(t:PE X i ty)(p:PE X o td):PC X .In i o (NK ty td):=by
 intro aa s σ H Q I h
 refine thn (t aa s σ H _ I h) λF f B=>Cz B λy q j v d=>thn (p aa f σ q _ j d) λu D l=>?_
 obtain⟨x,c,n,w,a,r,z,g,m⟩:=l
 subst z
 obtain rfl:u=Value.ref a:=w
 exact UA hu n g v λC b=>⟨.bl r.isSome,c,b,rfl,m⟩
theorem Ua(hu:X.A.units+1 < cLine)(t:PE X i ty)(p:PE X o td):PC X .NotIn i o (Rk ty td):=by
 intro aa s σ H Q I h
 refine thn (t aa s σ H _ I h) λF j B=>Cz B λy q l v f=>thn (p aa j σ q _ l f) λu D b=>?_
 obtain⟨x,d,n,w,a,r,z,g,m⟩:=b
 subst z
 obtain rfl:u=Value.ref a:=w
 exact AW hu n g v λC c=>⟨.bl (!r.isSome),d,c,rfl,m⟩
theorem BA(hu:X.A.units+1 < cLine)(w:PE X o td)(B:PE X i ty)(hv:PE X value tv)(hs:swapsWith value (some (.Subscript o i de)) pos.line X.env=pure false) :
  PS X (.Assign [.Subscript o i de] value pos) (NL td ty tv):=by
 intro aa s σ H D I h
 refine wpAny_Assign_Subscript (thn (hv aa s σ H _ I h) λr L f=>Cz f λv z j p J=>thn (w aa L σ z _ j J) λu M q=>Cz q λx G t N n=>thn (B aa M σ G _ t n) λP Q d=>?_) hs
 obtain⟨y,R,c,C,a,m,F,g,l⟩:=d
 subst F
 obtain rfl:u=Value.ref a:=N
 exact T9 hu c g C p λO b=>⟨σ,m,b,l⟩
theorem V4{P:jJ}{w:jK}{H:Hp}(h:jN)(hb:sysModules < h.objs.size):Br P w H (h.push { cls:=.type "dict",data:=.dict #[] }) h.objs.size (.dK []) :=
 ⟨YZ _,gW.mpr (c_ (W_ hb)),[],.nil,Heap.DictOf.new h⟩
theorem V5{P:jJ}{w:jK}{H:Hp}(h:jN)(hb:sysModules < h.objs.size):Br P w H (h.push { cls:=.type "dict",data:=.dict #[] }) h.objs.size (.dT []) :=
 ⟨YZ _,gW.mpr (c_ (W_ hb)),[],.nil,_,#[],0,K_ _ rfl,⟨rfl,rfl,rfl⟩,rfl,rfl,aA⟩
def HE:TE:=λ_ H Q=>∀p,H p=none->Q (.ref p) (upd H p (.dK []))
def HF:TE:=λ_ H Q=>∀p,H p=none->Q (.ref p) (upd H p (.dT []))
theorem V6:PE X (.Dict [] [] pos) HE:=λaa s σ H Q I h =>
 wpAny_Dict_empty ⟨.ref s.heap.objs.size,_,I.laid (a:=s.heap.objs.size) (o:=.dK []) (t':=s.toks) (λ_ _ q=>DD _ q) (I_ _) (V4 s.heap I.big),rfl,h _ (I.hok.fresh (I_ _))⟩
theorem V7:PE X (.Dict [] [] pos) HF:=λaa s σ H Q I h =>
 wpAny_Dict_empty ⟨.ref s.heap.objs.size,_,I.laid (a:=s.heap.objs.size) (o:=.dT []) (t':=s.toks) (λ_ _ q=>DD _ q) (I_ _) (V5 s.heap I.big),rfl,h _ (I.hok.fresh (I_ _))⟩
end
structure M1(X:Cx)(o:jL)(m:Str)(aq:Pos)(e:jL)(am:Pos):Prop where
 base:attributeBase o m X.env (eval o X.env)=eval o X.env
 few:((backTo am (starEach [e] X.env)).all (λx=>!x.1) && (backToKw am (keywordEach [] X.env)).all (λx=>x.1.isSome)
  && decide (([e]:List jL).length+([]:List Keyword).length+(if([]:List Keyword).isEmpty then 0 else 1) < 30))=true
 line:(aq.endLine==am.line)=true
 trees:backTo am (starEach [e] X.env)=[(false,eval e X.env)]
structure M2(X:Cx)(o:jL)(m:Str)(aq:Pos)(e f:jL)(am:Pos):Prop where
 base:attributeBase o m X.env (eval o X.env)=eval o X.env
 few:((backTo am (starEach [e,f] X.env)).all (λx=>!x.1) && (backToKw am (keywordEach [] X.env)).all (λx=>x.1.isSome)
  && decide (([e,f]:List jL).length+([]:List Keyword).length+(if([]:List Keyword).isEmpty then 0 else 1) < 30))=true
 line:(aq.endLine==am.line)=true
 trees:backTo am (starEach [e,f] X.env)=[(false,eval e X.env),(false,eval f X.env)]
def SR(H:Hp)(a:jH):Prop:=(∃b,Rd H a (.dK b))\/∃b,Rd H a (.dT b)
theorem V8{X:Cx}{h:List (jH×jO)}{σ:St}{H:Hp}{s:jA}{a:jH}(I:Inv X h σ H s)(d:SR H a) :
  s.TypeIs (.ref a) "dict" /\ (∀b,Value.ref a=.ref b->∃c,s.heap.get? b=some c/\c.dict=none)/\(a==sysModules)=false:=by
 rcases d with⟨f,e⟩ | ⟨f,e⟩
 ·obtain⟨_,g,j,_,dd⟩:=Ia I.hok e
  refine⟨dd.typeIs,λb q=>?_,g⟩
  cases q
  obtain⟨c,_,_,h1,h2,_⟩:=dd
  exact⟨c,h1,h2.2.1⟩
 ·obtain⟨_,g,i,_,dd⟩:=Jf I.hok e
  refine⟨dd.typeIs,λb q=>?_,g⟩
  cases q
  obtain⟨c,_,_,h1,h2,_⟩:=dd
  exact⟨c,h1,h2.2.1⟩
section
variable {X:Cx}{aa:List (jH×jO)}{σ:St}{H:Hp}{s:jA}{a:jH}{y d:V}{u r:i_}{o:Option V}{A:jM}{E:i_->jA->Prop}
theorem HG{Q:i_->jA->Prop}(hu:A.units+1 < cLine)(I:Inv X aa σ H s)(g:DGet H a y o)(m:Bi y u)(rd:Bi d r)(h:∀p n,Inv X aa σ H n->Bi (o.getD d) p->Q p n) :
  wpAny (model X.prog X.w) A (call (.builtin "dict.get") [.ref a,u,r]) Q E s:=by
 rcases g with⟨f,k,e,i,l⟩ | ⟨f,k,b,e,i,t,l⟩
 ·subst i
  obtain⟨z,j,v,c,dd⟩:=Ia I.hok e
  refine fQ gF dd.typeIs PySem.F.entry_dict_get (PySem.F.args_dict_get_3 _ _ _) (meets_dict_get_default (A8 X.prog X.w) a (La m) j r) ⟨_,dd.mapOf,h _ _ (I.tok _) ?_⟩
  rw [l]
  exact(c.val k).getD rd
 ·subst i
  cases (show u=Value.ref b from m)
  obtain⟨z,j,q,c,dd⟩:=Jf I.hok e
  refine fQ gF dd.typeIs PySem.F.entry_dict_get (PySem.F.args_dict_get_3 _ _ _) (meetsH_dict_get_default (tupleKind (A8 X.prog X.w)) a b j r) ⟨dE hu,k,q,Gi I.hok t,dd,h _ _ (I.tok _) ?_⟩
  rw [l]
  exact(c.val k).getD rd
end
def HH(td ty e:TE):TE:=fun σ H Q=>td σ H λx b=>∃a,x=.ref a/\SR b a/\ty σ b λy d=>e σ d λz c=>∃o,DGet c a y o/\Q (o.getD z) c
section
variable {X:Cx}{o e f:jL}{aq am:Pos}{td ty tx:TE}
theorem V9(hu:X.A.units+1 < cLine)(p:PE X o td)(he:PE X e ty)(G:PE X f tx)(m:M2 X o "get" aq e f am):PE X (.Call (.Attribute o "get" aq) [e,f] [] am) (HH td ty tx):=by
 intro b s σ H Q I h
 refine wpAny_Call_method m.base m.few m.line dX gF PySem.F.type_dict_get (thn (p b s σ H _ I h) λu C D=>?_)
 obtain⟨x,q,c,M,a,v,d,B⟩:=D
 subst v
 obtain rfl:u=Value.ref a:=M
 obtain⟨t,P,_⟩:=V8 c d
 refine⟨t,P,?_⟩
 rw [m.trees]
 refine eC rfl (gN (aV (thn (he b C σ q _ c B) λS E N=>Cz N λy w n r l =>
  aV (thn (G b E σ w _ n l) λV U ⟨z,L,j,O,W,g,k⟩=>a_ ?_))))
 exact HG hu j g r O λT R i J=>⟨_,L,i,J,k⟩
end
end L2
namespace Att
open PySem PySem.W PySem.Calls PyProof.Rows
theorem Iq{P:Params}{h:jN}:∀(ns:List Int) (c:List i_),WellAll P h c (ns.map WData.int)->IntsAre c ns:=by
 intro ns
 induction ns with
 | nil =>
  intro c w
  rw [List.map_nil]at w
  cases w
  exact .nil
 | cons n ns d =>
  intro c w
  rw [ZH]at w
  cases w with
  | cons a b =>
   cases a
   exact .cons _ _ (d _ b)
theorem Ub{l:OpenLaw}{n:Nat}(u:l.most=some n){P:Params}{h:jN}{args:List WData}{g:List i_}
  (i:l.row.toRowW.claim.pre args=true) (e:WellAll P h g args) :
  ∃a j ns,g=[Value.ref a]/\args=[WData.list (ns.map WData.int)]/\h.get? a=some { cls:=.type "list",data:=.seq j.toArray }/\IntsAre j ns/\ns.length<=n:=by
 have f:WShape.hasAll [] args [.list .int]=true:=(pre_splitW i).1
 have hc:l.pre.holds [] { args:=args }=true:=(pre_splitW i).2
 obtain⟨d,r,rfl,h1,h2⟩:=hasAllW_cons f
 obtain rfl:=hasAllW_nil h2
 obtain⟨w,rfl,k⟩:=hasW_list h1
 obtain⟨ns,rfl⟩:=items_int k
 have s:ns.length<=n:=by
  unfold OpenLaw.pre at hc
  have b:(WTm.not (.lt (.lit (.int (n:Int))) (.len (.arg 0)))).holds [] { args:=[.list (ns.map .int)] }=true:=by
   have b:=(holds_andW hc).1
   rw [u]at b
   exact b
  have c:=condW_of b (w_not (w_lt w_lit (w_len_list (w_arg rfl))))
  rw [B_]at c
  refine iN λq=>?_
  have m:(n:Int) < ((ns.length:Nat):Int):=by omega
  first
   | (rw [YW m]at c;exact absurd c (by decide))
   | (simp at c;omega)
 cases e with
 | cons o p =>
  cases p
  cases o with
  | list t v=>exact⟨_,_,ns,rfl,rfl,t,Iq ns _ v,s⟩
theorem Uc(l:OpenLaw)(args:List WData):l.row.toRowW.claim.post args (.bool true) args=true :=
 postW_of (r:=l.row.toRowW) (X:=(true==true))
  (show WShape.has [] (.bool true) .bool=true by first | rfl | decide | simp [WShape.has,WShape.arms,WShape.armsAll])
  (show(WTm.eq .res (.lit (.bool true))).value [] { args:=args,res:=some (.bool true),after:=args }=some (.bool (true==true)) from w_eq_bool (w_res rfl) w_lit) rfl
theorem attach_call{l:OpenLaw}{n:Nat}{q:jJ}{p:List Str}{u:(Str->Option i_)->jN->Prop}{t:jK->jN->Prop}{d:DefRec}
  (A:l.most=some n) (y:d.params.defaults=[])
  (call:∀(w:jK) (s₀ s₁:jA) (mg m:Str->Option i_) (e:jH) (o:jO) (j h k:i_) (a:jH) (c:List i_) (ns:List Int),
   Ground q p [] u w s₀ mg m s₁.heap->t w s₁.heap ->
   s₁.heap.get? e=some o->o.data=.func (docDef d.name d.params d.body d.scope j h k)->s₁.heap.CodeRec h d.name->mg d.name=some (.ref e) ->
   s₁.heap.get? a=some { cls:=.type "list",data:=.seq c.toArray }->IntsAre c ns->ns.length<=n->s₁.gens=#[] ->
   codeAny (model l.prog w) callerA (.call (.ref e) ⟨[.ref a],[]⟩) (λr i=>r=.ok (.ret (.bool true))/\OldK s₁.heap i.heap/\i.os=s₁.os/\AllBare i.gens) s₁) :
  WalkO q p u t l.row.toRowW d [] (λf c=>PySem.call f c):=by
 intro w s₀ s₁ mg m G Y e o j h k dV kV ho hd ik hD hmg hg args ma as j7 hlay hrd hwl hlo
 obtain rfl:dV=.none:=Dflts.none hD y
 obtain rfl:kV=.none:=Dflts.noKw hD
 obtain⟨a,c,ns,rfl,rfl,g,b,z⟩:=Ub A j7 hwl
 refine enter_call (gZ (call w s₀ s₁ mg m e o j h k a c ns G Y ho (fd_plain hd) ik hmg g b z hg) λr i hq=>?_)
 obtain⟨rfl,h2,v,x⟩:=hq
 exact⟨.inl ⟨.bool true,.bool true,[],rfl,λ_=>rfl,.bool true,Uc l _,λ_=>⟨List.Pairwise.nil,λ_ B=>(nomatch B)⟩⟩,h2,v,x⟩
end Att
namespace L2
open PySem PySem.Spec PyProof.Rows
theorem Lc:∀{a:List i_} {ns:List Int},IntsAre a ns->Vals (ns.map V.int) a
 | _,_,.nil=>.nil
 | _,_,.cons n t h=>.cons ⟨t,rfl⟩ (Lc h)
def Only(H:Hp):Prop:=∀b,H b=none\/∃o a,H b=some (.frz o (.lst a))
theorem Wa{P:jJ}{w:jK}{K:jI}{mg D:Str->Option i_}{CX:CXT}{k:Nat}{A a:jH}{R:jQ}{x:Str}{sp:Sp}{s₁:jA}{g:List i_}{ns:List Int}
  (N:K.In s₁.heap) (U:s₁.heap.Ns mainGlobals mg) (hb:s₁.heap.Ns builtinsNs D) (C:∀x:Str,x ≠ "__name__" -> D x=bootBuiltins x) (X:s₁.heap.NoLimit) (hg:s₁.gens=#[])
  (ha:s₁.heap.get? a=some { cls:=.type "list",data:=.seq g.toArray }) (Q:IntsAre g ns) (M:ns.length<=sizeLine) (hr:Room k callerA)
  (F:∀c:jN,K.In c->c.Ns mainGlobals mg->FnOk P w K mg c CX k A R [x] sp) (sx:∀(s:jA) (u:i_),BindsTo s R ⟨[u],[]⟩ [(x,u)])
  (i9:∀H:Hp,Only H->Fa K H a (ns.map V.int)->sp [.ref a] H (λv _=>v=.bl true) λ_ _ _=>False)
  (E:∀H e f,CX [] H s₁ (λ_ _ _=>False) e f->False) :
  codeAny (model P w) callerA (.call (.ref A) ⟨[.ref a],[]⟩) (λr f=>r=.ok (.ret (.bool true))/\OldK s₁.heap f.heap/\f.os=s₁.os/\AllBare f.gens) s₁:=by
 have J:=Lc Q
 have G:=Q.length
 have I:∀H:Hp,Only H->Fa K H a (ns.map V.int)->HOk P w H s₁.heap->(∀b,H b≠none->b=a)->(H a≠none->K.lookup a=none) ->
   codeAny (model P w) callerA (.call (.ref A) ⟨[.ref a],[]⟩) (λr f=>r=.ok (.ret (.bool true))/\OldK s₁.heap f.heap/\f.os=s₁.os/\AllBare f.gens) s₁:=by
  intro H T hS i S hK
  have W:∀{b:jH} {o:jO},s₁.heap.get? b=some o->H b=none->(Mb s₁.heap H).get? b=some o:=λe n=>Vo e n
  have Z:∀{b:jH} {o:jO} {es:Array DictEntry} {ep:Nat},s₁.heap.get? b=some o->o.data=.dict es ep->H b=none:=λ{b o es ep} e d=>by
   cases q:H b with
   | none=>rfl
   | some u =>
    have B:b=a:=S b (by rw [q];simp)
    subst B
    rw [ha]at e;cases e
    have d':Data.seq g.toArray _=Data.dict es ep:=d
    cases d'
  have y:∀{b:jH} {m:Str->Option i_},s₁.heap.Ns b m->(Mb s₁.heap H).Ns b m:=λ{b m} ⟨o,es,ep,e,d,r⟩=>⟨o,es,ep,W e (Z e d),d,r⟩
  have p:K.In (Mb s₁.heap H):=λb o e=>W (N b o e) (by
   cases q:H b with
   | none=>rfl
   | some u =>
    have B:b=a:=S b (by rw [q];simp)
    subst B
    rw [hK (by rw [q];simp)]at e;cases e)
  have hM:Mod K mg (Mb s₁.heap H):=⟨p,y U,⟨D,y hb,C⟩,let⟨Y,h1,h2⟩:=X;⟨Y,y h1,h2⟩⟩
  have e0:Env0 P w K mg (Mb s₁.heap H) callerA [] s₁ H:=⟨rfl,hM,λb o e=>Zx e,eD (Tr _ _),trivial,λb hb=>absurd (show b∈([]:List jH) from hb) (by simp),i,.of_eq hg⟩
  refine gZ ((F _ p (y U)).run callerA [] s₁ H ⟨[.ref a],[]⟩ [.ref a] [.ref a] _ _ hr e0 (sx s₁ (.ref a)) (.cons rfl .nil) (i9 H T hS)) λr f h=>?_
  cases r with
  | error e=>exact(E H e f h).elim
  | ok fl =>
   cases fl with
   | next=>exact False.elim h
   | brk=>exact False.elim h
   | cont=>exact False.elim h
   | ret u =>
    obtain⟨v,H',os,j,L,t,r',q⟩:=h
    have q':v=.bl true:=q
    subst q'
    obtain rfl:u=Value.bool true:=r'
    refine⟨rfl,OldK.of_keep λb o e=>?_,os,j⟩
    cases q:H b with
    | none=>exact L.keep b o e q (by intro z;exact absurd (show b∈([]:List jH) from z) (by simp)) (by simp)
    | some u =>
     rcases T b with z | ⟨ob,xs,z⟩
     ·rw [q]at z;cases z
     ·have z2:=L.frzs b ob _ z
      obtain⟨O,_⟩:=i b _ z
      obtain⟨e2,_⟩:=t b _ z2
      rw [e]at O;cases O
      exact e2
 cases hk:K.lookup a with
 | some o =>
  have e:=N a o hk
  rw [ha]at e
  cases e
  refine I (λ_=>none) (λ_=>.inl rfl) (.inr ⟨_,g.toArray,_,hk,rfl,rfl,rfl,by rw [YQ,G];exact M,by simpa using J⟩) (λb u z=>by have l:(none:Option HO)=some u:=z;cases l) (λb z=>absurd rfl z) λz=>absurd rfl z
 | none =>
  refine I (λb=>if b=a then some (.frz { cls:=.type "list",data:=.seq g.toArray } (.lst (ns.map V.int))) else none) (λb=>?_) (.inl (.inr ⟨{ cls:=.type "list",data:=.seq g.toArray },S_ rfl⟩)) (λb u z=>?_) (λb z=>?_) λ_=>hk
  ·by_cases hb:b=a
   ·exact .inr ⟨_,_,S_ hb⟩
   ·exact .inl (M_ hb)
  ·by_cases hb:b=a
   ·have l:=(S_ hb).symm.trans z
    cases l
    subst hb
    exact⟨ha,by rw [B_];exact M,g,_,J,ha⟩
   ·have l:=(M_ hb).symm.trans z
    cases l
  ·by_cases hb:b=a
   ·exact hb
   ·exact absurd (M_ hb) z
theorem walk_of{l:PySem.W.OpenLaw}{n k:Nat}{q:jJ}{J:List Str}{E:(Str->Option i_)->jN->Prop}{t:jK->jN->Prop}{d:DefRec}{K:Params->jI}{CX:jK->CXT}{sp:jK->Sp}{x:Str}
  (M:l.most=some n) (B:n<=sizeLine) (A:d.params.defaults=[]) (L:Room k callerA)
  (C:∀(w:jK) (h:jN),t w h->(K w.params).In h)
  (F:∀(w:jK) (mg:Str->Option i_) (i:jH) (h:jN),(K w.params).In h->h.Ns mainGlobals mg->mg d.name=some (.ref i) ->
   ∃j:jQ,(∀(s:jA) (u:i_),BindsTo s j ⟨[u],[]⟩ [(x,u)]) /\
    ∀c:jN,(K w.params).In c->c.Ns mainGlobals mg->FnOk l.prog w (K w.params) mg c (CX w) k i j [x] (sp w))
  (D:∀(w:jK) (H:Hp) (a:jH) (ns:List Int),ns.length<=n->Only H->Fa (K w.params) H a (ns.map V.int)->sp w [.ref a] H (λv _=>v=.bl true) λ_ _ _=>False)
  (p:∀(w:jK) (H:Hp) (s:jA) (e:i_) (m:jA),CX w [] H s (λ_ _ _=>False) e m->False) :
  PySem.W.WalkO q J E t l.row.toRowW d [] (λf y=>PySem.call f y):=by
 refine Att.attach_call M A λw s₀ s₁ mg mb i o pm cd dg a y ns G Y ho hd ik hmg hobj hints ag hg=>?_
 have r:=C w _ Y
 obtain⟨j,hb,z⟩:=F w mg i _ r G.T.g hmg
 exact Wa r G.T.g G.T.b G.T.builtins G.T.nolimit hg hobj hints (Q_ ag B) L z hb (λH I N=>D w H a ns ag I N) λH e m=>p w H s₁ e m
def Az(s:jP):Arguments:=match s with
 | .FunctionDef _ a _ _ _ _ _ _ _ _=>a
 | _=>{ posonlyargs:=[],args:=[],vararg:=none,kwonlyargs:=[],kw_defaults:=[],kwarg:=none,defaults:=[] }
def Ay(s:jP):List jP:=match s with
 | .FunctionDef _ _ b _ _ _ _ _ _ _=>b
 | _=>[]
def Af(s:jP):jS:=match s with
 | .FunctionDef _ _ _ _ _ _ a _ _ _=>a
 | _=>{ kind:=.function,names:=[],isGenerator:=false,isCoroutine:=false }
abbrev Ea:CXT:=λ_ _ _ _ _ _=>False
abbrev E0:XK:=λ_ _ _=>False
theorem EG{X:Cx}:Passes Ea X E0:=λ_ _ _ _ _ _ _ h=>h.elim
structure Fun(K:jI)(x qual:Str)(st:jP)(f:jH)(fd:jQ):Prop where
 ex:∃(oc:i_) (od:Option jH) (kV dg pm:i_) (an:Option jH) (au ct:i_) (iz:Array (Option i_)),
  fd=PySem.W.fnOf x qual (Az st) (Ay st) (Af st) .none kV dg pm an au ct/\K.lookup f=some ⟨oc,od,.func fd,iz⟩/\PySem.W.codeIn K au qual=true
 kp:PySem.W.keepIn K (.ref f)=true
section
variable {P:jJ}{w:jK}{K:jI}{mg:Str->Option i_}{base:jN}{X:Cx}
theorem Fun.ok{x a:Str}{st:jP}{f:jH}{d:jQ}{N ps:List Str}{k:Nat}{sp:Sp}(F:Fun K x a st f d)(S:FnScope N ps (Af st))(len:∀b H Q E,sp b H Q E->b.length=ps.length)
  (m:∀(c:i_) (A:jM) (outer:List Env) (s:jA) (H:Hp) (b:List V) (Q:VK) (E:XK),Room k (A.deeper (envOfC a (Af st) s.heap.objs.size f c))->sp b H Q E ->
   ∃t,PSs (Nq Ea P w K mg base N a (Af st) f c A outer s H E).nox (Ay st) t/\t { nx:=λ_ e=>Q .non e,rt:=Q } (start N b) H):FnOk P w K mg base Ea (k+1) f d ps sp:=by
 obtain⟨y,u,kV,p,r,o,c,v,n,rfl,g,j⟩:=F.ex
 refine EE g j S len λA outer s H b Q E l i=>?_
 obtain⟨t,h,q⟩:=m c A outer s H b Q E l i
 exact⟨t,h.nox,q⟩
theorem Fun.binds{x a:Str}{st:jP}{f:jH}{i:jQ}{ps:List Str}(F:Fun K x a st f i)
  (h:∀(kV e b:i_) (d:Option jH) (g ct:i_) (c:List i_),c.length=ps.length->bindArgs (PySem.W.fnOf x a (Az st) (Ay st) (Af st) .none kV e b d g ct) ⟨c,[]⟩=pure (ps.zip c)):Binds K i ps []:=by
 obtain⟨n,j,kV,e,b,d,g,ct,l,rfl,m,k⟩:=F.ex
 exact .all (h kV e b d g ct)
theorem Bn{x a:Str}{st:jP}{f:jH}{j:i_}{h g:Option jH}{i:Array (Option i_)}{kV e d b ct:i_}(l:K.lookup f=some ⟨j,h,.func (PySem.W.fnOf x a (Az st) (Ay st) (Af st) .none kV e d g b ct),i⟩)
  (c:PySem.W.codeIn K b a=true) (k:PySem.W.keepIn K (.ref f)=true):Fun K x a st f (PySem.W.fnOf x a (Az st) (Ay st) (Af st) .none kV e d g b ct):=⟨⟨j,h,kV,e,d,g,b,ct,i,rfl,l,c⟩,k⟩
theorem Cu{A:jM}{k:Nat}(a:Room k A):A.units+1 < cLine:=dF (Nat.add_le_add_left (by decide:1<=64) _) a.units
theorem A5{n:Nat}(h:n<=1000):n < sizeLine:=dF h (by decide)
theorem Ud:Ek X (.builtin "len") (λc H Q=>∃a b,c=[V.ref a]/\H a=some (.dK b)/\Q (.int b.length) H):=by
 intro g s σ H c us Q I r h
 obtain⟨a,b,rfl,ha,q⟩:=h
 obtain⟨u,rfl,e⟩:=Fd r
 cases e
 exact NI I (.inl ha) λt f d=>⟨.int b.length,H,d,⟨t,rfl⟩,q⟩
end
section
variable {κ:Type} [DecidableEq κ]
end
end L2
set_option maxHeartbeats 4000000
namespace L2
open PySem
def Em(a:List (Str×jH)):List (Str×jT)->List (Str×jH)->List (Str×jH)
 | [],b=>b
 | (n,k) :: r,b=>if k=NameKind.free then Em a r ((n,(a.lookup n).getD 0) :: b) else Em a r b
theorem Gc{a:jS}{env:Env}(h:∀x∈a.names,x.2=.free->∃c,env.cells.lookup x.1=some c) :
  closureFor a env=pure (Em env.cells a.names []):=by
 have f:∀(names:List (Str×jT)) (acc:List (Str×jH)),(∀x∈names,x.2=.free->∃c,env.cells.lookup x.1=some c) ->
   (do
     let mut g:=acc
     for (b,d) in names do
      if d==.free then g:=(b,<- cellOf env b) :: g
     return g:Sem (List (Str×jH)))=pure (Em env.cells names acc):=by
  intro names
  induction names with
  | nil=>intro acc _;rfl
  | cons x r i =>
   intro acc h
   obtain⟨n,k⟩:=x
   have j:∀y∈r,y.2=.free->∃c,env.cells.lookup y.1=some c:=λy hy=>h y (ZK _ hy)
   by_cases hk:k=.free
   ·subst hk
    obtain⟨c,hc⟩:=h (n,.free) Z_ rfl
    have e:cellOf env n=pure c:=by unfold cellOf;rw [hc]
    have q:=i ((n,c) :: acc) j
    simp only [List.forIn_cons,beq_self_eq_true,if_true,e]
    unfold Em
    rw [S_ rfl,hc]
    exact q
   ·have hb:(k==NameKind.free)=false:=by simpa using hk
    have q:=i acc j
    simp only [List.forIn_cons,hb,Bool.false_eq_true,if_false]
    unfold Em
    rw [M_ hk]
    exact q
 exact f a.names [] h
theorem Go{a:List (Str×jH)}:∀{names:List (Str×jT)} {acc:List (Str×jH)},
  (∀x∈names,x.2=.free->∃c,a.lookup x.1=some c)->(∀x c,acc.lookup x=some c->a.lookup x=some c) ->
  ∀x c,(Em a names acc).lookup x=some c->a.lookup x=some c
 | [],_,_,h,x,c,e=>h x c e
 | (n,k) :: r,acc,g,h,x,c,e=>by
  unfold Em at e
  have f:∀y∈r,y.2=.free->∃c,a.lookup y.1=some c:=λy hy=>g y (ZK _ hy)
  by_cases hk:k=.free
  ·rw [S_ hk]at e
   refine Go f (λy d q=>?_) x c e
   obtain⟨j,b⟩:=g (n,k) Z_ hk
   have b:a.lookup n=some j:=b
   rw [aZ]at q
   cases hy:y==n with
   | true =>
    rw [hy,b]at q
    have i:y=n:=by simpa using hy
    rw [i,b]
    exact q
   | false=>rw [hy]at q;exact h y d q
  ·rw [M_ hk]at e
   exact Go f h x c e
theorem Gj{a:List (Str×jH)}{x:Str}:∀{names:List (Str×jT)} {acc:List (Str×jH)},
  (∃c,acc.lookup x=some c)->∃c,(Em a names acc).lookup x=some c
 | [],_,h=>h
 | (n,k) :: r,acc,⟨c,h⟩=>by
  unfold Em
  split
  ·refine Gj ?_
   rw [aZ]
   cases x==n with
   | true=>exact⟨_,rfl⟩
   | false=>exact⟨c,h⟩
  ·exact Gj ⟨c,h⟩
theorem Gp{a:List (Str×jH)}{x:Str}:∀{names:List (Str×jT)} {acc:List (Str×jH)},
  (x,NameKind.free)∈names->∃c,(Em a names acc).lookup x=some c
 | (n,k) :: r,acc,h=>by
  unfold Em
  rcases YV.mp h with e | e
  ·cases e
   rw [S_ rfl]
   refine Gj ?_
   rw [aZ,iO]
   exact⟨_,rfl⟩
  ·split
   ·exact Gp e
   ·exact Gp e
end L2
namespace PySem
open Sem (wp)
section
variable {prog:jJ}{w:jK}{A:jM}{E:i_->jA->Prop}{R:jU->jA->Prop}{s:jA}
theorem Nw{g f iter:jL}{i:List jL}{a:jS}{d:Pos}{e acc:i_}{env:Env}(I:Nat->jA->Prop)
  (k:∀n s,I n s->wpAny (model prog w) A (pyNext e) (λr s₁=>match r with
   | none=>R (.ok .next) s₁
   | some v=>wpAny (model prog w) A (letOwnedTupleGo f e v) (λ_ s₁'=>wpAny (model prog w) A (assign f env v) (λ_ s₂ =>
     wpAny (model prog w) A (forIn i true λc r=>if r=true then do let ok <- isTrue c env (eval c env);pure (ForInStep.yield ok) else pure (ForInStep.yield r)) (λok s₃ =>
      if ok=true then wpAny (model prog w) A (eval g env) (λx s₄ =>
       wpAny (model prog w) A (call (.builtin "list.append") [acc,x]) (λ_ s₅=>∃m,m < n/\I m s₅) (λ_ _=>False) s₄) (λ_ _=>False) s₃
      else ∃m,m < n/\I m s₃) (λ_ _=>False) s₂) (λ_ _=>False) s₁') (λ_ _=>False) s₁) (λ_ _=>False) s)
  (n:Nat) (h:I n s) :
  codeAny (model prog w) A (.compLoop (.ListComp g [⟨f,iter,i,0⟩] a d) 0 e acc env) R s:=by
 refine codeAny_loop rfl I (λn s j=>?_) n h
 show wpAny _ A ((compTurn (.ListComp g [⟨f,iter,i,0⟩] a d) 0 e acc env).onRaise (λx=>do noteFrame x env;theTreesLotGoes x)) _ _ s
 refine wpAny_noted ?_
 rw [compTurn_list]
 refine A_ (iJ (A_ (aP (k n s j) (λr s₁ h₁=>?_) λ_ _ b=>b.elim)))
 cases r with
 | none=>exact C_ h₁
 | some v =>
  refine A_ (aP h₁ (λ_ s₁' h₁'=>?_) λ_ _ b=>b.elim)
  refine A_ (aP h₁' (λ_ s₂ h₂=>A_ (aP h₂ (λok s₃ h₃=>?_) λ_ _ b=>b.elim)) λ_ _ b=>b.elim)
  cases ok with
  | false=>exact C_ ⟨rfl,h₃⟩
  | true =>
   exact A_ (A_ (aP h₃ (λx s₄ h₄=>A_ (aP h₄ (λ_ s₅ h₅=>C_ (C_ ⟨rfl,h₅⟩)) λ_ _ b=>b.elim)) λ_ _ b=>b.elim))
end
end PySem
namespace L2
open PySem PySem.Spec PyProof.Rows
def Nx(mp:List (Option Nat))(σ:St):St:=mp.map λo=>match o with | some i=>(σ[i]?).join | none=>none
def BB(pn:List (Str×jT))(x:Str):Bool:=decide (pn.lookup x=some .cell) || decide (pn.lookup x=some .free)
theorem Ny{pn:List (Str×jT)}{x:Str}(h:BB pn x=true):pn.lookup x=some .cell\/pn.lookup x=some .free:=by
 unfold BB at h
 rcases(cU _ _).mp h with h | h
 ·exact .inl (YU h)
 ·exact .inr (YU h)
theorem Mi{env:Env}:∀{names:List (Str×jT)} {x:Str},names.lookup x=some .free ->
  (names.map λ(n,k)=>if(k==NameKind.free && env.scope.kind==.function && env.kindOf n==some .cell) then(n,NameKind.cell) else(n,k)).lookup x=some .cell \/
  (names.map λ(n,k)=>if(k==NameKind.free && env.scope.kind==.function && env.kindOf n==some .cell) then(n,NameKind.cell) else(n,k)).lookup x=some .free
 | [],_,h=>by simp at h
 | (n,k) :: r,x,h=>by
  have a:=@Mi env r x
  rw [ZH]
  cases hx:x==n with
  | true =>
   simp only [List.lookup_cons,hx]at h
   cases h
   by_cases hc:(NameKind.free==NameKind.free && env.scope.kind==.function && env.kindOf n==some .cell)=true
   ·refine .inl ?_
    simp only [hc,if_true,List.lookup_cons,hx]
   ·refine .inr ?_
    simp only [if_neg hc,List.lookup_cons,hx]
  | false =>
   simp only [List.lookup_cons,hx]at h
   by_cases hc:(k==NameKind.free && env.scope.kind==.function && env.kindOf n==some .cell)=true
   ·simp only [hc,if_true,List.lookup_cons,hx];exact a h
   ·simp only [if_neg hc,List.lookup_cons,hx];exact a h
end L2
namespace PySem
open Sem (wp)
end PySem
namespace L2
open PySem PySem.Spec PyProof.Rows
def PIfs(X:Cx)(b:List jL)(t:TT):Prop :=
 ∀(a:List (jH×jO)) (s:jA) (σ:St) (H:Hp) (Q:Bool->Hp->Prop),Inv X a σ H s->t σ H Q ->
  wpAny (model X.prog X.w) X.A (forIn b true λc r=>if r=true then do let ok <- isTrue c X.env (eval c X.env);pure (ForInStep.yield ok) else pure (ForInStep.yield r)) (TP X a σ Q) X.xe s
def UB:TT:=λ_ H Q=>Q true H
theorem Wb{X:Cx}:PIfs X [] UB:=λ_ _ _ H _ I h=>wpAny_tests_nil ⟨H,I,h⟩
theorem Wc{X:Cx}{c:jL}{t:TT}(h:PT X c t):PIfs X [c] t:=λa s σ H Q I hw=>wpAny_tests_one (h a s σ H Q I hw)
def Wd(p:jH)(J:It)(g:TG)(tst:TT)(te:TE)(Q:Hp->Prop)(σ:St)(H:Hp):Prop :=
 ∃W:Nat->Nat->List V->St->Hp->Prop,(∃m,W 0 m [] σ H)/\∀i m a σ' H',W i m a σ' H' ->
  (J.stop i H'/\Q H')\/(J.go i H'/\∃N:List V->St->Hp->Prop,(∀a σ H,N a σ H->∃e,e < m/\W (i+1) e a σ H)/\∀x d,J.yld i H' x d->g x σ' d fun σ3 H3=>tst σ3 H3 λb h =>
   if b=true then te σ3 h λv f=>∃c,f p=some (.lst c)/\c.length < sizeLine/\N (c++[v]) σ3 (upd f p (.lst (c++[v])))
   else N a σ3 h)
def We(mp:List (Option Nat))(b:TI)(g:TG)(tst:TT)(te:TE):TE:=fun σ H Q=>b σ H λJ a=>∀p,a p=none ->
 Wd p J g tst te (λc=>Q (.ref p) c) (Nx mp σ) (upd a p (.lst []))
section
variable {X:Cx}{N':List Str}{mp:List (Option Nat)}{dq tg iter:jL}{cy:List jL}{scope:jS}{pos:Pos}{wi:TI}{g:TG}{tst:TT}{te:TE}{K:jI}{a p:jH}{xs:List V}{Q:Hp->Prop}{σ:St}{H:Hp}
theorem Inv.letgo{d:List (jH×jO)}{σ:St}{H:Hp}{s:jA}{C:jH}{h':jN}(I:Inv X d σ H s)(i:H C=none)(h1:X.s₀.heap.objs.size<=C)(h:C≠X.env.locals)(h2:∀x c,X.env.cells.lookup x=some c->c≠C)
  (f:∀q∈X.pn++d,q.1≠C) (hs:Heap.SameBut C s.heap h'):Inv X d σ H { s with heap:=h' } :=
 I.turned (t':=s.toks) (λb o hb e=>(hs.2 b hb).trans e) i h (.inr h1) h2 f
theorem Rl{J:It}(n:Nat)(d:Nat->List V->St->Hp->Prop)(h0:d 0 [] σ H)
  (l:∀i c σ H,i < n->d i c σ H->J.go i H) (s:∀c σ H,d n c σ H->J.stop n H/\Q H)
  (hs:∀i x c σ H f,i < n->d i c σ H->J.yld i H x f->g x σ f fun σ3 H3=>tst σ3 H3 λb r =>
   if b=true then te σ3 r λv o=>∃h,o p=some (.lst h)/\h.length < sizeLine/\d (i+1) (h++[v]) σ3 (upd o p (.lst (h++[v]))) else d (i+1) c σ3 r) :
  Wd p J g tst te Q σ H:=by
 refine⟨λi m c σ H=>m=n - i/\i<=n/\d i c σ H,⟨n,by simp,YZ _,h0⟩,?_⟩
 rintro i m c σ H ⟨rfl,t,k⟩
 by_cases j:i < n
 ·exact .inr ⟨l i c σ H j k,d (i+1),λc σ H q=>⟨n - (i+1),by omega,rfl,j,q⟩,λx f y=>hs i x c σ H f j k y⟩
 ·have e:i=n:=by omega
  subst e
  exact .inl (s c σ H k)
def UC:V->Option Int->Option Int->Hp->VK->Prop:=λx lo b H Q=>∃z,x=.str z/\z.length<=sizeLine/\Q (.str (Txt.slice z lo b)) H
theorem HI:NC X UC:=by
 intro f s σ H x v vl vu lo hi sl Q I rx hs pl pu h
 obtain⟨z,rfl,hz,q⟩:=h
 obtain⟨t,rfl⟩:=rx
 refine⟨"str",_,F.slot_str_getitem.lookup,typeIs_str _ _ _,?_⟩
 have b:∀d k,EP X f σ Q (.str (Txt.slice z lo hi) d) { s with toks:=k }:=λd k=>⟨.str _,H,I.tok _,⟨_,rfl⟩,q⟩
 cases pl with
 | none =>
  cases pu with
  | none=>exact dY (l:=none) (u:=none) (st:=none) hs rfl (gT ⟨Q_ (iW z _ _) hz,b⟩)
  | int j c=>exact dY (l:=none) (u:=some (j,c)) (st:=none) hs rfl (gT ⟨Q_ (iW z _ _) hz,b⟩)
 | int i e =>
  cases pu with
  | none=>exact dY (l:=some (i,e)) (u:=none) (st:=none) hs rfl (gT ⟨Q_ (iW z _ _) hz,b⟩)
  | int j c=>exact dY (l:=some (i,e)) (u:=some (j,c)) (st:=none) hs rfl (gT ⟨Q_ (iW z _ _) hz,b⟩)
theorem Wg(hc:X.calm=true):Ek X (.builtin "all") (λxs H Q=>∃(p:jH) (c:List Bool),xs=[.ref p]/\Fa X.K H p (c.map V.bl)/\Q (.bl (c.all id)) H):=by
 intro J s σ H xs us Q I r h
 obtain⟨p,c,rfl,hq,q⟩:=h
 obtain⟨u,rfl,E⟩:=Fd r
 cases E
 obtain⟨l,t,f,hz⟩:=I.list hq
 have j:=t.length
 rw [B_]at j
 refine call_all_walk (cN f.isList ?_)
 have w:p≠s.heap.objs.size:=W_ (let⟨_,z,_⟩:=f.isList;O_ z)
 refine⟨s.heap.objs.size,_,_,_,_,_,λi=>c.getD i true,rfl,Walks.list (show X.A.in1.handled=none from I.ok.hd hc) s.heap.objs.size p w l.toArray,?_,?_,λG F k=>?_⟩
 ·exact⟨⟨_,K_ _ rfl,rfl,rfl⟩,f.isList.at λo e=>DD _ e⟩
 ·intro i v B C L D m
  have hv:l[i]?=some v:=by simpa using D
  have d:i < c.length:=by rw [j];exact(E_.mp hv).1
  obtain⟨u,hu,y⟩:=t.get (i:=i) (x:=V.bl c[i]) (by simp [d])
  rw [hv]at hu
  cases hu
  cases (show v=Value.bool c[i] from y)
  refine eU ?_
  have e:c.getD i true=c[i]:=by simp [d]
  have n:C (c.getD i true) B:=m
  rw [e]at n
  exact n
 ·have e:(List.range l.toArray.size).all (λi=>c.getD i true)=c.all id:=by
   rw [YQ,<- j]
   rw [cV,aQ,aQ]
   constructor
   ·intro a x hx
    obtain⟨i,d,rfl⟩:=List.mem_iff_getElem.mp hx
    have:=a i (ZY.mpr d)
    simpa [d] using this
   ·intro a i d
    have d:=ZY.mp d
    have:=a c[i] (b_ d)
    simpa [d] using this
  rw [e]
  exact⟨.bl _,H,I.kept λb o e=>k b o (by
   intro hb
   have:b=s.heap.objs.size:=by simpa using hb
   exact absurd (O_ e) (by rw [this];exact bG _)) (DD _ e),rfl,q⟩
end
theorem seven{n:Nat}(h:n<=1000):n<=sizeLine:=aU (A5 h)
end L2
namespace PySem
open Sem (wp)
open AutoSeq1 (wpAny_loadPart')
set_option maxRecDepth 100000
end PySem
namespace L2
open PySem PySem.Spec PyProof.Rows
def Wh(ds:List jG)(lo a:Option Int):List jG:=(ds.drop (HT.sIx ds.length 0 lo)).take (HT.sIx ds.length ds.length a - HT.sIx ds.length 0 lo)
section
variable {X:Cx}{k:Nat}{aa:List (jH×jO)}{σ:St}{H:Hp}{s:jA}{h':jN}
noncomputable def Pi(h:jN)(e:jG)(u:i_):Bool:=@decide (∃d a,Reads h u d a/\d.canLay0=true/\PyData.eqv d e=true) (Classical.propDecidable _)
theorem HJ{h:jN}{e d:jG}{u:i_}{as:List jH}(r:Reads h u d as)(c:d.canLay0=true):Pi h e u=PyData.eqv d e:=by
 unfold Pi
 cases q:PyData.eqv d e with
 | true=>exact @YW _ (Classical.propDecidable _) ⟨d,as,r,c,q⟩
 | false =>
  refine @ZB _ (Classical.propDecidable _) λg=>?_
  obtain⟨f,a,i,_,b⟩:=g
  rw [SeqAt.Reads.unique d f u as a c r i,b]at q
  cases q
theorem En{A:jM}{s:jA}{e:jG}{v:i_}{l:List jH}(f:Reads s.heap v e l)(g:e.canLay0=true)(hu:A.units+64 < cLine):∀{ds:List jG} {a:List i_} {as:List jH},ReadsAll s.heap a ds as ->
  PyData.canLayAll0 ds=true->PyData.depthAll ds<=64->(∀u∈a,SeqAt.EqAt A s u v (Pi s.heap e u))/\a.any (Pi s.heap e)=ds.any λd=>PyData.eqv d e
 | [],_,_,r,_,_=>by
  cases r
  exact⟨(λ_ z=>nomatch z),rfl⟩
 | d :: ds,_,_,r,c,o=>by
  cases r with
  | cons h m =>
   simp only [PyData.canLayAll0,Bool.and_eq_true]at c
   simp only [PyData.depthAll]at o
   obtain⟨j,n⟩:=En f g hu m c.2 (by omega)
   have b:=HJ (e:=e) h c.1
   refine⟨λu i=>?_,?_⟩
   ·rcases YV.mp i with rfl | z
    ·rw [b]
     exact gK d e A s _ v _ _ h f c.1 g (by omega)
    ·exact j u z
   ·rw [cH,cH,b,n]
theorem Inv.turnedL{t':Nat}{fp:List jH}(I:Inv X aa σ H s)(k:∀b o,b∉fp->s.heap.get? b=some o->h'.get? b=some o)(a:∀b∈fp,Ip X aa H b):Inv X aa σ H { s with heap:=h',toks:=t' }:=by
 have d:∀b u,H b=some u->b∉fp:=λb u e z=>by rw [(a b z).1]at e;cases e
 have f:X.env.locals∉fp:=λz=>(a _ z).2.1 rfl
 refine I.step (g':=s.gens) (d':=s.drawn) (ch:=fp) (λb hb=>?_) (λb o _ _ hc e _=>k b o hc e) (λb o _ _ hc e _=>⟨o.slots,k b o hc e⟩) (λ_ _ _ _ n=>n)
  (λb o hc e=>⟨o,k b o hc e⟩) (λ_ _ e=>e) (λ_ _ _ e=>e) (λb x e=>⟨#[],by rw [e];simp⟩) (λm l=>?_) (λb u e=>?_) I.bare
 ·obtain⟨_,i,_,p,t,g⟩:=a b hb
  exact⟨p,i,t,g⟩
 ·obtain⟨o,h,w,j,r⟩:=l
  exact⟨o,h,w,k _ o f j,r⟩
 ·refine(I.hok b u e).stay (λc v hc q=>k c v ?_ q) (λ_ q=>q) λ_ _ q=>q
  rcases hc with z | z
  ·rw [z];exact d b u e
  ·exact d c _ z
theorem Inv.track{T:jH}{o:HO}(I:Inv X aa σ H s)(j:Ip X aa H T)(d:Br X.prog X.w (upd H T o) s.heap T o):Inv X aa σ (upd H T o) s:=by
 obtain⟨r,h,_,l,p,f⟩:=j
 have a:∀b u,H b=some u->b≠T:=λb u e z=>by rw [z,r]at e;cases e
 refine I.step (H':=upd H T o) (h':=s.heap) (g':=s.gens) (d':=s.drawn) (t':=s.toks) (ch:=[T]) (λb hb=>?_) (λb o _ _ _ e _=>e) (λb o _ _ _ e _=>⟨o.slots,e⟩)
  (λb u hc _ n=>by rw [Au (λz=>hc (by simp [z]))];exact n) (λb o _ e=>⟨o,e⟩) (λb g e=>by rw [Au (a b _ e)];exact e) (λb u v e=>by rw [Au (a b _ e)];exact e)
  (λb t e=>⟨#[],by rw [Au (a b _ e),e];simp⟩) (λm i=>i) (λb u e=>?_) I.bare
 ·have e:b=T:=by simpa using hb
  subst e
  exact⟨l,h,p,f⟩
 ·by_cases hb:b=T
  ·subst hb
   rw [Bo]at e
   cases e
   exact d
  ·rw [Au hb]at e
   exact(I.hok b u e).stay (λ_ _ _ q=>q) (λc q=>by rw [Au (a c _ q)];exact q) λc g q=>by rw [Au (a c _ q)];exact q
theorem Wi{J:It}{g:TG}{h:TS}{D:Ends}{σ:St}{H:Hp}(n:Nat)(b:Nat->St->Hp->Prop)(h0:b 0 σ H)(d:∀i σ H,i < n->b i σ H->J.go i H)(j:∀ σ H,b n σ H->J.stop n H/\D.nx σ H)
  (hs:∀i x σ H H2,i < n->b i σ H->J.yld i H x H2->g x σ H2 fun σ2 H3=>h { D with nx:=b (i+1),ct:=b (i+1),bk:=D.nx } σ2 H3) :
  ∃W:Nat->Nat->St->Hp->Prop,(∃m,W 0 m σ H)/\∀i m σ H,W i m σ H ->
   (J.stop i H/\D.nx σ H)\/(J.go i H/\∃N:St->Hp->Prop,(∀ σ' a,N σ' a->∃f,f < m/\W (i+1) f σ' a)/\∀x a,J.yld i H x a->g x σ a fun σ2 H2=>h { D with nx:=N,ct:=N,bk:=D.nx } σ2 H2):=by
 refine⟨λi m σ H=>m=n - i/\i<=n/\b i σ H,⟨n,by simp,YZ _,h0⟩,?_⟩
 rintro i m σ H ⟨rfl,o,p⟩
 by_cases c:i < n
 ·exact .inr ⟨d i σ H c p,b (i+1),fun σ' a l=>⟨n - (i+1),by omega,rfl,c,l⟩,λx a y=>hs i x σ H a c p y⟩
 ·have e:i=n:=by omega
  subst e
  exact .inl (j σ H p)
theorem Mj:Hy X (binaryOp .Mult) (λx y H Q=>∃z n,x=.str z/\y=.int n/\(n=0\/n=1)/\Q (.str (if n=0 then Str.empty else z)) H):=by
 intro aa s σ H x y v u Q I rx ry h
 obtain⟨z,n,rfl,rfl,a,q⟩:=h
 obtain⟨t,rfl⟩:=rx
 obtain⟨b,rfl⟩:=ry
 rcases a with rfl | rfl
 ·exact P.mul_str_none (by decide) (by decide) ⟨.str Str.empty,H,I.tok _,⟨_,rfl⟩,by simpa using q⟩
 ·refine P.mul_str (by decide) (λ_ z=>by simp at z) (λ_ z=>by simp at z) ?_
  rw [M_ (by decide),S_ (by simp)]
  exact⟨.str z,H,I,⟨_,rfl⟩,by simpa using q⟩
end
end L2
namespace HT
open PySem PySem.Spec PyProof.Rows
section
variable {prog:jJ}{w:jK}{A:jM}{E:i_->jA->Prop}{s:jA}
theorem getItem_tuple_all{t d:jH}{items:Array i_}{g f:i_}{lo b:Option Int}{Q:i_->jA->Prop}(a:IsTup s.heap t items)(hs:s.heap.IsSliceOf d g f .none)(pl:IsPart g lo)(m:IsPart f b)
  (i:sIx items.size 0 lo=0/\sIx items.size items.size b=items.size)
  (h:Q (.ref t) s):wpAny (model prog w) A (getItem (.ref t) (.ref d)) Q E s:=by
 obtain⟨os,e,k,j⟩:=id hs
 have c:s.TypeIs (.ref d) "slice" := ⟨os,e,k⟩
 unfold getItem
 try with_reducible refine ZG ?_
 first | refine A_ (C_ ?_) | skip
 refine A_ (wpAny_sequenceKey a.typeIs (by decide) ?_)
 refine A_ (ZR (name:=Str.ofString "__getitem__") a.typeIs aN
  (ZI aN a.typeIs entry_tuple_getitem ?_ (args_tuple_getitem _ _)))
 show wpAny _ _ (Builtin.Tuple.tupleItemsOf (.ref t) >>= _) _ _ s
 refine A_ (tupleItemsOf_ a ?_)
 refine A_ (fO c ?_)
 rw [S_ (by decide)]
 refine A_ (El hs pl m ?_)
 have l:(((sIx items.size 0 lo:Nat):Int)==0 && (1:Int)==1 && (sIx items.size items.size b - sIx items.size 0 lo)==items.size)=true:=by
  rw [i.1,i.2];simp
 show wpAny _ _ (if(((sIx items.size 0 lo:Nat):Int)==0 && (1:Int)==1 && (sIx items.size items.size b - sIx items.size 0 lo)==items.size)=true then _ else _) _ _ s
 rw [S_ l]
 unfold Builtin.Tuple.tupleIsExact
 refine A_ (A_ (fO a.typeIs (C_ ?_)))
 rw [S_ (by decide)]
 refine A_ (bE ?_)
 first
  | exact C_ ⟨_,rfl,C_ h⟩
  | exact A_ (C_ (C_ ⟨_,rfl,C_ h⟩))
  | exact A_ (C_ ⟨_,rfl,C_ h⟩)
end
end HT
namespace L2
open PySem PySem.Spec PyProof.Rows
section
variable {X:Cx}
theorem Wj{ds:List jG}{lo a:Option Int}(h:HT.sIx ds.length 0 lo=0/\HT.sIx ds.length ds.length a=ds.length):Wh ds lo a=ds:=by
 unfold Wh
 rw [h.1,h.2,fS,Nat.sub_zero,dB (I_ _)]
end
end L2
namespace PySem
open Sem (wp)
open AutoSeq1 (wpAny_loadPart')
set_option maxRecDepth 100000
section
variable {prog:jJ}{w:jK}{K:Type} [DecidableEq K]
end
end PySem
namespace L2
open PySem PySem.Spec PyProof.Rows
section
variable {X:Cx}
theorem Dr{α β:Type}{F:α->β->Prop}:∀{l₁:List α} {l₂:List β} {j:Nat} {a:α},Paired F l₁ l₂->l₁[j]?=some a->∃b,l₂[j]?=some b/\F a b
 | _,_,_,_,.nil,e=>by simp at e
 | _,_,0,_,.cons r _,e=>by simp at e;subst e;exact⟨_,rfl,r⟩
 | _,_,j+1,a,.cons _ t,e=>by
  obtain⟨b,h1,h2⟩:=Dr (j:=j) (a:=a) t (by simpa using e)
  exact⟨b,by simpa using h1,h2⟩
end
def Cal(P:jJ)(w:jK)(K:jI)(mg:Str->Option i_)(base:jN)(n:Nat)(x:Str)(ps:List Str)(sp:Sp):Prop :=
 ∃g a,FnOk P w K mg base Ea n g a ps sp/\Binds K a ps []/\PySem.W.keepIn K (.ref g)=true/\mg x=some (.ref g)
theorem Cal.mono{P:jJ}{w:jK}{K:jI}{mg:Str->Option i_}{base:jN}{n m:Nat}{x:Str}{ps:List Str}{sp:Sp}(c:Cal P w K mg base n x ps sp)(h:n<=m):Cal P w K mg base m x ps sp :=
 let⟨g,a,G,r⟩:=c;⟨g,a,G.mono h,r⟩
end L2
namespace L2
open PySem PySem.Spec PySem.Calls PyProof.Rows
abbrev WY:List i_:=[.type "ValueError",.type "Exception",.type "BaseException",.type "object"]
def WZ(K:jI)(C:jH)(a:ClassData)(b:Array (Option i_)):Bool:=a.mro.head?==some (.ref C) && !a.hasDel && PySem.W.tailIn K WY a.mro.tail && b.size==6 && b[4]?==some (some (.builtin "ValueError.__new__"))
theorem UD{a:Array (Option i_)}{v:Option i_}(h:a.size=6)(e:a[4]?=some v):∃f b g d c,a=#[f,b,g,d,v,c]:=by
 obtain⟨l⟩:=a
 match l,h with
 | [f,b,g,d,i,c],_ =>
  have:i=v:=by simpa using e
  subst this
  exact⟨f,b,g,d,c,rfl⟩
section
open Builtin Builtin.ObjectAttr
variable {prog:jJ}{w:jK}{A:jM}{E:i_->jA->Prop}{s:jA}{K:jI}{x C:jH}{ox:jO}{od:Option jO}{name:Str}{v:i_}{R:jU->jA->Prop}
end
def XD(c:jH)(b:List (Str×V)):HO:=.ext λh=>∃a,h.Ns1 c a/\(∀f,Ha (b.lookup f) (a f))/\PySem.Within a (b.map (·.1))
def XR(e C:jH)(d:Option jH):HO:=.ext λh=>∃a:Array i_,h.get? e=some ⟨.ref C,d,.fields a,#[]⟩/\a.size=6
end L2
namespace L2
open PySem PySem.Spec PyProof.Rows
inductive AV where
 | D (d:jG) | R (a:jH) | C (ds:List jG) | X (C:jH) (fs:List (Str×jG))
 deriving Inhabited
mutual
def Cano:jG->Bool
 | .int _=>true
 | .str _=>true
 | .tuple a=>A9 a
 | _=>false
def A9:List jG->Bool
 | []=>true
 | x :: a=>Cano x && A9 a
end
structure KeyTree(d:jG):Prop where
 can:Cano d=true
 lay:d.canLay0=true
 dep:d.depth<=6
def Vn(K:jI)(H:Hp)(a:jH)(xs:List V):Prop :=
 (∃o,H a=some (.frz o (.lst xs))) \/
  ∃(o:jO) (b:Array i_) (n:Nat),K.lookup a=some o/\o.cls=.type "list" /\ o.dict=none/\o.data=.seq b n/\b.size<=sizeLine/\Vals xs b.toList
theorem Vn.sq{K:jI}{H:Hp}{a:jH}{xs:List V}(h:Vn K H a xs):Fa K H a xs:=by
 rcases h with⟨o,h⟩ | h
 ·exact .inl (.inr ⟨o,h⟩)
 ·exact .inr h
def Lit:List jG->Bool
 | .str _ :: _=>true
 | .tuple _ :: _=>true
 | _=>false
def Ue(K:jI)(H:Hp)(a:jH)(ds:List jG)(xs:List V):Prop :=
 H a=some (.tup xs)\/(Lit ds=true/\∃(o:jO) (b:Array i_) (n:Nat),K.lookup a=some o/\o.cls=.type "tuple" /\ o.data=.seq b n/\b.size<=sizeLine/\Vals xs b.toList)
theorem Ue.sq{K:jI}{H:Hp}{a:jH}{ds:List jG}{xs:List V}(h:Ue K H a ds xs):Io K H a xs:=by
 rcases h with h | h
 ·exact Io.of h
 ·exact .inr h.2
mutual
def Dk(K:jI)(H:Hp):jG->V->Prop
 | .none,x=>x=.non
 | .bool b,x=>x=.bl b
 | .int i,x=>x=.int i
 | .str z,x=>x=.str z
 | .list d,x=>∃a c,x=.ref a/\Vn K H a c/\Am K H d c
 | .tuple d,x=>∃a c,x=.ref a/\Ue K H a d c/\Am K H d c
 | .dict _,_=>False
def Am(K:jI)(H:Hp):List jG->List V->Prop
 | [],a=>a=[]
 | d :: b,a=>∃x r,a=x :: r/\Dk K H d x/\Am K H b r
end
structure Kp(H H':Hp):Prop where
 t:∀b xs,H b=some (.tup xs)->H' b=some (.tup xs)
 f:∀b o u,H b=some (.frz o u)->H' b=some (.frz o u)
theorem Kp.refl{H:Hp}:Kp H H:=⟨λ_ _ h=>h,λ_ _ _ h=>h⟩
theorem Kp.trans{H d g:Hp}(a:Kp H d)(b:Kp d g):Kp H g:=⟨λc e h=>b.t c e (a.t c e h),λc o u h=>b.f c o u (a.f c o u h)⟩
theorem Kp.new{H:Hp}{p:jH}(h:H p=none)(o:HO):Kp H (upd H p o) :=
 ⟨λb a e=>by rw [Au (B5 e h)];exact e,λb o' u e=>by rw [Au (B5 e h)];exact e⟩
def Mt:HO->Prop
 | .lst _=>True
 | .dK _=>True
 | .dT _=>True
 | .dd _=>True
 | _=>False
theorem Kp.put{H:Hp}{p:jH}{a:HO}(h:H p=some a)(m:Mt a)(o:HO):Kp H (upd H p o) :=
 ⟨λb c e=>by rw [Au (Nm e h (by intro z;subst z;exact m))];exact e,λb o' u e=>by rw [Au (Nm e h (by intro z;subst z;exact m))];exact e⟩
theorem Vn.kp{K:jI}{H H':Hp}{a:jH}{xs:List V}(S:Kp H H')(h:Vn K H a xs):Vn K H' a xs:=by
 rcases h with⟨o,h⟩ | h
 ·exact .inl ⟨o,S.f _ _ _ h⟩
 ·exact .inr h
theorem Ue.kp{K:jI}{H H':Hp}{a:jH}{ds:List jG}{xs:List V}(S:Kp H H')(h:Ue K H a ds xs):Ue K H' a ds xs:=by
 rcases h with h | h
 ·exact .inl (S.t _ _ h)
 ·exact .inr h
section
variable {K:jI}{H H':Hp}{X:Cx}{a b c:jL}{ta tb tc:AE}{pos:Pos}{rest:List jL}{tA j9:AT}{es:List jL}{t:AA}{k:Nat}{x:Str}{p:Pos}{e:jL}{kf T:String}{r:AC}{o:jL}{to:AE}{name:Str}{aq am:Pos}{m:AV->AC}
mutual
theorem Dk.kp(S:Kp H H'):∀(d:jG) (x:V),Dk K H d x->Dk K H' d x
 | .none,x,h=>by simp only [Dk]at h ⊢;exact h
 | .bool b,x,h=>by simp only [Dk]at h ⊢;exact h
 | .int i,x,h=>by simp only [Dk]at h ⊢;exact h
 | .str z,x,h=>by simp only [Dk]at h ⊢;exact h
 | .list g,x,h=>by
  simp only [Dk]at h ⊢
  obtain⟨a,f,e,q,r⟩:=h
  exact⟨a,f,e,q.kp S,Am.kp S g f r⟩
 | .tuple g,x,h=>by
  simp only [Dk]at h ⊢
  obtain⟨a,f,e,q,r⟩:=h
  exact⟨a,f,e,q.kp S,Am.kp S g f r⟩
 | .dict _,x,h=>by simp only [Dk]at h
theorem Am.kp(S:Kp H H'):∀(ds:List jG) (xs:List V),Am K H ds xs->Am K H' ds xs
 | [],xs,h=>by simp only [Am]at h ⊢;exact h
 | d :: ds,xs,h=>by
  simp only [Am]at h ⊢
  obtain⟨x,r,e,h1,h2⟩:=h
  exact⟨x,r,e,Dk.kp S d x h1,Am.kp S ds r h2⟩
end
theorem Dj{i:Int}:Dk K H (.int i) (.int i):=by simp only [Dk]
theorem Ld{b:Bool}:Dk K H (.bool b) (.bl b):=by simp only [Dk]
theorem Pw{z:Str}:Dk K H (.str z) (.str z):=by simp only [Dk]
theorem HK:Dk K H .none .non:=by simp only [Dk]
theorem Dk.int{x:V}{i:Int}(h:Dk K H (.int i) x):x=.int i:=by simp only [Dk]at h;exact h
theorem Dk.bl{x:V}{i:Bool}(h:Dk K H (.bool i) x):x=.bl i:=by simp only [Dk]at h;exact h
theorem Dk.str{x:V}{i:Str}(h:Dk K H (.str i) x):x=.str i:=by simp only [Dk]at h;exact h
theorem Dk.non{x:V}(h:Dk K H .none x):x=.non:=by simp only [Dk]at h;exact h
theorem Dk.tup{x:V}{ds:List jG}(h:Dk K H (.tuple ds) x):∃a d,x=.ref a/\Ue K H a ds d/\Am K H ds d:=by simp only [Dk]at h;exact h
theorem Dk.lst{x:V}{ds:List jG}(h:Dk K H (.list ds) x):∃a d,x=.ref a/\Vn K H a d/\Am K H ds d:=by simp only [Dk]at h;exact h
theorem Hc{a:jH}{xs:List V}{ds:List jG}(h:H a=some (.tup xs))(r:Am K H ds xs):Dk K H (.tuple ds) (.ref a):=by simp only [Dk];exact⟨a,xs,rfl,.inl h,r⟩
theorem HL{a:jH}{xs:List V}{ds:List jG}(h:Vn K H a xs)(r:Am K H ds xs):Dk K H (.list ds) (.ref a):=by simp only [Dk];exact⟨a,xs,rfl,h,r⟩
theorem Dm:Am K H [] []:=by simp only [Am]
theorem Ds{d:jG}{ds:List jG}{x:V}{xs:List V}(h:Dk K H d x)(r:Am K H ds xs):Am K H (d :: ds) (x :: xs):=by simp only [Am];exact⟨x,xs,rfl,h,r⟩
theorem Am.cons{d:jG}{ds:List jG}{xs:List V}(h:Am K H (d :: ds) xs):∃x r,xs=x :: r/\Dk K H d x/\Am K H ds r:=by simp only [Am]at h;exact h
theorem Am.nil{xs:List V}(h:Am K H [] xs):xs=[]:=by simp only [Am]at h;exact h
theorem Am.length:∀{ds:List jG} {xs:List V},Am K H ds xs->xs.length=ds.length
 | [],_,h=>by rw [h.nil];rfl
 | _ :: ds,_,h=>by
  obtain⟨x,r,rfl,_,h2⟩:=h.cons
  rw [ZS,ZS,Am.length h2]
theorem Am.get:∀{ds:List jG} {xs:List V} {i:Nat} {d:jG},Am K H ds xs->ds[i]?=some d->∃x,xs[i]?=some x/\Dk K H d x
 | [],_,_,_,_,e=>by simp at e
 | _ :: ds,_,0,d,h,e=>by
  obtain⟨x,r,rfl,h1,_⟩:=h.cons
  simp at e;subst e
  exact⟨x,rfl,h1⟩
 | _ :: ds,_,i+1,d,h,e=>by
  obtain⟨x,r,rfl,_,h2⟩:=h.cons
  obtain⟨y,f,g⟩:=Am.get (i:=i) (d:=d) h2 (by simpa using e)
  exact⟨y,by simpa using f,g⟩
theorem Am.append:∀{ds es:List jG} {xs ys:List V},Am K H ds xs->Am K H es ys->Am K H (ds++es) (xs++ys)
 | [],_,_,_,h,k=>by rw [h.nil];exact k
 | _ :: ds,_,_,_,h,k=>by
  obtain⟨x,r,rfl,h1,h2⟩:=h.cons
  exact Ds h1 (Am.append h2 k)
theorem Am.drop:∀(n:Nat) {ds:List jG} {xs:List V},Am K H ds xs->Am K H (ds.drop n) (xs.drop n)
 | 0,_,_,h=>h
 | _+1,[],_,h=>by rw [h.nil];exact Dm
 | n+1,_ :: ds,_,h=>by
  obtain⟨x,r,rfl,_,h2⟩:=h.cons
  exact Am.drop n h2
theorem Am.take:∀(n:Nat) {ds:List jG} {xs:List V},Am K H ds xs->Am K H (ds.take n) (xs.take n)
 | 0,_,_,_=>Dm
 | _+1,[],_,h=>by rw [h.nil];exact Dm
 | n+1,_ :: ds,_,h=>by
  obtain⟨x,r,rfl,h1,h2⟩:=h.cons
  exact Ds h1 (Am.take n h2)
theorem Am.cut{ds:List jG}{xs:List V}(h:Am K H ds xs)(lo d:Option Int):Am K H (Wh ds lo d) (Kr xs lo d):=by
 unfold Wh Kr
 rw [h.length]
 exact(h.drop _).take _
theorem Am.atI{ds:List jG}{xs:List V}{i:Int}{d:jG}(h:Am K H ds xs)(e:atI ds i=some d):∃x,L2.atI xs i=some x/\Dk K H d x:=by
 unfold L2.atI at e ⊢
 rw [h.length]
 cases q:Zv ds.length i with
 | none=>rw [q]at e;cases e
 | some j =>
  rw [q]at e
  obtain⟨x,hx,f⟩:=h.get (show ds[j]?=some d from e)
  exact⟨x,hx,f⟩
def BC(K:jI)(H:Hp):List (Str×jG)->List (Str×V)->Prop:=Paired λp q=>p.1=q.1/\Dk K H p.2 q.2
theorem BC.kp{f:List (Str×jG)}{d:List (Str×V)}(S:Kp H H')(h:BC K H f d):BC K H' f d:=Paired.mapP h λp q r=>⟨r.1,Dk.kp S _ _ r.2⟩
def XFs(K:jI)(H:Hp)(d:Option jH)(g:List (Str×jG)):Prop:=match d with
 | none=>g=[]
 | some d=>∃h f,H d=some (.frz h (XD d f))/\BC K H g f
theorem XFs.kp{d:Option jH}{i:List (Str×jG)}(S:Kp H H')(h:XFs K H d i):XFs K H' d i:=by
 cases d with
 | none=>exact h
 | some d=>obtain⟨j,g,q,r⟩:=h;exact⟨j,g,S.f _ _ _ q,r.kp S⟩
def RelA(K:jI)(H:Hp):AV->V->Prop
 | .D d,v=>Dk K H d v
 | .R a,v=>v=.ref a
 | .C h,v=>∃a f,v=.ref a/\(∀H,Io K H a f)/\Am K H h f
 | .X C g,v=>∃a o d,v=.ref a/\H a=some (.frz o (XR a C d))/\XFs K H d g
theorem Cr{i:Int}:RelA K H (.D (.int i)) (.int i):=Dj (K:=K) (H:=H)
theorem Gr{i:Bool}:RelA K H (.D (.bool i)) (.bl i):=Ld (K:=K) (H:=H)
theorem Ml{i:Str}:RelA K H (.D (.str i)) (.str i):=Pw (K:=K) (H:=H)
theorem Mm:RelA K H (.D .none) .non:=HK (K:=K) (H:=H)
theorem RelA.int{x:V}{i:Int}(h:RelA K H (.D (.int i)) x):x=.int i:=Dk.int (K:=K) (H:=H) h
theorem RelA.bl{x:V}{i:Bool}(h:RelA K H (.D (.bool i)) x):x=.bl i:=Dk.bl (K:=K) (H:=H) h
theorem RelA.str{x:V}{i:Str}(h:RelA K H (.D (.str i)) x):x=.str i:=Dk.str (K:=K) (H:=H) h
theorem RelA.tup{x:V}{ds:List jG}(h:RelA K H (.D (.tuple ds)) x):∃a d,x=.ref a/\Ue K H a ds d/\Am K H ds d:=Dk.tup (K:=K) (H:=H) h
theorem RelA.lst{x:V}{ds:List jG}(h:RelA K H (.D (.list ds)) x):∃a d,x=.ref a/\Vn K H a d/\Am K H ds d:=Dk.lst (K:=K) (H:=H) h
theorem RelA.ref{x:V}{a:jH}(h:RelA K H (.R a) x):x=.ref a:=h
theorem Dt{a:jH}:RelA K H (.R a) (.ref a):=rfl
theorem Px{d:jG}{v:V}(h:Dk K H d v):RelA K H (.D d) v:=h
theorem Wl{a:jH}{xs:List V}{ds:List jG}(h:H a=some (.tup xs))(r:Am K H ds xs):RelA K H (.D (.tuple ds)) (.ref a):=Hc (K:=K) (H:=H) h r
abbrev A3(K:jI)(H:Hp):List AV->List V->Prop:=Paired (RelA K H)
theorem RelA.kp(S:Kp H H'):∀{x:AV} {v:V},RelA K H x v->RelA K H' x v
 | .D d,v,h=>Dk.kp S d v h
 | .R a,_,h=>h
 | .C i,v,⟨a,g,e,q,r⟩=>⟨a,g,e,q,Am.kp S i g r⟩
 | .X C j,v,⟨a,o,d,e,q,r⟩=>⟨a,o,d,e,S.f _ _ _ q,r.kp S⟩
theorem A3.kp(S:Kp H H'){xs:List AV}{d:List V}(h:A3 K H xs d):A3 K H' xs d:=Paired.mapP h λ_ _ q=>q.kp S
theorem A3.length{xs:List AV}{d:List V}(h:A3 K H xs d):xs.length=d.length:=ZZ h
theorem A3.append{xs ys:List AV}{f d:List V}(h:A3 K H xs f)(s:A3 K H ys d):A3 K H (xs++ys) (f++d):=by
 induction h with
 | nil=>exact s
 | cons r t g=>exact .cons r g
theorem A3.get:∀{xs:List AV} {d:List V} {i:Nat} {x:AV},A3 K H xs d->xs[i]?=some x->∃u,d[i]?=some u/\RelA K H x u
 | _,_,_,_,.nil,e=>by simp at e
 | _,_,0,_,.cons r _,e=>by simp at e;subst e;exact⟨_,rfl,r⟩
 | _,_,i+1,x,.cons _ t,e=>by
  obtain⟨u,h1,h2⟩:=A3.get (i:=i) (x:=x) t (by simpa using e)
  exact⟨u,by simpa using h1,h2⟩
theorem A3.set{x:AV}{u:V}(r:RelA K H x u):∀{xs:List AV} {d:List V} (i:Nat),A3 K H xs d->A3 K H (xs.set i x) (d.set i u)
 | _,_,_,.nil=>.nil
 | _,_,0,.cons _ t=>.cons r t
 | _,_,i+1,.cons q t=>.cons q (A3.set r i t)
theorem A3.drop:∀{xs:List AV} {d:List V} (n:Nat),A3 K H xs d->A3 K H (xs.drop n) (d.drop n)
 | _,_,0,r=>r
 | _,_,_+1,.nil=>.nil
 | _,_,n+1,.cons _ t=>A3.drop n t
theorem A3.take:∀{xs:List AV} {d:List V} (n:Nat),A3 K H xs d->A3 K H (xs.take n) (d.take n)
 | _,_,0,_=>.nil
 | _,_,_+1,.nil=>.nil
 | _,_,n+1,.cons r t=>.cons r (A3.take n t)
def Wm(xs:List AV)(lo d:Option Int):List AV:=(xs.drop (HT.sIx xs.length 0 lo)).take (HT.sIx xs.length xs.length d - HT.sIx xs.length 0 lo)
theorem A3.cut{xs:List AV}{f:List V}(h:A3 K H xs f)(lo d:Option Int):A3 K H (Wm xs lo d) (Kr f lo d):=by
 unfold Wm Kr
 rw [h.length]
 exact(h.drop _).take _
theorem A3.atI{xs:List AV}{d:List V}{i:Int}{x:AV}(h:A3 K H xs d)(e:atI xs i=some x):∃u,L2.atI d i=some u/\RelA K H x u:=by
 unfold L2.atI at e ⊢
 rw [<- h.length]
 cases q:Zv xs.length i with
 | none=>rw [q]at e;cases e
 | some j =>
  rw [q]at e
  obtain⟨x,hx,f⟩:=h.get (show xs[j]?=some x from e)
  exact⟨x,hx,f⟩
def dats:List AV->Option (List jG)
 | []=>some []
 | .D d :: r=>match dats r with
  | some f=>some (d :: f)
  | none=>none
 | .R _ :: _=>none
 | .C _ :: _=>none
 | .X _ _ :: _=>none
@[simp] theorem dats_nil:dats []=some []:=rfl
theorem Cb:∀(ds:List jG),dats (ds.map .D)=some ds
 | []=>rfl
 | d :: ds=>by simp only [List.map_cons,dats,Cb ds]
theorem Rm:∀{xs:List AV} {ds:List jG},dats xs=some ds->xs=ds.map .D
 | [],ds,h=>by cases h;rfl
 | .D d :: r,ds,h=>by
  simp only [dats]at h
  cases q:dats r with
  | none=>rw [q]at h;cases h
  | some es=>rw [q]at h;cases h;rw [Rm q];rfl
 | .R _ :: _,_,h=>by simp [dats]at h
 | .C _ :: _,_,h=>by simp [dats]at h
 | .X _ _ :: _,_,h=>by simp [dats]at h
theorem A3.dk:∀{ds:List jG} {d:List V},A3 K H (ds.map .D) d->Am K H ds d
 | [],_,h=>by cases h;exact Dm
 | _ :: _,_,h=>by
  rw [ZH]at h
  cases h with
  | cons r t=>exact Ds r (A3.dk t)
theorem Am.rel:∀{ds:List jG} {d:List V},Am K H ds d->A3 K H (ds.map .D) d
 | [],_,h=>by rw [h.nil];exact .nil
 | _ :: _,_,h=>by
  obtain⟨x,r,rfl,h1,h2⟩:=h.cons
  exact .cons h1 (Am.rel h2)
theorem A3.dats{xs:List AV}{d:List V}{ds:List jG}(h:A3 K H xs d)(e:dats xs=some ds):Am K H ds d:=by rw [Rm e]at h;exact h.dk
inductive MO where
 | lst (xs:List AV) | dk (kvs:List (Key×AV)) | dt (kvs:List (List Key×AV)) | dd (kvs:List (jG×AV))
abbrev M:=jH->Option MO
def An(μ:M)(a:jH)(m:MO):M:=λb=>if b=a then some m else μ b
theorem Ab{μ:M}{a:jH}{m:MO}:An μ a m a=some m:=by unfold An;rw [S_ rfl]
theorem Ag{μ:M}{a b:jH}{m:MO}(h:b≠a):An μ a m b=μ b:=by unfold An;rw [M_ h]
theorem Bh{μ:M}{a:jH}{m n:MO}:An (An μ a m) a n=An μ a n:=by funext b;unfold An;split <;> rfl
def E3{κ:Type}(K:jI)(H:Hp):List (κ×AV)->List (κ×V)->Prop:=Paired λp q=>p.1=q.1/\RelA K H p.2 q.2
theorem E3.kp{κ:Type}(S:Kp H H'){xs:List (κ×AV)}{d:List (κ×V)}(h:E3 K H xs d):E3 K H' xs d:=Paired.mapP h λ_ _ q=>⟨q.1,q.2.kp S⟩
def BD(K:jI)(H:Hp):List (jG×AV)->List (jG×jH×i_)->Prop:=Paired λp q=>p.1=q.1/\KeyTree p.1/\Dk K H p.1 (.ref q.2.1)/\∃v,RelA K H p.2 v/\Bi v q.2.2
theorem BD.kp(S:Kp H H'){xs:List (jG×AV)}{d:List (jG×jH×i_)}(h:BD K H xs d):BD K H' xs d:=Paired.mapP h λ_ _ ⟨a,b,c,v,r,q⟩=>⟨a,b,Dk.kp S _ _ c,v,r.kp S,q⟩
def Ir(K:jI)(H:Hp):MO->HO->Prop
 | .lst g,o=>∃f,o=.lst f/\A3 K H g f
 | .dk d,o=>∃f,o=.dK f/\E3 K H d f
 | .dt d,o=>∃f,o=.dT f/\E3 K H d f
 | .dd d,o=>∃g,o=.dd g/\BD K H d g
theorem Ir.kp(S:Kp H H'){m:MO}{o:HO}(h:Ir K H m o):Ir K H' m o:=by
 cases m with
 | lst f=>obtain⟨d,e,r⟩:=h;exact⟨d,e,r.kp S⟩
 | dk f=>obtain⟨d,e,r⟩:=h;exact⟨d,e,r.kp S⟩
 | dt f=>obtain⟨d,e,r⟩:=h;exact⟨d,e,r.kp S⟩
 | dd f=>obtain⟨d,e,r⟩:=h;exact⟨d,e,r.kp S⟩
theorem Cs{xs:List AV}{d:List V}(h:A3 K H xs d):Ir K H (.lst xs) (.lst d):=⟨d,rfl,h⟩
def Cn(K:jI)(μ:M)(H:Hp):Prop:=∀a m,μ a=some m->∃o,H a=some o/\Ir K H m o
theorem Cn.none{μ:M}{p:jH}(c:Cn K μ H)(h:H p=none):μ p=none:=by
 cases q:μ p with
 | none=>rfl
 | some m=>obtain⟨o,e,_⟩:=c p m q;rw [h]at e;cases e
theorem Cn.over{μ:M}{p:jH}{o:HO}(c:Cn K μ H)(h:H p=Option.none):Cn K μ (upd H p o):=λa m e=>by
 obtain⟨o',d,r⟩:=c a m e
 exact⟨o',by rw [Au (B5 d h)];exact d,r.kp (Kp.new h o)⟩
theorem Cn.new{μ:M}{p:jH}{m:MO}{o:HO}(c:Cn K μ H)(h:H p=Option.none)(r:Ir K H m o):Cn K (An μ p m) (upd H p o):=λa d e=>by
 by_cases ha:a=p
 ·subst ha;rw [Ab]at e;cases e;exact⟨o,Bo,r.kp (Kp.new h o)⟩
 ·rw [Ag ha]at e;exact c.over h a d e
theorem Cn.put{μ:M}{p:jH}{m:MO}{o f:HO}(c:Cn K μ H)(h:H p=some f)(d:Mt f)(r:Ir K H m o):Cn K (An μ p m) (upd H p o):=λa g e=>by
 by_cases ha:a=p
 ·subst ha;rw [Ab]at e;cases e;exact⟨o,Bo,r.kp (Kp.put h d o)⟩
 ·rw [Ag ha]at e
  obtain⟨o',i,j⟩:=c a g e
  exact⟨o',by rw [Au ha];exact i,j.kp (Kp.put h d o)⟩
def Sub(μ ν:M):Prop:=∀a m,μ a=some m->ν a=some m
theorem Sub.refl{μ:M}:Sub μ μ:=λ_ _ h=>h
theorem Sub.trans{μ ν ρ:M}(h:Sub μ ν)(k:Sub ν ρ):Sub μ ρ:=λa m e=>k a m (h a m e)
theorem Sub.new{μ ν:M}{p:jH}{m:MO}(h:Sub μ ν)(e:μ p=none):Sub μ (An ν p m):=λa f d=>by
 rw [Ag (by intro z;subst z;rw [e]at d;cases d)];exact h a f d
theorem Sub.none{μ ν:M}{p:jH}(h:Sub μ ν)(e:ν p=none):μ p=none:=by
 cases q:μ p with
 | none=>rfl
 | some m=>rw [h p m q]at e;cases e
theorem Cn.sub{μ ν:M}(c:Cn K ν H)(h:Sub μ ν):Cn K μ H:=λa m e=>c a m (h a m e)
abbrev ASt:=List (Option AV)
def Le(K:jI)(H:Hp)(a:Option AV)(b:Option V):Prop:=∀x,a=some x->∃v,b=some v/\RelA K H x v
abbrev Du(K:jI)(H:Hp):ASt->St->Prop:=Paired (Le K H)
theorem Le.kp{a:Option AV}{b:Option V}(S:Kp H H')(h:Le K H a b):Le K H' a b:=λx e=>let⟨v,d,r⟩:=h x e;⟨v,d,r.kp S⟩
theorem Du.kp{τ:ASt}{σ:St}(S:Kp H H')(h:Du K H τ σ):Du K H' τ σ:=Paired.mapP h λ_ _ q=>q.kp S
theorem Du.get:∀{τ:ASt} {σ:St} {i:Nat} {x:AV},Du K H τ σ->τ[i]?=some (some x)->∃v,σ[i]?=some (some v)/\RelA K H x v
 | _,_,_,_,.nil,e=>by simp at e
 | _,_,0,_,.cons r _,e=>by simp at e;subst e;obtain⟨v,rfl,q⟩:=r _ rfl;exact⟨v,rfl,q⟩
 | _,_,i+1,x,.cons _ t,e=>by
  obtain⟨u,h1,h2⟩:=Du.get (i:=i) (x:=x) t (by simpa using e)
  exact⟨u,by simpa using h1,h2⟩
theorem Jg{x:AV}{v:V}(r:RelA K H x v):Le K H (some x) (some v):=λy e=>by cases e;exact⟨v,rfl,r⟩
theorem Jh{b:Option V}:Le K H none b:=λy e=>nomatch e
theorem Du.set{x:AV}{v:V}(r:RelA K H x v):∀{τ:ASt} {σ:St} (i:Nat),Du K H τ σ->Du K H (τ.set i (some x)) (σ.set i (some v))
 | _,_,_,.nil=>.nil
 | _,_,0,.cons _ t=>.cons (Jg r) t
 | _,_,i+1,.cons q t=>.cons q (Du.set r i t)
def Hd(N:List Str)(xs:List AV):ASt:=xs.map some++List.replicate (N.length - xs.length) none
theorem Du.rep:∀(n:Nat),Du K H (List.replicate n none) (List.replicate n none)
 | 0=>.nil
 | n+1=>.cons Jh (Du.rep n)
theorem Du.somes:∀{xs:List AV} {d:List V},A3 K H xs d->Du K H (xs.map some) (d.map some)
 | _,_,.nil=>.nil
 | _,_,.cons r t=>.cons (Jg r) (Du.somes t)
theorem Du.append{τ τ':ASt}{σ σ':St}(h:Du K H τ σ)(s:Du K H τ' σ'):Du K H (τ++τ') (σ++σ'):=by
 induction h with
 | nil=>exact s
 | cons r t d=>exact .cons r d
theorem Du.begin{N:List Str}{xs:List AV}{d:List V}(h:A3 K H xs d):Du K H (Hd N xs) (start N d):=by
 unfold Hd start
 rw [h.length]
 exact(Du.somes h).append (Du.rep _)
def HM(mp:List (Option Nat))(τ:ASt):ASt:=mp.map λo=>match o with
 | none=>none
 | some j=>match τ[j]? with
  | some x=>x
  | none=>none
theorem Du.sub{τ:ASt}{σ:St}(h:Du K H τ σ):∀(mp:List (Option Nat)),Du K H (HM mp τ) (Nx mp σ)
 | []=>.nil
 | none :: mp=>.cons Jh (Du.sub h mp)
 | some j :: mp=>by
  refine .cons (λx e=>?_) (Du.sub h mp)
  have d:τ[j]?=some (some x):=by
   dsimp only at e
   cases q:τ[j]? with
   | none=>rw [q]at e;cases e
   | some y=>rw [q]at e;exact bB some e
  obtain⟨v,hv,r⟩:=h.get d
  refine⟨v,?_,r⟩
  show(σ[j]?).join=some v
  rw [hv];rfl
abbrev AE:=ASt->M->(AV->M->Prop)->Prop
abbrev AT:=ASt->M->(Bool->M->Prop)->Prop
abbrev AA:=ASt->M->(List AV->M->Prop)->Prop
abbrev AO:=ASt->M->(Option Int->M->Prop)->Prop
abbrev AS:=(ASt->M->Prop)->(AV->M->Prop)->(ASt->M->Prop)->(ASt->M->Prop)->ASt->M->Prop
abbrev AG:=AV->ASt->M->(ASt->M->Prop)->Prop
abbrev AGs:=List AV->ASt->M->(ASt->M->Prop)->Prop
abbrev A2:=AV->AV->M->(AV->M->Prop)->Prop
abbrev AC:=List AV->M->(AV->M->Prop)->Prop
@[irreducible] def brP (b:Bool) (T F:Prop):Prop:=match b with
 | true=>T
 | false=>F
@[irreducible] def opt {α:Type} (o:Option α) (k:α->Prop):Prop:=match o with
 | some x=>k x
 | none=>False
theorem br{b:Bool}{T F:Prop}(h1:b=true->T)(h2:b=false->F):brP b T F:=by
 unfold brP;cases b with
 | true=>exact h1 rfl
 | false=>exact h2 rfl
theorem Lf{b:Bool}{T F:Prop}(hb:b=true)(h:T):brP b T F:=by subst hb;unfold brP;exact h
theorem Lg{b:Bool}{T F:Prop}(hb:b=false)(h:F):brP b T F:=by subst hb;unfold brP;exact h
theorem Wo{T F:Prop}:brP true T F=T:=by unfold brP;rfl
theorem br_e{b:Bool}{T F:Prop}(h:brP b T F):(b=true/\T)\/(b=false/\F):=by
 unfold brP at h;cases b with
 | true=>exact .inl ⟨rfl,h⟩
 | false=>exact .inr ⟨rfl,h⟩
theorem Ac{α:Type}{o:Option α}{x:α}{k:α->Prop}(h:o=some x)(q:k x):opt o k:=by subst h;unfold opt;exact q
theorem A6{α:Type}{o:Option α}{k:α->Prop}(h:opt o k):∃x,o=some x/\k x:=by
 unfold opt at h;cases o with
 | none=>exact h.elim
 | some x=>exact⟨x,rfl,h⟩
theorem dif{p:Prop} [Decidable p]{T F:Prop}(h1:p->T)(h2:¬p->F):brP (decide p) T F:=br (λh=>h1 (YU h)) (λh=>h2 (of_decide_eq_false h))
def LV(K:jI)(H:Hp)(R:AV->M->Prop)(Q:VK):Prop:=∀x μ v H',Kp H H'->Cn K μ H'->RelA K H' x v->R x μ->Q v H'
def LB(K:jI)(H:Hp)(R:Bool->M->Prop)(Q:Bool->Hp->Prop):Prop:=∀b μ H',Kp H H'->Cn K μ H'->R b μ->Q b H'
def LA(K:jI)(n:Nat)(H:Hp)(R:List AV->M->Prop)(Q:List V->Hp->Prop):Prop:=∀d μ vs H',Kp H H'->Cn K μ H'->A3 K H' d vs->d.length=n->R d μ->Q vs H'
def LO(K:jI)(H:Hp)(R:Option Int->M->Prop)(Q:Option Int->Hp->Prop):Prop:=∀b μ H',Kp H H'->Cn K μ H'->R b μ->Q b H'
def LS(K:jI)(H:Hp)(R:ASt->M->Prop)(Q:St->Hp->Prop):Prop:=∀ τ μ σ H',Kp H H'->Du K H' τ σ->Cn K μ H'->R τ μ->Q σ H'
theorem LV.kp{K:jI}{H H':Hp}{R:AV->M->Prop}{Q:VK}(h:LV K H R Q)(S:Kp H H'):LV K H' R Q:=λx μ v H2 S2=>h x μ v H2 (S.trans S2)
theorem LB.kp{K:jI}{H H':Hp}{R:Bool->M->Prop}{Q:Bool->Hp->Prop}(h:LB K H R Q)(S:Kp H H'):LB K H' R Q:=λx μ H2 S2=>h x μ H2 (S.trans S2)
theorem LS.kp{K:jI}{H H':Hp}{R:ASt->M->Prop}{Q:St->Hp->Prop}(h:LS K H R Q)(S:Kp H H'):LS K H' R Q:=λx μ v H2 S2=>h x μ v H2 (S.trans S2)
structure LE'(K:jI)(H:Hp)(k:ASt->M->Prop)(r:AV->M->Prop)(b c:ASt->M->Prop)(D:Ends):Prop where
 nx:LS K H k D.nx
 rt:LV K H r D.rt
 bk:LS K H b D.bk
 ct:LS K H c D.ct
theorem LE'.kp{K:jI}{H H':Hp}{k:ASt->M->Prop}{r:AV->M->Prop}{b c:ASt->M->Prop}{D:Ends}(h:LE' K H k r b c D)(S:Kp H H'):LE' K H' k r b c D:=⟨h.nx.kp S,h.rt.kp S,h.bk.kp S,h.ct.kp S⟩
def cE(K:jI)(t:AE):TE:=fun σ H Q=>∃ τ μ R,Du K H τ σ/\Cn K μ H/\t τ μ R/\LV K H R Q
def cT(K:jI)(t:AT):TT:=fun σ H Q=>∃ τ μ R,Du K H τ σ/\Cn K μ H/\t τ μ R/\LB K H R Q
def cA(K:jI)(n:Nat)(t:AA):TA:=fun σ H Q=>∃ τ μ R,Du K H τ σ/\Cn K μ H/\t τ μ R/\LA K n H R Q
def cO(K:jI)(t:AO):TO:=fun σ H Q=>∃ τ μ R,Du K H τ σ/\Cn K μ H/\t τ μ R/\LO K H R Q
def cS(K:jI)(t:AS):TS:=λD σ H=>∃ τ μ k r b c,Du K H τ σ/\Cn K μ H/\t k r b c τ μ/\LE' K H k r b c D
def cG(K:jI)(t:AG):TG:=λv σ H Q=>∃x τ μ R,RelA K H x v/\Du K H τ σ/\Cn K μ H/\t x τ μ R/\LS K H R Q
def XA(K:jI)(t:AGs):TGs:=λf σ H Q=>∃d τ μ R,A3 K H d f/\Du K H τ σ/\Cn K μ H/\t d τ μ R/\LS K H R Q
def cR(K:jI)(r:A2):R2:=λx y H Q=>∃a b μ R,RelA K H a x/\RelA K H b y/\Cn K μ H/\r a b μ R/\LV K H R Q
def cC(K:jI)(r:AC):List V->Hp->VK->Prop:=λf H Q=>∃d μ R,A3 K H d f/\Cn K μ H/\r d μ R/\LV K H R Q
def cM(K:jI)(r:AV->AC):V->List V->Hp->VK->Prop:=λx f H Q=>∃a d μ R,RelA K H a x/\A3 K H d f/\Cn K μ H/\r a d μ R/\LV K H R Q
def VE(X:Cx)(e:jL)(t:AE):Prop:=PE X e (cE X.K t)
def VT(X:Cx)(e:jL)(t:AT):Prop:=PT X e (cT X.K t)
def VW(X:Cx)(e:jL)(t:AT):Prop:=PW X e (cT X.K t)
def VA(X:Cx)(es:List jL)(t:AA):Prop:=PA X es (cA X.K es.length t)
def VO(X:Cx)(e:Option jL)(t:AO):Prop:=PO X e (cO X.K t)
def VS(X:Cx)(st:jP)(t:AS):Prop:=PS X st (cS X.K t)
def VSs(X:Cx)(st:List jP)(t:AS):Prop:=PSs X st (cS X.K t)
def VG(X:Cx)(e:jL)(t:AG):Prop:=PG X e (cG X.K t)
def VGs(X:Cx)(es:List jL)(t:AGs):Prop:=PGs X es (XA X.K t)
def VOp(X:Cx)(f:i_->i_->Sem i_)(r:A2):Prop:=Hy X f (cR X.K r)
def VIx(X:Cx)(r:A2):Prop:=ND X (cR X.K r)
def VCall(X:Cx)(f:i_)(r:AC):Prop:=Ek X f (cC X.K r)
def VMt(X:Cx)(id:String)(r:AV->AC):Prop:=LF X id (cM X.K r)
theorem PE.imp{e:jL}{t u:TE}(h:PE X e t)(i:∀ σ H Q,u σ H Q->t σ H Q):PE X e u:=λd s σ H Q I q=>h d s σ H Q I (i σ H Q q)
theorem PT.imp{e:jL}{t u:TT}(h:PT X e t)(i:∀ σ H Q,u σ H Q->t σ H Q):PT X e u:=λd s σ H Q I q=>h d s σ H Q I (i σ H Q q)
theorem PW.imp{e:jL}{t u:TT}(h:PW X e t)(i:∀ σ H Q,u σ H Q->t σ H Q):PW X e u:=λf d s σ H Q I q=>h f d s σ H Q I (i σ H Q q)
theorem PA.imp{e:List jL}{t u:TA}(h:PA X e t)(i:∀ σ H Q,u σ H Q->t σ H Q):PA X e u:=λpos d s σ H Q I q=>h pos d s σ H Q I (i σ H Q q)
theorem PO.imp{e:Option jL}{t u:TO}(h:PO X e t)(i:∀ σ H Q,u σ H Q->t σ H Q):PO X e u:=λd s σ H Q I q=>h d s σ H Q I (i σ H Q q)
theorem PS.imp{e:jP}{t u:TS}(h:PS X e t)(i:∀D σ H,u D σ H->t D σ H):PS X e u:=λd s σ H D I q=>h d s σ H D I (i D σ H q)
theorem PSs.imp{e:List jP}{t u:TS}(h:PSs X e t)(i:∀D σ H,u D σ H->t D σ H):PSs X e u:=λd s σ H D I q=>h d s σ H D I (i D σ H q)
theorem PG.imp{e:jL}{t u:TG}(h:PG X e t)(i:∀v σ H Q,u v σ H Q->t v σ H Q):PG X e u:=λd s σ H v w Q I r q=>h d s σ H v w Q I r (i v σ H Q q)
theorem PGs.imp{e:List jL}{t u:TGs}(h:PGs X e t)(i:∀v σ H Q,u v σ H Q->t v σ H Q):PGs X e u:=λd s σ H v w Q I r q=>h d s σ H v w Q I r (i v σ H Q q)
def Ji(i:Nat):AE:=fun τ μ R=>match τ[i]? with
 | some (some x)=>R x μ
 | _=>False
theorem Wp{K:jI}{i:Nat}{σ:St}{H:Hp}{Q:VK}(h:cE K (Ji i) σ H Q):MH i σ H Q:=by
 obtain⟨τ,μ,R,d,hc,h,hq⟩:=h
 unfold Ji at h
 split at h
 ·rename_i x e
  obtain⟨v,f,r⟩:=d.get e
  exact⟨v,f,hq _ _ _ _ Kp.refl hc r h⟩
 ·exact h.elim
theorem vv(i:Nat){x:Str}{pos:Pos}(d:X.N[i]?=some x:=by rfl)(hv:Vis X.env.scope x:=by first | exact Or.inl rfl | exact Or.inr (Or.inl rfl) | exact Or.inr (Or.inr rfl))(g:(x==("__debug__" : Str))=false:=by decide)
  (f:(x==("__classdict__" : Str))=false:=by decide):VE X (.Name x pos) (Ji i):=(FT d hv g f).imp λ_ _ _ h=>Wp h
def vC(x:AV):AE:=λ_ μ R=>R x μ
theorem Gu{e:jL}{v:V}{d:jG}(h:PE X e (tC v))(r:∀H,Dk X.K H d v):VE X e (vC (.D d)):=h.imp fun σ H Q zz1=>B9 zz1 fun τ μ R hs hc h hq=>hq _ _ _ _ Kp.refl hc (Px (r H)) h
theorem Ah{i j pos}:VE X (.Constant (.int i) j pos) (vC (.D (.int i))):=Gu FU λ_=>Dj
theorem Ff{b j pos}:VE X (.Constant (.bool b) j pos) (vC (.D (.bool b))):=Gu MJ λ_=>Ld
theorem Mn{x j pos}:VE X (.Constant (.str x) j pos) (vC (.D (.str x))):=Gu FV λ_=>Pw
theorem BE{x:Str}{v:V}{u:i_}{d:jG}{pos:Pos}(f:Gl X x)(g:X.mg x=some u)(r:Bi v u)(h:∀H,Dk X.K H d v)(h1:(x==("__debug__" : Str))=false:=by decide):VE X (.Name x pos) (vC (.D d)):=Gu (Zz f g r h1) h
def HN(r:A2)(ta tb:AE):AE:=fun τ μ R=>ta τ μ λx μ1=>tb τ μ1 λy μ2=>r x y μ2 R
theorem Mo{K:jI}{r:A2}{ta tb:AE}{σ:St}{H:Hp}{Q:VK}(h:cE K (HN r ta tb) σ H Q):SO (cR K r) (cE K ta) (cE K tb) σ H Q:=by
 obtain⟨τ,μ,R,d,hc,h,hq⟩:=h
 exact⟨τ,μ,_,d,hc,h,λx μ1 v H1 S1 g rx hx=>⟨τ,μ1,_,d.kp S1,g,hx,λy μ2 u H2 S2 c2 f hy=>⟨x,y,μ2,R,rx.kp S2,f,c2,hy,hq.kp (S1.trans S2)⟩⟩⟩
theorem Bd{d:Operator}{r:A2}(f:VOp X (binaryOp d) r)(ha:VE X a ta)(hb:VE X b tb):VE X (.BinOp a d b pos) (HN r ta tb):=(MT f ha hb).imp λ_ _ _ h=>Mo h
def Lh(t:AE):AT:=fun τ μ R=>t τ μ λx μ1=>match x with
 | .D (.bool k)=>R k μ1
 | _=>False
theorem He{K:jI}{t:AE}{u:TE}(hu:∀ σ H Q,cE K t σ H Q->u σ H Q){σ:St}{H:Hp}{Q:Bool->Hp->Prop}(h:cT K (Lh t) σ H Q):EC u σ H Q:=by
 obtain⟨τ,μ,R,d,hc,h,hq⟩:=h
 refine hu _ _ _ ⟨τ,μ,_,d,hc,h,λx μ1 v H1 S1 c1 rx hx=>?_⟩
 split at hx
 ·cases RelA.bl rx
  exact⟨_,rfl,hq _ _ _ S1 c1 hx⟩
 ·exact hx.elim
theorem Bk{d:CmpOp}{r:A2}(f:VOp X (compareOp d) r)(ha:VE X a ta)(hb:VE X b tb)(g:behindInMarks d b=false):VT X (.Compare a [d] [b] pos) (Lh (HN r ta tb)) :=
 (AJ f ha hb g).imp λ_ _ _ h=>He (λ_ _ _ q=>Mo q) h
theorem C0{e:jL}{t:AE}(h:VE X e t)(he:∀d,isTrue e X.env d=(do let v <- d;standAt e.pos;holding [v] (truthy v)):=by intro _;rfl):VT X e (Lh t) :=
 (FY h he).imp λ_ _ _ h=>by
  have h:=He (λ_ _ _ q=>q) h
  exact h
def NM(t u:AT):AT:=fun τ μ R=>t τ μ λk μ1=>brP k (u τ μ1 R) (R false μ1)
def XB(t u:AT):AT:=fun τ μ R=>t τ μ λk μ1=>brP k (R true μ1) (u τ μ1 R)
def NN(t:AT):AT:=fun τ μ R=>t τ μ λk μ1=>R (!k) μ1
theorem VW.pt{e:jL}{t:AT}(h:VW X e t):VT X e t:=PW.pt h
theorem Dn(ha:VT X a tA):VW X (.BoolOp .And [a] pos) tA:=Z0 ha
theorem Hf(ha:VT X a tA):VW X (.BoolOp .Or [a] pos) tA:=FZ ha
theorem E4(ha:VT X a tA)(hb:VW X (.BoolOp .And (b :: rest) pos) j9):VW X (.BoolOp .And (a :: b :: rest) pos) (NM tA j9) :=
 (GA ha hb).imp fun σ H Q zz3=>B9 zz3 fun τ μ R f hc h hq=>⟨τ,μ,_,f,hc,h,λk μ1 H1 S1 g hk=>by
  rcases br_e hk with⟨rfl,d⟩ | ⟨rfl,d⟩
  ·exact⟨τ,μ1,R,f.kp S1,g,d,hq.kp S1⟩
  ·exact hq _ _ _ S1 g d⟩
theorem Jj(ha:VT X a tA)(hb:VW X (.BoolOp .Or (b :: rest) pos) j9):VW X (.BoolOp .Or (a :: b :: rest) pos) (XB tA j9) :=
 (MK ha hb).imp fun σ H Q zz4=>B9 zz4 fun τ μ R f hc h hq=>⟨τ,μ,_,f,hc,h,λk μ1 H1 S1 g hk=>by
  rcases br_e hk with⟨rfl,d⟩ | ⟨rfl,d⟩
  ·exact hq _ _ _ S1 g d
  ·exact⟨τ,μ1,R,f.kp S1,g,d,hq.kp S1⟩⟩
theorem Hg(ha:VT X a tA):VT X (.UnaryOp .Not a pos) (NN tA):=(GB ha).imp fun σ H Q zz5=>B9 zz5 fun τ μ R d hc h hq=>⟨τ,μ,_,d,hc,h,λk μ1 H1 S1 c1 hk=>hq _ _ _ S1 c1 hk⟩
def XC(t:AT)(ta tb:AE):AE:=fun τ μ R=>t τ μ λk μ1=>brP k (ta τ μ1 R) (tb τ μ1 R)
theorem Jk(hc:VT X c tA)(ha:VE X a ta)(hb:VE X b tb):VE X (.IfExp c a b pos) (XC tA ta tb) :=
 (Vp hc ha hb).imp fun σ H Q zz9=>B9 zz9 fun τ μ R d hc h hq=>⟨τ,μ,_,d,hc,h,λk μ1 H1 S1 g hk=>by
  rcases br_e hk with⟨rfl,f⟩ | ⟨rfl,f⟩
  ·exact⟨τ,μ1,R,d.kp S1,g,f,hq.kp S1⟩
  ·exact⟨τ,μ1,R,d.kp S1,g,f,hq.kp S1⟩⟩
def BF:AA:=λ_ μ R=>R [] μ
def Rn(ta:AE)(f:AA):AA:=fun τ μ R=>ta τ μ λx μ1=>f τ μ1 λd μ2=>R (x :: d) μ2
theorem Ad:VA X [] BF:=GR.imp fun σ H Q zz10=>B9 zz10 fun τ μ R hs hc h hq=>hq [] μ [] H Kp.refl hc .nil rfl h
theorem Aa{e:jL}{es:List jL}{te:AE}{t:AA}(ha:VE X e te)(f:VA X es t)(hs:starEach (e :: es) X.env=(false,eval e X.env) :: starEach es X.env:=by rfl):VA X (e :: es) (Rn te t) :=
 (AK ha f hs).imp fun σ H Q zz11=>B9 zz11 fun τ μ R hs hc h hq=>⟨τ,μ,_,hs,hc,h,λx μ1 v H1 S1 g rx hx=>⟨τ,μ1,_,hs.kp S1,g,hx,λd μ2 vs H2 S2 c2 rs hl hxs =>
  hq (x :: d) μ2 (v :: vs) H2 (S1.trans S2) c2 (.cons (rx.kp S2) rs) (by rw [ZS,hl];rfl) hxs⟩⟩
def UE(t:AA):AE:=fun τ μ R=>t τ μ λd μ1=>match dats d with
 | some f=>R (.D (.tuple f)) μ1
 | none=>False
def NO(t:AA):AE:=fun τ μ R=>t τ μ λd μ1=>∀p,μ1 p=none->R (.R p) (An μ1 p (.lst d))
theorem Bl{k:Nat}(h:VA X es t)(d:es.length<=sizeLine:=by decide):VE X (.Tuple es k pos) (UE t) :=
 (GS h).imp fun σ H Q zz12=>B9 zz12 fun τ μ R f hc h hq=>⟨τ,μ,_,f,hc,h,λg μ1 vs H1 S1 c1 rs hl hx=>⟨by rw [<- rs.length,hl];exact d,λp hp=>by
  split at hx
  ·rename_i i e
   refine hq _ _ _ _ (S1.trans (Kp.new hp _)) (c1.over hp) ?_ hx
   exact Hc Bo (Am.kp (Kp.new hp _) _ _ (rs.dats e))
  ·exact hx.elim⟩⟩
theorem Bv(h:VA X es t)(f:es.length<=sizeLine:=by decide):VE X (.List es pos) (NO t) :=
 (GT h).imp fun σ H Q zz13=>B9 zz13 fun τ μ R g hc h hq=>⟨τ,μ,_,g,hc,h,λi μ1 vs H1 S1 c1 d hl hx=>⟨by rw [<- d.length,hl];exact f,λp hp =>
  hq _ _ _ _ (S1.trans (Kp.new hp _)) (c1.new hp (Cs (d))) Dt (hx p (c1.none hp))⟩⟩
mutual
theorem Dk.reads{y:List (jH×jO)}{σ:St}{H:Hp}{s:jA}(I:Inv X y σ H s):∀(d:jG) (x:V) (u:i_),Dk X.K H d x->Bi x u->∃j,Reads s.heap u d j
 | .none,x,u,h,r=>by cases h.non;cases r;exact⟨_,.none⟩
 | .bool b,x,u,h,r=>by cases h.bl;cases r;exact⟨_,.bool b⟩
 | .int i,x,u,h,r=>by cases h.int;obtain⟨t,rfl⟩:=r;exact⟨_,.int i t⟩
 | .str z,x,u,h,r=>by cases h.str;obtain⟨t,rfl⟩:=r;exact⟨_,.str z t⟩
 | .list g,x,u,h,r=>by
  obtain⟨a,w,rfl,q,k⟩:=h.lst
  cases r
  obtain⟨l,f,⟨o,n,e,c,_,d⟩,_⟩:=I.list q.sq
  obtain⟨j,v⟩:=Am.reads I g w l k f
  exact⟨_,.list e c d (by simpa using v)⟩
 | .tuple g,x,u,h,r=>by
  obtain⟨a,w,rfl,q,k⟩:=h.tup
  cases r
  obtain⟨l,f,⟨o,e,c,n,d⟩,_⟩:=I.tuple q.sq
  obtain⟨j,v⟩:=Am.reads I g w l k f
  exact⟨_,.tuple e c d (by simpa using v)⟩
 | .dict _,x,u,h,_=>by simp only [Dk]at h
theorem Am.reads{n:List (jH×jO)}{σ:St}{H:Hp}{s:jA}(I:Inv X n σ H s):∀(ds:List jG) (xs:List V) (f:List i_),Am X.K H ds xs->Vals xs f->∃g,ReadsAll s.heap f ds g
 | [],xs,f,h,r=>by
  have e:=h.nil
  subst e
  cases r
  exact⟨_,.nil⟩
 | d :: ds,xs,f,h,r=>by
  obtain⟨x,j,rfl,h1,h2⟩:=h.cons
  cases r with
  | cons u q =>
   obtain⟨g,i⟩:=Dk.reads I d x _ h1 u
   obtain⟨v,l⟩:=Am.reads I ds j _ h2 q
   exact⟨_,.cons i l⟩
end
def see(μ:M):AV->Option jG
 | .X _ _=>none
 | .D d=>some d
 | .C f=>some (.tuple f)
 | .R a=>match μ a with
  | some (.lst g)=>match dats g with
   | some f=>some (.list f)
   | none=>none
  | _=>none
@[simp] theorem see_D {μ:M} {d:jG}:see μ (.D d)=some d:=rfl
theorem Dq{B:List (jH×jO)}{σ:St}{H:Hp}{s:jA}{μ:M}{x:AV}{v:V}{u:i_}{d:jG}(I:Inv X B σ H s)(hc:Cn X.K μ H)(l:RelA X.K H x v)(r:Bi v u)(e:see μ x=some d):∃h,Reads s.heap u d h:=by
 cases x with
 | X C G=>cases e
 | D J=>cases e;exact Dk.reads I _ _ _ l r
 | C g =>
  cases e
  obtain⟨a,w,rfl,q,k⟩:=l
  cases r
  obtain⟨i,f,⟨o,e,c,n,d⟩,_⟩:=I.tuple (q H)
  obtain⟨h,j⟩:=Am.reads I g w i k f
  exact⟨_,.tuple e c d (by simpa using j)⟩
 | R a =>
  dsimp only [see]at e
  split at e
  ·rename_i w z
   split at e
   ·rename_i g E
    cases e
    cases (show v=.ref a from l)
    cases r
    obtain⟨o,y,F,rfl,A⟩:=hc a _ z
    obtain⟨i,f,⟨o,n,e,c,_,dd⟩,_⟩:=I.list (Fa.of y)
    obtain⟨h,j⟩:=Am.reads I g F i (A.dats E) f
    exact⟨_,.list e c dd (by simpa using j)⟩
   ·cases e
  ·cases e
def Cd(d:jG):Prop:=d.canLay0=true/\d.depth<=64
def WI:A2:=λx y μ R=>match x,y with
 | .D d,.D e=>Cd d/\Cd e/\R (.D (.bool (PyData.eqv d e))) μ
 | x,y=>opt (see μ x) λd=>opt (see μ y) λe=>Cd d/\Cd e/\R (.D (.bool (PyData.eqv d e))) μ
theorem BG{x y:AV}{μ:M}{R:AV->M->Prop}(h:WI x y μ R):∃d e,see μ x=some d/\see μ y=some e/\Cd d/\Cd e/\R (.D (.bool (PyData.eqv d e))) μ:=by
 have g:∀(h:opt (see μ x) λd=>opt (see μ y) λe=>Cd d/\Cd e/\R (.D (.bool (PyData.eqv d e))) μ),∃d e,see μ x=some d/\see μ y=some e/\Cd d/\Cd e/\R (.D (.bool (PyData.eqv d e))) μ:=by
  intro h
  obtain⟨d,i,h⟩:=A6 h
  obtain⟨e,f,h⟩:=A6 h
  exact⟨d,e,i,f,h⟩
 cases x with
 | D d =>
  cases y with
  | D e=>exact⟨_,_,rfl,rfl,h⟩
  | _=>exact g h
 | _=>exact g h
def UF:A2:=λx y μ R=>match x,y with
 | .D d,.D e=>Cd d/\Cd e/\R (.D (.bool (!PyData.eqv d e))) μ
 | x,y=>opt (see μ x) λd=>opt (see μ y) λe=>Cd d/\Cd e/\R (.D (.bool (!PyData.eqv d e))) μ
theorem BH{x y:AV}{μ:M}{R:AV->M->Prop}(h:UF x y μ R):∃d e,see μ x=some d/\see μ y=some e/\Cd d/\Cd e/\R (.D (.bool (!PyData.eqv d e))) μ:=by
 unfold UF at h
 split at h
 ·exact⟨_,_,rfl,rfl,h⟩
 ·obtain⟨d,g,h⟩:=A6 h
  obtain⟨e,f,h⟩:=A6 h
  exact⟨d,e,g,f,h⟩
theorem Hh(l:Room k X.A):VOp X (compareOp .Eq) WI:=by
 intro q s σ H x y v u Q I rx ry zz14
 refine Ey zz14 λa b μ R ra rb hc h hq=>?_
 obtain⟨d,e,j,g,h⟩:=BG h
 ·obtain⟨n,i⟩:=Dq I hc ra rx j
  obtain⟨w,f⟩:=Dq I hc rb ry g
  have hu:=l.un
  have:=h.1.2
  exact SeqAt.compareEq_reads i f h.1.1 h.2.1.1 (by omega) ⟨.bl _,H,I,rfl,hq _ _ _ _ Kp.refl hc Gr h.2.2⟩
theorem HP(l:Room k X.A):VOp X (compareOp .NotEq) UF:=by
 intro q s σ H x y v u Q I rx ry zz15
 refine Ey zz15 λa b μ R ra rb hc h hq=>?_
 obtain⟨d,e,j,g,h⟩:=BH h
 ·obtain⟨n,i⟩:=Dq I hc ra rx j
  obtain⟨w,f⟩:=Dq I hc rb ry g
  have hu:=l.un
  have:=h.1.2
  exact SeqAt.compareNe_reads i f h.1.1 h.2.1.1 (by omega) ⟨.bl _,H,I,rfl,hq _ _ _ _ Kp.refl hc Gr h.2.2⟩
def Nz:jG->Option Key
 | .int i=>some (.inl i)
 | .str z=>some (.inr z)
 | _=>none
def items(μ:M):AV->Option (List AV)
 | .D (.tuple d)=>some (d.map .D)
 | .C d=>some (d.map .D)
 | .D (.list d)=>some (d.map .D)
 | .R a=>match μ a with
  | some (.lst f)=>some f
  | _=>none
 | _=>none
theorem Hi{H:Hp}{μ:M}{x:AV}{v:V}{xs:List AV}(hc:Cn X.K μ H)(f:RelA X.K H x v)(e:items μ x=some xs):∃p d,v=.ref p/\(Fa X.K H p d\/Io X.K H p d)/\A3 X.K H xs d:=by
 unfold items at e
 split at e
 ·cases e;obtain⟨a,d,rfl,q,r⟩:=RelA.tup f;exact⟨a,d,rfl,.inr q.sq,r.rel⟩
 ·cases e;obtain⟨a,d,rfl,q,r⟩:=f;exact⟨a,d,rfl,.inr (q H),r.rel⟩
 ·cases e;obtain⟨a,d,rfl,q,r⟩:=RelA.lst f;exact⟨a,d,rfl,.inl q.sq,r.rel⟩
 ·split at e
  ·rename_i j h
   cases e
   obtain⟨o,i,d,rfl,g⟩:=hc _ _ h
   exact⟨_,d,f,.inl (Fa.of i),g⟩
  ·cases e
 ·cases e
def EH:AV->Bool
 | .D (.tuple _)=>true
 | .C _=>true
 | _=>false
theorem Ca{H:Hp}{μ:M}{x:AV}{v:V}{xs:List AV}(hc:Cn X.K μ H)(f:RelA X.K H x v)(e:items μ x=some xs):∃p d,v=.ref p/\((EH x=false/\Fa X.K H p d)\/(EH x=true/\Io X.K H p d))/\A3 X.K H xs d:=by
 unfold items at e
 split at e
 ·cases e;obtain⟨a,d,rfl,q,r⟩:=RelA.tup f;exact⟨a,d,rfl,.inr ⟨rfl,q.sq⟩,r.rel⟩
 ·cases e;obtain⟨a,d,rfl,q,r⟩:=f;exact⟨a,d,rfl,.inr ⟨rfl,q H⟩,r.rel⟩
 ·cases e;obtain⟨a,d,rfl,q,r⟩:=RelA.lst f;exact⟨a,d,rfl,.inl ⟨rfl,q.sq⟩,r.rel⟩
 ·split at e
  ·rename_i j h
   cases e
   obtain⟨o,i,d,rfl,g⟩:=hc _ _ h
   exact⟨_,d,f,.inl ⟨rfl,Fa.of i⟩,g⟩
  ·cases e
 ·cases e
def LG(g:Bool->Bool):A2:=λx y μ R=>match y with
 | .D (.str j)=>match x with
  | .D (.str i)=>R (.D (.bool (g (!(Builtin.Str.occurrences j i 0 j.length 1).isEmpty)))) μ
  | _=>False
 | .C f=>opt (see μ x) λd=>Cd d/\Cd (.tuple f)/\R (.D (.bool (g (f.any λe=>PyData.eqv e d)))) μ
 | .D (.tuple f)=>opt (see μ x) λd=>Cd d/\Cd (.tuple f)/\R (.D (.bool (g (f.any λe=>PyData.eqv e d)))) μ
 | y=>opt (see μ x) λd=>opt (items μ y) λh=>opt (dats h) λf=>Cd d/\Cd (.tuple f)/\R (.D (.bool (g (f.any λe=>PyData.eqv e d)))) μ
theorem Ro{l:Bool->Bool}{x y:AV}{μ:M}{R:AV->M->Prop}(h:LG l x y μ R)(q:∀z,y≠.D (.str z)):∃d i f,see μ x=some d/\items μ y=some i/\dats i=some f/\Cd d/\Cd (.tuple f)/\R (.D (.bool (l (f.any λe=>PyData.eqv e d)))) μ:=by
 unfold LG at h
 split at h
 ·exact absurd rfl (q _)
 ·obtain⟨d,g,h⟩:=A6 h
  exact⟨d,_,_,g,rfl,Cb _,h⟩
 ·obtain⟨d,g,h⟩:=A6 h
  exact⟨d,_,_,g,rfl,Cb _,h⟩
 ·obtain⟨d,g,h⟩:=A6 h
  obtain⟨i,n,h⟩:=A6 h
  obtain⟨f,j,h⟩:=A6 h
  exact⟨d,i,f,g,n,j,h⟩
theorem N0{ds:List jG}(h:Cd (.tuple ds)):PyData.canLayAll0 ds=true/\PyData.depthAll ds<=64:=by
 obtain⟨h1,h2⟩:=h
 simp only [PyData.canLay0]at h1
 simp only [PyData.depth]at h2
 exact⟨h1,fU h2⟩
theorem NP(N:Room k X.A):VOp X (compareOp .In) (LG λb=>b):=by
 intro O s σ H x y v u Q I rx ry zz16
 refine Ey zz16 λa b μ R ra f hc h hq=>?_
 by_cases hb:∃z,b=.D (.str z)
 ·obtain⟨z,rfl⟩:=hb
  unfold LG at h
  dsimp only at h
  split at h
  ·cases RelA.str ra;cases RelA.str f
   exact Tv O s σ H _ _ v u Q I rx ry ⟨_,_,rfl,rfl,hq _ _ _ _ Kp.refl hc Gr h⟩
  ·exact h.elim
 ·obtain⟨d,V,E,S,P,B,h⟩:=Ro h λz e=>hb ⟨z,e⟩
  ·skip
   obtain⟨i,n,h⟩:=h
   obtain⟨U,J⟩:=Dq I hc ra rx S
   obtain⟨p,G,rfl,hp,M⟩:=Hi hc f P
   cases ry
   obtain⟨j,c2⟩:=N0 n
   have F:=M.dats B
   have hu:=N.un
   have q:=hq _ _ _ _ Kp.refl hc Gr h
   rcases hp with hp | hp
   ·obtain⟨g,r,l,hz⟩:=I.list hp
    obtain⟨L,f⟩:=Am.reads I E G g F r
    have e:=λA=>En (A:=A) J i.1
    refine SeqAt.in_listAt (Pi s.heap d) l.isList (λw C=>(e _ (by first | (show X.A.units+64 < _;omega) | (show X.A.units+1+64 < _;omega) | (show X.A.units+1+1+64 < _;omega)) f j c2).1 w (by simpa using C)) ⟨.bl _,H,I,rfl,?_⟩
    rw [show g.toArray.any (Pi s.heap d)=g.any (Pi s.heap d) by simp,(e X.A (by omega) f j c2).2]
    exact q
   ·obtain⟨g,r,l,hz⟩:=I.tuple hp
    obtain⟨L,f⟩:=Am.reads I E G g F r
    have e:=λA=>En (A:=A) J i.1
    refine SeqAt.in_tupleAt (Pi s.heap d) l (λw C=>(e _ (by first | (show X.A.units+64 < _;omega) | (show X.A.units+1+64 < _;omega) | (show X.A.units+1+1+64 < _;omega)) f j c2).1 w (by simpa using C)) ⟨.bl _,H,I,rfl,?_⟩
    rw [show g.toArray.any (Pi s.heap d)=g.any (Pi s.heap d) by simp,(e X.A (by omega) f j c2).2]
    exact q
theorem BI(N:Room k X.A):VOp X (compareOp .NotIn) (LG λb=>!b):=by
 intro O s σ H x y v u Q I rx ry zz17
 refine Ey zz17 λa b μ R ra f hc h hq=>?_
 by_cases hb:∃z,b=.D (.str z)
 ·obtain⟨z,rfl⟩:=hb
  unfold LG at h
  dsimp only at h
  split at h
  ·cases RelA.str ra;cases RelA.str f
   exact Me O s σ H _ _ v u Q I rx ry ⟨_,_,rfl,rfl,hq _ _ _ _ Kp.refl hc Gr h⟩
  ·exact h.elim
 ·obtain⟨d,V,E,S,P,B,h⟩:=Ro h λz e=>hb ⟨z,e⟩
  ·skip
   obtain⟨i,n,h⟩:=h
   obtain⟨U,J⟩:=Dq I hc ra rx S
   obtain⟨p,G,rfl,hp,M⟩:=Hi hc f P
   cases ry
   obtain⟨j,c2⟩:=N0 n
   have F:=M.dats B
   have hu:=N.un
   have q:=hq _ _ _ _ Kp.refl hc Gr h
   rcases hp with hp | hp
   ·obtain⟨g,r,l,hz⟩:=I.list hp
    obtain⟨L,f⟩:=Am.reads I E G g F r
    have e:=λA=>En (A:=A) J i.1
    refine SeqAt.notIn_listAt (Pi s.heap d) l.isList (λw C=>(e _ (by first | (show X.A.units+64 < _;omega) | (show X.A.units+1+64 < _;omega) | (show X.A.units+1+1+64 < _;omega)) f j c2).1 w (by simpa using C)) ⟨.bl _,H,I,rfl,?_⟩
    rw [show g.toArray.any (Pi s.heap d)=g.any (Pi s.heap d) by simp,(e X.A (by omega) f j c2).2]
    exact q
   ·obtain⟨g,r,l,hz⟩:=I.tuple hp
    obtain⟨L,f⟩:=Am.reads I E G g F r
    have e:=λA=>En (A:=A) J i.1
    refine SeqAt.notIn_tupleAt (Pi s.heap d) l (λw C=>(e _ (by first | (show X.A.units+64 < _;omega) | (show X.A.units+1+64 < _;omega) | (show X.A.units+1+1+64 < _;omega)) f j c2).1 w (by simpa using C)) ⟨.bl _,H,I,rfl,?_⟩
    rw [show g.toArray.any (Pi s.heap d)=g.any (Pi s.heap d) by simp,(e X.A (by omega) f j c2).2]
    exact q
def aI(C:Int->Int->Prop)(g:Int->Int->jG):A2:=λx y μ R=>match x,y with
 | .D (.int i),.D (.int j)=>C i j/\R (.D (g i j)) μ
 | _,_=>False
def HQ(g:Int->Int->jG):A2:=λx y μ R=>match x,y with
 | .D (.int i),.D (.int j)=>R (.D (g i j)) μ
 | _,_=>False
theorem NQ{f:i_->i_->Sem i_}{C:Int->Int->Prop}{g:Int->Int->V}{g':Int->Int->jG}(h:Hy X f (rI C g))(l:∀i j H,Dk X.K H (g' i j) (g i j)):VOp X f (aI C g'):=by
 intro n s σ H x y v u Q I rx ry zz20
 refine Ey zz20 λa b μ R ra rb hc h' hq=>?_
 cases a with
 | D d =>
  cases d with
  | int i =>
   cases b with
   | D e =>
    cases e with
    | int j =>
     cases RelA.int ra;cases RelA.int rb
     exact h n s σ H _ _ v u Q I rx ry ⟨_,_,rfl,rfl,h'.1,hq _ _ _ _ Kp.refl hc (Px (l _ _ _)) h'.2⟩
    | _=>exact False.elim h'
   | _=>exact False.elim h'
  | _=>exact False.elim h'
 | _=>exact False.elim h'
theorem Uf{f:i_->i_->Sem i_}{g:Int->Int->V}{g':Int->Int->jG}(h:Hy X f (Zu g))(l:∀i j H,Dk X.K H (g' i j) (g i j)):VOp X f (HQ g'):=by
 intro n s σ H x y v u Q I rx ry zz21
 refine Ey zz21 λa b μ R ra rb hc h' hq=>?_
 cases a with
 | D d =>
  cases d with
  | int i =>
   cases b with
   | D e =>
    cases e with
    | int j =>
     cases RelA.int ra;cases RelA.int rb
     exact h n s σ H _ _ v u Q I rx ry ⟨_,_,rfl,rfl,hq _ _ _ _ Kp.refl hc (Px (l _ _ _)) h'⟩
    | _=>exact False.elim h'
   | _=>exact False.elim h'
  | _=>exact False.elim h'
 | _=>exact False.elim h'
abbrev NR:A2:=aI CDiv λi j=>.int (i / j)
abbrev UG:A2:=aI (λ_ j=>0 < j) λi j=>.int (i % j)
abbrev UH:A2:=aI CPow λi j=>.int (i ^ j.toNat)
abbrev XE:A2:=HQ λi j=>.bool (decide (i < j))
abbrev XF:A2:=HQ λi j=>.bool (decide (i<=j))
abbrev XG:A2:=HQ λi j=>.bool (decide (j < i))
abbrev XH:A2:=HQ λi j=>.bool (decide (j<=i))
theorem Wq:VOp X (binaryOp .FloorDiv) NR:=NQ AH λ_ _ _=>Dj
theorem Gv:VOp X (binaryOp .Mod) UG:=NQ GL λ_ _ _=>Dj
theorem NS:VOp X (binaryOp .Pow) UH:=NQ GM λ_ _ _=>Dj
theorem BJ:VOp X (compareOp .Lt) XE:=Uf MV λ_ _ _=>Ld
theorem UI:VOp X (compareOp .LtE) XF:=Uf MW λ_ _ _=>Ld
theorem Wr:VOp X (compareOp .Gt) XG:=Uf MX λ_ _ _=>Ld
theorem HR:VOp X (compareOp .GtE) XH:=Uf MY λ_ _ _=>Ld
def UJ:A2:=λx y μ R=>match x,y with
 | .D (.int i),.D (.int j)=>CMul i j/\R (.D (.int (i * j))) μ
 | .D (.str z),.D (.int n)=>(n=0\/n=1)/\R (.D (.str (if n=0 then Str.empty else z))) μ
 | _,_=>False
theorem Jl:VOp X (binaryOp .Mult) UJ:=by
 intro f s σ H x y v u Q I rx ry zz22
 refine Ey zz22 λa b μ R ra rb hc h hq=>?_
 cases a with
 | D d =>
  cases d with
  | int i =>
   cases b with
   | D e =>
    cases e with
    | int j =>
     cases RelA.int ra;cases RelA.int rb
     exact GK f s σ H _ _ v u Q I rx ry ⟨_,_,rfl,rfl,h.1,hq _ _ _ _ Kp.refl hc Cr h.2⟩
    | _=>exact False.elim h
   | _=>exact False.elim h
  | str z =>
   cases b with
   | D e =>
    cases e with
    | int j =>
     cases RelA.str ra;cases RelA.int rb
     exact Mj f s σ H _ _ v u Q I rx ry ⟨_,_,rfl,rfl,h.1,hq _ _ _ _ Kp.refl hc Ml h.2⟩
    | _=>exact False.elim h
   | _=>exact False.elim h
  | _=>exact False.elim h
 | _=>exact False.elim h
def UK:A2:=λx y μ R=>match x,y with
 | .D (.int i),.D (.int j)=>R (.D (.int (i+j))) μ
 | .D (.str i),.D (.str j)=>i.length+j.length<=sizeLine/\R (.D (.str (i++j))) μ
 | .D (.tuple i),.D (.tuple j)=>i.length+j.length<=sizeLine/\R (.D (.tuple (i++j))) μ
 | .R i,.R j=>opt (μ i) λm=>opt (μ j) λn=>match m,n with
  | .lst d,.lst f=>d.length+f.length<=sizeLine/\∀p,μ p=none->R (.R p) (An μ p (.lst (d++f)))
  | _,_=>False
 | _,_=>False
theorem UL{K:jI}{R:List (jH×jO)}{σ:St}{H:Hp}{s:jA}{v u:i_}{x y:V}{ds es:List jG}{Q:VK}(hK:X.K=K)(I:Inv X R σ H s)(rx:Bi x v)(ry:Bi y u)(hx:Dk K H (.tuple ds) x)(hy:Dk K H (.tuple es) y)
  (hz:ds.length+es.length<=sizeLine) (q:∀z H',Kp H H'->(∀ μ,Cn K μ H->Cn K μ H')->Dk K H' (.tuple (ds++es)) z->Q z H'):wpAny (model X.prog X.w) X.A (binaryOp .Add v u) (EP X R σ Q) X.xe s:=by
 subst hK
 obtain⟨a,M,rfl,ha,f⟩:=hx.tup
 obtain⟨b,P,rfl,hb,g⟩:=hy.tup
 cases rx
 cases ry
 obtain⟨ae,h,U,_⟩:=I.tuple ha.sq
 obtain⟨d,j,E,_⟩:=I.tuple hb.sq
 have B:=f.length
 have i:=g.length
 by_cases hv:M=[]
 ·subst hv
  have e:ae=[]:=h.nil_iff.mpr rfl
  subst e
  have C:ds=[]:=fK.mp B.symm
  subst C
  obtain⟨⟨Z,dd,F,Y⟩,G,hc,n,L⟩:=id U
  obtain⟨⟨N,D,data2,nq⟩,S,J,W,O⟩:=id E
  simp only at hc L J O
  subst hc L J O
  exact concat_meets ⟨_,G,rfl⟩ ⟨_,S,rfl⟩ iM seq_tuple_add fN fJ (fB _ _)
   (tuple_addW0 a b [].toArray d.toArray n W dd D Y nq rfl) ⟨G,S,.ref b,H,I,rfl,q _ _ Kp.refl (λ_ c=>c) (by simpa using hy)⟩
 ·refine HT.cat_tup U E (λz=>hv (h.nil_iff.mp z)) (λz=>⟨.ref a,H,I,rfl,q _ _ Kp.refl (λ_ c=>c) ?_⟩) (λz=>?_) (by rw [<- h.length,<- j.length,B,i];exact hz)
  ·have e:P=[]:=j.nil_iff.mp z
   subst e
   have C:es=[]:=fK.mp i.symm
   subst C
   simpa using hx
  ·have l:=I.hok.fresh (I_ s.heap.objs.size)
   refine⟨.ref s.heap.objs.size,_,I.laid (t':=s.toks) (o:=.tup (M++P)) (λb ob q=>DD _ q) (I_ _) ?_,rfl,q _ _ (Kp.new l _) (λ_ c=>c.over l) ?_⟩
   ·exact⟨by rw [L_,B,i];exact hz,_,h.append j,IsTup.new _ _⟩
   ·exact Hc Bo (Am.kp (Kp.new l _) _ _ (f.append g))
theorem Cc:VOp X (binaryOp .Add) UK:=by
 intro g s σ H x y v u Q I rx ry zz23
 refine Ey zz23 λa b μ R ra rb hc h hq=>?_
 cases a with
 | D d =>
  cases d with
  | int i =>
   cases b with
   | D e =>
    cases e with
    | int j =>
     cases RelA.int ra;cases RelA.int rb
     exact GJ g s σ H _ _ v u Q I rx ry ⟨_,_,rfl,rfl,hq _ _ _ _ Kp.refl hc Cr h⟩
    | _=>exact False.elim h
   | _=>exact False.elim h
  | str z =>
   cases b with
   | D e =>
    cases e with
    | str j =>
     cases RelA.str ra;cases RelA.str rb
     exact Pp g s σ H _ _ v u Q I rx ry ⟨_,_,rfl,rfl,h.1,hq _ _ _ _ Kp.refl hc Ml h.2⟩
    | _=>exact False.elim h
   | _=>exact False.elim h
  | tuple G =>
   cases b with
   | D e =>
    cases e with
    | tuple es=>exact UL rfl I rx ry ra rb h.1 λz H' S c B=>hq _ _ _ _ S (c _ hc) (Px B) h.2
    | _=>exact False.elim h
   | _=>exact False.elim h
  | _=>exact False.elim h
 | R i =>
  cases b with
  | R j =>
   obtain⟨m,A,h⟩:=A6 h
   obtain⟨n,C,h⟩:=A6 h
   cases m with
   | lst J =>
    cases n with
    | lst L =>
     cases (show x=.ref i from ra);cases (show y=.ref j from rb)
     obtain⟨o,w,F,rfl,q⟩:=hc i _ A
     obtain⟨o',l,E,rfl,f⟩:=hc j _ C
     exact HA g s σ H _ _ v u Q I rx ry ⟨i,j,F,E,rfl,rfl,w,l,by rw [<- q.length,<- f.length];exact h.1,λp hp=>hq _ _ _ _ (Kp.new hp _) (hc.new hp (Cs (q.append f))) Dt (h.2 p (hc.none hp))⟩
    | _=>exact False.elim h
   | _=>exact False.elim h
  | _=>exact False.elim h
 | _=>exact False.elim h
def LH:A2:=λx y μ R=>match x,y with
 | .D (.str z),.D (.int i)=>z.length<=sizeLine/\opt (atI z.cps.toList i) λc=>R (.D (.str ⟨#[c]⟩)) μ
 | .D (.tuple f),.D (.int i)=>opt (atI f i) λd=>R (.D d) μ
 | .D (.list f),.D (.int i)=>opt (atI f i) λd=>R (.D d) μ
 | .R a,.D (.int i)=>opt (μ a) λm=>match m with
  | .lst g=>opt (atI g i) λw=>R w μ
  | _=>False
 | _,_=>False
theorem BK{x y:AV}{μ:M}{R:AV->M->Prop}(h:LH x y μ R):∃i,y=.D (.int i):=by
 have f:(∀d,LH (.D d) y μ R->False)->(∀a,LH (.R a) y μ R->False)->False:=λh1 h2=>by
  cases x with
  | D d=>exact h1 d h
  | R a=>exact h2 a h
  | _=>exact h
 cases y with
 | D e =>
  cases e with
  | int i=>exact⟨i,rfl⟩
  | _=>exact(f (λd q=>by cases d <;> exact q) λa q=>q).elim
 | _=>exact(f (λd q=>by cases d <;> exact q) λa q=>q).elim
theorem A7:VIx X LH:=by
 intro g f q s σ H x y v u Q I rx ry zq hs
 refine Ey zq λa b μ R ra rb hc h hq=>?_
 obtain⟨i,rfl⟩:=BK h
 cases RelA.int rb
 cases a with
 | D d =>
  cases d with
  | str z =>
   cases RelA.str ra
   obtain⟨h1,h⟩:=h
   obtain⟨c,e,h⟩:=A6 h
   exact GY g f q s σ H _ _ v u Q I rx ry ⟨_,_,_,rfl,rfl,h1,e,hq _ _ _ _ Kp.refl hc Ml h⟩ hs
  | tuple G =>
   obtain⟨d,A,h⟩:=A6 h
   obtain⟨p,B,rfl,hp,j⟩:=RelA.tup ra
   obtain⟨z,l,n⟩:=j.atI A
   exact GX g f q s σ H _ _ v u Q I rx ry ⟨_,_,_,_,rfl,rfl,hp.sq,l,hq _ _ _ _ Kp.refl hc (Px n) h⟩ hs
  | list G =>
   obtain⟨d,A,h⟩:=A6 h
   obtain⟨p,B,rfl,hp,j⟩:=RelA.lst ra
   obtain⟨z,l,n⟩:=j.atI A
   exact Rj g f q s σ H _ _ v u Q I rx ry ⟨_,_,_,_,rfl,rfl,hp.sq,l,hq _ _ _ _ Kp.refl hc (Px n) h⟩ hs
  | _=>exact False.elim h
 | R a =>
  obtain⟨m,C,h⟩:=A6 h
  cases m with
  | lst J =>
   obtain⟨w,F,h⟩:=A6 h
   obtain⟨o,E,B,rfl,j⟩:=hc _ _ C
   cases (show x=.ref _ from ra)
   obtain⟨z,l,n⟩:=j.atI F
   exact Rj g f q s σ H _ _ v u Q I rx ry ⟨_,_,_,_,rfl,rfl,Fa.of E,l,hq _ _ _ _ Kp.refl hc n h⟩ hs
  | _=>exact False.elim h
 | _=>exact False.elim h
theorem Ap{r:A2}(d:VIx X r)(ha:VE X a ta)(hb:VE X b tb)(hs:Ri b:=by intro _ _;rfl):VE X (.Subscript a b pos) (HN r ta tb):=(NE d ha hb hs).imp λ_ _ _ h=>Mo h
def BL:AO:=λ_ μ R=>R none μ
def NT(t:AE):AO:=fun τ μ R=>t τ μ λx μ1=>match x with
 | .D (.int i)=>R (some i) μ1
 | _=>False
theorem Fv:VO X none BL:=AM.imp fun σ H Q zz24=>B9 zz24 fun τ μ R hs hc h hq=>hq _ _ _ Kp.refl hc h
theorem Fw(h:VE X a ta):VO X (some a) (NT ta):=(AN h).imp fun σ H Q zz25=>B9 zz25 fun τ μ R d hc h hq=>⟨τ,μ,_,d,hc,h,λx μ1 v H1 S1 c1 rx hx=>by
 split at hx
 ·cases RelA.int rx
  exact⟨_,rfl,hq _ _ _ S1 c1 hx⟩
 ·exact hx.elim⟩
def UM(x:AV)(lo d:Option Int):M->(AV->M->Prop)->Prop:=fun μ R=>match x with
 | .D (.str z)=>z.length<=sizeLine/\R (.D (.str (Txt.slice z lo d))) μ
 | .D (.tuple g)=>R (.D (.tuple (Wh g lo d))) μ
 | .C _=>False
 | x=>opt (items μ x) λf=>∀p,μ p=none->R (.R p) (An μ p (.lst (Wm f lo d)))
def XI(K:jI):V->Option Int->Option Int->Hp->VK->Prop:=λx lo d H Q=>∃a μ R,RelA K H a x/\Cn K μ H/\UM a lo d μ R/\LV K H R Q
theorem UN:NC X (XI X.K):=by
 intro j s σ H x v vl vu lo hi sl Q I rx hs pl pu ⟨a,μ,R,f,hc,h,hq⟩
 unfold UM at h
 split at h
 ·cases RelA.str f
  exact HI j s σ H _ v vl vu lo hi sl Q I rx hs pl pu ⟨_,rfl,h.1,hq _ _ _ _ Kp.refl hc Ml h.2⟩
 ·rename_i g
  by_cases l:HT.sIx g.length 0 lo=0/\HT.sIx g.length g.length hi=g.length
  ·obtain⟨a,i,rfl,ha,hx⟩:=RelA.tup f
   cases rx
   obtain⟨q,r,d,hz⟩:=I.tuple ha.sq
   have w:q.toArray.size=g.length:=by rw [YQ,<- r.length,hx.length]
   refine⟨"tuple",_,aN.lookup,d.typeIs,?_⟩
   refine HT.getItem_tuple_all d hs pl pu (by rw [w];exact l) ⟨.ref a,H,I,rfl,hq _ _ _ _ Kp.refl hc ?_ h⟩
   rw [Wj l]
   exact f
  ·obtain⟨a,i,rfl,ha,hx⟩:=RelA.tup f
   refine GW j s σ H (.ref a) v vl vu lo hi sl Q I rx hs pl pu ⟨a,i,rfl,ha.sq,by rw [hx.length];exact l,λp hp=>?_⟩
   exact hq _ _ _ _ (Kp.new hp _) (hc.over hp) (Wl Bo (Am.kp (Kp.new hp _) _ _ (hx.cut lo hi))) h
 ·exact h.elim
 ·rename_i A u z
  obtain⟨i,y,h⟩:=A6 h
  ·obtain⟨p,B,rfl,hp,n⟩:=Ca hc f y
   rcases hp with⟨_,hp⟩ | ⟨d,hp⟩
   ·exact AQ j s σ H _ v vl vu lo hi sl Q I rx hs pl pu ⟨_,_,rfl,hp,λp hp=>hq _ _ _ _ (Kp.new hp _) (hc.new hp (Cs (n.cut lo hi))) Dt (h p (hc.none hp))⟩
   ·exfalso
    unfold EH at d
    split at d
    ·exact u _ rfl
    ·exact z _ rfl
    ·cases d
def XJ(te:AE)(d f:AO):AE:=fun τ μ R=>te τ μ λx μ1=>d τ μ1 λl μ2=>f τ μ2 λu μ3=>UM x l u μ3 R
theorem Eo{lo j:Option jL}{i g:AO}{n:Pos}(he:VE X a ta)(d:VO X lo i)(hu:VO X j g):VE X (.Subscript a (.Slice lo j none n) pos) (XJ ta i g) :=
 (V0 UN he d hu).imp fun σ H Q zz26=>B9 zz26 fun τ μ R f hc h hq=>⟨τ,μ,_,f,hc,h,λx μ1 v H1 S1 s rx hx=>⟨τ,μ1,_,f.kp S1,s,hx,λl μ2 H2 S2 c2 d=>⟨τ,μ2,_,f.kp (S1.trans S2),c2,d,λu μ3 H3 S3 q hu =>
  ⟨x,μ3,R,rx.kp (S2.trans S3),q,hu,hq.kp (S1.trans (S2.trans S3))⟩⟩⟩⟩
def UO(r:AC)(t:AA):AE:=fun τ μ R=>t τ μ λd μ1=>r d μ1 R
theorem Rp{K:jI}{n:Nat}{r:AC}{t:AA}{σ:St}{H:Hp}{Q:VK}(h:cE K (UO r t) σ H Q):TR (cC K r) (cA K n t) σ H Q:=by
 obtain⟨τ,μ,R,g,hc,h,hq⟩:=h
 exact⟨τ,μ,_,g,hc,h,λf μ1 vs H1 S1 i d hl hx=>⟨f,μ1,R,d,i,hx,hq.kp S1⟩⟩
theorem Ba(hc:VCall X (.builtin kf) r)(d:Gl X x)(g:X.mg x=none)(hv:bootBuiltins x=some (.builtin kf))(ha:VA X (e :: es) t)(f:x ≠ "__name__" := by decide) (j:(x==("__debug__" : Str))=false:=by decide)
  (i:starEach (e :: es) X.env=(false,eval e X.env) :: starEach es X.env:=by rfl) (hpl:(backTo pos (starEach es X.env)).any (·.1)=false:=by rfl):VE X (.Call (.Name x p) (e :: es) [] pos) (UO r t) :=
 (Vy hc d g hv ha f j i hpl).imp λ_ _ _ h=>Rp h
theorem Bu(hc:VCall X (.type T) r)(d:Gl X x)(g:X.mg x=none)(hv:bootBuiltins x=some (.type T))(ha:VA X (e :: es) t)(f:x ≠ "__name__" := by decide) (j:(x==("__debug__" : Str))=false:=by decide)
  (i:starEach (e :: es) X.env=(false,eval e X.env) :: starEach es X.env:=by rfl) (hpl:(backTo pos (starEach es X.env)).any (·.1)=false:=by rfl):VE X (.Call (.Name x p) (e :: es) [] pos) (UO r t) :=
 (Tz hc d g hv ha f j i hpl).imp λ_ _ _ h=>Rp h
def NU:AC:=λg μ R=>match g with
 | [.D (.str z)]=>z.length<=sizeLine/\R (.D (.int z.length)) μ
 | [.D (.tuple f)]=>R (.D (.int f.length)) μ
 | [.D (.list f)]=>R (.D (.int f.length)) μ
 | [.R a]=>opt (μ a) λm=>match m with
  | .lst h=>R (.D (.int h.length)) μ
  | .dk d=>R (.D (.int d.length)) μ
  | _=>False
 | _=>False
theorem Da:VCall X (.builtin "len") NU:=by
 intro i s σ H xs us Q I r zz27
 refine B9 zz27 λF μ R ra hc h hq=>?_
 have E:∀{y:AV} {t:List AV} {x:AV},NU (x :: y :: t) μ R->False:=λ{y t x} q=>by
  cases x with
  | D d=>cases d <;> exact q
  | _=>exact q
 cases ra with
 | nil=>exact False.elim h
 | @cons x v J u j A =>
  cases A with
  | cons _ _=>exact(E h).elim
  | nil =>
   cases x with
   | D d =>
    cases d with
    | str z =>
     cases RelA.str j
     exact Mf i s σ H _ us Q I r ⟨_,rfl,h.1,hq _ _ _ _ Kp.refl hc Cr h.2⟩
    | tuple B =>
     obtain⟨p,g,rfl,hp,f⟩:=RelA.tup j
     refine E1 i s σ H _ us Q I r ⟨p,g,rfl,.inr hp.sq,hq _ _ _ _ Kp.refl hc ?_ h⟩
     rw [f.length];exact Cr
    | list B =>
     obtain⟨p,g,rfl,hp,f⟩:=RelA.lst j
     refine E1 i s σ H _ us Q I r ⟨p,g,rfl,.inl hp.sq,hq _ _ _ _ Kp.refl hc ?_ h⟩
     rw [f.length];exact Cr
    | _=>exact False.elim h
   | R a =>
    obtain⟨m,w,h⟩:=A6 h
    cases (show _=V.ref _ from j)
    obtain⟨o,l,n⟩:=hc _ _ w
    cases m with
    | lst G =>
     obtain⟨g,rfl,f⟩:=n
     refine E1 i s σ H _ us Q I r ⟨_,g,rfl,.inl (Fa.of l),hq _ _ _ _ Kp.refl hc ?_ h⟩
     rw [f.length];exact Cr
    | dk C =>
     obtain⟨g,rfl,f⟩:=n
     refine Ud i s σ H _ us Q I r ⟨_,g,rfl,l,hq _ _ _ _ Kp.refl hc ?_ h⟩
     rw [ZZ f];exact Cr
    | _=>exact False.elim h
   | _=>exact False.elim h
def Mp:AC:=λf μ R=>match f with
 | [.D (.tuple d)]=>R (.D (.tuple d)) μ
 | [.C _]=>False
 | [y]=>opt (items μ y) λg=>opt (dats g) λd=>R (.D (.tuple d)) μ
 | _=>False
theorem Py{x:AV}{t:List AV}{μ:M}{R:AV->M->Prop}(h:Mp (x :: t) μ R):t=[]:=by
 cases t with
 | nil=>rfl
 | cons y t =>
  refine False.elim ?_
  cases x with
  | D d=>cases d <;> exact h
  | _=>exact h
theorem Ug{x:AV}{μ:M}{R:AV->M->Prop}(f:EH x=false)(h:Mp [x] μ R):opt (items μ x) λi=>opt (dats i) λg=>R (.D (.tuple g)) μ:=by
 cases x with
 | D d=>cases d <;> first | exact h | cases f
 | C g=>cases f
 | _=>exact h
theorem Wu{x:AV}{μ:M}{R:AV->M->Prop}(g:EH x=true)(h:Mp [x] μ R):∃f,x=.D (.tuple f)/\R (.D (.tuple f)) μ:=by
 cases x with
 | D d =>
  cases d with
  | tuple f=>exact⟨f,rfl,h⟩
  | _=>cases g
 | C f=>exact False.elim h
 | _=>cases g
theorem Cp:VCall X (.type "tuple") Mp:=by
 intro j s σ H xs us Q I r zz28
 refine B9 zz28 λD μ R ra hc h hq=>?_
 cases ra with
 | nil=>exact False.elim h
 | @cons y v B q g w =>
  have z:=Py h
  subst z
  cases w
  cases ht:EH y with
  | true =>
   obtain⟨C,rfl,h⟩:=Wu ht h
   obtain⟨p,f,rfl,hp,i⟩:=RelA.tup g
   exact Gb j s σ H _ us Q I r ⟨p,f,rfl,.inr ⟨hp.sq,hq _ _ _ _ Kp.refl hc g h⟩⟩
  | false =>
   obtain⟨E,u,h⟩:=A6 (Ug ht h)
   obtain⟨C,A,h⟩:=A6 h
   obtain⟨p,f,rfl,hp,i⟩:=Ca hc g u
   rcases hp with⟨_,hp⟩ | ⟨n,_⟩
   ·exact Gb j s σ H _ us Q I r ⟨p,f,rfl,.inl ⟨hp,λl d=>hq _ _ _ _ (Kp.new d _) (hc.over d) (Wl Bo (Am.kp (Kp.new d _) _ _ (i.dats A))) h⟩⟩
   ·rw [ht]at n;cases n
def EI:AC:=λf μ R=>match f with
 | [y]=>opt (items μ y) λd=>∀p,μ p=none->R (.R p) (An μ p (.lst d))
 | _=>False
theorem HS:VCall X (.type "list") EI:=by
 intro q s σ H xs us Q I r zz29
 refine B9 zz29 λu μ R ra hc h hq=>?_
 unfold EI at h
 split at h
 ·cases ra with
  | cons j i =>
   cases i
   obtain⟨v,g,h⟩:=A6 h
   obtain⟨p,n,rfl,hp,f⟩:=Hi hc j g
   exact Mh q s σ H _ us Q I r ⟨p,n,rfl,hp,λl d=>hq _ _ _ _ (Kp.new d _) (hc.new d (Cs (f))) Dt (h l (hc.none d))⟩
 ·exact h.elim
def bools:List AV->Option (List Bool)
 | []=>some []
 | .D (.bool b) :: r=>match bools r with
  | some d=>some (b :: d)
  | none=>none
 | _ :: _=>none
theorem Li:∀(d:List Bool),bools (d.map λb=>.D (.bool b))=some d
 | []=>rfl
 | b :: d=>by simp only [List.map_cons,bools,Li d]
theorem A3.bools{K:jI}{H:Hp}{xs:List AV}{g:List V}{f:List Bool}(h:A3 K H xs g)(e:L2.bools xs=some f):g=f.map V.bl:=by
 induction h generalizing f with
 | nil=>cases e;rfl
 | @cons x v xs g r t i =>
  cases x with
  | D d =>
   cases d with
   | bool b =>
    simp only [L2.bools]at e
    cases q:L2.bools xs with
    | none=>rw [q]at e;cases e
    | some j=>rw [q]at e;cases e;cases RelA.bl r;rw [i q];rfl
   | _=>simp [L2.bools]at e
  | _=>simp [L2.bools]at e
def HU:AC:=λd μ R=>match d with
 | [.R a]=>opt (μ a) λm=>match m with
  | .lst f=>opt (bools f) λg=>R (.D (.bool (g.all id))) μ
  | _=>False
 | _=>False
theorem NV(u:X.calm=true):VCall X (.builtin "all") HU:=by
 intro g s σ H xs us Q I r zz30
 refine B9 zz30 λv μ R ra hc h hq=>?_
 unfold HU at h
 split at h
 ·cases ra with
  | cons n j =>
   cases j
   obtain⟨m,f,h⟩:=A6 h
   split at h
   ·obtain⟨i,q,h⟩:=A6 h
    obtain⟨o,l,w,rfl,d⟩:=hc _ _ f
    cases (show _=V.ref _ from n)
    exact Wg u g s σ H _ us Q I r ⟨_,i,rfl,Fa.of (by rw [l,d.bools q]),hq _ _ _ _ Kp.refl hc Gr h⟩
   ·exact h.elim
 ·exact h.elim
def EJ:AC:=λd μ R=>match d with
 | [.D (.int i),.D (.int j)]=>R (.D (.int (if j > i then j else i))) μ
 | _=>False
def EK:AC:=λd μ R=>match d with
 | [.D (.int i),.D (.int j)]=>R (.D (.int (if j < i then j else i))) μ
 | _=>False
theorem HV(j:X.calm=true):VCall X (.builtin "max") EJ:=by
 intro i s σ H xs us Q I r zz31
 refine B9 zz31 λl μ R ra hc h hq=>?_
 unfold EJ at h
 split at h
 ·cases ra with
  | cons g d =>
   cases d with
   | cons d f =>
    cases f
    cases RelA.int g;cases RelA.int d
    exact Tw j i s σ H _ us Q I r ⟨_,_,rfl,hq _ _ _ _ Kp.refl hc Cr h⟩
 ·exact h.elim
theorem HW(j:X.calm=true):VCall X (.builtin "min") EK:=by
 intro i s σ H xs us Q I r zz32
 refine B9 zz32 λl μ R ra hc h hq=>?_
 unfold EK at h
 split at h
 ·cases ra with
  | cons g d =>
   cases d with
   | cons d f =>
    cases f
    cases RelA.int g;cases RelA.int d
    exact Tx j i s σ H _ us Q I r ⟨_,_,rfl,hq _ _ _ _ Kp.refl hc Cr h⟩
 ·exact h.elim
def N1(μ:M):AV->Prop
 | .R a=>opt (μ a) λm=>match m with
  | .lst _=>True
  | _=>False
 | .D (.list _)=>True
 | _=>False
theorem N1.ty{H:Hp}{μ:M}{x:AV}{v:V}(hc:Cn X.K μ H)(d:RelA X.K H x v)(h:N1 μ x):SQ X.K "list" v H:=by
 unfold N1 at h
 split at h
 ·obtain⟨m,e,h⟩:=A6 h
  split at h
  ·obtain⟨o,f,i,rfl,_⟩:=hc _ _ e
   cases (show v=.ref _ from d)
   exact .inl ⟨rfl,i,Fa.of f⟩
  ·exact h.elim
 ·obtain⟨a,g,rfl,q,_⟩:=RelA.lst d
  exact .inl ⟨rfl,g,q.sq⟩
 ·exact h.elim
def XL(m:AV->AC)(to:AE)(t:AA):AE:=fun τ μ R=>to τ μ λx μ1=>N1 μ1 x/\t τ μ1 λd μ2=>m x d μ2 R
theorem Eb(slot:Slot "list" name kf) (l:typeOf (.builtin kf)=pure (.type "method_descriptor")) (s:VMt X kf m) (q:VE X o to) (ha:VA X (e :: es) t)
  (j:attributeBase o name X.env (eval o X.env)=eval o X.env:=by rfl)
  (w:((backTo am (starEach (e :: es) X.env)).all (λx=>!x.1) && (backToKw am (keywordEach [] X.env)).all (λx=>x.1.isSome)
   && decide ((e :: es).length+([]:List Keyword).length+(if([]:List Keyword).isEmpty then 0 else 1) < 30))=true:=by rfl)
  (u:(aq.endLine==am.line)=true:=by rfl) (hs:starEach (e :: es) X.env=(false,eval e X.env) :: starEach es X.env:=by rfl) (n:(backTo am (starEach es X.env)).any (·.1)=false:=by rfl) :
  VE X (.Call (.Attribute o name aq) (e :: es) [] am) (XL m to t) :=
 (NG PySem.F.plainAttrs_list slot l s q ha j w u hs n).imp fun σ H Q zz34=>B9 zz34 fun τ μ R hs hc h hq=>⟨τ,μ,_,hs,hc,h,λx μ1 v H1 S1 f rx hx=>⟨hx.1.ty f rx,τ,μ1,_,hs.kp S1,f,hx.2,λi μ2 vs H2 S2 c2 g hl d =>
  ⟨x,i,μ2,R,rx.kp S2,g,c2,d,hq.kp (S1.trans S2)⟩⟩⟩
def Mq:AV->AC:=λx f μ R=>match x,f with
 | .R a,[y]=>opt (μ a) λm=>match m with
  | .lst d=>d.length < sizeLine/\R (.D .none) (An μ a (.lst (d++[y])))
  | _=>False
 | _,_=>False
theorem Dg:VMt X "list.append" Mq:=by
 intro g s σ H x xs v us Q I rx r zz36
 refine Ey zz36 λa q μ R ra rs hc h hq=>?_
 unfold Mq at h
 split at h
 ·rename_i a y
  obtain⟨m,i,h⟩:=A6 h
  split at h
  ·cases rs with
   | cons n j =>
    cases j
    obtain⟨o,d,l,rfl,f⟩:=hc _ _ i
    cases (show x=.ref a from ra)
    exact K9 g s σ H _ _ v us Q I rx r ⟨a,l,_,rfl,rfl,d,by rw [<- f.length];exact h.1,hq _ _ _ _ (Kp.put d trivial _) (hc.put d trivial (Cs (f.append (.cons n .nil)))) Mm h.2⟩
  ·exact h.elim
 ·exact h.elim
def Rr:AV->AC:=λx g μ R=>match x,g with
 | .R a,[.R b]=>opt (μ a) λm=>opt (μ b) λn=>match m,n with
  | .lst f,.lst d=>f.length+d.length<=sizeLine/\R (.D .none) (An μ a (.lst (f++d)))
  | _,_=>False
 | _,_=>False
theorem Ep:VMt X "list.extend" Rr:=by
 intro l s σ H x xs v us Q I rx r zz37
 refine Ey zz37 λa A μ R ra rs hc h hq=>?_
 unfold Rr at h
 split at h
 ·rename_i a b
  obtain⟨m,q,h⟩:=A6 h
  obtain⟨n,j,h⟩:=A6 h
  split at h
  ·cases rs with
   | cons z u =>
    cases u
    obtain⟨o,f,y,rfl,i⟩:=hc _ _ q
    obtain⟨o',g,w,rfl,d⟩:=hc _ _ j
    cases (show x=.ref a from ra)
    cases (show _=V.ref b from z)
    exact T7 l s σ H _ _ v us Q I rx r ⟨a,b,y,w,rfl,rfl,f,g,by rw [<- i.length,<- d.length];exact h.1,hq _ _ _ _ (Kp.put f trivial _) (hc.put f trivial (Cs (i.append d))) Mm h.2⟩
  ·exact h.elim
 ·exact h.elim
end
section
variable {X:Cx}{a b c:jL}{ta tb tc:AE}{pos:Pos}{x:Str}{p:Pos}{e:jL}{es:List jL}{t:AA}{k:Nat}{ps:List Str}{sp:ASp}{st:jP}{rest:List jP}{s1 s2:AS}{tg:jL}{N':List Str}{mp:List (Option Nat)}{dq iter:jL}{cy:List jL}{scope:jS}{wi:AI}{g:AG}{tst:AT}{te:AE}{P:jJ}{w:jK}{K:jI}{mg:Str->Option i_}{base:jN}
abbrev ASp:=List AV->M->(AV->M->Prop)->Prop
def Fg(K:jI)(n:Nat)(sp:ASp):Sp:=λf H Q _=>∃d μ R,d.length=n/\A3 K H d f/\Cn K μ H/\sp d μ R/\LV K H R Q
def VCal(P:jJ)(w:jK)(K:jI)(mg:Str->Option i_)(base:jN)(k:Nat)(x:Str)(ps:List Str)(sp:ASp):Prop:=Cal P w K mg base k x ps (Fg K ps.length sp)
def EL(n:Nat)(sp:ASp)(t:AA):AE:=fun τ μ R=>t τ μ λd μ1=>sp d μ1 R
theorem Ak(F:VCal X.prog X.w X.K X.mg X.base k x ps sp)(l:Room k X.A)(d:Gl X x)(ha:VA X (e :: es) t)(i:(e :: es).length=ps.length:=by rfl)(hdb:(x==("__debug__" : Str))=false:=by decide)
  (n:starEach (e :: es) X.env=(false,eval e X.env) :: starEach es X.env:=by rfl) (hpl:(backTo pos (starEach es X.env)).any (·.1)=false:=by rfl):VE X (.Call (.Name x p) (e :: es) [] pos) (EL ps.length sp t):=by
 obtain⟨g,s,G,q,o,m⟩:=F
 refine PE.imp (Rf (E:=E0) G l d m o q .nil EG ha (hdb:=hdb) (he:=n) (hpl:=hpl)) fun σ H Q zz41=>B9 zz41 fun τ μ R j hc h hq=>?_
 exact⟨τ,μ,_,j,hc,h,λf μ1 vs H1 S1 r rs hn hx=>⟨f,μ1,R,hn.trans i,by rw [aY];exact rs,r,hx,hq.kp S1⟩⟩
def NW:AS:=λk _ _ _ τ μ=>k τ μ
def Wv(t u:AS):AS:=λk r b c τ μ=>t (u k r b c) r b c τ μ
theorem B1:VSs X [] NW:=Z6.imp λD σ H zz43=>Im zz43 fun τ μ nk nr nb nc hs hc h hq=>hq.nx _ _ _ _ Kp.refl hs hc h
theorem Ae(h1:VS X st s1)(h2:VSs X rest s2):VSs X (st :: rest) (Wv s1 s2):=(Vq h1 h2).imp λD σ H zz44=>Im zz44 fun τ μ d nr m i l hc h hq =>
 ⟨τ,μ,_,_,_,_,l,hc,h,⟨fun τ' μ' σ' H' S' n f j=>⟨τ',μ',d,nr,m,i,n,f,j,hq.kp S'⟩,hq.rt,hq.bk,hq.ct⟩⟩
theorem Aj(h1:VS X st s1):VSs X [st] s1:=Z7 h1
def NX(te:AE):AS:=λk _ _ _ τ μ=>te τ μ λ_ μ1=>k τ μ1
theorem B2(he:VE X a ta)(hs:swapsWith a none pos.line X.env=pure false:=by rfl):VS X (.Expr a pos) (NX ta):=(Z8 he hs).imp λD σ H zz48=>Im zz48 fun τ μ nk nr nb nc hs hc h hq =>
 ⟨τ,μ,_,hs,hc,h,λx μ1 v H1 S1 c1 rx hx=>hq.nx _ _ _ _ S1 (hs.kp S1) c1 hx⟩
def UP(te:AE):AS:=λ_ r _ _ τ μ=>te τ μ r
theorem Be(he:VE X a ta):VS X (.Return (some a) pos) (UP ta):=(GC he).imp λD σ H zz49=>Im zz49 fun τ μ nk nr nb nc d hc h hq=>⟨τ,μ,_,d,hc,h,hq.rt⟩
def UQ(ct:AT)(t u:AS):AS:=λk r b c τ μ=>ct τ μ λx μ1=>brP x (t k r b c τ μ1) (u k r b c τ μ1)
theorem Db{c:jL}{a b:List jP}{tc:AT}(hc:VT X c tc)(ha:VSs X a s1)(hb:VSs X b s2):VS X (.If c a b pos) (UQ tc s1 s2):=(MP hc ha hb).imp λD σ H zz51=>Im zz51 fun τ μ i nr l j d hc h hq =>
 ⟨τ,μ,_,d,hc,h,λk μ1 H1 S1 m hk=>by
  rcases br_e hk with⟨rfl,f⟩ | ⟨rfl,f⟩
  ·exact⟨τ,μ1,i,nr,l,j,d.kp S1,m,f,hq.kp S1⟩
  ·exact⟨τ,μ1,i,nr,l,j,d.kp S1,m,f,hq.kp S1⟩⟩
def HX:AS:=λ_ _ _ _ _ _=>False
theorem Ww:VS X st HX:=Vr.imp λD σ H zz52=>Im zz52 fun τ μ nk nr nb nc hs hc h hq=>h.elim
def Dh(i:Nat):AG:=λv τ μ R=>R (τ.set i (some v)) μ
theorem Ai{i:Nat}{x:Str}(d:X.N.Nodup)(f:X.N[i]?=some x)(hx:Loc X.env.scope x)(j:X.fn x=true\/X.env.scope.names.lookup x=some .local:=by first | exact .inl rfl | exact .inr rfl | assumption):VG X (.Name x pos) (Dh i) :=
 (Z9 d f hx j).imp λv σ H Q zz54=>Ey zz54 λx τ μ R rx hs hc h hq=>hq _ _ _ _ Kp.refl (hs.set rx i) hc h
def N3:AGs:=λd τ μ R=>match d with
 | []=>R τ μ
 | _ :: _=>False
def Ec(t:AG)(u:AGs):AGs:=λd τ μ R=>match d with
 | []=>False
 | v :: r=>t v τ μ fun τ' μ'=>u r τ' μ' R
theorem B0:VGs X [] N3:=AB.imp λd σ H Q zz55=>Ey zz55 λf τ μ R rx hs hc h hq=>by
 cases rx with
 | nil=>exact⟨rfl,hq _ _ _ _ Kp.refl hs hc h⟩
 | cons=>exact h.elim
theorem Aq{e:jL}{es:List jL}{t:AG}{u:AGs}(h1:VG X e t)(h2:VGs X es u)
  (hs:(assignEach (e :: es) X.env).map (·.2)=assign e X.env :: (assignEach es X.env).map (·.2):=by rfl):VGs X (e :: es) (Ec t u):=(Vt h1 h2 hs).imp λn σ H Q zz56=>Ey zz56 λm τ μ R rx hs hc h hq=>by
 cases rx with
 | nil=>exact h.elim
 | cons l i=>exact⟨_,_,rfl,_,τ,μ,_,l,hs,hc,h,fun τ' μ' σ' H' S' f d j=>⟨_,τ',μ',R,A3.kp S' i,f,d,j,hq.kp S'⟩⟩
def NY(n:Nat)(t:AGs):AG:=λv τ μ R=>match v with
 | .D (.tuple d)=>d.length=n/\t (d.map .D) τ μ R
 | _=>False
theorem Dl{es:List jL}{k:Nat}{t:AGs}{n:Nat}(l:X.calm=true)(h:VGs X es t)
  (f:(assignEach es X.env).length=n:=by rfl) (i:(assignEach es X.env).findIdx? (·.1)=none:=by rfl):VG X (.Tuple es k pos) (NY n t):=(Vu l h f i).imp λv σ H Q zz57=>Ey zz57 λx τ μ R rx d hc h hq=>by
 unfold NY at h
 split at h
 ·obtain⟨a,j,rfl,q,r⟩:=RelA.tup rx
  exact⟨a,j,rfl,q.sq,by rw [r.length];exact h.1,_,τ,μ,R,r.rel,d,hc,h.2,hq⟩
 ·exact h.elim
def HY(o i v:AV)(μ:M)(R:M->Prop):Prop:=match o,i with
 | .R a,.D (.int k)=>opt (μ a) λm=>match m with
  | .lst d=>opt (Zv d.length k) λj=>R (An μ a (.lst (d.set j v)))
  | _=>False
 | _,_=>False
def UR(K:jI):TSet:=λo i v H Q=>∃a b c μ R,RelA K H a o/\RelA K H b i/\RelA K H c v/\Cn K μ H/\HY a b c μ R/\∀ μ' H',Kp H H'->Cn K μ' H'->R μ'->Q H'
theorem NZ:PSet X (UR X.K):=by
 intro y s σ H o i v ov iv u Q I r1 r2 r3 ⟨a,b,c,μ,R,l,r,B,hc,h,hq⟩
 unfold HY at h
 split at h
 ·rename_i q k
  obtain⟨m,z,h⟩:=A6 h
  split at h
  ·obtain⟨j,n,h⟩:=A6 h
   ·obtain⟨o',d,A,rfl,f⟩:=hc _ _ z
    cases (show o=.ref q from l)
    cases RelA.int r
    exact V1 y s σ H _ _ v ov iv u Q I r1 r2 r3 ⟨q,A,k,j,rfl,rfl,d,by rw [<- f.length];exact n,hq _ _ (Kp.put d trivial _) (hc.put d trivial (Cs (f.set B j))) h⟩
  ·exact h.elim
 ·exact h.elim
def US(d f:AE):AG:=λv τ μ R=>d τ μ λo μ1=>f τ μ1 λi μ2=>HY o i v μ2 fun μ3=>R τ μ3
theorem Mr{o i:jL}{l m:AE}(n:VE X o l)(q:VE X i m)
  (ha:∀v,assign (.Subscript o i pos) X.env v=(do
   let d <- holding [v] (eval o X.env)
   let f <- holding [v,d] (eval i X.env)
   standAt pos
   holding [v,d,f] (setItem d f v)
   release [v,d,f] []):=by intro _;rfl):VG X (.Subscript o i pos) (US l m):=(GE n q NZ ha).imp λv σ H Q zz58=>Ey zz58 λx τ μ R rx j hc h hq =>
 ⟨τ,μ,_,j,hc,h,λo μ1 d H1 S1 s ro h1=>⟨τ,μ1,_,j.kp S1,s,h1,λi μ2 f H2 S2 c2 r h2=>⟨o,i,x,μ2,_,ro.kp S2,r,rx.kp (S1.trans S2),c2,h2,fun μ3 H3 S3 c3 h3=>hq _ _ _ _ (S1.trans (S2.trans S3)) (j.kp (S1.trans (S2.trans S3))) c3 h3⟩⟩⟩
def Uh(te:AE)(g:AG):AS:=λk _ _ _ τ μ=>te τ μ λx μ1=>g x τ μ1 k
theorem Wx{K:jI}{te:AE}{g:AG}{D:Ends}{σ:St}{H:Hp}(h:cS K (Uh te g) D σ H):AD (cE K te) (cG K g) D σ H:=by
 obtain⟨τ,μ,j,nr,m,l,d,hc,h,hq⟩:=h
 exact⟨τ,μ,_,d,hc,h,λx μ1 v H1 S1 i f hx=>⟨x,τ,μ1,_,f,d.kp S1,i,hx,hq.nx.kp S1⟩⟩
theorem Jm{tg:jL}{g:AG}(he:VE X a ta)(d:VG X tg g)(hs:swapsWithSole [tg] a pos.line X.env=pure false:=by rfl)(f:swappedStores [tg] a X.env=pure none:=by rfl)
  (h1:(assignEach [tg] X.env).map (·.2)=[assign tg X.env]:=by rfl):VS X (.Assign [tg] a pos) (Uh ta g):=(GF he d hs f h1).imp λ_ _ _ h=>Wx h
theorem Av{i:Nat}{x:Str}{d:Pos}(f:X.N.Nodup)(j:X.N[i]?=some x)(hx:Loc X.env.scope x)(he:VE X a ta)(hs:swapsWith a (some (.Name x d)) pos.line X.env=pure false:=by rfl)(l:X.fn x=true\/X.env.scope.names.lookup x=some .local:=by first | exact .inl rfl | exact .inr rfl | assumption) :
  VS X (.Assign [.Name x d] a pos) (Uh ta (Dh i)):=(GG f j hx he hs l).imp λD σ H zz59=>Im zz59 fun τ μ nk nr nb nc hs hc h hq =>
 ⟨τ,μ,_,hs,hc,h,λx μ1 v H1 S1 c1 rx hx=>hq.nx _ _ _ _ S1 ((hs.kp S1).set rx i) c1 hx⟩
def XM(i j:Nat)(t:AA):AS:=λk _ _ _ τ μ=>t τ μ λd μ1=>match d with
 | [v,w]=>k ((τ.set i (some v)).set j (some w)) μ1
 | _=>False
def wl(c:AT)(tb:AS)(k:ASt->M->Prop)(r:AV->M->Prop):Nat->ASt->M->Prop
 | 0=>λ_ _=>False
 | n+1=>fun τ μ=>c τ μ λx μ1=>brP x (tb (wl c tb k r n) r k (wl c tb k r n) τ μ1) (k τ μ1)
def HZ(c:AT)(tb:AS):AS:=λk r _ _ τ μ=>∃n,wl c tb k r n τ μ
theorem Wy{c:jL}{d:List jP}{tc:AT}{tb:AS}(hp:PassesOwn (model X.prog X.w) X.A X.env X.xe)(hc:VT X c tc)(hb:VSs X d tb):VS X (.While c d [] pos) (HZ tc tb):=(Vv hp hc hb).imp λD σ H zw=>Im zw fun τ μ nk nr nb nc u hc zh hq=>by
 obtain⟨n,h⟩:=zh
 refine⟨λm σ1 H1=>∃ τ1 μ1,Kp H H1/\Du X.K H1 τ1 σ1/\Cn X.K μ1 H1/\wl tc tb nk nr m τ1 μ1,⟨n,τ,μ,Kp.refl,u,hc,h⟩,?_⟩
 rintro m σ1 H1 ⟨τ1,μ1,s,f,j,h1⟩
 cases m with
 | zero=>exact h1.elim
 | succ m =>
  refine⟨τ1,μ1,_,f,j,h1,λk μ2 H2 S2 c2 hk=>?_⟩
  rcases br_e hk with⟨rfl,r⟩ | ⟨rfl,r⟩
  ·rw [S_ rfl]
   refine⟨fun σ' H'=>∃ τ' μ',Kp H H'/\Du X.K H' τ' σ'/\Cn X.K μ' H'/\wl tc tb nk nr m τ' μ',fun σ' H' ⟨τ',μ',q⟩=>⟨m,cB _,τ',μ',q⟩,τ1,μ2,_,_,_,_,f.kp S2,c2,r,?_⟩
   have S:=s.trans S2
   exact⟨fun τ' μ' σ' H' S' l i o=>⟨τ',μ',S.trans S',l,i,o⟩,hq.rt.kp S,hq.nx.kp S,fun τ' μ' σ' H' S' l i o=>⟨τ',μ',S.trans S',l,i,o⟩⟩
  ·rw [M_ R_]
   exact hq.nx _ _ _ _ (s.trans S2) (f.kp S2) c2 r
structure ItOk(K:jI)(H0:Hp)(J:It)(xs:List AV)(kp:M->Prop):Prop where
 go:∀i H μ,Kp H0 H->Cn K μ H->kp μ->i < xs.length->J.go i H
 yld:∀i H μ v H' x,Kp H0 H->Cn K μ H->kp μ->xs[i]?=some x->J.yld i H v H'->Kp H H'/\Cn K μ H'/\RelA K H' x v
 stop:∀H μ,Kp H0 H->Cn K μ H->kp μ->J.stop xs.length H
abbrev AI:=ASt->M->(List AV->(M->Prop)->M->Prop)->Prop
def cI(K:jI)(wi:AI):TI:=fun σ H R=>∃ τ μ R',Du K H τ σ/\Cn K μ H/\wi τ μ R'/\∀d f μ' J H',Kp H H'->Cn K μ' H'->ItOk K H' J d f->R' d f μ'->R J H'
def VI(X:Cx)(tg iter:jL)(wi:AI):Prop:=PI X tg iter (cI X.K wi)
theorem PI.imp{tg e:jL}{t u:TI}(h:PI X tg e t)(i:∀ σ H Q,u σ H Q->t σ H Q):PI X tg e u:=λd s σ H Q I q=>h d s σ H Q I (i σ H Q q)
theorem Ui{K:jI}{f:Hp}{a:jH}{xs:List AV}{j:M->Prop}(h:∀H μ,Kp f H->Cn K μ H->j μ->∃d,Fa K H a d/\A3 K H xs d):ItOk K f (Itl K a) xs j:=by
 refine⟨λi H μ S c k hi=>?_,λi H μ v H' x S c k e y=>?_,λH μ S c k=>?_⟩
 ·obtain⟨d,q,r⟩:=h H μ S c k
  exact⟨d,d[i]'(by rw [<- r.length];exact hi),q,J_ _⟩
 ·obtain⟨d,q,r⟩:=h H μ S c k
  obtain⟨rfl,y⟩:=y
  obtain⟨u,l,m⟩:=r.get e
  rw [y d q]at l
  cases l
  exact⟨Kp.refl,c,m⟩
 ·obtain⟨d,q,r⟩:=h H μ S c k
  exact⟨d,q,by rw [r.length];exact I_ _⟩
theorem Wz{K:jI}{f:Hp}{a:jH}{xs:List AV}{j:M->Prop}(h:∀H μ,Kp f H->Cn K μ H->j μ->∃d,Io K H a d/\A3 K H xs d):ItOk K f (Itt K a) xs j:=by
 refine⟨λi H μ S c k hi=>?_,λi H μ v H' x S c k e y=>?_,λH μ S c k=>?_⟩
 ·obtain⟨d,q,r⟩:=h H μ S c k
  exact⟨d,d[i]'(by rw [<- r.length];exact hi),q,J_ _⟩
 ·obtain⟨d,q,r⟩:=h H μ S c k
  obtain⟨rfl,y⟩:=y
  obtain⟨u,l,m⟩:=r.get e
  rw [y d q]at l
  cases l
  exact⟨Kp.refl,c,m⟩
 ·obtain⟨d,q,r⟩:=h H μ S c k
  exact⟨d,q,by rw [r.length];exact I_ _⟩
def Gk(lo:Int):Nat->List AV
 | 0=>[]
 | n+1=>.D (.int lo) :: Gk (lo+1) n
theorem B3:∀(n:Nat) (lo:Int),(Gk lo n).length=n
 | 0,_=>rfl
 | n+1,lo=>by rw [Gk,ZS,B3 n]
theorem Gw:∀(n:Nat) (lo:Int) (i:Nat) {x:AV},(Gk lo n)[i]?=some x->x=.D (.int (lo+i))
 | 0,_,_,_,h=>by simp [Gk]at h
 | n+1,lo,0,_,h=>by simp [Gk]at h;rw [<- h];simp
 | n+1,lo,i+1,_,h=>by
  rw [Gk,List.getElem?_cons_succ]at h
  rw [Gw n (lo+1) i h]
  congr 2
  omega
theorem W0{K:jI}{f:Hp}{lo:Int}{n:Nat}:ItOk K f (Itr lo n) (Gk lo n) (λ_=>True):=by
 refine⟨λi H μ S c k d=>?_,λi H μ v H' x S c k e y=>?_,λH μ S c k=>?_⟩
 ·show i < n
  rw [B3]at d;exact d
 ·obtain⟨rfl,rfl⟩:=y
  rw [Gw n lo i e]
  exact⟨Kp.refl,c,Cr⟩
 ·show n<=_
  rw [B3];exact I_ _
def OA(t:AA):AI:=fun τ μ R=>t τ μ λd μ1=>match d with
 | [.D (.int j)]=>-(2 ^ 62)<=j/\j < 2 ^ 62/\R (Gk 0 j.toNat) (λ_=>True) μ1
 | _=>False
theorem Cy{t:AA}{p:Pos}(f:Gl X "range") (i:X.mg "range" = none) (ha:VA X [a] t) (hs:starEach [a] X.env=[(false,eval a X.env)]:=by rfl):VI X tg (.Call (.Name "range" p) [a] [] pos) (OA t) :=
 (Tt f i ha hs).imp fun σ H Q zz62=>B9 zz62 fun τ μ R hs hc h hq=>⟨τ,μ,_,hs,hc,h,λl μ1 vs H1 S1 c1 rs hl hx=>by
  split at hx
  ·cases rs with
   | cons j d =>
    cases d
    cases RelA.int j
    exact⟨_,rfl,hx.1,hx.2.1,hq _ _ _ _ _ S1 c1 W0 hx.2.2⟩
  ·exact hx.elim⟩
def fl(g:AG)(tb:AS)(k:ASt->M->Prop)(r:AV->M->Prop)(d:M->Prop):List AV->ASt->M->Prop
 | []=>fun τ μ=>d μ/\k τ μ
 | x :: f=>fun τ μ=>d μ/\g x τ μ fun τ2 μ2=>tb (fl g tb k r d f) r k (fl g tb k r d f) τ2 μ2
def UT(wi:AI)(g:AG)(tb:AS):AS:=λk r _ _ τ μ=>wi τ μ λf d μ1=>fl g tb k r d f τ μ1
theorem OB{g:AG}{tb:AS}{k:ASt->M->Prop}{r:AV->M->Prop}{d:M->Prop}{xs:List AV}{τ:ASt}{μ:M}(h:fl g tb k r d xs τ μ):d μ:=by
 cases xs with
 | nil=>exact h.1
 | cons x xs=>exact h.1
theorem B6{iter:jL}{j:List jP}{wi:AI}{g:AG}{tb:AS}(hp:PassesOwn (model X.prog X.w) X.A X.env X.xe)(N:X.calm=true)(m:VI X tg iter wi)(C:VG X tg g)(hb:VSs X j tb)(r:∀x,foldedSetIterable iter X.env x=pure x:=by intro _;rfl) :
  VS X (.For tg iter j [] pos) (UT wi g tb):=(Vx hp N m C hb r).imp λD σ H zz64=>Im zz64 fun τ μ nk nr nb nc B hc h hq=>by
 refine⟨τ,μ,_,B,hc,h,λu I μ0 J H0 S0 E it F=>?_⟩
 refine Wi u.length (λi σ1 H1=>∃ τ1 μ1,Kp H0 H1/\Du X.K H1 τ1 σ1/\Cn X.K μ1 H1/\fl g tb nk nr I (u.drop i) τ1 μ1) ⟨τ,μ0,Kp.refl,B.kp S0,E,F⟩ ?_ ?_ ?_
 ·rintro i σ1 H1 m ⟨τ1,μ1,l,f,d,h1⟩
  exact it.go i H1 μ1 l d (OB h1) m
 ·rintro σ1 H1 ⟨τ1,μ1,l,f,d,h1⟩
  rw [cD]at h1
  exact⟨it.stop H1 μ1 l d h1.1,hq.nx _ _ _ _ (S0.trans l) f d h1.2⟩
 ·rintro i v σ1 H1 H2 m ⟨τ1,μ1,l,f,d,h1⟩ y
  rw [ZU m]at h1
  obtain⟨hk,h1⟩:=h1
  obtain⟨z,c2,L⟩:=it.yld i H1 μ1 v H2 _ l d hk (J_ m) y
  refine⟨_,τ1,μ1,_,L,f.kp z,c2,h1,fun τ3 μ3 σ3 H3 S3 M q G=>⟨τ3,μ3,_,_,_,_,M,q,G,?_⟩⟩
  have S:Kp H0 H3:=l.trans (z.trans S3)
  exact⟨fun τ' μ' σ' H' S' s n o=>⟨τ',μ',S.trans S',s,n,o⟩,hq.rt.kp (S0.trans S),hq.nx.kp (S0.trans S),fun τ' μ' σ' H' S' s n o=>⟨τ',μ',S.trans S',s,n,o⟩⟩
def VIfs(X:Cx)(cy:List jL)(t:AT):Prop:=PIfs X cy (cT X.K t)
def IA:AT:=λ_ μ R=>R true μ
theorem Bp:VIfs X [] IA:=λd s σ H Q I zz65=>B9 zz65 fun τ μ R hs hc h hq=>Wb d s σ H Q I (hq _ _ _ Kp.refl hc h)
theorem C1{t:AT}(h:VT X a t):VIfs X [a] t:=Wc h
def cl(p:jH)(g:AG)(tst:AT)(te:AE)(f:M->Prop)(R:M->Prop):List AV->List AV->ASt->M->Prop
 | []=>λ_ _ μ=>f μ/\R μ
 | x :: h=>λd τ μ=>f μ/\g x τ μ fun τ1 μ1=>tst τ1 μ1 λk μ2 =>
  brP k (te τ1 μ2 λv μ3=>μ3 p=some (.lst d)/\d.length < sizeLine/\cl p g tst te f R h (d++[v]) τ1 (An μ3 p (.lst (d++[v])))) (cl p g tst te f R h d τ1 μ2)
def N4(mp:List (Option Nat))(wi:AI)(g:AG)(tst:AT)(te:AE):AE:=fun τ μ R=>wi τ μ λd f μ1=>∀p,μ1 p=none->cl p g tst te f (fun μ2=>R (.R p) μ2) d [] (HM mp τ) (An μ1 p (.lst []))
theorem OC{p:jH}{g:AG}{tst:AT}{te:AE}{d:M->Prop}{R:M->Prop}{xs acc:List AV}{τ:ASt}{μ:M}(h:cl p g tst te d R xs acc τ μ):d μ:=by
 cases xs with
 | nil=>exact h.1
 | cons x xs=>exact h.1
theorem Lj{K:jI}{mp:List (Option Nat)}{wi:AI}{g:AG}{tst:AT}{te:AE}{σ:St}{H:Hp}{Q:VK}(h:cE K (N4 mp wi g tst te) σ H Q):We mp (cI K wi) (cG K g) (cT K tst) (cE K te) σ H Q:=by
 obtain⟨τ,μ,R,L,hc,h,hq⟩:=h
 refine⟨τ,μ,_,L,hc,h,λI N μ0 J H0 S0 c0 it B=>?_⟩
 intro p hp
 have B:=B p (c0.none hp)
 have F:Cn K (An μ0 p (.lst [])) (upd H0 p (.lst [])):=c0.new hp (Cs (.nil))
 have n:Kp H0 (upd H0 p (.lst [])):=Kp.new hp _
 refine Rl I.length (λi f σ1 H1=>∃ τ1 μ1 m,Kp H0 H1/\Du K H1 τ1 σ1/\Cn K μ1 H1/\A3 K H1 m f/\cl p g tst te N (fun μ2=>R (.R p) μ2) (I.drop i) m τ1 μ1) ⟨_,_,[],n,((L.kp S0).kp n).sub mp,F,.nil,B⟩ ?_ ?_ ?_
 ·rintro i f σ1 H1 hi ⟨τ1,μ1,m,j,l,d,C,h1⟩
  exact it.go i H1 μ1 j d (OC h1) hi
 ·rintro f σ1 H1 ⟨τ1,μ1,m,j,l,d,C,h1⟩
  rw [cD]at h1
  exact⟨it.stop H1 μ1 j d h1.1,hq _ _ _ _ (S0.trans j) d Dt h1.2⟩
 ·rintro i v f σ1 H1 H2 hi ⟨τ1,μ1,m,j,l,d,C,h1⟩ y
  rw [ZU hi]at h1
  obtain⟨hk,h1⟩:=h1
  obtain⟨D,c2,U⟩:=it.yld i H1 μ1 v H2 _ j d hk (J_ hi) y
  refine⟨_,τ1,μ1,_,U,l.kp D,c2,h1,fun τ3 μ3 σ3 H3 S3 r z M=>⟨τ3,μ3,_,r,z,M,λk μ4 H4 S4 G h4=>?_⟩⟩
  rcases br_e h4 with⟨rfl,s⟩ | ⟨rfl,s⟩
  ·rw [S_ rfl]
   refine⟨τ3,μ4,_,r.kp S4,G,s,λw μ5 u H5 S5 c5 rw E=>?_⟩
   obtain⟨T,O,E⟩:=E
   obtain⟨o,q,V,rfl,A⟩:=c5 _ _ T
   have S:Kp H1 H5:=D.trans (S3.trans (S4.trans S5))
   exact⟨V,q,by rw [<- A.length];exact O,τ3,_,_,(j.trans S).trans (Kp.put q trivial _),(r.kp (S4.trans S5)).kp (Kp.put q trivial _),c5.put q trivial (Cs (A.append (.cons rw .nil))),(A.append (.cons rw .nil)).kp (Kp.put q trivial _),E⟩
  ·rw [M_ R_]
   have S:Kp H1 H4:=D.trans (S3.trans S4)
   exact⟨τ3,μ4,m,j.trans S,r.kp S4,G,C.kp S,s⟩
def WJ(R:AV->M->Prop):ASt->M->Prop:=λ_ μ'=>∃ ν,Sub ν μ'/\R (.D .none) ν
def WK(R:AV->M->Prop):AV->M->Prop:=λv μ'=>∃ ν,Sub ν μ'/\R v ν
def SS:ASt->M->Prop:=λ_ _=>False
theorem Fun.vok{x d:Str}{st:jP}{f:jH}{n:jQ}{N ps:List Str}{k:Nat}{sp:ASp}(F:Fun K x d st f n)(S:FnScope N ps (Af st))
  (q:∀(j:i_) (A:jM) (outer:List Env) (s:jA) (H:Hp) (E:XK),Room k (A.deeper (envOfC d (Af st) s.heap.objs.size f j)) ->
   ∃t,VSs (Nq Ea P w K mg base N d (Af st) f j A outer s H E).nox (Ay st) t/\∀i μ R,i.length=ps.length->sp i μ R->t (WJ R) (WK R) SS SS (Hd N i) μ):FnOk P w K mg base Ea (k+1) f n ps (Fg K ps.length sp):=by
 refine F.ok S (λy H Q E h=>?_) (λj A outer s H y Q E o h=>?_)
 ·obtain⟨i,μ,R,m,l,_⟩:=h
  rw [<- l.length];exact m
 ·obtain⟨i,μ,R,m,l,hc,B,hq⟩:=h
  obtain⟨t,z,h⟩:=q j A outer s H E o
  refine⟨_,z,Hd N i,μ,_,_,_,_,Du.begin l,hc,h i μ R m B,⟨fun τ μ' σ H' S' _ c zz67=>Zw zz67 fun ν hν r=>?_,λv μ' u H' S' c rv zz68=>Zw zz68 fun ν hν r=>?_,λ_ _ _ _ _ _ _ h=>h.elim,λ_ _ _ _ _ _ _ h=>h.elim⟩⟩
  ·exact hq _ _ _ _ S' (c.sub hν) Mm r
  ·exact hq _ _ _ _ S' (c.sub hν) rv r
def IB(t:AE):AI:=fun τ μ R=>t τ μ λx μ1=>opt (items μ1 x) λd=>R d (fun μ=>items μ x=some d) μ1
theorem Bf(B:VE X a ta):VI X tg a (IB ta):=by
 intro D s σ H R I zz69
 refine B9 zz69 fun τ μ R' C hc h hq=>?_
 refine thn (B D s σ H (λv f=>∃x μ1 j,Kp H f/\Cn X.K μ1 f/\RelA X.K f x v/\items μ1 x=some j/\R' j (fun μ=>items μ x=some j) μ1) I ⟨τ,μ,_,C,hc,h,λx μ1 v f r l m hx=>?_⟩) λv s1 F=>?_
 ·obtain⟨j,e,hx⟩:=A6 hx
  exact⟨x,μ1,j,r,l,m,e,hx⟩
 obtain⟨J,f,d,E,x,μ1,j,r,l,m,e,hx⟩:=F
 obtain⟨p,L,rfl,hp,G⟩:=Ca l m e
 cases E
 rcases hp with⟨k,hp⟩ | ⟨k,hp⟩
 ·obtain⟨z,A,u,hz⟩:=d.list hp
  refine cN u.isList ?_
  refine⟨s1.heap.objs.size,[s1.heap.objs.size],_,_,f,rfl,d.kept (t':=s1.toks) λb o e=>DD _ e,Ts p _,⟨_,K_ _ rfl,rfl,rfl⟩,λb hb=>?_,hq _ _ _ _ _ r l (Ui λH μ S c k2=>?_) hx⟩
  ·have e:b=s1.heap.objs.size:=by simpa using hb
   subst e
   exact d.fpOk (I_ _) (d.hok.fresh (I_ _))
  ·obtain⟨q,y,e,i,rw⟩:=Ca c (m.kp S) k2
   cases e
   rcases i with⟨_,i⟩ | ⟨n,_⟩
   ·exact⟨y,i,rw⟩
   ·rw [k]at n;cases n
 ·obtain⟨z,A,u,hz⟩:=d.tuple hp
  refine hV (show s1.heap.IsTuple p z.toArray from u) ?_
  refine⟨s1.heap.objs.size,[s1.heap.objs.size],_,_,f,rfl,d.kept (t':=s1.toks) λb o e=>DD _ e,Pm p _,⟨_,K_ _ rfl,rfl,rfl⟩,λb hb=>?_,hq _ _ _ _ _ r l (Wz λH μ S c k2=>?_) hx⟩
  ·have e:b=s1.heap.objs.size:=by simpa using hb
   subst e
   exact d.fpOk (I_ _) (d.hok.fresh (I_ _))
  ·obtain⟨q,y,e,i,rw⟩:=Ca c (m.kp S) k2
   cases e
   rcases i with⟨n,_⟩ | ⟨_,i⟩
   ·rw [k]at n;cases n
   ·exact⟨y,i,rw⟩
end
section
variable {c:AT}{g:AG}{tb:AS}{k:ASt->M->Prop}{r:AV->M->Prop}{bb cc:ASt->M->Prop}{tst:AT}{te:AE}{X:Cx}{K:jI}{H:Hp}{o i e value:jL}{pos de:Pos}{td ty tv tx:AE}
theorem BM{τ:ASt}{μ:M}(I:Nat->ASt->M->Prop)(m:Nat)(h0:I m τ μ)
  (step:∀m τ μ (W:ASt->M->Prop),I m τ μ->(∀a τ' μ',a < m->I a τ' μ'->W τ' μ')->c τ μ λx μ1=>brP x (tb W r k W τ μ1) (k τ μ1)):∃n,wl c tb k r n τ μ:=by
 have b:∀n m τ μ,m < n->I m τ μ->wl c tb k r n τ μ:=by
  intro n
  induction n with
  | zero=>intro m τ μ h _;omega
  | succ n d=>intro m τ μ h hI;exact step m τ μ (wl c tb k r n) hI λa τ' μ' hm hI'=>d a τ' μ' (by omega) hI'
 exact⟨m+1,b (m+1) m τ μ (cB _) h0⟩
theorem A0{t u:AS}{τ:ASt}{μ:M}(J:ASt->M->Prop)(h1:∀W:ASt->M->Prop,(∀ τ' μ',J τ' μ'->W τ' μ')->t W r bb cc τ μ)(h2:∀ τ' μ',J τ' μ'->u k r bb cc τ' μ'):Wv t u k r bb cc τ μ:=h1 (u k r bb cc) h2
theorem C2{t u:AS}{τ:ASt}{μ:M}(h:t (u k r bb cc) r bb cc τ μ):Wv t u k r bb cc τ μ:=h
theorem Co{b:M->Prop}{xs:List AV}{τ:ASt}{μ:M}(I:Nat->ASt->M->Prop)(h0:I 0 τ μ)(hk:∀i τ μ,I i τ μ->b μ)
  (step:∀i x τ μ (W:ASt->M->Prop),xs[i]?=some x->I i τ μ->(∀ τ' μ',I (i+1) τ' μ'->W τ' μ')->g x τ μ fun τ2 μ2=>tb W r k W τ2 μ2)
  (done:∀ τ μ,I xs.length τ μ->k τ μ):fl g tb k r b xs τ μ:=by
 have a:∀n i τ μ,n+i=xs.length->I i τ μ->fl g tb k r b (xs.drop i) τ μ:=by
  intro n
  induction n with
  | zero =>
   intro i τ μ h hI
   have e:i=xs.length:=by omega
   subst e
   rw [cD]
   exact⟨hk _ _ _ hI,done τ μ hI⟩
  | succ n f =>
   intro i τ μ h hI
   have d:i < xs.length:=by omega
   rw [ZU d]
   exact⟨hk _ _ _ hI,step i _ τ μ _ (J_ d) hI fun τ' μ' q=>f (i+1) τ' μ' (by omega) q⟩
 exact a xs.length 0 τ μ rfl h0
theorem Dv{p:jH}{d:M->Prop}{R:M->Prop}{xs:List AV}{τ:ASt}{μ:M}(I:Nat->List AV->ASt->M->Prop)(h0:I 0 [] τ μ)(hk:∀i a τ μ,I i a τ μ->d μ)
  (step:∀i x a τ μ (W:List AV->ASt->M->Prop),xs[i]?=some x->I i a τ μ->(∀b τ' μ',I (i+1) b τ' μ'->W b τ' μ')->g x τ μ fun τ1 μ1=>tst τ1 μ1 λk μ2 =>
   brP k (te τ1 μ2 λv μ3=>μ3 p=some (.lst a)/\a.length < sizeLine/\W (a++[v]) τ1 (An μ3 p (.lst (a++[v])))) (W a τ1 μ2))
  (done:∀a τ μ,I xs.length a τ μ->R μ):cl p g tst te d R xs [] τ μ:=by
 have f:∀n i a τ μ,n+i=xs.length->I i a τ μ->cl p g tst te d R (xs.drop i) a τ μ:=by
  intro n
  induction n with
  | zero =>
   intro i a τ μ h hI
   have e:i=xs.length:=by omega
   subst e
   rw [cD]
   exact⟨hk _ _ _ _ hI,done a τ μ hI⟩
  | succ n l =>
   intro i a τ μ h hI
   have j:i < xs.length:=by omega
   rw [ZU j]
   exact⟨hk _ _ _ _ hI,step i _ a τ μ (λb τ' μ'=>cl p g tst te d R (xs.drop (i+1)) b τ' μ') (J_ j) hI λb τ' μ' q=>l (i+1) b τ' μ' (by omega) q⟩
 exact f xs.length 0 [] τ μ rfl h0
theorem Bs(i:Int):Cd (.int i):=⟨rfl,by simp [PyData.depth]⟩
theorem Dd(i:Bool):Cd (.bool i):=⟨rfl,by simp [PyData.depth]⟩
theorem Ix(i j:Int):PyData.eqv (.int i) (.int j)=decide (i=j):=by
 rw [PyData.eqv];exact cV.mpr (by simp)
theorem ieq{i j:Int}{T F:Prop}(h1:i=j->T)(h2:i≠j->F):Cd (.int i)/\Cd (.int j)/\brP (PyData.eqv (.int i) (.int j)) T F:=by
 refine⟨Bs _,Bs _,?_⟩
 rw [Ix]
 exact dif h1 h2
theorem Al{μ:M}{p:jH}{xs:List AV}(h:μ p=some (.lst xs)):items μ (.R p)=some xs:=by
 show(match μ p with | some (.lst xs)=>some xs | _=>none)=_
 rw [h]
def Cg{κ:Type} [DecidableEq κ](kvs:List (κ×AV))(k:κ):Option AV:=(kvs.find? λa=>decide (a.1=k)).map (·.2)
def E5{κ:Type} [DecidableEq κ](kvs:List (κ×AV))(k:κ)(v:AV):List (κ×AV) :=
 if(kvs.any λa=>decide (a.1=k))=true then kvs.map λa=>if a.1=k then(a.1,v) else a else kvs++[(k,v)]
def Jo:List jG->Option (List Key)
 | []=>some []
 | d :: b=>match Nz d,Jo b with
  | some k,some a=>some (k :: a)
  | _,_=>none
def N5(ds:List jG):Option (List Key):=match Lit ds with
 | true=>none
 | false=>Jo ds
theorem Mu{ds:List jG}{ks:List Key}(h:N5 ds=some ks):Lit ds=false/\Jo ds=some ks:=by
 unfold N5 at h
 cases c:Lit ds with
 | true=>rw [c]at h;cases h
 | false=>rw [c]at h;exact⟨rfl,h⟩
theorem Ue.heap{K:jI}{H:Hp}{a:jH}{ds:List jG}{xs:List V}(h:Ue K H a ds xs)(b:Lit ds=false):H a=some (.tup xs):=by
 rcases h with h | h
 ·exact h
 ·rw [b]at h;cases h.1
def dget(m:MO)(d:jG):Option (Option AV):=match m with
 | .dk a=>(Nz d).map (Cg a)
 | .dt a=>match d with
  | .tuple b=>(N5 b).map (Cg a)
  | _=>none
 | .lst _=>none
 | .dd _=>none
def dput(m:MO)(d:jG)(v:AV):Option MO:=match m with
 | .dk a=>(Nz d).map λk=>.dk (E5 a k v)
 | .dt a=>match d with
  | .tuple b=>(N5 b).map λk=>.dt (E5 a k v)
  | _=>none
 | .lst _=>none
 | .dd _=>none
def dsize:MO->Nat
 | .dk a=>a.length
 | .dt a=>a.length
 | .lst b=>b.length
 | .dd a=>a.length
def Rs(K:jI)(H:Hp):Option AV->Option V->Prop
 | some x,some v=>RelA K H x v
 | none,none=>True
 | _,_=>False
theorem E3.val{κ:Type} [DecidableEq κ]{kvs:List (κ×AV)}{b:List (κ×V)}(h:E3 K H kvs b)(k:κ):Rs K H (Cg kvs k) (Eh b k):=by
 unfold E3 at h
 induction h with
 | nil=>exact trivial
 | @cons p q l₁ l₂ r t a =>
  obtain⟨d,m⟩:=p
  obtain⟨f,j⟩:=q
  obtain⟨e,r⟩:=r
  dsimp only at e
  subst e
  unfold Cg Eh at a ⊢
  by_cases hk:d=k
  ·simp only [List.find?_cons,decide_eq_true hk];exact r
  ·simp only [List.find?_cons,decide_eq_false hk];exact a
theorem E3.put{κ:Type} [DecidableEq κ]{kvs:List (κ×AV)}{d:List (κ×V)}(h:E3 K H kvs d)(k:κ){x:AV}{v:V}(r:RelA K H x v):E3 K H (E5 kvs k x) (putK d k v):=by
 have j:(kvs.any λa=>decide (a.1=k))=(d.any λa=>decide (a.1=k)):=by
  unfold E3 at h
  induction h with
  | nil=>rfl
  | @cons p q l₁ l₂ b t f=>rw [cH,cH,f,b.1]
 have m:E3 K H (kvs.map λa=>if a.1=k then(a.1,x) else a) (d.map λa=>if a.1=k then(a.1,v) else a):=by
  clear j
  unfold E3 at h ⊢
  induction h with
  | nil=>exact .nil
  | @cons p q l₁ l₂ b t f =>
   refine .cons ?_ f
   obtain⟨e,b⟩:=b
   dsimp only
   by_cases hk:p.1=k
   ·rw [S_ hk,S_ (e ▸ hk)];exact⟨e,r⟩
   ·rw [M_ hk,M_ (e ▸ hk)];exact⟨e,b⟩
 have ha:E3 K H (kvs++[(k,x)]) (d++[(k,v)]):=by
  clear j m
  unfold E3 at h ⊢
  exact iZ h ⟨rfl,r⟩
 unfold E5 putK
 rw [j]
 split
 ·exact m
 ·exact ha
theorem Mv{d:jG}{k:Key}{v:V}(h:Dk K H d v)(e:Nz d=some k):v=kV k:=by
 unfold Nz at e
 split at e
 ·cases e;exact h.int
 ·cases e;exact h.str
 ·cases e
theorem Gx:∀{ds:List jG} {ks:List Key} {a:List V},Am K H ds a->Jo ds=some ks->a=ks.map kV
 | [],ks,a,h,e=>by cases e;exact h.nil
 | d :: ds,ks,a,h,e=>by
  obtain⟨x,r,rfl,h1,h2⟩:=h.cons
  simp only [Jo]at e
  split at e
  ·rename_i k f b j
   cases e
   rw [Mv h1 b,Gx h2 j];rfl
  ·cases e
theorem Iy{μ:M}{a:jH}{m:MO}{d:jG}{v:V}{o:Option AV}(hc:Cn K μ H)(s:μ a=some m)(n:Dk K H d v)(e:dget m d=some o):∃r,DGet H a v r/\Rs K H o r:=by
 obtain⟨x,j,l⟩:=hc a m s
 unfold dget at e
 split at e
 ·obtain⟨k,f,rfl⟩:=F_.mp e
  obtain⟨u,rfl,h⟩:=l
  rw [Mv n f]
  exact⟨_,DGet.k j,h.val k⟩
 ·split at e
  ·obtain⟨p,f,rfl⟩:=F_.mp e
   obtain⟨u,rfl,h⟩:=l
   obtain⟨b,w,rfl,hb,hx⟩:=n.tup
   obtain⟨q,f⟩:=Mu f
   have hb:=hb.heap q
   rw [Gx hx f]at hb
   exact⟨_,DGet.t j hb,h.val p⟩
  ·cases e
 ·cases e
 ·cases e
theorem BN{μ:M}{a:jH}{m p:MO}{d:jG}{v w:V}{x:AV}(hc:Cn K μ H)(z:μ a=some m)(s:Dk K H d v)(hx:RelA K H x w)(e:dput m d x=some p)(hs:dsize m < sizeLine):∃l,DPut H a v w l/\Kp H l/\Cn K (An μ a p) l:=by
 obtain⟨C,f,q⟩:=hc a m z
 unfold dput at e
 split at e
 ·obtain⟨k,j,rfl⟩:=F_.mp e
  obtain⟨A,rfl,h⟩:=q
  rw [Mv s j]
  exact⟨_,DPut.k f (by rw [<- ZZ h];exact hs),Kp.put f trivial _,hc.put f trivial ⟨_,rfl,h.put k hx⟩⟩
 ·split at e
  ·obtain⟨u,j,rfl⟩:=F_.mp e
   obtain⟨A,rfl,h⟩:=q
   obtain⟨b,B,rfl,hb,n⟩:=s.tup
   obtain⟨y,j⟩:=Mu j
   have hb:=hb.heap y
   rw [Gx n j]at hb
   exact⟨_,DPut.t f hb (by rw [<- ZZ h];exact hs),Kp.put f trivial _,hc.put f trivial ⟨_,rfl,h.put u hx⟩⟩
  ·cases e
 ·cases e
 ·cases e
def OD(td ty:AE):AE:=fun τ μ R=>td τ μ λx μ1=>ty τ μ1 λy μ2=>match x,y with
 | .R a,.D d=>opt (μ2 a) λm=>opt (dget m d) λr=>opt r λv=>R v μ2
 | _,_=>False
theorem Mw(hu:X.A.units+1 < cLine)(l:VE X o td)(n:VE X i ty)(hs:HC i:=by intro _ _;rfl):VE X (.Subscript o i pos) (OD td ty):=(AZ hu l n hs).imp fun σ H Q zz71=>B9 zz71 fun τ μ R hs hc h hq =>
 ⟨τ,μ,_,hs,hc,h,λx μ1 v H1 S1 p rx hx=>⟨τ,μ1,_,hs.kp S1,p,hx,λy μ2 u H2 S2 c2 ry hy=>by
  split at hy
  ·obtain⟨m,f,hy⟩:=A6 hy
   obtain⟨r,d,hy⟩:=A6 hy
   obtain⟨w,rfl,a⟩:=A6 hy
   obtain⟨j,g,b⟩:=Iy c2 f ry d
   cases j with
   | none=>exact b.elim
   | some z=>exact⟨_,z,(rx.kp S2).ref,g,hq _ _ _ _ (S1.trans S2) c2 b a⟩
  ·exact hy.elim⟩⟩
def BO(b:Bool->Bool)(ty td:AE):AE:=fun τ μ R=>ty τ μ λy μ1=>td τ μ1 λx μ2=>match x,y with
 | .R a,.D d=>opt (μ2 a) λm=>opt (dget m d) λr=>R (.D (.bool (b r.isSome))) μ2
 | _,_=>False
theorem Rs.some{o:Option AV}{r:Option V}(h:Rs K H o r):o.isSome=r.isSome:=by
 cases o <;> cases r <;> first | rfl | exact h.elim
theorem W5{K:jI}{σ:St}{H:Hp}{Q:VK}(h:cE K (BO (λb=>b) ty td) σ H Q):NK (cE K ty) (cE K td) σ H Q:=by
 obtain⟨τ,μ,R,a,hc,h,hq⟩:=h
 refine⟨τ,μ,_,a,hc,h,λy μ1 v H1 S1 n ry hx=>⟨τ,μ1,_,a.kp S1,n,hx,λx μ2 u H2 S2 c2 rx hy=>?_⟩⟩
 split at hy
 ·obtain⟨m,f,hy⟩:=A6 hy
  obtain⟨r,d,hy⟩:=A6 hy
  obtain⟨l,g,j⟩:=Iy c2 f (ry.kp S2) d
  refine⟨_,l,rx.ref,g,hq _ _ _ _ (S1.trans S2) c2 ?_ hy⟩
  rw [j.some];exact Gr
 ·exact hy.elim
theorem N6{K:jI}{σ:St}{H:Hp}{Q:VK}(h:cE K (BO (λb=>!b) ty td) σ H Q):Rk (cE K ty) (cE K td) σ H Q:=by
 obtain⟨τ,μ,R,a,hc,h,hq⟩:=h
 refine⟨τ,μ,_,a,hc,h,λy μ1 v H1 S1 n ry hx=>⟨τ,μ1,_,a.kp S1,n,hx,λx μ2 u H2 S2 c2 rx hy=>?_⟩⟩
 split at hy
 ·obtain⟨m,f,hy⟩:=A6 hy
  obtain⟨r,d,hy⟩:=A6 hy
  obtain⟨l,g,j⟩:=Iy c2 f (ry.kp S2) d
  refine⟨_,l,rx.ref,g,hq _ _ _ _ (S1.trans S2) c2 ?_ hy⟩
  rw [j.some];exact Gr
 ·exact hy.elim
theorem W7(hu:X.A.units+1 < cLine)(d:VE X i ty)(a:VE X o td)(h1:behindInMarks .In o=false:=by rfl):VE X (.Compare i [.In] [o] pos) (BO (λb=>b) ty td):=(FW (HD hu d a) h1).imp λ_ _ _ h=>W5 h
theorem Uj(hu:X.A.units+1 < cLine)(d:VE X i ty)(a:VE X o td)(h1:behindInMarks .NotIn o=false:=by rfl):VT X (.Compare i [.NotIn] [o] pos) (Lh (BO (λb=>!b) ty td)):=(FX (Ua hu d a) h1).imp λ_ _ _ h=>He (λ_ _ _ q=>N6 q) h
def W8(td ty tv:AE):AS:=λk _ _ _ τ μ=>tv τ μ λv μ1=>td τ μ1 λx μ2=>ty τ μ2 λy μ3=>match x,y with
 | .R a,.D d=>opt (μ3 a) λm=>opt (dput m d v) λb=>dsize m < sizeLine/\k τ (An μ3 a b)
 | _,_=>False
theorem Ed(hu:X.A.units+1 < cLine)(l:VE X o td)(p:VE X i ty)(hv:VE X value tv)(hs:swapsWith value (some (.Subscript o i de)) pos.line X.env=pure false:=by rfl):VS X (.Assign [.Subscript o i de] value pos) (W8 td ty tv):=(BA hu l p hv hs).imp λD σ H zz72=>Im zz72 fun τ μ nk nr nb nc hs hc h hq =>
 ⟨τ,μ,_,hs,hc,h,λv μ1 vv H1 S1 f rv h1=>⟨τ,μ1,_,hs.kp S1,f,h1,λx μ2 xv H2 S2 c2 rx h2=>⟨τ,μ2,_,hs.kp (S1.trans S2),c2,h2,λy μ3 yv H3 S3 c3 ry a=>by
  split at a
  ·obtain⟨m,d,a⟩:=A6 a
   obtain⟨s,b,a⟩:=A6 a
   obtain⟨j,g,n,q⟩:=BN c3 d ry (rv.kp (S2.trans S3)) b a.1
   have S:=S1.trans (S2.trans (S3.trans n))
   exact⟨_,j,(rx.kp S3).ref,g,hq.nx _ _ _ _ S (hs.kp S) q a.2⟩
  ·exact a.elim⟩⟩⟩
def IC:AE:=λ_ μ R=>∀p,μ p=none->R (.R p) (An μ p (.dk []))
def ID:AE:=λ_ μ R=>∀p,μ p=none->R (.R p) (An μ p (.dt []))
theorem OE{kvs:List (Key×AV)}{a:List (Key×V)}(h:E3 K H kvs a):Ir K H (.dk kvs) (.dK a):=⟨a,rfl,h⟩
theorem EM{kvs:List (List Key×AV)}{a:List (List Key×V)}(h:E3 K H kvs a):Ir K H (.dt kvs) (.dT a):=⟨a,rfl,h⟩
theorem Jp:VE X (.Dict [] [] pos) IC:=V6.imp fun σ H Q zz73=>B9 zz73 fun τ μ R hs hc h hq=>λp hp=>hq _ _ _ _ (Kp.new hp _) (hc.new hp (OE .nil)) Dt (h p (hc.none hp))
theorem Er:VE X (.Dict [] [] pos) ID:=V7.imp fun σ H Q zz74=>B9 zz74 fun τ μ R hs hc h hq=>λp hp=>hq _ _ _ _ (Kp.new hp _) (hc.new hp (EM .nil)) Dt (h p (hc.none hp))
end
end L2
namespace L2
theorem Et{α:Type}{b:List α}{n:Nat}(h:b.length=n+1):∃a t,b=a :: t/\t.length=n:=match b,h with | a :: t,h=>⟨a,t,rfl,Nat.succ.inj h⟩
theorem BP{α:Type}{b:List α}(h:b.length=1):∃a,b=[a]:=by
 obtain⟨a,t,rfl,h2⟩:=Et h
 rw [cJ h2];exact⟨a,rfl⟩
theorem ST{α:Type}{c:List α}(h:c.length=2):∃a b,c=[a,b]:=by
 obtain⟨a,t,rfl,h2⟩:=Et h
 obtain⟨b,rfl⟩:=BP h2
 exact⟨a,b,rfl⟩
open PySem PySem.Spec PySem.Calls PyProof.Rows
abbrev AX:=jH->List (Str×jG)->M->Prop
abbrev XN:=List AV->M->(AV->M->Prop)->AX->Prop
end L2
namespace L2
open PySem PySem.Spec PyProof.Rows
theorem E6{κ:Type} [DecidableEq κ]{k:κ}{v:AV}{r:List (κ×AV)}:Cg ((k,v) :: r) k=some v:=by
 unfold Cg
 simp only [List.find?_cons,decide_eq_true (rfl:k=k)];rfl
theorem Dp{κ:Type} [DecidableEq κ]{k a:κ}{v:AV}{r:List (κ×AV)}(h:a≠k):Cg ((a,v) :: r) k=Cg r k:=by
 unfold Cg
 simp only [List.find?_cons,decide_eq_false h]
theorem W9{α:Type}(g:α->Bool)(xs:List α):bools (xs.map λx=>.D (.bool (g x)))=some (xs.map g):=by
 rw [show(xs.map λx=>AV.D (.bool (g x)))=(xs.map g).map λb=>.D (.bool b) by rw [YT];rfl]
 exact Li _
theorem Uk{μ:M}{p:jH}{m:MO}(h:μ p=some m):An μ p m=μ:=by
 funext b
 unfold An
 split
 ·rename_i e;rw [e,h]
 ·rfl
theorem cmapf{α:Type}{p:jH}{g:AG}{tst:AT}{te:AE}{j:M->Prop}{R:M->Prop}{τ:ASt}{μ:M}(as:List α)(l:α->AV)(b:α->Bool)(f:α->AV)(a:ASt->Prop)(h0:a τ)(hp:μ p=some (.lst []))(o:as.length<=sizeLine)(hk:∀acc,j (An μ p (.lst acc)))
  (step:∀(i:Nat) (x:α) (τ':ASt) (acc:List AV) (W:ASt->AV->M->Prop) (h:ASt->M->Prop),as[i]?=some x->a τ'->(b x=true->∀ τ1,a τ1->W τ1 (f x) (An μ p (.lst acc)))->(b x=false->∀ τ1,a τ1->h τ1 (An μ p (.lst acc))) ->
   g (l x) τ' (An μ p (.lst acc)) fun τ1 μ1=>tst τ1 μ1 λk μ2=>brP k (te τ1 μ2 (W τ1)) (h τ1 μ2))
  (done:R (An μ p (.lst ((as.filter b).map f)))):cl p g tst te j R (as.map l) [] τ μ:=by
 refine Dv (λi acc τ' μ'=>a τ'/\acc=((as.take i).filter b).map f/\μ'=An μ p (.lst acc)) ⟨h0,by simp,(Uk hp).symm⟩ (λi acc τ μ' ⟨_,_,e⟩=>by rw [e];exact hk _) ?_ ?_
 ·rintro i y acc τ' μ' W hy ⟨m,rfl,rfl⟩ hW
  rw [H_]at hy
  obtain⟨x,hx,rfl⟩:=F_.mp hy
  have n:i < as.length:=(E_.mp hx).1
  have d:as.take (i+1)=as.take i++[x]:=by rw [Y_,hx];rfl
  refine step i x τ' _ (fun τ1 v μ3=>μ3 p=some (.lst (((as.take i).filter b).map f))/\(((as.take i).filter b).map f).length < sizeLine/\W ((((as.take i).filter b).map f)++[v]) τ1 (An μ3 p (.lst ((((as.take i).filter b).map f)++[v])))) (fun τ1 μ2=>W (((as.take i).filter b).map f) τ1 μ2) hx m (λhb τ1 c=>⟨Ab,?_,hW _ _ _ ⟨c,?_,Bh⟩⟩) (λhb τ1 c=>hW _ _ _ ⟨c,?_,rfl⟩)
  ·rw [B_]
   have h1:=ZM b (as.take i)
   rw [ZX]at h1
   omega
  ·rw [d,fF,N_,eX,S_ hb];rfl
  ·rw [d,fF,N_,eX,M_ (by rw [hb];exact R_)];simp
 ·rintro acc τ' μ' ⟨_,rfl,rfl⟩
  rw [B_,YY]
  exact done
theorem cmap{α:Type}{p:jH}{g:AG}{te:AE}{c:M->Prop}{R:M->Prop}{τ:ASt}{μ:M}(as:List α)(b f:α->AV)(a:ASt->Prop)(h0:a τ)(hp:μ p=some (.lst []))(d:as.length<=sizeLine)(hk:∀acc,c (An μ p (.lst acc)))
  (step:∀(i:Nat) (x:α) (τ':ASt) (acc:List AV) (W:ASt->AV->M->Prop),as[i]?=some x->a τ'->(∀ τ1,a τ1->W τ1 (f x) (An μ p (.lst acc)))->g (b x) τ' (An μ p (.lst acc)) fun τ1 μ1=>te τ1 μ1 (W τ1))
  (done:R (An μ p (.lst (as.map f)))):cl p g IA te c R (as.map b) [] τ μ:=by
 refine cmapf as b (λ_=>true) f a h0 hp d hk (λi x τ' acc W W2 hx sh h1 _=>?_) (by rw [List.filter_eq_self.mpr (λ_ _=>rfl)];exact done)
 have:=step i x τ' acc W hx sh (h1 rfl)
 simp only [IA,Wo]
 exact this
theorem OF{α:Type}{g:α->Bool}{as:List α}{μ:M}{p:jH}{R:AV->M->Prop}(h:μ p=some (.lst (as.map λx=>.D (.bool (g x)))))(q:R (.D (.bool (as.all g))) μ):HU [.R p] μ R:=by
 refine Ac h (Ac (W9 g as) ?_)
 rw [List.all_map]
 exact q
def rk:jG->Nat
 | .none=>0 | .bool _=>1 | .int _=>2 | .str _=>3 | .list _=>4 | .tuple _=>5 | .dict _=>6
def OG(a b:Str):Bool:=decide (a.cps.toList < b.cps.toList)
mutual
def EN:jG->jG->Bool
 | .int a,.int b=>decide (a < b)
 | .str a,.str b=>OG a b
 | .tuple c,.tuple d=>Ku c d
 | x,y=>decide (rk x < rk y)
def Ku:List jG->List jG->Bool
 | [],[]=>false
 | [],_ :: _=>true
 | _ :: _,[]=>false
 | x :: b,y :: a=>if PyData.eqv x y then Ku b a else EN x y
end
mutual
theorem Xa:∀(x y:jG),Cano x=true->Cano y=true->PyData.eqv x y=true->x=y
 | .int a,.int b,_,_,h=>by simp [PyData.eqv]at h;rw [h]
 | .str a,.str b,_,_,h=>by simp [PyData.eqv]at h;rw [h]
 | .tuple c,.tuple d,h1,h2,h=>by
  simp only [Cano]at h1 h2
  rw [PyData.eqv]at h
  rw [Rt c d h1 h2 h]
 | .int _,.str _,_,_,h=>by simp [PyData.eqv]at h
 | .int _,.tuple _,_,_,h=>by simp [PyData.eqv]at h
 | .str _,.int _,_,_,h=>by simp [PyData.eqv]at h
 | .str _,.tuple _,_,_,h=>by simp [PyData.eqv]at h
 | .tuple _,.int _,_,_,h=>by simp [PyData.eqv]at h
 | .tuple _,.str _,_,_,h=>by simp [PyData.eqv]at h
 | .none,_,h,_,_=>by simp [Cano]at h
 | .bool _,_,h,_,_=>by simp [Cano]at h
 | .list _,_,h,_,_=>by simp [Cano]at h
 | .dict _,_,h,_,_=>by simp [Cano]at h
 | .int _,.none,_,h,_=>by simp [Cano]at h
 | .int _,.bool _,_,h,_=>by simp [Cano]at h
 | .int _,.list _,_,h,_=>by simp [Cano]at h
 | .int _,.dict _,_,h,_=>by simp [Cano]at h
 | .str _,.none,_,h,_=>by simp [Cano]at h
 | .str _,.bool _,_,h,_=>by simp [Cano]at h
 | .str _,.list _,_,h,_=>by simp [Cano]at h
 | .str _,.dict _,_,h,_=>by simp [Cano]at h
 | .tuple _,.none,_,h,_=>by simp [Cano]at h
 | .tuple _,.bool _,_,h,_=>by simp [Cano]at h
 | .tuple _,.list _,_,h,_=>by simp [Cano]at h
 | .tuple _,.dict _,_,h,_=>by simp [Cano]at h
theorem Rt:∀(xs ys:List jG),A9 xs=true->A9 ys=true->PyData.eqvAll xs ys=true->xs=ys
 | [],[],_,_,_=>rfl
 | [],_ :: _,_,_,h=>by simp [PyData.eqvAll]at h
 | _ :: _,[],_,_,h=>by simp [PyData.eqvAll]at h
 | x :: xs,y :: ys,h1,h2,h=>by
  simp only [A9,Bool.and_eq_true]at h1 h2
  rw [PyData.eqvAll,ZJ]at h
  rw [Xa x y h1.1 h2.1 h.1,Rt xs ys h1.2 h2.2 h.2]
end
mutual
theorem Jq:∀(x:jG),Cano x=true->PyData.eqv x x=true
 | .int a,_=>by simp [PyData.eqv]
 | .str a,_=>by simp [PyData.eqv]
 | .tuple b,h=>by rw [PyData.eqv];exact Lk b (by simpa only [Cano] using h)
 | .none,h=>by simp [Cano]at h
 | .bool _,h=>by simp [Cano]at h
 | .list _,h=>by simp [Cano]at h
 | .dict _,h=>by simp [Cano]at h
theorem Lk:∀(xs:List jG),A9 xs=true->PyData.eqvAll xs xs=true
 | [],_=>rfl
 | x :: xs,h=>by
  simp only [A9,Bool.and_eq_true]at h
  rw [PyData.eqvAll,Jq x h.1,Lk xs h.2];rfl
end
theorem IE{x y:jG}(hx:Cano x=true)(hy:Cano y=true):PyData.eqv x y=false↔x≠y:=by
 constructor
 ·rintro h rfl
  rw [Jq x hx]at h;cases h
 ·intro h
  cases e:PyData.eqv x y with
  | false=>rfl
  | true=>exact absurd (Xa x y hx hy e) h
end L2
namespace L2
open PySem PySem.W PyProof.Rows
def gallop':Bool->jR->Array jR->Nat->Nat->Nat->StateT jV Sem (Option Nat):=sortPriv% PySem.Builtin.gallop
def setMinGallop':Nat->StateT jV Sem Unit:=sortPriv% PySem.Builtin.setMinGallop
theorem Pz(left:Bool)(b:jR)(e:Array jR)(base n a:Nat):gallop' left b e base n a=(do
 let d (i:Nat):StateT jV Sem (Option Bool):=do
  let x <- elem' e (base+i)
  if left then lt' x b else return (<- lt' b x).map (!·)
 let mut lastofs:=0
 let mut ofs:=1
 let mut lo:=0
 let mut hi:=0
 let some right <- d a | return none
 if right then
  let c:=n - a
  for _ in [0:n] do
   if ofs>=c then break
   let some more <- d (a+ofs) | return none
   if !more then break
   lastofs:=ofs
   ofs:=2 * ofs+1
  lo:=a+lastofs+1
  hi:=a+min ofs c
 else
  let c:=a+1
  for _ in [0:n] do
   if ofs>=c then break
   let some found <- d (a - ofs) | return none
   if found then break
   lastofs:=ofs
   ofs:=2 * ofs+1
  lo:=a+1 - min ofs c
  hi:=a - lastofs
 for _ in [0:n] do
  if lo>=hi then break
  let m:=lo+(hi - lo) / 2
  let some more <- d m | return none
  if more then lo:=m+1 else hi:=m
 return some hi):=rfl
section
variable {prog:jJ}{w:jK}{A:jM}{E:i_->jA->Prop}{s:jA}{κ:jW}{it:Array jR}{n:Nat}{lt:Nat->Nat->Bool}
def byd(left:Bool)(a:jR)(b:Array jR)(base i:Nat):StateT jV Sem (Option Bool):=do
 let x <- elem' b (base+i)
 if left then lt' x a else return (<- lt' a x).map (!·)
end
def mergeLo':Array jR->Array jR->StateT jV Sem (Array jR):=sortPriv% PySem.Builtin.mergeLo
def mergeHi':Array jR->Array jR->StateT jV Sem (Array jR):=sortPriv% PySem.Builtin.mergeHi
theorem Cj(g:Nat):setMinGallop' g=modify λst=>SortSt.mk' (kindOf st) (arrOf st) (pendingOf st) g (failedOf st):=rfl
theorem N7(a b:Array jR):mergeLo' a b=(do
 rule "list.sort.merge-lo"
 let f:=a.size+b.size
 let done (out:Array jR) (c d:Nat):=out++a.extract c a.size++b.extract d b.size
 let e (out:Array jR) (c d:Nat):=out++b.extract d b.size++a.extract c a.size
 let mut out:Array jR:=#[<- elem' b 0]
 let mut c:=0
 let mut d:=1
 if d==b.size then return done out c d
 if c+1==a.size then return e out c d
 let mut minGallop:=gallopOf (<- get)
 for _ in [0:f] do
  let mut acount:=0
  let mut bcount:=0
  for _ in [0:f] do
   let some bWins <- lt' (<- elem' b d) (<- elem' a c) | return done out c d
   if bWins then
    out:=out.push (<- elem' b d);d:=d+1;bcount:=bcount+1;acount:=0
    if d==b.size then return done out c d
    if bcount>=minGallop then break
   else
    out:=out.push (<- elem' a c);c:=c+1;acount:=acount+1;bcount:=0
    if c+1==a.size then return e out c d
    if acount>=minGallop then break
  rule "list.sort.gallop"
  minGallop:=minGallop+1
  for _ in [0:f] do
   if minGallop > 1 then minGallop:=minGallop - 1
   setMinGallop' minGallop
   let some k <- gallop' false (<- elem' b d) a c (a.size - c) 0 | return done out c d
   acount:=k
   if k > 0 then
    out:=out++a.extract c (c+k);c:=c+k
    if c+1==a.size then return e out c d
    if c==a.size then return done out c d
   out:=out.push (<- elem' b d);d:=d+1
   if d==b.size then return done out c d
   let some k <- gallop' true (<- elem' a c) b d (b.size - d) 0 | return done out c d
   bcount:=k
   if k > 0 then
    out:=out++b.extract d (d+k);d:=d+k
    if d==b.size then return done out c d
   out:=out.push (<- elem' a c);c:=c+1
   if c+1==a.size then return e out c d
   if acount < 7 && bcount < 7 then break
  minGallop:=minGallop+1
  setMinGallop' minGallop
 unsupported "internal:list.sort.merge-bound"):=rfl
section
variable {prog:jJ}{w:jK}{A:jM}{E:i_->jA->Prop}{s:jA}{κ:jW}{it:Array jR}{n:Nat}{lt:Nat->Nat->Bool}
abbrev UU(p:Array Nat)(i:Nat):Nat:=p.getD i 0
def In(n:Nat)(p:Array Nat):Prop:=∀i,i < p.size->UU p i < n
structure MI(lt:Nat->Nat->Bool)(a b out:Array Nat)(ia ib:Nat):Prop where
 ha:ia<=a.size
 hb:ib<=b.size
 sz:out.size=ia+ib
 perm:out.toList.Perm (a.toList.take ia++b.toList.take ib)
 srt:out.toList.Pairwise λx y=>lt y x=false
 lea:∀x∈out.toList,∀j,ia<=j->j < a.size->lt (UU a j) x=false
 leb:∀x∈out.toList,∀j,ib<=j->j < b.size->lt (UU b j) x=false
abbrev OH:=Option (Array jR)×Array jR×Nat×Nat×Nat×Nat×Nat
abbrev Ch(st:jV)(g:Nat):jV:=SortSt.mk' (kindOf st) (arrOf st) (pendingOf st) g (failedOf st)
def BQ(a b c:Array jR)(d e mg g f:Nat):StateT jV Sem (ForInStep OH) :=
 elem' a d >>= λy =>
  if(d+1+1==a.size)=true then pure (ForInStep.done (some (c.push y++b.extract e b.size++a.extract (d+1) a.size),c.push y,d+1,e,mg,g,f))
  else if(decide (g < 7) && decide (f < 7))=true then pure (ForInStep.done (none,c.push y,d+1,e,mg,g,f))
  else pure (ForInStep.yield (none,c.push y,d+1,e,mg,g,f))
def BR(a b d:Array jR)(e c mg f g:Nat):StateT jV Sem (ForInStep OH) :=
 elem' b c >>= λy =>
  if(c+1==b.size)=true then pure (ForInStep.done (some (d.push y++a.extract e a.size++b.extract (c+1) b.size),d.push y,e,c+1,mg,f,g))
  else elem' a e >>= λz=>gallop' true z b (c+1) (b.size - (c+1)) 0 >>= λx =>
   match x with
   | some k=>if k > 0 then
     (if(c+1+k==b.size)=true then pure (ForInStep.done (some (d.push y++b.extract (c+1) (c+1+k)++a.extract e a.size++b.extract (c+1+k) b.size),d.push y++b.extract (c+1) (c+1+k),e,c+1+k,mg,f,k))
     else BQ a b (d.push y++b.extract (c+1) (c+1+k)) e (c+1+k) mg f k)
    else BQ a b (d.push y) e (c+1) mg f k
   | _=>pure (ForInStep.done (some (d.push y++a.extract e a.size++b.extract (c+1) b.size),d.push y,e,c+1,mg,f,g))
def IF(a b d:Array jR)(c e mg g f:Nat):StateT jV Sem (ForInStep OH) :=
 setMinGallop' mg >>= λ_=>elem' b e >>= λy=>gallop' false y a c (a.size - c) 0 >>= λx =>
  match x with
  | some k=>if k > 0 then
    (if(c+k+1==a.size)=true then pure (ForInStep.done (some (d++a.extract c (c+k)++b.extract e b.size++a.extract (c+k) a.size),d++a.extract c (c+k),c+k,e,mg,k,f))
    else if(c+k==a.size)=true then pure (ForInStep.done (some (d++a.extract c (c+k)++a.extract (c+k) a.size++b.extract e b.size),d++a.extract c (c+k),c+k,e,mg,k,f))
    else BR a b (d++a.extract c (c+k)) (c+k) e mg k f)
   else BR a b d c e mg k f
  | _=>pure (ForInStep.done (some (d++a.extract c a.size++b.extract e b.size),d,c,e,mg,g,f))
section
variable {a b:Array Nat}{st:jV}{Qd Qy:OH->jV->Prop}{out:Array Nat}{ia ib mg ac bc:Nat}
end
end
theorem N8(a b:Array jR):mergeHi' a b=(do
 rule "list.sort.merge-hi"
 let d:=a.size+b.size
 let done (out:Array jR) (na nb:Nat):=a.extract 0 na++b.extract 0 nb++out.reverse
 let c (out:Array jR) (na nb:Nat):=b.extract 0 nb++a.extract 0 na++out.reverse
 let mut na:=a.size - 1
 let mut nb:=b.size
 let mut out:Array jR:=#[<- elem' a na]
 if na==0 then return done out na nb
 if nb==1 then return c out na nb
 let mut minGallop:=gallopOf (<- get)
 for _ in [0:d] do
  let mut acount:=0
  let mut bcount:=0
  for _ in [0:d] do
   let some aWins <- lt' (<- elem' b (nb - 1)) (<- elem' a (na - 1)) | return done out na nb
   if aWins then
    na:=na - 1;out:=out.push (<- elem' a na);acount:=acount+1;bcount:=0
    if na==0 then return done out na nb
    if acount>=minGallop then break
   else
    nb:=nb - 1;out:=out.push (<- elem' b nb);bcount:=bcount+1;acount:=0
    if nb==1 then return c out na nb
    if bcount>=minGallop then break
  rule "list.sort.gallop"
  minGallop:=minGallop+1
  for _ in [0:d] do
   if minGallop > 1 then minGallop:=minGallop - 1
   setMinGallop' minGallop
   let some at_ <- gallop' false (<- elem' b (nb - 1)) a 0 na (na - 1) | return done out na nb
   let k:=na - at_
   acount:=k
   if k > 0 then
    out:=out++(a.extract at_ na).reverse;na:=at_
    if na==0 then return done out na nb
   nb:=nb - 1;out:=out.push (<- elem' b nb)
   if nb==1 then return c out na nb
   let some at_ <- gallop' true (<- elem' a (na - 1)) b 0 nb (nb - 1) | return done out na nb
   let k:=nb - at_
   bcount:=k
   if k > 0 then
    out:=out++(b.extract at_ nb).reverse;nb:=at_
    if nb==1 then return c out na nb
    if nb==0 then return done out na nb
   na:=na - 1;out:=out.push (<- elem' a na)
   if na==0 then return done out na nb
   if acount < 7 && bcount < 7 then break
  minGallop:=minGallop+1
  setMinGallop' minGallop
 unsupported "internal:list.sort.merge-bound"):=rfl
section
variable {prog:jJ}{w:jK}{A:jM}{E:i_->jA->Prop}{s:jA}{κ:jW}{it:Array jR}{n:Nat}{lt:Nat->Nat->Bool}
section
variable {a b out:Array Nat}{na nb:Nat}
end
abbrev OI:=Option (Array jR)×Nat×Nat×Array jR×Nat×Nat×Nat
def BS(a b c:Array jR)(d f mg g e:Nat):StateT jV Sem (ForInStep OI) :=
 elem' a (d - 1) >>= λy =>
  if(d - 1==0)=true then pure (ForInStep.done (some (a.extract 0 (d - 1)++b.extract 0 f++(c.push y).reverse),d - 1,f,c.push y,mg,g,e))
  else if(decide (g < 7) && decide (e < 7))=true then pure (ForInStep.done (none,d - 1,f,c.push y,mg,g,e))
  else pure (ForInStep.yield (none,d - 1,f,c.push y,mg,g,e))
def BT(a b c:Array jR)(e d mg f g:Nat):StateT jV Sem (ForInStep OI) :=
 elem' b (d - 1) >>= λy =>
  if(d - 1==1)=true then pure (ForInStep.done (some (b.extract 0 (d - 1)++a.extract 0 e++(c.push y).reverse),e,d - 1,c.push y,mg,f,g))
  else elem' a (e - 1) >>= λz=>gallop' true z b 0 (d - 1) (d - 1 - 1) >>= λx =>
   match x with
   | some k=>if d - 1 - k > 0 then
     (if(k==1)=true then pure (ForInStep.done (some (b.extract 0 k++a.extract 0 e++(c.push y++(b.extract k (d - 1)).reverse).reverse),e,k,c.push y++(b.extract k (d - 1)).reverse,mg,f,d - 1 - k))
     else if(k==0)=true then pure (ForInStep.done (some (a.extract 0 e++b.extract 0 k++(c.push y++(b.extract k (d - 1)).reverse).reverse),e,k,c.push y++(b.extract k (d - 1)).reverse,mg,f,d - 1 - k))
     else BS a b (c.push y++(b.extract k (d - 1)).reverse) e k mg f (d - 1 - k))
    else BS a b (c.push y) e (d - 1) mg f (d - 1 - k)
   | _=>pure (ForInStep.done (some (a.extract 0 e++b.extract 0 (d - 1)++(c.push y).reverse),e,d - 1,c.push y,mg,f,g))
def IG(a b c:Array jR)(d e mg g f:Nat):StateT jV Sem (ForInStep OI) :=
 setMinGallop' mg >>= λ_=>elem' b (e - 1) >>= λy=>gallop' false y a 0 d (d - 1) >>= λx =>
  match x with
  | some k=>if d - k > 0 then
    (if(k==0)=true then pure (ForInStep.done (some (a.extract 0 k++b.extract 0 e++(c++(a.extract k d).reverse).reverse),k,e,c++(a.extract k d).reverse,mg,d - k,f))
    else BT a b (c++(a.extract k d).reverse) k e mg (d - k) f)
   else BT a b c d e mg (d - k) f
  | _=>pure (ForInStep.done (some (a.extract 0 d++b.extract 0 e++c.reverse),d,e,c,mg,g,f))
section
variable {a b:Array Nat}{st:jV}{Qd Qy:OI->jV->Prop}{out:Array Nat}{na nb mg ac bc:Nat}
end
end
theorem N9(i:Nat):mergeAt' i=(do
 let s <- get
 let(some (d,b,e),some (f,c,_)):=((pendingOf s)[i]?,(pendingOf s)[i+1]?) | unsupported "internal:list.sort.pending"
 set (setPending s (((pendingOf s).setIfInBounds i (d,b+c,e)).eraseIdxIfInBounds (i+1)))
 let some k <- gallop' false (<- elem' (arrOf s) f) (arrOf s) d b 0 | return false
 let(d,b):=(d+k,b - k)
 if b==0 then return true
 let some c <- gallop' true (<- elem' (arrOf s) (d+b - 1)) (arrOf s) f c (c - 1) | return false
 if c==0 then return true
 let x:=(arrOf s).extract d f
 let y:=(arrOf s).extract f (f+c)
 let merged <- if b<=c then mergeLo' x y else mergeHi' x y
 modify λs=>setArr s (merged.toList.zipIdx.foldl (λa (p,j)=>a.setIfInBounds (d+j) p) (arrOf s))
 return (failedOf (<- get)).isNone):=rfl
section
variable {prog:jJ}{w:jK}{A:jM}{E:i_->jA->Prop}{s:jA}{κ:jW}{it:Array jR}{n:Nat}{lt:Nat->Nat->Bool}{p:Array Nat}{pd:Array (Nat×Nat×Nat)}{g:Nat}
theorem BU{σ:Type}{M:Model}{x:σ}{Q:PUnit->σ->Prop}{st:σ}(h:Q ⟨⟩ x):wpS M A E s (set x:StateT σ Sem PUnit) Q st:=by
 unfold wpS;rw [StateT.run_set];exact C_ ⟨rfl,h⟩
def wr{α:Type}(a:Nat):List α->Nat->Array α->Array α
 | [],_,p=>p
 | x :: b,k,p=>wr a b (k+1) (p.setIfInBounds (a+k) x)
theorem Ru{α:Type}(b:Nat):∀(xs:List α) (k:Nat) (p:Array α),(xs.zipIdx k).foldl (λa (z:α×Nat)=>a.setIfInBounds (b+z.2) z.1) p=wr b xs k p
 | [],_,_=>rfl
 | x :: xs,k,p=>by
  rw [List.zipIdx_cons,cW,wr]
  exact Ru b xs (k+1) _
theorem Xb{α:Type}(a:Nat):∀(xs:List α) (k:Nat) (p:Array α),a+k+xs.length<=p.size->∀i:Nat,(wr a xs k p)[i]?=if a+k<=i/\i < a+k+xs.length then xs[i - (a+k)]? else p[i]?
 | [],k,p,_,i=>by rw [wr,M_ (by simp only [List.length_nil];omega)]
 | x :: xs,k,p,h,i=>by
  rw [ZS]at h
  rw [wr,Xb a xs (k+1) _ (by rw [Array.size_setIfInBounds];omega),Array.getElem?_setIfInBounds,ZS]
  by_cases h1:a+k=i
  ·subst h1
   rw [M_ (by omega),S_ rfl,S_ (by omega),S_ (by omega),iX];rfl
  ·by_cases h2:a+(k+1)<=i/\i < a+(k+1)+xs.length
   ·rw [S_ h2,S_ (by omega)]
    rw [show i - (a+k)=i - (a+(k+1))+1 by omega,List.getElem?_cons_succ]
   ·rw [M_ h2,M_ h1,M_ (by omega)]
def Xc(lo a n:Nat):StateT jV Sem (Option Nat):=do
 reverseSlice' lo (lo+n)
 let mut n:=n
 for _ in [n:a] do
  let some smaller <- ltAt' (lo+n) (lo+n - 1) | return none
  if smaller then break
  n:=n+1
 return some n
def Xd(lo a n:Nat):StateT jV Sem (Option Nat):=do
 rule "list.sort.descending-run"
 let mut n:=n+1
 let mut neq:=0
 for _ in [n:a] do
  let some smaller <- ltAt' (lo+n) (lo+n - 1) | return none
  if smaller then
   if neq > 0 then reverseSlice' (lo+n - (neq+1)) (lo+n)
   neq:=0
  else
   let some larger <- ltAt' (lo+n - 1) (lo+n) | return none
   if larger then break
   neq:=neq+1
  n:=n+1
 if neq > 0 then reverseSlice' (lo+n - (neq+1)) (lo+n)
 Xc lo a n
theorem Mx(lo a:Nat):countRun' lo a=(do
 let mut n:=1
 for _ in [1:a] do
  let some smaller <- ltAt' (lo+n) (lo+n - 1) | return none
  if smaller then break
  n:=n+1
 if n==a then return some n
 if n > 1 then
  let some rose <- ltAt' lo (lo+n - 1) | return none
  if rose then return some n
  reverseSlice' lo (lo+n)
 Xd lo a n):=rfl
def Chain:List (Nat×Nat×Nat)->Nat->Nat->Prop
 | [],lo,b=>lo=b
 | (a,l,_) :: r,lo,b=>a=lo/\0 < l/\Chain r (lo+l) b
theorem Chain.le:∀{l:List (Nat×Nat×Nat)} {lo b:Nat},Chain l lo b->lo+l.length<=b
 | [],_,_,h=>by cases h;simp
 | (a,l,_) :: r,lo,b,h=>by have:=h.2.2.le;have:=h.2.1;rw [ZS];omega
theorem Chain.app:∀{l m:List (Nat×Nat×Nat)} {lo b:Nat},Chain (l++m) lo b↔∃k,Chain l lo k/\Chain m k b
 | [],m,lo,b=>⟨λh=>⟨lo,rfl,h⟩,λ⟨k,e,h⟩=>by cases e;exact h⟩
 | (a,l,q) :: r,m,lo,b=>by
  constructor
  ·rintro⟨h1,h2,c⟩
   obtain⟨k,f,i⟩:=Chain.app.mp c
   exact⟨k,⟨h1,h2,f⟩,i⟩
  ·rintro⟨k,⟨h1,h2,c⟩,d⟩
   exact⟨h1,h2,Chain.app.mpr ⟨k,c,d⟩⟩
theorem Oa{l:List (Nat×Nat×Nat)}{i:Nat}{a b:Nat×Nat×Nat}(h1:l[i]?=some a)(h2:l[i+1]?=some b):l=l.take i++a :: b :: l.drop (i+2):=by
 obtain⟨d,e⟩:=E_.mp h1
 obtain⟨h,f⟩:=E_.mp h2
 have c:=(eQ i l).symm
 rw [ZU d,ZU h,e,f]at c
 exact c
theorem BV{pd:Array (Nat×Nat×Nat)}{i:Nat}{a b c:Nat×Nat×Nat}(h1:pd[i]?=some a)(h2:pd[i+1]?=some b):((pd.setIfInBounds i c).eraseIdxIfInBounds (i+1)).toList=pd.toList.take i++c :: pd.toList.drop (i+2):=by
 have f:pd.toList[i]?=some a:=by rw [YN];exact h1
 have d:pd.toList[i+1]?=some b:=by rw [YN];exact h2
 have j:=(E_.mp f).1
 have hj:=(E_.mp d).1
 rw [Array.toList_eraseIdxIfInBounds,Array.toList_setIfInBounds,List.eraseIdx_eq_take_drop_succ,List.take_set,List.drop_set_of_lt (by omega)]
 have e:=Oa f d
 have h:(pd.toList.take i).length=i:=by rw [ZX];omega
 rw [show i+1+1=i+2 from rfl]
 have:(pd.toList.take (i+1)).set i c=pd.toList.take i++[c]:=by
  rw [Y_,f,List.set_append_right _ _ (eD h),h,iX];rfl
 rw [this,fV];rfl
theorem Chain.mod{f:Nat×Nat×Nat->Nat×Nat×Nat}(c:∀e,(f e).1=e.1/\(f e).2.1=e.2.1):∀{l:List (Nat×Nat×Nat)} {i lo b:Nat},Chain l lo b->Chain (l.modify i f) lo b
 | [],i,lo,b,h=>by rw [List.modify_nil];exact h
 | (a,l,q) :: r,0,lo,b,h=>by
  rw [List.modify_zero_cons]
  have:=c (a,l,q)
  generalize f (a,l,q)=e at this
  obtain⟨j,k,d⟩:=e
  obtain⟨h1,h2⟩:=this
  dsimp only at h1 h2
  subst h1
  subst h2
  exact h
 | (a,l,q) :: r,i+1,lo,b,h=>by
  rw [List.modify_succ_cons]
  exact⟨h.1,h.2.1,h.2.2.mod c⟩
end
end L2
namespace L2
open PySem
def Xe(A:jM)(s:jA)(u v:i_)(b:Bool):Prop:=∀(prog:jJ) (w:jK) (E:i_->jA->Prop) (Q:i_->jA->Prop),Q (.bool b) s->wpAny (model prog w) A (richCompare .Lt u v) Q E s
inductive LexAt (A:jM) (s:jA):List i_->List i_->Bool->Prop
 | nil {ys:List i_}:LexAt A s [] ys (decide (0 < ys.length))
 | stop {x:i_} {xs:List i_}:LexAt A s (x :: xs) [] false
 | eq {x y:i_} {xs ys:List i_} {r:Bool}:SeqAt.EqAt A s x y true->LexAt A s xs ys r->LexAt A s (x :: xs) (y :: ys) r
 | ne {x y:i_} {xs ys:List i_} {r:Bool}:SeqAt.EqAt A s x y false->Xe A s x y r->LexAt A s (x :: xs) (y :: ys) r
section
variable {prog:jJ}{w:jK}{A:jM}{E:i_->jA->Prop}{s:jA}
theorem LexAt.ends{xs ys:List i_}{r:Bool}(h:LexAt A s xs ys r)(e:xs.zip ys=[]):r=decide (xs.length < ys.length):=by
 cases h with
 | nil=>simp
 | stop=>simp
 | eq=>simp at e
 | ne=>simp at e
theorem Kv{a b:jH}{p i:jO}{xs ys:Array i_}{n k:Nat}{P:PySem.Fin->jA->Prop}{r:Bool}(ha:s.heap.get? a=some p)(hb:s.heap.get? b=some i)(x:i.cls=.type "tuple") (t:p.data=.seq xs n) (z:i.data=.seq ys k)
  (h:LexAt A s xs.toList ys.toList r) (q:P (.done (.ret (.bool r))) s):wpAny (model prog w) A (Builtin.«tuple.__lt__» ⟨[.ref a,.ref b],[]⟩) P E s:=by
 have y:s.TypeIs (.ref b) "tuple" := ⟨i,hb,x⟩
 refine(show wpAny _ _ (isInstance (.ref b) (.type "tuple") >>= _) _ _ s from A_ (bD y isSubtype_tuple_tuple ?_))
 rw [show(!true)=false from rfl,M_ R_]
 refine A_ (h_ ha t (A_ (h_ hb z (A_ ?_))))
 refine dZ _ (λleft g l=>g.1=none/\l=s/\∃d f,left=List.zip d f/\LexAt A s d f r/\decide (d.length < f.length)=decide (xs.size < ys.size)) _ ?_ ?_ _ _ ⟨rfl,rfl,xs.toList,ys.toList,rfl,h,by simp⟩
 ·rintro⟨u,v⟩ left g l ⟨o,rfl,d,f,c,j,m⟩
  cases j with
  | nil=>simp at c
  | stop=>simp at c
  | eq h1 h2 =>
   simp only [List.zip_cons_cons,List.cons.injEq,Prod.mk.injEq]at c
   obtain⟨⟨rfl,rfl⟩,rfl⟩:=c
   refine A_ (h1 prog w _ _ ?_)
   dsimp only
   rw [show(!true)=false from rfl,M_ R_]
   exact C_ ⟨rfl,rfl,_,_,rfl,h2,by simpa using m⟩
  | ne h1 h2 =>
   simp only [List.zip_cons_cons,List.cons.injEq,Prod.mk.injEq]at c
   obtain⟨⟨rfl,rfl⟩,rfl⟩:=c
   refine A_ (h1 prog w _ _ ?_)
   simp only [Bool.not_false,if_true]
   exact A_ (bE (A_ (h2 prog w _ _ (A_ (C_ (C_ (C_ q)))))))
 ·rintro⟨B,a2⟩ l ⟨o,rfl,d,f,c,j,m⟩
  simp only at o
  subst o
  have e:=j.ends c.symm
  rw [e,m]at q
  exact C_ q
theorem P0{a b:jH}{c d:jO}{xs ys:Array i_}{n k:Nat}{r:Bool}(ha:s.heap.get? a=some c)(hb:s.heap.get? b=some d)(f:c.cls=.type "tuple") (e:d.cls=.type "tuple") (g:c.data=.seq xs n) (i:d.data=.seq ys k)
  (hu:A.units < cLine) (h:LexAt A.in1 s xs.toList ys.toList r):Xe A s (.ref a) (.ref b) r:=λprog w E Q q =>
 wpAny_richCompare_same_room (T := "tuple") ⟨c,ha,f⟩ ⟨d,hb,e⟩ F.slot_tuple_lt (ZI F.slot_tuple_lt ⟨c,ha,f⟩ F.entry_tuple_lt (Kv ha hb e g i h ⟨_,rfl,(λz=>nomatch z),q⟩) (F.args_tuple_lt_2 _ _)) hu
end
mutual
def cmpb:jG->jG->Bool
 | .int _,.int _=>true
 | .tuple b,.tuple a=>cmpbs b a
 | _,_=>false
def cmpbs:List jG->List jG->Bool
 | [],_=>true
 | _ :: _,[]=>true
 | x :: b,y :: a=>if PyData.eqv x y then cmpbs b a else cmpb x y
end
theorem Xf{u a b c d:Nat}(h:u+min (max a b) (max c d) < cLine):u+min a c < cLine:=by omega
theorem IH{u a b c d:Nat}(h:u+min (max a b) (max c d) < cLine):u+min b d < cLine:=by omega
mutual
theorem Jr:∀(x y:jG) (A:jM) (s:jA) (u v:i_) (as c:List jH),Reads s.heap u x as->Reads s.heap v y c->x.canLay0=true->y.canLay0=true->cmpb x y=true->A.units+min x.depth y.depth < cLine->Xe A s u v (EN x y)
 | .int a,.int b,A,s,u,v,as,c,i,d,_,_,_,_=>by
  cases i;cases d
  intro k w E Q q
  have e:EN (.int a) (.int b)=decide (a < b):=by simp [EN]
  rw [e]at q
  exact wpAny_lt_int q
 | .tuple f,.tuple g,A,s,u,v,as,c,i,d,j,c2,hc,hu=>by
  cases i with
  | tuple m a2 o n =>
   cases d with
   | tuple l r p t =>
    have e:EN (.tuple f) (.tuple g)=Ku f g:=by simp [EN]
    rw [e]
    simp only [PyData.canLay0]at j c2
    simp only [cmpb]at hc
    simp only [PyData.depth]at hu
    refine P0 m l a2 r o p (by omega) (Fh f g A.in1 s _ _ _ _ n t j c2 hc ?_)
    show A.units+1+_ < _
    omega
 | .int _,.none,_,_,_,_,_,_,_,_,_,_,h,_=>by simp [cmpb]at h
 | .int _,.bool _,_,_,_,_,_,_,_,_,_,_,h,_=>by simp [cmpb]at h
 | .int _,.str _,_,_,_,_,_,_,_,_,_,_,h,_=>by simp [cmpb]at h
 | .int _,.list _,_,_,_,_,_,_,_,_,_,_,h,_=>by simp [cmpb]at h
 | .int _,.tuple _,_,_,_,_,_,_,_,_,_,_,h,_=>by simp [cmpb]at h
 | .int _,.dict _,_,_,_,_,_,_,_,_,_,_,h,_=>by simp [cmpb]at h
 | .tuple _,.none,_,_,_,_,_,_,_,_,_,_,h,_=>by simp [cmpb]at h
 | .tuple _,.bool _,_,_,_,_,_,_,_,_,_,_,h,_=>by simp [cmpb]at h
 | .tuple _,.str _,_,_,_,_,_,_,_,_,_,_,h,_=>by simp [cmpb]at h
 | .tuple _,.list _,_,_,_,_,_,_,_,_,_,_,h,_=>by simp [cmpb]at h
 | .tuple _,.int _,_,_,_,_,_,_,_,_,_,_,h,_=>by simp [cmpb]at h
 | .tuple _,.dict _,_,_,_,_,_,_,_,_,_,_,h,_=>by simp [cmpb]at h
 | .none,_,_,_,_,_,_,_,_,_,_,_,h,_=>by simp [cmpb]at h
 | .bool _,_,_,_,_,_,_,_,_,_,_,_,h,_=>by simp [cmpb]at h
 | .str _,_,_,_,_,_,_,_,_,_,_,_,h,_=>by simp [cmpb]at h
 | .list _,_,_,_,_,_,_,_,_,_,_,_,h,_=>by simp [cmpb]at h
 | .dict _,_,_,_,_,_,_,_,_,_,_,_,h,_=>by simp [cmpb]at h
theorem Fh:∀(xs ys:List jG) (A:jM) (s:jA) (c a:List i_) (as f:List jH),ReadsAll s.heap c xs as->ReadsAll s.heap a ys f->PyData.canLayAll0 xs=true->PyData.canLayAll0 ys=true->cmpbs xs ys=true->A.units+min (PyData.depthAll xs) (PyData.depthAll ys) < cLine->LexAt A s c a (Ku xs ys)
 | [],ys,A,s,c,a,as,f,d,b,_,_,_,_=>by
  cases d
  have e:Ku [] ys=decide (0 < a.length):=by
   cases b <;> simp [Ku]
  rw [e]
  exact .nil
 | x :: xs,[],A,s,c,a,as,f,d,b,_,_,_,_=>by
  cases b
  cases d with
  | cons h a2 =>
   have e:Ku (x :: xs) []=false:=by simp [Ku]
   rw [e]
   exact .stop
 | x :: xs,y :: ys,A,s,c,a,as,f,d,b,g,c2,hc,hu=>by
  simp only [PyData.canLayAll0,Bool.and_eq_true]at g c2
  simp only [PyData.depthAll]at hu
  cases d with
  | cons h a2 =>
   cases b with
   | cons i j =>
    have q:=gK x y A s _ _ _ _ h i g.1 c2.1 (Xf hu)
    simp only [cmpbs]at hc
    simp only [Ku]
    cases e:PyData.eqv x y with
    | true =>
     rw [e]at q hc
     exact .eq q (Fh xs ys A s _ _ _ _ a2 j g.2 c2.2 hc (IH hu))
    | false =>
     rw [e]at q hc
     exact .ne q (Jr x y A s _ _ _ _ h i g.1 c2.1 hc (Xf hu))
end
end L2
namespace L2
open PySem PySem.W PyProof.Rows
section
variable {prog:jJ}{w:jK}{A:jM}{E:i_->jA->Prop}{s:jA}
theorem BW{a b:Bool}{Q:Bool->jA->Prop}:∀{c d:List i_} {r:Bool},LexAt A s c d r->a=decide (c.length < d.length)->∀i,(b && i==0)=false->Q r s->KatLex prog w A b a Q (c.zip d) i s:=by
 intro c d r h
 induction h with
 | nil =>
  intro e i f q
  have g:a=decide (0 < _):=e
  rw [<- g]at q
  exact kat_nil q
 | stop =>
  intro e i f q
  have g:a=false:=by rw [e];simp
  rw [<- g]at q
  exact kat_nil q
 | eq h1 h2 j =>
  intro e i f q
  exact kat_cons (h1 prog w _ _ (kat_yes (j (by rw [e];simp) (i+1) (by simp) q)))
 | ne h1 h2 =>
  intro e i f q
  refine kat_cons (h1 prog w _ _ (kat_no ?_))
  rw [f]
  exact kat_one _ _ (h2 prog w _ _ (show PySem.W.BoolBack Q (.bool _) s from q))
theorem II{x y:jH}{a b:Int}{c d:List jG}{as u:List jH}{Q:Bool->jA->Prop}(I:Reads s.heap (.ref x) (.tuple (.int a :: c)) as)(v:Reads s.heap (.ref y) (.tuple (.int b :: d)) u)(j:(PyData.tuple (.int a :: c)).canLay0=true)(c2:(PyData.tuple (.int b :: d)).canLay0=true)
  (hc:cmpb (.tuple (.int a :: c)) (.tuple (.int b :: d))=true) (hu:A.units+64 < cLine) (B:(PyData.tuple (.int a :: c)).depth<=64) (q:Q (EN (.tuple (.int a :: c)) (.tuple (.int b :: d))) s):wpAny (model prog w) A (keyLt' (tuples' true) (.ref x) (.ref y)) Q E s:=by
 cases I with
 | @tuple _ M g n _ _ r a2 C i =>
  cases v with
  | @tuple _ J h m _ _ p L D k =>
   refine kat_lt r C p D ?_
   simp only [PyData.canLay0,PyData.canLayAll0,Bool.and_eq_true]at j c2
   simp only [PyData.depth,PyData.depthAll]at B
   simp only [cmpb,cmpbs]at hc
   simp only [EN,Ku]at q
   have z:g.size=g.toList.length:=by simp
   have H:h.size=h.toList.length:=by simp
   rw [z,H]
   generalize g.toList=us at i ⊢
   generalize h.toList=vs at k ⊢
   cases i with
   | cons o F =>
    cases k with
    | cons v1 l =>
     cases o with
     | int _ t =>
      cases v1 with
      | int _ G =>
       rw [List.zip_cons_cons]
       have f:=gK (.int a) (.int b) A s _ _ _ _ (.int a t) (.int b G) rfl rfl (by simp [PyData.depth];omega)
       cases e:PyData.eqv (.int a) (.int b) with
       | true =>
        rw [e]at f hc q
        refine kat_cons (f prog w _ _ (kat_yes ?_))
        refine BW (Fh c d A s _ _ _ _ F l j.2 c2.2 hc (by omega)) (by simp) 1 rfl q
       | false =>
        rw [e]at f hc q
        refine kat_cons (f prog w _ _ (kat_no ?_))
        exact kat_lt_int q
end
end L2
namespace L2
open PySem PySem.Spec PyProof.Rows
theorem Gm:∀{ds:List jG},PyData.canLayAll0 ds=true->∀d∈ds,d.canLay0=true
 | d :: ds,h,e,he=>by
  simp only [PyData.canLayAll0,Bool.and_eq_true]at h
  rcases YV.mp he with rfl | he
  ·exact h.1
  ·exact Gm h.2 e he
theorem Ll:∀{ds:List jG},∀d∈ds,d.depth<=PyData.depthAll ds
 | d :: ds,e,he=>by
  simp only [PyData.depthAll]
  rcases YV.mp he with rfl | he
  ·omega
  ·have:=Ll (ds:=ds) e he
   omega
theorem Xg{α:Type}{xs:List α}{i:Nat}{d:α}(h:i < xs.length):xs.getD i d∈xs:=by
 rw [bC,J_ h];exact b_ h
theorem Hj{h h':jN}(hk:∀b o,h.get? b=some o->h'.get? b=some o):∀{a:List i_} {ds:List jG} {as:List jH},ReadsAll h a ds as->ReadsAll h' a ds as
 | _,_,_,.nil=>.nil
 | _,_,_,.cons r t=>.cons (dP hk r) (Hj hk t)
theorem OJ{h:jN}:∀{a:List i_} {ds:List jG} {as:List jH} {i:Nat},ReadsAll h a ds as->i < ds.length->∃c,Reads h (a.getD i .none) (ds.getD i .none) c
 | _,_,_,0,.cons r _,_=>⟨_,r⟩
 | _,_,_,i+1,.cons _ t,b=>OJ (i:=i) t (by simpa using b)
theorem Rv{h:jN}:∀{a:List i_} {ds:List jG} {as:List jH},ReadsAll h a ds as->a.length=ds.length
 | _,_,_,.nil=>rfl
 | _,_,_,.cons _ t=>by simp [Rv t]
theorem Ob{h:jN}:∀{e:List i_} {ds:List jG} {as:List jH},ReadsAll h e ds as->(∀d∈ds,∃i r,d=.tuple (.int i :: r))->∃b:List i_,PySem.W.KatTups h e b/\b.length=e.length/\∀v∈b,∃i t,v=.int i t
 | _,_,_,.nil,_=>⟨[],PySem.W.KatTups.nil,rfl,λ_ z=>nomatch z⟩
 | _,_,_,.cons r t,f=>by
  obtain⟨b,k,l,z⟩:=Ob t λd g=>f d (ZK _ g)
  obtain⟨i,y,rfl⟩:=f _ Z_
  cases r with
  | @tuple a o s n w as m a2 q c =>
   cases hv:s.toList with
   | nil=>rw [hv]at c;cases c
   | cons u A =>
    rw [hv]at c
    cases c with
    | cons j x =>
     cases j with
     | int _ p =>
      refine⟨.int i p :: b,PySem.W.KatTups.cons m a2 q ?_ k,by simp [l],λv hv'=>?_⟩
      ·rw [<- YN,hv];rfl
      ·rcases YV.mp hv' with rfl | hv'
       ·exact⟨_,_,rfl⟩
       ·exact z v hv'
def Oc(t:jH)(i:Int):jO:={ cls:=.type "reversed",data:=.fields #[.ref t,rawInt i] }
def Fi(h:jN)(a t:jH)(i:Int):Prop:=∃o,h.get? a=some o/\o.cls=.type "reversed" /\ o.data=.fields #[.ref t,rawInt i]
theorem Od:Manifest.owners.lookup (String.ofList ['d','e','s','r','e','v','e','r'].reverse)=some Manifest.sig_reversed:=by kernel_rfl
theorem Gy:Slot "reversed" "__next__" "reversed.__next__" := .of (owner := "reversed") (n := "__next__") (by rw [eK,bZ];kernel_rfl) (by decide +kernel) (by decide +kernel) (by decide +kernel) (.inl (by decide +kernel)) (by rw [bR];kernel_rfl)
theorem Oe:entryFor table "reversed.__next__" = some Builtin.«reversed.__next__»:=iP (by kernel_rfl)
theorem Rw(a:i_):argsOk "reversed.__next__" ⟨[a],[]⟩:=by
 rw [argsOk,iK (id := "reversed.__next__") (n:=['_','_','t','x','e','n','_','_']) (o:=['d','e','s','r','e','v','e','r']) (by kernel_rfl) Od];kernel_rfl
theorem Rx:Slot "reversed" "__iter__" "reversed.__iter__" := .of (owner := "reversed") (n := "__iter__") (by rw [eK,bZ];kernel_rfl) (by decide +kernel) (by decide +kernel) (by decide +kernel) (.inl (by decide +kernel)) (by rw [bR];kernel_rfl)
theorem Xh(a:i_):argsOk "reversed.__iter__" ⟨[a],[]⟩:=by
 rw [argsOk,iK (id := "reversed.__iter__") (n:=['_','_','r','e','t','i','_','_']) (o:=['d','e','s','r','e','v','e','r']) (by kernel_rfl) Od];kernel_rfl
theorem Ul:entryFor table "reversed.__iter__" = some Builtin.«dict_keyiterator.__iter__»:=entryFor_alias (id' := "dict_keyiterator.__iter__") (by kernel_rfl) (by first | rfl | decide +kernel) (by decide +kernel) (by kernel_rfl)
theorem BX:typeLookup (.type "tuple") "__reversed__" = pure none:=by rw [eK,bZ];kernel_rfl
theorem Um:isSubtype (.type "tuple") (.type "dict")=pure false:=by rw [bR];kernel_rfl
theorem My:Slot "reversed" "__init__" "object.__init__" := .of (owner := "object") (n := "__init__") (by rw [eK,bZ];kernel_rfl) (by decide +kernel) (by decide +kernel) (by decide +kernel) (.inl (by decide +kernel)) (by rw [bR];kernel_rfl)
theorem Uo:TypeCalled "reversed" "reversed.__new__" "object.__init__" := ⟨by decide +kernel,F.create_reversed,⟨_,_,F.mro_reversed⟩,F.made_reversed,by decide +kernel,F.sub_reversed_self,My⟩
section
variable {prog:jJ}{w:jK}{A:jM}{E:i_->jA->Prop}{s:jA}{X:Cx}{tg a:jL}{ta:AE}{pos p:Pos}{o e f:jL}{aq am:Pos}{td ty tx:AE}
theorem Fi.typeIs{b t:jH}{i:Int}(x:Fi s.heap b t i):s.TypeIs (.ref b) "reversed" := let⟨o,c,hc,_⟩:=x;⟨o,c,hc⟩
theorem Fi.at{h h':jN}{b t:jH}{i:Int}(x:Fi h b t i)(e:∀o,h.get? b=some o->h'.get? b=some o):Fi h' b t i:=let⟨o,c,r⟩:=x;⟨o,e _ c,r⟩
theorem F0{t:jH}{items:Array i_}{Q:i_->jA->Prop}(g:IsTup s.heap t items)(k:¬(items.size:Int)>=2 ^ 63)
  (h:∀b,Q (.ref s.heap.objs.size) { s with heap:=s.heap.push (Oc t ((items.size:Int) - 1)),toks:=b }):wpAny (model prog w) A (call (.type "reversed") [.ref t]) Q E s:=by
 have c:s.TypeIs (.ref t) "tuple" := g.typeIs
 refine callType_newIn Uo (by decide) (F.typeCall_reversed_1 _) (F.newCall_reversed_1 _) (λi=>by kernel_rfl) F.entry_reversed_new (S:=λj R d=>d=s/\∀b,R (.ok (.ret (.ref s.heap.objs.size))) { s with heap:=s.heap.push (Oc t ((items.size:Int) - 1)),toks:=b })
  (.of_wp λj R d h1=>?_) ⟨rfl,λb=>⟨⟨_,K_ _ rfl,rfl⟩,h b⟩⟩
 obtain⟨rfl,h1⟩:=h1
 rw [Builtin.«reversed.__new__»]
 refine A_ (bY (newClass_reversed _) ?_)
 refine A_ (bY (a:=()) (by first | rfl | kernel_rfl) (A_ (bY (a:=()) (by first | rfl | kernel_rfl) ?_)))
 refine A_ (bK c BX (A_ ?_))
 refine(show wpAny _ _ (isInstance (.ref t) (.type "dict") >>= _) _ _ d from A_ (bD c Um ?_))
 rw [M_ R_]
 refine A_ (bK c F.slot_tuple_getitem.lookup ?_)
 dsimp only
 rw [S_ (by decide)]
 refine C_ ?_
 rw [show(!true)=false from rfl,M_ R_]
 refine A_ (PyProof.Rows.len_tuple g (by omega) (A_ (bY (a:=some (items.size:Int)) rfl ?_)))
 refine(show wpAny _ _ (newObj (.type "reversed") (.fields #[.ref t,rawInt ((items.size:Int) - 1)]) >>= _) _ _ _ from A_ (YR (C_ ⟨_,rfl,h1 _⟩)))
theorem Of{b t:jH}{i:Nat}{items:Array i_}{x:i_}{Q:Option i_->jA->Prop}(g:Fi s.heap b t (i:Int))(j:IsTup s.heap t items)(hx:items[i]?=some x)(u:t≠b)(r:(i:Int) < 2 ^ 63)
  (m:∀h q,Fi h b t ((i:Int) - 1)->Heap.SameBut b s.heap h->Q (some x) { s with heap:=h,toks:=q }):wpAny (model prog w) A (pyNext (.ref b)) Q E s:=by
 obtain⟨o,d,hc,c⟩:=id g
 have n:s.TypeIs (.ref t) "tuple" := j.typeIs
 unfold pyNext
 refine A_ (bO (ZR (name:=Str.ofString "__next__") g.typeIs Gy (ZI Gy g.typeIs Oe ?_ (Rw _))))
 rw [Builtin.«reversed.__next__»]
 refine A_ (bY (a:=(Value.ref b,[])) rfl (A_ (bF d c (x:=.ref t) rfl (A_ (bF d c (x:=rawInt (i:Int)) rfl ?_)))))
 refine(show wpAny _ _ (if(i:Int) < 0 then _ else _) _ _ s from ?_)
 rw [M_ (by omega)]
 refine A_ (bK n F.slot_tuple_getitem.lookup ?_)
 have hk:seqIndex? (i:Int) items.size=some i:=by
  have k:i < items.size:=by
   rcases aB i items.size with z | z
   ·exact z
   ·rw [aG z]at hx;cases hx
  have l:¬((i:Int) < 0):=by omega
  unfold seqIndex?
  simp [k,l]
 refine(show wpAny _ _ (mkInt (i:Int) >>= _) _ _ s from A_ (wpAny_mkInt (A_ (bO (PyProof.Rows.getItem_tuple j (by omega) r hk hx ?_)))))
 refine A_ (bF d c (x:=rawInt (i:Int)) rfl ?_)
 refine(show wpAny _ _ (setField (.ref b) 1 (rawInt ((i:Int) - 1)) >>= _) _ _ _ from A_ (cK d c (by simp) (C_ ⟨x,rfl,C_ (m _ _ ?_ (ZF ..))⟩)))
 exact⟨_,ZQ _ d (dH (aW c _)),(fW ..).trans hc,by rw [aW c];simp⟩
theorem Qa{c t:jH}{Q:Option i_->jA->Prop}(k:A.handled=none)(h:Fi s.heap c t (-1))
  (l:∀j,Heap.ExtBut c s.heap j->Q none { s with heap:=j }):wpAny (model prog w) A (pyNext (.ref c)) Q E s:=by
 obtain⟨o,g,hc,d⟩:=id h
 unfold pyNext
 refine A_ (bO (ZR (name:=Str.ofString "__next__") h.typeIs Gy (ZI Gy h.typeIs Oe ?_ (Rw _))))
 rw [Builtin.«reversed.__next__»]
 refine A_ (bY (a:=(Value.ref c,[])) rfl (A_ (bF g d (x:=.ref t) rfl (A_ (bF g d (x:=rawInt (-1)) rfl ?_)))))
 refine(show wpAny _ _ (if(-1:Int) < 0 then _ else _) _ _ s from ?_)
 rw [S_ (by decide)]
 refine A_ (bE (A_ ?_))
 have h1:(s.heap.update c (Obj.mapFields λi=>i.set! 1 (rawInt (-1)))).get? c=some (o.mapFields λi=>i.set! 1 (rawInt (-1))):=ZQ _ g (dH (aW d _))
 refine(show wpAny _ _ (setField (.ref c) 1 (rawInt (-1)) >>= λ_=>setField (.ref c) 0 .none) _ _ s from A_ (cK g d (by simp) (cK h1 (aW d _) (by simp) ?_)))
 refine A_ (show wpAny _ _ (newExc (.type "StopIteration") [] >>= _) _ _ _ from A_ ?_)
 simp only [newExc,newTuple]
 refine A_ (YR (A_ (m:=firstArgMember _ _) (bY (a:=Value.none) (by first | rfl | (simp only [firstArgMember];rfl)) (YR ?_ (by size_fits)))) (by size_fits))
 simp only [raiseNew]
 refine A_ (gM (show wpAny _ _ _ _ _ _ from ?_))
 rw [show A.in1.handled=none from k]
 refine A_ (C_ (iE (show wpAny _ _ _ _ _ _ from ?_)))
 refine A_ (bD (T := "StopIteration") (b:=true) ⟨_,K_ _ rfl,rfl⟩ fX (C_ (l _ ?_)))
 exact λb o' hb e=>DD _ (DD _ (((ZF _ c _).2 b hb).trans (((ZF s.heap c _).2 b hb).trans e)))
theorem Xi{b t:jH}{i:Int}{Q:i_->jA->Prop}(c:Fi s.heap b t i)(h:Q (.ref b) s):wpAny (model prog w) A (pyIter (.ref b)) Q E s :=
 cP c.typeIs Rx (ZI Rx c.typeIs Ul (C_ ⟨_,rfl,"reversed",_,c.typeIs,Gy.lookup,h⟩) (Xh _))
def Irv(K:jI)(a:jH)(n:Nat):It :=
 ⟨λi H=>∃b x,Io K H a b/\b.length=n/\b.reverse[i]?=some x,λi H x c=>c=H/\∀b,Io K H a b->b.reverse[i]?=some x,λi H=>∃b,Io K H a b/\b.length=n/\n<=i⟩
theorem Mz{α:Type}{xs:List α}{i:Nat}{x:α}(h:xs.reverse[i]?=some x):i < xs.length/\xs[xs.length - 1 - i]?=some x:=by
 have b:i < xs.length:=by
  have:=(E_.mp h).1
  simpa using this
 rw [List.getElem?_reverse b]at h
 exact⟨b,h⟩
theorem Xj{P:jJ}{w:jK}{K:jI}{tg:jL}(a g:jH)(R:a≠g)(n:Nat)(hn:(n:Int) < 2 ^ 63):Turn P w K tg (Irv K a n) [g] g (λi h=>i<=n/\Fi h g a ((n:Int) - 1 - i)) where
 mem:=by simp
 obj:=λi h st b hb=>by
  have e:b=g:=by simpa using hb
  subst e
  obtain⟨_,o,e,c,d⟩:=st
  exact⟨o,e,λv z=>by rw [d]at z;cases z⟩
 keep:=λi h l st k=>⟨st.1,st.2.at λo e=>k g (by simp) o e⟩
 item:=by
  intro X D J L hc i O s σ H E I hf st hg
  subst D J L
  obtain⟨Z,x,hq,N,hx⟩:=hg
  obtain⟨Y,M,p,hz⟩:=I.tuple hq
  have ag:=M.length
  obtain⟨hi,T⟩:=Mz hx
  obtain⟨u,hu,V⟩:=M.get T
  obtain⟨C,t,f2,G,B,F⟩:=hf g (by simp)
  have m:(n:Int) - 1 - i=((n - 1 - i:Nat):Int):=by omega
  have j:=st.2
  rw [m]at j
  refine Of j (show IsTup s.heap a Y.toArray from p) (x:=u) (by rw [<- N];simpa using hu) R (by omega) λl r y S=>?_
  have U:Inv X O σ H { s with heap:=l,toks:=r }:=I.turned (t':=r) (λb o hb e=>(S.2 b hb).trans e) C t G B F
  have W:((n - 1 - i:Nat):Int) - 1=(n:Int) - 1 - ((i+1:Nat):Int):=by omega
  rw [W]at y
  obtain⟨o,e,c,d⟩:=id y
  exact⟨u,rfl,Np (s:={ s with heap:=l,toks:=r }) e c d (by decide) ⟨x,H,U,V,⟨rfl,λys hy=>by rw [I.tuple_inj hy hq];exact hx⟩,⟨by omega,y⟩,λb hb=>(hf b hb).1⟩⟩
 done:=by
  intro X D J L hc i O s σ H E I hf st hg
  subst D J L
  obtain⟨Z,hq,N,hx⟩:=hg
  obtain⟨C,t,f2,G,B,F⟩:=hf g (by simp)
  have m:(n:Int) - 1 - i=-1:=by have:=st.1;omega
  have j:=st.2
  rw [m]at j
  refine Qa (I.ok.hd hc) j λl eb=>⟨rfl,?_⟩
  exact I.turned (t':=s.toks) (λb o hb e=>eb b o hb e) C t G B F
 self:=λA i s Q E st q=>Xi st.2 q
theorem Xk{K:jI}{m:Hp}{a:jH}{xs:List AV}{n:Nat}{g:M->Prop}(C:xs.length=n)(h:∀H μ,Kp m H->Cn K μ H->g μ->∃b,Io K H a b/\A3 K H xs b):ItOk K m (Irv K a n) xs.reverse g:=by
 refine⟨λi H μ S c k t=>?_,λi H μ v H' x S c k e y=>?_,λH μ S c k=>?_⟩
 ·obtain⟨b,q,r⟩:=h H μ S c k
  have j:=r.length
  have z:i < b.reverse.length:=by simp at t ⊢;omega
  exact⟨b,b.reverse[i],q,by omega,J_ z⟩
 ·obtain⟨b,q,r⟩:=h H μ S c k
  obtain⟨rfl,y⟩:=y
  have F:=y b q
  have j:=r.length
  obtain⟨t,D⟩:=Mz e
  obtain⟨u,l,B⟩:=r.get D
  obtain⟨G,d⟩:=Mz F
  rw [<- j]at d
  rw [d]at l
  cases l
  exact⟨Kp.refl,c,B⟩
 ·obtain⟨b,q,r⟩:=h H μ S c k
  exact⟨b,q,by rw [<- r.length];exact C,by rw [List.length_reverse];omega⟩
def UV(t:AE):AI:=fun τ μ R=>t τ μ λx μ1=>match x with
 | .D (.tuple b)=>R (b.map AV.D).reverse (λ_=>True) μ1
 | _=>False
theorem IJ(F:Gl X "reversed") (P:X.mg "reversed" = none) (T:VE X a ta) (hs:starEach [a] X.env=[(false,eval a X.env)]:=by rfl):VI X tg (.Call (.Name "reversed" p) [a] [] pos) (UV ta):=by
 intro U s σ H R I zz131
 refine B9 zz131 fun τ μ R' W hc h hq=>?_
 refine bM (Fc I F P boot_reversed ?_)
 refine bN ?_ hs rfl
 rw [hs]
 refine aV (thn (T U s σ H (λv i=>∃g μ1,Kp H i/\Cn X.K μ1 i/\RelA X.K i (.D (.tuple g)) v/\R' (g.map AV.D).reverse (λ_=>True) μ1) I ⟨τ,μ,_,W,hc,h,λx μ1 v i t m n hx=>?_⟩) λu d ⟨xv,i,l,Y,g,μ1,t,m,n,hx⟩=>a_ ?_)
 ·split at hx
  ·exact⟨_,μ1,t,m,n,hx⟩
  ·exact hx.elim
 have O:items μ1 (.D (.tuple g))=some (g.map AV.D):=rfl
 obtain⟨q,vs,rfl,hp,Q⟩:=Ca m n O
 cases Y
 rcases hp with⟨z,_⟩ | ⟨_,hp⟩
 ·exact absurd z (by simp [EH])
 obtain⟨j,M,B,hz⟩:=l.tuple hp
 have G:=M.length
 have J:(j.length:Int) < 2 ^ 63:=by
  have:sizeLine < 2 ^ 62:=by decide
  omega
 refine F0 (show IsTup d.heap q j.toArray from B) (by rw [YQ];omega) λL=>?_
 have r:q < d.heap.objs.size:=let⟨_,N,_⟩:=B;O_ N
 have k:∀b o,d.heap.get? b=some o->(d.heap.push (Oc q ((j.toArray.size:Int) - 1))).get? b=some o:=λb o e=>DD _ e
 have C:Fi (d.heap.push (Oc q ((j.toArray.size:Int) - 1))) d.heap.objs.size q ((j.length:Int) - 1 - (0:Nat)):=⟨_,K_ _ rfl,rfl,by simp [Oc]⟩
 refine Xi C ?_
 refine⟨d.heap.objs.size,[d.heap.objs.size],_,_,i,rfl,l.kept (t':=L) k,Xj q _ (W_ r) j.length J,⟨YZ _,C⟩,λb hb=>?_,hq _ _ _ _ _ t m (Xk ?_ λH μ S c _=>?_) hx⟩
 ·have e:b=d.heap.objs.size:=by simpa using hb
  subst e
  exact l.fpOk (I_ _) (l.hok.fresh (I_ _))
 ·rw [<- G,<- Q.length]
 ·obtain⟨Z,V,e,y,rw⟩:=Ca c (n.kp S) (show items μ (.D (.tuple g))=some (g.map AV.D) from rfl)
  cases e
  rcases y with⟨z,_⟩ | ⟨_,y⟩
  ·exact absurd z (by simp [EH])
  ·exact⟨V,y,rw⟩
def IK:MO->Prop
 | .dk _=>True
 | .dt _=>True
 | _=>False
def Xl(td ty tx:AE):AE:=fun τ μ R=>td τ μ λx μ1=>match x with
 | .R a=>(∃m,μ1 a=some m/\IK m)/\ty τ μ1 λy μ2=>tx τ μ2 λz μ3=>match y with
  | .D d=>opt (μ3 a) λm=>opt (dget m d) λr=>R (r.getD z) μ3
  | _=>False
 | _=>False
theorem Xm{K:jI}{μ:M}{H:Hp}{a:jH}{m:MO}(hc:Cn K μ H)(e:μ a=some m)(h:IK m):SR H a:=by
 obtain⟨j,d,g⟩:=hc a m e
 cases m with
 | dk b=>obtain⟨c,rfl,_⟩:=g;exact .inl ⟨c,.inl d⟩
 | dt b=>obtain⟨c,rfl,_⟩:=g;exact .inr ⟨c,.inl d⟩
 | lst i=>exact h.elim
 | dd b=>exact h.elim
theorem Gz(hu:X.A.units+1 < cLine)(q:VE X o td)(he:VE X e ty)(n:VE X f tx)(m:M2 X o "get" aq e f am:=by exact⟨rfl,rfl,rfl,rfl⟩):VE X (.Call (.Attribute o "get" aq) [e,f] [] am) (Xl td ty tx):=(V9 hu q he n m).imp fun σ H Q zz94=>B9 zz94 fun τ μ R b hc h hq =>
 ⟨τ,μ,_,b,hc,h,λx μ1 v H1 S1 j rx hx=>by
  split at hx
  ·rename_i a
   obtain⟨⟨B,c,t⟩,hx⟩:=hx
   cases rx
   refine⟨a,rfl,Xm j c t,τ,μ1,_,b.kp S1,j,hx,λy μ2 u H2 S2 c2 ry hy=>⟨τ,μ2,_,(b.kp S1).kp S2,c2,hy,λz μ3 zv H3 S3 c3 rz hz=>?_⟩⟩
   split at hz
   ·obtain⟨m,l,hz⟩:=A6 hz
    obtain⟨r,k,hz⟩:=A6 hz
    obtain⟨i,g,d⟩:=Iy c3 l (Dk.kp S3 _ _ ry) k
    refine⟨i,g,hq _ _ _ _ ((S1.trans S2).trans S3) c3 ?_ hz⟩
    cases r with
    | none =>
     cases i with
     | none=>exact rz
     | some _=>exact d.elim
    | some _ =>
     cases i with
     | none=>exact d.elim
     | some _=>exact d
   ·exact hz.elim
  ·exact hx.elim⟩
end
end L2
namespace L2
open PySem
def Dx(xs:Array Nat):Prop:=xs.toList.Pairwise (· < ·)
theorem Dx.lt{xs:Array Nat}(h:Dx xs){i j:Nat}{d:Nat}(a:i < j)(hj:j < xs.size):xs.getD i d < xs.getD j d:=by
 have:=List.pairwise_iff_getElem.mp h i j (by simp;exact dA a hj) (by simpa using hj) a
 simp only [Array.getElem_toList]at this
 simp only [Array.getD,show i < xs.size from Nat.lt_trans a hj,hj,dif_pos]
 exact this
theorem Js{xs:Array Nat}(h:Dx xs){j:Nat}:∀(f lo a:Nat),a - lo<=f->lo<=a->a<=xs.size->(∀i,i < lo->xs.getD i j < j)->(∀i,a<=i->i < xs.size->j<=xs.getD i j) ->
  SetTable.below.go xs j f lo a<=xs.size/\(∀i,i < SetTable.below.go xs j f lo a->xs.getD i j < j)/\∀i,SetTable.below.go xs j f lo a<=i->i < xs.size->j<=xs.getD i j
 | 0,lo,a,h1,h2,b,g,k=>by
  have e:lo=a:=by omega
  subst e
  exact⟨b,g,k⟩
 | f+1,lo,a,h1,h2,b,g,k=>by
  rw [SetTable.below.go]
  by_cases c:lo < a
  ·rw [S_ c]
   dsimp only
   by_cases c2:xs.getD ((lo+a) / 2) j < j
   ·rw [S_ c2]
    refine Js h f _ _ (by omega) (by omega) b (λi l=>?_) k
    by_cases e:i=(lo+a) / 2
    ·rw [e];exact c2
    ·have:=h.lt (d:=j) (show i < (lo+a) / 2 by omega) (show(lo+a) / 2 < xs.size by omega)
     exact dA this c2
   ·rw [M_ c2]
    refine Js h f _ _ (by omega) (by omega) (by omega) g (λi l m=>?_)
    by_cases e:i=(lo+a) / 2
    ·rw [e];exact iN c2
    ·have:=h.lt (d:=j) (show(lo+a) / 2 < i by omega) m
     omega
  ·rw [M_ c]
   have e:lo=a:=by omega
   subst e
   exact⟨b,g,k⟩
theorem Eu{xs:Array Nat}(h:Dx xs)(j:Nat):SetTable.below xs j<=xs.size/\(∀i,i < SetTable.below xs j->xs.getD i j < j)/\∀i,SetTable.below xs j<=i->i < xs.size->j<=xs.getD i j :=
 Js h xs.size 0 xs.size (Nat.sub_le _ _) (YZ _) (I_ _) (λi a=>absurd a (gU _)) λi a b=>by omega
theorem Qb{xs:Array Nat}(h:Dx xs){k:Nat}(hk:k < xs.size):SetTable.below xs (xs[k]+1)=k+1:=by
 obtain⟨e,f,b⟩:=Eu h (xs[k]+1)
 have g:∀i,(a:i < xs.size)->xs.getD i (xs[k]+1)=xs[i]:=λi a=>by simp [Array.getD,a]
 rcases iF (SetTable.below xs (xs[k]+1)) (k+1) with c | c | c
 ·have:=b k (bS c) hk
  rw [g k hk]at this
  omega
 ·exact c
 ·have h1:k+1 < xs.size:=X_ c e
  have:=f (k+1) c
  rw [g _ h1]at this
  have h2:=h.lt (d:=0) (cB k) h1
  simp only [Array.getD,hk,h1,dif_pos]at h2
  have j:xs[k] < xs[k+1]:=h2
  omega
theorem Qc{xs:Array Nat}(h:Dx xs):SetTable.below xs 0=0:=by
 obtain⟨b,a,c⟩:=Eu h 0
 rcases Nat.eq_zero_or_pos (SetTable.below xs 0) with e | e
 ·exact e
 ·have:=a 0 e;omega
theorem Fj{α:Type}(xs:Array α)(p:Nat)(x:α)(hp:p<=xs.size):(SetTable.insertAt xs p x).toList=xs.toList.take p++x :: xs.toList.drop p:=by
 rw [SetTable.toList_insertAt]
theorem Og{xs:Array Nat}(h:Dx xs){j:Nat}(hj:xs[SetTable.below xs j]?≠some j):Dx (SetTable.insertAt xs (SetTable.below xs j) j):=by
 obtain⟨n,r,k⟩:=Eu h j
 unfold Dx
 rw [Fj _ _ _ n]
 have o:∀a∈xs.toList.take (SetTable.below xs j),a < j:=λa ha=>by
  obtain⟨i,f,e⟩:=e_ ha
  have h1:i < SetTable.below xs j:=by
   rw [ZX]at f;omega
  have:=r i h1
  simp only [Array.getD,show i < xs.size from Nat.lt_of_lt_of_le h1 n,dif_pos]at this
  rw [<- e]
  simpa using this
 have p:∀a∈xs.toList.drop (SetTable.below xs j),j < a:=λa ha=>by
  obtain⟨i,f,e⟩:=e_ ha
  have h1:SetTable.below xs j+i < xs.size:=by
   rw [gJ]at f;simp at f;omega
  have h2:=k _ (dD _ i) h1
  simp only [Array.getD,h1,dif_pos]at h2
  have s:a=xs[SetTable.below xs j+i]:=by rw [<- e];simp
  have u:a≠j:=by
   intro z
   by_cases c:i=0
   ·subst c
    apply hj
    rw [YX (by omega)]
    exact bB some (s.symm.trans z)
   ·have g:SetTable.below xs j < xs.size:=by omega
    have l:=k _ (I_ _) g
    simp only [Array.getD,g,dif_pos]at l
    have m:=h.lt (d:=0) (show SetTable.below xs j < SetTable.below xs j+i by omega) h1
    simp only [Array.getD,g,h1,dif_pos]at m
    have q:xs[SetTable.below xs j] < xs[SetTable.below xs j+i]:=m
    have v:j<=xs[SetTable.below xs j]:=l
    omega
  have t:j<=xs[SetTable.below xs j+i]:=h2
  omega
 refine List.pairwise_append.mpr ⟨h.sublist (dN _ _),List.pairwise_cons.mpr ⟨p,h.sublist (List.drop_sublist _ _)⟩,λa ha b hb=>?_⟩
 rcases YV.mp hb with rfl | hb
 ·exact o a ha
 ·have:=o a ha
  have:=p b hb
  omega
structure TblOk(t:SetTable)(led:Bool):Prop where
 rise:Dx t.place
 dum:t.dummies=#[]
 led:t.led=led
theorem Qe(n:Nat):Dx (Array.range n):=by
 unfold Dx
 rw [Array.toList_range]
 exact eF
theorem TblOk.standIn{t:SetTable}{led:Bool}(h:TblOk t led)(n:Nat):TblOk (t.standIn n) led:=⟨Qe n,rfl,h.led⟩
theorem TblOk.orStandIn{t:SetTable}{led:Bool}(h:TblOk t led)(n:Nat):TblOk (t.orStandIn n) led:=by
 unfold SetTable.orStandIn
 split
 ·exact h
 ·exact h.standIn n
theorem TblOk.plain{t:SetTable}{led:Bool}(h:TblOk t led)(b:Bool):TblOk { t with plain:=b } led:=⟨h.rise,h.dum,h.led⟩
theorem Jt(j:Nat):SetTable.has #[] j=false:=by
 unfold SetTable.has
 simp
theorem Ju{t:SetTable}{led:Bool}(h:TblOk t led){j:Nat}(e:t.slot j=.empty):t.place[SetTable.below t.place j]?≠some j:=by
 unfold SetTable.slot at e
 dsimp only at e
 split at e
 ·cases e
 ·rename_i c
  simpa using c
theorem Qf{t:SetTable}{led:Bool}(h:TblOk t led){j:Nat}:t.slot j≠.dummy:=by
 unfold SetTable.slot
 dsimp only
 rw [h.dum,Jt]
 split
 ·intro z;cases z
 ·intro z;cases z
theorem Kw(t:SetTable)(p:SetTable.Probe):(t.advance p).dummy=p.dummy:=by
 unfold SetTable.advance
 split <;> rfl
theorem Ib{t:SetTable}{led:Bool}(h:TblOk t led){hashAt:Nat->Int}{a:Int}{j:Nat}{d:Option Nat}:∀(f:Nat) (p:SetTable.Probe),p.dummy=none->SetTable.probe.go t hashAt a f p=some (.empty j d)->d=none/\t.slot j=.empty
 | 0,_,_,e=>by simp [SetTable.probe.go]at e
 | f+1,p,hp,e=>by
  rw [SetTable.probe.go]at e
  cases c:t.slot p.j with
  | empty =>
   rw [c]at e
   have b:=ZL e
   injection b with e1 e2
   exact⟨e2.symm.trans hp,by rw [<- e1];exact c⟩
  | dummy=>exact absurd c (Qf h)
  | live i =>
   rw [c]at e
   dsimp only at e
   split at e
   ·cases e
   ·exact Ib h f _ ((Kw t p).trans hp) e
theorem BY{t:SetTable}{led:Bool}(h:TblOk t led){a:Int}{s:Nat}{b:Bool}(e:t.freeSlot a=some (s,b)):t.place[SetTable.below t.place s]?≠some s:=by
 unfold SetTable.freeSlot SetTable.probe at e
 split at e
 ·rename_i j d c
  obtain⟨rfl,g⟩:=Ib h _ _ rfl c
  have f:=ZL e
  have i:j=s:=bB Prod.fst f
  rw [<- i]
  exact Ju h g
 ·cases e
theorem TblOk.put{t:SetTable}{led:Bool}(h:TblOk t led){s:Nat}(hs:t.place[SetTable.below t.place s]?≠some s):TblOk (t.put s).1 led:=by
 refine⟨Og h.rise hs,?_,h.led⟩
 show(if SetTable.has t.dummies s then _ else t.dummies)=#[]
 rw [h.dum,Jt];rfl
theorem TblOk.layNew{t:SetTable}{led:Bool}(h:TblOk t led)(es:Array (Int×i_))(a:Int)(x:i_):TblOk (layNew t es a x).2.1 led:=by
 unfold PySem.layNew
 split
 ·rename_i s b c
  exact(h.put (BY h c)).orStandIn _
 ·exact h.standIn _
theorem TblOk.laid{mask finger moves:Nat}{led plain:Bool}{hs:Array Int}{t:SetTable}{i:Array Nat}(e:SetTable.laid mask finger moves led plain hs=some (t,i)):TblOk t led:=by
 unfold SetTable.laid at e
 cases c:SetTable.layClean mask hs with
 | none=>rw [c]at e;cases e
 | some d =>
  rw [c]at e
  have g:=ZL e
  injection g with e1 _
  subst e1
  refine⟨?_,rfl,rfl⟩
  unfold Dx
  show(List.map _ _).Pairwise _
  rw [cQ]
  refine List.Pairwise.filterMap _ (R:=(· < ·)) (λa k f b hb l h=>?_) eF
  obtain⟨z,_,rfl⟩:=F_.mp hb
  obtain⟨j,_,rfl⟩:=F_.mp h
  exact f
theorem TblOk.relayAll{t:SetTable}{led:Bool}(h:TblOk t led)(es:Array (Int×i_))(w:Nat):TblOk (relayAll t es w).2.1 led:=by
 unfold PySem.relayAll
 split
 ·rename_i a b c
  dsimp only
  split
  ·have:=TblOk.laid c
   rw [h.led]at this
   exact this
  ·exact h.standIn _
 ·exact h.standIn _
theorem TblOk.fresh(led:Bool):TblOk (.fresh 0 0 led) led:=⟨List.Pairwise.nil,rfl,rfl⟩
section
variable {prog:jJ}{w:jK}{Kt:Type} [DecidableEq Kt]{knd:KeyKind prog w Kt}{A:jM}{E:i_->jA->Prop}{s:jA}{a:jH}{led:Bool}
def Dy(knd:KeyKind prog w Kt)(h:jN)(a:jH)(l:List (Int×i_))(led:Bool):Prop :=
 ∃o b c t,h.get? a=some o/\o.ExactSet/\o.data=.set b c t/\b.toList=l/\ElemsOf knd l/\t.fits b.size=true/\TblOk t led
theorem Lm{h:jN}{o:jO}{es:Array (Int×i_)}{ep:Nat}{t:SetTable}(f:h.get? a=some o)(i:o.ExactSet)(c:o.data=.set es ep t){b:Array (Int×i_)}{t':SetTable}(d:ElemsOf knd b.toList)(g:t'.fits b.size=true)(j:TblOk t' led) :
  (h.update a (Obj.putSet b t')).get? a=some { o with data:=.set b (ep+1) t' }/\Dy knd (h.update a (Obj.putSet b t')) a b.toList led:=by
 have e:=ZQ (Obj.putSet b t') f (by rw [putSet_of b t' c];rfl)
 rw [putSet_of b t' c]at e
 exact⟨e,_,b,ep+1,t',e,i,rfl,rfl,d,g,j⟩
theorem Oh{g:Bool->Sem Unit}(D:∀(b:Bool) (y:jA) (v:Unit->jA->Prop),v () y->wpAny (model prog w) A (g b) v E y){o:jO}{es:Array (Int×i_)}{ep:Nat}{t:SetTable}(p:s.heap.get? a=some o)(m:o.ExactSet)(x:o.data=.set es ep t)
  {c:Array (Int×i_)} {d:SetTable} (C:ElemsOf knd c.toList) (hb:c.size < scanBound) (G:d.fits c.size=true) (r:TblOk d led) {I:Bool} {R:Option Bool->jA->Prop}
  (h:∀l u,Heap.SameBut a s.heap l->Dy knd l a u led->u.Perm c.toList->R (some true) { s with heap:=l }) :
  wpAny (model prog w) A (do
   storeSet a c d
   if(!I && d.tooFull)=true then do
    g (relayAll d c (SetTable.grown c.size)).2.2
    storeSet a (relayAll d c (SetTable.grown c.size)).1 (relayAll d c (SetTable.grown c.size)).2.1
    pure (some true)
   else pure (some true)) R E s:=by
 obtain⟨q,F⟩:=Lm (knd:=knd) (led:=led) p m x C G r
 refine A_ (fY p x ?_ (fits_of_scanBound hb))
 have n:=ZF s.heap a (Obj.putSet c d)
 split
 ·have i:=relayAll_perm d c (SetTable.grown c.size)
  have j:=relayAll_fits d c (SetTable.grown c.size)
  have k:=r.relayAll c (SetTable.grown c.size)
  generalize relayAll d c (SetTable.grown c.size)=R1 at i j k ⊢
  obtain⟨f,J,B⟩:=R1
  dsimp only at i j k ⊢
  have z:f.size < scanBound:=by
   have e:f.size=c.size:=by rw [<- YS,i.length_eq,YS]
   rw [e];exact hb
  obtain⟨_,H⟩:=Lm (knd:=knd) (led:=led) q m rfl (C.perm i) j k
  exact A_ (D _ _ _ (A_ (fY q rfl (C_ (h _ _ (n.trans (ZF _ a _)) H i)) (fits_of_scanBound z))))
 ·exact C_ (h _ _ n F (iA _))
theorem BZ{l:List (Int×i_)}{k:Kt}{x:i_}{Q:Bool->jA->Prop}(hx:knd.is k x=true)(hs:x.scannable=true)(O:Dy knd s.heap a l led)(hb:l.length+1 < scanBound)
  (h1:(∃e∈l,knd.is k e.2=true)->Q false s) (h2:(∀e∈l,knd.is k e.2=false)->∀d f,Heap.SameBut a s.heap d->Dy knd d a f led->f.Perm (l++[(knd.hash k,x)])->Q true { s with heap:=d }) :
  wpAny (model prog w) A (setAddHashed a x (knd.hash k)) Q E s:=by
 obtain⟨o,g,R,t,z,G,B,rfl,D,J,M⟩:=O
 rw [YS]at hb
 have C:g.size < scanBound:=by omega
 unfold setAddHashed setAddHashedIn
 refine ZG (A_ (ZO z B J (show wpAny _ _ _ _ _ _ from ?_)))
 dsimp only
 rw [byScan_of hs C D,S_ rfl]
 unfold setAddByScan
 refine A_ (A_ (bE (A_ (wpAny_setScan_of hx z B J D ?_))))
 cases c:List.findIdx? (λe=>knd.is k e.2) g.toList with
 | some j =>
  obtain⟨hj,hp,_⟩:=List.findIdx?_eq_some_iff_getElem.mp c
  exact C_ (C_ (h1 ⟨_,b_ hj,hp⟩))
 | none =>
  have L:=List.findIdx?_eq_none_iff.mp c
  have h:=layNew_perm t g (knd.hash k) x
  have n:=layNew_fits t g (knd.hash k) x
  have m:=M.layNew g (knd.hash k) x
  dsimp only
  generalize layNew t g (knd.hash k) x=L1 at h n m ⊢
  obtain⟨F,P,S,T⟩:=L1
  dsimp only at h n m ⊢
  rw [iG]at h
  have H:ElemsOf knd F.toList:=(D.push hx hs).perm h
  have I:F.size < scanBound:=by
   rw [<- YS,h.length_eq,L_,YS];exact hb
  have N:∀(b:Bool) (y:jA) (p:Unit->jA->Prop),p () y->wpAny (model prog w) A (match b with | true=>rule "set.scan.the-table-gave-way" | false=>pure ()) p E y:=λb y p q=>by
   cases b
   ·exact C_ q
   ·exact bE q
  have r:∀d f,Heap.SameBut a s.heap d->Dy knd d a f led->f.Perm F.toList->Q true { s with heap:=d }:=λd f i v u=>h2 (λe he=>by simpa using L e he) d f i v (u.trans h)
  refine A_ (N _ _ _ ?_)
  split
  ·refine A_ (show wpAny _ _ (hashByValue 8 x) _ _ _ from ?_)
   rw [hashByValue_scannable 8 hs]
   refine C_ (Oh (led:=led) (λb y p q=>?_) z G B H I ?_ ?_ λd f i v u=>?_)
   ·cases b
    ·exact C_ q
    ·exact bE q
   ·split
    ·exact n
    ·exact SetTable.fits_plain_off n
   ·split
    ·exact m
    ·exact m.plain false
   ·dsimp only
    exact C_ (r d f i v u)
  ·refine A_ (C_ (show wpAny _ _ _ _ _ _ from ?_))
   rw [S_ rfl]
   refine Oh (λb y p q=>?_) z G B H I n m λd f i v u=>?_
   ·cases b
    ·exact C_ q
    ·exact bE q
   ·dsimp only
    exact C_ (r d f i v u)
end
theorem Di:plainId "set.update.loop" = true:=by decide +kernel
theorem G1:entryFor table "set.update.loop" = some Builtin.«set.update.loop»:=iP (by kernel_rfl)
section
variable {prog:jJ}{w:jK}{Kt:Type} [DecidableEq Kt]{knd:KeyKind prog w Kt}{A:jM}{R:jU->jA->Prop}{sa it t:jH}{led:Bool}
def Unlike(knd:KeyKind prog w Kt)(l:List (Int×i_)):Prop:=l.Pairwise λe a=>∀k,knd.is k e.2=true->knd.is k a.2=false
def Keys(knd:KeyKind prog w Kt)(l:List (Int×i_))(ks:List Kt):Prop:=∀k,(∃e∈l,knd.is k e.2=true)↔k∈ks
theorem Unlike.add{l:List (Int×i_)}{x:i_}{k:Kt}{h:Int}(g:Unlike knd l)(hx:knd.is k x=true)(f:∀e∈l,knd.is k e.2=false):Unlike knd (l++[(h,x)]):=by
 refine List.pairwise_append.mpr ⟨g,List.pairwise_singleton _ _,λe he i d a b=>?_⟩
 have j:i=(h,x):=by simpa using d
 subst j
 cases c:knd.is a x with
 | false=>rfl
 | true =>
  have:=knd.inj x a k c hx
  subst this
  rw [f e he]at b;cases b
theorem Unlike.perm{l b:List (Int×i_)}(h:Unlike knd l)(p:b.Perm l):Unlike knd b:=by
 refine(List.Perm.pairwise_iff (R:=λ(e a:Int×i_)=>∀k,knd.is k e.2=true->knd.is k a.2=false) (λ{e a} hh k hk=>?_) p.symm).mp h
 cases c:knd.is k e.2 with
 | false=>rfl
 | true=>rw [hh k c]at hk;cases hk
theorem Oi:∀{ks:List Kt} {a:List i_} {i:Nat} {x:i_},ItemsAre knd ks a->a[i]?=some x->∃k,ks[i]?=some k/\knd.is k x=true
 | _,_,_,_,.nil,h=>by simp at h
 | _,_,0,_,.cons h1 _,h=>by simp at h;subst h;exact⟨_,rfl,h1⟩
 | _,_,i+1,_,.cons _ t,h=>by simpa using Oi (i:=i) t (by simpa using h)
end
section
variable {prog:jJ}{w:jK}{A:jM}{E:i_->jA->Prop}{s:jA}
theorem Xn{M:Model}{self v:i_}{Q:Unit->jA->Prop}(a:s.TypeIs self "set") (q:Q () s):wpAny M A (checkBuiltinCall "set.__init__" ⟨[self,v],[]⟩) Q E s:=by
 simp only [checkBuiltinCall,kind_set_init,split_set_init,sig_set_init]
 refine A_ (bD a sub_set_self (show wpAny _ _ _ _ _ _ from ?_))
 rw [show(!true)=false from rfl,M_ R_]
 unfold Bind.checkArgs
 dsimp only
 refine A_ (m:=Bind.printed "set" true _ _) (PyProof.Rows.printed_name (by decide) (A_ (m:=Bind.printed "*" false _ _) (PyProof.Rows.printed_star (self:=self) rfl a λb=>?_)))
 have e:(if(Manifest.Receiver.self==Manifest.Receiver.none)=true then [self,v].length else [self,v].length - 1)=1:=rfl
 rw [e]
 have hc:Bind.check ⟨.positional,"set","*",.self,[⟨"iterable",.posOnly,false⟩]⟩ "set" b 1 []=pure ():=by simp +decide [Bind.check,Bind.checkCount,Bind.isPositional]
 simp only [List.map_nil]
 rw [hc];exact C_ q
theorem CA(v:i_):checkTypeCall "set" ⟨[v],[]⟩=pure ():=by kernel_rfl
theorem IL(v:i_):checkBuiltinCall "set.__new__" ⟨[.type "set",v],[]⟩=pure ():=by kernel_rfl
def Ev(w:jK):Bool:=!(w.params.followText "set-order")
def Bw(w:jK):jO:={ cls:=.type "set",dict:=none,data:=.set #[] 0 (.fresh 0 0 (Ev w)) }
theorem CB{v:i_}{Q1:i_->jA->Prop}(h:Q1 (.ref s.heap.objs.size) { s with heap:=s.heap.push (Bw w) }) :
  codeAny (model prog w) A (.call (.builtin "set.__new__") ⟨[.type "set",v],[]⟩) (wants Q1 E) s:=by
 refine codeAny_of_tree (show wpAny _ A.in1 (do checkBuiltinCall "set.__new__" ⟨[.type "set",v],[]⟩;again (.builtin "set.__new__" ⟨[.type "set",v],[]⟩)) _ _ s from ?_)
 refine A_ (bY (IL v) (C_ ⟨bP F.plain_set_new _,bL F.entry_set_new (show wpAny _ _ _ _ _ _ from ?_)⟩))
 rw [aS F.plain_set_new _]
 unfold Builtin.«set.__new__» Builtin.Frozenset.newClass
 have b:=sub_set_self
 obtain⟨hp,g,d,a,os⟩:=s
 dsimp only
 wp_walk
 refine iQ (C_ (show wpAny _ _ _ _ _ _ from ?_))
 dsimp only
 simp only [newObj]
 exact A_ (wpAny_alloc (C_ (C_ h)))
theorem Jv{v:i_}{Q:i_->jA->Prop}(h:wpAny (model prog w) A.in1.in1 (Builtin.Frozenset.updateFrom "set.__init__" s.heap.objs.size v) (λ_ a=>Q (.ref s.heap.objs.size) a) E { s with heap:=s.heap.push (Bw w) }) :
  wpAny (model prog w) A (call (.type "set") [v]) Q E s:=by
 obtain⟨c,o,j⟩:=F.called_set.mro
 have p:=F.called_set.made
 have B:=F.called_set.sub
 refine wpAny_call (codeAny_of_tree (show wpAny _ _ (callAny (.type "set") _) _ _ _ from ?_))
 refine C_ ⟨Code.quiet_builtin _ (by decide +kernel),bL F.entry_type_call ?_⟩
 rw [Around.under_plain (weight_type_call_type "set" [v] []) rfl]
 have y:=F.called_set.notType
 have t:=F.called_set.canCreate
 have u:=CA v
 repeat any_goals first | assumption | wp_step
 refine gZ (CB (E:=E) (Q1:=λk i=>k=.ref s.heap.objs.size/\i={ s with heap:=s.heap.push (Bw w) }) ⟨rfl,rfl⟩) λr i b=>?_
 cases r with
 | error e=>exact b
 | ok fl =>
  cases fl with
  | ret k =>
   obtain⟨rfl,rfl⟩:=b
   have g:(s.heap.push (Bw w)).get? s.heap.objs.size=some (Bw w):=K_ _ rfl
   have T:Shared.TypeIs { s with heap:=s.heap.push (Bw w) } (.ref s.heap.objs.size) "set" := ⟨_,g,rfl⟩
   have x:=F.called_set.init.lookup
   have n:=F.called_set.init.bind (.ref s.heap.objs.size)
   repeat any_goals first | assumption | wp_step
   refine gZ (codeAny_call_builtin (R:=wants (λr a=>r=.none/\Q (.ref s.heap.objs.size) a) E) F.called_set.init.plain F.entry_set_init (Xn T ?_)) λl a d=>?_
   ·unfold Builtin.«set.__init__» noKeywords
    generalize m:Builtin.Frozenset.updateFrom=U at h ⊢
    unfold Bw at g
    wp_walk
    exact aP h (λ_ _ q=>C_ ⟨rfl,q⟩) λ_ _ e=>e
   ·cases l with
    | error e=>exact d
    | ok f =>
     cases f with
     | ret z =>
      obtain⟨rfl,q⟩:=d
      repeat any_goals first | assumption | wp_step
     | _=>exact d.elim
  | _=>exact b.elim
theorem Ic:isSubtype (.type "tuple") (.type "set")=pure false:=by rw [bR];kernel_rfl
theorem Ie:isSubtype (.type "tuple") (.type "frozenset")=pure false:=by rw [bR];kernel_rfl
end
section
variable {prog:jJ}{w:jK}{Kt:Type} [DecidableEq Kt]{knd:KeyKind prog w Kt}{A:jM}{E:i_->jA->Prop}{s:jA}{sa t:jH}{led:Bool}
theorem Qg:ElemsOf knd []:=λe he=>by cases he
theorem Ln:Keys knd [] []:=λk=>⟨λ⟨e,he,_⟩=>(by cases he),λh=>(by cases h)⟩
theorem Jw{h:jN}:Dy knd (h.push (Bw w)) h.objs.size [] (Ev w) :=
 ⟨_,#[],0,_,K_ _ rfl,⟨rfl,rfl,rfl⟩,rfl,rfl,Qg,rfl,TblOk.fresh _⟩
end
theorem Oj:Manifest.owners.lookup (String.ofList ['r','o','t','a','r','e','t','i','_','t','e','s'].reverse)=some Manifest.sig_set_iterator:=by kernel_rfl
theorem Ee:Slot "set_iterator" "__next__" "set_iterator.__next__" := .of (owner := "set_iterator") (n := "__next__") (by rw [eK,bZ];kernel_rfl) (by decide +kernel) (by decide +kernel) (by decide +kernel) (.inl (by decide +kernel)) (by rw [bR];kernel_rfl)
theorem Ol:entryFor table "set_iterator.__next__" = some Builtin.«set_iterator.__next__»:=iP (by kernel_rfl)
theorem Ry(a:i_):argsOk "set_iterator.__next__" ⟨[a],[]⟩:=by
 rw [argsOk,iK (id := "set_iterator.__next__") (n:=['_','_','t','x','e','n','_','_']) (o:=['r','o','t','a','r','e','t','i','_','t','e','s']) (by kernel_rfl) Oj];kernel_rfl
theorem Rz:Slot "set_iterator" "__iter__" "set_iterator.__iter__" := .of (owner := "set_iterator") (n := "__iter__") (by rw [eK,bZ];kernel_rfl) (by decide +kernel) (by decide +kernel) (by decide +kernel) (.inl (by decide +kernel)) (by rw [bR];kernel_rfl)
theorem Xo(a:i_):argsOk "set_iterator.__iter__" ⟨[a],[]⟩:=by
 rw [argsOk,iK (id := "set_iterator.__iter__") (n:=['_','_','r','e','t','i','_','_']) (o:=['r','o','t','a','r','e','t','i','_','t','e','s']) (by kernel_rfl) Oj];kernel_rfl
theorem Up:entryFor table "set_iterator.__iter__" = some Builtin.«dict_keyiterator.__iter__»:=entryFor_alias (id' := "dict_keyiterator.__iter__") (by kernel_rfl) (by first | rfl | decide +kernel) (by decide +kernel) (by kernel_rfl)
theorem Qh:entryFor table "set.__iter__" = some Builtin.«frozenset.__iter__»:=entryFor_alias (id' := "frozenset.__iter__") (by kernel_rfl) (by first | rfl | decide +kernel) (by decide +kernel) (by kernel_rfl)
section
variable {prog:jJ}{w:jK}{A:jM}{E:i_->jA->Prop}{s:jA}
theorem Qi{M:Model}{a:Source}{n:Nat}{Q:Nat->jA->Prop}(b:n≠0)(h:∀i c,i < n->Q i { s with drawn:=c }):wpAny M A (choose a n) Q E s:=fun Γ p _=>by
 unfold choose
 rw [Sem.wp_choose]
 refine⟨b,?_⟩
 rw [Sem.wp_pure]
 exact h _ _ (Nat.mod_lt _ (eG b))
theorem Hk{α:Type}:∀{xs:List α} {i:Nat} {x:α},xs[i]?=some x->(x :: xs.eraseIdx i).Perm xs
 | _ :: _,0,_,h=>by simp at h;subst h;exact iA _
 | y :: a,i+1,x,h=>by
  have:=Hk (xs:=a) (i:=i) (x:=x) (by simpa using h)
  exact(List.Perm.swap y x _).trans (this.cons y)
theorem Jx{M:Model}{α:Type}:∀(n:Nat) (xs:List α) (s:jA) (Q:List α->jA->Prop),xs.length=n->(∀b d,b.Perm xs->Q b { s with drawn:=d })->wpAny M A (drawOrder n xs) Q E s
 | 0,xs,s,Q,a,h=>by
  have:xs=[]:=cJ a
  subst this
  exact C_ (h [] s.drawn (iA _))
 | n+1,[],s,Q,a,h=>by cases a
 | n+1,x :: xs,s,Q,a,h=>by
  unfold drawOrder
  refine A_ (Qi (by simp) λi g c=>?_)
  have e:(x :: xs)[i]?=some (x :: xs)[i]:=J_ c
  rw [e]
  refine A_ (Jx n _ _ _ ?_ λb f hp=>C_ (h _ f ((hp.cons _).trans (Hk e))))
  rw [List.length_eraseIdx_of_lt c];simp at a ⊢;exact a
theorem R0{α:Type}(next:Nat->Nat):∀(n k:Nat) (left:List α) (a:Array α),left.length=n->(pickOrder.go next n k left a).toList.Perm (a.toList++left)
 | 0,k,left,a,b=>by
  have:left=[]:=cJ b
  subst this
  unfold pickOrder.go
  simp
 | n+1,k,left,a,b=>by
  unfold pickOrder.go
  have c:next k % left.length < left.length:=Nat.mod_lt _ (by omega)
  have e:left[next k % left.length]?=some left[next k % left.length]:=J_ c
  rw [e]
  dsimp only
  refine(R0 next n (k+1) _ _ (by rw [List.length_eraseIdx_of_lt c];omega)).trans ?_
  rw [iG,fV]
  exact(Hk e).append_left _
theorem Uq{α:Type}(next:Nat->Nat)(xs:Array α):(pickOrder next xs).toList.Perm xs.toList:=by
 unfold pickOrder
 simpa using R0 next xs.size 0 xs.toList #[] (by simp)
def Dz(h:jN)(a:jH)(es:Array (Int×i_))(ep:Nat)(t:SetTable):Prop:=∃o,h.get? a=some o/\o.cls=.type "set" /\ o.data=.set es ep t/\t.fits es.size=true
theorem Dz.typeIs{a:jH}{es:Array (Int×i_)}{ep:Nat}{t:SetTable}(x:Dz s.heap a es ep t):s.TypeIs (.ref a) "set" := let⟨o,b,hc,_⟩:=x;⟨o,b,hc⟩
theorem Dz.at{h h':jN}{a:jH}{es:Array (Int×i_)}{ep:Nat}{t:SetTable}(x:Dz h a es ep t)(e:∀o,h.get? a=some o->h'.get? a=some o):Dz h' a es ep t:=let⟨o,b,r⟩:=x;⟨o,e _ b,r⟩
def Fk(h:jN)(b a:jH)(first:i_)(i n ep:Nat):Prop:=∃o,h.get? b=some o/\o.cls=.type "set_iterator" /\ o.data=.fields #[first,rawInt i,.ref a,rawInt n,rawInt ep]
theorem Fk.typeIs{b a:jH}{first:i_}{i n ep:Nat}(x:Fk s.heap b a first i n ep):s.TypeIs (.ref b) "set_iterator" := let⟨o,c,hc,_⟩:=x;⟨o,c,hc⟩
theorem Fk.at{h h':jN}{b a:jH}{first:i_}{i n ep:Nat}(x:Fk h b a first i n ep)(e:∀o,h.get? b=some o->h'.get? b=some o):Fk h' b a first i n ep:=let⟨o,c,r⟩:=x;⟨o,e _ c,r⟩
def Jy(pl:Array Nat):Nat->Nat
 | 0=>0
 | i+1=>pl.getD i 0+1
inductive Mode (w:jK) (a:jH) (es:Array (Int×i_)) (ep:Nat) (t:SetTable) (h:jN):Nat->i_->List i_->Prop
 | text {i:Nat} (hb:w.params.followText "set-order" = true):Mode w a es ep t h i (rawInt 0) ((pickOrder (w.params.setOrder a ep) es).toList.map (·.2))
 | table {i:Nat} (hb:w.params.followText "set-order" = false) (hd:(!t.plain && decide (es.size > 1))=false):Mode w a es ep t h i (rawInt (Jy t.place i)) (es.toList.map (·.2))
 | drawn {i:Nat} {pt:jH} {ps:List Nat} (hb:w.params.followText "set-order" = false) (hp:ps.Perm (List.range es.size)) (ht:h.IsTuple pt (ps.map λ(j:Nat)=>rawInt j).toArray):Mode w a es ep t h i (.ref pt) (ps.map λj=>(es.getD j (0,.none)).2)
theorem Ur{α:Type}(xs:Array α)(d:α):(List.range xs.size).map (λj=>xs.getD j d)=xs.toList:=by
 refine List.ext_getElem (by simp) λi h1 h2=>?_
 simp at h1 h2 ⊢
 simp [h1]
theorem Mode.perm{a:jH}{es:Array (Int×i_)}{ep:Nat}{t:SetTable}{h:jN}{i:Nat}{first:i_}{ord:List i_}(m:Mode w a es ep t h i first ord):ord.Perm (es.toList.map (·.2)):=by
 cases m with
 | text hb=>exact(Uq _ _).map _
 | table hb e=>exact iA _
 | @drawn c b hb hp d =>
  have:=hp.map λj=>(es.getD j (0,Value.none)).2
  refine this.trans (List.Perm.of_eq ?_)
  rw [<- Ur es (0,Value.none),YT];rfl
theorem Fx{Q:Bool->jA->Prop}(h:Q (w.params.followText "set-order") s):wpAny (model prog w) A setsByText Q E s:=by
 unfold setsByText
 exact A_ (iQ (C_ h))
theorem Qj{a:jH}{es:Array (Int×i_)}{ep:Nat}{t:SetTable}{Q:i_->jA->Prop}(l:Dz s.heap a es ep t)(hz:es.size<=1000000)
  (h:∀j k p first ord,s.heap.objs.size<=j->(∀b o,s.heap.get? b=some o->k.get? b=some o)->Fk k j a first 0 es.size ep->Mode w a es ep t k 0 first ord->(∀c,first=.ref c->s.heap.objs.size<=c/\c≠j)->Q (.ref j) { s with heap:=k,drawn:=p }) :
  wpAny (model prog w) A (pyIter (.ref a)) Q E s:=by
 obtain⟨o,f,hc,g,d⟩:=id l
 refine cP l.typeIs F.slot_set_iter (ZI F.slot_set_iter l.typeIs Qh ?_ (F.args_set_iter_1 _))
 unfold Builtin.«frozenset.__iter__» Builtin.Frozenset.sizeOf setEntries setDrawn setEpoch
 refine(show wpAny _ _ (_ >>= _) _ _ _ from A_ (show wpAny _ _ (pure a) _ _ _ from C_ (A_ (A_ (A_ (ZO f g d (C_ (C_ ?_))))))))
 refine A_ (A_ (ZO f g d (A_ (Fx (C_ ?_)))))
 cases hb:w.params.followText "set-order" with
 | true =>
  refine(show wpAny _ _ (if(!true && _)=true then _ else _) _ _ _ from ?_)
  rw [Bool.not_true,Bool.false_and,M_ R_]
  refine A_ (C_ (A_ (A_ (ZO f g d (C_ (A_ (YR (C_ ⟨_,rfl,"set_iterator",_,⟨_,K_ _ rfl,rfl⟩,Ee.lookup,?_⟩))))))))
  exact h _ _ s.drawn _ _ (I_ _) (λb o e=>DD _ e) ⟨_,K_ _ rfl,rfl,rfl⟩ (.text hb) λc e=>by cases e
 | false =>
  cases j1:(!t.plain && decide (es.size > 1)) with
  | false =>
   refine(show wpAny _ _ (if(!false && (!t.plain && decide (es.size > 1)))=true then _ else _) _ _ _ from ?_)
   rw [j1,Bool.not_false,Bool.true_and,M_ R_]
   refine A_ (C_ (A_ (A_ (ZO f g d (C_ (A_ (YR (C_ ⟨_,rfl,"set_iterator",_,⟨_,K_ _ rfl,rfl⟩,Ee.lookup,?_⟩))))))))
   exact h _ _ s.drawn _ _ (I_ _) (λb o e=>DD _ e) ⟨_,K_ _ rfl,rfl,rfl⟩ (.table hb j1) λc e=>by cases e
  | true =>
   refine(show wpAny _ _ (if(!false && (!t.plain && decide (es.size > 1)))=true then _ else _) _ _ _ from ?_)
   rw [j1,Bool.not_false,Bool.true_and,S_ rfl]
   refine A_ (Jx _ _ _ _ (by simp) λn r hp=>?_)
   refine A_ (m:=newTuple _) (show wpAny _ _ _ _ _ _ from ?_)
   simp only [newTuple]
   have u:n.length<=1000000:=by rw [hp.length_eq];simpa using hz
   refine YR ?_ (by size_fits)
   have q:=DD { cls:=Value.type "tuple",data:=Data.seq (List.map (λ(i:Nat)=>rawInt ↑i) n).toArray } f
   refine A_ (A_ (ZO q g d (C_ (A_ (YR (C_ ⟨_,rfl,"set_iterator",_,⟨_,K_ _ rfl,rfl⟩,Ee.lookup,?_⟩))))))
   refine h _ _ r _ _ (by rw [bT];exact dC _) (λb o e=>DD _ (DD _ e)) ⟨_,K_ _ rfl,rfl,rfl⟩ (.drawn hb hp ⟨_,DD _ (K_ _ rfl),rfl,0,rfl⟩) λc e=>?_
   cases e
   exact⟨I_ _,W_ (by rw [bT];exact cB _)⟩
theorem Qk{t:SetTable}(a:Dx t.place){i:Nat}(b:i<=t.place.size):SetTable.below t.place (Jy t.place i)=i:=by
 cases i with
 | zero=>exact Qc a
 | succ i =>
  have:=Qb a (k:=i) (Nat.lt_of_succ_le b)
  show SetTable.below t.place (t.place.getD i 0+1)=i+1
  rw [show t.place.getD i 0=t.place[i] by simp [show i < t.place.size from Nat.lt_of_succ_le b]]
  exact this
theorem Lo{a:jH}{es:Array (Int×i_)}{ep slot i:Nat}{t:SetTable}{Q:Option (i_×Nat)->jA->Prop}(f:Dz s.heap a es ep t)(hb:w.params.followText "set-order" = true) (h:Q (((pickOrder (w.params.setOrder a ep) es)[i]?).map λe=>(e.2,slot)) s) :
  wpAny (model prog w) A (setNext a slot i ep) Q E s:=by
 obtain⟨g,b,_,c,d⟩:=f
 unfold setNext
 refine A_ (ZO b c d (A_ (Fx (show wpAny _ _ (if _=true then _ else _) _ _ _ from ?_))))
 rw [S_ hb]
 refine(show wpAny _ _ (if(ep != ep)=true then _ else _) _ _ _ from ?_)
 rw [M_ (by simp)]
 unfold setWalk
 refine A_ (A_ (ZO b c d (A_ (Fx (show wpAny _ _ (if _=true then _ else _) _ _ _ from ?_)))))
 rw [S_ hb]
 exact A_ (iQ (C_ (C_ h)))
theorem Jz{a:jH}{es:Array (Int×i_)}{ep i g:Nat}{t:SetTable}{Q:Option (i_×Nat)->jA->Prop}(e:Dz s.heap a es ep t)(d:TblOk t (Ev w))(hb:w.params.followText "set-order" = false) (k:(!t.plain && decide (es.size > 1))=false) (n:i<=es.size)
  (h:Q (match es[i]?,t.place[i]? with | some (_,x),some j=>some (x,j+1) | _,_=>none) s):wpAny (model prog w) A (setNext a (Jy t.place i) g ep) Q E s:=by
 obtain⟨m,c,_,l,b⟩:=e
 have f:t.place.size=es.size:=by simp [SetTable.fits]at b;exact b.1
 unfold setNext
 refine A_ (ZO c l b (A_ (Fx (show wpAny _ _ (if _=true then _ else _) _ _ _ from ?_))))
 rw [M_ (by rw [hb];exact R_)]
 refine(show wpAny _ _ (if(!t.plain && decide (es.size > 1))=true then _ else _) _ _ _ from ?_)
 rw [k,M_ R_]
 refine A_ (show wpAny _ _ (if(!t.led && !es.isEmpty)=true then _ else _) _ _ _ from ?_)
 rw [M_ (by rw [d.led,Ev,hb];simp)]
 refine C_ (show wpAny _ _ (pure _) _ _ _ from C_ ?_)
 rw [Qk d.rise (by omega)]
 exact h
theorem De{a:jH}{o:jO}{c:Array i_}{i:Nat}{x:i_}{Q:Unit->jA->Prop}(e:s.heap.get? a=some o)(d:o.data=.fields c)(f:i < c.size)
  (h:∀b o',b.get? a=some o'->o'.cls=o.cls->o'.data=.fields (c.setIfInBounds i x)->Heap.SameBut a s.heap b->Q () { s with heap:=b }):wpAny (model prog w) A (setField (.ref a) i x) Q E s :=
 cK e d f (h _ _ (ZQ _ e (dH (aW d _))) (fW ..) (aW d _) (ZF ..))
theorem Xp{b a:jH}{es:Array (Int×i_)}{ep:Nat}{t:SetTable}{first x:i_}{i:Nat}{ord:List i_}{Q:Option i_->jA->Prop}(P:Dz s.heap a es ep t)(hT:TblOk t (Ev w))(H:Fk s.heap b a first i es.size ep)(hM:Mode w a es ep t s.heap i first ord)(ax:a≠b)(Z:∀f,first=.ref f->f≠b)(hx:ord[i]?=some x)
  (u:∀d J,Fk d b a J (i+1) es.size ep->Mode w a es ep t d (i+1) J ord->(∀f,J=.ref f->first=.ref f)->Heap.SameBut b s.heap d->Q (some x) { s with heap:=d }) :
  wpAny (model prog w) A (pyNext (.ref b)) Q E s:=by
 obtain⟨o,C,hc,O⟩:=id H
 obtain⟨oa,m,_,T,p⟩:=id P
 have v:t.place.size=es.size:=by simp [SetTable.fits]at p;exact p.1
 unfold pyNext
 refine A_ (bO (ZR (name:=Str.ofString "__next__") H.typeIs Ee (ZI Ee H.typeIs Ol ?_ (Ry _))))
 unfold Builtin.«set_iterator.__next__»
 refine(show wpAny _ _ (_ >>= _) _ _ _ from A_ (show wpAny _ _ (pure (Value.ref b,[])) _ _ _ from C_ (show wpAny _ _ (fieldsOf (.ref b) >>= _) _ _ _ from A_ (bH C O (show wpAny _ _ (setEntries a >>= _) _ _ _ from A_ ?_)))))
 refine(show wpAny _ _ (setState a >>= _) _ _ _ from A_ (ZO m T p (C_ (show wpAny _ _ (if((es.size:Int) != (es.size:Int))=true then _ else _) _ _ _ from ?_))))
 rw [M_ (by simp)]
 have l:∀(N:PySem.Fin->jA->Prop) (S:i_->jA->Prop) (nx:Nat),(∀d,Fk d b a (rawInt nx) (i+1) es.size ep->Heap.SameBut b s.heap d->N (.done (.ret x)) { s with heap:=d }) ->
   wpAny (model prog w) A.in1 (setField (.ref b) 0 (rawInt (nx:Nat)) >>= λ_=>setField (.ref b) 1 (rawInt ((i:Int)+1)) >>= λ_=>ret x) N S s:=λN S nx q=>by
  refine A_ (De C O (by simp) λh1 V k G M n=>A_ (De (s:={ s with heap:=h1 }) k M (by simp) λh2 o2 D c2 Y b2=>C_ (q h2 ⟨o2,D,c2.trans (G.trans hc),?_⟩ (n.trans b2))))
  rw [Y];simp [rawInt]
 cases hM with
 | text hb =>
  refine(show wpAny _ _ (setNext a 0 i ep >>= _) _ _ _ from A_ (Lo P hb ?_))
  obtain⟨e,he,rfl⟩:∃e,(pickOrder (w.params.setOrder a ep) es)[i]?=some e/\e.2=x:=by
   rw [H_,F_]at hx
   obtain⟨e,he,r⟩:=hx
   exact⟨e,by rw [<- YN];exact he,r⟩
  rw [he]
  exact l _ _ 0 λd R F=>⟨_,rfl,C_ (u d _ R (.text hb) (λ_ z=>z) F)⟩
 | table hb U =>
  have h:i < es.size:=by
   rw [H_]at hx
   rcases aB i es.size with c | c
   ·exact c
   ·simp [List.getElem?_eq_none,c]at hx
  refine(show wpAny _ _ (setNext a (Jy t.place i) i ep >>= _) _ _ _ from A_ (Jz P hT hb U (aU h) ?_))
  have he:es[i]?=some es[i]:=YX h
  have hp:t.place[i]?=some (t.place.getD i 0):=by simp [v,h]
  have B:es[i].2=x:=by
   rw [H_,YN,he]at hx
   exact ZL hx
  rw [he,hp]
  dsimp only
  rw [B]
  exact l _ _ (t.place.getD i 0+1) λd R F=>⟨_,rfl,C_ (u d _ R (.table (i:=i+1) hb U) (λ_ z=>by cases z) F)⟩
 | @drawn f g hb hp W =>
  have h:i < g.length:=by
   rcases aB i g.length with c | c
   ·exact c
   ·rw [dI (by simpa using c)]at hx;cases hx
  have k:g[i]?=some g[i]:=J_ h
  have X:g[i] < es.size:=by simpa using hp.mem_iff.mp (b_ h)
  obtain⟨y,hy,B⟩:∃y,es[g[i]]?=some y/\y.2=x:=by
   rw [H_,k]at hx
   have:=ZL hx
   exact⟨es[g[i]],YX X,by simpa [X] using this⟩
  obtain⟨ot,I,_,nt,L⟩:=id W
  refine(show wpAny _ _ (seqItems? (.ref f) >>= _) _ _ _ from A_ (d_ I L (show wpAny _ _ _ _ _ _ from ?_)))
  dsimp only
  have D:((g.map λ(j:Nat)=>rawInt (j:Int)).toArray)[i]?=some (rawInt (g[i]:Int)):=by
   simp [k]
  rw [bU,D]
  refine(show wpAny _ _ (setNextDrawn a g[i] ep >>= _) _ _ _ from A_ ?_)
  unfold setNextDrawn
  refine A_ (ZO m T p (show wpAny _ _ (if(ep != ep)=true then _ else _) _ _ _ from ?_))
  rw [M_ (by simp),hy]
  refine C_ ?_
  rw [B]
  refine A_ (De C O (by simp) λh1 V k G M n=>C_ ⟨_,rfl,C_ (u h1 (.ref f) ⟨V,k,G.trans hc,?_⟩ (.drawn hb hp (W.at λo e=>(n.2 f (Z f rfl)).trans e)) (λ_ z=>z) n)⟩)
  rw [M];simp [rawInt]
theorem CC{c a:jH}{es:Array (Int×i_)}{ep:Nat}{t:SetTable}{first:i_}{ord:List i_}{Q:Option i_->jA->Prop}(G:A.handled=none)(n:Dz s.heap a es ep t)(N:TblOk t (Ev w))(r:Fk s.heap c a first es.size es.size ep)(C:Mode w a es ep t s.heap es.size first ord)
  (I:∀h',Heap.ExtBut c s.heap h'->Q none { s with heap:=h' }):wpAny (model prog w) A (pyNext (.ref c)) Q E s:=by
 obtain⟨o,g,hc,h⟩:=id r
 obtain⟨X,p,_,U,u⟩:=id n
 have J:t.place.size=es.size:=by simp [SetTable.fits]at u;exact u.1
 have k:ord.length=es.size:=by rw [C.perm.length_eq];simp
 unfold pyNext
 refine A_ (bO (ZR (name:=Str.ofString "__next__") r.typeIs Ee (ZI Ee r.typeIs Ol ?_ (Ry _))))
 unfold Builtin.«set_iterator.__next__»
 refine(show wpAny _ _ (_ >>= _) _ _ _ from A_ (show wpAny _ _ (pure (Value.ref c,[])) _ _ _ from C_ (show wpAny _ _ (fieldsOf (.ref c) >>= _) _ _ _ from A_ (bH g h (show wpAny _ _ (setEntries a >>= _) _ _ _ from A_ ?_)))))
 refine(show wpAny _ _ (setState a >>= _) _ _ _ from A_ (ZO p U u (C_ (show wpAny _ _ (if((es.size:Int) != (es.size:Int))=true then _ else _) _ _ _ from ?_))))
 rw [M_ (by simp)]
 have d:∀(h1:jN) (D:PySem.Fin->jA->Prop) (y:i_->jA->Prop) ,(∀e h',Heap.ExtBut c h1 h'->Shared.TypeIs { s with heap:=h' } e "StopIteration" -> y e { s with heap:=h' }) ->
   wpAny (model prog w) A.in1 (newExc (.type "StopIteration") [] >>= λe=>raiseNew e) D y { s with heap:=h1 }:=λh1 D y q=>by
  refine A_ ?_
  simp only [newExc,newTuple]
  refine A_ (YR (A_ (m:=firstArgMember _ _) (bY (a:=Value.none) (by first | rfl | (simp only [firstArgMember];rfl)) (YR ?_ (by size_fits)))) (by size_fits))
  simp only [raiseNew]
  refine A_ (gM ?_)
  rw [show A.in1.handled=none from G]
  have H:Heap.ExtBut c h1 h1:=λb o hb e=>e
  refine A_ (C_ (iE ?_))
  exact q _ _ ((H.push _).push _) ⟨_,K_ _ rfl,rfl⟩
 have z:∀(h1:jN) (e:i_) (h':jN),Heap.ExtBut c s.heap h1->Heap.ExtBut c h1 h'->Shared.TypeIs { s with heap:=h' } e "StopIteration" -> wpAny (model prog w) A (isInstance e (.type "StopIteration") >>= λb=>if b=true then pure none else throw e) Q E { s with heap:=h' }:=λh1 e h' O S T=>by
  refine A_ (bD (b:=true) T fX ?_)
  exact C_ (I h' λb o hb e=>S b o hb (O b o hb e))
 cases C with
 | text hb =>
  refine(show wpAny _ _ (setNext a 0 es.size ep >>= _) _ _ _ from A_ (Lo n hb ?_))
  rw [B_,YS]at k
  rw [aG (eD k)]
  exact A_ (De g h (by simp) λh1 B j F l f=>d h1 _ _ λe h' x T=>z h1 e h' f.extBut x T)
 | table hb M =>
  refine(show wpAny _ _ (setNext a (Jy t.place es.size) es.size ep >>= _) _ _ _ from A_ (Jz n N hb M (I_ _) ?_))
  rw [aG (I_ _)]
  exact A_ (De g h (by simp) λh1 B j F l f=>d h1 _ _ λe h' x T=>z h1 e h' f.extBut x T)
 | @drawn L ps hb hp P =>
  obtain⟨V,v,_,nt,i⟩:=id P
  refine(show wpAny _ _ (seqItems? (.ref L) >>= _) _ _ _ from A_ (d_ v i (show wpAny _ _ _ _ _ _ from ?_)))
  dsimp only
  rw [bU,aG (by simpa using eD (by simpa using k))]
  exact A_ (De g h (by simp) λh1 B j F l f=>A_ (De (s:={ s with heap:=h1 }) j l (by simp) λh2 Y Z c2 W R=>d h2 _ _ λe h' x T=>z h2 e h' (f.trans R).extBut x T))
end
end L2
namespace L2
open PySem PySem.Spec PyProof.Rows PySem.W
section
variable {prog:jJ}{w:jK}{A:jM}{E:i_->jA->Prop}{s:jA}
theorem Mode.at{a:jH}{es:Array (Int×i_)}{ep:Nat}{t:SetTable}{h h':jN}{i:Nat}{first:i_}{ord:List i_}(m:Mode w a es ep t h i first ord)(hk:∀b,first=.ref b->∀o,h.get? b=some o->h'.get? b=some o):Mode w a es ep t h' i first ord:=by
 cases m with
 | text hb=>exact .text hb
 | table hb d=>exact .table hb d
 | @drawn b f hb hp c=>exact .drawn hb hp (c.at λo e=>hk b rfl o e)
theorem Us(y:A.handled=none){f a:jH}{es:Array (Int×i_)}{ep:Nat}{t:SetTable}{ord:List i_}(m:List jH)(u:TblOk t (Ev w))(r:a≠f)(B:f∉m)(G:ord.length=es.size) :
  Walks prog w A f (f :: a :: m) [f] es.size (λi v=>ord[i]?=some v) (λi h=>Dz h a es ep t/\∃first,Fk h f a first i es.size ep/\Mode w a es ep t h i first ord/\∀c,first=.ref c->c∈m) where
 sub:=λb hb=>by simp at hb;simp [hb]
 frame:=λi h l st hk=>by
  obtain⟨g,first,d,j,hp⟩:=st
  exact⟨g.at λo e=>hk a (by simp) o e,first,d.at λo e=>hk f (by simp) o e,j.at λc z o e=>hk c (by simp [hp c z]) o e,hp⟩
 item:=λi s Q E H st k=>by
  obtain⟨g,first,d,j,hp⟩:=st
  refine Xp g u d j r (λc z q=>B (q ▸ hp c z)) (x:=ord[i]'(by omega)) (J_ _) λl F n p D hb=>?_
  exact k _ l s.toks (J_ _) ⟨g.at λo e=>(hb.2 a r).trans e,F,n,p,λc z=>hp c (D c z)⟩ λb o C e=>hb.extBut b o (λz=>C (by simp [z])) e
 done:=λs Q E st k=>by
  obtain⟨g,first,d,j,hp⟩:=st
  exact CC y g u d j λl he=>k l s.toks λb o hb e=>he b o (λz=>hb (by simp [z])) e
 self:=λi s Q E st k=>by
  obtain⟨g,first,d,j,hp⟩:=st
  refine cP d.typeIs Rz (ZI Rz d.typeIs Up (show wpAny _ _ (ret (.ref f)) _ _ s from ?_) (Xo _))
  exact C_ ⟨_,rfl,"set_iterator",_,d.typeIs,Ee.lookup,k⟩
theorem Xq{a:jH}{Q:Bool->jA->Prop}(e:s.TypeIs (.ref a) "set") (h:Q false s):wpAny (model prog w) A (Builtin.List.listLengthHint (.ref a)) Q E s:=by
 unfold Builtin.List.listLengthHint
 refine A_ (bK e PySem.F.slot_set_len.lookup ?_)
 generalize c:("set.__len__" : String)=id0
 wp_delta
 rw [show splitId id0=some ("set","__len__") from by subst c;decide +kernel]
 subst c
 refine A_ (bD (T := "set") (b:=true) e sub_set_self (gV (λd=>absurd d (by decide)) λ_=>gV (λ_=>?_) (λd=>absurd (by decide +kernel) d)))
 exact A_ (fO e (C_ h))
theorem Ut{ord:List i_}{acc:Array i_}{n:Nat}(h:ItemsOf (λi v=>ord[i]?=some v) acc n)(a:ord.length=n):acc.toList=ord:=by
 refine fZ λi=>?_
 rw [YN]
 rcases aB i acc.size with c | c
 ·have:=h.2 i acc[i] (YX c)
  rw [this,YX c]
 ·rw [aG c,dI (by rw [a,<- h.1];exact c)]
theorem Ig{a:jH}{es:Array (Int×i_)}{ep:Nat}{t:SetTable}{Q:List i_->jA->Prop}(V:A.handled=none)(L:Dz s.heap a es ep t)(hT:TblOk t (Ev w))(hz:es.size<=1000000)
  (h:∀y d' Y ord,(∀b o,s.heap.get? b=some o->y.get? b=some o)->s.heap.objs.size<=y.objs.size->ord.Perm (es.toList.map (·.2))->Q ord { s with heap:=y,drawn:=d',toks:=Y }) :
  wpAny (model prog w) A (collect (.ref a)) Q E s:=by
 have U:a < s.heap.objs.size:=by obtain⟨o,e,_⟩:=L;exact O_ e
 unfold collect
 refine A_ (f_ (bL F.entry_proto_collect ?_))
 rw [aS F.plain_proto_collect _]
 refine(show wpAny _ A.in1 (newList [] >>= λl=>again (.builtin "list.__iadd__" ⟨[l,.ref a],[]⟩)) _ _ s from A_ (YR (C_ ⟨bP F.plain_list_iadd _,bL F.entry_list_iadd ?_⟩)))
 rw [aS F.plain_list_iadd _]
 generalize g:s.heap.objs.size=S
 generalize m:s.heap.push { cls:=.type "list",data:=.seq ([]:List i_).toArray }=h1
 have H:∀b o,s.heap.get? b=some o->h1.get? b=some o:=λb o e=>by subst m;exact DD _ e
 have M:h1.get? S=some { cls:=.type "list",data:=.seq ([]:List i_).toArray }:=by subst m;subst g;exact K_ _ rfl
 have f:S≠a:=c_ (W_ (g ▸ U))
 have rq:Builtin.List.listSameRef (.ref S) (.ref a)=false:=by simp [Builtin.List.listSameRef,f]
 have r:Dz h1 a es ep t:=L.at λo e=>H a o e
 refine(show wpAny _ A.in1 (Builtin.List.listExtendWith (.ref S) (.ref a) (.ref S)) _ _ { s with heap:=h1 } from ?_)
 unfold Builtin.List.listExtendWith
 refine A_ (fO (Dz.typeIs (s:={ s with heap:=h1 }) r) (gV (λx=>absurd x (by rw [rq];decide)) λ_=>?_))
 refine A_ (Qj (s:={ s with heap:=h1 }) r hz λd h2 u first ord ay v hI B Z=>?_)
 refine A_ (ZG (Xq (s:={ s with heap:=h2,drawn:=u }) (Dz.typeIs (s:={ s with heap:=h2,drawn:=u }) (r.at λo e=>v a o e)) ?_))
 refine gV (λ_=>?_) λx=>absurd (by decide) x
 have C:h2.get? S=some { cls:=.type "list",data:=.seq ([]:List i_).toArray }:=v S _ M
 refine A_ (bE (A_ (show wpAny _ _ (updateSeq S (·.push .none) >>= λ_=>updateSeq S (·.pop)) _ _ _ from A_ (fE C rfl (fE (ZQ (Obj.mapSeq (·.push Value.none)) C rfl) rfl ?_)))))
 have R:=ZQ (Obj.mapSeq (·.pop)) (ZQ (Obj.mapSeq (·.push Value.none)) C rfl) rfl
 have k:∀b o,b≠S->h2.get? b=some o->((h2.update S (Obj.mapSeq (·.push Value.none))).update S (Obj.mapSeq (·.pop))).get? b=some o:=λb o hb e=>(bQ _ _ (c_ hb)).trans ((bQ _ _ (c_ hb)).trans e)
 generalize ((h2.update S (Obj.mapSeq (·.push Value.none))).update S (Obj.mapSeq (·.pop)))=h4 at R k ⊢
 have P:S < h1.objs.size:=O_ M
 have T:h1.objs.size<=d:=ay
 have N:S≠d:=by intro z;subst z;omega
 have X:a≠d:=W_ (dA (g ▸ U) (X_ P T))
 obtain⟨n,O,D⟩:∃n:List jH,(∀c,first=.ref c->c∈n)/\∀c∈n,h1.objs.size<=c/\c≠d:=by
  by_cases p:∃c,first=.ref c
  ·obtain⟨c,p⟩:=p
   exact⟨[c],λq hq=>by rw [p]at hq;cases hq;simp,λq hq=>by rw [P_]at hq;subst hq;exact Z q p⟩
  ·exact⟨[],λq hq=>absurd ⟨q,hq⟩ p,λ_ hq=>nomatch hq⟩
 have G:ord.length=es.size:=by rw [B.perm.length_eq];simp
 have W:=Us (prog:=prog) (A:=A.in1) V (es:=es) (ep:=ep) (ord:=ord) n hT X (λz=>(D d z).2 rfl) G
 have wb:S∉d :: a :: n:=by
  simp only [List.mem_cons,not_or]
  exact⟨N,f,λz=>by have:=(D S z).1;omega⟩
 refine C_ ⟨bP F.plain_extend_loop _,codeAny_extend_loopS W.toS (Q_ hz (by decide)) S wb (.ref S) es.size 0 { s with heap:=h4,drawn:=u } #[] _ rfl (YZ _) ?_ R (ItemsOf.nil _) λJ gf c' I j fk=>?_⟩
 ·refine⟨r.at λo e=>k a o (c_ f) (v a o e),first,hI.at λo e=>k d o (c_ N) e,B.at λc z o e=>k c o (λq=>?_) e,O⟩
  have:=(D c (O c z)).1
  subst q;omega
 ·rw [Moved.eq_with I]
  refine A_ (wpAny_load j (C_ ?_))
  rw [Ut fk G]
  refine h J.heap u J.toks ord (λb o e=>I.heap b o ?_ (k b o ?_ (v b o (H b o e)))) (aU ?_) B.perm
  ·have i:=O_ e
   simp only [List.mem_cons,List.not_mem_nil,or_false,not_or]
   rw [g]at i
   exact⟨W_ i,W_ (dA i (X_ P T))⟩
  ·have i:=O_ e
   rw [g]at i
   exact W_ i
  ·rw [g];exact O_ j
def D3:i_->Int
 | .int n _=>n
 | _=>0
def SU(v:i_):Prop:=∃n t,v=.int n t
theorem Om:∀{a:List i_},(∀v∈a,SU v)->IntsAre a (a.map D3)
 | [],_=>.nil
 | v :: a,h=>by
  obtain⟨n,t,rfl⟩:=h _ Z_
  exact .cons n t (Om λu hu=>h u (ZK _ hu))
theorem CD{k:Key}{n:Int}{t:Tok}(h:(A8 prog w).is k (.int n t)=true):k=.inl n:=by
 rcases keyIs_shape (show Hx _ _=true from h) with⟨i,a,rfl,e⟩ | ⟨x,a,rfl,e⟩
 ·cases e;rfl
 ·cases e
theorem Fl{l:List (Int×i_)}{ns:List Int}(c:ElemsOf (A8 prog w) l)(f:Keys (A8 prog w) l (ns.map Sum.inl)){e:Int×i_}(he:e∈l):∃n t,e.2=.int n t/\n∈ns:=by
 obtain⟨⟨k,hk,_⟩,_⟩:=c e he
 have:=(f k).mp ⟨e,he,hk⟩
 obtain⟨n,d,rfl⟩:=D_.mp this
 rcases keyIs_shape (show Hx (Sum.inl n) e.2=true from hk) with⟨i,t,a,b⟩ | ⟨x,t,a,b⟩
 ·cases a;exact⟨n,t,b,d⟩
 ·cases a
end
end L2
namespace L2
open PySem PySem.Spec PyProof.Rows
section
variable {X:Cx}{aa:List (jH×jO)}{σ:St}{H:Hp}{s:jA}
theorem Inv.drw(I:Inv X aa σ H s)(d:Drawn):Inv X aa σ H { s with drawn:=d }:=⟨I.ok,I.os,I.bare,I.base,I.loc,I.cell,I.free,I.freeC,I.pin,I.hok,I.len⟩
theorem Hl{P:jJ}{w:jK}:∀{ns:List Int} {c:List i_},Vals (ns.map V.int) c->ItemsAre (A8 P w) (ns.map Sum.inl) c/\∀v∈c,v.scannable=true
 | [],_,h=>by cases h;exact⟨.nil,λ_ h=>nomatch h⟩
 | n :: ns,_,h=>by
  cases h with
  | cons h1 h2 =>
   obtain⟨t,rfl⟩:=h1
   obtain⟨a,b⟩:=Hl (P:=P) (w:=w) h2
   refine⟨.cons (Ct _ _ _ _) a,λv hv=>?_⟩
   rcases YV.mp hv with rfl | hv
   ·rfl
   ·exact b v hv
theorem On:∀{a:List i_},(∀v∈a,SU v)->Vals ((a.map D3).map V.int) a
 | [],_=>.nil
 | v :: a,h=>by
  obtain⟨n,t,rfl⟩:=h _ Z_
  exact .cons ⟨t,rfl⟩ (On λu hu=>h u (ZK _ hu))
theorem R3{K:jI}{H:Hp}:∀(ns:List Int),A3 K H (ns.map λn=>AV.D (.int n)) (ns.map V.int)
 | []=>.nil
 | _ :: ns=>.cons Cr (R3 ns)
end
noncomputable instance decPD:DecidableEq jG:=λa b=>Classical.propDecidable (a=b)
mutual
def Hm:jG->Nat
 | .tuple a=>Cq a+1
 | _=>1
def Cq:List jG->Nat
 | []=>0
 | d :: a=>Hm d+Cq a
end
theorem J0(w:jK):∀(a b:List jG),Dc w (a++b)=Dc w a++Dc w b
 | [],b=>rfl
 | x :: a,b=>by simp only [List.cons_append,Dc,J0 w a b]
theorem Ih:∀(a b:List jG),Cq (a++b)=Cq a+Cq b
 | [],b=>by simp [Cq]
 | x :: a,b=>by simp only [List.cons_append,Cq,Ih a b];exact(iL _ _ _).symm
section
variable {prog:jJ}{w:jK}
theorem CF:∀(n:Nat) (d:jG) (u:i_) (as:List jH) (A:jM) (E:i_->jA->Prop) (s:jA) (Q:Int->jA->Prop),d.depth<=n->Cano d=true->Reads s.heap u d as->A.units+n < cLine->Q (Bg w d) { s with toks:=s.toks+Hm d } ->
  wpAny (model prog w) A (pyHash u) Q E s:=by
 intro n
 induction n with
 | zero =>
  intro d u as A E s Q I hc j hu h
  cases j with
  | int i t=>exact(A8 prog w).pyHash (Ct _ _ _ _) h
  | str x t=>exact(A8 prog w).pyHash (Fb _ _ _ _) h
  | tuple q a2 B v=>simp [PyData.depth]at I
  | none=>simp [Cano]at hc
  | bool b=>simp [Cano]at hc
  | list q a2 B v=>simp [Cano]at hc
  | dict q a2 B v S=>simp [Cano]at hc
 | succ n O =>
  intro d u as A E s Q I hc j hu h
  cases j with
  | int i t=>exact(A8 prog w).pyHash (Ct _ _ _ _) h
  | str x t=>exact(A8 prog w).pyHash (Fb _ _ _ _) h
  | none=>simp [Cano]at hc
  | bool b=>simp [Cano]at hc
  | list q a2 B v=>simp [Cano]at hc
  | dict q a2 B v S=>simp [Cano]at hc
  | @tuple a o items m z as N f C U =>
   have y:s.TypeIs (.ref a) "tuple" := ⟨o,N,f⟩
   have R:PyData.depthAll z<=n:=by simp only [PyData.depth]at I;omega
   have P:A9 z=true:=hc
   unfold pyHash
   first | unfold pyHashByItsType | skip
   first | refine A_ (wpAny_cRoomFor_or (.inr (by omega)) ?_) | skip
   refine A_ (bK y F.slot_tuple_hash.lookup (show wpAny _ _ (if(some (Value.builtin "tuple.__hash__")==some Value.none)=true then _ else _) Q E s from ?_))
   rw [M_ (by rw [beq_builtin_none];exact R_)]
   refine A_ (bK y F.slot_tuple_hash.lookup (show wpAny _ _ (callSpecialIfBoundUnlessNone? (.ref a) "__hash__" _ >>= _) Q E s from ?_))
   refine A_ (wpAny_callSpecialIfBoundUnlessNone?_slot y F.slot_tuple_hash (ZI F.slot_tuple_hash y F.entry_tuple_hash (show wpAny _ _ (Builtin.Tuple.tupleItemsOf (.ref a) >>= _) _ _ s from ?_) (F.args_tuple_hash_1 _)))
   refine A_ (h_ N C (A_ ?_))
   rw [<- fG]
   refine dZ _ (λrest (b:Array Int) H=>∃c g D,z=c++g/\ReadsAll s.heap rest g D/\A9 g=true/\PyData.depthAll g<=n/\b.toList=Dc w c/\H={ s with toks:=s.toks+Cq c }) _ ?_ ?_ _ _ ⟨[],z,as,rfl,U,P,R,rfl,rfl⟩
   ·rintro x rest b H ⟨c,g,D,rfl,L,f,l,hb,rfl⟩
    cases L with
    | @cons _ _ d k J M h1 T =>
     simp only [A9,Bool.and_eq_true]at f
     simp only [PyData.depthAll]at l
     refine A_ (O d x J A.in1 _ { s with toks:=s.toks+Cq c } _ (by omega) f.1 h1 (by show A.units+1+n < _;omega) ?_)
     have p:∃e r G,c++d :: k=e++r/\ReadsAll s.heap rest r G/\A9 r=true/\PyData.depthAll r<=n/\(b.push (Bg w d)).toList=Dc w e/\({ s with toks:=s.toks+Cq c+Hm d }:jA)={ s with toks:=s.toks+Cq e } :=
      ⟨c++[d],k,M,by simp,T,f.2,by omega,by simp [hb,J0,Dc],by simp [Ih,Cq,Nat.add_assoc]⟩
     first
      | exact C_ p
      | exact A_ (C_ (C_ p))
   ·rintro b H ⟨c,g,D,rfl,L,f,l,hb,rfl⟩
    cases L
    rw [aY]at h
    simp only [Bg,Hm]at h
    refine(show wpAny _ _ (retInt (Builtin.Tuple.tupleHashOf b.toList)) _ _ _ from ?_)
    rw [hb]
    refine wpAny_ret_mkInt (show wpAny _ _ (if(decide (-(2:Int) ^ 63<=Builtin.Tuple.tupleHashOf (Dc w c)) && decide (Builtin.Tuple.tupleHashOf (Dc w c) < 2 ^ 63))=true then _ else _) Q E _ from ?_)
    unfold reduceHash at h
    by_cases j:(decide (-(2:Int) ^ 63<=Builtin.Tuple.tupleHashOf (Dc w c)) && decide (Builtin.Tuple.tupleHashOf (Dc w c) < 2 ^ 63))=true
    ·rw [S_ j]at h ⊢
     exact C_ (by simpa [Nat.add_assoc] using h)
    ·rw [M_ j]at h ⊢
     exact A_ (bE (C_ (by simpa [Nat.add_assoc] using h)))
theorem J5:∀(n q:Nat) (d:jG) (u:i_) (as:List jH) (A:jM) (E:i_->jA->Prop) (s:jA) (Q:Bool->jA->Prop),d.depth<=n->n < q->Cano d=true->Reads s.heap u d as->Q true s->wpAny (model prog w) A (eqIsQuiet q u) Q E s:=by
 intro n
 induction n with
 | zero =>
  intro q d u as A E s Q D hq hc c h
  cases c with
  | int i t=>rw [gA _ rfl];exact C_ h
  | str x t=>rw [gA _ rfl];exact C_ h
  | tuple f a2 k g=>simp [PyData.depth]at D
  | none=>simp [Cano]at hc
  | bool b=>simp [Cano]at hc
  | list f a2 k g=>simp [Cano]at hc
  | dict f a2 k g P=>simp [Cano]at hc
 | succ n M =>
  intro q d u as A E s Q D hq hc c h
  cases c with
  | int i t=>rw [gA _ rfl];exact C_ h
  | str x t=>rw [gA _ rfl];exact C_ h
  | none=>simp [Cano]at hc
  | bool b=>simp [Cano]at hc
  | list f a2 k g=>simp [Cano]at hc
  | dict f a2 k g P=>simp [Cano]at hc
  | @tuple a o items m C as J e y S =>
   have L:s.TypeIs (.ref a) "tuple" := ⟨o,J,e⟩
   have O:PyData.depthAll C<=n:=by simp only [PyData.depth]at D;omega
   have N:A9 C=true:=hc
   obtain⟨p,rfl⟩:∃p,q=p+1:=⟨q - 1,by omega⟩
   unfold eqIsQuiet
   refine A_ (bK L F.slot_tuple_eq.lookup (show wpAny _ _ (isInstance (.ref a) (.type "tuple") >>= _) _ _ s from A_ (bD L isSubtype_tuple_tuple ?_)))
   simp only [Bool.not_true,Bool.false_eq_true,if_false]
   refine A_ (d_ J y (A_ (show wpAny _ _ (forIn items _ _) _ _ s from ?_)))
   rw [<- fG]
   refine dZ _ (λrest r j=>r.1=none/\j=s/\∃l I,ReadsAll s.heap rest l I/\A9 l=true/\PyData.depthAll l<=n) _ ?_ ?_ _ _ ⟨rfl,rfl,C,as,S,N,O⟩
   ·rintro v rest r j ⟨c,rfl,l,I,T,e,B⟩
    cases T with
    | @cons _ _ d z G H h1 R =>
     simp only [A9,Bool.and_eq_true]at e
     simp only [PyData.depthAll]at B
     refine A_ (M p d v G A _ j _ (by omega) (by omega) e.1 h1 ?_)
     simp only [Bool.not_true,Bool.false_eq_true,if_false]
     exact C_ ⟨rfl,rfl,z,H,R,e.2,by omega⟩
   ·rintro⟨V,U⟩ j ⟨c,rfl,_⟩
    simp only at c
    subst c
    exact C_ h
mutual
theorem Lp{h:jN}:∀{v:i_} {d e:jG} {as n:List jH},Reads h v d as->Reads h v e n->Cano d=true->Cano e=true->d=e
 | _,_,_,_,_,.int i t,r,_,_=>by cases r;rfl
 | _,_,_,_,_,.str x t,r,_,_=>by cases r;rfl
 | _,_,_,_,_,.tuple f a2 k g,r,hc,j=>by
  cases r with
  | tuple a m c l =>
   rw [f]at a;cases a
   rw [k]at c;cases c
   rw [G2 g l hc j]
  | list a m c l=>simp [Cano]at j
  | dict a m c l p=>simp [Cano]at j
 | _,_,_,_,_,.none,_,hc,_=>by simp [Cano]at hc
 | _,_,_,_,_,.bool b,_,hc,_=>by simp [Cano]at hc
 | _,_,_,_,_,.list f a2 k g,_,hc,_=>by simp [Cano]at hc
 | _,_,_,_,_,.dict f a2 k g o,_,hc,_=>by simp [Cano]at hc
theorem G2{h:jN}:∀{b:List i_} {ds es:List jG} {as e:List jH},ReadsAll h b ds as->ReadsAll h b es e->A9 ds=true->A9 es=true->ds=es
 | _,_,_,_,_,.nil,r,_,_=>by cases r;rfl
 | _,_,_,_,_,.cons g f,r,hc,a=>by
  cases r with
  | cons c d =>
   simp only [A9,Bool.and_eq_true]at hc a
   rw [Lp g c hc.1 a.1,G2 f d hc.2 a.2]
end
mutual
theorem Hn{h h':jN}{p:jH}(hk:∀b o,b≠p->h.get? b=some o->h'.get? b=some o)(hp:∀o f n,h.get? p=some o->o.data≠.seq f n):∀{v:i_} {d:jG} {as:List jH},Reads h v d as->Cano d=true->Reads h' v d as
 | _,_,_,.int i t,_=>.int i t
 | _,_,_,.str x t,_=>.str x t
 | _,_,_,.tuple c a2 a e,hc=>.tuple (hk _ _ (λz=>by subst z;exact hp _ _ _ c a) c) a2 a (G3 hk hp e hc)
 | _,_,_,.none,hc=>by simp [Cano]at hc
 | _,_,_,.bool b,hc=>by simp [Cano]at hc
 | _,_,_,.list c a2 a e,hc=>by simp [Cano]at hc
 | _,_,_,.dict c a2 a e g,hc=>by simp [Cano]at hc
theorem G3{h h':jN}{p:jH}(hk:∀b o,b≠p->h.get? b=some o->h'.get? b=some o)(hp:∀o a n,h.get? p=some o->o.data≠.seq a n):∀{a:List i_} {ds:List jG} {as:List jH},ReadsAll h a ds as->A9 ds=true->ReadsAll h' a ds as
 | _,_,_,.nil,_=>.nil
 | _,_,_,.cons d c,hc=>by
  simp only [A9,Bool.and_eq_true]at hc
  exact .cons (Hn hk hp d hc.1) (G3 hk hp c hc.2)
end
theorem CG{x y:jG}(hx:Cano x=true)(hy:Cano y=true):PyData.eqv x y=decide (x=y):=by
 by_cases h:x=y
 ·subst h;rw [Jq x hx,YW rfl]
 ·rw [ZB h];exact(IE hx hy).mpr h
variable(prog w) in
noncomputable def J6:HeapKind prog w jG where
 is:=λh d a=>KeyTree d/\∃c,Reads h (.ref a) d c
 hash:=Bg w
 draws:=Hm
 room:=λA=>A.units+6 < cLine
 inj:=λ⟨f,_,j⟩ ⟨g,_,i⟩=>Lp j i f.can g.can
 keeps:=λ⟨k,c,r⟩ ho hd hs=>⟨k,c,Hn (λb o hb e=>(hs.2 b hb).trans e) (λo' m n e q=>by rw [ho]at e;cases e;rw [hd]at q;cases q) r k.can⟩
 pyHash:=λhu ⟨k,c,r⟩ h=>CF 6 _ _ c _ _ _ _ k.dep k.can r hu h
 eqBool:=λhu ⟨f,c,j⟩ ⟨g,l,i⟩ h=>gK _ _ _ _ _ _ _ _ j i f.lay g.lay (by have:=f.dep;omega) _ _ _ _ (by rw [CG f.can g.can];exact h)
 quiet:=λ⟨k,c,r⟩ h=>J5 6 8 _ _ c _ _ _ _ k.dep (by decide) k.can r h
end
section
variable {X:Cx}{aa:List (jH×jO)}{σ:St}{H:Hp}{s:jA}{a:jH}{e:jL}{te:AE}{τ:ASt}{μ:M}{o i value:jL}{pos de:Pos}{td ty tv:AE}
theorem VE.run{d:AV->M->Prop}(he:VE X e te)(I:Inv X aa σ H s)(hs:Du X.K H τ σ)(hc:Cn X.K μ H)(h:te τ μ d) :
  wpAny (model X.prog X.w) X.A (eval e X.env) (λu f=>∃x v μ1 b,Inv X aa σ b f/\Bi v u/\Kp H b/\Cn X.K μ1 b/\RelA X.K b x v/\d x μ1) X.xe s :=
 aP (he aa s σ H (λv b=>∃x μ1,Kp H b/\Cn X.K μ1 b/\RelA X.K b x v/\d x μ1) I ⟨τ,μ,d,hs,hc,h,λx μ1 v b S c r q=>⟨x,μ1,S,c,r,q⟩⟩)
  (λ_ _ z=>by obtain⟨v,b,g,j,x,μ1,S,c,r,q⟩:=z;exact⟨x,v,μ1,b,g,j,S,c,r,q⟩) λ_ _ e=>e
end
end L2
namespace L2
open PySem PySem.SetTable
theorem Fm{α:Type} [DecidableEq α]:∀{xs ys:List α},xs.Nodup->(∀x∈xs,x∈ys)->xs.length<=ys.length
 | [],_,_,_=>YZ _
 | x :: xs,ys,b,h=>by
  have a:=aO.mp b
  have hx:=h x (.head _)
  have:=Fm (ys:=ys.erase x) a.2 λz hz=>(List.mem_erase_of_ne (by rintro rfl;exact a.1 hz)).mpr (h z (.tail _ hz))
  rw [List.length_erase_of_mem hx]at this
  have:0 < ys.length:=gB hx
  rw [ZS];omega
def advM(mask:Nat)(p:Probe):Probe :=
 if p.more > 0 then { p with j:=p.j+1,more:=p.more - 1 } else
 { p with j:=(leap mask p.i p.perturb).1,more:=runEnd mask (leap mask p.i p.perturb).1 - (leap mask p.i p.perturb).1,i:=(leap mask p.i p.perturb).1,perturb:=(leap mask p.i p.perturb).2 }
theorem CH(t:SetTable)(p:Probe):t.advance p=advM t.mask p:=rfl
def Uu(mask i perturb l:Nat):Probe:={ j:=i+l,more:=runEnd mask i - i - l,i:=i,perturb:=perturb,dummy:=none }
def Lq(mask:Nat)(h:Int):Nat->Probe
 | 0=>Uu mask (bits h % (mask+1)) (bits h) 0
 | n+1=>advM mask (Lq mask h n)
def sq(mask:Nat)(h:Int)(n:Nat):Nat:=(Lq mask h n).j
def rn(mask:Nat)(h:Int):Nat->Nat×Nat
 | 0=>(bits h % (mask+1),bits h)
 | r+1=>leap mask (rn mask h r).1 (rn mask h r).2
def nr(mask:Nat)(h:Int):Nat->Nat
 | 0=>0
 | r+1=>nr mask h r+(runEnd mask (rn mask h r).1 - (rn mask h r).1)+1
theorem IM(mask i:Nat):runEnd mask i - i<=9:=by unfold runEnd;split <;> omega
theorem Xr(mask i:Nat):i<=runEnd mask i:=by unfold runEnd;split <;> omega
theorem Oo{mask i:Nat}(h:i<=mask):runEnd mask i<=mask:=by unfold runEnd;split <;> omega
theorem EO(mask:Nat)(h:Int):∀r,nr mask h r<=10 * r
 | 0=>I_ _
 | r+1=>by
  have:=EO mask h r
  have:=IM mask (rn mask h r).1
  rw [nr];omega
theorem Xs(mask:Nat)(h:Int):∀r,(rn mask h r).1<=mask
 | 0=>by have:=Nat.mod_lt (bits h) (show 0 < mask+1 from g_ _);rw [rn];dsimp only;exact bS this
 | r+1=>by
  rw [rn,leap]
  have:=Nat.mod_lt ((rn mask h r).1 * 5+1+(rn mask h r).2 / 32) (show 0 < mask+1 from g_ _)
  dsimp only;exact bS this
theorem Ql{mask:Nat}{h:Int}{n i a:Nat}(e:Lq mask h n=Uu mask i a 0):∀l,l<=runEnd mask i - i->Lq mask h (n+l)=Uu mask i a l
 | 0,_=>e
 | l+1,b=>by
  rw [<- iL,Lq,Ql e l (fU b)]
  unfold advM
  rw [S_ (show(Uu mask i a l).more > 0 by show _ - l > 0;omega)]
  show Probe.mk _ _ _ _ _=Probe.mk _ _ _ _ _
  congr 1
theorem R4(mask:Nat)(h:Int):∀r,Lq mask h (nr mask h r)=Uu mask (rn mask h r).1 (rn mask h r).2 0
 | 0=>rfl
 | r+1=>by
  rw [nr,Lq,Ql (R4 mask h r) _ (I_ _)]
  unfold advM
  rw [M_ (show ¬(Uu mask (rn mask h r).1 (rn mask h r).2 (runEnd mask (rn mask h r).1 - (rn mask h r).1)).more > 0 by show ¬(_ - _ - _ > 0);omega)]
  rfl
theorem Ho{mask:Nat}{h:Int}{r l:Nat}(a:l<=runEnd mask (rn mask h r).1 - (rn mask h r).1):sq mask h (nr mask h r+l)=(rn mask h r).1+l:=by
 unfold sq
 rw [Ql (R4 mask h r) l a];rfl
theorem Hq(mask:Nat)(h:Int):∀n,(Lq mask h n).dummy=none
 | 0=>rfl
 | n+1=>by
  rw [Lq,advM]
  split
  ·exact Hq mask h n
  ·exact Hq mask h n
theorem EQ(mask:Nat)(h:Int):∀r,(rn mask h r).2=bits h / 32 ^ r
 | 0=>by rw [rn,Nat.pow_zero,Nat.div_one]
 | r+1=>by
  rw [rn,leap]
  dsimp only
  rw [EQ mask h r,Nat.div_div_eq_div_mul,Nat.pow_succ]
theorem CI(h:Int):bits h < 2 ^ 64:=by
 unfold bits
 have h1:=iB h (show(0:Int) < 2 ^ 64 by decide)
 have h2:=Int.emod_nonneg h (show(2 ^ 64:Int)≠0 by decide)
 omega
theorem CJ(mask:Nat)(h:Int)(r:Nat):(rn mask h (13+r+1)).1=((rn mask h (13+r)).1 * 5+1) % (mask+1):=by
 rw [rn,leap]
 dsimp only
 have e:(rn mask h (13+r)).2=0:=by
  rw [EQ]
  refine Nat.div_eq_of_lt (X_ (CI h) ?_)
  exact Q_ (show 2 ^ 64<=32 ^ 13 by decide) (Nat.pow_le_pow_right (by decide) (dD _ _))
 rw [e]
def cyc(mask:Nat)(i:Nat):Nat->Nat
 | 0=>i
 | b+1=>(cyc mask i b * 5+1) % (mask+1)
theorem Xt(mask:Nat)(h:Int):∀b,(rn mask h (13+b)).1=cyc mask (rn mask h 13).1 b
 | 0=>rfl
 | b+1=>by rw [<- iL,CJ,Xt mask h b];rfl
theorem G4(mask i:Nat)(a:Nat):∀b,cyc mask (cyc mask i a) b=cyc mask i (a+b)
 | 0=>rfl
 | b+1=>by rw [cyc,G4 mask i a b];rfl
def Msk(mask:Nat):Prop:=mask=7\/mask=31\/mask=127\/mask=511\/mask=2047\/mask=8191
def orbit(mask:Nat):Nat->Nat->List Nat
 | 0,_=>[]
 | n+1,i=>i :: orbit mask n ((i * 5+1) % (mask+1))
theorem Lr(mask:Nat):∀(n i x:Nat),x∈orbit mask n i->∃b,b < n/\cyc mask i b=x
 | 0,_,_,h=>by cases h
 | n+1,i,x,h=>by
  rcases YV.mp h with rfl | h
  ·exact⟨0,g_ _,rfl⟩
  ·obtain⟨b,hb,e⟩:=Lr mask n _ x h
   refine⟨b+1,Nat.add_lt_add_right hb 1,?_⟩
   rw [show b+1=1+b from Nat.add_comm _ _,<- G4]
   exact e
def Kx(mask:Nat):Nat->Nat->Nat->Nat
 | 0,_,a=>a
 | n+1,i,a=>Kx mask n ((i * 5+1) % (mask+1)) (a ||| 1 <<< i)
theorem orbB_mem(mask:Nat):∀(n i a x:Nat),(Kx mask n i a).testBit x=true->a.testBit x=true\/x∈orbit mask n i
 | 0,_,_,_,h=>.inl h
 | n+1,i,a,x,h=>by
  rcases orbB_mem mask n _ _ x h with h | h
  ·rw [iC,cU]at h
   rcases h with h | h
   ·exact .inl h
   ·right
    rw [Nat.one_shiftLeft,Nat.testBit_two_pow]at h
    exact YV.mpr (.inl (YU h).symm)
  ·exact .inr (ZK _ h)
theorem orbs:(Kx 7 8 0 0=2 ^ 8 - 1/\cyc 7 0 8=0)/\(Kx 31 32 0 0=2 ^ 32 - 1/\cyc 31 0 32=0)/\(Kx 127 128 0 0=2 ^ 128 - 1/\cyc 127 0 128=0)/\(Kx 511 512 0 0=2 ^ 512 - 1/\cyc 511 0 512=0)/\(Kx 2047 2048 0 0=2 ^ 2048 - 1/\cyc 2047 0 2048=0)/\(Kx 8191 8192 0 0=2 ^ 8192 - 1/\cyc 8191 0 8192=0):=by decide +kernel
theorem orb{mask:Nat}(e:Msk mask):Kx mask (mask+1) 0 0=2 ^ (mask+1) - 1/\cyc mask 0 (mask+1)=0:=by
 obtain⟨h1,h2,c,d,a,b⟩:=orbs
 rcases e with rfl | rfl | rfl | rfl | rfl | rfl
 ·exact h1
 ·exact h2
 ·exact c
 ·exact d
 ·exact a
 ·exact b
theorem CK{mask:Nat}(k:Msk mask){i x:Nat}(j:i<=mask)(hx:x<=mask):∃b,b<=mask+1/\cyc mask i b=x:=by
 obtain⟨h1,h2⟩:=orb k
 have d:∀y,y<=mask->∃b,b < mask+1/\cyc mask 0 b=y:=λy hy=>Lr mask _ 0 y (by
  have g:(Kx mask (mask+1) 0 0).testBit y=true:=by rw [h1,Nat.testBit_two_pow_sub_one];exact YW (Nat.lt_succ_of_le hy)
  rcases orbB_mem mask _ _ _ y g with h | h
  ·rw [iR]at h;cases h
  ·exact h)
 obtain⟨a,ha,f⟩:=d i j
 obtain⟨c,hc,e⟩:=d x hx
 rcases aB c a with h | h
 ·refine⟨mask+1 - a+c,by omega,?_⟩
  rw [<- f,G4,show a+(mask+1 - a+c)=(mask+1)+c by omega,<- G4,h2,e]
 ·refine⟨c - a,by omega,?_⟩
  rw [<- f,G4,show a+(c - a)=c from gX h,e]
theorem reach{mask:Nat}(a:Msk mask)(h:Int){x:Nat}(hx:x<=mask):∃r,r<=mask+14/\(rn mask h r).1=x:=by
 obtain⟨b,hb,e⟩:=CK a (Xs mask h 13) hx
 exact⟨13+b,by omega,by rw [Xt,e]⟩
theorem ER(mask:Nat)(h:Int):∀n,∃r l,l<=runEnd mask (rn mask h r).1 - (rn mask h r).1/\n=nr mask h r+l
 | 0=>⟨0,0,YZ _,rfl⟩
 | n+1=>by
  obtain⟨r,l,a,rfl⟩:=ER mask h n
  rcases aB l (runEnd mask (rn mask h r).1 - (rn mask h r).1) with c | c
  ·exact⟨r,l+1,c,rfl⟩
  ·exact⟨r+1,0,YZ _,by rw [nr];omega⟩
theorem R5(mask:Nat)(h:Int)(n:Nat):sq mask h n<=mask:=by
 obtain⟨r,l,a,rfl⟩:=ER mask h n
 rw [Ho a]
 have:=Oo (Xs mask h r)
 have:=Xr mask (rn mask h r).1
 omega
theorem Qm{mask:Nat}(l:Msk mask)(h:Int)(a:Nat->Prop) [DecidablePred a]{x:Nat}(hx:x<=mask)(j:¬a x):∃n,n < 10 * turns mask/\¬a (sq mask h n)/\∀m,m < n->a (sq mask h m):=by
 obtain⟨r,o,e⟩:=reach l h hx
 have d:¬a (sq mask h (nr mask h r)):=by
  rw [show nr mask h r=nr mask h r+0 from rfl,Ho (YZ _),e];exact j
 have h1:nr mask h r < 10 * turns mask:=by have:=EO mask h r;unfold turns;omega
 generalize nr mask h r=k at d h1
 induction k using Nat.strongRecOn with
 | _ k f =>
  by_cases c:∀m,m < k->a (sq mask h m)
  ·exact⟨k,h1,d,c⟩
  ·have⟨m,b,g⟩:∃m,m < k/\¬a (sq mask h m):=by
    refine ZE λz=>c λm i=>ZE λy=>z ⟨m,i,y⟩
   exact f m b g (dA b h1)
theorem R6{mask:Nat}(h:Int)(owner:Array (Option Nat))(hs:owner.size=mask+1):∀(fuel r:Nat),(∃k,r<=k/\k < r+fuel/\owner.getD (rn mask h k).1 none=none)->(∀m,m < nr mask h r->(owner.getD (sq mask h m) none).isSome=true) ->
  ∃n,layClean.free mask owner fuel (rn mask h r).1 (rn mask h r).2=some (sq mask h n)/\owner.getD (sq mask h n) none=none/\∀m,m < n->(owner.getD (sq mask h m) none).isSome=true
 | 0,r,⟨k,h1,h2,_⟩,_=>by omega
 | fuel+1,r,hk,d=>by
  have a:∀j,j<=mask->owner.getD j (some 0)=owner.getD j none:=λj hj=>by
   simp only [Array.getD,show j < owner.size by omega,dite_true]
  have p:=Xs mask h r
  have s:=Oo p
  have u:=Xr mask (rn mask h r).1
  rw [layClean.free]
  cases c:(List.range (runEnd mask (rn mask h r).1+1 - (rn mask h r).1)).find? λk=>(owner.getD ((rn mask h r).1+k) (some 0)).isNone with
  | some k =>
   obtain⟨o,c2,t⟩:=List.find?_range_eq_some.mp c
   have v:=ZY.mp c2
   refine⟨nr mask h r+k,?_,?_,λm g=>?_⟩
   ·rw [Ho (by omega)]
   ·rw [Ho (by omega),<- a _ (by omega)]
    exact Option.isNone_iff_eq_none.mp o
   ·rcases aB m (nr mask h r) with z | z
    ·exact d m z
    ·have e:m=nr mask h r+(m - nr mask h r):=by omega
     rw [e,Ho (by omega),<- a _ (by omega)]
     have:=t (m - nr mask h r) (by omega)
     cases q:owner.getD ((rn mask h r).1+(m - nr mask h r)) (some 0) with
     | none=>rw [q]at this;cases this
     | some _=>rfl
  | none =>
   have i:=List.find?_range_eq_none.mp c
   have f:∀l,l<=runEnd mask (rn mask h r).1 - (rn mask h r).1->(owner.getD ((rn mask h r).1+l) none).isSome=true:=λl w=>by
    have:=i l (by omega)
    rw [a _ (by omega)]at this
    cases q:owner.getD ((rn mask h r).1+l) none with
    | none=>rw [q]at this;cases this
    | some _=>rfl
   refine R6 h owner hs fuel (r+1) ?_ λm g=>?_
   ·obtain⟨k,h1,h2,b⟩:=hk
    rcases fH h1 with rfl | h1
    ·have:=f 0 (YZ _)
     rw [Nat.add_zero,b]at this;cases this
    ·exact⟨k,h1,by omega,b⟩
   ·rcases aB m (nr mask h r) with z | z
    ·exact d m z
    ·have e:m=nr mask h r+(m - nr mask h r):=by omega
     rw [nr]at g
     rw [e,Ho (by omega)]
     exact f _ (by omega)
structure Own(mask:Nat)(hs:List Int)(owner:Array (Option Nat))(k:Nat):Prop where
 size:owner.size=mask+1
 lt:∀j x,owner.getD j none=some x->x < k
 has:∀x,x < k->∃j,owner.getD j none=some x
 inj:∀j j' x,owner.getD j none=some x->owner.getD j' none=some x->j=j'
 path:∀j x h,owner.getD j none=some x->hs[x]?=some h->∃n,sq mask h n=j/\∀m,m < n->(owner.getD (sq mask h m) none).isSome=true
theorem Xu(o:Array (Option Nat))(j:Nat)(v:Option Nat)(hj:j < o.size)(i:Nat):(o.setIfInBounds j v).getD i none=if i=j then v else o.getD i none:=by
 rw [aM,aM,Array.getElem?_setIfInBounds]
 by_cases e:i=j
 ·subst e
  rw [S_ rfl,S_ hj,S_ rfl];rfl
 ·rw [M_ (λz=>e z.symm),M_ e]
theorem R7{o:Array (Option Nat)}{j x:Nat}(h:o.getD j none=some x):j < o.size:=by
 rw [aM]at h
 cases c:o[j]? with
 | none=>rw [c]at h;cases h
 | some y=>exact(eV.mp c).1
theorem Xv{mask k:Nat}{hs:List Int}{owner:Array (Option Nat)}(o:Own mask hs owner k)(hk:k<=mask):∃x,x<=mask/\owner.getD x none=none:=by
 refine ZE λz=>?_
 have f:∀j,j<=mask->∃x,owner.getD j none=some x:=λj hj=>by
  cases c:owner.getD j none with
  | none=>exact absurd ⟨j,hj,c⟩ z
  | some x=>exact⟨x,rfl⟩
 have h1:((List.range (mask+1)).map λj=>(owner.getD j none).getD 0).Nodup:=by
  rw [List.Nodup,cQ]
  refine List.Pairwise.imp_of_mem (R:=(· < ·)) (λ{a b} ha hb i4 e=>?_) eF
  obtain⟨x,d⟩:=f a (by have:=ZY.mp ha;exact bS this)
  obtain⟨y,g⟩:=f b (by have:=ZY.mp hb;exact bS this)
  rw [d,g]at e
  have h:x=y:=e
  subst h
  have:=o.inj a b x d g
  omega
 have h2:=Fm (ys:=List.range k) h1 λy hy=>by
  obtain⟨j,hj,rfl⟩:=D_.mp hy
  obtain⟨x,d⟩:=f j (by have:=ZY.mp hj;exact bS this)
  rw [d]
  exact ZY.mpr (o.lt j x d)
 rw [B_,aC,aC]at h2
 omega
theorem Xw{mask k:Nat}{hs:List Int}{owner:Array (Option Nat)}{h:Int}(z:Msk mask)(o:Own mask hs owner k)(hk:k<=mask)(s:hs[k]?=some h):∃j,layClean.free mask owner (turns mask) (bits h % (mask+1)) (bits h)=some j/\Own mask hs (owner.setIfInBounds j (some k)) (k+1):=by
 obtain⟨x,hx,A⟩:=Xv o hk
 obtain⟨r,G,C⟩:=reach z h hx
 obtain⟨n,t,B,D⟩:=R6 h owner o.size (turns mask) 0 ⟨r,YZ _,by unfold turns;omega,by rw [C];exact A⟩ (λm d=>absurd d (gU _))
 have hj:sq mask h n < owner.size:=by have:=R5 mask h n;rw [o.size];exact Nat.lt_succ_of_le this
 have c:=Xu owner (sq mask h n) (some k) hj
 refine⟨_,t,by rw [Array.size_setIfInBounds];exact o.size,λj y e=>?_,λy hy=>?_,λj q y a b=>?_,λj y g a b=>?_⟩
 ·rw [c]at e
  split at e
  ·cases e;exact cB _
  ·have:=o.lt j y e;exact bV this
 ·rcases(show y < k\/y=k by omega) with h' | rfl
  ·obtain⟨j,f⟩:=o.has y h'
   refine⟨j,?_⟩
   rw [c,M_ (by rintro rfl;rw [B]at f;cases f)];exact f
  ·exact⟨_,by rw [c,S_ rfl]⟩
 ·rw [c]at a b
  split at a
  ·rename_i l
   split at b
   ·rename_i u;exact l.trans u.symm
   ·cases a;have:=o.lt _ _ b;omega
  ·split at b
   ·cases b;have:=o.lt _ _ a;omega
   ·exact o.inj j q y a b
 ·have p:∀i,(owner.getD i none).isSome=true->((owner.setIfInBounds (sq mask h n) (some k)).getD i none).isSome=true:=λi w=>by
   rw [c]
   split
   ·rfl
   ·exact w
  rw [c]at a
  split at a
  ·rename_i l
   cases a
   rw [s]at b
   cases b
   exact⟨n,l.symm,λm d=>p _ (D m d)⟩
  ·obtain⟨E,v,F⟩:=o.path j y g a b
   exact⟨E,v,λm d=>p _ (F m d)⟩
def CL(mask:Nat)(acc:Option (Array (Option Nat)×Nat))(h:Int):Option (Array (Option Nat)×Nat):=do
 let(a,k) <- acc
 let j <- layClean.free mask a (turns mask) (bits h % (mask+1)) (bits h)
 pure (a.setIfInBounds j (some k),k+1)
theorem Op{mask:Nat}(d:Msk mask){hs:List Int}(b:hs.length<=mask+1):∀(rest a:List Int) (owner:Array (Option Nat)),hs=a++rest->Own mask hs owner a.length->∃c,rest.foldl (CL mask) (some (owner,a.length))=some (c,hs.length)/\Own mask hs c hs.length
 | [],a,owner,e,o=>by
  rw [aY]at e
  subst e
  exact⟨owner,rfl,o⟩
 | h :: rest,a,owner,e,o=>by
  have hk:a.length<=mask:=by rw [e,L_,ZS]at b;omega
  obtain⟨j,f,g⟩:=Xw d o hk (h:=h) (by rw [e];simp)
  have i:CL mask (some (owner,a.length)) h=some (owner.setIfInBounds j (some a.length),(a++[h]).length):=by
   unfold CL
   simp only [Option.bind_eq_bind,Option.bind_some,f,List.length_append]
   rfl
  rw [cW,i]
  exact Op d b rest (a++[h]) _ (by rw [e];simp) (by rw [L_];exact g)
theorem IN{mask:Nat}(f:Msk mask)(hs:Array Int)(c:hs.size<=mask+1):∃a,layClean mask hs=some a/\Own mask hs.toList a hs.size:=by
 have g:Own mask hs.toList (Array.replicate (mask+1) none) 0:=by
  have b:∀j,(Array.replicate (mask+1) (none:Option Nat)).getD j none=none:=λj=>by
   rw [aM,Array.getElem?_replicate]
   split <;> rfl
  exact⟨by simp,λj x e=>(by rw [b]at e;cases e),λx hx=>absurd hx (gU _),λj i x e=>(by rw [b]at e;cases e),λj x h e=>(by rw [b]at e;cases e)⟩
 obtain⟨a,e,o⟩:=Op f (hs:=hs.toList) (by simpa using c) hs.toList [] _ rfl g
 refine⟨a,?_,by simpa using o⟩
 unfold layClean
 rw [<- Array.foldl_toList]
 have d:List.foldl (CL mask) (some (Array.replicate (mask+1) none,0)) hs.toList=some (a,hs.toList.length):=e
 exact(bB (Option.map (·.1)) d).trans rfl
structure TabQ(t:SetTable)(hs:List Int):Prop where
 msk:Msk t.mask
 len:t.place.size=hs.length
 le:∀j∈t.place.toList,j<=t.mask
 path:∀z∈t.place.toList.zip hs,∃n,sq t.mask z.2 n=z.1/\∀m,m < n->sq t.mask z.2 m∈t.place.toList
theorem CM{mask f mv:Nat}{led pl:Bool}(l:Msk mask)(hs:Array Int)(E:hs.size<=mask+1):∃t k,laid mask f mv led pl hs=some (t,k)/\t.mask=mask/\k.toList.Perm (List.range hs.size)/\TabQ t (k.toList.map λi=>hs.getD i 0):=by
 obtain⟨c,e,o⟩:=IN l hs E
 have d:∀j x,(j,x)∈((List.range (mask+1)).filterMap λj=>(c.getD j none).map (j,·))↔c.getD j none=some x:=λj x=>by
  rw [hJ]
  constructor
  ·rintro⟨a,ha,q⟩
   obtain⟨y,h,A⟩:=F_.mp q
   cases A;exact h
  ·intro q
   refine⟨j,ZY.mpr ?_,by rw [q];rfl⟩
   have:=R7 q;rw [o.size]at this;exact this
 have hnd:((List.range (mask+1)).filterMap λj=>(c.getD j none).map (j,·)).Pairwise λp q=>p.2≠q.2:=by
  refine List.Pairwise.filterMap _ (R:=(· < ·)) (λa H F b hb I B=>?_) eF
  obtain⟨z,hz,rfl⟩:=F_.mp hb
  obtain⟨G,g,rfl⟩:=F_.mp B
  intro q
  have u:z=G:=q
  subst u
  have:=o.inj a H z hz g
  omega
 refine⟨_,_,by unfold laid;rw [e];rfl,rfl,?_,?_⟩
 ·show(List.map (λp:Nat×Nat=>p.2) _).Perm _
  refine(List.perm_ext_iff_of_nodup ?_ List.nodup_range).mpr λx=>?_
  ·rw [List.Nodup,cQ];exact hnd
  ·rw [D_,ZY]
   constructor
   ·rintro⟨⟨j,y⟩,hy,rfl⟩
    exact o.lt j y ((d j y).mp hy)
   ·intro hx
    obtain⟨j,D⟩:=o.has x hx
    exact⟨(j,x),(d j x).mpr D,rfl⟩
 ·refine⟨l,?_,λj hj=>?_,λz hz=>?_⟩
  ·show(List.map _ _).toArray.size=(List.map _ (List.map _ _)).length
   simp
  ·have s:j∈List.map (·.1) ((List.range (mask+1)).filterMap λj=>(c.getD j none).map (j,·)):=hj
   obtain⟨⟨a,b⟩,q,rfl⟩:=D_.mp s
   have:=R7 ((d a b).mp q)
   rw [o.size]at this
   show a<=mask
   exact bS this
  ·have g:z∈List.zip (List.map (·.1) ((List.range (mask+1)).filterMap λj=>(c.getD j none).map (j,·))) (List.map (λi=>hs.getD i 0) (List.map (·.2) ((List.range (mask+1)).filterMap λj=>(c.getD j none).map (j,·)))):=hz
   rw [YT,List.zip_map',D_]at g
   obtain⟨⟨a,b⟩,q,rfl⟩:=g
   have r:=(d a b).mp q
   have hb:=o.lt a b r
   obtain⟨n,w,C⟩:=o.path a b (hs.getD b 0) r (by rw [YN,aM,YX hb];rfl)
   refine⟨n,w,λm v=>?_⟩
   obtain⟨y,h⟩:=Option.isSome_iff_exists.mp (C m v)
   exact D_.mpr ⟨(_,y),(d _ y).mpr h,rfl⟩
theorem Ci{xs:Array Nat}(h:Dx xs){j k:Nat}(e:xs[k]?=some j):SetTable.below xs j=k:=by
 obtain⟨hk,b⟩:=eV.mp e
 obtain⟨h1,h2,a⟩:=Eu h j
 have f:xs.getD k j=j:=by rw [aM,e];rfl
 rcases iF (SetTable.below xs j) k with c | c | c
 ·have:=h.lt (d:=j) c hk
  have:=a _ (I_ _) (dA c hk)
  omega
 ·exact c
 ·have:=h2 k c
  omega
theorem M4{t:SetTable}{led:Bool}(h:TblOk t led){j:Nat}(hj:j∈t.place.toList):∃i,t.slot j=.live i/\t.place[i]?=some j:=by
 obtain⟨i,a⟩:=List.getElem?_of_mem hj
 rw [YN]at a
 refine⟨i,?_,a⟩
 unfold SetTable.slot
 dsimp only
 rw [Ci h.rise a,a]
 simp
theorem Oq{t:SetTable}{led:Bool}(h:TblOk t led){j:Nat}(hj:j∉t.place.toList):t.slot j=.empty:=by
 unfold SetTable.slot
 dsimp only
 rw [h.dum,Jt,M_]
 ·rfl
 ·intro c
  have a:t.place[SetTable.below t.place j]?=some j:=by simpa using c
  rw [<- YN]at a
  exact hj (U_ a)
theorem J7{α β:Type}(a:α)(b:β):∀(p:Nat) (xs:List α) (ys:List β),xs.length=ys.length->(xs.take p++a :: xs.drop p).zip (ys.take p++b :: ys.drop p)=(xs.zip ys).take p++(a,b) :: (xs.zip ys).drop p
 | 0,xs,ys,_=>by simp
 | p+1,[],[],_=>by simp
 | p+1,x :: xs,y :: ys,h=>by
  have:=J7 a b p xs ys (by simpa using h)
  simpa using this
 | _+1,[],_ :: _,h=>by simp at h
 | _+1,_ :: _,[],h=>by simp at h
theorem TabQ.put{t:SetTable}{led:Bool}{hs:List Int}{h:Int}{n:Nat}(q:TabQ t hs)(T:TblOk t led)(k:∀m,m < n->sq t.mask h m∈t.place.toList):TabQ (t.put (sq t.mask h n)).1 (hs.take (SetTable.below t.place (sq t.mask h n))++h :: hs.drop (SetTable.below t.place (sq t.mask h n))):=by
 have hp:SetTable.below t.place (sq t.mask h n)<=t.place.size:=(Eu T.rise _).1
 have e:(t.put (sq t.mask h n)).1.place.toList=t.place.toList.take (SetTable.below t.place (sq t.mask h n))++sq t.mask h n :: t.place.toList.drop (SetTable.below t.place (sq t.mask h n)):=Fj _ _ _ hp
 have l:(t.put (sq t.mask h n)).1.mask=t.mask:=rfl
 have i:=q.len
 have g:∀j,j∈t.place.toList->j∈(t.put (sq t.mask h n)).1.place.toList:=λj hj=>by
  rw [e]
  rw [<- eQ (SetTable.below t.place (sq t.mask h n)) t.place.toList]at hj
  rcases G_.mp hj with hj | hj
  ·exact YM _ hj
  ·exact YO _ (ZK _ hj)
 have o:∀j,j∈(t.put (sq t.mask h n)).1.place.toList->j=sq t.mask h n\/j∈t.place.toList:=λj hj=>by
  rw [e]at hj
  rcases G_.mp hj with hj | hj
  ·exact .inr (dO hj)
  ·rcases YV.mp hj with hj | hj
   ·exact .inl hj
   ·exact .inr (gO hj)
 refine⟨q.msk,?_,λj hj=>?_,λz hz=>?_⟩
 ·rw [<- YS,e]
  simp only [List.length_append,List.length_cons,List.length_take,List.length_drop,Array.length_toList]
  omega
 ·rcases o j hj with rfl | hj
  ·exact R5 _ _ _
  ·exact q.le j hj
 ·rw [e,J7 _ _ _ _ _ (by rw [YS];exact i)]at hz
  rw [l]
  have c:z∈t.place.toList.zip hs->∃d,sq t.mask z.2 d=z.1/\∀m,m < d->sq t.mask z.2 m∈(t.put (sq t.mask h n)).1.place.toList:=λhz=>by
   obtain⟨d,a,b⟩:=q.path z hz
   exact⟨d,a,λm f=>g _ (b m f)⟩
  rcases G_.mp hz with hz | hz
  ·exact c (dO hz)
  ·rcases YV.mp hz with rfl | hz
   ·exact⟨n,rfl,λm f=>g _ (k m f)⟩
   ·exact c (gO hz)
theorem Xx{t:SetTable}{led:Bool}{hs:List Int}(q:TabQ t hs)(T:TblOk t led)(a:hs.length<=t.mask):∃x,x<=t.mask/\x∉t.place.toList:=by
 refine ZE λz=>?_
 have:=Fm (ys:=t.place.toList) (List.nodup_range (n:=t.mask+1)) λx hx=>ZE λy=>z ⟨x,by have:=ZY.mp hx;exact bS this,y⟩
 rw [aC,YS,q.len]at this
 omega
theorem probe_ok{t:SetTable}{led:Bool}(T:TblOk t led){hashAt:Nat->Int}{h:Int}{e:Nat}(he:sq t.mask h e∉t.place.toList)(hb:∀m,m < e->sq t.mask h m∈t.place.toList):∀(f n:Nat),n<=e->e < n+f ->
  (SetTable.probe.go t hashAt h f (Lq t.mask h n)=some (.empty (sq t.mask h e) none)/\∀m i,n<=m->m < e->t.place[i]?=some (sq t.mask h m)->hashAt i≠h) \/
  ∃k i,n<=k/\k < e/\t.place[i]?=some (sq t.mask h k)/\hashAt i=h/\SetTable.probe.go t hashAt h f (Lq t.mask h n)=some (.candidate (sq t.mask h k) i (Lq t.mask h (k+1)))/\∀m i,n<=m->m < k->t.place[i]?=some (sq t.mask h m)->hashAt i≠h
 | 0,n,h1,h2=>by omega
 | f+1,n,h1,h2=>by
  rw [SetTable.probe.go]
  have p:∀{i i' j:Nat},t.place[i]?=some j->t.place[i']?=some j->i=i':=λa b=>(Ci T.rise a).symm.trans (Ci T.rise b)
  rcases fH h1 with rfl | h1
  ·rw [show t.slot (Lq t.mask h n).j=.empty from Oq T he]
   dsimp only
   rw [Hq]
   exact .inl ⟨rfl,λm i a b=>by omega⟩
  ·obtain⟨i,v,hp⟩:=M4 T (hb n h1)
   rw [show t.slot (Lq t.mask h n).j=.live i from v]
   dsimp only
   by_cases c:hashAt i=h
   ·rw [S_ (by simpa using c)]
    exact .inr ⟨n,i,I_ _,h1,hp,c,rfl,λm i a b=>by omega⟩
   ·rw [M_ (by simpa using c),CH]
    have l:∀i',t.place[i']?=some (sq t.mask h n)->hashAt i'≠h:=λi' q=>by rw [p q hp];exact c
    rcases probe_ok T he hb f (n+1) h1 (by omega) with⟨a,b⟩ | ⟨k,i',r,a2,w,u,s,x⟩
    ·refine .inl ⟨a,λm i' m1 o g=>?_⟩
     rcases fH m1 with rfl | m1
     ·exact l i' g
     ·exact b m i' m1 o g
    ·refine .inr ⟨k,i',fU r,a2,w,u,s,λm d m1 o g=>?_⟩
     rcases fH m1 with rfl | m1
     ·exact l d g
     ·exact x m d m1 o g
end L2
namespace L2
open PySem
section
variable {prog:jJ}{w:jK}{A:jM}{E:i_->jA->Prop}{s:jA}
theorem Xy:∀(n q:Nat) (d:jG) (u:i_) (as:List jH) (A:jM) (E:i_->jA->Prop) (s:jA) (Q:Bool->jA->Prop),d.depth<=n->n < q->Cano d=true->Reads s.heap u d as->Q false s->wpAny (model prog w) A (ofAClassStatement q u) Q E s:=by
 intro n
 induction n with
 | zero =>
  intro q d u as A E s Q D hq hc c h
  cases c with
  | int i t=>unfold ofAClassStatement;exact C_ h
  | str x t=>unfold ofAClassStatement;exact C_ h
  | tuple f a2 k g=>simp [PyData.depth]at D
  | none=>simp [Cano]at hc
  | bool b=>simp [Cano]at hc
  | list f a2 k g=>simp [Cano]at hc
  | dict f a2 k g N=>simp [Cano]at hc
 | succ n J =>
  intro q d u as A E s Q D hq hc c h
  cases c with
  | int i t=>unfold ofAClassStatement;exact C_ h
  | str x t=>unfold ofAClassStatement;exact C_ h
  | none=>simp [Cano]at hc
  | bool b=>simp [Cano]at hc
  | list f a2 k g=>simp [Cano]at hc
  | dict f a2 k g N=>simp [Cano]at hc
  | @tuple a o items m C as I e y P =>
   have R:s.TypeIs (.ref a) "tuple" := ⟨o,I,e⟩
   have M:PyData.depthAll C<=n:=by simp only [PyData.depth]at D;omega
   have L:A9 C=true:=hc
   obtain⟨p,rfl⟩:∃p,q=p+1:=⟨q - 1,by omega⟩
   unfold ofAClassStatement
   refine A_ (fO R ?_)
   dsimp only
   rw [S_ (by decide:("tuple" == "tuple")=true)]
   refine A_ (C_ ?_)
   simp only [Bool.not_true,Bool.false_eq_true,if_false]
   refine A_ (d_ I y ?_)
   dsimp only
   refine A_ (show wpAny _ _ (forIn items _ _) _ _ s from ?_)
   rw [<- fG]
   refine dZ _ (λrest r j=>r.1=none/\j=s/\∃l H,ReadsAll s.heap rest l H/\A9 l=true/\PyData.depthAll l<=n) _ ?_ ?_ _ _ ⟨rfl,rfl,C,as,P,L,M⟩
   ·rintro v rest r j ⟨c,rfl,l,H,S,e,B⟩
    cases S with
    | @cons _ _ d z F G h1 O =>
     simp only [A9,Bool.and_eq_true]at e
     simp only [PyData.depthAll]at B
     refine A_ (J p d v F A _ j _ (by omega) (by omega) e.1 h1 ?_)
     simp only [Bool.false_eq_true,if_false]
     exact C_ ⟨rfl,rfl,z,G,O,e.2,by omega⟩
   ·rintro⟨U,T⟩ j ⟨c,rfl,_⟩
    simp only at c
    subst c
    exact C_ h
theorem IP:∀(n q:Nat) (d:jG) (u:i_) (as:List jH) (A:jM) (E:i_->jA->Prop) (s:jA) (Q:Bool->jA->Prop),d.depth<=n->Cano d=true->Reads s.heap u d as->(∀b,Q b s)->wpAny (model prog w) A (hashByValue q u) Q E s:=by
 intro n
 induction n with
 | zero =>
  intro q d u as A E s Q C hc c h
  cases c with
  | int i t=>unfold hashByValue;exact C_ (h _)
  | str x t=>unfold hashByValue;exact C_ (h _)
  | tuple f a2 k g=>simp [PyData.depth]at C
  | none=>simp [Cano]at hc
  | bool b=>simp [Cano]at hc
  | list f a2 k g=>simp [Cano]at hc
  | dict f a2 k g O=>simp [Cano]at hc
 | succ n J =>
  intro q d u as A E s Q C hc c h
  cases c with
  | int i t=>unfold hashByValue;exact C_ (h _)
  | str x t=>unfold hashByValue;exact C_ (h _)
  | none=>simp [Cano]at hc
  | bool b=>simp [Cano]at hc
  | list f a2 k g=>simp [Cano]at hc
  | dict f a2 k g O=>simp [Cano]at hc
  | @tuple a o items m B as I e p R =>
   have S:s.TypeIs (.ref a) "tuple" := ⟨o,I,e⟩
   have M:PyData.depthAll B<=n:=by simp only [PyData.depth]at C;omega
   have L:A9 B=true:=hc
   cases q with
   | zero=>unfold hashByValue;exact C_ (h _)
   | succ N =>
    unfold hashByValue
    refine A_ (bK S F.slot_tuple_hash.lookup (show wpAny _ _ (seqItems? (.ref a) >>= _) _ _ s from ?_))
    refine A_ (d_ I p (A_ (show wpAny _ _ (forIn items _ _) _ _ s from ?_)))
    rw [<- fG]
    refine dZ _ (λrest r j=>r.1=none/\j=s/\∃l H,ReadsAll s.heap rest l H/\A9 l=true/\PyData.depthAll l<=n) _ ?_ ?_ _ _ ⟨rfl,rfl,B,as,R,L,M⟩
    ·rintro v rest r j ⟨c,rfl,l,H,T,e,z⟩
     cases T with
     | @cons _ _ d y D G h1 P =>
      simp only [A9,Bool.and_eq_true]at e
      simp only [PyData.depthAll]at z
      refine A_ (J N d v D A _ j _ (by omega) e.1 h1 λb=>?_)
      cases b
      ·exact C_ (C_ (h _))
      ·exact C_ ⟨rfl,rfl,y,G,P,e.2,by omega⟩
    ·rintro⟨V,U⟩ j ⟨c,rfl,_⟩
     simp only at c
     subst c
     exact C_ (h _)
def Ce(h:jN)(d:jG)(b:jH):Prop:=KeyTree d/\∃a,Reads h (.ref b) d a
theorem CN{d:jG}{b:jH}(hx:Ce s.heap d b):∀{j:List i_} {Q:Bool->jA->Prop},(∀v∈j,∃e c,v=.ref c/\Ce s.heap e c)->Q false s->wpAny (model prog w) A (searchCouldBeSeen (.ref b) j) Q E s:=by
 intro j Q hv h
 obtain⟨f,k,o⟩:=hx
 unfold searchCouldBeSeen
 refine A_ (dZ _ (λrest r g=>r.1=none/\g=s/\∀v∈rest,∃e c,v=.ref c/\Ce s.heap e c) _ ?_ ?_ _ _ ⟨rfl,rfl,hv⟩)
 ·rintro v rest ⟨q,p⟩ g ⟨i,rfl,hv'⟩
  obtain⟨e,c,rfl,a,m,l⟩:=hv' v (.head _)
  have n:∀v∈rest,∃e c,v=.ref c/\Ce g.heap e c:=λv h=>hv' v (.tail _ h)
  dsimp only
  split
  ·exact C_ ⟨rfl,rfl,n⟩
  ·refine A_ (J5 6 8 _ _ k _ _ _ _ f.dep (by decide) f.can o ?_)
   simp only [Bool.not_true,Bool.false_eq_true,if_false]
   refine A_ (J5 6 8 _ _ m _ _ _ _ a.dep (by decide) a.can l ?_)
   simp only [Bool.not_true,Bool.false_eq_true,if_false]
   refine A_ (Xy 6 8 _ _ k _ _ _ _ f.dep (by decide) f.can o ?_)
   simp only [Bool.false_eq_true,if_false]
   refine A_ (Xy 6 8 _ _ m _ _ _ _ a.dep (by decide) a.can l ?_)
   simp only [Bool.false_eq_true,if_false]
   exact C_ ⟨rfl,rfl,n⟩
 ·rintro⟨q,p⟩ g ⟨i,rfl,_⟩
  simp only at i
  subst i
  exact C_ h
def Ky(w:jK)(x:jG×jH):Int×i_:=(Bg w x.1,.ref x.2)
def E7(w:jK)(h:jN)(a:jH)(xs:List (jG×jH))(led:Bool):Prop :=
 ∃o b c t,h.get? a=some o/\o.ExactSet/\o.data=.set b c t/\b.toList=xs.map (Ky w)/\(∀x∈xs,Ce h x.1 x.2)/\t.fits b.size=true/\TblOk t led/\TabQ t (xs.map λx=>Bg w x.1)/\xs.length * 5 < t.mask * 3
theorem Qn{t:SetTable}{f g:Nat->Int}{h:Int}{p:SetTable.Probe}(e:∀i,f i=g i):t.probe f h p=t.probe g h p:=by rw [funext e]
theorem CO{t:SetTable}{hs:List Int}(q:TabQ t hs):t.gaveWay=false:=by
 unfold SetTable.gaveWay
 rcases q.msk with h | h | h | h | h | h <;> rw [h] <;> decide
theorem Uv{a:jH}{o:jO}{es:Array (Int×i_)}{ep:Nat}{t:SetTable}{xs:List (jG×jH)}{led:Bool}{d:jG}{b:jH}{Q:SetFound->jA->Prop}{u:Nat}(hu:A.units+6 < cLine)(P:s.heap.get? a=some o)(Y:o.data=.set es ep t)(T:es.toList=xs.map (Ky w))(Z:∀x∈xs,Ce s.heap x.1 x.2)(U:t.fits es.size=true)(r:TblOk t led)(L:TabQ t (xs.map λx=>Bg w x.1))(hx:Ce s.heap d b)
  (he:sq t.mask (Bg w d) u∉t.place.toList) (hb:∀m,m < u->sq t.mask (Bg w d) m∈t.place.toList) (j4:u < 10 * SetTable.turns t.mask)
  (h1:d∈xs.map (·.1)->Q (.there none) s) (h2:d∉xs.map (·.1)->Q (.free (sq t.mask (Bg w d) u) false) s) :
  ∀(k n fuel:Nat) (H:Option SetTable.Probe),n+k=u->k < fuel->(H=some (Lq t.mask (Bg w d) n)\/H=none/\n=0)->(∀(m i:Nat) (x:jG×jH),m < n->t.place[i]?=some (sq t.mask (Bg w d) m)->xs[i]?=some x->x.1≠d) ->
   wpAny (model prog w) A (setSearchFrom a (.ref b) (Bg w d) true fuel H) Q E s:=by
 intro k
 induction k using Nat.strongRecOn with
 | _ k ih =>
 intro n fuel H hn hfu bf O
 obtain⟨fuel,rfl⟩:∃f,fuel=f+1:=⟨fuel - 1,by omega⟩
 have mx:∀{i:Nat} {x:jG×jH},xs[i]?=some x->es[i]?=some (Ky w x):=λ{i x} h=>by
  rw [<- YN,T,H_,h];rfl
 have hxi:∀{i j:Nat},t.place[i]?=some j->∃x,xs[i]?=some x:=λ{i j} h=>by
  have q:=(eV.mp h).1
  have:=L.len
  rw [B_]at this
  exact⟨_,J_ (by omega)⟩
 unfold setSearchFrom
 refine A_ (ZO P Y U ?_)
 dsimp only
 rw [CO L,M_ R_]
 have zai:H.getD (t.probeStart (Bg w d))=Lq t.mask (Bg w d) n:=by
  rcases bf with rfl | ⟨rfl,rfl⟩
  ·rfl
  ·rfl
 rw [zai,Qn (g:=λi=>((xs.map λx=>Bg w x.1)[i]?).getD 0) ?_]
 ·have N:=probe_ok (hashAt:=λi=>((xs.map λx=>Bg w x.1)[i]?).getD 0) r he hb (10 * SetTable.turns t.mask) n (by omega) (by omega)
  rcases N with⟨a1,a2⟩ | ⟨p,i,b1,b2,G,b4,b5,b6⟩
  ·rw [show t.probe (λi=>((xs.map λx=>Bg w x.1)[i]?).getD 0) (Bg w d) (Lq t.mask (Bg w d) n)=_ from a1]
   dsimp only
   refine C_ (h2 λeh=>?_)
   obtain⟨x,F,rfl⟩:=D_.mp eh
   obtain⟨i,q⟩:=List.getElem?_of_mem F
   have R:i < t.place.size:=by
    have:=L.len
    have:=(E_.mp q).1
    rw [B_]at *
    omega
   have D:t.place[i]?=some t.place[i]:=YX R
   obtain⟨I,W,e2⟩:=L.path (t.place[i],Bg w x.1) (U_ (i:=i) (by
    rw [List.getElem?_zip_eq_some]
    exact⟨by rw [YN];exact D,by rw [H_,q];rfl⟩))
   dsimp only at W e2
   have bq:I < u:=by
    rcases iF I u with c | c | c
    ·exact c
    ·subst c
     rw [W]at he
     exact absurd (by rw [<- YN]at D;exact U_ D) he
    ·exact absurd (e2 u c) he
   rw [<- W]at D
   rcases aB I n with c | c
   ·exact O I i x c D q rfl
   ·exact a2 I i c bq D (by rw [H_,q];rfl)
  ·rw [show t.probe (λi=>((xs.map λx=>Bg w x.1)[i]?).getD 0) (Bg w d) (Lq t.mask (Bg w d) n)=_ from b5]
   obtain⟨x,q⟩:=hxi G
   have F:=U_ q
   dsimp only
   rw [mx q]
   dsimp only [Ky]
   split
   ·refine A_ (CN hx (λv hv=>?_) ?_)
    ·obtain⟨e,av,rfl⟩:=D_.mp hv
     have M:=(Array.mem_filter.mp (Array.mem_toList_iff.mp av)).1
     rw [<- Array.mem_toList_iff,T]at M
     obtain⟨y,hy,rfl⟩:=D_.mp M
     exact⟨y.1,y.2,rfl,Z y hy⟩
    rw [M_ R_]
    refine A_ (ZG ((J6 prog w).eqBool hu (Z x F) hx ?_))
    refine A_ (ZO P Y U ?_)
    dsimp only
    by_cases l:x.1=d
    ·rw [YW l,S_ (by rfl)]
     exact C_ (h1 (D_.mpr ⟨x,F,l⟩))
    ·rw [ZB l,M_ (by decide),show t.sameMemory t.moves t.mask=some true by unfold SetTable.sameMemory;rw [S_ (by simp)]]
     dsimp only
     obtain⟨J,i8,S⟩:=M4 r (hb p b2)
     have io:J=i:=(Ci r.rise S).symm.trans (Ci r.rise G)
     subst io
     rw [S_ rfl,i8]
     dsimp only
     rw [mx q]
     dsimp only [Ky]
     refine A_ (wpAny_isSame_ref_self (A_ (C_ ?_)))
     show wpAny _ _ (if false=true then _ else setSearchFrom a (.ref b) (Bg w d) true fuel (some (Lq t.mask (Bg w d) (p+1)))) _ _ _
     rw [M_ R_]
     refine ih (u - (p+1)) (by omega) (p+1) fuel _ (by omega) (by omega) (.inl rfl) λm B y M C z=>?_
     rcases aB m n with c | c
     ·exact O m B y c C z
     ·rcases aB m p with c2 | c2
      ·intro e5
       refine b6 m B c c2 C ?_
       rw [H_,z,<- e5];rfl
      ·have X:m=p:=by omega
       subst X
       have V:B=J:=(Ci r.rise C).symm.trans (Ci r.rise G)
       subst V
       rw [q]at z
       cases z
       exact l
   ·refine A_ (ZG ((J6 prog w).eqBool hu (Z x F) hx ?_))
    refine A_ (ZO P Y U ?_)
    dsimp only
    by_cases l:x.1=d
    ·rw [YW l,S_ (by rfl)]
     exact C_ (h1 (D_.mpr ⟨x,F,l⟩))
    ·rw [ZB l,M_ (by decide),show t.sameMemory t.moves t.mask=some true by unfold SetTable.sameMemory;rw [S_ (by simp)]]
     dsimp only
     obtain⟨J,i8,S⟩:=M4 r (hb p b2)
     have io:J=i:=(Ci r.rise S).symm.trans (Ci r.rise G)
     subst io
     rw [S_ rfl,i8]
     dsimp only
     rw [mx q]
     dsimp only [Ky]
     refine A_ (wpAny_isSame_ref_self (A_ (C_ ?_)))
     show wpAny _ _ (if false=true then _ else setSearchFrom a (.ref b) (Bg w d) true fuel (some (Lq t.mask (Bg w d) (p+1)))) _ _ _
     rw [M_ R_]
     refine ih (u - (p+1)) (by omega) (p+1) fuel _ (by omega) (by omega) (.inl rfl) λm B y M C z=>?_
     rcases aB m n with c | c
     ·exact O m B y c C z
     ·rcases aB m p with c2 | c2
      ·intro e5
       refine b6 m B c c2 C ?_
       rw [H_,z,<- e5];rfl
      ·have X:m=p:=by omega
       subst X
       have V:B=J:=(Ci r.rise C).symm.trans (Ci r.rise G)
       subst V
       rw [q]at z
       cases z
       exact l
 ·intro i
  show(es[i]?.map (·.1)).getD 0=_
  rw [<- YN,T,H_,H_]
  cases xs[i]? <;> rfl
theorem Ce.but{h h':jN}{p:jH}{d:jG}{b:jH}(x:Ce h d b)(hk:∀c o,c≠p->h.get? c=some o->h'.get? c=some o)(hp:∀o e n,h.get? p=some o->o.data≠.seq e n):Ce h' d b:=let⟨k,a,r⟩:=x;⟨k,a,Hn hk hp r k.can⟩
theorem J8{a:jH}{led:Bool}{h:jN}{o:jO}{es:Array (Int×i_)}{ep:Nat}{t:SetTable}(i:h.get? a=some o)(r:o.ExactSet)(g:o.data=.set es ep t){b:Array (Int×i_)}{t':SetTable}{d:List (jG×jH)}(m:b.toList=d.map (Ky w))(k:∀x∈d,Ce h x.1 x.2)(u:t'.fits b.size=true)(y:TblOk t' led)(l:TabQ t' (d.map λx=>Bg w x.1)) :
  (h.update a (Obj.putSet b t')).get? a=some { o with data:=.set b (ep+1) t' }/\(∀x∈d,Ce (h.update a (Obj.putSet b t')) x.1 x.2)/\(d.length * 5 < t'.mask * 3->E7 w (h.update a (Obj.putSet b t')) a d led):=by
 have e:=ZQ (Obj.putSet b t') i (by rw [putSet_of b t' g];rfl)
 rw [putSet_of b t' g]at e
 have f:∀x∈d,Ce (h.update a (Obj.putSet b t')) x.1 x.2:=λx hx=>(k x hx).but (p:=a) (λc o hc e=>((ZF h a (Obj.putSet b t')).2 c hc).trans e) (λo' z n j q=>by rw [i]at j;cases j;rw [g]at q;cases q)
 exact⟨e,f,λv=>⟨_,b,ep+1,t',e,r,rfl,m,f,u,y,l,v⟩⟩
theorem J9{α:Type}:∀(ys a:List α),(List.range' a.length ys.length).filterMap (λi=>(a++ys)[i]?)=ys
 | [],a=>rfl
 | y :: ys,a=>by
  have:=J9 ys (a++[y])
  rw [L_,fV]at this
  rw [ZS,List.range'_succ,dS,aD (I_ _),iX]
  show y :: _=_
  exact bB (y :: ·) this
theorem Qo{α:Type}{xs:List α}{l:List Nat}(hp:l.Perm (List.range xs.length)):(l.filterMap λi=>xs[i]?).Perm xs:=by
 have h1:=hp.filterMap λi=>xs[i]?
 have h2:=J9 xs []
 rw [List.nil_append,List.length_nil,<- List.range_eq_range']at h2
 rwa [h2]at h1
theorem Lu{xs:List (jG×jH)}{hs:Array Int}(a:hs.toList=xs.map λx=>Bg w x.1):∀(l:List Nat),(∀i∈l,i < xs.length)->(l.map λi=>hs.getD i 0)=(l.filterMap λi=>xs[i]?).map λx=>Bg w x.1
 | [],_=>rfl
 | i :: l,b=>by
  have c:=b i (.head _)
  have e:xs[i]?=some xs[i]:=J_ c
  rw [ZH,dS,e,ZH,Lu a l λj hj=>b j (.tail _ hj)]
  rw [aM,<- YN,a,H_,e];rfl
theorem Xz{a:jH}{led:Bool}{o:jO}{es:Array (Int×i_)}{ep:Nat}{t:SetTable}{xs:List (jG×jH)}{c:Nat}{Q:Unit->jA->Prop}(n:s.heap.get? a=some o)(D:o.ExactSet)(q:o.data=.set es ep t)(r:es.toList=xs.map (Ky w))(I:∀x∈xs,Ce s.heap x.1 x.2)(L:t.fits es.size=true)(H:TblOk t led)
  (G:Msk (SetTable.sizeAbove c - 1)) (hz:SetTable.sizeAbove c<=sizeLine) (P:xs.length * 5 < (SetTable.sizeAbove c - 1) * 3)
  (h:∀p B,Heap.SameBut a s.heap p->E7 w p a B led->B.Perm xs->Q () { s with heap:=p }):wpAny (model prog w) A (setRelay a c) Q E s:=by
 have m:es.size=xs.length:=by rw [<- YS,r,B_]
 have v:(es.map (·.1)).toList=xs.map λx=>Bg w x.1:=by rw [Array.toList_map,r,YT];rfl
 obtain⟨d,b,y,z,u,l⟩:=CM (f:=t.finger) (mv:=t.movedTo (SetTable.sizeAbove c - 1)) (led:=t.led) (pl:=t.plain) G (es.map (·.1)) (by rw [Array.size_map,m];omega)
 rw [Array.size_map,m]at u
 have g:TblOk d led:=by have:=TblOk.laid y;rw [H.led]at this;exact this
 have C:∀i∈b.toList,i < xs.length:=λi F=>ZY.mp (u.mem_iff.mp F)
 rw [Lu v b.toList C]at l
 have e:=Qo u
 have j:(b.filterMap λi=>es[i]?).toList=(b.toList.filterMap λi=>xs[i]?).map (Ky w):=by
  rw [Array.toList_filterMap,List.map_filterMap]
  congr 1
  funext i
  rw [<- YN,r,H_]
 have k:(b.filterMap λi=>es[i]?).size=es.size:=by rw [<- YS,j,B_,e.length_eq,m]
 unfold setRelay
 refine A_ (ZO n q L (show wpAny _ _ _ _ _ _ from ?_))
 dsimp only
 rw [M_ (iD.mpr hz),show t.relaid (es.map (·.1)) c=some (d,b) from y]
 refine A_ (show wpAny _ _ (if((b.filterMap λi=>es[i]?).size != es.size)=true then _ else pure (b.filterMap λi=>es[i]?,d)) _ _ _ from ?_)
 rw [M_ (by rw [k];simp)]
 refine C_ (show wpAny _ _ (storeSet a (b.filterMap λi=>es[i]?) d) _ _ _ from ?_)
 generalize (b.filterMap λi=>es[i]?)=es2 at j k
 generalize (b.toList.filterMap λi=>xs[i]?)=xs2 at j e l
 have R:=e.length_eq
 have J:d.fits es2.size=true:=by
  have:=l.len
  rw [B_]at this
  simp only [SetTable.fits,SetTable.fill,g.dum,Bool.and_eq_true,beq_iff_eq,decide_eq_true_eq]
  rw [z,k]
  refine⟨by omega,?_⟩
  show d.place.size+0<=_
  omega
 obtain⟨N,O,M⟩:=J8 (led:=led) n D q j (λx hx=>I x (e.mem_iff.mp hx)) J g l
 exact fY n q (h _ _ (ZF _ _ _) (M (by rw [z];omega)) e) (by rw [k,m];have:sizeLine=16777216:=rfl;omega)
theorem TabQ.pln{t:SetTable}{hs:List Int}(q:TabQ t hs)(b:Bool):TabQ { t with plain:=b } hs:=⟨q.msk,q.len,q.le,q.path⟩
theorem X0{a:jH}{led:Bool}{xs:List (jG×jH)}{d:jG}{b:jH}{Q:Bool->jA->Prop}(hu:A.units+6 < cLine)(hx:Ce s.heap d b)(hS:E7 w s.heap a xs led)(hn:xs.length < 4900)
  (h1:d∈xs.map (·.1)->Q false s) (h2:d∉xs.map (·.1)->∀B H,Heap.SameBut a s.heap B->E7 w B a H led->H.Perm ((d,b) :: xs)->Q true { s with heap:=B }) :
  wpAny (model prog w) A (setAddHashed a (.ref b) (Bg w d)) Q E s:=by
 obtain⟨o,e,ep,t,v,Z,C,N,hX,O,r,l,hB⟩:=hS
 have j8:e.size=xs.length:=by rw [<- YS,N,B_]
 have hpl:t.place.size=xs.length:=by have:=l.len;rwa [B_]at this
 obtain⟨x0,S,mh⟩:=Xx l r (by rw [B_];omega)
 obtain⟨g,f1,f2,Y⟩:=Qm l.msk (Bg w d) (λj=>j∈t.place.toList) S mh
 unfold setAddHashed setAddHashedIn
 refine ZG (A_ (ZO v C O (show wpAny _ _ _ _ _ _ from ?_)))
 dsimp only
 rw [show byScan (.ref b) e=false from rfl,M_ R_]
 unfold setSearch
 refine A_ (Uv hu v C N hX O r l hx f2 Y f1 (λeh=>?_) (λD=>?_) g 0 100000 none (by omega) ?_ (.inr ⟨rfl,rfl⟩) (λm i x hm=>absurd hm (gU _)))
 ·exact C_ (h1 eh)
 ·dsimp only
  refine A_ (ZO v C O ?_)
  dsimp only
  have hp:SetTable.below t.place (sq t.mask (Bg w d) g)<=t.place.size:=(Eu r.rise _).1
  have y:=l.put (h:=Bg w d) (n:=g) r Y
  have J:=r.put (Ju r (Oq r f2))
  have V:(t.put (sq t.mask (Bg w d) g)).2=SetTable.below t.place (sq t.mask (Bg w d) g):=rfl
  have L:(t.put (sq t.mask (Bg w d) g)).1.mask=t.mask:=rfl
  rw [V]
  have k:(t.put (sq t.mask (Bg w d) g)).1.place.size=xs.length+1:=by
   have:=y.len
   rw [this]
   simp only [List.length_append,List.length_cons,List.length_take,List.length_drop,List.length_map]
   omega
  generalize gc:SetTable.below t.place (sq t.mask (Bg w d) g)=p at hp y ⊢
  generalize (t.put (sq t.mask (Bg w d) g)).1=t1 at y J L k ⊢
  have G:(SetTable.insertAt e p (Bg w d,.ref b)).toList=(xs.take p++(d,b) :: xs.drop p).map (Ky w):=by
   rw [Fj _ _ _ (by omega),N,N_,ZH,List.map_take,List.map_drop];rfl
  have I:TabQ t1 ((xs.take p++(d,b) :: xs.drop p).map λx=>Bg w x.1):=by
   rw [N_,ZH,List.map_take,List.map_drop];exact y
  have z:(xs.take p++(d,b) :: xs.drop p).Perm ((d,b) :: xs):=by
   refine List.perm_middle.trans ?_
   rw [eQ]
  have P:=z.length_eq
  rw [ZS]at P
  have F:∀x∈xs.take p++(d,b) :: xs.drop p,Ce s.heap x.1 x.2:=λx hx'=>by
   rcases YV.mp (z.mem_iff.mp hx') with rfl | hx'
   ·exact hx
   ·exact hX x hx'
  have R:(SetTable.insertAt e p (Bg w d,.ref b)).size=xs.length+1:=by rw [<- YS,G,B_,P]
  generalize SetTable.insertAt e p (Bg w d,.ref b)=cg at G R ⊢
  generalize xs.take p++(d,b) :: xs.drop p=xs1 at G I z P F
  clear gc hp y V
  have hsl:sizeLine=16777216:=rfl
  have u:∀f:SetTable,f.mask=t.mask->f.place.size=xs.length+1->TblOk f led->TabQ f (xs1.map λx=>Bg w x.1)->wpAny (model prog w) A (do
    storeSet a cg f
    if(!false && f.tooFull)=true then do
     setRelay a (SetTable.grown (e.size+1))
     pure true
    else pure true) Q E s:=λf g1 g2 M g4=>by
   have wn:f.fits cg.size=true:=by
    simp only [SetTable.fits,SetTable.fill,M.dum,Bool.and_eq_true,beq_iff_eq,decide_eq_true_eq]
    refine⟨by omega,?_⟩
    show f.place.size+0<=_
    rcases l.msk with c | c | c | c | c | c <;> omega
   obtain⟨k1,k2,k3⟩:=J8 (led:=led) v Z C G F wn M g4
   have U:=ZF s.heap a (Obj.putSet cg f)
   refine A_ (fY v C ?_ (by omega))
   have W:f.tooFull=decide ((xs.length+1) * 5>=t.mask * 3):=by
    unfold SetTable.tooFull SetTable.fill
    rw [g1,g2,M.dum];rfl
   by_cases c:(xs.length+1) * 5>=t.mask * 3
   ·rw [S_ (by rw [W,YW c];rfl)]
    have uh:(t.mask=7/\e.size+1=5)\/(t.mask=31/\e.size+1=19)\/(t.mask=127/\e.size+1=77)\/(t.mask=511/\e.size+1=307)\/(t.mask=2047/\e.size+1=1229):=by
     rcases l.msk with q | q | q | q | q | q
     ·exact .inl ⟨q,by omega⟩
     ·exact .inr (.inl ⟨q,by omega⟩)
     ·exact .inr (.inr (.inl ⟨q,by omega⟩))
     ·exact .inr (.inr (.inr (.inl ⟨q,by omega⟩)))
     ·exact .inr (.inr (.inr (.inr ⟨q,by omega⟩)))
     ·omega
    have T:Msk (SetTable.sizeAbove (SetTable.grown (e.size+1)) - 1)/\SetTable.sizeAbove (SetTable.grown (e.size+1))<=sizeLine/\xs1.length * 5 < (SetTable.sizeAbove (SetTable.grown (e.size+1)) - 1) * 3:=by
     rcases uh with⟨_,q⟩ | ⟨_,q⟩ | ⟨_,q⟩ | ⟨_,q⟩ | ⟨_,q⟩
     ·rw [q,show SetTable.sizeAbove (SetTable.grown 5)=32 by decide +kernel]
      exact⟨.inr (.inl rfl),by omega,by omega⟩
     ·rw [q,show SetTable.sizeAbove (SetTable.grown 19)=128 by decide +kernel]
      exact⟨.inr (.inr (.inl rfl)),by omega,by omega⟩
     ·rw [q,show SetTable.sizeAbove (SetTable.grown 77)=512 by decide +kernel]
      exact⟨.inr (.inr (.inr (.inl rfl))),by omega,by omega⟩
     ·rw [q,show SetTable.sizeAbove (SetTable.grown 307)=2048 by decide +kernel]
      exact⟨.inr (.inr (.inr (.inr (.inl rfl)))),by omega,by omega⟩
     ·rw [q,show SetTable.sizeAbove (SetTable.grown 1229)=8192 by decide +kernel]
      exact⟨.inr (.inr (.inr (.inr (.inr rfl)))),by omega,by omega⟩
    refine A_ (Xz (s:={ s with heap:=s.heap.update a (Obj.putSet cg f) }) (o:={ o with data:=.set cg (ep+1) f }) k1 Z rfl G k2 wn M T.1 T.2.1 T.2.2 λB H c1 c2 c3=>C_ ?_)
    exact h2 D B H (U.trans c1) c2 (c3.trans z)
   ·rw [M_ (by rw [W,ZB c];decide)]
    exact C_ (h2 D _ _ U (k3 (by rw [g1];omega)) z)
  split
  ·obtain⟨X,as,rx⟩:=hx
   refine A_ (IP 6 8 _ _ as _ _ _ _ X.dep X.can rx λbv=>?_)
   cases bv
   ·exact u _ L k (J.plain false) (I.pln false)
   ·exact u _ L k J I
  ·exact A_ (C_ (u _ L k J I))
 ·have:SetTable.turns t.mask<=9000:=by unfold SetTable.turns;rcases l.msk with c | c | c | c | c | c <;> omega
  omega
end
end L2
namespace L2
open PySem PySem.Spec PyProof.Rows
section
variable {prog:jJ}{w:jK}{A:jM}{R:jU->jA->Prop}{sa it t:jH}{led:Bool}{X:Cx}{aa:List (jH×jO)}{σ:St}{H:Hp}{s:jA}{k:Nat}{E:i_->jA->Prop}{pos:Pos}
structure StepIt(prog:jJ)(w:jK)(it t:jH)(items:Array i_)(St:Nat->jN->Prop):Prop where
 item:∀{A:jM} {E:i_->jA->Prop} {s:jA} {i:Nat} {x:i_} {Q:Option i_->jA->Prop},St i s.heap->items[i]?=some x->(∀h',St (i+1) h'->Heap.SameBut it s.heap h'->Q (some x) { s with heap:=h' })->wpAny (model prog w) A (pyNext (.ref it)) Q E s
 fin:∀{A:jM} {E:i_->jA->Prop} {s:jA} {i:Nat} {Q:Option i_->jA->Prop},A.handled=none->St i s.heap->items[i]?=none->(∀h',Heap.ExtBut it s.heap h'->Q none { s with heap:=h' })->wpAny (model prog w) A (pyNext (.ref it)) Q E s
 keep:∀{i:Nat} {h h':jN} {p:jH},it≠p->t≠p->St i h->Heap.SameBut p h h'->St i h'
 noseq:∀{i:Nat} {h:jN} {o:jO} {vs:Array i_} {n:Nat},St i h->h.get? it=some o->o.data≠.seq vs n
theorem Lv{items:Array i_}(j:t≠it):StepIt prog w it t items λi h=>h.IsListIter it t i/\h.IsList t items where
 item:=λst hx q=>fM st.1 st.2 hx λl g a=>q l ⟨g,let⟨o,e,r⟩:=st.2;⟨o,(a.2 t j).trans e,r⟩⟩ a
 fin:=λf st hx q=>gE f st.1 st.2 hx q
 keep:=λh1 h2 st a=>⟨st.1.at λo e=>(a.2 it h1).trans e,let⟨o,e,r⟩:=st.2;⟨o,(a.2 t h2).trans e,r⟩⟩
 noseq:=λst e q=>by
  obtain⟨⟨o,b,c,d⟩,_⟩:=st
  rw [e]at b;cases b
  rw [d]at q;cases q
theorem Ka{items:Array i_}(j:t≠it):StepIt prog w it t items λi h=>h.IsTupleIter it t i/\h.IsTuple t items where
 item:=λst hx q=>wpAny_pyNext_tuple_item st.1 st.2 hx λl g a=>q l ⟨g,st.2.at λo e=>(a.2 t j).trans e⟩ a
 fin:=λf st hx q=>wpAny_pyNext_tuple_end f st.1 st.2 hx q
 keep:=λh1 h2 st a=>⟨st.1.at λo e=>(a.2 it h1).trans e,st.2.at λo e=>(a.2 t h2).trans e⟩
 noseq:=λst e q=>by
  obtain⟨⟨o,b,c,d⟩,_⟩:=st
  rw [e]at b;cases b
  rw [d]at q;cases q
theorem E7.at{h h':jN}{xs:List (jG×jH)}(x:E7 w h sa xs led)(hs:∀o,h.get? sa=some o->h'.get? sa=some o)(a:∀x∈xs,Ce h x.1 x.2->Ce h' x.1 x.2):E7 w h' sa xs led:=by
 obtain⟨o,d,f,i,e,g,a2,b,c,r⟩:=x
 exact⟨o,d,f,i,hs o e,g,a2,b,λx hx=>a x hx (c x hx),r⟩
theorem E7.noseq{h:jN}{xs:List (jG×jH)}(x:E7 w h sa xs led){o:jO}{b:Array i_}{n:Nat}(e:h.get? sa=some o):o.data≠.seq b n:=λq=>by
 obtain⟨o',c,d,f,a,_,a2,_⟩:=x
 rw [e]at a;cases a
 rw [a2]at q;cases q
theorem Lw{St:Nat->jN->Prop}{items:Array i_}(S:StepIt prog w it t items St)(hh:A.handled=none)(hu:A.units+20 < cLine)(M:sa≠it)(bf:sa≠t){ks:List (jG×jH)}(c9:items.toList=ks.map λx=>.ref x.2)(ji:∀ys:List jG,ys.Nodup->(∀d∈ys,d∈ks.map (·.1))->ys.length < 4900) :
  ∀(m i:Nat) (s:jA) (xs:List (jG×jH)),m+i=items.size->St i s.heap->E7 w s.heap sa xs led->(∀x∈ks,Ce s.heap x.1 x.2)->(xs.map (·.1)).Nodup->(∀d,d∈xs.map (·.1)↔d∈(ks.take i).map (·.1))->(∀x∈xs,x∈ks)->xs.length<=i ->
   (∀a z f,(∀b o,b≠sa->b≠it->s.heap.get? b=some o->a.get? b=some o)->E7 w a sa f led->(f.map (·.1)).Nodup->(∀d,d∈f.map (·.1)↔d∈ks.map (·.1))->(∀x∈f,x∈ks)->f.length<=items.size->R (.ok (.ret .none)) { s with heap:=a,toks:=z }) ->
   codeAny (model prog w) A (.builtin "set.update.loop" ⟨[.ref sa,.ref it],[]⟩) R s:=by
 have cp:ks.length=items.size:=by rw [<- YS,c9,B_]
 intro m
 induction m with
 | zero =>
  intro i s xs hm u Y L v J D hl q
  refine bL G1 ?_
  rw [aS Di _]
  refine(show wpAny _ A.in1 (pyNext (.ref it) >>= _) _ _ s from A_ (S.fin (show A.in1.handled=none from hh) u (by rw [aG (by omega)]) λa hx=>?_))
  refine C_ (q a s.toks xs (λb o h1 h2 e=>hx b o h2 e) ?_ v (λd=>?_) D (by omega))
  ·exact Y.at (λo e=>hx sa o M e) λx _ l=>l.but (p:=it) (λc o hc e=>hx c o hc e) λo vs n e=>S.noseq u e
  ·rw [J d,dB (by omega)]
 | succ m ih =>
  intro i s xs hm u Y L v J D hl q
  have hi:i < items.size:=by omega
  have g:i < ks.length:=by omega
  have hx:items[i]?=some (.ref ks[i].2):=by
   rw [<- YN,c9,H_,J_ g];rfl
  have U:∀d,d∈(ks.take (i+1)).map (·.1)↔d=ks[i].1\/d∈(ks.take i).map (·.1):=λd=>by
   rw [Y_,J_ g,N_,G_]
   simp only [Option.toList_some,List.map_cons,List.map_nil,List.mem_singleton]
   exact Or.comm
  have j:=b_ g
  generalize ks[i]=kx at hx U j
  obtain⟨d0,W⟩:=kx
  refine bL G1 ?_
  rw [aS Di _]
  refine(show wpAny _ A.in1 (pyNext (.ref it) >>= _) _ _ s from A_ (S.item u hx λh1 vn G=>?_))
  have I:∀{d:jG} {b:jH},Ce s.heap d b->Ce h1 d b:=λl=>l.but (p:=it) (λc o hc e=>(G.2 c hc).trans e) λo vs n e=>S.noseq u e
  have Q:E7 w h1 sa xs led:=Y.at (λo e=>(G.2 sa M).trans e) λx _ l=>I l
  have jw:xs.length < 4900:=by
   have:=ji (xs.map (·.1)) v λd V=>by
    obtain⟨y,hy,rfl⟩:=D_.mp V
    exact D_.mpr ⟨y,D y hy,rfl⟩
   rwa [B_]at this
  have B:Ce h1 d0 W:=I (L _ j)
  refine(show wpAny _ A.in1 (holding [.ref W] (setAdd sa (.ref W)) >>= _) _ _ _ from A_ (ZG ?_))
  unfold setAdd
  have r:A.in1.units+6 < cLine:=by show A.units+1+6 < cLine;omega
  refine ZG (A_ ((J6 prog w).pyHash (s:={ s with heap:=h1 }) r B ?_))
  refine X0 (s:={ s with heap:=h1,toks:=s.toks+Hm d0 }) r B Q jw (λc7=>?_) (λbm h2 f O P hp=>?_)
  ·refine C_ ⟨bP Di _,ih (i+1) _ xs (by omega) vn Q (λx hx'=>I (L x hx')) v (λd=>?_) D (ZP hl) λa z T d6 N a2 a3 a4 Z=>?_⟩
   ·rw [U d,<- J d]
    exact⟨.inr,λh=>h.elim (λe=>by rw [e];exact c7) id⟩
   ·exact q a z T (λb o F C e=>d6 b o F C ((G.2 b C).trans e)) N a2 a3 a4 Z
  ·have ag:f.length=xs.length+1:=hp.length_eq
   have tr2:∀{d:jG} {b:jH},Ce h1 d b->Ce h2 d b:=λl=>l.but (p:=sa) (λc o hc e=>(O.2 c hc).trans e) λo vs n e=>Q.noseq e
   have n8:=hp.map (·.1)
   refine C_ ⟨bP Di _,ih (i+1) _ f (by omega) (S.keep M.symm bf.symm vn O) P (λx hx'=>tr2 (I (L x hx'))) (n8.nodup_iff.mpr (aO.mpr ⟨bm,v⟩)) (λd=>?_) (λx hx'=>?_) (by omega) λa z T d6 N a2 a3 a4 Z=>?_⟩
   ·rw [n8.mem_iff,U d,<- J d]
    exact YV
   ·rcases YV.mp (hp.mem_iff.mp hx') with rfl | hx'
    ·exact j
    ·exact D x hx'
   ·exact q a z T (λb o F C e=>d6 b o F C ((O.2 b F).trans ((G.2 b C).trans e))) N a2 a3 a4 Z
theorem Ii:isSubtype (.type "list") (.type "set")=pure false:=by rw [bR];kernel_rfl
theorem Ij:isSubtype (.type "list") (.type "frozenset")=pure false:=by rw [bR];kernel_rfl
theorem Os{h:jN}:E7 w (h.push (Bw w)) h.objs.size [] (Ev w) :=
 ⟨_,#[],0,_,K_ _ rfl,⟨rfl,rfl,rfl⟩,rfl,rfl,(λ_ z=>nomatch z),rfl,TblOk.fresh _,⟨.inl rfl,rfl,(λ_ z=>nomatch z),(λ_ z=>nomatch z)⟩,(show 0 * 5 < 7 * 3 by decide)⟩
theorem X1{E:i_->jA->Prop}{s:jA}{id:String}{items:Array i_}{ks:List (jG×jH)}{Q:Unit->jA->Prop}(m:A.handled=none)(hu:A.units+20 < cLine)(f:s.heap.IsList t items)(M:items.toList=ks.map λx=>.ref x.2)(B:∀x∈ks,Ce s.heap x.1 x.2)(F:∀i:List jG,i.Nodup->(∀d∈i,d∈ks.map (·.1))->i.length < 4900)
  (l:E7 w s.heap sa [] led) (I:sa≠t)
  (h:∀c g a,(∀b o,b≠sa->s.heap.get? b=some o->c.get? b=some o)->E7 w c sa a led->(a.map (·.1)).Nodup->(∀d,d∈a.map (·.1)↔d∈ks.map (·.1))->(∀x∈a,x∈ks)->a.length<=items.size->Q () { s with heap:=c,toks:=g }) :
  wpAny (model prog w) A (Builtin.Frozenset.updateFrom id sa (.ref t)) Q E s:=by
 have T:s.TypeIs (.ref t) "list" := f.typeIs
 have N:=Ii
 have O:=Ij
 have P:(Value.type "list" == Value.type "dict")=false:=by decide
 unfold Builtin.Frozenset.updateFrom
 generalize v:pyIter=PI
 wp_walk
 subst v
 refine cN f (show wpAny _ _ _ _ _ _ from A_ (f_ ?_))
 have J:t < s.heap.objs.size:=by obtain⟨o,e,_⟩:=f;exact O_ e
 have L:sa < s.heap.objs.size:=by obtain⟨o,_,_,_,e,_⟩:=l;exact O_ e
 have j:∀{d:jG} {b:jH},Ce s.heap d b->Ce (s.heap.push { cls:=.type "list_iterator",data:=.fields #[.ref t,.int 0 0] }) d b:=λ⟨k,D,r⟩=>⟨k,D,dP (λb o e=>DD _ e) r⟩
 refine Lw (led:=led) (Lv (items:=items) (W_ J)) m hu (W_ L) I M F items.size 0 _ [] (by omega) ⟨⟨_,K_ _ rfl,rfl,rfl⟩,let⟨o,e,r⟩:=f;⟨o,DD _ e,r⟩⟩ (l.at (λo e=>DD _ e) λ_ _ p=>j p) (λx hx=>j (B x hx)) aA (λd=>by simp) (λ_ z=>nomatch z) (YZ _) λc g a q a2 C y u G=>?_
 exact C_ (h c g a (λb o n e=>q b o n (W_ (O_ e)) (DD _ e)) a2 C y u G)
theorem Uw{E:i_->jA->Prop}{s:jA}{id:String}{items:Array i_}{ks:List (jG×jH)}{Q:Unit->jA->Prop}(m:A.handled=none)(hu:A.units+20 < cLine)(f:s.heap.IsTuple t items)(N:items.toList=ks.map λx=>.ref x.2)(C:∀x∈ks,Ce s.heap x.1 x.2)(G:∀i:List jG,i.Nodup->(∀d∈i,d∈ks.map (·.1))->i.length < 4900)
  (l:E7 w s.heap sa [] led) (J:sa≠t)
  (h:∀c g a,(∀b o,b≠sa->s.heap.get? b=some o->c.get? b=some o)->E7 w c sa a led->(a.map (·.1)).Nodup->(∀d,d∈a.map (·.1)↔d∈ks.map (·.1))->(∀x∈a,x∈ks)->a.length<=items.size->Q () { s with heap:=c,toks:=g }) :
  wpAny (model prog w) A (Builtin.Frozenset.updateFrom id sa (.ref t)) Q E s:=by
 have T:s.TypeIs (.ref t) "tuple" := f.typeIs
 have O:=Ic
 have P:=Ie
 have S:(Value.type "tuple" == Value.type "dict")=false:=by decide
 unfold Builtin.Frozenset.updateFrom
 generalize y:pyIter=PI
 wp_walk
 subst y
 refine hV f (show wpAny _ _ _ _ _ _ from A_ (f_ ?_))
 have L:t < s.heap.objs.size:=by obtain⟨o,e,_⟩:=f;exact O_ e
 have M:sa < s.heap.objs.size:=by obtain⟨o,_,_,_,e,_⟩:=l;exact O_ e
 have j:∀{u:jO} {d:jG} {b:jH},Ce s.heap d b->Ce (s.heap.push u) d b:=λ⟨k,F,r⟩=>⟨k,F,dP (λb o e=>DD _ e) r⟩
 refine Lw (led:=led) (Ka (items:=items) (W_ L)) m hu (W_ M) J N G items.size 0 _ [] (by omega) ⟨⟨_,K_ _ rfl,rfl,rfl⟩,f.push _⟩ (l.at (λo e=>DD _ e) λ_ _ p=>j p) (λx hx=>j (C x hx)) aA (λd=>by simp) (λ_ z=>nomatch z) (YZ _) λc g a q a2 D B v I=>?_
 exact C_ (h c g a (λb o n e=>q b o n (W_ (O_ e)) (DD _ e)) a2 D B v I)
theorem Ce.keeps{h h':jN}{d:jG}{b:jH}(x:Ce h d b)(hk:∀b o,h.get? b=some o->h'.get? b=some o):Ce h' d b:=let⟨k,a,r⟩:=x;⟨k,a,dP hk r⟩
theorem C5{α β:Type}{f:α->β}{l m:List β}(h:l.Perm m):∀c:List α,m=c.map f->∃g:List α,l=g.map f/\g.Perm c:=by
 induction h with
 | nil =>
  intro c e
  have:c=[]:=by simpa using e.symm
  subst this
  exact⟨[],rfl,.nil⟩
 | cons a h o =>
  intro c e
  cases c with
  | nil=>cases e
  | cons x c =>
   injection e with i d
   obtain⟨g,rfl,p⟩:=o c d
   exact⟨x :: g,by rw [i];rfl,p.cons x⟩
 | swap a b l =>
  intro c e
  match c,e with
  | x :: y :: c,e =>
   injection e with i d
   injection d with d e3
   exact⟨y :: x :: c,by rw [i,d,e3];rfl,.swap x y c⟩
 | trans h1 h2 n j =>
  intro c e
  obtain⟨g,i,r⟩:=j c e
  obtain⟨u,d,q⟩:=n g i
  exact⟨u,d,q.trans r⟩
theorem Ik{h:jN}:∀{a:List (jG×jH)},(∀x∈a,Ce h x.1 x.2)->∃b,ReadsAll h (a.map λx=>.ref x.2) (a.map (·.1)) b
 | [],_=>⟨_,.nil⟩
 | z :: a,hx=>by
  obtain⟨b,r⟩:=Ik λx hx'=>hx x (.tail _ hx')
  obtain⟨_,d,c⟩:=hx z (.head _)
  exact⟨_,.cons c r⟩
structure TOk(ds:List jG):Prop where
 len:ds.length < 300
 key:∀d∈ds,KeyTree d
 fst:∀d∈ds,∃i r,d=.tuple (.int i :: r)
 cmp:∀d∈ds,∀e∈ds,cmpb d e=true
def Few(ds:List jG):Prop:=∀a:List jG,a.Nodup->(∀d∈a,d∈ds)->a.length < 4900
theorem IQ{ds:List jG}(h:ds.length < 4900):Few ds:=λc a b=>by have:=Fm a b;exact dF this h
theorem R8:∀{ds:List jG},(∀d∈ds,KeyTree d)->PyData.canLayAll0 ds=true/\PyData.depthAll ds<=6/\A9 ds=true
 | [],_=>⟨rfl,YZ _,rfl⟩
 | d :: ds,h=>by
  obtain⟨a,b,c⟩:=R8 λe he=>h e (.tail _ he)
  have k:=h d (.head _)
  refine⟨?_,?_,?_⟩
  ·simp only [PyData.canLayAll0,k.lay,a];rfl
  ·simp only [PyData.depthAll];have:=k.dep;omega
  ·simp only [A9,k.can,c];rfl
theorem X2(I:Inv X aa σ H s):∀(ds:List jG) (g:List V) (f:List i_),Am X.K H ds g->Vals g f->(∀d∈ds,KeyTree d)->(∀d∈ds,∃r,d=.tuple r)->∃b:List (jG×jH),b.map (·.1)=ds/\f=b.map (λx=>.ref x.2)/\∀x∈b,Ce s.heap x.1 x.2/\Dk X.K H x.1 (.ref x.2)
 | [],g,f,h,r,_,_=>by
  have e:=h.nil
  subst e
  cases r
  exact⟨[],rfl,rfl,λ_ z=>nomatch z⟩
 | d :: ds,g,f,h,r,hk,i=>by
  obtain⟨x,q,rfl,h1,h2⟩:=Am.cons (K:=X.K) (H:=H) h
  cases r with
  | @cons _ _ u p v m =>
   obtain⟨b,j,n,o⟩:=X2 I ds q p h2 m (λd c=>hk d (.tail _ c)) (λd c=>i d (.tail _ c))
   obtain⟨l,rfl⟩:=i d (.head _)
   obtain⟨a,B,rfl,ha,c⟩:=Dk.tup (K:=X.K) (H:=H) h1
   cases v
   refine⟨(.tuple l,a) :: b,by rw [ZH,j],by rw [ZH,<- n],λy hy=>?_⟩
   rcases YV.mp hy with rfl | hy
   ·exact⟨⟨hk _ (.head _),Dk.reads I _ _ _ h1 rfl⟩,h1⟩
   ·exact o y hy
theorem X3{K:jI}:∀{a:List (jG×jH)},(∀x∈a,Dk K H x.1 (.ref x.2))->Am K H (a.map (·.1)) (a.map λx=>.ref x.2)
 | [],_=>Dm
 | z :: a,h=>Ds (h z (.head _)) (X3 λx hx=>h x (.tail _ hx))
theorem R9:∀(a:List (jG×jH)),Vals (a.map λx=>V.ref x.2) (a.map λx=>Value.ref x.2)
 | []=>.nil
 | z :: a=>.cons rfl (R9 a)
theorem Lx{it t:jH}{items:Array i_}(d:t≠it):∀(n i:Nat) (s:jA) (Q:List i_->jA->Prop),s.heap.IsListIter it t i->s.heap.IsList t items->i+n<=items.size ->
  (∀c,c.IsListIter it t (i+n)->Heap.SameBut it s.heap c->Q ((items.toList.drop i).take n) { s with heap:=c })->wpAny (model prog w) A (draw (.ref it) n) Q E s
 | 0,i,s,Q,a,_,_,b=>by
  unfold draw
  exact C_ (by have:=b s.heap a (iH _ _);simpa using this)
 | n+1,i,s,Q,a,g,j,b=>by
  have f:i < items.size:=by omega
  have hx:items[i]?=some items[i]:=YX f
  unfold draw
  refine A_ (fM a g hx λh₁ a₁ hs₁=>?_)
  refine A_ (ZG (Lx d n (i+1) _ _ a₁ (let⟨o,e,r⟩:=g;⟨o,(hs₁.2 t d).trans e,r⟩) (by omega) λh₂ a₂ hs₂=>C_ ?_))
  have l:items.toList.drop i=items[i] :: items.toList.drop (i+1):=by simp [List.drop_eq_getElem_cons,f]
  have:=b h₂ (by rw [show i+(n+1)=i+1+n by omega];exact a₂) (hs₁.trans hs₂)
  rw [l,List.take_succ_cons]at this
  exact this
theorem Hr{s:jA}{t:jH}{items:Array i_}{Q:List i_->jA->Prop}(g:A.handled=none)(a:s.heap.IsList t items)
  (i:∀d,Heap.ExtBut s.heap.objs.size s.heap d->Q items.toList { s with heap:=d }):wpAny (model prog w) A (unpackItems (.ref t) items.size none) Q E s:=by
 have c:t≠s.heap.objs.size:=by obtain⟨o,j,_⟩:=a;exact W_ (O_ j)
 have f:∀u:jO,(s.heap.push u).IsList t items:=λu=>let⟨o,e,r⟩:=a;⟨o,DD _ e,r⟩
 unfold unpackItems
 refine A_ ?_
 ·unfold notIterableAtAll
  refine A_ (bK a.typeIs slot_list_iter.lookup ?_)
  refine C_ ?_
  simp only [Bool.false_eq_true,if_false]
  refine A_ (ZG (cN a ?_))
  refine A_ (ZG (Lx c items.size 0 _ _ ⟨_,K_ _ rfl,rfl,rfl⟩ (f _) (by omega) λh₁ ay₁ hs₁=>?_))
  have l:List.take items.size (List.drop 0 items.toList)=items.toList:=by
   rw [fS];exact dB (by simp)
  rw [l]
  rw [M_ (by simp)]
  have a₁:h₁.IsList t items:=let⟨o,e,r⟩:=f _;⟨o,(hs₁.2 t c).trans e,r⟩
  refine A_ (ZG (gE g ay₁ a₁ (by simp) λh₂ he₂=>?_))
  simp only [Option.isSome_none,Bool.false_eq_true,if_false]
  refine C_ (i h₂ λb o hb e=>he₂ b o hb (hs₁.extBut b o hb (DD _ e)))
theorem G5{s:jA}{env:Env}{a:List jL}{x1}{pos:Pos}{t:jH}{items:Array i_}{Q:Unit->jA->Prop}(c:A.handled=none)(e:s.heap.IsList t items)
  (d:(assignEach a env).length=items.size) (f:(assignEach a env).findIdx? (·.1)=none)
  (h:∀b,Heap.ExtBut s.heap.objs.size s.heap b->wpAny (model prog w) A (assignInOrder ((assignEach a env).map (·.2)) items.toList) Q E { s with heap:=b }) :
  wpAny (model prog w) A (assign (.Tuple a x1 pos) env (.ref t)) Q E s:=by
 rw [arm_assign_Tuple]
 refine A_ (iJ ?_)
 unfold unpack
 rw [d,f]
 exact A_ (ZG (Hr c e h))
def OK(K:jI)(n:Nat)(t:TGs):TG:=λv σ H Q=>∃a b,v=.ref a/\Fa K H a b/\b.length=n/\t b σ H Q
theorem CP{es:List jL}{k:Nat}{t:TGs}{n:Nat}(hc:X.calm=true)(h:PGs X es t)
  (l:(assignEach es X.env).length=n:=by rfl) (p:(assignEach es X.env).findIdx? (·.1)=none:=by rfl):PG X (.Tuple es k pos) (OK X.K n t):=by
 intro aa s σ H v u Q I r c
 obtain⟨a,f,i,hq,g,c⟩:=c
 subst i
 cases r
 obtain⟨x,d,q,hz⟩:=I.list hq
 refine G5 (I.ok.hd hc) q.isList (by simp [l,<- g,d.length]) p λm hx=>?_
 have j:Inv X aa σ H { s with heap:=m }:=I.kept (t':=s.toks) λb o e=>hx b o (W_ (O_ e)) e
 exact h aa _ σ H f _ Q j (by simpa using d) c
def ES(n:Nat)(t:AGs):AG:=λv τ μ R=>match v with
 | .R a=>opt (μ a) λm=>match m with
  | .lst b=>b.length=n/\t b τ μ R
  | _=>False
 | _=>False
theorem CQ{es:List jL}{k:Nat}{t:AGs}{n:Nat}(i:X.calm=true)(h:VGs X es t)
  (e:(assignEach es X.env).length=n:=by rfl) (g:(assignEach es X.env).findIdx? (·.1)=none:=by rfl):VG X (.Tuple es k pos) (ES n t):=(CP i h e g).imp λv σ H Q zz112=>Ey zz112 λx τ μ R rx b hc h hq=>by
 unfold ES at h
 split at h
 ·obtain⟨m,c,h⟩:=A6 h
  split at h
  ·cases rx
   obtain⟨o,d,f,rfl,a⟩:=hc _ _ c
   exact⟨_,f,rfl,Fa.of d,by rw [<- a.length];exact h.1,_,τ,μ,R,a,b,hc,h.2,hq⟩
  ·exact h.elim
 ·exact h.elim
end
section
variable {prog:jJ}{w:jK}{Kt:Type} [DecidableEq Kt]{knd:KeyKind prog w Kt}{A:jM}{R:jU->jA->Prop}{sa it t:jH}{led:Bool}
theorem Ly{St:Nat->jN->Prop}{items:Array i_}(S:StepIt prog w it t items St)(hh:A.handled=none)(B:sa≠it)(bf:sa≠t){ks:List Kt}(Z:ItemsAre knd ks items.toList)(va:∀v∈items.toList,v.scannable=true)(hsz:items.size < 1000) :
  ∀(m i:Nat) (s:jA) (l:List (Int×i_)) (f:List Kt),m+i=items.size->St i s.heap->Dy knd s.heap sa l led->Unlike knd l->Keys knd l f->l.length<=i->(∀k,k∈f↔k∈ks.take i) ->
   (∀c g d,(∀b o,b≠sa->b≠it->s.heap.get? b=some o->c.get? b=some o)->Dy knd c sa d led->Unlike knd d->Keys knd d ks->d.length<=items.size->R (.ok (.ret .none)) { s with heap:=c,toks:=g }) ->
   codeAny (model prog w) A (.builtin "set.update.loop" ⟨[.ref sa,.ref it],[]⟩) R s:=by
 intro m
 induction m with
 | zero =>
  intro i s l f hm O Q u n X y q
  refine bL G1 ?_
  rw [aS Di _]
  refine(show wpAny _ A.in1 (pyNext (.ref it) >>= _) _ _ s from A_ (S.fin (show A.in1.handled=none from hh) O (by rw [aG (by omega)]) λc hx=>?_))
  refine C_ (q c s.toks l (λb o h1 h2 e=>hx b o h2 e) ?_ u ?_ (by omega))
  ·obtain⟨o,N,L,E,e,r⟩:=Q
   exact⟨o,N,L,E,hx sa o B e,r⟩
  ·intro k
   rw [n k,y k,dB]
   have:=Z.length
   simp at this;omega
 | succ m T =>
  intro i s l f hm O Q u n X y q
  have hi:i < items.size:=by omega
  have hx:items[i]?=some items[i]:=YX hi
  obtain⟨k,ek,hk⟩:=Oi (i:=i) (x:=items[i]) Z (by rw [YN];exact hx)
  have F:=va items[i] (by simp)
  have W:∀a,a∈ks.take (i+1)↔a∈ks.take i\/a=k:=λa=>by
   rw [Y_,ek,G_];simp
  refine bL G1 ?_
  rw [aS Di _]
  refine(show wpAny _ A.in1 (pyNext (.ref it) >>= _) _ _ s from A_ (S.item O hx λh1 Y G=>?_))
  have V:Dy knd h1 sa l led:=by
   obtain⟨o,N,L,E,e,r⟩:=Q
   exact⟨o,N,L,E,(G.2 sa B).trans e,r⟩
  refine(show wpAny _ A.in1 (holding [items[i]] (setAdd sa items[i]) >>= _) _ _ _ from A_ (ZG ?_))
  unfold setAdd
  refine ZG (A_ (knd.pyHash hk ?_))
  refine BZ hk F (s:={ s with heap:=h1,toks:=s.toks+1 }) V (by have:scanBound=4096:=rfl;omega) (λc7=>?_) (λbm h2 d U J hp=>?_)
  ·refine C_ ⟨bP Di _,T (i+1) _ l f (by omega) Y V u n (ZP X) (λa=>?_) λc g d H D a2 M I=>?_⟩
   ·rw [W a,<- y a]
    refine⟨.inl,λh=>h.elim id λe=>?_⟩
    rw [e];exact(n k).mp c7
   ·exact q c g d (λb o p j e=>H b o p j ((G.2 b j).trans e)) D a2 M I
  ·have ag:d.length=l.length+1:=by rw [hp.length_eq,L_];rfl
   refine C_ ⟨bP Di _,T (i+1) _ d (f++[k]) (by omega) (S.keep B.symm bf.symm Y U) J ((u.add hk bm).perm hp) (λa=>?_) (by omega) (λa=>?_) λc g P H D a2 M I=>?_⟩
   ·rw [G_,<- n a]
    constructor
    ·rintro⟨e,he,z⟩
     rcases G_.mp (hp.mem_iff.mp he) with he | he
     ·exact .inl ⟨e,he,z⟩
     ·have C:e=(knd.hash k,items[i]):=by simpa using he
      subst C
      exact .inr (P_.mpr (knd.inj _ a k z hk))
    ·rintro(⟨e,he,z⟩ | he)
     ·exact⟨e,hp.mem_iff.mpr (YM _ he),z⟩
     ·have C:a=k:=by simpa using he
      subst C
      exact⟨(knd.hash a,items[i]),hp.mem_iff.mpr (YO _ (P_.mpr rfl)),hk⟩
   ·rw [W a,<- y a,G_,P_]
   ·exact q c g P (λb o p j e=>H b o p j ((U.2 b p).trans ((G.2 b j).trans e))) D a2 M I
variable {E:i_->jA->Prop}{s:jA}
theorem Qp{id:String}{items:Array i_}{ks:List Kt}{Q:Unit->jA->Prop}(i:A.handled=none)(d:s.heap.IsTuple t items)(F:ItemsAre knd ks items.toList)(j:∀v∈items.toList,v.scannable=true)(hsz:items.size < 1000)
  (g:Dy knd s.heap sa [] led) (B:sa≠t)
  (h:∀c f a,(∀b o,b≠sa->s.heap.get? b=some o->c.get? b=some o)->Dy knd c sa a led->Unlike knd a->Keys knd a ks->a.length<=items.size->Q () { s with heap:=c,toks:=f }) :
  wpAny (model prog w) A (Builtin.Frozenset.updateFrom id sa (.ref t)) Q E s:=by
 have T:s.TypeIs (.ref t) "tuple" := d.typeIs
 have G:=Ic
 have H:=Ie
 have I:(Value.type "tuple" == Value.type "dict")=false:=by decide
 unfold Builtin.Frozenset.updateFrom
 generalize p:pyIter=PI
 wp_walk
 subst p
 refine hV d (show wpAny _ _ _ _ _ _ from A_ (f_ ?_))
 have C:t < s.heap.objs.size:=by obtain⟨o,e,_⟩:=d;exact O_ e
 have D:sa < s.heap.objs.size:=by obtain⟨o,_,_,_,e,_⟩:=g;exact O_ e
 refine Ly (led:=led) (Ka (items:=items) (W_ C)) i (W_ D) B F j hsz items.size 0 _ [] [] (by omega) ⟨⟨_,K_ _ rfl,rfl,rfl⟩,d.push _⟩ ?_ List.Pairwise.nil Ln (YZ _) (λk=>by simp) λc f a l a2 y u m=>?_
 ·obtain⟨o,z,x,q,e,r⟩:=g
  exact⟨o,z,x,q,DD _ e,r⟩
 ·exact C_ (h c f a (λb o n e=>l b o n (W_ (O_ e)) (DD _ e)) a2 y u m)
theorem Ux{id:String}{items:Array i_}{ks:List Kt}{Q:Unit->jA->Prop}(i:A.handled=none)(d:s.heap.IsList t items)(F:ItemsAre knd ks items.toList)(j:∀v∈items.toList,v.scannable=true)(hsz:items.size < 1000)
  (g:Dy knd s.heap sa [] led) (B:sa≠t)
  (h:∀c f a,(∀b o,b≠sa->s.heap.get? b=some o->c.get? b=some o)->Dy knd c sa a led->Unlike knd a->Keys knd a ks->a.length<=items.size->Q () { s with heap:=c,toks:=f }) :
  wpAny (model prog w) A (Builtin.Frozenset.updateFrom id sa (.ref t)) Q E s:=by
 have T:s.TypeIs (.ref t) "list" := d.typeIs
 have G:=Ii
 have H:=Ij
 have I:(Value.type "list" == Value.type "dict")=false:=by decide
 unfold Builtin.Frozenset.updateFrom
 generalize p:pyIter=PI
 wp_walk
 subst p
 refine cN d (show wpAny _ _ _ _ _ _ from A_ (f_ ?_))
 have C:t < s.heap.objs.size:=by obtain⟨o,e,_⟩:=d;exact O_ e
 have D:sa < s.heap.objs.size:=by obtain⟨o,_,_,_,e,_⟩:=g;exact O_ e
 refine Ly (led:=led) (Lv (items:=items) (W_ C)) i (W_ D) B F j hsz items.size 0 _ [] [] (by omega) ⟨⟨_,K_ _ rfl,rfl,rfl⟩,let⟨o,e,r⟩:=d;⟨o,DD _ e,r⟩⟩ ?_ List.Pairwise.nil Ln (YZ _) (λk=>by simp) λc f a l a2 y u m=>?_
 ·obtain⟨o,z,x,q,e,r⟩:=g
  exact⟨o,z,x,q,DD _ e,r⟩
 ·exact C_ (h c f a (λb o n e=>l b o n (W_ (O_ e)) (DD _ e)) a2 y u m)
end
theorem Il{K:jI}{H:Hp}:∀{ns:List Int} {a:List V},A3 K H (ns.map λn=>AV.D (.int n)) a->a=ns.map V.int
 | [],_,h=>by cases h;rfl
 | n :: ns,_,h=>by
  cases h with
  | cons c b =>
   cases RelA.int c
   rw [Il b];rfl
end L2
namespace L2
open PySem PySem.Spec PySem.Calls PyProof.Rows
def UW:AV->AC:=λx c μ R=>match x,c with
 | .R a,[y]=>opt (see μ y) λd=>opt (μ a) λm=>match m with
  | .lst f=>opt (dats f) λb=>Cd d/\Cd (.tuple b)/\opt (b.findIdx? λe=>PyData.eqv e d) λj=>R (.D (.int (j:Nat))) μ
  | _=>False
 | _,_=>False
section
variable {X:Cx}{k:Nat}
def XO:A2:=λx y μ R=>match x,y with
 | .D (.str i),.D (.str j)=>R (.D (.bool (!decide (i=j)))) μ
 | _,_=>False
def UX(xs:List AV)(n:Nat):List AV:=(List.replicate n xs).flatten
def WL:A2:=λx y μ R=>match x,y with
 | .R a,.D (.int n)=>opt (μ a) λm=>match m with
  | .lst b=>(0<=n/\n<=1000/\b.length<=1000)/\∀p,μ p=none->R (.R p) (An μ p (.lst (UX b n.toNat)))
  | _=>False
 | _,_=>False
def Kc(ns:List Int):Nat->Int:=preSum λi=>ns.getD i 0
theorem X4{ns:List Int}(h:∀n∈ns,0<=n/\n<=1000):∀j,j<=ns.length->0<=Kc ns j/\Kc ns j<=1000 * j
 | 0,_=>⟨Int.le_refl _,Int.le_refl _⟩
 | j+1,hj=>by
  have a:=X4 h j (by omega)
  have b:=h (ns.getD j 0) (by rw [bC,J_ (by omega)];exact b_ _)
  have e:Kc ns (j+1)=Kc ns j+ns.getD j 0:=rfl
  rw [e]
  constructor
  ·omega
  ·push_cast;omega
theorem Sa:∀(ns:List Int) (j:Nat),Kc ns j=(ns.take j).sum
 | ns,0=>by rw [List.take_zero];rfl
 | ns,j+1=>by
  have e:Kc ns (j+1)=Kc ns j+ns.getD j 0:=rfl
  rw [e,Sa ns j,Y_,List.sum_append]
  congr 1
  rw [bC]
  cases ns[j]? with
  | none=>rfl
  | some v=>simp
theorem X5(hc:X.calm=true):Ek X (.builtin "sum") (λl H Q=>∃(p:jH) (ns:List Int),l=[.ref p]/\Fa X.K H p (ns.map V.int)/\(∀n∈ns,0<=n/\n<=1000)/\ns.length<=1000/\Q (.int ns.sum) H):=by
 intro J s σ H l us Q I r h
 obtain⟨p,ns,rfl,hq,hb,M,q⟩:=h
 obtain⟨u,rfl,E⟩:=Fd r
 cases E
 obtain⟨f,m,a,hz⟩:=I.list hq
 have c:=m.length
 rw [B_]at c
 refine call_sum_walk (cN a.isList ?_)
 have w:p≠s.heap.objs.size:=W_ (let⟨_,d,_⟩:=a.isList;O_ d)
 refine⟨s.heap.objs.size,_,_,_,_,_,λi=>ns.getD i 0,rfl,Walks.list (show X.A.in1.handled=none from I.ok.hd hc) s.heap.objs.size p w f.toArray,?_,?_,?_,?_,λG F L k=>?_⟩
 ·exact⟨⟨_,K_ _ rfl,rfl,rfl⟩,a.isList.at λo e=>DD _ e⟩
 ·intro b hb
  have y:p < s.heap.objs.size:=let⟨_,d,_⟩:=a.isList;O_ d
  simp only [List.mem_cons,List.not_mem_nil,or_false]at hb
  have B:∀o:jO,(s.heap.push o).objs.size=s.heap.objs.size+1:=λo=>by simp [Heap.push]
  show b < (s.heap.push _).objs.size
  rw [B]
  rcases hb with rfl | rfl
  ·exact cB _
  ·exact bV y
 ·intro i v D
  have hv:f[i]?=some v:=by simpa using D
  have g:i < ns.length:=by rw [c];exact(E_.mp hv).1
  obtain⟨u,hu,C⟩:=m.get (i:=i) (x:=V.int ns[i]) (by simp [g])
  rw [hv]at hu
  cases hu
  obtain⟨t,rfl⟩:=(show ∃t,v=Value.int ns[i] t from C)
  exact⟨t,by simp [g]⟩
 ·intro j hj
  rw [YQ,<- c]at hj
  have h1:=hb (ns.getD j 0) (by rw [bC,J_ hj];exact b_ _)
  have h2:=X4 hb (j+1) hj
  have e:preSum (λi=>ns.getD i 0) (j+1)=Kc ns (j+1):=rfl
  rw [e]
  show InLong (ns.getD j 0)/\InLong (Kc ns (j+1))
  generalize Kc ns (j+1)=z at h2 ⊢
  refine⟨⟨by omega,by omega⟩,by omega,?_⟩
  have:=h2.2
  push_cast at this
  omega
 ·have e:preSum (λi=>ns.getD i 0) f.toArray.size=ns.sum:=by
   rw [YQ,<- c]
   show Kc ns ns.length=_
   rw [Sa,YY]
  rw [e]
  exact⟨.int _,H,I.kept λb o e=>k b o (by
   intro hb
   have:b=s.heap.objs.size:=by simpa using hb
   exact absurd (O_ e) (by rw [this];exact bG _)) (DD _ e),⟨_,rfl⟩,q⟩
def Ht:List AV->Option (List Int)
 | []=>some []
 | .D (.int i) :: a=>(Ht a).map (i :: ·)
 | _=>none
theorem Kd{K:jI}{H:Hp}:∀{xs:List AV} {ns:List Int} {a:List V},Ht xs=some ns->A3 K H xs a->a=ns.map V.int
 | [],_,_,e,.nil=>by cases e;rfl
 | x :: xs,ns,_,e,.cons f c=>by
  cases x with
  | D d =>
   cases d with
   | int i =>
    obtain⟨g,b,rfl⟩:=F_.mp (show(Ht xs).map (i :: ·)=some ns from e)
    rw [Kd b c,RelA.int f];rfl
   | _=>cases e
  | _=>cases e
def OL:AC:=λb μ R=>match b with
 | [.R a]=>opt (μ a) λm=>match m with
  | .lst c=>opt (Ht c) λns=>((∀n∈ns,0<=n/\n<=1000)/\ns.length<=1000)/\R (.D (.int ns.sum)) μ
  | _=>False
 | _=>False
theorem OM(i:X.calm=true):VCall X (.builtin "sum") OL:=by
 intro c s σ H xs us Q I r zq
 refine B9 zq λj μ R ra hc h hq=>?_
 unfold OL at h
 split at h
 ·cases ra with
  | cons f d =>
   cases d
   obtain⟨m,b,h⟩:=A6 h
   split at h
   ·obtain⟨ns,g,h⟩:=A6 h
    obtain⟨o,e,l,rfl,a⟩:=hc _ _ b
    cases (show _=V.ref _ from f)
    exact X5 i c s σ H _ us Q I r ⟨_,ns,rfl,Fa.of (by rw [e,Kd g a]),h.1.1,h.1.2,hq _ _ _ _ Kp.refl hc Cr h.2⟩
   ·exact h.elim
 ·exact h.elim
end
end L2
namespace L2
open PySem PySem.Spec PySem.Calls PyProof.Rows PySem.W
end L2
namespace L2
open PySem PySem.Spec PySem.Calls PyProof.Rows
end L2
namespace L2
open PySem PySem.Spec PySem.Calls PyProof.Rows PySem.W
end L2
namespace L2
open PySem
end L2
namespace L2
open PySem PySem.Spec PySem.Calls PyProof.Rows
def IR:Key->jG
 | .inl i=>.int i
 | .inr z=>.str z
theorem ON{K:jI}{H:Hp}(k:Key):Dk K H (IR k) (kV k):=by
 cases k with
 | inl i=>exact Dj
 | inr z=>exact Pw
section
variable {X:Cx}{k:Nat}
abbrev UY:A2:=HQ λi j=>.int (Builtin.bitOr i j)
abbrev OO:A2:=HQ λi j=>.int (Builtin.bitAnd i j)
abbrev UZ:A2:=aI CPow λi j=>.int (i * 2 ^ j.toNat)
abbrev VB:A2:=aI (λ_ j=>0<=j) λi j=>.int (i / 2 ^ j.toNat)
theorem ET:VOp X (binaryOp .BitOr) UY:=Uf MU λ_ _ _=>Dj
theorem X6:VOp X (binaryOp .BitAnd) OO:=Uf GP λ_ _ _=>Dj
theorem OP:VOp X (binaryOp .LShift) UZ:=NQ GN λ_ _ _=>Dj
theorem OQ:VOp X (binaryOp .RShift) VB:=NQ GO λ_ _ _=>Dj
theorem CS:LF X "int.bit_length" (λx a H Q=>∃i:Int,x=.int i/\a=[]/\Q (.int (Builtin.Int.intBits i:Nat)) H):=by
 intro c s σ H x xs v us Q I rx r h
 obtain⟨i,rfl,rfl,q⟩:=h
 obtain⟨t,rfl⟩:=rx
 cases r
 exact call_int_bit_length ⟨.int _,H,I.kept (t':=s.toks+1) (λb o e=>e),⟨_,rfl⟩,q⟩
def EU:AV->AC:=λx a μ R=>match x,a with
 | .D (.int i),[]=>R (.D (.int (Builtin.Int.intBits i:Nat))) μ
 | _,_=>False
theorem IS:VMt X "int.bit_length" EU:=by
 intro b s σ H x xs v us Q I rx r zz
 refine Ey zz λa c μ R ra rs hc h hq=>?_
 unfold EU at h
 split at h
 ·cases RelA.int ra
  cases rs
  exact CS b s σ H _ _ v us Q I rx r ⟨_,rfl,rfl,hq _ _ _ _ Kp.refl hc Cr h⟩
 ·exact h.elim
def isInt:AV->Prop
 | .D (.int _)=>True
 | _=>False
def VC(m:AV->AC)(a:AE):AE:=fun τ μ R=>a τ μ λx μ1=>isInt x/\m x [] μ1 R
theorem IT{name:Str}{a:String}{o:jL}{e:AE}{m:AV->AC}{b c:Pos}(slot:Slot "int" name a) (f:typeOf (.builtin a)=pure (.type "method_descriptor")) (l:VMt X a m) (j:VE X o e)
  (g:attributeBase o name X.env (eval o X.env)=eval o X.env:=by rfl) (n:(b.endLine==c.line)=true:=by rfl):VE X (.Call (.Attribute o name b) [] [] c) (VC m e) :=
 (Pu PySem.F.plainAttrs_int slot f l j g n).imp fun σ H Q zz=>B9 zz fun τ μ R i hc h hq=>⟨τ,μ,_,i,hc,h,λx μ1 v H1 S1 p d hx=>⟨by
   obtain⟨hx,_⟩:=hx
   unfold isInt at hx
   split at hx
   ·cases RelA.int d
    exact rfl
   ·exact hx.elim,x,[],μ1,R,d,.nil,p,hx.2,hq.kp S1⟩⟩
end
section
variable {s:jA}{E:i_->jA->Prop}{A:jM}{prog:jJ}{w:jK}{K:Type} [DecidableEq K]{knd:HeapKind prog w K}
theorem XQ{d a:jH}{xs:List (K×jH×i_)}{k:K}{v:i_}{Q:i_->jA->Prop}(hu:knd.room A)(hk:knd.is s.heap k a)(z:s.heap.DictOfH knd d xs)(hz:xs.length<=sizeLine)
  (h1:∀p,atKey xs k=some p->Q p.2 { s with toks:=s.toks+knd.draws k })
  (h2:atKey xs k=none->∀i,i.DictOfH knd d (storedH xs k a v)->Heap.SameBut d s.heap i->Q v { s with heap:=i,toks:=s.toks+knd.draws k }):wpAny (model prog w) A (dictSetDefault d (.ref a) v) Q E s:=by
 obtain⟨o,F,B,g,C,f,h,q,l⟩:=z
 unfold dictSetDefault
 (try with_reducible refine ZG ?_)
 refine A_ (knd.pyHash hu hk (A_ (wpAny_dictFind_heap (s:={ s with toks:=s.toks+knd.draws k }) hu hk g f h q l (λr=>?_) (λj p hj=>?_))))
 ·have n:=atKey_none_of_get r
  have t:k∉xs.map (·.1):=not_mem_keys_of_get r
  have D:=size_of_entries h
  refine A_ (bE (A_ (wpAny_updateDictKeys (hz:=by omega) (s:={ s with toks:=s.toks+knd.draws k }) g f (C_ (h2 n _ ?_ (ZF ..))))))
  have st:=storedH_new (a:=a) (v:=v) n
  rw [st]
  refine⟨_,_,B+1,ZQ _ g (Obj.isFreed_of_dict (Obj.data_mapDictKeys f _)),C.mapDictKeys _,Obj.data_mapDictKeys f _,by simp [h,entryOfKey],λx hx=>?_,?_⟩
  ·have c:∀{y:K} {b:jH},knd.is s.heap y b->knd.is (s.heap.update d (Obj.mapDictKeys λx=>x.push ⟨knd.hash k,.ref a,v⟩)) y b:=λhy=>knd.keeps hy g f (ZF ..)
   rcases G_.mp hx with m | m
   ·exact c (q x m)
   ·rw [P_.mp m];exact c hk
  ·rw [N_]
   exact ZW.mpr ⟨l,by simp,λx hx y hy e=>t (by
    have hy:y=k:=by simpa using hy
    rw [hy]at e
    rw [<- e];exact hx)⟩
 ·have u:=atKey_of_get l hj
  refine A_ (bA (s:={ s with toks:=s.toks+knd.draws k }) g f ?_)
  rw [entry_at h j,hj]
  exact A_ (bE (C_ (h1 _ u)))
end
section
variable {w:jK}{prog:jJ}{K:Type} [DecidableEq K](knd:HeapKind prog w K)(d a:jH)
theorem Uy(h:(d==sysModules)=false)(dflt:i_):MeetsIn prog w (Builtin.«dict.setdefault» ⟨[.ref d,.ref a,dflt],[]⟩) (λA R s=>knd.room A.in1/\∃k c,knd.is s.heap k a/\s.heap.DictOfH knd d c/\c.length<=sizeLine /\
   (∀p,atKey c k=some p->R (.ok (.ret p.2)) { s with toks:=s.toks+knd.draws k }) /\
   (atKey c k=none->∀f,f.DictOfH knd d (storedH c k a dflt)->Heap.SameBut d s.heap f->R (.ok (.ret dflt)) { s with heap:=f,toks:=s.toks+knd.draws k })) :=
 .of_wp λA R s ⟨hu,k,c,hk,g,hz,h1,h2⟩=>by
  unfold Builtin.«dict.setdefault» Builtin.Dict.keyAndDefault
  refine A_ (A_ (eT g.typeIs (show wpAny _ _ (pure (d,Value.ref a,some dflt)) _ _ s from C_ ?_)))
  show wpAny _ _ (if(d==sysModules)=true then _ else(dictSetDefault d (.ref a) dflt >>= _)) _ _ s
  rw [h,M_ R_]
  exact A_ (XQ hu hk g hz (λp e=>C_ ⟨_,rfl,h1 p e⟩) λe f m b=>C_ ⟨_,rfl,h2 e f m b⟩)
end
section
variable {X:Cx}{aa:List (jH×jO)}{σ:St}{H:Hp}{s:jA}{A:jM}{E:i_->jA->Prop}{a b:jH}{r:i_}{o e f:jL}{aq am:Pos}{prog:jJ}{w:jK}{d it:jH}{es:Array DictEntry}{ep i k:Nat}
theorem IU{Q:i_->jA->Prop}{kvs:List (List Key×V)}{k:List Key}{n:V}(hu:A.units+1 < cLine)(I:Inv X aa σ H s)(e:H a=some (.dT kvs))(B:H b=some (.tup (k.map kV)))(l:kvs.length < sizeLine)(rd:Bi n r)
  (h1:∀v,Eh kvs k=some v->∀t m,Inv X aa σ H m->Bi v t->Q t m) (h2:Eh kvs k=none->∀m,Inv X aa σ (upd H a (.dT (putK kvs k n))) m->Q r m) :
  wpAny (model X.prog X.w) A (call (.builtin "dict.setdefault") [.ref a,.ref b,r]) Q E s:=by
 obtain⟨z,u,x,j,dd⟩:=Nu I.hok e
 have hz:x.length<=sizeLine:=by rw [<- ZZ j];exact z
 have G:(putK kvs k n).length<=sizeLine:=by have:=Fe kvs k n;omega
 have g:=j.val k
 refine fQ PySem.F.slot_dict_setdefault dd.typeIs PySem.F.entry_dict_setdefault (PySem.F.args_dict_setdefault_3 _ _ _) (Uy (tupleKind (A8 X.prog X.w)) a b u r) ⟨dE hu,k,x,Gi I.hok B,dd,hz,λp hp=>?_,λO P D J=>?_⟩
 ·rw [hp]at g
  cases h:Eh kvs k with
  | none=>rw [h]at g;exact g.elim
  | some v=>rw [h]at g;exact h1 v h _ _ (I.tok _) g
 ·rw [O]at g
  have h:Eh kvs k=none:=by
   cases h:Eh kvs k with
   | none=>rfl
   | some v=>rw [h]at g;exact g.elim
  refine h2 h _ ?_
  obtain⟨q,es,ep,hq,L,N,M,_,C⟩:=D
  refine Iw I (by rw [e];exact True.intro) J ⟨q,hq⟩ ⟨G,u,_,(j.put k B rd).keeps λc R y=>?_,q,es,ep,hq,L,N,M,C⟩
  rw [Au (Nm y e (λz=>nomatch z))]
  exact y
def VD(td ty l:TE):TE:=fun σ H Q=>td σ H λx h=>∃a,x=.ref a/\SR h a/\ty σ h λy j=>l σ j λz g=>∃c k b,g a=some (.dT c)/\y=.ref b/\g b=some (.tup (k.map kV))/\c.length < sizeLine /\
 (∀v,Eh c k=some v->Q v g)/\(Eh c k=none->Q z (upd g a (.dT (putK c k z))))
theorem IV{td ty n:TE}(hu:X.A.units+1 < cLine)(L:PE X o td)(he:PE X e ty)(Y:PE X f n)(m:M2 X o "setdefault" aq e f am):PE X (.Call (.Attribute o "setdefault" aq) [e,f] [] am) (VD td ty n):=by
 intro aa s σ H Q I h
 refine wpAny_Call_method m.base m.few m.line dX PySem.F.slot_dict_setdefault PySem.F.type_dict_setdefault (thn (L aa s σ H _ I h) λu U B=>?_)
 obtain⟨x,M,j,rx,a,R,d,T⟩:=B
 subst R
 cases (show u=Value.ref a from rx)
 obtain⟨O,t2,_⟩:=V8 j d
 refine⟨O,t2,?_⟩
 rw [m.trees]
 refine eC rfl (gN (aV (thn (he aa U σ M _ j T) λP W z2=>Cz z2 λy S J N G=>aV (thn (Y aa W σ S _ J G) λfv s3 ⟨z,H3,t,p,V,k,b,ea,ey,eb,l,D,C⟩=>a_ ?_))))
 subst ey
 cases (show P=Value.ref b from N)
 exact IU hu t ea eb l p (λv g w' q c Z=>⟨v,H3,c,Z,D v g⟩) λg q c=>⟨z,_,c,p,C g⟩
def VF(td ty j:AE):AE:=fun τ μ R=>td τ μ λx μ1=>match x with
 | .R a=>(∃m,μ1 a=some m/\IK m)/\ty τ μ1 λy μ2=>j τ μ2 λz μ3=>match y with
  | .D (.tuple h)=>opt (N5 h) λg=>opt (μ3 a) λm=>match m with
   | .dt c=>c.length < sizeLine/\(∀v,Cg c g=some v->R v μ3)/\(Cg c g=none->R z (An μ3 a (.dt (E5 c g z))))
   | _=>False
  | _=>False
 | _=>False
theorem X7{td ty G:AE}(hu:X.A.units+1 < cLine)(L:VE X o td)(he:VE X e ty)(N:VE X f G)(m:M2 X o "setdefault" aq e f am:=by exact⟨rfl,rfl,rfl,rfl⟩):VE X (.Call (.Attribute o "setdefault" aq) [e,f] [] am) (VF td ty G) :=
 (IV hu L he N m).imp fun σ H Q zz=>B9 zz fun τ μ R D hc h hq=>⟨τ,μ,_,D,hc,h,λx μ1 v H1 S1 F rx hx=>by
  split at hx
  ·rename_i a
   obtain⟨⟨T,p,M⟩,hx⟩:=hx
   cases rx
   refine⟨a,rfl,Xm F p M,τ,μ1,_,D.kp S1,F,hx,λy μ2 u H2 S2 c2 ry hy=>⟨τ,μ2,_,(D.kp S1).kp S2,c2,hy,λz μ3 zv H3 S3 c3 rz hz=>?_⟩⟩
   split at hz
   ·obtain⟨l,B,hz⟩:=A6 hz
    obtain⟨m,J,hz⟩:=A6 hz
    split at hz
    ·rename_i j
     obtain⟨S,n,O,rfl,C⟩:=c3 _ _ J
     obtain⟨b,P,rfl,hb,q⟩:=(Dk.kp S3 _ _ ry).tup
     obtain⟨I,B⟩:=Mu B
     have hb:=hb.heap I
     rw [Gx q B]at hb
     have c:=C.val l
     refine⟨O,l,b,n,rfl,hb,by rw [<- ZZ C];exact hz.1,λv t=>?_,λt=>?_⟩
     ·rw [t]at c
      cases g:Cg j l with
      | none=>rw [g]at c;exact c.elim
      | some w=>rw [g]at c;exact hq _ _ _ _ ((S1.trans S2).trans S3) c3 c (hz.2.1 w g)
     ·rw [t]at c
      have g:Cg j l=none:=by
       cases g:Cg j l with
       | none=>rfl
       | some w=>rw [g]at c;exact c.elim
      exact hq _ _ _ _ (((S1.trans S2).trans S3).trans (Kp.put n trivial _)) (c3.put n trivial (EM (C.put l rz))) (rz.kp (Kp.put n trivial _)) (hz.2.2 g)
    ·exact hz.elim
   ·exact hz.elim
  ·exact hx.elim⟩
def Ei(h:jN)(d:jH)(es:Array DictEntry)(ep:Nat):Prop:=∃o,h.get? d=some o/\o.ExactDict/\o.data=.dict es ep
theorem Ei.ty{s:jA}{d:jH}{es:Array DictEntry}{ep:Nat}(x:Ei s.heap d es ep):s.TypeIs (.ref d) "dict" := let⟨o,h1,h2,_⟩:=x;⟨o,h1,h2.1⟩
theorem Ei.mv{h h':jN}{d:jH}{es:Array DictEntry}{ep:Nat}(x:Ei h d es ep)(k:∀o,h.get? d=some o->h'.get? d=some o):Ei h' d es ep:=let⟨o,h1,r⟩:=x;⟨o,k o h1,r⟩
theorem Ei.lt{h:jN}{d:jH}{es:Array DictEntry}{ep:Nat}(x:Ei h d es ep):d < h.objs.size:=let⟨_,h1,_⟩:=x;O_ h1
theorem X8{Q:i_->jA->Prop}(h:(d==sysModules)=false)(g:Ei s.heap d es ep)
  (q:Q (.ref s.heap.objs.size) { s with heap:=s.heap.push { cls:=.type "dict_keyiterator",data:=.fields #[.ref d,.int 0 0,.int es.size 0,.int ep 0] } }):wpAny (model prog w) A (pyIter (.ref d)) Q E s:=by
 have T:=g.ty
 obtain⟨o,h1,h2,c⟩:=g
 refine cP T F.slot_dict_iter (ZI F.slot_dict_iter T F.entry_dict_iter ?_ (F.args_dict_iter_1 _))
 unfold Builtin.«dict.__iter__» Builtin.Dict.dictSlotNone
 refine A_ (A_ (eT T (show wpAny _ _ (pure (Value.ref d)) _ _ s from C_ ?_)))
 show wpAny (model prog w) _ (Builtin.Dict.showsAll d >>= _) _ _ s
 unfold Builtin.Dict.showsAll
 rw [h,M_ R_]
 refine A_ (C_ (A_ (bA h1 c (A_ (cX h1 c (A_ (YR (C_ ⟨_,rfl,"dict_keyiterator",_,⟨_,K_ _ rfl,rfl⟩,F.slot_dict_keyiterator_next.lookup,?_⟩))))))))
 simpa [rawInt] using q
theorem X9{Q:Option i_->jA->Prop}(l:s.heap.IsKeyIter it d i es.size ep)(t:Ei s.heap d es ep)(p:i < es.size)
  (q:∀h,h.IsKeyIter it d (i+1) es.size ep->Heap.SameBut it s.heap h->Q (some es[i].key) { s with heap:=h }):wpAny (model prog w) A (pyNext (.ref it)) Q E s:=by
 have T:=l.typeIs
 obtain⟨o,g,n,c⟩:=id l
 obtain⟨u,h1,h2,j⟩:=t
 unfold pyNext
 refine A_ (bO (ZR (name:=Str.ofString "__next__") T F.slot_dict_keyiterator_next (ZI F.slot_dict_keyiterator_next T F.entry_dict_keyiterator_next ?_ (F.args_dict_keyiterator_next_1 _))))
 refine A_ (C_ (A_ (A_ ?_)))
 first | refine A_ (cL T (C_ (A_ (bH g c ?_)))) | refine A_ (dQ T (C_ (A_ (bH g c ?_))))
 simp only [show Builtin.Dict_items.ownsTuple "dict_keyiterator" = false by decide,Bool.false_eq_true,if_false]
 show wpAny (model prog w) _ (if(Value.ref d==Value.none)=true then _ else _) _ _ s
 rw [M_ (by exact R_)]
 refine A_ (C_ (A_ (bA h1 j ?_)))
 rw [M_ (by simp)]
 refine A_ (C_ (A_ (cX h1 j ?_)))
 rw [M_ (by simp)]
 refine C_ ?_
 simp only [show ¬((i:Int) < 0) by omega,if_false,Int.toNat_natCast,Array.getElem?_eq_getElem p]
 refine A_ ?_
 first | refine A_ (cL T (C_ (A_ (gG T ?_)))) | refine A_ (dQ T (C_ (A_ (gG T ?_))))
 show wpAny (model prog w) _ (setField (.ref it) 1 (rawInt ((i:Int)+1)) >>= _) _ _ s
 refine A_ (cK g c (by simp) (A_ (ZG ?_)))
 have m:(s.heap.update it (Obj.mapFields (·.setIfInBounds 1 (rawInt ((i:Int)+1))))).IsKeyIter it d (i+1) es.size ep:=⟨_,ZQ _ g (dH (aW c _)),(fW ..).trans n,by rw [aW c];simp [rawInt]⟩
 refine A_ (gG (s:={ s with heap:=s.heap.update it (Obj.mapFields (·.setIfInBounds 1 (rawInt ((i:Int)+1)))) }) m.typeIs (show wpAny _ _ (pure es[i].key) _ _ _ from ?_))
 exact C_ (C_ ⟨_,rfl,C_ (q _ m (ZF ..))⟩)
theorem CT{Q:Option i_->jA->Prop}(n:A.handled=none)(l:s.heap.IsKeyIter it d es.size es.size ep)(p:Ei s.heap d es ep)(q:∀j,Heap.ExtBut it s.heap j->Q none { s with heap:=j }):wpAny (model prog w) A (pyNext (.ref it)) Q E s:=by
 have T:=l.typeIs
 obtain⟨o,g,u,c⟩:=id l
 obtain⟨t,h1,h2,h⟩:=p
 unfold pyNext
 refine A_ (bO (ZR (name:=Str.ofString "__next__") T F.slot_dict_keyiterator_next (ZI F.slot_dict_keyiterator_next T F.entry_dict_keyiterator_next ?_ (F.args_dict_keyiterator_next_1 _))))
 refine A_ (C_ (A_ (A_ ?_)))
 first | refine A_ (cL T (C_ (A_ (bH g c ?_)))) | refine A_ (dQ T (C_ (A_ (bH g c ?_))))
 simp only [show Builtin.Dict_items.ownsTuple "dict_keyiterator" = false by decide,Bool.false_eq_true,if_false]
 show wpAny (model prog w) _ (if(Value.ref d==Value.none)=true then _ else _) _ _ s
 rw [M_ (by exact R_)]
 refine A_ (C_ (A_ (bA h1 h ?_)))
 rw [M_ (by simp)]
 refine A_ (C_ (A_ (cX h1 h ?_)))
 rw [M_ (by simp)]
 refine C_ ?_
 simp only [show ¬((es.size:Int) < 0) by omega,if_false,Int.toNat_natCast,Array.getElem?_eq_none (Nat.le_refl es.size)]
 refine A_ ?_
 first | refine A_ (cL T (C_ ?_)) | refine A_ (dQ T (C_ ?_))
 show wpAny (model prog w) _ (setField (.ref it) 0 .none >>= _) _ _ s
 refine A_ (cK g c (by simp) (show wpAny _ _ (newExc (.type "StopIteration") [] >>= _) _ _ _ from A_ ?_))
 simp only [newExc,newTuple]
 refine A_ (YR (A_ (m:=firstArgMember _ _) (bY (a:=Value.none) (by first | rfl | (simp only [firstArgMember];rfl)) (YR ?_ (by size_fits)))) (by size_fits))
 simp only [raiseNew]
 refine A_ (gM (?_:_));rw [show A.in1.handled=none from n];refine A_ (C_ (iE ?_))
 refine A_ (bD (T := "StopIteration") (b:=true) (by exact⟨_,K_ _ rfl,rfl⟩) fX ?_)
 exact C_ (q _ (((ZF ..).extBut.push _).push _))
theorem Uz(n:A.handled=none)(I d:jH)(m:d≠I)(es:Array DictEntry)(ep:Nat) :
  Walks prog w A I [I,d] [I] es.size (λi v=>∃e,es[i]?=some e/\v=e.key) (λi h=>h.IsKeyIter I d i es.size ep/\Ei h d es ep) where
 sub:=λb hb=>by
  have:b=I:=by simpa using hb
  simp [this]
 frame:=λ_ _ _ st k=>⟨st.1.at λo e=>k I (by simp) o e,st.2.mv λo e=>k d (by simp) o e⟩
 item:=λi s Q E l st c=>X9 st.1 st.2 l λg x j=>c _ g s.toks ⟨es[i],by simp [l],rfl⟩ ⟨x,st.2.mv λo e=>j.extBut d o m e⟩ λb o hb e=>j.extBut b o (λz=>hb (by simp [z])) e
 done:=λs Q E st c=>CT n st.1 st.2 λg x=>c g s.toks λb o hb e=>x b o (λz=>hb (by simp [z])) e
 self:=λ_ _ _ _ st q=>wpAny_pyIter_keyiter st.1 q
theorem CU(lo:(d==sysModules)=false):PySem.W.KdlSrc prog w "dict" d d es.size (λi v=>∃e,es[i]?=some e/\v=e.key) (λh=>Ei h d es ep) where
 type:=λ_ x=>x.ty
 there:=λ_ x=>⟨x.lt,x.lt⟩
 keep:=λ_ _ x k=>x.mv λo e=>k d (.inl rfl) o e
 notList:=by decide
 notTuple:=by decide
 hint:=λ_ _ _ _ x q=>PySem.W.kdl_hint_dict x.ty q
 iter:=λ_ _ c x=>⟨_,_,(λ_ _ q=>X8 lo x q),Uz c _ d (W_ x.lt) es ep,⟨⟨_,K_ _ rfl,rfl,rfl⟩,x.mv λo e=>DD _ e⟩⟩
theorem EV:∀(c:List jH),Vals (c.map V.ref) (c.map Value.ref)
 | []=>.nil
 | _ :: c=>.cons rfl (EV c)
theorem Sb{α β γ:Type}{F:α->β->Prop}{G:α->γ->Prop}{f:β->γ}:∀{l:List α} {m:List β},Paired F l m->(∀x y,F x y->G x (f y))->Paired G l (m.map f)
 | _,_,.nil,_=>.nil
 | _,_,.cons r t,g=>.cons (g _ _ r) (Sb t g)
theorem M5(hc:X.calm=true):Ek X (.type "list") (λF H Q=>∃a g,F=[.ref a]/\H a=some (.dT g)/\∀l (x:List jH),H l=none->Paired (λ(p:List Key×V) b=>H b=some (.tup (p.1.map kV))) g x->Q (.ref l) (upd H l (.lst (x.map V.ref)))):=by
 intro aa s σ H F us Q I r h
 obtain⟨a,g,rfl,ha,q⟩:=h
 obtain⟨u,rfl,T⟩:=Fd r
 cases T
 obtain⟨hz,v,t,n,o,es,ep,h1,h2,R,C,_⟩:=Nu I.hok ha
 have G:=ZZ n
 have L:es.size=t.length:=by
  have:=bB List.length C
  simpa using this
 refine PySem.W.kdl_call (CU (es:=es) (ep:=ep) v) (I.ok.hd hc) ⟨o,h1,h2,R⟩ (by rw [L,<- G];exact hz) λU N m c S B J=>?_
 have P:m.toList=(t.map λy=>y.2.1).map Value.ref:=by
  refine fZ λj=>?_
  rw [YN]
  rcases(aB j m.size) with hj | hj
  ·obtain⟨e,M,O⟩:=J.2 j m[j] (by simp [hj])
   have D:(t.map (entryOfKey (tupleKind (A8 X.prog X.w))))[j]?=some e:=by rw [<- C,YN];exact M
   rw [H_]at D
   obtain⟨y,hy,rfl⟩:=F_.mp D
   rw [H_,H_,hy,YX hj,O];rfl
  ·rw [aG hj,dI (by rw [B_,B_,<- L,<- J.1];exact hj)]
 have x:Paired (λ(p:List Key×V) b=>H b=some (.tup (p.1.map kV))) g (t.map λy=>y.2.1):=Sb n λp y z=>z.2.1
 refine⟨.ref s.heap.objs.size,_,I.laid (t':=N) (o:=.lst ((t.map λy=>y.2.1).map V.ref)) S (I_ _) ?_,rfl,q _ _ (I.hok.fresh (I_ _)) x⟩
 exact⟨by rw [B_,B_,<- G];exact hz,m.toList,c,by rw [P];exact EV _,by simpa using B⟩
def Ya:AC:=λg μ R=>match g with
 | [.R a]=>opt (μ a) λm=>match m with
  | .dt c=>∀p,μ p=none->R (.R p) (An μ p (.lst (c.map λq=>.D (.tuple (q.1.map IR)))))
  | _=>False
 | _=>False
theorem Qq{K:jI}{H:Hp}:∀(ks:List Key),Am K H (ks.map IR) (ks.map kV)
 | []=>Dm
 | k :: ks=>Ds (ON k) (Qq ks)
theorem Sc{K:jI}{H:Hp}:∀{kvs:List (List Key×AV)} {c:List (List Key×V)} {g:List jH},E3 K H kvs c->Paired (λ(p:List Key×V) b=>H b=some (.tup (p.1.map kV))) c g->A3 K H (kvs.map λq=>.D (.tuple (q.1.map IR))) (g.map V.ref)
 | [],_,_,r,p=>by
  cases r
  cases p
  exact .nil
 | _ :: _,_,_,r,p=>by
  cases r with
  | cons l h =>
   cases p with
   | cons j m =>
    refine .cons ?_ (Sc h m)
    dsimp only
    rw [l.1]
    exact Hc j (Qq _)
theorem CV(u:X.calm=true):VCall X (.type "list") Ya:=by
 intro aa s σ H xs us Q I r zz
 refine B9 zz λv μ R ra hcn h hq=>?_
 unfold Ya at h
 split at h
 ·rename_i a
  obtain⟨m,g,h⟩:=A6 h
  split at h
  ·rename_i j
   obtain⟨o,p,q,rfl,rk⟩:=hcn _ _ g
   cases ra with
   | cons t n =>
    cases n
    cases t
    exact M5 u aa s σ H _ us Q I r ⟨a,q,rfl,p,λl x c hp=>hq (.R l) _ _ _ (Kp.new c _) (hcn.new c (Cs (Sc rk hp))) rfl (h l (hcn.none c))⟩
  ·exact h.elim
 ·exact h.elim
end
end L2
namespace L2
open PySem PySem.Spec PyProof.Rows
def Sd(N:List Str)(pn cn:List (Str×jT))(N':List Str)(mp:List (Option Nat)):Bool :=
 decide (N'.length=mp.length) && decide N'.Nodup &&
 (List.range N'.length).all (λk=>match mp[k]?,N'[k]? with
  | some (some i),some x=>decide (N[i]?=some x) && BB pn x && decide ((x,NameKind.free)∈cn) && decide (cn.lookup x=some .free)
  | _,_=>true) &&
 cn.all (λp=>decide (p.2≠.cell) || decide (cn.lookup p.1=some .cell)) && cn.all (λp=>decide (p.2≠.free) || BB pn p.1) && cn.all (λp=>decide (p.2≠.local) || decide (cn.lookup p.1=some .local))
structure CompOkC(N:List Str)(pn cn:List (Str×jT))(N':List Str)(mp:List (Option Nat)):Prop where
 len:N'.length=mp.length
 map:∀(k i:Nat) (x:Str),mp[k]?=some (some i)->N'[k]?=some x->N[i]?=some x/\(pn.lookup x=some .cell\/pn.lookup x=some .free)/\(x,NameKind.free)∈cn/\cn.lookup x=some .free
 ownc:∀p∈cn,p.2=.cell->cn.lookup p.1=some .cell
 free:∀p∈cn,p.2=.free->(pn.lookup p.1=some .cell\/pn.lookup p.1=some .free)
 loc:∀p∈cn,p.2=.local->cn.lookup p.1=some .local
theorem Aw{N:List Str}{pn cn:List (Str×jT)}{N':List Str}{mp:List (Option Nat)}(h:Sd N pn cn N' mp=true):CompOkC N pn cn N' mp:=by
 unfold Sd at h
 obtain⟨h,g⟩:=(ZJ _ _).mp h
 obtain⟨h,d⟩:=(ZJ _ _).mp h
 obtain⟨h,c⟩:=(ZJ _ _).mp h
 obtain⟨h,b⟩:=(ZJ _ _).mp h
 obtain⟨h1,h2⟩:=(ZJ _ _).mp h
 refine⟨YU h1,λk i x f a=>?_,λp hp e=>?_,λp hp e=>?_,λp hp e=>?_⟩
 ·have hk:k < N'.length:=(E_.mp a).1
  have q:=aQ.mp b k (ZY.mpr hk)
  simp only [f,a]at q
  obtain⟨q,j⟩:=(ZJ _ _).mp q
  obtain⟨q,l⟩:=(ZJ _ _).mp q
  obtain⟨m,n⟩:=(ZJ _ _).mp q
  exact⟨YU m,Ny n,YU l,YU j⟩
 ·rcases(cU _ _).mp (aQ.mp c p hp) with z | z
  ·exact absurd e (YU z)
  ·exact YU z
 ·rcases(cU _ _).mp (aQ.mp d p hp) with z | z
  ·exact absurd e (YU z)
  ·exact Ny z
 ·rcases(cU _ _).mp (aQ.mp g p hp) with z | z
  ·exact absurd e (YU z)
  ·exact YU z
theorem relabel_back2{env:Env}{names:List (Str×jT)}{x:Str}(h:((names.map λ(n,k)=>if(k==NameKind.free && env.scope.kind==.function && env.kindOf n==some .cell) then(n,NameKind.cell) else(n,k)).lookup x=some .cell \/
  (names.map λ(n,k)=>if(k==NameKind.free && env.scope.kind==.function && env.kindOf n==some .cell) then(n,NameKind.cell) else(n,k)).lookup x=some .free)):(x,NameKind.free)∈names\/(x,NameKind.cell)∈names:=by
 have a:∀k,(names.map λ(n,k)=>if(k==NameKind.free && env.scope.kind==.function && env.kindOf n==some .cell) then(n,NameKind.cell) else(n,k)).lookup x=some k->(k=.cell\/k=.free)->(x,NameKind.free)∈names\/(x,NameKind.cell)∈names:=λk hk hc=>by
  obtain⟨⟨n,c⟩,b,e⟩:=D_.mp (mem_of_lookup hk)
  dsimp only at e
  split at e
  ·rename_i hb
   cases e
   simp only [Bool.and_eq_true]at hb
   have:c=.free:=by simpa using hb.1.1
   subst this
   exact .inl b
  ·cases e
   rcases hc with rfl | rfl
   ·exact .inr b
   ·exact .inl b
 exact h.elim (λz=>a _ z (.inl rfl)) λz=>a _ z (.inr rfl)
theorem cf_dich:∀{names:List (Str×jT)} {n:Nat} {acc:List (Str×jH)} {x:Str} {c:jH},(cellsFrom n names acc).lookup x=some c->(n<=c/\(x,NameKind.cell)∈names)\/acc.lookup x=some c
 | [],_,_,_,_,h=>.inr h
 | (d,k) :: r,n,acc,x,c,h=>by
  unfold cellsFrom at h
  split at h
  ·rename_i hk
   have hk:k=.cell:=by simpa using hk
   rcases cf_dich h with⟨a,b⟩ | z
   ·exact .inl ⟨fU a,.tail _ b⟩
   ·rw [aZ]at z
    cases e:x==d with
    | true =>
     rw [e]at z
     cases z
     rw [beq_iff_eq.mp e,hk]
     exact .inl ⟨I_ _,.head _⟩
    | false=>rw [e]at z;exact .inr z
  ·rcases cf_dich h with⟨a,b⟩ | z
   ·exact .inl ⟨a,.tail _ b⟩
   ·exact .inr z
theorem Fn:∀{names:List (Str×jT)} {n:Nat} {acc:List (Str×jH)} {x:Str},(∃c,acc.lookup x=some c)->∃c,(cellsFrom n names acc).lookup x=some c
 | [],_,_,_,h=>h
 | (a,k) :: r,n,acc,x,⟨c,h⟩=>by
  unfold cellsFrom
  split
  ·refine Fn ?_
   rw [aZ]
   cases x==a with
   | true=>exact⟨_,rfl⟩
   | false=>exact⟨c,h⟩
  ·exact Fn ⟨c,h⟩
theorem Qr:∀{names:List (Str×jT)} {n:Nat} {acc:List (Str×jH)} {x:Str},(x,NameKind.cell)∈names->∃c,(cellsFrom n names acc).lookup x=some c
 | (a,k) :: r,n,acc,x,h=>by
  unfold cellsFrom
  rcases YV.mp h with e | e
  ·cases e
   rw [S_ (show(NameKind.cell==NameKind.cell)=true from rfl)]
   refine Fn ?_
   rw [aZ,iO]
   exact⟨_,rfl⟩
  ·split
   ·exact Qr e
   ·exact Qr e
theorem Qs:∀{names:List (Str×jT)} {n:Nat} {acc:List (Str×jH)},(∀x y c,acc.lookup x=some c->acc.lookup y=some c->x=y)->(∀x c,acc.lookup x=some c->c < n)->∀x y c,(cellsFrom n names acc).lookup x=some c->(cellsFrom n names acc).lookup y=some c->x=y
 | [],_,_,h,_,x,y,c,f,d=>h x y c f d
 | (g,k) :: r,n,acc,h,i,x,y,c,f,d=>by
  unfold cellsFrom at f d
  split at f
  ·rename_i hk
   rw [S_ hk]at d
   refine Qs (acc:=(g,n) :: acc) (λx y c f d=>?_) (λx c e=>?_) x y c f d
   ·rw [aZ]at f d
    cases a:x==g <;> cases b:y==g <;> rw [a]at f <;> rw [b]at d
    ·exact h x y c f d
    ·cases d;exact absurd (i _ _ f) (bG _)
    ·cases f;exact absurd (i _ _ d) (bG _)
    ·rw [beq_iff_eq.mp a,beq_iff_eq.mp b]
   ·rw [aZ]at e
    cases a:x==g <;> rw [a]at e
    ·exact bV (i x c e)
    ·cases e;exact cB _
  ·rename_i hk
   rw [M_ hk]at d
   exact Qs h i x y c f d
theorem M6:∀{names:List (Str×jT)} {h:jN} {acc:List (Str×jH)},(∀x c,acc.lookup x=some c->∃v,h.IsCell c v)->∀x c,(cellsFrom h.objs.size names acc).lookup x=some c->∃v,(pushCells h names).IsCell c v
 | [],_,_,hc,x,c,e=>hc x c e
 | (f,k) :: r,h,acc,hc,x,c,e=>by
  unfold cellsFrom at e
  unfold pushCells
  split at e
  ·rename_i hk
   rw [S_ hk]
   have g:(cellsFrom (h.push { cls:=.type "cell",data:=.cell none }).objs.size r ((f,h.objs.size) :: acc)).lookup x=some c:=by rw [bT];exact e
   refine M6 (λy d z=>?_) x c g
   rw [aZ]at z
   cases a:y==f <;> rw [a]at z
   ·obtain⟨v,q⟩:=hc y d z
    exact⟨v,q.keeps λb o e=>DD _ e⟩
   ·cases z;exact⟨none,_,K_ _ rfl,rfl⟩
  ·rename_i hk
   rw [M_ hk]
   exact M6 hc x c e
def M7(names:List (Str×jT))(x:Str):Bool:=match names.lookup x with
 | some .cell=>true
 | _=>false
theorem Qt:∀{names:List (Str×jT)} {n m:Nat} {acc:List (Str×jH)} {x:Str} {c:jH},m<=n->(cellsFrom n names acc).lookup x=some c->((x,NameKind.cell)∈names\/∀b,acc.lookup x=some b->m<=b)->m<=c
 | [],_,_,_,_,_,_,h,z=>z.elim (λz=>nomatch z) λz=>z _ h
 | (f,k) :: r,n,m,acc,x,c,d,h,z=>by
  unfold cellsFrom at h
  split at h
  ·refine Qt (ZP d) h ?_
   cases a:x==f with
   | true =>
    refine .inr λb e=>?_
    rw [aZ,a]at e
    cases e;exact d
   | false =>
    rcases z with z | z
    ·rcases YV.mp z with e | e
     ·cases e;rw [iO]at a;cases a
     ·exact .inl e
    ·refine .inr λb e=>?_
     rw [aZ,a]at e
     exact z b e
  ·rename_i hk
   refine Qt d h (z.imp_left λz=>?_)
   rcases YV.mp z with e | e
   ·cases e;exact absurd rfl hk
   ·exact e
theorem Qu{names:List (Str×jT)}{x:Str}(h:M7 names x=true):(x,NameKind.cell)∈names:=by
 unfold M7 at h
 split at h
 ·rename_i e;exact mem_of_lookup e
 ·cases h
theorem M8{M:Model}{A:jM}{E:i_->jA->Prop}{s:jA}{a:jS}{globals:jH}{cl:List (Str×jH)}{b:Str}{outer:Env}{Q:Env->jA->Prop}
  (f:Q (newEnv a s.heap.objs.size globals (cellsFrom (s.heap.objs.size+1) a.names cl) b none .none (some outer) builtinsNs) { s with heap:=pushCells (s.heap.push { cls:=.type "dict",data:=.dict #[] }) a.names }) :
  wpAny M A (newFunctionEnv a globals cl [] b none .none (some outer)) Q E s:=by
 simp only [newFunctionEnv,Option.isSome_some,if_true]
 refine A_ (wpAny_alloc ?_)
 refine A_ (wpAny_layCells _ (λe c d=>by cases hkc:c==NameKind.cell <;> simp [hkc]) _ _ _ _ ?_)
 rw [show({ s with heap:=s.heap.push { cls:=.type "dict",data:=.dict #[] } }:jA).heap.objs.size=s.heap.objs.size+1 from bT ..]
 exact A_ (by rw [List.forIn_nil];exact C_ (C_ f))
def Bj(X:Cx)(N':List Str)(a:jS)(C:jH)(s:jA)(H:Hp)(fp:List jH):Cx :=
 { X with N:=N',s₀:=s,H₀:=H,env:=compEnvC a (cellsFrom (C+1) a.names (Em X.env.cells a.names [])) C X.env,outer:=X.stack,stack:=X.stack,ex:=fp,fn:=M7 a.names,pn:=[],xe:=λ_ _=>False }
section
variable {X:Cx}{N':List Str}{mp:List (Option Nat)}{dq tg iter:jL}{cy:List jL}{scope:jS}{pos:Pos}{wi:TI}{g:TG}{tst:TT}{te:TE}
theorem Inv.comp0C{J:List (jH×jO)}{σ:St}{H:Hp}{s:jA}{fp:List jH}{tn:jN->Prop}{h₁:jN}{tk:Nat}{C:jH}(ok:CompOkC X.N X.env.scope.names scope.names N' mp)(hk:scope.kind=.function)
  (I:Inv X J σ H s) (D:∀b∈fp,Ip X J H b) (wk:∀b∈fp,∃o,s.heap.get? b=some o) (Z:C=s.heap.objs.size+1)
  (gp:∃m,h₁.Ns C m) (a:∀b o,s.heap.get? b=some o->h₁.get? b=some o) (Y:∃n,h₁.get? s.heap.objs.size=some { cls:=.type "list",data:=.seq #[] n }) (i5:∀x c,(cellsFrom (C+1) scope.names (Em X.env.cells scope.names [])).lookup x=some c->∃v,h₁.IsCell c v) :
  Inv (Bj X N' scope C s H fp) [] (Nx mp σ) (upd H s.heap.objs.size (.lst [])) { s with heap:=h₁,toks:=tk }:=by
 subst Z
 have L:∀x∈scope.names,x.2=.free->∃c,X.env.cells.lookup x.1=some c:=λx hx e=>I.ok.has x.1 (ok.free x hx e)
 have sub:∀x c,(Em X.env.cells scope.names []).lookup x=some c->X.env.cells.lookup x=some c:=Go L (λx c e=>by simp at e)
 have A:∀x c,(cellsFrom (s.heap.objs.size+1+1) scope.names (Em X.env.cells scope.names [])).lookup x=some c->(s.heap.objs.size+1+1<=c/\(x,NameKind.cell)∈scope.names)\/X.env.cells.lookup x=some c:=λx c e=>(cf_dich e).imp_right λz=>sub x c z
 have E:∀b∈fp,b < s.heap.objs.size:=λb hb=>let⟨_,e⟩:=wk b hb;O_ e
 have t:H (s.heap.objs.size+1)=none:=I.hok.fresh (dC _)
 have R:H s.heap.objs.size=none:=I.hok.fresh (I_ _)
 have M:∀b∈fp,b∉frs X.stack:=λb hb z=>by
  obtain⟨_,S,f2,_⟩:=D b hb
  rcases YV.mp (I.stkSub b z) with e | e
  ·exact S e
  ·exact f2 e
 refine⟨⟨I.ok.mod,hk,I.ok.glob,I.ok.blt,dC _,Qs (λx y c w B=>I.ok.inj x y c (sub x c w) (sub y c B)) (λx c e=>let⟨_,z⟩:=I.cell x c (sub x c e);bV (bV z.lt)),λx e=>?_,λx c lm e=>Q_ (ZP (dC _)) (Qt (I_ _) e (.inl (Qu lm))),I.ok.hd,I.ok.frames,.inl rfl,λb hb=>⟨?_,λx c e=>?_⟩,I.bs,Q_ I.ok.bsz I.sz,λb o e hb=>?_,M,I.stack,I.stkFree⟩,
  rfl,I.bare,Un.laid a (I_ _) R,?_,λx c e=>?_,?_,λx c e=>?_,λp hp=>(nomatch hp),I.hok.laid a (I_ _) ?_,?_⟩
 ·rcases relabel_back2 e with z | z
  ·exact Fn (Gp z)
  ·exact Qr z
 ·exact W_ (bV (E b hb))
 ·rcases A x c e with⟨z,_⟩ | z
  ·exact λq=>absurd (q ▸ E b hb) (iS (Q_ (ZP (dC _)) z))
  ·exact(D b hb).2.2.2.2.1 x c z
 ·rcases(D b hb).2.2.2.1 with z | z
  ·exact I.ok.noex b o e z
  ·exact absurd (X_ (O_ e) (Q_ I.ok.bsz z)) (bG _)
 ·obtain⟨m,V⟩:=gp
  refine⟨m,V,λi x v w B e3=>?_⟩
  have d:(Nx mp σ)[i]?=some (some v):=B
  unfold Nx at d
  rw [H_]at d
  cases hmp:mp[i]? with
  | none=>rw [hmp]at d;cases d
  | some o =>
   rw [hmp]at d
   cases o with
   | none=>cases d
   | some j =>
    have e4:σ[j]?=some (some v):=by
     have q:(σ[j]?).join=some v:=ZL d
     cases hj:σ[j]? with
     | none=>rw [hj]at q;cases q
     | some y=>rw [hj]at q;exact bB some q
    obtain⟨P,a2,W,G⟩:=ok.map i j x hmp w
    obtain⟨m0,O,T⟩:=I.loc
    obtain⟨u,r,l⟩:=T j x v P e4 (a2.elim (λz=>.inr (.inl z)) λz=>.inr (.inr z))
    refine⟨u,r,.inr ⟨?_,?_⟩⟩
    ·exact Mi G
    ·rcases l with⟨k,_⟩ | ⟨_,c,Q,U⟩
     ·have k:X.env.scope.names.lookup x=some .local:=k
      rcases a2 with a2 | a2 <;> rw [a2]at k <;> cases k
     ·obtain⟨f,F⟩:∃f,(cellsFrom (s.heap.objs.size+1+1) scope.names (Em X.env.cells scope.names [])).lookup x=some f:=Fn (Gp W)
      have:f=c:=by
       rcases A x f F with⟨_,z⟩ | z
       ·have:=ok.ownc _ z rfl
        rw [G]at this;cases this
       ·exact ZL (z.symm.trans Q)
      subst this
      exact⟨f,F,U.keeps a⟩
 ·exact i5 x c e
 ·show upd H s.heap.objs.size (.lst []) (s.heap.objs.size+1)=none
  rw [Au (Nat.succ_ne_self _)];exact t
 ·show upd H s.heap.objs.size (.lst []) c=none
  rcases A x c e with⟨z,_⟩ | z
  ·rw [Au (fL (X_ (bV (cB _)) z))]
   exact I.hok.fresh (Q_ (ZP (dC _)) z)
  ·obtain⟨v,y⟩:=I.cell x c z
   rw [Au (W_ y.lt)];exact I.freeC x c z
 ·obtain⟨n,e⟩:=Y
  exact⟨YZ _,[],n,.nil,e⟩
 ·show(Nx mp σ).length=N'.length
  unfold Nx
  rw [B_,ok.len]
theorem Lz{U:List (jH×jO)}{σ:St}{H:Hp}{s:jA}{Z:jH}{fp:List jH}{tn:Nat->jN->Prop}{J:It}{Q:jH->Hp->Prop}{E:i_->jA->Prop}{RR:i_->jH->jU->jA->Prop}
  (ok:CompOkC X.N X.env.scope.names scope.names N' mp) (hk:scope.kind=.function) (hc:X.calm=true) (I:Inv X U σ H s) (T:Turn X.prog X.w X.K tg J fp Z tn) (st:tn 0 s.heap) (hf:∀b∈fp,Ip X U H b)
  (hg:∀C s H fp,PG (Bj X N' scope C s H fp) tg g) (ht:∀C s H fp,PIfs (Bj X N' scope C s H fp) cy tst) (he:∀C s H fp,PE (Bj X N' scope C s H fp) dq te)
  (h:∀p,H p=none->Wd p J g tst te (Q p) (Nx mp σ) (upd H p (.lst [])))
  (hRR:∀C D H',Inv X U σ H' D->(∃m,D.heap.Ns C m)->H' C=none->X.s₀.heap.objs.size<=C->C≠X.env.locals->(∀x c,X.env.cells.lookup x=some c->c≠C)->(∀q∈X.pn++U,q.1≠C)->Q s.heap.objs.size H'->RR (.ref s.heap.objs.size) C (.ok .next) D) :
  wpAny (model X.prog X.w) X.A (newList []) (λa s₃=>wpAny (model X.prog X.w) X.A (newFunctionEnv scope X.env.globals (Em X.env.cells scope.names []) [] X.env.qual none .none (some X.env)) (λpj s₄ =>
   codeAny (model X.prog X.w) X.A (.compStart (.ListComp dq [⟨tg,iter,cy,0⟩] scope pos) 0 (.ref Z) a { pj with scope:=relabel scope X.env }) (RR a pj.locals) s₄) E s₃) E s:=by
 refine YR (M8 ?_)
 dsimp only
 generalize P:s.heap.push { cls:=.type "list",dict:=none,data:=.seq ([]:List i_).toArray }=H2
 have hC:H2.objs.size=s.heap.objs.size+1:=by rw [<- P,bT]
 have nz:∀b o,H2.get? b=some o->(pushCells (H2.push { cls:=.type "dict",data:=.dict #[] }) scope.names).get? b=some o:=λb o e=>pushCells_keeps _ _ b o (DD _ e)
 have f:∀b o,s.heap.get? b=some o->(pushCells (H2.push { cls:=.type "dict",data:=.dict #[] }) scope.names).get? b=some o:=λb o e=>nz b o (P ▸ DD _ e)
 have fk:∃n,(pushCells (H2.push { cls:=.type "dict",data:=.dict #[] }) scope.names).get? s.heap.objs.size=some { cls:=.type "list",data:=.seq #[] n } :=
  ⟨_,nz _ _ (P ▸ K_ _ rfl)⟩
 have gp₁:(pushCells (H2.push { cls:=.type "dict",data:=.dict #[] }) scope.names).Ns H2.objs.size λ_=>none:=(Heap.Ns.new H2 (.type "dict")).keeps (pushCells_keeps _ _)
 have zcm:∀x∈scope.names,x.2=.free->∃c,X.env.cells.lookup x.1=some c:=λx hx e=>I.ok.has x.1 (ok.free x hx e)
 have i5:∀x c,(cellsFrom (H2.objs.size+1) scope.names (Em X.env.cells scope.names [])).lookup x=some c->∃v,(pushCells (H2.push { cls:=.type "dict",data:=.dict #[] }) scope.names).IsCell c v:=λx c e=>by
  refine M6 (h:=H2.push { cls:=.type "dict",data:=.dict #[] }) (λy d z=>?_) x c (by rw [bT];exact e)
  obtain⟨v,q⟩:=I.cell y d (Go zcm (λx c e=>by simp at e) y d z)
  exact⟨v,q.keeps λb o e=>DD _ (P ▸ DD _ e)⟩
 generalize pushCells (H2.push { cls:=.type "dict",data:=.dict #[] }) scope.names=h₁ at f fk gp₁ i5
 have wk:∀b∈fp,∃o,s.heap.get? b=some o:=λb hb=>let⟨o,e,_⟩:=T.obj _ _ st b hb;⟨o,e⟩
 have M:s.heap.objs.size<=H2.objs.size:=by rw [hC];exact dC _
 have O:=I.comp0C (tn:=tn 0) (C:=H2.objs.size) (tk:=s.toks) ok hk hf wk hC ⟨_,gp₁⟩ f fk i5
 have u4:tn 0 h₁:=T.keep _ _ _ st λb hb o e=>f b o e
 obtain⟨W,⟨m0,w0⟩,gh⟩:=h _ (I.hok.fresh (I_ _))
 have mz:∀b∈fp,b∉frs X.stack:=O.ok.exfs
 have gg:∀{H':Hp},(∀b∈fp,H' b=none)->∀b∈fp,Ip (Bj X N' scope H2.objs.size s H fp) [] H' b:=λhn b hb =>
  ⟨hn b hb,(O.ok.exf b hb).1,mz b hb,.inl hb,(O.ok.exf b hb).2,λq hq=>(nomatch hq)⟩
 have j:∀s₃:jA,s₃={ s with heap:=h₁ } ->
   codeAny (model X.prog X.w) X.A (.compLoop (.ListComp dq [⟨tg,iter,cy,0⟩] scope pos) 0 (.ref Z) (.ref s.heap.objs.size) (compEnvC scope (cellsFrom (H2.objs.size+1) scope.names (Em X.env.cells scope.names [])) H2.objs.size X.env)) (RR (.ref s.heap.objs.size) H2.objs.size) s₃:=by
  rintro s₃ rfl
  refine Nw (λn D=>∃i a σ' H',Inv (Bj X N' scope H2.objs.size s H fp) [] σ' H' D/\tn i D.heap/\(∀b∈fp,H' b=none)/\W i n a σ' H') ?_ m0
   ⟨0,[],_,_,O,u4,λb hb=>by rw [Au (W_ (let⟨_,e⟩:=wk b hb;O_ e))];exact(hf b hb).1,w0⟩
  rintro n s3 ⟨i,a,σ3,Y,I3,G,L,w3⟩
  rcases gh i n a σ3 Y w3 with⟨stop,qn⟩ | ⟨go,N,hN,step⟩
  ·refine thn (T.done (Bj X N' scope H2.objs.size s H fp) rfl rfl rfl hc i [] s3 σ3 Y _ I3 (gg L) G stop) λr s4 ⟨hr,t⟩=>?_
   subst hr
   refine hRR _ s4 Y ?_ (let⟨m,hm,_⟩:=t.loc;⟨m,hm⟩) t.free (Q_ I.sz M) (fL (X_ I.lt M)) (λx c e=>?_) (λq hq=>?_) qn
   ·exact I.call' t.os t.base t.hok t.bare λb hb=>let⟨_,f1,_,f3,f4,f5⟩:=hf b hb;⟨f3,f1,f4,f5⟩
   ·obtain⟨v,z⟩:=I.cell x c e
    exact W_ (X_ z.lt M)
   ·exact W_ (X_ (O_ (I.pin q hq).1) M)
  ·refine thn (T.item (Bj X N' scope H2.objs.size s H fp) rfl rfl rfl hc i [] s3 σ3 Y _ I3 (gg L) G go) λr s4 ⟨u,hr,h4⟩=>?_
   subst hr
   refine thn h4 λ_ s5 qh=>?_
   obtain⟨x,H5,I5,r5,y5,k,fr5⟩:=qh
   have I5':=I5.pinned (gg fr5) (T.obj _ _ k)
   refine thn (hg _ _ _ _ _ s5 σ3 H5 x u _ I5' r5 (step x H5 y5)) λ_ s6 ve=>?_
   obtain⟨σ6,H6,I6,q6⟩:=ve
   refine thn (ht _ _ _ _ _ s6 σ6 H6 _ I6 q6) λb s7 ⟨H7,I7,S⟩=>?_
   have again:∀{σ8:St} {l:Hp} {lx:List V} {B:jA},Inv (Bj X N' scope H2.objs.size s H fp) ([]++Jb fp s5.heap) σ8 l B->(∃R,R < n/\W (i+1) R lx σ8 l) ->
     ∃m,m < n/\∃i a σ' H',Inv (Bj X N' scope H2.objs.size s H fp) [] σ' H' B/\tn i B.heap/\(∀b∈fp,H' b=none)/\W i m a σ' H':=λ{σ8 l lx B} F hw=>by
    obtain⟨R,hm,w8⟩:=hw
    refine⟨R,hm,i+1,lx,σ8,l,F.unpinned,T.keep _ _ _ k λb hb o e=>(F.pin (b,o) (YO _ (YO _ (Ez hb e)))).1,λb hb=>?_,w8⟩
    obtain⟨o,e,d⟩:=T.obj _ _ k b hb
    exact(F.pin (b,o) (YO _ (YO _ (Ez hb e)))).2.1
   cases b with
   | false =>
    rw [M_ R_]
    rw [M_ R_]at S
    exact again I7 (hN _ _ _ S)
   | true =>
    rw [S_ rfl]
    rw [S_ rfl]at S
    refine thn (he _ _ _ _ _ s7 σ6 H7 _ I7 S) λy B u9=>?_
    obtain⟨v,l,F,r8,ac,e8,z8,w8⟩:=u9
    refine thn (K9 (X:=Bj X N' scope H2.objs.size s H fp) _ B σ6 l (.ref s.heap.objs.size) [v] (.ref s.heap.objs.size) [y] (λ_ H9=>H9=upd l s.heap.objs.size (.lst (ac++[v]))) F rfl (.cons r8 .nil) ⟨_,ac,v,rfl,rfl,e8,z8,rfl⟩) λ_ s9 qq=>?_
    obtain⟨_,H9,I9,_,e9⟩:=qq
    subst e9
    exact again I9 (hN _ _ _ w8)
 exact codeAny_compStart_list (j _ rfl) (T.self _ 0 _ _ _ u4 (j _ rfl))
theorem Ot(hc:X.calm=true)(l:PI X tg iter wi)(f:∀C s H a,PG (Bj X N' scope C s H a) tg g)(r:∀C s H a,PIfs (Bj X N' scope C s H a) cy tst)(he:∀C s H a,PE (Bj X N' scope C s H a) dq te)
  (ok:CompOkC X.N X.env.scope.names scope.names N' mp) (hk:scope.kind=.function:=by rfl) (hs:∀x,foldedSetIterable iter X.env x=pure x:=by intro _;rfl) :
  PE X (.ListComp dq [⟨tg,iter,cy,0⟩] scope pos) (We mp wi g tst te):=by
 intro d s σ H Q I h
 rw [eval_ListComp]
 refine wpAny_comprehension_free (use:=none) rfl hs (Gc λx hx e=>I.ok.has x.1 (ok.free x hx e)) hk ok.loc (thn (l d s σ H _ I h) λv R h1=>thn h1 λO y h2=>?_)
 obtain⟨G,a,S,J,P,e,k,T,n,z,F⟩:=h2
 subst e
 refine Lz (Q:=λp b=>Q (.ref p) b) (RR:=λc C=>compPost (model X.prog X.w) X.A X.xe none (EP X d σ Q) c C) ok hk hc k T n z f r he F ?_
 intro C M b D t B h1 i j E q
 obtain⟨m,o⟩:=t
 exact⟨m,o,λL u=>⟨.ref y.heap.objs.size,b,D.letgo B h1 i j E u,rfl,q⟩⟩
theorem Yb{i:Nat}{y:Str}{c z:Pos}(hc:X.calm=true)(F:X.N.Nodup)(E:X.N[i]?=some y)(hy:X.env.scope.names.lookup y=some .local)
  (M:PI X tg iter wi) (G:∀C s H b,PG (Bj X N' scope C s H b) tg g) (S:∀C s H b,PIfs (Bj X N' scope C s H b) cy tst) (he:∀C s H b,PE (Bj X N' scope C s H b) dq te)
  (ok:CompOkC X.N X.env.scope.names scope.names N' mp) (f:swapsWith (.ListComp dq [⟨tg,iter,cy,0⟩] scope pos) (some (.Name y c)) z.line X.env=pure true:=by rfl)
  (hk:scope.kind=.function:=by rfl) (hs:∀x,foldedSetIterable iter X.env x=pure x:=by intro _;rfl) :
  PS X (.Assign [.Name y c] (.ListComp dq [⟨tg,iter,cy,0⟩] scope pos) z) (AD (We mp wi g tst te) (Vs i)):=by
 intro o s σ H D I h
 rw [exec_Assign_Name_used _ _ _ _ f]
 refine A_ (iJ (A_ ?_))
 show wpAny _ _ (do let _ <- comprehension (.ListComp dq [⟨tg,iter,cy,0⟩] scope pos) scope X.env _ (newList []) false (eval iter X.env) (some (assign (.Name y c) X.env))) _ _ s
 refine A_ (aP (wpAny_comprehension_free (use:=some (assign (.Name y c) X.env)) (Q:=λ_ d=>SP X o D .next d) rfl hs (Gc λx hx e=>I.ok.has x.1 (ok.free x hx e)) hk ok.loc
  (thn (M o s σ H _ I h) λv s1 h1=>thn h1 λv5 B h2=>?_)) (λ_ d hq=>C_ (C_ hq)) λ_ _ e=>e)
 obtain⟨it,b,tn,J,H2,e,L,T,O,W,hw⟩:=h2
 subst e
 refine Lz (Q:=λp j=>D.nx (σ.set i (some (.ref p))) j) (RR:=λr C=>compPost (model X.prog X.w) X.A X.xe (some (assign (.Name y c) X.env)) (λ_ d=>SP X o D .next d) r C) ok hk hc L T O W G S he hw ?_
 intro C d j I' U Y h1 t u Z q
 obtain⟨m,P⟩:=U
 show wpAny _ _ (assign (.Name y c) X.env (.ref B.heap.objs.size)) _ _ d
 refine wpAny_assign_Name (K0 I' F E (.inl hy) (v:=.ref B.heap.objs.size) rfl (λvw n R=>?_) (.inr hy))
 obtain⟨a,l,ha⟩:=R
 have k:C≠a:=by
  rcases ha with rfl | ha
  ·exact t
  ·exact(u _ _ ha).symm
 refine⟨m,P.sameBut l k,λh' V=>?_⟩
 exact⟨_,j,n.letgo Y h1 t u Z V,q⟩
theorem Bt{wi:AI}{g:AG}{tst:AT}{te:AE}(hc:X.calm=true)(c:VI X tg iter wi)(b:∀C s H a,VG (Bj X N' scope C s H a) tg g)(d:∀C s H a,VIfs (Bj X N' scope C s H a) cy tst)(he:∀C s H a,VE (Bj X N' scope C s H a) dq te)
  (ok:CompOkC X.N X.env.scope.names scope.names N' mp) (hk:scope.kind=.function:=by rfl) (hs:∀x,foldedSetIterable iter X.env x=pure x:=by intro _;rfl) :
  VE X (.ListComp dq [⟨tg,iter,cy,0⟩] scope pos) (N4 mp wi g tst te):=(Ot (g:=cG X.K g) (tst:=cT X.K tst) (te:=cE X.K te) hc c (λC s H a=>b C s H a) (λC s H a=>d C s H a) (λC s H a=>he C s H a) ok hk hs).imp λ_ _ _ h=>Lj h
theorem C7{wi:AI}{g:AG}{tst:AT}{te:AE}{i:Nat}{y:Str}{d c:Pos}(hc:X.calm=true)(f:X.N.Nodup)(e:X.N[i]?=some y)(hy:X.env.scope.names.lookup y=some .local)
  (k:VI X tg iter wi) (j:∀C s H a,VG (Bj X N' scope C s H a) tg g) (l:∀C s H a,VIfs (Bj X N' scope C s H a) cy tst) (he:∀C s H a,VE (Bj X N' scope C s H a) dq te)
  (ok:CompOkC X.N X.env.scope.names scope.names N' mp) (b:swapsWith (.ListComp dq [⟨tg,iter,cy,0⟩] scope pos) (some (.Name y d)) c.line X.env=pure true:=by rfl)
  (hk:scope.kind=.function:=by rfl) (hs:∀x,foldedSetIterable iter X.env x=pure x:=by intro _;rfl) :
  VS X (.Assign [.Name y d] (.ListComp dq [⟨tg,iter,cy,0⟩] scope pos) c) (Uh (N4 mp wi g tst te) (Dh i)):=(Yb (g:=cG X.K g) (tst:=cT X.K tst) (te:=cE X.K te) hc f e hy k (λC s H a=>j C s H a) (λC s H a=>l C s H a) (λC s H a=>he C s H a) ok b hk hs).imp λD σ H zz66=>Im zz66 fun τ μ nk nr nb nc hs hc h hq =>
 Lj (K:=X.K) ⟨τ,μ,_,hs,hc,h,λx μ1 v H1 S1 c1 rx hx=>hq.nx _ _ _ _ S1 ((hs.kp S1).set rx i) c1 hx⟩
end
end L2
namespace L2
open PySem PySem.Spec PySem.Calls PyProof.Rows
abbrev RIt(h:jN)(it d:jH)(i n ep:Nat)(z:i_)(f:Bool)(ok ov:i_):Prop :=
 h.get? it=some { cls:=.type "dict_itemiterator",dict:=none,data:=.fields #[z,.bool f,.ref d,.int i 0,.int n 0,.int ep 0,ok,ov],slots:=#[] }
section
variable {prog:jJ}{w:jK}{A:jM}{E:i_->jA->Prop}{s:jA}{d it v:jH}{es:Array DictEntry}{ep i:Nat}{z ok ov:i_}{f:Bool}{R:jU->jA->Prop}{X:Cx}{k:Nat}{aa:List (jH×jO)}{σ:St}{H:Hp}{o:jL}{aq am mi pos:Pos}{tg:jL}{K:jI}{a:jH}{od:jO}{ws:List (List Key×V)}{N':List Str}{mp:List (Option Nat)}{dq:jL}{cy:List jL}{scope:jS}{I S:jH}{fp wr:List jH}{n:Nat}{P:Nat->i_->Prop}{St:Nat->jN->Prop}{h0:jN}
theorem U0(c:(d==sysModules)=false):MeetsIn prog w (Builtin.«dict.items» ⟨[.ref d],[]⟩) (λ_ R s=>(∃es ep,Ei s.heap d es ep)/\R (.ok (.ret (.ref s.heap.objs.size))) { s with heap:=s.heap.push { cls:=.type "dict_items",data:=.fields #[.ref d] } }) :=
 .of_wp λA R s ⟨⟨_,_,b⟩,h⟩=>by
  unfold Builtin.«dict.items» Builtin.Dict.noArgs
  refine A_ (A_ (eT b.ty (show wpAny _ _ (pure d) _ _ s from C_ ?_)))
  show wpAny _ _ (Builtin.Dict.showsAll d >>= _) _ _ s
  unfold Builtin.Dict.showsAll
  rw [c,M_ R_]
  exact A_ (C_ (A_ (YR (C_ ⟨_,rfl,h⟩))))
theorem U1{Q:i_->jA->Prop}(hv:s.heap.IsItemsView v d)(c:Ei s.heap d es ep)
  (q:Q (.ref s.heap.objs.size) { s with heap:=s.heap.push { cls:=.type "dict_itemiterator",data:=.fields #[.none,.bool false,.ref d,.int 0 0,.int es.size 0,.int ep 0,.none,.none] } }):wpAny (model prog w) A (pyIter (.ref v)) Q E s:=by
 obtain⟨h,e,_,g⟩:=id hv
 obtain⟨o,h1,_,b⟩:=id c
 refine cP hv.typeIs F.slot_dict_items_iter (ZI F.slot_dict_items_iter hv.typeIs F.entry_dict_items_iter ?_ (F.args_dict_items_iter_1 _))
 unfold Builtin.«dict_items.__iter__» Builtin.Dict_items.dictOf Builtin.Dict_items.newIterator
 refine A_ (C_ (A_ (A_ (bF e g (x:=.ref d) rfl (C_ (A_ (A_ (bA h1 b (A_ (cX h1 b ?_))))))))))
 simp only [show Builtin.Dict_items.ownsTuple "dict_itemiterator" = true by decide,if_true]
 refine YR (C_ ⟨_,rfl,"dict_itemiterator",_,⟨_,K_ _ rfl,rfl⟩,F.slot_dict_itemiterator_next.lookup,?_⟩)
  (by simp only [sizeOk,Builtin.Dict_items.ownedTupleFields,List.size_toArray,List.length_append,List.length_cons,List.length_nil,sizeLine_eq];exact Nat.le_add_left _ _)
 simpa [rawInt,Builtin.Dict_items.ownedTupleFields] using q
theorem U3{Q:Option i_->jA->Prop}(M:RIt s.heap it d i es.size ep z f ok ov)(hz:(z=.none/\f=false)\/∃(a:jH) (oa:jO),z=rawInt a/\s.heap.get? a=some oa/\a≠it)(hm:Ei s.heap d es ep)(hi:i < es.size)
  (hQ:∀D m t L C,RIt D it d (i+1) es.size ep m t L C->((z=.none/\m=rawInt s.heap.objs.size/\t=false)\/∃a:jH,z=rawInt a/\m=rawInt a)->D.get? s.heap.objs.size=some { cls:=.type "tuple",data:=.seq #[es[i].key,es[i].val] }->D.objs.size=s.heap.objs.size+1 ->
   (∀b o,b≠it->s.heap.get? b=some o->D.get? b=some o)->Q (some (.ref s.heap.objs.size)) { s with heap:=D }):wpAny (model prog w) A (pyNext (.ref it)) Q E s:=by
 obtain⟨hp,g,B,u,os⟩:=s
 obtain⟨od,h1,_,h3⟩:=id hm
 have T:Shared.TypeIs ⟨hp,g,B,u,os⟩ (.ref it) "dict_itemiterator" := ⟨_,M,rfl⟩
 unfold pyNext
 refine A_ (bO (ZR (name:=Str.ofString "__next__") T F.slot_dict_itemiterator_next (ZI F.slot_dict_itemiterator_next T F.entry_dict_itemiterator_next ?_ (F.args_dict_itemiterator_next_1 _))))
 refine A_ (C_ (A_ (A_ ?_)))
 first | refine A_ (cF T (C_ (A_ (bH M rfl ?_)))) | refine A_ (dJ T (C_ (A_ (bH M rfl ?_))))
 simp only [show Builtin.Dict_items.ownsTuple "dict_itemiterator" = true by decide,if_true]
 show wpAny (model prog w) _ (if(Value.ref d==Value.none)=true then _ else _) _ _ _
 rw [M_ (by exact R_)]
 refine A_ (C_ (A_ (bA h1 h3 ?_)))
 rw [M_ (by simp)]
 refine A_ (C_ (A_ (cX h1 h3 ?_)))
 rw [M_ (by simp)]
 refine C_ ?_
 simp only [show ¬((i:Int) < 0) by omega,if_false,Int.toNat_natCast,Array.getElem?_eq_getElem hi]
 refine A_ ?_
 first | refine A_ (cF T (C_ (A_ (eI T ?_)))) | refine A_ (dJ T (C_ (A_ (eI T ?_))))
 show wpAny (model prog w) _ (setField (.ref it) 3 (rawInt ((i:Int)+1)) >>= _) _ _ ⟨hp,g,B,u,os⟩
 refine A_ (dG M (by simp) λp G J=>?_)
 replace J:Heap.SameBut it hp p:=J
 replace G:RIt p it d (i+1) es.size ep z f ok ov:=by
  unfold RIt
  rw [show((i+1:Nat):Int)=(i:Int)+1 by omega]
  simpa [rawInt] using G
 have T1:Shared.TypeIs ⟨p,g,B,u,os⟩ (.ref it) "dict_itemiterator" := ⟨_,G,rfl⟩
 refine A_ (ZG (A_ (eI T1 (A_ (eI T1 ?_)))))
 show wpAny (model prog w) _ (Builtin.Dict_items.pairFromOwner (.ref it) 6 es[i].key es[i].val) _ _ ⟨p,g,B,u,os⟩
 unfold Builtin.Dict_items.pairFromOwner
 refine A_ (wpAny_newTuple ?_)
 have l:RIt (p.push { cls:=.type "tuple",data:=.seq #[es[i].key,es[i].val] }) it d (i+1) es.size ep z f ok ov:=DD _ G
 generalize O:p.push { cls:=.type "tuple",data:=.seq #[es[i].key,es[i].val] }=y at l
 have N:p.objs.size=hp.objs.size:=J.1
 have il:it < hp.objs.size:=O_ M
 have t2:y.get? hp.objs.size=some { cls:=.type "tuple",data:=.seq #[es[i].key,es[i].val] }:=by rw [<- O,<- N];exact K_ _ rfl
 have z2:y.objs.size=hp.objs.size+1:=by rw [<- O,bT,N]
 have kk:∀b o,b≠it->hp.get? b=some o->y.get? b=some o:=λb o hb e=>by rw [<- O];exact DD _ (J.extBut b o hb e)
 show wpAny (model prog w) _ (Builtin.Dict_items.ownedTupleIsFree (.ref it) >>= _) _ _ ⟨y,g,B,u,os⟩
 rw [N]
 clear O G J T1 N p
 have r:∀(h:jN) m t L C,RIt h it d (i+1) es.size ep m t L C->((z=.none/\m=rawInt hp.objs.size/\t=false)\/∃a:jH,z=rawInt a/\m=rawInt a)->Heap.SameBut it y h->Q (some (.ref hp.objs.size)) ⟨h,g,B,u,os⟩:=λh m t L C j c q =>
  hQ h m t L C j c (q.extBut _ _ (fL il) t2) (by show h.objs.size=_;rw [q.1,z2]) λb o hb e=>q.extBut b o hb (kk b o hb e)
 refine A_ ?_
 unfold Builtin.Dict_items.ownedTupleIsFree
 rcases hz with⟨rfl,rfl⟩ | ⟨a,oa,rfl,ha,Z⟩
 ·refine A_ (bF l rfl (x:=.none) rfl (C_ ?_))
  simp only [if_true]
  refine A_ (bF l rfl (x:=ok) rfl (A_ (bF l rfl (x:=ov) rfl ?_)))
  refine A_ (dG l (by simp) λh j q=>?_)
  replace j:RIt h it d (i+1) es.size ep .none false es[i].key ov:=j
  refine A_ (dG j (by simp) λk4 Y s4=>?_)
  replace Y:RIt k4 it d (i+1) es.size ep .none false es[i].key es[i].val:=Y
  refine A_ (dG Y (by simp) λk5 q5 s5=>?_)
  replace q5:RIt k5 it d (i+1) es.size ep (rawInt hp.objs.size) false es[i].key es[i].val:=q5
  refine A_ (dG q5 (by simp) λk6 U s6=>?_)
  replace U:RIt k6 it d (i+1) es.size ep (rawInt hp.objs.size) false es[i].key es[i].val:=U
  exact A_ (gP (C_ (C_ ⟨_,rfl,C_ (r k6 _ _ _ _ U (.inl ⟨rfl,rfl,rfl⟩) (((Heap.SameBut.trans q s4).trans s5).trans s6))⟩)))
 ·refine A_ (bF l rfl (x:=rawInt a) rfl ?_)
  show wpAny (model prog w) _ (loadIfAlive ((a:Int).toNat) >>= _) _ _ _
  rw [bU]
  refine A_ (PySem.W.kdx_alive (kk a oa Z ha) ?_)
  simp only [Option.isNone_some,Bool.false_eq_true,if_false]
  refine A_ (bF l rfl (x:=.bool f) rfl ?_)
  cases f with
  | true =>
   rw [M_ (by exact R_)]
   refine C_ ?_
   simp only [Bool.false_eq_true,if_false]
   exact C_ (C_ ⟨_,rfl,C_ (r y _ _ _ _ l (.inr ⟨a,rfl,rfl⟩) (iH _ _))⟩)
  | false =>
   rw [S_ (by rfl)]
   refine A_ (dG l (by simp) λh j q=>C_ ?_)
   replace j:RIt h it d (i+1) es.size ep (rawInt a) true ok ov:=j
   simp only [Bool.false_eq_true,if_false]
   exact C_ (C_ ⟨_,rfl,C_ (r h _ _ _ _ j (.inr ⟨a,rfl,rfl⟩) q)⟩)
theorem Yc{Q:Option i_->jA->Prop}(h:A.handled=none)(c:RIt s.heap it d es.size es.size ep z f ok ov)(j:Ei s.heap d es ep)(q:∀g,Heap.ExtBut it s.heap g->Q none { s with heap:=g }):wpAny (model prog w) A (pyNext (.ref it)) Q E s:=by
 obtain⟨od,h1,_,e⟩:=id j
 have T:s.TypeIs (.ref it) "dict_itemiterator" := ⟨_,c,rfl⟩
 unfold pyNext
 refine A_ (bO (ZR (name:=Str.ofString "__next__") T F.slot_dict_itemiterator_next (ZI F.slot_dict_itemiterator_next T F.entry_dict_itemiterator_next ?_ (F.args_dict_itemiterator_next_1 _))))
 refine A_ (C_ (A_ (A_ ?_)))
 first | refine A_ (cF T (C_ (A_ (bH c rfl ?_)))) | refine A_ (dJ T (C_ (A_ (bH c rfl ?_))))
 simp only [show Builtin.Dict_items.ownsTuple "dict_itemiterator" = true by decide,if_true]
 show wpAny (model prog w) _ (if(Value.ref d==Value.none)=true then _ else _) _ _ s
 rw [M_ (by exact R_)]
 refine A_ (C_ (A_ (bA h1 e ?_)))
 rw [M_ (by simp)]
 refine A_ (C_ (A_ (cX h1 e ?_)))
 rw [M_ (by simp)]
 refine C_ ?_
 simp only [show ¬((es.size:Int) < 0) by omega,if_false,Int.toNat_natCast,Array.getElem?_eq_none (Nat.le_refl es.size)]
 refine A_ ?_
 first | refine A_ (cF T (C_ ?_)) | refine A_ (dJ T (C_ ?_))
 show wpAny (model prog w) _ (setField (.ref it) 2 .none >>= _) _ _ s
 refine A_ (cK c rfl (by simp) (show wpAny _ _ (newExc (.type "StopIteration") [] >>= _) _ _ _ from A_ ?_))
 simp only [newExc,newTuple]
 refine A_ (YR (A_ (m:=firstArgMember _ _) (bY (a:=Value.none) (by first | rfl | (simp only [firstArgMember];rfl)) (YR ?_ (by size_fits)))) (by size_fits))
 simp only [raiseNew]
 refine A_ (gM (?_:_));rw [show A.in1.handled=none from h];refine A_ (C_ (iE ?_))
 refine A_ (bD (T := "StopIteration") (b:=true) (by exact⟨_,K_ _ rfl,rfl⟩) fX ?_)
 exact C_ (q _ (((ZF ..).extBut.push _).push _))
theorem U4:LF X "dict.items" (λx t H Q=>∃a c,x=.ref a/\t=[]/\H a=some (.dT c)/\∀v,H v=none->Q (.ref v) (upd H v (.ext λh=>h.IsItemsView v a))):=by
 intro aa s σ H x xs v us Q I rx r h
 obtain⟨a,c,rfl,rfl,ha,q⟩:=h
 cases rx
 have p:=Vals.zero r
 subst p
 obtain⟨hz,g,y,m,o,es,ep,h1,h2,l,u,_⟩:=Nu I.hok ha
 have j:Ei s.heap a es ep:=⟨o,h1,h2,l⟩
 refine fQ PySem.F.slot_dict_items j.ty PySem.F.entry_dict_items (PySem.F.args_dict_items_1 _) (U0 g) ⟨⟨es,ep,j⟩,?_⟩
 refine⟨.ref s.heap.objs.size,_,I.laid (t':=s.toks) (o:=.ext λh=>h.IsItemsView s.heap.objs.size a) (λb B q=>DD _ q) (I_ _) ?_,rfl,q _ (I.hok.fresh (I_ _))⟩
 exact⟨⟨_,K_ _ rfl,rfl,rfl⟩,⟨_,K_ _ rfl⟩,λh1 h2 ⟨o,e,r⟩ k=>⟨o,k o e,r⟩⟩
theorem Inv.freezeT{a:jH}{od:jO}{ws:List (List Key×V)}(I:Inv X aa σ H s)(e:H a=some (.dT ws))(j:s.heap.get? a=some od):Inv X aa σ (upd H a (.frz od (.dT ws))) s:=by
 obtain⟨z,q,g,b,o,es,ep,h1,h2,l,m,p⟩:=(show Br X.prog X.w H s.heap a (.dT ws) from I.hok a _ e)
 refine Iw (h':=s.heap) (t':=s.toks) I (by rw [e];exact True.intro) (iH _ _) ⟨od,j⟩ ⟨j,z,q,g,KT.keeps (show KT H ws g from b) λc r h=>?_,o,es,ep,h1,h2,l,m,p⟩
 rw [Au (Nm h e (λz=>nomatch z))]
 exact h
def Iit(d:jH)(od:jO)(ws:List (List Key×V)):It :=
 ⟨λi H => H d = some (.frz od (.dT ws)) /\ i < ws.length,
  λi H v c => ∃ T b k y, H T = none /\ v = .ref T /\ ws[i]? = some (k, y) /\ H b = some (.tup (k.map kV)) /\ c = upd H T (.tup [.ref b, y]),
  λi H => H d = some (.frz od (.dT ws)) /\ ws.length = i⟩
theorem Ke:PySem.entryFor PySem.table "dict_itemiterator.__iter__" = some Builtin.«dict_keyiterator.__iter__»:=PySem.entryFor_alias (id' := "dict_keyiterator.__iter__") (by kernel_rfl) rfl (by decide +kernel) (by kernel_rfl)
theorem Is{prog:jJ}{w:jK}{A:jM}{E:i_->jA->Prop}{s:jA}{it d:jH}{i n ep:Nat}{ok ov:i_}{Q:i_->jA->Prop}(c:IsItemIter s.heap it d i n ep ok ov)(h:Q (.ref it) s):wpAny (model prog w) A (pyIter (.ref it)) Q E s:=by
 have b:s.TypeIs (.ref it) "dict_itemiterator" := ⟨_,c,rfl⟩
 refine cP b fD (ZI fD b Ke ?_ (PySem.F.args_dict_itemiterator_iter_1 _))
 show wpAny _ _ (ret (.ref it)) _ _ s
 exact C_ ⟨_,rfl,"dict_itemiterator",_,b,PySem.F.slot_dict_itemiterator_next.lookup,h⟩
theorem Qv{P:jJ}{w:jK}{K:jI}{cw:List jL}{k:Nat}{pos:Pos}(d it:jH)(od:jO)(ws:List (List Key×V))(es:Array DictEntry)(ep:Nat)(u:od.data=.dict es ep)(hsz:es.size=ws.length) :
  Turn P w K (.Tuple cw k pos) (Iit d od ws) [it] it (λi h=>∃ok ov,IsItemIter h it d i es.size ep ok ov) where
 mem:=by simp
 obj:=λi h st b hb=>by
  have e:b=it:=by simpa using hb
  subst e
  obtain⟨ok,ov,st⟩:=st
  exact⟨_,st,λv z=>nomatch z⟩
 keep:=λi h x st k=>let⟨ok,ov,st⟩:=st;⟨ok,ov,k it (by simp) _ st⟩
 item:=by
  intro X y m G hc i aa s σ H E I hf st hg
  subst y m G
  obtain⟨ok,ov,j⟩:=st
  obtain⟨D,Z⟩:=hg
  obtain⟨p,z,hd,c,g,o,ck,F,h1,h2,r,O,h5⟩:=(show Br X.prog X.w H s.heap d (.frz od (.dT ws)) from I.hok d _ D)
  rw [p]at h1
  cases h1
  rw [u]at r
  cases r
  have U:i < es.size:=by omega
  have hxl:=ZZ g
  have hx:c[i]?=some c[i]:=J_ (by omega)
  have m:ws[i]?=some ws[i]:=J_ Z
  obtain⟨x',T,r1,r2,r3⟩:=Dr g m
  rw [hx]at T
  cases T
  have mx:es[i]=entryOfKey (tupleKind (A8 X.prog X.w)) c[i]:=by
   have L:=bB (λl=>l[i]?) O
   simp only [Array.getElem?_toList,Array.getElem?_eq_getElem U,List.getElem?_map,hx,Option.map_some]at L
   exact ZL L
  refine U3 (z:=.none) (f:=false) j (.inl ⟨rfl,rfl⟩) ⟨od,p,h2,u⟩ U λx z' f' ny n5 gr li hT eo C=>?_
  have Y:z'=rawInt s.heap.objs.size/\f'=false:=by
   rcases li with⟨_,h⟩ | ⟨a,h,_⟩
   ·exact h
   ·cases h
  obtain⟨rfl,rfl⟩:=Y
  refine⟨_,rfl,wpAny_letOwnedTupleGo_items gr λt B W=>?_⟩
  have I1:Inv X aa σ H { s with heap:=x,toks:=s.toks }:=I.turnedL (fp:=[it]) (λb o hb e=>C b o (λq=>hb (by simp [q])) e) hf
  have I2:Inv X aa σ H { s with heap:=t,toks:=s.toks }:=I1.turnedL (s:={ s with heap:=x,toks:=s.toks }) (t':=s.toks) (fp:=[it]) (λb o hb e=>W.extBut b o (λq=>hb (by simp [q])) e) hf
  have M:Ip X aa H s.heap.objs.size:=I.fpOk (I_ _) (I.hok.fresh (I_ _))
  have J:it < s.heap.objs.size:=O_ j
  have N:t.get? s.heap.objs.size=some { cls:=.type "tuple",data:=.seq #[es[i].key,es[i].val] }:=W.extBut _ _ (fL J) hT
  rw [mx]at N
  refine⟨.ref s.heap.objs.size,upd H s.heap.objs.size (.tup [.ref c[i].2.1,ws[i].2]),I2.track M ⟨by show 2<=sizeLine;decide,[.ref c[i].2.1,c[i].2.2],.cons rfl (.cons r3 .nil),_,N,rfl,_,rfl⟩,rfl,⟨s.heap.objs.size,c[i].2.1,ws[i].1,ws[i].2,M.1,rfl,m,r2,rfl⟩,⟨_,_,B⟩,λb hb=>?_⟩
  have e:b=it:=by simpa using hb
  subst e
  rw [Au (W_ J)]
  exact(hf b hb).1
 done:=by
  intro X y m G hc i aa s σ H E I hf st hg
  subst y m G
  obtain⟨ok,ov,j⟩:=st
  obtain⟨D,rfl⟩:=hg
  obtain⟨p,z,hd,c,g,o,ck,F,h1,h2,r,O,h5⟩:=(show Br X.prog X.w H s.heap d (.frz od (.dT ws)) from I.hok d _ D)
  rw [p]at h1
  cases h1
  rw [u]at r
  cases r
  rw [<- hsz]at j
  exact Yc (I.ok.hd hc) j ⟨od,p,h2,u⟩ λx C=>⟨rfl,I.turnedL (t':=s.toks) (fp:=[it]) (λb o hb e=>C b o (λq=>hb (by simp [q])) e) hf⟩
 self:=λA i s Q E st h=>let⟨_,_,j⟩:=st;Is j h
def B7(μ:M)(a:jH):M:=λb=>if b=a then none else μ b
theorem Bc{μ:M}{a b:jH}(h:b≠a):B7 μ a b=μ b:=M_ h
def OR:V->List V->Hp->VK->Prop:=λx c H Q=>∃a b,x=.ref a/\c=[]/\H a=some (.dT b)/\∀v,H v=none->Q (.ref v) (upd H v (.ext λh=>h.IsItemsView v a))
def XS(K:jI)(td:TE):TI:=fun σ H R=>GZ K "dict" OR td σ H λv b=>∃a ws vv,v=.ref vv/\b vv=some (.ext λh=>h.IsItemsView vv a)/\b a=some (.dT ws)/\∀od,R (Iit a od ws) (upd b a (.frz od (.dT ws)))
theorem Yd{L:List jL}{N:Nat}{td:TE}(G:PE X o td)(C:attributeBase o "items" X.env (eval o X.env)=eval o X.env:=by rfl) (J:(aq.endLine==am.line)=true:=by rfl) :
  PI X (.Tuple L N mi) (.Call (.Attribute o "items" aq) [] [] am) (XS X.K td):=by
 intro aa s σ H R I h
 refine thn (Pu (T := "dict") (r:=OR) dX PySem.F.slot_dict_items PySem.F.type_dict_items U4 G C J aa s σ H _ I h) λv c O=>?_
 obtain⟨x,m,j,M,a,ws,vv,rfl,hv,ha,q⟩:=O
 cases M
 obtain⟨g,_,_⟩:=(show Br X.prog X.w m c.heap vv (.ext λh=>h.IsItemsView vv a) from j.hok vv _ hv)
 obtain⟨hz,y,Q,t,od,es,ep,h1,h2,u,B,U⟩:=(show Br X.prog X.w m c.heap a (.dT ws) from j.hok a _ ha)
 refine U1 g ⟨od,h1,h2,u⟩ ?_
 have p:es.size=ws.length:=by
  have e:=bB List.length B
  rw [B_]at e
  rw [ZZ t,<- e];simp
 have D:=j.kept (t':=c.toks) (h':=c.heap.push { cls:=.type "dict_itemiterator",data:=.fields #[.none,.bool false,.ref a,.int 0 0,.int es.size 0,.int ep 0,.none,.none] }) λb W e=>DD _ e
 have l:=j.hok.fresh (I_ c.heap.objs.size)
 have f:=j.fpOk (I_ _) l
 refine⟨c.heap.objs.size,[c.heap.objs.size],_,_,upd m a (.frz od (.dT ws)),rfl,D.freezeT ha (DD _ h1),Qv a _ od ws es ep u p,⟨.none,.none,K_ _ rfl⟩,λb hb=>?_,q od⟩
 have e:b=c.heap.objs.size:=by simpa using hb
 subst e
 exact⟨by rw [Au (λz=>by rw [z]at l;rw [ha]at l;cases l)];exact f.1,f.2⟩
def LI(g:AGs)(b:AS)(k:ASt->M->Prop)(r:AV->M->Prop):List (List Key×AV)->ASt->M->Prop
 | []=>k
 | p :: c=>fun τ μ=>g [.D (.tuple (p.1.map IR)),p.2] τ μ fun τ2 μ2=>b (LI g b k r c) r k (LI g b k r c) τ2 μ2
def OS(td:AE)(g:AGs)(c:AS):AS:=λk r _ _ τ μ=>td τ μ λx μ1=>match x with
 | .R a=>opt (μ1 a) λm=>match m with
  | .dt b=>LI g c k r b τ (B7 μ1 a)
  | _=>False
 | _=>False
theorem G6{B:List jL}{kt:Nat}{p:List jP}{td:AE}{g:AGs}{J:AS}(hp:PassesOwn (model X.prog X.w) X.A X.env X.xe)(dh:X.calm=true)(hd:VE X o td)(hg:VGs X B g)(hb:VSs X p J)
  (hn:(assignEach B X.env).length=2:=by rfl) (bf:(assignEach B X.env).findIdx? (·.1)=none:=by rfl) (Y:∀x,foldedSetIterable (.Call (.Attribute o "items" aq) [] [] am) X.env x=pure x:=by intro _;rfl)
  (be:attributeBase o "items" X.env (eval o X.env)=eval o X.env:=by rfl) (bd:(aq.endLine==am.line)=true:=by rfl) :
  VS X (.For (.Tuple B kt mi) (.Call (.Attribute o "items" aq) [] [] am) p [] pos) (OS td g J) :=
 (Vx hp dh (Yd hd be bd) (Vu dh hg hn bf) hb Y).imp λD σ H zz64=>Im zz64 fun τ μ nk nr nb nc hs hc h hq=>by
 refine⟨τ,μ,_,hs,hc,h,λx μ1 v H1 S1 c1 rx hx=>?_⟩
 split at hx
 ·rename_i a
  obtain⟨m,em,hx⟩:=A6 hx
  split at hx
  ·rename_i c
   obtain⟨ob,u,ws,rfl,rk⟩:=c1 _ _ em
   cases (show v=.ref a from rx)
   refine⟨.inr (.inr (.inl ⟨rfl,.inr ⟨ws,u⟩⟩)),a,ws,rfl,rfl,u,λvv F=>?_⟩
   have W:a≠vv:=λz=>by rw [z]at u;rw [u]at F;cases F
   have cu:upd H1 vv (.ext λh=>h.IsItemsView vv a) a=some (.dT ws):=by rw [Au W];exact u
   refine⟨a,ws,vv,rfl,Bo,cu,λod=>?_⟩
   have r:Kp H1 (upd (upd H1 vv (.ext λh=>h.IsItemsView vv a)) a (.frz od (.dT ws))):=(Kp.new F _).trans (Kp.put cu trivial _)
   have c2:Cn X.K (B7 μ1 a) (upd (upd H1 vv (.ext λh=>h.IsItemsView vv a)) a (.frz od (.dT ws))):=λb m' e=>by
    have kc:b≠a:=λz=>by rw [z]at e;unfold B7 at e;rw [S_ rfl]at e;cases e
    rw [Bc kc]at e
    obtain⟨o',e',r'⟩:=c1 b m' e
    exact⟨o',by rw [Au kc,Au (B5 e' F)];exact e',r'.kp r⟩
   have N:upd (upd H1 vv (.ext λh=>h.IsItemsView vv a)) a (.frz od (.dT ws)) a=some (.frz od (.dT ws)):=Bo
   have M:=rk.kp r
   generalize upd (upd H1 vv (.ext λh=>h.IsItemsView vv a)) a (.frz od (.dT ws))=H2 at r c2 N M
   have hl:=ZZ M
   refine Wi ws.length (λi σ1 H'=>∃ τ1 μ',Kp H2 H'/\Du X.K H' τ1 σ1/\Cn X.K μ' H'/\LI g J nk nr (c.drop i) τ1 μ') ⟨τ,_,Kp.refl,hs.kp (S1.trans r),c2,hx⟩ ?_ ?_ ?_
   ·rintro i σ1 H' hi ⟨τ1,μ',q,j,l,h1⟩
    exact⟨q.f _ _ _ N,hi⟩
   ·rintro σ1 H' ⟨τ1,μ',q,j,l,h1⟩
    rw [<- hl,cD]at h1
    exact⟨⟨q.f _ _ _ N,rfl⟩,hq.nx _ _ _ _ (S1.trans (r.trans q)) j l h1⟩
   ·rintro i v' σ1 H' H'' hi ⟨τ1,μ',q,j,l,h1⟩ ⟨T,b,k,y,hT,rfl,hw,fw,rfl⟩
    have io:i < c.length:=by omega
    rw [ZU io]at h1
    obtain⟨q',e1,r1,r2⟩:=Dr M (J_ io)
    rw [hw]at e1
    cases e1
    have C:Kp H' (upd H' T (.tup [.ref b,y])):=Kp.new hT _
    refine⟨T,[.ref b,y],rfl,Io.of Bo,rfl,[.D (.tuple (c[i].1.map IR)),c[i].2],τ1,μ',_,.cons ?_ (.cons (r2.kp (q.trans C)) .nil),j.kp C,l.over hT,h1,fun τ3 μ3 σ3 H3 S5 gu Q h3=>⟨τ3,μ3,_,_,_,_,gu,Q,h3,?_⟩⟩
    ·have U:c[i].1=k:=r1
     rw [U]
     exact Hc (C.t _ _ fw) (Qq _)
    have S:Kp H2 H3:=q.trans (C.trans S5)
    have Z:Kp H H3:=S1.trans (r.trans S)
    exact⟨fun τ' μ'' σ' H4 S' L G O=>⟨τ',μ'',S.trans S',L,G,O⟩,hq.rt.kp Z,hq.nx.kp Z,fun τ' μ'' σ' H4 S' L G O=>⟨τ',μ'',S.trans S',L,G,O⟩⟩
  ·exact hx.elim
 ·exact hx.elim
theorem Kf{g:AGs}{c:AS}{k:ASt->M->Prop}{r:AV->M->Prop}{kvs:List (List Key×AV)}{τ:ASt}{μ:M}(I:Nat->ASt->M->Prop)(h0:I 0 τ μ)
  (step:∀i p τ μ (W:ASt->M->Prop),kvs[i]?=some p->I i τ μ->(∀ τ' μ',I (i+1) τ' μ'->W τ' μ')->g [.D (.tuple (p.1.map IR)),p.2] τ μ fun τ2 μ2=>c W r k W τ2 μ2)
  (done:∀ τ μ,I kvs.length τ μ->k τ μ):LI g c k r kvs τ μ:=by
 have b:∀n i τ μ,n+i=kvs.length->I i τ μ->LI g c k r (kvs.drop i) τ μ:=by
  intro n
  induction n with
  | zero =>
   intro i τ μ hn hI
   have e:i=kvs.length:=by omega
   subst e
   rw [cD]
   exact done τ μ hI
  | succ n l =>
   intro i τ μ hn hI
   have j:i < kvs.length:=by omega
   rw [ZU j]
   exact step i _ τ μ _ (J_ j) hI fun τ' μ' h=>l (i+1) τ' μ' (by omega) h
 have:=b kvs.length 0 τ μ (by omega) h0
 rwa [fS]at this
theorem Qw(c:(d==sysModules)=false):MeetsIn prog w (Builtin.«dict.values» ⟨[.ref d],[]⟩) (λ_ R s=>(∃es ep,Ei s.heap d es ep)/\R (.ok (.ret (.ref s.heap.objs.size))) { s with heap:=s.heap.push { cls:=.type "dict_values",data:=.fields #[.ref d] } }) :=
 .of_wp λA R s ⟨⟨_,_,b⟩,h⟩=>A_ (by
  unfold Builtin.Dict.noArgs
  refine A_ (eT b.ty (show wpAny _ _ (pure d) _ _ s from C_ (show wpAny _ _ (Builtin.Dict.showsAll d >>= _) _ _ s from ?_)))
  simp only [Builtin.Dict.showsAll,c,Bool.false_eq_true,ite_false]
  exact A_ (C_ (A_ (YR (C_ ⟨_,rfl,h⟩)))))
theorem EW:Builtin.Dict_items.ownsTuple "dict_valueiterator" = false:=by decide
theorem Qx{Q:i_->jA->Prop}(hv:s.heap.IsValuesView v d)(g:Ei s.heap d es ep)
  (q:Q (.ref s.heap.objs.size) { s with heap:=s.heap.push { cls:=.type "dict_valueiterator",data:=.fields #[.ref d,.int 0 0,.int es.size 0,.int ep 0] } }):wpAny (model prog w) A (pyIter (.ref v)) Q E s:=by
 obtain⟨ov,h,_,e⟩:=id hv
 obtain⟨od,c,_,b⟩:=id g
 refine cP hv.typeIs F.slot_dict_values_iter (ZI F.slot_dict_values_iter hv.typeIs F.entry_dict_values_iter (A_ (C_ (A_ (A_ (bF h e (x:=.ref d) rfl (C_ (A_ (A_ (bA c b (A_ (cX c b ?_)))))))))))
  (F.args_dict_values_iter_1 _))
 simp only [EW,Bool.false_eq_true,if_false]
 exact YR (C_ ⟨_,rfl,_,_,⟨_,K_ _ rfl,rfl⟩,F.slot_dict_valueiterator_next.lookup,by simpa [rawInt] using q⟩)
theorem L0{Q:Option i_->jA->Prop}(x:A.handled=none)(c:s.heap.IsValIter it d i es.size ep)(C:Ei s.heap d es ep)
  (more:∀l:i < es.size,∀h,h.IsValIter it d (i+1) es.size ep->Heap.SameBut it s.heap h->Q (some es[i].val) { s with heap:=h })
  (j:es.size<=i->∀h,Heap.ExtBut it s.heap h->Q none { s with heap:=h }):wpAny (model prog w) A (pyNext (.ref it)) Q E s:=by
 obtain⟨D,q,y,p⟩:=id c
 obtain⟨od,t,_,u⟩:=id C
 unfold pyNext
 refine A_ (bO (ZR (name:=Str.ofString "__next__") c.typeIs F.slot_dict_valueiterator_next (ZI F.slot_dict_valueiterator_next c.typeIs F.entry_dict_valueiterator_next
  (A_ (C_ (A_ (A_ (A_ (eA c.typeIs (C_ (A_ (bH q p ?_)))))))))  (F.args_dict_valueiterator_next_1 _))))
 have B:(Value.ref d==Value.none)=false:=rfl
 simp only [EW,List.drop_zero,List.take_succ_cons,List.take_zero,B,Bool.false_eq_true,if_false]
 refine A_ (C_ (A_ (bA t u ?_)))
 rw [M_ (by simp)]
 refine A_ (C_ (A_ (cX t u ?_)))
 rw [M_ (by simp)]
 refine C_ ?_
 simp only [Int.not_lt.2 (Int.natCast_nonneg i),if_false,Int.toNat_natCast]
 by_cases l:i < es.size
 ·rw [YX l]
  refine A_ (A_ (eA c.typeIs (C_ (A_ (gH c.typeIs (show wpAny _ _ (setField (.ref it) 1 (rawInt ((i:Int)+1)) >>= _) _ _ s from A_ (cK q p (by simp) ?_)))))))
  generalize e:s.heap.update it _=g
  have r:g.IsValIter it d (i+1) es.size ep:=by
   rw [<- e]
   exact⟨_,ZQ _ q (dH (aW p _)),(fW ..).trans y,(aW p _).trans (by simp [rawInt])⟩
  have ty:=Heap.IsValIter.typeIs (s:={ s with heap:=g }) r
  exact A_ (ZG (A_ (gH ty (A_ (gH ty (show wpAny _ _ (pure es[i].val) _ _ _ from C_ (C_ ⟨_,rfl,C_ (more l _ r (e ▸ ZF ..))⟩)))))))
 ·rw [aG (iD.1 l)]
  refine A_ (A_ (eA c.typeIs (C_ (show wpAny _ _ (setField (.ref it) 0 .none >>= _) _ _ s from A_ (cK q p (by simp) (show wpAny _ _ (newExc (.type "StopIteration") [] >>= _) _ _ _ from A_ ?_))))))
  simp only [newExc,newTuple]
  refine A_ (YR (A_ (m:=firstArgMember _ _) (bY (a:=Value.none) rfl (YR ?_ (by size_fits)))) (by size_fits))
  simp only [raiseNew]
  refine A_ (gM ?_)
  simp only [show A.in1.handled=A.handled from rfl,x]
  refine A_ <| C_ <| iE ?_
  exact A_ <| bD (T := "StopIteration") (b:=true) ⟨_,K_ _ rfl,rfl⟩ fX (C_ (j (iD.1 l) _ (((ZF ..).extBut.push _).push _)))
def Vit(d:jH)(od:jO)(ws:List (List Key×V)):It :=
 ⟨λi H => H d = some (.frz od (.dT ws)) /\ i < ws.length,
  λi H v b => ∃ k, ws[i]? = some (k, v) /\ b = H,
  λi H => H d = some (.frz od (.dT ws)) /\ ws.length = i⟩
theorem Ou{P:jJ}{w:jK}{K:jI}{tg:jL}(d it:jH)(od:jO)(ws:List (List Key×V))(es:Array DictEntry)(ep:Nat)(u:od.data=.dict es ep)(hsz:es.size=ws.length) :
  Turn P w K tg (Vit d od ws) [it] it (λi h=>h.IsValIter it d i es.size ep) where
 mem:=by simp
 obj:=λi h st b hb=>by
  have e:b=it:=by simpa using hb
  subst e
  obtain⟨o,g,_,C⟩:=st
  exact⟨o,g,λv z=>by rw [C]at z;cases z⟩
 keep:=λi h r st k=>st.at λo e=>k it (by simp) o e
 item:=by
  intro X B m D hc i aa s σ H E I hf st hg
  subst B m D
  obtain⟨x,N⟩:=hg
  obtain⟨g,z,C,t,j,o,ck,y,h1,h2,p,F,h5⟩:=(show Br X.prog X.w H s.heap d (.frz od (.dT ws)) from I.hok d _ x)
  rw [g]at h1
  cases h1
  rw [u]at p
  cases p
  have J:i < es.size:=by omega
  have O:=ZZ j
  have hx:t[i]?=some t[i]:=J_ (by omega)
  have m:ws[i]?=some ws[i]:=J_ N
  obtain⟨x',G,r1,r2,Z⟩:=Dr j m
  rw [hx]at G
  cases G
  have mx:es[i]=entryOfKey (tupleKind (A8 X.prog X.w)) t[i]:=by
   have L:=bB (λl=>l[i]?) F
   simp only [Array.getElem?_toList,Array.getElem?_eq_getElem J,List.getElem?_map,hx,Option.map_some]at L
   exact ZL L
  refine L0 (I.ok.hd hc) st ⟨od,g,h2,u⟩ (λ_ r M eo=>?_) (λz=>absurd J (iD.2 z))
  obtain⟨Y,U,f2,f3,W,f5⟩:=hf it (by simp)
  have T:Inv X aa σ H { s with heap:=r }:=I.turned (t':=s.toks) (λb o hb e=>(eo.2 b hb).trans e) Y U f3 W f5
  obtain⟨o,e,c,dd⟩:=id M
  refine⟨_,rfl,Np (s:={ s with heap:=r }) e c dd (by decide) ⟨ws[i].2,H,T,?_,⟨ws[i].1,m,rfl⟩,M,λb hb=>(hf b hb).1⟩⟩
  rw [mx]
  exact Z
 done:=by
  intro X B m D hc i aa s σ H E I hf st hg
  subst B m D
  obtain⟨x,rfl⟩:=hg
  obtain⟨g,z,C,t,j,o,ck,y,h1,h2,p,F,h5⟩:=(show Br X.prog X.w H s.heap d (.frz od (.dT ws)) from I.hok d _ x)
  rw [g]at h1
  cases h1
  rw [u]at p
  cases p
  rw [<- hsz]at st
  exact L0 (I.ok.hd hc) st ⟨od,g,h2,u⟩ (λz=>absurd z (bG _)) λ_ r kk=>⟨rfl,I.turnedL (t':=s.toks) (fp:=[it]) (λb o hb e=>kk b o (λq=>hb (by simp [q])) e) hf⟩
 self:=λA i s Q E st h=>wpAny_pyIter_valiter st h
theorem Inv.notFrz{a:jH}{ws:List (List Key×V)}(I:Inv X aa σ H s)(e:H a=some (.dT ws)):∀o u,X.H₀ a≠some (.frz o u):=λo u z=>by
 have:=I.base.frzs a o u z
 rw [e]at this;cases this
theorem Inv.thawT{a:jH}{od:jO}{ws:List (List Key×V)}(I:Inv X aa σ H s)(e:H a=some (.frz od (.dT ws)))(L:∀o u,X.H₀ a≠some (.frz o u)):Inv X aa σ (upd H a (.dT ws)) s:=by
 have l:∀{b:jH},H b=none->b≠a:=λh z=>by rw [z,e]at h;cases h
 have m:∀{b:jH} {xs:List V},H b=some (.tup xs)->b≠a:=λh z=>by rw [z,e]at h;cases h
 have D:∀{b y:jH},H b=some (.own y)->b≠a:=λh z=>by rw [z,e]at h;cases h
 refine⟨I.ok,I.os,I.bare,⟨I.base.keep,I.base.slot,λb o h1 h2 j=>?_,I.base.there,λb xs h=>?_,λb o u h=>?_,λb J h=>?_⟩,I.loc,I.cell,?_,λx c h=>?_,λp hp=>?_,λb u q=>?_,I.len⟩
 ·have:=I.base.free b o h1 h2 j
  rw [Au (l this)];exact this
 ·have:=I.base.tups b xs h
  rw [Au (m this)];exact this
 ·have:=I.base.frzs b o u h
  rw [Au (by rintro rfl;exact L o u h)];exact this
 ·obtain⟨g,this⟩:=I.base.tbls b J h
  exact⟨g,by rw [Au (λz=>by rw [z,e]at this;cases this)];exact this⟩
 ·rw [Au (l I.free)];exact I.free
 ·rw [Au (l (I.freeC x c h))];exact I.freeC x c h
 ·obtain⟨h1,h2,j⟩:=I.pin p hp
  exact⟨h1,by rw [Au (l h2)];exact h2,j⟩
 ·by_cases hb:b=a
  ·subst hb
   rw [Bo]at q
   cases q
   obtain⟨M,z,F,xs,t,o,es,ep,h1,h2,j,C,G⟩:=(show Br X.prog X.w H s.heap b (.frz od (.dT ws)) from I.hok b _ e)
   exact⟨z,F,xs,KT.keeps (show KT H ws xs from t) λc N B=>by rw [Au (m B)];exact B,o,es,ep,h1,h2,j,C,G⟩
  ·rw [Au hb]at q
   exact(I.hok b u q).stay (λc v _ r=>r) (λc r=>by rw [Au (D r)];exact r) λc xs r=>by rw [Au (m r)];exact r
theorem Qz:LF X "dict.values" (λx t H Q=>∃a c,x=.ref a/\t=[]/\H a=some (.dT c)/\∀v,H v=none->Q (.ref v) (upd H v (.ext λh=>h.IsValuesView v a))):=by
 intro aa s σ H x xs v us Q I rx r h
 obtain⟨a,c,rfl,rfl,ha,q⟩:=h
 cases rx
 have p:=Vals.zero r
 subst p
 obtain⟨hz,g,y,m,o,es,ep,h1,h2,l,u,_⟩:=Nu I.hok ha
 have j:Ei s.heap a es ep:=⟨o,h1,h2,l⟩
 refine fQ PySem.F.slot_dict_values j.ty PySem.F.entry_dict_values (PySem.F.args_dict_values_1 _) (Qw g) ⟨⟨es,ep,j⟩,?_⟩
 refine⟨.ref s.heap.objs.size,_,I.laid (t':=s.toks) (o:=.ext λh=>h.IsValuesView s.heap.objs.size a) (λb B q=>DD _ q) (I_ _) ?_,rfl,q _ (I.hok.fresh (I_ _))⟩
 exact⟨⟨_,K_ _ rfl,rfl,rfl⟩,⟨_,K_ _ rfl⟩,λh1 h2 ⟨o,e,r⟩ k=>⟨o,k o e,r⟩⟩
def OT:V->List V->Hp->VK->Prop:=λx c H Q=>∃a b,x=.ref a/\c=[]/\H a=some (.dT b)/\∀v,H v=none->Q (.ref v) (upd H v (.ext λh=>h.IsValuesView v a))
def XT(X:Cx)(td:TE):TI:=fun σ H R=>GZ X.K "dict" OT td σ H λv b=>∃a ws vv,v=.ref vv/\b vv=some (.ext λh=>h.IsValuesView vv a)/\b a=some (.dT ws)/\∀od,(∀o u,X.H₀ a≠some (.frz o u))->R (Vit a od ws) (upd b a (.frz od (.dT ws)))
theorem U5{td:TE}(G:PE X o td)(C:attributeBase o "values" X.env (eval o X.env)=eval o X.env:=by rfl) (J:(aq.endLine==am.line)=true:=by rfl) :
  PI X tg (.Call (.Attribute o "values" aq) [] [] am) (XT X td):=by
 intro aa s σ H R I h
 refine thn (Pu (T := "dict") (r:=OT) dX PySem.F.slot_dict_values PySem.F.type_dict_values Qz G C J aa s σ H _ I h) λv c M=>?_
 obtain⟨x,m,j,L,a,ws,vv,rfl,hv,ha,q⟩:=M
 cases L
 obtain⟨g,_,_⟩:=(show Br X.prog X.w m c.heap vv (.ext λh=>h.IsValuesView vv a) from j.hok vv _ hv)
 obtain⟨hz,y,N,t,od,es,ep,h1,h2,u,B,O⟩:=(show Br X.prog X.w m c.heap a (.dT ws) from j.hok a _ ha)
 refine Qx g ⟨od,h1,h2,u⟩ ?_
 have p:es.size=ws.length:=by
  have e:=bB List.length B
  rw [B_]at e
  rw [ZZ t,<- e];simp
 have D:=j.kept (t':=c.toks) (h':=c.heap.push { cls:=.type "dict_valueiterator",data:=.fields #[.ref a,.int 0 0,.int es.size 0,.int ep 0] }) λb Q e=>DD _ e
 have l:=j.hok.fresh (I_ c.heap.objs.size)
 have f:=j.fpOk (I_ _) l
 refine⟨c.heap.objs.size,[c.heap.objs.size],_,_,upd m a (.frz od (.dT ws)),rfl,D.freezeT ha (DD _ h1),Ou a _ od ws es ep u p,⟨_,K_ _ rfl,rfl,rfl⟩,λb hb=>?_,q od (j.notFrz ha)⟩
 have e:b=c.heap.objs.size:=by simpa using hb
 subst e
 exact⟨by rw [Au (λz=>by rw [z]at l;rw [ha]at l;cases l)];exact f.1,f.2⟩
theorem VH(e:H a=some (.frz od (.dT ws))){b:jH}{xs:List V}(h:H b=some (.tup xs)):upd H a (.dT ws) b=some (.tup xs):=by
 rw [Au (λz=>by rw [z,e]at h;cases h)];exact h
theorem IW(e:H a=some (.frz od (.dT ws))){b:jH}{o:jO}{u:HO}(hu:∀w,u≠.dT w)(h:H b=some (.frz o u)):upd H a (.dT ws) b=some (.frz o u):=by
 rw [Au (λz=>by rw [z,e]at h;injection h with h;injection h with _ h;exact hu _ h.symm)];exact h
theorem Vn.th(e:H a=some (.frz od (.dT ws))){b:jH}{xs:List V}(h:Vn K H b xs):Vn K (upd H a (.dT ws)) b xs:=by
 rcases h with⟨o,h⟩ | h
 ·exact .inl ⟨o,IW e (λ_ z=>nomatch z) h⟩
 ·exact .inr h
theorem Ue.th(e:H a=some (.frz od (.dT ws))){b:jH}{ds:List jG}{xs:List V}(h:Ue K H b ds xs):Ue K (upd H a (.dT ws)) b ds xs:=by
 rcases h with h | h
 ·exact .inl (VH e h)
 ·exact .inr h
mutual
theorem Dk.th(e:H a=some (.frz od (.dT ws))):∀(d:jG) (x:V),Dk K H d x->Dk K (upd H a (.dT ws)) d x
 | .none,x,h=>by simp only [Dk]at h ⊢;exact h
 | .bool b,x,h=>by simp only [Dk]at h ⊢;exact h
 | .int i,x,h=>by simp only [Dk]at h ⊢;exact h
 | .str z,x,h=>by simp only [Dk]at h ⊢;exact h
 | .list j,x,h=>by
  simp only [Dk]at h ⊢
  obtain⟨a,c,g,q,r⟩:=h
  exact⟨a,c,g,q.th e,Am.th e j c r⟩
 | .tuple j,x,h=>by
  simp only [Dk]at h ⊢
  obtain⟨a,c,g,q,r⟩:=h
  exact⟨a,c,g,q.th e,Am.th e j c r⟩
 | .dict _,x,h=>by simp only [Dk]at h
theorem Am.th(e:H a=some (.frz od (.dT ws))):∀(ds:List jG) (xs:List V),Am K H ds xs->Am K (upd H a (.dT ws)) ds xs
 | [],xs,h=>by simp only [Am]at h ⊢;exact h
 | d :: ds,xs,h=>by
  simp only [Am]at h ⊢
  obtain⟨x,r,b,h1,h2⟩:=h
  exact⟨x,r,b,Dk.th e d x h1,Am.th e ds r h2⟩
end
theorem XFs.th(e:H a=some (.frz od (.dT ws))){d:Option jH}{c:List (Str×jG)}(h:XFs K H d c):XFs K (upd H a (.dT ws)) d c:=by
 cases d with
 | none=>exact h
 | some d=>obtain⟨od,b,q,r⟩:=h;exact⟨od,b,IW e (λ_ z=>nomatch z) q,Paired.mapP r λp q r=>⟨r.1,Dk.th e _ _ r.2⟩⟩
theorem RelA.th(e:H a=some (.frz od (.dT ws))):∀{x:AV} {v:V},RelA K H x v->RelA K (upd H a (.dT ws)) x v
 | .D d,v,h=>Dk.th e d v h
 | .R a,_,h=>h
 | .C j,v,⟨b,g,c,q,r⟩=>⟨b,g,c,q,Am.th e j g r⟩
 | .X C l,v,⟨b,o,d,c,q,r⟩=>⟨b,o,d,c,IW e (λ_ z=>nomatch z) q,r.th e⟩
theorem Ir.th(e:H a=some (.frz od (.dT ws))){m:MO}{o:HO}(h:Ir K H m o):Ir K (upd H a (.dT ws)) m o:=by
 cases m with
 | lst j=>obtain⟨g,b,r⟩:=h;exact⟨g,b,Paired.mapP r λ_ _ q=>q.th e⟩
 | dk j=>obtain⟨g,b,r⟩:=h;exact⟨g,b,Paired.mapP r λ_ _ q=>⟨q.1,q.2.th e⟩⟩
 | dt j=>obtain⟨g,b,r⟩:=h;exact⟨g,b,Paired.mapP r λ_ _ q=>⟨q.1,q.2.th e⟩⟩
 | dd j=>obtain⟨g,b,r⟩:=h;exact⟨g,b,Paired.mapP r λ_ _ ⟨x,y,c,v,r,q⟩=>⟨x,y,Dk.th e _ _ c,v,r.th e,q⟩⟩
def OU(X:Cx)(t:TE):TE:=fun σ H Q=>t σ H λv b=>∃a od ws,b a=some (.frz od (.dT ws))/\(∀o u,X.H₀ a≠some (.frz o u))/\Q v (upd b a (.dT ws))
theorem CW{e:jL}{t:TE}(h:PE X e t):PE X e (OU X t):=by
 intro aa s σ H Q I hq
 refine thn (h aa s σ H _ I hq) λv m c=>?_
 obtain⟨x,j,g,l,a,od,ws,e,b,q⟩:=c
 exact⟨x,upd j a (.dT ws),g.thawT e b,l,q⟩
def IX(mp:List (Option Nat))(td:AE)(g:AG)(tst:AT)(te:AE):AE:=fun τ μ R=>td τ μ λx μ1=>match x with
 | .R a=>opt (μ1 a) λm=>match m with
  | .dt b=>∀p,μ1 p=none->cl p g tst te (λ_=>True) (fun μ2=>R (.R p) (An μ2 a (.dt b))) (b.map (·.2)) [] (HM mp τ) (An (B7 μ1 a) p (.lst []))
  | _=>False
 | _=>False
theorem Ov{td:AE}{g:AG}{tst:AT}{te:AE}(hc:X.calm=true)(hd:VE X o td)(hg:∀C s H fp,VG (Bj X N' scope C s H fp) tg g)(ht:∀C s H fp,VIfs (Bj X N' scope C s H fp) cy tst)(he:∀C s H fp,VE (Bj X N' scope C s H fp) dq te)
  (ok:CompOkC X.N X.env.scope.names scope.names N' mp) (hk:scope.kind=.function:=by rfl) (hs:∀x,foldedSetIterable (.Call (.Attribute o "values" aq) [] [] am) X.env x=pure x:=by intro _;rfl)
  (be:attributeBase o "values" X.env (eval o X.env)=eval o X.env:=by rfl) (bd:(aq.endLine==am.line)=true:=by rfl) :
  VE X (.ListComp dq [⟨tg,.Call (.Attribute o "values" aq) [] [] am,cy,0⟩] scope pos) (IX mp td g tst te) :=
 (CW (Ot (g:=cG X.K g) (tst:=cT X.K tst) (te:=cE X.K te) hc (U5 hd be bd) (λC s H fp=>hg C s H fp) (λC s H fp=>ht C s H fp) (λC s H fp=>he C s H fp) ok hk hs)).imp fun σ H Q zz=>B9 zz fun τ μ R bf Z h hq=>by
 refine⟨τ,μ,_,bf,Z,h,λx μ1 v H1 S1 c1 rx hx=>?_⟩
 split at hx
 ·rename_i a
  obtain⟨m,em,hx⟩:=A6 hx
  split at hx
  ·rename_i j
   obtain⟨ob,F,ws,rfl,rk⟩:=c1 _ _ em
   cases (show v=.ref a from rx)
   refine⟨.inr (.inr (.inl ⟨rfl,.inr ⟨ws,F⟩⟩)),a,ws,rfl,rfl,F,λvv W=>?_⟩
   have nav:a≠vv:=λz=>by rw [z]at F;rw [F]at W;cases W
   have cu:upd H1 vv (.ext λh=>h.IsValuesView vv a) a=some (.dT ws):=by rw [Au nav];exact F
   refine⟨a,ws,vv,rfl,Bo,cu,λod hnf=>?_⟩
   have J:Kp H1 (upd (upd H1 vv (.ext λh=>h.IsValuesView vv a)) a (.frz od (.dT ws))):=(Kp.new W _).trans (Kp.put cu trivial _)
   have c2:Cn X.K (B7 μ1 a) (upd (upd H1 vv (.ext λh=>h.IsValuesView vv a)) a (.frz od (.dT ws))):=λb m' e=>by
    have D:b≠a:=λz=>by rw [z]at e;unfold B7 at e;rw [S_ rfl]at e;cases e
    rw [Bc D]at e
    obtain⟨o',U,r'⟩:=c1 b m' e
    exact⟨o',by rw [Au D,Au (B5 U W)];exact U,r'.kp J⟩
   have gl:upd (upd H1 vv (.ext λh=>h.IsValuesView vv a)) a (.frz od (.dT ws)) a=some (.frz od (.dT ws)):=Bo
   have lz:=rk.kp J
   have M:∀b,upd (upd H1 vv (.ext λh=>h.IsValuesView vv a)) a (.frz od (.dT ws)) b=none->H1 b=none:=λb e=>by
    by_cases h1:b=a
    ·rw [h1,Bo]at e;cases e
    ·rw [Au h1]at e
     by_cases h2:b=vv
     ·rw [h2,Bo]at e;cases e
     ·rw [Au h2]at e;exact e
   generalize upd (upd H1 vv (.ext λh=>h.IsValuesView vv a)) a (.frz od (.dT ws))=H2 at J c2 gl lz M
   have hl:=ZZ lz
   intro p hp
   have hx:=hx p (c1.none (M p hp))
   have c0':Cn X.K (An (B7 μ1 a) p (.lst [])) (upd H2 p (.lst [])):=c2.new hp (Cs .nil)
   have L:Kp H2 (upd H2 p (.lst [])):=Kp.new hp _
   have j3:(j.map (·.2)).length=ws.length:=by rw [B_];exact hl
   refine Rl ws.length (λi r σ1 H'=>∃ τ1 μ' G,Kp H2 H'/\Du X.K H' τ1 σ1/\Cn X.K μ' H'/\A3 X.K H' G r/\cl p g tst te (λ_=>True) (fun μ2=>R (.R p) (An μ2 a (.dt j))) ((j.map λq:List Key×AV=>q.2).drop i) G τ1 μ') ⟨_,_,[],L,(((bf.kp S1).kp J).kp L).sub mp,c0',.nil,hx⟩ ?_ ?_ ?_
   ·rintro i r σ1 H' hi ⟨τ1,μ',G,l,B,y,ra,h1⟩
    exact⟨l.f _ _ _ gl,hi⟩
   ·rintro r σ1 H' ⟨τ1,μ',G,l,B,y,ra,h1⟩
    rw [<- j3,cD]at h1
    have T:=l.f _ _ _ gl
    refine⟨⟨T,rfl⟩,a,od,ws,T,hnf,?_⟩
    have K1:∀b O,H' b=some (.tup O)->upd H' a (.dT ws) b=some (.tup O):=λb O e=>by
     rw [Au (λz=>by rw [z,T]at e;cases e)];exact e
    have K2:Kp H1 (upd H' a (.dT ws)):=⟨λb O e=>K1 b O (l.t _ _ (J.t _ _ e)),λb o' u e=>by
     rw [Au (λz=>by rw [z,F]at e;cases e)]
     exact l.f _ _ _ (J.f _ _ _ e)⟩
    refine hq _ _ _ _ (S1.trans K2) (λb m' e=>?_) Dt h1.2
    by_cases D:b=a
    ·subst D
     rw [Ab]at e
     cases e
     exact⟨_,Bo,ws,rfl,rk.kp K2⟩
    ·rw [Ag D]at e
     obtain⟨o',U,r'⟩:=y b m' e
     exact⟨o',by rw [Au D];exact U,r'.th T⟩
   ·rintro i v' r σ1 H' H'' hi ⟨τ1,μ',G,l,B,y,ra,h1⟩ ⟨k,hw,rfl⟩
    have io:i < (j.map (·.2)).length:=by omega
    rw [ZU io]at h1
    obtain⟨_,h1⟩:=h1
    have hi3:i < j.length:=by rw [B_]at io;exact io
    obtain⟨q',e1,r1,r2⟩:=Dr lz (J_ hi3)
    rw [hw]at e1
    cases e1
    rw [List.getElem_map]at h1
    refine⟨_,τ1,μ',_,r2.kp l,B,y,h1,fun τ3 μ3 σ3 H3 S4 Y hc3 h3=>⟨τ3,μ3,_,Y,hc3,h3,λk μ4 H4 S5 c4 h4=>?_⟩⟩
    rcases br_e h4 with⟨rfl,lu⟩ | ⟨rfl,lu⟩
    ·rw [S_ rfl]
     refine⟨τ3,μ4,_,Y.kp S5,c4,lu,λw μ5 u H5 S6 c5 rw h5=>?_⟩
     obtain⟨e5,qp,h5⟩:=h5
     obtain⟨o5,c,vs,rfl,rs⟩:=c5 _ _ e5
     have S:Kp H'' H5:=S4.trans (S5.trans S6)
     exact⟨vs,c,by rw [<- rs.length];exact qp,τ3,_,_,(l.trans S).trans (Kp.put c trivial _),(Y.kp (S5.trans S6)).kp (Kp.put c trivial _),c5.put c trivial (Cs (rs.append (.cons rw .nil))),(rs.append (.cons rw .nil)).kp (Kp.put c trivial _),h5⟩
    ·rw [M_ R_]
     have S:Kp H'' H4:=S4.trans S5
     exact⟨τ3,μ4,G,l.trans S,Y.kp S5,c4,ra.kp S,lu⟩
  ·exact hx.elim
 ·exact hx.elim
def G7(h0 h:jN):Prop:=∀b o,h0.get? b=some o->h.get? b=some o
theorem Ye(W:Walks prog w A.in1 I fp wr n P St)(Y:S∉fp)(L:h0.objs.size<=S)(hw:∀b∈wr,h0.objs.size<=b)(hc:∀i j u v (s:jA),P i u->P j v->G7 h0 s.heap->∃r,Xe A.in1 s u v r) :
  ∀(k j:Nat) (s:jA) (l:Option i_) (c:Nat),j+k=n->(l=none->0 < k)->(∀v,l=some v->∃i,P i v)->St j s.heap->G7 h0 s.heap ->
  s.heap.get? S=some { cls:=.type "list",data:=.seq (l.elim #[] λv=>#[v,v]) c } ->
  (∀i v p x,P i v->G7 h0 p->R (.ok (.ret v)) { s with heap:=p,toks:=x }) ->
  codeAny (model prog w) A (.builtin "min.loop" ⟨[.ref I,.none,.ref S],[]⟩) R s:=by
 have T:∀{b o},h0.get? b=some o->b∉wr:=λe z=>absurd (O_ e) (iD.2 (hw _ z))
 have Z:∀{b o},h0.get? b=some o->S≠b:=λe z=>absurd (O_ e) (iD.2 (z ▸ L))
 have U:S∉wr:=λz=>Y (W.sub _ z)
 have J:∀{h:jN} (f:jO->jO),G7 h0 h->G7 h0 (h.update S f):=λf q b o e=>(bQ _ _ (Z e)).trans (q b o e)
 have O:(toString "min" ++ toString ".loop" : String) = "min.loop" := by decide
 have hz:∀l:Option i_,(l.elim #[] λv=>#[v,v]).size<=sizeLine:=λl=>by cases l <;> exact(by decide:2<=sizeLine) |> Q_ (by first | exact YZ _ | exact I_ _)
 intro k
 induction k with
 | zero =>
  intro j s l c hj h1 h2 st g y q
  obtain⟨m,rfl⟩:∃m,l=some m:=by
   cases l with
   | none=>exact absurd (h1 rfl) (bG _)
   | some v=>exact⟨v,rfl⟩
  obtain⟨i,M⟩:=h2 _ rfl
  refine bL F.entry_min_loop ?_
  rw [aS F.plain_min_loop _]
  refine(show wpAny _ A.in1 (seqItems? (.ref S) >>= _) _ _ s from A_ (d_ y rfl (show wpAny _ A.in1 (tryCatch (pyNext (.ref I)) _ >>= _) _ _ s from A_ (wpAny_tryCatch (W.done s _ _ (by rw [<- hj];exact st) λp x C=>?_)))))
  exact(show wpAny _ A.in1 (updateSeq S (λ_=>#[]) >>= _) _ _ _ from A_ (fE (C S _ U y) rfl (hz:=hz _) (A_ (gP (C_ (q i m _ x M (J _ λb o e=>C b o (T e) (g b o e))))))))
 | succ k G =>
  intro j s l c hj h1 h2 st g y q
  refine bL F.entry_min_loop ?_
  rw [aS F.plain_min_loop _]
  refine(show wpAny _ A.in1 (seqItems? (.ref S) >>= _) _ _ s from A_ (d_ y rfl (show wpAny _ A.in1 (tryCatch (pyNext (.ref I)) _ >>= _) _ _ s from A_ (wpAny_tryCatch (W.item j s _ _ (by omega) st λv p x N Q C=>?_)))))
  have t:=C S _ U y
  have D:G7 h0 p:=λb o e=>C b o (T e) (g b o e)
  have B:∀f,St (j+1) (p.update S f):=λf=>W.frame _ _ _ Q λb hb o e=>(bQ _ _ λz:S=b=>Y (z ▸ hb)).trans e
  cases l with
  | none =>
   refine(show wpAny _ A.in1 (updateSeq S (λ_=>#[v,v]) >>= _) _ _ _ from A_ (fE t rfl (hz:=hz _) ?_))
   rw [O]
   exact C_ ⟨bP F.plain_min_loop _,G (j+1) _ (some v) _ (by omega) (λz=>nomatch z) (λu e=>⟨j,by cases e;exact N⟩) (B _) (J _ D) (ZQ _ t rfl) q⟩
  | some m =>
   obtain⟨i,M⟩:=h2 m rfl
   obtain⟨r,hr⟩:=hc j i v m { s with heap:=p,toks:=x } N M D
   refine(show wpAny _ A.in1 (tryCatch (holding [v,v] (richCompare .Lt v m >>= _)) _ >>= _) _ _ _ from A_ (wpAny_tryCatch (ZG (A_ (hr prog w _ _ ?_)))))
   refine A_ (ZG (eU (A_ (gP (C_ ?_)))))
   cases r with
   | true =>
    simp only [if_true]
    refine A_ (fE t rfl (hz:=hz _) (A_ (gP ?_)))
    rw [O]
    exact C_ ⟨bP F.plain_min_loop _,G (j+1) _ (some v) _ (by omega) (λz=>nomatch z) (λu e=>⟨j,by cases e;exact N⟩) (B _) (J _ D) (ZQ _ t rfl) q⟩
   | false =>
    simp only [Bool.false_eq_true,if_false]
    refine A_ (gP ?_)
    rw [O]
    exact C_ ⟨bP F.plain_min_loop _,G (j+1) _ (some m) _ (by omega) (λz=>nomatch z) h2 Q D t q⟩
theorem Yf{E:i_->jA->Prop}{s:jA}{p:jH}{c:List i_}{Q:i_->jA->Prop}(C:A.handled=none)(t:s.heap.IsList p c.toArray)(G:0 < c.length)(hc:∀u∈c,∀v∈c,∀m:jA,G7 s.heap m.heap->∃r,Xe A.in1 m u v r)
  (q:∀v∈c,∀l x,G7 s.heap l->Q v { s with heap:=l,toks:=x }):wpAny (model prog w) A (call (.builtin "min") [.ref p]) Q E s:=by
 have hp:p < s.heap.objs.size:=let⟨_,D,_⟩:=t;O_ D
 have B:p≠s.heap.objs.size:=W_ hp
 refine call_function_tree F.kind_min F.plain_min F.entry_min (F.args_min1 _) (show wpAny _ A.in1 (Builtin.Builtins.bindParams "min" ["key","default"] 0 ⟨[],[]⟩ >>= _) _ _ s from A_ (bY (show _=pure [none,none] from rfl) (A_ (C_ (A_ (cN t (A_ (YR ?_))))))))
 rw [show(toString "min" ++ toString ".loop" : String) = "min.loop" by decide]
 have h:∀{i:Nat} {v},c.toArray[i]?=some v->v∈c:=λ{i v} e=>U_ (i:=i) (by simpa using e)
 have y:G7 s.heap (s.heap.push { cls:=.type "list_iterator",data:=.fields #[.ref p,.int 0 0] }):=λb o e=>DD _ e
 refine C_ ⟨bP F.plain_min_loop _,Ye (h0:=s.heap) (Walks.list (show A.in1.handled=none from C) s.heap.objs.size p B c.toArray) ?_ ?_ ?_ (λi j u v m J hj g=>hc u (h J) v (h hj) m g) c.toArray.size 0 _ none 0 (Nat.zero_add _) (λ_=>by simpa using G) (λv e=>nomatch e) ?_ ?_ (K_ _ rfl) λi v l x L g=>q v (h L) l x g⟩
 ·intro z
  rw [bT]at z
  rcases YV.mp z with z | z
  ·exact absurd z (Nat.succ_ne_self _)
  ·exact absurd (P_.mp z) (fL (bV hp))
 ·rw [bT];exact dC _
 ·exact λb hb=>by rw [P_.mp hb];exact I_ _
 ·exact⟨⟨_,DD _ (K_ _ rfl),rfl,rfl⟩,t.at λo e=>DD _ (y _ _ e)⟩
 ·exact λb o e=>DD _ (y b o e)
def EX:AC:=λc μ R=>match c with
 | [.R a]=>opt (μ a) λm=>match m with
  | .lst g=>opt (dats g) λb=>(0 < b.length/\∀d∈b,Cd d/\∀e∈b,cmpb d e=true)/\∀d∈b,R (.D d) μ
  | _=>False
 | _=>False
theorem Yg(Z:Room k X.A)(dh:X.calm=true):VCall X (.builtin "min") EX:=by
 intro aa s σ H xs us Q I r zq
 refine B9 zq λj μ R ra hc h hq=>?_
 unfold EX at h
 split at h
 ·cases ra with
  | cons r1 T =>
   cases T
   obtain⟨m,M,h⟩:=A6 h
   split at h
   ·obtain⟨p,ed,⟨hn,c⟩,h⟩:=A6 h
    obtain⟨o,U,ws,rfl,W⟩:=hc _ _ M
    cases (show _=V.ref _ from r1)
    obtain⟨u,rfl,C⟩:=Fd r
    cases C
    obtain⟨y,F,L,hz⟩:=I.list (Fa.of (K:=X.K) U)
    have dk:=W.dats ed
    obtain⟨G,rd⟩:=Am.reads I p ws y dk F
    have B:=Rv rd
    have hu:=Z.un
    refine Yf (I.ok.hd dh) L.isList (by rw [B];exact hn) (λu t v hv J g=>?_) λv hv h' O g=>?_
    ·have one:∀{x},x∈y->∃d∈p,∃j,Reads J.heap x d j:=λ{x} hx=>by
      obtain⟨i,l,rfl⟩:=e_ hx
      have b:i < p.length:=by rw [<- B];exact l
      obtain⟨j,q⟩:=OJ (Hj g rd) b
      rw [show y.getD i .none=y[i] by rw [bC,J_ l];rfl]at q
      exact⟨_,Xg b,j,q⟩
     obtain⟨d,b,j,Y⟩:=one t
     obtain⟨e,he,G,N⟩:=one hv
     have h1:=(c d b).1
     have h2:=(c e he).1
     have:=h1.2
     exact⟨_,Jr d e X.A.in1 J u v j G Y N h1.1 h2.1 ((c d b).2 e he) (by show X.A.units+1+_ < _;omega)⟩
    ·obtain⟨i,l,rfl⟩:=e_ hv
     have b:i < p.length:=by rw [<- B];exact l
     obtain⟨x,hx,kx⟩:=dk.get (J_ b)
     obtain⟨u,t,C⟩:=F.get hx
     rw [J_ l]at t
     cases t
     exact⟨x,H,I.kept (t':=O) g,C,hq (.D p[i]) _ _ _ Kp.refl hc kx (h _ (b_ b))⟩
   ·exact h.elim
 ·exact h.elim
end
structure FunD(K:jI)(x qual:Str)(st:jP)(f:jH)(fd:jQ)(T:jH):Prop where
 ex:∃(oc:i_) (od:Option jH) (kV dg pm:i_) (an:Option jH) (au ct:i_) (iz:Array (Option i_)),
  fd=PySem.W.fnOf x qual (Az st) (Ay st) (Af st) (.ref T) kV dg pm an au ct/\K.lookup f=some ⟨oc,od,.func fd,iz⟩/\PySem.W.codeIn K au qual=true
section
variable {P:jJ}{w:jK}{K:jI}{mg:Str->Option i_}{base:jN}{x qual:Str}{st:jP}{f T:jH}{fd:jQ}{N ps:List Str}{k:Nat}{sp:ASp}{prog:jJ}{A:jM}{E:i_->jA->Prop}{s:jA}
theorem FunD.vok(F:FunD K x qual st f fd T)(S:FnScope N ps (Af st))
  (l:∀(b:i_) (A:jM) (outer:List Env) (s:jA) (H:Hp) (E:XK),Room k (A.deeper (envOfC qual (Af st) s.heap.objs.size f b)) ->
   ∃t,VSs (Nq Ea P w K mg base N qual (Af st) f b A outer s H E).nox (Ay st) t/\∀a μ R,a.length=ps.length->sp a μ R->t (WJ R) (WK R) SS SS (Hd N a) μ):FnOk P w K mg base Ea (k+1) f fd ps (Fg K ps.length sp):=by
 obtain⟨G,q,kV,C,p,B,b,D,y,rfl,j,g⟩:=F.ex
 refine EE j g S (λm H Q E h=>?_) λA outer s H m Q E i h=>?_
 ·obtain⟨a,μ,R,e,d,_⟩:=h
  rw [<- d.length];exact e
 ·obtain⟨a,μ,R,e,d,hc,o,hq⟩:=h
  obtain⟨t,n,h⟩:=l b A outer s H E i
  refine⟨_,n.nox,Hd N a,μ,_,_,_,_,Du.begin d,hc,h a μ R e o,⟨fun τ μ' σ H' S' _ c z=>Zw z fun ν hν r=>hq _ _ _ _ S' (c.sub hν) Mm r,λv μ' u H' S' c rv z=>Zw z fun ν hν r=>hq _ _ _ _ S' (c.sub hν) rv r,λ_ _ _ _ _ _ _ h=>h.elim,λ_ _ _ _ _ _ _ h=>h.elim⟩⟩
theorem FunD.binds{d:Int}{tk:Tok}{n:Nat}{o:i_}{j:Option jH}{l:Array (Option i_)}(F:FunD K x qual st f fd T)(m:K.lookup T=some ⟨o,j,.seq #[.int d tk] n,l⟩)
  (h:∀(kV e b:i_) (c:Option jH) (g ct:i_) (a:List i_),a.length+1=ps.length->∃k,bindArgs (PySem.W.fnOf x qual (Az st) (Ay st) (Af st) (.ref T) kV e b c g ct) ⟨a,[]⟩=seqItems? (.ref T) >>= k/\k (some #[.int d tk])=pure (ps.zip (a++[.int d tk]))):Binds K fd ps [.int d tk]:=by
 obtain⟨_,_,kV,e,b,c,g,ct,_,rfl,q,p⟩:=F.ex
 intro s a X i
 obtain⟨k,h1,h2⟩:=h kV e b c g ct a (by rw [L_]at i;exact i)
 exact .of_defaults rfl (X _ _ m) rfl h1 h2
def Kg(P:jJ)(w:jK)(K:jI)(mg:Str->Option i_)(base:jN)(k:Nat)(x:Str)(ps:List Str)(d:Int)(sp:ASp):Prop :=
 ∃g a b,FnOk P w K mg base Ea k g a ps (Fg K ps.length sp)/\Binds K a ps [.int d b]/\PySem.W.keepIn K (.ref g)=true/\mg x=some (.ref g)
theorem Kg.mono{d:Int}{n m:Nat}(c:Kg P w K mg base n x ps d sp)(h:n<=m):Kg P w K mg base m x ps d sp:=let⟨g,b,a,G,r⟩:=c;⟨g,b,a,G.mono h,r⟩
def IY(sp:ASp)(d:Int)(t:AA):AE:=fun τ μ R=>t τ μ λa μ1=>sp (a++[.D (.int d)]) μ1 R
theorem Yh{X:Cx}{d:Int}{p a:Pos}{e:jL}{es:List jL}{t:AA}(F:Kg X.prog X.w X.K X.mg X.base k x ps d sp)(l:Room k X.A)(b:Gl X x)(ha:VA X (e :: es) t)(c:(e :: es).length+1=ps.length:=by rfl)(hdb:(x==("__debug__" : Str))=false:=by decide)
  (o:starEach (e :: es) X.env=(false,eval e X.env) :: starEach es X.env:=by rfl) (hpl:(backTo a (starEach es X.env)).any (·.1)=false:=by rfl):VE X (.Call (.Name x p) (e :: es) [] a) (IY sp d t):=by
 obtain⟨g,v,m,G,r,q,n⟩:=F
 refine PE.imp (Rf (dvs:=[.int d]) (E:=E0) G l b n q r (.cons ⟨m,rfl⟩ .nil) EG ha (hdb:=hdb) (he:=o) (hpl:=hpl)) fun σ H Q z=>B9 z fun τ μ R i hc h hq=>?_
 exact⟨τ,μ,_,i,hc,h,λu μ1 vs H1 S1 j rs hn hx=>⟨_,μ1,R,by rw [L_,hn];exact c,rs.append (.cons Cr .nil),j,hx,hq.kp S1⟩⟩
theorem CY{d:jH}{o:jO}{es:Array DictEntry}{ep:Nat}{n:Nat}{Q:i_->jA->Prop}(j:(d==sysModules)=false)(b:s.heap.get? d=some o)(hc:o.ExactDict)(c:o.data=.dict es ep)(i:es.size=n)(l:(n:Int) < 2 ^ 63)(h:∀t g,Q (.int n t) { s with toks:=g }):wpAny (model prog w) A (call (.builtin "len") [.ref d]) Q E s:=by
 have ty:s.TypeIs (.ref d) "dict" := ⟨o,b,hc.1⟩
 have mt:MeetsIn prog w (Builtin.«dict.__len__» ⟨[.ref d],[]⟩) (λ_ R a=>a.heap=s.heap/\R (.ok (.ret (.int n a.toks))) { a with toks:=a.toks+1 }):=.of_wp λA R a ⟨e,h⟩=>by
  show wpAny _ _ (dictSize d >>= _) _ _ a;unfold dictSize
  exact A_ (A_ (bA (by rw [e];exact b) c (C_ (show wpAny _ _ (Builtin.Dict.pendingCount d >>= _) _ _ a from A_ (wpAny_pendingCount_other j (wpAny_ret_mkInt (by rw [Nat.add_zero,i];exact h)))))))
 refine Calls.call_function_entry kind_len plain_len entry_len (args_len1 _) ?_
 unfold Builtin.«len»
 refine A_ (m:=oneArg "len" _) (C_ (A_ (m:=callSpecial? (.ref d) (Str.ofString "__len__")) (ZR (name:=Str.ofString "__len__") ty F.slot_dict_len (fQ F.slot_dict_len ty F.entry_dict_len (F.args_dict_len_1 _) mt ⟨rfl,?_⟩))))
 show wpAny _ _ _ _ _ { s with toks:=s.toks+1 }
 refine A_ (ZG (C_ (A_ (gP (show wpAny _ _ (if((n:Nat):Int) < 0 then _ else _) _ _ _ from ?_)))))
 rw [M_ (by omega)]
 refine(show wpAny _ _ (if((n:Nat):Int)>=2 ^ 63 then _ else _) _ _ _ from ?_)
 rw [M_ (by omega)];exact A_ (wpAny_mkInt (C_ ⟨_,rfl,h _ _⟩))
end
def OV:AC:=λc μ R=>match c with
 | [.R a]=>opt (μ a) λm=>match m with
  | .dt b=>R (.D (.int b.length)) μ
  | _=>False
 | _=>False
theorem IZ{X:Cx}:VCall X (.builtin "len") OV:=by
 intro J s σ H l us Q I r zz27
 refine B9 zz27 λE μ R ra hc h hq=>?_
 cases ra with
 | nil=>exact False.elim h
 | @cons x v L c B g =>
  cases x with
  | R a =>
   cases g with
   | cons _ _=>exact False.elim h
   | nil =>
    obtain⟨m,e,h⟩:=A6 h
    cases (show _=V.ref _ from B)
    obtain⟨o,i,A⟩:=hc _ _ e
    cases m with
    | dt p =>
     obtain⟨b,rfl,j⟩:=A
     obtain⟨u,rfl,f⟩:=Fd r
     cases f
     obtain⟨z,y,l,r,F,n,D,h1,h2,k,d,G⟩:=(show Br X.prog X.w H s.heap a (.dT b) from I.hok a _ i)
     have q:n.size=b.length:=by rw [<- YS,d,B_,<- ZZ r]
     refine CY y h1 h2 k q (by rw [sizeLine_eq]at z;omega) λt C=>⟨.int b.length,H,I.tok _,⟨t,rfl⟩,hq _ _ _ _ Kp.refl hc ?_ h⟩
     rw [ZZ j];exact Cr
    | _=>exact False.elim h
  | _=>exact False.elim h
theorem Q0:fillsNumberSlot (.type "tuple") "mul" = pure false :=
 PySem.fillsNumberSlot_seq (id := "tuple.__mul__") (r:=some (.builtin "tuple.__rmul__")) eJ.lookup (by decide +kernel) PySem.F.slot_tuple_rmul.lookup (by decide +kernel)
theorem Q3:seqRepeat? (.type "tuple")=pure (some (.builtin "tuple.__mul__")):=by
 unfold seqRepeat?
 rw [PySem.seqSlot_of (T := "tuple") (name := "__mul__") (id := "tuple.__mul__") eJ.lookup (by decide +kernel),PySem.seqSlot_of (T := "tuple") (name := "__rmul__") (id := "tuple.__rmul__") PySem.F.slot_tuple_rmul.lookup (by decide +kernel)];rfl
section
variable(l:jH)(ae:Array i_)(n:Nat)(dd:Option jH)(sl:Array (Option i_))(t:Tok)
theorem Yi(a:Int):Meets (Builtin.«int.__rmul__» ⟨[.int a t,.ref l],[]⟩) (λ_ R s=>s.heap.get? l=some { cls:=.type "tuple",dict:=dd,data:=.seq ae n,slots:=sl }/\R (.ok (.ret Value.notImplemented)) s):=.of_wp λb w A R s h=>by
 obtain⟨hp,g,d,e,os⟩:=s;obtain⟨c,h⟩:=h;wp_walk using wpAny_loadPart' c;exact⟨_,rfl,h⟩
theorem Yj:Meets (Builtin.«tuple.__mul__» ⟨[.ref l,.int 1 t],[]⟩) (λ_ R s=>s.heap.get? l=some { cls:=.type "tuple",dict:=dd,data:=.seq ae n,slots:=sl }/\R (.ok (.ret (.ref l))) s):=.of_wp λa w A R s h=>by
 obtain⟨hp,g,d,c,os⟩:=s;obtain⟨b,h⟩:=h;have e:=AutoSeq1.idx_int;wp_walk using wpAny_loadPart' b;exact⟨_,rfl,h⟩
theorem Yk(h0:¬ae.isEmpty=true):Meets (Builtin.«tuple.__mul__» ⟨[.ref l,.int 0 t],[]⟩) (λ_ R s=>s.heap.get? l=some { cls:=.type "tuple",dict:=dd,data:=.seq ae n,slots:=sl }/\R (.ok (.ret (.ref s.heap.objs.size))) { s with heap:=s.heap.push { cls:=Value.type "tuple",data:=Data.seq #[] } }):=.of_wp λa w A R s h=>by
 obtain⟨hp,g,d,c,os⟩:=s;obtain⟨b,h⟩:=h;have e:=AutoSeq1.idx_int;wp_walk using wpAny_loadPart' b;exact⟨_,rfl,h⟩
end
def OW:A2:=λx y μ R=>match x,y with
 | .D (.tuple a),.D (.int n)=>(n=0\/n=1)/\a≠[]/\R (.D (.tuple (if n=0 then [] else a))) μ
 | _,_=>False
theorem JA{X:Cx}:VOp X (binaryOp .Mult) OW:=by
 intro L s σ H x y v u Q I rx ry zq
 refine Ey zq λa b μ R ra rb hc h hq=>?_
 cases a with
 | D d =>
  cases d with
  | tuple C =>
   cases b with
   | D e =>
    cases e with
    | int n =>
     obtain⟨h1,h2,h⟩:=h
     obtain⟨p,J,rfl,hp,g⟩:=(show Dk X.K H (.tuple C) x from ra).tup
     cases rx
     cases RelA.int rb
     obtain⟨t,rfl⟩:=ry
     obtain⟨f,G,E,_⟩:=I.tuple hp.sq
     have r:¬f.toArray.isEmpty=true:=λz=>by
      have e:f=[]:=by simpa using z
      have B:=G.nil_iff.mp e
      exact h2 (fK.mp (by rw [<- g.length,B];rfl))
     obtain⟨⟨w,dd,k,i⟩,c,hk,j,l⟩:=id E
     simp only at hk l
     subst hk l
     refine wpAny_binaryOp_repeat_ref (T := "tuple") (U := "int") (by decide) ⟨_,c,rfl⟩ (λA=>typeIs_int A n t) Q0 PySem.F.fills_int_mul PySem.F.slot_int_rmul Q3 PySem.F.slot_int_index.lookup (iV PySem.F.slot_int_rmul (typeIs_int s n t) PySem.F.entry_int_rmul (PySem.F.args_int_rmul_2 _ _) (Yi p f.toArray j dd i t n) ⟨c,rfl,⟨_,c,rfl⟩,?_⟩)
     rcases h1 with rfl | rfl
     ·have m:=I.hok.fresh (I_ s.heap.objs.size)
      refine iV eJ ⟨_,c,rfl⟩ PySem.F.entry_tuple_mul (PySem.F.args_tuple_mul_2 _ _) (Yk p f.toArray j dd i t r) ⟨c,.ref s.heap.objs.size,_,I.laid (t':=s.toks) (o:=.tup []) (λb M q=>DD _ q) (I_ _) ?_,rfl,hq _ _ _ _ (Kp.new m _) (hc.over m) (Px (Hc Bo Dm)) h⟩
      exact⟨YZ _,[],.nil,IsTup.new _ _⟩
     ·exact iV eJ ⟨_,c,rfl⟩ PySem.F.entry_tuple_mul (PySem.F.args_tuple_mul_2 _ _) (Yj p f.toArray j dd i t) ⟨c,.ref p,H,I,rfl,hq _ _ _ _ Kp.refl hc ra h⟩
    | _=>exact False.elim h
   | _=>exact False.elim h
  | _=>exact False.elim h
 | _=>exact False.elim h
end L2
namespace L2
open PySem PySem.W PyProof.Rows
noncomputable def cn(x:jR)(l:List jR):Nat:=@List.count _ (@instBEqOfDecidableEq _ λa b=>Classical.propDecidable (a=b)) x l
theorem Q4{l m:List jR}:l.Perm m↔∀x,cn x l=cn x m:=@List.perm_iff_count _ (@instBEqOfDecidableEq _ λa b=>Classical.propDecidable (a=b)) _ l m
theorem Ej(x:jR)(l m:List jR):cn x (l++m)=cn x l+cn x m:=@List.count_append _ (_) x l m
theorem Yl(x:jR)(l:List jR):cn x l.reverse=cn x l:=Q4.mp (List.reverse_perm l) x
noncomputable def cx(x:jR)(a:Array jR)(i j:Nat):Nat:=cn x (a.extract i j).toList
theorem Fo(x:jR)(a:Array jR){i j k:Nat}(h1:i<=j)(h2:j<=k):cx x a i k=cx x a i j+cx x a j k:=by
 unfold cx
 rw [<- Ej,<- bX,Array.extract_append_extract,Nat.min_eq_left h1,Nat.max_eq_right h2]
theorem Kh(x:jR)(a:Array jR):cx x a 0 a.size=cn x a.toList:=by unfold cx;rw [Array.extract_size]
theorem OX{a:Array jR}{i:Nat}(h:i < a.size):a.extract i (i+1)=#[a[i]]:=by
 apply Array.ext
 ·simp;omega
 ·intro j h1 h2
  have:j=0:=by simpa using h2
  subst this
  simp
def ML(a b o:Array jR)(i i' j c:Nat):Prop:=∀x,cn x o.toList+cx x a i i'+cx x b j c=cn x a.toList+cn x b.toList
def Mg(a b R:Array jR):Prop:=∀x,cn x R.toList=cn x a.toList+cn x b.toList
section
variable {a b o:Array jR}{i i' j j' m:Nat}
theorem ML.sw(h:ML a b o i i' j j'):ML b a o j j' i i':=λx=>by have:=h x;omega
theorem ML.loA(h:ML a b o i i' j j')(h1:i<=m)(h2:m<=i'):ML a b (o++a.extract i m) m i' j j':=λx=>by
 have:=h x
 have:=Fo x a h1 h2
 rw [bX,Ej]
 unfold cx at *
 omega
theorem ML.hiA(h:ML a b o i i' j j')(h1:i<=m)(h2:m<=i'):ML a b (o++(a.extract m i').reverse) i m j j':=λx=>by
 have:=h x
 have:=Fo x a h1 h2
 rw [bX,Ej,Array.toList_reverse,Yl]
 unfold cx at *
 omega
theorem ML.loB(h:ML a b o i i' j j')(h1:j<=m)(h2:m<=j'):ML a b (o++b.extract j m) i i' m j':=(h.sw.loA h1 h2).sw
theorem ML.hiB(h:ML a b o i i' j j')(h1:j<=m)(h2:m<=j'):ML a b (o++(b.extract m j').reverse) i i' j m:=(h.sw.hiA h1 h2).sw
theorem ML.puA(h:ML a b o i i' j j')(h1:i < i')(h2:i < a.size):ML a b (o.push a[i]) (i+1) i' j j':=by
 have:=h.loA (dC i) h1
 rw [OX h2]at this
 simpa using this
theorem ML.puB(h:ML a b o i i' j j')(h1:j < j')(h2:j < b.size):ML a b (o.push b[j]) i i' (j+1) j':=(h.sw.puA h1 h2).sw
theorem ML.poA(h:ML a b o i i' j j')(h1:i < i')(h2:i' - 1 < a.size):ML a b (o.push a[i' - 1]) i (i' - 1) j j':=by
 have:=h.hiA (m:=i' - 1) (Nat.le_sub_one_of_lt h1) (Nat.sub_le _ _)
 rw [show a.extract (i' - 1) i'=#[a[i' - 1]] from by rw [<- OX h2];congr 1;omega]at this
 simpa using this
theorem ML.poB(h:ML a b o i i' j j')(h1:j < j')(h2:j' - 1 < b.size):ML a b (o.push b[j' - 1]) i i' j (j' - 1):=(h.sw.poA h1 h2).sw
theorem ML.d1(h:ML a b o i i' j j'):Mg a b (o++a.extract i i'++b.extract j j'):=λx=>by
 have:=h x
 rw [bX,bX,Ej,Ej];exact this
theorem ML.d2(h:ML a b o i i' j j'):Mg a b (o++b.extract j j'++a.extract i i'):=λx=>by rw [h.sw.d1 x];omega
theorem ML.d3(h:ML a b o i i' j j'):Mg a b (a.extract i i'++b.extract j j'++o.reverse):=λx=>by
 have:=h x
 rw [bX,bX,Ej,Ej,Array.toList_reverse,Yl]
 unfold cx at this
 omega
theorem ML.d4(h:ML a b o i i' j j'):Mg a b (b.extract j j'++a.extract i i'++o.reverse):=λx=>by rw [h.sw.d3 x];omega
end
def AOk(a:List i_)(p:Array jR):Prop:=∀x∈p.toList,x.1∈a
theorem AOk.at{a:List i_}{p:Array jR}{i:Nat}(h:AOk a p)(b:i < p.size):p[i].1∈a:=h _ (by simp)
theorem AOk.pm{a:List i_}{p q:Array jR}(h:AOk a p)(k:q.toList.Perm p.toList):AOk a q:=λx hx=>h x (k.mem_iff.mp hx)
theorem AOk.ex{a:List i_}{p:Array jR}{i j:Nat}(h:AOk a p):AOk a (p.extract i j):=λx hx=>h x (by
 rw [gQ]at hx
 exact gO (dO (by rwa [eZ]at hx)))
section
variable {prog:jJ}{w:jK}{A:jM}{E:i_->jA->Prop}{s:jA}{κ:jW}{vs:List i_}
def Ew(prog:jJ)(w:jK)(A:jM)(κ:jW)(vs:List i_)(s:jA):Prop :=
 ∀u∈vs,∀v∈vs,∃c:Bool,∀C:Bool->jA->Prop,C c s->wpAny (model prog w) A (keyLt' κ u v) C (λ_ _=>False) s
theorem Ym(hc:Ew prog w A κ vs s){st:jV}(hk:kindOf st=κ){x y:jR}(hx:x.1∈vs)(hy:y.1∈vs){Q:Option Bool->jV->Prop}(h:∀c,Q (some c) st):wpS (model prog w) A E s (lt' x y) Q st:=by
 obtain⟨c,hc⟩:=hc _ hx _ hy
 rw [lt'_eq]
 refine T_ (gC ?_)
 rw [hk]
 refine T_ (iT (bO (aP (hc (λe a=>a=s/\e=c) ⟨rfl,rfl⟩) (λc a b=>?_) λ_ _ d=>d.elim)))
 obtain⟨rfl,rfl⟩:=b
 exact⟨rfl,V_ (h _)⟩
theorem Bz{st:jV}{p:Array jR}{i:Nat}(a:i < p.size){Q:jR->jV->Prop}(h:Q p[i] st):wpS (model prog w) A E s (elem' p i) Q st:=by
 rw [elem'_eq,YX a]
 exact V_ h
theorem JG{ρ:Type}{m n:Nat}{F:Nat->Option ρ×Nat×Nat->StateT jV Sem (ForInStep (Option ρ×Nat×Nat))}{st:jV}
  (l:∀x lo d (Q:ForInStep (Option ρ×Nat×Nat)->jV->Prop),lo<=d->d<=m->(lo=d->Q (.done (none,lo,d)) st)->(∀i f,i<=f->f<=m->f - i < d - lo->Q (.yield (none,i,f)) st)->wpS (model prog w) A E s (F x (none,lo,d)) Q st)
  {lo d:Nat} (h1:lo<=d) (h2:d<=m) (j:d - lo<=n) {Q:Option ρ×Nat×Nat->jV->Prop} (h:∀k,k<=m->Q (none,k,k) st):wpS (model prog w) A E s (forIn [0:n] ((none,lo,d):Option ρ×Nat×Nat) F) Q st:=by
 refine bW (aX (I:=λx c g=>g=st/\∃lo d,c=(none,lo,d)/\lo<=d/\d<=m/\d - lo<=n - x) (Q:=λc g=>g=st/\∃k,c=(none,k,k)/\k<=m) ?_ ?_ ⟨rfl,lo,d,rfl,h1,h2,j⟩) ?_
 ·rintro x c g _ hx ⟨rfl,lo,d,rfl,h1,h2,j⟩
  exact l x lo d _ h1 h2 (λe=>⟨rfl,lo,by rw [e],by omega⟩) λi f a b c=>⟨rfl,i,f,rfl,a,b,by omega⟩
 ·rintro c g ⟨rfl,lo,d,rfl,h1,h2,j⟩
  exact⟨rfl,lo,by rw [show d=lo by omega],by omega⟩
 ·rintro c g ⟨rfl,k,rfl,hk⟩
  exact h k hk
theorem Yn{left:Bool}{j:jR}{q:Array jR}{base m e:Nat}{st:jV}(o:e < m)
  (l:∀i Q,i < m->(∀c,Q (some c) st)->wpS (model prog w) A E s (byd left j q base i) Q st) {Q:Option Nat->jV->Prop} (h:∀k,k<=m->Q (some k) st):wpS (model prog w) A E s (gallop' left j q base m e) Q st:=by
 rw [Pz]
 dsimp only
 refine T_ (l e _ o λr=>?_)
 dsimp only
 cases r with
 | true =>
  rw [S_ rfl]
  refine T_ (bW (aX (I:=λx c g=>g=st/\∃f d,c=(none,f,d)/\f < d/\f < m - e) (Q:=λc g=>g=st/\∃f d,c=(none,f,d)/\f < d/\f < m - e) ?_ (λ_ _ z=>z) ⟨rfl,0,1,rfl,g_ _,Nat.sub_pos_of_lt o⟩) ?_)
  ·rintro x c g _ hx ⟨rfl,f,d,rfl,h1,h2⟩
   dsimp only
   by_cases c:d>=m - e
   ·rw [S_ c]
    exact V_ ⟨rfl,f,d,rfl,h1,h2⟩
   ·rw [M_ c]
    refine T_ (l _ _ (by omega) λc=>?_)
    cases c
    ·exact V_ ⟨rfl,f,d,rfl,h1,h2⟩
    ·exact V_ ⟨rfl,d,_,rfl,by omega,Nat.lt_of_not_le c⟩
  ·rintro c g ⟨rfl,f,d,rfl,h1,h2⟩
   dsimp only
   refine T_ (JG (m:=m) (λx lo n t a b p hy=>?_) (by omega) (by omega) (by omega) λk hk=>V_ (h k hk))
   dsimp only
   by_cases c:lo>=n
   ·rw [S_ c]
    exact V_ (p (by omega))
   ·rw [M_ c]
    refine T_ (l _ _ (by omega) λc=>?_)
    cases c
    ·exact V_ (hy _ _ (by omega) (by omega) (by omega))
    ·exact V_ (hy _ _ (by omega) (by omega) (by omega))
 | false =>
  rw [M_ R_]
  refine T_ (bW (aX (I:=λx c g=>g=st/\∃f d,c=(none,f,d)/\f < d/\f<=e) (Q:=λc g=>g=st/\∃f d,c=(none,f,d)/\f < d/\f<=e) ?_ (λ_ _ z=>z) ⟨rfl,0,1,rfl,g_ _,YZ _⟩) ?_)
  ·rintro x c g _ hx ⟨rfl,f,d,rfl,h1,h2⟩
   dsimp only
   by_cases c:d>=e+1
   ·rw [S_ c]
    exact V_ ⟨rfl,f,d,rfl,h1,h2⟩
   ·rw [M_ c]
    refine T_ (l _ _ (dF (Nat.sub_le e d) o) λc=>?_)
    cases c
    ·exact V_ ⟨rfl,d,_,rfl,by omega,by omega⟩
    ·exact V_ ⟨rfl,f,d,rfl,h1,h2⟩
  ·rintro c g ⟨rfl,f,d,rfl,h1,h2⟩
   dsimp only
   refine T_ (JG (m:=m) (λx lo n t a b p hy=>?_) (by omega) (by omega) (by omega) λk hk=>V_ (h k hk))
   dsimp only
   by_cases c:lo>=n
   ·rw [S_ c]
    exact V_ (p (by omega))
   ·rw [M_ c]
    refine T_ (l _ _ (by omega) λc=>?_)
    cases c
    ·exact V_ (hy _ _ (by omega) (by omega) (by omega))
    ·exact V_ (hy _ _ (by omega) (by omega) (by omega))
theorem LJ{left:Bool}(hc:Ew prog w A κ vs s){st:jV}(hk:kindOf st=κ){p:Array jR}{b:jR}{base m a:Nat}(e:a < m)(hb:base+m<=p.size)(hp:AOk vs p)(d:b.1∈vs){Q:Option Nat->jV->Prop}(h:∀k,k<=m->Q (some k) st):wpS (model prog w) A E s (gallop' left b p base m a) Q st:=by
 refine Yn e (λi g f q=>?_) h
 unfold byd
 refine T_ (Bz (by omega) ?_)
 cases left
 ·exact T_ (Ym hc hk d (hp.at _) λc=>V_ (q _))
 ·exact Ym hc hk (hp.at _) d q
structure LMid(a b:Array jR)(q:Nat)(o:Array jR)(ia ib:Nat):Prop where
 m:ML a b o ia a.size ib b.size
 ha:ia+1 < a.size
 hb:ib < b.size
 q:q<=ia+ib
structure RMid(a b:Array jR)(q:Nat)(o:Array jR)(na nb:Nat):Prop where
 m:ML a b o 0 na 0 nb
 h1:na<=a.size
 h2:nb<=b.size
 ha:0 < na
 hb:1 < nb
 q:na+nb+q<=a.size+b.size
section
variable {a b out:Array jR}{st:jV}{Qd Qy:OH->jV->Prop}{ia ib mg ac bc:Nat}
theorem OY(M:ML a b out ia a.size ib b.size)(ha:ia+1 < a.size)(hb:ib < b.size)(d:∀R c,Mg a b R->c.1=some R->Qd c st)(h:∀o i j m x y,LMid a b (ia+ib+1) o i j->Qd (none,o,i,j,m,x,y) st/\Qy (none,o,i,j,m,x,y) st) :
  wpS (model prog w) A E s (BQ a b out ia ib mg ac bc) (λr f=>match r with | .done c'=>Qd c' f | .yield c'=>Qy c' f) st:=by
 unfold BQ
 refine T_ (Bz (aH ha) ?_)
 have M1:=M.puA (aH ha) (aH ha)
 by_cases e:ia+1+1=a.size
 ·rw [S_ (by simpa using e)]
  exact V_ (d _ _ M1.d2 rfl)
 ·rw [M_ (by simpa using e)]
  have g:=h _ _ _ mg ac bc ⟨M1,by omega,hb,by omega⟩
  split
  ·exact V_ g.1
  ·exact V_ g.2
theorem OZ(hc:Ew prog w A κ vs s)(hk:kindOf st=κ)(t:AOk vs a)(u:AOk vs b)(M:ML a b out ia a.size ib b.size)(ha:ia+1 < a.size)(hb:ib < b.size)(d:∀R c,Mg a b R->c.1=some R->Qd c st)(p:∀o i j m x y,LMid a b (ia+ib+1) o i j->Qd (none,o,i,j,m,x,y) st/\Qy (none,o,i,j,m,x,y) st) :
  wpS (model prog w) A E s (BR a b out ia ib mg ac bc) (λr l=>match r with | .done c'=>Qd c' l | .yield c'=>Qy c' l) st:=by
 unfold BR
 refine T_ (Bz hb ?_)
 have M1:=M.puB hb hb
 have f:∀k,∀o i j m x y,LMid a b (ia+(ib+1+k)+1) o i j->Qd (none,o,i,j,m,x,y) st/\Qy (none,o,i,j,m,x,y) st:=λk o i j m x y h=>p o i j m x y ⟨h.m,h.ha,h.hb,by have:=h.q;omega⟩
 by_cases e:ib+1=b.size
 ·rw [S_ (by simpa using e)]
  exact V_ (d _ _ M1.d1 rfl)
 ·rw [M_ (by simpa using e)]
  refine T_ (Bz (aH ha) (T_ (LJ hc hk (by omega) (by omega) u (t.at _) λk v=>?_)))
  dsimp only
  by_cases g:k > 0
  ·rw [S_ g]
   have M2:=M1.loB (m:=ib+1+k) (dD _ _) (by omega)
   by_cases n:ib+1+k=b.size
   ·rw [S_ (by simpa using n)]
    exact V_ (d _ _ M2.d1 rfl)
   ·rw [M_ (by simpa using n)]
    exact OY M2 ha (by omega) d (f k)
  ·rw [M_ g]
   exact OY M1 ha (by omega) d (f 0)
theorem VJ(hc:Ew prog w A κ vs s)(hk:kindOf st=κ)(e:AOk vs a)(f:AOk vs b)(M:ML a b out ia a.size ib b.size)(ha:ia+1 < a.size)(hb:ib < b.size)(d:∀R c,Mg a b R->c.1=some R->Qd c (Ch st mg))(n:∀o i j m x y,LMid a b (ia+ib+1) o i j->Qd (none,o,i,j,m,x,y) (Ch st mg)/\Qy (none,o,i,j,m,x,y) (Ch st mg)) :
  wpS (model prog w) A E s (IF a b out ia ib mg ac bc) (λr p=>match r with | .done c'=>Qd c' p | .yield c'=>Qy c' p) st:=by
 unfold IF
 rw [Cj]
 refine T_ (cY (T_ (Bz hb (T_ (LJ hc (st:=Ch st mg) hk (by omega) (by omega) e (f.at _) λk u=>?_)))))
 dsimp only
 by_cases g:k > 0
 ·rw [S_ g]
  have M1:=M.loA (m:=ia+k) (dD _ _) (by omega)
  by_cases l:ia+k+1=a.size
  ·rw [S_ (by simpa using l)]
   exact V_ (d _ _ M1.d2 rfl)
  ·rw [M_ (by simpa using l)]
   by_cases t:ia+k=a.size
   ·rw [S_ (by simpa using t)]
    exact V_ (d _ _ M1.d1 rfl)
   ·rw [M_ (by simpa using t)]
    exact OZ hc (st:=Ch st mg) hk e f M1 (by omega) hb d λo i j m x y h=>n o i j m x y ⟨h.m,h.ha,h.hb,by have:=h.q;omega⟩
 ·rw [M_ g]
  exact OZ hc (st:=Ch st mg) hk e f M ha hb d n
end
section
variable {a b out:Array jR}{st:jV}{Qd Qy:OI->jV->Prop}{na nb mg ac bc q:Nat}
theorem PB(M:RMid a b q out na nb)(d:∀R c,Mg a b R->c.1=some R->Qd c st)(k:∀o i j m x y,RMid a b (q+1) o i j->Qd (none,i,j,o,m,x,y) st/\Qy (none,i,j,o,m,x,y) st) :
  wpS (model prog w) A E s (BS a b out na nb mg ac bc) (λr f=>match r with | .done c'=>Qd c' f | .yield c'=>Qy c' f) st:=by
 obtain⟨M,h1,h2,ha,hb,hq⟩:=M
 unfold BS
 refine T_ (Bz (by omega) ?_)
 have M1:=M.poA ha (by omega)
 by_cases e:na - 1=0
 ·rw [S_ (by simpa using e)]
  exact V_ (d _ _ M1.d3 rfl)
 ·rw [M_ (by simpa using e)]
  have g:=k _ _ _ mg ac bc ⟨M1,by omega,h2,eG e,hb,by omega⟩
  by_cases h:(decide (ac < 7) && decide (bc < 7))=true
  ·rw [S_ h];exact V_ g.1
  ·rw [M_ h];exact V_ g.2
theorem PD(hc:Ew prog w A κ vs s)(hk:kindOf st=κ)(p:AOk vs a)(u:AOk vs b)(M:RMid a b q out na nb)(d:∀R c,Mg a b R->c.1=some R->Qd c st)(h:∀o i j m x y,RMid a b (q+1) o i j->Qd (none,i,j,o,m,x,y) st/\Qy (none,i,j,o,m,x,y) st) :
  wpS (model prog w) A E s (BT a b out na nb mg ac bc) (λr l=>match r with | .done c'=>Qd c' l | .yield c'=>Qy c' l) st:=by
 obtain⟨M,h1,h2,ha,hb,hq⟩:=M
 unfold BT
 refine T_ (Bz (by omega) ?_)
 have M1:=M.poB (aH hb) (by omega)
 by_cases e:nb - 1=1
 ·rw [S_ (by simpa using e)]
  exact V_ (d _ _ M1.d4 rfl)
 ·rw [M_ (by simpa using e)]
  refine T_ (Bz (by omega) (T_ (LJ hc hk (by omega) (by omega) u (p.at _) λk t=>?_)))
  dsimp only
  by_cases f:nb - 1 - k > 0
  ·rw [S_ f]
   have M2:=M1.hiB (m:=k) (YZ _) t
   by_cases g:k=1
   ·rw [S_ (by simpa using g)]
    exact V_ (d _ _ M2.d4 rfl)
   ·rw [M_ (by simpa using g)]
    by_cases n:k=0
    ·rw [S_ (by simpa using n)]
     exact V_ (d _ _ M2.d3 rfl)
    ·rw [M_ (by simpa using n)]
     exact PB ⟨M2,h1,by omega,ha,by omega,by omega⟩ d h
  ·rw [M_ f]
   exact PB ⟨M1,h1,by omega,ha,by omega,by omega⟩ d h
theorem VL(hc:Ew prog w A κ vs s)(hk:kindOf st=κ)(e:AOk vs a)(f:AOk vs b)(M:RMid a b q out na nb)(d:∀R c,Mg a b R->c.1=some R->Qd c (Ch st mg))(l:∀o i j m x y,RMid a b (q+1) o i j->Qd (none,i,j,o,m,x,y) (Ch st mg)/\Qy (none,i,j,o,m,x,y) (Ch st mg)) :
  wpS (model prog w) A E s (IG a b out na nb mg ac bc) (λr n=>match r with | .done c'=>Qd c' n | .yield c'=>Qy c' n) st:=by
 obtain⟨M,h1,h2,ha,hb,hq⟩:=M
 unfold IG
 rw [Cj]
 refine T_ (cY (T_ (Bz (by omega) (T_ (LJ hc (st:=Ch st mg) hk (Nat.sub_lt ha (by decide)) (by omega) e (f.at _) λk p=>?_)))))
 dsimp only
 by_cases g:na - k > 0
 ·rw [S_ g]
  have M1:=M.hiA (m:=k) (YZ _) p
  by_cases h:k=0
  ·rw [S_ (by simpa using h)]
   exact V_ (d _ _ M1.d3 rfl)
  ·rw [M_ (by simpa using h)]
   exact PD hc (st:=Ch st mg) hk e f ⟨M1,by omega,h2,by omega,hb,by omega⟩ d l
 ·rw [M_ g]
  exact PD hc (st:=Ch st mg) hk e f ⟨M,h1,h2,ha,hb,hq⟩ d l
end
theorem U6(hc:Ew prog w A κ vs s){a b:Array jR}{st:jV}(hk:kindOf st=κ)(L:AOk vs a)(O:AOk vs b)(T:0 < a.size)(G:0 < b.size){Q:Array jR->jV->Prop}(h:∀R g,Mg a b R->Q R (Ch st g)):wpS (model prog w) A E s (mergeLo' a b) Q st:=by
 rw [N7]
 dsimp only
 have F:ML a b #[b[0]] 0 a.size 1 b.size:=ML.puB (o:=#[]) (j:=0) (λx=>by rw [Kh,Kh];show 0+_+_=_;omega) G G
 refine T_ (iT (bE ⟨rfl,?_⟩))
 refine T_ (Bz G ?_)
 by_cases J:1=b.size
 ·rw [S_ (by simpa using J)]
  exact V_ (h _ (gallopOf st) F.d1)
 rw [M_ (by simpa using J)]
 by_cases N:0+1=a.size
 ·rw [S_ (by simpa using N)]
  exact V_ (h _ (gallopOf st) F.d2)
 rw [M_ (by simpa using N)]
 refine T_ (gC ?_)
 refine T_ (bW (aX (I:=λx c d=>(∃g,d=Ch st g)/\c.1=none/\LMid a b (1+x) c.2.1 c.2.2.1 c.2.2.2.1) (Q:=λc d=>(∃g,d=Ch st g)/\∃R,c.1=some R/\Mg a b R) ?_ ?_ ⟨⟨gallopOf st,rfl⟩,rfl,F,by show 0+1 < _;omega,by show 1 < _;omega,by show 1+0<=0+1;exact I_ _⟩) ?_)
 ·rintro x ⟨C,o,U,S,f⟩ d _ hx ⟨⟨g,rfl⟩,rfl,M⟩
  dsimp only at M ⊢
  refine T_ (bW (aX (I:=λy c d=>d=Ch st g/\c.1=none/\LMid a b (1+x+y) c.2.1 c.2.2.1 c.2.2.2.1) (Q:=λc d=>d=Ch st g/\((∃R,c.1=some R/\Mg a b R)\/(c.1=none/\LMid a b (1+x+1) c.2.1 c.2.2.1 c.2.2.2.1))) ?_ ?_ ⟨rfl,rfl,M⟩) ?_)
  ·clear M
   rintro y ⟨C,o,k,l,v,z⟩ d _ hy ⟨rfl,rfl,M,ha,hb,B⟩
   dsimp only at M ha hb B ⊢
   refine T_ (Bz hb (T_ (Bz (aH ha) (T_ (Ym hc (st:=Ch st g) hk (O.at _) (L.at _) λc=>?_)))))
   dsimp only
   cases c with
   | true =>
    rw [S_ rfl]
    refine T_ (Bz hb ?_)
    have M1:=M.puB hb hb
    by_cases D:l+1=b.size
    ·rw [S_ (by simpa using D)]
     exact V_ ⟨rfl,.inl ⟨_,rfl,M1.d1⟩⟩
    ·rw [M_ (by simpa using D)]
     by_cases t:z+1>=f <;> simp only [t,if_true,if_false]
     ·exact V_ ⟨rfl,.inr ⟨rfl,M1,ha,by show l+1 < _;omega,by show _<=k+(l+1);omega⟩⟩
     ·exact V_ ⟨rfl,rfl,M1,ha,by show l+1 < _;omega,by show _<=k+(l+1);omega⟩
   | false =>
    rw [M_ R_]
    refine T_ (Bz (aH ha) ?_)
    have M1:=M.puA (aH ha) (aH ha)
    by_cases D:k+1+1=a.size
    ·rw [S_ (by simpa using D)]
     exact V_ ⟨rfl,.inl ⟨_,rfl,M1.d2⟩⟩
    ·rw [M_ (by simpa using D)]
     by_cases t:v+1>=f <;> simp only [t,if_true,if_false]
     ·exact V_ ⟨rfl,.inr ⟨rfl,M1,by show k+1+1 < _;omega,hb,by show _<=k+1+l;omega⟩⟩
     ·exact V_ ⟨rfl,rfl,M1,by show k+1+1 < _;omega,hb,by show _<=k+1+l;omega⟩
  ·rintro c d ⟨_,_,M,H,P,B⟩
   omega
  ·rintro⟨C,o,k,l,v,z⟩ d ⟨rfl,⟨R,rfl,r⟩ | ⟨rfl,n⟩⟩
   ·exact V_ ⟨⟨g,rfl⟩,R,rfl,r⟩
   ·dsimp only at n ⊢
    refine T_ (iT (bE ⟨rfl,?_⟩))
    refine T_ (bW (aX (I:=λy c d=>(∃g,d=Ch st g)/\c.1=none/\LMid a b (1+x+1+y) c.2.1 c.2.2.1 c.2.2.2.1) (Q:=λc d=>(∃g,d=Ch st g)/\((∃R,c.1=some R/\Mg a b R)\/(c.1=none/\LMid a b (1+x+1) c.2.1 c.2.2.1 c.2.2.2.1))) ?_ ?_ ⟨⟨g,rfl⟩,rfl,n⟩) ?_)
    ·clear n
     rintro y ⟨C,o,k,l,f,v,z⟩ d _ hy ⟨⟨g,rfl⟩,rfl,M,ha,hb,B⟩
     dsimp only at M ha hb B ⊢
     have u:∀f,wpS (model prog w) A E s (IF a b o k l f v z) _ (Ch st g):=λf =>
      VJ (Qd:=λc d=>(∃g,d=Ch st g)/\((∃R,c.1=some R/\Mg a b R)\/(c.1=none/\LMid a b (1+x+1) c.2.1 c.2.2.1 c.2.2.2.1)))
       (Qy:=λc d=>(∃g,d=Ch st g)/\c.1=none/\LMid a b (1+x+1+(y+1)) c.2.1 c.2.2.1 c.2.2.2.1) hc (st:=Ch st g) hk L O M ha hb (λR c r e=>⟨⟨f,rfl⟩,.inl ⟨R,e,r⟩⟩)
       λo i j m x y p=>⟨⟨⟨f,rfl⟩,.inr ⟨rfl,p.m,p.ha,p.hb,by have:=p.q;show _<=i+j;omega⟩⟩,⟨f,rfl⟩,rfl,p.m,p.ha,p.hb,by have:=p.q;show _<=i+j;omega⟩
     by_cases t:f > 1
     ·rw [S_ t]
      refine bW (u (f - 1)) ?_
      rintro(c | c) d hh <;> exact hh
     ·rw [M_ t]
      refine bW (u f) ?_
      rintro(c | c) d hh <;> exact hh
    ·rintro c d ⟨⟨g,rfl⟩,h1,h2⟩
     exact⟨⟨g,rfl⟩,.inr ⟨h1,h2.m,h2.ha,h2.hb,by have:=h2.q;omega⟩⟩
    ·rintro⟨C,o,k,l,f,v,z⟩ d ⟨⟨g,rfl⟩,⟨R,rfl,r⟩ | ⟨rfl,n⟩⟩
     ·exact V_ ⟨⟨g,rfl⟩,R,rfl,r⟩
     ·dsimp only at n ⊢
      rw [Cj]
      exact T_ (cY (V_ ⟨⟨_,rfl⟩,rfl,n.m,n.ha,n.hb,by have:=n.q;show _<=k+l;omega⟩))
 ·rintro c d ⟨_,_,M,H,P,B⟩
  omega
 ·rintro⟨C,o⟩ d ⟨⟨g,rfl⟩,R,rfl,r⟩
  exact V_ (h R g r)
theorem U7(hc:Ew prog w A κ vs s){a b:Array jR}{st:jV}(hk:kindOf st=κ)(J:AOk vs a)(N:AOk vs b)(O:0 < a.size)(T:0 < b.size){Q:Array jR->jV->Prop}(h:∀R g,Mg a b R->Q R (Ch st g)):wpS (model prog w) A E s (mergeHi' a b) Q st:=by
 rw [N8]
 dsimp only
 have F:ML a b #[a[a.size - 1]'(by omega)] 0 (a.size - 1) 0 b.size:=ML.poA (o:=#[]) (i:=0) (i':=a.size) (λx=>by rw [Kh,Kh];show 0+_+_=_;omega) O (by omega)
 refine T_ (iT (bE ⟨rfl,?_⟩))
 refine T_ (Bz (by omega) ?_)
 by_cases D:a.size - 1=0
 ·rw [S_ (by simpa using D)]
  exact V_ (h _ (gallopOf st) F.d3)
 rw [M_ (by simpa using D)]
 by_cases L:b.size=1
 ·rw [S_ (by simpa using L)]
  exact V_ (h _ (gallopOf st) F.d4)
 rw [M_ (by simpa using L)]
 refine T_ (gC ?_)
 refine T_ (bW (aX (I:=λx c d=>(∃g,d=Ch st g)/\c.1=none/\RMid a b (1+x) c.2.2.2.1 c.2.1 c.2.2.1) (Q:=λc d=>(∃g,d=Ch st g)/\∃R,c.1=some R/\Mg a b R) ?_ ?_ ⟨⟨gallopOf st,rfl⟩,rfl,F,Nat.sub_le _ _,I_ _,eG D,by show 1 < b.size;omega,by show a.size - 1+b.size+(1+0)<=_;omega⟩) ?_)
 ·rintro x ⟨C,U,S,o,k⟩ d _ hx ⟨⟨g,rfl⟩,rfl,M⟩
  dsimp only at M ⊢
  refine T_ (bW (aX (I:=λy c d=>d=Ch st g/\c.1=none/\RMid a b (1+x+y) c.2.2.2.1 c.2.1 c.2.2.1) (Q:=λc d=>d=Ch st g/\((∃R,c.1=some R/\Mg a b R)\/(c.1=none/\RMid a b (1+x+1) c.2.2.2.1 c.2.1 c.2.2.1))) ?_ ?_ ⟨rfl,rfl,M⟩) ?_)
  ·clear M
   rintro y ⟨C,n,f,o,z,B⟩ d _ hy ⟨rfl,rfl,M,h1,h2,ha,hb,G⟩
   dsimp only at M h1 h2 ha hb G ⊢
   refine T_ (Bz (by omega) (T_ (Bz (by omega) (T_ (Ym hc (st:=Ch st g) hk (N.at _) (J.at _) λc=>?_)))))
   dsimp only
   cases c with
   | true =>
    rw [S_ rfl]
    refine T_ (Bz (by omega) ?_)
    have M1:=M.poA ha (by omega)
    by_cases t:n - 1=0
    ·rw [S_ (by simpa using t)]
     exact V_ ⟨rfl,.inl ⟨_,rfl,M1.d3⟩⟩
    ·rw [M_ (by simpa using t)]
     by_cases u:z+1>=k <;> simp only [u,if_true,if_false]
     ·exact V_ ⟨rfl,.inr ⟨rfl,M1,by show n - 1<=_;omega,h2,eG t,hb,by show n - 1+f+_<=_;omega⟩⟩
     ·exact V_ ⟨rfl,rfl,M1,by show n - 1<=_;omega,h2,eG t,hb,by show n - 1+f+_<=_;omega⟩
   | false =>
    rw [M_ R_]
    refine T_ (Bz (by omega) ?_)
    have M1:=M.poB (aH hb) (by omega)
    by_cases t:f - 1=1
    ·rw [S_ (by simpa using t)]
     exact V_ ⟨rfl,.inl ⟨_,rfl,M1.d4⟩⟩
    ·rw [M_ (by simpa using t)]
     by_cases u:B+1>=k <;> simp only [u,if_true,if_false]
     ·exact V_ ⟨rfl,.inr ⟨rfl,M1,h1,by show f - 1<=_;omega,ha,by show 1 < f - 1;omega,by show n+(f - 1)+_<=_;omega⟩⟩
     ·exact V_ ⟨rfl,rfl,M1,h1,by show f - 1<=_;omega,ha,by show 1 < f - 1;omega,by show n+(f - 1)+_<=_;omega⟩
  ·rintro c d ⟨_,_,M,h1,h2,H,P,G⟩
   omega
  ·rintro⟨C,n,f,o,z,B⟩ d ⟨rfl,⟨R,rfl,r⟩ | ⟨rfl,p⟩⟩
   ·exact V_ ⟨⟨g,rfl⟩,R,rfl,r⟩
   ·dsimp only at p ⊢
    refine T_ (iT (bE ⟨rfl,?_⟩))
    refine T_ (bW (aX (I:=λy c d=>(∃g,d=Ch st g)/\c.1=none/\RMid a b (1+x+1+y) c.2.2.2.1 c.2.1 c.2.2.1) (Q:=λc d=>(∃g,d=Ch st g)/\((∃R,c.1=some R/\Mg a b R)\/(c.1=none/\RMid a b (1+x+1) c.2.2.2.1 c.2.1 c.2.2.1))) ?_ ?_ ⟨⟨g,rfl⟩,rfl,p⟩) ?_)
    ·clear p
     rintro y ⟨C,n,f,o,k,z,B⟩ d _ hy ⟨⟨g,rfl⟩,rfl,M⟩
     dsimp only at M ⊢
     have v:∀k,wpS (model prog w) A E s (IG a b o n f k z B) _ (Ch st g):=λk =>
      VL (Qd:=λc d=>(∃g,d=Ch st g)/\((∃R,c.1=some R/\Mg a b R)\/(c.1=none/\RMid a b (1+x+1) c.2.2.2.1 c.2.1 c.2.2.1)))
       (Qy:=λc d=>(∃g,d=Ch st g)/\c.1=none/\RMid a b (1+x+1+(y+1)) c.2.2.2.1 c.2.1 c.2.2.1) hc (st:=Ch st g) hk J N (q:=1+x+1+y) M (λR c r e=>⟨⟨k,rfl⟩,.inl ⟨R,e,r⟩⟩)
       λo i j m x y l=>⟨⟨⟨k,rfl⟩,.inr ⟨rfl,l.m,l.h1,l.h2,l.ha,l.hb,by have:=l.q;show i+j+_<=_;omega⟩⟩,⟨k,rfl⟩,rfl,l.m,l.h1,l.h2,l.ha,l.hb,by have:=l.q;show i+j+_<=_;omega⟩
     by_cases u:k > 1
     ·rw [S_ u]
      refine bW (v (k - 1)) ?_
      rintro(c | c) d hh <;> exact hh
     ·rw [M_ u]
      refine bW (v k) ?_
      rintro(c | c) d hh <;> exact hh
    ·rintro c d ⟨⟨g,rfl⟩,h1,h2⟩
     exact⟨⟨g,rfl⟩,.inr ⟨h1,h2.m,h2.h1,h2.h2,h2.ha,h2.hb,by have:=h2.q;omega⟩⟩
    ·rintro⟨C,n,f,o,k,z,B⟩ d ⟨⟨g,rfl⟩,⟨R,rfl,r⟩ | ⟨rfl,p⟩⟩
     ·exact V_ ⟨⟨g,rfl⟩,R,rfl,r⟩
     ·dsimp only at p ⊢
      rw [Cj]
      exact T_ (cY (V_ ⟨⟨_,rfl⟩,rfl,p.m,p.h1,p.h2,p.ha,p.hb,by have:=p.q;show n+f+_<=_;omega⟩))
 ·rintro c d ⟨_,_,M,h1,h2,H,P,G⟩
  omega
 ·rintro⟨C,o⟩ d ⟨⟨g,rfl⟩,R,rfl,r⟩
  exact V_ (h R g r)
def SZq(κ:jW)(p:Array jR)(a:Array (Nat×Nat×Nat))(g:Nat):jV:=SortSt.mk' κ p a g none
theorem JH{α:Type}(a:Nat)(R:List α)(p:Array α)(h:a+R.length<=p.size):(wr a R 0 p).toList=p.toList.take a++R++p.toList.drop (a+R.length):=by
 apply fZ
 intro i
 rw [YN,Xb a R 0 p h]
 simp only [Nat.add_zero]
 have b:(p.toList.take a).length=a:=by rw [ZX,YS];omega
 by_cases h1:i < a
 ·rw [M_ (by omega),fV,aT (by omega),List.getElem?_take_of_lt h1,YN]
 ·by_cases h2:i < a+R.length
  ·rw [S_ (by omega),aT (by rw [L_];omega),aD (by omega),b]
  ·rw [M_ (by omega),aD (by rw [L_];omega),L_,b,List.getElem?_drop,YN]
   congr 1;omega
theorem PF(x:jR)(a:Nat)(R:List jR)(p:Array jR)(h:a+R.length<=p.size):cn x (wr a R 0 p).toList=cx x p 0 a+cn x R+cx x p (a+R.length) p.size:=by
 rw [JH a R p h,Ej,Ej]
 unfold cx
 rw [gQ,gQ,eZ,eZ,Nat.sub_zero,fS]
 congr 2
 rw [dB (by rw [gJ,YS];exact I_ _)]
theorem U8(hc:Ew prog w A κ vs s){p:Array jR}{d:Array (Nat×Nat×Nat)}{g i b c l f q:Nat}(hp:AOk vs p)(h1:d[i]?=some (b,c,l))(h2:d[i+1]?=some (b+c,f,q))(ha:0 < c)(hb:0 < f)(hs:b+c+f<=p.size){Q:Bool->jV->Prop}
  (h:∀v g',v.toList.Perm p.toList->Q true (SZq κ v ((d.setIfInBounds i (b,c+f,l)).eraseIdxIfInBounds (i+1)) g')):wpS (model prog w) A E s (mergeAt' i) Q (SZq κ p d g):=by
 rw [N9]
 refine T_ (gC ?_)
 have y:(pendingOf (SZq κ p d g))[i]?=some (b,c,l):=h1
 have C:(pendingOf (SZq κ p d g))[i+1]?=some (b+c,f,q):=h2
 rw [y,C]
 dsimp only
 rw [show arrOf (SZq κ p d g)=p from rfl]
 refine T_ (BU (T_ (Bz (by omega) (T_ (LJ hc (st:=SZq κ p ((d.setIfInBounds i (b,c+f,l)).eraseIdxIfInBounds (i+1)) g) rfl ha (Q_ (dD (b+c) f) hs) hp (hp.at _) λk I=>?_)))))
 dsimp only
 by_cases u:c - k=0
 ·rw [S_ (by simpa using u)]
  exact V_ (h p g (.refl _))
 rw [M_ (by simpa using u)]
 refine T_ (Bz (by omega) (T_ (LJ hc (st:=SZq κ p ((d.setIfInBounds i (b,c+f,l)).eraseIdxIfInBounds (i+1)) g) rfl (Nat.sub_lt hb (by decide)) hs hp (hp.at _) λm m1=>?_)))
 dsimp only
 by_cases c2:m=0
 ·rw [S_ (by simpa using c2)]
  exact V_ (h p g (.refl _))
 rw [M_ (by simpa using c2)]
 have B:(p.extract (b+k) (b+c)).size=c - k:=by rw [Array.size_extract];omega
 have F:(p.extract (b+c) (b+c+m)).size=m:=by rw [Array.size_extract];omega
 have t:∀(R:Array jR) (g':Nat),Mg (p.extract (b+k) (b+c)) (p.extract (b+c) (b+c+m)) R->∀o,o=SZq κ p ((d.setIfInBounds i (b,c+f,l)).eraseIdxIfInBounds (i+1)) g' ->
   wpS (model prog w) A E s (do
    modify λs=>setArr s (R.toList.zipIdx.foldl (λa (p,j)=>a.setIfInBounds (b+k+j) p) (arrOf s))
    return (failedOf (<- get)).isNone) Q o:=λR g' n o e=>by
  subst e
  refine T_ (cY (T_ (gC (V_ ?_))))
  show Q true (SortSt.mk' κ (R.toList.zipIdx.foldl (λa (z:jR×Nat)=>a.setIfInBounds (b+k+z.2) z.1) p) _ g' none)
  rw [Ru]
  refine h _ g' (Q4.mpr λx=>?_)
  have D:R.toList.length=c - k+m:=by
   have:=(Q4.mpr λx=>by rw [Ej];exact n x:R.toList.Perm ((p.extract (b+k) (b+c)).toList++(p.extract (b+c) (b+c+m)).toList)).length_eq
   simp only [List.length_append,Array.length_toList,B,F]at this
   rw [YS];exact this
  have G:=n x
  have L:=Kh x p
  have a2:=Fo x p (YZ (b+k)) (show b+k<=p.size by omega)
  have J:=Fo x p (show b+k<=b+c by omega) (show b+c<=p.size by omega)
  have H:=Fo x p (show b+c<=b+c+m by omega) (show b+c+m<=p.size by omega)
  rw [PF x _ _ _ (by omega),D,show b+k+(c - k+m)=b+c+m by omega]
  unfold cx at *
  omega
 by_cases r:c - k<=m
 ·rw [S_ r]
  exact T_ (U6 hc rfl hp.ex hp.ex (by omega) (by omega) λR g' n=>t R g' n _ rfl)
 ·rw [M_ r]
  exact T_ (U7 hc rfl hp.ex hp.ex (by omega) (by omega) λR g' n=>t R g' n _ rfl)
section
variable {p:Array jR}{pd:Array (Nat×Nat×Nat)}{g:Nat}
theorem Hu(hc:Ew prog w A κ vs s)(hp:AOk vs p){i j:Nat}(a:i < p.size)(hj:j < p.size){Q:Option Bool->jV->Prop}(h:∀c,Q (some c) (SZq κ p pd g)):wpS (model prog w) A E s (ltAt' i j) Q (SZq κ p pd g):=by
 rw [ltAt'_eq]
 refine T_ (gC ?_)
 exact(show wpS _ _ _ _ (do let x <- elem' p i;let y <- elem' p j;lt' x y) Q _ from T_ (Bz a (T_ (Bz hj (Ym hc rfl (hp.at _) (hp.at _) h)))))
theorem Se{i j:Nat}{Q:Unit->jV->Prop}(h:∀a,a.toList.Perm p.toList->Q () (SZq κ a pd g)):wpS (model prog w) A E s (reverseSlice' i j) Q (SZq κ p pd g):=by
 rw [reverseSlice'_eq]
 exact cY (h _ (mirror_perm p i j _).toList)
theorem Fp{p q:Array jR}(h:q.toList.Perm p.toList):q.size=p.size:=by have:=h.length_eq;rwa [YS,YS]at this
theorem EY{ρ:Type}{b m:Nat}{st:jV}(h1:1<=m)(h:m<=b){F:Nat->Option ρ×Nat->StateT jV Sem (ForInStep (Option ρ×Nat))}
  (f:∀x k (Q:ForInStep (Option ρ×Nat)->jV->Prop),1<=k->k < b->Q (.done (none,k)) st->Q (.yield (none,k+1)) st->wpS (model prog w) A E s (F x (none,k)) Q st)
  {Q:Option ρ×Nat->jV->Prop} (e:∀k,1<=k->k<=b->Q (none,k) st):wpS (model prog w) A E s (forIn [m:b] ((none,m):Option ρ×Nat) F) Q st:=by
 refine bW (aX (I:=λx c d=>d=st/\c=(none,x)/\1<=x/\x<=b) (Q:=λc d=>d=st/\∃k,c=(none,k)/\1<=k/\k<=b) ?_ ?_ ⟨rfl,rfl,h1,h⟩) ?_
 ·rintro x c d _ hx ⟨rfl,rfl,a,a2⟩
  exact f x x _ a hx ⟨rfl,x,rfl,a,a2⟩ ⟨rfl,rfl,ZP a,hx⟩
 ·rintro c d ⟨rfl,rfl,a,a2⟩
  exact⟨rfl,_,rfl,a,a2⟩
 ·rintro c d ⟨rfl,k,rfl,a,a2⟩
  exact e k a a2
theorem Yo(hc:Ew prog w A κ vs s)(hp:AOk vs p){lo a m:Nat}(h1:1<=m)(l:m<=a)(hs:lo+a<=p.size){Q:Option Nat->jV->Prop}
  (h:∀k d,1<=k->k<=a->d.toList.Perm p.toList->Q (some k) (SZq κ d pd g)):wpS (model prog w) A E s (Xc lo a m) Q (SZq κ p pd g):=by
 unfold Xc
 refine T_ (Se λd b=>?_)
 have hz:=Fp b
 refine T_ (EY h1 l (λx k n e f i j=>T_ (Hu hc (hp.pm b) (by omega) (by omega) λc=>?_)) λk e f=>V_ (h k _ e f b))
 cases c
 ·exact V_ j
 ·exact V_ i
theorem Yp(hc:Ew prog w A κ vs s)(hp:AOk vs p){lo f m:Nat}(h1:1<=m)(u:m+1<=f)(hs:lo+f<=p.size){Q:Option Nat->jV->Prop}
  (r:∀k a,1<=k->k<=f->a.toList.Perm p.toList->Q (some k) (SZq κ a pd g)):wpS (model prog w) A E s (Xd lo f m) Q (SZq κ p pd g):=by
 unfold Xd
 refine T_ (iT (bE ⟨rfl,?_⟩))
 refine T_ (bW (aX (I:=λx c e=>∃a q,e=SZq κ a pd g/\c=(none,x,q)/\a.toList.Perm p.toList/\1<=x/\x<=f)
  (Q:=λc e=>∃a k q,e=SZq κ a pd g/\c=(none,k,q)/\a.toList.Perm p.toList/\1<=k/\k<=f) ?_ ?_ ⟨p,0,rfl,rfl,.refl _,ZP h1,u⟩) ?_)
 ·rintro x c e _ hx ⟨a,q,rfl,rfl,K,b,d⟩
  have h:=hp.pm K
  have hz:=Fp K
  dsimp only
  refine T_ (Hu hc h (by omega) (by omega) λv=>?_)
  dsimp only
  cases v with
  | true =>
   rw [S_ rfl]
   by_cases hq:q > 0
   ·rw [S_ hq]
    exact T_ (Se λt i=>V_ ⟨t,0,rfl,rfl,i.trans K,ZP b,hx⟩)
   ·rw [M_ hq]
    exact V_ ⟨a,0,rfl,rfl,K,ZP b,hx⟩
  | false =>
   rw [M_ R_]
   refine T_ (Hu hc h (by omega) (by omega) λc2=>?_)
   cases c2
   ·exact V_ ⟨a,_,rfl,rfl,K,ZP b,hx⟩
   ·exact V_ ⟨a,x,q,rfl,rfl,K,b,d⟩
 ·rintro c e ⟨a,q,rfl,rfl,K,b,d⟩
  exact⟨a,_,q,rfl,rfl,K,b,d⟩
 ·rintro c e ⟨a,k,q,rfl,rfl,K,b,d⟩
  have h:=hp.pm K
  have hz:=Fp K
  dsimp only
  by_cases hq:q > 0
  ·rw [S_ hq]
   exact T_ (Se λt i=>Yo hc (h.pm i) b d (by rw [Fp i];omega) λn j l a2 o=>r n j l a2 (o.trans (i.trans K)))
  ·rw [M_ hq]
   exact Yo hc h b d (by omega) λn j l a2 o=>r n j l a2 (o.trans K)
theorem CZ(hc:Ew prog w A κ vs s)(hp:AOk vs p){lo a:Nat}(h1:1<=a)(hs:lo+a<=p.size){Q:Option Nat->jV->Prop}
  (d:∀k j,1<=k->k<=a->j.toList.Perm p.toList->Q (some k) (SZq κ j pd g)):wpS (model prog w) A E s (countRun' lo a) Q (SZq κ p pd g):=by
 rw [Mx]
 refine T_ (EY (I_ 1) h1 (λx k u b h n q=>T_ (Hu hc hp (by omega) (by omega) λc=>?_)) λk b h=>?_)
 ·cases c
  ·exact V_ q
  ·exact V_ n
 dsimp only
 by_cases e:k=a
 ·rw [S_ (by simpa using e)]
  exact V_ (d k p b h (.refl _))
 rw [M_ (by simpa using e)]
 by_cases i:k > 1
 ·rw [S_ i]
  refine T_ (Hu hc hp (by omega) (by omega) λc=>?_)
  dsimp only
  cases c with
  | true=>exact V_ (d k p b h (.refl _))
  | false =>
   rw [M_ R_]
   exact T_ (Se λt f=>Yp hc (hp.pm f) b (by omega) (by rw [Fp f];exact hs) λr m o a2 l=>d r m o a2 (l.trans f))
 ·rw [M_ i]
  exact Yp hc hp b (by omega) hs d
theorem Yq(hc:Ew prog w A κ vs s)(hp:AOk vs p){lo m ok:Nat}(n:ok<=m)(hs:lo+m<=p.size){Q:Bool->jV->Prop}
  (d:∀a,a.toList.Perm p.toList->Q true (SZq κ a pd g)):wpS (model prog w) A E s (binarySort' lo m ok) Q (SZq κ p pd g):=by
 rw [binarySort'_eq]
 refine T_ (bW (aX (I:=λx c b=>∃a,b=SZq κ a pd g/\c=(none,())/\a.toList.Perm p.toList) (Q:=λc b=>∃a,b=SZq κ a pd g/\c=(none,())/\a.toList.Perm p.toList) ?_ (λ_ _ z=>z) ⟨p,rfl,rfl,.refl _⟩) ?_)
 ·rintro x c b h hx ⟨a,rfl,rfl,K⟩
  have f:=hp.pm K
  have hz:=Fp K
  refine T_ (JG (m:=x) (λy l r o j a2 i hy=>?_) (YZ _) (I_ _) (I_ _) λk hk=>?_)
  ·dsimp only
   by_cases e:l>=r
   ·rw [S_ e]
    exact V_ (i (by omega))
   ·rw [M_ e]
    refine T_ (Hu hc f (by omega) (by omega) λc=>?_)
    cases c
    ·exact V_ (hy _ _ (by omega) a2 (by omega))
    ·exact V_ (hy _ _ (by omega) (by omega) (by omega))
  ·dsimp only
   rw [moveDown'_eq]
   exact T_ (cY (V_ ⟨_,rfl,rfl,((bubble_perm a _ _).toList).trans K⟩))
 ·rintro c b ⟨a,rfl,rfl,K⟩
  exact V_ (d a K)
theorem Ki(hc:Ew prog w A κ vs s)(hp:AOk vs p){i m:Nat}(x:Chain pd.toList 0 m)(hs:m<=p.size)(f:i+1 < pd.size){Q:Bool->jV->Prop}
  (h:∀b l o,b.toList.Perm p.toList->Chain l.toList 0 m->l.size+1=pd.size->Q true (SZq κ b l o)):wpS (model prog w) A E s (mergeAt' i) Q (SZq κ p pd g):=by
 have a:pd[i]?=some pd[i]:=YX (aH f)
 have d:pd[i+1]?=some pd[i+1]:=YX f
 generalize pd[i]'(aH f)=ea at a
 generalize pd[i+1]=eb at d
 obtain⟨j,e,r⟩:=ea
 obtain⟨y,n,D⟩:=eb
 have C:pd.toList[i]?=some (j,e,r):=by rw [YN];exact a
 have B:pd.toList[i+1]?=some (y,n,D):=by rw [YN];exact d
 have v:=Oa C B
 rw [v]at x
 obtain⟨k,H,c2,u,G,F,t⟩:=Chain.app.mp x
 subst c2
 subst G
 have z:=t.le
 refine U8 hc hp a d u F (by omega) λb o K=>?_
 have q:=BV (c:=(j,e+n,r)) a d
 refine h b _ o K ?_ ?_
 ·rw [q]
  exact Chain.app.mpr ⟨j,H,rfl,X_ u (dD e n),by rw [<- iL];exact t⟩
 ·have:=bB List.length q
  have hz:=bB List.length v
  simp only [List.length_append,List.length_cons,Array.length_toList]at this hz
  omega
theorem Chain.pu{lo m:Nat}(h:Chain pd.toList 0 lo)(a:0 < m):Chain (pd.push (lo,m,0)).toList 0 (lo+m):=by
 rw [iG]
 exact Chain.app.mpr ⟨lo,h,rfl,a,rfl⟩
end
section
variable {p:Array jR}{pd:Array (Nat×Nat×Nat)}{g:Nat}
theorem Q5(hc:Ew prog w A κ vs s)(hp:AOk vs p){Q:Unit->jV->Prop}(V:∀d a j,d.toList.Perm p.toList->Q () (SZq κ d a j)):wpS (model prog w) A E s sortRuns' Q (SZq κ p #[] g):=by
 rw [sortRuns'_eq]
 refine T_ (gC ?_)
 rw [show arrOf (SZq κ p #[] g)=p from rfl]
 generalize U:p.size=N
 dsimp only
 generalize minRun' N N 0=mr
 refine T_ (bW (aX (I:=λx c f=>∃d a j lo,f=SZq κ d a j/\c=(none,lo)/\d.toList.Perm p.toList/\Chain a.toList 0 lo/\lo<=N/\x<=lo) (Q:=λc f=>∃d a j,f=SZq κ d a j/\c=(none,N)/\d.toList.Perm p.toList/\Chain a.toList 0 N) ?_ ?_ ⟨p,#[],g,0,rfl,rfl,.refl _,rfl,YZ _,I_ _⟩) ?_)
 ·rintro x c f _ hx ⟨d,a,j,lo,rfl,rfl,K,W,R,F⟩
  have hz:=Fp K
  dsimp only
  by_cases e:lo>=N
  ·rw [S_ e]
   have:lo=N:=by omega
   subst this
   exact V_ ⟨d,a,j,rfl,rfl,K,W⟩
  rw [M_ e]
  refine T_ (CZ hc (hp.pm K) (show 1<=N - lo by omega) (by omega) λk T S k2 C=>?_)
  have z1:=Fp C
  dsimp only
  by_cases u:k < mr
  ·rw [S_ u]
   refine T_ (iT (bE ⟨rfl,?_⟩))
   refine T_ (Yq hc ((hp.pm K).pm C) (m:=min (N - lo) mr) (by omega) (by omega) λB Kb=>?_)
   rw [M_ (show ¬(!true)=true by decide)]
   have t:=Kb.trans (C.trans K)
   refine T_ (gC ?_)
   show wpS _ _ _ _ (match a.back? with
    | some (O,D,_)=>_
    | _=>_) _ _
   cases eb:a.back? with
   | none =>
    dsimp only
    exact T_ (cY (V_ ⟨B,_,j,_,rfl,rfl,t,W.pu (by omega),by show lo+min (N - lo) mr<=N;omega,by show x+1<=lo+min (N - lo) mr;omega⟩))
   | some e =>
    obtain⟨O,D,q1⟩:=e
    dsimp only
    refine T_ (bW (aX (I:=λ_ c f=>∃l b n,f=SZq κ l b n/\c=(none,())/\l.toList.Perm p.toList/\Chain b.toList 0 lo) (Q:=λc f=>∃l b n,f=SZq κ l b n/\c=(none,())/\l.toList.Perm p.toList/\Chain b.toList 0 lo) ?_ (λ_ _ z=>z) ⟨B,a,j,rfl,rfl,t,W⟩) ?_)
    ·rintro y c f _ _ ⟨l,b,n,rfl,rfl,o,q⟩
     refine T_ (gC ?_)
     rw [show pendingOf (SZq κ l b n)=b from rfl]
     by_cases v:b.size > 1
     ·rw [S_ v,YX (by omega)]
      generalize b[b.size - 2]'(by omega)=e3
      obtain⟨X,u2,Y⟩:=e3
      dsimp only
      split
      ·exact V_ ⟨l,b,n,rfl,rfl,o,q⟩
      ·refine T_ (Ki hc (hp.pm o) (i:=b.size - 2) q (by rw [Fp o];omega) (by omega) λG r P L M _=>?_)
       rw [M_ (show ¬(!true)=true by decide)]
       exact V_ ⟨G,r,P,rfl,rfl,L.trans o,M⟩
     ·rw [M_ v]
      exact V_ ⟨l,b,n,rfl,rfl,o,q⟩
    ·rintro c f ⟨l,b,n,rfl,rfl,o,q⟩
     dsimp only
     refine T_ (cY (T_ (cY (V_ ⟨l,_,n,_,rfl,rfl,o,Chain.pu ?_ (by omega),by show lo+min (N - lo) mr<=N;omega,by show x+1<=lo+min (N - lo) mr;omega⟩))))
     show Chain (b.modify (b.size - 1) _).toList 0 lo
     rw [Array.toList_modify]
     refine Chain.mod ?_ q
     exact λe=>⟨rfl,rfl⟩
  ·rw [M_ u]
   have t:=C.trans K
   refine T_ (gC ?_)
   show wpS _ _ _ _ (match a.back? with
    | some (O,D,_)=>_
    | _=>_) _ _
   cases eb:a.back? with
   | none =>
    dsimp only
    exact T_ (cY (V_ ⟨T,_,j,_,rfl,rfl,t,W.pu (S),by show lo+k<=N;omega,by show x+1<=lo+k;omega⟩))
   | some e =>
    obtain⟨O,D,q1⟩:=e
    dsimp only
    refine T_ (bW (aX (I:=λ_ c f=>∃l b n,f=SZq κ l b n/\c=(none,())/\l.toList.Perm p.toList/\Chain b.toList 0 lo) (Q:=λc f=>∃l b n,f=SZq κ l b n/\c=(none,())/\l.toList.Perm p.toList/\Chain b.toList 0 lo) ?_ (λ_ _ z=>z) ⟨T,a,j,rfl,rfl,t,W⟩) ?_)
    ·rintro y c f _ _ ⟨l,b,n,rfl,rfl,o,q⟩
     refine T_ (gC ?_)
     rw [show pendingOf (SZq κ l b n)=b from rfl]
     by_cases v:b.size > 1
     ·rw [S_ v,YX (by omega)]
      generalize b[b.size - 2]'(by omega)=e3
      obtain⟨X,u2,Y⟩:=e3
      dsimp only
      split
      ·exact V_ ⟨l,b,n,rfl,rfl,o,q⟩
      ·refine T_ (Ki hc (hp.pm o) (i:=b.size - 2) q (by rw [Fp o];omega) (by omega) λG r P L M _=>?_)
       rw [M_ (show ¬(!true)=true by decide)]
       exact V_ ⟨G,r,P,rfl,rfl,L.trans o,M⟩
     ·rw [M_ v]
      exact V_ ⟨l,b,n,rfl,rfl,o,q⟩
    ·rintro c f ⟨l,b,n,rfl,rfl,o,q⟩
     dsimp only
     refine T_ (cY (T_ (cY (V_ ⟨l,_,n,_,rfl,rfl,o,Chain.pu ?_ (S),by show lo+k<=N;omega,by show x+1<=lo+k;omega⟩))))
     show Chain (b.modify (b.size - 1) _).toList 0 lo
     rw [Array.toList_modify]
     refine Chain.mod ?_ q
     exact λe=>⟨rfl,rfl⟩
 ·rintro c f ⟨d,a,j,lo,rfl,rfl,K,W,R,F⟩
  have:lo=N:=by omega
  subst this
  exact⟨d,a,j,rfl,rfl,K,W⟩
 ·rintro c f ⟨d,a,j,rfl,rfl,K,W⟩
  dsimp only
  refine T_ (bW (aX (I:=λx c f=>∃d a j,f=SZq κ d a j/\c=(none,())/\d.toList.Perm p.toList/\Chain a.toList 0 N) (Q:=λc f=>∃d a j,f=SZq κ d a j/\c=(none,())/\d.toList.Perm p.toList/\Chain a.toList 0 N) ?_ (λ_ _ z=>z) ⟨d,a,j,rfl,rfl,K,W⟩) ?_)
  ·clear K W
   rintro x c f _ hx ⟨d,a,j,rfl,rfl,K,W⟩
   refine T_ (gC ?_)
   rw [show pendingOf (SZq κ d a j)=a from rfl]
   by_cases u:a.size<=1
   ·rw [S_ u]
    exact V_ ⟨d,a,j,rfl,rfl,K,W⟩
   rw [M_ u]
   refine T_ (Ki hc (hp.pm K) W (by rw [Fp K];exact eD (Eq.symm U)) ?_ λB H g2 t Z _=>?_)
   ·have J:∀(c:Prop) [Decidable c],(if c then a.size - 2 - 1 else a.size - 2)+1 < a.size:=λc _=>by
     by_cases h:c
     ·rw [S_ h];omega
     ·rw [M_ h];omega
    exact J _
   ·rw [M_ (show ¬(!true)=true by decide)]
    exact V_ ⟨B,H,g2,rfl,rfl,t.trans K,Z⟩
  ·rintro c f ⟨d,a,j,rfl,rfl,K,W⟩
   exact V_ (V d a j K)
end
theorem PH(hc:Ew prog w A κ vs s){Q:jV->jA->Prop}(b:∀st:jV,(arrOf st).toList.Perm (vs.toArray.zip vs.toArray).toList->failedOf st=none->Q st s) :
  wpAny (model prog w) A ((sortRuns').run (SortSt.mk' κ (vs.toArray.zip vs.toArray) #[] 7 none)) (λr a=>Q r.2 a) E s:=by
 refine aP (Q5 (E:=E) (g:=7) hc (λx hx=>?_) (Q:=λ_ st=>Q st s) λd c f K=>b _ K rfl) (λr a h=>?_) λ_ _ e=>e
 ·rw [Array.toList_zip]at hx
  exact(gS hx).1
 ·obtain⟨rfl,h⟩:=h
  exact h
end
section
variable {prog:jJ}{w:jK}{A:jM}{E:i_->jA->Prop}{s:jA}{X:Cx}{aa:List (jH×jO)}{σ:St}{H:Hp}{k:Nat}
theorem Q6{a:jH}{d:List i_}{n:Nat}{P:PySem.Fin->jA->Prop}(p:s.heap.get? a=some (seqObj "list" d.toArray n)) (C:d.length < 1000000)
  (hk:2<=d.length->∀h':jN,(∀b o,b≠a->s.heap.get? b=some o->h'.get? b=some o)->∃ κ,(∀Q:jW->jA->Prop,Q κ { s with heap:=h' }->wpAny (model prog w) A (keyKind' d.toArray) Q E { s with heap:=h' })/\Ew prog w A κ d { s with heap:=h' })
  (h:∀(v:List i_) (h':jN) (c:Nat),v.Perm d->(∀b o,b≠a->s.heap.get? b=some o->h'.get? b=some o)->h'.get? a=some (seqObj "list" v.toArray c)->P (.done (.ret .none)) { s with heap:=h' }) :
  wpAny (model prog w) A (Builtin.«list.sort» ⟨[.ref a],[]⟩) P E s:=by
 obtain⟨l,g⟩:∃l,(s.heap.update a (Obj.mapSeq λ_=>(#[]:Array i_))).get? a=some (seqObj "list" #[] l):=⟨_,get?_update_seq p λ_=>#[]⟩
 have j:d.toArray.size<=sizeLine:=by rw [YQ];exact Q_ (aU C) (by decide)
 have q:∀b o,b≠a->s.heap.get? b=some o->(((s.heap.update a (Obj.mapSeq λ_=>(#[]:Array i_))).push (seqObj "tuple" d.toArray 0)).push (seqObj "list" #[] 0)).get? b=some o:=λb o hb e =>
  DD _ (DD _ (((ZF s.heap a _).2 b hb).trans e))
 have f:(((s.heap.update a (Obj.mapSeq λ_=>(#[]:Array i_))).push (seqObj "tuple" d.toArray 0)).push (seqObj "list" #[] 0)).get? a=some (seqObj "list" #[] l):=DD _ (DD _ g)
 rw [list_sort_plain]
 refine A_ (listItems_at p rfl (A_ (listUpdate_at p rfl (A_ (seqEpoch_at g rfl (A_ (wpAny_newTuple (A_ (wpAny_newList (ZG ?_) (YZ _))) (by simpa using j))))) j (YZ _))))
 show wpAny (model prog w) A _ P E { s with heap:=(((s.heap.update a (Obj.mapSeq λ_=>(#[]:Array i_))).push (seqObj "tuple" d.toArray 0)).push (seqObj "list" #[] 0)) }
 generalize ((s.heap.update a (Obj.mapSeq λ_=>(#[]:Array i_))).push (seqObj "tuple" d.toArray 0)).push (seqObj "list" #[] 0)=h2 at q f ⊢
 dsimp only
 have y:((d.toArray.zip d.toArray).toList.map (·.2))=d:=by rw [Array.toList_zip];exact List.map_snd_zip (I_ _)
 have i:∀st:jV,(arrOf st).toList.Perm (d.toArray.zip d.toArray).toList->P (.done (.ret .none)) { s with heap:=h2.update a (Obj.mapSeq λ_=>(arrOf st).map (·.2)) }/\((arrOf st).map (·.2)).size=d.length:=λst hp=>by
  have u:((arrOf st).map (·.2)).toList.Perm d:=by rw [Array.toList_map,<- y];exact(hp.map _).trans (by rw [y])
  refine⟨h _ _ _ u (λb o hb D=>((ZF h2 a _).2 b hb).trans (q b o hb D)) (get?_update_seq f _),?_⟩
  rw [<- YS];exact u.length_eq
 by_cases h1:d.toArray.size < 2
 ·rw [S_ h1,S_ h1]
  refine A_ (C_ ?_)
  rw [StateT.run_pure]
  obtain⟨m,r⟩:=i (SortSt.mk' general' (d.toArray.zip d.toArray) #[] 7 none) (.refl _)
  refine A_ (C_ (A_ (seqEpoch_at f rfl (A_ (listUpdate_at f rfl ?_ (YZ _) ?_)))))
  ·rw [show failedOf (SortSt.mk' general' (d.toArray.zip d.toArray) #[] 7 none)=none from rfl,bne_self_eq_false,M_ R_]
   exact C_ m
  ·refine Q_ ?_ (ZP j)
   rw [YQ];exact eD r
 ·rw [M_ h1,M_ h1]
  obtain⟨κ,B,z⟩:=hk (by rw [YQ]at h1;exact iN h1) h2 q
  refine A_ (B _ (A_ (aP (PH z (Q:=λst x=>x={ s with heap:=h2 }/\(arrOf st).toList.Perm (d.toArray.zip d.toArray).toList/\failedOf st=none) λst hp t=>⟨rfl,hp,t⟩) ?_ λ_ _ e=>e)))
  rintro⟨⟨⟩,st⟩ x ⟨rfl,hp,t⟩
  dsimp only
  obtain⟨m,r⟩:=i st hp
  refine A_ (seqEpoch_at f rfl (A_ (listUpdate_at f rfl ?_ (YZ _) ?_)))
  ·rw [t,bne_self_eq_false,M_ R_]
   exact C_ m
  ·refine Q_ ?_ (ZP j)
   rw [YQ];exact eD r
theorem E8{v:i_}{Q:i_->jA->Prop}(r:wpAny (model prog w) A.in1 (collect v) (λd a=>d.length < 1000000 /\
   (2<=d.length->∀h':jN,(∀b o,a.heap.get? b=some o->h'.get? b=some o)->∃ κ,(∀Q:jW->jA->Prop,Q κ { a with heap:=h' }->wpAny (model prog w) A.in1.in1 (keyKind' d.toArray) Q E { a with heap:=h' })/\Ew prog w A.in1.in1 κ d { a with heap:=h' }) /\
   ∀(f:List i_) (h':jN) (l c:Nat),f.Perm d->a.heap.objs.size<=l->(∀b o,a.heap.get? b=some o->h'.get? b=some o)->h'.get? l=some (seqObj "list" f.toArray c)->Q (.ref l) { a with heap:=h' }) E s) :
  wpAny (model prog w) A (call (.builtin "sorted") [v]) Q E s:=by
 refine Calls.call_function_entry kind_sorted plain_sorted entry_sorted (args_sorted1 _) ?_
 unfold Builtin.«sorted»
 refine A_ (m:=checkCount "sorted" 1 1 _) (C_ (A_ (aP r (λd a hx=>?_) λ_ _ e=>e)))
 obtain⟨j,hk,h⟩:=hx
 have n:d.length<=sizeLine:=Q_ (aU j) (by decide)
 have g:(a.heap.push (seqObj "list" d.toArray 0)).get? a.heap.objs.size=some (seqObj "list" d.toArray 0):=K_ _ rfl
 refine A_ (wpAny_newList (A_ (ZG (ZI slot_list_sort ⟨_,g,rfl⟩ entry_list_sort ?_ (args_list_sort _)))) n)
 have i:∀(h':jN),(∀b o,b≠a.heap.objs.size->(a.heap.push (seqObj "list" d.toArray 0)).get? b=some o->h'.get? b=some o)->∀b o,a.heap.get? b=some o->h'.get? b=some o:=λh' k b o q=>k b o (W_ (O_ q)) (DD _ q)
 exact Q6 (s:={ a with heap:=a.heap.push (seqObj "list" d.toArray 0) }) g j (λh2 h' k=>hk h2 h' (i h' k)) λf h' c p k e=>⟨_,rfl,C_ ⟨_,rfl,h f h' _ c p (I_ _) (i h' k) e⟩⟩
structure SortOkP(ds:List jG):Prop where
 len:ds.length < 1000000
 can:PyData.canLayAll0 ds=true
 dp:PyData.depthAll ds<=64
 fst:∀d∈ds,∃i r,d=.tuple (.int i :: r)
 cmp:∀d∈ds,∀e∈ds,cmpb d e=true
theorem Yr{h:jN}{v:i_}:∀{a:List i_} {ds:List jG} {as:List jH},ReadsAll h a ds as->v∈a->∃d∈ds,∃e,Reads h v d e
 | _,_,_,.cons r t,hv=>by
  rcases YV.mp hv with rfl | hv
  ·exact⟨_,.head _,_,r⟩
  ·obtain⟨d,c,b⟩:=Yr t hv
   exact⟨d,.tail _ c,b⟩
theorem Sg{b:List i_}{ds:List jG}{l:List jH}(ok:SortOkP ds)(rd:ReadsAll s.heap b ds l)(h2:2<=ds.length)(hu:A.units+64 < cLine):∃ κ,(∀Q:jW->jA->Prop,Q κ s->wpAny (model prog w) A (keyKind' b.toArray) Q E s)/\Ew prog w A κ b s:=by
 have L:=Rv rd
 obtain⟨F,z,M,D⟩:=Ob rd ok.fst
 refine⟨tuples' true,λQ q=>?_,λu g v hv'=>?_⟩
 ·refine PySem.W.kat_kind (T:=.type "int") z (by omega) (λv hv=>?_) rfl q
  obtain⟨i,t,rfl⟩:=D v hv
  exact PySem.W.Looks.of_pure rfl
 ·obtain⟨d,a,c,x⟩:=Yr rd g
  obtain⟨e,he,f,j⟩:=Yr rd hv'
  have o:=Gm ok.can _ a
  have c2:=Gm ok.can _ he
  have B:=ok.cmp _ a _ he
  have n:=Q_ (Ll _ a) ok.dp
  obtain⟨G,N,rfl⟩:=ok.fst d a
  obtain⟨J,I,rfl⟩:=ok.fst e he
  cases x with
  | tuple h a2 p m =>
   cases j with
   | tuple c f r y=>exact⟨_,λC q=>II (.tuple h a2 p m) (.tuple c f r y) o c2 B hu n q⟩
theorem Ow{a:jH}{l:List (Int×i_)}{ns:List Int}{Q:i_->jA->Prop}(F:A.handled=none)(hS:Dy (A8 prog w) s.heap a l (Ev w))(N:Unlike (A8 prog w) l)(i:Keys (A8 prog w) l (ns.map Sum.inl))(V:l.length < 64)
  (h:∀(h':jN) (d':Drawn) (tk p c:Nat) (g:List i_),(∀b o,s.heap.get? b=some o->h'.get? b=some o)->s.heap.objs.size<=p->h'.get? p=some (seqObj "list" g.toArray c)->(∀v∈g,SU v)->(g.map D3).Nodup->(∀n,n∈g.map D3↔n∈ns)->g.length < 64->Q (.ref p) { s with heap:=h',drawn:=d',toks:=tk }) :
  wpAny (model prog w) A (call (.builtin "sorted") [.ref a]) Q E s:=by
 obtain⟨o,z,ep,t,P,L,U,rfl,j,Y,S⟩:=hS
 have hz:z.size < 64:=by simpa using V
 refine E8 (Ig (show A.in1.handled=none from F) ⟨o,P,L.1,U,Y⟩ S (by omega) λh1 T x ord R J hp=>?_)
 have f:∀v∈ord,SU v:=λv hv=>by
  obtain⟨e,he,rfl⟩:=D_.mp (hp.mem_iff.mp hv)
  obtain⟨n,t,d,_⟩:=Fl j i he
  exact⟨n,t,d⟩
 have I:∀n,n∈ord.map D3↔n∈ns:=λn=>by
  rw [D_]
  constructor
  ·rintro⟨v,hv,rfl⟩
   obtain⟨e,he,rfl⟩:=D_.mp (hp.mem_iff.mp hv)
   obtain⟨n,t,d,r⟩:=Fl j i he
   rw [d];exact r
  ·intro hn
   obtain⟨e,he,hk⟩:=(i (.inl n)).mpr (D_.mpr ⟨n,hn,rfl⟩)
   obtain⟨B,t,d,_⟩:=Fl j i he
   rw [d]at hk
   have:=CD hk
   cases this
   exact⟨e.2,hp.mem_iff.mpr (D_.mpr ⟨e,he,rfl⟩),by rw [d];rfl⟩
 have hnd:(ord.map D3).Nodup:=by
  have d:(ord.map D3).Perm ((z.toList.map (·.2)).map D3):=hp.map _
  refine d.nodup_iff.mpr ?_
  unfold List.Nodup
  rw [cQ,cQ]
  refine List.Pairwise.imp_of_mem (λ{e e'} he av hu q=>?_) N
  obtain⟨n,t,d,_⟩:=Fl j i he
  obtain⟨B,t',r,_⟩:=Fl j i av
  rw [d,r]at q
  have G:n=B:=q
  subst G
  have:=hu (.inl n) (by rw [d];exact Ct _ _ _ _)
  rw [r,Ct]at this
  cases this
 have O:ord.length < 64:=by rw [hp.length_eq];simpa using hz
 refine⟨by omega,λh2 h' y=>⟨oneType',λQ q=>?_,λu hu v hv=>?_⟩,λW h' lb c m Z y e=>?_⟩
 ·match ord,f,h2 with
  | v1 :: v2 :: g,f,_ =>
   rw [keyKind_ints (Om f)]
   exact C_ q
 ·obtain⟨D,x,rfl⟩:=f u hu
  obtain⟨M,t2,rfl⟩:=f v hv
  refine⟨decide (D < M),λC q=>?_⟩
  rw [keyLt'_oneType]
  exact oneLt_int q
 ·exact h h' T x lb c W (λb o q=>y b o (R b o q)) (Q_ J Z) e (λv hv=>f v (m.mem_iff.mp hv)) ((m.map _).nodup_iff.mpr hnd) (λn=>by rw [<- I n,(m.map _).mem_iff]) (by rw [m.length_eq];exact O)
theorem M9{E:i_->jA->Prop}{s:jA}{a:jH}{xs:List (jG×jH)}{Q:i_->jA->Prop}(D:A.handled=none)(hu:A.units+100 < cLine)(S:E7 w s.heap a xs (Ev w))(g:∀d:List (jG×jH),d.Perm xs->SortOkP (d.map (·.1)))
  (h:∀(h':jN) (d':Drawn) (tk p c:Nat) (j:List (jG×jH)),(∀b o,s.heap.get? b=some o->h'.get? b=some o)->s.heap.objs.size<=p->h'.get? p=some (seqObj "list" (j.map λx=>Value.ref x.2).toArray c)->j.Perm xs->Q (.ref p) { s with heap:=h',drawn:=d',toks:=tk }) :
  wpAny (model prog w) A (call (.builtin "sorted") [.ref a]) Q E s:=by
 obtain⟨o,O,Z,t,I,F,M,C,N,P,L,V,Y⟩:=S
 have j8:O.size=xs.length:=by rw [<- YS,C,B_]
 have v:xs.length < 1000000:=by have:=(g xs (.refl _)).len;rwa [B_]at this
 refine E8 (Ig (show A.in1.handled=none from D) ⟨o,I,F.1,M,P⟩ L (by omega) λh1 B z ord y G hp=>?_)
 rw [C,YT]at hp
 obtain⟨d,rfl,i⟩:=C5 hp xs (f:=λx=>Value.ref x.2) rfl
 have ok:=g d i
 have m:d.length < 1000000:=by rw [i.length_eq];exact v
 have T:(d.map λx=>Value.ref x.2).length=(d.map (·.1)).length:=by rw [B_,B_]
 have u:∀x∈d,Ce h1 x.1 x.2:=λx hx=>(N x (i.mem_iff.mp hx)).keeps y
 refine⟨by rw [B_];exact m,λh2 h' n=>?_,λus h' l c J R n e=>?_⟩
 ·obtain⟨W,r⟩:=Ik (h:=h') λx hx=>(u x hx).keeps n
  exact Sg (s:={ s with heap:=h',drawn:=B,toks:=z }) ok r (by rw [<- T];exact h2) (by show A.units+1+1+64 < _;omega)
 ·obtain⟨j,rfl,U⟩:=C5 J d rfl
  exact h h' B z l c j (λb o q=>n b o (y b o q)) (Q_ G R) e (U.trans i)
theorem TOk.sortP{ds es:List jG}(h:TOk ds)(hs:∀d∈es,d∈ds)(g:es.Nodup):SortOkP es:=by
 obtain⟨a,b,c⟩:=R8 λd f=>h.key d (hs d f)
 have:=Fm g hs
 have:=h.len
 exact⟨by omega,a,by omega,λd f=>h.fst d (hs d f),λd f e he=>h.cmp d (hs d f) e (hs e he)⟩
def JI(te:AE):AE:=fun τ μ R=>te τ μ λx μ1=>opt (items μ1 x) λb=>opt (dats b) λa=>TOk a/\∀(es:List jG) (p:jH),es.Nodup->(∀d,d∈es↔d∈a)->μ1 p=none->R (.R p) (An μ1 p (.lst (es.map .D)))
theorem Kj{e:jL}{te:AE}{p F O N:Pos}(W:Room k X.A)(hg:Gl X "sorted") (hm:X.mg "sorted" = none) (pg:Gl X "set") (gj:X.mg "set" = none) (he:VE X e te)
  (hs:starEach [.Call (.Name "set" F) [e] [] N] X.env=[(false,eval (.Call (.Name "set" F) [e] [] N) X.env)]:=by rfl) (i8:starEach [e] X.env=[(false,eval e X.env)]:=by rfl) :
  VE X (.Call (.Name "sorted" p) [.Call (.Name "set" F) [e] [] N] [] O) (JI te):=by
 intro aa s σ H Q I zz129
 refine B9 zz129 fun τ μ R bf hcn h hq=>?_
 refine bM (Fc I hg hm boot_sorted (dW ?_ hs rfl))
 rw [hs]
 refine aV (bM (Fc I pg gj boot_set (bN ?_ i8 rfl)))
 rw [i8]
 refine aV (aP (he.run I bf hcn h) (λu a jk=>MG jk λx v μ1 H1 I1 rv S1 c1 rx h1=>a_ ?_) λ_ _ e=>e)
 obtain⟨g,ey,h1⟩:=A6 h1
 obtain⟨P,ed,ok,h1⟩:=A6 h1
 have Z:=IQ (dA ok.len (by decide))
 obtain⟨p0,Y,rfl,hk,rs⟩:=Ca c1 rx ey
 cases rv
 have dk:=rs.dats ed
 have f:X.A.handled=none:=W.hd
 have hun:=W.un
 have l2:=dk.length
 have B:∀(ks:List (jG×jH)),ks.map (·.1)=P->(∀x∈ks,Ce a.heap x.1 x.2/\Dk X.K H1 x.1 (.ref x.2))->∀(h1:jN) (tk:Nat) (xs:List (jG×jH)),(∀b o,a.heap.get? b=some o->h1.get? b=some o)->E7 X.w h1 a.heap.objs.size xs (Ev X.w)->(xs.map (·.1)).Nodup->(∀d,d∈xs.map (·.1)↔d∈ks.map (·.1))->(∀x∈xs,x∈ks) ->
   wpAny (model X.prog X.w) X.A (call (.builtin "sorted") [.ref a.heap.objs.size]) (EP X aa σ Q) X.xe { a with heap:=h1,toks:=tk }:=λks j c9 h2 tk xs z t i M2 D=>by
  rw [j]at M2
  refine M9 (s:={ a with heap:=h2,toks:=tk }) f (by omega) t (λg U=>ok.sortP (λd f=>(M2 d).mp ((U.map (·.1)).mem_iff.mp f)) ((U.map (·.1)).nodup_iff.mpr i)) λh3 d3 t3 q c n k2 hp m C=>?_
  have lS:a.heap.objs.size < h2.objs.size:=by obtain⟨o,_,_,_,e,_⟩:=t;exact O_ e
  have T:a.heap.objs.size<=q:=Q_ (aU lS) hp
  have kg:n.length < 1000000:=by
   have:=(ok.sortP (es:=n.map (·.1)) (λd f=>(M2 d).mp ((C.map (·.1)).mem_iff.mp f)) ((C.map (·.1)).nodup_iff.mpr i)).len
   rwa [B_]at this
  have hz:(n.map λx=>V.ref x.2).length<=sizeLine:=by rw [B_];exact Q_ (aU kg) (by decide)
  have S:=I1.hok.fresh T
  refine⟨.ref q,_,(Inv.drw I1 d3).laid (t':=t3) (λb o e=>k2 b o (z b o e)) T (show Br X.prog X.w _ h3 _ (.lst (n.map λx=>V.ref x.2)) from⟨hz,_,c,R9 n,m⟩),rfl,?_⟩
  refine hq _ _ _ _ (S1.trans (Kp.new S _)) (c1.new S (Cs ?_)) Dt (h1 (n.map (·.1)) q ((C.map (·.1)).nodup_iff.mpr i) (λd=>((C.map (·.1)).mem_iff).trans (M2 d)) (c1.none S))
  exact(X3 λx hx=>(c9 x (D x (C.mem_iff.mp hx))).2).rel
 refine Jv (s:=a) ?_
 rcases hk with⟨_,hk⟩ | ⟨_,hk⟩
 ·obtain⟨J,L,y,hz⟩:=I1.list hk
  obtain⟨ks,j,G,m⟩:=X2 I1 P Y J dk L ok.key (λd f=>let⟨_,_,e⟩:=ok.fst d f;⟨_,e⟩)
  have M:p0 < a.heap.objs.size:=by obtain⟨o,e,_⟩:=y.isList;exact O_ e
  have l:∀g:List jG,g.Nodup->(∀d∈g,d∈ks.map (·.1))->g.length < 4900:=by rw [j];exact Z
  refine X1 (s:={ a with heap:=a.heap.push (Bw X.w) }) (show X.A.in1.in1.handled=none from f) (show X.A.units+1+1+20 < cLine by omega) (let⟨o,e,r⟩:=y.isList;⟨o,DD _ e,r⟩) (ks:=ks) (by simpa using G) (λx hx=>(m x hx).1.keeps λb o e=>DD _ e) l Os (c_ (W_ M)) λh2 tk xs z t i M2 D L2=>a_ ?_
  exact B ks j m h2 tk xs (λb o e=>z b o (W_ (O_ e)) (DD _ e)) t i M2 D
 ·obtain⟨J,L,y,hz⟩:=I1.tuple hk
  obtain⟨ks,j,G,m⟩:=X2 I1 P Y J dk L ok.key (λd f=>let⟨_,_,e⟩:=ok.fst d f;⟨_,e⟩)
  have M:p0 < a.heap.objs.size:=by obtain⟨o,e,_⟩:=y;exact O_ e
  have l:∀g:List jG,g.Nodup->(∀d∈g,d∈ks.map (·.1))->g.length < 4900:=by rw [j];exact Z
  refine Uw (s:={ a with heap:=a.heap.push (Bw X.w) }) (show X.A.in1.in1.handled=none from f) (show X.A.units+1+1+20 < cLine by omega) (Heap.IsTuple.push y _) (ks:=ks) (by simpa using G) (λx hx=>(m x hx).1.keeps λb o e=>DD _ e) l Os (c_ (W_ M)) λh2 tk xs z t i M2 D L2=>a_ ?_
  exact B ks j m h2 tk xs (λb o e=>z b o (W_ (O_ e)) (DD _ e)) t i M2 D
def JJ(te:AE):AE:=fun τ μ R=>te τ μ λx μ1=>opt (items μ1 x) λb=>∃ns:List Int,b=(ns.map λn=>AV.D (.int n))/\ns.length < 60/\∀(l:jH) (a:List Int),μ1 l=none->a.Nodup->(∀n,n∈a↔n∈ns)->R (.R l) (An μ1 l (.lst (a.map λn=>.D (.int n))))
theorem Ys{e:jL}{te:AE}{p B C N:Pos}(hr:Room k X.A)(U:Gl X "sorted") (hm:X.mg "sorted" = none) (pg:Gl X "set") (W:X.mg "set" = none) (he:VE X e te)
  (hs:starEach [.Call (.Name "set" B) [e] [] N] X.env=[(false,eval (.Call (.Name "set" B) [e] [] N) X.env)]:=by rfl) (S:starEach [e] X.env=[(false,eval e X.env)]:=by rfl) :
  VE X (.Call (.Name "sorted" p) [.Call (.Name "set" B) [e] [] N] [] C) (JJ te):=by
 intro aa s σ H Q I zz129
 refine B9 zz129 fun τ μ R bf hcn h hq=>?_
 refine bM (Fc I U hm boot_sorted (dW ?_ hs rfl))
 rw [hs]
 refine aV (bM (Fc I pg W boot_set (bN ?_ S rfl)))
 rw [S]
 refine aV (aP (he.run I bf hcn h) (λu a jk=>MG jk λx v μ1 H1 I1 rv S1 c1 rx h1=>a_ ?_) λ_ _ e=>e)
 obtain⟨us,ey,h1⟩:=A6 h1
 obtain⟨ns,rfl,hl,h1⟩:=h1
 obtain⟨T,ws,rfl,hk,rs⟩:=Ca c1 rx ey
 cases rv
 have ew:=Il rs
 subst ew
 have F:X.A.handled=none:=hr.hd
 have n:∀(h2:jN) (tk:Nat) (l:List (Int×i_)),(∀b o,a.heap.get? b=some o->h2.get? b=some o)->Dy (A8 X.prog X.w) h2 a.heap.objs.size l (Ev X.w)->Unlike (A8 X.prog X.w) l->Keys (A8 X.prog X.w) l (ns.map Sum.inl)->l.length < 64 ->
   wpAny (model X.prog X.w) X.A (call (.builtin "sorted") [.ref a.heap.objs.size]) (EP X aa σ Q) X.xe { a with heap:=h2,toks:=tk }:=λh2 tk l m d i j L2=>by
  refine Ow (s:={ a with heap:=h2,toks:=tk }) F d i j L2 λh3 d3 t3 q c y k2 hp e3 hi Z Y g=>?_
  have lS:a.heap.objs.size < h2.objs.size:=by obtain⟨o,_,_,_,e,_⟩:=d;exact O_ e
  have O:a.heap.objs.size<=q:=Q_ (aU lS) hp
  have hz:((y.map D3).map V.int).length<=sizeLine:=by simp;exact Q_ (aU g) (by decide)
  have L:=I1.hok.fresh O
  refine⟨.ref q,_,(Inv.drw I1 d3).laid (t':=t3) (λb o e=>k2 b o (m b o e)) O (show Br X.prog X.w _ h3 _ (.lst ((y.map D3).map V.int)) from⟨hz,y,c,On hi,e3⟩),rfl,?_⟩
  exact hq _ _ _ _ (S1.trans (Kp.new L _)) (c1.new L (Cs (R3 _))) Dt (h1 q (y.map D3) (c1.none L) Z Y)
 refine Jv (s:=a) ?_
 rcases hk with⟨_,hk⟩ | ⟨_,hk⟩
 ·obtain⟨G,t,f,hz⟩:=I1.list hk
  obtain⟨z,J⟩:=Hl (P:=X.prog) (w:=X.w) t
  have g:=t.length
  have D:G.toArray.size < 60:=by simp at g ⊢;omega
  have M:T < a.heap.objs.size:=by obtain⟨o,e,_⟩:=f.isList;exact O_ e
  refine Ux (s:={ a with heap:=a.heap.push (Bw X.w) }) (show X.A.in1.in1.handled=none from F) (let⟨o,e,r⟩:=f.isList;⟨o,DD _ e,r⟩) (by simpa using z) (by simpa using J) (by omega) Jw (c_ (W_ M)) λh2 tk l m d i j L2=>a_ ?_
  exact n h2 tk l (λb o e=>m b o (W_ (O_ e)) (DD _ e)) d i j (by omega)
 ·obtain⟨G,t,f,hz⟩:=I1.tuple hk
  obtain⟨z,J⟩:=Hl (P:=X.prog) (w:=X.w) t
  have g:=t.length
  have D:G.toArray.size < 60:=by simp at g ⊢;omega
  have M:T < a.heap.objs.size:=by obtain⟨o,e,_⟩:=f;exact O_ e
  refine Qp (s:={ a with heap:=a.heap.push (Bw X.w) }) (show X.A.in1.in1.handled=none from F) (Heap.IsTuple.push f _) (by simpa using z) (by simpa using J) (by omega) Jw (c_ (W_ M)) λh2 tk l m d i j L2=>a_ ?_
  exact n h2 tk l (λb o e=>m b o (W_ (O_ e)) (DD _ e)) d i j (by omega)
theorem PJ{K:jI}{H:Hp}:∀{ds:List jG} {c:List V} {b:List i_},Am K H ds c->Vals c b->∃a:List (jG×V×i_),ds=a.map (·.1)/\b=a.map (·.2.2)/\∀z∈a,Dk K H z.1 z.2.1/\Bi z.2.1 z.2.2
 | [],c,b,h,r=>by
  have e:=h.nil
  subst e
  cases r
  exact⟨[],rfl,rfl,λ_ z=>nomatch z⟩
 | d :: ds,c,b,h,r=>by
  obtain⟨x,j,rfl,h1,h2⟩:=Am.cons (K:=K) (H:=H) h
  cases r with
  | cons i g =>
   obtain⟨a,rfl,rfl,f⟩:=PJ h2 g
   refine⟨(d,x,_) :: a,rfl,rfl,λy hy=>?_⟩
   rcases YV.mp hy with rfl | hy
   ·exact⟨h1,i⟩
   ·exact f y hy
theorem Yt{K:jI}{H:Hp}:∀{e:List (jG×V×i_)},(∀z∈e,Dk K H z.1 z.2.1/\Bi z.2.1 z.2.2)->Am K H (e.map (·.1)) (e.map (·.2.1))/\Vals (e.map (·.2.1)) (e.map (·.2.2))
 | [],_=>⟨Dm,.nil⟩
 | z :: e,h=>by
  obtain⟨a,b⟩:=Yt λy hy=>h y (.tail _ hy)
  obtain⟨c,d⟩:=h z (.head _)
  exact⟨Ds c a,.cons d b⟩
def Ox:AC:=λc μ R=>match c with
 | [.R a]=>opt (μ a) λm=>match m with
  | .lst d=>opt (dats d) λb=>SortOkP b/\∀(es:List jG) (p:jH),es.Perm b->μ p=none->R (.R p) (An μ p (.lst (es.map .D)))
  | _=>False
 | _=>False
theorem L3(V:Room k X.A):VCall X (.builtin "sorted") Ox:=by
 intro aa s σ H xs U Q I r zz93
 refine B9 zz93 λas μ R ra hc h hq=>?_
 unfold Ox at h
 split at h
 ·rename_i a
  cases ra with
  | cons r1 J =>
  cases J
  obtain⟨m,F,h⟩:=A6 h
  split at h
  ·rename_i i
   obtain⟨N,ed,ok,h⟩:=A6 h
   obtain⟨o,L,W,rfl,P⟩:=hc _ _ F
   cases r1
   obtain⟨u,rfl,Z⟩:=Fd r
   cases Z
   obtain⟨S,x,D,hz⟩:=I.list (Fa.of (K:=X.K) L)
   have dk:=P.dats ed
   obtain⟨bs,rd⟩:=Am.reads I N W S dk x
   obtain⟨g,rfl,rfl,v⟩:=PJ dk x
   have Y:=Rv rd
   have C:(g.map (·.2.2)).length < 1000000:=by rw [Y];exact ok.len
   have B:(g.map (·.2.2)).length<=sizeLine:=Q_ (aU C) (by decide)
   have d:∀b o,s.heap.get? b=some o->((s.heap.push (seqObj "list" #[] 0)).update s.heap.objs.size (Obj.mapSeq (·++(g.map (·.2.2)).toArray))).get? b=some o:=λb o q =>
    ((ZF (s.heap.push (seqObj "list" #[] 0)) s.heap.objs.size _).2 b (W_ (O_ q))).trans (DD _ q)
   refine E8 (collect_list D.isList ⟨C,λh2 n p=>?_,λU n l c M T p e=>?_⟩ B)
   ·have hu:=V.un
    exact Sg (s:={ s with heap:=n,toks:=s.toks }) ok (Hj (λb o q=>p b o (d b o q)) rd) (by omega) (by show X.A.units+1+1+64 < _;omega)
   ·obtain⟨i,rfl,j⟩:=C5 M g rfl
    obtain⟨O,hv⟩:=Yt λz hz=>v z (j.mem_iff.mp hz)
    have y:s.heap.objs.size<=l:=by
     refine Q_ ?_ T
     rw [Heap.size_update];exact Q_ (dC _) (eD (bT _ _).symm)
    have G:(i.map (·.2.1)).length<=sizeLine:=by
     rw [B_,j.length_eq,<- B_ (f:=(·.2.2)) (as:=g)];exact B
    have t:=I.hok.fresh y
    refine⟨.ref l,_,I.laid (t':=s.toks) (λb o q=>p b o (d b o q)) y (show Br X.prog X.w _ n _ (.lst (i.map (·.2.1))) from⟨G,_,c,hv,e⟩),rfl,?_⟩
    exact hq _ _ _ _ (Kp.new t _) (hc.new t (Cs O.rel)) Dt (h (i.map (·.1)) l (j.map _) (hc.none t))
  ·exact h.elim
 ·exact h.elim
end
end L2
namespace L2
open PySem PySem.Spec PyProof.Rows
end L2
namespace K81
open PySem L2
def top(i:Nat):jP:=PySem.Challenge.pw_pileduel_k81_whole_machines_of_joined_sa.main.body.getD i (.Pass ⟨0,0,0,0⟩)
abbrev LK:jP:=top 5
abbrev JK:jP:=top 6
abbrev LL:jP:=top 7
abbrev LM:jP:=top 8
abbrev LN:jP:=top 9
abbrev LP:jP:=top 10
abbrev LQ:jP:=top 11
abbrev LR:jP:=top 12
abbrev LU:jP:=top 14
abbrev EZ:jP:=top 15
abbrev JL:jP:=top 17
abbrev JM:jP:=top 18
abbrev JN:jP:=top 19
abbrev FA:jP:=top 20
abbrev LW:jP:=top 21
abbrev FB:jP:=top 22
abbrev FC:jP:=top 23
abbrev LX:jP:=top 25
abbrev FD:jP:=top 26
abbrev LY:jP:=top 27
abbrev FE:jP:=top 28
abbrev LZ:jP:=top 29
abbrev FF:jP:=top 30
abbrev MA:jP:=top 32
abbrev JO:jP:=top 33
abbrev MB:jP:=top 34
abbrev MC:jP:=top 36
abbrev Yu:jP:=top 37
abbrev JP:jP:=top 38
abbrev JQ:jP:=top 39
abbrev Iu:jP:=top 40
section
variable {P:jJ}{w:jK}{K:jI}{mg:Str->Option i_}{base:jN}{f:jH}{fd:jQ}
def U9(i:Int):AV:=.D (.int i)
def VM(l:jH)(b:Int)(c a:Nat):MO:=.lst [.R l,.D (.int b),.D (.int (c:Nat)),.D (.int (a:Nat))]
structure PotAt(μ:M)(a l:jH)(s1:Int)(s2 s3:Nat)(ns:List Int):Prop where
 ha:μ a=some (VM l s1 s2 s3)
 hl:μ l=some (.lst (ns.map U9))
 n0:0<=s1
 ne:a≠l
def Pot(μ:M)(a l:jH):Prop:=∃d b c ns,PotAt μ a l d b c ns
def B4(a l:jH)(μ μ':M):Prop:=∀b m,b≠a->b≠l->μ b=some m->μ' b=some m
theorem B4.refl{a l:jH}{μ:M}:B4 a l μ μ:=λ_ _ _ _ h=>h
theorem B4.trans{a l:jH}{μ ν ρ:M}(h:B4 a l μ ν)(k:B4 a l ν ρ):B4 a l μ ρ:=λb m h1 h2 e=>k b m h1 h2 (h b m h1 h2 e)
theorem B4.new{a l p:jH}{μ ν:M}{o:MO}(h:B4 a l μ ν)(e:ν p=none):B4 a l μ (An ν p o):=λb m h1 h2 q=>by
 have:=h b m h1 h2 q
 rw [Ag (by intro z;subst z;rw [e]at this;cases this)];exact this
theorem B4.put{a l p:jH}{μ ν:M}{o:MO}(h:B4 a l μ ν)(e:μ p=none):B4 a l μ (An ν p o):=λb m h1 h2 q=>by
 rw [Ag (by intro z;subst z;rw [e]at q;cases q)];exact h b m h1 h2 q
theorem B4.a{a l:jH}{μ ν:M}{o:MO}(h:B4 a l μ ν):B4 a l μ (An ν a o):=λb m h1 h2 q=>by rw [Ag h1];exact h b m h1 h2 q
theorem B4.none{a l p:jH}{μ ν:M}(h:B4 a l μ ν)(h1:a≠p)(h2:l≠p)(e:ν p=none):μ p=none:=by
 cases q:μ p with
 | none=>rfl
 | some m=>rw [h p m h1.symm h2.symm q]at e;cases e
theorem PotAt.other{μ:M}{a l p:jH}{c:Int}{d b:Nat}{ns:List Int}{o:MO}(h:PotAt μ a l c d b ns)(h1:a≠p)(h2:l≠p):PotAt (An μ p o) a l c d b ns :=
 ⟨by rw [Ag h1];exact h.ha,by rw [Ag h2];exact h.hl,h.n0,h.ne⟩
theorem PotAt.to{μ:M}{a l:jH}{g b:Int}{i e c d:Nat}{ns:List Int}(h:PotAt μ a l g i e ns)(h0:0<=b):PotAt (An μ a (VM l b c d)) a l b c d ns:=⟨Ab,by rw [Ag h.ne.symm];exact h.hl,h0,h.ne⟩
theorem Pot.other{μ:M}{a l p:jH}{o:MO}(h:Pot μ a l)(h1:a≠p)(h2:l≠p):Pot (An μ p o) a l:=let⟨c,d,b,ns,h⟩:=h;⟨c,d,b,ns,h.other h1 h2⟩
theorem Pot.ne{μ:M}{a l p:jH}(h:Pot μ a l)(e:μ p=none):a≠p/\l≠p:=by
 obtain⟨_,_,_,_,h⟩:=h
 exact⟨λz=>by(subst z;rw [h.ha]at e;cases e),λz=>by(subst z;rw [h.hl]at e;cases e)⟩
theorem Pot.new{μ:M}{a l p:jH}{o:MO}(h:Pot μ a l)(e:μ p=none):Pot (An μ p o) a l:=h.other (h.ne e).1 (h.ne e).2
def Hv(ns:List Int):jG:=.list (ns.map .int)
theorem Va(μ:M)(ns:List Int):items μ (.D (Hv ns))=some (ns.map U9):=by
 show some ((ns.map PyData.int).map AV.D)=_
 rw [YT];rfl
abbrev XU:List Str:=["_law_state","_law_many","_law_found","_law_cell","_law_number"]
theorem Oy:FnScope XU ["_law_state","_law_many"] (Af MC):=⟨rfl,rfl,rfl,by decide +kernel,rfl,by decide +kernel,by decide +kernel⟩
def JR:ASp:=λc μ R=>∃(a l:jH) (b:Nat),c=[.R a,.D (.int b)]/\Pot μ a l/\0 < b/\b < 1000000/\∀(v:Nat) (μ':M),v < b->Pot μ' a l->B4 a l μ μ'->R (.D (.int v)) μ'
theorem JS{v:Int}{a:Nat}(h0:0<=v)(h1:v < a):∃n:Nat,v=n/\n < a:=⟨v.toNat,by omega,by omega⟩
theorem Yv(x:Int){m:Int}(h:0 < m):0<=x % m:=Int.emod_nonneg x (by omega)
theorem Yw(x:Int){m:Int}(h:0 < m)(h2:m<=2147483648):x % m < 2147483648:=Int.lt_of_lt_of_le (iB x h) h2
theorem Si{x:Int}{a:Nat}{Q:Int->Prop}(h0:0 < a)(h:∀v:Nat,v < a->Q v):Q (x % a):=by
 obtain⟨v,b,hv⟩:=JS (Int.emod_nonneg x (show(a:Int)≠0 by omega)) (iB x (show 0 < (a:Int) by omega))
 rw [b];exact h v hv
theorem PK{n:Nat}(F:Fun K "_law_draw" "_law_draw" MC f fd) (y:mg "len" = none):FnOk P w K mg base Ea (n+1) f fd ["_law_state","_law_many"] (Fg K 2 JR):=by
 refine F.vok Oy λY A C s H E X=>⟨_,(Ae (Jm (Bd Cc (Ap A7 (vv 0) Ah) Ah) (Mr (vv 0) Ah))
   (Ae (Db (Bk Wr (Ap A7 (vv 0) Ah) Ah (nomark _)) (Ae (Av (i:=2) Oy.nd rfl (Or.inl rfl) (Bd Gv (Ap A7 (vv 0) Ah) (vv 1)))
   (Ae (Jm (Bd Wq (Ap A7 (vv 0) Ah) (vv 1)) (Mr (vv 0) Ah))
   (Aj (Be (vv 2))))) B1)
   (Ae (Av (i:=3) Oy.nd rfl (Or.inl rfl) Ah)
   (Ae (Db (Bk BJ (Ap A7 (vv 0) Ah) (Ba Da rfl y ZV (Aa (Ap A7 (vv 0) Ah) Ad)) (nomark _)) (Ae (Av (i:=3) Oy.nd rfl (Or.inl rfl) (Ap A7 (Ap A7 (vv 0) Ah) (Ap A7 (vv 0) Ah)))
   (Ae (Jm (Bd Cc (Ap A7 (vv 0) Ah) Ah) (Mr (vv 0) Ah))
   (Aj (Db (Bk HR (vv 3) (Bd NS Ah Ah) (nomark _)) (Ae (Jm (Bd Wq (vv 3) (vv 1)) (Mr (vv 0) Ah))
   (Aj (Be (Bd Gv (vv 3) (vv 1))))) B1)))) (Aj (Db (Bk Wr (Ba Da rfl y ZV (Aa (Ap A7 (vv 0) Ah) Ad)) Ah (nomark _)) (Aj (Av (i:=3) Oy.nd rfl (Or.inl rfl) (Ap A7 (Ap A7 (vv 0) Ah) (Bd Gv (Ap A7 (vv 0) Ah) (Ba Da rfl y ZV (Aa (Ap A7 (vv 0) Ah) Ad)))))) B1)))
   (Ae (Av (i:=4) Oy.nd rfl (Or.inl rfl) (Bd Gv (Bd Cc (Bd Cc (Bd Jl (Bd Gv (vv 3) Ah) Ah) (Bd Jl Ah (Ap A7 (vv 0) Ah))) Ah) Ah))
   (Ae (Av (i:=4) Oy.nd rfl (Or.inl rfl) (Bd Gv (Bd Cc (Bd Jl (vv 4) (vv 4)) (Bd Jl Ah (Ap A7 (vv 0) Ah))) Ah))
   (Ae (Av (i:=4) Oy.nd rfl (Or.inl rfl) (Bd Gv (Bd Cc (Bd Jl (vv 4) Ah) Ah) Ah))
   (Aj (Be (Bd Gv (Bd Gv (Bd Jl (vv 4) (vv 4)) Ah) (vv 1))))))))))),?_⟩
 rintro I μ R _ ⟨a,l,h,rfl,⟨o,j,e,ns,r⟩,z,h1,q⟩
 refine A0 (fun τ μ'=>τ=[some (.R a),some (.D (.int h)),none,none,none]/\PotAt μ' a l o (j+1) e ns/\B4 a l μ μ') (λZ g=>?_) ?_
 ·exact Ac r.ha (Ac rfl (Ac r.ha (Ac rfl (g _ _ ⟨rfl,r.to r.n0,B4.refl.a⟩))))
 rintro τ μ1 ⟨rfl,b,p⟩
 have G:=b.n0
 refine A0 (fun τ μ'=>τ=[some (.R a),some (.D (.int h)),none,none,none]/\μ1=μ') (λZ g=>?_) ?_
 ·refine Ac b.ha (Ac rfl (dif (λc=>?_) (λc=>g _ _ ⟨rfl,rfl⟩)))
  refine Ac b.ha (Ac rfl ⟨(by show(0:Int) < _;omega),Ac b.ha (Ac rfl ⟨⟨by omega,by omega⟩,Ac b.ha (Ac rfl ⟨_,Sub.refl,?_⟩)⟩)⟩)
  refine Si (Q:=λi=>R (.D (.int i)) _) z λv hv=>?_
  exact q v _ hv ⟨o / h,j+1,e,ns,b.to (Int.ediv_nonneg G (by omega))⟩ p.a
 rintro τ _ ⟨rfl,rfl⟩
 refine C2 ?_
 refine A0 (fun τ μ'=>∃(d:Int) (e:Nat),τ=[some (.R a),some (.D (.int h)),none,some (.D (.int d)),none]/\PotAt μ' a l o (j+1) e ns/\B4 a l μ μ') (λZ g=>?_) ?_
 ·refine Ac b.ha (Ac rfl (Ac b.ha (Ac rfl (Ac b.hl (dif (λc=>?_) (λc=>?_))))))
  ·have O:e < ns.length:=by rw [B_]at c;omega
   have hx:(ns.map U9)[e]?=some (U9 ns[e]):=by rw [H_,J_ O];rfl
   refine Ac b.ha (Ac rfl (Ac b.ha (Ac rfl (Ac b.hl (Ac (Ao hx) (Ac b.ha (Ac rfl (Ac b.ha (Ac rfl ?_)))))))))
   have k:PotAt (An μ1 a (VM l o (j+1) (e+1))) a l o (j+1) (e+1) ns:=b.to G
   refine⟨⟨by decide,by decide,by decide⟩,dif (λc2=>?_) (λc2=>g _ _ ⟨_,e+1,rfl,k,p.a⟩)⟩
   refine⟨⟨by omega,by omega⟩,Ac k.ha (Ac rfl ⟨(by show(0:Int) < _;omega),_,Sub.refl,?_⟩)⟩
   have M:0<=ns[e]:=by
    have u:(0:Int)<=10 ^ (18:Int).toNat:=by decide
    exact Int.le_trans u c2
   refine Si (Q:=λi=>R (.D (.int i)) _) z λv hv=>?_
   exact q v _ hv ⟨ns[e] / h,j+1,e+1,ns,k.to (Int.ediv_nonneg M (by omega))⟩ p.a.a
  ·refine Ac b.ha (Ac rfl (Ac b.hl (dif (λc2=>?_) (λc2=>g _ _ ⟨7,e,rfl,b,p⟩))))
   refine Ac b.ha (Ac rfl (Ac b.ha (Ac rfl (Ac b.ha (Ac rfl (Ac b.hl ⟨c2,?_⟩))))))
   have L:0 < (ns.map U9).length:=by omega
   refine Si (x:=((j+1:Nat):Int)) (Q:=λi=>opt (μ1 l) λm=>match m with
    | .lst I=>opt (atI I i) λv=>Z [some (.R a),some (.D (.int h)),none,some v,none] μ1
    | _=>False) L λv hv=>?_
   rw [B_]at hv
   refine Ac b.hl (Ac (Ao (v:=U9 ns[v]) (by rw [H_,J_ hv];rfl)) (g _ _ ⟨ns[v],e,rfl,b,p⟩))
 rintro τ μ2 ⟨d,t,rfl,k,N⟩
 refine A0 (fun τ μ'=>∃one:Int,τ=[some (.R a),some (.D (.int h)),none,some (.D (.int d)),some (.D (.int one))]/\μ2=μ'/\0<=one/\one < 2147483648) (λZ g=>?_) ?_
 ·exact⟨(by show(0:Int) < _;decide),.inr ⟨by decide,by decide⟩,Ac k.ha (Ac rfl ⟨.inl ⟨by decide,by decide⟩,(by show(0:Int) < _;decide),g _ _ ⟨_,rfl,rfl,Yv _ (by decide),Yw _ (by decide) (by decide)⟩⟩)⟩
 rintro τ _ ⟨one,rfl,rfl,U,T⟩
 refine A0 (fun τ μ'=>∃one:Int,τ=[some (.R a),some (.D (.int h)),none,some (.D (.int d)),some (.D (.int one))]/\μ2=μ'/\0<=one/\one < 2147483648) (λZ g=>?_) ?_
 ·exact⟨.inl ⟨by omega,by omega⟩,Ac k.ha (Ac rfl ⟨.inl ⟨by decide,by decide⟩,(by show(0:Int) < _;decide),g _ _ ⟨_,rfl,rfl,Yv _ (by decide),Yw _ (by decide) (by decide)⟩⟩)⟩
 rintro τ _ ⟨J,rfl,rfl,V,S⟩
 refine A0 (fun τ μ'=>∃one:Int,τ=[some (.R a),some (.D (.int h)),none,some (.D (.int d)),some (.D (.int one))]/\μ2=μ'/\0<=one/\one < 2147483648) (λZ g=>?_) ?_
 ·exact⟨.inr ⟨by decide,by decide⟩,(by show(0:Int) < _;decide),g _ _ ⟨_,rfl,rfl,Yv _ (by decide),Yw _ (by decide) (by decide)⟩⟩
 rintro τ _ ⟨B,rfl,rfl,W,r1⟩
 refine⟨.inl ⟨by omega,by omega⟩,(by show(0:Int) < _;decide),(by show(0:Int) < _;omega),_,Sub.refl,?_⟩
 exact Si (Q:=λi=>R (.D (.int i)) _) z λv hv=>q v _ hv ⟨o,j+1,t,ns,k⟩ N
def Ax(ns:List Nat):jG:=.tuple (ns.map λ(n:Nat)=>.int n)
theorem Df{α:Type} [DecidableEq α]:∀{xs ys:List α},xs.Nodup->(∀x∈xs,x∈ys)->xs.length<=ys.length
 | [],_,_,_=>YZ _
 | x :: xs,ys,b,h=>by
  have hx:=h x Z_
  obtain⟨a,c⟩:=aO.mp b
  have:=Df (xs:=xs) (ys:=ys.erase x) c λz hz=>(List.mem_erase_of_ne (by rintro rfl;exact a hz)).mpr (h z (ZK _ hz))
  rw [List.length_erase_of_mem hx]at this
  have hp:0 < ys.length:=gB hx
  simp only [List.length_cons];omega
theorem Oz{κ:Type} [DecidableEq κ](k g:κ)(v:AV):∀(kvs:List (κ×AV)),Cg (E5 kvs k v) g=if g=k then some v else Cg kvs g:=by
 intro kvs
 unfold E5
 split
 ·rename_i h
  induction kvs with
  | nil=>simp at h
  | cons c kvs j =>
   rw [ZH]
   by_cases e:c.1=k
   ·rw [S_ e]
    by_cases d:g=k
    ·rw [S_ d,d,e];exact E6
    ·rw [M_ d]
     obtain⟨a,b⟩:=c
     have m:a=k:=e
     subst m
     rw [Dp (c_ d),Dp (c_ d)]
     by_cases h2:(kvs.any λc=>decide (c.1=a))=true
     ·rw [j h2,M_ d]
     ·congr 1
      refine(cZ λz hz=>?_).trans (List.map_id kvs)
      rw [M_]
      ·rfl
      ·intro l
       exact h2 (aE.mpr ⟨z,hz,YW l⟩)
   ·rw [M_ e]
    obtain⟨a,b⟩:=c
    have h2:(kvs.any λc=>decide (c.1=k))=true:=by
     rw [cH,ZB e,fC]at h;exact h
    by_cases i:a=g
    ·subst i
     rw [E6,M_ e];exact E6.symm
    ·rw [Dp i,Dp i,j h2]
 ·rename_i h
  induction kvs with
  | nil =>
   by_cases d:g=k
   ·rw [S_ d,d];exact E6
   ·rw [M_ d]
    show Cg ((k,v) :: []) g=_
    rw [Dp (c_ d)]
  | cons c kvs j =>
   obtain⟨a,b⟩:=c
   have h1:a≠k:=by
    intro z;apply h;rw [cH,YW z];rfl
   have h2:¬(kvs.any λc=>decide (c.1=k))=true:=by
    intro z;apply h;rw [cH,z,Bool.or_true]
   show Cg ((a,b) :: (kvs++[(k,v)])) g=_
   by_cases i:a=g
   ·subst i
    rw [E6,M_ h1];exact E6.symm
   ·rw [Dp i,j h2,Dp i]
theorem Bq{μ:M}(ns:List Nat):items μ (.D (Ax ns))=some (ns.map λ(n:Nat)=>.D (.int n)):=by
 show some ((ns.map λ(n:Nat)=>PyData.int n).map AV.D)=_
 rw [YT];rfl
theorem Iz{ns:List Nat}:PyData.canLayAll0 (ns.map λ(n:Nat)=>.int n)=true/\PyData.depthAll (ns.map λ(n:Nat)=>.int n)<=1:=by
 induction ns with
 | nil=>exact⟨rfl,by simp [PyData.depthAll]⟩
 | cons n ns a =>
  simp only [List.map_cons,PyData.canLayAll0,PyData.depthAll,a.1,Bool.and_true]
  refine⟨rfl,?_⟩
  have:=a.2
  simp only [PyData.depth];omega
theorem Fy{ns:List Nat}:Cd (Ax ns):=⟨by simp only [Ax,PyData.canLay0];exact Iz.1,by have:=(Iz (ns:=ns)).2;simp only [Ax,PyData.depth];omega⟩
theorem Yx{α:Type}{L:List α}{g:α->Bool}{i:Nat}{x:α}(h:L[i]?=some x):(L.take (i+1)).any g=((L.take i).any g || g x):=by
 rw [Y_,h,List.any_append]
 simp
theorem Yy{κ:Type} [DecidableEq κ](kvs:List (κ×AV))(k:κ)(v:AV):(E5 kvs k v).length<=kvs.length+1:=by
 unfold E5
 split
 ·rw [B_];omega
 ·rw [L_];exact I_ _
def Ck(n:Nat):AV:=.D (.int n)
theorem D4(ns:List Nat):dats (ns.map Ck)=some (ns.map λ(n:Nat)=>.int n):=by
 rw [show ns.map Ck=(ns.map λ(n:Nat)=>PyData.int n).map .D by rw [YT];rfl];exact Cb _
theorem L4:∀(ns:List Nat),A9 (ns.map λ(n:Nat)=>.int n)=true
 | []=>rfl
 | n :: ns=>by simp only [List.map_cons,A9,Cano,L4 ns,Bool.and_self]
theorem O0:∀(a ns:List Nat),cmpbs (a.map λ(n:Nat)=>.int n) (ns.map λ(n:Nat)=>.int n)=true
 | [],_=>by simp only [List.map_nil,cmpbs]
 | _ :: _,[]=>by simp only [List.map_nil,List.map_cons,cmpbs]
 | m :: a,n :: ns=>by
  simp only [List.map_cons,cmpbs,cmpb,O0 a ns,ite_self]
theorem VN{x:AV}{i:Nat}{u:AS}{k:ASt->M->Prop}{r:AV->M->Prop}{b c:ASt->M->Prop}{τ:ASt}{μ:M}(h:u k r b c (τ.set i (some x)) μ):Wv (Uh (vC x) (Dh i)) u k r b c τ μ:=h
theorem Sj(m n:Nat):Builtin.bitOr (m:Int) (n:Int)=((m ||| n:Nat):Int):=by
 have a:∀k:Nat,Builtin.bitNot (k:Int)=-(k:Int) - 1:=λ_=>rfl
 unfold Builtin.bitOr
 rw [a,a]
 unfold Builtin.bitAnd
 rw [ZB (by omega),ZB (by omega)]
 show Builtin.bitNot (Builtin.bitNot (((Builtin.bitNot (-(m:Int) - 1)).toNat ||| (Builtin.bitNot (-(n:Int) - 1)).toNat:Nat):Int))=_
 have b:∀k:Nat,(Builtin.bitNot (-(k:Int) - 1)).toNat=k:=λk=>by
  show(-(-(k:Int) - 1) - 1).toNat=k
  omega
 rw [b,b]
 show -(-((m ||| n:Nat):Int) - 1) - 1=_
 omega
theorem Yz(m n:Nat):Builtin.bitAnd (m:Int) (n:Int)=((m &&& n:Nat):Int):=by
 unfold Builtin.bitAnd
 rw [YW (eB _),YW (eB _)]
 rfl
def bts:List Nat->Nat:=List.foldl (λb k=>b ||| 2 ^ k) 0
abbrev XV:List Str:=["stands","bits","stand"]
theorem DA:FnScope XV ["stands"] (Af LK):=⟨rfl,rfl,rfl,by decide +kernel,rfl,by decide +kernel,by decide +kernel⟩
def JT:ASp:=λa μ R=>∃(x:AV) (ts:List Nat),a=[x]/\items μ x=some (ts.map Ck)/\(∀t∈ts,t < 60)/\R (.D (.int (bts ts:Nat))) μ
theorem PL{n:Nat}(F:Fun K "as_bits" "as_bits" LK f fd):FnOk P w K mg base Ea (n+1) f fd ["stands"] (Fg K 1 JT):=by
 refine F.vok DA λk A b s H E j=>⟨_,(Ae (Av (i:=1) DA.nd rfl (Or.inl rfl) Ah)
   (Ae (B6 ZD rfl (Bf (vv 0)) (Ai (i:=2) DA.nd rfl (Or.inl rfl)) (Aj (Av (i:=1) DA.nd rfl (Or.inl rfl) (Bd ET (vv 1) (Bd OP Ah (vv 2))))))
   (Aj (Be (vv 1))))),?_⟩
 rintro h μ R _ ⟨x,ts,rfl,hx,g,q⟩
 refine VN (A0 (fun τ μ'=>∃a,τ=[some x,some (.D (.int (bts ts:Nat))),a]/\μ=μ') (λZ c=>?_) ?_)
 ·refine Ac hx ?_
  refine Co (λi τ μ'=>∃a,τ=[some x,some (.D (.int (bts (ts.take i):Nat))),a]/\μ=μ') ⟨none,rfl,rfl⟩ (λ_ _ _ ⟨_,_,e⟩=>by subst e;exact hx) ?_ ?_
  ·rintro i y τ _ Z2 hy ⟨a,rfl,rfl⟩ hZ2
   rw [H_]at hy
   obtain⟨t,h1,rfl⟩:=F_.mp hy
   have d:=g t (U_ h1)
   refine⟨⟨eB _,by omega,by decide⟩,hZ2 _ _ ⟨some (Ck t),?_,rfl⟩⟩
   have e:Builtin.bitOr (bts (ts.take i):Nat) (1 * 2 ^ (t:Int).toNat)=((bts (ts.take (i+1)):Nat):Int):=by
    rw [Int.one_mul,bU,show((2:Int) ^ t)=((2 ^ t:Nat):Int) by rw [Int.natCast_pow];rfl,Sj,Y_,h1]
    unfold bts
    rw [List.foldl_append];rfl
   rw [<- e];rfl
  ·rintro τ _ ⟨a,rfl,rfl⟩
   rw [B_,YY]
   exact c _ _ ⟨_,rfl,rfl⟩
 rintro τ _ ⟨a,rfl,rfl⟩
 exact⟨_,Sub.refl,q⟩
theorem Na(k:Nat):Gk 0 k=(List.range k).map Ck:=by
 refine fZ λj=>?_
 rcases aB j k with h | h
 ·have h1:j < (Gk 0 k).length:=by rw [B3];exact h
  rw [J_ h1,Gw _ _ _ (J_ h1),H_,List.getElem?_range h]
  show some _=some (Ck j)
  unfold Ck
  rw [Int.zero_add]
 ·rw [dI (by rw [B3];exact h),dI (by rw [B_,aC];exact h)]
def Cf(n:Nat):List Nat:=(List.range 5).filter λk=>n.testBit k
abbrev WM:List Str:=["bits"]
theorem VP:FnScope WM ["bits"] (Af JK):=⟨rfl,rfl,rfl,by decide +kernel,rfl,by decide +kernel,by decide +kernel⟩
theorem PM:(["stand","bits"]:List Str).Nodup:=by decide +kernel
def JU:ASp:=λa μ R=>∃(n:Nat),a=[.D (.int n)]/\n < 32/\∀ μ',Sub μ μ'->R (.D (Ax (Cf n))) μ'
theorem PN{n:Nat}(F:Fun K "as_stands" "as_stands" JK f fd) (l:mg "tuple" = none) (t:mg "range" = none):FnOk P w K mg base Ea (n+1) f fd ["bits"] (Fg K 1 JU):=by
 refine F.vok VP λx A g s H E m=>⟨_,(Aj (Be (Bu Cp rfl l ZT (Aa (Bt (N':=["stand","bits"]) (mp:=[none,some 0]) rfl (Cy rfl t (Aa (IT PyProof.Rows.slot_int_bit_length PyProof.Rows.type_int_bit_length IS (vv 0)) Ad)) (λ_ _ _ _=>(Ai (i:=0) PM rfl (Or.inl rfl) (Or.inr rfl))) (λ_ _ _ _=>(C1 (Bk (Hh m) (Bd X6 (Bd OQ (vv 1) (vv 0)) Ah) Ah (nomark _)))) (λ_ _ _ _=>(vv 0)) (Aw (N:=WM) (pn:=(Af JK).names) (by decide +kernel))) Ad)))),?_⟩
 rintro v μ R _ ⟨n,rfl,p,q⟩
 have hb:∀n:Fin 32,Builtin.Int.intBits ((n.val:Nat):Int)<=5/\(List.range (Builtin.Int.intBits ((n.val:Nat):Int))).filter (λk=>n.val.testBit k)=Cf n.val:=by decide +kernel
 obtain⟨d,a⟩:=hb ⟨n,p⟩
 have d:Builtin.Int.intBits (n:Int)<=5:=d
 have a:(List.range (Builtin.Int.intBits (n:Int))).filter (λk=>n.testBit k)=Cf n:=a
 refine⟨trivial,by omega,by omega,λu b=>?_⟩
 rw [bU,Na]
 refine cmapf (List.range (Builtin.Int.intBits (n:Int))) Ck (λk=>n.testBit k) Ck (fun τ=>∃o,τ=[o,some (.D (.int n))]) ⟨none,rfl⟩ Ab (seven (by rw [aC];omega)) (λ_=>trivial) ?_ ?_
 ·rintro i k τ' acc W W2 hk ⟨o,rfl⟩ w1 w2
  have e:Builtin.bitAnd ((n:Int) / 2 ^ (k:Int).toNat) 1=((n / 2 ^ k % 2:Nat):Int):=by
   rw [bU,show((n:Int) / 2 ^ k)=((n / 2 ^ k:Nat):Int) by rw [Int.natCast_ediv,Int.natCast_pow];rfl,show(1:Int)=((1:Nat):Int) from rfl,Yz,Nat.and_one_is_mod]
  have r:n.testBit k=decide (n / 2 ^ k % 2=1):=Nat.testBit_eq_decide_div_mod_eq
  have j:PyData.eqv (.int (Builtin.bitAnd ((n:Int) / 2 ^ (k:Int).toNat) 1)) (.int 1)=n.testBit k:=by
   rw [e,Ix,r]
   exact gL.mpr ⟨λh=>by omega,λh=>by omega⟩
  exact⟨eB _,Bs _,Bs _,br (λc=>w1 (j.symm.trans c) _ ⟨_,rfl⟩) (λc=>w2 (j.symm.trans c) _ ⟨_,rfl⟩)⟩
 ·rw [a]
  refine Ac (Al Ab) (Ac (D4 _) ⟨_,Sub.refl,q _ ((Sub.refl.new b).new b)⟩)
theorem JV{n:Nat}(h:n<=300000):n < sizeLine:=dF h (by decide)
abbrev Pr:=Nat×Nat
def Ga(p:Pr):jG:=.tuple [.int (p.1:Nat),.int (p.2:Nat)]
def A4(p:Pr):AV:=.D (Ga p)
def ewe(p o:Pr):Pr:=(max p.1 o.1,p.2 ||| o.2)
def O1(p:Pr):List Key×AV:=([.inl (p.1:Nat),.inl (p.2:Nat)],.D (.bool true))
def adz(a:List Pr)(z:Pr):List Pr:=if z∈a then a else a++[z]
theorem JW{p q:Pr}(h:(O1 p).1=(O1 q).1):p=q:=by
 obtain⟨a,b⟩:=p
 obtain⟨c,d⟩:=q
 have h:([.inl ((a:Nat):Int),.inl ((b:Nat):Int)]:List Key)=[.inl ((c:Nat):Int),.inl ((d:Nat):Int)]:=h
 injection h with h1 h2
 injection h2 with h2 _
 have h1:=eM (fI h1)
 have h2:=eM (fI h2)
 rw [h1,h2]
theorem JX(b:List Pr)(z:Pr):E5 (b.map O1) (O1 z).1 (.D (.bool true))=(adz b z).map O1:=by
 unfold E5 adz
 by_cases h:z∈b
 ·rw [S_ (aE.mpr ⟨O1 z,D_.mpr ⟨z,h,rfl⟩,YW rfl⟩),S_ h,YT]
  refine cZ λp _=>?_
  show(if(O1 p).1=(O1 z).1 then((O1 p).1,AV.D (.bool true)) else O1 p)=O1 p
  split <;> rfl
 ·rw [M_,M_ h,N_]
  ·rfl
  ·intro a
   obtain⟨c,h1,h2⟩:=aE.mp a
   obtain⟨p,hp,rfl⟩:=D_.mp h1
   rw [<- JW (YU h2)]at h
   exact h hp
theorem DB{a:List Pr}{z y:Pr}:y∈adz a z↔y∈a\/y=z:=by
 unfold adz
 split
 ·rename_i h
  exact⟨.inl,λc=>c.elim id λe=>by rw [e];exact h⟩
 ·rw [G_,P_]
theorem JY{c:List Pr}{z:Pr}(h:c.Nodup):(adz c z).Nodup:=by
 unfold adz
 split
 ·exact h
 ·rename_i d
  exact ZW.mpr ⟨h,aO.mpr ⟨by simp,aA⟩,λa ha b hb e=>d (by rw [P_.mp hb]at e;rw [<- e];exact ha)⟩
theorem DC(a:List Pr)(z:Pr):(adz a z).length<=a.length+1:=by
 unfold adz
 split
 ·exact dC _
 ·rw [L_];exact I_ _
theorem Nb{a b:jG}{i j:Nat}{τ:ASt}{μ:M}{R:ASt->M->Prop}(h:R ((τ.set i (some (.D a))).set j (some (.D b))) μ):Ec (Dh i) (Ec (Dh j) N3) (List.map AV.D [a,b]) τ μ R:=h
theorem B8{μ μ':M}{x:AV}{b:List AV}(h:items μ x=some b)(S:Sub μ μ'):items μ' x=some b:=by
 cases x with
 | R a =>
  have h:(match μ a with | some (.lst c)=>some c | _=>none)=some b:=h
  cases e:μ a with
  | none=>rw [e]at h;cases h
  | some m =>
   rw [e]at h
   cases m with
   | lst c=>cases h;exact Al (S a _ e)
   | _=>cases h
 | D d=>cases d <;> exact h
 | _=>exact h
abbrev XW:List Str:=["pairs","others","found","cost","bits","other_cost","other_bits"]
theorem Vb:FnScope XW ["pairs","others"] (Af LR):=⟨rfl,rfl,rfl,by decide +kernel,rfl,by decide +kernel,by decide +kernel⟩
def PP:ASp:=λb μ R=>∃(x y:AV) (P O:List Pr),b=[x,y]/\items μ x=some (P.map A4)/\items μ y=some (O.map A4)/\P.length * O.length<=200000/\∀(a:List Pr) (l:jH) μ',(∀z,z∈a↔∃p∈P,∃o∈O,z=ewe p o)->a.Nodup->a.length<=P.length * O.length->μ l=none->μ' l=some (.lst (a.map A4))->Sub μ μ'->R (.R l) μ'
theorem PQ{n:Nat}(F:Fun K "each_with_each" "each_with_each" LR f fd) (U:mg "max" = none) (bw:mg "list" = none):FnOk P w K mg base Ea (n+1) f fd ["pairs","others"] (Fg K 2 PP):=by
 refine F.vok Vb λau A L s H E hr=>⟨_,(Ae (Av (i:=2) Vb.nd rfl (Or.inl rfl) Er)
   (Ae (B6 ZD rfl (Bf (vv 0)) (Dl (n:=2) rfl (Aq (Ai (i:=3) Vb.nd rfl (Or.inl rfl)) (Aq (Ai (i:=4) Vb.nd rfl (Or.inl rfl)) B0))) (Aj (B6 ZD rfl (Bf (vv 1)) (Dl (n:=2) rfl (Aq (Ai (i:=5) Vb.nd rfl (Or.inl rfl)) (Aq (Ai (i:=6) Vb.nd rfl (Or.inl rfl)) B0))) (Aj (Ed (Cu hr) (vv 2) (Bl (Aa (Ba (HV rfl) rfl U PyProof.Rows.boot_max (Aa (vv 3) (Aa (vv 5) Ad))) (Aa (Bd ET (vv 4) (vv 6)) Ad))) Ff)))))
   (Aj (Be (Bu (CV rfl) rfl bw PyProof.Rows.boot_list (Aa (vv 2) Ad)))))),?_⟩
 rintro xs μ R _ ⟨x,y,P,O,rfl,hx,hy,hn,q⟩
 intro d r
 have T:Sub μ (An μ d (.dt [])):=Sub.refl.new r
 refine A0 (fun τ μ'=>∃C t g k,∃a:List Pr,τ=[some x,some y,some (.R d),C,t,g,k]/\(∀z,z∈a↔∃p∈P,∃o∈O,z=ewe p o)/\a.Nodup/\a.length<=P.length * O.length/\μ'=An μ d (.dt (a.map O1))) (λZ V=>?_) ?_
 ·refine Ac (B8 hx T) ?_
  refine Co (λi τ μ'=>∃C t g k,∃a:List Pr,τ=[some x,some y,some (.R d),C,t,g,k]/\(∀z,z∈a↔∃p∈P.take i,∃o∈O,z=ewe p o)/\a.Nodup/\a.length<=i * O.length/\μ'=An μ d (.dt (a.map O1))) ⟨none,none,none,none,[],rfl,by simp,aA,YZ _,rfl⟩ (λ_ _ _ ⟨_,_,_,_,_,_,_,_,_,e⟩=>by subst e;exact B8 hx (Sub.refl.new r)) ?_ ?_
  ·rintro i v τ _ Z2 hv ⟨C,t,g,k,a,rfl,m,hnd,B,rfl⟩ hZ2
   rw [H_]at hv
   obtain⟨p,hp,rfl⟩:=F_.mp hv
   have W:=(E_.mp hp).1
   have ba:P.take (i+1)=P.take i++[p]:=by rw [Y_,hp];rfl
   refine⟨rfl,Nb ?_⟩
   dsimp only [List.set]
   refine Ac (B8 hy (Sub.refl.new r)) ?_
   have zbp:(i+1) * O.length<=P.length * O.length:=Nat.mul_le_mul_right _ W
   have Y:(i+1) * O.length=i * O.length+O.length:=Nat.succ_mul _ _
   refine Co (λj τ μ'=>∃g k,∃b:List Pr,τ=[some x,some y,some (.R d),some (.D (.int (p.1:Nat))),some (.D (.int (p.2:Nat))),g,k]/\(∀z,z∈b↔z∈a\/∃o∈O.take j,z=ewe p o)/\b.Nodup/\b.length<=i * O.length+j/\μ'=An μ d (.dt (b.map O1))) ⟨g,k,a,rfl,by simp,hnd,B,rfl⟩ (λ_ _ _ ⟨_,_,_,_,_,_,_,e⟩=>by subst e;exact B8 hy (Sub.refl.new r)) ?_ ?_
   ·rintro j u τ _ Z3 hu ⟨g,k,b,rfl,G,c,S,rfl⟩ bg
    rw [H_]at hu
    obtain⟨o,Q,rfl⟩:=F_.mp hu
    have hj:=(E_.mp Q).1
    have J:O.take (j+1)=O.take j++[o]:=by rw [Y_,Q];rfl
    refine⟨rfl,Nb ?_⟩
    dsimp only [List.set]
    have ec:(if((o.1:Nat):Int) > ((p.1:Nat):Int) then((o.1:Nat):Int) else((p.1:Nat):Int))=(((ewe p o).1:Nat):Int):=by
     show _=((max p.1 o.1:Nat):Int)
     split <;> omega
    have eb:Builtin.bitOr ((p.2:Nat):Int) ((o.2:Nat):Int)=(((ewe p o).2:Nat):Int):=Sj _ _
    have X:dput (.dt (b.map O1)) (.tuple [.int (if((o.1:Nat):Int) > ((p.1:Nat):Int) then((o.1:Nat):Int) else((p.1:Nat):Int)),.int (Builtin.bitOr ((p.2:Nat):Int) ((o.2:Nat):Int))]) (.D (.bool true))=some (.dt ((adz b (ewe p o)).map O1)):=by
     rw [ec,eb,<- JX];rfl
    refine Ac Ab (Ac X ⟨JV (show(b.map O1).length<=300000 by rw [B_];omega),bg _ _ ⟨_,_,adz b (ewe p o),rfl,λz=>?_,JY c,?_,?_⟩⟩)
    ·rw [DB,G,J]
     constructor
     ·rintro((h | ⟨I,h1,h2⟩) | h)
      ·exact .inl h
      ·exact .inr ⟨I,YM _ h1,h2⟩
      ·exact .inr ⟨o,by simp,h⟩
     ·rintro(h | ⟨I,h1,h2⟩)
      ·exact .inl (.inl h)
      ·rcases G_.mp h1 with h1 | h1
       ·exact .inl (.inr ⟨I,h1,h2⟩)
       ·rw [P_.mp h1]at h2;exact .inr h2
    ·have:=DC b (ewe p o);omega
    ·rw [Bh]
   ·rintro τ _ ⟨g,k,b,rfl,G,c,S,rfl⟩
    rw [B_]at G S
    rw [YY]at G
    refine hZ2 _ _ ⟨_,_,_,_,b,rfl,λz=>?_,c,by omega,rfl⟩
    rw [G,m,ba]
    constructor
    ·rintro(⟨M,h1,h2⟩ | h)
     ·exact⟨M,YM _ h1,h2⟩
     ·exact⟨p,by simp,h⟩
    ·rintro⟨M,h1,h2⟩
     rcases G_.mp h1 with h1 | h1
     ·exact .inl ⟨M,h1,h2⟩
     ·rw [P_.mp h1]at h2;exact .inr h2
  ·rintro τ _ ⟨C,t,g,k,a,rfl,m,hnd,B,rfl⟩
   rw [B_]at m B
   rw [YY]at m
   exact V _ _ ⟨_,_,_,_,a,rfl,m,hnd,B,rfl⟩
 rintro τ _ ⟨C,t,g,k,a,rfl,m,hnd,B,rfl⟩
 refine Ac Ab λl N=>⟨_,Sub.refl,q a l _ m hnd B ((Sub.refl.new r:Sub μ _).none N) ?_ ((Sub.refl.new r:Sub μ _).new ((Sub.refl.new r:Sub μ _).none N))⟩
 rw [Ab,YT];rfl
theorem O2(P:List Pr):dats (P.map A4)=some (P.map Ga):=by
 rw [show P.map A4=(P.map Ga).map .D by rw [YT];rfl];exact Cb _
theorem Sk(p q:Pr):cmpb (Ga p) (Ga q)=true:=by
 show cmpbs [.int _,.int _] [.int _,.int _]=true
 simp only [cmpbs]
 split
 ·split <;> simp only [cmpb]
 ·simp only [cmpb]
theorem O3(p:Pr):Cd (Ga p):=⟨rfl,by show PyData.depth (.tuple [.int _,.int _])<=64;simp [PyData.depth,PyData.depthAll]⟩
theorem Sl:∀P:List Pr,PyData.canLayAll0 (P.map Ga)=true/\PyData.depthAll (P.map Ga)<=64
 | []=>⟨rfl,by simp [PyData.depthAll]⟩
 | p :: P=>by
  obtain⟨a,b⟩:=Sl P
  obtain⟨c,d⟩:=O3 p
  refine⟨?_,?_⟩
  ·simp only [List.map_cons,PyData.canLayAll0,c,a,Bool.and_self]
  ·simp only [List.map_cons,PyData.depthAll];omega
theorem Y0{P:List Pr}(h:P.length<=5000):SortOkP (P.map Ga):=by
 obtain⟨a,b⟩:=Sl P
 refine⟨by rw [B_];omega,a,b,λd c=>?_,λd c e he=>?_⟩
 ·obtain⟨p,_,rfl⟩:=D_.mp c
  exact⟨_,_,rfl⟩
 ·obtain⟨p,_,rfl⟩:=D_.mp c
  obtain⟨q,_,rfl⟩:=D_.mp he
  exact Sk p q
theorem Y1{es:List jG}{P:List Pr}(h:es.Perm (P.map Ga)):∃a:List Pr,es=a.map Ga/\a.Perm P:=by
 obtain⟨a,e,hp⟩:=C5 h P rfl
 exact⟨a,e,hp⟩
def Wn(z y:Pr):Prop:=∀t,z.2.testBit t=true->y.2.testBit t=true
theorem Nc{z y:Pr}:z.2 &&& y.2=z.2↔Wn z y:=by
 constructor
 ·intro h t a
  have:=bB (λn=>n.testBit t) h
  simp only [Nat.testBit_and,a,Bool.true_and]at this
  exact this
 ·intro h
  refine Nat.eq_of_testBit_eq λt=>?_
  rw [Nat.testBit_and]
  cases e:z.2.testBit t with
  | true=>rw [h t e];rfl
  | false=>rfl
theorem Wn.refl(z:Pr):Wn z z:=λ_ h=>h
theorem Wn.trans{a b c:Pr}(h:Wn a b)(k:Wn b c):Wn a c:=λt d=>k t (h t d)
theorem Ex{μ ν:M}{p:jH}{o:MO}(S:Sub μ ν)(h:μ p=none):Sub μ (An ν p o):=λb m hb=>by
 rw [Ag (by rintro rfl;rw [h]at hb;cases hb)];exact S b m hb
abbrev XX:List Str:=["lows","bits","low"]
theorem PR:FnScope XX ["lows","bits"] (Af LL):=⟨rfl,rfl,rfl,by decide +kernel,rfl,by decide +kernel,by decide +kernel⟩
def JZ:ASp:=λd μ R=>∃(a:jH) (c:List Nat) (b:Nat),d=[.R a,.D (.int (b:Nat))]/\μ a=some (.lst (c.map Ck))/\R (.D (.bool (c.any λl=>decide (l &&& b=l)))) μ
theorem PU{n:Nat}(F:Fun K "has_within" "has_within" LL f fd):FnOk P w K mg base Ea (n+1) f fd ["lows","bits"] (Fg K 2 JZ):=by
 refine F.vok PR λr A g s H E k=>⟨_,(Ae (B6 ZD rfl (Bf (vv 0)) (Ai (i:=2) PR.nd rfl (Or.inl rfl)) (Aj (Db (Bk (Hh k) (Bd X6 (vv 2) (vv 1)) (vv 2) (nomark _)) (Aj (Be Ff)) B1)))
   (Aj (Be Ff))),?_⟩
 rintro p μ R _ ⟨a,j,b,rfl,ha,q⟩
 refine A0 (fun τ μ'=>μ=μ'/\(j.any λl=>decide (l &&& b=l))=false) (λZ m=>?_) ?_
 ·refine Ac (Al ha) ?_
  refine Co (λi τ μ'=>∃o,τ=[some (.R a),some (.D (.int (b:Nat))),o]/\μ=μ'/\((j.take i).any λl=>decide (l &&& b=l))=false) ⟨none,rfl,rfl,rfl⟩ (λ_ _ _ ⟨_,_,e,_⟩=>by rw [<- e];exact Al ha) ?_ ?_
  ·rintro i v τ _ Z2 hv ⟨o,rfl,rfl,d⟩ hZ2
   rw [H_]at hv
   obtain⟨l,h,rfl⟩:=F_.mp hv
   have hb:Builtin.bitAnd ((l:Nat):Int) ((b:Nat):Int)=((l &&& b:Nat):Int):=rfl
   refine ieq (λc=>⟨_,Sub.refl,?_⟩) (λc=>hZ2 _ _ ⟨_,rfl,rfl,?_⟩)
   ·rw [aE.mpr ⟨l,U_ h,YW (eM c)⟩]at q
    exact q
   ·rw [Yx h,d,fC]
    exact ZB λe=>c (bB Int.ofNat e)
  ·rintro τ _ ⟨o,rfl,rfl,d⟩
   rw [B_,YY]at d
   exact m _ _ ⟨rfl,d⟩
 rintro τ _ ⟨rfl,d⟩
 rw [d]at q
 exact⟨_,Sub.refl,q⟩
abbrev XY:List Str:=["pairs","kept","lows","cost","bits"]
theorem Y2:FnScope XY ["pairs"] (Af LM):=⟨rfl,rfl,rfl,by decide +kernel,rfl,by decide +kernel,by decide +kernel⟩
structure CvA(P zs:List Pr):Prop where
 m:∀z∈zs,z∈P
 c:∀y∈P,∃z∈zs,Wn z y
 u:(zs.map (·.2)).Nodup
theorem Q7{a:List Pr}(h:(a.map (·.2)).Nodup)(hb:∀z∈a,z.2 < 32):a.length<=32:=by
 have:=Df (ys:=List.range 32) h λb c=>by
  obtain⟨z,hz,rfl⟩:=D_.mp c
  exact ZY.mpr (hb z hz)
 rwa [B_,aC]at this
def KA:ASp:=λc μ R=>∃(a:jH) (P:List Pr),c=[.R a]/\μ a=some (.lst (P.map A4))/\P.length<=5000/\(∀p∈P,p.2 < 32)/\∀(b:List Pr) (l:jH) μ',CvA P b->μ l=none->μ' l=some (.lst (b.map A4))->Sub μ μ'->R (.R l) μ'
theorem PV{n:Nat}(F:Fun K "least_alone" "least_alone" LM f fd) (yr:VCal P w K mg base n "has_within" ["lows","bits"] JZ) (ao:mg "sorted" = none):FnOk P w K mg base Ea (n+1) f fd ["pairs"] (Fg K 1 KA):=by
 refine F.vok Y2 λau A outer s H E hr=>⟨_,(Ae (Av (i:=1) Y2.nd rfl (Or.inl rfl) (Bv Ad))
   (Ae (Av (i:=2) Y2.nd rfl (Or.inl rfl) (Bv Ad))
   (Ae (B6 ZD rfl (Bf (Ba (L3 hr) rfl ao PyProof.Rows.boot_sorted (Aa (vv 0) Ad))) (Dl (n:=2) rfl (Aq (Ai (i:=3) Y2.nd rfl (Or.inl rfl)) (Aq (Ai (i:=4) Y2.nd rfl (Or.inl rfl)) B0))) (Aj (Db (Hg (C0 (Ak yr hr rfl (Aa (vv 2) (Aa (vv 4) Ad))))) (Ae (B2 (Eb aJ aK Dg (vv 1) (Aa (Bl (Aa (vv 3) (Aa (vv 4) Ad))) Ad)))
   (Aj (B2 (Eb aJ aK Dg (vv 2) (Aa (vv 4) Ad))))) B1)))
   (Aj (Be (vv 1)))))),?_⟩
 rintro xs μ R _ ⟨a,P,rfl,ha,hP,hb,q⟩
 intro g J j k
 have N:Sub μ (An (An μ g (.lst [])) j (.lst [])):=(Sub.refl.new J).new ((Sub.refl.new J:Sub μ _).none k)
 have U:g≠j:=by rintro rfl;rw [Ab]at k;cases k
 have l0:μ j=none:=(Sub.refl.new J:Sub μ (An μ g (.lst []))).none k
 have X:An (An μ g (.lst [])) j (.lst []) g=some (.lst []):=by rw [Ag U,Ab]
 have V:An (An μ g (.lst [])) j (.lst []) j=some (.lst []):=Ab
 generalize An (An μ g (.lst [])) j (.lst [])=μ1 at N X V
 refine A0 (fun τ μ'=>∃o r,∃d:List Pr,τ=[some (.R a),some (.R g),some (.R j),o,r]/\μ' g=some (.lst (d.map A4))/\CvA P d/\Sub μ μ') (λZ hZ=>?_) ?_
 ·refine Ac (N _ _ ha) (Ac (O2 P) ⟨Y0 hP,λes p hp I=>?_⟩)
  obtain⟨Q,rfl,T⟩:=Y1 hp
  have ow:g≠p:=by rintro rfl;rw [X]at I;cases I
  have x:j≠p:=by rintro rfl;rw [V]at I;cases I
  have B:An μ1 p (.lst ((Q.map Ga).map .D)) p=some (.lst (Q.map A4)):=by rw [Ab,YT];rfl
  have k2:An μ1 p (.lst ((Q.map Ga).map .D)) g=some (.lst []):=by rw [Ag ow];exact X
  have l2:An μ1 p (.lst ((Q.map Ga).map .D)) j=some (.lst []):=by rw [Ag x];exact V
  have S:Sub μ (An μ1 p (.lst ((Q.map Ga).map .D))):=N.new (N.none I)
  generalize An μ1 p (.lst ((Q.map Ga).map .D))=μ2 at B k2 l2 S
  refine Ac (Al B) ?_
  refine Co (λi τ μ'=>∃o r,∃d:List Pr,τ=[some (.R a),some (.R g),some (.R j),o,r]/\μ' g=some (.lst (d.map A4))/\μ' j=some (.lst ((d.map (·.2)).map Ck))/\μ' p=some (.lst (Q.map A4))/\d.length<=i/\CvA (Q.take i) d/\Sub μ μ') ⟨none,none,[],rfl,k2,l2,B,I_ _,⟨(λ_ h=>nomatch h),(λ_ h=>nomatch h),aA⟩,S⟩ (λ_ _ _ ⟨_,_,_,_,_,_,e,_⟩=>Al e) ?_ ?_
  ·rintro i v τ μ3 Z2 hv ⟨o,r,d,rfl,G,O,Y,kg,C,L⟩ hZ2
   rw [H_]at hv
   obtain⟨y,hy,rfl⟩:=F_.mp hv
   have hi:=(E_.mp hy).1
   have hQl:Q.length=P.length:=T.length_eq
   have M:Q.take (i+1)=Q.take i++[y]:=by rw [Y_,hy];rfl
   refine⟨rfl,Nb ⟨j,d.map (·.2),y.2,rfl,O,?_⟩⟩
   cases hh:(d.map (·.2)).any λl=>decide (l &&& y.2=l) with
   | true =>
    refine Lg rfl (hZ2 _ _ ⟨_,_,d,rfl,G,O,Y,ZP kg,⟨λz hz=>?_,λu hu=>?_,C.u⟩,L⟩)
    ·rw [M];exact YM _ (C.m z hz)
    ·rw [M]at hu
     rcases G_.mp hu with hu | hu
     ·exact C.c u hu
     ·rw [P_.mp hu]
      obtain⟨b,W,e⟩:=aE.mp hh
      obtain⟨z,hz,rfl⟩:=D_.mp W
      exact⟨z,hz,Nc.mp (YU e)⟩
   | false =>
    have bm:∀z∈d,¬Wn z y:=λz hz hw=>by
     have:=List.any_eq_false.mp hh z.2 (D_.mpr ⟨z,hz,rfl⟩)
     exact this (YW (Nc.mpr hw))
    refine Lf rfl (C2 ⟨Ac G trivial,Ac G ⟨JV (by rw [B_];omega),?_⟩⟩)
    have l4:An μ3 g (.lst (d.map A4++[A4 y])) j=some (.lst ((d.map (·.2)).map Ck)):=by rw [Ag U.symm];exact O
    refine⟨Ac l4 trivial,Ac l4 ⟨JV (by rw [B_,B_];omega),hZ2 _ _ ⟨_,_,d++[y],rfl,by rw [Ag U,Ab,N_];rfl,by rw [Ab,N_,N_];rfl,by rw [Ag x.symm,Ag ow.symm];exact Y,by rw [L_];exact eY kg,⟨λz hz=>?_,λu hu=>?_,?_⟩,Ex (Ex L J) l0⟩⟩⟩
    ·rw [M]
     rcases G_.mp hz with hz | hz
     ·exact YM _ (C.m z hz)
     ·exact YO _ hz
    ·rw [M]at hu
     rcases G_.mp hu with hu | hu
     ·obtain⟨z,hz,h⟩:=C.c u hu
      exact⟨z,YM _ hz,h⟩
     ·rw [P_.mp hu]
      exact⟨y,by simp,Wn.refl y⟩
    ·rw [N_,ZW]
     refine⟨C.u,by simp,λb W c hc e=>?_⟩
     obtain⟨z,hz,rfl⟩:=D_.mp W
     have hc:c=y.2:=by simpa using hc
     exact bm z hz λt ht=>by rw [<- hc,<- e];exact ht
  ·rintro τ μ3 ⟨o,r,d,rfl,G,O,Y,kg,C,L⟩
   rw [B_,YY]at C
   exact hZ _ _ ⟨_,_,d,rfl,G,⟨λz hz=>T.mem_iff.mp (C.m z hz),λy hy=>C.c y (T.mem_iff.mpr hy),C.u⟩,L⟩
 rintro τ μ2 ⟨o,r,d,rfl,B,C,S⟩
 exact⟨_,Sub.refl,q d g μ2 C J B S⟩
abbrev XZ:List Str:=["pairs","least"]
theorem VQ:FnScope XZ ["pairs","least"] (Af LN):=⟨rfl,rfl,rfl,by decide +kernel,rfl,by decide +kernel,by decide +kernel⟩
def DE:ASp:=λc μ R=>∃(a:jH) (P:List Pr),c=[.R a,.D (.bool true)]/\μ a=some (.lst (P.map A4))/\P.length<=5000/\(∀p∈P,p.2 < 32)/\∀(b:List Pr) (l:jH) μ',CvA P b->μ l=none->μ' l=some (.lst (b.map A4))->Sub μ μ'->R (.R l) μ'
theorem PX{n:Nat}(F:Fun K "thinned" "thinned" LN f fd) (b:VCal P w K mg base n "least_alone" ["pairs"] KA) (i:mg "sorted" = none) (g:mg "set" = none):FnOk P w K mg base Ea (n+1) f fd ["pairs","least"] (Fg K 2 DE):=by
 refine F.vok VQ λm A c s H E d=>⟨_,(Aj (Be (Jk (C0 (vv 1)) (Ak b d rfl (Aa (vv 0) Ad)) (Kj d rfl i rfl g (vv 0))))),?_⟩
 rintro k μ R _ ⟨a,P,rfl,ha,j,hb,q⟩
 exact Lf rfl ⟨a,P,rfl,ha,j,hb,λh l μ' C hl e S=>⟨_,Sub.refl,q h l μ' C hl e S⟩⟩
def cho:List (List Pr)->List Pr:=List.foldl (λF G=>F.flatMap λp=>G.map (ewe p)) [(0,0)]
structure GrAt(μ:M)(ps:List jH)(Gs:List (List Pr)):Prop where
 l:ps.length=Gs.length
 a:∀(i:Nat) p G,ps[i]?=some p->Gs[i]?=some G->μ p=some (.lst (G.map A4))
structure Cv(P zs:List Pr):Prop where
 m:∀z∈zs,∃y∈P,y.2=z.2
 c:∀y∈P,∃z∈zs,Wn z y
 u:(zs.map (·.2)).Nodup
 b:∀z∈zs,z.2 < 32
theorem Cv.len{P a:List Pr}(h:Cv P a):a.length<=32:=Q7 h.u h.b
theorem Y3{p q r s:Pr}(h:Wn p q)(k:Wn r s):Wn (ewe p r) (ewe q s):=λt a=>by
 have a:(p.2 ||| r.2).testBit t=true:=a
 show(q.2 ||| s.2).testBit t=true
 rw [iC,cU]at a ⊢
 exact a.imp (h t) (k t)
theorem O4{Gs:List (List Pr)}{G:List Pr}{z:Pr}:z∈cho (Gs++[G])↔∃y∈cho Gs,∃o∈G,z=ewe y o:=by
 unfold cho
 rw [List.foldl_append,cW,List.foldl_nil,aR]
 constructor
 ·rintro⟨y,h1,h2⟩
  obtain⟨o,a,rfl⟩:=D_.mp h2
  exact⟨y,h1,o,a,rfl⟩
 ·rintro⟨y,h1,o,h2,rfl⟩
  exact⟨y,h1,D_.mpr ⟨o,h2,rfl⟩⟩
abbrev YA:List Str:=["groups","least","found","group"]
theorem DF:FnScope YA ["groups","least"] (Af LQ):=⟨rfl,rfl,rfl,by decide +kernel,rfl,by decide +kernel,by decide +kernel⟩
def KB:ASp:=λb μ R=>∃(x:AV) (ps:List jH) (Gs:List (List Pr)),b=[x,.D (.bool true)]/\items μ x=some (ps.map .R)/\GrAt μ ps Gs/\(∀G∈Gs,G.length<=32/\∀p∈G,p.2 < 32)/\∀(a:List Pr) (l:jH) μ',Cv (cho Gs) a->μ l=none->μ' l=some (.lst (a.map A4))->Sub μ μ'->R (.R l) μ'
theorem PY{n:Nat}(F:Fun K "one_of_each" "one_of_each" LQ f fd) (nu:VCal P w K mg base n "thinned" ["pairs","least"] DE) (N:VCal P w K mg base n "each_with_each" ["pairs","others"] PP):FnOk P w K mg base Ea (n+1) f fd ["groups","least"] (Fg K 2 KB):=by
 refine F.vok DF λau A O s H E X=>⟨_,(Ae (Av (i:=2) DF.nd rfl (Or.inl rfl) (Bv (Aa (Bl (Aa Ah (Aa Ah Ad))) Ad)))
   (Ae (B6 ZD rfl (Bf (vv 0)) (Ai (i:=3) DF.nd rfl (Or.inl rfl)) (Aj (Av (i:=2) DF.nd rfl (Or.inl rfl) (Ak nu X rfl (Aa (Ak N X rfl (Aa (vv 2) (Aa (vv 3) Ad))) (Aa (vv 1) Ad))))))
   (Aj (Be (vv 2))))),?_⟩
 rintro xs μ R _ ⟨x,ps,g,rfl,hx,hG,hb,q⟩
 intro T U
 refine A0 (fun τ μ'=>∃l h,∃d:List Pr,τ=[some x,some (.D (.bool true)),some (.R l),h]/\Cv (cho g) d/\μ l=none/\μ' l=some (.lst (d.map A4))/\Sub μ μ') (λZ hZ=>?_) ?_
 ·have Q:Sub μ (An μ T (.lst [A4 (0,0)])):=Sub.refl.new U
  refine Ac (B8 hx Q) ?_
  refine Co (λi τ μ'=>∃l h,∃d:List Pr,τ=[some x,some (.D (.bool true)),some (.R l),h]/\Cv (cho (g.take i)) d/\μ l=none/\μ' l=some (.lst (d.map A4))/\Sub μ μ') ⟨T,none,[(0,0)],rfl,⟨λz hz=>⟨z,hz,rfl⟩,λy hy=>⟨y,hy,Wn.refl y⟩,by simp,λz hz=>by rw [P_.mp hz];decide⟩,U,Ab,Q⟩ (λ_ _ _ ⟨_,_,_,_,_,_,_,S⟩=>B8 hx S) ?_ ?_
  ·rintro i v τ μ1 Z2 hv ⟨l,h,d,rfl,C,B,j,e⟩ hZ2
   rw [H_]at hv
   obtain⟨p,hp,rfl⟩:=F_.mp hv
   have hi:i < g.length:=by rw [<- hG.l];exact(E_.mp hp).1
   have t:=J_ hi
   generalize g[i]=G at t
   have V:g.take (i+1)=g.take i++[G]:=by rw [Y_,t];rfl
   have eg:=e _ _ (hG.a i p G hp t)
   obtain⟨L,J⟩:=hb G (U_ t)
   have zbp:d.length * G.length<=32 * 32:=Nat.mul_le_mul C.len L
   refine⟨.R l,.R p,d,G,rfl,Al j,Al eg,by omega,λW Y μ2 gj hnd2 fh vy e2 S2=>?_⟩
   have r:∀z∈W,z.2 < 32:=λz hz=>by
    obtain⟨y,h1,o,h2,rfl⟩:=(gj z).mp hz
    exact Nat.or_lt_two_pow (n:=5) (C.b y h1) (J o h2)
   refine⟨Y,W,rfl,e2,by omega,r,λus l3 μ3 C3 hn3 e3 S3=>?_⟩
   have k:Sub μ μ2:=λb m hb=>S2 b m (e b m hb)
   refine hZ2 _ _ ⟨l3,_,us,rfl,⟨λz hz=>?_,λy hy=>?_,C3.u,λz hz=>r z (C3.m z hz)⟩,k.none hn3,e3,λb m hb=>S3 b m (k b m hb)⟩
   ·obtain⟨y,h1,o,h2,rfl⟩:=(gj z).mp (C3.m z hz)
    obtain⟨u,M,I⟩:=C.m y h1
    rw [V]
    exact⟨ewe u o,O4.mpr ⟨u,M,o,h2,rfl⟩,by show u.2 ||| o.2=y.2 ||| o.2;rw [I]⟩
   ·rw [V]at hy
    obtain⟨u,h1,o,h2,rfl⟩:=O4.mp hy
    obtain⟨y,M,I⟩:=C.c u h1
    obtain⟨z,h5,h6⟩:=C3.c (ewe y o) ((gj _).mpr ⟨y,M,o,h2,rfl⟩)
    exact⟨z,h5,h6.trans (Y3 I (Wn.refl o))⟩
  ·rintro τ μ1 ⟨l,h,d,rfl,C,B,j,e⟩
   rw [B_,hG.l,YY]at C
   exact hZ _ _ ⟨l,_,d,rfl,C,B,j,e⟩
 rintro τ μ1 ⟨l,h,d,rfl,C,B,j,e⟩
 exact⟨_,Sub.refl,q d l μ1 C B j e⟩
abbrev YB:List Str:=["groups","least","found","group"]
theorem KC:FnScope YB ["groups","least"] (Af LP):=⟨rfl,rfl,rfl,by decide +kernel,rfl,by decide +kernel,by decide +kernel⟩
theorem Vc{α:Type}{Gs:List (List α)}{i:Nat}{G:List α}(h:Gs[i]?=some G):(Gs.take (i+1)).flatten=(Gs.take i).flatten++G:=by
 rw [Y_,h,List.flatten_append]
 simp
theorem Kk{α:Type}:∀{Gs:List (List α)},(∀G∈Gs,G.length<=32)->Gs.flatten.length<=32 * Gs.length
 | [],_=>by simp
 | G :: Gs,h=>by
  have h1:=h G Z_
  have h2:=Kk (Gs:=Gs) λa hG=>h a (ZK _ hG)
  rw [iI,L_,ZS]
  omega
def PZ:ASp:=λb μ R=>∃(x:AV) (ps:List jH) (Gs:List (List Pr)),b=[x,.D (.bool true)]/\items μ x=some (ps.map .R)/\GrAt μ ps Gs/\Gs.length<=20/\(∀G∈Gs,G.length<=32/\∀p∈G,p.2 < 32)/\∀(a:List Pr) (l:jH) μ',Cv Gs.flatten a->μ l=none->μ' l=some (.lst (a.map A4))->Sub μ μ'->R (.R l) μ'
theorem QA{n:Nat}(F:Fun K "one_of_any" "one_of_any" LP f fd) (B:VCal P w K mg base n "thinned" ["pairs","least"] DE):FnOk P w K mg base Ea (n+1) f fd ["groups","least"] (Fg K 2 PZ):=by
 refine F.vok KC λX A k s H E M=>⟨_,(Ae (Av (i:=2) KC.nd rfl (Or.inl rfl) (Bv Ad))
   (Ae (B6 ZD rfl (Bf (vv 0)) (Ai (i:=3) KC.nd rfl (Or.inl rfl)) (Aj (B2 (Eb bI bJ Ep (vv 2) (Aa (vv 3) Ad)))))
   (Aj (Be (Ak B M rfl (Aa (vv 2) (Aa (vv 1) Ad))))))),?_⟩
 rintro V μ R _ ⟨x,W,Gs,rfl,hx,hG,O,hb,q⟩
 intro g r
 have h:∀z∈Gs.flatten,z.2 < 32:=λz hz=>by
  obtain⟨G,h1,h2⟩:=iU.mp hz
  exact(hb G h1).2 z h2
 refine A0 (fun τ μ'=>∃e,τ=[some x,some (.D (.bool true)),some (.R g),e]/\μ' g=some (.lst (Gs.flatten.map A4))/\Sub μ μ') (λZ I=>?_) ?_
 ·have o:Sub μ (An μ g (.lst [])):=Sub.refl.new r
  refine Ac (B8 hx o) ?_
  refine Co (λi τ μ'=>∃e,τ=[some x,some (.D (.bool true)),some (.R g),e]/\μ' g=some (.lst ((Gs.take i).flatten.map A4))/\Sub μ μ') ⟨none,rfl,Ab,o⟩ (λ_ _ _ ⟨_,_,_,S⟩=>B8 hx S) ?_ ?_
  ·rintro i v τ μ1 Z2 hv ⟨e,rfl,b,d⟩ hZ2
   rw [H_]at hv
   obtain⟨p,hp,rfl⟩:=F_.mp hv
   have J:i < Gs.length:=by rw [<- hG.l];exact(E_.mp hp).1
   have j:=J_ J
   generalize Gs[i]=G at j
   have N:=d _ _ (hG.a i p G hp j)
   have U:=(hb G (U_ j)).1
   have y:=Kk (Gs:=Gs.take i) λt T=>(hb t (dO T)).1
   have L:(Gs.take i).length<=20:=by rw [ZX];omega
   refine⟨Ac b trivial,Ac b (Ac N ⟨aU (JV (by rw [B_,B_];omega)),hZ2 _ _ ⟨_,rfl,?_,d.new r⟩⟩)⟩
   rw [Ab,Vc j,N_]
  ·rintro τ μ1 ⟨e,rfl,b,d⟩
   rw [B_,hG.l,YY]at b
   exact I _ _ ⟨_,rfl,b,d⟩
 rintro τ μ1 ⟨e,rfl,b,d⟩
 have y:=Kk λG hG=>(hb G hG).1
 exact⟨_,Gs.flatten,rfl,b,by omega,h,λQ l μ2 C hl e2 S2=>⟨_,Sub.refl,q Q l μ2 ⟨λz hz=>⟨z,C.m z hz,rfl⟩,C.c,C.u,λz hz=>h z (C.m z hz)⟩ (d.none hl) e2 (d.trans S2)⟩⟩
structure Ar where
 p:Nat
 x:Nat
 ts:List Nat
 c:Nat
def YC(a:Ar):jG:=.tuple [.int (a.p:Nat),.int (a.x:Nat),Ax a.ts,.int (a.c:Nat)]
def Sm(a:Ar):AV:=.D (YC a)
def Ef(k:Nat×Nat)(a:Ar):Bool:=decide (a.p=k.1) && decide (a.x=k.2)
def grp(A:List Ar)(k:Nat×Nat):List Pr:=(A.filter (Ef k)).map λa=>(a.c,bts a.ts)
def kvT(e:(Nat×Nat)×jH):List Key×AV:=([.inl (e.1.1:Nat),.inl (e.1.2:Nat)],.R e.2)
structure TopW(μ0 μ:M)(d:jH)(A:List Ar)(K:Nat×Nat->Prop)(kvs:List ((Nat×Nat)×jH)):Prop where
 dd:μ d=some (.dt (kvs.map kvT))
 ll:∀e∈kvs,μ e.2=some (.lst ((grp A e.1).map A4))
 kk:∀k,(∃e∈kvs,e.1=k)↔K k
 uu:(kvs.map (·.1)).Nodup
 vv:(kvs.map (·.2)).Nodup
 fd:μ0 d=none
 fe:∀e∈kvs,μ0 e.2=none/\e.2≠d
 ss:Sub μ0 μ
def Y4(μ0 μ:M)(d:jH)(A:List Ar)(kvs:List ((Nat×Nat)×jH)):Prop:=TopW μ0 μ d A (λk=>grp A k≠[]) kvs
theorem Nd{k l:Nat×Nat}(h:([.inl (k.1:Nat),.inl (k.2:Nat)]:List Key)=[.inl (l.1:Nat),.inl (l.2:Nat)]):k=l:=by
 injection h with h1 h2
 injection h2 with h2 _
 exact iY (eM (fI h1)) (eM (fI h2))
theorem Fz:∀{kvs:List ((Nat×Nat)×jH)} {e:(Nat×Nat)×jH},(kvs.map (·.1)).Nodup->e∈kvs->Cg (kvs.map kvT) [.inl (e.1.1:Nat),.inl (e.1.2:Nat)]=some (.R e.2)
 | x :: kvs,e,a,he=>by
  rw [ZH]
  rw [ZH,aO]at a
  by_cases h:x.1=e.1
  ·have hx:e=x:=by
    rcases YV.mp he with rfl | he
    ·rfl
    ·exact absurd (D_.mpr ⟨e,he,h.symm⟩) a.1
   subst hx
   exact E6
  ·have b:e∈kvs:=by
    rcases YV.mp he with rfl | he
    ·exact absurd rfl h
    ·exact he
   rw [show Cg (kvT x :: kvs.map kvT) [.inl (e.1.1:Nat),.inl (e.1.2:Nat)]=Cg (kvs.map kvT) [.inl (e.1.1:Nat),.inl (e.1.2:Nat)] from Dp (λz=>h (Nd z))]
   exact Fz a.2 b
theorem G8:∀{kvs:List ((Nat×Nat)×jH)} {k:Nat×Nat},(∀e∈kvs,e.1≠k)->Cg (kvs.map kvT) [.inl (k.1:Nat),.inl (k.2:Nat)]=none
 | [],_,_=>rfl
 | x :: kvs,k,h=>by
  rw [ZH,show Cg (kvT x :: kvs.map kvT) [.inl (k.1:Nat),.inl (k.2:Nat)]=Cg (kvs.map kvT) [.inl (k.1:Nat),.inl (k.2:Nat)] from Dp (λz=>h x Z_ (Nd z))]
  exact G8 λe he=>h e (ZK _ he)
theorem Fq{kvs:List ((Nat×Nat)×jH)}{k:Nat×Nat}{z:jH}(h:∀e∈kvs,e.1≠k):E5 (kvs.map kvT) [.inl (k.1:Nat),.inl (k.2:Nat)] (.R z)=(kvs++[(k,z)]).map kvT:=by
 unfold E5
 rw [M_,N_]
 ·rfl
 ·intro a
  obtain⟨b,h1,h2⟩:=aE.mp a
  obtain⟨e,he,rfl⟩:=D_.mp h1
  exact h e he (Nd (YU h2))
theorem O5{kvs:List ((Nat×Nat)×jH)}{e f:(Nat×Nat)×jH}(h:(kvs.map (·.1)).Nodup)(he:e∈kvs)(b:f∈kvs)(c:e.1=f.1):e=f:=by
 induction kvs with
 | nil=>cases he
 | cons x r a =>
  rw [ZH,aO]at h
  rcases YV.mp he with h1 | h1 <;> rcases YV.mp b with h2 | h2
  ·rw [h1,h2]
  ·exact absurd (D_.mpr ⟨f,h2,by rw [<- h1];exact c.symm⟩) h.1
  ·exact absurd (D_.mpr ⟨e,h1,by rw [<- h2];exact c⟩) h.1
  ·exact a h.2 h1 h2
theorem L5{kvs:List ((Nat×Nat)×jH)}{e f:(Nat×Nat)×jH}(h:(kvs.map (·.2)).Nodup)(he:e∈kvs)(b:f∈kvs)(c:e.2=f.2):e=f:=by
 induction kvs with
 | nil=>cases he
 | cons x r a =>
  rw [ZH,aO]at h
  rcases YV.mp he with h1 | h1 <;> rcases YV.mp b with h2 | h2
  ·rw [h1,h2]
  ·exact absurd (D_.mpr ⟨f,h2,by rw [<- h1];exact c.symm⟩) h.1
  ·exact absurd (D_.mpr ⟨e,h1,by rw [<- h2];exact c⟩) h.1
  ·exact a h.2 h1 h2
theorem O6(A:List Ar)(a:Ar)(k:Nat×Nat):grp (A++[a]) k=grp A k++(if Ef k a then [(a.c,bts a.ts)] else []):=by
 unfold grp
 rw [fF,N_,eX,List.filter_nil]
 split <;> rfl
theorem Kl(a:Ar):Ef (a.p,a.x) a=true:=by unfold Ef;simp
theorem Nf{a:Ar}{k:Nat×Nat}(h:k≠(a.p,a.x)):Ef k a=false:=by
 unfold Ef
 rw [<- Bool.decide_and]
 exact ZB λc=>h (iY c.1.symm c.2.symm)
theorem VR{a b c d:jG}{i j k l:Nat}{τ:ASt}{μ:M}{R:ASt->M->Prop}(h:R ((((τ.set i (some (.D a))).set j (some (.D b))).set k (some (.D c))).set l (some (.D d))) μ):Ec (Dh i) (Ec (Dh j) (Ec (Dh k) (Ec (Dh l) N3))) (List.map AV.D [a,b,c,d]) τ μ R:=h
abbrev YD:List Str:=["arrows","tops","stand","letter","targets","cost"]
theorem Vd:FnScope YD ["arrows"] (Af LU):=⟨rfl,rfl,rfl,by decide +kernel,rfl,by decide +kernel,by decide +kernel⟩
def QB:ASp:=λc μ R=>∃(x:AV) (A:List Ar),c=[x]/\items μ x=some (A.map Sm)/\A.length<=300/\(∀a∈A,∀t∈a.ts,t < 5)/\∀d b μ',Y4 μ μ' d A b->R (.R d) μ'
theorem QC{n:Nat}(F:Fun K "arrows_by_top" "arrows_by_top" LU f fd) (U:VCal P w K mg base n "as_bits" ["stands"] JT):FnOk P w K mg base Ea (n+1) f fd ["arrows"] (Fg K 1 QB):=by
 refine F.vok Vd λau A W s H E S=>⟨_,(Ae (Av (i:=1) Vd.nd rfl (Or.inl rfl) Er)
   (Ae (B6 ZD rfl (Bf (vv 0)) (Dl (n:=4) rfl (Aq (Ai (i:=2) Vd.nd rfl (Or.inl rfl)) (Aq (Ai (i:=3) Vd.nd rfl (Or.inl rfl)) (Aq (Ai (i:=4) Vd.nd rfl (Or.inl rfl)) (Aq (Ai (i:=5) Vd.nd rfl (Or.inl rfl)) B0))))) (Ae (B2 (X7 (Cu S) (vv 1) (Bl (Aa (vv 2) (Aa (vv 3) Ad))) (Bv Ad)))
   (Aj (B2 (Eb aJ aK Dg (Mw (Cu S) (vv 1) (Bl (Aa (vv 2) (Aa (vv 3) Ad)))) (Aa (Bl (Aa (vv 5) (Aa (Ak U S rfl (Aa (vv 4) Ad)) Ad))) Ad))))))
   (Aj (Be (vv 1))))),?_⟩
 rintro xs μ R _ ⟨x,A,rfl,hx,hn,ht,q⟩
 intro d V
 refine A0 (fun τ μ'=>∃J I M L,∃g:List ((Nat×Nat)×jH),τ=[some x,some (.R d),J,I,M,L]/\Y4 μ μ' d A g) (λZ hZ=>?_) ?_
 ·refine Ac (B8 hx (Sub.refl.new V)) ?_
  refine Co (λi τ μ'=>∃J I M L,∃g:List ((Nat×Nat)×jH),τ=[some x,some (.R d),J,I,M,L]/\g.length<=i/\Y4 μ μ' d (A.take i) g) ⟨none,none,none,none,[],rfl,YZ _,⟨Ab,(λ_ h=>nomatch h),λk=>⟨(λ⟨_,h,_⟩=>nomatch h),λh=>absurd rfl h⟩,aA,aA,V,(λ_ h=>nomatch h),Sub.refl.new V⟩⟩ (λ_ _ _ ⟨_,_,_,_,_,_,_,T⟩=>B8 hx T.ss) ?_ ?_
  ·rintro i v τ μ1 Z2 hv ⟨J,I,M,L,g,rfl,G,T⟩ hZ2
   rw [H_]at hv
   obtain⟨a,ha,rfl⟩:=F_.mp hv
   have hi:=(E_.mp ha).1
   have Y:A.take (i+1)=A.take i++[a]:=by rw [Y_,ha];rfl
   refine⟨rfl,VR ?_⟩
   dsimp only [List.set]
   generalize X:A.take i=B at T Y
   refine A0 (fun τ μ'=>∃g:List ((Nat×Nat)×jH),τ=[some x,some (.R d),some (.D (.int (a.p:Nat))),some (.D (.int (a.x:Nat))),some (.D (Ax a.ts)),some (.D (.int (a.c:Nat)))]/\g.length<=i+1/\TopW μ μ' d B (λk=>grp B k≠[]\/k=(a.p,a.x)) g) (λZ3 bg=>?_) ?_
   ·refine⟨⟨_,T.dd,trivial⟩,λz hz=>Ac (x:=[.inl (a.p:Nat),.inl (a.x:Nat)]) rfl ?_⟩
    have C:Sub μ1 (An μ1 z (.lst [])):=Sub.refl.new hz
    have ez:An μ1 z (.lst []) z=some (.lst []):=Ab
    have zd:z≠d:=by rintro rfl;rw [T.dd]at hz;cases hz
    have z0:μ z=none:=T.ss.none hz
    have zk:∀e∈g,e.2≠z:=λe he c=>by
     have:=T.ll e he
     rw [c,hz]at this;cases this
    generalize An μ1 z (.lst [])=μ2 at C ez
    refine Ac (C _ _ T.dd) ⟨A5 (by rw [B_];omega),λv hv=>?_,λhv=>?_⟩
    ·have eh:∃e∈g,e.1=(a.p,a.x):=ZE λN=>by
      rw [G8 (k:=(a.p,a.x)) λe he c=>N ⟨e,he,c⟩]at hv;cases hv
     refine bg _ _ ⟨g,rfl,ZP G,⟨C _ _ T.dd,λe he=>C _ _ (T.ll e he),λk=>?_,T.uu,T.vv,T.fd,T.fe,λb m hb=>C b m (T.ss b m hb)⟩⟩
     rw [T.kk]
     refine⟨.inl,λc=>c.elim id λc=>?_⟩
     rw [c]
     exact(T.kk _).mp eh
    ·have N:∀e∈g,e.1≠(a.p,a.x):=λe he c=>by
      have:=Fz T.uu he
      rw [c]at this
      rw [this]at hv;cases hv
     rw [Fq (k:=(a.p,a.x)) N]
     have g0:grp B (a.p,a.x)=[]:=ZE λc=>by
      obtain⟨e,he,h⟩:=(T.kk _).mpr c
      exact N e he h
     have ne:∀{b:jH},b≠d->An μ2 d (.dt ((g++[((a.p,a.x),z)]).map kvT)) b=μ2 b:=λh=>Ag h
     refine bg _ _ ⟨g++[((a.p,a.x),z)],rfl,by rw [L_];show g.length+1<=_;exact eY G,⟨Ab,λe he=>?_,λk=>?_,?_,?_,T.fd,λe he=>?_,λb m hb=>?_⟩⟩
     ·rcases G_.mp he with he | he
      ·rw [ne (T.fe e he).2];exact C _ _ (T.ll e he)
      ·rw [P_.mp he,ne zd,g0];exact ez
     ·constructor
      ·rintro⟨e,he,rfl⟩
       rcases G_.mp he with he | he
       ·exact .inl ((T.kk _).mp ⟨e,he,rfl⟩)
       ·rw [P_.mp he];exact .inr rfl
      ·rintro(h | rfl)
       ·obtain⟨e,he,h⟩:=(T.kk k).mpr h
        exact⟨e,YM _ he,h⟩
       ·exact⟨((a.p,a.x),z),by simp,rfl⟩
     ·rw [N_,ZW]
      refine⟨T.uu,by simp,λx hx y hy e=>?_⟩
      obtain⟨Q,O,rfl⟩:=D_.mp hx
      have hy:y=(a.p,a.x):=by simpa using hy
      exact N Q O (e.trans hy)
     ·rw [N_,ZW]
      refine⟨T.vv,by simp,λx hx y hy e=>?_⟩
      obtain⟨Q,O,rfl⟩:=D_.mp hx
      have hy:y=z:=by simpa using hy
      exact zk Q O (e.trans hy)
     ·rcases G_.mp he with he | he
      ·exact T.fe e he
      ·rw [P_.mp he];exact⟨z0,zd⟩
     ·rw [Ag (by rintro rfl;rw [T.fd]at hb;cases hb)]
      exact C b m (T.ss b m hb)
   clear G T
   rintro τ μ2 ⟨g,rfl,G,T⟩
   obtain⟨l,j,r⟩:=(T.kk (a.p,a.x)).mpr (.inr rfl)
   have jm:=Fz T.uu j
   rw [r]at jm
   have lj:=T.ll l j
   have ed:dget (.dt (g.map kvT)) (.tuple [.int (a.p:Nat),.int (a.x:Nat)])=some (some (AV.R l.2)):=by
    show some (Cg (g.map kvT) [.inl (a.p:Nat),.inl (a.x:Nat)])=_
    rw [jm]
   refine Ac T.dd (Ac ed (Ac (x:=AV.R l.2) rfl ⟨Ac lj trivial,_,a.ts,rfl,Bq a.ts,λt h=>dA (ht a (U_ ha) t h) (by decide),Ac lj ⟨?_,hZ2 _ _ ⟨_,_,_,_,g,rfl,G,?_⟩⟩⟩))
   ·rw [B_]
    refine A5 ?_
    unfold grp
    rw [B_]
    have:=ZM (Ef l.1) B
    rw [<- X,ZX]at this
    rw [<- X]
    omega
   ·rw [Y]
    have ne:∀{b:jH} {o:MO},b≠l.2->An μ2 l.2 o b=μ2 b:=λh=>Ag h
    refine⟨by rw [ne (T.fe l j).2.symm];exact T.dd,λe he=>?_,λk=>?_,T.uu,T.vv,T.fd,T.fe,λb m hb=>?_⟩
    ·rw [O6]
     by_cases u:e.1=(a.p,a.x)
     ·have:e=l:=O5 T.uu he j (u.trans r.symm)
      subst this
      rw [Ab,r,Kl,S_ rfl,N_];rfl
     ·have:e.2≠l.2:=λc=>u (by rw [L5 T.vv he j c];exact r)
      rw [ne this,Nf u,M_ R_,aY]
      exact T.ll e he
    ·rw [T.kk,O6]
     by_cases hk:k=(a.p,a.x)
     ·rw [hk,Kl,S_ rfl]
      exact⟨λ_=>by simp,λ_=>.inr rfl⟩
     ·rw [Nf hk,M_ R_,aY]
      exact⟨λc=>c.elim id λc=>absurd c hk,.inl⟩
    ·rw [ne (by rintro rfl;rw [(T.fe l j).1]at hb;cases hb)]
     exact T.ss b m hb
  ·rintro τ μ1 ⟨J,I,M,L,g,rfl,G,T⟩
   rw [B_,YY]at T
   exact hZ _ _ ⟨_,_,_,_,g,rfl,T⟩
 rintro τ μ1 ⟨J,I,M,L,g,rfl,T⟩
 exact⟨_,Sub.refl,q d g μ1 T⟩
structure Rq where
 p:Nat
 x:Nat
 q:Nat
 w:List Nat
deriving DecidableEq
def Pj(r:Rq):jG:=.tuple [.int (r.p:Nat),.int (r.x:Nat),.int (r.q:Nat),Ax r.w]
def Gn(r:Rq):AV:=.D (Pj r)
structure Gq where
 pl:List (Str×Nat)
 le:List Str
 rs:List Rq
def Sn(p:Str×Nat):jG:=.tuple [.str p.1,.int (p.2:Nat)]
def D5(g:Gq):jG:=.tuple [.tuple (g.pl.map Sn),.tuple (g.le.map .str),.tuple (g.rs.map Pj)]
def Fr(k:Nat×Nat)(a:Rq):Bool:=decide (a.p=k.1) && decide (a.x=k.2)
def rgp(A:List Rq)(k:Nat×Nat):List Rq:=A.filter (Fr k)
structure TpW(μ0 μ:M)(d:jH)(A:List Rq)(K:Nat×Nat->Prop)(kvs:List ((Nat×Nat)×jH)):Prop where
 dd:μ d=some (.dt (kvs.map kvT))
 ll:∀e∈kvs,μ e.2=some (.lst ((rgp A e.1).map Gn))
 kk:∀k,(∃e∈kvs,e.1=k)↔K k
 uu:(kvs.map (·.1)).Nodup
 vv:(kvs.map (·.2)).Nodup
 fd:μ0 d=none
 fe:∀e∈kvs,μ0 e.2=none/\e.2≠d
 ss:Sub μ0 μ
def KD(μ0 μ:M)(d:jH)(A:List Rq)(kvs:List ((Nat×Nat)×jH)):Prop:=TpW μ0 μ d A (λk=>rgp A k≠[]) kvs
theorem O7(A:List Rq)(a:Rq)(k:Nat×Nat):rgp (A++[a]) k=rgp A k++(if Fr k a then [a] else []):=by
 unfold rgp
 rw [fF,eX,List.filter_nil]
theorem O8(a:Rq):Fr (a.p,a.x) a=true:=by unfold Fr;simp
theorem Y5{a:Rq}{k:Nat×Nat}(h:k≠(a.p,a.x)):Fr k a=false:=by
 unfold Fr
 rw [<- Bool.decide_and]
 exact ZB λc=>h (iY c.1.symm c.2.symm)
abbrev YE:List Str:=["game","tops","rule"]
theorem KF:FnScope YE ["game"] (Af LW):=⟨rfl,rfl,rfl,by decide +kernel,rfl,by decide +kernel,by decide +kernel⟩
def QD:ASp:=λb μ R=>∃(g:Gq),b=[.D (D5 g)]/\g.rs.length<=300/\∀d a μ',KD μ μ' d g.rs a->R (.R d) μ'
theorem QE{n:Nat}(F:Fun K "rules_by_top" "rules_by_top" LW f fd):FnOk P w K mg base Ea (n+1) f fd ["game"] (Fg K 1 QD):=by
 refine F.vok KF λau A S s H E W=>⟨_,(Ae (Av (i:=1) KF.nd rfl (Or.inl rfl) Er)
   (Ae (B6 ZD rfl (Bf (Ap A7 (vv 0) Ah)) (Ai (i:=2) KF.nd rfl (Or.inl rfl)) (Ae (B2 (X7 (Cu W) (vv 1) (Eo (vv 2) Fv (Fw Ah)) (Bv Ad)))
   (Aj (B2 (Eb aJ aK Dg (Mw (Cu W) (vv 1) (Eo (vv 2) Fv (Fw Ah))) (Aa (vv 2) Ad))))))
   (Aj (Be (vv 1))))),?_⟩
 rintro xs μ R _ ⟨g,rfl,hn,q⟩
 generalize O:g.rs=A at hn q
 have L:∀ ν:M,items ν (.D (.tuple (A.map Pj)))=some (A.map Gn):=fun ν=>by show some ((A.map Pj).map AV.D)=_;rw [YT];rfl
 have pg:atI ([.tuple (g.pl.map Sn),.tuple (g.le.map .str),.tuple (g.rs.map Pj)]:List jG) (2:Int)=some (.tuple (A.map Pj)):=by rw [O];rfl
 intro d hd
 refine A0 (fun τ μ'=>∃I,∃j:List ((Nat×Nat)×jH),τ=[some (.D (D5 g)),some (.R d),I]/\KD μ μ' d A j) (λZ hZ=>?_) ?_
 ·refine Ac pg (Ac (L _) ?_)
  refine Co (λi τ μ'=>∃I,∃j:List ((Nat×Nat)×jH),τ=[some (.D (D5 g)),some (.R d),I]/\j.length<=i/\KD μ μ' d (A.take i) j) ⟨none,[],rfl,YZ _,⟨Ab,(λ_ h=>nomatch h),λk=>⟨(λ⟨_,h,_⟩=>nomatch h),λh=>absurd rfl h⟩,aA,aA,hd,(λ_ h=>nomatch h),Sub.refl.new hd⟩⟩ (λ_ _ _ _=>L _) ?_ ?_
  ·rintro i v τ μ1 Z2 hv ⟨I,j,rfl,G,T⟩ hZ2
   rw [H_]at hv
   obtain⟨a,ha,rfl⟩:=F_.mp hv
   have hi:=(E_.mp ha).1
   have V:A.take (i+1)=A.take i++[a]:=by rw [Y_,ha];rfl
   generalize U:A.take i=B at T V
   refine A0 (fun τ μ'=>∃j:List ((Nat×Nat)×jH),τ=[some (.D (D5 g)),some (.R d),some (Gn a)]/\j.length<=i+1/\TpW μ μ' d B (λk=>rgp B k≠[]\/k=(a.p,a.x)) j) (λZ3 bg=>?_) ?_
   ·refine⟨⟨_,T.dd,trivial⟩,λz hz=>Ac (x:=[.inl (a.p:Nat),.inl (a.x:Nat)]) rfl ?_⟩
    have C:Sub μ1 (An μ1 z (.lst [])):=Sub.refl.new hz
    have ez:An μ1 z (.lst []) z=some (.lst []):=Ab
    have X:z≠d:=by rintro rfl;rw [T.dd]at hz;cases hz
    have z0:μ z=none:=T.ss.none hz
    have zk:∀e∈j,e.2≠z:=λe he c=>by
     have:=T.ll e he
     rw [c,hz]at this;cases this
    generalize An μ1 z (.lst [])=μ2 at C ez
    refine Ac (C _ _ T.dd) ⟨A5 (by rw [B_];omega),λv hv=>?_,λhv=>?_⟩
    ·have eh:∃e∈j,e.1=(a.p,a.x):=ZE λJ=>by
      rw [G8 (k:=(a.p,a.x)) λe he c=>J ⟨e,he,c⟩]at hv;cases hv
     refine bg _ _ ⟨j,rfl,ZP G,⟨C _ _ T.dd,λe he=>C _ _ (T.ll e he),λk=>?_,T.uu,T.vv,T.fd,T.fe,λb m hb=>C b m (T.ss b m hb)⟩⟩
     rw [T.kk]
     refine⟨.inl,λc=>c.elim id λc=>?_⟩
     rw [c]
     exact(T.kk _).mp eh
    ·have J:∀e∈j,e.1≠(a.p,a.x):=λe he c=>by
      have:=Fz T.uu he
      rw [c]at this
      rw [this]at hv;cases hv
     rw [Fq (k:=(a.p,a.x)) J]
     have g0:rgp B (a.p,a.x)=[]:=ZE λc=>by
      obtain⟨e,he,h⟩:=(T.kk _).mpr c
      exact J e he h
     have ne:∀{b:jH},b≠d->An μ2 d (.dt ((j++[((a.p,a.x),z)]).map kvT)) b=μ2 b:=λh=>Ag h
     refine bg _ _ ⟨j++[((a.p,a.x),z)],rfl,by rw [L_];show j.length+1<=_;exact eY G,⟨Ab,λe he=>?_,λk=>?_,?_,?_,T.fd,λe he=>?_,λb m hb=>?_⟩⟩
     ·rcases G_.mp he with he | he
      ·rw [ne (T.fe e he).2];exact C _ _ (T.ll e he)
      ·rw [P_.mp he,ne X,g0];exact ez
     ·constructor
      ·rintro⟨e,he,rfl⟩
       rcases G_.mp he with he | he
       ·exact .inl ((T.kk _).mp ⟨e,he,rfl⟩)
       ·rw [P_.mp he];exact .inr rfl
      ·rintro(h | rfl)
       ·obtain⟨e,he,h⟩:=(T.kk k).mpr h
        exact⟨e,YM _ he,h⟩
       ·exact⟨((a.p,a.x),z),by simp,rfl⟩
     ·rw [N_,ZW]
      refine⟨T.uu,by simp,λx hx y hy e=>?_⟩
      obtain⟨Q,N,rfl⟩:=D_.mp hx
      have hy:y=(a.p,a.x):=by simpa using hy
      exact J Q N (e.trans hy)
     ·rw [N_,ZW]
      refine⟨T.vv,by simp,λx hx y hy e=>?_⟩
      obtain⟨Q,N,rfl⟩:=D_.mp hx
      have hy:y=z:=by simpa using hy
      exact zk Q N (e.trans hy)
     ·rcases G_.mp he with he | he
      ·exact T.fe e he
      ·rw [P_.mp he];exact⟨z0,X⟩
     ·rw [Ag (by rintro rfl;rw [T.fd]at hb;cases hb)]
      exact C b m (T.ss b m hb)
   clear G T
   rintro τ μ2 ⟨j,rfl,G,T⟩
   obtain⟨r,l,t⟩:=(T.kk (a.p,a.x)).mpr (.inr rfl)
   have jm:=Fz T.uu l
   rw [t]at jm
   have Y:=T.ll r l
   have ed:dget (.dt (j.map kvT)) (.tuple [.int (a.p:Nat),.int (a.x:Nat)])=some (some (AV.R r.2)):=by
    show some (Cg (j.map kvT) [.inl (a.p:Nat),.inl (a.x:Nat)])=_
    rw [jm]
   refine Ac T.dd (Ac ed (Ac (x:=AV.R r.2) rfl ⟨Ac Y trivial,Ac Y ⟨?_,hZ2 _ _ ⟨_,j,rfl,G,?_⟩⟩⟩))
   ·rw [B_]
    refine A5 ?_
    unfold rgp
    have:=ZM (Fr r.1) B
    rw [<- U,ZX]at this
    rw [<- U]
    omega
   ·rw [V]
    have ne:∀{b:jH} {o:MO},b≠r.2->An μ2 r.2 o b=μ2 b:=λh=>Ag h
    refine⟨by rw [ne (T.fe r l).2.symm];exact T.dd,λe he=>?_,λk=>?_,T.uu,T.vv,T.fd,T.fe,λb m hb=>?_⟩
    ·rw [O7]
     by_cases u:e.1=(a.p,a.x)
     ·have:e=r:=O5 T.uu he l (u.trans t.symm)
      subst this
      rw [Ab,t,O8,S_ rfl,N_];rfl
     ·have:e.2≠r.2:=λc=>u (by rw [L5 T.vv he l c];exact t)
      rw [ne this,Y5 u,M_ R_,aY]
      exact T.ll e he
    ·rw [T.kk,O7]
     by_cases hk:k=(a.p,a.x)
     ·rw [hk,O8,S_ rfl]
      exact⟨λ_=>by simp,λ_=>.inr rfl⟩
     ·rw [Y5 hk,M_ R_,aY]
      exact⟨λc=>c.elim id λc=>absurd c hk,.inl⟩
    ·rw [ne (by rintro rfl;rw [(T.fe r l).1]at hb;cases hb)]
     exact T.ss b m hb
  ·rintro τ μ1 ⟨I,j,rfl,G,T⟩
   rw [B_,YY]at T
   exact hZ _ _ ⟨_,j,rfl,T⟩
 rintro τ μ1 ⟨I,j,rfl,T⟩
 exact⟨_,Sub.refl,q d j μ1 T⟩
def hnd(g:Gq)(k:Nat×Nat):Nat:=(g.pl.map (·.2)).getD k.1 0
abbrev Tops:=Nat×Nat->List Pr
def Kz(G:Tops)(s:Nat):List Nat->List Pr
 | []=>[(0,bts [s])]
 | [x]=>G (s,x)
 | x :: y :: _=>(G (s,x)).flatMap λp=>(cho ((Cf p.2).map λt=>G (t,y))).map λq=>(p.1+q.1,q.2)
def Ft(g:Gq)(G:Tops)(k:Nat×Nat):List Pr:=if hnd g k=1 then cho ((rgp g.rs k).map λr=>Kz G r.q r.w) else((rgp g.rs k).map λr=>Kz G r.q r.w).flatten
def D9(G:Tops)(E:List Nat):List Nat->Nat->Prop
 | [],s=>s∈E
 | x :: v,s=>∃p∈G (s,x),∀t∈Cf p.2,D9 G E v t
inductive Pre (g:Gq) (S:Nat->List Nat->Prop):Nat->List Nat->Prop where
 | say {p:Nat} {w:List Nat}:p < g.pl.length->S p w->Pre g S p w
 | one {p x:Nat} {v:List Nat} {r:Rq}:r∈rgp g.rs (p,x)->hnd g (p,x)≠1->Pre g S r.q (r.w++v)->Pre g S p (x :: v)
 | all {p x:Nat} {v:List Nat}:hnd g (p,x)=1->rgp g.rs (p,x)≠[]->(∀r∈rgp g.rs (p,x),Pre g S r.q (r.w++v))->Pre g S p (x :: v)
theorem Pre.mono{g:Gq}{S T:Nat->List Nat->Prop}(h:∀p w,p < g.pl.length->S p w->T p w){p:Nat}{w:List Nat}(hp:Pre g S p w):Pre g T p w:=by
 induction hp with
 | say hp c=>exact .say hp (h _ _ hp c)
 | one d b _ a=>exact .one d b a
 | all b e _ a=>exact .all b e a
theorem C8{n t:Nat}:t∈Cf n↔t < 5/\n.testBit t=true:=by
 unfold Cf
 rw [ZC,ZY]
theorem Ng(p q:Pr)(t:Nat):(ewe p q).2.testBit t=(p.2.testBit t || q.2.testBit t):=iC ..
theorem Y6{Gs:List (List Pr)}{z:Pr}(hz:z∈cho Gs):∀G∈Gs,∃p∈G,∀t,p.2.testBit t=true->z.2.testBit t=true:=by
 have a:∀(Gs:List (List Pr)) (F:List Pr),z∈Gs.foldl (λF G=>F.flatMap λp=>G.map (ewe p)) F->(∃f∈F,∀t,f.2.testBit t=true->z.2.testBit t=true)/\∀G∈Gs,∃p∈G,∀t,p.2.testBit t=true->z.2.testBit t=true:=by
  intro Gs
  induction Gs with
  | nil=>exact λF h=>⟨⟨z,h,λ_ h=>h⟩,λ_ h=>nomatch h⟩
  | cons G Gs d =>
   intro F h
   obtain⟨⟨f,b,h1⟩,h2⟩:=d _ h
   obtain⟨y,hy,b⟩:=aR.mp b
   obtain⟨o,g,rfl⟩:=D_.mp b
   refine⟨⟨y,hy,λt c=>h1 t (by rw [Ng,c];rfl)⟩,λe hG=>?_⟩
   rcases YV.mp hG with rfl | hG
   ·exact⟨o,g,λt c=>h1 t (by rw [Ng,c,Bool.or_true])⟩
   ·exact h2 e hG
 exact(a Gs _ hz).2
theorem Y7{Q:Nat->Prop}{Gs:List (List Pr)}(h:∀G∈Gs,∃p∈G,∀t∈Cf p.2,Q t):∃z∈cho Gs,∀t∈Cf z.2,Q t:=by
 have a:∀(Gs:List (List Pr)) (F:List Pr),(∀G∈Gs,∃p∈G,∀t∈Cf p.2,Q t)->(∃f∈F,∀t∈Cf f.2,Q t)->∃z∈Gs.foldl (λF G=>F.flatMap λp=>G.map (ewe p)) F,∀t∈Cf z.2,Q t:=by
  intro Gs
  induction Gs with
  | nil=>exact λF _ h=>h
  | cons G Gs d =>
   intro F h g
   obtain⟨f,i,h1⟩:=g
   obtain⟨p,hp,h2⟩:=h G (.head _)
   refine d _ (λe hG=>h e (.tail _ hG)) ⟨ewe f p,aR.mpr ⟨f,i,D_.mpr ⟨p,hp,rfl⟩⟩,λt b=>?_⟩
   obtain⟨c,hb⟩:=C8.mp b
   rw [Ng,cU]at hb
   exact hb.elim (λhb=>h1 t (C8.mpr ⟨c,hb⟩)) λhb=>h2 t (C8.mpr ⟨c,hb⟩)
 exact a Gs _ h ⟨(0,0),.head _,λt b=>absurd (C8.mp b).2 (by rw [iR];decide)⟩
theorem Y8{s:Nat}(hs:s < 5):Cf (bts [s])=[s]:=by
 have a:∀i:_root_.Fin 5,Cf (bts [i.val])=[i.val]:=by decide +kernel
 exact a ⟨s,hs⟩
def O9(G:Tops)(L:Nat->List Nat->Prop):Prop:=∀k,∀p∈G k,∀v,(∀t∈Cf p.2,L t v)->L k.1 (k.2 :: v)
theorem DG{G:Tops}{L:Nat->List Nat->Prop}(h:O9 G L){s:Nat}(hs:s < 5){u:List Nat}(hu:u.length<=2){z:Pr}(hz:z∈Kz G s u){v:List Nat}(hv:∀t∈Cf z.2,L t v):L s (u++v):=by
 match u,hu with
 | [],_ =>
  rw [P_.mp hz,Y8 hs]at hv
  exact hv s (.head _)
 | [x],_=>exact h (s,x) z hz v hv
 | [x,y],_ =>
  obtain⟨p,hp,hz⟩:=aR.mp hz
  obtain⟨q,hq,rfl⟩:=D_.mp hz
  refine h (s,x) p hp (y :: v) λt c=>?_
  obtain⟨o,b,hb⟩:=Y6 hq _ (D_.mpr ⟨t,c,rfl⟩)
  exact h (t,y) o b v λi a=>hv i (C8.mpr ⟨(C8.mp a).1,hb i (C8.mp a).2⟩)
theorem So{G:Tops}{E:List Nat}{s:Nat}(hs:s < 5){u:List Nat}(hu:u.length<=2){v:List Nat}(h:D9 G E (u++v) s):∃z∈Kz G s u,∀t∈Cf z.2,D9 G E v t:=by
 match u,hu with
 | [],_ =>
  refine⟨(0,bts [s]),.head _,λt a=>?_⟩
  rw [Y8 hs]at a
  rw [P_.mp a];exact h
 | [x],_=>exact h
 | [x,y],_ =>
  obtain⟨p,hp,h⟩:=h
  obtain⟨q,hq,hb⟩:=Y7 (Q:=D9 G E v) (Gs:=(Cf p.2).map λt=>G (t,y)) λK b=>by
   obtain⟨t,a,rfl⟩:=D_.mp b
   exact h t a
  exact⟨(p.1+q.1,q.2),aR.mpr ⟨p,hp,D_.mpr ⟨q,hq,rfl⟩⟩,hb⟩
structure RsOk(g:Gq):Prop where
 p:g.pl.length<=5
 q:∀r∈g.rs,r.q < g.pl.length/\r.w.length<=2
def LPre(g:Gq)(S:Nat->List Nat->Prop)(s:Nat)(w:List Nat):Prop:=(s < g.pl.length/\Pre g S s w)\/(g.pl.length<=s/\S s w)
theorem DH{g:Gq}(d:RsOk g){S:Nat->List Nat->Prop}{G:Tops}(h:O9 G (LPre g S)){k:Nat×Nat}(hk:k.1 < g.pl.length)(i:rgp g.rs k≠[]){z:Pr}(hz:z∈Ft g G k){v:List Nat}(hv:∀t∈Cf z.2,LPre g S t v):LPre g S k.1 (k.2 :: v):=by
 have b:∀r∈rgp g.rs k,∀y∈Kz G r.q r.w,(∀t∈Cf y.2,LPre g S t v)->Pre g S r.q (r.w++v):=λr b y hy hv=>by
  obtain⟨h1,h2⟩:=d.q r (ZC.mp b).1
  have:=d.p
  exact(DG h (by omega) h2 hy hv).elim (λz=>z.2) λz=>absurd h1 (by omega)
 unfold Ft at hz
 split at hz
 ·rename_i c
  refine .inl ⟨hk,.all c i λr a=>?_⟩
  obtain⟨y,hy,hb⟩:=Y6 hz _ (D_.mpr ⟨r,a,rfl⟩)
  exact b r a y hy λt e=>hv t (C8.mpr ⟨(C8.mp e).1,hb t (C8.mp e).2⟩)
 ·rename_i c
  obtain⟨K,j,hz⟩:=iU.mp hz
  obtain⟨r,a,rfl⟩:=D_.mp j
  exact .inl ⟨hk,.one a c (b r a z hz hv)⟩
theorem Sq{G:Tops}{E:List Nat}{L:Nat->List Nat->Prop}(h:O9 G L)(b:∀s∈E,L s []):∀{w:List Nat} {s:Nat},D9 G E w s->L s w
 | [],s,a=>b s a
 | x :: v,s,⟨p,hp,a⟩=>h (s,x) p hp v λt c=>Sq h b (a t c)
def Under(P Q:List Pr):Prop:=∀y∈P,∃z∈Q,∀t∈Cf z.2,t∈Cf y.2
theorem L6{G K:Tops}{E:List Nat}(h:∀k,Under (G k) (K k)):∀{w:List Nat} {s:Nat},D9 G E w s->D9 K E w s
 | [],_,a=>a
 | x :: _,s,⟨p,hp,a⟩=>let⟨z,hz,hb⟩:=h (s,x) p hp;⟨z,hz,λt b=>L6 h (a t (hb t b))⟩
theorem DI{g:Gq}(m:RsOk g){B G:Tops}{E:List Nat}(h1:∀k,Under (B k) (G k))(h2:∀k,rgp g.rs k≠[]->Under (Ft g G k) (G k)){p:Nat}{w:List Nat}(h:Pre g (λp w=>D9 B E w p) p w):D9 G E w p:=by
 have e:∀k,∀r∈rgp g.rs k,r.q < 5/\r.w.length<=2:=λk r e=>by
  obtain⟨a,b⟩:=m.q r (ZC.mp e).1
  have:=m.p
  exact⟨by omega,b⟩
 have d:∀{p x:Nat} {v:List Nat} {y:Pr},rgp g.rs (p,x)≠[]->y∈Ft g G (p,x)->(∀t∈Cf y.2,D9 G E v t)->D9 G E (x :: v) p:=λ{p x v y} l hy hv=>by
  obtain⟨z,hz,hb⟩:=h2 (p,x) l y hy
  exact⟨z,hz,λt n=>hv t (hb t n)⟩
 induction h with
 | say _ o=>exact L6 h1 o
 | @one p x v r c i _ j =>
  obtain⟨a,b⟩:=e _ r c
  obtain⟨y,hy,hv⟩:=So a b j
  refine d (λz=>by rw [z]at c;cases c) (?_:y∈_) hv
  unfold Ft
  rw [M_ i]
  exact iU.mpr ⟨_,D_.mpr ⟨r,c,rfl⟩,hy⟩
 | @all p x v i l _ j =>
  obtain⟨y,hy,hv⟩:=Y7 (Q:=D9 G E v) (Gs:=(rgp g.rs (p,x)).map λr=>Kz G r.q r.w) λK s=>by
   obtain⟨r,c,rfl⟩:=D_.mp s
   obtain⟨a,b⟩:=e _ r c
   exact So a b (j r c)
  refine d l (?_:y∈_) hv
  unfold Ft
  rw [S_ i];exact hy
theorem Q8{g:Gq}(c:RsOk g){B G:Tops}{E:List Nat}(h1:∀k,Under (B k) (G k))(h2:∀k,rgp g.rs k≠[]->Under (Ft g G k) (G k))(d:O9 G (LPre g λp w=>D9 B E w p)){p:Nat}(hp:p < g.pl.length)(w:List Nat):D9 G E w p↔Pre g (λp w=>D9 B E w p) p w :=
 ⟨λa=>(Sq d (λs b=>(aB s g.pl.length).elim (λh=>.inl ⟨h,.say h b⟩) λh=>.inr ⟨h,b⟩) a).elim (λz=>z.2) λz=>absurd hp (iS z.1),DI c h1 h2⟩
theorem DJ{g:Gq}{B:Tops}{E:List Nat}(h:∀k,∀p∈B k,∀t∈Cf p.2,g.pl.length<=t):O9 B (LPre g λp w=>D9 B E w p):=λk p hp v hv=>by
 have a:D9 B E (k.2 :: v) k.1:=⟨p,hp,λt b=>(hv t b).elim (λz=>absurd (h k p hp t b) (Nat.not_le_of_lt z.1)) λz=>z.2⟩
 rcases aB k.1 g.pl.length with hk | hk
 ·exact .inl ⟨hk,.say hk a⟩
 ·exact .inr ⟨hk,a⟩
structure TopK(μ:M)(d:jH)(G:Tops):Prop where
 at':∃kvs:List ((Nat×Nat)×jH),μ d=some (.dt (kvs.map kvT))/\(∀e∈kvs,μ e.2=some (.lst ((G e.1).map A4)))/\(∀k,(∀e∈kvs,e.1≠k)->G k=[])/\(kvs.map (·.1)).Nodup
theorem TopK.sub{μ ν:M}{d:jH}{G:Tops}(h:TopK μ d G)(S:Sub μ ν):TopK ν d G:=by
 obtain⟨a,h1,h2,b,c⟩:=h.at'
 exact⟨a,S _ _ h1,λe he=>S _ _ (h2 e he),b,c⟩
def Nh(G:Tops):Prop:=∀k,(G k).length<=32/\∀z∈G k,z.2 < 32
theorem G9{μ0 μ:M}{d:jH}{G:Tops}{td ty:AE}{τ:ASt}{R:AV->M->Prop}(h:TopK μ0 d G)(g:Sub μ0 μ)(p x:Nat)(n:∀Q:AV->M->Prop,Q (.R d) μ->td τ μ Q)(o:∀Q:AV->M->Prop,Q (.D (.tuple [.int (p:Nat),.int (x:Nat)])) μ->ty τ μ Q)(q:∀l μ',μ' l=some (.lst ((G (p,x)).map A4))->Sub μ μ'->(μ0 l≠none\/μ l=none)->R (.R l) μ'):Xl td ty (NO BF) τ μ R:=by
 obtain⟨a,h1,h2,j,m⟩:=h.at'
 refine n _ ⟨⟨_,g _ _ h1,trivial⟩,o _ λz hz=>?_⟩
 have S:Sub μ (An μ z (.lst [])):=Sub.refl.new hz
 refine Ac (S _ _ (g _ _ h1)) ?_
 by_cases hk:∀e∈a,e.1≠(p,x)
 ·have b:=G8 (k:=(p,x)) hk
  refine Ac (x:=none) (by show some (Cg (a.map kvT) [.inl (p:Nat),.inl (x:Nat)])=_;rw [b]) (q z _ ?_ S (.inr hz))
  rw [Ab,j _ hk];rfl
 ·obtain⟨e,he,i⟩:∃e∈a,e.1=(p,x):=ZE λc=>hk λe he z=>c ⟨e,he,z⟩
  have b:=Fz m he
  rw [i]at b
  refine Ac (x:=some (AV.R e.2)) (by show some (Cg (a.map kvT) [.inl (p:Nat),.inl (x:Nat)])=_;rw [b]) (show R (AV.R e.2) _ from q e.2 _ ?_ S (.inl λc=>by rw [h2 e he]at c;cases c))
  have:=S _ _ (g _ _ (h2 e he))
  rw [i]at this
  exact this
theorem Q9:∀{ts:List Nat},(∀t∈ts,t < 5)->∀{b:Nat},b < 32->ts.foldl (λb k=>b ||| 2 ^ k) b < 32
 | [],_,_,hb=>hb
 | t :: ts,h,b,hb=>by
  refine Q9 (ts:=ts) (λu hu=>h u (ZK _ hu)) ?_
  have a:=h t Z_
  exact Nat.or_lt_two_pow (n:=5) hb (Nat.pow_lt_pow_right (by decide) a)
def SV(G:Tops)(y b:Nat):List Pr:=cho ((Cf b).map λt=>G (t,y))
def QF(G:Tops)(y:Nat)(f r:jH)(kvs:List (Key×AV))(μ:M):Prop:=∀(k:Nat) v,Cg kvs (.inl (k:Nat))=some v->∃(a:jH) (ys:List Pr),v=.R a/\a≠f/\a≠r/\μ a=some (.lst (ys.map A4))/\Cv (SV G y k) ys
structure Cw(P zs:List Pr):Prop where
 m:∀z∈zs,∃y∈P,y.2=z.2
 c:∀y∈P,∃z∈zs,Wn z y
 b:∀z∈zs,z.2 < 32
theorem Cw.thin{P d e:List Pr}(h:Cw P d)(k:CvA d e):Cv P e:=⟨λu hu=>h.m u (k.m u hu),λy hy=>let⟨z,hz,a⟩:=h.c y hy;let⟨u,hu,b⟩:=k.c z hz;⟨u,hu,b.trans a⟩,k.u,λu hu=>h.b u (k.m u hu)⟩
theorem Cw.app{P Q a ys:List Pr}(h:Cw P a)(k:Cw Q ys):Cw (P++Q) (a++ys):=by
 refine⟨λz hz=>?_,λy hy=>?_,λz hz=>(G_.mp hz).elim (h.b z) (k.b z)⟩
 ·rcases G_.mp hz with hz | hz
  ·obtain⟨y,hy,e⟩:=h.m z hz
   exact⟨y,YM _ hy,e⟩
  ·obtain⟨y,hy,e⟩:=k.m z hz
   exact⟨y,YO _ hy,e⟩
 ·rcases G_.mp hy with hy | hy
  ·obtain⟨z,hz,e⟩:=h.c y hy
   exact⟨z,YM _ hz,e⟩
  ·obtain⟨z,hz,e⟩:=k.c y hy
   exact⟨z,YO _ hz,e⟩
theorem Cv.up{P a:List Pr}(h:Cv P a)(c:Nat):Cw (P.map λq=>(c+q.1,q.2)) (a.map λq=>(c+q.1,q.2)):=by
 refine⟨λz hz=>?_,λy hy=>?_,λz hz=>?_⟩
 ·obtain⟨q,hq,rfl⟩:=D_.mp hz
  obtain⟨y,hy,e⟩:=h.m q hq
  exact⟨_,D_.mpr ⟨y,hy,rfl⟩,e⟩
 ·obtain⟨q,hq,rfl⟩:=D_.mp hy
  obtain⟨z,hz,e⟩:=h.c q hq
  exact⟨_,D_.mpr ⟨z,hz,rfl⟩,e⟩
 ·obtain⟨q,hq,rfl⟩:=D_.mp hz
  exact h.b q hq
abbrev VU:List Str:=["tops","stand","w","least","firsts","found","rests","cost","bits"]
theorem Ve:FnScope VU ["tops","stand","w","least"] (Af EZ):=⟨rfl,rfl,rfl,by decide +kernel,rfl,by decide +kernel,by decide +kernel⟩
theorem QG:(["target","tops","w"]:List Str).Nodup:=by decide +kernel
theorem FG:(["rest_cost","rest_bits","cost"]:List Str).Nodup:=by decide +kernel
def QH:ASp:=λb μ R=>∃(d:jH) (G:Tops) (s:Nat) (w:List Nat),b=[.R d,.D (.int (s:Nat)),.D (Ax w),.D (.bool true)]/\TopK μ d G/\Nh G/\s < 5/\w.length<=2/\∀(a:List Pr) (l:jH) μ',Cv (Kz G s w) a->μ l=none->μ' l=some (.lst (a.map A4))->Sub μ μ'->R (.R l) μ'
theorem QI{n:Nat}(F:Fun K "readings_by" "readings_by" EZ f fd) (cAb:VCal P w K mg base n "as_bits" ["stands"] JT) (cAs:VCal P w K mg base n "as_stands" ["bits"] JU) (nu:VCal P w K mg base n "thinned" ["pairs","least"] DE) (y8:VCal P w K mg base n "one_of_each" ["groups","least"] KB) (ai:mg "len" = none):FnOk P w K mg base Ea (n+1) f fd ["tops","stand","w","least"] (Fg K 4 QH):=by
 refine F.vok Ve λau A outer s H E B=>⟨_,(Ae (Db (Bk (Hh B) (Ba Da rfl ai ZV (Aa (vv 2) Ad)) Ah (nomark _)) (Aj (Be (Bv (Aa (Bl (Aa Ah (Aa (Ak cAb B rfl (Aa (Bl (Aa (vv 1) Ad)) Ad)) Ad))) Ad)))) B1)
   (Ae (Av (i:=4) Ve.nd rfl (Or.inl rfl) (Gz (Cu B) (vv 0) (Bl (Aa (vv 1) (Aa (Ap A7 (vv 2) Ah) Ad))) (Bv Ad)))
   (Ae (Db (Bk (Hh B) (Ba Da rfl ai ZV (Aa (vv 2) Ad)) Ah (nomark _)) (Aj (Be (Ak nu B rfl (Aa (vv 4) (Aa (vv 3) Ad))))) B1)
   (Ae (Av (i:=5) Ve.nd rfl (Or.inl rfl) (Bv Ad))
   (Ae (Av (i:=6) Ve.nd rfl (Or.inl rfl) Jp)
   (Ae (B6 ZD rfl (Bf (vv 4)) (Dl (n:=2) rfl (Aq (Ai (i:=7) Ve.nd rfl (Or.inr rfl)) (Aq (Ai (i:=8) Ve.nd rfl (Or.inl rfl)) B0))) (Ae (Db (Uj (Cu B) (vv 8) (vv 6)) (Aj (Ed (Cu B) (vv 6) (vv 8) (Ak y8 B rfl (Aa (Bt (N':=["target","tops","w"]) (mp:=[none,some 0,some 2]) rfl (Bf (Ak cAs B rfl (Aa (vv 8) Ad))) (λ_ _ _ _=>(Ai (i:=0) QG rfl (Or.inl rfl) (Or.inr rfl))) (λ_ _ _ _=>Bp) (λ_ _ _ _=>(Gz (Cu B) (vv 1) (Bl (Aa (vv 0) (Aa (Ap A7 (vv 2) Ah) Ad))) (Bv Ad))) (Aw (N:=VU) (pn:=(Af EZ).names) (by decide +kernel))) (Aa (vv 3) Ad))))) B1)
   (Aj (B2 (Eb bI bJ Ep (vv 5) (Aa (Bt (N':=["rest_cost","rest_bits","cost"]) (mp:=[none,none,some 7]) rfl (Bf (Mw (Cu B) (vv 6) (vv 8))) (λ_ _ _ _=>(Dl (n:=2) rfl (Aq (Ai (i:=0) FG rfl (Or.inl rfl) (Or.inr rfl)) (Aq (Ai (i:=1) FG rfl (Or.inl rfl) (Or.inr rfl)) B0)))) (λ_ _ _ _=>Bp) (λ_ _ _ _=>(Bl (Aa (Bd Cc (vv 2) (vv 0)) (Aa (vv 1) Ad)))) (Aw (N:=VU) (pn:=(Af EZ).names) (by decide +kernel))) Ad))))))
   (Aj (Be (Ak nu B rfl (Aa (vv 5) (Aa (vv 3) Ad))))))))))),?_⟩
 rintro xs μ R _ ⟨d,L,s,w,rfl,hT,hB,hs,hw,q⟩
 match w,hw,q with
 | [],_,q =>
  refine C2 ⟨Bs _,Bs _,Lf rfl ⟨_,[s],rfl,rfl,λt h=>by rw [P_.mp h];omega,λl hl=>⟨_,Sub.refl,q [(0,bts [s])] l _ ⟨λz hz=>⟨z,hz,rfl⟩,λy hy=>⟨y,hy,Wn.refl y⟩,by simp,λz hz=>by rw [P_.mp hz];exact Q9 (ts:=[s]) (λt h=>by rw [P_.mp h];exact hs) (by decide)⟩ hl Ab (Sub.refl.new hl)⟩⟩⟩
 | [x],_,q =>
  refine C2 ⟨Bs _,Bs _,Lg rfl ?_⟩
  refine C2 (G9 hT Sub.refl s x (λQ h=>h) (λQ h=>Ac (x:=PyData.int (x:Nat)) rfl h) λl μ1 hl S hlo=>?_)
  refine C2 ⟨Bs _,Bs _,Lf rfl ?_⟩
  obtain⟨hg,hgb⟩:=hB (s,x)
  exact⟨l,L (s,x),rfl,hl,by omega,hgb,λJ p μ2 C hp e2 S2=>⟨_,Sub.refl,q J p μ2 ⟨λz hz=>⟨z,C.m z hz,rfl⟩,C.c,C.u,λz hz=>hgb z (C.m z hz)⟩ (S.none hp) e2 λb m hb=>S2 b m (S b m hb)⟩⟩
 | [x,y],_,q =>
  refine C2 ⟨Bs _,Bs _,Lg rfl ?_⟩
  refine C2 (G9 hT Sub.refl s x (λQ h=>h) (λQ h=>Ac (x:=PyData.int (x:Nat)) rfl h) λl μ1 hl S hlo=>?_)
  refine C2 ⟨Bs _,Bs _,Lg rfl ?_⟩
  intro f hf r B
  have S1:Sub μ (An μ1 f (.lst [])):=S.new (S.none hf)
  have ef:An μ1 f (.lst []) f=some (.lst []):=Ab
  have ip:An μ1 f (.lst []) l=some (.lst ((L (s,x)).map A4)):=Sub.refl.new hf _ _ hl
  have fr:f≠r:=by rintro rfl;rw [ef]at B;cases B
  have f0:μ f=none:=S.none hf
  have r0:μ r=none:=S1.none B
  have S2:Sub μ (An (An μ1 f (.lst [])) r (.dk [])):=S1.new r0
  have ef2:An (An μ1 f (.lst [])) r (.dk []) f=some (.lst []):=by rw [Ag fr];exact ef
  have er2:An (An μ1 f (.lst [])) r (.dk []) r=some (.dk []):=Ab
  have fh:An (An μ1 f (.lst [])) r (.dk []) l=some (.lst ((L (s,x)).map A4)):=Sub.refl.new B _ _ ip
  have lf:l≠f:=by rintro rfl;rw [hf]at hl;cases hl
  have lr:l≠r:=by rintro rfl;rw [B]at ip;cases ip
  generalize An (An μ1 f (.lst [])) r (.dk [])=μ2 at S2 ef2 er2 fh
  clear ip ef S1
  obtain⟨hG,hGl⟩:=hB (s,x)
  show Wv _ _ _ _ _ _ [some (.R d),some (.D (.int (s:Nat))),some (.D (Ax [x,y])),some (.D (.bool true)),some (.R l),some (.R f),some (.R r),none,none] μ2
  have eq:Kz L s [x,y]=(L (s,x)).flatMap λp=>(SV L y p.2).map λq=>(p.1+q.1,q.2):=rfl
  rw [eq]at q
  generalize L (s,x)=G at hG hGl q fh
  refine A0 (fun τ μ'=>∃o7 o8,∃J:List Pr,τ=[some (.R d),some (.D (.int (s:Nat))),some (.D (Ax [x,y])),some (.D (.bool true)),some (.R l),some (.R f),some (.R r),o7,o8]/\μ' f=some (.lst (J.map A4))/\Cw (G.flatMap λp=>(SV L y p.2).map λq=>(p.1+q.1,q.2)) J/\J.length<=1024/\Sub μ μ') (λZ hZ=>?_) ?_
  ·refine Ac (Al fh) ?_
   refine Co (λi τ μ'=>∃o7 o8,∃(J:List Pr) (kvs:List (Key×AV)),τ=[some (.R d),some (.D (.int (s:Nat))),some (.D (Ax [x,y])),some (.D (.bool true)),some (.R l),some (.R f),some (.R r),o7,o8]/\μ' f=some (.lst (J.map A4))/\μ' r=some (.dk kvs)/\μ' l=some (.lst (G.map A4))/\Cw ((G.take i).flatMap λp=>(SV L y p.2).map λq=>(p.1+q.1,q.2)) J/\J.length<=32 * i/\kvs.length<=i/\QF L y f r kvs μ'/\Sub μ μ') ⟨none,none,[],[],rfl,ef2,er2,fh,⟨(λ_ h=>nomatch h),(λ_ h=>nomatch h),(λ_ h=>nomatch h)⟩,I_ _,I_ _,(λ_ _ h=>nomatch h),S2⟩ (λ_ _ _ ⟨_,_,_,_,_,_,_,e,_⟩=>Al e) ?_ ?_
   ·rintro i v τ μ3 Z2 hv ⟨o7,o8,J,kvs,rfl,V,Y,e3l,hm,kg,cp,hR,S3⟩ hZ2
    rw [H_]at hv
    obtain⟨⟨c,b⟩,hp,rfl⟩:=F_.mp hv
    have hb:b < 32:=hGl _ (U_ hp)
    have hi:=(E_.mp hp).1
    refine⟨rfl,Nb ?_⟩
    dsimp only [List.set]
    refine A0 (fun τ μ'=>∃(kvs:List (Key×AV)) (v:AV),τ=[some (.R d),some (.D (.int (s:Nat))),some (.D (Ax [x,y])),some (.D (.bool true)),some (.R l),some (.R f),some (.R r),some (.D (.int (c:Nat))),some (.D (.int (b:Nat)))]/\μ' f=some (.lst (J.map A4))/\μ' r=some (.dk kvs)/\μ' l=some (.lst (G.map A4))/\Cg kvs (.inl (b:Nat))=some v/\kvs.length<=i+1/\QF L y f r kvs μ'/\Sub μ μ') (λZ3 bg=>?_) ?_
    ·refine Ac Y (Ac (x:=Cg kvs (.inl (b:Nat))) rfl ?_)
     cases hv:Cg kvs (.inl (b:Nat)) with
     | some v=>exact Lg rfl (bg _ _ ⟨kvs,v,rfl,V,Y,e3l,hv,ZP cp,hR,S3⟩)
     | none =>
      refine Lf rfl ⟨b,rfl,hb,fun μ4 S4=>Ac (Bq _) λU I=>?_⟩
      have hTB:TopK μ4 d L:=hT.sub λb m hb=>S4 b m (S3 b m hb)
      have h5:(Cf b).length<=5:=Q_ (ZM _ _) (by rw [aC];exact I_ _)
      refine Dv (λi T τ' μ'=>∃o,∃ps:List jH,τ'=[o,some (.R d),some (.D (Ax [x,y]))]/\T=ps.map .R/\ps.length=i/\(∀(j:Nat) p t,ps[j]?=some p->(Cf b)[j]?=some t->p≠U/\μ' p=some (.lst ((L (t,y)).map A4)))/\μ' U=some (.lst T)/\Sub μ4 μ') ⟨none,[],rfl,rfl,rfl,(λ_ _ _ h=>nomatch h),Ab,Sub.refl.new I⟩ (λ_ _ _ _ _=>Bq _) ?_ ?_
      ·rintro j0 v T τ' μ5 W hv' ⟨o,ps,rfl,rfl,ag,i6,e5,M⟩ hW
       rw [H_]at hv'
       obtain⟨t,bf,rfl⟩:=F_.mp hv'
       have hj5:=(E_.mp bf).1
       refine Lf rfl (G9 hTB M t y (λQ h=>h) (λQ h=>Ac (x:=PyData.int (y:Nat)) rfl h) λl5 μ6 qp S6 ho=>⟨S6 _ _ e5,A5 (by rw [B_];omega),hW _ _ _ ⟨_,ps++[l5],rfl,by rw [N_];rfl,by rw [L_,ag];rfl,?_,Ab,λb m hb=>?_⟩⟩)
       ·have ax:l5≠U:=by
         rintro rfl
         rcases ho with h | h
         ·exact h I
         ·rw [e5]at h;cases h
        intro j p t' h1 h2
        rcases aB j ps.length with h | h
        ·rw [aT h]at h1
         obtain⟨n,e⟩:=i6 j p t' h1 h2
         exact⟨n,by rw [Ag n];exact S6 _ _ e⟩
        ·rw [aD h]at h1
         have h3:=(E_.mp h1).1
         rw [eO]at h3
         have h4:j=j0:=by omega
         rw [show j - ps.length=0 by omega]at h1
         have h6:l5=p:=ZL h1
         rw [h4,bf]at h2
         have h7:t=t':=ZL h2
         rw [<- h6,<- h7]
         exact⟨ax,by rw [Ag ax];exact qp⟩
       ·rw [Ag (by rintro rfl;rw [I]at hb;cases hb)]
        exact S6 _ _ (M _ _ hb)
      ·rintro T τ' μ5 ⟨o,ps,rfl,rfl,ag,i6,e5,M⟩
       rw [B_]at ag
       refine⟨.R U,ps,(Cf b).map λt=>L (t,y),rfl,Al e5,⟨by rw [B_];exact ag,λj p g h1 h2=>?_⟩,λG' yo=>?_,λus l6 μ6 C6 hl6 e6 S6=>?_⟩
       ·rw [H_]at h2
        obtain⟨t,h3,rfl⟩:=F_.mp h2
        exact(i6 j p t h1 h3).2
       ·obtain⟨t,_,rfl⟩:=D_.mp yo
        exact hB (t,y)
       ·have X:Sub μ3 μ6:=λb m hb=>S6 _ _ (M _ _ (S4 _ _ hb))
        have lf6:l6≠f:=by rintro rfl;rw [M _ _ (S4 _ _ V)]at hl6;cases hl6
        have lr6:l6≠r:=by rintro rfl;rw [M _ _ (S4 _ _ Y)]at hl6;cases hl6
        have fj:=Yy kvs (.inl (b:Nat)) (.R l6)
        refine Ac (X _ _ Y) (Ac (x:=MO.dk (E5 kvs (.inl (b:Nat)) (.R l6))) rfl ⟨A5 (show kvs.length<=_ by omega),bg _ _ ⟨E5 kvs (.inl (b:Nat)) (.R l6),.R l6,rfl,by rw [Ag fr];exact X _ _ V,Ab,by rw [Ag lr];exact X _ _ e3l,by rw [Oz,S_ rfl],by omega,λk v hk=>?_,λb m hb=>?_⟩⟩)
        ·rw [Oz]at hk
         by_cases e:(Sum.inl (k:Int):Key)=.inl (b:Int)
         ·rw [S_ e]at hk
          have e:k=b:=eM (fI e)
          subst e
          exact⟨l6,us,(ZL hk).symm,lf6,lr6,by rw [Ag lr6];exact e6,C6⟩
         ·rw [M_ e]at hk
          obtain⟨a,ys,rfl,af,ar,ea,O⟩:=hR _ _ hk
          exact⟨a,ys,rfl,af,ar,by rw [Ag ar];exact X _ _ ea,O⟩
        ·rw [Ag (by rintro rfl;rw [r0]at hb;cases hb)]
         exact X _ _ (S3 _ _ hb)
    clear cp hR
    rintro τ μ4 ⟨kvs,v,rfl,e4f,e4r,e4l,hv,cp,hR,S4⟩
    obtain⟨a,ys,rfl,af,ar,ea,O⟩:=hR _ _ hv
    have hyl:=O.len
    refine⟨Ac e4f trivial,Ac e4r (Ac (x:=some (AV.R a)) (by show some (Cg kvs (.inl (b:Nat)))=_;rw [hv]) (Ac (x:=AV.R a) rfl (Ac (Al ea) λU I=>?_)))⟩
    have pa:a≠U:=by rintro rfl;rw [I]at ea;cases ea
    have pf:f≠U:=by rintro rfl;rw [I]at e4f;cases e4f
    have p0:μ U=none:=S4.none I
    refine cmap ys A4 (λq=>A4 (c+q.1,q.2)) (fun τ=>∃o1 o2,τ=[o1,o2,some (.D (.int (c:Nat)))]) ⟨none,none,rfl⟩ Ab (seven (by omega)) (λT=>Al (by rw [Bh,Ag pa];exact ea)) ?_ ?_
    ·rintro j ⟨c2,b2⟩ τ' T W hq ⟨o1,o2,rfl⟩ hW
     refine⟨rfl,Nb ?_⟩
     exact hW _ ⟨_,_,rfl⟩
    ·rw [Bh]
     have M:Sub μ4 (An μ4 U (.lst (ys.map λq=>A4 (c+q.1,q.2)))):=Sub.refl.new I
     have e5:An μ4 U (.lst (ys.map λq=>A4 (c+q.1,q.2))) U=some (.lst (ys.map λq=>A4 (c+q.1,q.2))):=Ab
     generalize An μ4 U (.lst (ys.map λq=>A4 (c+q.1,q.2)))=μ5 at M e5
     have ba:G.take (i+1)=G.take i++[(c,b)]:=by rw [Y_,hp];rfl
     refine Ac (M _ _ e4f) (Ac e5 ⟨aU (JV (by rw [B_,B_];omega)),hZ2 _ _ ⟨_,_,J++ys.map (λq=>(c+q.1,q.2)),kvs,rfl,?_,by rw [Ag fr.symm];exact M _ _ e4r,by rw [Ag lf];exact M _ _ e4l,?_,by rw [L_,B_];omega,cp,λk v hk=>?_,λb m hb=>?_⟩⟩)
     ·rw [Ab,N_,YT];rfl
     ·rw [ba,fA,List.flatMap_singleton]
      exact hm.app (O.up c)
     ·obtain⟨a,ys,rfl,af,ar,ea,O⟩:=hR _ _ hk
      exact⟨a,ys,rfl,af,ar,by rw [Ag af];exact M _ _ ea,O⟩
     ·rw [Ag (by rintro rfl;rw [f0]at hb;cases hb)]
      exact M _ _ (S4 _ _ hb)
   ·rintro τ μ3 ⟨o7,o8,J,kvs,rfl,V,Y,e3l,hm,kg,cp,hR,S3⟩
    rw [B_]at hm kg
    rw [YY]at hm
    exact hZ _ _ ⟨_,_,J,rfl,V,hm,by omega,S3⟩
  rintro τ μ3 ⟨o7,o8,J,rfl,e3,hm,kg,S3⟩
  exact⟨f,J,rfl,e3,by omega,hm.b,λus p μ4 C4 hp e4 S4=>⟨_,Sub.refl,q us p μ4 (hm.thin C4) (S3.none hp) e4 λb m hb=>S4 b m (S3 b m hb)⟩⟩
theorem Y9:∀{Gs c:List (List Pr)} {F F':List Pr},Paired (λg P=>Cv P g) Gs c->(∀z∈F,∃y∈F',y.2=z.2)->∀z∈Gs.foldl (λF G=>F.flatMap λp=>G.map (ewe p)) F,∃y∈c.foldl (λF G=>F.flatMap λp=>G.map (ewe p)) F',y.2=z.2
 | _,_,_,_,.nil,h=>h
 | _,_,_,_,.cons r t,h=>by
  rw [cW,cW]
  refine Y9 t λz hz=>?_
  obtain⟨p,hp,hz⟩:=aR.mp hz
  obtain⟨o,i,rfl⟩:=D_.mp hz
  obtain⟨a,e,d⟩:=h p hp
  obtain⟨o',b,j⟩:=r.m o i
  exact⟨ewe a o',aR.mpr ⟨a,e,D_.mpr ⟨o',b,rfl⟩⟩,by show a.2 ||| o'.2=p.2 ||| o.2;rw [d,j]⟩
theorem Za:∀{Gs b:List (List Pr)} {F F':List Pr},Paired (λi P=>Cv P i) Gs b->(∀y∈F',∃z∈F,Wn z y)->∀y∈b.foldl (λF G=>F.flatMap λp=>G.map (ewe p)) F',∃z∈Gs.foldl (λF G=>F.flatMap λp=>G.map (ewe p)) F,Wn z y
 | _,_,_,_,.nil,h=>h
 | _,_,_,_,.cons r t,h=>by
  rw [cW,cW]
  refine Za t λy hy=>?_
  obtain⟨p,hp,hy⟩:=aR.mp hy
  obtain⟨o,j,rfl⟩:=D_.mp hy
  obtain⟨d,g,e⟩:=h p hp
  obtain⟨o',a,k⟩:=r.c o j
  exact⟨ewe d o',aR.mpr ⟨d,g,D_.mpr ⟨o',a,rfl⟩⟩,Y3 e k⟩
theorem KG{Gs g:List (List Pr)}(h:Paired (λa P=>Cv P a) Gs g){a:List Pr}(C:Cv (cho Gs) a):Cv (cho g) a:=by
 refine⟨λz hz=>?_,λy hy=>?_,C.u,C.b⟩
 ·obtain⟨y,hy,e⟩:=C.m z hz
  obtain⟨u,hu,d⟩:=Y9 h (F:=[(0,0)]) (F':=[(0,0)]) (λz hz=>⟨z,hz,rfl⟩) y hy
  exact⟨u,hu,d.trans e⟩
 ·obtain⟨u,hu,e⟩:=Za h (F:=[(0,0)]) (F':=[(0,0)]) (λz hz=>⟨z,hz,Wn.refl z⟩) y hy
  obtain⟨z,hz,d⟩:=C.c u hu
  exact⟨z,hz,d.trans e⟩
theorem Sr:∀{Gs a:List (List Pr)},Paired (λd P=>Cv P d) Gs a->Cw a.flatten Gs.flatten
 | _,_,.nil=>⟨(λ_ h=>nomatch h),(λ_ h=>nomatch h),(λ_ h=>nomatch h)⟩
 | _,_,.cons r t=>by
  rw [iI,iI]
  exact Cw.app ⟨r.m,r.c,r.b⟩ (Sr t)
theorem DK{Gs g:List (List Pr)}(h:Paired (λa P=>Cv P a) Gs g){a:List Pr}(C:Cv Gs.flatten a):Cv g.flatten a:=by
 have k:=Sr h
 refine⟨λz hz=>?_,λy hy=>?_,C.u,C.b⟩
 ·obtain⟨y,hy,e⟩:=C.m z hz
  obtain⟨u,hu,d⟩:=k.m y hy
  exact⟨u,hu,d.trans e⟩
 ·obtain⟨u,hu,e⟩:=k.c y hy
  obtain⟨z,hz,d⟩:=C.c u hu
  exact⟨z,hz,d.trans e⟩
theorem Cv.cost{P a:List Pr}(h:Cv P a)(f:Pr->Nat):Cv P (a.map λz=>(f z,z.2)):=by
 refine⟨λz hz=>?_,λy hy=>?_,by rw [YT];exact h.u,λz hz=>?_⟩
 ·obtain⟨u,hu,rfl⟩:=D_.mp hz
  exact h.m u hu
 ·obtain⟨z,hz,e⟩:=h.c y hy
  exact⟨_,D_.mpr ⟨z,hz,rfl⟩,e⟩
 ·obtain⟨u,hu,rfl⟩:=D_.mp hz
  exact h.b u hu
structure GqOk(g:Gq):Prop where
 p:g.pl.length<=5
 r:g.rs.length<=8
 ok:∀r∈g.rs,r.p < g.pl.length/\r.q < 5/\r.w.length<=2
structure FlwK(μ0 μ:M)(d:jH)(g:Gq)(G Pf:Tops)(kvs:List ((Nat×Nat)×jH)):Prop where
 dd:μ d=some (.dt (kvs.map kvT))
 ll:∀e∈kvs,μ e.2=some (.lst ((Pf e.1).map A4))/\e.2≠d
 n:kvs.length<=9
 kk:∀k,(∃e∈kvs,e.1=k)↔rgp g.rs k≠[]
 uu:(kvs.map (·.1)).Nodup
 pf:∀e∈kvs,Cv (Ft g G e.1) (Pf e.1)
 nd:μ0 d=none
 ss:Sub μ0 μ
abbrev VV:List Str:=["game","tops","least","found","top","rules","groups","chosen"]
theorem Vf:FnScope VV ["game","tops","least"] (Af FA):=⟨rfl,rfl,rfl,by decide +kernel,rfl,by decide +kernel,by decide +kernel⟩
theorem QJ:(["rule","tops","least"]:List Str).Nodup:=by decide +kernel
theorem FH:(["cost","bits"]:List Str).Nodup:=by decide +kernel
def KH:ASp:=λc μ R=>∃(g:Gq) (d:jH) (G:Tops),c=[.D (D5 g),.R d,.D (.bool true)]/\GqOk g/\TopK μ d G/\Nh G/\∀b e a μ',FlwK μ μ' b g G e a->R (.R b) μ'
theorem QK{n:Nat}(F:Fun K "following" "following" FA f fd) (cRt:VCal P w K mg base n "rules_by_top" ["game"] QD) (cRb:VCal P w K mg base n "readings_by" ["tops","stand","w","least"] QH) (y8:VCal P w K mg base n "one_of_each" ["groups","least"] KB) (cOa:VCal P w K mg base n "one_of_any" ["groups","least"] PZ) {t1:Tok} (x6:mg "OTHER_HAND" = some (.int 1 t1)):FnOk P w K mg base Ea (n+1) f fd ["game","tops","least"] (Fg K 3 KH):=by
 refine F.vok Vf λau A outer s H E hr=>⟨_,(Ae (Av (i:=3) Vf.nd rfl (Or.inl rfl) Er)
   (Ae (G6 ZD rfl (Ak cRt hr rfl (Aa (vv 0) Ad)) (Aq (Ai (i:=4) Vf.nd rfl (Or.inl rfl)) (Aq (Ai (i:=5) Vf.nd rfl (Or.inl rfl)) B0)) (Ae (C7 (i:=6) (N':=["rule","tops","least"]) (mp:=[none,some 1,some 2]) rfl Vf.nd rfl rfl (Bf (vv 5)) (λ_ _ _ _=>(Ai (i:=0) QJ rfl (Or.inl rfl) (Or.inr rfl))) (λ_ _ _ _=>Bp) (λ_ _ _ _=>(Ak cRb hr rfl (Aa (vv 1) (Aa (Ap A7 (vv 0) Ah) (Aa (Ap A7 (vv 0) Ah) (Aa (vv 2) Ad)))))) (Aw (N:=VV) (pn:=(Af FA).names) (by decide +kernel)))
   (Ae (Av (i:=7) Vf.nd rfl (Or.inl rfl) (Jk (Bk (Hh hr) (Ap A7 (Ap A7 (Ap A7 (vv 0) Ah) (Ap A7 (vv 4) Ah)) Ah) (BE rfl x6 (v:=.int 1) ⟨_,rfl⟩ (λ_=>Dj)) (nomark _)) (Ak y8 hr rfl (Aa (vv 6) (Aa (vv 2) Ad))) (Ak cOa hr rfl (Aa (vv 6) (Aa (vv 2) Ad)))))
   (Aj (Ed (Cu hr) (vv 3) (vv 4) (Bt (N':=["cost","bits"]) (mp:=[none,none]) rfl (Bf (vv 7)) (λ_ _ _ _=>(Dl (n:=2) rfl (Aq (Ai (i:=0) FH rfl (Or.inl rfl) (Or.inr rfl)) (Aq (Ai (i:=1) FH rfl (Or.inl rfl) (Or.inr rfl)) B0)))) (λ_ _ _ _=>Bp) (λ_ _ _ _=>(Bl (Aa (Bd Cc (vv 0) Ah) (Aa (vv 1) Ad)))) (Aw (N:=VV) (pn:=(Af FA).names) (by decide +kernel))))))))
   (Aj (Be (vv 3))))),?_⟩
 rintro xs μ R _ ⟨g,d,G,rfl,hg,hT,hB,q⟩
 have hp3:=hg.p
 have hr8:=hg.r
 intro f hf
 refine A0 (fun τ μ'=>∃o4 o5 o6 o7 a J,τ=[some (.D (D5 g)),some (.R d),some (.D (.bool true)),some (.R f),o4,o5,o6,o7]/\FlwK μ μ' f g G J a) (λZ hZ=>?_) ?_
 ·refine⟨g,rfl,by omega,λdR S μ1 T=>Ac T.dd ?_⟩
  have Sf:Sub μ (An μ f (.dt [])):=Sub.refl.new hf
  have dR0:μ dR=none:=Sf.none T.fd
  have fR:f≠dR:=by rintro rfl;have:=T.fd;rw [Ab]at this;cases this
  have S1:Sub μ (B7 μ1 dR):=λb m hb=>by
   rw [Bc (by rintro rfl;rw [dR0]at hb;cases hb)]
   exact T.ss _ _ (Sf _ _ hb)
  have ef:B7 μ1 dR f=some (.dt (([]:List ((Nat×Nat)×jH)).map kvT)):=by rw [Bc fR];exact T.ss _ _ Ab
  have eR:∀e∈S,B7 μ1 dR e.2=some (.lst ((rgp g.rs e.1).map Gn))/\e.2≠f:=λe he=>by
   obtain⟨h1,h2⟩:=T.fe e he
   refine⟨by rw [Bc h2];exact T.ll e he,λz=>?_⟩
   rw [z,Ab]at h1;cases h1
  have cp:S.length<=8:=by
   have:=Df (xs:=S.map (·.1)) (ys:=g.rs.map λr=>(r.p,r.x)) T.uu λk hk=>by
    obtain⟨e,he,rfl⟩:=D_.mp hk
    have h1:=(T.kk e.1).mp ⟨e,he,rfl⟩
    obtain⟨r,h2⟩:=dL _ h1
    obtain⟨h3,Y⟩:=ZC.mp h2
    refine D_.mpr ⟨r,h3,?_⟩
    unfold Fr at Y
    rw [ZJ,ZN,ZN]at Y
    exact iY Y.1 Y.2
   rw [B_,B_]at this;exact Q_ this hr8
  refine Kf (λi τ μ'=>∃o4 o5 o6 o7 a J,τ=[some (.D (D5 g)),some (.R d),some (.D (.bool true)),some (.R f),o4,o5,o6,o7]/\μ' f=some (.dt (a.map kvT))/\(∀e∈a,μ' e.2=some (.lst ((J e.1).map A4))/\e.2≠f)/\a.map (·.1)=(S.take i).map (·.1)/\(∀e∈a,Cv (Ft g G e.1) (J e.1))/\(∀e∈S,μ' e.2=some (.lst ((rgp g.rs e.1).map Gn)))/\Sub μ μ') ⟨none,none,none,none,[],λ_=>[],rfl,ef,(λ_ h=>nomatch h),rfl,(λ_ h=>nomatch h),λe he=>(eR e he).1,S1⟩ ?_ ?_
  ·rintro i v τ μ2 W hv ⟨o4,o5,o6,o7,a,J,rfl,e2,hll,O,fq,hRs,S2⟩ hW
   rw [H_]at hv
   obtain⟨e,he,rfl⟩:=F_.mp hv
   have fy:=U_ he
   have vx:=hRs e fy
   dsimp only [Ec,Dh,N3,List.set,kvT]
   refine A0 (fun τ μ'=>∃B ps Gs,τ=[some (.D (D5 g)),some (.R d),some (.D (.bool true)),some (.R f),some (.D (.tuple [.int (e.1.1:Nat),.int (e.1.2:Nat)])),some (.R e.2),some (.R B),o7]/\μ' B=some (.lst (ps.map .R))/\GrAt μ' ps Gs/\Paired (λt P=>Cv P t) Gs ((rgp g.rs e.1).map λr=>Kz G r.q r.w)/\(∀K∈Gs,K.length<=32/\∀p∈K,p.2 < 32)/\Sub μ2 μ') (λZ3 bg=>?_) ?_
   ·have qb:(rgp g.rs e.1).length<=8:=Q_ (ZM _ _) hr8
    refine Ac (Al vx) λB hpl=>?_
    have qr:e.2≠B:=by intro z;rw [z,hpl]at vx;cases vx
    refine Dv (λj I τ' μ'=>∃o,∃(ps:List jH) (Gs:List (List Pr)),τ'=[o,some (.R d),some (.D (.bool true))]/\I=ps.map .R/\ps.length=j/\Gs.length=j/\(∀(k:Nat) p G,ps[k]?=some p->Gs[k]?=some G->p≠B/\μ' p=some (.lst (G.map A4)))/\Paired (λt P=>Cv P t) Gs (((rgp g.rs e.1).take j).map λr=>Kz G r.q r.w)/\(∀K∈Gs,K.length<=32/\∀p∈K,p.2 < 32)/\μ' B=some (.lst I)/\μ' e.2=some (.lst ((rgp g.rs e.1).map Gn))/\Sub μ2 μ') ⟨none,[],[],rfl,rfl,rfl,rfl,(λ_ _ _ h=>by simp at h),.nil,(λ_ h=>nomatch h),Ab,by rw [Ag qr];exact vx,Sub.refl.new hpl⟩ (λ_ _ _ _ ⟨_,_,_,_,_,_,_,_,_,_,_,V,_⟩=>Al V) ?_ ?_
    ·rintro j v I τ' μ3 W2 hv2 ⟨o,ps,Gs,rfl,rfl,ip,fh,i6,U,y,V,f3,S3⟩ hW2
     rw [H_]at hv2
     obtain⟨r,mn,rfl⟩:=F_.mp hv2
     have hj:=(E_.mp mn).1
     obtain⟨h1,_⟩:=ZC.mp (U_ mn)
     obtain⟨_,hq5,hw2⟩:=hg.ok r h1
     refine Lf rfl (Ac (Ao (j:=2) rfl) (Ac (Ao (j:=3) rfl) ⟨d,G,r.q,r.w,rfl,hT.sub (S2.trans S3),hB,hq5,hw2,λt l μ4 C hl M L=>?_⟩))
     have p7:l≠B:=by rintro rfl;rw [V]at hl;cases hl
     refine⟨L _ _ V,A5 (by rw [B_];omega),hW2 _ _ _ ⟨_,ps++[l],Gs++[t],rfl,by rw [N_];rfl,by rw [L_,ip];rfl,by rw [L_,fh];rfl,λk p G k1 k2=>?_,?_,λG hG=>?_,Ab,by rw [Ag qr];exact L _ _ f3,(S3.trans L).new hpl⟩⟩
     ·rcases aB k ps.length with h | h
      ·rw [aT h]at k1
       rw [aT (by omega)]at k2
       obtain⟨n1,n2⟩:=i6 k p G k1 k2
       exact⟨n1,by rw [Ag n1];exact L _ _ n2⟩
      ·rw [aD h]at k1
       rw [aD (by omega)]at k2
       have h3:=(E_.mp k1).1
       rw [eO]at h3
       rw [show k - ps.length=0 by omega]at k1
       rw [show k - Gs.length=0 by omega]at k2
       cases k1
       cases k2
       exact⟨p7,by rw [Ag p7];exact M⟩
     ·rw [Y_,mn,N_]
      exact iZ U C
     ·rcases G_.mp hG with h | h
      ·exact y G h
      ·rw [P_.mp h];exact⟨C.len,C.b⟩
    ·rintro I τ' μ3 ⟨o,ps,Gs,rfl,rfl,ip,fh,i6,U,y,V,f3,S3⟩
     rw [B_,YY]at U
     exact bg _ _ ⟨B,ps,Gs,rfl,V,⟨by omega,λk p G h1 h2=>(i6 k p G h1 h2).2⟩,U,y,S3⟩
   rintro τ μ3 ⟨B,ps,Gs,rfl,V,hGr,n8,y,S3⟩
   have ow:e.1.1 < g.pl.length:=by
    obtain⟨r,h2⟩:=dL _ ((T.kk e.1).mp ⟨e,fy,rfl⟩)
    obtain⟨h3,Y⟩:=ZC.mp h2
    unfold Fr at Y
    rw [ZJ,ZN,ZN]at Y
    rw [<- Y.1];exact(hg.ok r h3).1
   have oe:atI (g.pl.map Sn) ((e.1.1:Nat):Int)=some (Sn g.pl[e.1.1]):=Ao (by rw [H_,J_ ow];rfl)
   have zo:hnd g e.1=(g.pl[e.1.1]).2:=by
    unfold hnd
    rw [bC,H_,J_ ow];rfl
   have hgl:Gs.length<=20:=by
    have h1:=ZZ n8
    rw [B_]at h1
    have:=ZM (Fr e.1) g.rs
    unfold rgp at h1;omega
   generalize g.pl[e.1.1]=pp at oe zo
   refine A0 (fun τ μ'=>∃lc,∃t:List Pr,τ=[some (.D (D5 g)),some (.R d),some (.D (.bool true)),some (.R f),some (.D (.tuple [.int (e.1.1:Nat),.int (e.1.2:Nat)])),some (.R e.2),some (.R B),some (.R lc)]/\μ' lc=some (.lst (t.map A4))/\Cv (Ft g G e.1) t/\Sub μ3 μ') (λZ3 bg=>?_) ?_
   ·refine Ac (Ao (j:=0) rfl) (Ac (Ao (j:=0) rfl) (Ac oe (Ac (Ao (j:=1) rfl) (ieq (λc=>?_) (λc=>?_)))))
    ·refine⟨.R B,ps,Gs,rfl,Al V,hGr,y,λt l μ4 C hl M L=>bg _ _ ⟨l,t,rfl,M,?_,L⟩⟩
     unfold Ft
     rw [S_ (by rw [zo];omega)];exact KG n8 C
    ·refine⟨.R B,ps,Gs,rfl,Al V,hGr,hgl,y,λt l μ4 C hl M L=>bg _ _ ⟨l,t,rfl,M,?_,L⟩⟩
     unfold Ft
     rw [M_ (by rw [zo];omega)];exact DK n8 C
   rintro τ μ4 ⟨lc,t,rfl,M,C,L⟩
   have hz9:=C.len
   have bm:∀u∈a,u.1≠e.1:=λu X c=>by
    have h1:e.1∈(S.take i).map (·.1):=by rw [<- O,<- c];exact D_.mpr ⟨u,X,rfl⟩
    have h2:((S.take (i+1)).map (·.1)).Nodup:=T.uu.sublist ((dN _ _).map _)
    rw [Y_,he,N_,ZW]at h2
    exact h2.2.2 _ h1 e.1 (by simp) rfl
   refine Ac (Al M) λpn fj=>?_
   have lcn:lc≠pn:=by rintro rfl;rw [M]at fj;cases fj
   have S24:=S3.trans L
   have v3:μ2 pn=none:=S24.none fj
   have pnf:pn≠f:=by rintro rfl;rw [e2]at v3;cases v3
   refine cmap t A4 (λz=>A4 (z.1+1,z.2)) (fun τ=>∃o1 o2,τ=[o1,o2]) ⟨none,none,rfl⟩ Ab (seven (by omega)) (λ_=>Al (by rw [Ag lcn,Ag lcn];exact M)) ?_ ?_
   ·rintro j ⟨c,b⟩ τ' I W2 hj ⟨o1,o2,rfl⟩ hW2
    exact⟨rfl,Nb (hW2 _ ⟨_,_,rfl⟩)⟩
   ·have S5:Sub μ2 (An (An μ4 pn (.lst [])) pn (.lst (t.map λz=>A4 (z.1+1,z.2)))):=(S24.new v3).new v3
    have e5:An (An μ4 pn (.lst [])) pn (.lst (t.map λz=>A4 (z.1+1,z.2))) pn=some (.lst (t.map λz=>A4 (z.1+1,z.2))):=Ab
    generalize An (An μ4 pn (.lst [])) pn (.lst (t.map λz=>A4 (z.1+1,z.2)))=μ5 at S5 e5
    have ep:dput (.dt (a.map kvT)) (.tuple [.int (e.1.1:Nat),.int (e.1.2:Nat)]) (.R pn)=some (.dt ((a++[(e.1,pn)]).map kvT)):=by rw [<- Fq bm];rfl
    have zdz:a.length<=8:=by
     have:=bB List.length O
     rw [B_,B_,ZX]at this;omega
    refine Ac (S5 _ _ e2) (Ac ep ⟨A5 (show(a.map kvT).length<=1000 by rw [B_];omega),hW _ _ ⟨_,_,_,_,a++[(e.1,pn)],λk=>if k=e.1 then t.map (λz=>(z.1+1,z.2)) else J k,rfl,Ab,λu X=>?_,?_,λu X=>?_,λu X=>?_,(S2.trans S5).new hf⟩⟩)
    ·rcases G_.mp X with h | h
     ·obtain⟨h1,h2⟩:=hll u h
      dsimp only
      rw [M_ (bm u h),Ag h2]
      exact⟨S5 _ _ h1,h2⟩
     ·rw [P_.mp h]
      dsimp only
      rw [S_ rfl,Ag pnf]
      exact⟨by rw [e5,YT];rfl,pnf⟩
    ·rw [N_,O,Y_,he,N_];rfl
    ·rcases G_.mp X with h | h
     ·dsimp only
      rw [M_ (bm u h)];exact fq u h
     ·rw [P_.mp h]
      dsimp only
      rw [S_ rfl]
      exact C.cost λz=>z.1+1
    ·rw [Ag (eR u X).2];exact S5 _ _ (hRs u X)
  ·rintro τ μ2 ⟨o4,o5,o6,o7,a,J,rfl,e2,hll,O,fq,hRs,S2⟩
   rw [B_,YY]at O
   have hlk:a.length=S.length:=by have:=bB List.length O;rwa [B_,B_]at this
   refine hZ _ _ ⟨_,_,_,_,a,J,rfl,⟨e2,hll,by omega,λk=>?_,by rw [O];exact T.uu,fq,hf,S2⟩⟩
   rw [<- T.kk k]
   constructor
   ·rintro⟨e,he,rfl⟩
    have:e.1∈S.map (·.1):=by rw [<- O];exact D_.mpr ⟨e,he,rfl⟩
    obtain⟨u,h1,h2⟩:=D_.mp this
    exact⟨u,h1,h2⟩
   ·rintro⟨e,he,rfl⟩
    have:e.1∈a.map (·.1):=by rw [O];exact D_.mpr ⟨e,he,rfl⟩
    obtain⟨u,h1,h2⟩:=D_.mp this
    exact⟨u,h1,h2⟩
 rintro τ μ1 ⟨o4,o5,o6,o7,a,J,rfl,Q⟩
 exact⟨_,Sub.refl,q f J a μ1 Q⟩
structure DcK(μ:M)(d:jH)(Pf:Tops)(kvs:List ((Nat×Nat)×jH)):Prop where
 dd:μ d=some (.dt (kvs.map kvT))
 ll:∀e∈kvs,μ e.2=some (.lst ((Pf e.1).map A4))/\e.2≠d
 n:kvs.length<=20
 uu:(kvs.map (·.1)).Nodup
structure WtOk(G Pf:Tops)(kvs:List ((Nat×Nat)×jH))(Wf:Tops)(kw:List ((Nat×Nat)×jH)):Prop where
 k:∀e∈kw,∃e'∈kvs,e'.1=e.1
 w:∀e∈kw,Wf e.1≠[]/\(Wf e.1).Sublist (Pf e.1)/\∀z∈Wf e.1,∀y∈G e.1,¬Wn y z
 c:∀e'∈kvs,∀z∈Pf e'.1,(∃y∈G e'.1,Wn y z)\/∃e∈kw,e.1=e'.1/\z∈Wf e.1
theorem TopK.del{μ:M}{d f:jH}{G:Tops}(h:TopK μ d G)(g:f≠d){kvs:List (List Key×AV)}(e:μ f=some (.dt kvs)):TopK (B7 μ f) d G:=by
 obtain⟨k,h1,h2,a,b⟩:=h.at'
 refine⟨k,by rw [Bc g.symm];exact h1,λx hx=>?_,a,b⟩
 have:=h2 x hx
 rw [Bc λc=>by rw [c,e]at this;cases this];exact this
abbrev VX:List Str:=["kept","found","waiting","top","pairs","lows","left"]
theorem Vg:FnScope VX ["kept","found"] (Af FC):=⟨rfl,rfl,rfl,by decide +kernel,rfl,by decide +kernel,by decide +kernel⟩
theorem FI:(["cost","bits"]:List Str).Nodup:=by decide +kernel
theorem QL:(["pair","lows"]:List Str).Nodup:=by decide +kernel
def KI:ASp:=λg μ R=>∃(dk a:jH) (G Pf:Tops) (kvs:List ((Nat×Nat)×jH)),g=[.R dk,.R a]/\TopK μ dk G/\Nh G/\DcK μ a Pf kvs/\(∀e∈kvs,(Pf e.1).length<=32/\∀z∈Pf e.1,z.2 < 32)/\a≠dk/\∀b d c μ',DcK μ' b d c->WtOk G Pf kvs d c->μ b=none->Sub (B7 μ a) μ'->R (.R b) μ'
theorem QM{n:Nat}(F:Fun K "not_kept" "not_kept" FC f fd) (yr:VCal P w K mg base n "has_within" ["lows","bits"] JZ) (ai:mg "len" = none):FnOk P w K mg base Ea (n+1) f fd ["kept","found"] (Fg K 2 KI):=by
 refine F.vok Vg λau A outer s H E hr=>⟨_,(Ae (Av (i:=2) Vg.nd rfl (Or.inl rfl) Er)
   (Ae (G6 ZD rfl (vv 1) (Aq (Ai (i:=3) Vg.nd rfl (Or.inl rfl)) (Aq (Ai (i:=4) Vg.nd rfl (Or.inl rfl)) B0)) (Ae (Av (i:=5) Vg.nd rfl (Or.inr rfl) (Bt (N':=["cost","bits"]) (mp:=[none,none]) rfl (Bf (Gz (Cu hr) (vv 0) (vv 3) (Bv Ad))) (λ_ _ _ _=>(Dl (n:=2) rfl (Aq (Ai (i:=0) FI rfl (Or.inl rfl) (Or.inr rfl)) (Aq (Ai (i:=1) FI rfl (Or.inl rfl) (Or.inr rfl)) B0)))) (λ_ _ _ _=>Bp) (λ_ _ _ _=>(vv 1)) (Aw (N:=VX) (pn:=(Af FC).names) (by decide +kernel))))
   (Ae (C7 (i:=6) (N':=["pair","lows"]) (mp:=[none,some 5]) rfl Vg.nd rfl rfl (Bf (vv 4)) (λ_ _ _ _=>(Ai (i:=0) QL rfl (Or.inl rfl) (Or.inr rfl))) (λ_ _ _ _=>(C1 (Hg (C0 (Ak yr hr rfl (Aa (vv 1) (Aa (Ap A7 (vv 0) Ah) Ad))))))) (λ_ _ _ _=>(vv 0)) (Aw (N:=VX) (pn:=(Af FC).names) (by decide +kernel)))
   (Aj (Db (Bk Wr (Ba Da rfl ai ZV (Aa (vv 6) Ad)) Ah (nomark _)) (Aj (Ed (Cu hr) (vv 2) (vv 3) (vv 6))) B1)))))
   (Aj (Be (vv 2))))),?_⟩
 rintro xs μ R _ ⟨dk,J,G,C,r,rfl,hT,hB,D,hPB,ml,q⟩
 intro I j5
 have wf:I≠J:=by rintro rfl;rw [D.dd]at j5;cases j5
 have S0:Sub (B7 μ J) (B7 (An μ I (.dt [])) J):=λb m hb=>by
  have iq:b≠J:=λz=>by rw [z]at hb;unfold B7 at hb;rw [S_ rfl]at hb;cases hb
  rw [Bc iq]at hb ⊢
  rw [Ag (by rintro rfl;rw [j5]at hb;cases hb)];exact hb
 have hTd:=hT.del ml D.dd
 have zd0:=D.n
 refine A0 (fun τ μ'=>∃o3 o4 U S u o,τ=[some (.R dk),some (.R J),some (.R I),o3,o4,U,S]/\DcK μ' I u o/\WtOk G C r u o/\Sub (B7 μ J) μ') (λZ hZ=>?_) ?_
 ·refine Ac (x:=MO.dt (r.map kvT)) (by rw [Ag wf.symm];exact D.dd) ?_
  refine Kf (λi τ μ'=>∃o3 o4 U S u o,τ=[some (.R dk),some (.R J),some (.R I),o3,o4,U,S]/\o.length<=i/\DcK μ' I u o/\WtOk G C (r.take i) u o/\Sub (B7 μ J) μ') ⟨none,none,none,none,λ_=>[],[],rfl,I_ _,⟨by rw [Bc wf];exact Ab,(λ_ h=>nomatch h),YZ _,aA⟩,⟨(λ_ h=>nomatch h),(λ_ h=>nomatch h),(λ_ h=>nomatch h)⟩,S0⟩ ?_ ?_
  ·rintro i v τ μ1 W hv ⟨o3,o4,U,S,u,o,rfl,cp,t,B,O⟩ hW
   rw [H_]at hv
   obtain⟨e,he,rfl⟩:=F_.mp hv
   have fy:=U_ he
   have hi:=(E_.mp he).1
   obtain⟨he1,hed⟩:=D.ll e fy
   have eP:μ1 e.2=some (.lst ((C e.1).map A4)):=O _ _ (by rw [Bc hed];exact he1)
   obtain⟨hg32,hgb⟩:=hB e.1
   obtain⟨hp32,xn⟩:=hPB e fy
   have ba:r.take (i+1)=r.take i++[e]:=by rw [Y_,he];rfl
   have bm:∀d∈o,d.1≠e.1:=λd g c=>by
    obtain⟨e2,h1,h2⟩:=B.k d g
    have M:((r.take (i+1)).map (·.1)).Nodup:=D.uu.sublist ((dN _ _).map _)
    rw [ba,N_,ZW]at M
    exact M.2.2 e2.1 (D_.mpr ⟨e2,h1,rfl⟩) e.1 (by simp) (h2.trans c)
   dsimp only [Ec,Dh,N3,List.set,kvT]
   refine A0 (fun τ μ'=>∃L,τ=[some (.R dk),some (.R J),some (.R I),some (.D (.tuple [.int (e.1.1:Nat),.int (e.1.2:Nat)])),some (.R e.2),some (.R L),S]/\μ' L=some (.lst (((G e.1).map (·.2)).map Ck))/\Sub μ1 μ') (λZ3 bg=>?_) ?_
   ·dsimp only [Uh,N4,IB]
    refine G9 (td:=Ji 0) (ty:=Ji 3) (τ:=[some (.R dk),some (.R J),some (.R I),some (.D (.tuple [.int (e.1.1:Nat),.int (e.1.2:Nat)])),some (.R e.2),U,S]) hTd O e.1.1 e.1.2 (λQ h=>h) (λQ h=>h) ?_
    intro l μ2 hl V _
    refine Ac (Al hl) λL ya=>?_
    have llw:l≠L:=by rintro rfl;rw [hl]at ya;cases ya
    refine cmap (G e.1) A4 (λz=>Ck z.2) (fun τ=>∃o1 o2,τ=[o1,o2]) ⟨none,none,rfl⟩ Ab (seven (by omega)) (λ_=>Al (by rw [Bh,Ag llw];exact hl)) ?_ ?_
    ·rintro j z τ' acc W2 hj ⟨o1,o2,rfl⟩ hW2
     exact⟨rfl,Nb (hW2 _ ⟨_,_,rfl⟩)⟩
    ·rw [Bh]
     exact bg _ _ ⟨L,rfl,by rw [Ab,YT];rfl,V.new (V.none ya)⟩
   rintro τ μ2 ⟨L,rfl,e2,V⟩
   have wu:=V _ _ eP
   refine A0 (fun τ μ'=>∃p,τ=[some (.R dk),some (.R J),some (.R I),some (.D (.tuple [.int (e.1.1:Nat),.int (e.1.2:Nat)])),some (.R e.2),some (.R L),some (.R p)]/\μ' p=some (.lst (((C e.1).filter λz=>!((G e.1).map (·.2)).any λl=>decide (l &&& z.2=l)).map A4))/\μ1 p=none/\Sub μ1 μ') (λZ3 bg=>?_) ?_
   ·refine Ac (Al wu) λp T=>?_
    have l1:e.2≠p:=by intro c;rw [c,T]at wu;cases wu
    have l2:L≠p:=by rintro rfl;rw [e2]at T;cases T
    refine cmapf (C e.1) A4 (λz=>!((G e.1).map (·.2)).any λl=>decide (l &&& z.2=l)) A4 (fun τ=>∃o1,τ=[o1,some (.R L)]) ⟨none,rfl⟩ Ab (seven (by omega)) (λ_=>Al (by rw [Bh,Ag l1];exact wu)) ?_ ?_
    ·rintro j z τ' acc W1 W2 hj ⟨o1,rfl⟩ w1 w2
     refine Ac (x:=PyData.int (z.2:Nat)) (Ao (j:=1) rfl) ⟨L,(G e.1).map (·.2),z.2,rfl,by rw [Bh,Ag l2];exact e2,?_⟩
     rw [Bh]at w1 w2 ⊢
     cases hh:((G e.1).map (·.2)).any λl=>decide (l &&& z.2=l) with
     | true=>exact Lg rfl (w2 (by rw [hh];rfl) _ ⟨_,rfl⟩)
     | false=>exact Lf rfl (w1 (by rw [hh];rfl) _ ⟨_,rfl⟩)
    ·rw [Bh]
     exact bg _ _ ⟨p,rfl,Ab,V.none T,V.new (V.none T)⟩
   rintro τ μ3 ⟨p,rfl,e3,T,X⟩
   have zbf:∀z:Pr,(((G e.1).map (·.2)).any λl=>decide (l &&& z.2=l))=true↔∃y∈G e.1,Wn y z:=λz=>by
    rw [aE]
    constructor
    ·rintro⟨b,hb,h⟩
     obtain⟨y,hy,rfl⟩:=D_.mp hb
     exact⟨y,hy,Nc.mp (YU h)⟩
    ·rintro⟨y,hy,h⟩
     exact⟨y.2,D_.mpr ⟨y,hy,rfl⟩,YW (Nc.mpr h)⟩
   have j3:∀z,z∈((C e.1).filter λz=>!((G e.1).map (·.2)).any λl=>decide (l &&& z.2=l))↔z∈C e.1/\¬ ∃y∈G e.1,Wn y z:=λz=>by
    rw [ZC,<- zbf z,Bool.not_eq_true',Bool.not_eq_true]
   have lj:((C e.1).filter λz=>!((G e.1).map (·.2)).any λl=>decide (l &&& z.2=l)).Sublist (C e.1):=gY
   generalize ((C e.1).filter λz=>!((G e.1).map (·.2)).any λl=>decide (l &&& z.2=l))=lf0 at e3 j3 lj
   have t8:∀z∈C e.1,(∃y∈G e.1,Wn y z)\/z∈lf0:=λz hz=>(Classical.em (∃y∈G e.1,Wn y z)).imp id λh=>(j3 z).mpr ⟨hz,h⟩
   refine Ac e3 (dif (λc=>?_) (λc=>?_))
   ·have ax:lf0≠[]:=by
     rintro rfl
     exact absurd c (by decide)
    have lfw:p≠I:=by rintro rfl;rw [t.dd]at T;cases T
    have ep:dput (.dt (o.map kvT)) (.tuple [.int (e.1.1:Nat),.int (e.1.2:Nat)]) (.R p)=some (.dt ((o++[(e.1,p)]).map kvT)):=by rw [<- Fq bm];rfl
    refine Ac (X _ _ t.dd) (Ac ep ⟨A5 (show(o.map kvT).length<=1000 by rw [B_];omega),hW _ _ ⟨_,_,_,_,λk=>if k=e.1 then lf0 else u k,o++[(e.1,p)],rfl,by rw [L_];exact eY cp,⟨Ab,λd g=>?_,by rw [L_];show o.length+1<=20;omega,?_⟩,⟨λd g=>?_,λd g=>?_,λd g z hz=>?_⟩,Ex (O.trans X) (by rw [Bc wf];exact j5)⟩⟩)
    ·rcases G_.mp g with h | h
     ·obtain⟨h1,h2⟩:=t.ll d h
      rw [M_ (bm d h),Ag h2]
      exact⟨X _ _ h1,h2⟩
     ·rw [P_.mp h]
      rw [S_ rfl,Ag lfw]
      exact⟨e3,lfw⟩
    ·rw [N_,ZW]
     refine⟨t.uu,by simp,λx hx y hy c2=>?_⟩
     obtain⟨d,g,rfl⟩:=D_.mp hx
     have hy:y=e.1:=by simpa using hy
     exact bm d g (c2.trans hy)
    ·rw [ba]
     rcases G_.mp g with h | h
     ·obtain⟨Y,h1,h2⟩:=B.k d h
      exact⟨Y,YM _ h1,h2⟩
     ·rw [P_.mp h]
      exact⟨e,by simp,rfl⟩
    ·rcases G_.mp g with h | h
     ·rw [M_ (bm d h)];exact B.w d h
     ·rw [P_.mp h]
      rw [S_ rfl]
      exact⟨ax,lj,λz hz y hy hw=>((j3 z).mp hz).2 ⟨y,hy,hw⟩⟩
    ·rw [ba]at g
     rcases G_.mp g with h | h
     ·refine(B.c d h z hz).imp id λ⟨Y,h1,h2,M⟩=>⟨Y,YM _ h1,h2,?_⟩
      rw [M_ (bm Y h1)];exact M
     ·rw [P_.mp h]at hz ⊢
      refine(t8 z hz).imp id λM=>⟨(e.1,p),by simp,rfl,?_⟩
      rw [S_ rfl];exact M
   ·have hle:lf0=[]:=by
     cases lf0 with
     | nil=>rfl
     | cons a l=>exact absurd (show(0:Int) < (((a :: l).map A4).length:Nat) from by rw [B_,ZS];omega) c
    refine hW _ _ ⟨_,_,_,_,u,o,rfl,ZP cp,⟨X _ _ t.dd,λd g=>⟨X _ _ (t.ll d g).1,(t.ll d g).2⟩,t.n,t.uu⟩,⟨λd g=>?_,B.w,λd g z hz=>?_⟩,O.trans X⟩
    ·rw [ba]
     obtain⟨Y,h1,h2⟩:=B.k d g
     exact⟨Y,YM _ h1,h2⟩
    ·rw [ba]at g
     rcases G_.mp g with h | h
     ·exact B.c d h z hz
     ·rw [P_.mp h]at hz ⊢
      refine(t8 z hz).imp id λM=>?_
      rw [hle]at M;cases M
  ·rintro τ μ1 ⟨o3,o4,U,S,u,o,rfl,cp,t,B,O⟩
   rw [B_,YY]at B
   exact hZ _ _ ⟨_,_,_,_,u,o,rfl,t,B,O⟩
 rintro τ μ1 ⟨o3,o4,U,S,u,o,rfl,t,B,O⟩
 exact⟨_,Sub.refl,q I u o μ1 t B j5 O⟩
theorem L7(p:Ar->Bool):∀A:List Ar,(A.filter p).length+(A.filter λa=>!p a).length=A.length
 | []=>rfl
 | a :: A=>by
  have:=L7 p A
  cases h:p a <;> simp [List.filter_cons,h] <;> omega
theorem Zb{A:List Ar}{k l:Nat×Nat}(h:l≠k):grp (A.filter λa=>!Ef k a) l=grp A l:=by
 unfold grp
 rw [List.filter_filter]
 congr 1
 refine List.filter_congr λa _=>?_
 cases c:Ef l a
 ·rfl
 ·have e:l=(a.p,a.x):=ZE λz=>by rw [Nf z]at c;cases c
  rw [Nf (a:=a) (k:=k) λz=>h (e.trans z.symm)];rfl
theorem Ss:∀{ks:List (Nat×Nat)} {A:List Ar},ks.Nodup->(ks.map λk=>(grp A k).length).sum<=A.length
 | [],_,_=>YZ _
 | k :: ks,A,h=>by
  rw [aO]at h
  have e:(ks.map λl=>(grp A l).length)=ks.map λl=>(grp (A.filter λa=>!Ef k a) l).length:=cZ λl b=>by
   rw [Zb λc=>h.1 (by rw [<- c];exact b)]
  have:=Ss (ks:=ks) (A:=A.filter λa=>!Ef k a) h.2
  have hp:=L7 (Ef k) A
  have d:(grp A k).length=(A.filter (Ef k)).length:=by unfold grp;rw [B_]
  rw [ZH,eN,e]
  omega
theorem Pa{P Q:List Pr}(h:∀y∈P,∃z∈Q,Wn z y):Under P Q:=λy hy=>by
 obtain⟨z,hz,b⟩:=h y hy
 exact⟨z,hz,λt a=>C8.mpr ⟨(C8.mp a).1,b t (C8.mp a).2⟩⟩
theorem Under.more{P Q N:List Pr}(h:Under P Q):Under P (Q++N):=λy hy=>let⟨z,hz,hb⟩:=h y hy;⟨z,YM _ hz,hb⟩
structure More(g:Gq)(G N:Tops):Prop where
 k:∀k,N k≠[]->k.1 < g.pl.length/\rgp g.rs k≠[]
 f:∀k,∀z∈N k,(∃y∈Ft g G k,y.2=z.2)/\z.2 < 32/\∀y∈G k,¬Wn y z
 u:∀k,((N k).map (·.2)).Nodup
theorem More.snd{g:Gq}(a:RsOk g){S:Nat->List Nat->Prop}{G N:Tops}(h:O9 G (LPre g S))(m:More g G N):O9 (λk=>G k++N k) (LPre g S):=λk p hp v hv=>by
 rcases G_.mp hp with hp | hp
 ·exact h k p hp v hv
 ·obtain⟨⟨y,hy,e⟩,_,_⟩:=m.f k p hp
  obtain⟨h1,h2⟩:=m.k k λz=>by rw [z]at hp;cases hp
  exact DH a h h1 h2 hy (by rw [e];exact hv)
theorem More.nd{g:Gq}{G N:Tops}(m:More g G N)(h:∀k,((G k).map (·.2)).Nodup)(k:Nat×Nat):((G k++N k).map (·.2)).Nodup:=by
 rw [N_,ZW]
 refine⟨h k,m.u k,λa ha b hb e=>?_⟩
 obtain⟨y,hy,rfl⟩:=D_.mp ha
 obtain⟨z,hz,rfl⟩:=D_.mp hb
 exact(m.f k z hz).2.2 y hy λt c=>by rw [<- e];exact c
theorem DL(l:List Nat):Ht (l.map Ck)=some (l.map λ(n:Nat)=>(n:Int)):=by
 induction l with
 | nil=>rfl
 | cons n l a=>show(Ht (l.map Ck)).map _=_;rw [a];rfl
theorem Pb:∀ns:List Nat,(ns.map λ(n:Nat)=>(n:Int)).sum=((ns.sum:Nat):Int)
 | []=>rfl
 | n :: ns=>by rw [ZH,eN,eN,Pb ns];rfl
abbrev WN:List Str:=["tops"]
theorem VY:FnScope WN ["tops"] (Af JM):=⟨rfl,rfl,rfl,by decide +kernel,rfl,by decide +kernel,by decide +kernel⟩
theorem QN:(["pairs"]:List Str).Nodup:=by decide +kernel
def QO:ASp:=λa μ R=>∃(d:jH) (G:Tops) (kvs:List ((Nat×Nat)×jH)),a=[.R d]/\DcK μ d G kvs/\(∀e∈kvs,(G e.1).length<=32)/\∀ μ',Sub μ μ'->R (.D (.int ((kvs.map λe=>(G e.1).length).sum:Nat))) μ'
theorem QP{n:Nat}(F:Fun K "how_many" "how_many" JM f fd) (r:mg "sum" = none) (l:mg "len" = none):FnOk P w K mg base Ea (n+1) f fd ["tops"] (Fg K 1 QO):=by
 refine F.vok VY λy A j s H E v=>⟨_,(Aj (Be (Ba (OM rfl) rfl r PyProof.Rows.boot_sum (Aa (Ov (N':=["pairs"]) (mp:=[none]) rfl (vv 0) (λ_ _ _ _=>(Ai (i:=0) QN rfl (Or.inl rfl) (Or.inr rfl))) (λ_ _ _ _=>Bp) (λ_ _ _ _=>(Ba Da rfl l ZV (Aa (vv 0) Ad))) (Aw (N:=WN) (pn:=(Af JM).names) (by decide +kernel))) Ad)))),?_⟩
 rintro u μ R _ ⟨d,G,a,rfl,D,hb,q⟩
 refine Ac D.dd λp hp=>?_
 have h:d≠p:=by rintro rfl;rw [D.dd]at hp;cases hp
 rw [show(a.map kvT).map (λx=>x.2)=a.map λe=>AV.R e.2 by rw [YT];rfl]
 have k:=D.n
 refine cmap a (λe=>AV.R e.2) (λe=>.D (.int ((G e.1).length:Nat))) (fun τ=>∃o,τ=[o]) ⟨none,rfl⟩ Ab (seven (by omega)) (λ_=>trivial) ?_ ?_
 ·rintro i e τ' acc W he ⟨o,rfl⟩ hW
  obtain⟨h1,h2⟩:=D.ll e (U_ he)
  have t:e.2≠p:=λz=>by rw [z,hp]at h1;cases h1
  refine Ac (x:=MO.lst ((G e.1).map A4)) (by rw [Bh,Ag t,Bc h2];exact h1) ?_
  show W _ (.D (.int (((G e.1).map A4).length:Nat))) _
  rw [B_]
  exact hW _ ⟨_,rfl⟩
 ·refine Ac (x:=MO.lst ((a.map λe=>(G e.1).length).map Ck)) (by rw [Ag h.symm,Ab,YT];rfl) (Ac (DL _) ⟨⟨λn k=>?_,by rw [B_,B_];omega⟩,_,Sub.refl,?_⟩)
  ·obtain⟨m,c,rfl⟩:=D_.mp k
   obtain⟨e,he,rfl⟩:=D_.mp c
   have:=hb e he
   omega
  ·rw [Pb]
   refine q _ λb m c=>?_
   by_cases g:b=d
   ·rw [g,Ab,<- c,g,D.dd]
   ·rw [Ag g,Ag (by rintro rfl;rw [hp]at c;cases c),Ag (by rintro rfl;rw [hp]at c;cases c),Bc g];exact c
structure Kpt(μ:M)(d:jH)(G:Tops)(kk:List ((Nat×Nat)×jH)):Prop where
 D:DcK μ d G kk
 o:∀k,(∀e∈kk,e.1≠k)->G k=[]
 b:∀e∈kk,e.1.1 < 5/\e.1.2 < 4
theorem Kpt.top{μ:M}{d:jH}{G:Tops}{a:List ((Nat×Nat)×jH)}(h:Kpt μ d G a):TopK μ d G:=⟨a,h.D.dd,λe he=>(h.D.ll e he).1,h.o,h.D.uu⟩
theorem KJ{ks:List (Nat×Nat)}(h:ks.Nodup)(hb:∀k∈ks,k.1 < 5/\k.2 < 4):ks.length<=20:=by
 have:=Df (ys:=(List.range 5).flatMap λi=>(List.range 4).map λj=>(i,j)) h λk hk=>aR.mpr ⟨k.1,ZY.mpr (hb k hk).1,D_.mpr ⟨k.2,ZY.mpr (hb k hk).2,rfl⟩⟩
 exact this
def putK(kvs:List ((Nat×Nat)×jH))(k:Nat×Nat)(z:jH):List ((Nat×Nat)×jH):=if ∃e∈kvs,e.1=k then kvs.map λe=>if e.1=k then(k,z) else e else kvs++[(k,z)]
theorem QQ{kvs:List ((Nat×Nat)×jH)}{k:Nat×Nat}{z:jH}:E5 (kvs.map kvT) [.inl (k.1:Nat),.inl (k.2:Nat)] (.R z)=(putK kvs k z).map kvT:=by
 unfold putK
 split
 ·rename_i h
  obtain⟨e,he,rfl⟩:=h
  unfold E5
  rw [S_ (aE.mpr ⟨kvT e,D_.mpr ⟨e,he,rfl⟩,YW rfl⟩),YT,YT]
  refine cZ λx _=>?_
  by_cases c:x.1=e.1
  ·show ite _ _ _=kvT (ite _ _ _)
   rw [S_ c,S_ (by rw [<- c];rfl),<- c];rfl
  ·show ite _ _ _=kvT (ite _ _ _)
   rw [M_ c];exact M_ λz=>c (Nd z)
 ·rename_i h
  exact Fq λe he c=>h ⟨e,he,c⟩
theorem put_mem{kvs:List ((Nat×Nat)×jH)}{k:Nat×Nat}{z:jH}{e:(Nat×Nat)×jH}(h:e∈putK kvs k z):e=(k,z)\/(e∈kvs/\e.1≠k):=by
 unfold putK at h
 split at h
 ·obtain⟨x,hx,rfl⟩:=D_.mp h
  by_cases c:x.1=k
  ·rw [S_ c];exact .inl rfl
  ·rw [M_ c];exact .inr ⟨hx,c⟩
 ·rename_i a
  rcases G_.mp h with h | h
  ·exact .inr ⟨h,λc=>a ⟨e,h,c⟩⟩
  ·exact .inl (P_.mp h)
theorem put_keys{kvs:List ((Nat×Nat)×jH)}{k:Nat×Nat}{z:jH}:(putK kvs k z).map (·.1)=kvs.map (·.1)\/(k∉kvs.map (·.1)/\(putK kvs k z).map (·.1)=kvs.map (·.1)++[k]):=by
 unfold putK
 split
 ·refine .inl ?_
  rw [YT]
  refine cZ λx _=>?_
  show(ite _ _ _:(Nat×Nat)×jH).1=x.1
  split
  ·rename_i c;exact c.symm
  ·rfl
 ·rename_i a
  refine .inr ⟨λz=>?_,by rw [N_];rfl⟩
  obtain⟨e,he,c⟩:=D_.mp z
  exact a ⟨e,he,c⟩
theorem DM{kvs:List ((Nat×Nat)×jH)}{k:Nat×Nat}{z:jH}:k∈(putK kvs k z).map (·.1):=by
 rcases put_keys (kvs:=kvs) (k:=k) (z:=z) with h | h
 ·unfold putK at h ⊢
  split
  ·rename_i a
   obtain⟨e,he,rfl⟩:=a
   rw [S_ ⟨e,he,rfl⟩]at h
   rw [h];exact D_.mpr ⟨e,he,rfl⟩
  ·rw [N_];exact YO _ (.head _)
 ·rw [h.2];exact YO _ (.head _)
theorem Kpt.put{μ:M}{d z:jH}{G l:Tops}{g:List ((Nat×Nat)×jH)}{k:Nat×Nat}(h:Kpt μ d G g)(hk:k.1 < 5/\k.2 < 4)(hz:μ z=some (.lst ((l k).map A4)))(i:z≠d)(r:∀j,j≠k->l j=G j):Kpt (An μ d (.dt ((putK g k z).map kvT))) d l (putK g k z):=by
 have hb:∀e∈putK g k z,e.1.1 < 5/\e.1.2 < 4:=λe he=>(put_mem he).elim (λc=>by rw [c];exact hk) λc=>h.b e c.1
 have hu:((putK g k z).map (·.1)).Nodup:=by
  rcases put_keys (kvs:=g) (k:=k) (z:=z) with e | ⟨n,e⟩
  ·rw [e];exact h.D.uu
  ·rw [e,ZW]
   exact⟨h.D.uu,by simp,λa ha b hb c=>n (by rw [<- P_.mp hb,<- c];exact ha)⟩
 refine⟨⟨Ab,λe he=>?_,?_,hu⟩,λj hj=>?_,hb⟩
 ·rcases put_mem he with rfl | ⟨h1,h2⟩
  ·exact⟨by rw [Ag i];exact hz,i⟩
  ·obtain⟨t,p⟩:=h.D.ll e h1
   exact⟨by rw [Ag p,r _ h2];exact t,p⟩
 ·have:=KJ hu λk hk=>by
   obtain⟨e,he,rfl⟩:=D_.mp hk
   exact hb e he
  rwa [B_]at this
 ·have m:j≠k:=λc=>by
   obtain⟨e,he,u⟩:=D_.mp (DM (kvs:=g) (k:=k) (z:=z))
   exact hj e he (u.trans c.symm)
  rw [r j m]
  refine h.o j λe he c=>?_
  have:e.1∈(putK g k z).map (·.1):=by
   rcases put_keys (kvs:=g) (k:=k) (z:=z) with q | ⟨_,q⟩
   ·rw [q];exact D_.mpr ⟨e,he,rfl⟩
   ·rw [q];exact YM _ (D_.mpr ⟨e,he,rfl⟩)
  obtain⟨x,s,v⟩:=D_.mp this
  exact hj x s (v.trans c)
abbrev VZ:List Str:=["kept","waiting","pairs","cheapest","top"]
theorem DN:FnScope VZ ["kept","waiting"] (Af FB):=⟨rfl,rfl,rfl,by decide +kernel,rfl,by decide +kernel,by decide +kernel⟩
theorem QR:(["pairs"]:List Str).Nodup:=by decide +kernel
theorem QS:(["pair","cheapest"]:List Str).Nodup:=by decide +kernel
structure Chp(Wf N:Tops)(kw:List ((Nat×Nat)×jH))(c:Nat):Prop where
 i:∀e∈kw,N e.1=(Wf e.1).filter λz=>decide (z.1=c)
 o:∀k,(∀e∈kw,e.1≠k)->N k=[]
def QT:ASp:=λh μ R=>∃(dk d:jH) (G b:Tops) (i a:List ((Nat×Nat)×jH)),h=[.R dk,.R d]/\Kpt μ dk G i/\DcK μ d b a/\a≠[]/\(∀e∈a,b e.1≠[])/\(∀e∈a,e.1.1 < 5/\e.1.2 < 4)/\Nh G/\(∀e∈a,(b e.1).length<=32/\∀z∈b e.1,z.2 < 32)/\dk≠d /\
 ∀c N g μ',(∃e∈a,∃z∈b e.1,z.1=c)->Chp b N a c->Kpt μ' dk (λk=>G k++N k) g->Sub (B7 (B7 μ d) dk) μ'->R (.D .none) μ'
theorem QU{n:Nat}(F:Fun K "keep_cheapest" "keep_cheapest" FB f fd) (d8:mg "min" = none):FnOk P w K mg base Ea (n+1) f fd ["kept","waiting"] (Fg K 2 QT):=by
 refine F.vok DN λau A outer s H E X=>⟨_,(Ae (Av (i:=3) DN.nd rfl (Or.inr rfl) (Ba (Yg X rfl) rfl d8 gI (Aa (Ov (N':=["pairs"]) (mp:=[none]) rfl (vv 1) (λ_ _ _ _=>(Ai (i:=0) QR rfl (Or.inl rfl) (Or.inr rfl))) (λ_ _ _ _=>Bp) (λ_ _ _ _=>(Ap A7 (Ba (Yg X rfl) rfl d8 gI (Aa (vv 0) Ad)) Ah)) (Aw (N:=VZ) (pn:=(Af FB).names) (by decide +kernel))) Ad)))
   (Aj (G6 ZD rfl (vv 1) (Aq (Ai (i:=4) DN.nd rfl (Or.inl rfl)) (Aq (Ai (i:=2) DN.nd rfl (Or.inl rfl)) B0)) (Aj (Ed (Cu X) (vv 0) (vv 4) (Bd Cc (Gz (Cu X) (vv 0) (vv 4) (Bv Ad)) (Bt (N':=["pair","cheapest"]) (mp:=[none,some 3]) rfl (Bf (vv 2)) (λ_ _ _ _=>(Ai (i:=0) QS rfl (Or.inl rfl) (Or.inr rfl))) (λ_ _ _ _=>(C1 (Bk (Hh X) (Ap A7 (vv 0) Ah) (vv 1) (nomark _)))) (λ_ _ _ _=>(vv 0)) (Aw (N:=VZ) (pn:=(Af FB).names) (by decide +kernel))))))))),?_⟩
 rintro xs μ R _ ⟨dk,t,G,a,kk,L,rfl,T,D,ax,hW0,hbw,hGB,hWB,j5,q⟩
 refine A0 (fun τ μ'=>∃c:Nat,τ=[some (.R dk),some (.R t),none,some (.D (.int (c:Nat))),none]/\Sub μ μ'/\∃e∈L,∃z∈a e.1,z.1=c) (λZ hZ=>?_) ?_
 ·refine Ac D.dd λp hp=>?_
  have hpd:t≠p:=by rintro rfl;rw [D.dd]at hp;cases hp
  rw [show(L.map kvT).map (λx=>x.2)=L.map λe=>AV.R e.2 by rw [YT];rfl]
  have hn:=D.n
  refine Dv (λi B τ μ'=>∃(o:Option AV) (M:List Nat),τ=[o]/\B=M.map Ck/\M.length=i/\(∀c∈M,∃e∈L,∃z∈a e.1,z.1=c)/\μ'=An (B7 μ t) p (.lst B)) ⟨none,[],rfl,rfl,rfl,(λ_ h=>nomatch h),rfl⟩ (λ_ _ _ _ _=>trivial) ?_ ?_
  ·rintro i x B τ μ' W hx ⟨o,M,rfl,rfl,bn,i5,rfl⟩ hW
   rw [H_]at hx
   obtain⟨e,he,rfl⟩:=F_.mp hx
   have O:=U_ he
   obtain⟨h1,h2⟩:=D.ll e O
   have z7:e.2≠p:=λz=>by rw [z,hp]at h1;cases h1
   refine Lf rfl (Ac (x:=MO.lst ((a e.1).map A4)) (by rw [Ag z7,Bc h2];exact h1) (Ac (O2 _) ⟨⟨?_,λd I=>?_⟩,λd I=>?_⟩))
   ·rw [B_];exact List.length_pos_iff.mpr (hW0 e O)
   ·obtain⟨z,_,rfl⟩:=D_.mp I
    exact⟨O3 z,λd I=>by obtain⟨y,_,rfl⟩:=D_.mp I;exact Sk z y⟩
   ·obtain⟨z,hz,rfl⟩:=D_.mp I
    refine Ac (x:=PyData.int (z.1:Nat)) (Ao (j:=0) rfl) ⟨Ab,by rw [B_,bn];exact X_ (E_.mp he).1 (Q_ hn (by decide)),hW _ _ _ ⟨_,M++[z.1],rfl,by rw [N_];rfl,by rw [L_,bn];rfl,λc hc=>?_,Bh⟩⟩
    rcases G_.mp hc with hc | hc
    ·exact i5 c hc
    ·exact⟨e,O,z,hz,(P_.mp hc).symm⟩
  ·rintro B τ μ' ⟨o,M,rfl,rfl,bn,i5,rfl⟩
   have hc0:0 < M.length:=by rw [bn,B_];exact List.length_pos_iff.mpr ax
   refine Ac (x:=MO.lst (M.map Ck)) (by rw [Ag hpd.symm,Ab]) (Ac (D4 M) ⟨⟨by rw [B_];exact hc0,λd I=>?_⟩,λd I=>?_⟩)
   ·obtain⟨c,_,rfl⟩:=D_.mp I
    refine⟨Bs _,λd I=>?_⟩
    obtain⟨c',_,rfl⟩:=D_.mp I
    simp only [cmpb]
   ·obtain⟨c,hc,rfl⟩:=D_.mp I
    refine hZ _ _ ⟨c,rfl,λb m hm=>?_,i5 c hc⟩
    by_cases iq:b=t
    ·rw [iq,Ab,<- hm,iq,D.dd]
    ·rw [Ag iq,Ag (by rintro rfl;rw [hp]at hm;cases hm),Bc iq];exact hm
 rintro τ μ1 ⟨c,rfl,Y,dh⟩
 refine Ac (Y _ _ D.dd) ?_
 have S0:Sub (B7 (B7 μ t) dk) (B7 μ1 t):=λb m hb=>by
  have h1:b≠dk:=λz=>by rw [z]at hb;unfold B7 at hb;rw [S_ rfl]at hb;cases hb
  rw [Bc h1]at hb
  have h2:b≠t:=λz=>by rw [z]at hb;unfold B7 at hb;rw [S_ rfl]at hb;cases hb
  rw [Bc h2]at hb ⊢
  exact Y _ _ hb
 have T0:Kpt (B7 μ1 t) dk (λk=>G k++[]) kk:=⟨⟨by rw [Bc j5];exact Y _ _ T.D.dd,λe he=>?_,T.D.n,T.D.uu⟩,λk hk=>by rw [T.o k hk];rfl,T.b⟩
 ·refine Kf (λi τ μ'=>∃o2 o4 N ue,τ=[some (.R dk),some (.R t),o2,some (.D (.int (c:Nat))),o4]/\Chp a N (L.take i) c/\Kpt μ' dk (λk=>G k++N k) ue/\Sub (B7 (B7 μ t) dk) μ') ⟨none,none,λ_=>[],kk,rfl,⟨(λ_ h=>nomatch h),λ_ _=>rfl⟩,T0,S0⟩ ?_ ?_
  ·rintro i v τ μ2 W hv ⟨o2,o4,N,g,rfl,C,r,S2⟩ hW
   rw [H_]at hv
   obtain⟨e,he,rfl⟩:=F_.mp hv
   have O:=U_ he
   have ba:L.take (i+1)=L.take i++[e]:=by rw [Y_,he];rfl
   obtain⟨S,hed⟩:=D.ll e O
   have n6:e.2≠dk:=λz=>by rw [z,T.D.dd]at S;cases S
   have eW:μ2 e.2=some (.lst ((a e.1).map A4)):=S2 _ _ (by rw [Bc n6,Bc hed];exact S)
   have dk0:B7 (B7 μ t) dk dk=none:=S_ rfl
   have bm:∀u∈L.take i,u.1≠e.1:=λu J c=>by
    have U:((L.take (i+1)).map (·.1)).Nodup:=D.uu.sublist ((dN _ _).map _)
    rw [ba,N_,ZW]at U
    exact U.2.2 u.1 (D_.mpr ⟨u,J,rfl⟩) e.1 (by simp) c
   have hN:N e.1=[]:=C.o _ bm
   dsimp only [Ec,Dh,N3,List.set,kvT,W8,HN,N4,IB]
   refine G9 (td:=Ji 0) (ty:=Ji 4) (τ:=[some (.R dk),some (.R t),some (.R e.2),some (.D (.int (c:Nat))),some (.D (.tuple [.int (e.1.1:Nat),.int (e.1.2:Nat)]))]) r.top Sub.refl e.1.1 e.1.2 (λQ h=>h) (λQ h=>h) ?_
   intro l μ3 hl S3 _
   have hl:μ3 l=some (.lst ((G e.1).map A4)):=by rw [hl];show some (MO.lst ((G e.1++N e.1).map A4))=_;rw [hN,aY]
   have vt:=S3 _ _ eW
   obtain⟨hg32,hgb⟩:=hGB e.1
   obtain⟨hw32,hwb⟩:=hWB e O
   refine Ac (Al vt) λp hp=>?_
   have l1:e.2≠p:=by intro z;rw [z,hp]at vt;cases vt
   have l2:l≠p:=by rintro rfl;rw [hl]at hp;cases hp
   refine cmapf (a e.1) A4 (λz=>decide (z.1=c)) A4 (fun τ=>∃o1,τ=[o1,some (.D (.int (c:Nat)))]) ⟨none,rfl⟩ Ab (seven (by omega)) (λ_=>Al (by rw [Bh,Ag l1];exact vt)) ?_ ?_
   ·rintro j z τ' B W1 W2 hj ⟨o1,rfl⟩ w1 w2
    exact Ac (x:=PyData.int (z.1:Nat)) (Ao (j:=0) rfl) (ieq (λe=>w1 (YW (eM e)) _ ⟨_,rfl⟩) λe=>w2 (ZB λh=>e (bB Int.ofNat h)) _ ⟨_,rfl⟩)
   ·rw [Bh]
    have ag:((a e.1).filter λz=>decide (z.1=c)).length<=32:=Q_ (ZM _ _) hw32
    have S4:Sub μ2 (An μ3 p (.lst (((a e.1).filter λz=>decide (z.1=c)).map A4))):=S3.new (S3.none hp)
    have e4:An μ3 p (.lst (((a e.1).filter λz=>decide (z.1=c)).map A4)) l=some (.lst ((G e.1).map A4)):=by rw [Ag l2];exact hl
    have p4:An μ3 p (.lst (((a e.1).filter λz=>decide (z.1=c)).map A4)) p=some (.lst (((a e.1).filter λz=>decide (z.1=c)).map A4)):=Ab
    generalize An μ3 p (.lst (((a e.1).filter λz=>decide (z.1=c)).map A4))=μ4 at S4 e4 p4
    refine Ac e4 (Ac p4 ⟨by rw [B_,B_];exact seven (by omega),λz hz=>?_⟩)
    have z2:=S4.none hz
    have zd:z≠dk:=by rintro rfl;rw [r.D.dd]at z2;cases z2
    have V:Sub μ2 (An μ4 z (.lst ((G e.1).map A4++((a e.1).filter λz=>decide (z.1=c)).map A4))):=S4.new z2
    have e5:An μ4 z (.lst ((G e.1).map A4++((a e.1).filter λz=>decide (z.1=c)).map A4)) z=some (.lst ((G e.1++(a e.1).filter λz=>decide (z.1=c)).map A4)):=by rw [Ab,N_]
    generalize An μ4 z (.lst ((G e.1).map A4++((a e.1).filter λz=>decide (z.1=c)).map A4))=μ5 at V e5
    have ep:dput (.dt (g.map kvT)) (.tuple [.int (e.1.1:Nat),.int (e.1.2:Nat)]) (.R z)=some (.dt ((putK g e.1 z).map kvT)):=by rw [<- QQ];rfl
    have zac:=r.D.n
    refine Ac (V _ _ r.D.dd) (Ac ep ⟨A5 (show(g.map kvT).length<=1000 by rw [B_];omega),hW _ _ ⟨_,_,λk=>if k=e.1 then(a e.1).filter (λz=>decide (z.1=c)) else N k,putK g e.1 z,rfl,⟨λu J=>?_,λk hk=>?_⟩,?_,Ex (S2.trans V) dk0⟩⟩)
    ·rw [ba]at J
     rcases G_.mp J with h | h
     ·rw [M_ (bm u h)];exact C.i u h
     ·rw [P_.mp h,S_ rfl]
    ·rw [ba]at hk
     rw [M_ λz=>hk e (by simp) z.symm]
     exact C.o k λu J=>hk u (YM _ J)
    ·refine Kpt.put (G:=λk=>G k++N k) ⟨⟨V _ _ r.D.dd,λu J=>⟨V _ _ (r.D.ll u J).1,(r.D.ll u J).2⟩,r.D.n,r.D.uu⟩,r.o,r.b⟩ (hbw e O) (by dsimp only;rw [S_ rfl];exact e5) zd λj hj=>by dsimp only;rw [M_ hj]
  ·rintro τ μ2 ⟨o2,o4,N,g,rfl,C,r,S2⟩
   rw [B_,YY]at C
   exact⟨_,Sub.refl,q c N g μ2 dh C r S2⟩
 ·obtain⟨h1,h2⟩:=T.D.ll e he
  have U:=Y _ _ h1
  have h4:e.2≠t:=λz=>by rw [z,Y _ _ D.dd]at U;cases U
  exact⟨by rw [Bc h4];show _=some (MO.lst ((G e.1++[]).map A4));rw [aY];exact U,h2⟩
def Cl(Pf:Nat×Nat->List Pr)(kvs:List ((Nat×Nat)×jH)):List Ar:=kvs.flatMap λe=>(Pf e.1).map λz=>⟨e.1.1,e.1.2,Cf z.2,z.1⟩
theorem Su{Pf:Nat×Nat->List Pr}:∀{kvs:List ((Nat×Nat)×jH)},(∀e∈kvs,(Pf e.1).length<=992)->(Cl Pf kvs).length<=992 * kvs.length
 | [],_=>by simp [Cl]
 | e :: kvs,h=>by
  have h1:=h e Z_
  have h2:=Su (kvs:=kvs) λa he=>h a (ZK _ he)
  unfold Cl at h2 ⊢
  rw [List.flatMap_cons,L_,B_,ZS]
  omega
abbrev WO:List Str:=["tops","arrows","top","pairs"]
theorem DO:FnScope WO ["tops"] (Af JN):=⟨rfl,rfl,rfl,by decide +kernel,rfl,by decide +kernel,by decide +kernel⟩
theorem FJ:(["cost","bits","top"]:List Str).Nodup:=by decide +kernel
structure TopQ(μ:M)(d:jH)(Pf:Nat×Nat->List Pr)(kvs:List ((Nat×Nat)×jH)):Prop where
 dd:μ d=some (.dt (kvs.map kvT))
 ll:∀e∈kvs,μ e.2=some (.lst ((Pf e.1).map A4))/\e.2≠d/\(Pf e.1).length<=992/\∀z∈Pf e.1,z.2 < 32
 n:kvs.length<=20
def QV:ASp:=λa μ R=>∃(d:jH) (Pf:Nat×Nat->List Pr) (kvs:List ((Nat×Nat)×jH)),a=[.R d]/\TopQ μ d Pf kvs/\∀(l:jH) μ',μ l=none->μ' l=some (.lst ((Cl Pf kvs).map Sm))->Sub (B7 μ d) μ'->R (.R l) μ'
theorem QW{n:Nat}(F:Fun K "as_arrows" "as_arrows" JN f fd) (Q:VCal P w K mg base n "as_stands" ["bits"] JU):FnOk P w K mg base Ea (n+1) f fd ["tops"] (Fg K 1 QV):=by
 refine F.vok DO λau A U s H E hr=>⟨_,(Ae (Av (i:=1) DO.nd rfl (Or.inl rfl) (Bv Ad))
   (Ae (G6 ZD rfl (vv 0) (Aq (Ai (i:=2) DO.nd rfl (Or.inr rfl)) (Aq (Ai (i:=3) DO.nd rfl (Or.inl rfl)) B0)) (Aj (B2 (Eb bI bJ Ep (vv 1) (Aa (Bt (N':=["cost","bits","top"]) (mp:=[none,none,some 2]) rfl (Bf (vv 3)) (λ_ _ _ _=>(Dl (n:=2) rfl (Aq (Ai (i:=0) FJ rfl (Or.inl rfl) (Or.inr rfl)) (Aq (Ai (i:=1) FJ rfl (Or.inl rfl) (Or.inr rfl)) B0)))) (λ_ _ _ _=>Bp) (λ_ _ _ _=>(Bd Cc (vv 2) (Bl (Aa (Ak Q hr rfl (Aa (vv 1) Ad)) (Aa (vv 0) Ad))))) (Aw (N:=WO) (pn:=(Af JN).names) (by decide +kernel))) Ad)))))
   (Aj (Be (vv 1))))),?_⟩
 rintro xs μ R _ ⟨d,Pf,kvs,rfl,T,q⟩
 intro l C
 have ld:l≠d:=by rintro rfl;rw [T.dd]at C;cases C
 refine A0 (fun τ μ'=>∃a u,τ=[some (.R d),some (.R l),a,u]/\μ' l=some (.lst ((Cl Pf kvs).map Sm))/\Sub (B7 μ d) μ') (λZ hZ=>?_) ?_
 ·refine Ac (x:=MO.dt (kvs.map kvT)) (by rw [Ag ld.symm];exact T.dd) ?_
  refine Kf (λi τ μ'=>∃a u,τ=[some (.R d),some (.R l),a,u]/\μ' l=some (.lst ((Cl Pf (kvs.take i)).map Sm))/\Sub (B7 μ d) μ') ⟨none,none,rfl,?_,?_⟩ ?_ ?_
  ·rw [Bc ld];exact Ab
  ·intro b m hb
   have iq:b≠d:=λz=>by rw [z]at hb;unfold B7 at hb;rw [S_ rfl]at hb;cases hb
   rw [Bc iq]at hb ⊢
   rw [Ag (by rintro rfl;rw [C]at hb;cases hb)];exact hb
  ·rintro i v τ μ1 W hv ⟨a,u,rfl,p,t⟩ hW
   rw [H_]at hv
   obtain⟨e,he,rfl⟩:=F_.mp hv
   obtain⟨V,Y,fc,heb⟩:=T.ll e (U_ he)
   have G:μ1 e.2=some (.lst ((Pf e.1).map A4)):=t _ _ (by rw [Bc Y];exact V)
   have hi:=(E_.mp he).1
   have hn9:=T.n
   have ba:Cl Pf (kvs.take (i+1))=Cl Pf (kvs.take i)++(Pf e.1).map λz=>⟨e.1.1,e.1.2,Cf z.2,z.1⟩:=by
    unfold Cl
    rw [Y_,he,fA];simp
   have wt:=Su (Pf:=Pf) (kvs:=kvs.take i) λe' av=>(T.ll e' (dO av)).2.2.1
   rw [ZX]at wt
   refine⟨Ac p trivial,Ac (Al G) λI g=>?_⟩
   have p7:l≠I:=by rintro rfl;rw [p]at g;cases g
   have qr:e.2≠I:=by rintro h;rw [h,g]at G;cases G
   have B:∀{ν:M} {o:MO},Sub (B7 μ d) ν->Sub (B7 μ d) (An ν I o):=λS=>S.new (t.none g)
   refine Dv (λj k τ' μ'=>∃L a,τ'=[L,a,some (.D (.tuple [.int (e.1.1:Nat),.int (e.1.2:Nat)]))]/\k=(((Pf e.1).take j).map λz=>Sm ⟨e.1.1,e.1.2,Cf z.2,z.1⟩)/\μ' I=some (.lst k)/\μ' e.2=some (.lst ((Pf e.1).map A4))/\μ' l=some (.lst ((Cl Pf (kvs.take i)).map Sm))/\Sub (B7 μ d) μ') ⟨none,none,rfl,rfl,Ab,by rw [Ag qr];exact G,by rw [Ag p7];exact p,B t⟩ (λ_ _ _ _ ⟨_,_,_,_,_,e2,_⟩=>Al e2) ?_ ?_
   ·rintro j v k τ' μ2 W2 y ⟨L,a,rfl,rfl,J,f2,X,O⟩ hW2
    rw [H_]at y
    obtain⟨⟨c,b⟩,r,rfl⟩:=F_.mp y
    have hj:=(E_.mp r).1
    refine⟨rfl,Nb (Lf rfl ⟨b,rfl,heb _ (U_ r),fun μ3 S3=>⟨by show 2+2<=sizeLine;decide,S3 _ _ J,JV (by rw [B_,ZX];omega),hW2 _ _ _ ⟨_,_,rfl,?_,Ab,by rw [Ag qr];exact S3 _ _ f2,by rw [Ag p7];exact S3 _ _ X,B (O.trans S3)⟩⟩⟩)⟩
    rw [Y_,r,N_];rfl
   ·rintro k τ' μ2 ⟨L,a,rfl,rfl,J,f2,X,O⟩
    rw [B_,YY]at J
    refine Ac X (Ac J ⟨aU (JV (by rw [B_,B_];omega)),hW _ _ ⟨_,_,rfl,?_,?_⟩⟩)
    ·rw [Ab,ba,N_,YT];rfl
    ·exact O.new (by rw [Bc ld];exact C)
  ·rintro τ μ1 ⟨a,u,rfl,p,t⟩
   rw [B_,YY]at p
   exact hZ _ _ ⟨_,_,rfl,p,t⟩
 rintro τ μ1 ⟨a,u,rfl,p,t⟩
 exact⟨_,Sub.refl,q l μ1 C p t⟩
structure Arw where
 p:Nat
 x:Nat
 ts:List Nat
 c:Option Nat
def Ra(a:Arw):List jG:=.int a.p :: .int a.x :: Ax a.ts :: (match a.c with | none=>[] | some c=>[.int c])
def Bb(a:Arw):jG:=.tuple (Ra a)
theorem Bx{μ:M}(A:List Arw):items μ (.D (.tuple (A.map Bb)))=some (A.map λa=>.D (Bb a)):=by
 show some ((A.map Bb).map AV.D)=_
 rw [YT];rfl
theorem KK{a:Arw}:atI (Ra a) 2=some (Ax a.ts):=Ao (j:=2) rfl
theorem Zc(a:Arw):(Bb a).canLay0=true/\(Bb a).depth<=3/\Cano (Bb a)=true:=by
 obtain⟨p,x,ts,c⟩:=a
 have h1:=Iz (ns:=ts)
 have h2:=L4 ts
 cases c with
 | none =>
  simp only [Bb,Ra,Ax,PyData.canLay0,PyData.canLayAll0,PyData.depth,PyData.depthAll,Cano,A9,h1.1,h2,Bool.and_true,Bool.true_and,true_and,and_true]
  have:=h1.2
  omega
 | some c =>
  simp only [Bb,Ra,Ax,PyData.canLay0,PyData.canLayAll0,PyData.depth,PyData.depthAll,Cano,A9,h1.1,h2,Bool.and_true,Bool.true_and,true_and,and_true]
  have:=h1.2
  omega
theorem Sw{a b:Arw}(h:a.c.isSome=b.c.isSome):cmpb (Bb a) (Bb b)=true:=by
 obtain⟨p,x,ts,c⟩:=a
 obtain⟨i,g,e,d⟩:=b
 cases c <;> cases d <;> simp at h <;> simp only [Bb,Ra,Ax,cmpb,cmpbs,O0,ite_self]
theorem Sx:∀(B:List Arw),PyData.canLayAll0 (B.map Bb)=true/\PyData.depthAll (B.map Bb)<=3/\A9 (B.map Bb)=true
 | []=>⟨rfl,by simp [PyData.depthAll],rfl⟩
 | a :: B=>by
  obtain⟨h1,h2,b⟩:=Zc a
  obtain⟨c,e,d⟩:=Sx B
  simp only [List.map_cons,PyData.canLayAll0,PyData.depthAll,A9,h1,b,c,d,Bool.and_self,true_and,and_true]
  omega
theorem Km(B:List Arw):dats (B.map λa=>.D (Bb a))=some (B.map Bb):=by
 rw [show(B.map λa=>AV.D (Bb a))=(B.map Bb).map .D by rw [YT];rfl];exact Cb _
def rd(A:List Arw)(b:List Nat):List Nat->Nat->Bool
 | [],s=>decide (s∈b)
 | x :: w,s=>A.any λa=>decide (a.p=s/\a.x=x) && a.ts.all λt=>rd A b w t
def Fits(b:List Nat)(x:Nat)(a:Arw)(s:Nat):Prop:=a.p=s/\a.x=x/\∀t∈a.ts,t∈b
theorem DP{A:List Arw}{b w d:List Nat}{x s:Nat}(h:∀t,t∈d↔rd A b w t=true):rd A b (x :: w) s=true↔∃a∈A,Fits d x a s:=by
 rw [rd,aE]
 constructor
 ·rintro⟨a,ha,e⟩
  rw [ZJ,aQ]at e
  have g:=YU e.1
  exact⟨a,ha,g.1,g.2,λt c=>(h t).mpr (e.2 t c)⟩
 ·rintro⟨a,ha,h1,h2,i⟩
  exact⟨a,ha,by rw [ZJ,aQ];exact⟨YW ⟨h1,h2⟩,λt c=>(h t).mp (i t c)⟩⟩
theorem Vh{κ:Type} [DecidableEq κ](kvs:List (κ×AV))(k:κ)(v:AV):(E5 kvs k v).map (·.1)=if k∈kvs.map (·.1) then kvs.map (·.1) else kvs.map (·.1)++[k]:=by
 unfold E5
 by_cases h:k∈kvs.map (·.1)
 ·obtain⟨z,hz,e⟩:=D_.mp h
  rw [S_ h,S_ (aE.mpr ⟨z,hz,YW e⟩),YT]
  exact cZ λz _=>by show(if z.1=k then(z.1,v) else z).1=_;split <;> rfl
 ·rw [M_ h,M_,N_]
  ·rfl
  ·intro q
   obtain⟨z,hz,e⟩:=aE.mp q
   exact h (D_.mpr ⟨z,hz,YU e⟩)
theorem Vi{κ:Type} [DecidableEq κ](kvs:List (κ×AV))(k:κ):(Cg kvs k).isSome=decide (k∈kvs.map (·.1)):=by
 unfold Cg
 rw [fP,cV,List.find?_isSome,ZN,D_]
 exact⟨λ⟨x,hx,e⟩=>⟨x,hx,YU e⟩,λ⟨x,hx,e⟩=>⟨x,hx,YW e⟩⟩
def MD(n:Nat):Key:=.inl (n:Int)
theorem Ni{s:Nat}{ps:List Nat}:MD s∈ps.map MD↔s∈ps:=by
 constructor
 ·intro h
  obtain⟨z,hz,e⟩:=D_.mp h
  have:z=s:=by
   unfold MD at e
   have:=fI e
   omega
  rw [<- this];exact hz
 ·exact λh=>D_.mpr ⟨s,h,rfl⟩
def C9(μ:M)(b:jH)(ps:List Nat):Prop:=∃a,μ b=some (.dk a)/\a.map (·.1)=ps.map MD/\ps.Nodup
theorem C9.has{μ:M}{b:jH}{ps:List Nat}(h:C9 μ b ps):∃a,μ b=some (.dk a)/\∀t:Nat,∃r,dget (.dk a) (.int (t:Nat))=some r/\r.isSome=decide (t∈ps):=by
 obtain⟨a,e,k,_⟩:=h
 refine⟨a,e,λt=>⟨Cg a (MD t),rfl,?_⟩⟩
 rw [Vi,k]
 exact gL.mpr Ni
theorem C9.put{μ:M}{c:jH}{ps:List Nat}(p:Nat)(h:C9 μ c ps):∃a i d,μ c=some (.dk a)/\a.length=ps.length/\dput (.dk a) (.int (p:Nat)) (.D (.bool true))=some i/\(∀ μ2,C9 (An μ2 c i) c d)/\d.length<=ps.length+1/\∀s,s∈d↔s∈ps\/s=p:=by
 obtain⟨a,e,k,nd⟩:=h
 have b:=Vh a (MD p) (.D (.bool true))
 rw [k]at b
 have g:a.length=ps.length:=by rw [<- B_ (f:=(·.1)) (as:=a),k,B_]
 by_cases hp:p∈ps
 ·rw [S_ (Ni.mpr hp)]at b
  exact⟨a,_,ps,e,g,rfl,λ_=>⟨_,Ab,b,nd⟩,by omega,λs=>⟨.inl,λh=>h.elim id λz=>by rw [z];exact hp⟩⟩
 ·rw [M_ (λz=>hp (Ni.mp z))]at b
  refine⟨a,_,ps++[p],e,g,rfl,λ_=>⟨_,Ab,b.trans (by rw [N_];rfl),ZW.mpr ⟨nd,aO.mpr ⟨by simp,aA⟩,λz hz j m q=>?_⟩⟩,by simp,λs=>by simp⟩
  have l:j=p:=by simpa using m
  rw [q,l]at hz;exact hp hz
abbrev WP:List Str:=["arrows","reading","letter","above","arrow"]
theorem KL:FnScope WP ["arrows","reading","letter"] (Af JO):=⟨rfl,rfl,rfl,by decide +kernel,rfl,by decide +kernel,by decide +kernel⟩
theorem QX:(["target","reading"]:List Str).Nodup:=by decide +kernel
def QY:ASp:=λg μ R=>∃(A:List Arw) (e:jH) (c:List Nat) (x:Nat),g=[.D (.tuple (A.map Bb)),.R e,.D (.int (x:Nat))]/\A.length<=400/\(∀a∈A,a.ts.length<=400)/\C9 μ e c/\∀d b μ',C9 μ' d b->b.length<=400->(∀s,s∈b↔∃a∈A,Fits c x a s)->Sub μ μ'->R (.R d) μ'
theorem QZ{n:Nat}(F:Fun K "reading_with" "reading_with" JO f fd) (jh:mg "all" = none):FnOk P w K mg base Ea (n+1) f fd ["arrows","reading","letter"] (Fg K 3 QY):=by
 refine F.vok KL λau A outer s H E V=>⟨_,(Ae (Av (i:=3) KL.nd rfl (Or.inl rfl) Jp)
   (Ae (B6 ZD rfl (Bf (vv 0)) (Ai (i:=4) KL.nd rfl (Or.inl rfl)) (Aj (Db (VW.pt (E4 (Bk (Hh V) (Ap A7 (vv 4) Ah) (vv 2) (nomark _)) (Dn (C0 (Ba (NV rfl) rfl jh PyProof.Rows.boot_all (Aa (Bt (N':=["target","reading"]) (mp:=[none,some 1]) rfl (Bf (Ap A7 (vv 4) Ah)) (λ_ _ _ _=>(Ai (i:=0) QX rfl (Or.inl rfl) (Or.inr rfl))) (λ_ _ _ _=>Bp) (λ_ _ _ _=>(W7 (Cu V) (vv 0) (vv 1))) (Aw (N:=WP) (pn:=(Af JO).names) (by decide +kernel))) Ad)))))) (Aj (Ed (Cu V) (vv 3) (Ap A7 (vv 4) Ah) Ff)) B1)))
   (Aj (Be (vv 3))))),?_⟩
 rintro xs μ R _ ⟨A,C,l,x,rfl,hA,kA,J,q⟩
 obtain⟨X,er,hr1⟩:=J.has
 intro k T
 have xw:C≠k:=by rintro rfl;rw [er]at T;cases T
 refine A0 (fun τ μ'=>∃G d,τ=[some (.D (.tuple (A.map Bb))),some (.R C),some (.D (.int (x:Nat))),some (.R k),G]/\C9 μ' k d/\d.length<=400/\(∀s,s∈d↔∃a∈A,Fits l x a s)/\Sub μ μ') (λZ hZ=>?_) ?_
 ·refine Ac (Bx A) ?_
  refine Co (λi τ μ'=>∃G d,τ=[some (.D (.tuple (A.map Bb))),some (.R C),some (.D (.int (x:Nat))),some (.R k),G]/\C9 μ' k d/\d.length<=i/\(∀s,s∈d↔∃a∈A.take i,Fits l x a s)/\Sub μ μ') ⟨none,[],rfl,⟨[],Ab,rfl,aA⟩,I_ _,(λs=>by simp),Sub.refl.new T⟩ (λ_ _ _ _=>Bx A) ?_ ?_
  ·rintro i y τ μ1 Z2 hy ⟨G,d,rfl,z,Q,u,S⟩ hZ2
   rw [H_]at hy
   obtain⟨a,ha,rfl⟩:=F_.mp hy
   have hi:i < A.length:=(E_.mp ha).1
   have kA1:=kA a (U_ ha)
   have ba:A.take (i+1)=A.take i++[a]:=by rw [Y_,ha];rfl
   have M:=S C _ er
   have bm:(∀s,¬Fits l x a s)->∀s,s∈d↔∃a∈A.take (i+1),Fits l x a s:=λhn s=>by
    rw [u s,ba]
    constructor
    ·rintro⟨b,hb,e⟩;exact⟨b,YM _ hb,e⟩
    ·rintro⟨b,hb,e⟩
     rcases G_.mp hb with hb | hb
     ·exact⟨b,hb,e⟩
     ·rw [P_.mp hb]at e;exact absurd e (hn s)
   refine Ac (Ao (j:=1) rfl) (ieq (λc=>?_) (λc=>Lg rfl (hZ2 _ _ ⟨_,d,rfl,z,by omega,bm λs h=>c (by rw [h.2.1]),S⟩)))
   refine Ac KK (Ac (Bq a.ts) λv g=>?_)
   have wt:k≠v:=by rintro rfl;obtain⟨_,O,_⟩:=z;rw [O]at g;cases g
   have qb:C≠v:=by rintro rfl;rw [M]at g;cases g
   refine cmap a.ts _ (λt=>.D (.bool (decide (t∈l)))) (fun τ=>∃o,τ=[o,some (.R C)]) ⟨none,rfl⟩ Ab (seven (by omega)) (λ_=>Bq a.ts) ?_ ?_
   ·rintro j t τ' acc W hj ⟨o,rfl⟩ hW
    obtain⟨r,e1,e2⟩:=hr1 t
    refine Ac (x:=MO.dk X) (by rw [Ag qb,Ag qb];exact M) (Ac e1 ?_)
    rw [e2]
    exact hW _ ⟨_,rfl⟩
   ·dsimp only [BF]
    have ki:Sub μ (An (An μ1 v (.lst [])) v (.lst (a.ts.map λt=>.D (.bool (decide (t∈l)))))):=λb m hb=>by
     have h1:=S b m hb
     have b2:b≠v:=by rintro rfl;rw [h1]at g;cases g
     rw [Ag b2,Ag b2];exact h1
    have L:C9 (An (An μ1 v (.lst [])) v (.lst (a.ts.map λt=>.D (.bool (decide (t∈l)))))) k d:=by
     obtain⟨B,O,r⟩:=z
     exact⟨B,by rw [Ag wt,Ag wt];exact O,r⟩
    refine OF Ab (br (λc2=>?_) (λc2=>?_))
    ·have jf:Fits l x a a.p:=⟨rfl,by omega,λt ht=>YU ((aQ.mp c2) t ht)⟩
     obtain⟨B,m',m8,O,el,ep,U,hl3,Y⟩:=L.put a.p
     refine Ac (Ao (j:=0) rfl) (Ac O (Ac ep ⟨A5 (show B.length<=1000 by omega),hZ2 _ _ ⟨_,m8,rfl,U _,by omega,λs=>?_,λb m hb=>?_⟩⟩))
     ·rw [Y s,u s,ba]
      constructor
      ·rintro(⟨b,hb,e⟩ | rfl)
       ·exact⟨b,YM _ hb,e⟩
       ·exact⟨a,YO _ (by simp),jf⟩
      ·rintro⟨b,hb,e⟩
       rcases G_.mp hb with hb | hb
       ·exact .inl ⟨b,hb,e⟩
       ·rw [P_.mp hb]at e;exact .inr e.1.symm
     ·have b1:b≠k:=by rintro rfl;rw [T]at hb;cases hb
      rw [Ag b1];exact ki b m hb
    ·refine hZ2 _ _ ⟨_,d,rfl,L,by omega,bm λs h=>?_,ki⟩
     have I:(a.ts.all λt=>decide (t∈l))=false:=c2
     rw [aQ.mpr λt ht=>YW (h.2.2 t ht)]at I
     cases I
  ·rintro τ μ1 ⟨G,d,rfl,J,Q,u,S⟩
   rw [B_]at Q u
   rw [YY]at u
   exact hZ _ _ ⟨_,d,rfl,J,by omega,u,S⟩
 ·rintro τ μ1 ⟨G,d,rfl,J,Q,u,S⟩
  exact⟨_,Sub.refl,q k d _ J Q u S⟩
theorem DQ{W:List Nat}{i:Nat}{y:AV}(hy:((W.map λ(n:Nat)=>PyData.int n).map AV.D).reverse[i]?=some y):i < W.length/\∃x,W[W.length - 1 - i]?=some x/\y=.D (.int (x:Nat)):=by
 obtain⟨b,e⟩:=Mz hy
 rw [B_,B_]at b e
 rw [H_,H_]at e
 obtain⟨d,a,rfl⟩:=F_.mp e
 obtain⟨x,c,rfl⟩:=F_.mp a
 exact⟨b,x,c,rfl⟩
abbrev YF:List Str:=["arrows","ends","stand","pile","reading","end","letter"]
theorem Zd:FnScope YF ["arrows","ends","stand","pile"] (Af MA):=⟨rfl,rfl,rfl,by decide +kernel,rfl,by decide +kernel,by decide +kernel⟩
def DR:ASp:=λc μ R=>∃(A:List Arw) (b:List Nat) (s:Nat) (W:List Nat),c=[.D (.tuple (A.map Bb)),.D (Ax b),.D (.int (s:Nat)),.D (Ax W)]/\A.length<=400/\(∀a∈A,a.ts.length<=400)/\b.length<=400/\∀ μ',Sub μ μ'->R (.D (.bool (rd A b W s))) μ'
theorem RA{n:Nat}(F:Fun K "reads" "reads" MA f fd) (L:VCal P w K mg base n "reading_with" ["arrows","reading","letter"] QY) (cj:mg "reversed" = none):FnOk P w K mg base Ea (n+1) f fd ["arrows","ends","stand","pile"] (Fg K 4 DR):=by
 refine F.vok Zd λau A O s H E M=>⟨_,(Ae (Av (i:=4) Zd.nd rfl (Or.inl rfl) Jp)
   (Ae (B6 ZD rfl (Bf (vv 1)) (Ai (i:=5) Zd.nd rfl (Or.inl rfl)) (Aj (Ed (Cu M) (vv 4) (vv 5) Ff)))
   (Ae (B6 ZD rfl (IJ rfl cj (vv 3)) (Ai (i:=6) Zd.nd rfl (Or.inl rfl)) (Aj (Av (i:=4) Zd.nd rfl (Or.inl rfl) (Ak L M rfl (Aa (vv 0) (Aa (vv 4) (Aa (vv 6) Ad)))))))
   (Aj (Be (W7 (Cu M) (vv 2) (vv 4))))))),?_⟩
 rintro xs μ R _ ⟨A,a,s,W,rfl,hA,kA,he,q⟩
 intro d T
 refine A0 (fun τ μ'=>∃k c,τ=[some (.D (.tuple (A.map Bb))),some (.D (Ax a)),some (.D (.int (s:Nat))),some (.D (Ax W)),some (.R d),k,none]/\C9 μ' d c/\(∀t,t∈c↔t∈a)/\Sub μ μ') (λZ G=>?_) ?_
 ·refine Ac (Bq a) ?_
  refine Co (λi τ μ'=>∃k c,τ=[some (.D (.tuple (A.map Bb))),some (.D (Ax a)),some (.D (.int (s:Nat))),some (.D (Ax W)),some (.R d),k,none]/\C9 μ' d c/\c.length<=i/\(∀t,t∈c↔t∈a.take i)/\Sub μ μ') ⟨none,[],rfl,⟨[],Ab,rfl,aA⟩,I_ _,(λt=>by simp),Sub.refl.new T⟩ (λ_ _ _ _=>Bq a) ?_ ?_
  ·rintro i y τ μ1 Z2 hy ⟨k,c,rfl,j,hl,g,S⟩ hZ2
   rw [H_]at hy
   obtain⟨e,Q,rfl⟩:=F_.mp hy
   have hi:i < a.length:=(E_.mp Q).1
   obtain⟨v,m',V,J,el,ep,l,hl3,o⟩:=j.put e
   refine Ac J (Ac ep ⟨A5 (show v.length<=1000 by omega),hZ2 _ _ ⟨_,V,rfl,l _,by omega,λt=>?_,λb m hb=>?_⟩⟩)
   ·rw [o t,g t,Y_,Q,G_];simp
   ·have Y:b≠d:=by rintro rfl;rw [T]at hb;cases hb
    rw [Ag Y];exact S b m hb
  ·rintro τ μ1 ⟨k,c,rfl,j,hl,g,S⟩
   rw [B_,YY]at g
   exact G _ _ ⟨_,c,rfl,j,g,S⟩
 rintro τ μ1 ⟨k,C,rfl,z,N,S1⟩
 refine A0 (fun τ μ'=>∃p d c,τ=[some (.D (.tuple (A.map Bb))),some (.D (Ax a)),some (.D (.int (s:Nat))),some (.D (Ax W)),some (.R d),k,p]/\C9 μ' d c/\(∀t,t∈c↔rd A a W t=true)/\Sub μ μ') (λZ G=>?_) ?_
 ·refine Co (λi τ μ'=>∃p d c,τ=[some (.D (.tuple (A.map Bb))),some (.D (Ax a)),some (.D (.int (s:Nat))),some (.D (Ax W)),some (.R d),k,p]/\C9 μ' d c/\(∀t,t∈c↔rd A a (W.drop (W.length - i)) t=true)/\Sub μ μ') ⟨none,d,C,rfl,z,(λt=>by rw [N t,Nat.sub_zero,cD];exact(ZN).symm),S1⟩ (λ_ _ _ _=>trivial) ?_ ?_
  ·rintro i y τ μ2 Z2 hy ⟨p,h,c,rfl,j,g,u⟩ hZ2
   obtain⟨hi,x,ex,rfl⟩:=DQ hy
   have U:W.drop (W.length - (i+1))=x :: W.drop (W.length - i):=by
    obtain⟨h1,h2⟩:=E_.mp ex
    have B:W.length - (i+1)=W.length - 1 - i:=by omega
    have I:W.length - i=W.length - 1 - i+1:=by omega
    rw [B,I,ZU h1,h2]
   refine⟨A,h,c,x,rfl,hA,kA,j,λab ps μ3 l _ o S3=>hZ2 _ _ ⟨_,ab,ps,rfl,l,λt=>?_,λb m hb=>S3 b m (u b m hb)⟩⟩
   rw [o t,U]
   exact(DP g).symm
  ·rintro τ μ2 ⟨p,h,c,rfl,j,g,u⟩
   rw [List.length_reverse,B_,B_,iX,fS]at g
   exact G _ _ ⟨_,h,c,rfl,j,g,u⟩
 rintro τ μ2 ⟨p,h,c,rfl,j,g,u⟩
 obtain⟨v,J,X⟩:=j.has
 obtain⟨r,B,I⟩:=X s
 refine Ac J (Ac B ⟨_,Sub.refl,?_⟩)
 rw [I,show decide (s∈c)=rd A a W s by rw [cV,ZN];exact g s]
 exact q _ u
structure Say where
 own:Nat
 as:List Arw
 es:List Nat
def Bm(s:Say):jG:=.tuple [.int s.own,.tuple (s.as.map Bb),Ax s.es]
theorem Kn{α β:Type}{f:α->β}{B:List α}:∀{es:List β},(∀e∈es,e∈B.map f)->∃C:List α,es=C.map f/\∀c∈C,c∈B
 | [],_=>⟨[],rfl,λ_ z=>nomatch z⟩
 | e :: es,h=>by
  obtain⟨b,hb,rfl⟩:=D_.mp (h e (.head _))
  obtain⟨C,rfl,g⟩:=Kn λd a=>h d (.tail _ a)
  exact⟨b :: C,rfl,λc hc=>by
   rcases YV.mp hc with rfl | hc
   ·exact hb
   ·exact g c hc⟩
abbrev YG:List Str:=["saying","place","pile"]
theorem WA:FnScope YG ["saying","place","pile"] (Af MB):=⟨rfl,rfl,rfl,by decide +kernel,rfl,by decide +kernel,by decide +kernel⟩
structure SayLe(s:Say):Prop where
 a:s.as.length<=400
 t:∀a∈s.as,a.ts.length<=400
 e:s.es.length<=400
def DS:ASp:=λa μ R=>∃(s:Say) (p:Nat) (W:List Nat),a=[.D (Bm s),.D (.int p),.D (Ax W)]/\SayLe s/\∀ μ',Sub μ μ'->R (.D (.bool (rd s.as s.es W p))) μ'
theorem RB{n:Nat}(F:Fun K "is_in" "is_in" MB f fd) (g:VCal P w K mg base n "reads" ["arrows","ends","stand","pile"] DR):FnOk P w K mg base Ea (n+1) f fd ["saying","place","pile"] (Fg K 3 DS):=by
 refine F.vok WA λi A b s H E d=>⟨_,(Aj (Be (Ak g d rfl (Aa (Ap A7 (vv 0) Ah) (Aa (Ap A7 (vv 0) Ah) (Aa (vv 1) (Aa (vv 2) Ad))))))),?_⟩
 rintro h μ R _ ⟨S,p,W,rfl,c,q⟩
 exact Ac (Ao (j:=1) rfl) (Ac (Ao (j:=2) rfl) ⟨S.as,S.es,p,W,rfl,c.a,c.t,c.e,fun μ1 S1=>⟨_,Sub.refl,q _ S1⟩⟩)
theorem Ze{a b:List Nat}(h:Ax a=Ax b):a=b:=by
 unfold Ax at h
 rw [PyData.tuple.injEq]at h
 induction a generalizing b with
 | nil=>cases b with
  | nil=>rfl
  | cons y b=>cases h
 | cons x a c=>cases b with
  | nil=>cases h
  | cons y b =>
   simp only [List.map_cons,List.cons.injEq,PyData.int.injEq]at h
   rw [c h.2,show x=y by omega]
theorem Zf{a b:Arw}(h:Bb a=Bb b):a=b:=by
 obtain⟨p,x,ts,c⟩:=a
 obtain⟨k,j,i,e⟩:=b
 unfold Bb Ra at h
 rw [PyData.tuple.injEq]at h
 simp only [List.cons.injEq,PyData.int.injEq]at h
 obtain⟨h1,h2,g,d⟩:=h
 rw [show p=k by omega,show x=j by omega,Ze g]
 cases c with
 | none=>cases e with
  | none=>rfl
  | some _=>cases d
 | some u=>cases e with
  | none=>cases d
  | some v =>
   simp only [List.cons.injEq,PyData.int.injEq,and_true]at d
   rw [show u=v by omega]
def mv(np a t:Nat):Nat:=if t < np then t else t+a
def Sy(np b:Nat)(a:Arw):Arw:=⟨mv np b a.p,a.x,a.ts.map (mv np b),a.c⟩
def L8(np a:Nat)(s:Say):Say:=⟨s.own,s.as.map (Sy np a),s.es.map (mv np a)⟩
abbrev YH:List Str:=["places","stand","by"]
theorem WB:FnScope YH ["places","stand","by"] (Af LZ):=⟨rfl,rfl,rfl,by decide +kernel,rfl,by decide +kernel,by decide +kernel⟩
def RC:ASp:=λb μ R=>∃(np t a:Nat),b=[.D (.int np),.D (.int t),.D (.int a)]/\R (.D (.int (mv np a t:Nat))) μ
theorem RD{n:Nat}(F:Fun K "moved_stand" "moved_stand" LZ f fd):FnOk P w K mg base Ea (n+1) f fd ["places","stand","by"] (Fg K 3 RC):=by
 refine F.vok WB λg A a s H E e=>⟨_,(Aj (Be (Jk (Bk BJ (vv 1) (vv 0) (nomark _)) (vv 1) (Bd Cc (vv 1) (vv 2))))),?_⟩
 rintro d μ R _ ⟨h,t,b,rfl,q⟩
 unfold mv at q
 refine dif (λc=>⟨μ,Sub.refl,?_⟩) (λc=>⟨μ,Sub.refl,?_⟩)
 ·rw [S_ (by omega)]at q;exact q
 ·rw [M_ (by omega)]at q;exact q
theorem Ta(f:Nat->Nat)(ns:List Nat):(ns.map λn=>Ck (f n))=(ns.map f).map Ck:=by rw [YT];rfl
theorem RE{a b c:jG}{i j k:Nat}{τ:ASt}{μ:M}{R:ASt->M->Prop}(h:R (((τ.set i (some (.D a))).set j (some (.D b))).set k (some (.D c))) μ):Ec (Dh i) (Ec (Dh j) (Ec (Dh k) N3)) (List.map AV.D [a,b,c]) τ μ R:=h
abbrev WC:List Str:=["game","saying","by","places","arrows","stand","letter","targets","moved","ends"]
theorem Pc:FnScope WC ["game","saying","by"] (Af FE):=⟨rfl,rfl,rfl,by decide +kernel,rfl,by decide +kernel,by decide +kernel⟩
theorem RF:(["target","places","by"]:List Str).Nodup:=by decide +kernel
theorem RG:(["end","places","by"]:List Str).Nodup:=by decide +kernel
def KM:ASp:=λd μ R=>∃(g:Gq) (s:Say) (b:Nat),d=[.D (D5 g),.D (Bm s),.D (.int b)]/\SayLe s/\(∀a∈s.as,a.c=none)/\∀ μ',Sub μ μ'->R (.D (Bm (L8 g.pl.length b s))) μ'
theorem RH{n:Nat}(F:Fun K "numbered_behind" "numbered_behind" FE f fd) (m:VCal P w K mg base n "moved_stand" ["places","stand","by"] RC) (Y:mg "len" = none) (L:mg "tuple" = none):FnOk P w K mg base Ea (n+1) f fd ["game","saying","by"] (Fg K 3 KM):=by
 refine F.vok Pc λau A T s H E Q=>⟨_,(Ae (Av (i:=3) Pc.nd rfl (Or.inr rfl) (Ba Da rfl Y ZV (Aa (Ap A7 (vv 0) Ah) Ad)))
   (Ae (Av (i:=4) Pc.nd rfl (Or.inl rfl) (Bv Ad))
   (Ae (B6 ZD rfl (Bf (Ap A7 (vv 1) Ah)) (Dl (n:=3) rfl (Aq (Ai (i:=5) Pc.nd rfl (Or.inl rfl)) (Aq (Ai (i:=6) Pc.nd rfl (Or.inl rfl)) (Aq (Ai (i:=7) Pc.nd rfl (Or.inl rfl)) B0)))) (Ae (Av (i:=8) Pc.nd rfl (Or.inl rfl) (Bu Cp rfl L ZT (Aa (Bt (N':=["target","places","by"]) (mp:=[none,some 3,some 2]) rfl (Bf (vv 7)) (λ_ _ _ _=>(Ai (i:=0) RF rfl (Or.inl rfl) (Or.inr rfl))) (λ_ _ _ _=>Bp) (λ_ _ _ _=>(Ak m Q rfl (Aa (vv 1) (Aa (vv 0) (Aa (vv 2) Ad))))) (Aw (N:=WC) (pn:=(Af FE).names) (by decide +kernel))) Ad)))
   (Aj (B2 (Eb aJ aK Dg (vv 4) (Aa (Bl (Aa (Ak m Q rfl (Aa (vv 3) (Aa (vv 5) (Aa (vv 2) Ad)))) (Aa (vv 6) (Aa (vv 8) Ad)))) Ad))))))
   (Ae (C7 (i:=9) (N':=["end","places","by"]) (mp:=[none,some 3,some 2]) rfl Pc.nd rfl rfl (Bf (Ap A7 (vv 1) Ah)) (λ_ _ _ _=>(Ai (i:=0) RG rfl (Or.inl rfl) (Or.inr rfl))) (λ_ _ _ _=>Bp) (λ_ _ _ _=>(Ak m Q rfl (Aa (vv 1) (Aa (vv 0) (Aa (vv 2) Ad))))) (Aw (N:=WC) (pn:=(Af FE).names) (by decide +kernel)))
   (Aj (Be (Bl (Aa (Ap A7 (vv 1) Ah) (Aa (Bu Cp rfl L ZT (Aa (vv 4) Ad)) (Aa (Bu Cp rfl L ZT (Aa (vv 9) Ad)) Ad)))))))))),?_⟩
 rintro xs μ R _ ⟨g,S,b,rfl,U,hc,q⟩
 have hA:=U.a
 have hE:=U.e
 refine A0 (fun τ μ'=>τ=[some (.D (D5 g)),some (.D (Bm S)),some (.D (.int b)),some (.D (.int g.pl.length)),none,none,none,none,none,none]/\μ=μ') (λZ C=>?_) ?_
 ·refine Ac (Ao (j:=0) rfl) (C _ _ ⟨?_,rfl⟩)
  rw [B_];rfl
 rintro τ _ ⟨rfl,rfl⟩
 intro d B
 refine A0 (fun τ μ'=>∃r v z u,τ=[some (.D (D5 g)),some (.D (Bm S)),some (.D (.int b)),some (.D (.int g.pl.length)),some (.R d),r,v,z,u,none]/\μ' d=some (.lst ((S.as.map (Sy g.pl.length b)).map λa=>.D (Bb a)))/\Sub μ μ') (λZ C=>?_) ?_
 ·refine Ac (Ao (j:=1) rfl) (Ac (Bx S.as) ?_)
  refine Co (λi τ μ'=>∃r v z u,τ=[some (.D (D5 g)),some (.D (Bm S)),some (.D (.int b)),some (.D (.int g.pl.length)),some (.R d),r,v,z,u,none]/\μ' d=some (.lst (((S.as.take i).map (Sy g.pl.length b)).map λa=>.D (Bb a)))/\Sub μ μ') ⟨none,none,none,none,rfl,Ab,Sub.refl.new B⟩ (λ_ _ _ _=>Bx S.as) ?_ ?_
  ·rintro i y τ μ1 Z2 hy ⟨r,v,z,u,rfl,l,h⟩ hZ2
   rw [H_]at hy
   obtain⟨a,ha,rfl⟩:=F_.mp hy
   have hi:i < S.as.length:=(E_.mp ha).1
   have X:=U_ ha
   have ba:S.as.take (i+1)=S.as.take i++[a]:=by rw [Y_,ha];rfl
   have V:=hc a X
   have oe:=U.t a X
   obtain⟨p,x,ts,c⟩:=a
   dsimp only at V oe
   subst V
   refine⟨rfl,RE ?_⟩
   dsimp only [List.set]
   refine A0 (fun τ μ'=>τ=[some (.D (D5 g)),some (.D (Bm S)),some (.D (.int b)),some (.D (.int g.pl.length)),some (.R d),some (.D (.int p)),some (.D (.int x)),some (.D (Ax ts)),some (.D (Ax (ts.map (mv g.pl.length b)))),none]/\μ' d=some (.lst (((S.as.take i).map (Sy g.pl.length b)).map λa=>.D (Bb a)))/\Sub μ μ') (λZ3 bg=>?_) ?_
   ·refine Ac (Bq ts) λI k=>?_
    have G:d≠I:=by rintro rfl;rw [l]at k;cases k
    refine cmap ts _ (λt=>Ck (mv g.pl.length b t)) (fun τ=>∃o,τ=[o,some (.D (.int g.pl.length)),some (.D (.int b))]) ⟨none,rfl⟩ Ab (seven (by omega)) (λ_=>Bq ts) ?_ ?_
    ·rintro j t τ' acc W hj ⟨o,rfl⟩ hW
     exact⟨g.pl.length,t,b,rfl,hW _ ⟨_,rfl⟩⟩
    ·rw [Ta]
     exact Ac (Al Ab) (Ac (D4 _) (bg _ _ ⟨rfl,by rw [Ag G,Ag G];exact l,(h.new (h.none k)).new (h.none k)⟩))
   rintro τ μ2 ⟨rfl,J,O⟩
   refine⟨Ac J trivial,g.pl.length,p,b,rfl,Ac J ⟨A5 (by simp only [List.length_map,List.length_take];omega),hZ2 _ _ ⟨_,_,_,_,rfl,?_,O.new B⟩⟩⟩
   rw [Ab,ba,N_,N_];rfl
  ·rintro τ μ1 ⟨r,v,z,u,rfl,l,h⟩
   rw [B_,YY]at l
   exact C _ _ ⟨_,_,_,_,rfl,l,h⟩
 rintro τ μ1 ⟨r,v,z,u,rfl,l,h⟩
 refine A0 (fun τ μ'=>∃M,τ=[some (.D (D5 g)),some (.D (Bm S)),some (.D (.int b)),some (.D (.int g.pl.length)),some (.R d),r,v,z,u,some (.R M)]/\μ' d=some (.lst ((S.as.map (Sy g.pl.length b)).map λa=>.D (Bb a)))/\μ' M=some (.lst ((S.es.map (mv g.pl.length b)).map Ck))/\Sub μ μ') (λZ C=>?_) ?_
 ·refine Ac (Ao (j:=2) rfl) (Ac (Bq S.es) λI k=>?_)
  have G:d≠I:=by rintro rfl;rw [l]at k;cases k
  refine cmap S.es _ (λt=>Ck (mv g.pl.length b t)) (fun τ=>∃o,τ=[o,some (.D (.int g.pl.length)),some (.D (.int b))]) ⟨none,rfl⟩ Ab (seven (by omega)) (λ_=>Bq S.es) ?_ ?_
  ·rintro j t τ' acc W hj ⟨o,rfl⟩ hW
   exact⟨g.pl.length,t,b,rfl,hW _ ⟨_,rfl⟩⟩
  ·rw [Ta]
   exact C _ _ ⟨I,rfl,by rw [Ag G,Ag G];exact l,Ab,(h.new (h.none k)).new (h.none k)⟩
 rintro τ μ2 ⟨M,rfl,J,f2,O⟩
 refine Ac (Ao (j:=0) rfl) (Ac (Al J) (Ac (Km _) (Ac (Al f2) (Ac (D4 _) ⟨_,Sub.refl,q _ O⟩))))
def sm(a b:Arw):Bool:=decide (b.p=a.p/\b.x=a.x)
def jn(a b:Arw):Arw:=⟨a.p,a.x,a.ts++b.ts,none⟩
def FK(np:Nat)(B:List Arw)(a:Arw):List Arw:=if a.p < np then(B.filter (sm a)).map (jn a) else []
def prs(np:Nat)(A B:List Arw):List Arw:=A.flatMap (FK np B)
theorem Pd(np:Nat)(A:List Arw)(a:Arw)(B:List Arw):prs np (A++[a]) B=prs np A B++FK np B a:=by
 unfold prs
 rw [fA,List.flatMap_singleton]
theorem Zg(np:Nat)(A B:List Arw)(i:Nat):(prs np (A.take i) B).length<=(prs np A B).length:=by
 conv=>rhs;rw [<- eQ i A]
 unfold prs
 rw [fA,L_];omega
theorem RI(a b:Arw):PyData.eqv (.tuple [.int b.p,.int b.x]) (.tuple [.int a.p,.int a.x])=sm a b:=by
 show(decide ((b.p:Int)=a.p) && (decide ((b.x:Int)=a.x) && true))=_
 unfold sm
 rw [Bool.and_true,<- Bool.decide_and]
 exact gL.mpr ⟨λh=>⟨by omega,by omega⟩,λh=>⟨by omega,by omega⟩⟩
theorem Zh(a b:Int):Cd (.tuple [.int a,.int b]):=⟨rfl,by simp [PyData.depth,PyData.depthAll]⟩
abbrev WD:List Str:=["places","arrows","seconds","told","stand","letter","targets","beside"]
theorem Vj:FnScope WD ["places","arrows","seconds"] (Af FF):=⟨rfl,rfl,rfl,by decide +kernel,rfl,by decide +kernel,by decide +kernel⟩
theorem RJ:(["second","stand","letter"]:List Str).Nodup:=by decide +kernel
theorem RK:(["others","stand","letter","targets"]:List Str).Nodup:=by decide +kernel
def RL:ASp:=λb μ R=>∃(np:Nat) (A B:List Arw),b=[.D (.int np),.D (.tuple (A.map Bb)),.D (.tuple (B.map Bb))]/\A.length<=400/\B.length<=400/\(∀a∈A,a.c=none/\a.ts.length<=400)/\(∀a∈B,a.c=none/\a.ts.length<=400)/\(prs np A B).length<=900/\∀p μ',μ p=none->μ' p=some (.lst ((prs np A B).map λa=>.D (Bb a)))->Sub μ μ'->R (.R p) μ'
theorem RM{n:Nat}(F:Fun K "arrows_of_places" "arrows_of_places" FF f fd):FnOk P w K mg base Ea (n+1) f fd ["places","arrows","seconds"] (Fg K 3 RL):=by
 refine F.vok Vj λau A T s H E hr=>⟨_,(Ae (Av (i:=3) Vj.nd rfl (Or.inl rfl) (Bv Ad))
   (Ae (B6 ZD rfl (Bf (vv 1)) (Dl (n:=3) rfl (Aq (Ai (i:=4) Vj.nd rfl (Or.inr rfl)) (Aq (Ai (i:=5) Vj.nd rfl (Or.inr rfl)) (Aq (Ai (i:=6) Vj.nd rfl (Or.inr rfl)) B0)))) (Aj (Db (Bk BJ (vv 4) (vv 0) (nomark _)) (Ae (C7 (i:=7) (N':=["second","stand","letter"]) (mp:=[none,some 4,some 5]) rfl Vj.nd rfl rfl (Bf (vv 2)) (λ_ _ _ _=>(Ai (i:=0) RJ rfl (Or.inl rfl) (Or.inr rfl))) (λ_ _ _ _=>(C1 (Bk (Hh hr) (Eo (vv 0) Fv (Fw Ah)) (Bl (Aa (vv 1) (Aa (vv 2) Ad))) (nomark _)))) (λ_ _ _ _=>(Ap A7 (vv 0) Ah)) (Aw (N:=WD) (pn:=(Af FF).names) (by decide +kernel)))
   (Aj (B2 (Eb bI bJ Ep (vv 3) (Aa (Bt (N':=["others","stand","letter","targets"]) (mp:=[none,some 4,some 5,some 6]) rfl (Bf (vv 7)) (λ_ _ _ _=>(Ai (i:=0) RK rfl (Or.inl rfl) (Or.inr rfl))) (λ_ _ _ _=>Bp) (λ_ _ _ _=>(Bl (Aa (vv 1) (Aa (vv 2) (Aa (Bd Cc (vv 3) (vv 0)) Ad))))) (Aw (N:=WD) (pn:=(Af FF).names) (by decide +kernel))) Ad))))) B1)))
   (Aj (Be (vv 3))))),?_⟩
 rintro xs μ R _ ⟨d,A,B,rfl,hA,hB,kA,Y,hn,q⟩
 intro h Q
 refine A0 (fun τ μ'=>∃u t v r,τ=[some (.D (.int d)),some (.D (.tuple (A.map Bb))),some (.D (.tuple (B.map Bb))),some (.R h),u,t,v,r]/\μ' h=some (.lst ((prs d A B).map λa=>.D (Bb a)))/\Sub μ μ') (λZ hZ=>?_) ?_
 ·refine Ac (Bx A) ?_
  refine Co (λi τ μ'=>∃u t v r,τ=[some (.D (.int d)),some (.D (.tuple (A.map Bb))),some (.D (.tuple (B.map Bb))),some (.R h),u,t,v,r]/\μ' h=some (.lst ((prs d (A.take i) B).map λa=>.D (Bb a)))/\Sub μ μ') ⟨none,none,none,none,rfl,Ab,Sub.refl.new Q⟩ (λ_ _ _ _=>Bx A) ?_ ?_
  ·rintro i y τ μ1 Z2 hy ⟨u,t,v,r,rfl,k,l⟩ hZ2
   rw [H_]at hy
   obtain⟨a,ha,rfl⟩:=F_.mp hy
   have hi:i < A.length:=(E_.mp ha).1
   have V:=U_ ha
   have ba:A.take (i+1)=A.take i++[a]:=by rw [Y_,ha];rfl
   have U:=(kA a V).1
   have oe:=(kA a V).2
   have ag:=Zg d A B (i+1)
   rw [ba,Pd,L_]at ag
   have X:(prs d (A.take (i+1)) B)=prs d (A.take i) B++FK d B a:=by rw [ba,Pd]
   have m:FK d B a=if a.p < d then(B.filter (sm a)).map (jn a) else []:=rfl
   obtain⟨p,x,ts,c⟩:=a
   dsimp only at U oe
   subst U
   refine⟨rfl,RE ?_⟩
   dsimp only [List.set]
   refine dif (λc=>?_) (λc=>hZ2 _ _ ⟨_,_,_,_,rfl,?_,l⟩)
   ·rw [S_ (show p < d by omega)]at m
    refine A0 (fun τ μ'=>∃M,τ=[some (.D (.int d)),some (.D (.tuple (A.map Bb))),some (.D (.tuple (B.map Bb))),some (.R h),some (.D (.int p)),some (.D (.int x)),some (.D (Ax ts)),some (.R M)]/\μ' M=some (.lst ((B.filter (sm ⟨p,x,ts,none⟩)).map λb=>.D (Ax b.ts)))/\μ' h=some (.lst ((prs d (A.take i) B).map λa=>.D (Bb a)))/\Sub μ μ') (λZ3 bg=>?_) ?_
    ·refine Ac (Bx B) λG g=>?_
     have C:h≠G:=by rintro rfl;rw [k]at g;cases g
     refine cmapf B (λb=>.D (Bb b)) (sm ⟨p,x,ts,none⟩) (λb=>.D (Ax b.ts)) (fun τ=>∃o,τ=[o,some (.D (.int p)),some (.D (.int x))]) ⟨none,rfl⟩ Ab (seven (by omega)) (λ_=>Bx B) ?_ ?_
     ·rintro j b τ' acc W W2 hj ⟨o,rfl⟩ h1 h2
      have e:=RI ⟨p,x,ts,none⟩ b
      have z:=(Y b (U_ hj)).1
      obtain⟨bp,bx,bt,bc⟩:=b
      dsimp only at z
      subst z
      exact⟨Zh bp bx,Zh p x,br (λc=>Ac (Ao (j:=2) rfl) (h1 (e.symm.trans c) _ ⟨_,rfl⟩)) (λc=>h2 (e.symm.trans c) _ ⟨_,rfl⟩)⟩
     ·exact bg _ _ ⟨G,rfl,Ab,by rw [Ag C,Ag C];exact k,(l.new (l.none g)).new (l.none g)⟩
    rintro τ μ2 ⟨M,rfl,J,O,S⟩
    have lg:=ZM (sm ⟨p,x,ts,none⟩) B
    have I:∀b∈B.filter (sm ⟨p,x,ts,none⟩),b.c=none/\b.ts.length<=400:=λb hb=>Y b (ZC.mp hb).1
    generalize B.filter (sm ⟨p,x,ts,none⟩)=L at J lg I m
    refine⟨Ac O trivial,Ac (Al J) λG g=>?_⟩
    have xn:M≠G:=by rintro rfl;rw [J]at g;cases g
    have C:h≠G:=by rintro rfl;rw [O]at g;cases g
    refine cmap L _ (λb=>.D (Bb (jn ⟨p,x,ts,none⟩ b))) (fun τ=>∃o,τ=[o,some (.D (.int p)),some (.D (.int x)),some (.D (Ax ts))]) ⟨none,rfl⟩ Ab (seven (by omega)) (λ_=>Al (by rw [Ag xn,Ag xn];exact J)) ?_ ?_
    ·rintro j b τ' acc W hj ⟨o,rfl⟩ hW
     have hbt:=(I b (U_ hj)).2
     refine⟨by simp only [List.length_map];exact seven (by omega),?_⟩
     have:=hW [some (.D (Ax b.ts)),some (.D (.int p)),some (.D (.int x)),some (.D (Ax ts))] ⟨_,rfl⟩
     have ej:Bb (jn ⟨p,x,ts,none⟩ b)=.tuple [.int p,.int x,.tuple ((ts.map λ(n:Nat)=>PyData.int n)++b.ts.map λ(n:Nat)=>PyData.int n)]:=by
      unfold jn Bb Ra Ax
      rw [N_]
     rw [ej]at this
     exact this
    ·have fh:(FK d B ⟨p,x,ts,none⟩).length=L.length:=by rw [m,B_]
     refine Ac (x:=MO.lst ((prs d (A.take i) B).map λa=>.D (Bb a))) (by rw [Ag C,Ag C];exact O) (Ac Ab ⟨seven (by rw [B_,B_];omega),hZ2 _ _ ⟨_,_,_,_,rfl,?_,?_⟩⟩)
     ·rw [Ab,X,m,N_,YT];rfl
     ·exact((S.new (S.none g)).new (S.none g)).new Q
   ·rw [M_ (show ¬p < d by omega)]at m
    rw [X,m,aY];exact k
  ·rintro τ μ1 ⟨u,t,v,r,rfl,k,l⟩
   rw [B_,YY]at k
   exact hZ _ _ ⟨_,_,_,_,rfl,k,l⟩
 rintro τ μ1 ⟨u,t,v,r,rfl,k,l⟩
 exact⟨_,Sub.refl,q h _ Q k l⟩
theorem Pe{B:List Arw}(i:B.length < 300)(hc:∀a∈B,a.c=none):TOk (B.map Bb):=by
 refine⟨by rw [B_];omega,λd g=>?_,λd g=>?_,λd g e he=>?_⟩
 ·obtain⟨a,ha,rfl⟩:=D_.mp g
  obtain⟨h1,h2,h⟩:=Zc a
  exact⟨h,h1,by omega⟩
 ·obtain⟨a,ha,rfl⟩:=D_.mp g
  exact⟨a.p,_,rfl⟩
 ·obtain⟨a,ha,rfl⟩:=D_.mp g
  obtain⟨b,hb,rfl⟩:=D_.mp he
  exact Sw (by rw [hc a ha,hc b hb])
theorem L9:∀{a:List Int},(∀n∈a,∃e:Nat,n=e)->a=(a.map Int.toNat).map λ(n:Nat)=>(n:Int)
 | [],_=>rfl
 | m :: a,h=>by
  obtain⟨e,rfl⟩:=h m (.head _)
  rw [ZH,ZH,<- L9 λn b=>h n (.tail _ b),bU]
abbrev YI:List Str:=["many","arrows","ends"]
theorem WE:FnScope YI ["many","arrows","ends"] (Af LY):=⟨rfl,rfl,rfl,by decide +kernel,rfl,by decide +kernel,by decide +kernel⟩
def KN:ASp:=λg μ R=>∃(d:Nat) (x y:AV) (L:List Arw) (b:List Nat),g=[.D (.int d),x,y]/\items μ x=some (L.map λa=>.D (Bb a))/\items μ y=some (b.map Ck)/\L.length < 300/\b.length < 60/\(∀a∈L,a.c=none)/\∀C F μ',(C.map Bb).Nodup->(∀a,a∈C↔a∈L)->F.Nodup->(∀e,e∈F↔e∈b)->Sub μ μ'->R (.D (Bm ⟨d,C,F⟩)) μ'
theorem RN{n:Nat}(F:Fun K "sorted_saying" "sorted_saying" LY f fd) (t:mg "tuple" = none) (u:mg "sorted" = none) (v:mg "set" = none):FnOk P w K mg base Ea (n+1) f fd ["many","arrows","ends"] (Fg K 3 KN):=by
 refine F.vok WE λX A m s H E z=>⟨_,(Aj (Be (Bl (Aa (vv 0) (Aa (Bu Cp rfl t ZT (Aa (Kj z rfl u rfl v (vv 1)) Ad)) (Aa (Bu Cp rfl t ZT (Aa (Ys z rfl u rfl v (vv 2)) Ad)) Ad)))))),?_⟩
 rintro U μ R _ ⟨W,x,y,L,M,rfl,J,Q,I,S,hc,q⟩
 refine Ac J (Ac (Km L) ⟨Pe I hc,λV p hnd o hp=>?_⟩)
 obtain⟨C,rfl,O⟩:=Kn (f:=Bb) (B:=L) λe he=>(o e).mp he
 have g:∀a,a∈C↔a∈L:=λa=>⟨O a,λh=>by
  obtain⟨b,hb,e⟩:=D_.mp ((o (Bb a)).mpr (D_.mpr ⟨a,h,rfl⟩))
  rw [<- Zf e];exact hb⟩
 have d:Sub μ (An μ p (.lst ((C.map Bb).map .D))):=Sub.refl.new hp
 refine Ac (Al Ab) (Ac (Cb _) (Ac (B8 Q d) ⟨M.map λ(n:Nat)=>(n:Int),?_,by rw [B_];exact S,λl G N j c=>?_⟩))
 ·rw [YT];rfl
 have k:∀n∈G,∃e:Nat,n=e:=λn T=>by
  obtain⟨e,_,rfl⟩:=D_.mp ((c n).mp T)
  exact⟨e,rfl⟩
 have r:=L9 k
 generalize G.map Int.toNat=Fs at r
 subst r
 rw [show(Fs.map λ(n:Nat)=>(n:Int)).map (λn=>AV.D (.int n))=Fs.map Ck by rw [YT];rfl]
 refine Ac (Al Ab) (Ac (D4 Fs) ⟨_,Sub.refl,q C Fs _ hnd g ?_ (λe=>?_) (d.new (d.none N))⟩)
 ·exact(cQ.mp j).imp λh e=>h (bB _ e)
 ·have:=c (e:Int)
  constructor
  ·intro h
   obtain⟨i,h1,h2⟩:=D_.mp (this.mp (D_.mpr ⟨e,h,rfl⟩))
   rw [show e=i by omega];exact h1
  ·intro h
   obtain⟨i,h1,h2⟩:=D_.mp (this.mpr (D_.mpr ⟨e,h,rfl⟩))
   rw [show e=i by omega];exact h1
end
section
variable {P:jJ}{w:jK}{K:jI}{mg:Str->Option i_}{base:jN}{f:jH}{fd:jQ}
structure Gd(np:Nat)(s:Say):Prop where
 t:∀a∈s.as,∀t∈a.ts,np<=t/\t < np+s.own
 p:∀a∈s.as,a.p < np+s.own
 c:∀a∈s.as,a.c=none
 e:∀e∈s.es,e < np+s.own
def Kq(np:Nat)(s t:Say):List Arw:=s.as++(L8 np s.own t).as
def Ja(np:Nat)(s t:Say):List Nat:=s.es++(L8 np s.own t).es
def DT(np:Nat)(a:Arw):Bool:=decide (np<=a.p)
def Pk(np:Nat)(s t:Say):List Arw:=(Kq np s t).filter (DT np)++prs np s.as (L8 np s.own t).as
def KO(np:Nat)(s t:Say)(e:Nat):Bool:=decide (np<=e) || (decide (e∈s.es) && decide (e∈(L8 np s.own t).es))
def Pl(np:Nat)(s t:Say):List Nat:=(Ja np s t).filter (KO np s t)
structure Jn(np:Nat)(L:List Arw)(Es:List Nat)(s t j:Say):Prop where
 o:j.own=s.own+t.own
 a:∀a,a∈j.as↔a∈L
 e:∀e,e∈j.es↔e∈Es
theorem Ge{np b t:Nat}(h:np<=t):mv np b t=t+b:=by unfold mv;rw [M_ (by omega)]
theorem Tb{np b t:Nat}(h:t < np):mv np b t=t:=by unfold mv;rw [S_ h]
theorem D7{A:List Arw}{b w:List Nat}{x q:Nat}:rd A b (x :: w) q=true↔∃a∈A,a.p=q/\a.x=x/\∀t∈a.ts,rd A b w t=true:=by
 rw [rd,aE]
 constructor
 ·rintro⟨a,ha,e⟩
  rw [ZJ,aQ]at e
  have c:=YU e.1
  exact⟨a,ha,c.1,c.2,e.2⟩
 ·rintro⟨a,ha,h1,h2,d⟩
  exact⟨a,ha,by rw [ZJ,aQ];exact⟨YW ⟨h1,h2⟩,d⟩⟩
theorem D8{A:List Arw}{a:List Nat}{q:Nat}:rd A a [] q=true↔q∈a:=ZN
section
variable {np:Nat}{s t j:Say}{L:List Arw}{Es:List Nat}
structure Cm(np:Nat)(s t:Say)(L:List Arw)(Es:List Nat):Prop where
 a:∀a,np<=a.p->(a∈L↔a∈Kq np s t)
 e:∀e,np<=e->(e∈Es↔e∈Ja np s t)
theorem Eg{b:Nat}{a:Arw}:a∈(L8 np b t).as↔∃c∈t.as,Sy np b c=a:=D_
theorem Ma{b e:Nat}:e∈(L8 np b t).es↔∃c∈t.es,mv np b c=e:=D_
theorem Vk(J:Jn np L Es s t j)(C:Cm np s t L Es)(d:Gd np s)(k:Gd np t):∀(w:List Nat) (q:Nat),np<=q->q < np+s.own->(rd j.as j.es w q=true↔rd s.as s.es w q=true)
 | [],q,h1,h2=>by
  rw [D8,D8,J.e,C.e q h1]
  unfold Ja
  rw [G_,Ma]
  refine⟨λh=>h.elim id ?_,.inl⟩
  rintro⟨c,hc,e⟩
  unfold mv at e
  split at e <;> omega
 | x :: w,q,h1,h2=>by
  rw [D7,D7]
  constructor
  ·rintro⟨a,ha,b,i,g⟩
   rw [J.a,C.a a (by omega)]at ha
   rcases G_.mp ha with ha | ha
   ·exact⟨a,ha,b,i,λu hu=>(Vk J C d k w u (d.t a ha u hu).1 (d.t a ha u hu).2).mp (g u hu)⟩
   ·obtain⟨c,hc,rfl⟩:=Eg.mp ha
    have b:mv np s.own c.p=q:=b
    unfold mv at b
    split at b <;> omega
  ·rintro⟨a,ha,b,i,g⟩
   exact⟨a,(J.a a).mpr ((C.a a (by omega)).mpr (YM _ ha)),b,i,λu hu=>(Vk J C d k w u (d.t a ha u hu).1 (d.t a ha u hu).2).mpr (g u hu)⟩
theorem Vl(J:Jn np L Es s t j)(C:Cm np s t L Es)(g:Gd np s)(i:Gd np t):∀(w:List Nat) (q:Nat),np<=q->(rd j.as j.es w (q+s.own)=true↔rd t.as t.es w q=true)
 | [],q,h1=>by
  rw [D8,D8,J.e,C.e _ (by omega)]
  unfold Ja
  rw [G_,Ma]
  constructor
  ·rintro(h | ⟨c,hc,e⟩)
   ·have:=g.e _ h
    omega
   ·have:c=q:=by unfold mv at e;split at e <;> omega
    rw [<- this];exact hc
  ·intro h
   exact .inr ⟨q,h,Ge h1⟩
 | x :: w,q,h1=>by
  rw [D7,D7]
  constructor
  ·rintro⟨a,ha,b,m,l⟩
   rw [J.a,C.a a (by omega)]at ha
   rcases G_.mp ha with ha | ha
   ·have:=g.p a ha
    omega
   ·obtain⟨c,hc,rfl⟩:=Eg.mp ha
    have b:mv np s.own c.p=q+s.own:=b
    refine⟨c,hc,by unfold mv at b;split at b <;> omega,m,λu hu=>?_⟩
    have d:=(i.t c hc u hu).1
    have:=l (mv np s.own u) (D_.mpr ⟨u,hu,rfl⟩)
    rw [Ge d]at this
    exact(Vl J C g i w u d).mp this
  ·rintro⟨c,hc,b,m,l⟩
   refine⟨Sy np s.own c,(J.a _).mpr ((C.a _ ?_).mpr (YO _ (Eg.mpr ⟨c,hc,rfl⟩))),?_,m,λu hu=>?_⟩
   ·show np<=mv np s.own c.p
    rw [Ge (by omega)];omega
   ·show mv np s.own c.p=q+s.own
    rw [Ge (by omega),b]
   ·obtain⟨k,d,rfl⟩:=D_.mp hu
    have h2:=(i.t c hc k d).1
    rw [Ge h2]
    exact(Vl J C g i w k h2).mpr (l k d)
theorem Tc:Cm np s t (Kq np s t) (Ja np s t):=⟨λ_ _=>Iff.rfl,λ_ _=>Iff.rfl⟩
theorem E9{A B:List Arw}{a:Arw}:a∈prs np A B↔∃b∈A,b.p < np/\∃c∈B,c.p=b.p/\c.x=b.x/\jn b c=a:=by
 unfold prs
 rw [aR]
 constructor
 ·rintro⟨b,hb,h⟩
  unfold FK at h
  split at h
  ·rename_i hp
   obtain⟨c,hc,e⟩:=D_.mp h
   obtain⟨h1,h2⟩:=ZC.mp hc
   have h2:=YU h2
   exact⟨b,hb,hp,c,h1,h2.1,h2.2,e⟩
  ·cases h
 ·rintro⟨b,hb,hp,c,hc,d,g,e⟩
  refine⟨b,hb,?_⟩
  unfold FK
  rw [S_ hp]
  exact D_.mpr ⟨c,ZC.mpr ⟨hc,YW ⟨d,g⟩⟩,e⟩
theorem Td:Cm np s t (Pk np s t) (Pl np s t):=by
 refine⟨λa ha=>?_,λe he=>?_⟩
 ·unfold Pk
  rw [G_,ZC]
  constructor
  ·rintro(h | h)
   ·exact h.1
   ·obtain⟨b,hb,hp,c,hc,d,g,rfl⟩:=E9.mp h
    have:np<=b.p:=ha
    omega
  ·intro h
   exact .inl ⟨h,YW ha⟩
 ·unfold Pl
  rw [ZC]
  exact⟨λh=>h.1,λh=>⟨h,by unfold KO;rw [YW he];rfl⟩⟩
theorem Nj(J:Jn np (Kq np s t) (Ja np s t) s t j)(d:Gd np s)(i:Gd np t)(w:List Nat)(q:Nat)(hq:q < np):rd j.as j.es w q=(rd s.as s.es w q || rd t.as t.es w q):=by
 rw [cV,cU]
 cases w with
 | nil =>
  rw [D8,D8,D8,J.e]
  unfold Ja
  rw [G_,Ma]
  refine or_congr Iff.rfl ⟨?_,λh=>⟨q,h,Tb hq⟩⟩
  rintro⟨c,hc,e⟩
  have:c=q:=by unfold mv at e;split at e <;> omega
  rw [<- this];exact hc
 | cons x w =>
  rw [D7,D7,D7]
  constructor
  ·rintro⟨a,ha,b,k,g⟩
   rw [J.a]at ha
   rcases G_.mp ha with ha | ha
   ·exact .inl ⟨a,ha,b,k,λu hu=>(Vk J Tc d i w u (d.t a ha u hu).1 (d.t a ha u hu).2).mp (g u hu)⟩
   ·obtain⟨c,hc,rfl⟩:=Eg.mp ha
    have b:mv np s.own c.p=q:=b
    refine .inr ⟨c,hc,by unfold mv at b;split at b <;> omega,k,λu hu=>?_⟩
    have l:=(i.t c hc u hu).1
    have:=g (mv np s.own u) (D_.mpr ⟨u,hu,rfl⟩)
    rw [Ge l]at this
    exact(Vl J Tc d i w u l).mp this
  ·rintro(⟨a,ha,b,k,g⟩ | ⟨c,hc,b,k,g⟩)
   ·exact⟨a,(J.a a).mpr (YM _ ha),b,k,λu hu=>(Vk J Tc d i w u (d.t a ha u hu).1 (d.t a ha u hu).2).mpr (g u hu)⟩
   ·refine⟨Sy np s.own c,(J.a _).mpr (YO _ (Eg.mpr ⟨c,hc,rfl⟩)),?_,k,λu hu=>?_⟩
    ·show mv np s.own c.p=q
     rw [Tb (by omega),b]
    ·obtain⟨m,l,rfl⟩:=D_.mp hu
     have h2:=(i.t c hc m l).1
     rw [Ge h2]
     exact(Vl J Tc d i w m h2).mpr (g m l)
theorem Te(J:Jn np (Pk np s t) (Pl np s t) s t j)(d:Gd np s)(i:Gd np t)(w:List Nat)(q:Nat)(hq:q < np):rd j.as j.es w q=(rd s.as s.es w q && rd t.as t.es w q):=by
 rw [cV,ZJ]
 cases w with
 | nil =>
  rw [D8,D8,D8,J.e]
  have g:q∈(L8 np s.own t).es↔q∈t.es:=by
   rw [Ma]
   refine⟨?_,λh=>⟨q,h,Tb hq⟩⟩
   rintro⟨c,hc,e⟩
   have:c=q:=by unfold mv at e;split at e <;> omega
   rw [<- this];exact hc
  unfold Pl Ja KO
  rw [ZC,G_,ZB (show ¬np<=q by omega),fC,ZJ,ZN,ZN,g]
  exact⟨λh=>h.2,λh=>⟨.inl h.1,h⟩⟩
 | cons x w =>
  rw [D7,D7,D7]
  constructor
  ·rintro⟨a,ha,l,g,n⟩
   rw [J.a]at ha
   rcases G_.mp ha with ha | ha
   ·have:=YU (ZC.mp ha).2
    omega
   ·obtain⟨b,hb,hp,z,v,m,r,rfl⟩:=E9.mp ha
    obtain⟨c,hc,rfl⟩:=Eg.mp v
    have l:b.p=q:=l
    have g:b.x=x:=g
    have m:mv np s.own c.p=b.p:=m
    have r:c.x=b.x:=r
    refine⟨⟨b,hb,l,g,λu hu=>(Vk J Td d i w u (d.t b hb u hu).1 (d.t b hb u hu).2).mp (n u (YM _ hu))⟩,c,hc,by unfold mv at m;split at m <;> omega,by omega,λu hu=>?_⟩
    have k:=(i.t c hc u hu).1
    have:=n (mv np s.own u) (YO _ (D_.mpr ⟨u,hu,rfl⟩))
    rw [Ge k]at this
    exact(Vl J Td d i w u k).mp this
  ·rintro⟨⟨b,hb,l,g,n⟩,c,hc,m,r,y⟩
   refine⟨jn b (Sy np s.own c),(J.a _).mpr (YO _ (E9.mpr ⟨b,hb,by omega,_,Eg.mpr ⟨c,hc,rfl⟩,?_,?_,rfl⟩)),l,g,λu hu=>?_⟩
   ·show mv np s.own c.p=b.p
    rw [Tb (by omega)];omega
   ·show c.x=b.x
    omega
   ·rcases G_.mp hu with hu | hu
    ·exact(Vk J Td d i w u (d.t b hb u hu).1 (d.t b hb u hu).2).mpr (n u hu)
    ·obtain⟨o,k,rfl⟩:=D_.mp hu
     have h2:=(i.t c hc o k).1
     rw [Ge h2]
     exact(Vl J Td d i w o h2).mpr (y o k)
theorem Zi(a:Gd np t){c:Arw}(hc:c∈t.as):(∀u∈(Sy np s.own c).ts,np<=u/\u < np+(s.own+t.own))/\(Sy np s.own c).p < np+(s.own+t.own)/\(Sy np s.own c).c=none:=by
 refine⟨λu hu=>?_,?_,a.c c hc⟩
 ·obtain⟨d,b,rfl⟩:=D_.mp hu
  have:=a.t c hc d b
  rw [Ge this.1];omega
 ·show mv np s.own c.p < _
  have:=a.p c hc
  unfold mv;split <;> omega
theorem RO(J:Jn np (Kq np s t) (Ja np s t) s t j)(d:Gd np s)(g:Gd np t):Gd np j:=by
 have b:∀a∈j.as,(∀u∈a.ts,np<=u/\u < np+j.own)/\a.p < np+j.own/\a.c=none:=λa ha=>by
  rw [J.a]at ha
  rw [J.o]
  rcases G_.mp ha with ha | ha
  ·exact⟨λu hu=>by have:=d.t a ha u hu;omega,by have:=d.p a ha;omega,d.c a ha⟩
  ·obtain⟨c,hc,rfl⟩:=Eg.mp ha
   exact Zi g hc
 refine⟨λa ha=>(b a ha).1,λa ha=>(b a ha).2.1,λa ha=>(b a ha).2.2,λe he=>?_⟩
 rw [J.e]at he
 rw [J.o]
 rcases G_.mp he with he | he
 ·have:=d.e e he;omega
 ·obtain⟨c,hc,rfl⟩:=Ma.mp he
  have:=g.e c hc
  unfold mv;split <;> omega
theorem RP(J:Jn np (Pk np s t) (Pl np s t) s t j)(g:Gd np s)(i:Gd np t):Gd np j:=by
 have h:∀a∈Kq np s t,(∀u∈a.ts,np<=u/\u < np+j.own)/\a.p < np+j.own/\a.c=none:=λa ha=>by
  rw [J.o]
  rcases G_.mp ha with ha | ha
  ·exact⟨λu hu=>by have:=g.t a ha u hu;omega,by have:=g.p a ha;omega,g.c a ha⟩
  ·obtain⟨c,hc,rfl⟩:=Eg.mp ha
   exact Zi i hc
 have d:∀a∈j.as,(∀u∈a.ts,np<=u/\u < np+j.own)/\a.p < np+j.own/\a.c=none:=λa ha=>by
  rw [J.a]at ha
  rcases G_.mp ha with ha | ha
  ·exact h a (ZC.mp ha).1
  ·obtain⟨b,hb,hp,c,hc,m,n,rfl⟩:=E9.mp ha
   have k:=h b (YM _ hb)
   have l:=h c (YO _ hc)
   refine⟨λu hu=>?_,k.2.1,rfl⟩
   rcases G_.mp hu with hu | hu
   ·exact k.1 u hu
   ·exact l.1 u hu
 refine⟨λa ha=>(d a ha).1,λa ha=>(d a ha).2.1,λa ha=>(d a ha).2.2,λe he=>?_⟩
 rw [J.e]at he
 rw [J.o]
 have he:=(ZC.mp he).1
 rcases G_.mp he with he | he
 ·have:=g.e e he;omega
 ·obtain⟨c,hc,rfl⟩:=Ma.mp he
  have:=i.e c hc
  unfold mv;split <;> omega
structure Sz(s:Say)(vz tl en:Nat):Prop where
 n:s.as.length<=vz
 t:∀a∈s.as,a.ts.length<=tl
 e:s.es.length<=en
theorem Tf{C M:List Arw}(b:(C.map Bb).Nodup)(h:∀a∈C,a∈M):C.length<=M.length:=by
 have:=Df b (ys:=M.map Bb) λd c=>by
  obtain⟨a,ha,rfl⟩:=D_.mp c
  exact D_.mpr ⟨a,h a ha,rfl⟩
 rwa [B_,B_]at this
theorem Tg{α β:Type}(f:α->List β)(k:Nat):∀(l:List α),(∀a∈l,(f a).length<=k)->(l.flatMap f).length<=l.length * k
 | [],_=>by simp
 | a :: l,h=>by
  rw [List.flatMap_cons,L_,ZS,Nat.add_mul,Nat.one_mul]
  have h1:=h a (.head _)
  have h2:=Tg f k l λb hb=>h b (.tail _ hb)
  omega
variable {t1 l1 e1 t2 l2 e2:Nat}
theorem Rb{b:Nat}{c:Arw}:(Sy np b c).ts.length=c.ts.length:=B_ _
theorem Th(a:Sz s t1 l1 e1)(b:Sz t t2 l2 e2):(Ja np s t).length<=e1+e2:=by
 have h2:(L8 np s.own t).es.length=t.es.length:=B_ _
 unfold Ja
 rw [L_,h2];exact gD a.e b.e
theorem Ti(a:Sz s t1 l1 e1)(b:Sz t t2 l2 e2):(Kq np s t).length<=t1+t2:=by
 have h2:(L8 np s.own t).as.length=t.as.length:=B_ _
 unfold Kq
 rw [L_,h2];exact gD a.n b.n
theorem FL(b:Sz s t1 l1 e1)(d:Sz t t2 l2 e2){a:Arw}(h:a∈Kq np s t):a.ts.length<=l1+l2:=by
 rcases G_.mp h with h | h
 ·exact Nat.le_add_right_of_le (b.t a h)
 ·obtain⟨c,hc,rfl⟩:=Eg.mp h
  rw [Rb]
  exact Nat.le_add_left_of_le (d.t c hc)
theorem RQ(J:Jn np (Kq np s t) (Ja np s t) s t j)(d:(j.as.map Bb).Nodup)(he:j.es.Nodup)(c:Sz s t1 l1 e1)(b:Sz t t2 l2 e2):Sz j (t1+t2) (l1+l2) (e1+e2) :=
 ⟨Q_ (Tf d λa ha=>(J.a a).mp ha) (Ti c b),λa ha=>FL c b ((J.a a).mp ha),Q_ (Df he λe h=>(J.e e).mp h) (Th c b)⟩
theorem Zj(b:Sz s t1 l1 e1)(c:Sz t t2 l2 e2):(prs np s.as (L8 np s.own t).as).length<=t1 * t2/\(Pk np s t).length<=t1+t2+t1 * t2:=by
 have e:(prs np s.as (L8 np s.own t).as).length<=s.as.length * t2:=Tg _ _ _ λa _=>by
  unfold FK
  split
  ·rw [B_]
   have h2:(L8 np s.own t).as.length=t.as.length:=B_ _
   exact Q_ (ZM _ _) (by rw [h2];exact c.n)
  ·exact YZ _
 have d:=Q_ e (Nat.mul_le_mul_right t2 b.n)
 refine⟨d,?_⟩
 unfold Pk
 rw [L_]
 exact gD (Q_ (ZM _ _) (Ti b c)) d
theorem RS(J:Jn np (Pk np s t) (Pl np s t) s t j)(k:(j.as.map Bb).Nodup)(he:j.es.Nodup)(d:Sz s t1 l1 e1)(g:Sz t t2 l2 e2):Sz j (t1+t2+t1 * t2) (l1+l2) (e1+e2):=by
 refine⟨Q_ (Tf k λa ha=>(J.a a).mp ha) (Zj d g).2,λa ha=>?_,?_⟩
 ·rcases G_.mp ((J.a a).mp ha) with h | h
  ·exact FL d g (ZC.mp h).1
  ·obtain⟨b,hb,hp,l,i,m,n,rfl⟩:=E9.mp h
   obtain⟨c,hc,rfl⟩:=Eg.mp i
   show(b.ts++(Sy np s.own c).ts).length<=_
   rw [L_,Rb];exact gD (d.t b hb) (g.t c hc)
 ·exact Q_ (Df he λe h=>(J.e e).mp h) (Q_ (ZM _ _) (Th d g))
end
theorem Sz.le{s:Say}{c b d:Nat}(z:Sz s c b d)(h1:c<=400)(h2:b<=400)(g:d<=400):SayLe s:=⟨Q_ z.n h1,λa ha=>Q_ (z.t a ha) h2,Q_ z.e g⟩
theorem RT{np b:Nat}{t:Say}(h:∀a∈t.as,a.c=none):∀a∈(L8 np b t).as,a.c=none:=λa ha=>by
 obtain⟨c,hc,rfl⟩:=Eg.mp ha
 exact h c hc
theorem RU(A B:List Arw):(A.map Bb)++(B.map Bb)=(A++B).map Bb:=N_.symm
abbrev YJ:List Str:=["game","one","other","second"]
theorem RV:FnScope YJ ["game","one","other"] (Af LX):=⟨rfl,rfl,rfl,by decide +kernel,rfl,by decide +kernel,by decide +kernel⟩
def KP:ASp:=λi μ R=>∃(g:Gq) (s t:Say) (b a c h d e:Nat),i=[.D (D5 g),.D (Bm s),.D (Bm t)]/\Gd g.pl.length s/\Gd g.pl.length t/\Sz s b a c/\Sz t h d e/\b+h < 300/\a+d<=400/\c+e < 60 /\
 ∀j μ',Jn g.pl.length (Kq g.pl.length s t) (Ja g.pl.length s t) s t j->Sz j (b+h) (a+d) (c+e)->Sub μ μ'->R (.D (Bm j)) μ'
theorem RW{n:Nat}(F:Fun K "either" "either" LX f fd) (k:VCal P w K mg base n "numbered_behind" ["game","saying","by"] KM) (y:VCal P w K mg base n "sorted_saying" ["many","arrows","ends"] KN):FnOk P w K mg base Ea (n+1) f fd ["game","one","other"] (Fg K 3 KP):=by
 refine F.vok RV λY A r s H E u=>⟨_,(Ae (Av (i:=3) RV.nd rfl (Or.inl rfl) (Ak k u rfl (Aa (vv 0) (Aa (vv 2) (Aa (Ap A7 (vv 1) Ah) Ad)))))
   (Aj (Be (Ak y u rfl (Aa (Bd Cc (Ap A7 (vv 1) Ah) (Ap A7 (vv 3) Ah)) (Aa (Bd Cc (Ap A7 (vv 1) Ah) (Ap A7 (vv 3) Ah)) (Aa (Bd Cc (Ap A7 (vv 1) Ah) (Ap A7 (vv 3) Ah)) Ad))))))),?_⟩
 rintro V μ R _ ⟨g,s,t,O,X,B,M,L,S,rfl,x,v,o,d,I,W,U,q⟩
 have z:=o.n
 have G:=d.n
 have m1:=o.e
 have Q:=d.e
 have N:(L8 g.pl.length s.own t).as.length=t.as.length:=B_ _
 have T:(L8 g.pl.length s.own t).es.length=t.es.length:=B_ _
 refine C2 (Ac (Ao (j:=0) rfl) ⟨g,t,s.own,rfl,d.le (by omega) (by omega) (by omega),v.c,fun μ1 S1=>?_⟩)
 refine Ac (Ao (j:=0) rfl) (Ac (Ao (j:=0) rfl) (Ac (Ao (j:=1) rfl) (Ac (Ao (j:=1) rfl) ⟨by rw [B_,B_];exact seven (by omega),Ac (Ao (j:=2) rfl) (Ac (Ao (j:=2) rfl) ⟨by rw [B_,B_];exact seven (by omega),s.own+t.own,.D (.tuple ((Kq g.pl.length s t).map Bb)),.D (Ax (Ja g.pl.length s t)),Kq g.pl.length s t,Ja g.pl.length s t,?_,Bx _,Bq _,?_,?_,?_,λC F μ2 hC1 l hF1 p S2=>?_⟩)⟩)))
 ·unfold Kq Ja Ax
  rw [N_,N_];rfl
 ·unfold Kq;rw [L_];omega
 ·unfold Ja;rw [L_];omega
 ·intro a ha
  rcases G_.mp ha with h | h
  ·exact x.c a h
  ·exact RT v.c a h
 ·have J:Jn g.pl.length (Kq g.pl.length s t) (Ja g.pl.length s t) s t ⟨s.own+t.own,C,F⟩:=⟨rfl,l,p⟩
  exact⟨μ2,Sub.refl,q _ μ2 J (RQ J hC1 hF1 o d) (λb m h=>S2 b m (S1 b m h))⟩
theorem Tj(ns:List Nat)(k:Nat):((ns.map λ(n:Nat)=>PyData.int n).any λe=>PyData.eqv e (.int k))=decide (k∈ns):=by
 rw [cV,aE,ZN]
 constructor
 ·rintro⟨d,b,e⟩
  obtain⟨m,a,rfl⟩:=D_.mp b
  rw [Ix,ZN]at e
  rw [show k=m by omega];exact a
 ·intro h
  exact⟨_,D_.mpr ⟨k,h,rfl⟩,by rw [Ix,ZN]⟩
abbrev WF:List Str:=["game","one","other","places","second","arrows","ends"]
theorem Zk:FnScope WF ["game","one","other"] (Af FD):=⟨rfl,rfl,rfl,by decide +kernel,rfl,by decide +kernel,by decide +kernel⟩
theorem RX:(["arrow","places"]:List Str).Nodup:=by decide +kernel
theorem RY:(["end","places","one","second"]:List Str).Nodup:=by decide +kernel
def KQ:ASp:=λi μ R=>∃(g:Gq) (s t:Say) (a c d b e h:Nat),i=[.D (D5 g),.D (Bm s),.D (Bm t)]/\Gd g.pl.length s/\Gd g.pl.length t/\Sz s a c d/\Sz t b e h/\a+b < 300/\a+b+a * b < 300/\c+e<=400/\d+h < 60 /\
 ∀j μ',Jn g.pl.length (Pk g.pl.length s t) (Pl g.pl.length s t) s t j->Sz j (a+b+a * b) (c+e) (d+h)->Sub μ μ'->R (.D (Bm j)) μ'
theorem RZ{n:Nat}(F:Fun K "both" "both" FD f fd) (U:VCal P w K mg base n "arrows_of_places" ["places","arrows","seconds"] RL) (O:VCal P w K mg base n "numbered_behind" ["game","saying","by"] KM) (z4:VCal P w K mg base n "sorted_saying" ["many","arrows","ends"] KN) (ai:mg "len" = none):FnOk P w K mg base Ea (n+1) f fd ["game","one","other"] (Fg K 3 KQ):=by
 refine F.vok Zk λau A V s H E x=>⟨_,(Ae (Av (i:=3) Zk.nd rfl (Or.inr rfl) (Ba Da rfl ai ZV (Aa (Ap A7 (vv 0) Ah) Ad)))
   (Ae (Av (i:=4) Zk.nd rfl (Or.inr rfl) (Ak O x rfl (Aa (vv 0) (Aa (vv 2) (Aa (Ap A7 (vv 1) Ah) Ad)))))
   (Ae (C7 (i:=5) (N':=["arrow","places"]) (mp:=[none,some 3]) rfl Zk.nd rfl rfl (Bf (Bd Cc (Ap A7 (vv 1) Ah) (Ap A7 (vv 4) Ah))) (λ_ _ _ _=>(Ai (i:=0) RX rfl (Or.inl rfl) (Or.inr rfl))) (λ_ _ _ _=>(C1 (Bk HR (Ap A7 (vv 0) Ah) (vv 1) (nomark _)))) (λ_ _ _ _=>(vv 0)) (Aw (N:=WF) (pn:=(Af FD).names) (by decide +kernel)))
   (Ae (B2 (Eb bI bJ Ep (vv 5) (Aa (Ak U x rfl (Aa (vv 3) (Aa (Ap A7 (vv 1) Ah) (Aa (Ap A7 (vv 4) Ah) Ad)))) Ad)))
   (Ae (C7 (i:=6) (N':=["end","places","one","second"]) (mp:=[none,some 3,some 1,some 4]) rfl Zk.nd rfl rfl (Bf (Bd Cc (Ap A7 (vv 1) Ah) (Ap A7 (vv 4) Ah))) (λ_ _ _ _=>(Ai (i:=0) RY rfl (Or.inl rfl) (Or.inr rfl))) (λ_ _ _ _=>(C1 (VW.pt (Jj (Bk HR (vv 0) (vv 1) (nomark _)) (Hf (VW.pt (E4 (Bk (NP x) (vv 0) (Ap A7 (vv 2) Ah) (by with_unfolding_all rfl)) (Dn (Bk (NP x) (vv 0) (Ap A7 (vv 3) Ah) (by with_unfolding_all rfl)))))))))) (λ_ _ _ _=>(vv 0)) (Aw (N:=WF) (pn:=(Af FD).names) (by decide +kernel)))
   (Aj (Be (Ak z4 x rfl (Aa (Bd Cc (Ap A7 (vv 1) Ah) (Ap A7 (vv 4) Ah)) (Aa (vv 5) (Aa (vv 6) Ad))))))))))),?_⟩
 rintro xs μ R _ ⟨g,s,t,t1,l1,e1,t2,l2,e2,rfl,gs,gt,z,u,b1,b0,b2,b3,q⟩
 have n1:=z.n
 have n2:=u.n
 have m1:=z.e
 have m2:=u.e
 have S:=Zj (np:=g.pl.length) z u
 have k1:(L8 g.pl.length s.own t).as.length=t.as.length:=B_ _
 have k2:(L8 g.pl.length s.own t).es.length=t.es.length:=B_ _
 refine A0 (fun τ μ'=>τ=[some (.D (D5 g)),some (.D (Bm s)),some (.D (Bm t)),some (.D (.int g.pl.length)),none,none,none]/\μ=μ') (λZ l=>?_) ?_
 ·refine Ac (Ao (j:=0) rfl) (l _ _ ⟨?_,rfl⟩)
  rw [B_];rfl
 rintro τ _ ⟨rfl,rfl⟩
 refine C2 (Ac (Ao (j:=0) rfl) ⟨g,t,s.own,rfl,u.le (by omega) (by omega) (by omega),gt.c,fun μ1 S1=>?_⟩)
 have T:=RT (np:=g.pl.length) (b:=s.own) gt.c
 have v:∀a∈(L8 g.pl.length s.own t).as,a.ts.length<=400:=λa ha=>by
  obtain⟨c,hc,rfl⟩:=Eg.mp ha
  rw [Rb];have:=u.t c hc;omega
 generalize y:L8 g.pl.length s.own t=N at k1 k2 T v S
 have eL:Kq g.pl.length s t=s.as++N.as:=by unfold Kq;rw [y]
 have M:Ja g.pl.length s t=s.es++N.es:=by unfold Ja;rw [y]
 refine A0 (fun τ μ'=>∃d,τ=[some (.D (D5 g)),some (.D (Bm s)),some (.D (Bm t)),some (.D (.int g.pl.length)),some (.D (Bm N)),some (.R d),none]/\μ' d=some (.lst (((s.as++N.as).filter (DT g.pl.length)).map λa=>.D (Bb a)))/\μ d=none/\Sub μ μ') (λZ l=>?_) ?_
 ·refine Ac (Ao (j:=1) rfl) (Ac (Ao (j:=1) rfl) ⟨by rw [B_,B_];exact seven (by omega),?_⟩)
  show opt (items μ1 (.D (.tuple (s.as.map Bb++N.as.map Bb)))) _
  rw [RU]
  refine Ac (Bx _) λG k=>?_
  refine cmapf (s.as++N.as) (λa=>.D (Bb a)) (DT g.pl.length) (λa=>.D (Bb a)) (fun τ=>∃o,τ=[o,some (.D (.int g.pl.length))]) ⟨none,rfl⟩ Ab (seven (by rw [L_];omega)) (λ_=>?_) ?_ ?_
  ·exact Bx _
  ·rintro i a τ' acc W W2 hi ⟨o,rfl⟩ h1 h2
   refine Ac (Ao (j:=0) rfl) (dif (λc=>h1 (YW (by omega)) _ ⟨_,rfl⟩) (λc=>h2 (ZB (by omega)) _ ⟨_,rfl⟩))
  ·exact l _ _ ⟨G,rfl,Ab,S1.none k,(S1.new (S1.none k)).new (S1.none k)⟩
 rintro τ μ2 ⟨d,rfl,f2,na,S2⟩
 refine A0 (fun τ μ'=>τ=[some (.D (D5 g)),some (.D (Bm s)),some (.D (Bm t)),some (.D (.int g.pl.length)),some (.D (Bm N)),some (.R d),none]/\μ' d=some (.lst ((Pk g.pl.length s t).map λa=>.D (Bb a)))/\Sub μ μ') (λZ l=>?_) ?_
 ·refine⟨Ac f2 trivial,Ac (Ao (j:=1) rfl) (Ac (Ao (j:=1) rfl) ⟨g.pl.length,s.as,N.as,rfl,by omega,by omega,λa ha=>⟨gs.c a ha,by have:=z.t a ha;omega⟩,λa ha=>⟨T a ha,v a ha⟩,by omega,λp μ3 hp e3 r=>?_⟩)⟩
  have lg:=ZM (DT g.pl.length) (s.as++N.as)
  rw [L_]at lg
  refine Ac (r d _ f2) (Ac e3 ⟨seven (by rw [B_,B_];omega),l _ _ ⟨rfl,?_,(show Sub μ μ3 from λb m h=>r b m (S2 b m h)).new na⟩⟩)
  rw [Ab,<- N_]
  unfold Pk
  rw [eL,y]
 rintro τ μ3 ⟨rfl,Y,r⟩
 refine A0 (fun τ μ'=>∃B,τ=[some (.D (D5 g)),some (.D (Bm s)),some (.D (Bm t)),some (.D (.int g.pl.length)),some (.D (Bm N)),some (.R d),some (.R B)]/\μ' d=some (.lst ((Pk g.pl.length s t).map λa=>.D (Bb a)))/\μ' B=some (.lst ((Pl g.pl.length s t).map Ck))/\Sub μ μ') (λZ l=>?_) ?_
 ·refine Ac (Ao (j:=2) rfl) (Ac (Ao (j:=2) rfl) ⟨by rw [B_,B_];exact seven (by omega),?_⟩)
  have en:PyData.tuple ((s.es.map λ(n:Nat)=>PyData.int n)++N.es.map λ(n:Nat)=>PyData.int n)=Ax (s.es++N.es):=by unfold Ax;rw [N_]
  show opt (items μ3 (.D (.tuple ((s.es.map λ(n:Nat)=>PyData.int n)++N.es.map λ(n:Nat)=>PyData.int n)))) _
  rw [en]
  refine Ac (Bq _) λG k=>?_
  have X:d≠G:=by rintro rfl;rw [Y]at k;cases k
  refine cmapf (s.es++N.es) Ck (KO g.pl.length s t) Ck (fun τ=>∃o,τ=[o,some (.D (.int g.pl.length)),some (.D (Bm s)),some (.D (Bm N))]) ⟨none,rfl⟩ Ab (seven (by rw [L_];omega)) (λ_=>?_) ?_ ?_
  ·exact Bq _
  ·rintro i e τ' acc W W2 hi ⟨o,rfl⟩ h1 h2
   have hb:KO g.pl.length s t e=(decide (g.pl.length<=e) || (decide (e∈s.es) && decide (e∈N.es))):=by unfold KO;rw [y]
   rw [hb]at h1 h2
   refine dif (λc=>Lf rfl (h1 ?_ _ ⟨_,rfl⟩)) (λc=>?_)
   ·rw [YW (show g.pl.length<=e by omega)];rfl
   ·rw [ZB (show ¬g.pl.length<=e by omega),fC]at h1 h2
    refine Ac (Ao (j:=2) rfl) (Ac rfl ⟨Bs _,Fy,?_⟩)
    rw [Tj]
    refine dif (λL=>?_) (λL=>Lg rfl (h2 (by rw [ZB L];rfl) _ ⟨_,rfl⟩))
    refine Ac (Ao (j:=2) rfl) (Ac rfl ⟨Bs _,Fy,?_⟩)
    rw [Tj]
    refine dif (λc2=>h1 (by rw [YW L,YW c2];rfl) _ ⟨_,rfl⟩) (λc2=>h2 (by rw [ZB c2,Bool.and_false]) _ ⟨_,rfl⟩)
  ·refine l _ _ ⟨G,rfl,by rw [Ag X,Ag X];exact Y,?_,(r.new (r.none k)).new (r.none k)⟩
   rw [Ab]
   unfold Pl
   rw [M]
 rintro τ μ4 ⟨B,rfl,f4,h4,S4⟩
 have hE:(Pl g.pl.length s t).length < 60:=by
  have:=ZM (KO g.pl.length s t) (Ja g.pl.length s t)
  rw [M,L_]at this
  unfold Pl
  rw [M]
  omega
 refine Ac (Ao (j:=0) rfl) (Ac (Ao (j:=0) rfl) ⟨s.own+t.own,.R d,.R B,Pk g.pl.length s t,Pl g.pl.length s t,?_,Al f4,Al h4,by omega,hE,?_,λC F μ5 hC1 Q hF1 I S5=>?_⟩)
 ·rw [<- y];rfl
 ·intro a ha
  rcases G_.mp ha with h | h
  ·have:=(ZC.mp h).1
   rw [eL]at this
   rcases G_.mp this with h | h
   ·exact gs.c a h
   ·exact T a h
  ·obtain⟨b,hb,hp,c,hc,x1,x2,rfl⟩:=E9.mp h
   rfl
 ·have J:Jn g.pl.length (Pk g.pl.length s t) (Pl g.pl.length s t) s t ⟨s.own+t.own,C,F⟩:=⟨rfl,Q,I⟩
  exact⟨μ5,Sub.refl,q _ μ5 J (RS J hC1 hF1 z u) (λb m h=>S5 b m (S4 b m h))⟩
end
section
variable {P:jJ}{w:jK}{K:jI}{mg:Str->Option i_}{base:jN}{f:jH}{fd:jQ}
structure GmOk(g:Gq):Prop where
 p:g.pl.length<=2
 r:g.rs.length<=8
 ok:∀r∈g.rs,r.p < g.pl.length/\r.q < g.pl.length/\r.x < 2/\r.w.length<=2
theorem GmOk.gq{g:Gq}(h:GmOk g):GqOk g:=⟨Q_ h.p (by decide),h.r,λr d=>let⟨a,b,_,c⟩:=h.ok r d;⟨a,X_ b (Q_ h.p (by decide)),c⟩⟩
theorem GmOk.rs{g:Gq}(h:GmOk g):RsOk g:=⟨Q_ h.p (by decide),λr a=>let⟨_,b,_,c⟩:=h.ok r a;⟨b,c⟩⟩
def T4:List (Nat×Nat):=[(0,0),(0,1),(1,0),(1,1)]
theorem YK{k:Nat×Nat}(h1:k.1 < 2)(h2:k.2 < 2):k∈T4:=by
 obtain⟨i,j⟩:=k
 have h1:i < 2:=h1
 have h2:j < 2:=h2
 match i,j,h1,h2 with
 | 0,0,_,_=>decide
 | 0,1,_,_=>decide
 | 1,0,_,_=>decide
 | 1,1,_,_=>decide
theorem GmOk.pt{g:Gq}(h:GmOk g){k:Nat×Nat}(hk:rgp g.rs k≠[]):k.1 < g.pl.length/\k∈T4:=by
 obtain⟨r,h2⟩:=dL _ hk
 obtain⟨d,b⟩:=ZC.mp h2
 unfold Fr at b
 rw [ZJ,ZN,ZN]at b
 obtain⟨a,_,c,_⟩:=h.ok r d
 rw [b.1]at a
 rw [b.2]at c
 exact⟨a,YK (X_ a h.p) c⟩
structure MI(g:Gq)(B:Tops)(E:List Nat)(G:Tops):Prop where
 n:∀k,((G k).map (·.2)).Nodup
 b:∀k,∀z∈G k,z.2 < 32
 u:∀k,Under (B k) (G k)
 s:O9 G (LPre g λp w=>D9 B E w p)
 l:∀k,k∉T4->(G k).length<=(B k).length
section
variable {g:Gq}{B G N Wf Pf:Tops}{E:List Nat}{kvs kw:List ((Nat×Nat)×jH)}
theorem MI.tb(h:MI g B E G):Nh G:=λk=>⟨Q7 (h.n k) (h.b k),h.b k⟩
theorem MI.more(a:GmOk g)(h:MI g B E G)(m:More g G N):MI g B E (λk=>G k++N k) :=
 ⟨m.nd h.n,λk z hz=>(G_.mp hz).elim (h.b k z) λhz=>(m.f k z hz).2.1,λk=>(h.u k).more,m.snd a.rs h.s,λk hk=>by
  have e:N k=[]:=ZE λc=>hk (a.pt (m.k k c).2).2
  rw [e,aY];exact h.l k hk⟩
theorem SA{P:List Pr}(h:(P.map (·.2)).Nodup):P.Nodup:=(cQ.mp h).imp λh e=>h (bB _ e)
theorem MI.start(a:∀k,CvA (B k) (G k))(hb:∀k,∀z∈B k,z.2 < 32)(b:∀k,∀p∈B k,∀t∈Cf p.2,g.pl.length<=t):MI g B E G :=
 ⟨λk=>(a k).u,λk z hz=>hb k z ((a k).m z hz),λk=>Pa (a k).c,λk p hp v hv=>DJ b k p ((a k).m p hp) v hv,λk _=>Df (SA (a k).u) (a k).m⟩
structure Wt(g:Gq)(G Wf:Tops)(kw:List ((Nat×Nat)×jH)):Prop where
 k:∀e∈kw,rgp g.rs e.1≠[]
 w:∀e∈kw,Wf e.1≠[]/\(∀z∈Wf e.1,(∃y∈Ft g G e.1,y.2=z.2)/\z.2 < 32/\∀y∈G e.1,¬Wn y z)/\((Wf e.1).map (·.2)).Nodup
 c:kw=[]->∀k,rgp g.rs k≠[]->Under (Ft g G k) (G k)
theorem SB(hk:∀k,(∃e∈kvs,e.1=k)↔rgp g.rs k≠[])(hp:∀e∈kvs,Cv (Ft g G e.1) (Pf e.1))(W:WtOk G Pf kvs Wf kw):Wt g G Wf kw:=by
 refine⟨λe he=>?_,λe he=>?_,λh k n=>?_⟩
 ·obtain⟨d,h1,h2⟩:=W.k e he
  exact(hk _).mp ⟨d,h1,h2⟩
 ·obtain⟨d,h1,h2⟩:=W.k e he
  obtain⟨j,i,l⟩:=W.w e he
  have C:=hp d h1
  rw [h2]at C
  exact⟨j,λz hz=>⟨C.m z (i.subset hz),C.b z (i.subset hz),l z hz⟩,C.u.sublist (i.map _)⟩
 ·obtain⟨d,h1,rfl⟩:=(hk k).mpr n
  refine Pa λy hy=>?_
  obtain⟨z,hz,a⟩:=(hp d h1).c y hy
  rcases W.c d h1 z hz with⟨x,hx,b⟩ | ⟨e,he,_⟩
  ·exact⟨x,hx,b.trans a⟩
  ·rw [h]at he;cases he
theorem DU{c:Nat}(b:GmOk g)(W:Wt g G Wf kw)(C:Chp Wf N kw c):More g G N:=by
 have a:∀k,N k≠[]->∃e∈kw,e.1=k:=λk hk=>ZE λz=>hk (C.o k λe he h=>z ⟨e,he,h⟩)
 refine⟨λk hk=>?_,λk z hz=>?_,λk=>?_⟩
 ·obtain⟨e,he,rfl⟩:=a k hk
  exact⟨(b.pt (W.k e he)).1,W.k e he⟩
 ·obtain⟨e,he,rfl⟩:=a k λc=>by rw [c]at hz;cases hz
  rw [C.i e he]at hz
  exact(W.w e he).2.1 z (ZC.mp hz).1
 ·by_cases h:N k=[]
  ·rw [h];exact aA
  ·obtain⟨e,he,rfl⟩:=a k h
   rw [C.i e he]
   exact(W.w e he).2.2.sublist (gY.map _)
def cnt(G:Tops):Nat:=(T4.map λk=>(G k).length).sum
theorem Zl{f g:Nat×Nat->Nat}(b:∀k,f k<=g k){k:Nat×Nat}(hk:f k < g k):∀{l:List (Nat×Nat)},(l.map f).sum<=(l.map g).sum/\(k∈l->(l.map f).sum < (l.map g).sum)
 | []=>⟨I_ _,λh=>nomatch h⟩
 | x :: l=>by
  obtain⟨h1,h2⟩:=Zl b hk (l:=l)
  have a:=b x
  rw [ZH,ZH,eN,eN]
  refine⟨gD a h1,λh=>?_⟩
  rcases YV.mp h with rfl | h
  ·exact Nat.add_lt_add_of_lt_of_le hk h1
  ·exact Nat.add_lt_add_of_le_of_lt a (h2 h)
theorem Zm{c:Nat}(a:GmOk g)(W:Wt g G Wf kw)(C:Chp Wf N kw c)(hc:∃e∈kw,∃z∈Wf e.1,z.1=c):cnt G < cnt λk=>G k++N k:=by
 obtain⟨e,he,z,hz,b⟩:=hc
 have h1:z∈N e.1:=by rw [C.i e he];exact ZC.mpr ⟨hz,YW b⟩
 refine(Zl (λk=>?_) (k:=e.1) ?_).2 (a.pt (W.k e he)).2
 ·rw [L_];exact dD _ _
 ·rw [L_];exact Nat.lt_add_of_pos_right (gB h1)
theorem Tk{A:List Ar}(b:Nh G)(h:∀k,k∉T4->(G k).length<=(grp A k).length):∀a:List (Nat×Nat),(a.map λk=>(G k).length).sum<=32 * (a.filter λk=>decide (k∈T4)).length+(a.map λk=>(grp A k).length).sum
 | []=>YZ _
 | k :: a=>by
  have d:=Tk b h a
  have h1:=(b k).1
  rw [ZH,ZH,eN,eN,eX]
  by_cases c:k∈T4
  ·rw [S_ (YW c),ZS];omega
  ·rw [M_ (by rw [ZB c];decide)]
   have:=h k c
   omega
theorem DV{A:List Ar}(b:Nh G)(h:∀k,k∉T4->(G k).length<=(grp A k).length){ks:List (Nat×Nat)}(a:ks.Nodup):(ks.map λk=>(G k).length).sum<=128+A.length:=by
 have h1:=Tk b h ks
 have h2:=Ss (A:=A) a
 have c:(ks.filter λk=>decide (k∈T4)).length<=4:=Df (ys:=T4) (a.sublist gY) λk hk=>YU (ZC.mp hk).2
 omega
theorem Zn(h:Nh G):cnt G<=128:=by
 have a:=(h (0,0)).1
 have b:=(h (0,1)).1
 have c:=(h (1,0)).1
 have d:=(h (1,1)).1
 show(G (0,0)).length+((G (0,1)).length+((G (1,0)).length+((G (1,1)).length+0)))<=128
 omega
theorem Nk{b:List Arw}(h1:∀k,∀z∈G k,∃a∈b,a.p=k.1/\a.x=k.2/\∀t,t∈a.ts↔t∈Cf z.2)(h2:∀a∈b,∃z∈G (a.p,a.x),∀t,t∈a.ts↔t∈Cf z.2):∀(w:List Nat) (s:Nat),rd b E w s=true↔D9 G E w s
 | [],s=>D8
 | x :: w,s=>by
  rw [D7]
  constructor
  ·rintro⟨a,ha,rfl,rfl,h⟩
   obtain⟨z,hz,e⟩:=h2 a ha
   exact⟨z,hz,λt c=>(Nk h1 h2 w t).mp (h t ((e t).mpr c))⟩
  ·rintro⟨z,hz,h⟩
   obtain⟨a,ha,d,i,e⟩:=h1 (s,x) z hz
   exact⟨a,ha,d,i,λt c=>(Nk h1 h2 w t).mpr (h t ((e t).mp c))⟩
end
def Hw(a:Arw):Ar:=⟨a.p,a.x,a.ts,0⟩
def ME(a:Ar):Arw:=⟨a.p,a.x,a.ts,some a.c⟩
theorem Tl(t:Nat):∀(ts:List Nat) (b:Nat),(ts.foldl (λb k=>b ||| 2 ^ k) b).testBit t=(b.testBit t || ts.contains t)
 | [],b=>by simp
 | u :: ts,b=>by
  rw [cW,Tl t ts,iC,Nat.testBit_two_pow,List.contains_cons,Bool.or_assoc]
  congr 2
  exact gL.mpr ⟨Eq.symm,Eq.symm⟩
theorem Rc{ts:List Nat}(h:∀t∈ts,t < 5)(t:Nat):t∈ts↔t∈Cf (bts ts):=by
 rw [C8]
 unfold bts
 rw [Tl,iR,fC,List.contains_iff_mem]
 exact⟨λz=>⟨h t z,z⟩,λz=>z.2⟩
theorem Ko{S:List Arw}{k:Nat×Nat}{z:Pr}:z∈grp (S.map Hw) k↔∃a∈S,a.p=k.1/\a.x=k.2/\z=(0,bts a.ts):=by
 unfold grp
 rw [D_]
 constructor
 ·rintro⟨a,ha,rfl⟩
  obtain⟨h1,h2⟩:=ZC.mp ha
  obtain⟨b,hb,rfl⟩:=D_.mp h1
  unfold Ef at h2
  rw [ZJ,ZN,ZN]at h2
  exact⟨b,hb,h2.1,h2.2,rfl⟩
 ·rintro⟨a,ha,h1,h2,rfl⟩
  exact⟨Hw a,ZC.mpr ⟨D_.mpr ⟨a,ha,rfl⟩,by rw [show k=((Hw a).p,(Hw a).x) from iY h1.symm h2.symm];exact Kl _⟩,rfl⟩
theorem DW{S:List Arw}{E:List Nat}(h:∀a∈S,∀t∈a.ts,t < 5)(w:List Nat)(s:Nat):rd S E w s=true↔D9 (grp (S.map Hw)) E w s :=
 Nk (λk z hz=>by
  obtain⟨a,ha,h1,h2,rfl⟩:=Ko.mp hz
  exact⟨a,ha,h1,h2,Rc (h a ha)⟩) (λa ha=>⟨(0,bts a.ts),Ko.mpr ⟨a,ha,rfl,rfl,rfl⟩,Rc (h a ha)⟩) w s
theorem Nl{Pf:Tops}{kvs:List ((Nat×Nat)×jH)}{a:Ar}:a∈Cl Pf kvs↔∃e∈kvs,∃z∈Pf e.1,a=⟨e.1.1,e.1.2,Cf z.2,z.1⟩:=by
 unfold Cl
 rw [aR]
 constructor
 ·rintro⟨e,he,h⟩
  obtain⟨z,hz,rfl⟩:=D_.mp h
  exact⟨e,he,z,hz,rfl⟩
 ·rintro⟨e,he,z,hz,rfl⟩
  exact⟨e,he,D_.mpr ⟨z,hz,rfl⟩⟩
theorem Zo{G:Tops}{E:List Nat}{d:List ((Nat×Nat)×jH)}(j:∀k,(∀e∈d,e.1≠k)->G k=[]){g:List Arw}(i:∀a,a∈g↔∃b∈Cl G d,ME b=a)(w:List Nat)(s:Nat):rd g E w s=true↔D9 G E w s :=
 Nk (λk z hz=>by
  obtain⟨e,he,rfl⟩:∃e∈d,e.1=k:=ZE λc=>by
   rw [j k λe he h=>c ⟨e,he,h⟩]at hz;cases hz
  exact⟨_,(i _).mpr ⟨_,Nl.mpr ⟨e,he,z,hz,rfl⟩,rfl⟩,rfl,rfl,λ_=>Iff.rfl⟩) (λa ha=>by
  obtain⟨b,hb,rfl⟩:=(i a).mp ha
  obtain⟨e,he,z,hz,rfl⟩:=Nl.mp hb
  exact⟨z,hz,λ_=>Iff.rfl⟩) w s
end
section
variable {P:jJ}{w:jK}{K:jI}{mg:Str->Option i_}{base:jN}{f:jH}{fd:jQ}
structure SyOk(g:Gq)(s:Say):Prop where
 d:Gd g.pl.length s
 n:s.as.length<=15
 x:∀a∈s.as,a.x < 2
 o:g.pl.length+s.own<=5
theorem Kpt.sub{μ ν:M}{d:jH}{G:Tops}{a:List ((Nat×Nat)×jH)}(h:Kpt μ d G a)(S:Sub μ ν):Kpt ν d G a:=⟨⟨S _ _ h.D.dd,λe he=>⟨S _ _ (h.D.ll e he).1,(h.D.ll e he).2⟩,h.D.n,h.D.uu⟩,h.o,h.b⟩
theorem Zp{g:Gq}{G:Tops}{k:List ((Nat×Nat)×jH)}{dk:jH}{μ1:M}{R:AV->M->Prop}(o:GmOk g)(T:Kpt μ1 dk G k)(l:Nh G)(q:∀a h d μ',Kpt μ' dk G k->DcK μ' a h d->Wt g G h d->a≠dk->μ1 a=none->Sub μ1 μ'->R (.R a) μ'):KH [.D (D5 g),.R dk,.D (.bool true)] μ1 λv μ2=>KI [.R dk,v] μ2 R:=by
 refine⟨g,dk,G,rfl,o.gq,T.top,l,λr p i μ2 Q=>⟨dk,r,G,p,i,rfl,T.top.sub Q.ss,l,⟨Q.dd,Q.ll,Q_ Q.n (by decide),Q.uu⟩,λe he=>⟨(Q.pf e he).len,(Q.pf e he).b⟩,?_,λa h d μ3 D W j S=>?_⟩⟩
 ·rintro rfl
  have:=T.D.dd
  rw [Q.nd]at this;cases this
 ·have c:Sub μ1 μ3:=λb m hb=>S _ _ (by
   rw [Bc (by rintro rfl;rw [Q.nd]at hb;cases hb)]
   exact Q.ss _ _ hb)
  refine q a h d μ3 (T.sub c) D (SB Q.kk Q.pf W) ?_ (Q.ss.none j) c
  rintro rfl
  rw [Q.ss _ _ T.D.dd]at j;cases j
abbrev WQ:List Str:=["game","saying","most","kept","top","pairs","waiting"]
theorem Vm:FnScope WQ ["game","saying","most"] (Af JL):=⟨rfl,rfl,rfl,by decide +kernel,rfl,by decide +kernel,by decide +kernel⟩
theorem SC:(["arrow"]:List Str).Nodup:=by decide +kernel
def KR:ASp:=λc μ R=>∃(g:Gq) (s:Say),c=[.D (D5 g),.D (Bm s),.D (.int 200)]/\GmOk g/\SyOk g s/\∀(b:List Arw) μ',b.length<=400->(∀a∈b,a.ts.length<=400)->(∀p w,p < g.pl.length->(rd b s.es w p=true↔Pre g (λp w=>rd s.as s.es w p=true) p w))->Sub μ μ'->R (.D (.tuple (b.map Bb))) μ'
theorem SD{n:Nat}{T:jH}(F:FunD K "machine" "machine" JL f fd T) (cAt:VCal P w K mg base n "arrows_by_top" ["arrows"] QB) (cLa:VCal P w K mg base n "least_alone" ["pairs"] KA) (cNk:VCal P w K mg base n "not_kept" ["kept","found"] KI) (cFg:VCal P w K mg base n "following" ["game","tops","least"] KH) (cHm:VCal P w K mg base n "how_many" ["tops"] QO) (cKc:VCal P w K mg base n "keep_cheapest" ["kept","waiting"] QT) (cAw:VCal P w K mg base n "as_arrows" ["tops"] QV) (ai:mg "len" = none) (aj:mg "tuple" = none) (ao:mg "sorted" = none):FnOk P w K mg base Ea (n+1) f fd ["game","saying","most"] (Fg K 3 KR):=by
 refine F.vok Vm λau A outer s H E M=>⟨_,(Ae (Av (i:=3) Vm.nd rfl (Or.inl rfl) Er)
   (Ae (G6 ZD rfl (Ak cAt M rfl (Aa (Bt (N':=["arrow"]) (mp:=[none]) rfl (Bf (Ap A7 (vv 1) Ah)) (λ_ _ _ _=>(Ai (i:=0) SC rfl (Or.inl rfl) (Or.inr rfl))) (λ_ _ _ _=>Bp) (λ_ _ _ _=>(Bd Cc (vv 0) (Bl (Aa Ah Ad)))) (Aw (N:=WQ) (pn:=(Af JL).names) (by decide +kernel))) Ad)) (Aq (Ai (i:=4) Vm.nd rfl (Or.inl rfl)) (Aq (Ai (i:=5) Vm.nd rfl (Or.inl rfl)) B0)) (Aj (Ed (Cu M) (vv 3) (vv 4) (Ak cLa M rfl (Aa (vv 5) Ad)))))
   (Ae (Av (i:=6) Vm.nd rfl (Or.inl rfl) (Ak cNk M rfl (Aa (vv 3) (Aa (Ak cFg M rfl (Aa (vv 0) (Aa (vv 3) (Aa Ff Ad)))) Ad))))
   (Ae (Wy ZD (VW.pt (E4 (Bk Wr (Ba IZ rfl ai ZV (Aa (vv 6) Ad)) Ah (nomark _)) (Dn (Bk UI (Ak cHm M rfl (Aa (vv 3) Ad)) (vv 2) (nomark _))))) (Ae (B2 (Ak cKc M rfl (Aa (vv 3) (Aa (vv 6) Ad))))
   (Aj (Av (i:=6) Vm.nd rfl (Or.inl rfl) (Ak cNk M rfl (Aa (vv 3) (Aa (Ak cFg M rfl (Aa (vv 0) (Aa (vv 3) (Aa Ff Ad)))) Ad)))))))
   (Ae (Db (Bk Wr (Ak cHm M rfl (Aa (vv 3) Ad)) (vv 2) (nomark _)) (Aj Ww) B1)
   (Aj (Be (Bu Cp rfl aj ZT (Aa (Ba (L3 M) rfl ao PyProof.Rows.boot_sorted (Aa (Ak cAw M rfl (Aa (vv 3) Ad)) Ad)) Ad))))))))),?_⟩
 rintro xs μ R _ ⟨g,s,rfl,hg,X,q⟩
 have t5:∀a∈s.as,∀t∈a.ts,t < 5:=λa ha t ht=>X_ (X.d.t a ha t ht).2 X.o
 have zcn:=X.n
 have hAl:(s.as.map Hw).length<=15:=by rw [B_];exact zcn
 have hB1:∀k,∀z∈grp (s.as.map Hw) k,z.2 < 32:=λk z hz=>by
  obtain⟨a,ha,_,_,rfl⟩:=Ko.mp hz
  exact Q9 (t5 a ha) (by decide)
 have hB2:∀k,∀z∈grp (s.as.map Hw) k,∀t∈Cf z.2,g.pl.length<=t:=λk z hz t ht=>by
  obtain⟨a,ha,_,_,rfl⟩:=Ko.mp hz
  exact(X.d.t a ha t ((Rc (t5 a ha) t).mpr ht)).1
 have hB3:∀k,grp (s.as.map Hw) k≠[]->k.1 < 5/\k.2 < 4:=λk hk=>by
  obtain⟨z,hz⟩:=dL _ hk
  obtain⟨a,ha,e1,e2,_⟩:=Ko.mp hz
  rw [<- e1,<- e2]
  exact⟨X_ (X.d.p a ha) X.o,dA (X.x a ha) (by decide)⟩
 have hBl:∀k,(grp (s.as.map Hw) k).length<=15:=λk=>by
  unfold grp
  rw [B_];exact Q_ (ZM _ _) hAl
 intro dk wv
 refine A0 (fun τ μ'=>∃U Q G r,τ=[some (.D (D5 g)),some (.D (Bm s)),some (.D (.int 200)),some (.R dk),U,Q,none]/\Kpt μ' dk G r/\MI g (grp (s.as.map Hw)) s.es G/\Sub μ μ') (λZ hZ=>?_) ?_
 ·refine Ac (Ao (j:=1) rfl) (Ac (Bx s.as) λY ap=>?_)
  have S0:Sub μ (An μ dk (.dt [])):=Sub.refl.new wv
  have e0:An μ dk (.dt []) dk=some (.dt []):=Ab
  generalize An μ dk (.dt [])=μ0 at ap S0 e0
  refine cmap s.as _ (λa=>Sm (Hw a)) (fun τ=>∃o,τ=[o]) ⟨none,rfl⟩ Ab (seven (by omega)) (λ_=>Bx s.as) ?_ ?_
  ·rintro i a τ' acc W ha ⟨o,rfl⟩ hW
   have hc:=X.d.c a (U_ ha)
   obtain⟨p,x,ts,c⟩:=a
   dsimp only at hc
   subst hc
   exact⟨by show 3+1<=sizeLine;decide,hW _ ⟨_,rfl⟩⟩
  ·rw [Bh]
   have m7:dk≠Y:=by rintro rfl;rw [e0]at ap;cases ap
   have S1:Sub μ (An μ0 Y (.lst (s.as.map λa=>Sm (Hw a)))):=S0.new (S0.none ap)
   have e1:An μ0 Y (.lst (s.as.map λa=>Sm (Hw a))) dk=some (.dt []):=by rw [Ag m7];exact e0
   have p1:An μ0 Y (.lst (s.as.map λa=>Sm (Hw a))) Y=some (.lst ((s.as.map Hw).map Sm)):=by rw [Ab,YT];rfl
   generalize An μ0 Y (.lst (s.as.map λa=>Sm (Hw a)))=μ1 at S1 e1 p1
   refine⟨.R Y,s.as.map Hw,rfl,Al p1,Q_ hAl (by decide),λa ha t ht=>?_,λd B μ2 T=>?_⟩
   ·obtain⟨b,hb,rfl⟩:=D_.mp ha
    exact t5 b hb t ht
   refine Ac T.dd ?_
   have dkd:dk≠d:=by rintro rfl;have:=T.fd;rw [e1]at this;cases this
   have d0:μ d=none:=S1.none T.fd
   have S2:Sub μ (B7 μ2 d):=λb m hb=>by
    rw [Bc (by rintro rfl;rw [d0]at hb;cases hb)]
    exact T.ss _ _ (S1 _ _ hb)
   have e2:B7 μ2 d dk=some (.dt (([]:List ((Nat×Nat)×jH)).map kvT)):=by rw [Bc dkd];exact T.ss _ _ e1
   have l2:∀e∈B,B7 μ2 d e.2=some (.lst ((grp (s.as.map Hw) e.1).map A4))/\e.2≠dk:=λe he=>by
    obtain⟨h1,h2⟩:=T.fe e he
    exact⟨by rw [Bc h2];exact T.ll e he,λz=>by rw [z,e1]at h1;cases h1⟩
   refine Kf (λi τ μ'=>∃U Q G r,τ=[some (.D (D5 g)),some (.D (Bm s)),some (.D (.int 200)),some (.R dk),U,Q,none]/\Kpt μ' dk G r/\(∀e∈B.take i,CvA (grp (s.as.map Hw) e.1) (G e.1))/\(∀k,(∀e∈B.take i,e.1≠k)->G k=[])/\(∀e∈B,μ' e.2=some (.lst ((grp (s.as.map Hw) e.1).map A4)))/\Sub μ μ') ⟨none,none,λ_=>[],[],rfl,⟨⟨e2,(λ_ h=>nomatch h),YZ _,aA⟩,λ_ _=>rfl,(λ_ h=>nomatch h)⟩,(λ_ h=>nomatch h),λ_ _=>rfl,λe he=>(l2 e he).1,S2⟩ ?_ ?_
   ·rintro i v τ μ3 W hv ⟨U,Q,G,r,rfl,T3,hC,hO,hL,S3⟩ hW
    rw [H_]at hv
    obtain⟨e,he,rfl⟩:=F_.mp hv
    have fy:=U_ he
    have ba:B.take (i+1)=B.take i++[e]:=by rw [Y_,he];rfl
    have bm:∀L∈B.take i,L.1≠e.1:=λL V c=>by
     have h3:((B.take (i+1)).map (·.1)).Nodup:=T.uu.sublist ((dN _ _).map _)
     rw [ba,N_,ZW]at h3
     exact h3.2.2 L.1 (D_.mpr ⟨L,V,rfl⟩) e.1 (by simp) c
    dsimp only [Ec,Dh,N3,List.set,kvT,W8]
    refine⟨e.2,grp (s.as.map Hw) e.1,rfl,hL e fy,Q_ (hBl e.1) (by decide),hB1 e.1,λzs l μ4 C hl e4 S4=>?_⟩
    have ep:dput (.dt (r.map kvT)) (.tuple [.int (e.1.1:Nat),.int (e.1.2:Nat)]) (.R l)=some (.dt ((putK r e.1 l).map kvT)):=by rw [<- QQ];rfl
    have ldk:l≠dk:=by rintro rfl;rw [T3.D.dd]at hl;cases hl
    have zac:=T3.D.n
    refine Ac (S4 _ _ T3.D.dd) (Ac ep ⟨A5 (show(r.map kvT).length<=1000 by rw [B_];omega),hW _ _ ⟨_,_,λk=>if k=e.1 then zs else G k,putK r e.1 l,rfl,?_,λL V=>?_,λk hk=>?_,λL V=>?_,Ex (S3.trans S4) wv⟩⟩)
    ·exact(T3.sub S4).put (hB3 _ ((T.kk e.1).mp ⟨e,fy,rfl⟩)) (by rw [S_ rfl];exact e4) ldk λj hj=>M_ hj
    ·rw [ba]at V
     dsimp only
     rcases G_.mp V with h | h
     ·rw [M_ (bm L h)];exact hC L h
     ·rw [P_.mp h,S_ rfl];exact C
    ·rw [ba]at hk
     dsimp only
     rw [M_ λz=>hk e (by simp) z.symm]
     exact hO k λL V=>hk L (YM _ V)
    ·rw [Ag (l2 L V).2];exact S4 _ _ (hL L V)
   ·rintro τ μ3 ⟨U,Q,G,r,rfl,T3,hC,hO,hL,S3⟩
    rw [B_,YY]at hC hO
    refine hZ _ _ ⟨_,_,G,r,rfl,T3,MI.start (λk=>?_) hB1 hB2,S3⟩
    by_cases h:∃e∈B,e.1=k
    ·obtain⟨e,he,rfl⟩:=h
     exact hC e he
    ·rw [hO k λe he c=>h ⟨e,he,c⟩,show grp (s.as.map Hw) k=[] from ZE λc=>h ((T.kk k).mpr c)]
     exact⟨(λ_ h=>nomatch h),(λ_ h=>nomatch h),aA⟩
 rintro τ μ1 ⟨U,Q,G,r,rfl,T,y,S1⟩
 refine A0 (fun τ μ'=>∃I O J,τ=[some (.D (D5 g)),some (.D (Bm s)),some (.D (.int 200)),some (.R dk),U,Q,some (.R I)]/\Kpt μ' dk G r/\DcK μ' I O J/\Wt g G O J/\I≠dk/\μ I=none/\Sub μ μ') (λZ hZ=>?_) ?_
 ·exact Zp (R:=λv μ'=>Z [some (.D (D5 g)),some (.D (Bm s)),some (.D (.int 200)),some (.R dk),U,Q,some v] μ') hg T y.tb λI O J μ2 T2 D2 W2 h1 h2 S2=>hZ _ _ ⟨I,O,J,rfl,T2,D2,W2,h1,S1.none h2,S1.trans S2⟩
 clear T S1
 rintro τ μ2 ⟨I,O,J,rfl,T2,D2,W2,j5,w0,S2⟩
 have ic:∀{μ G r},Kpt μ dk G r->MI g (grp (s.as.map Hw)) s.es G->(r.map λe=>(G e.1).length).sum<=200:=λ{μ G r} T y=>by
  have:=DV y.tb y.l T.D.uu
  rw [YT]at this
  exact Q_ this (by omega)
 refine A0 (fun τ μ'=>∃o6 G r,τ=[some (.D (D5 g)),some (.D (Bm s)),some (.D (.int 200)),some (.R dk),U,Q,o6]/\Kpt μ' dk G r/\MI g (grp (s.as.map Hw)) s.es G/\(∀k,rgp g.rs k≠[]->Under (Ft g G k) (G k))/\Sub μ μ') (λZ hZ=>?_) ?_
 ·refine BM (λm τ μ'=>∃I O J G r,τ=[some (.D (D5 g)),some (.D (Bm s)),some (.D (.int 200)),some (.R dk),U,Q,some (.R I)]/\Kpt μ' dk G r/\DcK μ' I O J/\Wt g G O J/\MI g (grp (s.as.map Hw)) s.es G/\I≠dk/\μ I=none/\cnt G+m=128/\Sub μ μ') (128 - cnt G) ⟨I,O,J,G,r,rfl,T2,D2,W2,y,j5,w0,gX (Zn y.tb),S2⟩ ?_
  clear T2 D2 W2 y j5 w0 S2
  rintro m τ μ3 W ⟨I,O,J,G,r,rfl,T,D,Wk,y,hd,w0,hm,S⟩ hW
  refine Ac D.dd (dif (λc=>?_) (λc=>?_))
  ·have xb:J≠[]:=by
    rintro rfl
    exact absurd c (by decide)
   refine⟨dk,G,r,rfl,T.D,λe he=>(y.tb e.1).1,fun μ4 S4=>dif (λc2=>?_) (λc2=>absurd (Int.ofNat_le.mpr (ic T y)) c2)⟩
   have hP:=λe he=>hg.pt (Wk.k e he)
   refine⟨dk,I,G,O,r,J,rfl,T.sub S4,⟨S4 _ _ D.dd,λe he=>⟨S4 _ _ (D.ll e he).1,(D.ll e he).2⟩,D.n,D.uu⟩,xb,λe he=>(Wk.w e he).1,λe he=>?_,y.tb,λe he=>?_,hd.symm,λc N ue μ5 dh C T5 S5=>?_⟩
   ·have h1:=(hP e he).2
    simp only [T4,List.mem_cons,List.not_mem_nil,or_false]at h1
    rcases h1 with h | h | h | h <;> rw [h] <;> decide
   ·obtain⟨_,h2,h3⟩:=Wk.w e he
    exact⟨Q7 h3 λz hz=>(h2 z hz).2.1,λz hz=>(h2 z hz).2.1⟩
   have xz:=y.more hg (DU hg Wk C)
   have hc5:=Zm hg Wk C dh
   have qp:=Zn xz.tb
   have S05:Sub μ μ5:=λb m hb=>S5 _ _ (by
    rw [Bc (by rintro rfl;rw [wv]at hb;cases hb),Bc (by rintro rfl;rw [w0]at hb;cases hb)]
    exact S4 _ _ (S _ _ hb))
   exact Zp (R:=λv μ'=>W [some (.D (D5 g)),some (.D (Bm s)),some (.D (.int 200)),some (.R dk),U,Q,some v] μ') hg T5 xz.tb λdw2 Wf2 kw2 μ6 T6 D6 W6 h1 h2 S6=>hW (128 - cnt λk=>G k++N k) _ _ (by omega) ⟨dw2,Wf2,kw2,_,ue,rfl,T6,D6,W6,xz,h1,S05.none h2,gX qp,S05.trans S6⟩
  ·have xb:J=[]:=by
    cases J with
    | nil=>rfl
    | cons e l=>exact absurd (show(0:Int) < (((e :: l).map kvT).length:Nat) from by rw [B_,ZS];omega) c
   exact Lg rfl (hZ _ _ ⟨_,G,r,rfl,T,y,Wk.c xb,S⟩)
 rintro τ μ3 ⟨o6,G,r,rfl,T,y,hU,S⟩
 refine C2 ⟨dk,G,r,rfl,T.D,λe he=>(y.tb e.1).1,fun μ4 S4=>dif (λc=>absurd (Int.ofNat_lt.mp c) (iS (ic T y))) (λc=>?_)⟩
 have T4:=T.sub S4
 have hmn:=ic T y
 refine⟨dk,G,r,rfl,⟨T4.D.dd,λe he=>⟨(T4.D.ll e he).1,(T4.D.ll e he).2,Q_ (y.tb e.1).1 (by decide),y.b e.1⟩,T4.D.n⟩,λl μ5 hl e5 S5=>?_⟩
 have ag:(Cl G r).length<=200:=by
  unfold Cl
  rw [List.length_flatMap]
  simp only [List.length_map]
  exact hmn
 have jd:dats ((Cl G r).map Sm)=some (((Cl G r).map ME).map Bb):=by
  rw [show(Cl G r).map Sm=(((Cl G r).map ME).map Bb).map .D by rw [YT,YT];rfl];exact Cb _
 refine Ac e5 (Ac jd ⟨?_,λes p hp fj=>?_⟩)
 ·obtain⟨k1,k2,_⟩:=Sx ((Cl G r).map ME)
  refine⟨by rw [B_,B_];omega,k1,by omega,λd hd=>?_,λd hd e he=>?_⟩
  ·obtain⟨a,_,rfl⟩:=D_.mp hd
   exact⟨a.p,_,rfl⟩
  ·obtain⟨a,ha,rfl⟩:=D_.mp hd
   obtain⟨b,hb,rfl⟩:=D_.mp he
   obtain⟨a',_,rfl⟩:=D_.mp ha
   obtain⟨b',_,rfl⟩:=D_.mp hb
   exact Sw rfl
 obtain⟨Ms,rfl,ga⟩:=C5 hp ((Cl G r).map ME) rfl
 have fh:=ga.length_eq
 rw [B_]at fh
 have hmm:∀a,a∈Ms↔∃b∈Cl G r,ME b=a:=λa=>by rw [ga.mem_iff,D_]
 have S6:Sub μ μ5:=λb m hb=>S5 _ _ (by
  rw [Bc (by rintro rfl;rw [wv]at hb;cases hb)]
  exact S4 _ _ (S _ _ hb))
 refine Ac (Al Ab) (Ac (Cb _) ⟨_,Sub.refl,q Ms _ (by omega) (λa ha=>?_) (λp w hp=>?_) (S6.new (S6.none fj))⟩)
 ·obtain⟨b,hb,rfl⟩:=(hmm a).mp ha
  obtain⟨e,he,z,hz,rfl⟩:=Nl.mp hb
  exact Q_ (ZM _ _) (by rw [aC];decide)
 ·rw [Zo T.o hmm w p,Q8 hg.rs y.u hU y.s hp w,show(λp w=>D9 (grp (s.as.map Hw)) s.es w p)=(λp w=>rd s.as s.es w p=true) from funext λp=>funext λw=>propext (DW t5 w p).symm]
def WG(p:Str×Nat):AV:=.D (Sn p)
theorem DX(B:List (Str×Nat)):dats (B.map WG)=some (B.map Sn):=by
 rw [show B.map WG=(B.map Sn).map .D by rw [YT];rfl];exact Cb _
theorem Tm(B:List Rq):dats (B.map Gn)=some (B.map Pj):=by
 rw [show B.map Gn=(B.map Pj).map .D by rw [YT];rfl];exact Cb _
theorem Zq(r:Rq):PyData.canLay0 (Pj r)=true/\(Pj r).depth<=3:=by
 have h1:=Iz (ns:=r.w)
 refine⟨?_,?_⟩
 ·simp only [Pj,Ax,PyData.canLay0,PyData.canLayAll0,h1.1,Bool.and_true,Bool.true_and]
 ·have:=h1.2
  simp only [Pj,Ax,PyData.depth,PyData.depthAll];omega
theorem DY(r:Rq):Cd (Pj r):=⟨(Zq r).1,Q_ (Zq r).2 (by decide)⟩
theorem Zr:∀B:List Rq,PyData.canLayAll0 (B.map Pj)=true/\PyData.depthAll (B.map Pj)<=3
 | []=>⟨rfl,by simp [PyData.depthAll]⟩
 | r :: B=>by
  obtain⟨a,b⟩:=Zr B
  obtain⟨c,d⟩:=Zq r
  refine⟨?_,?_⟩
  ·simp only [List.map_cons,PyData.canLayAll0,c,a,Bool.and_self]
  ·simp only [List.map_cons,PyData.depthAll];omega
theorem Zs(B:List Rq):Cd (.tuple (B.map Pj)):=by
 obtain⟨a,b⟩:=Zr B
 exact⟨by simp only [PyData.canLay0];exact a,by simp only [PyData.depth];omega⟩
abbrev MF:List Str:=["_law_state","_law_places","_law_letters","_law_rules","_law_k","_law_p","_law_x","_law_q","_law_size","_law_rule","_law_alike"]
theorem Iv:FnScope MF ["_law_state"] (Af Yu):=⟨rfl,rfl,rfl,by decide +kernel,rfl,by decide +kernel,by decide +kernel⟩
theorem SE:(["_law_name","_law_state"]:List Str).Nodup:=by decide +kernel
theorem SF:(["_law_some","_law_state"]:List Str).Nodup:=by decide +kernel
theorem SG:(["_law_rule"]:List Str).Nodup:=by decide +kernel
theorem SH:(["_law_j","_law_state","_law_letters"]:List Str).Nodup:=by decide +kernel
theorem SI:(["_law_one","_law_p","_law_x"]:List Str).Nodup:=by decide +kernel
structure GsOk(g:Gq):Prop where
 p0:0 < g.pl.length
 p2:g.pl.length<=2
 l0:0 < g.le.length
 l2:g.le.length<=2
 r4:g.rs.length<=8
 ok:∀r∈g.rs,r.p < g.pl.length/\r.q < g.pl.length/\r.x < 2/\r.w.length<=2
def KS:ASp:=λb μ R=>∃(a l:jH),b=[.R a]/\Pot μ a l/\∀(g:Gq) μ',GsOk g->Pot μ' a l->B4 a l μ μ'->R (.D (D5 g)) μ'
theorem SJ{n:Nat}(F:Fun K "_law_small_game" "_law_small_game" Yu f fd) (ii:VCal P w K mg base n "_law_draw" ["_law_state","_law_many"] JR) (al:mg "range" = none) (ai:mg "len" = none) (aj:mg "tuple" = none) (d8:mg "min" = none):FnOk P w K mg base Ea (n+1) f fd ["_law_state"] (Fg K 1 KS):=by
 refine F.vok Iv λau A outer s H E I=>⟨_,(Ae (Av (i:=1) Iv.nd rfl (Or.inl rfl) (Bu Cp rfl aj ZT (Aa (Bt (N':=["_law_name","_law_state"]) (mp:=[none,some 0]) rfl (Bf (Eo (Bv (Aa Mn (Aa Mn Ad))) Fv (Fw (Bd Cc Ah (Ak ii I rfl (Aa (vv 0) (Aa Ah Ad))))))) (λ_ _ _ _=>(Ai (i:=0) SE rfl (Or.inl rfl) (Or.inr rfl))) (λ_ _ _ _=>Bp) (λ_ _ _ _=>(Bl (Aa (vv 0) (Aa (Ak ii I rfl (Aa (vv 1) (Aa Ah Ad))) Ad)))) (Aw (N:=MF) (pn:=(Af Yu).names) (by decide +kernel))) Ad)))
   (Ae (Av (i:=2) Iv.nd rfl (Or.inr rfl) (Eo (Bl (Aa Mn (Aa Mn Ad))) Fv (Fw (Bd Cc Ah (Ak ii I rfl (Aa (vv 0) (Aa Ah Ad)))))))
   (Ae (Av (i:=3) Iv.nd rfl (Or.inl rfl) (Bv Ad))
   (Ae (B6 ZD rfl (Cy rfl al (Aa (Ak ii I rfl (Aa (vv 0) (Aa Ah Ad))) Ad)) (Ai (i:=4) Iv.nd rfl (Or.inl rfl)) (Ae (Jm (Bt (N':=["_law_some","_law_state"]) (mp:=[none,some 0]) rfl (Bf (Bl (Aa (vv 1) (Aa (vv 2) (Aa (vv 1) Ad))))) (λ_ _ _ _=>(Ai (i:=0) SF rfl (Or.inl rfl) (Or.inr rfl))) (λ_ _ _ _=>Bp) (λ_ _ _ _=>(Ak ii I rfl (Aa (vv 1) (Aa (Ba Da rfl ai ZV (Aa (vv 0) Ad)) Ad)))) (Aw (N:=MF) (pn:=(Af Yu).names) (by decide +kernel))) (CQ (n:=3) rfl (Aq (Ai (i:=5) Iv.nd rfl (Or.inr rfl)) (Aq (Ai (i:=6) Iv.nd rfl (Or.inr rfl)) (Aq (Ai (i:=7) Iv.nd rfl (Or.inl rfl)) B0)))))
   (Ae (Av (i:=8) Iv.nd rfl (Or.inl rfl) (Ap A7 (Bv (Aa Ah (Aa Ah (Aa Ah (Aa Ah Ad))))) (Ak ii I rfl (Aa (vv 0) (Aa Ah Ad)))))
   (Ae (Db (Bk (Hh I) (Ba Da rfl ai ZV (Aa (Bt (N':=["_law_rule"]) (mp:=[none]) rfl (Bf (vv 3)) (λ_ _ _ _=>(Ai (i:=0) SG rfl (Or.inl rfl) (Or.inr rfl))) (λ_ _ _ _=>(C1 (Bk (Hh I) (Ba Da rfl ai ZV (Aa (Ap A7 (vv 0) Ah) Ad)) Ah (nomark _)))) (λ_ _ _ _=>(vv 0)) (Aw (N:=MF) (pn:=(Af Yu).names) (by decide +kernel))) Ad)) Ah (nomark _)) (Aj (Av (i:=8) Iv.nd rfl (Or.inl rfl) (Ba (HW rfl) rfl d8 gI (Aa (vv 8) (Aa Ah Ad))))) B1)
   (Ae (Av (i:=9) Iv.nd rfl (Or.inl rfl) (Bl (Aa (vv 5) (Aa (vv 6) (Aa (vv 7) (Aa (Bu Cp rfl aj ZT (Aa (Bt (N':=["_law_j","_law_state","_law_letters"]) (mp:=[none,some 0,some 2]) rfl (Cy rfl al (Aa (vv 8) Ad)) (λ_ _ _ _=>(Ai (i:=0) SH rfl (Or.inl rfl) (Or.inr rfl))) (λ_ _ _ _=>Bp) (λ_ _ _ _=>(Ak ii I rfl (Aa (vv 1) (Aa (Ba Da rfl ai ZV (Aa (vv 2) Ad)) Ad)))) (Aw (N:=MF) (pn:=(Af Yu).names) (by decide +kernel))) Ad)) Ad))))))
   (Ae (C7 (i:=10) (N':=["_law_one","_law_p","_law_x"]) (mp:=[none,some 5,some 6]) rfl Iv.nd rfl rfl (Bf (vv 3)) (λ_ _ _ _=>(Ai (i:=0) SI rfl (Or.inl rfl) (Or.inr rfl))) (λ_ _ _ _=>(C1 (Bk (Hh I) (Eo (vv 0) Fv (Fw Ah)) (Bl (Aa (vv 1) (Aa (vv 2) Ad))) (nomark _)))) (λ_ _ _ _=>(vv 0)) (Aw (N:=MF) (pn:=(Af Yu).names) (by decide +kernel)))
   (Aj (Db (VW.pt (E4 (Bk (BI I) (vv 9) (vv 3) (by with_unfolding_all rfl)) (Dn (VW.pt (Jj (Bk (Hh I) (Ap A7 (Ap A7 (vv 1) (vv 5)) Ah) Ah (nomark _)) (Hf (Bk BJ (Ba Da rfl ai ZV (Aa (vv 10) Ad)) Ah (nomark _)))))))) (Aj (B2 (Eb aJ aK Dg (vv 3) (Aa (vv 9) Ad)))) B1))))))))
   (Aj (Be (Bl (Aa (vv 1) (Aa (vv 2) (Aa (Bu Cp rfl aj ZT (Aa (vv 3) Ad)) Ad)))))))))),?_⟩
 rintro xs μ R _ ⟨a,l,rfl,hP,q⟩
 refine A0 (fun τ μ'=>∃(L:List (Str×Nat)),τ=[some (.R a),some (.D (.tuple (L.map Sn))),none,none,none,none,none,none,none,none,none]/\0 < L.length/\L.length<=2/\Pot μ' a l/\B4 a l μ μ') (λZ hZ=>?_) ?_
 ·intro pz hpz
  have hnz:=hP.ne hpz
  refine⟨a,l,2,rfl,hP.new hpz,by decide,by decide,λv μ1 hv P1 S1=>Ac (Al (S1 pz _ hnz.1.symm hnz.2.symm Ab)) λU i6=>?_⟩
  obtain⟨m,ez,hz0,rf⟩:∃m:List Str,Wm [.D (.str "p"),.D (.str "q")] none (some (1+(v:Int)))=m.map (λz=>.D (.str z))/\0 < m.length/\m.length<=2:=by
   match v,hv with
   | 0,_=>exact⟨["p"],rfl,by decide,by decide⟩
   | 1,_=>exact⟨["p","q"],rfl,by decide,by decide⟩
  have gp:=P1.ne i6
  have S2:B4 a l μ (An μ1 U (.lst (m.map λz=>.D (.str z)))):=((B4.refl.new hpz).trans S1).new i6
  have Y:Pot (An μ1 U (.lst (m.map λz=>.D (.str z)))) a l:=P1.new i6
  have e2:An μ1 U (.lst (m.map λz=>.D (.str z))) U=some (.lst (m.map λz=>.D (.str z))):=Ab
  show opt (items (An μ1 U (.lst (Wm [.D (.str "p"),.D (.str "q")] none (some (1+(v:Int)))))) (.R U)) _
  rw [ez]
  generalize An μ1 U (.lst (m.map λz=>.D (.str z)))=μ2 at S2 Y e2
  refine Ac (Al e2) λC d=>?_
  have G:=Y.ne d
  have hzc:U≠C:=by rintro rfl;rw [e2]at d;cases d
  refine Dv (λj b τ μ'=>∃(o:Option AV) (L:List (Str×Nat)),τ=[o,some (.R a)]/\b=L.map WG/\L.length=j/\μ' C=some (.lst b)/\μ' U=some (.lst (m.map λz=>.D (.str z)))/\Pot μ' a l/\B4 a l μ2 μ') ⟨none,[],rfl,rfl,rfl,Ab,by rw [Ag hzc];exact e2,Y.new d,B4.refl.new d⟩ (λ_ _ _ _ ⟨_,_,_,_,_,_,e,_⟩=>Al e) ?_ ?_
  ·rintro j y b τ μ3 Z2 hy ⟨o,L,rfl,rfl,hL,e3,z3,P3,S3⟩ hZ2
   rw [H_]at hy
   obtain⟨z,hz,rfl⟩:=F_.mp hy
   have hj:j < m.length:=(E_.mp hz).1
   refine Lf rfl ⟨a,l,2,rfl,P3,by decide,by decide,λh μ4 hh P4 S4=>?_⟩
   exact⟨S4 C _ G.1.symm G.2.symm e3,A5 (by rw [B_];omega),hZ2 _ _ _ ⟨_,L++[(z,h)],rfl,by rw [N_];rfl,by rw [L_,hL];rfl,Ab,by rw [Ag hzc];exact S4 U _ gp.1.symm gp.2.symm z3,P4.other G.1 G.2,(S3.trans S4).put d⟩⟩
  ·rintro b τ μ3 ⟨o,L,rfl,rfl,hL,e3,z3,P3,S3⟩
   rw [B_]at hL
   exact Ac (Al e3) (Ac (DX L) (hZ _ _ ⟨L,rfl,by omega,by omega,P3,S2.trans S3⟩))
 rintro τ μ1 ⟨L,rfl,hL0,hL2,P1,S1⟩
 refine A0 (fun τ μ'=>∃(m:List Str),τ=[some (.R a),some (.D (.tuple (L.map Sn))),some (.D (.tuple (m.map PyData.str))),none,none,none,none,none,none,none,none]/\0 < m.length/\m.length<=2/\Pot μ' a l/\B4 a l μ μ') (λZ hZ=>?_) ?_
 ·refine⟨a,l,2,rfl,P1,by decide,by decide,λv μ2 hv Y S2=>?_⟩
  match v,hv with
  | 0,_=>exact hZ _ _ ⟨["x"],rfl,by decide,by decide,Y,S1.trans S2⟩
  | 1,_=>exact hZ _ _ ⟨["x","y"],rfl,by decide,by decide,Y,S1.trans S2⟩
 rintro τ μ2 ⟨m,rfl,hz0,rf,Y,S2⟩
 have dl:(L.map Sn).length=L.length:=B_ _
 have dz:(m.map PyData.str).length=m.length:=B_ _
 generalize hLt:L.map Sn=Lt at dl
 generalize hzt:m.map PyData.str=zt at dz
 intro g fq
 have G:=Y.ne fq
 have ni:=S2.none G.1 G.2 fq
 refine A0 (fun τ μ'=>∃o4 o5 o6 o7 o8 X S,∃B:List Rq,τ=[some (.R a),some (.D (.tuple Lt)),some (.D (.tuple zt)),some (.R g),o4,o5,o6,o7,o8,X,S]/\μ' g=some (.lst (B.map Gn))/\B.length<=8/\(∀r∈B,r.p < L.length/\r.q < L.length/\r.x < 2/\r.w.length<=2)/\Pot μ' a l/\B4 a l μ μ') (λZ hZ=>?_) ?_
 ·refine⟨a,l,5,rfl,Y.new fq,by decide,by decide,λak μ3 ic P3 S3=>⟨by omega,by omega,?_⟩⟩
  have e3:=S3 g _ G.1.symm G.2.symm Ab
  have ag:(Gk 0 (ak:Int).toNat).length=ak:=by rw [B3];omega
  refine Co (λi τ μ'=>∃o4 o5 o6 o7 o8 X S,∃B:List Rq,τ=[some (.R a),some (.D (.tuple Lt)),some (.D (.tuple zt)),some (.R g),o4,o5,o6,o7,o8,X,S]/\μ' g=some (.lst (B.map Gn))/\B.length<=i/\(∀r∈B,r.p < L.length/\r.q < L.length/\r.x < 2/\r.w.length<=2)/\Pot μ' a l/\B4 a l μ μ') ⟨none,none,none,none,none,none,none,[],rfl,e3,I_ _,(λ_ z=>nomatch z),P3,(S2.new fq).trans S3⟩ (λ_ _ _ _=>trivial) ?_ ?_
  ·rintro i y τ μ4 Z2 hy ⟨o4,o5,o6,o7,o8,X,S,B,rfl,e4,hB,kB,P4,S4⟩ hZ2
   have hi:i < ak:=by rw [<- ag];exact(E_.mp hy).1
   refine A0 (fun τ μ'=>∃p x t:Nat,τ=[some (.R a),some (.D (.tuple Lt)),some (.D (.tuple zt)),some (.R g),some y,some (.D (.int p)),some (.D (.int x)),some (.D (.int t)),o8,X,S]/\p < L.length/\x < m.length/\t < L.length/\μ' g=some (.lst (B.map Gn))/\Pot μ' a l/\B4 a l μ μ') (λZ3 T=>?_) ?_
   ·refine Ac (x:=[.D (.tuple Lt),.D (.tuple zt),.D (.tuple Lt)]) rfl λC d=>?_
    have J:=P4.ne d
    have Q:g≠C:=by rintro rfl;rw [e4]at d;cases d
    refine Dv (λj b τ μ'=>∃(o:Option AV) (vs:List Nat),τ=[o,some (.R a)]/\b=vs.map Ck/\vs.length=j/\(∀k v,vs[k]?=some v->v < [L.length,m.length,L.length].getD k 0)/\μ' C=some (.lst b)/\μ' g=some (.lst (B.map Gn))/\Pot μ' a l/\B4 a l μ μ') ⟨none,[],rfl,rfl,rfl,(λk v z=>by simp at z),Ab,by rw [Ag Q];exact e4,P4.new d,S4.new d⟩ (λ_ _ _ _ _=>rfl) ?_ ?_
    ·rintro j z b τ μ5 Z4 hz ⟨o,vs,rfl,rfl,hvl,O,c5,e5,P5,S5⟩ md
     obtain⟨ds,rfl,hds,hd0,hd3⟩:∃ds:List jG,z=.D (.tuple ds)/\ds.length=[L.length,m.length,L.length].getD j 0/\0 < ds.length/\ds.length<=2:=by
      match j,hz with
      | 0,hz=>cases hz;exact⟨_,rfl,dl,by omega,by omega⟩
      | 1,hz=>cases hz;exact⟨_,rfl,dz,by omega,by omega⟩
      | 2,hz=>cases hz;exact⟨_,rfl,dl,by omega,by omega⟩
      | k+3,hz=>simp at hz
     have hj:j < 3:=(E_.mp hz).1
     refine Lf rfl ⟨a,l,ds.length,rfl,P5,hd0,by omega,λv μ6 hv P6 S6=>?_⟩
     refine⟨S6 C _ J.1.symm J.2.symm c5,A5 (by rw [B_];omega),md _ _ _ ⟨_,vs++[v],rfl,by rw [N_];rfl,by rw [L_,hvl];rfl,λk u hu=>?_,Ab,by rw [Ag Q];exact S6 g _ G.1.symm G.2.symm e5,P6.other J.1 J.2,(S5.trans S6).put (S4.none J.1 J.2 d)⟩⟩
     rcases aB k vs.length with c | c
     ·rw [aT c]at hu;exact O k u hu
     ·rw [aD c]at hu
      have hk:=(E_.mp hu).1
      rw [eO]at hk
      rw [show k - vs.length=0 by omega]at hu
      cases hu
      rw [show k=j by omega,<- hds];exact hv
    ·rintro b τ μ5 ⟨o,vs,rfl,rfl,hvl,O,c5,e5,P5,S5⟩
     match vs,hvl with
     | [p,x,t],_=>exact Ac c5 ⟨rfl,T _ _ ⟨p,x,t,rfl,O 0 p rfl,O 1 x rfl,O 2 t rfl,e5,P5,S5⟩⟩
   rintro τ μ5 ⟨p,x,t,rfl,hp,hx,ht,e5,P5,S5⟩
   refine A0 (fun τ μ'=>∃M:Nat,τ=[some (.R a),some (.D (.tuple Lt)),some (.D (.tuple zt)),some (.R g),some y,some (.D (.int p)),some (.D (.int x)),some (.D (.int t)),some (.D (.int M)),X,S]/\M<=2/\μ' g=some (.lst (B.map Gn))/\Pot μ' a l/\B4 a l μ μ') (λZ3 T=>?_) ?_
   ·intro p8 t4
    have hn8:=P5.ne t4
    refine⟨a,l,4,rfl,P5.new t4,by decide,by decide,λv μ6 hv P6 S6=>?_⟩
    have V:=S6 p8 _ hn8.1.symm hn8.2.symm Ab
    have eB1:=S6 g _ G.1.symm G.2.symm (by rw [Ag (by rintro rfl;rw [e5]at t4;cases t4)];exact e5)
    obtain⟨wd,ew,hw⟩:∃wd:Nat,([0,0,1,2]:List Nat)[v]?=some wd/\wd<=2:=by
     match v,hv with
     | 0,_=>exact⟨_,rfl,by decide⟩
     | 1,_=>exact⟨_,rfl,by decide⟩
     | 2,_=>exact⟨_,rfl,by decide⟩
     | 3,_=>exact⟨_,rfl,by decide⟩
    exact Ac V (Ac (Ao (j:=v) (xs:=[0,0,1,2].map Ck) (by rw [H_,ew];rfl)) (T _ _ ⟨wd,rfl,hw,eB1,P6,(S5.new t4).trans S6⟩))
   rintro τ μ6 ⟨sz0,rfl,hsz0,e6,P6,S6⟩
   refine A0 (fun τ μ'=>∃M:Nat,τ=[some (.R a),some (.D (.tuple Lt)),some (.D (.tuple zt)),some (.R g),some y,some (.D (.int p)),some (.D (.int x)),some (.D (.int t)),some (.D (.int M)),X,S]/\M<=2/\μ' g=some (.lst (B.map Gn))/\Pot μ' a l/\B4 a l μ μ') (λZ3 T=>?_) ?_
   ·refine Ac (Al e6) λC d=>?_
    have J:=P6.ne d
    have Q:g≠C:=by rintro rfl;rw [e6]at d;cases d
    refine cmapf B Gn (λr=>decide (r.w.length=2)) Gn (fun τ=>∃o,τ=[o]) ⟨none,rfl⟩ Ab (seven (by omega)) (λb=>Al (by rw [Bh,Ag Q];exact e6)) ?_ ?_
    ·rintro k r τ' b W W2 hk ⟨o,rfl⟩ h1 h2
     exact Ac (Ao (j:=3) rfl) (ieq (λc1=>h1 (YW (by rw [B_]at c1;omega)) _ ⟨_,rfl⟩) (λc1=>h2 (ZB λz=>c1 (by rw [B_,z];rfl)) _ ⟨_,rfl⟩))
    ·rw [Bh]
     have e7:An μ6 C (.lst ((B.filter λr=>decide (r.w.length=2)).map Gn)) g=some (.lst (B.map Gn)):=by rw [Ag Q];exact e6
     have P7:=P6.new (o:=.lst ((B.filter λr=>decide (r.w.length=2)).map Gn)) d
     have S7:=S6.new (o:=.lst ((B.filter λr=>decide (r.w.length=2)).map Gn)) d
     refine Ac Ab (ieq (λ_=>?_) (λ_=>T _ _ ⟨sz0,rfl,hsz0,e7,P7,S7⟩))
     refine T _ _ ⟨if(1:Int) < sz0 then 1 else sz0,?_,by split <;> omega,e7,P7,S7⟩
     split <;> rfl
   rintro τ μ7 ⟨M,rfl,hsz,e7,P7,S7⟩
   refine A0 (fun τ μ'=>∃r:Rq,τ=[some (.R a),some (.D (.tuple Lt)),some (.D (.tuple zt)),some (.R g),some y,some (.D (.int p)),some (.D (.int x)),some (.D (.int t)),some (.D (.int M)),some (Gn r),S]/\(r.p < L.length/\r.q < L.length/\r.x < 2/\r.w.length<=2)/\μ' g=some (.lst (B.map Gn))/\Pot μ' a l/\B4 a l μ μ') (λZ3 T=>?_) ?_
   ·refine⟨by omega,by omega,λC d=>?_⟩
    have J:=P7.ne d
    have Q:g≠C:=by rintro rfl;rw [e7]at d;cases d
    have kn:(Gk 0 (M:Int).toNat).length=M:=by rw [B3];omega
    refine Dv (λj b τ μ'=>∃(o:Option AV) (ns:List Nat),τ=[o,some (.R a),some (.D (.tuple zt))]/\b=ns.map Ck/\ns.length=j/\μ' C=some (.lst b)/\μ' g=some (.lst (B.map Gn))/\Pot μ' a l/\B4 a l μ7 μ') ⟨none,[],rfl,rfl,rfl,Ab,by rw [Ag Q];exact e7,P7.new d,B4.refl.new d⟩ (λ_ _ _ _ _=>trivial) ?_ ?_
    ·rintro j z b τ μ8 Z4 hz ⟨o,ns,rfl,rfl,hn,c8,V,P8,S8⟩ md
     have hj:j < M:=by rw [<- kn];exact(E_.mp hz).1
     exact Lf rfl ⟨a,l,zt.length,rfl,P8,by omega,by omega,λv μ9 hv P9 S9=>⟨S9 C _ J.1.symm J.2.symm c8,A5 (by rw [B_];omega),md _ _ _ ⟨_,ns++[v],rfl,by rw [N_];rfl,by rw [L_,hn];rfl,Ab,by rw [Ag Q];exact S9 g _ G.1.symm G.2.symm V,P9.other J.1 J.2,(S8.trans S9).put d⟩⟩⟩
    ·rintro b τ μ8 ⟨o,ns,rfl,rfl,hn,c8,V,P8,S8⟩
     rw [kn]at hn
     exact Ac (Al c8) (Ac (D4 ns) (T _ _ ⟨⟨p,x,t,ns⟩,rfl,⟨hp,ht,X_ hx rf,(show ns.length<=2 by omega)⟩,V,P8,S7.trans S8⟩))
   rintro τ μ8 ⟨r,rfl,I,V,P8,S8⟩
   refine A0 (fun τ μ'=>∃pa ys,τ=[some (.R a),some (.D (.tuple Lt)),some (.D (.tuple zt)),some (.R g),some y,some (.D (.int p)),some (.D (.int x)),some (.D (.int t)),some (.D (.int M)),some (Gn r),some (.R pa)]/\μ' pa=some (.lst ys)/\μ' g=some (.lst (B.map Gn))/\Pot μ' a l/\B4 a l μ μ') (λZ3 T=>?_) ?_
   ·refine Ac (Al V) λC d=>?_
    have J:=P8.ne d
    have Q:g≠C:=by rintro rfl;rw [V]at d;cases d
    refine cmapf B Gn (λr=>PyData.eqv (Ax [r.p,r.x]) (Ax [p,x])) Gn (fun τ=>∃o,τ=[o,some (.D (.int p)),some (.D (.int x))]) ⟨none,rfl⟩ Ab (seven (by omega)) (λb=>Al (by rw [Bh,Ag Q];exact V)) ?_ ?_
    ·rintro j r' τ' b W W2 hj ⟨o,rfl⟩ h1 h2
     exact⟨Fy (ns:=[r'.p,r'.x]),Fy (ns:=[p,x]),br (λc=>h1 c _ ⟨_,rfl⟩) (λc=>h2 c _ ⟨_,rfl⟩)⟩
    ·rw [Bh]
     exact T _ _ ⟨C,_,rfl,Ab,by rw [Ag Q];exact V,P8.new d,S8.new d⟩
   rintro τ μ9 ⟨pa,ys,rfl,a9,e9,P9,S9⟩
   have no:Z2 [some (.R a),some (.D (.tuple Lt)),some (.D (.tuple zt)),some (.R g),some y,some (.D (.int p)),some (.D (.int x)),some (.D (.int t)),some (.D (.int M)),some (Gn r),some (.R pa)] μ9:=hZ2 _ _ ⟨_,_,_,_,_,_,_,B,rfl,e9,by omega,kB,P9,S9⟩
   have put:N1 μ9 (.R g)/\Mq (.R g) [Gn r] μ9 λ_ μ1=>Z2 [some (.R a),some (.D (.tuple Lt)),some (.D (.tuple zt)),some (.R g),some y,some (.D (.int p)),some (.D (.int x)),some (.D (.int t)),some (.D (.int M)),some (Gn r),some (.R pa)] μ1:=by
    refine⟨Ac e9 trivial,Ac e9 ⟨A5 (by rw [B_];omega),hZ2 _ _ ⟨_,_,_,_,_,_,_,B++[r],rfl,by rw [Ab,N_];rfl,by rw [L_];show B.length+1<=_;omega,λr2 mn=>?_,P9.other G.1 G.2,S9.put ni⟩⟩⟩
    rcases G_.mp mn with h | h
    ·exact kB r2 h
    ·rw [P_.mp h];exact I
   refine Ac rfl (Ac (Al e9) (Ac (Tm B) ⟨DY r,Zs B,br (λ_=>?_) (λ_=>Lg rfl no)⟩))
   have hpl:Lt[p]?=some (Sn L[p]):=by rw [<- hLt,H_,J_ hp];rfl
   exact Ac (Ao hpl) (Ac (Ao (j:=1) rfl) (ieq (λ_=>Lf rfl put) (λ_=>Ac a9 (dif (λ_=>put) (λ_=>no)))))
  ·rintro τ μ4 ⟨o4,o5,o6,o7,o8,X,S,B,rfl,e4,hB,kB,P4,S4⟩
   rw [ag]at hB
   exact hZ _ _ ⟨_,_,_,_,_,_,_,B,rfl,e4,by omega,kB,P4,S4⟩
 rintro τ μ3 ⟨o4,o5,o6,o7,o8,X,S,B,rfl,e3,hB,kB,P3,S3⟩
 subst hLt hzt
 exact Ac (Al e3) (Ac (Tm B) ⟨_,Sub.refl,q ⟨L,m,B⟩ _ ⟨hL0,hL2,hz0,rf,hB,kB⟩ P3 S3⟩)
abbrev WR:List Str:=["_law_state","_law_game","_law_many","_law_places","_law_arrows","_law_k","_law_stand","_law_targets","_law_ends"]
theorem Pg:FnScope WR ["_law_state","_law_game"] (Af JP):=⟨rfl,rfl,rfl,by decide +kernel,rfl,by decide +kernel,by decide +kernel⟩
theorem SK:(["_law_stand","_law_state"]:List Str).Nodup:=by decide +kernel
structure AwS(np ak:Nat)(a:Arw):Prop where
 c:a.c=none
 p:a.p < np+ak
 x:a.x < 2
 t:∀t∈a.ts,np<=t/\t < np+ak
 n:a.ts.length<=1
def KU:ASp:=λb μ R=>∃(a l:jH) (g:Gq),b=[.R a,.D (D5 g)]/\GsOk g/\Pot μ a l/\∀(s:Say) μ',SyOk g s->Sz s 3 1 3->s.own<=1->Pot μ' a l->B4 a l μ μ'->R (.D (Bm s)) μ'
theorem SL{n:Nat}(F:Fun K "_law_small_saying" "_law_small_saying" JP f fd) (X:VCal P w K mg base n "_law_draw" ["_law_state","_law_many"] JR) (ai:mg "len" = none) (al:mg "range" = none) (aj:mg "tuple" = none) (ao:mg "sorted" = none) (cf:mg "set" = none):FnOk P w K mg base Ea (n+1) f fd ["_law_state","_law_game"] (Fg K 2 KU):=by
 refine F.vok Pg λau A outer s H E M=>⟨_,(Ae (Av (i:=2) Pg.nd rfl (Or.inl rfl) (Ak X M rfl (Aa (vv 0) (Aa Ah Ad))))
   (Ae (Av (i:=3) Pg.nd rfl (Or.inl rfl) (Ba Da rfl ai ZV (Aa (Ap A7 (vv 1) Ah) Ad)))
   (Ae (Av (i:=4) Pg.nd rfl (Or.inl rfl) (Bv Ad))
   (Ae (B6 ZD rfl (Cy rfl al (Aa (Ak X M rfl (Aa (vv 0) (Aa Ah Ad))) Ad)) (Ai (i:=5) Pg.nd rfl (Or.inl rfl)) (Ae (Av (i:=6) Pg.nd rfl (Or.inl rfl) (Ak X M rfl (Aa (vv 0) (Aa (Bd Cc (vv 3) (vv 2)) Ad))))
   (Ae (Av (i:=7) Pg.nd rfl (Or.inl rfl) (Bd JA (Bl (Aa (vv 3) Ad)) (Bd Jl (vv 2) (Ak X M rfl (Aa (vv 0) (Aa Ah Ad))))))
   (Aj (B2 (Eb aJ aK Dg (vv 4) (Aa (Bl (Aa (vv 6) (Aa (Ak X M rfl (Aa (vv 0) (Aa (Ba Da rfl ai ZV (Aa (Ap A7 (vv 1) Ah) Ad)) Ad))) (Aa (vv 7) Ad)))) Ad)))))))
   (Ae (Av (i:=8) Pg.nd rfl (Or.inl rfl) (Bu Cp rfl aj ZT (Aa (Bt (N':=["_law_stand","_law_state"]) (mp:=[none,some 0]) rfl (Cy rfl al (Aa (Bd Cc (vv 3) (vv 2)) Ad)) (λ_ _ _ _=>(Ai (i:=0) SK rfl (Or.inl rfl) (Or.inr rfl))) (λ_ _ _ _=>(C1 (Bk (Hh M) (Ak X M rfl (Aa (vv 1) (Aa Ah Ad))) Ah (nomark _)))) (λ_ _ _ _=>(vv 0)) (Aw (N:=WR) (pn:=(Af JP).names) (by decide +kernel))) Ad)))
   (Aj (Be (Bl (Aa (vv 2) (Aa (Bu Cp rfl aj ZT (Aa (Kj M rfl ao rfl cf (vv 4)) Ad)) (Aa (vv 8) Ad))))))))))),?_⟩
 rintro xs μ R _ ⟨a,l,g,rfl,hg,hP,q⟩
 have hp0:=hg.p0
 have ga:=hg.p2
 refine C2 ⟨a,l,2,rfl,hP,by decide,by decide,λk μ1 hm P1 S1=>?_⟩
 refine A0 (fun τ μ'=>τ=[some (.R a),some (.D (D5 g)),some (.D (.int k)),some (.D (.int g.pl.length)),none,none,none,none,none]/\μ1=μ') (λZ V=>Ac (Ao (j:=0) rfl) (by rw [<- B_ (f:=Sn)]at V;exact V _ _ ⟨rfl,rfl⟩)) ?_
 rintro τ _ ⟨rfl,rfl⟩
 intro m fq
 have r:=P1.ne fq
 have ni:μ m=none:=S1.none r.1 r.2 fq
 refine A0 (fun τ μ'=>∃S T Q,∃B:List Arw,τ=[some (.R a),some (.D (D5 g)),some (.D (.int k)),some (.D (.int g.pl.length)),some (.R m),S,T,Q,none]/\μ' m=some (.lst (B.map λb=>.D (Bb b)))/\B.length<=3/\(∀b∈B,AwS g.pl.length k b)/\Pot μ' a l/\B4 a l μ μ') (λZ V=>?_) ?_
 ·refine⟨a,l,4,rfl,P1.new fq,by decide,by decide,λc μ2 hc P2 S2=>⟨by omega,by omega,?_⟩⟩
  have ag:(Gk 0 (c:Int).toNat).length=c:=by rw [B3];omega
  refine Co (λi τ μ'=>∃S T Q,∃B:List Arw,τ=[some (.R a),some (.D (D5 g)),some (.D (.int k)),some (.D (.int g.pl.length)),some (.R m),S,T,Q,none]/\μ' m=some (.lst (B.map λb=>.D (Bb b)))/\B.length<=i/\(∀b∈B,AwS g.pl.length k b)/\Pot μ' a l/\B4 a l μ μ') ⟨none,none,none,[],rfl,S2 m _ r.1.symm r.2.symm Ab,I_ _,(λ_ z=>nomatch z),P2,(S1.new fq).trans S2⟩ (λ_ _ _ _=>trivial) ?_ ?_
  ·rintro i y τ μ3 Z2 hy ⟨S,T,Q,B,rfl,L,hB,W,I,u⟩ hZ2
   have hi:i < c:=by rw [<- ag];exact(E_.mp hy).1
   refine C2 ⟨a,l,g.pl.length+k,rfl,I,by omega,by omega,λp μ4 hp P4 S4=>?_⟩
   have e4:=S4 m _ r.1.symm r.2.symm L
   refine A0 (fun τ μ'=>∃ts,τ=[some (.R a),some (.D (D5 g)),some (.D (.int k)),some (.D (.int g.pl.length)),some (.R m),some y,some (.D (.int p)),some (.D (Ax ts)),none]/\(∀t∈ts,g.pl.length<=t/\t < g.pl.length+k)/\ts.length<=1/\μ' m=some (.lst (B.map λb=>.D (Bb b)))/\Pot μ' a l/\B4 a l μ μ') (λZ3 bg=>?_) ?_
   ·refine⟨a,l,2,rfl,P4,by decide,by decide,λv μ5 hv P5 S5=>?_⟩
    have U:=S5 m _ r.1.symm r.2.symm e4
    have J:=(u.trans S4).trans S5
    match k,v,hm,hv with
    | 0,0,_,_=>exact⟨.inl ⟨by decide,by decide⟩,.inl rfl,nofun,bg _ _ ⟨[],rfl,nofun,by decide,U,P5,J⟩⟩
    | 0,1,_,_=>exact⟨.inl ⟨by decide,by decide⟩,.inl rfl,nofun,bg _ _ ⟨[],rfl,nofun,by decide,U,P5,J⟩⟩
    | 1,0,_,_=>exact⟨.inl ⟨by decide,by decide⟩,.inl rfl,nofun,bg _ _ ⟨[],rfl,nofun,by decide,U,P5,J⟩⟩
    | 1,1,_,_=>exact⟨.inl ⟨by decide,by decide⟩,.inr rfl,nofun,bg _ _ ⟨[g.pl.length],rfl,λt ht=>by rw [P_.mp ht];omega,I_ _,U,P5,J⟩⟩
   rintro τ μ5 ⟨ts,rfl,hts,htl,U,P5,S5⟩
   refine⟨Ac U trivial,Ac (Ao (j:=1) rfl) ⟨a,l,g.le.length,by rw [B_],P5,hg.l0,dF hg.l2 (by decide),λx μ6 hx P6 S6=>?_⟩⟩
   have e6:=S6 m _ r.1.symm r.2.symm U
   refine Ac e6 ⟨A5 (by rw [B_];omega),hZ2 _ _ ⟨_,_,_,B++[⟨p,x,ts,none⟩],rfl,by rw [Ab,N_];rfl,by rw [L_];show B.length+1<=_;omega,λb hb=>?_,P6.other r.1 r.2,(S5.trans S6).put ni⟩⟩
   rcases G_.mp hb with hb | hb
   ·exact W b hb
   ·rw [P_.mp hb]
    exact⟨rfl,hp,X_ hx hg.l2,hts,htl⟩
  ·rintro τ μ3 ⟨S,T,Q,B,rfl,L,hB,W,I,u⟩
   rw [ag]at hB
   exact V _ _ ⟨_,_,_,B,rfl,L,by omega,W,I,u⟩
 rintro τ μ2 ⟨S,T,Q,B,rfl,e2,hB,W,P2,S2⟩
 refine A0 (fun τ μ'=>∃ns:List Nat,τ=[some (.R a),some (.D (D5 g)),some (.D (.int k)),some (.D (.int g.pl.length)),some (.R m),S,T,Q,some (.D (Ax ns))]/\ns.Sublist (List.range (g.pl.length+k))/\μ' m=some (.lst (B.map λb=>.D (Bb b)))/\Pot μ' a l/\B4 a l μ μ') (λZ V=>?_) ?_
 ·refine⟨by omega,by omega,λpc ap=>?_⟩
  rw [show((g.pl.length:Int)+(k:Int)).toNat=g.pl.length+k by omega,Na]
  have Y:=P2.ne ap
  have im:m≠pc:=by rintro rfl;rw [e2]at ap;cases ap
  refine Dv (λj G τ μ'=>∃(o:Option AV) (ns:List Nat),τ=[o,some (.R a)]/\G=ns.map Ck/\ns.Sublist ((List.range (g.pl.length+k)).take j)/\μ' pc=some (.lst G)/\μ' m=some (.lst (B.map λb=>.D (Bb b)))/\Pot μ' a l/\B4 a l μ μ') ⟨none,[],rfl,rfl,by simp,Ab,by rw [Ag im];exact e2,P2.new ap,S2.new ap⟩ (λ_ _ _ _ _=>trivial) ?_ ?_
  ·rintro j y G τ μ3 Z2 hy ⟨o,ns,rfl,rfl,h,c3,L,I,u⟩ hZ2
   rw [H_]at hy
   obtain⟨x,hx,rfl⟩:=F_.mp hy
   have ba:(List.range (g.pl.length+k)).take (j+1)=(List.range (g.pl.length+k)).take j++[x]:=by rw [Y_,hx];rfl
   refine⟨a,l,2,rfl,I,by decide,by decide,λv μ4 hv P4 S4=>?_⟩
   have c4:=S4 pc _ Y.1.symm Y.2.symm c3
   have e4:=S4 m _ r.1.symm r.2.symm L
   have hl:=h.length_le
   rw [ZX,aC]at hl
   refine ieq (λc=>⟨c4,A5 (by rw [B_];omega),hZ2 _ _ _ ⟨_,ns++[x],rfl,by rw [N_];rfl,by rw [ba];exact h.append (List.Sublist.refl _),Ab,by rw [Ag im];exact e4,P4.other Y.1 Y.2,(u.trans S4).put (S2.none Y.1 Y.2 ap)⟩⟩) (λc=>hZ2 _ _ _ ⟨_,ns,rfl,rfl,by rw [ba];exact h.trans (List.sublist_append_left _ _),c4,e4,P4,u.trans S4⟩)
  ·rintro G τ μ3 ⟨o,ns,rfl,rfl,h,c3,L,I,u⟩
   rw [B_,YY]at h
   exact Ac (Al c3) (Ac (D4 ns) (V _ _ ⟨ns,rfl,h,L,I,u⟩))
 rintro τ μ3 ⟨ns,rfl,h,L,I,u⟩
 refine Ac (Al L) (Ac (Km B) ⟨Pe (by omega) λb hb=>(W b hb).c,λes p hnd ff hp=>?_⟩)
 obtain⟨C,rfl,hC⟩:=Kn (f:=Bb) (B:=B) λe he=>(ff e).mp he
 have O:=Df hnd λd hd=>(ff d).mp hd
 rw [B_,B_]at O
 have fc:=h.length_le
 rw [aC]at fc
 have kC:=λb hb=>W b (hC b hb)
 refine Ac (Al Ab) (Ac (Cb _) ⟨_,Sub.refl,q ⟨k,C,ns⟩ _ ⟨⟨λb hb=>(kC b hb).t,λb hb=>(kC b hb).p,λb hb=>(kC b hb).c,λe he=>ZY.mp (h.subset he)⟩,Q_ (Q_ O hB) (by decide),λb hb=>(kC b hb).x,(by show g.pl.length+k<=5;omega)⟩ ⟨Q_ O hB,λb hb=>(kC b hb).n,(by show ns.length<=3;omega)⟩ (by show k<=1;omega) (I.new hp) (u.new hp)⟩)
abbrev WS:List Str:=["_law_letters","_law_found","_law_last","_law_k","_law_longer","_law_pile"]
theorem Ph:FnScope WS ["_law_letters"] (Af JQ):=⟨rfl,rfl,rfl,by decide +kernel,rfl,by decide +kernel,by decide +kernel⟩
theorem SM:(["_law_x","_law_pile"]:List Str).Nodup:=by decide +kernel
theorem DZ{n:Nat}:n<=4->2 ^ n<=16:=λh=>Nat.pow_le_pow_right (by decide) h
def KW:ASp:=λb μ R=>∃(m:Nat),b=[.D (.int (m:Nat))]/\m<=2/\∀(a:List (List Nat)) (p:jH) μ',μ' p=some (.lst (a.map λw=>.D (Ax w)))->Sub μ μ'->R (.R p) μ'
theorem SN{n:Nat}(F:Fun K "_law_piles" "_law_piles" JQ f fd) (al:mg "range" = none):FnOk P w K mg base Ea (n+1) f fd ["_law_letters"] (Fg K 1 KW):=by
 refine F.vok Ph λau A V s H E hr=>⟨_,(Ae (Av (i:=1) Ph.nd rfl (Or.inl rfl) (Bv (Aa (Bl Ad) Ad)))
   (Ae (Av (i:=2) Ph.nd rfl (Or.inl rfl) (Bv (Aa (Bl Ad) Ad)))
   (Ae (B6 ZD rfl (Cy rfl al (Aa Ah Ad)) (Ai (i:=3) Ph.nd rfl (Or.inl rfl)) (Ae (Av (i:=4) Ph.nd rfl (Or.inl rfl) (Bv Ad))
   (Ae (B6 ZD rfl (Bf (vv 2)) (Ai (i:=5) Ph.nd rfl (Or.inr rfl)) (Aj (B2 (Eb bI bJ Ep (vv 4) (Aa (Bt (N':=["_law_x","_law_pile"]) (mp:=[none,some 5]) rfl (Cy rfl al (Aa (vv 0) Ad)) (λ_ _ _ _=>(Ai (i:=0) SM rfl (Or.inl rfl) (Or.inr rfl))) (λ_ _ _ _=>Bp) (λ_ _ _ _=>(Bd Cc (Bl (Aa (vv 0) Ad)) (vv 1))) (Aw (N:=WS) (pn:=(Af JQ).names) (by decide +kernel))) Ad)))))
   (Ae (Av (i:=2) Ph.nd rfl (Or.inl rfl) (vv 4))
   (Aj (Av (i:=1) Ph.nd rfl (Or.inl rfl) (Bd Cc (vv 1) (vv 4))))))))
   (Aj (Be (vv 1)))))),?_⟩
 rintro xs μ R _ ⟨m,rfl,hm,q⟩
 intro a Q pl h
 have lg:a≠pl:=by rintro rfl;rw [Ab]at h;cases h
 refine A0 (fun τ μ'=>∃(a:jH) (o2 r t c:Option AV) (d:List (List Nat)),τ=[some (.D (.int (m:Nat))),some (.R a),o2,r,t,c]/\μ' a=some (.lst (d.map λw=>.D (Ax w)))/\Sub μ μ') (λZ M=>⟨by decide,by decide,?_⟩) (fun τ μ' ⟨a,_,_,_,_,d,e,h1,h2⟩=>by subst e;exact⟨_,Sub.refl,q d a μ' h1 h2⟩)
 refine Co (λi τ μ'=>∃(a pl:jH) (r t c:Option AV) (d p:List (List Nat)),τ=[some (.D (.int (m:Nat))),some (.R a),some (.R pl),r,t,c]/\μ' a=some (.lst (d.map λw=>.D (Ax w)))/\μ' pl=some (.lst (p.map λw=>.D (Ax w)))/\d.length<=2 ^ (i+1)/\p.length<=2 ^ i/\(∀w∈p,w.length<=i)/\Sub μ μ') ⟨a,pl,none,none,none,[[]],[[]],rfl,by rw [Ag lg,Ab];rfl,Ab,by decide,by decide,λw J=>by rw [P_.mp J];exact I_ _,(Sub.refl.new Q).new ((Sub.refl.new Q).none h)⟩ (λ_ _ _ _=>trivial) ?_ (fun τ μ' ⟨a,pl,r,t,c,d,p,e,h1,_,_,_,_,S⟩=>M _ _ ⟨a,_,r,t,c,d,e,h1,S⟩)
 clear lg Q h
 rintro i y τ μ1 Z2 hy ⟨a,pl,r,t,c,d,p,rfl,e1,T,hW,hL,O,S1⟩ hZ2
 have hi:i < 4:=(E_.mp hy).1
 have h16:=DZ (n:=i) (by omega)
 have nz:2 ^ (i+1)=2 ^ i+2 ^ i:=by rw [Nat.pow_succ];omega
 have ga:2 ^ (i+1+1)=2 ^ (i+1)+2 ^ (i+1):=by rw [Nat.pow_succ];omega
 intro pn C
 have ph:μ pn=none:=S1.none C
 have lm:a≠pn:=by rintro rfl;rw [e1]at C;cases C
 have X:pl≠pn:=by rintro rfl;rw [T]at C;cases C
 refine A0 (fun τ μ'=>∃(c:Option AV) (b:List (List Nat)),τ=[some (.D (.int (m:Nat))),some (.R a),some (.R pl),some y,some (.R pn),c]/\μ' a=some (.lst (d.map λw=>.D (Ax w)))/\μ' pn=some (.lst (b.map λw=>.D (Ax w)))/\b.length<=2 * p.length/\(∀w∈b,w.length<=i+1)/\Sub μ μ') (λZ M=>?_) ?_
 ·refine Ac (Al (by rw [Ag X];exact T)) ?_
  refine Co (λj τ μ'=>∃(c:Option AV) (b:List (List Nat)),τ=[some (.D (.int (m:Nat))),some (.R a),some (.R pl),some y,some (.R pn),c]/\μ' a=some (.lst (d.map λw=>.D (Ax w)))/\μ' pl=some (.lst (p.map λw=>.D (Ax w)))/\μ' pn=some (.lst (b.map λw=>.D (Ax w)))/\b.length<=2 * j/\(∀w∈b,w.length<=i+1)/\Sub μ μ') ⟨_,[],rfl,by rw [Ag lm];exact e1,by rw [Ag X];exact T,Ab,I_ _,nofun,S1.new ph⟩ (λ_ _ _ ⟨_,_,_,_,e,_⟩=>Al e) ?_ ?_
  ·rintro j u τ μ2 Z3 hu ⟨c,b,rfl,B,f2,l,I,g,z⟩ bg
   rw [H_]at hu
   obtain⟨w,J,rfl⟩:=F_.mp hu
   have hj:=(E_.mp J).1
   have U:=O w (U_ J)
   refine⟨Ac l trivial,by omega,by omega,λpc Y=>?_⟩
   rw [bU,Na]
   have dc:pn≠pc:=by rintro rfl;rw [l]at Y;cases Y
   refine cmap (List.range m) Ck (λx=>.D (Ax (x :: w))) (fun τ=>∃o,τ=[o,some (.D (Ax w))]) ⟨none,rfl⟩ Ab (seven (by rw [aC];omega)) (λ_=>trivial) ?_ ?_
   ·rintro k x τ' acc W hk ⟨o,rfl⟩ hW2
    exact⟨seven (show 1+(w.map λ(n:Nat)=>PyData.int n).length<=1000 by rw [B_];omega),hW2 _ ⟨_,rfl⟩⟩
   ·rw [Bh]
    have G:Sub μ2 (An μ2 pc (.lst ((List.range m).map λx=>.D (Ax (x :: w))))):=Sub.refl.new Y
    refine Ac (G _ _ l) (Ac Ab ⟨seven (by rw [B_,B_,aC];omega),bg _ _ ⟨_,b++(List.range m).map (· :: w),rfl,by rw [Ag lm];exact G _ _ B,by rw [Ag X];exact G _ _ f2,by rw [Ab,N_,YT];rfl,by rw [L_,B_,aC];omega,λv hv=>?_,Ex (z.trans G) ph⟩⟩)
    rcases G_.mp hv with hv | hv
    ·exact g v hv
    ·obtain⟨x,_,rfl⟩:=D_.mp hv
     exact eY U
  ·rintro τ μ2 ⟨c,b,rfl,B,f2,l,I,g,z⟩
   rw [B_]at I
   exact M _ _ ⟨_,b,rfl,B,l,I,g,z⟩
 rintro τ μ2 ⟨c,b,rfl,B,l,I,g,z⟩
 refine C2 (Ac B (Ac l ⟨seven (by rw [B_,B_];omega),λpq L=>hZ2 _ _ ⟨pq,pn,_,_,_,d++b,b,rfl,by rw [Ab,N_],?_,by rw [L_];omega,by omega,g,z.new (z.none L)⟩⟩))
 rw [Ag (by rintro rfl;rw [l]at L;cases L)];exact l
end
section
variable {P:jJ}{w:jK}{K:jI}{mg:Str->Option i_}{base:jN}{f:jH}{fd:jQ}
section
variable {g:Gq}{s t j:Say}{n l e:Nat}
theorem FM(hs:SyOk g s)(b:SyOk g t):∀a∈Kq g.pl.length s t,a.x < 2:=λa ha=>by
 rcases G_.mp ha with h | h
 ·exact hs.x a h
 ·obtain⟨c,hc,rfl⟩:=Eg.mp h
  exact b.x c hc
theorem SyOk.ei(J:Jn g.pl.length (Kq g.pl.length s t) (Ja g.pl.length s t) s t j)(hs:SyOk g s)(b:SyOk g t)(z:Sz j n l e)(h:n<=15)(c:g.pl.length+(s.own+t.own)<=5):SyOk g j :=
 ⟨RO J hs.d b.d,Q_ z.n h,λa ha=>FM hs b a ((J.a a).mp ha),by rw [J.o];exact c⟩
theorem SyOk.bo(J:Jn g.pl.length (Pk g.pl.length s t) (Pl g.pl.length s t) s t j)(hs:SyOk g s)(i:SyOk g t)(z:Sz j n l e)(m:n<=15)(k:g.pl.length+(s.own+t.own)<=5):SyOk g j :=
 ⟨RP J hs.d i.d,Q_ z.n m,λa ha=>by
  rcases G_.mp ((J.a a).mp ha) with h | h
  ·exact FM hs i a (ZC.mp h).1
  ·obtain⟨b,hb,hp,c,hc,q,p,rfl⟩:=E9.mp h
   exact hs.x b hb,by rw [J.o];exact k⟩
end
structure Sv(g:Gq)(s t:Say)(js:List Say):Prop where
 n:js.length=7
 l:∀j∈js,SyOk g j/\SayLe j
 s:∀(W:List Nat) (p:Nat),p < g.pl.length->js.map (λj=>rd j.as j.es W p)=[rd s.as s.es W p,rd t.as t.es W p,rd s.as s.es W p || rd t.as t.es W p,rd s.as s.es W p && rd t.as t.es W p,rd s.as s.es W p,rd s.as s.es W p,rd s.as s.es W p || rd t.as t.es W p]
structure Mk(g:Gq)(q:Say×List Arw):Prop where
 n:q.2.length<=400
 t:∀a∈q.2,a.ts.length<=400
 r:∀p w,p < g.pl.length->(rd q.2 q.1.es w p=true↔Pre g (λp w=>rd q.1.as q.1.es w p=true) p w)
 e:SayLe q.1
def WT(q:Say×List Arw):AV:=.D (.tuple [.tuple (q.2.map Bb),Ax q.1.es])
theorem EA{g:Gq}{q a:Say×List Arw}(h:Mk g q)(h':Mk g a)(hs:∀w p,p < g.pl.length->rd q.1.as q.1.es w p=true->rd a.1.as a.1.es w p=true){p:Nat}(hp:p < g.pl.length){w:List Nat}(z:rd q.2 q.1.es w p=true):rd a.2 a.1.es w p=true :=
 (h'.r p w hp).mpr (Pre.mono (λp w hp=>hs w p hp) ((h.r p w hp).mp z))
abbrev KY:List Str:=["_law_script","_law_state","_law_game","_law_one","_law_other","_law_some","_law_machines","_law_place","_law_pile","_law_told"]
theorem Gf:FnScope KY ["_law_script"] (Af Iu):=⟨rfl,rfl,rfl,by decide +kernel,rfl,by decide +kernel,by decide +kernel⟩
theorem KZ:(["_law_saying","_law_game"]:List Str).Nodup:=by decide +kernel
theorem Zt:(["_law_arrows","_law_ends","_law_place","_law_pile"]:List Str).Nodup:=by decide +kernel
def YL:ASp:=λa μ R=>∃(ns:List Int),a=[.D (Hv ns)]/\ns.length<=63/\∀ μ',R (.D (.bool true)) μ'
theorem EB{n:Nat}(F:Fun K "law" "law" Iu f fd) (xo:VCal P w K mg base n "_law_small_game" ["_law_state"] KS) (v9:VCal P w K mg base n "_law_small_saying" ["_law_state","_law_game"] KU) (yt:VCal P w K mg base n "_law_piles" ["_law_letters"] KW) (qk:VCal P w K mg base n "either" ["game","one","other"] KP) (v7:VCal P w K mg base n "both" ["game","one","other"] KQ) (wq:VCal P w K mg base n "is_in" ["saying","place","pile"] DS) (uq:VCal P w K mg base n "reads" ["arrows","ends","stand","pile"] DR) (cMc:Kg P w K mg base n "machine" ["game","saying","most"] 200 KR) (bw:mg "list" = none) (ai:mg "len" = none) (al:mg "range" = none):FnOk P w K mg base Ea (n+1) f fd ["_law_script"] (Fg K 1 YL):=by
 refine F.vok Gf λau A outer s H E G=>⟨_,(Ae (Av (i:=1) Gf.nd rfl (Or.inl rfl) (Bv (Aa (Bu HS rfl bw PyProof.Rows.boot_list (Aa (vv 0) Ad)) (Aa Ah (Aa Ah (Aa Ah Ad))))))
   (Ae (Av (i:=2) Gf.nd rfl (Or.inr rfl) (Ak xo G rfl (Aa (vv 1) Ad)))
   (Ae (Av (i:=3) Gf.nd rfl (Or.inl rfl) (Ak v9 G rfl (Aa (vv 1) (Aa (vv 2) Ad))))
   (Ae (Av (i:=4) Gf.nd rfl (Or.inl rfl) (Ak v9 G rfl (Aa (vv 1) (Aa (vv 2) Ad))))
   (Ae (Av (i:=5) Gf.nd rfl (Or.inl rfl) (Bv (Aa (vv 3) (Aa (vv 4) (Aa (Ak qk G rfl (Aa (vv 2) (Aa (vv 3) (Aa (vv 4) Ad)))) (Aa (Ak v7 G rfl (Aa (vv 2) (Aa (vv 3) (Aa (vv 4) Ad)))) (Aa (Ak qk G rfl (Aa (vv 2) (Aa (vv 3) (Aa (vv 3) Ad)))) (Aa (Ak v7 G rfl (Aa (vv 2) (Aa (vv 3) (Aa (vv 3) Ad)))) Ad))))))))
   (Ae (B2 (Eb aJ aK Dg (vv 5) (Aa (Ak qk G rfl (Aa (vv 2) (Aa (Ap A7 (vv 5) Ah) (Aa (vv 4) Ad)))) Ad)))
   (Ae (C7 (i:=6) (N':=["_law_saying","_law_game"]) (mp:=[none,some 2]) rfl Gf.nd rfl rfl (Bf (vv 5)) (λ_ _ _ _=>(Ai (i:=0) KZ rfl (Or.inl rfl) (Or.inr rfl))) (λ_ _ _ _=>Bp) (λ_ _ _ _=>(Bl (Aa (Yh cMc G rfl (Aa (vv 1) (Aa (vv 0) Ad))) (Aa (Ap A7 (vv 0) Ah) Ad)))) (Aw (N:=KY) (pn:=(Af Iu).names) (by decide +kernel)))
   (Ae (B6 ZD rfl (Cy rfl al (Aa (Ba Da rfl ai ZV (Aa (Ap A7 (vv 2) Ah) Ad)) Ad)) (Ai (i:=7) Gf.nd rfl (Or.inr rfl)) (Aj (B6 ZD rfl (Bf (Ak yt G rfl (Aa (Ba Da rfl ai ZV (Aa (Ap A7 (vv 2) Ah) Ad)) Ad))) (Ai (i:=8) Gf.nd rfl (Or.inr rfl)) (Ae (C7 (i:=9) (N':=["_law_arrows","_law_ends","_law_place","_law_pile"]) (mp:=[none,none,some 7,some 8]) rfl Gf.nd rfl rfl (Bf (vv 6)) (λ_ _ _ _=>(Dl (n:=2) rfl (Aq (Ai (i:=0) Zt rfl (Or.inl rfl) (Or.inr rfl)) (Aq (Ai (i:=1) Zt rfl (Or.inl rfl) (Or.inr rfl)) B0)))) (λ_ _ _ _=>Bp) (λ_ _ _ _=>(Ak uq G rfl (Aa (vv 0) (Aa (vv 1) (Aa (vv 2) (Aa (vv 3) Ad)))))) (Aw (N:=KY) (pn:=(Af Iu).names) (by decide +kernel)))
   (Ae (Db (VW.pt (Jj (VW.pt (E4 (VW.pt (Jj (C0 (Ap A7 (vv 9) Ah)) (Hf (C0 (Ap A7 (vv 9) Ah))))) (Dn (Hg (C0 (Ap A7 (vv 9) Ah)))))) (Hf (VW.pt (E4 (C0 (Ap A7 (vv 9) Ah)) (Dn (Hg (VW.pt (E4 (C0 (Ap A7 (vv 9) Ah)) (Dn (C0 (Ap A7 (vv 9) Ah)))))))))))) (Aj (Be Ff)) B1)
   (Ae (Db (VW.pt (Jj (Bk (HP G) (Ap A7 (vv 9) Ah) (Ap A7 (vv 9) Ah) (nomark _)) (Jj (Bk (HP G) (Ap A7 (vv 9) Ah) (Ap A7 (vv 9) Ah) (nomark _)) (Hf (Bk (HP G) (Ap A7 (vv 9) Ah) (Ap A7 (vv 9) Ah) (nomark _)))))) (Aj (Be Ff)) B1)
   (Aj (Db (VW.pt (Jj (VW.pt (E4 (C0 (Ak wq G rfl (Aa (Ap A7 (vv 5) Ah) (Aa (vv 7) (Aa (vv 8) Ad))))) (Dn (Hg (C0 (Ap A7 (vv 9) Ah)))))) (Hf (VW.pt (E4 (C0 (Ak wq G rfl (Aa (Ap A7 (vv 5) Ah) (Aa (vv 7) (Aa (vv 8) Ad))))) (Dn (Hg (C0 (Ap A7 (vv 9) Ah))))))))) (Aj (Be Ff)) B1))))))))
   (Aj (Be Ff)))))))))),?_⟩
 rintro xs μ R _ ⟨ns,rfl,gp,q⟩
 refine A0 (fun τ μ'=>∃a l,τ=[some (.D (Hv ns)),some (.R a),none,none,none,none,none,none,none,none]/\Pot μ' a l) (λZ Y=>?_) ?_
 ·refine Ac (Va _ ns) λl hl=>λa ha=>?_
  have hla:l≠a:=by rintro rfl;rw [Ab]at ha;cases ha
  exact Y _ _ ⟨a,l,rfl,0,0,0,ns,Ab,by rw [Ag hla,Ab],Int.le_refl _,hla.symm⟩
 rintro τ μ1 ⟨a,l,rfl,P1⟩
 refine C2 ⟨a,l,rfl,P1,λg μ2 hg P2 _=>?_⟩
 have ga:=hg.p2
 have fh:=hg.l2
 have hm:GmOk g:=⟨ga,hg.r4,hg.ok⟩
 refine C2 ⟨a,l,g,rfl,hg,P2,λs μ3 u zs os P3 _=>?_⟩
 refine C2 ⟨a,l,g,rfl,hg,P3,λt μ4 Q zt ot P4 _=>?_⟩
 clear P1 P2 P3 P4
 refine A0 (fun τ μ'=>∃(C:jH) (jE jB jC jD:Say),τ=[some (.D (Hv ns)),some (.R a),some (.D (D5 g)),some (.D (Bm s)),some (.D (Bm t)),some (.R C),none,none,none,none]/\μ' C=some (.lst ([s,t,jE,jB,jC,jD].map λj=>.D (Bm j)))/\Jn g.pl.length (Kq g.pl.length s t) (Ja g.pl.length s t) s t jE/\Sz jE 6 2 6/\Jn g.pl.length (Pk g.pl.length s t) (Pl g.pl.length s t) s t jB/\Sz jB 15 2 6/\Jn g.pl.length (Kq g.pl.length s s) (Ja g.pl.length s s) s s jC/\Sz jC 6 2 6/\Jn g.pl.length (Pk g.pl.length s s) (Pl g.pl.length s s) s s jD/\Sz jD 15 2 6) (λZ Y=>?_) ?_
 ·exact⟨g,s,t,3,1,3,3,1,3,rfl,u.d,Q.d,zs,zt,by decide,by decide,by decide,λjE μ5 J1 Z1 S5=>⟨g,s,t,3,1,3,3,1,3,rfl,u.d,Q.d,zs,zt,by decide,by decide,by decide,by decide,λjB μ6 J2 Z2 S6=>⟨g,s,s,3,1,3,3,1,3,rfl,u.d,u.d,zs,zs,by decide,by decide,by decide,λjC μ7 J3 Z3 S7=>⟨g,s,s,3,1,3,3,1,3,rfl,u.d,u.d,zs,zs,by decide,by decide,by decide,by decide,λjD μ8 J4 Z4 S8=>λC hp5=>Y _ _ ⟨C,jE,jB,jC,jD,rfl,Ab,J1,Z1,J2,Z2,J3,Z3,J4,Z4⟩⟩⟩⟩⟩
 rintro τ μ5 ⟨C,jE,jB,jC,jD,rfl,e5,JE,zE,JB,zB,JC,zC,JD,zD⟩
 have hE:=SyOk.ei JE u Q zE (by decide) (by omega)
 have hB:=SyOk.bo JB u Q zB (by decide) (by omega)
 have hC:=SyOk.ei JC u u zC (by decide) (by omega)
 have hD:=SyOk.bo JD u u zD (by decide) (by omega)
 refine A0 (fun τ μ'=>∃js:List Say,τ=[some (.D (Hv ns)),some (.R a),some (.D (D5 g)),some (.D (Bm s)),some (.D (Bm t)),some (.R C),none,none,none,none]/\μ' C=some (.lst (js.map λj=>.D (Bm j)))/\Sv g s t js) (λZ Y=>?_) ?_
 ·refine⟨Ac e5 trivial,Ac e5 (Ac (x:=.D (Bm jE)) (Ao (j:=2) rfl) ⟨g,jE,t,6,2,6,3,1,3,rfl,hE.d,Q.d,zE,zt,by decide,by decide,by decide,λjF μ6 JF zF S6=>Ac (S6 _ _ e5) ⟨A5 (show 6<=1000 by decide),Y _ _ ⟨[s,t,jE,jB,jC,jD,jF],rfl,Ab,rfl,λj hj=>?_,λW p hp=>?_⟩⟩⟩)⟩
  ·have hF:=SyOk.ei JF hE Q zF (by decide) (by rw [JE.o];omega)
   simp only [List.mem_cons,List.not_mem_nil,or_false]at hj
   rcases hj with rfl | rfl | rfl | rfl | rfl | rfl | rfl
   ·exact⟨u,zs.le (by decide) (by decide) (by decide)⟩
   ·exact⟨Q,zt.le (by decide) (by decide) (by decide)⟩
   ·exact⟨hE,zE.le (by decide) (by decide) (by decide)⟩
   ·exact⟨hB,zB.le (by decide) (by decide) (by decide)⟩
   ·exact⟨hC,zC.le (by decide) (by decide) (by decide)⟩
   ·exact⟨hD,zD.le (by decide) (by decide) (by decide)⟩
   ·exact⟨hF,zF.le (by decide) (by decide) (by decide)⟩
  ·simp only [List.map_cons,List.map_nil]
   rw [Nj JF hE.d Q.d W p hp,Nj JC u.d u.d W p hp,Te JD u.d u.d W p hp,Nj JE u.d Q.d W p hp,Te JB u.d Q.d W p hp]
   cases rd s.as s.es W p <;> cases rd t.as t.es W p <;> rfl
 rintro τ μ6 ⟨js,rfl,e6,hF⟩
 clear e5 JE zE JB zB JC zC JD zD hE hB hC hD
 refine A0 (fun τ μ'=>∃(T:jH) (m:List (Say×List Arw)),τ=[some (.D (Hv ns)),some (.R a),some (.D (D5 g)),some (.D (Bm s)),some (.D (Bm t)),some (.R C),some (.R T),none,none,none]/\μ' C=some (.lst (js.map λj=>.D (Bm j)))/\μ' T=some (.lst (m.map WT))/\m.map (·.1)=js/\∀q∈m,Mk g q) (λZ Y=>?_) ?_
 ·refine Ac (Al e6) λpc ap=>?_
  have hdc:C≠pc:=by rintro rfl;rw [e6]at ap;cases ap
  refine Dv (λi v τ' μ'=>∃(o:Option AV) (m:List (Say×List Arw)),τ'=[o,some (.D (D5 g))]/\v=m.map WT/\m.map (·.1)=js.take i/\(∀q∈m,Mk g q)/\μ' pc=some (.lst v)/\μ' C=some (.lst (js.map λj=>.D (Bm j)))) ⟨none,[],rfl,rfl,rfl,nofun,Ab,by rw [Ag hdc];exact e6⟩ (λ_ _ _ _ ⟨_,_,_,_,_,_,_,e⟩=>Al e) ?_ ?_
  ·rintro i y v τ' μ' Z5 hy ⟨o,m,rfl,rfl,hq,J,c1,c2⟩ hZ5
   rw [H_]at hy
   obtain⟨j',u5,rfl⟩:=F_.mp hy
   have hi:i < js.length:=(E_.mp u5).1
   obtain⟨l1,l2⟩:=hF.l j' (U_ u5)
   have h7:=hF.n
   have hql:m.length<=7:=by have:=bB List.length hq;rw [B_,ZX]at this;omega
   refine Lf rfl ⟨g,j',rfl,hm,l1,λMs μ7 m1 m2 m3 S7=>Ac (Ao (j:=2) rfl) ⟨S7 _ _ c1,A5 (by rw [B_];omega),hZ5 _ _ _ ⟨_,m++[(j',Ms)],rfl,by rw [N_];rfl,by rw [N_,hq,Y_,u5];rfl,λq jc=>?_,Ab,by rw [Ag hdc];exact S7 _ _ c2⟩⟩⟩
   rcases G_.mp jc with h | h
   ·exact J q h
   ·rw [P_.mp h];exact⟨m1,m2,m3,l2⟩
  ·rintro v τ' μ' ⟨o,m,rfl,rfl,hq,J,c1,c2⟩
   rw [B_,YY]at hq
   exact Y _ _ ⟨pc,m,rfl,c2,c1,hq,J⟩
 rintro τ μ7 ⟨T,m,rfl,e7,f7,hq,J⟩
 subst hq
 have hql:m.length=7:=by have:=hF.n;rwa [B_]at this
 refine A0 (fun τ μ'=>True) (λZ Y=>?_) (fun τ μ' _=>⟨_,Sub.refl,q _⟩)
 have ag:(Gk 0 (((g.pl.map Sn).length:Nat):Int).toNat).length=g.pl.length:=by rw [B3,B_];omega
 refine Ac (Ao (j:=0) rfl) ⟨by rw [B_];omega,by rw [B_];omega,?_⟩
 refine Co (λi τ μ'=>∃o7 o8 o9,τ=[some (.D (Hv ns)),some (.R a),some (.D (D5 g)),some (.D (Bm s)),some (.D (Bm t)),some (.R C),some (.R T),o7,o8,o9]/\Sub μ7 μ') ⟨none,none,none,rfl,Sub.refl⟩ (λ_ _ _ _=>trivial) ?_ (fun τ μ' _=>Y _ _ trivial)
 rintro j y τ μ8 Z2 hy ⟨o7,o8,o9,rfl,S8⟩ hZ2
 have hj:j < g.pl.length:=by rw [<- ag];exact(E_.mp hy).1
 have ey:=Gw _ _ _ hy
 rw [Int.zero_add]at ey
 subst ey
 refine Ac (Ao (j:=1) rfl) ⟨g.le.length,by rw [B_],fh,λWs pp μ9 e9 S9=>?_⟩
 have S79:=S8.trans S9
 refine Ac (Al e9) ?_
 refine Co (λi τ μ'=>∃o8 o9,τ=[some (.D (Hv ns)),some (.R a),some (.D (D5 g)),some (.D (Bm s)),some (.D (Bm t)),some (.R C),some (.R T),some (.D (.int (j:Nat))),o8,o9]/\Sub μ9 μ') ⟨o8,o9,rfl,Sub.refl⟩ (λ_ _ _ ⟨_,_,_,S⟩=>Al (S _ _ e9)) ?_ (fun τ μ' ⟨_,_,e,S⟩=>hZ2 _ _ ⟨_,_,_,e,S79.trans S⟩)
 rintro i y τ μ10 Z3 hy ⟨o8',o9',rfl,S10⟩ bg
 rw [H_]at hy
 obtain⟨W,hWi,rfl⟩:=F_.mp hy
 have e10:=S10 _ _ (S79 _ _ e7)
 have m4:=S10 _ _ (S79 _ _ f7)
 refine A0 (fun τ μ'=>∃pd,τ=[some (.D (Hv ns)),some (.R a),some (.D (D5 g)),some (.D (Bm s)),some (.D (Bm t)),some (.R C),some (.R T),some (.D (.int (j:Nat))),some (.D (Ax W)),some (.R pd)]/\μ' pd=some (.lst (m.map λq=>.D (.bool (rd q.2 q.1.es W j))))/\Sub μ10 μ') (λZ4 md=>?_) ?_
 ·refine Ac (Al m4) λpc ap=>?_
  have h6c:T≠pc:=by rintro rfl;rw [m4]at ap;cases ap
  refine Dv (λi v τ' μ'=>∃o1 o2,τ'=[o1,o2,some (.D (.int (j:Nat))),some (.D (Ax W))]/\v=((m.take i).map λq=>.D (.bool (rd q.2 q.1.es W j)))/\μ' pc=some (.lst v)/\Sub μ10 μ') ⟨none,none,rfl,rfl,Ab,Sub.refl.new ap⟩ (λ_ _ _ _ ⟨_,_,_,_,_,S⟩=>Al (S _ _ m4)) ?_ ?_
  ·rintro i y v τ' μ' Z5 hy ⟨o1,o2,rfl,rfl,c1,c2⟩ hZ5
   rw [H_]at hy
   obtain⟨q,hq,rfl⟩:=F_.mp hy
   have hi:i < m.length:=(E_.mp hq).1
   have kk:=J q (U_ hq)
   refine⟨rfl,Nb (Lf rfl ⟨q.2,q.1.es,j,W,rfl,kk.n,kk.t,kk.e.e,fun μ'' S''=>⟨S'' _ _ c1,A5 (by rw [B_,ZX];omega),hZ5 _ _ _ ⟨_,_,rfl,by rw [Y_,hq,N_];rfl,Ab,(c2.trans S'').new ap⟩⟩⟩)⟩
  ·rintro v τ' μ' ⟨o1,o2,rfl,rfl,c1,c2⟩
   rw [B_,YY]at c1
   exact md _ _ ⟨pc,rfl,c1,c2⟩
 rintro τ μ11 ⟨pd,rfl,O,S11⟩
 have fin:∀o9 μ',Sub μ11 μ'->Z3 [some (.D (Hv ns)),some (.R a),some (.D (D5 g)),some (.D (Bm s)),some (.D (Bm t)),some (.R C),some (.R T),some (.D (.int (j:Nat))),some (.D (Ax W)),o9] μ':=λo9 μ' S=>bg _ _ ⟨_,_,rfl,(S10.trans S11).trans S⟩
 have e12:=S11 _ _ e10
 obtain⟨I,X,c,B,q4,q5,q6,rfl⟩:∃I X c B q4 q5 q6,m=[I,X,c,B,q4,q5,q6]:=by
  match m,hql with
  | [I,X,c,B,q4,q5,q6],_=>exact⟨_,_,_,_,_,_,_,rfl⟩
 have k0:=J I (by simp)
 have k1:=J X (by simp)
 have k2:=J c (by simp)
 have k3:=J B (by simp)
 have e:∀w p,p < g.pl.length->rd I.1.as I.1.es w p=rd s.as s.es w p/\rd X.1.as X.1.es w p=rd t.as t.es w p/\rd c.1.as c.1.es w p=(rd s.as s.es w p || rd t.as t.es w p)/\rd B.1.as B.1.es w p=(rd s.as s.es w p && rd t.as t.es w p)/\rd q4.1.as q4.1.es w p=rd s.as s.es w p/\rd q5.1.as q5.1.es w p=rd s.as s.es w p/\rd q6.1.as q6.1.es w p=(rd s.as s.es w p || rd t.as t.es w p):=λw p hp=>by
  have:=hF.s w p hp
  simpa only [List.map_cons,List.map_nil,List.cons.injEq,and_true] using this
 have M2:∀{q L:Say×List Arw},Mk g q->Mk g L->(∀w p,p < g.pl.length->(rd q.1.as q.1.es w p && !rd L.1.as L.1.es w p)=false)->rd q.2 q.1.es W j=true->rd L.2 L.1.es W j=true:=λh h' k=>EA h h' (λw p hp z=>by
  have:=k w p hp
  rw [z]at this
  simpa using this) hj
 have i02:=M2 k0 k2 λw p hp=>by obtain⟨V,h1,h2,U,h4,h5,h6⟩:=e w p hp;rw [V,h2];cases rd s.as s.es w p <;> rfl
 have i12:=M2 k1 k2 λw p hp=>by obtain⟨V,h1,h2,U,h4,h5,h6⟩:=e w p hp;rw [h1,h2];cases rd s.as s.es w p <;> cases rd t.as t.es w p <;> rfl
 have i30:=M2 k3 k0 λw p hp=>by obtain⟨V,h1,h2,U,h4,h5,h6⟩:=e w p hp;rw [U,V];cases rd s.as s.es w p <;> cases rd t.as t.es w p <;> rfl
 have i31:=M2 k3 k1 λw p hp=>by obtain⟨V,h1,h2,U,h4,h5,h6⟩:=e w p hp;rw [U,h1];cases rd s.as s.es w p <;> cases rd t.as t.es w p <;> rfl
 have M3:∀{q L:Say×List Arw},Mk g q->Mk g L->(∀w p,p < g.pl.length->rd q.1.as q.1.es w p=rd L.1.as L.1.es w p)->rd q.2 q.1.es W j=rd L.2 L.1.es W j:=λh h' k=>cV.mpr ⟨M2 h h' λw p hp=>by rw [k w p hp];exact Bool.and_not_self _,M2 h' h λw p hp=>by rw [k w p hp];exact Bool.and_not_self _⟩
 have i40:=M3 (J q4 (by simp)) k0 λw p hp=>by obtain⟨V,h1,h2,U,h4,h5,h6⟩:=e w p hp;rw [h4,V]
 have i50:=M3 (J q5 (by simp)) k0 λw p hp=>by obtain⟨V,h1,h2,U,h4,h5,h6⟩:=e w p hp;rw [h5,V]
 have i62:=M3 (J q6 (by simp)) k2 λw p hp=>by obtain⟨V,h1,h2,U,h4,h5,h6⟩:=e w p hp;rw [h6,h2]
 have g2:rd c.1.as c.1.es W j=true->rd c.2 c.1.es W j=true:=λz=>(k2.r j W hj).mpr (.say hj z)
 have g3:rd B.1.as B.1.es W j=true->rd B.2 B.1.es W j=true:=λz=>(k3.r j W hj).mpr (.say hj z)
 have O:μ11 pd=some (.lst [.D (.bool (rd I.2 I.1.es W j)),.D (.bool (rd X.2 X.1.es W j)),.D (.bool (rd c.2 c.1.es W j)),.D (.bool (rd B.2 B.1.es W j)),.D (.bool (rd I.2 I.1.es W j)),.D (.bool (rd I.2 I.1.es W j)),.D (.bool (rd c.2 c.1.es W j))]):=by
  rw [O]
  simp only [List.map_cons,List.map_nil,i40,i50,i62]
 clear i40 i50 i62 M2 M3 e
 generalize rd I.2 I.1.es W j=b0 at *
 generalize rd X.2 X.1.es W j=b1 at *
 generalize rd c.2 c.1.es W j=b2 at *
 generalize rd B.2 B.1.es W j=b3 at *
 refine A0 (fun τ μ'=>τ=[some (.D (Hv ns)),some (.R a),some (.D (D5 g)),some (.D (Bm s)),some (.D (Bm t)),some (.R C),some (.R T),some (.D (.int (j:Nat))),some (.D (Ax W)),some (.R pd)]/\μ11=μ') (λZ4 md=>?_) ?_
 ·cases b0 <;> cases b1 <;> cases b2 <;> cases b3 <;> first
   | exact absurd (i02 rfl) (by decide)
   | exact absurd (i12 rfl) (by decide)
   | exact absurd (i30 rfl) (by decide)
   | exact absurd (i31 rfl) (by decide)
   | repeat (first | exact md _ _ ⟨rfl,rfl⟩ | refine Ac O ?_ | refine Ac rfl ?_ | refine Lf rfl ?_ | refine Lg rfl ?_)
 rintro τ _ ⟨rfl,rfl⟩
 have er:∀b:Bool,(!PyData.eqv (.bool b) (.bool b))=false:=λb=>by rw [PySem.SeqAt.eqv_refl _ (Dd b).1];rfl
 refine C2 (Ac O (Ac rfl (Ac O (Ac rfl ⟨Dd _,Dd _,Lg (er _) (Ac O (Ac rfl (Ac O (Ac rfl ⟨Dd _,Dd _,Lg (er _) (Ac O (Ac rfl (Ac O (Ac rfl ⟨Dd _,Dd _,Lg (er _) ?_⟩))))⟩))))⟩))))
 refine Ac e12 (Ac (x:=.D (Bm c.1)) rfl ⟨c.1,j,W,rfl,k2.e,fun μ12 S12=>?_⟩)
 have oh:=S12 _ _ O
 have sec:∀(k:Bool->M->Prop),(∀ μ',Sub μ11 μ'->k false μ')->(NM (Lh (EL 3 DS (Rn (HN LH (Ji 5) (vC (AV.D (PyData.int 3)))) (Rn (Ji 7) (Rn (Ji 8) BF))))) (NN (Lh (HN LH (Ji 9) (vC (AV.D (PyData.int 3))))))) [some (.D (Hv ns)),some (.R a),some (.D (D5 g)),some (.D (Bm s)),some (.D (Bm t)),some (.R C),some (.R T),some (.D (.int (j:Nat))),some (.D (Ax W)),some (.R pd)] μ12 k:=λk hk=>by
  refine Ac (S12 _ _ e12) (Ac (x:=.D (Bm B.1)) rfl ⟨B.1,j,W,rfl,k3.e,fun μ13 S13=>?_⟩)
  cases U:rd B.1.as B.1.es W j with
  | true =>
   refine Lf rfl (Ac (S13 _ _ oh) (Ac (x:=.D (.bool b3)) rfl ?_))
   rw [g3 U]
   exact hk _ (S12.trans S13)
  | false=>exact Lg rfl (hk _ (S12.trans S13))
 cases h2:rd c.1.as c.1.es W j with
 | true =>
  refine Lf rfl (Ac oh (Ac (x:=.D (.bool b2)) rfl ?_))
  rw [g2 h2]
  exact Lg rfl (sec _ fun μ' S=>Lg rfl (fin _ _ S))
 | false=>exact Lg rfl (Lg rfl (sec _ fun μ' S=>Lg rfl (fin _ _ S)))
def Tn(K:jI):Sp:=λb H Q _=>∃(a:jH) (ns:List Int),b=[.ref a]/\Fa K H a (ns.map V.int)/\Only H/\ns.length<=63/\∀c,Q (.bl true) c
theorem To{H:Hp}:∀(ns:List Int),Am K H (ns.map .int) (ns.map V.int)
 | []=>Dm
 | n :: ns=>Ds Dj (To ns)
theorem LC{n:Nat}(F:Fun K "law" "law" Iu f fd) (l:VCal P w K mg base n "_law_small_game" ["_law_state"] KS) (p:VCal P w K mg base n "_law_small_saying" ["_law_state","_law_game"] KU) (k:VCal P w K mg base n "_law_piles" ["_law_letters"] KW) (r:VCal P w K mg base n "either" ["game","one","other"] KP) (e:VCal P w K mg base n "both" ["game","one","other"] KQ) (d:VCal P w K mg base n "is_in" ["saying","place","pile"] DS) (s:VCal P w K mg base n "reads" ["arrows","ends","stand","pile"] DR) (b:Kg P w K mg base n "machine" ["game","saying","most"] 200 KR) (j:mg "list" = none) (i:mg "len" = none) (t:mg "range" = none):FnOk P w K mg base Ea (n+1) f fd ["_law_script"] (Tn K):=by
 refine(EB F l p k r e d s b j i t).imp ?_
 rintro u H Q E ⟨a,ns,rfl,m,c,g,q⟩
 refine⟨[.D (Hv ns)],λ_=>none,λv _=>v=.D (.bool true),rfl,.cons ?_ .nil,(λ_ _ z=>nomatch z),⟨ns,rfl,g,λ_=>rfl⟩,?_⟩
 ·refine HL (xs:=ns.map V.int) ?_ (To ns)
  rcases m with(h | h) | h
  ·rcases c a with z | ⟨o,xs,z⟩
   ·rw [z]at h;cases h
   ·rw [z]at h;cases h
  ·exact .inl h
  ·exact .inr h
 ·rintro x μ v H' _ _ rx rfl
  cases RelA.bl rx
  exact q _
end
theorem Gg{b:List i_}(h:b.length=1):∃a,b=[a]:=by
 obtain⟨a,t,rfl,h2⟩:=Et h
 rw [cJ h2];exact⟨a,rfl⟩
theorem Fu{c:List i_}(h:c.length=2):∃b a,c=[b,a]:=by
 obtain⟨b,t,rfl,h2⟩:=Et h
 obtain⟨a,rfl⟩:=Gg h2
 exact⟨b,a,rfl⟩
theorem Gh{c:List i_}(h:c.length=3):∃a b a2,c=[a,b,a2]:=by
 obtain⟨a,t,rfl,h2⟩:=Et h
 obtain⟨b,a2,rfl⟩:=Fu h2
 exact⟨a,b,a2,rfl⟩
theorem FN{d:List i_}(h:d.length=4):∃b c a2 a,d=[b,c,a2,a]:=by
 obtain⟨b,t,rfl,h2⟩:=Et h
 obtain⟨c,a2,a,rfl⟩:=Gh h2
 exact⟨b,c,a2,a,rfl⟩
theorem all_mk{l:PySem.W.OpenLaw}{w:jK}{K:jI}{h:jN}{mg:Str->Option i_}{fa f1 f2 f3 f4 f5 f6 f7 f8 f9 m4 wg oh q y6 C A J t r x p xf z5 D E w9 yg z y7 F xh:jH}(X:K.In h)(G:h.Ns mainGlobals mg)(hfa:mg "law" = some (.ref fa))
  {od1 an1 od2 an2 od3 an3 od4 an4 od5 an5 od6 an6 od7 an7 od8 an8 od9 an9 zdw zr zco xm zaq zb5 yc zdt zcs zcp zaz zj wy xl zcc zdl x9 zat zcy zam yl zb2 zcf za1 ye zdb yj zdc zae zbv zad zda zcx x3 yq zcl zdu za9 zap zc7 zbr z9 zcz vk:Option jH} {sl1 nq sl3 sl4 sl5 sl6 sl7 sl8 sl9 w6 yn zbu zbc zca zck xx zc5 zau zct za zbh xu zb1 za6 zdx x4 zaw zcu zdp zak zb7:Array (Option i_)} {oc1 kV1 dc1 pm1 cd1 ct1 oc2 kV2 dc2 pm2 cd2 ct2 oc3 kV3 dc3 pm3 cd3 ct3 oc4 kV4 dc4 pm4 T ct4 oc5 kV5 dc5 pm5 cd5 ct5 oc6 kV6 dc6 pm6 cd6 ct6 oc7 kV7 dc7 pm7 cd7 ct7 oc8 kV8 dc8 pm8 cd8 ct8 oc9 kV9 dc9 pm9 cd9 ct9 za3 x5 zdf zcq qz zdk zax zbd zcg zch vo zar xy zn zbi zaf ux zcj zdi zc3 zbz yf po xi zbm xj zc6 zb6 qc zci zaa yd zbt zdg uf zaj yz zag zao zbl qd zc1 zc2 y9 yx zbe ub zdm zb3 zu zdo za4 vi yk zc0 xp yp zy qx xq zb4 xt w5 zbn uj zbg zah zde wx zdd t9 zas zb9 x8 y4 xa uo yi z6 zm za8 zcr tw zbb zba w4 zdj wz ur zds za2 xg yy yh qi zg zcd zab zby zbq sf zl ym zb zc9 zx vh zc8 zbs zcw zb0 zcb pr zdq zc4 zan zbk yu uv za7 zdn zcv zal zce um zb8 y3 qt si qo nl ou:i_}
  {t1:Tok}
  {m9:jH} {uc:Option jH} {uz:Array (Option i_)} {oq:i_} {za5:Tok} {xc:Nat}
  (d:PySem.W.nsIn K mainGlobals "as_bits" = some (some (.ref f1)))
  (l1:K.lookup f1=some ⟨oc1,od1,.func (PySem.W.fnOf "as_bits" "as_bits" (Az LK) (Ay LK) (Af LK) .none kV1 dc1 pm1 an1 cd1 ct1),sl1⟩)
  (c_1:PySem.W.codeIn K cd1 "as_bits" = true)
  (k1:PySem.W.keepIn K (.ref f1)=true)
  (a2:PySem.W.nsIn K mainGlobals "as_stands" = some (some (.ref f2)))
  (l2:K.lookup f2=some ⟨oc2,od2,.func (PySem.W.fnOf "as_stands" "as_stands" (Az JK) (Ay JK) (Af JK) .none kV2 dc2 pm2 an2 cd2 ct2),nq⟩)
  (c_2:PySem.W.codeIn K cd2 "as_stands" = true)
  (k2:PySem.W.keepIn K (.ref f2)=true)
  (a3:PySem.W.nsIn K mainGlobals "has_within" = some (some (.ref f3)))
  (l3:K.lookup f3=some ⟨oc3,od3,.func (PySem.W.fnOf "has_within" "has_within" (Az LL) (Ay LL) (Af LL) .none kV3 dc3 pm3 an3 cd3 ct3),sl3⟩)
  (c_3:PySem.W.codeIn K cd3 "has_within" = true)
  (k3:PySem.W.keepIn K (.ref f3)=true)
  (a4:PySem.W.nsIn K mainGlobals "least_alone" = some (some (.ref f4)))
  (l4:K.lookup f4=some ⟨oc4,od4,.func (PySem.W.fnOf "least_alone" "least_alone" (Az LM) (Ay LM) (Af LM) .none kV4 dc4 pm4 an4 T ct4),sl4⟩)
  (c_4:PySem.W.codeIn K T "least_alone" = true)
  (k4:PySem.W.keepIn K (.ref f4)=true)
  (a5:PySem.W.nsIn K mainGlobals "thinned" = some (some (.ref f5)))
  (l5:K.lookup f5=some ⟨oc5,od5,.func (PySem.W.fnOf "thinned" "thinned" (Az LN) (Ay LN) (Af LN) .none kV5 dc5 pm5 an5 cd5 ct5),sl5⟩)
  (c_5:PySem.W.codeIn K cd5 "thinned" = true)
  (k5:PySem.W.keepIn K (.ref f5)=true)
  (a6:PySem.W.nsIn K mainGlobals "one_of_any" = some (some (.ref f6)))
  (l6:K.lookup f6=some ⟨oc6,od6,.func (PySem.W.fnOf "one_of_any" "one_of_any" (Az LP) (Ay LP) (Af LP) .none kV6 dc6 pm6 an6 cd6 ct6),sl6⟩)
  (c_6:PySem.W.codeIn K cd6 "one_of_any" = true)
  (k6:PySem.W.keepIn K (.ref f6)=true)
  (a7:PySem.W.nsIn K mainGlobals "one_of_each" = some (some (.ref f7)))
  (l7:K.lookup f7=some ⟨oc7,od7,.func (PySem.W.fnOf "one_of_each" "one_of_each" (Az LQ) (Ay LQ) (Af LQ) .none kV7 dc7 pm7 an7 cd7 ct7),sl7⟩)
  (c_7:PySem.W.codeIn K cd7 "one_of_each" = true)
  (k7:PySem.W.keepIn K (.ref f7)=true)
  (a8:PySem.W.nsIn K mainGlobals "each_with_each" = some (some (.ref f8)))
  (l8:K.lookup f8=some ⟨oc8,od8,.func (PySem.W.fnOf "each_with_each" "each_with_each" (Az LR) (Ay LR) (Af LR) .none kV8 dc8 pm8 an8 cd8 ct8),sl8⟩)
  (c_8:PySem.W.codeIn K cd8 "each_with_each" = true)
  (k8:PySem.W.keepIn K (.ref f8)=true)
  (a9:PySem.W.nsIn K mainGlobals "arrows_by_top" = some (some (.ref f9)))
  (l9:K.lookup f9=some ⟨oc9,od9,.func (PySem.W.fnOf "arrows_by_top" "arrows_by_top" (Az LU) (Ay LU) (Af LU) .none kV9 dc9 pm9 an9 cd9 ct9),sl9⟩)
  (c_9:PySem.W.codeIn K cd9 "arrows_by_top" = true)
  (k9:PySem.W.keepIn K (.ref f9)=true)
  (a10:PySem.W.nsIn K mainGlobals "readings_by" = some (some (.ref m4)))
  (l10:K.lookup m4=some ⟨za3,zdw,.func (PySem.W.fnOf "readings_by" "readings_by" (Az EZ) (Ay EZ) (Af EZ) .none x5 zdf zcq zr qz zdk),w6⟩)
  (c_10:PySem.W.codeIn K qz "readings_by" = true)
  (k10:PySem.W.keepIn K (.ref m4)=true)
  (a11:PySem.W.nsIn K mainGlobals "machine" = some (some (.ref wg)))
  (l11:K.lookup wg=some ⟨zax,zco,.func (PySem.W.fnOf "machine" "machine" (Az JL) (Ay JL) (Af JL) (.ref m9) zbd zcg zch xm vo zar),yn⟩)
  (O:K.lookup m9=some ⟨oq,uc,.seq #[.int 200 za5] xc,uz⟩)
  (c_11:PySem.W.codeIn K vo "machine" = true)
  (k11:PySem.W.keepIn K (.ref wg)=true)
  (a12:PySem.W.nsIn K mainGlobals "how_many" = some (some (.ref oh)))
  (l12:K.lookup oh=some ⟨xy,zaq,.func (PySem.W.fnOf "how_many" "how_many" (Az JM) (Ay JM) (Af JM) .none zn zbi zaf zb5 ux zcj),zbu⟩)
  (c_12:PySem.W.codeIn K ux "how_many" = true)
  (k12:PySem.W.keepIn K (.ref oh)=true)
  (a13:PySem.W.nsIn K mainGlobals "as_arrows" = some (some (.ref q)))
  (l13:K.lookup q=some ⟨zdi,yc,.func (PySem.W.fnOf "as_arrows" "as_arrows" (Az JN) (Ay JN) (Af JN) .none zc3 zbz yf zdt po xi),zbc⟩)
  (c_13:PySem.W.codeIn K po "as_arrows" = true)
  (k13:PySem.W.keepIn K (.ref q)=true)
  (a14:PySem.W.nsIn K mainGlobals "following" = some (some (.ref y6)))
  (l14:K.lookup y6=some ⟨zbm,zcs,.func (PySem.W.fnOf "following" "following" (Az FA) (Ay FA) (Af FA) .none xj zc6 zb6 zcp qc zci),zca⟩)
  (c_14:PySem.W.codeIn K qc "following" = true)
  (k14:PySem.W.keepIn K (.ref y6)=true)
  (a15:PySem.W.nsIn K mainGlobals "rules_by_top" = some (some (.ref C)))
  (l15:K.lookup C=some ⟨zaa,zaz,.func (PySem.W.fnOf "rules_by_top" "rules_by_top" (Az LW) (Ay LW) (Af LW) .none yd zbt zdg zj uf zaj),zck⟩)
  (c_15:PySem.W.codeIn K uf "rules_by_top" = true)
  (k15:PySem.W.keepIn K (.ref C)=true)
  (a16:PySem.W.nsIn K mainGlobals "keep_cheapest" = some (some (.ref A)))
  (l16:K.lookup A=some ⟨yz,wy,.func (PySem.W.fnOf "keep_cheapest" "keep_cheapest" (Az FB) (Ay FB) (Af FB) .none zag zao zbl xl qd zc1),xx⟩)
  (c_16:PySem.W.codeIn K qd "keep_cheapest" = true)
  (k16:PySem.W.keepIn K (.ref A)=true)
  (a17:PySem.W.nsIn K mainGlobals "not_kept" = some (some (.ref J)))
  (l17:K.lookup J=some ⟨zc2,zcc,.func (PySem.W.fnOf "not_kept" "not_kept" (Az FC) (Ay FC) (Af FC) .none y9 yx zbe zdl ub zdm),zc5⟩)
  (c_17:PySem.W.codeIn K ub "not_kept" = true)
  (N:PySem.W.keepIn K (.ref J)=true)
  (a18:PySem.W.nsIn K mainGlobals "either" = some (some (.ref t)))
  (l18:K.lookup t=some ⟨zb3,x9,.func (PySem.W.fnOf "either" "either" (Az LX) (Ay LX) (Af LX) .none zu zdo za4 zat vi yk),zau⟩)
  (c_18:PySem.W.codeIn K vi "either" = true)
  (V:PySem.W.keepIn K (.ref t)=true)
  (a19:PySem.W.nsIn K mainGlobals "both" = some (some (.ref r)))
  (l19:K.lookup r=some ⟨zc0,zcy,.func (PySem.W.fnOf "both" "both" (Az FD) (Ay FD) (Af FD) .none xp yp zy zam qx xq),zct⟩)
  (c_19:PySem.W.codeIn K qx "both" = true)
  (k19:PySem.W.keepIn K (.ref r)=true)
  (a20:PySem.W.nsIn K mainGlobals "sorted_saying" = some (some (.ref x)))
  (l20:K.lookup x=some ⟨zb4,yl,.func (PySem.W.fnOf "sorted_saying" "sorted_saying" (Az LY) (Ay LY) (Af LY) .none xt w5 zbn zb2 uj zbg),za⟩)
  (c_20:PySem.W.codeIn K uj "sorted_saying" = true)
  (S:PySem.W.keepIn K (.ref x)=true)
  (a21:PySem.W.nsIn K mainGlobals "numbered_behind" = some (some (.ref p)))
  (l21:K.lookup p=some ⟨zah,zcf,.func (PySem.W.fnOf "numbered_behind" "numbered_behind" (Az FE) (Ay FE) (Af FE) .none zde wx zdd za1 t9 zas),zbh⟩)
  (c_21:PySem.W.codeIn K t9 "numbered_behind" = true)
  (Q:PySem.W.keepIn K (.ref p)=true)
  (a22:PySem.W.nsIn K mainGlobals "moved_stand" = some (some (.ref xf)))
  (l22:K.lookup xf=some ⟨zb9,ye,.func (PySem.W.fnOf "moved_stand" "moved_stand" (Az LZ) (Ay LZ) (Af LZ) .none x8 y4 xa zdb uo yi),xu⟩)
  (c_22:PySem.W.codeIn K uo "moved_stand" = true)
  (k22:PySem.W.keepIn K (.ref xf)=true)
  (a23:PySem.W.nsIn K mainGlobals "arrows_of_places" = some (some (.ref z5)))
  (l23:K.lookup z5=some ⟨z6,yj,.func (PySem.W.fnOf "arrows_of_places" "arrows_of_places" (Az FF) (Ay FF) (Af FF) .none zm za8 zcr zdc tw zbb),zb1⟩)
  (c_23:PySem.W.codeIn K tw "arrows_of_places" = true)
  (k23:PySem.W.keepIn K (.ref z5)=true)
  (a24:PySem.W.nsIn K mainGlobals "reads" = some (some (.ref D)))
  (l24:K.lookup D=some ⟨zba,zae,.func (PySem.W.fnOf "reads" "reads" (Az MA) (Ay MA) (Af MA) .none w4 zdj wz zbv ur zds),za6⟩)
  (c_24:PySem.W.codeIn K ur "reads" = true)
  (k24:PySem.W.keepIn K (.ref D)=true)
  (a25:PySem.W.nsIn K mainGlobals "reading_with" = some (some (.ref E)))
  (l25:K.lookup E=some ⟨za2,zad,.func (PySem.W.fnOf "reading_with" "reading_with" (Az JO) (Ay JO) (Af JO) .none xg yy yh zda qi zg),zdx⟩)
  (c_25:PySem.W.codeIn K qi "reading_with" = true)
  (k25:PySem.W.keepIn K (.ref E)=true)
  (a26:PySem.W.nsIn K mainGlobals "is_in" = some (some (.ref w9)))
  (l26:K.lookup w9=some ⟨zcd,zcx,.func (PySem.W.fnOf "is_in" "is_in" (Az MB) (Ay MB) (Af MB) .none zab zby zbq x3 sf zl),x4⟩)
  (c_26:PySem.W.codeIn K sf "is_in" = true)
  (k26:PySem.W.keepIn K (.ref w9)=true)
  (a27:PySem.W.nsIn K mainGlobals "_law_draw" = some (some (.ref yg)))
  (l27:K.lookup yg=some ⟨ym,yq,.func (PySem.W.fnOf "_law_draw" "_law_draw" (Az MC) (Ay MC) (Af MC) .none zb zc9 zx zcl vh zc8),zaw⟩)
  (c_27:PySem.W.codeIn K vh "_law_draw" = true)
  (k27:PySem.W.keepIn K (.ref yg)=true)
  (a28:PySem.W.nsIn K mainGlobals "_law_small_game" = some (some (.ref z)))
  (l28:K.lookup z=some ⟨zbs,zdu,.func (PySem.W.fnOf "_law_small_game" "_law_small_game" (Az Yu) (Ay Yu) (Af Yu) .none zcw zb0 zcb za9 pr zdq),zcu⟩)
  (c_28:PySem.W.codeIn K pr "_law_small_game" = true)
  (k28:PySem.W.keepIn K (.ref z)=true)
  (a29:PySem.W.nsIn K mainGlobals "_law_small_saying" = some (some (.ref y7)))
  (l29:K.lookup y7=some ⟨zc4,zap,.func (PySem.W.fnOf "_law_small_saying" "_law_small_saying" (Az JP) (Ay JP) (Af JP) .none zan zbk yu zc7 uv za7),zdp⟩)
  (Y:PySem.W.codeIn K uv "_law_small_saying" = true)
  (k29:PySem.W.keepIn K (.ref y7)=true)
  (a30:PySem.W.nsIn K mainGlobals "_law_piles" = some (some (.ref F)))
  (l30:K.lookup F=some ⟨zdn,zbr,.func (PySem.W.fnOf "_law_piles" "_law_piles" (Az JQ) (Ay JQ) (Af JQ) .none zcv zal zce z9 um zb8),zak⟩)
  (c_30:PySem.W.codeIn K um "_law_piles" = true)
  (k30:PySem.W.keepIn K (.ref F)=true)
  (a31:PySem.W.nsIn K mainGlobals "law" = some (some (.ref xh)))
  (l31:K.lookup xh=some ⟨y3,zcz,.func (PySem.W.fnOf "law" "law" (Az Iu) (Ay Iu) (Af Iu) .none qt si qo vk nl ou),zb7⟩)
  (c_31:PySem.W.codeIn K nl "law" = true)
  (k31:PySem.W.keepIn K (.ref xh)=true)
  (i:PySem.W.nsIn K mainGlobals "tuple" = some none)
  (j:PySem.W.nsIn K mainGlobals "range" = some none)
  (g:PySem.W.nsIn K mainGlobals "sorted" = some none)
  (B:PySem.W.nsIn K mainGlobals "set" = some none)
  (u:PySem.W.nsIn K mainGlobals "max" = some none)
  (m:PySem.W.nsIn K mainGlobals "list" = some none)
  (H:PySem.W.nsIn K mainGlobals "len" = some none)
  (I:PySem.W.nsIn K mainGlobals "sum" = some none)
  (y:PySem.W.nsIn K mainGlobals "min" = some none)
  (f:PySem.W.nsIn K mainGlobals "reversed" = some none)
  (o:PySem.W.nsIn K mainGlobals "all" = some none)
  (y1:PySem.W.nsIn K mainGlobals "OTHER_HAND" = some (some (.int 1 t1))) :
  ∃fd:jQ,(∀(s:jA) (v:i_),BindsTo s fd ⟨[v],[]⟩ [("_law_script",v)])/\∀base:jN,K.In base->base.Ns mainGlobals mg->FnOk l.prog w K mg base Ea 65 fa fd ["_law_script"] (Tn K):=by
 have e:=hfa.symm.trans (ZA X G a31)
 cases e
 have F1:=Bn (st:=LK) l1 c_1 k1
 have F2:=Bn (st:=JK) l2 c_2 k2
 have F3:=Bn (st:=LL) l3 c_3 k3
 have F4:=Bn (st:=LM) l4 c_4 k4
 have F5:=Bn (st:=LN) l5 c_5 k5
 have F6:=Bn (st:=LP) l6 c_6 k6
 have F7:=Bn (st:=LQ) l7 c_7 k7
 have F8:=Bn (st:=LR) l8 c_8 k8
 have F9:=Bn (st:=LU) l9 c_9 k9
 have F10:=Bn (st:=EZ) l10 c_10 k10
 have Z:FunD K "machine" "machine" JL wg _ m9:=⟨_,_,_,_,_,_,_,_,_,rfl,l11,c_11⟩
 have F12:=Bn (st:=JM) l12 c_12 k12
 have M:=Bn (st:=JN) l13 c_13 k13
 have F14:=Bn (st:=FA) l14 c_14 k14
 have F15:=Bn (st:=LW) l15 c_15 k15
 have F16:=Bn (st:=FB) l16 c_16 k16
 have F17:=Bn (st:=FC) l17 c_17 N
 have F18:=Bn (st:=LX) l18 c_18 V
 have F19:=Bn (st:=FD) l19 c_19 k19
 have F20:=Bn (st:=LY) l20 c_20 S
 have U:=Bn (st:=FE) l21 c_21 Q
 have F22:=Bn (st:=LZ) l22 c_22 k22
 have F23:=Bn (st:=FF) l23 c_23 k23
 have F24:=Bn (st:=MA) l24 c_24 k24
 have F25:=Bn (st:=JO) l25 c_25 k25
 have F26:=Bn (st:=MB) l26 c_26 k26
 have F27:=Bn (st:=MC) l27 c_27 k27
 have F28:=Bn (st:=Yu) l28 c_28 k28
 have F29:=Bn (st:=JP) l29 Y k29
 have F30:=Bn (st:=JQ) l30 c_30 k30
 have F31:=Bn (st:=Iu) l31 c_31 k31
 have b1:=F1.binds (ps:=["stands"]) λ_ _ _ _ _ _ b a=>by obtain⟨c,rfl⟩:=Gg a;rfl
 have b2:=F2.binds (ps:=["bits"]) λ_ _ _ _ _ _ b a=>by obtain⟨c,rfl⟩:=Gg a;rfl
 have b3:=F3.binds (ps:=["lows","bits"]) λ_ _ _ _ _ _ b a=>by obtain⟨c,d,rfl⟩:=Fu a;rfl
 have b4:=F4.binds (ps:=["pairs"]) λ_ _ _ _ _ _ b a=>by obtain⟨c,rfl⟩:=Gg a;rfl
 have b5:=F5.binds (ps:=["pairs","least"]) λ_ _ _ _ _ _ b a=>by obtain⟨c,d,rfl⟩:=Fu a;rfl
 have b6:=F6.binds (ps:=["groups","least"]) λ_ _ _ _ _ _ b a=>by obtain⟨c,d,rfl⟩:=Fu a;rfl
 have b7:=F7.binds (ps:=["groups","least"]) λ_ _ _ _ _ _ b a=>by obtain⟨c,d,rfl⟩:=Fu a;rfl
 have b8:=F8.binds (ps:=["pairs","others"]) λ_ _ _ _ _ _ b a=>by obtain⟨c,d,rfl⟩:=Fu a;rfl
 have b9:=F9.binds (ps:=["arrows"]) λ_ _ _ _ _ _ b a=>by obtain⟨c,rfl⟩:=Gg a;rfl
 have b10:=F10.binds (ps:=["tops","stand","w","least"]) λ_ _ _ _ _ _ b a=>by obtain⟨c,d,a2,a3,rfl⟩:=FN a;rfl
 have b11:=Z.binds (ps:=["game","saying","most"]) O λ_ _ _ _ _ _ b a=>by obtain⟨c,d,rfl⟩:=Fu (Nat.succ.inj a);exact⟨_,rfl,rfl⟩
 have b12:=F12.binds (ps:=["tops"]) λ_ _ _ _ _ _ b a=>by obtain⟨c,rfl⟩:=Gg a;rfl
 have b13:=M.binds (ps:=["tops"]) λ_ _ _ _ _ _ b a=>by obtain⟨c,rfl⟩:=Gg a;rfl
 have b14:=F14.binds (ps:=["game","tops","least"]) λ_ _ _ _ _ _ b a=>by obtain⟨c,d,a2,rfl⟩:=Gh a;rfl
 have b15:=F15.binds (ps:=["game"]) λ_ _ _ _ _ _ b a=>by obtain⟨c,rfl⟩:=Gg a;rfl
 have b16:=F16.binds (ps:=["kept","waiting"]) λ_ _ _ _ _ _ b a=>by obtain⟨c,d,rfl⟩:=Fu a;rfl
 have b17:=F17.binds (ps:=["kept","found"]) λ_ _ _ _ _ _ b a=>by obtain⟨c,d,rfl⟩:=Fu a;rfl
 have b18:=F18.binds (ps:=["game","one","other"]) λ_ _ _ _ _ _ b a=>by obtain⟨c,d,a2,rfl⟩:=Gh a;rfl
 have b19:=F19.binds (ps:=["game","one","other"]) λ_ _ _ _ _ _ b a=>by obtain⟨c,d,a2,rfl⟩:=Gh a;rfl
 have b20:=F20.binds (ps:=["many","arrows","ends"]) λ_ _ _ _ _ _ b a=>by obtain⟨c,d,a2,rfl⟩:=Gh a;rfl
 have b21:=U.binds (ps:=["game","saying","by"]) λ_ _ _ _ _ _ b a=>by obtain⟨c,d,a2,rfl⟩:=Gh a;rfl
 have b22:=F22.binds (ps:=["places","stand","by"]) λ_ _ _ _ _ _ b a=>by obtain⟨c,d,a2,rfl⟩:=Gh a;rfl
 have b23:=F23.binds (ps:=["places","arrows","seconds"]) λ_ _ _ _ _ _ b a=>by obtain⟨c,d,a2,rfl⟩:=Gh a;rfl
 have b24:=F24.binds (ps:=["arrows","ends","stand","pile"]) λ_ _ _ _ _ _ b a=>by obtain⟨c,d,a2,a3,rfl⟩:=FN a;rfl
 have b25:=F25.binds (ps:=["arrows","reading","letter"]) λ_ _ _ _ _ _ b a=>by obtain⟨c,d,a2,rfl⟩:=Gh a;rfl
 have b26:=F26.binds (ps:=["saying","place","pile"]) λ_ _ _ _ _ _ b a=>by obtain⟨c,d,a2,rfl⟩:=Gh a;rfl
 have b27:=F27.binds (ps:=["_law_state","_law_many"]) λ_ _ _ _ _ _ b a=>by obtain⟨c,d,rfl⟩:=Fu a;rfl
 have b28:=F28.binds (ps:=["_law_state"]) λ_ _ _ _ _ _ b a=>by obtain⟨c,rfl⟩:=Gg a;rfl
 have b29:=F29.binds (ps:=["_law_state","_law_game"]) λ_ _ _ _ _ _ b a=>by obtain⟨c,d,rfl⟩:=Fu a;rfl
 have b30:=F30.binds (ps:=["_law_letters"]) λ_ _ _ _ _ _ b a=>by obtain⟨c,rfl⟩:=Gg a;rfl
 have L:=aL X G i
 have R:=aL X G j
 have ao:=aL X G g
 have cf:=aL X G B
 have jg:=aL X G u
 have bw:=aL X G m
 have k:=aL X G H
 have jp:=aL X G I
 have d8:=aL X G y
 have cj:=aL X G f
 have jh:=aL X G o
 have x6:=ZA X G y1
 refine⟨PySem.W.fnOf "law" "law" (Az Iu) (Ay Iu) (Af Iu) .none qt si qo vk nl ou,λs v=>.of_eq rfl,λbase _ _=>?_⟩
 have g1:=PL (P:=l.prog) (w:=w) (mg:=mg) (base:=base) (n:=0) F1
 have q1:VCal l.prog w K mg base 1 "as_bits" ["stands"] _:=⟨_,_,g1,b1,k1,ZA X G d⟩
 have g2:=PN (P:=l.prog) (w:=w) (mg:=mg) (base:=base) (n:=0) F2 L R
 have q2:VCal l.prog w K mg base 1 "as_stands" ["bits"] _:=⟨_,_,g2,b2,k2,ZA X G a2⟩
 have g3:=PU (P:=l.prog) (w:=w) (mg:=mg) (base:=base) (n:=0) F3
 have q3:VCal l.prog w K mg base 1 "has_within" ["lows","bits"] _:=⟨_,_,g3,b3,k3,ZA X G a3⟩
 have g4:=PV (P:=l.prog) (w:=w) (mg:=mg) (base:=base) (n:=1) F4 (q3.mono (by decide)) ao
 have q4:VCal l.prog w K mg base 2 "least_alone" ["pairs"] _:=⟨_,_,g4,b4,k4,ZA X G a4⟩
 have g5:=PX (P:=l.prog) (w:=w) (mg:=mg) (base:=base) (n:=2) F5 (q4.mono (by decide)) ao cf
 have q5:VCal l.prog w K mg base 3 "thinned" ["pairs","least"] _:=⟨_,_,g5,b5,k5,ZA X G a5⟩
 have g6:=QA (P:=l.prog) (w:=w) (mg:=mg) (base:=base) (n:=3) F6 (q5.mono (by decide))
 have q6:VCal l.prog w K mg base 4 "one_of_any" ["groups","least"] _:=⟨_,_,g6,b6,k6,ZA X G a6⟩
 have g8:=PQ (P:=l.prog) (w:=w) (mg:=mg) (base:=base) (n:=0) F8 jg bw
 have q8:VCal l.prog w K mg base 1 "each_with_each" ["pairs","others"] _:=⟨_,_,g8,b8,k8,ZA X G a8⟩
 have g7:=PY (P:=l.prog) (w:=w) (mg:=mg) (base:=base) (n:=3) F7 (q5.mono (by decide)) (q8.mono (by decide))
 have q7:VCal l.prog w K mg base 4 "one_of_each" ["groups","least"] _:=⟨_,_,g7,b7,k7,ZA X G a7⟩
 have g9:=QC (P:=l.prog) (w:=w) (mg:=mg) (base:=base) (n:=1) F9 (q1.mono (by decide))
 have q9:VCal l.prog w K mg base 2 "arrows_by_top" ["arrows"] _:=⟨_,_,g9,b9,k9,ZA X G a9⟩
 have g10:=QI (P:=l.prog) (w:=w) (mg:=mg) (base:=base) (n:=4) F10 (q1.mono (by decide)) (q2.mono (by decide)) (q5.mono (by decide)) (q7.mono (by decide)) k
 have q10:VCal l.prog w K mg base 5 "readings_by" ["tops","stand","w","least"] _:=⟨_,_,g10,b10,k10,ZA X G a10⟩
 have g17:=QM (P:=l.prog) (w:=w) (mg:=mg) (base:=base) (n:=1) F17 (q3.mono (by decide)) k
 have q17:VCal l.prog w K mg base 2 "not_kept" ["kept","found"] _:=⟨_,_,g17,b17,N,ZA X G a17⟩
 have g15:=QE (P:=l.prog) (w:=w) (mg:=mg) (base:=base) (n:=0) F15
 have q15:VCal l.prog w K mg base 1 "rules_by_top" ["game"] _:=⟨_,_,g15,b15,k15,ZA X G a15⟩
 have g14:=QK (P:=l.prog) (w:=w) (mg:=mg) (base:=base) (n:=5) F14 (q15.mono (by decide)) (q10.mono (by decide)) (q7.mono (by decide)) (q6.mono (by decide)) x6
 have q14:VCal l.prog w K mg base 6 "following" ["game","tops","least"] _:=⟨_,_,g14,b14,k14,ZA X G a14⟩
 have g12:=QP (P:=l.prog) (w:=w) (mg:=mg) (base:=base) (n:=0) F12 jp k
 have q12:VCal l.prog w K mg base 1 "how_many" ["tops"] _:=⟨_,_,g12,b12,k12,ZA X G a12⟩
 have g16:=QU (P:=l.prog) (w:=w) (mg:=mg) (base:=base) (n:=0) F16 d8
 have q16:VCal l.prog w K mg base 1 "keep_cheapest" ["kept","waiting"] _:=⟨_,_,g16,b16,k16,ZA X G a16⟩
 have g13:=QW (P:=l.prog) (w:=w) (mg:=mg) (base:=base) (n:=1) M (q2.mono (by decide))
 have q13:VCal l.prog w K mg base 2 "as_arrows" ["tops"] _:=⟨_,_,g13,b13,k13,ZA X G a13⟩
 have g11:=SD (P:=l.prog) (w:=w) (mg:=mg) (base:=base) (n:=6) Z (q9.mono (by decide)) (q4.mono (by decide)) (q17.mono (by decide)) (q14.mono (by decide)) (q12.mono (by decide)) (q16.mono (by decide)) (q13.mono (by decide)) k L ao
 have q11:Kg l.prog w K mg base 7 "machine" ["game","saying","most"] 200 _:=⟨_,_,_,g11,b11,k11,ZA X G a11⟩
 have g22:=RD (P:=l.prog) (w:=w) (mg:=mg) (base:=base) (n:=0) F22
 have q22:VCal l.prog w K mg base 1 "moved_stand" ["places","stand","by"] _:=⟨_,_,g22,b22,k22,ZA X G a22⟩
 have g21:=RH (P:=l.prog) (w:=w) (mg:=mg) (base:=base) (n:=1) U (q22.mono (by decide)) k L
 have q21:VCal l.prog w K mg base 2 "numbered_behind" ["game","saying","by"] _:=⟨_,_,g21,b21,Q,ZA X G a21⟩
 have g20:=RN (P:=l.prog) (w:=w) (mg:=mg) (base:=base) (n:=0) F20 L ao cf
 have q20:VCal l.prog w K mg base 1 "sorted_saying" ["many","arrows","ends"] _:=⟨_,_,g20,b20,S,ZA X G a20⟩
 have g18:=RW (P:=l.prog) (w:=w) (mg:=mg) (base:=base) (n:=2) F18 (q21.mono (by decide)) (q20.mono (by decide))
 have q18:VCal l.prog w K mg base 3 "either" ["game","one","other"] _:=⟨_,_,g18,b18,V,ZA X G a18⟩
 have g23:=RM (P:=l.prog) (w:=w) (mg:=mg) (base:=base) (n:=0) F23
 have q23:VCal l.prog w K mg base 1 "arrows_of_places" ["places","arrows","seconds"] _:=⟨_,_,g23,b23,k23,ZA X G a23⟩
 have g19:=RZ (P:=l.prog) (w:=w) (mg:=mg) (base:=base) (n:=2) F19 (q23.mono (by decide)) (q21.mono (by decide)) (q20.mono (by decide)) k
 have q19:VCal l.prog w K mg base 3 "both" ["game","one","other"] _:=⟨_,_,g19,b19,k19,ZA X G a19⟩
 have g25:=QZ (P:=l.prog) (w:=w) (mg:=mg) (base:=base) (n:=0) F25 jh
 have q25:VCal l.prog w K mg base 1 "reading_with" ["arrows","reading","letter"] _:=⟨_,_,g25,b25,k25,ZA X G a25⟩
 have g24:=RA (P:=l.prog) (w:=w) (mg:=mg) (base:=base) (n:=1) F24 (q25.mono (by decide)) cj
 have q24:VCal l.prog w K mg base 2 "reads" ["arrows","ends","stand","pile"] _:=⟨_,_,g24,b24,k24,ZA X G a24⟩
 have g26:=RB (P:=l.prog) (w:=w) (mg:=mg) (base:=base) (n:=2) F26 (q24.mono (by decide))
 have q26:VCal l.prog w K mg base 3 "is_in" ["saying","place","pile"] _:=⟨_,_,g26,b26,k26,ZA X G a26⟩
 have g27:=PK (P:=l.prog) (w:=w) (mg:=mg) (base:=base) (n:=0) F27 k
 have q27:VCal l.prog w K mg base 1 "_law_draw" ["_law_state","_law_many"] _:=⟨_,_,g27,b27,k27,ZA X G a27⟩
 have g28:=SJ (P:=l.prog) (w:=w) (mg:=mg) (base:=base) (n:=1) F28 (q27.mono (by decide)) R k L d8
 have q28:VCal l.prog w K mg base 2 "_law_small_game" ["_law_state"] _:=⟨_,_,g28,b28,k28,ZA X G a28⟩
 have g29:=SL (P:=l.prog) (w:=w) (mg:=mg) (base:=base) (n:=1) F29 (q27.mono (by decide)) k R L ao cf
 have q29:VCal l.prog w K mg base 2 "_law_small_saying" ["_law_state","_law_game"] _:=⟨_,_,g29,b29,k29,ZA X G a29⟩
 have g30:=SN (P:=l.prog) (w:=w) (mg:=mg) (base:=base) (n:=0) F30 R
 have q30:VCal l.prog w K mg base 1 "_law_piles" ["_law_letters"] _:=⟨_,_,g30,b30,k30,ZA X G a30⟩
 have g31:=LC (P:=l.prog) (w:=w) (mg:=mg) (base:=base) (n:=7) F31 (q28.mono (by decide)) (q29.mono (by decide)) (q30.mono (by decide)) (q18.mono (by decide)) (q19.mono (by decide)) (q26.mono (by decide)) (q24.mono (by decide)) (q11.mono (by decide)) bw k R
 exact g31.mono (by decide)
theorem walk{l:PySem.W.OpenLaw}{q:jJ}{j:List Str}{y:(Str->Option i_)->jN->Prop}{e:jK->jN->Prop}{d:DefRec}{K:Params->jI}(p:l.most=some 63)(o:d.params.defaults=[])
  (t:∀(w:jK) (h:jN),e w h->(K w.params).In h)
  (F:∀(w:jK) (mg:Str->Option i_) (c:jH) (h:jN),(K w.params).In h->h.Ns mainGlobals mg->mg d.name=some (.ref c) ->
   ∃g:jQ,(∀(s:jA) (u:i_),BindsTo s g ⟨[u],[]⟩ [("_law_script",u)])/\∀b:jN,(K w.params).In b->b.Ns mainGlobals mg->FnOk l.prog w (K w.params) mg b Ea 65 c g ["_law_script"] (Tn (K w.params))) :
  PySem.W.WalkO q j y e l.row.toRowW d [] (λf v=>PySem.call f v) :=
 L2.walk_of (n:=63) (k:=65) (x := "_law_script") (CX:=λ_=>Ea) (sp:=λw=>Tn (K w.params)) p (by decide) o ⟨rfl,by decide,by decide,rfl⟩ t F (λ_ _ a ns m i r=>⟨a,ns,rfl,r,i,m,λ_=>rfl⟩) λ_ _ _ _ _ z=>z
end K81
namespace PySem.W.Fast
theorem tw8363100799185502412:True:=trivial
theorem tw6011532441331770184:True:=trivial
theorem tw14033845442260312753:True:=trivial
theorem tw10243449705303015560:True:=trivial
theorem tw603406944359667858:True:=trivial
theorem tw4441148647361280479:True:=trivial
theorem tw2359113287748740953:True:=trivial
theorem tw14837294897493814257:True:=trivial
theorem tw5895588360327231601:True:=trivial
theorem tw13628795924992375341:True:=trivial
theorem tw17438883384366766306:True:=trivial
theorem tw15410991859642232833:True:=trivial
theorem tw2754695054142105697:True:=trivial
theorem tw3832041780420607728:True:=trivial
theorem tw376092773503976250:True:=trivial
theorem tw8030050987854195298:True:=trivial
theorem tw6959418560829943673:True:=trivial
theorem tw5346058044931579569:True:=trivial
theorem tw7293680398472663753:True:=trivial
theorem tw7322741211063662561:True:=trivial
theorem tw651754331763894410:True:=trivial
theorem tw6826576441954477532:True:=trivial
theorem tw8614604693561640037:True:=trivial
theorem tw16981167380019296534:True:=trivial
theorem tw5774506940463247:True:=trivial
theorem tw1704461394112778235:True:=trivial
theorem tw10475977063114815102:True:=trivial
theorem tw10481663438042173946:True:=trivial
theorem tw10410106591316695119:True:=trivial
theorem tw900888716243022978:True:=trivial
theorem tw16989450973972018795:True:=trivial
theorem tw8029648671891919842:True:=trivial
theorem tw2084846734114242236:True:=trivial
theorem tw1558412672959343447:True:=trivial
theorem tw4258442830379766529:True:=trivial
theorem tw6826704280016372219:True:=trivial
theorem tw5701597470073119330:True:=trivial
theorem tw5008473370435331638:True:=trivial
theorem tw1423969819418715062:True:=trivial
theorem tw18365481135914370957:True:=trivial
theorem tw17100207976959025304:True:=trivial
theorem tw8334073890032703251:True:=trivial
theorem tw4805056865934140576:True:=trivial
theorem tw6960525461329844943:True:=trivial
theorem tw15149308197973668667:True:=trivial
theorem tw9952714202861151655:True:=trivial
theorem tw6910274912425667200:True:=trivial
theorem tw17757405415032396353:True:=trivial
theorem tw6288460362657778594:True:=trivial
theorem tw11991198503813963566:True:=trivial
theorem tw15943094503849771970:True:=trivial
theorem tw8865448917133705924:True:=trivial
theorem tw5186671950993856474:True:=trivial
theorem tw6837502600647095955:True:=trivial
theorem tw5569120421671468653:True:=trivial
theorem tw15011247954397343657:True:=trivial
theorem tw12512865241835949973:True:=trivial
theorem tw16105410963827505209:True:=trivial
theorem tw606470383192399167:True:=trivial
theorem tw6549027305690285093:True:=trivial
theorem tw14844621046062665191:True:=trivial
theorem tw1865191414057845753:True:=trivial
theorem tw16977643888009614138:True:=trivial
theorem tw8327207591905734568:True:=trivial
theorem tw6989468777441153433:True:=trivial
theorem tw16397320967923075708:True:=trivial
theorem tw15050907267422744791:True:=trivial
theorem tw14345245388219866256:True:=trivial
theorem tw9615212874130806772:True:=trivial
theorem tw17852911295573292973:True:=trivial
theorem tw17176605161416239969:True:=trivial
theorem tw11985076640937817188:True:=trivial
theorem tw15881314918040100766:True:=trivial
theorem tw14930212236297532888:True:=trivial
theorem tw5361156009741354498:True:=trivial
theorem tw16517344937945660464:True:=trivial
theorem tw15485123274983331915:True:=trivial
theorem tw6508336191947019152:True:=trivial
end PySem.W.Fast
open PySem PySem.W PyProof.Rows
set_option maxRecDepth 100000 in
set_option maxHeartbeats 0 in
theorem PySem.Challenge.cw_pileduel_k81_whole_machines_of_joined_sa_holds : PySem.Challenge.rw_pileduel_k81_whole_machines_of_joined_sa.Holds := by
 w_on;o_law;k_head;(case hw=>w_witness2)
 k_fill
 refine K81.walk (l:=PySem.Challenge.rw_pileduel_k81_whole_machines_of_joined_sa) rfl rfl (fun w h Y=>PySem.W.kIn_of Y) ?F
 case F =>
  intro w mg fa h KX G hmg
  refine' K81.all_mk KX G hmg ?a1 ?l1 ?c_1 ?k1 ?a2 ?l2 ?c_2 ?k2 ?a3 ?l3 ?c_3 ?k3 ?a4 ?l4 ?c_4 ?k4 ?a5 ?l5 ?c_5 ?k5 ?a6 ?l6 ?c_6 ?k6 ?a7 ?l7 ?c_7 ?k7 ?a8 ?l8 ?c_8 ?k8 ?a9 ?l9 ?c_9 ?k9 ?a10 ?l10 ?c_10 ?k10 ?a11 ?l11 ?lT11 ?c_11 ?k11 ?a12 ?l12 ?c_12 ?k12 ?a13 ?l13 ?c_13 ?k13 ?a14 ?l14 ?c_14 ?k14 ?a15 ?l15 ?c_15 ?k15 ?a16 ?l16 ?c_16 ?k16 ?a17 ?l17 ?c_17 ?k17 ?a18 ?l18 ?c_18 ?k18 ?a19 ?l19 ?c_19 ?k19 ?a20 ?l20 ?c_20 ?k20 ?a21 ?l21 ?c_21 ?k21 ?a22 ?l22 ?c_22 ?k22 ?a23 ?l23 ?c_23 ?k23 ?a24 ?l24 ?c_24 ?k24 ?a25 ?l25 ?c_25 ?k25 ?a26 ?l26 ?c_26 ?k26 ?a27 ?l27 ?c_27 ?k27 ?a28 ?l28 ?c_28 ?k28 ?a29 ?l29 ?c_29 ?k29 ?a30 ?l30 ?c_30 ?k30 ?a31 ?l31 ?c_31 ?k31 ?z_tuple ?z_range ?z_sorted ?z_set ?z_max ?z_list ?z_len ?z_sum ?z_min ?z_reversed ?z_all ?y1
  (case a1=>k_is)
  (case l1=>k_is)
  (case c_1=>k_is)
  (case k1=>k_is)
  (case a2=>k_is)
  (case l2=>k_is)
  (case c_2=>k_is)
  (case k2=>k_is)
  (case a3=>k_is)
  (case l3=>k_is)
  (case c_3=>k_is)
  (case k3=>k_is)
  (case a4=>k_is)
  (case l4=>k_is)
  (case c_4=>k_is)
  (case k4=>k_is)
  (case a5=>k_is)
  (case l5=>k_is)
  (case c_5=>k_is)
  (case k5=>k_is)
  (case a6=>k_is)
  (case l6=>k_is)
  (case c_6=>k_is)
  (case k6=>k_is)
  (case a7=>k_is)
  (case l7=>k_is)
  (case c_7=>k_is)
  (case k7=>k_is)
  (case a8=>k_is)
  (case l8=>k_is)
  (case c_8=>k_is)
  (case k8=>k_is)
  (case a9=>k_is)
  (case l9=>k_is)
  (case c_9=>k_is)
  (case k9=>k_is)
  (case a10=>k_is)
  (case l10=>k_is)
  (case c_10=>k_is)
  (case k10=>k_is)
  (case a11=>k_is)
  (case l11=>k_is)
  (case lT11=>k_is)
  (case c_11=>k_is)
  (case k11=>k_is)
  (case a12=>k_is)
  (case l12=>k_is)
  (case c_12=>k_is)
  (case k12=>k_is)
  (case a13=>k_is)
  (case l13=>k_is)
  (case c_13=>k_is)
  (case k13=>k_is)
  (case a14=>k_is)
  (case l14=>k_is)
  (case c_14=>k_is)
  (case k14=>k_is)
  (case a15=>k_is)
  (case l15=>k_is)
  (case c_15=>k_is)
  (case k15=>k_is)
  (case a16=>k_is)
  (case l16=>k_is)
  (case c_16=>k_is)
  (case k16=>k_is)
  (case a17=>k_is)
  (case l17=>k_is)
  (case c_17=>k_is)
  (case k17=>k_is)
  (case a18=>k_is)
  (case l18=>k_is)
  (case c_18=>k_is)
  (case k18=>k_is)
  (case a19=>k_is)
  (case l19=>k_is)
  (case c_19=>k_is)
  (case k19=>k_is)
  (case a20=>k_is)
  (case l20=>k_is)
  (case c_20=>k_is)
  (case k20=>k_is)
  (case a21=>k_is)
  (case l21=>k_is)
  (case c_21=>k_is)
  (case k21=>k_is)
  (case a22=>k_is)
  (case l22=>k_is)
  (case c_22=>k_is)
  (case k22=>k_is)
  (case a23=>k_is)
  (case l23=>k_is)
  (case c_23=>k_is)
  (case k23=>k_is)
  (case a24=>k_is)
  (case l24=>k_is)
  (case c_24=>k_is)
  (case k24=>k_is)
  (case a25=>k_is)
  (case l25=>k_is)
  (case c_25=>k_is)
  (case k25=>k_is)
  (case a26=>k_is)
  (case l26=>k_is)
  (case c_26=>k_is)
  (case k26=>k_is)
  (case a27=>k_is)
  (case l27=>k_is)
  (case c_27=>k_is)
  (case k27=>k_is)
  (case a28=>k_is)
  (case l28=>k_is)
  (case c_28=>k_is)
  (case k28=>k_is)
  (case a29=>k_is)
  (case l29=>k_is)
  (case c_29=>k_is)
  (case k29=>k_is)
  (case a30=>k_is)
  (case l30=>k_is)
  (case c_30=>k_is)
  (case k30=>k_is)
  (case a31=>k_is)
  (case l31=>k_is)
  (case c_31=>k_is)
  (case k31=>k_is)
  (case z_tuple=>k_is)
  (case z_range=>k_is)
  (case z_sorted=>k_is)
  (case z_set=>k_is)
  (case z_max=>k_is)
  (case z_list=>k_is)
  (case z_len=>k_is)
  (case z_sum=>k_is)
  (case z_min=>k_is)
  (case z_reversed=>k_is)
  (case z_all=>k_is)
  (case y1=>k_is)
