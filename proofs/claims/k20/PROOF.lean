import PyProof.Rows.All
import Wide.All
import OpenK.AllK
import Wide.FinOn
import Lean
import PyProof.EqAt
import PyProof.EqKinds
import PyProof.TupleCall
import PyProof.CompFree
import PyProof.CompUse
import PyProof.CollectIter
import PyProof.ListNew
import KE.KRevIter
import PyProof.EnumMake
import PyProof.Draws
import PyProof.TupleIter
import PyProof.WalksMore
import PyProof.ReprRoads
import PyProof.P3Eq
import PyProof.NeData
import PyProof.EqLayable
import PyProof.Rows.RegFStrParts
import PyProof.AutoListH
import KE.KItemsList
import KE.KDictList
import PyProof.StrBlockG
import PyProof.StrLawsOcc
import PyProof.StrLawsTight
import PyProof.StrLawsChain
import PyProof.Rows.Range3
import PyProof.MinMaxWalk
import PyProof.WalkInts
import PyProof.ExcClass3
import PyProof.ExcInit
import PyProof.InstStoreFacts
import PyProof.ExcArgsOwn
import KE.KIsAll
import PyProof.RaisesMany
import PyProof.RulesTry
import PyProof.Raises
import PyProof.RulesAs
import PyProof.NsDelKeeps
import PyProof.PassesOwn
import PyProof.Rows.CatchHere
import KE.KSortTup
import PyProof.FactsAll.tuple_2
import PyProof.TupleKey
import PyProof.Rows.RowHeap
import PyProof.SetKind
import PyProof.SetNew
import PyProof.DictIter
import PyProof.CollectWalk
import PyProof.Walks
import PyProof.ZipIter
import KE.KRevSl
import KE.KStateDown
import PyProof.SetRoads
import PyProof.SumWalk
import PyProof.CallStr
import PyProof.FactsAll.tuple_3
import PyProof.StrLawsIn
import KE.KIntText
import PyProof.Rows.CallKwBuiltin
import PyProof.StrReplace2
import KE.KMinBuiltin
import PySem.Challenge.RW_pileduel_k20_texts_of_no_saying
set_option Elab.async false
set_option linter.all false
set_option compiler.extract_closed false
set_option maxRecDepth 100000
def A_:=@PySem.wpAny_bind
def B_:=@List.length_map
def C_:=@PySem.Heap.get?_push_of_some
def DD:=@PySem.wpAny_pure
def D_:=@List.getElem?_eq_getElem
def E_:=@List.getElem?_eq_some_iff
def F_:=@List.getElem?_map
def G_:=@PySem.Heap.lt_size
def H_:=@Nat.le_refl
def I_:=@PySem.Heap.get?_push_size
def J_:=@List.length_append
def K_:=@List.mem_cons_of_mem
def L_:=@List.getD_eq_getElem?_getD
def M_:=@List.mem_map
abbrev N_:=@if_neg
def O_:=@Nat.ne_of_lt
def P_:=@List.map_append
def Q_:=@Nat.le_trans
abbrev R_:=@if_pos
def S_:=@Nat.lt_of_lt_of_le
def T_:=@List.size_toArray
def U_:=@List.mem_append
def V_:=@List.mem_cons_self
def W_:=@Option.map_eq_some_iff
def X_:=@Bool.false_ne_true
def Y_:=@List.mem_singleton
def Z_:=@List.mem_cons
def aA:=@PySem.boot_len
def aB:=@List.mem_of_getElem?
def aC:=@PySem.W.mg_of
def aD:=@List.length_take
def aE:=@Option.some.inj
abbrev aF:=@decide_eq_false
def aG:=@Array.getElem?_toList
def aH:=@List.length_drop
def aJ:=@List.map_map
def aK:=@PySem.Calls.spliced_cons
def aL:=@List.getElem_mem
def aM:=@List.length_cons
abbrev aN:=@decide_eq_true
def aO:=@Array.length_toList
def aP:=@PySem.wpAny_Call_Name_kw
def aQ:=@Nat.succ_pos
def aR:=@PySem.Heap.get?_update_other
abbrev aS:=@of_decide_eq_true
def aT:=@PySem.wpAny_holding
def aU:=@Nat.zero_le
def aV:=@List.all_eq_true
def aW:=@List.mem_append_right
def aX:=@PySem.Heap.get?_update_self
def aY:=@Array.getElem?_eq_getElem
def aZ:=@PyProof.Rows.callWith_type1
def a_:=@PySem.wpAny_mono
def bA:=@PySem.Calls.spliced_nil
def bB:=@PySem.wpAny_setState_of
def bC:=@List.mem_range
def bD:=@PySem.wpAny_newObj_type
def bE:=@PySem.W.mg_none_of
def bF:=@List.map_cons
def bG:=@List.getElem?_eq_none
def bH:=@PySem.F.slot_str_join
def bI:=@PySem.F.type_str_join
def bJ:=@PySem.wpAny_field
def bK:=@List.getElem?_append_right
def bL:=@Bool.and_eq_true
def bM:=@List.drop_eq_getElem_cons
def bN:=@List.take_of_length_le
def bO:=@Option.isSome_iff_exists
def bP:=@PyProof.Rows.callWith_builtin1
def bQ:=@PySem.wpAny_call_entry
def bR:=@PySem.wpAny_seqItems
def bS:=@List.eq_nil_of_length_eq_zero
def bT:=@PyProof.Rows.boot_tuple
abbrev bU:=@Exists.elim
def bV:=@PySem.Around.under_plainId
def bW:=@PySem.F.slot_list_append
def bX:=@PySem.F.type_list_append
def bY:=@Array.getD_eq_getD_getElem?
def bZ:=@PyProof.Rows.slot_tuple_getitem
def b_:=@PySem.Heap.SameBut.update
def cB:=@PySem.W.kia_one
def cD:=@PySem.PassesOwn.never
abbrev cF:=@congrArg
def cH:=@PySem.wpAny_callSpecial?_slot
def cJ:=@Array.getElem?_eq_some_iff
def cK:=@List.mem_append_left
def cL:=@List.getElem?_append_left
def cN:=@PySem.F.slot_str_split
def cP:=@PySem.F.type_str_split
def cQ:=@PySem.Heap.size_push
def cU:=@List.take_length
def cV:=@List.pairwise_map
def cW:=@List.take_succ
def cX:=@List.append_nil
def cY:=@PySem.codeAny_builtin
def cZ:=@Nat.ne_of_gt
def c_:=@Nat.le_add_right
abbrev dA:=@Ne.symm
def dB:=@PySem.wpAny_truthy_bool
def dC:=@List.length_range
def dD:=@PySem.StrLaws.glued_eq_join
def dE:=@List.concat_eq_append
def dF:=@Nat.lt_irrefl
def dG:=@Array.getElem?_setIfInBounds
def dH:=@Nat.lt_of_le_of_lt
def dI:=@PySem.StrLaws.join_split
def dJ:=@List.mem_of_mem_drop
def dL:=@List.any_cons
def dM:=@PySem.plainId_quiet
def dN:=@Nat.le_of_lt
def dO:=@Nat.le_of_lt_succ
def dP:=@List.pairwise_lt_range
def dQ:=@Nat.lt_or_ge
def dR:=@Array.getElem?_eq_none
def dS:=@List.replicate_succ
abbrev dU:=@Classical.byContradiction
def dW:=@PyProof.Rows.boot_str
def dX:=@PySem.wpAny_pyIter_tuple
def dY:=@PySem.wpAny_forIn_list
abbrev dZ:=@decide_eq_decide
def d_:=@Nat.lt_succ_of_lt
def eA:=@PySem.wpAny_pyIter_list
def eB:=@List.nodup_cons
def eC:=@PySem.wpAny_rule
def eD:=@Nat.min_eq_left
def eE:=@List.map_congr_left
def eF:=@List.drop_of_length_le
def eG:=@PySem.W.Looks.ld
def eI:=@PySem.wpAny_isInstance
def eJ:=@PySem.wpAny_setField
def eK:=@PySem.Obj.data_mapFields
def eL:=@PySem.wpAny_setField_rec
def eM:=@List.findIdx?_eq_some_iff_getElem
def eN:=@PySem.wpAny_specialOf
def eO:=@List.flatten_cons
def eP:=@List.append_assoc
def eQ:=@Nat.lt_trans
def eR:=@List.mem_of_mem_take
def eU:=@PyProof.Rows.Reads.keeps
def eV:=@Bool.true_and
def eW:=@List.filterMap_cons
def eX:=@PySem.mem_of_lookup
def eY:=@PySem.W.looks_mroIn
def eZ:=@List.length_pos_iff
def e_:=@PySem.wpAny_getItem_str_slice
def fA:=@List.getElem?_cons_succ
def fB:=@List.drop_length
def fC:=@PySem.call_meets
abbrev fD:=@of_decide_eq_false
def fE:=@PySem.wpAny_tupleItemsOf
def fF:=@List.pairwise_cons
def fG:=@List.length_range'
def fH:=@List.getElem?_take
def fJ:=@Nat.not_lt_zero
def fK:=@PySem.Paired.length
def fL:=@PySem.Obj.isFreed_of_fields
def fM:=@List.eq_nil_or_concat
def fN:=@List.getElem?_inj
def fO:=@Nat.le_succ_of_le
def fP:=@Nat.le_succ
def fQ:=@PySem.W.looks_findIn
def fR:=@PySem.isSubtype_type
def fS:=@List.nodup_nil
def fU:=@PySem.codeAny_mono
def fV:=@Nat.min_le_right
def fW:=@Nat.lt_succ_self
def fX:=@PySem.SeqAt.eqAt_reads
def fY:=@PySem.W.any_some
def fZ:=@Option.bind_some
def f_:=@List.cons_ne_nil
def gA:=@List.pairwise_iff_getElem
abbrev gB:=@beq_eq_false_iff_ne
def gC:=@PySem.wpAny_standAt
def gD:=@PySem.F.args_tuple_add_2
def gE:=@PySem.wpAny_attempt
def gF:=@List.Pairwise.imp_of_mem
def gG:=@Nat.lt_succ_iff_lt_or_eq
def gH:=@PySem.wpAny_passesOwn
def gI:=@List.nil_append
def gJ:=@List.length_nil
def gK:=@Bool.eq_iff_iff
def gL:=@PySem.wpAny_loadPart'
def gM:=@PySem.W.KasT.kasWp_bind
def gN:=@PySem.wpAny_updateSeq
def gO:=@List.mem_filterMap
def gP:=@PySem.typeIs_str
def gQ:=@PySem.tupleKind_room_in1
def gR:=@Array.forIn_toList
def gS:=@Nat.eq_or_lt_of_le
abbrev gT:=@decide_eq_true_iff
def gU:=@PySem.F.entry_tuple_add
def gV:=@PySem.wpAny_letGo
def gW:=@PySem.wpAny_pyNext_list_item
def gX:=@PySem.F.slot_tuple_add
def gY:=@Int.toNat_natCast
def gZ:=@PySem.wpAny_typeOf
def g_:=@Nat.add_comm
def hJ:=@PySem.WalksT.enumerateD
def hV:=@PySem.wpAny_pyIter_enum
def hY:=@PySem.Heap.get?_push_at
def h_:=@List.ext_getElem?
def iA:=@PySem.wpAny_storeSet_of
def iB:=@PySem.wpAny_runValue
def iC:=@PySem.eqIsQuiet_byValue
def iE:=@List.length_pos_of_mem
def iF:=@Nat.mul_le_mul
def iG:=@PySem.wpAny_tryCatch
def iH:=@PyProof.Rows.boot_list
def iI:=@PySem.wpAny_pyNext_list_end
def iJ:=@PySem.StrLaws.occ_length_le
def iK:=@PySem.isSubtype_tuple_tuple
def iL:=@List.take_append_drop
def iM:=@PyProof.Rows.boot_all
def iN:=@PyProof.Rows.boot_int
def iO:=@List.lookup_cons
def iP:=@Nat.succ_ne_self
def iQ:=@PySem.Heap.size_update
def iR:=@Nat.min_eq_right
def iS:=@List.map_take
def iT:=@List.map_drop
def iU:=@PySem.wpAny_onRaise
def iW:=@List.getElem?_set_ne
def iX:=@Array.mem_toList_iff
def iY:=@PySem.codeAny_call_builtin
def iZ:=@List.pairwise_append
def i_:=@PySem.wpAny_updateSeq_pair
def jA:=@List.mem_filter
def jB:=@PySem.wpAny_execs_nil
def jC:=@Bool.or_eq_true
def jD:=@PyProof.Rows.boot_isinstance
def jE:=@PySem.wpAny_ite_split
abbrev jF:=@ne_true_of_eq_false
def jG:=@List.getElem?_range
def jH:=@List.getElem_of_mem
def jI:=@List.take_succ_cons
def jJ:=@Nat.le_of_eq
def jK:=@PySem.wpAny_call
def jL:=@List.drop_zero
def jM:=@PySem.Code.quiet_builtin
def jN:=@List.Perm.refl
def jO:=@Int.emod_lt_of_pos
def jP:=@List.getElem?_drop
def jQ:=@Option.isSome_map
def jR:=@PySem.wpAny_loadPart_at
def jS:=@Nat.le_of_succ_le
def jT:=@PySem.W.kitx_dict
def jU:=@Nat.lt_trichotomy
def jV:=@List.nodup_append
def jW:=@PySem.noFill_tuple_add
def jX:=@Nat.le_of_not_lt
def jY:=@List.cons_append
def jZ:=@List.nodup_range
def j_:=@PySem.wpAny_askSetting
def kA:=@List.range'_succ
def kC:=@PySem.wpAny_pyIter_zip
abbrev kD:=@beq_iff_eq
def kE:=@Nat.sub_self
def kF:=@PySem.sizeLine_eq
def kG:=@PySem.Paired.snoc
def kH:=@PySem.wpAny_of_eq
def kI:=@List.map_id
abbrev kJ:=@PySem.Value
abbrev kK:=@PySem.Shared
abbrev kL:=@PySem.PyData
abbrev kM:=@PySem.Addr
abbrev kN:=@PySem.W.Frag
abbrev kO:=@PySem.Program
abbrev kP:=@PySem.World
abbrev kQ:=@PySem.Expr
abbrev kR:=@PySem.Around
abbrev kS:=@PySem.Heap
abbrev kT:=@PySem.Obj
abbrev kU:=@PySem.Stmt
abbrev kW:=@PySem.FuncData
abbrev kX:=@PySem.Scope
abbrev kY:=@PySem.NameKind
abbrev kZ:=@PySem.Result
abbrev k_:=@PyProof.Rows.SortKind
abbrev oA:=List
abbrev oB:=Option
abbrev oC:=Array
def oI{α:Type}{a:α}{p:Prop}:a=a∨p:=.inl rfl
def oJ{α:Type}{a:α}{p:Prop}:p∨a=a:=.inr rfl
abbrev qX{α:Type}(p:PySem.Program)(w:PySem.World):=@PySem.wpAny α<|PySem.model p w
namespace L2
def V7{c:Sort _}{a b:c->Prop}{P:Prop}(h:∃x,a x/\b x)(k:∀x,a x->b x->P):P:=bU h λx y=>k x y.1 y.2
def Cs{d e:Sort _}{a b c:d->e->Prop}{P:Prop}(h:∃x y,a x y/\b x y/\c x y)(k:∀x y,a x y->b x y->c x y->P):P:=bU h λx h=>bU h λy h=>k x y h.1 h.2.1 h.2.2
def B7{f g e:Sort _}{a b c d:f->g->e->Prop}{P:Prop}(h:∃x y z,a x y z/\b x y z/\c x y z/\d x y z)(k:∀x y z,a x y z->b x y z->c x y z->d x y z->P):P:=bU h λx h=>bU h λy h=>bU h λz h=>k x y z h.1 h.2.1 h.2.2.1 h.2.2.2
def Ds{g j f i:Sort _}{a b c d e:g->j->f->i->Prop}{P:Prop}(h:∃x y z u,a x y z u/\b x y z u/\c x y z u/\d x y z u/\e x y z u)(k:∀x y z u,a x y z u->b x y z u->c x y z u->d x y z u->e x y z u->P):P:=bU h λx h=>bU h λy h=>bU h λz h=>bU h λu h=>k x y z u h.1 h.2.1 h.2.2.1 h.2.2.2.1 h.2.2.2.2
def V8{i l g j:Sort _}{a b c d e f:i->l->g->j->Prop}{P:Prop}(h:∃x y z u,a x y z u/\b x y z u/\c x y z u/\d x y z u/\e x y z u/\f x y z u)(k:∀x y z u,a x y z u->b x y z u->c x y z u->d x y z u->e x y z u->f x y z u->P):P:=bU h λx h=>bU h λy h=>bU h λz h=>bU h λu h=>k x y z u h.1 h.2.1 h.2.2.1 h.2.2.2.1 h.2.2.2.2.1 h.2.2.2.2.2
def Hg{g j f i l e:Sort _}{a b c d:g->j->f->i->l->e->Prop}{P:Prop}(h:∃x y z u v w,a x y z u v w/\b x y z u v w/\c x y z u v w/\d x y z u v w)(k:∀x y z u v w,a x y z u v w->b x y z u v w->c x y z u v w->d x y z u v w->P):P:=bU h λx h=>bU h λy h=>bU h λz h=>bU h λu h=>bU h λv h=>bU h λw h=>k x y z u v w h.1 h.2.1 h.2.2.1 h.2.2.2
open PySem PySem.Spec PyProof.Rows
abbrev Key:=Sum Int Str
def Ji:Key->kJ->Bool
 |.inl k,v=>Value.isInt k v
 |.inr x,v=>Value.isStrOf x v
def KA(w:kP):Key->Int
 |.inl k=>hashInt k
 |.inr x=>hashStr w x
def keyIs_shape:∀{k:Key} {v:kJ},Ji k v=true->(∃i t,k=Sum.inl i/\v=Value.int i t)\/(∃x t,k=Sum.inr x/\v=Value.str x t)
 |.inl i,v,h=>by obtain⟨t,e⟩:=Value.isInt_shape (k:=i) (v:=v) h;exact .inl ⟨i,t,rfl,e⟩
 |.inr x,v,h=>by obtain⟨t,e⟩:=Value.isStrOf_shape (x:=x) (v:=v) h;exact .inr ⟨x,t,rfl,e⟩
def V9(i:Int)(t:Tok):Ji (.inl i) (.int i t)=true:=by simp[Ji,Value.isInt]
def Wa(x:Str)(t:Tok):Ji (.inr x) (.str x t)=true:=by simp[Ji,Value.isStrOf]
def KB(a b:Int):decide ((Sum.inl a:Key)=Sum.inl b)=(a==b):=by by_cases e:a=b;subst e;simp;have h:¬(Sum.inl a:Key)=Sum.inl b:=λq=>e<|Sum.inl.inj q;rw[aF h];exact(gB.mpr e).symm
def KC(a b:Str):decide ((Sum.inr a:Key)=Sum.inr b)=decide (a=b):=by by_cases e:a=b;subst e;simp;have h:¬(Sum.inr a:Key)=Sum.inr b:=λq=>e<|Sum.inr.inj q;rw[aF h,aF e]
def KD(a:Int)(b:Str):decide ((Sum.inl a:Key)=Sum.inr b)=false:=aF λq=>nomatch q
def KF(a:Str)(b:Int):decide ((Sum.inr a:Key)=Sum.inl b)=false:=aF λq=>nomatch q
def Bl(prog:kO)(w:kP):PySem.KeyKind prog w Key where
 is:=Ji
 hash:=KA w
 inj:=λv a b ha hb=>by rcases keyIs_shape ha with⟨i,t,rfl,rfl⟩|⟨x,t,rfl,rfl⟩;rcases keyIs_shape hb with⟨j,u,rfl,e⟩|⟨y,u,rfl,e⟩;injection e with e1 _;rw[e1];exact nomatch e;rcases keyIs_shape hb with⟨j,u,rfl,e⟩|⟨y,u,rfl,e⟩;exact nomatch e;injection e with e1 _;rw[e1]
 byValue:=λk v h=>by rcases keyIs_shape h with⟨i,t,rfl,rfl⟩|⟨x,t,rfl,rfl⟩<;>rfl
 pyHash:=λhv h=>by rcases keyIs_shape hv with⟨i,t,rfl,rfl⟩|⟨x,t,rfl,rfl⟩;exact wpAny_pyHash_int h;exact wpAny_pyHash_str h
 eqBool:=λc hv h=>by rcases keyIs_shape c with⟨i,t,rfl,rfl⟩|⟨x,t,rfl,rfl⟩;rcases keyIs_shape hv with⟨j,u,rfl,rfl⟩|⟨y,u,rfl,rfl⟩;rw[KB]at h;exact wpAny_eqBool_int h;rw[KD]at h;exact SeqAt.EqAt.int_str i t y u _ _ _ _ h;rcases keyIs_shape hv with⟨j,u,rfl,rfl⟩|⟨y,u,rfl,rfl⟩;rw[KF]at h;exact SeqAt.EqAt.str_int x t j u _ _ _ _ h;rw[KC]at h;exact wpAny_eqBool_str h
 «strs»:=λk x t v h=>by rcases keyIs_shape h with⟨i,u,rfl,e⟩|⟨y,u,rfl,e⟩;exact nomatch e;injection e with e1 _;subst e1;cases v<;>rfl
def C8(prog:kO)(w:kP)(i:Int)(t:Tok):(Bl prog w).is (.inl i) (.int i t)=true:=V9 i t
def Gb(prog:kO)(w:kP)(x:Str)(t:Tok):(Bl prog w).is (.inr x) (.str x t)=true:=Wa x t
end L2
namespace L2
open PySem PySem.Spec PyProof.Rows
inductive V where
 |non|bl (b:Bool)|int (i:Int)|str (x:Str)|byt (b:oC UInt8)|flt (b:UInt64)|ref (a:kM)|ty (n:String)
 deriving DecidableEq
def Bp:V->kJ->Prop
 |.non,u=>u=Value.none
 |.bl b,u=>u=Value.bool b
 |.int i,u=>∃t,u=Value.int i t
 |.str x,u=>∃t:{t:Tok // t≠0},u=Value.str x t.1
 |.byt b,u=>∃t,u=Value.bytes b t
 |.flt b,u=>∃t,u=Value.float b t
 |.ref a,u=>u=Value.ref a
 |.ty n,u=>u=Value.type n
abbrev Vals:oA V->oA kJ->Prop:=Paired Bp
def Vals.length{xs:oA V}{a:oA kJ}(r:Vals xs a):xs.length=a.length:=fK r
theorem Vals.get:∀{xs:oA V} {a:oA kJ} {i:Nat} {x:V},Vals xs a->xs[i]?=some x->∃u,a[i]?=some u/\Bp x u
 |_,_,_,_,.nil,e=>by simp at e
 |_,_,0,_,.cons r _,e=>by simp at e;subst e;exact⟨_,rfl,r⟩
 |_,_,i+1,x,.cons _ t,e=>by obtain⟨u,h1,h2⟩:=Vals.get (i:=i) (x:=x) t (by simpa using e);exact⟨u,by simpa using h1,h2⟩
theorem Vals.set{x:V}{u:kJ}(r:Bp x u):∀{xs:oA V} {a:oA kJ} (i:Nat),Vals xs a->Vals (xs.set i x) (a.set i u)
 |_,_,_,.nil=>.nil
 |_,_,0,.cons _ t=>.cons r t
 |_,_,i+1,.cons q t=>.cons q<|Vals.set r i t
theorem Vals.append:∀{xs ys:oA V} {a ws:oA kJ},Vals xs a->Vals ys ws->Vals (xs++ys) (a++ws)
 |_,_,_,_,.nil,s=>s
 |_,_,_,_,.cons r t,s=>.cons r<|Vals.append t s
theorem Vals.take:∀{xs:oA V} {a:oA kJ} (n:Nat),Vals xs a->Vals (xs.take n) (a.take n)
 |_,_,0,_=>.nil
 |_,_,_+1,.nil=>.nil
 |_,_,n+1,.cons r t=>.cons r<|Vals.take n t
theorem Vals.drop:∀{xs:oA V} {a:oA kJ} (n:Nat),Vals xs a->Vals (xs.drop n) (a.drop n)
 |_,_,0,r=>r
 |_,_,_+1,.nil=>.nil
 |_,_,n+1,.cons _ t=>Vals.drop n t
def G1:oB V->oB kJ->Prop
 |some v,some u=>Bp v u
 |none,none=>True
 |_,_=>False
def KV{κ:Type}:oA (κ×V)->oA (κ×kJ)->Prop:=Paired λ(p:κ×V) (q:κ×kJ)=>p.1=q.1/\Bp p.2 q.2
def kV:Key->V
 |.inl i=>.int i
 |.inr x=>.str x
mutual
def Bj(w:kP):kL->Int
 |.int i=>KA w (.inl i)
 |.str x=>KA w (.inr x)
 |.tuple a=>reduceHash (Builtin.Tuple.tupleHashOf<|Dh w a)
 |_=>0
def Dh(w:kP):oA kL->oA Int
 |[]=>[]
 |d::a=>Bj w d::Dh w a
end
def YD(w:kP)(x:kL×kM×kJ):DictEntry:=⟨Bj w x.1,.ref x.2.1,x.2.2⟩
def YE(w:kP)(h:kS)(a:kM)(xs:oA<|kL×kM×kJ):Prop :=
 ∃o b c,h.get? a=some o/\o.ExactDict/\o.data=.dict b c/\b.toList=xs.map (YD w)/\(xs.map (·.1)).Nodup/\(a==sysModules)=false/\xs.length<=sizeLine
inductive HO where
 |lst (xs:oA V)
 |tup (xs:oA V)
 |dK (ae:oA<|Key×V)|dT (ae:oA<|oA Key×V)
 |set (S:Int->Bool) (n:Nat)
 |ins (C dx:kM) (fs:oA<|Str×V)
 |own (x:kM)
 |xd (fs:oA<|Str×V)
 |met (f x:kM)
 |rng (lo hi:Int)
 |frz (o:kT) (u:HO)
 |tbl (ps:oC kJ)
 |ext (φ:kS->Prop)
 |dd (xs:oA<|kL×kM×kJ)
abbrev Hp:=kM->oB HO
def upd(H:Hp)(a:kM)(o:HO):Hp:=λb=>if b=a then some o else H b
def Bo{H:Hp}{a:kM}{o:HO}:upd H a o a=some o:=by unfold upd;rw[R_ rfl]
def Bd{H:Hp}{a b:kM}{o:HO}(h:b≠a):upd H a o b=H b:=by unfold upd;rw[N_ h]
def Pn{H:Hp}{a b:kM}{o u:HO}(h:H a=some o)(h':H b=some u)(d:o≠u):a≠b:=by intro e;subst e;rw[h]at h';exact d<|aE h'
def Ck{H:Hp}{a b:kM}{o:HO}(h:H a=some o)(h':H b=none):a≠b:=by intro e;subst e;rw[h]at h';cases h'
section
variable(P:kO)(w:kP)
def IK(h:kS)(a:kM):Prop:=∃o,h.get? a=some o/\o.dict=none
def IK.new(h:kS){o:kT}(e:o.dict=none)(f:o.isFreed=false:=by rfl):IK (h.push o) h.objs.size:=⟨o,I_ _ f,e⟩
def Wk(xs:oA V):Prop:=∃i y,xs=[.int i,y]
def Bs(H:Hp)(h:kS)(a:kM):HO->Prop
 |.lst b=>b.length<=sizeLine/\∃(e:oA kJ) (n:Nat),Vals b e/\h.get? a=some {cls:=.type "list",data:=.seq e.toArray n}
 |.tup b=>(b.length<=sizeLine/\(IK h a\/Wk b))/\∃e:oA kJ,Vals b e/\IsTup h a e.toArray
 |.dK g=>g.length<=sizeLine/\(a==sysModules)=false/\∃l,KV g l/\h.DictOf (Bl P w) a l
 |.dT g=>g.length<=sizeLine/\(a==sysModules)=false/\∃b:oA<|oA Key×kM×kJ,
   Paired (λ(p:oA Key×V) (q:oA Key×kM×kJ)=>p.1=q.1/\H q.2.1=some (.tup<|p.1.map kV)/\Bp p.2 q.2.2) g b /\
   ∃o k r,h.get? a=some o/\o.ExactDict/\o.data=.dict k r/\k.toList=b.map (entryOfKey<|tupleKind<|Bl P w)/\(b.map (·.1)).Nodup
 |.set S n=>h.SetOf (intKind P w) a S n
 |.ins C i d=>H i=some (.own a)/\d.length<=1000/\i≠a/\h.get? a=some (PySem.W.instObj C i) /\
   ∃c,h.Ns1 i c/\(∀f,G1 (d.lookup f)<|c f)/\PySem.Within c (d.map (·.1))
 |.own _=>∃o,h.get? a=some o
 |.xd d=>∃c,h.Ns1 a c/\∀f,G1 (d.lookup f) (c f)
 |.rng lo s=>∃t u v,h.get? a=some {cls:=.type "range",data:=.fields #[.int lo t,.int s u,.int 1 v]}
 |.frz o u=>h.get? a=some o/\Bs H h a u
 |.tbl m=>h.get? a=some {cls:=.none,data:=.fields m}
 |.met f x=>h.get? a=some (PySem.W.methodObj (.ref f)<|.ref x)
 |.ext j=>j h/\(∃o,h.get? a=some o)/\∀h1 h2:kS,j h1->(∀o,h1.get? a=some o->h2.get? a=some o)->j h2
 |.dd b=>YE w h a b
def HOk(H:Hp)(h:kS):Prop:=∀a o,H a=some o->Bs P w H h a o
end
section
variable {P:kO}{w:kP}{H H':Hp}{h h':kS}{a:kM}{o:HO}{x e:kM}{o':HO}{fs fs' ex ex':oA kM}{H1 H2:Hp}{h1 h2:kS}
theorem Bs.lt(x:Bs P w H h a o):a<h.objs.size:=by
 cases o with
 |lst b=>obtain⟨_,_,_,_,e⟩:=x;exact G_ e
 |tup b=>obtain⟨_,_,_,p⟩:=x;exact p.lt
 |dK c=>obtain⟨_,_,_,_,o,_,_,e,_⟩:=x;exact G_ e
 |dT c=>obtain⟨_,_,_,_,o,_,_,e,_⟩:=x;exact G_ e
 |set S n=>obtain⟨o,_,_,_,e,_⟩:=x;exact G_ e
 |ins C g fs=>obtain⟨_,_,_,e,_⟩:=x;exact G_ e
 |own y=>obtain⟨_,e⟩:=x;exact G_ e
 |xd fs=>obtain⟨_,⟨_,_,_,e,_⟩,_⟩:=x;exact G_ e
 |rng lo i=>obtain⟨_,_,_,e⟩:=x;exact G_ e
 |frz j u=>obtain⟨e,_⟩:=x;exact G_ e
 |tbl d=>exact G_ (show h.get? a=some _ from x)
 |met f y=>exact G_ (show h.get? a=some _ from x)
 |ext k=>obtain⟨_,⟨_,e⟩,_⟩:=x;exact G_ e
 |dd b=>obtain⟨_,_,_,e,_⟩:=x;exact G_ e
theorem Paired.mapP{g i:Type}{F G:g->i->Prop}:∀{d:oA g} {c:oA i},Paired F d c->(∀a b,F a b->G a b)->Paired G d c
 |_,_,.nil,_=>.nil
 |_,_,.cons r t,f=>.cons (f _ _ r)<|Paired.mapP t f
def Bs.stay(x:Bs P w H h a o)(k:∀b u,(b=a\/H b=some (.own a))->h.get? b=some u->h'.get? b=some u) (F:∀b,H b=some (.own a)->H' b=some (.own a)) (I:∀b l,H b=some (.tup l)->H' b=some (.tup l)):Bs P w H' h' a o:=by
 induction o with
 |lst l=>obtain⟨z,s,n,r,e⟩:=x;exact⟨z,s,n,r,k _ _ (.inl rfl) e⟩
 |tup l=>obtain⟨⟨z,L⟩,s,r,j,e,c⟩:=x;exact⟨⟨z,L.imp_left<|by rintro ⟨m,E,G⟩;exact ⟨m,k _ _ (.inl rfl) E,G⟩⟩,s,r,j,k _ _ (.inl rfl) e,c⟩
 |dK J=>obtain⟨z,y,M,r,j,i,g,e,c⟩:=x;exact⟨z,y,M,r,j,i,g,k _ _ (.inl rfl) e,c⟩
 |dT J=>obtain⟨z,y,l,r,j,i,g,e,c⟩:=x;exact⟨z,y,l,Paired.mapP r λp q z=>⟨z.1,I _ _ z.2.1,z.2.2⟩,j,i,g,k _ _ (.inl rfl) e,c⟩
 |set S n=>obtain⟨j,i,g,t,e,c⟩:=x;exact⟨j,i,g,t,k _ _ (.inl rfl) e,c⟩
 |ins C O fs=>obtain⟨d,z,ne,e,A,⟨m,i,g,N,c⟩,r⟩:=x;exact⟨F _ d,z,ne,k _ _ (.inl rfl) e,A,⟨m,i,g,k _ _ (.inr d) N,c⟩,r⟩
 |own y=>obtain⟨j,e⟩:=x;exact⟨j,k _ _ (.inl rfl) e⟩
 |xd fs=>obtain⟨A,⟨m,i,g,e,c⟩,r⟩:=x;exact⟨A,⟨m,i,g,k _ _ (.inl rfl) e,c⟩,r⟩
 |rng lo R=>obtain⟨t,u,v,e⟩:=x;exact⟨t,u,v,k _ _ (.inl rfl) e⟩
 |frz j u D=>obtain⟨e,q⟩:=x;exact⟨k _ _ (.inl rfl) e,D q⟩
 |tbl B=>have e:h.get? a=some {cls:=.none,data:=.fields B}:=x;show h'.get? a=some {cls:=.none,data:=.fields B};exact k a _ (.inl rfl) e
 |met f y=>have e:h.get? a=some (PySem.W.methodObj (.ref f)<|.ref y):=x;show h'.get? a=some (PySem.W.methodObj (.ref f)<|.ref y);exact k a _ (.inl rfl) e
 |ext Q=>obtain⟨p,⟨o,e⟩,st⟩:=x;exact⟨st _ _ p λo q=>k _ _ (.inl rfl) q,⟨o,k _ _ (.inl rfl) e⟩,st⟩
 |dd l=>obtain⟨o,i,g,e,c⟩:=x;exact⟨o,i,g,k _ _ (.inl rfl) e,c⟩
theorem HOk.lt(x:HOk P w H h)(e:H a=some o):a<h.objs.size:=(x a o e).lt
def HOk.fresh(x:HOk P w H h)(e:h.objs.size<=a):H a=none:=by
 cases q:H a with
 |none=>rfl
 |some u=>exact absurd (S_ (x.lt q) e)<|dF _
def HOk.kept(x:HOk P w H h)(k:∀b u,h.get? b=some u->h'.get? b=some u):HOk P w H h':=λa o e=>
 (x a o e).stay (λb u _ q=>k b u q) (λ_ q=>q) λ_ _ q=>q
def HOk.laid(x:HOk P w H h)(k:∀b u,h.get? b=some u->h'.get? b=some u)(hp:h.objs.size<=a)(d:Bs P w (upd H a o) h' a o):HOk P w (upd H a o) h':=λb u e=>by have f:=x.fresh hp;by_cases hb:b=a;subst hb;rw[Bo]at e;cases e;exact d;rw[Bd hb]at e;exact(x b u e).stay (λc v _ q=>k c v q) (λc q=>by rw[Bd<|Ck q f];exact q) λc g q=>by rw[Bd<|Ck q f];exact q
def Rd(H:Hp)(a:kM)(u:HO):Prop:=H a=some u\/∃o,H a=some (.frz o u)
def Rd.ok{P:kO}{w:kP}{H:Hp}{h:kS}{a:kM}{u:HO}(r:Rd H a u)(x:HOk P w H h):Bs P w H h a u:=by rcases r with r|⟨o,r⟩;exact x a u r;obtain⟨_,q⟩:=x a _ r;exact q
def Mut:oB HO->Prop
 |some (.lst _)=>True
 |some (.dK _)=>True
 |some (.dT _)=>True
 |some (.set _ _)=>True
 |some (.ins _ _ _)=>True
 |some (.ext _)=>True
 |some (.dd _)=>True
 |_=>False
def HOk.write(ok:HOk P w H h)(d:Mut<|H x)(he:e=x\/H e=some (.own x))(k:∀b u,b≠e->h.get? b=some u->h'.get? b=some u)(n:∃u,h'.get? e=some u)
  (i:Bs P w (upd H x o') h' x o'):HOk P w (upd H x o') h':=λb u q=>by
 have l:∀c y,H c=some (.own y)->c≠x:=λc y r z=>by subst z;rw[r]at d;exact d
 have j:∀c g,H c=some (.tup g)->c≠x:=λc g r z=>by subst z;rw[r]at d;exact d
 by_cases hb:b=x;subst hb;rw[Bo]at q;cases q;exact i;rw[Bd hb]at q;by_cases f:b=e;have m:H b=some (.own x):=by rcases he with z|z;exact absurd (f.trans z) hb;rw[f];exact z
 rw[q]at m;cases m;obtain⟨v,hv⟩:=n;exact⟨v,by rw[f];exact hv⟩;refine(ok b u q).stay (λc v hc r=>k c v ?_ r) (λc r=>by rw[Bd<|l c b r];exact r) λc g r=>by rw[Bd<|j c g r];exact r
 rcases hc with rfl|hc;exact f;rintro rfl;rcases he with z|z;exact l c b hc z;rw[hc]at z;cases z;exact hb rfl
structure Un(fs ex:oA kM)(H H':Hp)(h h':kS):Prop where
 keep:∀b o,h.get? b=some o->H b=none->b∉fs->b∉ex->h'.get? b=some o
 slot:∀b o,h.get? b=some o->H b=none->b∈fs->b∉ex->∃sl,h'.get? b=some {o with slots:=sl}
 free:∀b o,h.get? b=some o->H b=none->b∉ex->H' b=none
 there:∀b o,h.get? b=some o->b∉ex->∃o',h'.get? b=some o'
 tups:∀b xs,H b=some (.tup xs)->H' b=some (.tup xs)
 frzs:∀b o u,H b=some (.frz o u)->H' b=some (.frz o u)
 tbls:∀b ps,H b=some (.tbl ps)->∃more,H' b=some (.tbl<|ps++more)
def Un.any(u:Un fs ex H H1 h h1){b:kM}{c:kT}(q:h.get? b=some c)(n:H b=none)(hx:b∉ex):∃d,h1.get? b=some {c with slots:=d}:=by by_cases hb:b∈fs;exact u.slot b c q n hb hx;exact⟨c.slots,u.keep b c q n hb hx⟩
def Un.kept(k:∀b u,h.get? b=some u->h'.get? b=some u):Un fs ex H H h h' :=
 ⟨λb c q _ _ _=>k b c q,λb c q _ _ _=>⟨c.slots,k b c q⟩,λ_ _ _ n _=>n,λb c q _=>⟨c,k b c q⟩,λ_ _ q=>q,λ_ _ _ q=>q,λ_ d q=>⟨#[],by rw[q];simp⟩⟩
def Un.refl:Un fs ex H H h h:=Un.kept λ_ _ q=>q
def Un.laid(k:∀b u,h.get? b=some u->h'.get? b=some u)(hp:h.objs.size<=a)(c:H a=none):Un fs ex H (upd H a o) h h' where
 keep:=λb u q _ _ _=>k b u q
 slot:=λb u q _ _ _=>⟨u.slots,k b u q⟩
 free:=λb u q n _=>by rw[Bd<|O_<|S_ (G_ q) hp];exact n
 there:=λb u q _=>⟨u,k b u q⟩
 tups:=λb d q=>by rw[Bd<|Ck q c];exact q
 frzs:=λb u d q=>by rw[Bd<|Ck q c];exact q
 tbls:=λb f q=>⟨#[],by rw[Bd<|Ck q c,q];simp⟩
def Un.write(c:Mut<|H x)(he:e=x\/H e=some (.own x))(k:∀b u,b≠e->h.get? b=some u->h'.get? b=some u)(f:∃u,h'.get? e=some u):Un fs ex H (upd H x o) h h':=by
 have hx:∀b,H b=none->b≠x:=λb n z=>by subst z;rw[n]at c;exact c
 have hb:∀b,H b=none->b≠e:=λb n z=>by subst z;rcases he with r|r;exact hx b n r;rw[n]at r;cases r
 have hm:∀b u,H b=some u->¬Mut (some u)->b≠x:=λb u q i z=>by subst z;rw[q]at c;exact i c
 refine⟨λb u q n _ _=>k b u (hb b n) q,λb u q n _ _=>⟨u.slots,k b u (hb b n) q⟩,λb u q n _=>by rw[Bd<|hx b n];exact n,λb u q _=>?_,
  λb g q=>by rw[Bd<|hm b _ q λz=>z];exact q,λb u g q=>by rw[Bd<|hm b _ q λz=>z];exact q,λb j q=>⟨#[],by rw[Bd<|hm b _ q λz=>z,q];simp⟩⟩
 by_cases d:b=e;subst d;exact f;exact⟨u,k b u d q⟩
end
def trk(h:kS)(H:Hp):oA kM:=(List.range h.objs.size).filter λa=>(H a).isSome
def Oc(h:kS)(H:Hp):kS:=PySem.W.hideAll h<|trk h H
def Wb(h:kS)(H:Hp):(Oc h H).objs.size=h.objs.size:=PySem.W.hideAll_size _ _
def Yh{h:kS}{H:Hp}{b:kM}{o:kT}(e:h.get? b=some o)(n:H b=none):(Oc h H).get? b=some o :=
 PySem.W.hideAll_get _ e λhm=>by have q:(H b).isSome=true:=(jA.mp hm).2;rw[n]at q;simp at q
def EA{h:kS}{H:Hp}{b:kM}{o:kT}(e:(Oc h H).get? b=some o):h.get? b=some o/\H b=none:=by
 have a:h.get? b=some o:=PySem.W.of_hideAll (trk h H) e;refine⟨a,?_⟩;cases q:H b with
 |none=>rfl
 |some x=>have hm:b∈trk h H:=jA.mpr ⟨bC.mpr<|G_ a,by simp[q]⟩;have z:(Oc h H).get? b=none:=PySem.W.hideAll_none (trk h H) hm;rw[z]at e;cases e
def EB(g h:kS)(L:kM):oA (kM×kT):=(List.range h.objs.size).filterMap λa=>if a=L\/(g.get? a).isSome=true then none else(h.get? a).map λo=>(a,o)
def rest(g h:kS)(L d:kM):oA (kM×kT):=(EB g h L).filter λp=>decide (p.1≠d)
structure Mod(K:kN)(mg:Str->oB kJ)(base:kS):Prop where
 kin:K.In base
 glob:base.Ns mainGlobals mg
 blt:∃mb,base.Ns builtinsNs mb/\∀x:Str,x ≠ "__name__" -> mb x=bootBuiltins x
 nolimit:base.NoLimit
structure Cx where
 prog:kO
 w:kP
 K:kN
 mg:Str->oB kJ
 base:kS
 A:kR
 N:oA Str
 s₀:kK
 H₀:Hp
 env:Env
 outer:oA Env
 stack:oA Env
 ex:oA kM
 fn:Str->Bool
 calm:Bool
 pn:oA (kM×kT)
 xe:kJ->kK->Prop
def frs(l:oA Env):oA kM:=l.filterMap (·.frame)
abbrev Cx.fs(X:Cx):oA kM:=frs X.outer
def Vis(a:kX)(x:Str):Prop:=a.names.lookup x=some .local\/a.names.lookup x=some .cell\/a.names.lookup x=some .free
def Loc(a:kX)(x:Str):Prop:=a.names.lookup x=some .local\/a.names.lookup x=some .cell
def Look(env:Env)(h:kS)(m:Str->oB kJ)(x:Str)(u:kJ):Prop :=
 (env.kindOf x=some .local/\m x=some u)\/((env.kindOf x=some .cell\/env.kindOf x=some .free)/\∃c,env.cells.lookup x=some c/\h.IsCell c (some u))
structure Cx.Ok(X:Cx):Prop where
 mod:Mod X.K X.mg X.base
 kind:X.env.scope.kind=.function
 glob:X.env.globals=mainGlobals
 blt:X.env.builtins=builtinsNs
 above:X.s₀.heap.objs.size<=X.env.locals
 inj:∀x y c,X.env.cells.lookup x=some c->X.env.cells.lookup y=some c->x=y
 has:∀x,(X.env.kindOf x=some .cell\/X.env.kindOf x=some .free)->∃c,X.env.cells.lookup x=some c
 cab:∀x c,X.fn x=true->X.env.cells.lookup x=some c->X.s₀.heap.objs.size<=c
 hd:X.calm=true->X.A.handled=none
 frames:X.A.frames=some X.stack
 stk:X.stack=X.outer\/(X.stack=X.env::X.outer/\X.env.frame=some X.env.locals)
 exf:∀b∈X.ex,b≠X.env.locals/\∀x c,X.env.cells.lookup x=some c->c≠b
 bs:∀b o,X.base.get? b=some o->X.s₀.heap.get? b=some o/\X.H₀ b=none
 bsz:X.base.objs.size<=X.s₀.heap.objs.size
 noex:∀b o,X.base.get? b=some o->b∉X.ex
 exfs:∀b∈X.ex,b∉X.fs
 funs:X.s₀.heap.FunFrames X.base X.outer
 frf:∀b∈X.fs,X.H₀ b=none
structure Inv(X:Cx)(aa:oA<|kM×kT)(σ:oA<|oB V)(H:Hp)(s:kK):Prop where
 ok:X.Ok
 os:s.os=X.s₀.os
 bare:AllBare s.gens
 base:Un X.fs X.ex X.H₀ H X.s₀.heap s.heap
 loc:∃m,s.heap.Ns X.env.locals m/\∀(i:Nat) (x:Str) (v:V),X.N[i]?=some x->σ[i]?=some (some v)->Vis X.env.scope x->∃u,Bp v u/\Look X.env s.heap m x u
 cell:∀x c,X.env.cells.lookup x=some c->∃v,s.heap.IsCell c v
 free:H X.env.locals=none
 freeC:∀x c,X.env.cells.lookup x=some c->H c=none
 pin:∀p∈X.pn++aa,s.heap.get? p.1=some p.2/\H p.1=none/\p.1≠X.env.locals/\p.1∉X.fs/\∀v,p.2.data≠.cell v
 hok:HOk X.prog X.w H s.heap
 len:σ.length=X.N.length
 tk:0<s.toks
section
variable {X:Cx}{aa:oA<|kM×kT}{σ:oA<|oB V}{H H':Hp}{s:kK}{h':kS}{a b:kQ}{ta tb:TE}{pos:Pos}{tA nh:TT}{rest:oA kQ}
def Cx.Ok.nofr(ok:X.Ok){b:kM}{o:kT}(e:X.base.get? b=some o):b∉X.fs:=λhb=>by have:=(ok.funs.mem hb).1;rw[e]at this;cases this
def Inv.bs(I:Inv X aa σ H s):∀b o,X.base.get? b=some o->s.heap.get? b=some o/\H b=none:=λb o e=>
 ⟨I.base.keep b o (I.ok.bs b o e).1 (I.ok.bs b o e).2 (I.ok.nofr e)<|I.ok.noex b o e,I.base.free b o (I.ok.bs b o e).1 (I.ok.bs b o e).2<|I.ok.noex b o e⟩
def Inv.bk(I:Inv X aa σ H s):∀b o,X.base.get? b=some o->s.heap.get? b=some o:=λb o e=>(I.bs b o e).1
def wtk{d:Type}{M:Model}{A:kR}{t:Sem d}{Q:d->kK->Prop}{E:kJ->kK->Prop}(e:0<s.toks)(h:wpAny M A t (λa c=>0<c.toks->Q a c) E s):wpAny M A t Q E s:=a_ (wpAny_toks_of e h) (λ_ _ x=>x.2 x.1) λ_ _ x=>x.2
def Inv.tz(I:Inv X aa σ H s):s.toks≠0:=cZ I.tk
def Inv.mod(I:Inv X aa σ H s):Mod X.K X.mg X.base:=I.ok.mod
def Inv.kIn(I:Inv X aa σ H s):X.K.In s.heap:=I.ok.mod.kin.keeps I.bk
def Inv.lt(I:Inv X aa σ H s):X.env.locals<s.heap.objs.size:=by obtain⟨_,c,_⟩:=I.loc;exact c.lt
def Inv.sz(I:Inv X aa σ H s):X.s₀.heap.objs.size<=s.heap.objs.size:=Q_ I.ok.above<|dN I.lt
def Inv.nofs(I:Inv X aa σ H s){a:kM}(h:s.heap.objs.size<=a):a∉X.fs:=λhb=>by obtain⟨_,o,c,_⟩:=I.ok.funs.mem hb;exact absurd (S_ (G_ c)<|Q_ I.sz h)<|dF _
def Inv.cne(I:Inv X aa σ H s):∀x c,X.env.cells.lookup x=some c->c≠X.env.locals:=λx c e z=>by obtain⟨v,o,d,hd⟩:=I.cell x c e;obtain⟨m,⟨h,i,j,g,f,_⟩,_⟩:=I.loc;rw[z,g]at d;cases d;rw[f]at hd;cases hd
theorem Inv.funs(I:Inv X aa σ H s):s.heap.FunFrames X.base X.outer:=by
 have all:∀(l:oA Env),(∀b∈frs l,b∈X.fs)->X.s₀.heap.FunFrames X.base l->s.heap.FunFrames X.base l:=by
  intro l
  induction l with
  |nil=>intro _ _;trivial
  |cons f r g=>intro d h;obtain⟨hk,⟨L,o,hf,i,j,hd⟩,k⟩:=h;have c:L∈X.fs:=d L (by unfold frs;rw[eW,hf];exact V_);obtain⟨m,e⟩:=I.base.slot L o j (I.ok.frf L c) c λz=>I.ok.exfs L z c;exact⟨hk,⟨L,_,hf,i,e,hd⟩,g (λb hb=>d b<|by unfold frs;rw[eW,hf];exact K_ _ hb) k⟩
 exact all X.outer (λ_ hb=>hb) I.ok.funs
def Inv.stack(I:Inv X aa σ H s):s.heap.FunFrames X.base X.stack:=by rcases I.ok.stk with e|⟨e,hf⟩;rw[e];exact I.funs;rw[e];obtain⟨m,c,_⟩:=I.loc;refine .cons (by rw[I.ok.kind];decide) hf c ?_ I.funs;exact Heap.get?_none_of_le<|Q_ I.ok.bsz I.ok.above
def Inv.stkSub(I:Inv X aa σ H s):∀b∈frs X.stack,b∈X.env.locals::X.fs:=λb hb=>by rcases I.ok.stk with e|⟨e,hf⟩;rw[e]at hb;exact K_ _ hb;rw[e]at hb;unfold frs at hb;rw[eW,hf]at hb;exact hb
def Inv.stkFree(I:Inv X aa σ H s):∀b∈frs X.stack,H b=none:=λb hb=>by rcases Z_.mp (I.stkSub b hb) with e|hb;rw[e];exact I.free;obtain⟨_,o,c,_⟩:=I.ok.funs.mem hb;exact I.base.free b o c (I.ok.frf b hb) λz=>I.ok.exfs b z hb
def Inv.step{g':oC GenState}{t':Nat}{d':Drawn}{ch:oA kM}(I:Inv X aa σ H s) (D:∀b∈ch,(b∈X.ex\/X.s₀.heap.objs.size<=b)/\b≠X.env.locals/\(∀x c,X.env.cells.lookup x=some c->c≠b)/\∀p∈X.pn++aa,p.1≠b)
  (g:∀b o,b≠X.env.locals->b∉X.fs->b∉ch->s.heap.get? b=some o->H b=none->h'.get? b=some o)
  (slot:∀b o,b≠X.env.locals->b∈X.fs->b∉ch->s.heap.get? b=some o->H b=none->∃Q,h'.get? b=some {o with slots:=Q}) (f:∀b o,b∉ch->s.heap.get? b=some o->H b=none->H' b=none)
  (t:∀b o,b∉ch->s.heap.get? b=some o->∃C,h'.get? b=some C) (J:∀b j,H b=some (.tup j)->H' b=some (.tup j)) (B:∀b o u,H b=some (.frz o u)->H' b=some (.frz o u)) (G:∀b M,H b=some (.tbl M)->∃F,H' b=some (.tbl<|M++F))
  (ns:∀m,s.heap.Ns X.env.locals m->h'.Ns X.env.locals m) (O:HOk X.prog X.w H' h') (U:AllBare g') (Z:0<t':=by first|exact aQ _|assumption|exact Inv.tk<|by assumption) :
  Inv X aa σ H' {s with heap:=h',gens:=g',drawn:=d',toks:=t'}:=by
 have A:∀b o,X.s₀.heap.get? b=some o->b≠X.env.locals:=λb o e=>O_<|S_ (G_ e) I.ok.above;have N:∀b o,X.s₀.heap.get? b=some o->b∉X.ex->b∉ch:=λb o e hx hb=>by rcases(D b hb).1 with z|z;exact hx z;exact absurd (S_ (G_ e) z)<|dF _
 have S:∀x c,X.env.cells.lookup x=some c->∀v,s.heap.IsCell c v->h'.IsCell c v:=λx c e v ⟨o,y,hd⟩=>by have E:c∉ch:=λz=>(D c z).2.2.1 x c e rfl;by_cases hc:c∈X.fs;obtain⟨Q,q⟩:=slot c o (I.cne x c e) hc E y<|I.freeC x c e;exact⟨_,q,hd⟩;exact⟨o,g c o (I.cne x c e) hc E y<|I.freeC x c e,hd⟩
 refine⟨I.ok,I.os,U,⟨λb o e n hb hx=>?_,λb o e n hb hx=>?_,λb o e n hx=>?_,λb o e hx=>?_,λb j e=>J b j<|I.base.tups b j e,λb o j e=>B b o j<|I.base.frzs b o j e,λb M e=>?_⟩,?_,λx c e=>?_,?_,λx c e=>?_,λp hp=>?_,O,I.len,Z⟩;exact g b o (A b o e) hb (N b o e hx) (I.base.keep b o e n hb hx)<|I.base.free b o e n hx;obtain⟨Q,h⟩:=I.base.slot b o e n hb hx;obtain⟨P,L⟩:=slot b _ (A b o e) hb (N b o e hx) h<|I.base.free b o e n hx;exact⟨P,L⟩;obtain⟨C,h⟩:=I.base.there b o e hx;exact f b C (N b o e hx) h<|I.base.free b o e n hx;obtain⟨C,h⟩:=I.base.there b o e hx;exact t b C (N b o e hx) h;obtain⟨m1,h⟩:=I.base.tbls b M e;obtain⟨T,L⟩:=G b _ h;exact⟨m1++T,by rw[L,Array.append_assoc]⟩;obtain⟨m,W,Y⟩:=I.loc;refine⟨m,ns m W,λi x v h L e3=>?_⟩;obtain⟨u,r,l⟩:=Y i x v h L e3;refine⟨u,r,?_⟩;rcases l with l|⟨k,c,e,z⟩;exact .inl l;exact .inr ⟨k,c,e,S x c e _ z⟩;obtain⟨v,z⟩:=I.cell x c e;exact⟨v,S x c e v z⟩;obtain⟨m,⟨o,_,_,y,_⟩,_⟩:=I.loc;exact f _ o (λz=>(D _ z).2.1 rfl) y I.free;obtain⟨v,o,y,hd⟩:=I.cell x c e;exact f c o (λz=>(D c z).2.2.1 x c e rfl) y<|I.freeC x c e;obtain⟨e,n,ne,R,d⟩:=I.pin p hp;have E:p.1∉ch:=λz=>(D p.1 z).2.2.2 p hp rfl;exact⟨g p.1 p.2 ne R E e n,f p.1 p.2 E e n,ne,R,d⟩
def Inv.un{t':Nat}(I:Inv X aa σ H s)(u:Un X.fs [] H H' s.heap h')(c:HOk X.prog X.w H' h')(p:0<t':=by first|exact aQ _|assumption|exact Inv.tk<|by assumption):Inv X aa σ H' {s with heap:=h',toks:=t'}:=by
 obtain⟨m,⟨o,t,q,f,r⟩,_⟩:=id I.loc;obtain⟨v,j⟩:=u.any f I.free (by simp);exact I.step (g':=s.gens) (d':=s.drawn) (ch:=[]) (λ_ z=>nomatch z) (λb o _ hb _ e n=>u.keep b o e n hb<|by simp) (λb o _ hb _ e n=>u.slot b o e n hb<|by simp) (λb o _ e n=>u.free b o e n<|by simp) (λb o _ e=>u.there b o e<|by simp) u.tups u.frzs u.tbls (λl hm=>by
  obtain⟨k,i,d,g,h⟩:=hm;rw[f]at g;cases g;exact⟨_,i,d,j,h⟩) c I.bare
def Inv.call{g':oC GenState}{t':Nat}{d':Drawn}{ch:oA kM}(I:Inv X aa σ H s)(u:Un (frs X.stack) ch H H' s.heap h')(d:HOk X.prog X.w H' h')(q:AllBare g')
  (h:∀b∈ch,(b∈X.ex\/X.s₀.heap.objs.size<=b)/\b≠X.env.locals/\(∀x c,X.env.cells.lookup x=some c->c≠b)/\∀p∈X.pn++aa,p.1≠b) (y:0<t':=by first|exact aQ _|assumption|exact Inv.tk<|by assumption) :
  Inv X aa σ H' {s with heap:=h',gens:=g',drawn:=d',toks:=t'}:=by
 obtain⟨m,⟨o,B,A,i,r⟩,_⟩:=id I.loc;obtain⟨C,f⟩:=u.any i I.free λz=>(h _ z).2.1 rfl;exact I.step (ch:=ch) h (λb o f hb hc e n=>u.keep b o e n (λz=>(Z_.mp<|I.stkSub b z).elim f hb) hc) (λb o _ _ hc e n=>u.any e n hc) (λb o hc e n=>u.free b o e n hc) (λb o hc e=>u.there b o e hc) u.tups u.frzs u.tbls (λv hm=>by
  obtain⟨t,l,g,j,k⟩:=hm;rw[i]at j;cases j;exact⟨_,l,g,f,k⟩) d q
def Inv.turned{t':Nat}{d:kM}(I:Inv X aa σ H s)(k:∀b o,b≠d->s.heap.get? b=some o->h'.get? b=some o)(j:H d=none)(g:d≠X.env.locals)
  (h1:d∈X.ex\/X.s₀.heap.objs.size<=d) (h2:∀x c,X.env.cells.lookup x=some c->c≠d) (i:∀p∈X.pn++aa,p.1≠d) (y:0<t':=by first|exact aQ _|assumption|exact Inv.tk<|by assumption):Inv X aa σ H {s with heap:=h',toks:=t'}:=by
 have f:∀b u,H b=some u->b≠d:=λb u e z=>by rw[z,j]at e;cases e
 refine I.step (g':=s.gens) (d':=s.drawn) (ch:=[d]) (λb hb=>?_) (λb o _ _ hc e _=>k b o (λz=>hc<|by simp[z]) e) (λb o _ _ hc e _=>⟨o.slots,k b o (λz=>hc<|by simp[z]) e⟩) (λ_ _ _ _ n=>n)
  (λb o hc e=>⟨o,k b o (λz=>hc<|by simp[z]) e⟩) (λ_ _ e=>e) (λ_ _ _ e=>e) (λb w e=>⟨#[],by rw[e];simp⟩) (λm hm=>?_) (λb u e=>?_) I.bare
 have e:b=d:=by simpa using hb
 subst e;exact⟨h1,g,h2,i⟩;obtain⟨o,l,h,t,r⟩:=hm;exact⟨o,l,h,k _ o (dA g) t,r⟩;refine(I.hok b u e).stay (λc v hc q=>k c v ?_ q) (λ_ q=>q) λ_ _ q=>q;rcases hc with z|z;rw[z];exact f b u e;exact f c _ z
def Inv.tok(I:Inv X aa σ H s)(t:Nat)(c:0<t:=by first|exact aQ _|assumption|exact Inv.tk<|by assumption):Inv X aa σ H {s with toks:=t}:=I.un (h':=s.heap) (t':=t) Un.refl I.hok
def Inv.kept{t':Nat}(I:Inv X aa σ H s)(k:∀b u,s.heap.get? b=some u->h'.get? b=some u)(c:0<t':=by first|exact aQ _|assumption|exact Inv.tk<|by assumption):Inv X aa σ H {s with heap:=h',toks:=t'}:=I.un (Un.kept k)<|I.hok.kept k
def Inv.laid{a:kM}{o:HO}{t':Nat}(I:Inv X aa σ H s)(k:∀b u,s.heap.get? b=some u->h'.get? b=some u)(hp:s.heap.objs.size<=a)(c:Bs X.prog X.w (upd H a o) h' a o)(d:0<t':=by first|exact aQ _|assumption|exact Inv.tk<|by assumption) :
  Inv X aa σ (upd H a o) {s with heap:=h',toks:=t'}:=I.un (Un.laid k hp<|I.hok.fresh hp)<|I.hok.laid k hp c
def Inv.write{x e:kM}{o:HO}{t':Nat}(I:Inv X aa σ H s)(f:Mut<|H x)(he:e=x\/H e=some (.own x))(k:∀b u,b≠e->s.heap.get? b=some u->h'.get? b=some u)(d:∃u,h'.get? e=some u)
  (c:Bs X.prog X.w (upd H x o) h' x o) (g:0<t':=by first|exact aQ _|assumption|exact Inv.tk<|by assumption):Inv X aa σ (upd H x o) {s with heap:=h',toks:=t'}:=I.un (Un.write f he k d)<|I.hok.write f he k d c
def Inv.pins_of{c:oA<|kM×kT}(I:Inv X aa σ H s)(h:∀p∈c,s.heap.get? p.1=some p.2/\H p.1=none/\p.1≠X.env.locals/\p.1∉X.fs/\∀v,p.2.data≠.cell v):Inv X c σ H s :=
 ⟨I.ok,I.os,I.bare,I.base,I.loc,I.cell,I.free,I.freeC,λp hp=>(U_.mp hp).elim (λz=>I.pin p<|cK _ z)<|h p,I.hok,I.len,I.tk⟩
def Kr{N:oA Str}(d:N.Nodup){i j:Nat}{x:Str}(a:N[i]?=some x)(b:N[j]?=some x):i=j:=by obtain⟨h1,c⟩:=E_.mp a;obtain⟨h2,e⟩:=E_.mp b;exact(List.getElem_inj d).mp<|c.trans e.symm
def Mx{M:Model}{A:kR}{E:kJ->kK->Prop}{i:Nat}{x:Str}{v:V}{u:kJ}{Q:Unit->kK->Prop}(I:Inv X aa σ H s)(hN:X.N.Nodup)(L:X.N[i]?=some x)(hx:Loc X.env.scope x)(r:Bp v u)
  (h:∀T,Inv X aa (σ.set i<|some v) H T->(∃a,Heap.SameBut a s.heap T.heap/\(a=X.env.locals\/X.env.cells.lookup x=some a))->Q () T) (hf:X.fn x=true\/X.env.scope.names.lookup x=some .local:=by first|exact .inl rfl|exact .inr rfl|assumption):wpAny M A (storeName X.env x u) Q E s:=by
 obtain⟨m,W,hl⟩:=id I.loc;have si:(X.env.scope.kind==.class||(X.env.scope.kind==.module&&X.env.locals != X.env.globals))=false:=by rw[I.ok.kind];rfl
 have B:i<σ.length:=by rw[I.len];exact(E_.mp L).1
 have C:=I.cne;have jr:∀{a:kM} {h':kS},(∃o,s.heap.get? a=some o/\H a=none)->Heap.SameBut a s.heap h'->HOk X.prog X.w H h':=λ{a h'} ha f b ob e=>by obtain⟨_,_,l⟩:=ha;refine(I.hok b ob e).stay (λc P hc q=>(f.2 c ?_).trans q) (λ_ q=>q) λ_ _ q=>q;rintro rfl;rcases hc with rfl|hc;rw[l]at e;cases e;rw[l]at hc;cases hc
 rcases hx with hk|hk;refine wpAny_storeName_local hk W (λh' li f=>?_) si;obtain⟨oL,_,_,hoL,_⟩:=id W;refine h _ ⟨I.ok,I.os,I.bare,⟨λb o e n hb hx=>?_,λb o e n hb hx=>?_,I.base.free,λb o e hx=>?_,I.base.tups,I.base.frzs,I.base.tbls⟩,⟨_,li,λj y R g t e3=>?_⟩,λy c e=>?_,I.free,I.freeC,λp hp=>?_,jr ⟨oL,hoL,I.free⟩ f,by simpa using I.len,aQ _⟩ ⟨_,f,.inl rfl⟩;exact(f.2 b<|O_<|S_ (G_ e) I.ok.above).trans<|I.base.keep b o e n hb hx;obtain⟨Z,g⟩:=I.base.slot b o e n hb hx;exact⟨Z,(f.2 b<|O_<|S_ (G_ e) I.ok.above).trans g⟩;obtain⟨S,g⟩:=I.base.there b o e hx;exact⟨S,(f.2 b<|O_<|S_ (G_ e) I.ok.above).trans g⟩;by_cases hj:j=i;subst hj;rw[L]at g;cases g;rw[List.getElem?_set_self B]at t;cases t;exact⟨u,r,.inl ⟨hk,by simp⟩⟩;rw[iW<|dA hj]at t;obtain⟨Y,r',q⟩:=hl j y R g t e3;refine⟨Y,r',?_⟩;rcases q with⟨k,e⟩|⟨k,c,e,z⟩;refine .inl ⟨k,?_⟩;have:y≠x:=λe=>hj<|Kr hN g<|e ▸ L;simp[this,e];exact .inr ⟨k,c,e,z.sameBut f<|C y c e⟩;obtain⟨P,z⟩:=I.cell y c e;exact⟨P,z.sameBut f<|C y c e⟩;obtain⟨e,n,ne,U,d⟩:=I.pin p hp;exact⟨(f.2 p.1 ne).trans e,n,ne,U,d⟩;have D:X.fn x=true:=by rcases hf with z|z;exact z;rw[z]at hk;cases hk
 obtain⟨c,hc⟩:=I.ok.has x<|.inl hk;obtain⟨P,z⟩:=I.cell x c hc;refine wpAny_storeName_cell I.ok.kind hk hc z λh' ck f=>?_;obtain⟨oc,F,J⟩:=id z;refine h {s with heap:=h'} ⟨I.ok,I.os,I.bare,⟨λb o e n hb hx=>?_,λb o e n hb hx=>?_,I.base.free,λb o e hx=>?_,I.base.tups,I.base.frzs,I.base.tbls⟩,⟨m,W.sameBut f<|dA<|C x c hc,λj y R g t e3=>?_⟩,λy O e=>?_,I.free,I.freeC,λp hp=>?_,jr ⟨oc,F,I.freeC x c hc⟩ f,by simpa using I.len,I.tk⟩ ⟨c,f,.inr hc⟩;exact(f.2 b<|O_<|S_ (G_ e)<|I.ok.cab x c D hc).trans<|I.base.keep b o e n hb hx;obtain⟨Z,g⟩:=I.base.slot b o e n hb hx;exact⟨Z,(f.2 b<|O_<|S_ (G_ e)<|I.ok.cab x c D hc).trans g⟩;obtain⟨S,g⟩:=I.base.there b o e hx;exact⟨S,(f.2 b<|O_<|S_ (G_ e)<|I.ok.cab x c D hc).trans g⟩;by_cases hj:j=i;subst hj;rw[L]at g;cases g;rw[List.getElem?_set_self B]at t;cases t;exact⟨u,r,.inr ⟨.inl hk,c,hc,ck⟩⟩;rw[iW<|dA hj]at t;obtain⟨Y,r',q⟩:=hl j y R g t e3;refine⟨Y,r',?_⟩;rcases q with q|⟨k,O,e,z'⟩;exact .inl q;refine .inr ⟨k,O,e,z'.sameBut f ?_⟩;rintro rfl;exact hj<|Kr hN g<|I.ok.inj _ _ _ e hc ▸ L;by_cases G:O=c;subst G;exact⟨_,ck⟩;obtain⟨w2,z2⟩:=I.cell y O e;exact⟨w2,z2.sameBut f G⟩;obtain⟨e,n,ne,U,d⟩:=I.pin p hp;refine⟨(f.2 p.1 ?_).trans e,n,ne,U,d⟩;intro q;rw[q,F]at e;have q':oc=p.2:=aE e;exact d P<|by rw[<- q'];exact J
def Ks{M:Model}{A:kR}{E:kJ->kK->Prop}{i:Nat}{x:Str}{v:V}{u:kJ}{Q:Unit->kK->Prop}(I:Inv X aa σ H s)(d:X.N.Nodup)(e:X.N[i]?=some x)(hx:Loc X.env.scope x)(r:Bp v u)
  (h:∀c,Inv X aa (σ.set i<|some v) H c->Q () c) (hf:X.fn x=true\/X.env.scope.names.lookup x=some .local:=by first|exact .inl rfl|exact .inr rfl|assumption):wpAny M A (storeName X.env x u) Q E s :=
 Mx I d e hx r (λc f _=>h c f) hf
def Inv.call'{d:kK}{ch:oA kM}(I:Inv X aa σ H s)(j:d.os=s.os)(u:Un (frs X.stack) ch H H' s.heap d.heap)(f:HOk X.prog X.w H' d.heap)(i:AllBare d.gens)
  (h:∀b∈ch,(b∈X.ex\/X.s₀.heap.objs.size<=b)/\b≠X.env.locals/\(∀x c,X.env.cells.lookup x=some c->c≠b)/\∀p∈X.pn++aa,p.1≠b) (k:0<d.toks:=by first|assumption|exact Inv.tk<|by assumption):Inv X aa σ H' d:=by
 obtain⟨h',g',d',t',g⟩:=d;have e:g=s.os:=j;subst e;exact I.call (g':=g') (t':=t') (d':=d') u f i h
abbrev XK:=kJ->oB kM->Hp->Prop
abbrev St:=oA<|oB V
abbrev VK:=V->Hp->Prop
abbrev TE:=St->Hp->VK->Prop
abbrev TT:=St->Hp->(Bool->Hp->Prop)->Prop
abbrev TA:=St->Hp->(oA V->Hp->Prop)->Prop
structure Ends where
 nx:St->Hp->Prop
 rt:VK
 bk:St->Hp->Prop:=λ_ _=>False
 ct:St->Hp->Prop:=λ_ _=>False
abbrev TS:=Ends->St->Hp->Prop
def EP(X:Cx)(aa:oA<|kM×kT)(σ:St)(Q:VK)(u:kJ)(c:kK):Prop:=∃v H',Inv X aa σ H' c/\Bp v u/\Q v H'
def TP(X:Cx)(aa:oA<|kM×kT)(σ:St)(Q:Bool->Hp->Prop)(b:Bool)(c:kK):Prop:=∃H',Inv X aa σ H' c/\Q b H'
def AP(X:Cx)(aa:oA<|kM×kT)(σ:St)(Q:oA V->Hp->Prop)(e:oA kJ)(d:kK):Prop:=∃c H',Inv X aa σ H' d/\Vals c e/\Q c H'
def SP(X:Cx)(aa:oA<|kM×kT)(D:Ends)(f:Flow)(d:kK):Prop :=
 match f with
 |.next=>∃ c H',Inv X aa c H' d/\D.nx c H'
 |.brk=>∃ c H',Inv X aa c H' d/\D.bk c H'
 |.cont=>∃ c H',Inv X aa c H' d/\D.ct c H'
 |.ret u=>∃v c H',Inv X aa c H' d/\Bp v u/\D.rt v H'
def PE(X:Cx)(e:kQ)(t:TE):Prop :=
 ∀(aa:oA<|kM×kT) (s:kK) (σ:St) (H:Hp) (Q:VK),Inv X aa σ H s->t σ H Q->qX X.prog X.w X.A (eval e X.env) (EP X aa σ Q) X.xe s
def PT(X:Cx)(e:kQ)(t:TT):Prop :=
 ∀(aa:oA<|kM×kT) (s:kK) (σ:St) (H:Hp) (Q:Bool->Hp->Prop),Inv X aa σ H s->t σ H Q->qX X.prog X.w X.A (isTrue e X.env<|eval e X.env) (TP X aa σ Q) X.xe s
def PW(X:Cx)(e:kQ)(t:TT):Prop :=
 ∀(c:Sem kJ) (aa:oA<|kM×kT) (s:kK) (σ:St) (H:Hp) (Q:Bool->Hp->Prop),Inv X aa σ H s->t σ H Q->qX X.prog X.w X.A (isTrue e X.env c) (TP X aa σ Q) X.xe s
def PW.pt{X:Cx}{e:kQ}{t:TT}(h:PW X e t):PT X e t:=h _
def PA(X:Cx)(es:oA kQ)(t:TA):Prop :=
 ∀(pos:Pos) (aa:oA<|kM×kT) (s:kK) (σ:St) (H:Hp) (Q:oA V->Hp->Prop),Inv X aa σ H s->t σ H Q->qX X.prog X.w X.A (spliced<|backTo pos<|starEach es X.env) (AP X aa σ Q) X.xe s
def PS(X:Cx)(st:kU)(t:TS):Prop :=
 ∀(aa:oA<|kM×kT) (s:kK) (σ:St) (H:Hp) (D:Ends),Inv X aa σ H s->t D σ H->qX X.prog X.w X.A (exec st X.env) (SP X aa D) X.xe s
def PSs(X:Cx)(st:oA kU)(t:TS):Prop :=
 ∀(aa:oA<|kM×kT) (s:kK) (σ:St) (H:Hp) (D:Ends),Inv X aa σ H s->t D σ H->qX X.prog X.w X.A (execs st X.env) (SP X aa D) X.xe s
def thn{d:Type}{t:Sem d}{Q c:d->kK->Prop}{M:Model}{A:kR}{E:kJ->kK->Prop}{s:kK}(h:wpAny M A t Q E s)(e:∀a s,Q a s->c a s):wpAny M A t c E s:=a_ h e λ_ _ x=>x
def KG(i:Nat):TE:=λσ H Q=>∃v,σ[i]?=some (some v)/\Q v H
def tC(v:V):TE:=λ_ H Q=>Q v H
def Yi{i:Nat}{x:Str}{pos:Pos}(f:X.N[i]?=some x)(hv:Vis X.env.scope x)(hd:(x==("__debug__" : Str))=false:=by decide) (g:(x==("__classdict__" : Str))=false:=by decide):PE X (.Name x pos) (KG i):=by intro aa s σ H Q I h;obtain⟨v,e,h⟩:=h;obtain⟨m,j,k⟩:=I.loc;obtain⟨u,r,l⟩:=k i x v f e hv;have fin:EP X aa σ Q u s:=⟨v,H,I,r,h⟩;rcases l with⟨hk,hm⟩|⟨hk,c,hc,d⟩;exact wpAny_Name (wpAny_loadName_local I.ok.kind hk j hm fin) hd;rcases hk with hk|hk;exact wpAny_Name (wpAny_loadName_cell I.ok.kind hk hc d fin) hd;exact wpAny_Name (wpAny_loadName_free I.ok.kind hk hc d fin g) hd
def KH{i j pos}:PE X (.Constant (.int i) j pos) (tC<|.int i):=λ_ _ _ H _ I h=>wpAny_Constant_int ⟨.int i,H,I.tok _,⟨_,rfl⟩,h⟩
def QR{b j pos}:PE X (.Constant (.bool b) j pos) (tC<|.bl b):=λ_ _ _ H _ I h=>Constant_bool ⟨.bl b,H,I,rfl,h⟩
def KI{j pos}:PE X (.Constant .none j pos) (tC .non):=λ_ _ _ H _ I h=>Constant_none ⟨.non,H,I,rfl,h⟩
def KJ{x j pos}:PE X (.Constant (.str x) j pos) (tC<|.str x):=λ_ _ _ H _ I h=>Calls.Constant_str ⟨.str x,H,I.tok _,⟨⟨_,I.tz⟩,rfl⟩,h⟩
def Gl(X:Cx)(x:Str):Prop:=X.env.kindOf x=some .globalImplicit
def Hh{E:kJ->kK->Prop}{aa:oA<|kM×kT}{s:kK}{σ:St}{H:Hp}{x:Str}{u:kJ}{pos:Pos}{Q:kJ->kK->Prop}(I:Inv X aa σ H s)(c:Gl X x)(hm:X.mg x=some u)(h:Q u s)
  (hd:(x==("__debug__" : Str))=false:=by decide):qX X.prog X.w X.A (eval (.Name x pos) X.env) Q E s :=
 Calls.Name_function_global I.ok.kind c (Calls.loadGlobal_global (by rw[I.ok.glob];exact I.mod.glob.keeps I.bk) hm h) hd
def Ce{E:kJ->kK->Prop}{aa:oA<|kM×kT}{s:kK}{σ:St}{H:Hp}{x:Str}{u:kJ}{pos:Pos}{Q:kJ->kK->Prop}(I:Inv X aa σ H s)(c:Gl X x)(hm:X.mg x=none)(hv:bootBuiltins x=some u)(h:Q u s)
  (d:x ≠ "__name__" := by decide) (hd:(x==("__debug__" : Str))=false:=by decide):qX X.prog X.w X.A (eval (.Name x pos) X.env) Q E s:=by
 obtain⟨e,h1,h2⟩:=I.mod.blt;exact Calls.Name_function_global I.ok.kind c (Calls.loadGlobal_builtin (by rw[I.ok.glob];exact I.mod.glob.keeps I.bk) hm (by rw[I.ok.blt];exact h1.keeps I.bk) ((h2 x d).trans hv) h) hd
def T5{x:Str}{v:V}{u:kJ}{pos:Pos}(c:Gl X x)(hm:X.mg x=some u)(r:Bp v u)(hd:(x==("__debug__" : Str))=false:=by decide):PE X (.Name x pos) (tC v) :=
 λ_ _ _ H _ I h=>Hh I c hm ⟨v,H,I,r,h⟩ hd
def PC(X:Cx)(e:CmpOp)(a b:kQ)(t:TE):Prop :=
 ∀(aa:oA<|kM×kT) (s:kK) (σ:St) (H:Hp) (Q:VK),Inv X aa σ H s->t σ H Q ->
  qX X.prog X.w X.A (eval a X.env) (λv c=>qX X.prog X.w X.A (eval b X.env) (λu d=>qX X.prog X.w X.A (compareOp e v u) (EP X aa σ Q) X.xe d) X.xe c) X.xe s
def tB(t:TE):TT:=λσ H Q=>t σ H λx d=>∃c,x=.bl c/\Q c d
def KK{c:CmpOp}{t:TE}(h:PC X c a b t)(h1:behindInMarks c b=false:=by first|exact nobehind _ (by decide) (by decide)|rfl):PE X (.Compare a [c] [b] pos) t:=λaa s σ H Q I d=>wpAny_Compare1 (h aa s σ H Q I d) h1
def KL{e:CmpOp}{t:TE}(h:PC X e a b t)(h1:behindInMarks e b=false:=by first|exact nobehind _ (by decide) (by decide)|rfl):PT X (.Compare a [e] [b] pos) (tB t):=by intro aa s σ H Q I l;refine wpAny_isTrue_Compare1 (thn (h aa s σ H _ I l) λv n h1=>thn h1 λu o h2=>thn h2 λc m f=>Cs f λx k i g j=>?_) h1;obtain⟨d,rfl,q⟩:=j;cases g;exact dB ⟨k,i,q⟩
def KM{e:kQ}{t:TE}(h:PE X e t)(he:∀c,isTrue e X.env c=(do let v <- c;standAt e.pos;holding [v]<|truthy v):=by intro _;rfl):PT X e (tB t):=by intro aa s σ H Q I k;refine isTrue_plain (thn (h aa s σ H _ I k) λv m g=>Cs g λx j l f i=>?_)<|he _;obtain⟨d,rfl,q⟩:=i;cases f;exact dB ⟨j,l,q⟩
def YF(t u:TT):TT:=λσ H Q=>t σ H λc d=>if c=true then u σ d Q else Q false d
def tOr(t u:TT):TT:=λσ H Q=>t σ H λc d=>if c=true then Q true d else u σ d Q
def YG(t:TT):TT:=λσ H Q=>t σ H λc d=>Q (!c) d
def EC(ha:PT X a tA):PW X (.BoolOp .And [a] pos) tA:=by
 intro f aa s σ H Q I h;refine isTrue_and<|thn (ha aa s σ H Q I h) λc d e=>?_;cases c with
 |true=>exact isTrue_and_nil e
 |false=>exact e
def KN(ha:PT X a tA):PW X (.BoolOp .Or [a] pos) tA:=by
 intro f aa s σ H Q I h;refine isTrue_or<|thn (ha aa s σ H Q I h) λc d e=>?_;cases c with
 |false=>exact isTrue_or_nil e
 |true=>exact e
def KO(ha:PT X a tA)(hb:PW X (.BoolOp .And (b::rest) pos) nh):PW X (.BoolOp .And (a::b::rest) pos) (YF tA nh):=by
 intro i aa s σ H Q I h;refine isTrue_and<|thn (ha aa s σ H _ I h) λc g ⟨e,f,d⟩=>?_;cases c with
 |true=>exact hb i aa g σ e Q f d
 |false=>exact⟨e,f,d⟩
def QS(ha:PT X a tA)(hb:PW X (.BoolOp .Or (b::rest) pos) nh):PW X (.BoolOp .Or (a::b::rest) pos) (tOr tA nh):=by
 intro i aa s σ H Q I h;refine isTrue_or<|thn (ha aa s σ H _ I h) λc g ⟨e,f,d⟩=>?_;cases c with
 |true=>exact⟨e,f,d⟩
 |false=>exact hb i aa g σ e Q f d
def KP(ha:PT X a tA):PT X (.UnaryOp .Not a pos) (YG tA):=by intro aa s σ H Q I h;exact isTrue_not<|ha aa s σ H (λc d=>Q (!c) d) I h
def QT(ta tb:TE):TE:=λσ H Q=>ta σ H λx d=>∃c,x=.bl c/\if c=true then tb σ d Q else Q (.bl false) d
def YH(ta tb:TE):TE:=λσ H Q=>ta σ H λx d=>∃c,x=.bl c/\if c=true then Q (.bl true) d else tb σ d Q
def QU(ta:TE):TE:=λσ H Q=>ta σ H λx d=>∃c,x=.bl c/\Q (.bl<|!c) d
def KQ{op}{t:TE}(h:PE X a t):PE X (.BoolOp op [a] pos) t:=λaa s σ H Q I c=>BoolOp_one<|h aa s σ H Q I c
def KR(ha:PE X a ta)(hb:PE X (.BoolOp .And (b::rest) pos) tb):PE X (.BoolOp .And (a::b::rest) pos) (QT ta tb):=by
 intro aa s σ H Q I h;refine BoolOp_and<|thn (ha aa s σ H _ I h) λv g j=>Cs j λx f e i d=>?_;obtain⟨c,rfl,d⟩:=d;cases i;refine dB ?_;cases c with
 |true=>exact hb aa g σ f Q e d
 |false=>exact⟨.bl false,f,e,rfl,d⟩
def QV(ha:PE X a ta)(hb:PE X (.BoolOp .Or (b::rest) pos) tb):PE X (.BoolOp .Or (a::b::rest) pos) (YH ta tb):=by
 intro aa s σ H Q I h;refine BoolOp_or<|thn (ha aa s σ H _ I h) λv g j=>Cs j λx f e i d=>?_;obtain⟨c,rfl,d⟩:=d;cases i;refine dB ?_;cases c with
 |false=>exact hb aa g σ f Q e d
 |true=>exact⟨.bl true,f,e,rfl,d⟩
def KS(ha:PE X a ta):PE X (.UnaryOp .Not a pos) (QU ta):=by intro aa s σ H Q I h;refine UnaryOp_<|thn (ha aa s σ H _ I h) λv j e=>Cs e λx g i f d=>?_;obtain⟨c,rfl,d⟩:=d;cases f;exact not_of<|dB ⟨.bl<|!c,g,i,rfl,d⟩
end
def Fa(K:kN)(H:Hp)(a:kM)(xs:oA V):Prop :=
 Rd H a (.lst xs) \/
  ∃(o:kT) (b:oC kJ) (n:Nat),K.lookup a=some o/\o.cls=.type "list" /\ o.dict=none/\o.data=.seq b n/\b.size<=sizeLine/\Vals xs b.toList
def Ii(K:kN)(H:Hp)(a:kM)(xs:oA V):Prop :=
 Rd H a (.tup xs) \/
  ∃(o:kT) (b:oC kJ) (n:Nat),K.lookup a=some o/\o.cls=.type "tuple" /\ o.data=.seq b n/\b.size<=sizeLine/\Vals xs b.toList
def YI:kJ->oB V
 |.none=>some .non
 |.bool b=>some (.bl b)
 |.int i _=>some (.int i)
 |.str x _=>some (.str x)
 |.bytes b _=>some (.byt b)
 |.float b _=>some (.flt b)
 |.ref a=>some (.ref a)
 |.type n=>some (.ty n)
 |_=>none
def Bp.abs{x:V}{u:kJ}(r:Bp x u):YI u=some x:=by
 cases x with
 |non=>cases r;rfl
 |bl _=>cases r;rfl
 |int _=>obtain⟨t,rfl⟩:=r;rfl
 |str _=>obtain⟨t,rfl⟩:=r;rfl
 |byt _=>obtain⟨t,rfl⟩:=r;rfl
 |flt _=>obtain⟨t,rfl⟩:=r;rfl
 |ref _=>cases r;rfl
 |ty _=>cases r;rfl
def Bp.inj{x y:V}{u:kJ}(r:Bp x u)(q:Bp y u):x=y:=aE<|r.abs.symm.trans q.abs
theorem Vals.inj:∀{xs ys:oA V} {a:oA kJ},Vals xs a->Vals ys a->xs=ys
 |_,_,_,.nil,.nil=>rfl
 |_,_,_,.cons r t,.cons b c=>by rw[r.inj b,Vals.inj t c]
section
variable {X:Cx}{aa:oA<|kM×kT}{σ:St}{H:Hp}{s:kK}{a:kM}{xs ys:oA V}{E:kJ->kK->Prop}{st:kU}{rest:oA kU}{t u:TS}{e:kQ}{te:TE}{pos:Pos}{tg:kQ}
def Fa.of{K:kN}(h:H a=some (.lst xs)):Fa K H a xs:=.inl<|.inl h
def Ii.of{K:kN}(h:H a=some (.tup xs)):Ii K H a xs:=.inl<|.inl h
def Inv.list(I:Inv X aa σ H s)(h:Fa X.K H a xs):∃b:oA kJ,Vals xs b/\PlainL s.heap a b.toArray/\xs.length<=sizeLine:=by rcases h with h|⟨o,b,n,hk,hc,hd,c,hz,r⟩;obtain⟨z,b,n,r,e⟩:=h.ok I.hok;exact⟨b,r,⟨_,n,e,rfl,rfl,rfl⟩,z⟩;refine⟨b.toList,r,⟨o,n,I.kIn a o hk,hc,hd,by simpa using c⟩,?_⟩;have e:=r.length;simp only[Array.length_toList]at e;omega
def Inv.tuple(I:Inv X aa σ H s)(h:Ii X.K H a xs):∃b:oA kJ,Vals xs b/\IsTup s.heap a b.toArray/\xs.length<=sizeLine:=by rcases h with h|⟨o,b,n,hk,hc,c,hz,r⟩;obtain⟨z,b,r,p⟩:=h.ok I.hok;exact⟨b,r,p,z.1⟩;refine⟨b.toList,r,⟨o,I.kIn a o hk,hc,n,by simpa using c⟩,?_⟩;have e:=r.length;simp only[Array.length_toList]at e;omega
def Inv.nod(I:Inv X aa σ H s)(h:H a=some (.tup xs)):IK s.heap a\/Wk xs:=by obtain⟨z,b,r,p⟩:=(show Bs X.prog X.w H s.heap a (.tup xs) from I.hok a _ h);exact z.2
def Inv.list_inj(I:Inv X aa σ H s)(h:Fa X.K H a xs)(h':Fa X.K H a ys):xs=ys:=by
 obtain⟨i,r,⟨o,n,e,_,_,d⟩,_⟩:=I.list h;obtain⟨b,g,⟨j,k,c,_,_,f⟩,_⟩:=I.list h';rw[e]at c;cases c;rw[d]at f;injection f with d1 _;have:i=b:=by simpa using cF Array.toList d1
 subst this;exact r.inj g
def Inv.tuple_inj(I:Inv X aa σ H s)(h:Ii X.K H a xs)(h':Ii X.K H a ys):xs=ys:=by
 obtain⟨i,r,⟨o,e,_,n,d⟩,_⟩:=I.tuple h;obtain⟨b,g,⟨j,c,_,k,f⟩,_⟩:=I.tuple h';rw[e]at c;cases c;rw[d]at f;injection f with d1 _;have:i=b:=by simpa using cF Array.toList d1
 subst this;exact r.inj g
abbrev Cx.wish(X:Cx)(E:kJ->kK->Prop):Cx:={X with xe:=E}
abbrev Cx.nox(X:Cx):Cx:=X.wish λ_ _=>False
def Cx.Ok.wish{X:Cx}(ok:X.Ok)(E:kJ->kK->Prop):(X.wish E).Ok :=
 ⟨ok.mod,ok.kind,ok.glob,ok.blt,ok.above,ok.inj,ok.has,ok.cab,ok.hd,ok.frames,ok.stk,ok.exf,ok.bs,ok.bsz,ok.noex,ok.exfs,ok.funs,ok.frf⟩
def Cx.Ok.unwish{X:Cx}{E:kJ->kK->Prop}(ok:(X.wish E).Ok):X.Ok :=
 ⟨ok.mod,ok.kind,ok.glob,ok.blt,ok.above,ok.inj,ok.has,ok.cab,ok.hd,ok.frames,ok.stk,ok.exf,ok.bs,ok.bsz,ok.noex,ok.exfs,ok.funs,ok.frf⟩
def Inv.wish(I:Inv X aa σ H s)(E:kJ->kK->Prop):Inv (X.wish E) aa σ H s:=⟨I.ok.wish E,I.os,I.bare,I.base,I.loc,I.cell,I.free,I.freeC,I.pin,I.hok,I.len,I.tk⟩
def Inv.unwish(I:Inv (X.wish E) aa σ H s):Inv X aa σ H s:=⟨I.ok.unwish,I.os,I.bare,I.base,I.loc,I.cell,I.free,I.freeC,I.pin,I.hok,I.len,I.tk⟩
theorem SP.unwish{D:Ends}{f:Flow}{d:kK}(h:SP (X.wish E) aa D f d):SP X aa D f d:=by
 cases f with
 |next=>obtain⟨b,c,I,q⟩:=h;exact⟨b,c,I.unwish,q⟩
 |brk=>obtain⟨b,c,I,q⟩:=h;exact⟨b,c,I.unwish,q⟩
 |cont=>obtain⟨b,c,I,q⟩:=h;exact⟨b,c,I.unwish,q⟩
 |ret u=>obtain⟨v,b,c,I,r,q⟩:=h;exact⟨v,b,c,I.unwish,r,q⟩
def PSs.nox{st:oA kU}{t:TS}(h:PSs X.nox st t):PSs X st t:=λaa s σ H D I b=>
 a_ (h aa s σ H D (I.wish _) b) (λ_ _ q=>q.unwish) λ_ _ z=>False.elim z
def QW:TS:=λD σ H=>D.nx σ H
def YJ(t u:TS):TS:=λD σ H=>t {D with nx:=u D} σ H
def ED:PSs X [] QW:=λ_ _ σ H _ I h=>jB ⟨σ,H,I,h⟩
def Po(h1:PS X st t)(h2:PSs X rest u):PSs X (st::rest) (YJ t u):=by
 intro aa s σ H D I h;refine wpAny_execs_cons<|thn (h1 aa s σ H {D with nx:=u D} I h) λf d q=>?_;cases f with
 |next=>obtain⟨b,c,g,q⟩:=q;exact h2 aa d b c D g q
 |ret v=>exact q
 |brk=>exact q
 |cont=>exact q
def Od(h1:PS X st t):PSs X [st] t:=by
 intro aa s σ H D I h;refine wpAny_execs_cons<|thn (h1 aa s σ H D I h) λf b q=>?_;cases f with
 |next=>exact jB q
 |ret v=>exact q
 |brk=>exact q
 |cont=>exact q
def KU:TS:=λD σ H=>D.bk σ H
def Yj:PS X (.Break pos) KU:=λ_ _ σ H _ I h=>wpAny_Break ⟨σ,H,I,h⟩
def Inv.quiet{aa:oA<|kM×kT}{σ:St}{H:Hp}{s:kK}(I:Inv X aa σ H s):interactive X.env=false:=by simp[interactive,I.ok.kind]
def QX(te:TE):TS:=λD σ H=>te σ H λ_ b=>D.nx σ b
def EE(he:PE X e te)(hs:swapsWith e none pos.line X.env=pure false:=by rfl):PS X (.Expr e pos) (QX te):=by intro aa s σ H D I h;exact wpAny_Expr_any (thn (he aa s σ H _ I h) λv g c=>Cs c λx d f i b=>⟨σ,d,f,b⟩) I.quiet hs
def YK(te:TE):TS:=λD σ H=>te σ H D.rt
def KY(he:PE X e te):PS X (.Return (some e) pos) (YK te):=by intro aa s σ H D I h;exact wpAny_Return_some<|thn (he aa s σ H _ I h) λv i b=>Cs b λx d g f c=>⟨x,σ,d,g,f,c⟩
def YL(c:TT)(t u:TS):TS:=λD σ H=>c σ H λb d=>if b=true then t D σ d else u D σ d
def QY{c:kQ}{a b:oA kU}{g:TT}(hc:PT X c g)(ha:PSs X a t)(hb:PSs X b u):PS X (.If c a b pos) (YL g t u):=by
 intro aa s σ H D I h;refine wpAny_If<|thn (hc aa s σ H _ I h) λd f ⟨j,k,i⟩=>?_;cases d with
 |true=>exact ha aa f σ j D k i
 |false=>exact hb aa f σ j D k i
abbrev TG:=V->St->Hp->(St->Hp->Prop)->Prop
abbrev TGs:=oA V->St->Hp->(St->Hp->Prop)->Prop
def PG(X:Cx)(d:kQ)(t:TG):Prop :=
 ∀(aa:oA<|kM×kT) (s:kK) (σ:St) (H:Hp) (v:V) (u:kJ) (Q:St->Hp->Prop),Inv X aa σ H s->Bp v u->t v σ H Q ->
  qX X.prog X.w X.A (assign d X.env u) (λ_ f=>∃ b c,Inv X aa b c f/\Q b c) X.xe s
def PGs(X:Cx)(g:oA kQ)(t:TGs):Prop :=
 ∀(aa:oA<|kM×kT) (s:kK) (σ:St) (H:Hp) (vs:oA V) (d:oA kJ) (Q:St->Hp->Prop),Inv X aa σ H s->Vals vs d->t vs σ H Q ->
  qX X.prog X.w X.A (assignInOrder ((assignEach g X.env).map (·.2)) d) (λ_ f=>∃ b c,Inv X aa b c f/\Q b c) X.xe s
abbrev TSet:=V->V->V->Hp->(Hp->Prop)->Prop
def PSet(X:Cx)(t:TSet):Prop :=
 ∀(aa:oA<|kM×kT) (s:kK) (σ:St) (H:Hp) (o i v:V) (d c u:kJ) (Q:Hp->Prop),Inv X aa σ H s->Bp o d->Bp i c->Bp v u->t o i v H Q ->
  qX X.prog X.w X.A (setItem d c u) (λ_ f=>∃b,Inv X aa σ b f/\Q b) X.xe s
def Yk(i:Nat):TG:=λv σ H Q=>Q (σ.set i<|some v) H
def EF{i:Nat}{x:Str}(b:X.N.Nodup)(c:X.N[i]?=some x)(hx:Loc X.env.scope x)(hf:X.fn x=true\/X.env.scope.names.lookup x=some .local:=by first|exact .inl rfl|exact .inr rfl|assumption):PG X (.Name x pos) (Yk i):=by intro aa s σ H v u Q I r h;exact wpAny_assign_Name<|Ks I b c hx r (λf d=>⟨_,H,d,h⟩) hf
def YM:TGs:=λb σ H Q=>b=[]/\Q σ H
def QZ(t:TG)(u:TGs):TGs:=λd σ H Q=>∃v r,d=v::r/\t v σ H λb c=>u r b c Q
def EG:PGs X [] YM:=by intro aa s σ H b c Q I r h;obtain⟨e,h⟩:=h;subst e;cases r;exact assignInOrder_nil ⟨σ,H,I,h⟩
def Yl{e:kQ}{es:oA kQ}{t:TG}{u:TGs}(h1:PG X e t)(h2:PGs X es u)
  (hs:(assignEach (e::es) X.env).map (·.2)=assign e X.env::(assignEach es X.env).map (·.2):=by rfl):PGs X (e::es) (QZ t u):=by
 intro aa s σ H m n Q I r h;obtain⟨v,l,c,h⟩:=h;subst c;cases r with
 |cons r k=>rw[hs];refine assignInOrder_cons<|thn (h1 aa s σ H _ _ _ I r h) λ_ f d=>?_;obtain⟨b,j,g,i⟩:=d;exact h2 aa f b j _ _ Q g k i
def YN(K:kN)(n:Nat)(t:TGs):TG:=λv σ H Q=>∃a xs,v=.ref a/\Ii K H a xs/\xs.length=n/\t xs σ H Q
def KZ{es:oA kQ}{k:Nat}{t:TGs}{n:Nat}(hc:X.calm=true)(h:PGs X es t)
  (l:(assignEach es X.env).length=n:=by rfl) (g:(assignEach es X.env).findIdx? (·.1)=none:=by rfl):PG X (.Tuple es k pos) (YN X.K n t):=by
 intro aa s σ H v u Q I r c;obtain⟨a,xs,f,hq,m,c⟩:=c;subst f;cases r;obtain⟨q,d,j,hz⟩:=I.tuple hq;refine assign_Tuple_tuple (I.ok.hd hc) j (by simp[l,<- m,d.length]) g λi hx=>?_;have p:Inv X aa σ H {s with heap:=i}:=I.kept (t':=s.toks) λb o e=>hx b o (O_<|G_ e) e;exact h aa _ σ H xs _ Q p (by simpa using d) c
def YO(b g:TE)(t:TSet):TG:=λv σ H Q=>b σ H λo c=>g σ c λi d=>t o i v d λf=>Q σ f
def LC{o i:kQ}{d f:TE}{t:TSet}(p:PE X o d)(F:PE X i f)(hs:PSet X t)
  (ha:∀v,assign (.Subscript o i pos) X.env v=(do
   let b <- holding [v] (eval o X.env)
   let c <- holding [v,b] (eval i X.env)
   standAt pos
   holding [v,b,c] (setItem b c v)
   release [v,b,c] []):=by intro _;rfl):PG X (.Subscript o i pos) (YO d f t):=by
 intro aa s σ H v u Q I r h;rw[ha];refine A_<|aT<|thn (p aa s σ H _ I h) λb g k=>Cs k λx J w D G=>?_;refine A_<|aT<|thn (F aa g σ J _ w G) λc j B=>Cs B λy q l m n=>?_;refine A_<|gC<|A_<|aT<|thn (hs aa j σ q x y v b c u _ l D m r n) λ_ L ⟨C,A,z⟩=>?_;exact wpAny_release ⟨σ,C,A,z⟩
def EH(te:TE)(g:TG):TS:=λD σ H=>te σ H λx b=>g x σ b D.nx
def LF{tg e:kQ}{te:TE}{g:TG}(he:PE X e te)(f:PG X tg g)(hs:swapsWithSole [tg] e pos.line X.env=pure false:=by rfl)(k:swappedStores [tg] e X.env=pure none:=by rfl)
  (h1:(assignEach [tg] X.env).map (·.2)=[assign tg X.env]:=by rfl):PS X (.Assign [tg] e pos) (EH te g):=by
 intro aa s σ H D I h;refine wpAny_Assign_stores (thn (he aa s σ H _ I h) λv b d=>Cs d λx j l c i=>?_) hs k;rw[h1];exact thn (f aa b σ j x v _ l c i) λ_ m q=>q
def LG{i:Nat}{x:Str}{e:kQ}{te:TE}{b:Pos}(f:X.N.Nodup)(g:X.N[i]?=some x)(hx:Loc X.env.scope x)(he:PE X e te)(hs:swapsWith e (some<|.Name x b) pos.line X.env=pure false:=by rfl)(hf:X.fn x=true\/X.env.scope.names.lookup x=some .local:=by first|exact .inl rfl|exact .inr rfl|assumption) :
  PS X (.Assign [.Name x b] e pos) (EH te<|Yk i):=by
 intro aa s σ H D I h;refine wpAny_Assign_Name (thn (he aa s σ H _ I h) λv n j=>Cs j λy m d c k=>?_) hs;exact Ks d f g hx c (λo l=>⟨_,m,l,k⟩) hf
structure It where
 go:Nat->Hp->Prop
 yld:Nat->Hp->V->Hp->Prop
 stop:Nat->Hp->Prop
def F0(X:Cx)(aa:oA<|kM×kT)(H:Hp)(b:kM):Prop :=
 H b=none/\b≠X.env.locals/\b∉X.fs/\(b∈X.ex\/X.s₀.heap.objs.size<=b)/\(∀x c,X.env.cells.lookup x=some c->c≠b)/\∀p∈X.pn++aa,p.1≠b
def Inv.fpOk{X:Cx}{aa:oA<|kM×kT}{σ:St}{H H':Hp}{s:kK}{b:kM}(I:Inv X aa σ H s)(hb:s.heap.objs.size<=b)(d:H' b=none):F0 X aa H' b:=by refine⟨d,cZ<|S_ I.lt hb,I.nofs hb,.inr<|Q_ I.sz hb,λx c e z=>?_,λp hp z=>?_⟩;obtain⟨v,q⟩:=I.cell x c e;exact absurd (S_ q.lt<|by rw[z];exact hb)<|dF _;exact absurd (S_ (G_ (I.pin p hp).1)<|by rw[z];exact hb)<|dF _
structure Turn(P:kO)(w:kP)(K:kN)(tg:kQ)(J:It)(fp:oA kM)(it:kM)(tn:Nat->kS->Prop):Prop where
 mem:it∈fp
 obj:∀i h,tn i h->∀b∈fp,∃o,h.get? b=some o/\∀v,o.data≠.cell v
 keep:∀i h h',tn i h->(∀b∈fp,∀o,h.get? b=some o->h'.get? b=some o)->tn i h'
 item:∀(X:Cx),X.prog=P->X.w=w->X.K=K->X.calm=true->∀(i:Nat) (aa:oA<|kM×kT) (s:kK) (σ:St) (H:Hp) (E:kJ->kK->Prop),Inv X aa σ H s->(∀b∈fp,F0 X aa H b)->tn i s.heap->J.go i H ->
  qX P w X.A (pyNext<|.ref it) (λr s1=>∃u,r=some u /\
   qX P w X.A (letOwnedTupleGo tg (.ref it) u) (λ_ s2=>∃x H',Inv X aa σ H' s2/\Bp x u/\J.yld i H x H'/\tn (i+1) s2.heap/\∀b∈fp,H' b=none) E s1) E s
 done:∀(X:Cx),X.prog=P->X.w=w->X.K=K->X.calm=true->∀(i:Nat) (aa:oA<|kM×kT) (s:kK) (σ:St) (H:Hp) (E:kJ->kK->Prop),Inv X aa σ H s->(∀b∈fp,F0 X aa H b)->tn i s.heap->J.stop i H ->
  qX P w X.A (pyNext<|.ref it) (λr s1=>r=none/\Inv X aa σ H s1) E s
 self:∀(A:kR) (i:Nat) (s:kK) (Q:kJ->kK->Prop) (E:kJ->kK->Prop),tn i s.heap->Q (.ref it) s->qX P w A (pyIter<|.ref it) Q E s
abbrev TI:=St->Hp->(It->Hp->Prop)->Prop
def PIE(X:Cx)(aa:oA<|kM×kT)(σ:St)(tg:kQ)(R:It->Hp->Prop)(c:kJ)(g:kK):Prop :=
 ∃(d:kM) (f:oA kM) (tn:Nat->kS->Prop) (J:It) (H':Hp),c=.ref d/\Inv X aa σ H' g/\Turn X.prog X.w X.K tg J f d tn/\tn 0 g.heap/\(∀b∈f,F0 X aa H' b)/\R J H'
def PI(X:Cx)(tg b:kQ)(c:TI):Prop :=
 ∀(aa:oA<|kM×kT) (s:kK) (σ:St) (H:Hp) (R:It->Hp->Prop),Inv X aa σ H s->c σ H R ->
  qX X.prog X.w X.A (eval b X.env) (λv d=>qX X.prog X.w X.A (pyIter v) (PIE X aa σ tg R) X.xe d) X.xe s
def T6{M:Model}{A:kR}{E:kJ->kK->Prop}{s:kK}{tg:kQ}{c:kM}{u:kJ}{o:kT}{n:String}{vs:oC kJ}{Q:Unit->kK->Prop}(f:s.heap.get? c=some o)(hc:o.cls=.type n)(hd:o.data=.fields vs)
  (d:["enumerate","zip","dict_itemiterator","dict_reverseitemiterator","odict_iterator","itertools.zip_longest","itertools.pairwise"].contains n=false) (b:Q () s):wpAny M A (letOwnedTupleGo tg (.ref c) u) Q E s:=by
 unfold letOwnedTupleGo;cases tg<;>first
  |exact DD b
  | (cases u<;>first
    |exact DD b
    | (refine A_ (wpAny_load f ?_)
       rw [hc, hd];show wpAny M A (if (["enumerate", "zip", "dict_itemiterator", "dict_reverseitemiterator", "odict_iterator", "itertools.zip_longest", "itertools.pairwise"].contains n&&vs[0]? == some (rawInt _)) = true then _ else _) Q E s;rw [N_<|by intro h; rw [d, Bool.false_and] at h; cases h];exact DD b))
def Itl(K:kN)(a:kM):It :=
 ⟨λi H=>∃xs x,Fa K H a xs/\xs[i]?=some x,λi H x b=>b=H/\∀xs,Fa K H a xs->xs[i]?=some x,λi H=>∃xs,Fa K H a xs/\xs.length<=i⟩
def Itt(K:kN)(a:kM):It :=
 ⟨λi H=>∃xs x,Ii K H a xs/\xs[i]?=some x,λi H x b=>b=H/\∀xs,Ii K H a xs->xs[i]?=some x,λi H=>∃xs,Ii K H a xs/\xs.length<=i⟩
def Itr(lo:Int)(n:Nat):It:=⟨λi _=>i<n,λi H x b=>b=H/\x=.int (lo+i),λi _=>n<=i⟩
def Wc{P:kO}{w:kP}{K:kN}{tg:kQ}(a f:kM):Turn P w K tg (Itl K a) [f] f (λi h=>h.IsListIter f a i) where
 mem:=by simp
 obj:=λi h st b hb=>by
  have e:b=f:=by simpa using hb
  subst e;obtain⟨o,e,c,d⟩:=st;exact⟨o,e,λv z=>by rw[d]at z;cases z⟩
 keep:=λi h g st k=>st.at λo e=>k f (by simp) o e
 item:=by intro X j y m hc i aa s σ H E I hf st l;subst j y m;obtain⟨xs,x,hq,hx⟩:=l;obtain⟨M,n,p,hz⟩:=I.list hq;obtain⟨u,G,F⟩:=n.get hx;obtain⟨A,B,N,f3,q,r⟩:=hf f (by simp);refine gW st p.isList (x:=u) (by simpa using G) λg C L=>?_;have J:Inv X aa σ H {s with heap:=g}:=I.turned (t':=s.toks) (λb o hb e=>(L.2 b hb).trans e) A B f3 q r;obtain⟨o,e,c,d⟩:=id C;exact⟨u,rfl,T6 (s:={s with heap:=g}) e c d (by decide) ⟨x,H,J,F,⟨rfl,λys hy=>by rw[I.list_inj hy hq];exact hx⟩,C,λb hb=>(hf b hb).1⟩⟩
 done:=by intro X j y m hc i aa s σ H E I hf st l;subst j y m;obtain⟨xs,hq,hx⟩:=l;obtain⟨M,n,p,hz⟩:=I.list hq;obtain⟨A,B,N,f3,q,r⟩:=hf f (by simp);have O:=n.length;exact iI (I.ok.hd hc) st p.isList (by simp;omega) λg D=>⟨rfl,I.turned (t':=s.toks) (λb o hb e=>D b o hb e) A B f3 q r⟩
 self:=λ_ _ _ _ _ st h=>wpAny_pyIter_listiter st h
def R9{P:kO}{w:kP}{K:kN}{tg:kQ}(a f:kM):Turn P w K tg (Itt K a) [f] f (λi h=>h.IsTupleIter f a i) where
 mem:=by simp
 obj:=λi h st b hb=>by
  have e:b=f:=by simpa using hb
  subst e;obtain⟨o,e,c,d⟩:=st;exact⟨o,e,λv z=>by rw[d]at z;cases z⟩
 keep:=λi h g st k=>st.at λo e=>k f (by simp) o e
 item:=by intro X j y m hc i aa s σ H E I hf st l;subst j y m;obtain⟨xs,x,hq,hx⟩:=l;obtain⟨B,n,p,hz⟩:=I.tuple hq;obtain⟨u,J,G⟩:=n.get hx;obtain⟨A,C,N,f3,q,r⟩:=hf f (by simp);refine wpAny_pyNext_tuple_item st (show s.heap.IsTuple a B.toArray from p) (x:=u) (by simpa using J) λg D M=>?_;have L:Inv X aa σ H {s with heap:=g}:=I.turned (t':=s.toks) (λb o hb e=>(M.2 b hb).trans e) A C f3 q r;obtain⟨o,e,c,d⟩:=id D;exact⟨u,rfl,T6 (s:={s with heap:=g}) e c d (by decide) ⟨x,H,L,G,⟨rfl,λys hy=>by rw[I.tuple_inj hy hq];exact hx⟩,D,λb hb=>(hf b hb).1⟩⟩
 done:=by intro X j y m hc i aa s σ H E I hf st l;subst j y m;obtain⟨xs,hq,hx⟩:=l;obtain⟨B,n,p,hz⟩:=I.tuple hq;obtain⟨A,C,N,f3,q,r⟩:=hf f (by simp);have O:=n.length;exact wpAny_pyNext_tuple_end (I.ok.hd hc) st (show s.heap.IsTuple a B.toArray from p) (by simp;omega) λg F=>⟨rfl,I.turned (t':=s.toks) (λb o hb e=>F b o hb e) A C f3 q r⟩
 self:=λ_ _ _ _ _ st h=>wpAny_pyIter_tupleiter st h
def Sa{P:kO}{w:kP}{K:kN}{tg:kQ}(c:kM)(lo:Int)(n:Nat):Turn P w K tg (Itr lo n) [c] c (λi h=>IsRangeIter h c (lo+(i:Nat)*1) ((n:Int)-(i:Nat)) 1) where
 mem:=by simp
 obj:=λi h st b hb=>by
  have e:b=c:=by simpa using hb
  subst e;exact⟨_,st,λv z=>by
   have D:Data.fields _=Data.cell v:=z;cases D⟩
 keep:=λi h d st k=>k c (by simp) _ st
 item:=by intro X f p l hc i aa s σ H E I hf st g;subst f p l;obtain⟨q,r,C,f3,j,m⟩:=hf c (by simp);have W:=Walks.range (prog:=X.prog) (w:=X.w) (I.ok.hd hc) c lo 1 n;refine wtk I.tk<|W.item i s _ _ g st λv d y hv x F hk=>?_;obtain⟨t,rfl⟩:=hv;have B:Inv X aa σ H {s with heap:=d,toks:=y}:=I.turned (λb o hb e=>F b o (by simpa using hb) e) q r f3 j m;refine⟨_,rfl,T6 (s:={s with heap:=d,toks:=y}) (n := "range_iterator") x rfl rfl (by decide) ⟨.int<|lo+i,H,B,⟨t,?_⟩,⟨rfl,rfl⟩,x,λb hb=>(hf b hb).1⟩⟩;rw[Int.mul_one]
 done:=by intro X f p l hc i aa s σ H E I hf st g;subst f p l;obtain⟨q,r,C,f3,j,m⟩:=hf c (by simp);exact wpAny_pyNext_range_end (I.ok.hd hc) st (by have:n<=i:=g;omega) λd A=>⟨rfl,I.turned (t':=s.toks) (λb o hb e=>A b o hb e) q r f3 j m⟩
 self:=λ_ _ _ _ _ st h=>wpAny_pyIter_rangeiter st h
def Pp{aa:oA<|kM×kT}{σ:St}{H:Hp}{s:kK}{R:It->Hp->Prop}{E:kJ->kK->Prop}{lo c:Int}{t u v:Tok}{tk:Nat}(I:Inv X aa σ H s)(h1:-(2^62)<=lo)(h2:lo<2^62)(h:-(2^62)<=c)(g:c<2^62)
  (q:R (Itr lo (c-lo).toNat) H) (hk:0<tk:=by first|exact aQ _|assumption|exact Inv.tk<|by assumption):qX X.prog X.w X.A (pyIter<|.ref s.heap.objs.size) (PIE X aa σ tg R) E {s with heap:=s.heap.push {cls:=.type "range",data:=.fields #[.int lo t,.int c u,.int 1 v]},toks:=tk}:=by
 refine wpAny_pyIter_range (IsRange.new ..) (small_one h1 h2 h g) ?_;have d:Inv X aa σ H {s with heap:=s.heap.push {cls:=.type "range",data:=.fields #[.int lo t,.int c u,.int 1 v]},toks:=tk}:=I.kept λb o e=>C_ _ e;refine⟨(s.heap.push {cls:=.type "range",data:=.fields #[.int lo t,.int c u,.int 1 v]}).objs.size,[(s.heap.push {cls:=.type "range",data:=.fields #[.int lo t,.int c u,.int 1 v]}).objs.size],_,_,H,rfl,
  d.kept (t':=tk) λb o e=>C_ _ e,Sa _ lo (c-lo).toNat,?_,λb hb=>?_,q⟩
 have f:lo+((0:Nat):Int)*1=lo:=by simp
 have i:(((c-lo).toNat:Nat):Int)-((0:Nat):Int)=Builtin.Range.rangeSize lo c 1:=by rw[rangeSize_one];split<;>omega
 show IsRangeIter _ _ (lo+((0:Nat):Int)*1) ((((c-lo).toNat:Nat):Int)-((0:Nat):Int)) 1;rw[f,i];exact I_ _ rfl;have e:b=(s.heap.push {cls:=.type "range",data:=.fields #[.int lo t,.int c u,.int 1 v]}).objs.size:=by simpa using hb
 subst e;exact d.fpOk (H_ _)<|d.hok.fresh<|H_ _
def RA(d:TA):TI:=λσ H R=>d σ H λc b=>∃j:Int,c=[.int j]/\-(2^62)<=j/\j<2^62/\R (Itr 0 j.toNat) b
def RB(d:TA):TI:=λσ H R=>d σ H λc b=>∃i j:Int,c=[.int i,.int j]/\(-(2^62)<=i/\i<2^62/\-(2^62)<=j/\j<2^62)/\R (Itr i (j-i).toNat) b
def Wd{a:kQ}{c:TA}{p pos:Pos}(i:Gl X "range") (hm:X.mg "range" = none) (ha:PA X [a] c) (hs:starEach [a] X.env=[(false,eval a X.env)]:=by rfl):PI X tg (.Call (.Name "range" p) [a] [] pos) (RA c):=by
 intro aa s σ H R I h;refine Call_<|Ce I i hm boot_range<|aZ (thn (ha pos aa s σ H _ I h) λv m d=>Cs d λo n g f b=>?_) hs rfl;obtain⟨j,e,b,k,q⟩:=b;subst e;cases f with
 |cons r l=>cases l;obtain⟨t,rfl⟩:=r;exact call_range_1<|Pp g (by omega) (by omega) b k<|by simpa using q
def We{a b:kQ}{f:TA}{p pos:Pos}(g:Gl X "range") (hm:X.mg "range" = none) (ha:PA X [a,b] f) (hs:starEach [a,b] X.env=[(false,eval a X.env),(false,eval b X.env)]:=by rfl) (hs2:starEach [b] X.env=[(false,eval b X.env)]:=by rfl) :
  PI X tg (.Call (.Name "range" p) [a,b] [] pos) (RB f):=by
 intro aa s σ H R I h;refine Call_ (Ce I g hm boot_range<|aZ (thn (ha pos aa s σ H _ I h) λB x l=>Cs l λA z m w c=>?_) (by rw[hs,hs2])<|by rw[hs2];rfl);obtain⟨i,j,e,⟨c,k,n,o⟩,q⟩:=c;subst e;cases w with
 |cons r d=>
  cases d with
  |cons v d=>cases d;obtain⟨t,rfl⟩:=r;obtain⟨y,rfl⟩:=v;exact call_range_2<|Pp m c k n o q
def YP(h:TI)(g:TG)(l:TS):TS:=λD σ H=>h σ H λJ j=>∃W:Nat->Nat->St->Hp->Prop,(∃m,W 0 m σ j)/\∀i m σ H,W i m σ H ->
 (J.stop i H/\D.nx σ H)\/(J.go i H/\∃N:St->Hp->Prop,(∀ c b,N c b->∃f,f<m/\W (i+1) f c b)/\∀x b,J.yld i H x b->g x σ b λd k=>l {D with nx:=N,ct:=N,bk:=D.nx} d k)
def Ku(c:oA kM)(h:kS):oA (kM×kT):=c.filterMap λb=>(h.get? b).map λo=>(b,o)
def Fr{c:oA kM}{h:kS}{b:kM}{o:kT}(hb:b∈c)(e:h.get? b=some o):(b,o)∈Ku c h:=gO.mpr ⟨b,hb,by rw[e];rfl⟩
def Wf{c:oA kM}{h:kS}{p:kM×kT}(hp:p∈Ku c h):p.1∈c/\h.get? p.1=some p.2:=by
 obtain⟨b,hb,e⟩:=gO.mp hp;cases q:h.get? b with
 |none=>rw[q]at e;cases e
 |some o=>rw[q]at e;have d:(b,o)=p:=aE e;subst d;exact⟨hb,q⟩
def Inv.pinned{aa:oA<|kM×kT}{σ:St}{H:Hp}{s:kK}{c:oA kM}(I:Inv X aa σ H s)(hf:∀b∈c,F0 X aa H b)(j:∀b∈c,∃o,s.heap.get? b=some o/\∀v,o.data≠.cell v):Inv X (aa++Ku c s.heap) σ H s :=
 I.pins_of λp hp=>(U_.mp hp).elim (λz=>I.pin p<|aW _ z) λz=>by obtain⟨hb,e⟩:=Wf z;obtain⟨g,h,i,_⟩:=hf p.1 hb;obtain⟨o,f,d⟩:=j p.1 hb;rw[e]at f;cases f;exact⟨e,g,h,i,d⟩
def Inv.unpinned{aa pl:oA<|kM×kT}{σ:St}{H:Hp}{s:kK}(I:Inv X (aa++pl) σ H s):Inv X aa σ H s:=I.pins_of λp hp=>I.pin p<|aW _<|cK _ hp
def LH{S:kQ}{q:oA kU}{wi:TI}{g:TG}{tb:TS}{pos:Pos}(hp:PassesOwn (model X.prog X.w) X.A X.env X.xe)(hc:X.calm=true)(hi:PI X tg S wi)(hg:PG X tg g)(hb:PSs X q tb)
  (hs:∀x,foldedSetIterable S X.env x=pure x:=by intro _;rfl):PS X (.For tg S q [] pos) (YP wi g tb):=by
 intro aa s σ H D I h;refine wpAny_For (thn (hi aa s σ H _ I h) λv s1 h1=>thn h1 λitv s2 h2=>?_) hs;obtain⟨it,B,Z,J,H2,e,I2,T,U,f2,W,⟨m0,w0⟩,turn⟩:=h2;subst e;have Y:∀{H':Hp},(∀b∈B,H' b=none)->∀b∈B,F0 X aa H' b:=λhn b hb=>⟨hn b hb,(f2 b hb).2⟩;refine codeAny_forLoop_any (λn s'=>∃i k H',Inv X aa k H' s'/\Z i s'.heap/\(∀b∈B,H' b=none)/\W i n k H') ?_ m0 ⟨0,σ,H2,I2,U,λb hb=>(f2 b hb).1,w0⟩;rintro n s3 ⟨i,j,L,I3,C,F,w3⟩;rcases turn i n j L w3 with⟨stop,qn⟩|⟨go,N,hN,step⟩;refine gH hp<|thn (T.done X rfl rfl rfl hc i aa s3 j L X.xe I3 (Y F) C stop) λr s4 ⟨R,I4⟩=>?_;subst R;exact jB ⟨j,L,I4,qn⟩
 ·refine gH hp<|thn (T.item X rfl rfl rfl hc i aa s3 j L X.xe I3 (Y F) C go) λr s4 ⟨u,R,h4⟩=>?_;subst R;refine gH hp<|thn h4 λ_ s5 w9=>?_;obtain⟨x,H5,I5,r5,y5,z,O⟩:=w9;have M:=I5.pinned (Y O)<|T.obj _ _ z;refine gH hp<|thn (hg _ s5 j H5 x u _ M r5<|step x H5 y5) λ_ s6 vx=>?_;obtain⟨P,H6,I6,q6⟩:=vx;refine gH hp<|thn (hb _ s6 P H6 _ I6 q6) λf Q y=>?_;have again:∀{c:St} {l:Hp},Inv X (aa++Ku B s5.heap) c l Q->N c l->∃m,m<n/\∃i k H',Inv X aa k H' Q/\Z i Q.heap/\(∀b∈B,H' b=none)/\W i m k H':=λ{c l} p G=>by
   obtain⟨m',hm,w7⟩:=hN c l G;refine⟨m',hm,i+1,c,l,p.unpinned,T.keep _ _ _ z λb hb o e=>(p.pin (b,o)<|aW _<|aW _<|Fr hb e).1,λb hb=>?_,w7⟩;obtain⟨o,e,d⟩:=T.obj _ _ z b hb;exact(p.pin (b,o)<|aW _<|aW _<|Fr hb e).2.1
  cases f with
  |next=>obtain⟨c,l,p,G⟩:=y;exact again p G
  |cont=>obtain⟨c,l,p,G⟩:=y;exact again p G
  |brk=>obtain⟨c,l,p,y⟩:=y;exact⟨c,l,p.unpinned,y⟩
  |ret v=>obtain⟨x7,c,l,p,r7,y⟩:=y;exact⟨x7,c,l,p.unpinned,r7,y⟩
end
abbrev R2:=V->V->Hp->VK->Prop
def Ih(X:Cx)(f:kJ->kJ->Sem kJ)(r:R2):Prop :=
 ∀(b:oA<|kM×kT) (s:kK) (a:St) (H:Hp) (x y:V) (v u:kJ) (Q:VK),Inv X b a H s->Bp x v->Bp y u->r x y H Q ->
  qX X.prog X.w X.A (f v u) (EP X b a Q) X.xe s
def YQ(X:Cx)(f:kJ->Sem kJ)(r:V->Hp->VK->Prop):Prop :=
 ∀(b:oA<|kM×kT) (s:kK) (a:St) (H:Hp) (x:V) (v:kJ) (Q:VK),Inv X b a H s->Bp x v->r x H Q ->
  qX X.prog X.w X.A (f v) (EP X b a Q) X.xe s
def Gc(X:Cx)(f:kJ)(r:oA V->Hp->VK->Prop):Prop :=
 ∀(c:oA<|kM×kT) (s:kK) (a:St) (H:Hp) (xs:oA V) (b:oA kJ) (Q:VK),Inv X c a H s->Vals xs b->r xs H Q ->
  qX X.prog X.w X.A (call f b) (EP X c a Q) X.xe s
def RC(r:R2)(d e:TE):TE:=λa H Q=>d a H λx b=>e a b λy c=>r x y c Q
def tUn(r:V->Hp->VK->Prop)(c:TE):TE:=λb H Q=>c b H λx a=>r x a Q
def rI(C:Int->Int->Prop)(g:Int->Int->V):R2:=λx y H Q=>∃i j,x=.int i/\y=.int j/\C i j/\Q (g i j) H
def EI(g:Int->Int->V):R2:=λx y H Q=>∃i j,x=.int i/\y=.int j/\Q (g i j) H
def rU(g:Int->V):V->Hp->VK->Prop:=λx H Q=>∃i,x=.int i/\Q (g i) H
section
variable {X:Cx}{a b c:kQ}{ta tb tc:TE}{pos:Pos}
def LI(ha:PE X a ta)(hb:PE X b tb){j:oA<|kM×kT}{s:kK}{d:St}{H:Hp}{R:V->V->Hp->Prop}(I:Inv X j d H s)
  (h:ta d H λx l=>tb d l λy e=>R x y e) {Q:kJ->kK->Prop} {f:kJ->kJ->Sem kJ}
  (hf:∀v u k x y e,Inv X j d e k->Bp x v->Bp y u->R x y e->qX X.prog X.w X.A (f v u) Q X.xe k) :
  qX X.prog X.w X.A (eval a X.env) (λv i=>qX X.prog X.w X.A (eval b X.env) (λu g=>qX X.prog X.w X.A (f v u) Q X.xe g) X.xe i) X.xe s:=by
 refine thn (ha j s d H _ I h) λv m z=>Cs z λx l B n p=>?_;refine thn (hb j m d l _ B p) λu k o=>Cs o λy e q r t=>?_;exact hf v u k x y e q n r t
def RD{d:Operator}{r:R2}(l:Ih X (binaryOp d) r)(ha:PE X a ta)(hb:PE X b tb):PE X (.BinOp a d b pos) (RC r ta tb):=by intro e s g H Q I h;exact wpAny_BinOp<|LI ha hb I h λv u f x y k i m j q=>l e f g k x y v u Q i m j q
def RE{e:UnaryOp}{r:V->Hp->VK->Prop}(m:YQ X (unaryOp e) r)(ha:PE X a ta):PE X (.UnaryOp e a pos) (tUn r ta):=by intro d s f H Q I h;exact UnaryOp_<|thn (ha d s f H _ I h) λv g i=>Cs i λx l n j k=>m d g f l x v Q n j k
def XV{f:kJ->kJ->Sem kJ}{C:Int->Int->Prop}{g:Int->Int->Int}
  (rule:∀(i j:Int) (t u:Tok) (s:kK) (Q:kJ->kK->Prop) (E:kJ->kK->Prop),C i j->Q (.int (g i j) s.toks) {s with toks:=s.toks+1}->qX X.prog X.w X.A (f (.int i t)<|.int j u) Q E s) :
  Ih X f (rI C λi j=>.int<|g i j):=by
 intro l s m H x y v u Q I e d h;obtain⟨i,j,rfl,rfl,hc,q⟩:=h;obtain⟨t,rfl⟩:=e;obtain⟨k,rfl⟩:=d;exact rule i j t k s _ _ hc ⟨.int<|g i j,H,I.tok _,⟨_,rfl⟩,q⟩
def RF{f:kJ->kJ->Sem kJ}{g:Int->Int->Int}
  (rule:∀(i j:Int) (t u:Tok) (s:kK) (Q:kJ->kK->Prop) (E:kJ->kK->Prop),Q (.int (g i j) s.toks) {s with toks:=s.toks+1}->qX X.prog X.w X.A (f (.int i t)<|.int j u) Q E s) :
  Ih X f (EI λi j=>.int<|g i j):=by
 intro l s m H x y v u Q I e d h;obtain⟨i,j,rfl,rfl,q⟩:=h;obtain⟨t,rfl⟩:=e;obtain⟨k,rfl⟩:=d;exact rule i j t k s _ _ ⟨.int<|g i j,H,I.tok _,⟨_,rfl⟩,q⟩
def EJ{f:kJ->kJ->Sem kJ}{g:Int->Int->Bool}
  (rule:∀(i j:Int) (t u:Tok) (s:kK) (Q:kJ->kK->Prop) (E:kJ->kK->Prop),Q (.bool<|g i j) s->qX X.prog X.w X.A (f (.int i t)<|.int j u) Q E s) :
  Ih X f (EI λi j=>.bl<|g i j):=by
 intro l s m H x y v u Q I e d h;obtain⟨i,j,rfl,rfl,q⟩:=h;obtain⟨t,rfl⟩:=e;obtain⟨k,rfl⟩:=d;exact rule i j t k s _ _ ⟨.bl<|g i j,H,I,rfl,q⟩
def CDiv(i j:Int):Prop:=0<j/\j<1073741824
def CPow(i j:Int):Prop:=0<=j/\j<=1000000/\i.natAbs<2^64
def CMul(i j:Int):Prop:=(-(2^64)<i/\i<2^64)\/(-(2^64)<j/\j<2^64)
def CMul.ok{i j:Int}(h:CMul i j):IntMulOk i j:=by rcases h with⟨h1,h2⟩|⟨h1,h2⟩;exact .of_left<|intBits_le_64 h1 h2;exact .of_right<|intBits_le_64 h1 h2
def LJ:Ih X (binaryOp .Add) (EI λi j=>.int<|i+j):=RF λ_ _ _ _ _ _ _ q=>add_int q
def LK:Ih X (binaryOp .Sub) (EI λi j=>.int<|i-j):=RF λ_ _ _ _ _ _ _ q=>sub_int q
def LL:Ih X (binaryOp .Mult) (rI CMul λi j=>.int<|i*j):=XV λ_ _ _ _ _ _ _ hc q=>mul_int q hc.ok
def EL:Ih X (binaryOp .FloorDiv) (rI CDiv λi j=>.int<|i / j):=XV λi j _ _ _ _ _ hc q=>by have h1:(0:Int)<j:=hc.1;have h2:j<1073741824:=hc.2;exact floordiv_int (by omega) (by rw[Int.fdiv_eq_ediv_of_nonneg i<|by omega];exact q)<|.inl<|PyProof.noPylong_small<|by omega
def LM:Ih X (binaryOp .Mod) (rI (λ_ j=>0<j) λi j=>.int<|i%j):=XV λi j _ _ _ _ _ hc q=>by have h1:(0:Int)<j:=hc;exact mod_int' (by omega)<|by rw[Int.fmod_eq_emod_of_nonneg i<|by omega];exact q
def LN:Ih X (binaryOp .Pow) (rI CPow λi j=>.int<|i^j.toNat):=XV λ_ _ _ _ _ _ _ hc q=>pow_int_small hc.1 hc.2.1 hc.2.2 q
def unI{f:kJ->Sem kJ}{g:Int->Int}
  (rule:∀(i:Int) (t:Tok) (s:kK) (Q:kJ->kK->Prop) (E:kJ->kK->Prop),Q (.int (g i) s.toks) {s with toks:=s.toks+1}->qX X.prog X.w X.A (f<|.int i t) Q E s) :
  YQ X f (rU λi=>.int<|g i):=by
 intro e s j H x v Q I d h;obtain⟨i,rfl,q⟩:=h;obtain⟨t,rfl⟩:=d;exact rule i t s _ _ ⟨.int<|g i,H,I.tok _,⟨_,rfl⟩,q⟩
def LP:YQ X (unaryOp .USub) (rU λi=>.int<|-i):=unI λ_ _ _ _ _ q=>neg_int q
def Oe{g:oA<|kM×kT}{d:St}{H:Hp}{s:kK}{Q:VK}{k f:Bool}(I:Inv X g d H s)(q:Q (.bl k) H)(e:k=f):EP X g d Q (.bool f) s:=by subst e;exact⟨.bl k,H,I,rfl,q⟩
def RG:Ih X (compareOp .Lt) (EI λi j=>.bl<|decide (i<j)):=EJ λ_ _ _ _ _ _ _ q=>lt_int q
def RH:Ih X (compareOp .LtE) (EI λi j=>.bl<|decide (i<=j)):=EJ λ_ _ _ _ _ _ _ q=>le_int q
def RI:Ih X (compareOp .Gt) (EI λi j=>.bl<|decide (j<i)):=EJ λ_ _ _ _ _ _ _ q=>gt_int q
def RJ:Ih X (compareOp .GtE) (EI λi j=>.bl<|decide (j<=i)):=EJ λ_ _ _ _ _ _ _ q=>ge_int q
def Wg:Ih X (compareOp .In) (λx y H Q=>∃i j,x=.str i/\y=.str j/\Q (.bl<|!(Builtin.Str.occurrences j i 0 j.length 1).isEmpty) H):=by intro f s g H x y v u Q I e d h;obtain⟨i,j,rfl,rfl,q⟩:=h;obtain⟨t,rfl⟩:=e;obtain⟨k,rfl⟩:=d;exact in_str<|Oe I q rfl
def Ym:Ih X (compareOp .Is) (λx y H Q=>y=.non/\Q (.bl<|decide (x=.non)) H):=by
 intro f s g H x y v u Q I d e h;obtain⟨rfl,q⟩:=h;cases e;refine is_none_gen<|Oe I q ?_;cases x<;>first
  | (cases d;rfl)
  | (obtain⟨t,rfl⟩:=d;rfl)
def nomark(b:kQ){d:CmpOp}(h:d≠.In:=by decide)(h2:d≠.NotIn:=by decide):behindInMarks d b=false:=by
 have e:(d==CmpOp.In)=false:=by cases d<;>first|rfl|exact absurd rfl h
 have f:(d==CmpOp.NotIn)=false:=by cases d<;>first|rfl|exact absurd rfl h2
 cases b<;>simp[behindInMarks,e,f]
def EM{d:CmpOp}{r:R2}(l:Ih X (compareOp d) r)(ha:PE X a ta)(hb:PE X b tb)(hm:behindInMarks d b=false):PE X (.Compare a [d] [b] pos) (RC r ta tb):=by intro e s g H Q I h;exact wpAny_Compare1 (LI ha hb I h λv u f x y k i m j q=>l e f g k x y v u Q i m j q) hm
def IL(t:TE):TT:=λe H Q=>t e H λx d=>∃k,x=.bl k/\Q k d
def EN{g:CmpOp}{r:R2}(q:Ih X (compareOp g) r)(ha:PE X a ta)(hb:PE X b tb)(hm:behindInMarks g b=false):PT X (.Compare a [g] [b] pos) (IL<|RC r ta tb):=by
 intro d s f H Q I h;refine wpAny_isTrue_Compare1 (thn (ha d s f H _ I h) λv j i=>Cs i λx G t E F=>thn (hb d j f G _ t F) λu l A=>Cs A λy p m n o=>
  thn (q d l f p x y v u _ m E n o) λc J ⟨z,D,B,C,k,e,w⟩=>?_) hm
 subst e;cases C;exact dB ⟨D,B,w⟩
def Yn(r g:R2)(ta tb tc:TE):TE:=λd H Q=>ta d H λx i=>tb d i λy j=>r x y j λz e=>∃k,z=.bl k /\
 (if k=true then tc d e λh f=>g y h f Q else Q (.bl false) e)
def Yo{j i:CmpOp}{r n:R2}(D:Ih X (compareOp j) r)(G:Ih X (compareOp i) n)(ha:PE X a ta)(hb:PE X b tb)(hc:PE X c tc)
  (hm:lastMarks [j,i] [b,c]=false:=by with_unfolding_all rfl):PE X (.Compare a [j,i] [b,c] pos) (Yn r n ta tb tc):=by
 intro f s g H Q I h;refine Compare_chain (thn (ha f s g H _ I h) λv t B=>Cs B λx Y J P V=>chain_link<|thn (hb f t g Y _ J V) λu w R=>Cs R λy E A l C=>
  thn (D f w g E x y v u _ A P l C) λd N ⟨z,p,o,O,k,e,m⟩=>?_) hm
 subst e;cases O;refine dB ?_;cases k with
 |false=>exact ite_ff ⟨.bl false,p,o,rfl,m⟩
 |true=>exact ite_tt<|chain_last<|thn (hc f N g p _ o m) λW F T=>Cs T λS q U L M=>G f F g q y S u W Q U l L M
def Ij:(sizeLine:Nat)<2^63:=by rw[kF];decide
def Yp{s:kK}{x y:Str}{t u:Tok}{Q:kJ->kK->Prop}(hsz:x.length+y.length<=sizeLine)(g:t≠0)(f:u≠0)(hk:0<s.toks)(h:∀e k,e≠0->0<k->Q (.str (x++y) e) {s with toks:=k}) :
  (if x.length==0 then Made.val (.str y u) else if y.length==0 then Made.val (.str x t) else Made.str<|x++y).post Q s:=by
 by_cases hx:(x.length==0)=true;rw[R_ hx];have d:=h u s.toks f hk;rw[Str.append_left_empty hx]at d;exact d;rw[N_ hx];by_cases hy:(y.length==0)=true;rw[R_ hy];have d:=h t s.toks g hk;rw[Str.append_right_empty hy]at d;exact d;rw[N_ hy];exact⟨by rw[show(x++y).length=x.length+y.length from strLen_append ..];exact hsz,h _ _ (cZ hk)<|aQ _⟩
def Sb:Ih X (binaryOp .Add) (λx y H Q=>∃i j,x=.str i/\y=.str j/\i.length+j.length<=sizeLine/\Q (.str<|i++j) H):=by intro g s k H x y v u Q I f e h;obtain⟨i,j,rfl,rfl,hz,q⟩:=h;obtain⟨t,rfl⟩:=f;obtain⟨d,rfl⟩:=e;exact PySem.P.add_str<|Yp hz t.2 d.2 I.tk λd l h1 h2=>⟨.str<|i++j,H,I.tok _,⟨⟨_,h1⟩,rfl⟩,q⟩
def Fb{x:V}{d:oA kJ}(r:Vals [x] d):∃u,d=[u]/\Bp x u:=by
 cases r with
 |cons f e=>cases e;exact⟨_,rfl,f⟩
def IM{x y:V}{e:oA kJ}(r:Vals [x,y] e):∃u d,e=[u,d]/\Bp x u/\Bp y d:=by
 cases r with
 |cons h g=>
  cases g with
  |cons f i=>cases i;exact⟨_,_,rfl,h,f⟩
def Wh(hc:X.calm=true):Gc X (.builtin "min") (λd H Q=>∃i j,d=[.int i,.int j]/\Q (.int<|if j<i then j else i) H):=by intro g s l H d f Q I r h;obtain⟨i,j,rfl,q⟩:=h;obtain⟨u,n,rfl,⟨t,rfl⟩,⟨o,rfl⟩⟩:=IM r;refine wtk I.tk<|min_two_ints (I.ok.hd hc) λe m k hk=>⟨_,H,I.kept k,?_,q⟩;by_cases hj:j<i;rw[R_ hj,R_ hj];exact⟨_,rfl⟩;rw[N_ hj,N_ hj];exact⟨_,rfl⟩
def My:Gc X (.type "int") (λd H Q=>(∃i,d=[.int i]/\Q (.int i) H)\/∃k,d=[.bl k]/\Q (.int<|if k then 1 else 0) H):=by intro f s g H d j Q I r h;rcases h with⟨i,rfl,q⟩|⟨k,rfl,q⟩;obtain⟨u,rfl,t,rfl⟩:=Fb r;exact call_int_int ⟨.int i,H,I,⟨_,rfl⟩,q⟩;obtain⟨u,rfl,e⟩:=Fb r;cases e;exact call_int_bool ⟨.int<|if k then 1 else 0,H,I.tok _,⟨_,rfl⟩,q⟩
end
def Mz{h:kS}{f:kM}{i:Str->oB kJ}(n:h.Ns1 f i):∃d,h.get? f=some d/\∀b,PySem.W.lookIn b d=some (i b):=by
 obtain⟨o,g,l,k,hd,hk,_,hm⟩:=n;refine⟨o,k,λb=>?_⟩;have e:=hm b;unfold nsFind findBy at e;rw[<- Array.find?_toList]at e;unfold PySem.W.lookIn;rw[hd];dsimp only;split;rename_i y q;rw[q]at e;exact cF some e;rename_i q;rw[q]at e;have a:g.toList.any (·.refKey)=false:=by rw[List.any_eq_false];intro y hy;obtain⟨z,t,c⟩:=hk y<|iX.mp hy;simp[DictEntry.refKey,c]
 have j:¬g.toList.any (·.refKey)=true:=by rw[a];exact X_
 rw[N_ j];exact cF some e
def G1.some_of{v:V}{o:oB kJ}(r:G1 (some v) o):∃u,o=some u/\Bp v u:=by
 cases o with
 |none=>exact(show False from r).elim
 |some u=>exact⟨u,rfl,r⟩
def Wi{v:V}{u:kJ}(r:Bp v u):PySem.W.handedIn u=true:=by
 cases v with
 |non=>cases (show u=Value.none from r);rfl
 |bl b=>cases (show u=Value.bool b from r);rfl
 |int i=>obtain⟨t,e⟩:=(show ∃t,u=Value.int i t from r);cases e;rfl
 |str x=>obtain⟨t,e⟩:=(show ∃t:{t:Tok // t≠0},u=Value.str x t.1 from r);cases e;rfl
 |byt b=>obtain⟨t,e⟩:=(show ∃t,u=Value.bytes b t from r);cases e;rfl
 |flt b=>obtain⟨t,e⟩:=(show ∃t,u=Value.float b t from r);cases e;rfl
 |ref a=>cases (show u=Value.ref a from r);rfl
 |ty n=>cases (show u=Value.type n from r);rfl
def Ik(K:kN)(C:kM)(f:Str):Prop:=PySem.W.findIn K (.ref C) f=some none
section
variable {X:Cx}{aa:oA<|kM×kT}{σ:St}{H:Hp}{s:kK}{a C dx:kM}{fs:oA<|Str×V}{f:Str}{v:V}{A:kR}{E:kJ->kK->Prop}{e:kQ}{es:oA kQ}{te:TE}{t:TA}{pos:Pos}{s':kK}
def EO{prog:kO}{w:kP}{env:Env}{e:kQ}{f:Str}{pos:Pos}{s:kK}{Q:kJ->kK->Prop}(hb:attributeBase e f env (eval e env)=eval e env)
  (h:qX prog w A (eval e env) (λo b=>qX prog w A (getAttr o f true) Q E b) E s):qX prog w A (eval (.Attribute e f pos) env) Q E s :=
 Attribute_any_ h (by rw[arm_eval_Attribute,hb])
structure Room(k:Nat)(A:kR):Prop where
 hd:A.handled=none
 dp:A.depth+3*k+5<recursionLimit
 un:A.units+16*k+200<cLine
 gd:A.guards=some []
def Room.mono{j k:Nat}{A:kR}(r:Room k A)(h:j<=k):Room j A:=⟨r.hd,by have:=r.dp;omega,by have:=r.un;omega,r.gd⟩
def Room.deeper{k:Nat}{A:kR}(r:Room (k+1) A)(env:Env):Room k (A.deeper env) :=
 ⟨r.hd,by have:=r.dp;show A.depth+1+3*k+5<_;omega,by have:=r.un;show A.units+3+16*k+200<_;omega,r.gd⟩
def Sc{A:kR}{C:kM}{b:oA kJ}{c:oA<|Str×kJ}:(A.under<|.builtin "type.__call__" ⟨.ref C::b,c⟩).depth=A.depth+1:=by
 first|rfl|simp[Around.under,Code.weight,Code.isCreation,Code.isGuard,Code.isCaller,Code.frames,Code.isFrame,guardIds]
def Sd{A:kR}{C:kM}{b:oA kJ}{c:oA<|Str×kJ}:(A.under<|.builtin "type.__call__" ⟨.ref C::b,c⟩).units=A.units+1:=by
 first|rfl|simp[Around.under,Code.cUnits,Code.frames,Code.isFrame]
def Room.make{k:Nat}{A:kR}(r:Room (k+1) A)(C:kM)(c:oA kJ)(b:oA<|Str×kJ):Room k (A.under<|.builtin "type.__call__" ⟨.ref C::c,b⟩) :=
 ⟨r.hd,by have:=r.dp;rw[Sc];omega,by have:=r.un;rw[Sd];omega,r.gd⟩
def Room.depth{k:Nat}{A:kR}(r:Room k A):A.depth<recursionLimit:=by have:=r.dp;omega
def Room.units{k:Nat}{A:kR}(r:Room k A):A.units+64<cLine:=by have:=r.un;omega
def YR:TA:=λ_ H Q=>Q [] H
def RK(h:TE)(b:TA):TA:=λσ H Q=>h σ H λx c=>b σ c λg d=>Q (x::g) d
def Yq:PA X [] YR:=λ_ _ _ _ H Q I h=>bA ⟨[],H,I,.nil,h⟩
def T7(ha:PE X e te)(p:PA X es t)(hs:starEach (e::es) X.env=(false,eval e X.env)::starEach es X.env:=by rfl):PA X (e::es) (RK te t):=by intro pos aa s σ H Q I h;rw[hs];show wpAny _ _ (spliced<|(false,eval e X.env)::backTo pos (starEach es X.env)) _ _ s;refine aK<|thn (ha aa s σ H _ I h) λu c b=>Cs b λx m g d i=>?_;exact thn (p pos aa c σ m _ g i) λw r o=>Cs o λq n j k l=>⟨x::q,n,j,.cons d k,l⟩
def YS(t:TA):TE:=λσ H Q=>t σ H λc b=>c.length<=sizeLine/\∀p,b p=none->Q (.ref p) (upd b p<|.tup c)
def YT(t:TA):TE:=λσ H Q=>t σ H λc b=>c.length<=sizeLine/\∀p,b p=none->Q (.ref p) (upd b p<|.lst c)
def Yr{x1}(h:PA X es t):PE X (.Tuple es x1 pos) (YS t):=by intro aa s σ H Q I hq;refine wpAny_Tuple_spliced (thn (h pos aa s σ H _ I hq) λi c ⟨j,d,g,r,z,q⟩=>⟨by rw[<- r.length];exact z,?_⟩);have hf:d c.heap.objs.size=none:=g.hok.fresh<|H_ _;refine⟨.ref c.heap.objs.size,upd d c.heap.objs.size<|.tup j,g.laid (t':=c.toks) (λb u e=>C_ _ e) (H_ _) ?_,rfl,q _ hf⟩;exact⟨⟨z,.inl<|IK.new _ rfl⟩,i,r,⟨_,I_ _ rfl,rfl,_,rfl⟩⟩
def LQ(h:PA X es t):PE X (.List es pos) (YT t):=by intro aa s σ H Q I hq;refine wpAny_List_spliced (thn (h pos aa s σ H _ I hq) λi c ⟨j,d,g,r,z,q⟩=>⟨by rw[<- r.length];exact z,?_⟩);have hf:d c.heap.objs.size=none:=g.hok.fresh<|H_ _;refine⟨.ref c.heap.objs.size,upd d c.heap.objs.size<|.lst j,g.laid (t':=c.toks) (λb u e=>C_ _ e) (H_ _) ?_,rfl,q _ hf⟩;exact⟨z,i,0,r,I_ _ rfl⟩
abbrev Sp:=oA V->Hp->VK->XK->Prop
abbrev CXT:=oA Env->Hp->kK->XK->kJ->kK->Prop
structure Env0(P:kO)(w:kP)(K:kN)(mg:Str->oB kJ)(base:kS)(A:kR)(outer:oA Env)(s:kK)(H:Hp):Prop where
 frames:A.frames=some outer
 mod:Mod K mg base
 bs:∀b o,base.get? b=some o->s.heap.get? b=some o/\H b=none
 bsz:base.objs.size<=s.heap.objs.size
 funs:s.heap.FunFrames base outer
 frf:∀b∈frs outer,H b=none
 hok:HOk P w H s.heap
 bare:AllBare s.gens
 tk:0<s.toks
def CE(outer:oA Env)(P:kO)(w:kP)(H:Hp)(s:kK)(Q:VK)(u:kJ)(s':kK):Prop :=
 ∃v b,s'.os=s.os/\0<s'.toks/\AllBare s'.gens/\Un (frs outer) [] H b s.heap s'.heap/\HOk P w b s'.heap/\Bp v u/\Q v b
def CR(CX:CXT)(outer:oA Env)(P:kO)(w:kP)(H:Hp)(s:kK)(Q:VK)(E:XK)(r:kZ)(s':kK):Prop :=
 match r with
 |.ok (.ret u)=>CE outer P w H s Q u s'
 |.ok _=>False
 |.error e=>CX outer H s E e s'
structure FnOk(P:kO)(w:kP)(K:kN)(mg:Str->oB kJ)(base:kS)(CX:CXT)(k:Nat)(f:kM)(fd:kW)(ps:oA Str)(sp:Sp):Prop where
 len:∀vs H Q E,sp vs H Q E->vs.length=ps.length
 run:∀(A:kR) (outer:oA Env) (s:kK) (H:Hp) (args:Args) (us:oA kJ) (vs:oA V) (Q:VK) (E:XK),Room k A->Env0 P w K mg base A outer s H->BindsTo s fd args (ps.zip us)->Vals vs us->sp vs H Q E ->
  codeAny (model P w) A (.call (.ref f) args) (CR CX outer P w H s Q E) s
def FnOk.mono{P:kO}{w:kP}{K:kN}{mg:Str->oB kJ}{base:kS}{CX:CXT}{j k:Nat}{f:kM}{d:kW}{ps:oA Str}{sp:Sp}(F:FnOk P w K mg base CX j f d ps sp)(h:j<=k) :
  FnOk P w K mg base CX k f d ps sp:=⟨F.len,λA b s H c i g Q E l=>F.run A b s H c i g Q E<|l.mono h⟩
def FnOk.imp{P:kO}{w:kP}{K:kN}{mg:Str->oB kJ}{base:kS}{CX:CXT}{k:Nat}{f:kM}{i:kW}{ps:oA Str}{sp d:Sp}(F:FnOk P w K mg base CX k f i ps sp)
  (h:∀c H Q E,d c H Q E->sp c H Q E):FnOk P w K mg base CX k f i ps d :=
 ⟨λc H Q E q=>F.len c H Q E<|h _ _ _ _ q,λA b s H g l c Q E m he hb hv j=>F.run A b s H g l c Q E m he hb hv<|h _ _ _ _ j⟩
def Env0.make{P:kO}{w:kP}{K:kN}{mg:Str->oB kJ}{base:kS}{A:kR}{outer:oA Env}{s:kK}{H:Hp}(e:Env0 P w K mg base A outer s H)(C:kM)(c:oA kJ)(b:oA<|Str×kJ) :
  Env0 P w K mg base (A.under<|.builtin "type.__call__" ⟨.ref C::c,b⟩) outer s H:=⟨by first|exact e.frames|(simpa [Around.under,Code.envs,Code.isFrame,pushEnvs] using e.frames),e.mod,e.bs,e.bsz,e.funs,e.frf,e.hok,e.bare,e.tk⟩
def Inv.env0(I:Inv X aa σ H s):Env0 X.prog X.w X.K X.mg X.base X.A X.stack s H :=
 ⟨I.ok.frames,I.ok.mod,I.bs,Q_ I.ok.bsz I.sz,I.stack,I.stkFree,I.hok,I.bare,I.tk⟩
def Inv.after{Q:VK}{u:kJ}(I:Inv X aa σ H s)(h:CE X.stack X.prog X.w H s Q u s'):EP X aa σ Q u s':=by obtain⟨v,k,os,n,c,l,i,r,q⟩:=h;obtain⟨m,g,d,t,j⟩:=s';obtain rfl:j=s.os:=os;exact⟨v,k,I.call (h':=m) (g':=g) (d':=d) (t':=t) (ch:=[]) l i c (λb z=>absurd z<|by simp) n,r,q⟩
end
def RL(sp:Sp)(d:oA V)(E:XK)(t:TA):TE:=λa H Q=>t a H λc b=>sp (c++d) b Q E
def Binds(K:kN)(b:kW)(ps:oA Str)(ds:oA kJ):Prop :=
 ∀(s:kK) (a:oA kJ),K.In s.heap->(a++ds).length=ps.length->BindsTo s b ⟨a,[]⟩ (ps.zip<|a++ds)
def Binds.all{K:kN}{c:kW}{ps:oA Str}(h:∀a:oA kJ,a.length=ps.length->bindArgs c ⟨a,[]⟩=pure (ps.zip a)):Binds K c ps []:=λs a _ b=>by rw[cX]at b ⊢;exact .of_eq<|h a b
def Passes(CX:CXT)(X:Cx)(E:XK):Prop:=∀(c:oA<|kM×kT) (b:St) (H:Hp) (s:kK) (e:kJ) (a:kK),Inv X c b H s->CX X.stack H s E e a->X.xe e a
section
variable {X:Cx}{CX:CXT}{k:Nat}{f C:kM}{fd:kW}{ps:oA Str}{sp:Sp}{n9:oA V}{ds:oA kJ}{E:XK}{x m:Str}{p pos cu:Pos}{e o:kQ}{es:oA kQ}{ta:TE}{t:TA}{id T:String}{r:oA V->Hp->VK->Prop}
def LR{b:oA<|kM×kT}{c:St}{H:Hp}{s:kK}{Q:VK}{a:oA kJ}{vs:oA V}(F:FnOk X.prog X.w X.K X.mg X.base CX k f fd ps sp)(j:Room k X.A)(hb:Binds X.K fd ps ds)(hd:Vals n9 ds)(hx:Passes CX X E) (I:Inv X b c H s) (r:Vals vs a) (h:sp (vs++n9) H Q E):qX X.prog X.w X.A (call (.ref f) a) (EP X b c Q) X.xe s:=by
 have d:Vals (vs++n9) (a++ds):=r.append hd;have i:(a++ds).length=ps.length:=by rw[<- d.length];exact F.len _ _ _ _ h
 refine jK<|fU (F.run X.A X.stack s H ⟨a,[]⟩ (a++ds) (vs++n9) Q E j I.env0 (hb s a I.kIn i) d h) λr g hq=>?_;cases r with
 |error e=>exact hx b c H s e g I hq
 |ok fl=>
  cases fl with
  |ret u=>exact I.after hq
  |next=>exact False.elim hq
  |brk=>exact False.elim hq
  |cont=>exact False.elim hq
def T8(F:FnOk X.prog X.w X.K X.mg X.base CX k f fd ps sp)(i:Room k X.A)(d:Gl X x)(hm:X.mg x=some (.ref f))(hk:PySem.W.keepIn X.K (.ref f)=true)(hb:Binds X.K fd ps ds)(hd:Vals n9 ds)(hx:Passes CX X E)
  (ha:PA X (e::es) t) (hdb:(x==("__debug__" : Str))=false:=by decide) (he:starEach (e::es) X.env=(false,eval e X.env)::starEach es X.env:=by rfl) (hpl:(backTo pos<|starEach es X.env).any (·.1)=false:=by rfl) :
  PE X (.Call (.Name x p) (e::es) [] pos) (RL sp n9 E t):=by
 intro b s g H Q I h;refine aP<|Hh I d hm ?_ hdb;refine PySem.W.callWith_K (h₀:=X.base) I.ok.mod.kin hk (thn (ha pos b s g H _ I h) λu j c=>Cs c λn l a r q=>⟨a.kIn,?_⟩) he hpl;exact LR F i hb hd hx a r q
structure FnScope(N P:oA Str)(sc:kX):Prop where
 kind:sc.kind=.function
 co:sc.isCoroutine=false
 gen:sc.isGenerator=false
 nd:N.Nodup
 pre:N.take P.length=P
 par:∀x∈P,sc.names.lookup x=some .local\/sc.names.lookup x=some .cell
 nofree:∀y∈sc.names,y.2≠.free
theorem M0{kindOf:Str->oB kY}{x:Str}:∀{a:oA<|Str×kJ} {m:Str->oB kJ},(∀v,(x,v)∉a)->bindL kindOf a m x=m x
 |[],_,_=>rfl
 | (n,v)::r,m,h=>by
  unfold bindL;rw[M0 λw b=>h w<|K_ _ b];split;have:x≠n:=by rintro rfl;exact h v V_
  simp[this]
  rfl
theorem M1{kindOf:Str->oB kY}{x:Str}:∀{a:oA<|Str×kJ} {m:Str->oB kJ},(∀v,(x,v)∉a)->bindC kindOf a m x=m x
 |[],_,_=>rfl
 | (n,v)::r,m,h=>by
  unfold bindC;rw[M1 λw b=>h w<|K_ _ b];split
  rfl
  have:x≠n:=by rintro rfl;exact h v V_
  simp[this]
theorem M3{kindOf:Str->oB kY}{x:Str}{v:kJ}:∀{P:oA Str} {vs:oA kJ} {i:Nat} {m:Str->oB kJ},P.Nodup->P[i]?=some x->vs[i]?=some v->kindOf x=some .local ->
  bindL kindOf (P.zip vs) m x=some v
 |[],_,_,_,_,h,_,_=>by simp at h
 |_::_,[],_,_,_,_,h,_=>by simp at h
 |p::P,w::vs,0,m,nd,h1,h2,hk=>by simp at h1 h2;subst h1;subst h2;show bindL kindOf ((p,w)::P.zip vs) m p=_;unfold bindL;rw[M0 λv hv=>(eB.mp nd).1 (List.of_mem_zip hv).1,R_ hk];simp
 |p::P,w::vs,i+1,m,nd,h1,h2,hk=>by show bindL kindOf ((p,w)::P.zip vs) m x=_;unfold bindL;exact M3 (i:=i) (eB.mp nd).2 (by simpa using h1) (by simpa using h2) hk
theorem M4{kindOf:Str->oB kY}{x:Str}{v:kJ}:∀{P:oA Str} {vs:oA kJ} {i:Nat} {m:Str->oB kJ},P.Nodup->P[i]?=some x->vs[i]?=some v->kindOf x≠some .local ->
  bindC kindOf (P.zip vs) m x=some v
 |[],_,_,_,_,h,_,_=>by simp at h
 |_::_,[],_,_,_,_,h,_=>by simp at h
 |p::P,w::vs,0,m,nd,h1,h2,hk=>by simp at h1 h2;subst h1;subst h2;show bindC kindOf ((p,w)::P.zip vs) m p=_;unfold bindC;rw[M1 λv hv=>(eB.mp nd).1 (List.of_mem_zip hv).1,N_ hk];simp
 |p::P,w::vs,i+1,m,nd,h1,h2,hk=>by show bindC kindOf ((p,w)::P.zip vs) m x=_;unfold bindC;exact M4 (i:=i) (eB.mp nd).2 (by simpa using h1) (by simpa using h2) hk
def start(N:oA Str)(vs:oA V):St:=vs.map some++List.replicate (N.length-vs.length) none
def J5(CX:CXT)(P:kO)(w:kP)(K:kN)(mg:Str->oB kJ)(base:kS)(N:oA Str)(b:Str)(a:kX)(f:kM)(c:kJ)(A:kR)(outer:oA Env)(s:kK)(H:Hp)(E:XK):Cx where
 prog:=P
 w:=w
 K:=K
 mg:=mg
 base:=base
 A:=A.deeper (envOfC b a s.heap.objs.size f c)
 N:=N
 s₀:=s
 H₀:=H
 env:=envOfC b a s.heap.objs.size f c
 outer:=outer
 stack:=envOfC b a s.heap.objs.size f c::outer
 ex:=[]
 calm:=true
 fn:=λ_=>true
 pn:=[]
 xe:=λe g=>qX P w (A.deeper<|envOfC b a s.heap.objs.size f c) («leaving» (envOfC b a s.heap.objs.size f c) e) (λ_ d=>CX outer H s E e d) (λh d=>CX outer H s E h d) g
def Pq{a:kX}{n:Nat}{x:Str}(h:a.names.lookup x=some .cell):∃c,(cellsFrom n a.names []).lookup x=some c:=by have q:=PySem.W.cellsFrom_some a.names n []<|.inl h;exact bO.mp q
def Wj{CX:CXT}{P:kO}{w:kP}{K:kN}{mg:Str->oB kJ}{base:kS}{N ps:oA Str}{g:Str}{d:kX}{f:kM}{B:kJ}{A:kR}{outer:oA Env}{s F:kK}{H:Hp}{E:XK}{I:oA kJ}{vs:oA V}
  (S:FnScope N ps d) (hd:A.handled=none) (j:Env0 P w K mg base A outer s H) (hl:vs.length=ps.length) (r:Vals vs I)
  (x:InCallC s s.heap.objs.size (bindL (envOfC g d s.heap.objs.size f B).kindOf (ps.zip I) λ_=>none) (cellsFrom (s.heap.objs.size+1) d.names []) (bindC (envOfC g d s.heap.objs.size f B).kindOf (ps.zip I) λ_=>none) F) (M:0<F.toks) :
  Inv (J5 CX P w K mg base N g d f B A outer s H E) [] (start N vs) H F:=by
 have L:ps.length<=N.length:=by have:=cF List.length S.pre;rw[aD]at this;omega
 obtain⟨h1,Q,rfl,hk⟩:=x.done;have G:∀b:kM,b∉(J5 CX P w K mg base N g d f B A outer s H E).ex:=λb z=>absurd (show b∈([]:oA kM) from z) (by simp);refine⟨⟨j.mod,S.kind,rfl,rfl,H_ _,λy z c h1 h2=>?_,λy hy=>?_,λy c _ h=>?_,λ_=>hd,Around.frames_deeper j.frames,.inr ⟨rfl,rfl⟩,λb z=>absurd z<|G b,j.bs,j.bsz,λb _ _=>G b,λb z=>absurd z<|G b,j.funs,j.frf⟩,
  rfl,j.bare,Un.kept hk,⟨_,x.toInCall.ns,λi y v h1 h2 R=>?_⟩,λy c h=>⟨_,x.cell y c h⟩,j.hok.fresh<|H_ _,λy c h=>?_,λp hp=>absurd (show p∈([]:oA<|kM×kT) from hp)<|by simp,j.hok.kept hk,?_,M⟩
 exact name_of_addr x.apart (eX h1)<|eX h2
 have hy:d.names.lookup y=some .cell\/d.names.lookup y=some .free:=hy;rcases hy with hy|hy;exact Pq hy;exact absurd rfl<|S.nofree _<|eX hy;exact dN<|x.above y c<|eX h
 ·have D:i<vs.length:=by
   unfold start at h2;by_cases D:i<vs.length;exact D;rw[bK<|by simpa using D]at h2;rw[List.getElem?_replicate]at h2;split at h2<;>cases h2
  have ha:vs[i]?=some v:=by
   unfold start at h2;rw[cL<|by simpa using D,F_]at h2;cases e:vs[i]? with
   |none=>rw[e]at h2;cases h2
   |some a=>rw[e]at h2;cases h2;rfl
  obtain⟨u,J,O⟩:=r.get ha;have hp:ps[i]?=some y:=by rw[<- S.pre,List.getElem?_take_of_lt<|by omega];exact h1
  have l:ps.Nodup:=by rw[<- S.pre];exact S.nd.sublist<|List.take_sublist _ _
  refine⟨u,O,?_⟩;rcases S.par y (aB hp) with k|k;exact .inl ⟨k,M3 l hp J k⟩;obtain⟨c,e⟩:=Pq (n:=s.heap.objs.size+1) k;refine .inr ⟨.inl k,c,e,?_⟩;have q:=x.cell y c e;rw[M4 l hp J<|by show d.names.lookup y≠_;rw[k];decide]at q;exact q
 exact j.hok.fresh<|dN<|x.above y c<|eX h
 unfold start;show _=N.length;rw[J_,B_,List.length_replicate];omega
def IN{CX:CXT}{P:kO}{w:kP}{K:kN}{mg:Str->oB kJ}{base:kS}{k:Nat}{f:kM}{name c:Str}{d:Arguments}{g:oA kU}{a:kX}{U kV R L i ct oc:kJ}{O od:oB kM}
  {n4:oC<|oB kJ} {N ps:oA Str} {sp:Sp} (lk:K.lookup f=some ⟨oc,od,.func<|PySem.W.fnOf name c d g a U kV R L O i ct,n4⟩) (gx:PySem.W.codeIn K i c=true) (S:FnScope N ps a)
  (len:∀vs H Q E,sp vs H Q E->vs.length=ps.length)
  (de:∀(A:kR) (outer:oA Env) (s:kK) (H:Hp) (vs:oA V) (Q:VK) (E:XK),Room k (A.deeper<|envOfC c a s.heap.objs.size f i)->sp vs H Q E ->
   ∃t,PSs (J5 CX P w K mg base N c a f i A outer s H E) g t/\t {nx:=λ_ H'=>Q .non H',rt:=Q} (start N vs) H) :
  FnOk P w K mg base CX (k+1) f (PySem.W.fnOf name c d g a U kV R L O i ct) ps sp:=by
 refine⟨len,λA outer s H M us vs Q E D j hb r Z=>?_⟩;have hl:=len _ _ _ _ Z;have Y:K.In s.heap:=j.mod.kin.keeps λb o e=>(j.bs b o e).1;have F:s.heap.NoLimit:=j.mod.nolimit.keeps λb o e=>(j.bs b o e).1;have wn:∀y∈ps.zip us,a.names.lookup y.1=some .local\/(a.names.lookup y.1=some .cell/\((cellsFrom (s.heap.objs.size+1) a.names []).lookup y.1).isSome=true):=λ⟨n,v⟩ hy=>by rcases S.par n (List.of_mem_zip hy).1 with q|q;exact .inl q;exact .inr ⟨q,PySem.W.cellsFrom_some _ _ _<|.inl q⟩
 refine codeAny_call_function D.depth (Y _ _ lk) rfl S.co S.gen rfl (PySem.W.codeRec_of Y gx)<|hb _ _ _ _ ?_;refine wtk j.tk<|wpAny_newFunctionEnv_cells S.kind wn λenv he G x bf=>?_;subst he;refine⟨F.keeps x.toInCall.keep,codeAny_func ?_⟩;obtain⟨t,ht,hq⟩:=de A outer s H vs Q E (D.deeper _) Z;have I:Inv (J5 CX P w K mg base N c a f i A outer s H E) [] (start N vs) H G:=Wj S D.hd j hl r x bf;refine a_ (ht [] G (start N vs) H _ I hq) (λfl B l=>?_) λe B l=>l;have fin:∀{h:St} {H':Hp} {v:V} {u:kJ},Inv (J5 CX P w K mg base N c a f i A outer s H E) [] h H' B->Bp v u->Q v H'->CE outer P w H s Q u B :=
  λ{h H' v u} J z q=>⟨v,H',J.os,J.tk,J.bare,J.base,J.hok,z,q⟩
 cases fl with
 |ret u=>obtain⟨v,h,H',J,z,q⟩:=l;exact fin J z q
 |next=>obtain⟨h,H',J,q⟩:=l;exact fin (v:=V.non) (u:=Value.none) J rfl q
 |brk=>obtain⟨_,_,_,q⟩:=l;exact False.elim q
 |cont=>obtain⟨_,_,_,q⟩:=l;exact False.elim q
def YU(r:oA V->Hp->VK->Prop)(t:TA):TE:=λc H Q=>t c H λb a=>r b a Q
def Ys(hc:Gc X (.builtin id) r)(g:Gl X x)(hm:X.mg x=none)(hv:bootBuiltins x=some (.builtin id))(ha:PA X (e::es) t)(i:x ≠ "__name__" := by decide) (hdb:(x==("__debug__" : Str))=false:=by decide)
  (he:starEach (e::es) X.env=(false,eval e X.env)::starEach es X.env:=by rfl) (hpl:(backTo pos<|starEach es X.env).any (·.1)=false:=by rfl):PE X (.Call (.Name x p) (e::es) [] pos) (YU r t):=by
 intro a s b H Q I h;refine aP<|Ce I g hm hv ?_ i hdb;exact bP (thn (ha pos a s b H _ I h) λu c l=>Cs l λq n v d j=>hc a c b n q u Q v d j) he hpl
def Wl(hc:Gc X (.type T) r)(i:Gl X x)(hm:X.mg x=none)(hv:bootBuiltins x=some (.type T))(ha:PA X (e::es) t)(j:x ≠ "__name__" := by decide) (hdb:(x==("__debug__" : Str))=false:=by decide)
  (he:starEach (e::es) X.env=(false,eval e X.env)::starEach es X.env:=by rfl) (hpl:(backTo pos<|starEach es X.env).any (·.1)=false:=by rfl):PE X (.Call (.Name x p) (e::es) [] pos) (YU r t):=by
 intro a s b H Q I h;refine aP<|Ce I i hm hv ?_ j hdb;exact aZ (thn (ha pos a s b H _ I h) λu c g=>Cs g λq n v d l=>hc a c b n q u Q v d l) he hpl
end
end L2
namespace HT
open PySem PyProof.Rows
section
open PySem.SeqAt
open PySem.AutoSeq1 (wpAny_loadPart')
open PySem.MeetsSeq PySem.MeetsSeq2 PySem.MeetsSeq3
end
section
variable {prog:kO}{w:kP}{A:kR}{E:kJ->kK->Prop}{s:kK}
def cat_tup{t b:kM}{vs ws:oA kJ}{Q:kJ->kK->Prop}(m:IsTup s.heap t vs.toArray)(hb:IsTup s.heap b ws.toArray)(hv:vs≠[])
  (h1:ws=[]->Q (.ref t) s) (h2:ws≠[]->Q (.ref s.heap.objs.size) {s with heap:=s.heap.push {cls:=.type "tuple",data:=.seq (vs++ws).toArray}})
  (hsz:vs.length+ws.length<=sizeLine):qX prog w A (binaryOp .Add (.ref t)<|.ref b) Q E s:=by
 obtain⟨⟨cls,dd,data,j⟩,f,hc,n,hd⟩:=id m;obtain⟨⟨h,a,data2,k⟩,c,g,l,i⟩:=id hb;simp only at hc hd g i;subst hc hd g i;have e:vs.toArray++ws.toArray=(vs++ws).toArray:=by simp
 by_cases d:ws=[];exact concat_meets ⟨_,f,rfl⟩ ⟨_,c,rfl⟩ jW seq_tuple_add gX gU (gD _ _)
  (tuple_addW1 t b vs.toArray ws.toArray n l dd a j k (by simpa using hv)<|by simp[d]) ⟨f,c,h1 d⟩
 refine concat_meets ⟨_,f,rfl⟩ ⟨_,c,rfl⟩ jW seq_tuple_add gX gU (gD _ _)
  (tuple_addW2 t b vs.toArray ws.toArray n l dd a j k (by simpa using hv) (by simpa using d)<|by rw[T_,T_];exact hsz) ⟨f,c,?_⟩
 rw[e];exact h2 d
def sIx(n d:Nat):oB Int->Nat
 |none=>d
 |some v=>if v<0 then(v+(n:Int)).toNat else min v.toNat n
def sIx_none(n d:Nat):sIx n d none=d:=rfl
def sIx_nat(n d k:Nat):sIx n d (some (k:Int))=min k n:=by show(if(k:Int)<0 then((k:Int)+(n:Int)).toNat else min (k:Int).toNat n)=min k n;rw[N_<|by omega,gY]
def LU(n d:Nat)(hd:d<=n)(o:oB Int):sIx n d o<=n:=by
 cases o with
 |none=>exact hd
 |some v=>show(if v<0 then(v+(n:Int)).toNat else min v.toNat n)<=n;by_cases hv:v<0;rw[R_ hv];omega;rw[N_ hv];exact fV _ _
def T9(v:Int)(n d:Nat):(if v<0 then max (v+(n:Int)) 0 else min v (n:Int))=((sIx n d (some v):Nat):Int):=by show(if v<0 then max (v+(n:Int)) 0 else min v (n:Int))=(((if v<0 then(v+(n:Int)).toNat else min v.toNat n):Nat):Int);by_cases hv:v<0;simp only[if_pos hv];omega;simp only[if_neg hv];omega
def Se(lo a:oB Int)(n:Nat):Builtin.Slice.sliceAdjust lo a 1 (n:Int)=(((sIx n 0 lo:Nat):Int),((sIx n n a:Nat):Int)):=by
 have h1:¬((1:Int)<0):=by omega
 unfold Builtin.Slice.sliceAdjust;simp only[h1,if_false];refine Prod.ext ?_ ?_
 ·cases lo with
  |none=>rfl
  |some v=>exact T9 v n 0
 ·cases a with
  |none=>rfl
  |some v=>exact T9 v n n
def Sf(i j:Nat):Builtin.Slice.slicePlaces (i:Int) (j:Int) 1=j-i:=by
 unfold Builtin.Slice.slicePlaces;have h1:(1:Int)>0:=by omega
 simp only[h1,if_true,Int.ediv_one];split<;>omega
def Kv{v:kJ}{o:oB Int}{Q:oB Int->kK->Prop}(p:IsPart v o)(h:Q o s):qX prog w A (Builtin.Slice.slicePartIndex v) Q E s:=by
 cases p with
 |none=>exact slicePart_none h
 |int i t=>exact slicePart_int h
def Fc{f:kM}{e d:kJ}{lo a:oB Int}{n:Nat}{Q:Int×Int×Nat->kK->Prop}(hs:s.heap.IsSliceOf f e d .none)(pl:IsPart e lo)(i:IsPart d a)
  (h:Q (((sIx n 0 lo:Nat):Int),1,sIx n n a-sIx n 0 lo) s):qX prog w A (Builtin.Slice.sliceApplied (.ref f)<|pure (n:Int)) Q E s:=by
 obtain⟨os,b,g,c⟩:=id hs;unfold Builtin.Slice.sliceApplied Builtin.Slice.sliceFields;refine A_<|A_<|bJ b c (x:=e) rfl<|A_<|bJ b c (x:=d) rfl<|A_<|bJ b c (x:=.none) rfl<|DD ?_;refine A_<|slicePart_none ?_;show wpAny _ _ (if((1:Int)==0)=true then _ else _) _ _ s;rw[N_<|by decide];refine A_<|Kv pl<|A_<|Kv i<|A_<|DD ?_;show wpAny _ _ (match Builtin.Slice.sliceAdjust lo a 1 (n:Int) with|(lo,a)=>pure (lo,(1:Int),Builtin.Slice.slicePlaces lo a 1)) _ _ s;rw[Se lo a n];show wpAny _ _ (pure (((sIx n 0 lo:Nat):Int),(1:Int),Builtin.Slice.slicePlaces ((sIx n 0 lo:Nat):Int) ((sIx n n a:Nat):Int) 1)) _ _ s;rw[Sf];exact DD h
def Yt(xs:oC kJ)(i k:Nat):((List.range k).filterMap λ(m:Nat)=>xs[((i:Int)+(m:Int)*1).toNat]?).toArray=((xs.toList.drop i).take k).toArray:=by
 have e:(λ(m:Nat)=>xs[((i:Int)+(m:Int)*1).toNat]?)=λm=>xs[i+m]?:=by
  funext m
  have:((i:Int)+(m:Int)*1).toNat=i+m:=by omega
  rw[this]
 rw[e];have:=pick_run xs i k;rw[List.filterMap_map]at this;have a:((λx=>xs[x]?) ∘ λx=>i+x)=λm=>xs[i+m]?:=rfl;rw[a]at this;rw[this]
def getItem_tuple_cut{t f:kM}{items:oC kJ}{i g:kJ}{lo a:oB Int}{Q:kJ->kK->Prop}(b:IsTup s.heap t items)(hs:s.heap.IsSliceOf f i g .none)(pl:IsPart i lo)(n:IsPart g a)
  (k:¬(sIx items.size 0 lo=0/\sIx items.size items.size a=items.size))
  (h:Q (.ref s.heap.objs.size) {s with heap:=s.heap.push {cls:=.type "tuple",data:=.seq ((items.toList.drop<|sIx items.size 0 lo).take<|sIx items.size items.size a-sIx items.size 0 lo).toArray}})
  (hsz:items.size<=sizeLine):qX prog w A (getItem (.ref t)<|.ref f) Q E s:=by
 have c:sizeOk (.seq ((items.toList.drop<|sIx items.size 0 lo).take<|sIx items.size items.size a-sIx items.size 0 lo).toArray):=by show((items.toList.drop<|sIx items.size 0 lo).take<|sIx items.size items.size a-sIx items.size 0 lo).toArray.size<=sizeLine;rw[T_,aD,aH,aO];omega
 have hj:sIx items.size items.size a<=items.size:=LU _ _ (H_ _) a;obtain⟨os,d,e,l⟩:=id hs;have o:s.TypeIs (.ref f) "slice" := ⟨os,d,e⟩;unfold getItem
 try with_reducible refine aT ?_
 first|refine A_ (DD ?_)|skip
 refine A_ (wpAny_sequenceKey b.typeIs (by decide) ?_);refine A_<|cH (name:=Str.ofString "__getitem__") b.typeIs bZ
  (bQ bZ b.typeIs entry_tuple_getitem ?_<|args_tuple_getitem _ _)
 show wpAny _ _ (Builtin.Tuple.tupleItemsOf (.ref t)>>=_) _ _ s;refine A_<|tupleItemsOf_ b ?_;refine A_<|gZ o ?_;rw[R_<|by decide];refine A_<|Fc hs pl n ?_;have j:¬((((sIx items.size 0 lo:Nat):Int)==0&&(1:Int)==1&&(sIx items.size items.size a-sIx items.size 0 lo)==items.size)=true):=by intro q;rw[bL,bL]at q;have p:((sIx items.size 0 lo:Nat):Int)=0:=eq_of_beq q.1.1;have r:sIx items.size items.size a-sIx items.size 0 lo=items.size:=eq_of_beq q.2;exact k ⟨by omega,by omega⟩
 show wpAny _ _ (if(((sIx items.size 0 lo:Nat):Int)==0&&(1:Int)==1&&(sIx items.size items.size a-sIx items.size 0 lo)==items.size)=true then _ else _) _ _ s;rw[N_ j,Yt]
 first
  |exact A_ (m:=Builtin.Tuple.tupleExact _) (bD (DD ⟨_,rfl,DD h⟩) c)
  |exact A_ (m:=Builtin.Tuple.tupleExact _) (bD (A_<|DD<|DD ⟨_,rfl,DD h⟩) c)
  |exact A_ (A_ (m:=Builtin.Tuple.tupleExact _)<|bD (DD<|DD ⟨_,rfl,DD h⟩) c)
  |exact A_<|A_ (m:=Builtin.Tuple.tupleExact _)<|bD (DD ⟨_,rfl,DD h⟩) c
end
end HT
namespace L2
open PySem PySem.Spec PyProof.Rows
abbrev TO:=St->Hp->(oB Int->Hp->Prop)->Prop
def PO(X:Cx)(e:oB kQ)(t:TO):Prop :=
 ∀(c:oA<|kM×kT) (s:kK) (a:St) (H:Hp) (Q:oB Int->Hp->Prop),Inv X c a H s->t a H Q ->
  qX X.prog X.w X.A (evalPart e X.env) (λu d=>∃o b,Inv X c a b d/\IsPart u o/\Q o b) X.xe s
def EQ:TO:=λ_ H Q=>Q none H
def RM(t:TE):TO:=λb H Q=>t b H λx a=>∃i,x=.int i/\Q (some i) a
section
variable {X:Cx}{e:kQ}{te:TE}{lo hi:oB kQ}{tl th:TO}{pos p2:Pos}{a b:kQ}{ta tb:TE}{o:kQ}{es:oA kQ}{to:TE}{t:TA}{name:Str}{cu bd:Pos}{T id:String}{r:V->oA V->Hp->VK->Prop}
def ER:PO X none EQ:=by intro d s c H Q I h;rw[evalPart_none];exact DD ⟨none,H,I,.none,h⟩
def ES(h:PE X e te):PO X (some e) (RM te):=by intro d s f H Q I l;rw[evalPart_some];refine thn (h d s f H _ I l) λu n g=>Cs g λx k m c j=>?_;obtain⟨i,rfl,q⟩:=j;obtain⟨t,rfl⟩:=c;exact⟨some i,k,m,.int i t,q⟩
def RN(X:Cx)(r:V->oB Int->oB Int->Hp->VK->Prop):Prop :=
 ∀(g:oA<|kM×kT) (s:kK) (c:St) (H:Hp) (x:V) (v h d:kJ) (lo hi:oB Int) (f:kM) (Q:VK),Inv X g c H s->Bp x v->s.heap.IsSliceOf f h d .none->IsPart h lo->IsPart d hi->r x lo hi H Q ->
  ∃T id,typeLookup (.type T) "__getitem__" = pure (some<|.builtin id)/\s.TypeIs v T/\qX X.prog X.w X.A (getItem v<|.ref f) (EP X g c Q) X.xe s
def tSl(r:V->oB Int->oB Int->Hp->VK->Prop)(te:TE)(tl th:TO):TE:=λc H Q=>te c H λx d=>tl c d λl f=>th c f λu g=>r x l u g Q
def Yu{r:V->oB Int->oB Int->Hp->VK->Prop}(J:RN X r)(he:PE X e te)(hl:PO X lo tl)(y:PO X hi th):PE X (.Subscript e (.Slice lo hi none p2) pos) (tSl r te tl th):=by intro d s f H Q I h;refine Subscript_<|thn (he d s f H _ I h) λv m n=>Cs n λx W G P U=>?_;refine wpAny_Slice<|thn (hl d m f W _ G U) λi p R=>Cs R λl E B C D=>thn (y d p f E _ B D) λg c k=>Cs k λu j N F L=>?_;rw[evalPart_none];refine DD ?_;have S:Inv X d f j {c with heap:=c.heap.push {cls:=.type "slice",data:=.fields #[i,g,.none]}}:=N.kept (t':=c.toks) λb Y q=>C_ _ q;obtain⟨T,id,M,O,z⟩:=J d {c with heap:=c.heap.push {cls:=.type "slice",data:=.fields #[i,g,.none]}} f j x v i g l u c.heap.objs.size Q S P (Heap.IsSliceOf.new ..) C F L;show qX X.prog X.w X.A (subscriptTail e (.Slice lo hi none p2) v<|.ref c.heap.objs.size) (EP X d f Q) X.xe {c with heap:=c.heap.push {cls:=.type "slice",data:=.fields #[i,g,.none]}};exact tail_any (ops:=[.ref c.heap.objs.size,v]) O M z<|by with_unfolding_all rfl
def Mk(xs:oA V)(lo hi:oB Int):oA V:=(xs.drop<|HT.sIx xs.length 0 lo).take<|HT.sIx xs.length xs.length hi-HT.sIx xs.length 0 lo
def Jj(xs:oA V)(lo hi:oB Int):(Mk xs lo hi).length<=xs.length:=by unfold Mk;rw[aD,aH];omega
def YV(K:kN):V->oB Int->oB Int->Hp->VK->Prop:=λx lo hi H Q=>∃a c,x=.ref a/\Ii K H a c /\
 ¬(HT.sIx c.length 0 lo=0/\HT.sIx c.length c.length hi=c.length)/\∀p,H p=none->Q (.ref p) (upd H p<|.tup<|Mk c lo hi)
def LW:RN X (YV X.K):=by
 intro p s w H x v z n lo hi y Q I k i j m h;obtain⟨a,c,rfl,hx,l,q⟩:=h;cases k;obtain⟨g,r,f,hz⟩:=I.tuple hx;have d:g.toArray.size=c.length:=by rw[T_];exact r.length.symm
 refine⟨"tuple",_,bZ.lookup,f.typeIs,?_⟩;refine HT.getItem_tuple_cut f i j m (by rw[d];exact l) ?_ (by rw[d];exact hz);rw[d];refine⟨.ref s.heap.objs.size,_,I.laid (t':=s.toks) (o:=.tup<|Mk c lo hi) (λb u q=>C_ _ q) (H_ _) ?_,rfl,q _<|I.hok.fresh<|H_ _⟩;exact⟨⟨Q_ (Jj c lo hi) hz,.inl<|IK.new _ rfl⟩,_,(r.drop<|HT.sIx c.length 0 lo).take<|HT.sIx c.length c.length hi-HT.sIx c.length 0 lo,IsTup.new _ _⟩
def Vals.nil_iff{xs:oA V}{c:oA kJ}(r:Vals xs c):c=[]↔xs=[]:=by
 cases r with
 |nil=>simp
 |cons _ _=>simp
def Ua(n:Nat)(i:Int):oB Nat:=if 0<=i then(if i<n then some i.toNat else none) else if -(n:Int)<=i then some (i+n).toNat else none
def atI{c:Type}(xs:oA c)(i:Int):oB c:=(Ua xs.length i).bind λj=>xs[j]?
def Ub{n:Nat}{i:Int}{j:Nat}(h:Ua n i=some j):seqIndex? i n=some j/\j<n/\-(n:Int)<=i/\i<n:=by unfold Ua at h;by_cases c:0<=i;rw[R_ c]at h;by_cases h1:i<n;rw[R_ h1]at h;have e:i.toNat=j:=aE h;exact⟨by rw[seqIndex_of c h1,e],by omega,by omega,h1⟩;rw[N_ h1]at h;cases h;rw[N_ c]at h;by_cases h1:-(n:Int)<=i;rw[R_ h1]at h;have e:(i+n).toNat=j:=aE h;exact⟨by rw[seqIndex_neg (by omega) h1,e],by omega,h1,by omega⟩;rw[N_ h1]at h;cases h
def Of{c:Type}{xs:oA c}{i:Int}{v:c}(h:atI xs i=some v):∃j,seqIndex? i xs.length=some j/\xs[j]?=some v/\j<xs.length/\-(xs.length:Int)<=i/\i<xs.length:=by
 unfold atI at h;cases e:Ua xs.length i with
 |none=>rw[e]at h;cases h
 |some j=>rw[e]at h;obtain⟨h1,h2,f,d⟩:=Ub e;exact⟨j,h1,h,h2,f,d⟩
def Ak{c:Type}{xs:oA c}{j:Nat}{v:c}(h:xs[j]?=some v):atI xs (j:Int)=some v:=by
 have hj:j<xs.length:=(E_.mp h).1;have e:Ua xs.length (j:Int)=some j:=by unfold Ua;rw[R_<|by omega,R_<|by omega];simp
 unfold atI;rw[e];exact h
def Kw{c:Type}(xs:oA c)(v:c):atI (xs++[v]) (-1)=some v:=by
 have d:(xs++[v]).length=xs.length+1:=by simp
 have e:Ua (xs++[v]).length (-1)=some xs.length:=by unfold Ua;rw[d,N_<|by decide,R_<|by omega];congr 1;omega
 unfold atI;rw[e];show(xs++[v])[xs.length]?=some v;simp
def Uc(b:kQ):Prop:=∀o i,subscripted b false o i=operate [o,i] (getItem o i)
def RO(X:Cx)(r:R2):Prop :=
 ∀(d c:kQ) (g:oA<|kM×kT) (s:kK) (f:St) (H:Hp) (x y:V) (v u:kJ) (Q:VK),Inv X g f H s->Bp x v->Bp y u->r x y H Q ->
  subscripted c false v u=operate [v,u] (getItem v u)->qX X.prog X.w X.A (subscriptTail d c v u) (EP X g f Q) X.xe s
def RP(X:Cx)(id:String)(r:V->oA V->Hp->VK->Prop):Prop :=
 ∀(f:oA<|kM×kT) (s:kK) (c:St) (H:Hp) (x:V) (xs:oA V) (v:kJ) (d:oA kJ) (Q:VK),Inv X f c H s->Bp x v->Vals xs d->r x xs H Q ->
  qX X.prog X.w X.A (call (.builtin id)<|v::d) (EP X f c Q) X.xe s
def RQ{r:R2}(l:RO X r)(ha:PE X a ta)(hb:PE X b tb)(hs:Uc b):PE X (.Subscript a b pos) (RC r ta tb):=by intro c s f H Q I h;exact Subscript_<|LI ha hb I h λv u d x y j g k i q=>l a b c d f j x y v u Q g k i q<|hs _ _
def YW(K:kN):R2:=λx y H Q=>∃p c i v,x=.ref p/\y=.int i/\Fa K H p c/\atI c i=some v/\Q v H
def YX(K:kN):R2:=λx y H Q=>∃p c i v,x=.ref p/\y=.int i/\Ii K H p c/\atI c i=some v/\Q v H
def YY:R2:=λx y H Q=>∃z i c,x=.str z/\y=.int i/\z.length<=sizeLine/\atI z.cps.toList i=some c/\Q (.str ⟨#[c]⟩) H
def Ud:RO X (YW X.K):=by
 intro f d k s l H x y v u Q I G C h n;obtain⟨p,M,i,z,rfl,rfl,hq,he,q⟩:=h;cases G;obtain⟨t,rfl⟩:=C;obtain⟨F,r,c,hz⟩:=I.list hq;obtain⟨j,h1,h2,N,E,J⟩:=Of he;obtain⟨w,m,D⟩:=r.get h2;have B:=r.length;have L:=Ij;have fin:EP X k l Q w s:=⟨z,H,I,D,q⟩;by_cases g:0<=i;have hj:i.toNat=j:=by rw[seqIndex_of g J]at h1;exact aE h1
 exact item_listR c.isList g (by omega) (by rw[hj];simpa using m) fin n
 have hj:(i+(F.toArray.size:Int)).toNat=j:=by rw[seqIndex_neg (by omega) E]at h1;rw[T_,<- B];exact aE h1
 exact subscriptTail_builtinR (x:=w) c.isList.typeIs slot_list_getitem.lookup
  (wpAny_getItem_list_neg (Q:=λr A=>r=w/\EP X k l Q r A) c.isList (by omega) (by rw[T_]<;>omega) (by omega) (by rw[hj];simpa using m) ⟨rfl,fin⟩) n
def LX:RO X (YX X.K):=by
 intro d c f s g H x y v u Q I D n h C;obtain⟨p,F,i,z,rfl,rfl,hq,he,q⟩:=h;cases D;obtain⟨t,rfl⟩:=n;obtain⟨J,r,k,hz⟩:=I.tuple hq;obtain⟨j,h1,h2,L,G,M⟩:=Of he;obtain⟨w,B,A⟩:=r.get h2;have m:=r.length;have E:=Ij;have fin:EP X f g Q w s:=⟨z,H,I,A,q⟩;exact subscriptTail_builtinR (x:=w) k.typeIs slot_tuple_getitem.lookup
  (getItem_tuple (j:=j) (Q:=λr l=>r=w/\EP X f g Q r l) k (by omega) (by omega) (by rw[T_,<- m];exact h1) (by simpa using B) ⟨rfl,fin⟩) C
def LY:RO X YY:=by
 intro f d C s D H x y v u Q I p n h l;obtain⟨z,i,c,rfl,rfl,hz,he,q⟩:=h;obtain⟨t,rfl⟩:=p;obtain⟨F,rfl⟩:=n;obtain⟨j,h1,h2,B,k,A⟩:=Of he;have m:z.cps.toList.length=z.length:=by simp[Str.length]
 rw[m]at h1 k A;have E:=Ij;exact tail_any (gP s z t) slot_str_getitem.lookup (getItem_str (c:=c) (by
  have g:decide (i < -(2^63:Int))=false:=aF (by omega);have w:decide (i>=2^63)=false:=aF (by omega);rw[g,w,Bool.or_false]) (by rw[h1];simpa using h2) ⟨.str ⟨#[c]⟩,H,I.tok _,⟨⟨_,I.tz⟩,rfl⟩,q⟩) l
def Sg(c:oA kJ)(n j:Nat)(u:kJ):Obj.mapSeq (·.setIfInBounds j u) {cls:=.type "list",data:=.seq c.toArray n}={cls:=.type "list",data:=.seq (c.set j u).toArray n}:=by simp[Obj.mapSeq]
def Inv.lst{f:oA<|kM×kT}{d:St}{H:Hp}{s:kK}{p:kM}{xs:oA V}(I:Inv X f d H s)(h:H p=some (.lst xs)) :
  ∃(c:oA kJ) (n:Nat),Vals xs c/\s.heap.get? p=some {cls:=.type "list",data:=.seq c.toArray n}/\xs.length<=sizeLine:=by
 obtain⟨z,c,n,r,e⟩:=I.hok p _ h;exact⟨c,n,r,e,z⟩
def Inv.lstUpd{g:oA<|kM×kT}{i:St}{H:Hp}{s:kK}{p:kM}{xs ys:oA V}{d its':oA kJ}{n c:Nat}{f:kT->kT}(I:Inv X g i H s)(h:H p=some (.lst xs))
  (j:s.heap.get? p=some {cls:=.type "list",data:=.seq d.toArray n}) (hf:f {cls:=.type "list",data:=.seq d.toArray n}={cls:=.type "list",data:=.seq its'.toArray c}) (r:Vals ys its') (hz:ys.length<=sizeLine) (t:Nat) (k:0<t:=by first|exact aQ _|assumption|exact Inv.tk<|by assumption) :
  Inv X g i (upd H p<|.lst ys) {s with heap:=s.heap.update p f,toks:=t}:=by
 have e:(s.heap.update p f).get? p=some {cls:=.type "list",data:=.seq its'.toArray c}:=by rw[aX f j<|by rw[hf]<;>rfl,hf]
 refine I.write (x:=p) (e:=p) (by rw[h];trivial) (.inl rfl) (λb u hb q=>(aR _ _<|dA hb).trans q) ⟨_,e⟩ ?_;exact⟨hz,its',c,r,e⟩
def RS:V->V->V->Hp->(Hp->Prop)->Prop:=λo i v H Q=>∃p c k j,o=.ref p/\i=.int k/\H p=some (.lst c)/\Ua c.length k=some j/\Q (upd H p<|.lst<|c.set j v)
def Yv:PSet X RS:=by
 intro x s y H o i v F D u Q I z C A h;obtain⟨p,B,k,j,rfl,rfl,hp,hj,q⟩:=h;cases z;obtain⟨t,rfl⟩:=C;obtain⟨l,n,r,d,hz⟩:=I.lst hp;obtain⟨h1,h2,m,g⟩:=Ub hj;have c:=r.length;have E:=Ij;have w:Inv X x y (upd H p<|.lst<|B.set j v) {s with heap:=s.heap.update p<|Obj.mapSeq (·.setIfInBounds j u)} :=
  I.lstUpd hp d (Sg l n j u) (r.set A j) (by rw[List.length_set];exact hz) s.toks
 by_cases f:0<=k;have hk:k.toNat=j:=by rw[seqIndex_of f g]at h1;exact aE h1
 exact PySem.W.ki_setAt d f (by omega) (by rw[T_,<- c];exact g)<|by rw[hk];exact⟨_,w,q⟩
 have hk:(k+(l.toArray.size:Int)).toNat=j:=by rw[seqIndex_neg (by omega) m]at h1;rw[T_,<- c];exact aE h1
 exact PySem.W.ki_setBack d (by omega) (by rw[T_,<- c];exact m) (by omega)<|by rw[hk];exact⟨_,w,q⟩
def Og(lo hi:oB Int)(n:Nat):(sliceBounds lo hi none n).1=((HT.sIx n 0 lo:Nat):Int)/\(sliceBounds lo hi none n).2.1=((HT.sIx n n hi:Nat):Int)/\(sliceBounds lo hi none n).2.2=1:=by
 refine⟨?_,?_,rfl⟩
 ·cases lo with
  |none=>simp[sliceBounds,HT.sIx]
  |some i=>simp only[sliceBounds,HT.sIx,Option.getD_none,show(1:Int)>0 by decide,if_true];by_cases h:i<0;simp only[h,if_true]<;>omega;simp only[h,if_false]<;>omega
 ·cases hi with
  |none=>simp[sliceBounds,HT.sIx]
  |some i=>simp only[sliceBounds,HT.sIx,Option.getD_none,show(1:Int)>0 by decide,if_true];by_cases h:i<0;simp only[h,if_true]<;>omega;simp only[h,if_false]<;>omega
def Ml(c:oA kJ)(lo hi:oB Int):slicePick c.toArray lo hi none=((c.drop<|HT.sIx c.length 0 lo).take<|HT.sIx c.length c.length hi-HT.sIx c.length 0 lo).toArray:=by obtain⟨h1,h2,d⟩:=Og lo hi c.toArray.size;unfold slicePick;rw[h1,h2,d];simp only[sliceRange_one,pick_run,List.size_toArray]<;>rfl
def YZ(K:kN):V->oB Int->oB Int->Hp->VK->Prop:=λx lo hi H Q=>∃a c,x=.ref a/\Fa K H a c/\∀p,H p=none->Q (.ref p) (upd H p<|.lst<|Mk c lo hi)
def ET:RN X (YZ X.K):=by intro n s u H x v y l lo hi w Q I j f i k h;obtain⟨a,c,rfl,hx,q⟩:=h;cases j;obtain⟨m,r,d,hz⟩:=I.list hx;have g:=r.length;refine⟨"list",_,slot_list_getitem.lookup,d.isList.typeIs,?_⟩;refine wpAny_getItem_list_slice d.isList f i k .none (by simp) ?_ (by rw[T_]<;>omega);rw[Ml,<- g];refine⟨.ref s.heap.objs.size,_,I.laid (t':=s.toks) (o:=.lst<|Mk c lo hi) (λb p q=>C_ _ q) (H_ _) ?_,rfl,q _<|I.hok.fresh<|H_ _⟩;exact⟨Q_ (Jj c lo hi) hz,_,0,(r.drop<|HT.sIx c.length 0 lo).take<|HT.sIx c.length c.length hi-HT.sIx c.length 0 lo,I_ _ rfl⟩
def Oh:Ih X (compareOp .NotIn) (λx y H Q=>∃i j,x=.str i/\y=.str j/\Q (.bl<|!(!(Builtin.Str.occurrences j i 0 j.length 1).isEmpty)) H):=by intro f s g H x y v u Q I d c h;obtain⟨i,j,rfl,rfl,q⟩:=h;obtain⟨t,rfl⟩:=d;obtain⟨k,rfl⟩:=c;exact notIn_str ⟨.bl _,H,I,rfl,q⟩
def Fs:Gc X (.builtin "len") (λi H Q=>∃p c,i=[.ref p]/\(Fa X.K H p c\/Ii X.K H p c)/\Q (.int c.length) H):=by intro l s m H i v Q I r h;obtain⟨p,c,rfl,hq,q⟩:=h;obtain⟨u,rfl,k⟩:=Fb r;cases k;have n:=Ij;rcases hq with hq|hq;obtain⟨j,d,g,hz⟩:=I.list hq;have f:=d.length;exact Calls.call_len_list g.isList (by simp only[List.size_toArray]<;>omega) ⟨.int c.length,H,I.tok _,⟨s.toks+1,by rw[T_,f]⟩,q⟩;obtain⟨j,d,g,hz⟩:=I.tuple hq;have f:=d.length;exact len_tuple g (by simp only[List.size_toArray]<;>omega) ⟨.int c.length,H,I.tok _,⟨s.toks+1,by rw[T_,f]⟩,q⟩
def Oi:Gc X (.builtin "len") (λc H Q=>∃z,c=[.str z]/\z.length<=sizeLine/\Q (.int z.length) H):=by intro d s f H c i Q I r h;obtain⟨z,rfl,hz,q⟩:=h;obtain⟨u,rfl,t,rfl⟩:=Fb r;have g:=Ij;exact len_str (by omega) ⟨.int z.length,H,I.tok _,⟨_,rfl⟩,q⟩
def Oj:Gc X (.type "list") (λv H Q=>∃p f,v=[.ref p]/\(Fa X.K H p f\/Ii X.K H p f)/\∀l,H l=none->Q (.ref l) (upd H l<|.lst f)):=by
 intro x s z H v B Q I r h;obtain⟨p,f,rfl,hq,q⟩:=h;obtain⟨u,rfl,A⟩:=Fb r;cases A;have fin:∀(c:oA kJ),Vals f c->f.length<=sizeLine->∀(h':kS) (g:Nat),(∀b m,s.heap.get? b=some m->h'.get? b=some m) ->
   h'.get? s.heap.objs.size=some {cls:=.type "list",dict:=none,data:=.seq c.toArray g,slots:=#[]}->EP X x z Q (.ref s.heap.objs.size) {s with heap:=h'}:=λc d hz h' g i e=>
  ⟨.ref s.heap.objs.size,_,I.laid (t':=s.toks) i (H_ _)<|show Bs X.prog X.w _ h' _ (.lst f) from⟨hz,c,g,d,e⟩,rfl,q _<|I.hok.fresh<|H_ _⟩
 rcases hq with hq|hq;obtain⟨c,d,j,hz⟩:=I.list hq;have y:=d.length;obtain⟨o,k,hc,n,hd⟩:=j.isList;exact call_list_seq p (.inl rfl) k hc hd (λh' g i e=>fin c d hz h' g i e) (by simp only[List.size_toArray]<;>omega);obtain⟨c,d,j,hz⟩:=I.tuple hq;have y:=d.length;obtain⟨o,k,hc,n,hd⟩:=j;exact call_list_seq p (.inr rfl) k hc hd (λh' g i e=>fin c d hz h' g i e)<|by simp only[List.size_toArray]<;>omega
def G4:Gc X (.type "tuple") (λm H Q=>∃p c,m=[.ref p]/\((Fa X.K H p c/\∀l,H l=none->Q (.ref l) (upd H l<|.tup c))\/(Ii X.K H p c/\Q (.ref p) H))):=by
 intro j s k H m z Q I r h;obtain⟨p,c,rfl,h⟩:=h;obtain⟨u,rfl,y⟩:=Fb r;cases y;rcases h with⟨hq,q⟩|⟨hq,q⟩;obtain⟨g,f,i,hz⟩:=I.list hq;have A:=f.length;refine call_tuple_list i.isList (λd v=>?_) (by simp only[List.size_toArray]<;>omega);have n:Inv X j k H {s with heap:=d}:=I.kept (t':=s.toks) v;have x:Inv X j k (upd H d.objs.size<|.tup c) {s with heap:=d.push {cls:=.type "tuple",data:=.seq g.toArray}} :=
  n.laid (t':=s.toks) (λb o e=>C_ _ e) (H_ _) (show Bs X.prog X.w _ _ _ (.tup c) from⟨⟨hz,.inl<|IK.new _ rfl⟩,g,f,IsTup.new _ _⟩)
 exact⟨.ref d.objs.size,_,x,rfl,q _<|n.hok.fresh<|H_ _⟩
 obtain⟨g,f,i,hz⟩:=I.tuple hq;exact call_tuple_same i ⟨.ref p,H,I,rfl,q⟩
def RT(K:kN)(T:String)(x:V)(H:Hp):Prop:=match x with
 |.str _=>T = "str"
 |.int _=>T = "int"
 |.ref p=>(T = "list" /\ ∃c,Fa K H p c)\/(T = "tuple" /\ ((∃o,K.lookup p=some o/\o.cls=.type "tuple" /\ o.dict=none)\/∃c,H p=some (.tup c)/\¬Wk c)) \/
   (T = "dict" /\ ((∃d,H p=some (.dK d))\/∃d,H p=some (.dT d)))\/(T = "set" /\ ∃S n,H p=some (.set S n))
 |_=>False
def LZ{k:oA<|kM×kT}{l:St}{H:Hp}{s:kK}{T:String}{x:V}{v:kJ}(I:Inv X k l H s)(r:Bp x v)(ty:RT X.K T x H) :
  s.TypeIs v T/\∀a,v=.ref a->∃j,s.heap.get? a=some j/\j.dict=none:=by
 cases x with
 |str z=>obtain⟨t,rfl⟩:=r;cases (show T = "str" from ty);exact⟨gP s z t,λ_ e=>nomatch e⟩
 |int i=>obtain⟨t,rfl⟩:=r;cases (show T = "int" from ty);exact⟨typeIs_int s i t,λ_ e=>nomatch e⟩
 |ref p=>
  cases r;rcases ty with⟨rfl,h,hq⟩|⟨rfl,⟨o,hk,hc,hd⟩|⟨h,hq,B⟩⟩|⟨rfl,hk⟩|⟨rfl,S,n,hk⟩;obtain⟨u,_,g,_⟩:=I.list hq;refine⟨g.isList.typeIs,λa e=>?_⟩;cases e;obtain⟨o,n,e,c,hd,_⟩:=g;exact⟨o,e,hd⟩;refine⟨⟨o,I.kIn p o hk,hc⟩,λa e=>?_⟩;cases e;exact⟨o,I.kIn _ o hk,hd⟩;obtain⟨_,u,_,q,m,y,_⟩:=(show Bs X.prog X.w H s.heap p (.tup h) from I.hok p _ hq);refine⟨⟨q,m,y⟩,λa e=>?_⟩;cases e;exact(I.nod hq).resolve_right B;have z:∃o,s.heap.get? p=some o/\o.ExactDict:=by rcases hk with⟨A,hk⟩|⟨A,hk⟩;obtain⟨_,_,_,_,o,_,_,e,d,_⟩:=I.hok p _ hk;exact⟨o,e,d⟩;obtain⟨_,_,_,_,o,_,_,e,d,_⟩:=I.hok p _ hk;exact⟨o,e,d⟩
  obtain⟨o,e,d⟩:=z;refine⟨⟨o,e,d.1⟩,λa f=>?_⟩;cases f;exact⟨o,e,d.2.1⟩;obtain⟨o,_,_,_,e,d,_⟩:=I.hok p _ hk;refine⟨⟨o,e,d.1⟩,λa f=>?_⟩;cases f;exact⟨o,e,d.2.1⟩
 |_=>exact False.elim ty
def tBM(K:kN)(T:String)(r:V->oA V->Hp->VK->Prop)(to:TE)(t:TA):TE:=λc H Q=>to c H λx d=>RT K T x d/\t c d λg f=>r x g f Q
def Yw(y:PlainAttrs T)(slot:Slot T name id)(j:typeOf (.builtin id)=pure (.type "method_descriptor")) (hm:RP X id r) (w:PE X o to) (ha:PA X (e::es) t) (J:attributeBase o name X.env (eval o X.env)=eval o X.env:=by rfl)
  (z:((backTo bd<|starEach (e::es) X.env).all (λx=>!x.1)&&(backToKw bd<|keywordEach [] X.env).all (λx=>x.1.isSome)
   && decide ((e::es).length+([]:oA Keyword).length+(if([]:oA Keyword).isEmpty then 0 else 1)<30))=true:=by rfl) (F:(cu.endLine==bd.line)=true:=by rfl) (hs:starEach (e::es) X.env=(false,eval e X.env)::starEach es X.env:=by rfl) (A:(backTo bd<|starEach es X.env).any (·.1)=false:=by rfl) :
  PE X (.Call (.Attribute o name cu) (e::es) [] bd) (tBM X.K T r to t):=by
 intro c s d H Q I h;refine wpAny_Call_method_late J z F rfl<|thn (w c s d H _ I h) λv k G=>?_;obtain⟨x,C,f,g,ty,B⟩:=G;obtain⟨h1,h2⟩:=LZ f g ty;refine⟨T,id,y,slot,j,h1,h2,?_⟩;have i:=ha bd c k d C _ f B;rw[hs]at i ⊢;refine Calls.callWith_builtin (by show(false||(backTo bd<|starEach es X.env).any (·.1))=false;rw[A]<;>rfl)<|Calls.evalArgs_plain ?_;exact thn i λE l u=>Cs u λD q m n p=>hm c l d q x D v E Q m g n p
end
def MtM(X:Cx)(id:String)(r:V->oA V->Hp->VK->Prop):Prop :=
 ∀(c:oA<|kM×kT) (s:kK) (a:St) (H:Hp) (x:V) (xs:oA V) (v:kJ) (b:oA kJ) (Q:VK),Inv X c a H s->Bp x v->Vals xs b->r x xs H Q ->
  qX X.prog X.w X.A (call (.builtin id)<|v::b) (EP X c a Q) X.xe s
def Vals.one:∀{x:V} {a:oA kJ},Vals [x] a->∃u,a=[u]/\Bp x u
 |_,_,.cons r .nil=>⟨_,rfl,r⟩
theorem Vals.rep{xs:oA V}{a:oA kJ}(h:Vals xs a):∀k:Nat,Vals (List.replicate k xs).flatten (List.replicate k a).flatten
 | 0=>.nil
 |k+1=>by rw[dS,dS,eO,eO];exact Vals.append h<|Vals.rep h k
theorem M5(a:oA kJ):∀(k:Nat) (b:oA kJ),
  List.foldl (λf c=>f++c) b.toArray (List.replicate k a.toArray)=(b++(List.replicate k a).flatten).toArray
 | 0,b=>by simp
 |k+1,b=>by
  have e:b.toArray++a.toArray=(b++a).toArray:=by simp
  have d:(b++a)++(List.replicate k a).flatten=b++(List.replicate (k+1) a).flatten:=by rw[dS,eO,eP]
  rw[<- d,<- M5 a k (b++a),<- e,dS,List.foldl_cons]
section
variable {X:Cx}{aa:oA<|kM×kT}{σ:St}{H:Hp}{s:kK}{l b:kM}{xs ys zs:oA V}
def Inv.lset{a its':oA kJ}{n:Nat}{f:oC kJ->oC kJ}{t':Nat}(I:Inv X aa σ H s)(d:H l=some (.lst xs))
  (e:s.heap.get? l=some {cls:=.type "list",data:=.seq a.toArray n}) (hf:f a.toArray=its'.toArray) (hv:Vals ys its') (hz:ys.length<=sizeLine) (g:0<t':=by first|exact aQ _|assumption|exact Inv.tk<|by assumption) :
  Inv X aa σ (upd H l<|.lst ys) {s with heap:=s.heap.update l<|Obj.mapSeq f,toks:=t'}:=by
 have q:=PySem.IsL.update e f;rw[hf]at q;refine I.write (x:=l) (e:=l) (by rw[d];exact trivial) (.inl rfl) (λh u hb c=>(aR s.heap (Obj.mapSeq f)<|dA hb).trans c) ⟨_,q⟩ ?_;exact⟨hz,its',_,hv,q⟩
def Inv.lnew{a:oA kJ}{t':Nat}(I:Inv X aa σ H s)(hv:Vals ys a)(hz:ys.length<=sizeLine)(c:0<t':=by first|exact aQ _|assumption|exact Inv.tk<|by assumption) :
  Inv X aa σ (upd H s.heap.objs.size<|.lst ys) {s with heap:=s.heap.push {cls:=.type "list",data:=.seq a.toArray},toks:=t'} :=
 I.laid (λ_ _ q=>C_ _ q) (H_ _) ⟨hz,a,0,hv,I_ _ rfl⟩
def Inv.fresh(I:Inv X aa σ H s):H s.heap.objs.size=none:=I.hok.fresh<|H_ _
def Inv.lstM(I:Inv X aa σ H s)(c:H l=some (.lst xs)):xs.length<=sizeLine/\∃(a:oA kJ) (n:Nat),Vals xs a/\xs.length=a.length/\s.heap.get? l=some {cls:=.type "list",data:=.seq a.toArray n}:=by obtain⟨z,a,n,r,e⟩:=I.hok l _ c;exact⟨z,a,n,r,r.length,e⟩
def Pr{n:Nat}(h:n<=sizeLine):Builtin.List.listTooLong n=false:=by unfold Builtin.List.listTooLong;exact aF<|by omega
def EU:V->oA V->Hp->VK->Prop:=λx a H Q=>∃l xs y,x=.ref l/\a=[y]/\H l=some (.lst xs)/\xs.length<sizeLine/\Q .non (upd H l<|.lst<|xs++[y])
def M6:MtM X "list.append" EU:=by intro aa s σ H x k v i Q I g f h;obtain⟨l,xs,y,rfl,rfl,c,hz,q⟩:=h;cases g;obtain⟨u,rfl,d⟩:=f.one;obtain⟨z,a,n,r,j,e⟩:=I.lstM c;refine fC F.slot_list_append ⟨_,e,rfl⟩ F.entry_list_append (F.args_list_append_2 _ _) (PySem.list_append l a.toArray n u<|by rw[T_];omega) ⟨e,?_⟩;refine⟨.non,_,I.lset (its':=a++[u]) c e (by simp) (r.append<|.cons d .nil) ?_,rfl,q⟩;rw[J_,List.length_singleton];omega
def EV:V->oA V->Hp->VK->Prop:=λx a H Q=>∃l b xs zs,x=.ref l/\a=[.ref b]/\H l=some (.lst xs)/\H b=some (.lst zs)/\xs.length+zs.length<=sizeLine/\Q .non (upd H l<|.lst<|xs++zs)
def PP:MtM X "list.extend" EV:=by
 intro aa s σ H x B v C Q I m i h;obtain⟨l,b,xs,zs,rfl,rfl,f,t,hz,q⟩:=h;cases m;obtain⟨u,rfl,g⟩:=i.one;cases g;obtain⟨z,c,n,r,w,e⟩:=I.lstM f;obtain⟨A,a,o,j,y,p⟩:=I.lstM t;have d:c.toArray.size+a.toArray.size<=sizeLine:=by rw[T_,T_];omega
 have k:¬(!c.toArray.isEmpty&&Builtin.List.listTooLong (c.toArray.size+a.toArray.size))=true:=by rw[Pr d,Bool.and_false];exact X_
 refine fC F.slot_list_extend ⟨_,e,rfl⟩ F.entry_list_extend (F.args_list_extend_2 _ _) (AutoSeq1.list_extend_list_list_0 l c.toArray n b a.toArray o k (by rw[T_];omega)<|by omega) ⟨e,p,?_⟩
 refine⟨.non,_,I.lset (its':=c++a) f e (by simp) (r.append j) ?_,rfl,q⟩;rw[J_];omega
def ZA:R2:=λx y H Q=>∃l b xs zs,x=.ref l/\y=.ref b/\H l=some (.lst xs)/\H b=some (.lst zs)/\xs.length+zs.length<=sizeLine/\∀p,H p=none->Q (.ref p) (upd H p<|.lst<|xs++zs)
def MA:Ih X (binaryOp .Add) ZA:=by
 intro aa s σ H x y v u Q I i f h;obtain⟨l,b,xs,zs,rfl,rfl,g,m,hz,q⟩:=h;cases i;cases f;obtain⟨z,c,n,r,p,e⟩:=I.lstM g;obtain⟨o,a,t,j,w,k⟩:=I.lstM m;refine PySem.P.add_list e k ?_ (by rw[T_,T_];omega);have d:c.toArray++a.toArray=(c++a).toArray:=by simp
 rw[d];exact⟨.ref _,_,I.lnew (t':=s.toks) (r.append j)<|by rw[J_];omega,rfl,q _ I.fresh⟩
def ZB:R2:=λx y H Q=>∃l k xs,x=.ref l/\y=.int k/\H l=some (.lst xs)/\-(2^63)<=k/\k<2^63/\xs.length*k.toNat<=sizeLine /\
 ∀p,H p=none->Q (.ref p) (upd H p<|.lst (List.replicate k.toNat xs).flatten)
def EW{c:Type}(xs:oA c)(k:Nat):(List.replicate k xs).flatten.length=k*xs.length:=by
 induction k with
 |zero=>simp
 |succ k a=>rw[dS,eO,J_,a,Nat.succ_mul,g_]
def MB:Ih X (binaryOp .Mult) ZB:=by
 intro aa s σ H x y v u Q I C o h;obtain⟨l,k,xs,rfl,rfl,B,h1,h2,hz,q⟩:=h;cases C;obtain⟨t,rfl⟩:=o;obtain⟨z,c,n,r,j,e⟩:=I.lstM B;have w:c.toArray.size*k.toNat<=sizeLine:=by rw[T_,<- j];exact hz
 have D:¬c.toArray.size*k.toNat>(2^63-1) / 8:=by
  have:(sizeLine:Nat)<=(2^63-1) / 8:=by decide
  omega
 have E:¬(!Builtin.List.listFitsIndex k)=true:=by rw[fitsIndex_both h1 h2];exact X_
 have A:¬Builtin.List.listTooLong (c.toArray.size*k.toNat)=true:=by rw[Pr w];exact X_
 have g:List.foldl (λf d=>f++d) #[] (List.replicate (if c.toArray.isEmpty=true then 0 else k.toNat) c.toArray)=(List.replicate k.toNat c).flatten.toArray:=by
  have p:∀m:Nat,List.foldl (λf d=>f++d) #[] (List.replicate m c.toArray)=(List.replicate m c).flatten.toArray:=λm=>by have:=M5 c m [];rw[gI]at this;exact this
  rw[p];cases c with
  |nil=>simp
  |cons a G=>rw[N_<|by simp]
 refine wpAny_binaryOp_repeat_ref (T := "list") (U := "int") (by decide) ⟨_,e,rfl⟩ (λi=>typeIs_int i k t) noFill_list_mul F.fills_int_mul F.slot_int_rmul repeat_list F.slot_int_index.lookup
  (fC F.slot_int_rmul (typeIs_int s k t) F.entry_int_rmul (F.args_int_rmul_2 _ _) (int___rmul___int_list k t l c.toArray n)
   ⟨e,rfl,⟨_,e,rfl⟩,fC F.slot_list_mul ⟨_,e,rfl⟩ F.entry_list_mul (F.args_list_mul_2 _ _) (AutoListH.list___mul___list_int_3 l c.toArray n k t E D A) ⟨e,?_⟩⟩)
 rw[g];exact⟨.ref _,_,I.lnew (t':=s.toks) (r.rep k.toNat)<|by rw[EW,Nat.mul_comm];exact hz,rfl,q _ I.fresh⟩
end
section
variable {κ:Type} [DecidableEq κ]
def Hi(a:oA<|κ×V)(k:κ):oB V:=(a.find? λb=>decide (b.1=k)).map (·.2)
def Hj(b:oA<|κ×V)(k:κ)(v:V):oA (κ×V) :=
 if(b.any λa=>decide (a.1=k))=true then b.map (λa=>if a.1=k then(a.1,v) else a) else b++[(k,v)]
def Kx{p:κ×V}{r:oA<|κ×V}{k:κ}(e:p.1=k):Hi (p::r) k=some p.2:=by simp[Hi,List.find?_cons,e]
def Ky{p:κ×V}{r:oA<|κ×V}{k:κ}(e:¬p.1=k):Hi (p::r) k=Hi r k:=by simp[Hi,List.find?_cons,e]
theorem Ps(k:κ):∀a:oA<|κ×V,(a.any λb=>decide (b.1=k))=(Hi a k).isSome
 |[]=>rfl
 |p::r=>by rw[dL];by_cases e:p.1=k;simp only[Kx e,decide_eq_true e,Bool.true_or,Option.isSome_some];rw[Ky e,aF e,Bool.false_or];exact Ps k r
def Jk(a:oA<|κ×V)(k:κ)(v:V):(Hj a k v).length<=a.length+1:=by unfold Hj;split;rw[B_];omega;rw[J_,aM,gJ];omega
def G1.isSome_eq{o:oB V}{u:oB kJ}(r:G1 o u):o.isSome=u.isSome:=by
 cases o with
 |none=>cases u with
  |none=>rfl
  |some _=>exact(show False from r).elim
 |some _=>cases u with
  |none=>exact(show False from r).elim
  |some _=>rfl
def KV.val{d:oA<|κ×V}{vs:oA<|κ×kJ}(r:KV d vs)(k:κ):G1 (Hi d k) (valueAt vs k):=by
 unfold KV at r
 induction r with
 |nil=>exact True.intro
 |@cons p q g c h t f=>
  obtain⟨h1,h2⟩:=h;by_cases e:p.1=k;have a:q.1=k:=h1.symm.trans e;have b:valueAt (q::c) k=some q.2:=by simp[valueAt,List.find?_cons,a]
  rw[Kx e,b];exact h2;have a:¬q.1=k:=λz=>e<|h1.trans z;have b:valueAt (q::c) k=valueAt c k:=by simp[valueAt,List.find?_cons,a]
  rw[Ky e,b];exact f
theorem KV.any{b:oA<|κ×V}{vs:oA<|κ×kJ}(r:KV b vs)(k:κ):(b.any λa=>decide (a.1=k))=vs.any λa=>decide (a.1=k):=by
 unfold KV at r
 induction r with
 |nil=>rfl
 |cons h t c=>rw[dL,dL,c,h.1]
def KV.repl{b:oA<|κ×V}{vs:oA<|κ×kJ}(r:KV b vs)(k:κ){y:V}{u:kJ}(d:Bp y u) :
  KV (b.map λa=>if a.1=k then(a.1,y) else a) (vs.map λa=>if a.1=k then(a.1,u) else a):=by
 unfold KV at r ⊢
 induction r with
 |nil=>exact .nil
 |@cons p q f g h t c=>rw[bF,bF];refine .cons ?_ c;obtain⟨h1,h2⟩:=h;by_cases e:p.1=k;rw[R_ e,R_<|h1.symm.trans e];exact⟨h1,d⟩;rw[N_ e,N_ λz=>e<|h1.trans z];exact⟨h1,h2⟩
def KV.put{b:oA<|κ×V}{vs:oA<|κ×kJ}(r:KV b vs)(k:κ){y:V}{u:kJ}(a:Bp y u):KV (Hj b k y) (stored vs k u):=by unfold Hj stored;rw[r.any k];by_cases e:(vs.any λc=>decide (c.1=k))=true;rw[R_ e,R_ e];exact r.repl k a;rw[N_ e,N_ e];exact kG r ⟨rfl,a⟩
def KV.length{a:oA<|κ×V}{vs:oA<|κ×kJ}(r:KV a vs):a.length=vs.length:=fK r
end
def Pt{P:kO}{w:kP}{k:Key}{u:kJ}(r:Bp (kV k) u):(Bl P w).is k u=true:=by
 cases k with
 |inl i=>obtain⟨t,e⟩:=(show ∃t,u=Value.int i t from r);subst e;exact C8 P w i t
 |inr x=>obtain⟨t,e⟩:=(show ∃t:{t:Tok // t≠0},u=Value.str x t.1 from r);subst e;exact Gb P w x t
theorem M7{P:kO}{w:kP}:∀{ks:oA Key} {a:oA kJ},Vals (ks.map kV) a->ItemsAre (Bl P w) ks a
 |[],_,r=>by rw[List.map_nil]at r;cases r;exact .nil
 |k::ks,_,r=>by
  rw[bF]at r;cases r with
  |cons h t=>exact .cons (Pt h)<|M7 t
abbrev KT(H:Hp):oA (oA Key×V)->oA (oA Key×kM×kJ)->Prop:=Paired λp q=>p.1=q.1/\H q.2.1=some (.tup<|p.1.map kV)/\Bp p.2 q.2.2
def KT.val{H:Hp}{d:oA<|oA Key×V}{xs:oA<|oA Key×kM×kJ}(r:KT H d xs)(k:oA Key):G1 (Hi d k) ((atKey xs k).map (·.2)):=by
 induction r with
 |nil=>exact True.intro
 |@cons p q g c h t f=>
  obtain⟨h1,_,h2⟩:=h;by_cases e:p.1=k;have a:q.1=k:=h1.symm.trans e;have b:atKey (q::c) k=some q.2:=by simp[atKey,List.find?_cons,a]
  rw[Kx e,b];exact h2;have a:¬q.1=k:=λz=>e<|h1.trans z;have b:atKey (q::c) k=atKey c k:=by simp[atKey,List.find?_cons,a]
  rw[Ky e,b];exact f
def KT.repl{H:Hp}{b:oA<|oA Key×V}{xs:oA<|oA Key×kM×kJ}(r:KT H b xs)(k:oA Key){y:V}{u:kJ}(f:Bp y u) :
  KT H (b.map λa=>if a.1=k then(a.1,y) else a) (xs.map<|putAt k u):=by
 induction r with
 |nil=>exact .nil
 |@cons p q g i h t c=>rw[bF,bF];refine .cons ?_ c;obtain⟨h1,h2,d⟩:=h;unfold putAt;by_cases e:p.1=k;rw[R_ e,R_<|h1.symm.trans e];exact⟨h1,h2,f⟩;rw[N_ e,N_ λz=>e<|h1.trans z];exact⟨h1,h2,d⟩
def KT.put{H:Hp}{a:oA<|oA Key×V}{xs:oA<|oA Key×kM×kJ}(r:KT H a xs)(k:oA Key){b:kM}{y:V}{u:kJ}(hb:H b=some (.tup<|k.map kV))(c:Bp y u) :
  KT H (Hj a k y) (storedH xs k b u):=by
 have e:(a.any λd=>decide (d.1=k))=(atKey xs k).isSome:=by rw[Ps,(r.val k).isSome_eq,jQ]
 unfold Hj storedH;rw[e];by_cases q:(atKey xs k).isSome=true;rw[R_ q,R_ q];exact r.repl k c;rw[N_ q,N_ q];exact kG r ⟨rfl,hb,c⟩
def KT.keeps{H H':Hp}{a:oA<|oA Key×V}{xs:oA<|oA Key×kM×kJ}(r:KT H a xs)(d:∀b c,H b=some (.tup c)->H' b=some (.tup c)):KT H' a xs :=
 Paired.mapP r λ_ _ z=>⟨z.1,d _ _ z.2.1,z.2.2⟩
section
variable {P:kO}{w:kP}{H:Hp}{h:kS}{a:kM}{X:Cx}{aa:oA<|kM×kT}{σ:St}{s:kK}{y v:V}{u r:kJ}{o:oB V}{A:kR}{E:kJ->kK->Prop}
def IP{u:HO}(ok:HOk P w H h)(e:Rd H a u):Bs P w H h a u:=e.ok ok
def M8{b:oA<|Key×V}(ok:HOk P w H h)(e:Rd H a<|.dK b):b.length<=sizeLine/\(a==sysModules)=false/\∃c,KV b c/\h.DictOf (Bl P w) a c :=
 show Bs P w H h a (.dK b) from IP ok e
def RU{b:oA<|Key×V}(ok:HOk P w H h)(e:H a=some (.dK b)):b.length<=sizeLine/\(a==sysModules)=false/\∃c,KV b c/\h.DictOf (Bl P w) a c:=M8 ok<|.inl e
def Kz{ks:oA Key}(ok:HOk P w H h)(e:H a=some (.tup<|ks.map kV)):(tupleKind<|Bl P w).is h ks a:=by obtain⟨_,b,r,o,h1,h2,n,c⟩:=(show Bs P w H h a (.tup<|ks.map kV) from ok a _ e);exact⟨o,b.toArray,n,h1,h2,c,by simpa using M7 r⟩
def Pu{b:oA<|oA Key×V}(ok:HOk P w H h)(e:Rd H a<|.dT b):b.length<=sizeLine/\(a==sysModules)=false /\
  ∃c,KT H b c/\h.DictOfH (tupleKind<|Bl P w) a c:=by
 obtain⟨z,y,c,r,o,j,f,h1,h2,i,d,k⟩:=(show Bs P w H h a (.dT b) from IP ok e);refine⟨z,y,c,r,o,j,f,h1,h2,i,d,λx hx=>?_,k⟩;have all:∀{l:oA<|oA Key×V} {m:oA<|oA Key×kM×kJ},KT H l m->∀x∈m,(tupleKind<|Bl P w).is h x.1 x.2.1:=by
  intro l m q
  induction q with
  |nil=>intro x hx;exact nomatch hx
  |@cons p q n B hq t g=>intro x hx;rcases Z_.mp hx with e|hx;subst e;exact Kz ok (by rw[<- hq.1];exact hq.2.1);exact g x hx
 exact all r x hx
def RV{b:oA<|oA Key×V}(ok:HOk P w H h)(e:H a=some (.dT b)):b.length<=sizeLine/\(a==sysModules)=false /\
  ∃c,KT H b c/\h.DictOfH (tupleKind<|Bl P w) a c:=Pu ok<|.inl e
def DGet(H:Hp)(a:kM)(y:V)(r:oB V):Prop :=
 (∃c k,Rd H a (.dK c)/\y=kV k/\r=Hi c k)\/∃c k b,Rd H a (.dT c)/\y=.ref b/\H b=some (.tup<|k.map kV)/\r=Hi c k
def DPut(H:Hp)(a:kM)(y v:V)(H':Hp):Prop :=
 (∃c k,H a=some (.dK c)/\y=kV k/\c.length<sizeLine/\H'=upd H a (.dK<|Hj c k v)) \/
 ∃c k b,H a=some (.dT c)/\y=.ref b/\H b=some (.tup<|k.map kV)/\c.length<sizeLine/\H'=upd H a (.dT<|Hj c k v)
def DGet.k{H:Hp}{a:kM}{b:oA<|Key×V}{k:Key}(e:H a=some (.dK b)):DGet H a (kV k) (Hi b k):=.inl ⟨b,k,.inl e,rfl,rfl⟩
def DGet.t{H:Hp}{a b:kM}{c:oA<|oA Key×V}{k:oA Key}(e:H a=some (.dT c))(d:H b=some (.tup<|k.map kV)):DGet H a (.ref b) (Hi c k):=.inr ⟨c,k,b,.inl e,rfl,d,rfl⟩
def DPut.k{H:Hp}{a:kM}{b:oA<|Key×V}{k:Key}{v:V}(e:H a=some (.dK b))(hl:b.length<sizeLine):DPut H a (kV k) v (upd H a<|.dK<|Hj b k v):=.inl ⟨b,k,e,rfl,hl,rfl⟩
def DPut.t{H:Hp}{a b:kM}{c:oA<|oA Key×V}{k:oA Key}{v:V}(e:H a=some (.dT c))(d:H b=some (.tup<|k.map kV))(hl:c.length<sizeLine) :
  DPut H a (.ref b) v (upd H a<|.dT<|Hj c k v):=.inr ⟨c,k,b,e,rfl,d,hl,rfl⟩
def Inv.big(I:Inv X aa σ H s):sysModules<s.heap.objs.size:=by have h:mainGlobals<s.heap.objs.size:=(I.mod.glob.keeps I.bk).lt;exact eQ (by decide) h
def Wm{Q:kJ->kK->Prop}(x:A.units+1<cLine)(I:Inv X aa σ H s)(g:DGet H a y<|some v)(n:Bp y u)(h:∀d m,Inv X aa σ H m->Bp v d->Q d m) :
  qX X.prog X.w A (getItem (.ref a) u) Q E s:=by
 rcases g with⟨B,k,e,f,l⟩|⟨B,k,b,e,f,t,l⟩;subst f;obtain⟨z,hd,C,c,dd⟩:=M8 I.hok e;obtain⟨d,i,j⟩:=G1.some_of (v:=v) (o:=valueAt C k) (by rw[l];exact c.val k);exact wpAny_getItem_of (Pt n) dd.mapOf i<|h d _ (I.tok _) j;subst f;cases (show u=Value.ref b from n);obtain⟨z,hd,D,c,dd⟩:=Pu I.hok e;obtain⟨d,i,j⟩:=G1.some_of (v:=v) (o:=(atKey D k).map (·.2)) (by rw[l];exact c.val k);obtain⟨p,hp,q⟩:=W_.mp i;refine wpAny_getItem_heap (gQ x) (Kz I.hok t) dd hp ?_;rw[q];exact h d _ (I.tok _) j
def ZC{Q:kJ->kK->Prop}(m:A.units+1<cLine)(I:Inv X aa σ H s)(g:DGet H a y o)(i:Bp y u)(h:∀f,Inv X aa σ H f->Q (.bool o.isSome) f) :
  qX X.prog X.w A (compareOp .In u<|.ref a) Q E s:=by
 rcases g with⟨n,k,e,d,l⟩|⟨n,k,b,e,d,j,l⟩;subst d;obtain⟨z,hd,p,c,dd⟩:=M8 I.hok e;refine wpAny_in_of (Pt i) hd dd.mapOf ?_;rw[<- (c.val k).isSome_eq,<- l];exact h _<|I.tok _;subst d;cases (show u=Value.ref b from i);obtain⟨z,hd,t,c,dd⟩:=Pu I.hok e;refine wpAny_in_heap (gQ m) (Kz I.hok j) hd dd ?_;have q:=(c.val k).isSome_eq;rw[jQ]at q;rw[<- q,<- l];exact h _<|I.tok _
def EY{Q:kJ->kK->Prop}(m:A.units+1<cLine)(I:Inv X aa σ H s)(g:DGet H a y o)(i:Bp y u)(h:∀f,Inv X aa σ H f->Q (.bool<|!o.isSome) f) :
  qX X.prog X.w A (compareOp .NotIn u<|.ref a) Q E s:=by
 rcases g with⟨n,k,e,d,l⟩|⟨n,k,b,e,d,j,l⟩;subst d;obtain⟨z,hd,p,c,dd⟩:=M8 I.hok e;refine wpAny_notIn_of (Pt i) hd dd.mapOf ?_;rw[<- (c.val k).isSome_eq,<- l];exact h _<|I.tok _;subst d;cases (show u=Value.ref b from i);obtain⟨z,hd,t,c,dd⟩:=Pu I.hok e;refine wpAny_notIn_heap (gQ m) (Kz I.hok j) hd dd ?_;have q:=(c.val k).isSome_eq;rw[jQ]at q;rw[<- q,<- l];exact h _<|I.tok _
def Ue{h':kS}{t':Nat}{c:HO}(I:Inv X aa σ H s)(f:Mut<|H a)(hs:Heap.SameBut a s.heap h')(he:∃q,h'.get? a=some q)(d:Bs X.prog X.w (upd H a c) h' a c)(g:0<t':=by first|exact aQ _|assumption|exact Inv.tk<|by assumption) :
  Inv X aa σ (upd H a c) {s with heap:=h',toks:=t'} :=
 I.write (x:=a) (e:=a) f (.inl rfl) (λb q hb z=>(hs.2 b hb).trans z) he d
def MC{P:kO}{w:kP}{H':Hp}{h':kS}{b:oA<|Key×V}{vs:oA<|Key×kJ}(z:b.length<=sizeLine)(hd:(a==sysModules)=false)(c:KV b vs)(dd:h'.DictOf (Bl P w) a vs) :
  Bs P w H' h' a (.dK b):=⟨z,hd,vs,c,dd⟩
def Wn{H':Hp}{Q:Unit->kK->Prop}(J:A.units+1<cLine)(I:Inv X aa σ H s)(g:DPut H a y v H')(C:Bp y u)(B:Bp v r)(h:∀t,Inv X aa σ H' t->Q () t) :
  qX X.prog X.w A (setItem (.ref a) u r) Q E s:=by
 rcases g with⟨i,k,e,j,l,p⟩|⟨i,k,b,e,j,x,l,p⟩;subst j p;obtain⟨z,hd,R,d,dd⟩:=RU I.hok e;have hz:R.length<=sizeLine:=by rw[<- d.length];exact z
 have m:(Hj i k v).length<=sizeLine:=by have:=Jk i k v;omega
 refine wpAny_setItem_pairs (hsz:=hz) (Pt C) dd λD f n=>h _ ?_;have he:∃q,D.get? a=some q:=let⟨q,_,_,hq,_⟩:=f;⟨q,hq⟩
 exact Ue I (by rw[e];exact True.intro) n he<|MC m hd (d.put k B) f
 subst j p;cases (show u=Value.ref b from C);obtain⟨z,hd,L,d,dd⟩:=RV I.hok e;have hz:L.length<=sizeLine:=by rw[<- fK d];exact z
 have m:(Hj i k v).length<=sizeLine:=by have:=Jk i k v;omega
 refine wpAny_setItem_heap (hsz:=hz) (gQ J) (Kz I.hok x) dd λD f n=>h _ ?_;obtain⟨q,O,G,hq,h2,N,M,_,S⟩:=f;refine Ue I (by rw[e];exact True.intro) n ⟨q,hq⟩ ⟨m,hd,_,(d.put k x B).keeps λc T F=>?_,q,O,G,hq,h2,N,M,S⟩;rw[Bd<|Pn F e λz=>nomatch z];exact F
end
section
variable {X:Cx}{aa:oA<|kM×kT}{σ:St}{H:Hp}{s:kK}{a:kM}{ae:oA<|Key×V}{k:Key}{u:kJ}{A:kR}{E:kJ->kK->Prop}{o i e value:kQ}{pos ci m8:Pos}{td ty tv:TE}
def RW{Q:kJ->kK->Prop}(I:Inv X aa σ H s)(e:Rd H a<|.dK ae)(h:∀t c,Inv X aa σ H c->Q (.int ae.length t) c):qX X.prog X.w A (call (.builtin "len") [.ref a]) Q E s:=by obtain⟨z,hd,d,b,dd⟩:=M8 I.hok e;refine call_len_dict hd dd (by rw[<- b.length];rw[kF]at z;omega) ?_;rw[<- b.length];exact h _ _<|I.tok _
def MD(i:kQ):Prop:=∀c b,subscripted i false c b=operate [c,b] (getItem c b)
def EZ{prog:kO}{w:kP}{A:kR}{E:kJ->kK->Prop}{s:kK}{env:Env}{value b:kQ}{pos:Pos}{T id:String}{Q:kJ->kK->Prop}
  (hl:typeLookup (.type T) "__getitem__" = pure (some<|.builtin id)) (hs:MD b)
  (h:qX prog w A (eval value env) (λo g=>qX prog w A (eval b env) (λi c=>c.TypeIs o T/\qX prog w A (getItem o i) Q E c) E g) E s) :
  qX prog w A (eval (.Subscript value b pos) env) Q E s:=by
 refine Subscript_<|a_ h (λo g l=>a_ l (λi c d=>?_) λ_ _ x=>x) λ_ _ x=>x;obtain⟨m,d⟩:=d;unfold subscriptTail;refine A_ ?_;rw[getitemInPython_of_ne m.not_modules];refine A_<|eN m hl ?_;have fin:qX prog w A (subscripted b false o i) (λr f=>qX prog w A (letTemporaryGo value o r>>=λ_=>pure r) Q E f) E c:=by rw[hs o i];exact wpAny_operating<|a_ d (λr f j=>A_<|wpAny_letTemporaryGo<|DD j) λ_ _ x=>x
 first
  |exact DD (A_ fin)
  |exact A_ (DD<|A_ fin)
  |exact A_ fin
def Pw{X:Cx}{aa:oA<|kM×kT}{σ:St}{H:Hp}{s:kK}{a:kM}{y:V}{o:oB V}(I:Inv X aa σ H s)(g:DGet H a y o):s.TypeIs (.ref a) "dict" := by rcases g with⟨ae,k,e,_,_⟩|⟨ae,k,b,e,_,_,_⟩;obtain⟨_,_,c,_,dd⟩:=M8 I.hok e;exact dd.typeIs;obtain⟨_,_,d,_,dd⟩:=Pu I.hok e;exact dd.typeIs
def RX(td ty:TE):TE:=λσ H Q=>td σ H λx c=>ty σ c λy b=>∃a v,x=.ref a/\DGet b a y (some v)/\Q v b
def RY(ty td:TE):TE:=λσ H Q=>ty σ H λy c=>td σ c λx b=>∃a o,x=.ref a/\DGet b a y o/\Q (.bl o.isSome) b
def Uf(ty td:TE):TE:=λσ H Q=>ty σ H λy c=>td σ c λx b=>∃a o,x=.ref a/\DGet b a y o/\Q (.bl<|!o.isSome) b
def RZ(td ty tv:TE):TS:=λD σ H=>tv σ H λv c=>td σ c λx d=>ty σ d λy f=>∃a b,x=.ref a/\DPut f a y v b/\D.nx σ b
def FA(l:X.A.units+1<cLine)(w:PE X o td)(m:PE X i ty)(hs:MD i):PE X (.Subscript o i pos) (RX td ty):=by intro aa s σ H Q I h;refine EZ PySem.F.slot_dict_getitem.lookup hs<|thn (w aa s σ H _ I h) λu d j=>Cs j λx r D t n=>thn (m aa d σ r _ D n) λJ L C=>?_;obtain⟨y,z,b,p,a,v,f,g,q⟩:=C;subst f;obtain rfl:u=Value.ref a:=t;exact⟨Pw b g,Wm l b g p λM G c B=>⟨v,z,c,B,q⟩⟩
def ME(m:X.A.units+1<cLine)(n:PE X i ty)(z:PE X o td):PC X .In i o (RY ty td):=by intro aa s σ H Q I h;refine thn (n aa s σ H _ I h) λF f d=>Cs d λy v C p q=>thn (z aa f σ v _ C q) λu G b=>?_;obtain⟨x,w,r,B,a,l,j,g,t⟩:=b;subst j;obtain rfl:u=Value.ref a:=B;exact ZC m r g p λD c=>⟨.bl l.isSome,w,c,rfl,t⟩
def Wo(j:X.A.units+1<cLine)(l:PE X i ty)(z:PE X o td):PC X .NotIn i o (Uf ty td):=by intro aa s σ H Q I h;refine thn (l aa s σ H _ I h) λF c m=>Cs m λy v C p q=>thn (z aa c σ v _ C q) λu G f=>?_;obtain⟨x,w,r,B,a,n,d,g,t⟩:=f;subst d;obtain rfl:u=Value.ref a:=B;exact EY j r g p λD b=>⟨.bl<|!n.isSome,w,b,rfl,t⟩
def FB(l:X.A.units+1<cLine)(w:PE X o td)(J:PE X i ty)(hv:PE X value tv)(hs:swapsWith value (some<|.Subscript o i ci) pos.line X.env=pure false) :
  PS X (.Assign [.Subscript o i ci] value pos) (RZ td ty tv):=by
 intro aa s σ H D I h;refine wpAny_Assign_Subscript (thn (hv aa s σ H _ I h) λr d b=>Cs b λv N z m M=>thn (w aa d σ N _ z M) λu j f=>Cs f λx t n O q=>thn (J aa j σ t _ n q) λP R G=>?_) hs;obtain⟨y,S,C,p,a,c,F,g,B⟩:=G;subst F;obtain rfl:u=Value.ref a:=O;exact Wn l C g p m λQ L=>⟨σ,c,L,B⟩
def Yx{P:kO}{w:kP}{H:Hp}(h:kS)(hb:sysModules<h.objs.size):Bs P w H (h.push {cls:=.type "dict",data:=.dict #[]}) h.objs.size (.dK []) :=
 ⟨aU _,gB.mpr<|dA<|O_ hb,[],.nil,Heap.DictOf.new h⟩
def MF:TE:=λ_ H Q=>∀p,H p=none->Q (.ref p) (upd H p<|.dK [])
def Yy:PE X (.Dict [] [] pos) MF:=λaa s σ H Q I h=>
 wpAny_Dict_empty ⟨.ref s.heap.objs.size,_,I.laid (a:=s.heap.objs.size) (o:=.dK []) (t':=s.toks) (λ_ _ q=>C_ _ q) (H_ _)<|Yx s.heap I.big,rfl,h _<|I.hok.fresh<|H_ _⟩
end
structure M2(X:Cx)(o:kQ)(m:Str)(cu:Pos)(e f:kQ)(bd:Pos):Prop where
 base:attributeBase o m X.env (eval o X.env)=eval o X.env
 few:((backTo bd<|starEach [e,f] X.env).all (λx=>!x.1)&&(backToKw bd<|keywordEach [] X.env).all (λx=>x.1.isSome)
  && decide (([e,f]:oA kQ).length+([]:oA Keyword).length+(if([]:oA Keyword).isEmpty then 0 else 1)<30))=true
 line:(cu.endLine==bd.line)=true
 trees:backTo bd (starEach [e,f] X.env)=[(false,eval e X.env),(false,eval f X.env)]
end L2
namespace Att
open PySem PySem.W PySem.Calls PyProof.Rows
def J6{P:Params}{h:kS}:∀(ns:oA Int) (vs:oA kJ),WellAll P h vs (ns.map WData.int)->IntsAre vs ns:=by
 intro ns
 induction ns with
 |nil=>intro vs w;rw[List.map_nil]at w;cases w;exact .nil
 |cons n ns c=>
  intro vs w;rw[bF]at w;cases w with
  |cons a b=>cases a;exact .cons _ _<|c _ b
def Wp{l:OpenLaw}{n:Nat}(s:l.most=some n){P:Params}{h:kS}{args:oA WData}{g:oA kJ}
  (f:l.row.toRowW.claim.pre args=true) (m:WellAll P h g args) :
  ∃a i b,g=[Value.ref a]/\args=[WData.list<|b.map WData.int]/\h.get? a=some {cls:=.type "list",data:=.seq i.toArray}/\IntsAre i b/\b.length<=n:=by
 have w:WShape.hasAll [] args [.list .int]=true:=(pre_splitW f).1;have hc:l.pre.holds [] {args:=args}=true:=(pre_splitW f).2;obtain⟨d,r,rfl,h1,h2⟩:=hasAllW_cons w;obtain rfl:=hasAllW_nil h2;obtain⟨x,rfl,o⟩:=hasW_list h1;obtain⟨b,rfl⟩:=items_int o;have p:b.length<=n:=by
  unfold OpenLaw.pre at hc;have c:(WTm.not<|.lt (.lit<|.int (n:Int))<|.len<|.arg 0).holds [] {args:=[.list<|b.map .int]}=true:=by have c:=(holds_andW hc).1;rw[s]at c;exact c
  have e:=condW_of c<|w_not<|w_lt w_lit<|w_len_list<|w_arg rfl;rw[B_]at e;refine jX λq=>?_;have v:(n:Int)<((b.length:Nat):Int):=by omega
  first
   | (rw[aN v]at e;exact absurd e<|by decide)
   | (simp at e;omega)
 cases m with
 |cons j t=>
  cases t;cases j with
  |list u k=>exact⟨_,_,b,rfl,rfl,u,J6 b _ k,p⟩
def Wq(l:OpenLaw)(args:oA WData):l.row.toRowW.claim.post args (.bool true) args=true :=
 postW_of (r:=l.row.toRowW) (X:=(true==true))
  (show WShape.has [] (.bool true) .bool=true by first|rfl|decide|simp[WShape.has,WShape.arms,WShape.armsAll])
  (show(WTm.eq .res<|.lit<|.bool true).value [] {args:=args,res:=some<|.bool true,after:=args}=some (.bool<|true==true) from w_eq_bool (w_res rfl) w_lit) rfl
def attach_call{l:OpenLaw}{n:Nat}{q:kO}{A:oA Str}{B:(Str->oB kJ)->kS->Prop}{d:DefRec}{K:Params->kN}{z:oA kM}{E t:Nat}
  (J:l.most=some n) (xz:d.params.defaults=[]) (L:∀P,z=(K P).map (·.1)) (R:0<t)
  (call:∀(w:kP) (s₀ b:kK) (mg u:Str->oB kJ) (g:kM) (o:kT) (k i p:kJ) (a:kM) (vs:oA kJ) (ns:oA Int),
   Ground q A [] B w s₀ mg u b.heap->(K w.params).In b.heap ->
   b.heap.get? g=some o->o.data=.func (docDef d.name d.params d.body d.scope k i p)->b.heap.CodeRec i d.name->mg d.name=some (.ref g) ->
   b.heap.get? a=some {cls:=.type "list",data:=.seq vs.toArray}->IntsAre vs ns->ns.length<=n->b.gens=#[]->0<b.toks ->
   codeAny (model l.prog w) callerA (.call (.ref g) ⟨[.ref a],[]⟩) (λr h=>r=.ok (.ret<|.bool true)/\OldK b.heap h.heap/\h.os=b.os/\AllBare h.gens) b) :
  PySem.W.WalkX q A B (PySem.W.X.obsZ z) (PySem.W.X.valZ K E t) l.row.toRowW d [] (λf vs=>PySem.call f vs):=by
 intro w s₀ b mg u G Y g o k i p T kV O hd gx v m I y ir as s N C V S hlo;obtain rfl:T=.none:=Dflts.none v xz;obtain rfl:kV=.none:=Dflts.noKw v;obtain⟨a,vs,ns,rfl,rfl,e,c,Z⟩:=Wp J N S;obtain⟨_,F,_,zt⟩:=PySem.W.X.z_facts L Y;have j:∀l:oA Int,ofPys (l.map PyData.int)=l.map WData.int:=λl=>by
  induction l with
  |nil=>rfl
  |cons x l H=>exact cF (WData.int x::·) H
 have D:WData.list (ns.map WData.int)=ofPy (PyData.list<|ns.map PyData.int):=by rw[<- j];rfl
 rw[D]at s;have M:=S_ R<|PySem.W.X.script_toks s zt;refine enter_call<|fU (call w s₀ b mg u g o k i p a vs ns G (Frag.In.keeps F s.keeps) O (fd_plain hd) gx m e c Z I M) λr h hq=>?_;obtain⟨rfl,h2,U,Q⟩:=hq;exact⟨.inl ⟨.bool true,.bool true,[],rfl,λ_=>rfl,.bool true,Wq l _,λ_=>⟨List.Pairwise.nil,λ_ hm=>(nomatch hm)⟩⟩,h2,U,Q⟩
end Att
namespace L2
open PySem PySem.Spec PyProof.Rows
theorem M9:∀{vs:oA kJ} {ns:oA Int},IntsAre vs ns->Vals (ns.map V.int) vs
 |_,_,.nil=>.nil
 |_,_,.cons n t h=>.cons ⟨t,rfl⟩<|M9 h
def Only(H:Hp):Prop:=∀b,H b=none\/∃o a,H b=some (.frz o<|.lst a)
def Yz{P:kO}{w:kP}{K:kN}{mg I:Str->oB kJ}{CX:CXT}{k:Nat}{E a:kM}{S:kW}{x:Str}{sp:Sp}{c:kK}{vs:oA kJ}{ns:oA Int}
  (W:K.In c.heap) (L:c.heap.Ns mainGlobals mg) (hb:c.heap.Ns builtinsNs I) (B:∀x:Str,x ≠ "__name__" -> I x=bootBuiltins x) (C:c.heap.NoLimit) (X:c.gens=#[]) (bf:0<c.toks)
  (ha:c.heap.get? a=some {cls:=.type "list",data:=.seq vs.toArray}) (N:IntsAre vs ns) (hl:ns.length<=sizeLine) (hr:Room k callerA) (F:∀g:kS,K.In g->g.Ns mainGlobals mg->FnOk P w K mg g CX k E S [x] sp) (wf:∀(s:kK) (u:kJ),BindsTo s S ⟨[u],[]⟩ [(x,u)])
  (gu:∀H:Hp,Only H->Fa K H a (ns.map V.int)->sp [.ref a] H (λv _=>v=.bl true) λ_ _ _=>False) (D:∀H e f,CX [] H c (λ_ _ _=>False) e f->False) :
  codeAny (model P w) callerA (.call (.ref E) ⟨[.ref a],[]⟩) (λr f=>r=.ok (.ret<|.bool true)/\OldK c.heap f.heap/\f.os=c.os/\AllBare f.gens) c:=by
 have J:=M9 N;have A:=N.length;have M:∀H:Hp,Only H->Fa K H a (ns.map V.int)->HOk P w H c.heap->(∀b,H b≠none->b=a)->(H a≠none->K.lookup a=none) ->
   codeAny (model P w) callerA (.call (.ref E) ⟨[.ref a],[]⟩) (λr f=>r=.ok (.ret<|.bool true)/\OldK c.heap f.heap/\f.os=c.os/\AllBare f.gens) c:=by
  intro H O Y p Q hK;have R:∀{b:kM} {o:kT},c.heap.get? b=some o->H b=none->(Oc c.heap H).get? b=some o:=λe n=>Yh e n;have yp:∀{b:kM} {o:kT} {es:oC DictEntry} {ep:Nat},c.heap.get? b=some o->o.data=.dict es ep->H b=none:=λ{b o es ep} e d=>by
   cases q:H b with
   |none=>rfl
   |some u=>have G:b=a:=Q b (by rw[q];simp);subst G;rw[ha]at e;cases e;have Z:Data.seq vs.toArray _=Data.dict es ep:=d;cases Z
  have i:∀{b:kM} {m:Str->oB kJ},c.heap.Ns b m->(Oc c.heap H).Ns b m:=λ{b m} ⟨o,es,ep,e,d,r⟩=>⟨o,es,ep,R e<|yp e d,d,r⟩;have l:K.In (Oc c.heap H):=λb o e=>R (W b o e) (by
   cases q:H b with
   |none=>rfl
   |some u=>
    have G:b=a:=Q b (by rw[q];simp);subst G;rw[hK<|by rw[q];simp]at e;cases e)
  have hM:Mod K mg (Oc c.heap H):=⟨l,i L,⟨I,i hb,B⟩,by obtain⟨mc,h1,h2⟩:=C;exact⟨mc,i h1,h2⟩⟩;have e0:Env0 P w K mg (Oc c.heap H) callerA [] c H:=⟨rfl,hM,λb o e=>EA e,jJ<|Wb _ _,trivial,λb hb=>absurd (show b∈([]:oA kM) from hb)<|by simp,p,.of_eq X,bf⟩;refine fU ((F _ l<|i L).run callerA [] c H ⟨[.ref a],[]⟩ [.ref a] [.ref a] _ _ hr e0 (wf c<|.ref a) (.cons rfl .nil)<|gu H O Y) λr f h=>?_;cases r with
  |error e=>exact(D H e f h).elim
  |ok fl=>
   cases fl with
   |next=>exact False.elim h
   |brk=>exact False.elim h
   |cont=>exact False.elim h
   |ret u=>
    obtain⟨v,H',os,_,t,U,y,r',q⟩:=h;have q':v=.bl true:=q;subst q';obtain rfl:u=Value.bool true:=r';refine⟨rfl,OldK.of_keep λb o e=>?_,os,t⟩;cases q:H b with
    |none=>exact U.keep b o e q (by intro z;exact absurd (show b∈([]:oA kM) from z)<|by simp) (by simp)
    |some u=>rcases O b with z|⟨ob,xs,z⟩;rw[q]at z;cases z;have z2:=U.frzs b ob _ z;obtain⟨T,_⟩:=p b _ z;obtain⟨e2,_⟩:=y b _ z2;rw[e]at T;cases T;exact e2
 cases hk:K.lookup a with
 |some o=>have e:=W a o hk;rw[ha]at e;cases e;refine M (λ_=>none) (λ_=>.inl rfl) (.inr ⟨_,vs.toArray,_,hk,rfl,rfl,rfl,by rw[T_,A];exact hl,by simpa using J⟩) (λb u z=>by have j:(none:oB HO)=some u:=z;cases j) (λb z=>absurd rfl z) λz=>absurd rfl z
 |none=>refine M (λb=>if b=a then some (.frz {cls:=.type "list",data:=.seq vs.toArray}<|.lst<|ns.map V.int) else none) (λb=>?_) (.inl<|.inr ⟨{cls:=.type "list",data:=.seq vs.toArray},R_ rfl⟩) (λb u z=>?_) (λb z=>?_) λ_=>hk;by_cases hb:b=a;exact .inr ⟨_,_,R_ hb⟩;exact .inl<|N_ hb;by_cases hb:b=a;have j:=(R_ hb).symm.trans z;cases j;subst hb;exact⟨ha,by rw[B_];exact hl,vs,_,J,ha⟩;have j:=(N_ hb).symm.trans z;cases j;by_cases hb:b=a;exact hb;exact absurd (N_ hb) z
def walk_of{l:PySem.W.OpenLaw}{n k:Nat}{q:kO}{gc:oA Str}{XP:(Str->oB kJ)->kS->Prop}{d:DefRec}{K:Params->kN}{C:oA kM}{J t:Nat}{CX:kP->CXT}{sp:kP->Sp}{x:Str}
  (N:l.most=some n) (L:n<=sizeLine) (xz:d.params.defaults=[]) (S:Room k callerA) (O:∀P,C=(K P).map (·.1)) (Z:0<t) (F:∀(w:kP) (mg:Str->oB kJ) (p:kM) (h:kS),(K w.params).In h->h.Ns mainGlobals mg->mg d.name=some (.ref p) ->
   ∃A:kW,(∀(s:kK) (u:kJ),BindsTo s A ⟨[u],[]⟩ [(x,u)]) /\
    ∀c:kS,(K w.params).In c->c.Ns mainGlobals mg->FnOk l.prog w (K w.params) mg c (CX w) k p A [x] (sp w))
  (gu:∀(w:kP) (H:Hp) (a:kM) (ns:oA Int),ns.length<=n->Only H->Fa (K w.params) H a (ns.map V.int)->sp w [.ref a] H (λv _=>v=.bl true) λ_ _ _=>False)
  (z:∀(w:kP) (H:Hp) (s:kK) (e:kJ) (r:kK),CX w [] H s (λ_ _ _=>False) e r->False) :
  PySem.W.WalkX q gc XP (PySem.W.X.obsZ C) (PySem.W.X.valZ K J t) l.row.toRowW d [] (λf E=>PySem.call f E):=by
 refine Att.attach_call N xz O Z λw I m mg mb p o pm cd gh a E ns G Y ho hd gx y j i D M Q=>?_;have B:=Y;obtain⟨A,hb,U⟩:=F w mg p _ B G.T.g y;exact Yz B G.T.g G.T.b G.T.builtins G.T.nolimit M Q j i (Q_ D L) S U hb (λH hO R=>gu w H a ns D hO R) λH e r=>z w H m e r
def Be(s:kU):Arguments:=match s with
 |.FunctionDef _ a _ _ _ _ _ _ _ _=>a
 |_=>{posonlyargs:=[],args:=[],vararg:=none,kwonlyargs:=[],kw_defaults:=[],kwarg:=none,defaults:=[]}
def A9(s:kU):oA kU:=match s with
 |.FunctionDef _ _ b _ _ _ _ _ _ _=>b
 |_=>[]
def Ai(s:kU):kX:=match s with
 |.FunctionDef _ _ _ _ _ _ a _ _ _=>a
 |_=>{kind:=.function,names:=[],isGenerator:=false,isCoroutine:=false}
abbrev Ez:CXT:=λ_ _ _ _ _ _=>False
abbrev E0:XK:=λ_ _ _=>False
def IQ{X:Cx}:Passes Ez X E0:=λ_ _ _ _ _ _ _ h=>h.elim
structure Fun(K:kN)(x qual:Str)(st:kU)(f:kM)(fd:kW):Prop where
 ex:∃(oc:kJ) (od:oB kM) (kV gh pm:kJ) (an:oB kM) (av ct:kJ) (n4:oC<|oB kJ),
  fd=PySem.W.fnOf x qual (Be st) (A9 st) (Ai st) .none kV gh pm an av ct/\K.lookup f=some ⟨oc,od,.func fd,n4⟩/\PySem.W.codeIn K av qual=true
 kp:PySem.W.keepIn K (.ref f)=true
section
variable {P:kO}{w:kP}{K:kN}{mg:Str->oB kJ}{base:kS}{X:Cx}
def Fun.ok{x a:Str}{st:kU}{f:kM}{c:kW}{N ps:oA Str}{k:Nat}{sp:Sp}(F:Fun K x a st f c)(S:FnScope N ps<|Ai st)(len:∀vs H Q E,sp vs H Q E->vs.length=ps.length)
  (l:∀(b:kJ) (A:kR) (outer:oA Env) (s:kK) (H:Hp) (vs:oA V) (Q:VK) (E:XK),Room k (A.deeper<|envOfC a (Ai st) s.heap.objs.size f b)->sp vs H Q E ->
   ∃t,PSs (J5 Ez P w K mg base N a (Ai st) f b A outer s H E).nox (A9 st) t/\t {nx:=λ_ d=>Q .non d,rt:=Q} (start N vs) H):FnOk P w K mg base Ez (k+1) f c ps sp:=by
 obtain⟨v,m,kV,r,o,p,b,u,n,rfl,e,j⟩:=F.ex;refine IN e j S len λA outer s H vs Q E g i=>?_;obtain⟨t,h,q⟩:=l b A outer s H vs Q E g i;exact⟨t,h.nox,q⟩
def Fun.binds{x a:Str}{st:kU}{f:kM}{i:kW}{ps:oA Str}(F:Fun K x a st f i)
  (h:∀(kV b d:kJ) (e:oB kM) (c ct:kJ) (g:oA kJ),g.length=ps.length->bindArgs (PySem.W.fnOf x a (Be st) (A9 st) (Ai st) .none kV b d e c ct) ⟨g,[]⟩=pure (ps.zip g)):Binds K i ps []:=by
 obtain⟨l,j,kV,b,d,e,c,ct,k,rfl,n,m⟩:=F.ex;exact .all<|h kV b d e c ct
def Bq{x a:Str}{st:kU}{f:kM}{h:kJ}{od g:oB kM}{i:oC<|oB kJ}{kV d e b ct:kJ}(l:K.lookup f=some ⟨h,od,.func<|PySem.W.fnOf x a (Be st) (A9 st) (Ai st) .none kV d e g b ct,i⟩)
  (c:PySem.W.codeIn K b a=true) (k:PySem.W.keepIn K (.ref f)=true):Fun K x a st f (PySem.W.fnOf x a (Be st) (A9 st) (Ai st) .none kV d e g b ct):=⟨⟨h,od,kV,d,e,g,b,ct,i,rfl,l,c⟩,k⟩
def Gd{A:kR}{k:Nat}(a:Room k A):A.units+1<cLine:=dH (Nat.add_le_add_left (by decide:1<=64) _) a.units
def Bm{n:Nat}(h:n<=1000):n<sizeLine:=dH h<|by decide
def pv(i:Nat){x:Str}{pos:Pos}(b:X.N[i]?=some x:=by rfl)(hv:Vis X.env.scope x:=by first|exact Or.inl rfl|exact Or.inr (Or.inl rfl)|exact Or.inr<|Or.inr rfl)(hd:(x==("__debug__" : Str))=false:=by decide)
  (a:(x==("__classdict__" : Str))=false:=by decide):PE X (.Name x pos) (KG i):=Yi b hv hd a
def Wr:Gc X (.builtin "len") (λc H Q=>∃a b,c=[V.ref a]/\H a=some (.dK b)/\Q (.int b.length) H):=by intro g s i H c j Q I r h;obtain⟨a,b,rfl,ha,q⟩:=h;obtain⟨u,rfl,d⟩:=Fb r;cases d;exact RW I (.inl ha) λt f e=>⟨.int b.length,H,e,⟨t,rfl⟩,q⟩
end
section
variable {κ:Type} [DecidableEq κ]
end
end L2
set_option maxHeartbeats 4000000
namespace L2
open PySem
def Ge(a:oA<|Str×kM):oA (Str×kY)->oA (Str×kM)->oA (Str×kM)
 |[],b=>b
 | (n,k)::r,b=>if k=NameKind.free then Ge a r ((n,(a.lookup n).getD 0)::b) else Ge a r b
def G5{a:kX}{env:Env}(h:∀x∈a.names,x.2=.free->∃c,env.cells.lookup x.1=some c) :
  closureFor a env=pure (Ge env.cells a.names []):=by
 have i:∀(names:oA<|Str×kY) (d:oA<|Str×kM),(∀x∈names,x.2=.free->∃c,env.cells.lookup x.1=some c) ->
   (do
     let mut g:=d
     for (b,f) in names do
      if f==.free then g:=(b,<- cellOf env b)::g
     return g:Sem<|oA<|Str×kM)=pure (Ge env.cells names d):=by
  intro names
  induction names with
  |nil=>intro d _;rfl
  |cons x r j=>
   intro d h;obtain⟨n,k⟩:=x;have l:∀y∈r,y.2=.free->∃c,env.cells.lookup y.1=some c:=λy hy=>h y<|K_ _ hy;by_cases hk:k=.free;subst hk;obtain⟨c,hc⟩:=h (n,.free) V_ rfl;have e:cellOf env n=pure c:=by unfold cellOf;rw[hc]
   have q:=j ((n,c)::d) l;simp only[List.forIn_cons,beq_self_eq_true,if_true,e];unfold Ge;rw[R_ rfl,hc];exact q;have hb:(k==NameKind.free)=false:=by simpa using hk
   have q:=j d l;simp only[List.forIn_cons,hb,Bool.false_eq_true,if_false];unfold Ge;rw[N_ hk];exact q
 exact i a.names [] h
theorem K0{a:oA<|Str×kM}:∀{names:oA<|Str×kY} {f:oA<|Str×kM},
  (∀x∈names,x.2=.free->∃c,a.lookup x.1=some c)->(∀x c,f.lookup x=some c->a.lookup x=some c) ->
  ∀x c,(Ge a names f).lookup x=some c->a.lookup x=some c
 |[],_,_,h,x,c,e=>h x c e
 | (n,k)::r,f,hf,h,x,c,e=>by
  unfold Ge at e;have g:∀y∈r,y.2=.free->∃c,a.lookup y.1=some c:=λy hy=>hf y<|K_ _ hy;by_cases hk:k=.free
  ·rw[R_ hk]at e;refine K0 g (λy d q=>?_) x c e;obtain⟨j,b⟩:=hf (n,k) V_ hk;have b:a.lookup n=some j:=b;rw[iO]at q;cases hy:y==n with
   |true=>
    rw[hy,b]at q;have i:y=n:=by simpa using hy
    rw[i,b];exact q
   |false=>rw[hy]at q;exact h y d q
  rw[N_ hk]at e;exact K0 g h x c e
theorem G9{a:oA<|Str×kM}{x:Str}:∀{names:oA<|Str×kY} {b:oA<|Str×kM},
  (∃c,b.lookup x=some c)->∃c,(Ge a names b).lookup x=some c
 |[],_,h=>h
 | (n,k)::r,b,⟨c,h⟩=>by
  unfold Ge;split
  ·refine G9 ?_;rw[iO];cases x==n with
   |true=>exact⟨_,rfl⟩
   |false=>exact⟨c,h⟩
  exact G9 ⟨c,h⟩
theorem Hk{a:oA<|Str×kM}{x:Str}:∀{names:oA<|Str×kY} {b:oA<|Str×kM},
  (x,NameKind.free)∈names->∃c,(Ge a names b).lookup x=some c
 | (n,k)::r,b,h=>by unfold Ge;rcases Z_.mp h with e|e;cases e;rw[R_ rfl];refine G9 ?_;rw[iO,beq_self_eq_true];exact⟨_,rfl⟩;split;exact Hk e;exact Hk e
end L2
namespace PySem
open Sem (wp)
section
variable {prog:kO}{w:kP}{A:kR}{E:kJ->kK->Prop}{R:kZ->kK->Prop}{s:kK}
def Px{B y D:kQ}{z:oA kQ}{d:kX}{pos:Pos}{u C:kJ}{env:Env}(I:Nat->kK->Prop)
  (turn:∀n s,I n s->qX prog w A (pyNext u) (λr f=>match r with
   |none=>R (.ok .next) f
   |some v=>qX prog w A (letOwnedTupleGo y u v) (λ_ b=>qX prog w A (assign y env v) (λ_ g=>
     qX prog w A (forIn z true λc r=>if r=true then do let ok <- isTrue c env (eval c env);pure (ForInStep.yield ok) else pure<|ForInStep.yield r) (λok a=>
      if ok=true then qX prog w A (eval B env) (λx l=>
       qX prog w A (call (.builtin "list.append") [C,x]) (λ_ i=>∃m,m<n/\I m i) (λ_ _=>False) l) (λ_ _=>False) a
      else ∃m,m<n/\I m a) (λ_ _=>False) g) (λ_ _=>False) b) (λ_ _=>False) f) (λ_ _=>False) s)
  (n:Nat) (h:I n s) :
  codeAny (model prog w) A (.compLoop (.ListComp B [⟨y,D,z,0⟩] d pos) 0 u C env) R s:=by
 refine codeAny_loop rfl I (λn s F=>?_) n h;show wpAny _ A ((compTurn (.ListComp B [⟨y,D,z,0⟩] d pos) 0 u C env).onRaise λx=>do noteFrame x env;theTreesLotGoes x) _ _ s;refine wpAny_noted ?_;rw[compTurn_list];refine A_<|gC<|A_<|a_ (turn n s F) (λr f j=>?_) λ_ _ e=>e.elim;cases r with
 |none=>exact DD j
 |some v=>
  refine A_<|a_ j (λ_ b o=>?_) λ_ _ e=>e.elim;refine A_<|a_ o (λ_ g q=>A_<|a_ q (λok a k=>?_) λ_ _ e=>e.elim) λ_ _ e=>e.elim;cases ok with
  |false=>exact DD ⟨rfl,k⟩
  |true=>exact A_<|A_<|a_ k (λx l t=>A_<|a_ t (λ_ i p=>DD<|DD ⟨rfl,p⟩) λ_ _ e=>e.elim) λ_ _ e=>e.elim
end
end PySem
namespace L2
open PySem PySem.Spec PyProof.Rows
def Py(mp:oA<|oB Nat)(a:St):St:=mp.map λo=>match o with|some i=>(a[i]?).join|none=>none
def FC(pn:oA<|Str×kY)(x:Str):Bool:=decide (pn.lookup x=some .cell)||decide (pn.lookup x=some .free)
def Y0(N:oA Str)(pn a:oA<|Str×kY)(N':oA Str)(mp:oA<|oB Nat):Bool :=
 decide (N'.length=mp.length)&&decide N'.Nodup &&
 (List.range N'.length).all (λk=>match mp[k]?,N'[k]? with
  |some (some i),some x=>decide (N[i]?=some x)&&FC pn x&&decide ((x,NameKind.free)∈a)&&decide (a.lookup x=some .free)
  |_,_=>true) &&
 a.all (λp=>decide (p.2≠.cell))&&a.all (λp=>decide (p.2≠.free)||FC pn p.1)&&a.all (λp=>decide (p.2≠.local)||decide (a.lookup p.1=some .local))
structure CompOk(N:oA Str)(pn cn:oA<|Str×kY)(N':oA Str)(mp:oA<|oB Nat):Prop where
 len:N'.length=mp.length
 nd:N'.Nodup
 map:∀(k i:Nat) (x:Str),mp[k]?=some (some i)->N'[k]?=some x->N[i]?=some x/\(pn.lookup x=some .cell\/pn.lookup x=some .free)/\(x,NameKind.free)∈cn/\cn.lookup x=some .free
 nocell:∀p∈cn,p.2≠.cell
 free:∀p∈cn,p.2=.free->(pn.lookup p.1=some .cell\/pn.lookup p.1=some .free)
 loc:∀p∈cn,p.2=.local->cn.lookup p.1=some .local
def Pz{pn:oA<|Str×kY}{x:Str}(h:FC pn x=true):pn.lookup x=some .cell\/pn.lookup x=some .free:=by unfold FC at h;rcases(jC _ _).mp h with h|h;exact .inl<|aS h;exact .inr<|aS h
def Bg{N:oA Str}{pn a:oA<|Str×kY}{N':oA Str}{mp:oA<|oB Nat}(h:Y0 N pn a N' mp=true):CompOk N pn a N' mp:=by unfold Y0 at h;obtain⟨h,j⟩:=(bL _ _).mp h;obtain⟨h,o⟩:=(bL _ _).mp h;obtain⟨h,g⟩:=(bL _ _).mp h;obtain⟨h,l⟩:=(bL _ _).mp h;obtain⟨h1,h2⟩:=(bL _ _).mp h;refine⟨aS h1,aS h2,λk i x c b=>?_,λp hp=>aS<|aV.mp g p hp,λp hp e=>?_,λp hp e=>?_⟩;have hk:k<N'.length:=(E_.mp b).1;have q:=aV.mp l k<|bC.mpr hk;simp only[c,b]at q;obtain⟨q,f⟩:=(bL _ _).mp q;obtain⟨q,d⟩:=(bL _ _).mp q;obtain⟨m,n⟩:=(bL _ _).mp q;exact⟨aS m,Pz n,aS d,aS f⟩;rcases(jC _ _).mp (aV.mp o p hp) with z|z;exact absurd e<|aS z;exact Pz z;rcases(jC _ _).mp (aV.mp j p hp) with z|z;exact absurd e<|aS z;exact aS z
theorem Ol{env:Env}:∀{names:oA<|Str×kY} {x:Str},names.lookup x=some .free ->
  (names.map λ(n,k)=>if(k==NameKind.free&&env.scope.kind==.function&&env.kindOf n==some .cell) then(n,NameKind.cell) else(n,k)).lookup x=some .cell \/
  (names.map λ(n,k)=>if(k==NameKind.free&&env.scope.kind==.function&&env.kindOf n==some .cell) then(n,NameKind.cell) else(n,k)).lookup x=some .free
 |[],_,h=>by simp at h
 | (n,k)::r,x,h=>by
  have a:=@Ol env r x;rw[bF];cases hx:x==n with
  |true=>simp only[List.lookup_cons,hx]at h;cases h;by_cases hc:(NameKind.free==NameKind.free&&env.scope.kind==.function&&env.kindOf n==some .cell)=true;refine .inl ?_;simp only[hc,if_true,List.lookup_cons,hx];refine .inr ?_;simp only[if_neg hc,List.lookup_cons,hx]
  |false=>simp only[List.lookup_cons,hx]at h;by_cases hc:(k==NameKind.free&&env.scope.kind==.function&&env.kindOf n==some .cell)=true;simp only[hc,if_true,List.lookup_cons,hx];exact a h;simp only[if_neg hc,List.lookup_cons,hx];exact a h
theorem Om{env:Env}:∀{names:oA<|Str×kY} {x:Str},(∀p∈names,p.2≠.cell) ->
  ((names.map λ(n,k)=>if(k==NameKind.free&&env.scope.kind==.function&&env.kindOf n==some .cell) then(n,NameKind.cell) else(n,k)).lookup x=some .cell \/
  (names.map λ(n,k)=>if(k==NameKind.free&&env.scope.kind==.function&&env.kindOf n==some .cell) then(n,NameKind.cell) else(n,k)).lookup x=some .free)->(x,NameKind.free)∈names
 |[],_,_,h=>by simp at h
 | (n,k)::r,x,b,h=>by
  have a:=@Om env r x λp hp=>b p<|K_ _ hp;rw[bF]at h;cases hx:x==n with
  |true=>
   have e:x=n:=by simpa using hx
   subst e;have hk:=b (x,k) V_;by_cases hc:(k==NameKind.free&&env.scope.kind==.function&&env.kindOf x==some .cell)=true;have:k=.free:=by simp only[Bool.and_eq_true]at hc;simpa using hc.1.1
   rw[this];exact V_;simp only[if_neg hc,List.lookup_cons,hx]at h;rcases h with h|h;exact absurd (aE h) hk;rw[aE h];exact V_
  |false=>by_cases hc:(k==NameKind.free&&env.scope.kind==.function&&env.kindOf n==some .cell)=true;simp only[hc,if_true,List.lookup_cons,hx]at h;exact K_ _<|a h;simp only[if_neg hc,List.lookup_cons,hx]at h;exact K_ _<|a h
end L2
namespace PySem
open Sem (wp)
end PySem
namespace L2
open PySem PySem.Spec PyProof.Rows
def B8(X:Cx)(N':oA Str)(a:kX)(C:kM)(s:kK)(H:Hp)(b:oA kM):Cx :=
 {X with N:=N',s₀:=s,H₀:=H,env:=compEnvC a (Ge X.env.cells a.names []) C X.env,outer:=X.stack,stack:=X.stack,ex:=b,fn:=λ_=>false,pn:=[],xe:=λ_ _=>False}
def PIfs(X:Cx)(d:oA kQ)(t:TT):Prop :=
 ∀(b:oA<|kM×kT) (s:kK) (a:St) (H:Hp) (Q:Bool->Hp->Prop),Inv X b a H s->t a H Q ->
  qX X.prog X.w X.A (forIn d true λc r=>if r=true then do let ok <- isTrue c X.env (eval c X.env);pure (ForInStep.yield ok) else pure<|ForInStep.yield r) (TP X b a Q) X.xe s
def ZD:TT:=λ_ H Q=>Q true H
def Y1{X:Cx}:PIfs X [] ZD:=λ_ _ _ H _ I h=>wpAny_tests_nil ⟨H,I,h⟩
def Y2{X:Cx}{c:kQ}{t:TT}(h:PT X c t):PIfs X [c] t:=λd s a H Q I b=>wpAny_tests_one<|h d s a H Q I b
def Y3(p:kM)(J:It)(g:TG)(tst:TT)(te:TE)(Q:Hp->Prop)(h:St)(H:Hp):Prop :=
 ∃W:Nat->Nat->oA V->St->Hp->Prop,(∃m,W 0 m [] h H)/\∀i m d e c,W i m d e c ->
  (J.stop i c/\Q c)\/(J.go i c/\∃N:oA V->St->Hp->Prop,(∀d h H,N d h H->∃l,l<m/\W (i+1) l d h H)/\∀x n,J.yld i c x n->g x e n λa o=>tst a o λb j=>
   if b=true then te a j λv k=>∃f,k p=some (.lst f)/\f.length<sizeLine/\N (f++[v]) a (upd k p<|.lst<|f++[v])
   else N d a j)
def Y4(mp:oA<|oB Nat)(d:TI)(g:TG)(tst:TT)(te:TE):TE:=λa H Q=>d a H λJ b=>∀p,b p=none ->
 Y3 p J g tst te (λc=>Q (.ref p) c) (Py mp a) (upd b p<|.lst [])
section
variable {X:Cx}{N':oA Str}{mp:oA<|oB Nat}{gs tg aw:kQ}{eg:oA kQ}{scope:kX}{pos:Pos}{wi:TI}{g:TG}{tst:TT}{te:TE}{K:kN}{a p:kM}{xs:oA V}{Q:Hp->Prop}{σ:St}{H:Hp}
def Inv.comp0{G:oA<|kM×kT}{σ:St}{H:Hp}{s:kK}{t:oA kM}{tn:kS->Prop}{f:kS}{tk:Nat}{C:kM}(ok:CompOk X.N X.env.scope.names scope.names N' mp)(hk:scope.kind=.function) (I:Inv X G σ H s) (hf:∀b∈t,F0 X G H b) (B:∀b∈t,∃o,s.heap.get? b=some o) (U:C=s.heap.objs.size+1) (Y:∃m,f.Ns C m) (d:∀b o,s.heap.get? b=some o->f.get? b=some o) (R:∃n,f.get? s.heap.objs.size=some {cls:=.type "list",data:=.seq #[] n}) (ht:0<tk:=by first|exact aQ _|assumption|exact Inv.tk<|by assumption) :
  Inv (B8 X N' scope C s H t) [] (Py mp σ) (upd H s.heap.objs.size<|.lst []) {s with heap:=f,toks:=tk}:=by
 subst U;have O:∀x∈scope.names,x.2=.free->∃c,X.env.cells.lookup x.1=some c:=λx hx e=>I.ok.has x.1<|ok.free x hx e;have sub:∀x c,(Ge X.env.cells scope.names []).lookup x=some c->X.env.cells.lookup x=some c:=K0 O (λx c e=>by simp at e);have L:∀b∈t,b<s.heap.objs.size:=λb hb=>by obtain⟨_,e⟩:=B b hb;exact G_ e
 have D:H (s.heap.objs.size+1)=none:=I.hok.fresh<|fP _;have ju:H s.heap.objs.size=none:=I.hok.fresh<|H_ _;have P:∀b∈t,b∉frs X.stack:=λb hb z=>by obtain⟨_,f1,f2,_⟩:=hf b hb;rcases Z_.mp (I.stkSub b z) with e|e;exact f1 e;exact f2 e
 refine⟨⟨I.ok.mod,hk,I.ok.glob,I.ok.blt,fP _,λx y c A F=>I.ok.inj x y c (sub x c A)<|sub y c F,λx e=>?_,λx c e=>(nomatch e),I.ok.hd,I.ok.frames,.inl rfl,λb hb=>⟨?_,λx c e=>?_⟩,I.bs,Q_ I.ok.bsz I.sz,λb o e hb=>?_,P,I.stack,I.stkFree⟩,
  rfl,I.bare,Un.laid d (H_ _) ju,?_,λx c e=>?_,?_,λx c e=>?_,λp hp=>(nomatch hp),I.hok.laid d (H_ _) ?_,?_,ht⟩
 exact Hk<|Om ok.nocell e
 exact O_<|d_<|L b hb
 exact(hf b hb).2.2.2.2.1 x c (sub x c e)
 rcases(hf b hb).2.2.2.1 with z|z;exact I.ok.noex b o e z;exact absurd (S_ (G_ e)<|Q_ I.ok.bsz z)<|dF _
 ·obtain⟨m,hm⟩:=Y;refine⟨m,hm,λi x v A F e3=>?_⟩;have h:(Py mp σ)[i]?=some (some v):=F;unfold Py at h;rw[F_]at h;cases hmp:mp[i]? with
  |none=>rw[hmp]at h;cases h
  |some o=>
   rw[hmp]at h;cases o with
   |none=>cases h
   |some j=>
    have S:σ[j]?=some (some v):=by
     have q:(σ[j]?).join=some v:=aE h;cases hj:σ[j]? with
     |none=>rw[hj]at q;cases q
     |some y=>rw[hj]at q;exact cF some q
    obtain⟨T,a2,a3,W⟩:=ok.map i j x hmp A;obtain⟨m0,xj,E⟩:=I.loc;obtain⟨u,r,l⟩:=E j x v T S<|a2.elim (λz=>.inr<|.inl z) λz=>.inr<|.inr z;refine⟨u,r,.inr ⟨?_,?_⟩⟩;exact Ol W;rcases l with⟨w,_⟩|⟨_,c,M,Z⟩;have w:X.env.scope.names.lookup x=some .local:=w;rcases a2 with a2|a2<;>rw[a2]at w<;>cases w;obtain⟨k,J⟩:∃k,(Ge X.env.cells scope.names []).lookup x=some k:=Hk a3;have:k=c:=aE<|(sub x k J).symm.trans M;subst this;exact⟨k,J,Z.keeps d⟩
 obtain⟨v,z⟩:=I.cell x c<|sub x c e;exact⟨v,z.keeps d⟩;show upd H s.heap.objs.size (.lst []) (s.heap.objs.size+1)=none;rw[Bd<|iP _];exact D;obtain⟨v,z⟩:=I.cell x c<|sub x c e;show upd H s.heap.objs.size (.lst []) c=none;rw[Bd<|O_ z.lt];exact I.freeC x c<|sub x c e;obtain⟨n,e⟩:=R;exact⟨aU _,[],n,.nil,e⟩;show(Py mp σ).length=N'.length;unfold Py;rw[B_,ok.len]
def P0{aa:oA<|kM×kT}{σ:St}{H:Hp}{s:kK}{it:kM}{j:oA kM}{tn:Nat->kS->Prop}{J:It}{Q:kM->Hp->Prop}{E:kJ->kK->Prop}{RR:kJ->kM->kZ->kK->Prop}
  (ok:CompOk X.N X.env.scope.names scope.names N' mp) (hk:scope.kind=.function) (hc:X.calm=true) (I:Inv X aa σ H s) (T:Turn X.prog X.w X.K tg J j it tn) (st:tn 0 s.heap) (hf:∀b∈j,F0 X aa H b)
  (hg:∀C s H j,PG (B8 X N' scope C s H j) tg g) (ht:∀C s H j,PIfs (B8 X N' scope C s H j) eg tst) (he:∀C s H j,PE (B8 X N' scope C s H j) gs te)
  (h:∀p,H p=none->Y3 p J g tst te (Q p) (Py mp σ) (upd H p<|.lst []))
  (hRR:∀C Y H',Inv X aa σ H' Y->(∃m,Y.heap.Ns C m)->H' C=none->X.s₀.heap.objs.size<=C->C≠X.env.locals->(∀x c,X.env.cells.lookup x=some c->c≠C)->(∀q∈X.pn++aa,q.1≠C)->Q s.heap.objs.size H'->RR (.ref s.heap.objs.size) C (.ok .next) Y) :
  qX X.prog X.w X.A (newList []) (λM k=>qX X.prog X.w X.A (newFunctionEnv scope X.env.globals (Ge X.env.cells scope.names []) [] X.env.qual none .none<|some X.env) (λxh s₄=>
   codeAny (model X.prog X.w) X.A (.compStart (.ListComp gs [⟨tg,aw,eg,0⟩] scope pos) 0 (.ref it) M {xh with scope:=relabel scope X.env}) (RR M xh.locals) s₄) E k) E s:=by
 refine bD (wpAny_newFunctionEnv ok.nocell (by intro y hy;simp at hy) (λt l f=>?_) hk);dsimp only at l f ⊢;generalize S:s.heap.push {cls:=.type "list",dict:=none,data:=.seq ([]:oA kJ).toArray}=H2 at l f ⊢;have hC:H2.objs.size=s.heap.objs.size+1:=by rw[<- S,cQ]
 have G:∀b o,s.heap.get? b=some o->t.get? b=some o:=λb o e=>
  f.extBut b o (by rw[hC];exact O_<|d_<|G_ e) (C_ _<|S ▸ C_ _ e)
 have ll:∃n,t.get? s.heap.objs.size=some {cls:=.type "list",data:=.seq #[] n} :=
  ⟨_,f.extBut _ _ (by rw[hC];exact O_<|fW _)<|C_ _<|S ▸ I_ _ rfl⟩
 have hob:∀b∈j,∃o,s.heap.get? b=some o:=λb hb=>by obtain⟨o,e,_⟩:=T.obj _ _ st b hb;exact⟨o,e⟩
 have nu:s.heap.objs.size<=H2.objs.size:=by rw[hC];exact fP _
 have I0:=I.comp0 (tn:=tn 0) (C:=H2.objs.size) (tk:=s.toks+([]:oA<|Str×kJ).length) ok hk hf hob hC ⟨_,l⟩ G ll;have st0:tn 0 t:=T.keep _ _ _ st λb hb o e=>G b o e;obtain⟨W,⟨m0,w0⟩,turn⟩:=h _<|I.hok.fresh<|H_ _;have pj:∀b∈j,b∉frs X.stack:=I0.ok.exfs;have jd:∀{H':Hp},(∀b∈j,H' b=none)->∀b∈j,F0 (B8 X N' scope H2.objs.size s H j) [] H' b:=λhn b hb=>
  ⟨hn b hb,(I0.ok.exf b hb).1,pj b hb,.inl hb,(I0.ok.exf b hb).2,λq hq=>(nomatch hq)⟩
 have L:∀k:kK,k={s with heap:=t,toks:=s.toks+([]:oA<|Str×kJ).length} ->
   codeAny (model X.prog X.w) X.A (.compLoop (.ListComp gs [⟨tg,aw,eg,0⟩] scope pos) 0 (.ref it) (.ref s.heap.objs.size)<|compEnvC scope (Ge X.env.cells scope.names []) H2.objs.size X.env) (RR (.ref s.heap.objs.size) H2.objs.size) k:=by
  rintro k rfl;refine Px (λn Y=>∃i M B H',Inv (B8 X N' scope H2.objs.size s H j) [] B H' Y/\tn i Y.heap/\(∀b∈j,H' b=none)/\W i n M B H') ?_ m0
   ⟨0,[],_,_,I0,st0,λb hb=>by rw[Bd<|O_ (by obtain⟨_,e⟩:=hob b hb;exact G_ e)];exact(hf b hb).1,w0⟩
  rintro n s3 ⟨i,M,F,H3,I3,st3,fr3,w3⟩;rcases turn i n M F H3 w3 with⟨stop,qn⟩|⟨go,N,hN,step⟩;refine thn (T.done (B8 X N' scope H2.objs.size s H j) rfl rfl rfl hc i [] s3 F H3 _ I3 (jd fr3) st3 stop) λr s4 ⟨hr,U⟩=>?_;subst hr;refine hRR _ s4 H3 ?_ (by obtain⟨m,hm,_⟩:=U.loc;exact⟨m,hm⟩) U.free (Q_ I.sz nu) (cZ<|S_ I.lt nu) (λx c e=>?_) (λq hq=>?_) qn;exact I.call' U.os U.base U.hok U.bare λb hb=>by obtain⟨_,f1,_,f3,f4,f5⟩:=hf b hb;exact⟨f3,f1,f4,f5⟩
  obtain⟨v,z⟩:=I.cell x c e;exact O_<|S_ z.lt nu;exact O_<|S_ (G_ (I.pin q hq).1) nu
  ·refine thn (T.item (B8 X N' scope H2.objs.size s H j) rfl rfl rfl hc i [] s3 F H3 _ I3 (jd fr3) st3 go) λr s4 ⟨u,hr,h4⟩=>?_;subst hr;refine thn h4 λ_ s5 vb=>?_;obtain⟨x,H5,I5,r5,y5,O,fr5⟩:=vb;have I5':=I5.pinned (jd fr5)<|T.obj _ _ O;refine thn (hg _ _ _ _ _ s5 F H5 x u _ I5' r5<|step x H5 y5) λ_ s6 xn=>?_;obtain⟨P,H6,I6,q6⟩:=xn;refine thn (ht _ _ _ _ _ s6 P H6 _ I6 q6) λb s7 ⟨H7,I7,q7⟩=>?_;have again:∀{D:St} {R:Hp} {r9:oA V} {Z:kK},Inv (B8 X N' scope H2.objs.size s H j) ([]++Ku j s5.heap) D R Z->(∃m',m'<n/\W (i+1) m' r9 D R) ->
     ∃m,m<n/\∃i M B H',Inv (B8 X N' scope H2.objs.size s H j) [] B H' Z/\tn i Z.heap/\(∀b∈j,H' b=none)/\W i m M B H':=λ{D R r9 Z} I8 hw=>by
    obtain⟨m',hm,w8⟩:=hw;refine⟨m',hm,i+1,r9,D,R,I8.unpinned,T.keep _ _ _ O λb hb o e=>(I8.pin (b,o)<|aW _<|aW _<|Fr hb e).1,λb hb=>?_,w8⟩;obtain⟨o,e,d⟩:=T.obj _ _ O b hb;exact(I8.pin (b,o)<|aW _<|aW _<|Fr hb e).2.1
   cases b with
   |false=>rw[N_ X_];rw[N_ X_]at q7;exact again I7 (hN _ _ _ q7)
   |true=>rw[R_ rfl];rw[R_ rfl]at q7;refine thn (he _ _ _ _ _ s7 P H7 _ I7 q7) λy Z u9=>?_;obtain⟨v,R,I8,r8,ac,e8,z8,w8⟩:=u9;refine thn (M6 (X:=B8 X N' scope H2.objs.size s H j) _ Z P R (.ref s.heap.objs.size) [v] (.ref s.heap.objs.size) [y] (λ_ H9=>H9=upd R s.heap.objs.size (.lst<|ac++[v])) I8 rfl (.cons r8 .nil) ⟨_,ac,v,rfl,rfl,e8,z8,rfl⟩) λ_ s9 u6=>?_;obtain⟨_,H9,I9,_,e9⟩:=u6;subst e9;exact again I9<|hN _ _ _ w8
 exact codeAny_compStart_list (L _ rfl)<|T.self _ 0 _ _ _ st0<|L _ rfl
def Inv.letgo{d:oA<|kM×kT}{σ:St}{H:Hp}{s:kK}{C:kM}{h':kS}(I:Inv X d σ H s)(h:H C=none)(h1:X.s₀.heap.objs.size<=C)(i:C≠X.env.locals)(h2:∀x c,X.env.cells.lookup x=some c->c≠C)
  (f:∀q∈X.pn++d,q.1≠C) (hs:Heap.SameBut C s.heap h'):Inv X d σ H {s with heap:=h'} :=
 I.turned (t':=s.toks) (λb o hb e=>(hs.2 b hb).trans e) h i (.inr h1) h2 f
def FD(hc:X.calm=true)(E:PI X tg aw wi)(k:∀C s H b,PG (B8 X N' scope C s H b) tg g)(z:∀C s H b,PIfs (B8 X N' scope C s H b) eg tst)(he:∀C s H b,PE (B8 X N' scope C s H b) gs te)
  (ok:CompOk X.N X.env.scope.names scope.names N' mp) (hk:scope.kind=.function:=by rfl) (hs:∀x,foldedSetIterable aw X.env x=pure x:=by intro _;rfl) :
  PE X (.ListComp gs [⟨tg,aw,eg,0⟩] scope pos) (Y4 mp wi g tst te):=by
 intro f s σ H Q I h;rw[eval_ListComp];refine wpAny_comprehension_free (use:=none) rfl hs (G5 λx hx e=>I.ok.has x.1<|ok.free x hx e) hk ok.loc<|thn (E f s σ H _ I h) λv L h1=>thn h1 λG j h2=>?_;obtain⟨S,b,O,J,P,e,n,T,d,D,t⟩:=h2;subst e;refine P0 (Q:=λp c=>Q (.ref p) c) (RR:=λB C=>compPost (model X.prog X.w) X.A X.xe none (EP X f σ Q) B C) ok hk hc n T d D k z he t ?_;intro C M c F u l h1 o i y q;obtain⟨m,hm⟩:=u;exact⟨m,hm,λR r=>⟨.ref j.heap.objs.size,c,F.letgo l h1 o i y r,rfl,q⟩⟩
def FE{i:Nat}{y:Str}{b B:Pos}(hc:X.calm=true)(F:X.N.Nodup)(W:X.N[i]?=some y)(hy:X.env.scope.names.lookup y=some .local)
  (hi:PI X tg aw wi) (G:∀C s H d,PG (B8 X N' scope C s H d) tg g) (U:∀C s H d,PIfs (B8 X N' scope C s H d) eg tst) (he:∀C s H d,PE (B8 X N' scope C s H d) gs te)
  (ok:CompOk X.N X.env.scope.names scope.names N' mp) (l:swapsWith (.ListComp gs [⟨tg,aw,eg,0⟩] scope pos) (some<|.Name y b) B.line X.env=pure true:=by rfl)
  (hk:scope.kind=.function:=by rfl) (hs:∀x,foldedSetIterable aw X.env x=pure x:=by intro _;rfl) :
  PS X (.Assign [.Name y b] (.ListComp gs [⟨tg,aw,eg,0⟩] scope pos) B) (EH (Y4 mp wi g tst te)<|Yk i):=by
 intro k s σ H D I h;rw[exec_Assign_Name_used _ _ _ _ l];refine A_<|gC<|A_ ?_;show wpAny _ _ (do let _ <- comprehension (.ListComp gs [⟨tg,aw,eg,0⟩] scope pos) scope X.env _ (newList []) false (eval aw X.env) (some<|assign (.Name y b) X.env)) _ _ s;refine A_<|a_ (wpAny_comprehension_free (use:=some<|assign (.Name y b) X.env) (Q:=λ_ c=>SP X k D .next c) rfl hs (G5 λx hx e=>I.ok.has x.1<|ok.free x hx e) hk ok.loc
  (thn (hi k s σ H _ I h) λv s1 h1=>thn h1 λitv u h2=>?_)) (λ_ c hq=>DD<|DD hq) λ_ _ e=>e
 obtain⟨it,d,tn,J,H2,e,M,T,o,Z,P⟩:=h2;subst e;refine P0 (Q:=λp f=>D.nx (σ.set i<|some<|.ref p) f) (RR:=λY C=>compPost (model X.prog X.w) X.A X.xe (some<|assign (.Name y b) X.env) (λ_ c=>SP X k D .next c) Y C) ok hk hc M T o Z G U he P ?_;intro C c f I' R L h1 z t S q;obtain⟨m,hm⟩:=R;show wpAny _ _ (assign (.Name y b) X.env<|.ref u.heap.objs.size) _ _ c;refine wpAny_assign_Name<|Mx I' F W (.inl hy) (v:=.ref u.heap.objs.size) rfl (λzl j E=>?_)<|.inr hy;obtain⟨a,r,ha⟩:=E;have n:C≠a:=by rcases ha with rfl|ha;exact z;exact(t _ _ ha).symm
 refine⟨m,hm.sameBut r n,λh' O=>?_⟩;exact⟨_,f,j.letgo L h1 z t S O,q⟩
def FF{J:It}(n:Nat)(f:Nat->oA V->St->Hp->Prop)(r:f 0 [] σ H)
  (t:∀i c σ H,i<n->f i c σ H->J.go i H) (u:∀c σ H,f n c σ H->J.stop n H/\Q H)
  (hs:∀i x c σ H j,i<n->f i c σ H->J.yld i H x j->g x σ j λd s=>tst d s λb l=>
   if b=true then te d l λv o=>∃h,o p=some (.lst h)/\h.length<sizeLine/\f (i+1) (h++[v]) d (upd o p<|.lst<|h++[v]) else f (i+1) c d l) :
  Y3 p J g tst te Q σ H:=by
 refine⟨λi m c σ H=>m=n-i/\i<=n/\f i c σ H,⟨n,by simp,aU _,r⟩,?_⟩;rintro i m c σ H ⟨rfl,w,pv⟩;by_cases k:i<n;exact .inr ⟨t i c σ H k pv,f<|i+1,λc σ H q=>⟨n-(i+1),by omega,rfl,k,q⟩,λx j y=>hs i x c σ H j k pv y⟩;have e:i=n:=by omega
 subst e;exact .inl<|u c σ H pv
def Kd{s:kK}{c:Prop} [Decidable c]{y z:Str}{t:Tok}{Q:kJ->kK->Prop}(e:t≠0)(hk:0<s.toks)(h:(if c then y else z).length<=sizeLine/\∀d k,d≠0->0<k->Q (.str (if c then y else z) d) {s with toks:=k}) :
  (if c then Made.val (.str y t) else Made.str z).post Q s:=by
 by_cases hc:c;rw[R_ hc];have b:=h.2 t s.toks e hk;rw[R_ hc]at b;exact b;rw[N_ hc];have b:=h.2 s.toks (s.toks+1) (cZ hk)<|aQ _;have h1:=h.1;rw[N_ hc]at b h1;exact⟨h1,b⟩
def ZE:V->oB Int->oB Int->Hp->VK->Prop:=λx lo b H Q=>∃z,x=.str z/\z.length<=sizeLine/\Q (.str<|Txt.slice z lo b) H
def MG:RN X ZE:=by
 intro m s σ H x v A w lo o y Q I r b n e h;obtain⟨z,rfl,hz,q⟩:=h;obtain⟨t,rfl⟩:=r;refine⟨"str",_,F.slot_str_getitem.lookup,gP _ _ _,?_⟩;have fin:∀d k,d≠0->0<k->EP X m σ Q (.str (Txt.slice z lo o) d) {s with toks:=k}:=λd k h1 h2=>⟨.str _,H,I.tok _,⟨⟨_,h1⟩,rfl⟩,q⟩;cases n with
 |none=>
  cases e with
  |none=>exact e_ (l:=none) (u:=none) (st:=none) b rfl (Kd t.2 I.tk ⟨Q_ (Txt.slice_le z _ _) hz,fin⟩)
  |int j c=>exact e_ (l:=none) (u:=some (j,c)) (st:=none) b rfl (Kd t.2 I.tk ⟨Q_ (Txt.slice_le z _ _) hz,fin⟩)
 |int i f=>
  cases e with
  |none=>exact e_ (l:=some (i,f)) (u:=none) (st:=none) b rfl (Kd t.2 I.tk ⟨Q_ (Txt.slice_le z _ _) hz,fin⟩)
  |int j c=>exact e_ (l:=some (i,f)) (u:=some (j,c)) (st:=none) b rfl<|Kd t.2 I.tk ⟨Q_ (Txt.slice_le z _ _) hz,fin⟩
def Y5(hc:X.calm=true):Gc X (.builtin "all") (λxs H Q=>∃(p:kM) (c:oA Bool),xs=[.ref p]/\Fa X.K H p (c.map V.bl)/\Q (.bl<|c.all id) H):=by
 intro G s σ H xs N Q I r h;obtain⟨p,c,rfl,hq,q⟩:=h;obtain⟨u,rfl,E⟩:=Fb r;cases E;obtain⟨l,w,f,hz⟩:=I.list hq;have m:=w.length;rw[B_]at m;refine wtk I.tk<|call_all_walk<|eA f.isList ?_;have F:p≠s.heap.objs.size:=O_ (by obtain⟨_,C,_⟩:=f.isList;exact G_ C);refine⟨s.heap.objs.size,_,_,_,_,_,λi=>c.getD i true,rfl,Walks.list (show X.A.in1.handled=none from I.ok.hd hc) s.heap.objs.size p F l.toArray,?_,?_,λL J k hk=>?_⟩;exact⟨⟨_,I_ _ rfl,rfl,rfl⟩,f.isList.at λo e=>C_ _ e⟩;intro i v y D M B j;have hv:l[i]?=some v:=by simpa using B
 have d:i<c.length:=by rw[m];exact(E_.mp hv).1
 obtain⟨u,n,z⟩:=w.get (i:=i) (x:=V.bl c[i]) (by simp[d]);rw[hv]at n;cases n;cases (show v=Value.bool c[i] from z);refine dB ?_;have e:c.getD i true=c[i]:=by simp[d]
 have t:D (c.getD i true) y:=j;rw[e]at t;exact t;have e:(List.range l.toArray.size).all (λi=>c.getD i true)=c.all id:=by rw[T_,<- m];rw[gK,aV,aV];constructor;intro a x hx;obtain⟨i,d,rfl⟩:=List.mem_iff_getElem.mp hx;have:=a i<|bC.mpr d;simpa [d] using this;intro a i d;have d:=bC.mp d;have:=a c[i]<|aL d;simpa [d] using this
 rw[e];exact⟨.bl _,H,I.kept λb o e=>k b o (by
  intro hb;have:b=s.heap.objs.size:=by simpa using hb
  exact absurd (G_ e)<|by rw[this];exact dF _)<|C_ _ e,rfl,q⟩
def FG{s:kK}{b:Str}{Q:kJ->kK->Prop}(hk:0<s.toks):∀(l:oA<|Str×Tok),(∀p∈l,p.2≠0)->((Txt.join b<|l.map (·.1)).length<=sizeLine/\∀c k,c≠0->0<k->Q (.str (Txt.join b<|l.map (·.1)) c) {s with toks:=k})->(joinMade b l).post Q s
 |[],_,h=>⟨h.1,h.2 _ _ (cZ hk)<|aQ _⟩
 |[p],hp,h=>h.2 p.2 s.toks (hp p<|Y_.mpr rfl) hk
 |_::_::_,_,h=>⟨h.1,h.2 _ _ (cZ hk)<|aQ _⟩
def Ws:∀{ys:oA Str} {b:oA kJ},Vals (ys.map V.str) b->∃l:oA<|Str×Tok,b=strValues l/\l.map (·.1)=ys/\∀p∈l,p.2≠0:=λ{ys b} r=>by
 induction ys generalizing b with
 |nil=>cases r;exact⟨[],rfl,rfl,λ_ h=>nomatch h⟩
 |cons y ys d=>
  cases r with
  |cons r t=>obtain⟨c,rfl⟩:=r;obtain⟨l,rfl,rfl,h⟩:=d t;exact⟨(y,c.1)::l,rfl,rfl,λp hp=>(Z_.mp hp).elim (λe=>e ▸ c.2)<|h p⟩
def FH:RP X "str.join" (λx xs H Q=>∃z p c,x=.str z/\xs=[.ref p]/\Fa X.K H p (c.map V.str)/\(c.map (·.length)).sum+c.length*z.length<=16777216/\Q (.str<|Txt.join z c) H):=by intro o s σ H x xs v m Q I j r h;obtain⟨z,p,c,rfl,rfl,hq,hz,q⟩:=h;obtain⟨t,rfl⟩:=j;obtain⟨u,rfl,e⟩:=Fb r;cases e;obtain⟨n,d,i,_⟩:=I.list hq;obtain⟨l,rfl,rfl,f⟩:=Ws d;have b:=PyProof.Rows.joinOk_of hz;unfold JoinOk at b;rw[Bool.not_eq_true']at b;exact fC F.slot_str_join (gP _ _ _) F.entry_str_join (F.args_str_join_2 _ _) (meets_str_join_list z t.1 p l b) ⟨i.isList,FG I.tk l f ⟨joinFit_length b,λw k h1 h2=>⟨.str _,H,I.tok _,⟨⟨_,h1⟩,rfl⟩,q⟩⟩⟩
def Its(x:Str):It:=⟨λi _=>i<x.cps.size,λi H v b=>b=H/\∃c,x.cps[i]?=some c/\v=.str ⟨#[c]⟩,λi _=>i=x.cps.size⟩
def Y6{P:kO}{w:kP}{K:kN}{tg:kQ}(f:kM)(x:Str)(t:Tok)(n:String)(m:n = "str_ascii_iterator" \/ n = "str_iterator") :
  Turn P w K tg (Its x) [f] f (λi h=>h.IsStrIter f n x t i) where
 mem:=by simp
 obj:=λi h st b hb=>by
  have e:b=f:=by simpa using hb
  subst e;obtain⟨o,e,c,d⟩:=st;exact⟨o,e,λv z=>by rw[d]at z;cases z⟩
 keep:=λi h j st k=>let⟨o,T,r⟩:=st;⟨o,k f (by simp) o T,r⟩
 item:=by
  intro X q F B hc i N s σ H E I hf st l;subst q F B;obtain⟨G,J,Y,f3,y,C⟩:=hf f (by simp);have l:i<x.cps.size:=l;have W:∀{Q:oB kJ->kK->Prop} {E:kJ->kK->Prop},(∀c j,x.cps[i]?=some c->j.IsStrIter f n x t (i+1)->(∀b o,b∉[f]->s.heap.get? b=some o->j.get? b=some o)->Q (some<|.str ⟨#[c]⟩ s.toks) {s with heap:=j,toks:=s.toks+1})->qX X.prog X.w X.A (pyNext<|.ref f) Q E s:=λh=>by rcases m with rfl|rfl;exact wpAny_pyNext_ascii_item st (c:=x.cps[i]) (by simp[l]) λj L D=>h _ j (by simp[l]) L λb o hb e=>D.extBut b o (λh=>hb<|by simp[h]) e;exact wpAny_pyNext_wide_item st (c:=x.cps[i]) (by simp[l]) λj L D=>h _ j (by simp[l]) L λb o hb e=>D.extBut b o (λh=>hb<|by simp[h]) e
  refine W λc j u O M=>?_;have U:Inv X N σ H {s with heap:=j,toks:=s.toks+1}:=I.turned (λb o hb e=>M b o (by simpa using hb) e) G J f3 y C;obtain⟨o,e,Z,R⟩:=id O;refine⟨_,rfl,T6 (s:={s with heap:=j,toks:=s.toks+1}) (n:=n) e Z R (by rcases m with rfl|rfl<;>decide) ⟨.str ⟨#[c]⟩,H,U,⟨⟨_,I.tz⟩,rfl⟩,⟨rfl,c,u,rfl⟩,O,λb hb=>(hf b hb).1⟩⟩
 done:=by
  intro X q F B hc i N s σ H E I hf st l;subst q F B;obtain⟨G,J,Y,f3,y,C⟩:=hf f (by simp);have l:i=x.cps.size:=l;subst l;have W:Walks X.prog X.w X.A f [f] [f] x.cps.size (SignAt x) (λi h=>h.IsStrIter f n x t i):=by rcases m with rfl|rfl;exact Walks.strAscii (I.ok.hd hc) f x t;exact Walks.strWide (I.ok.hd hc) f x t
  exact wtk I.tk (W.done s _ _ st λj S M hk=>⟨rfl,I.turned (t':=S) (λb o hb e=>M b o (by simpa using hb) e) G J f3 y C⟩)
 self:=λA i s Q E st h=>by rcases m with rfl|rfl;exact wpAny_pyIter_striter_ascii st h;exact wpAny_pyIter_striter_wide st h
def ZF(c:TE):TI:=λσ H R=>c σ H λx b=>∃z,x=.str z/\R (Its z) b
def MH{tg l:kQ}{f:TE}(hl:PE X l f):PI X tg l (ZF f):=by
 intro k s σ H R I h;refine thn (hl k s σ H _ I h) λv c i=>?_;obtain⟨x,n,d,j,m⟩:=i;obtain⟨z,e,q⟩:=m;subst e;obtain⟨t,rfl⟩:=j;refine wpAny_pyIter_strU ?_;refine⟨c.heap.objs.size,[c.heap.objs.size],_,_,n,rfl,d.kept (t':=c.toks) λb o e=>C_ _ e,Y6 _ z t (strIterType z)<|by unfold strIterType;split<;>simp,⟨_,I_ _ rfl,rfl,rfl⟩,λb hb=>?_,q⟩;have e:b=c.heap.objs.size:=by simpa using hb
 subst e;exact d.fpOk (H_ _)<|d.hok.fresh<|H_ _
end
def seven{n:Nat}(h:n<=1000):n<=sizeLine:=dN<|Bm h
end L2
namespace PySem
open Sem (wp)
open AutoSeq1 (wpAny_loadPart')
set_option maxRecDepth 100000
section
variable {prog:kO}{w:kP}{A:kR}{E:kJ->kK->Prop}{s:kK}
def Gf{a t:kM}{i:Nat}{items}{x:kJ}{Q:kJ->kK->Prop}(e:s.heap.IsTupleIter a t i)
  (g:s.heap.IsTuple t items) (hx:items[i]?=some x)
  (h:∀d,d.IsTupleIter a t (i+1)->Heap.SameBut a s.heap d->Q x {s with heap:=d}) :
  qX prog w A (Builtin.SmallTypes.nextOf<|.ref a) Q E s:=by
 obtain⟨o,b,hc,hd⟩:=id e;obtain⟨k,f,_,j,c⟩:=g;unfold Builtin.SmallTypes.nextOf;refine A_<|cH (name:=Str.ofString "__next__") e.typeIs F.slot_tuple_iterator_next
  (bQ F.slot_tuple_iterator_next e.typeIs F.entry_tuple_iterator_next ?_<|F.args_tuple_iterator_next_1 _)
 show wpAny _ _ (field (.ref a) 0>>=_) _ _ s;refine A_<|bJ b hd (x:=.ref t) rfl ?_;show wpAny _ _ (if(Value.ref t==Value.none)=true then _ else _) _ _ s;rw[N_<|show ¬((Value.ref t==Value.none)=true) from X_];show wpAny _ _ (field (.ref a) 1>>=_) _ _ s;refine A_<|bJ b hd (x:=.int i 0) rfl ?_;show wpAny _ _ (seqItems? (.ref t)>>=_) _ _ s;refine A_<|bR f c ?_;simp only[Int.toNat_natCast,hx];refine A_ (eJ b hd (by simp)<|DD ⟨x,rfl,DD<|h _ ?_<|b_ ..⟩);exact⟨_,aX _ b<|fL<|eK hd _,(Obj.cls_mapFields ..).trans hc,by
  rw[eK hd];simp[rawInt]⟩
def G2{b t:kM}{i:Nat}{items}{Q:kJ->kK->Prop}(h:A.handled=none)
  (f:s.heap.IsTupleIter b t i) (k:s.heap.IsTuple t items) (hx:items[i]?=none)
  (l:∀d e,Heap.ExtBut b s.heap d->(∃o,d.get? e=some o/\o.cls=.type "StopIteration")->E (.ref e) {s with heap:=d}) :
  qX prog w A (Builtin.SmallTypes.nextOf<|.ref b) Q E s:=by
 obtain⟨o,g,hc,hd⟩:=id f;obtain⟨p,j,_,n,c⟩:=k;unfold Builtin.SmallTypes.nextOf;refine A_<|cH (name:=Str.ofString "__next__") f.typeIs F.slot_tuple_iterator_next
  (bQ F.slot_tuple_iterator_next f.typeIs F.entry_tuple_iterator_next ?_<|F.args_tuple_iterator_next_1 _)
 show wpAny _ _ (field (.ref b) 0>>=_) _ _ s;refine A_<|bJ g hd (x:=.ref t) rfl ?_;show wpAny _ _ (if(Value.ref t==Value.none)=true then _ else _) _ _ s;rw[N_<|show ¬((Value.ref t==Value.none)=true) from X_];show wpAny _ _ (field (.ref b) 1>>=_) _ _ s;refine A_<|bJ g hd (x:=.int i 0) rfl ?_;show wpAny _ _ (seqItems? (.ref t)>>=_) _ _ s;refine A_<|bR j c ?_;simp only[Int.toNat_natCast,hx];refine A_ (eC<|A_<|eJ g hd (by simp) ?_);show wpAny _ _ (newExc (.type "StopIteration") []>>=_) _ _ _;refine A_ ?_;simp only[newExc,newTuple];refine A_ (bD ?_<|by size_fits);refine A_ (m:=firstArgMember _ _) (kH (a:=Value.none) (by first|rfl|(simp only[firstArgMember];rfl)) ?_);refine bD ?_ (by size_fits);simp only[raiseNew];refine A_<|wpAny_handled ?_
 first|rw[show A.in1.handled=none from h]|rw[h]
 refine A_<|DD<|wpAny_throw ?_;exact l _ _ (((b_ ..).extBut.push _).push _) ⟨_,I_ _ rfl,rfl⟩
def Ed{prog:kO}{w:kP}{A:kR}(f:A.handled=none)(a l:kM)(n:l≠a)(items:oC kJ) :
  Draws prog w A a [a,l] items.size (λi v=>items[i]?=some v) (λi h=>h.IsTupleIter a l i/\h.IsTuple l items) where
 live:=λ_ _ st=>let⟨o,m,_⟩:=st.1;⟨o,m⟩
 frame:=λ_ _ _ st hk=>⟨st.1.at λo e=>hk a (by simp) o e,st.2.at λo e=>hk l (by simp) o e⟩
 item:=λi s Q E b st g=>by refine Gf st.1 st.2 (x:=items[i]) (by simp[b]) λd j c=>?_;exact g _ d s.toks (by simp[b]) ⟨j,st.2.extBut c.extBut n⟩ c
 done:=λs Q E st k=>G2 f st.1 st.2 (by simp) k
def G3(l:kM)(items:oC kJ)(n:Nat)(b:oB kM)(i:oC<|oB kJ) :
  Meets (Builtin.«enumerate.__new__» ⟨[.type "enumerate",.ref l],[]⟩) (λ_ R s=>s.heap.get? l=some {cls:=.type "tuple",dict:=b,data:=.seq items n,slots:=i} /\
   R (.ok<|.ret<|.ref (s.heap.push {cls:=.type "tuple_iterator",data:=.fields #[.ref l,.int 0 0]}).objs.size)
    {s with heap:=(s.heap.push {cls:=.type "tuple_iterator",data:=.fields #[.ref l,.int 0 0]}).push {cls:=.type "enumerate",data:=.fields #[.none,.bool false,.ref s.heap.objs.size,rawInt 0,.none,.none]}}) :=
 .of_wp λprog w A R s h=>by
  obtain⟨hp,g,d,f,os⟩:=s;obtain⟨a,h⟩:=h;have j:=sub_enumerate;have e:Heap.IsTuple (Shared.heap ⟨hp,g,d,f,os⟩) l items:=⟨_,a,rfl,n,rfl⟩
  wp_walk using gL a
  refine wpAny_stack_any λst=>DD ?_;split;rename_i c _ _ _ _ _;cases (c==Value.type "enumerate")
  wp_walk using gL a,dX e
  exact⟨_,rfl,h⟩
  wp_walk using gL a,dX e
  exact⟨_,rfl,h⟩
  wp_walk using gL a,dX e
  exact⟨_,rfl,h⟩
def Ha{l:kM}{items:oC kJ}{Q:kJ->kK->Prop}(g:s.heap.IsTuple l items)
  (h:∀a,IsEnum a (s.heap.objs.size+1) s.heap.objs.size 0 .none->a.IsTupleIter s.heap.objs.size l 0->a.objs.size=s.heap.objs.size+2 ->
   (∀b o,s.heap.get? b=some o->a.get? b=some o)->Q (.ref<|s.heap.objs.size+1) {s with heap:=a}) :
  qX prog w A (call (.type "enumerate") [.ref l]) Q E s:=by
 obtain⟨⟨c,e,dt,i⟩,f,hc,n,hd⟩:=g;replace hc:c=.type "tuple" := hc;replace hd:dt=.seq items n:=hd;subst hc hd;refine callType_new F.called_enumerate (by decide) (F.typeCall_enumerate_1 _) (F.newCall_enumerate_1 _) (λd=>F.args_object_init_2 d _) F.entry_enumerate_new
  (G3 l items n e i) ⟨f,?_⟩
 have hz:(s.heap.push {cls:=.type "tuple_iterator",data:=.fields #[.ref l,.int 0 0]}).objs.size=s.heap.objs.size+1:=cQ ..;show _/\_;rw[hz];have he:IsEnum ((s.heap.push {cls:=.type "tuple_iterator",data:=.fields #[.ref l,.int 0 0]}).push
   {cls:=.type "enumerate",data:=.fields #[.none,.bool false,.ref s.heap.objs.size,rawInt 0,.none,.none]}) (s.heap.objs.size+1) s.heap.objs.size 0 .none:=by
  have:=I_ (s.heap.push {cls:=.type "tuple_iterator",data:=.fields #[.ref l,.int 0 0]})
   (o:={cls:=.type "enumerate",data:=.fields #[.none,.bool false,.ref s.heap.objs.size,rawInt 0,.none,.none]}) rfl
  rw[hz]at this;exact this
 refine⟨⟨_,he,rfl⟩,h _ he ⟨_,C_ _<|I_ _ rfl,rfl,rfl⟩ (by rw[cQ,hz]) λb o x=>C_ _<|C_ _ x⟩
end
end PySem
namespace L2
open PySem PySem.Spec PyProof.Rows
def J7(ds:oA kL)(lo a:oB Int):oA kL:=(ds.drop<|HT.sIx ds.length 0 lo).take<|HT.sIx ds.length ds.length a-HT.sIx ds.length 0 lo
section
variable {X:Cx}{k:Nat}{aa:oA<|kM×kT}{σ:St}{H:Hp}{s:kK}{h':kS}
noncomputable def Na(h:kS)(e:kL)(u:kJ):Bool:=@decide (∃d a,Reads h u d a/\d.canLay0=true/\PyData.eqv d e=true) (Classical.propDecidable _)
def Y7{h:kS}{e d:kL}{u:kJ}{a:oA kM}(r:Reads h u d a)(c:d.canLay0=true):Na h e u=PyData.eqv d e:=by
 unfold Na;cases q:PyData.eqv d e with
 |true=>exact @aN _ (Classical.propDecidable _) ⟨d,a,r,c,q⟩
 |false=>refine @aF _ (Classical.propDecidable _) λf=>?_;obtain⟨g,b,i,_,j⟩:=f;rw[SeqAt.Reads.unique d g u a b c r i,j]at q;cases q
theorem Ec{A:kR}{s:kK}{e:kL}{v:kJ}{n:oA kM}(h:Reads s.heap v e n)(i:e.canLay0=true)(o:A.units+64<cLine):∀{ds:oA kL} {b:oA kJ} {m:oA kM},ReadsAll s.heap b ds m ->
  PyData.canLayAll0 ds=true->PyData.depthAll ds<=64->(∀u∈b,SeqAt.EqAt A s u v<|Na s.heap e u)/\b.any (Na s.heap e)=ds.any λd=>PyData.eqv d e
 |[],_,_,r,_,_=>by cases r;exact⟨(λ_ z=>nomatch z),rfl⟩
 |d::ds,_,_,r,c,l=>by
  cases r with
  |cons g p=>simp only[PyData.canLayAll0,Bool.and_eq_true]at c;simp only[PyData.depthAll]at l;obtain⟨j,q⟩:=Ec h i o p c.2 (by omega);have f:=Y7 (e:=e) g c.1;refine⟨λu a=>?_,?_⟩;rcases Z_.mp a with rfl|z;rw[f];exact fX d e A s _ v _ _ g h c.1 i (by omega);exact j u z;rw[dL,dL,f,q]
def Inv.turnedL{t':Nat}{a:oA kM}(I:Inv X aa σ H s)(k:∀b o,b∉a->s.heap.get? b=some o->h'.get? b=some o)(hf:∀b∈a,F0 X aa H b)(w:0<t':=by first|exact aQ _|assumption|exact Inv.tk<|by assumption):Inv X aa σ H {s with heap:=h',toks:=t'}:=by
 have d:∀b u,H b=some u->b∉a:=λb u e z=>by rw[(hf b z).1]at e;cases e
 have f:X.env.locals∉a:=λz=>(hf _ z).2.1 rfl;refine I.step (g':=s.gens) (d':=s.drawn) (ch:=a) (λb hb=>?_) (λb o _ _ hc e _=>k b o hc e) (λb o _ _ hc e _=>⟨o.slots,k b o hc e⟩) (λ_ _ _ _ n=>n)
  (λb o hc e=>⟨o,k b o hc e⟩) (λ_ _ e=>e) (λ_ _ _ e=>e) (λb t e=>⟨#[],by rw[e];simp⟩) (λm hm=>?_) (λb u e=>?_) I.bare
 obtain⟨_,g,_,f3,i,j⟩:=hf b hb;exact⟨f3,g,i,j⟩;obtain⟨o,l,h,p,r⟩:=hm;exact⟨o,l,h,k _ o f p,r⟩;refine(I.hok b u e).stay (λc v hc q=>k c v ?_ q) (λ_ q=>q) λ_ _ q=>q;rcases hc with z|z;rw[z];exact d b u e;exact d c _ z
def Inv.track{T:kM}{o:HO}(I:Inv X aa σ H s)(f:F0 X aa H T)(d:Bs X.prog X.w (upd H T o) s.heap T o):Inv X aa σ (upd H T o) s:=by
 obtain⟨g,h,_,f3,i,j⟩:=f;have a:∀b u,H b=some u->b≠T:=λb u e z=>by rw[z,g]at e;cases e
 refine I.step (H':=upd H T o) (h':=s.heap) (g':=s.gens) (d':=s.drawn) (t':=s.toks) (ch:=[T]) (λb hb=>?_) (λb o _ _ _ e _=>e) (λb o _ _ _ e _=>⟨o.slots,e⟩)
  (λb u hc _ n=>by rw[Bd λz=>hc<|by simp[z]];exact n) (λb o _ e=>⟨o,e⟩) (λb l e=>by rw[Bd<|a b _ e];exact e) (λb u v e=>by rw[Bd<|a b _ e];exact e)
  (λb p e=>⟨#[],by rw[Bd<|a b _ e,e];simp⟩) (λm hm=>hm) (λb u e=>?_) I.bare
 have e:b=T:=by simpa using hb
 subst e;exact⟨f3,h,i,j⟩;by_cases hb:b=T;subst hb;rw[Bo]at e;cases e;exact d;rw[Bd hb]at e;exact(I.hok b u e).stay (λ_ _ _ q=>q) (λc q=>by rw[Bd<|a c _ q];exact q) λc l q=>by rw[Bd<|a c _ q];exact q
def Ien(K:kN)(a:kM):It :=
 ⟨λi H=> ∃ b x, Ii K H a b /\ b[i]? = some x,
  λi H v c=> ∃ T x, H T = none /\ v = .ref T /\ c = upd H T (.tup [.int i, x]) /\ ∀ b, Ii K H a b -> b[i]? = some x,
  λi H=> ∃ b, Ii K H a b /\ b.length = i⟩
def Wt{P:kO}{w:kP}{K:kN}{bz:oA kQ}{k:Nat}{pos:Pos}(a e j:kM)(F:e≠j) :
  Turn P w K (.Tuple bz k pos) (Ien K a) [e,j] e (λi h=>(∃l,IsEnum h e j i l)/\h.IsTupleIter j a i) where
 mem:=by simp
 obj:=λi h st b hb=>by
  rcases Z_.mp hb with rfl|hb;obtain⟨⟨l,he⟩,_⟩:=st;exact⟨_,he,λv z=>nomatch z⟩;have q:b=j:=by simpa using hb
  subst q;obtain⟨_,o,e,c,d⟩:=st;exact⟨o,e,λv z=>by rw[d]at z;cases z⟩
 keep:=λi h h' st k=>⟨by obtain⟨l,he⟩:=st.1;exact⟨l,k e (by simp) _ he⟩,st.2.at λo q=>k j (by simp) o q⟩
 item:=by
  intro X S V U hc i aa s σ H E I hf st M;subst S V U;obtain⟨xs,x,hq,hx⟩:=M;obtain⟨D,O,p,hz⟩:=I.tuple hq;obtain⟨u,Y,ru⟩:=O.get hx;obtain⟨⟨l,he⟩,y⟩:=id st;have N:a≠e:=by intro z;subst z;obtain⟨o,g,m,_⟩:=p;rw[he]at g;cases g;exact absurd m<|by intro z;injection z with z;exact absurd z<|by decide
  have L:a≠j:=by intro z;subst z;obtain⟨o,g,m,_⟩:=p;obtain⟨o',B,f,_⟩:=y;rw[g]at B;cases B;rw[m]at f;exact absurd f<|by intro z;injection z with z;exact absurd z<|by decide
  have W:=hJ (prog:=X.prog) (w:=X.w) (A:=X.A) (Ed (A:=X.A.in1) (I.ok.hd hc) j a L D.toArray) e F (by simp[F,Ne.symm N]) (by simp);refine wtk I.tk (W.item i s _ _ (by rw[T_];exact(E_.mp Y).1) ⟨⟨l,he⟩,y,p⟩ λT ir h' C hv J ht hm R hk=>?_);have n:=W.apart i T h' hm;refine⟨_,rfl,W.go bz k pos i T _ _ _ hm λjo fe Z=>?_⟩;obtain⟨t,G,hx',rfl⟩:=hv;have wm:G=u:=by
   have:D[i]?=some G:=by simpa using hx'
   rw[Y]at this;exact(aE this).symm
  subst wm;have I1:Inv X aa σ H {s with heap:=h',toks:=C}:=I.turnedL R hf;have I2:Inv X aa σ H {s with heap:=jo,toks:=C}:=I1.turnedL (s:={s with heap:=h',toks:=C}) (t':=C) Z hf;have fT:F0 X aa H T:=I.fpOk J<|I.hok.fresh J;have kr:IsTup jo T #[.int i t,G]:=let⟨o,g,r⟩:=ht;⟨o,Z T o n g,r⟩
  refine⟨.ref T,upd H T<|.tup [.int i,x],I2.track fT ⟨⟨by show 2<=sizeLine;decide,.inr ⟨_,_,rfl⟩⟩,[.int i t,G],.cons ⟨t,rfl⟩<|.cons ru .nil,kr⟩,rfl,⟨T,x,fT.1,rfl,rfl,λys hy=>by rw[I.tuple_inj hy hq];exact hx⟩,⟨fe.1,fe.2.1⟩,λb hb=>?_⟩;have i8:b≠T:=by
   rcases Z_.mp hb with rfl|hb;exact O_<|S_ (G_ he) J;have q:b=j:=by simpa using hb
   subst q;obtain⟨o,g,_⟩:=y;exact O_<|S_ (G_ g) J
  rw[Bd i8];exact(hf b hb).1
 done:=by
  intro X S V U hc i aa s σ H E I hf st M;subst S V U;obtain⟨xs,hq,hl⟩:=M;obtain⟨D,O,p,hz⟩:=I.tuple hq;obtain⟨⟨l,he⟩,y⟩:=id st;have N:a≠e:=by intro z;subst z;obtain⟨o,g,m,_⟩:=p;rw[he]at g;cases g;exact absurd m<|by intro z;injection z with z;exact absurd z<|by decide
  have L:a≠j:=by intro z;subst z;obtain⟨o,g,m,_⟩:=p;obtain⟨o',B,f,_⟩:=y;rw[g]at B;cases B;rw[m]at f;exact absurd f<|by intro z;injection z with z;exact absurd z<|by decide
  have W:=hJ (prog:=X.prog) (w:=X.w) (A:=X.A) (Ed (A:=X.A.in1) (I.ok.hd hc) j a L D.toArray) e F (by simp[F,Ne.symm N]) (by simp);have hn:D.toArray.size=i:=by rw[T_,<- O.length];exact hl
  subst hn;exact wtk I.tk (W.done s _ _ ⟨⟨l,he⟩,y,p⟩ λh' C R hk=>⟨rfl,I.turnedL R hf⟩)
 self:=λA i s Q E st h=>by obtain⟨⟨_,he⟩,_⟩:=st;exact hV he h
def MI{J:It}{g:TG}{l:TS}{D:Ends}{σ:St}{H:Hp}(n:Nat)(a:Nat->St->Hp->Prop)(o:a 0 σ H)(r:∀i σ H,i<n->a i σ H->J.go i H)(t:∀ σ H,a n σ H->J.stop n H/\D.nx σ H)
  (hs:∀i x σ H f,i<n->a i σ H->J.yld i H x f->g x σ f λc q=>l {D with nx:=a<|i+1,ct:=a<|i+1,bk:=D.nx} c q) :
  ∃W:Nat->Nat->St->Hp->Prop,(∃m,W 0 m σ H)/\∀i m σ H,W i m σ H ->
   (J.stop i H/\D.nx σ H)\/(J.go i H/\∃N:St->Hp->Prop,(∀ d b,N d b->∃j,j<m/\W (i+1) j d b)/\∀x b,J.yld i H x b->g x σ b λc f=>l {D with nx:=N,ct:=N,bk:=D.nx} c f):=by
 refine⟨λi m σ H=>m=n-i/\i<=n/\a i σ H,⟨n,by simp,aU _,o⟩,?_⟩;rintro i m σ H ⟨rfl,v,p⟩;by_cases h:i<n;exact .inr ⟨r i σ H h p,a<|i+1,λd b u=>⟨n-(i+1),by omega,rfl,h,u⟩,λx b y=>hs i x σ H b h p y⟩;have e:i=n:=by omega
 subst e;exact .inl<|t σ H p
def On:Ih X (binaryOp .Mult) (λx y H Q=>∃z n,x=.str z/\y=.int n/\(n=0\/n=1)/\Q (.str<|if n=0 then Str.empty else z) H):=by intro aa s σ H x y v u Q I c b h;obtain⟨z,n,rfl,rfl,a,q⟩:=h;obtain⟨t,rfl⟩:=c;obtain⟨d,rfl⟩:=b;rcases a with rfl|rfl;exact P.mul_str_none (by decide) (by decide) ⟨.str Str.empty,H,I.tok _,⟨⟨_,I.tz⟩,rfl⟩,by simpa using q⟩;refine P.mul_str (by decide) (λ_ z=>by simp at z) (λ_ z=>by simp at z) ?_;rw[N_<|by decide,R_<|by simp];exact⟨.str z,H,I,⟨_,rfl⟩,by simpa using q⟩
end
end L2
namespace HT
open PySem PySem.Spec PyProof.Rows
section
variable {prog:kO}{w:kP}{A:kR}{E:kJ->kK->Prop}{s:kK}
def getItem_tuple_all{t f:kM}{items:oC kJ}{j g:kJ}{lo b:oB Int}{Q:kJ->kK->Prop}(a:IsTup s.heap t items)(hs:s.heap.IsSliceOf f j g .none)(pl:IsPart j lo)(l:IsPart g b)
  (i:sIx items.size 0 lo=0/\sIx items.size items.size b=items.size)
  (h:Q (.ref t) s):qX prog w A (getItem (.ref t)<|.ref f) Q E s:=by
 obtain⟨os,d,e,k⟩:=id hs;have m:s.TypeIs (.ref f) "slice" := ⟨os,d,e⟩;unfold getItem
 try with_reducible refine aT ?_
 first|refine A_ (DD ?_)|skip
 refine A_ (wpAny_sequenceKey a.typeIs (by decide) ?_);refine A_<|cH (name:=Str.ofString "__getitem__") a.typeIs bZ
  (bQ bZ a.typeIs entry_tuple_getitem ?_<|args_tuple_getitem _ _)
 show wpAny _ _ (Builtin.Tuple.tupleItemsOf (.ref t)>>=_) _ _ s;refine A_<|tupleItemsOf_ a ?_;refine A_<|gZ m ?_;rw[R_<|by decide];refine A_<|Fc hs pl l ?_;have c:(((sIx items.size 0 lo:Nat):Int)==0&&(1:Int)==1&&(sIx items.size items.size b-sIx items.size 0 lo)==items.size)=true:=by rw[i.1,i.2];simp
 show wpAny _ _ (if(((sIx items.size 0 lo:Nat):Int)==0&&(1:Int)==1&&(sIx items.size items.size b-sIx items.size 0 lo)==items.size)=true then _ else _) _ _ s;rw[R_ c];unfold Builtin.Tuple.tupleIsExact;refine A_<|A_<|gZ a.typeIs<|DD ?_;rw[R_<|by decide];refine A_<|eC ?_
 first
  |exact DD ⟨_,rfl,DD h⟩
  |exact A_ (DD<|DD ⟨_,rfl,DD h⟩)
  |exact A_<|DD ⟨_,rfl,DD h⟩
end
end HT
namespace L2
open PySem PySem.Spec PyProof.Rows
section
variable {X:Cx}
def Y8{ds:oA kL}{lo a:oB Int}(h:HT.sIx ds.length 0 lo=0/\HT.sIx ds.length ds.length a=ds.length):J7 ds lo a=ds:=by unfold J7;rw[h.1,h.2,jL,Nat.sub_zero,bN<|H_ _]
theorem Nb:∀(l:oA<|Str×Tok),(∀p∈l,p.2≠0)->Vals ((l.map (·.1)).map V.str) (strValues l)
 |[],_=>.nil
 | (x,t)::l,h=>.cons ⟨⟨t,h _ V_⟩,rfl⟩<|Nb l λp hp=>h p<|K_ _ hp
theorem Ug:∀(l:oA Str) (n:Nat),0<n->∀p∈numbered n l,p.2≠0
 |[],_,_,_,h=>nomatch h
 |x::l,n,a,p,h=>(Z_.mp h).elim (λe=>e ▸ cZ a)<|Ug l (n+1) (aQ _) p
def MJ:V->oA V->Hp->VK->Prop:=λx a H Q=>∃z y,x=.str z/\a=[.str y]/\(y.length==0)=false/\z.length<=1000000/\∀l,H l=none->Q (.ref l) (upd H l<|.lst<|(Txt.split z y).map V.str)
def Ft(x:Str)(a:oA Nat)(n:Nat):(Builtin.Str.partsBetween x a n).length=a.length+1:=by unfold Builtin.Str.partsBetween;simp
def Y9:RP X "str.split" MJ:=by
 intro a s c H x m v A Q I k r h;obtain⟨z,y,rfl,rfl,hy,hz,q⟩:=h;obtain⟨t,rfl⟩:=k;obtain⟨u,rfl,f⟩:=Fb r;obtain⟨t',rfl⟩:=f;have hf:=I.hok.fresh<|H_ s.heap.objs.size;have i:z.length<=sizeLine:=Q_ hz (by decide);have fin:∀(l:oA<|Str×Tok) (tk:Nat),(∀p∈l,p.2≠0)->0<tk->l.map (·.1)=Txt.split z y->l.length<=1000002->EP X a c Q (.ref s.heap.objs.size) {s with toks:=tk,heap:=s.heap.push {cls:=.type "list",data:=.seq (strValues l).toArray}}:=λl tk j hk e g=>by refine⟨.ref s.heap.objs.size,_,I.laid (t':=tk) (o:=.lst<|(Txt.split z y).map V.str) (λb n q=>C_ _ q) (H_ _) ?_,rfl,q _ hf⟩;refine⟨by rw[<- e,B_,B_];exact Q_ g<|by decide,strValues l,0,by rw[<- e];exact Nb l j,I_ _ rfl⟩
 cases h1:(decide (z.length<y.length)||decide (Builtin.Str.strKind z<Builtin.Str.strKind y));cases nq:(Builtin.Str.occurrences z y 0 z.length<|z.length+1).isEmpty;have w:=iJ z y 0 z.length<|z.length+1;have d:(Builtin.Str.partsBetween z (Builtin.Str.occurrences z y 0 z.length<|z.length+1) y.length).length<=1000002:=by rw[Ft];omega
 refine fC F.slot_str_split (gP _ _ _) F.entry_str_split (F.args_str_split_2 _ _) (meets_str_split_sep z y t t' h1 hy nq i<|Q_ d<|by decide) ?_;show EP X a c Q (.ref s.heap.objs.size) {s with toks:=_,heap:=s.heap.push {cls:=.type "list",data:=.seq (strsFrom s.toks<|Builtin.Str.partsBetween z (Builtin.Str.occurrences z y 0 z.length<|z.length+1) y.length).toArray}};rw[strsFrom_eq];refine fin (numbered s.toks _) _ (Ug _ _ I.tk) (by first|exact I.tk|exact S_ I.tk<|c_ _ _) ((numbered_texts _ _).trans ((N_<|jF h1).trans<|N_<|jF nq).symm) ?_;have e:=cF List.length<|numbered_texts s.toks<|Builtin.Str.partsBetween z (Builtin.Str.occurrences z y 0 z.length<|z.length+1) y.length;rw[B_]at e;rw[e];exact d;refine fC F.slot_str_split (gP _ _ _) F.entry_str_split (F.args_str_split_2 _ _) (meets_str_split_not_found z y t t' h1 hy nq) ?_;exact fin [(z,t.1)] s.toks (λp hp=>(Y_.mp hp) ▸ t.2) I.tk ((N_<|jF h1).trans<|R_ nq).symm (by show 1<=1000002;decide);refine fC F.slot_str_split (gP _ _ _) F.entry_str_split (F.args_str_split_2 _ _) (meets_str_split_cannot_occur z y t t' h1) ?_;exact fin [(z,t.1)] s.toks (λp hp=>(Y_.mp hp) ▸ t.2) I.tk (R_ h1).symm (by show 1<=1000002;decide)
def Iel(K:kN)(a:kM):It :=
 ⟨λi H=> ∃ b x, Fa K H a b /\ b[i]? = some x,
  λi H v c=> ∃ T x, H T = none /\ v = .ref T /\ c = upd H T (.tup [.int i, x]) /\ ∀ b, Fa K H a b -> b[i]? = some x,
  λi H=> ∃ b, Fa K H a b /\ b.length = i⟩
def Si{P:kO}{w:kP}{K:kN}{bz:oA kQ}{k:Nat}{pos:Pos}(a e j:kM)(J:e≠j) :
  Turn P w K (.Tuple bz k pos) (Iel K a) [e,j] e (λi h=>(∃l,IsEnum h e j i l)/\h.IsListIter j a i) where
 mem:=by simp
 obj:=λi h st b hb=>by
  rcases Z_.mp hb with rfl|hb;obtain⟨⟨l,he⟩,_⟩:=st;exact⟨_,he,λv z=>nomatch z⟩;have q:b=j:=by simpa using hb
  subst q;obtain⟨_,o,e,c,d⟩:=st;exact⟨o,e,λv z=>by rw[d]at z;cases z⟩
 keep:=λi h D st k=>⟨by obtain⟨l,he⟩:=st.1;exact⟨l,k e (by simp) _ he⟩,st.2.at λo q=>k j (by simp) o q⟩
 item:=by
  intro X Y hw Z hc i G s O H E I hf st R;subst Y hw Z;obtain⟨xs,x,hq,hx⟩:=R;obtain⟨F,U,p,hz⟩:=I.list hq;obtain⟨u,hu,ru⟩:=U.get hx;obtain⟨⟨l,he⟩,y⟩:=id st;have S:a≠e:=by intro z;subst z;obtain⟨o,g,m,_⟩:=p.isList;rw[he]at g;cases g;exact absurd m<|by intro z;injection z with z;exact absurd z<|by decide
  have N:a≠j:=by intro z;subst z;obtain⟨o,g,m,_⟩:=p.isList;obtain⟨o',B,f,_⟩:=y;rw[g]at B;cases B;rw[m]at f;exact absurd f<|by intro z;injection z with z;exact absurd z<|by decide
  have W:=hJ (prog:=X.prog) (w:=X.w) (A:=X.A) (Draws.list (A:=X.A.in1) (I.ok.hd hc) j a N F.toArray) e J (by simp[J,Ne.symm S]) (by simp);refine wtk I.tk (W.item i s _ _ (by rw[T_];exact(E_.mp hu).1) ⟨⟨l,he⟩,y,p.isList⟩ λT ir D C hv M ht hm V hk=>?_);have n:=W.apart i T D hm;refine⟨_,rfl,W.go bz k pos i T _ _ _ hm λjo fe im=>?_⟩;obtain⟨t,L,hx',rfl⟩:=hv;have wm:L=u:=by
   have:F[i]?=some L:=by simpa using hx'
   rw[hu]at this;exact(aE this).symm
  subst wm;have I1:Inv X G O H {s with heap:=D,toks:=C}:=I.turnedL V hf;have I2:Inv X G O H {s with heap:=jo,toks:=C}:=I1.turnedL (s:={s with heap:=D,toks:=C}) (t':=C) im hf;have fT:F0 X G H T:=I.fpOk M<|I.hok.fresh M;have kr:IsTup jo T #[.int i t,L]:=let⟨o,g,r⟩:=ht;⟨o,im T o n g,r⟩
  refine⟨.ref T,upd H T<|.tup [.int i,x],I2.track fT ⟨⟨by show 2<=sizeLine;decide,.inr ⟨_,_,rfl⟩⟩,[.int i t,L],.cons ⟨t,rfl⟩<|.cons ru .nil,kr⟩,rfl,⟨T,x,fT.1,rfl,rfl,λys hy=>by rw[I.list_inj hy hq];exact hx⟩,⟨fe.1,fe.2.1⟩,λb hb=>?_⟩;have i8:b≠T:=by
   rcases Z_.mp hb with rfl|hb;exact O_<|S_ (G_ he) M;have q:b=j:=by simpa using hb
   subst q;obtain⟨o,g,_⟩:=y;exact O_<|S_ (G_ g) M
  rw[Bd i8];exact(hf b hb).1
 done:=by
  intro X Y hw Z hc i G s O H E I hf st R;subst Y hw Z;obtain⟨xs,hq,hl⟩:=R;obtain⟨F,U,p,hz⟩:=I.list hq;obtain⟨⟨l,he⟩,y⟩:=id st;have S:a≠e:=by intro z;subst z;obtain⟨o,g,m,_⟩:=p.isList;rw[he]at g;cases g;exact absurd m<|by intro z;injection z with z;exact absurd z<|by decide
  have N:a≠j:=by intro z;subst z;obtain⟨o,g,m,_⟩:=p.isList;obtain⟨o',B,f,_⟩:=y;rw[g]at B;cases B;rw[m]at f;exact absurd f<|by intro z;injection z with z;exact absurd z<|by decide
  have W:=hJ (prog:=X.prog) (w:=X.w) (A:=X.A) (Draws.list (A:=X.A.in1) (I.ok.hd hc) j a N F.toArray) e J (by simp[J,Ne.symm S]) (by simp);have hn:F.toArray.size=i:=by rw[T_,<- U.length];exact hl
  subst hn;exact wtk I.tk (W.done s _ _ ⟨⟨l,he⟩,y,p.isList⟩ λD C V hk=>⟨rfl,I.turnedL V hf⟩)
 self:=λA i s Q E st h=>by obtain⟨⟨_,he⟩,_⟩:=st;exact hV he h
end
end L2
namespace PySem
open Sem (wp)
open AutoSeq1 (wpAny_loadPart')
set_option maxRecDepth 100000
section
variable {prog:kO}{w:kP}{K:Type} [DecidableEq K]
end
end PySem
namespace L2
open PySem PySem.Spec PyProof.Rows
section
variable {X:Cx}{K:kN}{o e:kQ}{es:oA kQ}{to:TE}{t:TA}{name:Str}{cu bd:Pos}{T id:String}{r:V->oA V->Hp->VK->Prop}
theorem E5{c:Nat}:∀{x r:oA Nat},c∉x->(x++c::r).takeWhile (·≠c)=x
 |[],r,_=>by simp
 |y::x,r,h=>by have h1:y≠c:=λe=>h (by simp[e]);rw[jY,List.takeWhile_cons,R_<|by simpa using h1,E5 λz=>h<|K_ _ z]
theorem C3{c:Nat}:∀{x r:oA Nat},c∉x->(x++c::r).dropWhile (·≠c)=c::r
 |[],r,_=>by simp
 |y::x,r,h=>by have h1:y≠c:=λe=>h (by simp[e]);rw[jY,List.dropWhile_cons,R_<|by simpa using h1,C3 λz=>h<|K_ _ z]
theorem Mm{c:Nat}:∀{x:oA Nat},c∉x->x.takeWhile (·≠c)=x
 |[],_=>rfl
 |y::x,h=>by have h1:y≠c:=λe=>h (by simp[e]);rw[List.takeWhile_cons,R_<|by simpa using h1,Mm λz=>h<|K_ _ z]
theorem E6{c:Nat}:∀{x:oA Nat},c∉x->x.dropWhile (·≠c)=[]
 |[],_=>rfl
 |y::x,h=>by have h1:y≠c:=λe=>h (by simp[e]);rw[List.dropWhile_cons,R_<|by simpa using h1,E6 λz=>h<|K_ _ z]
def Dt(c:Nat)(x y:Str)(r:oA Str):(Str.join ⟨#[c]⟩<|x::y::r).cps.toList=x.cps.toList++c::(Str.join ⟨#[c]⟩<|y::r).cps.toList:=by show((x.cps++#[c])++(Str.join ⟨#[c]⟩<|y::r).cps).toList=_;simp
def Uh{a b:Str}(h:a.cps.toList=b.cps.toList):a=b:=PySem.Str.ext'<|by simpa using cF List.toArray h
theorem Qa{c:Nat}:∀{A B:oA Str},A≠[]->B≠[]->(∀p∈A,c∉p.cps.toList)->(∀p∈B,c∉p.cps.toList)->Str.join ⟨#[c]⟩ A=Str.join ⟨#[c]⟩ B->A=B
 |[],_,h,_,_,_,_=>absurd rfl h
 |_,[],_,h,_,_,_=>absurd rfl h
 |[x],[y],_,_,_,_,e=>by have e:x=y:=e;rw[e]
 |[x],y::f::r,_,_,a,b,e=>by have e:=cF (λs:Str=>s.cps.toList.dropWhile (·≠c)) e;simp only[Dt]at e;rw[C3<|b y<|by simp]at e;rw[show Str.join ⟨#[c]⟩ [x]=x from rfl,E6<|a x<|by simp]at e;cases e
 |x::i::r,[y],_,_,a,b,e=>by have e:=cF (λs:Str=>s.cps.toList.dropWhile (·≠c)) e;simp only[Dt]at e;rw[C3<|a x<|by simp]at e;rw[show Str.join ⟨#[c]⟩ [y]=y from rfl,E6<|b y<|by simp]at e;cases e
 |x::i::r,y::f::q,_,_,a,b,e=>by have d:=cF (λs:Str=>s.cps.toList.takeWhile (·≠c)) e;have g:=cF (λs:Str=>s.cps.toList.dropWhile (·≠c)) e;simp only[Dt]at d g;rw[E5<|a x<|by simp,E5<|b y<|by simp]at d;rw[C3<|a x<|by simp,C3<|b y<|by simp]at g;have j:Str.join ⟨#[c]⟩ (i::r)=Str.join ⟨#[c]⟩ (f::q):=Uh (by injection g);rw[Uh d,Qa (A:=i::r) (B:=f::q) (by simp) (by simp) (λp hp=>a p<|K_ _ hp) (λp hp=>b p<|K_ _ hp) j]
def Du(x y:Str):Txt.split x y≠[]:=by unfold Txt.split;split;simp;split;simp;intro h;have:=cF List.length h;rw[Ft]at this;simp at this
def K1{c:Nat}{A:oA Str}(h:A≠[])(a:∀p∈A,c∉p.cps.toList):Txt.split (Str.join ⟨#[c]⟩ A) ⟨#[c]⟩=A :=
 Qa (Du _ _) h (StrLaws.split_free _ c) a (dI _ _)
def Wu:RP X "str.join" (λx b H Q=>∃z p a,x=.str z/\b=[.ref p]/\H p=some (.lst<|a.map V.str)/\(a.map (·.length)).sum+a.length*z.length<=16777216/\Q (.str<|Txt.join z a) H):=by intro f s g H x b v d Q I i r h;obtain⟨z,p,a,c,j,hp,hz,q⟩:=h;exact FH f s g H x b v d Q I i r ⟨z,p,a,c,j,Fa.of hp,hz,q⟩
end
def Cal(P:kO)(w:kP)(K:kN)(mg:Str->oB kJ)(base:kS)(n:Nat)(x:Str)(ps:oA Str)(sp:Sp):Prop :=
 ∃g a,FnOk P w K mg base Ez n g a ps sp/\Binds K a ps []/\PySem.W.keepIn K (.ref g)=true/\mg x=some (.ref g)
def Cal.mono{P:kO}{w:kP}{K:kN}{mg:Str->oB kJ}{base:kS}{n m:Nat}{x:Str}{ps:oA Str}{sp:Sp}(c:Cal P w K mg base n x ps sp)(h:n<=m):Cal P w K mg base m x ps sp :=
 by obtain⟨g,a,G,r⟩:=c;exact⟨g,a,G.mono h,r⟩
end L2
namespace L2
open PySem PySem.Spec PySem.Calls PyProof.Rows
section
variable {prog:kO}{w:kP}{A:kR}{E:kJ->kK->Prop}{s:kK}{K:kN}{x C:kM}{ox:kT}{od:oB kT}{name:Str}{h:kS}{g:oC GenState}{d:Drawn}{t:Nat}{os:OsState}
def Qb{tk:Tok}{R:kZ->kK->Prop}(X:K.In s.heap)(I:PySem.W.InstAt s.heap x ox C od)(hm:PySem.W.mroIn K C (.type "BaseException")=some true)
  (h:qX prog w A.in1 (Builtin.«object.__getattribute__» ⟨[.ref x,.str name tk],[]⟩)
   (λfin a=>match fin with|.done f=>R (.ok f) a|.again c'=>c'.quiet=true/\codeAny (model prog w) A c' R a) (λe a=>R (.error e) a) s) :
  codeAny (model prog w) A (.call (.builtin "BaseException.__getattribute__") ⟨[.ref x,.str name tk],[]⟩) R s:=by
 have hk:builtinKind "BaseException.__getattribute__" = some .slot:=by decide +kernel
 have b:splitId "BaseException.__getattribute__" = some ("BaseException","__getattribute__"):=by decide +kernel
 have sub:PySem.W.Looks (model prog w) s.heap (isInstance (.ref x)<|.type "BaseException") true:=I.type.andThen<|eY X hm;exact iY F.excAttr_ValueError.ga.plain F.entry_bexc_ga<|@PySem.W.check_slot (model prog w) _ _ s "BaseException.__getattribute__" "BaseException" "__getattribute__" (.ref x) [.str name tk] [] _ hk b sub (F.args_bexc_ga _ _) h
def Wv{tk:Tok}{v:kJ}{R:kZ->kK->Prop}(X:K.In s.heap)(I:PySem.W.InstAt s.heap x ox C od)(hm:PySem.W.mroIn K C (.type "BaseException")=some true)
  (hf:PySem.W.findObj K C od name=some (.value v)) (h:R (.ok<|.ret v) s) :
  codeAny (model prog w) A (.call (.builtin "BaseException.__getattribute__") ⟨[.ref x,.str name tk],[]⟩) R s:=by
 refine Qb X I hm ?_;obtain⟨c,g,d,t,os⟩:=s;have a:=I.type (M:=model prog w);have b:=PySem.W.looks_find (M:=model prog w) X I hf;refine A_<|DD<|A_<|DD<|A_<|a.at<|A_<|b.at ?_;exact DD h
def Za{tk:Tok}{g a:kJ}{R:kZ->kK->Prop}(X:K.In s.heap)(I:PySem.W.InstAt s.heap x ox C od)(hm:PySem.W.mroIn K C (.type "BaseException")=some true)
  (hf:PySem.W.findObj K C od name=some (.bind g a)) (h:qX prog w A.in1 (call g [a,.ref x,.ref C]) (λv b=>R (.ok<|.ret v) b) (λe b=>R (.error e) b) s) :
  codeAny (model prog w) A (.call (.builtin "BaseException.__getattribute__") ⟨[.ref x,.str name tk],[]⟩) R s:=by
 refine Qb X I hm ?_;obtain⟨i,j,d,t,os⟩:=s;have c:=I.type (M:=model prog w);have f:=PySem.W.looks_find (M:=model prog w) X I hf;refine A_<|DD<|A_<|DD<|A_<|c.at<|A_<|f.at ?_;show wpAny _ _ (holding [a] (call g [a,.ref x,.ref C])>>=ret) _ _ _;exact A_<|aT<|a_ h (λv b z=>DD z) λ_ _ z=>z
def Ui{tk:Tok}{fill c:Bool}{Q:kJ->kK->Prop}(X:K.In s.heap)(I:PySem.W.InstAt s.heap x ox C od)
  (b:PySem.W.findIn K (.ref C) "__getattribute__" = some (some<|.builtin "BaseException.__getattribute__")) (a:PySem.W.findIn K (.ref C) "__getattr__" = some none)
  (h:codeAny (model prog w) A (.call (.builtin "BaseException.__getattribute__") ⟨[.ref x,.str name tk],[]⟩) (λr f=>match r with|.ok (.ret v)=>qX prog w A (handedOut v) Q E f|_=>False) s) :
  qX prog w A (getAttrBy (.ref x) (.str name tk) fill c) Q E s:=by
 obtain⟨l,g,d,t,os⟩:=s;have i:=I.type (M:=model prog w);have j:=fQ (M:=model prog w) X b;have L2:=fQ (M:=model prog w) X a;have f3:=F.excAttr_ValueError.ga.bind<|.ref x;have k:(Value.builtin "BaseException.__getattribute__" == Value.builtin "object.__getattribute__")=false:=by decide +kernel
 unfold getAttrBy;refine aT<|A_<|i.at<|A_<|j.at ?_;show wpAny _ _ (if(onTheHeap (Value.ref C)&&Value.builtin "BaseException.__getattribute__" == Value.builtin "object.__getattribute__")=true then _ else _) _ _ _;rw[k,Bool.and_false,N_ X_];unfold getAttrByItsOwn;refine A_<|L2.at<|A_<|gE<|aT ?_;unfold callGetattribute boundAndCalled;rw[show(c&&onTheHeap (Value.builtin "BaseException.__getattribute__"))=false by cases c<;>rfl,N_ X_,f3];refine A_<|DD<|jK<|fU h λr f z=>?_;rcases r with e|(v|_|_|_)<;>first|exact z|exact z.elim
def Sj{e:Bool}{v:kJ}{Q:kJ->kK->Prop}(X:K.In s.heap)(I:PySem.W.InstAt s.heap x ox C od)(hm:PySem.W.mroIn K C (.type "BaseException")=some true)
  (b:PySem.W.findIn K (.ref C) "__getattribute__" = some (some<|.builtin "BaseException.__getattribute__")) (a:PySem.W.findIn K (.ref C) "__getattr__" = some none)
  (hf:PySem.W.findObj K C od name=some (.value v)) (c:PySem.W.handedIn v=true) (h:Q v {s with toks:=s.toks+1}):qX prog w A (getAttr (.ref x) name e) Q E s:=by
 unfold getAttr;refine A_<|wpAny_mkText ?_;exact Ui (s:={s with toks:=s.toks+1}) X I b a<|Wv (s:={s with toks:=s.toks+1}) X I hm hf<|PySem.W.handed_on c h
abbrev SA:oA kJ:=[.type "ValueError",.type "Exception",.type "BaseException",.type "object"]
def SB(K:kN)(C:kM)(a:ClassData)(b:oC<|oB kJ):Bool:=a.mro.head?==some (.ref C) && !a.hasDel&&PySem.W.tailIn K SA a.mro.tail&&b.size==6&&b[4]?==some (some<|.builtin "ValueError.__new__")
def Hb(K:kN)(C:kM):Bool:=match K.lookup C with
 |some o=>o.cls==.type "type" && (match o.data with
  |.cls a=>SB K C a o.slots
  |_=>false)
 |none=>false
def MK{i:oC<|oB kJ}{v:oB kJ}(h:i.size=6)(e:i[4]?=some v):∃j y u o r,i=#[j,y,u,o,v,r]:=by
 obtain⟨l⟩:=i;have s:∀{n:Nat} {l:oA<|oB kJ},l.length=n+1->∃a t,l=a::t/\t.length=n:=λ{n l} h=>by
  cases l with
  |nil=>cases h
  |cons a t=>exact⟨a,t,rfl,Nat.succ.inj h⟩
 obtain⟨a,_,rfl,h1⟩:=s h;obtain⟨b,_,rfl,h2⟩:=s h1;obtain⟨c,_,rfl,p⟩:=s h2;obtain⟨d,_,rfl,m⟩:=s p;obtain⟨k,_,rfl,z⟩:=s m;obtain⟨f,_,rfl,q⟩:=s z;cases bS q;have:k=v:=by simpa using e
 subst this;exact⟨a,b,c,d,f,rfl⟩
def Uj{K:kN}{h:kS}{C:kM}(X:K.In h)(q:Hb K C=true):∃j f N l a D e sub b p dd k i u n r,
  h.get? C=some (excClassObj j f C N l a D e sub b p dd k i u n r "ValueError.__new__")/\OwnTail h SA a:=by
 unfold Hb at q;cases ho:K.lookup C with
 |none=>rw[ho]at q;cases q
 |some o=>
  rw[ho]at q;obtain⟨M,dd,od,L⟩:=o;dsimp only at q;rw[bL,kD]at q;obtain⟨J,q⟩:=q;cases od with
  |cls H=>
   unfold SB at q;simp only[Bool.and_eq_true,beq_iff_eq,Bool.not_eq_true']at q;obtain⟨⟨⟨⟨v,y⟩,z⟩,G⟩,I⟩:=q;obtain⟨k,i,u,n,r,rfl⟩:=MK G I;obtain⟨j,l,c,B,f,hd,e,sub,b,p,F⟩:=H;dsimp only at v y z;subst J y;cases c with
   |nil=>cases v
   |cons m a=>cases v;exact⟨j,f,B,l,a,hd,e,sub,b,p,dd,k,i,u,n,r,X _ _ ho,PySem.W.tail_of_in X z⟩
  |_=>cases q
def Ee(C t:kM)(d:oB kM):kT:={cls:=.ref C,dict:=d,data:=.fields #[.ref t,.none,.none,.none,.bool false,.none]}
def C9(h:kS)(C:kM)(rest:oA kJ):kS:=(h.push {cls:=.type "tuple",data:=.seq rest.toArray}).push<|Ee C h.objs.size none
def Sk{rest:oA kJ}{k:kM}{Q:Fin->kK->Prop}(X:K.In h)(q:Hb K C=true)(D:PySem.W.findIn K (.ref C) "__init__" = some (some<|.ref k)) (hf:PySem.W.typeIn K (.ref k)=some (.type "function"))
  (hq:wpAny (model prog w) A (call (.ref k)<|.ref (h.objs.size+1)::rest) (λr m=>r=.none/\Q (.done<|.ret<|.ref<|h.objs.size+1) m) E ⟨C9 h C rest,g,d,t,os⟩) (y:rest.length<=sizeLine) :
  wpAny (model prog w) A (Builtin.«type.__call__» ⟨.ref C::rest,[]⟩) Q E ⟨h,g,d,t,os⟩:=by
 obtain⟨L,H,N,R,z,O,I,sub,G,S,dd,P,J,Y,U,V,f,T⟩:=Uj X q;have i:=F.excBase_ValueError
 repeat (first|with_reducible refine jR f ?_|with_reducible refine wpAny_madeBy_exc f ?_|wp_step)
 refine codeAny_call_builtin_code (jM _ i.quiet) (wpAny_check_new_subU (bmB:=SA) i (by decide +kernel) T f ?_);refine codeAny_exc_new_subU (bmB:=SA) i (by decide +kernel) i T f ?_ y;show wpAny _ _ _ _ _ ⟨C9 h C rest,g,d,t,os⟩;have n:∀b o,h.get? b=some o->(C9 h C rest).get? b=some o:=λb o e=>C_ _<|C_ _ e;have a:=n _ _ f;have l:(C9 h C rest).get? (h.objs.size+1)=some (Ee C h.objs.size none):=by unfold C9;exact hY (by simp only[Heap.size_push]) rfl
 have j:(Value.ref C::z).contains (.ref C)=true:=by simp
 have c:K.In (C9 h C rest):=λb o e=>n b o<|X b o e;have p:=fQ (M:=model prog w) c D;have L2:=PySem.W.bind_fn (M:=model prog w) c (.ref<|h.objs.size+1) hf;generalize C9 h C rest=h₁ at a l p L2 hq ⊢;unfold isInstance;have u:(Ee C h.objs.size none).cls=.ref C:=rfl
 repeat (first|(with_reducible refine jR l ?_;rw[u])|(with_reducible refine wpAny_isSubtype_exc a ?_;rw[j])|wp_step)
 show wpAny _ _ (typeLookup (.ref C) _) _ _ _;refine p.at ?_;refine aT<|A_<|L2.at ?_;refine A_<|a_ hq (λr m B=>?_) λ_ _ x=>x;obtain⟨rfl,v⟩:=B
 wp_walk
 exact v
def xmake{rest:oA kJ}{b:kM}{Q:kJ->kK->Prop}(X:K.In h)(q:Hb K C=true)(f:PySem.W.findIn K (.ref C) "__init__" = some (some<|.ref b)) (hf:PySem.W.typeIn K (.ref b)=some (.type "function"))
  (hq:wpAny (model prog w) (A.under<|.builtin "type.__call__" ⟨.ref C::rest,[]⟩) (call (.ref b)<|.ref (h.objs.size+1)::rest) (λr c=>r=.none/\Q (.ref<|h.objs.size+1) c) E ⟨C9 h C rest,g,d,t,os⟩) (e:rest.length<=sizeLine) :
  wpAny (model prog w) A (call (.ref C) rest) Q E ⟨h,g,d,t,os⟩:=by
 obtain⟨n,l,N,v,j,o,k,sub,i,z,dd,p,m,G,B,F,a,T⟩:=Uj X q;have y:=tc_lookup;have D:=tc_bind<|.ref C;have u:(⟨h,g,d,t,os⟩:kK).TypeIs (.ref C) "type" := ⟨_,a,rfl⟩;refine jK<|codeAny_of_tree ?_;show wpAny _ _ (callAny (.ref C) _) _ _ _
 repeat (any_goals (first|assumption|with_reducible refine jR a ?_|wp_step))
 refine⟨rfl,?_⟩;exact codeAny_call_builtin_at (jM _<|by decide +kernel) entry_typeCall<|wpAny_check_type_call_sub a<|Sk X q f hf hq e
end
def SC:kJ->Bool
 |.ref _=>true
 |_=>false
theorem Jl(self:kJ)(a:Str):∀l:oA kJ,refuseLoop self a l=refuseLoop self a (l.dropWhile SC)
 |[]=>rfl
 |v::r=>by
  cases v with
  |ref c=>
   rw[refuseLoop_ref,Jl self a r]
   rfl
  |_=>rfl
def Sl(K:kN)(C:kM):Bool:=(PySem.W.clsIn K C).any λa=>a.mro.dropWhile SC==SA && !a.mro.isEmpty&&a.mro.contains (.type "object")
section
open Builtin Builtin.ObjectAttr
variable {prog:kO}{w:kP}{A:kR}{E:kJ->kK->Prop}{s:kK}{K:kN}{x C:kM}{ox:kT}{od:oB kT}{name:Str}{v:kJ}{R:kZ->kK->Prop}
def Ww{tk:Tok}(X:K.In s.heap)(I:PySem.W.InstAt s.heap x ox C od)(hp:Sl K C=true)(ha:PySem.W.findIn K (.ref C) name=some none)
  (h:qX prog w A.in1 (storeInOwnDict (.ref x) (.ref C) (.str name tk) name v false)
   (λfin b=>match fin with|.done f=>R (.ok f) b|.again c'=>c'.quiet=true/\codeAny (model prog w) A c' R b) (λe b=>R (.error e) b) s) :
  codeAny (model prog w) A (.call (.builtin "object.__setattr__") ⟨[.ref x,.str name tk,v],[]⟩) R s:=by
 have a:=PySem.F.store_object;obtain⟨g,hc,c⟩:=fY hp;simp only[Bool.and_eq_true,beq_iff_eq,Bool.not_eq_true']at c;obtain⟨⟨h1,ne⟩,d⟩:=c;have sub:PySem.W.Looks (model prog w) s.heap (isInstance (.ref x)<|.type "object") true:=I.type.andThen (eY X<|by unfold PySem.W.mroIn;rw[hc,fZ,N_<|by rw[ne];decide,d]);refine iY a.slot.plain a.entry<|@PySem.W.check_slot (model prog w) _ _ s "object.__setattr__" "object" "__setattr__" (.ref x) [.str name tk,v] [] _ a.kind a.split sub (a.args (.ref x) (.str name tk) v) ?_;have hm:PySem.W.Looks (model prog w) s.heap (mroOf<|.ref C) g.mro:=(PySem.W.looks_clsIn X hc).andThen .now;rw[PySem.W.osa_eq,refuse_eq];refine A_<|A_<|I.type.here<|A_<|hm.here ?_;rw[Jl,h1,F.store_ValueError.passes];refine DD<|A_<|I.type.here<|A_<|(fQ X ha).here<|A_<|DD ?_;exact h
end
def XO(e C t:kM)(d:oB kM):HO:=.ext λh=>h.get? e=some (Ee C t d)
def XD(c:kM)(b:oA<|Str×V):HO:=.ext λh=>∃a,h.Ns1 c a/\(∀f,G1 (b.lookup f)<|a f)/\PySem.Within a (b.map (·.1))
section
variable {P:kO}{w:kP}{H:Hp}{h:kS}{e C t dx:kM}{d:oB kM}{fs:oA<|Str×V}{X:Cx}{aa:oA<|kM×kT}{σ:St}{s:kK}{f:Str}{v:V}{A:kR}{E:kJ->kK->Prop}
def IR(hx:h.get? e=some (Ee C t d)):Bs P w H h e (XO e C t d):=⟨hx,⟨_,hx⟩,λ_ _ p k=>k _ p⟩
def Zb(ok:HOk P w H h)(q:H e=some (XO e C t d)):h.get? e=some (Ee C t d):=(show Bs P w H h e (XO e C t d) from ok e _ q).1
def Zc{a:Str->oB kJ}(n:h.Ns1 dx a)(r:∀f,G1 (fs.lookup f)<|a f)(b:PySem.Within a<|fs.map (·.1)):Bs P w H h dx (XD dx fs) :=
 ⟨⟨a,n,r,b⟩,(by obtain⟨o,_,_,q,_⟩:=n;exact⟨o,q⟩),by rintro _ _ ⟨c,n,r⟩ k;exact ⟨c,n.at k,r⟩⟩
def ML(ok:HOk P w H h)(q:H dx=some (XD dx fs)):∃a,h.Ns1 dx a/\(∀f,G1 (fs.lookup f)<|a f)/\PySem.Within a (fs.map (·.1)):=(show Bs P w H h dx (XD dx fs) from ok dx _ q).1
def FI(hx:h.get? e=some (Ee C t none)):PySem.W.InstAt h e (Ee C t none) C none:=⟨hx,rfl,rfl,trivial⟩
structure XCls(K:kN)(C:kM):Prop where
 ga:PySem.W.findIn K (.ref C) "__getattribute__" = some (some<|.builtin "BaseException.__getattribute__")
 gn:PySem.W.findIn K (.ref C) "__getattr__" = some none
 sa:PySem.W.findIn K (.ref C) "__setattr__" = some (some<|.builtin "object.__setattr__")
 hd:PySem.W.hasDictIn K C=true
 mb:PySem.W.mroIn K C (.type "BaseException")=some true
 mo:PySem.W.mroIn K C (.type "object")=some true
 ve:Sl K C=true
def ZG{H:Hp}{a b:kM}{o1 i g:HO}:upd (upd (upd H a o1) b i) a g=upd (upd H b i) a g:=by
 funext c
 unfold upd;by_cases h:c=a;rw[R_ h,R_ h];rw[N_ h,N_ h,N_ h]
def SD{y:V}{u:kJ}{Q:Unit->kK->Prop}(I:Inv X aa σ H s)(he:H e=some (XO e C t none))(c:XCls X.K C)(n:Ik X.K C f)(M:Bp y u)
  (h:∀dx p,H dx=none->dx≠e->Inv X aa σ (upd (upd H e<|XO e C t<|some dx) dx<|XD dx [(f,y)]) p->Q () p):qX X.prog X.w A (setAttr (.ref e) f u) Q E s:=by
 have hx:=Zb I.hok he;have J:=FI hx;refine PySem.W.set_plain I.kIn J c.sa<|Ww (s:={s with toks:=s.toks+1}) I.kIn J c.ve n ?_;obtain⟨cd,hc,N⟩:=fY c.hd;have hx':s.heap.get? e=some ⟨.ref C,none,.fields #[.ref t,.none,.none,.none,.bool false,.none],#[]⟩:=hx;refine A_<|DD<|A_<|A_<|wpAny_loadPart hx'<|A_<|PySem.W.Looks.here (s:={s with toks:=s.toks+1}) (PySem.W.looks_clsIn I.kIn hc) ?_;rw[N];have F:(s.heap.push {cls:=.type "dict",data:=.dict #[]}).get? e=some (Ee C t none):=C_ _ hx;have j:e≠s.heap.objs.size:=O_<|G_ hx;show wpAny _ _ (if(!true || !typeHasDict (Value.ref C))=true then _ else _) _ _ _;rw[N_<|by simp[typeHasDict]];refine A_<|wpAny_alloc' ?_;refine A_<|wpAny_update' F ?_;refine DD ?_;have m:((s.heap.push {cls:=.type "dict",data:=.dict #[]}).update e λo=>{cls:=o.cls,dict:=some s.heap.objs.size,data:=o.data,slots:=o.slots}).get? e=some (Ee C t<|some s.heap.objs.size):=aX _ F rfl;have z:((s.heap.push {cls:=.type "dict",data:=.dict #[]}).update e λo=>{cls:=o.cls,dict:=some s.heap.objs.size,data:=o.data,slots:=o.slots}).get? s.heap.objs.size
   = some {cls:=.type "dict",data:=.dict #[]}:=(Heap.get?_update_ne _ _ _ _ j.symm).trans<|hY rfl rfl
 have D:((s.heap.push {cls:=.type "dict",data:=.dict #[]}).update e λo=>{cls:=o.cls,dict:=some s.heap.objs.size,data:=o.data,slots:=o.slots}).Ns s.heap.objs.size (λ_=>none) :=
  ⟨_,#[],_,z,rfl,λe he=>absurd he<|by simp,λ_=>rfl⟩
 have r:∀b o,b≠e->(s.heap.push {cls:=.type "dict",data:=.dict #[]}).get? b=some o->((s.heap.push {cls:=.type "dict",data:=.dict #[]}).update e λo=>{cls:=o.cls,dict:=some s.heap.objs.size,data:=o.data,slots:=o.slots}).get? b=some o :=
  λb o hb q=>(Heap.get?_update_ne _ _ _ _ hb).trans q
 have O:(s.heap.push {cls:=.type "dict",data:=.dict #[]}).Ns s.heap.objs.size (λ_=>none):=⟨_,#[],_,hY rfl rfl,rfl,λe he=>absurd he<|by simp,λ_=>rfl⟩;have Z:=I.hok.fresh<|H_ s.heap.objs.size;have R:=I.laid (a:=s.heap.objs.size) (o:=XD s.heap.objs.size []) (h':=s.heap.push {cls:=.type "dict",data:=.dict #[]}) (t':=s.toks) (λb u q=>C_ _ q) (H_ _)<|Zc (Heap.Ns1.of_empty O) (λ_=>True.intro) λy hy=>absurd rfl hy;generalize T:(s.heap.push {cls:=.type "dict",data:=.dict #[]}).update e (λo=>{cls:=o.cls,dict:=some s.heap.objs.size,data:=o.data,slots:=o.slots})=h2 at m z D r ⊢;have L:=R.write (x:=e) (e:=e) (o:=XO e C t<|some s.heap.objs.size) (h':=h2) (t':=s.toks) (by rw[Bd j,he];exact True.intro) (.inl rfl) r ⟨_,m⟩<|IR m;show wpAny _ _ (Builtin.ObjectAttr.storeInDict s.heap.objs.size (.str f s.toks) f u) _ _ _;unfold Builtin.ObjectAttr.storeInDict Builtin.ObjectAttr.newKeyGuard;refine A_<|DD<|A_<|wpAny_nsSet1 (Heap.Ns1.of_empty D) λh' B Y=>?_;obtain⟨oD,U,S,i,k,l⟩:=B.count<|PySem.Within.cons f u PySem.Within.nil;refine A_ (wpAny_lookBehind i (by rw[k];exact pastItsLine_dict<|Q_ l<|by rw[aM,gJ,kF];omega) ?_);refine DD ?_;refine h s.heap.objs.size _ Z j.symm ?_;rw[<- ZG (o1:=XD s.heap.objs.size [])];refine L.write (x:=s.heap.objs.size) (e:=s.heap.objs.size) (by rw[Bd j.symm,Bo];exact True.intro) (.inl rfl) (λb o hb q=>(Y.2 b hb).trans q) ⟨_,i⟩<|Zc B (λg=>?_) λg G=>?_;show G1 (List.lookup g [(f,y)]) (if g=f then some u else none);by_cases q:g=f;rw[R_ q,q];show G1 (List.lookup f [(f,y)]) (some u);have hb:(f==f)=true:=kD.mpr rfl;simp only[List.lookup,hb];exact M;rw[N_ q];have hb:(g==f)=false:=gB.mpr q;simp only[List.lookup,hb];exact True.intro;by_cases q:g=f;rw[q];exact V_;exact absurd (show(if g=f then some u else none)=none by rw[N_ q]) G
end
structure XMk(K:kN)(C f:kM):Prop where
 xc:Hb K C=true
 init:PySem.W.findIn K (.ref C) "__init__" = some (some<|.ref f)
 fn:PySem.W.isFn K (.ref f)=true
 kp:PySem.W.keepIn K (.ref C)=true
def MM(C:kM)(sp:Sp)(E:XK)(t:TA):TE:=λc H Q=>t c H λb a=>b.length<=1000/\∀x d,a x=none->sp (.ref x::b) (upd a x<|XO x C d none) (λv e=>v=.non/\Q (.ref x) e) E
section
variable {X:Cx}{CX:CXT}{k:Nat}{f C:kM}{fd:kW}{ps:oA Str}{sp:Sp}{E:XK}{x:Str}{p pos ci cu:Pos}{e o value:kQ}{es:oA kQ}{t:TA}{ta tv:TE}{fl:Str}
def Wx{i:oA<|kM×kT}{l:St}{H:Hp}{s:kK}{Q:VK}{c:oA kJ}{vs:oA V}(M:XMk X.K C f)(F:FnOk X.prog X.w X.K X.mg X.base CX k f fd ps sp)(R:Room (k+1) X.A)(hb:Binds X.K fd ps [])
  (hx:Passes CX X E) (I:Inv X i l H s) (r:Vals vs c) (hl:vs.length<=1000)
  (h:∀x D,H x=none->sp (.ref x::vs) (upd H x<|XO x C D none) (λv O=>v=.non/\Q (.ref x) O) E) :
  qX X.prog X.w X.A (call (.ref C) c) (EP X i l Q) X.xe s:=by
 have hq:=h (s.heap.objs.size+1) s.heap.objs.size<|I.hok.fresh<|fP _;have P:Inv X i l H {s with heap:=s.heap.push {cls:=.type "tuple",data:=.seq c.toArray}}:=I.kept (t':=s.toks) λb u q=>C_ _ q;have G:(C9 s.heap C c).get? (s.heap.objs.size+1)=some (Ee C s.heap.objs.size none):=by unfold C9;exact hY (by simp only[Heap.size_push]) rfl
 have m:Inv X i l (upd H (s.heap.objs.size+1)<|XO (s.heap.objs.size+1) C s.heap.objs.size none) {s with heap:=C9 s.heap C c} :=
  P.laid (a:=s.heap.objs.size+1) (t':=s.toks) (λb u q=>C_ _ q) (jJ<|cQ _ _) (IR G)
 have z:Vals (V.ref (s.heap.objs.size+1)::vs) (Value.ref (s.heap.objs.size+1)::c):=.cons rfl r;have S:(Value.ref (s.heap.objs.size+1)::c++[]).length=ps.length:=by have e:=z.length;rw[F.len _ _ _ _ hq]at e;rw[cX];exact e.symm
 have n:=F.run _ X.stack _ _ ⟨Value.ref (s.heap.objs.size+1)::c,[]⟩ (Value.ref (s.heap.objs.size+1)::c++[]) _ _ E (R.make C c []) (m.env0.make C c []) (hb _ (Value.ref (s.heap.objs.size+1)::c) m.kIn S) (by rw[cX];exact z) hq;have y:c.length<=sizeLine:=by have:=r.length;exact Q_ (by omega)<|show 1000<=sizeLine by decide
 obtain⟨U,g,d,Y,os⟩:=s;refine xmake I.kIn M.xc M.init (kD.mp M.fn) (jK<|fU n λr J j=>?_) y;cases r with
 |error e=>exact hx i l _ _ e J m j
 |ok fl=>
  cases fl with
  |ret u=>obtain⟨v,B,W,N,L,T⟩:=m.after j;subst L;exact⟨N,⟨V.ref<|U.objs.size+1,B,W,rfl,T⟩⟩
  |next=>exact False.elim j
  |brk=>exact False.elim j
  |cont=>exact False.elim j
def Zd(M:XMk X.K C f)(F:FnOk X.prog X.w X.K X.mg X.base CX k f fd ps sp)(i:Room (k+1) X.A)(c:Gl X x)(hm:X.mg x=some (.ref C))(hb:Binds X.K fd ps [])(hx:Passes CX X E)
  (ha:PA X (e::es) t) (hdb:(x==("__debug__" : Str))=false:=by decide) (he:starEach (e::es) X.env=(false,eval e X.env)::starEach es X.env:=by rfl) (hpl:(backTo pos<|starEach es X.env).any (·.1)=false:=by rfl) :
  PE X (.Call (.Name x p) (e::es) [] pos) (MM C sp E t):=by
 intro b s d H Q I h;refine aP<|Hh I c hm ?_ hdb;refine PySem.W.callWith_K (h₀:=X.base) I.ok.mod.kin M.kp (thn (ha pos b s d H _ I h) λn j ⟨m,l,a,r,g,q⟩=>⟨a.kIn,?_⟩) he hpl;exact Wx M F i hb hx a r g q
def sX1(K:kN)(ta tv:TE)(f:Str):TS:=λD b H=>tv b H λy d=>ta b d λx c=>∃e C t,x=.ref e/\c e=some (XO e C t none)/\XCls K C/\Ik K C f /\
 ∀a,c a=none->a≠e->D.nx b (upd (upd c e<|XO e C t<|some a) a<|XD a [(f,y)])
def SE(ha:PE X o ta)(hv:PE X value tv)(hs:swapsWith value (some<|.Attribute o fl ci) pos.line X.env=pure false):PS X (.Assign [.Attribute o fl ci] value pos) (sX1 X.K ta tv fl):=by intro d s a H D I h;refine plainObj_wpAny_Assign_Attribute (thn (hv d s a H _ I h) λu g ⟨y,F,v,m,q⟩=>thn (ha d g a F _ v q) λB L z=>?_) hs;obtain⟨x,M,l,G,e,C,t,A,j,c,n,r⟩:=z;subst A;obtain rfl:B=Value.ref e:=G;exact SD l j c n m λi N b J w=>⟨a,_,w,r i b J⟩
end
structure XIs(K:kN)(C:kM):Prop extends XCls K C where
 ca:PySem.W.findIn K (.ref C) "__class__" = some (some<|.builtin "object.__class__")
 cg:PySem.W.specialIn K (.builtin "object.__class__") "__get__" = some (some<|.builtin "getset_descriptor.__get__")
 ct:PySem.W.takesIn K (.builtin "object.__class__")=some true
def Mn{K:kN}{C:kM}{od:oB kT}{name:Str}{a g:kJ}(hc:(PySem.W.clsIn K C).isSome=true)(ha:PySem.W.findIn K (.ref C) name=some (some a))(b:PySem.W.specialIn K a "__get__" = some (some g)) (c:PySem.W.takesIn K a=some true):PySem.W.findObj K C od name=some (.bind g a):=by obtain⟨d,hc⟩:=bO.mp hc;unfold PySem.W.findObj;rw[hc,fZ,ha,fZ];dsimp only;rw[b,fZ];dsimp only;rw[c,fZ]
def Qc{prog:kO}{w:kP}{A:kR}{E:kJ->kK->Prop}{s:kK}{K:kN}{x C:kM}{ox:kT}{od:oB kT}{Q:oB kJ->kK->Prop}(X:K.In s.heap)(I:PySem.W.InstAt s.heap x ox C od)(c:XIs K C)
  (h:Q (some<|.ref C) {s with toks:=s.toks+1}):qX prog w A (getAttr? (.ref x) "__class__") Q E s:=by
 have hc:(PySem.W.clsIn K C).isSome=true:=by obtain⟨a,hc,_⟩:=fY c.hd;rw[hc];rfl
 have hf:PySem.W.findObj K C od "__class__" = some (.bind (.builtin "getset_descriptor.__get__")<|.builtin "object.__class__"):=Mn hc c.ca c.cg c.ct;unfold getAttr? getAttrBy?;refine A_<|wpAny_mkText<|A_<|gE ?_;refine Ui (s:={s with toks:=s.toks+1}) X I c.ga c.gn<|Za (s:={s with toks:=s.toks+1}) X I c.mb hf ?_;exact jK<|PySem.W.class_get (s:={s with toks:=s.toks+1}) (ox:=ox) (od:=od) X I c.mo<|PySem.W.handed_on rfl<|DD h
def K3{K:kN}{x C:kM}(c:XIs K C):PySem.W.KitX K (.ref x) (.ref C) (λh=>∃m j,PySem.W.InstAt h x m C j) where
 ty:=λ_ _ _ ⟨_,_,I⟩=>I.type
 it:=λ_ _ X _=>by obtain⟨i,a,_⟩:=fY c.hd;unfold PySem.W.clsIn at a;split at a;rename_i p o g d f;intro u v t r k q;unfold isType loadHead;exact A_<|wpAny_loadPart (k _ _<|X _ _ f)<|DD q;cases a
 ne:=λh l dd s n w X b=>by obtain⟨i,a,_⟩:=fY c.hd;refine Bool.eq_false_iff.mpr λq=>?_;have e:C=l:=Value.ref.inj<|kD.mp q;subst e;unfold PySem.W.clsIn at a;split at a;rename_i p o g d f;have z:=(X _ _ f).symm.trans b;cases z;cases a
 ca:=λX ⟨_,_,I⟩ k=>Qc X I c k
inductive Ctxs (h:kS):kM->oA kM->Prop
 |nil {e:kM} {o:kT} {vs:oC kJ}:h.get? e=some o->o.data=.fields vs->vs[2]?=some Value.none->Ctxs h e []
 |cons {e E:kM} {o:kT} {vs:oC kJ} {l:oA kM}:h.get? e=some o->o.data=.fields vs->vs[2]?=some (Value.ref E)->Ctxs h E l->Ctxs h e (E::l)
def Ctxs.keep{h h':kS}(k:∀b o (vs:oC kJ),h.get? b=some o->o.data=.fields vs->∃f d,h'.get? b=some f/\f.data=.fields d/\d[2]?=vs[2]?){e:kM}{l:oA kM}(c:Ctxs h e l):Ctxs h' e l:=by
 induction c with
 |nil a b c=>obtain⟨f,d,g,i,j⟩:=k _ _ _ a b;exact .nil g i (j.trans c)
 |cons a b c _ m=>obtain⟨f,d,g,i,j⟩:=k _ _ _ a b;exact .cons g i (j.trans c) m
def Ctxs.same{h h':kS}(k:∀b o,h.get? b=some o->h'.get? b=some o){e:kM}{l:oA kM}(c:Ctxs h e l):Ctxs h' e l :=
 c.keep λb o f a d=>⟨o,f,k b o a,d,rfl⟩
structure ExcRec(h:kS)(e:kM)(cls:kJ)(d:oB kM)(vs:oC kJ):Prop where
 at_:h.get? e=some ⟨cls,d,.fields vs,#[]⟩
 six:vs.size=6
 tb:vs[1]?=some .none\/∃T oT ts,vs[1]?=some (.ref T)/\T≠e/\h.get? T=some oT/\oT.data=.fields ts/\ts[3]?=some .none
 cx:∃l,Ctxs h e l
structure LeftBy(fs:oA kM)(e:kM)(cls:kJ)(d:oB kM)(h h':kS):Prop where
 size:h.objs.size<=h'.objs.size
 keep:∀b o,b∉fs->b≠e->h.get? b=some o->h'.get? b=some o
 slot:∀b o,b∈fs->h.get? b=some o->∃sl,h'.get? b=some {o with slots:=sl}
 rc:∃vs,ExcRec h' e cls d vs/\vs[1]?≠some .none
 ft:∃T,(∀vs,ExcRec h' e cls d vs->vs[1]?=some (.ref T))/\h.get? T=none
section
variable {M:Model}{A:kR}{E:kJ->kK->Prop}{s:kK}{base:kS}{env:Env}{outer:oA Env}{L e:kM}{cls:kJ}{d:oB kM}{vs:oC kJ}{prog:kO}{w:kP}{K:kN}{C:kM}{X:Cx}{aa:oA<|kM×kT}{σ:St}{H:Hp}{a:kM}{h':kS}{D:kM}
def Uk{o:kT}(hd:o.data=.fields vs)(g:oC kJ->oC kJ):o.mapFields g=⟨o.cls,o.dict,.fields<|g vs,o.slots⟩:=by obtain⟨c,f,dt,b⟩:=o;dsimp only at hd;subst hd;rfl
def Er{g:kJ}{nj:Bool}{Q:Unit->kK->Prop}(Z:A.frames=some (env::outer))(hl:s.heap.FunFrames base<|env::outer)(hf:env.frame=some L)(he:s.heap.get? e=some ⟨cls,d,.fields vs,#[]⟩)(m:vs.size=6)(F:∃l,Ctxs s.heap e l)
  (h:∀h',LeftBy (frs<|env::outer) e cls d s.heap h'->Q () {s with heap:=h'}) :
  wpAny M A (do let fr <- frameOf env;let place <- entryPlaceOf L nj;let x <- EntryCells.newEntry g fr .none (rawInt L) .none place;setField (.ref e) 1 x) (λ_ T=>wpAny M A (setFlight (.ref e) none) Q E T) E s:=by
 have r:e∉frs (env::outer):=λhm=>by obtain⟨_,o,q,U⟩:=hl.mem hm;rw[he]at q;cases q;exact U vs rfl
 refine A_<|wpAny_frameOf_fun Z hl hf λh1 k=>?_;refine A_<|wpAny_entryPlaceOf λO Y=>?_;unfold EntryCells.newEntry newFields;have u:h1.get? e=some ⟨cls,d,.fields vs,#[]⟩:=(k.2.1 e r).trans he;have I:h1.objs.size≠e:=cZ<|G_ u;refine A_<|bD ?_<|Y.sizeOk5 _ _ _ _ _;generalize W:([g,Value.ref L,Value.none,rawInt L,Value.none]++if O.isEmpty=true then List.replicate 6 Value.none else O).toArray=ts;have V:5<=ts.size:=by rw[<- W];simp
 have t:=C_ (h:=h1) {cls:=.type "traceback",dict:=none,data:=.fields ts} u;refine eJ t rfl (by rw[m];decide) ?_;dsimp only;have B:=aX (Obj.mapFields (·.setIfInBounds 1 (Value.ref h1.objs.size))) t rfl;have j:((h1.push {cls:=.type "traceback",dict:=none,data:=.fields ts}).update e<|Obj.mapFields (·.setIfInBounds 1 (Value.ref h1.objs.size))).get? h1.objs.size=some {cls:=.type "traceback",dict:=none,data:=.fields ts} :=
  (aR _ _ I.symm).trans (I_ h1 rfl)
 unfold setFlight;refine A_ (bJ B rfl (x:=.ref h1.objs.size) (by simp[m]) ?_);rw[R_<|by simp];refine eJ j rfl (by omega)<|h _ ?_;generalize n:(h1.push {cls:=.type "traceback",dict:=none,data:=.fields ts}).update e (Obj.mapFields (·.setIfInBounds 1 (Value.ref h1.objs.size)))=h3 at B j;have S:=aX (Obj.mapFields (·.setIfInBounds 3 ((none:oB kM).elim Value.none λf=>rawInt f))) j rfl;have v:∀b o,b≠e->h1.get? b=some o->(h3.update h1.objs.size<|Obj.mapFields (·.setIfInBounds 3 ((none:oB kM).elim Value.none λf=>rawInt f))).get? b=some o:=λb o hb q=>by have G:h1.objs.size≠b:=cZ<|G_ q;rw[aR _ _ G,<- n,aR _ _<|dA hb];exact C_ _ q
 have i:(h3.update h1.objs.size<|Obj.mapFields (·.setIfInBounds 3 ((none:oB kM).elim Value.none λf=>rawInt f))).get? e=some ⟨cls,d,.fields<|vs.setIfInBounds 1<|.ref h1.objs.size,#[]⟩:=by rw[aR _ _ I];exact B
 refine⟨?_,λb o hb p q=>v b o p<|(k.2.1 b hb).trans q,λb o hb q=>?_,⟨_,⟨i,by simp[m],.inr ⟨h1.objs.size,_,_,by simp[m],I,S,rfl,?_⟩,F.imp λl c=>c.keep λb o y q J=>?_⟩,by simp[m]⟩,⟨h1.objs.size,λy R=>?_,?_⟩⟩;rw[iQ,<- n,iQ,cQ,k.1];exact fP _;obtain⟨P,N⟩:=k.2.2 b o q;exact⟨P,v b _ (λz=>r<|z ▸ hb) N⟩;show(ts.setIfInBounds 3 Value.none)[3]?=some Value.none;rw[dG,R_ rfl,R_<|by omega];have:=R.at_.symm.trans i;cases this;simp[m];exact Heap.get?_none_of_le (by rw[k.1];exact H_ _);by_cases p:b=e;subst p;rw[he]at q;cases q;cases J;exact⟨_,_,i,rfl,by rw[dG,N_<|by decide]⟩;by_cases hb:b∈frs (env::outer);obtain⟨P,N⟩:=k.2.2 b o q;exact⟨_,y,v b _ p N,J,rfl⟩;exact⟨o,y,v b o p<|(k.2.1 b hb).trans q,J,rfl⟩
def Ze{Q:Unit->kK->Prop}(r:A.frames=some (env::outer))(hl:s.heap.FunFrames base<|env::outer)(hf:env.frame=some L)(R:ExcRec s.heap e cls d vs)
  (h:∀h',LeftBy (frs<|env::outer) e cls d s.heap h'->Q () {s with heap:=h'}):wpAny M A («leaving» env<|.ref e) Q E s:=by
 unfold «leaving» noteFrame;simp only[hf];rcases R.tb with h1|⟨T,G,i,h1,I,g,hd,j⟩;refine A_<|A_<|bJ R.at_ rfl h1 ?_;rw[N_<|by decide];exact Er r hl hf R.at_ R.six R.cx h
 ·refine A_<|A_<|bJ R.at_ rfl h1 ?_;rw[R_<|by simp];refine A_<|bJ g hd j ?_;rw[N_<|by simp[rawInt]];have n:3<i.size:=(cJ.mp j).1;refine A_<|eJ g hd n ?_;have same:s.heap.update T (Obj.mapFields (·.setIfInBounds 3 Value.none))=s.heap\/True:=.inr trivial;have u:(s.heap.update T<|Obj.mapFields (·.setIfInBounds 3 Value.none)).get? T=some G:=by
   have q:=aX (Obj.mapFields (·.setIfInBounds 3 Value.none)) g<|fL<|eK hd _;rw[q,Uk hd];have:i.setIfInBounds 3 Value.none=i:=by apply Array.ext_getElem?;intro k;rw[dG];by_cases hk:3=k;subst hk;rw[R_ rfl,R_ n,j];rw[N_ hk]
   rw[this,<- hd]
  have f:∀b o,s.heap.get? b=some o->(s.heap.update T<|Obj.mapFields (·.setIfInBounds 3 Value.none)).get? b=some o:=λb o q=>by by_cases hb:T=b;subst hb;rw[u,<- q,g];rw[aR _ _ hb];exact q
  refine Er (s:={s with heap:=s.heap.update T<|Obj.mapFields (·.setIfInBounds 3 Value.none)}) r (hl.of_keeps λb o q _=>⟨o,f b o q,rfl⟩) hf (f _ _ R.at_) R.six (R.cx.imp λ_ c=>c.same f) λh' ⟨p,x,y,v,t⟩=>h h' ⟨?_,λb o hb B q=>x b o hb B<|f b o q,λb o hb q=>y b o hb<|f b o q,v,?_⟩;rw[iQ]at p;exact p
  ·obtain⟨m,F,l⟩:=t;refine⟨m,F,?_⟩;cases z:s.heap.get? m with
   |none=>rfl
   |some o=>rw[f _ _ z]at l;cases l
def Zf{x:Sem kJ}{Q:Flow->kK->Prop}(m:A.handled=none)
  (h:qX prog w A x (λv b=>∃e C d vs,v=.ref e/\K.In b.heap/\b.heap.get? e=some ⟨.ref C,d,.fields vs,#[]⟩/\vs[1]?=some .none/\Hb K C=true/\PySem.W.mroIn K C (.type "BaseException")=some true/\E (.ref e) b) E s) :
  qX prog w A (raiseStmt env (some x) none) Q E s:=by
 unfold raiseStmt;refine A_<|a_ h (λv b h1=>?_) λ_ _ z=>z;obtain⟨e,C,d,vs,rfl,X,he,h1,hc,hm,j⟩:=h1;obtain⟨y,r,N,G,p,B,q,sub,o,I,dd,F,t,P,J,O,l,_⟩:=Uj X hc;obtain⟨hp,g,n,u,os⟩:=b;have c:PySem.W.Looks (model prog w) hp (typeOf<|.ref e) (.ref C):=(eG he).andThen .now;have i:PySem.W.Looks (model prog w) hp (typeOf<|.ref C) (.type "type"):=(eG l).andThen .now;have f:PySem.W.Looks (model prog w) hp (isType<|.ref e) false:=(eG he).andThen .now;have k:PySem.W.Looks (model prog w) hp (isInstance (.ref e)<|.type "BaseException") true:=c.andThen<|eY X hm;refine A_<|DD ?_;refine A_<|aT ?_;unfold excFromValue isExcClass;refine A_<|A_<|f.at<|DD ?_;rw[N_<|by decide];refine A_<|k.at ?_;rw[R_ rfl];refine DD ?_;refine A_<|f.at ?_;dsimp only;rw[N_<|by decide];unfold raisedInstance;refine A_<|A_<|c.at<|A_<|i.at ?_;rw[R_<|by decide];refine DD ?_;unfold setFlight;refine A_<|A_<|bJ he rfl h1 ?_;rw[N_<|by decide];exact DD<|wpAny_raiseNew_none m j
def Sm{ex:kQ}{pos:Pos}{Q:Flow->kK->Prop}(c:A.handled=none)
  (h:qX prog w A (eval ex env) (λv b=>∃e C d vs,v=.ref e/\K.In b.heap/\b.heap.get? e=some ⟨.ref C,d,.fields vs,#[]⟩/\vs[1]?=some .none/\Hb K C=true/\PySem.W.mroIn K C (.type "BaseException")=some true/\E (.ref e) b) E s) :
  qX prog w A (exec (.Raise (some ex) none pos) env) Q E s:=by
 rw[arm_exec_Raise];refine A_<|gC ?_;show qX prog w A (raiseStmt env (some<|do let v <- eval ex env;standAt pos;pure v) none) Q E s;refine Zf (K:=K) c<|A_<|a_ h (λv b h1=>A_<|gC<|DD h1) λ_ _ z=>z
def XR(e C:kM)(d:oB kM):HO:=.ext λh=>∃vs:oC kJ,h.get? e=some ⟨.ref C,d,.fields vs,#[]⟩/\vs.size=6
def Zg{P:kO}{w:kP}{H:Hp}{h:kS}{e C:kM}{d:oB kM}{vs:oC kJ}(hx:h.get? e=some ⟨.ref C,d,.fields vs,#[]⟩)(b:vs.size=6):Bs P w H h e (XR e C d) :=
 ⟨⟨vs,hx,b⟩,⟨_,hx⟩,by rintro _ _ ⟨vs,p,q⟩ k;exact ⟨vs,k _ p,q⟩⟩
def Zh{P:kO}{w:kP}{H:Hp}{h:kS}{e C:kM}{d:oB kM}(ok:HOk P w H h)(q:H e=some (XR e C d)):∃vs:oC kJ,h.get? e=some ⟨.ref C,d,.fields vs,#[]⟩/\vs.size=6:=(show Bs P w H h e (XR e C d) from ok e _ q).1
def IS(P:kO)(w:kP):CXT:=λouter H s E e b=>∃a C d c,e=.ref a/\b.os=s.os/\0<b.toks/\AllBare b.gens/\Un (frs outer) [] H c s.heap b.heap/\HOk P w c b.heap/\(∃vs,ExcRec b.heap a (.ref C) d vs)/\c a=some (XR a C d)/\E (.ref C) (some a) c
def Inv.left(I:Inv X aa σ H s)(hx:H a=some (XR a C d))(L:LeftBy (frs X.stack) a (.ref C) d s.heap h'):Inv X aa σ H {s with heap:=h'}:=by
 have f:∀b u,H b=some u->b∉frs X.stack:=λb u q z=>by rw[I.stkFree b z]at q;cases q
 obtain⟨vs,R,_⟩:=id L.rc;have g:Un (frs X.stack) [] H H s.heap h':=by refine⟨λb o q n hb _=>L.keep b o hb (λz=>by rw[z,hx]at n;cases n) q,λb o q n hb _=>L.slot b o hb q,λ_ _ _ n _=>n,λb o q _=>?_,λ_ _ q=>q,λ_ _ _ q=>q,λ_ i q=>⟨#[],by rw[q];simp⟩⟩;by_cases h1:b∈frs X.stack;obtain⟨j,h⟩:=L.slot b o h1 q;exact⟨_,h⟩;by_cases h2:b=a;subst h2;exact⟨_,R.at_⟩;exact⟨o,L.keep b o h1 h2 q⟩
 refine I.call (ch:=[]) (g':=s.gens) (d':=s.drawn) (t':=s.toks) g (λb u q=>?_) I.bare (λb z=>absurd z<|by simp);by_cases hb:b=a;subst hb;rw[hx]at q;cases q;exact Zg R.at_ R.six;refine(I.hok b u q).stay (λc v hc r=>L.keep c v ?_ ?_ r) (λ_ q=>q) λ_ _ q=>q;rcases hc with rfl|hc;exact f _ _ q;exact f _ _ hc;rintro rfl;rcases hc with z|hc;exact hb z.symm;rw[hx]at hc;cases hc
def Wy(X:Cx)(b:XK):Prop:=∀(aa:oA<|kM×kT) (σ:St) (H:Hp) (s:kK) (a C:kM) (d:oB kM) (vs:oC kJ),Inv X aa σ H s->H a=some (XR a C d)->ExcRec s.heap a (.ref C) d vs->b (.ref C) (some a) H->X.xe (.ref a) s
def Wy.passes{j k:XK}(h:Wy X j)(i:∀c d H,k c d H->j c d H):Passes (IS X.prog X.w) X k:=by rintro aa σ H s e n I ⟨a,C,d,l,rfl,os,p,f,m,g,⟨vs,R⟩,hx,o⟩;exact h aa σ l n a C d vs (I.call' os m g f λb z=>absurd z<|by simp) hx R<|i _ _ _ o
def FJ{P:kO}{w:kP}{K:kN}{mg:Str->oB kJ}{base:kS}{N:oA Str}{c:Str}{b:kX}{f:kM}{g:kJ}{A:kR}{outer:oA Env}{s:kK}{H:Hp}{E:XK} :
  Wy (J5 (IS P w) P w K mg base N c b f g A outer s H E) E:=by
 intro aa σ l i a C d vs I hx R k;show qX P w _ («leaving» (envOfC c b s.heap.objs.size f g)<|.ref a) _ _ i;refine Ze (base:=base) (outer:=outer) I.ok.frames I.stack rfl R λh' L=>?_;have J:=I.left hx L;obtain⟨h,j,_⟩:=L.rc;exact⟨a,C,d,l,rfl,J.os,J.tk,J.bare,J.base,J.hok,⟨h,j⟩,hx,k⟩
def Jm{h:kS}{T:kM}{f:kT}{c:oC kJ}(g:h.get? T=some f)(hd:f.data=.fields c)(i:c[3]?=some .none) :
  ∀b o,h.get? b=some o->(h.update T<|Obj.mapFields (·.setIfInBounds 3 Value.none)).get? b=some o:=by
 have j:3<c.size:=(cJ.mp i).1;have l:(h.update T<|Obj.mapFields (·.setIfInBounds 3 Value.none)).get? T=some f:=by
  have q:=aX (Obj.mapFields (·.setIfInBounds 3 Value.none)) g<|fL<|eK hd _;rw[q,Uk hd];have:c.setIfInBounds 3 Value.none=c:=by apply Array.ext_getElem?;intro k;rw[dG];by_cases hk:3=k;subst hk;rw[R_ rfl,R_ j,i];rw[N_ hk]
  rw[this,<- hd]
 intro b o q;by_cases hb:T=b;subst hb;rw[l,<- q,g];rw[aR _ _ hb];exact q
def Wz{Q:Unit->kK->Prop}(n:A.frames=some (env::outer))(hl:s.heap.FunFrames base<|env::outer)(hf:env.frame=some L)(R:ExcRec s.heap e cls d vs)
  (h:∀h',LeftBy (frs<|env::outer) e cls d s.heap h'->Q () {s with heap:=h'}):wpAny M A (noteFrame (.ref e) env) (λ_ g=>wpAny M A (setFlight (.ref e) none) Q E g) E s:=by
 unfold noteFrame;simp only[hf];rcases R.tb with h1|⟨T,G,B,h1,F,i,hd,j⟩;refine A_<|bJ R.at_ rfl h1 ?_;rw[N_<|by decide];exact Er n hl hf R.at_ R.six R.cx h
 ·refine A_<|bJ R.at_ rfl h1 ?_;rw[R_<|by simp];refine A_<|bJ i hd j ?_;rw[N_<|by simp[rawInt]];have u:3<B.size:=(cJ.mp j).1;refine A_<|eJ i hd u ?_;have f:=Jm i hd j;refine Er (s:={s with heap:=s.heap.update T<|Obj.mapFields (·.setIfInBounds 3 Value.none)}) n (hl.of_keeps λb o q _=>⟨o,f b o q,rfl⟩) hf (f _ _ R.at_) R.six (R.cx.imp λ_ c=>c.same f) λh' ⟨m,t,v,r,p⟩=>h h' ⟨?_,λb o hb x q=>t b o hb x<|f b o q,λb o hb q=>v b o hb<|f b o q,r,?_⟩;rw[iQ]at m;exact m
  ·obtain⟨l,y,k⟩:=p;refine⟨l,y,?_⟩;cases z:s.heap.get? l with
   |none=>rfl
   |some o=>rw[f _ _ z]at k;cases k
def W0{Q:Unit->kK->Prop}(R:ExcRec s.heap e cls d vs)(h:∀h',(∀b o,s.heap.get? b=some o->h'.get? b=some o)->Q () {s with heap:=h'}):wpAny M A (setFlight (.ref e) none) Q E s:=by unfold setFlight;rcases R.tb with h1|⟨T,i,j,h1,g,c,hd,f⟩;refine A_<|bJ R.at_ rfl h1 ?_;rw[N_<|by decide];exact DD<|h _ λ_ _ q=>q;refine A_<|bJ R.at_ rfl h1 ?_;rw[R_<|by simp];exact eJ c hd (cJ.mp f).1<|h _<|Jm c hd f
def Qe{b:Bool}{Q:Bool->kK->Prop}(X:K.In s.heap)(i:Hb K D=true)(he:s.heap.get? e=some ⟨.ref C,d,.fields vs,#[]⟩)(hb:PySem.W.mroIn K D (.type "BaseException")=some true)
  (hm:PySem.W.mroIn K C (.ref D)=some b) (h:Q b s):qX prog w A (excMatches (.ref e)<|.ref D) Q E s:=by
 obtain⟨u,p,N,y,o,v,q,sub,n,z,dd,x,t,G,B,F,c,_⟩:=Uj X i;obtain⟨hp,g,m,r,os⟩:=s;have j:PySem.W.Looks (model prog w) hp (typeOf<|.ref e) (.ref C):=(eG he).andThen .now;have f:PySem.W.Looks (model prog w) hp (typeOf<|.ref D) (.type "type"):=(eG c).andThen .now;have k:PySem.W.Looks (model prog w) hp (isType<|.ref D) true:=(eG c).andThen .now;have l:isSubtype (.type "type") (.type "tuple")=pure false:=isSubtype_of_subB rfl;unfold excMatches isExcClass isInstance;refine A_<|A_<|f.at ?_;rw[l];refine DD ?_;rw[N_<|by decide];refine A_<|DD ?_;simp only[List.forIn_cons,List.forIn_nil];refine A_<|A_<|A_<|A_<|k.at ?_;rw[R_ rfl];refine(eY X hb).at ?_;simp only[Bool.not_true,Bool.false_eq_true,if_false];refine DD ?_;refine DD ?_;refine A_<|j.at ?_;refine A_<|A_<|A_<|(eY X hm).at ?_;cases b with
 |true=>simp only[if_true];exact DD (DD<|DD h)
 |false=>simp only[Bool.false_eq_true,if_false];exact DD<|DD<|DD h
def Inv.retype{a:kM}{c:kS->Prop}{o:HO}(I:Inv X aa σ H s)(q:H a=some (.ext c))(b:Bs X.prog X.w (upd H a o) s.heap a o):Inv X aa σ (upd H a o) s :=
 I.write (x:=a) (e:=a) (t':=s.toks) (h':=s.heap) (by rw[q];exact True.intro) (.inl rfl) (λ_ _ _ z=>z) (by obtain⟨_,q,_⟩:=(show Bs X.prog X.w H s.heap a (.ext c) from I.hok a _ q);exact q) b
def MN(K:kN)(c:XK)(te:TE):TS:=λ_ σ H=>te σ H λx b=>∃a C t d,x=.ref a/\b a=some (XO a C t d)/\Hb K C=true/\PySem.W.mroIn K C (.type "BaseException")=some true/\c (.ref C) (some a) (upd b a<|XR a C d)
def Zi{ex:kQ}{pos:Pos}{te:TE}{f:XK}(hc:X.calm=true)(hx:Wy X f)(he:PE X ex te):PS X (.Raise (some ex) none pos) (MN X.K f te):=by intro aa s σ H D I h;refine Sm (K:=X.K) (I.ok.hd hc)<|thn (he aa s σ H _ I h) λv g l=>?_;obtain⟨x,m,c,r,a,C,t,d,ex,ha,i,j,k⟩:=l;subst ex;obtain rfl:v=Value.ref a:=r;have b:=Zb c.hok ha;exact⟨a,C,d,_,rfl,c.kIn,b,rfl,i,j,hx aa σ _ g a C d _ (c.retype ha<|Zg b rfl) Bo ⟨b,rfl,.inl rfl,[],.nil b rfl rfl⟩ k⟩
abbrev Cx.suite(X:Cx)(e:kM):Cx:={X with A:=X.A.mark<|some<|.ref e,calm:=false,xe:=λ_ _=>False}
def Inv.suite{e:kM}(I:Inv X aa σ H s):Inv (X.suite e) aa σ H s :=
 ⟨⟨I.ok.mod,I.ok.kind,I.ok.glob,I.ok.blt,I.ok.above,I.ok.inj,I.ok.has,I.ok.cab,λz=>(nomatch z),I.ok.frames,I.ok.stk,I.ok.exf,I.ok.bs,I.ok.bsz,I.ok.noex,I.ok.exfs,I.ok.funs,I.ok.frf⟩,I.os,I.bare,I.base,I.loc,I.cell,I.free,I.freeC,I.pin,I.hok,I.len,I.tk⟩
def Inv.unsuite{e:kM}(ok:X.Ok)(I:Inv (X.suite e) aa σ H s):Inv X aa σ H s:=⟨ok,I.os,I.bare,I.base,I.loc,I.cell,I.free,I.freeC,I.pin,I.hok,I.len,I.tk⟩
def Ke{M:Model}{A:kR}{E:kJ->kK->Prop}{i:Nat}{n:Str}{pos:Pos}{Q:Unit->kK->Prop}(I:Inv X aa σ H s)(G:X.N.Nodup)(U:X.N[i]?=some n)(hk:X.env.scope.names.lookup n=some .local)
  (h:∀t,Inv X aa (σ.set i none) H t->Q () t):wpAny M A (do bindName X.env n .none;unbindBehindTheSuite X.env n pos) Q E s:=by
 obtain⟨m,J,O⟩:=id I.loc;have Y:(X.env.scope.kind==.class||(X.env.scope.kind==.module&&X.env.locals != X.env.globals))=false:=by rw[I.ok.kind];rfl
 refine wpAny_nameGoes_keeps hk J Y λh' v S f=>?_;have r:∀b o,X.s₀.heap.get? b=some o->b≠X.env.locals:=λb o e=>O_<|S_ (G_ e) I.ok.above;refine h _ ⟨I.ok,I.os,I.bare,⟨λb o e z hb hx=>(f.2 b<|r b o e).trans<|I.base.keep b o e z hb hx,λb o e z hb hx=>?_,I.base.free,λb o e hx=>?_,I.base.tups,I.base.frzs,I.base.tbls⟩,⟨_,S,λj y x g l Z=>?_⟩,λy c e=>?_,I.free,I.freeC,λp hp=>?_,λb V e=>?_,by rw[List.length_set];exact I.len,by first|exact aQ _|exact I.tk⟩;obtain⟨R,g⟩:=I.base.slot b o e z hb hx;exact⟨R,(f.2 b<|r b o e).trans g⟩;obtain⟨B,g⟩:=I.base.there b o e hx;exact⟨B,(f.2 b<|r b o e).trans g⟩;have hj:j≠i:=by rintro rfl;rw[List.getElem?_set]at l;simp only[if_true]at l;split at l<;>cases l
 rw[iW<|dA hj]at l;obtain⟨P,T,q⟩:=O j y x g l Z;refine⟨P,T,?_⟩;have W:y≠n:=λz=>hj<|Kr G g<|z ▸ U;rcases q with⟨k,e⟩|⟨k,c,e,z⟩;exact .inl ⟨k,by show(if y=n then v else m y)=_;rw[N_ W];exact e⟩;exact .inr ⟨k,c,e,z.sameBut f<|I.cne y c e⟩;obtain⟨u,z⟩:=I.cell y c e;exact⟨u,z.sameBut f<|I.cne y c e⟩;obtain⟨e,z,ne,F,d⟩:=I.pin p hp;exact⟨(f.2 p.1 ne).trans e,z,ne,F,d⟩;refine(I.hok b V e).stay (λc u hc q=>(f.2 c ?_).trans q) (λ_ q=>q) λ_ _ q=>q;rintro rfl;rcases hc with z|z;rw[<- z,I.free]at e;cases e;rw[I.free]at z;cases z
abbrev Cx.taking(X:Cx)(xe:kJ->kK->Prop)(pn:oA<|kM×kT):Cx:={X with xe:=xe,pn:=pn}
def Inv.take{xe:kJ->kK->Prop}(I:Inv X aa σ H s):Inv (X.taking xe<|X.pn++aa) [] σ H s :=
 ⟨⟨I.ok.mod,I.ok.kind,I.ok.glob,I.ok.blt,I.ok.above,I.ok.inj,I.ok.has,I.ok.cab,I.ok.hd,I.ok.frames,I.ok.stk,I.ok.exf,I.ok.bs,I.ok.bsz,I.ok.noex,I.ok.exfs,I.ok.funs,I.ok.frf⟩,I.os,I.bare,I.base,I.loc,I.cell,I.free,I.freeC,λp hp=>I.pin p<|by rw[cX]at hp;exact hp,I.hok,I.len,I.tk⟩
def Inv.untake{xe:kJ->kK->Prop}{b:oA<|kM×kT}(ok:X.Ok)(I:Inv (X.taking xe<|X.pn++aa) b σ H s):Inv X aa σ H s :=
 ⟨ok,I.os,I.bare,I.base,I.loc,I.cell,I.free,I.freeC,λp hp=>I.pin p<|cK _ hp,I.hok,I.len,I.tk⟩
end
end L2
namespace L2
open PySem PySem.Spec PyProof.Rows
inductive AV where
 |D (d:kL)|R (a:kM)|C (ds:oA kL)|X (C:kM) (fs:oA<|Str×kL)
 deriving Inhabited
mutual
def Cano:kL->Bool
 |.int _=>true
 |.str _=>true
 |.tuple a=>Av a
 |_=>false
def Av:oA kL->Bool
 |[]=>true
 |x::a=>Cano x&&Av a
end
structure KeyTree(d:kL):Prop where
 can:Cano d=true
 lay:d.canLay0=true
 dep:d.depth<=6
def FK(K:kN)(H:Hp)(a:kM)(xs:oA V):Prop :=
 (∃o,H a=some (.frz o<|.lst xs)) \/
  ∃(o:kT) (b:oC kJ) (n:Nat),K.lookup a=some o/\o.cls=.type "list" /\ o.dict=none/\o.data=.seq b n/\b.size<=sizeLine/\Vals xs b.toList
def FK.sq{K:kN}{H:Hp}{a:kM}{xs:oA V}(h:FK K H a xs):Fa K H a xs:=by rcases h with⟨o,h⟩|h;exact .inl<|.inr ⟨o,h⟩;exact .inr h
def Lit:oA kL->Bool
 |.str _::_=>true
 |.tuple _::_=>true
 |_=>false
def DY(K:kN)(H:Hp)(a:kM)(ds:oA kL)(xs:oA V):Prop :=
 H a=some (.tup xs)\/(Lit ds=true/\(∃o,K.lookup a=some o/\o.dict=none)/\∃(o:kT) (b:oC kJ) (n:Nat),K.lookup a=some o/\o.cls=.type "tuple" /\ o.data=.seq b n/\b.size<=sizeLine/\Vals xs b.toList)
def DY.sq{K:kN}{H:Hp}{a:kM}{ds:oA kL}{xs:oA V}(h:DY K H a ds xs):Ii K H a xs:=by rcases h with h|h;exact Ii.of h;exact .inr h.2.2
mutual
def Dk(K:kN)(H:Hp):kL->V->Prop
 |.none,x=>x=.non
 |.bool b,x=>x=.bl b
 |.int i,x=>x=.int i
 |.str z,x=>x=.str z
 |.list d,x=>∃a c,x=.ref a/\FK K H a c/\Au K H d c
 |.tuple d,x=>∃a c,x=.ref a/\DY K H a d c/\Au K H d c
 |.dict _,_=>False
def Au(K:kN)(H:Hp):oA kL->oA V->Prop
 |[],a=>a=[]
 |d::b,a=>∃x r,a=x::r/\Dk K H d x/\Au K H b r
end
structure Kp(H H':Hp):Prop where
 t:∀b xs,H b=some (.tup xs)->H' b=some (.tup xs)
 f:∀b o u,H b=some (.frz o u)->H' b=some (.frz o u)
def Kp.refl{H:Hp}:Kp H H:=⟨λ_ _ h=>h,λ_ _ _ h=>h⟩
def Kp.trans{H d e:Hp}(a:Kp H d)(b:Kp d e):Kp H e:=⟨λc g h=>b.t c g<|a.t c g h,λc o u h=>b.f c o u<|a.f c o u h⟩
def Kp.new{H:Hp}{p:kM}(h:H p=none)(o:HO):Kp H (upd H p o) :=
 ⟨λb c e=>by rw[Bd<|Ck e h];exact e,λb a u e=>by rw[Bd<|Ck e h];exact e⟩
def Mt:HO->Prop
 |.lst _=>True
 |.dK _=>True
 |.dT _=>True
 |.dd _=>True
 |_=>False
def Kp.put{H:Hp}{p:kM}{a:HO}(h:H p=some a)(m:Mt a)(o:HO):Kp H (upd H p o) :=
 ⟨λb d e=>by rw[Bd<|Pn e h<|by intro z;subst z;exact m];exact e,λb c u e=>by rw[Bd<|Pn e h<|by intro z;subst z;exact m];exact e⟩
def FK.kp{K:kN}{H H':Hp}{a:kM}{xs:oA V}(S:Kp H H')(h:FK K H a xs):FK K H' a xs:=by rcases h with⟨o,h⟩|h;exact .inl ⟨o,S.f _ _ _ h⟩;exact .inr h
def DY.kp{K:kN}{H H':Hp}{a:kM}{ds:oA kL}{xs:oA V}(S:Kp H H')(h:DY K H a ds xs):DY K H' a ds xs:=by rcases h with h|h;exact .inl<|S.t _ _ h;exact .inr h
section
variable {K:kN}{H H':Hp}{X:Cx}{a b c:kQ}{ta tb tc:AE}{pos:Pos}{rest:oA kQ}{tA nh:AT}{es:oA kQ}{t:AA}{k:Nat}{x:Str}{p:Pos}{e:kQ}{oh T:String}{r:AC}{o:kQ}{to:AE}{name:Str}{cu bd:Pos}{m:AV->AC}
mutual
theorem Dk.kp(S:Kp H H'):∀(d:kL) (x:V),Dk K H d x->Dk K H' d x
 |.none,x,h=>by simp only[Dk]at h ⊢;exact h
 |.bool b,x,h=>by simp only[Dk]at h ⊢;exact h
 |.int i,x,h=>by simp only[Dk]at h ⊢;exact h
 |.str z,x,h=>by simp only[Dk]at h ⊢;exact h
 |.list g,x,h=>by simp only[Dk]at h ⊢;obtain⟨a,f,e,q,r⟩:=h;exact⟨a,f,e,q.kp S,Au.kp S g f r⟩
 |.tuple g,x,h=>by simp only[Dk]at h ⊢;obtain⟨a,f,e,q,r⟩:=h;exact⟨a,f,e,q.kp S,Au.kp S g f r⟩
 |.dict _,x,h=>by simp only[Dk]at h
theorem Au.kp(S:Kp H H'):∀(ds:oA kL) (xs:oA V),Au K H ds xs->Au K H' ds xs
 |[],xs,h=>by simp only[Au]at h ⊢;exact h
 |d::ds,xs,h=>by simp only[Au]at h ⊢;obtain⟨x,r,e,h1,h2⟩:=h;exact⟨x,r,e,Dk.kp S d x h1,Au.kp S ds r h2⟩
end
def Ef{i:Int}:Dk K H (.int i) (.int i):=by simp only[Dk]
def Nc{b:Bool}:Dk K H (.bool b) (.bl b):=by simp only[Dk]
def Sn{z:Str}:Dk K H (.str z) (.str z):=by simp only[Dk]
def Zj:Dk K H .none .non:=by simp only[Dk]
def Dk.int{x:V}{i:Int}(h:Dk K H (.int i) x):x=.int i:=by simp only[Dk]at h;exact h
def Dk.bl{x:V}{i:Bool}(h:Dk K H (.bool i) x):x=.bl i:=by simp only[Dk]at h;exact h
def Dk.str{x:V}{i:Str}(h:Dk K H (.str i) x):x=.str i:=by simp only[Dk]at h;exact h
def Dk.non{x:V}(h:Dk K H .none x):x=.non:=by simp only[Dk]at h;exact h
def Dk.tup{x:V}{ds:oA kL}(h:Dk K H (.tuple ds) x):∃a d,x=.ref a/\DY K H a ds d/\Au K H ds d:=by simp only[Dk]at h;exact h
def Dk.lst{x:V}{ds:oA kL}(h:Dk K H (.list ds) x):∃a d,x=.ref a/\FK K H a d/\Au K H ds d:=by simp only[Dk]at h;exact h
def So{a:kM}{xs:oA V}{ds:oA kL}(h:H a=some (.tup xs))(r:Au K H ds xs):Dk K H (.tuple ds) (.ref a):=by simp only[Dk];exact⟨a,xs,rfl,.inl h,r⟩
def MP{a:kM}{xs:oA V}{ds:oA kL}(h:FK K H a xs)(r:Au K H ds xs):Dk K H (.list ds) (.ref a):=by simp only[Dk];exact⟨a,xs,rfl,h,r⟩
def D8:Au K H [] []:=by simp only[Au]
def Ct{d:kL}{ds:oA kL}{x:V}{xs:oA V}(h:Dk K H d x)(r:Au K H ds xs):Au K H (d::ds) (x::xs):=by simp only[Au];exact⟨x,xs,rfl,h,r⟩
def Au.cons{d:kL}{ds:oA kL}{xs:oA V}(h:Au K H (d::ds) xs):∃x r,xs=x::r/\Dk K H d x/\Au K H ds r:=by simp only[Au]at h;exact h
def Au.nil{xs:oA V}(h:Au K H [] xs):xs=[]:=by simp only[Au]at h;exact h
theorem Au.length:∀{ds:oA kL} {xs:oA V},Au K H ds xs->xs.length=ds.length
 |[],_,h=>by rw[h.nil];rfl
 |_::ds,_,h=>by obtain⟨x,r,rfl,_,h2⟩:=h.cons;rw[aM,aM,Au.length h2]
theorem Au.get:∀{ds:oA kL} {xs:oA V} {i:Nat} {d:kL},Au K H ds xs->ds[i]?=some d->∃x,xs[i]?=some x/\Dk K H d x
 |[],_,_,_,_,e=>by simp at e
 |_::ds,_,0,d,h,e=>by obtain⟨x,r,rfl,h1,_⟩:=h.cons;simp at e;subst e;exact⟨x,rfl,h1⟩
 |_::ds,_,i+1,d,h,e=>by obtain⟨x,r,rfl,_,h2⟩:=h.cons;obtain⟨y,f,g⟩:=Au.get (i:=i) (d:=d) h2 (by simpa using e);exact⟨y,by simpa using f,g⟩
theorem Au.append:∀{ds es:oA kL} {xs ys:oA V},Au K H ds xs->Au K H es ys->Au K H (ds++es) (xs++ys)
 |[],_,_,_,h,k=>by rw[h.nil];exact k
 |_::ds,_,_,_,h,k=>by obtain⟨x,r,rfl,h1,h2⟩:=h.cons;exact Ct h1<|Au.append h2 k
theorem Au.drop:∀(n:Nat) {ds:oA kL} {xs:oA V},Au K H ds xs->Au K H (ds.drop n) (xs.drop n)
 | 0,_,_,h=>h
 |_+1,[],_,h=>by rw[h.nil];exact D8
 |n+1,_::ds,_,h=>by obtain⟨x,r,rfl,_,h2⟩:=h.cons;exact Au.drop n h2
theorem Au.take:∀(n:Nat) {ds:oA kL} {xs:oA V},Au K H ds xs->Au K H (ds.take n) (xs.take n)
 | 0,_,_,_=>D8
 |_+1,[],_,h=>by rw[h.nil];exact D8
 |n+1,_::ds,_,h=>by obtain⟨x,r,rfl,h1,h2⟩:=h.cons;exact Ct h1<|Au.take n h2
def Au.cut{ds:oA kL}{xs:oA V}(h:Au K H ds xs)(lo d:oB Int):Au K H (J7 ds lo d) (Mk xs lo d):=by unfold J7 Mk;rw[h.length];exact(h.drop _).take _
theorem Au.atI{ds:oA kL}{xs:oA V}{i:Int}{d:kL}(h:Au K H ds xs)(e:atI ds i=some d):∃x,L2.atI xs i=some x/\Dk K H d x:=by
 unfold L2.atI at e ⊢;rw[h.length];cases q:Ua ds.length i with
 |none=>rw[q]at e;cases e
 |some j=>rw[q]at e;obtain⟨x,hx,hd⟩:=h.get<|show ds[j]?=some d from e;exact⟨x,hx,hd⟩
def J8(K:kN)(H:Hp):oA (Str×kL)->oA (Str×V)->Prop:=Paired λp q=>p.1=q.1/\Dk K H p.2 q.2
def J8.kp{d:oA<|Str×kL}{vs:oA<|Str×V}(S:Kp H H')(h:J8 K H d vs):J8 K H' d vs:=Paired.mapP h λp q r=>⟨r.1,Dk.kp S _ _ r.2⟩
def XFs(K:kN)(H:Hp)(d:oB kM)(g:oA<|Str×kL):Prop:=match d with
 |none=>g=[]
 |some d=>∃h f,H d=some (.frz h<|XD d f)/\J8 K H g f
theorem XFs.kp{d:oB kM}{g:oA<|Str×kL}(S:Kp H H')(h:XFs K H d g):XFs K H' d g:=by
 cases d with
 |none=>exact h
 |some d=>obtain⟨i,j,q,r⟩:=h;exact⟨i,j,S.f _ _ _ q,r.kp S⟩
def RelA(K:kN)(H:Hp):AV->V->Prop
 |.D d,v=>Dk K H d v
 |.R a,v=>v=.ref a
 |.C g,v=>∃a f,v=.ref a/\(∀H,Ii K H a f)/\Au K H g f
 |.X C h,v=>∃a o d,v=.ref a/\H a=some (.frz o<|XR a C d)/\XFs K H d h
def Cu{i:Int}:RelA K H (.D<|.int i) (.int i):=Ef (K:=K) (H:=H)
def Cv{i:Bool}:RelA K H (.D<|.bool i) (.bl i):=Nc (K:=K) (H:=H)
def Gg{i:Str}:RelA K H (.D<|.str i) (.str i):=Sn (K:=K) (H:=H)
def Oo:RelA K H (.D .none) .non:=Zj (K:=K) (H:=H)
def RelA.int{x:V}{i:Int}(h:RelA K H (.D<|.int i) x):x=.int i:=Dk.int (K:=K) (H:=H) h
def RelA.bl{x:V}{i:Bool}(h:RelA K H (.D<|.bool i) x):x=.bl i:=Dk.bl (K:=K) (H:=H) h
def RelA.str{x:V}{i:Str}(h:RelA K H (.D<|.str i) x):x=.str i:=Dk.str (K:=K) (H:=H) h
def RelA.non{x:V}(h:RelA K H (.D .none) x):x=.non:=Dk.non (K:=K) (H:=H) h
def RelA.tup{x:V}{ds:oA kL}(h:RelA K H (.D<|.tuple ds) x):∃a d,x=.ref a/\DY K H a ds d/\Au K H ds d:=Dk.tup (K:=K) (H:=H) h
def RelA.lst{x:V}{ds:oA kL}(h:RelA K H (.D<|.list ds) x):∃a d,x=.ref a/\FK K H a d/\Au K H ds d:=Dk.lst (K:=K) (H:=H) h
def RelA.ref{x:V}{a:kM}(h:RelA K H (.R a) x):x=.ref a:=h
def Dz{a:kM}:RelA K H (.R a) (.ref a):=rfl
def Qf{d:kL}{v:V}(h:Dk K H d v):RelA K H (.D d) v:=h
def K4{a:kM}{xs:oA V}{ds:oA kL}(h:H a=some (.tup xs))(r:Au K H ds xs):RelA K H (.D<|.tuple ds) (.ref a):=So (K:=K) (H:=H) h r
abbrev Ba(K:kN)(H:Hp):oA AV->oA V->Prop:=Paired<|RelA K H
theorem RelA.kp(S:Kp H H'):∀{x:AV} {v:V},RelA K H x v->RelA K H' x v
 |.D d,v,h=>Dk.kp S d v h
 |.R a,_,h=>h
 |.C i,v,⟨a,g,e,q,r⟩=>⟨a,g,e,q,Au.kp S i g r⟩
 |.X C j,v,⟨a,o,d,e,q,r⟩=>⟨a,o,d,e,S.f _ _ _ q,r.kp S⟩
def Ba.kp(S:Kp H H'){xs:oA AV}{vs:oA V}(h:Ba K H xs vs):Ba K H' xs vs:=Paired.mapP h λ_ _ q=>q.kp S
def Ba.length{xs:oA AV}{vs:oA V}(h:Ba K H xs vs):xs.length=vs.length:=fK h
def Ba.append{xs ys:oA AV}{d ws:oA V}(h:Ba K H xs d)(s:Ba K H ys ws):Ba K H (xs++ys) (d++ws):=by
 induction h with
 |nil=>exact s
 |cons r t f=>exact .cons r f
theorem Ba.get:∀{xs:oA AV} {d:oA V} {i:Nat} {x:AV},Ba K H xs d->xs[i]?=some x->∃u,d[i]?=some u/\RelA K H x u
 |_,_,_,_,.nil,e=>by simp at e
 |_,_,0,_,.cons r _,e=>by simp at e;subst e;exact⟨_,rfl,r⟩
 |_,_,i+1,x,.cons _ t,e=>by obtain⟨u,h1,h2⟩:=Ba.get (i:=i) (x:=x) t (by simpa using e);exact⟨u,by simpa using h1,h2⟩
theorem Ba.set{x:AV}{u:V}(r:RelA K H x u):∀{xs:oA AV} {d:oA V} (i:Nat),Ba K H xs d->Ba K H (xs.set i x) (d.set i u)
 |_,_,_,.nil=>.nil
 |_,_,0,.cons _ t=>.cons r t
 |_,_,i+1,.cons q t=>.cons q<|Ba.set r i t
theorem Ba.drop:∀{xs:oA AV} {d:oA V} (n:Nat),Ba K H xs d->Ba K H (xs.drop n) (d.drop n)
 |_,_,0,r=>r
 |_,_,_+1,.nil=>.nil
 |_,_,n+1,.cons _ t=>Ba.drop n t
theorem Ba.take:∀{xs:oA AV} {d:oA V} (n:Nat),Ba K H xs d->Ba K H (xs.take n) (d.take n)
 |_,_,0,_=>.nil
 |_,_,_+1,.nil=>.nil
 |_,_,n+1,.cons r t=>.cons r<|Ba.take n t
def De(xs:oA AV)(lo d:oB Int):oA AV:=(xs.drop<|HT.sIx xs.length 0 lo).take<|HT.sIx xs.length xs.length d-HT.sIx xs.length 0 lo
def Ba.cut{xs:oA AV}{f:oA V}(h:Ba K H xs f)(lo d:oB Int):Ba K H (De xs lo d) (Mk f lo d):=by unfold De Mk;rw[h.length];exact(h.drop _).take _
theorem Ba.atI{xs:oA AV}{d:oA V}{i:Int}{x:AV}(h:Ba K H xs d)(e:atI xs i=some x):∃u,L2.atI d i=some u/\RelA K H x u:=by
 unfold L2.atI at e ⊢;rw[<- h.length];cases q:Ua xs.length i with
 |none=>rw[q]at e;cases e
 |some j=>rw[q]at e;obtain⟨x,hx,hd⟩:=h.get<|show xs[j]?=some x from e;exact⟨x,hx,hd⟩
def dats:oA AV->oB (oA kL)
 |[]=>some []
 |.D d::r=>match dats r with
  |some f=>some (d::f)
  |none=>none
 |.R _::_=>none
 |.C _::_=>none
 |.X _ _::_=>none
@[simp] theorem dats_nil:dats []=some []:=rfl
theorem Cw:∀(ds:oA kL),dats (ds.map .D)=some ds
 |[]=>rfl
 |d::ds=>by simp only[List.map_cons,dats,Cw ds]
theorem Gu:∀{xs:oA AV} {ds:oA kL},dats xs=some ds->xs=ds.map .D
 |[],ds,h=>by cases h;rfl
 |.D d::r,ds,h=>by
  simp only[dats]at h;cases q:dats r with
  |none=>rw[q]at h;cases h
  |some es=>rw[q]at h;cases h;rw[Gu q];rfl
 |.R _::_,_,h=>by simp[dats]at h
 |.C _::_,_,h=>by simp[dats]at h
 |.X _ _::_,_,h=>by simp[dats]at h
theorem Ba.dk:∀{ds:oA kL} {vs:oA V},Ba K H (ds.map .D) vs->Au K H ds vs
 |[],_,h=>by cases h;exact D8
 |_::_,_,h=>by
  rw[bF]at h;cases h with
  |cons r t=>exact Ct r<|Ba.dk t
theorem Au.rel:∀{ds:oA kL} {vs:oA V},Au K H ds vs->Ba K H (ds.map .D) vs
 |[],_,h=>by rw[h.nil];exact .nil
 |_::_,_,h=>by obtain⟨x,r,rfl,h1,h2⟩:=h.cons;exact .cons h1<|Au.rel h2
def Ba.dats{xs:oA AV}{vs:oA V}{ds:oA kL}(h:Ba K H xs vs)(e:dats xs=some ds):Au K H ds vs:=by rw[Gu e]at h;exact h.dk
inductive MO where
 |lst (xs:oA AV)|dk (ae:oA<|Key×AV)|dt (ae:oA<|oA Key×AV)|dd (ae:oA<|kL×AV)
abbrev M:=kM->oB MO
def Am(d:M)(a:kM)(m:MO):M:=λb=>if b=a then some m else d b
def Ac{d:M}{a:kM}{m:MO}:Am d a m a=some m:=by unfold Am;rw[R_ rfl]
def Af{d:M}{a b:kM}{m:MO}(h:b≠a):Am d a m b=d b:=by unfold Am;rw[N_ h]
def C0{d:M}{a:kM}{m n:MO}:Am (Am d a m) a n=Am d a n:=by funext b;unfold Am;split<;>rfl
def Gh{κ:Type}(K:kN)(H:Hp):oA (κ×AV)->oA (κ×V)->Prop:=Paired λp q=>p.1=q.1/\RelA K H p.2 q.2
def Gh.kp{κ:Type}(S:Kp H H'){xs:oA<|κ×AV}{vs:oA<|κ×V}(h:Gh K H xs vs):Gh K H' xs vs:=Paired.mapP h λ_ _ q=>⟨q.1,q.2.kp S⟩
def FL(K:kN)(H:Hp):oA (kL×AV)->oA (kL×kM×kJ)->Prop:=Paired λp q=>p.1=q.1/\KeyTree p.1/\Dk K H p.1 (.ref q.2.1)/\∃v,RelA K H p.2 v/\Bp v q.2.2
def FL.kp(S:Kp H H'){xs:oA<|kL×AV}{vs:oA<|kL×kM×kJ}(h:FL K H xs vs):FL K H' xs vs:=Paired.mapP h<|by rintro _ _ ⟨a,b,c,v,r,q⟩;exact ⟨a,b,Dk.kp S _ _ c,v,r.kp S,q⟩
def Mo(K:kN)(H:Hp):MO->HO->Prop
 |.lst g,o=>∃d,o=.lst d/\Ba K H g d
 |.dk f,o=>∃d,o=.dK d/\Gh K H f d
 |.dt f,o=>∃d,o=.dT d/\Gh K H f d
 |.dd f,o=>∃g,o=.dd g/\FL K H f g
theorem Mo.kp(S:Kp H H'){m:MO}{o:HO}(h:Mo K H m o):Mo K H' m o:=by
 cases m with
 |lst f=>obtain⟨d,e,r⟩:=h;exact⟨d,e,r.kp S⟩
 |dk f=>obtain⟨d,e,r⟩:=h;exact⟨d,e,r.kp S⟩
 |dt f=>obtain⟨d,e,r⟩:=h;exact⟨d,e,r.kp S⟩
 |dd f=>obtain⟨d,e,r⟩:=h;exact⟨d,e,r.kp S⟩
def Da{xs:oA AV}{vs:oA V}(h:Ba K H xs vs):Mo K H (.lst xs) (.lst vs):=⟨vs,rfl,h⟩
def Mo.mt{m:MO}{o:HO}(h:Mo K H m o):Mt o:=by
 cases m with
 |lst f=>obtain⟨d,rfl,r⟩:=h;trivial
 |dk f=>obtain⟨d,rfl,r⟩:=h;trivial
 |dt f=>obtain⟨d,rfl,r⟩:=h;trivial
 |dd f=>obtain⟨d,rfl,r⟩:=h;trivial
def Cn(K:kN)(d:M)(H:Hp):Prop:=∀a m,d a=some m->∃o,H a=some o/\Mo K H m o
theorem Cn.none{d:M}{p:kM}(c:Cn K d H)(h:H p=none):d p=none:=by
 cases q:d p with
 |none=>rfl
 |some m=>obtain⟨o,e,_⟩:=c p m q;rw[h]at e;cases e
def Cn.over{d:M}{p:kM}{o:HO}(c:Cn K d H)(h:H p=Option.none):Cn K d (upd H p o):=λa m e=>by obtain⟨g,f,r⟩:=c a m e;exact⟨g,by rw[Bd<|Ck f h];exact f,r.kp<|Kp.new h o⟩
def Cn.new{d:M}{p:kM}{m:MO}{o:HO}(c:Cn K d H)(h:H p=Option.none)(r:Mo K H m o):Cn K (Am d p m) (upd H p o):=λa f e=>by by_cases ha:a=p;subst ha;rw[Ac]at e;cases e;exact⟨o,Bo,r.kp<|Kp.new h o⟩;rw[Af ha]at e;exact c.over h a f e
def Cn.put{d:M}{p:kM}{m:MO}{o f:HO}(c:Cn K d H)(h:H p=some f)(hm:Mt f)(r:Mo K H m o):Cn K (Am d p m) (upd H p o):=λa j e=>by by_cases ha:a=p;subst ha;rw[Ac]at e;cases e;exact⟨o,Bo,r.kp<|Kp.put h hm o⟩;rw[Af ha]at e;obtain⟨i,l,g⟩:=c a j e;exact⟨i,by rw[Bd ha];exact l,g.kp<|Kp.put h hm o⟩
def Sub(d f:M):Prop:=∀a m,d a=some m->f a=some m
def Sub.refl{d:M}:Sub d d:=λ_ _ h=>h
def Sub.new{d g:M}{p:kM}{m:MO}(h:Sub d g)(e:d p=none):Sub d (Am g p m):=λa i f=>by rw[Af<|by intro z;subst z;rw[e]at f;cases f];exact h a i f
theorem Sub.none{d f:M}{p:kM}(h:Sub d f)(e:f p=none):d p=none:=by
 cases q:d p with
 |none=>rfl
 |some m=>rw[h p m q]at e;cases e
def Cn.sub{d f:M}(c:Cn K f H)(h:Sub d f):Cn K d H:=λa m e=>c a m<|h a m e
abbrev ASt:=oA<|oB AV
def Nd(K:kN)(H:Hp)(a:oB AV)(b:oB V):Prop:=∀x,a=some x->∃v,b=some v/\RelA K H x v
abbrev Dp(K:kN)(H:Hp):ASt->St->Prop:=Paired<|Nd K H
def Nd.kp{a:oB AV}{b:oB V}(S:Kp H H')(h:Nd K H a b):Nd K H' a b:=λx e=>by obtain⟨v,d,r⟩:=h x e;exact⟨v,d,r.kp S⟩
def Dp.kp{d:ASt}{f:St}(S:Kp H H')(h:Dp K H d f):Dp K H' d f:=Paired.mapP h λ_ _ q=>q.kp S
theorem Dp.get:∀{d:ASt} {f:St} {i:Nat} {x:AV},Dp K H d f->d[i]?=some (some x)->∃v,f[i]?=some (some v)/\RelA K H x v
 |_,_,_,_,.nil,e=>by simp at e
 |_,_,0,_,.cons r _,e=>by simp at e;subst e;obtain⟨v,rfl,q⟩:=r _ rfl;exact⟨v,rfl,q⟩
 |_,_,i+1,x,.cons _ t,e=>by obtain⟨u,h1,h2⟩:=Dp.get (i:=i) (x:=x) t (by simpa using e);exact⟨u,by simpa using h1,h2⟩
def K5{x:AV}{v:V}(r:RelA K H x v):Nd K H (some x) (some v):=λy e=>by cases e;exact⟨v,rfl,r⟩
def Fu{b:oB V}:Nd K H none b:=λy e=>nomatch e
theorem Dp.set{x:AV}{v:V}(r:RelA K H x v):∀{f:ASt} {d:St} (i:Nat),Dp K H f d->Dp K H (f.set i<|some x) (d.set i<|some v)
 |_,_,_,.nil=>.nil
 |_,_,0,.cons _ t=>.cons (K5 r) t
 |_,_,i+1,.cons q t=>.cons q<|Dp.set r i t
def Fv(N:oA Str)(xs:oA AV):ASt:=xs.map some++List.replicate (N.length-xs.length) none
theorem Dp.rep:∀(n:Nat),Dp K H (List.replicate n none) (List.replicate n none)
 | 0=>.nil
 |n+1=>.cons Fu<|Dp.rep n
theorem Dp.somes:∀{xs:oA AV} {vs:oA V},Ba K H xs vs->Dp K H (xs.map some) (vs.map some)
 |_,_,.nil=>.nil
 |_,_,.cons r t=>.cons (K5 r)<|Dp.somes t
def Dp.append{i f:ASt}{g d:St}(h:Dp K H i g)(s:Dp K H f d):Dp K H (i++f) (g++d):=by
 induction h with
 |nil=>exact s
 |cons r t j=>exact .cons r j
def Dp.begin{N:oA Str}{xs:oA AV}{vs:oA V}(h:Ba K H xs vs):Dp K H (Fv N xs) (start N vs):=by unfold Fv start;rw[h.length];exact(Dp.somes h).append<|Dp.rep _
def SG(mp:oA<|oB Nat)(d:ASt):ASt:=mp.map λo=>match o with
 |none=>none
 |some j=>match d[j]? with
  |some x=>x
  |none=>none
theorem Dp.sub{d:ASt}{f:St}(h:Dp K H d f):∀(mp:oA<|oB Nat),Dp K H (SG mp d) (Py mp f)
 |[]=>.nil
 |none::mp=>.cons Fu (Dp.sub h mp)
 |some j::mp=>by
  refine .cons (λx e=>?_)<|Dp.sub h mp;have g:d[j]?=some (some x):=by
   dsimp only at e;cases q:d[j]? with
   |none=>rw[q]at e;cases e
   |some y=>rw[q]at e;exact cF some e
  obtain⟨v,hv,r⟩:=h.get g;refine⟨v,?_,r⟩;show(f[j]?).join=some v;rw[hv];rfl
abbrev AE:=ASt->M->(AV->M->Prop)->Prop
abbrev AT:=ASt->M->(Bool->M->Prop)->Prop
abbrev AA:=ASt->M->(oA AV->M->Prop)->Prop
abbrev AO:=ASt->M->(oB Int->M->Prop)->Prop
abbrev AS:=(ASt->M->Prop)->(AV->M->Prop)->(ASt->M->Prop)->(ASt->M->Prop)->ASt->M->Prop
abbrev AG:=AV->ASt->M->(ASt->M->Prop)->Prop
abbrev AGs:=oA AV->ASt->M->(ASt->M->Prop)->Prop
abbrev A2:=AV->AV->M->(AV->M->Prop)->Prop
abbrev AC:=oA AV->M->(AV->M->Prop)->Prop
@[irreducible] def brP (b:Bool) (T F:Prop):Prop:=match b with
 |true=>T
 |false=>F
@[irreducible] def opt {d:Type} (o:oB d) (k:d->Prop):Prop:=match o with
 |some x=>k x
 |none=>False
def br{b:Bool}{T F:Prop}(h1:b=true->T)(h2:b=false->F):brP b T F:=by
 unfold brP;cases b with
 |true=>exact h1 rfl
 |false=>exact h2 rfl
def Fd{b:Bool}{T F:Prop}(hb:b=true)(h:T):brP b T F:=by subst hb;unfold brP;exact h
def J9{b:Bool}{T F:Prop}(hb:b=false)(h:F):brP b T F:=by subst hb;unfold brP;exact h
def Zk{T F:Prop}:brP true T F=T:=by unfold brP;rfl
def br_e{b:Bool}{T F:Prop}(h:brP b T F):(b=true/\T)\/(b=false/\F):=by
 unfold brP at h;cases b with
 |true=>exact .inl ⟨rfl,h⟩
 |false=>exact .inr ⟨rfl,h⟩
def Ab{d:Type}{o:oB d}{x:d}{k:d->Prop}(h:o=some x)(q:k x):opt o k:=by subst h;unfold opt;exact q
def Bf{d:Type}{o:oB d}{k:d->Prop}(h:opt o k):∃x,o=some x/\k x:=by
 unfold opt at h;cases o with
 |none=>exact h.elim
 |some x=>exact⟨x,rfl,h⟩
def dif{p:Prop} [Decidable p]{T F:Prop}(h1:p->T)(h2:¬p->F):brP (decide p) T F:=br (λh=>h1<|aS h) λh=>h2<|fD h
def LV(K:kN)(H:Hp)(R:AV->M->Prop)(Q:VK):Prop:=∀x d v H',Kp H H'->Cn K d H'->RelA K H' x v->R x d->Q v H'
def LB(K:kN)(H:Hp)(R:Bool->M->Prop)(Q:Bool->Hp->Prop):Prop:=∀b d H',Kp H H'->Cn K d H'->R b d->Q b H'
def LA(K:kN)(n:Nat)(H:Hp)(R:oA AV->M->Prop)(Q:oA V->Hp->Prop):Prop:=∀d f g H',Kp H H'->Cn K f H'->Ba K H' d g->d.length=n->R d f->Q g H'
def LO(K:kN)(H:Hp)(R:oB Int->M->Prop)(Q:oB Int->Hp->Prop):Prop:=∀b d H',Kp H H'->Cn K d H'->R b d->Q b H'
def LS(K:kN)(H:Hp)(R:ASt->M->Prop)(Q:St->Hp->Prop):Prop:=∀ g d f H',Kp H H'->Dp K H' g f->Cn K d H'->R g d->Q f H'
def LV.kp{K:kN}{H H':Hp}{R:AV->M->Prop}{Q:VK}(h:LV K H R Q)(S:Kp H H'):LV K H' R Q:=λx d v f g=>h x d v f<|S.trans g
def LB.kp{K:kN}{H H':Hp}{R:Bool->M->Prop}{Q:Bool->Hp->Prop}(h:LB K H R Q)(S:Kp H H'):LB K H' R Q:=λx d f g=>h x d f<|S.trans g
def LS.kp{K:kN}{H H':Hp}{R:ASt->M->Prop}{Q:St->Hp->Prop}(h:LS K H R Q)(S:Kp H H'):LS K H' R Q:=λx d v f g=>h x d v f<|S.trans g
structure LE'(K:kN)(H:Hp)(k:ASt->M->Prop)(r:AV->M->Prop)(b c:ASt->M->Prop)(D:Ends):Prop where
 nx:LS K H k D.nx
 rt:LV K H r D.rt
 bk:LS K H b D.bk
 ct:LS K H c D.ct
def LE'.kp{K:kN}{H H':Hp}{k:ASt->M->Prop}{r:AV->M->Prop}{b c:ASt->M->Prop}{D:Ends}(h:LE' K H k r b c D)(S:Kp H H'):LE' K H' k r b c D:=⟨h.nx.kp S,h.rt.kp S,h.bk.kp S,h.ct.kp S⟩
def cE(K:kN)(t:AE):TE:=λg H Q=>∃ d f R,Dp K H d g/\Cn K f H/\t d f R/\LV K H R Q
def cT(K:kN)(t:AT):TT:=λg H Q=>∃ d f R,Dp K H d g/\Cn K f H/\t d f R/\LB K H R Q
def cA(K:kN)(n:Nat)(t:AA):TA:=λg H Q=>∃ f d R,Dp K H f g/\Cn K d H/\t f d R/\LA K n H R Q
def cO(K:kN)(t:AO):TO:=λg H Q=>∃ d f R,Dp K H d g/\Cn K f H/\t d f R/\LO K H R Q
def cS(K:kN)(t:AS):TS:=λD g H=>∃ f d k r b c,Dp K H f g/\Cn K d H/\t k r b c f d/\LE' K H k r b c D
def cG(K:kN)(t:AG):TG:=λv g H Q=>∃x f d R,RelA K H x v/\Dp K H f g/\Cn K d H/\t x f d R/\LS K H R Q
def cGs(K:kN)(t:AGs):TGs:=λi h H Q=>∃g f d R,Ba K H g i/\Dp K H f h/\Cn K d H/\t g f d R/\LS K H R Q
def cR(K:kN)(r:A2):R2:=λx y H Q=>∃a b d R,RelA K H a x/\RelA K H b y/\Cn K d H/\r a b d R/\LV K H R Q
def cC(K:kN)(r:AC):oA V->Hp->VK->Prop:=λg H Q=>∃f d R,Ba K H f g/\Cn K d H/\r f d R/\LV K H R Q
def cM(K:kN)(r:AV->AC):V->oA V->Hp->VK->Prop:=λx g H Q=>∃a f d R,RelA K H a x/\Ba K H f g/\Cn K d H/\r a f d R/\LV K H R Q
def VE(X:Cx)(e:kQ)(t:AE):Prop:=PE X e<|cE X.K t
def VT(X:Cx)(e:kQ)(t:AT):Prop:=PT X e<|cT X.K t
def VW(X:Cx)(e:kQ)(t:AT):Prop:=PW X e<|cT X.K t
def VA(X:Cx)(es:oA kQ)(t:AA):Prop:=PA X es<|cA X.K es.length t
def VO(X:Cx)(e:oB kQ)(t:AO):Prop:=PO X e<|cO X.K t
def VS(X:Cx)(st:kU)(t:AS):Prop:=PS X st<|cS X.K t
def VSs(X:Cx)(st:oA kU)(t:AS):Prop:=PSs X st<|cS X.K t
def VG(X:Cx)(e:kQ)(t:AG):Prop:=PG X e<|cG X.K t
def VGs(X:Cx)(es:oA kQ)(t:AGs):Prop:=PGs X es<|cGs X.K t
def VOp(X:Cx)(f:kJ->kJ->Sem kJ)(r:A2):Prop:=Ih X f<|cR X.K r
def VIx(X:Cx)(r:A2):Prop:=RO X<|cR X.K r
def VCall(X:Cx)(f:kJ)(r:AC):Prop:=Gc X f<|cC X.K r
def VMt(X:Cx)(id:String)(r:AV->AC):Prop:=RP X id<|cM X.K r
def PE.imp{e:kQ}{t u:TE}(h:PE X e t)(i:∀ d H Q,u d H Q->t d H Q):PE X e u:=λf s d H Q I q=>h f s d H Q I<|i d H Q q
def PT.imp{e:kQ}{t u:TT}(h:PT X e t)(i:∀ d H Q,u d H Q->t d H Q):PT X e u:=λf s d H Q I q=>h f s d H Q I<|i d H Q q
def PW.imp{e:kQ}{t u:TT}(h:PW X e t)(i:∀ d H Q,u d H Q->t d H Q):PW X e u:=λg f s d H Q I q=>h g f s d H Q I<|i d H Q q
def PA.imp{e:oA kQ}{t u:TA}(h:PA X e t)(i:∀ d H Q,u d H Q->t d H Q):PA X e u:=λpos f s d H Q I q=>h pos f s d H Q I<|i d H Q q
def PO.imp{e:oB kQ}{t u:TO}(h:PO X e t)(i:∀ d H Q,u d H Q->t d H Q):PO X e u:=λf s d H Q I q=>h f s d H Q I<|i d H Q q
def PS.imp{e:kU}{t u:TS}(h:PS X e t)(i:∀D d H,u D d H->t D d H):PS X e u:=λf s d H D I q=>h f s d H D I<|i D d H q
def PSs.imp{e:oA kU}{t u:TS}(h:PSs X e t)(i:∀D d H,u D d H->t D d H):PSs X e u:=λf s d H D I q=>h f s d H D I<|i D d H q
def PG.imp{e:kQ}{t u:TG}(h:PG X e t)(i:∀v d H Q,u v d H Q->t v d H Q):PG X e u:=λf s d H v w Q I r q=>h f s d H v w Q I r<|i v d H Q q
def PGs.imp{e:oA kQ}{t u:TGs}(h:PGs X e t)(i:∀v d H Q,u v d H Q->t v d H Q):PGs X e u:=λf s d H v w Q I r q=>h f s d H v w Q I r<|i v d H Q q
def K8(i:Nat):AE:=λd f R=>match d[i]? with
 |some (some x)=>R x f
 |_=>False
def Zl{K:kN}{i:Nat}{d:St}{H:Hp}{Q:VK}(h:cE K (K8 i) d H Q):KG i d H Q:=by obtain⟨l,j,R,f,hc,h,hq⟩:=h;unfold K8 at h;split at h;rename_i x e;obtain⟨v,g,r⟩:=f.get e;exact⟨v,g,hq _ _ _ _ Kp.refl hc r h⟩;exact h.elim
def vv(i:Nat){x:Str}{pos:Pos}(f:X.N[i]?=some x:=by rfl)(hv:Vis X.env.scope x:=by first|exact Or.inl rfl|exact Or.inr (Or.inl rfl)|exact Or.inr<|Or.inr rfl)(hd:(x==("__debug__" : Str))=false:=by decide)
  (d:(x==("__classdict__" : Str))=false:=by decide):VE X (.Name x pos) (K8 i):=(Yi f hv hd d).imp λ_ _ _ h=>Zl h
def vC(x:AV):AE:=λ_ d R=>R x d
def Gi{e:kQ}{v:V}{d:kL}(h:PE X e<|tC v)(r:∀H,Dk X.K H d v):VE X e (vC<|.D d):=h.imp λi H Q f=>B7 f λl g R j hc h hq=>hq _ _ _ _ Kp.refl hc (Qf<|r H) h
def Ae{i j pos}:VE X (.Constant (.int i) j pos) (vC<|.D<|.int i):=Gi KH λ_=>Ef
def Qg{b j pos}:VE X (.Constant (.bool b) j pos) (vC<|.D<|.bool b):=Gi QR λ_=>Nc
def Cg{j pos}:VE X (.Constant .none j pos) (vC<|.D .none):=Gi KI λ_=>Zj
def Ap{x j pos}:VE X (.Constant (.str x) j pos) (vC<|.D<|.str x):=Gi KJ λ_=>Sn
def Ul{x:Str}{v:V}{u:kJ}{d:kL}{pos:Pos}(f:Gl X x)(hm:X.mg x=some u)(r:Bp v u)(hd:∀H,Dk X.K H d v)(h1:(x==("__debug__" : Str))=false:=by decide):VE X (.Name x pos) (vC<|.D d):=Gi (T5 f hm r h1) hd
def Zm(r:A2)(ta tb:AE):AE:=λg h R=>ta g h λx d=>tb g d λy f=>r x y f R
def Kf{K:kN}{r:A2}{ta tb:AE}{j:St}{H:Hp}{Q:VK}(h:cE K (Zm r ta tb) j H Q):RC (cR K r) (cE K ta) (cE K tb) j H Q:=by obtain⟨g,q,R,i,hc,h,hq⟩:=h;exact⟨g,q,_,i,hc,h,λx d v A l z w hx=>⟨g,d,_,i.kp l,z,hx,λy f u B n c2 s hy=>⟨x,y,f,R,w.kp n,s,c2,hy,hq.kp<|l.trans n⟩⟩⟩
def Bb{d:Operator}{r:A2}(f:VOp X (binaryOp d) r)(ha:VE X a ta)(hb:VE X b tb):VE X (.BinOp a d b pos) (Zm r ta tb):=(RD f ha hb).imp λ_ _ _ h=>Kf h
def Fw{d:CmpOp}{r:A2}(f:VOp X (compareOp d) r)(ha:VE X a ta)(hb:VE X b tb)(hm:behindInMarks d b=false):VE X (.Compare a [d] [b] pos) (Zm r ta tb):=(EM f ha hb hm).imp λ_ _ _ h=>Kf h
def Qh(t:AE):AT:=λg f R=>t g f λx d=>match x with
 |.D (.bool k)=>R k d
 |_=>False
def Il{K:kN}{t:AE}{u:TE}(j:∀ d H Q,cE K t d H Q->u d H Q){d:St}{H:Hp}{Q:Bool->Hp->Prop}(h:cT K (Qh t) d H Q):IL u d H Q:=by obtain⟨g,f,R,l,hc,h,hq⟩:=h;refine j _ _ _ ⟨g,f,_,l,hc,h,λx i v w n s q hx=>?_⟩;split at hx;cases RelA.bl q;exact⟨_,rfl,hq _ _ _ n s hx⟩;exact hx.elim
def Bc{d:CmpOp}{r:A2}(f:VOp X (compareOp d) r)(ha:VE X a ta)(hb:VE X b tb)(hm:behindInMarks d b=false):VT X (.Compare a [d] [b] pos) (Qh<|Zm r ta tb) :=
 (EN f ha hb hm).imp λ_ _ _ h=>Il (λ_ _ _ q=>Kf q) h
def Zn(r l:A2)(ta tb tc:AE):AE:=λf j R=>ta f j λx g=>tb f g λy h=>r x y h λz d=>match z with
 |.D (.bool k)=>brP k (tc f d λw i=>l y w i R) (R (.D<|.bool false) d)
 |_=>False
def Sq{K:kN}{r J:A2}{ta tb tc:AE}{I:St}{H:Hp}{Q:VK}(h:cE K (Zn r J ta tb tc) I H Q):Yn (cR K r) (cR K J) (cE K ta) (cE K tb) (cE K tc) I H Q:=by
 obtain⟨A,O,R,B,hc,h,hq⟩:=h;refine⟨A,O,_,B,hc,h,λx D v V f M N hx=>⟨A,D,_,B.kp f,M,hx,λy C u S g c2 E hy=>⟨x,y,C,_,N.kp g,E,c2,hy,λz j q U d s L hz=>?_⟩⟩⟩;split at hz
 ·cases RelA.bl L;rcases br_e hz with⟨rfl,l⟩|⟨rfl,l⟩
  ·exact⟨true,rfl,by
    first
     |exact⟨A,j,_,B.kp<|f.trans<|g.trans d,s,l,λw i p P n G rw F=>⟨y,w,i,R,E.kp<|d.trans n,rw,G,F,hq.kp<|f.trans<|g.trans<|d.trans n⟩⟩
     | (rw[R_ rfl];exact⟨A,j,_,B.kp<|f.trans<|g.trans d,s,l,λw i p P n G rw F=>⟨y,w,i,R,E.kp<|d.trans n,rw,G,F,hq.kp<|f.trans<|g.trans<|d.trans n⟩⟩)⟩
  ·exact⟨false,rfl,by
    first
     |exact hq _ _ _ _ (f.trans<|g.trans d) s Cv l
     | (rw[N_ X_];exact hq _ _ _ _ (f.trans<|g.trans d) s Cv l)⟩
 exact hz.elim
def Zo{f d:CmpOp}{r g:A2}(i:VOp X (compareOp f) r)(j:VOp X (compareOp d) g)(ha:VE X a ta)(hb:VE X b tb)(hc:VE X c tc)(hm:lastMarks [f,d] [b,c]=false:=by rfl):VE X (.Compare a [f,d] [b,c] pos) (Zn r g ta tb tc) :=
 (Yo i j ha hb hc hm).imp λ_ _ _ h=>Sq h
def D5{e:kQ}{t:AE}(h:VE X e t)(he:∀d,isTrue e X.env d=(do let v <- d;standAt e.pos;holding [v]<|truthy v):=by intro _;rfl):VT X e (Qh t) :=
 (KM h he).imp λ_ _ _ h=>by have h:=Il (λ_ _ _ q=>q) h;exact h
def ZH(t u:AT):AT:=λf g R=>t f g λk d=>brP k (u f d R)<|R false d
def vOr(t u:AT):AT:=λf g R=>t f g λk d=>brP k (R true d)<|u f d R
def ZI(t:AT):AT:=λf g R=>t f g λk d=>R (!k) d
def VW.pt{e:kQ}{t:AT}(h:VW X e t):VT X e t:=PW.pt h
def Op(ha:VT X a tA):VW X (.BoolOp .And [a] pos) tA:=EC ha
def D6(ha:VT X a tA):VW X (.BoolOp .Or [a] pos) tA:=KN ha
def Sr(ha:VT X a tA)(hb:VW X (.BoolOp .And (b::rest) pos) nh):VW X (.BoolOp .And (a::b::rest) pos) (ZH tA nh) :=
 (KO ha hb).imp λs H Q i=>B7 i λj q R l hc h hq=>⟨j,q,_,l,hc,h,λk f u g n hk=>by
  rcases br_e hk with⟨rfl,d⟩|⟨rfl,d⟩;exact⟨j,f,R,l.kp g,n,d,hq.kp g⟩;exact hq _ _ _ g n d⟩
def Df(ha:VT X a tA)(hb:VW X (.BoolOp .Or (b::rest) pos) nh):VW X (.BoolOp .Or (a::b::rest) pos) (vOr tA nh) :=
 (QS ha hb).imp λs H Q d=>B7 d λj q R l hc h hq=>⟨j,q,_,l,hc,h,λk g u i n hk=>by
  rcases br_e hk with⟨rfl,f⟩|⟨rfl,f⟩;exact hq _ _ _ i n f;exact⟨j,g,R,l.kp i,n,f,hq.kp i⟩⟩
def E7(ha:VT X a tA):VT X (.UnaryOp .Not a pos) (ZI tA):=(KP ha).imp λq H Q d=>B7 d λg f R j hc h hq=>⟨g,f,_,j,hc,h,λk i s l n hk=>hq _ _ _ l n hk⟩
def Oq{op}{t:AE}(h:VE X a t):VE X (.BoolOp op [a] pos) t:=KQ h
def SH(ta tb:AE):AE:=λf g R=>ta f g λx d=>match x with
 |.D (.bool k)=>brP k (tb f d R) (R (.D<|.bool false) d)
 |_=>False
def ZJ(ta tb:AE):AE:=λf g R=>ta f g λx d=>match x with
 |.D (.bool k)=>brP k (R (.D<|.bool true) d) (tb f d R)
 |_=>False
def SI(ta:AE):AE:=λg f R=>ta g f λx d=>match x with
 |.D (.bool k)=>R (.D<|.bool<|!k) d
 |_=>False
def Os(ha:VE X a ta)(hb:VE X (.BoolOp .And (b::rest) pos) tb):VE X (.BoolOp .And (a::b::rest) pos) (SH ta tb) :=
 (KR ha hb).imp λu H Q g=>B7 g λj q R l hc h hq=>⟨j,q,_,l,hc,h,λx f v w i n s hk=>by
  split at hk;cases RelA.bl s;rcases br_e hk with⟨rfl,d⟩|⟨rfl,d⟩;exact⟨true,rfl,⟨j,f,R,l.kp i,n,d,hq.kp i⟩⟩;exact⟨false,rfl,hq _ _ _ _ i n Cv d⟩;exact hk.elim⟩
def SJ(ha:VE X a ta)(hb:VE X (.BoolOp .Or (b::rest) pos) tb):VE X (.BoolOp .Or (a::b::rest) pos) (ZJ ta tb) :=
 (QV ha hb).imp λu H Q i=>B7 i λj q R l hc h hq=>⟨j,q,_,l,hc,h,λx f v w g n s hk=>by
  split at hk;cases RelA.bl s;rcases br_e hk with⟨rfl,d⟩|⟨rfl,d⟩;exact⟨true,rfl,hq _ _ _ _ g n Cv d⟩;exact⟨false,rfl,⟨j,f,R,l.kp g,n,d,hq.kp g⟩⟩;exact hk.elim⟩
def MQ(ha:VE X a ta):VE X (.UnaryOp .Not a pos) (SI ta) :=
 (KS ha).imp λs H Q d=>B7 d λg f R j hc h hq=>⟨g,f,_,j,hc,h,λx i v u l q n hk=>by
  split at hk;cases RelA.bl n;exact⟨_,rfl,hq _ _ _ _ l q Cv hk⟩;exact hk.elim⟩
def MR:AA:=λ_ d R=>R [] d
def SK(ta:AE)(i:AA):AA:=λg h R=>ta g h λx d=>i g d λj f=>R (x::j) f
def Ad:VA X [] MR:=Yq.imp λi H Q d=>B7 d λj f R g hc h hq=>hq [] f [] H Kp.refl hc .nil rfl h
def Aa{e:kQ}{es:oA kQ}{te:AE}{t:AA}(ha:VE X e te)(B:VA X es t)(hs:starEach (e::es) X.env=(false,eval e X.env)::starEach es X.env:=by rfl):VA X (e::es) (SK te t) :=
 (T7 ha B hs).imp λD H Q d=>B7 d λj q R hs hc h hq=>⟨j,q,_,hs,hc,h,λx f v E n C w hx=>⟨j,f,_,hs.kp n,C,hx,λA g z y l c2 s u i=>
  hq (x::A) g (v::z) y (n.trans l) c2 (.cons (w.kp l) s) (by rw[aM,u];rfl) i⟩⟩
def ZK(t:AA):AE:=λg f R=>t g f λh d=>match dats h with
 |some i=>R (.D<|.tuple i) d
 |none=>False
def ZL(t:AA):AE:=λf g R=>t f g λh d=>∀p,d p=none->R (.R p) (Am d p<|.lst h)
def Cl{k:Nat}(h:VA X es t)(n:es.length<=sizeLine:=by decide):VE X (.Tuple es k pos) (ZK t) :=
 (Yr h).imp λw H Q d=>B7 d λi g R l hc h hq=>⟨i,g,_,l,hc,h,λA j z y s u f q hx=>⟨by rw[<- f.length,q];exact n,λp hp=>by
  split at hx;rename_i v e;refine hq _ _ _ _ (s.trans<|Kp.new hp _) (u.over hp) ?_ hx;exact So Bo<|Au.kp (Kp.new hp _) _ _<|f.dats e;exact hx.elim⟩⟩
def Cb(h:VA X es t)(q:es.length<=sizeLine:=by decide):VE X (.List es pos) (ZL t) :=
 (LQ h).imp λv H Q d=>B7 d λj i R n hc h hq=>⟨j,i,_,n,hc,h,λz l y w u g f s hx=>⟨by rw[<- f.length,s];exact q,λp hp=>
  hq _ _ _ _ (u.trans<|Kp.new hp _) (g.new hp<|Da<|f) Dz (hx p<|g.none hp)⟩⟩
mutual
theorem Dk.reads{y:oA<|kM×kT}{A:St}{H:Hp}{s:kK}(I:Inv X y A H s):∀(d:kL) (x:V) (u:kJ),Dk X.K H d x->Bp x u->∃l,Reads s.heap u d l
 |.none,x,u,h,r=>by cases h.non;cases r;exact⟨_,.none⟩
 |.bool b,x,u,h,r=>by cases h.bl;cases r;exact⟨_,.bool b⟩
 |.int i,x,u,h,r=>by cases h.int;obtain⟨t,rfl⟩:=r;exact⟨_,.int i t⟩
 |.str z,x,u,h,r=>by cases h.str;obtain⟨t,rfl⟩:=r;exact⟨_,.str z t⟩
 |.list f,x,u,h,r=>by obtain⟨a,j,rfl,q,k⟩:=h.lst;cases r;obtain⟨v,g,⟨o,n,e,c,_,d⟩,_⟩:=I.list q.sq;obtain⟨l,w⟩:=Au.reads I f j v k g;exact⟨_,.list e c d<|by simpa using w⟩
 |.tuple f,x,u,h,r=>by obtain⟨a,j,rfl,q,k⟩:=h.tup;cases r;obtain⟨v,g,⟨o,e,c,n,d⟩,_⟩:=I.tuple q.sq;obtain⟨l,w⟩:=Au.reads I f j v k g;exact⟨_,.tuple e c d<|by simpa using w⟩
 |.dict _,x,u,h,_=>by simp only[Dk]at h
theorem Au.reads{j:oA<|kM×kT}{n:St}{H:Hp}{s:kK}(I:Inv X j n H s):∀(ds:oA kL) (xs:oA V) (f:oA kJ),Au X.K H ds xs->Vals xs f->∃g,ReadsAll s.heap f ds g
 |[],xs,f,h,r=>by have e:=h.nil;subst e;cases r;exact⟨_,.nil⟩
 |d::ds,xs,f,h,r=>by
  obtain⟨x,q,rfl,h1,h2⟩:=h.cons;cases r with
  |cons i v=>obtain⟨g,u⟩:=Dk.reads I d x _ h1 i;obtain⟨w,l⟩:=Au.reads I ds q _ h2 v;exact⟨_,.cons u l⟩
end
def see(g:M):AV->oB kL
 |.X _ _=>none
 |.D d=>some d
 |.C f=>some (.tuple f)
 |.R a=>match g a with
  |some (.lst h)=>match dats h with
   |some f=>some (.list f)
   |none=>none
  |_=>none
@[simp] theorem see_D {f:M} {d:kL}:see f (.D d)=some d:=rfl
def Ch{z:oA<|kM×kT}{B:St}{H:Hp}{s:kK}{w:M}{x:AV}{v:V}{u:kJ}{d:kL}(I:Inv X z B H s)(hc:Cn X.K w H)(l:RelA X.K H x v)(r:Bp v u)(e:see w x=some d):∃h,Reads s.heap u d h:=by
 cases x with
 |X C N=>cases e
 |D L=>cases e;exact Dk.reads I _ _ _ l r
 |C f=>cases e;obtain⟨a,y,rfl,q,k⟩:=l;cases r;obtain⟨i,g,⟨o,e,c,n,d⟩,_⟩:=I.tuple<|q H;obtain⟨h,j⟩:=Au.reads I f y i k g;exact⟨_,.tuple e c d<|by simpa using j⟩
 |R a=>dsimp only[see]at e;split at e;rename_i y F;split at e;rename_i f A;cases e;cases (show v=.ref a from l);cases r;obtain⟨o,E,J,rfl,G⟩:=hc a _ F;obtain⟨i,g,⟨o,n,e,c,_,dd⟩,_⟩:=I.list<|Fa.of E;obtain⟨h,j⟩:=Au.reads I f J i (G.dats A) g;exact⟨_,.list e c dd<|by simpa using j⟩;cases e;cases e
def Bz(d:kL):Prop:=d.canLay0=true/\d.depth<=64
def aEq:A2:=λx y f R=>match x,y with
 |.D d,.D e=>Bz d/\Bz e/\R (.D<|.bool<|PyData.eqv d e) f
 |x,y=>opt (see f x) λd=>opt (see f y) λe=>Bz d/\Bz e/\R (.D<|.bool<|PyData.eqv d e) f
def FM{x y:AV}{f:M}{R:AV->M->Prop}(h:aEq x y f R):∃d e,see f x=some d/\see f y=some e/\Bz d/\Bz e/\R (.D<|.bool<|PyData.eqv d e) f:=by
 have g:∀(h:opt (see f x) λd=>opt (see f y) λe=>Bz d/\Bz e/\R (.D<|.bool<|PyData.eqv d e) f),∃d e,see f x=some d/\see f y=some e/\Bz d/\Bz e/\R (.D<|.bool<|PyData.eqv d e) f:=by intro h;obtain⟨d,j,h⟩:=Bf h;obtain⟨e,i,h⟩:=Bf h;exact⟨d,e,j,i,h⟩
 cases x with
 |D d=>
  cases y with
  |D e=>exact⟨_,_,rfl,rfl,h⟩
  |_=>exact g h
 |_=>exact g h
def ZM:A2:=λx y f R=>match x,y with
 |.D d,.D e=>Bz d/\Bz e/\R (.D<|.bool<|!PyData.eqv d e) f
 |x,y=>opt (see f x) λd=>opt (see f y) λe=>Bz d/\Bz e/\R (.D<|.bool<|!PyData.eqv d e) f
def FN{x y:AV}{f:M}{R:AV->M->Prop}(h:ZM x y f R):∃d e,see f x=some d/\see f y=some e/\Bz d/\Bz e/\R (.D<|.bool<|!PyData.eqv d e) f:=by unfold ZM at h;split at h;exact⟨_,_,rfl,rfl,h⟩;obtain⟨d,i,h⟩:=Bf h;obtain⟨e,g,h⟩:=Bf h;exact⟨d,e,i,g,h⟩
def Gj(B:Room k X.A):VOp X (compareOp .Eq) aEq:=by intro F s J H x y v u Q I z l f;refine Ds f λa b C R n i hc h hq=>?_;obtain⟨d,e,j,w,h⟩:=FM h;obtain⟨D,g⟩:=Ch I hc n z j;obtain⟨E,q⟩:=Ch I hc i l w;have G:=B.un;have:=h.1.2;exact SeqAt.compareEq_reads g q h.1.1 h.2.1.1 (by omega) ⟨.bl _,H,I,rfl,hq _ _ _ _ Kp.refl hc Cv h.2.2⟩
def FO(B:Room k X.A):VOp X (compareOp .NotEq) ZM:=by intro F s J H x y v u Q I z l f;refine Ds f λa b C R n i hc h hq=>?_;obtain⟨d,e,j,w,h⟩:=FN h;obtain⟨D,g⟩:=Ch I hc n z j;obtain⟨E,q⟩:=Ch I hc i l w;have G:=B.un;have:=h.1.2;exact SeqAt.compareNe_reads g q h.1.1 h.2.1.1 (by omega) ⟨.bl _,H,I,rfl,hq _ _ _ _ Kp.refl hc Cv h.2.2⟩
def Qi:kL->oB Key
 |.int i=>some (.inl i)
 |.str z=>some (.inr z)
 |_=>none
def items(f:M):AV->oB (oA AV)
 |.D (.tuple d)=>some (d.map .D)
 |.C d=>some (d.map .D)
 |.D (.list d)=>some (d.map .D)
 |.R a=>match f a with
  |some (.lst g)=>some g
  |_=>none
 |_=>none
def Im{H:Hp}{g:M}{x:AV}{v:V}{xs:oA AV}(hc:Cn X.K g H)(f:RelA X.K H x v)(e:items g x=some xs):∃p d,v=.ref p/\(Fa X.K H p d\/Ii X.K H p d)/\Ba X.K H xs d:=by unfold items at e;split at e;cases e;obtain⟨a,d,rfl,q,r⟩:=RelA.tup f;exact⟨a,d,rfl,.inr q.sq,r.rel⟩;cases e;obtain⟨a,d,rfl,q,r⟩:=f;exact⟨a,d,rfl,.inr<|q H,r.rel⟩;cases e;obtain⟨a,d,rfl,q,r⟩:=RelA.lst f;exact⟨a,d,rfl,.inl q.sq,r.rel⟩;split at e;rename_i l h;cases e;obtain⟨o,j,d,rfl,i⟩:=hc _ _ h;exact⟨_,d,f,.inl<|Fa.of j,i⟩;cases e;cases e
def W1:AV->Bool
 |.D (.tuple _)=>true
 |.C _=>true
 |_=>false
def Bt{H:Hp}{g:M}{x:AV}{v:V}{xs:oA AV}(hc:Cn X.K g H)(f:RelA X.K H x v)(e:items g x=some xs):∃p d,v=.ref p/\((W1 x=false/\Fa X.K H p d)\/(W1 x=true/\Ii X.K H p d))/\Ba X.K H xs d:=by unfold items at e;split at e;cases e;obtain⟨a,d,rfl,q,r⟩:=RelA.tup f;exact⟨a,d,rfl,.inr ⟨rfl,q.sq⟩,r.rel⟩;cases e;obtain⟨a,d,rfl,q,r⟩:=f;exact⟨a,d,rfl,.inr ⟨rfl,q H⟩,r.rel⟩;cases e;obtain⟨a,d,rfl,q,r⟩:=RelA.lst f;exact⟨a,d,rfl,.inl ⟨rfl,q.sq⟩,r.rel⟩;split at e;rename_i l h;cases e;obtain⟨o,j,d,rfl,i⟩:=hc _ _ h;exact⟨_,d,f,.inl ⟨rfl,Fa.of j⟩,i⟩;cases e;cases e
def MS(nb:Bool->Bool):A2:=λx y f R=>match y with
 |.D (.str j)=>match x with
  |.D (.str i)=>R (.D<|.bool<|nb<|!(Builtin.Str.occurrences j i 0 j.length 1).isEmpty) f
  |_=>False
 |.C g=>opt (see f x) λd=>Bz d/\Bz (.tuple g)/\R (.D<|.bool<|nb<|g.any λe=>PyData.eqv e d) f
 |.D (.tuple g)=>opt (see f x) λd=>Bz d/\Bz (.tuple g)/\R (.D<|.bool<|nb<|g.any λe=>PyData.eqv e d) f
 |y=>opt (see f x) λd=>opt (items f y) λh=>opt (dats h) λg=>Bz d/\Bz (.tuple g)/\R (.D<|.bool<|nb<|g.any λe=>PyData.eqv e d) f
def Um{nb:Bool->Bool}{x y:AV}{i:M}{R:AV->M->Prop}(h:MS nb x y i R)(n:∀z,y≠.D (.str z)):∃d j f,see i x=some d/\items i y=some j/\dats j=some f/\Bz d/\Bz (.tuple f)/\R (.D<|.bool<|nb<|f.any λe=>PyData.eqv e d) i:=by unfold MS at h;split at h;exact absurd rfl<|n _;obtain⟨d,g,h⟩:=Bf h;exact⟨d,_,_,g,rfl,Cw _,h⟩;obtain⟨d,g,h⟩:=Bf h;exact⟨d,_,_,g,rfl,Cw _,h⟩;obtain⟨d,g,h⟩:=Bf h;obtain⟨j,q,h⟩:=Bf h;obtain⟨f,l,h⟩:=Bf h;exact⟨d,j,f,g,q,l,h⟩
def K9{ds:oA kL}(h:Bz<|.tuple ds):PyData.canLayAll0 ds=true/\PyData.depthAll ds<=64:=by obtain⟨h1,h2⟩:=h;simp only[PyData.canLay0]at h1;simp only[PyData.depth]at h2;exact⟨h1,jS h2⟩
def SL(W:Room k X.A):VOp X (compareOp .In) (MS λb=>b):=by
 intro S s V H x y v u Q I N G j;refine Ds j λa b μ R M f hc h hq=>?_;by_cases hb:∃z,b=.D (.str z);obtain⟨z,rfl⟩:=hb;unfold MS at h;dsimp only at h;split at h;cases RelA.str M;cases RelA.str f;exact Wg S s V H _ _ v u Q I N G ⟨_,_,rfl,rfl,hq _ _ _ _ Kp.refl hc Cv h⟩;exact h.elim;obtain⟨d,ys,F,U,P,E,h⟩:=Um h λz e=>hb ⟨z,e⟩
 skip
 obtain⟨i,C,h⟩:=h;obtain⟨as,J⟩:=Ch I hc M N U;obtain⟨p,O,rfl,hp,Z⟩:=Im hc f P;cases G;obtain⟨l,c2⟩:=K9 C;have L:=Z.dats E;have hu:=W.un;have q:=hq _ _ _ _ Kp.refl hc Cv h;rcases hp with hp|hp;obtain⟨g,r,n,hz⟩:=I.list hp;obtain⟨Y,f⟩:=Au.reads I F O g L r;have e:=λA=>Ec (A:=A) J i.1;refine SeqAt.in_listAt (Na s.heap d) n.isList (λw B=>(e _ (by first|(show X.A.units+64<_;omega)|(show X.A.units+1+64<_;omega)|(show X.A.units+1+1+64<_;omega)) f l c2).1 w<|by simpa using B) ⟨.bl _,H,I,rfl,?_⟩;rw[show g.toArray.any (Na s.heap d)=g.any (Na s.heap d) by simp,(e X.A (by omega) f l c2).2];exact q;obtain⟨g,r,n,hz⟩:=I.tuple hp;obtain⟨Y,f⟩:=Au.reads I F O g L r;have e:=λA=>Ec (A:=A) J i.1;refine SeqAt.in_tupleAt (Na s.heap d) n (λw B=>(e _ (by first|(show X.A.units+64<_;omega)|(show X.A.units+1+64<_;omega)|(show X.A.units+1+1+64<_;omega)) f l c2).1 w<|by simpa using B) ⟨.bl _,H,I,rfl,?_⟩;rw[show g.toArray.any (Na s.heap d)=g.any (Na s.heap d) by simp,(e X.A (by omega) f l c2).2];exact q
def Kg(W:Room k X.A):VOp X (compareOp .NotIn) (MS λb=>!b):=by
 intro S s V H x y v u Q I N G j;refine Ds j λa b μ R M f hc h hq=>?_;by_cases hb:∃z,b=.D (.str z);obtain⟨z,rfl⟩:=hb;unfold MS at h;dsimp only at h;split at h;cases RelA.str M;cases RelA.str f;exact Oh S s V H _ _ v u Q I N G ⟨_,_,rfl,rfl,hq _ _ _ _ Kp.refl hc Cv h⟩;exact h.elim;obtain⟨d,ys,F,U,P,E,h⟩:=Um h λz e=>hb ⟨z,e⟩
 skip
 obtain⟨i,C,h⟩:=h;obtain⟨as,J⟩:=Ch I hc M N U;obtain⟨p,O,rfl,hp,Z⟩:=Im hc f P;cases G;obtain⟨l,c2⟩:=K9 C;have L:=Z.dats E;have hu:=W.un;have q:=hq _ _ _ _ Kp.refl hc Cv h;rcases hp with hp|hp;obtain⟨g,r,n,hz⟩:=I.list hp;obtain⟨Y,f⟩:=Au.reads I F O g L r;have e:=λA=>Ec (A:=A) J i.1;refine SeqAt.notIn_listAt (Na s.heap d) n.isList (λw B=>(e _ (by first|(show X.A.units+64<_;omega)|(show X.A.units+1+64<_;omega)|(show X.A.units+1+1+64<_;omega)) f l c2).1 w<|by simpa using B) ⟨.bl _,H,I,rfl,?_⟩;rw[show g.toArray.any (Na s.heap d)=g.any (Na s.heap d) by simp,(e X.A (by omega) f l c2).2];exact q;obtain⟨g,r,n,hz⟩:=I.tuple hp;obtain⟨Y,f⟩:=Au.reads I F O g L r;have e:=λA=>Ec (A:=A) J i.1;refine SeqAt.notIn_tupleAt (Na s.heap d) n (λw B=>(e _ (by first|(show X.A.units+64<_;omega)|(show X.A.units+1+64<_;omega)|(show X.A.units+1+1+64<_;omega)) f l c2).1 w<|by simpa using B) ⟨.bl _,H,I,rfl,?_⟩;rw[show g.toArray.any (Na s.heap d)=g.any (Na s.heap d) by simp,(e X.A (by omega) f l c2).2];exact q
def SM:A2:=λx y d R=>match x,y with
 |.D .none,.D .none=>R (.D<|.bool true) d
 |_,.D .none=>R (.D<|.bool false) d
 |_,_=>False
def Zp{K:kN}{H:Hp}{x:AV}(h:RelA K H x .non):x=.D .none:=by
 cases x with
 |R a=>cases (show V.non=.ref a from h)
 |C g=>obtain⟨_,_,e,_⟩:=h;cases e
 |X C f=>obtain⟨_,_,_,e,_⟩:=h;cases e
 |D d=>
  cases d with
  |none=>rfl
  |bool b=>cases RelA.bl h
  |int b=>cases RelA.int h
  |str b=>cases RelA.str h
  |list b=>obtain⟨_,_,e,_⟩:=RelA.lst h;cases e
  |tuple b=>obtain⟨_,_,e,_⟩:=RelA.tup h;cases e
  |dict b=>exact absurd h<|by simp only[RelA,Dk];exact id
def Hl:VOp X (compareOp .Is) SM:=by
 intro f s i H x y v u Q I n j d;refine Ds d λa b q R l g hc h hq=>?_;unfold SM at h;split at h;cases RelA.non l;cases RelA.non g;exact Ym f s i H _ _ v u Q I n j ⟨rfl,hq _ _ _ _ Kp.refl hc Cv h⟩;rename_i ne;cases RelA.non g;refine Ym f s i H _ _ v u Q I n j ⟨rfl,hq _ _ _ _ Kp.refl hc ?_ h⟩;have:x≠.non:=by intro e;subst e;exact ne<|Zp l
 rw[aF this];exact Cv;exact h.elim
def aI(C:Int->Int->Prop)(g:Int->Int->kL):A2:=λx y d R=>match x,y with
 |.D (.int i),.D (.int j)=>C i j/\R (.D<|g i j) d
 |_,_=>False
def PQ(g:Int->Int->kL):A2:=λx y d R=>match x,y with
 |.D (.int i),.D (.int j)=>R (.D<|g i j) d
 |_,_=>False
def ZN{f:kJ->kJ->Sem kJ}{C:Int->Int->Prop}{g:Int->Int->V}{g':Int->Int->kL}(h:Ih X f<|rI C g)(z:∀i j H,Dk X.K H (g' i j)<|g i j):VOp X f (aI C g'):=by
 intro q s w H x y v u Q I F A n;refine Ds n λa b G R E B hc l hq=>?_;cases a with
 |D d=>
  cases d with
  |int i=>
   cases b with
   |D e=>
    cases e with
    |int j=>cases RelA.int E;cases RelA.int B;exact h q s w H _ _ v u Q I F A ⟨_,_,rfl,rfl,l.1,hq _ _ _ _ Kp.refl hc (Qf<|z _ _ _) l.2⟩
    |_=>exact False.elim l
   |_=>exact False.elim l
  |_=>exact False.elim l
 |_=>exact False.elim l
def Zq{f:kJ->kJ->Sem kJ}{g:Int->Int->V}{g':Int->Int->kL}(h:Ih X f<|EI g)(A:∀i j H,Dk X.K H (g' i j)<|g i j):VOp X f (PQ g'):=by
 intro q s z H x y v u Q I E B n;refine Ds n λa b F R C w hc l hq=>?_;cases a with
 |D d=>
  cases d with
  |int i=>
   cases b with
   |D e=>
    cases e with
    |int j=>cases RelA.int C;cases RelA.int w;exact h q s z H _ _ v u Q I E B ⟨_,_,rfl,rfl,hq _ _ _ _ Kp.refl hc (Qf<|A _ _ _) l⟩
    |_=>exact False.elim l
   |_=>exact False.elim l
  |_=>exact False.elim l
 |_=>exact False.elim l
abbrev ZO:A2:=PQ λi j=>.int<|i-j
abbrev SN:A2:=aI CDiv λi j=>.int<|i / j
abbrev ZP:A2:=aI (λ_ j=>0<j) λi j=>.int<|i%j
abbrev ZQ:A2:=aI CPow λi j=>.int<|i^j.toNat
abbrev aLt:A2:=PQ λi j=>.bool<|decide (i<j)
abbrev aLe:A2:=PQ λi j=>.bool<|decide (i<=j)
abbrev aGt:A2:=PQ λi j=>.bool<|decide (j<i)
abbrev aGe:A2:=PQ λi j=>.bool<|decide (j<=i)
def Zr:VOp X (binaryOp .Sub) ZO:=Zq LK λ_ _ _=>Ef
def Zs:VOp X (binaryOp .FloorDiv) SN:=ZN EL λ_ _ _=>Ef
def Hm:VOp X (binaryOp .Mod) ZP:=ZN LM λ_ _ _=>Ef
def SO:VOp X (binaryOp .Pow) ZQ:=ZN LN λ_ _ _=>Ef
def Io:VOp X (compareOp .Lt) aLt:=Zq RG λ_ _ _=>Nc
def SQ:VOp X (compareOp .LtE) aLe:=Zq RH λ_ _ _=>Nc
def FP:VOp X (compareOp .Gt) aGt:=Zq RI λ_ _ _=>Nc
def ZR:VOp X (compareOp .GtE) aGe:=Zq RJ λ_ _ _=>Nc
def ZS:A2:=λx y d R=>match x,y with
 |.D (.int i),.D (.int j)=>CMul i j/\R (.D<|.int<|i*j) d
 |.D (.str z),.D (.int n)=>(n=0\/n=1)/\R (.D<|.str<|if n=0 then Str.empty else z) d
 |_,_=>False
def Nf:VOp X (binaryOp .Mult) ZS:=by
 intro g s n H x y v u Q I A q f;refine Ds f λa b B R w l hc h hq=>?_;cases a with
 |D d=>
  cases d with
  |int i=>
   cases b with
   |D e=>
    cases e with
    |int j=>cases RelA.int w;cases RelA.int l;exact LL g s n H _ _ v u Q I A q ⟨_,_,rfl,rfl,h.1,hq _ _ _ _ Kp.refl hc Cu h.2⟩
    |_=>exact False.elim h
   |_=>exact False.elim h
  |str z=>
   cases b with
   |D e=>
    cases e with
    |int j=>cases RelA.str w;cases RelA.int l;exact On g s n H _ _ v u Q I A q ⟨_,_,rfl,rfl,h.1,hq _ _ _ _ Kp.refl hc Gg h.2⟩
    |_=>exact False.elim h
   |_=>exact False.elim h
  |_=>exact False.elim h
 |_=>exact False.elim h
def Ss:A2:=λx y d R=>match x,y with
 |.D (.int i),.D (.int j)=>R (.D<|.int<|i+j) d
 |.D (.str i),.D (.str j)=>i.length+j.length<=sizeLine/\R (.D<|.str<|i++j) d
 |.D (.tuple i),.D (.tuple j)=>i.length+j.length<=sizeLine/\R (.D<|.tuple<|i++j) d
 |.R i,.R j=>opt (d i) λm=>opt (d j) λn=>match m,n with
  |.lst g,.lst f=>g.length+f.length<=sizeLine/\∀p,d p=none->R (.R p) (Am d p<|.lst<|g++f)
  |_,_=>False
 |_,_=>False
def ZT{K:kN}{G:oA<|kM×kT}{L:St}{H:Hp}{s:kK}{v u:kJ}{x y:V}{ds es:oA kL}{Q:VK}(W:X.K=K)(I:Inv X G L H s)(rx:Bp x v)(Y:Bp y u)(hx:Dk K H (.tuple ds) x)(hy:Dk K H (.tuple es) y)
  (hz:ds.length+es.length<=sizeLine) (q:∀z H',Kp H H'->(∀ D,Cn K D H->Cn K D H')->Dk K H' (.tuple<|ds++es) z->Q z H'):qX X.prog X.w X.A (binaryOp .Add v u) (EP X G L Q) X.xe s:=by
 subst W;obtain⟨a,O,rfl,ha,g⟩:=hx.tup;obtain⟨b,P,rfl,hb,f⟩:=hy.tup;cases rx;cases Y;obtain⟨ag,h,M,_⟩:=I.tuple ha.sq;obtain⟨d,C,U,_⟩:=I.tuple hb.sq;have j:=g.length;have i:=f.length;by_cases hv:O=[];subst hv;have e:ag=[]:=h.nil_iff.mpr rfl;subst e;have B:ds=[]:=List.length_eq_zero_iff.mp j.symm;subst B;obtain⟨⟨cls,dd,S,Z⟩,N,hc,n,hd⟩:=id M;obtain⟨⟨R,l,data2,t6⟩,F,E,n2,J⟩:=id U;simp only at hc hd E J;subst hc hd E J;exact concat_meets ⟨_,N,rfl⟩ ⟨_,F,rfl⟩ jW seq_tuple_add gX gU (gD _ _)
  (tuple_addW0 a b [].toArray d.toArray n n2 dd l Z t6 rfl) ⟨N,F,.ref b,H,I,rfl,q _ _ Kp.refl (λ_ c=>c)<|by simpa using hy⟩
 refine HT.cat_tup M U (λz=>hv<|h.nil_iff.mp z) (λz=>⟨.ref a,H,I,rfl,q _ _ Kp.refl (λ_ c=>c) ?_⟩) (λz=>?_) (by rw[<- h.length,<- C.length,j,i];exact hz);have e:P=[]:=C.nil_iff.mp z;subst e;have B:es=[]:=List.length_eq_zero_iff.mp i.symm;subst B;simpa using hx;have hf:=I.hok.fresh<|H_ s.heap.objs.size;refine⟨.ref s.heap.objs.size,_,I.laid (t':=s.toks) (o:=.tup<|O++P) (λb ob q=>C_ _ q) (H_ _) ?_,rfl,q _ _ (Kp.new hf _) (λ_ c=>c.over hf) ?_⟩;exact⟨⟨by rw[J_,j,i];exact hz,.inl<|IK.new _ rfl⟩,_,h.append C,IsTup.new _ _⟩;exact So Bo<|Au.kp (Kp.new hf _) _ _<|g.append f
def A5:VOp X (binaryOp .Add) Ss:=by
 intro B s C H x y v u Q I A l f;refine Ds f λa b N R w q hc h hq=>?_;cases a with
 |D d=>
  cases d with
  |int i=>
   cases b with
   |D e=>
    cases e with
    |int j=>cases RelA.int w;cases RelA.int q;exact LJ B s C H _ _ v u Q I A l ⟨_,_,rfl,rfl,hq _ _ _ _ Kp.refl hc Cu h⟩
    |_=>exact False.elim h
   |_=>exact False.elim h
  |str z=>
   cases b with
   |D e=>
    cases e with
    |str j=>cases RelA.str w;cases RelA.str q;exact Sb B s C H _ _ v u Q I A l ⟨_,_,rfl,rfl,h.1,hq _ _ _ _ Kp.refl hc Gg h.2⟩
    |_=>exact False.elim h
   |_=>exact False.elim h
  |tuple P=>
   cases b with
   |D e=>
    cases e with
    |tuple es=>exact ZT rfl I A l w q h.1 λz H' S c hd=>hq _ _ _ _ S (c _ hc) (Qf hd) h.2
    |_=>exact False.elim h
   |_=>exact False.elim h
  |_=>exact False.elim h
 |R i=>
  cases b with
  |R j=>
   obtain⟨m,F,h⟩:=Bf h;obtain⟨n,L,h⟩:=Bf h;cases m with
   |lst U=>
    cases n with
    |lst V=>cases (show x=.ref i from w);cases (show y=.ref j from q);obtain⟨o,G,M,rfl,E⟩:=hc i _ F;obtain⟨O,J,ws,rfl,g⟩:=hc j _ L;exact MA B s C H _ _ v u Q I A l ⟨i,j,M,ws,rfl,rfl,G,J,by rw[<- E.length,<- g.length];exact h.1,λp hp=>hq _ _ _ _ (Kp.new hp _) (hc.new hp<|Da<|E.append g) Dz<|h.2 p<|hc.none hp⟩
    |_=>exact False.elim h
   |_=>exact False.elim h
  |_=>exact False.elim h
 |_=>exact False.elim h
def SR:A2:=λx y f R=>match x,y with
 |.D (.str z),.D (.int i)=>z.length<=sizeLine/\opt (atI z.cps.toList i) λc=>R (.D<|.str ⟨#[c]⟩) f
 |.D (.tuple g),.D (.int i)=>opt (atI g i) λd=>R (.D d) f
 |.D (.list g),.D (.int i)=>opt (atI g i) λd=>R (.D d) f
 |.R a,.D (.int i)=>opt (f a) λm=>match m with
  |.lst h=>opt (atI h i) λw=>R w f
  |_=>False
 |_,_=>False
def FQ{x y:AV}{f:M}{R:AV->M->Prop}(h:SR x y f R):∃i,y=.D (.int i):=by
 have g:(∀d,SR (.D d) y f R->False)->(∀a,SR (.R a) y f R->False)->False:=λh1 h2=>by
  cases x with
  |D d=>exact h1 d h
  |R a=>exact h2 a h
  |_=>exact h
 cases y with
 |D e=>
  cases e with
  |int i=>exact⟨i,rfl⟩
  |_=>exact(g (λd q=>by cases d<;>exact q) λa q=>q).elim
 |_=>exact(g (λd q=>by cases d<;>exact q) λa q=>q).elim
def A0:VIx X SR:=by
 intro g f q s A H x y v u Q I F B S C;refine Ds S λa b U R E P hc h hq=>?_;obtain⟨i,rfl⟩:=FQ h;cases RelA.int P;cases a with
 |D d=>
  cases d with
  |str z=>cases RelA.str E;obtain⟨h1,h⟩:=h;obtain⟨c,e,h⟩:=Bf h;exact LY g f q s A H _ _ v u Q I F B ⟨_,_,_,rfl,rfl,h1,e,hq _ _ _ _ Kp.refl hc Gg h⟩ C
  |tuple L=>obtain⟨d,G,h⟩:=Bf h;obtain⟨p,J,rfl,hp,n⟩:=RelA.tup E;obtain⟨z,l,j⟩:=n.atI G;exact LX g f q s A H _ _ v u Q I F B ⟨_,_,_,_,rfl,rfl,hp.sq,l,hq _ _ _ _ Kp.refl hc (Qf j) h⟩ C
  |list L=>obtain⟨d,G,h⟩:=Bf h;obtain⟨p,J,rfl,hp,n⟩:=RelA.lst E;obtain⟨z,l,j⟩:=n.atI G;exact Ud g f q s A H _ _ v u Q I F B ⟨_,_,_,_,rfl,rfl,hp.sq,l,hq _ _ _ _ Kp.refl hc (Qf j) h⟩ C
  |_=>exact False.elim h
 |R a=>
  obtain⟨m,M,h⟩:=Bf h;cases m with
  |lst V=>obtain⟨w,O,h⟩:=Bf h;obtain⟨o,N,J,rfl,n⟩:=hc _ _ M;cases (show x=.ref _ from E);obtain⟨z,l,j⟩:=n.atI O;exact Ud g f q s A H _ _ v u Q I F B ⟨_,_,_,_,rfl,rfl,Fa.of N,l,hq _ _ _ _ Kp.refl hc j h⟩ C
  |_=>exact False.elim h
 |_=>exact False.elim h
def Ar{r:A2}(d:VIx X r)(ha:VE X a ta)(hb:VE X b tb)(hs:Uc b:=by intro _ _;rfl):VE X (.Subscript a b pos) (Zm r ta tb):=(RQ d ha hb hs).imp λ_ _ _ h=>Kf h
def FR:AO:=λ_ d R=>R none d
def SS(t:AE):AO:=λg f R=>t g f λx d=>match x with
 |.D (.int i)=>R (some i) d
 |_=>False
def Bn:VO X none FR:=ER.imp λi H Q d=>B7 d λj f R g hc h hq=>hq _ _ _ Kp.refl hc h
def Cf(h:VE X a ta):VO X (some a) (SS ta):=(ES h).imp λs H Q d=>B7 d λg f R j hc h hq=>⟨g,f,_,j,hc,h,λx i v u l q n hx=>by
 split at hx;cases RelA.int n;exact⟨_,rfl,hq _ _ _ l q hx⟩;exact hx.elim⟩
def ZU(x:AV)(lo f:oB Int):M->(AV->M->Prop)->Prop:=λd R=>match x with
 |.D (.str z)=>z.length<=sizeLine/\R (.D<|.str<|Txt.slice z lo f) d
 |.D (.tuple h)=>R (.D<|.tuple<|J7 h lo f) d
 |.C _=>False
 |x=>opt (items d x) λg=>∀p,d p=none->R (.R p) (Am d p<|.lst<|De g lo f)
def cSl(K:kN):V->oB Int->oB Int->Hp->VK->Prop:=λx lo f H Q=>∃a d R,RelA K H a x/\Cn K d H/\ZU a lo f d R/\LV K H R Q
def ZV:RN X (cSl X.K):=by
 intro w s y H x v C u lo f z Q I q n j l ⟨a,M,R,i,hc,h,hq⟩;unfold ZU at h;split at h;cases RelA.str i;exact MG w s y H _ v C u lo f z Q I q n j l ⟨_,rfl,h.1,hq _ _ _ _ Kp.refl hc Gg h.2⟩;rename_i g;by_cases A:HT.sIx g.length 0 lo=0/\HT.sIx g.length g.length f=g.length;obtain⟨a,B,rfl,ha,hx⟩:=RelA.tup i;cases q;obtain⟨E,r,d,hz⟩:=I.tuple ha.sq;have F:E.toArray.size=g.length:=by rw[T_,<- r.length,hx.length]
 refine⟨"tuple",_,bZ.lookup,d.typeIs,?_⟩;refine HT.getItem_tuple_all d n j l (by rw[F];exact A) ⟨.ref a,H,I,rfl,hq _ _ _ _ Kp.refl hc ?_ h⟩;rw[Y8 A];exact i;obtain⟨a,B,rfl,ha,hx⟩:=RelA.tup i;refine LW w s y H (.ref a) v C u lo f z Q I q n j l ⟨a,B,rfl,ha.sq,by rw[hx.length];exact A,λp hp=>?_⟩;exact hq _ _ _ _ (Kp.new hp _) (hc.over hp) (K4 Bo<|Au.kp (Kp.new hp _) _ _<|hx.cut lo f) h;exact h.elim;rename_i N L J;obtain⟨B,D,h⟩:=Bf h;obtain⟨p,O,rfl,hp,G⟩:=Bt hc i D;rcases hp with⟨_,hp⟩|⟨d,hp⟩;exact ET w s y H _ v C u lo f z Q I q n j l ⟨_,_,rfl,hp,λp hp=>hq _ _ _ _ (Kp.new hp _) (hc.new hp<|Da<|G.cut lo f) Dz<|h p<|hc.none hp⟩;exfalso;unfold W1 at d;split at d;exact L _ rfl;exact J _ rfl;cases d
def vSl(te:AE)(j n:AO):AE:=λf i R=>te f i λx g=>j f g λl h=>n f h λu d=>ZU x l u d R
def B9{lo B:oB kQ}{z y:AO}{F:Pos}(he:VE X a ta)(hl:VO X lo z)(g:VO X B y):VE X (.Subscript a (.Slice lo B none F) pos) (vSl ta z y) :=
 (Yu ZV he hl g).imp λI H Q d=>B7 d λj C R q hc h hq=>⟨j,C,_,q,hc,h,λx n v M s E G hx=>⟨j,n,_,q.kp s,E,hx,λl f J w c2 hl=>⟨j,f,_,q.kp<|s.trans w,c2,hl,λu i L A D g=>
  ⟨x,i,R,G.kp<|w.trans A,D,g,hq.kp<|s.trans<|w.trans A⟩⟩⟩⟩
def ZW(r:AC)(t:AA):AE:=λf g R=>t f g λh d=>r h d R
def Uo{K:kN}{n:Nat}{r:AC}{t:AA}{f:St}{H:Hp}{Q:VK}(h:cE K (ZW r t) f H Q):YU (cC K r) (cA K n t) f H Q:=by obtain⟨i,g,R,l,hc,h,hq⟩:=h;exact⟨i,g,_,l,hc,h,λs d y w q u j v hx=>⟨s,d,R,j,u,hx,hq.kp q⟩⟩
def Aw(hc:VCall X (.builtin oh) r)(f:Gl X x)(hm:X.mg x=none)(hv:bootBuiltins x=some (.builtin oh))(ha:VA X (e::es) t)(g:x ≠ "__name__" := by decide) (hd:(x==("__debug__" : Str))=false:=by decide)
  (d:starEach (e::es) X.env=(false,eval e X.env)::starEach es X.env:=by rfl) (hpl:(backTo pos<|starEach es X.env).any (·.1)=false:=by rfl):VE X (.Call (.Name x p) (e::es) [] pos) (ZW r t) :=
 (Ys hc f hm hv ha g hd d hpl).imp λ_ _ _ h=>Uo h
def Bi(hc:VCall X (.type T) r)(f:Gl X x)(hm:X.mg x=none)(hv:bootBuiltins x=some (.type T))(ha:VA X (e::es) t)(g:x ≠ "__name__" := by decide) (hd:(x==("__debug__" : Str))=false:=by decide)
  (d:starEach (e::es) X.env=(false,eval e X.env)::starEach es X.env:=by rfl) (hpl:(backTo pos<|starEach es X.env).any (·.1)=false:=by rfl):VE X (.Call (.Name x p) (e::es) [] pos) (ZW r t) :=
 (Wl hc f hm hv ha g hd d hpl).imp λ_ _ _ h=>Uo h
def ST:AC:=λi d R=>match i with
 |[.D<|.str z]=>z.length<=sizeLine/\R (.D<|.int z.length) d
 |[.D<|.tuple f]=>R (.D<|.int f.length) d
 |[.D<|.list f]=>R (.D<|.int f.length) d
 |[.R a]=>opt (d a) λm=>match m with
  |.lst h=>R (.D<|.int h.length) d
  |.dk g=>R (.D<|.int g.length) d
  |_=>False
 |_=>False
def Br:VCall X (.builtin "len") ST:=by
 intro i s j H M n Q I r l;refine B7 l λN B R J hc h hq=>?_;have G:∀{y:AV} {t:oA AV} {x:AV},ST (x::y::t) B R->False:=λ{y t x} q=>by
  cases x with
  |D d=>cases d<;>exact q
  |_=>exact q
 cases J with
 |nil=>exact False.elim h
 |@cons x v O L u F=>
  cases F with
  |cons _ _=>exact(G h).elim
  |nil=>
   cases x with
   |D d=>
    cases d with
    |str z=>cases RelA.str u;exact Oi i s j H _ n Q I r ⟨_,rfl,h.1,hq _ _ _ _ Kp.refl hc Cu h.2⟩
    |tuple C=>obtain⟨p,g,rfl,hp,f⟩:=RelA.tup u;refine Fs i s j H _ n Q I r ⟨p,g,rfl,.inr hp.sq,hq _ _ _ _ Kp.refl hc ?_ h⟩;rw[f.length];exact Cu
    |list C=>obtain⟨p,g,rfl,hp,f⟩:=RelA.lst u;refine Fs i s j H _ n Q I r ⟨p,g,rfl,.inl hp.sq,hq _ _ _ _ Kp.refl hc ?_ h⟩;rw[f.length];exact Cu
    |_=>exact False.elim h
   |R a=>
    obtain⟨m,E,h⟩:=Bf h;cases (show _=V.ref _ from u);obtain⟨o,A,w⟩:=hc _ _ E;cases m with
    |lst P=>obtain⟨g,rfl,f⟩:=w;refine Fs i s j H _ n Q I r ⟨_,g,rfl,.inl<|Fa.of A,hq _ _ _ _ Kp.refl hc ?_ h⟩;rw[f.length];exact Cu
    |dk S=>obtain⟨g,rfl,f⟩:=w;refine Wr i s j H _ n Q I r ⟨_,g,rfl,A,hq _ _ _ _ Kp.refl hc ?_ h⟩;rw[fK f];exact Cu
    |_=>exact False.elim h
   |_=>exact False.elim h
def Ot:AC:=λh d R=>match h with
 |[.D<|.tuple f]=>R (.D<|.tuple f) d
 |[.C _]=>False
 |[y]=>opt (items d y) λg=>opt (dats g) λf=>R (.D<|.tuple f) d
 |_=>False
def Su{x:AV}{t:oA AV}{f:M}{R:AV->M->Prop}(h:Ot (x::t) f R):t=[]:=by
 cases t with
 |nil=>rfl
 |cons y t=>
  refine False.elim ?_;cases x with
  |D d=>cases d<;>exact h
  |_=>exact h
def W3{x:AV}{f:M}{R:AV->M->Prop}(g:W1 x=false)(h:Ot [x] f R):opt (items f x) λj=>opt (dats j) λi=>R (.D<|.tuple i) f:=by
 cases x with
 |D d=>cases d<;>first|exact h|cases g
 |C i=>cases g
 |_=>exact h
def Zt{x:AV}{g:M}{R:AV->M->Prop}(i:W1 x=true)(h:Ot [x] g R):∃f,x=.D (.tuple f)/\R (.D<|.tuple f) g:=by
 cases x with
 |D d=>
  cases d with
  |tuple f=>exact⟨f,rfl,h⟩
  |_=>cases i
 |C f=>exact False.elim h
 |_=>cases i
def D9:VCall X (.type "tuple") Ot:=by
 intro n s q H L w Q I r f;refine B7 f λM G R E hc h hq=>?_;cases E with
 |nil=>exact False.elim h
 |@cons y v F J i D=>
  have C:=Su h;subst C;cases D;cases ht:W1 y with
  |true=>obtain⟨A,rfl,h⟩:=Zt ht h;obtain⟨p,j,rfl,hp,u⟩:=RelA.tup i;exact G4 n s q H _ w Q I r ⟨p,j,rfl,.inr ⟨hp.sq,hq _ _ _ _ Kp.refl hc i h⟩⟩
  |false=>obtain⟨N,z,h⟩:=Bf<|W3 ht h;obtain⟨A,B,h⟩:=Bf h;obtain⟨p,j,rfl,hp,u⟩:=Bt hc i z;rcases hp with⟨_,hp⟩|⟨d,_⟩;exact G4 n s q H _ w Q I r ⟨p,j,rfl,.inl ⟨hp,λl g=>hq _ _ _ _ (Kp.new g _) (hc.over g) (K4 Bo<|Au.kp (Kp.new g _) _ _<|u.dats B) h⟩⟩;rw[ht]at d;cases d
def IT:AC:=λf d R=>match f with
 |[y]=>opt (items d y) λg=>∀p,d p=none->R (.R p) (Am d p<|.lst g)
 |_=>False
def Sv:VCall X (.type "list") IT:=by
 intro j s q H C y Q I r d;refine B7 d λA z R u hc h hq=>?_;unfold IT at h;split at h
 ·cases u with
  |cons i v=>cases v;obtain⟨B,g,h⟩:=Bf h;obtain⟨p,w,rfl,hp,n⟩:=Im hc i g;exact Oj j s q H _ y Q I r ⟨p,w,rfl,hp,λl f=>hq _ _ _ _ (Kp.new f _) (hc.new f<|Da<|n) Dz<|h l<|hc.none f⟩
 exact h.elim
def bools:oA AV->oB (oA Bool)
 |[]=>some []
 |.D (.bool b)::r=>match bools r with
  |some d=>some (b::d)
  |none=>none
 |_::_=>none
theorem Ng:∀(d:oA Bool),bools (d.map λb=>.D<|.bool b)=some d
 |[]=>rfl
 |b::d=>by simp only[List.map_cons,bools,Ng d]
theorem Ba.bools{K:kN}{H:Hp}{xs:oA AV}{vs:oA V}{f:oA Bool}(h:Ba K H xs vs)(e:L2.bools xs=some f):vs=f.map V.bl:=by
 induction h generalizing f with
 |nil=>cases e;rfl
 |@cons x v xs vs r t g=>
  cases x with
  |D d=>
   cases d with
   |bool b=>
    simp only[L2.bools]at e;cases q:L2.bools xs with
    |none=>rw[q]at e;cases e
    |some i=>rw[q]at e;cases e;cases RelA.bl r;rw[g q];rfl
   |_=>simp[L2.bools]at e
  |_=>simp[L2.bools]at e
def MT:AC:=λh d R=>match h with
 |[.R a]=>opt (d a) λm=>match m with
  |.lst f=>opt (bools f) λg=>R (.D<|.bool<|g.all id) d
  |_=>False
 |_=>False
def Zu(l:X.calm=true):VCall X (.builtin "all") MT:=by
 intro j s u H D z Q I r d;refine B7 d λB A R v hc h hq=>?_;unfold MT at h;split at h
 ·cases v with
  |cons i w=>cases w;obtain⟨m,n,h⟩:=Bf h;split at h;obtain⟨f,g,h⟩:=Bf h;obtain⟨o,y,C,rfl,q⟩:=hc _ _ n;cases (show _=V.ref _ from i);exact Y5 l j s u H _ z Q I r ⟨_,f,rfl,Fa.of<|by rw[y,q.bools g],hq _ _ _ _ Kp.refl hc Cv h⟩;exact h.elim
 exact h.elim
def Qbc:AC:=λf d R=>match f with
 |[.D<|.int i,.D<|.int j]=>R (.D<|.int<|if j>i then j else i) d
 |_=>False
def IU:AC:=λf d R=>match f with
 |[.D<|.int i,.D<|.int j]=>R (.D<|.int<|if j<i then j else i) d
 |_=>False
def MU(l:X.calm=true):VCall X (.builtin "min") IU:=by
 intro j s n H y u Q I r d;refine B7 d λw v R q hc h hq=>?_;unfold IU at h;split at h
 ·cases q with
  |cons i f=>
   cases f with
   |cons f g=>cases g;cases RelA.int i;cases RelA.int f;exact Wh l j s n H _ u Q I r ⟨_,_,rfl,hq _ _ _ _ Kp.refl hc Cu h⟩
 exact h.elim
def Qj(d:M):AV->Prop
 |.R a=>opt (d a) λm=>match m with
  |.lst _=>True
  |_=>False
 |.D (.list _)=>True
 |_=>False
def IV:AV->Prop
 |.D (.str _)=>True
 |_=>False
def Qj.ty{H:Hp}{d:M}{x:AV}{v:V}(hc:Cn X.K d H)(f:RelA X.K H x v)(h:Qj d x):RT X.K "list" v H:=by unfold Qj at h;split at h;obtain⟨m,e,h⟩:=Bf h;split at h;obtain⟨o,g,j,rfl,_⟩:=hc _ _ e;cases (show v=.ref _ from f);exact .inl ⟨rfl,j,Fa.of g⟩;exact h.elim;obtain⟨a,i,rfl,q,_⟩:=RelA.lst f;exact .inl ⟨rfl,i,q.sq⟩;exact h.elim
def vBL(m:AV->AC)(to:AE)(t:AA):AE:=λg h R=>to g h λx d=>Qj d x/\t g d λi f=>m x i f R
def vBS(m:AV->AC)(to:AE)(t:AA):AE:=λg h R=>to g h λx d=>IV x/\t g d λi f=>m x i f R
def Jn(slot:Slot "list" name oh) (u:typeOf (.builtin oh)=pure (.type "method_descriptor")) (hm:VMt X oh m) (y:VE X o to) (ha:VA X (e::es) t) (E:attributeBase o name X.env (eval o X.env)=eval o X.env:=by rfl) (A:((backTo bd<|starEach (e::es) X.env).all (λx=>!x.1)&&(backToKw bd<|keywordEach [] X.env).all (λx=>x.1.isSome)
   && decide ((e::es).length+([]:oA Keyword).length+(if([]:oA Keyword).isEmpty then 0 else 1)<30))=true:=by rfl) (D:(cu.endLine==bd.line)=true:=by rfl) (hs:starEach (e::es) X.env=(false,eval e X.env)::starEach es X.env:=by rfl) (B:(backTo bd<|starEach es X.env).any (·.1)=false:=by rfl) :
  VE X (.Call (.Attribute o name cu) (e::es) [] bd) (vBL m to t) :=
 (Yw PySem.F.plainAttrs_list slot u hm y ha E A D hs B).imp λG H Q d=>B7 d λl w R hs hc h hq=>⟨l,w,_,hs,hc,h,λx g v L n j q hx=>⟨hx.1.ty j q,l,g,_,hs.kp n,j,hx.2,λz f M J s c2 C I i=>
  ⟨x,z,f,R,q.kp s,C,c2,i,hq.kp<|n.trans s⟩⟩⟩
def Es(slot:Slot "str" name oh) (s:typeOf (.builtin oh)=pure (.type "method_descriptor")) (hm:VMt X oh m) (w:VE X o to) (ha:VA X (e::es) t) (E:attributeBase o name X.env (eval o X.env)=eval o X.env:=by rfl)
  (z:((backTo bd<|starEach (e::es) X.env).all (λx=>!x.1)&&(backToKw bd<|keywordEach [] X.env).all (λx=>x.1.isSome)
   && decide ((e::es).length+([]:oA Keyword).length+(if([]:oA Keyword).isEmpty then 0 else 1)<30))=true:=by rfl) (D:(cu.endLine==bd.line)=true:=by rfl) (hs:starEach (e::es) X.env=(false,eval e X.env)::starEach es X.env:=by rfl) (B:(backTo bd<|starEach es X.env).any (·.1)=false:=by rfl) :
  VE X (.Call (.Attribute o name cu) (e::es) [] bd) (vBS m to t) :=
 (Yw PySem.F.plainAttrs_str slot s hm w ha E z D hs B).imp λG H Q d=>B7 d λj u R hs hc h hq=>⟨j,u,_,hs,hc,h,λx g v L l A n hx=>⟨by
   obtain⟨hx,_⟩:=hx;unfold IV at hx;split at hx;cases RelA.str n;rfl;exact hx.elim,j,g,_,hs.kp l,A,hx.2,λy f M J q c2 C I i=>
  ⟨x,y,f,R,n.kp q,C,c2,i,hq.kp<|l.trans q⟩⟩⟩
def Ou:AV->AC:=λx g d R=>match x,g with
 |.R a,[y]=>opt (d a) λm=>match m with
  |.lst f=>f.length<sizeLine/\R (.D .none) (Am d a<|.lst<|f++[y])
  |_=>False
 |_,_=>False
def Dv:VMt X "list.append" Ou:=by
 intro j s q H x E v B Q I z r d;refine Ds d λa D C R u n hc h hq=>?_;unfold Ou at h;split at h
 ·rename_i a y;obtain⟨m,i,h⟩:=Bf h;split at h
  ·cases n with
   |cons l w=>cases w;obtain⟨o,f,A,rfl,g⟩:=hc _ _ i;cases (show x=.ref a from u);exact M6 j s q H _ _ v B Q I z r ⟨a,A,_,rfl,rfl,f,by rw[<- g.length];exact h.1,hq _ _ _ _ (Kp.put f trivial _) (hc.put f trivial (Da<|g.append<|.cons l .nil)) Oo h.2⟩
  exact h.elim
 exact h.elim
end
section
variable {X:Cx}{a b c:kQ}{ta tb tc:AE}{pos:Pos}{x:Str}{p:Pos}{e:kQ}{es:oA kQ}{t:AA}{k:Nat}{ps:oA Str}{sp:ASp}{st:kU}{rest:oA kU}{s1 s2:AS}{tg:kQ}{N':oA Str}{mp:oA<|oB Nat}{gs aw:kQ}{eg:oA kQ}{scope:kX}{wi:AI}{g:AG}{tst:AT}{te:AE}{P:kO}{w:kP}{K:kN}{mg:Str->oB kJ}{base:kS}
def kit(S T:String):Bool:=S==T||(S == "bool" && T == "int")
def XW(d:M):AV->oB String
 |.D .none=>some "NoneType"
 |.D (.bool _)=>some "bool"
 |.D (.int _)=>some "int"
 |.D (.str _)=>some "str"
 |.D (.list _)=>some "list"
 |.D (.tuple _)=>some "tuple"
 |.D (.dict _)=>none
 |.C _=>some "tuple"
 |.X _ _=>none
 |.R a=>match d a with
  |some (.lst _)=>some "list"
  |some (.dk _)=>some "dict"
  |some (.dt _)=>some "dict"
  |some (.dd _)=>some "dict"
  |none=>none
def ZX(T:String)(te:AE):AE:=λf h R=>te f h λx d=>opt (XW d x) λS=>R (.D<|.bool<|kit S T) d
def Kits(K:kN)(T:String):Prop:=∀S∈["NoneType","bool","int","str","list","tuple","dict"],PySem.W.kitOne K (.type S) (.type T)=some (kit S T)
def MV{D:oA<|kM×kT}{F:St}{H:Hp}{s:kK}{E:kJ->kK->Prop}{Q:kJ->kK->Prop}{B:M}{x:AV}{v:V}{u:kJ}{S T:String}(I:Inv X D F H s)(hc:Cn X.K B H)(f:RelA X.K H x v)(r:Bp v u)(e:XW B x=some S)(hk:Kits X.K T)
  (h:∀G,Q (.bool<|kit S T) {s with toks:=G}):qX X.prog X.w X.A (call (.builtin "isinstance") [u,.type T]) Q E s:=by
 unfold XW at e;split at e;cases e;cases RelA.non f;cases r;exact cB PySem.W.kitx_none I.kIn True.intro (hk _<|by decide) (λz=>nomatch z) h;cases e;cases RelA.bl f;cases r;exact cB PySem.W.kitx_bool I.kIn True.intro (hk _<|by decide) (λz=>nomatch z) h;cases e;cases RelA.int f;obtain⟨t,rfl⟩:=r;exact cB PySem.W.kitx_int I.kIn True.intro (hk _<|by decide) (λz=>nomatch z) h;cases e;cases RelA.str f;obtain⟨t,rfl⟩:=r;exact cB PySem.W.kitx_str I.kIn True.intro (hk _<|by decide) (λz=>nomatch z) h;cases e;obtain⟨a,d,rfl,q,_⟩:=RelA.lst f;cases r;obtain⟨_,_,⟨o,n,i,m,_⟩,_⟩:=I.list q.sq;exact cB PySem.W.kitx_list I.kIn ⟨o,i,m⟩ (hk _<|by decide) (λz=>nomatch z) h;cases e;obtain⟨a,d,rfl,q,_⟩:=RelA.tup f;cases r;obtain⟨_,_,⟨o,i,m,_⟩,_⟩:=I.tuple q.sq;exact cB PySem.W.kitx_tuple I.kIn ⟨o,i,m⟩ (hk _<|by decide) (λz=>nomatch z) h;cases e;cases e;obtain⟨a,d,rfl,q,_⟩:=f;cases r;obtain⟨_,_,⟨o,i,m,_⟩,_⟩:=I.tuple<|q H;exact cB PySem.W.kitx_tuple I.kIn ⟨o,i,m⟩ (hk _<|by decide) (λz=>nomatch z) h;cases e;rename_i a;cases (show v=.ref a from f);cases r;split at e;rename_i y l;cases e;obtain⟨o,j,d,rfl,_⟩:=hc _ _ l;obtain⟨_,_,⟨o,n,i,m,_⟩,_⟩:=I.list<|Fa.of j;exact cB PySem.W.kitx_list I.kIn ⟨o,i,m⟩ (hk _<|by decide) (λz=>nomatch z) h;rename_i y l;cases e;obtain⟨o,j,d,rfl,_⟩:=hc _ _ l;obtain⟨_,_,ws,_,p⟩:=(show Bs X.prog X.w H s.heap a (.dK d) from I.hok a _ j);obtain⟨o,es,C,h1,h2,_⟩:=p;exact cB jT I.kIn ⟨o,h1,h2.1⟩ (hk _<|by decide) (λz=>nomatch z) h;rename_i y l;cases e;obtain⟨o,j,d,rfl,_⟩:=hc _ _ l;obtain⟨_,_,y,_,o,es,C,h1,h2,_⟩:=(show Bs X.prog X.w H s.heap a (.dT d) from I.hok a _ j);exact cB jT I.kIn ⟨o,h1,h2.1⟩ (hk _<|by decide) (λz=>nomatch z) h;rename_i y l;cases e;obtain⟨o,j,d,rfl,_⟩:=hc _ _ l;obtain⟨o,es,C,h1,h2,_⟩:=(show Bs X.prog X.w H s.heap a (.dd d) from I.hok a _ j);exact cB jT I.kIn ⟨o,h1,h2.1⟩ (hk _<|by decide) (λz=>nomatch z) h;cases e
def Zv{T:String}{x:Str}{p f:Pos}(E:Gl X "isinstance") (hm:X.mg "isinstance" = none) (J:Gl X x) (F:X.mg x=none) (r:bootBuiltins x=some (.type T)) (hk:Kits X.K T) (he:VE X a ta)
  (z:x ≠ "__name__" := by decide) (B:(x==("__debug__" : Str))=false:=by decide)
  (hs:starEach [a,.Name x f] X.env=(false,eval a X.env)::starEach [.Name x f] X.env:=by rfl) (hs2:starEach [.Name x f] X.env=[(false,eval (.Name x f) X.env)]:=by rfl) (hpl:(backTo pos<|starEach [.Name x f] X.env).any (·.1)=false:=by rfl) :
  VE X (.Call (.Name "isinstance" p) [a,.Name x f] [] pos) (ZX T ta):=by
 intro y s C H Q I j;refine B7 j λL q R G hc h hq=>?_;refine aP<|Ce I E hm jD ?_;refine bP ?_ hs hpl;rw[hs];refine aK<|thn (he y s C H (λv i=>∃x d S,Kp H i/\Cn X.K d i/\RelA X.K i x v/\XW d x=some S/\R (.D<|.bool<|kit S T) d) I ⟨L,q,_,G,hc,h,λx d v i n m o hx=>?_⟩) λu s1 A=>?_;obtain⟨S,e,hx⟩:=Bf hx;exact⟨x,d,S,n,m,o,e,hx⟩;obtain⟨v,i,l,M,x,d,S,n,m,o,ty,N⟩:=A;rw[hs2];refine aK<|Ce l J F r (bA ?_) z B;exact wtk l.tk<|MV l m o M ty hk λO U=>⟨.bl _,i,l.tok _,rfl,hq _ _ _ _ n m Cv N⟩
abbrev ASp:=oA AV->M->(AV->M->Prop)->Prop
def G6(K:kN)(n:Nat)(sp:ASp):Sp:=λh H Q _=>∃d f R,d.length=n/\Ba K H d h/\Cn K f H/\sp d f R/\LV K H R Q
def VCal(P:kO)(w:kP)(K:kN)(mg:Str->oB kJ)(base:kS)(k:Nat)(x:Str)(ps:oA Str)(sp:ASp):Prop:=Cal P w K mg base k x ps<|G6 K ps.length sp
def SU(n:Nat)(sp:ASp)(t:AA):AE:=λf h R=>t f h λi d=>sp i d R
def Al(F:VCal X.prog X.w X.K X.mg X.base k x ps sp)(q:Room k X.A)(l:Gl X x)(ha:VA X (e::es) t)(hl:(e::es).length=ps.length:=by rfl)(hdb:(x==("__debug__" : Str))=false:=by decide)
  (s:starEach (e::es) X.env=(false,eval e X.env)::starEach es X.env:=by rfl) (hpl:(backTo pos<|starEach es X.env).any (·.1)=false:=by rfl):VE X (.Call (.Name x p) (e::es) [] pos) (SU ps.length sp t):=by
 obtain⟨g,C,G,j,n,u⟩:=F;refine PE.imp (T8 (E:=E0) G q l u n j .nil IQ ha (hdb:=hdb) (he:=s) (hpl:=hpl)) λD H Q d=>B7 d λv i R y hc h hq=>?_;exact⟨v,i,_,y,hc,h,λo f J I B r z m hx=>⟨o,f,R,m.trans hl,by rw[cX];exact z,r,hx,hq.kp B⟩⟩
def SV:AS:=λk _ _ _ d f=>k d f
def Zw(t u:AS):AS:=λk r b c f d=>t (u k r b c) r b c f d
def A8:VSs X [] SV:=ED.imp λD l H d=>Hg d λm i j nr nb n f hc h hq=>hq.nx _ _ _ _ Kp.refl f hc h
def Ah(h1:VS X st s1)(h2:VSs X rest s2):VSs X (st::rest) (Zw s1 s2):=(Po h1 h2).imp λD z H d=>Hg d λm j o nr nb u q hc h hq=>
 ⟨m,j,_,_,_,_,q,hc,h,⟨λi f r y v s n l=>⟨i,f,o,nr,nb,u,s,n,l,hq.kp v⟩,hq.rt,hq.bk,hq.ct⟩⟩
def Aj(h1:VS X st s1):VSs X [st] s1:=Od h1
def MW:AS:=λ_ _ b _ d f=>b d f
def Zx:VS X (.Break pos) MW:=Yj.imp λD l H d=>Hg d λm i j nr nb n f hc h hq=>hq.bk _ _ _ _ Kp.refl f hc h
def SW(te:AE):AS:=λk _ _ _ f h=>te f h λ_ d=>k f d
def Et(he:VE X a ta)(hs:swapsWith a none pos.line X.env=pure false:=by rfl):VS X (.Expr a pos) (SW ta):=(EE he hs).imp λD o H d=>Hg d λj i n nr nb q hs hc h hq=>
 ⟨j,i,_,hs,hc,h,λx l v r f m s hx=>hq.nx _ _ _ _ f (hs.kp f) m hx⟩
def ZY(te:AE):AS:=λ_ r _ _ d f=>te d f r
def Ay(he:VE X a ta):VS X (.Return (some a) pos) (ZY ta):=(KY he).imp λD m H d=>Hg d λj f l nr nb n i hc h hq=>⟨j,f,_,i,hc,h,hq.rt⟩
def ZZ(ct:AT)(t u:AS):AS:=λk r b c f h=>ct f h λx d=>brP x (t k r b c f d)<|u k r b c f d
def Bw{c:kQ}{a b:oA kU}{tc:AT}(hc:VT X c tc)(ha:VSs X a s1)(hb:VSs X b s2):VS X (.If c a b pos) (ZZ tc s1 s2):=(QY hc ha hb).imp λD s H d=>Hg d λj r n nr nb o m hc h hq=>
 ⟨j,r,_,m,hc,h,λk f u i q hk=>by
  rcases br_e hk with⟨rfl,l⟩|⟨rfl,l⟩;exact⟨j,f,n,nr,nb,o,m.kp i,q,l,hq.kp i⟩;exact⟨j,f,n,nr,nb,o,m.kp i,q,l,hq.kp i⟩⟩
def Db(i:Nat):AG:=λv d f R=>R (d.set i<|some v) f
def Ax{i:Nat}{x:Str}(f:X.N.Nodup)(j:X.N[i]?=some x)(hx:Loc X.env.scope x)(hf:X.fn x=true\/X.env.scope.names.lookup x=some .local:=by first|exact .inl rfl|exact .inr rfl|assumption):VG X (.Name x pos) (Db i) :=
 (EF f j hx hf).imp λv q H Q d=>Ds d λx o n R m l hc h hq=>hq _ _ _ _ Kp.refl (l.set m i) hc h
def Zy:AGs:=λh d f R=>match h with
 |[]=>R d f
 |_::_=>False
def G7(t:AG)(u:AGs):AGs:=λj i h R=>match j with
 |[]=>False
 |v::r=>t v i h λf d=>u r f d R
def Eu:VGs X [] Zy:=EG.imp λn l H Q d=>Ds d λo m j R i f hc h hq=>by
 cases i with
 |nil=>exact⟨rfl,hq _ _ _ _ Kp.refl f hc h⟩
 |cons=>exact h.elim
def Bx{e:kQ}{es:oA kQ}{t:AG}{u:AGs}(h1:VG X e t)(h2:VGs X es u)
  (hs:(assignEach (e::es) X.env).map (·.2)=assign e X.env::(assignEach es X.env).map (·.2):=by rfl):VGs X (e::es) (G7 t u):=(Yl h1 h2 hs).imp λB A H Q d=>Ds d λC n l R v hs hc h hq=>by
 cases v with
 |nil=>exact h.elim
 |cons o y=>exact⟨_,_,rfl,_,n,l,_,o,hs,hc,h,λi f r z j s q m=>⟨_,i,f,R,Ba.kp j y,s,q,m,hq.kp j⟩⟩
def MX(n:Nat)(t:AGs):AG:=λv h f R=>match v with
 |.D (.tuple d)=>d.length=n/\t (d.map .D) h f R
 |_=>False
def Hc{es:oA kQ}{k:Nat}{t:AGs}{n:Nat}(l:X.calm=true)(h:VGs X es t)
  (o:(assignEach es X.env).length=n:=by rfl) (i:(assignEach es X.env).findIdx? (·.1)=none:=by rfl):VG X (.Tuple es k pos) (MX n t):=(KZ l h o i).imp λv y H Q d=>Ds d λx j f R s m hc h hq=>by
 unfold MX at h;split at h;obtain⟨a,u,rfl,q,r⟩:=RelA.tup s;exact⟨a,u,rfl,q.sq,by rw[r.length];exact h.1,_,j,f,R,r.rel,m,hc,h.2,hq⟩;exact h.elim
def MY(o i v:AV)(d:M)(R:M->Prop):Prop:=match o,i with
 |.R a,.D (.int k)=>opt (d a) λm=>match m with
  |.lst f=>opt (Ua f.length k) λj=>R (Am d a<|.lst<|f.set j v)
  |_=>False
 |_,_=>False
def Qaa(K:kN):TSet:=λo i v H Q=>∃a b c h R,RelA K H a o/\RelA K H b i/\RelA K H c v/\Cn K h H/\MY a b c h R/\∀ d f,Kp H f->Cn K d f->R d->Q f
def SX:PSet X (Qaa X.K):=by intro n s y H o i v F l u Q I C z A ⟨a,b,c,L,R,G,E,r,hc,h,hq⟩;unfold MY at h;split at h;rename_i q k;obtain⟨m,B,h⟩:=Bf h;split at h;obtain⟨j,D,h⟩:=Bf h;obtain⟨M,d,J,rfl,f⟩:=hc _ _ B;cases (show o=.ref q from G);cases RelA.int E;exact Yv n s y H _ _ v F l u Q I C z A ⟨q,J,k,j,rfl,rfl,d,by rw[<- f.length];exact D,hq _ _ (Kp.put d trivial _) (hc.put d trivial (Da<|f.set r j)) h⟩;exact h.elim;exact h.elim
def Qab(m n:AE):AG:=λv f l R=>m f l λo h=>n f h λi j=>MY o i v j λd=>R f d
def La{o i:kQ}{s z:AE}(E:VE X o s)(J:VE X i z)
  (ha:∀v,assign (.Subscript o i pos) X.env v=(do
   let f <- holding [v] (eval o X.env)
   let j <- holding [v,f] (eval i X.env)
   standAt pos
   holding [v,f,j] (setItem f j v)
   release [v,f,j] []):=by intro _;rfl):VG X (.Subscript o i pos) (Qab s z):=(LC E J SX ha).imp λv M H Q d=>Ds d λx u A R L r hc h hq=>
 ⟨u,A,_,r,hc,h,λo q f S l F C h1=>⟨u,q,_,r.kp l,F,h1,λi n j N m c2 I h2=>⟨o,i,x,n,_,C.kp m,I,L.kp<|l.trans m,c2,h2,λD O y B G=>hq _ _ _ _ (l.trans<|m.trans y) (r.kp<|l.trans<|m.trans y) B G⟩⟩⟩
def Mp(te:AE)(g:AG):AS:=λk _ _ _ f h=>te f h λx d=>g x f d k
def Zz{K:kN}{te:AE}{g:AG}{D:Ends}{i:St}{H:Hp}(h:cS K (Mp te g) D i H):EH (cE K te) (cG K g) D i H:=by obtain⟨f,m,q,nr,nb,s,j,hc,h,hq⟩:=h;exact⟨f,m,_,j,hc,h,λx d v r l o n hx=>⟨x,f,d,_,n,j.kp l,o,hx,hq.nx.kp l⟩⟩
def Ip{tg:kQ}{g:AG}(he:VE X a ta)(d:VG X tg g)(hs:swapsWithSole [tg] a pos.line X.env=pure false:=by rfl)(f:swappedStores [tg] a X.env=pure none:=by rfl)
  (h1:(assignEach [tg] X.env).map (·.2)=[assign tg X.env]:=by rfl):VS X (.Assign [tg] a pos) (Mp ta g):=(LF he d hs f h1).imp λ_ _ _ h=>Zz h
def Aq{i:Nat}{x:Str}{j:Pos}(o:X.N.Nodup)(q:X.N[i]?=some x)(hx:Loc X.env.scope x)(he:VE X a ta)(hs:swapsWith a (some<|.Name x j) pos.line X.env=pure false:=by rfl)(hf:X.fn x=true\/X.env.scope.names.lookup x=some .local:=by first|exact .inl rfl|exact .inr rfl|assumption) :
  VS X (.Assign [.Name x j] a pos) (Mp ta<|Db i):=(LG o q hx he hs hf).imp λD y H d=>Hg d λm l u nr nb z hs hc h hq=>
 ⟨m,l,_,hs,hc,h,λx n v A f s r hx=>hq.nx _ _ _ _ f ((hs.kp f).set r i) s hx⟩
def Qb1(i j:Nat)(t:AA):AS:=λk _ _ _ f h=>t f h λl d=>match l with
 |[v,w]=>k ((f.set i<|some v).set j<|some w) d
 |_=>False
def wl(c:AT)(tb:AS)(k:ASt->M->Prop)(r:AV->M->Prop):Nat->ASt->M->Prop
 | 0=>λ_ _=>False
 |n+1=>λf h=>c f h λx d=>brP x (tb (wl c tb k r n) r k (wl c tb k r n) f d)<|k f d
structure ItOk(K:kN)(H0:Hp)(J:It)(xs:oA AV)(kp:M->Prop):Prop where
 go:∀i H μ,Kp H0 H->Cn K μ H->kp μ->i<xs.length->J.go i H
 yld:∀i H μ v H' x,Kp H0 H->Cn K μ H->kp μ->xs[i]?=some x->J.yld i H v H'->Kp H H'/\Cn K μ H'/\RelA K H' x v
 stop:∀H μ,Kp H0 H->Cn K μ H->kp μ->J.stop xs.length H
abbrev AI:=ASt->M->(oA AV->(M->Prop)->M->Prop)->Prop
def cI(K:kN)(wi:AI):TI:=λn H R=>∃ j h i,Dp K H j n/\Cn K h H/\wi j h i/\∀l m d J f,Kp H f->Cn K d f->ItOk K f J l m->i l m d->R J f
def VI(X:Cx)(tg aw:kQ)(wi:AI):Prop:=PI X tg aw<|cI X.K wi
def PI.imp{tg e:kQ}{t u:TI}(h:PI X tg e t)(i:∀ d H Q,u d H Q->t d H Q):PI X tg e u:=λf s d H Q I q=>h f s d H Q I<|i d H Q q
def W4{K:kN}{j:Hp}{a:kM}{xs:oA AV}{m:M->Prop}(h:∀H f,Kp j H->Cn K f H->m f->∃d,Fa K H a d/\Ba K H xs d):ItOk K j (Itl K a) xs m:=by refine⟨λi H f S c k o=>?_,λi H f v s x S c k e y=>?_,λH f S c k=>?_⟩;obtain⟨d,q,r⟩:=h H f S c k;exact⟨d,d[i]'(by rw[<- r.length];exact o),q,D_ _⟩;obtain⟨d,q,r⟩:=h H f S c k;obtain⟨rfl,y⟩:=y;obtain⟨u,l,n⟩:=r.get e;rw[y d q]at l;cases l;exact⟨Kp.refl,c,n⟩;obtain⟨d,q,r⟩:=h H f S c k;exact⟨d,q,by rw[r.length];exact H_ _⟩
def Z0{K:kN}{j:Hp}{a:kM}{xs:oA AV}{m:M->Prop}(h:∀H f,Kp j H->Cn K f H->m f->∃d,Ii K H a d/\Ba K H xs d):ItOk K j (Itt K a) xs m:=by refine⟨λi H f S c k o=>?_,λi H f v s x S c k e y=>?_,λH f S c k=>?_⟩;obtain⟨d,q,r⟩:=h H f S c k;exact⟨d,d[i]'(by rw[<- r.length];exact o),q,D_ _⟩;obtain⟨d,q,r⟩:=h H f S c k;obtain⟨rfl,y⟩:=y;obtain⟨u,l,n⟩:=r.get e;rw[y d q]at l;cases l;exact⟨Kp.refl,c,n⟩;obtain⟨d,q,r⟩:=h H f S c k;exact⟨d,q,by rw[r.length];exact H_ _⟩
def Ea(lo:Int):Nat->oA AV
 | 0=>[]
 |n+1=>.D (.int lo)::Ea (lo+1) n
theorem Bv:∀(n:Nat) (lo:Int),(Ea lo n).length=n
 | 0,_=>rfl
 |n+1,lo=>by rw[Ea,aM,Bv n]
theorem Eg:∀(n:Nat) (lo:Int) (i:Nat) {x:AV},(Ea lo n)[i]?=some x->x=.D (.int<|lo+i)
 | 0,_,_,_,h=>by simp[Ea]at h
 |n+1,lo,0,_,h=>by simp[Ea]at h;rw[<- h];simp
 |n+1,lo,i+1,_,h=>by rw[Ea,fA]at h;rw[Eg n (lo+1) i h];congr 2;omega
def Qk{K:kN}{h:Hp}{lo:Int}{n:Nat}:ItOk K h (Itr lo n) (Ea lo n) (λ_=>True):=by refine⟨λi H d S c k f=>?_,λi H d v j x S c k e y=>?_,λH d S c k=>?_⟩;show i<n;rw[Bv]at f;exact f;obtain⟨rfl,rfl⟩:=y;rw[Eg n lo i e];exact⟨Kp.refl,c,Cu⟩;show n<=_;rw[Bv];exact H_ _
def SY(t:AA):AI:=λh f R=>t h f λi d=>match i with
 |[.D<|.int j]=>-(2^62)<=j/\j<2^62/\R (Ea 0 j.toNat) (λ_=>True) d
 |_=>False
def SZ(t:AA):AI:=λh f R=>t h f λl d=>match l with
 |[.D<|.int i,.D<|.int j]=>(-(2^62)<=i/\i<2^62/\-(2^62)<=j/\j<2^62)/\R (Ea i (j-i).toNat) (λ_=>True) d
 |_=>False
def Co{t:AA}{p:Pos}(o:Gl X "range") (hm:X.mg "range" = none) (ha:VA X [a] t) (hs:starEach [a] X.env=[(false,eval a X.env)]:=by rfl):VI X tg (.Call (.Name "range" p) [a] [] pos) (SY t) :=
 (Wd o hm ha hs).imp λs H Q d=>B7 d λj f R hs hc h hq=>⟨j,f,_,hs,hc,h,λz m y v q i n u hx=>by
  split at hx
  ·cases n with
   |cons l r=>cases r;cases RelA.int l;exact⟨_,rfl,hx.1,hx.2.1,hq _ _ _ _ _ q i Qk hx.2.2⟩
  exact hx.elim⟩
def W5{t:AA}{p:Pos}(q:Gl X "range") (hm:X.mg "range" = none) (ha:VA X [a,b] t) (hs:starEach [a,b] X.env=[(false,eval a X.env),(false,eval b X.env)]:=by rfl) (hs2:starEach [b] X.env=[(false,eval b X.env)]:=by rfl):VI X tg (.Call (.Name "range" p) [a,b] [] pos) (SZ t) :=
 (We q hm ha hs (hs2:=hs2)).imp λu H Q d=>B7 d λl i R hs hc h hq=>⟨l,i,_,hs,hc,h,λA n z y r s o v hx=>by
  split at hx
  ·cases o with
   |cons m f=>
    cases f with
    |cons f j=>cases j;cases RelA.int m;cases RelA.int f;exact⟨_,_,rfl,hx.1,hq _ _ _ _ _ r s Qk hx.2⟩
  exact hx.elim⟩
def fl(g:AG)(tb:AS)(k:ASt->M->Prop)(r:AV->M->Prop)(f:M->Prop):oA AV->ASt->M->Prop
 |[]=>λi d=>f d/\k i d
 |x::l=>λi d=>f d/\g x i d λh j=>tb (fl g tb k r f l) r k (fl g tb k r f l) h j
def Qac(wi:AI)(g:AG)(tb:AS):AS:=λk r _ _ f h=>wi f h λj i d=>fl g tb k r i j f d
def TB{g:AG}{tb:AS}{k:ASt->M->Prop}{r:AV->M->Prop}{f:M->Prop}{xs:oA AV}{i:ASt}{d:M}(h:fl g tb k r f xs i d):f d:=by
 cases xs with
 |nil=>exact h.1
 |cons x xs=>exact h.1
def Di{aw:kQ}{n:oA kU}{wi:AI}{g:AG}{tb:AS}(hp:PassesOwn (model X.prog X.w) X.A X.env X.xe)(ma:X.calm=true)(u:VI X tg aw wi)(hg:VG X tg g)(hb:VSs X n tb)(C:∀x,foldedSetIterable aw X.env x=pure x:=by intro _;rfl) :
  VS X (.For tg aw n [] pos) (Qac wi g tb):=(LH hp ma u hg hb C).imp λD σ H z=>Hg z λV Z nk nr nb nc W hc h hq=>by
 refine⟨V,Z,_,W,hc,h,λT kp N J U B c0 Q h0=>?_⟩;refine MI T.length (λi j m=>∃ f d,Kp U m/\Dp X.K m f j/\Cn X.K d m/\fl g tb nk nr kp (T.drop i) f d) ⟨V,N,Kp.refl,W.kp B,c0,h0⟩ ?_ ?_ ?_;rintro i j m u ⟨f,d,q,l,s,h1⟩;exact Q.go i m d q s (TB h1) u;rintro j m ⟨f,d,q,l,s,h1⟩;rw[fB]at h1;exact⟨Q.stop m d q s h1.1,hq.nx _ _ _ _ (B.trans q) l s h1.2⟩;rintro i v j m H2 u ⟨f,d,q,l,s,h1⟩ y;rw[bM u]at h1;obtain⟨hk,h1⟩:=h1;obtain⟨Y,c2,rx⟩:=Q.yld i m d v H2 _ q s hk (D_ u) y;refine⟨_,f,d,_,rx,l.kp Y,c2,h1,λL F σ3 H3 S3 mj R h3=>⟨L,F,_,_,_,_,mj,R,h3,?_⟩⟩;have S:Kp U H3:=q.trans<|Y.trans S3;exact⟨λr o G H' M I E O=>⟨r,o,S.trans M,I,E,O⟩,hq.rt.kp<|B.trans S,hq.nx.kp<|B.trans S,λr o G H' M I E O=>⟨r,o,S.trans M,I,E,O⟩⟩
def VIfs(X:Cx)(eg:oA kQ)(t:AT):Prop:=PIfs X eg<|cT X.K t
def MZ:AT:=λ_ d R=>R true d
def Bu:VIfs X [] MZ:=λi s f H Q I d=>B7 d λm j R l hc h hq=>Y1 i s f H Q I<|hq _ _ _ Kp.refl hc h
def Gk{t:AT}(h:VT X a t):VIfs X [a] t:=Y2 h
def cl(p:kM)(g:AG)(tst:AT)(te:AE)(l:M->Prop)(R:M->Prop):oA AV->oA AV->ASt->M->Prop
 |[]=>λ_ _ f=>l f/\R f
 |x::n=>λi o f=>l f/\g x o f λd m=>tst d m λk j=>
  brP k (te d j λv h=>h p=some (.lst i)/\i.length<sizeLine/\cl p g tst te l R n (i++[v]) d (Am h p<|.lst<|i++[v])) (cl p g tst te l R n i d j)
def Uq(mp:oA<|oB Nat)(wi:AI)(g:AG)(tst:AT)(te:AE):AE:=λh i R=>wi h i λl j d=>∀p,d p=none->cl p g tst te j (λf=>R (.R p) f) l [] (SG mp h) (Am d p<|.lst [])
def TC{p:kM}{g:AG}{tst:AT}{te:AE}{f:M->Prop}{R:M->Prop}{xs j:oA AV}{i:ASt}{d:M}(h:cl p g tst te f R xs j i d):f d:=by
 cases xs with
 |nil=>exact h.1
 |cons x xs=>exact h.1
def Nh{K:kN}{mp:oA<|oB Nat}{wi:AI}{g:AG}{tst:AT}{te:AE}{σ:St}{H:Hp}{Q:VK}(h:cE K (Uq mp wi g tst te) σ H Q):Y4 mp (cI K wi) (cG K g) (cT K tst) (cE K te) σ H Q:=by obtain⟨τ,μ,R,hs,hc,h,hq⟩:=h;refine⟨τ,μ,_,hs,hc,h,λxs kp N J E S0 c0 Y W=>?_⟩;intro p hp;have W:=W p<|c0.none hp;have U:Cn K (Am N p<|.lst []) (upd E p<|.lst []):=c0.new hp<|Da<|.nil;have A:Kp E (upd E p<|.lst []):=Kp.new hp _;refine FF xs.length (λi I m j=>∃ f d s,Kp E j/\Dp K j f m/\Cn K d j/\Ba K j s I/\cl p g tst te kp (λL=>R (.R p) L) (xs.drop i) s f d) ⟨_,_,[],A,((hs.kp S0).kp A).sub mp,U,.nil,W⟩ ?_ ?_ ?_;rintro i I m j F ⟨f,d,s,n,q,z,ra,h1⟩;exact Y.go i j d n z (TC h1) F;rintro I m j ⟨f,d,s,n,q,z,ra,h1⟩;rw[fB]at h1;exact⟨Y.stop j d n z h1.1,hq _ _ _ _ (S0.trans n) z Dz h1.2⟩;rintro i v I m j H2 F ⟨f,d,s,n,q,z,ra,h1⟩ y;rw[bM F]at h1;obtain⟨hk,h1⟩:=h1;obtain⟨V,c2,rx⟩:=Y.yld i j d v H2 _ n z hk (D_ F) y;refine⟨_,f,d,_,rx,q.kp V,c2,h1,λl M σ3 H3 S3 G Z h3=>⟨l,M,_,G,Z,h3,λk B H4 D c4 h4=>?_⟩⟩;rcases br_e h4 with⟨rfl,r⟩|⟨rfl,r⟩;rw[R_ rfl];refine⟨l,B,_,G.kp D,c4,r,λw μ5 u H5 S5 c5 rw T=>?_⟩;obtain⟨e5,hl,T⟩:=T;obtain⟨o,C,vs,rfl,O⟩:=c5 _ _ e5;have S:Kp j H5:=V.trans<|S3.trans<|D.trans S5;exact⟨vs,C,by rw[<- O.length];exact hl,l,_,_,(n.trans S).trans<|Kp.put C trivial _,(G.kp<|D.trans S5).kp<|Kp.put C trivial _,c5.put C trivial (Da<|O.append<|.cons rw .nil),(O.append<|.cons rw .nil).kp<|Kp.put C trivial _,T⟩;rw[N_ X_];have S:Kp j H4:=V.trans<|S3.trans D;exact⟨l,B,s,n.trans S,G.kp D,c4,ra.kp S,r⟩
def B2(hc:X.calm=true)(f:VI X tg aw wi)(i:∀C s H d,VG (B8 X N' scope C s H d) tg g)(j:∀C s H d,VIfs (B8 X N' scope C s H d) eg tst)(he:∀C s H d,VE (B8 X N' scope C s H d) gs te)
  (ok:CompOk X.N X.env.scope.names scope.names N' mp) (hk:scope.kind=.function:=by rfl) (hs:∀x,foldedSetIterable aw X.env x=pure x:=by intro _;rfl) :
  VE X (.ListComp gs [⟨tg,aw,eg,0⟩] scope pos) (Uq mp wi g tst te):=(FD (g:=cG X.K g) (tst:=cT X.K tst) (te:=cE X.K te) hc f (λC s H d=>i C s H d) (λC s H d=>j C s H d) (λC s H d=>he C s H d) ok hk hs).imp λ_ _ _ h=>Nh h
def Ov{i:Nat}{y:Str}{l n:Pos}(hc:X.calm=true)(q:X.N.Nodup)(E:X.N[i]?=some y)(hy:X.env.scope.names.lookup y=some .local) (F:VI X tg aw wi) (r:∀C s H d,VG (B8 X N' scope C s H d) tg g) (A:∀C s H d,VIfs (B8 X N' scope C s H d) eg tst) (he:∀C s H d,VE (B8 X N' scope C s H d) gs te)
  (ok:CompOk X.N X.env.scope.names scope.names N' mp) (j:swapsWith (.ListComp gs [⟨tg,aw,eg,0⟩] scope pos) (some<|.Name y l) n.line X.env=pure true:=by rfl)
  (hk:scope.kind=.function:=by rfl) (hs:∀x,foldedSetIterable aw X.env x=pure x:=by intro _;rfl) :
  VS X (.Assign [.Name y l] (.ListComp gs [⟨tg,aw,eg,0⟩] scope pos) n) (Mp (Uq mp wi g tst te)<|Db i):=(FE (g:=cG X.K g) (tst:=cT X.K tst) (te:=cE X.K te) hc q E hy F (λC s H d=>r C s H d) (λC s H d=>A C s H d) (λC s H d=>he C s H d) ok j hk hs).imp λD I H f=>Hg f λz o J nr nb M hs hc h hq=>
 Nh (K:=X.K) ⟨z,o,_,hs,hc,h,λx B v L m u G hx=>hq.nx _ _ _ _ m ((hs.kp m).set G i) u hx⟩
def aNx(R:AV->M->Prop):ASt->M->Prop:=λ_ d=>∃ f,Sub f d/\R (.D .none) f
def PR(R:AV->M->Prop):AV->M->Prop:=λv d=>∃ f,Sub f d/\R v f
def PU:ASt->M->Prop:=λ_ _=>False
def Fun.vok{x d:Str}{st:kU}{f:kM}{C:kW}{N ps:oA Str}{k:Nat}{sp:ASp}(F:Fun K x d st f C)(S:FnScope N ps<|Ai st) (T:∀(o:kJ) (A:kR) (outer:oA Env) (s:kK) (H:Hp) (E:XK),Room k (A.deeper<|envOfC d (Ai st) s.heap.objs.size f o) ->
   ∃t,VSs (J5 Ez P w K mg base N d (Ai st) f o A outer s H E).nox (A9 st) t/\∀i l R,i.length=ps.length->sp i l R->t (aNx R) (PR R) PU PU (Fv N i) l):FnOk P w K mg base Ez (k+1) f C ps (G6 K ps.length sp):=by
 refine F.ok S (λO H Q E h=>?_) λo A outer s H O Q E I h=>?_;obtain⟨i,l,R,q,B,_⟩:=h;rw[<- B.length];exact q;obtain⟨i,l,R,q,B,hc,L,hq⟩:=h;obtain⟨t,J,h⟩:=T o A outer s H E I;refine⟨_,J,Fv N i,l,_,_,_,_,Dp.begin B,hc,h i l R q L,⟨λV y U D z _ c n=>V7 n λM j r=>?_,λv y u D z c G m=>V7 m λM j r=>?_,λ_ _ _ _ _ _ _ h=>h.elim,λ_ _ _ _ _ _ _ h=>h.elim⟩⟩;exact hq _ _ _ _ z (c.sub j) Oo r;exact hq _ _ _ _ z (c.sub j) G r
def Qae(t:AE):AI:=λi f R=>t i f λx d=>opt (items d x) λh=>R h (λf=>items f x=some h) d
def Cc(hl:VE X a ta):VI X tg a (Qae ta):=by
 intro D s E H R I n;refine B7 n λG m M L hc h hq=>?_;refine thn (hl D s E H (λv j=>∃x d l,Kp H j/\Cn X.K d j/\RelA X.K j x v/\items d x=some l/\M l (λm=>items m x=some l) d) I ⟨G,m,_,L,hc,h,λx d v j z r y hx=>?_⟩) λv s1 N=>?_;obtain⟨l,e,hx⟩:=Bf hx;exact⟨x,d,l,z,r,y,e,hx⟩;obtain⟨O,j,f,J,x,d,l,z,r,y,e,hx⟩:=N;obtain⟨p,T,rfl,hp,Q⟩:=Bt r y e;cases J;rcases hp with⟨k,hp⟩|⟨k,hp⟩;obtain⟨C,F,A,hz⟩:=f.list hp;refine eA A.isList ?_;refine⟨s1.heap.objs.size,[s1.heap.objs.size],_,_,j,rfl,f.kept (t':=s1.toks) λb o e=>C_ _ e,Wc p _,⟨_,I_ _ rfl,rfl,rfl⟩,λb hb=>?_,hq _ _ _ _ _ z r (W4 λH m S c B=>?_) hx⟩;have e:b=s1.heap.objs.size:=by simpa using hb
 subst e;exact f.fpOk (H_ _)<|f.hok.fresh<|H_ _;obtain⟨q,ws,e,i,rw⟩:=Bt c (y.kp S) B;cases e;rcases i with⟨_,i⟩|⟨u,_⟩;exact⟨ws,i,rw⟩;rw[k]at u;cases u;obtain⟨C,F,A,hz⟩:=f.tuple hp;refine dX (show s1.heap.IsTuple p C.toArray from A) ?_;refine⟨s1.heap.objs.size,[s1.heap.objs.size],_,_,j,rfl,f.kept (t':=s1.toks) λb o e=>C_ _ e,R9 p _,⟨_,I_ _ rfl,rfl,rfl⟩,λb hb=>?_,hq _ _ _ _ _ z r (Z0 λH m S c B=>?_) hx⟩;have e:b=s1.heap.objs.size:=by simpa using hb
 subst e;exact f.fpOk (H_ _)<|f.hok.fresh<|H_ _;obtain⟨q,ws,e,i,rw⟩:=Bt c (y.kp S) B;cases e;rcases i with⟨u,_⟩|⟨_,i⟩;rw[k]at u;cases u;exact⟨ws,i,rw⟩
def Qaf(t:AE):AE:=λh f R=>t h f λx d=>match x with
 |.D (.int i)=>R (.D<|.int<|-i) d
 |_=>False
def Hd(h:VE X a ta):VE X (.UnaryOp .USub a pos) (Qaf ta):=(RE LP h).imp λs H Q f=>B7 f λl j R n hc h hq=>⟨l,j,_,n,hc,h,λx m v u o r q hx=>by
 cases x with
 |D d=>
  cases d with
  |int i=>cases RelA.int q;exact⟨_,rfl,hq _ _ _ _ o r Cu hx⟩
  |_=>exact False.elim hx
 |_=>exact False.elim hx⟩
end
section
variable {c:AT}{g:AG}{tb:AS}{k:ASt->M->Prop}{r:AV->M->Prop}{bb cc:ASt->M->Prop}{tst:AT}{te:AE}{X:Cx}{K:kN}{H:Hp}{o i e value:kQ}{pos ci:Pos}{td ty tv tx:AE}
def An{t u:AS}{f:ASt}{d:M}(J:ASt->M->Prop)(h1:∀W:ASt->M->Prop,(∀ b a,J b a->W b a)->t W r bb cc f d)(h2:∀ b a,J b a->u k r bb cc b a):Zw t u k r bb cc f d:=h1 (u k r bb cc) h2
def Ci{t u:AS}{a:ASt}{b:M}(h:t (u k r bb cc) r bb cc a b):Zw t u k r bb cc a b:=h
def TD{x:AV}{i:Nat}{a:ASt}{b:M}(h:k (a.set i<|some x) b):Mp (vC x) (Db i) k r bb cc a b:=h
def TF{t:AE}{i:Nat}{a:ASt}{d:M}(h:t a d λx b=>k (a.set i<|some x) b):Mp t (Db i) k r bb cc a d:=h
def Fe{m:M->Prop}{xs:oA AV}{b:ASt}{a:M}(I:Nat->ASt->M->Prop)(u:I 0 b a)(hk:∀i b a,I i b a->m a)
  (step:∀i x b a (W:ASt->M->Prop),xs[i]?=some x->I i b a->(∀ f d,I (i+1) f d->W f d)->g x b a λl p=>tb W r k W l p)
  (done:∀ b a,I xs.length b a->k b a):fl g tb k r m xs b a:=by
 have s:∀n i b a,n+i=xs.length->I i b a->fl g tb k r m (xs.drop i) b a:=by
  intro n
  induction n with
  |zero=>
   intro i b a h j;have e:i=xs.length:=by omega
   subst e;rw[fB];exact⟨hk _ _ _ j,done b a j⟩
  |succ n v=>
   intro i b a h j;have t:i<xs.length:=by omega
   rw[bM t];exact⟨hk _ _ _ j,step i _ b a _ (D_ t) j λf d q=>v (i+1) f d (by omega) q⟩
 exact s xs.length 0 b a rfl u
def E8{p:kM}{w:M->Prop}{R:M->Prop}{xs:oA AV}{b:ASt}{a:M}(I:Nat->oA AV->ASt->M->Prop)(B:I 0 [] b a)(hk:∀i d b a,I i d b a->w a)
  (step:∀i x d b a (W:oA AV->ASt->M->Prop),xs[i]?=some x->I i d b a->(∀m j f,I (i+1) m j f->W m j f)->g x b a λl y=>tst l y λk t=>
   brP k (te l t λv u=>u p=some (.lst d)/\d.length<sizeLine/\W (d++[v]) l (Am u p<|.lst<|d++[v])) (W d l t))
  (done:∀d b a,I xs.length d b a->R a):cl p g tst te w R xs [] b a:=by
 have z:∀n i d b a,n+i=xs.length->I i d b a->cl p g tst te w R (xs.drop i) d b a:=by
  intro n
  induction n with
  |zero=>
   intro i d b a h s;have e:i=xs.length:=by omega
   subst e;rw[fB];exact⟨hk _ _ _ _ s,done d b a s⟩
  |succ n C=>
   intro i d b a h s;have A:i<xs.length:=by omega
   rw[bM A];exact⟨hk _ _ _ _ s,step i _ d b a (λm j f=>cl p g tst te w R (xs.drop<|i+1) m j f) (D_ A) s λm j f q=>C (i+1) m j f (by omega) q⟩
 exact z xs.length 0 [] b a rfl B
def Gm{z:Str}(h:PyData.canLay0 (.str z)=true):Bz (.str z):=⟨h,by simp[PyData.depth]⟩
def Ff(i:Int):Bz (.int i):=⟨rfl,by simp[PyData.depth]⟩
def Kh(i j:Int):PyData.eqv (.int i) (.int j)=decide (i=j):=by rw[PyData.eqv];exact gK.mpr<|by simp
def ieq{i j:Int}{T F:Prop}(h1:i=j->T)(h2:i≠j->F):Bz (.int i)/\Bz (.int j)/\brP (PyData.eqv (.int i)<|.int j) T F:=by refine⟨Ff _,Ff _,?_⟩;rw[Kh];exact dif h1 h2
def Ao{a:M}{p:kM}{xs:oA AV}(h:a p=some (.lst xs)):items a (.R p)=some xs:=by show(match a p with|some (.lst xs)=>some xs|_=>none)=_;rw[h]
def C2{κ:Type} [DecidableEq κ](a:oA<|κ×AV)(k:κ):oB AV:=(a.find? λb=>decide (b.1=k)).map (·.2)
def Iq{κ:Type} [DecidableEq κ](b:oA<|κ×AV)(k:κ)(v:AV):oA (κ×AV) :=
 if(b.any λa=>decide (a.1=k))=true then b.map λa=>if a.1=k then(a.1,v) else a else b++[(k,v)]
def Lb:oA kL->oB (oA Key)
 |[]=>some []
 |d::a=>match Qi d,Lb a with
  |some k,some b=>some (k::b)
  |_,_=>none
def Ur(ds:oA kL):oB (oA Key):=match Lit ds with
 |true=>none
 |false=>Lb ds
def Us{ds:oA kL}{ks:oA Key}(h:Ur ds=some ks):Lit ds=false/\Lb ds=some ks:=by
 unfold Ur at h;cases c:Lit ds with
 |true=>rw[c]at h;cases h
 |false=>rw[c]at h;exact⟨rfl,h⟩
def DY.heap{K:kN}{H:Hp}{a:kM}{ds:oA kL}{xs:oA V}(h:DY K H a ds xs)(hl:Lit ds=false):H a=some (.tup xs):=by rcases h with h|h;exact h;rw[hl]at h;cases h.1
def dget(m:MO)(d:kL):oB (oB AV):=match m with
 |.dk a=>(Qi d).map (C2 a)
 |.dt a=>match d with
  |.tuple b=>(Ur b).map (C2 a)
  |_=>none
 |.lst _=>none
 |.dd _=>none
def dput(m:MO)(d:kL)(v:AV):oB MO:=match m with
 |.dk a=>(Qi d).map λk=>.dk (Iq a k v)
 |.dt a=>match d with
  |.tuple b=>(Ur b).map λk=>.dt (Iq a k v)
  |_=>none
 |.lst _=>none
 |.dd _=>none
def dsize:MO->Nat
 |.dk a=>a.length
 |.dt a=>a.length
 |.lst b=>b.length
 |.dd a=>a.length
def Ut(K:kN)(H:Hp):oB AV->oB V->Prop
 |some x,some v=>RelA K H x v
 |none,none=>True
 |_,_=>False
def Gh.val{κ:Type} [DecidableEq κ]{f:oA<|κ×AV}{vs:oA<|κ×V}(h:Gh K H f vs)(k:κ):Ut K H (C2 f k) (Hi vs k):=by
 unfold Gh at h
 induction h with
 |nil=>exact trivial
 |@cons p q a d r t b=>obtain⟨j,m⟩:=p;obtain⟨l,n⟩:=q;obtain⟨e,r⟩:=r;dsimp only at e;subst e;unfold C2 Hi at b ⊢;by_cases hk:j=k;simp only[List.find?_cons,decide_eq_true hk];exact r;simp only[List.find?_cons,decide_eq_false hk];exact b
def Gh.put{κ:Type} [DecidableEq κ]{f:oA<|κ×AV}{vs:oA<|κ×V}(h:Gh K H f vs)(k:κ){x:AV}{v:V}(r:RelA K H x v):Gh K H (Iq f k x) (Hj vs k v):=by
 have m:(f.any λa=>decide (a.1=k))=(vs.any λa=>decide (a.1=k)):=by
  unfold Gh at h
  induction h with
  |nil=>rfl
  |@cons p q b d j t l=>rw[dL,dL,l,j.1]
 have hm:Gh K H (f.map λa=>if a.1=k then(a.1,x) else a) (vs.map λa=>if a.1=k then(a.1,v) else a):=by
  clear m;unfold Gh at h ⊢
  induction h with
  |nil=>exact .nil
  |@cons p q b d j t l=>refine .cons ?_ l;obtain⟨e,j⟩:=j;dsimp only;by_cases hk:p.1=k;rw[R_ hk,R_<|e ▸ hk];exact⟨e,r⟩;rw[N_ hk,N_<|e ▸ hk];exact⟨e,j⟩
 have ha:Gh K H (f++[(k,x)]) (vs++[(k,v)]):=by clear m hm;unfold Gh at h ⊢;exact kG h ⟨rfl,r⟩
 unfold Iq Hj;rw[m];split;exact hm;exact ha
def Ow{d:kL}{k:Key}{v:V}(h:Dk K H d v)(e:Qi d=some k):v=kV k:=by unfold Qi at e;split at e;cases e;exact h.int;cases e;exact h.str;cases e
theorem Ld:∀{ds:oA kL} {ks:oA Key} {vs:oA V},Au K H ds vs->Lb ds=some ks->vs=ks.map kV
 |[],ks,vs,h,e=>by cases e;exact h.nil
 |d::ds,ks,vs,h,e=>by obtain⟨x,r,rfl,h1,h2⟩:=h.cons;simp only[Lb]at e;split at e;rename_i k b a f;cases e;rw[Ow h1 a,Ld h2 f];rfl;cases e
def Ox{j:M}{a:kM}{m:MO}{d:kL}{v:V}{o:oB AV}(hc:Cn K j H)(hm:j a=some m)(hd:Dk K H d v)(e:dget m d=some o):∃r,DGet H a v r/\Ut K H o r:=by obtain⟨u,n,l⟩:=hc a m hm;unfold dget at e;split at e;obtain⟨k,f,rfl⟩:=W_.mp e;obtain⟨s,rfl,h⟩:=l;rw[Ow hd f];exact⟨_,DGet.k n,h.val k⟩;split at e;obtain⟨q,f,rfl⟩:=W_.mp e;obtain⟨s,rfl,h⟩:=l;obtain⟨b,w,rfl,hb,hx⟩:=hd.tup;obtain⟨p,f⟩:=Us f;have hb:=hb.heap p;rw[Ld hx f]at hb;exact⟨_,DGet.t n hb,h.val q⟩;cases e;cases e;cases e
def FS{l:M}{a:kM}{m q:MO}{d:kL}{v w:V}{x:AV}(hc:Cn K l H)(hm:l a=some m)(hd:Dk K H d v)(hx:RelA K H x w)(e:dput m d x=some q)(hs:dsize m<sizeLine):∃n,DPut H a v w n/\Kp H n/\Cn K (Am l a q) n:=by obtain⟨A,f,s⟩:=hc a m hm;unfold dput at e;split at e;obtain⟨k,j,rfl⟩:=W_.mp e;obtain⟨z,rfl,h⟩:=s;rw[Ow hd j];exact⟨_,DPut.k f<|by rw[<- fK h];exact hs,Kp.put f trivial _,hc.put f trivial ⟨_,rfl,h.put k hx⟩⟩;split at e;obtain⟨y,j,rfl⟩:=W_.mp e;obtain⟨z,rfl,h⟩:=s;obtain⟨b,B,rfl,hb,p⟩:=hd.tup;obtain⟨u,j⟩:=Us j;have hb:=hb.heap u;rw[Ld p j]at hb;exact⟨_,DPut.t f hb<|by rw[<- fK h];exact hs,Kp.put f trivial _,hc.put f trivial ⟨_,rfl,h.put y hx⟩⟩;cases e;cases e;cases e
def TH(td ty:AE):AE:=λh j R=>td h j λx f=>ty h f λy b=>match x,y with
 |.R a,.D d=>opt (b a) λm=>opt (dget m d) λr=>opt r λv=>R v b
 |_,_=>False
def Ki(s:X.A.units+1<cLine)(C:VE X o td)(G:VE X i ty)(hs:MD i:=by intro _ _;rfl):VE X (.Subscript o i pos) (TH td ty):=(FA s C G hs).imp λJ H Q a=>B7 a λj p R hs hc h hq=>
 ⟨j,p,_,hs,hc,h,λx b v N l D I hx=>⟨j,b,_,hs.kp l,D,hx,λy q u L n c2 B hy=>by
  split at hy
  ·obtain⟨m,t,hy⟩:=Bf hy;obtain⟨r,F,hy⟩:=Bf hy;obtain⟨w,rfl,d⟩:=Bf hy;obtain⟨E,g,f⟩:=Ox c2 t B F;cases E with
   |none=>exact f.elim
   |some z=>exact⟨_,z,(I.kp n).ref,g,hq _ _ _ _ (l.trans n) c2 f d⟩
  exact hy.elim⟩⟩
def FT(nb:Bool->Bool)(ty td:AE):AE:=λh j R=>ty h j λy f=>td h f λx b=>match x,y with
 |.R a,.D d=>opt (b a) λm=>opt (dget m d) λr=>R (.D<|.bool<|nb r.isSome) b
 |_,_=>False
def Ut.some{o:oB AV}{r:oB V}(h:Ut K H o r):o.isSome=r.isSome:=by cases o<;>cases r<;>first|rfl|exact h.elim
def Z1{K:kN}{j:St}{H:Hp}{Q:VK}(h:cE K (FT (λb=>b) ty td) j H Q):RY (cE K ty) (cE K td) j H Q:=by obtain⟨d,p,R,f,hc,h,hq⟩:=h;refine⟨d,p,_,f,hc,h,λy a v D l C A hx=>⟨d,a,_,f.kp l,C,hx,λx t u E n c2 B hy=>?_⟩⟩;split at hy;obtain⟨m,w,hy⟩:=Bf hy;obtain⟨r,s,hy⟩:=Bf hy;obtain⟨q,g,z⟩:=Ox c2 w (A.kp n) s;refine⟨_,q,B.ref,g,hq _ _ _ _ (l.trans n) c2 ?_ hy⟩;rw[z.some];exact Cv;exact hy.elim
def Ql{K:kN}{j:St}{H:Hp}{Q:VK}(h:cE K (FT (λb=>!b) ty td) j H Q):Uf (cE K ty) (cE K td) j H Q:=by obtain⟨d,p,R,f,hc,h,hq⟩:=h;refine⟨d,p,_,f,hc,h,λy a v D l C A hx=>⟨d,a,_,f.kp l,C,hx,λx t u E n c2 B hy=>?_⟩⟩;split at hy;obtain⟨m,w,hy⟩:=Bf hy;obtain⟨r,s,hy⟩:=Bf hy;obtain⟨q,g,z⟩:=Ox c2 w (A.kp n) s;refine⟨_,q,B.ref,g,hq _ _ _ _ (l.trans n) c2 ?_ hy⟩;rw[z.some];exact Cv;exact hy.elim
def NA(a:X.A.units+1<cLine)(d:VE X i ty)(f:VE X o td)(h1:behindInMarks .In o=false:=by rfl):VE X (.Compare i [.In] [o] pos) (FT (λb=>b) ty td):=(KK (ME a d f) h1).imp λ_ _ _ h=>Z1 h
def Ir(a:X.A.units+1<cLine)(d:VE X i ty)(f:VE X o td)(h1:behindInMarks .NotIn o=false:=by rfl):VT X (.Compare i [.NotIn] [o] pos) (Qh<|FT (λb=>!b) ty td):=(KL (Wo a d f) h1).imp λ_ _ _ h=>Il (λ_ _ _ q=>Ql q) h
def TJ(td ty tv:AE):AS:=λk _ _ _ f l=>tv f l λv h=>td f h λx j=>ty f j λy b=>match x,y with
 |.R a,.D d=>opt (b a) λm=>opt (dput m d v) λn=>dsize m<sizeLine/\k f (Am b a n)
 |_,_=>False
def Oy(z:X.A.units+1<cLine)(G:VE X o td)(J:VE X i ty)(hv:VE X value tv)(hs:swapsWith value (some<|.Subscript o i ci) pos.line X.env=pure false:=by rfl):VS X (.Assign [.Subscript o i ci] value pos) (TJ td ty tv):=(FB z G J hv hs).imp λD P H b=>Hg b λj s U nr nb W hs hc h hq=>
 ⟨j,s,_,hs,hc,h,λv n vv V p I E h1=>⟨j,n,_,hs.kp p,I,h1,λx d R Q q c2 N h2=>⟨j,d,_,hs.kp<|p.trans q,c2,h2,λy C Y T l w F a=>by
  split at a;obtain⟨m,B,a⟩:=Bf a;obtain⟨O,f,a⟩:=Bf a;obtain⟨t,g,u,L⟩:=FS w B F (E.kp<|q.trans l) f a.1;have S:=p.trans<|q.trans<|l.trans u;exact⟨_,t,(N.kp l).ref,g,hq.nx _ _ _ _ S (hs.kp S) L a.2⟩;exact a.elim⟩⟩⟩
def NB:AE:=λ_ a R=>∀p,a p=none->R (.R p) (Am a p<|.dk [])
def TK{a:oA<|Key×AV}{vs:oA<|Key×V}(h:Gh K H a vs):Mo K H (.dk a) (.dK vs):=⟨vs,rfl,h⟩
def Qm:VE X (.Dict [] [] pos) NB:=Yy.imp λf H Q a=>B7 a λj b R d hc h hq=>λp hp=>hq _ _ _ _ (Kp.new hp _) (hc.new hp<|TK .nil) Dz<|h p<|hc.none hp
end
end L2
namespace L2
def Fg{c:Type}{b:oA c}{n:Nat}(h:b.length=n+1):∃a t,b=a::t/\t.length=n:=match b,h with|a::t,h=>⟨a,t,rfl,Nat.succ.inj h⟩
def Uu{c:Type}{b:oA c}(h:b.length=1):∃a,b=[a]:=by obtain⟨a,t,rfl,h2⟩:=Fg h;rw[bS h2];exact⟨a,rfl⟩
def XX{d:Type}{c:oA d}(h:c.length=2):∃a b,c=[a,b]:=by obtain⟨a,t,rfl,h2⟩:=Fg h;obtain⟨b,rfl⟩:=Uu h2;exact⟨a,b,rfl⟩
open PySem PySem.Spec PySem.Calls PyProof.Rows
abbrev AX:=kM->oA (Str×kL)->M->Prop
def XFx(K:kN)(H:Hp)(d:oB kM)(b:oA<|Str×kL):Prop:=match d with
 |none=>b=[]
 |some d=>∃a,H d=some (XD d a)/\J8 K H b a
def EK(K:kN)(f:AX):XK:=λc g H=>∃a C e b d,c=.ref C/\g=some a/\H a=some (XR a C d)/\XFx K H d e/\Cn K b H/\f C e b
def XA(X:Cx)(a:AX):Prop:=Wy X<|EK X.K a
section
variable {K:kN}{H H':Hp}{X:Cx}{aa:oA<|kM×kT}{σ:St}{s:kK}{x:Str}{p pos ci:Pos}{e:kQ}{es:oA kQ}{t:AA}{k:Nat}{C:kM}{ie:oA Str}{EX:AX}{ps:oA Str}{sp:Sw}{P:kO}{w:kP}{mg:Str->oB kJ}{base:kS}
def Kp.ext{p:kM}{a:kS->Prop}(h:H p=some (.ext a))(o:HO):Kp H (upd H p o) :=
 ⟨λb d e=>by rw[Bd<|Pn e h<|by intro z;cases z];exact e,λb c u e=>by rw[Bd<|Pn e h<|by intro z;cases z];exact e⟩
def Cn.ext{a:M}{p:kM}{f:kS->Prop}(c:Cn K a H)(h:H p=some (.ext f))(o:HO):Cn K a (upd H p o):=λb m e=>by obtain⟨d,q,r⟩:=c b m e;refine⟨d,?_,r.kp<|Kp.ext h o⟩;rw[Bd];exact q;rintro rfl;rw[h]at q;cases q;exact r.mt
def Kp.same(k:∀b o,H b=some o->H' b=some o):Kp H H':=⟨λb _ e=>k b _ e,λb _ _ e=>k b _ e⟩
def Cn.same{a:M}(c:Cn K a H)(k:∀b o,H b=some o->H' b=some o):Cn K a H':=λb m e=>by obtain⟨d,q,r⟩:=c b m e;exact⟨d,k b d q,r.kp<|Kp.same k⟩
theorem J8.zip:∀(ie:oA Str) {ds:oA kL} {vs:oA V},Au K H ds vs->J8 K H (ie.zip ds) (ie.zip vs)
 |[],_,_,_=>.nil
 |_::_,[],_,h=>by rw[h.nil];exact .nil
 |f::ie,_::ds,_,h=>by obtain⟨x,r,rfl,h1,h2⟩:=h.cons;exact .cons ⟨rfl,h1⟩<|J8.zip ie h2
theorem J8.lookup{f:Str}{d:kL}{a:oA<|Str×kL}{vs:oA<|Str×V}(h:J8 K H a vs)(e:a.lookup f=some d):∃v,vs.lookup f=some v/\Dk K H d v:=by
 unfold J8 at h
 induction h with
 |nil=>cases e
 |@cons p q m l r t j=>obtain⟨g,o⟩:=p;obtain⟨n,i⟩:=q;obtain⟨b,c⟩:=r;dsimp only at b c;subst b;rw[iO]at e ⊢;split at e;cases e;exact⟨i,rfl,c⟩;exact j e
def Inv.freeze{a C:kM}{d:oB kM}{z:oA<|Str×kL}{n:M}(I:Inv X aa σ H s)(q:H a=some (XR a C d))(f:XFx X.K H d z)(c:Cn X.K n H) :
  ∃H',Inv X aa σ H' s/\RelA X.K H' (.X C z) (.ref a)/\Cn X.K n H':=by
 obtain⟨i,j,E⟩:=Zh I.hok q;have v:Inv X aa σ (upd H a<|.frz _<|XR a C d) s:=I.retype q ⟨j,Zg j E⟩;have y:=c.ext q<|.frz ⟨.ref C,d,.fields i,#[]⟩<|XR a C d;have F:=Kp.ext q<|.frz ⟨.ref C,d,.fields i,#[]⟩<|XR a C d;cases d with
 |none=>exact⟨_,v,⟨a,_,none,rfl,Bo,f⟩,y⟩
 |some b=>
  obtain⟨l,A,r⟩:=f;obtain⟨J,N,D,B⟩:=ML I.hok A;obtain⟨u,m,_⟩:=Mz N;have ne:b≠a:=by rintro rfl;obtain⟨o,es,G,g,hd,_⟩:=N;rw[j]at g;cases g;cases hd
  have h:upd H a (.frz ⟨.ref C,some b,.fields i,#[]⟩<|XR a C<|some b) b=some (XD b l):=by rw[Bd ne];exact A
  refine⟨_,v.retype (o:=.frz u<|XD b l) h ⟨m,Zc N D B⟩,⟨a,⟨.ref C,some b,.fields i,#[]⟩,some b,rfl,?_,u,l,Bo,(r.kp F).kp<|Kp.ext h _⟩,y.ext h _⟩;rw[Bd<|dA ne];exact Bo
def xinst{a C:kM}{i:oA<|Str×kL}(I:Inv X aa σ H s)(r:RelA X.K H (.X C i)<|.ref a) :
  ∃F c,PySem.W.InstAt s.heap a F C c/\∀f d,i.lookup f=some d->∃b u v,c=some b/\PySem.W.lookIn f b=some (some u)/\Bp v u/\Dk X.K H d v:=by
 obtain⟨M,o,d,e,q,f⟩:=r;cases e;obtain⟨Q,⟨S,j,R⟩,_⟩:=(show Bs X.prog X.w H s.heap a (.frz o<|XR a C d) from I.hok a _ q);cases d with
 |none=>refine⟨_,none,⟨j,rfl,rfl,trivial⟩,λh z e=>?_⟩;rw[show i=[] from f]at e;cases e
 |some g=>obtain⟨c,J,G,y⟩:=f;obtain⟨_,⟨L,N,E,O⟩,_⟩:=(show Bs X.prog X.w H s.heap g (.frz c<|XD g J) from I.hok g _ G);obtain⟨b,D,A⟩:=Mz N;refine⟨_,some b,⟨j,rfl,rfl,D⟩,λh z e=>?_⟩;obtain⟨v,l,B⟩:=y.lookup e;obtain⟨u,n,m⟩:=G1.some_of (v:=v) (o:=L h) (by rw[<- l];exact E h);exact⟨b,u,v,rfl,by rw[A,n],m,B⟩
def spI(C:kM)(ie:oA Str):Sp:=λd H Q _=>∃(e t:kM) (ys:oA V),d=.ref e::ys/\ys.length=ie.length/\H e=some (XO e C t none) /\
 ∀a f c,(∀b o,b≠e->H b=some o->a b=some o)->a e=some (XO e C f<|some c)->a c=some (XD c<|ie.zip ys)->c≠e->Q .non a
def XCal(P:kO)(w:kP)(K:kN)(mg:Str->oB kJ)(base:kS)(k:Nat)(x:Str)(C:kM)(ie:oA Str):Prop :=
 ∃f a ps,FnOk P w K mg base Ez k f a ps (spI C ie)/\Binds K a ps []/\XMk K C f/\mg x=some (.ref C)/\PySem.W.mroIn K C (.type "BaseException")=some true
def NC(EX:AX)(C:kM)(ie:oA Str)(t:AA):AS:=λ_ _ _ _ d c=>t d c λf a=>opt (dats f) λb=>b.length=ie.length/\EX C (ie.zip b) a
def Hn(F:XCal X.prog X.w X.K X.mg X.base k x C ie)(N:Room (k+1) X.A)(hc:X.calm=true)(hx:XA X EX)(y:Gl X x)(ha:VA X (e::es) t)(z:(e::es).length<=1000:=by decide)(hdb:(x==("__debug__" : Str))=false:=by decide) (R:starEach (e::es) X.env=(false,eval e X.env)::starEach es X.env:=by rfl) (hpl:(backTo pos<|starEach es X.env).any (·.1)=false:=by rfl):VS X (.Raise (some<|.Call (.Name x p) (e::es) [] pos) none ci) (NC EX C ie t):=by
 obtain⟨f,fd,ps,G,r,mk,S,W⟩:=F;refine PS.imp (Zi hc hx<|Zd (E:=E0) mk G N y S r IQ ha hdb R hpl) λD σ H d=>Hg d λT m nk nr nb nc U hc h hq=>?_;refine⟨T,m,_,U,hc,h,λxs i Z Y S1 O j B hx=>⟨by rw[<- j.length,B];exact z,λa n ha=>?_⟩⟩;obtain⟨u,v,Q,I⟩:=Bf hx;have dk:=j.dats v;refine⟨a,n,Z,rfl,by rw[dk.length];exact Q,Bo,λL M g c V J ne=>⟨rfl,a,C,M,some g,rfl,V,mk.xc,W,?_⟩⟩;have l:∀b o,Y b=some o->upd L a (XR a C<|some g) b=some o:=λb o q=>by
  have hb:b≠a:=by rintro rfl;rw[ha]at q;cases q
  rw[Bd hb];exact c b o hb<|by rw[Bd hb];exact q
 exact⟨a,C,ie.zip u,i,some g,rfl,rfl,Bo,⟨_,by rw[Bd ne];exact J,(J8.zip ie dk).kp<|Kp.same l⟩,O.same l,I⟩
abbrev Sw:=oA AV->M->(AV->M->Prop)->AX->Prop
def ND(K:kN)(n:Nat)(sp:Sw):Sp:=λf H Q E=>∃b d R EX,b.length=n/\Ba K H b f/\Cn K d H/\sp b d R EX/\LV K H R Q/\∀c a H',EK K EX c a H'->E c a H'
def Ni(P:kO)(w:kP)(K:kN)(mg:Str->oB kJ)(base:kS)(k:Nat)(x:Str)(ps:oA Str)(sp:Sw):Prop :=
 ∃g a,FnOk P w K mg base (IS P w) k g a ps (ND K ps.length sp)/\Binds K a ps []/\PySem.W.keepIn K (.ref g)=true/\mg x=some (.ref g)
def Ni.mono{P:kO}{w:kP}{K:kN}{mg:Str->oB kJ}{base:kS}{n m:Nat}{x:Str}{ps:oA Str}{sp:Sw}(c:Ni P w K mg base n x ps sp)(h:n<=m):Ni P w K mg base m x ps sp :=
 by obtain⟨g,a,G,r⟩:=c;exact⟨g,a,G.mono h,r⟩
def NE(sp:Sw)(EX:AX)(t:AA):AE:=λb c R=>t b c λd a=>sp d a R EX
def Z5(F:Ni X.prog X.w X.K X.mg X.base k x ps sp)(m:Room k X.A)(hx:XA X EX)(f:Gl X x)(ha:VA X (e::es) t)(hl:(e::es).length=ps.length:=by rfl)(hdb:(x==("__debug__" : Str))=false:=by decide)
  (o:starEach (e::es) X.env=(false,eval e X.env)::starEach es X.env:=by rfl) (hpl:(backTo pos<|starEach es X.env).any (·.1)=false:=by rfl):VE X (.Call (.Name x p) (e::es) [] pos) (NE sp EX t):=by
 obtain⟨g,B,G,d,j,r⟩:=F;refine PE.imp (T8 (E:=EK X.K EX) G m f r j d .nil (Wy.passes hx λ_ _ _ q=>q) ha (hdb:=hdb) (he:=o) (hpl:=hpl)) λσ H Q a=>B7 a λu c R v hc h hq=>?_;exact⟨u,c,_,v,hc,h,λl b I D z n y i hx=>⟨l,b,R,EX,i.trans hl,by rw[cX];exact y,n,hx,hq.kp z,λ_ _ _ q=>q⟩⟩
def upX(EX:AX):AX:=λC c b=>∃ a,Sub a b/\EX C c a
def XA.up{X:Cx}{EX:AX}(h:XA X EX):XA X (upX EX):=by intro aa σ H s a C d r I q R z;refine h aa σ H s a C d r I q R ?_;obtain⟨f,u,g,_,m,c,v,n,j,i,l,b,o⟩:=z;exact⟨f,u,g,l,m,c,v,n,j,i.sub b,o⟩
def Fun.vokX{x b:Str}{st:kU}{f:kM}{J:kW}{N ps:oA Str}{k:Nat}{sp:Sw}(F:Fun K x b st f J)(S:FnScope N ps<|Ai st)
  (de:∀(l:kJ) (A:kR) (outer:oA Env) (s:kK) (H:Hp) (E:XK) (EX:AX),Room k (A.deeper<|envOfC b (Ai st) s.heap.objs.size f l)->XA (J5 (IS P w) P w K mg base N b (Ai st) f l A outer s H E) (upX EX) ->
   ∃t,VSs (J5 (IS P w) P w K mg base N b (Ai st) f l A outer s H E) (A9 st) t/\∀g j R,g.length=ps.length->sp g j R EX->t (aNx R) (PR R) PU PU (Fv N g) j):FnOk P w K mg base (IS P w) (k+1) f J ps (ND K ps.length sp):=by
 obtain⟨oc,od,kV,gh,pm,an,l,ct,n4,rfl,T,Z⟩:=F.ex;refine IN T Z S (λG H Q E h=>?_) λA outer s H G Q E U h=>?_;obtain⟨g,j,R,EX,y,D,_⟩:=h;rw[<- D.length];exact y;obtain⟨g,j,R,EX,y,D,hc,W,hq,O⟩:=h;have o:XA (J5 (IS P w) P w K mg base N b (Ai st) f l A outer s H E) EX:=λaa σ H1 L a C d G I q R h=>FJ aa σ H1 L a C d G I q R<|O _ _ _ h;obtain⟨t,V,h⟩:=de l A outer s H E EX U o.up;refine⟨_,V,Fv N g,j,_,_,_,_,Dp.begin D,hc,h g j R y W,⟨λτ z σ H' B _ c n=>V7 n λY i r=>?_,λv z u H' B c M m=>V7 m λY i r=>?_,λ_ _ _ _ _ _ _ h=>h.elim,λ_ _ _ _ _ _ _ h=>h.elim⟩⟩;exact hq _ _ _ _ B (c.sub i) Oo r;exact hq _ _ _ _ B (c.sub i) M r
end
def cS0(K:kN)(f:Hp)(t:AS):TS:=λD e H=>∃ d a k r b c,Dp K H d e/\Cn K a H/\t k r b c d a/\LE' K f k r b c D
def XY(X:Cx)(st:kU)(t:AS):Prop:=PS X st<|cS0 X.K X.H₀ t
def FU(X:Cx)(st:oA kU)(t:AS):Prop:=PSs X st<|cS0 X.K X.H₀ t
section
variable {X:Cx}{aa:oA<|kM×kT}{σ:St}{H:Hp}{s:kK}{st:kU}{rest:oA kU}{t s1 s2:AS}{a:kQ}{ta:AE}{pos p p2:Pos}{x:Str}
def Inv.kp0(I:Inv X aa σ H s):Kp X.H₀ H:=⟨I.base.tups,I.base.frzs⟩
def VS.z(h:VS X st t):XY X st t:=λaa s σ H D I d=>Hg d λg e k r b c i hc f hq=>h aa s σ H D I ⟨g,e,k,r,b,c,i,hc,f,hq.kp I.kp0⟩
def Fh(h1:XY X st s1)(h2:FU X rest s2):FU X (st::rest) (Zw s1 s2):=(Po h1 h2).imp λD σ H b=>Hg b λg e j nr nb n k hc h hq=>
 ⟨g,e,_,_,_,_,k,hc,h,⟨λd c l o q m i f=>⟨d,c,j,nr,nb,n,m,i,f,hq⟩,hq.rt,hq.bk,hq.ct⟩⟩
def Z6(h1:XY X st s1):FU X [st] s1:=Od h1
def Qag(K:kN)(m i:Nat)(l:kM)(n:AX->AS)(o:AS):AS:=λk r b c j g=>
 n (λC h f=>PySem.W.mroIn K C (.ref l)=some true/\o (λd e=>k (d.set i none) e) r (λd e=>b (d.set i none) e) (λd e=>c (d.set i none) e) ((List.replicate m none).set i<|some<|.X C h) f) k r b c j g
theorem Dp.blank:∀(σ:St),Dp X.K H (List.replicate σ.length none) σ
 |[]=>.nil
 |_::σ=>.cons Fu<|Dp.blank σ
theorem Dp.unset2{K:kN}:∀{b:ASt} {σ:St} (i:Nat),Dp K H b σ->Dp K H (b.set i none) (σ.set i none)
 |_,_,_,.nil=>.nil
 |_,_,0,.cons _ t=>.cons Fu t
 |_,_,i+1,.cons q t=>.cons q<|Dp.unset2 i t
def FV{o g:oA kU}{j:kU}{x n:Str}{p p2 pos:Pos}{i:Nat}{Dc:kM}{tb:AX->AS}{th:AS}(hb:∀G pn EX,XA (X.taking G pn) EX->VSs (X.taking G pn) o (tb EX))(hh:∀e,VSs (X.suite e) (j::g) th)
  (hg:Gl X x) (hm:X.mg x=some (.ref Dc)) (hD:Hb X.K Dc=true) (hB:PySem.W.mroIn X.K Dc (.type "BaseException")=some true) (ap:X.stack=X.env::X.outer) (jm:X.env.frame=some X.env.locals)
  (hN:X.N.Nodup) (Y:X.N[i]?=some n) (hk:X.env.scope.names.lookup n=some .local) (hdb:(x==("__debug__" : Str))=false:=by decide) :
  XY X (.Try o [.ExceptHandler (some<|.Name x p) (some n) (j::g) p2] [] [] pos) (Qag X.K X.N.length i Dc tb th):=by
 intro aa s σ H D I P;refine Hg P λτ μ nk nr nb nc hs hc h hq=>?_;refine wpAny_Try_except ?_;have ok:=I.ok;generalize hxe:(λ(e:kJ) (V:kK)=>qX X.prog X.w X.A (noteFrame e X.env) (λ_ O=>qX X.prog X.w X.A (setFlight e none) (λ_ M=>
  qX X.prog X.w X.A (handleBy e X.env [.ExceptHandler (some<|.Name x p) (some n) (j::g) p2]) (SP X aa D) X.xe M) X.xe O) X.xe V)=G
 have hXA:XA (X.taking G<|X.pn++aa) (λC fs Q=>PySem.W.mroIn X.K C (.ref Dc)=some true/\th (λc f=>nk (c.set i none) f) nr (λc f=>nb (c.set i none) f) (λc f=>nc (c.set i none) f) ((List.replicate X.N.length none).set i<|some<|.X C fs) Q):=by
  rintro ig b l s' a C d vs m hx R ⟨a',C',fs,Q,d',ec,ea,_,hf,ck,T,hth⟩;cases ec;cases ea;show G (.ref a) s';rw[<- hxe];have J0:Inv X aa b l s':=m.untake ok;rename_i hx';have dd:d'=d:=by
   obtain⟨ja,g1,_⟩:=Zh J0.hok hx';have:=R.at_.symm.trans g1;cases this
   rfl
  subst dd;refine Wz (base:=X.base) (outer:=X.outer) (L:=X.env.locals) (by rw[<- ap];exact ok.frames) (by rw[<- ap];exact J0.stack) jm R λh' L=>?_;have J:=J0.left hx (by rw[ap];exact L);obtain⟨ja,R',_⟩:=L.rc;refine wpAny_handleBy_cons (codeAny_handlers_test ?_) (by intro q;cases q);refine Hh (X:=X.suite a) J.suite hg hm ?_ hdb;refine Qe (K:=X.K) J.kIn hD R'.at_ hB T ?_;refine codeAny_handlers_suite_as ?_;refine W0 R' λh2 k2=>?_;have J2:Inv X aa b l {s' with heap:=h2}:=J.kept (t':=s'.toks) k2;obtain⟨H3,J3,rX,c3⟩:=J2.freeze hx hf ck;refine Ks (X:=X.suite a) J3.suite hN Y (.inl hk) (v:=.ref a) (u:=.ref a) rfl (λs4 J4=>?_)<|.inr hk;have aj:X.N.length=b.length:=J3.len.symm;refine a_ (hh a aa s4 _ H3 {nx:=λσ H=>D.nx (σ.set i none) H,rt:=D.rt,bk:=λσ H=>D.bk (σ.set i none) H,ct:=λσ H=>D.ct (σ.set i none) H} J4 ⟨_,_,_,_,_,_,?_,c3,hth,?_⟩) (λfl s5 zy=>?_) λ_ _ z=>z.elim;rw[aj];exact(Dp.blank (X:=X) b).set rX i;have S:=J3.kp0;exact⟨λc f σ1 H1 Z k U h1=>hq.nx _ _ _ _ (S.trans Z) (k.unset2 i) U h1,hq.rt.kp S,λc f σ1 H1 Z k U h1=>hq.bk _ _ _ _ (S.trans Z) (k.unset2 i) U h1,λc f σ1 H1 Z k U h1=>hq.ct _ _ _ _ (S.trans Z) (k.unset2 i) U h1⟩
  ·cases fl with
   |next=>obtain⟨B,E,r,y⟩:=zy;exact Ke (r.unsuite ok) hN Y hk λs7 F=>⟨_,E,F,y⟩
   |brk=>obtain⟨B,E,r,y⟩:=zy;exact Ke (r.unsuite ok) hN Y hk λs7 F=>⟨_,E,F,y⟩
   |cont=>obtain⟨B,E,r,y⟩:=zy;exact Ke (r.unsuite ok) hN Y hk λs7 F=>⟨_,E,F,y⟩
   |ret u=>obtain⟨v,B,E,r,rv,y⟩:=zy;exact Ke (r.unsuite ok) hN Y hk λs7 F=>⟨v,_,E,F,rv,y⟩
 refine a_ (hb G (X.pn++aa) _ hXA [] s σ H D I.take ⟨τ,μ,_,_,_,_,hs,hc,h,hq.kp I.kp0⟩) (λfl s1 hf=>?_) λe s1 he=>?_
 ·cases fl with
  |next=>obtain⟨b,l,m,q⟩:=hf;exact jB ⟨b,l,m.untake ok,q⟩
  |brk=>obtain⟨b,l,m,q⟩:=hf;exact⟨b,l,m.untake ok,q⟩
  |cont=>obtain⟨b,l,m,q⟩:=hf;exact⟨b,l,m.untake ok,q⟩
  |ret u=>obtain⟨v,b,l,m,rv,q⟩:=hf;exact⟨v,b,l,m.untake ok,rv,q⟩
 exact he
def Fun.vok0{P:kO}{w:kP}{K:kN}{mg:Str->oB kJ}{base:kS}{x b:Str}{st:kU}{f:kM}{y:kW}{N ps:oA Str}{k:Nat}{sp:ASp}(F:Fun K x b st f y)(S:FnScope N ps<|Ai st) (G:∀(l:kJ) (A:kR) (outer:oA Env) (s:kK) (H:Hp) (E:XK),Room k (A.deeper<|envOfC b (Ai st) s.heap.objs.size f l) ->
   ∃t,FU (J5 Ez P w K mg base N b (Ai st) f l A outer s H E).nox (A9 st) t/\∀d g R,d.length=ps.length->sp d g R->t (aNx R) (PR R) PU PU (Fv N d) g):FnOk P w K mg base Ez (k+1) f y ps (G6 K ps.length sp):=by
 refine F.ok S (λL H Q E h=>?_) λl A outer s H L Q E C h=>?_;obtain⟨d,g,R,m,q,_⟩:=h;rw[<- q.length];exact m;obtain⟨d,g,R,m,q,hc,I,hq⟩:=h;obtain⟨t,D,h⟩:=G l A outer s H E C;refine⟨_,D,Fv N d,g,_,_,_,_,Dp.begin q,hc,h d g R m I,⟨λM n σ z o _ c i=>V7 i λJ e r=>?_,λv n u z o c B j=>V7 j λJ e r=>?_,λ_ _ _ _ _ _ _ h=>h.elim,λ_ _ _ _ _ _ _ h=>h.elim⟩⟩;exact hq _ _ _ _ o (c.sub e) Oo r;exact hq _ _ _ _ o (c.sub e) B r
def Z7(K:kN)(c:kJ)(te:AE):AE:=λf e R=>te f e λx d=>match x with
 |.X C _=>XIs K C/\opt (PySem.W.kitOne K (.ref C) c) λb=>R (.D<|.bool b) d
 |_=>False
def Uv{c:kJ}{n:ASt}{σ:St}{H:Hp}{l:M}{R:AV->M->Prop}{Q:VK}{s:kK}{aa:oA<|kM×kT}{W:kJ->kK->Prop}(he:VE X a ta)(I:Inv X aa σ H s)(hs:Dp X.K H n σ)(hc:Cn X.K l H)(h:Z7 X.K c ta n l R)(hq:LV X.K H R Q)
  (k:∀e C i g s1 b,Inv X aa σ g s1->RelA X.K g (.X C i) (.ref e)->XIs X.K C->PySem.W.kitOne X.K (.ref C) c=some b->Q (.bl b) g->W (.ref e) s1):qX X.prog X.w X.A (eval a X.env) W X.xe s:=by
 refine thn (he aa s σ H (λv g=>∃C i f b,Kp H g/\Cn X.K f g/\RelA X.K g (.X C i) v/\XIs X.K C/\PySem.W.kitOne X.K (.ref C) c=some b/\R (.D<|.bool b) f) I ⟨n,l,_,hs,hc,h,λx f v g r m j hx=>?_⟩) λu s1 E=>?_;split at hx;obtain⟨y,hx⟩:=hx;obtain⟨b,z,hx⟩:=Bf hx;exact⟨_,_,f,b,r,m,j,y,z,hx⟩;exact hx.elim;obtain⟨v,g,F,G,C,i,f,b,r,m,j,y,z,J⟩:=E;obtain⟨e,o,d,B,q⟩:=id j;subst B;obtain rfl:u=Value.ref e:=G;exact k e C i g s1 b F j y z<|hq _ _ _ _ r m Cv J
def FW{D:kM}(i:Gl X "isinstance") (hm:X.mg "isinstance" = none) (m:Gl X x) (j:X.mg x=some (.ref D)) (he:VE X a ta) (g:(x==("__debug__" : Str))=false:=by decide)
  (hs:starEach [a,.Name x p2] X.env=(false,eval a X.env)::starEach [.Name x p2] X.env:=by rfl) (hs2:starEach [.Name x p2] X.env=[(false,eval (.Name x p2) X.env)]:=by rfl) (hpl:(backTo pos<|starEach [.Name x p2] X.env).any (·.1)=false:=by rfl) :
  VE X (.Call (.Name "isinstance" p) [a,.Name x p2] [] pos) (Z7 X.K (.ref D) ta):=by
 intro aa s σ H Q I c;refine B7 c λB v R k hc h hq=>?_;refine aP<|Ce I i hm jD ?_;refine bP ?_ hs hpl;rw[hs];refine aK<|Uv he I k hc h hq λe C A n s1 b d o r u q=>?_;rw[hs2];refine aK<|Hh d m j (bA ?_) g;obtain⟨l,f,J,_⟩:=xinst d o;exact wtk d.tk<|cB (K3 r) d.kIn ⟨l,f,J⟩ u (λz=>nomatch z) λy w=>⟨.bl b,n,d.tok _,rfl,q⟩
def Z8{T:String}(k:Gl X "isinstance") (hm:X.mg "isinstance" = none) (o:Gl X x) (l:X.mg x=none) (g:bootBuiltins x=some (.type T)) (he:VE X a ta) (i:x ≠ "__name__" := by decide) (j:(x==("__debug__" : Str))=false:=by decide)
  (hs:starEach [a,.Name x p2] X.env=(false,eval a X.env)::starEach [.Name x p2] X.env:=by rfl) (hs2:starEach [.Name x p2] X.env=[(false,eval (.Name x p2) X.env)]:=by rfl) (hpl:(backTo pos<|starEach [.Name x p2] X.env).any (·.1)=false:=by rfl) :
  VE X (.Call (.Name "isinstance" p) [a,.Name x p2] [] pos) (Z7 X.K (.type T) ta):=by
 intro aa s σ H Q I d;refine B7 d λE y R m hc h hq=>?_;refine aP<|Ce I k hm jD ?_;refine bP ?_ hs hpl;rw[hs];refine aK<|Uv he I m hc h hq λe C D r s1 b c u v w q=>?_;rw[hs2];refine aK<|Ce c o l g (bA ?_) i j;obtain⟨n,f,J,_⟩:=xinst c u;exact wtk c.tk<|cB (K3 v) c.kIn ⟨n,f,J⟩ w (λz=>nomatch z) λB A=>⟨.bl b,r,c.tok _,rfl,q⟩
def IW(K:kN)(f:Str)(te:AE):AE:=λe c R=>te e c λx b=>match x with
 |.X C g=>XCls K C/\Ik K C f/\opt (g.lookup f) λd=>R (.D d) b
 |_=>False
def FX{f:Str}(he:VE X a ta)(hb:attributeBase a f X.env (eval a X.env)=eval a X.env):VE X (.Attribute a f pos) (IW X.K f ta):=by intro aa s σ H Q I g;refine B7 g λM w R G hc h hq=>?_;refine EO hb<|thn (he aa s σ H (λv c=>∃C m b d,Kp H c/\Cn X.K b c/\RelA X.K c (.X C m) v/\XCls X.K C/\Ik X.K C f/\m.lookup f=some d/\R (.D d) b) I ⟨M,w,_,G,hc,h,λx b v c n l j hx=>?_⟩) λu s1 A=>?_;split at hx;obtain⟨P,L,T⟩:=hx;obtain⟨d,e,z⟩:=Bf T;exact⟨_,_,b,d,n,l,j,P,L,e,z⟩;exact hx.elim;obtain⟨v,c,k,N,C,m,b,d,n,l,j,i,O,F,S⟩:=A;obtain⟨e,o,V,y,q⟩:=id j;subst y;obtain rfl:u=Value.ref e:=N;obtain⟨Z,U,J,E⟩:=xinst k j;obtain⟨Y,u,v,rfl,B,r,dk⟩:=E f d F;exact Sj k.kIn J i.mb i.ga i.gn (PySem.W.findObj_own i.hd O rfl B) (Wi r) ⟨v,c,k.tok _,r,hq _ _ _ _ n l (Qf dk) S⟩
def TL(b:oA kM):TA:=λ_ H Q=>Q (b.map V.ref) H
def NF:PA X [] (TL []):=Yq
def Le{D:kM}{b:oA kM}{es:oA kQ}(c:Gl X x)(hm:X.mg x=some (.ref D))(h:PA X es<|TL b)(hd:(x==("__debug__" : Str))=false:=by decide) (hs:starEach (.Name x p::es) X.env=(false,eval (.Name x p) X.env)::starEach es X.env:=by rfl):PA X (.Name x p::es) (TL<|D::b) :=
 T7 (T5 (v:=.ref D) c hm rfl hd) h hs
def IX(K:kN)(e:oA kM)(te:AE):AE:=λf d R=>te f d λx c=>match x with
 |.X C _=>XIs K C/\opt (PySem.W.kitAny K (.ref C)<|e.map Value.ref) λb=>R (.D<|.bool b) c
 |_=>False
theorem Nj:∀{b:oA kM} {d:oA kJ},Vals (b.map V.ref) d->d=b.map Value.ref
 |[],_,h=>by cases h;rfl
 |c::b,_,h=>by
  rw[bF]at h;cases h with
  |cons r t=>rw[Nj t];cases r;rfl
def W6{es:oA kQ}{g:oA kM}{k:Nat}(P:Gl X "isinstance") (hm:X.mg "isinstance" = none) (hT:PA X es<|TL g) (he:VE X a ta) (hl:g.length<=sizeLine:=by decide)
  (hs:starEach [a,.Tuple es k p2] X.env=(false,eval a X.env)::starEach [.Tuple es k p2] X.env:=by rfl) (hs2:starEach [.Tuple es k p2] X.env=[(false,eval (.Tuple es k p2) X.env)]:=by rfl) (hpl:(backTo pos<|starEach [.Tuple es k p2] X.env).any (·.1)=false:=by rfl) :
  VE X (.Call (.Name "isinstance" p) [a,.Tuple es k p2] [] pos) (IX X.K g ta):=by
 intro aa s σ H Q I l;refine B7 l λτ μ R Y hc h hq=>?_;refine aP<|Ce I P hm jD ?_;refine bP ?_ hs hpl;rw[hs];refine aK<|thn (he aa s σ H (λv f=>∃C M c b,Kp H f/\Cn X.K c f/\RelA X.K f (.X C M) v/\XIs X.K C/\PySem.W.kitAny X.K (.ref C) (g.map Value.ref)=some b/\R (.D<|.bool b) c) I ⟨τ,μ,_,Y,hc,h,λx c v f w r m hx=>?_⟩) λu s1 O=>?_;split at hx;obtain⟨A,hx⟩:=hx;obtain⟨b,B,hx⟩:=Bf hx;exact⟨_,_,c,b,w,r,m,A,B,hx⟩;exact hx.elim;obtain⟨v,f,U,Z,C,M,c,b,w,r,m,A,B,q1⟩:=O;obtain⟨e,o,d,y,q⟩:=id m;subst y;obtain rfl:u=Value.ref e:=Z;rw[hs2];refine aK (thn (Yr (pos:=p2) (x1:=k) hT aa s1 σ f (λv L=>∃p,v=.ref p/\f p=none/\L=upd f p (.tup<|g.map V.ref)) U ⟨by rw[B_];exact hl,λp hp=>⟨p,rfl,hp,rfl⟩⟩) λu s2 vp=>bA ?_);obtain⟨v,L,i,T,p,y,hp,eH⟩:=vp;subst y eH;obtain rfl:u=Value.ref p:=T;obtain⟨ag,S,⟨⟨cl,dd,da,sl⟩,F,E,n,j⟩,_⟩:=i.tuple<|Ii.of<|Bo (H:=f) (a:=p) (o:=.tup<|g.map V.ref);dsimp only at E j;subst E j;rw[Nj S]at F;have G:Kp f (upd f p<|.tup<|g.map V.ref):=Kp.new hp _;obtain⟨ox,N,J,_⟩:=xinst i<|m.kp G;exact wtk i.tk<|PySem.W.kia_tup (K3 A) i.kIn ⟨ox,N,J⟩ F B (λz=>nomatch z) λtk bf=>⟨.bl b,_,i.tok _,rfl,hq _ _ _ _ (w.trans G) (r.over hp) Cv q1⟩
end
end L2
namespace L2
open PySem PySem.Spec PyProof.Rows
def Fi:Nat->oA kL->oA AV
 |_,[]=>[]
 |i,d::a=>.D (.tuple [.int i,d])::Fi (i+1) a
theorem Cm:∀(ds:oA kL) (k:Nat),(Fi k ds).length=ds.length
 |[],_=>rfl
 |_::ds,k=>by rw[Fi,aM,Cm ds,aM]
theorem Fj:∀{ds:oA kL} {k i:Nat} {x:AV},(Fi k ds)[i]?=some x->∃d,ds[i]?=some d/\x=.D (.tuple [.int ((k+i:Nat):Int),d])
 |[],_,_,_,h=>by simp[Fi]at h
 |d::ds,k,0,_,h=>by simp[Fi]at h;exact⟨d,rfl,by rw[<- h];simp⟩
 |_::ds,k,i+1,_,h=>by
  rw[Fi,fA]at h;obtain⟨d,e,q⟩:=Fj h;refine⟨d,by simpa using e,?_⟩;rw[q];have a:k+1+i=k+(i+1):=by omega
  rw[a]
def Sx{K:kN}{j:Hp}{a:kM}{ys:oA AV}{ds:oA kL}{m:M->Prop}(hd:dats ys=some ds)(h:∀H f,Kp j H->Cn K f H->m f->∃b,Ii K H a b/\Ba K H ys b):ItOk K j (Ien K a) (Fi 0 ds) m:=by
 have o:ds.length=ys.length:=by rw[Gu hd,B_]
 refine⟨λi H f S c k n=>?_,λi H f v t x S c k e y=>?_,λH f S c k=>?_⟩;obtain⟨b,q,r⟩:=h H f S c k;rw[Cm,o]at n;exact⟨b,b[i]'(by rw[<- r.length];exact n),q,D_ _⟩;obtain⟨b,q,r⟩:=h H f S c k;obtain⟨T,z,g,rfl,rfl,y⟩:=y;obtain⟨d,p,rfl⟩:=Fj e;obtain⟨u,l,s⟩:=(r.dats hd).get p;rw[y b q]at l;cases l;refine⟨Kp.new g _,c.over g,K4 Bo ?_⟩;rw[Nat.zero_add];exact Ct Ef<|Ct (Dk.kp (Kp.new g _) _ _ s) D8;obtain⟨b,q,r⟩:=h H f S c k;exact⟨b,q,by rw[Cm,o,r.length]⟩
def Sy{K:kN}{j:Hp}{a:kM}{ys:oA AV}{ds:oA kL}{m:M->Prop}(hd:dats ys=some ds)(h:∀H f,Kp j H->Cn K f H->m f->∃b,Fa K H a b/\Ba K H ys b):ItOk K j (Iel K a) (Fi 0 ds) m:=by
 have o:ds.length=ys.length:=by rw[Gu hd,B_]
 refine⟨λi H f S c k n=>?_,λi H f v t x S c k e y=>?_,λH f S c k=>?_⟩;obtain⟨b,q,r⟩:=h H f S c k;rw[Cm,o]at n;exact⟨b,b[i]'(by rw[<- r.length];exact n),q,D_ _⟩;obtain⟨b,q,r⟩:=h H f S c k;obtain⟨T,z,g,rfl,rfl,y⟩:=y;obtain⟨d,p,rfl⟩:=Fj e;obtain⟨u,l,s⟩:=(r.dats hd).get p;rw[y b q]at l;cases l;refine⟨Kp.new g _,c.over g,K4 Bo ?_⟩;rw[Nat.zero_add];exact Ct Ef<|Ct (Dk.kp (Kp.new g _) _ _ s) D8;obtain⟨b,q,r⟩:=h H f S c k;exact⟨b,q,by rw[Cm,o,r.length]⟩
def TM(t:AE):AI:=λd b R=>t d b λx a=>opt (items a x) λc=>opt (dats c) λe=>R (Fi 0 e) (λb=>items b x=some c) a
section
variable {X:Cx}{a:kQ}{ta:AE}{pos p:Pos}{K:kN}{p2:Pos}{x:Str}
def Uw{Y:oA kQ}{k:Nat}{P:Pos}(M:Gl X "enumerate") (hm:X.mg "enumerate" = none) (hl:VE X a ta) (hs:starEach [a] X.env=[(false,eval a X.env)]:=by rfl):VI X (.Tuple Y k P) (.Call (.Name "enumerate" p) [a] [] pos) (TM ta):=by
 intro F s L H R I t;refine B7 t λT m W O hc h hq=>?_;refine aP<|Ce I M hm boot_enumerate ?_;refine aZ ?_ hs rfl;rw[hs];refine aK<|thn (hl F s L H (λv g=>∃x d l n,Kp H g/\Cn X.K d g/\RelA X.K g x v/\items d x=some l/\dats l=some n/\W (Fi 0 n) (λm=>items m x=some l) d) I ⟨T,m,_,O,hc,h,λx d v g z o w hx=>?_⟩) λu f J=>bA ?_;obtain⟨l,e,hx⟩:=Bf hx;obtain⟨n,y,hx⟩:=Bf hx;exact⟨x,d,l,n,z,o,w,e,y,hx⟩;obtain⟨Z,g,j,V,x,d,l,n,z,o,w,e,y,hx⟩:=J;obtain⟨p,vs,rfl,hp,rs⟩:=Bt o w e;cases V;have fin:∀b∈[f.heap.objs.size+1,f.heap.objs.size],F0 X F g b:=λb hb=>by
  have G:f.heap.objs.size<=b:=by
   rcases Z_.mp hb with rfl|hb;exact fP _;have e:b=f.heap.objs.size:=by simpa using hb
   exact jJ e.symm
  exact j.fpOk G<|j.hok.fresh G
 rcases hp with⟨k,hp⟩|⟨k,hp⟩;obtain⟨U,N,A,hz⟩:=j.list hp;refine call_enumerate_list A.isList λQ he D B C=>?_;refine hV he ?_;refine⟨f.heap.objs.size+1,[f.heap.objs.size+1,f.heap.objs.size],_,_,g,rfl,j.kept (t':=f.toks) C,Si p _ _<|iP _,⟨⟨_,he⟩,D⟩,fin,hq _ _ _ _ _ z o (Sy y λH m S c E=>?_) hx⟩;obtain⟨q,ws,e,i,rw⟩:=Bt c (w.kp S) E;cases e;rcases i with⟨_,i⟩|⟨r,_⟩;exact⟨ws,i,rw⟩;rw[k]at r;cases r;obtain⟨U,N,A,hz⟩:=j.tuple hp;refine Ha A λQ he D B C=>?_;refine hV he ?_;refine⟨f.heap.objs.size+1,[f.heap.objs.size+1,f.heap.objs.size],_,_,g,rfl,j.kept (t':=f.toks) C,Wt p _ _<|iP _,⟨⟨_,he⟩,D⟩,fin,hq _ _ _ _ _ z o (Sx y λH m S c E=>?_) hx⟩;obtain⟨q,ws,e,i,rw⟩:=Bt c (w.kp S) E;cases e;rcases i with⟨r,_⟩|⟨_,i⟩;rw[k]at r;cases r;exact⟨ws,i,rw⟩
def Gv{κ:Type} [DecidableEq κ]{k:κ}{v:AV}{r:oA<|κ×AV}:C2 ((k,v)::r) k=some v:=by unfold C2;simp only[List.find?_cons,decide_eq_true (rfl:k=k)];rfl
def Fx{κ:Type} [DecidableEq κ]{k b:κ}{v:AV}{r:oA<|κ×AV}(h:b≠k):C2 ((b,v)::r) k=C2 r k:=by unfold C2;simp only[List.find?_cons,decide_eq_false h]
def Z9{c:Type}(g:c->Bool)(xs:oA c):bools (xs.map λx=>.D<|.bool<|g x)=some (xs.map g):=by rw[show(xs.map λx=>AV.D<|.bool<|g x)=(xs.map g).map λb=>.D (.bool b) by rw[aJ];rfl];exact Ng _
def W7{c:M}{p:kM}{m:MO}(h:c p=some m):Am c p m=c:=by
 funext b
 unfold Am;split;rename_i e;rw[e,h]
 rfl
def cmapf{q:Type}{p:kM}{g:AG}{tst:AT}{te:AE}{z:M->Prop}{R:M->Prop}{t:ASt}{n:M}(h:oA q)(w:q->AV)(b:q->Bool)(f:q->AV)(r:ASt->Prop)(C:r t)(hp:n p=some (.lst []))(E:h.length<=sizeLine)(hk:∀j,z<|Am n p<|.lst j)
  (step:∀(i:Nat) (x:q) (d:ASt) (j:oA AV) (W:ASt->AV->M->Prop) (B:ASt->M->Prop),h[i]?=some x->r d->(b x=true->∀ c,r c->W c (f x) (Am n p<|.lst j))->(b x=false->∀ c,r c->B c (Am n p<|.lst j)) ->
   g (w x) d (Am n p<|.lst j) λc u=>tst c u λk l=>brP k (te c l<|W c)<|B c l)
  (done:R<|Am n p<|.lst<|(h.filter b).map f):cl p g tst te z R (h.map w) [] t n:=by
 refine E8 (λi j d m=>r d/\j=((h.take i).filter b).map f/\m=Am n p (.lst j)) ⟨C,by simp,(W7 hp).symm⟩ (by rintro i j t m ⟨_,_,e⟩;rw[e];exact hk _) ?_ ?_;rintro i y j d m W hy ⟨D,rfl,rfl⟩ hW;rw[F_]at hy;obtain⟨x,hx,rfl⟩:=W_.mp hy;have F:i<h.length:=(E_.mp hx).1;have A:h.take (i+1)=h.take i++[x]:=by rw[cW,hx];rfl
 refine step i x d _ (λc v o=>o p=some (.lst<|((h.take i).filter b).map f)/\(((h.take i).filter b).map f).length<sizeLine/\W ((((h.take i).filter b).map f)++[v]) c (Am o p<|.lst<|(((h.take i).filter b).map f)++[v])) (λc l=>W (((h.take i).filter b).map f) c l) hx D (λhb c s=>⟨Ac,?_,hW _ _ _ ⟨s,?_,C0⟩⟩) λhb c s=>hW _ _ _ ⟨s,?_,rfl⟩;rw[B_];have h1:=List.length_filter_le b<|h.take i;rw[aD]at h1;omega;rw[A,List.filter_append,P_,List.filter_cons,R_ hb];rfl;rw[A,List.filter_append,P_,List.filter_cons,N_<|by rw[hb];exact X_];simp;rintro j d m ⟨_,rfl,rfl⟩;rw[B_,cU];exact done
def cmap{k:Type}{p:kM}{g:AG}{te:AE}{o:M->Prop}{R:M->Prop}{n:ASt}{d:M}(h:oA k)(l f:k->AV)(j:ASt->Prop)(q:j n)(hp:d p=some (.lst []))(r:h.length<=sizeLine)(hk:∀e,o<|Am d p<|.lst e)
  (step:∀(i:Nat) (x:k) (c:ASt) (e:oA AV) (W:ASt->AV->M->Prop),h[i]?=some x->j c->(∀ b,j b->W b (f x) (Am d p<|.lst e))->g (l x) c (Am d p<|.lst e) λb m=>te b m<|W b)
  (done:R<|Am d p<|.lst<|h.map f):cl p g MZ te o R (h.map l) [] n d:=by
 refine cmapf h l (λ_=>true) f j q hp r hk (λi x c e W t hx s h1 _=>?_) (by rw[List.filter_eq_self.mpr λ_ _=>rfl];exact done);have:=step i x c e W hx s<|h1 rfl;simp only[MZ,Zk];exact this
def AB{d:Type}{g:d->Bool}{c:oA d}{b:M}{p:kM}{R:AV->M->Prop}(h:b p=some (.lst<|c.map λx=>.D<|.bool<|g x))(q:R (.D<|.bool<|c.all g) b):MT [.R p] b R:=by refine Ab h<|Ab (Z9 g c) ?_;rw[List.all_map];exact q
def NG{K:kN}:Kits K "tuple" := by intro S b;simp only[List.mem_cons,List.not_mem_nil,or_false]at b;rcases b with rfl|rfl|rfl|rfl|rfl|rfl|rfl<;>rfl
def Nk{K:kN}:Kits K "bool" := by intro S b;simp only[List.mem_cons,List.not_mem_nil,or_false]at b;rcases b with rfl|rfl|rfl|rfl|rfl|rfl|rfl<;>rfl
def AD(K:kN)(C:kM):Bool :=
 PySem.W.findIn K (.ref C) "__getattribute__" == some (some<|.builtin "BaseException.__getattribute__")&&PySem.W.findIn K (.ref C) "__getattr__" == some none&&PySem.W.findIn K (.ref C) "__setattr__" == some (some<|.builtin "object.__setattr__")&&PySem.W.hasDictIn K C &&
 PySem.W.mroIn K C (.type "BaseException")==some true&&PySem.W.mroIn K C (.type "object")==some true&&Sl K C&&PySem.W.findIn K (.ref C) "__class__" == some (some<|.builtin "object.__class__") &&
 PySem.W.specialIn K (.builtin "object.__class__") "__get__" == some (some<|.builtin "getset_descriptor.__get__")&&PySem.W.takesIn K (.builtin "object.__class__")==some true&&Hb K C&&PySem.W.keepIn K (.ref C)
def NH{K:kN}{C:kM}(h:AD K C=true):XIs K C/\Hb K C=true/\PySem.W.keepIn K (.ref C)=true:=by unfold AD at h;simp only[Bool.and_eq_true,beq_iff_eq]at h;obtain⟨⟨⟨⟨⟨⟨⟨⟨⟨⟨⟨h1,h2⟩,k⟩,f⟩,i⟩,j⟩,e⟩,g⟩,l⟩,b⟩,d⟩,c⟩:=h;exact⟨⟨⟨h1,h2,k,f,i,j,e⟩,g,l,b⟩,d,c⟩
def AF(K:kN)(C D:kM)(b:oA kM):Bool :=
 AD K C&&PySem.W.mroIn K C (.ref D)==some true&&PySem.W.kitOne K (.ref C) (.ref D)==some true&&PySem.W.kitOne K (.ref C) (.type "ValueError")==some true&&PySem.W.kitAny K (.ref C) (b.map Value.ref)==some false&&Hb K D&&PySem.W.mroIn K D (.type "BaseException")==some true&&PySem.W.mroIn K C (.ref C)==some true
structure Err(K:kN)(C D:kM)(cs:oA kM):Prop where
 xi:XIs K C
 xc:Hb K C=true
 kp:PySem.W.keepIn K (.ref C)=true
 un:PySem.W.mroIn K C (.ref D)=some true
 iD:PySem.W.kitOne K (.ref C) (.ref D)=some true
 iV:PySem.W.kitOne K (.ref C) (.type "ValueError")=some true
 no:PySem.W.kitAny K (.ref C) (cs.map Value.ref)=some false
 xD:Hb K D=true
 mD:PySem.W.mroIn K D (.type "BaseException")=some true
 me:PySem.W.mroIn K C (.ref C)=some true
def NI{K:kN}{C D:kM}{d:oA kM}(h:AF K C D d=true):Err K C D d:=by unfold AF at h;simp only[Bool.and_eq_true,beq_iff_eq]at h;obtain⟨⟨⟨⟨⟨⟨⟨h1,h2⟩,k⟩,f⟩,i⟩,j⟩,e⟩,g⟩:=h;obtain⟨a,b,c⟩:=NH h1;exact⟨a,b,c,h2,k,f,i,j,e,g⟩
def Err.self{K:kN}{C D:kM}{b:oA kM}(_:Err K C D b):PySem.W.kitOne K (.ref C) (.ref C)=some true:=by unfold PySem.W.kitOne;rw[R_<|kD.mpr rfl]
def cdef:kU->kU
 |.ClassDef _ _ _ (b::_) _ _ _ _ _ _ _=>b
 |s=>s
def FY{D:kM}(d:X.K=K)(c:Gl X "isinstance") (hm:X.mg "isinstance" = none) (e:Gl X x) (f:X.mg x=some (.ref D)) (he:VE X a ta) (b:(x==("__debug__" : Str))=false:=by decide)
  (hs:starEach [a,.Name x p2] X.env=(false,eval a X.env)::starEach [.Name x p2] X.env:=by rfl) (hs2:starEach [.Name x p2] X.env=[(false,eval (.Name x p2) X.env)]:=by rfl) (hpl:(backTo pos<|starEach [.Name x p2] X.env).any (·.1)=false:=by rfl) :
  VE X (.Call (.Name "isinstance" p) [a,.Name x p2] [] pos) (Z7 K (.ref D) ta):=by subst d;exact FW c hm e f he b hs hs2 hpl
def AH{T:String}(d:X.K=K)(c:Gl X "isinstance") (hm:X.mg "isinstance" = none) (e:Gl X x) (g:X.mg x=none) (f:bootBuiltins x=some (.type T)) (he:VE X a ta) (h:x ≠ "__name__" := by decide) (b:(x==("__debug__" : Str))=false:=by decide)
  (hs:starEach [a,.Name x p2] X.env=(false,eval a X.env)::starEach [.Name x p2] X.env:=by rfl) (hs2:starEach [.Name x p2] X.env=[(false,eval (.Name x p2) X.env)]:=by rfl) (hpl:(backTo pos<|starEach [.Name x p2] X.env).any (·.1)=false:=by rfl) :
  VE X (.Call (.Name "isinstance" p) [a,.Name x p2] [] pos) (Z7 K (.type T) ta):=by subst d;exact Z8 c hm e g f he h b hs hs2 hpl
def Ux{f:Str}(b:X.K=K)(he:VE X a ta)(hb:attributeBase a f X.env (eval a X.env)=eval a X.env):VE X (.Attribute a f pos) (IW K f ta):=by subst b;exact FX he hb
def W8{es:oA kQ}{b:oA kM}{k:Nat}(e:X.K=K)(c:Gl X "isinstance") (hm:X.mg "isinstance" = none) (d:PA X es<|TL b) (he:VE X a ta) (hl:b.length<=sizeLine:=by decide)
  (hs:starEach [a,.Tuple es k p2] X.env=(false,eval a X.env)::starEach [.Tuple es k p2] X.env:=by rfl) (hs2:starEach [.Tuple es k p2] X.env=[(false,eval (.Tuple es k p2) X.env)]:=by rfl) (hpl:(backTo pos<|starEach [.Tuple es k p2] X.env).any (·.1)=false:=by rfl) :
  VE X (.Call (.Name "isinstance" p) [a,.Tuple es k p2] [] pos) (IX K b ta):=by subst e;exact W6 c hm d he hl hs hs2 hpl
end
def rk:kL->Nat
 |.none=>0|.bool _=>1|.int _=>2|.str _=>3|.list _=>4|.tuple _=>5|.dict _=>6
def Ho(a b:Str):Bool:=decide (a.cps.toList<b.cps.toList)
mutual
def Fk:kL->kL->Bool
 |.int a,.int b=>decide (a<b)
 |.str a,.str b=>Ho a b
 |.tuple d,.tuple c=>C4 d c
 |x,y=>decide (rk x<rk y)
def C4:oA kL->oA kL->Bool
 |[],[]=>false
 |[],_::_=>true
 |_::_,[]=>false
 |x::a,y::b=>if PyData.eqv x y then C4 a b else Fk x y
end
mutual
theorem Iu:∀(x y:kL),Cano x=true->Cano y=true->PyData.eqv x y=true->x=y
 |.int a,.int b,_,_,h=>by simp[PyData.eqv]at h;rw[h]
 |.str a,.str b,_,_,h=>by simp[PyData.eqv]at h;rw[h]
 |.tuple d,.tuple c,h1,h2,h=>by simp only[Cano]at h1 h2;rw[PyData.eqv]at h;rw[Uy d c h1 h2 h]
 |.int _,.str _,_,_,h=>by simp[PyData.eqv]at h
 |.int _,.tuple _,_,_,h=>by simp[PyData.eqv]at h
 |.str _,.int _,_,_,h=>by simp[PyData.eqv]at h
 |.str _,.tuple _,_,_,h=>by simp[PyData.eqv]at h
 |.tuple _,.int _,_,_,h=>by simp[PyData.eqv]at h
 |.tuple _,.str _,_,_,h=>by simp[PyData.eqv]at h
 |.none,_,h,_,_=>by simp[Cano]at h
 |.bool _,_,h,_,_=>by simp[Cano]at h
 |.list _,_,h,_,_=>by simp[Cano]at h
 |.dict _,_,h,_,_=>by simp[Cano]at h
 |.int _,.none,_,h,_=>by simp[Cano]at h
 |.int _,.bool _,_,h,_=>by simp[Cano]at h
 |.int _,.list _,_,h,_=>by simp[Cano]at h
 |.int _,.dict _,_,h,_=>by simp[Cano]at h
 |.str _,.none,_,h,_=>by simp[Cano]at h
 |.str _,.bool _,_,h,_=>by simp[Cano]at h
 |.str _,.list _,_,h,_=>by simp[Cano]at h
 |.str _,.dict _,_,h,_=>by simp[Cano]at h
 |.tuple _,.none,_,h,_=>by simp[Cano]at h
 |.tuple _,.bool _,_,h,_=>by simp[Cano]at h
 |.tuple _,.list _,_,h,_=>by simp[Cano]at h
 |.tuple _,.dict _,_,h,_=>by simp[Cano]at h
theorem Uy:∀(xs ys:oA kL),Av xs=true->Av ys=true->PyData.eqvAll xs ys=true->xs=ys
 |[],[],_,_,_=>rfl
 |[],_::_,_,_,h=>by simp[PyData.eqvAll]at h
 |_::_,[],_,_,h=>by simp[PyData.eqvAll]at h
 |x::xs,y::ys,h1,h2,h=>by simp only[Av,Bool.and_eq_true]at h1 h2;rw[PyData.eqvAll,bL]at h;rw[Iu x y h1.1 h2.1 h.1,Uy xs ys h1.2 h2.2 h.2]
end
mutual
theorem Hq:∀(x:kL),Cano x=true->PyData.eqv x x=true
 |.int a,_=>by simp[PyData.eqv]
 |.str a,_=>by simp[PyData.eqv]
 |.tuple b,h=>by rw[PyData.eqv];exact Nl b (by simpa only[Cano] using h)
 |.none,h=>by simp[Cano]at h
 |.bool _,h=>by simp[Cano]at h
 |.list _,h=>by simp[Cano]at h
 |.dict _,h=>by simp[Cano]at h
theorem Nl:∀(xs:oA kL),Av xs=true->PyData.eqvAll xs xs=true
 |[],_=>rfl
 |x::xs,h=>by simp only[Av,Bool.and_eq_true]at h;rw[PyData.eqvAll,Hq x h.1,Nl xs h.2];rfl
end
def Sz{x y:kL}(hx:Cano x=true)(hy:Cano y=true):PyData.eqv x y=false↔x≠y:=by
 constructor;rintro h rfl;rw[Hq x hx]at h;cases h
 ·intro h;cases e:PyData.eqv x y with
  |false=>rfl
  |true=>exact absurd (Iu x y hx hy e) h
def cano_cases{x:kL}(h:Cano x=true):(∃i,x=.int i)\/(∃z,x=.str z)\/∃a,x=.tuple a/\Av a=true:=by
 cases x with
 |int i=>exact .inl ⟨i,rfl⟩
 |str z=>exact .inr (.inl ⟨z,rfl⟩)
 |tuple a=>exact .inr (.inr ⟨a,rfl,by simpa only[Cano] using h⟩)
 |none=>simp[Cano]at h
 |bool _=>simp[Cano]at h
 |list _=>simp[Cano]at h
 |dict _=>simp[Cano]at h
def AJ{a b c:Str}(h1:Ho a b=true)(h2:Ho b c=true):Ho a c=true:=by unfold Ho at *;exact aN<|List.lt_trans (aS h1)<|aS h2
def FZ{a b:Str}(h:a.cps.toList=b.cps.toList):a=b:=by cases a;cases b;simp only[Array.toList_inj]at h;rw[h]
def W9{a b:Str}(h:a≠b)(h1:Ho a b=false):Ho b a=true:=by unfold Ho at *;have h1:=fD h1;refine aN ?_;rcases Decidable.em (b.cps.toList<a.cps.toList) with z|z;exact z;exact absurd (FZ<|List.le_antisymm (List.not_lt.mp z)<|List.not_lt.mp h1) h
mutual
theorem AK:∀(x y z:kL),Cano x=true->Cano y=true->Cano z=true->Fk x y=true->Fk y z=true->Fk x z=true
 |.int a,y,z,_,hy,hz,h1,h2=>by rcases cano_cases hy with⟨b,rfl⟩|⟨b,rfl⟩|⟨e,rfl,_⟩<;>rcases cano_cases hz with⟨c,rfl⟩|⟨c,rfl⟩|⟨d,rfl,_⟩<;>simp[Fk,rk]at h1 h2 ⊢;omega
 |.str a,y,z,_,hy,hz,h1,h2=>by rcases cano_cases hy with⟨b,rfl⟩|⟨b,rfl⟩|⟨e,rfl,_⟩<;>rcases cano_cases hz with⟨c,rfl⟩|⟨c,rfl⟩|⟨d,rfl,_⟩<;>simp[Fk,rk]at h1 h2 ⊢;exact AJ h1 h2
 |.tuple i,y,z,hx,hy,hz,h1,h2=>by rcases cano_cases hy with⟨b,rfl⟩|⟨b,rfl⟩|⟨e,rfl,g⟩<;>rcases cano_cases hz with⟨c,rfl⟩|⟨c,rfl⟩|⟨d,rfl,f⟩<;>simp[Fk,rk]at h1 h2 ⊢;exact Uz i e d (by simpa only[Cano] using hx) g f h1 h2
 |.none,_,_,h,_,_,_,_=>by simp[Cano]at h
 |.bool _,_,_,h,_,_,_,_=>by simp[Cano]at h
 |.list _,_,_,h,_,_,_,_=>by simp[Cano]at h
 |.dict _,_,_,h,_,_,_,_=>by simp[Cano]at h
theorem Uz:∀(xs ys zs:oA kL),Av xs=true->Av ys=true->Av zs=true->C4 xs ys=true->C4 ys zs=true->C4 xs zs=true
 |[],[],_,_,_,_,h1,_=>by simp[C4]at h1
 |[],_::_,[],_,_,_,_,h2=>by simp[C4]at h2
 |[],_::_,_::_,_,_,_,_,_=>by simp[C4]
 |_::_,[],_,_,_,_,h1,_=>by simp[C4]at h1
 |_::_,_::_,[],_,_,_,_,h2=>by simp[C4]at h2
 |x::xs,y::ys,z::zs,hx,hy,hz,h1,h2=>by
  simp only[Av,Bool.and_eq_true]at hx hy hz;simp only[C4]at h1 h2 ⊢;cases e1:PyData.eqv x y with
  |true=>
   have e:=Iu x y hx.1 hy.1 e1;subst e;rw[e1]at h1;cases e2:PyData.eqv x z with
   |true=>rw[e2]at h2;exact Uz xs ys zs hx.2 hy.2 hz.2 h1 h2
   |false=>rw[e2]at h2;exact h2
  |false=>
   rw[e1]at h1;cases e2:PyData.eqv y z with
   |true=>have e:=Iu y z hy.1 hz.1 e2;subst e;rw[e1];exact h1
   |false=>
    rw[e2]at h2;have a:=AK x y z hx.1 hy.1 hz.1 h1 h2;cases e3:PyData.eqv x z with
    |false=>exact a
    |true=>have e:=Iu x z hx.1 hz.1 e3;subst e;exact absurd a<|by rw[U0 x hx.1];exact X_
theorem U0:∀(x:kL),Cano x=true->Fk x x=false
 |.int a,_=>by simp[Fk]
 |.str a,_=>by simp[Fk,Ho,List.lt_irrefl]
 |.tuple b,h=>by simp only[Fk];exact Qn b (by simpa only[Cano] using h)
 |.none,h=>by simp[Cano]at h
 |.bool _,h=>by simp[Cano]at h
 |.list _,h=>by simp[Cano]at h
 |.dict _,h=>by simp[Cano]at h
theorem Qn:∀(xs:oA kL),Av xs=true->C4 xs xs=false
 |[],_=>by simp[C4]
 |x::xs,h=>by simp only[Av,Bool.and_eq_true]at h;simp only[C4,Hq x h.1,if_true];exact Qn xs h.2
end
mutual
theorem U1:∀(x y:kL),Cano x=true->Cano y=true->x≠y->Fk x y=false->Fk y x=true
 |.int a,y,_,hy,c,h=>by rcases cano_cases hy with⟨b,rfl⟩|⟨b,rfl⟩|⟨d,rfl,_⟩<;>simp[Fk,rk]at h ⊢;have:a≠b:=λz=>c (by rw[z]);omega
 |.str a,y,_,hy,c,h=>by rcases cano_cases hy with⟨b,rfl⟩|⟨b,rfl⟩|⟨d,rfl,_⟩<;>simp[Fk,rk]at h ⊢;exact W9 (λz=>c<|by rw[z]) h
 |.tuple f,y,hx,hy,c,h=>by rcases cano_cases hy with⟨b,rfl⟩|⟨b,rfl⟩|⟨d,rfl,e⟩<;>simp[Fk,rk]at h ⊢;exact Qo f d (by simpa only[Cano] using hx) e (λz=>c<|by rw[z]) h
 |.none,_,h,_,_,_=>by simp[Cano]at h
 |.bool _,_,h,_,_,_=>by simp[Cano]at h
 |.list _,_,h,_,_,_=>by simp[Cano]at h
 |.dict _,_,h,_,_,_=>by simp[Cano]at h
theorem Qo:∀(xs ys:oA kL),Av xs=true->Av ys=true->xs≠ys->C4 xs ys=false->C4 ys xs=true
 |[],[],_,_,a,_=>absurd rfl a
 |[],_::_,_,_,_,h=>by simp[C4]at h
 |_::_,[],_,_,_,_=>by simp[C4]
 |x::xs,y::ys,hx,hy,a,h=>by
  simp only[Av,Bool.and_eq_true]at hx hy;simp only[C4]at h ⊢;cases e:PyData.eqv x y with
  |true=>have c:=Iu x y hx.1 hy.1 e;subst c;rw[e]at h ⊢;exact Qo xs ys hx.2 hy.2 (λz=>a<|by rw[z]) h
  |false=>rw[e]at h;have b:=(Sz hx.1 hy.1).mp e;rw[(Sz hy.1 hx.1).mpr<|dA b];exact U1 x y hx.1 hy.1 b h
end
end L2
namespace L2
open PySem PySem.W PyProof.Rows
section
variable {n:Nat}{lt:Nat->Nat->Bool}{p:oC Nat}{s:kK}
def Ka(n:Nat)(lt:Nat->Nat->Bool):Nat->Nat->(Bool->kK->Prop)->kK->Prop:=λi j C s=>i<n/\j<n/\C (lt i j) s
structure StrictOrd(n:Nat)(lt:Nat->Nat->Bool):Prop where
 tr:∀a b c,a<n->b<n->c<n->lt a b=true->lt b c=true->lt a c=true
 tot:∀a b,a<n->b<n->a≠b->lt a b=false->lt b a=true
 irr:∀a,a<n->lt a a=false
structure Pm(n:Nat)(p:oC Nat):Prop where
 size:p.size=n
 lt:∀i,i<n->p.getD i 0<n
 inj:∀i j,i<n->j<n->i≠j->p.getD i 0≠p.getD j 0
 perm:p.toList.Perm<|List.range n
def U3{p:oC Nat}(h:p.toList.Perm<|List.range n):Pm n p:=by
 have d:p.size=n:=by have:=h.length_eq;simpa using this
 have b:∀i,(a:i<n)->p.getD i 0=p[i]'(by omega):=λi a=>by simp[Array.getD,show i<p.size by omega]
 refine⟨d,λi a=>?_,λi j a hj f e=>?_,h⟩;rw[b i a];have:p[i]'(by omega)∈p.toList:=by simp
 exact bC.mp<|h.mem_iff.mp this
 rw[b i a,b j hj]at e;have nd:p.toList.Nodup:=h.nodup_iff.mpr jZ;have c:p.toList[i]?=p.toList[j]?:=by rw[aG,aG,aY<|by omega,aY<|by omega,e]
 exact f<|(fN (by simpa using (by omega:i<p.size)) nd).mp c
def Up(lt:Nat->Nat->Bool)(p:oC Nat)(k:Nat):Prop:=∀i j,i<j->j<k->lt (p.getD i 0) (p.getD j 0)=true
def Dn(lt:Nat->Nat->Bool)(p:oC Nat)(k:Nat):Prop:=∀i j,i<j->j<k->lt (p.getD j 0) (p.getD i 0)=true
def Up.next{k:Nat}(O:StrictOrd n lt)(P:Pm n p)(h:Up lt p k)(hk:1<=k)(a:k<n)(e:lt (p.getD (k-1) 0) (p.getD k 0)=true):Up lt p (k+1):=λi j b hj=>by
 by_cases h1:j<k;exact h i j b h1;have:j=k:=by omega
 subst this;by_cases h2:i=j-1;subst h2;exact e;exact O.tr _ _ _ (P.lt i<|by omega) (P.lt (j-1)<|by omega) (P.lt j a) (h i (j-1) (by omega)<|by omega) e
def Dn.next{k:Nat}(O:StrictOrd n lt)(P:Pm n p)(h:Dn lt p k)(hk:1<=k)(a:k<n)(e:lt (p.getD k 0) (p.getD (k-1) 0)=true):Dn lt p (k+1):=λi j b hj=>by
 by_cases h1:j<k;exact h i j b h1;have:j=k:=by omega
 subst this;by_cases h2:i=j-1;subst h2;exact e;exact O.tr _ _ _ (P.lt j a) (P.lt (j-1)<|by omega) (P.lt i<|by omega) e<|h i (j-1) (by omega)<|by omega
theorem Eh{d:Type}{Q c:d->kK->Prop}(h:∀a s,Q a s->c a s):∀(t:KasT d) (s:kK),t.kasWp (Ka n lt) Q s->t.kasWp (Ka n lt) c s
 |.ret a,s,q=>h a s q
 |.ask i j k,s,⟨a,b,q⟩=>⟨a,b,Eh h (k _) s q⟩
theorem asc_ok(O:StrictOrd n lt)(P:Pm n p):∀(f m:Nat),1<=m->m+f=n->Up lt p m->(kas_asc p f m).kasWp (Ka n lt) (λr _=>m<=r/\r<=n/\Up lt p r/\(r<n->lt (p.getD r 0) (p.getD (r-1) 0)=true)) s
 | 0,m,h1,h2,h=>⟨H_ _,by omega,h,λz=>by omega⟩
 |f+1,m,h1,h2,h=>by
  refine⟨P.lt m<|by omega,P.lt (m-1)<|by omega,?_⟩;cases e:lt (p.getD m 0) (p.getD (m-1) 0) with
  |true=>exact⟨H_ _,by omega,h,λ_=>e⟩
  |false=>have d:=O.tot _ _ (P.lt m<|by omega) (P.lt (m-1)<|by omega) (P.inj m (m-1) (by omega) (by omega)<|by omega) e;show(kas_asc p f<|m+1).kasWp _ _ _;have c:=asc_ok O P f (m+1) (by omega) (by omega) (h.next O P h1 (by omega) d);exact Eh (by rintro r _ ⟨a,b⟩;exact ⟨by omega,b⟩) _ _ c
def Qp{i j:Nat}(hj:j<=p.size)(k:Nat):(kas_rev p i j).getD k 0=if i<=k/\k<j then p.getD (i+j-1-k) 0 else p.getD k 0:=by have h:=getElem?_mirror_all (xs:=p) (i:=i) hj k;unfold kas_rev;simp only[Array.getD_eq_getD_getElem?,h];split<;>rfl
def NJ{i j:Nat}(P:Pm n p):Pm n (kas_rev p i j):=U3<|(mirror_perm p i j<|(j-i) / 2).toList.trans P.perm
def Qq{a d:Nat}(hs:a<p.size)(hd:d<=a)(k:Nat):(bubble p a d).getD k 0=if k=a-d then p.getD a 0 else if a-d<k/\k<=a then p.getD (k-1) 0 else p.getD k 0:=by
 have h:=getElem?_bubble hs d hd k;simp only[Array.getD_eq_getD_getElem?,h];split
 rfl
 split<;>rfl
def NK{a d:Nat}(P:Pm n p):Pm n (bubble p a d):=U3<|(bubble_perm p a d).toList.trans P.perm
theorem U4(O:StrictOrd n lt)(P:Pm n p):∀(f k:Nat),1<=k->k+f=n->Dn lt p k->(kas_desc f p k 0).kasWp (Ka n lt) (λr _=>r.1=p/\r.2.2=0/\1<=r.2.1/\r.2.1<=n/\Dn lt p r.2.1) s
 | 0,k,h1,h2,h=>⟨rfl,rfl,h1,by show k<=n;omega,h⟩
 |f+1,k,h1,h2,h=>by
  refine⟨P.lt k<|by omega,P.lt (k-1)<|by omega,?_⟩;cases e:lt (p.getD k 0) (p.getD (k-1) 0) with
  |true=>show(if(0:Nat)>0 then kas_desc f (kas_rev p (k-(0+1)) k) (k+1) 0 else kas_desc f p (k+1) 0).kasWp _ _ _;rw[N_<|by decide];exact U4 O P f (k+1) (by omega) (by omega) (h.next O P h1 (by omega) e)
  |false=>have a:=O.tot _ _ (P.lt k<|by omega) (P.lt (k-1)<|by omega) (P.inj k (k-1) (by omega) (by omega)<|by omega) e;refine⟨P.lt (k-1)<|by omega,P.lt k<|by omega,?_⟩;rw[a];exact⟨rfl,rfl,h1,by show k<=n;omega,h⟩
def AL(O:StrictOrd n lt)(P:Pm n p){k:Nat}(h1:1<=k)(hk:k<=n)(h:Dn lt p k):(kas_tail3 k n p).kasWp (Ka n lt) (λr _=>1<=r.1/\r.1<=n/\Pm n r.2/\Up lt r.2 r.1) s:=by
 have d:Pm n (kas_rev p 0 k):=NJ P;have U:Up lt (kas_rev p 0 k) k:=λi j e hj=>by rw[Qp<|by rw[P.size];exact hk,Qp<|by rw[P.size];exact hk,R_ ⟨aU _,by omega⟩,R_ ⟨aU _,by omega⟩];exact h _ _ (by omega)<|by omega
 unfold kas_tail3;rw[gM];exact Eh (by rintro r s ⟨a,b,c,_⟩;exact ⟨by show 1<=r;omega,b,d,c⟩) _ _<|asc_ok O d (n-k) k h1 (by omega) U
def AM(O:StrictOrd n lt)(P:Pm n p)(u:2<=n):(kas_count n p).kasWp (Ka n lt) (λr _=>1<=r.1/\r.1<=n/\Pm n r.2/\Up lt r.2 r.1) s:=by
 unfold kas_count;rw[gM];refine Eh (λr s ⟨a,b,c,d⟩=>?_) _ _ (asc_ok O P (n-1) 1 (H_ _) (by omega) λi j t hj=>by omega);by_cases e:r=n;subst e;rw[R_<|beq_self_eq_true _];exact⟨a,H_ _,P,c⟩;rw[N_<|by simpa using e];by_cases f:r>1;rw[R_ f];refine⟨P.lt 0<|by omega,P.lt (r-1)<|by omega,?_⟩;rw[c 0 (r-1) (by omega)<|by omega];exact⟨a,b,P,c⟩;rw[N_ f];have o:r=1:=by omega
 subst o;have l:Dn lt p 2:=λi j t hj=>by
  have:i=0/\j=1:=by omega
  obtain⟨rfl,rfl⟩:=this;exact d<|by omega
 unfold kas_descPart;rw[gM];refine Eh (λr s ⟨q,k,m,h,g⟩=>?_) _ _ (U4 O P (n-2) 2 (by omega) (by omega) l);rw[k,N_<|by decide,q];exact AL O P m h g
theorem Lf(P:Pm n p){k:Nat}(hk:k<n)(O:StrictOrd n lt)(U:Up lt p k):∀(f l r:Nat),r-l<=f->l<=r->r<=k->(∀i,i<l->lt (p.getD i 0) (p.getD k 0)=true)->(∀i,r<=i->i<k->lt (p.getD k 0) (p.getD i 0)=true) ->
  (kas_place p k f l r).kasWp (Ka n lt) (λm _=>m<=k/\(∀i,i<m->lt (p.getD i 0) (p.getD k 0)=true)/\(∀i,m<=i->i<k->lt (p.getD k 0) (p.getD i 0)=true)) s
 | 0,l,r,h1,h2,h,b,d=>⟨by show l<=k;omega,b,λi a=>d i (by show r<=i;have:l<=i:=a;omega)⟩
 |f+1,l,r,h1,h2,h,b,d=>by
  unfold kas_place;by_cases e:l>=r;rw[R_ e];exact⟨by show l<=k;omega,b,λi a=>d i (by have:l<=i:=a;omega)⟩
  ·rw[N_ e];refine⟨P.lt k hk,P.lt ((l+r) / 2)<|by omega,?_⟩;cases c:lt (p.getD k 0) (p.getD ((l+r) / 2) 0) with
   |true=>refine Lf P hk O U f l ((l+r) / 2) (by omega) (by omega) (by omega) b λi a g=>?_;by_cases z:i=(l+r) / 2;subst z;exact c;exact O.tr _ _ _ (P.lt k hk) (P.lt _<|by omega) (P.lt i<|by omega) c (U _ _ (by omega) g)
   |false=>have c2:=O.tot _ _ (P.lt k hk) (P.lt ((l+r) / 2)<|by omega) (P.inj _ _ hk (by omega)<|by omega) c;refine Lf P hk O U f ((l+r) / 2+1) r (by omega) (by omega) h (λi a=>?_) d;by_cases z:i=(l+r) / 2;subst z;exact c2;exact O.tr _ _ _ (P.lt i<|by omega) (P.lt _<|by omega) (P.lt k hk) (U _ _ (by omega)<|by omega) c2
theorem AN(O:StrictOrd n lt):∀(f:Nat) (p:oC Nat) (k:Nat) (s:kK),k+f=n->Pm n p->Up lt p k->(kas_bin f p k).kasWp (Ka n lt) (λr _=>Pm n r/\Up lt r n) s
 | 0,p,k,_,h,P,U=>by
  have e:k=n:=by omega
  subst e;exact⟨P,U⟩
 |f+1,p,k,_,h,P,U=>by
  unfold kas_bin;rw[gM];refine Eh (λl s ⟨a,b,c⟩=>?_) _ _ (Lf P (by omega) O U k 0 k (by omega) (aU _) (H_ _) (λi m=>absurd m<|fJ _) λi m q=>by omega);refine AN O f _ (k+1) _ (by omega) (NK P) λi j w hj=>?_;have d:k<p.size:=by rw[P.size];omega
  have v:k-(k-l)=l:=by omega
  rw[Qq d<|by omega,Qq d<|by omega,v];by_cases g:i=l;rw[R_ g,N_<|by omega,R_ ⟨by omega,by omega⟩];exact c (j-1) (by omega) (by omega);rw[N_ g];by_cases o:j=l;rw[R_ o,N_<|by omega];exact b i (by omega);rw[N_ o];by_cases t:l<i;rw[R_ ⟨t,by omega⟩,R_ ⟨by omega,by omega⟩];exact U _ _ (by omega) (by omega);rw[N_<|by omega];by_cases u:l<j;rw[R_ ⟨u,by omega⟩];exact U _ _ (by omega) (by omega);rw[N_<|by omega];exact U _ _ w<|by omega
def GA(O:StrictOrd n lt)(g:2<=n):(kas_sort n).kasWp (Ka n lt) (λr _=>Pm n r/\Up lt r n) s:=by
 unfold kas_sort;rw[gM];refine Eh (λr s ⟨a,b,c,d⟩=>?_) _ _ (AM O (U3<|by simp) g);by_cases e:r.1<n;rw[R_ e];have f:max r.1 1=r.1:=by omega
 rw[f];exact AN O _ _ _ _ (by omega) c d;rw[N_ e];have:r.1=n:=by omega
 rw[this]at d;exact⟨c,d⟩
end
section
variable {prog:kO}{w:kP}{A:kR}{E:kJ->kK->Prop}{s:kK}{κ:k_}{it:oC Keyed}{n:Nat}{lt:Nat->Nat->Bool}
abbrev at0(p:oC Nat)(i:Nat):Nat:=p.getD i 0
def In(n:Nat)(p:oC Nat):Prop:=∀i,i<p.size->at0 p i<n
abbrev LoS:=oB (oC Keyed)×oC Keyed×Nat×Nat×Nat×Nat×Nat
section
variable {a b:oC Nat}{st:SortSt}{Qd Qy:LoS->SortSt->Prop}{sd:oC Nat}{ia ib mg ac bc:Nat}
end
end
section
variable {prog:kO}{w:kP}{A:kR}{E:kJ->kK->Prop}{s:kK}{κ:k_}{it:oC Keyed}{n:Nat}{lt:Nat->Nat->Bool}
section
variable {a b sd:oC Nat}{na nb:Nat}
end
abbrev HiS:=oB (oC Keyed)×Nat×Nat×oC Keyed×Nat×Nat×Nat
section
variable {a b:oC Nat}{st:SortSt}{Qd Qy:HiS->SortSt->Prop}{sd:oC Nat}{na nb mg ac bc:Nat}
end
end
section
variable {prog:kO}{w:kP}{A:kR}{E:kJ->kK->Prop}{s:kK}{κ:k_}{it:oC Keyed}{n:Nat}{lt:Nat->Nat->Bool}
def wr{b:Type}(a:Nat):oA b->Nat->oC b->oC b
 |[],_,p=>p
 |x::c,k,p=>wr a c (k+1)<|p.setIfInBounds (a+k) x
end
end L2
namespace L2
open PySem
def NL(A:kR)(s:kK)(u v:kJ)(b:Bool):Prop:=∀(prog:kO) (w:kP) (E:kJ->kK->Prop) (Q:kJ->kK->Prop),Q (.bool b) s->qX prog w A (richCompare .Lt u v) Q E s
inductive LexAt (A:kR) (s:kK):oA kJ->oA kJ->Bool->Prop
 |nil {ys:oA kJ}:LexAt A s [] ys (decide (0<ys.length))
 |stop {x:kJ} {xs:oA kJ}:LexAt A s (x::xs) [] false
 |eq {x y:kJ} {xs ys:oA kJ} {r:Bool}:SeqAt.EqAt A s x y true->LexAt A s xs ys r->LexAt A s (x::xs) (y::ys) r
 |ne {x y:kJ} {xs ys:oA kJ} {r:Bool}:SeqAt.EqAt A s x y false->NL A s x y r->LexAt A s (x::xs) (y::ys) r
section
variable {prog:kO}{w:kP}{A:kR}{E:kJ->kK->Prop}{s:kK}
def LexAt.ends{xs ys:oA kJ}{r:Bool}(h:LexAt A s xs ys r)(e:xs.zip ys=[]):r=decide (xs.length<ys.length):=by
 cases h with
 |nil=>simp
 |stop=>simp
 |eq=>simp at e
 |ne=>simp at e
def Mq{a b:kM}{p g:kT}{xs ys:oC kJ}{n k:Nat}{P:PySem.Fin->kK->Prop}{r:Bool}(ha:s.heap.get? a=some p)(hb:s.heap.get? b=some g)(z:g.cls=.type "tuple") (x:p.data=.seq xs n) (y:g.data=.seq ys k)
  (h:LexAt A s xs.toList ys.toList r) (q:P (.done<|.ret<|.bool r) s):qX prog w A (Builtin.«tuple.__lt__» ⟨[.ref a,.ref b],[]⟩) P E s:=by
 have t:s.TypeIs (.ref b) "tuple" := ⟨g,hb,z⟩;refine(show wpAny _ _ (isInstance (.ref b) (.type "tuple")>>=_) _ _ s from A_<|eI t iK ?_);rw[show(!true)=false from rfl,N_ X_];refine A_<|fE ha x<|A_<|fE hb y<|A_ ?_;refine dY _ (λleft o i=>o.1=none/\i=s/\∃f d,left=List.zip f d/\LexAt A s f d r/\decide (f.length<d.length)=decide (xs.size<ys.size)) _ ?_ ?_ _ _ ⟨rfl,rfl,xs.toList,ys.toList,rfl,h,by simp⟩
 ·rintro⟨u,v⟩ left o i ⟨j,rfl,f,d,c,l,m⟩;cases l with
  |nil=>simp at c
  |stop=>simp at c
  |eq h1 h2=>simp only[List.zip_cons_cons,List.cons.injEq,Prod.mk.injEq]at c;obtain⟨⟨rfl,rfl⟩,rfl⟩:=c;refine A_<|h1 prog w _ _ ?_;dsimp only;rw[show(!true)=false from rfl,N_ X_];exact DD ⟨rfl,rfl,_,_,rfl,h2,by simpa using m⟩
  |ne h1 h2=>simp only[List.zip_cons_cons,List.cons.injEq,Prod.mk.injEq]at c;obtain⟨⟨rfl,rfl⟩,rfl⟩:=c;refine A_<|h1 prog w _ _ ?_;simp only[Bool.not_false,if_true];exact A_<|eC<|A_<|h2 prog w _ _<|A_<|DD<|DD<|DD q
 rintro⟨B,a2⟩ i ⟨j,rfl,f,d,c,l,m⟩;simp only at j;subst j;have e:=l.ends c.symm;rw[e,m]at q;exact DD q
def Ta{a b:kM}{c d:kT}{xs ys:oC kJ}{n k:Nat}{r:Bool}(ha:s.heap.get? a=some c)(hb:s.heap.get? b=some d)(e:c.cls=.type "tuple") (f:d.cls=.type "tuple") (g:c.data=.seq xs n) (j:d.data=.seq ys k)
  (i:A.units<cLine) (h:LexAt A.in1 s xs.toList ys.toList r):NL A s (.ref a) (.ref b) r:=λprog w E Q q=>
 wpAny_richCompare_same_room (T := "tuple") ⟨c,ha,e⟩ ⟨d,hb,f⟩ F.slot_tuple_lt (bQ F.slot_tuple_lt ⟨c,ha,e⟩ F.entry_tuple_lt (Mq ha hb f g j h ⟨_,rfl,(λz=>nomatch z),q⟩)<|F.args_tuple_lt_2 _ _) i
end
mutual
def cmpb:kL->kL->Bool
 |.int _,.int _=>true
 |.tuple a,.tuple b=>cmpbs a b
 |_,_=>false
def cmpbs:oA kL->oA kL->Bool
 |[],_=>true
 |_::_,[]=>true
 |x::a,y::b=>if PyData.eqv x y then cmpbs a b else cmpb x y
end
def Lg{u a b c d:Nat}(h:u+min (max a b) (max c d)<cLine):u+min a c<cLine:=dH (Nat.add_le_add_left (Nat.le_min_of_le_of_le (Q_ (Nat.min_le_left _ _)<|Nat.le_max_left _ _)<|Q_ (fV _ _)<|Nat.le_max_left _ _) u) h
def AQ{u a b c d:Nat}(h:u+min (max a b) (max c d)<cLine):u+min b d<cLine:=Lg (b:=a) (d:=c) (by rw[Nat.max_comm b a,Nat.max_comm d c];exact h)
mutual
theorem Lh:∀(x y:kL) (A:kR) (s:kK) (u v:kJ) (f i:oA kM),Reads s.heap u x f->Reads s.heap v y i->x.canLay0=true->y.canLay0=true->cmpb x y=true->A.units+min x.depth y.depth<cLine->NL A s u v (Fk x y)
 |.int a,.int b,A,s,u,v,f,i,j,c,_,_,_,_=>by
  cases j;cases c;intro l w E Q q;have e:Fk (.int a) (.int b)=decide (a<b):=by simp[Fk]
  rw[e]at q;exact wpAny_lt_int q
 |.tuple d,.tuple g,A,s,u,v,f,i,j,c,k,c2,hc,m=>by
  cases j with
  |tuple n a2 z p=>
   cases c with
   |tuple B t o r=>
    have e:Fk (.tuple d) (.tuple g)=C4 d g:=by simp[Fk]
    rw[e];simp only[PyData.canLay0]at k c2;simp only[cmpb]at hc;simp only[PyData.depth]at m;refine Ta n B a2 t z o (by omega)<|Ev d g A.in1 s _ _ _ _ p r k c2 hc ?_;show A.units+1+_<_;omega
 |.int _,.none,_,_,_,_,_,_,_,_,_,_,h,_=>by simp[cmpb]at h
 |.int _,.bool _,_,_,_,_,_,_,_,_,_,_,h,_=>by simp[cmpb]at h
 |.int _,.str _,_,_,_,_,_,_,_,_,_,_,h,_=>by simp[cmpb]at h
 |.int _,.list _,_,_,_,_,_,_,_,_,_,_,h,_=>by simp[cmpb]at h
 |.int _,.tuple _,_,_,_,_,_,_,_,_,_,_,h,_=>by simp[cmpb]at h
 |.int _,.dict _,_,_,_,_,_,_,_,_,_,_,h,_=>by simp[cmpb]at h
 |.tuple _,.none,_,_,_,_,_,_,_,_,_,_,h,_=>by simp[cmpb]at h
 |.tuple _,.bool _,_,_,_,_,_,_,_,_,_,_,h,_=>by simp[cmpb]at h
 |.tuple _,.str _,_,_,_,_,_,_,_,_,_,_,h,_=>by simp[cmpb]at h
 |.tuple _,.list _,_,_,_,_,_,_,_,_,_,_,h,_=>by simp[cmpb]at h
 |.tuple _,.int _,_,_,_,_,_,_,_,_,_,_,h,_=>by simp[cmpb]at h
 |.tuple _,.dict _,_,_,_,_,_,_,_,_,_,_,h,_=>by simp[cmpb]at h
 |.none,_,_,_,_,_,_,_,_,_,_,_,h,_=>by simp[cmpb]at h
 |.bool _,_,_,_,_,_,_,_,_,_,_,_,h,_=>by simp[cmpb]at h
 |.str _,_,_,_,_,_,_,_,_,_,_,_,h,_=>by simp[cmpb]at h
 |.list _,_,_,_,_,_,_,_,_,_,_,_,h,_=>by simp[cmpb]at h
 |.dict _,_,_,_,_,_,_,_,_,_,_,_,h,_=>by simp[cmpb]at h
theorem Ev:∀(xs ys:oA kL) (A:kR) (s:kK) (c vs:oA kJ) (g h:oA kM),ReadsAll s.heap c xs g->ReadsAll s.heap vs ys h->PyData.canLayAll0 xs=true->PyData.canLayAll0 ys=true->cmpbs xs ys=true->A.units+min (PyData.depthAll xs) (PyData.depthAll ys)<cLine->LexAt A s c vs (C4 xs ys)
 |[],ys,A,s,c,vs,g,h,b,a,_,_,_,_=>by
  cases b;have e:C4 [] ys=decide (0<vs.length):=by cases a<;>simp[C4]
  rw[e];exact .nil
 |x::xs,[],A,s,c,vs,g,h,b,a,_,_,_,_=>by
  cases a;cases b with
  |cons i a2=>
   have e:C4 (x::xs) []=false:=by simp[C4]
   rw[e];exact .stop
 |x::xs,y::ys,A,s,c,vs,g,h,b,a,f,c2,hc,d=>by
  simp only[PyData.canLayAll0,Bool.and_eq_true]at f c2;simp only[PyData.depthAll]at d;cases b with
  |cons i a2=>
   cases a with
   |cons j k=>
    have q:=fX x y A s _ _ _ _ i j f.1 c2.1<|Lg d;simp only[cmpbs]at hc;simp only[C4];cases e:PyData.eqv x y with
    |true=>rw[e]at q hc;exact .eq q (Ev xs ys A s _ _ _ _ a2 k f.2 c2.2 hc<|AQ d)
    |false=>rw[e]at q hc;exact .ne q<|Lh x y A s _ _ _ _ i j f.1 c2.1 hc<|Lg d
end
end L2
namespace L2
open PySem PySem.W PyProof.Rows
section
variable {prog:kO}{w:kP}{A:kR}{E:kJ->kK->Prop}{s:kK}
theorem AR{d:Type}{n:Nat}{e:Nat->Nat->Bool}{c:Nat->Nat->(Bool->kK->Prop)->kK->Prop}(h:∀i j C,i<n->j<n->C (e i j) s->c i j C s){Q:d->kK->Prop}:∀(t:KasT d),t.kasWp (Ka n e) Q s->t.kasWp c Q s
 |.ret _,q=>q
 |.ask i j k,⟨a,b,q⟩=>h i j _ a b<|AR h (k _) q
theorem Qr{d:Type}{n:Nat}{c:Nat->Nat->Bool}{Q:d->Prop}:∀{t:KasT d},t.kasWp (Ka n c) (λr _=>Q r) s->t.kasWp (Ka n c) (λr e=>e=s/\Q r) s
 |.ret _,q=>⟨rfl,q⟩
 |.ask _ _ _,⟨a,b,q⟩=>⟨a,b,Qr q⟩
def U5{fin b:Bool}{Q:Bool->kK->Prop}:∀{c vs:oA kJ} {r:Bool},LexAt A s c vs r->fin=decide (c.length<vs.length)->∀i,(b&&i==0)=false->Q r s->KatLex prog w A b fin Q (c.zip vs) i s:=by
 intro c vs r h
 induction h with
 |nil=>intro e i a q;have d:fin=decide (0<_):=e;rw[<- d]at q;exact kat_nil q
 |stop=>
  intro e i a q;have d:fin=false:=by rw[e];simp
  rw[<- d]at q;exact kat_nil q
 |eq h1 h2 f=>intro e i a q;exact kat_cons (h1 prog w _ _<|kat_yes<|f (by rw[e];simp) (i+1) (by simp) q)
 |ne h1 h2=>intro e i a q;refine kat_cons<|h1 prog w _ _<|kat_no ?_;rw[a];exact kat_one _ _<|h2 prog w _ _<|show PySem.W.BoolBack Q (.bool _) s from q
def NM{x y:kM}{a b:Int}{c d:oA kL}{C D:oA kM}{Q:Bool->kK->Prop}(G:Reads s.heap (.ref x) (.tuple<|.int a::c) C)(v:Reads s.heap (.ref y) (.tuple<|.int b::d) D)(k:(PyData.tuple<|.int a::c).canLay0=true)(c2:(PyData.tuple<|.int b::d).canLay0=true)
  (hc:cmpb (.tuple<|.int a::c) (.tuple<|.int b::d)=true) (L:A.units+64<cLine) (hd:(PyData.tuple<|.int a::c).depth<=64) (q:Q (Fk (.tuple<|.int a::c)<|.tuple<|.int b::d) s):qX prog w A (keyLt' (tuples' true) (.ref x)<|.ref y) Q E s:=by
 cases G with
 |@tuple _ M g n _ _ r a2 H i=>
  cases v with
  |@tuple _ J h m _ _ I N u j=>
   refine kat_lt r H I u ?_;simp only[PyData.canLay0,PyData.canLayAll0,Bool.and_eq_true]at k c2;simp only[PyData.depth,PyData.depthAll]at hd;simp only[cmpb,cmpbs]at hc;simp only[Fk,C4]at q;have F:g.size=g.toList.length:=by simp
   have p:h.size=h.toList.length:=by simp
   rw[F,p];generalize g.toList=us at i ⊢;generalize h.toList=vs at j ⊢;cases i with
   |cons B l=>
    cases j with
    |cons v1 o=>
     cases B with
     |int _ t=>
      cases v1 with
      |int _ z=>
       rw[List.zip_cons_cons];have f:=fX (.int a) (.int b) A s _ _ _ _ (.int a t) (.int b z) rfl rfl (by simp[PyData.depth];omega);cases e:PyData.eqv (.int a) (.int b) with
       |true=>rw[e]at f hc q;refine kat_cons<|f prog w _ _<|kat_yes ?_;refine U5 (Ev c d A s _ _ _ _ l o k.2 c2.2 hc<|by omega) (by simp) 1 rfl q
       |false=>rw[e]at f hc q;refine kat_cons<|f prog w _ _<|kat_no ?_;exact kat_lt_int q
def GB{x y:kM}{a b:oA kL}{i j:oA kM}{Q:Bool->kK->Prop}(k:Reads s.heap (.ref x) (.tuple a) i)(f:Reads s.heap (.ref y) (.tuple b) j)(c:(PyData.tuple a).canLay0=true)(c2:(PyData.tuple b).canLay0=true)
  (hc:cmpb (.tuple a) (.tuple b)=true) (r:A.units+64<cLine) (hd:(PyData.tuple a).depth<=64) (q:Q (Fk (.tuple a)<|.tuple b) s):qX prog w A (keyLt' (tuples' false) (.ref x)<|.ref y) Q E s:=by
 cases k with
 |@tuple _ u t n _ _ d a2 l g=>
  cases f with
  |@tuple _ p v m _ _ o z e h=>refine kat_lt d l o e ?_;simp only[PyData.canLay0]at c c2;simp only[PyData.depth]at hd;simp only[cmpb]at hc;simp only[Fk]at q;refine U5 (Ev a b A s _ _ _ _ g h c c2 hc<|by omega) (by simp) 0 rfl q
def Lj{a:kM}{vs:oA kJ}{d:Nat->Nat->Bool}{n:Nat}{P:PySem.Fin->kK->Prop}(z:s.heap.get? a=some (seqObj "list" vs.toArray n)) (F:vs.length<64) (O:StrictOrd vs.length d)
  (hk:2<=vs.length->∀h':kS,(∀b o,b≠a->s.heap.get? b=some o->h'.get? b=some o)->∃ κ,(∀Q:k_->kK->Prop,Q κ {s with heap:=h'}->qX prog w A (keyKind' vs.toArray) Q E {s with heap:=h'}) /\
   ∀i j C,i<vs.length->j<vs.length->C (d i j) {s with heap:=h'}->kas_ask prog w A κ vs i j C {s with heap:=h'})
  (h:∀(p:oC Nat) (h':kS) (c:Nat),Pm vs.length p->Up d p vs.length->(∀b o,b≠a->s.heap.get? b=some o->h'.get? b=some o)->h'.get? a=some (seqObj "list" (p.toList.map λi=>vs.getD i Value.none).toArray c)->P (.done<|.ret .none) {s with heap:=h'}) :
  qX prog w A (Builtin.«list.sort» ⟨[.ref a],[]⟩) P E s:=by
 obtain⟨x,r⟩:∃x,(s.heap.update a<|Obj.mapSeq λ_=>(#[]:oC kJ)).get? a=some (seqObj "list" #[] x):=⟨_,get?_update_seq z λ_=>#[]⟩;have u:vs.toArray.size<=sizeLine:=by rw[T_];exact Q_ (dN F)<|by decide
 have D:∀b o,b≠a->s.heap.get? b=some o->(((s.heap.update a<|Obj.mapSeq λ_=>(#[]:oC kJ)).push<|seqObj "tuple" vs.toArray 0).push<|seqObj "list" #[] 0).get? b=some o:=λb o hb e=>
  C_ _ (C_ _<|((b_ s.heap a _).2 b hb).trans e)
 have g:(((s.heap.update a<|Obj.mapSeq λ_=>(#[]:oC kJ)).push<|seqObj "tuple" vs.toArray 0).push<|seqObj "list" #[] 0).get? a=some (seqObj "list" #[] x):=C_ _<|C_ _ r;rw[list_sort_plain];refine A_ (listItems_at z rfl<|A_<|listUpdate_at z rfl (A_<|seqEpoch_at r rfl<|A_<|wpAny_newTuple (A_<|wpAny_newList (aT ?_)<|aU _)<|by simpa using u) u<|aU _);show qX prog w A _ P E {s with heap:=(((s.heap.update a<|Obj.mapSeq λ_=>(#[]:oC kJ)).push<|seqObj "tuple" vs.toArray 0).push<|seqObj "list" #[] 0)};generalize ((s.heap.update a<|Obj.mapSeq λ_=>(#[]:oC kJ)).push<|seqObj "tuple" vs.toArray 0).push (seqObj "list" #[] 0)=h2 at D g ⊢;dsimp only;have fin:∀(st:SortSt) (p:oC Nat),(arrOf st).map (·.2)=List.toArray (p.toList.map λi=>vs.getD i Value.none)->failedOf st=none->Pm vs.length p->Up d p vs.length->∀Q:kS->Prop,(∀(h':kS) (c:Nat),(∀b o,b≠a->s.heap.get? b=some o->h'.get? b=some o)->h'.get? a=some (seqObj "list" (p.toList.map λi=>vs.getD i Value.none).toArray c)->Q h') ->
   Q (h2.update a<|Obj.mapSeq λ_=>(arrOf st).map (·.2)):=λst p e _ _ _ Q q=>by
  rw[e];exact q _ _ (λb o hb H=>((b_ h2 a _).2 b hb).trans<|D b o hb H)<|get?_update_seq g _
 by_cases h1:vs.toArray.size<2;rw[R_ h1,R_ h1];refine A_<|DD ?_;rw[StateT.run_pure];have f:Pm vs.length (List.range vs.length).toArray:=U3 (by simp);have t:Up d (List.range vs.length).toArray vs.length:=λi j T hj=>by rw[T_]at h1;omega
 have m:(arrOf<|SortSt.mk' general' (vs.toArray.zip vs.toArray) #[] 7 none).map (·.2)=List.toArray ((List.range vs.length).toArray.toList.map λi=>vs.getD i Value.none):=by
  have S:=kat_snds (ks:=vs) (vs:=vs) (st:=SortSt.mk' general' (vs.toArray.zip vs.toArray) #[] 7 none) (p:=(List.range vs.length).toArray) rfl (by
   have e:=kas_range<|vs.toArray.zip vs.toArray;rw[show(vs.toArray.zip vs.toArray).size=vs.length by simp]at e;exact e.symm)
  exact S
 have B:=fin _ _ m rfl f t (λh'=>P (.done<|.ret .none) {s with heap:=h'}) λh' c k e=>h _ h' c f t k e;refine A_<|DD<|A_<|seqEpoch_at g rfl<|A_<|listUpdate_at g rfl ?_ (aU _) ?_;rw[show failedOf (SortSt.mk' general' (vs.toArray.zip vs.toArray) #[] 7 none)=none from rfl,bne_self_eq_false,N_ X_];exact DD B;refine Q_ ?_<|fO u;show(Array.map _ _).size<=_;rw[m];simp;rw[N_ h1,N_ h1];have y:2<=vs.length:=by rw[T_]at h1;exact jX h1
 obtain⟨κ,N,L⟩:=hk y h2 D;refine A_<|N _ ?_;refine A_<|a_ (kat_run (κ:=κ) (ks:=vs) (vs:=vs) (Q:=λst l=>l={s with heap:=h2}/\∃p:oC Nat,(arrOf st).map (·.2)=List.toArray (p.toList.map λi=>vs.getD i Value.none)/\failedOf st=none/\Pm vs.length p/\Up d p vs.length) (G:=λp l=>l={s with heap:=h2}/\Pm vs.length p/\Up d p vs.length) rfl y F
  (by rintro p st l _ J v ⟨R,M,I⟩;exact ⟨R,p,kat_snds rfl J,v,M,I⟩) (AR L _<|Qr<|GA O y)) ?_ λ_ _ e=>e
 rintro⟨⟨⟩,st⟩ l ⟨rfl,p,m,v,f,t⟩;dsimp only;have B:=fin _ _ m v f t (λh'=>P (.done<|.ret .none) {s with heap:=h'}) λh' c k e=>h _ h' c f t k e;refine A_<|seqEpoch_at g rfl<|A_<|listUpdate_at g rfl ?_ (aU _) ?_;rw[v,bne_self_eq_false,N_ X_];exact DD B;refine Q_ ?_<|fO u;show(Array.map _ _).size<=_;rw[m];simp[f.size]
end
end L2
namespace L2
open PySem PySem.Spec PyProof.Rows
structure SortOkW(ds:oA kL):Prop where
 len:ds.length<64
 can:PyData.canLayAll0 ds=true
 dp:PyData.depthAll ds<=64
 cano:Av ds=true
 nd:ds.Nodup
 fst:2<=ds.length->(∀d∈ds,∃i r,d=.tuple (.int i::r))\/∀d∈ds,∃i r,d=.tuple (.tuple i::r)
 cmp:∀d∈ds,∀e∈ds,cmpb d e=true
def XZ(ds:oA kL)(i j:Nat):Bool:=Fk (ds.getD i .none)<|ds.getD j .none
theorem Cy:∀{ds:oA kL},Av ds=true->∀d∈ds,Cano d=true
 |d::ds,h,e,he=>by simp only[Av,Bool.and_eq_true]at h;rcases Z_.mp he with rfl|he;exact h.1;exact Cy h.2 e he
theorem He:∀{ds:oA kL},PyData.canLayAll0 ds=true->∀d∈ds,d.canLay0=true
 |d::ds,h,e,he=>by simp only[PyData.canLayAll0,Bool.and_eq_true]at h;rcases Z_.mp he with rfl|he;exact h.1;exact He h.2 e he
theorem Nm:∀{ds:oA kL},∀d∈ds,d.depth<=PyData.depthAll ds
 |d::ds,e,he=>by simp only[PyData.depthAll];rcases Z_.mp he with rfl|he;omega;have:=Nm (ds:=ds) e he;omega
def Cd{a:Type}{xs:oA a}{i:Nat}{d:a}(h:i<xs.length):xs.getD i d∈xs:=by rw[L_,D_ h];exact aL h
def Fl{a:Type}{xs:oA a}{i:Nat}{d:a}(h:i<xs.length):xs[i]?=some (xs.getD i d):=by rw[L_,D_ h];rfl
def SortOkW.ord{ds:oA kL}(h:SortOkW ds):StrictOrd ds.length (XZ ds):=by refine⟨λa b c ha hb hc h1 h2=>?_,λa b ha hb f h1=>?_,λa ha=>U0 _<|Cy h.cano _<|Cd ha⟩;exact AK _ _ _ (Cy h.cano _<|Cd ha) (Cy h.cano _<|Cd hb) (Cy h.cano _<|Cd hc) h1 h2;refine U1 _ _ (Cy h.cano _<|Cd ha) (Cy h.cano _<|Cd hb) (λe=>f ?_) h1;refine(fN ha h.nd).mp ?_;rw[Fl (d:=PyData.none) ha,Fl (d:=PyData.none) hb,e]
theorem Xa{h h':kS}(hk:∀b o,h.get? b=some o->h'.get? b=some o):∀{c:oA kJ} {ds:oA kL} {a:oA kM},ReadsAll h c ds a->ReadsAll h' c ds a
 |_,_,_,.nil=>.nil
 |_,_,_,.cons r t=>.cons (eU hk r)<|Xa hk t
theorem NN{h:kS}:∀{a:oA kJ} {ds:oA kL} {c:oA kM} {i:Nat},ReadsAll h a ds c->i<ds.length->∃d,Reads h (a.getD i .none) (ds.getD i .none) d
 |_,_,_,0,.cons r _,_=>⟨_,r⟩
 |_,_,_,i+1,.cons _ t,b=>NN (i:=i) t<|by simpa using b
theorem IY{h:kS}:∀{a:oA kJ} {ds:oA kL} {b:oA kM},ReadsAll h a ds b->a.length=ds.length
 |_,_,_,.nil=>rfl
 |_,_,_,.cons _ t=>by simp[IY t]
theorem Qs{h:kS}:∀{e:oA kJ} {ds:oA kL} {f:oA kM},ReadsAll h e ds f->(∀d∈ds,∃i r,d=.tuple (.int i::r))->∃b:oA kJ,PySem.W.KatTups h e b/\b.length=e.length/\∀v∈b,∃i t,v=.int i t
 |_,_,_,.nil,_=>⟨[],PySem.W.KatTups.nil,rfl,λ_ z=>nomatch z⟩
 |_,_,_,.cons r t,hd=>by
  obtain⟨b,k,l,z⟩:=Qs t λd m=>hd d<|K_ _ m;obtain⟨i,A,rfl⟩:=hd _ V_;cases r with
  |@tuple a o s n y f g a2 q c=>
   cases hv:s.toList with
   |nil=>rw[hv]at c;cases c
   |cons x w=>
    rw[hv]at c;cases c with
    |cons p u=>
     cases p with
     |int _ j=>refine⟨.int i j::b,PySem.W.KatTups.cons g a2 q ?_ k,by simp[l],λv hv'=>?_⟩;rw[<- aG,hv];rfl;rcases Z_.mp hv' with rfl|hv';exact⟨_,_,rfl⟩;exact z v hv'
theorem Qt{h:kS}:∀{e:oA kJ} {ds:oA kL} {f:oA kM},ReadsAll h e ds f->(∀d∈ds,∃i r,d=.tuple (.tuple i::r))->∃b:oA kJ,PySem.W.KatTups h e b/\b.length=e.length/\∀v∈b,∃a o,v=.ref a/\h.get? a=some o/\o.cls=.type "tuple"
 |_,_,_,.nil,_=>⟨[],PySem.W.KatTups.nil,rfl,λ_ z=>nomatch z⟩
 |_,_,_,.cons r t,hd=>by
  obtain⟨b,k,l,z⟩:=Qt t λd m=>hd d<|K_ _ m;obtain⟨i,H,rfl⟩:=hd _ V_;cases r with
  |@tuple a o x n F f j a2 u c=>
   cases hv:x.toList with
   |nil=>rw[hv]at c;cases c
   |cons E C=>
    rw[hv]at c;cases c with
    |cons p y=>
     cases p with
     |@tuple g B A J I q w s D G=>refine⟨.ref g::b,PySem.W.KatTups.cons j a2 u ?_ k,by simp[l],λv hv'=>?_⟩;rw[<- aG,hv];rfl;rcases Z_.mp hv' with rfl|hv';exact⟨_,_,rfl,w,s⟩;exact z v hv'
section
variable {prog:kO}{w:kP}{A:kR}{E:kJ->kK->Prop}{s:kK}
def U6{a:oA kJ}{ds:oA kL}{f:oA kM}{i j:Nat}{b c:oA kL}(ok:SortOkW ds)(k:ReadsAll s.heap a ds f)(n:i<ds.length)(hj:j<ds.length)(o:ds.getD i .none=.tuple b)(v:ds.getD j .none=.tuple c):∃x y p f,a.getD i .none=.ref x/\a.getD j .none=.ref y/\Reads s.heap (.ref x) (.tuple b) p/\Reads s.heap (.ref y) (.tuple c) f/\(PyData.tuple b).canLay0=true/\(PyData.tuple c).canLay0=true/\cmpb (.tuple b) (.tuple c)=true/\(PyData.tuple b).depth<=64:=by
 obtain⟨m,g⟩:=NN k n;obtain⟨l,h⟩:=NN k hj;have m1:=Cd (d:=PyData.none) n;have e:=Cd (d:=PyData.none) hj;rw[o]at g m1;rw[v]at h e;generalize a.getD i Value.none=u1 at g ⊢;generalize a.getD j Value.none=u2 at h ⊢;cases g with
 |tuple r a2 q u=>
  cases h with
  |tuple m l t z=>exact⟨_,_,_,_,rfl,rfl,.tuple r a2 q u,.tuple m l t z,He ok.can _ m1,He ok.can _ e,ok.cmp _ m1 _ e,Q_ (Nm _ m1) ok.dp⟩
def NO{f:oA kJ}{ds:oA kL}{u:oA kM}(ok:SortOkW ds)(e:ReadsAll s.heap f ds u)(h2:2<=ds.length)(F:A.units+64<cLine):∃ G,(∀Q:k_->kK->Prop,Q G s->qX prog w A (keyKind' f.toArray) Q E s)/\∀i j C,i<f.length->j<f.length->C (XZ ds i j) s->PySem.W.kas_ask prog w A G f i j C s:=by have D:=IY e;rcases ok.fst h2 with hf|hf;obtain⟨N,h,I,l⟩:=Qs e hf;refine⟨tuples' true,λQ q=>?_,λi j C b hj q=>?_⟩;refine PySem.W.kat_kind (T:=.type "int") h (by omega) (λv hv=>?_) rfl q;obtain⟨i,t,rfl⟩:=l v hv;exact PySem.W.Looks.of_pure rfl;rw[D]at b hj;obtain⟨L,O,c⟩:=hf _<|Cd (d:=PyData.none) b;obtain⟨H,J,g⟩:=hf _<|Cd (d:=PyData.none) hj;obtain⟨x,y,M,u,n,k,B,m,p,c2,r,z⟩:=U6 ok e b hj c g;have q:C (Fk (ds.getD i .none)<|ds.getD j .none) s:=q;rw[c,g]at q;unfold PySem.W.kas_ask;rw[n,k];exact NM B m p c2 r F z q;obtain⟨N,h,I,l⟩:=Qt e hf;refine⟨tuples' false,λQ q=>?_,λi j C b hj q=>?_⟩;refine PySem.W.kat_kind (T:=.type "tuple") h (by omega) (λv hv=>?_) rfl q;obtain⟨a,o,rfl,h1,h2⟩:=l v hv;rw[<- h2];exact(eG h1).andThen .now;rw[D]at b hj;obtain⟨L,O,c⟩:=hf _<|Cd (d:=PyData.none) b;obtain⟨H,J,g⟩:=hf _<|Cd (d:=PyData.none) hj;obtain⟨x,y,M,u,n,k,B,m,p,c2,r,z⟩:=U6 ok e b hj c g;have q:C (Fk (ds.getD i .none)<|ds.getD j .none) s:=q;rw[c,g]at q;unfold PySem.W.kas_ask;rw[n,k];exact GB B m p c2 r F z q
end
def AU{n:Nat}{ds:oA kL}{p:oC Nat}(d:Pm n p)(g:Up (XZ ds) p n):(p.toList.map λi=>ds.getD i PyData.none).Pairwise (λa b=>Fk a b=true):=by
 rw[cV];refine gA.mpr λi j c hj h=>?_;have e:j<n:=by rw[<- d.size];simpa using hj
 have:=g i j h e;have f:p.getD i 0=p.toList[i]:=by simp[Array.getD,show i<p.size by simpa using c]
 have k:p.getD j 0=p.toList[j]:=by simp[Array.getD,show j<p.size by simpa using hj]
 rw[f,k]at this;exact this
def Gn{a:Type}(xs:oA a)(d:a):(List.range xs.length).map (λi=>xs.getD i d)=xs:=by apply h_;intro i;rw[F_];by_cases h:i<xs.length;rw[jG h,Fl (d:=d) h];rfl;rw[bG<|by simpa using h,bG<|by simpa using h];rfl
end L2
namespace L2
open PySem
def Ei(xs:oC Nat):Prop:=xs.toList.Pairwise (· < ·)
def Ei.lt{xs:oC Nat}(h:Ei xs){i j:Nat}{d:Nat}(a:i<j)(hj:j<xs.size):xs.getD i d<xs.getD j d:=by have:=gA.mp h i j (by simp;exact eQ a hj) (by simpa using hj) a;simp only[Array.getElem_toList]at this;simp only[Array.getD,show i<xs.size from Nat.lt_trans a hj,hj,dif_pos];exact this
theorem Lk{xs:oC Nat}(h:Ei xs){j:Nat}:∀(f lo a:Nat),a-lo<=f->lo<=a->a<=xs.size->(∀i,i<lo->xs.getD i j<j)->(∀i,a<=i->i<xs.size->j<=xs.getD i j) ->
  SetTable.below.go xs j f lo a<=xs.size/\(∀i,i<SetTable.below.go xs j f lo a->xs.getD i j<j)/\∀i,SetTable.below.go xs j f lo a<=i->i<xs.size->j<=xs.getD i j
 | 0,lo,a,h1,h2,g,b,k=>by
  have e:lo=a:=by omega
  subst e;exact⟨g,b,k⟩
 |f+1,lo,a,h1,h2,g,b,k=>by
  rw[SetTable.below.go];by_cases c:lo<a;rw[R_ c];dsimp only;by_cases c2:xs.getD ((lo+a) / 2) j<j;rw[R_ c2];refine Lk h f _ _ (by omega) (by omega) g (λi l=>?_) k;by_cases e:i=(lo+a) / 2;rw[e];exact c2;have:=h.lt (d:=j) (show i<(lo+a) / 2 by omega) (show(lo+a) / 2<xs.size by omega);exact eQ this c2;rw[N_ c2];refine Lk h f _ _ (by omega) (by omega) (by omega) b λi l m=>?_;by_cases e:i=(lo+a) / 2;rw[e];exact jX c2;have:=h.lt (d:=j) (show(lo+a) / 2<i by omega) m;omega;rw[N_ c];have e:lo=a:=by omega
  subst e;exact⟨g,b,k⟩
def Fm{xs:oC Nat}(h:Ei xs)(j:Nat):SetTable.below xs j<=xs.size/\(∀i,i<SetTable.below xs j->xs.getD i j<j)/\∀i,SetTable.below xs j<=i->i<xs.size->j<=xs.getD i j :=
 Lk h xs.size 0 xs.size (Nat.sub_le _ _) (aU _) (H_ _) (λi a=>absurd a<|fJ _) λi a b=>by omega
def Tb{xs:oC Nat}(h:Ei xs){k:Nat}(hk:k<xs.size):SetTable.below xs (xs[k]+1)=k+1:=by
 obtain⟨f,e,b⟩:=Fm h<|xs[k]+1;have g:∀i,(a:i<xs.size)->xs.getD i (xs[k]+1)=xs[i]:=λi a=>by simp[Array.getD,a]
 rcases jU (SetTable.below xs<|xs[k]+1) (k+1) with c|c|c;have:=b k (dO c) hk;rw[g k hk]at this;omega;exact c;have h1:k+1<xs.size:=S_ c f;have:=e (k+1) c;rw[g _ h1]at this;have h2:=h.lt (d:=0) (fW k) h1;simp only[Array.getD,hk,h1,dif_pos]at h2;have j:xs[k]<xs[k+1]:=h2;omega
def Tc{xs:oC Nat}(h:Ei xs):SetTable.below xs 0=0:=by obtain⟨c,a,b⟩:=Fm h 0;rcases Nat.eq_zero_or_pos (SetTable.below xs 0) with e|e;exact e;have:=a 0 e;omega
def Go{a:Type}(xs:oC a)(p:Nat)(x:a)(hp:p<=xs.size):(SetTable.insertAt xs p x).toList=xs.toList.take p++x::xs.toList.drop p:=by rw[SetTable.toList_insertAt]
def Qu{xs:oC Nat}(h:Ei xs){j:Nat}(hj:xs[SetTable.below xs j]?≠some j):Ei (SetTable.insertAt xs (SetTable.below xs j) j):=by
 obtain⟨m,p,n⟩:=Fm h j;unfold Ei;rw[Go _ _ _ m];have l:∀a∈xs.toList.take (SetTable.below xs j),a<j:=λa ha=>by
  obtain⟨i,f,e⟩:=jH ha;have h1:i<SetTable.below xs j:=by rw[aD]at f;omega
  have:=p i h1;simp only[Array.getD,show i<xs.size from Nat.lt_of_lt_of_le h1 m,dif_pos]at this;rw[<- e];simpa using this
 have hd:∀a∈xs.toList.drop (SetTable.below xs j),j<a:=λa ha=>by
  obtain⟨i,f,e⟩:=jH ha;have h1:SetTable.below xs j+i<xs.size:=by rw[aH]at f;simp at f;omega
  have h2:=n _ (c_ _ i) h1;simp only[Array.getD,h1,dif_pos]at h2;have s:a=xs[SetTable.below xs j+i]:=by rw[<- e];simp
  have u:a≠j:=by
   intro z;by_cases c:i=0;subst c;apply hj;rw[aY<|by omega];exact cF some<|s.symm.trans z;have g:SetTable.below xs j<xs.size:=by omega
   have k:=n _ (H_ _) g;simp only[Array.getD,g,dif_pos]at k;have o:=h.lt (d:=0) (show SetTable.below xs j<SetTable.below xs j+i by omega) h1;simp only[Array.getD,g,h1,dif_pos]at o;have q:xs[SetTable.below xs j]<xs[SetTable.below xs j+i]:=o;have t:j<=xs[SetTable.below xs j]:=k;omega
  have r:j<=xs[SetTable.below xs j+i]:=h2;omega
 refine iZ.mpr ⟨h.sublist<|List.take_sublist _ _,fF.mpr ⟨hd,h.sublist<|List.drop_sublist _ _⟩,λa ha b hb=>?_⟩;rcases Z_.mp hb with rfl|hb;exact l a ha;have:=l a ha;have:=hd b hb;omega
structure TblOk(t:SetTable)(led:Bool):Prop where
 rise:Ei t.place
 dum:t.dummies=#[]
 led:t.led=led
def Td(n:Nat):Ei (Array.range n):=by unfold Ei;rw[Array.toList_range];exact dP
def TblOk.standIn{t:SetTable}{led:Bool}(h:TblOk t led)(n:Nat):TblOk (t.standIn n) led:=⟨Td n,rfl,h.led⟩
def TblOk.orStandIn{t:SetTable}{led:Bool}(h:TblOk t led)(n:Nat):TblOk (t.orStandIn n) led:=by unfold SetTable.orStandIn;split;exact h;exact h.standIn n
def TblOk.plain{t:SetTable}{led:Bool}(h:TblOk t led)(b:Bool):TblOk {t with plain:=b} led:=⟨h.rise,h.dum,h.led⟩
def Ll(j:Nat):SetTable.has #[] j=false:=by unfold SetTable.has;simp
def Lm{t:SetTable}{led:Bool}(h:TblOk t led){j:Nat}(e:t.slot j=.empty):t.place[SetTable.below t.place j]?≠some j:=by unfold SetTable.slot at e;dsimp only at e;split at e;cases e;rename_i c;simpa using c
def Te{t:SetTable}{led:Bool}(h:TblOk t led){j:Nat}:t.slot j≠.dummy:=by unfold SetTable.slot;dsimp only;rw[h.dum,Ll];split;intro z;cases z;intro z;cases z
def Mr(t:SetTable)(p:SetTable.Probe):(t.advance p).dummy=p.dummy:=by unfold SetTable.advance;split<;>rfl
theorem Jo{t:SetTable}{led:Bool}(h:TblOk t led){hashAt:Nat->Int}{a:Int}{j:Nat}{d:oB Nat}:∀(f:Nat) (p:SetTable.Probe),p.dummy=none->SetTable.probe.go t hashAt a f p=some (.empty j d)->d=none/\t.slot j=.empty
 | 0,_,_,e=>by simp[SetTable.probe.go]at e
 |f+1,p,hp,e=>by
  rw[SetTable.probe.go]at e;cases c:t.slot p.j with
  |empty=>rw[c]at e;have b:=aE e;injection b with e1 e2;exact⟨e2.symm.trans hp,by rw[<- e1];exact c⟩
  |dummy=>exact absurd c (Te h)
  |live i=>rw[c]at e;dsimp only at e;split at e;cases e;exact Jo h f _ ((Mr t p).trans hp) e
def GC{t:SetTable}{led:Bool}(h:TblOk t led){g:Int}{s:Nat}{b:Bool}(e:t.freeSlot g=some (s,b)):t.place[SetTable.below t.place s]?≠some s:=by unfold SetTable.freeSlot SetTable.probe at e;split at e;rename_i j d c;obtain⟨rfl,f⟩:=Jo h _ _ rfl c;have i:=aE e;have a:j=s:=cF Prod.fst i;rw[<- a];exact Lm h f;cases e
def TblOk.put{t:SetTable}{led:Bool}(h:TblOk t led){s:Nat}(hs:t.place[SetTable.below t.place s]?≠some s):TblOk (t.put s).1 led:=by refine⟨Qu h.rise hs,?_,h.led⟩;show(if SetTable.has t.dummies s then _ else t.dummies)=#[];rw[h.dum,Ll];rfl
def TblOk.layNew{t:SetTable}{led:Bool}(h:TblOk t led)(es:oC<|Int×kJ)(a:Int)(x:kJ):TblOk (layNew t es a x).2.1 led:=by unfold PySem.layNew;split;rename_i s b c;exact(h.put<|GC h c).orStandIn _;exact h.standIn _
theorem TblOk.laid{mask finger moves:Nat}{led plain:Bool}{hs:oC Int}{t:SetTable}{h:oC Nat}(e:SetTable.laid mask finger moves led plain hs=some (t,h)):TblOk t led:=by
 unfold SetTable.laid at e;cases c:SetTable.layClean mask hs with
 |none=>rw[c]at e;cases e
 |some d=>rw[c]at e;have i:=aE e;injection i with e1 _;subst e1;refine⟨?_,rfl,rfl⟩;unfold Ei;show(List.map _ _).Pairwise _;rw[cV];refine List.Pairwise.filterMap _ (R:=(· < ·)) (λa j f b hb k g=>?_) dP;obtain⟨z,_,rfl⟩:=W_.mp hb;obtain⟨l,_,rfl⟩:=W_.mp g;exact f
def TblOk.relayAll{t:SetTable}{led:Bool}(h:TblOk t led)(es:oC<|Int×kJ)(w:Nat):TblOk (relayAll t es w).2.1 led:=by unfold PySem.relayAll;split;rename_i a b c;dsimp only;split;have:=TblOk.laid c;rw[h.led]at this;exact this;exact h.standIn _;exact h.standIn _
def TblOk.fresh(led:Bool):TblOk (.fresh 0 0 led) led:=⟨List.Pairwise.nil,rfl,rfl⟩
section
variable {prog:kO}{w:kP}{Kt:Type} [DecidableEq Kt]{knd:KeyKind prog w Kt}{A:kR}{E:kJ->kK->Prop}{s:kK}{a:kM}{led:Bool}
def Ej(knd:KeyKind prog w Kt)(h:kS)(a:kM)(l:oA<|Int×kJ)(led:Bool):Prop :=
 ∃o b c t,h.get? a=some o/\o.ExactSet/\o.data=.set b c t/\b.toList=l/\ElemsOf knd l/\t.fits b.size=true/\TblOk t led
def Nn{h:kS}{o:kT}{es:oC<|Int×kJ}{ep:Nat}{t:SetTable}(f:h.get? a=some o)(c:o.ExactSet)(hd:o.data=.set es ep t){b:oC<|Int×kJ}{t':SetTable}(g:ElemsOf knd b.toList)(hf:t'.fits b.size=true)(d:TblOk t' led) :
  (h.update a<|Obj.putSet b t').get? a=some {o with data:=.set b (ep+1) t'}/\Ej knd (h.update a<|Obj.putSet b t') a b.toList led:=by
 have e:=aX (Obj.putSet b t') f (by rw[putSet_of b t' hd];rfl);rw[putSet_of b t' hd]at e;exact⟨e,_,b,ep+1,t',e,c,rfl,rfl,g,hf,d⟩
def Qv{g:Bool->Sem Unit}(F:∀(b:Bool) (m:kK) (q:Unit->kK->Prop),q () m->qX prog w A (g b) q E m){o:kT}{es:oC<|Int×kJ}{ep:Nat}{t:SetTable}(p:s.heap.get? a=some o)(n:o.ExactSet)(hd:o.data=.set es ep t)
  {c:oC<|Int×kJ} {d:SetTable} (B:ElemsOf knd c.toList) (hb:c.size<scanBound) (hf:d.fits c.size=true) (u:TblOk d led) {D:Bool} {R:oB Bool->kK->Prop}
  (h:∀k y,Heap.SameBut a s.heap k->Ej knd k a y led->y.Perm c.toList->R (some true) {s with heap:=k}) :
  qX prog w A (do
   storeSet a c d
   if(!D&&d.tooFull)=true then do
    g (relayAll d c<|SetTable.grown c.size).2.2
    storeSet a (relayAll d c<|SetTable.grown c.size).1 (relayAll d c<|SetTable.grown c.size).2.1
    pure (some true)
   else pure<|some true) R E s:=by
 obtain⟨r,C⟩:=Nn (knd:=knd) (led:=led) p n hd B hf u;refine A_<|iA p hd ?_<|fits_of_scanBound hb;have x:=b_ s.heap a<|Obj.putSet c d;split;have i:=relayAll_perm d c<|SetTable.grown c.size;have l:=relayAll_fits d c<|SetTable.grown c.size;have j:=u.relayAll c<|SetTable.grown c.size;generalize relayAll d c (SetTable.grown c.size)=R1 at i l j ⊢;obtain⟨f,H,v⟩:=R1;dsimp only at i l j ⊢;have z:f.size<scanBound:=by
  have e:f.size=c.size:=by rw[<- aO,i.length_eq,aO]
  rw[e];exact hb
 obtain⟨_,G⟩:=Nn (knd:=knd) (led:=led) r n rfl (B.perm i) l j;exact A_<|F _ _ _<|A_<|iA r rfl (DD<|h _ _ (x.trans<|b_ _ a _) G i)<|fits_of_scanBound z;exact DD<|h _ _ x C<|jN _
def add_set{l:oA<|Int×kJ}{k:Kt}{x:kJ}{Q:Bool->kK->Prop}(hx:knd.is k x=true)(hs:x.scannable=true)(H:Ej knd s.heap a l led)(hb:l.length+1<scanBound)
  (h1:(∃e∈l,knd.is k e.2=true)->Q false s) (h2:(∀e∈l,knd.is k e.2=false)->∀d f,Heap.SameBut a s.heap d->Ej knd d a f led->f.Perm (l++[(knd.hash k,x)])->Q true {s with heap:=d}) :
  qX prog w A (setAddHashed a x<|knd.hash k) Q E s:=by
 obtain⟨o,h,N,t,y,F,hd,rfl,B,hf,J⟩:=H;rw[aO]at hb;have C:h.size<scanBound:=by omega
 unfold setAddHashed setAddHashedIn;refine aT<|A_<|bB y hd hf<|show wpAny _ _ _ _ _ _ from ?_;dsimp only;rw[byScan_of hs C B,R_ rfl];unfold setAddByScan;refine A_<|A_<|eC<|A_<|wpAny_setScan_of hx y hd hf B ?_;cases c:List.findIdx? (λe=>knd.is k e.2) h.toList with
 |some j=>obtain⟨hj,hp,_⟩:=eM.mp c;exact DD (DD<|h1 ⟨_,aL hj,hp⟩)
 |none=>
  have L:=List.findIdx?_eq_none_iff.mp c;have g:=layNew_perm t h (knd.hash k) x;have n:=layNew_fits t h (knd.hash k) x;have r:=J.layNew h (knd.hash k) x;dsimp only;generalize layNew t h (knd.hash k) x=L1 at g n r ⊢;obtain⟨z,P,M,O⟩:=L1;dsimp only at g n r ⊢;rw[Array.toList_push]at g;have D:ElemsOf knd z.toList:=(B.push hx hs).perm g;have G:z.size<scanBound:=by rw[<- aO,g.length_eq,J_,aO];exact hb
  have I:∀(b:Bool) (i:kK) (p:Unit->kK->Prop),p () i->qX prog w A (match b with|true=>rule "set.scan.the-table-gave-way" |false=>pure ()) p E i:=λb i p q=>by cases b;exact DD q;exact eC q
  have fin:∀d f,Heap.SameBut a s.heap d->Ej knd d a f led->f.Perm z.toList->Q true {s with heap:=d}:=λd f v u m=>h2 (λe he=>by simpa using L e he) d f v u<|m.trans g;refine A_<|I _ _ _ ?_;split;refine A_<|show wpAny _ _ (hashByValue 8 x) _ _ _ from ?_;rw[hashByValue_scannable 8 hs];refine DD<|Qv (led:=led) (λb i p q=>?_) y F hd D G ?_ ?_ λd f v u m=>?_;cases b;exact DD q;exact eC q;split;exact n;exact SetTable.fits_plain_off n;split;exact r;exact r.plain false;dsimp only;exact DD<|fin d f v u m;refine A_<|DD<|show wpAny _ _ _ _ _ _ from ?_;rw[R_ rfl];refine Qv (λb i p q=>?_) y F hd D G n r λd f v u m=>?_;cases b;exact DD q;exact eC q;dsimp only;exact DD<|fin d f v u m
end
def Dw:plainId "set.update.loop" = true:=by decide +kernel
def Hr:entryFor table "set.update.loop" = some Builtin.«set.update.loop»:=entryFor_of_tree<|by kernel_rfl
section
variable {prog:kO}{w:kP}{Kt:Type} [DecidableEq Kt]{knd:KeyKind prog w Kt}{A:kR}{R:kZ->kK->Prop}{sa it t:kM}{led:Bool}
def Unlike(knd:KeyKind prog w Kt)(l:oA<|Int×kJ):Prop:=l.Pairwise λe a=>∀k,knd.is k e.2=true->knd.is k a.2=false
def Keys(knd:KeyKind prog w Kt)(l:oA<|Int×kJ)(ks:oA Kt):Prop:=∀k,(∃e∈l,knd.is k e.2=true)↔k∈ks
def Unlike.add{l:oA<|Int×kJ}{x:kJ}{k:Kt}{h:Int}(hl:Unlike knd l)(hx:knd.is k x=true)(f:∀e∈l,knd.is k e.2=false):Unlike knd (l++[(h,x)]):=by
 refine iZ.mpr ⟨hl,List.pairwise_singleton _ _,λe he i g a b=>?_⟩;have d:i=(h,x):=by simpa using g
 subst d;cases c:knd.is a x with
 |false=>rfl
 |true=>have:=knd.inj x a k c hx;subst this;rw[f e he]at b;cases b
def Unlike.perm{l a:oA<|Int×kJ}(h:Unlike knd l)(p:a.Perm l):Unlike knd a:=by
 refine(List.Perm.pairwise_iff (R:=λ(e b:Int×kJ)=>∀k,knd.is k e.2=true->knd.is k b.2=false) (λ{e b} hh k hk=>?_) p.symm).mp h;cases c:knd.is k e.2 with
 |false=>rfl
 |true=>rw[hh k c]at hk;cases hk
theorem Qw:∀{ks:oA Kt} {vs:oA kJ} {i:Nat} {x:kJ},ItemsAre knd ks vs->vs[i]?=some x->∃k,ks[i]?=some k/\knd.is k x=true
 |_,_,_,_,.nil,h=>by simp at h
 |_,_,0,_,.cons h1 _,h=>by simp at h;subst h;exact⟨_,rfl,h1⟩
 |_,_,i+1,_,.cons _ t,h=>by simpa using Qw (i:=i) t (by simpa using h)
end
section
variable {prog:kO}{w:kP}{A:kR}{E:kJ->kK->Prop}{s:kK}
def AW{M:Model}{self v:kJ}{Q:Unit->kK->Prop}(a:s.TypeIs self "set") (q:Q () s):wpAny M A (checkBuiltinCall "set.__init__" ⟨[self,v],[]⟩) Q E s:=by
 simp only[checkBuiltinCall,kind_set_init,split_set_init,sig_set_init];refine A_<|eI a sub_set_self<|show wpAny _ _ _ _ _ _ from ?_;rw[show(!true)=false from rfl,N_ X_];unfold Bind.checkArgs;dsimp only;refine A_ (m:=Bind.printed "set" true _ _) (PyProof.Rows.printed_name (by decide)<|A_ (m:=Bind.printed "*" false _ _)<|PyProof.Rows.printed_star (self:=self) rfl a λb=>?_);have e:(if(Manifest.Receiver.self==Manifest.Receiver.none)=true then [self,v].length else [self,v].length-1)=1:=rfl;rw[e];have hc:Bind.check ⟨.positional,"set","*",.self,[⟨"iterable",.posOnly,false⟩]⟩ "set" b 1 []=pure ():=by simp +decide [Bind.check,Bind.checkCount,Bind.isPositional]
 simp only[List.map_nil];rw[hc];exact DD q
def GD(v:kJ):checkTypeCall "set" ⟨[v],[]⟩=pure ():=by kernel_rfl
def NP(v:kJ):checkBuiltinCall "set.__new__" ⟨[.type "set",v],[]⟩=pure ():=by kernel_rfl
def Fo(w:kP):Bool:=!(w.params.followText "set-order")
def B5(w:kP):kT:={cls:=.type "set",dict:=none,data:=.set #[] 0 (.fresh 0 0<|Fo w)}
def GE{v:kJ}{Q1:kJ->kK->Prop}(h:Q1 (.ref s.heap.objs.size) {s with heap:=s.heap.push<|B5 w}) :
  codeAny (model prog w) A (.call (.builtin "set.__new__") ⟨[.type "set",v],[]⟩) (wants Q1 E) s:=by
 refine codeAny_of_tree<|show wpAny _ A.in1 (do checkBuiltinCall "set.__new__" ⟨[.type "set",v],[]⟩;again<|.builtin "set.__new__" ⟨[.type "set",v],[]⟩) _ _ s from ?_;refine A_<|kH (NP v)<|DD ⟨dM F.plain_set_new _,cY F.entry_set_new<|show wpAny _ _ _ _ _ _ from ?_⟩;rw[bV F.plain_set_new _];unfold Builtin.«set.__new__» Builtin.Frozenset.newClass;have b:=sub_set_self;obtain⟨hp,g,d,a,os⟩:=s;dsimp only
 wp_walk
 refine j_<|DD<|show wpAny _ _ _ _ _ _ from ?_;dsimp only;simp only[newObj];exact A_<|wpAny_alloc<|DD<|DD h
def Ln{v:kJ}{Q:kJ->kK->Prop}(h:wpAny (model prog w) A.in1.in1 (Builtin.Frozenset.updateFrom "set.__init__" s.heap.objs.size v) (λ_ a=>Q (.ref s.heap.objs.size) a) E {s with heap:=s.heap.push<|B5 w}) :
  wpAny (model prog w) A (call (.type "set") [v]) Q E s:=by
 obtain⟨c,n,j⟩:=F.called_set.mro;have B:=F.called_set.made;have y:=F.called_set.sub;refine jK<|codeAny_of_tree<|show wpAny _ _ (callAny (.type "set") _) _ _ _ from ?_;refine DD ⟨jM _<|by decide +kernel,cY F.entry_type_call ?_⟩;rw[Around.under_plain (weight_type_call_type "set" [v] []) rfl];have t:=F.called_set.notType;have p:=F.called_set.canCreate;have x:=GD v
 repeat any_goals first|assumption|wp_step
 refine fU (GE (E:=E) (Q1:=λk i=>k=.ref s.heap.objs.size/\i={s with heap:=s.heap.push<|B5 w}) ⟨rfl,rfl⟩) λr i f=>?_;cases r with
 |error e=>exact f
 |ok fl=>
  cases fl with
  |ret k=>
   obtain⟨rfl,rfl⟩:=f;have g:(s.heap.push<|B5 w).get? s.heap.objs.size=some (B5 w):=I_ _ rfl;have T:Shared.TypeIs {s with heap:=s.heap.push<|B5 w} (.ref s.heap.objs.size) "set" := ⟨_,g,rfl⟩;have u:=F.called_set.init.lookup;have m:=F.called_set.init.bind<|.ref s.heap.objs.size
   repeat any_goals first|assumption|wp_step
   refine fU (iY (R:=wants (λr a=>r=.none/\Q (.ref s.heap.objs.size) a) E) F.called_set.init.plain F.entry_set_init<|AW T ?_) λl a b=>?_
   ·unfold Builtin.«set.__init__» noKeywords;generalize o:Builtin.Frozenset.updateFrom=U at h ⊢;unfold B5 at g
    wp_walk
    exact a_ h (λ_ _ q=>DD ⟨rfl,q⟩) λ_ _ e=>e
   ·cases l with
    |error e=>exact b
    |ok d=>
     cases d with
     |ret z=>
      obtain⟨rfl,q⟩:=b
      repeat any_goals first|assumption|wp_step
     |_=>exact b.elim
  |_=>exact f.elim
def Jp:isSubtype (.type "tuple") (.type "set")=pure false:=by rw[fR];kernel_rfl
def Jq:isSubtype (.type "tuple") (.type "frozenset")=pure false:=by rw[fR];kernel_rfl
end
section
variable {prog:kO}{w:kP}{Kt:Type} [DecidableEq Kt]{knd:KeyKind prog w Kt}{A:kR}{E:kJ->kK->Prop}{s:kK}{sa t:kM}{led:Bool}
def Tf:ElemsOf knd []:=λe he=>by cases he
def No:Keys knd [] []:=λk=>⟨by rintro ⟨e,he,_⟩;exact (by cases he),λh=>(by cases h)⟩
def Lo{h:kS}:Ej knd (h.push<|B5 w) h.objs.size [] (Fo w) :=
 ⟨_,#[],0,_,I_ _ rfl,⟨rfl,rfl,rfl⟩,rfl,rfl,Tf,rfl,TblOk.fresh _⟩
end
def Qx:Manifest.owners.lookup (String.ofList ['r','o','t','a','r','e','t','i','_','t','e','s'].reverse)=some Manifest.sig_set_iterator:=by kernel_rfl
def Ew:Slot "set_iterator" "__next__" "set_iterator.__next__" := .of (owner := "set_iterator") (n := "__next__") (by rw[typeLookup_type,builtinLookup_eq_fast];kernel_rfl) (by decide +kernel) (by decide +kernel) (by decide +kernel) (.inl<|by decide +kernel)<|by rw[fR];kernel_rfl
def Qz:entryFor table "set_iterator.__next__" = some Builtin.«set_iterator.__next__»:=entryFor_of_tree<|by kernel_rfl
def U7(a:kJ):argsOk "set_iterator.__next__" ⟨[a],[]⟩:=by rw[argsOk,signature?_of (id := "set_iterator.__next__") (n:=['_','_','t','x','e','n','_','_']) (o:=['r','o','t','a','r','e','t','i','_','t','e','s']) (by kernel_rfl) Qx];kernel_rfl
def U8:Slot "set_iterator" "__iter__" "set_iterator.__iter__" := .of (owner := "set_iterator") (n := "__iter__") (by rw[typeLookup_type,builtinLookup_eq_fast];kernel_rfl) (by decide +kernel) (by decide +kernel) (by decide +kernel) (.inl<|by decide +kernel)<|by rw[fR];kernel_rfl
def AY(a:kJ):argsOk "set_iterator.__iter__" ⟨[a],[]⟩:=by rw[argsOk,signature?_of (id := "set_iterator.__iter__") (n:=['_','_','r','e','t','i','_','_']) (o:=['r','o','t','a','r','e','t','i','_','t','e','s']) (by kernel_rfl) Qx];kernel_rfl
def Xb:entryFor table "set_iterator.__iter__" = some Builtin.«dict_keyiterator.__iter__»:=entryFor_alias (id' := "dict_keyiterator.__iter__") (by kernel_rfl) (by first|rfl|decide +kernel) (by decide +kernel)<|by kernel_rfl
def Tg:entryFor table "set.__iter__" = some Builtin.«frozenset.__iter__»:=entryFor_alias (id' := "frozenset.__iter__") (by kernel_rfl) (by first|rfl|decide +kernel) (by decide +kernel)<|by kernel_rfl
section
variable {prog:kO}{w:kP}{A:kR}{E:kJ->kK->Prop}{s:kK}
def Th{M:Model}{c:Source}{n:Nat}{Q:Nat->kK->Prop}(a:n≠0)(h:∀i b,i<n->Q i {s with drawn:=b}):wpAny M A (choose c n) Q E s:=λΓ p _=>by unfold choose;rw[Sem.wp_choose];refine⟨a,?_⟩;rw[Sem.wp_pure];exact h _ _<|Nat.mod_lt _<|Nat.pos_of_ne_zero a
theorem Iv{a:Type}:∀{xs:oA a} {i:Nat} {x:a},xs[i]?=some x->(x::xs.eraseIdx i).Perm xs
 |_::_,0,_,h=>by simp at h;subst h;exact jN _
 |y::b,i+1,x,h=>by have:=Iv (xs:=b) (i:=i) (x:=x) (by simpa using h);exact(List.Perm.swap y x _).trans<|this.cons y
theorem Lp{M:Model}{c:Type}:∀(n:Nat) (xs:oA c) (s:kK) (Q:oA c->kK->Prop),xs.length=n->(∀b g,b.Perm xs->Q b {s with drawn:=g})->wpAny M A (drawOrder n xs) Q E s
 | 0,xs,s,Q,a,h=>by have:xs=[]:=bS a;subst this;exact DD (h [] s.drawn<|jN _)
 |n+1,[],s,Q,a,h=>by cases a
 |n+1,x::xs,s,Q,a,h=>by unfold drawOrder;refine A_ (Th (by simp) λi j d=>?_);have e:(x::xs)[i]?=some (x::xs)[i]:=D_ d;rw[e];refine A_<|Lp n _ _ _ ?_ λb f hp=>DD<|h _ f<|(hp.cons _).trans<|Iv e;rw[List.length_eraseIdx_of_lt d];simp at a ⊢;exact a
theorem U9{d:Type}(next:Nat->Nat):∀(n k:Nat) (left:oA d) (a:oC d),left.length=n->(pickOrder.go next n k left a).toList.Perm (a.toList++left)
 | 0,k,left,a,c=>by have:left=[]:=bS c;subst this;unfold pickOrder.go;simp
 |n+1,k,left,a,c=>by
  unfold pickOrder.go;have b:next k%left.length<left.length:=Nat.mod_lt _<|by omega
  have e:left[next k%left.length]?=some left[next k%left.length]:=D_ b;rw[e];dsimp only;refine(U9 next n (k+1) _ _ (by rw[List.length_eraseIdx_of_lt b];omega)).trans ?_;rw[Array.toList_push,eP];exact(Iv e).append_left _
def Xc{a:Type}(next:Nat->Nat)(xs:oC a):(pickOrder next xs).toList.Perm xs.toList:=by unfold pickOrder;simpa using U9 next xs.size 0 xs.toList #[] (by simp)
def Ek(h:kS)(a:kM)(es:oC<|Int×kJ)(ep:Nat)(t:SetTable):Prop:=∃o,h.get? a=some o/\o.cls=.type "set" /\ o.data=.set es ep t/\t.fits es.size=true
def Ek.typeIs{a:kM}{es:oC<|Int×kJ}{ep:Nat}{t:SetTable}(x:Ek s.heap a es ep t):s.TypeIs (.ref a) "set" := by obtain⟨o,b,hc,_⟩:=x;exact⟨o,b,hc⟩
def Ek.at{h h':kS}{a:kM}{es:oC<|Int×kJ}{ep:Nat}{t:SetTable}(x:Ek h a es ep t)(e:∀o,h.get? a=some o->h'.get? a=some o):Ek h' a es ep t:=by obtain⟨o,b,r⟩:=x;exact⟨o,e _ b,r⟩
def Gp(h:kS)(b a:kM)(first:kJ)(i n ep:Nat):Prop:=∃o,h.get? b=some o/\o.cls=.type "set_iterator" /\ o.data=.fields #[first,rawInt i,.ref a,rawInt n,rawInt ep]
def Gp.typeIs{b a:kM}{first:kJ}{i n ep:Nat}(x:Gp s.heap b a first i n ep):s.TypeIs (.ref b) "set_iterator" := by obtain⟨o,c,hc,_⟩:=x;exact⟨o,c,hc⟩
def Gp.at{h h':kS}{b a:kM}{first:kJ}{i n ep:Nat}(x:Gp h b a first i n ep)(e:∀o,h.get? b=some o->h'.get? b=some o):Gp h' b a first i n ep:=by obtain⟨o,c,r⟩:=x;exact⟨o,e _ c,r⟩
def Lq(pl:oC Nat):Nat->Nat
 | 0=>0
 |i+1=>pl.getD i 0+1
inductive Mode (w:kP) (a:kM) (es:oC<|Int×kJ) (ep:Nat) (t:SetTable) (h:kS):Nat->kJ->oA kJ->Prop
 |text {i:Nat} (hb:w.params.followText "set-order" = true):Mode w a es ep t h i (rawInt 0) ((pickOrder (w.params.setOrder a ep) es).toList.map (·.2))
 |table {i:Nat} (hb:w.params.followText "set-order" = false) (hd:(!t.plain&&decide (es.size>1))=false):Mode w a es ep t h i (rawInt<|Lq t.place i) (es.toList.map (·.2))
 |drawn {i:Nat} {pt:kM} {ps:oA Nat} (hb:w.params.followText "set-order" = false) (hp:ps.Perm<|List.range es.size) (ht:h.IsTuple pt (ps.map λ(j:Nat)=>rawInt j).toArray):Mode w a es ep t h i (.ref pt)<|ps.map λj=>(es.getD j (0,.none)).2
def Xd{a:Type}(xs:oC a)(d:a):(List.range xs.size).map (λj=>xs.getD j d)=xs.toList:=by refine List.ext_getElem (by simp) λi h1 h2=>?_;simp at h1 h2 ⊢;simp[h1]
def Mode.perm{a:kM}{es:oC<|Int×kJ}{ep:Nat}{t:SetTable}{h:kS}{i:Nat}{first:kJ}{ord:oA kJ}(m:Mode w a es ep t h i first ord):ord.Perm (es.toList.map (·.2)):=by
 cases m with
 |text hb=>exact(Xc _ _).map _
 |table hb hd=>exact jN _
 |@drawn d b hb hp c=>have:=hp.map λj=>(es.getD j (0,Value.none)).2;refine this.trans<|List.Perm.of_eq ?_;rw[<- Xd es (0,Value.none),aJ];rfl
def Gw{Q:Bool->kK->Prop}(h:Q (w.params.followText "set-order") s):qX prog w A setsByText Q E s:=by unfold setsByText;exact A_<|j_<|DD h
def Ti{a:kM}{es:oC<|Int×kJ}{ep:Nat}{t:SetTable}{Q:kJ->kK->Prop}(j:Ek s.heap a es ep t)(hz:es.size<=1000000)
  (h:∀g f p first ord,s.heap.objs.size<=g->(∀b o,s.heap.get? b=some o->f.get? b=some o)->Gp f g a first 0 es.size ep->Mode w a es ep t f 0 first ord->(∀c,first=.ref c->s.heap.objs.size<=c/\c≠g)->Q (.ref g) {s with heap:=f,drawn:=p}) :
  qX prog w A (pyIter<|.ref a) Q E s:=by
 obtain⟨o,d,hc,hd,hf⟩:=id j;refine wpAny_pyIter_slot j.typeIs F.slot_set_iter<|bQ F.slot_set_iter j.typeIs Tg ?_<|F.args_set_iter_1 _;unfold Builtin.«frozenset.__iter__» Builtin.Frozenset.sizeOf setEntries setDrawn setEpoch;refine(show wpAny _ _ (_>>=_) _ _ _ from A_<|show wpAny _ _ (pure a) _ _ _ from DD<|A_<|A_<|A_<|bB d hd hf<|DD<|DD ?_);refine A_<|A_<|bB d hd hf<|A_<|Gw<|DD ?_;cases hb:w.params.followText "set-order" with
 |true=>refine(show wpAny _ _ (if(!true&&_)=true then _ else _) _ _ _ from ?_);rw[Bool.not_true,Bool.false_and,N_ X_];refine A_<|DD<|A_<|A_<|bB d hd hf<|DD<|A_<|bD<|DD ⟨_,rfl,"set_iterator",_,⟨_,I_ _ rfl,rfl⟩,Ew.lookup,?_⟩;exact h _ _ s.drawn _ _ (H_ _) (λb o e=>C_ _ e) ⟨_,I_ _ rfl,rfl,rfl⟩ (.text hb) λc e=>by cases e
 |false=>
  cases ge:(!t.plain&&decide (es.size>1)) with
  |false=>refine(show wpAny _ _ (if(!false&&(!t.plain&&decide (es.size>1)))=true then _ else _) _ _ _ from ?_);rw[ge,Bool.not_false,eV,N_ X_];refine A_<|DD<|A_<|A_<|bB d hd hf<|DD<|A_<|bD<|DD ⟨_,rfl,"set_iterator",_,⟨_,I_ _ rfl,rfl⟩,Ew.lookup,?_⟩;exact h _ _ s.drawn _ _ (H_ _) (λb o e=>C_ _ e) ⟨_,I_ _ rfl,rfl,rfl⟩ (.table hb ge) λc e=>by cases e
  |true=>
   refine(show wpAny _ _ (if(!false&&(!t.plain&&decide (es.size>1)))=true then _ else _) _ _ _ from ?_);rw[ge,Bool.not_false,eV,R_ rfl];refine A_ (Lp _ _ _ _ (by simp) λk n hp=>?_);refine A_ (m:=newTuple _)<|show wpAny _ _ _ _ _ _ from ?_;simp only[newTuple];have q:k.length<=1000000:=by rw[hp.length_eq];simpa using hz
   refine bD ?_ (by size_fits);have l:=C_ {cls:=Value.type "tuple",data:=Data.seq (List.map (λ(i:Nat)=>rawInt ↑i) k).toArray} d;refine A_<|A_<|bB l hd hf<|DD<|A_<|bD<|DD ⟨_,rfl,"set_iterator",_,⟨_,I_ _ rfl,rfl⟩,Ew.lookup,?_⟩;refine h _ _ n _ _ (by rw[cQ];exact fP _) (λb o e=>C_ _<|C_ _ e) ⟨_,I_ _ rfl,rfl,rfl⟩ (.drawn hb hp ⟨_,C_ _<|I_ _ rfl,rfl,0,rfl⟩) λc e=>?_;cases e;exact⟨H_ _,O_<|by rw[cQ];exact fW _⟩
def Tj{t:SetTable}(b:Ei t.place){i:Nat}(a:i<=t.place.size):SetTable.below t.place (Lq t.place i)=i:=by
 cases i with
 |zero=>exact Tc b
 |succ i=>have:=Tb b (k:=i)<|Nat.lt_of_succ_le a;show SetTable.below t.place (t.place.getD i 0+1)=i+1;rw[show t.place.getD i 0=t.place[i] by simp[show i<t.place.size from Nat.lt_of_succ_le a]];exact this
def Np{a:kM}{es:oC<|Int×kJ}{ep slot i:Nat}{t:SetTable}{Q:oB (kJ×Nat)->kK->Prop}(d:Ek s.heap a es ep t)(hb:w.params.followText "set-order" = true) (h:Q (((pickOrder (w.params.setOrder a ep) es)[i]?).map λe=>(e.2,slot)) s) :
  qX prog w A (setNext a slot i ep) Q E s:=by
 obtain⟨f,b,_,c,hf⟩:=d;unfold setNext;refine A_<|bB b c hf<|A_<|Gw<|show wpAny _ _ (if _=true then _ else _) _ _ _ from ?_;rw[R_ hb];refine(show wpAny _ _ (if(ep != ep)=true then _ else _) _ _ _ from ?_);rw[N_<|by simp];unfold setWalk;refine A_<|A_<|bB b c hf<|A_<|Gw<|show wpAny _ _ (if _=true then _ else _) _ _ _ from ?_;rw[R_ hb];exact A_<|j_<|DD<|DD h
def Lr{a:kM}{es:oC<|Int×kJ}{ep i g:Nat}{t:SetTable}{Q:oB (kJ×Nat)->kK->Prop}(k:Ek s.heap a es ep t)(d:TblOk t<|Fo w)(hb:w.params.followText "set-order" = false) (e:(!t.plain&&decide (es.size>1))=false) (l:i<=es.size)
  (h:Q (match es[i]?,t.place[i]? with|some (_,x),some j=>some (x,j+1)|_,_=>none) s):qX prog w A (setNext a (Lq t.place i) g ep) Q E s:=by
 obtain⟨m,b,_,c,hf⟩:=k;have f:t.place.size=es.size:=by simp[SetTable.fits]at hf;exact hf.1
 unfold setNext;refine A_<|bB b c hf<|A_<|Gw<|show wpAny _ _ (if _=true then _ else _) _ _ _ from ?_;rw[N_<|by rw[hb];exact X_];refine(show wpAny _ _ (if(!t.plain&&decide (es.size>1))=true then _ else _) _ _ _ from ?_);rw[e,N_ X_];refine A_<|show wpAny _ _ (if(!t.led && !es.isEmpty)=true then _ else _) _ _ _ from ?_;rw[N_<|by rw[d.led,Fo,hb];simp];refine DD<|show wpAny _ _ (pure _) _ _ _ from DD ?_;rw[Tj d.rise<|by omega];exact h
def Dj{a:kM}{o:kT}{vs:oC kJ}{i:Nat}{x:kJ}{Q:Unit->kK->Prop}(d:s.heap.get? a=some o)(hd:o.data=.fields vs)(e:i<vs.size)
  (h:∀b c,b.get? a=some c->c.cls=o.cls->c.data=.fields (vs.setIfInBounds i x)->Heap.SameBut a s.heap b->Q () {s with heap:=b}):qX prog w A (setField (.ref a) i x) Q E s :=
 eJ d hd e (h _ _ (aX _ d<|fL<|eK hd _) (Obj.cls_mapFields ..) (eK hd _)<|b_ ..)
def AZ{d a:kM}{es:oC<|Int×kJ}{ep:Nat}{t:SetTable}{first x:kJ}{i:Nat}{ord:oA kJ}{Q:oB kJ->kK->Prop}(D:Ek s.heap a es ep t)(Y:TblOk t<|Fo w)(u:Gp s.heap d a first i es.size ep)(W:Mode w a es ep t s.heap i first ord)(am:a≠d)(X:∀f,first=.ref f->f≠d)(hx:ord[i]?=some x) (H:∀b B,Gp b d a B (i+1) es.size ep->Mode w a es ep t b (i+1) B ord->(∀f,B=.ref f->first=.ref f)->Heap.SameBut d s.heap b->Q (some x) {s with heap:=b}) :
  qX prog w A (pyNext<|.ref d) Q E s:=by
 obtain⟨o,L,hc,hd⟩:=id u;obtain⟨oa,m,_,l,hf⟩:=id D;have J:t.place.size=es.size:=by simp[SetTable.fits]at hf;exact hf.1
 unfold pyNext;refine A_<|gE<|cH (name:=Str.ofString "__next__") u.typeIs Ew<|bQ Ew u.typeIs Qz ?_<|U7 _;unfold Builtin.«set_iterator.__next__»;refine(show wpAny _ _ (_>>=_) _ _ _ from A_<|show wpAny _ _ (pure (Value.ref d,[])) _ _ _ from DD<|show wpAny _ _ (fieldsOf (.ref d)>>=_) _ _ _ from A_<|wpAny_fieldsOf L hd<|show wpAny _ _ (setEntries a>>=_) _ _ _ from A_ ?_);refine(show wpAny _ _ (setState a>>=_) _ _ _ from A_<|bB m l hf<|DD<|show wpAny _ _ (if((es.size:Int) != (es.size:Int))=true then _ else _) _ _ _ from ?_);rw[N_<|by simp];have fin:∀(O:PySem.Fin->kK->Prop) (U:kJ->kK->Prop) (nx:Nat),(∀b,Gp b d a (rawInt nx) (i+1) es.size ep->Heap.SameBut d s.heap b->O (.done<|.ret x) {s with heap:=b}) ->
   qX prog w A.in1 (setField (.ref d) 0 (rawInt (nx:Nat))>>=λ_=>setField (.ref d) 1 (rawInt<|(i:Int)+1)>>=λ_=>ret x) O U s:=λO U nx q=>by
  refine A_ (Dj L hd (by simp) λh1 S k p N n=>A_<|Dj (s:={s with heap:=h1}) k N (by simp) λh2 V F c2 d2 Z=>DD<|q h2 ⟨V,F,c2.trans<|p.trans hc,?_⟩<|n.trans Z);rw[d2];simp[rawInt]
 cases W with
 |text hb=>
  refine(show wpAny _ _ (setNext a 0 i ep>>=_) _ _ _ from A_<|Np D hb ?_);obtain⟨e,he,rfl⟩:∃e,(pickOrder (w.params.setOrder a ep) es)[i]?=some e/\e.2=x:=by rw[F_,W_]at hx;obtain⟨e,he,r⟩:=hx;exact⟨e,by rw[<- aG];exact he,r⟩
  rw[he];exact fin _ _ 0 λb C v=>⟨_,rfl,DD<|H b _ C (.text hb) (λ_ z=>z) v⟩
 |table hb T=>
  have h:i<es.size:=by rw[F_]at hx;rcases dQ i es.size with c|c;exact c;simp[List.getElem?_eq_none,c]at hx
  refine(show wpAny _ _ (setNext a (Lq t.place i) i ep>>=_) _ _ _ from A_<|Lr D Y hb T (dN h) ?_);have he:es[i]?=some es[i]:=aY h;have hp:t.place[i]?=some (t.place.getD i 0):=by simp[J,h]
  have G:es[i].2=x:=by rw[F_,aG,he]at hx;exact aE hx
  rw[he,hp];dsimp only;rw[G];exact fin _ _ (t.place.getD i 0+1) λb C v=>⟨_,rfl,DD<|H b _ C (.table (i:=i+1) hb T) (λ_ z=>by cases z) v⟩
 |@drawn f g hb hp R=>
  have h:i<g.length:=by rcases dQ i g.length with c|c;exact c;rw[bG<|by simpa using c]at hx;cases hx
  have k:g[i]?=some g[i]:=D_ h;have P:g[i]<es.size:=by simpa using hp.mem_iff.mp (aL h)
  obtain⟨y,hy,G⟩:∃y,es[g[i]]?=some y/\y.2=x:=by rw[F_,k]at hx;have:=aE hx;exact⟨es[g[i]],aY P,by simpa [P] using this⟩
  obtain⟨ot,I,_,nt,M⟩:=id R;refine(show wpAny _ _ (seqItems? (.ref f)>>=_) _ _ _ from A_<|bR I M<|show wpAny _ _ _ _ _ _ from ?_);dsimp only;have F:((g.map λ(j:Nat)=>rawInt (j:Int)).toArray)[i]?=some (rawInt (g[i]:Int)):=by simp[k]
  rw[gY,F];refine(show wpAny _ _ (setNextDrawn a g[i] ep>>=_) _ _ _ from A_ ?_);unfold setNextDrawn;refine A_<|bB m l hf<|show wpAny _ _ (if(ep != ep)=true then _ else _) _ _ _ from ?_;rw[N_<|by simp,hy];refine DD ?_;rw[G];refine A_ (Dj L hd (by simp) λh1 S k p N n=>DD ⟨_,rfl,DD<|H h1 (.ref f) ⟨S,k,p.trans hc,?_⟩ (.drawn hb hp<|R.at λo e=>(n.2 f<|X f rfl).trans e) (λ_ z=>z) n⟩);rw[N];simp[rawInt]
def GF{c a:kM}{es:oC<|Int×kJ}{ep:Nat}{t:SetTable}{first:kJ}{ord:oA kJ}{Q:oB kJ->kK->Prop}(M:A.handled=none)(r:Ek s.heap a es ep t)(L:TblOk t<|Fo w)(l:Gp s.heap c a first es.size es.size ep)(z:Mode w a es ep t s.heap es.size first ord) (F:∀h',Heap.ExtBut c s.heap h'->Q none {s with heap:=h'}):qX prog w A (pyNext<|.ref c) Q E s:=by
 obtain⟨o,f,hc,hd⟩:=id l;obtain⟨X,h,_,u,hf⟩:=id r;have H:t.place.size=es.size:=by simp[SetTable.fits]at hf;exact hf.1
 have n:ord.length=es.size:=by rw[z.perm.length_eq];simp
 unfold pyNext;refine A_<|gE<|cH (name:=Str.ofString "__next__") l.typeIs Ew<|bQ Ew l.typeIs Qz ?_<|U7 _;unfold Builtin.«set_iterator.__next__»;refine(show wpAny _ _ (_>>=_) _ _ _ from A_<|show wpAny _ _ (pure (Value.ref c,[])) _ _ _ from DD<|show wpAny _ _ (fieldsOf (.ref c)>>=_) _ _ _ from A_<|wpAny_fieldsOf f hd<|show wpAny _ _ (setEntries a>>=_) _ _ _ from A_ ?_);refine(show wpAny _ _ (setState a>>=_) _ _ _ from A_<|bB h u hf<|DD<|show wpAny _ _ (if((es.size:Int) != (es.size:Int))=true then _ else _) _ _ _ from ?_);rw[N_<|by simp];have fin:∀(h1:kS) (C:PySem.Fin->kK->Prop) (k:kJ->kK->Prop) ,(∀e h',Heap.ExtBut c h1 h'->Shared.TypeIs {s with heap:=h'} e "StopIteration" -> k e {s with heap:=h'}) ->
   qX prog w A.in1 (newExc (.type "StopIteration") []>>=λe=>raiseNew e) C k {s with heap:=h1}:=λh1 C k q=>by
  refine A_ ?_;simp only[newExc,newTuple];refine A_ (bD (A_ (m:=firstArgMember _ _)<|kH (a:=Value.none) (by first|rfl|(simp only[firstArgMember];rfl))<|bD ?_<|by size_fits)<|by size_fits);simp only[raiseNew];refine A_<|wpAny_handled ?_;rw[show A.in1.handled=none from M];have I:Heap.ExtBut c h1 h1:=λb o hb e=>e;refine A_<|DD<|wpAny_throw ?_;exact q _ _ ((I.push _).push _) ⟨_,I_ _ rfl,rfl⟩
 have v:∀(h1:kS) (e:kJ) (h':kS),Heap.ExtBut c s.heap h1->Heap.ExtBut c h1 h'->Shared.TypeIs {s with heap:=h'} e "StopIteration" -> qX prog w A (isInstance e (.type "StopIteration")>>=λb=>if b=true then pure none else throw e) Q E {s with heap:=h'}:=λh1 e h' J D T=>by refine A_<|eI (b:=true) T isSubtype_stop ?_;exact DD<|F h' λb o hb e=>D b o hb<|J b o hb e
 cases z with
 |text hb=>refine(show wpAny _ _ (setNext a 0 es.size ep>>=_) _ _ _ from A_<|Np r hb ?_);rw[B_,aO]at n;rw[dR<|jJ n];exact A_ (Dj f hd (by simp) λh1 y g B p d=>fin h1 _ _ λe h' x T=>v h1 e h' d.extBut x T)
 |table hb G=>refine(show wpAny _ _ (setNext a (Lq t.place es.size) es.size ep>>=_) _ _ _ from A_<|Lr r L hb G (H_ _) ?_);rw[dR<|H_ _];exact A_ (Dj f hd (by simp) λh1 y g B p d=>fin h1 _ _ λe h' x T=>v h1 e h' d.extBut x T)
 |@drawn P R hb hp O=>obtain⟨V,i,_,U,j⟩:=id O;refine(show wpAny _ _ (seqItems? (.ref P)>>=_) _ _ _ from A_<|bR i j<|show wpAny _ _ _ _ _ _ from ?_);dsimp only;rw[gY,dR<|by simpa using jJ (by simpa using n)];exact A_<|Dj f hd (by simp) λh1 y g B p d=>A_<|Dj (s:={s with heap:=h1}) g p (by simp) λh2 S Y c2 W N=>fin h2 _ _ λe h' x T=>v h2 e h' (d.trans N).extBut x T
end
end L2
namespace L2
open PySem PySem.Spec PyProof.Rows PySem.W
section
variable {prog:kO}{w:kP}{A:kR}{E:kJ->kK->Prop}{s:kK}
theorem Mode.at{a:kM}{es:oC<|Int×kJ}{ep:Nat}{t:SetTable}{h h':kS}{i:Nat}{first:kJ}{ord:oA kJ}(m:Mode w a es ep t h i first ord)(hk:∀b,first=.ref b->∀o,h.get? b=some o->h'.get? b=some o):Mode w a es ep t h' i first ord:=by
 cases m with
 |text hb=>exact .text hb
 |table hb hd=>exact .table hb hd
 |@drawn b d hb hp c=>exact .drawn hb hp<|c.at λo e=>hk b rfl o e
def Xe(C:A.handled=none){f a:kM}{es:oC<|Int×kJ}{ep:Nat}{t:SetTable}{ord:oA kJ}(n:oA kM)(r:TblOk t<|Fo w)(u:a≠f)(D:f∉n)(H:ord.length=es.size) :
  Walks prog w A f (f::a::n) [f] es.size (λi v=>ord[i]?=some v) (λi h=>Ek h a es ep t/\∃first,Gp h f a first i es.size ep/\Mode w a es ep t h i first ord/\∀c,first=.ref c->c∈n) where
 sub:=λb hb=>by simp at hb;simp[hb]
 frame:=λi h l st hk=>by obtain⟨g,first,d,j,hp⟩:=st;exact⟨g.at λo e=>hk a (by simp) o e,first,d.at λo e=>hk f (by simp) o e,j.at λc z o e=>hk c (by simp[hp c z]) o e,hp⟩
 item:=λi s Q E G st k=>by obtain⟨g,first,d,j,hp⟩:=st;refine AZ g r d j u (λc z q=>D<|q ▸ hp c z) (x:=ord[i]'(by omega)) (D_ _) λl F m p y hb=>?_;exact k _ l s.toks (D_ _) ⟨g.at λo e=>(hb.2 a u).trans e,F,m,p,λc z=>hp c<|y c z⟩ λb o B e=>hb.extBut b o (λz=>B<|by simp[z]) e
 done:=λs Q E st k=>by obtain⟨g,first,d,j,hp⟩:=st;exact GF C g r d j λl he=>k l s.toks λb o hb e=>he b o (λz=>hb<|by simp[z]) e
 self:=λi s Q E st k=>by obtain⟨g,first,d,j,hp⟩:=st;refine wpAny_pyIter_slot d.typeIs U8<|bQ U8 d.typeIs Xb (show wpAny _ _ (ret<|.ref f) _ _ s from ?_)<|AY _;exact DD ⟨_,rfl,"set_iterator",_,d.typeIs,Ew.lookup,k⟩
def BA{a:kM}{Q:Bool->kK->Prop}(e:s.TypeIs (.ref a) "set") (h:Q false s):qX prog w A (Builtin.List.listLengthHint<|.ref a) Q E s:=by
 unfold Builtin.List.listLengthHint;refine A_<|eN e PySem.F.slot_set_len.lookup ?_;generalize c:("set.__len__" : String)=id0
 wp_delta
 rw[show splitId id0=some ("set","__len__") from by subst c;decide +kernel];subst c;refine A_ (eI (T := "set") (b:=true) e sub_set_self<|jE (λd=>absurd d<|by decide) λ_=>jE (λ_=>?_) λd=>absurd (by decide +kernel) d);exact A_<|gZ e<|DD h
def Xf{ord:oA kJ}{a:oC kJ}{n:Nat}(h:ItemsOf (λi v=>ord[i]?=some v) a n)(hl:ord.length=n):a.toList=ord:=by refine h_ λi=>?_;rw[aG];rcases dQ i a.size with c|c;have:=h.2 i a[i]<|aY c;rw[this,aY c];rw[dR c,bG<|by rw[hl,<- h.1];exact c]
def Jr{a:kM}{es:oC<|Int×kJ}{ep:Nat}{t:SetTable}{Q:oA kJ->kK->Prop}(hh:A.handled=none)(T:Ek s.heap a es ep t)(Z:TblOk t<|Fo w)(hz:es.size<=1000000)
  (h:∀x X Y ord,(∀b o,s.heap.get? b=some o->x.get? b=some o)->s.heap.objs.size<=x.objs.size->ord.Perm (es.toList.map (·.2))->Q ord {s with heap:=x,drawn:=X,toks:=Y}) :
  qX prog w A (collect<|.ref a) Q E s:=by
 have D:a<s.heap.objs.size:=by obtain⟨o,e,_⟩:=T;exact G_ e
 unfold collect;refine A_<|iB<|cY F.entry_proto_collect ?_;rw[bV F.plain_proto_collect _];refine(show wpAny _ A.in1 (newList []>>=λl=>again<|.builtin "list.__iadd__" ⟨[l,.ref a],[]⟩) _ _ s from A_<|bD<|DD ⟨dM F.plain_list_iadd _,cY F.entry_list_iadd ?_⟩);rw[bV F.plain_list_iadd _];generalize g:s.heap.objs.size=S;generalize m:s.heap.push {cls:=.type "list",data:=.seq ([]:oA kJ).toArray}=h1;have M:∀b o,s.heap.get? b=some o->h1.get? b=some o:=λb o e=>by subst m;exact C_ _ e
 have I:h1.get? S=some {cls:=.type "list",data:=.seq ([]:oA kJ).toArray}:=by subst m;subst g;exact I_ _ rfl
 have f:S≠a:=dA<|O_<|g ▸ D;have U:Builtin.List.listSameRef (.ref S) (.ref a)=false:=by simp[Builtin.List.listSameRef,f]
 have n:Ek h1 a es ep t:=T.at λo e=>M a o e;refine(show wpAny _ A.in1 (Builtin.List.listExtendWith (.ref S) (.ref a)<|.ref S) _ _ {s with heap:=h1} from ?_);unfold Builtin.List.listExtendWith;refine A_ (gZ (Ek.typeIs (s:={s with heap:=h1}) n)<|jE (λB=>absurd B<|by rw[U];decide) λ_=>?_);refine A_<|Ti (s:={s with heap:=h1}) n hz λd h2 p first ord bn r hI v C=>?_;refine A_<|aT<|BA (s:={s with heap:=h2,drawn:=p}) (Ek.typeIs (s:={s with heap:=h2,drawn:=p})<|n.at λo e=>r a o e) ?_;refine jE (λ_=>?_) λB=>absurd (by decide) B;have y:h2.get? S=some {cls:=.type "list",data:=.seq ([]:oA kJ).toArray}:=r S _ I;refine A_<|eC<|A_<|show wpAny _ _ (updateSeq S (·.push .none)>>=λ_=>updateSeq S (·.pop)) _ _ _ from A_<|gN y rfl<|gN (aX (Obj.mapSeq (·.push Value.none)) y rfl) rfl ?_;have L:=aX (Obj.mapSeq (·.pop)) (aX (Obj.mapSeq (·.push Value.none)) y rfl) rfl;have k:∀b o,b≠S->h2.get? b=some o->((h2.update S<|Obj.mapSeq (·.push Value.none)).update S<|Obj.mapSeq (·.pop)).get? b=some o:=λb o hb e=>(aR _ _<|dA hb).trans<|(aR _ _<|dA hb).trans e;generalize ((h2.update S<|Obj.mapSeq (·.push Value.none)).update S<|Obj.mapSeq (·.pop))=h4 at L k ⊢;have G:S<h1.objs.size:=G_ I;have P:h1.objs.size<=d:=bn;have N:S≠d:=by intro z;subst z;omega
 have na:a≠d:=O_<|eQ (g ▸ D)<|S_ G P;obtain⟨j,H,u⟩:∃j:oA kM,(∀c,first=.ref c->c∈j)/\∀c∈j,h1.objs.size<=c/\c≠d:=by
  by_cases hf:∃c,first=.ref c
  obtain⟨c,hf⟩:=hf;exact⟨[c],λq hq=>by rw[hf]at hq;cases hq;simp,λq hq=>by rw[Y_]at hq;subst hq;exact C q hf⟩;exact⟨[],λq hq=>absurd ⟨q,hq⟩ hf,λ_ hq=>nomatch hq⟩
 have R:ord.length=es.size:=by rw[v.perm.length_eq];simp
 have W:=Xe (prog:=prog) (A:=A.in1) hh (es:=es) (ep:=ep) (ord:=ord) j Z na (λz=>(u d z).2 rfl) R;have oq:S∉d::a::j:=by simp only[List.mem_cons,not_or];exact⟨N,f,λz=>by have:=(u S z).1;omega⟩
 refine DD ⟨dM F.plain_extend_loop _,codeAny_extend_loopS W.toS (Q_ hz<|by decide) S oq (.ref S) es.size 0 {s with heap:=h4,drawn:=p} #[] _ rfl (aU _) ?_ L (ItemsOf.nil _) λJ jb c' hm O V=>?_⟩;refine⟨n.at λo e=>k a o (dA f)<|r a o e,first,hI.at λo e=>k d o (dA N) e,v.at λc z o e=>k c o (λq=>?_) e,H⟩;have:=(u c<|H c z).1;subst q;omega;rw[Moved.eq_with hm];refine A_<|wpAny_load O<|DD ?_;rw[Xf V R];refine h J.heap p J.toks ord (λb o e=>hm.heap b o ?_<|k b o ?_<|r b o<|M b o e) (dN ?_) v.perm;have i:=G_ e;simp only[List.mem_cons,List.not_mem_nil,or_false,not_or];rw[g]at i;exact⟨O_ i,O_<|eQ i<|S_ G P⟩;have i:=G_ e;rw[g]at i;exact O_ i;rw[g];exact G_ O
def Js{v:kJ}{Q:kJ->kK->Prop}(g:qX prog w A.in1 (collect v) (λd a=>∃f:Nat->Nat->Bool,d.length<64/\StrictOrd d.length f /\
   (2<=d.length->∀h':kS,(∀b o,a.heap.get? b=some o->h'.get? b=some o)->∃ n,(∀Q:k_->kK->Prop,Q n {a with heap:=h'}->qX prog w A.in1.in1 (keyKind' d.toArray) Q E {a with heap:=h'}) /\
    ∀i j C,i<d.length->j<d.length->C (f i j) {a with heap:=h'}->kas_ask prog w A.in1.in1 n d i j C {a with heap:=h'}) /\
   ∀(p:oC Nat) (h':kS) (l c:Nat),Pm d.length p->Up f p d.length->a.heap.objs.size<=l->(∀b o,a.heap.get? b=some o->h'.get? b=some o)->h'.get? l=some (seqObj "list" (p.toList.map λi=>d.getD i Value.none).toArray c)->Q (.ref l) {a with heap:=h'}) E s) :
  qX prog w A (call (.builtin "sorted") [v]) Q E s:=by
 refine Calls.call_function_entry kind_sorted plain_sorted entry_sorted (args_sorted1 _) ?_;unfold Builtin.«sorted»;refine A_ (m:=checkCount "sorted" 1 1 _)<|DD<|A_<|a_ g (λd a hx=>?_) λ_ _ e=>e;obtain⟨f,r,O,hk,h⟩:=hx;have x:d.length<=sizeLine:=Q_ (dN r) (by decide);have t:(a.heap.push<|seqObj "list" d.toArray 0).get? a.heap.objs.size=some (seqObj "list" d.toArray 0):=I_ _ rfl;refine A_<|wpAny_newList (A_<|aT<|bQ slot_list_sort ⟨_,t,rfl⟩ entry_list_sort ?_<|args_list_sort _) x;have u:∀(h':kS),(∀b o,b≠a.heap.objs.size->(a.heap.push<|seqObj "list" d.toArray 0).get? b=some o->h'.get? b=some o)->∀b o,a.heap.get? b=some o->h'.get? b=some o:=λh' k b o q=>k b o (O_<|G_ q)<|C_ _ q;exact Lj (s:={a with heap:=a.heap.push<|seqObj "list" d.toArray 0}) t r O (λh2 h' k=>hk h2 h'<|u h' k) λp h' c y z k e=>⟨_,rfl,DD ⟨_,rfl,h p h' _ c y z (H_ _) (u h' k) e⟩⟩
def Cj:kJ->Int
 |.int n _=>n
 |_=>0
def YA(v:kJ):Prop:=∃n t,v=.int n t
theorem Q0:∀{vs:oA kJ},(∀v∈vs,YA v)->IntsAre vs (vs.map Cj)
 |[],_=>.nil
 |v::vs,h=>by obtain⟨n,t,rfl⟩:=h _ V_;exact .cons n t<|Q0 λu a=>h u<|K_ _ a
def GG{k:Key}{n:Int}{t:Tok}(h:(Bl prog w).is k (.int n t)=true):k=.inl n:=by rcases keyIs_shape (show Ji _ _=true from h) with⟨i,a,rfl,e⟩|⟨x,a,rfl,e⟩;cases e;rfl;cases e
def Gq{l:oA<|Int×kJ}{ns:oA Int}(f:ElemsOf (Bl prog w) l)(d:Keys (Bl prog w) l<|ns.map Sum.inl){e:Int×kJ}(he:e∈l):∃n t,e.2=.int n t/\n∈ns:=by obtain⟨⟨k,hk,_⟩,_⟩:=f e he;have:=(d k).mp ⟨e,he,hk⟩;obtain⟨n,c,rfl⟩:=M_.mp this;rcases keyIs_shape (show Ji (Sum.inl n) e.2=true from hk) with⟨i,t,a,b⟩|⟨x,t,a,b⟩;cases a;exact⟨n,t,b,c⟩;cases a
def Tk{a:kM}{l:oA<|Int×kJ}{ns:oA Int}{Q:kJ->kK->Prop}(hh:A.handled=none)(O:Ej (Bl prog w) s.heap a l<|Fo w)(hU:Unlike (Bl prog w) l)(x:Keys (Bl prog w) l<|ns.map Sum.inl)(hl:l.length<64)
  (h:∀(h':kS) (d':Drawn) (tk p c:Nat) (vs:oA kJ),(∀b o,s.heap.get? b=some o->h'.get? b=some o)->s.heap.objs.size<=p->h'.get? p=some (seqObj "list" vs.toArray c)->(∀v∈vs,YA v)->(vs.map Cj).Pairwise (· < ·)->(∀n,n∈vs.map Cj↔n∈ns)->vs.length<64->Q (.ref p) {s with heap:=h',drawn:=d',toks:=tk}) :
  qX prog w A (call (.builtin "sorted") [.ref a]) Q E s:=by
 obtain⟨o,J,ep,t,Z,R,hd,rfl,y,hf,hT⟩:=O;have hz:J.size<64:=by simpa using hl
 refine Js (Jr (show A.in1.handled=none from hh) ⟨o,Z,R.1,hd,hf⟩ hT (by omega) λh1 d1 N ord Y W hp=>?_);have m:∀v∈ord,YA v:=λv hv=>by obtain⟨e,he,rfl⟩:=M_.mp<|hp.mem_iff.mp hv;obtain⟨n,t,f,_⟩:=Gq y x he;exact⟨n,t,f⟩
 have V:∀n,n∈ord.map Cj↔n∈ns:=λn=>by rw[M_];constructor;rintro⟨v,hv,rfl⟩;obtain⟨e,he,rfl⟩:=M_.mp<|hp.mem_iff.mp hv;obtain⟨n,t,f,r⟩:=Gq y x he;rw[f];exact r;intro P;obtain⟨e,he,hk⟩:=(x<|.inl n).mpr<|M_.mpr ⟨n,P,rfl⟩;obtain⟨I,t,f,_⟩:=Gq y x he;rw[f]at hk;have:=GG hk;cases this;exact⟨e.2,hp.mem_iff.mpr<|M_.mpr ⟨e,he,rfl⟩,by rw[f];rfl⟩
 have X:(ord.map Cj).Nodup:=by have f:(ord.map Cj).Perm ((J.toList.map (·.2)).map Cj):=hp.map _;refine f.nodup_iff.mpr ?_;unfold List.Nodup;rw[cV,cV];refine gF (λ{e e'} he sf hu q=>?_) hU;obtain⟨n,t,f,_⟩:=Gq y x he;obtain⟨I,t',r,_⟩:=Gq y x sf;rw[f,r]at q;have S:n=I:=q;subst S;have:=hu (.inl n) (by rw[f];exact C8 _ _ _ _);rw[r,C8]at this;cases this
 have aj:ord.length<64:=by rw[hp.length_eq];simpa using hz
 refine⟨λi j=>decide ((ord.map Cj).getD i 0<(ord.map Cj).getD j 0),by omega,⟨λi j k _ _ _ h1 h2=>?_,λi j z u G h1=>?_,λi _=>aF<|Int.lt_irrefl _⟩,λh2 h' H=>⟨oneType',λQ q=>?_,λi j C z u q=>?_⟩,λp h' U c F up D H e=>?_⟩;simp only[decide_eq_true_eq]at h1 h2 ⊢;omega;simp only[decide_eq_false_iff_not,decide_eq_true_eq]at h1 ⊢
 suffices ne:(ord.map Cj).getD j 0≠(ord.map Cj).getD i 0 by omega
 refine λq=>G ?_;refine((fN (by simpa using u) X).mp ?_).symm;rw[Fl (d:=(0:Int))<|by simpa using u,Fl (d:=(0:Int))<|by simpa using z,q]
 ·match ord,m,h2 with
  |v1::v2::vs,m,_=>rw[keyKind_ints<|Q0 m];exact DD q
 unfold kas_ask;obtain⟨n1,N,f⟩:=m _<|Cd (d:=Value.none) z;obtain⟨n2,t2,r⟩:=m _<|Cd (d:=Value.none) u;have g:∀i,i<ord.length->(ord.map Cj).getD i 0=Cj (ord.getD i .none):=λi m=>by simp[List.getD_eq_getElem?_getD,m]
 dsimp only at q;rw[g i z,g j u,f,r]at q;rw[f,r,keyLt'_oneType];exact oneLt_int q;have L:∀i∈p.toList,i<ord.length:=λi m=>bC.mp<|F.perm.mem_iff.mp m;have g:∀i,i<ord.length->(ord.map Cj).getD i 0=Cj (ord.getD i .none):=λi m=>by simp[List.getD_eq_getElem?_getD,m]
 have pv:(p.toList.map λi=>ord.getD i Value.none).Perm ord:=by have r:=F.perm.map λi=>ord.getD i Value.none;rw[Gn]at r;exact r
 refine h h' d1 N U c _ (λb o q=>H b o<|Y b o q) (Q_ W D) e (λv hv=>m v<|pv.mem_iff.mp hv) ?_ (λn=>?_) (by rw[pv.length_eq];exact aj);rw[aJ,cV];refine gA.mpr λi j M B G=>?_;have u:j<ord.length:=by rw[<- F.size];simpa using B
 have:=up i j G u;have gi:p.getD i 0=p.toList[i]:=by simp[Array.getD,show i<p.size by simpa using M]
 have T:p.getD j 0=p.toList[j]:=by simp[Array.getD,show j<p.size by simpa using B]
 rw[gi,T]at this;dsimp only at this;rw[g _<|L _<|aL M,g _<|L _<|aL B]at this;simpa using this;rw[<- V n];exact(pv.map Cj).mem_iff
end
end L2
namespace L2
open PySem PySem.Spec PyProof.Rows
section
variable {X:Cx}{aa:oA<|kM×kT}{σ:St}{H:Hp}{s:kK}
def Inv.drw(I:Inv X aa σ H s)(d:Drawn):Inv X aa σ H {s with drawn:=d}:=⟨I.ok,I.os,I.bare,I.base,I.loc,I.cell,I.free,I.freeC,I.pin,I.hok,I.len,I.tk⟩
theorem Iw{P:kO}{w:kP}:∀{ns:oA Int} {c:oA kJ},Vals (ns.map V.int) c->ItemsAre (Bl P w) (ns.map Sum.inl) c/\∀v∈c,v.scannable=true
 |[],_,h=>by cases h;exact⟨.nil,λ_ h=>nomatch h⟩
 |n::ns,_,h=>by
  cases h with
  |cons h1 h2=>
   obtain⟨t,rfl⟩:=h1;obtain⟨a,b⟩:=Iw (P:=P) (w:=w) h2;refine⟨.cons (C8 _ _ _ _) a,λv hv=>?_⟩;rcases Z_.mp hv with rfl|hv
   rfl
   exact b v hv
theorem Q3:∀{vs:oA kJ},(∀v∈vs,YA v)->Vals ((vs.map Cj).map V.int) vs
 |[],_=>.nil
 |v::vs,h=>by obtain⟨n,t,rfl⟩:=h _ V_;exact .cons ⟨t,rfl⟩<|Q3 λu a=>h u<|K_ _ a
theorem Va{K:kN}{H:Hp}:∀(ns:oA Int),Ba K H (ns.map λn=>AV.D<|.int n) (ns.map V.int)
 |[]=>.nil
 |_::ns=>.cons Cu<|Va ns
end
noncomputable instance decPD:DecidableEq kL:=λa b=>Classical.propDecidable (a=b)
mutual
def Ix:kL->Nat
 |.tuple a=>C7 a+1
 |_=>1
def C7:oA kL->Nat
 |[]=>0
 |d::a=>Ix d+C7 a
end
theorem Lu(w:kP):∀(a b:oA kL),Dh w (a++b)=Dh w a++Dh w b
 |[],b=>rfl
 |x::a,b=>by simp only[List.cons_append,Dh,Lu w a b]
theorem Jt:∀(a b:oA kL),C7 (a++b)=C7 a+C7 b
 |[],b=>by simp[C7]
 |x::a,b=>by simp only[List.cons_append,C7,Jt a b];exact(Nat.add_assoc _ _ _).symm
section
variable {prog:kO}{w:kP}
def GH:∀(n:Nat) (d:kL) (u:kJ) (p:oA kM) (A:kR) (E:kJ->kK->Prop) (s:kK) (Q:Int->kK->Prop),d.depth<=n->Cano d=true->Reads s.heap u d p->A.units+n<cLine->Q (Bj w d) {s with toks:=s.toks+Ix d} ->
  qX prog w A (pyHash u) Q E s:=by
 intro n
 induction n with
 |zero=>
  intro d u p A E s Q hd hc k S h;cases k with
  |int i t=>exact(Bl prog w).pyHash (C8 _ _ _ _) h
  |str x t=>exact(Bl prog w).pyHash (Gb _ _ _ _) h
  |tuple v a2 B y=>simp[PyData.depth]at hd
  |none=>simp[Cano]at hc
  |bool b=>simp[Cano]at hc
  |list v a2 B y=>simp[Cano]at hc
  |dict v a2 B y O=>simp[Cano]at hc
 |succ n P=>
  intro d u p A E s Q hd hc k S h;cases k with
  |int i t=>exact(Bl prog w).pyHash (C8 _ _ _ _) h
  |str x t=>exact(Bl prog w).pyHash (Gb _ _ _ _) h
  |none=>simp[Cano]at hc
  |bool b=>simp[Cano]at hc
  |list v a2 B y=>simp[Cano]at hc
  |dict v a2 B y O=>simp[Cano]at hc
  |@tuple a o items m r p N g G U=>
   have z:s.TypeIs (.ref a) "tuple" := ⟨o,N,g⟩;have T:PyData.depthAll r<=n:=by simp only[PyData.depth]at hd;omega
   have R:Av r=true:=hc;unfold pyHash
   first|unfold pyHashByItsType|skip
   first|refine A_ (wpAny_cRoomFor_or (.inr<|by omega) ?_)|skip
   refine A_<|eN z F.slot_tuple_hash.lookup<|show wpAny _ _ (if(some (Value.builtin "tuple.__hash__")==some Value.none)=true then _ else _) Q E s from ?_;rw[N_<|by rw[beq_builtin_none];exact X_];refine A_<|eN z F.slot_tuple_hash.lookup<|show wpAny _ _ (callSpecialIfBoundUnlessNone? (.ref a) "__hash__" _>>=_) Q E s from ?_;refine A_<|wpAny_callSpecialIfBoundUnlessNone?_slot z F.slot_tuple_hash<|bQ F.slot_tuple_hash z F.entry_tuple_hash (show wpAny _ _ (Builtin.Tuple.tupleItemsOf (.ref a)>>=_) _ _ s from ?_)<|F.args_tuple_hash_1 _;refine A_<|fE N G<|A_ ?_;rw[<- gR];refine dY _ (λrest (b:oC Int) C=>∃c j H,r=c++j/\ReadsAll s.heap rest j H/\Av j=true/\PyData.depthAll j<=n/\b.toList=Dh w c/\C={s with toks:=s.toks+C7 c}) _ ?_ ?_ _ _ ⟨[],r,p,rfl,U,R,T,rfl,rfl⟩
   ·rintro x rest b C ⟨c,j,H,rfl,D,g,l,hb,rfl⟩;cases D with
    |@cons _ _ d q I M h1 L=>
     simp only[Av,Bool.and_eq_true]at g;simp only[PyData.depthAll]at l;refine A_ (P d x I A.in1 _ {s with toks:=s.toks+C7 c} _ (by omega) g.1 h1 (by show A.units+1+n<_;omega) ?_);have fin:∃f e J,c++d::q=f++e/\ReadsAll s.heap rest e J/\Av e=true/\PyData.depthAll e<=n/\(b.push<|Bj w d).toList=Dh w f/\({s with toks:=s.toks+C7 c+Ix d}:kK)={s with toks:=s.toks+C7 f} :=
      ⟨c++[d],q,M,by simp,L,g.2,by omega,by simp[hb,Lu,Dh],by simp[Jt,C7,Nat.add_assoc]⟩
     first
      |exact DD fin
      |exact A_<|DD<|DD fin
   rintro b C ⟨c,j,H,rfl,D,g,l,hb,rfl⟩;cases D;rw[cX]at h;simp only[Bj,Ix]at h;refine(show wpAny _ _ (retInt<|Builtin.Tuple.tupleHashOf b.toList) _ _ _ from ?_);rw[hb];refine wpAny_ret_mkInt<|show wpAny _ _ (if(decide (-(2:Int)^63<=Builtin.Tuple.tupleHashOf (Dh w c))&&decide (Builtin.Tuple.tupleHashOf (Dh w c)<2^63))=true then _ else _) Q E _ from ?_;unfold reduceHash at h;by_cases k:(decide (-(2:Int)^63<=Builtin.Tuple.tupleHashOf (Dh w c))&&decide (Builtin.Tuple.tupleHashOf (Dh w c)<2^63))=true;rw[R_ k]at h ⊢;exact DD (by simpa [Nat.add_assoc] using h);rw[N_ k]at h ⊢;exact A_<|eC<|DD<|by simpa [Nat.add_assoc] using h
def Lv:∀(n q:Nat) (d:kL) (u:kJ) (f:oA kM) (A:kR) (E:kJ->kK->Prop) (s:kK) (Q:Bool->kK->Prop),d.depth<=n->n<q->Cano d=true->Reads s.heap u d f->Q true s->qX prog w A (eqIsQuiet q u) Q E s:=by
 intro n
 induction n with
 |zero=>
  intro q d u f A E s Q hd hq hc c h;cases c with
  |int i t=>rw[iC _ rfl];exact DD h
  |str x t=>rw[iC _ rfl];exact DD h
  |tuple k a2 p l=>simp[PyData.depth]at hd
  |none=>simp[Cano]at hc
  |bool b=>simp[Cano]at hc
  |list k a2 p l=>simp[Cano]at hc
  |dict k a2 p l N=>simp[Cano]at hc
 |succ n O=>
  intro q d u f A E s Q hd hq hc c h;cases c with
  |int i t=>rw[iC _ rfl];exact DD h
  |str x t=>rw[iC _ rfl];exact DD h
  |none=>simp[Cano]at hc
  |bool b=>simp[Cano]at hc
  |list k a2 p l=>simp[Cano]at hc
  |dict k a2 p l N=>simp[Cano]at hc
  |@tuple a o items m y f J e B T=>
   have L:s.TypeIs (.ref a) "tuple" := ⟨o,J,e⟩;have S:PyData.depthAll y<=n:=by simp only[PyData.depth]at hd;omega
   have P:Av y=true:=hc;obtain⟨z,rfl⟩:∃z,q=z+1:=⟨q-1,by omega⟩;unfold eqIsQuiet;refine A_<|eN L F.slot_tuple_eq.lookup<|show wpAny _ _ (isInstance (.ref a) (.type "tuple")>>=_) _ _ s from A_<|eI L iK ?_;simp only[Bool.not_true,Bool.false_eq_true,if_false];refine A_<|bR J B<|A_<|show wpAny _ _ (forIn items _ _) _ _ s from ?_;rw[<- gR];refine dY _ (λrest r g=>r.1=none/\g=s/\∃j M,ReadsAll s.heap rest j M/\Av j=true/\PyData.depthAll j<=n) _ ?_ ?_ _ _ ⟨rfl,rfl,y,f,T,P,S⟩
   ·rintro v rest r g ⟨c,rfl,j,M,R,e,C⟩;cases R with
    |@cons _ _ d D G I h1 H=>simp only[Av,Bool.and_eq_true]at e;simp only[PyData.depthAll]at C;refine A_ (O z d v G A _ g _ (by omega) (by omega) e.1 h1 ?_);simp only[Bool.not_true,Bool.false_eq_true,if_false];exact DD ⟨rfl,rfl,D,I,H,e.2,by omega⟩
   rintro⟨V,U⟩ g ⟨c,rfl,_⟩;simp only at c;subst c;exact DD h
mutual
theorem Nq{h:kS}:∀{v:kJ} {d e:kL} {n o:oA kM},Reads h v d n->Reads h v e o->Cano d=true->Cano e=true->d=e
 |_,_,_,_,_,.int i t,r,_,_=>by cases r;rfl
 |_,_,_,_,_,.str x t,r,_,_=>by cases r;rfl
 |_,_,_,_,_,.tuple g a2 l j,r,hc,f=>by
  cases r with
  |tuple c m a k=>rw[g]at c;cases c;rw[l]at a;cases a;rw[Hs j k hc f]
  |list c m a k=>simp[Cano]at f
  |dict c m a k q=>simp[Cano]at f
 |_,_,_,_,_,.none,_,hc,_=>by simp[Cano]at hc
 |_,_,_,_,_,.bool b,_,hc,_=>by simp[Cano]at hc
 |_,_,_,_,_,.list g a2 l j,_,hc,_=>by simp[Cano]at hc
 |_,_,_,_,_,.dict g a2 l j p,_,hc,_=>by simp[Cano]at hc
theorem Hs{h:kS}:∀{vs:oA kJ} {ds es:oA kL} {b c:oA kM},ReadsAll h vs ds b->ReadsAll h vs es c->Av ds=true->Av es=true->ds=es
 |_,_,_,_,_,.nil,r,_,_=>by cases r;rfl
 |_,_,_,_,_,.cons d f,r,hc,a=>by
  cases r with
  |cons e g=>simp only[Av,Bool.and_eq_true]at hc a;rw[Nq d e hc.1 a.1,Hs f g hc.2 a.2]
end
mutual
theorem Iy{h h':kS}{p:kM}(hk:∀b o,b≠p->h.get? b=some o->h'.get? b=some o)(hp:∀o g n,h.get? p=some o->o.data≠.seq g n):∀{v:kJ} {d:kL} {f:oA kM},Reads h v d f->Cano d=true->Reads h' v d f
 |_,_,_,.int i t,_=>.int i t
 |_,_,_,.str x t,_=>.str x t
 |_,_,_,.tuple c a2 a e,hc=>.tuple (hk _ _ (λz=>by subst z;exact hp _ _ _ c a) c) a2 a (Ht hk hp e hc)
 |_,_,_,.none,hc=>by simp[Cano]at hc
 |_,_,_,.bool b,hc=>by simp[Cano]at hc
 |_,_,_,.list c a2 a e,hc=>by simp[Cano]at hc
 |_,_,_,.dict c a2 a e j,hc=>by simp[Cano]at hc
theorem Ht{h h':kS}{p:kM}(hk:∀b o,b≠p->h.get? b=some o->h'.get? b=some o)(hp:∀o vs n,h.get? p=some o->o.data≠.seq vs n):∀{vs:oA kJ} {ds:oA kL} {a:oA kM},ReadsAll h vs ds a->Av ds=true->ReadsAll h' vs ds a
 |_,_,_,.nil,_=>.nil
 |_,_,_,.cons c d,hc=>by simp only[Av,Bool.and_eq_true]at hc;exact .cons (Iy hk hp c hc.1)<|Ht hk hp d hc.2
end
def Hu{x y:kL}(hx:Cano x=true)(hy:Cano y=true):PyData.eqv x y=decide (x=y):=by by_cases h:x=y;subst h;rw[Hq x hx,aN rfl];rw[aF h];exact(Sz hx hy).mpr h
variable(prog w) in
noncomputable def Q4:HeapKind prog w kL where
 is:=λh d a=>KeyTree d/\∃c,Reads h (.ref a) d c
 hash:=Bj w
 draws:=Ix
 room:=λA=>A.units+6<cLine
 inj:=λ⟨f,_,j⟩ ⟨g,_,i⟩=>Nq j i f.can g.can
 keeps:=λ⟨k,c,r⟩ ho hd hs=>⟨k,c,Iy (λb o hb e=>(hs.2 b hb).trans e) (λm s n e q=>by rw[ho]at e;cases e;rw[hd]at q;cases q) r k.can⟩
 pyHash:=λl ⟨k,c,r⟩ h=>GH 6 _ _ c _ _ _ _ k.dep k.can r l h
 eqBool:=λl ⟨f,c,j⟩ ⟨g,p,i⟩ h=>fX _ _ _ _ _ _ _ _ j i f.lay g.lay (by have:=f.dep;omega) _ _ _ _ (by rw[Hu f.can g.can];exact h)
 quiet:=λ⟨k,c,r⟩ h=>Lv 6 8 _ _ c _ _ _ _ k.dep (by decide) k.can r h
end
section
variable {X:Cx}{aa:oA<|kM×kT}{σ:St}{H:Hp}{s:kK}{a:kM}{e:kQ}{te:AE}{τ:ASt}{μ:M}{o i value:kQ}{pos ci:Pos}{td ty tv:AE}
def VE.run{f:AV->M->Prop}(he:VE X e te)(I:Inv X aa σ H s)(hs:Dp X.K H τ σ)(hc:Cn X.K μ H)(h:te τ μ f) :
  qX X.prog X.w X.A (eval e X.env) (λu g=>∃x v b d,Inv X aa σ d g/\Bp v u/\Kp H d/\Cn X.K b d/\RelA X.K d x v/\f x b) X.xe s :=
 a_ (he aa s σ H (λv d=>∃x b,Kp H d/\Cn X.K b d/\RelA X.K d x v/\f x b) I ⟨τ,μ,f,hs,hc,h,λx b v d S c r q=>⟨x,b,S,c,r,q⟩⟩)
  (λ_ _ z=>by obtain⟨v,d,j,k,x,b,S,c,r,q⟩:=z;exact⟨x,v,b,d,j,k,S,c,r,q⟩) λ_ _ e=>e
def Qbg(p k:AE):AE:=λτ μ R=>p τ μ λx f=>k τ f λy c=>match x,y with
 |.R a,.R b=>opt (c a) λm=>opt (c b) λn=>match m,n with
  |.lst j,.lst l=>opt (dats j) λg=>opt (dats l) λh=>(g.length=h.length/\g.length<=1000)/\R (.D<|.tuple<|List.zipWith (λd e=>PyData.tuple [d,e]) g h) c
  |_,_=>False
 |_,_=>False
def Qah:AC:=λc μ R=>match c with
 |[.D<|.bool b]=>R (.D<|.int<|if b then 1 else 0) μ
 |[.D<|.int i]=>R (.D<|.int i) μ
 |_=>False
def IZ:VCall X (.type "int") Qah:=by
 intro aa s σ H p g Q I r c;refine B7 c λm μ R j hc h hq=>?_;cases j with
 |nil=>exact False.elim h
 |@cons x v n l f k=>
  cases k with
  |nil=>
   cases x with
   |D d=>
    cases d with
    |bool b=>cases RelA.bl f;exact My aa s σ H _ g Q I r (.inr ⟨_,rfl,hq _ _ _ _ Kp.refl hc Cu h⟩)
    |int i=>cases RelA.int f;exact My aa s σ H _ g Q I r (.inl ⟨_,rfl,hq _ _ _ _ Kp.refl hc Cu h⟩)
    |_=>exact False.elim h
   |_=>exact False.elim h
  |cons _ _=>
   refine False.elim ?_;cases x with
   |D d=>cases d<;>exact h
   |_=>exact h
def txts:oA AV->oB (oA Str)
 |[]=>some []
 |.D (.str z)::b=>(txts b).map (z::·)
 |_::_=>none
theorem Q5{K:kN}{H:Hp}:∀{xs:oA AV} {vs:oA V} {zs:oA Str},Ba K H xs vs->txts xs=some zs->vs=zs.map V.str
 |[],_,zs,r,e=>by cases r;cases e;rfl
 |x::xs,_,zs,r,e=>by
  cases r with
  |cons c d=>unfold txts at e;split at e;rename_i h;cases h;rename_i z g h;cases h;obtain⟨f,b,rfl⟩:=W_.mp e;cases RelA.str c;rw[Q5 d b];rfl;cases e
def BB:AV->AC:=λx d μ R=>match x,d with
 |.D (.str z),[.R p]=>opt (μ p) λm=>match m with
  |.lst c=>opt (txts c) λb=>(b.map (·.length)).sum+b.length*z.length<=16777216/\R (.D<|.str<|Txt.join z b) μ
  |_=>False
 |_,_=>False
def D7:VMt X "str.join" BB:=by
 intro aa s σ H x w v t Q I p r b;refine Ds b λa u μ R l k hc h hq=>?_;unfold BB at h;split at h
 ·obtain⟨m,j,h⟩:=Bf h;split at h
  ·obtain⟨f,d,h⟩:=Bf h;obtain⟨o,c,ws,rfl,q⟩:=hc _ _ j;cases RelA.str l;cases k with
   |cons g n=>cases n;cases g;rw[Q5 q d]at c;exact Wu aa s σ H _ _ v t Q I p r ⟨_,_,f,rfl,rfl,c,h.1,hq _ _ _ _ Kp.refl hc Gg h.2⟩
  exact h.elim
 exact h.elim
def NQ(c:AE):AE:=λτ μ R=>c τ μ λx b=>match x with
 |.D (.int n)=>(0<=n/\n<=1000)/\∀p,b p=none->R (.R p) (Am b p<|.lst<|Ea 0 n.toNat)
 |_=>False
def NR(d f:AE):AE:=λτ μ R=>d τ μ λx c=>f τ c λy b=>match x,y with
 |.D (.int m),.D (.int n)=>(-1000<=m/\m<=n/\n<=1000)/\∀p,b p=none->R (.R p) (Am b p<|.lst<|Ea m (n-m).toNat)
 |_,_=>False
theorem Oz{K:kN}{H:Hp}:∀(n:Nat) (lo:Int),Ba K H (Ea lo n) ((List.range n).map λ(i:Nat)=>V.int<|lo+i)
 | 0,lo=>.nil
 |n+1,lo=>by
  rw[List.range_succ_eq_map,bF,aJ];refine .cons (by simpa using Cu) ?_;have:=Oz (K:=K) (H:=H) n<|lo+1;have e:(λ(i:Nat)=>V.int<|lo+1+i)=(λ(i:Nat)=>V.int<|lo+i) ∘ Nat.succ:=by
   funext i
   simp only[Function.comp];congr 1;omega
  rw[e]at this;exact this
def BC{d:oC kJ}{n:Nat}{lo:Int}(h:ItemsOf (λi v=>∃t,v=.int (lo+i*1) t) d n):Vals ((List.range n).map λ(i:Nat)=>V.int<|lo+i) d.toList:=by
 obtain⟨h1,h2⟩:=h;have k:∀(m:Nat) (b:oA kJ),b.length=m->(∀j v,b[j]?=some v->∃t,v=Value.int (lo+(j:Nat)*1) t)->Vals ((List.range m).map λ(i:Nat)=>V.int<|lo+i) b:=by
  intro m
  induction m with
  |zero=>intro b c _;rw[bS c];exact .nil
  |succ m l=>
   intro b c f;have g:b≠[]:=by intro z;rw[z]at c;cases c
   rw[<- List.dropLast_concat_getLast g,List.range_succ,P_];have hd:b.dropLast.length=m:=by rw[List.length_dropLast];omega
   refine kG (l b.dropLast hd λj v e=>?_) ?_;have hj:j<b.dropLast.length:=(E_.mp e).1;rw[List.getElem?_dropLast,R_<|by omega]at e;exact f j v e;obtain⟨t,e⟩:=f m (b.getLast g) (by rw[List.getLast_eq_getElem];simp[c]);rw[e];exact⟨t,by rw[Int.mul_one]⟩
 exact k n d.toList (by simpa using h1) λj v e=>h2 j v<|by rw[<- aG];exact e
def Q6{g:Hp}{lo d:Int}{tk:Nat}{t u v:Tok}{Q:VK}{f:kK}(n:X.calm=true)(h:Inv X aa σ g f)(z:-1000<=lo)(E:lo<=d)(C:d<=1000)(y:0<tk:=by first|exact aQ _|assumption|exact Inv.tk<|by assumption)
  (q:∀l,g l=none->Q (.ref l) (upd g l<|.lst<|(List.range (d-lo).toNat).map λ(i:Nat)=>V.int<|lo+i)) :
  qX X.prog X.w X.A (call (.type "list") [.ref f.heap.objs.size]) (EP X aa σ Q) X.xe {f with heap:=f.heap.push {cls:=.type "range",data:=.fields #[.int lo t,.int d u,.int 1 v]},toks:=tk}:=by
 have m:Builtin.Range.rangeSize lo d 1=((d-lo).toNat:Nat):=by rw[rangeSize_one];split<;>omega
 have j:(d-lo).toNat<=2000:=by omega
 refine wtk y <|call_list_range (s:={f with heap:=f.heap.push {cls:=.type "range",data:=.fields #[.int lo t,.int d u,.int 1 v]},toks:=tk}) (h.ok.hd n) (IsRange.new ..) (small_one (by omega) (by omega) (by omega)<|by omega) m (Q_ j<|by decide) λh2 D p c r B k x=>?_;have hp:f.heap.objs.size<=(f.heap.push {cls:=.type "range",data:=.fields #[.int lo t,.int d u,.int 1 v]}).objs.size:=by rw[cQ];exact fP _
 have hz:((List.range (d-lo).toNat).map λ(i:Nat)=>V.int<|lo+i).length<=sizeLine:=by rw[B_,dC];exact Q_ j<|show 2000<=sizeLine by decide
 refine⟨.ref _,_,h.laid (t':=D) (o:=.lst _) (λb o e=>r b o<|C_ _ e) hp ⟨hz,p.toList,c,BC k,by simpa using B⟩,rfl,q _<|h.hok.fresh hp⟩
def BD{b:kQ}{k:AE}{p j pos g:Pos}(hc:X.calm=true)(r:Gl X "list") (hm:X.mg "list" = none) (B:Gl X "range") (w:X.mg "range" = none) (h1:VE X b k)
  (hs:starEach [.Call (.Name "range" j) [b] [] g] X.env=[(false,eval (.Call (.Name "range" j) [b] [] g) X.env)]:=by rfl) (hs2:starEach [b] X.env=[(false,eval b X.env)]:=by rfl) :
  VE X (.Call (.Name "list" p) [.Call (.Name "range" j) [b] [] g] [] pos) (NQ k):=by
 intro aa s σ H Q I A;refine B7 A λτ μ R z f h hq=>?_;refine aP<|Ce I r hm boot_list<|aZ ?_ hs rfl;rw[hs];refine aK<|aP<|Ce I B w boot_range<|aZ ?_ hs2 rfl;rw[hs2];refine aK<|a_ (h1.run I z f h) (λL J ⟨x,v,C,N,y,u,F,m,G,c⟩=>bA ?_) λ_ _ e=>e;split at c;rename_i n _;obtain⟨⟨D,E⟩,c⟩:=c;cases RelA.int G;obtain⟨t,rfl⟩:=u;refine call_range_1 (bA<|Q6 hc y (by omega) D E (q:=λl d=>?_));refine hq _ _ _ _ (F.trans<|Kp.new d _) (m.new d<|Da<|Oz _ 0) Dz ?_;rw[Int.sub_zero];exact c l<|m.none d;exact c.elim
def BE{c b:kQ}{z w:AE}{p u pos f:Pos}(hc:X.calm=true)(D:Gl X "list") (hm:X.mg "list" = none) (P:Gl X "range") (L:X.mg "range" = none) (h1:VE X c z) (h2:VE X b w)
  (hs:starEach [.Call (.Name "range" u) [c,b] [] f] X.env=[(false,eval (.Call (.Name "range" u) [c,b] [] f) X.env)]:=by rfl) (hs2:starEach [c,b] X.env=(false,eval c X.env)::starEach [b] X.env:=by rfl) (V:starEach [b] X.env=[(false,eval b X.env)]:=by rfl) (hpl:(backTo f<|starEach [b] X.env).any (·.1)=false:=by rfl) :
  VE X (.Call (.Name "list" p) [.Call (.Name "range" u) [c,b] [] f] [] pos) (NR z w):=by
 intro aa s σ H Q I E;refine B7 E λτ μ R A g h hq=>?_;refine aP<|Ce I D hm boot_list<|aZ ?_ hs rfl;rw[hs];refine aK<|aP<|Ce I P L boot_range<|aZ ?_ hs2 hpl;rw[hs2];refine aK<|a_ (h1.run I A g h) (λu1 s1 k=>?_) λ_ _ e=>e;obtain⟨x,v,S,H1,N,F,B,O,Y,W⟩:=k;rw[V];refine aK<|a_ (h2.run N (A.kp B) O W) (λu2 s2 k=>bA ?_) λ_ _ e=>e;obtain⟨y,v2,C,H2,G,r,S2,c2,J,d⟩:=k;split at d;rename_i m n;obtain⟨⟨T,U,Z⟩,d⟩:=d;cases RelA.int Y;cases RelA.int J;obtain⟨t,rfl⟩:=F;obtain⟨t2,rfl⟩:=r;refine call_range_2<|bA<|Q6 hc G T U Z (q:=λl j=>?_);exact hq _ _ _ _ ((B.trans S2).trans<|Kp.new j _) (c2.new j<|Da<|Oz _ m) Dz<|d l<|c2.none j;exact d.elim
end
def lets(z:Str):Prop:=∀c∈z.cps.toList,97<=c/\c<=122
def O0(a b:Str):(a++b).cps.toList=a.cps.toList++b.cps.toList:=by show(a.cps++b.cps).toList=_;simp
def Dq(z:Str):z.length=z.cps.toList.length:=by simp[Str.length]
def Lw{a b:Str}(ha:lets a)(hb:lets b):lets (a++b):=λc hc=>by rw[O0]at hc;rcases U_.mp hc with h|h;exact ha c h;exact hb c h
def BF:("" : Str).cps.toList=[]:=by decide +kernel
def Xg:∀{zs:oA Str},(∀z∈zs,lets z)->lets (Txt.join "" zs):=λ{zs} h=>by
 show lets (PySem.Builtin.Str.glued "" zs);rw[dD]
 induction zs with
 |nil=>exact λc hc=>by simp[Str.join,Str.empty]at hc
 |cons x zs a=>
  cases zs with
  |nil=>exact h x V_
  |cons y zs=>show lets (x ++ "" ++ Str.join "" (y::zs));exact Lw (Lw (h x V_) λc hc=>by rw[BF]at hc;simp at hc)<|a λz hz=>h z<|K_ _ hz
end L2
namespace L2
open PySem PySem.SetTable
theorem El{b:Type} [DecidableEq b]:∀{xs ys:oA b},xs.Nodup->(∀x∈xs,x∈ys)->xs.length<=ys.length
 |[],_,_,_=>aU _
 |x::xs,ys,c,h=>by have a:=eB.mp c;have hx:=h x<|.head _;have:=El (ys:=ys.erase x) a.2 λz hz=>(List.mem_erase_of_ne<|by rintro rfl;exact a.1 hz).mpr<|h z<|.tail _ hz;rw[List.length_erase_of_mem hx]at this;have:0<ys.length:=iE hx;rw[aM];omega
def advM(mask:Nat)(p:Probe):Probe :=
 if p.more>0 then {p with j:=p.j+1,more:=p.more-1} else
 {p with j:=(leap mask p.i p.perturb).1,more:=runEnd mask (leap mask p.i p.perturb).1-(leap mask p.i p.perturb).1,i:=(leap mask p.i p.perturb).1,perturb:=(leap mask p.i p.perturb).2}
def GI(t:SetTable)(p:Probe):t.advance p=advM t.mask p:=rfl
def Xh(mask i perturb l:Nat):Probe:={j:=i+l,more:=runEnd mask i-i-l,i:=i,perturb:=perturb,dummy:=none}
def O1(mask:Nat)(h:Int):Nat->Probe
 | 0=>Xh mask (bits h%(mask+1)) (bits h) 0
 |n+1=>advM mask<|O1 mask h n
def sq(mask:Nat)(h:Int)(n:Nat):Nat:=(O1 mask h n).j
def rn(mask:Nat)(h:Int):Nat->Nat×Nat
 | 0=>(bits h%(mask+1),bits h)
 |r+1=>leap mask (rn mask h r).1 (rn mask h r).2
def nr(mask:Nat)(h:Int):Nat->Nat
 | 0=>0
 |r+1=>nr mask h r+(runEnd mask (rn mask h r).1-(rn mask h r).1)+1
def NS(mask i:Nat):runEnd mask i-i<=9:=by unfold runEnd;split<;>omega
def BG(mask i:Nat):i<=runEnd mask i:=by unfold runEnd;split<;>omega
def Q7{mask i:Nat}(h:i<=mask):runEnd mask i<=mask:=by unfold runEnd;split<;>omega
theorem JA(mask:Nat)(h:Int):∀r,nr mask h r<=10*r
 | 0=>H_ _
 |r+1=>by have:=JA mask h r;have:=NS mask (rn mask h r).1;rw[nr];omega
def BH(mask:Nat)(h:Int):∀r,(rn mask h r).1<=mask
 | 0=>by have:=Nat.mod_lt (bits h)<|show 0<mask+1 from aQ _;rw[rn];dsimp only;exact dO this
 |r+1=>by rw[rn,leap];have:=Nat.mod_lt ((rn mask h r).1*5+1+(rn mask h r).2 / 32)<|show 0<mask+1 from aQ _;dsimp only;exact dO this
theorem Tl{mask:Nat}{h:Int}{n i a:Nat}(e:O1 mask h n=Xh mask i a 0):∀l,l<=runEnd mask i-i->O1 mask h (n+l)=Xh mask i a l
 | 0,_=>e
 |l+1,b=>by rw[<- Nat.add_assoc,O1,Tl e l<|jS b];unfold advM;rw[R_<|show(Xh mask i a l).more>0 by show _-l>0;omega];show Probe.mk _ _ _ _ _=Probe.mk _ _ _ _ _;congr 1
theorem Vb(mask:Nat)(h:Int):∀r,O1 mask h (nr mask h r)=Xh mask (rn mask h r).1 (rn mask h r).2 0
 | 0=>rfl
 |r+1=>by
  rw[nr,O1,Tl (Vb mask h r) _<|H_ _];unfold advM;rw[N_<|show ¬(Xh mask (rn mask h r).1 (rn mask h r).2<|runEnd mask (rn mask h r).1-(rn mask h r).1).more>0 by show ¬(_-_-_>0);omega]
  rfl
def Iz{mask:Nat}{h:Int}{r l:Nat}(hl:l<=runEnd mask (rn mask h r).1-(rn mask h r).1):sq mask h (nr mask h r+l)=(rn mask h r).1+l:=by unfold sq;rw[Tl (Vb mask h r) l hl];rfl
theorem Ja(mask:Nat)(h:Int):∀n,(O1 mask h n).dummy=none
 | 0=>rfl
 |n+1=>by rw[O1,advM];split;exact Ja mask h n;exact Ja mask h n
theorem JB(mask:Nat)(h:Int):∀r,(rn mask h r).2=bits h / 32^r
 | 0=>by rw[rn,Nat.pow_zero,Nat.div_one]
 |r+1=>by rw[rn,leap];dsimp only;rw[JB mask h r,Nat.div_div_eq_div_mul,Nat.pow_succ]
def GJ(h:Int):bits h<2^64:=by unfold bits;have h1:=jO h (show(0:Int)<2^64 by decide);have h2:=Int.emod_nonneg h (show(2^64:Int)≠0 by decide);omega
def GK(mask:Nat)(h:Int)(r:Nat):(rn mask h<|13+r+1).1=((rn mask h<|13+r).1*5+1)%(mask+1):=by
 rw[rn,leap];dsimp only;have e:(rn mask h<|13+r).2=0:=by rw[JB];refine Nat.div_eq_of_lt<|S_ (GJ h) ?_;exact Q_ (show 2^64<=32^13 by decide)<|Nat.pow_le_pow_right (by decide)<|c_ _ _
 rw[e]
def cyc(mask:Nat)(i:Nat):Nat->Nat
 | 0=>i
 |b+1=>(cyc mask i b*5+1)%(mask+1)
theorem BI(mask:Nat)(h:Int):∀b,(rn mask h<|13+b).1=cyc mask (rn mask h 13).1 b
 | 0=>rfl
 |b+1=>by rw[<- Nat.add_assoc,GK,BI mask h b];rfl
theorem Hv(mask i:Nat)(a:Nat):∀b,cyc mask (cyc mask i a) b=cyc mask i (a+b)
 | 0=>rfl
 |b+1=>by rw[cyc,Hv mask i a b];rfl
def Msk(mask:Nat):Prop:=mask=7\/mask=31\/mask=127\/mask=511\/mask=2047\/mask=8191
def orbit(mask:Nat):Nat->Nat->oA Nat
 | 0,_=>[]
 |n+1,i=>i::orbit mask n ((i*5+1)%(mask+1))
theorem Nr(mask:Nat):∀(n i x:Nat),x∈orbit mask n i->∃b,b<n/\cyc mask i b=x
 | 0,_,_,h=>by cases h
 |n+1,i,x,h=>by rcases Z_.mp h with rfl|h;exact⟨0,aQ _,rfl⟩;obtain⟨b,hb,e⟩:=Nr mask n _ x h;refine⟨b+1,Nat.add_lt_add_right hb 1,?_⟩;rw[show b+1=1+b from g_ _ _,<- Hv];exact e
def Ms(mask:Nat):Nat->Nat->Nat->Nat
 | 0,_,a=>a
 |n+1,i,a=>Ms mask n ((i*5+1)%(mask+1))<|a ||| 1 <<< i
theorem orbB_mem(mask:Nat):∀(n i a x:Nat),(Ms mask n i a).testBit x=true->a.testBit x=true\/x∈orbit mask n i
 | 0,_,_,_,h=>.inl h
 |n+1,i,a,x,h=>by
  rcases orbB_mem mask n _ _ x h with h|h;rw[Nat.testBit_or,jC]at h;rcases h with h|h;exact .inl h
  right
  rw[Nat.one_shiftLeft,Nat.testBit_two_pow]at h;exact Z_.mpr<|.inl (aS h).symm;exact .inr<|K_ _ h
def orbs:(Ms 7 8 0 0=2^8-1/\cyc 7 0 8=0)/\(Ms 31 32 0 0=2^32-1/\cyc 31 0 32=0)/\(Ms 127 128 0 0=2^128-1/\cyc 127 0 128=0)/\(Ms 511 512 0 0=2^512-1/\cyc 511 0 512=0)/\(Ms 2047 2048 0 0=2^2048-1/\cyc 2047 0 2048=0)/\(Ms 8191 8192 0 0=2^8192-1/\cyc 8191 0 8192=0):=by decide +kernel
def orb{mask:Nat}(hm:Msk mask):Ms mask (mask+1) 0 0=2^(mask+1)-1/\cyc mask 0 (mask+1)=0:=by obtain⟨h1,h2,d,a,b,c⟩:=orbs;rcases hm with rfl|rfl|rfl|rfl|rfl|rfl;exact h1;exact h2;exact d;exact a;exact b;exact c
def GL{mask:Nat}(hm:Msk mask){i x:Nat}(j:i<=mask)(hx:x<=mask):∃b,b<=mask+1/\cyc mask i b=x:=by
 obtain⟨h1,h2⟩:=orb hm;have d:∀y,y<=mask->∃b,b<mask+1/\cyc mask 0 b=y:=λy hy=>Nr mask _ 0 y (by
  have g:(Ms mask (mask+1) 0 0).testBit y=true:=by rw[h1,Nat.testBit_two_pow_sub_one];exact aN (Nat.lt_succ_of_le hy)
  rcases orbB_mem mask _ _ _ y g with h|h;rw[Nat.zero_testBit]at h;cases h;exact h)
 obtain⟨a,ha,f⟩:=d i j;obtain⟨c,hc,e⟩:=d x hx;rcases dQ c a with h|h;refine⟨mask+1-a+c,by omega,?_⟩;rw[<- f,Hv,show a+(mask+1-a+c)=(mask+1)+c by omega,<- Hv,h2,e];refine⟨c-a,by omega,?_⟩;rw[<- f,Hv,show a+(c-a)=c from Nat.add_sub_cancel' h,e]
def reach{mask:Nat}(hm:Msk mask)(h:Int){x:Nat}(hx:x<=mask):∃r,r<=mask+14/\(rn mask h r).1=x:=by obtain⟨b,hb,e⟩:=GL hm (BH mask h 13) hx;exact⟨13+b,by omega,by rw[BI,e]⟩
theorem JC(mask:Nat)(h:Int):∀n,∃r l,l<=runEnd mask (rn mask h r).1-(rn mask h r).1/\n=nr mask h r+l
 | 0=>⟨0,0,aU _,rfl⟩
 |n+1=>by obtain⟨r,l,a,rfl⟩:=JC mask h n;rcases dQ l (runEnd mask (rn mask h r).1-(rn mask h r).1) with c|c;exact⟨r,l+1,c,rfl⟩;exact⟨r+1,0,aU _,by rw[nr];omega⟩
def Vc(mask:Nat)(h:Int)(n:Nat):sq mask h n<=mask:=by obtain⟨r,l,a,rfl⟩:=JC mask h n;rw[Iz a];have:=Q7<|BH mask h r;have:=BG mask (rn mask h r).1;omega
def Tm{mask:Nat}(hm:Msk mask)(h:Int)(a:Nat->Prop) [DecidablePred a]{x:Nat}(hx:x<=mask)(g:¬a x):∃n,n<10*turns mask/\¬a (sq mask h n)/\∀m,m<n->a (sq mask h m):=by
 obtain⟨r,l,e⟩:=reach hm h hx;have d:¬a (sq mask h<|nr mask h r):=by rw[show nr mask h r=nr mask h r+0 from rfl,Iz<|aU _,e];exact g
 have h1:nr mask h r<10*turns mask:=by have:=JA mask h r;unfold turns;omega
 generalize nr mask h r=k at d h1
 induction k using Nat.strongRecOn with
 |_ k f=>
  by_cases c:∀m,m<k->a (sq mask h m);exact⟨k,h1,d,c⟩;have⟨m,b,j⟩:∃m,m<k/\¬a (sq mask h m):=by refine dU λz=>c λm i=>dU λy=>z ⟨m,i,y⟩
  exact f m b j<|eQ b h1
theorem Vd{mask:Nat}(h:Int)(owner:oC<|oB Nat)(hs:owner.size=mask+1):∀(fuel r:Nat),(∃k,r<=k/\k<r+fuel/\owner.getD (rn mask h k).1 none=none)->(∀m,m<nr mask h r->(owner.getD (sq mask h m) none).isSome=true) ->
  ∃n,layClean.free mask owner fuel (rn mask h r).1 (rn mask h r).2=some (sq mask h n)/\owner.getD (sq mask h n) none=none/\∀m,m<n->(owner.getD (sq mask h m) none).isSome=true
 | 0,r,⟨k,h1,h2,_⟩,_=>by omega
 |fuel+1,r,hk,f=>by
  have hd:∀j,j<=mask->owner.getD j (some 0)=owner.getD j none:=λj hj=>by simp only[Array.getD,show j<owner.size by omega,dite_true]
  have a:=BH mask h r;have p:=Q7 a;have g:=BG mask (rn mask h r).1;rw[layClean.free];cases c:(List.range<|runEnd mask (rn mask h r).1+1-(rn mask h r).1).find? λk=>(owner.getD ((rn mask h r).1+k)<|some 0).isNone with
  |some k=>
   obtain⟨t,c2,i⟩:=List.find?_range_eq_some.mp c;have o:=bC.mp c2;refine⟨nr mask h r+k,?_,?_,λm hm=>?_⟩;rw[Iz<|by omega];rw[Iz<|by omega,<- hd _ (by omega)];exact Option.isNone_iff_eq_none.mp t
   ·rcases dQ m (nr mask h r) with z|z;exact f m z
    ·have e:m=nr mask h r+(m-nr mask h r):=by omega
     rw[e,Iz<|by omega,<- hd _ (by omega)];have:=i (m-nr mask h r) (by omega);cases q:owner.getD ((rn mask h r).1+(m-nr mask h r)) (some 0) with
     |none=>rw[q]at this;cases this
     |some _=>rfl
  |none=>
   have s:=List.find?_range_eq_none.mp c;have d:∀l,l<=runEnd mask (rn mask h r).1-(rn mask h r).1->(owner.getD ((rn mask h r).1+l) none).isSome=true:=λl u=>by
    have:=s l (by omega);rw[hd _<|by omega]at this;cases q:owner.getD ((rn mask h r).1+l) none with
    |none=>rw[q]at this;cases this
    |some _=>rfl
   refine Vd h owner hs fuel (r+1) ?_ λm hm=>?_;obtain⟨k,h1,h2,b⟩:=hk;rcases gS h1 with rfl|h1;have:=d 0<|aU _;rw[Nat.add_zero,b]at this;cases this;exact⟨k,h1,by omega,b⟩;rcases dQ m (nr mask h r) with z|z;exact f m z;have e:m=nr mask h r+(m-nr mask h r):=by omega
   rw[nr]at hm;rw[e,Iz<|by omega];exact d _<|by omega
structure Own(mask:Nat)(hs:oA Int)(owner:oC<|oB Nat)(k:Nat):Prop where
 size:owner.size=mask+1
 lt:∀j x,owner.getD j none=some x->x<k
 has:∀x,x<k->∃j,owner.getD j none=some x
 inj:∀j j' x,owner.getD j none=some x->owner.getD j' none=some x->j=j'
 path:∀j x h,owner.getD j none=some x->hs[x]?=some h->∃n,sq mask h n=j/\∀m,m<n->(owner.getD (sq mask h m) none).isSome=true
def BJ(o:oC<|oB Nat)(j:Nat)(v:oB Nat)(hj:j<o.size)(i:Nat):(o.setIfInBounds j v).getD i none=if i=j then v else o.getD i none:=by rw[bY,bY,dG];by_cases e:i=j;subst e;rw[R_ rfl,R_ hj,R_ rfl];rfl;rw[N_ λz=>e z.symm,N_ e]
def Ve{o:oC<|oB Nat}{j x:Nat}(h:o.getD j none=some x):j<o.size:=by
 rw[bY]at h;cases c:o[j]? with
 |none=>rw[c]at h;cases h
 |some y=>exact(cJ.mp c).1
def BK{mask k:Nat}{hs:oA Int}{owner:oC<|oB Nat}(o:Own mask hs owner k)(hk:k<=mask):∃x,x<=mask/\owner.getD x none=none:=by
 refine dU λz=>?_;have f:∀j,j<=mask->∃x,owner.getD j none=some x:=λj hj=>by
  cases c:owner.getD j none with
  |none=>exact absurd ⟨j,hj,c⟩ z
  |some x=>exact⟨x,rfl⟩
 have h1:((List.range<|mask+1).map λj=>(owner.getD j none).getD 0).Nodup:=by rw[List.Nodup,cV];refine gF (R:=(· < ·)) (λ{a b} ha hb kf e=>?_) dP;obtain⟨x,d⟩:=f a (by have:=bC.mp ha;exact dO this);obtain⟨y,g⟩:=f b (by have:=bC.mp hb;exact dO this);rw[d,g]at e;have h:x=y:=e;subst h;have:=o.inj a b x d g;omega
 have h2:=El (ys:=List.range k) h1 λy hy=>by obtain⟨j,hj,rfl⟩:=M_.mp hy;obtain⟨x,d⟩:=f j (by have:=bC.mp hj;exact dO this);rw[d];exact bC.mpr<|o.lt j x d
 rw[B_,dC,dC]at h2;omega
def BL{mask k:Nat}{hs:oA Int}{owner:oC<|oB Nat}{h:Int}(hm:Msk mask)(o:Own mask hs owner k)(hk:k<=mask)(u:hs[k]?=some h):∃j,layClean.free mask owner (turns mask) (bits h%(mask+1)) (bits h)=some j/\Own mask hs (owner.setIfInBounds j<|some k) (k+1):=by
 obtain⟨x,hx,w⟩:=BK o hk;obtain⟨r,F,v⟩:=reach hm h hx;obtain⟨n,q,E,D⟩:=Vd h owner o.size (turns mask) 0 ⟨r,aU _,by unfold turns;omega,by rw[v];exact w⟩ λm d=>absurd d<|fJ _;have hj:sq mask h n<owner.size:=by have:=Vc mask h n;rw[o.size];exact Nat.lt_succ_of_le this
 have c:=BJ owner (sq mask h n) (some k) hj;refine⟨_,q,by rw[Array.size_setIfInBounds];exact o.size,λj y e=>?_,λy hy=>?_,λj s y a b=>?_,λj y g a b=>?_⟩;rw[c]at e;split at e;cases e;exact fW _;have:=o.lt j y e;exact d_ this;rcases(show y<k\/y=k by omega) with h'|rfl;obtain⟨j,f⟩:=o.has y h';refine⟨j,?_⟩;rw[c,N_<|by rintro rfl;rw[E]at f;cases f];exact f;exact⟨_,by rw[c,R_ rfl]⟩;rw[c]at a b;split at a;rename_i l;split at b;rename_i t;exact l.trans t.symm;cases a;have:=o.lt _ _ b;omega;split at b;cases b;have:=o.lt _ _ a;omega;exact o.inj j s y a b;have p:∀i,(owner.getD i none).isSome=true->((owner.setIfInBounds (sq mask h n)<|some k).getD i none).isSome=true:=λi B=>by
  rw[c];split
  rfl
  exact B
 rw[c]at a;split at a;rename_i l;cases a;rw[u]at b;cases b;exact⟨n,l.symm,λm d=>p _<|D m d⟩;obtain⟨C,z,A⟩:=o.path j y g a b;exact⟨C,z,λm d=>p _<|A m d⟩
def GM(mask:Nat)(b:oB<|oC (oB Nat)×Nat)(h:Int):oB (oC (oB Nat)×Nat):=do
 let(a,k) <- b
 let j <- layClean.free mask a (turns mask) (bits h%(mask+1)) (bits h)
 pure (a.setIfInBounds j<|some k,k+1)
theorem Q8{mask:Nat}(hm:Msk mask){hs:oA Int}(hl:hs.length<=mask+1):∀(rest a:oA Int) (owner:oC<|oB Nat),hs=a++rest->Own mask hs owner a.length->∃b,rest.foldl (GM mask) (some (owner,a.length))=some (b,hs.length)/\Own mask hs b hs.length
 |[],a,owner,e,o=>by rw[cX]at e;subst e;exact⟨owner,rfl,o⟩
 |h::rest,a,owner,e,o=>by
  have hk:a.length<=mask:=by rw[e,J_,aM]at hl;omega
  obtain⟨j,c,d⟩:=BL hm o hk (h:=h) (by rw[e];simp);have f:GM mask (some (owner,a.length)) h=some (owner.setIfInBounds j<|some a.length,(a++[h]).length):=by
   unfold GM;simp only[Option.bind_eq_bind,Option.bind_some,c,List.length_append]
   rfl
  rw[List.foldl_cons,f];exact Q8 hm hl rest (a++[h]) _ (by rw[e];simp)<|by rw[J_];exact d
def NT{mask:Nat}(hm:Msk mask)(hs:oC Int)(hl:hs.size<=mask+1):∃a,layClean mask hs=some a/\Own mask hs.toList a hs.size:=by
 have c:Own mask hs.toList (Array.replicate (mask+1) none) 0:=by
  have b:∀j,(Array.replicate (mask+1) (none:oB Nat)).getD j none=none:=λj=>by rw[bY,Array.getElem?_replicate];split<;>rfl
  exact⟨by simp,λj x e=>(by rw[b]at e;cases e),λx hx=>absurd hx<|fJ _,λj f x e=>(by rw[b]at e;cases e),λj x h e=>(by rw[b]at e;cases e)⟩
 obtain⟨a,e,o⟩:=Q8 hm (hs:=hs.toList) (by simpa using hl) hs.toList [] _ rfl c;refine⟨a,?_,by simpa using o⟩;unfold layClean;rw[<- Array.foldl_toList];have d:List.foldl (GM mask) (some (Array.replicate (mask+1) none,0)) hs.toList=some (a,hs.toList.length):=e;exact(cF (Option.map (·.1)) d).trans rfl
structure TabQ(t:SetTable)(hs:oA Int):Prop where
 msk:Msk t.mask
 len:t.place.size=hs.length
 le:∀j∈t.place.toList,j<=t.mask
 path:∀z∈t.place.toList.zip hs,∃n,sq t.mask z.2 n=z.1/\∀m,m<n->sq t.mask z.2 m∈t.place.toList
def GN{mask f mv:Nat}{led pl:Bool}(hm:Msk mask)(hs:oC Int)(hl:hs.size<=mask+1):∃t k,laid mask f mv led pl hs=some (t,k)/\t.mask=mask/\k.toList.Perm (List.range hs.size)/\TabQ t (k.toList.map λi=>hs.getD i 0):=by
 obtain⟨c,e,o⟩:=NT hm hs hl;have d:∀j x,(j,x)∈((List.range<|mask+1).filterMap λj=>(c.getD j none).map (j,·))↔c.getD j none=some x:=λj x=>by rw[gO];constructor;rintro⟨a,ha,q⟩;obtain⟨y,h,u⟩:=W_.mp q;cases u;exact h;intro q;refine⟨j,bC.mpr ?_,by rw[q];rfl⟩;have:=Ve q;rw[o.size]at this;exact this
 have D:((List.range<|mask+1).filterMap λj=>(c.getD j none).map (j,·)).Pairwise λp q=>p.2≠q.2:=by refine List.Pairwise.filterMap _ (R:=(· < ·)) (λa s G b hb H w=>?_) dP;obtain⟨z,hz,rfl⟩:=W_.mp hb;obtain⟨C,g,rfl⟩:=W_.mp w;intro q;have v:z=C:=q;subst v;have:=o.inj a s z hz g;omega
 refine⟨_,_,by unfold laid;rw[e];rfl,rfl,?_,?_⟩;show(List.map (λp:Nat×Nat=>p.2) _).Perm _;refine(List.perm_ext_iff_of_nodup ?_ jZ).mpr λx=>?_;rw[List.Nodup,cV];exact D;rw[M_,bC];constructor;rintro⟨⟨j,y⟩,hy,rfl⟩;exact o.lt j y<|(d j y).mp hy;intro hx;obtain⟨j,A⟩:=o.has x hx;exact⟨(j,x),(d j x).mpr A,rfl⟩;refine⟨hm,?_,λj hj=>?_,λz hz=>?_⟩;show(List.map _ _).toArray.size=(List.map _<|List.map _ _).length;simp;have B:j∈List.map (·.1) ((List.range<|mask+1).filterMap λj=>(c.getD j none).map (j,·)):=hj;obtain⟨⟨a,b⟩,q,rfl⟩:=M_.mp B;have:=Ve<|(d a b).mp q;rw[o.size]at this;show a<=mask;exact dO this;have g:z∈List.zip (List.map (·.1)<|(List.range<|mask+1).filterMap λj=>(c.getD j none).map (j,·)) (List.map (λi=>hs.getD i 0)<|List.map (·.2)<|(List.range<|mask+1).filterMap λj=>(c.getD j none).map (j,·)):=hz;rw[aJ,List.zip_map',M_]at g;obtain⟨⟨a,b⟩,q,rfl⟩:=g;have l:=(d a b).mp q;have hb:=o.lt a b l;obtain⟨n,r,F⟩:=o.path a b (hs.getD b 0) l (by rw[aG,bY,aY hb];rfl);refine⟨n,r,λm E=>?_⟩;obtain⟨y,h⟩:=bO.mp<|F m E;exact M_.mpr ⟨(_,y),(d _ y).mpr h,rfl⟩
def Em{xs:oC Nat}(h:Ei xs){j k:Nat}(e:xs[k]?=some j):SetTable.below xs j=k:=by
 obtain⟨hk,b⟩:=cJ.mp e;obtain⟨h1,h2,a⟩:=Fm h j;have f:xs.getD k j=j:=by rw[bY,e];rfl
 rcases jU (SetTable.below xs j) k with c|c|c;have:=h.lt (d:=j) c hk;have:=a _ (H_ _)<|eQ c hk;omega;exact c;have:=h2 k c;omega
def Vf{t:SetTable}{led:Bool}(h:TblOk t led){j:Nat}(hj:j∈t.place.toList):∃i,t.slot j=.live i/\t.place[i]?=some j:=by obtain⟨i,a⟩:=List.getElem?_of_mem hj;rw[aG]at a;refine⟨i,?_,a⟩;unfold SetTable.slot;dsimp only;rw[Em h.rise a,a];simp
def Q9{t:SetTable}{led:Bool}(h:TblOk t led){j:Nat}(hj:j∉t.place.toList):t.slot j=.empty:=by
 unfold SetTable.slot;dsimp only;rw[h.dum,Ll,N_]
 rfl
 intro c;have a:t.place[SetTable.below t.place j]?=some j:=by simpa using c
 rw[<- aG]at a;exact hj<|aB a
theorem Lx{c d:Type}(a:c)(b:d):∀(p:Nat) (xs:oA c) (ys:oA d),xs.length=ys.length->(xs.take p++a::xs.drop p).zip (ys.take p++b::ys.drop p)=(xs.zip ys).take p++(a,b)::(xs.zip ys).drop p
 | 0,xs,ys,_=>by simp
 |p+1,[],[],_=>by simp
 |p+1,x::xs,y::ys,h=>by have:=Lx a b p xs ys (by simpa using h);simpa using this
 |_+1,[],_::_,h=>by simp at h
 |_+1,_::_,[],h=>by simp at h
def TabQ.put{t:SetTable}{led:Bool}{hs:oA Int}{h:Int}{n:Nat}(q:TabQ t hs)(T:TblOk t led)(l:∀m,m<n->sq t.mask h m∈t.place.toList):TabQ (t.put<|sq t.mask h n).1 (hs.take (SetTable.below t.place<|sq t.mask h n)++h::hs.drop (SetTable.below t.place<|sq t.mask h n)):=by
 have hp:SetTable.below t.place (sq t.mask h n)<=t.place.size:=(Fm T.rise _).1;have e:(t.put<|sq t.mask h n).1.place.toList=t.place.toList.take (SetTable.below t.place<|sq t.mask h n)++sq t.mask h n::t.place.toList.drop (SetTable.below t.place<|sq t.mask h n):=Go _ _ _ hp;have hm:(t.put<|sq t.mask h n).1.mask=t.mask:=rfl;have k:=q.len;have g:∀j,j∈t.place.toList->j∈(t.put<|sq t.mask h n).1.place.toList:=λj hj=>by rw[e];rw[<- iL (SetTable.below t.place<|sq t.mask h n) t.place.toList]at hj;rcases U_.mp hj with hj|hj;exact cK _ hj;exact aW _<|K_ _ hj
 have i:∀j,j∈(t.put<|sq t.mask h n).1.place.toList->j=sq t.mask h n\/j∈t.place.toList:=λj hj=>by rw[e]at hj;rcases U_.mp hj with hj|hj;exact .inr<|eR hj;rcases Z_.mp hj with hj|hj;exact .inl hj;exact .inr<|dJ hj
 refine⟨q.msk,?_,λj hj=>?_,λz hz=>?_⟩;rw[<- aO,e];simp only[List.length_append,List.length_cons,List.length_take,List.length_drop,Array.length_toList];omega;rcases i j hj with rfl|hj;exact Vc _ _ _;exact q.le j hj;rw[e,Lx _ _ _ _ _<|by rw[aO];exact k]at hz;rw[hm];have f:z∈t.place.toList.zip hs->∃c,sq t.mask z.2 c=z.1/\∀m,m<c->sq t.mask z.2 m∈(t.put<|sq t.mask h n).1.place.toList:=λhz=>by obtain⟨c,a,b⟩:=q.path z hz;exact⟨c,a,λm d=>g _<|b m d⟩
 rcases U_.mp hz with hz|hz;exact f<|eR hz;rcases Z_.mp hz with rfl|hz;exact⟨n,rfl,λm d=>g _<|l m d⟩;exact f<|dJ hz
def BM{t:SetTable}{led:Bool}{hs:oA Int}(q:TabQ t hs)(T:TblOk t led)(hl:hs.length<=t.mask):∃x,x<=t.mask/\x∉t.place.toList:=by refine dU λz=>?_;have:=El (ys:=t.place.toList) (jZ (n:=t.mask+1)) λx hx=>dU λy=>z ⟨x,by have:=bC.mp hx;exact dO this,y⟩;rw[dC,aO,q.len]at this;omega
theorem probe_ok{t:SetTable}{led:Bool}(T:TblOk t led){hashAt:Nat->Int}{h:Int}{e:Nat}(he:sq t.mask h e∉t.place.toList)(hb:∀m,m<e->sq t.mask h m∈t.place.toList):∀(f n:Nat),n<=e->e<n+f ->
  (SetTable.probe.go t hashAt h f (O1 t.mask h n)=some (.empty (sq t.mask h e) none)/\∀m i,n<=m->m<e->t.place[i]?=some (sq t.mask h m)->hashAt i≠h) \/
  ∃k i,n<=k/\k<e/\t.place[i]?=some (sq t.mask h k)/\hashAt i=h/\SetTable.probe.go t hashAt h f (O1 t.mask h n)=some (.candidate (sq t.mask h k) i<|O1 t.mask h<|k+1)/\∀m i,n<=m->m<k->t.place[i]?=some (sq t.mask h m)->hashAt i≠h
 | 0,n,h1,h2=>by omega
 |f+1,n,h1,h2=>by
  rw[SetTable.probe.go];have p:∀{i d j:Nat},t.place[i]?=some j->t.place[d]?=some j->i=d:=λa b=>(Em T.rise a).symm.trans<|Em T.rise b;rcases gS h1 with rfl|h1;rw[show t.slot (O1 t.mask h n).j=.empty from Q9 T he];dsimp only;rw[Ja];exact .inl ⟨rfl,λm i a b=>by omega⟩;obtain⟨i,y,hp⟩:=Vf T<|hb n h1;rw[show t.slot (O1 t.mask h n).j=.live i from y];dsimp only;by_cases c:hashAt i=h;rw[R_<|by simpa using c];exact .inr ⟨n,i,H_ _,h1,hp,c,rfl,λm i a b=>by omega⟩;rw[N_<|by simpa using c,GI];have o:∀d,t.place[d]?=some (sq t.mask h n)->hashAt d≠h:=λd x=>by rw[p x hp];exact c
  rcases probe_ok T he hb f (n+1) h1 (by omega) with⟨a,b⟩|⟨k,d,u,a2,w,v,s,r⟩;refine .inl ⟨a,λm d m1 q l=>?_⟩;rcases gS m1 with rfl|m1;exact o d l;exact b m d m1 q l;refine .inr ⟨k,d,jS u,a2,w,v,s,λm g m1 q l=>?_⟩;rcases gS m1 with rfl|m1;exact o g l;exact r m g m1 q l
end L2
namespace L2
open PySem
section
variable {prog:kO}{w:kP}{A:kR}{E:kJ->kK->Prop}{s:kK}
def BN:∀(n q:Nat) (d:kL) (u:kJ) (f:oA kM) (A:kR) (E:kJ->kK->Prop) (s:kK) (Q:Bool->kK->Prop),d.depth<=n->n<q->Cano d=true->Reads s.heap u d f->Q false s->qX prog w A (ofAClassStatement q u) Q E s:=by
 intro n
 induction n with
 |zero=>
  intro q d u f A E s Q hd hq hc c h;cases c with
  |int i t=>unfold ofAClassStatement;exact DD h
  |str x t=>unfold ofAClassStatement;exact DD h
  |tuple k a2 p l=>simp[PyData.depth]at hd
  |none=>simp[Cano]at hc
  |bool b=>simp[Cano]at hc
  |list k a2 p l=>simp[Cano]at hc
  |dict k a2 p l L=>simp[Cano]at hc
 |succ n M=>
  intro q d u f A E s Q hd hq hc c h;cases c with
  |int i t=>unfold ofAClassStatement;exact DD h
  |str x t=>unfold ofAClassStatement;exact DD h
  |none=>simp[Cano]at hc
  |bool b=>simp[Cano]at hc
  |list k a2 p l=>simp[Cano]at hc
  |dict k a2 p l L=>simp[Cano]at hc
  |@tuple a o items m y f I e B S=>
   have R:s.TypeIs (.ref a) "tuple" := ⟨o,I,e⟩;have P:PyData.depthAll y<=n:=by simp only[PyData.depth]at hd;omega
   have N:Av y=true:=hc;obtain⟨z,rfl⟩:∃z,q=z+1:=⟨q-1,by omega⟩;unfold ofAClassStatement;refine A_<|gZ R ?_;dsimp only;rw[R_ (by decide:("tuple" == "tuple")=true)];refine A_<|DD ?_;simp only[Bool.not_true,Bool.false_eq_true,if_false];refine A_<|bR I B ?_;dsimp only;refine A_<|show wpAny _ _ (forIn items _ _) _ _ s from ?_;rw[<- gR];refine dY _ (λrest r g=>r.1=none/\g=s/\∃j J,ReadsAll s.heap rest j J/\Av j=true/\PyData.depthAll j<=n) _ ?_ ?_ _ _ ⟨rfl,rfl,y,f,S,N,P⟩
   ·rintro v rest r g ⟨c,rfl,j,J,O,e,C⟩;cases O with
    |@cons _ _ d D F H h1 G=>simp only[Av,Bool.and_eq_true]at e;simp only[PyData.depthAll]at C;refine A_ (M z d v F A _ g _ (by omega) (by omega) e.1 h1 ?_);simp only[Bool.false_eq_true,if_false];exact DD ⟨rfl,rfl,D,H,G,e.2,by omega⟩
   rintro⟨U,T⟩ g ⟨c,rfl,_⟩;simp only at c;subst c;exact DD h
def NU:∀(n q:Nat) (d:kL) (u:kJ) (f:oA kM) (A:kR) (E:kJ->kK->Prop) (s:kK) (Q:Bool->kK->Prop),d.depth<=n->Cano d=true->Reads s.heap u d f->(∀b,Q b s)->qX prog w A (hashByValue q u) Q E s:=by
 intro n
 induction n with
 |zero=>
  intro q d u f A E s Q hd hc c h;cases c with
  |int i t=>unfold hashByValue;exact DD (h _)
  |str x t=>unfold hashByValue;exact DD (h _)
  |tuple k a2 p l=>simp[PyData.depth]at hd
  |none=>simp[Cano]at hc
  |bool b=>simp[Cano]at hc
  |list k a2 p l=>simp[Cano]at hc
  |dict k a2 p l L=>simp[Cano]at hc
 |succ n M=>
  intro q d u f A E s Q hd hc c h;cases c with
  |int i t=>unfold hashByValue;exact DD (h _)
  |str x t=>unfold hashByValue;exact DD (h _)
  |none=>simp[Cano]at hc
  |bool b=>simp[Cano]at hc
  |list k a2 p l=>simp[Cano]at hc
  |dict k a2 p l L=>simp[Cano]at hc
  |@tuple a o items m y f I e z T=>
   have S:s.TypeIs (.ref a) "tuple" := ⟨o,I,e⟩;have P:PyData.depthAll y<=n:=by simp only[PyData.depth]at hd;omega
   have N:Av y=true:=hc;cases q with
   |zero=>unfold hashByValue;exact DD (h _)
   |succ R=>
    unfold hashByValue;refine A_<|eN S F.slot_tuple_hash.lookup<|show wpAny _ _ (seqItems? (.ref a)>>=_) _ _ s from ?_;refine A_<|bR I z<|A_<|show wpAny _ _ (forIn items _ _) _ _ s from ?_;rw[<- gR];refine dY _ (λrest r g=>r.1=none/\g=s/\∃j J,ReadsAll s.heap rest j J/\Av j=true/\PyData.depthAll j<=n) _ ?_ ?_ _ _ ⟨rfl,rfl,y,f,T,N,P⟩
    ·rintro v rest r g ⟨c,rfl,j,J,O,e,B⟩;cases O with
     |@cons _ _ d C D H h1 G=>simp only[Av,Bool.and_eq_true]at e;simp only[PyData.depthAll]at B;refine A_ (M R d v D A _ g _ (by omega) e.1 h1 λb=>?_);cases b;exact DD<|DD<|h _;exact DD ⟨rfl,rfl,C,H,G,e.2,by omega⟩
    rintro⟨V,U⟩ g ⟨c,rfl,_⟩;simp only at c;subst c;exact DD<|h _
def Cp(h:kS)(d:kL)(b:kM):Prop:=KeyTree d/\∃a,Reads h (.ref b) d a
def GO{d:kL}{b:kM}(hx:Cp s.heap d b):∀{vs:oA kJ} {Q:Bool->kK->Prop},(∀v∈vs,∃e c,v=.ref c/\Cp s.heap e c)->Q false s->qX prog w A (searchCouldBeSeen (.ref b) vs) Q E s:=by intro vs Q hv h;obtain⟨g,j,n⟩:=hx;unfold searchCouldBeSeen;refine A_<|dY _ (λrest r a=>r.1=none/\a=s/\∀v∈rest,∃e c,v=.ref c/\Cp s.heap e c) _ ?_ ?_ _ _ ⟨rfl,rfl,hv⟩;rintro v rest ⟨o,p⟩ a ⟨i,rfl,hv'⟩;obtain⟨e,c,rfl,f,k,l⟩:=hv' v<|.head _;have m:∀v∈rest,∃e c,v=.ref c/\Cp a.heap e c:=λv h=>hv' v<|.tail _ h;dsimp only;split;exact DD ⟨rfl,rfl,m⟩;refine A_ (Lv 6 8 _ _ j _ _ _ _ g.dep (by decide) g.can n ?_);simp only[Bool.not_true,Bool.false_eq_true,if_false];refine A_ (Lv 6 8 _ _ k _ _ _ _ f.dep (by decide) f.can l ?_);simp only[Bool.not_true,Bool.false_eq_true,if_false];refine A_ (BN 6 8 _ _ j _ _ _ _ g.dep (by decide) g.can n ?_);simp only[Bool.false_eq_true,if_false];refine A_ (BN 6 8 _ _ k _ _ _ _ f.dep (by decide) f.can l ?_);simp only[Bool.false_eq_true,if_false];exact DD ⟨rfl,rfl,m⟩;rintro⟨o,p⟩ a ⟨i,rfl,_⟩;simp only at i;subst i;exact DD h
def O2(w:kP)(x:kL×kM):Int×kJ:=(Bj w x.1,.ref x.2)
def Fy(w:kP)(h:kS)(a:kM)(xs:oA<|kL×kM)(led:Bool):Prop :=
 ∃o b c t,h.get? a=some o/\o.ExactSet/\o.data=.set b c t/\b.toList=xs.map (O2 w)/\(∀x∈xs,Cp h x.1 x.2)/\t.fits b.size=true/\TblOk t led/\TabQ t (xs.map λx=>Bj w x.1)/\xs.length*5<t.mask*3
def Tn{t:SetTable}{f g:Nat->Int}{h:Int}{p:SetTable.Probe}(e:∀i,f i=g i):t.probe f h p=t.probe g h p:=by rw[funext e]
def GP{t:SetTable}{hs:oA Int}(q:TabQ t hs):t.gaveWay=false:=by unfold SetTable.gaveWay;rcases q.msk with h|h|h|h|h|h<;>rw[h]<;>decide
def GQ{b:Type}{c:Prop} [Decidable c]{m1 a:Sem b}{Q:b->kK->Prop}(h:qX prog w A a Q E s)(h1:qX prog w A a Q E s->qX prog w A m1 Q E s):qX prog w A (if c then m1 else a) Q E s:=by split;exact h1 h;exact h
def Xi{a:kM}{o:kT}{es:oC<|Int×kJ}{ep:Nat}{t:SetTable}{xs:oA<|kL×kM}{led:Bool}{d:kL}{b:kM}{Q:SetFound->kK->Prop}{q:Nat}(Z:A.units+6<cLine)(V:s.heap.get? a=some o)(hd:o.data=.set es ep t)(hl:es.toList=xs.map (O2 w))(U:∀x∈xs,Cp s.heap x.1 x.2)(hf:t.fits es.size=true)(r:TblOk t led)(F:TabQ t<|xs.map λx=>Bj w x.1)(hx:Cp s.heap d b)
  (he:sq t.mask (Bj w d) q∉t.place.toList) (hb:∀m,m<q->sq t.mask (Bj w d) m∈t.place.toList) (jm:q<10*SetTable.turns t.mask)
  (h1:d∈xs.map (·.1)->Q (.there none) s) (h2:d∉xs.map (·.1)->Q (.free (sq t.mask (Bj w d) q) false) s) :
  ∀(k n fuel:Nat) (B:oB SetTable.Probe),n+k=q->k<fuel->(B=some (O1 t.mask (Bj w d) n)\/B=none/\n=0)->(∀(m i:Nat) (x:kL×kM),m<n->t.place[i]?=some (sq t.mask (Bj w d) m)->xs[i]?=some x->x.1≠d) ->
   qX prog w A (setSearchFrom a (.ref b) (Bj w d) true fuel B) Q E s:=by
 intro k
 induction k using Nat.strongRecOn with
 |_ k ih=>
 intro n fuel B hn hfu ap T;obtain⟨fuel,rfl⟩:∃f,fuel=f+1:=⟨fuel-1,by omega⟩;have R:∀{i:Nat} {x:kL×kM},xs[i]?=some x->es[i]?=some (O2 w x):=λ{i x} h=>by rw[<- aG,hl,F_,h];rfl
 have O:∀{i j:Nat},t.place[i]?=some j->∃x,xs[i]?=some x:=λ{i j} h=>by have l:=(cJ.mp h).1;have:=F.len;rw[B_]at this;exact⟨_,D_<|by omega⟩
 unfold setSearchFrom;refine A_<|bB V hd hf ?_;dsimp only;rw[GP F,N_ X_];have jw:B.getD (t.probeStart<|Bj w d)=O1 t.mask (Bj w d) n:=by
  rcases ap with rfl|⟨rfl,rfl⟩
  rfl
  rfl
 rw[jw,Tn (g:=λi=>((xs.map λx=>Bj w x.1)[i]?).getD 0) ?_];have L:=probe_ok (hashAt:=λi=>((xs.map λx=>Bj w x.1)[i]?).getD 0) r he hb (10*SetTable.turns t.mask) n (by omega) (by omega);rcases L with⟨a1,a2⟩|⟨u,i,b1,b2,H,b4,b5,b6⟩;rw[show t.probe (λi=>((xs.map λx=>Bj w x.1)[i]?).getD 0) (Bj w d) (O1 t.mask (Bj w d) n)=_ from a1];dsimp only;refine DD<|h2 λcq=>?_;obtain⟨x,G,rfl⟩:=M_.mp cq;obtain⟨i,l⟩:=List.getElem?_of_mem G;have I:i<t.place.size:=by have:=F.len;have:=(E_.mp l).1;rw[B_]at *;omega
 have z:t.place[i]?=some t.place[i]:=aY I;obtain⟨C,M,S⟩:=F.path (t.place[i],Bj w x.1)<|aB (i:=i)<|by
  rw[List.getElem?_zip_eq_some];exact⟨by rw[aG];exact z,by rw[F_,l];rfl⟩
 dsimp only at M S;have X:C<q:=by rcases jU C q with c|c|c;exact c;subst c;rw[M]at he;exact absurd (by rw[<- aG]at z;exact aB z) he;exact absurd (S q c) he
 rw[<- M]at z;rcases dQ C n with c|c;exact T C i x c z l rfl;exact a2 C i c X z (by rw[F_,l];rfl);rw[show t.probe (λi=>((xs.map λx=>Bj w x.1)[i]?).getD 0) (Bj w d) (O1 t.mask (Bj w d) n)=_ from b5];obtain⟨x,l⟩:=O H;have G:=aB l;dsimp only;rw[R l];dsimp only[O2];refine GQ ?_ λgo=>A_ (GO hx (λv hv=>?_)<|by rw[N_ X_];exact go);refine A_<|aT<|(Q4 prog w).eqBool Z (U x G) hx ?_;refine A_<|bB V hd hf ?_;dsimp only;by_cases p:x.1=d;rw[aN p,R_<|by rfl];exact DD<|h1<|M_.mpr ⟨x,G,p⟩;rw[aF p,N_<|by decide,show t.sameMemory t.moves t.mask=some true by unfold SetTable.sameMemory;rw[R_<|by simp]];dsimp only;obtain⟨W,J,Y⟩:=Vf r<|hb u b2;have m9:W=i:=(Em r.rise Y).symm.trans<|Em r.rise H;subst m9;rw[R_ rfl,J];dsimp only;rw[R l];dsimp only[O2];refine A_<|wpAny_isSame_ref_self<|A_<|DD ?_;show wpAny _ _ (if false=true then _ else setSearchFrom a (.ref b) (Bj w d) true fuel<|some<|O1 t.mask (Bj w d)<|u+1) _ _ _;rw[N_ X_];refine ih (q-(u+1)) (by omega) (u+1) fuel _ (by omega) (by omega) (.inl rfl) λm N y hm P D=>?_;rcases dQ m n with c|c;exact T m N y c P D;rcases dQ m u with c2|c2;intro e5;refine b6 m N c c2 P ?_;rw[F_,D,<- e5];rfl;have e6:m=u:=by omega
 subst e6;have e7:N=W:=(Em r.rise P).symm.trans<|Em r.rise H;subst e7;rw[l]at D;cases D;exact p;obtain⟨e,sf,rfl⟩:=M_.mp hv;have hm:=(Array.mem_filter.mp<|iX.mp sf).1;rw[<- iX,hl]at hm;obtain⟨y,hy,rfl⟩:=M_.mp hm;exact⟨y.1,y.2,rfl,U y hy⟩;intro i;show(es[i]?.map (·.1)).getD 0=_;rw[<- aG,hl,F_,F_];cases xs[i]?<;>rfl
def Cp.but{h h':kS}{p:kM}{d:kL}{b:kM}(x:Cp h d b)(hk:∀c o,c≠p->h.get? c=some o->h'.get? c=some o)(hp:∀o e n,h.get? p=some o->o.data≠.seq e n):Cp h' d b:=by obtain⟨k,a,r⟩:=x;exact⟨k,a,Iy hk hp r k.can⟩
def Ly{a:kM}{led:Bool}{h:kS}{o:kT}{es:oC<|Int×kJ}{ep:Nat}{t:SetTable}(i:h.get? a=some o)(m:o.ExactSet)(hd:o.data=.set es ep t){b:oC<|Int×kJ}{t':SetTable}{d:oA<|kL×kM}(hl:b.toList=d.map (O2 w))(l:∀x∈d,Cp h x.1 x.2)(hf:t'.fits b.size=true)(j:TblOk t' led)(k:TabQ t'<|d.map λx=>Bj w x.1) :
  (h.update a<|Obj.putSet b t').get? a=some {o with data:=.set b (ep+1) t'}/\(∀x∈d,Cp (h.update a<|Obj.putSet b t') x.1 x.2)/\(d.length*5<t'.mask*3->Fy w (h.update a<|Obj.putSet b t') a d led):=by
 have e:=aX (Obj.putSet b t') i (by rw[putSet_of b t' hd];rfl);rw[putSet_of b t' hd]at e;have f:∀x∈d,Cp (h.update a<|Obj.putSet b t') x.1 x.2:=λx hx=>(l x hx).but (p:=a) (λc o hc e=>((b_ h a<|Obj.putSet b t').2 c hc).trans e) (λu v n g q=>by rw[i]at g;cases g;rw[hd]at q;cases q);exact⟨e,f,λr=>⟨_,b,ep+1,t',e,m,rfl,hl,f,hf,j,k,r⟩⟩
theorem Lz{b:Type}:∀(ys a:oA b),(List.range' a.length ys.length).filterMap (λi=>(a++ys)[i]?)=ys
 |[],a=>rfl
 |y::ys,a=>by have:=Lz ys<|a++[y];rw[J_,eP]at this;rw[aM,kA,eW,bK<|H_ _,kE];show y::_=_;exact cF (y::·) this
def To{a:Type}{xs:oA a}{l:oA Nat}(hp:l.Perm<|List.range xs.length):(l.filterMap λi=>xs[i]?).Perm xs:=by have h1:=hp.filterMap λi=>xs[i]?;have h2:=Lz xs [];rw[gI,gJ,<- List.range_eq_range']at h2;rwa[h2]at h1
theorem Nt{xs:oA<|kL×kM}{hs:oC Int}(b:hs.toList=xs.map λx=>Bj w x.1):∀(l:oA Nat),(∀i∈l,i<xs.length)->(l.map λi=>hs.getD i 0)=(l.filterMap λi=>xs[i]?).map λx=>Bj w x.1
 |[],_=>rfl
 |i::l,a=>by have c:=a i<|.head _;have e:xs[i]?=some xs[i]:=D_ c;rw[bF,eW,e,bF,Nt b l λj hj=>a j<|.tail _ hj];rw[bY,<- aG,b,F_,e];rfl
def BO{a:kM}{led:Bool}{o:kT}{es:oC<|Int×kJ}{ep:Nat}{t:SetTable}{xs:oA<|kL×kM}{d:Nat}{Q:Unit->kK->Prop}(p:s.heap.get? a=some o)(F:o.ExactSet)(hd:o.data=.set es ep t)(hl:es.toList=xs.map (O2 w))(D:∀x∈xs,Cp s.heap x.1 x.2)(hf:t.fits es.size=true)(G:TblOk t led)
  (hm:Msk<|SetTable.sizeAbove d-1) (hz:SetTable.sizeAbove d<=sizeLine) (J:xs.length*5<(SetTable.sizeAbove d-1)*3)
  (h:∀r y,Heap.SameBut a s.heap r->Fy w r a y led->y.Perm xs->Q () {s with heap:=r}):qX prog w A (setRelay a d) Q E s:=by
 have j:es.size=xs.length:=by rw[<- aO,hl,B_]
 have q:(es.map (·.1)).toList=xs.map λx=>Bj w x.1:=by rw[Array.toList_map,hl,aJ];rfl
 obtain⟨c,b,v,z,u,k⟩:=GN (f:=t.finger) (mv:=t.movedTo<|SetTable.sizeAbove d-1) (led:=t.led) (pl:=t.plain) hm (es.map (·.1)) (by rw[Array.size_map,j];omega);rw[Array.size_map,j]at u;have g:TblOk c led:=by have:=TblOk.laid v;rw[G.led]at this;exact this
 have B:∀i∈b.toList,i<xs.length:=λi H=>bC.mp<|u.mem_iff.mp H;rw[Nt q b.toList B]at k;have e:=To u;have m:(b.filterMap λi=>es[i]?).toList=(b.toList.filterMap λi=>xs[i]?).map (O2 w):=by rw[Array.toList_filterMap,List.map_filterMap];congr 1;funext i;rw[<- aG,hl,F_]
 have l:(b.filterMap λi=>es[i]?).size=es.size:=by rw[<- aO,m,B_,e.length_eq,j]
 unfold setRelay;refine A_<|bB p hd hf<|show wpAny _ _ _ _ _ _ from ?_;dsimp only;rw[N_<|Nat.not_lt.mpr hz,show t.relaid (es.map (·.1)) d=some (c,b) from v];refine A_<|show wpAny _ _ (if((b.filterMap λi=>es[i]?).size != es.size)=true then _ else pure (b.filterMap λi=>es[i]?,c)) _ _ _ from ?_;rw[N_<|by rw[l];simp];refine DD<|show wpAny _ _ (storeSet a (b.filterMap λi=>es[i]?) c) _ _ _ from ?_;generalize (b.filterMap λi=>es[i]?)=es2 at m l;generalize (b.toList.filterMap λi=>xs[i]?)=xs2 at m e k;have M:=e.length_eq;have n:c.fits es2.size=true:=by have:=k.len;rw[B_]at this;simp only[SetTable.fits,SetTable.fill,g.dum,Bool.and_eq_true,beq_iff_eq,decide_eq_true_eq];rw[z,l];refine⟨by omega,?_⟩;show c.place.size+0<=_;omega
 obtain⟨L,I,C⟩:=Ly (led:=led) p F hd m (λx hx=>D x<|e.mem_iff.mp hx) n g k;exact iA p hd (h _ _ (b_ _ _ _) (C<|by rw[z];omega) e) (by rw[l,j];have:sizeLine=16777216:=rfl;omega)
def TabQ.pln{t:SetTable}{hs:oA Int}(q:TabQ t hs)(b:Bool):TabQ {t with plain:=b} hs:=⟨q.msk,q.len,q.le,q.path⟩
def GR{m n:Nat}(hm:Msk m)(b:n<4900)(h:n*5<m*3)(c:(n+1)*5>=m*3):Msk (SetTable.sizeAbove (SetTable.grown<|n+1)-1)/\SetTable.sizeAbove (SetTable.grown<|n+1)<=sizeLine/\(n+1)*5<(SetTable.sizeAbove (SetTable.grown<|n+1)-1)*3:=by obtain⟨i,e,a⟩:∃i,n+1=i/\(i=5\/i=19\/i=77\/i=307\/i=1229):=⟨_,rfl,by unfold Msk at hm;omega⟩;rw[e];unfold Msk;rcases a with rfl|rfl|rfl|rfl|rfl<;>decide +kernel
def NV{m n:Nat}(h:n*5<m*3):n+1+0<=m:=by omega
def BP{m:Nat}(h:Msk m):10*SetTable.turns m<=100000:=by unfold SetTable.turns;unfold Msk at h;omega
def BQ{a:kM}{led:Bool}{xs:oA<|kL×kM}{d:kL}{b:kM}{Q:Bool->kK->Prop}(hu:A.units+6<cLine)(hx:Cp s.heap d b)(hS:Fy w s.heap a xs led)(hn:xs.length<4900)
  (h1:d∈xs.map (·.1)->Q false s) (h2:d∉xs.map (·.1)->∀D J,Heap.SameBut a s.heap D->Fy w D a J led->J.Perm ((d,b)::xs)->Q true {s with heap:=D}) :
  qX prog w A (setAddHashed a (.ref b)<|Bj w d) Q E s:=by
 obtain⟨o,r,ep,t,C,S,hd,R,hX,hf,q,l,Z⟩:=hS;have iz:r.size=xs.length:=by rw[<- aO,R,B_]
 have hpl:t.place.size=xs.length:=by have:=l.len;rwa[B_]at this
 obtain⟨x0,oj,jz⟩:=BM l q (by rw[B_];omega);obtain⟨k,U,V,f3⟩:=Tm l.msk (Bj w d) (λj=>j∈t.place.toList) oj jz;unfold setAddHashed setAddHashedIn;refine aT<|A_<|bB C hd hf<|show wpAny _ _ _ _ _ _ from ?_;dsimp only;rw[show byScan (.ref b) r=false from rfl,N_ X_];unfold setSearch;refine A_ (Xi hu C hd R hX hf q l hx V f3 U (λcq=>?_) (λB=>?_) k 0 100000 none (by omega) ?_ (.inr ⟨rfl,rfl⟩) λm i x hm=>absurd hm<|fJ _);exact DD<|h1 cq;dsimp only;refine A_<|bB C hd hf ?_;dsimp only;have hp:SetTable.below t.place (sq t.mask (Bj w d) k)<=t.place.size:=(Fm q.rise _).1;have y:=l.put (h:=Bj w d) (n:=k) q f3;have g:=q.put<|Lm q<|Q9 q V;have Y:(t.put<|sq t.mask (Bj w d) k).2=SetTable.below t.place (sq t.mask (Bj w d) k):=rfl;have M:(t.put<|sq t.mask (Bj w d) k).1.mask=t.mask:=rfl;rw[Y];have f:(t.put<|sq t.mask (Bj w d) k).1.place.size=xs.length+1:=by have:=y.len;rw[this];simp only[List.length_append,List.length_cons,List.length_take,List.length_drop,List.length_map];omega
 generalize O:SetTable.below t.place (sq t.mask (Bj w d) k)=p at hp y ⊢;generalize (t.put<|sq t.mask (Bj w d) k).1=t1 at y g M f ⊢;have v:(SetTable.insertAt r p (Bj w d,.ref b)).toList=(xs.take p++(d,b)::xs.drop p).map (O2 w):=by rw[Go _ _ _<|by omega,R,P_,bF,iS,iT];rfl
 have H:TabQ t1 ((xs.take p++(d,b)::xs.drop p).map λx=>Bj w x.1):=by rw[P_,bF,iS,iT];exact y
 have F:(xs.take p++(d,b)::xs.drop p).Perm ((d,b)::xs):=by refine List.perm_middle.trans ?_;rw[iL]
 have L:=F.length_eq;rw[aM]at L;have u:∀x∈xs.take p++(d,b)::xs.drop p,Cp s.heap x.1 x.2:=λx hx'=>by rcases Z_.mp (F.mem_iff.mp hx') with rfl|hx';exact hx;exact hX x hx'
 have X:(SetTable.insertAt r p (Bj w d,.ref b)).size=xs.length+1:=by rw[<- aO,v,B_,L]
 generalize SetTable.insertAt r p (Bj w d,.ref b)=cv at v X ⊢;generalize xs.take p++(d,b)::xs.drop p=xs1 at v H F L u;clear O hp y Y;have hsl:sizeLine=16777216:=rfl;have fin:∀e:SetTable,e.mask=t.mask->e.place.size=xs.length+1->TblOk e led->TabQ e (xs1.map λx=>Bj w x.1)->qX prog w A (do
   storeSet a cv e
   if(!false&&e.tooFull)=true then do
    setRelay a (SetTable.grown<|r.size+1)
    pure true
   else pure true) Q E s:=λe N P G g4=>by
  have z:e.fits cv.size=true:=by simp only[SetTable.fits,SetTable.fill,G.dum,Bool.and_eq_true,beq_iff_eq,decide_eq_true_eq];refine⟨P.trans X.symm,?_⟩;show e.place.size+0<=_;rw[N,P];exact NV Z
  obtain⟨k1,k2,k3⟩:=Ly (led:=led) C S hd v u z G g4;have W:=b_ s.heap a<|Obj.putSet cv e;refine A_ (iA C hd ?_<|by omega);have T:e.tooFull=decide ((xs.length+1)*5>=t.mask*3):=by unfold SetTable.tooFull SetTable.fill;rw[N,P,G.dum];rfl
  by_cases c:(xs.length+1)*5>=t.mask*3;rw[R_<|by rw[T,aN c];rfl];have I:=GR l.msk hn Z c;rw[<- iz]at I;refine A_ (BO (s:={s with heap:=s.heap.update a<|Obj.putSet cv e}) (o:={o with data:=.set cv (ep+1) e}) k1 S rfl v k2 z G I.1 I.2.1 (by rw[L,<- iz];exact I.2.2) λD J c1 c2 c3=>DD ?_);exact h2 B D J (W.trans c1) c2<|c3.trans F;rw[N_<|by rw[T,aF c];decide];exact DD<|h2 B _ _ W (k3<|by rw[N];omega) F
 split;obtain⟨kx,as,rx⟩:=hx;refine A_<|NU 6 8 _ _ as _ _ _ _ kx.dep kx.can rx λbv=>?_;cases bv;exact fin _ M f (g.plain false)<|H.pln false;exact fin _ M f g H;exact A_<|DD<|fin _ M f g H;exact S_ U<|BP l.msk
end
end L2
namespace L2
open PySem PySem.Spec PyProof.Rows
section
variable {prog:kO}{w:kP}{A:kR}{R:kZ->kK->Prop}{sa it t:kM}{led:Bool}
structure StepIt(prog:kO)(w:kP)(it t:kM)(items:oC kJ)(St:Nat->kS->Prop):Prop where
 item:∀{A:kR} {E:kJ->kK->Prop} {s:kK} {i:Nat} {x:kJ} {Q:oB kJ->kK->Prop},St i s.heap->items[i]?=some x->(∀h',St (i+1) h'->Heap.SameBut it s.heap h'->Q (some x) {s with heap:=h'})->qX prog w A (pyNext<|.ref it) Q E s
 fin:∀{A:kR} {E:kJ->kK->Prop} {s:kK} {i:Nat} {Q:oB kJ->kK->Prop},A.handled=none->St i s.heap->items[i]?=none->(∀h',Heap.ExtBut it s.heap h'->Q none {s with heap:=h'})->qX prog w A (pyNext<|.ref it) Q E s
 keep:∀{i:Nat} {h h':kS} {p:kM},it≠p->t≠p->St i h->Heap.SameBut p h h'->St i h'
 noseq:∀{i:Nat} {h:kS} {o:kT} {vs:oC kJ} {n:Nat},St i h->h.get? it=some o->o.data≠.seq vs n
def Nu{items:oC kJ}(k:t≠it):StepIt prog w it t items λi h=>h.IsListIter it t i/\h.IsList t items where
 item:=λst hx q=>gW st.1 st.2 hx λf j a=>q f ⟨j,by obtain⟨o,e,r⟩:=st.2;exact⟨o,(a.2 t k).trans e,r⟩⟩ a
 fin:=λg st hx q=>iI g st.1 st.2 hx q
 keep:=λh1 h2 st a=>⟨st.1.at λo e=>(a.2 it h1).trans e,by obtain⟨o,e,r⟩:=st.2;exact⟨o,(a.2 t h2).trans e,r⟩⟩
 noseq:=λst e q=>by obtain⟨⟨o,b,c,d⟩,_⟩:=st;rw[e]at b;cases b;rw[d]at q;cases q
def L3{items:oC kJ}(k:t≠it):StepIt prog w it t items λi h=>h.IsTupleIter it t i/\h.IsTuple t items where
 item:=λst hx q=>wpAny_pyNext_tuple_item st.1 st.2 hx λf j a=>q f ⟨j,st.2.at λo e=>(a.2 t k).trans e⟩ a
 fin:=λg st hx q=>wpAny_pyNext_tuple_end g st.1 st.2 hx q
 keep:=λh1 h2 st a=>⟨st.1.at λo e=>(a.2 it h1).trans e,st.2.at λo e=>(a.2 t h2).trans e⟩
 noseq:=λst e q=>by obtain⟨⟨o,b,c,d⟩,_⟩:=st;rw[e]at b;cases b;rw[d]at q;cases q
def Fy.at{h h':kS}{xs:oA<|kL×kM}(x:Fy w h sa xs led)(hs:∀o,h.get? sa=some o->h'.get? sa=some o)(a:∀x∈xs,Cp h x.1 x.2->Cp h' x.1 x.2):Fy w h' sa xs led:=by obtain⟨o,c,d,g,e,b,a2,i,f,r⟩:=x;exact⟨o,c,d,g,hs o e,b,a2,i,λx hx=>a x hx<|f x hx,r⟩
def Fy.noseq{h:kS}{xs:oA<|kL×kM}(x:Fy w h sa xs led){o:kT}{vs:oC kJ}{n:Nat}(e:h.get? sa=some o):o.data≠.seq vs n:=λq=>by obtain⟨b,c,d,f,a,_,a2,_⟩:=x;rw[e]at a;cases a;rw[a2]at q;cases q
def Nv{St:Nat->kS->Prop}{items:oC kJ}(S:StepIt prog w it t items St)(hh:A.handled=none)(hu:A.units+20<cLine)(am:sa≠it)(ap:sa≠t){ks:oA<|kL×kM}(jj:items.toList=ks.map λx=>.ref x.2)(jh:∀P:oA kL,P.Nodup->(∀d∈P,d∈ks.map (·.1))->P.length<64) :
  ∀(m i:Nat) (s:kK) (xs:oA<|kL×kM),m+i=items.size->St i s.heap->Fy w s.heap sa xs led->(∀x∈ks,Cp s.heap x.1 x.2)->(xs.map (·.1)).Nodup->(∀d,d∈xs.map (·.1)↔d∈(ks.take i).map (·.1))->(∀x∈xs,x∈ks)->xs.length<=i ->
   (∀f C g,(∀b o,b≠sa->b≠it->s.heap.get? b=some o->f.get? b=some o)->Fy w f sa g led->(g.map (·.1)).Nodup->(∀d,d∈g.map (·.1)↔d∈ks.map (·.1))->(∀x∈g,x∈ks)->g.length<=items.size->R (.ok<|.ret .none) {s with heap:=f,toks:=C}) ->
   codeAny (model prog w) A (.builtin "set.update.loop" ⟨[.ref sa,.ref it],[]⟩) R s:=by
 have hkl:ks.length=items.size:=by rw[<- aO,jj,B_]
 intro m
 induction m with
 |zero=>intro i s xs hm z L H B hd v hl q;refine cY Hr ?_;rw[bV Dw _];refine(show wpAny _ A.in1 (pyNext (.ref it)>>=_) _ _ s from A_<|S.fin (show A.in1.handled=none from hh) z (by rw[dR<|by omega]) λf hx=>?_);refine DD (q f s.toks xs (λb o h1 h2 e=>hx b o h2 e) ?_ B (λd=>?_) v<|by omega);exact L.at (λo e=>hx sa o am e) λx _ j=>j.but (p:=it) (λc o hc e=>hx c o hc e) λo vs n e=>S.noseq z e;rw[hd d,bN<|by omega]
 |succ m ih=>
  intro i s xs hm z L H B hd v hl q;have hi:i<items.size:=by omega
  have k:i<ks.length:=by omega
  have hx:items[i]?=some (.ref ks[i].2):=by rw[<- aG,jj,F_,D_ k];rfl
  have U:∀d,d∈(ks.take<|i+1).map (·.1)↔d=ks[i].1\/d∈(ks.take i).map (·.1):=λd=>by rw[cW,D_ k,P_,U_];simp only[Option.toList_some,List.map_cons,List.map_nil,List.mem_singleton];exact Or.comm
  have l:=aL k;generalize ks[i]=kx at hx U l;obtain⟨d0,O⟩:=kx;refine cY Hr ?_;rw[bV Dw _];refine(show wpAny _ A.in1 (pyNext (.ref it)>>=_) _ _ s from A_<|S.item z hx λh1 wv G=>?_);have a:∀{d:kL} {b:kM},Cp s.heap d b->Cp h1 d b:=λj=>j.but (p:=it) (λc o hc e=>(G.2 c hc).trans e) λo vs n e=>S.noseq z e;have W:Fy w h1 sa xs led:=L.at (λo e=>(G.2 sa am).trans e) λx _ j=>a j;have gp:xs.length<64:=by
   have:=jh (xs.map (·.1)) B λd Z=>by obtain⟨y,hy,rfl⟩:=M_.mp Z;exact M_.mpr ⟨y,v y hy,rfl⟩
   rwa[B_]at this
  have u:Cp h1 d0 O:=a<|H _ l;refine(show wpAny _ A.in1 (holding [.ref O] (setAdd sa<|.ref O)>>=_) _ _ _ from A_<|aT ?_);unfold setAdd;have E:A.in1.units+6<cLine:=by show A.units+1+6<cLine;omega
  refine aT<|A_<|(Q4 prog w).pyHash (s:={s with heap:=h1}) E u ?_;refine BQ (s:={s with heap:=h1,toks:=s.toks+Ix d0}) E u W (eQ gp<|by decide) (λfk=>?_) λls h2 g M Q hp=>?_;refine DD ⟨dM Dw _,ih (i+1) _ xs (by omega) wv W (λx hx'=>a<|H x hx') B (λd=>?_) v (fO hl) λf C Y J T a2 X V I=>?_⟩;rw[U d,<- hd d];exact⟨.inr,λh=>h.elim (λe=>by rw[e];exact fk) id⟩;exact q f C Y (λb o F D e=>J b o F D<|(G.2 b D).trans e) T a2 X V I;have aj:g.length=xs.length+1:=hp.length_eq;have N:∀{d:kL} {b:kM},Cp h1 d b->Cp h2 d b:=λj=>j.but (p:=sa) (λc o hc e=>(M.2 c hc).trans e) λo vs n e=>W.noseq e;have r:=hp.map (·.1);refine DD ⟨dM Dw _,ih (i+1) _ g (by omega) (S.keep am.symm ap.symm wv M) Q (λx hx'=>N<|a<|H x hx') (r.nodup_iff.mpr<|eB.mpr ⟨ls,B⟩) (λd=>?_) (λx hx'=>?_) (by omega) λf C Y J T a2 X V I=>?_⟩;rw[r.mem_iff,U d,<- hd d];exact Z_;rcases Z_.mp (hp.mem_iff.mp hx') with rfl|hx';exact l;exact v x hx';exact q f C Y (λb o F D e=>J b o F D<|(M.2 b F).trans<|(G.2 b D).trans e) T a2 X V I
def Ju:isSubtype (.type "list") (.type "set")=pure false:=by rw[fR];kernel_rfl
def Jv:isSubtype (.type "list") (.type "frozenset")=pure false:=by rw[fR];kernel_rfl
def Ra{h:kS}:Fy w (h.push<|B5 w) h.objs.size [] (Fo w) :=
 ⟨_,#[],0,_,I_ _ rfl,⟨rfl,rfl,rfl⟩,rfl,rfl,(λ_ z=>nomatch z),rfl,TblOk.fresh _,⟨.inl rfl,rfl,(λ_ z=>nomatch z),(λ_ z=>nomatch z)⟩,(show 0*5<7*3 by decide)⟩
def BR{E:kJ->kK->Prop}{s:kK}{id:String}{items:oC kJ}{ks:oA<|kL×kM}{Q:Unit->kK->Prop}(G:A.handled=none)(u:A.units+20<cLine)(f:s.heap.IsList t items)(v:items.toList=ks.map λx=>.ref x.2)(B:∀x∈ks,Cp s.heap x.1 x.2)(M:∀i:oA kL,i.Nodup->(∀d∈i,d∈ks.map (·.1))->i.length<64)
  (j:Fy w s.heap sa [] led) (D:sa≠t)
  (h:∀c g a,(∀b o,b≠sa->s.heap.get? b=some o->c.get? b=some o)->Fy w c sa a led->(a.map (·.1)).Nodup->(∀d,d∈a.map (·.1)↔d∈ks.map (·.1))->(∀x∈a,x∈ks)->a.length<=items.size->Q () {s with heap:=c,toks:=g}) :
  qX prog w A (Builtin.Frozenset.updateFrom id sa<|.ref t) Q E s:=by
 have T:s.TypeIs (.ref t) "list" := f.typeIs;have N:=Ju;have P:=Jv;have O:(Value.type "list" == Value.type "dict")=false:=by decide
 unfold Builtin.Frozenset.updateFrom;generalize q:pyIter=PI
 wp_walk
 subst q;refine eA f<|show wpAny _ _ _ _ _ _ from A_<|iB ?_;have I:t<s.heap.objs.size:=by obtain⟨o,e,_⟩:=f;exact G_ e
 have L:sa<s.heap.objs.size:=by obtain⟨o,_,_,_,e,_⟩:=j;exact G_ e
 have l:∀{d:kL} {b:kM},Cp s.heap d b->Cp (s.heap.push {cls:=.type "list_iterator",data:=.fields #[.ref t,.int 0 0]}) d b:=λ⟨k,F,r⟩=>⟨k,F,eU (λb o e=>C_ _ e) r⟩;refine Nv (led:=led) (Nu (items:=items)<|O_ I) G u (O_ L) D v M items.size 0 _ [] (by omega) ⟨⟨_,I_ _ rfl,rfl,rfl⟩,by obtain⟨o,e,r⟩:=f;exact⟨o,C_ _ e,r⟩⟩ (j.at (λo e=>C_ _ e) λ_ _ J=>l J) (λx hx=>l<|B x hx) fS (λd=>by simp) (λ_ z=>nomatch z) (aU _) λc g a y a2 H C p m=>?_;exact DD<|h c g a (λb o n e=>y b o n (O_<|G_ e)<|C_ _ e) a2 H C p m
def Xj{E:kJ->kK->Prop}{s:kK}{id:String}{items:oC kJ}{ks:oA<|kL×kM}{Q:Unit->kK->Prop}(H:A.handled=none)(v:A.units+20<cLine)(f:s.heap.IsTuple t items)(y:items.toList=ks.map λx=>.ref x.2)(C:∀x∈ks,Cp s.heap x.1 x.2)(N:∀i:oA kL,i.Nodup->(∀d∈i,d∈ks.map (·.1))->i.length<64)
  (j:Fy w s.heap sa [] led) (F:sa≠t)
  (h:∀c g a,(∀b o,b≠sa->s.heap.get? b=some o->c.get? b=some o)->Fy w c sa a led->(a.map (·.1)).Nodup->(∀d,d∈a.map (·.1)↔d∈ks.map (·.1))->(∀x∈a,x∈ks)->a.length<=items.size->Q () {s with heap:=c,toks:=g}) :
  qX prog w A (Builtin.Frozenset.updateFrom id sa<|.ref t) Q E s:=by
 have T:s.TypeIs (.ref t) "tuple" := f.typeIs;have O:=Jp;have S:=Jq;have P:(Value.type "tuple" == Value.type "dict")=false:=by decide
 unfold Builtin.Frozenset.updateFrom;generalize q:pyIter=PI
 wp_walk
 subst q;refine dX f<|show wpAny _ _ _ _ _ _ from A_<|iB ?_;have J:t<s.heap.objs.size:=by obtain⟨o,e,_⟩:=f;exact G_ e
 have M:sa<s.heap.objs.size:=by obtain⟨o,_,_,_,e,_⟩:=j;exact G_ e
 have l:∀{u:kT} {d:kL} {b:kM},Cp s.heap d b->Cp (s.heap.push u) d b:=λ⟨k,G,r⟩=>⟨k,G,eU (λb o e=>C_ _ e) r⟩;refine Nv (led:=led) (L3 (items:=items)<|O_ J) H v (O_ M) F y N items.size 0 _ [] (by omega) ⟨⟨_,I_ _ rfl,rfl,rfl⟩,f.push _⟩ (j.at (λo e=>C_ _ e) λ_ _ L=>l L) (λx hx=>l<|C x hx) fS (λd=>by simp) (λ_ z=>nomatch z) (aU _) λc g a B a2 I D p m=>?_;exact DD<|h c g a (λb o n e=>B b o n (O_<|G_ e)<|C_ _ e) a2 I D p m
def Cp.keeps{h h':kS}{d:kL}{b:kM}(x:Cp h d b)(hk:∀b o,h.get? b=some o->h'.get? b=some o):Cp h' d b:=by obtain⟨k,a,r⟩:=x;exact⟨k,a,eU hk r⟩
def O3{k o:Type}{f:k->o}{l m:oA o}(h:l.Perm m):∀c:oA k,m=c.map f->∃g:oA k,l=g.map f/\g.Perm c:=by
 induction h with
 |nil=>
  intro c e;have:c=[]:=by simpa using e.symm
  subst this;exact⟨[],rfl,.nil⟩
 |cons a h r=>
  intro c e;cases c with
  |nil=>cases e
  |cons x c=>injection e with i d;obtain⟨g,rfl,p⟩:=r c d;exact⟨x::g,by rw[i];rfl,p.cons x⟩
 |swap a b l=>
  intro c e
  match c,e with
  |x::y::c,e=>injection e with i d;injection d with d e3;exact⟨y::x::c,by rw[i,d,e3];rfl,.swap x y c⟩
 |trans h1 h2 n j=>intro c e;obtain⟨g,i,s⟩:=j c e;obtain⟨q,d,u⟩:=n g i;exact⟨q,d,u.trans s⟩
theorem Jw{h:kS}:∀{zs:oA<|kL×kM},(∀x∈zs,Cp h x.1 x.2)->∃a,ReadsAll h (zs.map λx=>.ref x.2) (zs.map (·.1)) a
 |[],_=>⟨_,.nil⟩
 |z::zs,hx=>by obtain⟨a,r⟩:=Jw λx hx'=>hx x<|.tail _ hx';obtain⟨_,c,b⟩:=hx z<|.head _;exact⟨_,.cons b r⟩
def Rb{E:kJ->kK->Prop}{s:kK}{a:kM}{xs:oA<|kL×kM}{Q:kJ->kK->Prop}(U:A.handled=none)(hu:A.units+100<cLine)(N:Fy w s.heap a xs<|Fo w)(g:∀d:oA<|kL×kM,d.Perm xs->SortOkW (d.map (·.1)))
  (h:∀(h':kS) (d':Drawn) (tk p c:Nat) (zs:oA<|kL×kM),(∀b o,s.heap.get? b=some o->h'.get? b=some o)->s.heap.objs.size<=p->h'.get? p=some (seqObj "list" (zs.map λx=>Value.ref x.2).toArray c)->zs.Perm xs->(zs.map (·.1)).Pairwise (λa b=>Fk a b=true)->Q (.ref p) {s with heap:=h',drawn:=d',toks:=tk}) :
  qX prog w A (call (.builtin "sorted") [.ref a]) Q E s:=by
 obtain⟨o,X,Z,t,P,O,hd,F,M,hf,T,hQ,hB⟩:=N;have Y:X.size=xs.length:=by rw[<- aO,F,B_]
 have z:xs.length<64:=by have:=(g xs<|.refl _).len;rwa[B_]at this
 refine Js (Jr (show A.in1.handled=none from U) ⟨o,P,O.1,hd,hf⟩ T (by omega) λh1 H I ord G V hp=>?_);rw[F,aJ]at hp;obtain⟨d,rfl,k⟩:=O3 hp xs (f:=λx=>Value.ref x.2) rfl;have ok:=g d k;have y:d.length<64:=by rw[k.length_eq];exact z
 have C:(d.map λx=>Value.ref x.2).length=(d.map (·.1)).length:=by rw[B_,B_]
 have u:∀x∈d,Cp h1 x.1 x.2:=λx hx=>(M x<|k.mem_iff.mp hx).keeps G;refine⟨XZ<|d.map (·.1),by rw[B_];exact y,by rw[C];exact ok.ord,λh2 h' r=>?_,λp h' l c v W m r e=>?_⟩;obtain⟨bs,n⟩:=Jw (h:=h') λx hx=>(u x hx).keeps r;exact NO (s:={s with heap:=h',drawn:=H,toks:=I}) ok n (by rw[<- C];exact h2) (by show A.units+1+1+64<_;omega);have D:∀i∈p.toList,i<d.length:=λi j=>by have:=v.perm.mem_iff.mp j;rw[B_]at this;exact bC.mp this
 have L:(p.toList.map λi=>(d.map λx=>Value.ref x.2).getD i Value.none)=(p.toList.map λi=>d.getD i (.none,0)).map λx=>Value.ref x.2:=by rw[aJ];refine eE λi j=>?_;have:=D i j;simp[List.getD_eq_getElem?_getD,this]
 rw[L]at e;have B:(p.toList.map λi=>d.getD i (.none,0)).Perm d:=by
  have J:p.toList.Perm (List.range d.length):=by have:=v.perm;rwa[B_]at this
  have B:=J.map λi=>d.getD i (PyData.none,0);rwa[Gn]at B
 refine h h' H I l c _ (λb o q=>r b o<|G b o q) (Q_ V m) e (B.trans k) ?_;have S:(p.toList.map λi=>d.getD i (PyData.none,0)).map (·.1)=p.toList.map λi=>(d.map (·.1)).getD i PyData.none:=by rw[aJ];refine eE λi j=>?_;have:=D i j;simp[List.getD_eq_getElem?_getD,this]
 rw[S];exact AU v W
end
section
variable {X:Cx}{aa:oA<|kM×kT}{σ:St}{H:Hp}{s:kK}{k:Nat}{tg:kQ}
structure TOk(ds:oA kL):Prop where
 len:ds.length<64
 key:∀d∈ds,KeyTree d
 fst:∀d∈ds,∃i r,d=.tuple (.int i::r)
 cmp:∀d∈ds,∀e∈ds,cmpb d e=true
def Few(ds:oA kL):Prop:=∀a:oA kL,a.Nodup->(∀d∈a,d∈ds)->a.length<64
structure TOkB(ds:oA kL):Prop where
 len:Few ds
 key:∀d∈ds,KeyTree d
 fst:∀d∈ds,∃i r,d=.tuple (.int i::r)
 cmp:∀d∈ds,∀e∈ds,cmpb d e=true
structure TOkW(ds:oA kL):Prop where
 len:Few ds
 key:∀d∈ds,KeyTree d
 fst:(∀d∈ds,∃i r,d=.tuple (.int i::r))\/∀d∈ds,∃i r,d=.tuple (.tuple i::r)
 cmp:∀d∈ds,∀e∈ds,cmpb d e=true
def TOkB.w{ds:oA kL}(h:TOkB ds):TOkW ds:=⟨h.len,h.key,.inl h.fst,h.cmp⟩
def TOkW.tup{ds:oA kL}(h:TOkW ds):∀d∈ds,∃r,d=.tuple r:=λd hd=>h.fst.elim (λz=>by obtain⟨_,_,e⟩:=z d hd;exact⟨_,e⟩) λz=>by obtain⟨_,_,e⟩:=z d hd;exact⟨_,e⟩
def NW{ds:oA kL}(h:ds.length<64):Few ds:=λc b a=>by have:=El b a;exact dH this h
def TOk.b{ds:oA kL}(h:TOk ds):TOkB ds:=⟨NW (by have:=h.len;omega),h.key,h.fst,h.cmp⟩
theorem Vg:∀{ds:oA kL},(∀d∈ds,KeyTree d)->PyData.canLayAll0 ds=true/\PyData.depthAll ds<=6/\Av ds=true
 |[],_=>⟨rfl,aU _,rfl⟩
 |d::ds,h=>by obtain⟨a,b,c⟩:=Vg λe he=>h e<|.tail _ he;have k:=h d<|.head _;refine⟨?_,?_,?_⟩;simp only[PyData.canLayAll0,k.lay,a];rfl;simp only[PyData.depthAll];have:=k.dep;omega;simp only[Av,k.can,c];rfl
def TOkW.sort{ds es:oA kL}(h:TOkW ds)(hs:∀d∈es,d∈ds)(f:es.Nodup):SortOkW es:=by obtain⟨a,b,c⟩:=Vg λd hd=>h.key d<|hs d hd;have:=h.len es f hs;exact⟨by omega,a,by omega,c,f,λ_=>h.fst.imp (λz d hd=>z d<|hs d hd) λz d hd=>z d<|hs d hd,λd hd e he=>h.cmp d (hs d hd) e<|hs e he⟩
theorem BS(I:Inv X aa σ H s):∀(ds:oA kL) (ws:oA V) (c:oA kJ),Au X.K H ds ws->Vals ws c->(∀d∈ds,KeyTree d)->(∀d∈ds,∃r,d=.tuple r)->∃b:oA<|kL×kM,b.map (·.1)=ds/\c=b.map (λx=>.ref x.2)/\∀x∈b,Cp s.heap x.1 x.2/\Dk X.K H x.1 (.ref x.2)
 |[],ws,c,h,r,_,_=>by have e:=h.nil;subst e;cases r;exact⟨[],rfl,rfl,λ_ z=>nomatch z⟩
 |d::ds,ws,c,h,r,hk,hf=>by
  obtain⟨x,i,rfl,h1,h2⟩:=Au.cons (K:=X.K) (H:=H) h;cases r with
  |@cons _ _ u o l g=>obtain⟨b,f,n,m⟩:=BS I ds i o h2 g (λd hd=>hk d<|.tail _ hd) λd hd=>hf d<|.tail _ hd;obtain⟨j,rfl⟩:=hf d<|.head _;obtain⟨a,p,rfl,ha,hd⟩:=Dk.tup (K:=X.K) (H:=H) h1;cases l;refine⟨(.tuple j,a)::b,by rw[bF,f],by rw[bF,<- n],λy hy=>?_⟩;rcases Z_.mp hy with rfl|hy;exact⟨⟨hk _<|.head _,Dk.reads I _ _ _ h1 rfl⟩,h1⟩;exact m y hy
theorem BT{K:kN}:∀{zs:oA<|kL×kM},(∀x∈zs,Dk K H x.1<|.ref x.2)->Au K H (zs.map (·.1)) (zs.map λx=>.ref x.2)
 |[],_=>D8
 |z::zs,h=>Ct (h z<|.head _)<|BT λx hx=>h x<|.tail _ hx
theorem Vh:∀(zs:oA<|kL×kM),Vals (zs.map λx=>V.ref x.2) (zs.map λx=>Value.ref x.2)
 |[]=>.nil
 |z::zs=>.cons rfl<|Vh zs
def BU(P:oA kL->Prop)(te:AE):AE:=λh f R=>te h f λx c=>opt (items c x) λg=>opt (dats g) λe=>P e/\∀(es:oA kL) (p:kM),es.Nodup->(∀d,d∈es↔d∈e)->es.Pairwise (λa b=>Fk a b=true)->c p=none->R (.R p) (Am c p<|.lst<|es.map .D)
abbrev TN(te:AE):AE:=BU TOk te
def BV{P:oA kL->Prop}{e:kQ}{te:AE}{p U pos N:Pos}(hP:∀y,P y->TOkW y)(Y:Room k X.A)(hg:Gl X "sorted") (hm:X.mg "sorted" = none) (gr:Gl X "set") (fu:X.mg "set" = none) (he:VE X e te)
  (hs:starEach [.Call (.Name "set" U) [e] [] N] X.env=[(false,eval (.Call (.Name "set" U) [e] [] N) X.env)]:=by rfl) (hs2:starEach [e] X.env=[(false,eval e X.env)]:=by rfl) :
  VE X (.Call (.Name "sorted" p) [.Call (.Name "set" U) [e] [] N] [] pos) (BU P te):=by
 intro aa s σ H Q I g;refine B7 g λτ μ R ap L h hq=>?_;refine aP<|Ce I hg hm boot_sorted<|bP ?_ hs rfl;rw[hs];refine aK<|aP<|Ce I gr fu boot_set<|aZ ?_ hs2 rfl;rw[hs2];refine aK<|a_ (he.run I ap L h) (λu a lj=>V8 lj λx v μ1 H1 i rv S1 M rx h1=>bA ?_) λ_ _ e=>e;obtain⟨f,ey,h1⟩:=Bf h1;obtain⟨y,ed,ok,h1⟩:=Bf h1;have ok:=hP _ ok;obtain⟨p0,ws,rfl,hk,rs⟩:=Bt M rx ey;cases rv;have dk:=rs.dats ed;have hd:X.A.handled=none:=Y.hd;have hun:=Y.un;have l2:=dk.length;have Z:=ok.len;have fin:∀(ks:oA<|kL×kM),ks.map (·.1)=y->(∀x∈ks,Cp a.heap x.1 x.2/\Dk X.K H1 x.1 (.ref x.2))->∀(h1:kS) (tk:Nat) (_:0<tk) (xs:oA<|kL×kM),(∀b o,a.heap.get? b=some o->h1.get? b=some o)->Fy X.w h1 a.heap.objs.size xs (Fo X.w)->(xs.map (·.1)).Nodup->(∀d,d∈xs.map (·.1)↔d∈ks.map (·.1))->(∀x∈xs,x∈ks) ->
   qX X.prog X.w X.A (call (.builtin "sorted") [.ref a.heap.objs.size]) (EP X aa σ Q) X.xe {a with heap:=h1,toks:=tk}:=λks m jj h2 tk D xs F z l M2 B=>by
  rw[m]at M2;refine wtk D <|Rb (s:={a with heap:=h2,toks:=tk}) hd (by omega) z (λf W=>ok.sort (λd hd=>(M2 d).mp<|(W.map (·.1)).mem_iff.mp hd)<|(W.map (·.1)).nodup_iff.mpr l) λh3 d3 t3 q c t k2 hp n C j0 ht3=>?_;have lS:a.heap.objs.size<h2.objs.size:=by obtain⟨o,_,_,_,e,_⟩:=z;exact G_ e
  have qu:a.heap.objs.size<=q:=Q_ (dN lS) hp;have cj:t.length<64:=by have:=(ok.sort (es:=t.map (·.1)) (λd hd=>(M2 d).mp<|(C.map (·.1)).mem_iff.mp hd)<|(C.map (·.1)).nodup_iff.mpr l).len;rwa[B_]at this
  have hz:(t.map λx=>V.ref x.2).length<=sizeLine:=by rw[B_];exact Q_ (dN cj)<|by decide
  have J:=i.hok.fresh qu;refine⟨.ref q,_,(Inv.drw i d3).laid (t':=t3) (λb o e=>k2 b o<|F b o e) qu<|show Bs X.prog X.w _ h3 _ (.lst<|t.map λx=>V.ref x.2) from⟨hz,_,c,Vh t,n⟩,rfl,?_⟩;refine hq _ _ _ _ (S1.trans<|Kp.new J _) (M.new J<|Da ?_) Dz<|h1 (t.map (·.1)) q ((C.map (·.1)).nodup_iff.mpr l) (λd=>((C.map (·.1)).mem_iff).trans<|M2 d) j0<|M.none J;exact(BT λx hx=>(jj x<|B x<|C.mem_iff.mp hx).2).rel
 refine wtk i.tk<|Ln (s:=a) ?_;rcases hk with⟨_,hk⟩|⟨_,hk⟩;obtain⟨T,S,E,hz⟩:=i.list hk;obtain⟨ks,m,O,n⟩:=BS i y ws T dk S ok.key ok.tup;have G:p0<a.heap.objs.size:=by obtain⟨o,e,_⟩:=E.isList;exact G_ e
 have j:∀f:oA kL,f.Nodup->(∀d∈f,d∈ks.map (·.1))->f.length<64:=by rw[m];exact Z
 refine BR (s:={a with heap:=a.heap.push<|B5 X.w}) (show X.A.in1.in1.handled=none from hd) (show X.A.units+1+1+20<cLine by omega) (by obtain⟨o,e,r⟩:=E.isList;exact⟨o,C_ _ e,r⟩) (ks:=ks) (by simpa using O) (λx hx=>(n x hx).1.keeps λb o e=>C_ _ e) j Ra (dA<|O_ G) λh2 tk xs F z l M2 B L2 D=>bA ?_;exact fin ks m n h2 tk D xs (λb o e=>F b o (O_<|G_ e)<|C_ _ e) z l M2 B;obtain⟨T,S,E,hz⟩:=i.tuple hk;obtain⟨ks,m,O,n⟩:=BS i y ws T dk S ok.key ok.tup;have G:p0<a.heap.objs.size:=by obtain⟨o,e,_⟩:=E;exact G_ e
 have j:∀f:oA kL,f.Nodup->(∀d∈f,d∈ks.map (·.1))->f.length<64:=by rw[m];exact Z
 refine Xj (s:={a with heap:=a.heap.push<|B5 X.w}) (show X.A.in1.in1.handled=none from hd) (show X.A.units+1+1+20<cLine by omega) (Heap.IsTuple.push E _) (ks:=ks) (by simpa using O) (λx hx=>(n x hx).1.keeps λb o e=>C_ _ e) j Ra (dA<|O_ G) λh2 tk xs F z l M2 B L2 D=>bA ?_;exact fin ks m n h2 tk D xs (λb o e=>F b o (O_<|G_ e)<|C_ _ e) z l M2 B
def GS{e:kQ}{te:AE}{p c pos a:Pos}(i:Room k X.A)(d:Gl X "sorted") (hm:X.mg "sorted" = none) (f:Gl X "set") (g:X.mg "set" = none) (he:VE X e te)
  (hs:starEach [.Call (.Name "set" c) [e] [] a] X.env=[(false,eval (.Call (.Name "set" c) [e] [] a) X.env)]:=by rfl) (hs2:starEach [e] X.env=[(false,eval e X.env)]:=by rfl) :
  VE X (.Call (.Name "sorted" p) [.Call (.Name "set" c) [e] [] a] [] pos) (TN te):=BV (λ_ h=>h.b.w) i d hm f g he hs hs2
def YB(c:Nat):AV:=.D<|.str ⟨#[c]⟩
def BW{K:kN}{g:Hp}{z:Str}:ItOk K g (Its z) (z.cps.toList.map YB) (λ_=>True):=by refine⟨λi H a S c k b=>?_,λi H a v h x S c k e y=>?_,λH a S c k=>?_⟩;rw[B_,aO]at b;exact b;obtain⟨rfl,d,f,rfl⟩:=y;rw[F_,aG,f]at e;cases e;exact⟨Kp.refl,c,Qf Sn⟩;show(List.map YB z.cps.toList).length=z.cps.size;rw[B_,aO]
def TQ(c:AE):AI:=λd b R=>c d b λx a=>match x with
 |.D (.str z)=>R (z.cps.toList.map YB) (λ_=>True) a
 |_=>False
def NX{l:kQ}{b:AE}(hl:VE X l b):VI X tg l (TQ b) :=
 (MH hl).imp λσ H Q a=>B7 a λd c R f hc h hq=>⟨d,c,_,f,hc,h,λx e v m g j i hx=>by
  split at hx;cases RelA.str i;exact⟨_,rfl,hq _ _ _ _ _ g j BW hx⟩;exact hx.elim⟩
end
section
variable {prog:kO}{w:kP}{A:kR}{E:kJ->kK->Prop}{X:Cx}{pos:Pos}
theorem Nw{f t:kM}{items:oC kJ}(q:t≠f):∀(n i:Nat) (s:kK) (Q:oA kJ->kK->Prop),s.heap.IsListIter f t i->s.heap.IsList t items->i+n<=items.size ->
  (∀h,h.IsListIter f t (i+n)->Heap.SameBut f s.heap h->Q ((items.toList.drop i).take n) {s with heap:=h})->qX prog w A (draw (.ref f) n) Q E s
 | 0,i,s,Q,k,_,_,j=>by unfold draw;exact DD (by have:=j s.heap k<|Heap.SameBut.refl _ _;simpa using this)
 |n+1,i,s,Q,k,m,u,j=>by
  have l:i<items.size:=by omega
  have hx:items[i]?=some items[i]:=aY l;unfold draw;refine A_<|gW k m hx λp b a=>?_;refine A_ (aT<|Nw q n (i+1) _ _ b (by obtain⟨o,e,r⟩:=m;exact⟨o,(a.2 t q).trans e,r⟩) (by omega) λg c d=>DD ?_);have hd:items.toList.drop i=items[i]::items.toList.drop (i+1):=by simp[List.drop_eq_getElem_cons,l]
  have:=j g (by rw[show i+(n+1)=i+1+n by omega];exact c)<|a.trans d;rw[hd,jI]at this;exact this
def Jb{s:kK}{t:kM}{items:oC kJ}{Q:oA kJ->kK->Prop}(m:A.handled=none)(i:s.heap.IsList t items)
  (p:∀k,Heap.ExtBut s.heap.objs.size s.heap k->Q items.toList {s with heap:=k}):qX prog w A (unpackItems (.ref t) items.size none) Q E s:=by
 have j:t≠s.heap.objs.size:=by obtain⟨o,q,_⟩:=i;exact O_<|G_ q
 have l:∀u:kT,(s.heap.push u).IsList t items:=λu=>let⟨o,e,r⟩:=i;⟨o,C_ _ e,r⟩
 unfold unpackItems;refine A_ ?_;unfold notIterableAtAll;refine A_<|eN i.typeIs slot_list_iter.lookup ?_;refine DD ?_;simp only[Bool.false_eq_true,if_false];refine A_<|aT<|eA i ?_;refine A_ (aT<|Nw j items.size 0 _ _ ⟨_,I_ _ rfl,rfl,rfl⟩ (l _) (by omega) λh c a=>?_);have n:List.take items.size (List.drop 0 items.toList)=items.toList:=by rw[jL];exact bN<|by simp
 rw[n];rw[N_<|by simp];have d:h.IsList t items:=let⟨o,e,r⟩:=l _;⟨o,(a.2 t j).trans e,r⟩
 refine A_ (aT<|iI m c d (by simp) λg f=>?_);simp only[Option.isSome_none,Bool.false_eq_true,if_false];refine DD<|p g λb o hb e=>f b o hb<|a.extBut b o hb<|C_ _ e
def Hw{s:kK}{env:Env}{a:oA kQ}{x1}{pos:Pos}{t:kM}{items:oC kJ}{Q:Unit->kK->Prop}(e:A.handled=none)(f:s.heap.IsList t items)
  (c:(assignEach a env).length=items.size) (d:(assignEach a env).findIdx? (·.1)=none)
  (h:∀b,Heap.ExtBut s.heap.objs.size s.heap b->qX prog w A (assignInOrder ((assignEach a env).map (·.2)) items.toList) Q E {s with heap:=b}) :
  qX prog w A (assign (.Tuple a x1 pos) env<|.ref t) Q E s:=by
 rw[arm_assign_Tuple];refine A_<|gC ?_;unfold unpack;rw[c,d];exact A_<|aT<|Jb e f h
def TR(K:kN)(n:Nat)(t:TGs):TG:=λv c H Q=>∃a b,v=.ref a/\Fa K H a b/\b.length=n/\t b c H Q
def GT{es:oA kQ}{k:Nat}{t:TGs}{n:Nat}(hc:X.calm=true)(h:PGs X es t)
  (p:(assignEach es X.env).length=n:=by rfl) (j:(assignEach es X.env).findIdx? (·.1)=none:=by rfl):PG X (.Tuple es k pos) (TR X.K n t):=by
 intro d s f H v u Q I r c;obtain⟨a,x,i,hq,q,c⟩:=c;subst i;cases r;obtain⟨z,g,m,hz⟩:=I.list hq;refine Hw (I.ok.hd hc) m.isList (by simp[p,<- q,g.length]) j λl hx=>?_;have y:Inv X d f H {s with heap:=l}:=I.kept (t':=s.toks) λb o e=>hx b o (O_<|G_ e) e;exact h d _ f H x _ Q y (by simpa using g) c
def JD(n:Nat)(t:AGs):AG:=λv d b R=>match v with
 |.R a=>opt (b a) λm=>match m with
  |.lst c=>c.length=n/\t c d b R
  |_=>False
 |_=>False
def GU{es:oA kQ}{k:Nat}{t:AGs}{n:Nat}(f:X.calm=true)(h:VGs X es t)
  (j:(assignEach es X.env).length=n:=by rfl) (d:(assignEach es X.env).findIdx? (·.1)=none:=by rfl):VG X (.Tuple es k pos) (JD n t):=(GT f h j d).imp λv q H Q a=>Ds a λx e c R l i hc h hq=>by
 unfold JD at h;split at h;obtain⟨m,g,h⟩:=Bf h;split at h;cases l;obtain⟨o,p,ws,rfl,b⟩:=hc _ _ g;exact⟨_,ws,rfl,Fa.of p,by rw[<- b.length];exact h.1,_,e,c,R,b,i,hc,h.2,hq⟩;exact h.elim;exact h.elim
end
section
variable {prog:kO}{w:kP}{Kt:Type} [DecidableEq Kt]{knd:KeyKind prog w Kt}{A:kR}{R:kZ->kK->Prop}{sa it t:kM}{led:Bool}
def Nx{St:Nat->kS->Prop}{items:oC kJ}(S:StepIt prog w it t items St)(hh:A.handled=none)(W:sa≠it)(ap:sa≠t){ks:oA Kt}(jj:ItemsAre knd ks items.toList)(yz:∀v∈items.toList,v.scannable=true){D:oA Kt}(hD:∀k∈ks,k∈D)(hsz:D.length<1000) :
  ∀(m i:Nat) (s:kK) (l:oA<|Int×kJ) (f:oA Kt),m+i=items.size->St i s.heap->Ej knd s.heap sa l led->Unlike knd l->Keys knd l f->(f.Nodup/\l.length<=f.length)->(∀k,k∈f↔k∈ks.take i) ->
   (∀g y j,(∀b o,b≠sa->b≠it->s.heap.get? b=some o->g.get? b=some o)->Ej knd g sa j led->Unlike knd j->Keys knd j ks->j.length<=D.length->R (.ok<|.ret .none) {s with heap:=g,toks:=y}) ->
   codeAny (model prog w) A (.builtin "set.update.loop" ⟨[.ref sa,.ref it],[]⟩) R s:=by
 have Z:∀{f:oA Kt} {i:Nat},f.Nodup->(∀k,k∈f↔k∈ks.take i)->f.length<=D.length:=λh1 h2=>El h1 λx hx=>hD x<|eR<|(h2 x).mp hx;intro m
 induction m with
 |zero=>intro i s l f hm J H C p n u q;refine cY Hr ?_;rw[bV Dw _];refine(show wpAny _ A.in1 (pyNext (.ref it)>>=_) _ _ s from A_<|S.fin (show A.in1.handled=none from hh) J (by rw[dR<|by omega]) λg hx=>?_);refine DD<|q g s.toks l (λb o h1 h2 e=>hx b o h2 e) ?_ C ?_<|Q_ n.2<|Z n.1 u;obtain⟨o,L,E,F,e,r⟩:=H;exact⟨o,L,E,F,hx sa o W e,r⟩;intro k;rw[p k,u k,bN];have:=jj.length;simp at this;omega
 |succ m ih=>
  intro i s l f hm J H C p n u q;have hi:i<items.size:=by omega
  have hx:items[i]?=some items[i]:=aY hi;obtain⟨k,ek,hk⟩:=Qw (i:=i) (x:=items[i]) jj (by rw[aG];exact hx);have U:=yz items[i] (by simp);have bf:∀c,c∈ks.take (i+1)↔c∈ks.take i\/c=k:=λc=>by rw[cW,ek,U_];simp
  refine cY Hr ?_;rw[bV Dw _];refine(show wpAny _ A.in1 (pyNext (.ref it)>>=_) _ _ s from A_<|S.item J hx λh1 Y N=>?_);have t7:Ej knd h1 sa l led:=by obtain⟨o,L,E,F,e,r⟩:=H;exact⟨o,L,E,F,(N.2 sa W).trans e,r⟩
  refine(show wpAny _ A.in1 (holding [items[i]] (setAdd sa items[i])>>=_) _ _ _ from A_<|aT ?_);unfold setAdd;refine aT<|A_<|knd.pyHash hk ?_;refine add_set hk U (s:={s with heap:=h1,toks:=s.toks+1}) t7 (by have:scanBound=4096:=rfl;have:=n.2;have:=Z n.1 u;omega) (λfk=>?_) λI h2 j X O hp=>?_;refine DD ⟨dM Dw _,ih (i+1) _ l f (by omega) Y t7 C p n (λc=>?_) λg y j G P a2 V T=>?_⟩;rw[bf c,<- u c];refine⟨.inl,λh=>h.elim id λe=>?_⟩;rw[e];exact(p k).mp fk;exact q g y j (λb o B z e=>G b o B z<|(N.2 b z).trans e) P a2 V T;have aj:j.length=l.length+1:=by rw[hp.length_eq,J_];rfl
  refine DD ⟨dM Dw _,ih (i+1) _ j (f++[k]) (by omega) (S.keep W.symm ap.symm Y X) O ((C.add hk I).perm hp) (λc=>?_) ⟨jV.mpr ⟨n.1,List.pairwise_singleton _ _,λa ha b hb e=>?_⟩,by rw[aj,J_];exact Nat.succ_le_succ n.2⟩ (λc=>?_) λg y Q G P a2 V T=>?_⟩;rw[U_,<- p c];constructor;rintro⟨e,he,d⟩;rcases U_.mp (hp.mem_iff.mp he) with he|he;exact .inl ⟨e,he,d⟩;have M:e=(knd.hash k,items[i]):=by simpa using he
  subst M;exact .inr<|Y_.mpr<|knd.inj _ c k d hk;rintro(⟨e,he,d⟩|he);exact⟨e,hp.mem_iff.mpr<|cK _ he,d⟩;have M:c=k:=by simpa using he
  subst M;exact⟨(knd.hash c,items[i]),hp.mem_iff.mpr<|aW _<|Y_.mpr rfl,hk⟩;have hb:=Y_.mp hb;subst hb e;obtain⟨e,he,d⟩:=(p a).mpr ha;exact absurd d (by first|exact I e he|(rw[I e he];exact X_));rw[bf c,<- u c,U_,Y_];exact q g y Q (λb o B z e=>G b o B z<|(X.2 b B).trans<|(N.2 b z).trans e) P a2 V T
variable {E:kJ->kK->Prop}{s:kK}
def Tp{id:String}{items:oC kJ}{ks:oA Kt}{Q:Unit->kK->Prop}(z:A.handled=none)(d:s.heap.IsTuple t items)(q:ItemsAre knd ks items.toList)(H:∀v∈items.toList,v.scannable=true){D:oA Kt}(m:∀k∈ks,k∈D)(hsz:D.length<1000)
  (g:Ej knd s.heap sa [] led) (y:sa≠t)
  (h:∀c f a,(∀b o,b≠sa->s.heap.get? b=some o->c.get? b=some o)->Ej knd c sa a led->Unlike knd a->Keys knd a ks->a.length<=D.length->Q () {s with heap:=c,toks:=f}) :
  qX prog w A (Builtin.Frozenset.updateFrom id sa<|.ref t) Q E s:=by
 have T:s.TypeIs (.ref t) "tuple" := d.typeIs;have I:=Jp;have L:=Jq;have J:(Value.type "tuple" == Value.type "dict")=false:=by decide
 unfold Builtin.Frozenset.updateFrom;generalize p:pyIter=PI
 wp_walk
 subst p;refine dX d<|show wpAny _ _ _ _ _ _ from A_<|iB ?_;have C:t<s.heap.objs.size:=by obtain⟨o,e,_⟩:=d;exact G_ e
 have G:sa<s.heap.objs.size:=by obtain⟨o,_,_,_,e,_⟩:=g;exact G_ e
 refine Nx (led:=led) (L3 (items:=items)<|O_ C) z (O_ G) y q H m hsz items.size 0 _ [] [] (by omega) ⟨⟨_,I_ _ rfl,rfl,rfl⟩,d.push _⟩ ?_ List.Pairwise.nil No ⟨fS,H_ _⟩ (λk=>by simp) λc f a u a2 B x i=>?_;obtain⟨o,F,j,l,e,r⟩:=g;exact⟨o,F,j,l,C_ _ e,r⟩;exact DD<|h c f a (λb o n e=>u b o n (O_<|G_ e)<|C_ _ e) a2 B x i
def Xk{id:String}{items:oC kJ}{ks:oA Kt}{Q:Unit->kK->Prop}(z:A.handled=none)(d:s.heap.IsList t items)(q:ItemsAre knd ks items.toList)(H:∀v∈items.toList,v.scannable=true){D:oA Kt}(m:∀k∈ks,k∈D)(hsz:D.length<1000)
  (g:Ej knd s.heap sa [] led) (y:sa≠t)
  (h:∀c f a,(∀b o,b≠sa->s.heap.get? b=some o->c.get? b=some o)->Ej knd c sa a led->Unlike knd a->Keys knd a ks->a.length<=D.length->Q () {s with heap:=c,toks:=f}) :
  qX prog w A (Builtin.Frozenset.updateFrom id sa<|.ref t) Q E s:=by
 have T:s.TypeIs (.ref t) "list" := d.typeIs;have I:=Ju;have L:=Jv;have J:(Value.type "list" == Value.type "dict")=false:=by decide
 unfold Builtin.Frozenset.updateFrom;generalize p:pyIter=PI
 wp_walk
 subst p;refine eA d<|show wpAny _ _ _ _ _ _ from A_<|iB ?_;have C:t<s.heap.objs.size:=by obtain⟨o,e,_⟩:=d;exact G_ e
 have G:sa<s.heap.objs.size:=by obtain⟨o,_,_,_,e,_⟩:=g;exact G_ e
 refine Nx (led:=led) (Nu (items:=items)<|O_ C) z (O_ G) y q H m hsz items.size 0 _ [] [] (by omega) ⟨⟨_,I_ _ rfl,rfl,rfl⟩,by obtain⟨o,e,r⟩:=d;exact⟨o,C_ _ e,r⟩⟩ ?_ List.Pairwise.nil No ⟨fS,H_ _⟩ (λk=>by simp) λc f a u a2 B x i=>?_;obtain⟨o,F,j,l,e,r⟩:=g;exact⟨o,F,j,l,C_ _ e,r⟩;exact DD<|h c f a (λb o n e=>u b o n (O_<|G_ e)<|C_ _ e) a2 B x i
end
def fifty:oA Key:=(List.range 50).map λi=>.inl (i:Nat)
def Rc{ns:oA Int}(h:∀n∈ns,0<=n/\n<50):∀k∈ns.map Sum.inl,k∈fifty:=λk hk=>by obtain⟨n,a,rfl⟩:=M_.mp hk;have:=h n a;exact M_.mpr ⟨n.toNat,bC.mpr<|by omega,cF Sum.inl<|Int.toNat_of_nonneg this.1⟩
theorem Jx{K:kN}{H:Hp}:∀{ns:oA Int} {ws:oA V},Ba K H (ns.map λn=>AV.D<|.int n) ws->ws=ns.map V.int
 |[],_,h=>by cases h;rfl
 |n::ns,_,h=>by
  cases h with
  |cons b a=>cases RelA.int b;rw[Jx a];rfl
def TU(te:AE):AE:=λe d R=>te e d λx a=>opt (items a x) λf=>∃c:oA Int,f=(c.map λn=>AV.D<|.int n)/\(∀n∈c,0<=n/\n<50)/\∀(l:kM) (b:oA Int),a l=none->b.Pairwise (· < ·)->(∀n,n∈b↔n∈c)->R (.R l) (Am a l<|.lst<|b.map λn=>.D<|.int n)
section
variable {X:Cx}{k:Nat}
def Vi{e:kQ}{te:AE}{p M pos J:Pos}(hr:Room k X.A)(Y:Gl X "sorted") (hm:X.mg "sorted" = none) (gr:Gl X "set") (fu:X.mg "set" = none) (he:VE X e te)
  (hs:starEach [.Call (.Name "set" M) [e] [] J] X.env=[(false,eval (.Call (.Name "set" M) [e] [] J) X.env)]:=by rfl) (hs2:starEach [e] X.env=[(false,eval e X.env)]:=by rfl) :
  VE X (.Call (.Name "sorted" p) [.Call (.Name "set" M) [e] [] J] [] pos) (TU te):=by
 intro U s W H Q I d;refine B7 d λτ μ R ap D h hq=>?_;refine aP<|Ce I Y hm boot_sorted<|bP ?_ hs rfl;rw[hs];refine aK<|aP<|Ce I gr fu boot_set<|aZ ?_ hs2 rfl;rw[hs2];refine aK<|a_ (he.run I ap D h) (λu a lj=>V8 lj λx v μ1 H1 g Z S1 E rx h1=>bA ?_) λ_ _ e=>e;obtain⟨us,ey,h1⟩:=Bf h1;obtain⟨ns,rfl,O,h1⟩:=h1;obtain⟨S,ws,rfl,hk,rs⟩:=Bt E rx ey;cases Z;have ew:=Jx rs;subst ew;have hd:X.A.handled=none:=hr.hd;have fin:∀(h2:kS) (tk:Nat) (_:0<tk) (l:oA<|Int×kJ),(∀b o,a.heap.get? b=some o->h2.get? b=some o)->Ej (Bl X.prog X.w) h2 a.heap.objs.size l (Fo X.w)->Unlike (Bl X.prog X.w) l->Keys (Bl X.prog X.w) l (ns.map Sum.inl)->l.length<64 ->
   qX X.prog X.w X.A (call (.builtin "sorted") [.ref a.heap.objs.size]) (EP X U W Q) X.xe {a with heap:=h2,toks:=tk}:=λh2 tk m l t f j i L2=>by
  refine wtk m <|Tk (s:={a with heap:=h2,toks:=tk}) hd f j i L2 λh3 d3 t3 q c z k2 hp e3 hi F jf L ht3=>?_;have lS:a.heap.objs.size<h2.objs.size:=by obtain⟨o,_,_,_,e,_⟩:=f;exact G_ e
  have T:a.heap.objs.size<=q:=Q_ (dN lS) hp;have hz:((z.map Cj).map V.int).length<=sizeLine:=by simp;exact Q_ (dN L)<|by decide
  have C:=g.hok.fresh T;refine⟨.ref q,_,(Inv.drw g d3).laid (t':=t3) (λb o e=>k2 b o<|t b o e) T<|show Bs X.prog X.w _ h3 _ (.lst<|(z.map Cj).map V.int) from⟨hz,z,c,Q3 hi,e3⟩,rfl,?_⟩;exact hq _ _ _ _ (S1.trans<|Kp.new C _) (E.new C<|Da<|Va _) Dz<|h1 q (z.map Cj) (E.none C) F jf
 refine wtk g.tk<|Ln (s:=a) ?_;rcases hk with⟨_,hk⟩|⟨_,hk⟩;obtain⟨ag,y,n,hz⟩:=g.list hk;obtain⟨G,N⟩:=Iw (P:=X.prog) (w:=X.w) y;have L:=y.length;have B:S<a.heap.objs.size:=by obtain⟨o,e,_⟩:=n.isList;exact G_ e
 refine Xk (s:={a with heap:=a.heap.push<|B5 X.w}) (show X.A.in1.in1.handled=none from hd) (by obtain⟨o,e,r⟩:=n.isList;exact⟨o,C_ _ e,r⟩) (by simpa using G) (by simpa using N) (Rc O) (by decide) Lo (dA<|O_ B) λh2 tk l t f j i L2 m=>bA ?_;exact fin h2 tk m l (λb o e=>t b o (O_<|G_ e)<|C_ _ e) f j i (dH L2<|by decide);obtain⟨ag,y,n,hz⟩:=g.tuple hk;obtain⟨G,N⟩:=Iw (P:=X.prog) (w:=X.w) y;have L:=y.length;have B:S<a.heap.objs.size:=by obtain⟨o,e,_⟩:=n;exact G_ e
 refine Tp (s:={a with heap:=a.heap.push<|B5 X.w}) (show X.A.in1.in1.handled=none from hd) (Heap.IsTuple.push n _) (by simpa using G) (by simpa using N) (Rc O) (by decide) Lo (dA<|O_ B) λh2 tk l t f j i L2 m=>bA ?_;exact fin h2 tk m l (λb o e=>t b o (O_<|G_ e)<|C_ _ e) f j i<|dH L2<|by decide
end
end L2
namespace L2
open PySem PySem.Spec PySem.Calls PyProof.Rows
def Qai:A2:=λx y a R=>match x,y with
 |.D (.str i),.D (.str j)=>R (.D<|.bool<|decide (i=j)) a
 |_,_=>False
def TV{X:Cx}:VOp X (compareOp .Eq) Qai:=by
 intro n s o H x y v u Q I l g c;refine Ds c λa b m R k f hc h hq=>?_;cases a with
 |D d=>
  cases d with
  |str i=>
   cases b with
   |D e=>
    cases e with
    |str j=>cases RelA.str k;cases RelA.str f;obtain⟨t,rfl⟩:=l;obtain⟨p,rfl⟩:=g;exact eq_str (Oe I (hq _ _ _ _ Kp.refl hc Cv h)<|by rw[gK];simp)
    |_=>exact False.elim h
   |_=>exact False.elim h
  |_=>exact False.elim h
 |_=>exact False.elim h
theorem BX{h:kS}{e:kL}:∀{ds:oA kL} {a:oA kJ} {f:oA kM},ReadsAll h a ds f->PyData.canLayAll0 ds=true->a.length=ds.length/\∀(m:Nat) (h1:m<a.length) (h2:m<ds.length),Na h e a[m]=PyData.eqv ds[m] e
 |[],_,_,r,_=>by cases r;exact⟨rfl,λm h1 _=>nomatch h1⟩
 |d::ds,_,_,r,c=>by
  cases r with
  |cons g i=>
   simp only[PyData.canLayAll0,Bool.and_eq_true]at c;obtain⟨b,j⟩:=BX (e:=e) i c.2;refine⟨by simp only[List.length_cons,b],λm h1 h2=>?_⟩;cases m with
   |zero=>exact Y7 g c.1
   |succ m=>exact j m (Nat.lt_of_succ_lt_succ h1)<|Nat.lt_of_succ_lt_succ h2
def Qaj:AV->AC:=λx g b R=>match x,g with
 |.R a,[y]=>opt (see b y) λd=>opt (b a) λm=>match m with
  |.lst f=>opt (dats f) λc=>Bz d/\Bz (.tuple c)/\opt (c.findIdx? λe=>PyData.eqv e d) λj=>R (.D<|.int (j:Nat)) b
  |_=>False
 |_,_=>False
section
variable {X:Cx}{k:Nat}
def Qak:A2:=λx y a R=>match x,y with
 |.D (.str i),.D (.str j)=>R (.D<|.bool<|!decide (i=j)) a
 |_,_=>False
def Re:VOp X (compareOp .NotEq) Qak:=by
 intro o s p H x y v u Q I m f l;refine Ds l λa b n R g c hc h hq=>?_;cases a with
 |D d=>
  cases d with
  |str i=>
   cases b with
   |D e=>
    cases e with
    |str j=>cases RelA.str g;cases RelA.str c;obtain⟨t,rfl⟩:=m;obtain⟨q,rfl⟩:=f;exact ne_str (Oe I (hq _ _ _ _ Kp.refl hc Cv h)<|by rw[gK];simp)
    |_=>exact False.elim h
   |_=>exact False.elim h
  |_=>exact False.elim h
 |_=>exact False.elim h
def BY(xs:oA AV)(n:Nat):oA AV:=(List.replicate n xs).flatten
def TW:A2:=λx y b R=>match x,y with
 |.R a,.D (.int n)=>opt (b a) λm=>match m with
  |.lst c=>(0<=n/\n<=1000/\c.length<=1000)/\∀p,b p=none->R (.R p) (Am b p<|.lst<|BY c n.toNat)
  |_=>False
 |_,_=>False
theorem Ba.rep{K:kN}{H:Hp}{xs:oA AV}{vs:oA V}(h:Ba K H xs vs):∀n,Ba K H (BY xs n) (List.replicate n vs).flatten
 | 0=>.nil
 |n+1=>by unfold BY;rw[dS,dS,eO,eO];exact h.append<|Ba.rep h n
def BZ:VOp X (binaryOp .Mult) TW:=by
 intro f s i H x y v u Q I w j t;refine Ds t λa b z R r q hc h hq=>?_;cases a with
 |R a=>
  cases b with
  |D e=>
   cases e with
   |int n=>
    obtain⟨m,g,h⟩:=Bf h;cases m with
    |lst C=>obtain⟨⟨A,h1,h2⟩,h⟩:=h;obtain⟨o,l,c,rfl,d⟩:=hc _ _ g;cases (show x=.ref a from r);cases RelA.int q;have B:=d.length;have hz:c.length*n.toNat<=sizeLine:=Q_ (iF (show c.length<=1000 by omega)<|show n.toNat<=1000 by omega) (by decide);exact MB f s i H _ _ v u Q I w j ⟨a,n,c,rfl,rfl,l,by omega,by omega,hz,λp hp=>hq _ _ _ _ (Kp.new hp _) (hc.new hp<|Da<|d.rep _) Dz<|h p<|hc.none hp⟩
    |_=>exact False.elim h
   |_=>exact False.elim h
  |_=>exact False.elim h
 |_=>exact False.elim h
def Jc:oA AV->oB (oA Int)
 |[]=>some []
 |.D (.int i)::a=>(Jc a).map (i::·)
 |_=>none
theorem L4{K:kN}{H:Hp}:∀{xs:oA AV} {ns:oA Int} {vs:oA V},Jc xs=some ns->Ba K H xs vs->vs=ns.map V.int
 |[],_,_,e,.nil=>by cases e;rfl
 |x::xs,ns,_,e,.cons a c=>by
  cases x with
  |D d=>
   cases d with
   |int i=>obtain⟨f,b,rfl⟩:=W_.mp<|show(Jc xs).map (i::·)=some ns from e;rw[L4 b c,RelA.int a];rfl
   |_=>cases e
  |_=>cases e
end
def TX:AC:=λb a R=>match b with
 |[.D<|.int i]=>i.natAbs.log2<1920/\R (.D<|.str<|Str.ofString<|toString i) a
 |_=>False
def Ny{X:Cx}:VCall X (.type "str") TX:=by
 intro g s i H k j Q I r d;refine B7 d λf e R b hc h hq=>?_;unfold TX at h;split at h
 ·cases b with
  |cons a c=>cases c;cases RelA.int a;obtain⟨u,rfl,t,rfl⟩:=Fb r;exact P.str_of_int h.1 ⟨.str _,H,I.tok _,⟨⟨_,I.tz⟩,rfl⟩,hq _ _ _ _ Kp.refl hc Gg h.2⟩
 exact h.elim
end L2
namespace L2
open PySem PySem.Spec PySem.Calls PyProof.Rows PySem.W
end L2
namespace L2
open PySem PySem.Spec PySem.Calls PyProof.Rows
section
variable {X:Cx}{k:Nat}
theorem Vj{K:kN}{H:Hp}:∀(zs:oA Str),Ba K H (zs.map λz=>AV.D<|.str z) (zs.map V.str)
 |[]=>.nil
 |_::zs=>.cons Gg<|Vj zs
def CA:AV->AC:=λx b a R=>match x,b with
 |.D (.str z),[.D<|.str y]=>(y.length==0)=false/\z.length<=1000000/\∀p,a p=none->R (.R p) (Am a p<|.lst<|(Txt.split z y).map λw=>.D<|.str w)
 |_,_=>False
def Ex:VMt X "str.split" CA:=by
 intro d s f H x q v n Q I j r m;refine Ds m λa p o R g e hc h hq=>?_;unfold CA at h;split at h
 ·cases RelA.str g;cases e with
  |cons c i=>cases i;cases RelA.str c;exact Y9 d s f H _ _ v n Q I j r ⟨_,_,rfl,rfl,h.1,h.2.1,λl b=>hq _ _ _ _ (Kp.new b _) (hc.new b<|Da<|Vj _) Dz<|h.2.2 l<|hc.none b⟩
 exact h.elim
def TY:A2:=λx y a R=>match x,y with
 |.D (.tuple d),.D (.tuple e)=>Bz (.tuple d)/\Bz (.tuple e)/\cmpb (.tuple d) (.tuple e)=true/\R (.D<|.bool<|Fk (.tuple d)<|.tuple e) a
 |_,_=>False
def TZ(o:Room k X.A):VOp X (compareOp .Lt) TY:=by intro q s t H x y v u Q I m i n;refine Ds n λa b p R j f hc h hq=>?_;unfold TY at h;split at h;obtain⟨h1,h2,e,h⟩:=h;obtain⟨c,g⟩:=Ch I hc j m rfl;obtain⟨d,l⟩:=Ch I hc f i rfl;have r:=o.un;have:=h1.2;exact Lh _ _ X.A s _ _ c d g l h1.1 h2.1 e (by omega) X.prog X.w X.xe _ ⟨.bl _,H,I,rfl,hq _ _ _ _ Kp.refl hc Cv h⟩;exact h.elim
end
end L2
namespace L2
open PySem PySem.Spec PySem.Calls PyProof.Rows PySem.W
end L2
namespace L2
open PySem
end L2
namespace L2
open PySem PySem.Spec PySem.Calls PyProof.Rows
def Xl{M:Model}{A:kR}{E:kJ->kK->Prop}{s:kK}{e:Type}(f:Nat->e->Sem (ForInStep e))(k:Nat)(I:Nat->e->kK->Prop)(Q:e->kK->Prop)
  (turn:∀i b a,i<k->I i b a->wpAny M A (f i b) (λr j=>match r with|.done c=>Q c j|.yield c=>I (i+1) c j) E a) (fin:∀b a,I k b a->Q b a) (b:e) (h:I 0 b s):wpAny M A (forIn [:k] b f) Q E s:=by
 rw[Std.Legacy.Range.forIn_eq_forIn_range'];simp only[Std.Legacy.Range.size,Nat.sub_zero,Nat.add_sub_cancel,Nat.div_one];refine dY _ (λrest q a=>∃i,rest=List.range' i (k-i)/\i<=k/\I i q a) _ ?_ ?_ _ _ ⟨0,by simp,aU _,h⟩
 ·rintro x rest q a ⟨i,d,n,g⟩;rcases dQ i k with l|hge
  ·rw[show k-i=(k-(i+1))+1 by omega,kA]at d;obtain⟨rfl,rfl⟩:=List.cons.inj d;refine a_ (turn x q a l g) (λr j m=>?_) λ_ _ z=>z;cases r with
   |done c=>exact m
   |yield c=>exact⟨x+1,rfl,l,m⟩
  rw[Nat.sub_eq_zero_of_le hge]at d;cases d
 rintro q a ⟨i,d,n,g⟩;have:i=k:=by have:=cF List.length d;rw[fG]at this;simp at this;omega
 subst this;exact fin q a g
def Rf(l:kM)(a:oC kJ)(n:Nat)(dd:oB kM)(r:oC<|oB kJ)(x:kJ)(e:kJ->Bool)(j:Nat)(hj:j<a.size)(z:e a[j]=true)(v:∀m (hm:m<a.size),m<j->e a[m]=false) :
  Meets (Builtin.«tuple.index» ⟨[.ref l,x],[]⟩) (λA R s=>s.heap.get? l=some {cls:=.type "tuple",dict:=dd,data:=.seq a n,slots:=r}/\(∀y,y∈a->SeqAt.EqAt A.in1 s y x (e y))/\R (.ok<|.ret<|.int j s.toks) {s with toks:=s.toks+1}) :=
 .of_wp λd w A R s u=>by
  obtain⟨hp,g,dl,q,os⟩:=s;obtain⟨p,he,o⟩:=u
  wp_walk using gL p,Xl _ _ (λi b k=>k=⟨hp,g,dl,q,os⟩/\b=(none,())/\i<=j) _
  case turn=>
   rintro i b k B ⟨rfl,rfl,t⟩;have f:i<a.size:=by omega
   rw[aY f];refine A_<|he _ (Array.getElem_mem f) d w _ _ ?_;by_cases c:i=j;subst c;rw[z]
   wp_walk
   exact⟨_,rfl,o⟩
   rw[v i f<|by omega]
   wp_walk
   exact⟨rfl,rfl,by omega⟩
  case fin=>
   rintro b k ⟨rfl,rfl,t⟩;exfalso;omega
  case h=>exact⟨rfl,rfl,aU _⟩
def O4:AV->AC:=λx c a R=>match x,c with
 |.D (.tuple b),[y]=>opt (see a y) λd=>Bz d/\Bz (.tuple b)/\opt (b.findIdx? λe=>PyData.eqv e d) λj=>R (.D<|.int (j:Nat)) a
 |_,_=>False
section
variable {X:Cx}{k:Nat}
def CB(M:Room k X.A):VMt X "tuple.index" O4:=by
 intro aa s σ H x xs v us Q I V r U;refine Ds U λa as Z R T S hc h hq=>?_;unfold O4 at h;split at h
 ·rename_i C y;cases S with
  |cons P J=>
   cases J with
   |nil=>
    obtain⟨d,E,f,c,h⟩:=Bf h;obtain⟨j,O,h⟩:=Bf h;obtain⟨a,W,rfl,ha,hd⟩:=Dk.tup (K:=X.K) (H:=H) T;obtain⟨u,rfl,D⟩:=Fb r;cases V;obtain⟨bs,z⟩:=Ch I hc P D E;obtain⟨b,N,G,hz⟩:=I.tuple ha.sq;obtain⟨p,c2⟩:=K9 c;obtain⟨cs,t⟩:=Au.reads I C W b hd N;obtain⟨el,l⟩:=BX (e:=d) t p;obtain⟨hj,B,Y⟩:=eM.mp O;have hu:=M.un;obtain⟨⟨cls,dd,q,L⟩,o,g,n,i⟩:=id G;simp only at g i;subst g i;refine fC PySem.F.slot_tuple_index ⟨_,o,rfl⟩ PySem.F.entry_tuple_index (PySem.F.args_tuple_index_2 _ _) (Rf a b.toArray n dd L u (Na s.heap d) j (by rw[T_];omega) ?_ ?_) ⟨o,λy hy=>(Ec (A:=X.A.in1) z f.1 (by show X.A.units+1+64<_;omega) t p c2).1 y<|by simpa using hy,?_⟩
    show Na s.heap d b[j]=true;rw[l j (by omega) hj];exact B;intro m hm w;show Na s.heap d b[m]=false;rw[l m (by simpa using hm)<|by omega];have:=Y m w;simpa using this;exact⟨.int j,H,I.tok _,⟨_,rfl⟩,hq _ _ _ _ Kp.refl hc Cu h⟩
 exact h.elim
def CC:AV->Prop
 |.D (.tuple<|.tuple _::_)=>True
 |.D (.tuple<|.str _::_)=>True
 |_=>False
def CC.ty{H:Hp}{x:AV}{v:V}(f:RelA X.K H x v)(h:CC x):RT X.K "tuple" v H:=by
 have c:∀{d:kL} {ds:oA kL},(∀{v:V} {i:Int},Dk X.K H d v->v=.int i->False)->RelA X.K H (.D<|.tuple<|d::ds) v->RT X.K "tuple" v H:=λ{d ds} hd f=>by obtain⟨a,m,rfl,q,r⟩:=RelA.tup f;refine .inr<|.inl ⟨rfl,?_⟩;rcases q with q|⟨_,⟨o,h1,h2⟩,t,u,n,g,j,_⟩;refine .inr ⟨m,q,?_⟩;obtain⟨x,p,rfl,l,_⟩:=r.cons;rintro⟨i,y,e⟩;exact hd l (List.cons.inj e).1;rw[h1]at g;cases g;exact .inl ⟨o,h1,j,h2⟩
 unfold CC at h;split at h;refine c (λ{v i} dk e=>?_) f;obtain⟨b,s,rfl,_⟩:=dk.tup;cases e;refine c (λ{v i} dk e=>?_) f;rw[Dk.str dk]at e;cases e;exact h.elim
def Qal(e:AE)(t:AA):AE:=λc d R=>e c d λx a=>CC x/\t c a λf b=>O4 x f b R
def GV{o e:kQ}{es:oA kQ}{i:AE}{t:AA}{g b:Pos}(u:Room k X.A)(q:VE X o i)(ha:VA X (e::es) t) (C:attributeBase o "index" X.env (eval o X.env)=eval o X.env:=by rfl)
  (s:((backTo b<|starEach (e::es) X.env).all (λx=>!x.1)&&(backToKw b<|keywordEach [] X.env).all (λx=>x.1.isSome)
   && decide ((e::es).length+([]:oA Keyword).length+(if([]:oA Keyword).isEmpty then 0 else 1)<30))=true:=by rfl) (B:(g.endLine==b.line)=true:=by rfl) (hs:starEach (e::es) X.env=(false,eval e X.env)::starEach es X.env:=by rfl) (y:(backTo b<|starEach es X.env).any (·.1)=false:=by rfl) :
  VE X (.Call (.Attribute o "index" g) (e::es) [] b) (Qal i t) :=
 (Yw PySem.F.plainAttrs_tuple PySem.F.slot_tuple_index PySem.F.type_tuple_index (CB u) q ha C s B hs y).imp λD H Q a=>B7 a λj p R hs hc h hq=>⟨j,p,_,hs,hc,h,λx d v I m w n hx=>⟨hx.1.ty n,j,d,_,hs.kp m,w,hx.2,λr c J G l c2 z E f=>
  ⟨x,r,c,R,n.kp l,z,c2,f,hq.kp<|m.trans l⟩⟩⟩
end
end L2
namespace L2
open PySem
def NY(A:kR)(s:kK)(u v:kJ)(b:Bool):Prop:=∀(prog:kO) (w:kP) (E:kJ->kK->Prop) (Q:kJ->kK->Prop),Q (.bool b) s->qX prog w A (richCompare .GtE u v) Q E s
inductive LexG (A:kR) (s:kK):oA kJ->oA kJ->Bool->Prop
 |nil {ys:oA kJ}:LexG A s [] ys (decide (0>=ys.length))
 |stop {x:kJ} {xs:oA kJ}:LexG A s (x::xs) [] true
 |eq {x y:kJ} {xs ys:oA kJ} {r:Bool}:SeqAt.EqAt A s x y true->LexG A s xs ys r->LexG A s (x::xs) (y::ys) r
 |ne {x y:kJ} {xs ys:oA kJ} {r:Bool}:SeqAt.EqAt A s x y false->NY A s x y r->LexG A s (x::xs) (y::ys) r
section
variable {prog:kO}{w:kP}{A:kR}{E:kJ->kK->Prop}{s:kK}
def LexG.ends{xs ys:oA kJ}{r:Bool}(h:LexG A s xs ys r)(e:xs.zip ys=[]):r=decide (xs.length>=ys.length):=by
 cases h with
 |nil=>simp
 |stop=>simp
 |eq=>simp at e
 |ne=>simp at e
def Mu{a b:kM}{p g:kT}{xs ys:oC kJ}{n k:Nat}{P:PySem.Fin->kK->Prop}{r:Bool}(ha:s.heap.get? a=some p)(hb:s.heap.get? b=some g)(z:g.cls=.type "tuple") (x:p.data=.seq xs n) (y:g.data=.seq ys k)
  (h:LexG A s xs.toList ys.toList r) (q:P (.done<|.ret<|.bool r) s):qX prog w A (Builtin.«tuple.__ge__» ⟨[.ref a,.ref b],[]⟩) P E s:=by
 have t:s.TypeIs (.ref b) "tuple" := ⟨g,hb,z⟩;refine(show wpAny _ _ (isInstance (.ref b) (.type "tuple")>>=_) _ _ s from A_<|eI t iK ?_);rw[show(!true)=false from rfl,N_ X_];refine A_<|fE ha x<|A_<|fE hb y<|A_ ?_;refine dY _ (λleft o i=>o.1=none/\i=s/\∃f d,left=List.zip f d/\LexG A s f d r/\decide (f.length>=d.length)=decide (xs.size>=ys.size)) _ ?_ ?_ _ _ ⟨rfl,rfl,xs.toList,ys.toList,rfl,h,by simp⟩
 ·rintro⟨u,v⟩ left o i ⟨j,rfl,f,d,c,l,m⟩;cases l with
  |nil=>simp at c
  |stop=>simp at c
  |eq h1 h2=>simp only[List.zip_cons_cons,List.cons.injEq,Prod.mk.injEq]at c;obtain⟨⟨rfl,rfl⟩,rfl⟩:=c;refine A_<|h1 prog w _ _ ?_;dsimp only;rw[show(!true)=false from rfl,N_ X_];exact DD ⟨rfl,rfl,_,_,rfl,h2,by simpa using m⟩
  |ne h1 h2=>simp only[List.zip_cons_cons,List.cons.injEq,Prod.mk.injEq]at c;obtain⟨⟨rfl,rfl⟩,rfl⟩:=c;refine A_<|h1 prog w _ _ ?_;simp only[Bool.not_false,if_true];exact A_<|eC<|A_<|h2 prog w _ _<|A_<|DD<|DD<|DD q
 rintro⟨B,a2⟩ i ⟨j,rfl,f,d,c,l,m⟩;simp only at j;subst j;have e:=l.ends c.symm;rw[e,m]at q;exact DD q
def Tq{a b:kM}{c d:kT}{xs ys:oC kJ}{n k:Nat}{r:Bool}(ha:s.heap.get? a=some c)(hb:s.heap.get? b=some d)(e:c.cls=.type "tuple") (f:d.cls=.type "tuple") (g:c.data=.seq xs n) (j:d.data=.seq ys k)
  (i:A.units<cLine) (h:LexG A.in1 s xs.toList ys.toList r):NY A s (.ref a) (.ref b) r:=λprog w E Q q=>
 wpAny_richCompare_same_room (T := "tuple") ⟨c,ha,e⟩ ⟨d,hb,f⟩ F.slot_tuple_ge (bQ F.slot_tuple_ge ⟨c,ha,e⟩ F.entry_tuple_ge (Mu ha hb f g j h ⟨_,rfl,(λz=>nomatch z),q⟩)<|F.args_tuple_ge_2 _ _) i
end
mutual
def GW:kL->kL->Bool
 |.int a,.int b=>decide (a>=b)
 |.tuple c,.tuple d=>Hx c d
 |_,_=>false
def Hx:oA kL->oA kL->Bool
 |[],a=>decide (a.length=0)
 |_::_,[]=>true
 |x::b,y::a=>if PyData.eqv x y then Hx b a else GW x y
end
mutual
theorem L5:∀(x y:kL) (A:kR) (s:kK) (u v:kJ) (f i:oA kM),Reads s.heap u x f->Reads s.heap v y i->x.canLay0=true->y.canLay0=true->cmpb x y=true->A.units+min x.depth y.depth<cLine->NY A s u v (GW x y)
 |.int a,.int b,A,s,u,v,f,i,j,c,_,_,_,_=>by
  cases j;cases c;intro l w E Q q;have e:GW (.int a) (.int b)=decide (a>=b):=by simp[GW]
  rw[e]at q;exact PyProof.Rows.ge_int q
 |.tuple d,.tuple g,A,s,u,v,f,i,j,c,k,c2,hc,m=>by
  cases j with
  |tuple n a2 z p=>
   cases c with
   |tuple B t o r=>
    have e:GW (.tuple d) (.tuple g)=Hx d g:=by simp[GW]
    rw[e];simp only[PyData.canLay0]at k c2;simp only[cmpb]at hc;simp only[PyData.depth]at m;refine Tq n B a2 t z o (by omega)<|L6 d g A.in1 s _ _ _ _ p r k c2 hc ?_;show A.units+1+_<_;omega
 |.int _,.none,_,_,_,_,_,_,_,_,_,_,h,_=>by simp[cmpb]at h
 |.int _,.bool _,_,_,_,_,_,_,_,_,_,_,h,_=>by simp[cmpb]at h
 |.int _,.str _,_,_,_,_,_,_,_,_,_,_,h,_=>by simp[cmpb]at h
 |.int _,.list _,_,_,_,_,_,_,_,_,_,_,h,_=>by simp[cmpb]at h
 |.int _,.tuple _,_,_,_,_,_,_,_,_,_,_,h,_=>by simp[cmpb]at h
 |.int _,.dict _,_,_,_,_,_,_,_,_,_,_,h,_=>by simp[cmpb]at h
 |.tuple _,.none,_,_,_,_,_,_,_,_,_,_,h,_=>by simp[cmpb]at h
 |.tuple _,.bool _,_,_,_,_,_,_,_,_,_,_,h,_=>by simp[cmpb]at h
 |.tuple _,.str _,_,_,_,_,_,_,_,_,_,_,h,_=>by simp[cmpb]at h
 |.tuple _,.list _,_,_,_,_,_,_,_,_,_,_,h,_=>by simp[cmpb]at h
 |.tuple _,.int _,_,_,_,_,_,_,_,_,_,_,h,_=>by simp[cmpb]at h
 |.tuple _,.dict _,_,_,_,_,_,_,_,_,_,_,h,_=>by simp[cmpb]at h
 |.none,_,_,_,_,_,_,_,_,_,_,_,h,_=>by simp[cmpb]at h
 |.bool _,_,_,_,_,_,_,_,_,_,_,_,h,_=>by simp[cmpb]at h
 |.str _,_,_,_,_,_,_,_,_,_,_,_,h,_=>by simp[cmpb]at h
 |.list _,_,_,_,_,_,_,_,_,_,_,_,h,_=>by simp[cmpb]at h
 |.dict _,_,_,_,_,_,_,_,_,_,_,_,h,_=>by simp[cmpb]at h
theorem L6:∀(xs ys:oA kL) (A:kR) (s:kK) (c vs:oA kJ) (g h:oA kM),ReadsAll s.heap c xs g->ReadsAll s.heap vs ys h->PyData.canLayAll0 xs=true->PyData.canLayAll0 ys=true->cmpbs xs ys=true->A.units+min (PyData.depthAll xs) (PyData.depthAll ys)<cLine->LexG A s c vs (Hx xs ys)
 |[],ys,A,s,c,vs,g,h,b,a,_,_,_,_=>by
  cases b;have e:Hx [] ys=decide (0>=vs.length):=by cases a<;>simp[Hx]
  rw[e];exact .nil
 |x::xs,[],A,s,c,vs,g,h,b,a,_,_,_,_=>by
  cases a;cases b with
  |cons i a2=>
   have e:Hx (x::xs) []=true:=by simp[Hx]
   rw[e];exact .stop
 |x::xs,y::ys,A,s,c,vs,g,h,b,a,f,c2,hc,d=>by
  simp only[PyData.canLayAll0,Bool.and_eq_true]at f c2;simp only[PyData.depthAll]at d;cases b with
  |cons i a2=>
   cases a with
   |cons j k=>
    have q:=fX x y A s _ _ _ _ i j f.1 c2.1<|Lg d;simp only[cmpbs]at hc;simp only[Hx];cases e:PyData.eqv x y with
    |true=>rw[e]at q hc;exact .eq q (L6 xs ys A s _ _ _ _ a2 k f.2 c2.2 hc<|AQ d)
    |false=>rw[e]at q hc;exact .ne q<|L5 x y A s _ _ _ _ i j f.1 c2.1 hc<|Lg d
end
end L2
namespace L2
open PySem PySem.Spec PySem.Calls PyProof.Rows
mutual
theorem Vk:∀(x y:kL),cmpb x y=true->GW x y=!Fk x y
 |.int a,.int b,_=>by simp only[GW,Fk];by_cases h:a<b;rw[aN h,aF<|by omega];rfl;rw[aF h,aN<|by omega];rfl
 |.tuple d,.tuple c,h=>by simp only[cmpb]at h;simp only[GW,Fk];exact Rg d c h
 |.int _,.none,h=>by simp[cmpb]at h
 |.int _,.bool _,h=>by simp[cmpb]at h
 |.int _,.str _,h=>by simp[cmpb]at h
 |.int _,.list _,h=>by simp[cmpb]at h
 |.int _,.tuple _,h=>by simp[cmpb]at h
 |.int _,.dict _,h=>by simp[cmpb]at h
 |.tuple _,.none,h=>by simp[cmpb]at h
 |.tuple _,.bool _,h=>by simp[cmpb]at h
 |.tuple _,.str _,h=>by simp[cmpb]at h
 |.tuple _,.list _,h=>by simp[cmpb]at h
 |.tuple _,.int _,h=>by simp[cmpb]at h
 |.tuple _,.dict _,h=>by simp[cmpb]at h
 |.none,_,h=>by simp[cmpb]at h
 |.bool _,_,h=>by simp[cmpb]at h
 |.str _,_,h=>by simp[cmpb]at h
 |.list _,_,h=>by simp[cmpb]at h
 |.dict _,_,h=>by simp[cmpb]at h
theorem Rg:∀(xs ys:oA kL),cmpbs xs ys=true->Hx xs ys=!C4 xs ys
 |[],[],_=>by simp[Hx,C4]
 |[],_::_,_=>by simp[Hx,C4]
 |_::_,[],_=>by simp[Hx,C4]
 |x::xs,y::ys,h=>by
  simp only[cmpbs]at h;simp only[Hx,C4];cases e:PyData.eqv x y with
  |true=>rw[e]at h;exact Rg xs ys h
  |false=>rw[e]at h;exact Vk x y h
end
section
variable {X:Cx}{k:Nat}{prog:kO}{w:kP}{A:kR}{R:kZ->kK->Prop}{I S:kM}{fp wr:oA kM}{n:Nat}{P:Nat->kJ->Prop}{St:Nat->kS->Prop}{kw:oA<|Str×kJ}
def UA:A2:=λx y a R=>match x,y with
 |.D (.tuple d),.D (.tuple e)=>Bz (.tuple d)/\Bz (.tuple e)/\cmpb (.tuple d) (.tuple e)=true/\R (.D<|.bool<|!Fk (.tuple d) (.tuple e)) a
 |_,_=>False
def UB(p:Room k X.A):VOp X (compareOp .GtE) UA:=by intro r s z H x y v u Q I m i o;refine Ds o λa b q R j f hc h hq=>?_;unfold UA at h;split at h;obtain⟨h1,h2,c,h⟩:=h;obtain⟨d,g⟩:=Ch I hc j m rfl;obtain⟨e,l⟩:=Ch I hc f i rfl;have t:=p.un;have:=h1.2;rw[<- Vk _ _ c]at h;exact L5 _ _ X.A s _ _ d e g l h1.1 h2.1 c (by omega) X.prog X.w X.xe _ ⟨.bl _,H,I,rfl,hq _ _ _ _ Kp.refl hc Cv h⟩;exact h.elim
def JE:AC:=λb a R=>match b with
 |[.D<|.str z]=>opt (PySem.intText? z) λn=>z.length<=640/\R (.D<|.int n) a
 |_=>False
def NZ:VCall X (.type "int") JE:=by
 intro j s l H o m Q I r f;refine B7 f λi g R c hc h hq=>?_;unfold JE at h;split at h
 ·cases c with
  |cons a e=>cases e;obtain⟨n,d,b,h⟩:=Bf h;cases RelA.str a;obtain⟨u,rfl,t,rfl⟩:=Fb r;exact PySem.W.KIN.call_text d b ⟨.int n,H,I.tok _,⟨_,rfl⟩,hq _ _ _ _ Kp.refl hc Cu h⟩
 exact h.elim
def CD(y z:Str)(u v:Tok)(a:(u==0||v==0)=false)(b:(y==z)=false):isSame (.str y u) (.str z v)=pure (u==v):=by show(if(u==0||v==0)=true then _ else if(u==v)=true then pure true else if(!(y==z))=true then pure false else _:Sem Bool)=_;rw[a,b];cases (u==v)<;>rfl
def Tr(x y z:Str)(t u v:Tok)(a:(u==0||v==0)=false)(b:(y==z)=false)(hl:Builtin.Str.tooLong (x.length+(Builtin.Str.occurrences x y 0 x.length<|x.length+1).length*z.length)=false) :
  Gives (Builtin.«str.replace» ⟨[.str x t,.str y u,.str z v],[]⟩) (.either (.val<|.str x t)<|.str<|Builtin.Str.glued z<|Builtin.Str.partsBetween x (Builtin.Str.occurrences x y 0 x.length<|x.length+1) y.length):=by
 show Gives (if((Builtin.Str.occurrences x y 0 x.length<|x.length+1).isEmpty||(y.length==0&&z.length==0))=true then(do rule "str.replace.nothing";ret<|.str x t) else
     (do
       let same <- isSame (.str y u) (.str z v)
       if same=true then(do rule "str.replace.old-is-new";ret<|.str x t) else
       if Builtin.Str.tooLong (x.length+(Builtin.Str.occurrences x y 0 x.length<|x.length+1).length*z.length)=true then unsupported "str.replace:memory" else
       retStr (Builtin.Str.glued z<|Builtin.Str.partsBetween x (Builtin.Str.occurrences x y 0 x.length<|x.length+1) y.length))) _
 cases hc:((Builtin.Str.occurrences x y 0 x.length<|x.length+1).isEmpty||(y.length==0&&z.length==0));rw[CD y z u v a b,hl];cases (u==v);exact .right (.of_eq rfl);exact .left (.rule<|.of_eq rfl);exact .left (.rule<|.of_eq rfl)
def JF:AV->AC:=λx b a R=>match x,b with
 |.D (.str x),[.D<|.str y,.D<|.str z]=>y≠z/\x.length+(x.length+1)*z.length<=16777216/\∀t:Str,t.length<=x.length+(x.length+1)*z.length->(∀c∈t.cps.toList,c∈x.cps.toList\/c∈z.cps.toList)->R (.D<|.str t) a
 |_,_=>False
def Rh(x y z:Str):(Builtin.Str.glued z<|Builtin.Str.partsBetween x (Builtin.Str.occurrences x y 0 x.length<|x.length+1) y.length).length<=x.length+(x.length+1)*z.length:=by
 have h1:=iJ x y 0 x.length<|x.length+1;have hy:(Builtin.Str.glued y<|Builtin.Str.partsBetween x (Builtin.Str.occurrences x y 0 x.length<|x.length+1) y.length).length=x.length:=by rw[StrLaws.glued_between_self]
 rw[size_glued,Ft,Nat.add_sub_cancel]at hy;rw[size_glued,Ft,Nat.add_sub_cancel];have h2:(Builtin.Str.occurrences x y 0 x.length<|x.length+1).length*z.length<=(x.length+1)*z.length:=Nat.mul_le_mul_right _ h1;omega
def O5(x y:Str):(x++y).cps.toList=x.cps.toList++y.cps.toList:=by show(x.cps++y.cps).toList=_;simp
theorem join_in{z:Str}{c:Nat}:∀{ws:oA Str},c∈(Str.join z ws).cps.toList->(∃p∈ws,c∈p.cps.toList)\/c∈z.cps.toList
 |[],h=>by simp[Str.join,Str.empty]at h
 |[x],h=>.inl ⟨x,V_,by simpa [Str.join] using h⟩
 |x::y::r,h=>by rw[show Str.join z (x::y::r)=x++z++Str.join z (y::r) from rfl,O5,O5]at h;rcases U_.mp h with h|h;rcases U_.mp h with h|h;exact .inl ⟨x,V_,h⟩;exact .inr h;rcases join_in h with⟨p,h1,h2⟩|h;exact .inl ⟨p,K_ _ h1,h2⟩;exact .inr h
theorem Vl{z p:Str}{c:Nat}(hc:c∈p.cps.toList):∀{ws:oA Str},p∈ws->c∈(Str.join z ws).cps.toList
 |[x],h=>by rw[<- Y_.mp h];simpa [Str.join] using hc
 |x::y::r,h=>by rw[show Str.join z (x::y::r)=x++z++Str.join z (y::r) from rfl,O5,O5];rcases Z_.mp h with rfl|h;exact cK _<|cK _ hc;exact aW _<|Vl hc h
def CF{x y z:Str}{c:Nat}(h:c∈(Builtin.Str.glued z<|Builtin.Str.partsBetween x (Builtin.Str.occurrences x y 0 x.length<|x.length+1) y.length).cps.toList):c∈x.cps.toList\/c∈z.cps.toList:=by rw[dD]at h;refine(join_in h).imp_left λ⟨p,h1,h2⟩=>?_;have:=Vl (z:=y) h2 h1;rwa[<- dD,StrLaws.glued_between_self]at this
def CG:VMt X "str.replace" JF:=by
 intro j s l H x M v T Q I D r E;refine Ds E λa O G R C B hc h hq=>?_;unfold JF at h;split at h
 ·rename_i x y z;cases RelA.str C;cases B with
  |cons u d=>
   cases d with
   |cons d o=>
    cases o;cases RelA.str u;cases RelA.str d;obtain⟨N,J,rfl,⟨g,rfl⟩,⟨f,rfl⟩⟩:=IM r;obtain⟨t,rfl⟩:=D;obtain⟨i,L,h⟩:=h;have fin:∀(b:Str) (t':Tok) (k:Nat),t'≠0->0<k->b.length<=x.length+(x.length+1)*z.length->(∀c∈b.cps.toList,c∈x.cps.toList\/c∈z.cps.toList)->EP X j l Q (.str b t') {s with toks:=k}:=λb t' k h1 h2 q p=>
     ⟨.str b,H,I.tok _,⟨⟨_,h1⟩,rfl⟩,hq _ _ _ _ Kp.refl hc Gg<|h b q p⟩
    have m:=iJ x y 0 x.length<|x.length+1;have h2:(Builtin.Str.occurrences x y 0 x.length<|x.length+1).length*z.length<=(x.length+1)*z.length:=Nat.mul_le_mul_right _ m;have e:(y==z)=false:=by rw[gB];exact i
    refine fC F.slot_str_replace (gP _ _ _) F.entry_str_replace (F.args_str_replace_3 _ _ _) (Tr x y z t.1 g.1 f.1 (by simp[g.2,f.2]) e<|by unfold Builtin.Str.tooLong sizeLine;exact aF<|by omega).meets ?_
    refine⟨fin x t.1 s.toks t.2 I.tk (c_ _ _) λ_=>.inl,Q_ (Rh x y z)<|by rw[kF];omega,fin _ _ _ I.tz (aQ _) (Rh x y z) λ_=>CF⟩
 exact h.elim
def Fz:(toString "min" ++ toString ".loop" : String) = "min.loop" := by decide
def Xm(W:Walks prog w A.in1 I fp wr n P St)(f:Nat->Int)(Y:∀i v,P i v->∃t,v=.int (f i) t)(V:S∉fp) :
  ∀(k j:Nat) (s:kK) (m:Int) (a:Tok) (c:Nat),n-j=k->j<=n->St j s.heap->(∀i,i<j->m<=f i)->(∃i,i<j/\m=f i) ->
  s.heap.get? S=some {cls:=.type "list",dict:=none,data:=.seq #[.int m a,.int m a] c,slots:=#[]} ->
  (∀d r B z,(∀i,i<n->d<=f i)->(∃i,i<n/\d=f i)->(∀b o,b∉wr->b≠S->s.heap.get? b=some o->B.get? b=some o)->R (.ok<|.ret<|.int d r) {s with heap:=B,toks:=z}) ->
  codeAny (model prog w) A (.builtin "min.loop" ⟨[.ref I,.none,.ref S],kw⟩) R s:=by
 have U:S∉wr:=λh=>V<|W.sub _ h;intro k
 induction k with
 |zero=>
  intro j s m a c hk hj G C L q x;obtain rfl:j=n:=by omega
  refine cY F.entry_min_loop ?_;rw[bV F.plain_min_loop _];show wpAny _ A.in1 (seqItems? (.ref S)>>=_) _ _ s;refine A_<|bR q rfl ?_;show wpAny _ A.in1 (tryCatch (pyNext<|.ref I) _>>=_) _ _ s;refine A_<|iG<|W.done s _ _ G λB z l=>?_;have u:=l S _ U q;show wpAny _ A.in1 (updateSeq S (λ_=>#[])>>=_) _ _ _;refine A_<|gN u rfl<|A_<|gV<|DD ?_;exact x m a _ z C L λb o g p e=>(aR _ _<|dA p).trans (l b o g e)
 |succ k Q=>
  intro j s m a c hk hj G C L q x;have D:j<n:=by omega
  refine cY F.entry_min_loop ?_;rw[bV F.plain_min_loop _];show wpAny _ A.in1 (seqItems? (.ref S)>>=_) _ _ s;refine A_<|bR q rfl ?_;show wpAny _ A.in1 (tryCatch (pyNext<|.ref I) _>>=_) _ _ s;refine A_<|iG<|W.item j s _ _ D G λv B z hv T l=>?_;have u:=l S _ U q;obtain⟨y,rfl⟩:=Y j v hv;show wpAny _ A.in1 (tryCatch (holding [_,_]<|richCompare .Lt (.int (f j) y) (.int m a)>>=_) _>>=_) _ _ _;refine A_ (iG<|aT<|A_<|CmpOf.ints_lt (prog:=prog) (w:=w) (A:=A.in1) (P:=λi v=>(i=0/\v=.int (f j) y)\/(i=1/\v=.int m a)) (λi=>if i=0 then f j else m) (λi v h=>by rcases h with⟨rfl,rfl⟩|⟨rfl,rfl⟩;exact⟨y,rfl⟩;exact⟨a,rfl⟩) 0 1 _ _ _ _ _ (.inl ⟨rfl,rfl⟩) (.inr ⟨rfl,rfl⟩) ?_);refine A_<|aT<|dB ?_;refine A_<|gV<|DD ?_;show wpAny _ A.in1 (if decide (f j<m)=true then _ else _) _ _ _;by_cases hc:f j<m;rw[R_<|aN hc];refine A_<|gN u rfl<|A_<|gV ?_;rw[Fz];refine DD ⟨dM F.plain_min_loop _,Q (j+1) _ (f j) y _ (by omega) D (W.frame _ _ _ T λb J o e=>?_) (λi O=>?_) ⟨j,fW _,rfl⟩ (aX _ u rfl) λd r H N E a2 M=>?_⟩;exact(aR _ _ (λh:S=b=>V<|by rw[h];exact J)).trans e;rcases gG.mp O with h|rfl;have:=C i h;omega;exact Int.le_refl _;exact x d r H N E a2 λb o g p e=>M b o g p<|(aR _ _<|dA p).trans<|l b o g e;rw[N_<|by rw[gT];exact hc];refine A_<|gV ?_;rw[Fz];refine DD ⟨dM F.plain_min_loop _,Q (j+1) _ m a c (by omega) D T (λi O=>?_) (by obtain⟨i,h1,h2⟩:=L;exact⟨i,d_ h1,h2⟩) u λd r H N E a2 M=>?_⟩;rcases gG.mp O with h|rfl;exact C i h;omega;exact x d r H N E a2 λb o g p e=>M b o g p<|l b o g e
def Ts(W:Walks prog w A.in1 I fp wr n P St)(f:Nat->Int)(u:∀i v,P i v->∃t,v=.int (f i) t)(r:S∉fp){s:kK}{c:Nat}{d:kJ}{x:Str}(B:St 0 s.heap)
  (y:s.heap.get? S=some {cls:=.type "list",dict:=none,data:=.seq #[] c,slots:=#[]}) (D:n=0->∀a g,(∀b o,b∉wr->b≠S->s.heap.get? b=some o->a.get? b=some o)->R (.ok<|.ret d) {s with heap:=a,toks:=g}) (E:∀j p a g,(∀i,i<n->j<=f i)->(∃i,i<n/\j=f i)->(∀b o,b∉wr->b≠S->s.heap.get? b=some o->a.get? b=some o)->R (.ok<|.ret<|.int j p) {s with heap:=a,toks:=g}) :
  codeAny (model prog w) A (.builtin "min.loop" ⟨[.ref I,.none,.ref S],[(x,d)]⟩) R s:=by
 have M:S∉wr:=λh=>r<|W.sub _ h;refine cY F.entry_min_loop ?_;rw[bV F.plain_min_loop _];show wpAny _ A.in1 (seqItems? (.ref S)>>=_) _ _ s;refine A_<|bR y rfl ?_;show wpAny _ A.in1 (tryCatch (pyNext<|.ref I) _>>=_) _ _ s;by_cases L:n=0;subst L;refine A_<|iG<|W.done s _ _ B λa g l=>?_;exact A_<|eC<|DD<|D rfl a g λb o m _ e=>l b o m e;refine A_ (iG<|W.item 0 s _ _ (by omega) B λv a g hv J l=>?_);have C:=l S _ M y;obtain⟨G,rfl⟩:=u 0 v hv;show wpAny _ A.in1 (updateSeq S (λ_=>#[_,_])>>=_) _ _ _;refine A_<|gN C rfl ?_;rw[Fz];refine DD ⟨dM F.plain_min_loop _,Xm W f u r _ 1 _ (f 0) G _ rfl (by omega) (W.frame _ _ _ J λb q o e=>?_) (λi T=>?_) ⟨0,Nat.one_pos,rfl⟩ (aX _ C rfl) λj p N Q H a2 O=>?_⟩;exact(aR _ _ (λh:S=b=>r<|by rw[h];exact q)).trans e;rw[show i=0 by omega];exact Int.le_refl _;exact E j p N Q H a2 λb o m z e=>O b o m z<|(aR _ _<|dA z).trans<|l b o m e
def Xn(a v:kJ):argsOk "min" ⟨[a],[(Str.ofString "default",v)]⟩:=by unfold argsOk;kernel_rfl
def UC(te h:AE):AE:=λe f R=>te e f λx d=>h e d λy b=>match x,y with
 |.R a,.D (.int m)=>opt (b a) λo=>match o with
  |.lst g=>opt (Jc g) λc=>∀v,(c=[]->v=m)->(c≠[]->v∈c/\∀n∈c,v<=n)->R (.D<|.int v) b
  |_=>False
 |_,_=>False
def GX{f C:kQ}{te td:AE}{p pos kp:Pos}(hc:X.calm=true)(hg:Gl X "min") (hm:X.mg "min" = none) (h1:VE X f te) (h2:VE X C td)
  (hs:starEach [f] X.env=[(false,eval f X.env)]:=by rfl) :
  VE X (.Call (.Name "min" p) [f] [⟨some "default",C,kp⟩] pos) (UC te td):=by
 intro aa s σ H Q I zz;refine B7 zz λτ μ R ap J h hq=>?_;refine aP (Ce I hg hm PyProof.Rows.boot_min<|PyProof.Rows.callWith_kw ?_ (by rw[hs];rfl)<|by rw[hs];rfl);rw[hs];refine aK<|a_ (h1.run I ap J h) (λu1 s1 G=>V8 G λx v μ1 H1 I1 rv S1 c1 rx q1=>bA ?_) λ_ _ e=>e;refine PyProof.Rows.kws_cons<|a_ (h2.run I1 (ap.kp S1) c1 q1) (λu2 q W=>V8 W λy v2 μ2 H2 L O S2 c2 ry d=>PyProof.Rows.kws_nil ?_) λ_ _ e=>e;have N:=rx.kp S2;split at d;rename_i a m;obtain⟨o,eo,d⟩:=Bf d;split at d;rename_i ys;obtain⟨c,en,d⟩:=Bf d;obtain⟨ob,r,vs,rfl,rs⟩:=c2 _ _ eo;cases (show v=V.ref a from N);cases rv;cases RelA.int ry;obtain⟨E,rfl⟩:=O;rw[L4 en rs]at r;obtain⟨Y,r',D,hz⟩:=L.list<|Fa.of r;have aj:=r'.length;rw[B_]at aj;have am:a≠q.heap.objs.size:=O_ (by obtain⟨_,r,_⟩:=D.isList;exact G_ r);have la:a<q.heap.objs.size:=let⟨_,r,_⟩:=D.isList;G_ r
 have qy:∀(i:Nat) (v:kJ),Y.toArray[i]?=some v->∃n t,c[i]?=some n/\v=.int n t:=λi v e=>by
  have e:Y[i]?=some v:=by simpa using e
  have B:i<c.length:=by rw[aj];exact(E_.mp e).1
  obtain⟨u,Z,t,ru⟩:=r'.get (i:=i) (x:=.int c[i]) (by rw[F_,D_ B];rfl);rw[e]at Z;cases Z;exact⟨c[i],t,D_ B,ru⟩
 refine wtk L.tk<|PyProof.Rows.kmb_tree PySem.F.kind_min PySem.F.plain_min PySem.F.entry_min (Xn _ _) ?_;show wpAny _ X.A.in1 (Builtin.Builtins.bindParams "min" ["key","default"] 0 ⟨[],[(Str.ofString "default",.int m E)]⟩>>=_) _ _ q;refine A_<|kH (show Builtin.Builtins.bindParams "min" ["key","default"] 0 ⟨[],[(Str.ofString "default",.int m E)]⟩=pure [none,some<|.int m E] from rfl) ?_;refine A_<|DD<|A_<|eA D.isList<|A_<|bD ?_;rw[Fz];have fin:∀(g:Int) (t':Tok) (h':kS) (tk:Nat),(c=[]->g=m)->(c≠[]->g∈c/\∀n∈c,g<=n)->(∀b o,q.heap.get? b=some o->h'.get? b=some o)->0<tk->EP X aa σ Q (.int g t') {q with heap:=h',toks:=tk}:=λg t' h' tk a1 a2 a3 a4=>
  ⟨.int g,H2,L.kept a3,⟨_,rfl⟩,hq _ _ _ _ (S1.trans S2) c2 Cu<|d g a1 a2⟩
 refine DD ⟨dM PySem.F.plain_min_loop _,Ts (Walks.list (show X.A.in1.handled=none from I.ok.hd hc) q.heap.objs.size a am Y.toArray) (λi=>c.getD i 0) (λi v e=>?_) ?_ ⟨⟨_,C_ _<|I_ _ rfl,rfl,rfl⟩,D.isList.at λo e=>C_ _<|C_ _ e⟩ (I_ _ rfl) (λM h' tk T U=>?_) λg t' h' tk jq z T U=>?_⟩;obtain⟨n,t,f,C⟩:=qy i v e;exact⟨t,by rw[C,L_,f];rfl⟩;intro hb;simp only[List.mem_cons,List.not_mem_nil,or_false]at hb;have f:∀(h:kS) (o:kT),(h.push o).objs.size=h.objs.size+1:=λh o=>by simp[Heap.push]
 rw[f]at hb;rcases hb with hb|hb;exact absurd hb<|iP _;exact absurd hb<|cZ<|d_ la;refine fin m E h' tk (λ_=>rfl) (λh=>absurd (bS ?_) h) (λb o e=>T b o ?_ ?_<|C_ _<|C_ _ e) U;rw[T_]at M;omega;intro hb;have l:=G_ e;simp only[List.mem_cons,List.not_mem_nil,or_false]at hb;exact absurd hb<|O_ l;have l:=G_ e;rw[show ∀(h:kS) (o:kT),(h.push o).objs.size=h.objs.size+1 from λh o=>by simp[Heap.push]];exact O_<|d_ l;obtain⟨i,B,rfl⟩:=z;rw[T_]at B jq;have z:c.getD i 0∈c:=by rw[L_,D_<|by omega];exact aL _
 refine fin _ t' h' tk (λh=>by rw[h]at z;cases z) (λ_=>⟨z,λn M=>?_⟩) (λb o e=>T b o ?_ ?_<|C_ _<|C_ _ e) U;obtain⟨j,hj,rfl⟩:=jH M;have:=jq j (by omega);rwa[L_ (i:=j),D_ hj]at this;intro hb;have l:=G_ e;simp only[List.mem_cons,List.not_mem_nil,or_false]at hb;exact absurd hb<|O_ l;have l:=G_ e;rw[show ∀(h:kS) (o:kT),(h.push o).objs.size=h.objs.size+1 from λh o=>by simp[Heap.push]];exact O_<|d_ l;exact d.elim;exact d.elim
end
end L2
namespace L2
open PySem PySem.Spec PyProof.Rows
abbrev Src(prog:kO)(w:kP)(i l:kM)(xs:oC kJ)(St:Nat->kS->Prop):Prop:=∀A:kR,A.handled=none->Draws prog w A i [i,l] xs.size (λk v=>xs[k]?=some v) St
def Src.keep{prog:kO}{w:kP}{i l:kM}{xs:oC kJ}{St:Nat->kS->Prop}(S:Src prog w i l xs St){k:Nat}{h h':kS}(st:St k h)(h1:∀o,h.get? i=some o->h'.get? i=some o)(h2:∀o,h.get? l=some o->h'.get? l=some o):St k h' :=
 (S {} rfl).frame k h h' st λb hb o e=>by rcases Z_.mp hb with rfl|hb;exact h1 o e;rw[Y_.mp hb]at e ⊢;exact h2 o e
theorem Src.live{prog:kO}{w:kP}{i l:kM}{xs:oC kJ}{St:Nat->kS->Prop}(S:Src prog w i l xs St){k:Nat}{h:kS}(st:St k h):∃o,h.get? i=some o:=(S {} rfl).live k h st
section
variable {prog:kO}{w:kP}{A:kR}{E:kJ->kK->Prop}{s:kK}{z TI TO i1 i2 l1 l2:kM}{xs ys:oC kJ}{St1 St2:Nat->kS->Prop}{k:Nat}
def CH{a b:kJ}{Q:kJ->kK->Prop}(O:A.handled=none)(D:ZipApart z TI TO i1 i2 l1 l2)(r:Src prog w i1 l1 xs St1)(q:Src prog w i2 l2 ys St2)(hz:IsZip s.heap z TI TO .none)(C:IsPair s.heap TI (.ref i1)<|.ref i2)(u:IsPair s.heap TO a b)
  (h1:St1 k s.heap) (h2:St2 k s.heap) (hx:k<xs.size) (hy:k<ys.size) (Z:∀h tk x y,xs[k]?=some x->ys[k]?=some y->IsZip h z TI TO (rawInt s.heap.objs.size)->IsPair h TO x y->St1 (k+1) h->St2 (k+1) h->IsPair h s.heap.objs.size x y->(∀c o,c≠z->c≠TO->c≠i1->c≠i2->s.heap.get? c=some o->h.get? c=some o)->Q (.ref s.heap.objs.size) {s with heap:=h,toks:=tk}) :
  qX prog w A (Builtin.«zip.__next__» ⟨[.ref z],[]⟩) (λfin X=>∃v,fin=.done (.ret v)/\Q v X) E s:=by
 refine(show wpAny _ _ (field (.ref z) 2>>=_) _ _ _ from A_<|bJ hz rfl (x:=.bool false) rfl<|show wpAny _ _ (field (.ref z) 3>>=_) _ _ _ from A_<|bJ hz rfl (x:=.ref TI) rfl<|A_<|bR C rfl<|show wpAny _ _ (Builtin.SmallTypes.ownedTupleIsFree (.ref z)>>=_) _ _ _ from A_ ?_);unfold Builtin.SmallTypes.ownedTupleIsFree;refine A_<|bJ hz rfl (x:=.none) rfl<|DD ?_;rw[R_ rfl];refine A_ (eC<|A_<|bJ hz rfl (x:=.ref TO) rfl<|A_<|eL hz (by simp) λM U f=>A_ ?_);have z1:IsZip M z TI TO .ellipsis:=U;have a1:St1 k M:=r.keep h1 (λo e=>f.extBut _ _ D.i1z e) λo e=>f.extBut _ _ D.l1z e;simp only[List.zipIdx_cons,List.zipIdx_nil,List.forIn_cons,List.forIn_nil];refine A_<|A_<|iU<|show wpAny _ _ (Builtin.SmallTypes.nextOf (.ref i1)>>=_) _ _ _ from A_<|(r A O).item k _ _ _ hx a1 λx Y tk2 ex b2 n=>DD ?_;have J:IsPair Y TO a b:=n.extBut _ _ D.TOi1<|f.extBut _ _ D.TOz u;refine A_<|bR J rfl<|A_<|i_ J λI e3 i=>A_<|gV<|DD ?_;have o3:IsPair I TO x b:=e3;have a3:St2 k I:=q.keep h2 (λo e=>i.extBut _ _ D.TOi2.symm<|n.extBut _ _ D.i12.symm<|f.extBut _ _ D.i2z e) λo e=>i.extBut _ _ D.l2TO<|n.extBut _ _ D.l2i1<|f.extBut _ _ D.l2z e;refine A_<|A_<|iU<|show wpAny _ _ (Builtin.SmallTypes.nextOf (.ref i2)>>=_) _ _ _ from A_<|(q A O).item k _ _ _ hy a3 λy g4 tk4 W b4 m=>DD ?_;have R:IsPair g4 TO x b:=m.extBut _ _ D.TOi2 o3;refine A_<|bR R rfl<|A_<|i_ R λd e5 j=>A_<|gV<|DD<|DD ?_;have S:IsPair d TO x y:=e5;refine A_<|bR S rfl<|A_<|wpAny_newTuple ?_;have sz:d.objs.size=s.heap.objs.size:=by rw[j.1,m.1,i.1,n.1,f.1]
 have G:IsZip d z TI TO .ellipsis:=j.extBut _ _ D.TOz.symm<|m.extBut _ _ D.i2z.symm<|i.extBut _ _ D.TOz.symm<|n.extBut _ _ D.i1z.symm z1;have B:∀c o,c≠z->c≠TO->c≠i1->c≠i2->s.heap.get? c=some o->d.get? c=some o:=λc o g c2 t F e=>j.extBut _ _ c2<|m.extBut _ _ F<|i.extBut _ _ c2<|n.extBut _ _ t<|f.extBut _ _ g e;have H:z<d.objs.size:=G_ G;refine(show wpAny _ _ (Builtin.SmallTypes.ownedTupleHandOut (.ref z) (.ref d.objs.size)>>=_) _ _ _ from A_ ?_);unfold Builtin.SmallTypes.ownedTupleHandOut;have z6:IsZip (d.push {cls:=.type "tuple",data:=.seq #[x,y]}) z TI TO .ellipsis:=C_ _ G;refine A_ (eL z6 (by simp) λg7 e7 N=>eL (show IsZip g7 z TI TO (rawInt d.objs.size) from e7) (by simp) λp V P=>DD ⟨_,rfl,?_⟩);have l:∀c o,c≠z->d.get? c=some o->p.get? c=some o:=λc o g e=>P.extBut _ _ g<|N.extBut _ _ g<|C_ _ e;have L:IsPair p d.objs.size x y:=P.extBut _ _ (cZ H)<|N.extBut _ _ (cZ H)<|I_ _ rfl;have T:IsZip p z TI TO (rawInt d.objs.size):=V;have b5:St1 (k+1) d:=r.keep b2 (λo e=>j.extBut _ _ D.TOi1.symm<|m.extBut _ _ D.i12<|i.extBut _ _ D.TOi1.symm e) λo e=>j.extBut _ _ D.l1TO<|m.extBut _ _ D.l1i2<|i.extBut _ _ D.l1TO e;have c5:St2 (k+1) d:=q.keep b4 (λo e=>j.extBut _ _ D.TOi2.symm e) λo e=>j.extBut _ _ D.l2TO e;show Q (.ref d.objs.size) _;rw[sz]at T L ⊢;exact Z p _ x y ex W T (l _ _ D.TOz S) (r.keep b5 (λo e=>l _ o D.i1z e) λo e=>l _ o D.l1z e) (q.keep c5 (λo e=>l _ o D.i2z e) λo e=>l _ o D.l2z e) L λc o g c2 t F e=>l c o g<|B c o g c2 t F e
def OA{a b:kJ}{Q:PySem.Fin->kK->Prop}(v:A.handled=none)(D:ZipApart z TI TO i1 i2 l1 l2)(C:Src prog w i1 l1 xs St1)(N:Src prog w i2 l2 ys St2)(hz:IsZip s.heap z TI TO .none)(y:IsPair s.heap TI (.ref i1)<|.ref i2)(t:IsPair s.heap TO a b)
  (h1:St1 k s.heap) (h2:St2 k s.heap) (X:k=xs.size\/k<xs.size/\k=ys.size) (G:∀u U e,(∀c o,c≠z->c≠TO->c≠i1->c≠i2->s.heap.get? c=some o->u.get? c=some o)->(∃o,u.get? e=some o/\o.cls=.type "StopIteration")->E (.ref e) {s with heap:=u,toks:=U}) :
  qX prog w A (Builtin.«zip.__next__» ⟨[.ref z],[]⟩) Q E s:=by
 refine(show wpAny _ _ (field (.ref z) 2>>=_) _ _ _ from A_<|bJ hz rfl (x:=.bool false) rfl<|show wpAny _ _ (field (.ref z) 3>>=_) _ _ _ from A_<|bJ hz rfl (x:=.ref TI) rfl<|A_<|bR y rfl<|show wpAny _ _ (Builtin.SmallTypes.ownedTupleIsFree (.ref z)>>=_) _ _ _ from A_ ?_);unfold Builtin.SmallTypes.ownedTupleIsFree;refine A_<|bJ hz rfl (x:=.none) rfl<|DD ?_;rw[R_ rfl];refine A_ (eC<|A_<|bJ hz rfl (x:=.ref TO) rfl<|A_<|eL hz (by simp) λH R h=>A_ ?_);have O:IsZip H z TI TO .ellipsis:=R;have p:St1 k H:=C.keep h1 (λo e=>h.extBut _ _ D.i1z e) λo e=>h.extBut _ _ D.l1z e;simp only[List.zipIdx_cons,List.zipIdx_nil,List.forIn_cons,List.forIn_nil];rcases X with he|⟨hx,he⟩;rw[he]at p;refine A_<|A_<|iU<|show wpAny _ _ (Builtin.SmallTypes.nextOf (.ref i1)>>=_) _ _ _ from A_<|(C A v).done _ _ _ p λl e g r=>?_;obtain⟨B,d,f⟩:=r;have I:IsZip l z TI TO .ellipsis:=g _ _ D.i1z.symm O;have ne:e≠z:=λq=>by subst q;rw[I]at d;cases d;simp at f
 exact eL I (by simp) λm _ i=>G m _ e (λc o j _ n _ q=>i.extBut _ _ j<|g _ _ n<|h.extBut _ _ j q) ⟨B,i.extBut _ _ ne d,f⟩
 refine A_<|A_<|iU<|show wpAny _ _ (Builtin.SmallTypes.nextOf (.ref i1)>>=_) _ _ _ from A_<|(C A v).item k _ _ _ hx p λx l V Z Y g=>DD ?_;have F:IsPair l TO a b:=g.extBut _ _ D.TOi1<|h.extBut _ _ D.TOz t;refine A_<|bR F rfl<|A_<|i_ F λm e3 i=>A_<|gV<|DD ?_;have L:St2 k m:=N.keep h2 (λo e=>i.extBut _ _ D.TOi2.symm<|g.extBut _ _ D.i12.symm<|h.extBut _ _ D.i2z e) λo e=>i.extBut _ _ D.l2TO<|g.extBut _ _ D.l2i1<|h.extBut _ _ D.l2z e;rw[he]at L;refine A_<|A_<|iU<|show wpAny _ _ (Builtin.SmallTypes.nextOf (.ref i2)>>=_) _ _ _ from A_<|(N A v).done _ _ _ L λT e J r=>?_;obtain⟨B,d,f⟩:=r;have M:IsZip T z TI TO .ellipsis:=J _ _ D.i2z.symm<|i.extBut _ _ D.TOz.symm<|g.extBut _ _ D.i1z.symm O;have ne:e≠z:=λq=>by subst q;rw[M]at d;cases d;simp at f
 exact eL M (by simp) λS _ P=>G S _ e (λc o j c2 n W q=>P.extBut _ _ j<|J _ _ W<|i.extBut _ _ c2<|g.extBut _ _ n<|h.extBut _ _ j q) ⟨B,P.extBut _ _ ne d,f⟩
def Yf:Bool->kS->kM->oC kJ->Prop
 |false,h,l,xs=>h.IsList l xs
 |true,h,l,xs=>h.IsTuple l xs
def JG:Bool->kS->kM->kM->Nat->Prop
 |false,h,i,l,k=>h.IsListIter i l k
 |true,h,i,l,k=>h.IsTupleIter i l k
abbrev Qam:Bool->String
 |false=> "list_iterator"
 |true=> "tuple_iterator"
theorem Yf.at{b:Bool}{h h':kS}{l:kM}{xs:oC kJ}(x:Yf b h l xs)(k:∀o,h.get? l=some o->h'.get? l=some o):Yf b h' l xs:=by
 cases b with
 |false=>exact Heap.IsList.at x λo e=>k o e
 |true=>exact Heap.IsTuple.at x λo e=>k o e
def Xo{prog:kO}{w:kP}(b:Bool)(i l:kM)(c:l≠i)(xs:oC kJ):Src prog w i l xs (λk h=>JG b h i l k/\Yf b h l xs):=λA a=>by
 cases b with
 |false=>exact Draws.list a i l c xs
 |true=>exact Ed a i l c xs
abbrev Xp(b:Bool)(h:kS)(l:kM):kS:=h.push {cls:=.type<|Qam b,data:=.fields #[.ref l,.int 0 0]}
abbrev OB(b c:Bool)(h:kS)(l m:kM):kS:=(Xp c (Xp b h l) m).push {cls:=.type "tuple",data:=.seq #[.ref h.objs.size,.ref (Xp b h l).objs.size]}
abbrev JH(b c:Bool)(h:kS)(l m:kM):kS:=((OB b c h l m).push {cls:=.type "tuple",data:=.seq #[.none,.none]}).push {cls:=.type "zip",data:=.fields #[.none,.bool false,.bool false,.ref (Xp c (Xp b h l) m).objs.size,.ref (OB b c h l m).objs.size]}
def JI{b:Bool}{l:kM}{xs:oC kJ}{Q:kJ->kK->Prop}(h:Yf b s.heap l xs)(a:Q (.ref s.heap.objs.size) {s with heap:=Xp b s.heap l}):qX prog w A (pyIter<|.ref l) Q E s:=by
 cases b with
 |false=>exact eA h a
 |true=>exact dX h a
def GY(b c:Bool)(l m:kM)(xs ys:oC kJ):Meets (Builtin.«zip.__new__» ⟨[.type "zip",.ref l,.ref m],[]⟩) (λ_ R s=>Yf b s.heap l xs/\Yf c s.heap m ys/\R (.ok<|.ret<|.ref<|((OB b c s.heap l m).push {cls:=.type "tuple",data:=.seq #[.none,.none]}).objs.size) {s with heap:=JH b c s.heap l m}) :=
 .of_wp λprog w A R s h=>by
  obtain⟨hp,g,d,a,os⟩:=s;obtain⟨j,a2,q⟩:=h;have n:=sub_zip;have i:Yf b (Shared.heap ⟨hp,g,d,a,os⟩) l xs:=j;have f:Yf c (Shared.heap ⟨Xp b hp l,g,d,a,os⟩) m ys:=a2.at λo e=>C_ _ e
  wp_walk using JI i,JI f
  exact⟨_,rfl,q⟩
def CI{b c:Bool}{l m:kM}{xs ys:oC kJ}{Q:kJ->kK->Prop}(h1:Yf b s.heap l xs)(h2:Yf c s.heap m ys)
  (h:∀a,IsZip a (s.heap.objs.size+4) (s.heap.objs.size+2) (s.heap.objs.size+3) .none->IsPair a (s.heap.objs.size+2) (.ref s.heap.objs.size) (.ref<|s.heap.objs.size+1)->IsPair a (s.heap.objs.size+3) .none .none->JG b a s.heap.objs.size l 0->JG c a (s.heap.objs.size+1) m 0->a.objs.size=s.heap.objs.size+5 ->
   (∀d o,s.heap.get? d=some o->a.get? d=some o)->Q (.ref<|s.heap.objs.size+4) {s with heap:=a}):qX prog w A (call (.type "zip") [.ref l,.ref m]) Q E s:=by
 refine callType_new F.called_zip (by decide) (F.typeCall_zip_2 _ _) (F.newCall_zip_2 _ _) (λf=>F.args_object_init_3 f _ _) F.entry_zip_new (GY b c l m xs ys) ⟨h1,h2,?_⟩;have e:(Xp b s.heap l).objs.size=s.heap.objs.size+1:=cQ ..;have p:(Xp c (Xp b s.heap l) m).objs.size=s.heap.objs.size+2:=by rw[cQ,e]
 have j:(OB b c s.heap l m).objs.size=s.heap.objs.size+3:=by rw[cQ,p]
 have g:((OB b c s.heap l m).push {cls:=.type "tuple",data:=.seq #[.none,.none]}).objs.size=s.heap.objs.size+4:=by rw[cQ,j]
 have v:(JH b c s.heap l m).objs.size=s.heap.objs.size+5:=by rw[cQ,g]
 have i:(JH b c s.heap l m).get? ((OB b c s.heap l m).push {cls:=.type "tuple",data:=.seq #[.none,.none]}).objs.size=some _:=I_ _ rfl;have t:(JH b c s.heap l m).get? (OB b c s.heap l m).objs.size=some _:=C_ _<|I_ _ rfl;have q:(JH b c s.heap l m).get? (Xp c (Xp b s.heap l) m).objs.size=some _:=C_ _<|C_ _<|I_ _ rfl;have n:(JH b c s.heap l m).get? (Xp b s.heap l).objs.size=some _:=C_ _<|C_ _<|C_ _<|I_ _ rfl;have r:(JH b c s.heap l m).get? s.heap.objs.size=some _:=C_ _<|C_ _<|C_ _<|C_ _<|I_ _ rfl;have u:∀d o,s.heap.get? d=some o->(JH b c s.heap l m).get? d=some o:=λd o x=>C_ _<|C_ _<|C_ _<|C_ _<|C_ _ x;show _/\_;rw[p,j,g]at i;rw[e,p]at q;rw[j]at t;rw[e]at n;rw[g];refine⟨⟨_,i,rfl⟩,h _ i q t ?_ ?_ v u⟩
 ·cases b with
  |false=>exact⟨_,r,rfl,rfl⟩
  |true=>exact⟨_,r,rfl,rfl⟩
 ·cases c with
  |false=>exact⟨_,n,rfl,rfl⟩
  |true=>exact⟨_,n,rfl,rfl⟩
def JJ{z TI TO i1 i2 l1 l2:kM}{xs ys:oC kJ}{St1 St2:Nat->kS->Prop}(C:A.handled=none)(D:ZipApart z TI TO i1 i2 l1 l2)(t:Src prog w i1 l1 xs St1)(r:Src prog w i2 l2 ys St2) :
  WalksT prog w A z [z,TI,TO,i1,i2,l1,l2] [z,TO,i1,i2] (min xs.size ys.size) (λi M=>∃x y,xs[i]?=some x/\ys[i]?=some y/\M=#[x,y])
   (λi h=>IsZip h z TI TO .none/\IsPair h TI (.ref i1) (.ref i2)/\(∃a b,IsPair h TO a b)/\St1 i h/\St2 i h)
   (λi T h=>IsZip h z TI TO (rawInt T)/\IsPair h TI (.ref i1) (.ref i2)/\(∃a b,IsPair h TO a b)/\St1 (i+1) h/\St2 (i+1) h/\T≠z/\T≠TO/\T≠i1/\T≠i2) where
 sub:=λc hc=>by simp at hc ⊢;rcases hc with rfl|rfl|rfl|rfl<;>simp
 frame:=λi h n st hk=>by obtain⟨d,a2,⟨a,b,l⟩,g,f⟩:=st;exact⟨hk z (by simp) _ d,hk TI (by simp) _ a2,⟨a,b,hk TO (by simp) _ l⟩,t.keep g (λo e=>hk i1 (by simp) o e) λo e=>hk l1 (by simp) o e,r.keep f (λo e=>hk i2 (by simp) o e) λo e=>hk l2 (by simp) o e⟩
 item:=λi s Q E G st p=>by obtain⟨d,a2,⟨a,b,l⟩,g,f⟩:=st;have W:i<xs.size:=S_ G<|Nat.min_le_left ..;have X:i<ys.size:=S_ G<|fV ..;have j:s.TypeIs (.ref z) "zip" := ⟨_,d,rfl⟩;have u:∀{c o},s.heap.get? c=some o->s.heap.objs.size≠c:=λe=>cZ<|G_ e;unfold pyNext;refine A_<|gE<|cH (name:=Str.ofString "__next__") j F.slot_zip_next<|bQ F.slot_zip_next j F.entry_zip_next (CH (show A.in1.handled=none from C) D t r d a2 l g f W X λn v x y U I B R J O V hk=>DD ?_)<|F.args_zip_next_1 _;refine p s.heap.objs.size #[x,y] n v ⟨x,y,U,I,rfl⟩ (H_ _) ⟨_,V,rfl,_,rfl⟩ ⟨B,hk _ _ D.TIz D.TITO D.TIi1 D.TIi2 a2,⟨_,_,R⟩,J,O,u d,u l,?_,?_⟩ λc o hc e=>hk c o (λq=>hc<|by simp[q]) (λq=>hc<|by simp[q]) (λq=>hc<|by simp[q]) (λq=>hc<|by simp[q]) e;obtain⟨o,e⟩:=t.live g;exact u e;obtain⟨o,e⟩:=r.live f;exact u e
 go:=λbz k H i T s Q E hm p=>by obtain⟨d,a2,⟨a,b,l⟩,g,f,_⟩:=hm;exact wpAny_letOwnedTupleGo_zip d λn B m=>p n ⟨B,m.extBut _ _ D.TIz a2,⟨a,b,m.extBut _ _ D.TOz l⟩,t.keep g (λo e=>m.extBut _ _ D.i1z e) λo e=>m.extBut _ _ D.l1z e,r.keep f (λo e=>m.extBut _ _ D.i2z e) λo e=>m.extBut _ _ D.l2z e⟩ λc o hc e=>m.extBut _ _ (λq=>hc<|by simp[q]) e
 apart:=λi T h hm j=>by obtain⟨_,_,_,_,_,Y,P,S,L⟩:=hm;simp at j;rcases j with rfl|rfl|rfl|rfl;exact Y rfl;exact P rfl;exact S rfl;exact L rfl
 done:=λs Q E st p=>by
  obtain⟨d,a2,⟨a,b,l⟩,g,f⟩:=st;have j:s.TypeIs (.ref z) "zip" := ⟨_,d,rfl⟩;have Z:min xs.size ys.size=xs.size\/min xs.size ys.size<xs.size/\min xs.size ys.size=ys.size:=by omega
  unfold pyNext;refine A_<|gE<|cH (name:=Str.ofString "__next__") j F.slot_zip_next<|bQ F.slot_zip_next j F.entry_zip_next (OA (show A.in1.handled=none from C) D t r d a2 l g f Z λn v e hk he=>?_)<|F.args_zip_next_1 _;obtain⟨o,N,hc⟩:=he;refine A_<|eI (T := "StopIteration") (b:=true) ⟨o,N,hc⟩ isSubtype_stop<|DD<|p n v λc o hc e=>?_;exact hk c o (λq=>hc<|by simp[q]) (λq=>hc<|by simp[q]) (λq=>hc<|by simp[q]) (λq=>hc<|by simp[q]) e
 self:=λi s Q E st h=>kC st.1 h
end
def Xq(K:kN):Bool->Hp->kM->oA V->Prop
 |false,H,a,b=>Fa K H a b
 |true,H,a,b=>Ii K H a b
section
variable {X:Cx}{aa:oA<|kM×kT}{σ:St}{H:Hp}{s:kK}{b:Bool}{a c:kM}{xs ys:oA V}{e1 e2:kQ}{ta tb:AE}{pos p:Pos}
def Inv.seqB(I:Inv X aa σ H s)(h:Xq X.K b H a xs):∃d:oA kJ,Vals xs d/\Yf b s.heap a d.toArray:=by
 cases b with
 |false=>obtain⟨d,r,p,_⟩:=I.list h;exact⟨d,r,p.isList⟩
 |true=>obtain⟨d,r,p,_⟩:=I.tuple h;exact⟨d,r,p⟩
def Inv.seqB_inj(I:Inv X aa σ H s)(h:Xq X.K b H a xs)(h':Xq X.K b H a ys):xs=ys:=by
 cases b with
 |false=>exact I.list_inj h h'
 |true=>exact I.tuple_inj h h'
def Inv.seqB_ne(I:Inv X aa σ H s)(h:Xq X.K b H a xs)(f:F0 X aa H c):a≠c:=by
 rintro rfl;obtain⟨i,_,_,f3,_⟩:=f;have d:∀{o:HO},Rd H a o->False:=λr=>by rcases r with r|⟨_,r⟩;rw[i]at r;cases r;rw[i]at r;cases r
 have g:∀{o:kT},X.K.lookup a=some o->False:=λ{o} e=>by have j:=I.ok.mod.kin a o e;rcases f3 with f3|f3;exact I.ok.noex a o j f3;exact dF _<|S_ (G_ (I.ok.bs a o j).1) f3
 cases b with
 |false=>rcases h with h|⟨o,_,_,e,_⟩;exact d h;exact g e
 |true=>rcases h with h|⟨o,_,_,e,_⟩;exact d h;exact g e
def Izp(K:kN)(p q:Bool)(a b:kM):It :=
 ⟨λi H=> ∃ xs ys x y, Xq K p H a xs /\ Xq K q H b ys /\ xs[i]? = some x /\ ys[i]? = some y /\ ∃ n, x = .int n,
  λi H v d=> ∃ T x y, H T = none /\ v = .ref T /\ d = upd H T (.tup [x, y]) /\ (∀ xs, Xq K p H a xs -> xs[i]? = some x) /\ ∀ ys, Xq K q H b ys -> ys[i]? = some y,
  λi H=> ∃ xs ys, Xq K p H a xs /\ Xq K q H b ys /\ i = min xs.length ys.length⟩
def CJ{P:kO}{w:kP}{K:kN}{bz:oA kQ}{k:Nat}{pos:Pos}(p q:Bool)(a b z TI TO f g:kM)(d1:TI≠z)(d2:TO≠z)(d3:f≠z)(d4:g≠z)(d5:TI≠TO)(d6:TI≠f)(d7:TI≠g)(d8:TO≠f)(d9:TO≠g)(Z:f≠g) :
  Turn P w K (.Tuple bz k pos) (Izp K p q a b) [z,TI,TO,f,g] z (λi h=>IsZip h z TI TO .none/\IsPair h TI (.ref f) (.ref g)/\(∃u v,IsPair h TO u v)/\JG p h f a i/\JG q h g b i) where
 mem:=by simp
 obj:=λi h st c hc=>by
  obtain⟨F,a2,⟨u,v,t⟩,G,C⟩:=st;have it:∀{r:Bool} {j l:kM} {n:Nat},JG r h j l n->∃o,h.get? j=some o/\∀v,o.data≠.cell v:=λ{r j l n} x=>by
   cases r with
   |false=>obtain⟨o,e,_,d⟩:=(show h.IsListIter j l n from x);exact⟨o,e,λv y=>by rw[d]at y;cases y⟩
   |true=>obtain⟨o,e,_,d⟩:=(show h.IsTupleIter j l n from x);exact⟨o,e,λv y=>by rw[d]at y;cases y⟩
  simp only[List.mem_cons,List.not_mem_nil,or_false]at hc;rcases hc with rfl|rfl|rfl|rfl|rfl;exact⟨_,F,λv y=>nomatch y⟩;exact⟨_,a2,λv y=>nomatch y⟩;exact⟨_,t,λv y=>nomatch y⟩;exact it G;exact it C
 keep:=λi h L st k=>by
  obtain⟨F,a2,⟨u,v,t⟩,G,C⟩:=st;have it:∀{r:Bool} {j l:kM} {n:Nat},JG r h j l n->(∀o,h.get? j=some o->L.get? j=some o)->JG r L j l n:=λ{r j l n} x M=>by
   cases r with
   |false=>exact Heap.IsListIter.at x λo e=>M o e
   |true=>exact Heap.IsTupleIter.at x λo e=>M o e
  exact⟨k z (by simp) _ F,k TI (by simp) _ a2,⟨u,v,k TO (by simp) _ t⟩,it G λo e=>k f (by simp) o e,it C λo e=>k g (by simp) o e⟩
 item:=by
  intro X hP hw hK hc i aa s σ H E I hf st hg;subst hP hw hK;obtain⟨xs,ys,x,y,O,N,ex,ey,hn⟩:=hg;obtain⟨R,rv,px⟩:=I.seqB O;obtain⟨m,ji,py⟩:=I.seqB N;obtain⟨u,hu,ru⟩:=rv.get ex;obtain⟨v,hv,rv2⟩:=ji.get ey;have B:∀c∈[z,TI,TO,f,g],a≠c:=λc hc=>I.seqB_ne O<|hf c hc;have nb:∀c∈[z,TI,TO,f,g],b≠c:=λc hc=>I.seqB_ne N<|hf c hc;have D:ZipApart z TI TO f g a b:=⟨d1,d2,d3,d4,d5,d6,d7,d8,d9,Z,B z<|by simp,B TO<|by simp,B f<|by simp,B g<|by simp,nb z<|by simp,nb TO<|by simp,nb f<|by simp,nb g<|by simp⟩;obtain⟨F,a2,t,G,C⟩:=id st;have W:=JJ (prog:=X.prog) (w:=X.w) (A:=X.A) (I.ok.hd hc) D (Xo p f a D.l1i1 R.toArray)<|Xo q g b D.l2i2 m.toArray;refine wtk I.tk<|W.item i s _ _ ?_ ⟨F,a2,t,⟨G,px⟩,⟨C,py⟩⟩ λT ir L Y ua hT ht hm M hk=>?_;have n1:=(E_.mp hu).1;have n2:=(E_.mp hv).1;simp only[List.size_toArray];omega;have J:=W.apart i T L hm;have nq:∀c∈[z,TO,f,g],F0 X aa H c:=λc hc=>hf c (by simp only[List.mem_cons,List.not_mem_nil,or_false]at hc ⊢;rcases hc with rfl|rfl|rfl|rfl<;>simp);refine⟨_,rfl,W.go bz k pos i T _ _ _ hm λjo U im=>?_⟩;obtain⟨x',y',hx',hy',rfl⟩:=ua;have wm:x'=u:=by
   have:R[i]?=some x':=by simpa using hx'
   rw[hu]at this;exact(aE this).symm
  have hyv:y'=v:=by
   have:m[i]?=some y':=by simpa using hy'
   rw[hv]at this;exact(aE this).symm
  subst wm hyv;have I1:Inv X aa σ H {s with heap:=L,toks:=Y}:=I.turnedL M nq;have I2:Inv X aa σ H {s with heap:=jo,toks:=Y}:=I1.turnedL (s:={s with heap:=L,toks:=Y}) (t':=Y) im nq;have fT:F0 X aa H T:=I.fpOk hT<|I.hok.fresh hT;have kr:IsTup jo T #[x',y']:=let⟨o,ho,r⟩:=ht;⟨o,im T o J ho,r⟩
  refine⟨.ref T,upd H T<|.tup [x,y],I2.track fT ⟨⟨by show 2<=sizeLine;decide,.inr (by obtain⟨n,e⟩:=hn;exact⟨n,y,by rw[e]⟩)⟩,[x',y'],.cons ru<|.cons rv2 .nil,kr⟩,rfl,⟨T,x,y,fT.1,rfl,rfl,λzs hz=>by rw[I.seqB_inj hz O];exact ex,λzs hz=>by rw[I.seqB_inj hz N];exact ey⟩,⟨U.1,U.2.1,U.2.2.1,U.2.2.2.1.1,U.2.2.2.2.1⟩,λc hc=>?_⟩;have S:∀{e:kM} {o:kT},s.heap.get? e=some o->e≠T:=λq=>O_<|S_ (G_ q) hT;have hcT:c≠T:=by obtain⟨u3,v3,t⟩:=t;have S1:=Xo (prog:=X.prog) (w:=X.w) p f a D.l1i1 R.toArray;have S2:=Xo (prog:=X.prog) (w:=X.w) q g b D.l2i2 m.toArray;simp only[List.mem_cons,List.not_mem_nil,or_false]at hc;rcases hc with rfl|rfl|rfl|rfl|rfl;exact S F;exact S a2;exact S t;obtain⟨o,e⟩:=S1.live (k:=i) ⟨G,px⟩;exact S e;obtain⟨o,e⟩:=S2.live (k:=i) ⟨C,py⟩;exact S e
  rw[Bd hcT];exact(hf c hc).1
 done:=by
  intro X hP hw hK hc i aa s σ H E I hf st hg;subst hP hw hK;obtain⟨xs,ys,O,N,hn⟩:=hg;obtain⟨R,rv,px⟩:=I.seqB O;obtain⟨m,ji,py⟩:=I.seqB N;have B:∀c∈[z,TI,TO,f,g],a≠c:=λc hc=>I.seqB_ne O<|hf c hc;have nb:∀c∈[z,TI,TO,f,g],b≠c:=λc hc=>I.seqB_ne N<|hf c hc;have D:ZipApart z TI TO f g a b:=⟨d1,d2,d3,d4,d5,d6,d7,d8,d9,Z,B z<|by simp,B TO<|by simp,B f<|by simp,B g<|by simp,nb z<|by simp,nb TO<|by simp,nb f<|by simp,nb g<|by simp⟩;obtain⟨F,a2,t,G,C⟩:=id st;have W:=JJ (prog:=X.prog) (w:=X.w) (A:=X.A) (I.ok.hd hc) D (Xo p f a D.l1i1 R.toArray)<|Xo q g b D.l2i2 m.toArray;have nq:∀c∈[z,TO,f,g],F0 X aa H c:=λc hc=>hf c (by simp only[List.mem_cons,List.not_mem_nil,or_false]at hc ⊢;rcases hc with rfl|rfl|rfl|rfl<;>simp);have hi:min R.toArray.size m.toArray.size=i:=by rw[T_,T_,<- rv.length,<- ji.length];exact hn.symm
  subst hi;exact wtk I.tk (W.done s _ _ ⟨F,a2,t,⟨G,px⟩,⟨C,py⟩⟩ λL Y M hk=>⟨rfl,I.turnedL M nq⟩)
 self:=λA i s Q E st h=>kC st.1 h
def Xr(ds es:oA kL):oA AV:=List.zipWith (λd e=>AV.D<|.tuple [d,e]) ds es
def Gr(ds es:oA kL):(Xr ds es).length=min ds.length es.length:=List.length_zipWith
def Ri{ds es:oA kL}{i:Nat}{x:AV}(h:(Xr ds es)[i]?=some x):∃d e,ds[i]?=some d/\es[i]?=some e/\x=.D (.tuple [d,e]):=by unfold Xr at h;rw[List.getElem?_zipWith]at h;split at h;rename_i d e hd he;cases h;exact⟨d,e,hd,he,rfl⟩;cases h
def CK{K:kN}{C:Hp}{p q:Bool}{a b:kM}{z vs:oA AV}{ds es:oA kL}{B:M->Prop}(hd:dats z=some ds)(he:dats vs=some es)(G:∀d∈ds,∃n,d=.int n)
  (h:∀H f,Kp C H->Cn K f H->B f->∃xs ys,Xq K p H a xs/\Ba K H z xs/\Xq K q H b ys/\Ba K H vs ys):ItOk K C (Izp K p q a b) (Xr ds es) B:=by
 have w:ds.length=z.length:=by rw[Gu hd,B_]
 have hm:es.length=vs.length:=by rw[Gu he,B_]
 refine⟨λi H f S c k I=>?_,λi H f v N x S c k e y=>?_,λH f S c k=>?_⟩;obtain⟨xs,ys,j,g,m,o⟩:=h H f S c k;rw[Gr,w,hm,g.length,o.length]at I;refine⟨xs,ys,xs[i]'(by omega),ys[i]'(by omega),j,m,D_ _,D_ _,?_⟩;have D:i<ds.length:=by rw[w,g.length];omega
 obtain⟨u,l,r⟩:=(g.dats hd).get<|D_ D;obtain⟨n,L⟩:=G _<|aL D;rw[L]at r;rw[D_ (by omega:i<xs.length)]at l;exact⟨n,(aE l).trans<|Dk.int r⟩;obtain⟨xs,ys,j,g,m,o⟩:=h H f S c k;obtain⟨T,O,P,t,rfl,rfl,J,F⟩:=y;obtain⟨d,Q,e1,e2,rfl⟩:=Ri e;obtain⟨u,l,r⟩:=(g.dats hd).get e1;obtain⟨v,A,E⟩:=(o.dats he).get e2;rw[J xs j]at l;rw[F ys m]at A;cases l;cases A;exact⟨Kp.new t _,c.over t,K4 Bo<|Ct (Dk.kp (Kp.new t _) _ _ r)<|Ct (Dk.kp (Kp.new t _) _ _ E) D8⟩;obtain⟨xs,ys,j,g,m,o⟩:=h H f S c k;exact⟨xs,ys,j,m,by rw[Gr,w,hm,g.length,o.length]⟩
def Qan(ta tb:AE):AI:=λh f R=>ta h f λx g=>tb h g λy e=>opt (items e x) λj=>opt (items e y) λi=>opt (dats j) λk=>opt (dats i) λl=>(∀d∈k,∃n,d=.int n)/\R (Xr k l) (λf=>items f x=some j/\items f y=some i) e
def OC{bz:oA kQ}{k:Nat}{m8:Pos}(hg:Gl X "zip") (hm:X.mg "zip" = none) (h1:VE X e1 ta) (h2:VE X e2 tb) (hs:starEach [e1,e2] X.env=(false,eval e1 X.env)::starEach [e2] X.env:=by rfl) (hs2:starEach [e2] X.env=[(false,eval e2 X.env)]:=by rfl) (hpl:(backTo pos<|starEach [e2] X.env).any (·.1)=false:=by rfl) :
  VI X (.Tuple bz k m8) (.Call (.Name "zip" p) [e1,e2] [] pos) (Qan ta tb):=by
 intro aa s σ H R I g;refine B7 g λτ μ R' G hc h hq=>?_;refine aP<|Ce I hg hm boot_zip<|aZ ?_ hs hpl;rw[hs];refine aK<|a_ (h1.run I G hc h) (λu1 s1 wy=>V8 wy λx v μ1 H1 I1 rv M c1 rx q1=>?_) λ_ _ e=>e;rw[hs2];refine aK<|a_ (h2.run I1 (G.kp M) c1 q1) (λu2 o v7=>V8 v7 λy v2 Y H2 l C N c2 Q d=>bA ?_) λ_ _ e=>e;obtain⟨us,W,d⟩:=Bf d;obtain⟨vs,ev,d⟩:=Bf d;obtain⟨ds,Z,d⟩:=Bf d;obtain⟨es,ee,hI,d⟩:=Bf d;have m:=rx.kp N;obtain⟨a,xs,rfl,ka,ra⟩:=Bt c2 m W;obtain⟨b,ys,rfl,kb,rb⟩:=Bt c2 Q ev;have n:∀{H:Hp} {z:AV} {c:kM} {ws:oA V},(W1 z=false/\Fa X.K H c ws)\/(W1 z=true/\Ii X.K H c ws)->Xq X.K (W1 z) H c ws:=λ{H z c ws} h=>by rcases h with⟨t,h⟩|⟨t,h⟩;rw[t];exact h;rw[t];exact h
 cases rv;cases C;obtain⟨ag,r1,p1⟩:=l.seqB<|n ka;obtain⟨jts,r2,p2⟩:=l.seqB<|n kb;refine CI p1 p2 λh' A S U T O z6 kz=>kC A ?_;generalize hB:o.heap.objs.size=B at A S U T O z6;have f:∀(i j:Nat),i≠j->(B+i:Nat)≠B+j:=λi j h=>by omega
 refine⟨B+4,[B+4,B+2,B+3,B,B+1],_,_,H2,rfl,l.kept (t':=o.toks) kz,CJ (W1 x) (W1 y) a b (B+4) (B+2) (B+3) B (B+1) (f 2 4<|by decide) (f 3 4<|by decide) (f 0 4<|by decide) (f 1 4<|by decide) (f 2 3<|by decide) (f 2 0<|by decide) (f 2 1<|by decide) (f 3 0<|by decide) (f 3 1<|by decide)<|f 0 1<|by decide,⟨A,S,⟨_,_,U⟩,T,O⟩,λc P=>?_,hq _ _ _ _ _ (M.trans N) c2 (CK (p:=W1 x) (q:=W1 y) (a:=a) (b:=b) Z ee hI λH3 μ3 J F L=>?_) d⟩;have hge:o.heap.objs.size<=c:=by rw[hB];simp only[List.mem_cons,List.not_mem_nil,or_false]at P;rcases P with rfl|rfl|rfl|rfl|rfl;exact c_ _ _;exact c_ _ _;exact c_ _ _;exact H_ _;exact c_ _ _
 exact l.fpOk hge<|l.hok.fresh hge
 obtain⟨a',bo,ea,r,w⟩:=Bt F (m.kp J) L.1;obtain⟨b',D,eb,u,E⟩:=Bt F (Q.kp J) L.2;cases ea;cases eb;exact⟨bo,D,n r,w,n u,E⟩
end
end L2
abbrev oE(a:PySem.Addr):Option L2.AV:=some<|.R a
abbrev oF(a:Int):Option L2.AV:=some<|.D<|.int a
abbrev oG(a:PySem.PyData):Option L2.AV:=some<|.D a
abbrev oH(a:List L2.AV):Option L2.MO:=some<|.lst a
abbrev oK:List PySem.Str:=["_law_state","_law_many"]
abbrev oM:List PySem.Str:=["_law_game_here","_law_text"]
abbrev oN:List PySem.Str:=["_law_state","_law_game_here"]
abbrev oO:List PySem.Str:=["game","many"]
abbrev oP:List PySem.Str:=["words"]
abbrev oQ:List PySem.Str:=["number","many"]
abbrev oR:List PySem.Str:=["stands","lowest","bound"]
abbrev oS:List PySem.Str:=["words","stands"]
abbrev oU:List PySem.Str:=["_law_state","_law_most"]
abbrev oV:List PySem.Str:=["_law_state","_law_things"]
abbrev oW:List PySem.Str:=["_law_state","_law_game_here","_law_most"]
abbrev oX:List PySem.Str:=["_law_game_here","_law_stand_here"]
abbrev oY:List PySem.Str:=["_law_game_here","_law_saying_here"]
abbrev oZ:List PySem.Str:=["names"]
abbrev qA:List PySem.Str:=["game","many","ends"]
abbrev qB:List PySem.Str:=["_law_game_here","_law_many","_law_words"]
abbrev qC:List PySem.Str:=["_law_state","_law_game_here","_law_text"]
abbrev qD:List PySem.Str:=["game","saying"]
abbrev qE:List PySem.Str:=["game","many","ahead","arrow"]
abbrev qF:List PySem.Str:=["words","stands","letters"]
abbrev qG:List PySem.Str:=["game","many","words"]
abbrev qH:List PySem.Str:=["game","many","rows"]
abbrev qI:List PySem.Str:=["game","text"]
abbrev qJ:List PySem.Str:=["_law_game_here","_law_many","_law_words","_law_arrows"]
abbrev qK:List PySem.Str:=["_law_state"]
abbrev qL:List PySem.Str:=["_law_script"]
abbrev qM:List PySem.Str:=["self","row"]
abbrev qO:List PySem.Str:=["word","stands"]
abbrev qP:List PySem.Str:=["_law_word_here","_law_known"]
abbrev qQ:List PySem.Str:=["_law_j","_law_letters","_law_state"]
abbrev qR:List PySem.Str:=["_law_some_here","_law_state"]
abbrev qT:List PySem.Str:=["_law_j","_law_state","_law_letters"]
abbrev qU:List PySem.Str:=["_law_one","_law_p","_law_x"]
abbrev qV:List PySem.Str:=["_law_stand_here","_law_game_here"]
abbrev qW:List PySem.Str:=["_law_name","_law_game_here"]
namespace K20
open PySem L2
def top(i:Nat):kU:=PySem.Challenge.pw_pileduel_k20_texts_of_no_saying.main.body.getD i<|.Pass ⟨0,0,0,0⟩
abbrev PV:kU:=top 11
abbrev PY:kU:=top 13
abbrev PZ:kU:=top 17
abbrev QA:kU:=top 18
abbrev JK:kU:=top 19
abbrev GZ:kU:=top 21
abbrev JL:kU:=top 22
abbrev OD:kU:=top 23
abbrev QB:kU:=top 24
abbrev QC:kU:=top 25
abbrev QD:kU:=top 26
abbrev QE:kU:=top 27
abbrev JM:kU:=top 28
abbrev QF:kU:=top 30
abbrev JN:kU:=top 31
abbrev CL:kU:=top 32
abbrev OE:kU:=top 33
abbrev QG:kU:=top 34
abbrev QH:kU:=top 35
abbrev JO:kU:=top 36
abbrev JP:kU:=top 37
abbrev QI:kU:=top 38
abbrev QJ:kU:=top 39
abbrev QK:kU:=top 40
abbrev OF:kU:=top 41
abbrev QL:kU:=top 42
abbrev OG:kU:=top 43
abbrev QM:kU:=top 44
abbrev QN:kU:=top 45
abbrev Mv:kU:=top 46
section
variable {P:kO}{w:kP}{K:kN}{mg:Str->oB kJ}{base:kS}{f:kM}{fd:kW}
abbrev Xs:kU:=cdef<|top 2
abbrev Qao:oA Str:=qM
def UD:FnScope Qao qM (Ai Xs):=⟨rfl,rfl,rfl,by decide +kernel,rfl,by decide +kernel,by decide +kernel⟩
def OH{n:Nat}{C:kM}(F:Fun K "__init__" "NoText.__init__" Xs f fd) (c:XCls K C) (i:Ik K C "row"):FnOk P w K mg base Ez (n+1) f fd qM (spI C ["row"]):=by refine F.ok UD (λp H Q E h=>?_) λr A a s H p Q E u h=>?_;obtain⟨e,t,l,rfl,g,_⟩:=h;rw[aM,g];rfl;obtain⟨e,t,l,rfl,g,he,q⟩:=h;obtain⟨v,rfl⟩:=Uu g;refine⟨_,Od<|SE (pv 0) (pv 1) rfl,?_⟩;refine⟨_,rfl,_,rfl,e,C,t,rfl,he,c,i,λm d k=>?_⟩;refine q _ t m (λb o hb j=>?_) (by rw[Bd<|dA k,Bo]) Bo k;rw[Bd<|Ck j d,Bd hb];exact j
def Xt(i:Int):AV:=.D<|.int i
def stM(l:kM)(a:Int)(c b:Nat):MO:=.lst [.R l,.D<|.int a,.D<|.int (c:Nat),.D<|.int (b:Nat)]
structure PotAt(μ:M)(a l:kM)(s1:Int)(s2 s3:Nat)(ns:oA Int):Prop where
 ha:μ a=some (stM l s1 s2 s3)
 hl:μ l=oH (ns.map Xt)
 n0:0<=s1
 ne:a≠l
def Pot(b:M)(a l:kM):Prop:=∃c e d g,PotAt b a l c e d g
def Bh(a l:kM)(d c:M):Prop:=∀b m,b≠a->b≠l->d b=some m->c b=some m
def Bh.refl{a l:kM}{b:M}:Bh a l b b:=λ_ _ _ _ h=>h
def Bh.trans{a l:kM}{c d g:M}(h:Bh a l c d)(k:Bh a l d g):Bh a l c g:=λb m h1 h2 e=>k b m h1 h2<|h b m h1 h2 e
def Bh.new{a l p:kM}{d c:M}{o:MO}(h:Bh a l d c)(e:c p=none):Bh a l d (Am c p o):=λb m h1 h2 q=>by have:=h b m h1 h2 q;rw[Af<|by intro z;subst z;rw[e]at this;cases this];exact this
def Bh.put{a l p:kM}{c d:M}{o:MO}(h:Bh a l c d)(e:c p=none):Bh a l c (Am d p o):=λb m h1 h2 q=>by rw[Af<|by intro z;subst z;rw[e]at q;cases q];exact h b m h1 h2 q
def Bh.a{a l:kM}{c d:M}{o:MO}(h:Bh a l c d):Bh a l c (Am d a o):=λb m h1 h2 q=>by rw[Af h1];exact h b m h1 h2 q
theorem Bh.none{a l p:kM}{b c:M}(h:Bh a l b c)(h1:a≠p)(h2:l≠p)(e:c p=none):b p=none:=by
 cases q:b p with
 |none=>rfl
 |some m=>rw[h p m h1.symm h2.symm q]at e;cases e
def PotAt.other{b:M}{a l p:kM}{d:Int}{e c:Nat}{ns:oA Int}{o:MO}(h:PotAt b a l d e c ns)(h1:a≠p)(h2:l≠p):PotAt (Am b p o) a l d e c ns :=
 ⟨by rw[Af h1];exact h.ha,by rw[Af h2];exact h.hl,h.n0,h.ne⟩
def PotAt.to{c:M}{a l:kM}{j b:Int}{k i e d:Nat}{ns:oA Int}(h:PotAt c a l j k i ns)(g:0<=b):PotAt (Am c a<|stM l b e d) a l b e d ns:=⟨Ac,by rw[Af h.ne.symm];exact h.hl,g,h.ne⟩
def Pot.other{b:M}{a l p:kM}{o:MO}(h:Pot b a l)(h1:a≠p)(h2:l≠p):Pot (Am b p o) a l:=by obtain⟨e,d,c,g,h⟩:=h;exact⟨e,d,c,g,h.other h1 h2⟩
def Pot.ne{b:M}{a l p:kM}(h:Pot b a l)(e:b p=none):a≠p/\l≠p:=by obtain⟨_,_,_,_,h⟩:=h;exact⟨λz=>by(subst z;rw[h.ha]at e;cases e),λz=>by(subst z;rw[h.hl]at e;cases e)⟩
def Pot.new{b:M}{a l p:kM}{o:MO}(h:Pot b a l)(e:b p=none):Pot (Am b p o) a l:=h.other (h.ne e).1 (h.ne e).2
def Kb(ns:oA Int):kL:=.list<|ns.map .int
def Xu(a:M)(ns:oA Int):items a (.D<|Kb ns)=some (ns.map Xt):=by show some ((ns.map PyData.int).map AV.D)=_;rw[aJ];rfl
abbrev nDr:oA Str:=["_law_state","_law_many","_law_found","_law_cell","_law_number"]
def Rj:FnScope nDr oK (Ai QF):=⟨rfl,rfl,rfl,by decide +kernel,rfl,by decide +kernel,by decide +kernel⟩
def L7:ASp:=λe d R=>∃(a l:kM) (c:Nat),e=[.R a,.D<|.int c]/\Pot d a l/\0<c/\c<1000000/\∀(v:Nat) (b:M),v<c->Pot b a l->Bh a l d b->R (.D<|.int v) b
def OI{v:Int}{a:Nat}(b:0<=v)(h1:v<a):∃n:Nat,v=n/\n<a:=⟨v.toNat,by omega,by omega⟩
def CM(x:Int){m:Int}(h:0<m):0<=x%m:=Int.emod_nonneg x<|by omega
def CN(x:Int){m:Int}(h:0<m)(h2:m<=2147483648):x%m<2147483648:=Int.lt_of_lt_of_le (jO x h) h2
def Vm{x:Int}{a:Nat}{Q:Int->Prop}(c:0<a)(h:∀v:Nat,v<a->Q v):Q (x%a):=by obtain⟨v,b,hv⟩:=OI (Int.emod_nonneg x<|show(a:Int)≠0 by omega) (jO x<|show 0<(a:Int) by omega);rw[b];exact h v hv
def UE{n:Nat}(F:Fun K "_law_draw" "_law_draw" QF f fd) (N:mg "len" = none):FnOk P w K mg base Ez (n+1) f fd oK (G6 K 2 L7):=by
 refine F.vok Rj λav A M s H E hr=>⟨_,(Ah (Ip (Bb A5 (Ar A0 (vv 0) Ae) Ae)<|La (vv 0) Ae)<|Ah (Bw (Bc FP (Ar A0 (vv 0) Ae) Ae<|nomark _) (Ah (Aq (i:=2) Rj.nd rfl oI<|Bb Hm (Ar A0 (vv 0) Ae)<|vv 1)<|Ah (Ip (Bb Zs (Ar A0 (vv 0) Ae)<|vv 1)<|La (vv 0) Ae)<|Aj<|Ay<|vv 2) A8)<|Ah (Aq (i:=3) Rj.nd rfl oI Ae)<|Ah (Bw (Bc Io (Ar A0 (vv 0) Ae) (Aw Br rfl N aA<|Aa (Ar A0 (vv 0) Ae) Ad)<|nomark _) (Ah (Aq (i:=3) Rj.nd rfl oI<|Ar A0 (Ar A0 (vv 0) Ae)<|Ar A0 (vv 0) Ae)<|Ah (Ip (Bb A5 (Ar A0 (vv 0) Ae) Ae)<|La (vv 0) Ae)<|Aj<|Bw (Bc ZR (vv 3) (Bb SO Ae Ae)<|nomark _) (Ah (Ip (Bb Zs (vv 3)<|vv 1)<|La (vv 0) Ae)<|Aj<|Ay<|Bb Hm (vv 3)<|vv 1) A8)<|Aj<|Bw (Bc FP (Aw Br rfl N aA<|Aa (Ar A0 (vv 0) Ae) Ad) Ae<|nomark _) (Aj<|Aq (i:=3) Rj.nd rfl oI<|Ar A0 (Ar A0 (vv 0) Ae)<|Bb Hm (Ar A0 (vv 0) Ae)<|Aw Br rfl N aA<|Aa (Ar A0 (vv 0) Ae) Ad) A8)<|Ah (Aq (i:=4) Rj.nd rfl oI<|Bb Hm (Bb A5 (Bb A5 (Bb Nf (Bb Hm (vv 3) Ae) Ae)<|Bb Nf Ae<|Ar A0 (vv 0) Ae) Ae) Ae)<|Ah (Aq (i:=4) Rj.nd rfl oI<|Bb Hm (Bb A5 (Bb Nf (vv 4)<|vv 4)<|Bb Nf Ae<|Ar A0 (vv 0) Ae) Ae)<|Ah (Aq (i:=4) Rj.nd rfl oI<|Bb Hm (Bb A5 (Bb Nf (vv 4) Ae) Ae) Ae)<|Aj<|Ay<|Bb Hm (Bb Hm (Bb Nf (vv 4)<|vv 4) Ae)<|vv 1),?_⟩
 rintro S O R _ ⟨a,l,p,rfl,⟨z,t,j,k,C⟩,G,h1,q⟩;refine An (λg b=>g=[oE a,oF p,none,none,none]/\PotAt b a l z (t+1) j k/\Bh a l O b) (λZ o=>?_) ?_;exact Ab C.ha<|Ab rfl<|Ab C.ha<|Ab rfl<|o _ _ ⟨rfl,C.to C.n0,Bh.refl.a⟩;rintro g r ⟨rfl,e,B⟩;have T:=e.n0;refine An (λg b=>g=[oE a,oF p,none,none,none]/\r=b) (λZ o=>?_) ?_;refine Ab e.ha<|Ab rfl<|dif (λc=>?_) λc=>o _ _ ⟨rfl,rfl⟩;refine Ab e.ha (Ab rfl ⟨(by show(0:Int)<_;omega),Ab e.ha<|Ab rfl ⟨⟨by omega,by omega⟩,Ab e.ha<|Ab rfl ⟨_,Sub.refl,?_⟩⟩⟩);refine Vm (Q:=λi=>R (.D<|.int i) _) G λv hv=>?_;exact q v _ hv ⟨z / p,t+1,j,k,e.to<|Int.ediv_nonneg T<|by omega⟩ B.a;rintro g _ ⟨rfl,rfl⟩;refine Ci ?_;refine An (λg b=>∃(h:Int) (j:Nat),g=[oE a,oF p,none,oF h,none]/\PotAt b a l z (t+1) j k/\Bh a l O b) (λZ o=>?_) ?_
 ·refine Ab e.ha<|Ab rfl<|Ab e.ha<|Ab rfl<|Ab e.hl<|dif (λc=>?_) λc=>?_;have X:j<k.length:=by rw[B_]at c;omega
  have hx:(k.map Xt)[j]?=some (Xt k[j]):=by rw[F_,D_ X];rfl
  refine Ab e.ha<|Ab rfl<|Ab e.ha<|Ab rfl<|Ab e.hl<|Ab (Ak hx)<|Ab e.ha<|Ab rfl<|Ab e.ha<|Ab rfl ?_;have y:PotAt (Am r a<|stM l z (t+1)<|j+1) a l z (t+1) (j+1) k:=e.to T;refine⟨⟨by decide,by decide,by decide⟩,dif (λc2=>?_) λc2=>o _ _ ⟨_,j+1,rfl,y,B.a⟩⟩;refine⟨⟨by omega,by omega⟩,Ab y.ha<|Ab rfl ⟨(by show(0:Int)<_;omega),_,Sub.refl,?_⟩⟩;have U:0<=k[j]:=by
   have I:(0:Int)<=10^(18:Int).toNat:=by decide
   exact Int.le_trans I c2
  refine Vm (Q:=λi=>R (.D<|.int i) _) G λv hv=>?_;exact q v _ hv ⟨k[j] / p,t+1,j+1,k,y.to<|Int.ediv_nonneg U<|by omega⟩ B.a.a
  ·refine Ab e.ha<|Ab rfl<|Ab e.hl<|dif (λc2=>?_) λc2=>o _ _ ⟨7,j,rfl,e,B⟩;refine Ab e.ha<|Ab rfl<|Ab e.ha<|Ab rfl<|Ab e.ha<|Ab rfl<|Ab e.hl ⟨c2,?_⟩;have W:0<(k.map Xt).length:=by omega
   refine Vm (x:=((t+1:Nat):Int)) (Q:=λi=>opt (r l) λm=>match m with
    |.lst S=>opt (atI S i) λv=>Z [oE a,oF p,none,some v,none] r
    |_=>False) W λv hv=>?_
   rw[B_]at hv;refine Ab e.hl<|Ab (Ak (v:=Xt k[v])<|by rw[F_,D_ hv];rfl)<|o _ _ ⟨k[v],j,rfl,e,B⟩
 rintro g u ⟨h,J,rfl,y,Y⟩;refine An (λg b=>∃d:Int,g=[oE a,oF p,none,oF h,oF d]/\u=b/\0<=d/\d<2147483648) (λZ o=>?_) ?_;exact⟨(by show(0:Int)<_;decide),.inr ⟨by decide,by decide⟩,Ab y.ha<|Ab rfl ⟨.inl ⟨by decide,by decide⟩,(by show(0:Int)<_;decide),o _ _ ⟨_,rfl,rfl,CM _<|by decide,CN _ (by decide)<|by decide⟩⟩⟩;rintro g _ ⟨d,rfl,rfl,o0,o1⟩;refine An (λg b=>∃d:Int,g=[oE a,oF p,none,oF h,oF d]/\u=b/\0<=d/\d<2147483648) (λZ o=>?_) ?_;exact⟨.inl ⟨by omega,by omega⟩,Ab y.ha<|Ab rfl ⟨.inl ⟨by decide,by decide⟩,(by show(0:Int)<_;decide),o _ _ ⟨_,rfl,rfl,CM _<|by decide,CN _ (by decide)<|by decide⟩⟩⟩;rintro g _ ⟨V,rfl,rfl,t0,t1⟩;refine An (λg b=>∃d:Int,g=[oE a,oF p,none,oF h,oF d]/\u=b/\0<=d/\d<2147483648) (λZ o=>?_) ?_;exact⟨.inr ⟨by decide,by decide⟩,(by show(0:Int)<_;decide),o _ _ ⟨_,rfl,rfl,CM _<|by decide,CN _ (by decide)<|by decide⟩⟩;rintro g _ ⟨L,rfl,rfl,r0,r1⟩;refine⟨.inl ⟨by omega,by omega⟩,(by show(0:Int)<_;decide),(by show(0:Int)<_;omega),_,Sub.refl,?_⟩;exact Vm (Q:=λi=>R (.D<|.int i) _) G λv hv=>q v _ hv ⟨z,t+1,J,k,y⟩ Y
def Cr(ns:oA Nat):kL:=.tuple<|ns.map λ(n:Nat)=>.int n
theorem Vn{a:Type} [DecidableEq a]:∀{xs ys:oA a},xs.Nodup->(∀x∈xs,x∈ys)->xs.length<=ys.length
 |[],_,_,_=>aU _
 |x::xs,ys,c,h=>by have hx:=h x V_;obtain⟨d,b⟩:=eB.mp c;have:=Vn (xs:=xs) (ys:=ys.erase x) b λz hz=>(List.mem_erase_of_ne<|by rintro rfl;exact d hz).mpr<|h z<|K_ _ hz;rw[List.length_erase_of_mem hx]at this;have hp:0<ys.length:=iE hx;simp only[List.length_cons];omega
def CO{κ:Type} [DecidableEq κ](k i:κ)(v:AV):∀(c:oA<|κ×AV),C2 (Iq c k v) i=if i=k then some v else C2 c i:=by
 intro c;unfold Iq;split
 ·rename_i h
  induction c with
  |nil=>simp at h
  |cons d c l=>
   rw[bF];by_cases e:d.1=k;rw[R_ e];by_cases g:i=k;rw[R_ g,g,e];exact Gv;rw[N_ g];obtain⟨a,b⟩:=d;have n:a=k:=e;subst n;rw[Fx<|dA g,Fx<|dA g];by_cases h2:(c.any λd=>decide (d.1=a))=true;rw[l h2,N_ g];congr 1;refine(eE λz hz=>?_).trans<|kI c;rw[N_]
   rfl
   intro m;exact h2<|List.any_eq_true.mpr ⟨z,hz,aN m⟩;rw[N_ e];obtain⟨a,b⟩:=d;have h2:(c.any λd=>decide (d.1=k))=true:=by rw[dL,aF e,Bool.false_or]at h;exact h
   by_cases j:a=i;subst j;rw[Gv,N_ e];exact Gv.symm;rw[Fx j,Fx j,l h2]
 ·rename_i h
  induction c with
  |nil=>by_cases g:i=k;rw[R_ g,g];exact Gv;rw[N_ g];show C2 ((k,v)::[]) i=_;rw[Fx<|dA g]
  |cons d c l=>
   obtain⟨a,b⟩:=d;have h1:a≠k:=by intro z;apply h;rw[dL,aN z];rfl
   have h2:¬(c.any λd=>decide (d.1=k))=true:=by intro z;apply h;rw[dL,z,Bool.or_true]
   show C2 ((a,b)::(c++[(k,v)])) i=_;by_cases j:a=i;subst j;rw[Gv,N_ h1];exact Gv.symm;rw[Fx j,l h2,Fx j]
def B4{a:M}(ns:oA Nat):items a (.D<|Cr ns)=some (ns.map λ(n:Nat)=>.D<|.int n):=by show some ((ns.map λ(n:Nat)=>PyData.int n).map AV.D)=_;rw[aJ];rfl
def Kj{ns:oA Nat}:PyData.canLayAll0 (ns.map λ(n:Nat)=>.int n)=true/\PyData.depthAll (ns.map λ(n:Nat)=>.int n)<=1:=by
 induction ns with
 |nil=>exact⟨rfl,by simp[PyData.depthAll]⟩
 |cons n ns a=>simp only[List.map_cons,PyData.canLayAll0,PyData.depthAll,a.1,Bool.and_true];refine⟨rfl,?_⟩;have:=a.2;simp only[PyData.depth];omega
def Nz{ns:oA Nat}:Bz (Cr ns):=⟨by simp only[Cr,PyData.canLay0];exact Kj.1,by have:=(Kj (ns:=ns)).2;simp only[Cr,PyData.depth];omega⟩
def L8{κ:Type} [DecidableEq κ](a:oA<|κ×AV)(k:κ)(v:AV):(Iq a k v).length<=a.length+1:=by unfold Iq;split;rw[B_];omega;rw[J_];exact H_ _
def B6(n:Nat):AV:=.D<|.int n
def En(ns:oA Nat):dats (ns.map B6)=some (ns.map λ(n:Nat)=>.int n):=by rw[show ns.map B6=(ns.map λ(n:Nat)=>PyData.int n).map .D by rw[aJ];rfl];exact Cw _
theorem Jd:∀(ns:oA Nat),Av (ns.map λ(n:Nat)=>.int n)=true
 |[]=>rfl
 |n::ns=>by simp only[List.map_cons,Av,Cano,Jd ns,Bool.and_self]
theorem Rk:∀(a ns:oA Nat),cmpbs (a.map λ(n:Nat)=>.int n) (ns.map λ(n:Nat)=>.int n)=true
 |[],_=>by simp only[List.map_nil,cmpbs]
 |_::_,[]=>by simp only[List.map_nil,List.map_cons,cmpbs]
 |m::a,n::ns=>by simp only[List.map_cons,cmpbs,cmpb,Rk a ns,ite_self]
def Ag(z:Str):AV:=.D<|.str z
def Vo{z:Str}(h:lets z):PyData.canLay0 (.str z)=true:=by show PyData.strOk z=true;unfold PyData.strOk;rw[Array.all_eq_true];intro i a;have:=h z.cps[i] (by simp);simp;omega
def Je{z:Str}(h:lets z):Bz (.str z):=Gm<|Vo h
def Eo(zs:oA Str):dats (zs.map Ag)=some (zs.map PyData.str):=by rw[show zs.map Ag=(zs.map PyData.str).map .D by rw[aJ];rfl];exact Cw _
theorem Dd:∀(zs:oA Str),txts (zs.map Ag)=some zs
 |[]=>rfl
 |z::zs=>by simp only[List.map_cons,Ag,txts,Option.map_eq_some_iff];exact⟨zs,Dd zs,rfl⟩
def HE:∀i:Fin 26,∃c,("abcdefghijklmnopqrstuvwxyz" : Str).cps.toList[i.val]?=some c/\97<=c/\c<=122:=by decide +kernel
def CP{v:Nat}(h:v<26):∃c,atI ("abcdefghijklmnopqrstuvwxyz" : Str).cps.toList (v:Int)=some c/\97<=c/\c<=122:=by obtain⟨c,e,h1⟩:=HE ⟨v,h⟩;exact⟨c,Ak e,h1⟩
def Rl{c:Nat}(h:97<=c/\c<=122):lets ⟨#[c]⟩:=λd hd=>by
 have:d=c:=by simpa using hd
 rw[this];exact h
def CQ:("abcdefghijklmnopqrstuvwxyz" : Str).length<=sizeLine:=by decide +kernel
def CS:("" : Str).length=0:=by decide +kernel
def B3(x y:Str):(x++y).length=x.length+y.length:=by rw[Dq,Dq,Dq,O0,J_]
theorem Rm:∀{zs:oA Str},(∀z∈zs,z.length=1)->(zs.map (·.length)).sum=zs.length
 |[],_=>rfl
 |z::zs,h=>by simp only[List.map_cons,List.sum_cons,List.length_cons];rw[h z V_,Rm λy hy=>h y<|K_ _ hy];omega
def Xv(zs:oA Str):(Txt.join "" zs).length=(zs.map (·.length)).sum:=by
 show(PySem.Builtin.Str.glued "" zs).length=_;rw[dD]
 induction zs with
 |nil=>rfl
 |cons x zs a=>
  cases zs with
  |nil=>simp[Str.join]
  |cons y zs=>have e:Str.join "" (x::y::zs)=x ++ "" ++ Str.join "" (y::zs):=rfl;rw[e,B3,B3,CS,a];simp
abbrev C5:oA Str:=["place","letter","rule","own","arrow","ends","one","other"]
def Xw:Bz (.tuple<|C5.map PyData.str):=⟨by decide +kernel,by decide +kernel⟩
def Qaq{x:AV}{i:Nat}{u:AS}{k:ASt->M->Prop}{r:AV->M->Prop}{b c:ASt->M->Prop}{d:ASt}{a:M}(h:u k r b c (d.set i<|some x) a):Zw (Mp (vC x)<|Db i) u k r b c d a:=h
def N0{zs:oA Str}(h:∀z∈zs,lets z):Bz (.tuple<|zs.map PyData.str):=by
 have h2:PyData.canLayAll0 (zs.map PyData.str)=true/\PyData.depthAll (zs.map PyData.str)=0:=by
  induction zs with
  |nil=>exact⟨rfl,rfl⟩
  |cons z zs c=>obtain⟨a,b⟩:=c λy hy=>h y<|.tail _ hy;have:=Vo<|h z<|.head _;simp only[List.map_cons,PyData.canLayAll0,PyData.depthAll,PyData.depth,a,b,this];exact⟨rfl,rfl⟩
 exact⟨by simp only[PyData.canLay0];exact h2.1,by simp only[PyData.depth,h2.2];decide⟩
def O6(zs:oA Str)(z:Str):((zs.map PyData.str).any λe=>PyData.eqv e<|.str z)=decide (z∈zs):=by rw[gK,List.any_eq_true,gT];constructor;rintro⟨e,he,h⟩;obtain⟨y,hy,rfl⟩:=M_.mp he;rw[Hu rfl rfl,gT]at h;cases h;exact hy;intro h;exact⟨.str z,M_.mpr ⟨z,h,rfl⟩,by rw[Hu rfl rfl];exact aN rfl⟩
def Rn(z:Str):Bool:=z.cps.toList.all λc=>decide (97<=c)&&decide (c<=122)
def Kk{z:Str}(h:Rn z=true):lets z:=λc hc=>by have:=aV.mp h c hc;simpa using this
structure KW(z:Str):Prop where
 l:lets z
 n:z.length<=6
 l1:lets (Txt.slice z (some 1) none)
 n1:(Txt.slice z (some 1) none).length<=5
 l2:lets (Txt.slice z none<|some<|-1)
 n2:(Txt.slice z none<|some<|-1).length<=5
def OJ:(C5.all λz=>Rn z&&decide (z.length<=6)&&Rn (Txt.slice z (some 1) none)&&decide ((Txt.slice z (some 1) none).length<=5)&&Rn (Txt.slice z none<|some<|-1)&&decide ((Txt.slice z none<|some<|-1).length<=5))=true:=by decide +kernel
def UF{v:Nat}(h:v<8):∃z,(C5.map Ag)[v]?=some (Ag z)/\KW z:=by have hv:v<C5.length:=h;refine⟨C5[v],by rw[F_,D_ hv];rfl,?_⟩;have:=aV.mp OJ C5[v]<|aL hv;simp only[Bool.and_eq_true,decide_eq_true_iff]at this;obtain⟨⟨⟨⟨⟨a,b⟩,c⟩,d⟩,e⟩,f⟩:=this;exact⟨Kk a,b,Kk c,d,Kk e,f⟩
def spq(c:Nat):Str:=(⟨#[c]⟩:Str) ++ "q"
def OK:(("abcdefghijklmnopqrstuvwxyz" : Str).cps.toList.map spq).Nodup:=by decide +kernel
def OL:(("abcdefghijklmnopqrstuvwxyz" : Str).cps.toList.all λc=>Rn (spq c)&&decide ((spq c).length<=6)&&decide (spq c∉C5))=true:=by decide +kernel
def CT:("abcdefghijklmnopqrstuvwxyz" : Str).cps.toList.length=26:=by decide +kernel
structure Nms(zs:oA Str):Prop where
 l:∀z∈zs,lets z
 n:∀z∈zs,z.length<=6
 k:∀z∈zs,z∉C5
 nd:zs.Nodup
def Nms.add{zs:oA Str}{z:Str}(h:Nms zs)(h1:lets z)(h2:z.length<=6)(d:z∉C5)(c:z∉zs):Nms (zs++[z]):=by refine⟨λy hy=>?_,λy hy=>?_,λy hy=>?_,?_⟩;rcases U_.mp hy with hy|hy;exact h.l y hy;rw[Y_.mp hy];exact h1;rcases U_.mp hy with hy|hy;exact h.n y hy;rw[Y_.mp hy];exact h2;rcases U_.mp hy with hy|hy;exact h.k y hy;rw[Y_.mp hy];exact d;refine jV.mpr ⟨h.nd,eB.mpr ⟨by simp,fS⟩,λa ha b hb=>?_⟩;rw[Y_.mp hb];rintro rfl;exact c ha
abbrev nNa:oA Str:=["_law_state","_law_many","_law_letters","_law_kept","_law_found","_law_k","_law_word_here","_law_form","_law_name"]
def L9:FnScope nNa oK (Ai JN):=⟨rfl,rfl,rfl,by decide +kernel,rfl,by decide +kernel,by decide +kernel⟩
def UG:(qQ:oA Str).Nodup:=by decide +kernel
def UH:(["_law_letter","_law_found"]:oA Str).Nodup:=by decide +kernel
def UI:ASp:=λd c R=>∃(a l:kM) (b:Nat),d=[.R a,.D<|.int b]/\b<=8/\Pot c a l/\∀(zs:oA Str) (p:kM) μ',zs.length=b->Nms zs->c p=none->μ' p=oH (zs.map Ag)->Pot μ' a l->Bh a l c μ'->R (.R p) μ'
def UJ{n:Nat}(F:Fun K "_law_names" "_law_names" JN f fd) (bp:VCal P w K mg base n "_law_draw" oK L7) (ak:mg "range" = none) (ah:mg "len" = none):FnOk P w K mg base Ez (n+1) f fd oK (G6 K 2 UI):=by
 refine F.vok L9 λav A outer s H E Q=>⟨_,(Ah (Aq (i:=2) L9.nd rfl oJ Ap)<|Ah (Aq (i:=3) L9.nd rfl oI<|Cb<|Aa Ap<|Aa Ap<|Aa Ap<|Aa Ap<|Aa Ap<|Aa Ap<|Aa Ap<|Aa Ap Ad)<|Ah (Aq (i:=4) L9.nd rfl oJ<|Cb Ad)<|Ah (Di cD rfl (Co rfl ak<|Aa (vv 1) Ad) (Ax (i:=5) L9.nd rfl oI)<|Ah (Aq (i:=6) L9.nd rfl oI<|Ar A0 (vv 3)<|Al bp Q rfl<|Aa (vv 0)<|Aa Ae Ad)<|Ah (Aq (i:=7) L9.nd rfl oI<|Al bp Q rfl<|Aa (vv 0)<|Aa Ae Ad)<|Ah (Aq (i:=8) L9.nd rfl oI<|Es bH bI D7 Ap<|Aa (B2 (N':=qQ) (mp:=[none,some 2,some 0]) rfl (Co rfl ak<|Aa (Bb A5 Ae<|Al bp Q rfl<|Aa (vv 0)<|Aa Ae Ad) Ad) (λ_ _ _ _=>(Ax (i:=0) UG rfl oI oJ)) (λ_ _ _ _=>Bu) (λ_ _ _ _=>(Ar A0 (vv 1)<|Al bp Q rfl<|Aa (vv 2)<|Aa Ae Ad))<|Bg (N:=nNa) (pn:=(Ai JN).names)<|by decide +kernel) Ad)<|Ah (Bw (VW.pt<|Sr (Bc (Gj Q) (vv 7) Ae<|nomark _)<|Op<|Bc Io (Aw Br rfl ah aA<|Aa (vv 6) Ad) Ae<|nomark _) (Aj<|Aq (i:=8) L9.nd rfl oI<|Bb A5 (vv 6)<|Ar A0 (vv 2)<|Al bp Q rfl<|Aa (vv 0)<|Aa Ae Ad) A8)<|Ah (Bw (Bc (Gj Q) (vv 7) Ae<|nomark _) (Aj<|Aq (i:=8) L9.nd rfl oI<|Ar A0 (Cb<|Aa (B9 (vv 6) (Cf Ae) Bn)<|Aa (B9 (vv 6) Bn<|Cf<|Hd Ae) Ad)<|Al bp Q rfl<|Aa (vv 0)<|Aa Ae Ad) A8)<|Ah (Bw (VW.pt<|Df (Bc (SL Q) (vv 8) (vv 3)<|by with_unfolding_all rfl)<|D6<|Bc (SL Q) (vv 8) (vv 4)<|by with_unfolding_all rfl) (Aj<|Aq (i:=8) L9.nd rfl oI<|Ar A0 (B2 (N':=["_law_letter","_law_found"]) (mp:=[none,some 4]) rfl (NX<|vv 2) (λ_ _ _ _=>(Ax (i:=0) UH rfl oI oJ)) (λ_ _ _ _=>(Gk<|Bc (Kg Q) (Bb A5 (vv 0) Ap) (vv 1)<|by with_unfolding_all rfl)) (λ_ _ _ _=>(Bb A5 (vv 0) Ap))<|Bg (N:=nNa) (pn:=(Ai JN).names)<|by decide +kernel) Ae) A8)<|Aj<|Et<|Jn bW bX Dv (vv 4)<|Aa (vv 8) Ad)<|Aj<|Ay<|vv 4),?_⟩
 rintro xs O R _ ⟨a,l,C,rfl,hm,hP,q⟩;refine Qaq<|An (λg d=>∃e,g=[oE a,oF C,some<|Ag "abcdefghijklmnopqrstuvwxyz",oE e,none,none,none,none,none]/\O e=none/\d e=oH (C5.map Ag)/\Pot d a l/\Bh a l O d) (λZ hZ=>λe xg=>hZ _ _ ⟨e,rfl,xg,Ac,hP.new xg,Bh.refl.new xg⟩) ?_;rintro g μ1 ⟨e,rfl,xg,e1,P1,S1⟩;intro m i6;have J:=hP.ne xg;have B:=P1.ne i6;have jy:O m=none:=S1.none B.1 B.2 i6;have hkf:e≠m:=by rintro rfl;rw[e1]at i6;cases i6
 refine An (λg d=>∃o5 o6 o7 Y p,g=[oE a,oF C,some<|Ag "abcdefghijklmnopqrstuvwxyz",oE e,oE m,o5,o6,o7,Y]/\p.length=C/\Nms p/\d m=oH (p.map Ag)/\Pot d a l/\Bh a l O d) (λZ hZ=>?_) ?_
 ·refine⟨by omega,by omega,?_⟩;have aj:(Ea 0 (C:Int).toNat).length=C:=by rw[Bv];omega
  refine Fe (λi g d=>∃o5 o6 o7 Y p,g=[oE a,oF C,some<|Ag "abcdefghijklmnopqrstuvwxyz",oE e,oE m,o5,o6,o7,Y]/\p.length=i/\Nms p/\d m=oH (p.map Ag)/\d e=oH (C5.map Ag)/\Pot d a l/\Bh a l O d) ⟨none,none,none,none,[],rfl,rfl,⟨(λ_ z=>nomatch z),(λ_ z=>nomatch z),(λ_ z=>nomatch z),fS⟩,Ac,by rw[Af hkf];exact e1,P1.new i6,S1.new i6⟩ (λ_ _ _ _=>trivial) ?_ ?_
  ·rintro i y g μ2 Z2 hy ⟨o5,o6,o7,Y,p,rfl,hn,hz,e2,k2,P2,S2⟩ bu;have hi:i<C:=by rw[<- aj];exact(E_.mp hy).1
   have ey:=Eg _ _ _ hy;subst ey;refine An (λg d=>∃I,g=[oE a,oF C,some<|Ag "abcdefghijklmnopqrstuvwxyz",oE e,oE m,oF<|0+(i:Int),some<|Ag I,o7,Y]/\KW I/\d m=oH (p.map Ag)/\d e=oH (C5.map Ag)/\Pot d a l/\Bh a l O d) (λZ3 u=>?_) ?_;refine⟨a,l,8,rfl,P2,by decide,by decide,λv μ3 hv P3 S3=>?_⟩;obtain⟨z,ez,kz⟩:=UF hv;have k3:=S3 e _ J.1.symm J.2.symm k2;exact Ab k3<|Ab (Ak ez)<|u _ _ ⟨z,rfl,kz,S3 m _ B.1.symm B.2.symm e2,k3,P3,S2.trans S3⟩;rintro g μ3 ⟨I,rfl,kw,e3,k3,P3,S3⟩;have ic:I.length<=sizeLine:=Q_ kw.n (by decide);refine An (λg d=>∃fm:Nat,g=[oE a,oF C,some<|Ag "abcdefghijklmnopqrstuvwxyz",oE e,oE m,oF<|0+(i:Int),some<|Ag I,oF fm,Y]/\d m=oH (p.map Ag)/\d e=oH (C5.map Ag)/\Pot d a l/\Bh a l O d) (λZ3 u=>?_) ?_;exact⟨a,l,6,rfl,P3,by decide,by decide,λv μ4 hv P4 S4=>u _ _ ⟨v,rfl,S4 m _ B.1.symm B.2.symm e3,S4 e _ J.1.symm J.2.symm k3,P4,S3.trans S4⟩⟩;rintro g μ4 ⟨fm,rfl,e4,k4,P4,S4⟩;refine An (λg d=>∃r:Str,g=[oE a,oF C,some<|Ag "abcdefghijklmnopqrstuvwxyz",oE e,oE m,oF<|0+(i:Int),some<|Ag I,oF fm,some<|Ag r]/\lets r/\r.length<=6/\d m=oH (p.map Ag)/\d e=oH (C5.map Ag)/\Pot d a l/\Bh a l O d) (λZ3 u=>?_) ?_;refine⟨trivial,a,l,6,rfl,P4,by decide,by decide,λc μ5 hc P5 S5=>⟨by omega,by omega,λpl t=>?_⟩⟩;have jp:=P5.ne t;have e5:=S5 m _ B.1.symm B.2.symm e4;have k5:=S5 e _ J.1.symm J.2.symm k4;have hlf:m≠pl:=by rintro rfl;rw[e5]at t;cases t
   have hlk:e≠pl:=by rintro rfl;rw[k5]at t;cases t
   have ph:(Ea 0 (1+(c:Int)).toNat).length=1+c:=by rw[Bv];omega
   refine E8 (λj ai g d=>∃(o:oB AV) (ys:oA Str),g=[o,some<|Ag "abcdefghijklmnopqrstuvwxyz",oE a]/\ai=ys.map Ag/\ys.length=j/\(∀z∈ys,lets z/\z.length=1)/\d pl=oH ai/\d m=oH (p.map Ag)/\d e=oH (C5.map Ag)/\Pot d a l/\Bh a l μ5 d) ⟨none,[],rfl,rfl,rfl,(λ_ z=>nomatch z),Ac,by rw[Af hlf];exact e5,by rw[Af hlk];exact k5,P5.new t,Bh.refl.new t⟩ (λ_ _ _ _ _=>trivial) ?_ ?_;rintro j x ai g S Z4 hx ⟨o,ys,rfl,rfl,hyl,hb,l6,e6,k6,U,T⟩ j7;refine Fd rfl ⟨a,l,26,rfl,U,by decide,by decide,λv μ7 hv L G=>?_⟩;have l7:=G pl _ jp.1.symm jp.2.symm l6;obtain⟨ch,ec,i7⟩:=CP hv;have hj:j<1+c:=by rw[<- ph];exact(E_.mp hx).1
   refine⟨CQ,Ab ec ⟨l7,Bm<|by rw[B_];omega,j7 _ _ _ ⟨_,ys++[⟨#[ch]⟩],rfl,by rw[P_];rfl,by rw[J_,hyl];rfl,λz V=>?_,Ac,by rw[Af hlf];exact G m _ B.1.symm B.2.symm e6,by rw[Af hlk];exact G e _ J.1.symm J.2.symm k6,L.other jp.1 jp.2,(T.trans G).put t⟩⟩⟩;rcases U_.mp V with h|h;exact hb z h;rw[Y_.mp h];exact⟨Rl i7,rfl⟩;rintro ai g S ⟨o,ys,rfl,rfl,hyl,hb,l6,e6,k6,U,T⟩;rw[ph]at hyl;have ww:=Rm λz V=>(hb z V).2;refine Ab l6<|Ab (Dd ys) ⟨?_,u _ _ ⟨Txt.join "" ys,rfl,Xg λz V=>(hb z V).1,?_,e6,k6,U,S4.trans<|S5.trans T⟩⟩;rw[ww,CS];omega;rw[Xv,ww];omega;rintro g μ5 ⟨nm0,rfl,ln0,xj,e5,k5,P5,S5⟩;refine An (λg d=>∃r:Str,g=[oE a,oF C,some<|Ag "abcdefghijklmnopqrstuvwxyz",oE e,oE m,oF<|0+(i:Int),some<|Ag I,oF fm,some<|Ag r]/\lets r/\r.length<=6/\d m=oH (p.map Ag)/\d e=oH (C5.map Ag)/\Pot d a l/\Bh a l O d) (λZ3 u=>?_) ?_;refine ieq (λc=>⟨ic,dif (λc2=>?_) λc2=>u _ _ ⟨nm0,rfl,ln0,xj,e5,k5,P5,S5⟩⟩) λc=>J9 rfl<|u _ _ ⟨nm0,rfl,ln0,xj,e5,k5,P5,S5⟩;refine⟨a,l,26,rfl,P5,by decide,by decide,λv S hv U T=>?_⟩;obtain⟨ch,ec,i7⟩:=CP hv;have l1:(I++(⟨#[ch]⟩:Str)).length=I.length+1:=by rw[B3];rfl
   refine⟨CQ,Ab ec ⟨?_,u _ _ ⟨_,rfl,Lw kw.l<|Rl i7,by rw[l1];omega,T m _ B.1.symm B.2.symm e5,T e _ J.1.symm J.2.symm k5,U,S5.trans T⟩⟩⟩;show I.length+1<=sizeLine;exact Q_ (show _<=10 by have:=kw.n;omega) (by decide);rintro g S ⟨nm1,rfl,ln1,hn1,e6,k6,U,T⟩;refine An (λg d=>∃r:Str,g=[oE a,oF C,some<|Ag "abcdefghijklmnopqrstuvwxyz",oE e,oE m,oF<|0+(i:Int),some<|Ag I,oF fm,some<|Ag r]/\lets r/\r.length<=6/\d m=oH (p.map Ag)/\d e=oH (C5.map Ag)/\Pot d a l/\Bh a l O d) (λZ3 u=>?_) ?_;refine ieq (λc=>?_) λc=>u _ _ ⟨nm1,rfl,ln1,hn1,e6,k6,U,T⟩;refine⟨ic,ic,λp2 ax=>⟨a,l,2,rfl,U.new ax,by decide,by decide,λv μ7 hv L G=>?_⟩⟩;have h2f:m≠p2:=by rintro rfl;rw[e6]at ax;cases ax
   have h2k:e≠p2:=by rintro rfl;rw[k6]at ax;cases ax
   have i5:=U.ne ax;refine Ab (G p2 _ i5.1.symm i5.2.symm Ac) ?_;have X:=G m _ B.1.symm B.2.symm (show Am S p2 _ m=_ by rw[Af h2f];exact e6);have k7:=G e _ J.1.symm J.2.symm (show Am S p2 _ e=_ by rw[Af h2k];exact k6);have S8:=(T.new ax).trans G;rcases(show v=0\/v=1 by omega) with rfl|rfl;exact Ab (Ak (j:=0) rfl)<|u _ _ ⟨_,rfl,kw.l1,fO kw.n1,X,k7,L,S8⟩;exact Ab (Ak (j:=1) rfl)<|u _ _ ⟨_,rfl,kw.l2,fO kw.n2,X,k7,L,S8⟩;rintro g μ7 ⟨r,rfl,ln,jp,X,k7,L,G⟩;refine An (λg d=>∃r:Str,g=[oE a,oF C,some<|Ag "abcdefghijklmnopqrstuvwxyz",oE e,oE m,oF<|0+(i:Int),some<|Ag I,oF fm,some<|Ag r]/\lets r/\r.length<=6/\r∉C5/\r∉p/\d m=oH (p.map Ag)/\d e=oH (C5.map Ag)/\Pot d a l/\Bh a l O d) (λZ3 u=>?_) ?_
   ·have ul:∀c∈("abcdefghijklmnopqrstuvwxyz" : Str).cps.toList,lets (spq c)/\(spq c).length<=6/\spq c∉C5:=λc hc=>by
     have:=aV.mp OL c hc;simp only[Bool.and_eq_true,decide_eq_true_iff]at this;exact⟨Kk this.1.1,this.1.2,this.2⟩
    have oi:Mp (Zm SR (Uq [none,some 4] (TQ<|K8 2) (Db 0) (Qh<|Zm (MS λb=>!b) (Zm Ss (K8 0)<|vC<|.D<|.str "q")<|K8 1)<|Zm Ss (K8 0)<|vC<|.D<|.str "q")<|vC<|.D<|.int 0) (Db 8) Z3 (PR R) Z Z2 [oE a,oF C,some<|Ag "abcdefghijklmnopqrstuvwxyz",oE e,oE m,oF<|0+(i:Int),some<|Ag I,oF fm,some<|Ag r] μ7:=by
     intro pq M;have zj:m≠pq:=by rintro rfl;rw[X]at M;cases M
     have hqk:e≠pq:=by rintro rfl;rw[k7]at M;cases M
     have lm:∀c:Nat,(⟨#[c]⟩:Str).length+("q" : Str).length<=sizeLine:=λc=>Q_ (show 1+1<=2 from H_ _) (by decide);refine cmapf ("abcdefghijklmnopqrstuvwxyz" : Str).cps.toList YB (λc=>!decide (spq c∈p)) (λc=>Ag<|spq c) (λg=>∃o,g=[o,oE m]) ⟨none,rfl⟩ Ac (by rw[CT];decide) (λ_=>trivial) ?_ ?_;rintro k c τ' ai W W2 hk ⟨o,rfl⟩ w1 w2;have hs:=ul c<|aB hk;refine⟨lm c,Ab rfl<|Ab (Ao<|by rw[Af zj,Af zj];exact X)<|Ab (Eo p) ⟨Je hs.1,N0 hz.l,?_⟩⟩;rw[O6];exact br (λc1=>⟨lm c,w1 c1 _ ⟨_,rfl⟩⟩) λc1=>w2 c1 _ ⟨_,rfl⟩
     ·cases hf:("abcdefghijklmnopqrstuvwxyz" : Str).cps.toList.filter (λc=>!decide (spq c∈p)) with
      |nil=>
       have gq:=List.filter_eq_nil_iff.mp hf;have:=El OK λz V=>by obtain⟨c,hc,rfl⟩:=M_.mp V;have:=gq c hc;simpa using this
       rw[B_,CT]at this;omega
      |cons c0 rest=>
       have hc0:c0∈("abcdefghijklmnopqrstuvwxyz" : Str).cps.toList.filter (λc=>!decide (spq c∈p)):=by rw[hf];exact .head _
       obtain⟨hm0,hn0'⟩:=jA.mp hc0;obtain⟨q1,q2,q3⟩:=ul c0 hm0;refine Ab Ac<|Ab (Ak (j:=0) rfl)<|u _ _ ⟨spq c0,rfl,q1,q2,q3,by simpa using hn0',by rw[Af zj,Af zj];exact X,by rw[Af hqk,Af hqk];exact k7,(L.new M).other (L.ne M).1 (L.ne M).2,(G.new M).put<|G.none (L.ne M).1 (L.ne M).2 M⟩
    refine Ab rfl<|Ab (Ao k7)<|Ab (Eo C5) ⟨Je ln,Xw,?_⟩;rw[O6];refine br (λc=>Fd rfl oi) λc=>?_;refine Ab rfl<|Ab (Ao X)<|Ab (Eo p) ⟨Je ln,N0 hz.l,?_⟩;rw[O6];exact br (λc2=>oi) λc2=>u _ _ ⟨r,rfl,ln,jp,fD c,fD c2,X,k7,L,G⟩
   rintro g μ8 ⟨nm',rfl,ln',hnl',cf,V,e8,k8,P8,S8⟩;exact⟨Ab e8 trivial,Ab e8 ⟨Bm<|by rw[B_];omega,bu _ _ ⟨_,_,_,_,p++[nm'],rfl,by rw[J_,hn];rfl,hz.add ln' hnl' cf V,by rw[Ac,P_];rfl,by rw[Af hkf];exact k8,P8.other B.1 B.2,S8.put jy⟩⟩⟩
  rintro g μ2 ⟨o5,o6,o7,Y,p,rfl,hn,hz,e2,k2,P2,S2⟩;rw[aj]at hn;exact hZ _ _ ⟨_,_,_,_,p,rfl,hn,hz,e2,P2,S2⟩
 rintro g μ2 ⟨o5,o6,o7,Y,p,rfl,hn,hz,e2,P2,S2⟩;exact⟨_,Sub.refl,q p m _ hn hz jy e2 P2 S2⟩
structure Rul where
 p:Nat
 x:Nat
 q:Nat
 w:oA Nat
def Hf(r:Rul):kL:=.tuple [.int r.p,.int r.x,.int r.q,Cr r.w]
def Dl(r:Rul):AV:=.D<|Hf r
structure RulOk(pl le:Nat)(r:Rul):Prop where
 p:r.p<pl
 x:r.x<le
 q:r.q<pl
 w:∀z∈r.w,z<le
 n:r.w.length<=2
theorem Ro:∀(ns:oA Nat),PyData.depthAll (ns.map λ(n:Nat)=>.int n)<=0
 |[]=>H_ _
 |n::ns=>by have:=Ro ns;simp only[List.map_cons,PyData.depthAll,PyData.depth];omega
def Tt(r:Rul):(Hf r).canLay0=true/\(Hf r).depth<=2/\Cano (Hf r)=true:=by have h1:=Kj (ns:=r.w);have h2:=Jd r.w;refine⟨?_,?_,?_⟩;simp only[Hf,Cr,PyData.canLay0,PyData.canLayAll0,h1.1,Bool.and_true];have:=h1.2;simp only[Hf,Cr,PyData.depth,PyData.depthAll];have e:PyData.depthAll (r.w.map λ(n:Nat)=>.int n)<=0:=Ro r.w;omega;simp only[Hf,Cr,Cano,Av,h2,Bool.and_true,Bool.true_and]
theorem O7:∀(B:oA Rul),PyData.canLayAll0 (B.map Hf)=true/\PyData.depthAll (B.map Hf)<=2/\Av (B.map Hf)=true
 |[]=>⟨rfl,by simp[PyData.depthAll],rfl⟩
 |a::B=>by obtain⟨h1,h2,d⟩:=Tt a;obtain⟨b,e,c⟩:=O7 B;simp only[List.map_cons,PyData.canLayAll0,PyData.depthAll,Av,h1,d,b,c,Bool.and_self,true_and,and_true];omega
def CU(a:Rul):Bz (Hf a):=⟨(Tt a).1,Q_ (Tt a).2.1 (by decide)⟩
def Xx(B:oA Rul):Bz (.tuple<|B.map Hf):=⟨by simp only[PyData.canLay0];exact(O7 B).1,by have:=(O7 B).2.1;simp only[PyData.depth];omega⟩
def Rp(B:oA Rul):dats (B.map Dl)=some (B.map Hf):=by rw[show(B.map Dl)=(B.map Hf).map .D by rw[aJ];rfl];exact Cw _
structure Gam where
 pl:oA (Str×Nat)
 le:oA Str
 rs:oA Rul
def Ga(p:Str×Nat):kL:=.tuple [.str p.1,.int p.2]
def Az(g:Gam):kL:=.tuple [.tuple<|g.pl.map Ga,.tuple<|g.le.map PyData.str,.tuple<|g.rs.map Hf]
structure GamOk(g:Gam)(nr:Nat):Prop where
 p0:0<g.pl.length
 p1:g.pl.length<=3
 l0:0<g.le.length
 l1:g.le.length<=3
 r1:g.rs.length<=nr
 hd:∀p∈g.pl,p.2<2
 pn:Nms (g.pl.map (·.1))
 ln:Nms g.le
 ru:∀r∈g.rs,RulOk g.pl.length g.le.length r
def fives:∀v:Fin 5,∃w,([0,0,1,1,2]:oA Nat)[v.val]?=some w/\w<=2:=by decide +kernel
abbrev QO:oA Str:=["_law_state","_law_most","_law_places","_law_letters","_law_rules","_law_k","_law_p","_law_x","_law_q","_law_size","_law_rule","_law_alike"]
def Kc:FnScope QO oU (Ai CL):=⟨rfl,rfl,rfl,by decide +kernel,rfl,by decide +kernel,by decide +kernel⟩
def UK:(["_law_name","_law_state"]:oA Str).Nodup:=by decide +kernel
def UL:(qR:oA Str).Nodup:=by decide +kernel
def UM:(["_law_rule"]:oA Str).Nodup:=by decide +kernel
def UN:(qT:oA Str).Nodup:=by decide +kernel
def UO:(qU:oA Str).Nodup:=by decide +kernel
def JQ(z:Str×Nat):AV:=.D<|Ga z
def Vp(L:oA<|Str×Nat):dats (L.map JQ)=some (L.map Ga):=by rw[show(L.map JQ)=(L.map Ga).map .D by rw[aJ];rfl];exact Cw _
def OM:ASp:=λc b R=>∃(a l:kM) (nr:Nat),c=[.R a,.D<|.int nr]/\nr<=10/\Pot b a l/\∀(g:Gam) μ',GamOk g nr->Pot μ' a l->Bh a l b μ'->R (.D<|Az g) μ'
def UP{n:Nat}(F:Fun K "_law_game" "_law_game" CL f fd) (bp:VCal P w K mg base n "_law_draw" oK L7) (cNa:VCal P w K mg base n "_law_names" oK UI) (al:mg "tuple" = none) (ak:mg "range" = none) (ah:mg "len" = none) (fy:mg "min" = none):FnOk P w K mg base Ez (n+1) f fd oU (G6 K 2 OM):=by
 refine F.vok Kc λav A outer s H E M=>⟨_,(Ah (Aq (i:=2) Kc.nd rfl oI<|Bi D9 rfl al bT<|Aa (B2 (N':=["_law_name","_law_state"]) (mp:=[none,some 0]) rfl (Cc<|Al cNa M rfl<|Aa (vv 0)<|Aa (Bb A5 Ae<|Al bp M rfl<|Aa (vv 0)<|Aa Ae Ad) Ad) (λ_ _ _ _=>(Ax (i:=0) UK rfl oI oJ)) (λ_ _ _ _=>Bu) (λ_ _ _ _=>(Cl<|Aa (vv 0)<|Aa (Al bp M rfl<|Aa (vv 1)<|Aa Ae Ad) Ad))<|Bg (N:=QO) (pn:=(Ai CL).names)<|by decide +kernel) Ad)<|Ah (Aq (i:=3) Kc.nd rfl oJ<|Bi D9 rfl al bT<|Aa (Al cNa M rfl<|Aa (vv 0)<|Aa (Bb A5 Ae<|Al bp M rfl<|Aa (vv 0)<|Aa Ae Ad) Ad) Ad)<|Ah (Aq (i:=4) Kc.nd rfl oI<|Cb Ad)<|Ah (Di cD rfl (Co rfl ak<|Aa (Al bp M rfl<|Aa (vv 0)<|Aa (Bb A5 (vv 1) Ae) Ad) Ad) (Ax (i:=5) Kc.nd rfl oI)<|Ah (Ip (B2 (N':=qR) (mp:=[none,some 0]) rfl (Cc<|Cl<|Aa (vv 2)<|Aa (vv 3)<|Aa (vv 2) Ad) (λ_ _ _ _=>(Ax (i:=0) UL rfl oI oJ)) (λ_ _ _ _=>Bu) (λ_ _ _ _=>(Al bp M rfl<|Aa (vv 1)<|Aa (Aw Br rfl ah aA<|Aa (vv 0) Ad) Ad))<|Bg (N:=QO) (pn:=(Ai CL).names)<|by decide +kernel)<|GU (n:=3) rfl<|Bx (Ax (i:=6) Kc.nd rfl oJ)<|Bx (Ax (i:=7) Kc.nd rfl oJ)<|Bx (Ax (i:=8) Kc.nd rfl oI) Eu)<|Ah (Aq (i:=9) Kc.nd rfl oI<|Ar A0 (Cb<|Aa Ae<|Aa Ae<|Aa Ae<|Aa Ae<|Aa Ae Ad)<|Al bp M rfl<|Aa (vv 0)<|Aa Ae Ad)<|Ah (Bw (Bc (Gj M) (Aw Br rfl ah aA<|Aa (B2 (N':=["_law_rule"]) (mp:=[none]) rfl (Cc<|vv 4) (λ_ _ _ _=>(Ax (i:=0) UM rfl oI oJ)) (λ_ _ _ _=>(Gk<|Bc (Gj M) (Aw Br rfl ah aA<|Aa (Ar A0 (vv 0) Ae) Ad) Ae<|nomark _)) (λ_ _ _ _=>(vv 0))<|Bg (N:=QO) (pn:=(Ai CL).names)<|by decide +kernel) Ad) Ae<|nomark _) (Aj<|Aq (i:=9) Kc.nd rfl oI<|Aw (MU rfl) rfl fy PyProof.Rows.boot_min<|Aa (vv 9)<|Aa Ae Ad) A8)<|Ah (Aq (i:=10) Kc.nd rfl oI<|Cl<|Aa (vv 6)<|Aa (vv 7)<|Aa (vv 8)<|Aa (Bi D9 rfl al bT<|Aa (B2 (N':=qT) (mp:=[none,some 0,some 3]) rfl (Co rfl ak<|Aa (vv 9) Ad) (λ_ _ _ _=>(Ax (i:=0) UN rfl oI oJ)) (λ_ _ _ _=>Bu) (λ_ _ _ _=>(Al bp M rfl<|Aa (vv 1)<|Aa (Aw Br rfl ah aA<|Aa (vv 2) Ad) Ad))<|Bg (N:=QO) (pn:=(Ai CL).names)<|by decide +kernel) Ad) Ad)<|Ah (Ov (i:=11) (N':=qU) (mp:=[none,some 6,some 7]) rfl Kc.nd rfl rfl (Cc<|vv 4) (λ_ _ _ _=>(Ax (i:=0) UO rfl oI oJ)) (λ_ _ _ _=>(Gk<|Bc (Gj M) (B9 (vv 0) Bn<|Cf Ae) (Cl<|Aa (vv 1)<|Aa (vv 2) Ad)<|nomark _)) (λ_ _ _ _=>(vv 0))<|Bg (N:=QO) (pn:=(Ai CL).names)<|by decide +kernel)<|Aj<|Bw (VW.pt<|Sr (Bc (Kg M) (vv 10) (vv 4)<|by with_unfolding_all rfl)<|Op<|VW.pt<|Df (Bc (Gj M) (Ar A0 (Ar A0 (vv 2)<|vv 6) Ae) Ae<|nomark _)<|D6<|Bc Io (Aw Br rfl ah aA<|Aa (vv 11) Ad) Ae<|nomark _) (Aj<|Et<|Jn bW bX Dv (vv 4)<|Aa (vv 10) Ad) A8)<|Aj<|Ay<|Cl<|Aa (vv 2)<|Aa (vv 3)<|Aa (Bi D9 rfl al bT<|Aa (vv 4) Ad) Ad),?_⟩
 rintro xs Y R _ ⟨a,l,nr,rfl,hnr,hP,q⟩;refine An (λd b=>∃(L:oA<|Str×Nat),d=[oE a,oF nr,oG<|.tuple<|L.map Ga,none,none,none,none,none,none,none,none,none]/\0<L.length/\L.length<=3/\(∀z∈L,z.2<2)/\Nms (L.map (·.1))/\Pot b a l/\Bh a l Y b) (λZ hZ=>?_) ?_;refine⟨a,l,3,rfl,hP,by decide,by decide,λv μ1 hv P1 S1=>⟨a,l,1+v,rfl,by omega,P1,λzs pz μ2 cj hN hpz e2 P2 S2=>Ab (Ao e2) λI g=>?_⟩⟩;have hnz:=P1.ne hpz;have J:=P2.ne g;have hzc:pz≠I:=by rintro rfl;rw[e2]at g;cases g
 refine E8 (λj G d b=>∃(o:oB AV) (L:oA<|Str×Nat),d=[o,oE a]/\G=L.map JQ/\L.map (·.1)=zs.take j/\(∀z∈L,z.2<2)/\b I=oH G/\b pz=oH (zs.map Ag)/\Pot b a l/\Bh a l μ2 b) ⟨none,[],rfl,rfl,rfl,(λ_ z=>nomatch z),Ac,by rw[Af hzc];exact e2,P2.new g,Bh.refl.new g⟩ (by rintro _ _ _ _ ⟨_,_,_,_,_,_,_,e,_⟩;exact Ao e) ?_ ?_;rintro j y G d μ3 Z2 hy ⟨o,L,rfl,rfl,hL,hb,e3,z3,P3,V⟩ bu;rw[F_]at hy;obtain⟨z,hz,rfl⟩:=W_.mp hy;have hj:j<zs.length:=(E_.mp hz).1;have hLl:L.length<=3:=by have:=cF List.length hL;rw[B_,aD]at this;omega
 refine Fd rfl ⟨a,l,2,rfl,P3,by decide,by decide,λh μ4 hh P4 S4=>?_⟩;refine⟨S4 I _ J.1.symm J.2.symm e3,Bm<|by rw[B_];omega,bu _ _ _ ⟨_,L++[(z,h)],rfl,by rw[P_];rfl,by rw[P_,hL,cW,hz];rfl,λy hy=>?_,Ac,by rw[Af hzc];exact S4 pz _ hnz.1.symm hnz.2.symm z3,P4.other J.1 J.2,(V.trans S4).put g⟩⟩;rcases U_.mp hy with hy|hy;exact hb y hy;rw[Y_.mp hy];exact hh;rintro G d μ3 ⟨o,L,rfl,rfl,hL,hb,e3,z3,P3,V⟩;rw[B_,cU]at hL;have hLl:L.length=1+v:=by have:=cF List.length hL;rw[B_]at this;omega
 exact Ab (Ao e3)<|Ab (Vp L)<|hZ _ _ ⟨L,rfl,by omega,by omega,hb,by rw[hL];exact hN,P3,(S1.trans S2).trans V⟩
 rintro d μ1 ⟨L,rfl,sk,hL3,hLh,hLn,P1,S1⟩;refine An (λd b=>∃(zs:oA Str),d=[oE a,oF nr,oG<|.tuple<|L.map Ga,oG<|.tuple<|zs.map PyData.str,none,none,none,none,none,none,none,none]/\0<zs.length/\zs.length<=3/\Nms zs/\Pot b a l/\Bh a l Y b) (λZ hZ=>?_) ?_;exact⟨a,l,3,rfl,P1,by decide,by decide,λv μ2 hv P2 S2=>⟨a,l,1+v,rfl,by omega,P2,λzs pz μ3 cj hN hpz e3 P3 V=>Ab (Ao e3)<|Ab (Eo zs)<|hZ _ _ ⟨zs,rfl,by omega,by omega,hN,P3,(S1.trans S2).trans V⟩⟩⟩;rintro d μ2 ⟨zs,rfl,hz0,hz3,hzn,P2,S2⟩;intro m i6;have J:=P2.ne i6;have jy:=S2.none J.1 J.2 i6;refine An (λd b=>∃o5 o6 o7 o8 o9 my X,∃B:oA Rul,d=[oE a,oF nr,oG<|.tuple<|L.map Ga,oG<|.tuple<|zs.map PyData.str,oE m,o5,o6,o7,o8,o9,my,X]/\b m=oH (B.map Dl)/\B.length<=nr/\(∀r∈B,RulOk L.length zs.length r)/\Pot b a l/\Bh a l Y b) (λZ hZ=>?_) ?_
 ·refine⟨a,l,nr+1,rfl,P2.new i6,by omega,by omega,λaq μ3 hmany P3 V=>⟨by omega,by omega,?_⟩⟩;have e3:=V m _ J.1.symm J.2.symm Ac;have aj:(Ea 0 (aq:Int).toNat).length=aq:=by rw[Bv];omega
  refine Fe (λi d b=>∃o5 o6 o7 o8 o9 my X,∃B:oA Rul,d=[oE a,oF nr,oG<|.tuple<|L.map Ga,oG<|.tuple<|zs.map PyData.str,oE m,o5,o6,o7,o8,o9,my,X]/\b m=oH (B.map Dl)/\B.length<=i/\(∀r∈B,RulOk L.length zs.length r)/\Pot b a l/\Bh a l Y b) ⟨none,none,none,none,none,none,none,[],rfl,e3,H_ _,(λ_ z=>nomatch z),P3,(S2.new i6).trans V⟩ (λ_ _ _ _=>trivial) ?_ ?_
  ·rintro i y d μ4 Z2 hy ⟨o5,o6,o7,o8,o9,my,X,B,rfl,e4,hB,kB,P4,S4⟩ bu;have hi:i<aq:=by rw[<- aj];exact(E_.mp hy).1
   refine An (λd b=>∃p x t:Nat,d=[oE a,oF nr,oG<|.tuple<|L.map Ga,oG<|.tuple<|zs.map PyData.str,oE m,some y,oF p,oF x,oF t,o9,my,X]/\p<L.length/\x<zs.length/\t<L.length/\b m=oH (B.map Dl)/\Pot b a l/\Bh a l Y b) (λZ3 U=>?_) ?_
   ·refine Ab (x:=[.D<|.tuple<|L.map Ga,.D<|.tuple<|zs.map PyData.str,.D<|.tuple<|L.map Ga]) rfl λI g=>?_;have C:=P4.ne g;have O:m≠I:=by rintro rfl;rw[e4]at g;cases g
    refine E8 (λj G d b=>∃(o:oB AV) (vs:oA Nat),d=[o,oE a]/\G=vs.map B6/\vs.length=j/\(∀k v,vs[k]?=some v->v<[L.length,zs.length,L.length].getD k 0)/\b I=oH G/\b m=oH (B.map Dl)/\Pot b a l/\Bh a l Y b) ⟨none,[],rfl,rfl,rfl,(λk v z=>by simp at z),Ac,by rw[Af O];exact e4,P4.new g,S4.new g⟩ (λ_ _ _ _ _=>rfl) ?_ ?_
    ·rintro j z G d μ5 Z4 hz ⟨o,vs,rfl,rfl,ua,T,c5,e5,P5,S5⟩ j7;obtain⟨ds,rfl,hds,hd0,zw⟩:∃ds:oA kL,z=.D (.tuple ds)/\ds.length=[L.length,zs.length,L.length].getD j 0/\0<ds.length/\ds.length<=3:=by
      match j,hz with
      | 0,hz=>cases hz;exact⟨_,rfl,by rw[B_];rfl,by rw[B_];omega,by rw[B_];omega⟩
      | 1,hz=>cases hz;exact⟨_,rfl,by rw[B_];rfl,by rw[B_];omega,by rw[B_];omega⟩
      | 2,hz=>cases hz;exact⟨_,rfl,by rw[B_];rfl,by rw[B_];omega,by rw[B_];omega⟩
      |k+3,hz=>simp at hz
     have hj:j<3:=(E_.mp hz).1;refine Fd rfl ⟨a,l,ds.length,rfl,P5,hd0,by omega,λv μ6 hv P6 S6=>?_⟩;refine⟨S6 I _ C.1.symm C.2.symm c5,Bm<|by rw[B_];omega,j7 _ _ _ ⟨_,vs++[v],rfl,by rw[P_];rfl,by rw[J_,ua];rfl,λk u hu=>?_,Ac,by rw[Af O];exact S6 m _ J.1.symm J.2.symm e5,P6.other C.1 C.2,(S5.trans S6).put<|S4.none C.1 C.2 g⟩⟩;rcases dQ k vs.length with c|c;rw[cL c]at hu;exact T k u hu;rw[bK c]at hu;have hk:k=j:=by rcases Nat.eq_zero_or_pos (k-vs.length) with z0|z0;omega;rw[bG<|show [v].length<=k-vs.length from z0]at hu;cases hu
     subst hk;rw[ua,kE]at hu;cases hu;rw[<- hds];exact hv
    ·rintro G d μ5 ⟨o,vs,rfl,rfl,ua,T,c5,e5,P5,S5⟩
     match vs,ua with
     |[p,x,t],_=>exact Ab c5 ⟨rfl,U _ _ ⟨p,x,t,rfl,T 0 p rfl,T 1 x rfl,T 2 t rfl,e5,P5,S5⟩⟩
   rintro d μ5 ⟨p,x,t,rfl,hp,hx,ht,e5,P5,S5⟩;refine An (λd b=>∃Q:Nat,d=[oE a,oF nr,oG<|.tuple<|L.map Ga,oG<|.tuple<|zs.map PyData.str,oE m,some y,oF p,oF x,oF t,oF Q,my,X]/\Q<=2/\b m=oH (B.map Dl)/\Pot b a l/\Bh a l Y b) (λZ3 U=>?_) ?_;intro p8 ml;have hn8:=P5.ne ml;refine⟨a,l,5,rfl,P5.new ml,by decide,by decide,λv μ6 hv P6 S6=>?_⟩;obtain⟨wd,ew,hw⟩:=fives ⟨v,hv⟩;have e8:=S6 p8 _ hn8.1.symm hn8.2.symm Ac;have eB1:=S6 m _ J.1.symm J.2.symm (by rw[Af<|by rintro rfl;rw[e5]at ml;cases ml];exact e5);exact Ab e8 (Ab (Ak (j:=v) (xs:=[0,0,1,1,2].map B6)<|by rw[F_,ew];rfl)<|U _ _ ⟨wd,rfl,hw,eB1,P6,(S5.new ml).trans S6⟩);rintro d μ6 ⟨sz0,rfl,hsz0,e6,P6,S6⟩;refine An (λd b=>∃Q:Nat,d=[oE a,oF nr,oG<|.tuple<|L.map Ga,oG<|.tuple<|zs.map PyData.str,oE m,some y,oF p,oF x,oF t,oF Q,my,X]/\Q<=2/\b m=oH (B.map Dl)/\Pot b a l/\Bh a l Y b) (λZ3 U=>?_) ?_;refine Ab (Ao e6) λI g=>?_;have C:=P6.ne g;have O:m≠I:=by rintro rfl;rw[e6]at g;cases g
   refine cmapf B Dl (λr=>decide (r.w.length=2)) Dl (λd=>∃o,d=[o]) ⟨none,rfl⟩ Ac (seven<|by omega) (λG=>Ao<|by rw[Af O,Af O];exact e6) ?_ ?_;rintro k r τ' G W W2 hk ⟨o,rfl⟩ h1 h2;exact Ab (Ak (j:=3) rfl) (ieq (λc1=>h1 (aN<|by rw[B_]at c1;omega) _ ⟨_,rfl⟩) λc1=>h2 (aF λz=>c1<|by rw[B_,z];rfl) _ ⟨_,rfl⟩);have e7:Am (Am μ6 I<|.lst []) I (.lst<|(B.filter λr=>decide (r.w.length=2)).map Dl) m=oH (B.map Dl):=by rw[Af O,Af O];exact e6
   have P7:=(P6.new g (o:=.lst [])).other (o:=.lst<|(B.filter λr=>decide (r.w.length=2)).map Dl) C.1 C.2;have S7:=(S6.new g (o:=.lst [])).put (o:=.lst<|(B.filter λr=>decide (r.w.length=2)).map Dl)<|S6.none C.1 C.2 g;refine Ab Ac<|ieq (λ_=>?_) λ_=>U _ _ ⟨sz0,rfl,hsz0,e7,P7,S7⟩;refine U _ _ ⟨if(1:Int)<sz0 then 1 else sz0,?_,by split<;>omega,e7,P7,S7⟩;split<;>rfl;rintro d μ7 ⟨Q,rfl,hsz,e7,P7,S7⟩;refine An (λd b=>∃r:Rul,d=[oE a,oF nr,oG<|.tuple<|L.map Ga,oG<|.tuple<|zs.map PyData.str,oE m,some y,oF p,oF x,oF t,oF Q,some<|Dl r,X]/\r.p=p/\RulOk L.length zs.length r/\b m=oH (B.map Dl)/\Pot b a l/\Bh a l Y b) (λZ3 U=>?_) ?_;refine⟨by omega,by omega,λI g=>?_⟩;have C:=P7.ne g;have O:m≠I:=by rintro rfl;rw[e7]at g;cases g
   have og:(Ea 0 (Q:Int).toNat).length=Q:=by rw[Bv];omega
   refine E8 (λj G d b=>∃(o:oB AV) (ns:oA Nat),d=[o,oE a,oG<|.tuple<|zs.map PyData.str]/\G=ns.map B6/\ns.length=j/\(∀n∈ns,n<zs.length)/\b I=oH G/\b m=oH (B.map Dl)/\Pot b a l/\Bh a l μ7 b) ⟨none,[],rfl,rfl,rfl,(λ_ z=>nomatch z),Ac,by rw[Af O];exact e7,P7.new g,Bh.refl.new g⟩ (λ_ _ _ _ _=>trivial) ?_ ?_;rintro j z G d μ8 Z4 hz ⟨o,ns,rfl,rfl,hn,hb,c8,e8,P8,S8⟩ j7;have hj:j<Q:=by rw[<- og];exact(E_.mp hz).1
   refine Fd rfl ⟨a,l,(zs.map PyData.str).length,rfl,P8,by rw[B_];omega,by rw[B_];omega,λv S hv P9 S9=>?_⟩;rw[B_]at hv;refine⟨S9 I _ C.1.symm C.2.symm c8,Bm<|by rw[B_];omega,j7 _ _ _ ⟨_,ns++[v],rfl,by rw[P_];rfl,by rw[J_,hn];rfl,λn li=>?_,Ac,by rw[Af O];exact S9 m _ J.1.symm J.2.symm e8,P9.other C.1 C.2,(S8.trans S9).put g⟩⟩;rcases U_.mp li with h|h;exact hb n h;rw[Y_.mp h];exact hv;rintro G d μ8 ⟨o,ns,rfl,rfl,hn,hb,c8,e8,P8,S8⟩;rw[og]at hn;exact Ab (Ao c8) (Ab (En ns)<|U _ _ ⟨⟨p,x,t,ns⟩,rfl,rfl,⟨hp,hx,ht,hb,(show ns.length<=2 by omega)⟩,e8,P8,S7.trans S8⟩);rintro d μ8 ⟨r,rfl,hrp,M,e8,P8,S8⟩;refine An (λd b=>∃pa ys,d=[oE a,oF nr,oG<|.tuple<|L.map Ga,oG<|.tuple<|zs.map PyData.str,oE m,some y,oF p,oF x,oF t,oF Q,some<|Dl r,oE pa]/\b pa=oH ys/\b m=oH (B.map Dl)/\Pot b a l/\Bh a l Y b) (λZ3 U=>?_) ?_;refine Ab (Ao e8) λI g=>?_;have C:=P8.ne g;have O:m≠I:=by rintro rfl;rw[e8]at g;cases g
   refine cmapf B Dl (λr=>PyData.eqv (Cr [r.p,r.x])<|Cr [p,x]) Dl (λd=>∃o,d=[o,oF p,oF x]) ⟨none,rfl⟩ Ac (seven<|by omega) (λG=>Ao<|by rw[Af O,Af O];exact e8) ?_ ?_;rintro j r' τ' G W W2 hj ⟨o,rfl⟩ h1 h2;exact⟨Nz (ns:=[r'.p,r'.x]),Nz (ns:=[p,x]),br (λc=>h1 c _ ⟨_,rfl⟩) λc=>h2 c _ ⟨_,rfl⟩⟩;exact U _ _ ⟨I,_,rfl,Ac,by rw[Af O,Af O];exact e8,(P8.new g).other C.1 C.2,(S8.new g).put<|S8.none C.1 C.2 g⟩;rintro d S ⟨pa,ys,rfl,a9,e9,P9,S9⟩;have yes:Z2 [oE a,oF nr,oG<|.tuple<|L.map Ga,oG<|.tuple<|zs.map PyData.str,oE m,some y,oF p,oF x,oF t,oF Q,some<|Dl r,oE pa] (Am S m<|.lst<|B.map Dl++[Dl r]):=by refine bu _ _ ⟨_,_,_,_,_,_,_,B++[r],rfl,by rw[Ac,P_];rfl,by rw[J_];show B.length+1<=_;omega,λr2 hr'=>?_,P9.other J.1 J.2,S9.put jy⟩;rcases U_.mp hr' with h|h;exact kB r2 h;rw[Y_.mp h];exact M
   have no:Z2 [oE a,oF nr,oG<|.tuple<|L.map Ga,oG<|.tuple<|zs.map PyData.str,oE m,some y,oF p,oF x,oF t,oF Q,some<|Dl r,oE pa] S:=bu _ _ ⟨_,_,_,_,_,_,_,B,rfl,e9,by omega,kB,P9,S9⟩;have put:Qj S (.R m)/\Ou (.R m) [Dl r] S λ_ μ1=>Z2 [oE a,oF nr,oG<|.tuple<|L.map Ga,oG<|.tuple<|zs.map PyData.str,oE m,some y,oF p,oF x,oF t,oF Q,some<|Dl r,oE pa] μ1:=⟨Ab e9 trivial,Ab e9 ⟨Bm<|by rw[B_];omega,yes⟩⟩;refine Ab rfl<|Ab (Ao e9)<|Ab (Rp B) ⟨CU r,Xx B,br (λ_=>?_) λ_=>J9 rfl no⟩;have hpl:(L.map Ga)[p]?=some (Ga L[p]):=by rw[F_,D_ hp];rfl
   refine Ab (Ak hpl)<|Ab (Ak (j:=1) rfl)<|ieq (λ_=>Fd rfl put) λ_=>Ab a9<|dif (λ_=>put) λ_=>no
  rintro d μ4 ⟨o5,o6,o7,o8,o9,my,X,B,rfl,e4,hB,kB,P4,S4⟩;rw[aj]at hB;exact hZ _ _ ⟨_,_,_,_,_,_,_,B,rfl,e4,by omega,kB,P4,S4⟩
 rintro d μ3 ⟨o5,o6,o7,o8,o9,my,X,B,rfl,e3,hB,kB,P3,V⟩;exact Ab (Ao e3)<|Ab (Rp B) ⟨_,Sub.refl,q ⟨L,zs,B⟩ _ ⟨sk,hL3,hz0,hz3,hB,hLh,hLn,hzn,kB⟩ P3 V⟩
structure Arw where
 p:Nat
 x:Nat
 ts:oA Nat
 c:oB Nat
def CV(a:Arw):oA kL:=.int a.p::.int a.x::Cr a.ts::(match a.c with|none=>[]|some c=>[.int c])
def Bk(a:Arw):kL:=.tuple<|CV a
def Gx{b:M}(A:oA Arw):items b (.D<|.tuple<|A.map Bk)=some (A.map λa=>.D<|Bk a):=by show some ((A.map Bk).map AV.D)=_;rw[aJ];rfl
def CW{a:Arw}:atI (CV a) 2=some (Cr a.ts):=Ak (j:=2) rfl
def O8(a:Arw):(Bk a).canLay0=true/\(Bk a).depth<=3/\Cano (Bk a)=true:=by
 obtain⟨p,x,b,c⟩:=a;have h1:=Kj (ns:=b);have h2:=Jd b;cases c with
 |none=>simp only[Bk,CV,Cr,PyData.canLay0,PyData.canLayAll0,PyData.depth,PyData.depthAll,Cano,Av,h1.1,h2,Bool.and_true,Bool.true_and,true_and,and_true];have:=h1.2;omega
 |some c=>simp only[Bk,CV,Cr,PyData.canLay0,PyData.canLayAll0,PyData.depth,PyData.depthAll,Cano,Av,h1.1,h2,Bool.and_true,Bool.true_and,true_and,and_true];have:=h1.2;omega
def O9{a b:Arw}(h:a.c.isSome=b.c.isSome):cmpb (Bk a) (Bk b)=true:=by obtain⟨p,x,i,c⟩:=a;obtain⟨j,g,d,e⟩:=b;cases c<;>cases e<;>simp at h<;>simp only[Bk,CV,Cr,cmpb,cmpbs,Rk,ite_self]
theorem Pa:∀(B:oA Arw),PyData.canLayAll0 (B.map Bk)=true/\PyData.depthAll (B.map Bk)<=3/\Av (B.map Bk)=true
 |[]=>⟨rfl,by simp[PyData.depthAll],rfl⟩
 |a::B=>by obtain⟨h1,h2,d⟩:=O8 a;obtain⟨b,e,c⟩:=Pa B;simp only[List.map_cons,PyData.canLayAll0,PyData.depthAll,Av,h1,d,b,c,Bool.and_self,true_and,and_true];omega
def Ma(B:oA Arw):dats (B.map λa=>.D<|Bk a)=some (B.map Bk):=by rw[show(B.map λa=>AV.D<|Bk a)=(B.map Bk).map .D by rw[aJ];rfl];exact Cw _
def Hy(a:Arw):Bz (Bk a):=⟨(O8 a).1,Q_ (O8 a).2.1 (by decide)⟩
def QP{a:Type}(g:a->kL)(xs:oA a)(n:Nat):J7 (xs.map g) none (some (n:Int))=(xs.take n).map g:=by unfold J7;rw[HT.sIx_none,HT.sIx_nat,jL,Nat.sub_zero,<- iS,B_];by_cases h:n<=xs.length;rw[eD h];rw[iR<|by omega,cU,bN<|by omega]
def Xy{a:Type}(g:a->kL)(xs:oA a)(n:Nat):J7 (xs.map g) (some (n:Int)) none=(xs.drop n).map g:=by unfold J7;rw[HT.sIx_none,HT.sIx_nat,<- iT,B_];by_cases h:n<=xs.length;rw[eD h,bN<|by rw[B_,aH];exact H_ _];rw[iR<|by omega,fB,eF<|by omega];simp
def N1{a:Type}(g:a->AV)(xs:oA a)(n:Nat):De (xs.map g) none (some (n:Int))=(xs.take n).map g:=by unfold De;rw[HT.sIx_none,HT.sIx_nat,jL,Nat.sub_zero,<- iS,B_];by_cases h:n<=xs.length;rw[eD h];rw[iR<|by omega,cU,bN<|by omega]
def Gy{a:Type}(g:a->AV)(xs:oA a)(n:Nat):De (xs.map g) (some (n:Int)) none=(xs.drop n).map g:=by unfold De;rw[HT.sIx_none,HT.sIx_nat,<- iT,B_];by_cases h:n<=xs.length;rw[eD h,bN<|by rw[B_,aH];exact H_ _];rw[iR<|by omega,fB,eF<|by omega];simp
theorem Pb:∀(n k:Nat),Ea (k:Int) n=(List.range' k n).map B6
 | 0,k=>rfl
 |n+1,k=>by
  rw[kA,bF,<- Pb n (k+1)]
  rfl
def CY(n:Nat):Ea 0 n=(List.range n).map B6:=by rw[List.range_eq_range'];exact Pb n 0
abbrev nSo:oA Str:=oV
def Qas:FnScope nSo oV (Ai OE):=⟨rfl,rfl,rfl,by decide +kernel,rfl,by decide +kernel,by decide +kernel⟩
def UQ:(["_law_thing","_law_state"]:oA Str).Nodup:=by decide +kernel
def UR:ASp:=λd b R=>∃(a l ps:kM) (c:oA Nat),d=[.R a,.R ps]/\c.length<=20/\ps≠a/\ps≠l/\b ps=oH (c.map B6)/\Pot b a l/\∀(ns:oA Nat) μ',ns.Sublist c->Pot μ' a l->Bh a l b μ'->R (.D<|Cr ns) μ'
def US{n:Nat}(F:Fun K "_law_some" "_law_some" OE f fd) (bp:VCal P w K mg base n "_law_draw" oK L7) (W:mg "tuple" = none):FnOk P w K mg base Ez (n+1) f fd oV (G6 K 2 UR):=by
 refine F.vok Qas λav A C s H E S=>⟨_,(Aj<|Ay<|Bi D9 rfl W bT<|Aa (B2 (N':=["_law_thing","_law_state"]) (mp:=[none,some 0]) rfl (Cc<|vv 1) (λ_ _ _ _=>(Ax (i:=0) UQ rfl oI oJ)) (λ_ _ _ _=>(Gk<|Bc (Gj S) (Al bp S rfl<|Aa (vv 1)<|Aa Ae Ad) Ae<|nomark _)) (λ_ _ _ _=>(vv 0))<|Bg (N:=nSo) (pn:=(Ai OE).names)<|by decide +kernel) Ad),?_⟩;rintro xs V R _ ⟨a,l,u,h,rfl,hs,na,Z,t,M,q⟩;refine Ab (Ao t) λD g=>?_;have r:=M.ne g;have O:u≠D:=by rintro rfl;rw[t]at g;cases g
 refine E8 (λj m G b=>∃(o:oB AV) (ns:oA Nat),G=[o,oE a]/\m=ns.map B6/\ns.Sublist (h.take j)/\b D=oH m/\b u=oH (h.map B6)/\Pot b a l/\Bh a l V b) ⟨none,[],rfl,rfl,by simp,Ac,by rw[Af O];exact t,M.new g,Bh.refl.new g⟩ (by rintro _ _ _ _ ⟨_,_,_,_,_,_,e,_⟩;exact Ao e) ?_ ?_;rintro j y m G B Z2 hy ⟨o,ns,rfl,rfl,d,I,L,z,p⟩ bu;rw[F_]at hy;obtain⟨x,hx,rfl⟩:=W_.mp hy;have hj:j<h.length:=(E_.mp hx).1;have Q:h.take (j+1)=h.take j++[x]:=by rw[cW,hx];rfl
 refine⟨a,l,2,rfl,z,by decide,by decide,λv X hv J k=>?_⟩;have U:=k D _ r.1.symm r.2.symm I;have T:=k u _ na Z L;have Y:=d.length_le;rw[aD]at Y;refine ieq (λc=>⟨U,Bm<|by rw[B_];omega,bu _ _ _ ⟨_,ns++[x],rfl,by rw[P_];rfl,by rw[Q];exact d.append<|List.Sublist.refl _,Ac,by rw[Af O];exact T,J.other r.1 r.2,(p.trans k).put g⟩⟩) (λc=>bu _ _ _ ⟨_,ns,rfl,rfl,by rw[Q];exact d.trans<|List.sublist_append_left _ _,U,T,J,p.trans k⟩);rintro m G B ⟨o,ns,rfl,rfl,d,I,L,z,p⟩;rw[B_,cU]at d;exact Ab (Ao I)<|Ab (En ns) ⟨_,Sub.refl,q ns _ d z p⟩
structure Say where
 own:Nat
 as:oA Arw
 es:oA Nat
def Jf(s:Say):kL:=.tuple [.int s.own,.tuple<|s.as.map Bk,Cr s.es]
structure AwOk(st le lo:Nat)(c:Bool)(a:Arw):Prop where
 c:a.c.isSome=c
 p:a.p<st
 x:a.x<le
 t:∀t∈a.ts,lo<=t/\t<st
 tn:a.ts.length<=st
def HF{B:oA Arw}{k:Bool}(hl:B.length<=20)(hc:∀a∈B,a.c.isSome=k):TOk (B.map Bk):=by refine⟨by rw[B_];omega,λd hd=>?_,λd hd=>?_,λd hd e he=>?_⟩;obtain⟨a,ha,rfl⟩:=M_.mp hd;obtain⟨h1,h2,g⟩:=O8 a;exact⟨g,h1,by omega⟩;obtain⟨a,ha,rfl⟩:=M_.mp hd;exact⟨a.p,_,rfl⟩;obtain⟨a,ha,rfl⟩:=M_.mp hd;obtain⟨b,hb,rfl⟩:=M_.mp he;exact O9<|(hc a ha).trans (hc b hb).symm
theorem Rq{a d:Type}{f:a->d}{B:oA a}:∀{es:oA d},(∀e∈es,e∈B.map f)->∃C:oA a,es=C.map f/\∀c∈C,c∈B
 |[],_=>⟨[],rfl,λ_ z=>nomatch z⟩
 |e::es,h=>by
  obtain⟨b,hb,rfl⟩:=M_.mp<|h e<|.head _;obtain⟨C,rfl,j⟩:=Rq λi g=>h i<|.tail _ g;exact⟨b::C,rfl,λc hc=>by
   rcases Z_.mp hc with rfl|hc;exact hb;exact j c hc⟩
def HG{B:oA Arw}{k:Bool}{es:oA kL}(hl:B.length<=20)(a:es.Nodup)(hm:∀d,d∈es↔d∈B.map Bk):∃C:oA Arw,es=C.map Bk/\(∀c∈C,c∈B)/\(∀d,d∈C.map Bk↔d∈B.map Bk)/\C.length<=B.length:=by obtain⟨C,rfl,b⟩:=Rq (f:=Bk) (B:=B) λe he=>(hm e).mp he;have:=El a λd hd=>(hm d).mp hd;rw[B_,B_]at this;exact⟨C,rfl,b,hm,this⟩
structure SayOk(g:Gam)(s:Say)(most:Nat):Prop where
 o:s.own<=2
 n:s.as.length<=most
 a:∀a∈s.as,AwOk (g.pl.length+s.own) g.le.length g.pl.length false a
 e:s.es.Sublist (List.range<|g.pl.length+s.own)
 d:(s.as.map Bk).Nodup
 su:∀a∈s.as,a.ts.Sublist (List.range' g.pl.length s.own)
 so:(s.as.map Bk).Pairwise λa b=>Fk a b=true
abbrev nSa:oA Str:=["_law_state","_law_game_here","_law_most","_law_many","_law_places","_law_arrows","_law_k","_law_stand_here","_law_letter"]
def Tu:FnScope nSa oW (Ai QG):=⟨rfl,rfl,rfl,by decide +kernel,rfl,by decide +kernel,by decide +kernel⟩
def ON:ASp:=λd c R=>∃(a l:kM) (g:Gam) (b:Nat),d=[.R a,.D<|Az g,.D<|.int b]/\0<g.pl.length/\g.pl.length<=3/\0<g.le.length/\g.le.length<=3/\b<=20/\Pot c a l/\∀(s:Say) μ',SayOk g s b->Pot μ' a l->Bh a l c μ'->R (.D<|Jf s) μ'
def UT{n:Nat}(F:Fun K "_law_saying" "_law_saying" QG f fd) (bp:VCal P w K mg base n "_law_draw" oK L7) (Y:VCal P w K mg base n "_law_some" oV UR) (ah:mg "len" = none) (ak:mg "range" = none) (az:mg "list" = none) (al:mg "tuple" = none) (be:mg "sorted" = none) (cy:mg "set" = none):FnOk P w K mg base Ez (n+1) f fd oW (G6 K 3 ON):=by
 refine F.vok Tu λav A outer s H E J=>⟨_,(Ah (Aq (i:=3) Tu.nd rfl oI<|Al bp J rfl<|Aa (vv 0)<|Aa Ae Ad)<|Ah (Aq (i:=4) Tu.nd rfl oI<|Aw Br rfl ah aA<|Aa (Ar A0 (vv 1) Ae) Ad)<|Ah (Aq (i:=5) Tu.nd rfl oI<|Cb Ad)<|Ah (Di cD rfl (Co rfl ak<|Aa (Al bp J rfl<|Aa (vv 0)<|Aa (Bb A5 (vv 2) Ae) Ad) Ad) (Ax (i:=6) Tu.nd rfl oI)<|Ah (Aq (i:=7) Tu.nd rfl oI<|Al bp J rfl<|Aa (vv 0)<|Aa (Bb A5 (vv 4)<|vv 3) Ad)<|Ah (Aq (i:=8) Tu.nd rfl oI<|Al bp J rfl<|Aa (vv 0)<|Aa (Aw Br rfl ah aA<|Aa (Ar A0 (vv 1) Ae) Ad) Ad)<|Aj<|Et<|Jn bW bX Dv (vv 5)<|Aa (Cl<|Aa (vv 7)<|Aa (vv 8)<|Aa (Al Y J rfl<|Aa (vv 0)<|Aa (BE rfl rfl az rfl ak (vv 4)<|Bb A5 (vv 4)<|vv 3) Ad) Ad) Ad)<|Aj<|Ay<|Cl<|Aa (vv 3)<|Aa (Bi D9 rfl al bT<|Aa (GS J rfl be rfl cy<|vv 5) Ad)<|Aa (Al Y J rfl<|Aa (vv 0)<|Aa (BD rfl rfl az rfl ak<|Bb A5 (vv 4)<|vv 3) Ad) Ad),?_⟩
 rintro xs O R _ ⟨a,l,g,e,rfl,hp0,bq,hl0,hl3,hm,hP,q⟩;refine An (λm d=>∃h:Nat,m=[oE a,oG<|Az g,oF e,oF h,none,none,none,none,none]/\h<=2/\Pot d a l/\Bh a l O d) (λZ S=>⟨a,l,3,rfl,hP,by decide,by decide,λv W hv P1 S1=>S _ _ ⟨v,rfl,by omega,P1,S1⟩⟩) ?_;rintro m W ⟨h,rfl,how,P1,S1⟩;refine An (λm d=>m=[oE a,oG<|Az g,oF e,oF h,oF g.pl.length,none,none,none,none]/\W=d) (λZ S=>Ab (Ak (j:=0) rfl)<|by rw[<- B_ (f:=Ga)]at S;exact S _ _ ⟨rfl,rfl⟩) ?_;rintro m _ ⟨rfl,rfl⟩;intro r i6;have u:=P1.ne i6;have jy:O r=none:=S1.none u.1 u.2 i6;refine An (λm d=>∃Q N L,∃B:oA Arw,m=[oE a,oG<|Az g,oF e,oF h,oF g.pl.length,oE r,Q,N,L]/\d r=oH (B.map λb=>.D<|Bk b)/\B.length<=e/\(∀b∈B,AwOk (g.pl.length+h) g.le.length g.pl.length false b/\b.ts.Sublist (List.range' g.pl.length h))/\Pot d a l/\Bh a l O d) (λZ S=>?_) ?_;refine⟨a,l,e+1,rfl,P1.new i6,by omega,by omega,λc μ2 hc P2 S2=>⟨by omega,by omega,?_⟩⟩;have aj:(Ea 0 (c:Int).toNat).length=c:=by rw[Bv];omega
 refine Fe (λi m d=>∃Q N L,∃B:oA Arw,m=[oE a,oG<|Az g,oF e,oF h,oF g.pl.length,oE r,Q,N,L]/\d r=oH (B.map λb=>.D<|Bk b)/\B.length<=i/\(∀b∈B,AwOk (g.pl.length+h) g.le.length g.pl.length false b/\b.ts.Sublist (List.range' g.pl.length h))/\Pot d a l/\Bh a l O d) ⟨none,none,none,[],rfl,S2 r _ u.1.symm u.2.symm Ac,H_ _,(λ_ z=>nomatch z),P2,(S1.new i6).trans S2⟩ (λ_ _ _ _=>trivial) ?_ ?_;rintro i y m U Z2 hy ⟨Q,N,L,B,rfl,e3,hB,I,M,S3⟩ bu;have hi:i<c:=by rw[<- aj];exact(E_.mp hy).1
 refine An (λm d=>∃p:Nat,m=[oE a,oG<|Az g,oF e,oF h,oF g.pl.length,oE r,some y,oF p,L]/\p<g.pl.length+h/\d r=oH (B.map λb=>.D<|Bk b)/\Pot d a l/\Bh a l O d) (λZ3 bj=>⟨a,l,g.pl.length+h,rfl,M,by omega,by omega,λp μ4 hp P4 T=>bj _ _ ⟨p,rfl,hp,T r _ u.1.symm u.2.symm e3,P4,S3.trans T⟩⟩) ?_;rintro m μ4 ⟨p,rfl,hp,e4,P4,T⟩;refine An (λm d=>∃x:Nat,m=[oE a,oG<|Az g,oF e,oF h,oF g.pl.length,oE r,some y,oF p,oF x]/\x<g.le.length/\d r=oH (B.map λb=>.D<|Bk b)/\Pot d a l/\Bh a l O d) (λZ3 bj=>Ab (Ak (j:=1) rfl) ⟨a,l,g.le.length,by rw[B_],P4,hl0,by omega,λx μ5 hx P5 S5=>bj _ _ ⟨x,rfl,hx,S5 r _ u.1.symm u.2.symm e4,P5,T.trans S5⟩⟩) ?_;rintro m μ5 ⟨x,rfl,hx,e5,P5,S5⟩;refine⟨Ab e5 trivial,⟨by omega,by omega,by omega⟩,λps G=>?_⟩;have V:=P5.ne G;have hsf:r≠ps:=by rintro rfl;rw[e5]at G;cases G
 refine⟨a,l,ps,List.range' g.pl.length h,rfl,by rw[fG];omega,V.1.symm,V.2.symm,by rw[Ac,show((g.pl.length:Int)+(h:Int)-(g.pl.length:Int)).toNat=h by omega,Pb],P5.new G,λts μ6 X P6 S6=>?_⟩;have e6:=S6 r _ u.1.symm u.2.symm (show Am μ5 ps _ r=_ by rw[Af hsf];exact e5);refine Ab e6 ⟨Bm<|by rw[B_];omega,bu _ _ ⟨_,_,_,B++[⟨p,x,ts,none⟩],rfl,by rw[Ac,P_];rfl,by rw[J_];show B.length+1<=_;omega,λb hb=>?_,P6.other u.1 u.2,((S5.new G).trans S6).put jy⟩⟩;rcases U_.mp hb with hb|hb;exact I b hb;rw[Y_.mp hb];have hl:=X.length_le;rw[fG]at hl;refine⟨⟨rfl,hp,hx,λt ht=>?_,(show ts.length<=_ by omega)⟩,X⟩;have:=List.mem_range'_1.mp<|X.subset ht;omega;rintro m U ⟨Q,N,L,B,rfl,e3,hB,I,M,S3⟩;rw[aj]at hB;exact S _ _ ⟨_,_,_,B,rfl,e3,by omega,I,M,S3⟩;rintro m μ2 ⟨Q,N,L,B,rfl,e2,hB,I,P2,S2⟩;refine Ab (Ao e2) (Ab (Ma B) ⟨HF (by omega) λb hb=>(I b hb).1.c,λes p j8 jf j0 hp=>?_⟩);obtain⟨C,rfl,hC,hCm,hCl⟩:=HG (k:=false) (by omega) j8 jf;refine Ab (Ao Ac) (Ab (Cw _) ⟨⟨by omega,by omega⟩,λps G=>?_⟩);have ju:=P2.ne hp;have M:=P2.new hp (o:=.lst<|(C.map Bk).map .D);have V:=M.ne G;refine⟨a,l,ps,List.range<|g.pl.length+h,rfl,by rw[dC];omega,V.1.symm,V.2.symm,by rw[Ac,show((g.pl.length:Int)+(h:Int)).toNat=g.pl.length+h by omega,CY],M.new G,λns U X P4 T=>⟨_,Sub.refl,q ⟨h,C,ns⟩ _ ⟨how,(show C.length<=e by omega),λb hb=>(I b<|hC b hb).1,X,j8,λb hb=>(I b<|hC b hb).2,j0⟩ P4<|((S2.new hp).new G).trans T⟩⟩
def Qat{a b c:kL}{i j k:Nat}{e:ASt}{d:M}{R:ASt->M->Prop}(h:R (((e.set i<|oG a).set j<|oG b).set k<|oG c) d):G7 (Db i) (G7 (Db j)<|G7 (Db k) Zy) (List.map AV.D [a,b,c]) e d R:=h
def Qau:(!kit "int" "bool")=true:=by decide
def toS(i:Int):Str:=Str.ofString<|toString i
def HH:∀i:Fin 12,(toS (i.val:Int)).length<=6:=by decide +kernel
def Tv{n:Nat}(h:n<12):(toS (n:Int)).length<=6:=HH ⟨n,h⟩
def Dx(g:Gam)(k:Nat):Str:=match g.pl[k]? with
 |some p=>p.1
 |none=>toS (((k+1-g.pl.length:Nat)):Int)
def Cz(g:Gam)(m:Nat):oA Str:=g.pl.map (·.1)++(List.range m).map λk=>toS ((k+1:Nat):Int)
def Kl{g:Gam}{m k:Nat}(h:k<g.pl.length+m):(Cz g m)[k]?=some (Dx g k):=by unfold Cz Dx;by_cases h1:k<g.pl.length;rw[cL<|by rw[B_];exact h1,F_,D_ h1];rfl;rw[bK<|by rw[B_];omega,B_,F_,jG<|by omega,bG<|by omega];show some (toS ((k-g.pl.length+1:Nat):Int))=some (toS ((k+1-g.pl.length:Nat):Int));rw[show k-g.pl.length+1=k+1-g.pl.length by omega]
def lg{i:Int}(h:i.natAbs<=100):i.natAbs.log2<1920:=dH (Nat.log2_le_self _)<|by omega
structure ShIn(g:Gam)(s:Say):Prop where
 pl:g.pl.length<=3
 pn:∀p∈g.pl,p.1.length<=6
 ln:∀z∈g.le,z.length<=6
 o:s.own<=8
 n:s.as.length<=300
 p:∀a∈s.as,a.p<g.pl.length+s.own
 x:∀a∈s.as,a.x<g.le.length
 t:∀a∈s.as,∀t∈a.ts,t<g.pl.length+s.own
 tn:∀a∈s.as,a.ts.length<=10
 c:∀a∈s.as,a.c=none
 e:∀e∈s.es,e<g.pl.length+s.own
 en:s.es.length<=30
def ShIn.st{g:Gam}{s:Say}(h:ShIn g s){k:Nat}(hk:k<g.pl.length+s.own):(Dx g k).length<=6:=by unfold Dx;by_cases h1:k<g.pl.length;rw[D_ h1];exact h.pn _<|aL h1;rw[bG<|by omega];have:=h.o;exact Tv<|by omega
def Km(f:Nat->Str)(ns:oA Nat):(ns.map λn=>Ag<|f n)=(ns.map f).map Ag:=by rw[aJ];rfl
abbrev nSd:oA Str:=oO
def Qaw:FnScope nSd oO (Ai JL):=⟨rfl,rfl,rfl,by decide +kernel,rfl,by decide +kernel,by decide +kernel⟩
def JR:(["name","hand"]:oA Str).Nodup:=by decide +kernel
def UU:(["number"]:oA Str).Nodup:=by decide +kernel
def HI:ASp:=λc b R=>∃(g:Gam) (m:Nat),c=[.D<|Az g,.D<|.int m]/\g.pl.length<=3/\m<=8/\∀p a,b p=none->a p=oH ((Cz g m).map Ag)->Sub b a->R (.R p) a
def UV{n:Nat}(F:Fun K "stand_words" "stand_words" JL f fd) (O:mg "range" = none) (L:mg "str" = none):FnOk P w K mg base Ez (n+1) f fd oO (G6 K 2 HI):=by
 refine F.vok Qaw λY A u s H E X=>⟨_,(Aj<|Ay<|Bb A5 (B2 (N':=["name","hand"]) (mp:=[none,none]) rfl (Cc<|Ar A0 (vv 0) Ae) (λ_ _ _ _=>(Hc (n:=2) rfl<|Bx (Ax (i:=0) JR rfl oI oJ)<|Bx (Ax (i:=1) JR rfl oI oJ) Eu)) (λ_ _ _ _=>Bu) (λ_ _ _ _=>(vv 0))<|Bg (N:=nSd) (pn:=(Ai JL).names)<|by decide +kernel)<|B2 (N':=["number"]) (mp:=[none]) rfl (Co rfl O<|Aa (vv 1) Ad) (λ_ _ _ _=>(Ax (i:=0) UU rfl oI oJ)) (λ_ _ _ _=>Bu) (λ_ _ _ _=>(Bi Ny rfl L dW<|Aa (Bb A5 (vv 0) Ae) Ad))<|Bg (N:=nSd) (pn:=(Ai JL).names)<|by decide +kernel),?_⟩;rintro V b R _ ⟨g,m,rfl,hp,hm,q⟩;have J:∀ b:M,items b (.D<|.tuple<|g.pl.map Ga)=some (g.pl.map JQ):=λb=>by show some ((g.pl.map Ga).map AV.D)=_;rw[aJ];rfl
 refine Ab (Ak (j:=0) rfl)<|Ab (J _) λa y=>?_;refine cmap g.pl JQ (λp=>Ag p.1) (λd=>∃v z,d=[v,z]) ⟨none,none,rfl⟩ Ac (seven<|by omega) (λ_=>J _) ?_ ?_;rintro i x U e W S ⟨v,z,rfl⟩ hW;exact⟨rfl,hW _ ⟨_,_,rfl⟩⟩;have t:Sub b (Am (Am b a<|.lst []) a<|.lst<|g.pl.map λp=>Ag p.1):=(Sub.refl.new y).new y;have h:Am (Am b a<|.lst []) a (.lst<|g.pl.map λp=>Ag p.1) a=oH (g.pl.map λp=>Ag p.1):=Ac;generalize Am (Am b a<|.lst []) a (.lst<|g.pl.map λp=>Ag p.1)=μ1 at t h;refine⟨by omega,by omega,λI l=>?_⟩;have T:a≠I:=by rintro rfl;rw[h]at l;cases l
 have G:(Ea 0 (m:Int).toNat).length=m:=by rw[Bv];omega
 refine E8 (λi e d c=>∃o,d=[o]/\e=((List.range i).map λk=>toS ((k+1:Nat):Int)).map Ag/\c=Am μ1 I (.lst e)) ⟨none,rfl,rfl,rfl⟩ (λ_ _ _ _ _=>trivial) ?_ ?_;rintro i x e d c W hx ⟨o,rfl,rfl,rfl⟩ hW;have S:i<m:=by rw[<- G];exact(E_.mp hx).1
 have C:=Eg _ _ _ hx;rw[Int.zero_add]at C;subst C;refine Fd rfl ⟨lg<|by omega,Ac,Bm<|by rw[B_,B_,dC];omega,hW _ _ _ ⟨_,rfl,?_,C0⟩⟩;rw[List.range_succ,P_,P_];rfl;rintro e d c ⟨o,rfl,rfl,rfl⟩;rw[G];refine Ab (x:=MO.lst<|g.pl.map λp=>Ag p.1) (by rw[Af T];exact h) (Ab Ac ⟨by rw[B_,B_,B_,dC];exact seven<|by omega,λQ B=>⟨_,Sub.refl,?_⟩⟩);have r:=t.new (m:=.lst<|((List.range m).map λk=>toS ((k+1:Nat):Int)).map Ag)<|t.none l;refine q Q _ (r.none B) ?_<|r.new<|r.none B;rw[Ac];unfold Cz;rw[P_,show(g.pl.map (·.1)).map Ag=g.pl.map (λp=>Ag p.1) by rw[aJ];rfl]
abbrev nLs:oA Str:=oX
def Qax:FnScope nLs oX (Ai QH):=⟨rfl,rfl,rfl,by decide +kernel,rfl,by decide +kernel,by decide +kernel⟩
def UW:ASp:=λb a R=>∃(g:Gam) (k:Nat),b=[.D<|Az g,.D<|.int k]/\k<=20/\R (Ag<|Dx g k) a
def UX{n:Nat}(F:Fun K "_law_stand" "_law_stand" QH f fd) (h:mg "len" = none) (i:mg "str" = none):FnOk P w K mg base Ez (n+1) f fd oX (G6 K 2 UW):=by
 refine F.vok Qax λl A b s H E o=>⟨_,(Ah (Bw (Bc Io (vv 1) (Aw Br rfl h aA<|Aa (Ar A0 (vv 0) Ae) Ad)<|nomark _) (Aj<|Ay<|Ar A0 (Ar A0 (Ar A0 (vv 0) Ae)<|vv 1) Ae) A8)<|Aj<|Ay<|Bi Ny rfl i dW<|Aa (Bb Zr (Bb A5 Ae<|vv 1)<|Aw Br rfl h aA<|Aa (Ar A0 (vv 0) Ae) Ad) Ad),?_⟩
 rintro m d R _ ⟨g,k,rfl,hk,q⟩;unfold Dx at q;refine Ab (Ak (j:=0) rfl)<|dif (λc=>?_) λc=>?_;rw[B_]at c;have a:k<g.pl.length:=by omega
 rw[D_ a]at q;have e:(g.pl.map Ga)[k]?=some (Ga g.pl[k]):=by rw[F_,D_ a];rfl
 exact Ab (Ak (j:=0) rfl)<|Ab (Ak e)<|Ab (Ak (j:=0) rfl) ⟨d,Sub.refl,q⟩
 rw[B_]at c;rw[bG<|by omega]at q;have e:(1:Int)+k-((g.pl.map Ga).length:Nat)=((k+1-g.pl.length:Nat):Int):=by rw[B_];omega
 refine Ab (Ak (j:=0) rfl) ⟨?_,d,Sub.refl,?_⟩;rw[e];exact lg (by omega);rw[e];exact q
def Xz(g:Gam)(x:Nat):Str:=g.le.getD x Str.empty
def X0(g:Gam)(a:Arw):oA Str:=["arrow",Dx g a.p,Xz g a.x,":"]
abbrev Pc:oA Str:=["ends"]
def C1(g:Gam)(a:Arw):oA Str:=X0 g a++a.ts.map (Dx g)
def Ca(g:Gam)(s:Say):oA (oA Str):=["own",toS (s.own:Int)]::(s.as.map (C1 g)++[Pc++s.es.map (Dx g)])
structure RowsAt(μ:M)(pr:kM)(qs:oA kM)(jx:oA<|oA Str):Prop where
 n:qs.length=jx.length
 a:∀(j:Nat) (q:kM) (ws:oA Str),qs[j]?=some q->jx[j]?=some ws->μ q=oH (ws.map Ag)
 ne:pr∉qs
def RowsAt.sub{d b:M}{i:kM}{c:oA kM}{g:oA<|oA Str}(h:RowsAt d i c g)(S:∀q∈c,∀m,d q=some m->b q=some m):RowsAt b i c g :=
 ⟨h.n,λj q ws e k=>S q (aB e) _<|h.a j q ws e k,h.ne⟩
def RowsAt.add{g:M}{k q:kM}{d:oA kM}{l:oA<|oA Str}{ws:oA Str}(h:RowsAt g k d l)(e:g q=oH (ws.map Ag))(m:k≠q):RowsAt g k (d++[q]) (l++[ws]):=by
 refine⟨by rw[J_,J_,h.n];rfl,λj o i b c=>?_,λhm=>?_⟩;by_cases hj:j<d.length;rw[cL hj]at b;rw[cL<|by rw[<- h.n];exact hj]at c;exact h.a j o i b c;rw[bK<|by omega]at b;rw[bK<|by rw[<- h.n];omega,<- h.n]at c;have hk:j-d.length=0:=by have:=(E_.mp b).1;simp at this;omega
 rw[hk]at b c;cases b;cases c;exact e;rcases U_.mp hm with hm|hm;exact h.ne hm;exact m<|by simpa using hm
def JS{g:Gam}{x:Nat}(h:x<g.le.length):atI (g.le.map PyData.str) (x:Int)=some (.str<|Xz g x):=by refine Ak ?_;rw[F_,D_ h];unfold Xz;rw[L_,D_ h];rfl
def OO{g:Gam}{x:Nat}(h:x<g.le.length)(hl:∀z∈g.le,z.length<=6):(Xz g x).length<=6:=by unfold Xz;rw[L_,D_ h];exact hl _<|aL h
def UY:("arrow" : Str).length<=6/\(":" : Str).length<=6/\("ends" : Str).length<=6/\("own" : Str).length<=6:=by decide +kernel
def CZ:(" " : Str).length=1/\("\n" : Str).length=1:=by decide +kernel
def Pd{g:Gam}{s:Say}(h:ShIn g s):∀ws∈Ca g s,ws.length<=40/\∀z∈ws,z.length<=6:=by obtain⟨c,j,d,k⟩:=UY;intro ws hws;rcases Z_.mp hws with rfl|hws;refine⟨(by decide:2<=40),λz hz=>?_⟩;simp only[List.mem_cons,List.not_mem_nil,or_false]at hz;rcases hz with rfl|rfl;exact k;have:=h.o;exact Tv (by omega);rcases U_.mp hws with hws|hws;obtain⟨a,ha,rfl⟩:=M_.mp hws;have i:=h.tn a ha;refine⟨?_,λz hz=>?_⟩;unfold C1;rw[J_,B_];show 4+_<=_;omega;rcases U_.mp hz with hz|hz;unfold X0 at hz;simp only[List.mem_cons,List.not_mem_nil,or_false]at hz;rcases hz with rfl|rfl|rfl|rfl;exact c;exact h.st<|h.p a ha;exact OO (h.x a ha) h.ln;exact j;obtain⟨t,b,rfl⟩:=M_.mp hz;exact h.st<|h.t a ha t b;rw[Y_.mp hws];have i:=h.en;refine⟨?_,λz hz=>?_⟩;rw[J_,B_];show 1+_<=_;omega;rcases U_.mp hz with hz|hz;rw[Y_.mp hz];exact d;obtain⟨t,b,rfl⟩:=M_.mp hz;exact h.st<|h.e t b
def Kn{ws:oA Str}(h:ws.length<=40/\∀z∈ws,z.length<=6):(ws.map (·.length)).sum+ws.length*(" " : Str).length<=280:=by have b:=StrLaws.sumLen_le ws h.2;rw[CZ.1];have:=h.1;omega
def Vq{ws:oA Str}(h:ws.length<=40/\∀z∈ws,z.length<=6):(Txt.join " " ws).length<=280:=by have a:=StrLaws.join_length_le " " ws;have:=Kn h;show(PySem.Builtin.Str.glued " " ws).length<=_;rw[dD];omega
def Mb{g:Gam}{s:Say}:(Ca g s).length=s.as.length+2:=by unfold Ca;rw[aM,J_,B_];rfl
def Rr{g:Gam}{s:Say}(h:ShIn g s):(((Ca g s).map<|Txt.join " ").map (·.length)).sum+((Ca g s).map<|Txt.join " ").length*("\n" : Str).length<=16777216:=by
 have b:=StrLaws.sumLen_le (B:=280) ((Ca g s).map<|Txt.join " ") λz hz=>by obtain⟨ws,hws,rfl⟩:=M_.mp hz;exact Vq<|Pd h ws hws
 rw[CZ.2];rw[B_,Mb]at b ⊢;have:=h.n;omega
abbrev YC:oA Str:=["game","saying","stands","rows","arrow","words"]
def DA:FnScope YC qD (Ai GZ):=⟨rfl,rfl,rfl,by decide +kernel,rfl,by decide +kernel,by decide +kernel⟩
def UZ:(["target","stands"]:oA Str).Nodup:=by decide +kernel
def VB:(["end","stands"]:oA Str).Nodup:=by decide +kernel
def VC:(oP:oA Str).Nodup:=by decide +kernel
def VD:ASp:=λc b R=>∃(g:Gam) (s:Say),c=[.D<|Az g,.D<|Jf s]/\ShIn g s/\∀ a,Sub b a->R (.D<|.str<|Txt.join "\n"<|(Ca g s).map<|Txt.join " ") a
def VF{n:Nat}(F:Fun K "show_saying" "show_saying" GZ f fd) (vi:VCal P w K mg base n "stand_words" oO HI) (bh:mg "str" = none):FnOk P w K mg base Ez (n+1) f fd qD (G6 K 2 VD):=by
 refine F.vok DA λav A outer s H E hr=>⟨_,(Ah (Aq (i:=2) DA.nd rfl oJ<|Al vi hr rfl<|Aa (vv 0)<|Aa (Ar A0 (vv 1) Ae) Ad)<|Ah (Aq (i:=3) DA.nd rfl oI<|Cb<|Aa (Cb<|Aa Ap<|Aa (Bi Ny rfl bh dW<|Aa (Ar A0 (vv 1) Ae) Ad) Ad) Ad)<|Ah (Di cD rfl (Cc<|Ar A0 (vv 1) Ae) (Ax (i:=4) DA.nd rfl oI)<|Ah (Aq (i:=5) DA.nd rfl oI<|Cb<|Aa Ap<|Aa (Ar A0 (vv 2)<|Ar A0 (vv 4) Ae)<|Aa (Ar A0 (Ar A0 (vv 0) Ae)<|Ar A0 (vv 4) Ae)<|Aa Ap Ad)<|Aj<|Et<|Jn bW bX Dv (vv 3)<|Aa (Bb A5 (vv 5)<|B2 (N':=["target","stands"]) (mp:=[none,some 2]) rfl (Cc<|Ar A0 (vv 4) Ae) (λ_ _ _ _=>(Ax (i:=0) UZ rfl oI oJ)) (λ_ _ _ _=>Bu) (λ_ _ _ _=>(Ar A0 (vv 1)<|vv 0))<|Bg (N:=YC) (pn:=(Ai GZ).names)<|by decide +kernel) Ad)<|Ah (Et<|Jn bW bX Dv (vv 3)<|Aa (Bb A5 (Cb<|Aa Ap Ad)<|B2 (N':=["end","stands"]) (mp:=[none,some 2]) rfl (Cc<|Ar A0 (vv 1) Ae) (λ_ _ _ _=>(Ax (i:=0) VB rfl oI oJ)) (λ_ _ _ _=>Bu) (λ_ _ _ _=>(Ar A0 (vv 1)<|vv 0))<|Bg (N:=YC) (pn:=(Ai GZ).names)<|by decide +kernel) Ad)<|Aj<|Ay<|Es bH bI D7 Ap<|Aa (B2 (N':=oP) (mp:=[none]) rfl (Cc<|vv 3) (λ_ _ _ _=>(Ax (i:=0) VC rfl oI oJ)) (λ_ _ _ _=>Bu) (λ_ _ _ _=>(Es bH bI D7 Ap<|Aa (vv 0) Ad))<|Bg (N:=YC) (pn:=(Ai GZ).names)<|by decide +kernel) Ad),?_⟩
 rintro xs μ R _ ⟨g,S,rfl,h,q⟩;have ho:=h.o;have hsn:=h.n;have hen:=h.en;refine Ci<|Ab (Ak (j:=0) rfl) ⟨g,S.own,rfl,h.pl,h.o,λv μ1 _ e1 S1=>?_⟩;have ap:∀{k:Nat},k<g.pl.length+S.own->atI ((Cz g S.own).map Ag) (k:Int)=some (Ag<|Dx g k):=λ{k} hk=>Ak (by rw[F_,Kl hk];rfl);refine An (λl b=>∃c q0,l=[oG<|Az g,oG<|Jf S,oE v,oE c,none,none]/\b c=oH [.R q0]/\μ c=none/\RowsAt b c [q0] [["own",toS (S.own:Int)]]/\b v=oH ((Cz g S.own).map Ag)/\Sub μ b) (λZ hZ=>?_) ?_
 ·refine Ab (Ak (j:=0) rfl) ⟨lg<|by omega,λq0 yw=>λc X=>?_⟩;have B:q0≠c:=by rintro rfl;rw[Ac]at X;cases X
  have I:v≠q0:=by rintro rfl;rw[e1]at yw;cases yw
  have n3:v≠c:=by rintro rfl;rw[Af I,e1]at X;cases X
  have S2:=S1.new (m:=.lst [.D<|.str "own",.D<|.str<|Str.ofString<|toString (S.own:Int)])<|S1.none yw;refine hZ _ _ ⟨c,q0,rfl,Ac,S2.none X,⟨rfl,λj C ws e2 L=>?_,by simpa using B.symm⟩,by rw[Af n3,Af I];exact e1,S2.new<|S2.none X⟩;cases j with
  |zero=>cases e2;cases L;rw[Af B,Ac];rfl
  |succ j=>cases e2
 rintro l μ2 ⟨c,q0,rfl,r2,X,A2,e2,S2⟩;have npw:v≠c:=by rintro rfl;rw[r2]at e2;cases L:Cz g S.own<;>rw[L]at e2<;>cases e2
 refine An (λl b=>∃(o4 o5:oB AV) (r:oA kM),l=[oG<|Az g,oG<|Jf S,oE v,oE c,o4,o5]/\b c=oH (r.map .R)/\RowsAt b c r (["own",toS (S.own:Int)]::S.as.map (C1 g))/\b v=oH ((Cz g S.own).map Ag)/\Sub μ b) (λZ hZ=>?_) ?_;refine Ab (Ak (j:=1) rfl)<|Ab (Gx S.as) ?_;refine Fe (λi l b=>∃(o4 o5:oB AV) (r:oA kM),l=[oG<|Az g,oG<|Jf S,oE v,oE c,o4,o5]/\b c=oH (r.map .R)/\RowsAt b c r (["own",toS (S.own:Int)]::(S.as.take i).map (C1 g))/\b v=oH ((Cz g S.own).map Ag)/\Sub μ b) ⟨none,none,[q0],rfl,r2,A2,e2,S2⟩ (λ_ _ _ _=>Gx S.as) ?_ ?_;rintro i y l V Z2 hy ⟨o4,o5,r,rfl,T,A3,L,S3⟩ bu;rw[F_]at hy;obtain⟨a,ha,rfl⟩:=W_.mp hy;have hi:i<S.as.length:=(E_.mp ha).1;have hm:=aB ha;have bf:S.as.take (i+1)=S.as.take i++[a]:=by rw[cW,ha];rfl
 have rq:=h.tn a hm;have xk:r.length<=400:=by rw[A3.n,aM,B_,aD];omega
 refine An (λl b=>∃qw,l=[oG<|Az g,oG<|Jf S,oE v,oE c,oG<|Bk a,oE qw]/\b qw=oH ((X0 g a).map Ag)/\b c=oH (r.map .R)/\RowsAt b c r (["own",toS (S.own:Int)]::(S.as.take i).map (C1 g))/\b v=oH ((Cz g S.own).map Ag)/\Sub μ b) (λZ3 bj=>?_) ?_;refine Ab (Ak (j:=0) rfl)<|Ab L<|Ab (ap<|h.p a hm)<|Ab (Ak (j:=1) rfl)<|Ab (Ak (j:=1) rfl)<|Ab (JS<|h.x a hm) λqw lh=>?_;have B:c≠qw:=by rintro rfl;rw[T]at lh;cases lh
 have I:v≠qw:=by rintro rfl;rw[L]at lh;cases lh
 refine bj _ _ ⟨qw,rfl,Ac,by rw[Af B];exact T,A3.sub λC U m G=>?_,by rw[Af I];exact L,S3.new<|S3.none lh⟩;rw[Af<|by rintro rfl;rw[G]at lh;cases lh];exact G;rintro l Y ⟨qw,rfl,w4,r4,A4,e4,Q⟩;refine⟨Ab r4 trivial,Ab (CW (a:=a))<|Ab (B4 a.ts) λu d=>?_⟩;have B:c≠u:=by rintro rfl;rw[r4]at d;cases d
 have I:v≠u:=by rintro rfl;rw[e4]at d;cases d
 have n3:qw≠u:=by rintro rfl;rw[w4]at d;cases d
 refine cmap a.ts B6 (λt=>Ag<|Dx g t) (λl=>∃o,l=[o,oE v]) ⟨none,rfl⟩ Ac (seven<|by omega) (λ_=>B4 a.ts) ?_ ?_;rintro j t τ' ai W hj ⟨o,rfl⟩ hW;have vj:=h.t a hm t<|aB hj;exact Ab (x:=MO.lst<|(Cz g S.own).map Ag) (by rw[Af I,Af I];exact e4)<|Ab (ap vj)<|hW _ ⟨_,rfl⟩;rw[Km];have S5:Sub μ (Am (Am Y u<|.lst []) u<|.lst<|(a.ts.map<|Dx g).map Ag):=(Q.new<|Q.none d).new<|Q.none d;refine Ab (x:=MO.lst<|(X0 g a).map Ag) (by rw[Af n3,Af n3];exact w4) (Ab Ac ⟨by rw[B_,B_,B_];exact seven<|show 4+a.ts.length<=1000 by omega,λM J=>?_⟩);have m1:c≠M:=by rintro rfl;rw[Af B,Af B,r4]at J;cases J
 have m2:v≠M:=by rintro rfl;rw[Af I,Af I,e4]at J;cases J
 have S6:=S5.new (m:=.lst<|(X0 g a).map Ag++(a.ts.map<|Dx g).map Ag)<|S5.none J;have A6:RowsAt (Am (Am (Am Y u<|.lst []) u<|.lst<|(a.ts.map<|Dx g).map Ag) M<|.lst<|(X0 g a).map Ag++(a.ts.map<|Dx g).map Ag) c r (["own",toS (S.own:Int)]::(S.as.take i).map (C1 g)):=A4.sub λC U m G=>by
  have O:C≠u:=by rintro rfl;rw[G]at d;cases d
  have k2:C≠M:=by rintro rfl;rw[Af O,Af O,G]at J;cases J
  rw[Af k2,Af O,Af O];exact G
 have A7:=A6.add (q:=M) (ws:=C1 g a) (by rw[Ac];unfold C1;rw[P_]) m1;refine Ab (x:=MO.lst<|r.map .R) (by rw[Af m1,Af B,Af B];exact r4) ⟨Bm<|by rw[B_];omega,bu _ _ ⟨_,_,r++[M],rfl,by rw[Ac,P_];rfl,?_,by rw[Af npw,Af m2,Af I,Af I];exact e4,S6.new X⟩⟩;rw[bf,P_];refine RowsAt.sub A7 λC U m G=>?_;have am:C≠c:=λz=>A7.ne<|z ▸ U;rw[Af am];exact G;rintro l V ⟨o4,o5,r,rfl,T,A3,L,S3⟩;rw[B_,cU]at A3;exact hZ _ _ ⟨_,_,r,rfl,T,A3,L,S3⟩;rintro l V ⟨o4,o5,r,rfl,T,A3,L,S3⟩;have xk:r.length<=400:=by rw[A3.n,aM,B_];omega
 refine An (λl b=>∃(r:oA kM),l=[oG<|Az g,oG<|Jf S,oE v,oE c,o4,o5]/\b c=oH (r.map .R)/\RowsAt b c r (Ca g S)/\Sub μ b) (λZ hZ=>?_) ?_;refine⟨Ab T trivial,λq1 lw=>?_⟩;have l1:c≠q1:=by rintro rfl;rw[T]at lw;cases lw
 have l2:v≠q1:=by rintro rfl;rw[L]at lw;cases lw
 refine Ab (Ak (j:=2) rfl)<|Ab (B4 S.es) λu d=>?_;have n0:q1≠u:=by rintro rfl;rw[Ac]at d;cases d
 have B:c≠u:=by rintro rfl;rw[Af l1,T]at d;cases d
 have I:v≠u:=by rintro rfl;rw[Af l2,L]at d;cases d
 refine cmap S.es B6 (λt=>Ag<|Dx g t) (λl=>∃o,l=[o,oE v]) ⟨none,rfl⟩ Ac (seven<|by omega) (λ_=>B4 S.es) ?_ ?_;rintro j t τ' ai W hj ⟨o,rfl⟩ hW;have vj:=h.e t<|aB hj;exact Ab (x:=MO.lst<|(Cz g S.own).map Ag) (by rw[Af I,Af I,Af l2];exact L)<|Ab (ap vj)<|hW _ ⟨_,rfl⟩;rw[Km];have Q:=S3.new (m:=.lst [.D<|.str "ends"])<|S3.none lw;have S5:Sub μ (Am (Am (Am V q1<|.lst [.D<|.str "ends"]) u<|.lst []) u<|.lst<|(S.es.map<|Dx g).map Ag):=(Q.new<|Q.none d).new<|Q.none d;refine Ab (x:=MO.lst [.D<|.str "ends"]) (by rw[Af n0,Af n0];exact Ac) (Ab Ac ⟨by rw[B_,B_];exact seven<|show 1+S.es.length<=1000 by omega,λM J=>?_⟩);have m1:c≠M:=by rintro rfl;rw[Af B,Af B,Af l1,T]at J;cases J
 have S6:=S5.new (m:=.lst<|[.D<|.str "ends"]++(S.es.map<|Dx g).map Ag)<|S5.none J;have A6:RowsAt (Am (Am (Am (Am V q1<|.lst [.D<|.str "ends"]) u<|.lst []) u<|.lst<|(S.es.map<|Dx g).map Ag) M<|.lst<|[.D<|.str "ends"]++(S.es.map<|Dx g).map Ag) c r (["own",toS (S.own:Int)]::S.as.map (C1 g)):=A3.sub λC U m G=>by
  have k0:C≠q1:=by rintro rfl;rw[G]at lw;cases lw
  have O:C≠u:=by rintro rfl;rw[Af k0,G]at d;cases d
  have k2:C≠M:=by rintro rfl;rw[Af O,Af O,Af k0,G]at J;cases J
  rw[Af k2,Af O,Af O,Af k0];exact G
 have A7:=A6.add (q:=M) (ws:=Pc++S.es.map (Dx g)) (by rw[Ac,P_];rfl) m1;refine Ab (x:=MO.lst<|r.map .R) (by rw[Af m1,Af B,Af B,Af l1];exact T) ⟨Bm<|by rw[B_];omega,hZ _ _ ⟨r++[M],rfl,by rw[Ac,P_];rfl,?_,S6.new X⟩⟩;refine RowsAt.sub A7 λC U m G=>?_;have am:C≠c:=λz=>A7.ne<|z ▸ U;rw[Af am];exact G;rintro l Y ⟨qs4,rfl,r4,A4,Q⟩;have zff:qs4.length<=400:=by rw[A4.n,Mb];omega
 refine⟨trivial,Ab (Ao r4) λu d=>?_⟩;have B:c≠u:=by rintro rfl;rw[r4]at d;cases d
 refine E8 (λi ai l b=>∃o,l=[o]/\ai=(((Ca g S).take i).map<|Txt.join " ").map Ag/\b=Am Y u (.lst ai)) ⟨none,rfl,rfl,rfl⟩ ?_ ?_ ?_;rintro i ai l b ⟨o,rfl,rfl,rfl⟩;exact Ao (by rw[Af B];exact r4);rintro i y ai l b W hy ⟨o,rfl,rfl,rfl⟩ hW;rw[F_]at hy;obtain⟨C,U,rfl⟩:=W_.mp hy;have hi:i<qs4.length:=(E_.mp U).1;have m9:i<(Ca g S).length:=by rw[<- A4.n];exact hi
 have ew:=D_ m9;have e5:=A4.a i C _ U ew;have O:C≠u:=by rintro rfl;rw[e5]at d;cases d
 have jv:=Kn<|Pd h _<|aL m9;refine Fd rfl ⟨trivial,Ab (x:=MO.lst<|(Ca g S)[i].map Ag) (by rw[Af O];exact e5)<|Ab (Dd _) ⟨by omega,Ac,Bm<|by rw[B_,B_,aD];omega,hW _ _ _ ⟨_,rfl,?_,C0⟩⟩⟩;rw[cW,ew,P_,P_];rfl;rintro ai l b ⟨o,rfl,rfl,rfl⟩;rw[B_,A4.n,cU];exact Ab Ac<|Ab (Dd _) ⟨Rr h,_,Sub.refl,q _<|Q.new<|Q.none d⟩
def HJ(x:Str):("own " : Str)++x=Txt.join " " ["own",x]:=by
 show _=PySem.Builtin.Str.glued " " ["own",x];rw[dD];have e:Str.join " " ["own",x] = "own" ++ " " ++ Str.join " " [x]:=rfl;have a:Str.join " " [x]=x:=by simp[Str.join]
 rw[e,a,show("own" : Str)++(" " : Str) = "own " by decide +kernel]
abbrev nRw:oA Str:=["_law_game_here","_law_saying_here","_law_rows_here","_law_stand_here","_law_letter","_law_targets","_law_words"]
def X1:FnScope nRw oY (Ai JO):=⟨rfl,rfl,rfl,by decide +kernel,rfl,by decide +kernel,by decide +kernel⟩
def VH:(["_law_one","_law_game_here"]:oA Str).Nodup:=by decide +kernel
def VJ:(qV:oA Str).Nodup:=by decide +kernel
def OP:ASp:=λc b R=>∃(g:Gam) (s:Say),c=[.D<|Az g,.D<|Jf s]/\ShIn g s/\∀p a,a p=oH (((Ca g s).map<|Txt.join " ").map Ag)->Sub b a->R (.R p) a
def VL{n:Nat}(F:Fun K "_law_rows" "_law_rows" JO f fd) (O:VCal P w K mg base n "_law_stand" oX UW) (bh:mg "str" = none):FnOk P w K mg base Ez (n+1) f fd oY (G6 K 2 OP):=by
 refine F.vok X1 λav A outer s H E hr=>⟨_,(Ah (Aq (i:=2) X1.nd rfl oI<|Cb<|Aa (Bb A5 Ap<|Bi Ny rfl bh dW<|Aa (Ar A0 (vv 1) Ae) Ad) Ad)<|Ah (Di cD rfl (Cc<|Ar A0 (vv 1) Ae) (Hc (n:=3) rfl<|Bx (Ax (i:=3) X1.nd rfl oI)<|Bx (Ax (i:=4) X1.nd rfl oI)<|Bx (Ax (i:=5) X1.nd rfl oI) Eu)<|Ah (Aq (i:=6) X1.nd rfl oI<|Cb<|Aa Ap<|Aa (Al O hr rfl<|Aa (vv 0)<|Aa (vv 3) Ad)<|Aa (Ar A0 (Ar A0 (vv 0) Ae)<|vv 4)<|Aa Ap Ad)<|Aj<|Et<|Jn bW bX Dv (vv 2)<|Aa (Es bH bI D7 Ap<|Aa (Bb A5 (vv 6)<|B2 (N':=["_law_one","_law_game_here"]) (mp:=[none,some 0]) rfl (Cc<|vv 5) (λ_ _ _ _=>(Ax (i:=0) VH rfl oI oJ)) (λ_ _ _ _=>Bu) (λ_ _ _ _=>(Al O hr rfl<|Aa (vv 1)<|Aa (vv 0) Ad))<|Bg (N:=nRw) (pn:=(Ai JO).names)<|by decide +kernel) Ad) Ad)<|Aj<|Ay<|Bb A5 (vv 2)<|Cb<|Aa (Es bH bI D7 Ap<|Aa (Bb A5 (Cb<|Aa Ap Ad)<|B2 (N':=qV) (mp:=[none,some 0]) rfl (Cc<|Ar A0 (vv 1) Ae) (λ_ _ _ _=>(Ax (i:=0) VJ rfl oI oJ)) (λ_ _ _ _=>Bu) (λ_ _ _ _=>(Al O hr rfl<|Aa (vv 1)<|Aa (vv 0) Ad))<|Bg (N:=nRw) (pn:=(Ai JO).names)<|by decide +kernel) Ad) Ad),?_⟩
 rintro xs J R _ ⟨g,S,rfl,h,q⟩;have ho:=h.o;have hsn:=h.n;have hen:=h.en;have hpl:=h.pl;have X:=Pd h;have t5:("own " : Str).length+(toS (S.own:Int)).length<=sizeLine:=by
  have:=Tv (n:=S.own) (by omega);have e:("own " : Str).length=4:=by decide +kernel
  exact seven<|by omega
 refine An (λk b=>∃d,k=[oG<|Az g,oG<|Jf S,oE d,none,none,none,none]/\b d=oH ([Txt.join " " ["own",toS (S.own:Int)]].map Ag)/\J d=none/\Sub J b) (λZ hZ=>?_) ?_;refine Ab (Ak (j:=0) rfl) ⟨lg<|by omega,t5,λd gt=>hZ _ _ ⟨d,rfl,?_,gt,Sub.refl.new gt⟩⟩;rw[Ac,<- HJ];rfl;rintro k μ1 ⟨d,rfl,r1,gt,S1⟩;refine An (λk b=>∃V Q T U,k=[oG<|Az g,oG<|Jf S,oE d,V,Q,T,U]/\b d=oH ((Txt.join " " ["own",toS (S.own:Int)]::(S.as.map<|C1 g).map (Txt.join " ")).map Ag)/\Sub J b) (λZ hZ=>?_) ?_;refine Ab (Ak (j:=1) rfl)<|Ab (Gx S.as) ?_;refine Fe (λi k b=>∃V Q T U,k=[oG<|Az g,oG<|Jf S,oE d,V,Q,T,U]/\b d=oH ((Txt.join " " ["own",toS (S.own:Int)]::((S.as.take i).map<|C1 g).map (Txt.join " ")).map Ag)/\Sub J b) ⟨none,none,none,none,rfl,r1,S1⟩ (λ_ _ _ _=>Gx S.as) ?_ ?_;rintro i y k C Z2 hy ⟨V,Q,T,U,rfl,u,G⟩ bu;rw[F_]at hy;obtain⟨a,ha,rfl⟩:=W_.mp hy;have hi:i<S.as.length:=(E_.mp ha).1;have hm:=aB ha;have bf:S.as.take (i+1)=S.as.take i++[a]:=by rw[cW,ha];rfl
 have rq:=h.tn a hm;have hap:=h.p a hm;have Y:=h.x a hm;have qf:=h.t a hm;have hac:=h.c a hm;have jv:=Kn<|X (C1 g a)<|K_ _<|cK _<|M_.mpr ⟨a,hm,rfl⟩;obtain⟨p,x,v,c⟩:=a;dsimp only at rq hap Y qf hac;subst hac;refine⟨rfl,Qat ?_⟩;dsimp only[List.set];refine An (λk b=>∃M,k=[oG<|Az g,oG<|Jf S,oE d,oF p,oF x,oG<|Cr v,oE M]/\b M=oH ((X0 g ⟨p,x,v,none⟩).map Ag)/\b d=oH ((Txt.join " " ["own",toS (S.own:Int)]::((S.as.take i).map<|C1 g).map (Txt.join " ")).map Ag)/\Sub J b) (λZ3 bj=>?_) ?_;refine⟨g,p,rfl,by omega,Ab (Ak (j:=1) rfl)<|Ab (JS Y) λM lh=>?_⟩;have l:d≠M:=by rintro rfl;rw[u]at lh;cases lh
 exact bj _ _ ⟨M,rfl,Ac,by rw[Af l];exact u,G.new<|G.none lh⟩
 rintro k μ4 ⟨M,rfl,w4,r4,B⟩;refine⟨Ab r4 trivial,trivial,Ab (B4 v) λz r=>?_⟩;have l:d≠z:=by rintro rfl;rw[r4]at r;cases r
 have n3:M≠z:=by rintro rfl;rw[w4]at r;cases r
 refine cmap v B6 (λt=>Ag<|Dx g t) (λk=>∃o,k=[o,oG<|Az g]) ⟨none,rfl⟩ Ac (seven<|by omega) (λ_=>B4 v) ?_ ?_;rintro j t τ' ai W hj ⟨o,rfl⟩ hW;have vj:=qf t<|aB hj;exact⟨g,t,rfl,by omega,hW _ ⟨_,rfl⟩⟩;rw[Km];have S5:Sub J (Am (Am μ4 z<|.lst []) z<|.lst<|(v.map<|Dx g).map Ag):=(B.new<|B.none r).new<|B.none r;refine Ab (x:=MO.lst<|(X0 g ⟨p,x,v,none⟩).map Ag) (by rw[Af n3,Af n3];exact w4) (Ab Ac ⟨by rw[B_,B_,B_];exact seven<|show 4+v.length<=1000 by omega,λpd I=>?_⟩);have m1:d≠pd:=by rintro rfl;rw[Af l,Af l,r4]at I;cases I
 have S6:=S5.new (m:=.lst<|(X0 g ⟨p,x,v,none⟩).map Ag++(v.map<|Dx g).map Ag)<|S5.none I;rw[<- P_];refine Ab Ac (Ab (Dd _) ⟨Q_ jv<|by decide,Ab (x:=MO.lst<|(Txt.join " " ["own",toS (S.own:Int)]::((S.as.take i).map<|C1 g).map (Txt.join " ")).map Ag) (by rw[Af m1,Af l,Af l];exact r4) ⟨Bm<|by simp only[List.length_map,List.length_cons,List.length_take];omega,bu _ _ ⟨_,_,_,_,rfl,?_,?_⟩⟩⟩);rw[Ac,bf];simp only[List.map_append,List.map_cons,List.map_nil,List.cons_append]
 rfl
 rw[P_];exact S6.new gt;rintro k C ⟨V,Q,T,U,rfl,u,G⟩;rw[B_,cU]at u;exact hZ _ _ ⟨_,_,_,_,rfl,u,G⟩;rintro k C ⟨V,Q,T,U,rfl,u,G⟩;have jv:=Kn (X (Pc++S.es.map (Dx g))<|K_ _<|aW _<|by simp);refine⟨trivial,λq1 lw=>?_⟩;have l1:d≠q1:=by rintro rfl;rw[u]at lw;cases lw
 refine Ab (Ak (j:=2) rfl)<|Ab (B4 S.es) λz r=>?_;have n0:q1≠z:=by rintro rfl;rw[Ac]at r;cases r
 have l:d≠z:=by rintro rfl;rw[Af l1,u]at r;cases r
 refine cmap S.es B6 (λt=>Ag<|Dx g t) (λk=>∃o,k=[o,oG<|Az g]) ⟨none,rfl⟩ Ac (seven<|by omega) (λ_=>B4 S.es) ?_ ?_;rintro j t τ' ai W hj ⟨o,rfl⟩ hW;have vj:=h.e t<|aB hj;exact⟨g,t,rfl,by omega,hW _ ⟨_,rfl⟩⟩;rw[Km];have B:=G.new (m:=.lst<|Pc.map Ag)<|G.none lw;have S5:Sub J (Am (Am (Am C q1<|.lst<|Pc.map Ag) z<|.lst []) z<|.lst<|(S.es.map<|Dx g).map Ag):=(B.new<|B.none r).new<|B.none r;refine Ab (x:=MO.lst<|Pc.map Ag) (by rw[Af n0,Af n0];exact Ac) (Ab Ac ⟨by rw[B_,B_,B_];exact seven<|show 1+S.es.length<=1000 by omega,λpd I=>?_⟩);have m1:d≠pd:=by rintro rfl;rw[Af l,Af l,Af l1,u]at I;cases I
 have S6:=S5.new (m:=.lst<|(Pc++S.es.map (Dx g)).map Ag)<|S5.none I;rw[<- P_];refine Ab Ac (Ab (Dd _) ⟨Q_ jv<|by decide,λpe L=>?_⟩);have m2:d≠pe:=by rintro rfl;rw[Af m1,Af l,Af l,Af l1,u]at L;cases L
 have S7:=S6.new (m:=.lst [Ag<|Txt.join " "<|Pc++S.es.map (Dx g)])<|S6.none L;refine Ab (x:=MO.lst<|(Txt.join " " ["own",toS (S.own:Int)]::(S.as.map<|C1 g).map (Txt.join " ")).map Ag) (by rw[Af m2,Af m1,Af l,Af l,Af l1];exact u) (Ab Ac ⟨by simp only[List.length_map,List.length_cons,List.length_nil];exact seven<|by omega,λp hp=>⟨_,Sub.refl,q p _ ?_<|S7.new<|S7.none hp⟩⟩);rw[Ac];unfold Ca;simp only[List.map_append,List.map_cons,List.map_nil,List.cons_append]
 rfl
def thr(z n:Int):Bool:=decide (0<=z/\z<n)
abbrev nIt:oA Str:=oQ
def Qaz:FnScope nIt oQ (Ai PY):=⟨rfl,rfl,rfl,by decide +kernel,rfl,by decide +kernel,by decide +kernel⟩
def OQ:ASp:=λb a R=>∃(n m:Int),b=[.D<|.int n,.D<|.int m]/\R (.D<|.bool<|thr n m) a
def VM{n:Nat}(F:Fun K "is_there" "is_there" PY f fd) (g:mg "isinstance" = none) (d:mg "bool" = none):FnOk P w K mg base Ez (n+1) f fd oQ (G6 K 2 OQ):=by
 refine F.vok Qaz λh A a s H E k=>⟨_,(Aj<|Ay<|Os (MQ<|Zv rfl g rfl d PyProof.Rows.boot_bool Nk<|vv 0)<|Oq<|Zo SQ Io Ae (vv 0)<|vv 1),?_⟩;rintro j b R _ ⟨i,m,rfl,q⟩;unfold thr at q;refine Ab rfl<|Fd Qau<|dif (λc=>⟨b,Sub.refl,?_⟩) λc=>⟨b,Sub.refl,?_⟩;have e:decide (0<=i/\i<m)=decide (i<m):=by simp[c]
 rw[e]at q;exact q;have e:decide (0<=i/\i<m)=false:=by simp[c]
 rw[e]at q;exact q
def N3{c b:M}{x:AV}{g:oA AV}(h:items c x=some g)(S:Sub c b):items b x=some g:=by
 cases x with
 |R a=>
  have h:(match c a with|some (.lst i)=>some i|_=>none)=some g:=h;cases e:c a with
  |none=>rw[e]at h;cases h
  |some m=>
   rw[e]at h;cases m with
   |lst i=>cases h;exact Ao (S a _ e)
   |_=>cases h
 |D d=>cases d<;>exact h
 |_=>exact h
theorem N4{c d:Nat}(a:c≠d):∀{ws:oA Str},(∀z∈ws,c∉z.cps.toList)->c∉(Str.join ⟨#[d]⟩ ws).cps.toList
 |[],_=>by simp[Str.join,Str.empty]
 |[x],h=>h x V_
 |x::y::r,h=>by rw[Dt];intro hm;rcases U_.mp hm with hm|hm;exact h x V_ hm;rcases Z_.mp hm with hm|hm;exact a hm;exact N4 a (λz hz=>h z<|K_ _ hz) hm
def OR{zs:oA Str}{i:Nat}{x:AV}(h:(Fi 0<|zs.map PyData.str)[i]?=some x):∃z,zs[i]?=some z/\x=.D (.tuple [.int i,.str z]):=by obtain⟨d,hd,rfl⟩:=Fj h;rw[F_]at hd;obtain⟨z,hz,rfl⟩:=W_.mp hd;exact⟨z,hz,by simp⟩
def Qa0{a b:kL}{i j:Nat}{c:ASt}{d:M}{R:ASt->M->Prop}(h:R ((c.set i<|oG a).set j<|oG b) d):G7 (Db i) (G7 (Db j) Zy) (List.map AV.D [a,b]) c d R:=h
def idx(zs:oA Str)(z:Str):oB Nat:=zs.findIdx? λy=>decide (y=z)
def Fp{zs:oA Str}{z:Str}{k:Nat}(h:idx zs z=some k):zs[k]?=some z:=by obtain⟨hk,e,_⟩:=eM.mp h;rw[D_ hk,aS e]
def Mc{zs:oA Str}{z:Str}{k:Nat}(h:idx zs z=some k):k<zs.length:=(E_.mp<|Fp h).1
def HK{zs:oA Str}{z:Str}:(idx zs z).isSome=decide (z∈zs):=by
 unfold idx;rw[List.findIdx?_isSome]
 induction zs with
 |nil=>rfl
 |cons x r a=>rw[dL,a];by_cases e:x=z;subst e;simp;have b:z≠x:=λq=>e q.symm;simp[e,b]
def Vr{zs:oA Str}{z:Str}{k:Nat}(a:zs.Nodup)(h:zs[k]?=some z):idx zs z=some k:=by
 have hm:(idx zs z).isSome=true:=by rw[HK];exact aN<|aB h
 obtain⟨j,hj⟩:=bO.mp hm;rw[hj];exact cF some<|(fN (Mc hj) a).mp<|(Fp hj).trans h.symm
def HM{zs:oA Str}{y z:Str}(hy:y∉zs):idx (zs++[y]) z=if z=y then some zs.length else idx zs z:=by
 unfold idx;rw[List.findIdx?_append];by_cases e:z=y
 ·subst e;have h:List.findIdx? (λx=>decide (x=z)) zs=none:=by
   cases q:List.findIdx? (λx=>decide (x=z)) zs with
   |none=>rfl
   |some k=>exact absurd (aB<|Fp (zs:=zs) q) hy
  rw[R_ rfl,h];simp[List.findIdx?_cons]
 have a:y≠z:=λq=>e q.symm;rw[N_ e];simp[List.findIdx?_cons,a]
def Md:oB Nat->oB AV:=λo=>o.map λk=>AV.D<|.int (k:Nat)
def X3(b:M)(d:kM)(zs:oA Str):Prop:=∃a,b d=some (.dk a)/\∀z:Str,C2 a (.inr z)=Md (idx zs z)
def X3.sub{b a:M}{d:kM}{zs:oA Str}(h:X3 b d zs)(S:Sub b a):X3 a d zs:=by obtain⟨c,e,k⟩:=h;exact⟨c,S _ _ e,k⟩
def Vs{a:oA<|Key×AV}{zs:oA Str}{z:Str}(hz:z∉zs)(hv:∀y:Str,C2 a (.inr y)=Md (idx zs y))(y:Str):C2 (Iq a (.inr z)<|.D<|.int (zs.length:Nat)) (.inr y)=Md (idx (zs++[z]) y):=by rw[CO,HM hz];by_cases e:y=z;rw[R_<|by rw[e],R_ e];rfl;rw[N_ λq=>e<|Sum.inr.inj q,N_ e];exact hv y
def Vt{zs:oA Str}{i:Nat}{z:Str}(b:zs.Nodup)(hz:zs[i]?=some z):z∉zs.take i:=λh=>by obtain⟨j,hj⟩:=List.mem_iff_getElem?.mp h;have a:=(E_.mp hj).1;rw[aD]at a;rw[fH,R_<|by omega]at hj;have:=(fN (by omega) b).mp<|hj.trans hz.symm;omega
def big{n:Nat}(h:n<=900000):n<=sizeLine:=Q_ h<|by decide
def VN{n:Nat}(h:n<=900000):n<sizeLine:=dH h<|by decide
abbrev nNn:oA Str:=["names","numbers","number","name"]
def HN:FnScope nNn oZ (Ai PV):=⟨rfl,rfl,rfl,by decide +kernel,rfl,by decide +kernel,by decide +kernel⟩
def OS:ASp:=λc b R=>∃(x:AV) (zs:oA Str),c=[x]/\items b x=some (zs.map Ag)/\zs.Nodup/\zs.length<=20/\∀d a,b d=none->X3 a d zs->Sub b a->R (.R d) a
def VP{n:Nat}(F:Fun K "numbers_by_name" "numbers_by_name" PV f fd) (o:mg "enumerate" = none):FnOk P w K mg base Ez (n+1) f fd oZ (G6 K 1 OS):=by
 refine F.vok HN λI A l s H E u=>⟨_,(Ah (Aq (i:=1) HN.nd rfl oI Qm)<|Ah (Di cD rfl (Uw rfl o<|vv 0) (Hc (n:=2) rfl<|Bx (Ax (i:=2) HN.nd rfl oI)<|Bx (Ax (i:=3) HN.nd rfl oI) Eu)<|Aj<|Oy (Gd u) (vv 1) (vv 3)<|vv 2)<|Aj<|Ay<|vv 1),?_⟩
 rintro G k R _ ⟨x,c,rfl,hx,p,C,q⟩;intro d hd;have B:Sub k (Am k d<|.dk []):=Sub.refl.new hd;refine An (λj a=>∃g h,j=[some x,oE d,g,h]/\X3 a d c/\Sub k a) (λZ t=>?_) (by rintro j a ⟨g,h,e,D,S⟩;subst e;exact⟨_,Sub.refl,q d a hd D S⟩);refine Ab (N3 hx B)<|Ab (Eo c) ?_;refine Fe (λi j a=>∃g h b,j=[some x,oE d,g,h]/\a=Am k d (.dk b)/\b.length<=i/\∀z:Str,C2 b (.inr z)=Md (idx (c.take i) z)) ⟨none,none,[],rfl,rfl,H_ _,λz=>rfl⟩ ?_ ?_ ?_;rintro i j a ⟨g,h,b,rfl,rfl,_⟩;exact N3 hx<|Sub.refl.new hd;rintro i y j a L hy ⟨g,h,b,rfl,rfl,hk,hv⟩ bu;obtain⟨z,hz,rfl⟩:=OR hy;have J:i<c.length:=(E_.mp hz).1;have r:c.take (i+1)=c.take i++[z]:=by rw[cW,hz];rfl
 have m:(c.take i).length=i:=by rw[aD];omega
 refine⟨rfl,Qa0 ?_⟩;refine Ab Ac (Ab (x:=MO.dk<|Iq b (.inr z)<|.D<|.int (i:Nat)) rfl ⟨Bm<|show b.length<=1000 by omega,bu _ _ ⟨_,_,_,rfl,C0,Q_ (L8 _ _ _)<|by omega,λv=>?_⟩⟩);have:=Vs (Vt p hz) hv v;rw[m]at this;rw[r];exact this;rintro j a ⟨g,h,b,rfl,rfl,hk,hv⟩;rw[Cm,B_,cU]at hv;exact t _ _ ⟨_,_,rfl,⟨b,Ac,hv⟩,Sub.refl.new hd⟩
def HP(ns:oA Nat):Bool:=(ns.zip<|ns.drop 1).all λp=>decide (p.1<p.2)
theorem DB:∀a:oA Nat,HP a=decide (a.Pairwise (· < ·))
 |[]=>rfl
 |[x]=>by simp[HP]
 |x::y::r=>by have b:=DB<|y::r;have e:HP (x::y::r)=(decide (x<y)&&HP (y::r)):=rfl;rw[e,b,<- Bool.decide_and];refine dZ.mpr ?_;rw[fF (l:=y::r)];refine⟨λh=>⟨λz hz=>?_,h.2⟩,λh=>⟨h.1 y V_,h.2⟩⟩;rcases Z_.mp hz with rfl|hz;exact h.1;exact eQ h.1<|(fF.mp h.2).1 z hz
def Yg(ns:oA Nat)(lo a:Nat):Bool:=ns.all λn=>decide (lo<=n/\n<a)
def ris(ns:oA Nat)(lo a:Nat):Bool:=Yg ns lo a&&decide (ns.Pairwise (· < ·))
abbrev nIr:oA Str:=oR
def Qa2:FnScope nIr oR (Ai JK):=⟨rfl,rfl,rfl,by decide +kernel,rfl,by decide +kernel,by decide +kernel⟩
def VQ:(["stand","bound","lowest"]:oA Str).Nodup:=by decide +kernel
def JT:(["low","high"]:oA Str).Nodup:=by decide +kernel
def OT:ASp:=λd c R=>∃(ns:oA Nat) (lo b:Nat),d=[.D<|Cr ns,.D<|.int lo,.D<|.int b]/\ns.length<=500000/\∀ a,Sub c a->R (.D<|.bool<|ris ns lo b) a
def VR{n:Nat}(F:Fun K "is_rising" "is_rising" JK f fd) (v:VCal P w K mg base n "is_there" oQ OQ) (I:mg "all" = none) (U:mg "zip" = none):FnOk P w K mg base Ez (n+1) f fd oR (G6 K 3 OT):=by
 refine F.vok Qa2 λav A G s H E T=>⟨_,(Ah (Bw (E7<|D5<|Aw (Zu rfl) rfl I iM<|Aa (B2 (N':=["stand","bound","lowest"]) (mp:=[none,some 2,some 1]) rfl (Cc<|vv 0) (λ_ _ _ _=>(Ax (i:=0) VQ rfl oI oJ)) (λ_ _ _ _=>Bu) (λ_ _ _ _=>(Os (Al v T rfl<|Aa (vv 0)<|Aa (vv 1) Ad)<|Oq<|Fw SQ (vv 2) (vv 0)<|nomark _))<|Bg (N:=nIr) (pn:=(Ai JK).names)<|by decide +kernel) Ad) (Aj<|Ay Qg) A8)<|Aj<|Ay<|Aw (Zu rfl) rfl I iM<|Aa (B2 (N':=["low","high"]) (mp:=[none,none]) rfl (OC rfl U (vv 0)<|B9 (vv 0) (Cf Ae) Bn) (λ_ _ _ _=>(Hc (n:=2) rfl<|Bx (Ax (i:=0) JT rfl oI oJ)<|Bx (Ax (i:=1) JT rfl oI oJ) Eu)) (λ_ _ _ _=>Bu) (λ_ _ _ _=>(Fw Io (vv 0) (vv 1)<|nomark _))<|Bg (N:=nIr) (pn:=(Ai JK).names)<|by decide +kernel) Ad),?_⟩
 rintro xs O R _ ⟨a,lo,j,rfl,hl,q⟩;refine An (λk h=>k=[oG<|Cr a,oF lo,oF j]/\Yg a lo j=true/\Sub O h) (λZ Q=>?_) ?_;refine Ab (B4 a) λJ b=>?_;refine cmap a B6 (λx=>.D<|.bool<|decide (lo<=x/\x<j)) (λk=>∃o,k=[o,oF j,oF lo]) ⟨none,rfl⟩ Ac (big<|by omega) (λ_=>B4 a) ?_ ?_;rintro i x τ' l W iw ⟨o,rfl⟩ hW;have t:=hW [some<|B6 x,oF j,oF lo] ⟨_,rfl⟩;refine⟨x,j,rfl,br (λc=>?_) λc=>?_⟩;have c:=aS c;have e:decide (lo<=x/\x<j)=decide ((lo:Int)<=(x:Int)):=dZ.mpr (by omega);rw[e]at t;exact t;have c2:=fD c;have e:decide (lo<=x/\x<j)=false:=aF (by omega);rw[e]at t;exact t;dsimp only[MR];refine AB (g:=λx=>decide (lo<=x/\x<j)) Ac<|br (λc=>⟨_,Sub.refl,?_⟩) λc=>Q _ _ ⟨rfl,?_,(Sub.refl.new b).new b⟩;have c:Yg a lo j=false:=by unfold Yg;simpa using c
 have:=q _<|(Sub.refl.new (m:=.lst []) b).new (m:=.lst<|a.map λx=>.D<|.bool<|decide (lo<=x/\x<j)) b;unfold ris at this;rw[c]at this;exact this;unfold Yg;simpa using c;rintro k B ⟨rfl,V,L⟩;have M:J7 (a.map λ(n:Nat)=>PyData.int n) (some 1) none=(a.drop 1).map λ(n:Nat)=>PyData.int n:=Xy _ _ 1;have S:(Xr (a.map λ(n:Nat)=>PyData.int n)<|J7 (a.map λ(n:Nat)=>PyData.int n) (some 1) none).length=(a.zip<|a.drop 1).length:=by rw[Gr,M,B_,B_,List.length_zip]
 refine Ab (B4 a)<|Ab (x:=(J7 (a.map λ(n:Nat)=>PyData.int n) (some 1) none).map AV.D) rfl<|Ab (En a)<|Ab (Cw _) ⟨λd hd=>?_,λJ b=>?_⟩;obtain⟨n,_,rfl⟩:=M_.mp hd;exact⟨_,rfl⟩;refine E8 (λi l k h=>∃u z,k=[u,z]/\l=((a.zip<|a.drop 1).take i).map (λp=>.D<|.bool<|decide (p.1<p.2))/\h=Am B J (.lst l)) ⟨none,none,rfl,rfl,rfl⟩ (λ_ _ _ _ _=>⟨B4 a,rfl⟩) ?_ ?_;rintro i y l k h W hy ⟨u,z,rfl,rfl,rfl⟩ hW;obtain⟨d1,d2,h1,h2,rfl⟩:=Ri hy;rw[F_]at h1;obtain⟨x1,Y,rfl⟩:=W_.mp h1;rw[M,F_]at h2;obtain⟨r,X,rfl⟩:=W_.mp h2;have C:(a.zip<|a.drop 1)[i]?=some (x1,r):=by rw[List.getElem?_zip_eq_some];exact⟨Y,X⟩
 refine⟨rfl,Fd rfl ⟨Ac,VN<|by rw[B_,aD,List.length_zip];omega,hW _ _ _ ⟨_,_,rfl,?_,C0⟩⟩⟩;rw[cW,C,P_];have e:decide ((x1:Int)<(r:Int))=decide (x1<r):=dZ.mpr (by omega);show _++[AV.D<|.bool<|decide ((x1:Int)<(r:Int))]=_;rw[e];rfl;rintro l k h ⟨u,z,rfl,rfl,rfl⟩;rw[S,cU];refine AB (g:=λp:Nat×Nat=>decide (p.1<p.2)) Ac ⟨_,Sub.refl,?_⟩;have:=q _<|L.new (m:=.lst<|(a.zip<|a.drop 1).map λp=>.D<|.bool<|decide (p.1<p.2))<|L.none b;unfold ris at this;rw[V,eV,<- DB]at this;exact this
abbrev nAe:oA Str:=qA
def Qa3:FnScope nAe qA (Ai QA):=⟨rfl,rfl,rfl,by decide +kernel,rfl,by decide +kernel,by decide +kernel⟩
def VU:ASp:=λc b R=>∃(g:Gam) (m:Nat) (ns:oA Nat),c=[.D<|Az g,.D<|.int m,.D<|Cr ns]/\ns.length<=500000/\∀ a,Sub b a->R (.D<|.bool<|ris ns 0<|g.pl.length+m) a
def VV{n:Nat}(F:Fun K "are_ends" "are_ends" QA f fd) (a:VCal P w K mg base n "is_rising" oR OT) (c:mg "len" = none):FnOk P w K mg base Ez (n+1) f fd qA (G6 K 3 VU):=by refine F.vok Qa3 λo A b s H E k=>⟨_,(Aj<|Ay<|Al a k rfl<|Aa (vv 2)<|Aa Ae<|Aa (Bb A5 (Aw Br rfl c aA<|Aa (Ar A0 (vv 0) Ae) Ad)<|vv 1) Ad),?_⟩;rintro p l R _ ⟨g,m,i,rfl,e,q⟩;refine Ab (Ak (j:=0) rfl) ⟨i,0,g.pl.length+m,?_,e,λd h=>⟨_,Sub.refl,q _ h⟩⟩;rw[B_];rfl
def X8(B:oA Arw)(a:Arw):Bool:=match B.getLast? with
 |none=>true
 |some b=>Fk (Bk b)<|Bk a
def mbh(g:Gam)(m:Nat)(B:oA Arw)(a:Arw):Bool:=ris a.ts g.pl.length (g.pl.length+m)&&X8 B a
abbrev nMb:oA Str:=["game","many","ahead","arrow","places","stands"]
def OU:FnScope nMb qE (Ai PZ):=⟨rfl,rfl,rfl,by decide +kernel,rfl,by decide +kernel,by decide +kernel⟩
def VX:ASp:=λi e R=>∃(g:Gam) (m:Nat) (h:kM) (B:oA Arw) (a:Arw),i=[.D<|Az g,.D<|.int m,.R h,.D<|Bk a]/\e h=oH (B.map λb=>.D<|Bk b)/\a.p<g.pl.length+m/\a.x<g.le.length/\a.c=none/\a.ts.length<=500000/\(∀b∈B,b.c=none)/\∀ d,Sub e d->R (.D<|.bool<|mbh g m B a) d
def VY{n:Nat}(F:Fun K "may_stand_behind" "may_stand_behind" PZ f fd) (y:VCal P w K mg base n "is_rising" oR OT) (l:VCal P w K mg base n "is_there" oQ OQ) (C:mg "len" = none):FnOk P w K mg base Ez (n+1) f fd qE (G6 K 4 VX):=by
 refine F.vok OU λS A z s H E o=>⟨_,(Ah (Aq (i:=4) OU.nd rfl oI<|Aw Br rfl C aA<|Aa (Ar A0 (vv 0) Ae) Ad)<|Ah (Aq (i:=5) OU.nd rfl oI<|Bb A5 (vv 4)<|vv 1)<|Ah (Bw (VW.pt<|Df (E7<|D5<|Al l o rfl<|Aa (Ar A0 (vv 3) Ae)<|Aa (vv 5) Ad)<|D6<|E7<|D5<|Al l o rfl<|Aa (Ar A0 (vv 3) Ae)<|Aa (Aw Br rfl C aA<|Aa (Ar A0 (vv 0) Ae) Ad) Ad) (Aj<|Ay Qg) A8)<|Ah (Bw (E7<|D5<|Al y o rfl<|Aa (Ar A0 (vv 3) Ae)<|Aa (vv 4)<|Aa (vv 5) Ad) (Aj<|Ay Qg) A8)<|Aj<|Ay<|SJ (Fw (Gj o) (Aw Br rfl C aA<|Aa (vv 2) Ad) Ae<|nomark _)<|Oq<|Fw (TZ o) (Ar A0 (vv 2)<|Hd Ae) (vv 3)<|nomark _),?_⟩
 rintro Q t R _ ⟨g,m,u,B,a,rfl,I,hp,hx,hc,M,O,q⟩;refine An (λe d=>e=[oG<|Az g,oF m,oE u,oG<|Bk a,oF g.pl.length,none]/\t=d) (λZ h=>?_) ?_;refine Ab (Ak (j:=0) rfl)<|h _ _ ⟨?_,rfl⟩;rw[B_];rfl;rintro e _ ⟨rfl,rfl⟩;refine An (λe d=>e=[oG<|Az g,oF m,oE u,oG<|Bk a,oF g.pl.length,oF ((g.pl.length+m:Nat):Int)]/\t=d) (λZ h=>h _ _ ⟨rfl,rfl⟩) ?_;rintro e _ ⟨rfl,rfl⟩;refine An (λe d=>e=[oG<|Az g,oF m,oE u,oG<|Bk a,oF g.pl.length,oF ((g.pl.length+m:Nat):Int)]/\t=d) (λZ h=>?_) ?_;refine Ab (Ak (j:=0) rfl) ⟨a.p,((g.pl.length+m:Nat):Int),rfl,J9 ?_<|Ab (Ak (j:=1) rfl)<|Ab (Ak (j:=1) rfl) ⟨a.x,((g.le.map PyData.str).length:Nat),rfl,J9 ?_<|h _ _ ⟨rfl,rfl⟩⟩⟩;unfold thr;rw[aN<|by omega];rfl;unfold thr;rw[B_,aN<|by omega];rfl;rintro e _ ⟨rfl,rfl⟩;refine An (λe d=>e=[oG<|Az g,oF m,oE u,oG<|Bk a,oF g.pl.length,oF ((g.pl.length+m:Nat):Int)]/\ris a.ts g.pl.length (g.pl.length+m)=true/\Sub t d) (λZ h=>?_) ?_;refine Ab (CW (a:=a)) ⟨a.ts,g.pl.length,g.pl.length+m,rfl,M,λG k=>br (λc=>⟨_,Sub.refl,?_⟩) λc=>h _ _ ⟨rfl,by simpa using c,k⟩⟩;have c:ris a.ts g.pl.length (g.pl.length+m)=false:=by simpa using c
 have:=q _ k;unfold mbh at this;rw[c]at this;exact this;rintro e G ⟨rfl,v,k⟩;have r:=q _ k;unfold mbh X8 at r;rw[v,eV]at r;refine Ab (k _ _ I) ⟨Ff _,Ff _,?_⟩;rw[Kh];rcases fM B with rfl|⟨J,b,rfl⟩;exact Fd (by simp) ⟨_,Sub.refl,r⟩;have N:atI ((J.concat b).map λb=>AV.D<|Bk b) (-1)=oG (Bk b):=by rw[dE,P_];exact Kw _ _
 have L:(J.concat b).getLast?=some b:=by rw[dE];simp
 rw[L]at r;refine J9 (aF<|by rw[B_,List.length_concat];omega)<|Ab (k _ _ I)<|Ab N ⟨Hy b,Hy a,O9 ?_,_,Sub.refl,r⟩;rw[O b<|by simp,hc]
structure TxIn(g:Gam)(s:Say):Prop where
 p0:0<g.pl.length
 p1:g.pl.length<=3
 l1:g.le.length<=3
 pn:Nms (g.pl.map (·.1))
 ln:Nms g.le
 sa:SayOk g s 8
theorem TxIn.c{g:Gam}{s:Say}(h:TxIn g s){a:Arw}(ha:a∈s.as):a.c=none:=by
 have:=(h.sa.a a ha).c;cases c:a.c with
 |none=>rfl
 |some v=>rw[c]at this;cases this
def TxIn.tn{g:Gam}{s:Say}(h:TxIn g s){a:Arw}(ha:a∈s.as):a.ts.length<=2:=by have:=(h.sa.su a ha).length_le;have:=h.sa.o;rw[fG]at *;omega
def TxIn.en{g:Gam}{s:Say}(h:TxIn g s):s.es.length<=5:=by have:=h.sa.e.length_le;have:=h.sa.o;have:=h.p1;rw[dC]at *;omega
def TxIn.sh{g:Gam}{s:Say}(h:TxIn g s):ShIn g s :=
 ⟨h.p1,λp hp=>h.pn.n _<|M_.mpr ⟨p,hp,rfl⟩,h.ln.n,by have:=h.sa.o;omega,by have:=h.sa.n;omega,λa ha=>(h.sa.a a ha).p,λa ha=>(h.sa.a a ha).x,λa ha t b=>((h.sa.a a ha).t t b).2,λa ha=>by have:=h.tn ha;omega,λa ha=>h.c ha,λe he=>bC.mp<|h.sa.e.subset he,by have:=h.en;omega⟩
def DC(z:Str):Prop:=32∉z.cps.toList/\10∉z.cps.toList
def Vu{z:Str}(h:lets z):DC z:=⟨λc=>by have:=h _ c;omega,λc=>by have:=h _ c;omega⟩
def HQ:∀i:Fin 12,32∉(toS (i.val:Int)).cps.toList/\10∉(toS (i.val:Int)).cps.toList:=by decide +kernel
def Tw{n:Nat}(h:n<12):DC (toS (n:Int)):=HQ ⟨n,h⟩
def VZ:DC "arrow" /\ DC ":" /\ DC "ends" /\ DC "own" := by unfold DC;decide +kernel
def G8:(" " : Str)=⟨#[32]⟩:=by decide +kernel
def N5:("\n" : Str)=⟨#[10]⟩:=by decide +kernel
def Eb(z:Str)(ws:oA Str):Txt.join z ws=Str.join z ws:=dD z ws
def TxIn.st{g:Gam}{s:Say}(h:TxIn g s){k:Nat}(hk:k<g.pl.length+s.own):DC (Dx g k):=by unfold Dx;by_cases h1:k<g.pl.length;rw[D_ h1];exact Vu<|h.pn.l _<|M_.mpr ⟨_,aL h1,rfl⟩;rw[bG<|by omega];have:=h.sa.o;exact Tw<|by omega
def TxIn.rows{g:Gam}{s:Say}(h:TxIn g s):∀ws∈Ca g s,ws≠[]/\∀z∈ws,DC z:=by obtain⟨d,j,i,k⟩:=VZ;have b:=h.sh;intro ws hws;rcases Z_.mp hws with rfl|hws;refine⟨f_ _ _,λz hz=>?_⟩;simp only[List.mem_cons,List.not_mem_nil,or_false]at hz;rcases hz with rfl|rfl;exact k;have:=b.o;exact Tw (by omega);rcases U_.mp hws with hws|hws;obtain⟨a,ha,rfl⟩:=M_.mp hws;refine⟨by unfold C1 X0;exact f_ _ _,λz hz=>?_⟩;rcases U_.mp hz with hz|hz;unfold X0 at hz;simp only[List.mem_cons,List.not_mem_nil,or_false]at hz;rcases hz with rfl|rfl|rfl|rfl;exact d;exact h.st<|b.p a ha;unfold Xz;have hx:=b.x a ha;rw[L_,D_ hx];exact Vu<|h.ln.l _<|aL hx;exact j;obtain⟨t,c,rfl⟩:=M_.mp hz;exact h.st<|b.t a ha t c;rw[Y_.mp hws];refine⟨f_ _ _,λz hz=>?_⟩;rcases U_.mp hz with hz|hz;rw[Y_.mp hz];exact i;obtain⟨t,c,rfl⟩:=M_.mp hz;exact h.st<|b.e t c
def N6{ws:oA Str}(h:ws≠[]/\∀z∈ws,DC z):Txt.split (Txt.join " " ws) " " = ws:=by rw[Eb,G8];exact K1 h.1 λz hz=>(h.2 z hz).1
def Tx{a:oA<|oA Str}(b:a≠[])(h:∀ws∈a,ws≠[]/\∀z∈ws,DC z):Txt.split (Txt.join "\n"<|a.map<|Txt.join " ") "\n" = a.map (Txt.join " "):=by rw[Eb,N5];refine K1 (by simpa using b) λz hz=>?_;obtain⟨ws,hws,rfl⟩:=M_.mp hz;rw[Eb,G8];exact N4 (by decide) λz hz=>((h ws hws).2 z hz).2
def OV:Bz (.str "own"):=Gm<|by decide +kernel
def HR:∀i:Fin 12,PyData.canLay0 (.str<|toS (i.val:Int))=true:=by decide +kernel
def DE{n:Nat}(h:n<12):Bz (.list [.str "own",.str<|toS (n:Int)]):=by have a:=OV.1;have b:PyData.canLay0 (.str<|toS (n:Int))=true:=HR ⟨n,h⟩;refine⟨?_,by simp[PyData.depth,PyData.depthAll]⟩;simp only[PyData.canLay0,PyData.canLayAll0]at a b ⊢;rw[a,b];rfl
def asc(z:Str):Prop:=∀c∈z.cps.toList,c<=126
def asc_ok{z:Str}(h:asc z):PyData.canLay0 (.str z)=true:=by show PyData.strOk z=true;unfold PyData.strOk;rw[Array.all_eq_true];intro i a;have:=h z.cps[i] (by simp);simp;omega
theorem N7{c:Nat}{p:Str}:∀{A:oA Str},p∈A->(∀k∈p.cps.toList,k∈(Str.join ⟨#[c]⟩ A).cps.toList)/\p.cps.toList.length<=(Str.join ⟨#[c]⟩ A).cps.toList.length
 |[x],h=>by rw[Y_.mp h];exact⟨λk hk=>hk,H_ _⟩
 |x::y::r,h=>by rw[Dt];rcases Z_.mp h with rfl|h;exact⟨λk hk=>cK _ hk,by simp⟩;have:=N7 (c:=c) h;refine⟨λk hk=>aW _<|K_ _<|this.1 k hk,?_⟩;simp only[List.length_append,List.length_cons];have:=this.2;omega
theorem Rs{c:Nat}:∀(A:oA Str),A.length<=(Str.join ⟨#[c]⟩ A).cps.toList.length+1
 |[]=>aU _
 |[x]=>by simp
 |x::y::r=>by rw[Dt];have:=Rs (c:=c)<|y::r;simp only[List.length_append,List.length_cons]at this ⊢;omega
def Jg(t:Str)(c:Nat):(Txt.split t ⟨#[c]⟩).length<=t.length+1:=by have:=Rs (c:=c)<|Txt.split t ⟨#[c]⟩;rw[dI,<- Dq]at this;exact this
def Dm{t:Str}{c:Nat}{p:Str}(h:p∈Txt.split t ⟨#[c]⟩):(asc t->asc p)/\p.length<=t.length:=by have:=N7 (c:=c) h;rw[dI,<- Dq,<- Dq]at this;exact⟨λha k hk=>ha k<|this.1 k hk,this.2⟩
def wrd(t:Str):oA (oA Str):=(Txt.split t "\n").map λr=>Txt.split r " "
theorem Rt:∀(a b:oA Str),PyData.eqvAll (a.map .str) (b.map .str)=decide (a=b)
 |[],[]=>by simp[PyData.eqvAll]
 |[],_::_=>by simp[PyData.eqvAll]
 |_::_,[]=>by simp[PyData.eqvAll]
 |x::a,y::b=>by simp only[List.map_cons,PyData.eqvAll,Rt a b];rw[show PyData.eqv (.str x) (.str y)=decide (x=y) by rw[Hu rfl rfl];exact dZ.mpr ⟨λh=>by injection h,λh=>by rw[h]⟩,<- Bool.decide_and];exact dZ.mpr ⟨λh=>by rw[h.1,h.2],λh=>by simpa using h⟩
theorem Me:∀{ws:oA Str},(∀z∈ws,asc z)->PyData.canLayAll0 (ws.map .str)=true
 |[],_=>rfl
 |x::r,h=>by show(PyData.canLay0 (.str x)&&PyData.canLayAll0 (r.map .str))=true;rw[asc_ok<|h x V_,Me λz hz=>h z<|K_ _ hz];rfl
theorem Mf:∀(ws:oA Str),PyData.depthAll (ws.map .str)<=1
 |[]=>by simp[PyData.depthAll]
 |x::r=>by have:=Mf r;simp only[List.map_cons,PyData.depthAll,PyData.depth];omega
def HS{ws:oA Str}(h:∀z∈ws,asc z):Bz (.list<|ws.map .str):=⟨Me h,by have:=Mf ws;simp only[PyData.depth];omega⟩
def Ru{ws:oA Str}(h:∀z∈ws,asc z):Bz (.tuple<|ws.map .str):=⟨Me h,by have:=Mf ws;simp only[PyData.depth];omega⟩
def Hz(m:Nat):oA Str:=["own",toS (m:Int)]
def Vv(ws:oA Str):oB Nat:=if ws=Hz 0 then some 0 else if ws=Hz 1 then some 1 else if ws=Hz 2 then some 2 else none
def WA:oB Nat->kL
 |none=>.none
 |some k=>.int (k:Nat)
def DF{m:Nat}(h:m<=2):Vv (Hz m)=some m:=by
 have h2:∀i:Fin 3,Vv (Hz i.val)=some i.val:=by decide +kernel
 exact h2 ⟨m,by omega⟩
def Mg{ws:oA Str}{m:Nat}(h:Vv ws=some m):ws=Hz m/\m<=2:=by unfold Vv at h;split at h;cases h;exact⟨by assumption,by decide⟩;split at h;cases h;exact⟨by assumption,by decide⟩;split at h;cases h;exact⟨by assumption,by decide⟩;cases h
abbrev nRo:oA Str:=["words","many"]
def WB:FnScope nRo oP (Ai QB):=⟨rfl,rfl,rfl,by decide +kernel,rfl,by decide +kernel,by decide +kernel⟩
def WC:ASp:=λc b R=>∃(q:kM) (ws:oA Str),c=[.R q]/\b q=oH (ws.map Ag)/\(∀z∈ws,asc z)/\∀ a,Sub b a->R (.D<|WA<|Vv ws) a
def Jy{a:M}{p:kM}{xs:oA AV}{ds:oA kL}(h:a p=oH xs)(hd:dats xs=some ds):see a (.R p)=some (.list ds):=by
 show(match a p with
  |some (.lst xs)=>match dats xs with
   |some ds=>some (PyData.list ds)
   |none=>none
  |_=>none)=_
 rw[h];show(match dats xs with
   |some ds=>some (PyData.list ds)
   |none=>none)=_
 rw[hd]
def WD{n:Nat}{M:Tok}(F:Fun K "read_own" "read_own" QB f fd) (G:mg "range" = none) (C:mg "str" = none) (l:mg "MOST_OWN" = some (.int 2 M)):FnOk P w K mg base Ez (n+1) f fd oP (G6 K 1 WC):=by
 refine F.vok WB λQ A u s H E L=>⟨_,(Ah (Di cD rfl (Co rfl G<|Aa (Bb A5 (Ul rfl l (v:=.int 2) ⟨_,rfl⟩ λ_=>Ef) Ae) Ad) (Ax (i:=1) WB.nd rfl oI)<|Aj<|Bw (Bc (Gj L) (vv 0) (Cb<|Aa Ap<|Aa (Bi Ny rfl C dW<|Aa (vv 1) Ad) Ad)<|nomark _) (Aj<|Ay<|vv 1) A8)<|Aj<|Ay Cg),?_⟩
 rintro O x R _ ⟨r,ws,rfl,B,ha,q⟩;refine An (λd a=>Vv ws=none/\∃b,d=[oE r,b]/\Sub x a) (λZ I=>?_) (by rintro d a ⟨e,b,J,S⟩;subst J;have:=q _ S;rw[e]at this;exact⟨_,Sub.refl,this⟩);refine⟨by decide,by decide,?_⟩;refine Fe (λi d a=>∃b,d=[oE r,b]/\(∀j,j<i->ws≠Hz j)/\Sub x a) ⟨none,rfl,λj hj=>absurd hj<|fJ _,Sub.refl⟩ (λ_ _ _ _=>trivial) ?_ ?_;rintro i y d o U hy ⟨b,rfl,g,k⟩ bu;have N:i<3:=(E_.mp hy).1;have z:=Eg _ _ _ hy;rw[Int.zero_add]at z;subst z;refine⟨lg<|by omega,λp hp=>?_⟩;have T:r≠p:=by rintro rfl;rw[k _ _ B]at hp;cases hp
 have t:=k.new (m:=.lst [.D<|.str "own",.D<|.str<|Str.ofString<|toString (i:Int)])<|k.none hp;refine Ab (Jy (t _ _ B)<|Eo ws) (Ab (Jy Ac<|Eo<|Hz i) ⟨HS ha,DE<|by omega,?_⟩);show brP (PyData.eqvAll (ws.map .str)<|(Hz i).map .str) _ _;rw[Rt];refine dif (λc=>?_) λc=>bu _ _ ⟨_,rfl,?_,t⟩;have:=q _ t;rw[c,DF<|by omega]at this;exact⟨_,Sub.refl,this⟩;intro j hj;rcases gG.mp hj with h|rfl;exact g j h;exact c;rintro d o ⟨b,rfl,g,k⟩;refine I _ _ ⟨?_,b,rfl,k⟩;unfold Vv;rw[N_<|g 0<|by decide,N_<|g 1<|by decide,N_<|g 2<|by decide]
def Pe(zs ws:oA Str):Bool:=ws.all λw=>(idx zs w).isSome
def Mw(zs ws:oA Str):oA Nat:=ws.map λw=>(idx zs w).getD 0
def rdT(zs ws:oA Str):oB (oA Nat):=if Pe zs ws=true then some (Mw zs ws) else none
def Ty:oB (oA Nat)->kL
 |none=>.none
 |some a=>Cr a
def Ko{zs ws:oA Str}{ns:oA Nat}(h:rdT zs ws=some ns):ns.length=ws.length/\∀n∈ns,n<zs.length:=by unfold rdT at h;split at h;rename_i c;cases h;refine⟨by unfold Mw;rw[B_],λn a=>?_⟩;obtain⟨w,b,rfl⟩:=M_.mp a;obtain⟨k,hk⟩:=bO.mp<|aV.mp c w b;rw[hk];exact Mc hk;cases h
abbrev nRt:oA Str:=oS
def Qa5:FnScope nRt oS (Ai JM):=⟨rfl,rfl,rfl,by decide +kernel,rfl,by decide +kernel,by decide +kernel⟩
def WE:(qO:oA Str).Nodup:=by decide +kernel
def WF:(qO:oA Str).Nodup:=by decide +kernel
def OW:ASp:=λc b R=>∃(q d:kM) (zs ws:oA Str),c=[.R q,.R d]/\b q=oH (ws.map Ag)/\X3 b d zs/\ws.length<=500000/\∀ a,Sub b a->R (.D<|Ty<|rdT zs ws) a
def N8(o:oB Nat):(Md o).isSome=o.isSome:=by cases o<;>rfl
def WG{n:Nat}(F:Fun K "read_stands" "read_stands" JM f fd) (Q:mg "all" = none) (S:mg "tuple" = none):FnOk P w K mg base Ez (n+1) f fd oS (G6 K 2 OW):=by
 refine F.vok Qa5 λav A G s H E I=>⟨_,(Ah (Bw (E7<|D5<|Aw (Zu rfl) rfl Q iM<|Aa (B2 (N':=qO) (mp:=[none,some 1]) rfl (Cc<|vv 0) (λ_ _ _ _=>(Ax (i:=0) WE rfl oI oJ)) (λ_ _ _ _=>Bu) (λ_ _ _ _=>(NA (Gd I) (vv 0)<|vv 1))<|Bg (N:=nRt) (pn:=(Ai JM).names)<|by decide +kernel) Ad) (Aj<|Ay Cg) A8)<|Aj<|Ay<|Bi D9 rfl S bT<|Aa (B2 (N':=qO) (mp:=[none,some 1]) rfl (Cc<|vv 0) (λ_ _ _ _=>(Ax (i:=0) WF rfl oI oJ)) (λ_ _ _ _=>Bu) (λ_ _ _ _=>(Ki (Gd I) (vv 1)<|vv 0))<|Bg (N:=nRt) (pn:=(Ai JM).names)<|by decide +kernel) Ad),?_⟩
 rintro xs O R _ ⟨B,d,b,ws,rfl,u,⟨p,y,hv⟩,Y,q⟩;refine An (λh z=>h=[oE B,oE d]/\Pe b ws=true/\Sub O z) (λZ U=>?_) ?_;refine Ab (Ao u) λj a=>?_;have l:B≠j:=by rintro rfl;rw[u]at a;cases a
 have t:d≠j:=by rintro rfl;rw[y]at a;cases a
 refine cmap ws _ (λw=>.D<|.bool (idx b w).isSome) (λh=>∃o,h=[o,oE d]) ⟨none,rfl⟩ Ac (big<|by omega) (λ_=>Ao<|by rw[Af l,Af l];exact u) ?_ ?_;rintro i x C X W J ⟨o,rfl⟩ e;refine Ab (x:=MO.dk p) (by rw[Af t,Af t];exact y)<|Ab (x:=C2 p<|.inr x) rfl ?_;rw[hv x,N8];exact e _ ⟨_,rfl⟩;dsimp only[MR];refine AB (g:=λw=>(idx b w).isSome) Ac (br (λc=>⟨_,Sub.refl,?_⟩) λc=>U _ _ ⟨rfl,by unfold Pe;simpa using c,(Sub.refl.new a).new a⟩);have c:Pe b ws=false:=by unfold Pe;simpa using c
 have:=q _<|(Sub.refl.new (m:=.lst []) a).new (m:=.lst<|ws.map λw=>.D<|.bool (idx b w).isSome) a;unfold rdT at this;rw[c]at this;exact this;rintro h V ⟨rfl,M,r⟩;have v:=r _ _ u;have L:=r _ _ y;refine Ab (Ao v) λj a=>?_;have l:B≠j:=by rintro rfl;rw[v]at a;cases a
 have t:d≠j:=by rintro rfl;rw[L]at a;cases a
 refine cmap ws _ (λw=>B6<|(idx b w).getD 0) (λh=>∃o,h=[o,oE d]) ⟨none,rfl⟩ Ac (big<|by omega) (λ_=>Ao<|by rw[Af l,Af l];exact v) ?_ ?_;rintro i x C X W J ⟨o,rfl⟩ e;obtain⟨k,hk⟩:=bO.mp<|aV.mp M x<|aB J;have e:=e [some<|Ag x,oE d] ⟨_,rfl⟩;rw[hk]at e;have hx:C2 p (.inr x)=some (B6 k):=by rw[hv x,hk];rfl
 exact Ab (x:=MO.dk p) (by rw[Af t,Af t];exact L)<|Ab (x:=C2 p<|.inr x) rfl<|Ab hx e
 have T:(ws.map λw=>B6<|(idx b w).getD 0)=(Mw b ws).map B6:=by unfold Mw;rw[aJ];rfl
 rw[T];refine Ab (Ao Ac)<|Ab (En _) ⟨_,Sub.refl,?_⟩;have:=q _<|(r.new (m:=.lst [])<|r.none a).new (m:=.lst<|(Mw b ws).map B6)<|r.none a;unfold rdT at this;rw[R_ M]at this;exact this
def Ia(ws:oA Str)(n:Nat):De (ws.map Ag) (some (n:Int)) none=(ws.drop n).map Ag:=Gy Ag ws n
def Pf(ws:oA Str):Bool:=decide (4<=ws.length)&&(decide (ws[0]?=some ("arrow" : Str))&&decide (ws[3]?=some (":" : Str)))
def R8(g:Gam)(m:Nat)(ws:oA Str):oB Arw:=if Pf ws=true then
  match idx (Cz g m) (ws.getD 1 ""),idx g.le<|ws.getD 2 "",rdT (Cz g m) (ws.drop 4) with
  |some p,some x,some a=>some ⟨p,x,a,none⟩
  |_,_,_=>none
 else none
def DG:oB Arw->kL
 |none=>.none
 |some a=>Bk a
abbrev nRr:oA Str:=["words","stands","letters","targets"]
def WH:FnScope nRr qF (Ai QD):=⟨rfl,rfl,rfl,by decide +kernel,rfl,by decide +kernel,by decide +kernel⟩
def WI:ASp:=λc b R=>∃(q d e:kM) (g:Gam) (m:Nat) (ws:oA Str),c=[.R q,.R d,.R e]/\b q=oH (ws.map Ag)/\X3 b d (Cz g m)/\X3 b e g.le/\ws.length<=500000/\∀ a,Sub b a->R (.D<|DG<|R8 g m ws) a
def WJ{n:Nat}(F:Fun K "read_arrow" "read_arrow" QD f fd) (N:VCal P w K mg base n "read_stands" oS OW) (ah:mg "len" = none):FnOk P w K mg base Ez (n+1) f fd qF (G6 K 3 WI):=by
 refine F.vok WH λav A V s H E B=>⟨_,(Ah (Bw (VW.pt<|Df (Bc Io (Aw Br rfl ah aA<|Aa (vv 0) Ad) Ae<|nomark _)<|Df (Bc Re (Ar A0 (vv 0) Ae) Ap<|nomark _)<|D6<|Bc Re (Ar A0 (vv 0) Ae) Ap<|nomark _) (Aj<|Ay Cg) A8)<|Ah (Aq (i:=3) WH.nd rfl oI<|Al N B rfl<|Aa (B9 (vv 0) (Cf Ae) Bn)<|Aa (vv 1) Ad)<|Ah (Bw (VW.pt<|Df (Ir (Gd B) (Ar A0 (vv 0) Ae)<|vv 1)<|Df (Ir (Gd B) (Ar A0 (vv 0) Ae)<|vv 2)<|D6<|Bc Hl (vv 3) Cg<|nomark _) (Aj<|Ay Cg) A8)<|Aj<|Ay<|Cl<|Aa (Ki (Gd B) (vv 1)<|Ar A0 (vv 0) Ae)<|Aa (Ki (Gd B) (vv 2)<|Ar A0 (vv 0) Ae)<|Aa (vv 3) Ad),?_⟩
 rintro xs r R _ ⟨U,d,e,g,m,ws,rfl,C,hd,he,hl,q⟩;have O:Pf ws=false->∀ a,Sub r a->R (.D .none) a:=λh a S=>by have:=q _ S;unfold R8 at this;rw[h]at this;exact this
 have I:∀{k:Nat},k<ws.length->atI (ws.map Ag) (k:Int)=some (Ag<|ws.getD k ""):=λ{k} hk=>Ak (by rw[F_,L_,D_ hk];rfl);have J:∀{k:Nat},k<ws.length->ws[k]?=some (ws.getD k ""):=λ{k} hk=>by rw[L_,D_ hk];rfl
 refine An (λl a=>l=[oE U,oE d,oE e,none]/\Pf ws=true/\4<=ws.length/\r=a) (λZ y=>?_) ?_;refine Ab C<|dif (λc=>Fd rfl ⟨_,Sub.refl,O ?_ _ Sub.refl⟩) λc=>?_;rw[B_]at c;unfold Pf;rw[aF<|by omega];rfl;rw[B_]at c;have Q:4<=ws.length:=Int.ofNat_le.mp<|Int.not_lt.mp c;refine Ab C (Ab (I (k:=0)<|by omega)<|br (λc=>Fd rfl ⟨_,Sub.refl,O ?_ _ Sub.refl⟩) λc=>?_);have c:ws.getD 0 "" ≠ ("arrow" : Str):=by simpa using c
 unfold Pf;rw[J (k:=0)<|by omega,aF (p:=some (ws.getD 0 "")=some ("arrow" : Str)) λz=>c<|aE z];simp;have c0:ws.getD 0 "" = ("arrow" : Str):=by simpa using c
 refine Ab C (Ab (I (k:=3)<|by omega)<|br (λc=>⟨_,Sub.refl,O ?_ _ Sub.refl⟩) λc=>y _ _ ⟨rfl,?_,Q,rfl⟩);have c:ws.getD 3 "" ≠ (":" : Str):=by simpa using c
 unfold Pf;rw[J (k:=3)<|by omega,aF (p:=some (ws.getD 3 "")=some (":" : Str)) λz=>c<|aE z];simp;have c:ws.getD 3 "" = (":" : Str):=by simpa using c
 unfold Pf;rw[J (k:=0)<|by omega,J (k:=3)<|by omega,c0,c,aN Q];simp;rintro l _ ⟨rfl,hh,Q,rfl⟩;have q1:∀ a,Sub r a->R (.D<|DG (match idx (Cz g m) (ws.getD 1 ""),idx g.le<|ws.getD 2 "",rdT (Cz g m) (ws.drop 4) with
  |some p,some x,some t=>some ⟨p,x,t,none⟩
  |_,_,_=>none)) a:=λa S=>by
  have:=q _ S;unfold R8 at this;rw[R_ hh]at this;exact this
 refine An (λl a=>l=[oE U,oE d,oE e,oG<|Ty<|rdT (Cz g m)<|ws.drop 4]/\Sub r a) (λZ y=>?_) ?_;refine Ab (Ao C) λp hp=>?_;have o:Sub r (Am r p<|.lst<|De (ws.map Ag) (some 4) none):=Sub.refl.new hp;refine⟨p,d,Cz g m,ws.drop 4,rfl,?_,hd.sub o,by rw[aH];omega,λμ2 S2=>y _ _ ⟨rfl,λb mm h=>S2 b mm<|o b mm h⟩⟩;rw[Ac,show De (ws.map Ag) (some 4) none=(ws.drop 4).map Ag from Ia _ 4];rintro l T ⟨rfl,o⟩;have j:=q1 _ o;obtain⟨W,X,vd⟩:=hd.sub o;obtain⟨Y,ee,ve⟩:=he.sub o;have G:=o _ _ C;have v:=vd<|ws.getD 1 "";have u:=ve<|ws.getD 2 "";have M:=I (k:=1) (by omega);have L:=I (k:=2) (by omega);generalize ws.getD 1 "" = w1 at M v j;generalize ws.getD 2 "" = w2 at L u j;generalize rdT (Cz g m) (ws.drop 4)=o3 at j;generalize idx (Cz g m) w1=o1 at v j;generalize idx g.le w2=o2 at u j;refine An (λl a=>l=[oE U,oE d,oE e,oG<|Ty o3]/\(∃p x t,o1=some p/\o2=some x/\o3=some t)/\T=a) (λZ y=>?_) ?_
 ·refine Ab G<|Ab M<|Ab X<|Ab (x:=C2 W<|.inr w1) rfl ?_;cases o1 with
  |none=>exact Fd (by rw[v];rfl) (Fd rfl ⟨_,Sub.refl,j⟩)
  |some p=>
   refine J9 (by rw[v];rfl)<|Ab G<|Ab L<|Ab ee<|Ab (x:=C2 Y<|.inr w2) rfl ?_;cases o2 with
   |none=>exact Fd (by rw[u];rfl) (Fd rfl ⟨_,Sub.refl,j⟩)
   |some x=>
    refine J9 (by rw[u];rfl) ?_;cases o3 with
    |none=>exact Fd rfl ⟨_,Sub.refl,j⟩
    |some t=>exact J9 rfl<|y _ _ ⟨rfl,⟨p,x,t,rfl,rfl,rfl⟩,rfl⟩
 rintro l _ ⟨rfl,⟨p,x,t,rfl,rfl,rfl⟩,rfl⟩;exact Ab G<|Ab M<|Ab X<|Ab (x:=C2 W<|.inr w1) rfl<|Ab v<|Ab G<|Ab L<|Ab ee<|Ab (x:=C2 Y<|.inr w2) rfl<|Ab u ⟨_,Sub.refl,j⟩
def E9(d:kM)(c a:M):Prop:=∀b m,b≠d->c b=some m->a b=some m
def E9.refl{b:kM}{a:M}:E9 b a a:=λ_ _ _ h=>h
def E9.new{d p:kM}{c a:M}{o:MO}(h:E9 d c a)(e:a p=none):E9 d c (Am a p o):=λb m h1 q=>by have:=h b m h1 q;rw[Af<|by intro z;subst z;rw[e]at this;cases this];exact this
def E9.k{a:kM}{c d:M}{o:MO}(h:E9 a c d):E9 a c (Am d a o):=λb m h1 q=>by rw[Af h1];exact h b m h1 q
def Pg{g:Gam}{m:Nat}(d:(g.pl.map (·.1)).Nodup)(hl:∀z∈g.pl.map (·.1),lets z)(hm:m<=2):(Cz g m).Nodup:=by
 unfold Cz;refine jV.mpr ⟨d,?_,λa ha b hb e=>?_⟩;refine(cV.mpr ?_:List.Nodup _);refine gF (λ{a b} ha hb kf e=>?_) dP;have h1:=bC.mp ha;have h2:=bC.mp hb;exact absurd e ((by decide +kernel:∀i j:Fin 3,i≠j->toS ((i.val+1:Nat):Int)≠toS ((j.val+1:Nat):Int)) ⟨a,by omega⟩ ⟨b,by omega⟩ (by intro h;have:=Fin.mk.inj h;omega));subst e;obtain⟨k,hk,rfl⟩:=M_.mp hb;have hk:=bC.mp hk;have h2:∀i:Fin 3,∃c∈(toS ((i.val+1:Nat):Int)).cps.toList,c<97:=by decide +kernel
 obtain⟨c,hc,l⟩:=h2 ⟨k,by omega⟩;have:=hl _ ha c hc;omega
def Ey{g:Gam}{m:Nat}:(Cz g m).length=g.pl.length+m:=by unfold Cz;rw[J_,B_,B_,dC]
structure GmIn(g:Gam):Prop where
 p0:0<g.pl.length
 p1:g.pl.length<=3
 l0:0<g.le.length
 l1:g.le.length<=3
 pn:Nms (g.pl.map (·.1))
 ln:Nms g.le
def Vw{g:Gam}{m:Nat}{ws:oA Str}{ns:oA Nat}(h:rdT (Cz g m) ws=some ns):ws=ns.map (Dx g):=by
 unfold rdT at h;split at h
 ·rename_i c;cases h;unfold Mw;rw[aJ];refine h_ λi=>?_;rw[F_];cases e:ws[i]? with
  |none=>rfl
  |some w=>obtain⟨k,hk⟩:=bO.mp<|aV.mp c w<|aB e;have h1:=Fp hk;have h2:=Mc hk;rw[Ey]at h2;rw[Kl h2]at h1;show some w=some (Dx g<|(idx (Cz g m) w).getD 0);rw[hk];exact h1.symm
 cases h
def DH{g:Gam}{m:Nat}{ws:oA Str}{a:Arw}(h:R8 g m ws=some a):a.p<g.pl.length+m/\a.x<g.le.length/\a.c=none/\a.ts.length<=ws.length/\(∀t∈a.ts,t<g.pl.length+m)/\ws=C1 g a:=by
 unfold R8 at h;split at h
 ·rename_i e;split at h
  ·rename_i p x y h1 h2 q;cases h;have o:=Ko q;have j:=Mc h1;rw[Ey]at j;refine⟨j,Mc h2,rfl,by rw[o.1,aH];omega,λt v=>by have:=o.2 t v;rwa[Ey]at this,?_⟩;unfold Pf at e;simp only[Bool.and_eq_true,decide_eq_true_eq]at e;obtain⟨u,d,i⟩:=e;have n:=Fp h1;rw[Kl j]at n;have z:=Fp h2;have b:ws[1]?=some (Dx g p):=by rw[aE n,L_,D_<|by omega];rfl
   have k:ws[2]?=some (Xz g x):=by unfold Xz;rw[L_ (l:=g.le),z,L_,D_<|by omega];rfl
   have s:=Vw q;show ws=([("arrow" : Str),Dx g p,Xz g x,":"]:oA Str)++y.map (Dx g);rw[<- s]
   match ws,u,d,b,k,i with
   |w0::A::C::B::r,_,d,b,k,i=>
    cases d;cases b;cases k;cases i
    rfl
  cases h
 cases h
def X9(g:Gam)(m:Nat)(ws:oA Str):oB (oA Nat):=if ws[0]?=some ("ends" : Str) then
  match rdT (Cz g m) (ws.drop 1) with
  |some a=>if ris a 0 (g.pl.length+m)=true then some a else none
  |none=>none
 else none
abbrev nRe:oA Str:=["game","many","words","ends"]
def WK:FnScope nRe qG (Ai QE):=⟨rfl,rfl,rfl,by decide +kernel,rfl,by decide +kernel,by decide +kernel⟩
def WL:ASp:=λc b R=>∃(g:Gam) (m:Nat) (q:kM) (ws:oA Str),c=[.D<|Az g,.D<|.int m,.R q]/\GmIn g/\m<=2/\b q=oH (ws.map Ag)/\0<ws.length/\ws.length<=500000/\∀ a,Sub b a->R (.D<|Ty<|X9 g m ws) a
def WM{n:Nat}(F:Fun K "read_ends" "read_ends" QE f fd) (J:VCal P w K mg base n "are_ends" qA VU) (zr:VCal P w K mg base n "numbers_by_name" oZ OS) (I:VCal P w K mg base n "read_stands" oS OW) (W:VCal P w K mg base n "stand_words" oO HI):FnOk P w K mg base Ez (n+1) f fd qG (G6 K 3 WL):=by
 refine F.vok WK λav A G s H E v=>⟨_,(Ah (Aq (i:=3) WK.nd rfl oI<|Al I v rfl<|Aa (B9 (vv 2) (Cf Ae) Bn)<|Aa (Al zr v rfl<|Aa (Al W v rfl<|Aa (vv 0)<|Aa (vv 1) Ad) Ad) Ad)<|Ah (Bw (VW.pt<|Df (Bc Re (Ar A0 (vv 2) Ae) Ap<|nomark _)<|Df (Bc Hl (vv 3) Cg<|nomark _)<|D6<|E7<|D5<|Al J v rfl<|Aa (vv 0)<|Aa (vv 1)<|Aa (vv 3) Ad) (Aj<|Ay Cg) A8)<|Aj<|Ay<|vv 3),?_⟩
 rintro xs y R _ ⟨g,m,T,ws,rfl,h,hm,N,V,hl,q⟩;have hp:=h.p1;refine An (λt a=>t=[oG<|Az g,oF m,oE T,oG<|Ty<|rdT (Cz g m)<|ws.drop 1]/\Sub y a) (λZ C=>?_) ?_;refine Ab (Ao N) λp qu=>?_;have x:Sub y (Am y p<|.lst<|De (ws.map Ag) (some 1) none):=Sub.refl.new qu;refine⟨g,m,rfl,hp,by omega,λp2 B _ e2 u=>⟨.R p2,Cz g m,rfl,Ao e2,Pg h.pn.nd h.pn.l hm,by rw[Ey];omega,λd Y _ D3 Q=>⟨p,d,Cz g m,ws.drop 1,rfl,Q _ _<|u _ _ ?_,D3,by rw[aH];omega,λX S4=>C _ _ ⟨rfl,λb m hb=>S4 b m<|Q b m<|u b m<|x b m hb⟩⟩⟩⟩;rw[Ac,show De (ws.map Ag) (some 1) none=(ws.drop 1).map Ag from Ia _ 1];rintro t L ⟨rfl,x⟩;have U:=x _ _ N;have k:∀ a,Sub L a->R (.D<|Ty<|X9 g m ws) a:=λa S=>q _ λb m hb=>S b m<|x b m hb;unfold X9 at k;have O:=λns=>Ko (zs:=Cz g m) (ws:=ws.drop 1) (ns:=ns);generalize rdT (Cz g m) (ws.drop 1)=o at k O;have r:ws[0]?=some (ws.getD 0 ""):=by rw[L_,D_ V];rfl
 rw[r]at k;have M:atI (ws.map Ag) 0=some (Ag<|ws.getD 0 ""):=Ak (j:=0) (by rw[F_,r];rfl);generalize ws.getD 0 "" = w0 at k M;refine An (λt a=>∃ns,t=[oG<|Az g,oF m,oE T,oG<|Cr ns]/\R (.D<|Cr ns) a) (λZ C=>?_) (by rintro t a ⟨ns,e,S⟩;subst e;exact⟨_,Sub.refl,S⟩);refine Ab U<|Ab M<|br (λc=>Fd rfl ⟨_,Sub.refl,?_⟩) λc=>?_;have c:w0≠("ends" : Str):=by simpa using c
 have:=k _ Sub.refl;rw[N_ λz=>c<|aE z]at this;exact this;have c:w0=("ends" : Str):=by simpa using c
 subst c;cases o with
 |none=>have:=k _ Sub.refl;rw[R_ rfl]at this;exact Fd rfl (Fd rfl ⟨_,Sub.refl,this⟩)
 |some ns=>
  refine J9 rfl ⟨g,m,ns,rfl,by have:=(O ns rfl).1;rw[aH]at this;omega,λB u=>br (λc=>⟨_,Sub.refl,?_⟩) λc=>C _ _ ⟨ns,rfl,?_⟩⟩;have c:ris ns 0 (g.pl.length+m)=false:=by simpa using c
  have:=k _ u;rw[R_ rfl]at this;dsimp only at this;rw[c]at this;exact this;have c:ris ns 0 (g.pl.length+m)=true:=by simpa using c
  have:=k _ u;rw[R_ rfl]at this;dsimp only at this;rw[c]at this;exact this
def stp(g:Gam)(m:Nat)(B:oA Arw)(ws:oA Str):oB Arw:=match R8 g m ws with
 |some a=>if mbh g m B a=true then some a else none
 |none=>none
def Gs(g:Gam)(m:Nat):oA (oA Str)->oA Arw->oA Arw
 |[],B=>B
 |ws::r,B=>match stp g m B ws with
  |some a=>Gs g m r (B++[a])
  |none=>B
def Ep(g:Gam)(m:Nat)(ws:oA Str)(r:oA<|oA Str)(B:oA Arw):Gs g m (ws::r) B=match stp g m B ws with
  |some a=>Gs g m r (B++[a])
  |none=>B:=rfl
abbrev nRa:oA Str:=["game","many","rows","stands","letters","arrows","words","arrow"]
def Ya:FnScope nRa qH (Ai QC):=⟨rfl,rfl,rfl,by decide +kernel,rfl,by decide +kernel,by decide +kernel⟩
def WN:ASp:=λh c R=>∃(g:Gam) (m:Nat) (p:kM) (e:oA kM) (W:oA<|oA Str),h=[.D<|Az g,.D<|.int m,.R p]/\GmIn g/\m<=2/\c p=oH (e.map .R)/\RowsAt c p e W/\(∀ws∈W,ws.length<=500000)/\∀d b,b d=oH ((Gs g m (W.take 8) []).map λa=>.D<|Bk a)->Sub c b->R (.R d) b
def WO{n:Nat}{t2:Tok}(F:Fun K "read_arrows" "read_arrows" QC f fd) (cMb:VCal P w K mg base n "may_stand_behind" qE VX) (zr:VCal P w K mg base n "numbers_by_name" oZ OS) (cRr:VCal P w K mg base n "read_arrow" qF WI) (vi:VCal P w K mg base n "stand_words" oO HI) (mMA:mg "MOST_ARROWS" = some (.int 8 t2)):FnOk P w K mg base Ez (n+1) f fd qH (G6 K 3 WN):=by
 refine F.vok Ya λav A outer s H E hr=>⟨_,(Ah (Aq (i:=3) Ya.nd rfl oI<|Al zr hr rfl<|Aa (Al vi hr rfl<|Aa (vv 0)<|Aa (vv 1) Ad) Ad)<|Ah (Aq (i:=4) Ya.nd rfl oI<|Al zr hr rfl<|Aa (Ar A0 (vv 0) Ae) Ad)<|Ah (Aq (i:=5) Ya.nd rfl oI<|Cb Ad)<|Ah (Di cD rfl (Cc<|B9 (vv 2) Bn<|Cf<|Ul rfl mMA (v:=.int 8) ⟨_,rfl⟩ λ_=>Ef) (Ax (i:=6) Ya.nd rfl oI)<|Ah (Aq (i:=7) Ya.nd rfl oI<|Al cRr hr rfl<|Aa (vv 6)<|Aa (vv 3)<|Aa (vv 4) Ad)<|Ah (Bw (VW.pt<|Df (Bc Hl (vv 7) Cg<|nomark _)<|D6<|E7<|D5<|Al cMb hr rfl<|Aa (vv 0)<|Aa (vv 1)<|Aa (vv 5)<|Aa (vv 7) Ad) (Aj Zx) A8)<|Aj<|Et<|Jn bW bX Dv (vv 5)<|Aa (vv 7) Ad)<|Aj<|Ay<|vv 5),?_⟩
 rintro xs L R _ ⟨g,m,p,I,W,rfl,h,hm,ep,hA,hW,q⟩;have cw:=h.p1;have lu:=h.l1;have jq:∀ L:M,items L (.D<|.tuple<|g.le.map PyData.str)=some (g.le.map Ag):=λL=>by show some ((g.le.map PyData.str).map AV.D)=_;rw[aJ];rfl
 refine An (λu o=>∃d,u=[oG<|Az g,oF m,oE p,oE d,none,none,none,none]/\X3 o d (Cz g m)/\Sub L o) (λZ N=>?_) ?_;exact⟨g,m,rfl,cw,by omega,λp2 C _ e2 S2=>⟨.R p2,Cz g m,rfl,Ao e2,Pg h.pn.nd h.pn.l hm,by rw[Ey];omega,λd μ3 _ D3 J=>N _ _ ⟨d,rfl,D3,λb m hb=>J b m<|S2 b m hb⟩⟩⟩;rintro u μ1 ⟨d,rfl,D1,S1⟩;refine An (λu o=>∃e,u=[oG<|Az g,oF m,oE p,oE d,oE e,none,none,none]/\X3 o d (Cz g m)/\X3 o e g.le/\Sub L o) (λZ N=>?_) ?_;exact Ab (Ak (j:=1) rfl) ⟨_,g.le,rfl,jq _,h.ln.nd,by omega,λe μ3 _ E3 J=>N _ _ ⟨e,rfl,D1.sub J,E3,λb m hb=>J b m<|S1 b m hb⟩⟩;rintro u C ⟨e,rfl,D2,E2,S2⟩;refine Ci λr ud=>?_;have ly:=S2.none ud;have J:=S2.new (m:=.lst []) ly;have T3:Sub C (Am C r<|.lst []):=Sub.refl.new ud;have D3:=D2.sub T3;have E3:=E2.sub T3;refine An (λu o=>∃T Q,u=[oG<|Az g,oF m,oE p,oE d,oE e,oE r,T,Q]/\o r=oH ((Gs g m (W.take 8) []).map λa=>.D<|Bk a)/\Sub L o) (λZ N=>?_) (by rintro u o ⟨T,Q,et,ea,S⟩;subst et;exact⟨_,Sub.refl,q r _ ea S⟩);refine Ab (Ao<|J _ _ ep) λO ml=>?_;have n8:r≠O:=by rintro rfl;rw[Ac]at ml;cases ml
 have zer:De (I.map .R) none (some 8)=(I.take 8).map .R:=N1 AV.R I 8;rw[zer];refine Ab (Ao Ac) ?_;have S4:=J.new (m:=.lst<|(I.take 8).map .R)<|J.none ml;have T4:Sub (Am C r<|.lst []) (Am (Am C r<|.lst []) O<|.lst<|(I.take 8).map .R):=Sub.refl.new ml;have D4:=D3.sub T4;have E4:=E3.sub T4;have a4:Am (Am C r<|.lst []) O (.lst<|(I.take 8).map .R) r=oH []:=by rw[Af n8];exact Ac
 have l4:Am (Am C r<|.lst []) O (.lst<|(I.take 8).map .R) O=oH ((I.take 8).map .R):=Ac;generalize Am (Am C r<|.lst []) O (.lst<|(I.take 8).map .R)=μ4 at S4 D4 E4 a4 l4;have xk:I.length=W.length:=hA.n;have yy:((I.take 8).map AV.R).length=min 8 I.length:=by rw[B_,aD]
 have G:∀{o:M},E9 r μ4 o->Sub L o:=λ{o} X b m hb=>X b m (by rintro rfl;rw[ly]at hb;cases hb)<|S4 b m hb;have dk:∀{o:M} {x:kM} {zs:oA Str},X3 μ4 x zs->E9 r μ4 o->X3 o x zs:=λ{o x zs} D X=>by obtain⟨ae,ek,hv⟩:=D;refine⟨ae,X x _ ?_ ek,hv⟩;rintro rfl;rw[a4]at ek;cases ek
 refine Fe (λi u o=>∃T Q B,u=[oG<|Az g,oF m,oE p,oE d,oE e,oE r,T,Q]/\Gs g m ((W.take 8).drop i) B=Gs g m (W.take 8) []/\B.length<=i/\(∀b∈B,b.c=none)/\o r=oH (B.map λa=>.D<|Bk a)/\E9 r μ4 o) ⟨none,none,[],rfl,rfl,H_ _,(λ_ z=>nomatch z),a4,E9.refl⟩ (by rintro _ _ _ ⟨_,_,_,_,_,_,_,_,X⟩;exact Ao<|X _ _ n8.symm l4) ?_ ?_
 ·rintro i y u μ5 Z2 hy ⟨T,Q,B,rfl,t,j6,V,a5,U⟩ bu;have hi8:=(E_.mp hy).1;rw[yy]at hi8;rw[F_]at hy;obtain⟨qi,hqi,rfl⟩:=W_.mp hy;rw[fH,R_<|by omega]at hqi;have hiW:i<W.length:=by omega
  have dv:=D_ hiW;generalize W[i]=ws at dv;have eq5:=G U _ _<|hA.a i qi _ hqi dv;have ic:=hW ws<|aB dv;have ge:(W.take 8).drop i=ws::(W.take 8).drop (i+1):=by
   have h2:(W.take 8)[i]?=some ws:=by rw[fH,R_<|by omega];exact dv
   obtain⟨h3,h4⟩:=E_.mp h2;rw[bM h3,h4]
  rw[ge,Ep]at t;refine An (λu o=>u=[oG<|Az g,oF m,oE p,oE d,oE e,oE r,oE qi,oG<|DG<|R8 g m ws]/\o r=oH (B.map λa=>.D<|Bk a)/\E9 r μ4 o) (λZ3 bj=>?_) ?_;exact⟨qi,d,e,g,m,ws,rfl,eq5,dk D4 U,dk E4 U,ic,λμ6 S6=>bj _ _ ⟨rfl,S6 _ _ a5,λb m hb lm=>S6 b m<|U b m hb lm⟩⟩;rintro u μ6 ⟨rfl,a6,X6⟩;unfold stp at t;cases ha:R8 g m ws with
  |none=>rw[ha]at t;dsimp only at t;refine Ci<|Fd rfl<|Fd rfl<|N _ _ ⟨_,_,rfl,?_,G X6⟩;rw[<- t];exact a6
  |some a=>
   rw[ha]at t;dsimp only at t;obtain⟨r1,r2,r3,r4,_⟩:=DH ha;refine An (λu o=>u=[oG<|Az g,oF m,oE p,oE d,oE e,oE r,oE qi,oG<|Bk a]/\mbh g m B a=true/\o r=oH (B.map λa=>.D<|Bk a)/\E9 r μ4 o) (λZ3 bj=>?_) ?_;refine J9 rfl ⟨g,m,r,B,a,rfl,a6,r1,r2,r3,by omega,V,λμ7 S7=>br (λc=>N _ _ ⟨_,_,rfl,?_,λb Y hb=>S7 b Y<|G X6 b Y hb⟩) λc=>bj _ _ ⟨rfl,by simpa using c,S7 _ _ a6,λb Y hb lm=>S7 b Y<|X6 b Y hb lm⟩⟩;have c:mbh g m B a=false:=by simpa using c
   rw[c]at t;have t:B=Gs g m (W.take 8) []:=t;rw[<- t];exact S7 _ _ a6;rintro u μ7 ⟨rfl,hc,a7,X7⟩;rw[hc]at t;have t:Gs g m ((W.take 8).drop<|i+1) (B++[a])=Gs g m (W.take 8) []:=t;refine⟨Ab a7 trivial,Ab a7 ⟨Bm<|by rw[B_];omega,bu _ _ ⟨_,_,B++[a],rfl,t,by rw[J_];exact Nat.succ_le_succ j6,λb hb=>?_,?_,X7.k⟩⟩⟩;rcases U_.mp hb with hb|hb;exact V b hb;rw[Y_.mp hb];exact r3;rw[Ac,P_];rfl
 rintro u μ5 ⟨T,Q,B,rfl,t,_,_,a5,U⟩;rw[yy,eF<|by rw[aD];omega]at t;have t:B=Gs g m (W.take 8) []:=t;rw[t]at a5;exact N _ _ ⟨_,_,rfl,a5,G U⟩
def QQ:(("\n" : Str).length==0)=false/\((" " : Str).length==0)=false:=by decide +kernel
def RowsAt.tl{b:M}{s p:kM}{d:oA kM}{r:oA Str}{t:oA<|oA Str}{o:MO}(h:RowsAt b s d<|r::t)(hp:b p=none):RowsAt (Am b p o) p (d.drop 1) t:=by
 have i:=h.n;have ha:∀(j:Nat) (q:kM) (ws:oA Str),(d.drop 1)[j]?=some q->t[j]?=some ws->b q=oH (ws.map Ag):=λj q ws c g=>by rw[jP]at c;exact h.a (1+j) q ws c<|by rw[g_];exact g
 have l:∀q∈d.drop 1,∃m,b q=some m:=λq hq=>by
  obtain⟨j,hj⟩:=List.mem_iff_getElem?.mp hq;have k:j<t.length:=by have:=(E_.mp hj).1;rw[aH]at this;rw[aM]at i;omega
  exact⟨_,ha j q _ hj<|D_ k⟩
 refine⟨by rw[aH,i,aM];omega,λj q ws c g=>?_,λhm=>?_⟩;have:=ha j q ws c g;rw[Af<|by rintro rfl;rw[hp]at this;cases this];exact this;obtain⟨m,e⟩:=l p hm;rw[hp]at e;cases e
def Vx(g:Gam)(W:oA<|oA Str):Sum Nat Say:=match Vv (W.getD 0 []) with
 |none=>.inl 0
 |some m=>if 1+(Gs g m ((W.drop 1).take 8) []).length=W.length then .inl (1+(Gs g m ((W.drop 1).take 8) []).length) else
  match X9 g m (W.getD (1+(Gs g m ((W.drop 1).take 8) []).length) []) with
  |none=>.inl (1+(Gs g m ((W.drop 1).take 8) []).length)
  |some a=>if 1+(Gs g m ((W.drop 1).take 8) []).length+1<W.length then .inl (1+(Gs g m ((W.drop 1).take 8) []).length+1) else .inr ⟨m,Gs g m ((W.drop 1).take 8) [],a⟩
theorem Ph(g:Gam)(m:Nat):∀(W:oA<|oA Str) (B:oA Arw),(Gs g m W B).length<=B.length+W.length
 |[],B=>H_ _
 |ws::r,B=>by
  rw[Ep];cases stp g m B ws with
  |some a=>have:=Ph g m r<|B++[a];rw[J_]at this;rw[aM];simp only[List.length_cons,List.length_nil]at this;refine Q_ this ?_;omega
  |none=>show B.length<=_;omega
def Pi{t r:Str}{N:Nat}(b:asc t)(hl:t.length<=N)(a:r∈Txt.split t "\n"):asc r/\r.length<=N:=by rw[N5]at a;exact⟨(Dm a).1 b,Q_ (Dm a).2 hl⟩
def HU{r:Str}{N:Nat}(a:asc r)(hl:r.length<=N):0<(Txt.split r " ").length/\(Txt.split r " ").length<=N+1/\∀z∈Txt.split r " ",asc z:=by refine⟨eZ.mpr<|Du _ _,?_,λz hz=>?_⟩;have:=Jg r 32;rw[<- G8]at this;omega;rw[G8]at hz;exact(Dm hz).1 a
def DI{T:Str}{N:Nat}(b:asc T)(hl:T.length<=N):0<(wrd T).length/\(wrd T).length<=N+1/\∀ws∈wrd T,0<ws.length/\ws.length<=N+1/\∀z∈ws,asc z:=by have h1:=Jg T 10;rw[<- N5]at h1;have h2:=eZ.mpr<|Du T "\n";unfold wrd;refine⟨by rw[B_];exact h2,by rw[B_];omega,λws hws=>?_⟩;obtain⟨r,c,rfl⟩:=M_.mp hws;obtain⟨a,a2⟩:=Pi b hl c;exact HU a a2
abbrev nRs:oA Str:=["game","text","rows","many","arrows","at","ends"]
def Yb:FnScope nRs qI (Ai OD):=⟨rfl,rfl,rfl,by decide +kernel,rfl,by decide +kernel,by decide +kernel⟩
def WP:(["row"]:oA Str).Nodup:=by decide +kernel
def WQ(C:kM):Sw:=λc a R b=>∃(g:Gam) (T:Str),c=[.D<|Az g,.D<|.str T]/\GmIn g/\asc T/\T.length<=400000/\(∀s,Vx g (wrd T)=.inr s->R (.D<|Jf s) a)/\(∀r:Nat,Vx g (wrd T)=.inl r->b C [("row",.int (r:Nat))] a)
def WR{n:Nat}{C:kM}(F:Fun K "read_saying" "read_saying" OD f fd) (cRa:VCal P w K mg base (n+1) "read_arrows" qH WN) (cRe:VCal P w K mg base (n+1) "read_ends" qG WL) (cRo:VCal P w K mg base (n+1) "read_own" oP WC) (ah:mg "len" = none) (al:mg "tuple" = none) (dy:XCal P w K mg base n "NoText" C ["row"]):FnOk P w K mg base (IS P w) (n+1+1) f fd qI (ND K 2<|WQ C):=by
 refine F.vokX Yb λav A outer s H E EX G hX=>⟨_,(Ah (Ov (i:=2) (N':=["row"]) (mp:=[none]) rfl Yb.nd rfl rfl (Cc<|Es cN cP Ex (vv 1)<|Aa Ap Ad) (λ_ _ _ _=>(Ax (i:=0) WP rfl oI oJ)) (λ_ _ _ _=>Bu) (λ_ _ _ _=>(Es cN cP Ex (vv 0)<|Aa Ap Ad))<|Bg (N:=nRs) (pn:=(Ai OD).names)<|by decide +kernel)<|Ah (Aq (i:=3) Yb.nd rfl oI<|Al cRo G rfl<|Aa (Ar A0 (vv 2) Ae) Ad)<|Ah (Bw (Bc Hl (vv 3) Cg<|nomark _) (Aj<|Hn dy G rfl hX rfl<|Aa Ae Ad) A8)<|Ah (Aq (i:=4) Yb.nd rfl oI<|Al cRa G rfl<|Aa (vv 0)<|Aa (vv 3)<|Aa (B9 (vv 2) (Cf Ae) Bn) Ad)<|Ah (Aq (i:=5) Yb.nd rfl oI<|Bb A5 Ae<|Aw Br rfl ah aA<|Aa (vv 4) Ad)<|Ah (Bw (Bc (Gj G) (vv 5) (Aw Br rfl ah aA<|Aa (vv 2) Ad)<|nomark _) (Aj<|Hn dy G rfl hX rfl<|Aa (vv 5) Ad) A8)<|Ah (Aq (i:=6) Yb.nd rfl oI<|Al cRe G rfl<|Aa (vv 0)<|Aa (vv 3)<|Aa (Ar A0 (vv 2)<|vv 5) Ad)<|Ah (Bw (Bc Hl (vv 6) Cg<|nomark _) (Aj<|Hn dy G rfl hX rfl<|Aa (vv 5) Ad) A8)<|Ah (Bw (Bc Io (Bb A5 (vv 5) Ae) (Aw Br rfl ah aA<|Aa (vv 2) Ad)<|nomark _) (Aj<|Hn dy G rfl hX rfl<|Aa (Bb A5 (vv 5) Ae) Ad) A8)<|Aj<|Ay<|Cl<|Aa (vv 3)<|Aa (Bi D9 rfl al bT<|Aa (vv 4) Ad)<|Aa (vv 6) Ad),?_⟩
 rintro xs I R _ ⟨g,T,rfl,h,hTa,hTl,O,x⟩;obtain⟨oz,hWn,J⟩:=DI hTa hTl;have dv:=λr (G:r∈Txt.split T "\n")=>Pi hTa hTl G;have ic:(Txt.split T "\n").length=(wrd T).length:=by unfold wrd;rw[B_]
 have sm:∀{i:Nat} {r:Str},(Txt.split T "\n")[i]?=some r->(wrd T)[i]?=some (Txt.split r " "):=λ{i r} e=>by unfold wrd;rw[F_,e];rfl
 refine An (λv d=>∃u l,v=[oG<|Az g,oG<|.str T,oE u,none,none,none,none]/\d u=oH (l.map .R)/\RowsAt d u l (wrd T)/\Sub I d) (λZ M=>?_) ?_;refine⟨trivial,QQ.1,by omega,λp1 cw=>?_⟩;generalize Txt.split T "\n" = L at dv ic sm;generalize wrd T=W at hWn ic sm M;refine Ab (Ao Ac) λu gt=>?_;have n1:p1≠u:=by rintro rfl;rw[Ac]at gt;cases gt
 have S1:Sub I (Am I p1<|.lst<|L.map λw=>.D<|.str w):=Sub.refl.new cw;have e1:Am I p1 (.lst<|L.map λw=>.D<|.str w) p1=oH (L.map λw=>.D<|.str w):=Ac;generalize Am I p1 (.lst<|L.map λw=>.D<|.str w)=U at S1 e1 gt;have zdn:=S1.none gt;refine E8 (λi ai v d=>∃o l,v=[o]/\ai=l.map .R/\d u=oH ai/\RowsAt d u l (W.take i)/\E9 u U d) ⟨none,[],rfl,rfl,Ac,⟨rfl,(λj q ws e=>by simp at e),(λz=>nomatch z)⟩,E9.refl.k⟩ (by rintro _ _ _ _ ⟨_,_,_,_,_,_,X⟩;exact Ao<|X _ _ n1 e1) ?_ ?_;rintro i y ai v t W' hy ⟨o,l,rfl,rfl,r2,A2,X2⟩ hW;rw[F_]at hy;obtain⟨r,G,rfl⟩:=W_.mp hy;have hrl:=(dv r<|aB G).2;have hi:=(E_.mp G).1;have bf:W.take (i+1)=W.take i++[Txt.split r " "]:=by rw[cW,sm G];rfl
 have xk:l.length<=500000:=by rw[A2.n,aD];omega
 rw[bf]at hW;refine Fd rfl ⟨trivial,QQ.2,by omega,λS fj=>?_⟩;generalize Txt.split r " " = ws at hW ⊢;have k1:u≠S:=by rintro rfl;rw[r2]at fj;cases fj
 refine⟨by rw[Af k1];exact r2,VN<|by rw[B_];omega,hW _ _ _ ⟨_,l++[S],rfl,by rw[P_];rfl,Ac,?_,λb m hb lm=>?_⟩⟩;have A3:RowsAt (Am t S<|.lst<|ws.map Ag) u l (W.take i):=A2.sub λb hb m hm=>by rw[Af<|by rintro rfl;rw[hm]at fj;cases fj];exact hm
 have A4:=A3.add (q:=S) (ws:=ws) Ac k1;refine RowsAt.sub A4 λb hb m hm=>?_;have am:b≠u:=λz=>A4.ne<|z ▸ hb;rw[Af am];exact hm;have h2:=X2 b m hb lm;have k2:b≠S:=by rintro rfl;rw[h2]at fj;cases fj
 rw[Af hb,Af k2];exact h2;rintro ai v t ⟨o,l,rfl,rfl,r2,A2,X2⟩;rw[B_,ic,cU]at A2;exact M _ _ ⟨u,l,rfl,r2,A2,λb m hb=>X2 b m (by rintro rfl;rw[zdn]at hb;cases hb)<|S1 b m hb⟩;generalize wrd T=W at oz hWn J O x;rintro v U ⟨u,l,rfl,r1,A1,S1⟩;have xk:l.length=W.length:=A1.n;have V:(l.map AV.R).length=W.length:=by rw[B_,xk]
 have ar:∀{j:Nat},j<W.length->∃qj,l[j]?=some qj/\U qj=oH ((W.getD j []).map Ag)/\W.getD j []∈W:=λ{j} hj=>by
  have e:W[j]?=some (W.getD j []):=by rw[L_,D_ hj];rfl
  have e2:=D_ (show j<l.length by omega);exact⟨_,e2,A1.a j _ _ e2 e,aB e⟩
 obtain⟨q0,yw,e0,m0⟩:=ar (j:=0) oz;have hR:∀{j:Nat} {S:kM},l[j]?=some S->atI (l.map AV.R) (j:Int)=oE S:=λ{j S} hj=>Ak (by rw[F_,hj];rfl);unfold Vx at O x;refine An (λv d=>v=[oG<|Az g,oG<|.str T,oE u,oG<|WA<|Vv<|W.getD 0 [],none,none,none]/\Sub U d) (λZ M=>?_) ?_;exact Ab r1<|Ab (hR (j:=0) yw) ⟨q0,W.getD 0 [],rfl,e0,(J _ m0).2.2,λt S2=>M _ _ ⟨rfl,S2⟩⟩;rintro v t ⟨rfl,S2⟩;have T2:Sub I t:=λb m hb=>S2 b m<|S1 b m hb;cases ho:Vv (W.getD 0 []) with
 |none=>rw[ho]at x;exact Ci (Fd rfl<|Ab rfl ⟨rfl,I,T2,x 0 rfl⟩)
 |some m=>
 rw[ho]at O x;dsimp only at O x;have hm:=(Mg ho).2;refine Ci<|J9 rfl ?_;have r2:=S2 _ _ r1;have A2:RowsAt t u l W:=A1.sub λb _ m hm=>S2 b m hm;refine An (λv d=>∃pa,v=[oG<|Az g,oG<|.str T,oE u,oF m,oE pa,none,none]/\d pa=oH ((Gs g m ((W.drop 1).take 8) []).map λa=>.D<|Bk a)/\Sub t d) (λZ M=>?_) ?_
 ·refine Ab (Ao r2) λp hp=>?_;have hW1:W=W.getD 0 []::W.drop 1:=by
   cases W with
   |nil=>exact absurd oz (dF _)
   |cons w r=>rfl
  have A3:RowsAt (Am t p<|.lst<|De (l.map .R) (some 1) none) p (l.drop 1) (W.drop 1):=by rw[hW1]at A2;have:=A2.tl (o:=.lst<|De (l.map .R) (some 1) none) hp;exact this
  have S3:Sub t (Am t p<|.lst<|De (l.map .R) (some 1) none):=Sub.refl.new hp;refine⟨g,m,p,l.drop 1,W.drop 1,rfl,h,hm,?_,A3,λws hws=>?_,λpa Q ea Y=>M _ _ ⟨pa,rfl,ea,λb m hb=>Y b m<|S3 b m hb⟩⟩;rw[Ac,show De (l.map .R) (some 1) none=(l.drop 1).map .R from Gy AV.R l 1];have:=(J ws<|dJ hws).2.1;omega
 have j6:=Ph g m ((W.drop 1).take 8) [];rw[gJ,aD,aH]at j6;generalize Gs g m ((W.drop 1).take 8) []=B at O x j6;rintro v Q ⟨pa,rfl,a3,S3⟩;have r3:=S3 _ _ r2;have T3:Sub I Q:=λb m hb=>S3 b m<|T2 b m hb;refine An (λv d=>v=[oG<|Az g,oG<|.str T,oE u,oF m,oE pa,oF ((1+B.length:Nat):Int),none]/\Q=d) (λZ M=>?_) ?_;refine Ab a3<|M _ _ ⟨?_,rfl⟩;rw[B_];rfl;rintro v _ ⟨rfl,rfl⟩;by_cases rq:1+B.length=W.length;rw[R_ rq]at x;exact Ci (Ab r3<|ieq (λ_=>Ab rfl ⟨rfl,I,T3,x _ rfl⟩) λc=>absurd (show((1+B.length:Nat):Int)=((l.map AV.R).length:Nat) by rw[V,rq]) c);rw[N_ rq]at O x;refine Ci (Ab r3<|ieq (λc=>absurd c<|by rw[V];omega) λ_=>?_);obtain⟨qe,hqe,ee,me⟩:=ar (j:=1+B.length) (by omega);have ee:=S3 _ _<|S2 _ _ ee;refine An (λv d=>v=[oG<|Az g,oG<|.str T,oE u,oF m,oE pa,oF ((1+B.length:Nat):Int),oG<|Ty<|X9 g m<|W.getD (1+B.length) []]/\Sub Q d) (λZ M=>?_) ?_;exact Ab r3 (Ab (hR hqe) ⟨g,m,qe,_,rfl,h,hm,ee,(J _ me).1,by have:=(J _ me).2.1;omega,λμ4 Y=>M _ _ ⟨rfl,Y⟩⟩);rintro v μ4 ⟨rfl,Y⟩;have T4:Sub I μ4:=λb m hb=>Y b m<|T3 b m hb;cases hE:X9 g m (W.getD (1+B.length) []) with
 |none=>rw[hE]at x;exact Ci (Fd rfl<|Ab rfl ⟨rfl,I,T4,x _ rfl⟩)
 |some es=>
 rw[hE]at O x;dsimp only at O x;refine Ci<|J9 rfl ?_;by_cases ay:1+B.length+1<W.length;rw[R_ ay]at x;exact Ci (Ab (Y _ _ r3)<|dif (λ_=>Ab rfl ⟨rfl,I,T4,x _ rfl⟩) λc=>absurd (show((1+B.length:Nat):Int)+1<((l.map AV.R).length:Nat) by rw[V];omega) c);rw[N_ ay]at O;refine Ci (Ab (Y _ _ r3)<|dif (λc=>absurd c<|by rw[V];omega) λ_=>?_);exact Ab (Ao<|Y _ _ a3)<|Ab (Ma B) ⟨I,T4,O _ rfl⟩
def Mh{ns:oA Nat}{lo a:Nat}(h:ris ns lo a=true):ns.length<=a-lo/\(∀n∈ns,lo<=n/\n<a)/\ns.Pairwise (· < ·):=by
 unfold ris Yg at h;rw[bL]at h;have h1:∀n∈ns,lo<=n/\n<a:=λn c=>aS<|aV.mp h.1 n c;have h2:=aS h.2;refine⟨?_,h1,h2⟩;have b:=Vn (xs:=ns) (ys:=List.range' lo<|a-lo) (h2.imp λd e=>by omega) λx hx=>by have:=h1 x hx;rw[List.mem_range'];exact⟨x-lo,by omega,by omega⟩
 rw[fG]at b;exact b
def DJ{ns:oA Nat}{lo a:Nat}(h1:∀n∈ns,lo<=n/\n<a)(h2:ns.Pairwise (· < ·)):ris ns lo a=true:=by unfold ris Yg;rw[bL];exact⟨aV.mpr λn b=>aN<|h1 n b,aN h2⟩
structure AqOk(g:Gam)(m:Nat)(a:Arw):Prop where
 p:a.p<g.pl.length+m
 x:a.x<g.le.length
 c:a.c=none
 r:ris a.ts g.pl.length (g.pl.length+m)=true
def DK{g:Gam}{m:Nat}{B:oA Arw}{ws:oA Str}{a:Arw}(h:stp g m B ws=some a):AqOk g m a/\ws=C1 g a:=by unfold stp at h;split at h;rename_i i ha;split at h;rename_i hc;cases h;obtain⟨e,d,c,_,_,b⟩:=DH ha;unfold mbh at hc;rw[bL]at hc;exact⟨⟨e,d,c,hc.1⟩,b⟩;cases h;cases h
theorem Rv(g:Gam)(m:Nat):∀(W:oA<|oA Str) (c:oA Arw),∃d,Gs g m W c=c++d/\W.take d.length=d.map (C1 g)/\∀b∈d,AqOk g m b
 |[],c=>⟨[],by simp[Gs],rfl,λ_ h=>nomatch h⟩
 |ws::r,c=>by
  rw[Ep];cases hs:stp g m c ws with
  |none=>exact⟨[],by simp,rfl,λ_ h=>nomatch h⟩
  |some a=>obtain⟨h1,h2⟩:=DK hs;obtain⟨d,e,j,i⟩:=Rv g m r<|c++[a];refine⟨a::d,?_,?_,λb hb=>?_⟩;show Gs g m r (c++[a])=_;rw[e,eP];rfl;rw[aM,jI,j,h2];rfl;rcases Z_.mp hb with rfl|hb;exact h1;exact i b hb
def OX{g:Gam}{m:Nat}{ws:oA Str}{es:oA Nat}(h:X9 g m ws=some es):ris es 0 (g.pl.length+m)=true/\ws=Pc++es.map (Dx g):=by
 unfold X9 at h;split at h
 ·rename_i a;split at h
  ·rename_i d b;split at h
   ·rename_i c;cases h;refine⟨c,?_⟩;rw[<- Vw b];cases ws with
    |nil=>cases a
    |cons w r=>cases a;rfl
   cases h
  cases h
 cases h
def DL{g:Gam}{W:oA<|oA Str}{s:Say}(j:GmIn g)(h:Vx g W=.inr s):ShIn g s/\W=Ca g s:=by
 unfold Vx at h;split at h;cases h
 ·rename_i m v;obtain⟨B,d,q,b⟩:=Rv g m ((W.drop 1).take 8) [];rw[gI]at d;rw[d]at h;obtain⟨l,hm⟩:=Mg v;have F:B.length<=min 8 (W.length-1):=by
   have:=Ph g m ((W.drop 1).take 8) [];rw[d,gJ,aD,aH]at this;omega
  rw[List.take_take,eD<|by omega]at q;split at h;cases h
  ·rename_i H;split at h;cases h
   ·rename_i o u;split at h;cases h
    ·rename_i E;cases h;obtain⟨h1,h2⟩:=OX u;have hp:=j.p1;have D:0<W.length:=by
      cases W with
      |nil=>cases l
      |cons w r=>exact aQ _
     have k:=Mh h1;refine⟨⟨hp,λp hp=>j.pn.n _<|M_.mpr ⟨p,hp,rfl⟩,j.ln.n,by show m<=8;omega,by show B.length<=300;omega,λa ha=>(b a ha).p,λa ha=>(b a ha).x,λa ha t z=>((Mh (b a ha).r).2.1 t z).2,λa ha=>by have:=(Mh (b a ha).r).1;show a.ts.length<=10;omega,λa ha=>(b a ha).c,λe he=>(k.2.1 e he).2,by have:=k.1;show o.length<=30;omega⟩,?_⟩;show W=Hz m::(B.map (C1 g)++[Pc++o.map (Dx g)]);rw[<- h2,<- l,<- q];have G:W.length=B.length+2:=by omega
     refine h_ λi=>?_;cases i with
     |zero=>rw[L_,D_ D];rfl
     |succ i=>
      rw[fA];have y:((W.drop 1).take B.length).length=B.length:=by rw[aD,aH];omega
      by_cases C:i<B.length;rw[cL<|by omega,fH,R_ C,jP,g_];rw[bK<|by omega,y];by_cases A:i=B.length;subst A;rw[kE,L_,g_ 1,D_<|show B.length+1<W.length by omega];rfl;rw[bG<|by omega,bG<|by rw[List.length_singleton];omega]
def DM(T:Str):Txt.join "\n" ((wrd T).map<|Txt.join " ")=T:=by
 have e:(wrd T).map (Txt.join " ")=Txt.split T "\n" := by unfold wrd;rw[aJ];refine(eE λr _=>?_).trans<|kI _;show Txt.join " " (Txt.split r " ")=r;rw[Eb,G8,dI]
 rw[e,Eb,N5,dI]
def DN{g:Gam}{m k:Nat}(a:(g.pl.map (·.1)).Nodup)(hl:∀z∈g.pl.map (·.1),lets z)(hm:m<=2)(hk:k<g.pl.length+m):idx (Cz g m) (Dx g k)=some k:=Vr (Pg a hl hm)<|Kl hk
def DO{g:Gam}{m:Nat}{b:oA Nat}(c:GmIn g)(hm:m<=2)(h:∀t∈b,t<g.pl.length+m):rdT (Cz g m) (b.map<|Dx g)=some b:=by have e:∀t∈b,idx (Cz g m) (Dx g t)=some t:=λt a=>DN c.pn.nd c.pn.l hm<|h t a;unfold rdT;rw[R_];unfold Mw;rw[aJ];refine cF some<|(eE λt a=>?_).trans<|kI _;show(idx (Cz g m)<|Dx g t).getD 0=t;rw[e t a];rfl;unfold Pe;rw[aV];intro w d;obtain⟨t,a,rfl⟩:=M_.mp d;rw[e t a];rfl
def OY{g:Gam}{m:Nat}{a:Arw}(b:GmIn g)(hm:m<=2)(h1:a.p<g.pl.length+m)(h2:a.x<g.le.length)(d:a.c=none)(h:∀t∈a.ts,t<g.pl.length+m):R8 g m (C1 g a)=some a:=by
 have e:Pf (C1 g a)=true:=by unfold Pf;rw[show(C1 g a)[0]?=some ("arrow" : Str) from rfl,show(C1 g a)[3]?=some (":" : Str) from rfl,aN<|show 4<=(C1 g a).length by unfold C1 X0;rw[J_];exact c_ _ _];simp
 have i:idx g.le (Xz g a.x)=some a.x:=Vr b.ln.nd (by unfold Xz;rw[L_,D_ h2];rfl);unfold R8;rw[R_ e,show(C1 g a).getD 1 "" = Dx g a.p from rfl,show(C1 g a).getD 2 "" = Xz g a.x from rfl,show(C1 g a).drop 4=a.ts.map (Dx g) from rfl,DN b.pn.nd b.pn.l hm h1,i,DO b hm h];obtain⟨p,x,j,c⟩:=a;dsimp only at d;rw[d]
theorem Rw{g:Gam}{m:Nat}(R:oA<|oA Str):∀(A B:oA Arw),(∀(b:oA Arw) (a:Arw) (A2:oA Arw),A=b++a::A2->stp g m (B++b) (C1 g a)=some a)->Gs g m (A.map (C1 g)++R) B=Gs g m R (B++A)
 |[],B,_=>by rw[cX];rfl
 |a::A,B,h=>by
  rw[bF,jY,Ep];have c:=h [] a A rfl;rw[cX]at c;rw[c];show Gs g m (A.map (C1 g)++R) (B++[a])=_;rw[Rw R A (B++[a]) λb d A2 e=>by
   have:=h (a::b) d A2 (by rw[e];rfl);rw[eP];exact this]
  rw[eP];rfl
def Vy{g:Gam}{m:Nat}{B:oA Arw}{r:oA Str}:stp g m B (Pc++r)=none:=by
 have:Pf (Pc++r)=false:=by unfold Pf;rw[show(Pc++r)[0]?=some ("ends" : Str) from rfl,aF (p:=some ("ends" : Str)=some ("arrow" : Str))<|by decide +kernel];simp
 unfold stp R8;rw[this];rfl
def TxIn.gm{g:Gam}{s:Say}(h:TxIn g s)(hl:0<g.le.length):GmIn g:=⟨h.p0,h.p1,hl,h.l1,h.pn,h.ln⟩
def OZ{g:Gam}{s:Say}(h:TxIn g s)(hl:0<g.le.length):Vx g (Ca g s)=.inr s:=by
 have l:=h.gm hl;have j:=h.sa.o;have m:=h.sa.n;have d:=h.sh;have r:Gs g s.own (((Ca g s).drop 1).take 8) []=s.as:=by
  have e:((Ca g s).drop 1).take 8=s.as.map (C1 g)++[Pc++s.es.map (Dx g)].take (8-s.as.length):=by show(s.as.map (C1 g)++[Pc++s.es.map (Dx g)]).take 8=_;rw[List.take_append,B_,bN<|by rw[B_];omega]
  rw[e,Rw _ s.as [] λi a A2 e=>?_,gI]
  ·cases hk:8-s.as.length with
   |zero=>rfl
   |succ k=>rw[jI,List.take_nil,Ep,Vy]
  rw[gI];have ha:a∈s.as:=by rw[e];simp
  have z:ris a.ts g.pl.length (g.pl.length+s.own)=true:=DJ (h.sa.a a ha).t<|(List.pairwise_lt_range' (step:=1)).sublist<|h.sa.su a ha;have hb:X8 i a=true:=by
   unfold X8;rcases fM i with rfl|⟨y,b,rfl⟩
   rfl
   have q:(y.concat b).getLast?=some b:=by rw[dE];simp
   rw[q];show Fk (Bk b) (Bk a)=true;have hp:=h.sa.so;rw[e,P_,iZ]at hp;exact hp.2.2 (Bk b) (M_.mpr ⟨b,by simp,rfl⟩) (Bk a)<|M_.mpr ⟨a,by simp,rfl⟩
  unfold stp;rw[OY l j (d.p a ha) (d.x a ha) (h.c ha)<|d.t a ha];show(if mbh g s.own i a=true then some a else none)=_;unfold mbh;rw[z,hb];rfl
 unfold Vx;rw[show(Ca g s).getD 0 []=Hz s.own from rfl,DF j];dsimp only;rw[r,N_<|by rw[Mb];omega];have u:(Ca g s).getD (1+s.as.length) []=Pc++s.es.map (Dx g):=by unfold Ca;rw[L_,g_,fA,bK<|by rw[B_];omega,B_,kE];rfl
 have v:X9 g s.own (Pc++s.es.map (Dx g))=some s.es:=by unfold X9;rw[R_<|show(Pc++s.es.map (Dx g))[0]?=some ("ends" : Str) from rfl,show(Pc++s.es.map (Dx g)).drop 1=s.es.map (Dx g) from rfl,DO l j d.e];show(if ris s.es 0 (g.pl.length+s.own)=true then some s.es else none)=_;rw[R_<|DJ (λn m=>⟨aU _,d.e n m⟩)<|dP.sublist h.sa.e]
 rw[u,v];dsimp only;rw[N_<|by rw[Mb];omega]
def DP{g:Gam}{s:Say}(h:TxIn g s):wrd (Txt.join "\n"<|(Ca g s).map<|Txt.join " ")=Ca g s:=by unfold wrd;rw[Tx (by unfold Ca;exact f_ _ _) h.rows,aJ];refine(eE λws hws=>?_).trans<|kI _;exact N6<|h.rows ws hws
def Qa6{a b c:kL}{i j k:Nat}{e:ASt}{d:M}{R:ASt->M->Prop}(h:R (((e.set i<|oG a).set j<|oG b).set k<|oG c) d):G7 (Db i) (G7 (MX 2<|G7 (Db j)<|G7 (Db k) Zy) Zy) (List.map AV.D [a,.tuple [b,c]]) e d R:=⟨rfl,h⟩
def WS{L:oA<|Str×Nat}{i:Nat}{x:AV}(h:(Fi 0<|L.map Ga)[i]?=some x):∃p,L[i]?=some p/\x=.D (.tuple [.int i,Ga p]):=by obtain⟨d,hd,rfl⟩:=Fj h;rw[F_]at hd;obtain⟨z,hz,rfl⟩:=W_.mp hd;exact⟨z,hz,by simp⟩
abbrev nSt:oA Str:=["_law_game_here","_law_many","_law_words","_law_known","_law_k","_law_name","_law_hand"]
def Yc:FnScope nSt qB (Ai JP):=⟨rfl,rfl,rfl,by decide +kernel,rfl,by decide +kernel,by decide +kernel⟩
def WT:(qP:oA Str).Nodup:=by decide +kernel
def WU:(qP:oA Str).Nodup:=by decide +kernel
def PB:ASp:=λd b R=>∃(g:Gam) (m:Nat) (q:kM) (ws:oA Str),d=[.D<|Az g,.D<|.int m,.R q]/\GmIn g/\m<=2/\b q=oH (ws.map Ag)/\ws.length<=500001/\(rdT (Cz g m) ws=none->∀ a,Sub b a->R (.D .none) a)/\∀c,rdT (Cz g m) ws=some c->∀p a,b p=none->a p=oH (c.map B6)->Sub b a->R (.R p) a
def PD{g:Gam}{m i:Nat}{p:Str×Nat}(h:g.pl[i]?=some p):(Cz g m)[i]?=some p.1:=by have a:=(E_.mp h).1;unfold Cz;rw[cL<|by rw[B_];exact a,F_,h];rfl
def HV{g:Gam}{m j:Nat}(h:j<m):(Cz g m)[g.pl.length+j]?=some (toS ((j+1:Nat):Int)):=by unfold Cz;rw[bK<|by rw[B_];omega,B_,Nat.add_sub_cancel_left,F_,jG h];rfl
def Vz{a:oA<|Key×AV}{zs:oA Str}{i:Nat}{z:Str}(b:zs.Nodup)(hz:zs[i]?=some z)(hv:∀y:Str,C2 a (.inr y)=Md (idx (zs.take i) y))(y:Str):C2 (Iq a (.inr z)<|.D<|.int (i:Nat)) (.inr y)=Md (idx (zs.take<|i+1) y):=by
 have d:=(E_.mp hz).1;have c:zs.take (i+1)=zs.take i++[z]:=by rw[cW,hz];rfl
 have:=Vs (Vt b hz) hv y;rw[aD,eD<|by omega]at this;rw[c];exact this
def WV{n:Nat}(F:Fun K "_law_stands" "_law_stands" JP f fd) (ba:mg "enumerate" = none) (ak:mg "range" = none) (bh:mg "str" = none) (ah:mg "len" = none):FnOk P w K mg base Ez (n+1) f fd qB (G6 K 3 PB):=by
 refine F.vok Yc λav A outer s H E X=>⟨_,(Ah (Aq (i:=3) Yc.nd rfl oJ Qm)<|Ah (Di cD rfl (Uw rfl ba<|Ar A0 (vv 0) Ae) (Hc (n:=2) rfl<|Bx (Ax (i:=4) Yc.nd rfl oI)<|Bx (Hc (n:=2) rfl<|Bx (Ax (i:=5) Yc.nd rfl oI)<|Bx (Ax (i:=6) Yc.nd rfl oI) Eu) Eu)<|Aj<|Oy (Gd X) (vv 3) (vv 5)<|vv 4)<|Ah (Di cD rfl (Co rfl ak<|Aa (vv 1) Ad) (Ax (i:=4) Yc.nd rfl oI)<|Aj<|Oy (Gd X) (vv 3) (Bi Ny rfl bh dW<|Aa (Bb A5 (vv 4) Ae) Ad)<|Bb A5 (Aw Br rfl ah aA<|Aa (Ar A0 (vv 0) Ae) Ad)<|vv 4)<|Ah (Bw (Bc FP (Aw Br rfl ah aA<|Aa (B2 (N':=qP) (mp:=[none,some 3]) rfl (Cc<|vv 2) (λ_ _ _ _=>(Ax (i:=0) WT rfl oI oJ)) (λ_ _ _ _=>(Gk<|Ir (Gd X) (vv 0)<|vv 1)) (λ_ _ _ _=>(vv 0))<|Bg (N:=nSt) (pn:=(Ai JP).names)<|by decide +kernel) Ad) Ae<|nomark _) (Aj<|Ay Cg) A8)<|Aj<|Ay<|B2 (N':=qP) (mp:=[none,some 3]) rfl (Cc<|vv 2) (λ_ _ _ _=>(Ax (i:=0) WU rfl oI oJ)) (λ_ _ _ _=>Bu) (λ_ _ _ _=>(Ki (Gd X) (vv 1)<|vv 0))<|Bg (N:=nSt) (pn:=(Ai JP).names)<|by decide +kernel),?_⟩
 rintro xs u R _ ⟨g,m,C,ws,rfl,hg,hm,e0,hl,qN,qS⟩;have hp:=hg.p1;have j8:=Pg hg.pn.nd hg.pn.l hm;refine Ci λd hd=>?_;have zfe:C≠d:=by rintro rfl;rw[e0]at hd;cases hd
 have bn:∀ u:M,items u (.D<|.tuple<|g.pl.map Ga)=some (g.pl.map JQ):=λu=>by show some ((g.pl.map Ga).map AV.D)=_;rw[aJ];rfl
 refine An (λr q=>∃t v B a,r=[oG<|Az g,oF m,oE C,oE d,t,v,B]/\q=Am u d (.dk a)/\a.length<=3/\∀z:Str,C2 a (.inr z)=Md (idx ((Cz g m).take g.pl.length) z)) (λZ T=>?_) ?_;refine Ab (Ak (j:=0) rfl)<|Ab (bn _)<|Ab (Vp _) ?_;refine Fe (λi r q=>∃t v B a,r=[oG<|Az g,oF m,oE C,oE d,t,v,B]/\q=Am u d (.dk a)/\a.length<=i/\∀z:Str,C2 a (.inr z)=Md (idx ((Cz g m).take i) z)) ⟨none,none,none,[],rfl,rfl,H_ _,λz=>rfl⟩ (λ_ _ _ _=>bn _) ?_ ?_;rintro i y r q Z2 hy ⟨t,v,B,a,rfl,rfl,hk,hv⟩ bu;obtain⟨p,j4,rfl⟩:=WS hy;have L:=(E_.mp j4).1;refine⟨rfl,Qa6 ?_⟩;exact Ab Ac (Ab (x:=MO.dk<|Iq a (.inr p.1)<|.D<|.int (i:Nat)) rfl ⟨Bm<|show a.length<=1000 by omega,bu _ _ ⟨_,_,_,_,rfl,C0,Q_ (L8 _ _ _)<|by omega,Vz j8 (PD j4) hv⟩⟩);rintro r q ⟨t,v,B,a,rfl,rfl,hk,hv⟩;rw[Cm,B_]at hv hk;exact T _ _ ⟨_,_,_,_,rfl,rfl,by omega,hv⟩;rintro r _ ⟨t,v,B,a,rfl,rfl,hk,hv⟩;refine An (λr q=>∃t a,r=[oG<|Az g,oF m,oE C,oE d,t,v,B]/\q=Am u d (.dk a)/\∀z:Str,C2 a (.inr z)=Md (idx (Cz g m) z)) (λZ T=>?_) ?_;refine⟨by omega,by omega,?_⟩;have aj:(Ea 0 (m:Int).toNat).length=m:=by rw[Bv];omega
 refine Fe (λi r q=>∃t a,r=[oG<|Az g,oF m,oE C,oE d,t,v,B]/\q=Am u d (.dk a)/\a.length<=3+i/\∀z:Str,C2 a (.inr z)=Md (idx ((Cz g m).take<|g.pl.length+i) z)) ⟨t,a,rfl,rfl,hk,hv⟩ (λ_ _ _ _=>trivial) ?_ ?_;rintro i y r q Z2 hy ⟨t,a,rfl,rfl,hk,hv⟩ bu;have L:i<m:=by rw[<- aj];exact(E_.mp hy).1
 have ey:=Eg _ _ _ hy;rw[Int.zero_add]at ey;subst ey;have hnx:=Vz j8 (HV (g:=g) L) hv;refine Ab (Ak (j:=0) rfl) ⟨lg<|by omega,Ab Ac<|Ab (x:=MO.dk<|Iq a (.inr<|toS ((i+1:Nat):Int))<|.D<|.int ((g.pl.length+i:Nat):Int)) ?_ ⟨Bm<|show a.length<=1000 by omega,bu _ _ ⟨_,_,rfl,C0,Q_ (L8 _ _ _)<|by omega,hnx⟩⟩⟩;rw[B_];rfl;rintro r q ⟨t,a,rfl,rfl,hk,hv⟩;rw[aj,bN<|by rw[Ey];omega]at hv;exact T _ _ ⟨_,_,rfl,rfl,hv⟩;clear hv hk a t;rintro r _ ⟨t,a,rfl,rfl,hv⟩;have G:Sub u (Am u d<|.dk a):=Sub.refl.new hd;have S:=G _ _ e0;have Y:Am u d (.dk a) d=some (.dk a):=Ac;generalize Am u d (.dk a)=μ1 at G S Y;refine An (λr q=>r=[oG<|Az g,oF m,oE C,oE d,t,v,B]/\Pe (Cz g m) ws=true/\Sub μ1 q) (λZ T=>?_) ?_
 ·refine Ab (Ao S) λI e=>?_;have O:C≠I:=by rintro rfl;rw[S]at e;cases e
  have Q:d≠I:=by rintro rfl;rw[Y]at e;cases e
  refine cmapf ws Ag (λw=>!(idx (Cz g m) w).isSome) Ag (λr=>∃o,r=[o,oE d]) ⟨none,rfl⟩ Ac (big<|by omega) (λ_=>Ao<|by rw[Af O,Af O];exact S) ?_ ?_;rintro i x τ' ai W W2 L ⟨o,rfl⟩ J hW2;refine Ab (x:=MO.dk a) (by rw[Af Q,Af Q];exact Y)<|Ab (x:=C2 a<|.inr x) rfl ?_;rw[hv x,N8];exact br (λc=>J c _ ⟨_,rfl⟩) λc=>hW2 c _ ⟨_,rfl⟩
  ·refine Ab Ac<|dif (λc=>⟨_,Sub.refl,qN ?_ _ ?_⟩) λc=>T _ _ ⟨rfl,?_,(Sub.refl.new e).new e⟩;rw[B_]at c;unfold rdT;rw[N_];intro V;have:ws.filter (λw=>!(idx (Cz g m) w).isSome)=[]:=by
    rw[List.filter_eq_nil_iff];intro w hw;have:=aV.mp V w hw;simp[this]
   rw[this]at c;exact absurd c (by decide);exact(G.new<|G.none e).new<|G.none e
   ·rw[B_]at c;unfold Pe;rw[aV];intro w hw;cases h:(idx (Cz g m) w).isSome with
    |true=>rfl
    |false=>have hm:w∈ws.filter λw=>!(idx (Cz g m) w).isSome:=jA.mpr ⟨hw,by rw[h];rfl⟩;have:=iE hm;exact absurd (show(0:Int)<_ by omega) c
 rintro r μ2 ⟨rfl,V,S2⟩;have e2:=S2 _ _ S;have d2:=S2 _ _ Y;have U:Sub u μ2:=λb m hb=>S2 b m<|G b m hb;refine Ab (Ao e2) λI e=>?_;have O:C≠I:=by rintro rfl;rw[e2]at e;cases e
 have Q:d≠I:=by rintro rfl;rw[d2]at e;cases e
 refine cmap ws _ (λw=>B6<|(idx (Cz g m) w).getD 0) (λr=>∃o,r=[o,oE d]) ⟨none,rfl⟩ Ac (big<|by omega) (λ_=>Ao<|by rw[Af O,Af O];exact e2) ?_ ?_;rintro i x τ' ai W L ⟨o,rfl⟩ J;obtain⟨k,hk⟩:=bO.mp<|aV.mp V x<|aB L;have J:=J [some<|Ag x,oE d] ⟨_,rfl⟩;rw[hk]at J;have hx:C2 a (.inr x)=some (B6 k):=by rw[hv x,hk];rfl
 exact Ab (x:=MO.dk a) (by rw[Af Q,Af Q];exact d2)<|Ab (x:=C2 a<|.inr x) rfl<|Ab hx J
 have em:(ws.map λw=>B6<|(idx (Cz g m) w).getD 0)=(Mw (Cz g m) ws).map B6:=by unfold Mw;rw[aJ];rfl
 rw[em];exact⟨_,Sub.refl,qS _ (by unfold rdT;rw[R_ V]) I _ (U.none e) Ac<|(U.new<|U.none e).new<|U.none e⟩
def V0(x y:Str):PyData.eqv (.str x) (.str y)=decide (x=y):=by rw[Hu rfl rfl];exact dZ.mpr ⟨λh=>by injection h,λh=>by rw[h]⟩
theorem N9:∀(a b:oA Int),PyData.eqvAll (a.map .int) (b.map .int)=decide (a=b)
 |[],[]=>by simp[PyData.eqvAll]
 |[],_::_=>by simp[PyData.eqvAll]
 |_::_,[]=>by simp[PyData.eqvAll]
 |x::a,y::b=>by simp only[List.map_cons,PyData.eqvAll,Kh,N9 a b];rw[<- Bool.decide_and];exact dZ.mpr ⟨λh=>by rw[h.1,h.2],λh=>by simpa using h⟩
theorem Rx:∀(is:oA Int),PyData.canLayAll0 (is.map .int)=true
 |[]=>rfl
 |x::r=>by show(true&&PyData.canLayAll0 (r.map .int))=true;rw[Rx r];rfl
theorem Ry:∀(is:oA Int),PyData.depthAll (is.map .int)<=1
 |[]=>by simp[PyData.depthAll]
 |x::r=>by have:=Ry r;simp only[List.map_cons,PyData.depthAll,PyData.depth];omega
def Kq(is:oA Int):Bz (.list<|is.map .int):=⟨Rx is,by have:=Ry is;simp only[PyData.depth];omega⟩
def zN(ns:oA Nat):oA Int:=ns.map λ(n:Nat)=>(n:Int)
def WW(ns:oA Nat):ns.map B6=(zN ns).map λn=>AV.D (.int n):=by unfold zN;rw[aJ];rfl
def PF(ns:oA Nat):(ns.map λ(n:Nat)=>PyData.int n)=(zN ns).map PyData.int:=by unfold zN;rw[aJ];rfl
theorem JU:∀(ns:oA Nat),Jc (ns.map B6)=some (zN ns)
 |[]=>rfl
 |n::ns=>by show(Jc<|ns.map B6).map ((n:Int)::·)=_;rw[JU ns];rfl
def DQ{a:oA Int}:∀{b:oA Int},a.Pairwise (· < ·)->b.Pairwise (· < ·)->(∀n,n∈a↔n∈b)->a=b:=by
 induction a with
 |nil=>
  intro b _ _ h;cases b with
  |nil=>rfl
  |cons y b=>exact absurd ((h y).mpr V_) (by simp)
 |cons x a j=>
  intro b ha hb h;cases b with
  |nil=>exact absurd ((h x).mp V_) (by simp)
  |cons y b=>
   have i:=fF.mp ha;have d:=fF.mp hb;have g:x=y:=by rcases Z_.mp ((h x).mp V_) with e|h1;exact e;rcases Z_.mp ((h y).mpr V_) with e|h2;exact e.symm;have:=i.1 y h2;have:=d.1 x h1;omega
   subst g;refine cF (x::·)<|j i.2 d.2 λn=>⟨λc=>?_,λc=>?_⟩;rcases Z_.mp ((h n).mp<|K_ _ c) with rfl|h1;exact absurd (i.1 n c)<|Int.lt_irrefl _;exact h1;rcases Z_.mp ((h n).mpr<|K_ _ c) with rfl|h1;exact absurd (d.1 n c)<|Int.lt_irrefl _;exact h1
def Oa{ns:oA Nat}{b:oA Int}(a:b.Pairwise (· < ·))(c:∀n,n∈b↔n∈zN ns):PyData.eqv (.list<|ns.map λ(n:Nat)=>PyData.int n) (.list<|b.map .int)=decide (ns.Pairwise (· < ·)):=by
 show PyData.eqvAll _ _=_;rw[PF,N9];refine dZ.mpr ⟨λh=>?_,λh=>?_⟩;rw[<- h]at a;unfold zN at a;rw[cV]at a;exact a.imp λh=>by omega
 refine DQ ?_ a λn=>(c n).symm;unfold zN;rw[cV];exact h.imp λh=>by omega
def Rz(g:Gam)(m:Nat)(B:oA Arw)(ws:oA Str):oB Arw:=if 7<B.length then none else stp g m B ws
def Jz(zs:oA Str)(z:Str):(zs.map PyData.str).findIdx? (λe=>PyData.eqv e<|.str z)=idx zs z:=by unfold idx;rw[List.findIdx?_map];refine cF (λp=>zs.findIdx? p)<|funext λy=>?_;exact V0 y z
def HW(zs:oA Str)(z:Str):((zs.map PyData.str).any λe=>PyData.eqv e<|.str z)=(idx zs z).isSome:=by rw[<- Jz,List.findIdx?_isSome]
def R0{zs r:oA Str}{z:Str}:rdT zs (z::r)=match idx zs z,rdT zs r with
  |some k,some a=>some (k::a)
  |_,_=>none:=by
 unfold rdT Pe Mw;rw[List.all_cons,bF];cases idx zs z with
 |none=>rfl
 |some k=>show(if(true&&r.all λw=>(idx zs w).isSome)=true then some (k::_) else none)=_;rw[eV];by_cases h:(r.all λw=>(idx zs w).isSome)=true;rw[R_ h,R_ h];rw[N_ h,N_ h]
def DR(B:oA Arw):Bz (.list<|B.map Bk):=⟨by simp only[PyData.canLay0];exact(Pa B).1,by have:=(Pa B).2.1;simp only[PyData.depth];omega⟩
def Ob(is:oA Int):dats (is.map λn=>AV.D<|.int n)=some (is.map PyData.int):=by rw[show(is.map λn=>AV.D<|.int n)=(is.map PyData.int).map .D by rw[aJ];rfl];exact Cw _
def HX(ds:oA kL):PyData.eqv (.list ds) (.list [])=ds.isEmpty:=by cases ds<;>simp[PyData.eqv,PyData.eqvAll]
abbrev nAw:oA Str:=["_law_game_here","_law_many","_law_words","_law_arrows","_law_stands_here","_law_arrow_here"]
def PH:FnScope nAw qJ (Ai QI):=⟨rfl,rfl,rfl,by decide +kernel,rfl,by decide +kernel,by decide +kernel⟩
def WX:ASp:=λh d R=>∃(g:Gam) (m:Nat) (q e:kM) (ws:oA Str) (B:oA Arw),h=[.D<|Az g,.D<|.int m,.R q,.R e]/\GmIn g/\m<=2/\d q=oH (ws.map Ag)/\ws.length<=500000/\(∀z∈ws,asc z)/\d e=oH (B.map λb=>.D<|Bk b)/\(∀b∈B,b.c=none)/\∀ a,Sub d a->R (.D<|DG<|Rz g m B ws) a
def DS{a:Type}(g:a->AV)(xs:oA a)(i n:Nat)(h:i+n<=xs.length):De (xs.map g) (some (i:Int)) (some ((i+n:Nat):Int))=((xs.drop i).take n).map g:=by unfold De;rw[HT.sIx_nat,HT.sIx_nat,B_,eD h,eD<|show i<=xs.length by omega,<- iT,<- iS,Nat.add_sub_cancel_left]
def DT(ws:oA Str)(h:4<=ws.length):De (ws.map Ag) (some 1) (some 2)=[ws.getD 1 ""].map Ag:=by
 refine(DS Ag ws 1 1<|by omega).trans (cF _ ?_)
 match ws,h with
 |w0::a::b::c::r,_=>rfl
def WY{n:Nat}(F:Fun K "_law_arrow" "_law_arrow" QI f fd) (cSt:VCal P w K mg base n "_law_stands" qB PB) (ah:mg "len" = none) (fy:mg "min" = none) (al:mg "tuple" = none) (be:mg "sorted" = none) (cy:mg "set" = none):FnOk P w K mg base Ez (n+1) f fd qJ (G6 K 4 WX):=by
 refine F.vok PH λav A outer s H E hr=>⟨_,(Ah (Bw (VW.pt<|Df (Bc Io (Aw Br rfl ah aA<|Aa (vv 2) Ad) Ae<|nomark _)<|Df (Bc Re (Ar A0 (vv 2) Ae) Ap<|nomark _)<|Df (Bc Re (Ar A0 (vv 2) Ae) Ap<|nomark _)<|Df (Bc (Kg hr) (Ar A0 (vv 2) Ae) (Ar A0 (vv 0) Ae)<|by with_unfolding_all rfl)<|D6<|Bc FP (Aw Br rfl ah aA<|Aa (vv 3) Ad) Ae<|nomark _) (Aj<|Ay Cg) A8)<|Ah (Aq (i:=4) PH.nd rfl oI<|Al cSt hr rfl<|Aa (vv 0)<|Aa (vv 1)<|Aa (Bb A5 (B9 (vv 2) (Cf Ae)<|Cf Ae)<|B9 (vv 2) (Cf Ae) Bn) Ad)<|Ah (Bw (VW.pt<|Df (Bc Hl (vv 4) Cg<|nomark _)<|D6<|Bc Io (GX rfl rfl fy (B9 (vv 4) (Cf Ae) Bn)<|Aw Br rfl ah aA<|Aa (Ar A0 (vv 0) Ae) Ad) (Aw Br rfl ah aA<|Aa (Ar A0 (vv 0) Ae) Ad)<|nomark _) (Aj<|Ay Cg) A8)<|Ah (Aq (i:=5) PH.nd rfl oI<|Cl<|Aa (Ar A0 (vv 4) Ae)<|Aa (GV hr (Ar A0 (vv 0) Ae)<|Aa (Ar A0 (vv 2) Ae) Ad)<|Aa (Bi D9 rfl al bT<|Aa (B9 (vv 4) (Cf Ae) Bn) Ad) Ad)<|Ah (Bw (VW.pt<|Df (Bc (FO hr) (B9 (vv 4) (Cf Ae) Bn) (Vi hr rfl be rfl cy<|B9 (vv 4) (Cf Ae) Bn)<|nomark _)<|D6<|VW.pt<|Sr (Bc (FO hr) (vv 3) (Cb Ad)<|nomark _)<|Op<|Bc (UB hr) (Ar A0 (vv 3)<|Hd Ae) (vv 5)<|nomark _) (Aj<|Ay Cg) A8)<|Aj<|Ay<|vv 5),?_⟩
 rintro xs X R _ ⟨g,m,q0,pa,ws,B,rfl,T,hm,N,hl,M,ea,hBc,q⟩;have hp:=T.p1;have hp0:=T.p0;have lu:=T.l1;have hg:∀{k:Nat},k<ws.length->atI (ws.map Ag) (k:Int)=some (Ag<|ws.getD k ""):=λ{k} hk=>Ak (by rw[F_,L_,D_ hk];rfl);have i9:∀{k:Nat},k<ws.length->ws[k]?=some (ws.getD k ""):=λ{k} hk=>by rw[L_,D_ hk];rfl
 have U:Pf ws=false->Rz g m B ws=none:=λh=>by unfold Rz stp R8;rw[h];split<;>rfl
 have O:Rz g m B ws=none->∀ d,Sub X d->R (.D .none) d:=λh d S=>by have:=q _ S;rw[h]at this;exact this
 refine An (λC d=>C=[oG<|Az g,oF m,oE q0,oE pa,none,none]/\Pf ws=true/\4<=ws.length/\B.length<=7/\(idx g.le<|ws.getD 2 "").isSome=true/\X=d) (λZ I=>?_) ?_
 ·refine Ab N<|dif (λc=>Fd rfl ⟨_,Sub.refl,O (U ?_) _ Sub.refl⟩) λc=>?_;rw[B_]at c;unfold Pf;rw[aF<|by omega];rfl;rw[B_]at c;have h4:4<=ws.length:=Int.ofNat_le.mp<|Int.not_lt.mp c;refine Ab N (Ab (hg (k:=0)<|by omega)<|br (λc=>Fd rfl ⟨_,Sub.refl,O (U ?_) _ Sub.refl⟩) λc=>?_);have c:ws.getD 0 "" ≠ ("arrow" : Str):=by simpa using c
  unfold Pf;rw[i9 (k:=0)<|by omega,aF (p:=some (ws.getD 0 "")=some ("arrow" : Str)) λz=>c<|aE z];simp;have c0:ws.getD 0 "" = ("arrow" : Str):=by simpa using c
  refine Ab N (Ab (hg (k:=3)<|by omega)<|br (λc=>Fd rfl ⟨_,Sub.refl,O (U ?_) _ Sub.refl⟩) λc=>?_);have c:ws.getD 3 "" ≠ (":" : Str):=by simpa using c
  unfold Pf;rw[i9 (k:=3)<|by omega,aF (p:=some (ws.getD 3 "")=some (":" : Str)) λz=>c<|aE z];simp;have c3:ws.getD 3 "" = (":" : Str):=by simpa using c
  have hh:Pf ws=true:=by unfold Pf;rw[i9 (k:=0)<|by omega,i9 (k:=3)<|by omega,c0,c3,aN h4];simp
  have a2:asc (ws.getD 2 ""):=M _ (aB<|i9 (k:=2)<|by omega);refine Ab N (Ab (hg (k:=2)<|by omega)<|Ab (Ak (j:=1) rfl)<|Ab rfl ⟨Gm<|asc_ok a2,Ru λz hz=>λc hc=>by have:=T.ln.l z hz c hc;omega,?_⟩);rw[HW];refine br (λc=>Fd rfl ⟨_,Sub.refl,O ?_ _ Sub.refl⟩) λc=>?_
  ·have c:(idx g.le<|ws.getD 2 "").isSome=false:=by simpa using c
   have c:idx g.le (ws.getD 2 "")=none:=by cases h:idx g.le (ws.getD 2 "") with
    |none=>rfl
    |some k=>rw[h]at c;cases c
   unfold Rz stp R8;rw[R_ hh,c];split
   rfl
   cases idx (Cz g m) (ws.getD 1 "")<;>rfl
  have c2:(idx g.le<|ws.getD 2 "").isSome=true:=by simpa using c
  refine Ab ea<|dif (λc=>⟨_,Sub.refl,O ?_ _ Sub.refl⟩) λc=>I _ _ ⟨rfl,hh,h4,?_,c2,rfl⟩;rw[B_]at c;unfold Rz;rw[R_<|by omega];rw[B_]at c;omega
 rintro C _ ⟨rfl,hh,h4,hB7,hx,rfl⟩;obtain⟨x,hx⟩:=bO.mp hx;have W:R8 g m ws=match idx (Cz g m) (ws.getD 1 ""),rdT (Cz g m) (ws.drop 4) with
  |some p,some o=>some ⟨p,x,o,none⟩
  |_,_=>none:=by
  unfold R8;rw[R_ hh,hx];cases idx (Cz g m) (ws.getD 1 "") with
  |none=>rfl
  |some k=>cases rdT (Cz g m) (ws.drop 4)<;>rfl
 have x6:Rz g m B ws=match R8 g m ws with
  |some a=>if mbh g m B a=true then some a else none
  |none=>none:=by
  unfold Rz;rw[N_<|by omega];rfl
 refine An (λC d=>∃v,C=[oG<|Az g,oF m,oE q0,oE pa,some v,none]/\Sub X d/\((v=.D .none/\Rz g m B ws=none)\/∃p0 k o,v=.R p0/\d p0=oH ((k::o).map B6)/\idx (Cz g m) (ws.getD 1 "")=some k/\rdT (Cz g m) (ws.drop 4)=some o)) (λZ I=>?_) ?_
 ·refine Ab (Ao N) λG cw=>?_;have n1:q0≠G:=by rintro rfl;rw[N]at cw;cases cw
  rw[DT ws h4];refine Ab (Ao<|by rw[Af n1];exact N) λp2 Q=>?_;have n2:G≠p2:=by rintro rfl;rw[Ac]at Q;cases Q
  rw[show De (ws.map Ag) (some 4) none=(ws.drop 4).map Ag from Ia _ 4];refine Ab (x:=MO.lst<|[ws.getD 1 ""].map Ag) (by rw[Af n2];exact Ac) (Ab Ac ⟨by rw[B_,B_,aH];exact big<|show 1+(ws.length-4)<=900000 by omega,λp3 bq=>?_⟩);rw[<- P_];have S1:Sub X (Am X G<|.lst<|[ws.getD 1 ""].map Ag):=Sub.refl.new cw;have L:=S1.new (m:=.lst<|(ws.drop 4).map Ag)<|S1.none Q;have S3:=L.new (m:=.lst<|([ws.getD 1 ""]++ws.drop 4).map Ag)<|L.none bq;refine⟨g,m,p3,ws.getD 1 "" :: ws.drop 4,rfl,T,hm,Ac,by rw[aM,aH];omega,λh μ4 S4=>I _ _ ⟨_,rfl,λb u hb=>S4 b u<|S3 b u hb,.inl ⟨rfl,?_⟩⟩,λns h p μ4 _ e4 S4=>?_⟩
  ·rw[R0]at h;rw[x6,W];cases h1:idx (Cz g m) (ws.getD 1 "") with
   |none=>rfl
   |some k=>
    cases h2:rdT (Cz g m) (ws.drop 4) with
    |none=>rfl
    |some o=>rw[h1,h2]at h;cases h
  ·rw[R0]at h;cases h1:idx (Cz g m) (ws.getD 1 "") with
   |none=>rw[h1]at h;cases h
   |some k=>
    cases h2:rdT (Cz g m) (ws.drop 4) with
    |none=>rw[h1,h2]at h;cases h
    |some o=>rw[h1,h2]at h;cases h;exact I _ _ ⟨_,rfl,λb u hb=>S4 b u<|S3 b u hb,.inr ⟨p,k,o,rfl,e4,h1,h2⟩⟩
 rintro C V ⟨v,rfl,S1,hv⟩;rcases hv with⟨rfl,hnn⟩|⟨p0,k,o,rfl,e1,hk,qf⟩;exact Ci<|Fd rfl<|Fd rfl ⟨_,Sub.refl,O hnn _ S1⟩;rw[hk,qf]at W;rw[W]at x6;dsimp only at x6;obtain⟨htl,htb⟩:=Ko qf;rw[Ey]at htb;rw[aH]at htl;have je:De ((k::o).map B6) (some 1) none=o.map B6:=Gy B6 (k::o) 1;have no2:mbh g m B ⟨k,x,o,none⟩=false->Rz g m B ws=none:=λh=>by rw[x6,h];rfl
 refine An (λC d=>C=[oG<|Az g,oF m,oE q0,oE pa,oE p0,none]/\Yg o g.pl.length (g.pl.length+m)=true/\Sub V d) (λZ I=>?_) ?_;refine J9 rfl<|Ab (Ao e1) λp hp=>?_;rw[je];have L:Sub V (Am V p<|.lst<|o.map B6):=Sub.refl.new hp;refine Ab (Ak (j:=0) rfl)<|Ab Ac<|Ab (JU o) λv h1 h2=>Ab (Ak (j:=0) rfl)<|dif (λc=>⟨_,Sub.refl,O (no2 ?_) _ λb u hb=>L b u<|S1 b u hb⟩) λc=>I _ _ ⟨rfl,?_,L⟩;rw[B_]at c h1;have am:zN o≠[]:=λe=>by have:=h1 e;omega
 obtain⟨t,J,e⟩:=M_.mp (h2 am).1;have:Yg o g.pl.length (g.pl.length+m)=false:=by unfold Yg;rw[List.all_eq_false];exact⟨t,J,by rw[gT];omega⟩
 unfold mbh ris;rw[this];rfl;rw[B_]at c h1;unfold Yg;rw[aV];intro t J;have am:zN o≠[]:=λe=>by rw[List.map_eq_nil_iff.mp e]at J;cases J
 have:=(h2 am).2 (t:Int)<|M_.mpr ⟨t,J,rfl⟩;have:=htb t J;exact aN (by omega);rintro C μ2 ⟨rfl,cq,L⟩;have T2:Sub X μ2:=λb u hb=>L b u<|S1 b u hb;have e2:=L _ _ e1;have hTT:CC (.D<|.tuple<|g.le.map PyData.str):=by
  cases h:g.le with
  |nil=>have:=T.l0;rw[h]at this;exact absurd this (dF _)
  |cons z r=>trivial
 have hlk:Bz (.tuple<|g.le.map PyData.str):=Ru λz hz=>λc hc=>by have:=T.ln.l z hz c hc;omega
 have a2:asc (ws.getD 2 ""):=M _ (aB<|i9 (k:=2)<|by omega);refine An (λC d=>C=[oG<|Az g,oF m,oE q0,oE pa,oE p0,oG<|Bk ⟨k,x,o,none⟩]/\Sub μ2 d) (λZ I=>?_) ?_;refine Ab e2 (Ab (x:=B6 k) (Ak (j:=0) rfl)<|Ab (Ak (j:=1) rfl) ⟨hTT,Ab (T2 _ _ N)<|Ab (hg (k:=2)<|by omega)<|Ab rfl ⟨Gm<|asc_ok a2,hlk,Ab ((Jz g.le _).trans hx)<|Ab (Ao e2) λp hp=>?_⟩⟩);rw[je];exact Ab (Ao Ac)<|Ab (En o)<|I _ _ ⟨rfl,Sub.refl.new hp⟩;rintro C y ⟨rfl,S3⟩;have T3:Sub X y:=λb u hb=>S3 b u<|T2 b u hb;have e3:=S3 _ _ e2;have fin:∀ d,Sub y d->mbh g m B ⟨k,x,o,none⟩=true->R (.D<|Bk ⟨k,x,o,none⟩) d:=λd S h=>by have:=q d λb u hb=>S b u<|T3 b u hb;rw[x6,R_ h]at this;exact this
 have Y:∀ d,Sub y d->mbh g m B ⟨k,x,o,none⟩=false->R (.D .none) d:=λd S h=>O (no2 h) d λb u hb=>S b u<|T3 b u hb;have hmb:mbh g m B ⟨k,x,o,none⟩=(decide (o.Pairwise (· < ·))&&X8 B ⟨k,x,o,none⟩):=by unfold mbh ris;rw[cq,eV]
 rw[hmb]at fin Y;refine An (λC d=>C=[oG<|Az g,oF m,oE q0,oE pa,oE p0,oG<|Bk ⟨k,x,o,none⟩]/\R (.D<|Bk ⟨k,x,o,none⟩) d) (λZ I=>?_) (by rintro C d ⟨e,h⟩;subst e;exact⟨_,Sub.refl,h⟩);refine Ab (Ao e3) λG cw=>?_;rw[je];have S4:Sub y (Am y G<|.lst<|o.map B6):=Sub.refl.new cw;refine Ab (Ao<|S4 _ _ e3) λp2 Q=>?_;rw[je];have S5:=S4.new (m:=.lst<|o.map B6)<|S4.none Q;have n12:G≠p2:=by rintro rfl;rw[Ac]at Q;cases Q
 have f5:Am (Am y G<|.lst<|o.map B6) p2 (.lst<|o.map B6) G=oH (o.map B6):=by rw[Af n12];exact Ac
 have g5:Am (Am y G<|.lst<|o.map B6) p2 (.lst<|o.map B6) p2=oH (o.map B6):=Ac;generalize Am (Am y G<|.lst<|o.map B6) p2 (.lst<|o.map B6)=μ5 at S5 f5 g5;refine Ab (Ao g5) ⟨zN o,WW o,λn hn=>?_,λl ms hl j0 y6=>?_⟩;obtain⟨t,J,rfl⟩:=M_.mp hn;have:=htb t J;omega;have n1l:G≠l:=by rintro rfl;rw[f5]at hl;cases hl
 have S6:=S5.new (m:=.lst<|ms.map λn=>.D<|.int n)<|S5.none hl;refine Ab (Jy (xs:=o.map B6) (by rw[Af n1l];exact f5)<|En o)<|Ab (Jy (xs:=ms.map λn=>.D<|.int n) Ac<|Ob ms) ⟨?_,Kq ms,?_⟩;rw[PF];exact Kq _;rw[Oa j0 y6];generalize Am μ5 l (.lst<|ms.map λn=>.D<|.int n)=μ6 at S6;refine br (λc=>Fd rfl ⟨_,Sub.refl,Y _ S6 ?_⟩) λc=>?_;have c:decide (o.Pairwise (· < ·))=false:=by simpa using c
 rw[c];rfl;have c:decide (o.Pairwise (· < ·))=true:=by simpa using c
 rw[c,eV]at fin Y;intro p7 hp7;have S7:=S6.new (m:=.lst [])<|S6.none hp7;have ea7:=S7 _ _<|T3 _ _ ea;refine Ab (Jy ea7<|Ma B) (Ab (Jy Ac rfl) ⟨DR B,⟨rfl,by simp[PyData.depth,PyData.depthAll]⟩,?_⟩);rw[HX];unfold X8 at fin Y;rcases fM B with rfl|⟨B',b,rfl⟩;exact J9 rfl<|J9 rfl<|I _ _ ⟨rfl,fin _ S7 rfl⟩;have e9:atI ((B'.concat b).map λb=>AV.D<|Bk b) (-1)=oG (Bk b):=by rw[dE,P_];exact Kw _ _
 have wx:(B'.concat b).getLast?=some b:=by rw[dE];simp
 rw[wx]at fin Y;dsimp only at fin Y;refine Fd (by rw[dE,P_];simp)<|Ab ea7<|Ab e9 ⟨Hy b,Hy _,O9 ?_,br (λc=>⟨_,Sub.refl,Y _ S7 ?_⟩) λc=>I _ _ ⟨rfl,fin _ S7 ?_⟩⟩;rw[hBc b<|by simp];have c:(!Fk (Bk b) (Bk ⟨k,x,o,none⟩))=true:=c;rw[Bool.not_eq_true']at c;exact c;have c:(!Fk (Bk b) (Bk ⟨k,x,o,none⟩))=false:=c;rw[Bool.not_eq_false']at c;exact c
def HY(m:Nat):Str:=match m with
 | 0=> "own 0"
 | 1=> "own 1"
 |_=> "own 2"
def V1:∀m:Fin 3,Txt.join " " (Hz m.val)=HY m.val/\(atI (HY m.val).cps.toList (-1)=some (48+m.val))/\PySem.intText? ⟨#[48+m.val]⟩=some ((m.val:Nat):Int)/\(HY m.val).length=5:=by decide +kernel
def Ib{r:Str}{m:Nat}(h:m<=2):Txt.split r " " = Hz m↔r=HY m:=by have e:=(V1 ⟨m,by omega⟩).1;dsimp only at e;constructor;intro h1;rw[<- e,<- h1,Eb,G8,dI];rintro rfl;rw[<- e];refine N6 ⟨f_ _ _,λz hz=>?_⟩;simp only[Hz,List.mem_cons,List.not_mem_nil,or_false]at hz;rcases hz with rfl|rfl;exact VZ.2.2.2;exact Tw<|by omega
def DU:oA kL:=[.str "own 0",.str "own 1",.str "own 2"]
def HZ(r:Str):(DU.any λe=>PyData.eqv e<|.str r)=(Vv<|Txt.split r " ").isSome:=by unfold DU;simp only[List.any_cons,List.any_nil,Bool.or_false,V0];unfold Vv;have c:=Ib (r:=r) (m:=0) (by decide);have b:=Ib (r:=r) (m:=1) (by decide);have d:=Ib (r:=r) (m:=2) (by decide);by_cases a:r=("own 0" : Str);rw[R_<|c.mpr a];simp[a];rw[N_ λe=>a<|c.mp e];by_cases h1:r=("own 1" : Str);rw[R_<|b.mpr h1];simp[h1];rw[N_ λe=>h1<|b.mp e];by_cases h2:r=("own 2" : Str);rw[R_<|d.mpr h2];simp[h2];rw[N_ λe=>h2<|d.mp e];have g:¬("own 0" : Str)=r:=λe=>a e.symm;have i:¬("own 1" : Str)=r:=λe=>h1 e.symm;have h:¬("own 2" : Str)=r:=λe=>h2 e.symm;simp[g,i,h]
def IA:Bz (.tuple DU):=by unfold Bz DU;decide +kernel
def PJ:Sum Nat Say->kL
 |.inl r=>.int (r:Nat)
 |.inr _=>.none
abbrev nFw:oA Str:=["_law_game_here","_law_text","_law_lines","_law_many","_law_arrows","_law_row","_law_words","_law_stands_here","_law_arrow_here"]
def R3:FnScope nFw oM (Ai QJ):=⟨rfl,rfl,rfl,by decide +kernel,rfl,by decide +kernel,by decide +kernel⟩
def WZ:ASp:=λc b R=>∃(g:Gam) (T:Str),c=[.D<|Az g,.D<|.str T]/\GmIn g/\asc T/\T.length<=400000/\∀ a,Sub b a->R (.D<|PJ<|Vx g<|wrd T) a
def XB{n:Nat}(F:Fun K "_law_first_wrong" "_law_first_wrong" QJ f fd) (cAw:VCal P w K mg base n "_law_arrow" qJ WX) (cSt:VCal P w K mg base n "_law_stands" qB PB) (fg:mg "int" = none) (ak:mg "range" = none) (ah:mg "len" = none) (be:mg "sorted" = none) (cy:mg "set" = none):FnOk P w K mg base Ez (n+1) f fd oM (G6 K 2 WZ):=by
 refine F.vok R3 λav A outer s H E hr=>⟨_,(Ah (Aq (i:=2) R3.nd rfl oI<|Es cN cP Ex (vv 1)<|Aa Ap Ad)<|Ah (Bw (Bc (Kg hr) (Ar A0 (vv 2) Ae) (Cb<|Aa Ap<|Aa Ap<|Aa Ap Ad)<|by with_unfolding_all rfl) (Aj<|Ay Ae) A8)<|Ah (Aq (i:=3) R3.nd rfl oI<|Bi NZ rfl fg iN<|Aa (Ar A0 (Ar A0 (vv 2) Ae)<|Hd Ae) Ad)<|Ah (Aq (i:=4) R3.nd rfl oI<|Cb Ad)<|Ah (Di cD rfl (W5 rfl ak<|Aa Ae<|Aa (Aw Br rfl ah aA<|Aa (vv 2) Ad) Ad) (Ax (i:=5) R3.nd rfl oI)<|Ah (Aq (i:=6) R3.nd rfl oI<|Es cN cP Ex (Ar A0 (vv 2)<|vv 5)<|Aa Ap Ad)<|Ah (Bw (Bc TV (Ar A0 (vv 6) Ae) Ap<|nomark _) (Ah (Aq (i:=7) R3.nd rfl oI<|Al cSt hr rfl<|Aa (vv 0)<|Aa (vv 3)<|Aa (B9 (vv 6) (Cf Ae) Bn) Ad)<|Ah (Bw (VW.pt<|Df (Bc Hl (vv 7) Cg<|nomark _)<|D6<|Bc (FO hr) (vv 7) (Vi hr rfl be rfl cy<|vv 7)<|nomark _) (Aj<|Ay<|vv 5) A8)<|Aj<|Ay<|Ar A0 (Cb<|Aa (Bb A5 (vv 5) Ae)<|Aa Cg Ad)<|Bi IZ rfl fg iN<|Aa (Fw (Gj hr) (Bb A5 (vv 5) Ae) (Aw Br rfl ah aA<|Aa (vv 2) Ad)<|nomark _) Ad) A8)<|Ah (Aq (i:=8) R3.nd rfl oI<|Al cAw hr rfl<|Aa (vv 0)<|Aa (vv 3)<|Aa (vv 6)<|Aa (vv 4) Ad)<|Ah (Bw (Bc Hl (vv 8) Cg<|nomark _) (Aj<|Ay<|vv 5) A8)<|Aj<|Et<|Jn bW bX Dv (vv 4)<|Aa (vv 8) Ad)<|Aj<|Ay<|Aw Br rfl ah aA<|Aa (vv 2) Ad),?_⟩
 rintro xs Y R _ ⟨g,T,rfl,hG,hTa,hTl,q⟩;obtain⟨oz,hWn,hWw⟩:=DI hTa hTl;have dv:=λr (hr:r∈Txt.split T "\n")=>Pi hTa hTl hr;have ic:(Txt.split T "\n").length=(wrd T).length:=by unfold wrd;rw[B_]
 have sm:∀{i:Nat} {r:Str},(Txt.split T "\n")[i]?=some r->(wrd T)[i]?=some (Txt.split r " "):=λ{i r} e=>by unfold wrd;rw[F_,e];rfl
 refine Ci ⟨trivial,QQ.1,by omega,λI cw=>?_⟩;have S1:Sub Y (Am Y I<|.lst<|(Txt.split T "\n").map λw=>.D<|.str w):=Sub.refl.new cw;have e1:Am Y I (.lst<|(Txt.split T "\n").map λw=>.D<|.str w) I=oH ((Txt.split T "\n").map Ag):=Ac;generalize Am Y I (.lst<|(Txt.split T "\n").map λw=>.D<|.str w)=μ1 at S1 e1;generalize Txt.split T "\n" = L at dv ic sm e1;generalize wrd T=W at oz hWn hWw ic sm q;dsimp only[Db,List.set,Fv];have hL:∀{j:Nat},j<W.length->∃r,L[j]?=some r/\W[j]?=some (Txt.split r " ")/\atI (L.map Ag) (j:Int)=some (Ag r)/\asc r/\r.length<=400000:=λ{j} hj=>by have e:=D_ (show j<L.length by omega);exact⟨_,e,sm e,Ak<|by rw[F_,e];rfl,dv _<|aB e⟩
 obtain⟨r0,hr0,mw,ha0,as0,hl0⟩:=hL oz;have hg0:W.getD 0 []=Txt.split r0 " " := by rw[L_,mw];rfl
 unfold Vx at q;rw[hg0]at q;refine An (λo d=>∃m,Vv (Txt.split r0 " ")=some m/\o=[oG<|Az g,oG<|.str T,oE I,none,none,none,none,none,none]/\Sub μ1 d) (λZ hZ=>?_) ?_
 ·refine Ab e1<|Ab (x:=Ag r0) ha0 λp hp=>Ab rfl<|Ab (Ao Ac)<|Ab (x:=DU) rfl ⟨Gm<|asc_ok as0,IA,?_⟩;rw[HZ];cases ho:Vv (Txt.split r0 " ") with
  |none=>rw[ho]at q;exact Fd rfl ⟨_,Sub.refl,q _<|S1.new<|S1.none hp⟩
  |some m=>exact J9 rfl<|hZ _ _ ⟨m,ho,rfl,Sub.refl.new hp⟩
 rintro o J ⟨m,ho,rfl,S2⟩;rw[ho]at q;dsimp only at q;obtain⟨hs0,hm⟩:=Mg ho;have zd1:=(Ib hm).mp hs0;have T2:Sub Y J:=λb u hb=>S2 b u<|S1 b u hb;have e2:=S2 _ _ e1;refine An (λo d=>o=[oG<|Az g,oG<|.str T,oE I,oF m,none,none,none,none,none]/\J=d) (λZ hZ=>?_) ?_;obtain⟨_,k1,k2,k3⟩:=V1 ⟨m,by omega⟩;dsimp only at k1 k2 k3;rw[<- zd1]at k1;exact Ab e2 (Ab (x:=Ag r0) ha0 ⟨big<|by omega,Ab k1<|Ab k2 ⟨(show 1<=640 by decide),hZ _ _ ⟨rfl,rfl⟩⟩⟩);rintro o _ ⟨rfl,rfl⟩;refine Ci λG ud=>?_;have ly:=T2.none ud;have zv:I≠G:=by rintro rfl;rw[e2]at ud;cases ud
 have a3:Am J G (.lst []) G=oH []:=Ac;have e3:Am J G (.lst []) I=oH (L.map Ag):=by rw[Af zv];exact e2
 have T3:Sub Y (Am J G<|.lst []):=T2.new ly;dsimp only[Db,List.set];generalize Am J G (.lst [])=μ3 at a3 e3 T3;have Q:∀{d:M},E9 G μ3 d->Sub Y d:=λ{d} X b u hb=>X b u (by rintro rfl;rw[ly]at hb;cases hb)<|T3 b u hb;have mz:(L.map Ag).length=W.length:=by rw[B_,ic]
 have stop:∀(B:oA Arw) (ws:oA Str),Gs g m ((W.drop 1).take 8) []=B->1+B.length<W.length->W[1+B.length]?=some ws->∀ d,Sub Y d->R (.D<|PJ (match X9 g m ws with
   |none=>.inl (1+B.length)
   |some es=>if 1+B.length+1<W.length then .inl (1+B.length+1) else .inr ⟨m,B,es⟩)) d:=λB ws hB ay hws d S=>by
  have:=q d S;rw[hB,N_<|by omega,show W.getD (1+B.length) []=ws by rw[L_,hws];rfl]at this;exact this
 refine An (λo d=>R (.D<|.int (W.length:Nat)) d/\∃o5 o6 o7 o8,o=[oG<|Az g,oG<|.str T,oE I,oF m,oE G,o5,o6,o7,o8]/\d I=oH (L.map Ag)) (λZ hZ=>?_) ?_
 ·refine Ab e3 ⟨⟨by decide,by decide,by rw[mz];omega,by rw[mz];omega⟩,?_⟩;rw[mz];have aj:(Ea 1 ((W.length:Int)-1).toNat).length=W.length-1:=by rw[Bv];omega
  refine Fe (λi o d=>∃o5 o6 o7 o8 B,o=[oG<|Az g,oG<|.str T,oE I,oF m,oE G,o5,o6,o7,o8]/\Gs g m (((W.drop 1).take 8).drop i) B=Gs g m ((W.drop 1).take 8) []/\B.length=i/\i<=8/\(∀b∈B,b.c=none)/\d G=oH (B.map λa=>.D<|Bk a)/\E9 G μ3 d) ⟨none,none,none,none,[],rfl,rfl,rfl,aU _,(λ_ z=>nomatch z),a3,E9.refl⟩ (λ_ _ _ _=>trivial) ?_ ?_
  ·rintro i y o μ4 Z2 hy ⟨o5,o6,o7,o8,B,rfl,U,j6,hi8,hBc,a4,X4⟩ bu;have hi:=(E_.mp hy).1;rw[aj]at hi;have ey:=Eg _ _ _ hy;have ey:y=.D (.int ((1+i:Nat):Int)):=by rw[ey,Int.natCast_add];rfl
   subst ey;obtain⟨r,hr,hw,har,asr,hlr⟩:=hL (j:=1+i) (by omega);obtain⟨w0l,wnl,wasc⟩:=hWw _<|aB hw;have e4:=X4 _ _ zv e3;refine An (λo d=>∃V,o=[oG<|Az g,oG<|.str T,oE I,oF m,oE G,oF ((1+i:Nat):Int),oE V,o7,o8]/\d V=oH ((Txt.split r " ").map Ag)/\d G=oH (B.map λa=>.D<|Bk a)/\E9 G μ3 d) (λZ3 bj=>?_) ?_;refine Ab e4 (Ab (x:=Ag r) har ⟨trivial,QQ.2,by omega,λV x9=>bj _ _ ⟨V,rfl,Ac,?_,X4.new x9⟩⟩);rw[Af<|by rintro rfl;rw[a4]at x9;cases x9];exact a4;generalize Txt.split r " " = ws at hw w0l wnl wasc;rintro o μ5 ⟨V,rfl,w5,a5,X5⟩;have ge:i<8->((W.drop 1).take 8).drop i=ws::((W.drop 1).take 8).drop (i+1):=λh8=>by
    have h2:((W.drop 1).take 8)[i]?=some ws:=by rw[fH,R_ h8,jP];exact hw
    obtain⟨h3,h4⟩:=E_.mp h2;rw[bM h3,h4]
   have uy:Rz g m B ws=none->Gs g m ((W.drop 1).take 8) []=B:=λh=>by rw[<- U];unfold Rz at h;by_cases h8:i<8;rw[N_<|by omega]at h;rw[ge h8,Ep,h];rw[eF<|by rw[aD];omega];rfl
   have hws:W[1+B.length]?=some ws:=by rw[j6];exact hw
   have g0:ws[0]?=some (ws.getD 0 ""):=by rw[L_,D_ w0l];rfl
   have g0A:atI (ws.map Ag) 0=some (Ag<|ws.getD 0 ""):=Ak (j:=0) (by rw[F_,g0];rfl);have e5:=X5 _ _ zv e3;refine An (λo d=>o=[oG<|Az g,oG<|.str T,oE I,oF m,oE G,oF ((1+i:Nat):Int),oE V,o7,o8]/\ws.getD 0 "" ≠ ("ends" : Str)/\μ5=d) (λZ3 bj=>?_) ?_
   ·refine Ab w5<|Ab g0A<|dif (λc=>?_) λc=>bj _ _ ⟨rfl,c,rfl⟩;have C:=stop B ws (uy (by
     unfold Rz;split
     rfl
     ·cases ws with
      |nil=>exact absurd w0l (dF _)
      |cons w r=>
       have c:w=("ends" : Str):=c;subst c;exact Vy (r:=r))) (by omega) hws
    rw[j6]at C;unfold X9 at C;rw[R_<|by rw[g0,c]]at C;refine An (λo d=>∃v,o=[oG<|Az g,oG<|.str T,oE I,oF m,oE G,oF ((1+i:Nat):Int),oE V,some v,o8]/\Sub μ5 d/\((v=.D .none/\rdT (Cz g m) (ws.drop 1)=none)\/∃p0 N,v=.R p0/\d p0=oH (N.map B6)/\rdT (Cz g m) (ws.drop 1)=some N)) (λZ4 j7=>?_) ?_;refine Ab (Ao w5) λp hp=>?_;have S6:Sub μ5 (Am μ5 p<|.lst<|De (ws.map Ag) (some 1) none):=Sub.refl.new hp;refine⟨g,m,p,ws.drop 1,rfl,hG,hm,?_,by rw[aH];omega,λh μ7 S7=>j7 _ _ ⟨_,rfl,λb u hb=>S7 b u<|S6 b u hb,.inl ⟨rfl,h⟩⟩,λN h p0 μ7 _ e7 S7=>j7 _ _ ⟨_,rfl,λb u hb=>S7 b u<|S6 b u hb,.inr ⟨p0,N,rfl,e7,h⟩⟩⟩;rw[Ac,show De (ws.map Ag) (some 1) none=(ws.drop 1).map Ag from Ia _ 1];rintro o O ⟨v,rfl,S6,hv⟩;have K6:Sub Y O:=λb u hb=>S6 b u<|Q X5 b u hb;rcases hv with⟨rfl,hnn⟩|⟨p0,N,rfl,e6,fi⟩;have:=C _ K6;rw[hnn]at this;exact Ci<|Fd rfl<|Fd rfl ⟨_,Sub.refl,this⟩;rw[fi]at C;dsimp only at C;obtain⟨_,htb⟩:=Ko fi;rw[Ey]at htb;have hri:ris N 0 (g.pl.length+m)=decide (N.Pairwise (· < ·)):=by unfold ris Yg;rw[aV.mpr λn hn=>aN ⟨aU _,htb n hn⟩,eV]
    rw[hri]at C;have sj:=hG.p1;refine An (λo d=>o=[oG<|Az g,oG<|.str T,oE I,oF m,oE G,oF ((1+i:Nat):Int),oE V,oE p0,o8]/\decide (N.Pairwise (· < ·))=true/\Sub O d) (λZ4 j7=>?_) ?_;refine J9 rfl<|Ab (Ao e6) ⟨zN N,WW N,λn hn=>?_,λl ms hl j0 y6=>?_⟩;obtain⟨t,ht,rfl⟩:=M_.mp hn;have:=htb t ht;omega;have n0l:p0≠l:=by rintro rfl;rw[e6]at hl;cases hl
    have S7:Sub O (Am O l<|.lst<|ms.map λn=>.D<|.int n):=Sub.refl.new hl;refine Ab (Jy (xs:=N.map B6) (by rw[Af n0l];exact e6)<|En N) (Ab (Jy (xs:=ms.map λn=>.D<|.int n) Ac<|Ob ms) ⟨by rw[PF];exact Kq _,Kq ms,?_⟩);rw[Oa j0 y6];refine br (λc=>⟨_,Sub.refl,?_⟩) (λc=>j7 _ _ ⟨rfl,by simpa using c,S7⟩);have c:decide (N.Pairwise (· < ·))=false:=by simpa using c
    have:=C _ λb u hb=>S7 b u<|K6 b u hb;rw[c]at this;exact this;rintro o μ7 ⟨rfl,x9,S7⟩;have K7:Sub Y μ7:=λb u hb=>S7 b u<|K6 b u hb;rw[x9]at C;refine λp hp=>?_;have S8:=K7.new (m:=.lst [.D<|.int<|((1+i:Nat):Int)+1,.D .none])<|K7.none hp;have C:=C _ S8;rw[R_ rfl]at C;dsimp only at C;have e8:Am μ7 p (.lst [.D<|.int<|((1+i:Nat):Int)+1,.D .none]) I=oH (L.map Ag):=Sub.refl.new hp _ _<|S7 _ _<|S6 _ _ e5;refine Ab e8 ⟨Ff _,Ff _,?_⟩;rw[Kh,mz];by_cases ay:1+i+1<W.length;rw[R_ ay]at C;rw[aF<|show ¬((1+i:Nat):Int)+1=(W.length:Int) by omega];exact Ab Ac<|Ab (x:=.D<|.int<|((1+i:Nat):Int)+1) (Ak (j:=0) rfl) ⟨_,Sub.refl,C⟩;rw[N_ ay]at C;rw[aN<|show((1+i:Nat):Int)+1=(W.length:Int) by omega];exact Ab Ac<|Ab (x:=.D .none) (Ak (j:=1) rfl) ⟨_,Sub.refl,C⟩
   rintro o _ ⟨rfl,am,rfl⟩;refine An (λo d=>o=[oG<|Az g,oG<|.str T,oE I,oF m,oE G,oF ((1+i:Nat):Int),oE V,o7,oG<|DG<|Rz g m B ws]/\d G=oH (B.map λa=>.D<|Bk a)/\E9 G μ3 d) (λZ3 bj=>?_) ?_;exact⟨g,m,V,G,ws,B,rfl,hG,hm,w5,by omega,wasc,a5,hBc,λO S6=>bj _ _ ⟨rfl,S6 _ _ a5,λb u hb lm=>S6 b u<|X5 b u hb lm⟩⟩;rintro o O ⟨rfl,a6,X6⟩;cases ha:Rz g m B ws with
   |none=>have C:=stop B ws (uy ha) (by omega) hws _<|Q X6;unfold X9 at C;rw[N_<|by rw[g0];exact λz=>am<|aE z,j6]at C;exact Ci (Fd rfl ⟨_,Sub.refl,C⟩)
   |some a=>
    have h7:¬ 7<B.length:=λh=>by unfold Rz at ha;rw[R_ h]at ha;cases ha
    unfold Rz at ha;rw[N_ h7]at ha;rw[ge<|by omega,Ep,ha]at U;have U:Gs g m (((W.drop 1).take 8).drop<|i+1) (B++[a])=Gs g m ((W.drop 1).take 8) []:=U;refine Ci (J9 rfl ⟨Ab a6 trivial,Ab a6 ⟨Bm<|by rw[B_];omega,bu _ _ ⟨_,_,_,_,B++[a],rfl,U,by rw[J_,j6];rfl,by omega,λb hb=>?_,?_,X6.k⟩⟩⟩);rcases U_.mp hb with hb|hb;exact hBc b hb;rw[Y_.mp hb];exact(DK ha).1.c;rw[Ac,P_];rfl
  rintro o μ4 ⟨o5,o6,o7,o8,B,rfl,U,j6,hi8,hBc,a4,X4⟩;rw[aj]at U j6;rw[eF<|by rw[aD,aH];omega]at U;have U:B=Gs g m ((W.drop 1).take 8) []:=U;have:=q _<|Q X4;rw[<- U,R_<|by omega,show 1+B.length=W.length by omega]at this;exact hZ _ _ ⟨this,_,_,_,_,rfl,X4 _ _ zv e3⟩
 rintro o μ4 ⟨hq,o5,o6,o7,o8,rfl,e4⟩;refine Ab e4 ⟨_,Sub.refl,?_⟩;rw[mz];exact hq
def Dr{x y:Str}(hx:asc x)(hy:asc y):asc (x++y):=λc hc=>by rw[O0]at hc;rcases U_.mp hc with h|h;exact hx c h;exact hy c h
def Dy{x:Str}(h:lets x):asc x:=λc hc=>by have:=h c hc;omega
def JV:asc ("" : Str):=λc hc=>by rw[BF]at hc;cases hc
def IB{c:Nat}(h:c<=126):asc ⟨#[c]⟩:=λd hd=>by
 have:d=c:=by simpa using hd
 rw[this];exact h
def Yd{x:Str}(lo a:oB Int)(h:asc x):asc (Txt.slice x lo a):=λc hc=>by have hc:c∈(StrLaws.sliceText x lo a).cps.toList:=hc;unfold StrLaws.sliceText at hc;split at hc;exact h c hc;have hc:c∈(List.filterMap (λi=>x.cps[i]?)<|Builtin.Str.strSliceIndices lo a 1 x.length).toArray.toList:=hc;rw[List.toList_toArray,gO]at hc;obtain⟨i,_,e⟩:=hc;exact h c<|by simpa using Array.mem_of_getElem? e
theorem Ic{c:Nat}(hc:c<=126):∀{ws:oA Str},(∀z∈ws,asc z)->asc (Str.join ⟨#[c]⟩ ws)
 |[],_=>λd hd=>by simp[Str.join,Str.empty]at hd
 |[x],h=>h x V_
 |x::y::r,h=>λd hd=>by rw[Dt]at hd;rcases U_.mp hd with hd|hd;exact h x V_ d hd;rcases Z_.mp hd with rfl|hd;exact hc;exact Ic hc (λz hz=>h z<|K_ _ hz) d hd
def jsum(ws:oA Str):Nat:=(ws.map λw=>w.length+1).sum
def C6(a b:oA Str):jsum (a++b)=jsum a+jsum b:=by unfold jsum;rw[P_,List.sum_append]
def Gz(n:Nat)(ws:oA Str):jsum (ws.take n)+jsum (ws.drop n)=jsum ws:=by rw[<- C6,iL]
def Ie(z:Str):jsum [z]=z.length+1:=by simp[jsum]
def Pj(ws:oA Str):jsum ws=(ws.map (·.length)).sum+ws.length:=by
 unfold jsum
 induction ws with
 |nil=>rfl
 |cons x r a=>simp only[List.map_cons,List.sum_cons,List.length_cons,a];omega
theorem Fq{c:Nat}:∀{ws:oA Str},ws≠[]->(Str.join ⟨#[c]⟩ ws).length+1=jsum ws
 |[x],_=>by simp[jsum,Str.join]
 |x::y::r,_=>by have:=Fq (c:=c) (ws:=y::r) (by simp);rw[Dq,Dt,J_,aM,<- Dq,<- Dq];show _=jsum (x::y::r);rw[show jsum (x::y::r)=(x.length+1)+jsum (y::r) by simp[jsum]];omega
def Tz(a:Str):jsum (Txt.split a " ")=a.length+1:=by have:=Fq (c:=32)<|Du a " ";rw[<- G8,dI]at this;exact this.symm
def IC{ws:oA Str}{N:Nat}(h:jsum ws<=N)(ha:∀z∈ws,asc z):asc (Txt.join " " ws)/\(Txt.join " " ws).length<=N:=by
 rw[Eb,G8];refine⟨Ic (by decide) ha,?_⟩;cases ws with
 |nil=>exact aU _
 |cons x r=>have:=Fq (c:=32) (ws:=x::r) (by simp);omega
def Ye{a:Str}(h:asc a):∀z∈Txt.split a " ",asc z:=λz hz=>by rw[G8]at hz;exact(Dm hz).1 h
def Mi(z:Str):Bool:=z.cps.toList.all λc=>decide (c<=126)
def Cq{z:Str}(h:Mi z=true):asc z:=λc hc=>aS<|aV.mp h c hc
def JW{ws:oA Str}{N:Nat}(h:jsum ws<=N)(ha:∀z∈ws,asc z):asc (Txt.join "\n" ws)/\(Txt.join "\n" ws).length<=N:=by
 rw[Eb,N5];refine⟨Ic (by decide) ha,?_⟩;cases ws with
 |nil=>exact aU _
 |cons x r=>have:=Fq (c:=10) (ws:=x::r) (by simp);omega
def JX:("@" : Str)=⟨#[64]⟩:=by decide +kernel
def DV:(("@" : Str).length==0)=false:=by decide +kernel
def PX:Mi "P" = true/\Mi "X" = true/\(∀c∈("P" : Str).cps.toList,c<97)/\(∀c∈("X" : Str).cps.toList,c<97)/\("P" : Str).cps.toList≠[]/\("X" : Str).cps.toList≠[]:=by decide +kernel
def V2{z c:Str}(h:lets z)(hc:∀k∈c.cps.toList,k<97)(a:c.cps.toList≠[]):c≠z:=by
 rintro rfl;cases e:c.cps.toList with
 |nil=>exact a e
 |cons k r=>
  have hk:k∈c.cps.toList:=by rw[e];exact V_
  have:=h k hk;have:=hc k hk;omega
def R4{t:Str}{N:Nat}(a:asc t)(hl:t.length<=N):0<(Txt.split t "@").length/\(Txt.split t "@").length<=N+1/\∀z∈Txt.split t "@",asc z/\z.length<=N:=by have h1:=Jg t 64;rw[<- JX]at h1;refine⟨eZ.mpr<|Du _ _,by omega,λz hz=>?_⟩;rw[JX]at hz;exact⟨(Dm hz).1 a,Q_ (Dm hz).2 hl⟩
def add_set{N n i:Nat}{k:Str}{a:ASt}{g:M}{Z:ASt->M->Prop}{r:AV->M->Prop}{b c:ASt->M->Prop}{z:Str}(e:a[i]?=some (some<|Ag z))(hz:asc z)(hl:z.length<=N)(hk:Mi k=true)(h:k.length<=n)(j:N+n<=900000)
  (q:∀d:Str,asc d->d.length<=N+n->Z (a.set i<|some<|Ag d) g):Mp (Zm Ss (K8 i)<|vC<|.D<|.str k) (Db i) Z r b c a g:=by
 unfold Mp Zm K8;rw[e];refine⟨big<|by omega,q (z++k) (Dr hz<|Cq hk) ?_⟩;rw[B3];omega
def Mj{g:Gam}(h:GmIn g):(∀p∈g.pl,lets p.1/\p.1.length<=6)/\∀z∈g.le,lets z/\z.length<=6 :=
 ⟨λp hp=>⟨h.pn.l _<|M_.mpr ⟨p,hp,rfl⟩,h.pn.n _<|M_.mpr ⟨p,hp,rfl⟩⟩,λz hz=>⟨h.ln.l z hz,h.ln.n z hz⟩⟩
abbrev nBr:oA Str:=["_law_state","_law_game_here","_law_p","_law_x","_law_text","_law_some_here"]
def Pk:FnScope nBr oN (Ai QK):=⟨rfl,rfl,rfl,by decide +kernel,rfl,by decide +kernel,by decide +kernel⟩
def XC:ASp:=λc b R=>∃(a l:kM) (g:Gam),c=[.R a,.D<|Az g]/\GmIn g/\Pot b a l/\∀(z:Str) μ',asc z->z.length<=19700->Pot μ' a l->Bh a l b μ'->R (Ag z) μ'
def XE{n:Nat}(F:Fun K "_law_bad_row" "_law_bad_row" QK f fd) (bp:VCal P w K mg base n "_law_draw" oK L7) (Q:mg "len" = none):FnOk P w K mg base Ez (n+1) f fd oN (G6 K 2 XC):=by
 refine F.vok Pk λav A V s H E Y=>⟨_,(Ah (Aq (i:=2) Pk.nd rfl oI<|Ar A0 (Ar A0 (Ar A0 (vv 1) Ae)<|Al bp Y rfl<|Aa (vv 0)<|Aa (Aw Br rfl Q aA<|Aa (Ar A0 (vv 1) Ae) Ad) Ad) Ae)<|Ah (Aq (i:=3) Pk.nd rfl oI<|Ar A0 (Ar A0 (vv 1) Ae)<|Al bp Y rfl<|Aa (vv 0)<|Aa (Aw Br rfl Q aA<|Aa (Ar A0 (vv 1) Ae) Ad) Ad)<|Ah (Aq (i:=4) Pk.nd rfl oI Ap)<|Ah (Aq (i:=4) Pk.nd rfl oI<|Bb A5 (vv 4) Ap)<|Ah (Aq (i:=4) Pk.nd rfl oI<|Bb A5 (vv 4) Ap)<|Ah (Aq (i:=4) Pk.nd rfl oI<|Bb A5 (vv 4) Ap)<|Ah (Aq (i:=4) Pk.nd rfl oI<|Bb A5 (vv 4) Ap)<|Ah (Aq (i:=5) Pk.nd rfl oI<|Es cN cP Ex (vv 4)<|Aa Ap Ad)<|Aj<|Ay<|Es PySem.F.slot_str_replace PySem.F.type_str_replace CG (Es PySem.F.slot_str_replace PySem.F.type_str_replace CG (Ar A0 (vv 5)<|Al bp Y rfl<|Aa (vv 0)<|Aa (Aw Br rfl Q aA<|Aa (vv 5) Ad) Ad)<|Aa Ap<|Aa (vv 2) Ad)<|Aa Ap<|Aa (vv 3) Ad),?_⟩
 rintro xs W R _ ⟨a,l,g,rfl,C,hP,q⟩;obtain⟨ju,jp⟩:=Mj C;have cw:=C.p1;have lu:=C.l1;refine An (λd b=>∃z:Str,d=[oE a,oG<|Az g,some<|Ag z,none,none,none]/\lets z/\z.length<=6/\Pot b a l/\Bh a l W b) (λZ k=>?_) ?_;refine Ab (Ak (j:=0) rfl)<|Ab (Ak (j:=0) rfl) ?_;refine⟨a,l,g.pl.length,by rw[B_],hP,C.p0,by omega,λv S hv O T=>?_⟩;have e:(g.pl.map Ga)[v]?=some (Ga g.pl[v]):=by rw[F_,D_ hv];rfl
 have:=ju _<|aL hv;exact Ab (Ak e)<|Ab (Ak (j:=0) rfl)<|k _ _ ⟨_,rfl,this.1,this.2,O,T⟩;rintro d S ⟨p,rfl,G,X,O,T⟩;refine An (λd b=>∃z:Str,d=[oE a,oG<|Az g,some<|Ag p,some<|Ag z,none,none]/\lets z/\z.length<=6/\Pot b a l/\Bh a l W b) (λZ k=>?_) ?_;refine Ab (Ak (j:=1) rfl)<|Ab (Ak (j:=1) rfl) ?_;refine⟨a,l,g.le.length,by rw[B_],O,C.l0,by omega,λv o hv B U=>?_⟩;have e:(g.le.map PyData.str)[v]?=some (.str g.le[v]):=by rw[F_,D_ hv];rfl
 have:=jp _<|aL hv;exact Ab (Ak e)<|k _ _ ⟨_,rfl,this.1,this.2,B,T.trans U⟩;rintro d o ⟨u,rfl,I,hzx,B,U⟩;refine An (λd b=>∃z:Str,d=[oE a,oG<|Az g,some<|Ag p,some<|Ag u,some<|Ag z,none]/\asc z/\z.length<=88/\o=b) (λZ k=>k _ _ ⟨_,rfl,Cq<|by decide +kernel,by decide +kernel,rfl⟩) ?_;rintro d _ ⟨z,rfl,hz,m,rfl⟩;refine An (λd b=>∃z:Str,d=[oE a,oG<|Az g,some<|Ag p,some<|Ag u,some<|Ag z,none]/\asc z/\z.length<=169/\o=b) (λZ k=>add_set (N:=88) (n:=81) rfl hz m (by decide +kernel) (by decide +kernel) (by decide) λy h1 h2=>k _ _ ⟨y,rfl,h1,h2,rfl⟩) ?_;clear hz m z;rintro d _ ⟨z,rfl,hz,m,rfl⟩;refine An (λd b=>∃z:Str,d=[oE a,oG<|Az g,some<|Ag p,some<|Ag u,some<|Ag z,none]/\asc z/\z.length<=249/\o=b) (λZ k=>add_set (N:=169) (n:=80) rfl hz m (by decide +kernel) (by decide +kernel) (by decide) λy h1 h2=>k _ _ ⟨y,rfl,h1,h2,rfl⟩) ?_;clear hz m z;rintro d _ ⟨z,rfl,hz,m,rfl⟩;refine An (λd b=>∃z:Str,d=[oE a,oG<|Az g,some<|Ag p,some<|Ag u,some<|Ag z,none]/\asc z/\z.length<=337/\o=b) (λZ k=>add_set (N:=249) (n:=88) rfl hz m (by decide +kernel) (by decide +kernel) (by decide) λy h1 h2=>k _ _ ⟨y,rfl,h1,h2,rfl⟩) ?_;clear hz m z;rintro d _ ⟨z,rfl,hz,m,rfl⟩;refine An (λd b=>∃z:Str,d=[oE a,oG<|Az g,some<|Ag p,some<|Ag u,some<|Ag z,none]/\asc z/\z.length<=401/\o=b) (λZ k=>add_set (N:=337) (n:=64) rfl hz m (by decide +kernel) (by decide +kernel) (by decide) λy h1 h2=>k _ _ ⟨y,rfl,h1,h2,rfl⟩) ?_;clear hz m z;rintro d _ ⟨z,rfl,hz,m,rfl⟩;obtain⟨L,t1,M⟩:=R4 hz m;refine An (λd b=>∃t,∃r:oA Str,d=[oE a,oG<|Az g,some<|Ag p,some<|Ag u,some<|Ag z,oE t]/\0<r.length/\r.length<=402/\(∀z∈r,asc z/\z.length<=401)/\(t≠a/\t≠l)/\b t=oH (r.map Ag)/\Pot b a l/\Bh a l W b) (λZ k=>?_) ?_;exact⟨trivial,DV,by omega,λt J=>k _ _ ⟨t,_,rfl,L,t1,M,⟨(B.ne J).1.symm,(B.ne J).2.symm⟩,Ac,B.new J,U.new J⟩⟩;clear L t1 M;rintro d μ3 ⟨t,r,rfl,L,t1,M,n5,e5,P3,S3⟩;refine Ab e5 ⟨a,l,r.length,by rw[B_],P3,L,by omega,λv μ4 hv P4 S4=>?_⟩;have e6:=S4 t _ n5.1 n5.2 e5;obtain⟨iu,m⟩:=M _<|aL hv;have hb1:(r[v].length+1)*p.length<=402*6:=iF (by omega) X;refine Ab e6 (Ab (x:=Ag r[v]) (Ak<|by rw[F_,D_ hv];rfl) ⟨trivial,V2 G PX.2.2.1 PX.2.2.2.2.1,by omega,λy1 lu fq=>?_⟩);have lm:(y1.length+1)*u.length<=2814*6:=iF (by omega) hzx;refine⟨trivial,V2 I PX.2.2.2.1 PX.2.2.2.2.2,by omega,λy2 pp fx=>⟨_,Sub.refl,q y2 _ (λc hc=>?_) (by omega) P4<|S3.trans S4⟩⟩;rcases fx c hc with h|h;rcases fq c h with h|h;exact iu c h;exact Dy G c h;exact Dy I c h
def XF{zs:oA Str}{v:Nat}(hv:v<zs.length):atI (zs.map Ag) (v:Int)=some (Ag zs[v]):=Ak<|by rw[F_,D_ hv];rfl
abbrev nWd:oA Str:=["_law_state","_law_game_here","_law_names_here","_law_some_here"]
def PK:FnScope nWd oN (Ai OF):=⟨rfl,rfl,rfl,by decide +kernel,rfl,by decide +kernel,by decide +kernel⟩
def JY:(["_law_name","_law_hand"]:oA Str).Nodup:=by decide +kernel
def XG:ASp:=λc b R=>∃(a l:kM) (g:Gam),c=[.R a,.D<|Az g]/\GmIn g/\Pot b a l/\∀(z:Str) μ',asc z->z.length<=63->Pot μ' a l->Bh a l b μ'->R (Ag z) μ'
def XH{n:Nat}(F:Fun K "_law_word" "_law_word" OF f fd) (bp:VCal P w K mg base n "_law_draw" oK L7) (az:mg "list" = none) (ah:mg "len" = none):FnOk P w K mg base Ez (n+1) f fd oN (G6 K 2 XG):=by
 refine F.vok PK λav A X s H E hr=>⟨_,(Ah (Aq (i:=2) PK.nd rfl oI<|Bb A5 (B2 (N':=["_law_name","_law_hand"]) (mp:=[none,none]) rfl (Cc<|Ar A0 (vv 1) Ae) (λ_ _ _ _=>(Hc (n:=2) rfl<|Bx (Ax (i:=0) JY rfl oI oJ)<|Bx (Ax (i:=1) JY rfl oI oJ) Eu)) (λ_ _ _ _=>Bu) (λ_ _ _ _=>(vv 0))<|Bg (N:=nWd) (pn:=(Ai OF).names)<|by decide +kernel)<|Bi Sv rfl az iH<|Aa (Ar A0 (vv 1) Ae) Ad)<|Ah (Aq (i:=3) PK.nd rfl oI<|Bb A5 (vv 2)<|Es cN cP Ex Ap<|Aa Ap Ad)<|Aj<|Ay<|Ar A0 (vv 3)<|Al bp hr rfl<|Aa (vv 0)<|Aa (Aw Br rfl ah aA<|Aa (vv 3) Ad) Ad),?_⟩
 rintro xs c R _ ⟨a,l,g,rfl,Q,hP,q⟩;obtain⟨ju,jp⟩:=Mj Q;have cw:=Q.p1;have lu:=Q.l1;have j4:∀ c:M,items c (.D<|.tuple<|g.pl.map Ga)=some (g.pl.map JQ):=λc=>by show some ((g.pl.map Ga).map AV.D)=_;rw[aJ];rfl
 have U:∀ c:M,items c (.D<|.tuple<|g.le.map PyData.str)=some (g.le.map Ag):=λc=>by show some ((g.le.map PyData.str).map AV.D)=_;rw[aJ];rfl
 refine An (λh b=>∃e,∃k:oA Str,h=[oE a,oG<|Az g,oE e,none]/\k.length<=6/\(∀z∈k,asc z/\z.length<=63)/\b e=oH (k.map Ag)/\Pot b a l/\Bh a l c b) (λZ Y=>?_) ?_;refine Ab (Ak (j:=0) rfl)<|Ab (j4 _) λy sj=>?_;refine cmap g.pl JQ (λp=>Ag p.1) (λh=>∃o1 o2,h=[o1,o2]) ⟨none,none,rfl⟩ Ac (seven<|by omega) (λ_=>j4 _) ?_ ?_;rintro i x τ' ai W hi ⟨o1,o2,rfl⟩ hW;exact⟨rfl,hW _ ⟨_,_,rfl⟩⟩;rw[C0];have I:=hP.new (o:=.lst<|g.pl.map λp=>Ag p.1) sj;have J:Bh a l c (Am c y<|.lst<|g.pl.map λp=>Ag p.1):=Bh.refl.new sj;have m:Am c y (.lst<|g.pl.map λp=>Ag p.1) y=oH ((g.pl.map (·.1)).map Ag):=by rw[Ac,aJ];rfl
 generalize Am c y (.lst<|g.pl.map λp=>Ag p.1)=T at I J m ⊢;refine Ab (Ak (j:=1) rfl)<|Ab (U _) λp2 G=>?_;have V:y≠p2:=by rintro rfl;rw[m]at G;cases G
 refine Ab (x:=MO.lst<|(g.pl.map (·.1)).map Ag) (by rw[Af V];exact m) (Ab Ac ⟨by rw[B_,B_,B_];exact seven<|by omega,λe bq=>?_⟩);rw[<- P_];have u:=I.new (o:=.lst<|g.le.map Ag) G;refine Y _ _ ⟨e,_,rfl,by rw[J_,B_];omega,λz hz=>?_,Ac,u.new bq,(J.new G).new bq⟩;rcases U_.mp hz with hz|hz;obtain⟨p,hp,rfl⟩:=M_.mp hz;exact⟨Dy (ju p hp).1,by have:=(ju p hp).2;omega⟩;exact⟨Dy (jp z hz).1,by have:=(jp z hz).2;omega⟩;rintro h T ⟨e,k,rfl,hzn,S,m,I,J⟩;obtain⟨O,t1,B⟩:=R4 (t := ":@0@1@2@3@own@arrow@ends@@01@place@letter@zzzzzzz@a@;@ :@+1@1_0") (N:=63) (Cq<|by decide +kernel) (by decide +kernel);refine An (λh b=>∃d,∃r:oA Str,h=[oE a,oG<|Az g,oE e,oE d]/\0<r.length/\r.length<=100/\(∀z∈r,asc z/\z.length<=63)/\(d≠a/\d≠l)/\b d=oH (r.map Ag)/\Pot b a l/\Bh a l c b) (λZ Y=>?_) ?_;refine⟨trivial,DV,by decide +kernel,λp4 L=>?_⟩;generalize Txt.split ":@0@1@2@3@own@arrow@ends@@01@place@letter@zzzzzzz@a@;@ :@+1@1_0" "@" = ys at O t1 B ⊢;have n34:e≠p4:=by rintro rfl;rw[m]at L;cases L
 have u:=I.new (o:=.lst<|ys.map λw=>.D<|.str w) L;refine Ab (x:=MO.lst<|k.map Ag) (by rw[Af n34];exact m) (Ab (x:=MO.lst<|ys.map Ag) Ac ⟨by rw[B_,B_];exact seven<|by omega,λd C=>?_⟩);rw[<- P_];refine Y _ _ ⟨d,k++ys,rfl,by rw[J_];omega,by rw[J_];omega,λz hz=>?_,⟨(u.ne C).1.symm,(u.ne C).2.symm⟩,Ac,u.new C,(J.new L).new C⟩;rcases U_.mp hz with hz|hz;exact S z hz;exact B z hz;clear O t1 B;rintro h μ3 ⟨d,r,rfl,O,t1,B,n5,e5,P3,S3⟩;refine Ab e5 ⟨a,l,r.length,by rw[B_],P3,O,by omega,λv μ4 hv P4 S4=>?_⟩;obtain⟨S,cj⟩:=B _<|aL hv;exact Ab (S4 d _ n5.1 n5.2 e5)<|Ab (XF hv) ⟨_,Sub.refl,q _ _ S cj P4<|S3.trans S4⟩
abbrev nSg:oA Str:=["_law_state","_law_some_here","_law_near"]
def ID:FnScope nSg qK (Ai QL):=⟨rfl,rfl,rfl,by decide +kernel,rfl,by decide +kernel,by decide +kernel⟩
def XI:ASp:=λc b R=>∃(a l:kM),c=[.R a]/\Pot b a l/\∀(z:Str) μ',asc z->z.length<=1->Pot μ' a l->Bh a l b μ'->R (Ag z) μ'
def DW{z:Str}{v:Nat}(h:asc z)(hv:v<z.length):∃c,atI z.cps.toList (v:Int)=some c/\asc ⟨#[c]⟩:=by
 have h2:v<z.cps.toList.length:=by rw[<- Dq];exact hv
 exact⟨_,Ak<|D_ h2,IB<|h _<|aL h2⟩
def XJ{n:Nat}(F:Fun K "_law_sign" "_law_sign" QL f fd) (r:VCal P w K mg base n "_law_draw" oK L7) (J:mg "len" = none):FnOk P w K mg base Ez (n+1) f fd qK (G6 K 1 XI):=by
 refine F.vok ID λav A t s H E k=>⟨_,(Ah (Aq (i:=1) ID.nd rfl oI Ap)<|Ah (Aq (i:=1) ID.nd rfl oI<|Bb A5 (vv 1) Ap)<|Ah (Aq (i:=2) ID.nd rfl oI Ap)<|Aj<|Ay<|Ar A0 (Cb<|Aa (Ar A0 (vv 2)<|Al r k rfl<|Aa (vv 0)<|Aa (Aw Br rfl J aA<|Aa (vv 2) Ad) Ad)<|Aa (Ar A0 (vv 1)<|Al r k rfl<|Aa (vv 0)<|Aa (Aw Br rfl J aA<|Aa (vv 1) Ad) Ad) Ad)<|Al r k rfl<|Aa (vv 0)<|Aa Ae Ad),?_⟩
 rintro xs g R _ ⟨a,l,rfl,S,q⟩;refine An (λc b=>∃z:Str,c=[oE a,some<|Ag z,none]/\asc z/\z.length<=64/\0<z.length/\g=b) (λZ e=>e _ _ ⟨_,rfl,Cq<|by decide +kernel,by decide +kernel,by decide +kernel,rfl⟩) ?_;rintro c _ ⟨z,rfl,hz,G,d,rfl⟩;refine An (λc b=>∃z:Str,c=[oE a,some<|Ag z,none]/\asc z/\z.length<=95/\0<z.length/\g=b) (λZ e=>?_) ?_;refine⟨seven<|by show z.length+31<=1000;omega,e _ _ ⟨_,rfl,Dr hz<|Cq<|by decide +kernel,?_,?_,rfl⟩⟩;rw[B3,show("abcdefghijklmnopqrstuvwxyz{|}~\n" : Str).length=31 by decide +kernel];omega;rw[B3];omega;clear hz G d z;rintro c _ ⟨z,rfl,hz,G,d,rfl⟩;refine An (λc b=>∃y:Str,c=[oE a,some<|Ag z,some<|Ag y]/\asc y/\y.length<=12/\0<y.length/\g=b) (λZ e=>e _ _ ⟨_,rfl,Cq<|by decide +kernel,by decide +kernel,by decide +kernel,rfl⟩) ?_;rintro c _ ⟨y,rfl,hy,W,m,rfl⟩;refine⟨seven<|by omega,a,l,y.length,rfl,S,m,by omega,λv X hv U S1=>?_⟩;obtain⟨I,N,T⟩:=DW hy hv;refine⟨seven<|by omega,Ab N ⟨seven<|by omega,a,l,z.length,rfl,U,d,by omega,λv2 Q O h S2=>?_⟩⟩;obtain⟨c2,e2,a2⟩:=DW hz O;refine⟨seven<|by omega,Ab e2 λp hp=>⟨a,l,2,rfl,h.new hp,by decide,by decide,λu V Y B L=>?_⟩⟩;have M:=L p _ (h.ne hp).1.symm (h.ne hp).2.symm Ac;have C:=((S1.trans S2).new (o:=.lst [.D<|.str ⟨#[I]⟩,.D<|.str ⟨#[c2]⟩]) hp).trans L;rcases(show u=0\/u=1 by omega) with rfl|rfl;exact Ab M<|Ab (x:=Ag ⟨#[I]⟩) (Ak (j:=0) rfl) ⟨_,Sub.refl,q _ _ T (H_ _) B C⟩;exact Ab M<|Ab (x:=Ag ⟨#[c2]⟩) (Ak (j:=1) rfl) ⟨_,Sub.refl,q _ _ a2 (H_ _) B C⟩
end
section
variable {P:kO}{w:kP}{K:kN}{mg:Str->oB kJ}{base:kS}{f:kM}{fd:kW}
theorem Pl{c:Nat}:∀{ws:oA Str},(∀z∈ws,z.length<=c)->jsum ws<=ws.length*(c+1)
 |[],_=>aU _
 |x::r,h=>by
  have h1:=h x V_;have h2:=Pl λz hz=>h z<|K_ _ hz;have e:jsum (x::r)=(x.length+1)+jsum r:=by simp[jsum]
  rw[e,aM,Nat.succ_mul];omega
def G0(x:Str)(r:oA Str):jsum (x::r)=x.length+1+jsum r:=by simp[jsum]
theorem R5{z r:Str}:∀{L:oA Str} {i:Nat},L[i]?=some r->jsum (L.set i z)+r.length=jsum L+z.length
 |[],_,h=>by cases h
 |x::L,0,h=>by cases h;simp only[List.set_cons_zero,jsum,List.map_cons,List.sum_cons];omega
 |x::L,i+1,h=>by have:=R5 (z:=z) (L:=L) (i:=i) h;simp only[List.set_cons_succ,jsum,List.map_cons,List.sum_cons]at this ⊢;omega
def T0(T:Str):jsum (Txt.split T "\n")=T.length+1:=by have:=Fq (c:=10)<|Du T "\n";rw[<- N5,dI]at this;exact this.symm
structure HL(a l:kM)(μ:M)(p:kM)(ws:oA Str):Prop where
 e:μ p=oH (ws.map Ag)
 na:p≠a
 nl:p≠l
section
variable {a l p q:kM}{μ μ':M}{ws:oA Str}
def HL.new{o:MO}(h:HL a l μ p ws)(hq:μ q=none):HL a l (Am μ q o) p ws:=⟨by rw[Af<|by rintro rfl;rw[h.e]at hq;cases hq];exact h.e,h.na,h.nl⟩
def HL.ext(h:HL a l μ p ws)(S:Bh a l μ μ'):HL a l μ' p ws:=⟨S p _ h.na h.nl h.e,h.na,h.nl⟩
def HL.mk'(P:Pot μ a l)(hp:μ p=none):HL a l (Am μ p<|.lst<|ws.map Ag) p ws:=⟨Ac,(P.ne hp).1.symm,(P.ne hp).2.symm⟩
end
def IE{ws:oA Str}{N:Nat}(h:jsum ws<=N)(a:N<=1000000):(ws.map (·.length)).sum+ws.length*("\n" : Str).length<=16777216:=by rw[show("\n" : Str).length=1 by decide +kernel];rw[Pj]at h;omega
def IF{ws:oA Str}{N:Nat}(h:jsum ws<=N)(a:N<=1000000):(ws.map (·.length)).sum+ws.length*(" " : Str).length<=16777216:=by rw[show(" " : Str).length=1 by decide +kernel];rw[Pj]at h;omega
def IG{n k:Nat}(h:k<n):Ua n (k:Int)=some k:=by unfold Ua;rw[R_<|by omega,R_<|by omega,gY]
def R6(ws:oA Str):ws.length<=jsum ws:=by rw[Pj];omega
abbrev nOt:oA Str:=["_law_state","_law_game_here","_law_text","_law_lines","_law_form","_law_at","_law_far","_law_after","_law_more","_law_words","_law_spot","_law_some_here","_law_sign_here"]
def Jh:FnScope nOt qC (Ai OG):=⟨rfl,rfl,rfl,by decide +kernel,rfl,by decide +kernel,by decide +kernel⟩
def XL:(qW:oA Str).Nodup:=by decide +kernel
def PL:ASp:=λc b R=>∃(a l:kM) (g:Gam) (T:Str) (N:Nat),c=[.R a,.D<|Az g,.D<|.str T]/\GmIn g/\asc T/\T.length<=N/\N<=110000/\Pot b a l/\∀(z:Str) μ',asc z->z.length<=3*N+20000->Pot μ' a l->Bh a l b μ'->R (Ag z) μ'
def XM{n:Nat}(F:Fun K "_law_otherwise" "_law_otherwise" OG f fd) (cBr:VCal P w K mg base n "_law_bad_row" oN XC) (bp:VCal P w K mg base n "_law_draw" oK L7) (cSg:VCal P w K mg base n "_law_sign" qK XI) (cWd:VCal P w K mg base n "_law_word" oN XG) (ah:mg "len" = none) (fg:mg "int" = none) (az:mg "list" = none):FnOk P w K mg base Ez (n+1) f fd qC (G6 K 3 PL):=by
 refine F.vok Jh λav A outer s H E hr=>⟨_,(@Ah _ _ _ _ _ (@Aq _ _ _ _ 3 _ _ Jh.nd rfl oI (@Es _ _ _ _ _ _ _ _ _ _ _ cN cP Ex (vv 2) (@Aa _ _ _ _ _ Ap Ad<|by rfl) (by rfl) (by rfl) (by rfl) (by rfl)<|by rfl) (by rfl) (by first|exact .inl rfl|exact .inr rfl|assumption))<|@Ah _ _ _ _ _ (@Aq _ _ _ _ 4 _ _ Jh.nd rfl oI (@Al _ _ _ _ _ _ _ _ _ _ bp hr rfl (@Aa _ _ _ _ _ (vv 0) (@Aa _ _ _ _ _ Ae Ad<|by rfl)<|by rfl) (by rfl) (by decide) (by rfl)<|by rfl) (by rfl) (by first|exact .inl rfl|exact .inr rfl|assumption))<|@Ah _ _ _ _ _ (@Aq _ _ _ _ 5 _ _ Jh.nd rfl oI (@Al _ _ _ _ _ _ _ _ _ _ bp hr rfl (@Aa _ _ _ _ _ (vv 0) (@Aa _ _ _ _ _ (@Bb _ _ _ _ _ _ _ _ A5 (@Aw _ _ _ _ _ _ _ _ _ Br rfl ah aA (@Aa _ _ _ _ _ (vv 3) Ad<|by rfl) (by decide) (by decide) (by rfl)<|by rfl)<|Bi IZ rfl fg iN<|@Aa _ _ _ _ _ (Fw Io (vv 4) Ae<|nomark _) Ad<|by rfl) Ad<|by rfl)<|by rfl) (by rfl) (by decide) (by rfl)<|by rfl) (by rfl) (by first|exact .inl rfl|exact .inr rfl|assumption))<|@Ah _ _ _ _ _ (@Aq _ _ _ _ 6 _ _ Jh.nd rfl oI (@Al _ _ _ _ _ _ _ _ _ _ bp hr rfl (@Aa _ _ _ _ _ (vv 0) (@Aa _ _ _ _ _ (@Aw _ _ _ _ _ _ _ _ _ Br rfl ah aA (@Aa _ _ _ _ _ (vv 3) Ad<|by rfl) (by decide) (by decide) (by rfl)<|by rfl) Ad<|by rfl)<|by rfl) (by rfl) (by decide) (by rfl)<|by rfl) (by rfl) (by first|exact .inl rfl|exact .inr rfl|assumption))<|@Ah _ _ _ _ _ (@Bw _ _ _ _ _ _ _ _ (@Bc _ _ _ _ _ _ _ _ Io (vv 4) Ae<|nomark _) (@Aj _ _ _<|@Ay _ _ _ _<|@Es _ _ _ _ _ _ _ _ _ _ _ bH bI D7 Ap (@Aa _ _ _ _ _ (@Bb _ _ _ _ _ _ _ _ A5 (@Bb _ _ _ _ _ _ _ _ A5 (@B9 _ _ _ _ _ _ _ _ _ (vv 3) Bn<|@Cf _ _ _<|vv 5)<|@Cb _ _ _ _ (@Aa _ _ _ _ _ (@Al _ _ _ _ _ _ _ _ _ _ cBr hr rfl (@Aa _ _ _ _ _ (vv 0) (@Aa _ _ _ _ _ (vv 1) Ad<|by rfl)<|by rfl) (by rfl) (by decide) (by rfl)<|by rfl) Ad<|by rfl)<|by decide)<|@B9 _ _ _ _ _ _ _ _ _ (vv 3) (@Cf _ _ _<|vv 5) Bn) Ad<|by rfl) (by rfl) (by rfl) (by rfl) (by rfl)<|by rfl) A8)<|@Ah _ _ _ _ _ (@Bw _ _ _ _ _ _ _ _ (@Bc _ _ _ _ _ _ _ _ (Gj hr) (vv 4) Ae<|nomark _) (@Aj _ _ _<|@Ay _ _ _ _<|@Es _ _ _ _ _ _ _ _ _ _ _ bH bI D7 Ap (@Aa _ _ _ _ _ (@Bb _ _ _ _ _ _ _ _ A5 (@B9 _ _ _ _ _ _ _ _ _ (vv 3) Bn<|@Cf _ _ _<|vv 5)<|@B9 _ _ _ _ _ _ _ _ _ (vv 3) (@Cf _ _ _<|@Bb _ _ _ _ _ _ _ _ A5 (vv 5) Ae) Bn) Ad<|by rfl) (by rfl) (by rfl) (by rfl) (by rfl)<|by rfl) A8)<|@Ah _ _ _ _ _ (@Bw _ _ _ _ _ _ _ _ (@Bc _ _ _ _ _ _ _ _ (Gj hr) (vv 4) Ae<|nomark _) (@Ah _ _ _ _ _ (@Aq _ _ _ _ 7 _ _ Jh.nd rfl oI (@Bb _ _ _ _ _ _ _ _ A5 (vv 5)<|@Al _ _ _ _ _ _ _ _ _ _ bp hr rfl (@Aa _ _ _ _ _ (vv 0) (@Aa _ _ _ _ _ Ae Ad<|by rfl)<|by rfl) (by rfl) (by decide) (by rfl)<|by rfl) (by rfl) (by first|exact .inl rfl|exact .inr rfl|assumption))<|@Aj _ _ _<|@Ay _ _ _ _<|@Es _ _ _ _ _ _ _ _ _ _ _ bH bI D7 Ap (@Aa _ _ _ _ _ (@Bb _ _ _ _ _ _ _ _ A5 (@Bb _ _ _ _ _ _ _ _ A5 (@B9 _ _ _ _ _ _ _ _ _ (vv 3) Bn<|@Cf _ _ _<|vv 5)<|@Cb _ _ _ _ (@Aa _ _ _ _ _ (@Ar _ _ _ _ _ _ _ A0 (vv 3) (vv 6)<|by intro _ _;rfl) Ad<|by rfl)<|by decide)<|@B9 _ _ _ _ _ _ _ _ _ (vv 3) (@Cf _ _ _<|vv 7) Bn) Ad<|by rfl) (by rfl) (by rfl) (by rfl) (by rfl)<|by rfl) A8)<|@Ah _ _ _ _ _ (@Bw _ _ _ _ _ _ _ _ (@Bc _ _ _ _ _ _ _ _ (Gj hr) (vv 4) Ae<|nomark _) (@Ah _ _ _ _ _ (Ov (i:=8) (N':=qW) (mp:=[none,some 1]) rfl Jh.nd rfl rfl (Cc<|@Bb _ _ _ _ _ _ _ _ BZ (Bi Sv rfl az iH<|@Aa _ _ _ _ _ (@Ar _ _ _ _ _ _ _ A0 (vv 1) Ae<|by intro _ _;rfl) Ad<|by rfl) Ae) (λ_ _ _ _=>(Ax (i:=0) XL rfl oI oJ)) (λ_ _ _ _=>Bu) (λ_ _ _ _=>(@Bb _ _ _ _ _ _ _ _ A5 (@Bb _ _ _ _ _ _ _ _ A5 (@Bb _ _ _ _ _ _ _ _ A5 (@Bb _ _ _ _ _ _ _ _ A5 Ap<|@Ar _ _ _ _ _ _ _ A0 (@Ar _ _ _ _ _ _ _ A0 (@Ar _ _ _ _ _ _ _ A0 (vv 1) Ae<|by intro _ _;rfl) (@Hd _ _ _ _ Ae)<|by intro _ _;rfl) Ae<|by intro _ _;rfl) Ap)<|vv 0) Ap))<|Bg (N:=nOt) (pn:=(Ai OG).names)<|by decide +kernel)<|@Aj _ _ _<|@Ay _ _ _ _<|@Es _ _ _ _ _ _ _ _ _ _ _ bH bI D7 Ap (@Aa _ _ _ _ _ (@Bb _ _ _ _ _ _ _ _ A5 (@Bb _ _ _ _ _ _ _ _ A5 (@B9 _ _ _ _ _ _ _ _ _ (vv 3) Bn<|@Cf _ _ _<|vv 5)<|@B9 _ _ _ _ _ _ _ _ _ (vv 8) (@Cf _ _ _<|@Al _ _ _ _ _ _ _ _ _ _ bp hr rfl (@Aa _ _ _ _ _ (vv 0) (@Aa _ _ _ _ _ Ae Ad<|by rfl)<|by rfl) (by rfl) (by decide) (by rfl)<|by rfl) Bn)<|@B9 _ _ _ _ _ _ _ _ _ (vv 3) (@Cf _ _ _<|vv 5) Bn) Ad<|by rfl) (by rfl) (by rfl) (by rfl) (by rfl)<|by rfl) A8)<|@Ah _ _ _ _ _ (@Bw _ _ _ _ _ _ _ _ (@Bc _ _ _ _ _ _ _ _ Io (vv 4) Ae<|nomark _) (@Ah _ _ _ _ _ (@Aq _ _ _ _ 9 _ _ Jh.nd rfl oI (@Es _ _ _ _ _ _ _ _ _ _ _ cN cP Ex (@Ar _ _ _ _ _ _ _ A0 (vv 3) (vv 5)<|by intro _ _;rfl) (@Aa _ _ _ _ _ Ap Ad<|by rfl) (by rfl) (by rfl) (by rfl) (by rfl)<|by rfl) (by rfl) (by first|exact .inl rfl|exact .inr rfl|assumption))<|@Ah _ _ _ _ _ (@Aq _ _ _ _ 10 _ _ Jh.nd rfl oI (@Al _ _ _ _ _ _ _ _ _ _ bp hr rfl (@Aa _ _ _ _ _ (vv 0) (@Aa _ _ _ _ _ (@Aw _ _ _ _ _ _ _ _ _ Br rfl ah aA (@Aa _ _ _ _ _ (vv 9) Ad<|by rfl) (by decide) (by decide) (by rfl)<|by rfl) Ad<|by rfl)<|by rfl) (by rfl) (by decide) (by rfl)<|by rfl) (by rfl) (by first|exact .inl rfl|exact .inr rfl|assumption))<|@Ah _ _ _ _ _ (@Aq _ _ _ _ 11 _ _ Jh.nd rfl oI (@Ar _ _ _ _ _ _ _ A0 (@Cb _ _ _ _ (@Aa _ _ _ _ _ (@Cb _ _ _ _ Ad<|by decide) (@Aa _ _ _ _ _ (@Cb _ _ _ _ (@Aa _ _ _ _ _ (@Al _ _ _ _ _ _ _ _ _ _ cWd hr rfl (@Aa _ _ _ _ _ (vv 0) (@Aa _ _ _ _ _ (vv 1) Ad<|by rfl)<|by rfl) (by rfl) (by decide) (by rfl)<|by rfl) Ad<|by rfl)<|by decide) (@Aa _ _ _ _ _ (@Bb _ _ _ _ _ _ _ _ BZ (@Cb _ _ _ _ (@Aa _ _ _ _ _ (@Ar _ _ _ _ _ _ _ A0 (vv 9) (vv 10)<|by intro _ _;rfl) Ad<|by rfl)<|by decide) Ae) Ad<|by rfl)<|by rfl)<|by rfl)<|by decide) (@Bb _ _ _ _ _ _ _ _ Zr (vv 4) Ae)<|by intro _ _;rfl) (by rfl) (by first|exact .inl rfl|exact .inr rfl|assumption))<|@Ah _ _ _ _ _ (Ip (@Es _ _ _ _ _ _ _ _ _ _ _ bH bI D7 Ap (@Aa _ _ _ _ _ (@Bb _ _ _ _ _ _ _ _ A5 (@Bb _ _ _ _ _ _ _ _ A5 (@B9 _ _ _ _ _ _ _ _ _ (vv 9) Bn<|@Cf _ _ _<|vv 10)<|vv 11)<|@B9 _ _ _ _ _ _ _ _ _ (vv 9) (@Cf _ _ _<|@Bb _ _ _ _ _ _ _ _ A5 (vv 10) Ae) Bn) Ad<|by rfl) (by rfl) (by rfl) (by rfl) (by rfl)<|by rfl)<|La (vv 3)<|vv 5)<|@Aj _ _ _<|@Ay _ _ _ _<|@Es _ _ _ _ _ _ _ _ _ _ _ bH bI D7 Ap (@Aa _ _ _ _ _ (vv 3) Ad<|by rfl) (by rfl) (by rfl) (by rfl) (by rfl)<|by rfl) A8)<|@Ah _ _ _ _ _ (@Aq _ _ _ _ 5 _ _ Jh.nd rfl oI (@Al _ _ _ _ _ _ _ _ _ _ bp hr rfl (@Aa _ _ _ _ _ (vv 0) (@Aa _ _ _ _ _ (@Bb _ _ _ _ _ _ _ _ A5 (@Aw _ _ _ _ _ _ _ _ _ Br rfl ah aA (@Aa _ _ _ _ _ (vv 2) Ad<|by rfl) (by decide) (by decide) (by rfl)<|by rfl) Ae) Ad<|by rfl)<|by rfl) (by rfl) (by decide) (by rfl)<|by rfl) (by rfl) (by first|exact .inl rfl|exact .inr rfl|assumption))<|@Ah _ _ _ _ _ (@Aq _ _ _ _ 12 _ _ Jh.nd rfl oI (@Al _ _ _ _ _ _ _ _ _ _ cSg hr rfl (@Aa _ _ _ _ _ (vv 0) Ad<|by rfl) (by rfl) (by decide) (by rfl)<|by rfl) (by rfl) (by first|exact .inl rfl|exact .inr rfl|assumption))<|@Ah _ _ _ _ _ (@Aq _ _ _ _ 11 _ _ Jh.nd rfl oI (@Ar _ _ _ _ _ _ _ A0 (@Cb _ _ _ _ (@Aa _ _ _ _ _ Ap (@Aa _ _ _ _ _ (vv 12) (@Aa _ _ _ _ _ (@Bb _ _ _ _ _ _ _ _ A5 (@B9 _ _ _ _ _ _ _ _ _ (vv 2) (@Cf _ _ _<|vv 5)<|@Cf _ _ _<|@Bb _ _ _ _ _ _ _ _ A5 (vv 5) Ae)<|vv 12) Ad<|by rfl)<|by rfl)<|by rfl)<|by decide) (@Bb _ _ _ _ _ _ _ _ Zr (vv 4) Ae)<|by intro _ _;rfl) (by rfl) (by first|exact .inl rfl|exact .inr rfl|assumption))<|@Aj _ _ _<|@Ay _ _ _ _<|@Bb _ _ _ _ _ _ _ _ A5 (@Bb _ _ _ _ _ _ _ _ A5 (@B9 _ _ _ _ _ _ _ _ _ (vv 2) Bn<|@Cf _ _ _<|vv 5)<|vv 11)<|@B9 _ _ _ _ _ _ _ _ _ (vv 2) (@Cf _ _ _<|@Bb _ _ _ _ _ _ _ _ A5 (vv 5) Ae) Bn),?_⟩;rintro xs μ R _ ⟨a,l,g,T,N,rfl,hG,hTa,hTl,hN,hP,q⟩;have hjL:=T0 T;have oo:∀z∈Txt.split T "\n",asc z:=λz hz=>(Pi hTa hTl hz).1;have sk:=eZ.mpr<|Du T "\n";have fin:∀{ws:oA Str} {b:M},jsum ws<=3*N+20000->(∀z∈ws,asc z)->Pot b a l->Bh a l μ b->PR R (.D<|.str<|Txt.join "\n" ws) b:=λh1 h2 h3 h4=>by obtain⟨k1,k2⟩:=JW h1 h2;exact⟨_,Sub.refl,q _ _ k1 k2 h3 h4⟩
 refine An (λt b=>∃I,∃L:oA Str,t=[oE a,oG<|Az g,oG<|.str T,oE I,none,none,none,none,none,none,none,none,none]/\μ I=none/\HL a l b I L/\0<L.length/\jsum L=T.length+1/\(∀z∈L,asc z)/\Pot b a l/\Bh a l μ b) (λZ hZ=>?_) ?_;exact⟨trivial,QQ.1,by omega,λI cw=>hZ _ _ ⟨I,_,rfl,cw,HL.mk' hP cw,sk,hjL,oo,hP.new cw,Bh.refl.new cw⟩⟩;clear hjL oo sk;rintro t μ1 ⟨I,L,rfl,hp10,H1,sk,hjL,oo,P1,S1⟩;have hLn:L.length<=110001:=by have:=R6 L;omega
 have mz:(L.map Ag).length=L.length:=B_ _;refine An (λt b=>∃G:Nat,t=[oE a,oG<|Az g,oG<|.str T,oE I,oF G,none,none,none,none,none,none,none,none]/\G<12/\HL a l b I L/\Pot b a l/\Bh a l μ b) (λZ hZ=>?_) ?_;exact⟨a,l,12,rfl,P1,by decide,by decide,λv m hv B u=>hZ _ _ ⟨v,rfl,hv,H1.ext u,B,S1.trans u⟩⟩;clear P1 S1 H1;rintro t μ1 ⟨G,rfl,hfm,H1,P1,S1⟩;refine An (λt b=>∃d:Nat,t=[oE a,oG<|Az g,oG<|.str T,oE I,oF G,oF d,none,none,none,none,none,none,none]/\d<=L.length/\(3<=G->d<L.length)/\HL a l b I L/\Pot b a l/\Bh a l μ b) (λZ hZ=>?_) ?_;refine Ab H1.e ?_;by_cases h3:G<3;refine⟨a,l,L.length+1,?_,P1,aQ _,by omega,λv m hv B u=>hZ _ _ ⟨v,rfl,by omega,λh=>absurd h3<|by omega,H1.ext u,B,S1.trans u⟩⟩;rw[aN<|show(G:Int)<3 by omega,mz];rfl;refine⟨a,l,L.length,?_,P1,sk,by omega,λv m hv B u=>hZ _ _ ⟨v,rfl,by omega,λ_=>hv,H1.ext u,B,S1.trans u⟩⟩;rw[aF<|show ¬(G:Int)<3 by omega,mz];show [AV.R a,AV.D<|.int<|(L.length:Int)+0]=_;rw[Int.add_zero];clear P1 S1 H1;rintro t μ1 ⟨d,rfl,rq,hat2,H1,P1,S1⟩;refine An (λt b=>∃fr:Nat,t=[oE a,oG<|Az g,oG<|.str T,oE I,oF G,oF d,oF fr,none,none,none,none,none,none]/\fr<L.length/\HL a l b I L/\Pot b a l/\Bh a l μ b) (λZ hZ=>?_) ?_;refine Ab H1.e ⟨a,l,L.length,by rw[mz],P1,sk,by omega,λv m hv B u=>hZ _ _ ⟨v,rfl,hv,H1.ext u,B,S1.trans u⟩⟩;clear P1 S1 H1;rintro t μ1 ⟨fr,rfl,jm,H1,P1,S1⟩;have yi:∀(ws:oA Str) (k:Nat),De (ws.map Ag) none (some (k:Int))=(ws.take k).map Ag:=λws k=>N1 Ag ws k;have tf:∀(ws:oA Str) (k:Nat),De (ws.map Ag) (some (k:Int)) none=(ws.drop k).map Ag:=λws k=>Gy Ag ws k;have hjt:jsum (L.take d)+jsum (L.drop d)=jsum L:=Gz _ _;have hjd:jsum (L.drop<|d+1)<=jsum (L.drop d):=by have:=Gz 1<|L.drop d;rw[List.drop_drop]at this;omega
 have bf:∀k,∀z∈L.take k,asc z:=λk z hz=>oo z<|eR hz;have ge:∀k,∀z∈L.drop k,asc z:=λk z hz=>oo z<|dJ hz;have mx:∀{xs ys:oA Str},(∀z∈xs,asc z)->(∀z∈ys,asc z)->∀z∈xs++ys,asc z:=λh1 h2 z hz=>(U_.mp hz).elim (h1 z)<|h2 z;have put:∀{m:M} {x y:kM} {xs ys:oA Str} {Q:AV->M->Prop},HL a l m x xs->HL a l m y ys->xs.length+ys.length<=900000->(∀p,m p=none->Q (.R p) (Am m p<|.lst<|(xs++ys).map Ag))->Ss (.R x) (.R y) m Q:=λ{m x y xs ys Q} h1 h2 hl h=>by refine Ab h1.e (Ab h2.e ⟨by rw[B_,B_];exact big hl,λp hp=>?_⟩);rw[<- P_];exact h p hp
 have jn:∀{m:M} {x:kM} {xs:oA Str},HL a l m x xs->jsum xs<=3*N+20000->(∀z∈xs,asc z)->Pot m a l->Bh a l μ m->BB (.D<|.str "\n") [.R x] m (PR R):=λh1 h2 h3 h4 h5=>Ab h1.e (Ab (Dd _) ⟨IE h2<|by omega,fin h2 h3 h4 h5⟩);refine An (λt b=>t=[oE a,oG<|Az g,oG<|.str T,oE I,oF G,oF d,oF fr,none,none,none,none,none,none]/\3<=G/\μ1=b) (λZ hZ=>?_) ?_;refine dif (λc=>?_) (λc=>hZ _ _ ⟨rfl,by omega,rfl⟩);refine⟨trivial,Ab (Ao H1.e) λp2 S=>?_⟩;rw[yi];have H2:=HL.mk' (ws:=L.take d) P1 S;have C:=H1.new (o:=.lst<|(L.take d).map Ag) S;have B:=P1.new (o:=.lst<|(L.take d).map Ag) S;have u:=S1.new (o:=.lst<|(L.take d).map Ag) S;generalize Am μ1 p2 (.lst<|(L.take d).map Ag)=m at H2 C B u;refine⟨a,l,g,rfl,hG,B,λz X iu cj V S3=>?_⟩;intro p3 J;have H3:=HL.mk' (ws:=[z]) V J;have O:=(C.ext S3).new (o:=.lst<|[z].map Ag) J;have H23:=(H2.ext S3).new (o:=.lst<|[z].map Ag) J;have P4:=V.new (o:=.lst<|[z].map Ag) J;have S4:=(u.trans S3).new (o:=.lst<|[z].map Ag) J;show Ss (.R p2) (.R p3) (Am X p3<|.lst<|[z].map Ag) _;generalize Am X p3 (.lst<|[z].map Ag)=μ4 at H3 O H23 P4 S4;refine put H23 H3 (by rw[aD];exact Q_ (Nat.add_le_add (fV _ _)<|H_ 1)<|by omega) λp4 c9=>?_;have H4:=HL.mk' (ws:=L.take d++[z]) P4 c9;have Y:=O.new (o:=.lst<|(L.take d++[z]).map Ag) c9;have P5:=P4.new (o:=.lst<|(L.take d++[z]).map Ag) c9;have S5:=S4.new (o:=.lst<|(L.take d++[z]).map Ag) c9;generalize Am μ4 p4 (.lst<|(L.take d++[z]).map Ag)=μ5 at H4 Y P5 S5;refine Ab (Ao Y.e) λp5 cz=>?_;rw[tf];have H5:=HL.mk' (ws:=L.drop d) P5 cz;have H45:=H4.new (o:=.lst<|(L.drop d).map Ag) cz;have P6:=P5.new (o:=.lst<|(L.drop d).map Ag) cz;have S6:=S5.new (o:=.lst<|(L.drop d).map Ag) cz;generalize Am μ5 p5 (.lst<|(L.drop d).map Ag)=μ6 at H5 H45 P6 S6;refine put H45 H5 (by rw[J_,aD,aH];simp only[List.length_cons,List.length_nil];omega) λp6 km=>?_;refine jn (HL.mk' P6 km) ?_ (mx (mx (bf _) λy hy=>by rw[Y_.mp hy];exact iu)<|ge _) (P6.new km)<|S6.new km;rw[C6,C6,Ie];omega;rintro t _ ⟨rfl,h3,rfl⟩;have mq:=hat2 h3;refine An (λt b=>t=[oE a,oG<|Az g,oG<|.str T,oE I,oF G,oF d,oF fr,none,none,none,none,none,none]/\4<=G/\μ1=b) (λZ hZ=>?_) ?_;refine ieq (λc=>?_) (λc=>hZ _ _ ⟨rfl,by omega,rfl⟩);refine⟨trivial,Ab (Ao H1.e) λp2 S=>?_⟩;rw[yi];have H2:=HL.mk' (ws:=L.take d) P1 S;have C:=H1.new (o:=.lst<|(L.take d).map Ag) S;have B:=P1.new (o:=.lst<|(L.take d).map Ag) S;have u:=S1.new (o:=.lst<|(L.take d).map Ag) S;generalize Am μ1 p2 (.lst<|(L.take d).map Ag)=m at H2 C B u;refine Ab (Ao C.e) λp3 J=>?_;rw[show De (L.map Ag) (some<|(d:Int)+1) none=(L.drop<|d+1).map Ag from tf L<|d+1];have H3:=HL.mk' (ws:=L.drop<|d+1) B J;have H23:=H2.new (o:=.lst<|(L.drop<|d+1).map Ag) J;have V:=B.new (o:=.lst<|(L.drop<|d+1).map Ag) J;have S3:=u.new (o:=.lst<|(L.drop<|d+1).map Ag) J;generalize Am m p3 (.lst<|(L.drop<|d+1).map Ag)=X at H3 H23 V S3;refine put H23 H3 (by rw[aD,aH];omega) λp4 c9=>?_;refine jn (HL.mk' V c9) ?_ (mx (bf _)<|ge _) (V.new c9)<|S3.new c9;rw[C6];omega;rintro t _ ⟨rfl,h4,rfl⟩;have hrf:∃r,L[fr]?=some r/\asc r/\r.length<=N:=⟨_,D_ jm,oo _<|aL jm,by
  have e:=Gz fr L;have e2:L.drop fr=L[fr]::L.drop (fr+1):=bM jm;have e3:jsum (L.drop fr)=L[fr].length+1+jsum (L.drop<|fr+1):=by rw[e2,G0]
  omega⟩
 refine An (λt b=>t=[oE a,oG<|Az g,oG<|.str T,oE I,oF G,oF d,oF fr,none,none,none,none,none,none]/\5<=G/\μ1=b) (λZ hZ=>?_) ?_;refine ieq (λc=>?_) (λc=>hZ _ _ ⟨rfl,by omega,rfl⟩);refine An (λt b=>∃af:Nat,t=[oE a,oG<|Az g,oG<|.str T,oE I,oF G,oF d,oF fr,oF af,none,none,none,none,none]/\d<=af/\HL a l b I L/\Pot b a l/\Bh a l μ b) (λZ2 bu=>?_) ?_;exact⟨a,l,2,rfl,P1,by decide,by decide,λv m hv B u=>bu _ _ ⟨d+v,rfl,c_ _ _,H1.ext u,B,S1.trans u⟩⟩;rintro t m ⟨af,rfl,haf,C,B,u⟩;obtain⟨r,er,hra,hrl⟩:=hrf;have hja:jsum (L.drop af)<=jsum (L.drop d):=by have:=Gz (af-d)<|L.drop d;rw[List.drop_drop,Nat.add_sub_cancel' haf]at this;omega
 refine⟨trivial,Ab (Ao C.e) λp2 S=>?_⟩;rw[yi];have H2:=HL.mk' (ws:=L.take d) B S;have O:=C.new (o:=.lst<|(L.take d).map Ag) S;have V:=B.new (o:=.lst<|(L.take d).map Ag) S;have S3:=u.new (o:=.lst<|(L.take d).map Ag) S;generalize Am m p2 (.lst<|(L.take d).map Ag)=X at H2 O V S3;refine Ab O.e (Ab (x:=Ag r) (Ak<|by rw[F_,er];rfl) λp3 J=>?_);have H3:=HL.mk' (ws:=[r]) V J;have Y:=O.new (o:=.lst<|[r].map Ag) J;have H23:=H2.new (o:=.lst<|[r].map Ag) J;have P4:=V.new (o:=.lst<|[r].map Ag) J;have S4:=S3.new (o:=.lst<|[r].map Ag) J;show Ss (.R p2) (.R p3) (Am X p3<|.lst<|[r].map Ag) _;generalize Am X p3 (.lst<|[r].map Ag)=μ4 at H3 Y H23 P4 S4;refine put H23 H3 (by rw[aD];exact Q_ (Nat.add_le_add (fV _ _)<|H_ 1)<|by omega) λp4 c9=>?_;have H4:=HL.mk' (ws:=L.take d++[r]) P4 c9;have H15:=Y.new (o:=.lst<|(L.take d++[r]).map Ag) c9;have P5:=P4.new (o:=.lst<|(L.take d++[r]).map Ag) c9;have S5:=S4.new (o:=.lst<|(L.take d++[r]).map Ag) c9;generalize Am μ4 p4 (.lst<|(L.take d++[r]).map Ag)=μ5 at H4 H15 P5 S5;refine Ab (Ao H15.e) λp5 cz=>?_;rw[tf];have H5:=HL.mk' (ws:=L.drop af) P5 cz;have H45:=H4.new (o:=.lst<|(L.drop af).map Ag) cz;have P6:=P5.new (o:=.lst<|(L.drop af).map Ag) cz;have S6:=S5.new (o:=.lst<|(L.drop af).map Ag) cz;generalize Am μ5 p5 (.lst<|(L.drop af).map Ag)=μ6 at H5 H45 P6 S6;refine put H45 H5 (by rw[J_,aD,aH];simp only[List.length_cons,List.length_nil];omega) λp6 km=>?_;refine jn (HL.mk' P6 km) ?_ (mx (mx (bf _) λy hy=>by rw[Y_.mp hy];exact hra)<|ge _) (P6.new km)<|S6.new km;rw[C6,C6,Ie];omega;rintro t _ ⟨rfl,h5,rfl⟩;obtain⟨ju,jp⟩:=Mj hG;have lu:=hG.l1;refine An (λt b=>t=[oE a,oG<|Az g,oG<|.str T,oE I,oF G,oF d,oF fr,none,none,none,none,none,none]/\6<=G/\μ1=b) (λZ hZ=>?_) ?_;refine ieq (λc=>?_) (λc=>hZ _ _ ⟨rfl,by omega,rfl⟩);obtain⟨p,hp,ep⟩:∃p,p∈g.pl/\atI (g.pl.map Ga) (-1)=some (Ga p):=by rcases fM g.pl with h|⟨P',p,h⟩;have:=hG.p0;rw[h]at this;exact absurd this<|dF _;exact⟨p,by rw[h];simp,by rw[h,dE,P_];exact Kw _ _⟩
 obtain⟨hpl,hpn⟩:=ju p hp;have hli:∀ μ:M,items μ (.D<|.tuple<|g.le.map PyData.str)=some (g.le.map Ag):=λμ=>by show some ((g.le.map PyData.str).map AV.D)=_;rw[aJ];rfl
 refine An (λt b=>∃p8,∃ms:oA Str,t=[oE a,oG<|Az g,oG<|.str T,oE I,oF G,oF d,oF fr,none,oE p8,none,none,none,none]/\HL a l b p8 ms/\ms.length<=6/\(∀z∈ms,asc z/\z.length<=30)/\HL a l b I L/\Pot b a l/\Bh a l μ b) (λZ2 bu=>?_) ?_;refine Ab (Ak (j:=1) rfl)<|Ab (hli _) λp2 S=>?_;have C:=H1.new (o:=.lst<|g.le.map Ag) S;have B:=P1.new (o:=.lst<|g.le.map Ag) S;have u:=S1.new (o:=.lst<|g.le.map Ag) S;refine Ab Ac ⟨⟨by decide,by decide,by rw[B_];omega⟩,λp3 J=>?_⟩;generalize Am μ1 p2 (.lst<|g.le.map Ag)=m at C B u J ⊢;have er:BY (g.le.map Ag) (2:Int).toNat=(g.le++g.le).map Ag:=by show(g.le.map Ag)++((g.le.map Ag)++[])=_;rw[cX,P_]
 rw[er];have O:=C.new (o:=.lst<|(g.le++g.le).map Ag) J;have V:=B.new (o:=.lst<|(g.le++g.le).map Ag) J;have S3:=u.new (o:=.lst<|(g.le++g.le).map Ag) J;have e3:Am m p3 (.lst<|(g.le++g.le).map Ag) p3=oH ((g.le++g.le).map Ag):=Ac;generalize Am m p3 (.lst<|(g.le++g.le).map Ag)=X at O V S3 e3 ⊢;refine Ab (Ao e3) λpc au=>?_;have n3c:p3≠pc:=by rintro rfl;rw[e3]at au;cases au
 have hz2:∀z∈g.le++g.le,lets z/\z.length<=6:=λz hz=>(U_.mp hz).elim (jp z)<|jp z;have l1:("arrow " : Str).length=6/\(" " : Str).length=1/\(" :" : Str).length=2:=by decide +kernel
 have lmk:∀z:Str,z.length<=6->(("arrow " : Str)++p.1 ++ " " ++ z ++ " :").length<=30:=λz hz=>by rw[B3,B3,B3,B3,l1.1,l1.2.1,l1.2.2];omega
 refine cmap (g.le++g.le) Ag (λz=>Ag<|("arrow " : Str)++p.1 ++ " " ++ z ++ " :") (λt=>∃o,t=[o,oG<|Az g]) ⟨none,rfl⟩ Ac (seven<|by rw[J_];omega) (λ_=>Ao<|by rw[Af n3c,Af n3c];exact e3) ?_ ?_;rintro i z τ' ai W hi ⟨o,rfl⟩ hW;have cj:=(hz2 z<|aB hi).2;refine Ab (Ak (j:=0) rfl) (Ab ep<|Ab (Ak (j:=0) rfl) ⟨seven<|by rw[l1.1];omega,seven ?_,seven ?_,seven ?_,hW _ ⟨_,rfl⟩⟩);rw[B3,l1.1,l1.2.1];omega;rw[B3,B3,l1.1,l1.2.1];omega;rw[B3,B3,B3,l1.1,l1.2.1,l1.2.2];omega;rw[C0];have em:(g.le++g.le).map (λz=>Ag<|("arrow " : Str)++p.1 ++ " " ++ z ++ " :")=((g.le++g.le).map λz=>("arrow " : Str)++p.1 ++ " " ++ z ++ " :").map Ag:=by rw[aJ];rfl
 rw[em];refine bu _ _ ⟨pc,_,rfl,HL.mk' V au,by rw[B_,J_];omega,λy hy=>?_,O.new au,V.new au,S3.new au⟩;obtain⟨z,hz,rfl⟩:=M_.mp hy;obtain⟨h1,h2⟩:=hz2 z hz;exact⟨Dr (Dr (Dr (Dr (Cq<|by decide +kernel)<|Dy hpl)<|Cq<|by decide +kernel)<|Dy h1)<|Cq<|by decide +kernel,lmk z h2⟩;rintro t m ⟨p8,ms,rfl,H8,hml,hma,C,B,u⟩;refine⟨trivial,Ab (Ao C.e) λp2 S=>?_⟩;rw[yi];have H2:=HL.mk' (ws:=L.take d) B S;have O:=C.new (o:=.lst<|(L.take d).map Ag) S;have H83:=H8.new (o:=.lst<|(L.take d).map Ag) S;have V:=B.new (o:=.lst<|(L.take d).map Ag) S;have S3:=u.new (o:=.lst<|(L.take d).map Ag) S;generalize Am m p2 (.lst<|(L.take d).map Ag)=X at H2 O H83 V S3;refine⟨a,l,2,rfl,V,by decide,by decide,λv μ4 hv P4 S4=>Ab (Ao (H83.ext S4).e) λp3 J=>?_⟩;rw[tf];have H3:=HL.mk' (ws:=ms.drop v) P4 J;have Y:=(O.ext S4).new (o:=.lst<|(ms.drop v).map Ag) J;have H23:=(H2.ext S4).new (o:=.lst<|(ms.drop v).map Ag) J;have P5:=P4.new (o:=.lst<|(ms.drop v).map Ag) J;have S5:=(S3.trans S4).new (o:=.lst<|(ms.drop v).map Ag) J;generalize Am μ4 p3 (.lst<|(ms.drop v).map Ag)=μ5 at H3 Y H23 P5 S5;refine put H23 H3 (by rw[aD,aH];omega) λp4 c9=>?_;have H4:=HL.mk' (ws:=L.take d++ms.drop v) P5 c9;have H15:=Y.new (o:=.lst<|(L.take d++ms.drop v).map Ag) c9;have P6:=P5.new (o:=.lst<|(L.take d++ms.drop v).map Ag) c9;have S6:=S5.new (o:=.lst<|(L.take d++ms.drop v).map Ag) c9;generalize Am μ5 p4 (.lst<|(L.take d++ms.drop v).map Ag)=μ6 at H4 H15 P6 S6;refine Ab (Ao H15.e) λp5 cz=>?_;rw[tf];have H5:=HL.mk' (ws:=L.drop d) P6 cz;have H45:=H4.new (o:=.lst<|(L.drop d).map Ag) cz;have P7:=P6.new (o:=.lst<|(L.drop d).map Ag) cz;have S7:=S6.new (o:=.lst<|(L.drop d).map Ag) cz;generalize Am μ6 p5 (.lst<|(L.drop d).map Ag)=μ7 at H5 H45 P7 S7;refine put H45 H5 (by rw[J_,aD,aH,aH];omega) λp6 km=>?_;have hjm:=Pl (c:=30) (ws:=ms.drop v) λz hz=>(hma z<|dJ hz).2;have hmd:(ms.drop v).length*(30+1)<=6*31:=iF (by rw[aH];omega)<|H_ _;refine jn (HL.mk' P7 km) ?_ (mx (mx (bf _) λy hy=>(hma y<|dJ hy).1)<|ge _) (P7.new km)<|S7.new km;rw[C6,C6];omega;rintro t _ ⟨rfl,h6,rfl⟩;refine An (λt b=>t=[oE a,oG<|Az g,oG<|.str T,oE I,oF G,oF d,oF fr,none,none,none,none,none,none]/\9<=G/\μ1=b) (λZ hZ=>?_) ?_;refine dif (λc=>?_) (λc=>hZ _ _ ⟨rfl,by omega,rfl⟩);have zg:=D_ mq;have vk:=oo _<|aL mq;generalize L[d]=r at zg vk;have hrl:r.length<=N:=by
  have e:=Gz d L;obtain⟨_,e4⟩:=E_.mp zg;have e2:L.drop d=r::L.drop (d+1):=by rw[bM mq,e4]
  have e3:jsum (L.drop d)=r.length+1+jsum (L.drop<|d+1):=by rw[e2,G0]
  omega
 have hjw:=Tz r;have s0:=Ye vk;have mw:=eZ.mpr<|Du r " ";refine An (λt b=>∃p9,∃ws:oA Str,t=[oE a,oG<|Az g,oG<|.str T,oE I,oF G,oF d,oF fr,none,none,oE p9,none,none,none]/\HL a l b p9 ws/\0<ws.length/\jsum ws=r.length+1/\(∀z∈ws,asc z)/\HL a l b I L/\Pot b a l/\Bh a l μ b) (λZ2 bu=>?_) ?_;exact Ab H1.e (Ab (x:=Ag r) (Ak<|by rw[F_,zg];rfl) ⟨trivial,QQ.2,by omega,λp9 z7=>bu _ _ ⟨p9,_,rfl,HL.mk' P1 z7,mw,hjw,s0,H1.new z7,P1.new z7,S1.new z7⟩⟩);clear hjw s0 mw;rintro t m ⟨p9,ws,rfl,H9,mw,hjw,s0,C,B,u⟩;have hwn:=R6 ws;refine An (λt b=>∃sp:Nat,t=[oE a,oG<|Az g,oG<|.str T,oE I,oF G,oF d,oF fr,none,none,oE p9,oF sp,none,none]/\sp<ws.length/\HL a l b p9 ws/\HL a l b I L/\Pot b a l/\Bh a l μ b) (λZ2 bu=>?_) ?_;exact Ab H9.e ⟨a,l,ws.length,by rw[B_],B,mw,by omega,λv X hv V S3=>bu _ _ ⟨v,rfl,hv,H9.ext S3,C.ext S3,V,u.trans S3⟩⟩;clear H9 C B u;rintro t m ⟨sp,rfl,gu,H9,C,B,u⟩;have ews:=D_ gu;have po:=s0 _<|aL gu;have hjs:=Gz sp ws;have e2s:ws.drop sp=ws[sp]::ws.drop (sp+1):=bM gu;have e3s:jsum (ws.drop sp)=ws[sp].length+1+jsum (ws.drop<|sp+1):=by rw[e2s,G0]
 generalize ws[sp]=wd at ews po e3s;refine An (λt b=>∃np,∃U:oA Str,t=[oE a,oG<|Az g,oG<|.str T,oE I,oF G,oF d,oF fr,none,none,oE p9,oF sp,oE np,none]/\U.length<=2/\jsum U<=2*wd.length+70/\(∀z∈U,asc z)/\HL a l b np U/\HL a l b p9 ws/\HL a l b I L/\Pot b a l/\Bh a l μ b) (λZ2 bu=>?_) ?_;intro pA wb;have HA:=HL.mk' (ws:=[]) B wb;have O:=C.new (o:=.lst<|([]:oA Str).map Ag) wb;have H93:=H9.new (o:=.lst<|([]:oA Str).map Ag) wb;have V:=B.new (o:=.lst<|([]:oA Str).map Ag) wb;have S3:=u.new (o:=.lst<|([]:oA Str).map Ag) wb;refine⟨a,l,g,rfl,hG,V,λz μ4 iu cj P4 S4=>λpB ub=>?_⟩;have HB:=HL.mk' (ws:=[z]) P4 ub;have HA5:=(HA.ext S4).new (o:=.lst<|[z].map Ag) ub;have H15:=(O.ext S4).new (o:=.lst<|[z].map Ag) ub;have H95:=(H93.ext S4).new (o:=.lst<|[z].map Ag) ub;have P5:=P4.new (o:=.lst<|[z].map Ag) ub;have S5:=(S3.trans S4).new (o:=.lst<|[z].map Ag) ub;refine Ab H95.e (Ab (x:=Ag wd) (Ak<|by rw[F_,ews];rfl) λpC qv=>?_);have HC:=HL.mk' (ws:=[wd]) P5 qv;have HA6:=HA5.new (o:=.lst<|[wd].map Ag) qv;have HB6:=HB.new (o:=.lst<|[wd].map Ag) qv;have H16:=H15.new (o:=.lst<|[wd].map Ag) qv;have H96:=H95.new (o:=.lst<|[wd].map Ag) qv;have P6:=P5.new (o:=.lst<|[wd].map Ag) qv;have S6:=S5.new (o:=.lst<|[wd].map Ag) qv;refine Ab HC.e ⟨⟨by decide,by decide,(show 1<=1000 by decide)⟩,λpD qx=>?_⟩;rw[show BY ([wd].map Ag) (2:Int).toNat=[wd,wd].map Ag from rfl];have HD:=HL.mk' (ws:=[wd,wd]) P6 qx;have HA7:=HA6.new (o:=.lst<|[wd,wd].map Ag) qx;have HB7:=HB6.new (o:=.lst<|[wd,wd].map Ag) qx;have H17:=H16.new (o:=.lst<|[wd,wd].map Ag) qx;have H97:=H96.new (o:=.lst<|[wd,wd].map Ag) qx;have P7:=P6.new (o:=.lst<|[wd,wd].map Ag) qx;have S7:=S6.new (o:=.lst<|[wd,wd].map Ag) qx;intro pO yu;have jc:∀(np:kM) (U:oA Str),HL a l (Am (Am (Am μ4 pB<|.lst [Ag z]) pC<|.lst [Ag wd]) pD<|.lst<|[wd,wd].map Ag) np U->U.length<=2->jsum U<=2*wd.length+70->(∀z∈U,asc z)->Z2 [oE a,oG<|Az g,oG<|.str T,oE I,oF G,oF d,oF fr,none,none,oE p9,oF sp,oE np,none] (Am (Am (Am (Am μ4 pB<|.lst [Ag z]) pC<|.lst [Ag wd]) pD<|.lst<|[wd,wd].map Ag) pO<|.lst [.R pA,.R pB,.R pD]):=λnp U h1 h2 h3 h4=>bu _ _ ⟨np,U,rfl,h2,h3,h4,h1.new yu,H97.new yu,H17.new yu,P7.new yu,S7.new yu⟩;have one:∀{z:Str},asc z->∀y∈[z],asc y:=λh y hy=>by rw[Y_.mp hy];exact h
 rcases(show G=6\/G=7\/G=8 by omega) with rfl|rfl|rfl;exact Ab Ac (Ab (x:=.R pA) (Ak (j:=0) rfl)<|jc pA [] HA7 (by decide) (aU _) λ_ h=>nomatch h);exact Ab Ac (Ab (show atI [AV.R pA,AV.R pB,AV.R pD] (((7:Nat):Int)-6)=oE pB from rfl)<|jc pB [z] HB7 (show 1<=2 by decide) (by rw[Ie];omega)<|one iu);refine Ab Ac (Ab (show atI [AV.R pA,AV.R pB,AV.R pD] (((8:Nat):Int)-6)=oE pD from rfl)<|jc pD [wd,wd] HD (H_ 2) (by rw[G0,Ie];omega) λy hy=>?_);rcases Z_.mp hy with rfl|hy;exact po;exact one po y hy;rintro t X ⟨np,U,rfl,hso,hjo,hoa,H11,H93,O,V,S3⟩;have hgt:∀(k:Nat),∀z∈ws.take k,asc z:=λk z hz=>s0 z<|eR hz;have i9:∀(k:Nat),∀z∈ws.drop k,asc z:=λk z hz=>s0 z<|dJ hz;refine An (λt b=>∃z:Str,t=[oE a,oG<|Az g,oG<|.str T,oE I,oF G,oF d,oF fr,none,none,oE p9,oF sp,oE np,none]/\asc z/\z.length<=2*r.length+80/\HL a l b I (L.set d z)/\Pot b a l/\Bh a l μ b) (λZ2 bu=>?_) ?_;refine⟨trivial,Ab (Ao H93.e) λp2 S=>?_⟩;rw[yi];have H2:=HL.mk' (ws:=ws.take sp) V S;have Y:=O.new (o:=.lst<|(ws.take sp).map Ag) S;have H94:=H93.new (o:=.lst<|(ws.take sp).map Ag) S;have H114:=H11.new (o:=.lst<|(ws.take sp).map Ag) S;have P4:=V.new (o:=.lst<|(ws.take sp).map Ag) S;have S4:=S3.new (o:=.lst<|(ws.take sp).map Ag) S;generalize Am X p2 (.lst<|(ws.take sp).map Ag)=μ4 at H2 Y H94 H114 P4 S4;refine Ab H2.e (Ab H114.e ⟨by rw[B_,B_,aD];exact big<|by omega,λp3 J=>?_⟩);rw[<- P_];have H3:=HL.mk' (ws:=ws.take sp++U) P4 J;have H15:=Y.new (o:=.lst<|(ws.take sp++U).map Ag) J;have H95:=H94.new (o:=.lst<|(ws.take sp++U).map Ag) J;have P5:=P4.new (o:=.lst<|(ws.take sp++U).map Ag) J;have S5:=S4.new (o:=.lst<|(ws.take sp++U).map Ag) J;generalize Am μ4 p3 (.lst<|(ws.take sp++U).map Ag)=μ5 at H3 H15 H95 P5 S5;refine Ab (Ao H95.e) λp4 c9=>?_;rw[show De (ws.map Ag) (some<|(sp:Int)+1) none=(ws.drop<|sp+1).map Ag from tf ws<|sp+1];have H4:=HL.mk' (ws:=ws.drop<|sp+1) P5 c9;have H16:=H15.new (o:=.lst<|(ws.drop<|sp+1).map Ag) c9;have H36:=H3.new (o:=.lst<|(ws.drop<|sp+1).map Ag) c9;have P6:=P5.new (o:=.lst<|(ws.drop<|sp+1).map Ag) c9;have S6:=S5.new (o:=.lst<|(ws.drop<|sp+1).map Ag) c9;generalize Am μ5 p4 (.lst<|(ws.drop<|sp+1).map Ag)=μ6 at H4 H16 H36 P6 S6;refine put H36 H4 (by rw[J_,aD,aH];omega) λp5 cz=>?_;have H5:=HL.mk' (ws:=ws.take sp++U++ws.drop (sp+1)) P6 cz;have H17:=H16.new (o:=.lst<|(ws.take sp++U++ws.drop (sp+1)).map Ag) cz;have P7:=P6.new (o:=.lst<|(ws.take sp++U++ws.drop (sp+1)).map Ag) cz;have S7:=S6.new (o:=.lst<|(ws.take sp++U++ws.drop (sp+1)).map Ag) cz;generalize Am μ6 p5 (.lst<|(ws.take sp++U++ws.drop (sp+1)).map Ag)=μ7 at H5 H17 P7 S7;have hjz:jsum (ws.take sp++U++ws.drop (sp+1))<=2*r.length+80:=by rw[C6,C6];omega
 have iu:∀z∈ws.take sp++U++ws.drop (sp+1),asc z:=mx (mx (hgt _) hoa)<|i9 _;refine Ab H5.e (Ab (Dd _) ⟨IF hjz<|by omega,?_⟩);obtain⟨k1,k2⟩:=IC hjz iu;generalize Txt.join " " (ws.take sp++U++ws.drop (sp+1))=z at k1 k2;refine Ab H17.e (Ab (x:=d) (IG<|by rw[B_];exact mq)<|bu _ _ ⟨z,rfl,k1,k2,⟨?_,H17.na,H17.nl⟩,P7.other H17.na.symm H17.nl.symm,S7.put hp10⟩);rw[Ac,List.map_set];rfl;rintro t μ4 ⟨z,rfl,iu,cj,Y,P4,S4⟩;have hjz:=R5 (z:=z) zg;refine⟨trivial,jn Y (by omega) (λy hy=>?_) P4 S4⟩;rcases List.mem_or_eq_of_mem_set hy with h|rfl;exact oo y h;exact iu;rintro t _ ⟨rfl,h9,rfl⟩;have pi:T.length<=sizeLine:=big (by omega);refine An (λt b=>∃j5:Nat,t=[oE a,oG<|Az g,oG<|.str T,oE I,oF G,oF j5,oF fr,none,none,none,none,none,none]/\Pot b a l/\Bh a l μ b) (λZ hZ=>?_) ?_;exact⟨pi,a,l,T.length+1,rfl,P1,aQ _,by omega,λv m hv B u=>hZ _ _ ⟨v,rfl,B,S1.trans u⟩⟩;rintro t m ⟨j5,rfl,B,u⟩;refine An (λt b=>∃sg:Str,t=[oE a,oG<|Az g,oG<|.str T,oE I,oF G,oF j5,oF fr,none,none,none,none,none,some<|Ag sg]/\asc sg/\sg.length<=1/\Pot b a l/\Bh a l μ b) (λZ hZ=>?_) ?_;exact⟨a,l,rfl,B,λz X iu cj V S3=>hZ _ _ ⟨z,rfl,iu,cj,V,u.trans S3⟩⟩;clear B u;rintro t m ⟨sg,rfl,hsa,hsl,B,u⟩;have sl:∀lo hi,asc (Txt.slice T lo hi)/\(Txt.slice T lo hi).length<=N:=λlo hi=>⟨Yd lo hi hTa,Q_ (Txt.slice_le T lo hi) hTl⟩;refine An (λt b=>∃U:Str,t=[oE a,oG<|Az g,oG<|.str T,oE I,oF G,oF j5,oF fr,none,none,none,none,some<|Ag U,some<|Ag sg]/\asc U/\U.length<=N+1/\Pot b a l/\Bh a l μ b) (λZ hZ=>?_) ?_;refine⟨pi,?_⟩;have s1:=sl (some (j5:Int))<|some<|(j5:Int)+1;generalize Txt.slice T (some (j5:Int)) (some<|(j5:Int)+1)=y at s1 ⊢;refine⟨big<|by omega,λp hp=>?_⟩;rcases(show G=9\/G=10\/G=11 by omega) with rfl|rfl|rfl;exact Ab Ac (Ab (x:=Ag "") (Ak (j:=0) rfl)<|hZ _ _ ⟨_,rfl,JV,by rw[show("" : Str).length=0 by decide +kernel];omega,B.new hp,u.new hp⟩);exact Ab Ac (Ab (x:=Ag sg) (Ak (j:=1) rfl)<|hZ _ _ ⟨_,rfl,hsa,by omega,B.new hp,u.new hp⟩);exact Ab Ac (Ab (x:=Ag<|y++sg) (Ak (j:=2) rfl)<|hZ _ _ ⟨_,rfl,Dr s1.1 hsa,by rw[B3];omega,B.new hp,u.new hp⟩);clear B u;rintro t X ⟨U,rfl,hoa,t5,V,S3⟩;have s1:=sl none<|some (j5:Int);have s2:=sl (some<|(j5:Int)+1) none;refine⟨pi,?_⟩;generalize Txt.slice T none (some (j5:Int))=y1 at s1 ⊢;refine⟨big<|by omega,pi,?_⟩;generalize Txt.slice T (some<|(j5:Int)+1) none=y2 at s2 ⊢;exact⟨big<|by rw[B3];omega,_,Sub.refl,q _ _ (Dr (Dr s1.1 hoa) s2.1) (by rw[B3,B3];omega) V S3⟩
end
section
variable {P:kO}{w:kP}{K:kN}{mg:Str->oB kJ}{base:kS}{f:kM}{fd:kW}
def Qa8:kit "int" "bool" = false:=by decide
def XN{i:Nat}{a:ASt}{b:M}{x:AV}{R:AV->M->Prop}(h:a[i]?=some (some x))(q:R x b):K8 i a b R:=by unfold K8;rw[h];exact q
def DZ(T:Str):Sum Nat Say->kL
 |.inl r=>.tuple [.str "refused",.int (r:Nat)]
 |.inr _=>.tuple [.str "read",.str T]
abbrev nTo:oA Str:=["_law_game_here","_law_text","_law_caught","e"]
def IH:FnScope nTo oM (Ai QM):=⟨rfl,rfl,rfl,by decide +kernel,rfl,by decide +kernel,by decide +kernel⟩
def II:ASp:=λc b R=>∃(g:Gam) (T:Str),c=[.D<|Az g,.D<|.str T]/\GmIn g/\asc T/\T.length<=400000/\∀ a,Sub b a->R (.D<|DZ T<|Vx g<|wrd T) a
def XQ{n:Nat}{b N c2 M S U Q L D:kM}(F:Fun K "_law_told" "_law_told" QM f fd) (k:Ni P w K mg base n "read_saying" qI<|WQ b) (B:VCal P w K mg base n "show_saying" qD VD) (h:mg "isinstance" = none) (V:mg "ValueError" = none) (Z:mg "bool" = none) (Y:mg "NoText" = some (.ref b)) (G:mg "NoGame" = some (.ref N)) (p:mg "NoSaying" = some (.ref c2)) (j:mg "TooMany" = some (.ref M)) (l:mg "NoPaper" = some (.ref S)) (C:mg "NoFit" = some (.ref U)) (t:mg "NoProgram" = some (.ref Q)) (u:mg "NoRow" = some (.ref L)) (mD:mg "DuelError" = some (.ref D))
  (a:Err K b D [c2,N,M,S,U,Q,L]) (O:Ik K b "row"):FnOk P w K mg base Ez (n+1) f fd oM (G6 K 2 II):=by
 refine F.vok0 IH λav A I s H E d=>⟨_,(Fh (VS.z<|Aq (i:=2) IH.nd rfl oI Cg)<|Fh (FV (i:=3) (λxe pn EX W=>(Aj<|Ay<|Cl<|Aa Ap<|Aa (Al B d rfl<|Aa (vv 0)<|Aa (Z5 k d W rfl<|Aa (vv 0)<|Aa (vv 1) Ad) Ad) Ad)) (λe=>(Aj<|Aq (i:=2) IH.nd rfl oI<|vv 3)) rfl mD a.xD a.mD rfl rfl IH.nd rfl rfl)<|Fh (VS.z<|Bw (D5<|W8 (K:=K) rfl rfl h (Le rfl p<|Le rfl G<|Le rfl j<|Le rfl l<|Le rfl C<|Le rfl t<|Le rfl u NF) (vv 2) (hl:=seven (n:=7)<|by decide)) (Aj<|Ay<|Cl<|Aa Ap<|Aa (Hd Ae) Ad) A8)<|Fh (VS.z<|Bw (VW.pt<|Df (E7<|D5<|FY (K:=K) rfl rfl h rfl Y<|vv 2)<|D6<|E7<|D5<|AH (K:=K) (T := "ValueError") rfl rfl h rfl V (by decide +kernel)<|vv 2) (Aj<|Ay<|Cl<|Aa Ap<|Aa (Hd Ae) Ad) A8)<|Fh (VS.z<|Bw (D5<|Zv rfl h rfl Z PyProof.Rows.boot_bool Nk<|Ux (K:=K) rfl (vv 2) rfl) (Aj<|Ay<|Cl<|Aa Ap<|Aa (Hd Ae) Ad) A8)<|Z6<|VS.z<|Ay<|Cl<|Aa Ap<|Aa (Ux (K:=K) rfl (vv 2) rfl) Ad),?_⟩
 rintro xs J R _ ⟨g,T,rfl,o,m,v,q⟩;refine Ci<|TD<|Ci ?_;refine⟨g,T,rfl,o,m,v,λs y=>⟨g,s,rfl,(DL o y).1,λc S1=>?_⟩,λr d=>⟨a.un,?_⟩⟩;have e:Txt.join "\n" ((Ca g s).map<|Txt.join " ")=T:=by rw[<- (DL o y).2];exact DM T
 rw[e];have:=q c S1;rw[y]at this;exact⟨c,Sub.refl,this⟩;have:=q J Sub.refl;rw[d]at this;refine TF<|XN (x:=.X b [("row",.int (r:Nat))]) rfl ?_;refine Ci ⟨a.xi,Ab a.no<|J9 rfl ?_⟩;refine Ci ⟨a.xi,Ab a.self<|J9 rfl ⟨a.xi,Ab a.iV<|J9 rfl ?_⟩⟩;refine Ci ⟨a.xi.toXCls,O,Ab rfl<|Ab rfl<|J9 Qa8 ?_⟩;exact⟨a.xi.toXCls,O,Ab rfl ⟨J,Sub.refl,this⟩⟩
def DX:Mi "refused" = true/\Mi "read" = true:=by decide +kernel
def T1{T:Str}(h:asc T)(o:Sum Nat Say):Bz (DZ T o):=by
 have h1:=asc_ok<|Cq DX.1;have h2:=asc_ok<|Cq DX.2;have a:=asc_ok h;cases o with
 |inl r=>refine⟨?_,by simp[DZ,PyData.depth,PyData.depthAll]⟩;show(PyData.canLay0 (.str "refused")&&(true&&true))=true;rw[h1];rfl
 |inr s=>refine⟨?_,by simp[DZ,PyData.depth,PyData.depthAll]⟩;show(PyData.canLay0 (.str "read")&&(PyData.canLay0 (.str T)&&true))=true;rw[h2,a];rfl
def V3{T:Str}(h:asc T)(o:Sum Nat Say):PyData.eqv (DZ T o) (DZ T o)=true:=PySem.SeqAt.eqv_refl _ (T1 h o).1
abbrev nRi:oA Str:=["_law_game_here","_law_text","_law_due"]
def XS:FnScope nRi oM (Ai QN):=⟨rfl,rfl,rfl,by decide +kernel,rfl,by decide +kernel,by decide +kernel⟩
def PM:ASp:=λc b R=>∃(g:Gam) (T:Str),c=[.D<|Az g,.D<|.str T]/\GmIn g/\asc T/\T.length<=400000/\∀ a,Sub b a->R (.D<|.bool true) a
def XT{n:Nat}(F:Fun K "_law_right" "_law_right" QN f fd) (o:VCal P w K mg base n "_law_first_wrong" oM WZ) (t:VCal P w K mg base n "_law_told" oM II):FnOk P w K mg base Ez (n+1) f fd oM (G6 K 2 PM):=by
 refine F.vok XS λy A p s H E h=>⟨_,(Ah (Aq (i:=2) XS.nd rfl oI<|Al o h rfl<|Aa (vv 0)<|Aa (vv 1) Ad)<|Ah (Bw (Bc Hl (vv 2) Cg<|nomark _) (Aj<|Ay<|Fw (Gj h) (Al t h rfl<|Aa (vv 0)<|Aa (vv 1) Ad) (Cl<|Aa Ap<|Aa (vv 1) Ad)<|nomark _) A8)<|Aj<|Ay<|Fw (Gj h) (Al t h rfl<|Aa (vv 0)<|Aa (vv 1) Ad) (Cl<|Aa Ap<|Aa (vv 2) Ad)<|nomark _),?_⟩
 rintro z x R _ ⟨g,T,rfl,j,a,c,q⟩;refine Ci ⟨g,T,rfl,j,a,c,λv u=>?_⟩;have d:=T1 a<|Vx g<|wrd T;have hv:=V3 a<|Vx g<|wrd T;rcases ho:Vx g (wrd T) with r|s;rw[ho]at d hv;refine Ci<|J9 rfl ⟨g,T,rfl,j,a,c,λk l=>?_⟩;rw[ho];refine⟨d,d,_,Sub.refl,?_⟩;have e:PyData.eqv (DZ T<|.inl r) (.tuple [.str "refused",PJ<|.inl r])=true:=hv;rw[e];exact q _ λb m hb=>l b m<|u b m hb;rw[ho]at d hv;refine Ci<|Fd rfl ⟨g,T,rfl,j,a,c,λk l=>?_⟩;rw[ho];refine⟨d,d,_,Sub.refl,?_⟩;have e:PyData.eqv (DZ T<|.inr s) (.tuple [.str "read",.str T])=true:=hv;rw[e];exact q _ λb m hb=>l b m<|u b m hb
def Pot.sub{b c:M}{a l:kM}(h:Pot b a l)(S:Sub b c):Pot c a l :=
 by obtain⟨e,g,d,i,h⟩:=h;exact⟨e,g,d,i,S _ _ h.ha,S _ _ h.hl,h.n0,h.ne⟩
def R7:∀i:Fin 12,Mi (toS (i.val:Int))=true:=by decide +kernel
def XU:Mi "arrow" = true/\Mi ":" = true/\Mi "ends" = true/\Mi "own" = true:=by decide +kernel
def TxIn.stA{g:Gam}{s:Say}(h:TxIn g s){k:Nat}(hk:k<g.pl.length+s.own):asc (Dx g k):=by unfold Dx;by_cases h1:k<g.pl.length;rw[D_ h1];exact Dy<|h.pn.l _<|M_.mpr ⟨_,aL h1,rfl⟩;rw[bG<|by omega];have:=h.sa.o;exact Cq<|R7 ⟨k+1-g.pl.length,by omega⟩
def TxIn.asc{g:Gam}{s:Say}(h:TxIn g s):∀ws∈Ca g s,∀z∈ws,asc z:=by obtain⟨d,j,i,k⟩:=XU;have b:=h.sh;intro ws hws z hz;rcases Z_.mp hws with rfl|hws;simp only[List.mem_cons,List.not_mem_nil,or_false]at hz;rcases hz with rfl|rfl;exact Cq k;have:=b.o;exact Cq (R7 ⟨s.own,by omega⟩);rcases U_.mp hws with hws|hws;obtain⟨a,ha,rfl⟩:=M_.mp hws;rcases U_.mp hz with hz|hz;unfold X0 at hz;simp only[List.mem_cons,List.not_mem_nil,or_false]at hz;rcases hz with rfl|rfl|rfl|rfl;exact Cq d;exact h.stA<|b.p a ha;unfold Xz;have hx:=b.x a ha;rw[L_,D_ hx];exact Dy<|h.ln.l _<|aL hx;exact Cq j;obtain⟨t,c,rfl⟩:=M_.mp hz;exact h.stA<|b.t a ha t c;rw[Y_.mp hws]at hz;rcases U_.mp hz with hz|hz;rw[Y_.mp hz];exact Cq i;obtain⟨t,c,rfl⟩:=M_.mp hz;exact h.stA<|b.e t c
def TxIn.txt{g:Gam}{s:Say}(h:TxIn g s):K20.asc (Txt.join "\n"<|(Ca g s).map<|Txt.join " ")/\(Txt.join "\n"<|(Ca g s).map<|Txt.join " ").length<=3000:=by
 refine JW ?_ λz hz=>?_;have a:=Pl (c:=280) (ws:=(Ca g s).map<|Txt.join " ") λz hz=>by obtain⟨ws,hws,rfl⟩:=M_.mp hz;exact Vq<|Pd h.sh ws hws
 have b:((Ca g s).map<|Txt.join " ").length*(280+1)<=10*281:=iF (by rw[B_,Mb];have:=h.sa.n;omega)<|H_ _;omega;obtain⟨ws,hws,rfl⟩:=M_.mp hz;rw[Eb,G8];exact Ic (by decide)<|h.asc ws hws
def nb:Nat->Nat
 | 0=>3000
 | 1=>29000
 | 2=>107000
 |_=>341000
abbrev Qa9:oA Str:=["_law_script","_law_state","_law_game_here","_law_text","_law_k","_law_other","_law_turn"]
def J1:FnScope Qa9 qL (Ai Mv):=⟨rfl,rfl,rfl,by decide +kernel,rfl,by decide +kernel,by decide +kernel⟩
def spL:ASp:=λb c R=>∃(ns:oA Int),b=[.D<|Kb ns]/\ns.length<=63/\∀ a,R (.D<|.bool true) a
def IJ{n:Nat}(F:Fun K "law" "law" Mv f fd) (cGa:VCal P w K mg base n "_law_game" oU OM) (cRw:VCal P w K mg base n "_law_rows" oY OP) (cSa:VCal P w K mg base n "_law_saying" oW ON) (rj:VCal P w K mg base n "_law_told" oM II) (bp:VCal P w K mg base n "_law_draw" oK L7) (cOt:VCal P w K mg base n "_law_otherwise" qC PL) (um:VCal P w K mg base n "_law_right" oM PM) (az:mg "list" = none) (ak:mg "range" = none):FnOk P w K mg base Ez (n+1) f fd qL (G6 K 1 spL):=by
 refine F.vok J1 λav A outer s H E t=>⟨_,(Ah (Aq (i:=1) J1.nd rfl oI<|Cb<|Aa (Bi Sv rfl az iH<|Aa (vv 0) Ad)<|Aa Ae<|Aa Ae<|Aa Ae Ad)<|Ah (Aq (i:=2) J1.nd rfl oI<|Al cGa t rfl<|Aa (vv 1)<|Aa Ae Ad)<|Ah (Aq (i:=3) J1.nd rfl oI<|Es bH bI D7 Ap<|Aa (Al cRw t rfl<|Aa (vv 2)<|Aa (Al cSa t rfl<|Aa (vv 1)<|Aa (vv 2)<|Aa Ae Ad) Ad) Ad)<|Ah (Bw (Bc (FO t) (Al rj t rfl<|Aa (vv 2)<|Aa (vv 3) Ad) (Cl<|Aa Ap<|Aa (vv 3) Ad)<|nomark _) (Aj<|Ay Qg) A8)<|Ah (Di cD rfl (Co rfl ak<|Aa Ae Ad) (Ax (i:=4) J1.nd rfl oI)<|Ah (Aq (i:=5) J1.nd rfl oI<|vv 3)<|Ah (Di cD rfl (Co rfl ak<|Aa (Bb A5 Ae<|Al bp t rfl<|Aa (vv 1)<|Aa Ae Ad) Ad) (Ax (i:=6) J1.nd rfl oI)<|Aj<|Aq (i:=5) J1.nd rfl oI<|Al cOt t rfl<|Aa (vv 1)<|Aa (vv 2)<|Aa (vv 5) Ad)<|Aj<|Bw (E7<|D5<|Al um t rfl<|Aa (vv 2)<|Aa (vv 5) Ad) (Aj<|Ay Qg) A8)<|Aj<|Ay<|Os (Al um t rfl<|Aa (vv 2)<|Aa Ap Ad)<|Os (Al um t rfl<|Aa (vv 2)<|Aa (Bb A5 (vv 3) Ap) Ad)<|Oq<|Fw (Gj t) (Al rj t rfl<|Aa (vv 2)<|Aa (vv 3) Ad) (Cl<|Aa Ap<|Aa (vv 3) Ad)<|nomark _),?_⟩
 rintro xs μ R _ ⟨x,rfl,fi,q⟩;refine An (λc b=>∃a l,c=[oG<|Kb x,oE a,none,none,none,none,none]/\Pot b a l) (λZ C=>?_) ?_;refine Ab (Xu _ x) λl hl=>λa ha=>?_;have W:l≠a:=by rintro rfl;rw[Ac]at ha;cases ha
 exact C _ _ ⟨a,l,rfl,0,0,0,x,Ac,by rw[Af W,Ac],Int.le_refl _,W.symm⟩
 rintro c B ⟨a,l,rfl,r⟩;refine An (λc b=>∃g,c=[oG<|Kb x,oE a,oG<|Az g,none,none,none,none]/\GmIn g/\Pot b a l) (λZ C=>?_) ?_;exact⟨a,l,0,rfl,by decide,r,λg u L N _=>C _ _ ⟨g,rfl,⟨L.p0,L.p1,L.l0,L.l1,L.pn,L.ln⟩,N⟩⟩;clear r;rintro c B ⟨g,rfl,d,r⟩;refine An (λc b=>∃T,c=[oG<|Kb x,oE a,oG<|Az g,some<|Ag T,none,none,none]/\asc T/\T.length<=3000/\(∃s,Vx g (wrd T)=.inr s)/\Pot b a l) (λZ C=>?_) ?_;refine⟨trivial,a,l,g,8,rfl,d.p0,d.p1,d.l0,d.l1,by decide,r,λs u Y N _=>?_⟩;have M:TxIn g s:=⟨d.p0,d.p1,d.l1,d.pn,d.ln,Y⟩;refine⟨g,s,rfl,M.sh,λp I e3 S3=>Ab e3<|Ab (Dd _) ⟨Rr M.sh,C _ _ ⟨_,rfl,M.txt.1,M.txt.2,⟨s,?_⟩,N.sub S3⟩⟩⟩;rw[DP M];exact OZ M d.l0;clear r;rintro c B ⟨T,rfl,o,hTl,⟨s,Y⟩,r⟩;have X:=T1 o<|.inr s;have hv:=V3 o<|.inr s;refine An (λc b=>c=[oG<|Kb x,oE a,oG<|Az g,some<|Ag T,none,none,none]/\Pot b a l) (λZ C=>?_) ?_;refine⟨g,T,rfl,d,o,by omega,λu S2=>?_⟩;rw[Y];refine⟨X,X,?_⟩;have e:PyData.eqv (DZ T<|.inr s) (.tuple [.str "read",.str T])=true:=hv;rw[e];exact J9 rfl<|C _ _ ⟨rfl,r.sub S2⟩;clear r;rintro c B ⟨rfl,r⟩;refine An (λc b=>∃Q S k,c=[oG<|Kb x,oE a,oG<|Az g,some<|Ag T,Q,S,k]/\Pot b a l) (λZ C=>?_) ?_;refine⟨by decide,by decide,?_⟩;refine Fe (λi c b=>∃Q S k,c=[oG<|Kb x,oE a,oG<|Az g,some<|Ag T,Q,S,k]/\Pot b a l) ⟨none,none,none,rfl,r⟩ (λ_ _ _ _=>trivial) ?_ λc b h=>C _ _ h;rintro i y c u Z2 hy ⟨Q,S,k,rfl,N⟩ bu;refine An (λc b=>c=[oG<|Kb x,oE a,oG<|Az g,some<|Ag T,some y,some<|Ag T,k]/\u=b) (λZ3 bj=>bj _ _ ⟨rfl,rfl⟩) ?_;rintro c _ ⟨rfl,rfl⟩;refine An (λc b=>∃m k,c=[oG<|Kb x,oE a,oG<|Az g,some<|Ag T,some y,some<|Ag m,k]/\asc m/\m.length<=341000/\Pot b a l) (λZ3 bj=>?_) ?_;refine⟨a,l,3,rfl,N,by decide,by decide,λv I hv3 P3 _=>⟨by omega,by omega,?_⟩⟩;have aj:(Ea 0 ((1:Int)+v).toNat).length=1+v:=by rw[Bv];omega
 refine Fe (λj c b=>∃m k,c=[oG<|Kb x,oE a,oG<|Az g,some<|Ag T,some y,some<|Ag m,k]/\asc m/\m.length<=nb j/\Pot b a l) ⟨T,k,rfl,o,hTl,P3⟩ (λ_ _ _ _=>trivial) ?_ ?_;rintro j y2 c J Z4 hy2 ⟨m,k,rfl,V,G,P4⟩ j7;have hj:j<3:=by have:=(E_.mp hy2).1;rw[aj]at this;omega
 have O:nb j<=110000/\3*nb j+20000<=nb (j+1):=by rcases(show j=0\/j=1\/j=2 by omega) with rfl|rfl|rfl<;>decide
 exact⟨a,l,g,m,nb j,rfl,d,V,G,O.1,P4,λz μ5 iu cj P5 _=>j7 _ _ ⟨z,_,rfl,iu,by omega,P5⟩⟩
 rintro c J ⟨m,k,rfl,V,G,P4⟩;rw[aj]at G;have O:nb (1+v)<=341000:=by rcases(show v=0\/v=1\/v=2 by omega) with rfl|rfl|rfl<;>decide
 exact bj _ _ ⟨m,k,rfl,V,by omega,P4⟩
 rintro c I ⟨m,o6',rfl,V,G,P3⟩;exact⟨g,m,rfl,d,V,by omega,λJ S4=>J9 rfl<|bu _ _ ⟨_,_,_,rfl,P3.sub S4⟩⟩;clear r;rintro c B ⟨Q,S,k,rfl,r⟩;have U:("\n" : Str).length=1:=by decide +kernel
 refine⟨g,"",rfl,d,JV,by decide +kernel,λu S2=>Fd rfl ⟨big<|by rw[U];omega,g,T ++ "\n",rfl,d,Dr o<|Cq<|by decide +kernel,by rw[B3,U];omega,λI S3=>Fd rfl ⟨g,T,rfl,d,o,by omega,λJ S4=>?_⟩⟩⟩;rw[Y];refine⟨X,X,_,Sub.refl,?_⟩;have e:PyData.eqv (DZ T<|.inr s) (.tuple [.str "read",.str T])=true:=hv;rw[e];exact q _
def V4(K:kN):Sp:=λc H Q _=>∃(a:kM) (ns:oA Int),c=[.ref a]/\Fa K H a (ns.map V.int)/\Only H/\ns.length<=63/\∀b,Q (.bl true) b
theorem V5{H:Hp}:∀(ns:oA Int),Au K H (ns.map .int) (ns.map V.int)
 |[]=>D8
 |n::ns=>Ct Ef<|V5 ns
def PN{n:Nat}(F:Fun K "law" "law" Mv f fd) (e:VCal P w K mg base n "_law_game" oU OM) (g:VCal P w K mg base n "_law_rows" oY OP) (c:VCal P w K mg base n "_law_saying" oW ON) (i:VCal P w K mg base n "_law_told" oM II) (l:VCal P w K mg base n "_law_draw" oK L7) (d:VCal P w K mg base n "_law_otherwise" qC PL) (m:VCal P w K mg base n "_law_right" oM PM) (s:mg "list" = none) (j:mg "range" = none):FnOk P w K mg base Ez (n+1) f fd qL (V4 K):=by refine(IJ F e g c i l d m s j).imp ?_;rintro A H Q E ⟨a,b,rfl,p,k,r,q⟩;refine⟨[.D<|Kb b],λ_=>none,λv _=>v=.D (.bool true),rfl,.cons ?_ .nil,(λ_ _ z=>nomatch z),⟨b,rfl,r,λ_=>rfl⟩,?_⟩;refine MP (xs:=b.map V.int) ?_<|V5 b;rcases p with(h|h)|h;rcases k a with z|⟨o,xs,z⟩;rw[z]at h;cases h;rw[z]at h;cases h;exact .inl h;exact .inr h;rintro x u v y _ _ t rfl;cases RelA.bl t;exact q _
end
def V6{b:oA kJ}(h:b.length=1):∃a,b=[a]:=by obtain⟨a,t,rfl,h2⟩:=Fg h;rw[bS h2];exact⟨a,rfl⟩
def Dg{c:oA kJ}(h:c.length=2):∃b a,c=[b,a]:=by obtain⟨b,t,rfl,h2⟩:=Fg h;obtain⟨a,rfl⟩:=V6 h2;exact⟨b,a,rfl⟩
def Ig{c:oA kJ}(h:c.length=3):∃b a a2,c=[b,a,a2]:=by obtain⟨b,t,rfl,h2⟩:=Fg h;obtain⟨a,a2,rfl⟩:=Dg h2;exact⟨b,a,a2,rfl⟩
def JZ{d:oA kJ}(h:d.length=4):∃c a a2 b,d=[c,a,a2,b]:=by obtain⟨c,t,rfl,h2⟩:=Fg h;obtain⟨a,a2,b,rfl⟩:=Ig h2;exact⟨c,a,a2,b,rfl⟩
def all_mk{l:PySem.W.OpenLaw}{w:kP}{K:kN}{h:kS}{mg:Str->oB kJ}{fa f1 f2 f3 f4 f5 f6 f7 f8 f9 H x T F y B Y S C Q R O U f23 M J A f27 z N f30 c0 c1 c2 c3 c4 c5 c6 c7 D z9:kM}(X:K.In h)(G:h.Ns mainGlobals mg)(hfa:mg "law" = some (.ref fa))
  {od1 an1 od2 an2 od3 an3 od4 an4 od5 an5 od6 an6 od7 an7 od8 an8 od9 an9 zbj zdv zb0 zcf zaz zag zey zbp zan zbz ze4 zdl zd0 zc0 zdx zcc zef za2 zez zby zcz zdr zex zdd zbf zd4 zai zcn zds zau zah zch zab zcs zep zb4 zdi zd5 zed ze9 zet xl zd8 zbc:oB kM} {sl1 t6 sl3 sl4 sl5 sl6 sl7 sl8 sl9 zbk zbm zci zcp zbr zbw zdf zc3 zb3 zaj ze3 zay za6 zcq zcv zee zcx zdm zdg zbq zal zdp:oC<|oB kJ} {oc1 kV1 dc1 pm1 cd1 ct1 oc2 kV2 dc2 pm2 cd2 ct2 oc3 kV3 dc3 pm3 cd3 ct3 oc4 kV4 dc4 pm4 cd4 ct4 oc5 kV5 dc5 pm5 cd5 ct5 oc6 kV6 dc6 pm6 cd6 ct6 oc7 kV7 dc7 pm7 cd7 ct7 oc8 kV8 dc8 pm8 cd8 ct8 oc9 kV9 dc9 pm9 cd9 ct9 zew zce zae zaq vy zac zb6 zbn zdq zcm xu zao zax zaw zeo zca ug zbs zad ze7 zba zfb vw zc7 zdo zcu zb5 zbd vt zec zcr za8 zcl zaa wk zav zd2 zei zb7 zb2 yq zdy zdt zd7 zfa zfc yh zev zbv zem zc8 za5 xo zat zfd zdh zdj zea ux zde zbe zdw zbo zcd vo zas zam zej zcj zdz xm zd6 zbi za7 zeg zcy zc ze8 ze5 ze0 zd3 zcg w6 zeb zc5 zb9 zen zek uj za9 za3 za4 zdu ze2 yt zdb zbt zeh zck zcw xp zeq zes ze6 zeu zak uk zdc zc4 zco zar za1 ye zbx zdk zbl zbh zc6 uu zbb zaf we yr uv qq v5 zc2 za0 zap zda zb zel:kJ}
  {t1 t2:Tok}
  (d:PySem.W.nsIn K mainGlobals "numbers_by_name" = some (some<|.ref f1))
  (l1:K.lookup f1=some ⟨oc1,od1,.func<|PySem.W.fnOf "numbers_by_name" "numbers_by_name" (Be PV) (A9 PV) (Ai PV) .none kV1 dc1 pm1 an1 cd1 ct1,sl1⟩)
  (c_1:PySem.W.codeIn K cd1 "numbers_by_name" = true)
  (k1:PySem.W.keepIn K (.ref f1)=true)
  (a2:PySem.W.nsIn K mainGlobals "is_there" = some (some<|.ref f2))
  (l2:K.lookup f2=some ⟨oc2,od2,.func<|PySem.W.fnOf "is_there" "is_there" (Be PY) (A9 PY) (Ai PY) .none kV2 dc2 pm2 an2 cd2 ct2,t6⟩)
  (c_2:PySem.W.codeIn K cd2 "is_there" = true)
  (k2:PySem.W.keepIn K (.ref f2)=true)
  (a3:PySem.W.nsIn K mainGlobals "may_stand_behind" = some (some<|.ref f3))
  (l3:K.lookup f3=some ⟨oc3,od3,.func<|PySem.W.fnOf "may_stand_behind" "may_stand_behind" (Be PZ) (A9 PZ) (Ai PZ) .none kV3 dc3 pm3 an3 cd3 ct3,sl3⟩)
  (c_3:PySem.W.codeIn K cd3 "may_stand_behind" = true)
  (k3:PySem.W.keepIn K (.ref f3)=true)
  (a4:PySem.W.nsIn K mainGlobals "are_ends" = some (some<|.ref f4))
  (l4:K.lookup f4=some ⟨oc4,od4,.func<|PySem.W.fnOf "are_ends" "are_ends" (Be QA) (A9 QA) (Ai QA) .none kV4 dc4 pm4 an4 cd4 ct4,sl4⟩)
  (c_4:PySem.W.codeIn K cd4 "are_ends" = true)
  (k4:PySem.W.keepIn K (.ref f4)=true)
  (a5:PySem.W.nsIn K mainGlobals "is_rising" = some (some<|.ref f5))
  (l5:K.lookup f5=some ⟨oc5,od5,.func<|PySem.W.fnOf "is_rising" "is_rising" (Be JK) (A9 JK) (Ai JK) .none kV5 dc5 pm5 an5 cd5 ct5,sl5⟩)
  (c_5:PySem.W.codeIn K cd5 "is_rising" = true)
  (k5:PySem.W.keepIn K (.ref f5)=true)
  (a6:PySem.W.nsIn K mainGlobals "show_saying" = some (some<|.ref f6))
  (l6:K.lookup f6=some ⟨oc6,od6,.func<|PySem.W.fnOf "show_saying" "show_saying" (Be GZ) (A9 GZ) (Ai GZ) .none kV6 dc6 pm6 an6 cd6 ct6,sl6⟩)
  (c_6:PySem.W.codeIn K cd6 "show_saying" = true)
  (k6:PySem.W.keepIn K (.ref f6)=true)
  (a7:PySem.W.nsIn K mainGlobals "stand_words" = some (some<|.ref f7))
  (l7:K.lookup f7=some ⟨oc7,od7,.func<|PySem.W.fnOf "stand_words" "stand_words" (Be JL) (A9 JL) (Ai JL) .none kV7 dc7 pm7 an7 cd7 ct7,sl7⟩)
  (c_7:PySem.W.codeIn K cd7 "stand_words" = true)
  (k7:PySem.W.keepIn K (.ref f7)=true)
  (a8:PySem.W.nsIn K mainGlobals "read_saying" = some (some<|.ref f8))
  (l8:K.lookup f8=some ⟨oc8,od8,.func<|PySem.W.fnOf "read_saying" "read_saying" (Be OD) (A9 OD) (Ai OD) .none kV8 dc8 pm8 an8 cd8 ct8,sl8⟩)
  (c_8:PySem.W.codeIn K cd8 "read_saying" = true)
  (k8:PySem.W.keepIn K (.ref f8)=true)
  (a9:PySem.W.nsIn K mainGlobals "read_own" = some (some<|.ref f9))
  (l9:K.lookup f9=some ⟨oc9,od9,.func<|PySem.W.fnOf "read_own" "read_own" (Be QB) (A9 QB) (Ai QB) .none kV9 dc9 pm9 an9 cd9 ct9,sl9⟩)
  (c_9:PySem.W.codeIn K cd9 "read_own" = true)
  (k9:PySem.W.keepIn K (.ref f9)=true)
  (a10:PySem.W.nsIn K mainGlobals "read_arrows" = some (some<|.ref H))
  (l10:K.lookup H=some ⟨zew,zbj,.func<|PySem.W.fnOf "read_arrows" "read_arrows" (Be QC) (A9 QC) (Ai QC) .none zce zae zaq zdv vy zac,zbk⟩)
  (c_10:PySem.W.codeIn K vy "read_arrows" = true)
  (k10:PySem.W.keepIn K (.ref H)=true)
  (a11:PySem.W.nsIn K mainGlobals "read_arrow" = some (some<|.ref x))
  (l11:K.lookup x=some ⟨zb6,zb0,.func<|PySem.W.fnOf "read_arrow" "read_arrow" (Be QD) (A9 QD) (Ai QD) .none zbn zdq zcm zcf xu zao,zbm⟩)
  (c_11:PySem.W.codeIn K xu "read_arrow" = true)
  (k11:PySem.W.keepIn K (.ref x)=true)
  (a12:PySem.W.nsIn K mainGlobals "read_ends" = some (some<|.ref T))
  (l12:K.lookup T=some ⟨zax,zaz,.func<|PySem.W.fnOf "read_ends" "read_ends" (Be QE) (A9 QE) (Ai QE) .none zaw zeo zca zag ug zbs,zci⟩)
  (c_12:PySem.W.codeIn K ug "read_ends" = true)
  (k12:PySem.W.keepIn K (.ref T)=true)
  (a13:PySem.W.nsIn K mainGlobals "read_stands" = some (some<|.ref F))
  (l13:K.lookup F=some ⟨zad,zey,.func<|PySem.W.fnOf "read_stands" "read_stands" (Be JM) (A9 JM) (Ai JM) .none ze7 zba zfb zbp vw zc7,zcp⟩)
  (c_13:PySem.W.codeIn K vw "read_stands" = true)
  (k13:PySem.W.keepIn K (.ref F)=true)
  (a14:PySem.W.nsIn K mainGlobals "_law_draw" = some (some<|.ref y))
  (l14:K.lookup y=some ⟨zdo,zan,.func<|PySem.W.fnOf "_law_draw" "_law_draw" (Be QF) (A9 QF) (Ai QF) .none zcu zb5 zbd zbz vt zec,zbr⟩)
  (c_14:PySem.W.codeIn K vt "_law_draw" = true)
  (k14:PySem.W.keepIn K (.ref y)=true)
  (a15:PySem.W.nsIn K mainGlobals "_law_names" = some (some<|.ref B))
  (l15:K.lookup B=some ⟨zcr,ze4,.func<|PySem.W.fnOf "_law_names" "_law_names" (Be JN) (A9 JN) (Ai JN) .none za8 zcl zaa zdl wk zav,zbw⟩)
  (c_15:PySem.W.codeIn K wk "_law_names" = true)
  (k15:PySem.W.keepIn K (.ref B)=true)
  (a16:PySem.W.nsIn K mainGlobals "_law_game" = some (some<|.ref Y))
  (l16:K.lookup Y=some ⟨zd2,zd0,.func<|PySem.W.fnOf "_law_game" "_law_game" (Be CL) (A9 CL) (Ai CL) .none zei zb7 zb2 zc0 yq zdy,zdf⟩)
  (c_16:PySem.W.codeIn K yq "_law_game" = true)
  (k16:PySem.W.keepIn K (.ref Y)=true)
  (a17:PySem.W.nsIn K mainGlobals "_law_some" = some (some<|.ref S))
  (l17:K.lookup S=some ⟨zdt,zdx,.func<|PySem.W.fnOf "_law_some" "_law_some" (Be OE) (A9 OE) (Ai OE) .none zd7 zfa zfc zcc yh zev,zc3⟩)
  (c_17:PySem.W.codeIn K yh "_law_some" = true)
  (k17:PySem.W.keepIn K (.ref S)=true)
  (a18:PySem.W.nsIn K mainGlobals "_law_saying" = some (some<|.ref C))
  (l18:K.lookup C=some ⟨zbv,zef,.func<|PySem.W.fnOf "_law_saying" "_law_saying" (Be QG) (A9 QG) (Ai QG) .none zem zc8 za5 za2 xo zat,zb3⟩)
  (c_18:PySem.W.codeIn K xo "_law_saying" = true)
  (k18:PySem.W.keepIn K (.ref C)=true)
  (a19:PySem.W.nsIn K mainGlobals "_law_stand" = some (some<|.ref Q))
  (l19:K.lookup Q=some ⟨zfd,zez,.func<|PySem.W.fnOf "_law_stand" "_law_stand" (Be QH) (A9 QH) (Ai QH) .none zdh zdj zea zby ux zde,zaj⟩)
  (c_19:PySem.W.codeIn K ux "_law_stand" = true)
  (k19:PySem.W.keepIn K (.ref Q)=true)
  (a20:PySem.W.nsIn K mainGlobals "_law_rows" = some (some<|.ref R))
  (l20:K.lookup R=some ⟨zbe,zcz,.func<|PySem.W.fnOf "_law_rows" "_law_rows" (Be JO) (A9 JO) (Ai JO) .none zdw zbo zcd zdr vo zas,ze3⟩)
  (c_20:PySem.W.codeIn K vo "_law_rows" = true)
  (k20:PySem.W.keepIn K (.ref R)=true)
  (a21:PySem.W.nsIn K mainGlobals "_law_stands" = some (some<|.ref O))
  (l21:K.lookup O=some ⟨zam,zex,.func<|PySem.W.fnOf "_law_stands" "_law_stands" (Be JP) (A9 JP) (Ai JP) .none zej zcj zdz zdd xm zd6,zay⟩)
  (c_21:PySem.W.codeIn K xm "_law_stands" = true)
  (k21:PySem.W.keepIn K (.ref O)=true)
  (a22:PySem.W.nsIn K mainGlobals "_law_arrow" = some (some<|.ref U))
  (l22:K.lookup U=some ⟨zbi,zbf,.func<|PySem.W.fnOf "_law_arrow" "_law_arrow" (Be QI) (A9 QI) (Ai QI) .none za7 zeg zcy zd4 zc ze8,za6⟩)
  (c_22:PySem.W.codeIn K zc "_law_arrow" = true)
  (k22:PySem.W.keepIn K (.ref U)=true)
  (a23:PySem.W.nsIn K mainGlobals "_law_first_wrong" = some (some<|.ref f23))
  (l23:K.lookup f23=some ⟨ze5,zai,.func<|PySem.W.fnOf "_law_first_wrong" "_law_first_wrong" (Be QJ) (A9 QJ) (Ai QJ) .none ze0 zd3 zcg zcn w6 zeb,zcq⟩)
  (c_23:PySem.W.codeIn K w6 "_law_first_wrong" = true)
  (k23:PySem.W.keepIn K (.ref f23)=true)
  (a24:PySem.W.nsIn K mainGlobals "_law_bad_row" = some (some<|.ref M))
  (l24:K.lookup M=some ⟨zc5,zds,.func<|PySem.W.fnOf "_law_bad_row" "_law_bad_row" (Be QK) (A9 QK) (Ai QK) .none zb9 zen zek zau uj za9,zcv⟩)
  (c_24:PySem.W.codeIn K uj "_law_bad_row" = true)
  (k24:PySem.W.keepIn K (.ref M)=true)
  (a25:PySem.W.nsIn K mainGlobals "_law_word" = some (some<|.ref J))
  (l25:K.lookup J=some ⟨za3,zah,.func<|PySem.W.fnOf "_law_word" "_law_word" (Be OF) (A9 OF) (Ai OF) .none za4 zdu ze2 zch yt zdb,zee⟩)
  (c_25:PySem.W.codeIn K yt "_law_word" = true)
  (k25:PySem.W.keepIn K (.ref J)=true)
  (a26:PySem.W.nsIn K mainGlobals "_law_sign" = some (some<|.ref A))
  (l26:K.lookup A=some ⟨zbt,zab,.func<|PySem.W.fnOf "_law_sign" "_law_sign" (Be QL) (A9 QL) (Ai QL) .none zeh zck zcw zcs xp zeq,zcx⟩)
  (c_26:PySem.W.codeIn K xp "_law_sign" = true)
  (k26:PySem.W.keepIn K (.ref A)=true)
  (a27:PySem.W.nsIn K mainGlobals "_law_otherwise" = some (some<|.ref f27))
  (l27:K.lookup f27=some ⟨zes,zep,.func<|PySem.W.fnOf "_law_otherwise" "_law_otherwise" (Be OG) (A9 OG) (Ai OG) .none ze6 zeu zak zb4 uk zdc,zdm⟩)
  (c_27:PySem.W.codeIn K uk "_law_otherwise" = true)
  (k27:PySem.W.keepIn K (.ref f27)=true)
  (a28:PySem.W.nsIn K mainGlobals "_law_told" = some (some<|.ref z))
  (l28:K.lookup z=some ⟨zc4,zdi,.func<|PySem.W.fnOf "_law_told" "_law_told" (Be QM) (A9 QM) (Ai QM) .none zco zar za1 zd5 ye zbx,zdg⟩)
  (c_28:PySem.W.codeIn K ye "_law_told" = true)
  (k28:PySem.W.keepIn K (.ref z)=true)
  (a29:PySem.W.nsIn K mainGlobals "_law_right" = some (some<|.ref N))
  (l29:K.lookup N=some ⟨zdk,zed,.func<|PySem.W.fnOf "_law_right" "_law_right" (Be QN) (A9 QN) (Ai QN) .none zbl zbh zc6 ze9 uu zbb,zbq⟩)
  (c_29:PySem.W.codeIn K uu "_law_right" = true)
  (k29:PySem.W.keepIn K (.ref N)=true)
  (a30:PySem.W.nsIn K mainGlobals "law" = some (some<|.ref f30))
  (l30:K.lookup f30=some ⟨zaf,zet,.func<|PySem.W.fnOf "law" "law" (Be Mv) (A9 Mv) (Ai Mv) .none we yr uv xl qq v5,zal⟩)
  (c_30:PySem.W.codeIn K qq "law" = true)
  (k30:PySem.W.keepIn K (.ref f30)=true)
  (u_c0:PySem.W.nsIn K mainGlobals "NoText" = some (some<|.ref c0))
  (u_c1:PySem.W.nsIn K mainGlobals "NoGame" = some (some<|.ref c1))
  (u_c2:PySem.W.nsIn K mainGlobals "NoSaying" = some (some<|.ref c2))
  (u_c3:PySem.W.nsIn K mainGlobals "TooMany" = some (some<|.ref c3))
  (u_c4:PySem.W.nsIn K mainGlobals "NoPaper" = some (some<|.ref c4))
  (u_c5:PySem.W.nsIn K mainGlobals "NoFit" = some (some<|.ref c5))
  (u_c6:PySem.W.nsIn K mainGlobals "NoProgram" = some (some<|.ref c6))
  (u_c7:PySem.W.nsIn K mainGlobals "NoRow" = some (some<|.ref c7))
  (u_D:PySem.W.nsIn K mainGlobals "DuelError" = some (some<|.ref D))
  (e_c0:AF K c0 D [c2,c1,c3,c4,c5,c6,c7]=true)
  (i_c0:PySem.W.findIn K (.ref c0) "__init__" = some (some<|.ref z9))
  (n_c0:PySem.W.isFn K (.ref z9)=true)
  (l_c0:K.lookup z9=some ⟨zc2,zd8,.func<|PySem.W.fnOf "__init__" "NoText.__init__" (Be Xs) (A9 Xs) (Ai Xs) .none za0 zap zda zbc zb zel,zdp⟩)
  (c_c0:PySem.W.codeIn K zb "NoText.__init__" = true)
  (k_c0:PySem.W.keepIn K (.ref z9)=true)
  (f:PySem.W.findIn K (.ref c0) "row" = some none)
  (j:PySem.W.nsIn K mainGlobals "enumerate" = some none)
  (i:PySem.W.nsIn K mainGlobals "isinstance" = some none)
  (r:PySem.W.nsIn K mainGlobals "bool" = some none)
  (z_len:PySem.W.nsIn K mainGlobals "len" = some none)
  (z_all:PySem.W.nsIn K mainGlobals "all" = some none) (I:PySem.W.nsIn K mainGlobals "zip" = some none) (V:PySem.W.nsIn K mainGlobals "str" = some none)
  (p:PySem.W.nsIn K mainGlobals "range" = some none)
  (o:PySem.W.nsIn K mainGlobals "tuple" = some none) (E:PySem.W.nsIn K mainGlobals "min" = some none)
  (t:PySem.W.nsIn K mainGlobals "list" = some none)
  (m:PySem.W.nsIn K mainGlobals "sorted" = some none) (Z:PySem.W.nsIn K mainGlobals "set" = some none) (L:PySem.W.nsIn K mainGlobals "int" = some none)
  (g:PySem.W.nsIn K mainGlobals "ValueError" = some none)
  (y1:PySem.W.nsIn K mainGlobals "MOST_OWN" = some (some<|.int 2 t1))
  (y2:PySem.W.nsIn K mainGlobals "MOST_ARROWS" = some (some<|.int 8 t2)) :
  ∃fd:kW,(∀(s:kK) (v:kJ),BindsTo s fd ⟨[v],[]⟩ [("_law_script",v)])/\∀base:kS,K.In base->base.Ns mainGlobals mg->FnOk l.prog w K mg base Ez 65 fa fd qL (V4 K):=by
 have e:=hfa.symm.trans<|aC X G a30;cases e;have F1:=Bq (st:=PV) l1 c_1 k1;have F2:=Bq (st:=PY) l2 c_2 k2;have F3:=Bq (st:=PZ) l3 c_3 k3;have F4:=Bq (st:=QA) l4 c_4 k4;have F5:=Bq (st:=JK) l5 c_5 k5;have F6:=Bq (st:=GZ) l6 c_6 k6;have F7:=Bq (st:=JL) l7 c_7 k7;have F8:=Bq (st:=OD) l8 c_8 k8;have F9:=Bq (st:=QB) l9 c_9 k9;have F10:=Bq (st:=QC) l10 c_10 k10;have F11:=Bq (st:=QD) l11 c_11 k11;have F12:=Bq (st:=QE) l12 c_12 k12;have F13:=Bq (st:=JM) l13 c_13 k13;have F14:=Bq (st:=QF) l14 c_14 k14;have F15:=Bq (st:=JN) l15 c_15 k15;have F16:=Bq (st:=CL) l16 c_16 k16;have F17:=Bq (st:=OE) l17 c_17 k17;have F18:=Bq (st:=QG) l18 c_18 k18;have F19:=Bq (st:=QH) l19 c_19 k19;have F20:=Bq (st:=JO) l20 c_20 k20;have F21:=Bq (st:=JP) l21 c_21 k21;have F22:=Bq (st:=QI) l22 c_22 k22;have F23:=Bq (st:=QJ) l23 c_23 k23;have F24:=Bq (st:=QK) l24 c_24 k24;have F25:=Bq (st:=OF) l25 c_25 k25;have F26:=Bq (st:=QL) l26 c_26 k26;have F27:=Bq (st:=OG) l27 c_27 k27;have F28:=Bq (st:=QM) l28 c_28 k28;have F29:=Bq (st:=QN) l29 c_29 k29;have F30:=Bq (st:=Mv) l30 c_30 k30;have Fc0:=Bq (st:=Xs) l_c0 c_c0 k_c0;have b1:=F1.binds (ps:=oZ) λ_ _ _ _ _ _ c a=>by obtain⟨b,rfl⟩:=V6 a;rfl
 have b2:=F2.binds (ps:=oQ) λ_ _ _ _ _ _ c a=>by obtain⟨b,d,rfl⟩:=Dg a;rfl
 have b3:=F3.binds (ps:=qE) λ_ _ _ _ _ _ c a=>by obtain⟨b,d,a2,a3,rfl⟩:=JZ a;rfl
 have b4:=F4.binds (ps:=qA) λ_ _ _ _ _ _ c a=>by obtain⟨b,d,a2,rfl⟩:=Ig a;rfl
 have b5:=F5.binds (ps:=oR) λ_ _ _ _ _ _ c a=>by obtain⟨b,d,a2,rfl⟩:=Ig a;rfl
 have b6:=F6.binds (ps:=qD) λ_ _ _ _ _ _ c a=>by obtain⟨b,d,rfl⟩:=Dg a;rfl
 have b7:=F7.binds (ps:=oO) λ_ _ _ _ _ _ c a=>by obtain⟨b,d,rfl⟩:=Dg a;rfl
 have b8:=F8.binds (ps:=qI) λ_ _ _ _ _ _ c a=>by obtain⟨b,d,rfl⟩:=Dg a;rfl
 have b9:=F9.binds (ps:=oP) λ_ _ _ _ _ _ c a=>by obtain⟨b,rfl⟩:=V6 a;rfl
 have b10:=F10.binds (ps:=qH) λ_ _ _ _ _ _ c a=>by obtain⟨b,d,a2,rfl⟩:=Ig a;rfl
 have b11:=F11.binds (ps:=qF) λ_ _ _ _ _ _ c a=>by obtain⟨b,d,a2,rfl⟩:=Ig a;rfl
 have b12:=F12.binds (ps:=qG) λ_ _ _ _ _ _ c a=>by obtain⟨b,d,a2,rfl⟩:=Ig a;rfl
 have b13:=F13.binds (ps:=oS) λ_ _ _ _ _ _ c a=>by obtain⟨b,d,rfl⟩:=Dg a;rfl
 have b14:=F14.binds (ps:=oK) λ_ _ _ _ _ _ c a=>by obtain⟨b,d,rfl⟩:=Dg a;rfl
 have b15:=F15.binds (ps:=oK) λ_ _ _ _ _ _ c a=>by obtain⟨b,d,rfl⟩:=Dg a;rfl
 have b16:=F16.binds (ps:=oU) λ_ _ _ _ _ _ c a=>by obtain⟨b,d,rfl⟩:=Dg a;rfl
 have b17:=F17.binds (ps:=oV) λ_ _ _ _ _ _ c a=>by obtain⟨b,d,rfl⟩:=Dg a;rfl
 have b18:=F18.binds (ps:=oW) λ_ _ _ _ _ _ c a=>by obtain⟨b,d,a2,rfl⟩:=Ig a;rfl
 have b19:=F19.binds (ps:=oX) λ_ _ _ _ _ _ c a=>by obtain⟨b,d,rfl⟩:=Dg a;rfl
 have b20:=F20.binds (ps:=oY) λ_ _ _ _ _ _ c a=>by obtain⟨b,d,rfl⟩:=Dg a;rfl
 have b21:=F21.binds (ps:=qB) λ_ _ _ _ _ _ c a=>by obtain⟨b,d,a2,rfl⟩:=Ig a;rfl
 have b22:=F22.binds (ps:=qJ) λ_ _ _ _ _ _ c a=>by obtain⟨b,d,a2,a3,rfl⟩:=JZ a;rfl
 have b23:=F23.binds (ps:=oM) λ_ _ _ _ _ _ c a=>by obtain⟨b,d,rfl⟩:=Dg a;rfl
 have b24:=F24.binds (ps:=oN) λ_ _ _ _ _ _ c a=>by obtain⟨b,d,rfl⟩:=Dg a;rfl
 have b25:=F25.binds (ps:=oN) λ_ _ _ _ _ _ c a=>by obtain⟨b,d,rfl⟩:=Dg a;rfl
 have b26:=F26.binds (ps:=qK) λ_ _ _ _ _ _ c a=>by obtain⟨b,rfl⟩:=V6 a;rfl
 have b27:=F27.binds (ps:=qC) λ_ _ _ _ _ _ c a=>by obtain⟨b,d,a2,rfl⟩:=Ig a;rfl
 have b28:=F28.binds (ps:=oM) λ_ _ _ _ _ _ c a=>by obtain⟨b,d,rfl⟩:=Dg a;rfl
 have b29:=F29.binds (ps:=oM) λ_ _ _ _ _ _ c a=>by obtain⟨b,d,rfl⟩:=Dg a;rfl
 have bc0:=Fc0.binds (ps:=qM) λ_ _ _ _ _ _ c a=>by obtain⟨b,d,rfl⟩:=Dg a;rfl
 have ba:=bE X G j;have ao:=bE X G i;have dg:=bE X G r;have k:=bE X G z_len;have fc:=bE X G z_all;have md:=bE X G I;have bh:=bE X G V;have u:=bE X G p;have al:=bE X G o;have fy:=bE X G E;have az:=bE X G t;have be:=bE X G m;have cy:=bE X G Z;have fg:=bE X G L;have bw:=bE X G g;have zh:=aC X G u_c0;have mc1:=aC X G u_c1;have mc2:=aC X G u_c2;have mc3:=aC X G u_c3;have mc4:=aC X G u_c4;have mc5:=aC X G u_c5;have mc6:=aC X G u_c6;have mc7:=aC X G u_c7;have mD:=aC X G u_D;have ij:=NI e_c0;have mMO:=aC X G y1;have mMA:=aC X G y2;refine⟨PySem.W.fnOf "law" "law" (Be Mv) (A9 Mv) (Ai Mv) .none we yr uv xl qq v5,λs v=>.of_eq rfl,λbase _ _=>?_⟩;have zc1:XCal l.prog w K mg base 9 "NoText" c0 ["row"]:=⟨_,_,_,(OH (P:=l.prog) (w:=w) (mg:=mg) (base:=base) (n:=0) Fc0 ij.xi.toXCls f).mono<|by decide,bc0,⟨ij.xc,i_c0,n_c0,ij.kp⟩,zh,ij.xi.toXCls.mb⟩;have g1:=VP (P:=l.prog) (w:=w) (mg:=mg) (base:=base) (n:=0) F1 ba;have q1:VCal l.prog w K mg base 1 "numbers_by_name" oZ _:=⟨_,_,g1,b1,k1,aC X G d⟩;have g2:=VM (P:=l.prog) (w:=w) (mg:=mg) (base:=base) (n:=0) F2 ao dg;have q2:VCal l.prog w K mg base 1 "is_there" oQ _:=⟨_,_,g2,b2,k2,aC X G a2⟩;have g5:=VR (P:=l.prog) (w:=w) (mg:=mg) (base:=base) (n:=1) F5 (q2.mono<|by decide) fc md;have q5:VCal l.prog w K mg base 2 "is_rising" oR _:=⟨_,_,g5,b5,k5,aC X G a5⟩;have g3:=VY (P:=l.prog) (w:=w) (mg:=mg) (base:=base) (n:=2) F3 (q5.mono<|by decide) (q2.mono<|by decide) k;have q3:VCal l.prog w K mg base 3 "may_stand_behind" qE _:=⟨_,_,g3,b3,k3,aC X G a3⟩;have g4:=VV (P:=l.prog) (w:=w) (mg:=mg) (base:=base) (n:=2) F4 (q5.mono<|by decide) k;have q4:VCal l.prog w K mg base 3 "are_ends" qA _:=⟨_,_,g4,b4,k4,aC X G a4⟩;have g7:=UV (P:=l.prog) (w:=w) (mg:=mg) (base:=base) (n:=0) F7 u bh;have q7:VCal l.prog w K mg base 1 "stand_words" oO _:=⟨_,_,g7,b7,k7,aC X G a7⟩;have g6:=VF (P:=l.prog) (w:=w) (mg:=mg) (base:=base) (n:=1) F6 (q7.mono<|by decide) bh;have q6:VCal l.prog w K mg base 2 "show_saying" qD _:=⟨_,_,g6,b6,k6,aC X G a6⟩;have g13:=WG (P:=l.prog) (w:=w) (mg:=mg) (base:=base) (n:=0) F13 fc al;have q13:VCal l.prog w K mg base 1 "read_stands" oS _:=⟨_,_,g13,b13,k13,aC X G a13⟩;have g11:=WJ (P:=l.prog) (w:=w) (mg:=mg) (base:=base) (n:=1) F11 (q13.mono<|by decide) k;have q11:VCal l.prog w K mg base 2 "read_arrow" qF _:=⟨_,_,g11,b11,k11,aC X G a11⟩;have g10:=WO (P:=l.prog) (w:=w) (mg:=mg) (base:=base) (n:=3) F10 (q3.mono<|by decide) (q1.mono<|by decide) (q11.mono<|by decide) (q7.mono<|by decide) mMA;have q10:VCal l.prog w K mg base 4 "read_arrows" qH _:=⟨_,_,g10,b10,k10,aC X G a10⟩;have g12:=WM (P:=l.prog) (w:=w) (mg:=mg) (base:=base) (n:=3) F12 (q4.mono<|by decide) (q1.mono<|by decide) (q13.mono<|by decide) (q7.mono<|by decide);have q12:VCal l.prog w K mg base 4 "read_ends" qG _:=⟨_,_,g12,b12,k12,aC X G a12⟩;have g9:=WD (P:=l.prog) (w:=w) (mg:=mg) (base:=base) (n:=0) F9 u bh mMO;have q9:VCal l.prog w K mg base 1 "read_own" oP _:=⟨_,_,g9,b9,k9,aC X G a9⟩;have g8:=WR (P:=l.prog) (w:=w) (mg:=mg) (base:=base) (n:=9) F8 (q10.mono<|by decide) (q12.mono<|by decide) (q9.mono<|by decide) k al zc1;have q8:Ni l.prog w K mg base 11 "read_saying" qI _:=⟨_,_,g8,b8,k8,aC X G a8⟩;have g14:=UE (P:=l.prog) (w:=w) (mg:=mg) (base:=base) (n:=0) F14 k;have q:VCal l.prog w K mg base 1 "_law_draw" oK _:=⟨_,_,g14,b14,k14,aC X G a14⟩;have g15:=UJ (P:=l.prog) (w:=w) (mg:=mg) (base:=base) (n:=1) F15 (q.mono<|by decide) u k;have q15:VCal l.prog w K mg base 2 "_law_names" oK _:=⟨_,_,g15,b15,k15,aC X G a15⟩;have g16:=UP (P:=l.prog) (w:=w) (mg:=mg) (base:=base) (n:=2) F16 (q.mono<|by decide) (q15.mono<|by decide) al u k fy;have q16:VCal l.prog w K mg base 3 "_law_game" oU _:=⟨_,_,g16,b16,k16,aC X G a16⟩;have g17:=US (P:=l.prog) (w:=w) (mg:=mg) (base:=base) (n:=1) F17 (q.mono<|by decide) al;have q17:VCal l.prog w K mg base 2 "_law_some" oV _:=⟨_,_,g17,b17,k17,aC X G a17⟩;have g18:=UT (P:=l.prog) (w:=w) (mg:=mg) (base:=base) (n:=2) F18 (q.mono<|by decide) (q17.mono<|by decide) k u az al be cy;have q18:VCal l.prog w K mg base 3 "_law_saying" oW _:=⟨_,_,g18,b18,k18,aC X G a18⟩;have g19:=UX (P:=l.prog) (w:=w) (mg:=mg) (base:=base) (n:=0) F19 k bh;have q19:VCal l.prog w K mg base 1 "_law_stand" oX _:=⟨_,_,g19,b19,k19,aC X G a19⟩;have g20:=VL (P:=l.prog) (w:=w) (mg:=mg) (base:=base) (n:=1) F20 (q19.mono<|by decide) bh;have q20:VCal l.prog w K mg base 2 "_law_rows" oY _:=⟨_,_,g20,b20,k20,aC X G a20⟩;have g21:=WV (P:=l.prog) (w:=w) (mg:=mg) (base:=base) (n:=0) F21 ba u bh k;have q21:VCal l.prog w K mg base 1 "_law_stands" qB _:=⟨_,_,g21,b21,k21,aC X G a21⟩;have g22:=WY (P:=l.prog) (w:=w) (mg:=mg) (base:=base) (n:=1) F22 (q21.mono<|by decide) k fy al be cy;have q22:VCal l.prog w K mg base 2 "_law_arrow" qJ _:=⟨_,_,g22,b22,k22,aC X G a22⟩;have g23:=XB (P:=l.prog) (w:=w) (mg:=mg) (base:=base) (n:=2) F23 (q22.mono<|by decide) (q21.mono<|by decide) fg u k be cy;have q23:VCal l.prog w K mg base 3 "_law_first_wrong" oM _:=⟨_,_,g23,b23,k23,aC X G a23⟩;have g24:=XE (P:=l.prog) (w:=w) (mg:=mg) (base:=base) (n:=1) F24 (q.mono<|by decide) k;have q24:VCal l.prog w K mg base 2 "_law_bad_row" oN _:=⟨_,_,g24,b24,k24,aC X G a24⟩;have g25:=XH (P:=l.prog) (w:=w) (mg:=mg) (base:=base) (n:=1) F25 (q.mono<|by decide) az k;have q25:VCal l.prog w K mg base 2 "_law_word" oN _:=⟨_,_,g25,b25,k25,aC X G a25⟩;have g26:=XJ (P:=l.prog) (w:=w) (mg:=mg) (base:=base) (n:=1) F26 (q.mono<|by decide) k;have q26:VCal l.prog w K mg base 2 "_law_sign" qK _:=⟨_,_,g26,b26,k26,aC X G a26⟩;have g27:=XM (P:=l.prog) (w:=w) (mg:=mg) (base:=base) (n:=2) F27 (q24.mono<|by decide) (q.mono<|by decide) (q26.mono<|by decide) (q25.mono<|by decide) k fg az;have q27:VCal l.prog w K mg base 3 "_law_otherwise" qC _:=⟨_,_,g27,b27,k27,aC X G a27⟩;have g28:=XQ (P:=l.prog) (w:=w) (mg:=mg) (base:=base) (n:=11) F28 (q8.mono<|by decide) (q6.mono<|by decide) ao bw dg zh mc1 mc2 mc3 mc4 mc5 mc6 mc7 mD ij f;have q28:VCal l.prog w K mg base 12 "_law_told" oM _:=⟨_,_,g28,b28,k28,aC X G a28⟩;have g29:=XT (P:=l.prog) (w:=w) (mg:=mg) (base:=base) (n:=12) F29 (q23.mono<|by decide) (q28.mono<|by decide);have q29:VCal l.prog w K mg base 13 "_law_right" oM _:=⟨_,_,g29,b29,k29,aC X G a29⟩;have g30:=PN (P:=l.prog) (w:=w) (mg:=mg) (base:=base) (n:=13) F30 (q16.mono<|by decide) (q20.mono<|by decide) (q18.mono<|by decide) (q28.mono<|by decide) (q.mono<|by decide) (q27.mono<|by decide) (q29.mono<|by decide) az u;exact g30.mono<|by decide
def walk{l:PySem.W.OpenLaw}{q:kO}{m:oA Str}{o:(Str->oB kJ)->kS->Prop}{d:DefRec}{K:Params->kN}{e:oA kM}{i t:Nat}(r:l.most=some 63)(D:d.params.defaults=[])
  (v:∀P,e=(K P).map (·.1)) (j:0<t) (F:∀(w:kP) (mg:Str->oB kJ) (c:kM) (h:kS),(K w.params).In h->h.Ns mainGlobals mg->mg d.name=some (.ref c) ->
   ∃g:kW,(∀(s:kK) (u:kJ),BindsTo s g ⟨[u],[]⟩ [("_law_script",u)])/\∀b:kS,(K w.params).In b->b.Ns mainGlobals mg->FnOk l.prog w (K w.params) mg b Ez 65 c g qL (V4<|K w.params)) :
  PySem.W.WalkX q m o (PySem.W.X.obsZ e) (PySem.W.X.valZ K i t) l.row.toRowW d [] (λf C=>PySem.call f C) :=
 L2.walk_of (n:=63) (k:=65) (x := "_law_script") (CX:=λ_=>Ez) (sp:=λw=>V4<|K w.params) r (by decide) D ⟨rfl,by decide,by decide,rfl⟩ v j F (λ_ _ a B y p A=>⟨a,B,rfl,A,p,y,λ_=>rfl⟩) λ_ _ _ _ _ z=>z
end K20
namespace PySem.W.Fast
def tw6345625251164920553:True:=trivial
def tw4196353872862531473:True:=trivial
def tw96525810475430578:True:=trivial
def tw2099682685883115031:True:=trivial
def tw1342430148607312004:True:=trivial
def tw2610455410298542227:True:=trivial
def tw16934284771268741874:True:=trivial
def tw17126228452346981613:True:=trivial
def tw1782099432239180826:True:=trivial
def tw3654313497696220378:True:=trivial
def tw13814697290595633261:True:=trivial
def tw2581198465067883250:True:=trivial
def tw3532073037111963618:True:=trivial
def tw2064442940017497139:True:=trivial
def tw16975846915544103941:True:=trivial
def tw1700209745287592997:True:=trivial
def tw7492155806724542512:True:=trivial
def tw14849350183643571930:True:=trivial
def tw5528487218096064426:True:=trivial
def tw12455595683704352706:True:=trivial
def tw11742070961540009006:True:=trivial
def tw16131389211160151189:True:=trivial
def tw14682899817072266204:True:=trivial
def tw10240845897156638547:True:=trivial
def tw9768175645096716389:True:=trivial
def tw1947900216042509314:True:=trivial
def tw6175173121831951535:True:=trivial
def tw12938211473838848093:True:=trivial
def tw4996427447963766792:True:=trivial
def tw16177984172709483877:True:=trivial
def tw17664707633033816276:True:=trivial
def tw8241417955065583409:True:=trivial
def tw12510424600072530196:True:=trivial
def tw18171759323861887179:True:=trivial
def tw10065370123584072950:True:=trivial
def tw1206872965738839267:True:=trivial
def tw15763585143019449727:True:=trivial
def tw15925266317483869776:True:=trivial
def tw16449245362996447143:True:=trivial
def tw13368311091676822673:True:=trivial
def tw8403550542028291814:True:=trivial
def tw4793029473908882920:True:=trivial
def tw14979647112260051972:True:=trivial
def tw14631716228479906627:True:=trivial
def tw486173117700238751:True:=trivial
def tw942228902368969594:True:=trivial
def tw484888562250259919:True:=trivial
def tw3763740756225619195:True:=trivial
def tw14542125811118420705:True:=trivial
def tw16733153905672509700:True:=trivial
def tw16388249873918023532:True:=trivial
def tw9728569314807344104:True:=trivial
def tw6691873541048586175:True:=trivial
def tw17006329290767620875:True:=trivial
def tw14215441579068199844:True:=trivial
def tw9316626066549523252:True:=trivial
def tw15851269066986391603:True:=trivial
def tw5017111006608144414:True:=trivial
def tw5750287013116041644:True:=trivial
def tw18381274647050237373:True:=trivial
def tw4436763533026087742:True:=trivial
def tw17257278010340287829:True:=trivial
def tw553297877701104949:True:=trivial
def tw9111998299833088659:True:=trivial
def tw2692118925406330031:True:=trivial
def tw13560241163938118059:True:=trivial
def tw14321653376375145798:True:=trivial
def tw2781914588254033865:True:=trivial
def tw347426049862946477:True:=trivial
def tw9642813578509603439:True:=trivial
def tw7551990946146738983:True:=trivial
def tw8591054859246148618:True:=trivial
def tw18269881726517658510:True:=trivial
def tw9317612892877163179:True:=trivial
def tw16396231244750213038:True:=trivial
def tw16939678588855188805:True:=trivial
def tw12439305900489595727:True:=trivial
def tw7756358235374321505:True:=trivial
def tw5767019355198741746:True:=trivial
def tw8775293661863723602:True:=trivial
def tw1234256234728405758:True:=trivial
def tw13181981712054789626:True:=trivial
def tw6075247421440371696:True:=trivial
def tw8700290677305054652:True:=trivial
def tw5248824206436365091:True:=trivial
def tw14443164003488846960:True:=trivial
def tw10149787682173091075:True:=trivial
def tw6708139083133159632:True:=trivial
def tw4016871877376173943:True:=trivial
def tw12413882926967330080:True:=trivial
def tw8970376027434543851:True:=trivial
def tw5763739736357507232:True:=trivial
def tw14361459543288315013:True:=trivial
def tw13625597743074641732:True:=trivial
def tw8920638533642079740:True:=trivial
def tw9274378822773718412:True:=trivial
def tw15627514185916974758:True:=trivial
def tw4693803224602240132:True:=trivial
def tw10046560525396416174:True:=trivial
def tw7374103121575943387:True:=trivial
end PySem.W.Fast
open PySem PySem.W PyProof.Rows
set_option maxRecDepth 100000 in
set_option maxHeartbeats 0 in
theorem PySem.Challenge.cw_pileduel_k20_texts_of_no_saying_holds : PySem.Challenge.rw_pileduel_k20_texts_of_no_saying.Holds := by
 w_on;o_law;z_head;(case hw=>w_witness2)
 k_fill
 refine K20.walk (l:=PySem.Challenge.rw_pileduel_k20_texts_of_no_saying) rfl rfl (fun _=>by kernel_rfl) (by decide) ?F
 case F =>
  intro w mg fa h KX G hmg
  refine' K20.all_mk KX G hmg ?a1 ?l1 ?c_1 ?k1 ?a2 ?l2 ?c_2 ?k2 ?a3 ?l3 ?c_3 ?k3 ?a4 ?l4 ?c_4 ?k4 ?a5 ?l5 ?c_5 ?k5 ?a6 ?l6 ?c_6 ?k6 ?a7 ?l7 ?c_7 ?k7 ?a8 ?l8 ?c_8 ?k8 ?a9 ?l9 ?c_9 ?k9 ?a10 ?l10 ?c_10 ?k10 ?a11 ?l11 ?c_11 ?k11 ?a12 ?l12 ?c_12 ?k12 ?a13 ?l13 ?c_13 ?k13 ?a14 ?l14 ?c_14 ?k14 ?a15 ?l15 ?c_15 ?k15 ?a16 ?l16 ?c_16 ?k16 ?a17 ?l17 ?c_17 ?k17 ?a18 ?l18 ?c_18 ?k18 ?a19 ?l19 ?c_19 ?k19 ?a20 ?l20 ?c_20 ?k20 ?a21 ?l21 ?c_21 ?k21 ?a22 ?l22 ?c_22 ?k22 ?a23 ?l23 ?c_23 ?k23 ?a24 ?l24 ?c_24 ?k24 ?a25 ?l25 ?c_25 ?k25 ?a26 ?l26 ?c_26 ?k26 ?a27 ?l27 ?c_27 ?k27 ?a28 ?l28 ?c_28 ?k28 ?a29 ?l29 ?c_29 ?k29 ?a30 ?l30 ?c_30 ?k30 ?u_c0 ?u_c1 ?u_c2 ?u_c3 ?u_c4 ?u_c5 ?u_c6 ?u_c7 ?u_D ?e_c0 ?i_c0 ?n_c0 ?l_c0 ?c_c0 ?k_c0 ?na_c0_row ?z_enumerate ?z_isinstance ?z_bool ?z_len ?z_all ?z_zip ?z_str ?z_range ?z_tuple ?z_min ?z_list ?z_sorted ?z_set ?z_int ?z_ValueError ?y1 ?y2
  (case a1=>k_is)
  (case l1=>k_is)
  (case c_1=>k_is)
  (case k1=>k_is)
  (case a2=>k_is)
  (case l2=>k_is)
  (case c_2=>k_is)
  (case k2=>k_is)
  (case a3=>k_is)
  (case l3=>k_is)
  (case c_3=>k_is)
  (case k3=>k_is)
  (case a4=>k_is)
  (case l4=>k_is)
  (case c_4=>k_is)
  (case k4=>k_is)
  (case a5=>k_is)
  (case l5=>k_is)
  (case c_5=>k_is)
  (case k5=>k_is)
  (case a6=>k_is)
  (case l6=>k_is)
  (case c_6=>k_is)
  (case k6=>k_is)
  (case a7=>k_is)
  (case l7=>k_is)
  (case c_7=>k_is)
  (case k7=>k_is)
  (case a8=>k_is)
  (case l8=>k_is)
  (case c_8=>k_is)
  (case k8=>k_is)
  (case a9=>k_is)
  (case l9=>k_is)
  (case c_9=>k_is)
  (case k9=>k_is)
  (case a10=>k_is)
  (case l10=>k_is)
  (case c_10=>k_is)
  (case k10=>k_is)
  (case a11=>k_is)
  (case l11=>k_is)
  (case c_11=>k_is)
  (case k11=>k_is)
  (case a12=>k_is)
  (case l12=>k_is)
  (case c_12=>k_is)
  (case k12=>k_is)
  (case a13=>k_is)
  (case l13=>k_is)
  (case c_13=>k_is)
  (case k13=>k_is)
  (case a14=>k_is)
  (case l14=>k_is)
  (case c_14=>k_is)
  (case k14=>k_is)
  (case a15=>k_is)
  (case l15=>k_is)
  (case c_15=>k_is)
  (case k15=>k_is)
  (case a16=>k_is)
  (case l16=>k_is)
  (case c_16=>k_is)
  (case k16=>k_is)
  (case a17=>k_is)
  (case l17=>k_is)
  (case c_17=>k_is)
  (case k17=>k_is)
  (case a18=>k_is)
  (case l18=>k_is)
  (case c_18=>k_is)
  (case k18=>k_is)
  (case a19=>k_is)
  (case l19=>k_is)
  (case c_19=>k_is)
  (case k19=>k_is)
  (case a20=>k_is)
  (case l20=>k_is)
  (case c_20=>k_is)
  (case k20=>k_is)
  (case a21=>k_is)
  (case l21=>k_is)
  (case c_21=>k_is)
  (case k21=>k_is)
  (case a22=>k_is)
  (case l22=>k_is)
  (case c_22=>k_is)
  (case k22=>k_is)
  (case a23=>k_is)
  (case l23=>k_is)
  (case c_23=>k_is)
  (case k23=>k_is)
  (case a24=>k_is)
  (case l24=>k_is)
  (case c_24=>k_is)
  (case k24=>k_is)
  (case a25=>k_is)
  (case l25=>k_is)
  (case c_25=>k_is)
  (case k25=>k_is)
  (case a26=>k_is)
  (case l26=>k_is)
  (case c_26=>k_is)
  (case k26=>k_is)
  (case a27=>k_is)
  (case l27=>k_is)
  (case c_27=>k_is)
  (case k27=>k_is)
  (case a28=>k_is)
  (case l28=>k_is)
  (case c_28=>k_is)
  (case k28=>k_is)
  (case a29=>k_is)
  (case l29=>k_is)
  (case c_29=>k_is)
  (case k29=>k_is)
  (case a30=>k_is)
  (case l30=>k_is)
  (case c_30=>k_is)
  (case k30=>k_is)
  (case u_c0=>k_is)
  (case u_c1=>k_is)
  (case u_c2=>k_is)
  (case u_c3=>k_is)
  (case u_c4=>k_is)
  (case u_c5=>k_is)
  (case u_c6=>k_is)
  (case u_c7=>k_is)
  (case u_D=>k_is)
  (case e_c0=>kernel_rfl)
  (case i_c0=>k_is)
  (case n_c0=>k_is)
  (case l_c0=>k_is)
  (case c_c0=>k_is)
  (case k_c0=>k_is)
  (case na_c0_row=>k_is)
  (case z_enumerate=>k_is)
  (case z_isinstance=>k_is)
  (case z_bool=>k_is)
  (case z_len=>k_is)
  (case z_all=>k_is)
  (case z_zip=>k_is)
  (case z_str=>k_is)
  (case z_range=>k_is)
  (case z_tuple=>k_is)
  (case z_min=>k_is)
  (case z_list=>k_is)
  (case z_sorted=>k_is)
  (case z_set=>k_is)
  (case z_int=>k_is)
  (case z_ValueError=>k_is)
  (case y1=>k_is)
  (case y2=>k_is)
