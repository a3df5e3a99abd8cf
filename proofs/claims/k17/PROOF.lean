import PyProof.Rows.All
import Wide.All
import OpenK.AllK
import Wide.FinOn
import Lean
import PyProof.EqAt
import PyProof.EqKinds
import PyProof.TupleCall
import PyProof.CompFree
import PyProof.CompUse
import PyProof.CollectIter
import PyProof.ListNew
import KE.KRevIter
import PyProof.EnumMake
import PyProof.Draws
import PyProof.TupleIter
import PyProof.WalksMore
import PyProof.ReprRoads
import PyProof.P3Eq
import PyProof.NeData
import PyProof.EqLayable
import PyProof.Rows.RegFStrParts
import PyProof.AutoListH
import KE.KItemsList
import KE.KDictList
import PyProof.StrBlockG
import PyProof.StrLawsOcc
import PyProof.StrLawsTight
import PyProof.StrLawsChain
import PyProof.Rows.Range3
import PyProof.MinMaxWalk
import PyProof.WalkInts
import PyProof.ExcClass3
import PyProof.ExcInit
import PyProof.InstStoreFacts
import PyProof.ExcArgsOwn
import KE.KIsAll
import PyProof.RaisesMany
import PyProof.RulesTry
import PyProof.Raises
import PyProof.RulesAs
import PyProof.NsDelKeeps
import PyProof.PassesOwn
import PyProof.Rows.CatchHere
import KE.KSortTup
import PyProof.FactsAll.tuple_2
import PyProof.TupleKey
import PyProof.Rows.RowHeap
import PyProof.SetKind
import PyProof.SetNew
import PyProof.DictIter
import PyProof.CollectWalk
import PyProof.Walks
import PyProof.ZipIter
import KE.KRevSl
import KE.KStateDown
import PyProof.SetRoads
import PyProof.SumWalk
import PyProof.CallStr
import PySem.Challenge.RW_pileduel_k17_sayings_looked_at
set_option Elab.async false
set_option linter.all false
set_option maxRecDepth 100000
abbrev Yaa:=@PySem.wpAny_bind
abbrev Yab:=@PySem.wpAny_pure
abbrev Yac:=@List.length_map
abbrev Yad:=@Bool.false_ne_true
abbrev Yae:=@PySem.Heap.lt_size
abbrev Yaf:=@Nat.le_refl
abbrev Yag:=@List.length_append
abbrev Yah:=@if_neg
abbrev Yai:=@PyProof.Rows.wpS_bind
abbrev Yaj:=@Nat.ne_of_lt
abbrev Yak:=@if_pos
abbrev Yal:=@Array.length_toList
abbrev Yam:=@Nat.lt_of_lt_of_le
abbrev Yan:=@List.size_toArray
abbrev Yao:=@PyProof.Rows.wpS_pure
abbrev Yap:=@List.mem_append
abbrev Yaq:=@PySem.boot_len
abbrev Yar:=@PySem.Calls.spliced_cons
abbrev Yas:=@Nat.le_trans
abbrev Yat:=@List.mem_cons
abbrev Yau:=@decide_eq_false
abbrev Yav:=@PySem.wpAny_Call_Name_kw
abbrev Yaw:=@PySem.W.mg_of
abbrev Yax:=@List.mem_cons_of_mem
abbrev Yay:=@PyProof.Rows.callWith_type1
abbrev Yaz:=@List.mem_cons_self
abbrev Ya0:=@Nat.eq_or_lt_of_le
abbrev Ya1:=@PySem.wpAny_newObj_type
abbrev Ya2:=@List.mem_map
abbrev Ya3:=@Option.some.inj
abbrev Ya4:=@PySem.wpAny_holding
abbrev Ya5:=@PySem.Calls.spliced_nil
abbrev Ya6:=@Nat.zero_le
abbrev Ya7:=@PySem.wpAny_field
abbrev Ya8:=@List.mem_singleton
abbrev Ya9:=@PySem.wpAny_setState_of
abbrev Yba:=@Array.getD_eq_getD_getElem?
abbrev Ybb:=@PySem.wpAny_call_entry
abbrev Ybc:=@List.length_singleton
abbrev Ybd:=@decide_eq_true
abbrev Ybe:=@List.map_append
abbrev Ybf:=@Array.size_reverse
abbrev Ybg:=@PySem.W.mg_none_of
abbrev Ybh:=@of_decide_eq_true
abbrev Ybi:=@List.mem_range
abbrev Ybj:=@List.mem_append_right
abbrev Ybk:=@PySem.wpAny_mono
abbrev Ybl:=@Option.map_eq_some_iff
abbrev Ybm:=@Bool.and_eq_true
abbrev Ybn:=@PySem.Heap.SameBut.update
abbrev Ybo:=@List.map_map
abbrev Ybp:=@List.length_cons
abbrev Ybq:=@PyProof.Rows.callWith_builtin1
abbrev Ybr:=@List.mem_of_getElem?
abbrev Ybs:=@List.length_take
abbrev Ybt:=@List.drop_eq_getElem_cons
abbrev Ybu:=@List.getElem_mem
abbrev Ybv:=@PyProof.Rows.slot_tuple_getitem
abbrev Ybw:=@Bool.not_eq_true'
abbrev Ybx:=@Bool.not_eq_false'
abbrev Yby:=@PyProof.Rows.wpS_forRange
abbrev Ybz:=@PySem.builtinLookup_eq_fast
abbrev Yb0:=@Exists.elim
abbrev Yb1:=@PyProof.Rows.boot_tuple
abbrev Yb2:=@List.all_eq_true
abbrev Yb3:=@PySem.W.kia_one
abbrev Yb4:=@PySem.Heap.size_push
abbrev Yb5:=@PySem.Around.under_plainId
abbrev Yb6:=@List.take_of_length_le
abbrev Yb7:=@PySem.Obj.data_mapFields
abbrev Yb8:=@PySem.wpAny_rule
abbrev Yb9:=@Nat.lt_or_ge
abbrev Yca:=@Array.toList_append
abbrev Ycb:=@PySem.wpAny_seqItems
abbrev Ycc:=@List.map_cons
abbrev Ycd:=@Bool.true_and
abbrev Yce:=@Bool.false_and
abbrev Ycf:=@List.pairwise_iff_getElem
abbrev Ycg:=@PySem.isSubtype_type
abbrev Ych:=@PySem.wpAny_specialOf
abbrev Yci:=@List.eq_nil_of_length_eq_zero
abbrev Ycj:=@PySem.wpAny_isInstance
abbrev Yck:=@PySem.wpAny_truthy_bool
abbrev Ycl:=@PySem.wpAny_setField
abbrev Ycm:=@PySem.codeAny_builtin
abbrev Ycn:=@Array.toList_reverse
abbrev Yco:=@Nat.le_of_lt
abbrev Ycp:=@List.length_drop
abbrev Ycq:=@PyProof.Rows.wpS_mono
abbrev Ycr:=@PySem.wpAny_of_eq
abbrev Ycs:=@List.append_assoc
abbrev Yct:=@List.pairwise_map
abbrev Ycu:=@List.length_range
abbrev Ycv:=@PySem.wpAny_attempt
abbrev Ycw:=@Classical.byContradiction
abbrev Ycx:=@PySem.Obj.isFreed_of_fields
abbrev Ycy:=@PySem.typeLookup_type
abbrev Ycz:=@PySem.wpAny_pyIter_tuple
abbrev Yc0:=@List.pairwise_cons
abbrev Yc1:=@Array.reverse_append
abbrev Yc2:=@List.mem_of_mem_take
abbrev Yc3:=@PySem.plainId_quiet
abbrev Yc4:=@Ne.symm
abbrev Yc5:=@List.append_nil
abbrev Yc6:=@List.pairwise_lt_range
abbrev Yc7:=@PyProof.Rows.wpS_modify
abbrev Yc8:=@PySem.wpAny_forIn_list
abbrev Yc9:=@Nat.lt_irrefl
abbrev Yda:=@of_decide_eq_false
abbrev Ydb:=@List.take_append_drop
abbrev Ydc:=@PySem.wpAny_setField_rec
abbrev Ydd:=@List.mem_append_left
abbrev Yde:=@List.mem_of_mem_drop
abbrev Ydf:=@List.nodup_cons
abbrev Ydg:=@PySem.wpAny_pyIter_list
abbrev Ydh:=@Array.map_extract
abbrev Ydi:=@Nat.not_lt_zero
abbrev Ydj:=@PySem.wpAny_ite_split
abbrev Ydk:=@List.filterMap_cons
abbrev Ydl:=@congrArg
abbrev Ydm:=@PySem.mem_of_lookup
abbrev Ydn:=@Nat.le_succ
abbrev Ydo:=@PySem.wpAny_getItem_str_slice
abbrev Ydp:=@PySem.W.looks_mroIn
abbrev Ydq:=@PySem.Heap.size_update
abbrev Ydr:=@PySem.W.Looks.ld
abbrev Yds:=@List.take_succ
abbrev Ydt:=@Array.size_map
abbrev Ydu:=@PySem.wpAny_tupleItemsOf
abbrev Ydv:=@Nat.ne_of_gt
abbrev Ydw:=@PySem.wpAny_typeOf
abbrev Ydx:=@Array.reverse_reverse
abbrev Ydy:=@PySem.PassesOwn.never
abbrev Ydz:=@Bool.decide_and
abbrev Yd0:=@List.ext_getElem?
abbrev Yd1:=@PySem.W.looks_findIn
abbrev Yd2:=@List.pairwise_append
abbrev Yd3:=@PySem.wpAny_runValue
abbrev Yd4:=@PySem.SeqAt.eqAt_reads
abbrev Yd5:=@PySem.W.any_some
abbrev Yd6:=@Option.bind_some
abbrev Yd7:=@List.drop_length
abbrev Yd8:=@Nat.le_add_right
abbrev Yd9:=@decide_eq_decide
abbrev Yea:=@List.getElem_of_mem
abbrev Yeb:=@List.length_reverse
abbrev Yec:=@PySem.codeAny_mono
abbrev Yed:=@Option.isSome_iff_exists
abbrev Yee:=@PySem.F.args_tuple_add_2
abbrev Yef:=@Array.size_setIfInBounds
abbrev Yeg:=@PyProof.Rows.Reads.keeps
abbrev Yeh:=@PySem.F.slot_list_append
abbrev Yei:=@PySem.F.type_list_append
abbrev Yej:=@Array.append_assoc
abbrev Yek:=@PySem.wpAny_standAt
abbrev Yel:=@PySem.wpAny_passesOwn
abbrev Yem:=@PySem.F.entry_tuple_add
abbrev Yen:=@Bool.eq_iff_iff
abbrev Yeo:=@PySem.wpAny_loadPart'
abbrev Yep:=@List.length_eq_zero_iff
abbrev Yeq:=@Array.size_extract
abbrev Yer:=@Nat.eq_zero_or_pos
abbrev Yes:=@Array.forIn_toList
abbrev Yet:=@decide_eq_true_iff
abbrev Yeu:=@decide_eq_false_iff_not
abbrev Yev:=@PySem.wpAny_pyNext_list_item
abbrev Yew:=@PySem.F.slot_tuple_add
abbrev Yex:=@List.Perm.append_right
abbrev Yey:=@Int.toNat_natCast
abbrev Yez:=@PySem.WalksT.enumerateD
abbrev Ye0:=@PySem.wpAny_pyIter_enum
abbrev Ye1:=@List.reverse_cons
abbrev Ye2:=@Array.toList_push
abbrev Ye3:=@Nat.le_succ_of_le
abbrev Ye4:=@PySem.wpAny_storeSet_of
abbrev Ye5:=@PySem.eqIsQuiet_byValue
abbrev Ye6:=@PySem.wpAny_pyNext_list_end
abbrev Ye7:=@Nat.sub_self
abbrev Ye8:=@PySem.isSubtype_tuple_tuple
abbrev Ye9:=@PyProof.Rows.boot_all
abbrev Yfa:=@List.lookup_cons
abbrev Yfb:=@List.take_length
abbrev Yfc:=@Array.map_append
abbrev Yfd:=@PySem.entryFor_of_tree
abbrev Yfe:=@Array.mem_toList_iff
abbrev Yff:=@PySem.codeAny_call_builtin
abbrev Yfg:=@PySem.wpAny_updateSeq_pair
abbrev Yfh:=@PySem.wpAny_onRaise
abbrev Yfi:=@PySem.wpAny_execs_nil
abbrev Yfj:=@PySem.post_val_or_str
abbrev Yfk:=@PyProof.Rows.boot_isinstance
abbrev Yfl:=@PyProof.Rows.wpS_get
abbrev Yfm:=@PySem.wpAny_updateSeq
abbrev Yfn:=@PySem.wpAny_call
namespace L2
theorem R7{α:Sort _}{a b:α->Prop}{P:Prop}(h:∃x,a x/\b x)(k:∀x,a x->b x->P):P:=Yb0 h λx y=>k x y.1 y.2
theorem Cj{α β:Sort _}{a b c:α->β->Prop}{P:Prop}(h:∃x y,a x y/\b x y/\c x y)(k:∀x y,a x y->b x y->c x y->P):P:=Yb0 h λx h=>Yb0 h λy h=>k x y h.1 h.2.1 h.2.2
theorem B0{α β γ:Sort _}{a b c d:α->β->γ->Prop}{P:Prop}(h:∃x y z,a x y z/\b x y z/\c x y z/\d x y z)(k:∀x y z,a x y z->b x y z->c x y z->d x y z->P):P:=Yb0 h λx h=>Yb0 h λy h=>Yb0 h λz h=>k x y z h.1 h.2.1 h.2.2.1 h.2.2.2
theorem Dt{α β γ δ:Sort _}{a b c d e:α->β->γ->δ->Prop}{P:Prop}(h:∃x y z u,a x y z u/\b x y z u/\c x y z u/\d x y z u/\e x y z u)(k:∀x y z u,a x y z u->b x y z u->c x y z u->d x y z u->e x y z u->P):P:=Yb0 h λx h=>Yb0 h λy h=>Yb0 h λz h=>Yb0 h λu h=>k x y z u h.1 h.2.1 h.2.2.1 h.2.2.2.1 h.2.2.2.2
theorem Ui{α β γ δ:Sort _}{a b c d e f:α->β->γ->δ->Prop}{P:Prop}(h:∃x y z u,a x y z u/\b x y z u/\c x y z u/\d x y z u/\e x y z u/\f x y z u)(k:∀x y z u,a x y z u->b x y z u->c x y z u->d x y z u->e x y z u->f x y z u->P):P:=Yb0 h λx h=>Yb0 h λy h=>Yb0 h λz h=>Yb0 h λu h=>k x y z u h.1 h.2.1 h.2.2.1 h.2.2.2.1 h.2.2.2.2.1 h.2.2.2.2.2
theorem Hk{α β γ δ ε ζ:Sort _}{a b c d:α->β->γ->δ->ε->ζ->Prop}{P:Prop}(h:∃x y z u v w,a x y z u v w/\b x y z u v w/\c x y z u v w/\d x y z u v w)(k:∀x y z u v w,a x y z u v w->b x y z u v w->c x y z u v w->d x y z u v w->P):P:=Yb0 h λx h=>Yb0 h λy h=>Yb0 h λz h=>Yb0 h λu h=>Yb0 h λv h=>Yb0 h λw h=>k x y z u v w h.1 h.2.1 h.2.2.1 h.2.2.2
open PySem PySem.Spec PyProof.Rows
abbrev Key:=Sum Int Str
def G3:Key->Value->Bool
 | .inl k,v=>Value.isInt k v
 | .inr x,v=>Value.isStrOf x v
def Qbv(w:World):Key->Int
 | .inl k=>hashInt k
 | .inr x=>hashStr w x
theorem keyIs_shape:∀{k:Key} {v:Value},G3 k v=true->(∃i t,k=Sum.inl i/\v=Value.int i t)\/(∃x t,k=Sum.inr x/\v=Value.str x t)
 | .inl i,v,h=>by
  obtain⟨t,e⟩:=Value.isInt_shape (k:=i) (v:=v) h
  exact .inl ⟨i,t,rfl,e⟩
 | .inr x,v,h=>by
  obtain⟨t,e⟩:=Value.isStrOf_shape (x:=x) (v:=v) h
  exact .inr ⟨x,t,rfl,e⟩
theorem R8(i:Int)(t:Tok):G3 (.inl i) (.int i t)=true:=by simp [G3,Value.isInt]
theorem R9(x:Str)(t:Tok):G3 (.inr x) (.str x t)=true:=by simp [G3,Value.isStrOf]
theorem Qbw(a b:Int):decide ((Sum.inl a:Key)=Sum.inl b)=(a==b):=by
 by_cases e:a=b
 ·subst e;simp
 ·have h:¬(Sum.inl a:Key)=Sum.inl b:=λq=>e (Sum.inl.inj q)
  rw [Yau h]
  exact(beq_eq_false_iff_ne.mpr e).symm
theorem Qbx(a b:Str):decide ((Sum.inr a:Key)=Sum.inr b)=decide (a=b):=by
 by_cases e:a=b
 ·subst e;simp
 ·have h:¬(Sum.inr a:Key)=Sum.inr b:=λq=>e (Sum.inr.inj q)
  rw [Yau h,Yau e]
theorem Qby(a:Int)(b:Str):decide ((Sum.inl a:Key)=Sum.inr b)=false:=Yau (λq=>nomatch q)
theorem Qbz(a:Str)(b:Int):decide ((Sum.inr a:Key)=Sum.inl b)=false:=Yau (λq=>nomatch q)
def Bm(prog:Program)(w:World):PySem.KeyKind prog w Key where
 is:=G3
 hash:=Qbv w
 inj:=λv a b ha hb=>by
  rcases keyIs_shape ha with⟨i,t,rfl,rfl⟩ | ⟨x,t,rfl,rfl⟩
  ·rcases keyIs_shape hb with⟨j,u,rfl,e⟩ | ⟨y,u,rfl,e⟩
   ·injection e with e1 _;rw [e1]
   ·exact nomatch e
  ·rcases keyIs_shape hb with⟨j,u,rfl,e⟩ | ⟨y,u,rfl,e⟩
   ·exact nomatch e
   ·injection e with e1 _;rw [e1]
 byValue:=λk v h=>by
  rcases keyIs_shape h with⟨i,t,rfl,rfl⟩ | ⟨x,t,rfl,rfl⟩ <;> rfl
 pyHash:=λhv h=>by
  rcases keyIs_shape hv with⟨i,t,rfl,rfl⟩ | ⟨x,t,rfl,rfl⟩
  ·exact wpAny_pyHash_int h
  ·exact wpAny_pyHash_str h
 eqBool:=λhu hv h=>by
  rcases keyIs_shape hu with⟨i,t,rfl,rfl⟩ | ⟨x,t,rfl,rfl⟩
  ·rcases keyIs_shape hv with⟨j,u,rfl,rfl⟩ | ⟨y,u,rfl,rfl⟩
   ·rw [Qbw]at h;exact wpAny_eqBool_int h
   ·rw [Qby]at h;exact SeqAt.EqAt.int_str i t y u _ _ _ _ h
  ·rcases keyIs_shape hv with⟨j,u,rfl,rfl⟩ | ⟨y,u,rfl,rfl⟩
   ·rw [Qbz]at h;exact SeqAt.EqAt.str_int x t j u _ _ _ _ h
   ·rw [Qbx]at h;exact wpAny_eqBool_str h
 «strs»:=λk x t v h=>by
  rcases keyIs_shape h with⟨i,u,rfl,e⟩ | ⟨y,u,rfl,e⟩
  ·exact nomatch e
  ·injection e with e1 _
   subst e1
   cases v <;> rfl
theorem C5(prog:Program)(w:World)(i:Int)(t:Tok):(Bm prog w).is (.inl i) (.int i t)=true:=R8 i t
theorem G4(prog:Program)(w:World)(x:Str)(t:Tok):(Bm prog w).is (.inr x) (.str x t)=true:=R9 x t
end L2
namespace L2
open PySem PySem.Spec PyProof.Rows
inductive V where
 | non | bl (b:Bool) | int (i:Int) | str (x:Str) | byt (b:Array UInt8) | flt (b:UInt64) | ref (a:Addr) | ty (n:String)
 deriving DecidableEq
def Bj:V->Value->Prop
 | .non,u=>u=Value.none
 | .bl b,u=>u=Value.bool b
 | .int i,u=>∃t,u=Value.int i t
 | .str x,u=>∃t,u=Value.str x t
 | .byt b,u=>∃t,u=Value.bytes b t
 | .flt b,u=>∃t,u=Value.float b t
 | .ref a,u=>u=Value.ref a
 | .ty n,u=>u=Value.type n
abbrev Vals:List V->List Value->Prop:=Paired Bj
theorem Vals.length{xs:List V}{us:List Value}(r:Vals xs us):xs.length=us.length:=Paired.length r
theorem Vals.get:∀{xs:List V} {us:List Value} {i:Nat} {x:V},Vals xs us->xs[i]?=some x->∃u,us[i]?=some u/\Bj x u
 | _,_,_,_,.nil,e=>by simp at e
 | _,_,0,_,.cons r _,e=>by simp at e;subst e;exact⟨_,rfl,r⟩
 | _,_,i+1,x,.cons _ t,e=>by
  obtain⟨u,h1,h2⟩:=Vals.get (i:=i) (x:=x) t (by simpa using e)
  exact⟨u,by simpa using h1,h2⟩
theorem Vals.set{x:V}{u:Value}(r:Bj x u):∀{xs:List V} {us:List Value} (i:Nat),Vals xs us->Vals (xs.set i x) (us.set i u)
 | _,_,_,.nil=>.nil
 | _,_,0,.cons _ t=>.cons r t
 | _,_,i+1,.cons q t=>.cons q (Vals.set r i t)
theorem Vals.append:∀{xs ys:List V} {us ws:List Value},Vals xs us->Vals ys ws->Vals (xs++ys) (us++ws)
 | _,_,_,_,.nil,s=>s
 | _,_,_,_,.cons r t,s=>.cons r (Vals.append t s)
theorem Vals.take:∀{xs:List V} {us:List Value} (n:Nat),Vals xs us->Vals (xs.take n) (us.take n)
 | _,_,0,_=>.nil
 | _,_,_+1,.nil=>.nil
 | _,_,n+1,.cons r t=>.cons r (Vals.take n t)
theorem Vals.drop:∀{xs:List V} {us:List Value} (n:Nat),Vals xs us->Vals (xs.drop n) (us.drop n)
 | _,_,0,r=>r
 | _,_,_+1,.nil=>.nil
 | _,_,n+1,.cons _ t=>Vals.drop n t
def Ju:Option V->Option Value->Prop
 | some v,some u=>Bj v u
 | none,none=>True
 | _,_=>False
def KV{κ:Type}:List (κ×V)->List (κ×Value)->Prop:=Paired λ(p:κ×V) (q:κ×Value)=>p.1=q.1/\Bj p.2 q.2
def kV:Key->V
 | .inl i=>.int i
 | .inr x=>.str x
mutual
def A5(w:World):PyData->Int
 | .int i=>Qbv w (.inl i)
 | .str x=>Qbv w (.inr x)
 | .tuple ds=>reduceHash (Builtin.Tuple.tupleHashOf (Cz w ds))
 | _=>0
def Cz(w:World):List PyData->List Int
 | []=>[]
 | d :: ds=>A5 w d :: Cz w ds
end
def Qi0(w:World)(x:PyData×Addr×Value):DictEntry:=⟨A5 w x.1,.ref x.2.1,x.2.2⟩
def Qi1(w:World)(h:Heap)(a:Addr)(xs:List (PyData×Addr×Value)):Prop :=
 ∃o es ep,h.get? a=some o/\o.ExactDict/\o.data=.dict es ep/\es.toList=xs.map (Qi0 w)/\(xs.map (·.1)).Nodup/\(a==sysModules)=false/\xs.length<=sizeLine
inductive HO where
 | lst (xs:List V)
 | tup (xs:List V)
 | dK (ba:List (Key×V)) | dT (ba:List (List Key×V))
 | set (S:Int->Bool) (n:Nat)
 | ins (C dx:Addr) (fs:List (Str×V))
 | own (x:Addr)
 | xd (fs:List (Str×V))
 | met (f x:Addr)
 | rng (lo hi:Int)
 | frz (o:Obj) (u:HO)
 | tbl (ps:Array Value)
 | ext (φ:Heap->Prop)
 | dd (xs:List (PyData×Addr×Value))
abbrev Hp:=Addr->Option HO
def upd(H:Hp)(a:Addr)(o:HO):Hp:=λb=>if b=a then some o else H b
theorem A9{H:Hp}{a:Addr}{o:HO}:upd H a o a=some o:=by unfold upd;rw [Yak rfl]
theorem Aw{H:Hp}{a b:Addr}{o:HO}(h:b≠a):upd H a o b=H b:=by unfold upd;rw [Yah h]
theorem Qj{H:Hp}{a b:Addr}{o u:HO}(h:H a=some o)(h':H b=some u)(d:o≠u):a≠b:=by
 intro e;subst e;rw [h]at h';exact d (Ya3 h')
theorem B5{H:Hp}{a b:Addr}{o:HO}(h:H a=some o)(h':H b=none):a≠b:=by
 intro e;subst e;rw [h]at h';cases h'
section
variable(P:Program)(w:World)
def Bo(H:Hp)(h:Heap)(a:Addr):HO->Prop
 | .lst xs=>xs.length<=sizeLine/\∃(af:List Value) (n:Nat),Vals xs af/\h.get? a=some { cls:=.type "list",data:=.seq af.toArray n }
 | .tup xs=>xs.length<=sizeLine/\∃af:List Value,Vals xs af/\IsTup h a af.toArray
 | .dK ba=>ba.length<=sizeLine/\(a==sysModules)=false/\∃vs,KV ba vs/\h.DictOf (Bm P w) a vs
 | .dT ba=>ba.length<=sizeLine/\(a==sysModules)=false/\∃xs:List (List Key×Addr×Value),
   Paired (λ(p:List Key×V) (q:List Key×Addr×Value)=>p.1=q.1/\H q.2.1=some (.tup (p.1.map kV))/\Bj p.2 q.2.2) ba xs /\
   ∃o es ep,h.get? a=some o/\o.ExactDict/\o.data=.dict es ep/\es.toList=xs.map (entryOfKey (tupleKind (Bm P w)))/\(xs.map (·.1)).Nodup
 | .set S n=>h.SetOf (intKind P w) a S n
 | .ins C dx fs=>H dx=some (.own a)/\fs.length<=1000/\dx≠a/\h.get? a=some (PySem.W.instObj C dx) /\
   ∃mA,h.Ns1 dx mA/\(∀f,Ju (fs.lookup f) (mA f))/\PySem.Within mA (fs.map (·.1))
 | .own _=>∃o,h.get? a=some o
 | .xd fs=>∃mA,h.Ns1 a mA/\∀f,Ju (fs.lookup f) (mA f)
 | .rng lo hi=>∃t u v,h.get? a=some { cls:=.type "range",data:=.fields #[.int lo t,.int hi u,.int 1 v] }
 | .frz o u=>h.get? a=some o/\Bo H h a u
 | .tbl ps=>h.get? a=some { cls:=.none,data:=.fields ps }
 | .met f x=>h.get? a=some (PySem.W.methodObj (.ref f) (.ref x))
 | .ext φ=>φ h/\(∃o,h.get? a=some o)/\∀h1 h2:Heap,φ h1->(∀o,h1.get? a=some o->h2.get? a=some o)->φ h2
 | .dd xs=>Qi1 w h a xs
def HOk(H:Hp)(h:Heap):Prop:=∀a o,H a=some o->Bo P w H h a o
end
section
variable {P:Program}{w:World}{H H':Hp}{h h':Heap}{a:Addr}{o:HO}
theorem Bo.lt(x:Bo P w H h a o):a < h.objs.size:=by
 cases o with
 | lst xs=>obtain⟨_,_,_,_,e⟩:=x;exact Yae e
 | tup xs=>obtain⟨_,_,_,p⟩:=x;exact p.lt
 | dK ba=>obtain⟨_,_,_,_,o,_,_,e,_⟩:=x;exact Yae e
 | dT ba=>obtain⟨_,_,_,_,o,_,_,e,_⟩:=x;exact Yae e
 | set S n=>obtain⟨o,_,_,_,e,_⟩:=x;exact Yae e
 | ins C dx fs=>obtain⟨_,_,_,e,_⟩:=x;exact Yae e
 | own y=>obtain⟨_,e⟩:=x;exact Yae e
 | xd fs=>obtain⟨_,⟨_,_,_,e,_⟩,_⟩:=x;exact Yae e
 | rng lo hi=>obtain⟨_,_,_,e⟩:=x;exact Yae e
 | frz ob u=>obtain⟨e,_⟩:=x;exact Yae e
 | tbl ps=>exact Yae (show h.get? a=some _ from x)
 | met f y=>exact Yae (show h.get? a=some _ from x)
 | ext φ=>obtain⟨_,⟨_,e⟩,_⟩:=x;exact Yae e
 | dd xs=>obtain⟨_,_,_,e,_⟩:=x;exact Yae e
theorem Paired.mapP{α β:Type}{F G:α->β->Prop}:∀{l₁:List α} {l₂:List β},Paired F l₁ l₂->(∀a b,F a b->G a b)->Paired G l₁ l₂
 | _,_,.nil,_=>.nil
 | _,_,.cons r t,f=>.cons (f _ _ r) (Paired.mapP t f)
theorem Bo.stay(x:Bo P w H h a o)(k:∀b u,(b=a\/H b=some (.own a))->h.get? b=some u->h'.get? b=some u)
  (ho:∀b,H b=some (.own a)->H' b=some (.own a)) (ht:∀b xs,H b=some (.tup xs)->H' b=some (.tup xs)):Bo P w H' h' a o:=by
 induction o with
 | lst xs=>obtain⟨z,af,n,r,e⟩:=x;exact⟨z,af,n,r,k _ _ (.inl rfl) e⟩
 | tup xs=>obtain⟨z,af,r,ob,e,c⟩:=x;exact⟨z,af,r,ob,k _ _ (.inl rfl) e,c⟩
 | dK ba=>obtain⟨z,y,vs,r,ob,es,ep,e,c⟩:=x;exact⟨z,y,vs,r,ob,es,ep,k _ _ (.inl rfl) e,c⟩
 | dT ba =>
  obtain⟨z,y,xs,r,ob,es,ep,e,c⟩:=x
  exact⟨z,y,xs,Paired.mapP r λp q z=>⟨z.1,ht _ _ z.2.1,z.2.2⟩,ob,es,ep,k _ _ (.inl rfl) e,c⟩
 | set S n=>obtain⟨ob,es,ep,t,e,c⟩:=x;exact⟨ob,es,ep,t,k _ _ (.inl rfl) e,c⟩
 | ins C dx fs =>
  obtain⟨d,z,ne,e,mA,⟨od,es,ep,e2,c⟩,r⟩:=x
  exact⟨ho _ d,z,ne,k _ _ (.inl rfl) e,mA,⟨od,es,ep,k _ _ (.inr d) e2,c⟩,r⟩
 | own y=>obtain⟨ob,e⟩:=x;exact⟨ob,k _ _ (.inl rfl) e⟩
 | xd fs=>obtain⟨mA,⟨od,es,ep,e,c⟩,r⟩:=x;exact⟨mA,⟨od,es,ep,k _ _ (.inl rfl) e,c⟩,r⟩
 | rng lo hi=>obtain⟨t,u,v,e⟩:=x;exact⟨t,u,v,k _ _ (.inl rfl) e⟩
 | frz ob u ih=>obtain⟨e,q⟩:=x;exact⟨k _ _ (.inl rfl) e,ih q⟩
 | tbl ps =>
  have e:h.get? a=some { cls:=.none,data:=.fields ps }:=x
  show h'.get? a=some { cls:=.none,data:=.fields ps }
  exact k a _ (.inl rfl) e
 | met f y =>
  have e:h.get? a=some (PySem.W.methodObj (.ref f) (.ref y)):=x
  show h'.get? a=some (PySem.W.methodObj (.ref f) (.ref y))
  exact k a _ (.inl rfl) e
 | ext φ=>obtain⟨p,⟨o,e⟩,st⟩:=x;exact⟨st _ _ p λo q=>k _ _ (.inl rfl) q,⟨o,k _ _ (.inl rfl) e⟩,st⟩
 | dd xs=>obtain⟨o,es,ep,e,c⟩:=x;exact⟨o,es,ep,k _ _ (.inl rfl) e,c⟩
theorem HOk.lt(x:HOk P w H h)(e:H a=some o):a < h.objs.size:=(x a o e).lt
theorem HOk.fresh(x:HOk P w H h)(e:h.objs.size<=a):H a=none:=by
 cases q:H a with
 | none=>rfl
 | some u=>exact absurd (Yam (x.lt q) e) (Yc9 _)
theorem HOk.kept(x:HOk P w H h)(k:∀b u,h.get? b=some u->h'.get? b=some u):HOk P w H h':=λa o e =>
 (x a o e).stay (λb u _ q=>k b u q) (λ_ q=>q) λ_ _ q=>q
theorem HOk.laid(x:HOk P w H h)(k:∀b u,h.get? b=some u->h'.get? b=some u)(hp:h.objs.size<=a)(new:Bo P w (upd H a o) h' a o):HOk P w (upd H a o) h':=λb u e=>by
 have hn:=x.fresh hp
 by_cases hb:b=a
 ·subst hb;rw [A9]at e;cases e;exact new
 ·rw [Aw hb]at e
  exact(x b u e).stay (λc v _ q=>k c v q) (λc q=>by rw [Aw (B5 q hn)];exact q) λc xs q=>by rw [Aw (B5 q hn)];exact q
end
def Rd(H:Hp)(a:Addr)(u:HO):Prop:=H a=some u\/∃o,H a=some (.frz o u)
theorem Rd.ok{P:Program}{w:World}{H:Hp}{h:Heap}{a:Addr}{u:HO}(r:Rd H a u)(x:HOk P w H h):Bo P w H h a u:=by
 rcases r with r | ⟨o,r⟩
 ·exact x a u r
 ·obtain⟨_,q⟩:=x a _ r
  exact q
def Mut:Option HO->Prop
 | some (.lst _)=>True
 | some (.dK _)=>True
 | some (.dT _)=>True
 | some (.set _ _)=>True
 | some (.ins _ _ _)=>True
 | some (.ext _)=>True
 | some (.dd _)=>True
 | _=>False
section
variable {P:Program}{w:World}{H:Hp}{h h':Heap}{x e:Addr}{o':HO}
theorem HOk.write(ok:HOk P w H h)(mu:Mut (H x))(he:e=x\/H e=some (.own x))(k:∀b u,b≠e->h.get? b=some u->h'.get? b=some u)(p6:∃u,h'.get? e=some u)
  (new:Bo P w (upd H x o') h' x o'):HOk P w (upd H x o') h':=λb u q=>by
 have t5:∀c y,H c=some (.own y)->c≠x:=λc y r z=>by subst z;rw [r]at mu;exact mu
 have zat:∀c xs,H c=some (.tup xs)->c≠x:=λc xs r z=>by subst z;rw [r]at mu;exact mu
 by_cases hb:b=x
 ·subst hb;rw [A9]at q;cases q;exact new
 ·rw [Aw hb]at q
  by_cases ie:b=e
  ·have q':H b=some (.own x):=by
    rcases he with z | z
    ·exact absurd (ie.trans z) hb
    ·rw [ie];exact z
   rw [q]at q';cases q'
   obtain⟨v,hv⟩:=p6
   exact⟨v,by rw [ie];exact hv⟩
  ·refine(ok b u q).stay (λc v hc r=>k c v ?_ r) (λc r=>by rw [Aw (t5 c b r)];exact r) λc xs r=>by rw [Aw (zat c xs r)];exact r
   rcases hc with rfl | hc
   ·exact ie
   ·rintro rfl
    rcases he with z | z
    ·exact t5 c b hc z
    ·rw [hc]at z;cases z;exact hb rfl
end
structure Un(fs ex:List Addr)(H H':Hp)(h h':Heap):Prop where
 keep:∀b o,h.get? b=some o->H b=none->b∉fs->b∉ex->h'.get? b=some o
 slot:∀b o,h.get? b=some o->H b=none->b∈fs->b∉ex->∃sl,h'.get? b=some { o with slots:=sl }
 free:∀b o,h.get? b=some o->H b=none->b∉ex->H' b=none
 there:∀b o,h.get? b=some o->b∉ex->∃o',h'.get? b=some o'
 tups:∀b xs,H b=some (.tup xs)->H' b=some (.tup xs)
 frzs:∀b o u,H b=some (.frz o u)->H' b=some (.frz o u)
 tbls:∀b ps,H b=some (.tbl ps)->∃more,H' b=some (.tbl (ps++more))
section
variable {fs fs' ex ex':List Addr}{H H1 H2:Hp}{h h1 h2 h':Heap}{a x e:Addr}{o:HO}
theorem Un.any(u:Un fs ex H H1 h h1){b:Addr}{ob:Obj}(q:h.get? b=some ob)(n:H b=none)(hx:b∉ex):∃sl,h1.get? b=some { ob with slots:=sl }:=by
 by_cases hb:b∈fs
 ·exact u.slot b ob q n hb hx
 ·exact⟨ob.slots,u.keep b ob q n hb hx⟩
theorem Un.kept(k:∀b u,h.get? b=some u->h'.get? b=some u):Un fs ex H H h h' :=
 ⟨λb ob q _ _ _=>k b ob q,λb ob q _ _ _=>⟨ob.slots,k b ob q⟩,λ_ _ _ n _=>n,λb ob q _=>⟨ob,k b ob q⟩,λ_ _ q=>q,λ_ _ _ q=>q,λ_ ps q=>⟨#[],by rw [q];simp⟩⟩
theorem Un.refl:Un fs ex H H h h:=Un.kept λ_ _ q=>q
theorem Un.laid(k:∀b u,h.get? b=some u->h'.get? b=some u)(hp:h.objs.size<=a)(hn:H a=none):Un fs ex H (upd H a o) h h' where
 keep:=λb u q _ _ _=>k b u q
 slot:=λb u q _ _ _=>⟨u.slots,k b u q⟩
 free:=λb u q n _=>by rw [Aw (Yaj (Yam (Yae q) hp))];exact n
 there:=λb u q _=>⟨u,k b u q⟩
 tups:=λb xs q=>by rw [Aw (B5 q hn)];exact q
 frzs:=λb u xs q=>by rw [Aw (B5 q hn)];exact q
 tbls:=λb ps q=>⟨#[],by rw [Aw (B5 q hn),q];simp⟩
theorem Un.write(mu:Mut (H x))(he:e=x\/H e=some (.own x))(k:∀b u,b≠e->h.get? b=some u->h'.get? b=some u)(p6:∃u,h'.get? e=some u):Un fs ex H (upd H x o) h h':=by
 have hx:∀b,H b=none->b≠x:=λb n z=>by subst z;rw [n]at mu;exact mu
 have hb:∀b,H b=none->b≠e:=λb n z=>by
  subst z
  rcases he with r | r
  ·exact hx b n r
  ·rw [n]at r;cases r
 have hm:∀b u,H b=some u->¬Mut (some u)->b≠x:=λb u q nm z=>by subst z;rw [q]at mu;exact nm mu
 refine⟨λb u q n _ _=>k b u (hb b n) q,λb u q n _ _=>⟨u.slots,k b u (hb b n) q⟩,λb u q n _=>by rw [Aw (hx b n)];exact n,λb u q _=>?_,
  λb xs q=>by rw [Aw (hm b _ q λz=>z)];exact q,λb u xs q=>by rw [Aw (hm b _ q λz=>z)];exact q,λb ps q=>⟨#[],by rw [Aw (hm b _ q λz=>z),q];simp⟩⟩
 by_cases ie:b=e
 ·subst ie;exact p6
 ·exact⟨u,k b u ie q⟩
end
def trk(h:Heap)(H:Hp):List Addr:=(List.range h.objs.size).filter λa=>(H a).isSome
def Lm(h:Heap)(H:Hp):Heap:=PySem.W.hideAll h (trk h H)
theorem Sa(h:Heap)(H:Hp):(Lm h H).objs.size=h.objs.size:=PySem.W.hideAll_size _ _
theorem Uj{h:Heap}{H:Hp}{b:Addr}{o:Obj}(e:h.get? b=some o)(n:H b=none):(Lm h H).get? b=some o :=
 PySem.W.hideAll_get _ e λhm=>by
  have q:(H b).isSome=true:=(List.mem_filter.mp hm).2
  rw [n]at q;simp at q
theorem X7{h:Heap}{H:Hp}{b:Addr}{o:Obj}(e:(Lm h H).get? b=some o):h.get? b=some o/\H b=none:=by
 have e':h.get? b=some o:=PySem.W.of_hideAll (trk h H) e
 refine⟨e',?_⟩
 cases q:H b with
 | none=>rfl
 | some x =>
  have hm:b∈trk h H:=List.mem_filter.mpr ⟨Ybi.mpr (Yae e'),by simp [q]⟩
  have z:(Lm h H).get? b=none:=PySem.W.hideAll_none (trk h H) hm
  rw [z]at e;cases e
def X8(g h:Heap)(L:Addr):List (Addr×Obj):=(List.range h.objs.size).filterMap λa=>if a=L\/(g.get? a).isSome=true then none else(h.get? a).map λo=>(a,o)
def rest(g h:Heap)(L d:Addr):List (Addr×Obj):=(X8 g h L).filter λp=>decide (p.1≠d)
structure Mod(K:PySem.W.Frag)(mg:Str->Option Value)(base:Heap):Prop where
 kin:K.In base
 glob:base.Ns mainGlobals mg
 blt:∃mb,base.Ns builtinsNs mb/\∀x:Str,x ≠ "__name__" -> mb x=bootBuiltins x
 nolimit:base.NoLimit
structure Cx where
 prog:Program
 w:World
 K:PySem.W.Frag
 mg:Str->Option Value
 base:Heap
 A:Around
 N:List Str
 s₀:Shared
 H₀:Hp
 env:Env
 outer:List Env
 stack:List Env
 ex:List Addr
 fn:Str->Bool
 calm:Bool
 pn:List (Addr×Obj)
 xe:Value->Shared->Prop
def frs(l:List Env):List Addr:=l.filterMap (·.frame)
abbrev Cx.fs(X:Cx):List Addr:=frs X.outer
def Vis(sc:Scope)(x:Str):Prop:=sc.names.lookup x=some .local\/sc.names.lookup x=some .cell\/sc.names.lookup x=some .free
def Loc(sc:Scope)(x:Str):Prop:=sc.names.lookup x=some .local\/sc.names.lookup x=some .cell
def Look(env:Env)(h:Heap)(m:Str->Option Value)(x:Str)(u:Value):Prop :=
 (env.kindOf x=some .local/\m x=some u)\/((env.kindOf x=some .cell\/env.kindOf x=some .free)/\∃c,env.cells.lookup x=some c/\h.IsCell c (some u))
structure Cx.Ok(X:Cx):Prop where
 mod:Mod X.K X.mg X.base
 kind:X.env.scope.kind=.function
 glob:X.env.globals=mainGlobals
 blt:X.env.builtins=builtinsNs
 above:X.s₀.heap.objs.size<=X.env.locals
 inj:∀x y c,X.env.cells.lookup x=some c->X.env.cells.lookup y=some c->x=y
 has:∀x,(X.env.kindOf x=some .cell\/X.env.kindOf x=some .free)->∃c,X.env.cells.lookup x=some c
 cab:∀x c,X.fn x=true->X.env.cells.lookup x=some c->X.s₀.heap.objs.size<=c
 hd:X.calm=true->X.A.handled=none
 frames:X.A.frames=some X.stack
 stk:X.stack=X.outer\/(X.stack=X.env :: X.outer/\X.env.frame=some X.env.locals)
 exf:∀b∈X.ex,b≠X.env.locals/\∀x c,X.env.cells.lookup x=some c->c≠b
 bs:∀b o,X.base.get? b=some o->X.s₀.heap.get? b=some o/\X.H₀ b=none
 bsz:X.base.objs.size<=X.s₀.heap.objs.size
 noex:∀b o,X.base.get? b=some o->b∉X.ex
 exfs:∀b∈X.ex,b∉X.fs
 funs:X.s₀.heap.FunFrames X.base X.outer
 frf:∀b∈X.fs,X.H₀ b=none
structure Inv(X:Cx)(aa:List (Addr×Obj))(σ:List (Option V))(H:Hp)(s:Shared):Prop where
 ok:X.Ok
 os:s.os=X.s₀.os
 bare:AllBare s.gens
 base:Un X.fs X.ex X.H₀ H X.s₀.heap s.heap
 loc:∃m,s.heap.Ns X.env.locals m/\∀(i:Nat) (x:Str) (v:V),X.N[i]?=some x->σ[i]?=some (some v)->Vis X.env.scope x->∃u,Bj v u/\Look X.env s.heap m x u
 cell:∀x c,X.env.cells.lookup x=some c->∃v,s.heap.IsCell c v
 free:H X.env.locals=none
 freeC:∀x c,X.env.cells.lookup x=some c->H c=none
 pin:∀p∈X.pn++aa,s.heap.get? p.1=some p.2/\H p.1=none/\p.1≠X.env.locals/\p.1∉X.fs/\∀v,p.2.data≠.cell v
 hok:HOk X.prog X.w H s.heap
 len:σ.length=X.N.length
section
variable {X:Cx}{aa:List (Addr×Obj)}{σ:List (Option V)}{H H':Hp}{s:Shared}{h':Heap}
theorem Cx.Ok.nofr(ok:X.Ok){b:Addr}{o:Obj}(e:X.base.get? b=some o):b∉X.fs:=λhb=>by
 have:=(ok.funs.mem hb).1
 rw [e]at this;cases this
theorem Inv.bs(I:Inv X aa σ H s):∀b o,X.base.get? b=some o->s.heap.get? b=some o/\H b=none:=λb o e =>
 ⟨I.base.keep b o (I.ok.bs b o e).1 (I.ok.bs b o e).2 (I.ok.nofr e) (I.ok.noex b o e),I.base.free b o (I.ok.bs b o e).1 (I.ok.bs b o e).2 (I.ok.noex b o e)⟩
theorem Inv.bk(I:Inv X aa σ H s):∀b o,X.base.get? b=some o->s.heap.get? b=some o:=λb o e=>(I.bs b o e).1
theorem Inv.mod(I:Inv X aa σ H s):Mod X.K X.mg X.base:=I.ok.mod
theorem Inv.kIn(I:Inv X aa σ H s):X.K.In s.heap:=I.ok.mod.kin.keeps I.bk
theorem Inv.lt(I:Inv X aa σ H s):X.env.locals < s.heap.objs.size:=let⟨_,hn,_⟩:=I.loc;hn.lt
theorem Inv.sz(I:Inv X aa σ H s):X.s₀.heap.objs.size<=s.heap.objs.size:=Yas I.ok.above (Yco I.lt)
theorem Inv.nofs(I:Inv X aa σ H s){a:Addr}(h:s.heap.objs.size<=a):a∉X.fs:=λhb=>by
 obtain⟨_,o,ho,_⟩:=I.ok.funs.mem hb
 exact absurd (Yam (Yae ho) (Yas I.sz h)) (Yc9 _)
theorem Inv.cne(I:Inv X aa σ H s):∀x c,X.env.cells.lookup x=some c->c≠X.env.locals:=λx c e z=>by
 obtain⟨v,o,ho,hd⟩:=I.cell x c e
 obtain⟨m,⟨o',es,ep,dh,jv,_⟩,_⟩:=I.loc
 rw [z,dh]at ho;cases ho;rw [jv]at hd;cases hd
theorem Inv.funs(I:Inv X aa σ H s):s.heap.FunFrames X.base X.outer:=by
 have all:∀(l:List Env),(∀b∈frs l,b∈X.fs)->X.s₀.heap.FunFrames X.base l->s.heap.FunFrames X.base l:=by
  intro l
  induction l with
  | nil=>intro _ _;trivial
  | cons env r ih =>
   intro hs hl
   obtain⟨hk,⟨L,o,hf,hn,ho,hd⟩,hr⟩:=hl
   have hL:L∈X.fs:=hs L (by unfold frs;rw [Ydk,hf];exact Yaz)
   obtain⟨sl,e⟩:=I.base.slot L o ho (I.ok.frf L hL) hL λz=>I.ok.exfs L z hL
   exact⟨hk,⟨L,_,hf,hn,e,hd⟩,ih (λb hb=>hs b (by unfold frs;rw [Ydk,hf];exact Yax _ hb)) hr⟩
 exact all X.outer (λ_ hb=>hb) I.ok.funs
theorem Inv.stack(I:Inv X aa σ H s):s.heap.FunFrames X.base X.stack:=by
 rcases I.ok.stk with e | ⟨e,hf⟩
 ·rw [e];exact I.funs
 ·rw [e]
  obtain⟨m,hn,_⟩:=I.loc
  refine .cons (by rw [I.ok.kind];decide) hf hn ?_ I.funs
  exact Heap.get?_none_of_le (Yas I.ok.bsz I.ok.above)
theorem Inv.stkSub(I:Inv X aa σ H s):∀b∈frs X.stack,b∈X.env.locals :: X.fs:=λb hb=>by
 rcases I.ok.stk with e | ⟨e,hf⟩
 ·rw [e]at hb;exact Yax _ hb
 ·rw [e]at hb
  unfold frs at hb
  rw [Ydk,hf]at hb
  exact hb
theorem Inv.stkFree(I:Inv X aa σ H s):∀b∈frs X.stack,H b=none:=λb hb=>by
 rcases Yat.mp (I.stkSub b hb) with e | hb
 ·rw [e];exact I.free
 ·obtain⟨_,o,ho,_⟩:=I.ok.funs.mem hb
  exact I.base.free b o ho (I.ok.frf b hb) λz=>I.ok.exfs b z hb
theorem Inv.step{g':Array GenState}{t':Nat}{d':Drawn}{ch:List Addr}(I:Inv X aa σ H s)
  (fw:∀b∈ch,(b∈X.ex\/X.s₀.heap.objs.size<=b)/\b≠X.env.locals/\(∀x c,X.env.cells.lookup x=some c->c≠b)/\∀p∈X.pn++aa,p.1≠b)
  (keep:∀b o,b≠X.env.locals->b∉X.fs->b∉ch->s.heap.get? b=some o->H b=none->h'.get? b=some o)
  (slot:∀b o,b≠X.env.locals->b∈X.fs->b∉ch->s.heap.get? b=some o->H b=none->∃sl,h'.get? b=some { o with slots:=sl }) (free:∀b o,b∉ch->s.heap.get? b=some o->H b=none->H' b=none)
  (there:∀b o,b∉ch->s.heap.get? b=some o->∃o',h'.get? b=some o')
  (tups:∀b xs,H b=some (.tup xs)->H' b=some (.tup xs)) (frzs:∀b o u,H b=some (.frz o u)->H' b=some (.frz o u)) (tbls:∀b ps,H b=some (.tbl ps)->∃more,H' b=some (.tbl (ps++more)))
  (ns:∀m,s.heap.Ns X.env.locals m->h'.Ns X.env.locals m) (hok:HOk X.prog X.w H' h') (hg:AllBare g') :
  Inv X aa σ H' { s with heap:=h',gens:=g',drawn:=d',toks:=t' }:=by
 have neL:∀b o,X.s₀.heap.get? b=some o->b≠X.env.locals:=λb o e=>Yaj (Yam (Yae e) I.ok.above)
 have wu:∀b o,X.s₀.heap.get? b=some o->b∉X.ex->b∉ch:=λb o e hx hb=>by
  rcases(fw b hb).1 with z | z
  ·exact hx z
  ·exact absurd (Yam (Yae e) z) (Yc9 _)
 have m6:∀x c,X.env.cells.lookup x=some c->∀v,s.heap.IsCell c v->h'.IsCell c v:=λx c e v ⟨o,ho,hd⟩=>by
  have sj:c∉ch:=λz=>(fw c z).2.2.1 x c e rfl
  by_cases hc:c∈X.fs
  ·obtain⟨sl,q⟩:=slot c o (I.cne x c e) hc sj ho (I.freeC x c e)
   exact⟨_,q,hd⟩
  ·exact⟨o,keep c o (I.cne x c e) hc sj ho (I.freeC x c e),hd⟩
 refine⟨I.ok,I.os,hg,⟨λb o e n hb hx=>?_,λb o e n hb hx=>?_,λb o e n hx=>?_,λb o e hx=>?_,λb xs e=>tups b xs (I.base.tups b xs e),λb o xs e=>frzs b o xs (I.base.frzs b o xs e),λb ps e=>?_⟩,?_,λx c e=>?_,?_,λx c e=>?_,λp hp=>?_,hok,I.len⟩
 ·exact keep b o (neL b o e) hb (wu b o e hx) (I.base.keep b o e n hb hx) (I.base.free b o e n hx)
 ·obtain⟨sl,e1⟩:=I.base.slot b o e n hb hx
  obtain⟨sl',e2⟩:=slot b _ (neL b o e) hb (wu b o e hx) e1 (I.base.free b o e n hx)
  exact⟨sl',e2⟩
 ·obtain⟨o',e1⟩:=I.base.there b o e hx
  exact free b o' (wu b o e hx) e1 (I.base.free b o e n hx)
 ·obtain⟨o',e1⟩:=I.base.there b o e hx
  exact there b o' (wu b o e hx) e1
 ·obtain⟨m1,e1⟩:=I.base.tbls b ps e
  obtain⟨m2,e2⟩:=tbls b _ e1
  exact⟨m1++m2,by rw [e2,Yej]⟩
 ·obtain⟨m,hn,hl⟩:=I.loc
  refine⟨m,ns m hn,λi x v e1 e2 e3=>?_⟩
  obtain⟨u,r,l⟩:=hl i x v e1 e2 e3
  refine⟨u,r,?_⟩
  rcases l with l | ⟨k,c,e,z⟩
  ·exact .inl l
  ·exact .inr ⟨k,c,e,m6 x c e _ z⟩
 ·obtain⟨v,z⟩:=I.cell x c e
  exact⟨v,m6 x c e v z⟩
 ·obtain⟨m,⟨o,_,_,ho,_⟩,_⟩:=I.loc
  exact free _ o (λz=>(fw _ z).2.1 rfl) ho I.free
 ·obtain⟨v,o,ho,hd⟩:=I.cell x c e
  exact free c o (λz=>(fw c z).2.2.1 x c e rfl) ho (I.freeC x c e)
 ·obtain⟨e,n,ne,nf,d⟩:=I.pin p hp
  have sj:p.1∉ch:=λz=>(fw p.1 z).2.2.2 p hp rfl
  exact⟨keep p.1 p.2 ne nf sj e n,free p.1 p.2 sj e n,ne,nf,d⟩
theorem Inv.un{t':Nat}(I:Inv X aa σ H s)(u:Un X.fs [] H H' s.heap h')(hok:HOk X.prog X.w H' h'):Inv X aa σ H' { s with heap:=h',toks:=t' }:=by
 obtain⟨m,⟨o,es,ep,ho,r⟩,_⟩:=id I.loc
 obtain⟨sl,hL⟩:=u.any ho I.free (by simp)
 exact I.step (g':=s.gens) (d':=s.drawn) (ch:=[]) (λ_ z=>nomatch z) (λb o _ hb _ e n=>u.keep b o e n hb (by simp)) (λb o _ hb _ e n=>u.slot b o e n hb (by simp)) (λb o _ e n=>u.free b o e n (by simp)) (λb o _ e=>u.there b o e (by simp)) u.tups u.frzs u.tbls (λm' hm=>by
  obtain⟨o',dy,ep',dh,r'⟩:=hm
  rw [ho]at dh;cases dh
  exact⟨_,dy,ep',hL,r'⟩) hok I.bare
theorem Inv.call{g':Array GenState}{t':Nat}{d':Drawn}{ch:List Addr}(I:Inv X aa σ H s)(u:Un (frs X.stack) ch H H' s.heap h')(hok:HOk X.prog X.w H' h')(hg:AllBare g')
  (fw:∀b∈ch,(b∈X.ex\/X.s₀.heap.objs.size<=b)/\b≠X.env.locals/\(∀x c,X.env.cells.lookup x=some c->c≠b)/\∀p∈X.pn++aa,p.1≠b) :
  Inv X aa σ H' { s with heap:=h',gens:=g',drawn:=d',toks:=t' }:=by
 obtain⟨m,⟨o,es,ep,ho,r⟩,_⟩:=id I.loc
 obtain⟨sl,hL⟩:=u.any ho I.free λz=>(fw _ z).2.1 rfl
 exact I.step (ch:=ch) fw (λb o hL hb hc e n=>u.keep b o e n (λz=>(Yat.mp (I.stkSub b z)).elim hL hb) hc) (λb o _ _ hc e n=>u.any e n hc) (λb o hc e n=>u.free b o e n hc) (λb o hc e=>u.there b o e hc) u.tups u.frzs u.tbls (λm' hm=>by
  obtain⟨o',dy,ep',dh,r'⟩:=hm
  rw [ho]at dh;cases dh
  exact⟨_,dy,ep',hL,r'⟩) hok hg
theorem Inv.turned{t':Nat}{it:Addr}(I:Inv X aa σ H s)(k:∀b o,b≠it->s.heap.get? b=some o->h'.get? b=some o)(hn:H it=none)(hL:it≠X.env.locals)
  (h1:it∈X.ex\/X.s₀.heap.objs.size<=it) (h2:∀x c,X.env.cells.lookup x=some c->c≠it) (h3:∀p∈X.pn++aa,p.1≠it):Inv X aa σ H { s with heap:=h',toks:=t' }:=by
 have rh:∀b u,H b=some u->b≠it:=λb u e z=>by rw [z,hn]at e;cases e
 refine I.step (g':=s.gens) (d':=s.drawn) (ch:=[it]) (λb hb=>?_) (λb o _ _ hc e _=>k b o (λz=>hc (by simp [z])) e) (λb o _ _ hc e _=>⟨o.slots,k b o (λz=>hc (by simp [z])) e⟩) (λ_ _ _ _ n=>n)
  (λb o hc e=>⟨o,k b o (λz=>hc (by simp [z])) e⟩) (λ_ _ e=>e) (λ_ _ _ e=>e) (λb ps e=>⟨#[],by rw [e];simp⟩) (λm hm=>?_) (λb u e=>?_) I.bare
 ·have e:b=it:=by simpa using hb
  subst e
  exact⟨h1,hL,h2,h3⟩
 ·obtain⟨o,es,ep,ho,r⟩:=hm
  exact⟨o,es,ep,k _ o (Yc4 hL) ho,r⟩
 ·refine(I.hok b u e).stay (λc v hc q=>k c v ?_ q) (λ_ q=>q) λ_ _ q=>q
  rcases hc with z | z
  ·rw [z];exact rh b u e
  ·exact rh c _ z
theorem Inv.tok(I:Inv X aa σ H s)(t:Nat):Inv X aa σ H { s with toks:=t }:=I.un (h':=s.heap) (t':=t) Un.refl I.hok
theorem Inv.kept{t':Nat}(I:Inv X aa σ H s)(k:∀b u,s.heap.get? b=some u->h'.get? b=some u):Inv X aa σ H { s with heap:=h',toks:=t' }:=I.un (Un.kept k) (I.hok.kept k)
theorem Inv.laid{a:Addr}{o:HO}{t':Nat}(I:Inv X aa σ H s)(k:∀b u,s.heap.get? b=some u->h'.get? b=some u)(hp:s.heap.objs.size<=a)(new:Bo X.prog X.w (upd H a o) h' a o) :
  Inv X aa σ (upd H a o) { s with heap:=h',toks:=t' }:=I.un (Un.laid k hp (I.hok.fresh hp)) (I.hok.laid k hp new)
theorem Inv.write{x e:Addr}{o:HO}{t':Nat}(I:Inv X aa σ H s)(mu:Mut (H x))(he:e=x\/H e=some (.own x))(k:∀b u,b≠e->s.heap.get? b=some u->h'.get? b=some u)(p6:∃u,h'.get? e=some u)
  (new:Bo X.prog X.w (upd H x o) h' x o):Inv X aa σ (upd H x o) { s with heap:=h',toks:=t' }:=I.un (Un.write mu he k p6) (I.hok.write mu he k p6 new)
theorem Inv.pins_of{ik:List (Addr×Obj)}(I:Inv X aa σ H s)(h:∀p∈ik,s.heap.get? p.1=some p.2/\H p.1=none/\p.1≠X.env.locals/\p.1∉X.fs/\∀v,p.2.data≠.cell v):Inv X ik σ H s :=
 ⟨I.ok,I.os,I.bare,I.base,I.loc,I.cell,I.free,I.freeC,λp hp=>(Yap.mp hp).elim (λz=>I.pin p (Ydd _ z)) (h p),I.hok,I.len⟩
theorem Hy{N:List Str}(hN:N.Nodup){i j:Nat}{x:Str}(a:N[i]?=some x)(b:N[j]?=some x):i=j:=by
 obtain⟨h1,e1⟩:=List.getElem?_eq_some_iff.mp a
 obtain⟨h2,e2⟩:=List.getElem?_eq_some_iff.mp b
 exact(List.getElem_inj hN).mp (e1.trans e2.symm)
theorem Kd{M:Model}{A:Around}{E:Value->Shared->Prop}{i:Nat}{x:Str}{v:V}{u:Value}{Q:Unit->Shared->Prop}(I:Inv X aa σ H s)(hN:X.N.Nodup)(hi:X.N[i]?=some x)(hx:Loc X.env.scope x)(r:Bj v u)
  (h:∀s',Inv X aa (σ.set i (some v)) H s'->(∃a,Heap.SameBut a s.heap s'.heap/\(a=X.env.locals\/X.env.cells.lookup x=some a))->Q () s') (hf:X.fn x=true\/X.env.scope.names.lookup x=some .local:=by first | exact .inl rfl | exact .inr rfl | assumption):wpAny M A (storeName X.env x u) Q E s:=by
 obtain⟨m,hn,hl⟩:=id I.loc
 have m9:(X.env.scope.kind==.class || (X.env.scope.kind==.module && X.env.locals != X.env.globals))=false:=by rw [I.ok.kind];rfl
 have hiσ:i < σ.length:=by rw [I.len];exact(List.getElem?_eq_some_iff.mp hi).1
 have cne:=I.cne
 have jm:∀{a:Addr} {h':Heap},(∃o,s.heap.get? a=some o/\H a=none)->Heap.SameBut a s.heap h'->HOk X.prog X.w H h':=λ{a h'} ha hs b ob e=>by
  obtain⟨_,_,hfree⟩:=ha
  refine(I.hok b ob e).stay (λc w' hc q=>(hs.2 c ?_).trans q) (λ_ q=>q) λ_ _ q=>q
  rintro rfl
  rcases hc with rfl | hc
  ·rw [hfree]at e;cases e
  ·rw [hfree]at hc;cases hc
 rcases hx with hk | hk
 ·refine wpAny_storeName_local hk hn (λh' kh hs=>?_) m9
  obtain⟨oL,_,_,hoL,_⟩:=id hn
  refine h _ ⟨I.ok,I.os,I.bare,⟨λb o e n hb hx=>?_,λb o e n hb hx=>?_,I.base.free,λb o e hx=>?_,I.base.tups,I.base.frzs,I.base.tbls⟩,⟨_,kh,λj y v' e1 e2 e3=>?_⟩,λy c e=>?_,I.free,I.freeC,λp hp=>?_,jm ⟨oL,hoL,I.free⟩ hs,by simpa using I.len⟩ ⟨_,hs,.inl rfl⟩
  ·exact(hs.2 b (Yaj (Yam (Yae e) I.ok.above))).trans (I.base.keep b o e n hb hx)
  ·obtain⟨sl,e1⟩:=I.base.slot b o e n hb hx
   exact⟨sl,(hs.2 b (Yaj (Yam (Yae e) I.ok.above))).trans e1⟩
  ·obtain⟨o',e1⟩:=I.base.there b o e hx
   exact⟨o',(hs.2 b (Yaj (Yam (Yae e) I.ok.above))).trans e1⟩
  ·by_cases hj:j=i
   ·subst hj
    rw [hi]at e1;cases e1
    rw [List.getElem?_set_self hiσ]at e2
    cases e2
    exact⟨u,r,.inl ⟨hk,by simp⟩⟩
   ·rw [List.getElem?_set_ne (Yc4 hj)]at e2
    obtain⟨u',r',q⟩:=hl j y v' e1 e2 e3
    refine⟨u',r',?_⟩
    rcases q with⟨k,e⟩ | ⟨k,c,e,z⟩
    ·refine .inl ⟨k,?_⟩
     have:y≠x:=λe=>hj (Hy hN e1 (e ▸ hi))
     simp [this,e]
    ·exact .inr ⟨k,c,e,z.sameBut hs (cne y c e)⟩
  ·obtain⟨w',z⟩:=I.cell y c e
   exact⟨w',z.sameBut hs (cne y c e)⟩
  ·obtain⟨e,n,ne,nf,d⟩:=I.pin p hp
   exact⟨(hs.2 p.1 ne).trans e,n,ne,nf,d⟩
 ·have hfn:X.fn x=true:=by
   rcases hf with z | z
   ·exact z
   ·rw [z]at hk;cases hk
  obtain⟨c,hc⟩:=I.ok.has x (.inl hk)
  obtain⟨w',z⟩:=I.cell x c hc
  refine wpAny_storeName_cell I.ok.kind hk hc z (λh' cu hs=>?_)
  obtain⟨oc,hoc,hocd⟩:=id z
  refine h { s with heap:=h' } ⟨I.ok,I.os,I.bare,⟨λb o e n hb hx=>?_,λb o e n hb hx=>?_,I.base.free,λb o e hx=>?_,I.base.tups,I.base.frzs,I.base.tbls⟩,⟨m,hn.sameBut hs (Yc4 (cne x c hc)),λj y v' e1 e2 e3=>?_⟩,λy c' e=>?_,I.free,I.freeC,λp hp=>?_,jm ⟨oc,hoc,I.freeC x c hc⟩ hs,by simpa using I.len⟩ ⟨c,hs,.inr hc⟩
  ·exact(hs.2 b (Yaj (Yam (Yae e) (I.ok.cab x c hfn hc)))).trans (I.base.keep b o e n hb hx)
  ·obtain⟨sl,e1⟩:=I.base.slot b o e n hb hx
   exact⟨sl,(hs.2 b (Yaj (Yam (Yae e) (I.ok.cab x c hfn hc)))).trans e1⟩
  ·obtain⟨o',e1⟩:=I.base.there b o e hx
   exact⟨o',(hs.2 b (Yaj (Yam (Yae e) (I.ok.cab x c hfn hc)))).trans e1⟩
  ·by_cases hj:j=i
   ·subst hj
    rw [hi]at e1;cases e1
    rw [List.getElem?_set_self hiσ]at e2
    cases e2
    exact⟨u,r,.inr ⟨.inl hk,c,hc,cu⟩⟩
   ·rw [List.getElem?_set_ne (Yc4 hj)]at e2
    obtain⟨u',r',q⟩:=hl j y v' e1 e2 e3
    refine⟨u',r',?_⟩
    rcases q with q | ⟨k,c',e,z'⟩
    ·exact .inl q
    ·refine .inr ⟨k,c',e,z'.sameBut hs ?_⟩
     rintro rfl
     exact hj (Hy hN e1 (I.ok.inj _ _ _ e hc ▸ hi))
  ·by_cases hcc:c'=c
   ·subst hcc;exact⟨_,cu⟩
   ·obtain⟨w2,z2⟩:=I.cell y c' e
    exact⟨w2,z2.sameBut hs hcc⟩
  ·obtain⟨e,n,ne,nf,d⟩:=I.pin p hp
   refine⟨(hs.2 p.1 ?_).trans e,n,ne,nf,d⟩
   intro q
   rw [q,hoc]at e
   have q':oc=p.2:=Ya3 e
   exact d w' (by rw [<- q'];exact hocd)
theorem Hz{M:Model}{A:Around}{E:Value->Shared->Prop}{i:Nat}{x:Str}{v:V}{u:Value}{Q:Unit->Shared->Prop}(I:Inv X aa σ H s)(hN:X.N.Nodup)(hi:X.N[i]?=some x)(hx:Loc X.env.scope x)(r:Bj v u)
  (h:∀s',Inv X aa (σ.set i (some v)) H s'->Q () s') (hf:X.fn x=true\/X.env.scope.names.lookup x=some .local:=by first | exact .inl rfl | exact .inr rfl | assumption):wpAny M A (storeName X.env x u) Q E s :=
 Kd I hN hi hx r (λs' I' _=>h s' I') hf
theorem Inv.call'{s':Shared}{ch:List Addr}(I:Inv X aa σ H s)(ho:s'.os=s.os)(u:Un (frs X.stack) ch H H' s.heap s'.heap)(hok:HOk X.prog X.w H' s'.heap)(hg:AllBare s'.gens)
  (fw:∀b∈ch,(b∈X.ex\/X.s₀.heap.objs.size<=b)/\b≠X.env.locals/\(∀x c,X.env.cells.lookup x=some c->c≠b)/\∀p∈X.pn++aa,p.1≠b):Inv X aa σ H' s':=by
 obtain⟨h',g',d',t',o'⟩:=s'
 have e:o'=s.os:=ho
 subst e
 exact I.call (g':=g') (t':=t') (d':=d') u hok hg fw
end
abbrev XK:=Value->Option Addr->Hp->Prop
abbrev St:=List (Option V)
abbrev VK:=V->Hp->Prop
abbrev TE:=St->Hp->VK->Prop
abbrev TT:=St->Hp->(Bool->Hp->Prop)->Prop
abbrev TA:=St->Hp->(List V->Hp->Prop)->Prop
structure Ends where
 nx:St->Hp->Prop
 rt:VK
 bk:St->Hp->Prop:=λ_ _=>False
 ct:St->Hp->Prop:=λ_ _=>False
abbrev TS:=Ends->St->Hp->Prop
def EP(X:Cx)(aa:List (Addr×Obj))(σ:St)(Q:VK)(u:Value)(s':Shared):Prop:=∃v H',Inv X aa σ H' s'/\Bj v u/\Q v H'
def TP(X:Cx)(aa:List (Addr×Obj))(σ:St)(Q:Bool->Hp->Prop)(b:Bool)(s':Shared):Prop:=∃H',Inv X aa σ H' s'/\Q b H'
def AP(X:Cx)(aa:List (Addr×Obj))(σ:St)(Q:List V->Hp->Prop)(us:List Value)(s':Shared):Prop:=∃vs H',Inv X aa σ H' s'/\Vals vs us/\Q vs H'
def SP(X:Cx)(aa:List (Addr×Obj))(D:Ends)(f:Flow)(s':Shared):Prop :=
 match f with
 | .next=>∃ σ' H',Inv X aa σ' H' s'/\D.nx σ' H'
 | .brk=>∃ σ' H',Inv X aa σ' H' s'/\D.bk σ' H'
 | .cont=>∃ σ' H',Inv X aa σ' H' s'/\D.ct σ' H'
 | .ret u=>∃v σ' H',Inv X aa σ' H' s'/\Bj v u/\D.rt v H'
def PE(X:Cx)(e:Expr)(t:TE):Prop :=
 ∀(aa:List (Addr×Obj)) (s:Shared) (σ:St) (H:Hp) (Q:VK),Inv X aa σ H s->t σ H Q->wpAny (model X.prog X.w) X.A (eval e X.env) (EP X aa σ Q) X.xe s
def PT(X:Cx)(e:Expr)(t:TT):Prop :=
 ∀(aa:List (Addr×Obj)) (s:Shared) (σ:St) (H:Hp) (Q:Bool->Hp->Prop),Inv X aa σ H s->t σ H Q->wpAny (model X.prog X.w) X.A (isTrue e X.env (eval e X.env)) (TP X aa σ Q) X.xe s
def PW(X:Cx)(e:Expr)(t:TT):Prop :=
 ∀(fi:Sem Value) (aa:List (Addr×Obj)) (s:Shared) (σ:St) (H:Hp) (Q:Bool->Hp->Prop),Inv X aa σ H s->t σ H Q->wpAny (model X.prog X.w) X.A (isTrue e X.env fi) (TP X aa σ Q) X.xe s
theorem PW.pt{X:Cx}{e:Expr}{t:TT}(h:PW X e t):PT X e t:=h _
def PA(X:Cx)(es:List Expr)(t:TA):Prop :=
 ∀(pos:Pos) (aa:List (Addr×Obj)) (s:Shared) (σ:St) (H:Hp) (Q:List V->Hp->Prop),Inv X aa σ H s->t σ H Q->wpAny (model X.prog X.w) X.A (spliced (backTo pos (starEach es X.env))) (AP X aa σ Q) X.xe s
def PS(X:Cx)(st:Stmt)(t:TS):Prop :=
 ∀(aa:List (Addr×Obj)) (s:Shared) (σ:St) (H:Hp) (D:Ends),Inv X aa σ H s->t D σ H->wpAny (model X.prog X.w) X.A (exec st X.env) (SP X aa D) X.xe s
def PSs(X:Cx)(st:List Stmt)(t:TS):Prop :=
 ∀(aa:List (Addr×Obj)) (s:Shared) (σ:St) (H:Hp) (D:Ends),Inv X aa σ H s->t D σ H->wpAny (model X.prog X.w) X.A (execs st X.env) (SP X aa D) X.xe s
theorem thn{α:Type}{t:Sem α}{Q Q':α->Shared->Prop}{M:Model}{A:Around}{E:Value->Shared->Prop}{s:Shared}(h:wpAny M A t Q E s)(hQ:∀a s,Q a s->Q' a s):wpAny M A t Q' E s:=Ybk h hQ λ_ _ x=>x
section
variable {X:Cx}
def Qb0(i:Nat):TE:=fun σ H Q=>∃v,σ[i]?=some (some v)/\Q v H
def tC(v:V):TE:=λ_ H Q=>Q v H
theorem Uk{i:Nat}{x:Str}{pos:Pos}(hN:X.N[i]?=some x)(hv:Vis X.env.scope x)(hd:(x==("__debug__" : Str))=false:=by decide) (jj:(x==("__classdict__" : Str))=false:=by decide):PE X (.Name x pos) (Qb0 i):=by
 intro aa s σ H Q I h
 obtain⟨v,e,h⟩:=h
 obtain⟨m,hn,hl⟩:=I.loc
 obtain⟨u,r,l⟩:=hl i x v hN e hv
 have fin:EP X aa σ Q u s:=⟨v,H,I,r,h⟩
 rcases l with⟨hk,hm⟩ | ⟨hk,c,hc,hcell⟩
 ·exact wpAny_Name (wpAny_loadName_local I.ok.kind hk hn hm fin) hd
 ·rcases hk with hk | hk
  ·exact wpAny_Name (wpAny_loadName_cell I.ok.kind hk hc hcell fin) hd
  ·exact wpAny_Name (wpAny_loadName_free I.ok.kind hk hc hcell fin jj) hd
theorem Qb1{i j pos}:PE X (.Constant (.int i) j pos) (tC (.int i)):=λ_ _ _ H _ I h=>wpAny_Constant_int ⟨.int i,H,I.tok _,⟨_,rfl⟩,h⟩
theorem Qff{b j pos}:PE X (.Constant (.bool b) j pos) (tC (.bl b)):=λ_ _ _ H _ I h=>Constant_bool ⟨.bl b,H,I,rfl,h⟩
theorem Qb2{j pos}:PE X (.Constant .none j pos) (tC .non):=λ_ _ _ H _ I h=>Constant_none ⟨.non,H,I,rfl,h⟩
theorem Qb3{x j pos}:PE X (.Constant (.str x) j pos) (tC (.str x)):=λ_ _ _ H _ I h=>Calls.Constant_str ⟨.str x,H,I.tok _,⟨_,rfl⟩,h⟩
def Gl(X:Cx)(x:Str):Prop:=X.env.kindOf x=some .globalImplicit
theorem Fp{E:Value->Shared->Prop}{aa:List (Addr×Obj)}{s:Shared}{σ:St}{H:Hp}{x:Str}{u:Value}{pos:Pos}{Q:Value->Shared->Prop}(I:Inv X aa σ H s)(hg:Gl X x)(hm:X.mg x=some u)(h:Q u s)
  (hd:(x==("__debug__" : Str))=false:=by decide):wpAny (model X.prog X.w) X.A (eval (.Name x pos) X.env) Q E s :=
 Calls.Name_function_global I.ok.kind hg (Calls.loadGlobal_global (by rw [I.ok.glob];exact I.mod.glob.keeps I.bk) hm h) hd
theorem Bw{E:Value->Shared->Prop}{aa:List (Addr×Obj)}{s:Shared}{σ:St}{H:Hp}{x:Str}{u:Value}{pos:Pos}{Q:Value->Shared->Prop}(I:Inv X aa σ H s)(hg:Gl X x)(hm:X.mg x=none)(hv:bootBuiltins x=some u)(h:Q u s)
  (hn:x ≠ "__name__" := by decide) (hd:(x==("__debug__" : Str))=false:=by decide):wpAny (model X.prog X.w) X.A (eval (.Name x pos) X.env) Q E s:=by
 obtain⟨mb,h1,h2⟩:=I.mod.blt
 exact Calls.Name_function_global I.ok.kind hg (Calls.loadGlobal_builtin (by rw [I.ok.glob];exact I.mod.glob.keeps I.bk) hm (by rw [I.ok.blt];exact h1.keeps I.bk) ((h2 x hn).trans hv) h) hd
theorem Qk{x:Str}{v:V}{u:Value}{pos:Pos}(hg:Gl X x)(hm:X.mg x=some u)(r:Bj v u)(hd:(x==("__debug__" : Str))=false:=by decide):PE X (.Name x pos) (tC v) :=
 λ_ _ _ H _ I h=>Fp I hg hm ⟨v,H,I,r,h⟩ hd
variable {a b:Expr}{ta tb:TE}{pos:Pos}
def tB(t:TE):TT:=fun σ H Q=>t σ H λx H1=>∃c,x=.bl c/\Q c H1
theorem Qb4{e:Expr}{t:TE}(h:PE X e t)(he:∀fi,isTrue e X.env fi=(do let v <- fi;standAt e.pos;holding [v] (truthy v)):=by intro _;rfl):PT X e (tB t):=by
 intro aa s σ H Q I hw
 refine isTrue_plain (thn (h aa s σ H _ I hw) λv s1 j7=>Cj j7 λx H1 I1 r1 q1=>?_) (he _)
 obtain⟨d,rfl,q⟩:=q1
 cases r1
 exact Yck ⟨H1,I1,q⟩
variable {tA lr:TT}{rest:List Expr}
def Qi2(t u:TT):TT:=fun σ H Q=>t σ H λc H1=>if c=true then u σ H1 Q else Q false H1
def tOr(t u:TT):TT:=fun σ H Q=>t σ H λc H1=>if c=true then Q true H1 else u σ H1 Q
def Qi3(t:TT):TT:=fun σ H Q=>t σ H λc H1=>Q (!c) H1
theorem X9(ha:PT X a tA):PW X (.BoolOp .And [a] pos) tA:=by
 intro wh aa s σ H Q I h
 refine isTrue_and (thn (ha aa s σ H Q I h) λc s1 e=>?_)
 cases c with
 | true=>exact isTrue_and_nil e
 | false=>exact e
theorem Qb5(ha:PT X a tA):PW X (.BoolOp .Or [a] pos) tA:=by
 intro wh aa s σ H Q I h
 refine isTrue_or (thn (ha aa s σ H Q I h) λc s1 e=>?_)
 cases c with
 | false=>exact isTrue_or_nil e
 | true=>exact e
theorem Qb6(ha:PT X a tA)(hb:PW X (.BoolOp .And (b :: rest) pos) lr):PW X (.BoolOp .And (a :: b :: rest) pos) (Qi2 tA lr):=by
 intro wh aa s σ H Q I h
 refine isTrue_and (thn (ha aa s σ H _ I h) λc s1 ⟨H1,I1,q1⟩=>?_)
 cases c with
 | true=>exact hb wh aa s1 σ H1 Q I1 q1
 | false=>exact⟨H1,I1,q1⟩
theorem Qfg(ha:PT X a tA)(hb:PW X (.BoolOp .Or (b :: rest) pos) lr):PW X (.BoolOp .Or (a :: b :: rest) pos) (tOr tA lr):=by
 intro wh aa s σ H Q I h
 refine isTrue_or (thn (ha aa s σ H _ I h) λc s1 ⟨H1,I1,q1⟩=>?_)
 cases c with
 | true=>exact⟨H1,I1,q1⟩
 | false=>exact hb wh aa s1 σ H1 Q I1 q1
theorem Qb7(ha:PT X a tA):PT X (.UnaryOp .Not a pos) (Qi3 tA):=by
 intro aa s σ H Q I h
 exact isTrue_not (ha aa s σ H (λc H1=>Q (!c) H1) I h)
def Qfh(ta tb:TE):TE:=fun σ H Q=>ta σ H λx H1=>∃c,x=.bl c/\if c=true then tb σ H1 Q else Q (.bl false) H1
def Qi4(ta tb:TE):TE:=fun σ H Q=>ta σ H λx H1=>∃c,x=.bl c/\if c=true then Q (.bl true) H1 else tb σ H1 Q
def Qfi(ta:TE):TE:=fun σ H Q=>ta σ H λx H1=>∃c,x=.bl c/\Q (.bl (!c)) H1
theorem Qb8{op}{t:TE}(h:PE X a t):PE X (.BoolOp op [a] pos) t:=λaa s σ H Q I hw=>BoolOp_one (h aa s σ H Q I hw)
theorem Qb9(ha:PE X a ta)(hb:PE X (.BoolOp .And (b :: rest) pos) tb):PE X (.BoolOp .And (a :: b :: rest) pos) (Qfh ta tb):=by
 intro aa s σ H Q I h
 refine BoolOp_and (thn (ha aa s σ H _ I h) λv s1 tf=>Cj tf λx H1 I1 r1 q1=>?_)
 obtain⟨c,rfl,q1⟩:=q1
 cases r1
 refine Yck ?_
 cases c with
 | true=>exact hb aa s1 σ H1 Q I1 q1
 | false=>exact⟨.bl false,H1,I1,rfl,q1⟩
theorem Qfj(ha:PE X a ta)(hb:PE X (.BoolOp .Or (b :: rest) pos) tb):PE X (.BoolOp .Or (a :: b :: rest) pos) (Qi4 ta tb):=by
 intro aa s σ H Q I h
 refine BoolOp_or (thn (ha aa s σ H _ I h) λv s1 um=>Cj um λx H1 I1 r1 q1=>?_)
 obtain⟨c,rfl,q1⟩:=q1
 cases r1
 refine Yck ?_
 cases c with
 | false=>exact hb aa s1 σ H1 Q I1 q1
 | true=>exact⟨.bl true,H1,I1,rfl,q1⟩
theorem Qca(ha:PE X a ta):PE X (.UnaryOp .Not a pos) (Qfi ta):=by
 intro aa s σ H Q I h
 refine UnaryOp_ (thn (ha aa s σ H _ I h) λv s1 uk=>Cj uk λx H1 I1 r1 q1=>?_)
 obtain⟨c,rfl,q1⟩:=q1
 cases r1
 exact not_of (Yck ⟨.bl (!c),H1,I1,rfl,q1⟩)
end
def Du(K:PySem.W.Frag)(H:Hp)(a:Addr)(xs:List V):Prop :=
 Rd H a (.lst xs) \/
  ∃(o:Obj) (af:Array Value) (n:Nat),K.lookup a=some o/\o.cls=.type "list" /\ o.dict=none/\o.data=.seq af n/\af.size<=sizeLine/\Vals xs af.toList
def Gi(K:PySem.W.Frag)(H:Hp)(a:Addr)(xs:List V):Prop :=
 Rd H a (.tup xs) \/
  ∃(o:Obj) (af:Array Value) (n:Nat),K.lookup a=some o/\o.cls=.type "tuple" /\ o.data=.seq af n/\af.size<=sizeLine/\Vals xs af.toList
def Qi5:Value->Option V
 | .none=>some .non
 | .bool b=>some (.bl b)
 | .int i _=>some (.int i)
 | .str x _=>some (.str x)
 | .bytes b _=>some (.byt b)
 | .float b _=>some (.flt b)
 | .ref a=>some (.ref a)
 | .type n=>some (.ty n)
 | _=>none
theorem Bj.abs{x:V}{u:Value}(r:Bj x u):Qi5 u=some x:=by
 cases x with
 | non=>cases r;rfl
 | bl _=>cases r;rfl
 | int _=>obtain⟨t,rfl⟩:=r;rfl
 | str _=>obtain⟨t,rfl⟩:=r;rfl
 | byt _=>obtain⟨t,rfl⟩:=r;rfl
 | flt _=>obtain⟨t,rfl⟩:=r;rfl
 | ref _=>cases r;rfl
 | ty _=>cases r;rfl
theorem Bj.inj{x y:V}{u:Value}(r:Bj x u)(q:Bj y u):x=y:=Ya3 (r.abs.symm.trans q.abs)
theorem Vals.inj:∀{xs ys:List V} {us:List Value},Vals xs us->Vals ys us->xs=ys
 | _,_,_,.nil,.nil=>rfl
 | _,_,_,.cons r t,.cons r' t'=>by rw [r.inj r',Vals.inj t t']
section
variable {X:Cx}{aa:List (Addr×Obj)}{σ:St}{H:Hp}{s:Shared}{a:Addr}{xs ys:List V}
theorem Du.of{K:PySem.W.Frag}(h:H a=some (.lst xs)):Du K H a xs:=.inl (.inl h)
theorem Gi.of{K:PySem.W.Frag}(h:H a=some (.tup xs)):Gi K H a xs:=.inl (.inl h)
theorem Inv.list(I:Inv X aa σ H s)(h:Du X.K H a xs):∃af:List Value,Vals xs af/\PlainL s.heap a af.toArray/\xs.length<=sizeLine:=by
 rcases h with h | ⟨o,af,n,hk,hc,hd,hs,hz,r⟩
 ·obtain⟨z,af,n,r,e⟩:=h.ok I.hok
  exact⟨af,r,⟨_,n,e,rfl,rfl,rfl⟩,z⟩
 ·refine⟨af.toList,r,⟨o,n,I.kIn a o hk,hc,hd,by simpa using hs⟩,?_⟩
  have e:=r.length
  simp only [Array.length_toList]at e
  omega
theorem Inv.tuple(I:Inv X aa σ H s)(h:Gi X.K H a xs):∃af:List Value,Vals xs af/\IsTup s.heap a af.toArray/\xs.length<=sizeLine:=by
 rcases h with h | ⟨o,af,n,hk,hc,hs,hz,r⟩
 ·obtain⟨z,af,r,p⟩:=h.ok I.hok
  exact⟨af,r,p,z⟩
 ·refine⟨af.toList,r,⟨o,I.kIn a o hk,hc,n,by simpa using hs⟩,?_⟩
  have e:=r.length
  simp only [Array.length_toList]at e
  omega
theorem Inv.list_inj(I:Inv X aa σ H s)(h:Du X.K H a xs)(h':Du X.K H a ys):xs=ys:=by
 obtain⟨af,r,⟨o,n,e,_,_,d⟩,_⟩:=I.list h
 obtain⟨its',r',⟨o',n',e',_,_,d'⟩,_⟩:=I.list h'
 rw [e]at e';cases e'
 rw [d]at d'
 injection d' with d1 _
 have:af=its':=by simpa using Ydl Array.toList d1
 subst this
 exact r.inj r'
theorem Inv.tuple_inj(I:Inv X aa σ H s)(h:Gi X.K H a xs)(h':Gi X.K H a ys):xs=ys:=by
 obtain⟨af,r,⟨o,e,_,n,d⟩,_⟩:=I.tuple h
 obtain⟨its',r',⟨o',e',_,n',d'⟩,_⟩:=I.tuple h'
 rw [e]at e';cases e'
 rw [d]at d'
 injection d' with d1 _
 have:af=its':=by simpa using Ydl Array.toList d1
 subst this
 exact r.inj r'
end
abbrev Cx.wish(X:Cx)(E:Value->Shared->Prop):Cx:={ X with xe:=E }
abbrev Cx.nox(X:Cx):Cx:=X.wish λ_ _=>False
theorem Cx.Ok.wish{X:Cx}(ok:X.Ok)(E:Value->Shared->Prop):(X.wish E).Ok :=
 ⟨ok.mod,ok.kind,ok.glob,ok.blt,ok.above,ok.inj,ok.has,ok.cab,ok.hd,ok.frames,ok.stk,ok.exf,ok.bs,ok.bsz,ok.noex,ok.exfs,ok.funs,ok.frf⟩
theorem Cx.Ok.unwish{X:Cx}{E:Value->Shared->Prop}(ok:(X.wish E).Ok):X.Ok :=
 ⟨ok.mod,ok.kind,ok.glob,ok.blt,ok.above,ok.inj,ok.has,ok.cab,ok.hd,ok.frames,ok.stk,ok.exf,ok.bs,ok.bsz,ok.noex,ok.exfs,ok.funs,ok.frf⟩
section
variable {X:Cx}{aa:List (Addr×Obj)}{σ:St}{H:Hp}{s:Shared}{E:Value->Shared->Prop}
theorem Inv.wish(I:Inv X aa σ H s)(E:Value->Shared->Prop):Inv (X.wish E) aa σ H s:=⟨I.ok.wish E,I.os,I.bare,I.base,I.loc,I.cell,I.free,I.freeC,I.pin,I.hok,I.len⟩
theorem Inv.unwish(I:Inv (X.wish E) aa σ H s):Inv X aa σ H s:=⟨I.ok.unwish,I.os,I.bare,I.base,I.loc,I.cell,I.free,I.freeC,I.pin,I.hok,I.len⟩
theorem SP.unwish{D:Ends}{f:Flow}{s':Shared}(h:SP (X.wish E) aa D f s'):SP X aa D f s':=by
 cases f with
 | next=>obtain⟨σ',H',I,q⟩:=h;exact⟨σ',H',I.unwish,q⟩
 | brk=>obtain⟨σ',H',I,q⟩:=h;exact⟨σ',H',I.unwish,q⟩
 | cont=>obtain⟨σ',H',I,q⟩:=h;exact⟨σ',H',I.unwish,q⟩
 | ret u=>obtain⟨v,σ',H',I,r,q⟩:=h;exact⟨v,σ',H',I.unwish,r,q⟩
theorem PSs.nox{st:List Stmt}{t:TS}(h:PSs X.nox st t):PSs X st t:=λaa s σ H D I hw =>
 Ybk (h aa s σ H D (I.wish _) hw) (λ_ _ q=>q.unwish) λ_ _ z=>False.elim z
end
section
variable {X:Cx}{st:Stmt}{rest:List Stmt}{t u:TS}{e:Expr}{te:TE}{pos:Pos}
def Qfk:TS:=λD σ H=>D.nx σ H
def Qi6(t u:TS):TS:=λD σ H=>t { D with nx:=u D } σ H
theorem Ya:PSs X [] Qfk:=λ_ _ σ H _ I h=>Yfi ⟨σ,H,I,h⟩
theorem Mx(h1:PS X st t)(h2:PSs X rest u):PSs X (st :: rest) (Qi6 t u):=by
 intro aa s σ H D I h
 refine wpAny_execs_cons (thn (h1 aa s σ H { D with nx:=u D } I h) λf s1 q=>?_)
 cases f with
 | next =>
  obtain⟨σ',H',I',q⟩:=q
  exact h2 aa s1 σ' H' D I' q
 | ret v=>exact q
 | brk=>exact q
 | cont=>exact q
theorem Ln(h1:PS X st t):PSs X [st] t:=by
 intro aa s σ H D I h
 refine wpAny_execs_cons (thn (h1 aa s σ H D I h) λf s1 q=>?_)
 cases f with
 | next=>exact Yfi q
 | ret v=>exact q
 | brk=>exact q
 | cont=>exact q
theorem Inv.quiet{aa:List (Addr×Obj)}{σ:St}{H:Hp}{s:Shared}(I:Inv X aa σ H s):interactive X.env=false:=by simp [interactive,I.ok.kind]
def Qfl(te:TE):TS:=λD σ H=>te σ H λ_ H1=>D.nx σ H1
theorem Yb(he:PE X e te)(hs:swapsWith e none pos.line X.env=pure false:=by rfl):PS X (.Expr e pos) (Qfl te):=by
 intro aa s σ H D I h
 exact wpAny_Expr_any (thn (he aa s σ H _ I h) λv s1 tm=>Cj tm λx H1 I1 r1 q1=>⟨σ,H1,I1,q1⟩) I.quiet hs
def Qi7(te:TE):TS:=λD σ H=>te σ H D.rt
theorem Qcb(he:PE X e te):PS X (.Return (some e) pos) (Qi7 te):=by
 intro aa s σ H D I h
 exact wpAny_Return_some (thn (he aa s σ H _ I h) λv s1 uv=>Cj uv λx H1 I1 r1 q1=>⟨x,σ,H1,I1,r1,q1⟩)
def Qi8(c:TT)(t u:TS):TS:=λD σ H=>c σ H λb H1=>if b=true then t D σ H1 else u D σ H1
theorem Qfm{c:Expr}{a b:List Stmt}{tc:TT}(hc:PT X c tc)(ha:PSs X a t)(hb:PSs X b u):PS X (.If c a b pos) (Qi8 tc t u):=by
 intro aa s σ H D I h
 refine wpAny_If (thn (hc aa s σ H _ I h) λd s1 ⟨H1,I1,q1⟩=>?_)
 cases d with
 | true=>exact ha aa s1 σ H1 D I1 q1
 | false=>exact hb aa s1 σ H1 D I1 q1
end
abbrev TG:=V->St->Hp->(St->Hp->Prop)->Prop
abbrev TGs:=List V->St->Hp->(St->Hp->Prop)->Prop
def PG(X:Cx)(dz:Expr)(t:TG):Prop :=
 ∀(aa:List (Addr×Obj)) (s:Shared) (σ:St) (H:Hp) (v:V) (u:Value) (Q:St->Hp->Prop),Inv X aa σ H s->Bj v u->t v σ H Q ->
  wpAny (model X.prog X.w) X.A (assign dz X.env u) (λ_ s'=>∃ σ' H',Inv X aa σ' H' s'/\Q σ' H') X.xe s
def PGs(X:Cx)(ts:List Expr)(t:TGs):Prop :=
 ∀(aa:List (Addr×Obj)) (s:Shared) (σ:St) (H:Hp) (vs:List V) (us:List Value) (Q:St->Hp->Prop),Inv X aa σ H s->Vals vs us->t vs σ H Q ->
  wpAny (model X.prog X.w) X.A (assignInOrder ((assignEach ts X.env).map (·.2)) us) (λ_ s'=>∃ σ' H',Inv X aa σ' H' s'/\Q σ' H') X.xe s
abbrev TSet:=V->V->V->Hp->(Hp->Prop)->Prop
def PSet(X:Cx)(t:TSet):Prop :=
 ∀(aa:List (Addr×Obj)) (s:Shared) (σ:St) (H:Hp) (o i v:V) (ov iv u:Value) (Q:Hp->Prop),Inv X aa σ H s->Bj o ov->Bj i iv->Bj v u->t o i v H Q ->
  wpAny (model X.prog X.w) X.A (setItem ov iv u) (λ_ s'=>∃H',Inv X aa σ H' s'/\Q H') X.xe s
section
variable {X:Cx}{pos:Pos}
def Ul(i:Nat):TG:=λv σ H Q=>Q (σ.set i (some v)) H
theorem Yc{i:Nat}{x:Str}(hN:X.N.Nodup)(hi:X.N[i]?=some x)(hx:Loc X.env.scope x)(hf:X.fn x=true\/X.env.scope.names.lookup x=some .local:=by first | exact .inl rfl | exact .inr rfl | assumption):PG X (.Name x pos) (Ul i):=by
 intro aa s σ H v u Q I r h
 exact wpAny_assign_Name (Hz I hN hi hx r (λs' I'=>⟨_,H,I',h⟩) hf)
def Qi9:TGs:=λvs σ H Q=>vs=[]/\Q σ H
def Qfn(t:TG)(u:TGs):TGs:=λvs σ H Q=>∃v r,vs=v :: r/\t v σ H fun σ' H'=>u r σ' H' Q
theorem Yd:PGs X [] Qi9:=by
 intro aa s σ H vs us Q I r h
 obtain⟨e,h⟩:=h
 subst e
 cases r
 exact assignInOrder_nil ⟨σ,H,I,h⟩
theorem Um{e:Expr}{es:List Expr}{t:TG}{u:TGs}(h1:PG X e t)(h2:PGs X es u)
  (hs:(assignEach (e :: es) X.env).map (·.2)=assign e X.env :: (assignEach es X.env).map (·.2):=by rfl):PGs X (e :: es) (Qfn t u):=by
 intro aa s σ H vs us Q I r h
 obtain⟨v,vr,e1,h⟩:=h
 subst e1
 cases r with
 | cons r rr =>
  rw [hs]
  refine assignInOrder_cons (thn (h1 aa s σ H _ _ _ I r h) λ_ s1 sr=>?_)
  obtain⟨σ1,H1,I1,q1⟩:=sr
  exact h2 aa s1 σ1 H1 _ _ Q I1 rr q1
def Qja(K:PySem.W.Frag)(n:Nat)(t:TGs):TG:=λv σ H Q=>∃a xs,v=.ref a/\Gi K H a xs/\xs.length=n/\t xs σ H Q
theorem Qcc{es:List Expr}{k:Nat}{t:TGs}{n:Nat}(hc:X.calm=true)(h:PGs X es t)
  (hn:(assignEach es X.env).length=n:=by rfl) (ay:(assignEach es X.env).findIdx? (·.1)=none:=by rfl):PG X (.Tuple es k pos) (Qja X.K n t):=by
 intro aa s σ H v u Q I r hw
 obtain⟨a,xs,e1,hq,hl,hw⟩:=hw
 subst e1
 cases r
 obtain⟨af,rv,ht,hz⟩:=I.tuple hq
 refine assign_Tuple_tuple (I.ok.hd hc) ht (by simp [hn,<- hl,rv.length]) ay λh' hx=>?_
 have I1:Inv X aa σ H { s with heap:=h' }:=I.kept (t':=s.toks) λb o e=>hx b o (Yaj (Yae e)) e
 exact h aa _ σ H xs _ Q I1 (by simpa using rv) hw
def Qjb(to ti:TE)(t:TSet):TG:=λv σ H Q=>to σ H λo H1=>ti σ H1 λi H2=>t o i v H2 λH3=>Q σ H3
theorem Qcd{o i:Expr}{to ti:TE}{t:TSet}(ho:PE X o to)(hi:PE X i ti)(hs:PSet X t)
  (ha:∀v,assign (.Subscript o i pos) X.env v=(do
   let ov <- holding [v] (eval o X.env)
   let iv <- holding [v,ov] (eval i X.env)
   standAt pos
   holding [v,ov,iv] (setItem ov iv v)
   release [v,ov,iv] []):=by intro _;rfl):PG X (.Subscript o i pos) (Qjb to ti t):=by
 intro aa s σ H v u Q I r h
 rw [ha]
 refine Yaa (Ya4 (thn (ho aa s σ H _ I h) λov s1 uf=>Cj uf λx H1 I1 r1 q1=>?_))
 refine Yaa (Ya4 (thn (hi aa s1 σ H1 _ I1 q1) λiv s2 ud=>Cj ud λy H2 I2 r2 q2=>?_))
 refine Yaa (Yek (Yaa (Ya4 (thn (hs aa s2 σ H2 x y v ov iv u _ I2 r1 r2 r q2) λ_ s3 ⟨H3,I3,q3⟩=>?_))))
 exact wpAny_release ⟨σ,H3,I3,q3⟩
def Ye(te:TE)(g:TG):TS:=λD σ H=>te σ H λx H1=>g x σ H1 D.nx
theorem Qce{tg e:Expr}{te:TE}{g:TG}(he:PE X e te)(hg:PG X tg g)(hs:swapsWithSole [tg] e pos.line X.env=pure false:=by rfl)(hw:swappedStores [tg] e X.env=pure none:=by rfl)
  (h1:(assignEach [tg] X.env).map (·.2)=[assign tg X.env]:=by rfl):PS X (.Assign [tg] e pos) (Ye te g):=by
 intro aa s σ H D I h
 refine wpAny_Assign_stores (thn (he aa s σ H _ I h) λv s1 vo=>Cj vo λx H1 I1 r1 q1=>?_) hs hw
 rw [h1]
 exact thn (hg aa s1 σ H1 x v _ I1 r1 q1) λ_ s2 q=>q
theorem Qcf{i:Nat}{x:Str}{e:Expr}{te:TE}{c9:Pos}(hN:X.N.Nodup)(hi:X.N[i]?=some x)(hx:Loc X.env.scope x)(he:PE X e te)(hs:swapsWith e (some (.Name x c9)) pos.line X.env=pure false:=by rfl)(hf:X.fn x=true\/X.env.scope.names.lookup x=some .local:=by first | exact .inl rfl | exact .inr rfl | assumption) :
  PS X (.Assign [.Name x c9] e pos) (Ye te (Ul i)):=by
 intro aa s σ H D I h
 refine wpAny_Assign_Name (thn (he aa s σ H _ I h) λv s1 vj=>Cj vj λy H1 I1 r1 q1=>?_) hs
 exact Hz I1 hN hi hx r1 (λs2 I2=>⟨_,H1,I2,q1⟩) hf
end
section
variable {X:Cx}{pos:Pos}
end
structure It where
 go:Nat->Hp->Prop
 yld:Nat->Hp->V->Hp->Prop
 stop:Nat->Hp->Prop
def Ei(X:Cx)(aa:List (Addr×Obj))(H:Hp)(b:Addr):Prop :=
 H b=none/\b≠X.env.locals/\b∉X.fs/\(b∈X.ex\/X.s₀.heap.objs.size<=b)/\(∀x c,X.env.cells.lookup x=some c->c≠b)/\∀p∈X.pn++aa,p.1≠b
theorem Inv.fpOk{X:Cx}{aa:List (Addr×Obj)}{σ:St}{H H':Hp}{s:Shared}{b:Addr}(I:Inv X aa σ H s)(hb:s.heap.objs.size<=b)(hn:H' b=none):Ei X aa H' b:=by
 refine⟨hn,Ydv (Yam I.lt hb),I.nofs hb,.inr (Yas I.sz hb),λx c e z=>?_,λp hp z=>?_⟩
 ·obtain⟨v,q⟩:=I.cell x c e
  exact absurd (Yam q.lt (by rw [z];exact hb)) (Yc9 _)
 ·exact absurd (Yam (Yae (I.pin p hp).1) (by rw [z];exact hb)) (Yc9 _)
structure Turn(P:Program)(w:World)(K:PySem.W.Frag)(tg:Expr)(J:It)(fp:List Addr)(it:Addr)(tn:Nat->Heap->Prop):Prop where
 mem:it∈fp
 obj:∀i h,tn i h->∀b∈fp,∃o,h.get? b=some o/\∀v,o.data≠.cell v
 keep:∀i h h',tn i h->(∀b∈fp,∀o,h.get? b=some o->h'.get? b=some o)->tn i h'
 item:∀(X:Cx),X.prog=P->X.w=w->X.K=K->X.calm=true->∀(i:Nat) (aa:List (Addr×Obj)) (s:Shared) (σ:St) (H:Hp) (E:Value->Shared->Prop),Inv X aa σ H s->(∀b∈fp,Ei X aa H b)->tn i s.heap->J.go i H ->
  wpAny (model P w) X.A (pyNext (.ref it)) (λr s1=>∃u,r=some u /\
   wpAny (model P w) X.A (letOwnedTupleGo tg (.ref it) u) (λ_ s2=>∃x H',Inv X aa σ H' s2/\Bj x u/\J.yld i H x H'/\tn (i+1) s2.heap/\∀b∈fp,H' b=none) E s1) E s
 done:∀(X:Cx),X.prog=P->X.w=w->X.K=K->X.calm=true->∀(i:Nat) (aa:List (Addr×Obj)) (s:Shared) (σ:St) (H:Hp) (E:Value->Shared->Prop),Inv X aa σ H s->(∀b∈fp,Ei X aa H b)->tn i s.heap->J.stop i H ->
  wpAny (model P w) X.A (pyNext (.ref it)) (λr s1=>r=none/\Inv X aa σ H s1) E s
 self:∀(A:Around) (i:Nat) (s:Shared) (Q:Value->Shared->Prop) (E:Value->Shared->Prop),tn i s.heap->Q (.ref it) s->wpAny (model P w) A (pyIter (.ref it)) Q E s
abbrev TI:=St->Hp->(It->Hp->Prop)->Prop
def PIE(X:Cx)(aa:List (Addr×Obj))(σ:St)(tg:Expr)(R:It->Hp->Prop)(ww:Value)(s2:Shared):Prop :=
 ∃(it:Addr) (fp:List Addr) (tn:Nat->Heap->Prop) (J:It) (H':Hp),ww=.ref it/\Inv X aa σ H' s2/\Turn X.prog X.w X.K tg J fp it tn/\tn 0 s2.heap/\(∀b∈fp,Ei X aa H' b)/\R J H'
def PI(X:Cx)(tg aw:Expr)(wi:TI):Prop :=
 ∀(aa:List (Addr×Obj)) (s:Shared) (σ:St) (H:Hp) (R:It->Hp->Prop),Inv X aa σ H s->wi σ H R ->
  wpAny (model X.prog X.w) X.A (eval aw X.env) (λv s1=>wpAny (model X.prog X.w) X.A (pyIter v) (PIE X aa σ tg R) X.xe s1) X.xe s
theorem Ql{M:Model}{A:Around}{E:Value->Shared->Prop}{s:Shared}{tg:Expr}{it:Addr}{u:Value}{o:Obj}{n:String}{vs:Array Value}{Q:Unit->Shared->Prop}(ho:s.heap.get? it=some o)(hc:o.cls=.type n)(hd:o.data=.fields vs)
  (hn:["enumerate","zip","dict_itemiterator","dict_reverseitemiterator","odict_iterator","itertools.zip_longest","itertools.pairwise"].contains n=false) (hQ:Q () s):wpAny M A (letOwnedTupleGo tg (.ref it) u) Q E s:=by
 unfold letOwnedTupleGo
 cases tg <;> first
  | exact Yab hQ
  | (cases u <;> first
    | exact Yab hQ
    | (refine Yaa (wpAny_load ho ?_)
       rw [hc, hd]
       show wpAny M A (if (["enumerate", "zip", "dict_itemiterator", "dict_reverseitemiterator", "odict_iterator", "itertools.zip_longest", "itertools.pairwise"].contains n && vs[0]? == some (rawInt _)) = true then _ else _) Q E s
       rw [Yah (by intro h; rw [hn, Yce] at h; cases h)]
       exact Yab hQ))
def Itl(K:PySem.W.Frag)(a:Addr):It :=
 ⟨λi H=>∃xs x,Du K H a xs/\xs[i]?=some x,λi H x H'=>H'=H/\∀xs,Du K H a xs->xs[i]?=some x,λi H=>∃xs,Du K H a xs/\xs.length<=i⟩
def Itt(K:PySem.W.Frag)(a:Addr):It :=
 ⟨λi H=>∃xs x,Gi K H a xs/\xs[i]?=some x,λi H x H'=>H'=H/\∀xs,Gi K H a xs->xs[i]?=some x,λi H=>∃xs,Gi K H a xs/\xs.length<=i⟩
def Itr(lo:Int)(n:Nat):It:=⟨λi _=>i < n,λi H x H'=>H'=H/\x=.int (lo+i),λi _=>n<=i⟩
theorem Sb{P:Program}{w:World}{K:PySem.W.Frag}{tg:Expr}(a it:Addr):Turn P w K tg (Itl K a) [it] it (λi h=>h.IsListIter it a i) where
 mem:=by simp
 obj:=λi h st b hb=>by
  have e:b=it:=by simpa using hb
  subst e
  obtain⟨o,e,c,d⟩:=st
  exact⟨o,e,λv z=>by rw [d]at z;cases z⟩
 keep:=λi h h' st k=>st.at λo e=>k it (by simp) o e
 item:=by
  intro X hP hw hK hc i aa s σ H E I hf st hg
  subst hP hw hK
  obtain⟨xs,x,hq,hx⟩:=hg
  obtain⟨af,rv,p,hz⟩:=I.list hq
  obtain⟨u,hu,ru⟩:=rv.get hx
  obtain⟨f0,f1,f2,f3,f4,f5⟩:=hf it (by simp)
  refine Yev st p.isList (x:=u) (by simpa using hu) λh' ai sb=>?_
  have I1:Inv X aa σ H { s with heap:=h' }:=I.turned (t':=s.toks) (λb o hb e=>(sb.2 b hb).trans e) f0 f1 f3 f4 f5
  obtain⟨o,e,c,d⟩:=id ai
  exact⟨u,rfl,Ql (s:={ s with heap:=h' }) e c d (by decide) ⟨x,H,I1,ru,⟨rfl,λys hy=>by rw [I.list_inj hy hq];exact hx⟩,ai,λb hb=>(hf b hb).1⟩⟩
 done:=by
  intro X hP hw hK hc i aa s σ H E I hf st hg
  subst hP hw hK
  obtain⟨xs,hq,hx⟩:=hg
  obtain⟨af,rv,p,hz⟩:=I.list hq
  obtain⟨f0,f1,f2,f3,f4,f5⟩:=hf it (by simp)
  have hl:=rv.length
  exact Ye6 (I.ok.hd hc) st p.isList (by simp;omega) λh' eb=>⟨rfl,I.turned (t':=s.toks) (λb o hb e=>eb b o hb e) f0 f1 f3 f4 f5⟩
 self:=λ_ _ _ _ _ st h=>wpAny_pyIter_listiter st h
theorem Oq{P:Program}{w:World}{K:PySem.W.Frag}{tg:Expr}(a it:Addr):Turn P w K tg (Itt K a) [it] it (λi h=>h.IsTupleIter it a i) where
 mem:=by simp
 obj:=λi h st b hb=>by
  have e:b=it:=by simpa using hb
  subst e
  obtain⟨o,e,c,d⟩:=st
  exact⟨o,e,λv z=>by rw [d]at z;cases z⟩
 keep:=λi h h' st k=>st.at λo e=>k it (by simp) o e
 item:=by
  intro X hP hw hK hc i aa s σ H E I hf st hg
  subst hP hw hK
  obtain⟨xs,x,hq,hx⟩:=hg
  obtain⟨af,rv,p,hz⟩:=I.tuple hq
  obtain⟨u,hu,ru⟩:=rv.get hx
  obtain⟨f0,f1,f2,f3,f4,f5⟩:=hf it (by simp)
  refine wpAny_pyNext_tuple_item st (show s.heap.IsTuple a af.toArray from p) (x:=u) (by simpa using hu) λh' ai sb=>?_
  have I1:Inv X aa σ H { s with heap:=h' }:=I.turned (t':=s.toks) (λb o hb e=>(sb.2 b hb).trans e) f0 f1 f3 f4 f5
  obtain⟨o,e,c,d⟩:=id ai
  exact⟨u,rfl,Ql (s:={ s with heap:=h' }) e c d (by decide) ⟨x,H,I1,ru,⟨rfl,λys hy=>by rw [I.tuple_inj hy hq];exact hx⟩,ai,λb hb=>(hf b hb).1⟩⟩
 done:=by
  intro X hP hw hK hc i aa s σ H E I hf st hg
  subst hP hw hK
  obtain⟨xs,hq,hx⟩:=hg
  obtain⟨af,rv,p,hz⟩:=I.tuple hq
  obtain⟨f0,f1,f2,f3,f4,f5⟩:=hf it (by simp)
  have hl:=rv.length
  exact wpAny_pyNext_tuple_end (I.ok.hd hc) st (show s.heap.IsTuple a af.toArray from p) (by simp;omega) λh' eb=>⟨rfl,I.turned (t':=s.toks) (λb o hb e=>eb b o hb e) f0 f1 f3 f4 f5⟩
 self:=λ_ _ _ _ _ st h=>wpAny_pyIter_tupleiter st h
theorem Os{P:Program}{w:World}{K:PySem.W.Frag}{tg:Expr}(it:Addr)(lo:Int)(n:Nat):Turn P w K tg (Itr lo n) [it] it (λi h=>IsRangeIter h it (lo+(i:Nat) * 1) ((n:Int) - (i:Nat)) 1) where
 mem:=by simp
 obj:=λi h st b hb=>by
  have e:b=it:=by simpa using hb
  subst e
  exact⟨_,st,λv z=>by
   have z':Data.fields _=Data.cell v:=z
   cases z'⟩
 keep:=λi h h' st k=>k it (by simp) _ st
 item:=by
  intro X hP hw hK hc i aa s σ H E I hf st hg
  subst hP hw hK
  obtain⟨f0,f1,f2,f3,f4,f5⟩:=hf it (by simp)
  have W:=Walks.range (prog:=X.prog) (w:=X.w) (I.ok.hd hc) it lo 1 n
  refine W.item i s _ _ hg st λv h' tk hv ai kk=>?_
  obtain⟨t,rfl⟩:=hv
  have I1:Inv X aa σ H { s with heap:=h',toks:=tk }:=I.turned (λb o hb e=>kk b o (by simpa using hb) e) f0 f1 f3 f4 f5
  refine⟨_,rfl,Ql (s:={ s with heap:=h',toks:=tk }) (n := "range_iterator") ai rfl rfl (by decide) ⟨.int (lo+i),H,I1,⟨t,?_⟩,⟨rfl,rfl⟩,ai,λb hb=>(hf b hb).1⟩⟩
  rw [Int.mul_one]
 done:=by
  intro X hP hw hK hc i aa s σ H E I hf st hg
  subst hP hw hK
  obtain⟨f0,f1,f2,f3,f4,f5⟩:=hf it (by simp)
  exact wpAny_pyNext_range_end (I.ok.hd hc) st (by have:n<=i:=hg;omega) λh' eb=>⟨rfl,I.turned (t':=s.toks) (λb o hb e=>eb b o hb e) f0 f1 f3 f4 f5⟩
 self:=λ_ _ _ _ _ st h=>wpAny_pyIter_rangeiter st h
section
variable {X:Cx}{tg:Expr}
theorem Uo{aa:List (Addr×Obj)}{σ:St}{H:Hp}{s:Shared}{R:It->Hp->Prop}{E:Value->Shared->Prop}{lo hi:Int}{t u v:Tok}{tk:Nat}(I:Inv X aa σ H s)(h1:-(2 ^ 62)<=lo)(h2:lo < 2 ^ 62)(h3:-(2 ^ 62)<=hi)(h4:hi < 2 ^ 62)
  (q:R (Itr lo (hi - lo).toNat) H):wpAny (model X.prog X.w) X.A (pyIter (.ref s.heap.objs.size)) (PIE X aa σ tg R) E { s with heap:=s.heap.push { cls:=.type "range",data:=.fields #[.int lo t,.int hi u,.int 1 v] },toks:=tk }:=by
 refine wpAny_pyIter_range (IsRange.new ..) (small_one h1 h2 h3 h4) ?_
 have I1:Inv X aa σ H { s with heap:=s.heap.push { cls:=.type "range",data:=.fields #[.int lo t,.int hi u,.int 1 v] },toks:=tk }:=I.kept λb o e=>Heap.get?_push_of_some _ e
 refine⟨(s.heap.push { cls:=.type "range",data:=.fields #[.int lo t,.int hi u,.int 1 v] }).objs.size,[(s.heap.push { cls:=.type "range",data:=.fields #[.int lo t,.int hi u,.int 1 v] }).objs.size],_,_,H,rfl,
  I1.kept (t':=tk) λb o e=>Heap.get?_push_of_some _ e,Os _ lo (hi - lo).toNat,?_,λb hb=>?_,q⟩
 ·have e1:lo+((0:Nat):Int) * 1=lo:=by simp
  have e2:(((hi - lo).toNat:Nat):Int) - ((0:Nat):Int)=Builtin.Range.rangeSize lo hi 1:=by rw [rangeSize_one];split <;> omega
  show IsRangeIter _ _ (lo+((0:Nat):Int) * 1) ((((hi - lo).toNat:Nat):Int) - ((0:Nat):Int)) 1
  rw [e1,e2]
  exact Heap.get?_push_size _ rfl
 ·have e:b=(s.heap.push { cls:=.type "range",data:=.fields #[.int lo t,.int hi u,.int 1 v] }).objs.size:=by simpa using hb
  subst e
  exact I1.fpOk (Yaf _) (I1.hok.fresh (Yaf _))
def Qfo(ta:TA):TI:=fun σ H R=>ta σ H λvs H1=>∃j:Int,vs=[.int j]/\-(2 ^ 62)<=j/\j < 2 ^ 62/\R (Itr 0 j.toNat) H1
theorem Sc{a:Expr}{ta:TA}{p pos:Pos}(hg:Gl X "range") (hm:X.mg "range" = none) (ha:PA X [a] ta) (hs:starEach [a] X.env=[(false,eval a X.env)]:=by rfl):PI X tg (.Call (.Name "range" p) [a] [] pos) (Qfo ta):=by
 intro aa s σ H R I h
 refine Call_ (Bw I hg hm boot_range (Yay (thn (ha pos aa s σ H _ I h) λus s1 sk=>Cj sk λvs H1 I1 r1 q1=>?_) hs rfl))
 obtain⟨j,e,q1,q2,q⟩:=q1
 subst e
 cases r1 with
 | cons r rr =>
  cases rr
  obtain⟨t,rfl⟩:=r
  exact call_range_1 (Uo I1 (by omega) (by omega) q1 q2 (by simpa using q))
def Qjc(wi:TI)(g:TG)(tb:TS):TS:=λD σ H=>wi σ H λJ H1=>∃W:Nat->Nat->St->Hp->Prop,(∃m,W 0 m σ H1)/\∀i m σ H,W i m σ H ->
 (J.stop i H/\D.nx σ H)\/(J.go i H/\∃N:St->Hp->Prop,(∀ σ' H',N σ' H'->∃m',m' < m/\W (i+1) m' σ' H')/\∀x H',J.yld i H x H'->g x σ H' fun σ2 H2=>tb { D with nx:=N,ct:=N,bk:=D.nx } σ2 H2)
def Ia(fp:List Addr)(h:Heap):List (Addr×Obj):=fp.filterMap λb=>(h.get? b).map λo=>(b,o)
theorem D9{fp:List Addr}{h:Heap}{b:Addr}{o:Obj}(hb:b∈fp)(e:h.get? b=some o):(b,o)∈Ia fp h:=List.mem_filterMap.mpr ⟨b,hb,by rw [e];rfl⟩
theorem Sd{fp:List Addr}{h:Heap}{p:Addr×Obj}(hp:p∈Ia fp h):p.1∈fp/\h.get? p.1=some p.2:=by
 obtain⟨b,hb,e⟩:=List.mem_filterMap.mp hp
 cases q:h.get? b with
 | none=>rw [q]at e;cases e
 | some o =>
  rw [q]at e
  have e':(b,o)=p:=Ya3 e
  subst e'
  exact⟨hb,q⟩
theorem Inv.pinned{aa:List (Addr×Obj)}{σ:St}{H:Hp}{s:Shared}{fp:List Addr}(I:Inv X aa σ H s)(hf:∀b∈fp,Ei X aa H b)(ho:∀b∈fp,∃o,s.heap.get? b=some o/\∀v,o.data≠.cell v):Inv X (aa++Ia fp s.heap) σ H s :=
 I.pins_of λp hp=>(Yap.mp hp).elim (λz=>I.pin p (Ybj _ z)) λz=>by
  obtain⟨hb,e⟩:=Sd z
  obtain⟨f0,f1,f2,_⟩:=hf p.1 hb
  obtain⟨o,e',d⟩:=ho p.1 hb
  rw [e]at e';cases e'
  exact⟨e,f0,f1,f2,d⟩
theorem Inv.unpinned{aa pl:List (Addr×Obj)}{σ:St}{H:Hp}{s:Shared}(I:Inv X (aa++pl) σ H s):Inv X aa σ H s:=I.pins_of λp hp=>I.pin p (Ybj _ (Ydd _ hp))
theorem Qcg{aw:Expr}{body:List Stmt}{wi:TI}{g:TG}{tb:TS}{pos:Pos}(hp:PassesOwn (model X.prog X.w) X.A X.env X.xe)(hc:X.calm=true)(hi:PI X tg aw wi)(hg:PG X tg g)(hb:PSs X body tb)
  (hs:∀x,foldedSetIterable aw X.env x=pure x:=by intro _;rfl):PS X (.For tg aw body [] pos) (Qjc wi g tb):=by
 intro aa s σ H D I h
 refine wpAny_For (thn (hi aa s σ H _ I h) λv s1 h1=>thn h1 λww s2 h2=>?_) hs
 obtain⟨it,fp,tn,J,H2,e,I2,T,st2,f2,W,⟨m0,w0⟩,turn⟩:=h2
 subst e
 have jg:∀{H':Hp},(∀b∈fp,H' b=none)->∀b∈fp,Ei X aa H' b:=λhn b hb=>⟨hn b hb,(f2 b hb).2⟩
 refine codeAny_forLoop_any (λn s'=>∃i σ' H',Inv X aa σ' H' s'/\tn i s'.heap/\(∀b∈fp,H' b=none)/\W i n σ' H') ?_ m0 ⟨0,σ,H2,I2,st2,λb hb=>(f2 b hb).1,w0⟩
 rintro n s3 ⟨i,σ3,H3,I3,st3,fr3,w3⟩
 rcases turn i n σ3 H3 w3 with⟨stop,qn⟩ | ⟨go,N,hN,step⟩
 ·refine Yel hp (thn (T.done X rfl rfl rfl hc i aa s3 σ3 H3 X.xe I3 (jg fr3) st3 stop) λr s4 ⟨hr,I4⟩=>?_)
  subst hr
  exact Yfi ⟨σ3,H3,I4,qn⟩
 ·refine Yel hp (thn (T.item X rfl rfl rfl hc i aa s3 σ3 H3 X.xe I3 (jg fr3) st3 go) λr s4 ⟨u,hr,h4⟩=>?_)
  subst hr
  refine Yel hp (thn h4 λ_ s5 wb=>?_)
  obtain⟨x,H5,I5,r5,y5,st5,fr5⟩:=wb
  have I5':=I5.pinned (jg fr5) (T.obj _ _ st5)
  refine Yel hp (thn (hg _ s5 σ3 H5 x u _ I5' r5 (step x H5 y5)) λ_ s6 tu=>?_)
  obtain⟨σ6,H6,I6,q6⟩:=tu
  refine Yel hp (thn (hb _ s6 σ6 H6 _ I6 q6) λf s7 q7=>?_)
  have again:∀{σ7:St} {H7:Hp},Inv X (aa++Ia fp s5.heap) σ7 H7 s7->N σ7 H7->∃m,m < n/\∃i σ' H',Inv X aa σ' H' s7/\tn i s7.heap/\(∀b∈fp,H' b=none)/\W i m σ' H':=λ{σ7 H7} I7 n7=>by
   obtain⟨m',hm,w7⟩:=hN σ7 H7 n7
   refine⟨m',hm,i+1,σ7,H7,I7.unpinned,T.keep _ _ _ st5 λb hb o e=>(I7.pin (b,o) (Ybj _ (Ybj _ (D9 hb e)))).1,λb hb=>?_,w7⟩
   obtain⟨o,e,d⟩:=T.obj _ _ st5 b hb
   exact(I7.pin (b,o) (Ybj _ (Ybj _ (D9 hb e)))).2.1
  cases f with
  | next=>obtain⟨σ7,H7,I7,n7⟩:=q7;exact again I7 n7
  | cont=>obtain⟨σ7,H7,I7,n7⟩:=q7;exact again I7 n7
  | brk=>obtain⟨σ7,H7,I7,q7⟩:=q7;exact⟨σ7,H7,I7.unpinned,q7⟩
  | ret v=>obtain⟨x7,σ7,H7,I7,r7,q7⟩:=q7;exact⟨x7,σ7,H7,I7.unpinned,r7,q7⟩
end
abbrev R2:=V->V->Hp->VK->Prop
def Fq(X:Cx)(f:Value->Value->Sem Value)(r:R2):Prop :=
 ∀(aa:List (Addr×Obj)) (s:Shared) (σ:St) (H:Hp) (x y:V) (v u:Value) (Q:VK),Inv X aa σ H s->Bj x v->Bj y u->r x y H Q ->
  wpAny (model X.prog X.w) X.A (f v u) (EP X aa σ Q) X.xe s
def UnR(X:Cx)(f:Value->Sem Value)(r:V->Hp->VK->Prop):Prop :=
 ∀(aa:List (Addr×Obj)) (s:Shared) (σ:St) (H:Hp) (x:V) (v:Value) (Q:VK),Inv X aa σ H s->Bj x v->r x H Q ->
  wpAny (model X.prog X.w) X.A (f v) (EP X aa σ Q) X.xe s
def Ej(X:Cx)(f:Value)(r:List V->Hp->VK->Prop):Prop :=
 ∀(aa:List (Addr×Obj)) (s:Shared) (σ:St) (H:Hp) (xs:List V) (us:List Value) (Q:VK),Inv X aa σ H s->Vals xs us->r xs H Q ->
  wpAny (model X.prog X.w) X.A (call f us) (EP X aa σ Q) X.xe s
def tOp(r:R2)(ta tb:TE):TE:=fun σ H Q=>ta σ H λx H1=>tb σ H1 λy H2=>r x y H2 Q
def tUn(r:V->Hp->VK->Prop)(ta:TE):TE:=fun σ H Q=>ta σ H λx H1=>r x H1 Q
def rI(C:Int->Int->Prop)(g:Int->Int->V):R2:=λx y H Q=>∃i j,x=.int i/\y=.int j/\C i j/\Q (g i j) H
def Yf(g:Int->Int->V):R2:=λx y H Q=>∃i j,x=.int i/\y=.int j/\Q (g i j) H
def rU(g:Int->V):V->Hp->VK->Prop:=λx H Q=>∃i,x=.int i/\Q (g i) H
section
variable {X:Cx}{a b c:Expr}{ta tb tc:TE}{pos:Pos}
theorem Qch(ha:PE X a ta)(hb:PE X b tb){aa:List (Addr×Obj)}{s:Shared}{σ:St}{H:Hp}{R:V->V->Hp->Prop}(I:Inv X aa σ H s)
  (h:ta σ H λx H1=>tb σ H1 λy H2=>R x y H2) {Q:Value->Shared->Prop} {f:Value->Value->Sem Value}
  (hf:∀v u s2 x y H2,Inv X aa σ H2 s2->Bj x v->Bj y u->R x y H2->wpAny (model X.prog X.w) X.A (f v u) Q X.xe s2) :
  wpAny (model X.prog X.w) X.A (eval a X.env) (λv s₁=>wpAny (model X.prog X.w) X.A (eval b X.env) (λu s₂=>wpAny (model X.prog X.w) X.A (f v u) Q X.xe s₂) X.xe s₁) X.xe s:=by
 refine thn (ha aa s σ H _ I h) λv s1 qu=>Cj qu λx H1 I1 r1 q1=>?_
 refine thn (hb aa s1 σ H1 _ I1 q1) λu s2 vq=>Cj vq λy H2 I2 r2 q2=>?_
 exact hf v u s2 x y H2 I2 r1 r2 q2
theorem Qfq{op:Operator}{r:R2}(ho:Fq X (binaryOp op) r)(ha:PE X a ta)(hb:PE X b tb):PE X (.BinOp a op b pos) (tOp r ta tb):=by
 intro aa s σ H Q I h
 exact wpAny_BinOp (Qch ha hb I h λv u s2 x y H2 I2 rx ry q=>ho aa s2 σ H2 x y v u Q I2 rx ry q)
theorem Qfr{op:UnaryOp}{r:V->Hp->VK->Prop}(ho:UnR X (unaryOp op) r)(ha:PE X a ta):PE X (.UnaryOp op a pos) (tUn r ta):=by
 intro aa s σ H Q I h
 exact UnaryOp_ (thn (ha aa s σ H _ I h) λv s1 uo=>Cj uo λx H1 I1 r1 q1=>ho aa s1 σ H1 x v Q I1 r1 q1)
theorem opI{f:Value->Value->Sem Value}{C:Int->Int->Prop}{g:Int->Int->Int}
  (rule:∀(i j:Int) (t u:Tok) (s:Shared) (Q:Value->Shared->Prop) (E:Value->Shared->Prop),C i j->Q (.int (g i j) s.toks) { s with toks:=s.toks+1 }->wpAny (model X.prog X.w) X.A (f (.int i t) (.int j u)) Q E s) :
  Fq X f (rI C λi j=>.int (g i j)):=by
 intro aa s σ H x y v u Q I rx ry h
 obtain⟨i,j,rfl,rfl,hc,q⟩:=h
 obtain⟨t,rfl⟩:=rx
 obtain⟨t',rfl⟩:=ry
 exact rule i j t t' s _ _ hc ⟨.int (g i j),H,I.tok _,⟨_,rfl⟩,q⟩
theorem Qfs{f:Value->Value->Sem Value}{g:Int->Int->Int}
  (rule:∀(i j:Int) (t u:Tok) (s:Shared) (Q:Value->Shared->Prop) (E:Value->Shared->Prop),Q (.int (g i j) s.toks) { s with toks:=s.toks+1 }->wpAny (model X.prog X.w) X.A (f (.int i t) (.int j u)) Q E s) :
  Fq X f (Yf λi j=>.int (g i j)):=by
 intro aa s σ H x y v u Q I rx ry h
 obtain⟨i,j,rfl,rfl,q⟩:=h
 obtain⟨t,rfl⟩:=rx
 obtain⟨t',rfl⟩:=ry
 exact rule i j t t' s _ _ ⟨.int (g i j),H,I.tok _,⟨_,rfl⟩,q⟩
theorem Yg{f:Value->Value->Sem Value}{g:Int->Int->Bool}
  (rule:∀(i j:Int) (t u:Tok) (s:Shared) (Q:Value->Shared->Prop) (E:Value->Shared->Prop),Q (.bool (g i j)) s->wpAny (model X.prog X.w) X.A (f (.int i t) (.int j u)) Q E s) :
  Fq X f (Yf λi j=>.bl (g i j)):=by
 intro aa s σ H x y v u Q I rx ry h
 obtain⟨i,j,rfl,rfl,q⟩:=h
 obtain⟨t,rfl⟩:=rx
 obtain⟨t',rfl⟩:=ry
 exact rule i j t t' s _ _ ⟨.bl (g i j),H,I,rfl,q⟩
def CDiv(i j:Int):Prop:=0 < j/\j < 1073741824
def CPow(i j:Int):Prop:=0<=j/\j<=1000000/\i.natAbs < 2 ^ 64
def CMul(i j:Int):Prop:=(-(2 ^ 64) < i/\i < 2 ^ 64)\/(-(2 ^ 64) < j/\j < 2 ^ 64)
theorem CMul.ok{i j:Int}(h:CMul i j):IntMulOk i j:=by
 rcases h with⟨h1,h2⟩ | ⟨h1,h2⟩
 ·exact .of_left (intBits_le_64 h1 h2)
 ·exact .of_right (intBits_le_64 h1 h2)
theorem Qci:Fq X (binaryOp .Add) (Yf λi j=>.int (i+j)):=Qfs λ_ _ _ _ _ _ _ q=>add_int q
theorem Qcj:Fq X (binaryOp .Sub) (Yf λi j=>.int (i - j)):=Qfs λ_ _ _ _ _ _ _ q=>sub_int q
theorem Qck:Fq X (binaryOp .Mult) (rI CMul λi j=>.int (i * j)):=opI λ_ _ _ _ _ _ _ hc q=>mul_int q hc.ok
theorem Yh:Fq X (binaryOp .FloorDiv) (rI CDiv λi j=>.int (i / j)):=opI λi j _ _ _ _ _ hc q=>by
 have h1:(0:Int) < j:=hc.1
 have h2:j < 1073741824:=hc.2
 exact floordiv_int (by omega) (by rw [Int.fdiv_eq_ediv_of_nonneg i (by omega)];exact q) (.inl (PyProof.noPylong_small (by omega)))
theorem Qcl:Fq X (binaryOp .Mod) (rI (λ_ j=>0 < j) λi j=>.int (i % j)):=opI λi j _ _ _ _ _ hc q=>by
 have h1:(0:Int) < j:=hc
 exact mod_int' (by omega) (by rw [Int.fmod_eq_emod_of_nonneg i (by omega)];exact q)
theorem Qcm:Fq X (binaryOp .Pow) (rI CPow λi j=>.int (i ^ j.toNat)):=opI λ_ _ _ _ _ _ _ hc q=>pow_int_small hc.1 hc.2.1 hc.2.2 q
theorem unI{f:Value->Sem Value}{g:Int->Int}
  (rule:∀(i:Int) (t:Tok) (s:Shared) (Q:Value->Shared->Prop) (E:Value->Shared->Prop),Q (.int (g i) s.toks) { s with toks:=s.toks+1 }->wpAny (model X.prog X.w) X.A (f (.int i t)) Q E s) :
  UnR X f (rU λi=>.int (g i)):=by
 intro aa s σ H x v Q I rx h
 obtain⟨i,rfl,q⟩:=h
 obtain⟨t,rfl⟩:=rx
 exact rule i t s _ _ ⟨.int (g i),H,I.tok _,⟨_,rfl⟩,q⟩
theorem Qcn:UnR X (unaryOp .USub) (rU λi=>.int (-i)):=unI λ_ _ _ _ _ q=>neg_int q
end
section
variable {X:Cx}{a b c:Expr}{ta tb tc:TE}{pos:Pos}
theorem Ot{aa:List (Addr×Obj)}{σ:St}{H:Hp}{s:Shared}{Q:VK}{k k':Bool}(I:Inv X aa σ H s)(q:Q (.bl k) H)(e:k=k'):EP X aa σ Q (.bool k') s:=by
 subst e
 exact⟨.bl k,H,I,rfl,q⟩
theorem Qft:Fq X (compareOp .Lt) (Yf λi j=>.bl (decide (i < j))):=Yg λ_ _ _ _ _ _ _ q=>lt_int q
theorem Qfu:Fq X (compareOp .LtE) (Yf λi j=>.bl (decide (i<=j))):=Yg λ_ _ _ _ _ _ _ q=>le_int q
theorem Qfv:Fq X (compareOp .Gt) (Yf λi j=>.bl (decide (j < i))):=Yg λ_ _ _ _ _ _ _ q=>gt_int q
theorem Qfw:Fq X (compareOp .GtE) (Yf λi j=>.bl (decide (j<=i))):=Yg λ_ _ _ _ _ _ _ q=>ge_int q
theorem Se:Fq X (compareOp .In) (λx y H Q=>∃i j,x=.str i/\y=.str j/\Q (.bl (!(Builtin.Str.occurrences j i 0 j.length 1).isEmpty)) H):=by
 intro aa s σ H x y v u Q I rx ry h
 obtain⟨i,j,rfl,rfl,q⟩:=h
 obtain⟨t,rfl⟩:=rx
 obtain⟨t',rfl⟩:=ry
 exact in_str (Ot I q rfl)
theorem Uq:Fq X (compareOp .Is) (λx y H Q=>y=.non/\Q (.bl (decide (x=.non))) H):=by
 intro aa s σ H x y v u Q I rx ry h
 obtain⟨rfl,q⟩:=h
 cases ry
 refine is_none_gen (Ot I q ?_)
 cases x <;> first
  | (cases rx;rfl)
  | (obtain⟨t,rfl⟩:=rx;rfl)
theorem nomark(b:Expr){op:CmpOp}(h:op≠.In:=by decide)(h2:op≠.NotIn:=by decide):behindInMarks op b=false:=by
 have e1:(op==CmpOp.In)=false:=by cases op <;> first | rfl | exact absurd rfl h
 have e2:(op==CmpOp.NotIn)=false:=by cases op <;> first | rfl | exact absurd rfl h2
 cases b <;> simp [behindInMarks,e1,e2]
theorem Yi{op:CmpOp}{r:R2}(ho:Fq X (compareOp op) r)(ha:PE X a ta)(hb:PE X b tb)(hm:behindInMarks op b=false):PE X (.Compare a [op] [b] pos) (tOp r ta tb):=by
 intro aa s σ H Q I h
 exact wpAny_Compare1 (Qch ha hb I h λv u s2 x y H2 I2 rx ry q=>ho aa s2 σ H2 x y v u Q I2 rx ry q) hm
def Ur(t:TE):TT:=fun σ H Q=>t σ H λx H'=>∃k,x=.bl k/\Q k H'
theorem Yj{op:CmpOp}{r:R2}(ho:Fq X (compareOp op) r)(ha:PE X a ta)(hb:PE X b tb)(hm:behindInMarks op b=false):PT X (.Compare a [op] [b] pos) (Ur (tOp r ta tb)):=by
 intro aa s σ H Q I h
 refine wpAny_isTrue_Compare1 (thn (ha aa s σ H _ I h) λv s1 qq=>Cj qq λx H1 I1 r1 q1=>thn (hb aa s1 σ H1 _ I1 q1) λu s2 qo=>Cj qo λy H2 I2 r2 q2 =>
  thn (ho aa s2 σ H2 x y v u _ I2 r1 r2 q2) λc s3 ⟨z,H3,I3,r3,k,e,q3⟩=>?_) hm
 subst e
 cases r3
 exact Yck ⟨H3,I3,q3⟩
def Ou(r r':R2)(ta tb tc:TE):TE:=fun σ H Q=>ta σ H λx H1=>tb σ H1 λy H2=>r x y H2 λz H3=>∃k,z=.bl k /\
 (if k=true then tc σ H3 λw' H4=>r' y w' H4 Q else Q (.bl false) H3)
theorem Us{op ji:CmpOp}{r r':R2}(ho:Fq X (compareOp op) r)(dh:Fq X (compareOp ji) r')(ha:PE X a ta)(hb:PE X b tb)(hc:PE X c tc)
  (hm:lastMarks [op,ji] [b,c]=false:=by with_unfolding_all rfl):PE X (.Compare a [op,ji] [b,c] pos) (Ou r r' ta tb tc):=by
 intro aa s σ H Q I h
 refine Compare_chain (thn (ha aa s σ H _ I h) λv s1 t9=>Cj t9 λx H1 I1 r1 q1=>chain_link (thn (hb aa s1 σ H1 _ I1 q1) λu s2 sm=>Cj sm λy H2 I2 r2 q2 =>
  thn (ho aa s2 σ H2 x y v u _ I2 r1 r2 q2) λd s3 ⟨z,H3,I3,r3,k,e,q3⟩=>?_)) hm
 subst e
 cases r3
 refine Yck ?_
 cases k with
 | false=>exact ite_ff ⟨.bl false,H3,I3,rfl,q3⟩
 | true=>exact ite_tt (chain_last (thn (hc aa s3 σ H3 _ I3 q3) λw' s4 u4=>Cj u4 λz' H4 I4 r4 q4=>dh aa s4 σ H4 y z' u w' Q I4 r2 r4 q4))
theorem Ut{op ji:CmpOp}{r r':R2}(ho:Fq X (compareOp op) r)(dh:Fq X (compareOp ji) r')(ha:PE X a ta)(hb:PE X b tb)(hc:PE X c tc)
  (hm:lastMarks [op,ji] [b,c]=false:=by with_unfolding_all rfl):PT X (.Compare a [op,ji] [b,c] pos) (Ur (Ou r r' ta tb tc)):=by
 intro aa s σ H Q I h
 refine isTrue_chain (thn (ha aa s σ H _ I h) λv s1 va=>Cj va λx H1 I1 r1 q1=>test_link (thn (hb aa s1 σ H1 _ I1 q1) λu s2 v8=>Cj v8 λy H2 I2 r2 q2 =>
  thn (ho aa s2 σ H2 x y v u _ I2 r1 r2 q2) λd s3 ⟨z,H3,I3,r3,k,e,q3⟩=>?_)) hm
 subst e
 cases r3
 refine Yck ?_
 cases k with
 | false =>
  obtain⟨k',e',q'⟩:=q3
  cases e'
  exact ite_ff ⟨H3,I3,q'⟩
 | true =>
  refine ite_tt (test_last (thn (hc aa s3 σ H3 _ I3 q3) λw' s4 vn=>Cj vn λz' H4 I4 r4 q4=>thn (dh aa s4 σ H4 y z' u w' _ I4 r2 r4 q4) λd' s5 vy=>?_))
  obtain⟨z2,H5,I5,r5,k2,e2,q5⟩:=vy
  subst e2
  cases r5
  exact Yck ⟨H5,I5,q5⟩
theorem Gj:(sizeLine:Nat) < 2 ^ 63:=by rw [sizeLine_eq];decide
theorem Ov:Fq X (binaryOp .Add) (λx y H Q=>∃i j,x=.str i/\y=.str j/\i.length+j.length<=sizeLine/\Q (.str (i++j)) H):=by
 intro aa s σ H x y v u Q I rx ry h
 obtain⟨i,j,rfl,rfl,hz,q⟩:=h
 obtain⟨t,rfl⟩:=rx
 obtain⟨t',rfl⟩:=ry
 exact add_str (λt' tk=>⟨.str (i++j),H,I.tok _,⟨_,rfl⟩,q⟩) hz
theorem Ib{x:V}{us:List Value}(r:Vals [x] us):∃u,us=[u]/\Bj x u:=by
 cases r with
 | cons r1 r2=>cases r2;exact⟨_,rfl,r1⟩
theorem Qat{x y:V}{us:List Value}(r:Vals [x,y] us):∃u w',us=[u,w']/\Bj x u/\Bj y w':=by
 cases r with
 | cons r1 r2 =>
  cases r2 with
  | cons r3 r4=>cases r4;exact⟨_,_,rfl,r1,r3⟩
theorem Sf(hc:X.calm=true):Ej X (.builtin "max") (λxs H Q=>∃i j,xs=[.int i,.int j]/\Q (.int (if j > i then j else i)) H):=by
 intro aa s σ H xs us Q I r h
 obtain⟨i,j,rfl,q⟩:=h
 obtain⟨u,w',rfl,⟨t,rfl⟩,⟨t',rfl⟩⟩:=Qat r
 refine max_two_ints (I.ok.hd hc) λh' tk k=>⟨_,H,I.kept k,?_,q⟩
 by_cases hj:j > i
 ·rw [Yak hj,Yak hj];exact⟨_,rfl⟩
 ·rw [Yah hj,Yah hj];exact⟨_,rfl⟩
theorem Sg(hc:X.calm=true):Ej X (.builtin "min") (λxs H Q=>∃i j,xs=[.int i,.int j]/\Q (.int (if j < i then j else i)) H):=by
 intro aa s σ H xs us Q I r h
 obtain⟨i,j,rfl,q⟩:=h
 obtain⟨u,w',rfl,⟨t,rfl⟩,⟨t',rfl⟩⟩:=Qat r
 refine min_two_ints (I.ok.hd hc) λh' tk k=>⟨_,H,I.kept k,?_,q⟩
 by_cases hj:j < i
 ·rw [Yak hj,Yak hj];exact⟨_,rfl⟩
 ·rw [Yah hj,Yah hj];exact⟨_,rfl⟩
end
theorem Ke{h:Heap}{dx:Addr}{mA:Str->Option Value}(n:h.Ns1 dx mA):∃od,h.get? dx=some od/\∀name,PySem.W.lookIn name od=some (mA name):=by
 obtain⟨o,es,ep,ho,hd,hk,_,hm⟩:=n
 refine⟨o,ho,λname=>?_⟩
 have e:=hm name
 unfold nsFind findBy at e
 rw [<- Array.find?_toList]at e
 unfold PySem.W.lookIn
 rw [hd]
 dsimp only
 split
 ·rename_i y q
  rw [q]at e
  exact Ydl some e
 ·rename_i q
  rw [q]at e
  have a:es.toList.any (·.refKey)=false:=by
   rw [List.any_eq_false]
   intro y hy
   obtain⟨z,t,i8⟩:=hk y (Yfe.mp hy)
   simp [DictEntry.refKey,i8]
  have a':¬es.toList.any (·.refKey)=true:=by rw [a];exact Yad
  rw [Yah a']
  exact Ydl some e
section
variable {prog:Program}{w:World}{A:Around}{E:Value->Shared->Prop}{s:Shared}{K:PySem.W.Frag}{x dx C f:Addr}{mA:Str->Option Value}{name:Str}{v:Value}
end
theorem Ju.some_of{v:V}{o:Option Value}(r:Ju (some v) o):∃u,o=some u/\Bj v u:=by
 cases o with
 | none=>exact(show False from r).elim
 | some u=>exact⟨u,rfl,r⟩
theorem Si{v:V}{u:Value}(r:Bj v u):PySem.W.handedIn u=true:=by
 cases v with
 | non=>cases (show u=Value.none from r);rfl
 | bl b=>cases (show u=Value.bool b from r);rfl
 | int i=>obtain⟨t,e⟩:=(show ∃t,u=Value.int i t from r);cases e;rfl
 | str x=>obtain⟨t,e⟩:=(show ∃t,u=Value.str x t from r);cases e;rfl
 | byt b=>obtain⟨t,e⟩:=(show ∃t,u=Value.bytes b t from r);cases e;rfl
 | flt b=>obtain⟨t,e⟩:=(show ∃t,u=Value.float b t from r);cases e;rfl
 | ref a=>cases (show u=Value.ref a from r);rfl
 | ty n=>cases (show u=Value.type n from r);rfl
section
variable {P:Program}{w:World}{H H':Hp}{h h':Heap}{a C dx:Addr}{fs fs':List (Str×V)}
end
def Gk(K:PySem.W.Frag)(C:Addr)(f:Str):Prop:=PySem.W.findIn K (.ref C) f=some none
section
variable {X:Cx}{aa:List (Addr×Obj)}{σ:St}{H:Hp}{s:Shared}{a C dx:Addr}{fs:List (Str×V)}{f:Str}{v:V}{A:Around}{E:Value->Shared->Prop}
theorem Yk{prog:Program}{w:World}{env:Env}{e:Expr}{f:Str}{pos:Pos}{s:Shared}{Q:Value->Shared->Prop}(hb:attributeBase e f env (eval e env)=eval e env)
  (h:wpAny (model prog w) A (eval e env) (λo s₁=>wpAny (model prog w) A (getAttr o f true) Q E s₁) E s):wpAny (model prog w) A (eval (.Attribute e f pos) env) Q E s :=
 Attribute_any_ h (by rw [arm_eval_Attribute,hb])
end
section
variable {X:Cx}{o e value:Expr}{f:Str}{pos c9 ku:Pos}{ta tv:TE}
end
section
variable {X:Cx}{aa:List (Addr×Obj)}{σ:St}{H:Hp}{s:Shared}{A:Around}{E:Value->Shared->Prop}{Q:Value->Shared->Prop}{c:Value}{b:Bool}
end
structure Room(k:Nat)(A:Around):Prop where
 hd:A.handled=none
 dp:A.depth+3 * k+5 < recursionLimit
 un:A.units+16 * k+200 < cLine
 gd:A.guards=some []
theorem Room.mono{j k:Nat}{A:Around}(r:Room k A)(h:j<=k):Room j A:=⟨r.hd,by have:=r.dp;omega,by have:=r.un;omega,r.gd⟩
theorem Room.deeper{k:Nat}{A:Around}(r:Room (k+1) A)(env:Env):Room k (A.deeper env) :=
 ⟨r.hd,by have:=r.dp;show A.depth+1+3 * k+5 < _;omega,by have:=r.un;show A.units+3+16 * k+200 < _;omega,r.gd⟩
theorem Ow{A:Around}{C:Addr}{us:List Value}{kw:List (Str×Value)}:(A.under (.builtin "type.__call__" ⟨.ref C :: us,kw⟩)).depth=A.depth+1:=by
 first | rfl | simp [Around.under,Code.weight,Code.isCreation,Code.isGuard,Code.isCaller,Code.frames,Code.isFrame,guardIds]
theorem Ox{A:Around}{C:Addr}{us:List Value}{kw:List (Str×Value)}:(A.under (.builtin "type.__call__" ⟨.ref C :: us,kw⟩)).units=A.units+1:=by
 first | rfl | simp [Around.under,Code.cUnits,Code.frames,Code.isFrame]
theorem Room.make{k:Nat}{A:Around}(r:Room (k+1) A)(C:Addr)(us:List Value)(kw:List (Str×Value)):Room k (A.under (.builtin "type.__call__" ⟨.ref C :: us,kw⟩)) :=
 ⟨r.hd,by have:=r.dp;rw [Ow];omega,by have:=r.un;rw [Ox];omega,r.gd⟩
theorem Room.depth{k:Nat}{A:Around}(r:Room k A):A.depth < recursionLimit:=by have:=r.dp;omega
def Qje:TA:=λ_ H Q=>Q [] H
def Qfx(ta:TE)(tr:TA):TA:=fun σ H Q=>ta σ H λx H1=>tr σ H1 λxs H2=>Q (x :: xs) H2
section
variable {X:Cx}{e:Expr}{es:List Expr}{te:TE}{t:TA}{pos:Pos}
theorem Uu:PA X [] Qje:=λ_ _ _ _ H Q I h=>Ya5 ⟨[],H,I,.nil,h⟩
theorem Qm(ha:PE X e te)(hr:PA X es t)(hs:starEach (e :: es) X.env=(false,eval e X.env) :: starEach es X.env:=by rfl):PA X (e :: es) (Qfx te t):=by
 intro pos aa s σ H Q I h
 rw [hs]
 show wpAny _ _ (spliced ((false,eval e X.env) :: backTo pos (starEach es X.env))) _ _ s
 refine Yar (thn (ha aa s σ H _ I h) λu s1 u8=>Cj u8 λx H1 I1 r1 q1=>?_)
 exact thn (hr pos aa s1 σ H1 _ I1 q1) λus s2 u5=>Cj u5 λxs H2 I2 r2 q2=>⟨x :: xs,H2,I2,.cons r1 r2,q2⟩
def Qjf(t:TA):TE:=fun σ H Q=>t σ H λxs H1=>xs.length<=sizeLine/\∀p,H1 p=none->Q (.ref p) (upd H1 p (.tup xs))
def Qjg(t:TA):TE:=fun σ H Q=>t σ H λxs H1=>xs.length<=sizeLine/\∀p,H1 p=none->Q (.ref p) (upd H1 p (.lst xs))
theorem Uv{x1}(h:PA X es t):PE X (.Tuple es x1 pos) (Qjf t):=by
 intro aa s σ H Q I hq
 refine wpAny_Tuple_spliced (thn (h pos aa s σ H _ I hq) λus s1 ⟨xs,H1,I1,r,z,q⟩=>⟨by rw [<- r.length];exact z,?_⟩)
 have hf:H1 s1.heap.objs.size=none:=I1.hok.fresh (Yaf _)
 refine⟨.ref s1.heap.objs.size,upd H1 s1.heap.objs.size (.tup xs),I1.laid (t':=s1.toks) (λb u e=>Heap.get?_push_of_some _ e) (Yaf _) ?_,rfl,q _ hf⟩
 exact⟨z,us,r,⟨_,Heap.get?_push_size _ rfl,rfl,_,rfl⟩⟩
theorem Qco(h:PA X es t):PE X (.List es pos) (Qjg t):=by
 intro aa s σ H Q I hq
 refine wpAny_List_spliced (thn (h pos aa s σ H _ I hq) λus s1 ⟨xs,H1,I1,r,z,q⟩=>⟨by rw [<- r.length];exact z,?_⟩)
 have hf:H1 s1.heap.objs.size=none:=I1.hok.fresh (Yaf _)
 refine⟨.ref s1.heap.objs.size,upd H1 s1.heap.objs.size (.lst xs),I1.laid (t':=s1.toks) (λb u e=>Heap.get?_push_of_some _ e) (Yaf _) ?_,rfl,q _ hf⟩
 exact⟨z,us,0,r,Heap.get?_push_size _ rfl⟩
end
abbrev Sp:=List V->Hp->VK->XK->Prop
abbrev CXT:=List Env->Hp->Shared->XK->Value->Shared->Prop
structure Env0(P:Program)(w:World)(K:PySem.W.Frag)(mg:Str->Option Value)(base:Heap)(A:Around)(outer:List Env)(s:Shared)(H:Hp):Prop where
 frames:A.frames=some outer
 mod:Mod K mg base
 bs:∀b o,base.get? b=some o->s.heap.get? b=some o/\H b=none
 bsz:base.objs.size<=s.heap.objs.size
 funs:s.heap.FunFrames base outer
 frf:∀b∈frs outer,H b=none
 hok:HOk P w H s.heap
 bare:AllBare s.gens
def CE(outer:List Env)(P:Program)(w:World)(H:Hp)(s:Shared)(Q:VK)(u:Value)(s':Shared):Prop :=
 ∃v H',s'.os=s.os/\AllBare s'.gens/\Un (frs outer) [] H H' s.heap s'.heap/\HOk P w H' s'.heap/\Bj v u/\Q v H'
def CR(CX:CXT)(outer:List Env)(P:Program)(w:World)(H:Hp)(s:Shared)(Q:VK)(E:XK)(r:Result)(s':Shared):Prop :=
 match r with
 | .ok (.ret u)=>CE outer P w H s Q u s'
 | .ok _=>False
 | .error e=>CX outer H s E e s'
structure FnOk(P:Program)(w:World)(K:PySem.W.Frag)(mg:Str->Option Value)(base:Heap)(CX:CXT)(k:Nat)(f:Addr)(fd:FuncData)(ps:List Str)(sp:Sp):Prop where
 len:∀vs H Q E,sp vs H Q E->vs.length=ps.length
 run:∀(A:Around) (outer:List Env) (s:Shared) (H:Hp) (args:Args) (us:List Value) (vs:List V) (Q:VK) (E:XK),Room k A->Env0 P w K mg base A outer s H->BindsTo s fd args (ps.zip us)->Vals vs us->sp vs H Q E ->
  codeAny (model P w) A (.call (.ref f) args) (CR CX outer P w H s Q E) s
theorem FnOk.mono{P:Program}{w:World}{K:PySem.W.Frag}{mg:Str->Option Value}{base:Heap}{CX:CXT}{j k:Nat}{f:Addr}{fd:FuncData}{ps:List Str}{sp:Sp}(F:FnOk P w K mg base CX j f fd ps sp)(h:j<=k) :
  FnOk P w K mg base CX k f fd ps sp:=⟨F.len,λA outer s H args us vs Q E hr=>F.run A outer s H args us vs Q E (hr.mono h)⟩
theorem FnOk.imp{P:Program}{w:World}{K:PySem.W.Frag}{mg:Str->Option Value}{base:Heap}{CX:CXT}{k:Nat}{f:Addr}{fd:FuncData}{ps:List Str}{sp sp':Sp}(F:FnOk P w K mg base CX k f fd ps sp)
  (h:∀vs H Q E,sp' vs H Q E->sp vs H Q E):FnOk P w K mg base CX k f fd ps sp' :=
 ⟨λvs H Q E q=>F.len vs H Q E (h _ _ _ _ q),λA outer s H args us vs Q E hr he hb hv hs=>F.run A outer s H args us vs Q E hr he hb hv (h _ _ _ _ hs)⟩
theorem Env0.make{P:Program}{w:World}{K:PySem.W.Frag}{mg:Str->Option Value}{base:Heap}{A:Around}{outer:List Env}{s:Shared}{H:Hp}(e:Env0 P w K mg base A outer s H)(C:Addr)(us:List Value)(kw:List (Str×Value)) :
  Env0 P w K mg base (A.under (.builtin "type.__call__" ⟨.ref C :: us,kw⟩)) outer s H:=⟨by first | exact e.frames | (simpa [Around.under,Code.envs,Code.isFrame,pushEnvs] using e.frames),e.mod,e.bs,e.bsz,e.funs,e.frf,e.hok,e.bare⟩
section
variable {X:Cx}{aa:List (Addr×Obj)}{σ:St}{H:Hp}{s s':Shared}
theorem Inv.env0(I:Inv X aa σ H s):Env0 X.prog X.w X.K X.mg X.base X.A X.stack s H :=
 ⟨I.ok.frames,I.ok.mod,I.bs,Yas I.ok.bsz I.sz,I.stack,I.stkFree,I.hok,I.bare⟩
theorem Inv.after{Q:VK}{u:Value}(I:Inv X aa σ H s)(h:CE X.stack X.prog X.w H s Q u s'):EP X aa σ Q u s':=by
 obtain⟨v,H',os,bare,un,hok,r,q⟩:=h
 obtain⟨hh,g,d,t,os'⟩:=s'
 obtain rfl:os'=s.os:=os
 exact⟨v,H',I.call (h':=hh) (g':=g) (d':=d) (t':=t) (ch:=[]) un hok bare (λb z=>absurd z (by simp)),r,q⟩
end
def Qfy(sp:Sp)(m5:List V)(E:XK)(t:TA):TE:=fun σ H Q=>t σ H λvs H1=>sp (vs++m5) H1 Q E
def Binds(K:PySem.W.Frag)(fd:FuncData)(ps:List Str)(ds:List Value):Prop :=
 ∀(s:Shared) (us:List Value),K.In s.heap->(us++ds).length=ps.length->BindsTo s fd ⟨us,[]⟩ (ps.zip (us++ds))
theorem Binds.all{K:PySem.W.Frag}{fd:FuncData}{ps:List Str}(h:∀us:List Value,us.length=ps.length->bindArgs fd ⟨us,[]⟩=pure (ps.zip us)):Binds K fd ps []:=λs us _ hl=>by
 rw [Yc5]at hl ⊢
 exact .of_eq (h us hl)
def Passes(CX:CXT)(X:Cx)(E:XK):Prop:=∀(aa:List (Addr×Obj)) (σ:St) (H:Hp) (s:Shared) (e:Value) (s':Shared),Inv X aa σ H s->CX X.stack H s E e s'->X.xe e s'
section
variable {X:Cx}{CX:CXT}{k:Nat}{f C:Addr}{fd:FuncData}{ps:List Str}{sp:Sp}{m5:List V}{ds:List Value}{E:XK}{x m:Str}{p pos cr:Pos}{e o:Expr}{es:List Expr}{ta:TE}{t:TA}
theorem Qcp{aa:List (Addr×Obj)}{σ:St}{H:Hp}{s:Shared}{Q:VK}{us:List Value}{vs:List V}(F:FnOk X.prog X.w X.K X.mg X.base CX k f fd ps sp)(hr:Room k X.A)(hb:Binds X.K fd ps ds)(hd:Vals m5 ds)(hx:Passes CX X E)
  (I:Inv X aa σ H s) (r:Vals vs us) (h:sp (vs++m5) H Q E):wpAny (model X.prog X.w) X.A (call (.ref f) us) (EP X aa σ Q) X.xe s:=by
 have r2:Vals (vs++m5) (us++ds):=r.append hd
 have hl:(us++ds).length=ps.length:=by rw [<- r2.length];exact F.len _ _ _ _ h
 refine Yfn (Yec (F.run X.A X.stack s H ⟨us,[]⟩ (us++ds) (vs++m5) Q E hr I.env0 (hb s us I.kIn hl) r2 h) λr s' hq=>?_)
 cases r with
 | error e=>exact hx aa σ H s e s' I hq
 | ok fl =>
  cases fl with
  | ret u=>exact I.after hq
  | next=>exact False.elim hq
  | brk=>exact False.elim hq
  | cont=>exact False.elim hq
theorem Qn(F:FnOk X.prog X.w X.K X.mg X.base CX k f fd ps sp)(hr:Room k X.A)(hg:Gl X x)(hm:X.mg x=some (.ref f))(hk:PySem.W.keepIn X.K (.ref f)=true)(hb:Binds X.K fd ps ds)(hd:Vals m5 ds)(hx:Passes CX X E)
  (ha:PA X (e :: es) t) (hdb:(x==("__debug__" : Str))=false:=by decide) (he:starEach (e :: es) X.env=(false,eval e X.env) :: starEach es X.env:=by rfl) (hpl:(backTo pos (starEach es X.env)).any (·.1)=false:=by rfl) :
  PE X (.Call (.Name x p) (e :: es) [] pos) (Qfy sp m5 E t):=by
 intro aa s σ H Q I h
 refine Yav (Fp I hg hm ?_ hdb)
 refine PySem.W.callWith_K (h₀:=X.base) I.ok.mod.kin hk (thn (ha pos aa s σ H _ I h) λus s1 tw=>Cj tw λvs H1 I1 r q=>⟨I1.kIn,?_⟩) he hpl
 exact Qcp F hr hb hd hx I1 r q
end
section
variable {X:Cx}{CX:CXT}{k:Nat}{f C:Addr}{fd:FuncData}{ps ks:List Str}{sp:Sp}{E:XK}{x m:Str}{p pos cr zb1:Pos}{e o:Expr}{es:List Expr}{kws:List Keyword}{te ta:TE}{t tk:TA}{nm:Option Str}
variable {g:List Value->List Value->List Value}{gV:List V->List V->List V}
end
structure FnScope(N P:List Str)(sc:Scope):Prop where
 kind:sc.kind=.function
 co:sc.isCoroutine=false
 gen:sc.isGenerator=false
 nd:N.Nodup
 pre:N.take P.length=P
 par:∀x∈P,sc.names.lookup x=some .local\/sc.names.lookup x=some .cell
 nofree:∀y∈sc.names,y.2≠.free
theorem Kf{kindOf:Str->Option NameKind}{x:Str}:∀{binds:List (Str×Value)} {m:Str->Option Value},(∀v,(x,v)∉binds)->bindL kindOf binds m x=m x
 | [],_,_=>rfl
 | (n,v) :: r,m,h=>by
  unfold bindL
  rw [Kf λw hw=>h w (Yax _ hw)]
  split
  ·have:x≠n:=by rintro rfl;exact h v Yaz
   simp [this]
  ·rfl
theorem Kg{kindOf:Str->Option NameKind}{x:Str}:∀{binds:List (Str×Value)} {m:Str->Option Value},(∀v,(x,v)∉binds)->bindC kindOf binds m x=m x
 | [],_,_=>rfl
 | (n,v) :: r,m,h=>by
  unfold bindC
  rw [Kg λw hw=>h w (Yax _ hw)]
  split
  ·rfl
  ·have:x≠n:=by rintro rfl;exact h v Yaz
   simp [this]
theorem Kh{kindOf:Str->Option NameKind}{x:Str}{v:Value}:∀{P:List Str} {vs:List Value} {i:Nat} {m:Str->Option Value},P.Nodup->P[i]?=some x->vs[i]?=some v->kindOf x=some .local ->
  bindL kindOf (P.zip vs) m x=some v
 | [],_,_,_,_,h,_,_=>by simp at h
 | _ :: _,[],_,_,_,_,h,_=>by simp at h
 | p :: P,w :: vs,0,m,nd,h1,h2,hk=>by
  simp at h1 h2;subst h1;subst h2
  show bindL kindOf ((p,w) :: P.zip vs) m p=_
  unfold bindL
  rw [Kf λv hv=>(Ydf.mp nd).1 (List.of_mem_zip hv).1,Yak hk]
  simp
 | p :: P,w :: vs,i+1,m,nd,h1,h2,hk=>by
  show bindL kindOf ((p,w) :: P.zip vs) m x=_
  unfold bindL
  exact Kh (i:=i) (Ydf.mp nd).2 (by simpa using h1) (by simpa using h2) hk
theorem Ki{kindOf:Str->Option NameKind}{x:Str}{v:Value}:∀{P:List Str} {vs:List Value} {i:Nat} {m:Str->Option Value},P.Nodup->P[i]?=some x->vs[i]?=some v->kindOf x≠some .local ->
  bindC kindOf (P.zip vs) m x=some v
 | [],_,_,_,_,h,_,_=>by simp at h
 | _ :: _,[],_,_,_,_,h,_=>by simp at h
 | p :: P,w :: vs,0,m,nd,h1,h2,hk=>by
  simp at h1 h2;subst h1;subst h2
  show bindC kindOf ((p,w) :: P.zip vs) m p=_
  unfold bindC
  rw [Kg λv hv=>(Ydf.mp nd).1 (List.of_mem_zip hv).1,Yah hk]
  simp
 | p :: P,w :: vs,i+1,m,nd,h1,h2,hk=>by
  show bindC kindOf ((p,w) :: P.zip vs) m x=_
  unfold bindC
  exact Ki (i:=i) (Ydf.mp nd).2 (by simpa using h1) (by simpa using h2) hk
def start(N:List Str)(vs:List V):St:=vs.map some++List.replicate (N.length - vs.length) none
def Hl(CX:CXT)(P:Program)(w:World)(K:PySem.W.Frag)(mg:Str->Option Value)(base:Heap)(N:List Str)(qual:Str)(scope:Scope)(f:Addr)(cd:Value)(A:Around)(outer:List Env)(s:Shared)(H:Hp)(E:XK):Cx where
 prog:=P
 w:=w
 K:=K
 mg:=mg
 base:=base
 A:=A.deeper (envOfC qual scope s.heap.objs.size f cd)
 N:=N
 s₀:=s
 H₀:=H
 env:=envOfC qual scope s.heap.objs.size f cd
 outer:=outer
 stack:=envOfC qual scope s.heap.objs.size f cd :: outer
 ex:=[]
 calm:=true
 fn:=λ_=>true
 pn:=[]
 xe:=λe s'=>wpAny (model P w) (A.deeper (envOfC qual scope s.heap.objs.size f cd)) («leaving» (envOfC qual scope s.heap.objs.size f cd) e) (λ_ xg=>CX outer H s E e xg) (λe' xg=>CX outer H s E e' xg) s'
theorem My{sc:Scope}{n:Nat}{x:Str}(h:sc.names.lookup x=some .cell):∃c,(cellsFrom n sc.names []).lookup x=some c:=by
 have q:=PySem.W.cellsFrom_some sc.names n [] (.inl h)
 exact Yed.mp q
theorem Sj{CX:CXT}{P:Program}{w:World}{K:PySem.W.Frag}{mg:Str->Option Value}{base:Heap}{N ps:List Str}{qual:Str}{scope:Scope}{f:Addr}{cd:Value}{A:Around}{outer:List Env}{s s1:Shared}{H:Hp}{E:XK}{us:List Value}{vs:List V}
  (S:FnScope N ps scope) (hd:A.handled=none) (e0:Env0 P w K mg base A outer s H) (hl:vs.length=ps.length) (r:Vals vs us)
  (x:InCallC s s.heap.objs.size (bindL (envOfC qual scope s.heap.objs.size f cd).kindOf (ps.zip us) λ_=>none) (cellsFrom (s.heap.objs.size+1) scope.names []) (bindC (envOfC qual scope s.heap.objs.size f cd).kindOf (ps.zip us) λ_=>none) s1) :
  Inv (Hl CX P w K mg base N qual scope f cd A outer s H E) [] (start N vs) H s1:=by
 have hpl:ps.length<=N.length:=by have:=Ydl List.length S.pre;rw [Ybs]at this;omega
 obtain⟨h1,tk,rfl,hk⟩:=x.done
 have uh:∀b:Addr,b∉(Hl CX P w K mg base N qual scope f cd A outer s H E).ex:=λb z=>absurd (show b∈([]:List Addr) from z) (by simp)
 refine⟨⟨e0.mod,S.kind,rfl,rfl,Yaf _,λy z c h1 h2=>?_,λy hy=>?_,λy c _ h=>?_,λ_=>hd,Around.frames_deeper e0.frames,.inr ⟨rfl,rfl⟩,λb z=>absurd z (uh b),e0.bs,e0.bsz,λb _ _=>uh b,λb z=>absurd z (uh b),e0.funs,e0.frf⟩,
  rfl,e0.bare,Un.kept hk,⟨_,x.toInCall.ns,λi y v h1 h2 h3=>?_⟩,λy c h=>⟨_,x.cell y c h⟩,e0.hok.fresh (Yaf _),λy c h=>?_,λp hp=>absurd (show p∈([]:List (Addr×Obj)) from hp) (by simp),e0.hok.kept hk,?_⟩
 ·exact name_of_addr x.apart (Ydm h1) (Ydm h2)
 ·have hy:scope.names.lookup y=some .cell\/scope.names.lookup y=some .free:=hy
  rcases hy with hy | hy
  ·exact My hy
  ·exact absurd rfl (S.nofree _ (Ydm hy))
 ·exact Yco (x.above y c (Ydm h))
 ·have hi:i < vs.length:=by
   unfold start at h2
   by_cases hi:i < vs.length
   ·exact hi
   ·rw [List.getElem?_append_right (by simpa using hi)]at h2
    rw [List.getElem?_replicate]at h2
    split at h2 <;> cases h2
  have ha:vs[i]?=some v:=by
   unfold start at h2
   rw [List.getElem?_append_left (by simpa using hi),List.getElem?_map]at h2
   cases e:vs[i]? with
   | none=>rw [e]at h2;cases h2
   | some a=>rw [e]at h2;cases h2;rfl
  obtain⟨u,hu,rv⟩:=r.get ha
  have hp:ps[i]?=some y:=by
   rw [<- S.pre,List.getElem?_take_of_lt (by omega)];exact h1
  have ndP:ps.Nodup:=by rw [<- S.pre];exact S.nd.sublist (List.take_sublist _ _)
  refine⟨u,rv,?_⟩
  rcases S.par y (Ybr hp) with k | k
  ·exact .inl ⟨k,Kh ndP hp hu k⟩
  ·obtain⟨c,e⟩:=My (n:=s.heap.objs.size+1) k
   refine .inr ⟨.inl k,c,e,?_⟩
   have q:=x.cell y c e
   rw [Ki ndP hp hu (by show scope.names.lookup y≠_;rw [k];decide)]at q
   exact q
 ·exact e0.hok.fresh (Yco (x.above y c (Ydm h)))
 ·unfold start
  show _=N.length
  rw [Yag,Yac,List.length_replicate]
  omega
theorem Qau{CX:CXT}{P:Program}{w:World}{K:PySem.W.Frag}{mg:Str->Option Value}{base:Heap}{k:Nat}{f:Addr}{name qual:Str}{params:Arguments}{body:List Stmt}{scope:Scope}{dV kV gl pm az ct oc:Value}{an od:Option Addr}
  {mh:Array (Option Value)} {N ps:List Str} {sp:Sp} (lk:K.lookup f=some ⟨oc,od,.func (PySem.W.fnOf name qual params body scope dV kV gl pm an az ct),mh⟩) (jj:PySem.W.codeIn K az qual=true) (S:FnScope N ps scope)
  (len:∀vs H Q E,sp vs H Q E->vs.length=ps.length)
  (dg:∀(A:Around) (outer:List Env) (s:Shared) (H:Hp) (vs:List V) (Q:VK) (E:XK),Room k (A.deeper (envOfC qual scope s.heap.objs.size f az))->sp vs H Q E ->
   ∃t,PSs (Hl CX P w K mg base N qual scope f az A outer s H E) body t/\t { nx:=λ_ H'=>Q .non H',rt:=Q } (start N vs) H) :
  FnOk P w K mg base CX (k+1) f (PySem.W.fnOf name qual params body scope dV kV gl pm an az ct) ps sp:=by
 refine⟨len,λA outer s H args us vs Q E hr e0 hb r jo=>?_⟩
 have hl:=len _ _ _ _ jo
 have KX:K.In s.heap:=e0.mod.kin.keeps λb o e=>(e0.bs b o e).1
 have lim:s.heap.NoLimit:=e0.mod.nolimit.keeps λb o e=>(e0.bs b o e).1
 have ur:∀y∈ps.zip us,scope.names.lookup y.1=some .local\/(scope.names.lookup y.1=some .cell/\((cellsFrom (s.heap.objs.size+1) scope.names []).lookup y.1).isSome=true):=λ⟨n,v⟩ hy=>by
  rcases S.par n (List.of_mem_zip hy).1 with q | q
  ·exact .inl q
  ·exact .inr ⟨q,PySem.W.cellsFrom_some _ _ _ (.inl q)⟩
 refine codeAny_call_function hr.depth (KX _ _ lk) rfl S.co S.gen rfl (PySem.W.codeRec_of KX jj) (hb _ _ _ _ ?_)
 refine wpAny_newFunctionEnv_cells S.kind ur λenv he s1 x=>?_
 subst he
 refine⟨lim.keeps x.toInCall.keep,codeAny_func ?_⟩
 obtain⟨t,ht,hq⟩:=dg A outer s H vs Q E (hr.deeper _) jo
 have I:Inv (Hl CX P w K mg base N qual scope f az A outer s H E) [] (start N vs) H s1:=Sj S hr.hd e0 hl r x
 refine Ybk (ht [] s1 (start N vs) H _ I hq) (λfl s' hs=>?_) λe s' hs=>hs
 have fin:∀{σ':St} {H':Hp} {v:V} {u:Value},Inv (Hl CX P w K mg base N qual scope f az A outer s H E) [] σ' H' s'->Bj v u->Q v H'->CE outer P w H s Q u s' :=
  λ{σ' H' v u} J rv q=>⟨v,H',J.os,J.bare,J.base,J.hok,rv,q⟩
 cases fl with
 | ret u =>
  obtain⟨v,σ',H',J,rv,q⟩:=hs
  exact fin J rv q
 | next =>
  obtain⟨σ',H',J,q⟩:=hs
  exact fin (v:=V.non) (u:=Value.none) J rfl q
 | brk =>
  obtain⟨_,_,_,q⟩:=hs
  exact False.elim q
 | cont =>
  obtain⟨_,_,_,q⟩:=hs
  exact False.elim q
section
variable {X:Cx}{x:Str}{p pos:Pos}{e:Expr}{es:List Expr}{t:TA}{id T:String}{r:List V->Hp->VK->Prop}
def tCB(r:List V->Hp->VK->Prop)(t:TA):TE:=fun σ H Q=>t σ H λvs H1=>r vs H1 Q
theorem Uw(hc:Ej X (.builtin id) r)(hg:Gl X x)(hm:X.mg x=none)(hv:bootBuiltins x=some (.builtin id))(ha:PA X (e :: es) t)(hn:x ≠ "__name__" := by decide) (hdb:(x==("__debug__" : Str))=false:=by decide)
  (he:starEach (e :: es) X.env=(false,eval e X.env) :: starEach es X.env:=by rfl) (hpl:(backTo pos (starEach es X.env)).any (·.1)=false:=by rfl):PE X (.Call (.Name x p) (e :: es) [] pos) (tCB r t):=by
 intro aa s σ H Q I h
 refine Yav (Bw I hg hm hv ?_ hn hdb)
 exact Ybq (thn (ha pos aa s σ H _ I h) λus s1 qy=>Cj qy λvs H1 I1 r1 q1=>hc aa s1 σ H1 vs us Q I1 r1 q1) he hpl
theorem Sk(hc:Ej X (.type T) r)(hg:Gl X x)(hm:X.mg x=none)(hv:bootBuiltins x=some (.type T))(ha:PA X (e :: es) t)(hn:x ≠ "__name__" := by decide) (hdb:(x==("__debug__" : Str))=false:=by decide)
  (he:starEach (e :: es) X.env=(false,eval e X.env) :: starEach es X.env:=by rfl) (hpl:(backTo pos (starEach es X.env)).any (·.1)=false:=by rfl):PE X (.Call (.Name x p) (e :: es) [] pos) (tCB r t):=by
 intro aa s σ H Q I h
 refine Yav (Bw I hg hm hv ?_ hn hdb)
 exact Yay (thn (ha pos aa s σ H _ I h) λus s1 uu=>Cj uu λvs H1 I1 r1 q1=>hc aa s1 σ H1 vs us Q I1 r1 q1) he hpl
end
end L2
namespace HT
open PySem PyProof.Rows
section
open PySem.SeqAt
open PySem.AutoSeq1 (wpAny_loadPart')
open PySem.MeetsSeq PySem.MeetsSeq2 PySem.MeetsSeq3
end
section
variable {prog:Program}{w:World}{A:Around}{E:Value->Shared->Prop}{s:Shared}
theorem cat_tup{t b:Addr}{vs ws:List Value}{Q:Value->Shared->Prop}(ht:IsTup s.heap t vs.toArray)(hb:IsTup s.heap b ws.toArray)(hv:vs≠[])
  (h1:ws=[]->Q (.ref t) s) (h2:ws≠[]->Q (.ref s.heap.objs.size) { s with heap:=s.heap.push { cls:=.type "tuple",data:=.seq (vs++ws).toArray } })
  (bz:vs.length+ws.length<=sizeLine):wpAny (model prog w) A (binaryOp .Add (.ref t) (.ref b)) Q E s:=by
 obtain⟨⟨cls,dd,data,sl⟩,ho,hc,n,hd⟩:=id ht
 obtain⟨⟨cls2,dd2,data2,qf⟩,i6,jh,n2,i9⟩:=id hb
 simp only at hc hd jh i9
 subst hc hd jh i9
 have e:vs.toArray++ws.toArray=(vs++ws).toArray:=by simp
 by_cases hw:ws=[]
 ·exact concat_meets ⟨_,ho,rfl⟩ ⟨_,i6,rfl⟩ noFill_tuple_add seq_tuple_add Yew Yem (Yee _ _)
   (tuple_addW1 t b vs.toArray ws.toArray n n2 dd dd2 sl qf (by simpa using hv) (by simp [hw])) ⟨ho,i6,h1 hw⟩
 ·refine concat_meets ⟨_,ho,rfl⟩ ⟨_,i6,rfl⟩ noFill_tuple_add seq_tuple_add Yew Yem (Yee _ _)
   (tuple_addW2 t b vs.toArray ws.toArray n n2 dd dd2 sl qf (by simpa using hv) (by simpa using hw) (by rw [Yan,Yan];exact bz)) ⟨ho,i6,?_⟩
  rw [e]
  exact h2 hw
def sIx(n d:Nat):Option Int->Nat
 | none=>d
 | some v=>if v < 0 then(v+(n:Int)).toNat else min v.toNat n
theorem sIx_none(n d:Nat):sIx n d none=d:=rfl
theorem sIx_nat(n d k:Nat):sIx n d (some (k:Int))=min k n:=by
 show(if(k:Int) < 0 then((k:Int)+(n:Int)).toNat else min (k:Int).toNat n)=min k n
 rw [Yah (by omega),Yey]
theorem Qcq(n d:Nat)(hd:d<=n)(o:Option Int):sIx n d o<=n:=by
 cases o with
 | none=>exact hd
 | some v =>
  show(if v < 0 then(v+(n:Int)).toNat else min v.toNat n)<=n
  by_cases hv:v < 0
  ·rw [Yak hv];omega
  ·rw [Yah hv];exact Nat.min_le_right _ _
theorem Qo(v:Int)(n d:Nat):(if v < 0 then max (v+(n:Int)) 0 else min v (n:Int))=((sIx n d (some v):Nat):Int):=by
 show(if v < 0 then max (v+(n:Int)) 0 else min v (n:Int))=(((if v < 0 then(v+(n:Int)).toNat else min v.toNat n):Nat):Int)
 by_cases hv:v < 0
 ·simp only [if_pos hv];omega
 ·simp only [if_neg hv];omega
theorem Oy(lo hi:Option Int)(n:Nat):Builtin.Slice.sliceAdjust lo hi 1 (n:Int)=(((sIx n 0 lo:Nat):Int),((sIx n n hi:Nat):Int)):=by
 have h1:¬((1:Int) < 0):=by omega
 unfold Builtin.Slice.sliceAdjust
 simp only [h1,if_false]
 refine Prod.ext ?_ ?_
 ·cases lo with
  | none=>rfl
  | some v=>exact Qo v n 0
 ·cases hi with
  | none=>rfl
  | some v=>exact Qo v n n
theorem Oz(i j:Nat):Builtin.Slice.slicePlaces (i:Int) (j:Int) 1=j - i:=by
 unfold Builtin.Slice.slicePlaces
 have h1:(1:Int) > 0:=by omega
 simp only [h1,if_true,Int.ediv_one]
 split <;> omega
theorem Ic{v:Value}{o:Option Int}{Q:Option Int->Shared->Prop}(p:IsPart v o)(h:Q o s):wpAny (model prog w) A (Builtin.Slice.slicePartIndex v) Q E s:=by
 cases p with
 | none=>exact slicePart_none h
 | int i t=>exact slicePart_int h
theorem Dv{sl:Addr}{vl vu:Value}{lo hi:Option Int}{n:Nat}{Q:Int×Int×Nat->Shared->Prop}(hs:s.heap.IsSliceOf sl vl vu .none)(pl:IsPart vl lo)(pu:IsPart vu hi)
  (h:Q (((sIx n 0 lo:Nat):Int),1,sIx n n hi - sIx n 0 lo) s):wpAny (model prog w) A (Builtin.Slice.sliceApplied (.ref sl) (pure (n:Int))) Q E s:=by
 obtain⟨os,hos,hcs,hds⟩:=id hs
 unfold Builtin.Slice.sliceApplied Builtin.Slice.sliceFields
 refine Yaa (Yaa (Ya7 hos hds (x:=vl) rfl (Yaa (Ya7 hos hds (x:=vu) rfl (Yaa (Ya7 hos hds (x:=.none) rfl (Yab ?_)))))))
 refine Yaa (slicePart_none ?_)
 show wpAny _ _ (if((1:Int)==0)=true then _ else _) _ _ s
 rw [Yah (by decide)]
 refine Yaa (Ic pl (Yaa (Ic pu (Yaa (Yab ?_)))))
 show wpAny _ _ (match Builtin.Slice.sliceAdjust lo hi 1 (n:Int) with | (lo,hi)=>pure (lo,(1:Int),Builtin.Slice.slicePlaces lo hi 1)) _ _ s
 rw [Oy lo hi n]
 show wpAny _ _ (pure (((sIx n 0 lo:Nat):Int),(1:Int),Builtin.Slice.slicePlaces ((sIx n 0 lo:Nat):Int) ((sIx n n hi:Nat):Int) 1)) _ _ s
 rw [Oz]
 exact Yab h
theorem Ux(xs:Array Value)(i k:Nat):((List.range k).filterMap λ(m:Nat)=>xs[((i:Int)+(m:Int) * 1).toNat]?).toArray=((xs.toList.drop i).take k).toArray:=by
 have e:(λ(m:Nat)=>xs[((i:Int)+(m:Int) * 1).toNat]?)=λm=>xs[i+m]?:=by
  funext m
  have:((i:Int)+(m:Int) * 1).toNat=i+m:=by omega
  rw [this]
 rw [e]
 have:=pick_run xs i k
 rw [List.filterMap_map]at this
 have e2:((λx=>xs[x]?) ∘ λx=>i+x)=λm=>xs[i+m]?:=rfl
 rw [e2]at this
 rw [this]
theorem getItem_tuple_cut{t sl:Addr}{items:Array Value}{vl vu:Value}{lo hi:Option Int}{Q:Value->Shared->Prop}(ht:IsTup s.heap t items)(hs:s.heap.IsSliceOf sl vl vu .none)(pl:IsPart vl lo)(pu:IsPart vu hi)
  (hw:¬(sIx items.size 0 lo=0/\sIx items.size items.size hi=items.size))
  (h:Q (.ref s.heap.objs.size) { s with heap:=s.heap.push { cls:=.type "tuple",data:=.seq ((items.toList.drop (sIx items.size 0 lo)).take (sIx items.size items.size hi - sIx items.size 0 lo)).toArray } })
  (bz:items.size<=sizeLine):wpAny (model prog w) A (getItem (.ref t) (.ref sl)) Q E s:=by
 have jr:sizeOk (.seq ((items.toList.drop (sIx items.size 0 lo)).take (sIx items.size items.size hi - sIx items.size 0 lo)).toArray):=by
  show((items.toList.drop (sIx items.size 0 lo)).take (sIx items.size items.size hi - sIx items.size 0 lo)).toArray.size<=sizeLine
  rw [Yan,Ybs,Ycp,Yal]
  omega
 have hj:sIx items.size items.size hi<=items.size:=Qcq _ _ (Yaf _) hi
 obtain⟨os,hos,hcs,hds⟩:=id hs
 have hTs:s.TypeIs (.ref sl) "slice" := ⟨os,hos,hcs⟩
 unfold getItem
 try with_reducible refine Ya4 ?_
 first | refine Yaa (Yab ?_) | skip
 refine Yaa (wpAny_sequenceKey ht.typeIs (by decide) ?_)
 refine Yaa (wpAny_callSpecial?_slot (name:=Str.ofString "__getitem__") ht.typeIs Ybv
  (Ybb Ybv ht.typeIs entry_tuple_getitem ?_ (args_tuple_getitem _ _)))
 show wpAny _ _ (Builtin.Tuple.tupleItemsOf (.ref t) >>= _) _ _ s
 refine Yaa (tupleItemsOf_ ht ?_)
 refine Yaa (Ydw hTs ?_)
 rw [Yak (by decide)]
 refine Yaa (Dv hs pl pu ?_)
 have jk:¬((((sIx items.size 0 lo:Nat):Int)==0 && (1:Int)==1 && (sIx items.size items.size hi - sIx items.size 0 lo)==items.size)=true):=by
  intro q
  rw [Ybm,Ybm]at q
  have q1:((sIx items.size 0 lo:Nat):Int)=0:=eq_of_beq q.1.1
  have q2:sIx items.size items.size hi - sIx items.size 0 lo=items.size:=eq_of_beq q.2
  exact hw ⟨by omega,by omega⟩
 show wpAny _ _ (if(((sIx items.size 0 lo:Nat):Int)==0 && (1:Int)==1 && (sIx items.size items.size hi - sIx items.size 0 lo)==items.size)=true then _ else _) _ _ s
 rw [Yah jk,Ux]
 first
  | exact Yaa (m:=Builtin.Tuple.tupleExact _) (Ya1 (Yab ⟨_,rfl,Yab h⟩) jr)
  | exact Yaa (m:=Builtin.Tuple.tupleExact _) (Ya1 (Yaa (Yab (Yab ⟨_,rfl,Yab h⟩))) jr)
  | exact Yaa (Yaa (m:=Builtin.Tuple.tupleExact _) (Ya1 (Yab (Yab ⟨_,rfl,Yab h⟩)) jr))
  | exact Yaa (Yaa (m:=Builtin.Tuple.tupleExact _) (Ya1 (Yab ⟨_,rfl,Yab h⟩) jr))
end
end HT
namespace L2
open PySem PySem.Spec PyProof.Rows
abbrev TO:=St->Hp->(Option Int->Hp->Prop)->Prop
def PO(X:Cx)(e:Option Expr)(t:TO):Prop :=
 ∀(aa:List (Addr×Obj)) (s:Shared) (σ:St) (H:Hp) (Q:Option Int->Hp->Prop),Inv X aa σ H s->t σ H Q ->
  wpAny (model X.prog X.w) X.A (evalPart e X.env) (λu s'=>∃o H',Inv X aa σ H' s'/\IsPart u o/\Q o H') X.xe s
def Yl:TO:=λ_ H Q=>Q none H
def Qfz(t:TE):TO:=fun σ H Q=>t σ H λx H1=>∃i,x=.int i/\Q (some i) H1
section
variable {X:Cx}{e:Expr}{te:TE}{lo hi:Option Expr}{tl th:TO}{pos p2:Pos}
theorem Ym:PO X none Yl:=by
 intro aa s σ H Q I h
 rw [evalPart_none]
 exact Yab ⟨none,H,I,.none,h⟩
theorem Yn(h:PE X e te):PO X (some e) (Qfz te):=by
 intro aa s σ H Q I hw
 rw [evalPart_some]
 refine thn (h aa s σ H _ I hw) λu s1 u6=>Cj u6 λx H1 I1 r1 q1=>?_
 obtain⟨i,rfl,q⟩:=q1
 obtain⟨t,rfl⟩:=r1
 exact⟨some i,H1,I1,.int i t,q⟩
def SlR(X:Cx)(r:V->Option Int->Option Int->Hp->VK->Prop):Prop :=
 ∀(aa:List (Addr×Obj)) (s:Shared) (σ:St) (H:Hp) (x:V) (v vl vu:Value) (lo hi:Option Int) (sl:Addr) (Q:VK),Inv X aa σ H s->Bj x v->s.heap.IsSliceOf sl vl vu .none->IsPart vl lo->IsPart vu hi->r x lo hi H Q ->
  ∃T id,typeLookup (.type T) "__getitem__" = pure (some (.builtin id))/\s.TypeIs v T/\wpAny (model X.prog X.w) X.A (getItem v (.ref sl)) (EP X aa σ Q) X.xe s
def tSl(r:V->Option Int->Option Int->Hp->VK->Prop)(te:TE)(tl th:TO):TE:=fun σ H Q=>te σ H λx H1=>tl σ H1 λl H2=>th σ H2 λu H3=>r x l u H3 Q
theorem Uy{r:V->Option Int->Option Int->Hp->VK->Prop}(hr:SlR X r)(he:PE X e te)(hl:PO X lo tl)(hu:PO X hi th):PE X (.Subscript e (.Slice lo hi none p2) pos) (tSl r te tl th):=by
 intro aa s σ H Q I h
 refine Subscript_ (thn (he aa s σ H _ I h) λv s1 vh=>Cj vh λx H1 I1 r1 q1=>?_)
 refine wpAny_Slice (thn (hl aa s1 σ H1 _ I1 q1) λvl s2 qk=>Cj qk λl H2 I2 pl q2=>thn (hu aa s2 σ H2 _ I2 q2) λvu s3 uz=>Cj uz λu H3 I3 pu q3=>?_)
 rw [evalPart_none]
 refine Yab ?_
 have I4:Inv X aa σ H3 { s3 with heap:=s3.heap.push { cls:=.type "slice",data:=.fields #[vl,vu,.none] } }:=I3.kept (t':=s3.toks) λb ob q=>Heap.get?_push_of_some _ q
 obtain⟨T,id,hT,ht,hg⟩:=hr aa { s3 with heap:=s3.heap.push { cls:=.type "slice",data:=.fields #[vl,vu,.none] } } σ H3 x v vl vu l u s3.heap.objs.size Q I4 r1 (Heap.IsSliceOf.new ..) pl pu q3
 show wpAny (model X.prog X.w) X.A (subscriptTail e (.Slice lo hi none p2) v (.ref s3.heap.objs.size)) (EP X aa σ Q) X.xe { s3 with heap:=s3.heap.push { cls:=.type "slice",data:=.fields #[vl,vu,.none] } }
 exact tail_any (ops:=[.ref s3.heap.objs.size,v]) ht hT hg (by with_unfolding_all rfl)
def Jv(xs:List V)(lo hi:Option Int):List V:=(xs.drop (HT.sIx xs.length 0 lo)).take (HT.sIx xs.length xs.length hi - HT.sIx xs.length 0 lo)
theorem G5(xs:List V)(lo hi:Option Int):(Jv xs lo hi).length<=xs.length:=by
 unfold Jv
 rw [Ybs,Ycp]
 omega
def Qji(K:PySem.W.Frag):V->Option Int->Option Int->Hp->VK->Prop:=λx lo hi H Q=>∃a xs,x=.ref a/\Gi K H a xs /\
 ¬(HT.sIx xs.length 0 lo=0/\HT.sIx xs.length xs.length hi=xs.length)/\∀p,H p=none->Q (.ref p) (upd H p (.tup (Jv xs lo hi)))
theorem Qcr:SlR X (Qji X.K):=by
 intro aa s σ H x v vl vu lo hi sl Q I rx hs pl pu h
 obtain⟨a,xs,rfl,hx,hw,q⟩:=h
 cases rx
 obtain⟨af,r,ht,hz⟩:=I.tuple hx
 have ak:af.toArray.size=xs.length:=by rw [Yan];exact r.length.symm
 refine⟨"tuple",_,Ybv.lookup,ht.typeIs,?_⟩
 refine HT.getItem_tuple_cut ht hs pl pu (by rw [ak];exact hw) ?_ (by rw [ak];exact hz)
 rw [ak]
 refine⟨.ref s.heap.objs.size,_,I.laid (t':=s.toks) (o:=.tup (Jv xs lo hi)) (λb ob q=>Heap.get?_push_of_some _ q) (Yaf _) ?_,rfl,q _ (I.hok.fresh (Yaf _))⟩
 exact⟨Yas (G5 xs lo hi) hz,_,(r.drop (HT.sIx xs.length 0 lo)).take (HT.sIx xs.length xs.length hi - HT.sIx xs.length 0 lo),IsTup.new _ _⟩
theorem Vals.nil_iff{xs:List V}{us:List Value}(r:Vals xs us):us=[]↔xs=[]:=by
 cases r with
 | nil=>simp
 | cons _ _=>simp
end
def Ue(n:Nat)(i:Int):Option Nat:=if 0<=i then(if i < n then some i.toNat else none) else if -(n:Int)<=i then some (i+n).toNat else none
def atI{α:Type}(xs:List α)(i:Int):Option α:=(Ue xs.length i).bind λj=>xs[j]?
theorem Qp{n:Nat}{i:Int}{j:Nat}(h:Ue n i=some j):seqIndex? i n=some j/\j < n/\-(n:Int)<=i/\i < n:=by
 unfold Ue at h
 by_cases h0:0<=i
 ·rw [Yak h0]at h
  by_cases h1:i < n
  ·rw [Yak h1]at h
   have e:i.toNat=j:=Ya3 h
   exact⟨by rw [seqIndex_of h0 h1,e],by omega,by omega,h1⟩
  ·rw [Yah h1]at h;cases h
 ·rw [Yah h0]at h
  by_cases h1:-(n:Int)<=i
  ·rw [Yak h1]at h
   have e:(i+n).toNat=j:=Ya3 h
   exact⟨by rw [seqIndex_neg (by omega) h1,e],by omega,h1,by omega⟩
  ·rw [Yah h1]at h;cases h
theorem Lo{α:Type}{xs:List α}{i:Int}{v:α}(h:atI xs i=some v):∃j,seqIndex? i xs.length=some j/\xs[j]?=some v/\j < xs.length/\-(xs.length:Int)<=i/\i < xs.length:=by
 unfold atI at h
 cases e:Ue xs.length i with
 | none=>rw [e]at h;cases h
 | some j =>
  rw [e]at h
  obtain⟨h1,h2,h3,h4⟩:=Qp e
  exact⟨j,h1,h,h2,h3,h4⟩
theorem Ap{α:Type}{xs:List α}{j:Nat}{v:α}(h:xs[j]?=some v):atI xs (j:Int)=some v:=by
 have hj:j < xs.length:=(List.getElem?_eq_some_iff.mp h).1
 have e:Ue xs.length (j:Int)=some j:=by
  unfold Ue
  rw [Yak (by omega),Yak (by omega)];simp
 unfold atI;rw [e];exact h
theorem Uz{α:Type}(xs:List α)(v:α):atI (xs++[v]) (-1)=some v:=by
 have hl:(xs++[v]).length=xs.length+1:=by simp
 have e:Ue (xs++[v]).length (-1)=some xs.length:=by
  unfold Ue
  rw [hl,Yah (by decide),Yak (by omega)]
  congr 1
  omega
 unfold atI
 rw [e]
 show(xs++[v])[xs.length]?=some v
 simp
def Qq(b:Expr):Prop:=∀o i,subscripted b false o i=operate [o,i] (getItem o i)
def IxR(X:Cx)(r:R2):Prop :=
 ∀(value slice:Expr) (aa:List (Addr×Obj)) (s:Shared) (σ:St) (H:Hp) (x y:V) (v u:Value) (Q:VK),Inv X aa σ H s->Bj x v->Bj y u->r x y H Q ->
  subscripted slice false v u=operate [v,u] (getItem v u)->wpAny (model X.prog X.w) X.A (subscriptTail value slice v u) (EP X aa σ Q) X.xe s
def MtR(X:Cx)(id:String)(r:V->List V->Hp->VK->Prop):Prop :=
 ∀(aa:List (Addr×Obj)) (s:Shared) (σ:St) (H:Hp) (x:V) (xs:List V) (v:Value) (us:List Value) (Q:VK),Inv X aa σ H s->Bj x v->Vals xs us->r x xs H Q ->
  wpAny (model X.prog X.w) X.A (call (.builtin id) (v :: us)) (EP X aa σ Q) X.xe s
section
variable {X:Cx}{a b:Expr}{ta tb:TE}{pos:Pos}
theorem Qf2{r:R2}(hr:IxR X r)(ha:PE X a ta)(hb:PE X b tb)(hs:Qq b):PE X (.Subscript a b pos) (tOp r ta tb):=by
 intro aa s σ H Q I h
 exact Subscript_ (Qch ha hb I h λv u s2 x y H2 I2 rx ry q=>hr a b aa s2 σ H2 x y v u Q I2 rx ry q (hs _ _))
def Qjj(K:PySem.W.Frag):R2:=λx y H Q=>∃p xs i v,x=.ref p/\y=.int i/\Du K H p xs/\atI xs i=some v/\Q v H
def Qjk(K:PySem.W.Frag):R2:=λx y H Q=>∃p xs i v,x=.ref p/\y=.int i/\Gi K H p xs/\atI xs i=some v/\Q v H
def Qjl:R2:=λx y H Q=>∃z i c,x=.str z/\y=.int i/\z.length<=sizeLine/\atI z.cps.toList i=some c/\Q (.str ⟨#[c]⟩) H
theorem Qr:IxR X (Qjj X.K):=by
 intro value slice aa s σ H x y v u Q I rx ry h hs
 obtain⟨p,xs,i,z,rfl,rfl,hq,he,q⟩:=h
 cases rx
 obtain⟨t,rfl⟩:=ry
 obtain⟨af,r,pl,hz⟩:=I.list hq
 obtain⟨j,h1,h2,h3,h4,h5⟩:=Lo he
 obtain⟨w,ew,rw'⟩:=r.get h2
 have hl:=r.length
 have hn:=Gj
 have fin:EP X aa σ Q w s:=⟨z,H,I,rw',q⟩
 by_cases h0:0<=i
 ·have hj:i.toNat=j:=by
   rw [seqIndex_of h0 h5]at h1
   exact Ya3 h1
  exact item_listR pl.isList h0 (by omega) (by rw [hj];simpa using ew) fin hs
 ·have hj:(i+(af.toArray.size:Int)).toNat=j:=by
   rw [seqIndex_neg (by omega) h4]at h1
   rw [Yan,<- hl]
   exact Ya3 h1
  exact subscriptTail_builtinR (x:=w) pl.isList.typeIs slot_list_getitem.lookup
   (wpAny_getItem_list_neg (Q:=λr s'=>r=w/\EP X aa σ Q r s') pl.isList (by omega) (by rw [Yan] <;> omega) (by omega) (by rw [hj];simpa using ew) ⟨rfl,fin⟩) hs
theorem Qcs:IxR X (Qjk X.K):=by
 intro value slice aa s σ H x y v u Q I rx ry h hs
 obtain⟨p,xs,i,z,rfl,rfl,hq,he,q⟩:=h
 cases rx
 obtain⟨t,rfl⟩:=ry
 obtain⟨af,r,pl,hz⟩:=I.tuple hq
 obtain⟨j,h1,h2,h3,h4,h5⟩:=Lo he
 obtain⟨w,ew,rw'⟩:=r.get h2
 have hl:=r.length
 have hn:=Gj
 have fin:EP X aa σ Q w s:=⟨z,H,I,rw',q⟩
 exact subscriptTail_builtinR (x:=w) pl.typeIs slot_tuple_getitem.lookup
  (getItem_tuple (j:=j) (Q:=λr s'=>r=w/\EP X aa σ Q r s') pl (by omega) (by omega) (by rw [Yan,<- hl];exact h1) (by simpa using ew) ⟨rfl,fin⟩) hs
theorem Qct:IxR X Qjl:=by
 intro value slice aa s σ H x y v u Q I rx ry h hs
 obtain⟨z,i,c,rfl,rfl,hz,he,q⟩:=h
 obtain⟨t,rfl⟩:=rx
 obtain⟨t',rfl⟩:=ry
 obtain⟨j,h1,h2,h3,h4,h5⟩:=Lo he
 have hl:z.cps.toList.length=z.length:=by simp [Str.length]
 rw [hl]at h1 h4 h5
 have hn:=Gj
 exact tail_any (typeIs_str s z t) slot_str_getitem.lookup (getItem_str (c:=c) (by
  have e1:decide (i < -(2 ^ 63:Int))=false:=Yau (by omega)
  have e2:decide (i>=2 ^ 63)=false:=Yau (by omega)
  rw [e1,e2,Bool.or_false]) (by rw [h1];simpa using h2) ⟨.str ⟨#[c]⟩,H,I.tok _,⟨_,rfl⟩,q⟩) hs
theorem O0(af:List Value)(n j:Nat)(u:Value):Obj.mapSeq (·.setIfInBounds j u) { cls:=.type "list",data:=.seq af.toArray n }={ cls:=.type "list",data:=.seq (af.set j u).toArray n }:=by
 simp [Obj.mapSeq]
theorem Inv.lst{aa:List (Addr×Obj)}{σ:St}{H:Hp}{s:Shared}{p:Addr}{xs:List V}(I:Inv X aa σ H s)(h:H p=some (.lst xs)) :
  ∃(af:List Value) (n:Nat),Vals xs af/\s.heap.get? p=some { cls:=.type "list",data:=.seq af.toArray n }/\xs.length<=sizeLine:=by
 obtain⟨z,af,n,r,e⟩:=I.hok p _ h
 exact⟨af,n,r,e,z⟩
theorem Inv.lstUpd{aa:List (Addr×Obj)}{σ:St}{H:Hp}{s:Shared}{p:Addr}{xs ys:List V}{af its':List Value}{n n':Nat}{f:Obj->Obj}(I:Inv X aa σ H s)(h:H p=some (.lst xs))
  (ho:s.heap.get? p=some { cls:=.type "list",data:=.seq af.toArray n }) (hf:f { cls:=.type "list",data:=.seq af.toArray n }={ cls:=.type "list",data:=.seq its'.toArray n' }) (r:Vals ys its') (hz:ys.length<=sizeLine) (t:Nat) :
  Inv X aa σ (upd H p (.lst ys)) { s with heap:=s.heap.update p f,toks:=t }:=by
 have e:(s.heap.update p f).get? p=some { cls:=.type "list",data:=.seq its'.toArray n' }:=by
  rw [Heap.get?_update_self f ho (by rw [hf] <;> rfl),hf]
 refine I.write (x:=p) (e:=p) (by rw [h];trivial) (.inl rfl) (λb u hb q=>(Heap.get?_update_other _ _ (Yc4 hb)).trans q) ⟨_,e⟩ ?_
 exact⟨hz,its',n',r,e⟩
def Qf3:V->V->V->Hp->(Hp->Prop)->Prop:=λo i v H Q=>∃p xs k j,o=.ref p/\i=.int k/\H p=some (.lst xs)/\Ue xs.length k=some j/\Q (upd H p (.lst (xs.set j v)))
theorem U0:PSet X Qf3:=by
 intro aa s σ H o i v ov iv u Q I ro ri rv h
 obtain⟨p,xs,k,j,rfl,rfl,hp,hj,q⟩:=h
 cases ro
 obtain⟨t,rfl⟩:=ri
 obtain⟨af,n,r,ho,hz⟩:=I.lst hp
 obtain⟨h1,h2,h3,h4⟩:=Qp hj
 have hl:=r.length
 have hn:=Gj
 have I':Inv X aa σ (upd H p (.lst (xs.set j v))) { s with heap:=s.heap.update p (Obj.mapSeq (·.setIfInBounds j u)) } :=
  I.lstUpd hp ho (O0 af n j u) (r.set rv j) (by rw [List.length_set];exact hz) s.toks
 by_cases h0:0<=k
 ·have hk:k.toNat=j:=by
   rw [seqIndex_of h0 h4]at h1
   exact Ya3 h1
  exact PySem.W.ki_setAt ho h0 (by omega) (by rw [Yan,<- hl];exact h4) (by rw [hk];exact⟨_,I',q⟩)
 ·have hk:(k+(af.toArray.size:Int)).toNat=j:=by
   rw [seqIndex_neg (by omega) h3]at h1
   rw [Yan,<- hl]
   exact Ya3 h1
  exact PySem.W.ki_setBack ho (by omega) (by rw [Yan,<- hl];exact h3) (by omega) (by rw [hk];exact⟨_,I',q⟩)
theorem Lp(lo hi:Option Int)(n:Nat):(sliceBounds lo hi none n).1=((HT.sIx n 0 lo:Nat):Int)/\(sliceBounds lo hi none n).2.1=((HT.sIx n n hi:Nat):Int)/\(sliceBounds lo hi none n).2.2=1:=by
 refine⟨?_,?_,rfl⟩
 ·cases lo with
  | none=>simp [sliceBounds,HT.sIx]
  | some i =>
   simp only [sliceBounds,HT.sIx,Option.getD_none,show(1:Int) > 0 by decide,if_true]
   by_cases h:i < 0
   ·simp only [h,if_true] <;> omega
   ·simp only [h,if_false] <;> omega
 ·cases hi with
  | none=>simp [sliceBounds,HT.sIx]
  | some i =>
   simp only [sliceBounds,HT.sIx,Option.getD_none,show(1:Int) > 0 by decide,if_true]
   by_cases h:i < 0
   ·simp only [h,if_true] <;> omega
   ·simp only [h,if_false] <;> omega
theorem Jw(af:List Value)(lo hi:Option Int):slicePick af.toArray lo hi none=((af.drop (HT.sIx af.length 0 lo)).take (HT.sIx af.length af.length hi - HT.sIx af.length 0 lo)).toArray:=by
 obtain⟨h1,h2,h3⟩:=Lp lo hi af.toArray.size
 unfold slicePick
 rw [h1,h2,h3]
 simp only [sliceRange_one,pick_run,List.size_toArray] <;> rfl
def Qjm(K:PySem.W.Frag):V->Option Int->Option Int->Hp->VK->Prop:=λx lo hi H Q=>∃a xs,x=.ref a/\Du K H a xs/\∀p,H p=none->Q (.ref p) (upd H p (.lst (Jv xs lo hi)))
theorem Yo:SlR X (Qjm X.K):=by
 intro aa s σ H x v vl vu lo hi sl Q I rx hs pl pu h
 obtain⟨a,xs,rfl,hx,q⟩:=h
 cases rx
 obtain⟨af,r,ht,hz⟩:=I.list hx
 have ak:=r.length
 refine⟨"list",_,slot_list_getitem.lookup,ht.isList.typeIs,?_⟩
 refine wpAny_getItem_list_slice ht.isList hs pl pu .none (by simp) ?_ (by rw [Yan] <;> omega)
 rw [Jw,<- ak]
 refine⟨.ref s.heap.objs.size,_,I.laid (t':=s.toks) (o:=.lst (Jv xs lo hi)) (λb ob q=>Heap.get?_push_of_some _ q) (Yaf _) ?_,rfl,q _ (I.hok.fresh (Yaf _))⟩
 exact⟨Yas (G5 xs lo hi) hz,_,0,(r.drop (HT.sIx xs.length 0 lo)).take (HT.sIx xs.length xs.length hi - HT.sIx xs.length 0 lo),Heap.get?_push_size _ rfl⟩
theorem Lq:Fq X (compareOp .NotIn) (λx y H Q=>∃i j,x=.str i/\y=.str j/\Q (.bl (!(!(Builtin.Str.occurrences j i 0 j.length 1).isEmpty))) H):=by
 intro aa s σ H x y v u Q I rx ry h
 obtain⟨i,j,rfl,rfl,q⟩:=h
 obtain⟨t,rfl⟩:=rx
 obtain⟨t',rfl⟩:=ry
 exact notIn_str ⟨.bl _,H,I,rfl,q⟩
theorem Ea:Ej X (.builtin "len") (λxs H Q=>∃p ys,xs=[.ref p]/\(Du X.K H p ys\/Gi X.K H p ys)/\Q (.int ys.length) H):=by
 intro aa s σ H xs us Q I r h
 obtain⟨p,ys,rfl,hq,q⟩:=h
 obtain⟨u,rfl,rx⟩:=Ib r
 cases rx
 have hn:=Gj
 rcases hq with hq | hq
 ·obtain⟨af,r',pl,hz⟩:=I.list hq
  have ak:=r'.length
  exact Calls.call_len_list pl.isList (by simp only [List.size_toArray] <;> omega) ⟨.int ys.length,H,I.tok _,⟨s.toks+1,by rw [Yan,ak]⟩,q⟩
 ·obtain⟨af,r',pl,hz⟩:=I.tuple hq
  have ak:=r'.length
  exact len_tuple pl (by simp only [List.size_toArray] <;> omega) ⟨.int ys.length,H,I.tok _,⟨s.toks+1,by rw [Yan,ak]⟩,q⟩
theorem Lr:Ej X (.builtin "len") (λxs H Q=>∃z,xs=[.str z]/\z.length<=sizeLine/\Q (.int z.length) H):=by
 intro aa s σ H xs us Q I r h
 obtain⟨z,rfl,hz,q⟩:=h
 obtain⟨u,rfl,t,rfl⟩:=Ib r
 have hn:=Gj
 exact len_str (by omega) ⟨.int z.length,H,I.tok _,⟨_,rfl⟩,q⟩
theorem Lu:Ej X (.type "list") (λxs H Q=>∃p ys,xs=[.ref p]/\(Du X.K H p ys\/Gi X.K H p ys)/\∀l,H l=none->Q (.ref l) (upd H l (.lst ys))):=by
 intro aa s σ H xs us Q I r h
 obtain⟨p,ys,rfl,hq,q⟩:=h
 obtain⟨u,rfl,rx⟩:=Ib r
 cases rx
 have fin:∀(af:List Value),Vals ys af->ys.length<=sizeLine->∀(h':Heap) (c':Nat),(∀b o',s.heap.get? b=some o'->h'.get? b=some o') ->
   h'.get? s.heap.objs.size=some { cls:=.type "list",dict:=none,data:=.seq af.toArray c',slots:=#[] }->EP X aa σ Q (.ref s.heap.objs.size) { s with heap:=h' }:=λaf r' hz h' c' kp e =>
  ⟨.ref s.heap.objs.size,_,I.laid (t':=s.toks) kp (Yaf _) (show Bo X.prog X.w _ h' _ (.lst ys) from⟨hz,af,c',r',e⟩),rfl,q _ (I.hok.fresh (Yaf _))⟩
 rcases hq with hq | hq
 ·obtain⟨af,r',pl,hz⟩:=I.list hq
  have ak:=r'.length
  obtain⟨o,ho,hc,n,hd⟩:=pl.isList
  exact call_list_seq p (.inl rfl) ho hc hd (λh' c' kp e=>fin af r' hz h' c' kp e) (by simp only [List.size_toArray] <;> omega)
 ·obtain⟨af,r',pl,hz⟩:=I.tuple hq
  have ak:=r'.length
  obtain⟨o,ho,hc,n,hd⟩:=pl
  exact call_list_seq p (.inr rfl) ho hc hd (λh' c' kp e=>fin af r' hz h' c' kp e) (by simp only [List.size_toArray] <;> omega)
theorem Fa:Ej X (.type "tuple") (λxs H Q=>∃p ys,xs=[.ref p]/\((Du X.K H p ys/\∀l,H l=none->Q (.ref l) (upd H l (.tup ys)))\/(Gi X.K H p ys/\Q (.ref p) H))):=by
 intro aa s σ H xs us Q I r h
 obtain⟨p,ys,rfl,h⟩:=h
 obtain⟨u,rfl,rx⟩:=Ib r
 cases rx
 rcases h with⟨hq,q⟩ | ⟨hq,q⟩
 ·obtain⟨af,r',pl,hz⟩:=I.list hq
  have ak:=r'.length
  refine call_tuple_list pl.isList (λh' kp=>?_) (by simp only [List.size_toArray] <;> omega)
  have I1:Inv X aa σ H { s with heap:=h' }:=I.kept (t':=s.toks) kp
  have I2:Inv X aa σ (upd H h'.objs.size (.tup ys)) { s with heap:=h'.push { cls:=.type "tuple",data:=.seq af.toArray } } :=
   I1.laid (t':=s.toks) (λb o e=>Heap.get?_push_of_some _ e) (Yaf _) (show Bo X.prog X.w _ _ _ (.tup ys) from⟨hz,af,r',IsTup.new _ _⟩)
  exact⟨.ref h'.objs.size,_,I2,rfl,q _ (I1.hok.fresh (Yaf _))⟩
 ·obtain⟨af,r',pl,hz⟩:=I.tuple hq
  exact call_tuple_same pl ⟨.ref p,H,I,rfl,q⟩
def tyV(K:PySem.W.Frag)(T:String)(x:V)(H:Hp):Prop:=match x with
 | .str _=>T = "str"
 | .int _=>T = "int"
 | .ref p=>(T = "list" /\ ∃xs,Du K H p xs)\/(T = "tuple" /\ ∃o,K.lookup p=some o/\o.cls=.type "tuple" /\ o.dict=none) \/
   (T = "dict" /\ ((∃ba,H p=some (.dK ba))\/∃ba,H p=some (.dT ba)))\/(T = "set" /\ ∃S n,H p=some (.set S n))
 | _=>False
theorem Qcu{aa:List (Addr×Obj)}{σ:St}{H:Hp}{s:Shared}{T:String}{x:V}{v:Value}(I:Inv X aa σ H s)(r:Bj x v)(ty:tyV X.K T x H) :
  s.TypeIs v T/\∀a,v=.ref a->∃ob,s.heap.get? a=some ob/\ob.dict=none:=by
 cases x with
 | str z =>
  obtain⟨t,rfl⟩:=r
  cases (show T = "str" from ty)
  exact⟨typeIs_str s z t,λ_ e=>nomatch e⟩
 | int i =>
  obtain⟨t,rfl⟩:=r
  cases (show T = "int" from ty)
  exact⟨typeIs_int s i t,λ_ e=>nomatch e⟩
 | ref p =>
  cases r
  rcases ty with⟨rfl,xs,hq⟩ | ⟨rfl,o,hk,hc,hd⟩ | ⟨rfl,hk⟩ | ⟨rfl,S,n,hk⟩
  ·obtain⟨af,_,pl,_⟩:=I.list hq
   refine⟨pl.isList.typeIs,λa e=>?_⟩
   cases e
   obtain⟨o,n,e,c,hd,_⟩:=pl
   exact⟨o,e,hd⟩
  ·refine⟨⟨o,I.kIn p o hk,hc⟩,λa e=>?_⟩
   cases e
   exact⟨o,I.kIn _ o hk,hd⟩
  ·have z:∃o,s.heap.get? p=some o/\o.ExactDict:=by
    rcases hk with⟨ba,hk⟩ | ⟨ba,hk⟩
    ·obtain⟨_,_,_,_,o,_,_,e,ex,_⟩:=I.hok p _ hk
     exact⟨o,e,ex⟩
    ·obtain⟨_,_,_,_,o,_,_,e,ex,_⟩:=I.hok p _ hk
     exact⟨o,e,ex⟩
   obtain⟨o,e,ex⟩:=z
   refine⟨⟨o,e,ex.1⟩,λa e2=>?_⟩
   cases e2
   exact⟨o,e,ex.2.1⟩
  ·obtain⟨o,_,_,_,e,ex,_⟩:=I.hok p _ hk
   refine⟨⟨o,e,ex.1⟩,λa e2=>?_⟩
   cases e2
   exact⟨o,e,ex.2.1⟩
 | _=>exact False.elim ty
def tBM(K:PySem.W.Frag)(T:String)(r:V->List V->Hp->VK->Prop)(to:TE)(t:TA):TE:=fun σ H Q=>to σ H λx H1=>tyV K T x H1/\t σ H1 λxs H2=>r x xs H2 Q
variable {o e:Expr}{es:List Expr}{to:TE}{t:TA}{name:Str}{cr ax:Pos}{T id:String}{r:V->List V->Hp->VK->Prop}
theorem Qav(pa:PlainAttrs T)(slot:Slot T name id)(qv:typeOf (.builtin id)=pure (.type "method_descriptor")) (hm:MtR X id r) (ho:PE X o to) (ha:PA X (e :: es) t)
  (ir:attributeBase o name X.env (eval o X.env)=eval o X.env:=by rfl)
  (kj:((backTo ax (starEach (e :: es) X.env)).all (λx=>!x.1) && (backToKw ax (keywordEach [] X.env)).all (λx=>x.1.isSome)
   && decide ((e :: es).length+([]:List Keyword).length+(if([]:List Keyword).isEmpty then 0 else 1) < 30))=true:=by rfl)
  (il:(cr.endLine==ax.line)=true:=by rfl) (hs:starEach (e :: es) X.env=(false,eval e X.env) :: starEach es X.env:=by rfl) (fq:(backTo ax (starEach es X.env)).any (·.1)=false:=by rfl) :
  PE X (.Call (.Attribute o name cr) (e :: es) [] ax) (tBM X.K T r to t):=by
 intro aa s σ H Q I h
 refine wpAny_Call_method_late ir kj il rfl (thn (ho aa s σ H _ I h) λv s1 ul=>?_)
 obtain⟨x,H1,I1,r1,ty,q1⟩:=ul
 obtain⟨h1,h2⟩:=Qcu I1 r1 ty
 refine⟨T,id,pa,slot,qv,h1,h2,?_⟩
 have hA:=ha ax aa s1 σ H1 _ I1 q1
 rw [hs]at hA ⊢
 refine Calls.callWith_builtin (by show(false || (backTo ax (starEach es X.env)).any (·.1))=false;rw [fq] <;> rfl) (Calls.evalArgs_plain ?_)
 exact thn hA λus s2 rp=>Cj rp λvs H2 I2 r2 q2=>hm aa s2 σ H2 x vs v us Q I2 r1 r2 q2
end
def MtM(X:Cx)(id:String)(r:V->List V->Hp->VK->Prop):Prop :=
 ∀(aa:List (Addr×Obj)) (s:Shared) (σ:St) (H:Hp) (x:V) (xs:List V) (v:Value) (us:List Value) (Q:VK),Inv X aa σ H s->Bj x v->Vals xs us->r x xs H Q ->
  wpAny (model X.prog X.w) X.A (call (.builtin id) (v :: us)) (EP X aa σ Q) X.xe s
theorem Vals.one:∀{x:V} {us:List Value},Vals [x] us->∃u,us=[u]/\Bj x u
 | _,_,.cons r .nil=>⟨_,rfl,r⟩
section
variable {X:Cx}{aa:List (Addr×Obj)}{σ:St}{H:Hp}{s:Shared}{l b:Addr}{xs ys zs:List V}
theorem Inv.lset{af its':List Value}{n:Nat}{f:Array Value->Array Value}{t':Nat}(I:Inv X aa σ H s)(hH:H l=some (.lst xs))
  (e:s.heap.get? l=some { cls:=.type "list",data:=.seq af.toArray n }) (hf:f af.toArray=its'.toArray) (hv:Vals ys its') (hz:ys.length<=sizeLine) :
  Inv X aa σ (upd H l (.lst ys)) { s with heap:=s.heap.update l (Obj.mapSeq f),toks:=t' }:=by
 have q:=PySem.IsL.update e f
 rw [hf]at q
 refine I.write (x:=l) (e:=l) (by rw [hH];exact trivial) (.inl rfl) (λb' u hb hu=>(Heap.get?_update_other s.heap (Obj.mapSeq f) (Yc4 hb)).trans hu) ⟨_,q⟩ ?_
 exact⟨hz,its',_,hv,q⟩
theorem Inv.lnew{af:List Value}{t':Nat}(I:Inv X aa σ H s)(hv:Vals ys af)(hz:ys.length<=sizeLine) :
  Inv X aa σ (upd H s.heap.objs.size (.lst ys)) { s with heap:=s.heap.push { cls:=.type "list",data:=.seq af.toArray },toks:=t' } :=
 I.laid (λ_ _ q=>Heap.get?_push_of_some _ q) (Yaf _) ⟨hz,af,0,hv,Heap.get?_push_size _ rfl⟩
theorem Inv.fresh(I:Inv X aa σ H s):H s.heap.objs.size=none:=I.hok.fresh (Yaf _)
theorem Inv.lstM(I:Inv X aa σ H s)(hH:H l=some (.lst xs)):xs.length<=sizeLine/\∃(af:List Value) (n:Nat),Vals xs af/\xs.length=af.length/\s.heap.get? l=some { cls:=.type "list",data:=.seq af.toArray n }:=by
 obtain⟨z,af,n,r,e⟩:=I.hok l _ hH
 exact⟨z,af,n,r,r.length,e⟩
theorem U1{n:Nat}(h:n<=sizeLine):Builtin.List.listTooLong n=false:=by
 unfold Builtin.List.listTooLong
 exact Yau (by omega)
end
section
variable {X:Cx}
def Yp:V->List V->Hp->VK->Prop:=λx vs H Q=>∃l xs y,x=.ref l/\vs=[y]/\H l=some (.lst xs)/\xs.length < sizeLine/\Q .non (upd H l (.lst (xs++[y])))
theorem Kj:MtM X "list.append" Yp:=by
 intro aa s σ H x vs v us Q I rx rv h
 obtain⟨l,xs,y,rfl,rfl,hH,hz,q⟩:=h
 cases rx
 obtain⟨u,rfl,ru⟩:=rv.one
 obtain⟨z,af,n,r,hl,e⟩:=I.lstM hH
 refine call_meets F.slot_list_append ⟨_,e,rfl⟩ F.entry_list_append (F.args_list_append_2 _ _) (PySem.list_append l af.toArray n u (by rw [Yan];omega)) ⟨e,?_⟩
 refine⟨.non,_,I.lset (its':=af++[u]) hH e (by simp) (r.append (.cons ru .nil)) ?_,rfl,q⟩
 rw [Yag,Ybc]
 omega
def Yq:V->List V->Hp->VK->Prop:=λx vs H Q=>∃l b xs zs,x=.ref l/\vs=[.ref b]/\H l=some (.lst xs)/\H b=some (.lst zs)/\xs.length+zs.length<=sizeLine/\Q .non (upd H l (.lst (xs++zs)))
theorem Qe0:MtM X "list.extend" Yq:=by
 intro aa s σ H x vs v us Q I rx rv h
 obtain⟨l,b,xs,zs,rfl,rfl,hH,hB,hz,q⟩:=h
 cases rx
 obtain⟨u,rfl,ru⟩:=rv.one
 cases ru
 obtain⟨z,af,n,r,hl,e⟩:=I.lstM hH
 obtain⟨z2,its2,n2,r2,wz,e2⟩:=I.lstM hB
 have bz:af.toArray.size+its2.toArray.size<=sizeLine:=by rw [Yan,Yan];omega
 have jt:¬(!af.toArray.isEmpty && Builtin.List.listTooLong (af.toArray.size+its2.toArray.size))=true:=by
  rw [U1 bz,Bool.and_false]
  exact Yad
 refine call_meets F.slot_list_extend ⟨_,e,rfl⟩ F.entry_list_extend (F.args_list_extend_2 _ _)
  (AutoSeq1.list_extend_list_list_0 l af.toArray n b its2.toArray n2 jt (by rw [Yan];omega) (by omega)) ⟨e,e2,?_⟩
 refine⟨.non,_,I.lset (its':=af++its2) hH e (by simp) (r.append r2) ?_,rfl,q⟩
 rw [Yag]
 omega
def Qjo:R2:=λx y H Q=>∃l b xs zs,x=.ref l/\y=.ref b/\H l=some (.lst xs)/\H b=some (.lst zs)/\xs.length+zs.length<=sizeLine/\∀p,H p=none->Q (.ref p) (upd H p (.lst (xs++zs)))
theorem Qcv:Fq X (binaryOp .Add) Qjo:=by
 intro aa s σ H x y v u Q I rx ry h
 obtain⟨l,b,xs,zs,rfl,rfl,hH,hB,hz,q⟩:=h
 cases rx
 cases ry
 obtain⟨z,af,n,r,hl,e⟩:=I.lstM hH
 obtain⟨z2,its2,n2,r2,wz,e2⟩:=I.lstM hB
 refine PySem.P.add_list e e2 ?_ (by rw [Yan,Yan];omega)
 have ea:af.toArray++its2.toArray=(af++its2).toArray:=by simp
 rw [ea]
 exact⟨.ref _,_,I.lnew (t':=s.toks) (r.append r2) (by rw [Yag];omega),rfl,q _ I.fresh⟩
end
section
variable {prog:Program}{w:World}{A:Around}{E:Value->Shared->Prop}{s:Shared}
end
section
variable {X:Cx}
end
section
variable {κ:Type} [DecidableEq κ]
theorem KV.length{ba:List (κ×V)}{vs:List (κ×Value)}(r:KV ba vs):ba.length=vs.length:=Paired.length r
end
section
variable {P:Program}{w:World}{H:Hp}{h:Heap}{a:Addr}
theorem Qf4{u:HO}(ok:HOk P w H h)(e:Rd H a u):Bo P w H h a u:=e.ok ok
theorem Qf5{ba:List (Key×V)}(ok:HOk P w H h)(e:Rd H a (.dK ba)):ba.length<=sizeLine/\(a==sysModules)=false/\∃vs,KV ba vs/\h.DictOf (Bm P w) a vs :=
 show Bo P w H h a (.dK ba) from Qf4 ok e
end
section
variable {X:Cx}{aa:List (Addr×Obj)}{σ:St}{H:Hp}{s:Shared}{a:Addr}{y v:V}{u r:Value}{o:Option V}{A:Around}{E:Value->Shared->Prop}
end
section
variable {X:Cx}{aa:List (Addr×Obj)}{σ:St}{H:Hp}{s:Shared}{a:Addr}{ba:List (Key×V)}{k:Key}{u:Value}{A:Around}{E:Value->Shared->Prop}
theorem Qf6{Q:Value->Shared->Prop}(I:Inv X aa σ H s)(e:Rd H a (.dK ba))(h:∀t s',Inv X aa σ H s'->Q (.int ba.length t) s'):wpAny (model X.prog X.w) A (call (.builtin "len") [.ref a]) Q E s:=by
 obtain⟨z,hd,vs,rel,dd⟩:=Qf5 I.hok e
 refine call_len_dict hd dd (by rw [<- rel.length];rw [sizeLine_eq]at z;omega) ?_
 rw [<- rel.length]
 exact h _ _ (I.tok _)
end
section
variable {X:Cx}{o i e value:Expr}{pos c9 ku:Pos}{td ty tv:TE}
end
section
variable {X:Cx}{pos:Pos}
end
structure M1(X:Cx)(o:Expr)(m:Str)(cr:Pos)(e:Expr)(ax:Pos):Prop where
 base:attributeBase o m X.env (eval o X.env)=eval o X.env
 few:((backTo ax (starEach [e] X.env)).all (λx=>!x.1) && (backToKw ax (keywordEach [] X.env)).all (λx=>x.1.isSome)
  && decide (([e]:List Expr).length+([]:List Keyword).length+(if([]:List Keyword).isEmpty then 0 else 1) < 30))=true
 line:(cr.endLine==ax.line)=true
 trees:backTo ax (starEach [e] X.env)=[(false,eval e X.env)]
structure M2(X:Cx)(o:Expr)(m:Str)(cr:Pos)(e f:Expr)(ax:Pos):Prop where
 base:attributeBase o m X.env (eval o X.env)=eval o X.env
 few:((backTo ax (starEach [e,f] X.env)).all (λx=>!x.1) && (backToKw ax (keywordEach [] X.env)).all (λx=>x.1.isSome)
  && decide (([e,f]:List Expr).length+([]:List Keyword).length+(if([]:List Keyword).isEmpty then 0 else 1) < 30))=true
 line:(cr.endLine==ax.line)=true
 trees:backTo ax (starEach [e,f] X.env)=[(false,eval e X.env),(false,eval f X.env)]
section
variable {X:Cx}{aa:List (Addr×Obj)}{σ:St}{H:Hp}{s:Shared}{a:Addr}{y d:V}{u r:Value}{o:Option V}{A:Around}{E:Value->Shared->Prop}
end
section
variable {X:Cx}{o e f:Expr}{cr ax:Pos}{td ty tx:TE}
end
section
variable {X:Cx}{aa:List (Addr×Obj)}{σ:St}{H:Hp}{s:Shared}{a:Addr}{ba:List (Key×V)}{A:Around}{E:Value->Shared->Prop}
end
section
variable {X:Cx}{aa:List (Addr×Obj)}{σ:St}{H:Hp}{s:Shared}{a:Addr}{y:V}{u:Value}{A:Around}{E:Value->Shared->Prop}
end
end L2
namespace Att
open PySem PySem.W PySem.Calls PyProof.Rows
theorem Hm{P:Params}{h:Heap}:∀(ns:List Int) (vs:List Value),WellAll P h vs (ns.map WData.int)->IntsAre vs ns:=by
 intro ns
 induction ns with
 | nil =>
  intro vs w
  rw [List.map_nil]at w
  cases w
  exact .nil
 | cons n ns ih =>
  intro vs w
  rw [Ycc]at w
  cases w with
  | cons a b =>
   cases a
   exact .cons _ _ (ih _ b)
theorem Sl{l:OpenLaw}{n:Nat}(hn:l.most=some n){P:Params}{h:Heap}{args:List WData}{im:List Value}
  (mf:l.row.toRowW.claim.pre args=true) (oz:WellAll P h im args) :
  ∃a vs ns,im=[Value.ref a]/\args=[WData.list (ns.map WData.int)]/\h.get? a=some { cls:=.type "list",data:=.seq vs.toArray }/\IntsAre vs ns/\ns.length<=n:=by
 have hsh:WShape.hasAll [] args [.list .int]=true:=(pre_splitW mf).1
 have hc:l.pre.holds [] { args:=args }=true:=(pre_splitW mf).2
 obtain⟨d,r,rfl,h1,h2⟩:=hasAllW_cons hsh
 obtain rfl:=hasAllW_nil h2
 obtain⟨xs,rfl,h3⟩:=hasW_list h1
 obtain⟨ns,rfl⟩:=items_int h3
 have ak:ns.length<=n:=by
  unfold OpenLaw.pre at hc
  have h4:(WTm.not (.lt (.lit (.int (n:Int))) (.len (.arg 0)))).holds [] { args:=[.list (ns.map .int)] }=true:=by
   have h4:=(holds_andW hc).1
   rw [hn]at h4
   exact h4
  have h5:=condW_of h4 (w_not (w_lt w_lit (w_len_list (w_arg rfl))))
  rw [Yac]at h5
  refine Nat.le_of_not_lt λq=>?_
  have q':(n:Int) < ((ns.length:Nat):Int):=by omega
  first
   | (rw [Ybd q']at h5;exact absurd h5 (by decide))
   | (simp at h5;omega)
 cases oz with
 | cons w1 w2 =>
  cases w2
  cases w1 with
  | list ho fe=>exact⟨_,_,ns,rfl,rfl,ho,Hm ns _ fe,ak⟩
theorem Sm(l:OpenLaw)(args:List WData):l.row.toRowW.claim.post args (.bool true) args=true :=
 postW_of (r:=l.row.toRowW) (X:=(true==true))
  (show WShape.has [] (.bool true) .bool=true by first | rfl | decide | simp [WShape.has,WShape.arms,WShape.armsAll])
  (show(WTm.eq .res (.lit (.bool true))).value [] { args:=args,res:=some (.bool true),after:=args }=some (.bool (true==true)) from w_eq_bool (w_res rfl) w_lit) rfl
theorem attach_call{l:OpenLaw}{n:Nat}{q:Program}{ge:List Str}{XP:(Str->Option Value)->Heap->Prop}{YP:World->Heap->Prop}{d:DefRec}
  (hn:l.most=some n) (vg:d.params.defaults=[])
  (call:∀(w:World) (s₀ s₁:Shared) (mg mb:Str->Option Value) (fa:Addr) (o:Obj) (pm cd gl:Value) (a:Addr) (vs:List Value) (ns:List Int),
   Ground q ge [] XP w s₀ mg mb s₁.heap->YP w s₁.heap ->
   s₁.heap.get? fa=some o->o.data=.func (docDef d.name d.params d.body d.scope pm cd gl)->s₁.heap.CodeRec cd d.name->mg d.name=some (.ref fa) ->
   s₁.heap.get? a=some { cls:=.type "list",data:=.seq vs.toArray }->IntsAre vs ns->ns.length<=n->s₁.gens=#[] ->
   codeAny (model l.prog w) callerA (.call (.ref fa) ⟨[.ref a],[]⟩) (λr s'=>r=.ok (.ret (.bool true))/\OldK s₁.heap s'.heap/\s'.os=s₁.os/\AllBare s'.gens) s₁) :
  WalkO q ge XP YP l.row.toRowW d [] (λf vs=>PySem.call f vs):=by
 intro w s₀ s₁ mg mb G Y fa o pm cd gl dV kV ho hd jj hD hmg hg args im as mf hlay hrd oz yh
 obtain rfl:dV=.none:=Dflts.none hD vg
 obtain rfl:kV=.none:=Dflts.noKw hD
 obtain⟨a,vs,ns,rfl,rfl,hobj,hints,ak⟩:=Sl hn mf oz
 refine enter_call (Yec (call w s₀ s₁ mg mb fa o pm cd gl a vs ns G Y ho (fd_plain hd) jj hmg hobj hints ak hg) λr s' hq=>?_)
 obtain⟨rfl,h2,h3,h4⟩:=hq
 exact⟨.inl ⟨.bool true,.bool true,[],rfl,λ_=>rfl,.bool true,Sm l _,λ_=>⟨List.Pairwise.nil,λ_ hm=>(nomatch hm)⟩⟩,h2,h3,h4⟩
section
variable {prog:Program}{w:World}{A:Around}{E:Value->Shared->Prop}{s:Shared}{K:Frag}
end
end Att
namespace L2
open PySem PySem.Spec PyProof.Rows
theorem Kk:∀{vs:List Value} {ns:List Int},IntsAre vs ns->Vals (ns.map V.int) vs
 | _,_,.nil=>.nil
 | _,_,.cons n t h=>.cons ⟨t,rfl⟩ (Kk h)
def Only(H:Hp):Prop:=∀b,H b=none\/∃o xs,H b=some (.frz o (.lst xs))
theorem U3{P:Program}{w:World}{K:PySem.W.Frag}{mg mb:Str->Option Value}{CX:CXT}{k:Nat}{fa a:Addr}{fd:FuncData}{x:Str}{sp:Sp}{s₁:Shared}{vs:List Value}{ns:List Int}
  (KX:K.In s₁.heap) (gs:s₁.heap.Ns mainGlobals mg) (hb:s₁.heap.Ns builtinsNs mb) (hbb:∀x:Str,x ≠ "__name__" -> mb x=bootBuiltins x) (yw:s₁.heap.NoLimit) (hg:s₁.gens=#[])
  (ha:s₁.heap.get? a=some { cls:=.type "list",data:=.seq vs.toArray }) (hi:IntsAre vs ns) (hl:ns.length<=sizeLine) (hr:Room k callerA)
  (F:∀base:Heap,K.In base->base.Ns mainGlobals mg->FnOk P w K mg base CX k fa fd [x] sp) (wa:∀(s:Shared) (u:Value),BindsTo s fd ⟨[u],[]⟩ [(x,u)])
  (jo:∀H:Hp,Only H->Du K H a (ns.map V.int)->sp [.ref a] H (λv _=>v=.bl true) λ_ _ _=>False)
  (yq:∀H e s',CX [] H s₁ (λ_ _ _=>False) e s'->False) :
  codeAny (model P w) callerA (.call (.ref fa) ⟨[.ref a],[]⟩) (λr s'=>r=.ok (.ret (.bool true))/\OldK s₁.heap s'.heap/\s'.os=s₁.os/\AllBare s'.gens) s₁:=by
 have rv:=Kk hi
 have zaf:=hi.length
 have pb:∀H:Hp,Only H->Du K H a (ns.map V.int)->HOk P w H s₁.heap->(∀b,H b≠none->b=a)->(H a≠none->K.lookup a=none) ->
   codeAny (model P w) callerA (.call (.ref fa) ⟨[.ref a],[]⟩) (λr s'=>r=.ok (.ret (.bool true))/\OldK s₁.heap s'.heap/\s'.os=s₁.os/\AllBare s'.gens) s₁:=by
  intro H hO hS hok hA hK
  have jp:∀{b:Addr} {o:Obj},s₁.heap.get? b=some o->H b=none->(Lm s₁.heap H).get? b=some o:=λe n=>Uj e n
  have uh:∀{b:Addr} {o:Obj} {es:Array DictEntry} {ep:Nat},s₁.heap.get? b=some o->o.data=.dict es ep->H b=none:=λ{b o es ep} e d=>by
   cases q:H b with
   | none=>rfl
   | some u =>
    have e':b=a:=hA b (by rw [q];simp)
    subst e'
    rw [ha]at e;cases e
    have d':Data.seq vs.toArray _=Data.dict es ep:=d
    cases d'
  have w5:∀{b:Addr} {m:Str->Option Value},s₁.heap.Ns b m->(Lm s₁.heap H).Ns b m:=λ{b m} ⟨o,es,ep,e,d,r⟩=>⟨o,es,ep,jp e (uh e d),d,r⟩
  have hKb:K.In (Lm s₁.heap H):=λb o e=>jp (KX b o e) (by
   cases q:H b with
   | none=>rfl
   | some u =>
    have e':b=a:=hA b (by rw [q];simp)
    subst e'
    rw [hK (by rw [q];simp)]at e;cases e)
  have hM:Mod K mg (Lm s₁.heap H):=⟨hKb,w5 gs,⟨mb,w5 hb,hbb⟩,let⟨mc,h1,h2⟩:=yw;⟨mc,w5 h1,h2⟩⟩
  have e0:Env0 P w K mg (Lm s₁.heap H) callerA [] s₁ H:=⟨rfl,hM,λb o e=>X7 e,Nat.le_of_eq (Sa _ _),trivial,λb hb=>absurd (show b∈([]:List Addr) from hb) (by simp),hok,.of_eq hg⟩
  refine Yec ((F _ hKb (w5 gs)).run callerA [] s₁ H ⟨[.ref a],[]⟩ [.ref a] [.ref a] _ _ hr e0 (wa s₁ (.ref a)) (.cons rfl .nil) (jo H hO hS)) λr s' h=>?_
  cases r with
  | error e=>exact(yq H e s' h).elim
  | ok fl =>
   cases fl with
   | next=>exact False.elim h
   | brk=>exact False.elim h
   | cont=>exact False.elim h
   | ret u =>
    obtain⟨v,H',os,bare,un,hok',r',q⟩:=h
    have q':v=.bl true:=q
    subst q'
    obtain rfl:u=Value.bool true:=r'
    refine⟨rfl,OldK.of_keep λb o e=>?_,os,bare⟩
    cases q:H b with
    | none=>exact un.keep b o e q (by intro z;exact absurd (show b∈([]:List Addr) from z) (by simp)) (by simp)
    | some u =>
     rcases hO b with z | ⟨ob,xs,z⟩
     ·rw [q]at z;cases z
     ·have z2:=un.frzs b ob _ z
      obtain⟨e1,_⟩:=hok b _ z
      obtain⟨e2,_⟩:=hok' b _ z2
      rw [e]at e1;cases e1
      exact e2
 cases hk:K.lookup a with
 | some o =>
  have e:=KX a o hk
  rw [ha]at e
  cases e
  refine pb (λ_=>none) (λ_=>.inl rfl) (.inr ⟨_,vs.toArray,_,hk,rfl,rfl,rfl,by rw [Yan,zaf];exact hl,by simpa using rv⟩) (λb u z=>by have z':(none:Option HO)=some u:=z;cases z') (λb z=>absurd rfl z) λz=>absurd rfl z
 | none =>
  refine pb (λb=>if b=a then some (.frz { cls:=.type "list",data:=.seq vs.toArray } (.lst (ns.map V.int))) else none) (λb=>?_) (.inl (.inr ⟨{ cls:=.type "list",data:=.seq vs.toArray },Yak rfl⟩)) (λb u z=>?_) (λb z=>?_) λ_=>hk
  ·by_cases hb:b=a
   ·exact .inr ⟨_,_,Yak hb⟩
   ·exact .inl (Yah hb)
  ·by_cases hb:b=a
   ·have z':=(Yak hb).symm.trans z
    cases z'
    subst hb
    exact⟨ha,by rw [Yac];exact hl,vs,_,rv,ha⟩
   ·have z':=(Yah hb).symm.trans z
    cases z'
  ·by_cases hb:b=a
   ·exact hb
   ·exact absurd (Yah hb) z
theorem walk_of{l:PySem.W.OpenLaw}{n k:Nat}{q:Program}{ge:List Str}{XP:(Str->Option Value)->Heap->Prop}{YP:World->Heap->Prop}{d:DefRec}{K:Params->PySem.W.Frag}{CX:World->CXT}{sp:World->Sp}{x:Str}
  (hn:l.most=some n) (j6:n<=sizeLine) (vg:d.params.defaults=[]) (hr:Room k callerA)
  (hY:∀(w:World) (h:Heap),YP w h->(K w.params).In h)
  (F:∀(w:World) (mg:Str->Option Value) (fa:Addr) (h:Heap),(K w.params).In h->h.Ns mainGlobals mg->mg d.name=some (.ref fa) ->
   ∃fd:FuncData,(∀(s:Shared) (u:Value),BindsTo s fd ⟨[u],[]⟩ [(x,u)]) /\
    ∀base:Heap,(K w.params).In base->base.Ns mainGlobals mg->FnOk l.prog w (K w.params) mg base (CX w) k fa fd [x] (sp w))
  (jo:∀(w:World) (H:Hp) (a:Addr) (ns:List Int),ns.length<=n->Only H->Du (K w.params) H a (ns.map V.int)->sp w [.ref a] H (λv _=>v=.bl true) λ_ _ _=>False)
  (yq:∀(w:World) (H:Hp) (s:Shared) (e:Value) (s':Shared),CX w [] H s (λ_ _ _=>False) e s'->False) :
  PySem.W.WalkO q ge XP YP l.row.toRowW d [] (λf vs=>PySem.call f vs):=by
 refine Att.attach_call hn vg λw s₀ s₁ mg mb fa o pm cd gl a vs ns G Y ho hd jj hmg hobj hints ak hg=>?_
 have KX:=hY w _ Y
 obtain⟨fd,hb,hF⟩:=F w mg fa _ KX G.T.g hmg
 exact U3 KX G.T.g G.T.b G.T.builtins G.T.nolimit hg hobj hints (Yas ak j6) hr hF hb (λH hO hS=>jo w H a ns ak hO hS) λH e s'=>yq w H s₁ e s'
def Bb(s:Stmt):Arguments:=match s with
 | .FunctionDef _ a _ _ _ _ _ _ _ _=>a
 | _=>{ posonlyargs:=[],args:=[],vararg:=none,kwonlyargs:=[],kw_defaults:=[],kwarg:=none,defaults:=[] }
def A6(s:Stmt):List Stmt:=match s with
 | .FunctionDef _ _ b _ _ _ _ _ _ _=>b
 | _=>[]
def Af(s:Stmt):Scope:=match s with
 | .FunctionDef _ _ _ _ _ _ sc _ _ _=>sc
 | _=>{ kind:=.function,names:=[],isGenerator:=false,isCoroutine:=false }
abbrev Fb:CXT:=λ_ _ _ _ _ _=>False
abbrev E0:XK:=λ_ _ _=>False
theorem Qaw{X:Cx}:Passes Fb X E0:=λ_ _ _ _ _ _ _ h=>h.elim
structure Fun(K:PySem.W.Frag)(x qual:Str)(st:Stmt)(f:Addr)(fd:FuncData):Prop where
 ex:∃(oc:Value) (od:Option Addr) (kV gl pm:Value) (an:Option Addr) (az ct:Value) (mh:Array (Option Value)),
  fd=PySem.W.fnOf x qual (Bb st) (A6 st) (Af st) .none kV gl pm an az ct/\K.lookup f=some ⟨oc,od,.func fd,mh⟩/\PySem.W.codeIn K az qual=true
 kp:PySem.W.keepIn K (.ref f)=true
section
variable {P:Program}{w:World}{K:PySem.W.Frag}{mg:Str->Option Value}{base:Heap}
theorem Fun.ok{x qual:Str}{st:Stmt}{f:Addr}{fd:FuncData}{N ps:List Str}{k:Nat}{sp:Sp}(F:Fun K x qual st f fd)(S:FnScope N ps (Af st))(len:∀vs H Q E,sp vs H Q E->vs.length=ps.length)
  (dg:∀(az:Value) (A:Around) (outer:List Env) (s:Shared) (H:Hp) (vs:List V) (Q:VK) (E:XK),Room k (A.deeper (envOfC qual (Af st) s.heap.objs.size f az))->sp vs H Q E ->
   ∃t,PSs (Hl Fb P w K mg base N qual (Af st) f az A outer s H E).nox (A6 st) t/\t { nx:=λ_ H'=>Q .non H',rt:=Q } (start N vs) H):FnOk P w K mg base Fb (k+1) f fd ps sp:=by
 obtain⟨oc,od,kV,gl,pm,an,az,ct,mh,rfl,lk,jj⟩:=F.ex
 refine Qau lk jj S len λA outer s H vs Q E hr jo=>?_
 obtain⟨t,h,q⟩:=dg az A outer s H vs Q E hr jo
 exact⟨t,h.nox,q⟩
theorem Fun.binds{x qual:Str}{st:Stmt}{f:Addr}{fd:FuncData}{ps:List Str}(F:Fun K x qual st f fd)
  (h:∀(kV gl pm:Value) (an:Option Addr) (az ct:Value) (us:List Value),us.length=ps.length->bindArgs (PySem.W.fnOf x qual (Bb st) (A6 st) (Af st) .none kV gl pm an az ct) ⟨us,[]⟩=pure (ps.zip us)):Binds K fd ps []:=by
 obtain⟨oc,od,kV,gl,pm,an,az,ct,mh,rfl,lk,jj⟩:=F.ex
 exact .all (h kV gl pm an az ct)
theorem B1{x qual:Str}{st:Stmt}{f:Addr}{oc:Value}{od an:Option Addr}{mh:Array (Option Value)}{kV gl pm az ct:Value}(l:K.lookup f=some ⟨oc,od,.func (PySem.W.fnOf x qual (Bb st) (A6 st) (Af st) .none kV gl pm an az ct),mh⟩)
  (c:PySem.W.codeIn K az qual=true) (k:PySem.W.keepIn K (.ref f)=true):Fun K x qual st f (PySem.W.fnOf x qual (Bb st) (A6 st) (Af st) .none kV gl pm an az ct):=⟨⟨oc,od,kV,gl,pm,an,az,ct,mh,rfl,l,c⟩,k⟩
end
theorem Cd{n:Nat}(h:n<=1000):n < sizeLine:=Nat.lt_of_le_of_lt h (by decide)
section
variable {X:Cx}
theorem pv(i:Nat){x:Str}{pos:Pos}(hN:X.N[i]?=some x:=by rfl)(hv:Vis X.env.scope x:=by first | exact Or.inl rfl | exact Or.inr (Or.inl rfl) | exact Or.inr (Or.inr rfl))(hd:(x==("__debug__" : Str))=false:=by decide)
  (jj:(x==("__classdict__" : Str))=false:=by decide):PE X (.Name x pos) (Qb0 i):=Uk hN hv hd jj
theorem Sn:Ej X (.builtin "len") (λxs H Q=>∃a ba,xs=[V.ref a]/\H a=some (.dK ba)/\Q (.int ba.length) H):=by
 intro aa s σ H xs us Q I r h
 obtain⟨a,ba,rfl,ha,q⟩:=h
 obtain⟨u,rfl,ru⟩:=Ib r
 cases ru
 exact Qf6 I (.inl ha) λt s' I'=>⟨.int ba.length,H,I',⟨t,rfl⟩,q⟩
end
section
variable {κ:Type} [DecidableEq κ]
end
end L2
set_option maxHeartbeats 4000000
namespace L2
open PySem
def Ek(cells:List (Str×Addr)):List (Str×NameKind)->List (Str×Addr)->List (Str×Addr)
 | [],aj=>aj
 | (n,k) :: r,aj=>if k=NameKind.free then Ek cells r ((n,(cells.lookup n).getD 0) :: aj) else Ek cells r aj
theorem Fc{scope:Scope}{env:Env}(h:∀x∈scope.names,x.2=.free->∃c,env.cells.lookup x.1=some c) :
  closureFor scope env=pure (Ek env.cells scope.names []):=by
 have key:∀(names:List (Str×NameKind)) (aj:List (Str×Addr)),(∀x∈names,x.2=.free->∃c,env.cells.lookup x.1=some c) ->
   (do
     let mut cs:=aj
     for (name,kind) in names do
      if kind==.free then cs:=(name,<- cellOf env name) :: cs
     return cs:Sem (List (Str×Addr)))=pure (Ek env.cells names aj):=by
  intro names
  induction names with
  | nil=>intro aj _;rfl
  | cons x r ih =>
   intro aj h
   obtain⟨n,k⟩:=x
   have hr:∀y∈r,y.2=.free->∃c,env.cells.lookup y.1=some c:=λy hy=>h y (Yax _ hy)
   by_cases hk:k=.free
   ·subst hk
    obtain⟨c,hc⟩:=h (n,.free) Yaz rfl
    have e:cellOf env n=pure c:=by unfold cellOf;rw [hc]
    have q:=ih ((n,c) :: aj) hr
    simp only [List.forIn_cons,beq_self_eq_true,if_true,e]
    unfold Ek
    rw [Yak rfl,hc]
    exact q
   ·have hb:(k==NameKind.free)=false:=by simpa using hk
    have q:=ih aj hr
    simp only [List.forIn_cons,hb,Bool.false_eq_true,if_false]
    unfold Ek
    rw [Yah hk]
    exact q
 exact key scope.names [] h
theorem Ie{cells:List (Str×Addr)}:∀{names:List (Str×NameKind)} {aj:List (Str×Addr)},
  (∀x∈names,x.2=.free->∃c,cells.lookup x.1=some c)->(∀x c,aj.lookup x=some c->cells.lookup x=some c) ->
  ∀x c,(Ek cells names aj).lookup x=some c->cells.lookup x=some c
 | [],_,_,h,x,c,e=>h x c e
 | (n,k) :: r,aj,hf,h,x,c,e=>by
  unfold Ek at e
  have hr:∀y∈r,y.2=.free->∃c,cells.lookup y.1=some c:=λy hy=>hf y (Yax _ hy)
  by_cases hk:k=.free
  ·rw [Yak hk]at e
   refine Ie hr (λy d q=>?_) x c e
   obtain⟨c',cu⟩:=hf (n,k) Yaz hk
   have cu:cells.lookup n=some c':=cu
   rw [Yfa]at q
   cases hy:y==n with
   | true =>
    rw [hy,cu]at q
    have e1:y=n:=by simpa using hy
    rw [e1,cu]
    exact q
   | false=>rw [hy]at q;exact h y d q
  ·rw [Yah hk]at e
   exact Ie hr h x c e
theorem Fe{cells:List (Str×Addr)}{x:Str}:∀{names:List (Str×NameKind)} {aj:List (Str×Addr)},
  (∃c,aj.lookup x=some c)->∃c,(Ek cells names aj).lookup x=some c
 | [],_,h=>h
 | (n,k) :: r,aj,⟨c,h⟩=>by
  unfold Ek
  split
  ·refine Fe ?_
   rw [Yfa]
   cases x==n with
   | true=>exact⟨_,rfl⟩
   | false=>exact⟨c,h⟩
  ·exact Fe ⟨c,h⟩
theorem Fr{cells:List (Str×Addr)}{x:Str}:∀{names:List (Str×NameKind)} {aj:List (Str×Addr)},
  (x,NameKind.free)∈names->∃c,(Ek cells names aj).lookup x=some c
 | (n,k) :: r,aj,h=>by
  unfold Ek
  rcases Yat.mp h with e | e
  ·cases e
   rw [Yak rfl]
   refine Fe ?_
   rw [Yfa,beq_self_eq_true]
   exact⟨_,rfl⟩
  ·split
   ·exact Fr e
   ·exact Fr e
end L2
namespace PySem
open Sem (wp)
section
variable {prog:Program}{w:World}{A:Around}{E:Value->Shared->Prop}{R:Result->Shared->Prop}{s:Shared}
theorem Mz{gr dz aw:Expr}{ft:List Expr}{scope:Scope}{pos:Pos}{it aj:Value}{env:Env}(I:Nat->Shared->Prop)
  (turn:∀n s,I n s->wpAny (model prog w) A (pyNext it) (λr s₁=>match r with
   | none=>R (.ok .next) s₁
   | some v=>wpAny (model prog w) A (letOwnedTupleGo dz it v) (λ_ s₁'=>wpAny (model prog w) A (assign dz env v) (λ_ s₂ =>
     wpAny (model prog w) A (forIn ft true λc r=>if r=true then do let ok <- isTrue c env (eval c env);pure (ForInStep.yield ok) else pure (ForInStep.yield r)) (λok s₃ =>
      if ok=true then wpAny (model prog w) A (eval gr env) (λx s₄ =>
       wpAny (model prog w) A (call (.builtin "list.append") [aj,x]) (λ_ s₅=>∃m,m < n/\I m s₅) (λ_ _=>False) s₄) (λ_ _=>False) s₃
      else ∃m,m < n/\I m s₃) (λ_ _=>False) s₂) (λ_ _=>False) s₁') (λ_ _=>False) s₁) (λ_ _=>False) s)
  (n:Nat) (h:I n s) :
  codeAny (model prog w) A (.compLoop (.ListComp gr [⟨dz,aw,ft,0⟩] scope pos) 0 it aj env) R s:=by
 refine codeAny_loop rfl I (λn s hI=>?_) n h
 show wpAny _ A ((compTurn (.ListComp gr [⟨dz,aw,ft,0⟩] scope pos) 0 it aj env).onRaise (λx=>do noteFrame x env;theTreesLotGoes x)) _ _ s
 refine wpAny_noted ?_
 rw [compTurn_list]
 refine Yaa (Yek (Yaa (Ybk (turn n s hI) (λr s₁ h₁=>?_) λ_ _ h'=>h'.elim)))
 cases r with
 | none=>exact Yab h₁
 | some v =>
  refine Yaa (Ybk h₁ (λ_ s₁' h₁'=>?_) λ_ _ h'=>h'.elim)
  refine Yaa (Ybk h₁' (λ_ s₂ h₂=>Yaa (Ybk h₂ (λok s₃ h₃=>?_) λ_ _ h'=>h'.elim)) λ_ _ h'=>h'.elim)
  cases ok with
  | false=>exact Yab ⟨rfl,h₃⟩
  | true =>
   exact Yaa (Yaa (Ybk h₃ (λx s₄ h₄=>Yaa (Ybk h₄ (λ_ s₅ h₅=>Yab (Yab ⟨rfl,h₅⟩)) λ_ _ h'=>h'.elim)) λ_ _ h'=>h'.elim))
end
end PySem
namespace L2
open PySem PySem.Spec PyProof.Rows
def M3(mp:List (Option Nat))(σ:St):St:=mp.map λo=>match o with | some i=>(σ[i]?).join | none=>none
def Yr(pn:List (Str×NameKind))(x:Str):Bool:=decide (pn.lookup x=some .cell) || decide (pn.lookup x=some .free)
def U4(N:List Str)(pn cn:List (Str×NameKind))(N':List Str)(mp:List (Option Nat)):Bool :=
 decide (N'.length=mp.length) && decide N'.Nodup &&
 (List.range N'.length).all (λk=>match mp[k]?,N'[k]? with
  | some (some i),some x=>decide (N[i]?=some x) && Yr pn x && decide ((x,NameKind.free)∈cn) && decide (cn.lookup x=some .free)
  | _,_=>true) &&
 cn.all (λp=>decide (p.2≠.cell)) && cn.all (λp=>decide (p.2≠.free) || Yr pn p.1) && cn.all (λp=>decide (p.2≠.local) || decide (cn.lookup p.1=some .local))
structure CompOk(N:List Str)(pn cn:List (Str×NameKind))(N':List Str)(mp:List (Option Nat)):Prop where
 len:N'.length=mp.length
 nd:N'.Nodup
 map:∀(k i:Nat) (x:Str),mp[k]?=some (some i)->N'[k]?=some x->N[i]?=some x/\(pn.lookup x=some .cell\/pn.lookup x=some .free)/\(x,NameKind.free)∈cn/\cn.lookup x=some .free
 nocell:∀p∈cn,p.2≠.cell
 free:∀p∈cn,p.2=.free->(pn.lookup p.1=some .cell\/pn.lookup p.1=some .free)
 loc:∀p∈cn,p.2=.local->cn.lookup p.1=some .local
theorem M4{pn:List (Str×NameKind)}{x:Str}(h:Yr pn x=true):pn.lookup x=some .cell\/pn.lookup x=some .free:=by
 unfold Yr at h
 rcases(Bool.or_eq_true _ _).mp h with h | h
 ·exact .inl (Ybh h)
 ·exact .inr (Ybh h)
theorem Br{N:List Str}{pn cn:List (Str×NameKind)}{N':List Str}{mp:List (Option Nat)}(h:U4 N pn cn N' mp=true):CompOk N pn cn N' mp:=by
 unfold U4 at h
 obtain⟨h,h6⟩:=(Ybm _ _).mp h
 obtain⟨h,h5⟩:=(Ybm _ _).mp h
 obtain⟨h,h4⟩:=(Ybm _ _).mp h
 obtain⟨h,h3⟩:=(Ybm _ _).mp h
 obtain⟨h1,h2⟩:=(Ybm _ _).mp h
 refine⟨Ybh h1,Ybh h2,λk i x e1 e2=>?_,λp hp=>Ybh (Yb2.mp h4 p hp),λp hp e=>?_,λp hp e=>?_⟩
 ·have hk:k < N'.length:=(List.getElem?_eq_some_iff.mp e2).1
  have q:=Yb2.mp h3 k (Ybi.mpr hk)
  simp only [e1,e2]at q
  obtain⟨q,q4⟩:=(Ybm _ _).mp q
  obtain⟨q,q3⟩:=(Ybm _ _).mp q
  obtain⟨q1,q2⟩:=(Ybm _ _).mp q
  exact⟨Ybh q1,M4 q2,Ybh q3,Ybh q4⟩
 ·rcases(Bool.or_eq_true _ _).mp (Yb2.mp h5 p hp) with z | z
  ·exact absurd e (Ybh z)
  ·exact M4 z
 ·rcases(Bool.or_eq_true _ _).mp (Yb2.mp h6 p hp) with z | z
  ·exact absurd e (Ybh z)
  ·exact Ybh z
theorem Lv{env:Env}:∀{names:List (Str×NameKind)} {x:Str},names.lookup x=some .free ->
  (names.map λ(n,k)=>if(k==NameKind.free && env.scope.kind==.function && env.kindOf n==some .cell) then(n,NameKind.cell) else(n,k)).lookup x=some .cell \/
  (names.map λ(n,k)=>if(k==NameKind.free && env.scope.kind==.function && env.kindOf n==some .cell) then(n,NameKind.cell) else(n,k)).lookup x=some .free
 | [],_,h=>by simp at h
 | (n,k) :: r,x,h=>by
  have ih:=@Lv env r x
  rw [Ycc]
  cases hx:x==n with
  | true =>
   simp only [List.lookup_cons,hx]at h
   cases h
   by_cases hc:(NameKind.free==NameKind.free && env.scope.kind==.function && env.kindOf n==some .cell)=true
   ·refine .inl ?_
    simp only [hc,if_true,List.lookup_cons,hx]
   ·refine .inr ?_
    simp only [if_neg hc,List.lookup_cons,hx]
  | false =>
   simp only [List.lookup_cons,hx]at h
   by_cases hc:(k==NameKind.free && env.scope.kind==.function && env.kindOf n==some .cell)=true
   ·simp only [hc,if_true,List.lookup_cons,hx];exact ih h
   ·simp only [if_neg hc,List.lookup_cons,hx];exact ih h
theorem Lw{env:Env}:∀{names:List (Str×NameKind)} {x:Str},(∀p∈names,p.2≠.cell) ->
  ((names.map λ(n,k)=>if(k==NameKind.free && env.scope.kind==.function && env.kindOf n==some .cell) then(n,NameKind.cell) else(n,k)).lookup x=some .cell \/
  (names.map λ(n,k)=>if(k==NameKind.free && env.scope.kind==.function && env.kindOf n==some .cell) then(n,NameKind.cell) else(n,k)).lookup x=some .free)->(x,NameKind.free)∈names
 | [],_,_,h=>by simp at h
 | (n,k) :: r,x,hn,h=>by
  have ih:=@Lw env r x λp hp=>hn p (Yax _ hp)
  rw [Ycc]at h
  cases hx:x==n with
  | true =>
   have e:x=n:=by simpa using hx
   subst e
   have hk:=hn (x,k) Yaz
   by_cases hc:(k==NameKind.free && env.scope.kind==.function && env.kindOf x==some .cell)=true
   ·have:k=.free:=by
     simp only [Bool.and_eq_true]at hc
     simpa using hc.1.1
    rw [this];exact Yaz
   ·simp only [if_neg hc,List.lookup_cons,hx]at h
    rcases h with h | h
    ·exact absurd (Ya3 h) hk
    ·rw [Ya3 h];exact Yaz
  | false =>
   by_cases hc:(k==NameKind.free && env.scope.kind==.function && env.kindOf n==some .cell)=true
   ·simp only [hc,if_true,List.lookup_cons,hx]at h;exact Yax _ (ih h)
   ·simp only [if_neg hc,List.lookup_cons,hx]at h;exact Yax _ (ih h)
end L2
namespace PySem
open Sem (wp)
section
variable {prog:Program}{w:World}{A:Around}{E:Value->Shared->Prop}{R:Result->Shared->Prop}{s:Shared}
variable {I:Addr}{fp wr:List Addr}{G:Array GenState->Array GenState->Prop}{n:Nat}{P:Nat->Value->Prop}{St:Nat->Shared->Prop}
end
end PySem
namespace L2
open PySem PySem.Spec PyProof.Rows
def Bt(X:Cx)(N':List Str)(scope:Scope)(C:Addr)(s:Shared)(H:Hp)(fp:List Addr):Cx :=
 { X with N:=N',s₀:=s,H₀:=H,env:=compEnvC scope (Ek X.env.cells scope.names []) C X.env,outer:=X.stack,stack:=X.stack,ex:=fp,fn:=λ_=>false,pn:=[],xe:=λ_ _=>False }
def PIfs(X:Cx)(ft:List Expr)(t:TT):Prop :=
 ∀(aa:List (Addr×Obj)) (s:Shared) (σ:St) (H:Hp) (Q:Bool->Hp->Prop),Inv X aa σ H s->t σ H Q ->
  wpAny (model X.prog X.w) X.A (forIn ft true λc r=>if r=true then do let ok <- isTrue c X.env (eval c X.env);pure (ForInStep.yield ok) else pure (ForInStep.yield r)) (TP X aa σ Q) X.xe s
def Qjp:TT:=λ_ H Q=>Q true H
theorem U5{X:Cx}:PIfs X [] Qjp:=λ_ _ _ H _ I h=>wpAny_tests_nil ⟨H,I,h⟩
theorem U6{X:Cx}{c:Expr}{t:TT}(h:PT X c t):PIfs X [c] t:=λaa s σ H Q I hw=>wpAny_tests_one (h aa s σ H Q I hw)
def U7(p:Addr)(J:It)(g:TG)(tst:TT)(te:TE)(Q:Hp->Prop)(σ:St)(H:Hp):Prop :=
 ∃W:Nat->Nat->List V->St->Hp->Prop,(∃m,W 0 m [] σ H)/\∀i m aj σ' H',W i m aj σ' H' ->
  (J.stop i H'/\Q H')\/(J.go i H'/\∃N:List V->St->Hp->Prop,(∀aj σ H,N aj σ H->∃m',m' < m/\W (i+1) m' aj σ H)/\∀x H2,J.yld i H' x H2->g x σ' H2 fun σ3 H3=>tst σ3 H3 λb H4 =>
   if b=true then te σ3 H4 λv H5=>∃ac,H5 p=some (.lst ac)/\ac.length < sizeLine/\N (ac++[v]) σ3 (upd H5 p (.lst (ac++[v])))
   else N aj σ3 H4)
def U8(mp:List (Option Nat))(wi:TI)(g:TG)(tst:TT)(te:TE):TE:=fun σ H Q=>wi σ H λJ H1=>∀p,H1 p=none ->
 U7 p J g tst te (λH'=>Q (.ref p) H') (M3 mp σ) (upd H1 p (.lst []))
section
variable {X:Cx}{N':List Str}{mp:List (Option Nat)}{gr tg aw:Expr}{ft:List Expr}{scope:Scope}{pos:Pos}{wi:TI}{g:TG}{tst:TT}{te:TE}
theorem Inv.comp0{aa:List (Addr×Obj)}{σ:St}{H:Hp}{s:Shared}{fp:List Addr}{tn:Heap->Prop}{h₁:Heap}{tk:Nat}{C:Addr}(ok:CompOk X.N X.env.scope.names scope.names N' mp)(hk:scope.kind=.function)
  (I:Inv X aa σ H s) (hf:∀b∈fp,Ei X aa H b) (wy:∀b∈fp,∃o,s.heap.get? b=some o) (hC:C=s.heap.objs.size+1)
  (gs:∃m,h₁.Ns C m) (keep:∀b o,s.heap.get? b=some o->h₁.get? b=some o) (gq:∃n,h₁.get? s.heap.objs.size=some { cls:=.type "list",data:=.seq #[] n }) :
  Inv (Bt X N' scope C s H fp) [] (M3 mp σ) (upd H s.heap.objs.size (.lst [])) { s with heap:=h₁,toks:=tk }:=by
 subst hC
 have bo:∀x∈scope.names,x.2=.free->∃c,X.env.cells.lookup x.1=some c:=λx hx e=>I.ok.has x.1 (ok.free x hx e)
 have sub:∀x c,(Ek X.env.cells scope.names []).lookup x=some c->X.env.cells.lookup x=some c:=Ie bo (λx c e=>by simp at e)
 have hlt:∀b∈fp,b < s.heap.objs.size:=λb hb=>let⟨_,e⟩:=wy b hb;Yae e
 have hnC:H (s.heap.objs.size+1)=none:=I.hok.fresh (Ydn _)
 have pg:H s.heap.objs.size=none:=I.hok.fresh (Yaf _)
 have nj:∀b∈fp,b∉frs X.stack:=λb hb z=>by
  obtain⟨_,f1,f2,_⟩:=hf b hb
  rcases Yat.mp (I.stkSub b z) with e | e
  ·exact f1 e
  ·exact f2 e
 refine⟨⟨I.ok.mod,hk,I.ok.glob,I.ok.blt,Ydn _,λx y c e1 e2=>I.ok.inj x y c (sub x c e1) (sub y c e2),λx e=>?_,λx c e=>(nomatch e),I.ok.hd,I.ok.frames,.inl rfl,λb hb=>⟨?_,λx c e=>?_⟩,I.bs,Yas I.ok.bsz I.sz,λb o e hb=>?_,nj,I.stack,I.stkFree⟩,
  rfl,I.bare,Un.laid keep (Yaf _) pg,?_,λx c e=>?_,?_,λx c e=>?_,λp hp=>(nomatch hp),I.hok.laid keep (Yaf _) ?_,?_⟩
 ·exact Fr (Lw ok.nocell e)
 ·exact Yaj (Nat.lt_succ_of_lt (hlt b hb))
 ·exact(hf b hb).2.2.2.2.1 x c (sub x c e)
 ·rcases(hf b hb).2.2.2.1 with z | z
  ·exact I.ok.noex b o e z
  ·exact absurd (Yam (Yae e) (Yas I.ok.bsz z)) (Yc9 _)
 ·obtain⟨m,hm⟩:=gs
  refine⟨m,hm,λi x v e1 e2 e3=>?_⟩
  have on:(M3 mp σ)[i]?=some (some v):=e2
  unfold M3 at on
  rw [List.getElem?_map]at on
  cases hmp:mp[i]? with
  | none=>rw [hmp]at on;cases on
  | some o =>
   rw [hmp]at on
   cases o with
   | none=>cases on
   | some j =>
    have e4:σ[j]?=some (some v):=by
     have q:(σ[j]?).join=some v:=Ya3 on
     cases hj:σ[j]? with
     | none=>rw [hj]at q;cases q
     | some y=>rw [hj]at q;exact Ydl some q
    obtain⟨a1,a2,a3,a4⟩:=ok.map i j x hmp e1
    obtain⟨m0,i5,mx⟩:=I.loc
    obtain⟨u,r,l⟩:=mx j x v a1 e4 (a2.elim (λz=>.inr (.inl z)) λz=>.inr (.inr z))
    refine⟨u,r,.inr ⟨?_,?_⟩⟩
    ·exact Lv a4
    ·rcases l with⟨l1,_⟩ | ⟨_,c,l2,l3⟩
     ·have l1:X.env.scope.names.lookup x=some .local:=l1
      rcases a2 with a2 | a2 <;> rw [a2]at l1 <;> cases l1
     ·obtain⟨c',cu⟩:∃c',(Ek X.env.cells scope.names []).lookup x=some c':=Fr a3
      have:c'=c:=Ya3 ((sub x c' cu).symm.trans l2)
      subst this
      exact⟨c',cu,l3.keeps keep⟩
 ·obtain⟨v,z⟩:=I.cell x c (sub x c e)
  exact⟨v,z.keeps keep⟩
 ·show upd H s.heap.objs.size (.lst []) (s.heap.objs.size+1)=none
  rw [Aw (Nat.succ_ne_self _)];exact hnC
 ·obtain⟨v,z⟩:=I.cell x c (sub x c e)
  show upd H s.heap.objs.size (.lst []) c=none
  rw [Aw (Yaj z.lt)];exact I.freeC x c (sub x c e)
 ·obtain⟨n,e⟩:=gq
  exact⟨Ya6 _,[],n,.nil,e⟩
 ·show(M3 mp σ).length=N'.length
  unfold M3
  rw [Yac,ok.len]
theorem M5{aa:List (Addr×Obj)}{σ:St}{H:Hp}{s:Shared}{it:Addr}{fp:List Addr}{tn:Nat->Heap->Prop}{J:It}{Q:Addr->Hp->Prop}{E:Value->Shared->Prop}{RR:Value->Addr->Result->Shared->Prop}
  (ok:CompOk X.N X.env.scope.names scope.names N' mp) (hk:scope.kind=.function) (hc:X.calm=true) (I:Inv X aa σ H s) (T:Turn X.prog X.w X.K tg J fp it tn) (st:tn 0 s.heap) (hf:∀b∈fp,Ei X aa H b)
  (hg:∀C s H fp,PG (Bt X N' scope C s H fp) tg g) (ht:∀C s H fp,PIfs (Bt X N' scope C s H fp) ft tst) (he:∀C s H fp,PE (Bt X N' scope C s H fp) gr te)
  (h:∀p,H p=none->U7 p J g tst te (Q p) (M3 mp σ) (upd H p (.lst [])))
  (hRR:∀C s' H',Inv X aa σ H' s'->(∃m,s'.heap.Ns C m)->H' C=none->X.s₀.heap.objs.size<=C->C≠X.env.locals->(∀x c,X.env.cells.lookup x=some c->c≠C)->(∀q∈X.pn++aa,q.1≠C)->Q s.heap.objs.size H'->RR (.ref s.heap.objs.size) C (.ok .next) s') :
  wpAny (model X.prog X.w) X.A (newList []) (λaj s₃=>wpAny (model X.prog X.w) X.A (newFunctionEnv scope X.env.globals (Ek X.env.cells scope.names []) [] X.env.qual none .none (some X.env)) (λse s₄ =>
   codeAny (model X.prog X.w) X.A (.compStart (.ListComp gr [⟨tg,aw,ft,0⟩] scope pos) 0 (.ref it) aj { se with scope:=relabel scope X.env }) (RR aj se.locals) s₄) E s₃) E s:=by
 refine Ya1 (wpAny_newFunctionEnv ok.nocell (by intro y hy;simp at hy) (λh₁ gs₁ hsb₁=>?_) hk)
 dsimp only at gs₁ hsb₁ ⊢
 generalize wj:s.heap.push { cls:=.type "list",dict:=none,data:=.seq ([]:List Value).toArray }=H2 at gs₁ hsb₁ ⊢
 have hC:H2.objs.size=s.heap.objs.size+1:=by rw [<- wj,Yb4]
 have keep:∀b o,s.heap.get? b=some o->h₁.get? b=some o:=λb o e =>
  hsb₁.extBut b o (by rw [hC];exact Yaj (Nat.lt_succ_of_lt (Yae e))) (Heap.get?_push_of_some _ (wj ▸ Heap.get?_push_of_some _ e))
 have gq:∃n,h₁.get? s.heap.objs.size=some { cls:=.type "list",data:=.seq #[] n } :=
  ⟨_,hsb₁.extBut _ _ (by rw [hC];exact Yaj (Nat.lt_succ_self _)) (Heap.get?_push_of_some _ (wj ▸ Heap.get?_push_size _ rfl))⟩
 have wy:∀b∈fp,∃o,s.heap.get? b=some o:=λb hb=>let⟨o,e,_⟩:=T.obj _ _ st b hb;⟨o,e⟩
 have mj:s.heap.objs.size<=H2.objs.size:=by rw [hC];exact Ydn _
 have I0:=I.comp0 (tn:=tn 0) (C:=H2.objs.size) (tk:=s.toks+([]:List (Str×Value)).length) ok hk hf wy hC ⟨_,gs₁⟩ keep gq
 have st0:tn 0 h₁:=T.keep _ _ _ st λb hb o e=>keep b o e
 obtain⟨W,⟨m0,w0⟩,turn⟩:=h _ (I.hok.fresh (Yaf _))
 have nj:∀b∈fp,b∉frs X.stack:=I0.ok.exfs
 have jg:∀{H':Hp},(∀b∈fp,H' b=none)->∀b∈fp,Ei (Bt X N' scope H2.objs.size s H fp) [] H' b:=λhn b hb =>
  ⟨hn b hb,(I0.ok.exf b hb).1,nj b hb,.inl hb,(I0.ok.exf b hb).2,λq hq=>(nomatch hq)⟩
 have loop:∀s₃:Shared,s₃={ s with heap:=h₁,toks:=s.toks+([]:List (Str×Value)).length } ->
   codeAny (model X.prog X.w) X.A (.compLoop (.ListComp gr [⟨tg,aw,ft,0⟩] scope pos) 0 (.ref it) (.ref s.heap.objs.size) (compEnvC scope (Ek X.env.cells scope.names []) H2.objs.size X.env)) (RR (.ref s.heap.objs.size) H2.objs.size) s₃:=by
  rintro s₃ rfl
  refine Mz (λn s'=>∃i aj σ' H',Inv (Bt X N' scope H2.objs.size s H fp) [] σ' H' s'/\tn i s'.heap/\(∀b∈fp,H' b=none)/\W i n aj σ' H') ?_ m0
   ⟨0,[],_,_,I0,st0,λb hb=>by rw [Aw (Yaj (let⟨_,e⟩:=wy b hb;Yae e))];exact(hf b hb).1,w0⟩
  rintro n s3 ⟨i,aj,σ3,H3,I3,st3,fr3,w3⟩
  rcases turn i n aj σ3 H3 w3 with⟨stop,qn⟩ | ⟨go,N,hN,step⟩
  ·refine thn (T.done (Bt X N' scope H2.objs.size s H fp) rfl rfl rfl hc i [] s3 σ3 H3 _ I3 (jg fr3) st3 stop) λr s4 ⟨hr,I4⟩=>?_
   subst hr
   refine hRR _ s4 H3 ?_ (let⟨m,hm,_⟩:=I4.loc;⟨m,hm⟩) I4.free (Yas I.sz mj) (Ydv (Yam I.lt mj)) (λx c e=>?_) (λq hq=>?_) qn
   ·exact I.call' I4.os I4.base I4.hok I4.bare λb hb=>let⟨_,f1,_,f3,f4,f5⟩:=hf b hb;⟨f3,f1,f4,f5⟩
   ·obtain⟨v,z⟩:=I.cell x c e
    exact Yaj (Yam z.lt mj)
   ·exact Yaj (Yam (Yae (I.pin q hq).1) mj)
  ·refine thn (T.item (Bt X N' scope H2.objs.size s H fp) rfl rfl rfl hc i [] s3 σ3 H3 _ I3 (jg fr3) st3 go) λr s4 ⟨u,hr,h4⟩=>?_
   subst hr
   refine thn h4 λ_ s5 rj=>?_
   obtain⟨x,H5,I5,r5,y5,st5,fr5⟩:=rj
   have I5':=I5.pinned (jg fr5) (T.obj _ _ st5)
   refine thn (hg _ _ _ _ _ s5 σ3 H5 x u _ I5' r5 (step x H5 y5)) λ_ s6 sd=>?_
   obtain⟨σ6,H6,I6,q6⟩:=sd
   refine thn (ht _ _ _ _ _ s6 σ6 H6 _ I6 q6) λb s7 ⟨H7,I7,q7⟩=>?_
   have again:∀{σ8:St} {H8:Hp} {nn:List V} {s8:Shared},Inv (Bt X N' scope H2.objs.size s H fp) ([]++Ia fp s5.heap) σ8 H8 s8->(∃m',m' < n/\W (i+1) m' nn σ8 H8) ->
     ∃m,m < n/\∃i aj σ' H',Inv (Bt X N' scope H2.objs.size s H fp) [] σ' H' s8/\tn i s8.heap/\(∀b∈fp,H' b=none)/\W i m aj σ' H':=λ{σ8 H8 nn s8} I8 hw=>by
    obtain⟨m',hm,w8⟩:=hw
    refine⟨m',hm,i+1,nn,σ8,H8,I8.unpinned,T.keep _ _ _ st5 λb hb o e=>(I8.pin (b,o) (Ybj _ (Ybj _ (D9 hb e)))).1,λb hb=>?_,w8⟩
    obtain⟨o,e,d⟩:=T.obj _ _ st5 b hb
    exact(I8.pin (b,o) (Ybj _ (Ybj _ (D9 hb e)))).2.1
   cases b with
   | false =>
    rw [Yah Yad]
    rw [Yah Yad]at q7
    exact again I7 (hN _ _ _ q7)
   | true =>
    rw [Yak rfl]
    rw [Yak rfl]at q7
    refine thn (he _ _ _ _ _ s7 σ6 H7 _ I7 q7) λy s8 vd=>?_
    obtain⟨v,H8,I8,r8,ac,e8,z8,w8⟩:=vd
    refine thn (Kj (X:=Bt X N' scope H2.objs.size s H fp) _ s8 σ6 H8 (.ref s.heap.objs.size) [v] (.ref s.heap.objs.size) [y] (λ_ H9=>H9=upd H8 s.heap.objs.size (.lst (ac++[v]))) I8 rfl (.cons r8 .nil) ⟨_,ac,v,rfl,rfl,e8,z8,rfl⟩) λ_ s9 vk=>?_
    obtain⟨_,H9,I9,_,e9⟩:=vk
    subst e9
    exact again I9 (hN _ _ _ w8)
 exact codeAny_compStart_list (loop _ rfl) (T.self _ 0 _ _ _ st0 (loop _ rfl))
theorem Inv.letgo{aa:List (Addr×Obj)}{σ:St}{H:Hp}{s:Shared}{C:Addr}{h':Heap}(I:Inv X aa σ H s)(hn:H C=none)(h1:X.s₀.heap.objs.size<=C)(hL:C≠X.env.locals)(h2:∀x c,X.env.cells.lookup x=some c->c≠C)
  (h3:∀q∈X.pn++aa,q.1≠C) (hs:Heap.SameBut C s.heap h'):Inv X aa σ H { s with heap:=h' } :=
 I.turned (t':=s.toks) (λb o hb e=>(hs.2 b hb).trans e) hn hL (.inr h1) h2 h3
theorem Ys(hc:X.calm=true)(hi:PI X tg aw wi)(hg:∀C s H fp,PG (Bt X N' scope C s H fp) tg g)(ht:∀C s H fp,PIfs (Bt X N' scope C s H fp) ft tst)(he:∀C s H fp,PE (Bt X N' scope C s H fp) gr te)
  (ok:CompOk X.N X.env.scope.names scope.names N' mp) (hk:scope.kind=.function:=by rfl) (hs:∀x,foldedSetIterable aw X.env x=pure x:=by intro _;rfl) :
  PE X (.ListComp gr [⟨tg,aw,ft,0⟩] scope pos) (U8 mp wi g tst te):=by
 intro aa s σ H Q I h
 rw [eval_ListComp]
 refine wpAny_comprehension_free (use:=none) rfl hs (Fc λx hx e=>I.ok.has x.1 (ok.free x hx e)) hk ok.loc (thn (hi aa s σ H _ I h) λv s1 h1=>thn h1 λww s2 h2=>?_)
 obtain⟨it,fp,tn,J,H2,e,I2,T,st2,f2,hw⟩:=h2
 subst e
 refine M5 (Q:=λp H'=>Q (.ref p) H') (RR:=λaj C=>compPost (model X.prog X.w) X.A X.xe none (EP X aa σ Q) aj C) ok hk hc I2 T st2 f2 hg ht he hw ?_
 intro C s' H' I' gs hn h1 hL bo n6 q
 obtain⟨m,hm⟩:=gs
 exact⟨m,hm,λh' gy=>⟨.ref s2.heap.objs.size,H',I'.letgo hn h1 hL bo n6 gy,rfl,q⟩⟩
theorem Yt{i:Nat}{y:Str}{py lc:Pos}(hc:X.calm=true)(hN:X.N.Nodup)(en:X.N[i]?=some y)(hy:X.env.scope.names.lookup y=some .local)
  (hi:PI X tg aw wi) (hg:∀C s H fp,PG (Bt X N' scope C s H fp) tg g) (ht:∀C s H fp,PIfs (Bt X N' scope C s H fp) ft tst) (he:∀C s H fp,PE (Bt X N' scope C s H fp) gr te)
  (ok:CompOk X.N X.env.scope.names scope.names N' mp) (xz:swapsWith (.ListComp gr [⟨tg,aw,ft,0⟩] scope pos) (some (.Name y py)) lc.line X.env=pure true:=by rfl)
  (hk:scope.kind=.function:=by rfl) (hs:∀x,foldedSetIterable aw X.env x=pure x:=by intro _;rfl) :
  PS X (.Assign [.Name y py] (.ListComp gr [⟨tg,aw,ft,0⟩] scope pos) lc) (Ye (U8 mp wi g tst te) (Ul i)):=by
 intro aa s σ H D I h
 rw [exec_Assign_Name_used _ _ _ _ xz]
 refine Yaa (Yek (Yaa ?_))
 show wpAny _ _ (do let _ <- comprehension (.ListComp gr [⟨tg,aw,ft,0⟩] scope pos) scope X.env _ (newList []) false (eval aw X.env) (some (assign (.Name y py) X.env))) _ _ s
 refine Yaa (Ybk (wpAny_comprehension_free (use:=some (assign (.Name y py) X.env)) (Q:=λ_ s'=>SP X aa D .next s') rfl hs (Fc λx hx e=>I.ok.has x.1 (ok.free x hx e)) hk ok.loc
  (thn (hi aa s σ H _ I h) λv s1 h1=>thn h1 λww s2 h2=>?_)) (λ_ s' hq=>Yab (Yab hq)) λ_ _ e=>e)
 obtain⟨it,fp,tn,J,H2,e,I2,T,st2,f2,hw⟩:=h2
 subst e
 refine M5 (Q:=λp H'=>D.nx (σ.set i (some (.ref p))) H') (RR:=λaj C=>compPost (model X.prog X.w) X.A X.xe (some (assign (.Name y py) X.env)) (λ_ s'=>SP X aa D .next s') aj C) ok hk hc I2 T st2 f2 hg ht he hw ?_
 intro C s' H' I' gs hn h1 hL bo n6 q
 obtain⟨m,hm⟩:=gs
 show wpAny _ _ (assign (.Name y py) X.env (.ref s2.heap.objs.size)) _ _ s'
 refine wpAny_assign_Name (Kd I' hN en (.inl hy) (v:=.ref s2.heap.objs.size) rfl (λxg I'' fw=>?_) (.inr hy))
 obtain⟨a,hsb,ha⟩:=fw
 have hCa:C≠a:=by
  rcases ha with rfl | ha
  ·exact hL
  ·exact(bo _ _ ha).symm
 refine⟨m,hm.sameBut hsb hCa,λh' gy=>?_⟩
 exact⟨_,H',I''.letgo hn h1 hL bo n6 gy,q⟩
end
section
variable {K:PySem.W.Frag}{a p:Addr}{xs:List V}{g:TG}{tst:TT}{te:TE}{Q:Hp->Prop}{σ:St}{H:Hp}
theorem Yu{J:It}(n:Nat)(Pv:Nat->List V->St->Hp->Prop)(h0:Pv 0 [] σ H)
  (x8:∀i aj σ H,i < n->Pv i aj σ H->J.go i H) (j8:∀aj σ H,Pv n aj σ H->J.stop n H/\Q H)
  (hs:∀i x aj σ H H2,i < n->Pv i aj σ H->J.yld i H x H2->g x σ H2 fun σ3 H3=>tst σ3 H3 λb H4 =>
   if b=true then te σ3 H4 λv H5=>∃ac,H5 p=some (.lst ac)/\ac.length < sizeLine/\Pv (i+1) (ac++[v]) σ3 (upd H5 p (.lst (ac++[v]))) else Pv (i+1) aj σ3 H4) :
  U7 p J g tst te Q σ H:=by
 refine⟨λi m aj σ H=>m=n - i/\i<=n/\Pv i aj σ H,⟨n,by simp,Ya6 _,h0⟩,?_⟩
 rintro i m aj σ H ⟨rfl,hi,pv⟩
 by_cases hlt:i < n
 ·exact .inr ⟨x8 i aj σ H hlt pv,Pv (i+1),λaj σ H q=>⟨n - (i+1),by omega,rfl,hlt,q⟩,λx H2 y=>hs i x aj σ H H2 hlt pv y⟩
 ·have e:i=n:=by omega
  subst e
  exact .inl (j8 aj σ H pv)
end
section
variable {X:Cx}
def Qjq:V->Option Int->Option Int->Hp->VK->Prop:=λx lo hi H Q=>∃z,x=.str z/\z.length<=sizeLine/\Q (.str (Txt.slice z lo hi)) H
theorem Qcw:SlR X Qjq:=by
 intro aa s σ H x v vl vu lo hi sl Q I rx hs pl pu h
 obtain⟨z,rfl,hz,q⟩:=h
 obtain⟨t,rfl⟩:=rx
 refine⟨"str",_,F.slot_str_getitem.lookup,typeIs_str _ _ _,?_⟩
 have fin:∀t' k,EP X aa σ Q (.str (Txt.slice z lo hi) t') { s with toks:=k }:=λt' k=>⟨.str _,H,I.tok _,⟨_,rfl⟩,q⟩
 cases pl with
 | none =>
  cases pu with
  | none=>exact Ydo (l:=none) (u:=none) (st:=none) hs rfl (Yfj ⟨Yas (Txt.slice_le z _ _) hz,fin⟩)
  | int j tj=>exact Ydo (l:=none) (u:=some (j,tj)) (st:=none) hs rfl (Yfj ⟨Yas (Txt.slice_le z _ _) hz,fin⟩)
 | int i ti =>
  cases pu with
  | none=>exact Ydo (l:=some (i,ti)) (u:=none) (st:=none) hs rfl (Yfj ⟨Yas (Txt.slice_le z _ _) hz,fin⟩)
  | int j tj=>exact Ydo (l:=some (i,ti)) (u:=some (j,tj)) (st:=none) hs rfl (Yfj ⟨Yas (Txt.slice_le z _ _) hz,fin⟩)
theorem U9(hc:X.calm=true):Ej X (.builtin "all") (λxs H Q=>∃(p:Addr) (bs:List Bool),xs=[.ref p]/\Du X.K H p (bs.map V.bl)/\Q (.bl (bs.all id)) H):=by
 intro aa s σ H xs us Q I r h
 obtain⟨p,bs,rfl,hq,q⟩:=h
 obtain⟨u,rfl,rx⟩:=Ib r
 cases rx
 obtain⟨af,r',pl,hz⟩:=I.list hq
 have ak:=r'.length
 rw [Yac]at ak
 refine call_all_walk (Ydg pl.isList ?_)
 have ar:p≠s.heap.objs.size:=Yaj (let⟨_,ho,_⟩:=pl.isList;Yae ho)
 refine⟨s.heap.objs.size,_,_,_,_,_,λi=>bs.getD i true,rfl,Walks.list (show X.A.in1.handled=none from I.ok.hd hc) s.heap.objs.size p ar af.toArray,?_,?_,λh' tk k=>?_⟩
 ·exact⟨⟨_,Heap.get?_push_size _ rfl,rfl,rfl⟩,pl.isList.at λo e=>Heap.get?_push_of_some _ e⟩
 ·intro i v s' Q' E' hP hQ'
  have hv:af[i]?=some v:=by simpa using hP
  have hi:i < bs.length:=by rw [ak];exact(List.getElem?_eq_some_iff.mp hv).1
  obtain⟨u,hu,ru⟩:=r'.get (i:=i) (x:=V.bl bs[i]) (by simp [hi])
  rw [hv]at hu
  cases hu
  cases (show v=Value.bool bs[i] from ru)
  refine Yck ?_
  have e:bs.getD i true=bs[i]:=by simp [hi]
  have nv:Q' (bs.getD i true) s':=hQ'
  rw [e]at nv
  exact nv
 ·have e:(List.range af.toArray.size).all (λi=>bs.getD i true)=bs.all id:=by
   rw [Yan,<- ak]
   rw [Yen,Yb2,Yb2]
   constructor
   ·intro a x hx
    obtain⟨i,hi,rfl⟩:=List.mem_iff_getElem.mp hx
    have:=a i (Ybi.mpr hi)
    simpa [hi] using this
   ·intro a i hi
    have hi:=Ybi.mp hi
    have:=a bs[i] (Ybu hi)
    simpa [hi] using this
  rw [e]
  exact⟨.bl _,H,I.kept λb o e=>k b o (by
   intro hb
   have:b=s.heap.objs.size:=by simpa using hb
   exact absurd (Yae e) (by rw [this];exact Yc9 _)) (Heap.get?_push_of_some _ e),rfl,q⟩
theorem O1{ys:List Str}{us:List Value}(h:Vals (ys.map V.str) us):StrsAre us ys:=by
 induction ys generalizing us with
 | nil=>cases h;exact .nil
 | cons y ys ih =>
  cases h with
  | cons r t =>
   obtain⟨tk,rfl⟩:=r
   exact .cons y tk (ih t)
theorem Yv:MtR X "str.join" (λx xs H Q=>∃z p ys,x=.str z/\xs=[.ref p]/\Du X.K H p (ys.map V.str)/\(ys.map (·.length)).sum+ys.length * z.length<=16777216/\Q (.str (Txt.join z ys)) H):=by
 intro aa s σ H x xs v us Q I rx r h
 obtain⟨z,p,ys,rfl,rfl,hq,hz,q⟩:=h
 obtain⟨t,rfl⟩:=rx
 obtain⟨u,rfl,ru⟩:=Ib r
 cases ru
 obtain⟨af,r',pl,_⟩:=I.list hq
 exact join_list pl.isList (O1 (by simpa using r')) hz λt' k=>⟨.str _,H,I.tok _,⟨_,rfl⟩,q⟩
def Its(x:Str):It:=⟨λi _=>i < x.cps.size,λi H v H'=>H'=H/\∃c,x.cps[i]?=some c/\v=.str ⟨#[c]⟩,λi _=>i=x.cps.size⟩
theorem Va{P:Program}{w:World}{K:PySem.W.Frag}{tg:Expr}(it:Addr)(x:Str)(t:Tok)(n:String)(hn:n = "str_ascii_iterator" \/ n = "str_iterator") :
  Turn P w K tg (Its x) [it] it (λi h=>h.IsStrIter it n x t i) where
 mem:=by simp
 obj:=λi h st b hb=>by
  have e:b=it:=by simpa using hb
  subst e
  obtain⟨o,e,c,d⟩:=st
  exact⟨o,e,λv z=>by rw [d]at z;cases z⟩
 keep:=λi h h' st k=>let⟨o,ho,r⟩:=st;⟨o,k it (by simp) o ho,r⟩
 item:=by
  intro X hP hw hK hc i aa s σ H E I hf st hg
  subst hP hw hK
  obtain⟨f0,f1,f2,f3,f4,f5⟩:=hf it (by simp)
  have hg:i < x.cps.size:=hg
  have W:Walks X.prog X.w X.A it [it] [it] x.cps.size (SignAt x) (λi h=>h.IsStrIter it n x t i):=by
   rcases hn with rfl | rfl
   ·exact Walks.strAscii (I.ok.hd hc) it x t
   ·exact Walks.strWide (I.ok.hd hc) it x t
  refine W.item i s _ _ hg st λv h' tk hv ai kk=>?_
  obtain⟨c,u,yc,rfl⟩:=hv
  have I1:Inv X aa σ H { s with heap:=h',toks:=tk }:=I.turned (λb o hb e=>kk b o (by simpa using hb) e) f0 f1 f3 f4 f5
  obtain⟨o,e,oc,od⟩:=id ai
  refine⟨_,rfl,Ql (s:={ s with heap:=h',toks:=tk }) (n:=n) e oc od (by rcases hn with rfl | rfl <;> decide) ⟨.str ⟨#[c]⟩,H,I1,⟨u,rfl⟩,⟨rfl,c,yc,rfl⟩,ai,λb hb=>(hf b hb).1⟩⟩
 done:=by
  intro X hP hw hK hc i aa s σ H E I hf st hg
  subst hP hw hK
  obtain⟨f0,f1,f2,f3,f4,f5⟩:=hf it (by simp)
  have hg:i=x.cps.size:=hg
  subst hg
  have W:Walks X.prog X.w X.A it [it] [it] x.cps.size (SignAt x) (λi h=>h.IsStrIter it n x t i):=by
   rcases hn with rfl | rfl
   ·exact Walks.strAscii (I.ok.hd hc) it x t
   ·exact Walks.strWide (I.ok.hd hc) it x t
  exact W.done s _ _ st λh' tk kk=>⟨rfl,I.turned (t':=tk) (λb o hb e=>kk b o (by simpa using hb) e) f0 f1 f3 f4 f5⟩
 self:=λA i s Q E st h=>by
  rcases hn with rfl | rfl
  ·exact wpAny_pyIter_striter_ascii st h
  ·exact wpAny_pyIter_striter_wide st h
def Qjr(tl:TE):TI:=fun σ H R=>tl σ H λx H1=>∃z,x=.str z/\R (Its z) H1
theorem Qcx{tg l:Expr}{tl:TE}(hl:PE X l tl):PI X tg l (Qjr tl):=by
 intro aa s σ H R I h
 refine thn (hl aa s σ H _ I h) λv s1 ug=>?_
 obtain⟨x,H1,I1,r1,q1⟩:=ug
 obtain⟨z,e,q⟩:=q1
 subst e
 obtain⟨t,rfl⟩:=r1
 refine wpAny_pyIter_strU ?_
 refine⟨s1.heap.objs.size,[s1.heap.objs.size],_,_,H1,rfl,I1.kept (t':=s1.toks) λb o e=>Heap.get?_push_of_some _ e,Va _ z t (strIterType z) (by unfold strIterType;split <;> simp),⟨_,Heap.get?_push_size _ rfl,rfl,rfl⟩,λb hb=>?_,q⟩
 have e:b=s1.heap.objs.size:=by simpa using hb
 subst e
 exact I1.fpOk (Yaf _) (I1.hok.fresh (Yaf _))
end
section
variable {H H':Hp}{d l p:Addr}{s n:Int}{ns:List Int}{o:HO}
end
theorem seven{n:Nat}(h:n<=1000):n<=sizeLine:=Yco (Cd h)
end L2
namespace PySem
open Sem (wp)
open AutoSeq1 (wpAny_loadPart')
set_option maxRecDepth 100000
section
variable {prog:Program}{w:World}{A:Around}{E:Value->Shared->Prop}{s:Shared}
theorem El{it t:Addr}{i:Nat}{items}{x:Value}{Q:Value->Shared->Prop}(bj:s.heap.IsTupleIter it t i)
  (ht:s.heap.IsTuple t items) (hx:items[i]?=some x)
  (hQ:∀h',h'.IsTupleIter it t (i+1)->Heap.SameBut it s.heap h'->Q x { s with heap:=h' }) :
  wpAny (model prog w) A (Builtin.SmallTypes.nextOf (.ref it)) Q E s:=by
 obtain⟨o,ho,hc,hd⟩:=id bj
 obtain⟨ol,hol,_,nl,hdl⟩:=ht
 unfold Builtin.SmallTypes.nextOf
 refine Yaa (wpAny_callSpecial?_slot (name:=Str.ofString "__next__") bj.typeIs F.slot_tuple_iterator_next
  (Ybb F.slot_tuple_iterator_next bj.typeIs F.entry_tuple_iterator_next ?_ (F.args_tuple_iterator_next_1 _)))
 show wpAny _ _ (field (.ref it) 0 >>= _) _ _ s
 refine Yaa (Ya7 ho hd (x:=.ref t) rfl ?_)
 show wpAny _ _ (if(Value.ref t==Value.none)=true then _ else _) _ _ s
 rw [Yah (show ¬((Value.ref t==Value.none)=true) from Yad)]
 show wpAny _ _ (field (.ref it) 1 >>= _) _ _ s
 refine Yaa (Ya7 ho hd (x:=.int i 0) rfl ?_)
 show wpAny _ _ (seqItems? (.ref t) >>= _) _ _ s
 refine Yaa (Ycb hol hdl ?_)
 simp only [Int.toNat_natCast,hx]
 refine Yaa (Ycl ho hd (by simp) (Yab ⟨x,rfl,Yab (hQ _ ?_ (Ybn ..))⟩))
 exact⟨_,Heap.get?_update_self _ ho (Ycx (Yb7 hd _)),(Obj.cls_mapFields ..).trans hc,by
  rw [Yb7 hd];simp [rawInt]⟩
theorem E5{it t:Addr}{i:Nat}{items}{Q:Value->Shared->Prop}(hh:A.handled=none)
  (bj:s.heap.IsTupleIter it t i) (ht:s.heap.IsTuple t items) (hx:items[i]?=none)
  (hE:∀h' e,Heap.ExtBut it s.heap h'->(∃o,h'.get? e=some o/\o.cls=.type "StopIteration")->E (.ref e) { s with heap:=h' }) :
  wpAny (model prog w) A (Builtin.SmallTypes.nextOf (.ref it)) Q E s:=by
 obtain⟨o,ho,hc,hd⟩:=id bj
 obtain⟨ol,hol,_,nl,hdl⟩:=ht
 unfold Builtin.SmallTypes.nextOf
 refine Yaa (wpAny_callSpecial?_slot (name:=Str.ofString "__next__") bj.typeIs F.slot_tuple_iterator_next
  (Ybb F.slot_tuple_iterator_next bj.typeIs F.entry_tuple_iterator_next ?_ (F.args_tuple_iterator_next_1 _)))
 show wpAny _ _ (field (.ref it) 0 >>= _) _ _ s
 refine Yaa (Ya7 ho hd (x:=.ref t) rfl ?_)
 show wpAny _ _ (if(Value.ref t==Value.none)=true then _ else _) _ _ s
 rw [Yah (show ¬((Value.ref t==Value.none)=true) from Yad)]
 show wpAny _ _ (field (.ref it) 1 >>= _) _ _ s
 refine Yaa (Ya7 ho hd (x:=.int i 0) rfl ?_)
 show wpAny _ _ (seqItems? (.ref t) >>= _) _ _ s
 refine Yaa (Ycb hol hdl ?_)
 simp only [Int.toNat_natCast,hx]
 refine Yaa (Yb8 (Yaa (Ycl ho hd (by simp) ?_)))
 show wpAny _ _ (newExc (.type "StopIteration") [] >>= _) _ _ _
 refine Yaa ?_
 simp only [newExc,newTuple]
 refine Yaa (Ya1 ?_ (by size_fits))
 refine Yaa (m:=firstArgMember _ _) (Ycr (a:=Value.none) (by first | rfl | (simp only [firstArgMember];rfl)) ?_)
 refine Ya1 ?_ (by size_fits)
 simp only [raiseNew]
 refine Yaa (wpAny_handled ?_)
 first | rw [show A.in1.handled=none from hh] | rw [hh]
 refine Yaa (Yab (wpAny_throw ?_))
 exact hE _ _ (((Ybn ..).extBut.push _).push _) ⟨_,Heap.get?_push_size _ rfl,rfl⟩
end
theorem Db{prog:Program}{w:World}{A:Around}(hh:A.handled=none)(it l:Addr)(ar:l≠it)(items:Array Value) :
  Draws prog w A it [it,l] items.size (λi v=>items[i]?=some v) (λi h=>h.IsTupleIter it l i/\h.IsTuple l items) where
 live:=λ_ _ st=>let⟨o,ho,_⟩:=st.1;⟨o,ho⟩
 frame:=λ_ _ _ st hk=>⟨st.1.at λo e=>hk it (by simp) o e,st.2.at λo e=>hk l (by simp) o e⟩
 item:=λi s Q E hi st hQ=>by
  refine El st.1 st.2 (x:=items[i]) (by simp [hi]) λh' lw gy=>?_
  exact hQ _ h' s.toks (by simp [hi]) ⟨lw,st.2.extBut gy.extBut ar⟩ gy
 done:=λs Q E st hE=>E5 hh st.1 st.2 (by simp) hE
theorem E6(l:Addr)(items:Array Value)(n:Nat)(yr:Option Addr)(sl:Array (Option Value)) :
  Meets (Builtin.«enumerate.__new__» ⟨[.type "enumerate",.ref l],[]⟩) (λ_ R s=>s.heap.get? l=some { cls:=.type "tuple",dict:=yr,data:=.seq items n,slots:=sl } /\
   R (.ok (.ret (.ref (s.heap.push { cls:=.type "tuple_iterator",data:=.fields #[.ref l,.int 0 0] }).objs.size)))
    { s with heap:=(s.heap.push { cls:=.type "tuple_iterator",data:=.fields #[.ref l,.int 0 0] }).push { cls:=.type "enumerate",data:=.fields #[.none,.bool false,.ref s.heap.objs.size,rawInt 0,.none,.none] } }) :=
 .of_wp λprog w A R s h=>by
  obtain⟨hp,g,d,tk,os⟩:=s;obtain⟨hl,h⟩:=h
  have dj:=sub_enumerate
  have hL:Heap.IsTuple (Shared.heap ⟨hp,g,d,tk,os⟩) l items:=⟨_,hl,rfl,n,rfl⟩
  wp_walk using Yeo hl
  refine wpAny_stack_any λst=>Yab ?_
  split
  ·rename_i c _ _ _ _ _
   cases (c==Value.type "enumerate")
   ·wp_walk using Yeo hl,Ycz hL
    exact⟨_,rfl,h⟩
   ·wp_walk using Yeo hl,Ycz hL
    exact⟨_,rfl,h⟩
  ·wp_walk using Yeo hl,Ycz hL
   exact⟨_,rfl,h⟩
section
variable {prog:Program}{w:World}{A:Around}{E:Value->Shared->Prop}{s:Shared}
theorem Ff{l:Addr}{items:Array Value}{Q:Value->Shared->Prop}(hL:s.heap.IsTuple l items)
  (h:∀h',IsEnum h' (s.heap.objs.size+1) s.heap.objs.size 0 .none->h'.IsTupleIter s.heap.objs.size l 0->h'.objs.size=s.heap.objs.size+2 ->
   (∀b o,s.heap.get? b=some o->h'.get? b=some o)->Q (.ref (s.heap.objs.size+1)) { s with heap:=h' }) :
  wpAny (model prog w) A (call (.type "enumerate") [.ref l]) Q E s:=by
 obtain⟨⟨c,yr,dt,sl⟩,hl,hc,n,hd⟩:=hL
 replace hc:c=.type "tuple" := hc
 replace hd:dt=.seq items n:=hd
 subst hc hd
 refine callType_new F.called_enumerate (by decide) (F.typeCall_enumerate_1 _) (F.newCall_enumerate_1 _) (λobj=>F.args_object_init_2 obj _) F.entry_enumerate_new
  (E6 l items n yr sl) ⟨hl,?_⟩
 have hz:(s.heap.push { cls:=.type "tuple_iterator",data:=.fields #[.ref l,.int 0 0] }).objs.size=s.heap.objs.size+1:=Yb4 ..
 show _/\_
 rw [hz]
 have he:IsEnum ((s.heap.push { cls:=.type "tuple_iterator",data:=.fields #[.ref l,.int 0 0] }).push
   { cls:=.type "enumerate",data:=.fields #[.none,.bool false,.ref s.heap.objs.size,rawInt 0,.none,.none] }) (s.heap.objs.size+1) s.heap.objs.size 0 .none:=by
  have:=Heap.get?_push_size (s.heap.push { cls:=.type "tuple_iterator",data:=.fields #[.ref l,.int 0 0] })
   (o:={ cls:=.type "enumerate",data:=.fields #[.none,.bool false,.ref s.heap.objs.size,rawInt 0,.none,.none] }) rfl
  rw [hz]at this;exact this
 refine⟨⟨_,he,rfl⟩,h _ he ⟨_,Heap.get?_push_of_some _ (Heap.get?_push_size _ rfl),rfl,rfl⟩ (by rw [Yb4,hz]) λb o x=>Heap.get?_push_of_some _ (Heap.get?_push_of_some _ x)⟩
end
end PySem
namespace L2
open PySem PySem.Spec PyProof.Rows
def Dj(ds:List PyData)(lo hi:Option Int):List PyData:=(ds.drop (HT.sIx ds.length 0 lo)).take (HT.sIx ds.length ds.length hi - HT.sIx ds.length 0 lo)
section
variable {X:Cx}{k:Nat}
noncomputable def On(h:Heap)(e:PyData)(u:Value):Bool:=@decide (∃d as,Reads h u d as/\d.canLay0=true/\PyData.eqv d e=true) (Classical.propDecidable _)
theorem Qcy{h:Heap}{e d:PyData}{u:Value}{as:List Addr}(r:Reads h u d as)(c:d.canLay0=true):On h e u=PyData.eqv d e:=by
 unfold On
 cases q:PyData.eqv d e with
 | true=>exact @Ybd _ (Classical.propDecidable _) ⟨d,as,r,c,q⟩
 | false =>
  refine @Yau _ (Classical.propDecidable _) λsv=>?_
  obtain⟨d',as',r',_,q'⟩:=sv
  rw [SeqAt.Reads.unique d d' u as as' c r r',q']at q
  cases q
theorem Dw{A:Around}{s:Shared}{e:PyData}{v:Value}{bs:List Addr}(rv:Reads s.heap v e bs)(ce:e.canLay0=true)(hu:A.units+64 < cLine):∀{ds:List PyData} {us:List Value} {as:List Addr},ReadsAll s.heap us ds as ->
  PyData.canLayAll0 ds=true->PyData.depthAll ds<=64->(∀u∈us,SeqAt.EqAt A s u v (On s.heap e u))/\us.any (On s.heap e)=ds.any λd=>PyData.eqv d e
 | [],_,_,r,_,_=>by
  cases r
  exact⟨(λ_ z=>nomatch z),rfl⟩
 | d :: ds,_,_,r,c,dp=>by
  cases r with
  | cons r1 r2 =>
   simp only [PyData.canLayAll0,Bool.and_eq_true]at c
   simp only [PyData.depthAll]at dp
   obtain⟨i1,i2⟩:=Dw rv ce hu r2 c.2 (by omega)
   have e1:=Qcy (e:=e) r1 c.1
   refine⟨λu hu'=>?_,?_⟩
   ·rcases Yat.mp hu' with rfl | z
    ·rw [e1]
     exact Yd4 d e A s _ v _ _ r1 rv c.1 ce (by omega)
    ·exact i1 u z
   ·rw [List.any_cons,List.any_cons,e1,i2]
end
section
variable {X:Cx}{aa:List (Addr×Obj)}{σ:St}{H:Hp}{s:Shared}{h':Heap}
theorem Inv.turnedL{t':Nat}{fp:List Addr}(I:Inv X aa σ H s)(k:∀b o,b∉fp->s.heap.get? b=some o->h'.get? b=some o)(hf:∀b∈fp,Ei X aa H b):Inv X aa σ H { s with heap:=h',toks:=t' }:=by
 have rh:∀b u,H b=some u->b∉fp:=λb u e z=>by rw [(hf b z).1]at e;cases e
 have nL:X.env.locals∉fp:=λz=>(hf _ z).2.1 rfl
 refine I.step (g':=s.gens) (d':=s.drawn) (ch:=fp) (λb hb=>?_) (λb o _ _ hc e _=>k b o hc e) (λb o _ _ hc e _=>⟨o.slots,k b o hc e⟩) (λ_ _ _ _ n=>n)
  (λb o hc e=>⟨o,k b o hc e⟩) (λ_ _ e=>e) (λ_ _ _ e=>e) (λb ps e=>⟨#[],by rw [e];simp⟩) (λm hm=>?_) (λb u e=>?_) I.bare
 ·obtain⟨_,f1,_,f3,f4,f5⟩:=hf b hb
  exact⟨f3,f1,f4,f5⟩
 ·obtain⟨o,es,ep,ho,r⟩:=hm
  exact⟨o,es,ep,k _ o nL ho,r⟩
 ·refine(I.hok b u e).stay (λc v hc q=>k c v ?_ q) (λ_ q=>q) λ_ _ q=>q
  rcases hc with z | z
  ·rw [z];exact rh b u e
  ·exact rh c _ z
theorem Inv.track{T:Addr}{o:HO}(I:Inv X aa σ H s)(hT:Ei X aa H T)(new:Bo X.prog X.w (upd H T o) s.heap T o):Inv X aa σ (upd H T o) s:=by
 obtain⟨f0,f1,_,f3,f4,f5⟩:=hT
 have nT:∀b u,H b=some u->b≠T:=λb u e z=>by rw [z,f0]at e;cases e
 refine I.step (H':=upd H T o) (h':=s.heap) (g':=s.gens) (d':=s.drawn) (t':=s.toks) (ch:=[T]) (λb hb=>?_) (λb o _ _ _ e _=>e) (λb o _ _ _ e _=>⟨o.slots,e⟩)
  (λb u hc _ n=>by rw [Aw (λz=>hc (by simp [z]))];exact n) (λb o _ e=>⟨o,e⟩) (λb xs e=>by rw [Aw (nT b _ e)];exact e) (λb u v e=>by rw [Aw (nT b _ e)];exact e)
  (λb ps e=>⟨#[],by rw [Aw (nT b _ e),e];simp⟩) (λm hm=>hm) (λb u e=>?_) I.bare
 ·have e:b=T:=by simpa using hb
  subst e
  exact⟨f3,f1,f4,f5⟩
 ·by_cases hb:b=T
  ·subst hb
   rw [A9]at e
   cases e
   exact new
  ·rw [Aw hb]at e
   exact(I.hok b u e).stay (λ_ _ _ q=>q) (λc q=>by rw [Aw (nT c _ q)];exact q) λc xs q=>by rw [Aw (nT c _ q)];exact q
end
def Ien(K:PySem.W.Frag)(a:Addr):It :=
 ⟨λi H => ∃ xs x, Gi K H a xs /\ xs[i]? = some x,
  λi H v H' => ∃ T x, H T = none /\ v = .ref T /\ H' = upd H T (.tup [.int i, x]) /\ ∀ xs, Gi K H a xs -> xs[i]? = some x,
  λi H => ∃ xs, Gi K H a xs /\ xs.length = i⟩
theorem So{P:Program}{w:World}{K:PySem.W.Frag}{ck:List Expr}{k:Nat}{pos:Pos}(a e it:Addr)(ju:e≠it) :
  Turn P w K (.Tuple ck k pos) (Ien K a) [e,it] e (λi h=>(∃fz,IsEnum h e it i fz)/\h.IsTupleIter it a i) where
 mem:=by simp
 obj:=λi h st b hb=>by
  rcases Yat.mp hb with rfl | hb
  ·obtain⟨⟨fz,he⟩,_⟩:=st
   exact⟨_,he,λv z=>nomatch z⟩
  ·have q:b=it:=by simpa using hb
   subst q
   obtain⟨_,o,e,c,d⟩:=st
   exact⟨o,e,λv z=>by rw [d]at z;cases z⟩
 keep:=λi h h' st k=>⟨let⟨fz,he⟩:=st.1;⟨fz,k e (by simp) _ he⟩,st.2.at λo q=>k it (by simp) o q⟩
 item:=by
  intro X hP hw hK hc i aa s σ H E I hf st hg
  subst hP hw hK
  obtain⟨xs,x,hq,hx⟩:=hg
  obtain⟨af,rv,p,hz⟩:=I.tuple hq
  obtain⟨u,hu,ru⟩:=rv.get hx
  obtain⟨⟨fz,he⟩,bj⟩:=id st
  have om:a≠e:=by
   intro z;subst z
   obtain⟨o,ho,bo,_⟩:=p
   rw [he]at ho;cases ho
   exact absurd bo (by intro z;injection z with z;exact absurd z (by decide))
  have oo:a≠it:=by
   intro z;subst z
   obtain⟨o,ho,bo,_⟩:=p
   obtain⟨o',dh,hcl',_⟩:=bj
   rw [ho]at dh;cases dh
   rw [bo]at hcl'
   exact absurd hcl' (by intro z;injection z with z;exact absurd z (by decide))
  have W:=Yez (prog:=X.prog) (w:=X.w) (A:=X.A) (Db (A:=X.A.in1) (I.ok.hd hc) it a oo af.toArray) e ju (by simp [ju,Ne.symm om]) (by simp)
  refine W.item i s _ _ (by rw [Yan];exact(List.getElem?_eq_some_iff.mp hu).1) ⟨⟨fz,he⟩,bj,p⟩ λT im h' tk hv hT ht hm kk=>?_
  have apart:=W.apart i T h' hm
  refine⟨_,rfl,W.go ck k pos i T _ _ _ hm λm7 bq ig=>?_⟩
  obtain⟨t,x',hx',rfl⟩:=hv
  have qi:x'=u:=by
   have:af[i]?=some x':=by simpa using hx'
   rw [hu]at this;exact(Ya3 this).symm
  subst qi
  have I1:Inv X aa σ H { s with heap:=h',toks:=tk }:=I.turnedL kk hf
  have I2:Inv X aa σ H { s with heap:=m7,toks:=tk }:=I1.turnedL (s:={ s with heap:=h',toks:=tk }) (t':=tk) ig hf
  have fT:Ei X aa H T:=I.fpOk hT (I.hok.fresh hT)
  have kf:IsTup m7 T #[.int i t,x']:=let⟨o,ho,r⟩:=ht;⟨o,ig T o apart ho,r⟩
  refine⟨.ref T,upd H T (.tup [.int i,x]),I2.track fT ⟨by show 2<=sizeLine;decide,[.int i t,x'],.cons ⟨t,rfl⟩ (.cons ru .nil),kf⟩,rfl,⟨T,x,fT.1,rfl,rfl,λys hy=>by rw [I.tuple_inj hy hq];exact hx⟩,⟨bq.1,bq.2.1⟩,λb hb=>?_⟩
  have i4:b≠T:=by
   rcases Yat.mp hb with rfl | hb
   ·exact Yaj (Yam (Yae he) hT)
   ·have q:b=it:=by simpa using hb
    subst q
    obtain⟨o,ho,_⟩:=bj
    exact Yaj (Yam (Yae ho) hT)
  rw [Aw i4]
  exact(hf b hb).1
 done:=by
  intro X hP hw hK hc i aa s σ H E I hf st hg
  subst hP hw hK
  obtain⟨xs,hq,hl⟩:=hg
  obtain⟨af,rv,p,hz⟩:=I.tuple hq
  obtain⟨⟨fz,he⟩,bj⟩:=id st
  have om:a≠e:=by
   intro z;subst z
   obtain⟨o,ho,bo,_⟩:=p
   rw [he]at ho;cases ho
   exact absurd bo (by intro z;injection z with z;exact absurd z (by decide))
  have oo:a≠it:=by
   intro z;subst z
   obtain⟨o,ho,bo,_⟩:=p
   obtain⟨o',dh,hcl',_⟩:=bj
   rw [ho]at dh;cases dh
   rw [bo]at hcl'
   exact absurd hcl' (by intro z;injection z with z;exact absurd z (by decide))
  have W:=Yez (prog:=X.prog) (w:=X.w) (A:=X.A) (Db (A:=X.A.in1) (I.ok.hd hc) it a oo af.toArray) e ju (by simp [ju,Ne.symm om]) (by simp)
  have hn:af.toArray.size=i:=by rw [Yan,<- rv.length];exact hl
  subst hn
  exact W.done s _ _ ⟨⟨fz,he⟩,bj,p⟩ λh' tk kk=>⟨rfl,I.turnedL kk hf⟩
 self:=λA i s Q E st h=>let⟨⟨_,he⟩,_⟩:=st;Ye0 he h
section
variable {X:Cx}
theorem Qcz{J:It}{g:TG}{tb:TS}{D:Ends}{σ:St}{H:Hp}(n:Nat)(Pv:Nat->St->Hp->Prop)(h0:Pv 0 σ H)(x8:∀i σ H,i < n->Pv i σ H->J.go i H)(j8:∀ σ H,Pv n σ H->J.stop n H/\D.nx σ H)
  (hs:∀i x σ H H2,i < n->Pv i σ H->J.yld i H x H2->g x σ H2 fun σ2 H3=>tb { D with nx:=Pv (i+1),ct:=Pv (i+1),bk:=D.nx } σ2 H3) :
  ∃W:Nat->Nat->St->Hp->Prop,(∃m,W 0 m σ H)/\∀i m σ H,W i m σ H ->
   (J.stop i H/\D.nx σ H)\/(J.go i H/\∃N:St->Hp->Prop,(∀ σ' H',N σ' H'->∃m',m' < m/\W (i+1) m' σ' H')/\∀x H',J.yld i H x H'->g x σ H' fun σ2 H2=>tb { D with nx:=N,ct:=N,bk:=D.nx } σ2 H2):=by
 refine⟨λi m σ H=>m=n - i/\i<=n/\Pv i σ H,⟨n,by simp,Ya6 _,h0⟩,?_⟩
 rintro i m σ H ⟨rfl,hi,p⟩
 by_cases hlt:i < n
 ·exact .inr ⟨x8 i σ H hlt p,Pv (i+1),fun σ' H' p'=>⟨n - (i+1),by omega,rfl,hlt,p'⟩,λx H' y=>hs i x σ H H' hlt p y⟩
 ·have e:i=n:=by omega
  subst e
  exact .inl (j8 σ H p)
theorem Lx:Fq X (binaryOp .Mult) (λx y H Q=>∃z n,x=.str z/\y=.int n/\(n=0\/n=1)/\Q (.str (if n=0 then Str.empty else z)) H):=by
 intro aa s σ H x y v u Q I rx ry h
 obtain⟨z,n,rfl,rfl,hn,q⟩:=h
 obtain⟨t,rfl⟩:=rx
 obtain⟨t',rfl⟩:=ry
 rcases hn with rfl | rfl
 ·exact P.mul_str_none (by decide) (by decide) ⟨.str Str.empty,H,I.tok _,⟨_,rfl⟩,by simpa using q⟩
 ·refine P.mul_str (by decide) (λ_ z=>by simp at z) (λ_ z=>by simp at z) ?_
  rw [Yah (by decide),Yak (by simp)]
  exact⟨.str z,H,I,⟨_,rfl⟩,by simpa using q⟩
end
section
variable {X:Cx}
end
end L2
namespace HT
open PySem PySem.Spec PyProof.Rows
section
variable {prog:Program}{w:World}{A:Around}{E:Value->Shared->Prop}{s:Shared}
theorem getItem_tuple_all{t sl:Addr}{items:Array Value}{vl vu:Value}{lo hi:Option Int}{Q:Value->Shared->Prop}(ht:IsTup s.heap t items)(hs:s.heap.IsSliceOf sl vl vu .none)(pl:IsPart vl lo)(pu:IsPart vu hi)
  (hw:sIx items.size 0 lo=0/\sIx items.size items.size hi=items.size)
  (h:Q (.ref t) s):wpAny (model prog w) A (getItem (.ref t) (.ref sl)) Q E s:=by
 obtain⟨os,hos,hcs,hds⟩:=id hs
 have hTs:s.TypeIs (.ref sl) "slice" := ⟨os,hos,hcs⟩
 unfold getItem
 try with_reducible refine Ya4 ?_
 first | refine Yaa (Yab ?_) | skip
 refine Yaa (wpAny_sequenceKey ht.typeIs (by decide) ?_)
 refine Yaa (wpAny_callSpecial?_slot (name:=Str.ofString "__getitem__") ht.typeIs Ybv
  (Ybb Ybv ht.typeIs entry_tuple_getitem ?_ (args_tuple_getitem _ _)))
 show wpAny _ _ (Builtin.Tuple.tupleItemsOf (.ref t) >>= _) _ _ s
 refine Yaa (tupleItemsOf_ ht ?_)
 refine Yaa (Ydw hTs ?_)
 rw [Yak (by decide)]
 refine Yaa (Dv hs pl pu ?_)
 have zp:(((sIx items.size 0 lo:Nat):Int)==0 && (1:Int)==1 && (sIx items.size items.size hi - sIx items.size 0 lo)==items.size)=true:=by
  rw [hw.1,hw.2];simp
 show wpAny _ _ (if(((sIx items.size 0 lo:Nat):Int)==0 && (1:Int)==1 && (sIx items.size items.size hi - sIx items.size 0 lo)==items.size)=true then _ else _) _ _ s
 rw [Yak zp]
 unfold Builtin.Tuple.tupleIsExact
 refine Yaa (Yaa (Ydw ht.typeIs (Yab ?_)))
 rw [Yak (by decide)]
 refine Yaa (Yb8 ?_)
 first
  | exact Yab ⟨_,rfl,Yab h⟩
  | exact Yaa (Yab (Yab ⟨_,rfl,Yab h⟩))
  | exact Yaa (Yab ⟨_,rfl,Yab h⟩)
end
end HT
namespace L2
open PySem PySem.Spec PyProof.Rows
section
variable {X:Cx}
theorem Vb{ds:List PyData}{lo hi:Option Int}(h:HT.sIx ds.length 0 lo=0/\HT.sIx ds.length ds.length hi=ds.length):Dj ds lo hi=ds:=by
 unfold Dj
 rw [h.1,h.2,List.drop_zero,Nat.sub_zero,Yb6 (Yaf _)]
end
section
variable {X:Cx}
def Iel(K:PySem.W.Frag)(a:Addr):It :=
 ⟨λi H => ∃ xs x, Du K H a xs /\ xs[i]? = some x,
  λi H v H' => ∃ T x, H T = none /\ v = .ref T /\ H' = upd H T (.tup [.int i, x]) /\ ∀ xs, Du K H a xs -> xs[i]? = some x,
  λi H => ∃ xs, Du K H a xs /\ xs.length = i⟩
theorem O2{P:Program}{w:World}{K:PySem.W.Frag}{ck:List Expr}{k:Nat}{pos:Pos}(a e it:Addr)(ju:e≠it) :
  Turn P w K (.Tuple ck k pos) (Iel K a) [e,it] e (λi h=>(∃fz,IsEnum h e it i fz)/\h.IsListIter it a i) where
 mem:=by simp
 obj:=λi h st b hb=>by
  rcases Yat.mp hb with rfl | hb
  ·obtain⟨⟨fz,he⟩,_⟩:=st
   exact⟨_,he,λv z=>nomatch z⟩
  ·have q:b=it:=by simpa using hb
   subst q
   obtain⟨_,o,e,c,d⟩:=st
   exact⟨o,e,λv z=>by rw [d]at z;cases z⟩
 keep:=λi h h' st k=>⟨let⟨fz,he⟩:=st.1;⟨fz,k e (by simp) _ he⟩,st.2.at λo q=>k it (by simp) o q⟩
 item:=by
  intro X hP hw hK hc i aa s σ H E I hf st hg
  subst hP hw hK
  obtain⟨xs,x,hq,hx⟩:=hg
  obtain⟨af,rv,p,hz⟩:=I.list hq
  obtain⟨u,hu,ru⟩:=rv.get hx
  obtain⟨⟨fz,he⟩,bj⟩:=id st
  have om:a≠e:=by
   intro z;subst z
   obtain⟨o,ho,bo,_⟩:=p.isList
   rw [he]at ho;cases ho
   exact absurd bo (by intro z;injection z with z;exact absurd z (by decide))
  have oo:a≠it:=by
   intro z;subst z
   obtain⟨o,ho,bo,_⟩:=p.isList
   obtain⟨o',dh,hcl',_⟩:=bj
   rw [ho]at dh;cases dh
   rw [bo]at hcl'
   exact absurd hcl' (by intro z;injection z with z;exact absurd z (by decide))
  have W:=Yez (prog:=X.prog) (w:=X.w) (A:=X.A) (Draws.list (A:=X.A.in1) (I.ok.hd hc) it a oo af.toArray) e ju (by simp [ju,Ne.symm om]) (by simp)
  refine W.item i s _ _ (by rw [Yan];exact(List.getElem?_eq_some_iff.mp hu).1) ⟨⟨fz,he⟩,bj,p.isList⟩ λT im h' tk hv hT ht hm kk=>?_
  have apart:=W.apart i T h' hm
  refine⟨_,rfl,W.go ck k pos i T _ _ _ hm λm7 bq ig=>?_⟩
  obtain⟨t,x',hx',rfl⟩:=hv
  have qi:x'=u:=by
   have:af[i]?=some x':=by simpa using hx'
   rw [hu]at this;exact(Ya3 this).symm
  subst qi
  have I1:Inv X aa σ H { s with heap:=h',toks:=tk }:=I.turnedL kk hf
  have I2:Inv X aa σ H { s with heap:=m7,toks:=tk }:=I1.turnedL (s:={ s with heap:=h',toks:=tk }) (t':=tk) ig hf
  have fT:Ei X aa H T:=I.fpOk hT (I.hok.fresh hT)
  have kf:IsTup m7 T #[.int i t,x']:=let⟨o,ho,r⟩:=ht;⟨o,ig T o apart ho,r⟩
  refine⟨.ref T,upd H T (.tup [.int i,x]),I2.track fT ⟨by show 2<=sizeLine;decide,[.int i t,x'],.cons ⟨t,rfl⟩ (.cons ru .nil),kf⟩,rfl,⟨T,x,fT.1,rfl,rfl,λys hy=>by rw [I.list_inj hy hq];exact hx⟩,⟨bq.1,bq.2.1⟩,λb hb=>?_⟩
  have i4:b≠T:=by
   rcases Yat.mp hb with rfl | hb
   ·exact Yaj (Yam (Yae he) hT)
   ·have q:b=it:=by simpa using hb
    subst q
    obtain⟨o,ho,_⟩:=bj
    exact Yaj (Yam (Yae ho) hT)
  rw [Aw i4]
  exact(hf b hb).1
 done:=by
  intro X hP hw hK hc i aa s σ H E I hf st hg
  subst hP hw hK
  obtain⟨xs,hq,hl⟩:=hg
  obtain⟨af,rv,p,hz⟩:=I.list hq
  obtain⟨⟨fz,he⟩,bj⟩:=id st
  have om:a≠e:=by
   intro z;subst z
   obtain⟨o,ho,bo,_⟩:=p.isList
   rw [he]at ho;cases ho
   exact absurd bo (by intro z;injection z with z;exact absurd z (by decide))
  have oo:a≠it:=by
   intro z;subst z
   obtain⟨o,ho,bo,_⟩:=p.isList
   obtain⟨o',dh,hcl',_⟩:=bj
   rw [ho]at dh;cases dh
   rw [bo]at hcl'
   exact absurd hcl' (by intro z;injection z with z;exact absurd z (by decide))
  have W:=Yez (prog:=X.prog) (w:=X.w) (A:=X.A) (Draws.list (A:=X.A.in1) (I.ok.hd hc) it a oo af.toArray) e ju (by simp [ju,Ne.symm om]) (by simp)
  have hn:af.toArray.size=i:=by rw [Yan,<- rv.length];exact hl
  subst hn
  exact W.done s _ _ ⟨⟨fz,he⟩,bj,p.isList⟩ λh' tk kk=>⟨rfl,I.turnedL kk hf⟩
 self:=λA i s Q E st h=>let⟨⟨_,he⟩,_⟩:=st;Ye0 he h
end
end L2
namespace PySem
open Sem (wp)
open AutoSeq1 (wpAny_loadPart')
set_option maxRecDepth 100000
section
variable {prog:Program}{w:World}{K:Type} [DecidableEq K]
end
end PySem
namespace L2
open PySem PySem.Spec PyProof.Rows
section
variable {X:Cx}
end
section
variable {X:Cx}{K:PySem.W.Frag}
variable {o e:Expr}{es:List Expr}{to:TE}{t:TA}{name:Str}{cr ax:Pos}{T id:String}{r:V->List V->Hp->VK->Prop}
theorem Sq:MtR X "str.join" (λx xs H Q=>∃z p ys,x=.str z/\xs=[.ref p]/\H p=some (.lst (ys.map V.str))/\(ys.map (·.length)).sum+ys.length * z.length<=16777216/\Q (.str (Txt.join z ys)) H):=by
 intro aa s σ H x xs v us Q I rx r h
 obtain⟨z,p,ys,e1,e2,hp,hz,q⟩:=h
 exact Yv aa s σ H x xs v us Q I rx r ⟨z,p,ys,e1,e2,Du.of hp,hz,q⟩
end
def Cal(P:Program)(w:World)(K:PySem.W.Frag)(mg:Str->Option Value)(base:Heap)(n:Nat)(x:Str)(ps:List Str)(sp:Sp):Prop :=
 ∃g gd,FnOk P w K mg base Fb n g gd ps sp/\Binds K gd ps []/\PySem.W.keepIn K (.ref g)=true/\mg x=some (.ref g)
theorem Cal.mono{P:Program}{w:World}{K:PySem.W.Frag}{mg:Str->Option Value}{base:Heap}{n m:Nat}{x:Str}{ps:List Str}{sp:Sp}(c:Cal P w K mg base n x ps sp)(h:n<=m):Cal P w K mg base m x ps sp :=
 let⟨g,gd,G,r⟩:=c;⟨g,gd,G.mono h,r⟩
end L2
namespace L2
open PySem PySem.Spec PySem.Calls PyProof.Rows
section
variable {prog:Program}{w:World}{A:Around}{E:Value->Shared->Prop}{s:Shared}{K:PySem.W.Frag}{x C:Addr}{ox:Obj}{od:Option Obj}{name:Str}
theorem M6{tk:Tok}{R:Result->Shared->Prop}(X:K.In s.heap)(I:PySem.W.InstAt s.heap x ox C od)(hm:PySem.W.mroIn K C (.type "BaseException")=some true)
  (h:wpAny (model prog w) A.in1 (Builtin.«object.__getattribute__» ⟨[.ref x,.str name tk],[]⟩)
   (λfin s'=>match fin with | .done f=>R (.ok f) s' | .again c'=>c'.quiet=true/\codeAny (model prog w) A c' R s') (λe s'=>R (.error e) s') s) :
  codeAny (model prog w) A (.call (.builtin "BaseException.__getattribute__") ⟨[.ref x,.str name tk],[]⟩) R s:=by
 have hk:builtinKind "BaseException.__getattribute__" = some .slot:=by decide +kernel
 have hs:splitId "BaseException.__getattribute__" = some ("BaseException","__getattribute__"):=by decide +kernel
 have sub:PySem.W.Looks (model prog w) s.heap (isInstance (.ref x) (.type "BaseException")) true:=I.type.andThen (Ydp X hm)
 exact Yff F.excAttr_ValueError.ga.plain F.entry_bexc_ga (@PySem.W.check_slot (model prog w) _ _ s "BaseException.__getattribute__" "BaseException" "__getattribute__" (.ref x) [.str name tk] [] _ hk hs sub (F.args_bexc_ga _ _) h)
theorem Sr{tk:Tok}{v:Value}{R:Result->Shared->Prop}(X:K.In s.heap)(I:PySem.W.InstAt s.heap x ox C od)(hm:PySem.W.mroIn K C (.type "BaseException")=some true)
  (hf:PySem.W.findObj K C od name=some (.value v)) (h:R (.ok (.ret v)) s) :
  codeAny (model prog w) A (.call (.builtin "BaseException.__getattribute__") ⟨[.ref x,.str name tk],[]⟩) R s:=by
 refine M6 X I hm ?_
 obtain⟨hh,g,d,t,os⟩:=s
 have L0:=I.type (M:=model prog w)
 have L1:=PySem.W.looks_find (M:=model prog w) X I hf
 refine Yaa (Yab (Yaa (Yab (Yaa (L0.at (Yaa (L1.at ?_)))))))
 exact Yab h
theorem Vc{tk:Tok}{g a:Value}{R:Result->Shared->Prop}(X:K.In s.heap)(I:PySem.W.InstAt s.heap x ox C od)(hm:PySem.W.mroIn K C (.type "BaseException")=some true)
  (hf:PySem.W.findObj K C od name=some (.bind g a)) (h:wpAny (model prog w) A.in1 (call g [a,.ref x,.ref C]) (λv s'=>R (.ok (.ret v)) s') (λe s'=>R (.error e) s') s) :
  codeAny (model prog w) A (.call (.builtin "BaseException.__getattribute__") ⟨[.ref x,.str name tk],[]⟩) R s:=by
 refine M6 X I hm ?_
 obtain⟨hh,gg,d,t,os⟩:=s
 have L0:=I.type (M:=model prog w)
 have L1:=PySem.W.looks_find (M:=model prog w) X I hf
 refine Yaa (Yab (Yaa (Yab (Yaa (L0.at (Yaa (L1.at ?_)))))))
 show wpAny _ _ (holding [a] (call g [a,.ref x,.ref C]) >>= ret) _ _ _
 exact Yaa (Ya4 (Ybk h (λv s' z=>Yab z) λ_ _ z=>z))
theorem Qs{tk:Tok}{fill km:Bool}{Q:Value->Shared->Prop}(X:K.In s.heap)(I:PySem.W.InstAt s.heap x ox C od)
  (yx:PySem.W.findIn K (.ref C) "__getattribute__" = some (some (.builtin "BaseException.__getattribute__"))) (yy:PySem.W.findIn K (.ref C) "__getattr__" = some none)
  (h:codeAny (model prog w) A (.call (.builtin "BaseException.__getattribute__") ⟨[.ref x,.str name tk],[]⟩) (λr s'=>match r with | .ok (.ret v)=>wpAny (model prog w) A (handedOut v) Q E s' | _=>False) s) :
  wpAny (model prog w) A (getAttrBy (.ref x) (.str name tk) fill km) Q E s:=by
 obtain⟨hh,g,d,t,os⟩:=s
 have L0:=I.type (M:=model prog w)
 have L1:=Yd1 (M:=model prog w) X yx
 have L2:=Yd1 (M:=model prog w) X yy
 have f3:=F.excAttr_ValueError.ga.bind (.ref x)
 have jz:(Value.builtin "BaseException.__getattribute__" == Value.builtin "object.__getattribute__")=false:=by decide +kernel
 unfold getAttrBy
 refine Ya4 (Yaa (L0.at (Yaa (L1.at ?_))))
 show wpAny _ _ (if(onTheHeap (Value.ref C) && Value.builtin "BaseException.__getattribute__" == Value.builtin "object.__getattribute__")=true then _ else _) _ _ _
 rw [jz,Bool.and_false,Yah Yad]
 unfold getAttrByItsOwn
 refine Yaa (L2.at (Yaa (Ycv (Ya4 ?_))))
 unfold callGetattribute boundAndCalled
 rw [show(km && onTheHeap (Value.builtin "BaseException.__getattribute__"))=false by cases km <;> rfl,Yah Yad,f3]
 refine Yaa (Yab (Yfn (Yec h λr s' z=>?_)))
 rcases r with e | (v | _ | _ | _) <;> first | exact z | exact z.elim
theorem O3{km:Bool}{v:Value}{Q:Value->Shared->Prop}(X:K.In s.heap)(I:PySem.W.InstAt s.heap x ox C od)(hm:PySem.W.mroIn K C (.type "BaseException")=some true)
  (yx:PySem.W.findIn K (.ref C) "__getattribute__" = some (some (.builtin "BaseException.__getattribute__"))) (yy:PySem.W.findIn K (.ref C) "__getattr__" = some none)
  (hf:PySem.W.findObj K C od name=some (.value v)) (hh:PySem.W.handedIn v=true) (h:Q v { s with toks:=s.toks+1 }):wpAny (model prog w) A (getAttr (.ref x) name km) Q E s:=by
 unfold getAttr
 refine Yaa (wpAny_mkText ?_)
 exact Qs (s:={ s with toks:=s.toks+1 }) X I yx yy (Sr (s:={ s with toks:=s.toks+1 }) X I hm hf (PySem.W.handed_on hh h))
end
abbrev bmV:List Value:=[.type "ValueError",.type "Exception",.type "BaseException",.type "object"]
def Qf8(K:PySem.W.Frag)(C:Addr)(cd:ClassData)(sl:Array (Option Value)):Bool:=cd.mro.head?==some (.ref C) && !cd.hasDel && PySem.W.tailIn K bmV cd.mro.tail && sl.size==6 && sl[4]?==some (some (.builtin "ValueError.__new__"))
def Fg(K:PySem.W.Frag)(C:Addr):Bool:=match K.lookup C with
 | some o=>o.cls==.type "type" && (match o.data with
  | .cls cd=>Qf8 K C cd o.slots
  | _=>false)
 | none=>false
theorem Qc0{sl:Array (Option Value)}{v:Option Value}(h:sl.size=6)(e:sl[4]?=some v):∃k0 k1 k2 k3 k5,sl=#[k0,k1,k2,k3,v,k5]:=by
 obtain⟨l⟩:=sl
 match l,h with
 | [k0,k1,k2,k3,k4,k5],_ =>
  have:k4=v:=by simpa using e
  subst this
  exact⟨k0,k1,k2,k3,k5,rfl⟩
theorem Qt{K:PySem.W.Frag}{h:Heap}{C:Addr}(X:K.In h)(q:Fg K C=true):∃nm qn N bs bm kv sn sub ab nz dd k0 k1 k2 k3 k5,
  h.get? C=some (excClassObj nm qn C N bs bm kv sn sub ab nz dd k0 k1 k2 k3 k5 "ValueError.__new__")/\OwnTail h bmV bm:=by
 unfold Fg at q
 cases ho:K.lookup C with
 | none=>rw [ho]at q;cases q
 | some o =>
  rw [ho]at q
  obtain⟨oc,dd,od,sl⟩:=o
  dsimp only at q
  rw [Ybm,beq_iff_eq]at q
  obtain⟨q0,q⟩:=q
  cases od with
  | cls cd =>
   unfold Qf8 at q
   simp only [Bool.and_eq_true,beq_iff_eq,Bool.not_eq_true']at q
   obtain⟨⟨⟨⟨q1,q2⟩,q3⟩,q4⟩,q5⟩:=q
   obtain⟨k0,k1,k2,k3,k5,rfl⟩:=Qc0 q4 q5
   obtain⟨nm,bs,mro,ns,qn,hd,sn,sub,ab,nz,del⟩:=cd
   dsimp only at q1 q2 q3
   subst q0 q2
   cases mro with
   | nil=>cases q1
   | cons m bm =>
    cases q1
    exact⟨nm,qn,ns,bs,bm,hd,sn,sub,ab,nz,dd,k0,k1,k2,k3,k5,X _ _ ho,PySem.W.tail_of_in X q3⟩
  | _=>cases q
def Dd(C t:Addr)(d:Option Addr):Obj:={ cls:=.ref C,dict:=d,data:=.fields #[.ref t,.none,.none,.none,.bool false,.none] }
def Cu(h:Heap)(C:Addr)(rest:List Value):Heap:=(h.push { cls:=.type "tuple",data:=.seq rest.toArray }).push (Dd C h.objs.size none)
section
variable {prog:Program}{w:World}{A:Around}{E:Value->Shared->Prop}{h:Heap}{g:Array GenState}{d:Drawn}{t:Nat}{os:OsState}{K:PySem.W.Frag}{C:Addr}
theorem O4{rest:List Value}{fI:Addr}{Q:Fin->Shared->Prop}(X:K.In h)(q:Fg K C=true)(hi:PySem.W.findIn K (.ref C) "__init__" = some (some (.ref fI))) (hf:PySem.W.typeIn K (.ref fI)=some (.type "function"))
  (hq:wpAny (model prog w) A (call (.ref fI) (.ref (h.objs.size+1) :: rest)) (λr s'=>r=.none/\Q (.done (.ret (.ref (h.objs.size+1)))) s') E ⟨Cu h C rest,g,d,t,os⟩) (gf:rest.length<=sizeLine) :
  wpAny (model prog w) A (Builtin.«type.__call__» ⟨.ref C :: rest,[]⟩) Q E ⟨h,g,d,t,os⟩:=by
 obtain⟨nm,qn,N,bs,bm,kv,sn,sub,ab,nz,dd,k0,k1,k2,k3,k5,hC,T⟩:=Qt X q
 have Fn:=F.excBase_ValueError
 repeat (first | with_reducible refine wpAny_loadPart_at hC ?_ | with_reducible refine wpAny_madeBy_exc hC ?_ | wp_step)
 refine codeAny_call_builtin_code (Code.quiet_builtin _ Fn.quiet) (wpAny_check_new_subU (bmB:=bmV) Fn (by decide +kernel) T hC ?_)
 refine codeAny_exc_new_subU (bmB:=bmV) Fn (by decide +kernel) Fn T hC ?_ gf
 show wpAny _ _ _ _ _ ⟨Cu h C rest,g,d,t,os⟩
 have kk:∀b o,h.get? b=some o->(Cu h C rest).get? b=some o:=λb o e=>Heap.get?_push_of_some _ (Heap.get?_push_of_some _ e)
 have hC₁:=kk _ _ hC
 have ii:(Cu h C rest).get? (h.objs.size+1)=some (Dd C h.objs.size none):=by
  unfold Cu
  exact Heap.get?_push_at (by simp only [Heap.size_push]) rfl
 have hcC:(Value.ref C :: bm).contains (.ref C)=true:=by simp
 have X₁:K.In (Cu h C rest):=λb o e=>kk b o (X b o e)
 have L1:=Yd1 (M:=model prog w) X₁ hi
 have L2:=PySem.W.bind_fn (M:=model prog w) X₁ (.ref (h.objs.size+1)) hf
 generalize Cu h C rest=h₁ at hC₁ ii L1 L2 hq ⊢
 unfold isInstance
 have bo:(Dd C h.objs.size none).cls=.ref C:=rfl
 repeat (first | (with_reducible refine wpAny_loadPart_at ii ?_;rw [bo]) | (with_reducible refine wpAny_isSubtype_exc hC₁ ?_;rw [hcC]) | wp_step)
 show wpAny _ _ (typeLookup (.ref C) _) _ _ _
 refine L1.at ?_
 refine Ya4 (Yaa (L2.at ?_))
 refine Yaa (Ybk hq (λr s' hr=>?_) λ_ _ x=>x)
 obtain⟨rfl,hQ⟩:=hr
 wp_walk
 exact hQ
theorem xmake{rest:List Value}{fI:Addr}{Q:Value->Shared->Prop}(X:K.In h)(q:Fg K C=true)(hi:PySem.W.findIn K (.ref C) "__init__" = some (some (.ref fI))) (hf:PySem.W.typeIn K (.ref fI)=some (.type "function"))
  (hq:wpAny (model prog w) (A.under (.builtin "type.__call__" ⟨.ref C :: rest,[]⟩)) (call (.ref fI) (.ref (h.objs.size+1) :: rest)) (λr s'=>r=.none/\Q (.ref (h.objs.size+1)) s') E ⟨Cu h C rest,g,d,t,os⟩) (gf:rest.length<=sizeLine) :
  wpAny (model prog w) A (call (.ref C) rest) Q E ⟨h,g,d,t,os⟩:=by
 obtain⟨nm,qn,N,bs,bm,kv,sn,sub,ab,nz,dd,k0,k1,k2,k3,k5,hC,T⟩:=Qt X q
 have f1:=tc_lookup
 have f2:=tc_bind (.ref C)
 have hT:(⟨h,g,d,t,os⟩:Shared).TypeIs (.ref C) "type" := ⟨_,hC,rfl⟩
 refine Yfn (codeAny_of_tree ?_)
 show wpAny _ _ (callAny (.ref C) _) _ _ _
 repeat (any_goals (first | assumption | with_reducible refine wpAny_loadPart_at hC ?_ | wp_step))
 refine⟨rfl,?_⟩
 exact codeAny_call_builtin_at (Code.quiet_builtin _ (by decide +kernel)) entry_typeCall (wpAny_check_type_call_sub hC (O4 X q hi hf hq gf))
end
def Qf9:Value->Bool
 | .ref _=>true
 | _=>false
theorem G6(self:Value)(oh:Str):∀l:List Value,refuseLoop self oh l=refuseLoop self oh (l.dropWhile Qf9)
 | []=>rfl
 | v :: r=>by
  cases v with
  | ref c =>
   rw [refuseLoop_ref,G6 self oh r]
   rfl
  | _=>rfl
def O5(K:PySem.W.Frag)(C:Addr):Bool:=(PySem.W.clsIn K C).any λcd=>cd.mro.dropWhile Qf9==bmV && !cd.mro.isEmpty && cd.mro.contains (.type "object")
section
open Builtin Builtin.ObjectAttr
variable {prog:Program}{w:World}{A:Around}{E:Value->Shared->Prop}{s:Shared}{K:PySem.W.Frag}{x C:Addr}{ox:Obj}{od:Option Obj}{name:Str}{v:Value}{R:Result->Shared->Prop}
theorem Ss{tk:Tok}(X:K.In s.heap)(I:PySem.W.InstAt s.heap x ox C od)(hp:O5 K C=true)(ha:PySem.W.findIn K (.ref C) name=some none)
  (h:wpAny (model prog w) A.in1 (storeInOwnDict (.ref x) (.ref C) (.str name tk) name v false)
   (λfin s'=>match fin with | .done f=>R (.ok f) s' | .again c'=>c'.quiet=true/\codeAny (model prog w) A c' R s') (λe s'=>R (.error e) s') s) :
  codeAny (model prog w) A (.call (.builtin "object.__setattr__") ⟨[.ref x,.str name tk,v],[]⟩) R s:=by
 have SF:=PySem.F.store_object
 obtain⟨cd,hc,ho⟩:=Yd5 hp
 simp only [Bool.and_eq_true,beq_iff_eq,Bool.not_eq_true']at ho
 obtain⟨⟨h1,ne⟩,h3⟩:=ho
 have sub:PySem.W.Looks (model prog w) s.heap (isInstance (.ref x) (.type "object")) true:=I.type.andThen (Ydp X (by unfold PySem.W.mroIn;rw [hc,Yd6,Yah (by rw [ne];decide),h3]))
 refine Yff SF.slot.plain SF.entry (@PySem.W.check_slot (model prog w) _ _ s "object.__setattr__" "object" "__setattr__" (.ref x) [.str name tk,v] [] _ SF.kind SF.split sub (SF.args (.ref x) (.str name tk) v) ?_)
 have hm:PySem.W.Looks (model prog w) s.heap (mroOf (.ref C)) cd.mro:=(PySem.W.looks_clsIn X hc).andThen .now
 rw [PySem.W.osa_eq,refuse_eq]
 refine Yaa (Yaa (I.type.here (Yaa (hm.here ?_))))
 rw [G6,h1,F.store_ValueError.passes]
 refine Yab (Yaa (I.type.here (Yaa ((Yd1 X ha).here (Yaa (Yab ?_))))))
 exact h
end
end L2
namespace L2
open PySem PySem.Spec PySem.Calls PyProof.Rows
def XO(e C t:Addr)(d:Option Addr):HO:=.ext λh=>h.get? e=some (Dd C t d)
def XD(dx:Addr)(fs:List (Str×V)):HO:=.ext λh=>∃mA,h.Ns1 dx mA/\(∀f,Ju (fs.lookup f) (mA f))/\PySem.Within mA (fs.map (·.1))
section
variable {P:Program}{w:World}{H:Hp}{h:Heap}{e C t dx:Addr}{d:Option Addr}{fs:List (Str×V)}
theorem Qax(hx:h.get? e=some (Dd C t d)):Bo P w H h e (XO e C t d):=⟨hx,⟨_,hx⟩,λ_ _ p k=>k _ p⟩
theorem Vd(ok:HOk P w H h)(q:H e=some (XO e C t d)):h.get? e=some (Dd C t d):=(show Bo P w H h e (XO e C t d) from ok e _ q).1
theorem Ve{mA:Str->Option Value}(n:h.Ns1 dx mA)(r:∀f,Ju (fs.lookup f) (mA f))(wi:PySem.Within mA (fs.map (·.1))):Bo P w H h dx (XD dx fs) :=
 ⟨⟨mA,n,r,wi⟩,(let⟨o,_,_,q,_⟩:=n;⟨o,q⟩),λ_ _ ⟨mB,n,r⟩ k=>⟨mB,n.at k,r⟩⟩
theorem Qc1(ok:HOk P w H h)(q:H dx=some (XD dx fs)):∃mA,h.Ns1 dx mA/\(∀f,Ju (fs.lookup f) (mA f))/\PySem.Within mA (fs.map (·.1)):=(show Bo P w H h dx (XD dx fs) from ok dx _ q).1
theorem Yw(hx:h.get? e=some (Dd C t none)):PySem.W.InstAt h e (Dd C t none) C none:=⟨hx,rfl,rfl,trivial⟩
end
structure XCls(K:PySem.W.Frag)(C:Addr):Prop where
 ga:PySem.W.findIn K (.ref C) "__getattribute__" = some (some (.builtin "BaseException.__getattribute__"))
 gn:PySem.W.findIn K (.ref C) "__getattr__" = some none
 sa:PySem.W.findIn K (.ref C) "__setattr__" = some (some (.builtin "object.__setattr__"))
 hd:PySem.W.hasDictIn K C=true
 mb:PySem.W.mroIn K C (.type "BaseException")=some true
 mo:PySem.W.mroIn K C (.type "object")=some true
 ve:O5 K C=true
section
variable {X:Cx}{aa:List (Addr×Obj)}{σ:St}{H:Hp}{s:Shared}{e C t dx:Addr}{fs:List (Str×V)}{f:Str}{v:V}{A:Around}{E:Value->Shared->Prop}
theorem Qjs{H:Hp}{a b:Addr}{o1 o2 o3:HO}:upd (upd (upd H a o1) b o2) a o3=upd (upd H b o2) a o3:=by
 funext c
 unfold upd
 by_cases h:c=a
 ·rw [Yak h,Yak h]
 ·rw [Yah h,Yah h,Yah h]
theorem Qga{y:V}{u:Value}{Q:Unit->Shared->Prop}(I:Inv X aa σ H s)(he:H e=some (XO e C t none))(c:XCls X.K C)(n:Gk X.K C f)(ry:Bj y u)
  (h:∀dx s',H dx=none->dx≠e->Inv X aa σ (upd (upd H e (XO e C t (some dx))) dx (XD dx [(f,y)])) s'->Q () s'):wpAny (model X.prog X.w) A (setAttr (.ref e) f u) Q E s:=by
 have hx:=Vd I.hok he
 have J:=Yw hx
 refine PySem.W.set_plain I.kIn J c.sa (Ss (s:={ s with toks:=s.toks+1 }) I.kIn J c.ve n ?_)
 obtain⟨cd,hc,jv⟩:=Yd5 c.hd
 have hx':s.heap.get? e=some ⟨.ref C,none,.fields #[.ref t,.none,.none,.none,.bool false,.none],#[]⟩:=hx
 refine Yaa (Yab (Yaa (Yaa (wpAny_loadPart hx' (Yaa (PySem.W.Looks.here (s:={ s with toks:=s.toks+1 }) (PySem.W.looks_clsIn I.kIn hc) ?_))))))
 rw [jv]
 have n9:(s.heap.push { cls:=.type "dict",data:=.dict #[] }).get? e=some (Dd C t none):=Heap.get?_push_of_some _ hx
 have j9:e≠s.heap.objs.size:=Yaj (Yae hx)
 show wpAny _ _ (if(!true || !typeHasDict (Value.ref C))=true then _ else _) _ _ _
 rw [Yah (by simp [typeHasDict])]
 refine Yaa (wpAny_alloc' ?_)
 refine Yaa (wpAny_update' n9 ?_)
 refine Yab ?_
 have jz:((s.heap.push { cls:=.type "dict",data:=.dict #[] }).update e λo=>{ cls:=o.cls,dict:=some s.heap.objs.size,data:=o.data,slots:=o.slots }).get? e=some (Dd C t (some s.heap.objs.size)):=Heap.get?_update_self _ n9 rfl
 have hgd:((s.heap.push { cls:=.type "dict",data:=.dict #[] }).update e λo=>{ cls:=o.cls,dict:=some s.heap.objs.size,data:=o.data,slots:=o.slots }).get? s.heap.objs.size
   = some { cls:=.type "dict",data:=.dict #[] }:=(Heap.get?_update_ne _ _ _ _ j9.symm).trans (Heap.get?_push_at rfl rfl)
 have lj:((s.heap.push { cls:=.type "dict",data:=.dict #[] }).update e λo=>{ cls:=o.cls,dict:=some s.heap.objs.size,data:=o.data,slots:=o.slots }).Ns s.heap.objs.size (λ_=>none) :=
  ⟨_,#[],_,hgd,rfl,λe he=>absurd he (by simp),λ_=>rfl⟩
 have cz:∀b o,b≠e->(s.heap.push { cls:=.type "dict",data:=.dict #[] }).get? b=some o->((s.heap.push { cls:=.type "dict",data:=.dict #[] }).update e λo=>{ cls:=o.cls,dict:=some s.heap.objs.size,data:=o.data,slots:=o.slots }).get? b=some o :=
  λb o hb q=>(Heap.get?_update_ne _ _ _ _ hb).trans q
 have i5:(s.heap.push { cls:=.type "dict",data:=.dict #[] }).Ns s.heap.objs.size (λ_=>none):=⟨_,#[],_,Heap.get?_push_at rfl rfl,rfl,λe he=>absurd he (by simp),λ_=>rfl⟩
 have fr:=I.hok.fresh (Yaf s.heap.objs.size)
 have I1:=I.laid (a:=s.heap.objs.size) (o:=XD s.heap.objs.size []) (h':=s.heap.push { cls:=.type "dict",data:=.dict #[] }) (t':=s.toks) (λb u q=>Heap.get?_push_of_some _ q) (Yaf _) (Ve (Heap.Ns1.of_empty i5) (λ_=>True.intro) λy hy=>absurd rfl hy)
 generalize wj:(s.heap.push { cls:=.type "dict",data:=.dict #[] }).update e (λo=>{ cls:=o.cls,dict:=some s.heap.objs.size,data:=o.data,slots:=o.slots })=h2 at jz hgd lj cz ⊢
 have I2:=I1.write (x:=e) (e:=e) (o:=XO e C t (some s.heap.objs.size)) (h':=h2) (t':=s.toks) (by rw [Aw j9,he];exact True.intro) (.inl rfl) cz ⟨_,jz⟩ (Qax jz)
 show wpAny _ _ (Builtin.ObjectAttr.storeInDict s.heap.objs.size (.str f s.toks) f u) _ _ _
 unfold Builtin.ObjectAttr.storeInDict Builtin.ObjectAttr.newKeyGuard
 refine Yaa (Yab (Yaa (wpAny_nsSet1 (Heap.Ns1.of_empty lj) λh' kh hs=>?_)))
 obtain⟨oD,esD,epD,hoD,hdD,hcD⟩:=kh.count (PySem.Within.cons f u PySem.Within.nil)
 refine Yaa (wpAny_lookBehind hoD (by rw [hdD];exact pastItsLine_dict (Yas hcD (by rw [Ybp,List.length_nil,sizeLine_eq];omega))) ?_)
 refine Yab ?_
 refine h s.heap.objs.size _ fr j9.symm ?_
 rw [<- Qjs (o1:=XD s.heap.objs.size [])]
 refine I2.write (x:=s.heap.objs.size) (e:=s.heap.objs.size) (by rw [Aw j9.symm,A9];exact True.intro) (.inl rfl) (λb o hb q=>(hs.2 b hb).trans q) ⟨_,hoD⟩ (Ve kh (λg=>?_) λg hg=>?_)
 ·show Ju (List.lookup g [(f,y)]) (if g=f then some u else none)
  by_cases q:g=f
  ·rw [Yak q,q]
   show Ju (List.lookup f [(f,y)]) (some u)
   have hb:(f==f)=true:=beq_iff_eq.mpr rfl
   simp only [List.lookup,hb]
   exact ry
  ·rw [Yah q]
   have hb:(g==f)=false:=beq_eq_false_iff_ne.mpr q
   simp only [List.lookup,hb]
   exact True.intro
 ·by_cases q:g=f
  ·rw [q];exact Yaz
  ·exact absurd (show(if g=f then some u else none)=none by rw [Yah q]) hg
end
structure XMk(K:PySem.W.Frag)(C f:Addr):Prop where
 xc:Fg K C=true
 init:PySem.W.findIn K (.ref C) "__init__" = some (some (.ref f))
 fn:PySem.W.isFn K (.ref f)=true
 kp:PySem.W.keepIn K (.ref C)=true
def Qc2(C:Addr)(sp:Sp)(E:XK)(t:TA):TE:=fun σ H Q=>t σ H λvs H1=>vs.length<=1000/\∀x tp,H1 x=none->sp (.ref x :: vs) (upd H1 x (XO x C tp none)) (λv H2=>v=.non/\Q (.ref x) H2) E
section
variable {X:Cx}{CX:CXT}{k:Nat}{f C:Addr}{fd:FuncData}{ps:List Str}{sp:Sp}{E:XK}{x:Str}{p pos c9 cr:Pos}{e o value:Expr}{es:List Expr}{t:TA}{ta tv:TE}{fl:Str}
theorem Su{aa:List (Addr×Obj)}{σ:St}{H:Hp}{s:Shared}{Q:VK}{us:List Value}{vs:List V}(M:XMk X.K C f)(F:FnOk X.prog X.w X.K X.mg X.base CX k f fd ps sp)(hr:Room (k+1) X.A)(hb:Binds X.K fd ps [])
  (hx:Passes CX X E) (I:Inv X aa σ H s) (r:Vals vs us) (hl:vs.length<=1000)
  (h:∀x tp,H x=none->sp (.ref x :: vs) (upd H x (XO x C tp none)) (λv H2=>v=.non/\Q (.ref x) H2) E) :
  wpAny (model X.prog X.w) X.A (call (.ref C) us) (EP X aa σ Q) X.xe s:=by
 have hq:=h (s.heap.objs.size+1) s.heap.objs.size (I.hok.fresh (Ydn _))
 have I1:Inv X aa σ H { s with heap:=s.heap.push { cls:=.type "tuple",data:=.seq us.toArray } }:=I.kept (t':=s.toks) λb u q=>Heap.get?_push_of_some _ q
 have ii:(Cu s.heap C us).get? (s.heap.objs.size+1)=some (Dd C s.heap.objs.size none):=by
  unfold Cu
  exact Heap.get?_push_at (by simp only [Heap.size_push]) rfl
 have I2:Inv X aa σ (upd H (s.heap.objs.size+1) (XO (s.heap.objs.size+1) C s.heap.objs.size none)) { s with heap:=Cu s.heap C us } :=
  I1.laid (a:=s.heap.objs.size+1) (t':=s.toks) (λb u q=>Heap.get?_push_of_some _ q) (Nat.le_of_eq (Yb4 _ _)) (Qax ii)
 have r2:Vals (V.ref (s.heap.objs.size+1) :: vs) (Value.ref (s.heap.objs.size+1) :: us):=.cons rfl r
 have wz:(Value.ref (s.heap.objs.size+1) :: us++[]).length=ps.length:=by
  have e:=r2.length
  rw [F.len _ _ _ _ hq]at e
  rw [Yc5]
  exact e.symm
 have zbv:=F.run _ X.stack _ _ ⟨Value.ref (s.heap.objs.size+1) :: us,[]⟩ (Value.ref (s.heap.objs.size+1) :: us++[]) _ _ E (hr.make C us []) (I2.env0.make C us []) (hb _ (Value.ref (s.heap.objs.size+1) :: us) I2.kIn wz) (by rw [Yc5];exact r2) hq
 have hus:us.length<=sizeLine:=by have:=r.length;exact Yas (by omega) (show 1000<=sizeLine by decide)
 obtain⟨hh,g,d,tt,os⟩:=s
 refine xmake I.kIn M.xc M.init (beq_iff_eq.mp M.fn) (Yfn (Yec zbv λr s' gz=>?_)) hus
 cases r with
 | error e=>exact hx aa σ _ _ e s' I2 gz
 | ok fl =>
  cases fl with
  | ret u =>
   obtain⟨v,H',I3,rv,ev,q3⟩:=I2.after gz
   subst ev
   exact⟨rv,⟨V.ref (hh.objs.size+1),H',I3,rfl,q3⟩⟩
  | next=>exact False.elim gz
  | brk=>exact False.elim gz
  | cont=>exact False.elim gz
theorem Vf(M:XMk X.K C f)(F:FnOk X.prog X.w X.K X.mg X.base CX k f fd ps sp)(hr:Room (k+1) X.A)(hg:Gl X x)(hm:X.mg x=some (.ref C))(hb:Binds X.K fd ps [])(hx:Passes CX X E)
  (ha:PA X (e :: es) t) (hdb:(x==("__debug__" : Str))=false:=by decide) (he:starEach (e :: es) X.env=(false,eval e X.env) :: starEach es X.env:=by rfl) (hpl:(backTo pos (starEach es X.env)).any (·.1)=false:=by rfl) :
  PE X (.Call (.Name x p) (e :: es) [] pos) (Qc2 C sp E t):=by
 intro aa s σ H Q I h
 refine Yav (Fp I hg hm ?_ hdb)
 refine PySem.W.callWith_K (h₀:=X.base) I.ok.mod.kin M.kp (thn (ha pos aa s σ H _ I h) λus s1 ⟨vs,H1,I1,r,hl,q⟩=>⟨I1.kIn,?_⟩) he hpl
 exact Su M F hr hb hx I1 r hl q
def sX1(K:PySem.W.Frag)(ta tv:TE)(f:Str):TS:=λD σ H=>tv σ H λy H1=>ta σ H1 λx H2=>∃e C t,x=.ref e/\H2 e=some (XO e C t none)/\XCls K C/\Gk K C f /\
 ∀dx,H2 dx=none->dx≠e->D.nx σ (upd (upd H2 e (XO e C t (some dx))) dx (XD dx [(f,y)]))
theorem Qgb(ha:PE X o ta)(hv:PE X value tv)(hs:swapsWith value (some (.Attribute o fl c9)) pos.line X.env=pure false):PS X (.Assign [.Attribute o fl c9] value pos) (sX1 X.K ta tv fl):=by
 intro aa s σ H D I h
 refine plainObj_wpAny_Assign_Attribute (thn (hv aa s σ H _ I h) λu s1 ⟨y,H1,I1,ry,q⟩=>thn (ha aa s1 σ H1 _ I1 q) λov s2 uy=>?_) hs
 obtain⟨x,H2,I2,rx,e,C,t,ex,ea,c,n,q2⟩:=uy
 subst ex
 obtain rfl:ov=Value.ref e:=rx
 exact Qga I2 ea c n ry λdx s3 yl ar I3=>⟨σ,_,I3,q2 dx yl ar⟩
end
structure XIs(K:PySem.W.Frag)(C:Addr):Prop extends XCls K C where
 ca:PySem.W.findIn K (.ref C) "__class__" = some (some (.builtin "object.__class__"))
 cg:PySem.W.specialIn K (.builtin "object.__class__") "__get__" = some (some (.builtin "getset_descriptor.__get__"))
 ct:PySem.W.takesIn K (.builtin "object.__class__")=some true
theorem Jx{K:PySem.W.Frag}{C:Addr}{od:Option Obj}{name:Str}{a g:Value}(hc:(PySem.W.clsIn K C).isSome=true)(ha:PySem.W.findIn K (.ref C) name=some (some a))(hg:PySem.W.specialIn K a "__get__" = some (some g)) (ht:PySem.W.takesIn K a=some true):PySem.W.findObj K C od name=some (.bind g a):=by
 obtain⟨cd,hc⟩:=Yed.mp hc
 unfold PySem.W.findObj
 rw [hc,Yd6,ha,Yd6]
 dsimp only
 rw [hg,Yd6]
 dsimp only
 rw [ht,Yd6]
theorem M7{prog:Program}{w:World}{A:Around}{E:Value->Shared->Prop}{s:Shared}{K:PySem.W.Frag}{x C:Addr}{ox:Obj}{od:Option Obj}{Q:Option Value->Shared->Prop}(X:K.In s.heap)(I:PySem.W.InstAt s.heap x ox C od)(c:XIs K C)
  (h:Q (some (.ref C)) { s with toks:=s.toks+1 }):wpAny (model prog w) A (getAttr? (.ref x) "__class__") Q E s:=by
 have hc:(PySem.W.clsIn K C).isSome=true:=by obtain⟨cd,hc,_⟩:=Yd5 c.hd;rw [hc];rfl
 have hf:PySem.W.findObj K C od "__class__" = some (.bind (.builtin "getset_descriptor.__get__") (.builtin "object.__class__")):=Jx hc c.ca c.cg c.ct
 unfold getAttr? getAttrBy?
 refine Yaa (wpAny_mkText (Yaa (Ycv ?_)))
 refine Qs (s:={ s with toks:=s.toks+1 }) X I c.ga c.gn (Vc (s:={ s with toks:=s.toks+1 }) X I c.mb hf ?_)
 exact Yfn (PySem.W.class_get (s:={ s with toks:=s.toks+1 }) (ox:=ox) (od:=od) X I c.mo (PySem.W.handed_on rfl (Yab h)))
theorem Ig{K:PySem.W.Frag}{x C:Addr}(c:XIs K C):PySem.W.KitX K (.ref x) (.ref C) (λh=>∃ox od,PySem.W.InstAt h x ox C od) where
 ty:=λ_ _ _ ⟨_,_,I⟩=>I.type
 it:=λ_ _ X _=>by
  obtain⟨cdD,hcD,_⟩:=Yd5 c.hd
  unfold PySem.W.clsIn at hcD
  split at hcD
  ·rename_i c' d' cd' sl' ho
   intro A' Q' E' s' k q
   unfold isType loadHead
   exact Yaa (wpAny_loadPart (k _ _ (X _ _ ho)) (Yab q))
  ·cases hcD
 ne:=λh tp dd af n sl X htp=>by
  obtain⟨cdD,hcD,_⟩:=Yd5 c.hd
  refine Bool.eq_false_iff.mpr λq=>?_
  have e:C=tp:=Value.ref.inj (beq_iff_eq.mp q)
  subst e
  unfold PySem.W.clsIn at hcD
  split at hcD
  ·rename_i c' d' cd' sl' ho
   have z:=(X _ _ ho).symm.trans htp
   cases z
  ·cases hcD
 ca:=λX ⟨_,_,I⟩ k=>M7 X I c k
section
variable {X:Cx}
end
inductive Ctxs (h:Heap):Addr->List Addr->Prop
 | nil {e:Addr} {o:Obj} {vs:Array Value}:h.get? e=some o->o.data=.fields vs->vs[2]?=some Value.none->Ctxs h e []
 | cons {e E:Addr} {o:Obj} {vs:Array Value} {l:List Addr}:h.get? e=some o->o.data=.fields vs->vs[2]?=some (Value.ref E)->Ctxs h E l->Ctxs h e (E :: l)
theorem Ctxs.keep{h h':Heap}(k:∀b o (vs:Array Value),h.get? b=some o->o.data=.fields vs->∃o' jq,h'.get? b=some o'/\o'.data=.fields jq/\jq[2]?=vs[2]?){e:Addr}{l:List Addr}(c:Ctxs h e l):Ctxs h' e l:=by
 induction c with
 | nil a b c=>obtain⟨o',jq,a',b',c'⟩:=k _ _ _ a b;exact .nil a' b' (c'.trans c)
 | cons a b c _ ih=>obtain⟨o',jq,a',b',c'⟩:=k _ _ _ a b;exact .cons a' b' (c'.trans c) ih
theorem Ctxs.same{h h':Heap}(k:∀b o,h.get? b=some o->h'.get? b=some o){e:Addr}{l:List Addr}(c:Ctxs h e l):Ctxs h' e l :=
 c.keep λb o vs a d=>⟨o,vs,k b o a,d,rfl⟩
structure ExcRec(h:Heap)(e:Addr)(cls:Value)(d:Option Addr)(vs:Array Value):Prop where
 at_:h.get? e=some ⟨cls,d,.fields vs,#[]⟩
 six:vs.size=6
 tb:vs[1]?=some .none\/∃T oT ts,vs[1]?=some (.ref T)/\T≠e/\h.get? T=some oT/\oT.data=.fields ts/\ts[3]?=some .none
 cx:∃l,Ctxs h e l
structure LeftBy(fs:List Addr)(e:Addr)(cls:Value)(d:Option Addr)(h h':Heap):Prop where
 size:h.objs.size<=h'.objs.size
 keep:∀b o,b∉fs->b≠e->h.get? b=some o->h'.get? b=some o
 slot:∀b o,b∈fs->h.get? b=some o->∃sl,h'.get? b=some { o with slots:=sl }
 rc:∃vs,ExcRec h' e cls d vs/\vs[1]?≠some .none
 fz:∃T,(∀vs,ExcRec h' e cls d vs->vs[1]?=some (.ref T))/\h.get? T=none
section
variable {M:Model}{A:Around}{E:Value->Shared->Prop}{s:Shared}{base:Heap}{env:Env}{outer:List Env}{L e:Addr}{cls:Value}{d:Option Addr}{vs:Array Value}
theorem Qu{o:Obj}(hd:o.data=.fields vs)(g:Array Value->Array Value):o.mapFields g=⟨o.cls,o.dict,.fields (g vs),o.slots⟩:=by
 obtain⟨c,di,dt,sl⟩:=o
 dsimp only at hd
 subst hd;rfl
theorem Dm{head:Value}{lx:Bool}{Q:Unit->Shared->Prop}(ll:A.frames=some (env :: outer))(hl:s.heap.FunFrames base (env :: outer))(hf:env.frame=some L)(he:s.heap.get? e=some ⟨cls,d,.fields vs,#[]⟩)(h6:vs.size=6)(yc:∃l,Ctxs s.heap e l)
  (h:∀h',LeftBy (frs (env :: outer)) e cls d s.heap h'->Q () { s with heap:=h' }) :
  wpAny M A (do let fr <- frameOf env;let place <- entryPlaceOf L lx;let x <- EntryCells.newEntry head fr .none (rawInt L) .none place;setField (.ref e) 1 x) (λ_ s'=>wpAny M A (setFlight (.ref e) none) Q E s') E s:=by
 have hef:e∉frs (env :: outer):=λhm=>by
  obtain⟨_,o,q,nf⟩:=hl.mem hm
  rw [he]at q;cases q
  exact nf vs rfl
 refine Yaa (wpAny_frameOf_fun ll hl hf λh1 S1=>?_)
 refine Yaa (wpAny_entryPlaceOf λpl ip=>?_)
 unfold EntryCells.newEntry newFields
 have he1:h1.get? e=some ⟨cls,d,.fields vs,#[]⟩:=(S1.2.1 e hef).trans he
 have hT:h1.objs.size≠e:=Ydv (Yae he1)
 refine Yaa (Ya1 ?_ (ip.sizeOk5 _ _ _ _ _))
 generalize hts:([head,Value.ref L,Value.none,rawInt L,Value.none]++if pl.isEmpty=true then List.replicate 6 Value.none else pl).toArray=ts
 have zb2:5<=ts.size:=by rw [<- hts];simp
 have he2:=Heap.get?_push_of_some (h:=h1) { cls:=.type "traceback",dict:=none,data:=.fields ts } he1
 refine Ycl he2 rfl (by rw [h6];decide) ?_
 dsimp only
 have wn:=Heap.get?_update_self (Obj.mapFields (·.setIfInBounds 1 (Value.ref h1.objs.size))) he2 rfl
 have x6:((h1.push { cls:=.type "traceback",dict:=none,data:=.fields ts }).update e (Obj.mapFields (·.setIfInBounds 1 (Value.ref h1.objs.size)))).get? h1.objs.size=some { cls:=.type "traceback",dict:=none,data:=.fields ts } :=
  (Heap.get?_update_other _ _ hT.symm).trans (Heap.get?_push_size h1 rfl)
 unfold setFlight
 refine Yaa (Ya7 wn rfl (x:=.ref h1.objs.size) (by simp [h6]) ?_)
 rw [Yak (by simp)]
 refine Ycl x6 rfl (by omega) (h _ ?_)
 generalize hh3:(h1.push { cls:=.type "traceback",dict:=none,data:=.fields ts }).update e (Obj.mapFields (·.setIfInBounds 1 (Value.ref h1.objs.size)))=h3 at wn x6
 have eT:=Heap.get?_update_self (Obj.mapFields (·.setIfInBounds 3 ((none:Option Addr).elim Value.none λf=>rawInt f))) x6 rfl
 have gx:∀b o,b≠e->h1.get? b=some o->(h3.update h1.objs.size (Obj.mapFields (·.setIfInBounds 3 ((none:Option Addr).elim Value.none λf=>rawInt f)))).get? b=some o:=λb o hb q=>by
  have hbT:h1.objs.size≠b:=Ydv (Yae q)
  rw [Heap.get?_update_other _ _ hbT,<- hh3,Heap.get?_update_other _ _ (Yc4 hb)]
  exact Heap.get?_push_of_some _ q
 have xk:(h3.update h1.objs.size (Obj.mapFields (·.setIfInBounds 3 ((none:Option Addr).elim Value.none λf=>rawInt f)))).get? e=some ⟨cls,d,.fields (vs.setIfInBounds 1 (.ref h1.objs.size)),#[]⟩:=by
  rw [Heap.get?_update_other _ _ hT];exact wn
 refine⟨?_,λb o hb ie q=>gx b o ie ((S1.2.1 b hb).trans q),λb o hb q=>?_,⟨_,⟨xk,by simp [h6],.inr ⟨h1.objs.size,_,_,by simp [h6],hT,eT,rfl,?_⟩,yc.imp λl c=>c.keep λb o jq q dq=>?_⟩,by simp [h6]⟩,⟨h1.objs.size,λjq R=>?_,?_⟩⟩
 ·rw [Ydq,<- hh3,Ydq,Yb4,S1.1];exact Ydn _
 ·obtain⟨sl,q1⟩:=S1.2.2 b o q
  exact⟨sl,gx b _ (λz=>hef (z ▸ hb)) q1⟩
 ·show(ts.setIfInBounds 3 Value.none)[3]?=some Value.none
  rw [Array.getElem?_setIfInBounds,Yak rfl,Yak (by omega)]
 ·have:=R.at_.symm.trans xk
  cases this
  simp [h6]
 ·exact Heap.get?_none_of_le (by rw [S1.1];exact Yaf _)
 ·by_cases ie:b=e
  ·subst ie
   rw [he]at q;cases q
   cases dq
   exact⟨_,_,xk,rfl,by rw [Array.getElem?_setIfInBounds,Yah (by decide)]⟩
  ·by_cases hb:b∈frs (env :: outer)
   ·obtain⟨sl,q1⟩:=S1.2.2 b o q
    exact⟨_,jq,gx b _ ie q1,dq,rfl⟩
   ·exact⟨o,jq,gx b o ie ((S1.2.1 b hb).trans q),dq,rfl⟩
theorem Vg{Q:Unit->Shared->Prop}(ll:A.frames=some (env :: outer))(hl:s.heap.FunFrames base (env :: outer))(hf:env.frame=some L)(R:ExcRec s.heap e cls d vs)
  (h:∀h',LeftBy (frs (env :: outer)) e cls d s.heap h'->Q () { s with heap:=h' }):wpAny M A («leaving» env (.ref e)) Q E s:=by
 unfold «leaving» noteFrame
 simp only [hf]
 rcases R.tb with h1 | ⟨T,oT,ts,h1,hTe,hT,hd,h3⟩
 ·refine Yaa (Yaa (Ya7 R.at_ rfl h1 ?_))
  rw [Yah (by decide)]
  exact Dm ll hl hf R.at_ R.six R.cx h
 ·refine Yaa (Yaa (Ya7 R.at_ rfl h1 ?_))
  rw [Yak (by simp)]
  refine Yaa (Ya7 hT hd h3 ?_)
  rw [Yah (by simp [rawInt])]
  have qe:3 < ts.size:=(Array.getElem?_eq_some_iff.mp h3).1
  refine Yaa (Ycl hT hd qe ?_)
  have same:s.heap.update T (Obj.mapFields (·.setIfInBounds 3 Value.none))=s.heap\/True:=.inr trivial
  have eT:(s.heap.update T (Obj.mapFields (·.setIfInBounds 3 Value.none))).get? T=some oT:=by
   have q:=Heap.get?_update_self (Obj.mapFields (·.setIfInBounds 3 Value.none)) hT (Ycx (Yb7 hd _))
   rw [q,Qu hd]
   have:ts.setIfInBounds 3 Value.none=ts:=by
    apply Array.ext_getElem?
    intro k
    rw [Array.getElem?_setIfInBounds]
    by_cases hk:3=k
    ·subst hk;rw [Yak rfl,Yak qe,h3]
    ·rw [Yah hk]
   rw [this,<- hd]
  have gx:∀b o,s.heap.get? b=some o->(s.heap.update T (Obj.mapFields (·.setIfInBounds 3 Value.none))).get? b=some o:=λb o q=>by
   by_cases hb:T=b
   ·subst hb;rw [eT,<- q,hT]
   ·rw [Heap.get?_update_other _ _ hb];exact q
  refine Dm (s:={ s with heap:=s.heap.update T (Obj.mapFields (·.setIfInBounds 3 Value.none)) }) ll (hl.of_keeps λb o q _=>⟨o,gx b o q,rfl⟩) hf (gx _ _ R.at_) R.six (R.cx.imp λ_ c=>c.same gx) λh' ⟨x1,x2,x3,x4,x5⟩=>h h' ⟨?_,λb o hb ie q=>x2 b o hb ie (gx b o q),λb o hb q=>x3 b o hb (gx b o q),x4,?_⟩
  ·rw [Ydq]at x1;exact x1
  ·obtain⟨T',y1,y2⟩:=x5
   refine⟨T',y1,?_⟩
   cases z:s.heap.get? T' with
   | none=>rfl
   | some o=>rw [gx _ _ z]at y2;cases y2
end
section
variable {prog:Program}{w:World}{A:Around}{E:Value->Shared->Prop}{s:Shared}{K:PySem.W.Frag}{env:Env}{e C:Addr}{d:Option Addr}{vs:Array Value}
theorem Vh{x:Sem Value}{Q:Flow->Shared->Prop}(hh:A.handled=none)
  (h:wpAny (model prog w) A x (λv s1=>∃e C d vs,v=.ref e/\K.In s1.heap/\s1.heap.get? e=some ⟨.ref C,d,.fields vs,#[]⟩/\vs[1]?=some .none/\Fg K C=true/\PySem.W.mroIn K C (.type "BaseException")=some true/\E (.ref e) s1) E s) :
  wpAny (model prog w) A (raiseStmt env (some x) none) Q E s:=by
 unfold raiseStmt
 refine Yaa (Ybk h (λv s1 h1=>?_) λ_ _ z=>z)
 obtain⟨e,C,d,vs,rfl,X,he,h1,hc,hm,hE⟩:=h1
 obtain⟨nm,qn,N,bs,bm,kv,sn,sub,ab,nz,dd,k0,k1,k2,k3,k5,hC,_⟩:=Qt X hc
 obtain⟨hp,g,dr,tk,os⟩:=s1
 have Lt:PySem.W.Looks (model prog w) hp (typeOf (.ref e)) (.ref C):=(Ydr he).andThen .now
 have Lc:PySem.W.Looks (model prog w) hp (typeOf (.ref C)) (.type "type"):=(Ydr hC).andThen .now
 have Li:PySem.W.Looks (model prog w) hp (isType (.ref e)) false:=(Ydr he).andThen .now
 have Ls:PySem.W.Looks (model prog w) hp (isInstance (.ref e) (.type "BaseException")) true:=Lt.andThen (Ydp X hm)
 refine Yaa (Yab ?_)
 refine Yaa (Ya4 ?_)
 unfold excFromValue isExcClass
 refine Yaa (Yaa (Li.at (Yab ?_)))
 rw [Yah (by decide)]
 refine Yaa (Ls.at ?_)
 rw [Yak rfl]
 refine Yab ?_
 refine Yaa (Li.at ?_)
 dsimp only
 rw [Yah (by decide)]
 unfold raisedInstance
 refine Yaa (Yaa (Lt.at (Yaa (Lc.at ?_))))
 rw [Yak (by decide)]
 refine Yab ?_
 unfold setFlight
 refine Yaa (Yaa (Ya7 he rfl h1 ?_))
 rw [Yah (by decide)]
 exact Yab (wpAny_raiseNew_none hh hE)
theorem O6{ex:Expr}{pos:Pos}{Q:Flow->Shared->Prop}(hh:A.handled=none)
  (h:wpAny (model prog w) A (eval ex env) (λv s1=>∃e C d vs,v=.ref e/\K.In s1.heap/\s1.heap.get? e=some ⟨.ref C,d,.fields vs,#[]⟩/\vs[1]?=some .none/\Fg K C=true/\PySem.W.mroIn K C (.type "BaseException")=some true/\E (.ref e) s1) E s) :
  wpAny (model prog w) A (exec (.Raise (some ex) none pos) env) Q E s:=by
 rw [arm_exec_Raise]
 refine Yaa (Yek ?_)
 show wpAny (model prog w) A (raiseStmt env (some (do let v <- eval ex env;standAt pos;pure v)) none) Q E s
 refine Vh (K:=K) hh (Yaa (Ybk h (λv s1 h1=>Yaa (Yek (Yab h1))) λ_ _ z=>z))
end
def XR(e C:Addr)(d:Option Addr):HO:=.ext λh=>∃vs:Array Value,h.get? e=some ⟨.ref C,d,.fields vs,#[]⟩/\vs.size=6
theorem Vi{P:Program}{w:World}{H:Hp}{h:Heap}{e C:Addr}{d:Option Addr}{vs:Array Value}(hx:h.get? e=some ⟨.ref C,d,.fields vs,#[]⟩)(h6:vs.size=6):Bo P w H h e (XR e C d) :=
 ⟨⟨vs,hx,h6⟩,⟨_,hx⟩,λ_ _ ⟨vs,p,q⟩ k=>⟨vs,k _ p,q⟩⟩
theorem Vj{P:Program}{w:World}{H:Hp}{h:Heap}{e C:Addr}{d:Option Addr}(ok:HOk P w H h)(q:H e=some (XR e C d)):∃vs:Array Value,h.get? e=some ⟨.ref C,d,.fields vs,#[]⟩/\vs.size=6:=(show Bo P w H h e (XR e C d) from ok e _ q).1
def CX1(P:Program)(w:World):CXT:=λouter H s E e s'=>∃a C d H',e=.ref a/\s'.os=s.os/\AllBare s'.gens/\Un (frs outer) [] H H' s.heap s'.heap/\HOk P w H' s'.heap/\(∃vs,ExcRec s'.heap a (.ref C) d vs)/\H' a=some (XR a C d)/\E (.ref C) (some a) H'
section
variable {X:Cx}{aa:List (Addr×Obj)}{σ:St}{H:Hp}{s:Shared}{a C:Addr}{d:Option Addr}{h':Heap}
theorem Inv.left(I:Inv X aa σ H s)(hx:H a=some (XR a C d))(L:LeftBy (frs X.stack) a (.ref C) d s.heap h'):Inv X aa σ H { s with heap:=h' }:=by
 have nf:∀b u,H b=some u->b∉frs X.stack:=λb u q z=>by rw [I.stkFree b z]at q;cases q
 obtain⟨vs,R,_⟩:=id L.rc
 have un:Un (frs X.stack) [] H H s.heap h':=by
  refine⟨λb o q n hb _=>L.keep b o hb (λz=>by rw [z,hx]at n;cases n) q,λb o q n hb _=>L.slot b o hb q,λ_ _ _ n _=>n,λb o q _=>?_,λ_ _ q=>q,λ_ _ _ q=>q,λ_ ps q=>⟨#[],by rw [q];simp⟩⟩
  by_cases h1:b∈frs X.stack
  ·obtain⟨sl,q2⟩:=L.slot b o h1 q
   exact⟨_,q2⟩
  ·by_cases h2:b=a
   ·subst h2;exact⟨_,R.at_⟩
   ·exact⟨o,L.keep b o h1 h2 q⟩
 refine I.call (ch:=[]) (g':=s.gens) (d':=s.drawn) (t':=s.toks) un (λb u q=>?_) I.bare (λb z=>absurd z (by simp))
 by_cases hb:b=a
 ·subst hb
  rw [hx]at q;cases q
  exact Vi R.at_ R.six
 ·refine(I.hok b u q).stay (λc v hc r=>L.keep c v ?_ ?_ r) (λ_ q=>q) λ_ _ q=>q
  ·rcases hc with rfl | hc
   ·exact nf _ _ q
   ·exact nf _ _ hc
  ·rintro rfl
   rcases hc with z | hc
   ·exact hb z.symm
   ·rw [hx]at hc;cases hc
def Sv(X:Cx)(EX:XK):Prop:=∀(aa:List (Addr×Obj)) (σ:St) (H:Hp) (s:Shared) (a C:Addr) (d:Option Addr) (vs:Array Value),Inv X aa σ H s->H a=some (XR a C d)->ExcRec s.heap a (.ref C) d vs->EX (.ref C) (some a) H->X.xe (.ref a) s
theorem Sv.passes{EX E1:XK}(h:Sv X EX)(i:∀c d H,E1 c d H->EX c d H):Passes (CX1 X.prog X.w) X E1:=by
 rintro aa σ H s e s' I ⟨a,C,d,H',rfl,os,bare,un,hok,⟨vs,R⟩,hx,hE⟩
 exact h aa σ H' s' a C d vs (I.call' os un hok bare (λb z=>absurd z (by simp))) hx R (i _ _ _ hE)
end
theorem Yx{P:Program}{w:World}{K:PySem.W.Frag}{mg:Str->Option Value}{base:Heap}{N:List Str}{qual:Str}{scope:Scope}{f:Addr}{cd:Value}{A:Around}{outer:List Env}{s:Shared}{H:Hp}{E:XK} :
  Sv (Hl (CX1 P w) P w K mg base N qual scope f cd A outer s H E) E:=by
 intro aa σ H1 s1 a C d vs I hx R hE
 show wpAny (model P w) _ («leaving» (envOfC qual scope s.heap.objs.size f cd) (.ref a)) _ _ s1
 refine Vg (base:=base) (outer:=outer) I.ok.frames I.stack rfl R λh' L=>?_
 have J:=I.left hx L
 obtain⟨jq,R',_⟩:=L.rc
 exact⟨a,C,d,H1,rfl,J.os,J.bare,J.base,J.hok,⟨jq,R'⟩,hx,hE⟩
section
variable {M:Model}{A:Around}{E:Value->Shared->Prop}{s:Shared}{base:Heap}{env:Env}{outer:List Env}{L e:Addr}{cls:Value}{d:Option Addr}{vs:Array Value}
theorem G7{h:Heap}{T:Addr}{oT:Obj}{ts:Array Value}(hT:h.get? T=some oT)(hd:oT.data=.fields ts)(h3:ts[3]?=some .none) :
  ∀b o,h.get? b=some o->(h.update T (Obj.mapFields (·.setIfInBounds 3 Value.none))).get? b=some o:=by
 have qe:3 < ts.size:=(Array.getElem?_eq_some_iff.mp h3).1
 have eT:(h.update T (Obj.mapFields (·.setIfInBounds 3 Value.none))).get? T=some oT:=by
  have q:=Heap.get?_update_self (Obj.mapFields (·.setIfInBounds 3 Value.none)) hT (Ycx (Yb7 hd _))
  rw [q,Qu hd]
  have:ts.setIfInBounds 3 Value.none=ts:=by
   apply Array.ext_getElem?
   intro k
   rw [Array.getElem?_setIfInBounds]
   by_cases hk:3=k
   ·subst hk;rw [Yak rfl,Yak qe,h3]
   ·rw [Yah hk]
  rw [this,<- hd]
 intro b o q
 by_cases hb:T=b
 ·subst hb;rw [eT,<- q,hT]
 ·rw [Heap.get?_update_other _ _ hb];exact q
theorem Sw{Q:Unit->Shared->Prop}(ll:A.frames=some (env :: outer))(hl:s.heap.FunFrames base (env :: outer))(hf:env.frame=some L)(R:ExcRec s.heap e cls d vs)
  (h:∀h',LeftBy (frs (env :: outer)) e cls d s.heap h'->Q () { s with heap:=h' }):wpAny M A (noteFrame (.ref e) env) (λ_ s₂=>wpAny M A (setFlight (.ref e) none) Q E s₂) E s:=by
 unfold noteFrame
 simp only [hf]
 rcases R.tb with h1 | ⟨T,oT,ts,h1,hTe,hT,hd,h3⟩
 ·refine Yaa (Ya7 R.at_ rfl h1 ?_)
  rw [Yah (by decide)]
  exact Dm ll hl hf R.at_ R.six R.cx h
 ·refine Yaa (Ya7 R.at_ rfl h1 ?_)
  rw [Yak (by simp)]
  refine Yaa (Ya7 hT hd h3 ?_)
  rw [Yah (by simp [rawInt])]
  have qe:3 < ts.size:=(Array.getElem?_eq_some_iff.mp h3).1
  refine Yaa (Ycl hT hd qe ?_)
  have gx:=G7 hT hd h3
  refine Dm (s:={ s with heap:=s.heap.update T (Obj.mapFields (·.setIfInBounds 3 Value.none)) }) ll (hl.of_keeps λb o q _=>⟨o,gx b o q,rfl⟩) hf (gx _ _ R.at_) R.six (R.cx.imp λ_ c=>c.same gx) λh' ⟨x1,x2,x3,x4,x5⟩=>h h' ⟨?_,λb o hb ie q=>x2 b o hb ie (gx b o q),λb o hb q=>x3 b o hb (gx b o q),x4,?_⟩
  ·rw [Ydq]at x1;exact x1
  ·obtain⟨T',y1,y2⟩:=x5
   refine⟨T',y1,?_⟩
   cases z:s.heap.get? T' with
   | none=>rfl
   | some o=>rw [gx _ _ z]at y2;cases y2
theorem Sx{Q:Unit->Shared->Prop}(R:ExcRec s.heap e cls d vs)(h:∀h',(∀b o,s.heap.get? b=some o->h'.get? b=some o)->Q () { s with heap:=h' }):wpAny M A (setFlight (.ref e) none) Q E s:=by
 unfold setFlight
 rcases R.tb with h1 | ⟨T,oT,ts,h1,hTe,hT,hd,h3⟩
 ·refine Yaa (Ya7 R.at_ rfl h1 ?_)
  rw [Yah (by decide)]
  exact Yab (h _ λ_ _ q=>q)
 ·refine Yaa (Ya7 R.at_ rfl h1 ?_)
  rw [Yak (by simp)]
  exact Ycl hT hd (Array.getElem?_eq_some_iff.mp h3).1 (h _ (G7 hT hd h3))
end
section
variable {prog:Program}{w:World}{A:Around}{E:Value->Shared->Prop}{s:Shared}{K:PySem.W.Frag}{e C D:Addr}{d:Option Addr}{vs:Array Value}
theorem M8{b:Bool}{Q:Bool->Shared->Prop}(X:K.In s.heap)(hD:Fg K D=true)(he:s.heap.get? e=some ⟨.ref C,d,.fields vs,#[]⟩)(hb:PySem.W.mroIn K D (.type "BaseException")=some true)
  (hm:PySem.W.mroIn K C (.ref D)=some b) (h:Q b s):wpAny (model prog w) A (excMatches (.ref e) (.ref D)) Q E s:=by
 obtain⟨nm,qn,N,bs,bm,kv,sn,sub,ab,nz,dd,k0,k1,k2,k3,k5,hDo,_⟩:=Qt X hD
 obtain⟨hp,g,dr,tk,os⟩:=s
 have Lt:PySem.W.Looks (model prog w) hp (typeOf (.ref e)) (.ref C):=(Ydr he).andThen .now
 have Lc:PySem.W.Looks (model prog w) hp (typeOf (.ref D)) (.type "type"):=(Ydr hDo).andThen .now
 have Li:PySem.W.Looks (model prog w) hp (isType (.ref D)) true:=(Ydr hDo).andThen .now
 have f1:isSubtype (.type "type") (.type "tuple")=pure false:=isSubtype_of_subB rfl
 unfold excMatches isExcClass isInstance
 refine Yaa (Yaa (Lc.at ?_))
 rw [f1]
 refine Yab ?_
 rw [Yah (by decide)]
 refine Yaa (Yab ?_)
 simp only [List.forIn_cons,List.forIn_nil]
 refine Yaa (Yaa (Yaa (Yaa (Li.at ?_))))
 rw [Yak rfl]
 refine(Ydp X hb).at ?_
 simp only [Bool.not_true,Bool.false_eq_true,if_false]
 refine Yab ?_
 refine Yab ?_
 refine Yaa (Lt.at ?_)
 refine Yaa (Yaa (Yaa ((Ydp X hm).at ?_)))
 cases b with
 | true =>
  simp only [if_true]
  exact Yab (Yab (Yab h))
 | false =>
  simp only [Bool.false_eq_true,if_false]
  exact Yab (Yab (Yab h))
end
section
variable {X:Cx}{aa:List (Addr×Obj)}{σ:St}{H:Hp}{s:Shared}
theorem Inv.retype{a:Addr}{φ:Heap->Prop}{o:HO}(I:Inv X aa σ H s)(q:H a=some (.ext φ))(new:Bo X.prog X.w (upd H a o) s.heap a o):Inv X aa σ (upd H a o) s :=
 I.write (x:=a) (e:=a) (t':=s.toks) (h':=s.heap) (by rw [q];exact True.intro) (.inl rfl) (λ_ _ _ z=>z) (let⟨_,q,_⟩:=(show Bo X.prog X.w H s.heap a (.ext φ) from I.hok a _ q);q) new
def Qc3(K:PySem.W.Frag)(EX:XK)(te:TE):TS:=λ_ σ H=>te σ H λx H1=>∃a C t d,x=.ref a/\H1 a=some (XO a C t d)/\Fg K C=true/\PySem.W.mroIn K C (.type "BaseException")=some true/\EX (.ref C) (some a) (upd H1 a (XR a C d))
theorem Vk{ex:Expr}{pos:Pos}{te:TE}{EX:XK}(hc:X.calm=true)(hx:Sv X EX)(he:PE X ex te):PS X (.Raise (some ex) none pos) (Qc3 X.K EX te):=by
 intro aa s σ H D I h
 refine O6 (K:=X.K) (I.ok.hd hc) (thn (he aa s σ H _ I h) λv s1 vw=>?_)
 obtain⟨x,H1,I1,r,a,C,t,d,ex,ha,xc,mr,hE⟩:=vw
 subst ex
 obtain rfl:v=Value.ref a:=r
 have hg:=Vd I1.hok ha
 exact⟨a,C,d,_,rfl,I1.kIn,hg,rfl,xc,mr,hx aa σ _ s1 a C d _ (I1.retype ha (Vi hg rfl)) A9 ⟨hg,rfl,.inl rfl,[],.nil hg rfl rfl⟩ hE⟩
abbrev Cx.suite(X:Cx)(e:Addr):Cx:={ X with A:=X.A.mark (some (.ref e)),calm:=false,xe:=λ_ _=>False }
theorem Inv.suite{e:Addr}(I:Inv X aa σ H s):Inv (X.suite e) aa σ H s :=
 ⟨⟨I.ok.mod,I.ok.kind,I.ok.glob,I.ok.blt,I.ok.above,I.ok.inj,I.ok.has,I.ok.cab,λz=>(nomatch z),I.ok.frames,I.ok.stk,I.ok.exf,I.ok.bs,I.ok.bsz,I.ok.noex,I.ok.exfs,I.ok.funs,I.ok.frf⟩,I.os,I.bare,I.base,I.loc,I.cell,I.free,I.freeC,I.pin,I.hok,I.len⟩
theorem Inv.unsuite{e:Addr}(ok:X.Ok)(I:Inv (X.suite e) aa σ H s):Inv X aa σ H s:=⟨ok,I.os,I.bare,I.base,I.loc,I.cell,I.free,I.freeC,I.pin,I.hok,I.len⟩
theorem Hr{M:Model}{A:Around}{E:Value->Shared->Prop}{i:Nat}{n:Str}{pos:Pos}{Q:Unit->Shared->Prop}(I:Inv X aa σ H s)(hN:X.N.Nodup)(hi:X.N[i]?=some n)(hk:X.env.scope.names.lookup n=some .local)
  (h:∀s',Inv X aa (σ.set i none) H s'->Q () s'):wpAny M A (do bindName X.env n .none;unbindBehindTheSuite X.env n pos) Q E s:=by
 obtain⟨m,hn,hl⟩:=id I.loc
 have m9:(X.env.scope.kind==.class || (X.env.scope.kind==.module && X.env.locals != X.env.globals))=false:=by rw [I.ok.kind];rfl
 refine wpAny_nameGoes_keeps hk hn m9 λh' v kh hs=>?_
 have nl:∀b o,X.s₀.heap.get? b=some o->b≠X.env.locals:=λb o e=>Yaj (Yam (Yae e) I.ok.above)
 refine h _ ⟨I.ok,I.os,I.bare,⟨λb o e z hb hx=>(hs.2 b (nl b o e)).trans (I.base.keep b o e z hb hx),λb o e z hb hx=>?_,I.base.free,λb o e hx=>?_,I.base.tups,I.base.frzs,I.base.tbls⟩,⟨_,kh,λj y v' e1 e2 e3=>?_⟩,λy c e=>?_,I.free,I.freeC,λp hp=>?_,λb ob e=>?_,by rw [List.length_set];exact I.len⟩
 ·obtain⟨sl,e1⟩:=I.base.slot b o e z hb hx
  exact⟨sl,(hs.2 b (nl b o e)).trans e1⟩
 ·obtain⟨o',e1⟩:=I.base.there b o e hx
  exact⟨o',(hs.2 b (nl b o e)).trans e1⟩
 ·have hj:j≠i:=by
   rintro rfl
   rw [List.getElem?_set]at e2
   simp only [if_true]at e2
   split at e2 <;> cases e2
  rw [List.getElem?_set_ne (Yc4 hj)]at e2
  obtain⟨u',r',q⟩:=hl j y v' e1 e2 e3
  refine⟨u',r',?_⟩
  have ny:y≠n:=λz=>hj (Hy hN e1 (z ▸ hi))
  rcases q with⟨k,e⟩ | ⟨k,c,e,z⟩
  ·exact .inl ⟨k,by show(if y=n then v else m y)=_;rw [Yah ny];exact e⟩
  ·exact .inr ⟨k,c,e,z.sameBut hs (I.cne y c e)⟩
 ·obtain⟨w',z⟩:=I.cell y c e
  exact⟨w',z.sameBut hs (I.cne y c e)⟩
 ·obtain⟨e,z,ne,nf,d⟩:=I.pin p hp
  exact⟨(hs.2 p.1 ne).trans e,z,ne,nf,d⟩
 ·refine(I.hok b ob e).stay (λc w' hc q=>(hs.2 c ?_).trans q) (λ_ q=>q) λ_ _ q=>q
  rintro rfl
  rcases hc with z | z
  ·rw [<- z,I.free]at e;cases e
  ·rw [I.free]at z;cases z
abbrev Cx.taking(X:Cx)(xe:Value->Shared->Prop)(pn:List (Addr×Obj)):Cx:={ X with xe:=xe,pn:=pn }
theorem Inv.take{xe:Value->Shared->Prop}(I:Inv X aa σ H s):Inv (X.taking xe (X.pn++aa)) [] σ H s :=
 ⟨⟨I.ok.mod,I.ok.kind,I.ok.glob,I.ok.blt,I.ok.above,I.ok.inj,I.ok.has,I.ok.cab,I.ok.hd,I.ok.frames,I.ok.stk,I.ok.exf,I.ok.bs,I.ok.bsz,I.ok.noex,I.ok.exfs,I.ok.funs,I.ok.frf⟩,I.os,I.bare,I.base,I.loc,I.cell,I.free,I.freeC,λp hp=>I.pin p (by rw [Yc5]at hp;exact hp),I.hok,I.len⟩
theorem Inv.untake{xe:Value->Shared->Prop}{ik:List (Addr×Obj)}(ok:X.Ok)(I:Inv (X.taking xe (X.pn++aa)) ik σ H s):Inv X aa σ H s :=
 ⟨ok,I.os,I.bare,I.base,I.loc,I.cell,I.free,I.freeC,λp hp=>I.pin p (Ydd _ hp),I.hok,I.len⟩
end
end L2
namespace L2
open PySem PySem.Spec PyProof.Rows
inductive AV where
 | D (d:PyData) | R (a:Addr) | C (ds:List PyData) | X (C:Addr) (fs:List (Str×PyData))
 deriving Inhabited
mutual
def Cano:PyData->Bool
 | .int _=>true
 | .str _=>true
 | .tuple xs=>Aj xs
 | _=>false
def Aj:List PyData->Bool
 | []=>true
 | x :: xs=>Cano x && Aj xs
end
structure KeyTree(d:PyData):Prop where
 can:Cano d=true
 lay:d.canLay0=true
 dep:d.depth<=6
def Yy(K:PySem.W.Frag)(H:Hp)(a:Addr)(xs:List V):Prop :=
 (∃o,H a=some (.frz o (.lst xs))) \/
  ∃(o:Obj) (af:Array Value) (n:Nat),K.lookup a=some o/\o.cls=.type "list" /\ o.dict=none/\o.data=.seq af n/\af.size<=sizeLine/\Vals xs af.toList
theorem Yy.sq{K:PySem.W.Frag}{H:Hp}{a:Addr}{xs:List V}(h:Yy K H a xs):Du K H a xs:=by
 rcases h with⟨o,h⟩ | h
 ·exact .inl (.inr ⟨o,h⟩)
 ·exact .inr h
def Lit:List PyData->Bool
 | .str _ :: _=>true
 | .tuple _ :: _=>true
 | _=>false
def FzT(K:PySem.W.Frag)(H:Hp)(a:Addr)(ds:List PyData)(xs:List V):Prop :=
 H a=some (.tup xs)\/(Lit ds=true/\∃(o:Obj) (af:Array Value) (n:Nat),K.lookup a=some o/\o.cls=.type "tuple" /\ o.data=.seq af n/\af.size<=sizeLine/\Vals xs af.toList)
theorem FzT.sq{K:PySem.W.Frag}{H:Hp}{a:Addr}{ds:List PyData}{xs:List V}(h:FzT K H a ds xs):Gi K H a xs:=by
 rcases h with h | h
 ·exact Gi.of h
 ·exact .inr h.2
mutual
def Dk(K:PySem.W.Frag)(H:Hp):PyData->V->Prop
 | .none,x=>x=.non
 | .bool b,x=>x=.bl b
 | .int i,x=>x=.int i
 | .str z,x=>x=.str z
 | .list ds,x=>∃a xs,x=.ref a/\Yy K H a xs/\Ak K H ds xs
 | .tuple ds,x=>∃a xs,x=.ref a/\FzT K H a ds xs/\Ak K H ds xs
 | .dict _,_=>False
def Ak(K:PySem.W.Frag)(H:Hp):List PyData->List V->Prop
 | [],xs=>xs=[]
 | d :: ds,xs=>∃x r,xs=x :: r/\Dk K H d x/\Ak K H ds r
end
structure Kp(H H':Hp):Prop where
 t:∀b xs,H b=some (.tup xs)->H' b=some (.tup xs)
 f:∀b o u,H b=some (.frz o u)->H' b=some (.frz o u)
theorem Kp.refl{H:Hp}:Kp H H:=⟨λ_ _ h=>h,λ_ _ _ h=>h⟩
theorem Kp.trans{H H1 H2:Hp}(a:Kp H H1)(b:Kp H1 H2):Kp H H2:=⟨λc xs h=>b.t c xs (a.t c xs h),λc o u h=>b.f c o u (a.f c o u h)⟩
theorem Kp.new{H:Hp}{p:Addr}(h:H p=none)(o:HO):Kp H (upd H p o) :=
 ⟨λb xs e=>by rw [Aw (B5 e h)];exact e,λb o' u e=>by rw [Aw (B5 e h)];exact e⟩
def Mt:HO->Prop
 | .lst _=>True
 | .dK _=>True
 | .dT _=>True
 | .dd _=>True
 | _=>False
theorem Kp.put{H:Hp}{p:Addr}{o0:HO}(h:H p=some o0)(m:Mt o0)(o:HO):Kp H (upd H p o) :=
 ⟨λb xs e=>by rw [Aw (Qj e h (by intro z;subst z;exact m))];exact e,λb o' u e=>by rw [Aw (Qj e h (by intro z;subst z;exact m))];exact e⟩
theorem Yy.kp{K:PySem.W.Frag}{H H':Hp}{a:Addr}{xs:List V}(S:Kp H H')(h:Yy K H a xs):Yy K H' a xs:=by
 rcases h with⟨o,h⟩ | h
 ·exact .inl ⟨o,S.f _ _ _ h⟩
 ·exact .inr h
theorem FzT.kp{K:PySem.W.Frag}{H H':Hp}{a:Addr}{ds:List PyData}{xs:List V}(S:Kp H H')(h:FzT K H a ds xs):FzT K H' a ds xs:=by
 rcases h with h | h
 ·exact .inl (S.t _ _ h)
 ·exact .inr h
section
variable {K:PySem.W.Frag}{H H':Hp}
mutual
theorem Dk.kp(S:Kp H H'):∀(d:PyData) (x:V),Dk K H d x->Dk K H' d x
 | .none,x,h=>by simp only [Dk]at h ⊢;exact h
 | .bool b,x,h=>by simp only [Dk]at h ⊢;exact h
 | .int i,x,h=>by simp only [Dk]at h ⊢;exact h
 | .str z,x,h=>by simp only [Dk]at h ⊢;exact h
 | .list ds,x,h=>by
  simp only [Dk]at h ⊢
  obtain⟨a,xs,e,q,r⟩:=h
  exact⟨a,xs,e,q.kp S,Ak.kp S ds xs r⟩
 | .tuple ds,x,h=>by
  simp only [Dk]at h ⊢
  obtain⟨a,xs,e,q,r⟩:=h
  exact⟨a,xs,e,q.kp S,Ak.kp S ds xs r⟩
 | .dict _,x,h=>by simp only [Dk]at h
theorem Ak.kp(S:Kp H H'):∀(ds:List PyData) (xs:List V),Ak K H ds xs->Ak K H' ds xs
 | [],xs,h=>by simp only [Ak]at h ⊢;exact h
 | d :: ds,xs,h=>by
  simp only [Ak]at h ⊢
  obtain⟨x,r,e,h1,h2⟩:=h
  exact⟨x,r,e,Dk.kp S d x h1,Ak.kp S ds r h2⟩
end
theorem De{i:Int}:Dk K H (.int i) (.int i):=by simp only [Dk]
theorem Kl{b:Bool}:Dk K H (.bool b) (.bl b):=by simp only [Dk]
theorem O7{z:Str}:Dk K H (.str z) (.str z):=by simp only [Dk]
theorem Vl:Dk K H .none .non:=by simp only [Dk]
theorem Dk.int{x:V}{i:Int}(h:Dk K H (.int i) x):x=.int i:=by simp only [Dk]at h;exact h
theorem Dk.bl{x:V}{i:Bool}(h:Dk K H (.bool i) x):x=.bl i:=by simp only [Dk]at h;exact h
theorem Dk.str{x:V}{i:Str}(h:Dk K H (.str i) x):x=.str i:=by simp only [Dk]at h;exact h
theorem Dk.non{x:V}(h:Dk K H .none x):x=.non:=by simp only [Dk]at h;exact h
theorem Dk.tup{x:V}{ds:List PyData}(h:Dk K H (.tuple ds) x):∃a xs,x=.ref a/\FzT K H a ds xs/\Ak K H ds xs:=by simp only [Dk]at h;exact h
theorem Dk.lst{x:V}{ds:List PyData}(h:Dk K H (.list ds) x):∃a xs,x=.ref a/\Yy K H a xs/\Ak K H ds xs:=by simp only [Dk]at h;exact h
theorem Ly{a:Addr}{xs:List V}{ds:List PyData}(h:H a=some (.tup xs))(r:Ak K H ds xs):Dk K H (.tuple ds) (.ref a):=by simp only [Dk];exact⟨a,xs,rfl,.inl h,r⟩
theorem Qc4{a:Addr}{xs:List V}{ds:List PyData}(h:Yy K H a xs)(r:Ak K H ds xs):Dk K H (.list ds) (.ref a):=by simp only [Dk];exact⟨a,xs,rfl,h,r⟩
theorem C9:Ak K H [] []:=by simp only [Ak]
theorem Ca{d:PyData}{ds:List PyData}{x:V}{xs:List V}(h:Dk K H d x)(r:Ak K H ds xs):Ak K H (d :: ds) (x :: xs):=by simp only [Ak];exact⟨x,xs,rfl,h,r⟩
theorem Ak.cons{d:PyData}{ds:List PyData}{xs:List V}(h:Ak K H (d :: ds) xs):∃x r,xs=x :: r/\Dk K H d x/\Ak K H ds r:=by simp only [Ak]at h;exact h
theorem Ak.nil{xs:List V}(h:Ak K H [] xs):xs=[]:=by simp only [Ak]at h;exact h
theorem Ak.length:∀{ds:List PyData} {xs:List V},Ak K H ds xs->xs.length=ds.length
 | [],_,h=>by rw [h.nil];rfl
 | _ :: ds,_,h=>by
  obtain⟨x,r,rfl,_,h2⟩:=h.cons
  rw [Ybp,Ybp,Ak.length h2]
theorem Ak.get:∀{ds:List PyData} {xs:List V} {i:Nat} {d:PyData},Ak K H ds xs->ds[i]?=some d->∃x,xs[i]?=some x/\Dk K H d x
 | [],_,_,_,_,e=>by simp at e
 | _ :: ds,_,0,d,h,e=>by
  obtain⟨x,r,rfl,h1,_⟩:=h.cons
  simp at e;subst e
  exact⟨x,rfl,h1⟩
 | _ :: ds,_,i+1,d,h,e=>by
  obtain⟨x,r,rfl,_,h2⟩:=h.cons
  obtain⟨y,e1,e2⟩:=Ak.get (i:=i) (d:=d) h2 (by simpa using e)
  exact⟨y,by simpa using e1,e2⟩
theorem Ak.append:∀{ds es:List PyData} {xs ys:List V},Ak K H ds xs->Ak K H es ys->Ak K H (ds++es) (xs++ys)
 | [],_,_,_,h,k=>by rw [h.nil];exact k
 | _ :: ds,_,_,_,h,k=>by
  obtain⟨x,r,rfl,h1,h2⟩:=h.cons
  exact Ca h1 (Ak.append h2 k)
theorem Ak.drop:∀(n:Nat) {ds:List PyData} {xs:List V},Ak K H ds xs->Ak K H (ds.drop n) (xs.drop n)
 | 0,_,_,h=>h
 | _+1,[],_,h=>by rw [h.nil];exact C9
 | n+1,_ :: ds,_,h=>by
  obtain⟨x,r,rfl,_,h2⟩:=h.cons
  exact Ak.drop n h2
theorem Ak.take:∀(n:Nat) {ds:List PyData} {xs:List V},Ak K H ds xs->Ak K H (ds.take n) (xs.take n)
 | 0,_,_,_=>C9
 | _+1,[],_,h=>by rw [h.nil];exact C9
 | n+1,_ :: ds,_,h=>by
  obtain⟨x,r,rfl,h1,h2⟩:=h.cons
  exact Ca h1 (Ak.take n h2)
theorem Ak.cut{ds:List PyData}{xs:List V}(h:Ak K H ds xs)(lo hi:Option Int):Ak K H (Dj ds lo hi) (Jv xs lo hi):=by
 unfold Dj Jv
 rw [h.length]
 exact(h.drop _).take _
theorem Ak.atI{ds:List PyData}{xs:List V}{i:Int}{d:PyData}(h:Ak K H ds xs)(e:atI ds i=some d):∃x,L2.atI xs i=some x/\Dk K H d x:=by
 unfold L2.atI at e ⊢
 rw [h.length]
 cases q:Ue ds.length i with
 | none=>rw [q]at e;cases e
 | some j =>
  rw [q]at e
  obtain⟨x,hx,hd⟩:=h.get (show ds[j]?=some d from e)
  exact⟨x,hx,hd⟩
def Hn(K:PySem.W.Frag)(H:Hp):List (Str×PyData)->List (Str×V)->Prop:=Paired λp q=>p.1=q.1/\Dk K H p.2 q.2
theorem Hn.kp{fs:List (Str×PyData)}{vs:List (Str×V)}(S:Kp H H')(h:Hn K H fs vs):Hn K H' fs vs:=Paired.mapP h λp q r=>⟨r.1,Dk.kp S _ _ r.2⟩
def XFs(K:PySem.W.Frag)(H:Hp)(d:Option Addr)(fs:List (Str×PyData)):Prop:=match d with
 | none=>fs=[]
 | some d=>∃od ba,H d=some (.frz od (XD d ba))/\Hn K H fs ba
theorem XFs.kp{d:Option Addr}{fs:List (Str×PyData)}(S:Kp H H')(h:XFs K H d fs):XFs K H' d fs:=by
 cases d with
 | none=>exact h
 | some d=>obtain⟨od,ba,q,r⟩:=h;exact⟨od,ba,S.f _ _ _ q,r.kp S⟩
def RelA(K:PySem.W.Frag)(H:Hp):AV->V->Prop
 | .D d,v=>Dk K H d v
 | .R a,v=>v=.ref a
 | .C ds,v=>∃a xs,v=.ref a/\(∀H,Gi K H a xs)/\Ak K H ds xs
 | .X C fs,v=>∃a o d,v=.ref a/\H a=some (.frz o (XR a C d))/\XFs K H d fs
theorem C0{i:Int}:RelA K H (.D (.int i)) (.int i):=De (K:=K) (H:=H)
theorem Cv{i:Bool}:RelA K H (.D (.bool i)) (.bl i):=Kl (K:=K) (H:=H)
theorem Ih{i:Str}:RelA K H (.D (.str i)) (.str i):=O7 (K:=K) (H:=H)
theorem Lz:RelA K H (.D .none) .non:=Vl (K:=K) (H:=H)
theorem RelA.int{x:V}{i:Int}(h:RelA K H (.D (.int i)) x):x=.int i:=Dk.int (K:=K) (H:=H) h
theorem RelA.bl{x:V}{i:Bool}(h:RelA K H (.D (.bool i)) x):x=.bl i:=Dk.bl (K:=K) (H:=H) h
theorem RelA.str{x:V}{i:Str}(h:RelA K H (.D (.str i)) x):x=.str i:=Dk.str (K:=K) (H:=H) h
theorem RelA.non{x:V}(h:RelA K H (.D .none) x):x=.non:=Dk.non (K:=K) (H:=H) h
theorem RelA.tup{x:V}{ds:List PyData}(h:RelA K H (.D (.tuple ds)) x):∃a xs,x=.ref a/\FzT K H a ds xs/\Ak K H ds xs:=Dk.tup (K:=K) (H:=H) h
theorem RelA.lst{x:V}{ds:List PyData}(h:RelA K H (.D (.list ds)) x):∃a xs,x=.ref a/\Yy K H a xs/\Ak K H ds xs:=Dk.lst (K:=K) (H:=H) h
theorem Eb{a:Addr}:RelA K H (.R a) (.ref a):=rfl
theorem M9{d:PyData}{v:V}(h:Dk K H d v):RelA K H (.D d) v:=h
theorem Ii{a:Addr}{xs:List V}{ds:List PyData}(h:H a=some (.tup xs))(r:Ak K H ds xs):RelA K H (.D (.tuple ds)) (.ref a):=Ly (K:=K) (H:=H) h r
abbrev Au(K:PySem.W.Frag)(H:Hp):List AV->List V->Prop:=Paired (RelA K H)
theorem RelA.kp(S:Kp H H'):∀{x:AV} {v:V},RelA K H x v->RelA K H' x v
 | .D d,v,h=>Dk.kp S d v h
 | .R a,_,h=>h
 | .C ds,v,⟨a,xs,e,q,r⟩=>⟨a,xs,e,q,Ak.kp S ds xs r⟩
 | .X C fs,v,⟨a,o,d,e,q,r⟩=>⟨a,o,d,e,S.f _ _ _ q,r.kp S⟩
theorem Au.kp(S:Kp H H'){xs:List AV}{vs:List V}(h:Au K H xs vs):Au K H' xs vs:=Paired.mapP h λ_ _ q=>q.kp S
theorem Au.length{xs:List AV}{vs:List V}(h:Au K H xs vs):xs.length=vs.length:=Paired.length h
theorem Au.append{xs ys:List AV}{us ws:List V}(h:Au K H xs us)(s:Au K H ys ws):Au K H (xs++ys) (us++ws):=by
 induction h with
 | nil=>exact s
 | cons r t ih=>exact .cons r ih
theorem Au.get:∀{xs:List AV} {us:List V} {i:Nat} {x:AV},Au K H xs us->xs[i]?=some x->∃u,us[i]?=some u/\RelA K H x u
 | _,_,_,_,.nil,e=>by simp at e
 | _,_,0,_,.cons r _,e=>by simp at e;subst e;exact⟨_,rfl,r⟩
 | _,_,i+1,x,.cons _ t,e=>by
  obtain⟨u,h1,h2⟩:=Au.get (i:=i) (x:=x) t (by simpa using e)
  exact⟨u,by simpa using h1,h2⟩
theorem Au.set{x:AV}{u:V}(r:RelA K H x u):∀{xs:List AV} {us:List V} (i:Nat),Au K H xs us->Au K H (xs.set i x) (us.set i u)
 | _,_,_,.nil=>.nil
 | _,_,0,.cons _ t=>.cons r t
 | _,_,i+1,.cons q t=>.cons q (Au.set r i t)
theorem Au.drop:∀{xs:List AV} {us:List V} (n:Nat),Au K H xs us->Au K H (xs.drop n) (us.drop n)
 | _,_,0,r=>r
 | _,_,_+1,.nil=>.nil
 | _,_,n+1,.cons _ t=>Au.drop n t
theorem Au.take:∀{xs:List AV} {us:List V} (n:Nat),Au K H xs us->Au K H (xs.take n) (us.take n)
 | _,_,0,_=>.nil
 | _,_,_+1,.nil=>.nil
 | _,_,n+1,.cons r t=>.cons r (Au.take n t)
theorem Au.rev{xs:List AV}{us:List V}(h:Au K H xs us):Au K H xs.reverse us.reverse:=by
 induction h with
 | nil=>exact .nil
 | cons r t ih=>rw [Ye1,Ye1];exact ih.append (.cons r .nil)
def Qc5(xs:List AV)(lo hi:Option Int):List AV:=(xs.drop (HT.sIx xs.length 0 lo)).take (HT.sIx xs.length xs.length hi - HT.sIx xs.length 0 lo)
theorem Au.cut{xs:List AV}{us:List V}(h:Au K H xs us)(lo hi:Option Int):Au K H (Qc5 xs lo hi) (Jv us lo hi):=by
 unfold Qc5 Jv
 rw [h.length]
 exact(h.drop _).take _
theorem Au.atI{xs:List AV}{us:List V}{i:Int}{x:AV}(h:Au K H xs us)(e:atI xs i=some x):∃u,L2.atI us i=some u/\RelA K H x u:=by
 unfold L2.atI at e ⊢
 rw [<- h.length]
 cases q:Ue xs.length i with
 | none=>rw [q]at e;cases e
 | some j =>
  rw [q]at e
  obtain⟨x,hx,hd⟩:=h.get (show xs[j]?=some x from e)
  exact⟨x,hx,hd⟩
def dats:List AV->Option (List PyData)
 | []=>some []
 | .D d :: r=>match dats r with
  | some ds=>some (d :: ds)
  | none=>none
 | .R _ :: _=>none
 | .C _ :: _=>none
 | .X _ _ :: _=>none
@[simp] theorem dats_nil:dats []=some []:=rfl
theorem B6:∀(ds:List PyData),dats (ds.map .D)=some ds
 | []=>rfl
 | d :: ds=>by simp only [List.map_cons,dats,B6 ds]
theorem Ey:∀{xs:List AV} {ds:List PyData},dats xs=some ds->xs=ds.map .D
 | [],ds,h=>by cases h;rfl
 | .D d :: r,ds,h=>by
  simp only [dats]at h
  cases q:dats r with
  | none=>rw [q]at h;cases h
  | some es=>rw [q]at h;cases h;rw [Ey q];rfl
 | .R _ :: _,_,h=>by simp [dats]at h
 | .C _ :: _,_,h=>by simp [dats]at h
 | .X _ _ :: _,_,h=>by simp [dats]at h
theorem Au.dk:∀{ds:List PyData} {vs:List V},Au K H (ds.map .D) vs->Ak K H ds vs
 | [],_,h=>by cases h;exact C9
 | _ :: _,_,h=>by
  rw [Ycc]at h
  cases h with
  | cons r t=>exact Ca r (Au.dk t)
theorem Ak.rel:∀{ds:List PyData} {vs:List V},Ak K H ds vs->Au K H (ds.map .D) vs
 | [],_,h=>by rw [h.nil];exact .nil
 | _ :: _,_,h=>by
  obtain⟨x,r,rfl,h1,h2⟩:=h.cons
  exact .cons h1 (Ak.rel h2)
theorem Au.dats{xs:List AV}{vs:List V}{ds:List PyData}(h:Au K H xs vs)(e:dats xs=some ds):Ak K H ds vs:=by rw [Ey e]at h;exact h.dk
inductive MO where
 | lst (xs:List AV) | dk (ba:List (Key×AV)) | dt (ba:List (List Key×AV)) | dd (ba:List (PyData×AV))
abbrev M:=Addr->Option MO
def Bh(μ:M)(a:Addr)(m:MO):M:=λb=>if b=a then some m else μ b
theorem Ag{μ:M}{a:Addr}{m:MO}:Bh μ a m a=some m:=by unfold Bh;rw [Yak rfl]
theorem An{μ:M}{a b:Addr}{m:MO}(h:b≠a):Bh μ a m b=μ b:=by unfold Bh;rw [Yah h]
theorem Sy{μ:M}{a:Addr}{m n:MO}:Bh (Bh μ a m) a n=Bh μ a n:=by funext b;unfold Bh;split <;> rfl
def Vm{κ:Type}(K:PySem.W.Frag)(H:Hp):List (κ×AV)->List (κ×V)->Prop:=Paired λp q=>p.1=q.1/\RelA K H p.2 q.2
theorem Vm.kp{κ:Type}(S:Kp H H'){xs:List (κ×AV)}{vs:List (κ×V)}(h:Vm K H xs vs):Vm K H' xs vs:=Paired.mapP h λ_ _ q=>⟨q.1,q.2.kp S⟩
def Yz(K:PySem.W.Frag)(H:Hp):List (PyData×AV)->List (PyData×Addr×Value)->Prop:=Paired λp q=>p.1=q.1/\KeyTree p.1/\Dk K H p.1 (.ref q.2.1)/\∃v,RelA K H p.2 v/\Bj v q.2.2
theorem Yz.kp(S:Kp H H'){xs:List (PyData×AV)}{vs:List (PyData×Addr×Value)}(h:Yz K H xs vs):Yz K H' xs vs:=Paired.mapP h λ_ _ ⟨a,b,c,v,r,q⟩=>⟨a,b,Dk.kp S _ _ c,v,r.kp S,q⟩
def L3(K:PySem.W.Frag)(H:Hp):MO->HO->Prop
 | .lst xs,o=>∃vs,o=.lst vs/\Au K H xs vs
 | .dk ba,o=>∃vs,o=.dK vs/\Vm K H ba vs
 | .dt ba,o=>∃vs,o=.dT vs/\Vm K H ba vs
 | .dd ba,o=>∃xs,o=.dd xs/\Yz K H ba xs
theorem L3.kp(S:Kp H H'){m:MO}{o:HO}(h:L3 K H m o):L3 K H' m o:=by
 cases m with
 | lst xs=>obtain⟨vs,e,r⟩:=h;exact⟨vs,e,r.kp S⟩
 | dk xs=>obtain⟨vs,e,r⟩:=h;exact⟨vs,e,r.kp S⟩
 | dt xs=>obtain⟨vs,e,r⟩:=h;exact⟨vs,e,r.kp S⟩
 | dd xs=>obtain⟨vs,e,r⟩:=h;exact⟨vs,e,r.kp S⟩
theorem C8{xs:List AV}{vs:List V}(h:Au K H xs vs):L3 K H (.lst xs) (.lst vs):=⟨vs,rfl,h⟩
theorem L3.mt{m:MO}{o:HO}(h:L3 K H m o):Mt o:=by
 cases m with
 | lst xs=>obtain⟨vs,rfl,r⟩:=h;trivial
 | dk xs=>obtain⟨vs,rfl,r⟩:=h;trivial
 | dt xs=>obtain⟨vs,rfl,r⟩:=h;trivial
 | dd xs=>obtain⟨vs,rfl,r⟩:=h;trivial
def Cn(K:PySem.W.Frag)(μ:M)(H:Hp):Prop:=∀a m,μ a=some m->∃o,H a=some o/\L3 K H m o
theorem Cn.none{μ:M}{p:Addr}(c:Cn K μ H)(h:H p=none):μ p=none:=by
 cases q:μ p with
 | none=>rfl
 | some m=>obtain⟨o,e,_⟩:=c p m q;rw [h]at e;cases e
theorem Cn.over{μ:M}{p:Addr}{o:HO}(c:Cn K μ H)(h:H p=Option.none):Cn K μ (upd H p o):=λa m e=>by
 obtain⟨o',e',r⟩:=c a m e
 exact⟨o',by rw [Aw (B5 e' h)];exact e',r.kp (Kp.new h o)⟩
theorem Cn.new{μ:M}{p:Addr}{m:MO}{o:HO}(c:Cn K μ H)(h:H p=Option.none)(r:L3 K H m o):Cn K (Bh μ p m) (upd H p o):=λa m' e=>by
 by_cases ha:a=p
 ·subst ha;rw [Ag]at e;cases e;exact⟨o,A9,r.kp (Kp.new h o)⟩
 ·rw [An ha]at e;exact c.over h a m' e
theorem Cn.put{μ:M}{p:Addr}{m:MO}{o o0:HO}(c:Cn K μ H)(h:H p=some o0)(hm:Mt o0)(r:L3 K H m o):Cn K (Bh μ p m) (upd H p o):=λa m' e=>by
 by_cases ha:a=p
 ·subst ha;rw [Ag]at e;cases e;exact⟨o,A9,r.kp (Kp.put h hm o)⟩
 ·rw [An ha]at e
  obtain⟨o',e',r'⟩:=c a m' e
  exact⟨o',by rw [Aw ha];exact e',r'.kp (Kp.put h hm o)⟩
def Sub(μ ν:M):Prop:=∀a m,μ a=some m->ν a=some m
theorem Sub.refl{μ:M}:Sub μ μ:=λ_ _ h=>h
theorem Sub.new{μ ν:M}{p:Addr}{m:MO}(h:Sub μ ν)(e:μ p=none):Sub μ (Bh ν p m):=λa m' e'=>by
 rw [An (by intro z;subst z;rw [e]at e';cases e')];exact h a m' e'
theorem Sub.none{μ ν:M}{p:Addr}(h:Sub μ ν)(e:ν p=none):μ p=none:=by
 cases q:μ p with
 | none=>rfl
 | some m=>rw [h p m q]at e;cases e
theorem Cn.sub{μ ν:M}(c:Cn K ν H)(h:Sub μ ν):Cn K μ H:=λa m e=>c a m (h a m e)
abbrev ASt:=List (Option AV)
def Km(K:PySem.W.Frag)(H:Hp)(a:Option AV)(b:Option V):Prop:=∀x,a=some x->∃v,b=some v/\RelA K H x v
abbrev C4(K:PySem.W.Frag)(H:Hp):ASt->St->Prop:=Paired (Km K H)
theorem Km.kp{a:Option AV}{b:Option V}(S:Kp H H')(h:Km K H a b):Km K H' a b:=λx e=>let⟨v,e2,r⟩:=h x e;⟨v,e2,r.kp S⟩
theorem C4.kp{τ:ASt}{σ:St}(S:Kp H H')(h:C4 K H τ σ):C4 K H' τ σ:=Paired.mapP h λ_ _ q=>q.kp S
theorem C4.get:∀{τ:ASt} {σ:St} {i:Nat} {x:AV},C4 K H τ σ->τ[i]?=some (some x)->∃v,σ[i]?=some (some v)/\RelA K H x v
 | _,_,_,_,.nil,e=>by simp at e
 | _,_,0,_,.cons r _,e=>by simp at e;subst e;obtain⟨v,rfl,q⟩:=r _ rfl;exact⟨v,rfl,q⟩
 | _,_,i+1,x,.cons _ t,e=>by
  obtain⟨u,h1,h2⟩:=C4.get (i:=i) (x:=x) t (by simpa using e)
  exact⟨u,by simpa using h1,h2⟩
theorem Ij{x:AV}{v:V}(r:RelA K H x v):Km K H (some x) (some v):=λy e=>by cases e;exact⟨v,rfl,r⟩
theorem Ec{b:Option V}:Km K H none b:=λy e=>nomatch e
theorem C4.set{x:AV}{v:V}(r:RelA K H x v):∀{τ:ASt} {σ:St} (i:Nat),C4 K H τ σ->C4 K H (τ.set i (some x)) (σ.set i (some v))
 | _,_,_,.nil=>.nil
 | _,_,0,.cons _ t=>.cons (Ij r) t
 | _,_,i+1,.cons q t=>.cons q (C4.set r i t)
def Ed(N:List Str)(xs:List AV):ASt:=xs.map some++List.replicate (N.length - xs.length) none
theorem C4.rep:∀(n:Nat),C4 K H (List.replicate n none) (List.replicate n none)
 | 0=>.nil
 | n+1=>.cons Ec (C4.rep n)
theorem C4.somes:∀{xs:List AV} {vs:List V},Au K H xs vs->C4 K H (xs.map some) (vs.map some)
 | _,_,.nil=>.nil
 | _,_,.cons r t=>.cons (Ij r) (C4.somes t)
theorem C4.append{τ τ':ASt}{σ σ':St}(h:C4 K H τ σ)(s:C4 K H τ' σ'):C4 K H (τ++τ') (σ++σ'):=by
 induction h with
 | nil=>exact s
 | cons r t ih=>exact .cons r ih
theorem C4.begin{N:List Str}{xs:List AV}{vs:List V}(h:Au K H xs vs):C4 K H (Ed N xs) (start N vs):=by
 unfold Ed start
 rw [h.length]
 exact(C4.somes h).append (C4.rep _)
def Qgc(mp:List (Option Nat))(τ:ASt):ASt:=mp.map λo=>match o with
 | none=>none
 | some j=>match τ[j]? with
  | some x=>x
  | none=>none
theorem C4.sub{τ:ASt}{σ:St}(h:C4 K H τ σ):∀(mp:List (Option Nat)),C4 K H (Qgc mp τ) (M3 mp σ)
 | []=>.nil
 | none :: mp=>.cons Ec (C4.sub h mp)
 | some j :: mp=>by
  refine .cons (λx e=>?_) (C4.sub h mp)
  have e':τ[j]?=some (some x):=by
   dsimp only at e
   cases q:τ[j]? with
   | none=>rw [q]at e;cases e
   | some y=>rw [q]at e;exact Ydl some e
  obtain⟨v,hv,r⟩:=h.get e'
  refine⟨v,?_,r⟩
  show(σ[j]?).join=some v
  rw [hv];rfl
end
abbrev AE:=ASt->M->(AV->M->Prop)->Prop
abbrev AT:=ASt->M->(Bool->M->Prop)->Prop
abbrev AA:=ASt->M->(List AV->M->Prop)->Prop
abbrev AO:=ASt->M->(Option Int->M->Prop)->Prop
abbrev AS:=(ASt->M->Prop)->(AV->M->Prop)->(ASt->M->Prop)->(ASt->M->Prop)->ASt->M->Prop
abbrev AG:=AV->ASt->M->(ASt->M->Prop)->Prop
abbrev AGs:=List AV->ASt->M->(ASt->M->Prop)->Prop
abbrev A2:=AV->AV->M->(AV->M->Prop)->Prop
abbrev AC:=List AV->M->(AV->M->Prop)->Prop
@[irreducible] def brP (b:Bool) (T F:Prop):Prop:=match b with
 | true=>T
 | false=>F
@[irreducible] def opt {α:Type} (o:Option α) (k:α->Prop):Prop:=match o with
 | some x=>k x
 | none=>False
theorem br{b:Bool}{T F:Prop}(h1:b=true->T)(h2:b=false->F):brP b T F:=by
 unfold brP;cases b with
 | true=>exact h1 rfl
 | false=>exact h2 rfl
theorem Mw{b:Bool}{T F:Prop}(hb:b=true)(h:T):brP b T F:=by subst hb;unfold brP;exact h
theorem Uf{b:Bool}{T F:Prop}(hb:b=false)(h:F):brP b T F:=by subst hb;unfold brP;exact h
theorem Vn{T F:Prop}:brP true T F=T:=by unfold brP;rfl
theorem br_e{b:Bool}{T F:Prop}(h:brP b T F):(b=true/\T)\/(b=false/\F):=by
 unfold brP at h;cases b with
 | true=>exact .inl ⟨rfl,h⟩
 | false=>exact .inr ⟨rfl,h⟩
theorem Ae{α:Type}{o:Option α}{x:α}{k:α->Prop}(h:o=some x)(q:k x):opt o k:=by subst h;unfold opt;exact q
theorem Ba{α:Type}{o:Option α}{k:α->Prop}(h:opt o k):∃x,o=some x/\k x:=by
 unfold opt at h;cases o with
 | none=>exact h.elim
 | some x=>exact⟨x,rfl,h⟩
theorem dif{p:Prop} [Decidable p]{T F:Prop}(h1:p->T)(h2:¬p->F):brP (decide p) T F:=br (λh=>h1 (Ybh h)) (λh=>h2 (Yda h))
def LV(K:PySem.W.Frag)(H:Hp)(R:AV->M->Prop)(Q:VK):Prop:=∀x μ v H',Kp H H'->Cn K μ H'->RelA K H' x v->R x μ->Q v H'
def LB(K:PySem.W.Frag)(H:Hp)(R:Bool->M->Prop)(Q:Bool->Hp->Prop):Prop:=∀b μ H',Kp H H'->Cn K μ H'->R b μ->Q b H'
def LA(K:PySem.W.Frag)(n:Nat)(H:Hp)(R:List AV->M->Prop)(Q:List V->Hp->Prop):Prop:=∀xs μ vs H',Kp H H'->Cn K μ H'->Au K H' xs vs->xs.length=n->R xs μ->Q vs H'
def LO(K:PySem.W.Frag)(H:Hp)(R:Option Int->M->Prop)(Q:Option Int->Hp->Prop):Prop:=∀b μ H',Kp H H'->Cn K μ H'->R b μ->Q b H'
def LS(K:PySem.W.Frag)(H:Hp)(R:ASt->M->Prop)(Q:St->Hp->Prop):Prop:=∀ τ μ σ H',Kp H H'->C4 K H' τ σ->Cn K μ H'->R τ μ->Q σ H'
theorem LV.kp{K:PySem.W.Frag}{H H':Hp}{R:AV->M->Prop}{Q:VK}(h:LV K H R Q)(S:Kp H H'):LV K H' R Q:=λx μ v H2 S2=>h x μ v H2 (S.trans S2)
theorem LB.kp{K:PySem.W.Frag}{H H':Hp}{R:Bool->M->Prop}{Q:Bool->Hp->Prop}(h:LB K H R Q)(S:Kp H H'):LB K H' R Q:=λx μ H2 S2=>h x μ H2 (S.trans S2)
theorem LS.kp{K:PySem.W.Frag}{H H':Hp}{R:ASt->M->Prop}{Q:St->Hp->Prop}(h:LS K H R Q)(S:Kp H H'):LS K H' R Q:=λx μ v H2 S2=>h x μ v H2 (S.trans S2)
structure LE'(K:PySem.W.Frag)(H:Hp)(k:ASt->M->Prop)(r:AV->M->Prop)(b c:ASt->M->Prop)(D:Ends):Prop where
 nx:LS K H k D.nx
 rt:LV K H r D.rt
 bk:LS K H b D.bk
 ct:LS K H c D.ct
theorem LE'.kp{K:PySem.W.Frag}{H H':Hp}{k:ASt->M->Prop}{r:AV->M->Prop}{b c:ASt->M->Prop}{D:Ends}(h:LE' K H k r b c D)(S:Kp H H'):LE' K H' k r b c D:=⟨h.nx.kp S,h.rt.kp S,h.bk.kp S,h.ct.kp S⟩
def cE(K:PySem.W.Frag)(t:AE):TE:=fun σ H Q=>∃ τ μ R,C4 K H τ σ/\Cn K μ H/\t τ μ R/\LV K H R Q
def cT(K:PySem.W.Frag)(t:AT):TT:=fun σ H Q=>∃ τ μ R,C4 K H τ σ/\Cn K μ H/\t τ μ R/\LB K H R Q
def cA(K:PySem.W.Frag)(n:Nat)(t:AA):TA:=fun σ H Q=>∃ τ μ R,C4 K H τ σ/\Cn K μ H/\t τ μ R/\LA K n H R Q
def cO(K:PySem.W.Frag)(t:AO):TO:=fun σ H Q=>∃ τ μ R,C4 K H τ σ/\Cn K μ H/\t τ μ R/\LO K H R Q
def cS(K:PySem.W.Frag)(t:AS):TS:=λD σ H=>∃ τ μ k r b c,C4 K H τ σ/\Cn K μ H/\t k r b c τ μ/\LE' K H k r b c D
def cG(K:PySem.W.Frag)(t:AG):TG:=λv σ H Q=>∃x τ μ R,RelA K H x v/\C4 K H τ σ/\Cn K μ H/\t x τ μ R/\LS K H R Q
def cGs(K:PySem.W.Frag)(t:AGs):TGs:=λvs σ H Q=>∃xs τ μ R,Au K H xs vs/\C4 K H τ σ/\Cn K μ H/\t xs τ μ R/\LS K H R Q
def cR(K:PySem.W.Frag)(r:A2):R2:=λx y H Q=>∃a b μ R,RelA K H a x/\RelA K H b y/\Cn K μ H/\r a b μ R/\LV K H R Q
def cC(K:PySem.W.Frag)(r:AC):List V->Hp->VK->Prop:=λxs H Q=>∃as μ R,Au K H as xs/\Cn K μ H/\r as μ R/\LV K H R Q
def cM(K:PySem.W.Frag)(r:AV->AC):V->List V->Hp->VK->Prop:=λx xs H Q=>∃a as μ R,RelA K H a x/\Au K H as xs/\Cn K μ H/\r a as μ R/\LV K H R Q
def VE(X:Cx)(e:Expr)(t:AE):Prop:=PE X e (cE X.K t)
def VT(X:Cx)(e:Expr)(t:AT):Prop:=PT X e (cT X.K t)
def VW(X:Cx)(e:Expr)(t:AT):Prop:=PW X e (cT X.K t)
def VA(X:Cx)(es:List Expr)(t:AA):Prop:=PA X es (cA X.K es.length t)
def VO(X:Cx)(e:Option Expr)(t:AO):Prop:=PO X e (cO X.K t)
def VS(X:Cx)(st:Stmt)(t:AS):Prop:=PS X st (cS X.K t)
def VSs(X:Cx)(st:List Stmt)(t:AS):Prop:=PSs X st (cS X.K t)
def VG(X:Cx)(e:Expr)(t:AG):Prop:=PG X e (cG X.K t)
def VGs(X:Cx)(es:List Expr)(t:AGs):Prop:=PGs X es (cGs X.K t)
def VOp(X:Cx)(f:Value->Value->Sem Value)(r:A2):Prop:=Fq X f (cR X.K r)
def VIx(X:Cx)(r:A2):Prop:=IxR X (cR X.K r)
def VCall(X:Cx)(f:Value)(r:AC):Prop:=Ej X f (cC X.K r)
def VMt(X:Cx)(id:String)(r:AV->AC):Prop:=MtR X id (cM X.K r)
section
variable {X:Cx}
theorem PE.imp{e:Expr}{t u:TE}(h:PE X e t)(i:∀ σ H Q,u σ H Q->t σ H Q):PE X e u:=λaa s σ H Q I q=>h aa s σ H Q I (i σ H Q q)
theorem PT.imp{e:Expr}{t u:TT}(h:PT X e t)(i:∀ σ H Q,u σ H Q->t σ H Q):PT X e u:=λaa s σ H Q I q=>h aa s σ H Q I (i σ H Q q)
theorem PW.imp{e:Expr}{t u:TT}(h:PW X e t)(i:∀ σ H Q,u σ H Q->t σ H Q):PW X e u:=λwh aa s σ H Q I q=>h wh aa s σ H Q I (i σ H Q q)
theorem PA.imp{e:List Expr}{t u:TA}(h:PA X e t)(i:∀ σ H Q,u σ H Q->t σ H Q):PA X e u:=λpos aa s σ H Q I q=>h pos aa s σ H Q I (i σ H Q q)
theorem PO.imp{e:Option Expr}{t u:TO}(h:PO X e t)(i:∀ σ H Q,u σ H Q->t σ H Q):PO X e u:=λaa s σ H Q I q=>h aa s σ H Q I (i σ H Q q)
theorem PS.imp{e:Stmt}{t u:TS}(h:PS X e t)(i:∀D σ H,u D σ H->t D σ H):PS X e u:=λaa s σ H D I q=>h aa s σ H D I (i D σ H q)
theorem PSs.imp{e:List Stmt}{t u:TS}(h:PSs X e t)(i:∀D σ H,u D σ H->t D σ H):PSs X e u:=λaa s σ H D I q=>h aa s σ H D I (i D σ H q)
theorem PG.imp{e:Expr}{t u:TG}(h:PG X e t)(i:∀v σ H Q,u v σ H Q->t v σ H Q):PG X e u:=λaa s σ H v w Q I r q=>h aa s σ H v w Q I r (i v σ H Q q)
theorem PGs.imp{e:List Expr}{t u:TGs}(h:PGs X e t)(i:∀v σ H Q,u v σ H Q->t v σ H Q):PGs X e u:=λaa s σ H v w Q I r q=>h aa s σ H v w Q I r (i v σ H Q q)
def L4(i:Nat):AE:=fun τ μ R=>match τ[i]? with
 | some (some x)=>R x μ
 | _=>False
theorem Vo{K:PySem.W.Frag}{i:Nat}{σ:St}{H:Hp}{Q:VK}(h:cE K (L4 i) σ H Q):Qb0 i σ H Q:=by
 obtain⟨τ,μ,R,hs,hc,h,hq⟩:=h
 unfold L4 at h
 split at h
 ·rename_i x e
  obtain⟨v,ev,r⟩:=hs.get e
  exact⟨v,ev,hq _ _ _ _ Kp.refl hc r h⟩
 ·exact h.elim
theorem vv(i:Nat){x:Str}{pos:Pos}(hN:X.N[i]?=some x:=by rfl)(hv:Vis X.env.scope x:=by first | exact Or.inl rfl | exact Or.inr (Or.inl rfl) | exact Or.inr (Or.inr rfl))(hd:(x==("__debug__" : Str))=false:=by decide)
  (jj:(x==("__classdict__" : Str))=false:=by decide):VE X (.Name x pos) (L4 i):=(Uk hN hv hd jj).imp λ_ _ _ h=>Vo h
def vC(x:AV):AE:=λ_ μ R=>R x μ
theorem Em{e:Expr}{v:V}{d:PyData}(h:PE X e (tC v))(r:∀H,Dk X.K H d v):VE X e (vC (.D d)):=h.imp fun σ H Q zz1=>B0 zz1 fun τ μ R hs hc h hq=>hq _ _ _ _ Kp.refl hc (M9 (r H)) h
theorem Ab{i j pos}:VE X (.Constant (.int i) j pos) (vC (.D (.int i))):=Em Qb1 λ_=>De
theorem Fd{b j pos}:VE X (.Constant (.bool b) j pos) (vC (.D (.bool b))):=Em Qff λ_=>Kl
theorem Ik{j pos}:VE X (.Constant .none j pos) (vC (.D .none)):=Em Qb2 λ_=>Vl
theorem Ch{x j pos}:VE X (.Constant (.str x) j pos) (vC (.D (.str x))):=Em Qb3 λ_=>O7
theorem Qv{x:Str}{v:V}{u:Value}{d:PyData}{pos:Pos}(hg:Gl X x)(hm:X.mg x=some u)(r:Bj v u)(hd:∀H,Dk X.K H d v)(h1:(x==("__debug__" : Str))=false:=by decide):VE X (.Name x pos) (vC (.D d)):=Em (Qk hg hm r h1) hd
def Y0(r:A2)(ta tb:AE):AE:=fun τ μ R=>ta τ μ λx μ1=>tb τ μ1 λy μ2=>r x y μ2 R
theorem Hs{K:PySem.W.Frag}{r:A2}{ta tb:AE}{σ:St}{H:Hp}{Q:VK}(h:cE K (Y0 r ta tb) σ H Q):tOp (cR K r) (cE K ta) (cE K tb) σ H Q:=by
 obtain⟨τ,μ,R,hs,hc,h,hq⟩:=h
 exact⟨τ,μ,_,hs,hc,h,λx μ1 v H1 S1 c1 rx hx=>⟨τ,μ1,_,hs.kp S1,c1,hx,λy μ2 u H2 S2 c2 ry hy=>⟨x,y,μ2,R,rx.kp S2,ry,c2,hy,hq.kp (S1.trans S2)⟩⟩⟩
variable {a b c:Expr}{ta tb tc:AE}{pos:Pos}
theorem Am{op:Operator}{r:A2}(ho:VOp X (binaryOp op) r)(ha:VE X a ta)(hb:VE X b tb):VE X (.BinOp a op b pos) (Y0 r ta tb):=(Qfq ho ha hb).imp λ_ _ _ h=>Hs h
theorem Ee{op:CmpOp}{r:A2}(ho:VOp X (compareOp op) r)(ha:VE X a ta)(hb:VE X b tb)(hm:behindInMarks op b=false):VE X (.Compare a [op] [b] pos) (Y0 r ta tb):=(Yi ho ha hb hm).imp λ_ _ _ h=>Hs h
def Na(t:AE):AT:=fun τ μ R=>t τ μ λx μ1=>match x with
 | .D (.bool k)=>R k μ1
 | _=>False
theorem Gm{K:PySem.W.Frag}{t:AE}{u:TE}(hu:∀ σ H Q,cE K t σ H Q->u σ H Q){σ:St}{H:Hp}{Q:Bool->Hp->Prop}(h:cT K (Na t) σ H Q):Ur u σ H Q:=by
 obtain⟨τ,μ,R,hs,hc,h,hq⟩:=h
 refine hu _ _ _ ⟨τ,μ,_,hs,hc,h,λx μ1 v H1 S1 c1 rx hx=>?_⟩
 split at hx
 ·cases RelA.bl rx
  exact⟨_,rfl,hq _ _ _ S1 c1 hx⟩
 ·exact hx.elim
theorem Az{op:CmpOp}{r:A2}(ho:VOp X (compareOp op) r)(ha:VE X a ta)(hb:VE X b tb)(hm:behindInMarks op b=false):VT X (.Compare a [op] [b] pos) (Na (Y0 r ta tb)) :=
 (Yj ho ha hb hm).imp λ_ _ _ h=>Gm (λ_ _ _ q=>Hs q) h
def O8(r r':A2)(ta tb tc:AE):AE:=fun τ μ R=>ta τ μ λx μ1=>tb τ μ1 λy μ2=>r x y μ2 λz μ3=>match z with
 | .D (.bool k)=>brP k (tc τ μ3 λw μ4=>r' y w μ4 R) (R (.D (.bool false)) μ3)
 | _=>False
theorem Il{K:PySem.W.Frag}{r r':A2}{ta tb tc:AE}{σ:St}{H:Hp}{Q:VK}(h:cE K (O8 r r' ta tb tc) σ H Q):Ou (cR K r) (cR K r') (cE K ta) (cE K tb) (cE K tc) σ H Q:=by
 obtain⟨τ,μ,R,hs,hc,h,hq⟩:=h
 refine⟨τ,μ,_,hs,hc,h,λx μ1 v H1 S1 c1 rx hx=>⟨τ,μ1,_,hs.kp S1,c1,hx,λy μ2 u H2 S2 c2 ry hy=>⟨x,y,μ2,_,rx.kp S2,ry,c2,hy,λz μ3 q H3 S3 c3 rz hz=>?_⟩⟩⟩
 split at hz
 ·cases RelA.bl rz
  rcases br_e hz with⟨rfl,gc⟩ | ⟨rfl,gc⟩
  ·exact⟨true,rfl,by
    first
     | exact⟨τ,μ3,_,hs.kp (S1.trans (S2.trans S3)),c3,gc,λw μ4 p H4 S4 c4 rw hw=>⟨y,w,μ4,R,ry.kp (S3.trans S4),rw,c4,hw,hq.kp (S1.trans (S2.trans (S3.trans S4)))⟩⟩
     | (rw [Yak rfl];exact⟨τ,μ3,_,hs.kp (S1.trans (S2.trans S3)),c3,gc,λw μ4 p H4 S4 c4 rw hw=>⟨y,w,μ4,R,ry.kp (S3.trans S4),rw,c4,hw,hq.kp (S1.trans (S2.trans (S3.trans S4)))⟩⟩)⟩
  ·exact⟨false,rfl,by
    first
     | exact hq _ _ _ _ (S1.trans (S2.trans S3)) c3 Cv gc
     | (rw [Yah Yad];exact hq _ _ _ _ (S1.trans (S2.trans S3)) c3 Cv gc)⟩
 ·exact hz.elim
theorem Nb{op ji:CmpOp}{r r':A2}(ho:VOp X (compareOp op) r)(dh:VOp X (compareOp ji) r')(ha:VE X a ta)(hb:VE X b tb)(hc:VE X c tc)(hm:lastMarks [op,ji] [b,c]=false:=by rfl):VE X (.Compare a [op,ji] [b,c] pos) (O8 r r' ta tb tc) :=
 (Us ho dh ha hb hc hm).imp λ_ _ _ h=>Il h
theorem Nc{op ji:CmpOp}{r r':A2}(ho:VOp X (compareOp op) r)(dh:VOp X (compareOp ji) r')(ha:VE X a ta)(hb:VE X b tb)(hc:VE X c tc)(hm:lastMarks [op,ji] [b,c]=false:=by rfl):VT X (.Compare a [op,ji] [b,c] pos) (Na (O8 r r' ta tb tc)) :=
 (Ut ho dh ha hb hc hm).imp λ_ _ _ h=>Gm (λ_ _ _ q=>Il q) h
theorem Cq{e:Expr}{t:AE}(h:VE X e t)(he:∀fi,isTrue e X.env fi=(do let v <- fi;standAt e.pos;holding [v] (truthy v)):=by intro _;rfl):VT X e (Na t) :=
 (Qb4 h he).imp λ_ _ _ h=>by
  have h:=Gm (λ_ _ _ q=>q) h
  exact h
def Qjt(t u:AT):AT:=fun τ μ R=>t τ μ λk μ1=>brP k (u τ μ1 R) (R false μ1)
def vOr(t u:AT):AT:=fun τ μ R=>t τ μ λk μ1=>brP k (R true μ1) (u τ μ1 R)
def Qju(t:AT):AT:=fun τ μ R=>t τ μ λk μ1=>R (!k) μ1
theorem VW.pt{e:Expr}{t:AT}(h:VW X e t):VT X e t:=PW.pt h
variable {rest:List Expr}{tA lr:AT}
theorem L5(ha:VT X a tA):VW X (.BoolOp .And [a] pos) tA:=X9 ha
theorem En(ha:VT X a tA):VW X (.BoolOp .Or [a] pos) tA:=Qb5 ha
theorem O9(ha:VT X a tA)(hb:VW X (.BoolOp .And (b :: rest) pos) lr):VW X (.BoolOp .And (a :: b :: rest) pos) (Qjt tA lr) :=
 (Qb6 ha hb).imp fun σ H Q zz3=>B0 zz3 fun τ μ R hs hc h hq=>⟨τ,μ,_,hs,hc,h,λk μ1 H1 S1 c1 hk=>by
  rcases br_e hk with⟨rfl,cy⟩ | ⟨rfl,cy⟩
  ·exact⟨τ,μ1,R,hs.kp S1,c1,cy,hq.kp S1⟩
  ·exact hq _ _ _ S1 c1 cy⟩
theorem Fs(ha:VT X a tA)(hb:VW X (.BoolOp .Or (b :: rest) pos) lr):VW X (.BoolOp .Or (a :: b :: rest) pos) (vOr tA lr) :=
 (Qfg ha hb).imp fun σ H Q zz4=>B0 zz4 fun τ μ R hs hc h hq=>⟨τ,μ,_,hs,hc,h,λk μ1 H1 S1 c1 hk=>by
  rcases br_e hk with⟨rfl,cy⟩ | ⟨rfl,cy⟩
  ·exact hq _ _ _ S1 c1 cy
  ·exact⟨τ,μ1,R,hs.kp S1,c1,cy,hq.kp S1⟩⟩
theorem Cr(ha:VT X a tA):VT X (.UnaryOp .Not a pos) (Qju tA):=(Qb7 ha).imp fun σ H Q zz5=>B0 zz5 fun τ μ R hs hc h hq=>⟨τ,μ,_,hs,hc,h,λk μ1 H1 S1 c1 hk=>hq _ _ _ S1 c1 hk⟩
theorem L6{op}{t:AE}(h:VE X a t):VE X (.BoolOp op [a] pos) t:=Qb8 h
def Qgd(ta tb:AE):AE:=fun τ μ R=>ta τ μ λx μ1=>match x with
 | .D (.bool k)=>brP k (tb τ μ1 R) (R (.D (.bool false)) μ1)
 | _=>False
def Qjv(ta tb:AE):AE:=fun τ μ R=>ta τ μ λx μ1=>match x with
 | .D (.bool k)=>brP k (R (.D (.bool true)) μ1) (tb τ μ1 R)
 | _=>False
def Qge(ta:AE):AE:=fun τ μ R=>ta τ μ λx μ1=>match x with
 | .D (.bool k)=>R (.D (.bool (!k))) μ1
 | _=>False
theorem Pa(ha:VE X a ta)(hb:VE X (.BoolOp .And (b :: rest) pos) tb):VE X (.BoolOp .And (a :: b :: rest) pos) (Qgd ta tb) :=
 (Qb9 ha hb).imp fun σ H Q zz6=>B0 zz6 fun τ μ R hs hc h hq=>⟨τ,μ,_,hs,hc,h,λx μ1 v H1 S1 c1 rx hk=>by
  split at hk
  ·cases RelA.bl rx
   rcases br_e hk with⟨rfl,cy⟩ | ⟨rfl,cy⟩
   ·exact⟨true,rfl,⟨τ,μ1,R,hs.kp S1,c1,cy,hq.kp S1⟩⟩
   ·exact⟨false,rfl,hq _ _ _ _ S1 c1 Cv cy⟩
  ·exact hk.elim⟩
theorem Qgf(ha:VE X a ta)(hb:VE X (.BoolOp .Or (b :: rest) pos) tb):VE X (.BoolOp .Or (a :: b :: rest) pos) (Qjv ta tb) :=
 (Qfj ha hb).imp fun σ H Q zz7=>B0 zz7 fun τ μ R hs hc h hq=>⟨τ,μ,_,hs,hc,h,λx μ1 v H1 S1 c1 rx hk=>by
  split at hk
  ·cases RelA.bl rx
   rcases br_e hk with⟨rfl,cy⟩ | ⟨rfl,cy⟩
   ·exact⟨true,rfl,hq _ _ _ _ S1 c1 Cv cy⟩
   ·exact⟨false,rfl,⟨τ,μ1,R,hs.kp S1,c1,cy,hq.kp S1⟩⟩
  ·exact hk.elim⟩
theorem Qc6(ha:VE X a ta):VE X (.UnaryOp .Not a pos) (Qge ta) :=
 (Qca ha).imp fun σ H Q zz8=>B0 zz8 fun τ μ R hs hc h hq=>⟨τ,μ,_,hs,hc,h,λx μ1 v H1 S1 c1 rx hk=>by
  split at hk
  ·cases RelA.bl rx
   exact⟨_,rfl,hq _ _ _ _ S1 c1 Cv hk⟩
  ·exact hk.elim⟩
def Y1:AA:=λ_ μ R=>R [] μ
def Qgg(ta:AE)(tr:AA):AA:=fun τ μ R=>ta τ μ λx μ1=>tr τ μ1 λxs μ2=>R (x :: xs) μ2
theorem Ac:VA X [] Y1:=Uu.imp fun σ H Q zz10=>B0 zz10 fun τ μ R hs hc h hq=>hq [] μ [] H Kp.refl hc .nil rfl h
theorem Aa{e:Expr}{es:List Expr}{te:AE}{t:AA}(ha:VE X e te)(hr:VA X es t)(hs:starEach (e :: es) X.env=(false,eval e X.env) :: starEach es X.env:=by rfl):VA X (e :: es) (Qgg te t) :=
 (Qm ha hr hs).imp fun σ H Q zz11=>B0 zz11 fun τ μ R hs hc h hq=>⟨τ,μ,_,hs,hc,h,λx μ1 v H1 S1 c1 rx hx=>⟨τ,μ1,_,hs.kp S1,c1,hx,λxs μ2 vs H2 S2 c2 rs hl hxs =>
  hq (x :: xs) μ2 (v :: vs) H2 (S1.trans S2) c2 (.cons (rx.kp S2) rs) (by rw [Ybp,hl];rfl) hxs⟩⟩
def Qjw(t:AA):AE:=fun τ μ R=>t τ μ λxs μ1=>match dats xs with
 | some ds=>R (.D (.tuple ds)) μ1
 | none=>False
def Qjx(t:AA):AE:=fun τ μ R=>t τ μ λxs μ1=>∀p,μ1 p=none->R (.R p) (Bh μ1 p (.lst xs))
variable {es:List Expr}{t:AA}
theorem Bc{k:Nat}(h:VA X es t)(hn:es.length<=sizeLine:=by decide):VE X (.Tuple es k pos) (Qjw t) :=
 (Uv h).imp fun σ H Q zz12=>B0 zz12 fun τ μ R hs hc h hq=>⟨τ,μ,_,hs,hc,h,λxs μ1 vs H1 S1 c1 rs hl hx=>⟨by rw [<- rs.length,hl];exact hn,λp hp=>by
  split at hx
  ·rename_i ds e
   refine hq _ _ _ _ (S1.trans (Kp.new hp _)) (c1.over hp) ?_ hx
   exact Ly A9 (Ak.kp (Kp.new hp _) _ _ (rs.dats e))
  ·exact hx.elim⟩⟩
theorem Fh(h:VA X es t)(hn:es.length<=sizeLine:=by decide):VE X (.List es pos) (Qjx t) :=
 (Qco h).imp fun σ H Q zz13=>B0 zz13 fun τ μ R hs hc h hq=>⟨τ,μ,_,hs,hc,h,λxs μ1 vs H1 S1 c1 rs hl hx=>⟨by rw [<- rs.length,hl];exact hn,λp hp =>
  hq _ _ _ _ (S1.trans (Kp.new hp _)) (c1.new hp (C8 (rs))) Eb (hx p (c1.none hp))⟩⟩
mutual
theorem Dk.reads{aa:List (Addr×Obj)}{σ:St}{H:Hp}{s:Shared}(I:Inv X aa σ H s):∀(d:PyData) (x:V) (u:Value),Dk X.K H d x->Bj x u->∃as,Reads s.heap u d as
 | .none,x,u,h,r=>by cases h.non;cases r;exact⟨_,.none⟩
 | .bool b,x,u,h,r=>by cases h.bl;cases r;exact⟨_,.bool b⟩
 | .int i,x,u,h,r=>by cases h.int;obtain⟨t,rfl⟩:=r;exact⟨_,.int i t⟩
 | .str z,x,u,h,r=>by cases h.str;obtain⟨t,rfl⟩:=r;exact⟨_,.str z t⟩
 | .list ds,x,u,h,r=>by
  obtain⟨a,xs,rfl,q,k⟩:=h.lst
  cases r
  obtain⟨af,rv,⟨o,n,e,c,_,d⟩,_⟩:=I.list q.sq
  obtain⟨as,ra⟩:=Ak.reads I ds xs af k rv
  exact⟨_,.list e c d (by simpa using ra)⟩
 | .tuple ds,x,u,h,r=>by
  obtain⟨a,xs,rfl,q,k⟩:=h.tup
  cases r
  obtain⟨af,rv,⟨o,e,c,n,d⟩,_⟩:=I.tuple q.sq
  obtain⟨as,ra⟩:=Ak.reads I ds xs af k rv
  exact⟨_,.tuple e c d (by simpa using ra)⟩
 | .dict _,x,u,h,_=>by simp only [Dk]at h
theorem Ak.reads{aa:List (Addr×Obj)}{σ:St}{H:Hp}{s:Shared}(I:Inv X aa σ H s):∀(ds:List PyData) (xs:List V) (us:List Value),Ak X.K H ds xs->Vals xs us->∃as,ReadsAll s.heap us ds as
 | [],xs,us,h,r=>by
  have e:=h.nil
  subst e
  cases r
  exact⟨_,.nil⟩
 | d :: ds,xs,us,h,r=>by
  obtain⟨x,xr,rfl,h1,h2⟩:=h.cons
  cases r with
  | cons r1 r2 =>
   obtain⟨as,ra⟩:=Dk.reads I d x _ h1 r1
   obtain⟨bs,rb⟩:=Ak.reads I ds xr _ h2 r2
   exact⟨_,.cons ra rb⟩
end
def see(μ:M):AV->Option PyData
 | .X _ _=>none
 | .D d=>some d
 | .C ds=>some (.tuple ds)
 | .R a=>match μ a with
  | some (.lst xs)=>match dats xs with
   | some ds=>some (.list ds)
   | none=>none
  | _=>none
@[simp] theorem see_D {μ:M} {d:PyData}:see μ (.D d)=some d:=rfl
theorem Ct{aa:List (Addr×Obj)}{σ:St}{H:Hp}{s:Shared}{μ:M}{x:AV}{v:V}{u:Value}{d:PyData}(I:Inv X aa σ H s)(hc:Cn X.K μ H)(rx:RelA X.K H x v)(r:Bj v u)(e:see μ x=some d):∃as,Reads s.heap u d as:=by
 cases x with
 | X C fs=>cases e
 | D d'=>cases e;exact Dk.reads I _ _ _ rx r
 | C ds =>
  cases e
  obtain⟨a,xs,rfl,q,k⟩:=rx
  cases r
  obtain⟨af,rv,⟨o,e,c,n,d⟩,_⟩:=I.tuple (q H)
  obtain⟨as,ra⟩:=Ak.reads I ds xs af k rv
  exact⟨_,.tuple e c d (by simpa using ra)⟩
 | R a =>
  dsimp only [see]at e
  split at e
  ·rename_i xs ex
   split at e
   ·rename_i ds ed
    cases e
    cases (show v=.ref a from rx)
    cases r
    obtain⟨o,ho,vs,rfl,rs⟩:=hc a _ ex
    obtain⟨af,rv,⟨o,n,e,c,_,dd⟩,_⟩:=I.list (Du.of ho)
    obtain⟨as,ra⟩:=Ak.reads I ds vs af (rs.dats ed) rv
    exact⟨_,.list e c dd (by simpa using ra)⟩
   ·cases e
  ·cases e
def B7(d:PyData):Prop:=d.canLay0=true/\d.depth<=64
def aEq:A2:=λx y μ R=>match x,y with
 | .D d,.D e=>B7 d/\B7 e/\R (.D (.bool (PyData.eqv d e))) μ
 | x,y=>opt (see μ x) λd=>opt (see μ y) λe=>B7 d/\B7 e/\R (.D (.bool (PyData.eqv d e))) μ
theorem Y2{x y:AV}{μ:M}{R:AV->M->Prop}(h:aEq x y μ R):∃d e,see μ x=some d/\see μ y=some e/\B7 d/\B7 e/\R (.D (.bool (PyData.eqv d e))) μ:=by
 have g:∀(h:opt (see μ x) λd=>opt (see μ y) λe=>B7 d/\B7 e/\R (.D (.bool (PyData.eqv d e))) μ),∃d e,see μ x=some d/\see μ y=some e/\B7 d/\B7 e/\R (.D (.bool (PyData.eqv d e))) μ:=by
  intro h
  obtain⟨d,ed,h⟩:=Ba h
  obtain⟨e,ee,h⟩:=Ba h
  exact⟨d,e,ed,ee,h⟩
 cases x with
 | D d =>
  cases y with
  | D e=>exact⟨_,_,rfl,rfl,h⟩
  | _=>exact g h
 | _=>exact g h
variable {k:Nat}
theorem Dr(hr:Room k X.A):VOp X (compareOp .Eq) aEq:=by
 intro aa s σ H x y v u Q I rx ry zz14
 refine Dt zz14 λa b μ R ra rb hc h hq=>?_
 obtain⟨d,e,ed,ee,h⟩:=Y2 h
 ·obtain⟨as,r1⟩:=Ct I hc ra rx ed
  obtain⟨bs,r2⟩:=Ct I hc rb ry ee
  have hu:=hr.un
  have:=h.1.2
  exact SeqAt.compareEq_reads r1 r2 h.1.1 h.2.1.1 (by omega) ⟨.bl _,H,I,rfl,hq _ _ _ _ Kp.refl hc Cv h.2.2⟩
def Qk4:PyData->Option Key
 | .int i=>some (.inl i)
 | .str z=>some (.inr z)
 | _=>none
def items(μ:M):AV->Option (List AV)
 | .D (.tuple ds)=>some (ds.map .D)
 | .C ds=>some (ds.map .D)
 | .D (.list ds)=>some (ds.map .D)
 | .R a=>match μ a with
  | some (.lst xs)=>some xs
  | _=>none
 | _=>none
theorem Gn{H:Hp}{μ:M}{x:AV}{v:V}{xs:List AV}(hc:Cn X.K μ H)(rx:RelA X.K H x v)(e:items μ x=some xs):∃p vs,v=.ref p/\(Du X.K H p vs\/Gi X.K H p vs)/\Au X.K H xs vs:=by
 unfold items at e
 split at e
 ·cases e;obtain⟨a,vs,rfl,q,r⟩:=RelA.tup rx;exact⟨a,vs,rfl,.inr q.sq,r.rel⟩
 ·cases e;obtain⟨a,vs,rfl,q,r⟩:=rx;exact⟨a,vs,rfl,.inr (q H),r.rel⟩
 ·cases e;obtain⟨a,vs,rfl,q,r⟩:=RelA.lst rx;exact⟨a,vs,rfl,.inl q.sq,r.rel⟩
 ·split at e
  ·rename_i ys ey
   cases e
   obtain⟨o,ho,vs,rfl,rs⟩:=hc _ _ ey
   exact⟨_,vs,rx,.inl (Du.of ho),rs⟩
  ·cases e
 ·cases e
def Sz:AV->Bool
 | .D (.tuple _)=>true
 | .C _=>true
 | _=>false
theorem Bf{H:Hp}{μ:M}{x:AV}{v:V}{xs:List AV}(hc:Cn X.K μ H)(rx:RelA X.K H x v)(e:items μ x=some xs):∃p vs,v=.ref p/\((Sz x=false/\Du X.K H p vs)\/(Sz x=true/\Gi X.K H p vs))/\Au X.K H xs vs:=by
 unfold items at e
 split at e
 ·cases e;obtain⟨a,vs,rfl,q,r⟩:=RelA.tup rx;exact⟨a,vs,rfl,.inr ⟨rfl,q.sq⟩,r.rel⟩
 ·cases e;obtain⟨a,vs,rfl,q,r⟩:=rx;exact⟨a,vs,rfl,.inr ⟨rfl,q H⟩,r.rel⟩
 ·cases e;obtain⟨a,vs,rfl,q,r⟩:=RelA.lst rx;exact⟨a,vs,rfl,.inl ⟨rfl,q.sq⟩,r.rel⟩
 ·split at e
  ·rename_i ys ey
   cases e
   obtain⟨o,ho,vs,rfl,rs⟩:=hc _ _ ey
   exact⟨_,vs,rx,.inl ⟨rfl,Du.of ho⟩,rs⟩
  ·cases e
 ·cases e
def aIn(nb:Bool->Bool):A2:=λx y μ R=>match y with
 | .D (.str j)=>match x with
  | .D (.str i)=>R (.D (.bool (nb (!(Builtin.Str.occurrences j i 0 j.length 1).isEmpty)))) μ
  | _=>False
 | .C ds=>opt (see μ x) λd=>B7 d/\B7 (.tuple ds)/\R (.D (.bool (nb (ds.any λe=>PyData.eqv e d)))) μ
 | .D (.tuple ds)=>opt (see μ x) λd=>B7 d/\B7 (.tuple ds)/\R (.D (.bool (nb (ds.any λe=>PyData.eqv e d)))) μ
 | y=>opt (see μ x) λd=>opt (items μ y) λys=>opt (dats ys) λds=>B7 d/\B7 (.tuple ds)/\R (.D (.bool (nb (ds.any λe=>PyData.eqv e d)))) μ
theorem Qw{nb:Bool->Bool}{x y:AV}{μ:M}{R:AV->M->Prop}(h:aIn nb x y μ R)(hn:∀z,y≠.D (.str z)):∃d ys ds,see μ x=some d/\items μ y=some ys/\dats ys=some ds/\B7 d/\B7 (.tuple ds)/\R (.D (.bool (nb (ds.any λe=>PyData.eqv e d)))) μ:=by
 unfold aIn at h
 split at h
 ·exact absurd rfl (hn _)
 ·obtain⟨d,ed,h⟩:=Ba h
  exact⟨d,_,_,ed,rfl,B6 _,h⟩
 ·obtain⟨d,ed,h⟩:=Ba h
  exact⟨d,_,_,ed,rfl,B6 _,h⟩
 ·obtain⟨d,ed,h⟩:=Ba h
  obtain⟨ys,ey,h⟩:=Ba h
  obtain⟨ds,eds,h⟩:=Ba h
  exact⟨d,ys,ds,ed,ey,eds,h⟩
theorem Nd{ds:List PyData}(h:B7 (.tuple ds)):PyData.canLayAll0 ds=true/\PyData.depthAll ds<=64:=by
 obtain⟨h1,h2⟩:=h
 simp only [PyData.canLay0]at h1
 simp only [PyData.depth]at h2
 exact⟨h1,by omega⟩
theorem Qgh(hr:Room k X.A):VOp X (compareOp .In) (aIn λb=>b):=by
 intro aa s σ H x y v u Q I rx ry zz16
 refine Dt zz16 λa b μ R ra rb hc h hq=>?_
 by_cases hb:∃z,b=.D (.str z)
 ·obtain⟨z,rfl⟩:=hb
  unfold aIn at h
  dsimp only at h
  split at h
  ·cases RelA.str ra;cases RelA.str rb
   exact Se aa s σ H _ _ v u Q I rx ry ⟨_,_,rfl,rfl,hq _ _ _ _ Kp.refl hc Cv h⟩
  ·exact h.elim
 ·obtain⟨d,ys,ds,ed,ey,eds,h⟩:=Qw h λz e=>hb ⟨z,e⟩
  ·skip
   obtain⟨ok1,ok2,h⟩:=h
   obtain⟨as,r1⟩:=Ct I hc ra rx ed
   obtain⟨p,vs,rfl,hp,rs⟩:=Gn hc rb ey
   cases ry
   obtain⟨c1,c2⟩:=Nd ok2
   have hs:=rs.dats eds
   have hu:=hr.un
   have q:=hq _ _ _ _ Kp.refl hc Cv h
   rcases hp with hp | hp
   ·obtain⟨af,r,pl,hz⟩:=I.list hp
    obtain⟨bs,rb⟩:=Ak.reads I ds vs af hs r
    have e:=λA=>Dw (A:=A) r1 ok1.1
    refine SeqAt.in_listAt (On s.heap d) pl.isList (λw hw=>(e _ (by first | (show X.A.units+64 < _;omega) | (show X.A.units+1+64 < _;omega) | (show X.A.units+1+1+64 < _;omega)) rb c1 c2).1 w (by simpa using hw)) ⟨.bl _,H,I,rfl,?_⟩
    rw [show af.toArray.any (On s.heap d)=af.any (On s.heap d) by simp,(e X.A (by omega) rb c1 c2).2]
    exact q
   ·obtain⟨af,r,pl,hz⟩:=I.tuple hp
    obtain⟨bs,rb⟩:=Ak.reads I ds vs af hs r
    have e:=λA=>Dw (A:=A) r1 ok1.1
    refine SeqAt.in_tupleAt (On s.heap d) pl (λw hw=>(e _ (by first | (show X.A.units+64 < _;omega) | (show X.A.units+1+64 < _;omega) | (show X.A.units+1+1+64 < _;omega)) rb c1 c2).1 w (by simpa using hw)) ⟨.bl _,H,I,rfl,?_⟩
    rw [show af.toArray.any (On s.heap d)=af.any (On s.heap d) by simp,(e X.A (by omega) rb c1 c2).2]
    exact q
theorem L7(hr:Room k X.A):VOp X (compareOp .NotIn) (aIn λb=>!b):=by
 intro aa s σ H x y v u Q I rx ry zz17
 refine Dt zz17 λa b μ R ra rb hc h hq=>?_
 by_cases hb:∃z,b=.D (.str z)
 ·obtain⟨z,rfl⟩:=hb
  unfold aIn at h
  dsimp only at h
  split at h
  ·cases RelA.str ra;cases RelA.str rb
   exact Lq aa s σ H _ _ v u Q I rx ry ⟨_,_,rfl,rfl,hq _ _ _ _ Kp.refl hc Cv h⟩
  ·exact h.elim
 ·obtain⟨d,ys,ds,ed,ey,eds,h⟩:=Qw h λz e=>hb ⟨z,e⟩
  ·skip
   obtain⟨ok1,ok2,h⟩:=h
   obtain⟨as,r1⟩:=Ct I hc ra rx ed
   obtain⟨p,vs,rfl,hp,rs⟩:=Gn hc rb ey
   cases ry
   obtain⟨c1,c2⟩:=Nd ok2
   have hs:=rs.dats eds
   have hu:=hr.un
   have q:=hq _ _ _ _ Kp.refl hc Cv h
   rcases hp with hp | hp
   ·obtain⟨af,r,pl,hz⟩:=I.list hp
    obtain⟨bs,rb⟩:=Ak.reads I ds vs af hs r
    have e:=λA=>Dw (A:=A) r1 ok1.1
    refine SeqAt.notIn_listAt (On s.heap d) pl.isList (λw hw=>(e _ (by first | (show X.A.units+64 < _;omega) | (show X.A.units+1+64 < _;omega) | (show X.A.units+1+1+64 < _;omega)) rb c1 c2).1 w (by simpa using hw)) ⟨.bl _,H,I,rfl,?_⟩
    rw [show af.toArray.any (On s.heap d)=af.any (On s.heap d) by simp,(e X.A (by omega) rb c1 c2).2]
    exact q
   ·obtain⟨af,r,pl,hz⟩:=I.tuple hp
    obtain⟨bs,rb⟩:=Ak.reads I ds vs af hs r
    have e:=λA=>Dw (A:=A) r1 ok1.1
    refine SeqAt.notIn_tupleAt (On s.heap d) pl (λw hw=>(e _ (by first | (show X.A.units+64 < _;omega) | (show X.A.units+1+64 < _;omega) | (show X.A.units+1+1+64 < _;omega)) rb c1 c2).1 w (by simpa using hw)) ⟨.bl _,H,I,rfl,?_⟩
    rw [show af.toArray.any (On s.heap d)=af.any (On s.heap d) by simp,(e X.A (by omega) rb c1 c2).2]
    exact q
def Qgi:A2:=λx y μ R=>match x,y with
 | .D .none,.D .none=>R (.D (.bool true)) μ
 | _,.D .none=>R (.D (.bool false)) μ
 | _,_=>False
theorem Vp{K:PySem.W.Frag}{H:Hp}{x:AV}(h:RelA K H x .non):x=.D .none:=by
 cases x with
 | R a=>cases (show V.non=.ref a from h)
 | C ds=>obtain⟨_,_,e,_⟩:=h;cases e
 | X C fs=>obtain⟨_,_,_,e,_⟩:=h;cases e
 | D d =>
  cases d with
  | none=>rfl
  | bool b=>cases RelA.bl h
  | int b=>cases RelA.int h
  | str b=>cases RelA.str h
  | list b=>obtain⟨_,_,e,_⟩:=RelA.lst h;cases e
  | tuple b=>obtain⟨_,_,e,_⟩:=RelA.tup h;cases e
  | dict b=>exact absurd h (by simp only [RelA,Dk];exact id)
theorem Qa0:VOp X (compareOp .Is) Qgi:=by
 intro aa s σ H x y v u Q I rx ry zz18
 refine Dt zz18 λa b μ R ra rb hc h hq=>?_
 unfold Qgi at h
 split at h
 ·cases RelA.non ra;cases RelA.non rb
  exact Uq aa s σ H _ _ v u Q I rx ry ⟨rfl,hq _ _ _ _ Kp.refl hc Cv h⟩
 ·rename_i ne
  cases RelA.non rb
  refine Uq aa s σ H _ _ v u Q I rx ry ⟨rfl,hq _ _ _ _ Kp.refl hc ?_ h⟩
  have:x≠.non:=by intro e;subst e;exact ne (Vp ra)
  rw [Yau this];exact Cv
 ·exact h.elim
def aI(C:Int->Int->Prop)(g:Int->Int->PyData):A2:=λx y μ R=>match x,y with
 | .D (.int i),.D (.int j)=>C i j/\R (.D (g i j)) μ
 | _,_=>False
def aI0(g:Int->Int->PyData):A2:=λx y μ R=>match x,y with
 | .D (.int i),.D (.int j)=>R (.D (g i j)) μ
 | _,_=>False
theorem o_I{f:Value->Value->Sem Value}{C:Int->Int->Prop}{g:Int->Int->V}{g':Int->Int->PyData}(h:Fq X f (rI C g))(hg:∀i j H,Dk X.K H (g' i j) (g i j)):VOp X f (aI C g'):=by
 intro aa s σ H x y v u Q I rx ry zz20
 refine Dt zz20 λa b μ R ra rb hc h' hq=>?_
 cases a with
 | D d =>
  cases d with
  | int i =>
   cases b with
   | D e =>
    cases e with
    | int j =>
     cases RelA.int ra;cases RelA.int rb
     exact h aa s σ H _ _ v u Q I rx ry ⟨_,_,rfl,rfl,h'.1,hq _ _ _ _ Kp.refl hc (M9 (hg _ _ _)) h'.2⟩
    | _=>exact False.elim h'
   | _=>exact False.elim h'
  | _=>exact False.elim h'
 | _=>exact False.elim h'
theorem Vq{f:Value->Value->Sem Value}{g:Int->Int->V}{g':Int->Int->PyData}(h:Fq X f (Yf g))(hg:∀i j H,Dk X.K H (g' i j) (g i j)):VOp X f (aI0 g'):=by
 intro aa s σ H x y v u Q I rx ry zz21
 refine Dt zz21 λa b μ R ra rb hc h' hq=>?_
 cases a with
 | D d =>
  cases d with
  | int i =>
   cases b with
   | D e =>
    cases e with
    | int j =>
     cases RelA.int ra;cases RelA.int rb
     exact h aa s σ H _ _ v u Q I rx ry ⟨_,_,rfl,rfl,hq _ _ _ _ Kp.refl hc (M9 (hg _ _ _)) h'⟩
    | _=>exact False.elim h'
   | _=>exact False.elim h'
  | _=>exact False.elim h'
 | _=>exact False.elim h'
abbrev Qjz:A2:=aI0 λi j=>.int (i - j)
abbrev Qgj:A2:=aI CDiv λi j=>.int (i / j)
abbrev Qj0:A2:=aI (λ_ j=>0 < j) λi j=>.int (i % j)
abbrev Qj1:A2:=aI CPow λi j=>.int (i ^ j.toNat)
abbrev aLt:A2:=aI0 λi j=>.bool (decide (i < j))
abbrev aLe:A2:=aI0 λi j=>.bool (decide (i<=j))
abbrev aGt:A2:=aI0 λi j=>.bool (decide (j < i))
abbrev aGe:A2:=aI0 λi j=>.bool (decide (j<=i))
theorem Qx:VOp X (binaryOp .Sub) Qjz:=Vq Qcj λ_ _ _=>De
theorem Pb:VOp X (binaryOp .FloorDiv) Qgj:=o_I Yh λ_ _ _=>De
theorem Eo:VOp X (binaryOp .Mod) Qj0:=o_I Qcl λ_ _ _=>De
theorem Qgk:VOp X (binaryOp .Pow) Qj1:=o_I Qcm λ_ _ _=>De
theorem Im:VOp X (compareOp .Lt) aLt:=Vq Qft λ_ _ _=>Kl
theorem Vr:VOp X (compareOp .LtE) aLe:=Vq Qfu λ_ _ _=>Kl
theorem Ta:VOp X (compareOp .Gt) aGt:=Vq Qfv λ_ _ _=>Kl
theorem Qgl:VOp X (compareOp .GtE) aGe:=Vq Qfw λ_ _ _=>Kl
def Qj2:A2:=λx y μ R=>match x,y with
 | .D (.int i),.D (.int j)=>CMul i j/\R (.D (.int (i * j))) μ
 | .D (.str z),.D (.int n)=>(n=0\/n=1)/\R (.D (.str (if n=0 then Str.empty else z))) μ
 | _,_=>False
theorem Kn:VOp X (binaryOp .Mult) Qj2:=by
 intro aa s σ H x y v u Q I rx ry zz22
 refine Dt zz22 λa b μ R ra rb hc h hq=>?_
 cases a with
 | D d =>
  cases d with
  | int i =>
   cases b with
   | D e =>
    cases e with
    | int j =>
     cases RelA.int ra;cases RelA.int rb
     exact Qck aa s σ H _ _ v u Q I rx ry ⟨_,_,rfl,rfl,h.1,hq _ _ _ _ Kp.refl hc C0 h.2⟩
    | _=>exact False.elim h
   | _=>exact False.elim h
  | str z =>
   cases b with
   | D e =>
    cases e with
    | int j =>
     cases RelA.str ra;cases RelA.int rb
     exact Lx aa s σ H _ _ v u Q I rx ry ⟨_,_,rfl,rfl,h.1,hq _ _ _ _ Kp.refl hc Ih h.2⟩
    | _=>exact False.elim h
   | _=>exact False.elim h
  | _=>exact False.elim h
 | _=>exact False.elim h
def Qc8:A2:=λx y μ R=>match x,y with
 | .D (.int i),.D (.int j)=>R (.D (.int (i+j))) μ
 | .D (.str i),.D (.str j)=>i.length+j.length<=sizeLine/\R (.D (.str (i++j))) μ
 | .D (.tuple i),.D (.tuple j)=>i.length+j.length<=sizeLine/\R (.D (.tuple (i++j))) μ
 | .R i,.R j=>opt (μ i) λm=>opt (μ j) λn=>match m,n with
  | .lst xs,.lst ys=>xs.length+ys.length<=sizeLine/\∀p,μ p=none->R (.R p) (Bh μ p (.lst (xs++ys)))
  | _,_=>False
 | _,_=>False
theorem Qj3{K:PySem.W.Frag}{aa:List (Addr×Obj)}{σ:St}{H:Hp}{s:Shared}{v u:Value}{x y:V}{ds es:List PyData}{Q:VK}(hK:X.K=K)(I:Inv X aa σ H s)(rx:Bj x v)(ry:Bj y u)(hx:Dk K H (.tuple ds) x)(hy:Dk K H (.tuple es) y)
  (hz:ds.length+es.length<=sizeLine) (q:∀z H',Kp H H'->(∀ μ,Cn K μ H->Cn K μ H')->Dk K H' (.tuple (ds++es)) z->Q z H'):wpAny (model X.prog X.w) X.A (binaryOp .Add v u) (EP X aa σ Q) X.xe s:=by
 subst hK
 obtain⟨a,xs,rfl,ha,hxs⟩:=hx.tup
 obtain⟨b,ys,rfl,hb,hys⟩:=hy.tup
 cases rx
 cases ry
 obtain⟨af,r1,p1,_⟩:=I.tuple ha.sq
 obtain⟨its2,r2,p2,_⟩:=I.tuple hb.sq
 have l1:=hxs.length
 have l2:=hys.length
 by_cases hv:xs=[]
 ·subst hv
  have e:af=[]:=r1.nil_iff.mpr rfl
  subst e
  have ed:ds=[]:=Yep.mp l1.symm
  subst ed
  obtain⟨⟨cls,dd,data,sl⟩,ho,hc,n,hd⟩:=id p1
  obtain⟨⟨cls2,dd2,data2,qf⟩,i6,jh,n2,i9⟩:=id p2
  simp only at hc hd jh i9
  subst hc hd jh i9
  exact concat_meets ⟨_,ho,rfl⟩ ⟨_,i6,rfl⟩ noFill_tuple_add seq_tuple_add Yew Yem (Yee _ _)
   (tuple_addW0 a b [].toArray its2.toArray n n2 dd dd2 sl qf rfl) ⟨ho,i6,.ref b,H,I,rfl,q _ _ Kp.refl (λ_ c=>c) (by simpa using hy)⟩
 ·refine HT.cat_tup p1 p2 (λz=>hv (r1.nil_iff.mp z)) (λz=>⟨.ref a,H,I,rfl,q _ _ Kp.refl (λ_ c=>c) ?_⟩) (λz=>?_) (by rw [<- r1.length,<- r2.length,l1,l2];exact hz)
  ·have e:ys=[]:=r2.nil_iff.mp z
   subst e
   have ed:es=[]:=Yep.mp l2.symm
   subst ed
   simpa using hx
  ·have hf:=I.hok.fresh (Yaf s.heap.objs.size)
   refine⟨.ref s.heap.objs.size,_,I.laid (t':=s.toks) (o:=.tup (xs++ys)) (λb ob q=>Heap.get?_push_of_some _ q) (Yaf _) ?_,rfl,q _ _ (Kp.new hf _) (λ_ c=>c.over hf) ?_⟩
   ·exact⟨by rw [Yag,l1,l2];exact hz,_,r1.append r2,IsTup.new _ _⟩
   ·exact Ly A9 (Ak.kp (Kp.new hf _) _ _ (hxs.append hys))
theorem A4:VOp X (binaryOp .Add) Qc8:=by
 intro aa s σ H x y v u Q I rx ry zz23
 refine Dt zz23 λa b μ R ra rb hc h hq=>?_
 cases a with
 | D d =>
  cases d with
  | int i =>
   cases b with
   | D e =>
    cases e with
    | int j =>
     cases RelA.int ra;cases RelA.int rb
     exact Qci aa s σ H _ _ v u Q I rx ry ⟨_,_,rfl,rfl,hq _ _ _ _ Kp.refl hc C0 h⟩
    | _=>exact False.elim h
   | _=>exact False.elim h
  | str z =>
   cases b with
   | D e =>
    cases e with
    | str j =>
     cases RelA.str ra;cases RelA.str rb
     exact Ov aa s σ H _ _ v u Q I rx ry ⟨_,_,rfl,rfl,h.1,hq _ _ _ _ Kp.refl hc Ih h.2⟩
    | _=>exact False.elim h
   | _=>exact False.elim h
  | tuple ds =>
   cases b with
   | D e =>
    cases e with
    | tuple es=>exact Qj3 rfl I rx ry ra rb h.1 λz H' S c hd=>hq _ _ _ _ S (c _ hc) (M9 hd) h.2
    | _=>exact False.elim h
   | _=>exact False.elim h
  | _=>exact False.elim h
 | R i =>
  cases b with
  | R j =>
   obtain⟨m,ei,h⟩:=Ba h
   obtain⟨n,ej,h⟩:=Ba h
   cases m with
   | lst xs =>
    cases n with
    | lst ys =>
     cases (show x=.ref i from ra);cases (show y=.ref j from rb)
     obtain⟨o,ho,vs,rfl,rs⟩:=hc i _ ei
     obtain⟨o',dh,ws,rfl,rs'⟩:=hc j _ ej
     exact Qcv aa s σ H _ _ v u Q I rx ry ⟨i,j,vs,ws,rfl,rfl,ho,dh,by rw [<- rs.length,<- rs'.length];exact h.1,λp hp=>hq _ _ _ _ (Kp.new hp _) (hc.new hp (C8 (rs.append rs'))) Eb (h.2 p (hc.none hp))⟩
    | _=>exact False.elim h
   | _=>exact False.elim h
  | _=>exact False.elim h
 | _=>exact False.elim h
end
section
variable {X:Cx}{a b c:Expr}{ta tb tc:AE}{pos:Pos}
def aIx:A2:=λx y μ R=>match x,y with
 | .D (.str z),.D (.int i)=>z.length<=sizeLine/\opt (atI z.cps.toList i) λc=>R (.D (.str ⟨#[c]⟩)) μ
 | .D (.tuple ds),.D (.int i)=>opt (atI ds i) λd=>R (.D d) μ
 | .D (.list ds),.D (.int i)=>opt (atI ds i) λd=>R (.D d) μ
 | .R a,.D (.int i)=>opt (μ a) λm=>match m with
  | .lst xs=>opt (atI xs i) λw=>R w μ
  | _=>False
 | _,_=>False
theorem Y3{x y:AV}{μ:M}{R:AV->M->Prop}(h:aIx x y μ R):∃i,y=.D (.int i):=by
 have no:(∀d,aIx (.D d) y μ R->False)->(∀a,aIx (.R a) y μ R->False)->False:=λh1 h2=>by
  cases x with
  | D d=>exact h1 d h
  | R a=>exact h2 a h
  | _=>exact h
 cases y with
 | D e =>
  cases e with
  | int i=>exact⟨i,rfl⟩
  | _=>exact(no (λd q=>by cases d <;> exact q) λa q=>q).elim
 | _=>exact(no (λd q=>by cases d <;> exact q) λa q=>q).elim
theorem Bg:VIx X aIx:=by
 intro value slice aa s σ H x y v u Q I rx ry zq hs
 refine Dt zq λa b μ R ra rb hc h hq=>?_
 obtain⟨i,rfl⟩:=Y3 h
 cases RelA.int rb
 cases a with
 | D d =>
  cases d with
  | str z =>
   cases RelA.str ra
   obtain⟨h1,h⟩:=h
   obtain⟨c,e,h⟩:=Ba h
   exact Qct value slice aa s σ H _ _ v u Q I rx ry ⟨_,_,_,rfl,rfl,h1,e,hq _ _ _ _ Kp.refl hc Ih h⟩ hs
  | tuple ds =>
   obtain⟨d,ed,h⟩:=Ba h
   obtain⟨p,vs,rfl,hp,rs⟩:=RelA.tup ra
   obtain⟨z,ez,rz⟩:=rs.atI ed
   exact Qcs value slice aa s σ H _ _ v u Q I rx ry ⟨_,_,_,_,rfl,rfl,hp.sq,ez,hq _ _ _ _ Kp.refl hc (M9 rz) h⟩ hs
  | list ds =>
   obtain⟨d,ed,h⟩:=Ba h
   obtain⟨p,vs,rfl,hp,rs⟩:=RelA.lst ra
   obtain⟨z,ez,rz⟩:=rs.atI ed
   exact Qr value slice aa s σ H _ _ v u Q I rx ry ⟨_,_,_,_,rfl,rfl,hp.sq,ez,hq _ _ _ _ Kp.refl hc (M9 rz) h⟩ hs
  | _=>exact False.elim h
 | R a =>
  obtain⟨m,em,h⟩:=Ba h
  cases m with
  | lst xs =>
   obtain⟨w,ew,h⟩:=Ba h
   obtain⟨o,ho,vs,rfl,rs⟩:=hc _ _ em
   cases (show x=.ref _ from ra)
   obtain⟨z,ez,rz⟩:=rs.atI ew
   exact Qr value slice aa s σ H _ _ v u Q I rx ry ⟨_,_,_,_,rfl,rfl,Du.of ho,ez,hq _ _ _ _ Kp.refl hc rz h⟩ hs
  | _=>exact False.elim h
 | _=>exact False.elim h
theorem Ax{r:A2}(hr:VIx X r)(ha:VE X a ta)(hb:VE X b tb)(hs:Qq b:=by intro _ _;rfl):VE X (.Subscript a b pos) (Y0 r ta tb):=(Qf2 hr ha hb hs).imp λ_ _ _ h=>Hs h
def Y4:AO:=λ_ μ R=>R none μ
def Qgn(t:AE):AO:=fun τ μ R=>t τ μ λx μ1=>match x with
 | .D (.int i)=>R (some i) μ1
 | _=>False
theorem Bd:VO X none Y4:=Ym.imp fun σ H Q zz24=>B0 zz24 fun τ μ R hs hc h hq=>hq _ _ _ Kp.refl hc h
theorem A8(h:VE X a ta):VO X (some a) (Qgn ta):=(Yn h).imp fun σ H Q zz25=>B0 zz25 fun τ μ R hs hc h hq=>⟨τ,μ,_,hs,hc,h,λx μ1 v H1 S1 c1 rx hx=>by
 split at hx
 ·cases RelA.int rx
  exact⟨_,rfl,hq _ _ _ S1 c1 hx⟩
 ·exact hx.elim⟩
def aSl(x:AV)(lo hi:Option Int):M->(AV->M->Prop)->Prop:=fun μ R=>match x with
 | .D (.str z)=>z.length<=sizeLine/\R (.D (.str (Txt.slice z lo hi))) μ
 | .D (.tuple ds)=>R (.D (.tuple (Dj ds lo hi))) μ
 | .C _=>False
 | x=>opt (items μ x) λxs=>∀p,μ p=none->R (.R p) (Bh μ p (.lst (Qc5 xs lo hi)))
def cSl(K:PySem.W.Frag):V->Option Int->Option Int->Hp->VK->Prop:=λx lo hi H Q=>∃a μ R,RelA K H a x/\Cn K μ H/\aSl a lo hi μ R/\LV K H R Q
theorem Qj5:SlR X (cSl X.K):=by
 intro aa s σ H x v vl vu lo hi sl Q I rx hs pl pu ⟨a,μ,R,ra,hc,h,hq⟩
 unfold aSl at h
 split at h
 ·cases RelA.str ra
  exact Qcw aa s σ H _ v vl vu lo hi sl Q I rx hs pl pu ⟨_,rfl,h.1,hq _ _ _ _ Kp.refl hc Ih h.2⟩
 ·rename_i ds
  by_cases hw:HT.sIx ds.length 0 lo=0/\HT.sIx ds.length ds.length hi=ds.length
  ·obtain⟨a,xs,rfl,ha,hx⟩:=RelA.tup ra
   cases rx
   obtain⟨af,r,ht,hz⟩:=I.tuple ha.sq
   have ak:af.toArray.size=ds.length:=by rw [Yan,<- r.length,hx.length]
   refine⟨"tuple",_,Ybv.lookup,ht.typeIs,?_⟩
   refine HT.getItem_tuple_all ht hs pl pu (by rw [ak];exact hw) ⟨.ref a,H,I,rfl,hq _ _ _ _ Kp.refl hc ?_ h⟩
   rw [Vb hw]
   exact ra
  ·obtain⟨a,xs,rfl,ha,hx⟩:=RelA.tup ra
   refine Qcr aa s σ H (.ref a) v vl vu lo hi sl Q I rx hs pl pu ⟨a,xs,rfl,ha.sq,by rw [hx.length];exact hw,λp hp=>?_⟩
   exact hq _ _ _ _ (Kp.new hp _) (hc.over hp) (Ii A9 (Ak.kp (Kp.new hp _) _ _ (hx.cut lo hi))) h
 ·exact h.elim
 ·rename_i n1 n2 n3
  obtain⟨xs,ex,h⟩:=Ba h
  ·obtain⟨p,vs,rfl,hp,rs⟩:=Bf hc ra ex
   rcases hp with⟨_,hp⟩ | ⟨ht,hp⟩
   ·exact Yo aa s σ H _ v vl vu lo hi sl Q I rx hs pl pu ⟨_,_,rfl,hp,λp hp=>hq _ _ _ _ (Kp.new hp _) (hc.new hp (C8 (rs.cut lo hi))) Eb (h p (hc.none hp))⟩
   ·exfalso
    unfold Sz at ht
    split at ht
    ·exact n2 _ rfl
    ·exact n3 _ rfl
    ·cases ht
def vSl(te:AE)(tl th:AO):AE:=fun τ μ R=>te τ μ λx μ1=>tl τ μ1 λl μ2=>th τ μ2 λu μ3=>aSl x l u μ3 R
theorem A0{lo hi:Option Expr}{tl th:AO}{p2:Pos}(he:VE X a ta)(hl:VO X lo tl)(hu:VO X hi th):VE X (.Subscript a (.Slice lo hi none p2) pos) (vSl ta tl th) :=
 (Uy Qj5 he hl hu).imp fun σ H Q zz26=>B0 zz26 fun τ μ R hs hc h hq=>⟨τ,μ,_,hs,hc,h,λx μ1 v H1 S1 c1 rx hx=>⟨τ,μ1,_,hs.kp S1,c1,hx,λl μ2 H2 S2 c2 hl=>⟨τ,μ2,_,hs.kp (S1.trans S2),c2,hl,λu μ3 H3 S3 c3 hu =>
  ⟨x,μ3,R,rx.kp (S2.trans S3),c3,hu,hq.kp (S1.trans (S2.trans S3))⟩⟩⟩⟩
variable {x:Str}{p:Pos}{e:Expr}{es:List Expr}{t:AA}{my T:String}{r:AC}
def vCB(r:AC)(t:AA):AE:=fun τ μ R=>t τ μ λxs μ1=>r xs μ1 R
theorem Qz{K:PySem.W.Frag}{n:Nat}{r:AC}{t:AA}{σ:St}{H:Hp}{Q:VK}(h:cE K (vCB r t) σ H Q):tCB (cC K r) (cA K n t) σ H Q:=by
 obtain⟨τ,μ,R,hs,hc,h,hq⟩:=h
 exact⟨τ,μ,_,hs,hc,h,λxs μ1 vs H1 S1 c1 rs hl hx=>⟨xs,μ1,R,rs,c1,hx,hq.kp S1⟩⟩
theorem Al(hc:VCall X (.builtin my) r)(hg:Gl X x)(hm:X.mg x=none)(hv:bootBuiltins x=some (.builtin my))(ha:VA X (e :: es) t)(hn:x ≠ "__name__" := by decide) (hd:(x==("__debug__" : Str))=false:=by decide)
  (ay:starEach (e :: es) X.env=(false,eval e X.env) :: starEach es X.env:=by rfl) (hpl:(backTo pos (starEach es X.env)).any (·.1)=false:=by rfl):VE X (.Call (.Name x p) (e :: es) [] pos) (vCB r t) :=
 (Uw hc hg hm hv ha hn hd ay hpl).imp λ_ _ _ h=>Qz h
theorem B8(hc:VCall X (.type T) r)(hg:Gl X x)(hm:X.mg x=none)(hv:bootBuiltins x=some (.type T))(ha:VA X (e :: es) t)(hn:x ≠ "__name__" := by decide) (hd:(x==("__debug__" : Str))=false:=by decide)
  (ay:starEach (e :: es) X.env=(false,eval e X.env) :: starEach es X.env:=by rfl) (hpl:(backTo pos (starEach es X.env)).any (·.1)=false:=by rfl):VE X (.Call (.Name x p) (e :: es) [] pos) (vCB r t) :=
 (Sk hc hg hm hv ha hn hd ay hpl).imp λ_ _ _ h=>Qz h
def Qgo:AC:=λxs μ R=>match xs with
 | [.D (.str z)]=>z.length<=sizeLine/\R (.D (.int z.length)) μ
 | [.D (.tuple ds)]=>R (.D (.int ds.length)) μ
 | [.D (.list ds)]=>R (.D (.int ds.length)) μ
 | [.R a]=>opt (μ a) λm=>match m with
  | .lst ys=>R (.D (.int ys.length)) μ
  | .dk ba=>R (.D (.int ba.length)) μ
  | _=>False
 | _=>False
theorem Bl:VCall X (.builtin "len") Qgo:=by
 intro aa s σ H xs us Q I r zz27
 refine B0 zz27 λas μ R ra hc h hq=>?_
 have no:∀{y:AV} {t:List AV} {x:AV},Qgo (x :: y :: t) μ R->False:=λ{y t x} q=>by
  cases x with
  | D d=>cases d <;> exact q
  | _=>exact q
 cases ra with
 | nil=>exact False.elim h
 | @cons x v bw jq r1 r2 =>
  cases r2 with
  | cons _ _=>exact(no h).elim
  | nil =>
   cases x with
   | D d =>
    cases d with
    | str z =>
     cases RelA.str r1
     exact Lr aa s σ H _ us Q I r ⟨_,rfl,h.1,hq _ _ _ _ Kp.refl hc C0 h.2⟩
    | tuple ds =>
     obtain⟨p,vs,rfl,hp,rs⟩:=RelA.tup r1
     refine Ea aa s σ H _ us Q I r ⟨p,vs,rfl,.inr hp.sq,hq _ _ _ _ Kp.refl hc ?_ h⟩
     rw [rs.length];exact C0
    | list ds =>
     obtain⟨p,vs,rfl,hp,rs⟩:=RelA.lst r1
     refine Ea aa s σ H _ us Q I r ⟨p,vs,rfl,.inl hp.sq,hq _ _ _ _ Kp.refl hc ?_ h⟩
     rw [rs.length];exact C0
    | _=>exact False.elim h
   | R a =>
    obtain⟨m,em,h⟩:=Ba h
    cases (show _=V.ref _ from r1)
    obtain⟨o,ho,rm⟩:=hc _ _ em
    cases m with
    | lst ys =>
     obtain⟨vs,rfl,rs⟩:=rm
     refine Ea aa s σ H _ us Q I r ⟨_,vs,rfl,.inl (Du.of ho),hq _ _ _ _ Kp.refl hc ?_ h⟩
     rw [rs.length];exact C0
    | dk ba =>
     obtain⟨vs,rfl,rs⟩:=rm
     refine Sn aa s σ H _ us Q I r ⟨_,vs,rfl,ho,hq _ _ _ _ Kp.refl hc ?_ h⟩
     rw [Paired.length rs];exact C0
    | _=>exact False.elim h
   | _=>exact False.elim h
def L8:AC:=λxs μ R=>match xs with
 | [.D (.tuple ds)]=>R (.D (.tuple ds)) μ
 | [.C _]=>False
 | [y]=>opt (items μ y) λys=>opt (dats ys) λds=>R (.D (.tuple ds)) μ
 | _=>False
theorem Pc{x:AV}{t:List AV}{μ:M}{R:AV->M->Prop}(h:L8 (x :: t) μ R):t=[]:=by
 cases t with
 | nil=>rfl
 | cons y t =>
  refine False.elim ?_
  cases x with
  | D d=>cases d <;> exact h
  | _=>exact h
theorem Tb{x:AV}{μ:M}{R:AV->M->Prop}(ht:Sz x=false)(h:L8 [x] μ R):opt (items μ x) λys=>opt (dats ys) λds=>R (.D (.tuple ds)) μ:=by
 cases x with
 | D d=>cases d <;> first | exact h | cases ht
 | C ds=>cases ht
 | _=>exact h
theorem Vs{x:AV}{μ:M}{R:AV->M->Prop}(ht:Sz x=true)(h:L8 [x] μ R):∃ds,x=.D (.tuple ds)/\R (.D (.tuple ds)) μ:=by
 cases x with
 | D d =>
  cases d with
  | tuple ds=>exact⟨ds,rfl,h⟩
  | _=>cases ht
 | C ds=>exact False.elim h
 | _=>cases ht
theorem Dn:VCall X (.type "tuple") L8:=by
 intro aa s σ H xs us Q I r zz28
 refine B0 zz28 λas μ R ra hc h hq=>?_
 cases ra with
 | nil=>exact False.elim h
 | @cons y v ys' jq r1 r2 =>
  have hn:=Pc h
  subst hn
  cases r2
  cases ht:Sz y with
  | true =>
   obtain⟨ds,rfl,h⟩:=Vs ht h
   obtain⟨p,vs,rfl,hp,rs⟩:=RelA.tup r1
   exact Fa aa s σ H _ us Q I r ⟨p,vs,rfl,.inr ⟨hp.sq,hq _ _ _ _ Kp.refl hc r1 h⟩⟩
  | false =>
   obtain⟨ys,ey,h⟩:=Ba (Tb ht h)
   obtain⟨ds,ed,h⟩:=Ba h
   obtain⟨p,vs,rfl,hp,rs⟩:=Bf hc r1 ey
   rcases hp with⟨_,hp⟩ | ⟨ht2,_⟩
   ·exact Fa aa s σ H _ us Q I r ⟨p,vs,rfl,.inl ⟨hp,λl hl=>hq _ _ _ _ (Kp.new hl _) (hc.over hl) (Ii A9 (Ak.kp (Kp.new hl _) _ _ (rs.dats ed))) h⟩⟩
   ·rw [ht]at ht2;cases ht2
def Qa1:AC:=λxs μ R=>match xs with
 | [y]=>opt (items μ y) λys=>∀p,μ p=none->R (.R p) (Bh μ p (.lst ys))
 | _=>False
theorem Vt:VCall X (.type "list") Qa1:=by
 intro aa s σ H xs us Q I r zz29
 refine B0 zz29 λas μ R ra hc h hq=>?_
 unfold Qa1 at h
 split at h
 ·cases ra with
  | cons r1 r2 =>
   cases r2
   obtain⟨ys,ey,h⟩:=Ba h
   obtain⟨p,vs,rfl,hp,rs⟩:=Gn hc r1 ey
   exact Lu aa s σ H _ us Q I r ⟨p,vs,rfl,hp,λl hl=>hq _ _ _ _ (Kp.new hl _) (hc.new hl (C8 (rs))) Eb (h l (hc.none hl))⟩
 ·exact h.elim
def bools:List AV->Option (List Bool)
 | []=>some []
 | .D (.bool b) :: r=>match bools r with
  | some bs=>some (b :: bs)
  | none=>none
 | _ :: _=>none
theorem Ko:∀(bs:List Bool),bools (bs.map λb=>.D (.bool b))=some bs
 | []=>rfl
 | b :: bs=>by simp only [List.map_cons,bools,Ko bs]
theorem Au.bools{K:PySem.W.Frag}{H:Hp}{xs:List AV}{vs:List V}{bs:List Bool}(h:Au K H xs vs)(e:L2.bools xs=some bs):vs=bs.map V.bl:=by
 induction h generalizing bs with
 | nil=>cases e;rfl
 | @cons x v xs vs r t ih =>
  cases x with
  | D d =>
   cases d with
   | bool b =>
    simp only [L2.bools]at e
    cases q:L2.bools xs with
    | none=>rw [q]at e;cases e
    | some cs=>rw [q]at e;cases e;cases RelA.bl r;rw [ih q];rfl
   | _=>simp [L2.bools]at e
  | _=>simp [L2.bools]at e
def Qc9:AC:=λxs μ R=>match xs with
 | [.R a]=>opt (μ a) λm=>match m with
  | .lst ys=>opt (bools ys) λbs=>R (.D (.bool (bs.all id))) μ
  | _=>False
 | _=>False
theorem Vu(jy:X.calm=true):VCall X (.builtin "all") Qc9:=by
 intro aa s σ H xs us Q I r zz30
 refine B0 zz30 λas μ R ra hc h hq=>?_
 unfold Qc9 at h
 split at h
 ·cases ra with
  | cons r1 r2 =>
   cases r2
   obtain⟨m,em,h⟩:=Ba h
   split at h
   ·obtain⟨bs,eb,h⟩:=Ba h
    obtain⟨o,ho,vs,rfl,rs⟩:=hc _ _ em
    cases (show _=V.ref _ from r1)
    exact U9 jy aa s σ H _ us Q I r ⟨_,bs,rfl,Du.of (by rw [ho,rs.bools eb]),hq _ _ _ _ Kp.refl hc Cv h⟩
   ·exact h.elim
 ·exact h.elim
def Qa2:AC:=λxs μ R=>match xs with
 | [.D (.int i),.D (.int j)]=>R (.D (.int (if j > i then j else i))) μ
 | _=>False
def Qa3:AC:=λxs μ R=>match xs with
 | [.D (.int i),.D (.int j)]=>R (.D (.int (if j < i then j else i))) μ
 | _=>False
theorem Qda(jy:X.calm=true):VCall X (.builtin "max") Qa2:=by
 intro aa s σ H xs us Q I r zz31
 refine B0 zz31 λas μ R ra hc h hq=>?_
 unfold Qa2 at h
 split at h
 ·cases ra with
  | cons r1 r2 =>
   cases r2 with
   | cons r2 r3 =>
    cases r3
    cases RelA.int r1;cases RelA.int r2
    exact Sf jy aa s σ H _ us Q I r ⟨_,_,rfl,hq _ _ _ _ Kp.refl hc C0 h⟩
 ·exact h.elim
theorem Qdb(jy:X.calm=true):VCall X (.builtin "min") Qa3:=by
 intro aa s σ H xs us Q I r zz32
 refine B0 zz32 λas μ R ra hc h hq=>?_
 unfold Qa3 at h
 split at h
 ·cases ra with
  | cons r1 r2 =>
   cases r2 with
   | cons r2 r3 =>
    cases r3
    cases RelA.int r1;cases RelA.int r2
    exact Sg jy aa s σ H _ us Q I r ⟨_,_,rfl,hq _ _ _ _ Kp.refl hc C0 h⟩
 ·exact h.elim
variable {o:Expr}{to:AE}{name:Str}{cr ax:Pos}{m:AV->AC}
def Nf(μ:M):AV->Prop
 | .R a=>opt (μ a) λm=>match m with
  | .lst _=>True
  | _=>False
 | .D (.list _)=>True
 | _=>False
def Qa4:AV->Prop
 | .D (.str _)=>True
 | _=>False
theorem Nf.ty{H:Hp}{μ:M}{x:AV}{v:V}(hc:Cn X.K μ H)(rx:RelA X.K H x v)(h:Nf μ x):tyV X.K "list" v H:=by
 unfold Nf at h
 split at h
 ·obtain⟨m,e,h⟩:=Ba h
  split at h
  ·obtain⟨o,ho,vs,rfl,_⟩:=hc _ _ e
   cases (show v=.ref _ from rx)
   exact .inl ⟨rfl,vs,Du.of ho⟩
  ·exact h.elim
 ·obtain⟨a,xs,rfl,q,_⟩:=RelA.lst rx
  exact .inl ⟨rfl,xs,q.sq⟩
 ·exact h.elim
def vBL(m:AV->AC)(to:AE)(t:AA):AE:=fun τ μ R=>to τ μ λx μ1=>Nf μ1 x/\t τ μ1 λxs μ2=>m x xs μ2 R
def vBS(m:AV->AC)(to:AE)(t:AA):AE:=fun τ μ R=>to τ μ λx μ1=>Qa4 x/\t τ μ1 λxs μ2=>m x xs μ2 R
theorem Vv(slot:Slot "list" name my) (qv:typeOf (.builtin my)=pure (.type "method_descriptor")) (hm:VMt X my m) (ho:VE X o to) (ha:VA X (e :: es) t)
  (ir:attributeBase o name X.env (eval o X.env)=eval o X.env:=by rfl)
  (kj:((backTo ax (starEach (e :: es) X.env)).all (λx=>!x.1) && (backToKw ax (keywordEach [] X.env)).all (λx=>x.1.isSome)
   && decide ((e :: es).length+([]:List Keyword).length+(if([]:List Keyword).isEmpty then 0 else 1) < 30))=true:=by rfl)
  (il:(cr.endLine==ax.line)=true:=by rfl) (hs:starEach (e :: es) X.env=(false,eval e X.env) :: starEach es X.env:=by rfl) (fq:(backTo ax (starEach es X.env)).any (·.1)=false:=by rfl) :
  VE X (.Call (.Attribute o name cr) (e :: es) [] ax) (vBL m to t) :=
 (Qav PySem.F.plainAttrs_list slot qv hm ho ha ir kj il hs fq).imp fun σ H Q zz34=>B0 zz34 fun τ μ R hs hc h hq=>⟨τ,μ,_,hs,hc,h,λx μ1 v H1 S1 c1 rx hx=>⟨hx.1.ty c1 rx,τ,μ1,_,hs.kp S1,c1,hx.2,λxs μ2 vs H2 S2 c2 rs hl hxs =>
  ⟨x,xs,μ2,R,rx.kp S2,rs,c2,hxs,hq.kp (S1.trans S2)⟩⟩⟩
theorem Qgp(slot:Slot "str" name my) (qv:typeOf (.builtin my)=pure (.type "method_descriptor")) (hm:VMt X my m) (ho:VE X o to) (ha:VA X (e :: es) t)
  (ir:attributeBase o name X.env (eval o X.env)=eval o X.env:=by rfl)
  (kj:((backTo ax (starEach (e :: es) X.env)).all (λx=>!x.1) && (backToKw ax (keywordEach [] X.env)).all (λx=>x.1.isSome)
   && decide ((e :: es).length+([]:List Keyword).length+(if([]:List Keyword).isEmpty then 0 else 1) < 30))=true:=by rfl)
  (il:(cr.endLine==ax.line)=true:=by rfl) (hs:starEach (e :: es) X.env=(false,eval e X.env) :: starEach es X.env:=by rfl) (fq:(backTo ax (starEach es X.env)).any (·.1)=false:=by rfl) :
  VE X (.Call (.Attribute o name cr) (e :: es) [] ax) (vBS m to t) :=
 (Qav PySem.F.plainAttrs_str slot qv hm ho ha ir kj il hs fq).imp fun σ H Q zz35=>B0 zz35 fun τ μ R hs hc h hq=>⟨τ,μ,_,hs,hc,h,λx μ1 v H1 S1 c1 rx hx=>⟨by
   obtain⟨hx,_⟩:=hx
   unfold Qa4 at hx
   split at hx
   ·cases RelA.str rx;rfl
   ·exact hx.elim,τ,μ1,_,hs.kp S1,c1,hx.2,λxs μ2 vs H2 S2 c2 rs hl hxs =>
  ⟨x,xs,μ2,R,rx.kp S2,rs,c2,hxs,hq.kp (S1.trans S2)⟩⟩⟩
def L9:AV->AC:=λx xs μ R=>match x,xs with
 | .R a,[y]=>opt (μ a) λm=>match m with
  | .lst ys=>ys.length < sizeLine/\R (.D .none) (Bh μ a (.lst (ys++[y])))
  | _=>False
 | _,_=>False
theorem Io:VMt X "list.append" L9:=by
 intro aa s σ H x xs v us Q I rx r zz36
 refine Dt zz36 λa as μ R ra rs hc h hq=>?_
 unfold L9 at h
 split at h
 ·rename_i a y
  obtain⟨m,ey,h⟩:=Ba h
  split at h
  ·cases rs with
   | cons r1 r2 =>
    cases r2
    obtain⟨o,ho,vs,rfl,rl⟩:=hc _ _ ey
    cases (show x=.ref a from ra)
    exact Kj aa s σ H _ _ v us Q I rx r ⟨a,vs,_,rfl,rfl,ho,by rw [<- rl.length];exact h.1,hq _ _ _ _ (Kp.put ho trivial _) (hc.put ho trivial (C8 (rl.append (.cons r1 .nil)))) Lz h.2⟩
  ·exact h.elim
 ·exact h.elim
end
section
variable {X:Cx}{a b c:Expr}{ta tb tc:AE}{pos:Pos}
def kit(S T:String):Bool:=S==T || (S == "bool" && T == "int")
def tyA(μ:M):AV->Option String
 | .D .none=>some "NoneType"
 | .D (.bool _)=>some "bool"
 | .D (.int _)=>some "int"
 | .D (.str _)=>some "str"
 | .D (.list _)=>some "list"
 | .D (.tuple _)=>some "tuple"
 | .D (.dict _)=>none
 | .C _=>some "tuple"
 | .X _ _=>none
 | .R a=>match μ a with
  | some (.lst _)=>some "list"
  | some (.dk _)=>some "dict"
  | some (.dt _)=>some "dict"
  | some (.dd _)=>some "dict"
  | none=>none
def Qj7(T:String)(te:AE):AE:=fun τ μ R=>te τ μ λx μ1=>opt (tyA μ1 x) λS=>R (.D (.bool (kit S T))) μ1
def Kits(K:PySem.W.Frag)(T:String):Prop:=∀S∈["NoneType","bool","int","str","list","tuple","dict"],PySem.W.kitOne K (.type S) (.type T)=some (kit S T)
theorem Qdc{aa:List (Addr×Obj)}{σ:St}{H:Hp}{s:Shared}{E:Value->Shared->Prop}{Q:Value->Shared->Prop}{μ:M}{x:AV}{v:V}{u:Value}{S T:String}(I:Inv X aa σ H s)(hc:Cn X.K μ H)(rx:RelA X.K H x v)(r:Bj v u)(e:tyA μ x=some S)(hk:Kits X.K T)
  (h:∀tk,Q (.bool (kit S T)) { s with toks:=tk }):wpAny (model X.prog X.w) X.A (call (.builtin "isinstance") [u,.type T]) Q E s:=by
 unfold tyA at e
 split at e
 ·cases e;cases RelA.non rx;cases r;exact Yb3 PySem.W.kitx_none I.kIn True.intro (hk _ (by decide)) (λz=>nomatch z) h
 ·cases e;cases RelA.bl rx;cases r;exact Yb3 PySem.W.kitx_bool I.kIn True.intro (hk _ (by decide)) (λz=>nomatch z) h
 ·cases e;cases RelA.int rx;obtain⟨t,rfl⟩:=r;exact Yb3 PySem.W.kitx_int I.kIn True.intro (hk _ (by decide)) (λz=>nomatch z) h
 ·cases e;cases RelA.str rx;obtain⟨t,rfl⟩:=r;exact Yb3 PySem.W.kitx_str I.kIn True.intro (hk _ (by decide)) (λz=>nomatch z) h
 ·cases e
  obtain⟨a,vs,rfl,q,_⟩:=RelA.lst rx
  cases r
  obtain⟨_,_,⟨o,n,e1,e2,_⟩,_⟩:=I.list q.sq
  exact Yb3 PySem.W.kitx_list I.kIn ⟨o,e1,e2⟩ (hk _ (by decide)) (λz=>nomatch z) h
 ·cases e
  obtain⟨a,vs,rfl,q,_⟩:=RelA.tup rx
  cases r
  obtain⟨_,_,⟨o,e1,e2,_⟩,_⟩:=I.tuple q.sq
  exact Yb3 PySem.W.kitx_tuple I.kIn ⟨o,e1,e2⟩ (hk _ (by decide)) (λz=>nomatch z) h
 ·cases e
 ·cases e
  obtain⟨a,vs,rfl,q,_⟩:=rx
  cases r
  obtain⟨_,_,⟨o,e1,e2,_⟩,_⟩:=I.tuple (q H)
  exact Yb3 PySem.W.kitx_tuple I.kIn ⟨o,e1,e2⟩ (hk _ (by decide)) (λz=>nomatch z) h
 ·cases e
 ·rename_i a
  cases (show v=.ref a from rx)
  cases r
  split at e
  ·rename_i xs ex
   cases e
   obtain⟨o,ho,vs,rfl,_⟩:=hc _ _ ex
   obtain⟨_,_,⟨o,n,e1,e2,_⟩,_⟩:=I.list (Du.of ho)
   exact Yb3 PySem.W.kitx_list I.kIn ⟨o,e1,e2⟩ (hk _ (by decide)) (λz=>nomatch z) h
  ·rename_i xs ex
   cases e
   obtain⟨o,ho,vs,rfl,_⟩:=hc _ _ ex
   obtain⟨_,_,ws,_,p⟩:=(show Bo X.prog X.w H s.heap a (.dK vs) from I.hok a _ ho)
   obtain⟨o,es,ep,h1,h2,_⟩:=p
   exact Yb3 PySem.W.kitx_dict I.kIn ⟨o,h1,h2.1⟩ (hk _ (by decide)) (λz=>nomatch z) h
  ·rename_i xs ex
   cases e
   obtain⟨o,ho,vs,rfl,_⟩:=hc _ _ ex
   obtain⟨_,_,xs,_,o,es,ep,h1,h2,_⟩:=(show Bo X.prog X.w H s.heap a (.dT vs) from I.hok a _ ho)
   exact Yb3 PySem.W.kitx_dict I.kIn ⟨o,h1,h2.1⟩ (hk _ (by decide)) (λz=>nomatch z) h
  ·rename_i xs ex
   cases e
   obtain⟨o,ho,vs,rfl,_⟩:=hc _ _ ex
   obtain⟨o,es,ep,h1,h2,_⟩:=(show Bo X.prog X.w H s.heap a (.dd vs) from I.hok a _ ho)
   exact Yb3 PySem.W.kitx_dict I.kIn ⟨o,h1,h2.1⟩ (hk _ (by decide)) (λz=>nomatch z) h
  ·cases e
theorem Vw{T:String}{x:Str}{p p2:Pos}(hg:Gl X "isinstance") (hm:X.mg "isinstance" = none) (gu:Gl X x) (fy:X.mg x=none) (uq:bootBuiltins x=some (.type T)) (hk:Kits X.K T) (he:VE X a ta)
  (j6:x ≠ "__name__" := by decide) (i9:(x==("__debug__" : Str))=false:=by decide)
  (hs:starEach [a,.Name x p2] X.env=(false,eval a X.env) :: starEach [.Name x p2] X.env:=by rfl) (cv:starEach [.Name x p2] X.env=[(false,eval (.Name x p2) X.env)]:=by rfl) (hpl:(backTo pos (starEach [.Name x p2] X.env)).any (·.1)=false:=by rfl) :
  VE X (.Call (.Name "isinstance" p) [a,.Name x p2] [] pos) (Qj7 T ta):=by
 intro aa s σ H Q I zz40
 refine B0 zz40 fun τ μ R ay hc h hq=>?_
 refine Yav (Bw I hg hm Yfk ?_)
 refine Ybq ?_ hs hpl
 rw [hs]
 refine Yar (thn (he aa s σ H (λv H1=>∃x μ1 S,Kp H H1/\Cn X.K μ1 H1/\RelA X.K H1 x v/\tyA μ1 x=some S/\R (.D (.bool (kit S T))) μ1) I ⟨τ,μ,_,ay,hc,h,λx μ1 v H1 S1 c1 rx hx=>?_⟩) λu s1 t6=>?_)
 ·obtain⟨S,e,hx⟩:=Ba hx
  exact⟨x,μ1,S,S1,c1,rx,e,hx⟩
 obtain⟨v,H1,I1,r1,x,μ1,S,S1,c1,rx,ty,q1⟩:=t6
 rw [cv]
 refine Yar (Bw I1 gu fy uq (Ya5 ?_) j6 i9)
 exact Qdc I1 c1 rx r1 ty hk λtk=>⟨.bl _,H1,I1.tok _,rfl,hq _ _ _ _ S1 c1 Cv q1⟩
abbrev ASp:=List AV->M->(AV->M->Prop)->Prop
def Jy(K:PySem.W.Frag)(n:Nat)(sp:ASp):Sp:=λvs H Q _=>∃xs μ R,xs.length=n/\Au K H xs vs/\Cn K μ H/\sp xs μ R/\LV K H R Q
def VCal(P:Program)(w:World)(K:PySem.W.Frag)(mg:Str->Option Value)(base:Heap)(k:Nat)(x:Str)(ps:List Str)(sp:ASp):Prop:=Cal P w K mg base k x ps (Jy K ps.length sp)
def Qgq(n:Nat)(sp:ASp)(t:AA):AE:=fun τ μ R=>t τ μ λxs μ1=>sp xs μ1 R
variable {x:Str}{p:Pos}{e:Expr}{es:List Expr}{t:AA}{k:Nat}{ps:List Str}{sp:ASp}
theorem Ai(F:VCal X.prog X.w X.K X.mg X.base k x ps sp)(hr:Room k X.A)(hg:Gl X x)(ha:VA X (e :: es) t)(hl:(e :: es).length=ps.length:=by rfl)(hdb:(x==("__debug__" : Str))=false:=by decide)
  (ay:starEach (e :: es) X.env=(false,eval e X.env) :: starEach es X.env:=by rfl) (hpl:(backTo pos (starEach es X.env)).any (·.1)=false:=by rfl):VE X (.Call (.Name x p) (e :: es) [] pos) (Qgq ps.length sp t):=by
 obtain⟨g,gd,G,gb,gk,gm⟩:=F
 refine PE.imp (Qn (E:=E0) G hr hg gm gk gb .nil Qaw ha (hdb:=hdb) (he:=ay) (hpl:=hpl)) fun σ H Q zz41=>B0 zz41 fun τ μ R hs hc h hq=>?_
 exact⟨τ,μ,_,hs,hc,h,λxs μ1 vs H1 S1 c1 rs hn hx=>⟨xs,μ1,R,hn.trans hl,by rw [Yc5];exact rs,c1,hx,hq.kp S1⟩⟩
def Qgr:AS:=λk _ _ _ τ μ=>k τ μ
def Vx(t u:AS):AS:=λk r b c τ μ=>t (u k r b c) r b c τ μ
variable {st:Stmt}{rest:List Stmt}{s1 s2:AS}
theorem Aq:VSs X [] Qgr:=Ya.imp λD σ H zz43=>Hk zz43 fun τ μ nk nr nb nc hs hc h hq=>hq.nx _ _ _ _ Kp.refl hs hc h
theorem Ad(h1:VS X st s1)(h2:VSs X rest s2):VSs X (st :: rest) (Vx s1 s2):=(Mx h1 h2).imp λD σ H zz44=>Hk zz44 fun τ μ nk nr nb nc hs hc h hq =>
 ⟨τ,μ,_,_,_,_,hs,hc,h,⟨fun τ' μ' σ' H' S' gy cu h'=>⟨τ',μ',nk,nr,nb,nc,gy,cu,h',hq.kp S'⟩,hq.rt,hq.bk,hq.ct⟩⟩
theorem Ah(h1:VS X st s1):VSs X [st] s1:=Ln h1
def Qgs(te:AE):AS:=λk _ _ _ τ μ=>te τ μ λ_ μ1=>k τ μ1
theorem Ma(he:VE X a ta)(hs:swapsWith a none pos.line X.env=pure false:=by rfl):VS X (.Expr a pos) (Qgs ta):=(Yb he hs).imp λD σ H zz48=>Hk zz48 fun τ μ nk nr nb nc hs hc h hq =>
 ⟨τ,μ,_,hs,hc,h,λx μ1 v H1 S1 c1 rx hx=>hq.nx _ _ _ _ S1 (hs.kp S1) c1 hx⟩
def Qj8(te:AE):AS:=λ_ r _ _ τ μ=>te τ μ r
theorem Ar(he:VE X a ta):VS X (.Return (some a) pos) (Qj8 ta):=(Qcb he).imp λD σ H zz49=>Hk zz49 fun τ μ nk nr nb nc hs hc h hq=>⟨τ,μ,_,hs,hc,h,hq.rt⟩
def Qj9(ct:AT)(t u:AS):AS:=λk r b c τ μ=>ct τ μ λx μ1=>brP x (t k r b c τ μ1) (u k r b c τ μ1)
theorem Be{c:Expr}{a b:List Stmt}{tc:AT}(hc:VT X c tc)(ha:VSs X a s1)(hb:VSs X b s2):VS X (.If c a b pos) (Qj9 tc s1 s2):=(Qfm hc ha hb).imp λD σ H zz51=>Hk zz51 fun τ μ nk nr nb nc hs hc h hq =>
 ⟨τ,μ,_,hs,hc,h,λk μ1 H1 S1 c1 hk=>by
  rcases br_e hk with⟨rfl,cy⟩ | ⟨rfl,cy⟩
  ·exact⟨τ,μ1,nk,nr,nb,nc,hs.kp S1,c1,cy,hq.kp S1⟩
  ·exact⟨τ,μ1,nk,nr,nb,nc,hs.kp S1,c1,cy,hq.kp S1⟩⟩
def Dx(i:Nat):AG:=λv τ μ R=>R (τ.set i (some v)) μ
theorem A3{i:Nat}{x:Str}(hN:X.N.Nodup)(hi:X.N[i]?=some x)(hx:Loc X.env.scope x)(hf:X.fn x=true\/X.env.scope.names.lookup x=some .local:=by first | exact .inl rfl | exact .inr rfl | assumption):VG X (.Name x pos) (Dx i) :=
 (Yc hN hi hx hf).imp λv σ H Q zz54=>Dt zz54 λx τ μ R rx hs hc h hq=>hq _ _ _ _ Kp.refl (hs.set rx i) hc h
def Qdd:AGs:=λvs τ μ R=>match vs with
 | []=>R τ μ
 | _ :: _=>False
def Kq(t:AG)(u:AGs):AGs:=λvs τ μ R=>match vs with
 | []=>False
 | v :: r=>t v τ μ fun τ' μ'=>u r τ' μ' R
theorem Ft:VGs X [] Qdd:=Yd.imp λvs σ H Q zz55=>Dt zz55 λxs τ μ R rx hs hc h hq=>by
 cases rx with
 | nil=>exact⟨rfl,hq _ _ _ _ Kp.refl hs hc h⟩
 | cons=>exact h.elim
theorem B2{e:Expr}{es:List Expr}{t:AG}{u:AGs}(h1:VG X e t)(h2:VGs X es u)
  (hs:(assignEach (e :: es) X.env).map (·.2)=assign e X.env :: (assignEach es X.env).map (·.2):=by rfl):VGs X (e :: es) (Kq t u):=(Um h1 h2 hs).imp λvs σ H Q zz56=>Dt zz56 λxs τ μ R rx hs hc h hq=>by
 cases rx with
 | nil=>exact h.elim
 | cons r1 r2=>exact⟨_,_,rfl,_,τ,μ,_,r1,hs,hc,h,fun τ' μ' σ' H' S' gy cu h'=>⟨_,τ',μ',R,Au.kp S' r2,gy,cu,h',hq.kp S'⟩⟩
def Qgt(n:Nat)(t:AGs):AG:=λv τ μ R=>match v with
 | .D (.tuple ds)=>ds.length=n/\t (ds.map .D) τ μ R
 | _=>False
theorem Mb{es:List Expr}{k:Nat}{t:AGs}{n:Nat}(jy:X.calm=true)(h:VGs X es t)
  (hn:(assignEach es X.env).length=n:=by rfl) (ay:(assignEach es X.env).findIdx? (·.1)=none:=by rfl):VG X (.Tuple es k pos) (Qgt n t):=(Qcc jy h hn ay).imp λv σ H Q zz57=>Dt zz57 λx τ μ R rx hs hc h hq=>by
 unfold Qgt at h
 split at h
 ·obtain⟨a,vs,rfl,q,r⟩:=RelA.tup rx
  exact⟨a,vs,rfl,q.sq,by rw [r.length];exact h.1,_,τ,μ,R,r.rel,hs,hc,h.2,hq⟩
 ·exact h.elim
def Qde(o i v:AV)(μ:M)(R:M->Prop):Prop:=match o,i with
 | .R a,.D (.int k)=>opt (μ a) λm=>match m with
  | .lst xs=>opt (Ue xs.length k) λj=>R (Bh μ a (.lst (xs.set j v)))
  | _=>False
 | _,_=>False
def Qka(K:PySem.W.Frag):TSet:=λo i v H Q=>∃a b c μ R,RelA K H a o/\RelA K H b i/\RelA K H c v/\Cn K μ H/\Qde a b c μ R/\∀ μ' H',Kp H H'->Cn K μ' H'->R μ'->Q H'
theorem Qgu:PSet X (Qka X.K):=by
 intro aa s σ H o i v ov iv u Q I r1 r2 r3 ⟨a,b,c,μ,R,ra,rb,rc,hc,h,hq⟩
 unfold Qde at h
 split at h
 ·rename_i q k
  obtain⟨m,ex,h⟩:=Ba h
  split at h
  ·obtain⟨j,ej,h⟩:=Ba h
   ·obtain⟨o',ho,vs,rfl,rs⟩:=hc _ _ ex
    cases (show o=.ref q from ra)
    cases RelA.int rb
    exact U0 aa s σ H _ _ v ov iv u Q I r1 r2 r3 ⟨q,vs,k,j,rfl,rfl,ho,by rw [<- rs.length];exact ej,hq _ _ (Kp.put ho trivial _) (hc.put ho trivial (C8 (rs.set rc j))) h⟩
  ·exact h.elim
 ·exact h.elim
def Qkb(to ti:AE):AG:=λv τ μ R=>to τ μ λo μ1=>ti τ μ1 λi μ2=>Qde o i v μ2 fun μ3=>R τ μ3
theorem Mc{o i:Expr}{to ti:AE}(ho:VE X o to)(hi:VE X i ti)
  (ha:∀v,assign (.Subscript o i pos) X.env v=(do
   let ov <- holding [v] (eval o X.env)
   let iv <- holding [v,ov] (eval i X.env)
   standAt pos
   holding [v,ov,iv] (setItem ov iv v)
   release [v,ov,iv] []):=by intro _;rfl):VG X (.Subscript o i pos) (Qkb to ti):=(Qcd ho hi Qgu ha).imp λv σ H Q zz58=>Dt zz58 λx τ μ R rx hs hc h hq =>
 ⟨τ,μ,_,hs,hc,h,λo μ1 ov H1 S1 c1 ro h1=>⟨τ,μ1,_,hs.kp S1,c1,h1,λi μ2 iv H2 S2 c2 ri h2=>⟨o,i,x,μ2,_,ro.kp S2,ri,rx.kp (S1.trans S2),c2,h2,fun μ3 H3 S3 c3 h3=>hq _ _ _ _ (S1.trans (S2.trans S3)) (hs.kp (S1.trans (S2.trans S3))) c3 h3⟩⟩⟩
def Ng(te:AE)(g:AG):AS:=λk _ _ _ τ μ=>te τ μ λx μ1=>g x τ μ1 k
theorem Vy{K:PySem.W.Frag}{te:AE}{g:AG}{D:Ends}{σ:St}{H:Hp}(h:cS K (Ng te g) D σ H):Ye (cE K te) (cG K g) D σ H:=by
 obtain⟨τ,μ,nk,nr,nb,nc,hs,hc,h,hq⟩:=h
 exact⟨τ,μ,_,hs,hc,h,λx μ1 v H1 S1 c1 rx hx=>⟨x,τ,μ1,_,rx,hs.kp S1,c1,hx,hq.nx.kp S1⟩⟩
theorem Fi{tg:Expr}{g:AG}(he:VE X a ta)(hg:VG X tg g)(hs:swapsWithSole [tg] a pos.line X.env=pure false:=by rfl)(hw:swappedStores [tg] a X.env=pure none:=by rfl)
  (h1:(assignEach [tg] X.env).map (·.2)=[assign tg X.env]:=by rfl):VS X (.Assign [tg] a pos) (Ng ta g):=(Qce he hg hs hw h1).imp λ_ _ _ h=>Vy h
theorem Ao{i:Nat}{x:Str}{c9:Pos}(hN:X.N.Nodup)(hi:X.N[i]?=some x)(hx:Loc X.env.scope x)(he:VE X a ta)(hs:swapsWith a (some (.Name x c9)) pos.line X.env=pure false:=by rfl)(hf:X.fn x=true\/X.env.scope.names.lookup x=some .local:=by first | exact .inl rfl | exact .inr rfl | assumption) :
  VS X (.Assign [.Name x c9] a pos) (Ng ta (Dx i)):=(Qcf hN hi hx he hs hf).imp λD σ H zz59=>Hk zz59 fun τ μ nk nr nb nc hs hc h hq =>
 ⟨τ,μ,_,hs,hc,h,λx μ1 v H1 S1 c1 rx hx=>hq.nx _ _ _ _ S1 ((hs.kp S1).set rx i) c1 hx⟩
def Qlw(i j:Nat)(t:AA):AS:=λk _ _ _ τ μ=>t τ μ λxs μ1=>match xs with
 | [v,w]=>k ((τ.set i (some v)).set j (some w)) μ1
 | _=>False
def wl(c:AT)(tb:AS)(k:ASt->M->Prop)(r:AV->M->Prop):Nat->ASt->M->Prop
 | 0=>λ_ _=>False
 | n+1=>fun τ μ=>c τ μ λx μ1=>brP x (tb (wl c tb k r n) r k (wl c tb k r n) τ μ1) (k τ μ1)
structure ItOk(K:PySem.W.Frag)(H0:Hp)(J:It)(xs:List AV)(kp:M->Prop):Prop where
 go:∀i H μ,Kp H0 H->Cn K μ H->kp μ->i < xs.length->J.go i H
 yld:∀i H μ v H' x,Kp H0 H->Cn K μ H->kp μ->xs[i]?=some x->J.yld i H v H'->Kp H H'/\Cn K μ H'/\RelA K H' x v
 stop:∀H μ,Kp H0 H->Cn K μ H->kp μ->J.stop xs.length H
abbrev AI:=ASt->M->(List AV->(M->Prop)->M->Prop)->Prop
def cI(K:PySem.W.Frag)(wi:AI):TI:=fun σ H R=>∃ τ μ R',C4 K H τ σ/\Cn K μ H/\wi τ μ R'/\∀xs kp μ' J H',Kp H H'->Cn K μ' H'->ItOk K H' J xs kp->R' xs kp μ'->R J H'
def VI(X:Cx)(tg aw:Expr)(wi:AI):Prop:=PI X tg aw (cI X.K wi)
theorem PI.imp{tg e:Expr}{t u:TI}(h:PI X tg e t)(i:∀ σ H Q,u σ H Q->t σ H Q):PI X tg e u:=λaa s σ H Q I q=>h aa s σ H Q I (i σ H Q q)
theorem Tc{K:PySem.W.Frag}{H0:Hp}{a:Addr}{xs:List AV}{kp:M->Prop}(h:∀H μ,Kp H0 H->Cn K μ H->kp μ->∃vs,Du K H a vs/\Au K H xs vs):ItOk K H0 (Itl K a) xs kp:=by
 refine⟨λi H μ S c k hi=>?_,λi H μ v H' x S c k e y=>?_,λH μ S c k=>?_⟩
 ·obtain⟨vs,q,r⟩:=h H μ S c k
  exact⟨vs,vs[i]'(by rw [<- r.length];exact hi),q,List.getElem?_eq_getElem _⟩
 ·obtain⟨vs,q,r⟩:=h H μ S c k
  obtain⟨rfl,y⟩:=y
  obtain⟨u,eu,ru⟩:=r.get e
  rw [y vs q]at eu
  cases eu
  exact⟨Kp.refl,c,ru⟩
 ·obtain⟨vs,q,r⟩:=h H μ S c k
  exact⟨vs,q,by rw [r.length];exact Yaf _⟩
theorem Vz{K:PySem.W.Frag}{H0:Hp}{a:Addr}{xs:List AV}{kp:M->Prop}(h:∀H μ,Kp H0 H->Cn K μ H->kp μ->∃vs,Gi K H a vs/\Au K H xs vs):ItOk K H0 (Itt K a) xs kp:=by
 refine⟨λi H μ S c k hi=>?_,λi H μ v H' x S c k e y=>?_,λH μ S c k=>?_⟩
 ·obtain⟨vs,q,r⟩:=h H μ S c k
  exact⟨vs,vs[i]'(by rw [<- r.length];exact hi),q,List.getElem?_eq_getElem _⟩
 ·obtain⟨vs,q,r⟩:=h H μ S c k
  obtain⟨rfl,y⟩:=y
  obtain⟨u,eu,ru⟩:=r.get e
  rw [y vs q]at eu
  cases eu
  exact⟨Kp.refl,c,ru⟩
 ·obtain⟨vs,q,r⟩:=h H μ S c k
  exact⟨vs,q,by rw [r.length];exact Yaf _⟩
variable {tg:Expr}
def Dl(lo:Int):Nat->List AV
 | 0=>[]
 | n+1=>.D (.int lo) :: Dl (lo+1) n
theorem Bp:∀(n:Nat) (lo:Int),(Dl lo n).length=n
 | 0,_=>rfl
 | n+1,lo=>by rw [Dl,Ybp,Bp n]
theorem Fu:∀(n:Nat) (lo:Int) (i:Nat) {x:AV},(Dl lo n)[i]?=some x->x=.D (.int (lo+i))
 | 0,_,_,_,h=>by simp [Dl]at h
 | n+1,lo,0,_,h=>by simp [Dl]at h;rw [<- h];simp
 | n+1,lo,i+1,_,h=>by
  rw [Dl,List.getElem?_cons_succ]at h
  rw [Fu n (lo+1) i h]
  congr 2
  omega
theorem V0{K:PySem.W.Frag}{H0:Hp}{lo:Int}{n:Nat}:ItOk K H0 (Itr lo n) (Dl lo n) (λ_=>True):=by
 refine⟨λi H μ S c k hi=>?_,λi H μ v H' x S c k e y=>?_,λH μ S c k=>?_⟩
 ·show i < n
  rw [Bp]at hi;exact hi
 ·obtain⟨rfl,rfl⟩:=y
  rw [Fu n lo i e]
  exact⟨Kp.refl,c,C0⟩
 ·show n<=_
  rw [Bp];exact Yaf _
def Qgv(t:AA):AI:=fun τ μ R=>t τ μ λxs μ1=>match xs with
 | [.D (.int j)]=>-(2 ^ 62)<=j/\j < 2 ^ 62/\R (Dl 0 j.toNat) (λ_=>True) μ1
 | _=>False
theorem Ce{t:AA}{p:Pos}(hg:Gl X "range") (hm:X.mg "range" = none) (ha:VA X [a] t) (hs:starEach [a] X.env=[(false,eval a X.env)]:=by rfl):VI X tg (.Call (.Name "range" p) [a] [] pos) (Qgv t) :=
 (Sc hg hm ha hs).imp fun σ H Q zz62=>B0 zz62 fun τ μ R hs hc h hq=>⟨τ,μ,_,hs,hc,h,λxs μ1 vs H1 S1 c1 rs hl hx=>by
  split at hx
  ·cases rs with
   | cons r1 r2 =>
    cases r2
    cases RelA.int r1
    exact⟨_,rfl,hx.1,hx.2.1,hq _ _ _ _ _ S1 c1 V0 hx.2.2⟩
  ·exact hx.elim⟩
def fl(g:AG)(tb:AS)(k:ASt->M->Prop)(r:AV->M->Prop)(kp:M->Prop):List AV->ASt->M->Prop
 | []=>fun τ μ=>kp μ/\k τ μ
 | x :: xs=>fun τ μ=>kp μ/\g x τ μ fun τ2 μ2=>tb (fl g tb k r kp xs) r k (fl g tb k r kp xs) τ2 μ2
def Qkc(wi:AI)(g:AG)(tb:AS):AS:=λk r _ _ τ μ=>wi τ μ λxs kp μ1=>fl g tb k r kp xs τ μ1
theorem Qgw{g:AG}{tb:AS}{k:ASt->M->Prop}{r:AV->M->Prop}{kp:M->Prop}{xs:List AV}{τ:ASt}{μ:M}(h:fl g tb k r kp xs τ μ):kp μ:=by
 cases xs with
 | nil=>exact h.1
 | cons x xs=>exact h.1
theorem Fj{aw:Expr}{body:List Stmt}{wi:AI}{g:AG}{tb:AS}(hp:PassesOwn (model X.prog X.w) X.A X.env X.xe)(jy:X.calm=true)(hi:VI X tg aw wi)(hg:VG X tg g)(hb:VSs X body tb)(hfs:∀x,foldedSetIterable aw X.env x=pure x:=by intro _;rfl) :
  VS X (.For tg aw body [] pos) (Qkc wi g tb):=(Qcg hp jy hi hg hb hfs).imp λD σ H zz64=>Hk zz64 fun τ μ nk nr nb nc hs hc h hq=>by
 refine⟨τ,μ,_,hs,hc,h,λxs kp μ0 J H0 S0 c0 it h0=>?_⟩
 refine Qcz xs.length (λi σ1 H1=>∃ τ1 μ1,Kp H0 H1/\C4 X.K H1 τ1 σ1/\Cn X.K μ1 H1/\fl g tb nk nr kp (xs.drop i) τ1 μ1) ⟨τ,μ0,Kp.refl,hs.kp S0,c0,h0⟩ ?_ ?_ ?_
 ·rintro i σ1 H1 hi ⟨τ1,μ1,S1,hs1,hc1,h1⟩
  exact it.go i H1 μ1 S1 hc1 (Qgw h1) hi
 ·rintro σ1 H1 ⟨τ1,μ1,S1,hs1,hc1,h1⟩
  rw [Yd7]at h1
  exact⟨it.stop H1 μ1 S1 hc1 h1.1,hq.nx _ _ _ _ (S0.trans S1) hs1 hc1 h1.2⟩
 ·rintro i v σ1 H1 H2 hi ⟨τ1,μ1,S1,hs1,hc1,h1⟩ y
  rw [Ybt hi]at h1
  obtain⟨hk,h1⟩:=h1
  obtain⟨S2,c2,rx⟩:=it.yld i H1 μ1 v H2 _ S1 hc1 hk (List.getElem?_eq_getElem hi) y
  refine⟨_,τ1,μ1,_,rx,hs1.kp S2,c2,h1,fun τ3 μ3 σ3 H3 S3 lp hc3 h3=>⟨τ3,μ3,_,_,_,_,lp,hc3,h3,?_⟩⟩
  have S:Kp H0 H3:=S1.trans (S2.trans S3)
  exact⟨fun τ' μ' σ' H' S' gy cu h'=>⟨τ',μ',S.trans S',gy,cu,h'⟩,hq.rt.kp (S0.trans S),hq.nx.kp (S0.trans S),fun τ' μ' σ' H' S' gy cu h'=>⟨τ',μ',S.trans S',gy,cu,h'⟩⟩
def VIfs(X:Cx)(ft:List Expr)(t:AT):Prop:=PIfs X ft (cT X.K t)
def Qdf:AT:=λ_ μ R=>R true μ
theorem C6:VIfs X [] Qdf:=λaa s σ H Q I zz65=>B0 zz65 fun τ μ R hs hc h hq=>U5 aa s σ H Q I (hq _ _ _ Kp.refl hc h)
theorem Ep{t:AT}(h:VT X a t):VIfs X [a] t:=U6 h
def cl(p:Addr)(g:AG)(tst:AT)(te:AE)(kp:M->Prop)(R:M->Prop):List AV->List AV->ASt->M->Prop
 | []=>λ_ _ μ=>kp μ/\R μ
 | x :: xs=>λaj τ μ=>kp μ/\g x τ μ fun τ1 μ1=>tst τ1 μ1 λk μ2 =>
  brP k (te τ1 μ2 λv μ3=>μ3 p=some (.lst aj)/\aj.length < sizeLine/\cl p g tst te kp R xs (aj++[v]) τ1 (Bh μ3 p (.lst (aj++[v])))) (cl p g tst te kp R xs aj τ1 μ2)
def Q0(mp:List (Option Nat))(wi:AI)(g:AG)(tst:AT)(te:AE):AE:=fun τ μ R=>wi τ μ λxs kp μ1=>∀p,μ1 p=none->cl p g tst te kp (fun μ2=>R (.R p) μ2) xs [] (Qgc mp τ) (Bh μ1 p (.lst []))
theorem Qgx{p:Addr}{g:AG}{tst:AT}{te:AE}{kp:M->Prop}{R:M->Prop}{xs aj:List AV}{τ:ASt}{μ:M}(h:cl p g tst te kp R xs aj τ μ):kp μ:=by
 cases xs with
 | nil=>exact h.1
 | cons x xs=>exact h.1
theorem Kr{K:PySem.W.Frag}{mp:List (Option Nat)}{wi:AI}{g:AG}{tst:AT}{te:AE}{σ:St}{H:Hp}{Q:VK}(h:cE K (Q0 mp wi g tst te) σ H Q):U8 mp (cI K wi) (cG K g) (cT K tst) (cE K te) σ H Q:=by
 obtain⟨τ,μ,R,hs,hc,h,hq⟩:=h
 refine⟨τ,μ,_,hs,hc,h,λxs kp μ0 J H0 S0 c0 it h0=>?_⟩
 intro p hp
 have h0:=h0 p (c0.none hp)
 have c0':Cn K (Bh μ0 p (.lst [])) (upd H0 p (.lst [])):=c0.new hp (C8 (.nil))
 have S0':Kp H0 (upd H0 p (.lst [])):=Kp.new hp _
 refine Yu xs.length (λi aj σ1 H1=>∃ τ1 μ1 as,Kp H0 H1/\C4 K H1 τ1 σ1/\Cn K μ1 H1/\Au K H1 as aj/\cl p g tst te kp (fun μ2=>R (.R p) μ2) (xs.drop i) as τ1 μ1) ⟨_,_,[],S0',((hs.kp S0).kp S0').sub mp,c0',.nil,h0⟩ ?_ ?_ ?_
 ·rintro i aj σ1 H1 hi ⟨τ1,μ1,as,S1,hs1,hc1,ra,h1⟩
  exact it.go i H1 μ1 S1 hc1 (Qgx h1) hi
 ·rintro aj σ1 H1 ⟨τ1,μ1,as,S1,hs1,hc1,ra,h1⟩
  rw [Yd7]at h1
  exact⟨it.stop H1 μ1 S1 hc1 h1.1,hq _ _ _ _ (S0.trans S1) hc1 Eb h1.2⟩
 ·rintro i v aj σ1 H1 H2 hi ⟨τ1,μ1,as,S1,hs1,hc1,ra,h1⟩ y
  rw [Ybt hi]at h1
  obtain⟨hk,h1⟩:=h1
  obtain⟨S2,c2,rx⟩:=it.yld i H1 μ1 v H2 _ S1 hc1 hk (List.getElem?_eq_getElem hi) y
  refine⟨_,τ1,μ1,_,rx,hs1.kp S2,c2,h1,fun τ3 μ3 σ3 H3 S3 lp hc3 h3=>⟨τ3,μ3,_,lp,hc3,h3,λk μ4 H4 S4 c4 h4=>?_⟩⟩
  rcases br_e h4 with⟨rfl,xf⟩ | ⟨rfl,xf⟩
  ·rw [Yak rfl]
   refine⟨τ3,μ4,_,lp.kp S4,c4,xf,λw μ5 u H5 S5 c5 rw h5=>?_⟩
   obtain⟨e5,hl,h5⟩:=h5
   obtain⟨o,ho,vs,rfl,rs⟩:=c5 _ _ e5
   have S:Kp H1 H5:=S2.trans (S3.trans (S4.trans S5))
   exact⟨vs,ho,by rw [<- rs.length];exact hl,τ3,_,_,(S1.trans S).trans (Kp.put ho trivial _),(lp.kp (S4.trans S5)).kp (Kp.put ho trivial _),c5.put ho trivial (C8 (rs.append (.cons rw .nil))),(rs.append (.cons rw .nil)).kp (Kp.put ho trivial _),h5⟩
  ·rw [Yah Yad]
   have S:Kp H1 H4:=S2.trans (S3.trans S4)
   exact⟨τ3,μ4,as,S1.trans S,lp.kp S4,c4,ra.kp S,xf⟩
variable {N':List Str}{mp:List (Option Nat)}{gr aw:Expr}{ft:List Expr}{scope:Scope}{wi:AI}{g:AG}{tst:AT}{te:AE}
theorem Co(hc:X.calm=true)(hi:VI X tg aw wi)(hg:∀C s H fp,VG (Bt X N' scope C s H fp) tg g)(ht:∀C s H fp,VIfs (Bt X N' scope C s H fp) ft tst)(he:∀C s H fp,VE (Bt X N' scope C s H fp) gr te)
  (ok:CompOk X.N X.env.scope.names scope.names N' mp) (hk:scope.kind=.function:=by rfl) (hs:∀x,foldedSetIterable aw X.env x=pure x:=by intro _;rfl) :
  VE X (.ListComp gr [⟨tg,aw,ft,0⟩] scope pos) (Q0 mp wi g tst te):=(Ys (g:=cG X.K g) (tst:=cT X.K tst) (te:=cE X.K te) hc hi (λC s H fp=>hg C s H fp) (λC s H fp=>ht C s H fp) (λC s H fp=>he C s H fp) ok hk hs).imp λ_ _ _ h=>Kr h
theorem Y5{i:Nat}{y:Str}{py lc:Pos}(hc:X.calm=true)(hN:X.N.Nodup)(en:X.N[i]?=some y)(hy:X.env.scope.names.lookup y=some .local)
  (hi:VI X tg aw wi) (hg:∀C s H fp,VG (Bt X N' scope C s H fp) tg g) (ht:∀C s H fp,VIfs (Bt X N' scope C s H fp) ft tst) (he:∀C s H fp,VE (Bt X N' scope C s H fp) gr te)
  (ok:CompOk X.N X.env.scope.names scope.names N' mp) (xz:swapsWith (.ListComp gr [⟨tg,aw,ft,0⟩] scope pos) (some (.Name y py)) lc.line X.env=pure true:=by rfl)
  (hk:scope.kind=.function:=by rfl) (hs:∀x,foldedSetIterable aw X.env x=pure x:=by intro _;rfl) :
  VS X (.Assign [.Name y py] (.ListComp gr [⟨tg,aw,ft,0⟩] scope pos) lc) (Ng (Q0 mp wi g tst te) (Dx i)):=(Yt (g:=cG X.K g) (tst:=cT X.K tst) (te:=cE X.K te) hc hN en hy hi (λC s H fp=>hg C s H fp) (λC s H fp=>ht C s H fp) (λC s H fp=>he C s H fp) ok xz hk hs).imp λD σ H zz66=>Hk zz66 fun τ μ nk nr nb nc hs hc h hq =>
 Kr (K:=X.K) ⟨τ,μ,_,hs,hc,h,λx μ1 v H1 S1 c1 rx hx=>hq.nx _ _ _ _ S1 ((hs.kp S1).set rx i) c1 hx⟩
end
section
variable {P:Program}{w:World}{K:PySem.W.Frag}{mg:Str->Option Value}{base:Heap}
def aNx(R:AV->M->Prop):ASt->M->Prop:=λ_ μ'=>∃ ν,Sub ν μ'/\R (.D .none) ν
def X6(R:AV->M->Prop):AV->M->Prop:=λv μ'=>∃ ν,Sub ν μ'/\R v ν
def aNo:ASt->M->Prop:=λ_ _=>False
theorem Fun.vok{x qual:Str}{st:Stmt}{f:Addr}{fd:FuncData}{N ps:List Str}{k:Nat}{sp:ASp}(F:Fun K x qual st f fd)(S:FnScope N ps (Af st))
  (dg:∀(az:Value) (A:Around) (outer:List Env) (s:Shared) (H:Hp) (E:XK),Room k (A.deeper (envOfC qual (Af st) s.heap.objs.size f az)) ->
   ∃t,VSs (Hl Fb P w K mg base N qual (Af st) f az A outer s H E).nox (A6 st) t/\∀xs μ R,xs.length=ps.length->sp xs μ R->t (aNx R) (X6 R) aNo aNo (Ed N xs) μ):FnOk P w K mg base Fb (k+1) f fd ps (Jy K ps.length sp):=by
 refine F.ok S (λvs H Q E h=>?_) (λaz A outer s H vs Q E hr h=>?_)
 ·obtain⟨xs,μ,R,hl,rs,_⟩:=h
  rw [<- rs.length];exact hl
 ·obtain⟨xs,μ,R,hl,rs,hc,jo,hq⟩:=h
  obtain⟨t,ht,h⟩:=dg az A outer s H E hr
  refine⟨_,ht,Ed N xs,μ,_,_,_,_,C4.begin rs,hc,h xs μ R hl jo,⟨fun τ μ' σ H' S' _ c zz67=>R7 zz67 fun ν hν r=>?_,λv μ' u H' S' c rv zz68=>R7 zz68 fun ν hν r=>?_,λ_ _ _ _ _ _ _ h=>h.elim,λ_ _ _ _ _ _ _ h=>h.elim⟩⟩
  ·exact hq _ _ _ _ S' (c.sub hν) Lz r
  ·exact hq _ _ _ _ S' (c.sub hν) rv r
end
section
variable {X:Cx}{a b c:Expr}{ta tb tc:AE}{pos:Pos}{tg:Expr}
def Qke(t:AE):AI:=fun τ μ R=>t τ μ λx μ1=>opt (items μ1 x) λxs=>R xs (fun μ=>items μ x=some xs) μ1
theorem Er(hl:VE X a ta):VI X tg a (Qke ta):=by
 intro aa s σ H R I zz69
 refine B0 zz69 fun τ μ R' hs hc h hq=>?_
 refine thn (hl aa s σ H (λv H1=>∃x μ1 xs,Kp H H1/\Cn X.K μ1 H1/\RelA X.K H1 x v/\items μ1 x=some xs/\R' xs (fun μ=>items μ x=some xs) μ1) I ⟨τ,μ,_,hs,hc,h,λx μ1 v H1 S1 c1 rx hx=>?_⟩) λv s1 qm=>?_
 ·obtain⟨xs,e,hx⟩:=Ba hx
  exact⟨x,μ1,xs,S1,c1,rx,e,hx⟩
 obtain⟨xv,H1,I1,r1,x,μ1,xs,S1,c1,rx,e,hx⟩:=qm
 obtain⟨p,vs,rfl,hp,rs⟩:=Bf c1 rx e
 cases r1
 rcases hp with⟨k,hp⟩ | ⟨k,hp⟩
 ·obtain⟨af,rv,pl,hz⟩:=I1.list hp
  refine Ydg pl.isList ?_
  refine⟨s1.heap.objs.size,[s1.heap.objs.size],_,_,H1,rfl,I1.kept (t':=s1.toks) λb o e=>Heap.get?_push_of_some _ e,Sb p _,⟨_,Heap.get?_push_size _ rfl,rfl,rfl⟩,λb hb=>?_,hq _ _ _ _ _ S1 c1 (Tc λH μ S c k2=>?_) hx⟩
  ·have e:b=s1.heap.objs.size:=by simpa using hb
   subst e
   exact I1.fpOk (Yaf _) (I1.hok.fresh (Yaf _))
  ·obtain⟨q,ws,e,hw,rw⟩:=Bf c (rx.kp S) k2
   cases e
   rcases hw with⟨_,hw⟩ | ⟨k3,_⟩
   ·exact⟨ws,hw,rw⟩
   ·rw [k]at k3;cases k3
 ·obtain⟨af,rv,pl,hz⟩:=I1.tuple hp
  refine Ycz (show s1.heap.IsTuple p af.toArray from pl) ?_
  refine⟨s1.heap.objs.size,[s1.heap.objs.size],_,_,H1,rfl,I1.kept (t':=s1.toks) λb o e=>Heap.get?_push_of_some _ e,Oq p _,⟨_,Heap.get?_push_size _ rfl,rfl,rfl⟩,λb hb=>?_,hq _ _ _ _ _ S1 c1 (Vz λH μ S c k2=>?_) hx⟩
  ·have e:b=s1.heap.objs.size:=by simpa using hb
   subst e
   exact I1.fpOk (Yaf _) (I1.hok.fresh (Yaf _))
  ·obtain⟨q,ws,e,hw,rw⟩:=Bf c (rx.kp S) k2
   cases e
   rcases hw with⟨k3,_⟩ | ⟨_,hw⟩
   ·rw [k]at k3;cases k3
   ·exact⟨ws,hw,rw⟩
def Qkf(t:AE):AE:=fun τ μ R=>t τ μ λx μ1=>match x with
 | .D (.int i)=>R (.D (.int (-i))) μ1
 | _=>False
theorem Md(h:VE X a ta):VE X (.UnaryOp .USub a pos) (Qkf ta):=(Qfr Qcn h).imp fun σ H Q zz70=>B0 zz70 fun τ μ R hs hc h hq=>⟨τ,μ,_,hs,hc,h,λx μ1 v H1 S1 c1 rx hx=>by
 cases x with
 | D d =>
  cases d with
  | int i =>
   cases RelA.int rx
   exact⟨_,rfl,hq _ _ _ _ S1 c1 C0 hx⟩
  | _=>exact False.elim hx
 | _=>exact False.elim hx⟩
end
section
variable {c:AT}{g:AG}{tb:AS}{k:ASt->M->Prop}{r:AV->M->Prop}{bb cc:ASt->M->Prop}{tst:AT}{te:AE}
theorem Ay{t u:AS}{τ:ASt}{μ:M}(J:ASt->M->Prop)(h1:∀W:ASt->M->Prop,(∀ τ' μ',J τ' μ'->W τ' μ')->t W r bb cc τ μ)(h2:∀ τ' μ',J τ' μ'->u k r bb cc τ' μ'):Vx t u k r bb cc τ μ:=h1 (u k r bb cc) h2
theorem Bq{t u:AS}{τ:ASt}{μ:M}(h:t (u k r bb cc) r bb cc τ μ):Vx t u k r bb cc τ μ:=h
theorem Qa5{x:AV}{i:Nat}{τ:ASt}{μ:M}(h:k (τ.set i (some x)) μ):Ng (vC x) (Dx i) k r bb cc τ μ:=h
theorem Qgy{t:AE}{i:Nat}{τ:ASt}{μ:M}(h:t τ μ λx μ1=>k (τ.set i (some x)) μ1):Ng t (Dx i) k r bb cc τ μ:=h
theorem Ip{kp:M->Prop}{xs:List AV}{τ:ASt}{μ:M}(I:Nat->ASt->M->Prop)(h0:I 0 τ μ)(hk:∀i τ μ,I i τ μ->kp μ)
  (step:∀i x τ μ (W:ASt->M->Prop),xs[i]?=some x->I i τ μ->(∀ τ' μ',I (i+1) τ' μ'->W τ' μ')->g x τ μ fun τ2 μ2=>tb W r k W τ2 μ2)
  (done:∀ τ μ,I xs.length τ μ->k τ μ):fl g tb k r kp xs τ μ:=by
 have key:∀n i τ μ,n+i=xs.length->I i τ μ->fl g tb k r kp (xs.drop i) τ μ:=by
  intro n
  induction n with
  | zero =>
   intro i τ μ h hI
   have e:i=xs.length:=by omega
   subst e
   rw [Yd7]
   exact⟨hk _ _ _ hI,done τ μ hI⟩
  | succ n ih =>
   intro i τ μ h hI
   have hi:i < xs.length:=by omega
   rw [Ybt hi]
   exact⟨hk _ _ _ hI,step i _ τ μ _ (List.getElem?_eq_getElem hi) hI fun τ' μ' q=>ih (i+1) τ' μ' (by omega) q⟩
 exact key xs.length 0 τ μ rfl h0
theorem Go{p:Addr}{kp:M->Prop}{R:M->Prop}{xs:List AV}{τ:ASt}{μ:M}(I:Nat->List AV->ASt->M->Prop)(h0:I 0 [] τ μ)(hk:∀i aj τ μ,I i aj τ μ->kp μ)
  (step:∀i x aj τ μ (W:List AV->ASt->M->Prop),xs[i]?=some x->I i aj τ μ->(∀fg τ' μ',I (i+1) fg τ' μ'->W fg τ' μ')->g x τ μ fun τ1 μ1=>tst τ1 μ1 λk μ2 =>
   brP k (te τ1 μ2 λv μ3=>μ3 p=some (.lst aj)/\aj.length < sizeLine/\W (aj++[v]) τ1 (Bh μ3 p (.lst (aj++[v])))) (W aj τ1 μ2))
  (done:∀aj τ μ,I xs.length aj τ μ->R μ):cl p g tst te kp R xs [] τ μ:=by
 have key:∀n i aj τ μ,n+i=xs.length->I i aj τ μ->cl p g tst te kp R (xs.drop i) aj τ μ:=by
  intro n
  induction n with
  | zero =>
   intro i aj τ μ h hI
   have e:i=xs.length:=by omega
   subst e
   rw [Yd7]
   exact⟨hk _ _ _ _ hI,done aj τ μ hI⟩
  | succ n ih =>
   intro i aj τ μ h hI
   have hi:i < xs.length:=by omega
   rw [Ybt hi]
   exact⟨hk _ _ _ _ hI,step i _ aj τ μ (λfg τ' μ'=>cl p g tst te kp R (xs.drop (i+1)) fg τ' μ') (List.getElem?_eq_getElem hi) hI λfg τ' μ' q=>ih (i+1) fg τ' μ' (by omega) q⟩
 exact key xs.length 0 [] τ μ rfl h0
end
theorem V1{z:Str}(h:PyData.canLay0 (.str z)=true):B7 (.str z):=⟨h,by simp [PyData.depth]⟩
theorem Es(i:Int):B7 (.int i):=⟨rfl,by simp [PyData.depth]⟩
theorem Td(i:Bool):B7 (.bool i):=⟨rfl,by simp [PyData.depth]⟩
theorem Ht(i j:Int):PyData.eqv (.int i) (.int j)=decide (i=j):=by
 rw [PyData.eqv];exact Yen.mpr (by simp)
theorem ieq{i j:Int}{T F:Prop}(h1:i=j->T)(h2:i≠j->F):B7 (.int i)/\B7 (.int j)/\brP (PyData.eqv (.int i) (.int j)) T F:=by
 refine⟨Es _,Es _,?_⟩
 rw [Ht]
 exact dif h1 h2
theorem Bi{μ:M}{p:Addr}{xs:List AV}(h:μ p=some (.lst xs)):items μ (.R p)=some xs:=by
 show(match μ p with | some (.lst xs)=>some xs | _=>none)=_
 rw [h]
section
variable {X:Cx}{K:PySem.W.Frag}{H:Hp}
variable {o i e value:Expr}{pos c9:Pos}{td ty tv tx:AE}
end
end L2
namespace L2
theorem Dy{α:Type}{us:List α}{n:Nat}(h:us.length=n+1):∃a t,us=a :: t/\t.length=n:=match us,h with | a :: t,h=>⟨a,t,rfl,Nat.succ.inj h⟩
theorem Q3{α:Type}{us:List α}(h:us.length=1):∃a,us=[a]:=by
 obtain⟨a,t,rfl,h2⟩:=Dy h
 rw [Yci h2];exact⟨a,rfl⟩
theorem Qiu{α:Type}{us:List α}(h:us.length=2):∃a b,us=[a,b]:=by
 obtain⟨a,t,rfl,h2⟩:=Dy h
 obtain⟨b,rfl⟩:=Q3 h2
 exact⟨a,b,rfl⟩
open PySem PySem.Spec PySem.Calls PyProof.Rows
abbrev AX:=Addr->List (Str×PyData)->M->Prop
def XFx(K:PySem.W.Frag)(H:Hp)(d:Option Addr)(fs:List (Str×PyData)):Prop:=match d with
 | none=>fs=[]
 | some d=>∃ba,H d=some (XD d ba)/\Hn K H fs ba
def EK(K:PySem.W.Frag)(EX:AX):XK:=λc oa H=>∃a C fs μ d,c=.ref C/\oa=some a/\H a=some (XR a C d)/\XFx K H d fs/\Cn K μ H/\EX C fs μ
def XA(X:Cx)(EX:AX):Prop:=Sv X (EK X.K EX)
section
variable {K:PySem.W.Frag}{H H':Hp}
theorem Kp.ext{p:Addr}{φ:Heap->Prop}(h:H p=some (.ext φ))(o:HO):Kp H (upd H p o) :=
 ⟨λb xs e=>by rw [Aw (Qj e h (by intro z;cases z))];exact e,λb o' u e=>by rw [Aw (Qj e h (by intro z;cases z))];exact e⟩
theorem Cn.ext{μ:M}{p:Addr}{φ:Heap->Prop}(c:Cn K μ H)(h:H p=some (.ext φ))(o:HO):Cn K μ (upd H p o):=λb m e=>by
 obtain⟨o',q,r⟩:=c b m e
 refine⟨o',?_,r.kp (Kp.ext h o)⟩
 rw [Aw]
 ·exact q
 ·rintro rfl
  rw [h]at q;cases q
  exact r.mt
theorem Kp.same(k:∀b o,H b=some o->H' b=some o):Kp H H':=⟨λb _ e=>k b _ e,λb _ _ e=>k b _ e⟩
theorem Cn.same{μ:M}(c:Cn K μ H)(k:∀b o,H b=some o->H' b=some o):Cn K μ H':=λb m e=>by
 obtain⟨o',q,r⟩:=c b m e
 exact⟨o',k b o' q,r.kp (Kp.same k)⟩
theorem Hn.zip:∀(ic:List Str) {ds:List PyData} {vs:List V},Ak K H ds vs->Hn K H (ic.zip ds) (ic.zip vs)
 | [],_,_,_=>.nil
 | _ :: _,[],_,h=>by rw [h.nil];exact .nil
 | f :: ic,_ :: ds,_,h=>by
  obtain⟨x,r,rfl,h1,h2⟩:=h.cons
  exact .cons ⟨rfl,h1⟩ (Hn.zip ic h2)
theorem Hn.lookup{f:Str}{d:PyData}{fs:List (Str×PyData)}{vs:List (Str×V)}(h:Hn K H fs vs)(e:fs.lookup f=some d):∃v,vs.lookup f=some v/\Dk K H d v:=by
 unfold Hn at h
 induction h with
 | nil=>cases e
 | @cons p q l1 l2 r t ih =>
  obtain⟨g,d'⟩:=p
  obtain⟨g',v'⟩:=q
  obtain⟨r1,r2⟩:=r
  dsimp only at r1 r2
  subst r1
  rw [Yfa]at e ⊢
  split at e
  ·cases e
   exact⟨v',rfl,r2⟩
  ·exact ih e
end
section
variable {X:Cx}{aa:List (Addr×Obj)}{σ:St}{H:Hp}{s:Shared}
theorem Inv.freeze{a C:Addr}{d:Option Addr}{fs:List (Str×PyData)}{μ:M}(I:Inv X aa σ H s)(q:H a=some (XR a C d))(f:XFx X.K H d fs)(c:Cn X.K μ H) :
  ∃H',Inv X aa σ H' s/\RelA X.K H' (.X C fs) (.ref a)/\Cn X.K μ H':=by
 obtain⟨vs,hg,h6⟩:=Vj I.hok q
 have I1:Inv X aa σ (upd H a (.frz _ (XR a C d))) s:=I.retype q ⟨hg,Vi hg h6⟩
 have c1:=c.ext q (.frz ⟨.ref C,d,.fields vs,#[]⟩ (XR a C d))
 have S1:=Kp.ext q (.frz ⟨.ref C,d,.fields vs,#[]⟩ (XR a C d))
 cases d with
 | none=>exact⟨_,I1,⟨a,_,none,rfl,A9,f⟩,c1⟩
 | some dx =>
  obtain⟨ba,qd,r⟩:=f
  obtain⟨mA,N,hr,wi⟩:=Qc1 I.hok qd
  obtain⟨od,hod,_⟩:=Ke N
  have ne:dx≠a:=by
   rintro rfl
   obtain⟨o,es,ep,g,hd,_⟩:=N
   rw [hg]at g
   cases g
   cases hd
  have xt:upd H a (.frz ⟨.ref C,some dx,.fields vs,#[]⟩ (XR a C (some dx))) dx=some (XD dx ba):=by rw [Aw ne];exact qd
  refine⟨_,I1.retype (o:=.frz od (XD dx ba)) xt ⟨hod,Ve N hr wi⟩,⟨a,⟨.ref C,some dx,.fields vs,#[]⟩,some dx,rfl,?_,od,ba,A9,(r.kp S1).kp (Kp.ext xt _)⟩,c1.ext xt _⟩
  rw [Aw (Yc4 ne)]
  exact A9
theorem xinst{a C:Addr}{fs:List (Str×PyData)}(I:Inv X aa σ H s)(r:RelA X.K H (.X C fs) (.ref a)) :
  ∃ox od,PySem.W.InstAt s.heap a ox C od/\∀f d,fs.lookup f=some d->∃qc u v,od=some qc/\PySem.W.lookIn f qc=some (some u)/\Bj v u/\Dk X.K H d v:=by
 obtain⟨a',o,d,e,q,f⟩:=r
 cases e
 obtain⟨g1,⟨vs,hg,h6⟩,_⟩:=(show Bo X.prog X.w H s.heap a (.frz o (XR a C d)) from I.hok a _ q)
 cases d with
 | none =>
  refine⟨_,none,⟨hg,rfl,rfl,trivial⟩,λf' d' e=>?_⟩
  rw [show fs=[] from f]at e
  cases e
 | some dx =>
  obtain⟨od,ba,qd,rf⟩:=f
  obtain⟨_,⟨mA,N,hr,wi⟩,_⟩:=(show Bo X.prog X.w H s.heap dx (.frz od (XD dx ba)) from I.hok dx _ qd)
  obtain⟨qc,ho,hl⟩:=Ke N
  refine⟨_,some qc,⟨hg,rfl,rfl,ho⟩,λf' d' e=>?_⟩
  obtain⟨v,ev,rv⟩:=rf.lookup e
  obtain⟨u,hu,ru⟩:=Ju.some_of (v:=v) (o:=mA f') (by rw [<- ev];exact hr f')
  exact⟨qc,u,v,rfl,by rw [hl,hu],ru,rv⟩
end
def spI(C:Addr)(ic:List Str):Sp:=λvs H Q _=>∃(e t:Addr) (ys:List V),vs=.ref e :: ys/\ys.length=ic.length/\H e=some (XO e C t none) /\
 ∀H2 t' dx,(∀b o,b≠e->H b=some o->H2 b=some o)->H2 e=some (XO e C t' (some dx))->H2 dx=some (XD dx (ic.zip ys))->dx≠e->Q .non H2
def XCal(P:Program)(w:World)(K:PySem.W.Frag)(mg:Str->Option Value)(base:Heap)(k:Nat)(x:Str)(C:Addr)(ic:List Str):Prop :=
 ∃f fd ps,FnOk P w K mg base Fb k f fd ps (spI C ic)/\Binds K fd ps []/\XMk K C f/\mg x=some (.ref C)/\PySem.W.mroIn K C (.type "BaseException")=some true
def Qdg(EX:AX)(C:Addr)(ic:List Str)(t:AA):AS:=λ_ _ _ _ τ μ=>t τ μ λxs μ1=>opt (dats xs) λds=>ds.length=ic.length/\EX C (ic.zip ds) μ1
section
variable {X:Cx}{x:Str}{p pos c9:Pos}{e:Expr}{es:List Expr}{t:AA}{k:Nat}{C:Addr}{ic:List Str}{EX:AX}
theorem Iq(F:XCal X.prog X.w X.K X.mg X.base k x C ic)(hr:Room (k+1) X.A)(hc:X.calm=true)(hx:XA X EX)(hg:Gl X x)(ha:VA X (e :: es) t)(hn:(e :: es).length<=1000:=by decide)(hdb:(x==("__debug__" : Str))=false:=by decide)
  (ay:starEach (e :: es) X.env=(false,eval e X.env) :: starEach es X.env:=by rfl) (hpl:(backTo pos (starEach es X.env)).any (·.1)=false:=by rfl):VS X (.Raise (some (.Call (.Name x p) (e :: es) [] pos)) none c9) (Qdg EX C ic t):=by
 obtain⟨f,fd,ps,G,gb,mk,gm,mr⟩:=F
 refine PS.imp (Vk hc hx (Vf (E:=E0) mk G hr hg gm gb Qaw ha hdb ay hpl)) λD σ H zz75=>Hk zz75 fun τ μ nk nr nb nc hs hc h hq=>?_
 refine⟨τ,μ,_,hs,hc,h,λxs μ1 vs H1 S1 c1 rs hl hx=>⟨by rw [<- rs.length,hl];exact hn,λa tp ha=>?_⟩⟩
 obtain⟨ds,ed,el,hE⟩:=Ba hx
 have dk:=rs.dats ed
 refine⟨a,tp,vs,rfl,by rw [dk.length];exact el,A9,λH2 t' dx keep q1 q2 ne=>⟨rfl,a,C,t',some dx,rfl,q1,mk.xc,mr,?_⟩⟩
 have kk:∀b o,H1 b=some o->upd H2 a (XR a C (some dx)) b=some o:=λb o q=>by
  have hb:b≠a:=by rintro rfl;rw [ha]at q;cases q
  rw [Aw hb]
  exact keep b o hb (by rw [Aw hb];exact q)
 exact⟨a,C,ic.zip ds,μ1,some dx,rfl,rfl,A9,⟨_,by rw [Aw ne];exact q2,(Hn.zip ic dk).kp (Kp.same kk)⟩,c1.same kk,hE⟩
end
abbrev Pd:=List AV->M->(AV->M->Prop)->AX->Prop
def Qdh(K:PySem.W.Frag)(n:Nat)(sp:Pd):Sp:=λvs H Q E=>∃xs μ R EX,xs.length=n/\Au K H xs vs/\Cn K μ H/\sp xs μ R EX/\LV K H R Q/\∀c a H',EK K EX c a H'->E c a H'
def Ks(P:Program)(w:World)(K:PySem.W.Frag)(mg:Str->Option Value)(base:Heap)(k:Nat)(x:Str)(ps:List Str)(sp:Pd):Prop :=
 ∃g gd,FnOk P w K mg base (CX1 P w) k g gd ps (Qdh K ps.length sp)/\Binds K gd ps []/\PySem.W.keepIn K (.ref g)=true/\mg x=some (.ref g)
theorem Ks.mono{P:Program}{w:World}{K:PySem.W.Frag}{mg:Str->Option Value}{base:Heap}{n m:Nat}{x:Str}{ps:List Str}{sp:Pd}(c:Ks P w K mg base n x ps sp)(h:n<=m):Ks P w K mg base m x ps sp :=
 let⟨g,gd,G,r⟩:=c;⟨g,gd,G.mono h,r⟩
def Qdi(sp:Pd)(EX:AX)(t:AA):AE:=fun τ μ R=>t τ μ λxs μ1=>sp xs μ1 R EX
section
variable {X:Cx}{x:Str}{p pos:Pos}{e:Expr}{es:List Expr}{t:AA}{k:Nat}{ps:List Str}{sp:Pd}{EX:AX}
theorem V2(F:Ks X.prog X.w X.K X.mg X.base k x ps sp)(hr:Room k X.A)(hx:XA X EX)(hg:Gl X x)(ha:VA X (e :: es) t)(hl:(e :: es).length=ps.length:=by rfl)(hdb:(x==("__debug__" : Str))=false:=by decide)
  (ay:starEach (e :: es) X.env=(false,eval e X.env) :: starEach es X.env:=by rfl) (hpl:(backTo pos (starEach es X.env)).any (·.1)=false:=by rfl):VE X (.Call (.Name x p) (e :: es) [] pos) (Qdi sp EX t):=by
 obtain⟨g,gd,G,gb,gk,gm⟩:=F
 refine PE.imp (Qn (E:=EK X.K EX) G hr hg gm gk gb .nil (Sv.passes hx λ_ _ _ q=>q) ha (hdb:=hdb) (he:=ay) (hpl:=hpl)) fun σ H Q zz76=>B0 zz76 fun τ μ R hs hc h hq=>?_
 exact⟨τ,μ,_,hs,hc,h,λxs μ1 vs H1 S1 c1 rs hn hx=>⟨xs,μ1,R,EX,hn.trans hl,by rw [Yc5];exact rs,c1,hx,hq.kp S1,λ_ _ _ q=>q⟩⟩
end
def upX(EX:AX):AX:=λC fs μ=>∃ ν,Sub ν μ/\EX C fs ν
theorem XA.up{X:Cx}{EX:AX}(h:XA X EX):XA X (upX EX):=by
 intro aa σ H s a C d vs I q R z
 refine h aa σ H s a C d vs I q R ?_
 obtain⟨a',C',fs,_,d',e1,e2,e3,e4,e5,ν,hν,e6⟩:=z
 exact⟨a',C',fs,ν,d',e1,e2,e3,e4,e5.sub hν,e6⟩
section
variable {P:Program}{w:World}{K:PySem.W.Frag}{mg:Str->Option Value}{base:Heap}
theorem Fun.vokX{x qual:Str}{st:Stmt}{f:Addr}{fd:FuncData}{N ps:List Str}{k:Nat}{sp:Pd}(F:Fun K x qual st f fd)(S:FnScope N ps (Af st))
  (dg:∀(az:Value) (A:Around) (outer:List Env) (s:Shared) (H:Hp) (E:XK) (EX:AX),Room k (A.deeper (envOfC qual (Af st) s.heap.objs.size f az))->XA (Hl (CX1 P w) P w K mg base N qual (Af st) f az A outer s H E) (upX EX) ->
   ∃t,VSs (Hl (CX1 P w) P w K mg base N qual (Af st) f az A outer s H E) (A6 st) t/\∀xs μ R,xs.length=ps.length->sp xs μ R EX->t (aNx R) (X6 R) aNo aNo (Ed N xs) μ):FnOk P w K mg base (CX1 P w) (k+1) f fd ps (Qdh K ps.length sp):=by
 obtain⟨oc,od,kV,gl,pm,an,az,ct,mh,rfl,lk,jj⟩:=F.ex
 refine Qau lk jj S (λvs H Q E h=>?_) λA outer s H vs Q E hr h=>?_
 ·obtain⟨xs,μ,R,EX,hl,rs,_⟩:=h
  rw [<- rs.length];exact hl
 ·obtain⟨xs,μ,R,EX,hl,rs,hc,jo,hq,hE⟩:=h
  have yn:XA (Hl (CX1 P w) P w K mg base N qual (Af st) f az A outer s H E) EX:=λaa σ H1 s1 a C d vs I q R h=>Yx aa σ H1 s1 a C d vs I q R (hE _ _ _ h)
  obtain⟨t,ht,h⟩:=dg az A outer s H E EX hr yn.up
  refine⟨_,ht,Ed N xs,μ,_,_,_,_,C4.begin rs,hc,h xs μ R hl jo,⟨fun τ μ' σ H' S' _ c zz77=>R7 zz77 fun ν hν r=>?_,λv μ' u H' S' c rv zz78=>R7 zz78 fun ν hν r=>?_,λ_ _ _ _ _ _ _ h=>h.elim,λ_ _ _ _ _ _ _ h=>h.elim⟩⟩
  ·exact hq _ _ _ _ S' (c.sub hν) Lz r
  ·exact hq _ _ _ _ S' (c.sub hν) rv r
end
def cS0(K:PySem.W.Frag)(H0:Hp)(t:AS):TS:=λD σ H=>∃ τ μ k r b c,C4 K H τ σ/\Cn K μ H/\t k r b c τ μ/\LE' K H0 k r b c D
def VS0(X:Cx)(st:Stmt)(t:AS):Prop:=PS X st (cS0 X.K X.H₀ t)
def Y6(X:Cx)(st:List Stmt)(t:AS):Prop:=PSs X st (cS0 X.K X.H₀ t)
section
variable {X:Cx}{aa:List (Addr×Obj)}{σ:St}{H:Hp}{s:Shared}{st:Stmt}{rest:List Stmt}{t s1 s2:AS}
theorem Inv.kp0(I:Inv X aa σ H s):Kp X.H₀ H:=⟨I.base.tups,I.base.frzs⟩
theorem VS.z(h:VS X st t):VS0 X st t:=λaa s σ H D I zz79=>Hk zz79 fun τ μ k r b c hs hc h' hq=>h aa s σ H D I ⟨τ,μ,k,r,b,c,hs,hc,h',hq.kp I.kp0⟩
theorem Da(h1:VS0 X st s1)(h2:Y6 X rest s2):Y6 X (st :: rest) (Vx s1 s2):=(Mx h1 h2).imp λD σ H zz81=>Hk zz81 fun τ μ nk nr nb nc hs hc h hq =>
 ⟨τ,μ,_,_,_,_,hs,hc,h,⟨fun τ' μ' σ' H' S' gy cu h'=>⟨τ',μ',nk,nr,nb,nc,gy,cu,h',hq⟩,hq.rt,hq.bk,hq.ct⟩⟩
theorem V3(h1:VS0 X st s1):Y6 X [st] s1:=Ln h1
def Qkg(K:PySem.W.Frag)(m i:Nat)(Dc:Addr)(tb:AX->AS)(th:AS):AS:=λk r b c τ μ =>
 tb (λC fs μ'=>PySem.W.mroIn K C (.ref Dc)=some true/\th (fun τ1 μ1=>k (τ1.set i none) μ1) r (fun τ1 μ1=>b (τ1.set i none) μ1) (fun τ1 μ1=>c (τ1.set i none) μ1) ((List.replicate m none).set i (some (.X C fs))) μ') k r b c τ μ
theorem C4.blank:∀(σ:St),C4 X.K H (List.replicate σ.length none) σ
 | []=>.nil
 | _ :: σ=>.cons Ec (C4.blank σ)
theorem C4.unset2{K:PySem.W.Frag}:∀{τ:ASt} {σ:St} (i:Nat),C4 K H τ σ->C4 K H (τ.set i none) (σ.set i none)
 | _,_,_,.nil=>.nil
 | _,_,0,.cons _ t=>.cons Ec t
 | _,_,i+1,.cons q t=>.cons q (C4.unset2 i t)
theorem Y7{body suite:List Stmt}{b₀:Stmt}{x n:Str}{p p2 pos:Pos}{i:Nat}{Dc:Addr}{tb:AX->AS}{th:AS}(hb:∀xe pn EX,XA (X.taking xe pn) EX->VSs (X.taking xe pn) body (tb EX))(hh:∀e,VSs (X.suite e) (b₀ :: suite) th)
  (hg:Gl X x) (hm:X.mg x=some (.ref Dc)) (hD:Fg X.K Dc=true) (hB:PySem.W.mroIn X.K Dc (.type "BaseException")=some true) (ay:X.stack=X.env :: X.outer) (ll:X.env.frame=some X.env.locals)
  (hN:X.N.Nodup) (hi:X.N[i]?=some n) (hk:X.env.scope.names.lookup n=some .local) (hdb:(x==("__debug__" : Str))=false:=by decide) :
  VS0 X (.Try body [.ExceptHandler (some (.Name x p)) (some n) (b₀ :: suite) p2] [] [] pos) (Qkg X.K X.N.length i Dc tb th):=by
 intro aa s σ H D I zz82
 refine Hk zz82 fun τ μ nk nr nb nc hs hc h hq=>?_
 refine wpAny_Try_except ?_
 have ok:=I.ok
 generalize hxe:(λ(e:Value) (s₁:Shared)=>wpAny (model X.prog X.w) X.A (noteFrame e X.env) (λ_ s₂=>wpAny (model X.prog X.w) X.A (setFlight e none) (λ_ s₃ =>
  wpAny (model X.prog X.w) X.A (handleBy e X.env [.ExceptHandler (some (.Name x p)) (some n) (b₀ :: suite) p2]) (SP X aa D) X.xe s₃) X.xe s₂) X.xe s₁)=xe
 have yn:XA (X.taking xe (X.pn++aa)) (λC fs μ'=>PySem.W.mroIn X.K C (.ref Dc)=some true/\th (fun τ1 μ1=>nk (τ1.set i none) μ1) nr (fun τ1 μ1=>nb (τ1.set i none) μ1) (fun τ1 μ1=>nc (τ1.set i none) μ1) ((List.replicate X.N.length none).set i (some (.X C fs))) μ'):=by
  rintro ik σ' H' s' a C d vs I1 hx R ⟨a',C',fs,μ',d',ec,ea,_,hf,cu,hmro,hth⟩
  cases ec;cases ea
  show xe (.ref a) s'
  rw [<- hxe]
  have J0:Inv X aa σ' H' s':=I1.untake ok
  rename_i hx'
  have dd:d'=d:=by
   obtain⟨jq,g1,_⟩:=Vj J0.hok hx'
   have:=R.at_.symm.trans g1
   cases this
   rfl
  subst dd
  refine Sw (base:=X.base) (outer:=X.outer) (L:=X.env.locals) (by rw [<- ay];exact ok.frames) (by rw [<- ay];exact J0.stack) ll R λh' L=>?_
  have J:=J0.left hx (by rw [ay];exact L)
  obtain⟨jq,R',_⟩:=L.rc
  refine wpAny_handleBy_cons (codeAny_handlers_test ?_) (by intro q;cases q)
  refine Fp (X:=X.suite a) J.suite hg hm ?_ hdb
  refine M8 (K:=X.K) J.kIn hD R'.at_ hB hmro ?_
  refine codeAny_handlers_suite_as ?_
  refine Sx R' λh2 k2=>?_
  have J2:Inv X aa σ' H' { s' with heap:=h2 }:=J.kept (t':=s'.toks) k2
  obtain⟨H3,J3,rX,c3⟩:=J2.freeze hx hf cu
  refine Hz (X:=X.suite a) J3.suite hN hi (.inl hk) (v:=.ref a) (u:=.ref a) rfl (λs4 J4=>?_) (.inr hk)
  have ak:X.N.length=σ'.length:=J3.len.symm
  refine Ybk (hh a aa s4 _ H3 { nx:=fun σ H=>D.nx (σ.set i none) H,rt:=D.rt,bk:=fun σ H=>D.bk (σ.set i none) H,ct:=fun σ H=>D.ct (σ.set i none) H } J4 ⟨_,_,_,_,_,_,?_,c3,hth,?_⟩) (λfl s5 wg=>?_) (λ_ _ z=>z.elim)
  ·rw [ak]
   exact(C4.blank (X:=X) σ').set rX i
  ·have S:=J3.kp0
   exact⟨fun τ1 μ1 σ1 H1 S1 hs1 hc1 h1=>hq.nx _ _ _ _ (S.trans S1) (hs1.unset2 i) hc1 h1,hq.rt.kp S,fun τ1 μ1 σ1 H1 S1 hs1 hc1 h1=>hq.bk _ _ _ _ (S.trans S1) (hs1.unset2 i) hc1 h1,fun τ1 μ1 σ1 H1 S1 hs1 hc1 h1=>hq.ct _ _ _ _ (S.trans S1) (hs1.unset2 i) hc1 h1⟩
  ·cases fl with
   | next =>
    obtain⟨σ6,H6,I6,q6⟩:=wg
    exact Hr (I6.unsuite ok) hN hi hk λs7 I7=>⟨_,H6,I7,q6⟩
   | brk =>
    obtain⟨σ6,H6,I6,q6⟩:=wg
    exact Hr (I6.unsuite ok) hN hi hk λs7 I7=>⟨_,H6,I7,q6⟩
   | cont =>
    obtain⟨σ6,H6,I6,q6⟩:=wg
    exact Hr (I6.unsuite ok) hN hi hk λs7 I7=>⟨_,H6,I7,q6⟩
   | ret u =>
    obtain⟨v,σ6,H6,I6,rv,q6⟩:=wg
    exact Hr (I6.unsuite ok) hN hi hk λs7 I7=>⟨v,_,H6,I7,rv,q6⟩
 refine Ybk (hb xe (X.pn++aa) _ yn [] s σ H D I.take ⟨τ,μ,_,_,_,_,hs,hc,h,hq.kp I.kp0⟩) (λfl s1 hf=>?_) (λe s1 he=>?_)
 ·cases fl with
  | next =>
   obtain⟨σ',H',I1,q⟩:=hf
   exact Yfi ⟨σ',H',I1.untake ok,q⟩
  | brk =>
   obtain⟨σ',H',I1,q⟩:=hf
   exact⟨σ',H',I1.untake ok,q⟩
  | cont =>
   obtain⟨σ',H',I1,q⟩:=hf
   exact⟨σ',H',I1.untake ok,q⟩
  | ret u =>
   obtain⟨v,σ',H',I1,rv,q⟩:=hf
   exact⟨v,σ',H',I1.untake ok,rv,q⟩
 ·exact he
end
theorem Fun.vok0{P:Program}{w:World}{K:PySem.W.Frag}{mg:Str->Option Value}{base:Heap}{x qual:Str}{st:Stmt}{f:Addr}{fd:FuncData}{N ps:List Str}{k:Nat}{sp:ASp}(F:Fun K x qual st f fd)(S:FnScope N ps (Af st))
  (dg:∀(az:Value) (A:Around) (outer:List Env) (s:Shared) (H:Hp) (E:XK),Room k (A.deeper (envOfC qual (Af st) s.heap.objs.size f az)) ->
   ∃t,Y6 (Hl Fb P w K mg base N qual (Af st) f az A outer s H E).nox (A6 st) t/\∀xs μ R,xs.length=ps.length->sp xs μ R->t (aNx R) (X6 R) aNo aNo (Ed N xs) μ):FnOk P w K mg base Fb (k+1) f fd ps (Jy K ps.length sp):=by
 refine F.ok S (λvs H Q E h=>?_) (λaz A outer s H vs Q E hr h=>?_)
 ·obtain⟨xs,μ,R,hl,rs,_⟩:=h
  rw [<- rs.length];exact hl
 ·obtain⟨xs,μ,R,hl,rs,hc,jo,hq⟩:=h
  obtain⟨t,ht,h⟩:=dg az A outer s H E hr
  refine⟨_,ht,Ed N xs,μ,_,_,_,_,C4.begin rs,hc,h xs μ R hl jo,⟨fun τ μ' σ H' S' _ c zz83=>R7 zz83 fun ν hν r=>?_,λv μ' u H' S' c rv zz84=>R7 zz84 fun ν hν r=>?_,λ_ _ _ _ _ _ _ h=>h.elim,λ_ _ _ _ _ _ _ h=>h.elim⟩⟩
  ·exact hq _ _ _ _ S' (c.sub hν) Lz r
  ·exact hq _ _ _ _ S' (c.sub hν) rv r
section
variable {X:Cx}{a:Expr}{ta:AE}{pos p p2:Pos}{x:Str}
def V4(K:PySem.W.Frag)(c:Value)(te:AE):AE:=fun τ μ R=>te τ μ λx μ1=>match x with
 | .X C _=>XIs K C/\opt (PySem.W.kitOne K (.ref C) c) λb=>R (.D (.bool b)) μ1
 | _=>False
theorem Q4{c:Value}{τ:ASt}{σ:St}{H:Hp}{μ:M}{R:AV->M->Prop}{Q:VK}{s:Shared}{aa:List (Addr×Obj)}{W:Value->Shared->Prop}(he:VE X a ta)(I:Inv X aa σ H s)(hs:C4 X.K H τ σ)(hc:Cn X.K μ H)(h:V4 X.K c ta τ μ R)(hq:LV X.K H R Q)
  (k:∀e C fs H1 s1 b,Inv X aa σ H1 s1->RelA X.K H1 (.X C fs) (.ref e)->XIs X.K C->PySem.W.kitOne X.K (.ref C) c=some b->Q (.bl b) H1->W (.ref e) s1):wpAny (model X.prog X.w) X.A (eval a X.env) W X.xe s:=by
 refine thn (he aa s σ H (λv H1=>∃C fs μ1 b,Kp H H1/\Cn X.K μ1 H1/\RelA X.K H1 (.X C fs) v/\XIs X.K C/\PySem.W.kitOne X.K (.ref C) c=some b/\R (.D (.bool b)) μ1) I ⟨τ,μ,_,hs,hc,h,λx μ1 v H1 S1 c1 rx hx=>?_⟩) λu s1 r9=>?_
 ·split at hx
  ·obtain⟨xi,hx⟩:=hx
   obtain⟨b,kb,hx⟩:=Ba hx
   exact⟨_,_,μ1,b,S1,c1,rx,xi,kb,hx⟩
  ·exact hx.elim
 ·obtain⟨v,H1,I1,r1,C,fs,μ1,b,S1,c1,rx,xi,kb,q1⟩:=r9
  obtain⟨e,o,d,ev,q⟩:=id rx
  subst ev
  obtain rfl:u=Value.ref e:=r1
  exact k e C fs H1 s1 b I1 rx xi kb (hq _ _ _ _ S1 c1 Cv q1)
theorem Y8{D:Addr}(hg:Gl X "isinstance") (hm:X.mg "isinstance" = none) (gu:Gl X x) (fy:X.mg x=some (.ref D)) (he:VE X a ta) (i9:(x==("__debug__" : Str))=false:=by decide)
  (hs:starEach [a,.Name x p2] X.env=(false,eval a X.env) :: starEach [.Name x p2] X.env:=by rfl) (cv:starEach [.Name x p2] X.env=[(false,eval (.Name x p2) X.env)]:=by rfl) (hpl:(backTo pos (starEach [.Name x p2] X.env)).any (·.1)=false:=by rfl) :
  VE X (.Call (.Name "isinstance" p) [a,.Name x p2] [] pos) (V4 X.K (.ref D) ta):=by
 intro aa s σ H Q I zz85
 refine B0 zz85 fun τ μ R ay hc h hq=>?_
 refine Yav (Bw I hg hm Yfk ?_)
 refine Ybq ?_ hs hpl
 rw [hs]
 refine Yar (Q4 he I ay hc h hq λe C fs H1 s1 b I1 rx xi kb q=>?_)
 rw [cv]
 refine Yar (Fp I1 gu fy (Ya5 ?_) i9)
 obtain⟨ox,od,J,_⟩:=xinst I1 rx
 exact Yb3 (Ig xi) I1.kIn ⟨ox,od,J⟩ kb (λz=>nomatch z) λtk=>⟨.bl b,H1,I1.tok _,rfl,q⟩
theorem V5{T:String}(hg:Gl X "isinstance") (hm:X.mg "isinstance" = none) (gu:Gl X x) (fy:X.mg x=none) (uq:bootBuiltins x=some (.type T)) (he:VE X a ta) (j6:x ≠ "__name__" := by decide) (i9:(x==("__debug__" : Str))=false:=by decide)
  (hs:starEach [a,.Name x p2] X.env=(false,eval a X.env) :: starEach [.Name x p2] X.env:=by rfl) (cv:starEach [.Name x p2] X.env=[(false,eval (.Name x p2) X.env)]:=by rfl) (hpl:(backTo pos (starEach [.Name x p2] X.env)).any (·.1)=false:=by rfl) :
  VE X (.Call (.Name "isinstance" p) [a,.Name x p2] [] pos) (V4 X.K (.type T) ta):=by
 intro aa s σ H Q I zz86
 refine B0 zz86 fun τ μ R ay hc h hq=>?_
 refine Yav (Bw I hg hm Yfk ?_)
 refine Ybq ?_ hs hpl
 rw [hs]
 refine Yar (Q4 he I ay hc h hq λe C fs H1 s1 b I1 rx xi kb q=>?_)
 rw [cv]
 refine Yar (Bw I1 gu fy uq (Ya5 ?_) j6 i9)
 obtain⟨ox,od,J,_⟩:=xinst I1 rx
 exact Yb3 (Ig xi) I1.kIn ⟨ox,od,J⟩ kb (λz=>nomatch z) λtk=>⟨.bl b,H1,I1.tok _,rfl,q⟩
def Qa6(K:PySem.W.Frag)(f:Str)(te:AE):AE:=fun τ μ R=>te τ μ λx μ1=>match x with
 | .X C fs=>XCls K C/\Gk K C f/\opt (fs.lookup f) λd=>R (.D d) μ1
 | _=>False
theorem Y9{f:Str}(he:VE X a ta)(hb:attributeBase a f X.env (eval a X.env)=eval a X.env):VE X (.Attribute a f pos) (Qa6 X.K f ta):=by
 intro aa s σ H Q I zz87
 refine B0 zz87 fun τ μ R ay hc h hq=>?_
 refine Yk hb (thn (he aa s σ H (λv H1=>∃C fs μ1 d,Kp H H1/\Cn X.K μ1 H1/\RelA X.K H1 (.X C fs) v/\XCls X.K C/\Gk X.K C f/\fs.lookup f=some d/\R (.D d) μ1) I ⟨τ,μ,_,ay,hc,h,λx μ1 v H1 S1 c1 rx hx=>?_⟩) λu s1 vf=>?_)
 ·split at hx
  ·obtain⟨z1,z2,z3⟩:=hx
   obtain⟨d,e,z⟩:=Ba z3
   exact⟨_,_,μ1,d,S1,c1,rx,z1,z2,e,z⟩
  ·exact hx.elim
 ·obtain⟨v,H1,I1,r1,C,fs,μ1,d,S1,c1,rx,xc,na,el,q1⟩:=vf
  obtain⟨e,o,d',ev,q⟩:=id rx
  subst ev
  obtain rfl:u=Value.ref e:=r1
  obtain⟨ox,od,J,hl⟩:=xinst I1 rx
  obtain⟨qc,u,v,rfl,hu,ru,dk⟩:=hl f d el
  exact O3 I1.kIn J xc.mb xc.ga xc.gn (PySem.W.findObj_own xc.hd na rfl hu) (Si ru) ⟨v,H1,I1.tok _,ru,hq _ _ _ _ S1 c1 (M9 dk) q1⟩
def tGl(cs:List Addr):TA:=λ_ H Q=>Q (cs.map V.ref) H
theorem Qdj:PA X [] (tGl []):=Uu
theorem Ir{D:Addr}{cs:List Addr}{es:List Expr}(hg:Gl X x)(hm:X.mg x=some (.ref D))(h:PA X es (tGl cs))(hd:(x==("__debug__" : Str))=false:=by decide) (hs:starEach (.Name x p :: es) X.env=(false,eval (.Name x p) X.env) :: starEach es X.env:=by rfl):PA X (.Name x p :: es) (tGl (D :: cs)) :=
 Qm (Qk (v:=.ref D) hg hm rfl hd) h hs
def Qa7(K:PySem.W.Frag)(cs:List Addr)(te:AE):AE:=fun τ μ R=>te τ μ λx μ1=>match x with
 | .X C _=>XIs K C/\opt (PySem.W.kitAny K (.ref C) (cs.map Value.ref)) λb=>R (.D (.bool b)) μ1
 | _=>False
theorem Ku:∀{cs:List Addr} {us:List Value},Vals (cs.map V.ref) us->us=cs.map Value.ref
 | [],_,h=>by cases h;rfl
 | c :: cs,_,h=>by
  rw [Ycc]at h
  cases h with
  | cons r t=>rw [Ku t];cases r;rfl
theorem Te{es:List Expr}{cs:List Addr}{k:Nat}(hg:Gl X "isinstance") (hm:X.mg "isinstance" = none) (hT:PA X es (tGl cs)) (he:VE X a ta) (hl:cs.length<=sizeLine:=by decide)
  (hs:starEach [a,.Tuple es k p2] X.env=(false,eval a X.env) :: starEach [.Tuple es k p2] X.env:=by rfl) (cv:starEach [.Tuple es k p2] X.env=[(false,eval (.Tuple es k p2) X.env)]:=by rfl) (hpl:(backTo pos (starEach [.Tuple es k p2] X.env)).any (·.1)=false:=by rfl) :
  VE X (.Call (.Name "isinstance" p) [a,.Tuple es k p2] [] pos) (Qa7 X.K cs ta):=by
 intro aa s σ H Q I zz88
 refine B0 zz88 fun τ μ R ay hc h hq=>?_
 refine Yav (Bw I hg hm Yfk ?_)
 refine Ybq ?_ hs hpl
 rw [hs]
 refine Yar (thn (he aa s σ H (λv H1=>∃C fs μ1 b,Kp H H1/\Cn X.K μ1 H1/\RelA X.K H1 (.X C fs) v/\XIs X.K C/\PySem.W.kitAny X.K (.ref C) (cs.map Value.ref)=some b/\R (.D (.bool b)) μ1) I ⟨τ,μ,_,ay,hc,h,λx μ1 v H1 S1 c1 rx hx=>?_⟩) λu s1 vp=>?_)
 ·split at hx
  ·obtain⟨xi,hx⟩:=hx
   obtain⟨b,kb,hx⟩:=Ba hx
   exact⟨_,_,μ1,b,S1,c1,rx,xi,kb,hx⟩
  ·exact hx.elim
 obtain⟨v,H1,I1,r1,C,fs,μ1,b,S1,c1,rx,xi,kb,q1⟩:=vp
 obtain⟨e,o,d,ev,q⟩:=id rx
 subst ev
 obtain rfl:u=Value.ref e:=r1
 rw [cv]
 refine Yar (thn (Uv (pos:=p2) (x1:=k) hT aa s1 σ H1 (λv H2=>∃p,v=.ref p/\H1 p=none/\H2=upd H1 p (.tup (cs.map V.ref))) I1 ⟨by rw [Yac];exact hl,λp hp=>⟨p,rfl,hp,rfl⟩⟩) λu s2 uw=>Ya5 ?_)
 obtain⟨v,H2,I2,r2,p,ev,hp,eH⟩:=uw
 subst ev eH
 obtain rfl:u=Value.ref p:=r2
 obtain⟨af,rv,⟨⟨cl,dd,da,sl⟩,ht,bo,n,hda⟩,_⟩:=I2.tuple (Gi.of (A9 (H:=H1) (a:=p) (o:=.tup (cs.map V.ref))))
 dsimp only at bo hda
 subst bo hda
 rw [Ku rv]at ht
 have S2:Kp H1 (upd H1 p (.tup (cs.map V.ref))):=Kp.new hp _
 obtain⟨ox,od,J,_⟩:=xinst I2 (rx.kp S2)
 exact PySem.W.kia_tup (Ig xi) I2.kIn ⟨ox,od,J⟩ ht kb (λz=>nomatch z) λtk=>⟨.bl b,_,I2.tok _,rfl,hq _ _ _ _ (S1.trans S2) (c1.over hp) Cv q1⟩
def Qg0:A2:=λx y μ R=>match x,y with
 | .D (.bool i),.D (.bool j)=>R (.D (.bool (i==j))) μ
 | _,_=>False
theorem V6:VOp X (compareOp .Is) Qg0:=by
 intro aa s σ H x y v u Q I rx ry zz89
 refine Dt zz89 λa b μ R ra rb hc h hq=>?_
 unfold Qg0 at h
 split at h
 ·cases RelA.bl ra;cases RelA.bl rb
  cases rx;cases ry
  exact is_bool (Ot I (hq _ _ _ _ Kp.refl hc Cv h) rfl)
 ·exact h.elim
end
end L2
namespace L2
open PySem PySem.Spec PyProof.Rows
def Eh:Nat->List PyData->List AV
 | _,[]=>[]
 | i,d :: ds=>.D (.tuple [.int i,d]) :: Eh (i+1) ds
theorem Cf:∀(ds:List PyData) (k:Nat),(Eh k ds).length=ds.length
 | [],_=>rfl
 | _ :: ds,k=>by rw [Eh,Ybp,Cf ds,Ybp]
theorem Ez:∀{ds:List PyData} {k i:Nat} {x:AV},(Eh k ds)[i]?=some x->∃d,ds[i]?=some d/\x=.D (.tuple [.int ((k+i:Nat):Int),d])
 | [],_,_,_,h=>by simp [Eh]at h
 | d :: ds,k,0,_,h=>by simp [Eh]at h;exact⟨d,rfl,by rw [<- h];simp⟩
 | _ :: ds,k,i+1,_,h=>by
  rw [Eh,List.getElem?_cons_succ]at h
  obtain⟨d,e,q⟩:=Ez h
  refine⟨d,by simpa using e,?_⟩
  rw [q]
  have e2:k+1+i=k+(i+1):=by omega
  rw [e2]
theorem Pe{K:PySem.W.Frag}{H0:Hp}{a:Addr}{ys:List AV}{ds:List PyData}{kp:M->Prop}(hd:dats ys=some ds)(h:∀H μ,Kp H0 H->Cn K μ H->kp μ->∃vs,Gi K H a vs/\Au K H ys vs):ItOk K H0 (Ien K a) (Eh 0 ds) kp:=by
 have hn:ds.length=ys.length:=by rw [Ey hd,Yac]
 refine⟨λi H μ S c k hi=>?_,λi H μ v H' x S c k e y=>?_,λH μ S c k=>?_⟩
 ·obtain⟨vs,q,r⟩:=h H μ S c k
  rw [Cf,hn]at hi
  exact⟨vs,vs[i]'(by rw [<- r.length];exact hi),q,List.getElem?_eq_getElem _⟩
 ·obtain⟨vs,q,r⟩:=h H μ S c k
  obtain⟨T,z,hT,rfl,rfl,y⟩:=y
  obtain⟨d,e1,rfl⟩:=Ez e
  obtain⟨u,eu,ru⟩:=(r.dats hd).get e1
  rw [y vs q]at eu
  cases eu
  refine⟨Kp.new hT _,c.over hT,Ii A9 ?_⟩
  rw [Nat.zero_add]
  exact Ca De (Ca (Dk.kp (Kp.new hT _) _ _ ru) C9)
 ·obtain⟨vs,q,r⟩:=h H μ S c k
  exact⟨vs,q,by rw [Cf,hn,r.length]⟩
theorem Pf{K:PySem.W.Frag}{H0:Hp}{a:Addr}{ys:List AV}{ds:List PyData}{kp:M->Prop}(hd:dats ys=some ds)(h:∀H μ,Kp H0 H->Cn K μ H->kp μ->∃vs,Du K H a vs/\Au K H ys vs):ItOk K H0 (Iel K a) (Eh 0 ds) kp:=by
 have hn:ds.length=ys.length:=by rw [Ey hd,Yac]
 refine⟨λi H μ S c k hi=>?_,λi H μ v H' x S c k e y=>?_,λH μ S c k=>?_⟩
 ·obtain⟨vs,q,r⟩:=h H μ S c k
  rw [Cf,hn]at hi
  exact⟨vs,vs[i]'(by rw [<- r.length];exact hi),q,List.getElem?_eq_getElem _⟩
 ·obtain⟨vs,q,r⟩:=h H μ S c k
  obtain⟨T,z,hT,rfl,rfl,y⟩:=y
  obtain⟨d,e1,rfl⟩:=Ez e
  obtain⟨u,eu,ru⟩:=(r.dats hd).get e1
  rw [y vs q]at eu
  cases eu
  refine⟨Kp.new hT _,c.over hT,Ii A9 ?_⟩
  rw [Nat.zero_add]
  exact Ca De (Ca (Dk.kp (Kp.new hT _) _ _ ru) C9)
 ·obtain⟨vs,q,r⟩:=h H μ S c k
  exact⟨vs,q,by rw [Cf,hn,r.length]⟩
def Qg1(t:AE):AI:=fun τ μ R=>t τ μ λx μ1=>opt (items μ1 x) λys=>opt (dats ys) λds=>R (Eh 0 ds) (fun μ=>items μ x=some ys) μ1
section
variable {X:Cx}{a:Expr}{ta:AE}{pos p:Pos}
theorem Za{ck:List Expr}{k:Nat}{ku:Pos}(hg:Gl X "enumerate") (hm:X.mg "enumerate" = none) (hl:VE X a ta) (hs:starEach [a] X.env=[(false,eval a X.env)]:=by rfl):VI X (.Tuple ck k ku) (.Call (.Name "enumerate" p) [a] [] pos) (Qg1 ta):=by
 intro aa s σ H R I zz91
 refine B0 zz91 fun τ μ R' ay hc h hq=>?_
 refine Yav (Bw I hg hm boot_enumerate ?_)
 refine Yay ?_ hs rfl
 rw [hs]
 refine Yar (thn (hl aa s σ H (λv H1=>∃x μ1 ys ds,Kp H H1/\Cn X.K μ1 H1/\RelA X.K H1 x v/\items μ1 x=some ys/\dats ys=some ds/\R' (Eh 0 ds) (fun μ=>items μ x=some ys) μ1) I ⟨τ,μ,_,ay,hc,h,λx μ1 v H1 S1 c1 rx hx=>?_⟩) λu s1 vt=>Ya5 ?_)
 ·obtain⟨ys,e,hx⟩:=Ba hx
  obtain⟨ds,ed,hx⟩:=Ba hx
  exact⟨x,μ1,ys,ds,S1,c1,rx,e,ed,hx⟩
 obtain⟨xv,H1,I1,r1,x,μ1,ys,ds,S1,c1,rx,e,ed,hx⟩:=vt
 obtain⟨p,vs,rfl,hp,rs⟩:=Bf c1 rx e
 cases r1
 have fin:∀b∈[s1.heap.objs.size+1,s1.heap.objs.size],Ei X aa H1 b:=λb hb=>by
  have i4:s1.heap.objs.size<=b:=by
   rcases Yat.mp hb with rfl | hb
   ·exact Ydn _
   ·have e:b=s1.heap.objs.size:=by simpa using hb
    exact Nat.le_of_eq e.symm
  exact I1.fpOk i4 (I1.hok.fresh i4)
 rcases hp with⟨k,hp⟩ | ⟨k,hp⟩
 ·obtain⟨af,rv,pl,hz⟩:=I1.list hp
  refine call_enumerate_list pl.isList λh' he bj bz kk=>?_
  refine Ye0 he ?_
  refine⟨s1.heap.objs.size+1,[s1.heap.objs.size+1,s1.heap.objs.size],_,_,H1,rfl,I1.kept (t':=s1.toks) kk,O2 p _ _ (Nat.succ_ne_self _),⟨⟨_,he⟩,bj⟩,fin,hq _ _ _ _ _ S1 c1 (Pf ed λH μ S c k2=>?_) hx⟩
  obtain⟨q,ws,e,hw,rw⟩:=Bf c (rx.kp S) k2
  cases e
  rcases hw with⟨_,hw⟩ | ⟨k3,_⟩
  ·exact⟨ws,hw,rw⟩
  ·rw [k]at k3;cases k3
 ·obtain⟨af,rv,pl,hz⟩:=I1.tuple hp
  refine Ff pl λh' he bj bz kk=>?_
  refine Ye0 he ?_
  refine⟨s1.heap.objs.size+1,[s1.heap.objs.size+1,s1.heap.objs.size],_,_,H1,rfl,I1.kept (t':=s1.toks) kk,So p _ _ (Nat.succ_ne_self _),⟨⟨_,he⟩,bj⟩,fin,hq _ _ _ _ _ S1 c1 (Pe ed λH μ S c k2=>?_) hx⟩
  obtain⟨q,ws,e,hw,rw⟩:=Bf c (rx.kp S) k2
  cases e
  rcases hw with⟨k3,_⟩ | ⟨_,hw⟩
  ·rw [k]at k3;cases k3
  ·exact⟨ws,hw,rw⟩
end
section
variable {X:Cx}{pos:Pos}{zb0:List (Option Expr)}{za6:List Expr}{ks:List Key}{ts:List AE}
end
theorem V7{α:Type}(g:α->Bool)(xs:List α):bools (xs.map λx=>.D (.bool (g x)))=some (xs.map g):=by
 rw [show(xs.map λx=>AV.D (.bool (g x)))=(xs.map g).map λb=>.D (.bool b) by rw [Ybo];rfl]
 exact Ko _
theorem Tf{μ:M}{p:Addr}{m:MO}(h:μ p=some m):Bh μ p m=μ:=by
 funext b
 unfold Bh
 split
 ·rename_i e;rw [e,h]
 ·rfl
theorem cmapf{α:Type}{p:Addr}{g:AG}{tst:AT}{te:AE}{kp:M->Prop}{R:M->Prop}{τ:ASt}{μ:M}(as:List α)(g0:α->AV)(b:α->Bool)(f:α->AV)(Sh:ASt->Prop)(h0:Sh τ)(hp:μ p=some (.lst []))(hn:as.length<=sizeLine)(hk:∀aj,kp (Bh μ p (.lst aj)))
  (step:∀(i:Nat) (x:α) (τ':ASt) (aj:List AV) (W:ASt->AV->M->Prop) (W2:ASt->M->Prop),as[i]?=some x->Sh τ'->(b x=true->∀ τ1,Sh τ1->W τ1 (f x) (Bh μ p (.lst aj)))->(b x=false->∀ τ1,Sh τ1->W2 τ1 (Bh μ p (.lst aj))) ->
   g (g0 x) τ' (Bh μ p (.lst aj)) fun τ1 μ1=>tst τ1 μ1 λk μ2=>brP k (te τ1 μ2 (W τ1)) (W2 τ1 μ2))
  (done:R (Bh μ p (.lst ((as.filter b).map f)))):cl p g tst te kp R (as.map g0) [] τ μ:=by
 refine Go (λi aj τ' μ'=>Sh τ'/\aj=((as.take i).filter b).map f/\μ'=Bh μ p (.lst aj)) ⟨h0,by simp,(Tf hp).symm⟩ (λi aj τ μ' ⟨_,_,e⟩=>by rw [e];exact hk _) ?_ ?_
 ·rintro i y aj τ' μ' W hy ⟨sh,rfl,rfl⟩ hW
  rw [List.getElem?_map]at hy
  obtain⟨x,hx,rfl⟩:=Ybl.mp hy
  have hi:i < as.length:=(List.getElem?_eq_some_iff.mp hx).1
  have ht:as.take (i+1)=as.take i++[x]:=by rw [Yds,hx];rfl
  refine step i x τ' _ (fun τ1 v μ3=>μ3 p=some (.lst (((as.take i).filter b).map f))/\(((as.take i).filter b).map f).length < sizeLine/\W ((((as.take i).filter b).map f)++[v]) τ1 (Bh μ3 p (.lst ((((as.take i).filter b).map f)++[v])))) (fun τ1 μ2=>W (((as.take i).filter b).map f) τ1 μ2) hx sh (λhb τ1 s1=>⟨Ag,?_,hW _ _ _ ⟨s1,?_,Sy⟩⟩) (λhb τ1 s1=>hW _ _ _ ⟨s1,?_,rfl⟩)
  ·rw [Yac]
   have h1:=List.length_filter_le b (as.take i)
   rw [Ybs]at h1
   omega
  ·rw [ht,List.filter_append,Ybe,List.filter_cons,Yak hb];rfl
  ·rw [ht,List.filter_append,Ybe,List.filter_cons,Yah (by rw [hb];exact Yad)];simp
 ·rintro aj τ' μ' ⟨_,rfl,rfl⟩
  rw [Yac,Yfb]
  exact done
theorem cmap{α:Type}{p:Addr}{g:AG}{te:AE}{kp:M->Prop}{R:M->Prop}{τ:ASt}{μ:M}(as:List α)(g0 f:α->AV)(Sh:ASt->Prop)(h0:Sh τ)(hp:μ p=some (.lst []))(hn:as.length<=sizeLine)(hk:∀aj,kp (Bh μ p (.lst aj)))
  (step:∀(i:Nat) (x:α) (τ':ASt) (aj:List AV) (W:ASt->AV->M->Prop),as[i]?=some x->Sh τ'->(∀ τ1,Sh τ1->W τ1 (f x) (Bh μ p (.lst aj)))->g (g0 x) τ' (Bh μ p (.lst aj)) fun τ1 μ1=>te τ1 μ1 (W τ1))
  (done:R (Bh μ p (.lst (as.map f)))):cl p g Qdf te kp R (as.map g0) [] τ μ:=by
 refine cmapf as g0 (λ_=>true) f Sh h0 hp hn hk (λi x τ' aj W W2 hx sh h1 _=>?_) (by rw [List.filter_eq_self.mpr (λ_ _=>rfl)];exact done)
 have:=step i x τ' aj W hx sh (h1 rfl)
 simp only [Qdf,Vn]
 exact this
theorem V8{α:Type}{g:α->Bool}{as:List α}{μ:M}{p:Addr}{R:AV->M->Prop}(h:μ p=some (.lst (as.map λx=>.D (.bool (g x)))))(q:R (.D (.bool (as.all g))) μ):Qc9 [.R p] μ R:=by
 refine Ae h (Ae (V7 g as) ?_)
 rw [List.all_map]
 exact q
theorem Qdk{K:PySem.W.Frag}:Kits K "tuple" := by
 intro S hS
 simp only [List.mem_cons,List.not_mem_nil,or_false]at hS
 rcases hS with rfl | rfl | rfl | rfl | rfl | rfl | rfl <;> rfl
theorem Kv{K:PySem.W.Frag}:Kits K "bool" := by
 intro S hS
 simp only [List.mem_cons,List.not_mem_nil,or_false]at hS
 rcases hS with rfl | rfl | rfl | rfl | rfl | rfl | rfl <;> rfl
def V9(K:PySem.W.Frag)(C:Addr):Bool :=
 PySem.W.findIn K (.ref C) "__getattribute__" == some (some (.builtin "BaseException.__getattribute__")) && PySem.W.findIn K (.ref C) "__getattr__" == some none && PySem.W.findIn K (.ref C) "__setattr__" == some (some (.builtin "object.__setattr__")) && PySem.W.hasDictIn K C &&
 PySem.W.mroIn K C (.type "BaseException")==some true && PySem.W.mroIn K C (.type "object")==some true && O5 K C && PySem.W.findIn K (.ref C) "__class__" == some (some (.builtin "object.__class__")) &&
 PySem.W.specialIn K (.builtin "object.__class__") "__get__" == some (some (.builtin "getset_descriptor.__get__")) && PySem.W.takesIn K (.builtin "object.__class__")==some true && Fg K C && PySem.W.keepIn K (.ref C)
theorem Qdl{K:PySem.W.Frag}{C:Addr}(h:V9 K C=true):XIs K C/\Fg K C=true/\PySem.W.keepIn K (.ref C)=true:=by
 unfold V9 at h
 simp only [Bool.and_eq_true,beq_iff_eq]at h
 obtain⟨⟨⟨⟨⟨⟨⟨⟨⟨⟨⟨h1,h2⟩,h3⟩,h4⟩,h5⟩,h6⟩,h7⟩,h8⟩,h9⟩,h10⟩,h11⟩,h12⟩:=h
 exact⟨⟨⟨h1,h2,h3,h4,h5,h6,h7⟩,h8,h9,h10⟩,h11,h12⟩
def Wa(K:PySem.W.Frag)(C D:Addr)(cs:List Addr):Bool :=
 V9 K C && PySem.W.mroIn K C (.ref D)==some true && PySem.W.kitOne K (.ref C) (.ref D)==some true && PySem.W.kitOne K (.ref C) (.type "ValueError")==some true && PySem.W.kitAny K (.ref C) (cs.map Value.ref)==some false && Fg K D && PySem.W.mroIn K D (.type "BaseException")==some true && PySem.W.mroIn K C (.ref C)==some true
structure Err(K:PySem.W.Frag)(C D:Addr)(cs:List Addr):Prop where
 xi:XIs K C
 xc:Fg K C=true
 kp:PySem.W.keepIn K (.ref C)=true
 un:PySem.W.mroIn K C (.ref D)=some true
 iD:PySem.W.kitOne K (.ref C) (.ref D)=some true
 iV:PySem.W.kitOne K (.ref C) (.type "ValueError")=some true
 no:PySem.W.kitAny K (.ref C) (cs.map Value.ref)=some false
 xD:Fg K D=true
 mD:PySem.W.mroIn K D (.type "BaseException")=some true
 me:PySem.W.mroIn K C (.ref C)=some true
theorem Qdm{K:PySem.W.Frag}{C D:Addr}{cs:List Addr}(h:Wa K C D cs=true):Err K C D cs:=by
 unfold Wa at h
 simp only [Bool.and_eq_true,beq_iff_eq]at h
 obtain⟨⟨⟨⟨⟨⟨⟨h1,h2⟩,h3⟩,h4⟩,h5⟩,h6⟩,h7⟩,h8⟩:=h
 obtain⟨a,b,c⟩:=Qdl h1
 exact⟨a,b,c,h2,h3,h4,h5,h6,h7,h8⟩
theorem Err.self{K:PySem.W.Frag}{C D:Addr}{cs:List Addr}(_:Err K C D cs):PySem.W.kitOne K (.ref C) (.ref C)=some true:=by
 unfold PySem.W.kitOne
 rw [Yak (beq_iff_eq.mpr rfl)]
def cdef:Stmt->Stmt
 | .ClassDef _ _ _ (b :: _) _ _ _ _ _ _ _=>b
 | s=>s
section
variable {X:Cx}{K:PySem.W.Frag}{a:Expr}{ta:AE}{pos p p2:Pos}{x:Str}
theorem Zb{D:Addr}(hK:X.K=K)(hg:Gl X "isinstance") (hm:X.mg "isinstance" = none) (gu:Gl X x) (fy:X.mg x=some (.ref D)) (he:VE X a ta) (i9:(x==("__debug__" : Str))=false:=by decide)
  (hs:starEach [a,.Name x p2] X.env=(false,eval a X.env) :: starEach [.Name x p2] X.env:=by rfl) (cv:starEach [.Name x p2] X.env=[(false,eval (.Name x p2) X.env)]:=by rfl) (hpl:(backTo pos (starEach [.Name x p2] X.env)).any (·.1)=false:=by rfl) :
  VE X (.Call (.Name "isinstance" p) [a,.Name x p2] [] pos) (V4 K (.ref D) ta):=by subst hK;exact Y8 hg hm gu fy he i9 hs cv hpl
theorem Wb{T:String}(hK:X.K=K)(hg:Gl X "isinstance") (hm:X.mg "isinstance" = none) (gu:Gl X x) (fy:X.mg x=none) (uq:bootBuiltins x=some (.type T)) (he:VE X a ta) (j6:x ≠ "__name__" := by decide) (i9:(x==("__debug__" : Str))=false:=by decide)
  (hs:starEach [a,.Name x p2] X.env=(false,eval a X.env) :: starEach [.Name x p2] X.env:=by rfl) (cv:starEach [.Name x p2] X.env=[(false,eval (.Name x p2) X.env)]:=by rfl) (hpl:(backTo pos (starEach [.Name x p2] X.env)).any (·.1)=false:=by rfl) :
  VE X (.Call (.Name "isinstance" p) [a,.Name x p2] [] pos) (V4 K (.type T) ta):=by subst hK;exact V5 hg hm gu fy uq he j6 i9 hs cv hpl
theorem Q5{f:Str}(hK:X.K=K)(he:VE X a ta)(hb:attributeBase a f X.env (eval a X.env)=eval a X.env):VE X (.Attribute a f pos) (Qa6 K f ta):=by subst hK;exact Y9 he hb
theorem Tg{es:List Expr}{cs:List Addr}{k:Nat}(hK:X.K=K)(hg:Gl X "isinstance") (hm:X.mg "isinstance" = none) (hT:PA X es (tGl cs)) (he:VE X a ta) (hl:cs.length<=sizeLine:=by decide)
  (hs:starEach [a,.Tuple es k p2] X.env=(false,eval a X.env) :: starEach [.Tuple es k p2] X.env:=by rfl) (cv:starEach [.Tuple es k p2] X.env=[(false,eval (.Tuple es k p2) X.env)]:=by rfl) (hpl:(backTo pos (starEach [.Tuple es k p2] X.env)).any (·.1)=false:=by rfl) :
  VE X (.Call (.Name "isinstance" p) [a,.Tuple es k p2] [] pos) (Qa7 K cs ta):=by subst hK;exact Te hg hm hT he hl hs cv hpl
end
def rk:PyData->Nat
 | .none=>0 | .bool _=>1 | .int _=>2 | .str _=>3 | .list _=>4 | .tuple _=>5 | .dict _=>6
def Fv(a b:Str):Bool:=decide (a.cps.toList < b.cps.toList)
mutual
def E7:PyData->PyData->Bool
 | .int a,.int b=>decide (a < b)
 | .str a,.str b=>Fv a b
 | .tuple xs,.tuple ys=>Ck xs ys
 | x,y=>decide (rk x < rk y)
def Ck:List PyData->List PyData->Bool
 | [],[]=>false
 | [],_ :: _=>true
 | _ :: _,[]=>false
 | x :: xs,y :: ys=>if PyData.eqv x y then Ck xs ys else E7 x y
end
mutual
theorem Gp:∀(x y:PyData),Cano x=true->Cano y=true->PyData.eqv x y=true->x=y
 | .int a,.int b,_,_,h=>by simp [PyData.eqv]at h;rw [h]
 | .str a,.str b,_,_,h=>by simp [PyData.eqv]at h;rw [h]
 | .tuple xs,.tuple ys,h1,h2,h=>by
  simp only [Cano]at h1 h2
  rw [PyData.eqv]at h
  rw [Q6 xs ys h1 h2 h]
 | .int _,.str _,_,_,h=>by simp [PyData.eqv]at h
 | .int _,.tuple _,_,_,h=>by simp [PyData.eqv]at h
 | .str _,.int _,_,_,h=>by simp [PyData.eqv]at h
 | .str _,.tuple _,_,_,h=>by simp [PyData.eqv]at h
 | .tuple _,.int _,_,_,h=>by simp [PyData.eqv]at h
 | .tuple _,.str _,_,_,h=>by simp [PyData.eqv]at h
 | .none,_,h,_,_=>by simp [Cano]at h
 | .bool _,_,h,_,_=>by simp [Cano]at h
 | .list _,_,h,_,_=>by simp [Cano]at h
 | .dict _,_,h,_,_=>by simp [Cano]at h
 | .int _,.none,_,h,_=>by simp [Cano]at h
 | .int _,.bool _,_,h,_=>by simp [Cano]at h
 | .int _,.list _,_,h,_=>by simp [Cano]at h
 | .int _,.dict _,_,h,_=>by simp [Cano]at h
 | .str _,.none,_,h,_=>by simp [Cano]at h
 | .str _,.bool _,_,h,_=>by simp [Cano]at h
 | .str _,.list _,_,h,_=>by simp [Cano]at h
 | .str _,.dict _,_,h,_=>by simp [Cano]at h
 | .tuple _,.none,_,h,_=>by simp [Cano]at h
 | .tuple _,.bool _,_,h,_=>by simp [Cano]at h
 | .tuple _,.list _,_,h,_=>by simp [Cano]at h
 | .tuple _,.dict _,_,h,_=>by simp [Cano]at h
theorem Q6:∀(xs ys:List PyData),Aj xs=true->Aj ys=true->PyData.eqvAll xs ys=true->xs=ys
 | [],[],_,_,_=>rfl
 | [],_ :: _,_,_,h=>by simp [PyData.eqvAll]at h
 | _ :: _,[],_,_,h=>by simp [PyData.eqvAll]at h
 | x :: xs,y :: ys,h1,h2,h=>by
  simp only [Aj,Bool.and_eq_true]at h1 h2
  rw [PyData.eqvAll,Ybm]at h
  rw [Gp x y h1.1 h2.1 h.1,Q6 xs ys h1.2 h2.2 h.2]
end
mutual
theorem Dz:∀(x:PyData),Cano x=true->PyData.eqv x x=true
 | .int a,_=>by simp [PyData.eqv]
 | .str a,_=>by simp [PyData.eqv]
 | .tuple xs,h=>by rw [PyData.eqv];exact Kw xs (by simpa only [Cano] using h)
 | .none,h=>by simp [Cano]at h
 | .bool _,h=>by simp [Cano]at h
 | .list _,h=>by simp [Cano]at h
 | .dict _,h=>by simp [Cano]at h
theorem Kw:∀(xs:List PyData),Aj xs=true->PyData.eqvAll xs xs=true
 | [],_=>rfl
 | x :: xs,h=>by
  simp only [Aj,Bool.and_eq_true]at h
  rw [PyData.eqvAll,Dz x h.1,Kw xs h.2];rfl
end
theorem Pg{x y:PyData}(hx:Cano x=true)(hy:Cano y=true):PyData.eqv x y=false↔x≠y:=by
 constructor
 ·rintro h rfl
  rw [Dz x hx]at h;cases h
 ·intro h
  cases e:PyData.eqv x y with
  | false=>rfl
  | true=>exact absurd (Gp x y hx hy e) h
theorem cano_cases{x:PyData}(h:Cano x=true):(∃i,x=.int i)\/(∃z,x=.str z)\/∃xs,x=.tuple xs/\Aj xs=true:=by
 cases x with
 | int i=>exact .inl ⟨i,rfl⟩
 | str z=>exact .inr (.inl ⟨z,rfl⟩)
 | tuple xs=>exact .inr (.inr ⟨xs,rfl,by simpa only [Cano] using h⟩)
 | none=>simp [Cano]at h
 | bool _=>simp [Cano]at h
 | list _=>simp [Cano]at h
 | dict _=>simp [Cano]at h
theorem Wc{a b c:Str}(h1:Fv a b=true)(h2:Fv b c=true):Fv a c=true:=by
 unfold Fv at *
 exact Ybd (List.lt_trans (Ybh h1) (Ybh h2))
theorem Zc{a b:Str}(h:a.cps.toList=b.cps.toList):a=b:=by
 cases a;cases b
 simp only [Array.toList_inj]at h
 rw [h]
theorem Th{a b:Str}(h:a≠b)(h1:Fv a b=false):Fv b a=true:=by
 unfold Fv at *
 have h1:=Yda h1
 refine Ybd ?_
 rcases Decidable.em (b.cps.toList < a.cps.toList) with z | z
 ·exact z
 ·exact absurd (Zc (List.le_antisymm (List.not_lt.mp z) (List.not_lt.mp h1))) h
mutual
theorem Wd:∀(x y z:PyData),Cano x=true->Cano y=true->Cano z=true->E7 x y=true->E7 y z=true->E7 x z=true
 | .int a,y,z,_,hy,hz,h1,h2=>by
  rcases cano_cases hy with⟨b,rfl⟩ | ⟨b,rfl⟩ | ⟨ys,rfl,_⟩ <;> rcases cano_cases hz with⟨c,rfl⟩ | ⟨c,rfl⟩ | ⟨zs,rfl,_⟩ <;> simp [E7,rk]at h1 h2 ⊢
  omega
 | .str a,y,z,_,hy,hz,h1,h2=>by
  rcases cano_cases hy with⟨b,rfl⟩ | ⟨b,rfl⟩ | ⟨ys,rfl,_⟩ <;> rcases cano_cases hz with⟨c,rfl⟩ | ⟨c,rfl⟩ | ⟨zs,rfl,_⟩ <;> simp [E7,rk]at h1 h2 ⊢
  exact Wc h1 h2
 | .tuple xs,y,z,hx,hy,hz,h1,h2=>by
  rcases cano_cases hy with⟨b,rfl⟩ | ⟨b,rfl⟩ | ⟨ys,rfl,ky⟩ <;> rcases cano_cases hz with⟨c,rfl⟩ | ⟨c,rfl⟩ | ⟨zs,rfl,kz⟩ <;> simp [E7,rk]at h1 h2 ⊢
  exact Q7 xs ys zs (by simpa only [Cano] using hx) ky kz h1 h2
 | .none,_,_,h,_,_,_,_=>by simp [Cano]at h
 | .bool _,_,_,h,_,_,_,_=>by simp [Cano]at h
 | .list _,_,_,h,_,_,_,_=>by simp [Cano]at h
 | .dict _,_,_,h,_,_,_,_=>by simp [Cano]at h
theorem Q7:∀(xs ys zs:List PyData),Aj xs=true->Aj ys=true->Aj zs=true->Ck xs ys=true->Ck ys zs=true->Ck xs zs=true
 | [],[],_,_,_,_,h1,_=>by simp [Ck]at h1
 | [],_ :: _,[],_,_,_,_,h2=>by simp [Ck]at h2
 | [],_ :: _,_ :: _,_,_,_,_,_=>by simp [Ck]
 | _ :: _,[],_,_,_,_,h1,_=>by simp [Ck]at h1
 | _ :: _,_ :: _,[],_,_,_,_,h2=>by simp [Ck]at h2
 | x :: xs,y :: ys,z :: zs,hx,hy,hz,h1,h2=>by
  simp only [Aj,Bool.and_eq_true]at hx hy hz
  simp only [Ck]at h1 h2 ⊢
  cases e1:PyData.eqv x y with
  | true =>
   have e:=Gp x y hx.1 hy.1 e1
   subst e
   rw [e1]at h1
   cases e2:PyData.eqv x z with
   | true =>
    rw [e2]at h2
    exact Q7 xs ys zs hx.2 hy.2 hz.2 h1 h2
   | false=>rw [e2]at h2;exact h2
  | false =>
   rw [e1]at h1
   cases e2:PyData.eqv y z with
   | true =>
    have e:=Gp y z hy.1 hz.1 e2
    subst e
    rw [e1];exact h1
   | false =>
    rw [e2]at h2
    have h3:=Wd x y z hx.1 hy.1 hz.1 h1 h2
    cases e3:PyData.eqv x z with
    | false=>exact h3
    | true =>
     have e:=Gp x z hx.1 hz.1 e3
     subst e
     exact absurd h3 (by rw [Q8 x hx.1];exact Yad)
theorem Q8:∀(x:PyData),Cano x=true->E7 x x=false
 | .int a,_=>by simp [E7]
 | .str a,_=>by simp [E7,Fv,List.lt_irrefl]
 | .tuple xs,h=>by simp only [E7];exact Nh xs (by simpa only [Cano] using h)
 | .none,h=>by simp [Cano]at h
 | .bool _,h=>by simp [Cano]at h
 | .list _,h=>by simp [Cano]at h
 | .dict _,h=>by simp [Cano]at h
theorem Nh:∀(xs:List PyData),Aj xs=true->Ck xs xs=false
 | [],_=>by simp [Ck]
 | x :: xs,h=>by
  simp only [Aj,Bool.and_eq_true]at h
  simp only [Ck,Dz x h.1,if_true]
  exact Nh xs h.2
end
mutual
theorem Q9:∀(x y:PyData),Cano x=true->Cano y=true->x≠y->E7 x y=false->E7 y x=true
 | .int a,y,_,hy,hn,h=>by
  rcases cano_cases hy with⟨b,rfl⟩ | ⟨b,rfl⟩ | ⟨ys,rfl,_⟩ <;> simp [E7,rk]at h ⊢
  have:a≠b:=λz=>hn (by rw [z])
  omega
 | .str a,y,_,hy,hn,h=>by
  rcases cano_cases hy with⟨b,rfl⟩ | ⟨b,rfl⟩ | ⟨ys,rfl,_⟩ <;> simp [E7,rk]at h ⊢
  exact Th (λz=>hn (by rw [z])) h
 | .tuple xs,y,hx,hy,hn,h=>by
  rcases cano_cases hy with⟨b,rfl⟩ | ⟨b,rfl⟩ | ⟨ys,rfl,ky⟩ <;> simp [E7,rk]at h ⊢
  exact Ni xs ys (by simpa only [Cano] using hx) ky (λz=>hn (by rw [z])) h
 | .none,_,h,_,_,_=>by simp [Cano]at h
 | .bool _,_,h,_,_,_=>by simp [Cano]at h
 | .list _,_,h,_,_,_=>by simp [Cano]at h
 | .dict _,_,h,_,_,_=>by simp [Cano]at h
theorem Ni:∀(xs ys:List PyData),Aj xs=true->Aj ys=true->xs≠ys->Ck xs ys=false->Ck ys xs=true
 | [],[],_,_,hn,_=>absurd rfl hn
 | [],_ :: _,_,_,_,h=>by simp [Ck]at h
 | _ :: _,[],_,_,_,_=>by simp [Ck]
 | x :: xs,y :: ys,hx,hy,hn,h=>by
  simp only [Aj,Bool.and_eq_true]at hx hy
  simp only [Ck]at h ⊢
  cases e:PyData.eqv x y with
  | true =>
   have e':=Gp x y hx.1 hy.1 e
   subst e'
   rw [e]at h ⊢
   exact Ni xs ys hx.2 hy.2 (λz=>hn (by rw [z])) h
  | false =>
   rw [e]at h
   have ar:=(Pg hx.1 hy.1).mp e
   rw [(Pg hy.1 hx.1).mpr (Yc4 ar)]
   exact Q9 x y hx.1 hy.1 ar h
end
end L2
namespace L2
open PySem PySem.W PyProof.Rows
section
variable {n:Nat}{lt:Nat->Nat->Bool}
structure StrictOrd(n:Nat)(lt:Nat->Nat->Bool):Prop where
 tr:∀a b c,a < n->b < n->c < n->lt a b=true->lt b c=true->lt a c=true
 tot:∀a b,a < n->b < n->a≠b->lt a b=false->lt b a=true
 irr:∀a,a < n->lt a a=false
structure Pm(n:Nat)(p:Array Nat):Prop where
 size:p.size=n
 lt:∀i,i < n->p.getD i 0 < n
 inj:∀i j,i < n->j < n->i≠j->p.getD i 0≠p.getD j 0
 perm:p.toList.Perm (List.range n)
theorem Qa8{p:Array Nat}(h:p.toList.Perm (List.range n)):Pm n p:=by
 have hs:p.size=n:=by
  have:=h.length_eq
  simpa using this
 have hg:∀i,(hi:i < n)->p.getD i 0=p[i]'(by omega):=λi hi=>by simp [Array.getD,show i < p.size by omega]
 refine⟨hs,λi hi=>?_,λi j hi hj fh e=>?_,h⟩
 ·rw [hg i hi]
  have:p[i]'(by omega)∈p.toList:=by simp
  exact Ybi.mp (h.mem_iff.mp this)
 ·rw [hg i hi,hg j hj]at e
  have nd:p.toList.Nodup:=h.nodup_iff.mpr List.nodup_range
  have e1:p.toList[i]?=p.toList[j]?:=by
   rw [Array.getElem?_toList,Array.getElem?_toList,Array.getElem?_eq_getElem (by omega),Array.getElem?_eq_getElem (by omega),e]
  exact fh ((List.getElem?_inj (by simpa using (by omega:i < p.size)) nd).mp e1)
def Up(lt:Nat->Nat->Bool)(p:Array Nat)(k:Nat):Prop:=∀i j,i < j->j < k->lt (p.getD i 0) (p.getD j 0)=true
variable {p:Array Nat}{s:Shared}
end
section
variable {n:Nat}{lt:Nat->Nat->Bool}
structure WeakOrd(n:Nat)(lt:Nat->Nat->Bool):Prop where
 tr:∀a b c,a < n->b < n->c < n->lt b a=false->lt c b=false->lt c a=false
 asy:∀a b,a < n->b < n->lt a b=true->lt b a=false
theorem WeakOrd.irr{a:Nat}(O:WeakOrd n lt)(ha:a < n):lt a a=false:=by
 cases c:lt a a with
 | false=>rfl
 | true=>have:=O.asy a a ha ha c;rw [c]at this;cases this
theorem WeakOrd.low{a b c:Nat}(O:WeakOrd n lt)(ha:a < n)(hb:b < n)(hc:c < n)(h1:lt a b=true)(h2:lt c b=false):lt a c=true:=by
 cases e:lt a c with
 | true=>rfl
 | false=>rw [O.tr b c a hb hc ha h2 e]at h1;cases h1
theorem WeakOrd.high{a b c:Nat}(O:WeakOrd n lt)(ha:a < n)(hb:b < n)(hc:c < n)(h1:lt b a=false)(h2:lt b c=true):lt a c=true:=by
 cases e:lt a c with
 | true=>rfl
 | false=>rw [O.tr c a b hc ha hb e h1]at h2;cases h2
def UpW(lt:Nat->Nat->Bool)(p:Array Nat)(k:Nat):Prop:=∀i j,i < j->j < k->lt (p.getD j 0) (p.getD i 0)=false
variable {p:Array Nat}{s:Shared}
end
def gallop':Bool->Keyed->Array Keyed->Nat->Nat->Nat->StateT SortSt Sem (Option Nat):=sortPriv% PySem.Builtin.gallop
def setMinGallop':Nat->StateT SortSt Sem Unit:=sortPriv% PySem.Builtin.setMinGallop
theorem Ph(left:Bool)(key:Keyed)(nq:Array Keyed)(base n av:Nat):gallop' left key nq base n av=(do
 let gh (i:Nat):StateT SortSt Sem (Option Bool):=do
  let x <- elem' nq (base+i)
  if left then lt' x key else return (<- lt' key x).map (!·)
 let mut et:=0
 let mut bn:=1
 let mut lo:=0
 let mut hi:=0
 let some right <- gh av | return none
 if right then
  let fj:=n - av
  for _ in [0:n] do
   if bn>=fj then break
   let some more <- gh (av+bn) | return none
   if !more then break
   et:=bn
   bn:=2 * bn+1
  lo:=av+et+1
  hi:=av+min bn fj
 else
  let fj:=av+1
  for _ in [0:n] do
   if bn>=fj then break
   let some found <- gh (av - bn) | return none
   if found then break
   et:=bn
   bn:=2 * bn+1
  lo:=av+1 - min bn fj
  hi:=av - et
 for _ in [0:n] do
  if lo>=hi then break
  let m:=lo+(hi - lo) / 2
  let some more <- gh m | return none
  if more then lo:=m+1 else hi:=m
 return some hi):=rfl
section
variable {prog:Program}{w:World}{A:Around}{E:Value->Shared->Prop}{s:Shared}{κ:SortKind}{it:Array Keyed}{n:Nat}{lt:Nat->Nat->Bool}
def Cmp(prog:Program)(w:World)(A:Around)(κ:SortKind)(it:Array Keyed)(n:Nat)(lt:Nat->Nat->Bool)(s:Shared):Prop :=
 ∀(i j:Nat) (C:Bool->Shared->Prop),i < n->j < n->C (lt i j) s->kas_cmp prog w A κ it i j C s
theorem We(hc:Cmp prog w A κ it n lt s){st:SortSt}(hk:kindOf st=κ){i j:Nat}(hi:i < n)(hj:j < n){Q:Option Bool->SortSt->Prop}(h:Q (some (lt i j)) st):wpS (model prog w) A E s (lt' (kas_item it i) (kas_item it j)) Q st:=by
 rw [lt'_eq]
 refine Yai (Yfl ?_)
 rw [hk]
 refine Yai (wpS_lift (Ycv (Ybk (hc i j (λc s'=>s'=s/\c=lt i j) hi hj ⟨rfl,rfl⟩) (λc s' cu=>?_) λ_ _ hF=>hF.elim)))
 obtain⟨rfl,rfl⟩:=cu
 exact⟨rfl,Yao h⟩
theorem Bn{st:SortSt}{p:Array Nat}{i:Nat}(hi:i < p.size){Q:Keyed->SortSt->Prop}(h:Q (kas_item it (p.getD i 0)) st):wpS (model prog w) A E s (elem' (p.map (kas_item it)) i) Q st:=by
 rw [elem'_eq]
 have e:(p.map (kas_item it))[i]?=some (kas_item it (p.getD i 0)):=by
  rw [Array.getElem?_map,Array.getElem?_eq_getElem hi]
  simp [Array.getD,hi]
 rw [e]
 exact Yao h
structure Step(f:Nat->Bool)(n k:Nat):Prop where
 le:k<=n
 yes:∀i,i < k->f i=true
 no:∀i,k<=i->i < n->f i=false
def byd(left:Bool)(key:Keyed)(nq:Array Keyed)(base i:Nat):StateT SortSt Sem (Option Bool):=do
 let x <- elem' nq (base+i)
 if left then lt' x key else return (<- lt' key x).map (!·)
theorem Nj{left:Bool}{key:Keyed}{nq:Array Keyed}{base m av:Nat}{f:Nat->Bool}{st:SortSt}(hm:av < m)
  (hf:∀i Q,i < m->Q (some (f i)) st->wpS (model prog w) A E s (byd left key nq base i) Q st)
  (mono:∀i j,i<=j->j < m->f j=true->f i=true) {Q:Option Nat->SortSt->Prop} (h:∀k,Step f m k->Q (some k) st):wpS (model prog w) A E s (gallop' left key nq base m av) Q st:=by
 rw [Ph]
 dsimp only
 have jl:∀i j,i<=j->j < m->f i=false->f j=false:=λi j fh hj e=>by
  cases c:f j with
  | false=>rfl
  | true=>rw [mono i j fh hj c]at e;cases e
 refine Yai (hf av _ hm ?_)
 dsimp only
 cases e0:f av with
 | true =>
  rw [Yak rfl]
  refine Yai (Ycq (Yby (I:=λx c ai=>ai=st/\∃la bn,c=(none,la,bn)/\la < bn/\la < m - av/\x+1<=bn/\f (av+la)=true) (Q:=λc ai=>ai=st/\∃la bn,c=(none,la,bn)/\la < bn/\la < m - av/\f (av+la)=true/\(bn < m - av->f (av+bn)=false)) ?_ ?_ ⟨rfl,0,1,rfl,by omega,by omega,by omega,e0⟩) ?_)
  ·rintro x c ai _ hx ⟨rfl,la,bn,rfl,h1,h2,h3,h4⟩
   dsimp only
   by_cases c:bn>=m - av
   ·rw [Yak c]
    exact Yao ⟨rfl,la,bn,rfl,h1,h2,h4,λz=>by omega⟩
   ·rw [Yah c]
    refine Yai (hf _ _ (by omega) ?_)
    dsimp only
    cases e:f (av+bn) with
    | false =>
     rw [Yak (show(!false)=true from rfl)]
     exact Yao ⟨rfl,la,bn,rfl,h1,h2,h4,λ_=>e⟩
    | true =>
     rw [Yah (show ¬(!true)=true by decide)]
     exact Yao ⟨rfl,bn,_,rfl,by omega,by omega,by omega,e⟩
  ·rintro c ai ⟨rfl,la,bn,rfl,h1,h2,h3,h4⟩
   exact⟨rfl,la,bn,rfl,h1,h2,h4,λz=>by omega⟩
  ·rintro c ai ⟨rfl,la,bn,rfl,h1,h2,h4,h5⟩
   have no:∀i,av+min bn (m - av)<=i->i < m->f i=false:=λi hi ou=>by
    rcases Yb9 bn (m - av) with c | c
    ·exact jl _ i (by omega) ou (h5 c)
    ·omega
   dsimp only
   refine Yai (Ycq (Yby (I:=λx c bq=>bq=ai/\∃lo hi,c=(none,lo,hi)/\lo<=hi/\hi<=m/\hi - lo<=m - x/\(∀i,i < lo->f i=true)/\(∀i,hi<=i->i < m->f i=false)) (Q:=λc bq=>bq=ai/\∃k,c=(none,k,k)/\Step f m k) ?_ ?_ ⟨rfl,_,_,rfl,by omega,by omega,by omega,λi hi=>mono i _ (by omega) (by omega) h4,no⟩) ?_)
   ·rintro x c bq _ hx ⟨rfl,lo,hi,rfl,h1,h2,h3,yes,no⟩
    dsimp only
    by_cases c:lo>=hi
    ·rw [Yak c]
     have:lo=hi:=by omega
     subst this
     exact Yao ⟨rfl,lo,rfl,h2,yes,no⟩
    ·rw [Yah c]
     refine Yai (hf _ _ (by omega) ?_)
     dsimp only
     cases e:f (lo+(hi - lo) / 2) with
     | true =>
      rw [Yak rfl]
      refine Yao ⟨rfl,_,_,rfl,by omega,h2,by omega,λi en=>mono i _ (by omega) (by omega) e,no⟩
     | false =>
      rw [Yah Yad]
      exact Yao ⟨rfl,_,_,rfl,by omega,by omega,by omega,yes,λi en ou=>jl _ i en ou e⟩
   ·rintro c bq ⟨rfl,lo,hi,rfl,h1,h2,h3,yes,no⟩
    have:lo=hi:=by omega
    subst this
    exact⟨rfl,lo,rfl,h2,yes,no⟩
   ·rintro c bq ⟨rfl,k,rfl,hk⟩
    exact Yao (h k hk)
 | false =>
  rw [Yah Yad]
  refine Yai (Ycq (Yby (I:=λx c ai=>ai=st/\∃la bn,c=(none,la,bn)/\la < bn/\la<=av/\x+1<=bn/\f (av - la)=false) (Q:=λc ai=>ai=st/\∃la bn,c=(none,la,bn)/\la < bn/\la<=av/\f (av - la)=false/\(bn < av+1->f (av - bn)=true)) ?_ ?_ ⟨rfl,0,1,rfl,by omega,by omega,by omega,e0⟩) ?_)
  ·rintro x c ai _ hx ⟨rfl,la,bn,rfl,h1,h2,h3,h4⟩
   dsimp only
   by_cases c:bn>=av+1
   ·rw [Yak c]
    exact Yao ⟨rfl,la,bn,rfl,h1,h2,h4,λz=>by omega⟩
   ·rw [Yah c]
    refine Yai (hf _ _ (by omega) ?_)
    dsimp only
    cases e:f (av - bn) with
    | true =>
     rw [Yak rfl]
     exact Yao ⟨rfl,la,bn,rfl,h1,h2,h4,λ_=>e⟩
    | false =>
     rw [Yah Yad]
     exact Yao ⟨rfl,bn,_,rfl,by omega,by omega,by omega,e⟩
  ·rintro c ai ⟨rfl,la,bn,rfl,h1,h2,h3,h4⟩
   exact⟨rfl,la,bn,rfl,h1,h2,h4,λz=>by omega⟩
  ·rintro c ai ⟨rfl,la,bn,rfl,h1,h2,h4,h5⟩
   have yes:∀i,i < av+1 - min bn (av+1)->f i=true:=λi hi=>by
    rcases Yb9 bn (av+1) with c | c
    ·exact mono i (av - bn) (by omega) (by omega) (h5 c)
    ·omega
   dsimp only
   refine Yai (Ycq (Yby (I:=λx c bq=>bq=ai/\∃lo hi,c=(none,lo,hi)/\lo<=hi/\hi<=m/\hi - lo<=m - x/\(∀i,i < lo->f i=true)/\(∀i,hi<=i->i < m->f i=false)) (Q:=λc bq=>bq=ai/\∃k,c=(none,k,k)/\Step f m k) ?_ ?_ ⟨rfl,_,_,rfl,by omega,by omega,by omega,yes,λi hi ou=>jl _ i hi ou h4⟩) ?_)
   ·rintro x c bq _ hx ⟨rfl,lo,hi,rfl,h1,h2,h3,yes,no⟩
    dsimp only
    by_cases c:lo>=hi
    ·rw [Yak c]
     have:lo=hi:=by omega
     subst this
     exact Yao ⟨rfl,lo,rfl,h2,yes,no⟩
    ·rw [Yah c]
     refine Yai (hf _ _ (by omega) ?_)
     dsimp only
     cases e:f (lo+(hi - lo) / 2) with
     | true =>
      rw [Yak rfl]
      refine Yao ⟨rfl,_,_,rfl,by omega,h2,by omega,λi en=>mono i _ (by omega) (by omega) e,no⟩
     | false =>
      rw [Yah Yad]
      exact Yao ⟨rfl,_,_,rfl,by omega,by omega,by omega,yes,λi en ou=>jl _ i en ou e⟩
   ·rintro c bq ⟨rfl,lo,hi,rfl,h1,h2,h3,yes,no⟩
    have:lo=hi:=by omega
    subst this
    exact⟨rfl,lo,rfl,h2,yes,no⟩
   ·rintro c bq ⟨rfl,k,rfl,hk⟩
    exact Yao (h k hk)
end
def mergeLo':Array Keyed->Array Keyed->StateT SortSt Sem (Array Keyed):=sortPriv% PySem.Builtin.mergeLo
def mergeHi':Array Keyed->Array Keyed->StateT SortSt Sem (Array Keyed):=sortPriv% PySem.Builtin.mergeHi
theorem Cg(g:Nat):setMinGallop' g=modify λst=>SortSt.mk' (kindOf st) (arrOf st) (pendingOf st) g (failedOf st):=rfl
theorem Nk(a b:Array Keyed):mergeLo' a b=(do
 rule "list.sort.merge-lo"
 let fk:=a.size+b.size
 let done (ae:Array Keyed) (ia ib:Nat):=ae++a.extract ia a.size++b.extract ib b.size
 let fb (ae:Array Keyed) (ia ib:Nat):=ae++b.extract ib b.size++a.extract ia a.size
 let mut ae:Array Keyed:=#[<- elem' b 0]
 let mut ia:=0
 let mut ib:=1
 if ib==b.size then return done ae ia ib
 if ia+1==a.size then return fb ae ia ib
 let mut ah:=gallopOf (<- get)
 for _ in [0:fk] do
  let mut bh:=0
  let mut bg:=0
  for _ in [0:fk] do
   let some bWins <- lt' (<- elem' b ib) (<- elem' a ia) | return done ae ia ib
   if bWins then
    ae:=ae.push (<- elem' b ib);ib:=ib+1;bg:=bg+1;bh:=0
    if ib==b.size then return done ae ia ib
    if bg>=ah then break
   else
    ae:=ae.push (<- elem' a ia);ia:=ia+1;bh:=bh+1;bg:=0
    if ia+1==a.size then return fb ae ia ib
    if bh>=ah then break
  rule "list.sort.gallop"
  ah:=ah+1
  for _ in [0:fk] do
   if ah > 1 then ah:=ah - 1
   setMinGallop' ah
   let some k <- gallop' false (<- elem' b ib) a ia (a.size - ia) 0 | return done ae ia ib
   bh:=k
   if k > 0 then
    ae:=ae++a.extract ia (ia+k);ia:=ia+k
    if ia+1==a.size then return fb ae ia ib
    if ia==a.size then return done ae ia ib
   ae:=ae.push (<- elem' b ib);ib:=ib+1
   if ib==b.size then return done ae ia ib
   let some k <- gallop' true (<- elem' a ia) b ib (b.size - ib) 0 | return done ae ia ib
   bg:=k
   if k > 0 then
    ae:=ae++b.extract ib (ib+k);ib:=ib+k
    if ib==b.size then return done ae ia ib
   ae:=ae.push (<- elem' a ia);ia:=ia+1
   if ia+1==a.size then return fb ae ia ib
   if bh < 7 && bg < 7 then break
  ah:=ah+1
  setMinGallop' ah
 unsupported "internal:list.sort.merge-bound"):=rfl
section
variable {prog:Program}{w:World}{A:Around}{E:Value->Shared->Prop}{s:Shared}{κ:SortKind}{it:Array Keyed}{n:Nat}{lt:Nat->Nat->Bool}
abbrev at0(p:Array Nat)(i:Nat):Nat:=p.getD i 0
theorem Qdn(O:WeakOrd n lt)(hc:Cmp prog w A κ it n lt s){st:SortSt}(hk:kindOf st=κ){p:Array Nat}{key base m av:Nat}(hm:av < m)(hb:base+m<=p.size)(hp:∀i,i < p.size->at0 p i < n)(i8:key < n)
  (srt:∀i j,base<=i->i < j->j < base+m->lt (at0 p j) (at0 p i)=false) {Q:Option Nat->SortSt->Prop}
  (h:∀k,k<=m->(∀i,i < k->lt key (at0 p (base+i))=false)->(∀i,k<=i->i < m->lt key (at0 p (base+i))=true)->Q (some k) st):wpS (model prog w) A E s (gallop' false (kas_item it key) (p.map (kas_item it)) base m av) Q st:=by
 refine Nj (f:=λi=>!lt key (at0 p (base+i))) hm (λi Q' hi q=>?_) (λi j fh hj e=>?_) λk cy=>h k cy.le (λi hi=>by simpa using cy.yes i hi) (λi h1 h2=>by simpa using cy.no i h1 h2)
 ·unfold byd
  refine Yai (Bn (by omega) ?_)
  rw [Yah Yad]
  exact Yai (We hc hk i8 (hp _ (by omega)) (Yao q))
 ·rcases Ya0 fh with rfl | hlt
  ·exact e
  ·have e':lt key (at0 p (base+j))=false:=by simpa using e
   have:=O.tr _ _ _ (hp (base+i) (by omega)) (hp (base+j) (by omega)) i8 (srt (base+i) (base+j) (by omega) (by omega) (by omega)) e'
   simpa using this
theorem Qdo(O:WeakOrd n lt)(hc:Cmp prog w A κ it n lt s){st:SortSt}(hk:kindOf st=κ){p:Array Nat}{key base m av:Nat}(hm:av < m)(hb:base+m<=p.size)(hp:∀i,i < p.size->at0 p i < n)(i8:key < n)
  (srt:∀i j,base<=i->i < j->j < base+m->lt (at0 p j) (at0 p i)=false) {Q:Option Nat->SortSt->Prop}
  (h:∀k,k<=m->(∀i,i < k->lt (at0 p (base+i)) key=true)->(∀i,k<=i->i < m->lt (at0 p (base+i)) key=false)->Q (some k) st):wpS (model prog w) A E s (gallop' true (kas_item it key) (p.map (kas_item it)) base m av) Q st:=by
 refine Nj (f:=λi=>lt (at0 p (base+i)) key) hm (λi Q' hi q=>?_) (λi j fh hj e=>?_) λk cy=>h k cy.le cy.yes cy.no
 ·unfold byd
  refine Yai (Bn (by omega) ?_)
  rw [Yak rfl]
  exact We hc hk (hp _ (by omega)) i8 q
 ·rcases Ya0 fh with rfl | hlt
  ·exact e
  ·exact O.high (hp (base+i) (by omega)) (hp (base+j) (by omega)) i8 (srt (base+i) (base+j) (by omega) (by omega) (by omega)) e
def Kx(lt:Nat->Nat->Bool)(p:Array Nat):Prop:=∀i j,i < j->j < p.size->lt (at0 p j) (at0 p i)=false
def In(n:Nat)(p:Array Nat):Prop:=∀i,i < p.size->at0 p i < n
structure MI(lt:Nat->Nat->Bool)(a b ae:Array Nat)(ia ib:Nat):Prop where
 ha:ia<=a.size
 hb:ib<=b.size
 sz:ae.size=ia+ib
 perm:ae.toList.Perm (a.toList.take ia++b.toList.take ib)
 srt:ae.toList.Pairwise λx y=>lt y x=false
 lea:∀x∈ae.toList,∀j,ia<=j->j < a.size->lt (at0 a j) x=false
 leb:∀x∈ae.toList,∀j,ib<=j->j < b.size->lt (at0 b j) x=false
theorem Bv(a:Array Nat)(i k:Nat):(a.extract i (i+k)).toList=(a.toList.drop i).take k:=by
 rw [Array.toList_extract,List.extract_eq_take_drop,Nat.add_sub_cancel_left]
theorem Ky(l:List Nat)(i k:Nat):l.take (i+k)=l.take i++(l.drop i).take k:=List.take_add ..
theorem Ef{a:Array Nat}{i k x:Nat}(h:x∈(a.toList.drop i).take k):∃j,i<=j/\j < i+k/\j < a.size/\x=at0 a j:=by
 obtain⟨m,hm,e⟩:=Yea h
 rw [Ybs,Ycp,Yal]at hm
 rw [List.getElem_take,List.getElem_drop]at e
 refine⟨i+m,by omega,by omega,by omega,?_⟩
 rw [<- e]
 simp [at0,Array.getD,show i+m < a.size by omega]
theorem Ra{a:Array Nat}(h:Kx lt a)(i k:Nat):((a.toList.drop i).take k).Pairwise λx y=>lt y x=false:=by
 have:a.toList.Pairwise λx y=>lt y x=false:=by
  rw [Ycf]
  intro x y hx hy hxy
  have:=h x y hxy (by simpa using hy)
  simp only [Array.length_toList]at hx hy
  simpa [at0,Array.getD,hx,hy] using this
 exact(this.sublist (List.drop_sublist ..)).sublist (List.take_sublist ..)
theorem MI.chunkA{a b ae:Array Nat}{ia ib k:Nat}(h:MI lt a b ae ia ib)(ua:Kx lt a)(hk:ia+k<=a.size)(de:∀i,i < k->∀j,ib<=j->j < b.size->lt (at0 b j) (at0 a (ia+i))=false):MI lt a b (ae++a.extract ia (ia+k)) (ia+k) ib:=by
 refine⟨hk,h.hb,?_,?_,?_,?_,?_⟩
 ·rw [Array.size_append,h.sz,Yeq];omega
 ·rw [Yca,Bv,Ky]
  refine(Yex _ h.perm).trans ?_
  rw [Ycs,Ycs]
  exact List.Perm.append_left _ List.perm_append_comm
 ·rw [Yca,Bv,Yd2]
  refine⟨h.srt,Ra ua _ _,λx hx y hy=>?_⟩
  obtain⟨j,j1,j2,j3,rfl⟩:=Ef hy
  exact h.lea x hx j j1 j3
 ·intro x hx j j1 j2
  rw [Yca,Bv]at hx
  rcases Yap.mp hx with hx | hx
  ·exact h.lea x hx j (by omega) j2
  ·obtain⟨m,m1,m2,m3,rfl⟩:=Ef hx
   exact ua m j (by omega) j2
 ·intro x hx j j1 j2
  rw [Yca,Bv]at hx
  rcases Yap.mp hx with hx | hx
  ·exact h.leb x hx j j1 j2
  ·obtain⟨m,m1,m2,m3,rfl⟩:=Ef hx
   have:=de (m - ia) (by omega) j j1 j2
   rwa [show ia+(m - ia)=m by omega]at this
theorem MI.chunkB{a b ae:Array Nat}{ia ib k:Nat}(h:MI lt a b ae ia ib)(ub:Kx lt b)(hk:ib+k<=b.size)(de:∀i,i < k->∀j,ia<=j->j < a.size->lt (at0 a j) (at0 b (ib+i))=false):MI lt a b (ae++b.extract ib (ib+k)) ia (ib+k):=by
 refine⟨h.ha,hk,?_,?_,?_,?_,?_⟩
 ·rw [Array.size_append,h.sz,Yeq];omega
 ·rw [Yca,Bv,Ky,<- Ycs]
  exact Yex _ h.perm
 ·rw [Yca,Bv,Yd2]
  refine⟨h.srt,Ra ub _ _,λx hx y hy=>?_⟩
  obtain⟨j,j1,j2,j3,rfl⟩:=Ef hy
  exact h.leb x hx j j1 j3
 ·intro x hx j j1 j2
  rw [Yca,Bv]at hx
  rcases Yap.mp hx with hx | hx
  ·exact h.lea x hx j j1 j2
  ·obtain⟨m,m1,m2,m3,rfl⟩:=Ef hx
   have:=de (m - ib) (by omega) j j1 j2
   rwa [show ib+(m - ib)=m by omega]at this
 ·intro x hx j j1 j2
  rw [Yca,Bv]at hx
  rcases Yap.mp hx with hx | hx
  ·exact h.leb x hx j (by omega) j2
  ·obtain⟨m,m1,m2,m3,rfl⟩:=Ef hx
   exact ub m j (by omega) j2
theorem Me{a:Array Nat}{i:Nat}(h:i < a.size)(ae:Array Nat):ae.push (at0 a i)=ae++a.extract i (i+1):=by
 apply Array.toList_inj.mp
 rw [Ye2,Yca,Bv,Ybt (by simpa using h)]
 simp [at0,Array.getD,h]
theorem MI.pushA{a b ae:Array Nat}{ia ib:Nat}(h:MI lt a b ae ia ib)(ua:Kx lt a)(hk:ia < a.size)(de:∀j,ib<=j->j < b.size->lt (at0 b j) (at0 a ia)=false):MI lt a b (ae.push (at0 a ia)) (ia+1) ib:=by
 rw [Me hk]
 exact h.chunkA ua hk λi hi j j1 j2=>by rw [show ia+i=ia by omega];exact de j j1 j2
theorem MI.pushB{a b ae:Array Nat}{ia ib:Nat}(h:MI lt a b ae ia ib)(ub:Kx lt b)(hk:ib < b.size)(de:∀j,ia<=j->j < a.size->lt (at0 a j) (at0 b ib)=false):MI lt a b (ae.push (at0 b ib)) ia (ib+1):=by
 rw [Me hk]
 exact h.chunkB ub hk λi hi j j1 j2=>by rw [show ib+i=ib by omega];exact de j j1 j2
structure Mgd(lt:Nat->Nat->Bool)(a b R:Array Nat):Prop where
 perm:R.toList.Perm (a.toList++b.toList)
 srt:R.toList.Pairwise λx y=>lt y x=false
theorem MI.end_{a b ae:Array Nat}(h:MI lt a b ae a.size b.size):Mgd lt a b ae:=by
 refine⟨?_,h.srt⟩
 have:=h.perm
 rwa [Yb6 (by simp),Yb6 (by simp)]at this
theorem MI.doneB{a b ae:Array Nat}{ia:Nat}(h:MI lt a b ae ia b.size)(ua:Kx lt a):Mgd lt a b (ae++a.extract ia a.size++b.extract b.size b.size):=by
 have h1:=h.chunkA (k:=a.size - ia) ua (by have:=h.ha;omega) λi _ j j1 j2=>by omega
 rw [show ia+(a.size - ia)=a.size by have:=h.ha;omega]at h1
 have:=h1.end_
 rwa [show b.extract b.size b.size=#[] by simp,Array.append_empty]
theorem MI.doneA{a b ae:Array Nat}{ib:Nat}(h:MI lt a b ae a.size ib)(ub:Kx lt b):Mgd lt a b (ae++a.extract a.size a.size++b.extract ib b.size):=by
 have h1:=h.chunkB (k:=b.size - ib) ub (by have:=h.hb;omega) λi _ j j1 j2=>by omega
 rw [show ib+(b.size - ib)=b.size by have:=h.hb;omega]at h1
 have:=h1.end_
 rwa [show a.extract a.size a.size=#[] by simp,Array.append_empty]
theorem MI.lastA{a b ae:Array Nat}{ia ib:Nat}(h:MI lt a b ae ia ib)(ua:Kx lt a)(ub:Kx lt b)(hl:ia+1=a.size)(de:∀j,j < b.size->lt (at0 a (a.size - 1)) (at0 b j)=false):Mgd lt a b (ae++b.extract ib b.size++a.extract ia a.size):=by
 have h1:=h.chunkB (k:=b.size - ib) ub (by have:=h.hb;omega) λi _ j j1 j2=>by
  rw [show j=a.size - 1 by omega];exact de _ (by omega)
 rw [show ib+(b.size - ib)=b.size by have:=h.hb;omega]at h1
 have h2:=h1.chunkA (k:=1) ua (by omega) λi _ j j1 j2=>by omega
 rw [hl]at h2
 exact h2.end_
theorem mpE(ae a:Array Nat)(i k:Nat):ae.map (kas_item it)++(a.map (kas_item it)).extract i k=(ae++a.extract i k).map (kas_item it):=by
 rw [Yfc,Ydh]
theorem mpP(ae:Array Nat)(x:Nat):(ae.map (kas_item it)).push (kas_item it x)=(ae.push x).map (kas_item it):=Array.map_push.symm
abbrev LoS:=Option (Array Keyed)×Array Keyed×Nat×Nat×Nat×Nat×Nat
abbrev B4(st:SortSt)(g:Nat):SortSt:=SortSt.mk' (kindOf st) (arrOf st) (pendingOf st) g (failedOf st)
def Zd(a b ae:Array Keyed)(ia ib mg ac bc:Nat):StateT SortSt Sem (ForInStep LoS) :=
 elem' a ia >>= λy =>
  if(ia+1+1==a.size)=true then pure (ForInStep.done (some (ae.push y++b.extract ib b.size++a.extract (ia+1) a.size),ae.push y,ia+1,ib,mg,ac,bc))
  else if(decide (ac < 7) && decide (bc < 7))=true then pure (ForInStep.done (none,ae.push y,ia+1,ib,mg,ac,bc))
  else pure (ForInStep.yield (none,ae.push y,ia+1,ib,mg,ac,bc))
def Ze(a b ae:Array Keyed)(ia ib mg ac bc:Nat):StateT SortSt Sem (ForInStep LoS) :=
 elem' b ib >>= λy =>
  if(ib+1==b.size)=true then pure (ForInStep.done (some (ae.push y++a.extract ia a.size++b.extract (ib+1) b.size),ae.push y,ia,ib+1,mg,ac,bc))
  else elem' a ia >>= λz=>gallop' true z b (ib+1) (b.size - (ib+1)) 0 >>= λx =>
   match x with
   | some k=>if k > 0 then
     (if(ib+1+k==b.size)=true then pure (ForInStep.done (some (ae.push y++b.extract (ib+1) (ib+1+k)++a.extract ia a.size++b.extract (ib+1+k) b.size),ae.push y++b.extract (ib+1) (ib+1+k),ia,ib+1+k,mg,ac,k))
     else Zd a b (ae.push y++b.extract (ib+1) (ib+1+k)) ia (ib+1+k) mg ac k)
    else Zd a b (ae.push y) ia (ib+1) mg ac k
   | _=>pure (ForInStep.done (some (ae.push y++a.extract ia a.size++b.extract (ib+1) b.size),ae.push y,ia,ib+1,mg,ac,bc))
def Qdp(a b ae:Array Keyed)(ia ib mg ac bc:Nat):StateT SortSt Sem (ForInStep LoS) :=
 setMinGallop' mg >>= λ_=>elem' b ib >>= λy=>gallop' false y a ia (a.size - ia) 0 >>= λx =>
  match x with
  | some k=>if k > 0 then
    (if(ia+k+1==a.size)=true then pure (ForInStep.done (some (ae++a.extract ia (ia+k)++b.extract ib b.size++a.extract (ia+k) a.size),ae++a.extract ia (ia+k),ia+k,ib,mg,k,bc))
    else if(ia+k==a.size)=true then pure (ForInStep.done (some (ae++a.extract ia (ia+k)++a.extract (ia+k) a.size++b.extract ib b.size),ae++a.extract ia (ia+k),ia+k,ib,mg,k,bc))
    else Ze a b (ae++a.extract ia (ia+k)) (ia+k) ib mg k bc)
   else Ze a b ae ia ib mg k bc
  | _=>pure (ForInStep.done (some (ae++a.extract ia a.size++b.extract ib b.size),ae,ia,ib,mg,ac,bc))
structure Mid(lt:Nat->Nat->Bool)(it:Array Keyed)(a b:Array Nat)(q:Nat)(o:Array Keyed)(ia ib:Nat):Prop where
 m:∃ae:Array Nat,o=ae.map (kas_item it)/\MI lt a b ae ia ib
 ha:ia+1 < a.size
 hb:ib < b.size
 q:q<=ia+ib
structure MPre(n:Nat)(lt:Nat->Nat->Bool)(a b:Array Nat):Prop where
 na:0 < a.size
 nb:0 < b.size
 ia:In n a
 ib:In n b
 ua:Kx lt a
 ub:Kx lt b
 h0:lt (at0 b 0) (at0 a 0)=true
 hl:∀j,j < b.size->lt (at0 b j) (at0 a (a.size - 1))=true
theorem MPre.le{a b:Array Nat}(O:WeakOrd n lt)(p:MPre n lt a b):∀j,j < b.size->lt (at0 a (a.size - 1)) (at0 b j)=false:=λj hj=>O.asy _ _ (p.ib j hj) (p.ia _ (by have:=p.na;omega)) (p.hl j hj)
section
variable {a b:Array Nat}{st:SortSt}{Qd Qy:LoS->SortSt->Prop}{ae:Array Nat}{ia ib mg ac bc:Nat}
theorem Qbb(O:WeakOrd n lt)(p:MPre n lt a b)(M:MI lt a b ae ia ib)(ha:ia+1 < a.size)(hb:ib < b.size)(de:∀j,ib<=j->j < b.size->lt (at0 b j) (at0 a ia)=false)
  (fin:∀R c,Mgd lt a b R->c.1=some (R.map (kas_item it))->Qd c st) (go:∀o i j m x y,Mid lt it a b (ia+ib+1) o i j->Qd (none,o,i,j,m,x,y) st/\Qy (none,o,i,j,m,x,y) st) :
  wpS (model prog w) A E s (Zd (a.map (kas_item it)) (b.map (kas_item it)) (ae.map (kas_item it)) ia ib mg ac bc) (λr ai=>match r with | .done c'=>Qd c' ai | .yield c'=>Qy c' ai) st:=by
 unfold Zd
 refine Yai (Bn (by omega) ?_)
 have M1:=M.pushA p.ua (by omega) de
 simp only [Array.size_map,mpP,mpE]
 by_cases e:ia+1+1=a.size
 ·rw [Yak (by simpa using e)]
  exact Yao (fin _ _ (M1.lastA p.ua p.ub e (p.le O)) rfl)
 ·rw [Yah (by simpa using e)]
  have g:=go _ _ _ mg ac bc (⟨⟨_,rfl,M1⟩,by omega,hb,by omega⟩:Mid lt it a b (ia+ib+1) _ (ia+1) ib)
  split
  ·exact Yao g.1
  ·exact Yao g.2
theorem Qbc(O:WeakOrd n lt)(hc:Cmp prog w A κ it n lt s)(hk:kindOf st=κ)(p:MPre n lt a b)(M:MI lt a b ae ia ib)(ha:ia+1 < a.size)(hb:ib < b.size)(de:∀j,ia<=j->j < a.size->lt (at0 a j) (at0 b ib)=false)
  (fin:∀R c,Mgd lt a b R->c.1=some (R.map (kas_item it))->Qd c st) (go:∀o i j m x y,Mid lt it a b (ia+ib+1) o i j->Qd (none,o,i,j,m,x,y) st/\Qy (none,o,i,j,m,x,y) st) :
  wpS (model prog w) A E s (Ze (a.map (kas_item it)) (b.map (kas_item it)) (ae.map (kas_item it)) ia ib mg ac bc) (λr ai=>match r with | .done c'=>Qd c' ai | .yield c'=>Qy c' ai) st:=by
 unfold Ze
 refine Yai (Bn hb ?_)
 have M1:=M.pushB p.ub hb de
 have qr:∀k,∀o i j m x y,Mid lt it a b (ia+(ib+1+k)+1) o i j->Qd (none,o,i,j,m,x,y) st/\Qy (none,o,i,j,m,x,y) st:=λk o i j m x y h=>go o i j m x y ⟨h.m,h.ha,h.hb,by have:=h.q;omega⟩
 simp only [Array.size_map,mpP]
 by_cases e:ib+1=b.size
 ·rw [Yak (by simpa using e)]
  refine Yao (fin _ _ (show Mgd lt a b (ae.push (at0 b ib)++a.extract ia a.size++b.extract (ib+1) b.size) from ?_) (by simp only [mpE]))
  have:=(show MI lt a b (ae.push (at0 b ib)) ia b.size by rw [<- e];exact M1).doneB p.ua
  rw [e];exact this
 ·rw [Yah (by simpa using e)]
  refine Yai (Bn (by omega) ?_)
  refine Yai (Qdo O hc hk (by omega) (by omega) p.ib (p.ia ia (by omega)) (λi j h1 h2 h3=>p.ub i j h2 (by omega)) λk k1 k2 k3=>?_)
  dsimp only
  have M2:=M1.chunkB (k:=k) p.ub (by omega) λi hi j j1 j2=>by
   have h1:=k2 i hi
   rcases Ya0 j1 with rfl | j1
   ·exact O.asy _ _ (p.ib _ (by omega)) (p.ia _ j2) h1
   ·exact O.tr _ _ _ (p.ib _ (by omega)) (p.ia ia (by omega)) (p.ia _ j2) (O.asy _ _ (p.ib _ (by omega)) (p.ia _ (by omega)) h1) (p.ua ia j j1 j2)
  by_cases kp:k > 0
  ·rw [Yak kp]
   simp only [mpE]
   by_cases e2:ib+1+k=b.size
   ·rw [Yak (by simpa using e2)]
    refine Yao (fin _ _ (show Mgd lt a b (ae.push (at0 b ib)++b.extract (ib+1) (ib+1+k)++a.extract ia a.size++b.extract (ib+1+k) b.size) from ?_) rfl)
    rw [e2]at M2 ⊢
    exact M2.doneB p.ua
   ·rw [Yah (by simpa using e2)]
    refine Qbb O p M2 ha (by omega) (λj j1 j2=>?_) fin (qr k)
    have:=k3 (j - (ib+1)) (by omega) (by omega)
    rwa [show ib+1+(j - (ib+1))=j by omega]at this
  ·rw [Yah kp]
   refine Qbb O p M1 ha (by omega) (λj j1 j2=>?_) fin (qr 0)
   have:=k3 (j - (ib+1)) (by omega) (by omega)
   rwa [show ib+1+(j - (ib+1))=j by omega]at this
theorem Qg2(O:WeakOrd n lt)(hc:Cmp prog w A κ it n lt s)(hk:kindOf st=κ)(p:MPre n lt a b)(M:MI lt a b ae ia ib)(ha:ia+1 < a.size)(hb:ib < b.size)
  (fin:∀R c,Mgd lt a b R->c.1=some (R.map (kas_item it))->Qd c (B4 st mg)) (go:∀o i j m x y,Mid lt it a b (ia+ib+1) o i j->Qd (none,o,i,j,m,x,y) (B4 st mg)/\Qy (none,o,i,j,m,x,y) (B4 st mg)) :
  wpS (model prog w) A E s (Qdp (a.map (kas_item it)) (b.map (kas_item it)) (ae.map (kas_item it)) ia ib mg ac bc) (λr ai=>match r with | .done c'=>Qd c' ai | .yield c'=>Qy c' ai) st:=by
 unfold Qdp
 rw [Cg]
 refine Yai (Yc7 (Yai (Bn hb ?_)))
 simp only [Array.size_map]
 refine Yai (Qdn O hc (st:=B4 st mg) hk (by omega) (by omega) p.ia (p.ib ib hb) (λi j h1 h2 h3=>p.ua i j h2 (by omega)) λk k1 k2 k3=>?_)
 dsimp only
 have M1:=M.chunkA (k:=k) p.ua (by omega) λi hi j j1 j2=>by
  have h1:=k2 i hi
  rcases Ya0 j1 with rfl | j1
  ·exact h1
  ·exact O.tr _ _ _ (p.ia _ (by omega)) (p.ib ib hb) (p.ib _ j2) h1 (p.ub ib j j1 j2)
 have low:∀j,ia+k<=j->j < a.size->lt (at0 a j) (at0 b ib)=false:=λj j1 j2=>by
  have:=k3 (j - ia) (by omega) (by omega)
  rw [show ia+(j - ia)=j by omega]at this
  exact O.asy _ _ (p.ib ib hb) (p.ia j j2) this
 have qr:∀o i j m x y,Mid lt it a b (ia+k+ib+1) o i j->Qd (none,o,i,j,m,x,y) (B4 st mg)/\Qy (none,o,i,j,m,x,y) (B4 st mg):=λo i j m x y h=>go o i j m x y ⟨h.m,h.ha,h.hb,by have:=h.q;omega⟩
 by_cases kp:k > 0
 ·rw [Yak kp]
  simp only [mpE]
  by_cases e1:ia+k+1=a.size
  ·rw [Yak (by simpa using e1)]
   exact Yao (fin _ _ (M1.lastA p.ua p.ub e1 (p.le O)) rfl)
  ·rw [Yah (by simpa using e1)]
   by_cases e2:ia+k=a.size
   ·rw [Yak (by simpa using e2)]
    refine Yao (fin _ _ (show Mgd lt a b (ae++a.extract ia (ia+k)++a.extract (ia+k) a.size++b.extract ib b.size) from ?_) rfl)
    rw [e2]at M1 ⊢
    exact M1.doneA p.ub
   ·rw [Yah (by simpa using e2)]
    exact Qbc O hc (st:=B4 st mg) hk p M1 (by omega) hb low fin qr
 ·rw [Yah kp]
  have k0:k=0:=by omega
  subst k0
  exact Qbc O hc (st:=B4 st mg) hk p M ha hb low fin qr
end
theorem MI.zero(a b:Array Nat):MI lt a b #[] 0 0:=⟨Ya6 _,Ya6 _,rfl,by simp,.nil,λ_ h=>by simp at h,λ_ h=>by simp at h⟩
theorem MPre.first{a b:Array Nat}(O:WeakOrd n lt)(p:MPre n lt a b):MI lt a b #[at0 b 0] 0 1:=by
 refine(MI.zero a b).pushB p.ub p.nb λj _ j2=>?_
 rcases Yer j with rfl | j1
 ·exact O.asy _ _ (p.ib 0 p.nb) (p.ia 0 j2) p.h0
 ·exact O.tr _ _ _ (p.ib 0 p.nb) (p.ia 0 p.na) (p.ia j j2) (O.asy _ _ (p.ib 0 p.nb) (p.ia 0 p.na) p.h0) (p.ua 0 j j1 j2)
theorem Ti(O:WeakOrd n lt)(hc:Cmp prog w A κ it n lt s){a b:Array Nat}{st:SortSt}(hk:kindOf st=κ)(p:MPre n lt a b){Q:Array Keyed->SortSt->Prop}(h:∀R g,Mgd lt a b R->Q (R.map (kas_item it)) (B4 st g)) :
  wpS (model prog w) A E s (mergeLo' (a.map (kas_item it)) (b.map (kas_item it))) Q st:=by
 rw [Nk]
 dsimp only
 have M0:=p.first O
 have na:=p.na
 have nb:=p.nb
 have e0:#[kas_item it (b.getD 0 0)]=(#[at0 b 0]:Array Nat).map (kas_item it):=by simp
 refine Yai (wpS_lift (Yb8 ⟨rfl,?_⟩))
 refine Yai (Bn nb ?_)
 rw [e0]
 by_cases e1:1=b.size
 ·rw [Yak (by simpa using e1)]
  simp only [Array.size_map,mpE]
  refine Yao (h _ (gallopOf st) ?_)
  have:=(show MI lt a b #[at0 b 0] 0 b.size by rw [<- e1];exact M0).doneB p.ua
  rw [<- e1]at this ⊢
  exact this
 rw [Yah (by simpa using e1)]
 by_cases e2:0+1=a.size
 ·rw [Yak (by simpa using e2)]
  simp only [Array.size_map,mpE]
  exact Yao (h _ (gallopOf st) (M0.lastA p.ua p.ub e2 (p.le O)))
 rw [Yah (by simpa using e2)]
 refine Yai (Yfl ?_)
 have sa:(a.map (kas_item it)).size=a.size:=Ydt ..
 have sb:(b.map (kas_item it)).size=b.size:=Ydt ..
 refine Yai (Ycq (Yby (I:=λx c ai=>(∃g,ai=B4 st g)/\c.1=none/\Mid lt it a b (1+x) c.2.1 c.2.2.1 c.2.2.2.1) (Q:=λc ai=>(∃g,ai=B4 st g)/\∃R,c.1=some (R.map (kas_item it))/\Mgd lt a b R) ?_ ?_ ⟨⟨gallopOf st,rfl⟩,rfl,⟨_,rfl,M0⟩,by show 0+1 < _;omega,by show 1 < _;omega,by show 1+0<=0+1;omega⟩) ?_)
 ·rintro x ⟨c1,o,ia,ib,mg⟩ ai _ hx ⟨⟨g,rfl⟩,rfl,⟨ae,eo,M⟩,ha,hb,hq⟩
  dsimp only at eo M ha hb hq ⊢
  subst eo
  refine Yai (Ycq (Yby (I:=λx c ai=>ai=B4 st g/\c.1=none/\Mid lt it a b (ia+ib+x) c.2.1 c.2.2.1 c.2.2.2.1) (Q:=λc ai=>ai=B4 st g/\((∃R,c.1=some (R.map (kas_item it))/\Mgd lt a b R)\/(c.1=none/\Mid lt it a b (ia+ib+1) c.2.1 c.2.2.1 c.2.2.2.1))) ?_ ?_ ⟨rfl,rfl,⟨ae,rfl,M⟩,ha,hb,Yaf _⟩) ?_)
  ·clear M ha hb
   rintro y ⟨c1,o,ja,jb,ac,bc⟩ ai _ hy ⟨rfl,rfl,⟨ae,eo,M⟩,ha,hb,gz⟩
   dsimp only at eo M ha hb gz ⊢
   subst eo
   refine Yai (Bn hb (Yai (Bn (by omega) (Yai (We hc (st:=B4 st g) hk (p.ib _ hb) (p.ia _ (by omega)) ?_)))))
   dsimp only
   cases e:lt (b.getD jb 0) (a.getD ja 0) with
   | true =>
    rw [Yak rfl]
    refine Yai (Bn hb ?_)
    have M1:=M.pushB p.ub hb λj j1 j2=>by
     have e':=O.asy _ _ (p.ib _ hb) (p.ia ja (by omega)) e
     rcases Ya0 j1 with rfl | j1
     ·exact e'
     ·exact O.tr _ _ _ (p.ib _ hb) (p.ia ja (by omega)) (p.ia _ j2) e' (p.ua ja j j1 j2)
    simp only [mpP]
    by_cases e3:jb+1=b.size
    ·rw [Yak (by simpa using e3)]
     simp only [mpE,Array.size_map]
     refine Yao ⟨rfl,.inl ⟨_,rfl,?_⟩⟩
     rw [e3]at M1 ⊢
     exact M1.doneB p.ua
    ·rw [Yah (by simpa using e3)]
     by_cases e4:bc+1>=mg <;> simp only [e4,if_true,if_false]
     ·exact Yao ⟨rfl,.inr ⟨rfl,⟨_,rfl,M1⟩,ha,by show jb+1 < _;omega,by show _<=ja+(jb+1);omega⟩⟩
     ·exact Yao ⟨rfl,rfl,⟨_,rfl,M1⟩,ha,by show jb+1 < _;omega,by show _<=ja+(jb+1);omega⟩
   | false =>
    rw [Yah Yad]
    refine Yai (Bn (by omega) ?_)
    have M1:=M.pushA p.ua (by omega) λj j1 j2=>by
     rcases Ya0 j1 with rfl | j1
     ·exact e
     ·exact O.tr _ _ _ (p.ia ja (by omega)) (p.ib _ hb) (p.ib _ j2) e (p.ub jb j j1 j2)
    simp only [mpP]
    by_cases e3:ja+1+1=a.size
    ·rw [Yak (by simpa using e3)]
     simp only [mpE,Array.size_map]
     exact Yao ⟨rfl,.inl ⟨_,rfl,M1.lastA p.ua p.ub e3 (p.le O)⟩⟩
    ·rw [Yah (by simpa using e3)]
     by_cases e4:ac+1>=mg <;> simp only [e4,if_true,if_false]
     ·exact Yao ⟨rfl,.inr ⟨rfl,⟨_,rfl,M1⟩,by show ja+1+1 < _;omega,hb,by show _<=ja+1+jb;omega⟩⟩
     ·exact Yao ⟨rfl,rfl,⟨_,rfl,M1⟩,by show ja+1+1 < _;omega,hb,by show _<=ja+1+jb;omega⟩
  ·rintro c ai ⟨_,_,⟨ae,_,M⟩,ha',i4,gz⟩
   omega
  ·rintro⟨c1,o,ja,jb,ac,bc⟩ ai ⟨rfl,⟨R,rfl,hR⟩ | ⟨rfl,hM⟩⟩
   ·exact Yao ⟨⟨g,rfl⟩,R,rfl,hR⟩
   ·dsimp only at hM ⊢
    refine Yai (wpS_lift (Yb8 ⟨rfl,?_⟩))
    refine Yai (Ycq (Yby (I:=λx c ai=>(∃g,ai=B4 st g)/\c.1=none/\Mid lt it a b (ia+ib+1+x) c.2.1 c.2.2.1 c.2.2.2.1) (Q:=λc ai=>(∃g,ai=B4 st g)/\((∃R,c.1=some (R.map (kas_item it))/\Mgd lt a b R)\/(c.1=none/\Mid lt it a b (ia+ib+1) c.2.1 c.2.2.1 c.2.2.2.1))) ?_ ?_ ⟨⟨g,rfl⟩,rfl,hM⟩) ?_)
    ·clear hM
     rintro y ⟨c1,o,ja,jb,mg,ac,bc⟩ ai _ hy ⟨⟨g,rfl⟩,rfl,⟨ae,eo,M⟩,ha,hb,gz⟩
     dsimp only at eo M ha hb gz ⊢
     subst eo
     have key:∀mg,wpS (model prog w) A E s (Qdp (a.map (kas_item it)) (b.map (kas_item it)) (ae.map (kas_item it)) ja jb mg ac bc) (λr ai=>match r with
       | .done c=>(∃g,ai=B4 st g)/\((∃R,c.1=some (R.map (kas_item it))/\Mgd lt a b R)\/(c.1=none/\Mid lt it a b (ia+ib+1) c.2.1 c.2.2.1 c.2.2.2.1))
       | .yield c=>(∃g,ai=B4 st g)/\c.1=none/\Mid lt it a b (ia+ib+1+(y+1)) c.2.1 c.2.2.1 c.2.2.2.1) (B4 st g):=λmg =>
      Qg2 (Qd:=λc ai=>(∃g,ai=B4 st g)/\((∃R,c.1=some (R.map (kas_item it))/\Mgd lt a b R)\/(c.1=none/\Mid lt it a b (ia+ib+1) c.2.1 c.2.2.1 c.2.2.2.1)))
       (Qy:=λc ai=>(∃g,ai=B4 st g)/\c.1=none/\Mid lt it a b (ia+ib+1+(y+1)) c.2.1 c.2.2.1 c.2.2.2.1) O hc (st:=B4 st g) hk p M ha hb (λR c hR e=>⟨⟨mg,rfl⟩,.inl ⟨R,e,hR⟩⟩)
       λo i j m x y hm=>⟨⟨⟨mg,rfl⟩,.inr ⟨rfl,hm.m,hm.ha,hm.hb,by have:=hm.q;show _<=i+j;omega⟩⟩,⟨mg,rfl⟩,rfl,hm.m,hm.ha,hm.hb,by have:=hm.q;show _<=i+j;omega⟩
     by_cases e4:mg > 1
     ·rw [Yak e4]
      refine Ycq (key (mg - 1)) ?_
      rintro(c | c) ai hh <;> exact hh
     ·rw [Yah e4]
      refine Ycq (key mg) ?_
      rintro(c | c) ai hh <;> exact hh
    ·rintro c ai ⟨⟨g,rfl⟩,h1,h2⟩
     exact⟨⟨g,rfl⟩,.inr ⟨h1,h2.m,h2.ha,h2.hb,by have:=h2.q;omega⟩⟩
    ·rintro⟨c1,o,ja,jb,mg,ac,bc⟩ ai ⟨⟨g,rfl⟩,⟨R,rfl,hR⟩ | ⟨rfl,hM⟩⟩
     ·exact Yao ⟨⟨g,rfl⟩,R,rfl,hR⟩
     ·dsimp only at hM ⊢
      rw [Cg]
      refine Yai (Yc7 (Yao ⟨⟨_,rfl⟩,rfl,hM.m,hM.ha,hM.hb,?_⟩))
      have:=hM.q
      show _<=ja+jb
      omega
 ·rintro c ai ⟨_,_,⟨ae,_,M⟩,ha',i4,gz⟩
  omega
 ·rintro⟨c1,o⟩ ai ⟨⟨g,rfl⟩,R,rfl,hR⟩
  exact Yao (h R g hR)
end
theorem Nl(a b:Array Keyed):mergeHi' a b=(do
 rule "list.sort.merge-hi"
 let fk:=a.size+b.size
 let done (ae:Array Keyed) (na nb:Nat):=a.extract 0 na++b.extract 0 nb++ae.reverse
 let df (ae:Array Keyed) (na nb:Nat):=b.extract 0 nb++a.extract 0 na++ae.reverse
 let mut na:=a.size - 1
 let mut nb:=b.size
 let mut ae:Array Keyed:=#[<- elem' a na]
 if na==0 then return done ae na nb
 if nb==1 then return df ae na nb
 let mut ah:=gallopOf (<- get)
 for _ in [0:fk] do
  let mut bh:=0
  let mut bg:=0
  for _ in [0:fk] do
   let some aWins <- lt' (<- elem' b (nb - 1)) (<- elem' a (na - 1)) | return done ae na nb
   if aWins then
    na:=na - 1;ae:=ae.push (<- elem' a na);bh:=bh+1;bg:=0
    if na==0 then return done ae na nb
    if bh>=ah then break
   else
    nb:=nb - 1;ae:=ae.push (<- elem' b nb);bg:=bg+1;bh:=0
    if nb==1 then return df ae na nb
    if bg>=ah then break
  rule "list.sort.gallop"
  ah:=ah+1
  for _ in [0:fk] do
   if ah > 1 then ah:=ah - 1
   setMinGallop' ah
   let some at_ <- gallop' false (<- elem' b (nb - 1)) a 0 na (na - 1) | return done ae na nb
   let k:=na - at_
   bh:=k
   if k > 0 then
    ae:=ae++(a.extract at_ na).reverse;na:=at_
    if na==0 then return done ae na nb
   nb:=nb - 1;ae:=ae.push (<- elem' b nb)
   if nb==1 then return df ae na nb
   let some at_ <- gallop' true (<- elem' a (na - 1)) b 0 nb (nb - 1) | return done ae na nb
   let k:=nb - at_
   bg:=k
   if k > 0 then
    ae:=ae++(b.extract at_ nb).reverse;nb:=at_
    if nb==1 then return df ae na nb
    if nb==0 then return done ae na nb
   na:=na - 1;ae:=ae.push (<- elem' a na)
   if na==0 then return done ae na nb
   if bh < 7 && bg < 7 then break
  ah:=ah+1
  setMinGallop' ah
 unsupported "internal:list.sort.merge-bound"):=rfl
section
variable {prog:Program}{w:World}{A:Around}{E:Value->Shared->Prop}{s:Shared}{κ:SortKind}{it:Array Keyed}{n:Nat}{lt:Nat->Nat->Bool}
abbrev flp(lt:Nat->Nat->Bool):Nat->Nat->Bool:=λx y=>lt y x
theorem WeakOrd.fl(O:WeakOrd n lt):WeakOrd n (flp lt):=⟨λa b c ha hb hc h1 h2=>O.tr c b a hc hb ha h2 h1,λa b ha hb h=>O.asy b a hb ha h⟩
theorem Ci{p:Array Nat}{i:Nat}(h:i < p.size):at0 p.reverse i=at0 p (p.size - 1 - i):=by
 simp [at0,Array.getD,h,show p.size - 1 - i < p.size by omega]
theorem Mf(p:Array Nat){i j:Nat}(h:i<=j)(hj:j<=p.size):p.reverse.extract (p.size - j) (p.size - j+(j - i))=(p.extract i j).reverse:=by
 apply Array.toList_inj.mp
 rw [Bv,Ycn,Ycn,show j=i+(j - i) by omega,Bv,show i+(j - i)=j by omega]
 apply Yd0
 intro k
 by_cases hk:k < j - i
 ·rw [List.getElem?_take_of_lt hk,List.getElem?_drop,List.getElem?_reverse (by simp;omega),List.getElem?_reverse (by simp;omega),List.getElem?_take_of_lt (by simp;omega),List.getElem?_drop]
  congr 1
  simp;omega
 ·rw [List.getElem?_eq_none (by simp;omega),List.getElem?_eq_none (by simp;omega)]
theorem Hu(p:Array Nat){j:Nat}(hj:j<=p.size):p.reverse.extract (p.size - j) p.reverse.size=(p.extract 0 j).reverse:=by
 rw [<- Mf p (Ya6 j) hj,Ybf]
 congr 1;omega
theorem MPre.fl{a b:Array Nat}(O:WeakOrd n lt)(p:MPre n lt a b):MPre n (flp lt) b.reverse a.reverse:=by
 have na:=p.na
 have nb:=p.nb
 refine⟨by simpa using nb,by simpa using na,λi hi=>?_,λi hi=>?_,λi j fh hj=>?_,λi j fh hj=>?_,?_,λj hj=>?_⟩
 ·rw [Ybf]at hi;rw [Ci hi];exact p.ib _ (by omega)
 ·rw [Ybf]at hi;rw [Ci hi];exact p.ia _ (by omega)
 ·rw [Ybf]at hj
  show lt (at0 b.reverse i) (at0 b.reverse j)=false
  rw [Ci hj,Ci (by omega)]
  exact p.ub _ _ (by omega) (by omega)
 ·rw [Ybf]at hj
  show lt (at0 a.reverse i) (at0 a.reverse j)=false
  rw [Ci hj,Ci (by omega)]
  exact p.ua _ _ (by omega) (by omega)
 ·show lt (at0 b.reverse 0) (at0 a.reverse 0)=true
  rw [Ci na,Ci nb]
  exact p.hl _ (by omega)
 ·rw [Ybf]at hj
  show lt (at0 b.reverse (b.reverse.size - 1)) (at0 a.reverse j)=true
  rw [Ybf,Ci hj,Ci (by omega),show b.size - 1 - (b.size - 1)=0 by omega]
  rcases Yer (a.size - 1 - j) with e | e
  ·rw [e];exact p.h0
  ·exact O.low (p.ib 0 nb) (p.ia 0 na) (p.ia _ (by omega)) p.h0 (p.ua 0 _ e (by omega))
theorem Mgd.fl{a b R:Array Nat}(h:Mgd (flp lt) b.reverse a.reverse R):Mgd lt a b R.reverse:=by
 refine⟨?_,?_⟩
 ·rw [Ycn]
  refine(List.reverse_perm _).trans (h.perm.trans ?_)
  rw [Ycn,Ycn]
  exact((List.reverse_perm _).append (List.reverse_perm _)).trans List.perm_append_comm
 ·rw [Ycn,List.pairwise_reverse]
  exact h.srt
structure HM(lt:Nat->Nat->Bool)(a b ae:Array Nat)(na nb:Nat):Prop where
 ha:na<=a.size
 hb:nb<=b.size
 m:MI (flp lt) b.reverse a.reverse ae (b.size - nb) (a.size - na)
section
variable {a b ae:Array Nat}{na nb:Nat}
theorem Kx.fl(h:Kx lt a):Kx (flp lt) a.reverse:=λi j fh hj=>by
 rw [Ybf]at hj
 show lt (at0 a.reverse i) (at0 a.reverse j)=false
 rw [Ci hj,Ci (by omega)]
 exact h _ _ (by omega) (by omega)
theorem HM.chunkA(h:HM lt a b ae na nb)(ua:Kx lt a){k:Nat}(hk:k<=na)(de:∀i,k<=i->i < na->∀j,j < nb->lt (at0 a i) (at0 b j)=false):HM lt a b (ae++(a.extract k na).reverse) k nb:=by
 have h1:=h.ha
 have h2:=h.hb
 refine⟨by omega,h2,?_⟩
 have:=h.m.chunkB (k:=na - k) ua.fl (by rw [Ybf];omega) λi hi j j1 j2=>by
  rw [Ybf]at j2
  show lt (at0 a.reverse _) (at0 b.reverse j)=false
  rw [Ci j2,Ci (by omega)]
  exact de _ (by omega) (by omega) _ (by omega)
 rw [Mf a hk h1,show a.size - na+(na - k)=a.size - k by omega]at this
 exact this
theorem HM.chunkB(h:HM lt a b ae na nb)(ub:Kx lt b){k:Nat}(hk:k<=nb)(de:∀i,k<=i->i < nb->∀j,j < na->lt (at0 b i) (at0 a j)=false):HM lt a b (ae++(b.extract k nb).reverse) na k:=by
 have h1:=h.ha
 have h2:=h.hb
 refine⟨h1,by omega,?_⟩
 have:=h.m.chunkA (k:=nb - k) ub.fl (by rw [Ybf];omega) λi hi j j1 j2=>by
  rw [Ybf]at j2
  show lt (at0 b.reverse _) (at0 a.reverse j)=false
  rw [Ci j2,Ci (by omega)]
  exact de _ (by omega) (by omega) _ (by omega)
 rw [Mf b hk h2,show b.size - nb+(nb - k)=b.size - k by omega]at this
 exact this
theorem Rb{p:Array Nat}{i:Nat}(h:i < p.size)(ae:Array Nat):ae.push (at0 p i)=ae++(p.extract i (i+1)).reverse:=by
 rw [Me h]
 congr 1
 apply Array.toList_inj.mp
 rw [Ycn,Bv,Ybt (by simpa using h)]
 simp
theorem HM.pushA(h:HM lt a b ae na nb)(ua:Kx lt a)(h0:0 < na)(de:∀j,j < nb->lt (at0 a (na - 1)) (at0 b j)=false):HM lt a b (ae.push (at0 a (na - 1))) (na - 1) nb:=by
 have h1:=h.ha
 rw [Rb (show na - 1 < a.size by omega),show na - 1+1=na by omega]
 exact h.chunkA ua (by omega) λi i1 i2 j hj=>by rw [show i=na - 1 by omega];exact de j hj
theorem HM.pushB(h:HM lt a b ae na nb)(ub:Kx lt b)(h0:0 < nb)(de:∀j,j < na->lt (at0 b (nb - 1)) (at0 a j)=false):HM lt a b (ae.push (at0 b (nb - 1))) na (nb - 1):=by
 have h1:=h.hb
 rw [Rb (show nb - 1 < b.size by omega),show nb - 1+1=nb by omega]
 exact h.chunkB ub (by omega) λi i1 i2 j hj=>by rw [show i=nb - 1 by omega];exact de j hj
theorem HM.doneA(h:HM lt a b ae 0 nb)(ub:Kx lt b):Mgd lt a b (a.extract 0 0++b.extract 0 nb++ae.reverse):=by
 have h2:=h.hb
 have:=(MI.doneB (a:=b.reverse) (b:=a.reverse) (by rw [Ybf];exact h.m) ub.fl).fl
 rw [Hu b h2,Yc1,Yc1,Ydx]at this
 rw [show(a.reverse.extract a.reverse.size a.reverse.size).reverse=a.extract 0 0 by simp,<- Yej]at this
 exact this
theorem HM.doneB(h:HM lt a b ae na 0)(ua:Kx lt a):Mgd lt a b (a.extract 0 na++b.extract 0 0++ae.reverse):=by
 have h1:=h.ha
 have:=(MI.doneA (a:=b.reverse) (b:=a.reverse) (by rw [Ybf];exact h.m) ua.fl).fl
 rw [Hu a h1,Yc1,Yc1,Ydx]at this
 rw [show(b.reverse.extract b.reverse.size b.reverse.size).reverse=b.extract 0 0 by simp,<- Yej]at this
 exact this
theorem HM.firstB(O:WeakOrd n lt)(p:MPre n lt a b)(h:HM lt a b ae na 1):Mgd lt a b (b.extract 0 1++a.extract 0 na++ae.reverse):=by
 have h1:=h.ha
 have h2:=h.hb
 have:=(h.m.lastA p.ub.fl p.ua.fl (by rw [Ybf];omega) ((p.fl O).le O.fl)).fl
 rw [Hu a h1,Hu b h2,Yc1,Yc1,Ydx,Ydx,<- Yej]at this
 exact this
end
theorem mpR(ae a:Array Nat)(i k:Nat):ae.map (kas_item it)++((a.map (kas_item it)).extract i k).reverse=(ae++(a.extract i k).reverse).map (kas_item it):=by
 rw [Yfc,Array.map_reverse,Ydh]
theorem mp3(x y z:Array Nat)(i j k l:Nat):(x.map (kas_item it)).extract i j++(y.map (kas_item it)).extract k l++(z.map (kas_item it)).reverse=(x.extract i j++y.extract k l++z.reverse).map (kas_item it):=by
 rw [Yfc,Yfc,Array.map_reverse,Ydh,Ydh]
abbrev HiS:=Option (Array Keyed)×Nat×Nat×Array Keyed×Nat×Nat×Nat
def Zf(a b ae:Array Keyed)(na nb mg ac bc:Nat):StateT SortSt Sem (ForInStep HiS) :=
 elem' a (na - 1) >>= λy =>
  if(na - 1==0)=true then pure (ForInStep.done (some (a.extract 0 (na - 1)++b.extract 0 nb++(ae.push y).reverse),na - 1,nb,ae.push y,mg,ac,bc))
  else if(decide (ac < 7) && decide (bc < 7))=true then pure (ForInStep.done (none,na - 1,nb,ae.push y,mg,ac,bc))
  else pure (ForInStep.yield (none,na - 1,nb,ae.push y,mg,ac,bc))
def Zg(a b ae:Array Keyed)(na nb mg ac bc:Nat):StateT SortSt Sem (ForInStep HiS) :=
 elem' b (nb - 1) >>= λy =>
  if(nb - 1==1)=true then pure (ForInStep.done (some (b.extract 0 (nb - 1)++a.extract 0 na++(ae.push y).reverse),na,nb - 1,ae.push y,mg,ac,bc))
  else elem' a (na - 1) >>= λz=>gallop' true z b 0 (nb - 1) (nb - 1 - 1) >>= λx =>
   match x with
   | some k=>if nb - 1 - k > 0 then
     (if(k==1)=true then pure (ForInStep.done (some (b.extract 0 k++a.extract 0 na++(ae.push y++(b.extract k (nb - 1)).reverse).reverse),na,k,ae.push y++(b.extract k (nb - 1)).reverse,mg,ac,nb - 1 - k))
     else if(k==0)=true then pure (ForInStep.done (some (a.extract 0 na++b.extract 0 k++(ae.push y++(b.extract k (nb - 1)).reverse).reverse),na,k,ae.push y++(b.extract k (nb - 1)).reverse,mg,ac,nb - 1 - k))
     else Zf a b (ae.push y++(b.extract k (nb - 1)).reverse) na k mg ac (nb - 1 - k))
    else Zf a b (ae.push y) na (nb - 1) mg ac (nb - 1 - k)
   | _=>pure (ForInStep.done (some (a.extract 0 na++b.extract 0 (nb - 1)++(ae.push y).reverse),na,nb - 1,ae.push y,mg,ac,bc))
def Qdq(a b ae:Array Keyed)(na nb mg ac bc:Nat):StateT SortSt Sem (ForInStep HiS) :=
 setMinGallop' mg >>= λ_=>elem' b (nb - 1) >>= λy=>gallop' false y a 0 na (na - 1) >>= λx =>
  match x with
  | some k=>if na - k > 0 then
    (if(k==0)=true then pure (ForInStep.done (some (a.extract 0 k++b.extract 0 nb++(ae++(a.extract k na).reverse).reverse),k,nb,ae++(a.extract k na).reverse,mg,na - k,bc))
    else Zg a b (ae++(a.extract k na).reverse) k nb mg (na - k) bc)
   else Zg a b ae na nb mg (na - k) bc
  | _=>pure (ForInStep.done (some (a.extract 0 na++b.extract 0 nb++ae.reverse),na,nb,ae,mg,ac,bc))
structure HMid(lt:Nat->Nat->Bool)(it:Array Keyed)(a b:Array Nat)(q:Nat)(o:Array Keyed)(na nb:Nat):Prop where
 m:∃ae:Array Nat,o=ae.map (kas_item it)/\HM lt a b ae na nb
 ha:0 < na
 hb:1 < nb
 q:na+nb+q<=a.size+b.size
section
variable {a b:Array Nat}{st:SortSt}{Qd Qy:HiS->SortSt->Prop}{ae:Array Nat}{na nb mg ac bc:Nat}
theorem Qbe(O:WeakOrd n lt)(p:MPre n lt a b)(M:HM lt a b ae na nb)(ha:0 < na)(hb:1 < nb)(de:∀j,j < nb->lt (at0 a (na - 1)) (at0 b j)=false){q:Nat}(hq:na+nb+q<=a.size+b.size)
  (fin:∀R c,Mgd lt a b R->c.1=some (R.map (kas_item it))->Qd c st) (go:∀o i j m x y,HMid lt it a b (q+1) o i j->Qd (none,i,j,o,m,x,y) st/\Qy (none,i,j,o,m,x,y) st) :
  wpS (model prog w) A E s (Zf (a.map (kas_item it)) (b.map (kas_item it)) (ae.map (kas_item it)) na nb mg ac bc) (λr ai=>match r with | .done c'=>Qd c' ai | .yield c'=>Qy c' ai) st:=by
 have h1:=M.ha
 unfold Zf
 refine Yai (Bn (by omega) ?_)
 have M1:=M.pushA p.ua ha de
 simp only [mpP,mp3]
 by_cases e:na - 1=0
 ·rw [Yak (by simpa using e)]
  refine Yao (fin _ _ (show Mgd lt a b (a.extract 0 (na - 1)++b.extract 0 nb++(ae.push (at0 a (na - 1))).reverse) from ?_) rfl)
  have:=(show HM lt a b (ae.push (at0 a (na - 1))) 0 nb by rw [<- e];rw [e]at M1 ⊢;exact M1).doneA p.ub
  rw [e]at this ⊢
  exact this
 ·rw [Yah (by simpa using e)]
  have g:=go _ _ _ mg ac bc (⟨⟨_,rfl,M1⟩,by omega,hb,by omega⟩:HMid lt it a b (q+1) _ (na - 1) nb)
  by_cases e4:(decide (ac < 7) && decide (bc < 7))=true
  ·rw [Yak e4];exact Yao g.1
  ·rw [Yah e4];exact Yao g.2
theorem Qbf(O:WeakOrd n lt)(hc:Cmp prog w A κ it n lt s)(hk:kindOf st=κ)(p:MPre n lt a b)(M:HM lt a b ae na nb)(ha:0 < na)(hb:1 < nb)(de:∀j,j < na->lt (at0 b (nb - 1)) (at0 a j)=false){q:Nat}(hq:na+nb+q<=a.size+b.size)
  (fin:∀R c,Mgd lt a b R->c.1=some (R.map (kas_item it))->Qd c st) (go:∀o i j m x y,HMid lt it a b (q+1) o i j->Qd (none,i,j,o,m,x,y) st/\Qy (none,i,j,o,m,x,y) st) :
  wpS (model prog w) A E s (Zg (a.map (kas_item it)) (b.map (kas_item it)) (ae.map (kas_item it)) na nb mg ac bc) (λr ai=>match r with | .done c'=>Qd c' ai | .yield c'=>Qy c' ai) st:=by
 have h1:=M.ha
 have h2:=M.hb
 unfold Zg
 refine Yai (Bn (by omega) ?_)
 have M1:=M.pushB p.ub (by omega) de
 simp only [mpP]
 by_cases e:nb - 1=1
 ·rw [Yak (by simpa using e)]
  simp only [mp3]
  refine Yao (fin _ _ (show Mgd lt a b (b.extract 0 (nb - 1)++a.extract 0 na++(ae.push (at0 b (nb - 1))).reverse) from ?_) rfl)
  rw [e]at M1 ⊢
  exact M1.firstB O p
 ·rw [Yah (by simpa using e)]
  refine Yai (Bn (by omega) ?_)
  refine Yai (Qdo O hc hk (by omega) (by omega) p.ib (p.ia (na - 1) (by omega)) (λi j _ h2 h3=>p.ub i j h2 (by omega)) λk k1 k2 k3=>?_)
  dsimp only
  simp only [Nat.zero_add]at k2 k3
  have pr:∀i,k<=i->i < nb - 1->∀j,j < na->lt (at0 b i) (at0 a j)=false:=λi i1 i2 j hj=>by
   have e1:=k3 i i1 i2
   rcases Ya0 (show j<=na - 1 by omega) with rfl | hj'
   ·exact e1
   ·exact O.tr _ _ _ (p.ia j (by omega)) (p.ia (na - 1) (by omega)) (p.ib i (by omega)) (p.ua j (na - 1) hj' (by omega)) e1
  have M2:=M1.chunkB p.ub (k:=k) k1 pr
  by_cases kp:nb - 1 - k > 0
  ·rw [Yak kp]
   simp only [mpR,mp3]
   by_cases e1:k=1
   ·rw [Yak (by simpa using e1)]
    refine Yao (fin _ _ (show Mgd lt a b (b.extract 0 k++a.extract 0 na++(ae.push (at0 b (nb - 1))++(b.extract k (nb - 1)).reverse).reverse) from ?_) rfl)
    subst e1
    exact M2.firstB O p
   ·rw [Yah (by simpa using e1)]
    by_cases e2:k=0
    ·rw [Yak (by simpa using e2)]
     refine Yao (fin _ _ (show Mgd lt a b (a.extract 0 na++b.extract 0 k++(ae.push (at0 b (nb - 1))++(b.extract k (nb - 1)).reverse).reverse) from ?_) rfl)
     subst e2
     exact M2.doneB p.ua
    ·rw [Yah (by simpa using e2)]
     exact Qbe O p M2 ha (by omega) (λj hj=>O.asy _ _ (p.ib j (by omega)) (p.ia _ (by omega)) (k2 j hj)) (q:=q) (by omega) fin go
  ·rw [Yah kp]
   exact Qbe O p M1 ha (by omega) (λj hj=>O.asy _ _ (p.ib j (by omega)) (p.ia _ (by omega)) (k2 j (by omega))) (q:=q) (by omega) fin go
theorem Qg3(O:WeakOrd n lt)(hc:Cmp prog w A κ it n lt s)(hk:kindOf st=κ)(p:MPre n lt a b)(M:HM lt a b ae na nb)(ha:0 < na)(hb:1 < nb){q:Nat}(hq:na+nb+q<=a.size+b.size)
  (fin:∀R c,Mgd lt a b R->c.1=some (R.map (kas_item it))->Qd c (B4 st mg)) (go:∀o i j m x y,HMid lt it a b (q+1) o i j->Qd (none,i,j,o,m,x,y) (B4 st mg)/\Qy (none,i,j,o,m,x,y) (B4 st mg)) :
  wpS (model prog w) A E s (Qdq (a.map (kas_item it)) (b.map (kas_item it)) (ae.map (kas_item it)) na nb mg ac bc) (λr ai=>match r with | .done c'=>Qd c' ai | .yield c'=>Qy c' ai) st:=by
 have h1:=M.ha
 have h2:=M.hb
 unfold Qdq
 rw [Cg]
 refine Yai (Yc7 (Yai (Bn (by omega) ?_)))
 refine Yai (Qdn O hc (st:=B4 st mg) hk (by omega) (by omega) p.ia (p.ib (nb - 1) (by omega)) (λi j _ h2 h3=>p.ua i j h2 (by omega)) λk k1 k2 k3=>?_)
 dsimp only
 simp only [Nat.zero_add]at k2 k3
 have pr:∀i,k<=i->i < na->∀j,j < nb->lt (at0 a i) (at0 b j)=false:=λi i1 i2 j hj=>by
  have e1:=O.asy _ _ (p.ib (nb - 1) (by omega)) (p.ia i (by omega)) (k3 i i1 i2)
  rcases Ya0 (show j<=nb - 1 by omega) with rfl | hj'
  ·exact e1
  ·exact O.tr _ _ _ (p.ib j (by omega)) (p.ib (nb - 1) (by omega)) (p.ia i (by omega)) (p.ub j (nb - 1) hj' (by omega)) e1
 have M1:=M.chunkA p.ua (k:=k) k1 pr
 by_cases kp:na - k > 0
 ·rw [Yak kp]
  simp only [mpR,mp3]
  by_cases e1:k=0
  ·rw [Yak (by simpa using e1)]
   refine Yao (fin _ _ (show Mgd lt a b (a.extract 0 k++b.extract 0 nb++(ae++(a.extract k na).reverse).reverse) from ?_) rfl)
   subst e1
   exact M1.doneA p.ub
  ·rw [Yah (by simpa using e1)]
   exact Qbf O hc (st:=B4 st mg) hk p M1 (by omega) hb k2 (q:=q) (by omega) fin go
 ·rw [Yah kp]
  exact Qbf O hc (st:=B4 st mg) hk p M ha hb (λj hj=>k2 j (by omega)) (q:=q) hq fin go
end
theorem MPre.last{a b:Array Nat}(O:WeakOrd n lt)(p:MPre n lt a b):HM lt a b #[at0 a (a.size - 1)] (a.size - 1) b.size:=by
 have na:=p.na
 have nb:=p.nb
 have h0:HM lt a b #[] a.size b.size:=⟨Yaf _,Yaf _,by rw [Ye7,Ye7];exact MI.zero _ _⟩
 exact h0.pushA p.ua na λj hj=>p.le O j hj
theorem Tj(O:WeakOrd n lt)(hc:Cmp prog w A κ it n lt s){a b:Array Nat}{st:SortSt}(hk:kindOf st=κ)(p:MPre n lt a b){Q:Array Keyed->SortSt->Prop}(h:∀R g,Mgd lt a b R->Q (R.map (kas_item it)) (B4 st g)) :
  wpS (model prog w) A E s (mergeHi' (a.map (kas_item it)) (b.map (kas_item it))) Q st:=by
 rw [Nl]
 dsimp only
 have M0:=p.last O
 have na:=p.na
 have nb:=p.nb
 have sa:(a.map (kas_item it)).size=a.size:=Ydt ..
 have sb:(b.map (kas_item it)).size=b.size:=Ydt ..
 have e0:#[kas_item it (a.getD (a.size - 1) 0)]=(#[at0 a (a.size - 1)]:Array Nat).map (kas_item it):=by simp
 refine Yai (wpS_lift (Yb8 ⟨rfl,?_⟩))
 refine Yai (Bn (by omega) ?_)
 rw [sa,e0]
 by_cases e1:a.size - 1=0
 ·rw [Yak (by simpa using e1)]
  simp only [sb,mp3]
  refine Yao (h _ (gallopOf st) ?_)
  have:=(show HM lt a b #[at0 a (a.size - 1)] 0 b.size by rw [e1]at M0 ⊢;exact M0).doneA p.ub
  rw [e1]at this ⊢
  exact this
 rw [Yah (by simpa using e1)]
 by_cases e2:b.size=1
 ·rw [Yak (by simpa using e2)]
  simp only [sb,mp3]
  refine Yao (h _ (gallopOf st) ?_)
  rw [e2]at M0 ⊢
  exact M0.firstB O p
 rw [Yah (by simpa using e2)]
 refine Yai (Yfl ?_)
 refine Yai (Ycq (Yby (I:=λx c ai=>(∃g,ai=B4 st g)/\c.1=none/\HMid lt it a b (1+x) c.2.2.2.1 c.2.1 c.2.2.1) (Q:=λc ai=>(∃g,ai=B4 st g)/\∃R,c.1=some (R.map (kas_item it))/\Mgd lt a b R) ?_ ?_ ⟨⟨gallopOf st,rfl⟩,rfl,⟨_,rfl,by rw [sb];exact M0⟩,by show 0 < a.size - 1;omega,by show 1 < (b.map (kas_item it)).size;omega,by show a.size - 1+(b.map (kas_item it)).size+(1+0)<=_;omega⟩) ?_)
 ·rintro x ⟨c1,ia,ib,o,mg⟩ ai _ hx ⟨⟨g,rfl⟩,rfl,⟨ae,eo,M⟩,ha,hb,hq⟩
  dsimp only at eo M ha hb hq ⊢
  subst eo
  refine Yai (Ycq (Yby (I:=λy c ai=>ai=B4 st g/\c.1=none/\HMid lt it a b (1+x+y) c.2.2.2.1 c.2.1 c.2.2.1) (Q:=λc ai=>ai=B4 st g/\((∃R,c.1=some (R.map (kas_item it))/\Mgd lt a b R)\/(c.1=none/\HMid lt it a b (1+x+1) c.2.2.2.1 c.2.1 c.2.2.1))) ?_ ?_ ⟨rfl,rfl,⟨ae,rfl,M⟩,ha,hb,hq⟩) ?_)
  ·clear M ha hb hq
   rintro y ⟨c1,ja,jb,o,ac,bc⟩ ai _ hy ⟨rfl,rfl,⟨ae,eo,M⟩,ha,hb,gz⟩
   dsimp only at eo M ha hb gz ⊢
   subst eo
   have h1:=M.ha
   have h2:=M.hb
   refine Yai (Bn (by omega) (Yai (Bn (by omega) (Yai (We hc (st:=B4 st g) hk (p.ib _ (by omega)) (p.ia _ (by omega)) ?_)))))
   dsimp only
   cases e:lt (b.getD (jb - 1) 0) (a.getD (ja - 1) 0) with
   | true =>
    rw [Yak rfl]
    refine Yai (Bn (by omega) ?_)
    have M1:=M.pushA p.ua ha λj hj=>by
     have e':=O.asy _ _ (p.ib _ (by omega)) (p.ia (ja - 1) (by omega)) e
     rcases Ya0 (show j<=jb - 1 by omega) with rfl | hj'
     ·exact e'
     ·exact O.tr _ _ _ (p.ib j (by omega)) (p.ib (jb - 1) (by omega)) (p.ia (ja - 1) (by omega)) (p.ub j (jb - 1) hj' (by omega)) e'
    simp only [mpP]
    by_cases e3:ja - 1=0
    ·rw [Yak (by simpa using e3)]
     simp only [mp3]
     refine Yao ⟨rfl,.inl ⟨_,rfl,?_⟩⟩
     have:=(show HM lt a b (ae.push (at0 a (ja - 1))) 0 jb by rw [e3]at M1 ⊢;exact M1).doneA p.ub
     rw [e3]at this ⊢
     exact this
    ·rw [Yah (by simpa using e3)]
     by_cases e4:ac+1>=mg <;> simp only [e4,if_true,if_false]
     ·exact Yao ⟨rfl,.inr ⟨rfl,⟨_,rfl,M1⟩,by show 0 < ja - 1;omega,hb,by show ja - 1+jb+_<=_;omega⟩⟩
     ·exact Yao ⟨rfl,rfl,⟨_,rfl,M1⟩,by show 0 < ja - 1;omega,hb,by show ja - 1+jb+_<=_;omega⟩
   | false =>
    rw [Yah Yad]
    refine Yai (Bn (by omega) ?_)
    have M1:=M.pushB p.ub (by omega) λj hj=>by
     rcases Ya0 (show j<=ja - 1 by omega) with rfl | hj'
     ·exact e
     ·exact O.tr _ _ _ (p.ia j (by omega)) (p.ia (ja - 1) (by omega)) (p.ib (jb - 1) (by omega)) (p.ua j (ja - 1) hj' (by omega)) e
    simp only [mpP]
    by_cases e3:jb - 1=1
    ·rw [Yak (by simpa using e3)]
     simp only [mp3]
     refine Yao ⟨rfl,.inl ⟨_,rfl,?_⟩⟩
     rw [e3]at M1 ⊢
     exact M1.firstB O p
    ·rw [Yah (by simpa using e3)]
     by_cases e4:bc+1>=mg <;> simp only [e4,if_true,if_false]
     ·exact Yao ⟨rfl,.inr ⟨rfl,⟨_,rfl,M1⟩,ha,by show 1 < jb - 1;omega,by show ja+(jb - 1)+_<=_;omega⟩⟩
     ·exact Yao ⟨rfl,rfl,⟨_,rfl,M1⟩,ha,by show 1 < jb - 1;omega,by show ja+(jb - 1)+_<=_;omega⟩
  ·rintro c ai ⟨_,_,⟨ae,_,M⟩,ha',i4,gz⟩
   omega
  ·rintro⟨c1,ja,jb,o,ac,bc⟩ ai ⟨rfl,⟨R,rfl,hR⟩ | ⟨rfl,hM⟩⟩
   ·exact Yao ⟨⟨g,rfl⟩,R,rfl,hR⟩
   ·dsimp only at hM ⊢
    refine Yai (wpS_lift (Yb8 ⟨rfl,?_⟩))
    refine Yai (Ycq (Yby (I:=λy c ai=>(∃g,ai=B4 st g)/\c.1=none/\HMid lt it a b (1+x+1+y) c.2.2.2.1 c.2.1 c.2.2.1) (Q:=λc ai=>(∃g,ai=B4 st g)/\((∃R,c.1=some (R.map (kas_item it))/\Mgd lt a b R)\/(c.1=none/\HMid lt it a b (1+x+1) c.2.2.2.1 c.2.1 c.2.2.1))) ?_ ?_ ⟨⟨g,rfl⟩,rfl,hM⟩) ?_)
    ·clear hM
     rintro y ⟨c1,ja,jb,o,mg,ac,bc⟩ ai _ hy ⟨⟨g,rfl⟩,rfl,⟨ae,eo,M⟩,ha,hb,gz⟩
     dsimp only at eo M ha hb gz ⊢
     subst eo
     have key:∀mg,wpS (model prog w) A E s (Qdq (a.map (kas_item it)) (b.map (kas_item it)) (ae.map (kas_item it)) ja jb mg ac bc) _ (B4 st g):=λmg =>
      Qg3 (Qd:=λc ai=>(∃g,ai=B4 st g)/\((∃R,c.1=some (R.map (kas_item it))/\Mgd lt a b R)\/(c.1=none/\HMid lt it a b (1+x+1) c.2.2.2.1 c.2.1 c.2.2.1)))
       (Qy:=λc ai=>(∃g,ai=B4 st g)/\c.1=none/\HMid lt it a b (1+x+1+(y+1)) c.2.2.2.1 c.2.1 c.2.2.1) O hc (st:=B4 st g) hk p M ha hb (q:=1+x+1+y) gz (λR c hR e=>⟨⟨mg,rfl⟩,.inl ⟨R,e,hR⟩⟩)
       λo i j m x y hm=>⟨⟨⟨mg,rfl⟩,.inr ⟨rfl,hm.m,hm.ha,hm.hb,by have:=hm.q;show i+j+_<=_;omega⟩⟩,⟨mg,rfl⟩,rfl,hm.m,hm.ha,hm.hb,by have:=hm.q;show i+j+_<=_;omega⟩
     by_cases e4:mg > 1
     ·rw [Yak e4]
      refine Ycq (key (mg - 1)) ?_
      rintro(c | c) ai hh <;> exact hh
     ·rw [Yah e4]
      refine Ycq (key mg) ?_
      rintro(c | c) ai hh <;> exact hh
    ·rintro c ai ⟨⟨g,rfl⟩,h1,h2⟩
     exact⟨⟨g,rfl⟩,.inr ⟨h1,h2.m,h2.ha,h2.hb,by have:=h2.q;omega⟩⟩
    ·rintro⟨c1,ja,jb,o,mg,ac,bc⟩ ai ⟨⟨g,rfl⟩,⟨R,rfl,hR⟩ | ⟨rfl,hM⟩⟩
     ·exact Yao ⟨⟨g,rfl⟩,R,rfl,hR⟩
     ·dsimp only at hM ⊢
      rw [Cg]
      refine Yai (Yc7 (Yao ⟨⟨_,rfl⟩,rfl,hM.m,hM.ha,hM.hb,?_⟩))
      have:=hM.q
      show ja+jb+_<=_
      omega
 ·rintro c ai ⟨_,_,⟨ae,_,M⟩,ha',i4,gz⟩
  omega
 ·rintro⟨c1,o⟩ ai ⟨⟨g,rfl⟩,R,rfl,hR⟩
  exact Yao (h R g hR)
end
theorem Nm(i:Nat):mergeAt' i=(do
 let s <- get
 let(some (sa,na,power),some (sb,nb,_)):=((pendingOf s)[i]?,(pendingOf s)[i+1]?) | unsupported "internal:list.sort.pending"
 set (setPending s (((pendingOf s).setIfInBounds i (sa,na+nb,power)).eraseIdxIfInBounds (i+1)))
 let some k <- gallop' false (<- elem' (arrOf s) sb) (arrOf s) sa na 0 | return false
 let(sa,na):=(sa+k,na - k)
 if na==0 then return true
 let some nb <- gallop' true (<- elem' (arrOf s) (sa+na - 1)) (arrOf s) sb nb (nb - 1) | return false
 if nb==0 then return true
 let x:=(arrOf s).extract sa sb
 let y:=(arrOf s).extract sb (sb+nb)
 let merged <- if na<=nb then mergeLo' x y else mergeHi' x y
 modify λs=>setArr s (merged.toList.zipIdx.foldl (λa (p,j)=>a.setIfInBounds (sa+j) p) (arrOf s))
 return (failedOf (<- get)).isNone):=rfl
section
variable {prog:Program}{w:World}{A:Around}{E:Value->Shared->Prop}{s:Shared}{κ:SortKind}{it:Array Keyed}{n:Nat}{lt:Nat->Nat->Bool}
def SS(κ:SortKind)(it:Array Keyed)(p:Array Nat)(pd:Array (Nat×Nat×Nat))(g:Nat):SortSt:=SortSt.mk' κ (p.map (kas_item it)) pd g none
def Seg(lt:Nat->Nat->Bool)(p:Array Nat)(lo len:Nat):Prop:=∀i j,lo<=i->i < j->j < lo+len->lt (at0 p j) (at0 p i)=false
theorem Zh{σ:Type}{M:Model}{x:σ}{Q:PUnit->σ->Prop}{st:σ}(h:Q ⟨⟩ x):wpS M A E s (set x:StateT σ Sem PUnit) Q st:=by
 unfold wpS;rw [StateT.run_set];exact Yab ⟨rfl,h⟩
def wr{α:Type}(cp:Nat):List α->Nat->Array α->Array α
 | [],_,p=>p
 | x :: xs,k,p=>wr cp xs (k+1) (p.setIfInBounds (cp+k) x)
theorem Rc{α:Type}(cp:Nat):∀(xs:List α) (k:Nat) (p:Array α),(xs.zipIdx k).foldl (λa (z:α×Nat)=>a.setIfInBounds (cp+z.2) z.1) p=wr cp xs k p
 | [],_,_=>rfl
 | x :: xs,k,p=>by
  rw [List.zipIdx_cons,List.foldl_cons,wr]
  exact Rc cp xs (k+1) _
theorem Wf{α β:Type}(f:α->β)(cp:Nat):∀(xs:List α) (k:Nat) (p:Array α),wr cp (xs.map f) k (p.map f)=(wr cp xs k p).map f
 | [],_,_=>rfl
 | x :: xs,k,p=>by
  rw [Ycc,wr,wr,<- Wf f cp xs (k+1)]
  congr 1
  rw [Array.map_setIfInBounds]
theorem Re{α:Type}(cp:Nat):∀(xs:List α) (k:Nat) (p:Array α),(wr cp xs k p).size=p.size
 | [],_,_=>rfl
 | x :: xs,k,p=>by rw [wr,Re cp xs,Yef]
theorem Pi{α:Type}(cp:Nat):∀(xs:List α) (k:Nat) (p:Array α),cp+k+xs.length<=p.size->∀i:Nat,(wr cp xs k p)[i]?=if cp+k<=i/\i < cp+k+xs.length then xs[i - (cp+k)]? else p[i]?
 | [],k,p,_,i=>by rw [wr,Yah (by simp only [List.length_nil];omega)]
 | x :: xs,k,p,h,i=>by
  rw [Ybp]at h
  rw [wr,Pi cp xs (k+1) _ (by rw [Yef];omega),Array.getElem?_setIfInBounds,Ybp]
  by_cases h1:cp+k=i
  ·subst h1
   rw [Yah (by omega),Yak rfl,Yak (by omega),Yak (by omega),Ye7];rfl
  ·by_cases h2:cp+(k+1)<=i/\i < cp+(k+1)+xs.length
   ·rw [Yak h2,Yak (by omega)]
    rw [show i - (cp+k)=i - (cp+(k+1))+1 by omega,List.getElem?_cons_succ]
   ·rw [Yah h2,Yah h1,Yah (by omega)]
theorem Fk{p q:Array Nat}{i j:Nat}(h:p[i]?=q[j]?):at0 p i=at0 q j:=by
 unfold at0
 rw [Yba,Yba,h]
theorem Wg{p:Array Nat}{xs:List Nat}{i j:Nat}{d:Nat}(h:p[i]?=xs[j]?)(hj:j < xs.length):at0 p i=xs[j]:=by
 unfold at0
 rw [Yba,h,List.getElem?_eq_getElem hj];rfl
theorem Zi(cp:Nat)(R:List Nat)(p:Array Nat)(h:cp+R.length<=p.size):(wr cp R 0 p).toList=p.toList.take cp++R++p.toList.drop (cp+R.length):=by
 apply Yd0
 intro i
 rw [Array.getElem?_toList,Pi cp R 0 p h]
 simp only [Nat.add_zero]
 have hl:(p.toList.take cp).length=cp:=by rw [Ybs,Yal];omega
 by_cases h1:i < cp
 ·rw [Yah (by omega),Ycs,List.getElem?_append_left (by omega),List.getElem?_take_of_lt h1,Array.getElem?_toList]
 ·by_cases h2:i < cp+R.length
  ·rw [Yak (by omega),List.getElem?_append_left (by rw [Yag];omega),List.getElem?_append_right (by omega),hl]
  ·rw [Yah (by omega),List.getElem?_append_right (by rw [Yag];omega),Yag,hl,List.getElem?_drop,Array.getElem?_toList]
   congr 1;omega
theorem Ds{p:Array Nat}{i j k:Nat}(h:i+k < j)(hj:j<=p.size):at0 (p.extract i j) k=at0 p (i+k):=Fk (by
 rw [Array.getElem?_extract]
 rw [Yak (by omega)])
theorem Zj{p:Array Nat}{i j k:Nat}(h1:i<=j)(h2:j<=k):(p.extract i j).toList++(p.extract j k).toList=(p.toList.drop i).take (k - i):=by
 rw [show j=i+(j - i) by omega,Bv,show i+(j - i)=j by omega,show k=j+(k - j) by omega,Bv,show j+(k - j) - i=(j - i)+(k - j) by omega,List.take_add,List.drop_drop,show i+(j - i)=j by omega]
structure Kept(p p':Array Nat)(lo hi:Nat):Prop where
 size:p'.size=p.size
 perm:p'.toList.Perm p.toList
 same:∀i,i < lo\/hi<=i->at0 p' i=at0 p i
theorem Kept.refl{p:Array Nat}{lo hi:Nat}:Kept p p lo hi:=⟨rfl,.refl _,λ_ _=>rfl⟩
theorem Kept.trans{p q r:Array Nat}{lo hi:Nat}(h:Kept p q lo hi)(k:Kept q r lo hi):Kept p r lo hi:=⟨k.size.trans h.size,k.perm.trans h.perm,λi hi=>(k.same i hi).trans (h.same i hi)⟩
theorem Kept.mono{p q:Array Nat}{lo hi oj en:Nat}(h:Kept p q lo hi)(h1:oj<=lo)(h2:hi<=en):Kept p q oj en:=⟨h.size,h.perm,λi hi=>h.same i (by omega)⟩
theorem Zk{p:Array Nat}{x:Nat}(h:x∈p.toList):∃i,i < p.size/\x=at0 p i:=by
 obtain⟨i,hi,e⟩:=Yea h
 rw [Yal]at hi
 refine⟨i,hi,?_⟩
 rw [<- e];simp [at0,Array.getD,hi]
theorem Zl{p:Array Nat}{i:Nat}(h:i < p.size):at0 p i∈p.toList:=by
 simp [at0,Array.getD,h]
theorem Kept.in{p p':Array Nat}{lo hi:Nat}(h:Kept p p' lo hi)(hp:In n p):In n p':=λi hi=>by
 obtain⟨j,hj,e⟩:=Zk (h.perm.mem_iff.mp (Zl hi))
 rw [e];exact hp j hj
theorem Seg.kept{p p':Array Nat}{lo hi a len:Nat}(h:Seg lt p a len)(k:Kept p p' lo hi)(ho:a+len<=lo\/hi<=a):Seg lt p' a len:=λi j h1 h2 h3=>by
 rw [k.same i (by omega),k.same j (by omega)]
 exact h i j h1 h2 h3
theorem Tk(O:WeakOrd n lt)(hc:Cmp prog w A κ it n lt s){p:Array Nat}{pd:Array (Nat×Nat×Nat)}{g i sa na pw nb wk:Nat}(hp:In n p)(h1:pd[i]?=some (sa,na,pw))(h2:pd[i+1]?=some (sa+na,nb,wk))(ha:0 < na)(hb:0 < nb)(hs:sa+na+nb<=p.size)
  (sA:Seg lt p sa na) (sB:Seg lt p (sa+na) nb) {Q:Bool->SortSt->Prop}
  (h:∀p' g',Kept p p' sa (sa+na+nb)->Seg lt p' sa (na+nb)->Q true (SS κ it p' ((pd.setIfInBounds i (sa,na+nb,pw)).eraseIdxIfInBounds (i+1)) g')):wpS (model prog w) A E s (mergeAt' i) Q (SS κ it p pd g):=by
 rw [Nm]
 refine Yai (Yfl ?_)
 have e1:(pendingOf (SS κ it p pd g))[i]?=some (sa,na,pw):=h1
 have e2:(pendingOf (SS κ it p pd g))[i+1]?=some (sa+na,nb,wk):=h2
 rw [e1,e2]
 dsimp only
 have zav:arrOf (SS κ it p pd g)=p.map (kas_item it):=rfl
 rw [zav]
 refine Yai (Zh (Yai (Bn (by omega) ?_)))
 have hl:=λi (hi:i < p.size)=>hp i hi
 refine Yai (Qdn O hc (st:=SS κ it p ((pd.setIfInBounds i (sa,na+nb,pw)).eraseIdxIfInBounds (i+1)) g) rfl ha (by omega) hp (hl _ (by omega)) (λx y a1 a2 a3=>sA x y a1 a2 a3) λk k1 k2 k3=>?_)
 dsimp only
 have low:∀x,sa<=x->x < sa+k->lt (at0 p (sa+na)) (at0 p x)=false:=λx a1 a2=>by
  have:=k2 (x - sa) (by omega)
  rwa [show sa+(x - sa)=x by omega]at this
 have vz:∀y,sa+na<=y->y < sa+na+nb->lt (at0 p y) (at0 p (sa+na))=false:=λy a1 a2=>by
  rcases Ya0 a1 with rfl | a1
  ·exact O.irr (hl _ (by omega))
  ·exact sB _ y (Yaf _) a1 (by omega)
 have n5:∀x y,sa<=x->x < sa+k->sa+na<=y->y < sa+na+nb->lt (at0 p y) (at0 p x)=false:=λx y a1 a2 a3 a4 =>
  O.tr _ _ _ (hl x (by omega)) (hl (sa+na) (by omega)) (hl y (by omega)) (low x a1 a2) (vz y a3 a4)
 by_cases c1:na - k=0
 ·rw [Yak (by simpa using c1)]
  refine Yao (h p g .refl λx y a1 a2 a3=>?_)
  by_cases c2:y < sa+na
  ·exact sA x y a1 a2 c2
  ·by_cases c3:x < sa+na
   ·exact n5 x y a1 (by omega) (by omega) (by omega)
   ·exact sB x y (by omega) a2 (by omega)
 rw [Yah (by simpa using c1)]
 refine Yai (Bn (by omega) ?_)
 refine Yai (Qdo O hc (st:=SS κ it p ((pd.setIfInBounds i (sa,na+nb,pw)).eraseIdxIfInBounds (i+1)) g) rfl (by omega) (by omega) hp (hl _ (by omega)) (λx y a1 a2 a3=>sB x y a1 a2 a3) λm m1 m2 m3=>?_)
 dsimp only
 have el:sa+k+(na - k) - 1=sa+na - 1:=by omega
 rw [el]at m2 m3
 have ato:∀x,sa<=x->x < sa+na->lt (at0 p (sa+na - 1)) (at0 p x)=false:=λx a1 a2=>by
  rcases Ya0 (show x<=sa+na - 1 by omega) with rfl | a2'
  ·exact O.irr (hl _ (by omega))
  ·exact sA x _ a1 a2' (by omega)
 have high:∀x y,sa<=x->x < sa+na->sa+na+m<=y->y < sa+na+nb->lt (at0 p y) (at0 p x)=false:=λx y a1 a2 a3 a4=>by
  have:=m3 (y - (sa+na)) (by omega) (by omega)
  rw [show sa+na+(y - (sa+na))=y by omega]at this
  exact O.tr _ _ _ (hl x (by omega)) (hl (sa+na - 1) (by omega)) (hl y (by omega)) (ato x a1 a2) this
 by_cases c2:m=0
 ·rw [Yak (by simpa using c2)]
  refine Yao (h p g .refl λx y a1 a2 a3=>?_)
  by_cases c3:y < sa+na
  ·exact sA x y a1 a2 c3
  ·by_cases c4:x < sa+na
   ·exact high x y a1 c4 (by omega) (by omega)
   ·exact sB x y (by omega) a2 (by omega)
 rw [Yah (by simpa using c2)]
 have x1:(p.map (kas_item it)).extract (sa+k) (sa+na)=(p.extract (sa+k) (sa+na)).map (kas_item it):=Ydh.symm
 have x2:(p.map (kas_item it)).extract (sa+na) (sa+na+m)=(p.extract (sa+na) (sa+na+m)).map (kas_item it):=Ydh.symm
 rw [x1,x2]
 have z1:(p.extract (sa+k) (sa+na)).size=na - k:=by rw [Yeq];omega
 have z2:(p.extract (sa+na) (sa+na+m)).size=m:=by rw [Yeq];omega
 have pre:MPre n lt (p.extract (sa+k) (sa+na)) (p.extract (sa+na) (sa+na+m)):=by
  refine⟨by omega,by omega,λx hx=>?_,λx hx=>?_,λx y a1 a2=>?_,λx y a1 a2=>?_,?_,λy hy=>?_⟩
  ·rw [z1]at hx;rw [Ds (by omega) (by omega)];exact hl _ (by omega)
  ·rw [z2]at hx;rw [Ds (by omega) (by omega)];exact hl _ (by omega)
  ·rw [z1]at a2;rw [Ds (by omega) (by omega),Ds (by omega) (by omega)];exact sA _ _ (by omega) (by omega) (by omega)
  ·rw [z2]at a2;rw [Ds (by omega) (by omega),Ds (by omega) (by omega)];exact sB _ _ (by omega) (by omega) (by omega)
  ·rw [Ds (by omega) (by omega),Ds (by omega) (by omega)]
   have:=k3 k (Yaf _) (by omega)
   exact this
  ·rw [z2]at hy
   rw [z1,Ds (by omega) (by omega),Ds (by omega) (by omega),show sa+k+(na - k - 1)=sa+na - 1 by omega]
   exact m2 y hy
 have fin:∀(R:Array Nat) (g':Nat),Mgd lt (p.extract (sa+k) (sa+na)) (p.extract (sa+na) (sa+na+m)) R ->
   Q true (SS κ it (wr (sa+k) R.toList 0 p) ((pd.setIfInBounds i (sa,na+nb,pw)).eraseIdxIfInBounds (i+1)) g'):=λR g' hR=>by
  have hRl:R.toList.length=na - k+m:=by
   have:=hR.perm.length_eq
   rw [Yag,Yal,Yal,Yal,z1,z2]at this
   rw [Yal];exact this
  have gp:sa+k+R.toList.length<=p.size:=by omega
  have el:(p.extract (sa+k) (sa+na)).toList++(p.extract (sa+na) (sa+na+m)).toList=(p.toList.drop (sa+k)).take R.toList.length:=by
   rw [Zj (by omega) (by omega),hRl]
   congr 1;omega
  have ii:=Pi (sa+k) R.toList 0 p gp
  simp only [Nat.add_zero]at ii
  have ae:∀x,x < sa+k\/sa+na+m<=x->at0 (wr (sa+k) R.toList 0 p) x=at0 p x:=λx hx=>Fk (by rw [ii,Yah (by omega)])
  have xx:∀x,sa+k<=x->x < sa+na+m->∃hx,at0 (wr (sa+k) R.toList 0 p) x=R.toList[x - (sa+k)]'hx:=λx a1 a2=>⟨by omega,Wg (d:=0) (by rw [ii,Yak (by omega)]) (by omega)⟩
  have mem:∀x,sa+k<=x->x < sa+na+m->∃y,sa+k<=y/\y < sa+na+m/\at0 (wr (sa+k) R.toList 0 p) x=at0 p y:=λx a1 a2=>by
   obtain⟨hx,e⟩:=xx x a1 a2
   have hm:R.toList[x - (sa+k)]∈(p.toList.drop (sa+k)).take R.toList.length:=by rw [<- el];exact hR.perm.mem_iff.mp (Ybu _)
   obtain⟨j,j1,j2,j3,j4⟩:=Ef hm
   exact⟨j,j1,by omega,e.trans j4⟩
  refine h _ g' ⟨Re _ _ _ _,?_,λx hx=>ae x (by omega)⟩ λx y a1 a2 a3=>?_
  ·rw [Zi _ _ _ gp]
   have e3:p.toList=p.toList.take (sa+k)++(p.toList.drop (sa+k)).take R.toList.length++p.toList.drop (sa+k+R.toList.length):=by
    have a:=(Ydb (sa+k) p.toList).symm
    have b:=(Ydb R.toList.length (p.toList.drop (sa+k))).symm
    rw [List.drop_drop]at b
    refine a.trans ?_
    rw [Ycs]
    exact Ydl _ b
   refine List.Perm.trans ?_ (List.Perm.of_eq e3.symm)
   refine Yex _ (List.Perm.append_left _ ?_)
   rw [<- el];exact hR.perm
  ·by_cases c3:y < sa+k
   ·rw [ae x (by omega),ae y (by omega)];exact sA x y a1 a2 (by omega)
   ·by_cases c4:sa+na+m<=y
    ·rw [ae y (by omega)]
     by_cases c5:x < sa+k
     ·rw [ae x (by omega)];exact n5 x y a1 c5 (by omega) (by omega)
     ·by_cases c6:sa+na+m<=x
      ·rw [ae x (by omega)];exact sB x y (by omega) a2 (by omega)
      ·obtain⟨z,b1,b2,e⟩:=mem x (by omega) (by omega)
       rw [e]
       by_cases c7:z < sa+na
       ·exact high z y (by omega) c7 c4 (by omega)
       ·exact sB z y (by omega) (by omega) (by omega)
    ·by_cases c5:x < sa+k
     ·obtain⟨z,b1,b2,e⟩:=mem y (by omega) (by omega)
      rw [e,ae x (by omega)]
      by_cases c7:z < sa+na
      ·exact sA x z a1 (by omega) c7
      ·exact n5 x z a1 c5 (by omega) (by omega)
     ·obtain⟨hx,ex⟩:=xx x (by omega) (by omega)
      obtain⟨hy,ey⟩:=xx y (by omega) (by omega)
      rw [ex,ey]
      exact Ycf.mp hR.srt _ _ hx hy (by omega)
 have last:∀(R:Array Nat) (g':Nat),Mgd lt (p.extract (sa+k) (sa+na)) (p.extract (sa+na) (sa+na+m)) R->∀ai,ai=SS κ it p ((pd.setIfInBounds i (sa,na+nb,pw)).eraseIdxIfInBounds (i+1)) g' ->
   wpS (model prog w) A E s (do
    modify λs=>setArr s ((R.map (kas_item it)).toList.zipIdx.foldl (λa (p,j)=>a.setIfInBounds (sa+k+j) p) (arrOf s))
    return (failedOf (<- get)).isNone) Q ai:=λR g' hR ai e=>by
  subst e
  refine Yai (Yc7 (Yai (Yfl (Yao ?_))))
  have:=fin R g' hR
  have e2:(R.map (kas_item it)).toList.zipIdx.foldl (λa (z:Keyed×Nat)=>a.setIfInBounds (sa+k+z.2) z.1) (p.map (kas_item it))=(wr (sa+k) R.toList 0 p).map (kas_item it):=by
   rw [Rc,Array.toList_map,Wf]
  show Q true (SortSt.mk' κ ((R.map (kas_item it)).toList.zipIdx.foldl (λa (z:Keyed×Nat)=>a.setIfInBounds (sa+k+z.2) z.1) (p.map (kas_item it))) _ g' none)
  rw [e2]
  exact this
 by_cases c3:na - k<=m
 ·rw [Yak c3]
  refine Yai (Ti O hc rfl pre λR g' hR=>?_)
  exact last R g' hR _ rfl
 ·rw [Yah c3]
  refine Yai (Tj O hc rfl pre λR g' hR=>?_)
  exact last R g' hR _ rfl
end
def Wh(lo ao n:Nat):StateT SortSt Sem (Option Nat):=do
 reverseSlice' lo (lo+n)
 let mut n:=n
 for _ in [n:ao] do
  let some smaller <- ltAt' (lo+n) (lo+n - 1) | return none
  if smaller then break
  n:=n+1
 return some n
def Wi(lo ao n:Nat):StateT SortSt Sem (Option Nat):=do
 rule "list.sort.descending-run"
 let mut n:=n+1
 let mut nw:=0
 for _ in [n:ao] do
  let some smaller <- ltAt' (lo+n) (lo+n - 1) | return none
  if smaller then
   if nw > 0 then reverseSlice' (lo+n - (nw+1)) (lo+n)
   nw:=0
  else
   let some larger <- ltAt' (lo+n - 1) (lo+n) | return none
   if larger then break
   nw:=nw+1
  n:=n+1
 if nw > 0 then reverseSlice' (lo+n - (nw+1)) (lo+n)
 Wh lo ao n
theorem Mg(lo ao:Nat):countRun' lo ao=(do
 let mut n:=1
 for _ in [1:ao] do
  let some smaller <- ltAt' (lo+n) (lo+n - 1) | return none
  if smaller then break
  n:=n+1
 if n==ao then return some n
 if n > 1 then
  let some rose <- ltAt' lo (lo+n - 1) | return none
  if rose then return some n
  reverseSlice' lo (lo+n)
 Wi lo ao n):=rfl
section
variable {prog:Program}{w:World}{A:Around}{E:Value->Shared->Prop}{s:Shared}{κ:SortKind}{it:Array Keyed}{n:Nat}{lt:Nat->Nat->Bool}{p:Array Nat}{pd:Array (Nat×Nat×Nat)}{g:Nat}
theorem Gq(hc:Cmp prog w A κ it n lt s)(hp:In n p){i j:Nat}(hi:i < p.size)(hj:j < p.size){Q:Option Bool->SortSt->Prop}(h:Q (some (lt (at0 p i) (at0 p j))) (SS κ it p pd g)):wpS (model prog w) A E s (ltAt' i j) Q (SS κ it p pd g):=by
 rw [ltAt'_eq]
 refine Yai (Yfl ?_)
 show wpS _ _ _ _ (do let x <- elem' (p.map (kas_item it)) i;let y <- elem' (p.map (kas_item it)) j;lt' x y) Q _
 exact Yai (Bn hi (Yai (Bn hj (We hc rfl (hp i hi) (hp j hj) h))))
abbrev rvs(p:Array Nat)(i j:Nat):Array Nat:=mirror p i j ((j - i) / 2)
theorem Df{i j:Nat}(hj:j<=p.size)(k:Nat):at0 (rvs p i j) k=if i<=k/\k < j then at0 p (i+j - 1 - k) else at0 p k:=by
 have e:=getElem?_mirror_all (xs:=p) (i:=i) hj k
 by_cases h:i<=k/\k < j
 ·rw [Yak h]at e ⊢;exact Fk e
 ·rw [Yah h]at e ⊢;exact Fk e
theorem Fw{i j:Nat}(hj:j<=p.size):Kept p (rvs p i j) i j:=⟨mirror_size _ _ _ _,(mirror_perm p i j _).toList,λk hk=>by rw [Df hj,Yah (by omega)]⟩
theorem Rf{i j:Nat}{Q:Unit->SortSt->Prop}(h:Q () (SS κ it (rvs p i j) pd g)):wpS (model prog w) A E s (reverseSlice' i j) Q (SS κ it p pd g):=by
 rw [reverseSlice'_eq]
 refine Yc7 ?_
 have e:mirror (p.map (kas_item it)) i j ((j - i) / 2)=(rvs p i j).map (kas_item it):=kas_swaps_map _ _ _ _ _
 show Q () (SortSt.mk' κ (mirror (p.map (kas_item it)) i j ((j - i) / 2)) pd g none)
 rw [e];exact h
def Ug(lt:Nat->Nat->Bool)(p:Array Nat)(lo len:Nat):Prop:=∀i j,lo<=i->i < j->j < lo+len->lt (at0 p i) (at0 p j)=false
def EqS(lt:Nat->Nat->Bool)(p:Array Nat)(a b:Nat):Prop:=∀i j,a<=i->i < b->a<=j->j < b->lt (at0 p i) (at0 p j)=false
theorem Seg.next(O:WeakOrd n lt)(hp:In n p){lo m:Nat}(h:Seg lt p lo m)(h1:1<=m)(hm:lo+m < p.size)(e:lt (at0 p (lo+m)) (at0 p (lo+m - 1))=false):Seg lt p lo (m+1):=λi j a1 a2 a3=>by
 by_cases c:j < lo+m
 ·exact h i j a1 a2 c
 ·have:j=lo+m:=by omega
  subst this
  by_cases c2:i=lo+m - 1
  ·subst c2;exact e
  ·exact O.tr _ _ _ (hp i (by omega)) (hp (lo+m - 1) (by omega)) (hp (lo+m) hm) (h i (lo+m - 1) a1 (by omega) (by omega)) e
theorem Ug.next(O:WeakOrd n lt)(hp:In n p){lo m:Nat}(h:Ug lt p lo m)(h1:1<=m)(hm:lo+m < p.size)(e:lt (at0 p (lo+m - 1)) (at0 p (lo+m))=false):Ug lt p lo (m+1):=λi j a1 a2 a3=>by
 by_cases c:j < lo+m
 ·exact h i j a1 a2 c
 ·have:j=lo+m:=by omega
  subst this
  by_cases c2:i=lo+m - 1
  ·subst c2;exact e
  ·exact O.tr _ _ _ (hp (lo+m) hm) (hp (lo+m - 1) (by omega)) (hp i (by omega)) e (h i (lo+m - 1) a1 (by omega) (by omega))
theorem Ug.turn{lo k a:Nat}(hs:lo+k<=p.size)(ha:lo<=a)(h:Ug lt p lo k)(e:EqS lt p a (lo+k)):Ug lt (rvs p a (lo+k)) lo k:=λi j a1 a2 a3=>by
 rw [Df hs,Df hs]
 by_cases h1:a<=i
 ·rw [Yak ⟨h1,by omega⟩,Yak ⟨by omega,a3⟩]
  exact e _ _ (by omega) (by omega) (by omega) (by omega)
 ·rw [Yah (by omega)]
  by_cases h2:a<=j
  ·rw [Yak ⟨h2,a3⟩]
   exact h _ _ (by omega) (by omega) (by omega)
  ·rw [Yah (by omega)]
   exact h _ _ a1 a2 a3
theorem Qbg(O:WeakOrd n lt)(hc:Cmp prog w A κ it n lt s)(hp:In n p){lo ao m:Nat}(h1:1<=m)(hm:m<=ao)(hs:lo+ao<=p.size)(h:Seg lt p lo m){F:Nat->Option (Option Nat)×Nat->StateT SortSt Sem (ForInStep (Option (Option Nat)×Nat))}
  (hF:∀x k Q,1<=k->k < ao->(∀b,b=lt (at0 p (lo+k)) (at0 p (lo+k - 1))->Q (if b=true then ForInStep.done (none,k) else ForInStep.yield (none,k+1)) (SS κ it p pd g))->wpS (model prog w) A E s (F x (none,k)) Q (SS κ it p pd g))
  {Q:Option (Option Nat)×Nat->SortSt->Prop} (hQ:∀k,m<=k->k<=ao->Seg lt p lo k->(k < ao->lt (at0 p (lo+k)) (at0 p (lo+k - 1))=true)->Q (none,k) (SS κ it p pd g)):wpS (model prog w) A E s (forIn [m:ao] ((none,m):Option (Option Nat)×Nat) F) Q (SS κ it p pd g):=by
 refine Ycq (Yby (I:=λx c ai=>ai=SS κ it p pd g/\c=(none,x)/\m<=x/\x<=ao/\Seg lt p lo x) (Q:=λc ai=>ai=SS κ it p pd g/\∃k,c=(none,k)/\m<=k/\k<=ao/\Seg lt p lo k/\(k < ao->lt (at0 p (lo+k)) (at0 p (lo+k - 1))=true)) ?_ ?_ ⟨rfl,rfl,Yaf _,hm,h⟩) ?_
 ·rintro x c ai _ hx ⟨rfl,rfl,a1,a2,a3⟩
  refine hF x x _ (by omega) hx λb eb=>?_
  cases b with
  | true=>exact⟨rfl,x,rfl,a1,a2,a3,λ_=>eb.symm⟩
  | false=>exact⟨rfl,rfl,by omega,by omega,a3.next O hp (by omega) (by omega) eb.symm⟩
 ·rintro c ai ⟨rfl,rfl,a1,a2,a3⟩
  rw [Nat.max_eq_right hm]at a3 ⊢
  exact⟨rfl,ao,rfl,hm,Yaf _,a3,λz=>absurd z (Yc9 _)⟩
 ·rintro c ai ⟨rfl,k,rfl,a1,a2,a3,a4⟩
  exact hQ k a1 a2 a3 a4
theorem Wj(O:WeakOrd n lt)(hc:Cmp prog w A κ it n lt s)(hp:In n p){lo ao m:Nat}(h1:1<=m)(hm:m<=ao)(hs:lo+ao<=p.size)(h:Ug lt p lo m){Q:Option Nat->SortSt->Prop}
  (hQ:∀k p',1<=k->k<=ao->Kept p p' lo (lo+ao)->Seg lt p' lo k->Q (some k) (SS κ it p' pd g)):wpS (model prog w) A E s (Wh lo ao m) Q (SS κ it p pd g):=by
 unfold Wh
 refine Yai (Rf ?_)
 have hk:Kept p (rvs p lo (lo+m)) lo (lo+ao):=(Fw (by omega)).mono (Yaf _) (by omega)
 have hU:Seg lt (rvs p lo (lo+m)) lo m:=λi j a1 a2 a3=>by
  rw [Df (by omega),Df (by omega),Yak ⟨by omega,a3⟩,Yak ⟨a1,by omega⟩]
  exact h _ _ (by omega) (by omega) (by omega)
 have bu:=hk.in hp
 have gy:lo+ao<=(rvs p lo (lo+m)).size:=by rw [hk.size];exact hs
 refine Yai (Qbg O hc bu h1 hm gy hU (λx k Q' k1 k2 q=>?_) λk k1 k2 k3 _=>Yao (hQ k _ (by omega) k2 hk k3))
 refine Yai (Gq hc bu (by omega) (by omega) ?_)
 dsimp only
 have:=q _ rfl
 by_cases e:lt (at0 (rvs p lo (lo+m)) (lo+k)) (at0 (rvs p lo (lo+m)) (lo+k - 1))=true
 ·rw [Yak e]at this ⊢;exact Yao this
 ·rw [Yah e]at this ⊢;exact Yao this
theorem Wk(O:WeakOrd n lt)(hc:Cmp prog w A κ it n lt s)(hp:In n p){lo ao m:Nat}(h1:1<=m)(hm:m+1<=ao)(hs:lo+ao<=p.size)(h:Ug lt p lo (m+1)){Q:Option Nat->SortSt->Prop}
  (hQ:∀k p',1<=k->k<=ao->Kept p p' lo (lo+ao)->Seg lt p' lo k->Q (some k) (SS κ it p' pd g)):wpS (model prog w) A E s (Wi lo ao m) Q (SS κ it p pd g):=by
 unfold Wi
 refine Yai (wpS_lift (Yb8 ⟨rfl,?_⟩))
 have one:∀p':Array Nat,In n p'->p'.size=p.size->∀k,k < ao->EqS lt p' (lo+(k+1) - (0+1)) (lo+(k+1)):=λp' bu hz k hk i j a1 a2 a3 a4=>by
  have hi:i=lo+k:=by omega
  have hj:j=lo+k:=by omega
  rw [hi,hj]
  exact O.irr (bu _ (by omega))
 refine Yai (Ycq (Yby (I:=λx c ai=>∃p' q,ai=SS κ it p' pd g/\c=(none,x,q)/\Kept p p' lo (lo+ao)/\q+1<=x/\x<=ao/\Ug lt p' lo x/\EqS lt p' (lo+x - (q+1)) (lo+x))
  (Q:=λc ai=>∃p' k q,ai=SS κ it p' pd g/\c=(none,k,q)/\Kept p p' lo (lo+ao)/\q+1<=k/\k<=ao/\Ug lt p' lo k/\EqS lt p' (lo+k - (q+1)) (lo+k)) ?_ ?_ ⟨p,0,rfl,rfl,.refl,by omega,hm,h,one p hp rfl m (by omega)⟩) ?_)
 ·rintro x c ai _ hx ⟨p',q,rfl,rfl,K,q1,q2,D,e⟩
  have bu:=K.in hp
  have hz:=K.size
  dsimp only
  refine Yai (Gq hc bu (by omega) (by omega) ?_)
  dsimp only
  cases c1:lt (at0 p' (lo+x)) (at0 p' (lo+x - 1)) with
  | true =>
   rw [Yak rfl]
   have c2:=O.asy _ _ (bu _ (by omega)) (bu _ (by omega)) c1
   by_cases hq:q > 0
   ·rw [Yak hq]
    refine Yai (Rf (Yao ?_))
    have K2:Kept p' (rvs p' (lo+x - (q+1)) (lo+x)) lo (lo+ao):=(Fw (by omega)).mono (by omega) (by omega)
    have fv:=K2.in bu
    refine⟨_,0,rfl,rfl,K.trans K2,by omega,by omega,(D.turn (by omega) (by omega) e).next O fv (by omega) (by rw [K2.size];omega) ?_,one _ fv (K2.size.trans hz) x (by omega)⟩
    rw [Df (by omega),Yak ⟨by omega,by omega⟩,Df (by omega),Yah (by omega),show lo+x - (q+1)+(lo+x) - 1 - (lo+x - 1)=lo+x - (q+1) by omega]
    exact O.tr _ _ _ (bu _ (by omega)) (bu (lo+x - 1) (by omega)) (bu _ (by omega)) c2 (e _ _ (by omega) (by omega) (by omega) (by omega))
   ·rw [Yah hq]
    exact Yao ⟨_,0,rfl,rfl,K,by omega,by omega,D.next O bu (by omega) (by omega) c2,one _ bu hz x (by omega)⟩
  | false =>
   rw [Yah Yad]
   refine Yai (Gq hc bu (by omega) (by omega) ?_)
   dsimp only
   cases c2:lt (at0 p' (lo+x - 1)) (at0 p' (lo+x)) with
   | true =>
    rw [Yak rfl]
    exact Yao ⟨_,x,q,rfl,rfl,K,q1,q2,D,e⟩
   | false =>
    rw [Yah Yad]
    refine Yao ⟨_,q+1,rfl,rfl,K,by omega,by omega,D.next O bu (by omega) (by omega) c2,λi j a1 a2 a3 a4=>?_⟩
    by_cases hi:i=lo+x
    ·subst hi
     by_cases hj:j=lo+x
     ·subst hj;exact O.irr (bu _ (by omega))
     ·exact O.tr _ _ _ (bu j (by omega)) (bu (lo+x - 1) (by omega)) (bu (lo+x) (by omega)) (e (lo+x - 1) j (by omega) (by omega) (by omega) (by omega)) c1
    ·by_cases hj:j=lo+x
     ·subst hj
      exact O.tr _ _ _ (bu (lo+x) (by omega)) (bu (lo+x - 1) (by omega)) (bu i (by omega)) c2 (e i (lo+x - 1) (by omega) (by omega) (by omega) (by omega))
     ·exact e i j (by omega) (by omega) (by omega) (by omega)
 ·rintro c ai ⟨p',q,rfl,rfl,K,q1,q2,D,e⟩
  exact⟨p',_,q,rfl,rfl,K,q1,q2,D,e⟩
 ·rintro c ai ⟨p',k,q,rfl,rfl,K,q1,q2,D,e⟩
  have bu:=K.in hp
  have hz:=K.size
  dsimp only
  by_cases hq:q > 0
  ·rw [Yak hq]
   have K2:Kept p' (rvs p' (lo+k - (q+1)) (lo+k)) lo (lo+ao):=(Fw (by omega)).mono (by omega) (by omega)
   refine Yai (Rf (Wj O hc (K2.in bu) (by omega) q2 (by rw [K2.size];omega) (D.turn (by omega) (by omega) e) λk' qt a1 a2 a3 a4=>hQ k' qt a1 a2 ((K.trans K2).trans a3) a4))
  ·rw [Yah hq]
   exact Wj O hc bu (by omega) q2 (by omega) D λk' qt a1 a2 a3 a4=>hQ k' qt a1 a2 (K.trans a3) a4
theorem Zm(O:WeakOrd n lt)(hc:Cmp prog w A κ it n lt s)(hp:In n p){lo ao:Nat}(h1:1<=ao)(hs:lo+ao<=p.size){Q:Option Nat->SortSt->Prop}
  (hQ:∀k p',1<=k->k<=ao->Kept p p' lo (lo+ao)->Seg lt p' lo k->Q (some k) (SS κ it p' pd g)):wpS (model prog w) A E s (countRun' lo ao) Q (SS κ it p pd g):=by
 rw [Mg]
 refine Yai (Qbg O hc hp (Yaf 1) h1 hs (λi j a1 a2 a3=>by omega) (λx k Q' k1 k2 q=>?_) λk k1 k2 k3 k4=>?_)
 ·refine Yai (Gq hc hp (by omega) (by omega) ?_)
  dsimp only
  have:=q _ rfl
  by_cases e:lt (at0 p (lo+k)) (at0 p (lo+k - 1))=true
  ·rw [Yak e]at this ⊢;exact Yao this
  ·rw [Yah e]at this ⊢;exact Yao this
 dsimp only
 by_cases e:k=ao
 ·rw [Yak (by simpa using e)]
  exact Yao (hQ k p k1 k2 .refl k3)
 rw [Yah (by simpa using e)]
 have c1:=k4 (by omega)
 have c2:=O.asy _ _ (hp (lo+k) (by omega)) (hp (lo+k - 1) (by omega)) c1
 by_cases e1:k > 1
 ·rw [Yak e1]
  refine Yai (Gq hc hp (by omega) (by omega) ?_)
  dsimp only
  cases e2:lt (at0 p lo) (at0 p (lo+k - 1)) with
  | true =>
   rw [Yak rfl]
   exact Yao (hQ k p k1 k2 .refl k3)
  | false =>
   rw [Yah Yad]
   have K:Kept p (rvs p lo (lo+k)) lo (lo+ao):=(Fw (by omega)).mono (Yaf _) (by omega)
   have up:∀i j,lo<=i->i<=j->j < lo+k->lt (at0 p j) (at0 p i)=false:=λi j a1 a2 a3=>by
    rcases Ya0 a2 with rfl | a2
    ·exact O.irr (hp _ (by omega))
    ·exact k3 i j a1 a2 a3
   have all:EqS lt p lo (lo+k):=λi j a1 a2 a3 a4 =>
    O.tr _ _ _ (hp j (by omega)) (hp lo (by omega)) (hp i (by omega)) (O.tr _ _ _ (hp j (by omega)) (hp (lo+k - 1) (by omega)) (hp lo (by omega)) (up j (lo+k - 1) a3 (by omega) (by omega)) e2) (up lo i (Yaf _) a1 a2)
   have D:Ug lt (rvs p lo (lo+k)) lo k:=λi j a1 a2 a3=>by
    rw [Df (by omega),Df (by omega),Yak ⟨a1,by omega⟩,Yak ⟨by omega,a3⟩]
    exact all _ _ (by omega) (by omega) (by omega) (by omega)
   refine Yai (Rf (Wk O hc (K.in hp) k1 (by omega) (by rw [K.size];omega) (D.next O (K.in hp) k1 (by rw [K.size];omega) ?_) λk' qt a1 a2 a3 a4=>hQ k' qt a1 a2 (K.trans a3) a4))
   rw [Df (by omega),Yak ⟨by omega,by omega⟩,Df (by omega),Yah (by omega),show lo+(lo+k) - 1 - (lo+k - 1)=lo by omega]
   exact O.tr _ _ _ (hp _ (by omega)) (hp (lo+k - 1) (by omega)) (hp lo (by omega)) c2 (all lo (lo+k - 1) (Yaf _) (by omega) (by omega) (by omega))
 ·rw [Yah e1]
  have k0:k=1:=by omega
  subst k0
  refine Wk O hc hp (Yaf 1) (by omega) hs (Ug.next O hp (m:=1) (λi j a1 a2 a3=>by omega) (Yaf 1) (by omega) c2) hQ
end
section
variable {prog:Program}{w:World}{A:Around}{E:Value->Shared->Prop}{s:Shared}{κ:SortKind}{it:Array Keyed}{n:Nat}{lt:Nat->Nat->Bool}{p:Array Nat}{pd:Array (Nat×Nat×Nat)}{g:Nat}
theorem Qdr{src d:Nat}(hs:src < p.size)(hd:d<=src)(k:Nat):at0 (bubble p src d) k=if k=src - d then at0 p src else if src - d < k/\k<=src then at0 p (k - 1) else at0 p k:=by
 have e:=getElem?_bubble hs d hd k
 by_cases h1:k=src - d
 ·rw [Yak h1]at e ⊢;exact Fk e
 ·rw [Yah h1]at e ⊢
  by_cases h2:src - d < k/\k<=src
  ·rw [Yak h2]at e ⊢;exact Fk e
  ·rw [Yah h2]at e ⊢;exact Fk e
theorem Qds{src qj:Nat}{Q:Unit->SortSt->Prop}(h:Q () (SS κ it (bubble p src (src - qj)) pd g)):wpS (model prog w) A E s (moveDown' src qj) Q (SS κ it p pd g):=by
 rw [moveDown'_eq]
 refine Yc7 ?_
 have e:bubble (p.map (kas_item it)) src (src - qj)=(bubble p src (src - qj)).map (kas_item it):=kas_swaps_map _ _ _ _ _
 show Q () (SortSt.mk' κ (bubble (p.map (kas_item it)) src (src - qj)) pd g none)
 rw [e];exact h
theorem Wl(O:WeakOrd n lt)(hc:Cmp prog w A κ it n lt s)(hp:In n p){lo m ok:Nat}(h1:1<=ok)(hm:ok<=m)(hs:lo+m<=p.size)(h:Seg lt p lo ok){Q:Bool->SortSt->Prop}
  (hQ:∀p',Kept p p' lo (lo+m)->Seg lt p' lo m->Q true (SS κ it p' pd g)):wpS (model prog w) A E s (binarySort' lo m ok) Q (SS κ it p pd g):=by
 rw [binarySort'_eq,Nat.max_eq_left h1]
 refine Yai (Ycq (Yby (I:=λx c ai=>∃p',ai=SS κ it p' pd g/\c=(none,())/\Kept p p' lo (lo+m)/\Seg lt p' lo x/\x<=m) (Q:=λc ai=>∃p',ai=SS κ it p' pd g/\c=(none,())/\Kept p p' lo (lo+m)/\Seg lt p' lo m) ?_ ?_ ⟨p,rfl,rfl,.refl,h,hm⟩) ?_)
 ·rintro x c ai hx0 hx ⟨p',rfl,rfl,K,S,_⟩
  have bu:=K.in hp
  have hz:=K.size
  refine Yai (Ycq (Yby (I:=λy c ai=>ai=SS κ it p' pd g/\∃l r,c=(none,l,r)/\l<=r/\r<=x/\r - l<=x - y/\(∀i,i < l->lt (at0 p' (lo+x)) (at0 p' (lo+i))=false)/\(∀i,r<=i->i < x->lt (at0 p' (lo+x)) (at0 p' (lo+i))=true))
   (Q:=λc ai=>ai=SS κ it p' pd g/\∃l,c=(none,l,l)/\l<=x/\(∀i,i < l->lt (at0 p' (lo+x)) (at0 p' (lo+i))=false)/\(∀i,l<=i->i < x->lt (at0 p' (lo+x)) (at0 p' (lo+i))=true)) ?_ ?_ ⟨rfl,0,x,rfl,by omega,Yaf _,by omega,λi hi=>absurd hi (Ydi _),λi a1 a2=>by omega⟩) ?_)
  ·rintro y c ai _ hy ⟨rfl,l,r,rfl,a1,a2,a3,a4,a5⟩
   dsimp only
   by_cases e:l>=r
   ·rw [Yak e]
    have:l=r:=by omega
    subst this
    exact Yao ⟨rfl,l,rfl,a2,a4,a5⟩
   ·rw [Yah e]
    refine Yai (Gq hc bu (by omega) (by omega) ?_)
    dsimp only
    cases c1:lt (at0 p' (lo+x)) (at0 p' (lo+(l+r) / 2)) with
    | true =>
     rw [Yak rfl]
     refine Yao ⟨rfl,l,(l+r) / 2,rfl,by omega,by omega,by omega,a4,λi b1 b2=>?_⟩
     rcases Ya0 b1 with rfl | b1
     ·exact c1
     ·exact O.low (bu _ (by omega)) (bu _ (by omega)) (bu _ (by omega)) c1 (S _ _ (by omega) (by omega) (by omega))
    | false =>
     rw [Yah Yad]
     refine Yao ⟨rfl,(l+r) / 2+1,r,rfl,by omega,by omega,by omega,λi b1=>?_,a5⟩
     rcases Ya0 (show i<=(l+r) / 2 by omega) with rfl | b2
     ·exact c1
     ·exact O.tr _ _ _ (bu _ (by omega)) (bu _ (by omega)) (bu _ (by omega)) (S (lo+i) (lo+(l+r) / 2) (by omega) (by omega) (by omega)) c1
  ·rintro c ai ⟨rfl,l,r,rfl,a1,a2,a3,a4,a5⟩
   have:l=r:=by omega
   subst this
   exact⟨rfl,l,rfl,a2,a4,a5⟩
  ·rintro c ai ⟨rfl,l,rfl,a2,a4,a5⟩
   dsimp only
   refine Yai (Qds (Yao ?_))
   have ed:lo+x - (lo+l)=x - l:=by omega
   rw [ed]
   have p7:=λk=>Qdr (p:=p') (src:=lo+x) (d:=x - l) (by omega) (by omega) k
   rw [show lo+x - (x - l)=lo+l by omega]at p7
   refine⟨_,rfl,rfl,K.trans ⟨bubble_size _ _ _,(bubble_perm p' _ _).toList,λi hi=>by rw [p7,Yah (by omega),Yah (by omega)]⟩,λi j b1 b2 b3=>?_,by omega⟩
   rw [p7 i,p7 j]
   by_cases i1:i=lo+l
   ·rw [Yak i1,Yah (by omega),Yak (by omega)]
    have:=a5 (j - 1 - lo) (by omega) (by omega)
    rw [show lo+(j - 1 - lo)=j - 1 by omega]at this
    exact O.asy _ _ (bu _ (by omega)) (bu _ (by omega)) this
   ·rw [Yah i1]
    by_cases j1:j=lo+l
    ·rw [Yak j1,Yah (by omega)]
     have:=a4 (i - lo) (by omega)
     rwa [show lo+(i - lo)=i by omega]at this
    ·rw [Yah j1]
     by_cases i2:lo+l < i/\i<=lo+x
     ·rw [Yak i2,Yak (by omega)]
      exact S _ _ (by omega) (by omega) (by omega)
     ·rw [Yah i2]
      by_cases j2:lo+l < j/\j<=lo+x
      ·rw [Yak j2];exact S _ _ b1 (by omega) (by omega)
      ·rw [Yah j2];exact S _ _ b1 b2 (by omega)
 ·rintro c ai ⟨p',rfl,rfl,K,S,a⟩
  rw [Nat.max_eq_right hm]at S
  exact⟨p',rfl,rfl,K,S⟩
 ·rintro c ai ⟨p',rfl,rfl,K,S⟩
  exact Yao (hQ p' K S)
def Chain:List (Nat×Nat×Nat)->Nat->Nat->Prop
 | [],lo,hi=>lo=hi
 | (a,l,_) :: r,lo,hi=>a=lo/\0 < l/\Chain r (lo+l) hi
theorem Chain.le:∀{l:List (Nat×Nat×Nat)} {lo hi:Nat},Chain l lo hi->lo+l.length<=hi
 | [],_,_,h=>by cases h;simp
 | (a,l,_) :: r,lo,hi,h=>by have:=h.2.2.le;have:=h.2.1;rw [Ybp];omega
theorem Chain.app:∀{l m:List (Nat×Nat×Nat)} {lo hi:Nat},Chain (l++m) lo hi↔∃k,Chain l lo k/\Chain m k hi
 | [],m,lo,hi=>⟨λh=>⟨lo,rfl,h⟩,λ⟨k,e,h⟩=>by cases e;exact h⟩
 | (a,l,q) :: r,m,lo,hi=>by
  constructor
  ·rintro⟨h1,h2,h3⟩
   obtain⟨k,k1,k2⟩:=Chain.app.mp h3
   exact⟨k,⟨h1,h2,k1⟩,k2⟩
  ·rintro⟨k,⟨h1,h2,h3⟩,h4⟩
   exact⟨h1,h2,Chain.app.mpr ⟨k,h3,h4⟩⟩
theorem Chain.low:∀{l:List (Nat×Nat×Nat)} {lo hi:Nat},Chain l lo hi->∀e∈l,lo<=e.1/\e.1+e.2.1<=hi
 | (a,l,q) :: r,lo,hi,h,e,he=>by
  have h3:=h.2.2.le
  rcases Yat.mp he with rfl | he
  ·exact⟨by rw [h.1];exact Yaf _,by show a+l<=hi;rw [h.1];omega⟩
  ·have:=h.2.2.low e he
   exact⟨by have:=h.2.1;omega,this.2⟩
structure Wait(lt:Nat->Nat->Bool)(p:Array Nat)(l:List (Nat×Nat×Nat))(hi:Nat):Prop where
 ch:Chain l 0 hi
 sg:∀e∈l,Seg lt p e.1 e.2.1
theorem Wait.keep{p':Array Nat}{l:List (Nat×Nat×Nat)}{hi top:Nat}(h:Wait lt p l hi)(k:Kept p p' hi top):Wait lt p' l hi:=⟨h.ch,λe he=>(h.sg e he).kept k (.inl (h.ch.low e he).2)⟩
theorem Nn{l:List (Nat×Nat×Nat)}{i:Nat}{a b:Nat×Nat×Nat}(h1:l[i]?=some a)(h2:l[i+1]?=some b):l=l.take i++a :: b :: l.drop (i+2):=by
 obtain⟨k1,e1⟩:=List.getElem?_eq_some_iff.mp h1
 obtain⟨k2,e2⟩:=List.getElem?_eq_some_iff.mp h2
 have a1:=(Ydb i l).symm
 rw [Ybt k1,Ybt k2,e1,e2]at a1
 exact a1
theorem Zn{pd:Array (Nat×Nat×Nat)}{i:Nat}{a b c:Nat×Nat×Nat}(h1:pd[i]?=some a)(h2:pd[i+1]?=some b):((pd.setIfInBounds i c).eraseIdxIfInBounds (i+1)).toList=pd.toList.take i++c :: pd.toList.drop (i+2):=by
 have y9:pd.toList[i]?=some a:=by rw [Array.getElem?_toList];exact h1
 have h2':pd.toList[i+1]?=some b:=by rw [Array.getElem?_toList];exact h2
 have hi:=(List.getElem?_eq_some_iff.mp y9).1
 have hj:=(List.getElem?_eq_some_iff.mp h2').1
 rw [Array.toList_eraseIdxIfInBounds,Array.toList_setIfInBounds,List.eraseIdx_eq_take_drop_succ,List.take_set,List.drop_set_of_lt (by omega)]
 have e:=Nn y9 h2'
 have hl:(pd.toList.take i).length=i:=by rw [Ybs];omega
 rw [show i+1+1=i+2 by omega]
 have:(pd.toList.take (i+1)).set i c=pd.toList.take i++[c]:=by
  rw [Yds,y9,List.set_append_right _ _ (by omega),hl,Ye7];rfl
 rw [this,Ycs];rfl
theorem Iu(O:WeakOrd n lt)(hc:Cmp prog w A κ it n lt s)(hp:In n p){i hi:Nat}(hw:Wait lt p pd.toList hi)(hs:hi<=p.size)(lm:i+1 < pd.size){Q:Bool->SortSt->Prop}
  (h:∀p' bf g',Kept p p' 0 hi->Wait lt p' bf.toList hi->bf.size+1=pd.size->Q true (SS κ it p' bf g')):wpS (model prog w) A E s (mergeAt' i) Q (SS κ it p pd g):=by
 have e1:pd[i]?=some pd[i]:=Array.getElem?_eq_getElem (by omega)
 have e2:pd[i+1]?=some pd[i+1]:=Array.getElem?_eq_getElem lm
 generalize pd[i]'(by omega)=ea at e1
 generalize pd[i+1]=eb at e2
 obtain⟨sa,na,pw⟩:=ea
 obtain⟨sb,nb,wk⟩:=eb
 have l1:pd.toList[i]?=some (sa,na,pw):=by rw [Array.getElem?_toList];exact e1
 have l2:pd.toList[i+1]?=some (sb,nb,wk):=by rw [Array.getElem?_toList];exact e2
 have el:=Nn l1 l2
 have fw:=hw.ch
 rw [el]at fw
 obtain⟨k,c1,c2,c3,c4,c5,c6⟩:=Chain.app.mp fw
 subst c2
 subst c4
 have de:=c6.le
 refine Tk O hc hp e1 e2 c3 c5 (by omega) (hw.sg _ (Ybr l1)) (hw.sg _ (Ybr l2)) λp' g' K S=>?_
 have eu:=Zn (c:=(sa,na+nb,pw)) e1 e2
 refine h p' _ g' (K.mono (Ya6 _) (by omega)) ⟨?_,λe he=>?_⟩ ?_
 ·rw [eu]
  exact Chain.app.mpr ⟨sa,c1,rfl,by omega,by rw [<- Nat.add_assoc];exact c6⟩
 ·rw [eu]at he
  rcases Yap.mp he with he | he
  ·refine(hw.sg e (Yc2 he)).kept K (.inl ?_)
   exact(c1.low e he).2
  ·rcases Yat.mp he with rfl | he
   ·exact S
   ·refine(hw.sg e (Yde he)).kept K (.inr ?_)
    exact(c6.low e he).1
 ·have:=Ydl List.length eu
  have hz:=Ydl List.length el
  simp only [List.length_append,List.length_cons,Array.length_toList]at this hz
  omega
end
section
variable {prog:Program}{w:World}{A:Around}{E:Value->Shared->Prop}{s:Shared}{κ:SortKind}{it:Array Keyed}{n:Nat}{lt:Nat->Nat->Bool}{p:Array Nat}{pd:Array (Nat×Nat×Nat)}{g:Nat}
theorem Chain.mod{f:Nat×Nat×Nat->Nat×Nat×Nat}(hf:∀e,(f e).1=e.1/\(f e).2.1=e.2.1):∀{l:List (Nat×Nat×Nat)} {i lo hi:Nat},Chain l lo hi->Chain (l.modify i f) lo hi
 | [],i,lo,hi,h=>by rw [List.modify_nil];exact h
 | (a,l,q) :: r,0,lo,hi,h=>by
  rw [List.modify_zero_cons]
  have:=hf (a,l,q)
  generalize f (a,l,q)=e at this
  obtain⟨a',l',q'⟩:=e
  obtain⟨h1,h2⟩:=this
  dsimp only at h1 h2
  subst h1
  subst h2
  exact h
 | (a,l,q) :: r,i+1,lo,hi,h=>by
  rw [List.modify_succ_cons]
  exact⟨h.1,h.2.1,h.2.2.mod hf⟩
theorem Rg{f:Nat×Nat×Nat->Nat×Nat×Nat}:∀{l:List (Nat×Nat×Nat)} {i:Nat} {e:Nat×Nat×Nat},e∈l.modify i f->∃e'∈l,e=e'\/e=f e'
 | [],i,e,h=>by rw [List.modify_nil]at h;cases h
 | a :: r,0,e,h=>by
  rw [List.modify_zero_cons]at h
  rcases Yat.mp h with rfl | h
  ·exact⟨a,.head _,.inr rfl⟩
  ·exact⟨e,.tail _ h,.inl rfl⟩
 | a :: r,i+1,e,h=>by
  rw [List.modify_succ_cons]at h
  rcases Yat.mp h with rfl | h
  ·exact⟨e,.head _,.inl rfl⟩
  ·obtain⟨e',h1,h2⟩:=Rg h
   exact⟨e',.tail _ h1,h2⟩
theorem Wait.modify{f:Nat×Nat×Nat->Nat×Nat×Nat}(hf:∀e,(f e).1=e.1/\(f e).2.1=e.2.1){i hi:Nat}(h:Wait lt p pd.toList hi):Wait lt p (pd.modify i f).toList hi:=by
 rw [Array.toList_modify]
 refine⟨h.ch.mod hf,λe he=>?_⟩
 obtain⟨e',h1,h2⟩:=Rg he
 have:=h.sg e' h1
 rcases h2 with rfl | rfl
 ·exact this
 ·rw [(hf e').1,(hf e').2];exact this
theorem Wait.push{lo m:Nat}(h:Wait lt p pd.toList lo)(hm:0 < m)(S:Seg lt p lo m):Wait lt p (pd.push (lo,m,0)).toList (lo+m):=by
 rw [Ye2]
 refine⟨Chain.app.mpr ⟨lo,h.ch,rfl,hm,rfl⟩,λe he=>?_⟩
 rcases Yap.mp he with he | he
 ·exact h.sg e he
 ·rw [Ya8.mp he];exact S
theorem Pj(O:WeakOrd n lt)(hc:Cmp prog w A κ it n lt s)(hp:In n p){Q:Unit->SortSt->Prop}(hQ:∀p' bf g',Kept p p' 0 p.size->Seg lt p' 0 p.size->Q () (SS κ it p' bf g')):wpS (model prog w) A E s sortRuns' Q (SS κ it p #[] g):=by
 rw [sortRuns'_eq]
 refine Yai (Yfl ?_)
 have ez:(arrOf (SS κ it p #[] g)).size=p.size:=by show(p.map _).size=_;rw [Ydt]
 rw [ez]
 generalize hN:p.size=N at hQ
 dsimp only
 generalize minRun' N N 0=mr
 refine Yai (Ycq (Yby (I:=λx c ai=>∃p' bf g' lo,ai=SS κ it p' bf g'/\c=(none,lo)/\Kept p p' 0 N/\Wait lt p' bf.toList lo/\lo<=N/\x<=lo) (Q:=λc ai=>∃p' bf g',ai=SS κ it p' bf g'/\c=(none,N)/\Kept p p' 0 N/\Wait lt p' bf.toList N) ?_ ?_ ⟨p,#[],g,0,rfl,rfl,.refl,⟨rfl,λe he=>by simp at he⟩,Ya6 _,Yaf _⟩) ?_)
 ·rintro x c ai _ hx ⟨p',bf,g',lo,rfl,rfl,K,W,yh,hxl⟩
  have bu:=K.in hp
  have hz:=K.size
  dsimp only
  by_cases e:lo>=N
  ·rw [Yak e]
   have:lo=N:=by omega
   subst this
   exact Yao ⟨p',bf,g',rfl,rfl,K,W⟩
  rw [Yah e]
  refine Yai (Zm O hc bu (show 1<=N - lo by omega) (by omega) λk p1 k1 k2 K1 S1=>?_)
  rw [show lo+(N - lo)=N by omega]at K1
  dsimp only
  have yes:∀(p2:Array Nat) (j5:Array (Nat×Nat×Nat)) (g2 m:Nat),Kept p p2 0 N->Wait lt p2 j5.toList lo->Seg lt p2 lo m->1<=m->lo+m<=N ->
    ∃p' bf g' oj,SS κ it p2 (j5.push (lo,m,0)) g2=SS κ it p' bf g'/\((none:Option Unit),lo+m)=(none,oj)/\Kept p p' 0 N/\Wait lt p' bf.toList oj/\oj<=N/\x+1<=oj:=λp2 j5 g2 m K2 W2 S2 m1 m2=>⟨p2,_,g2,lo+m,rfl,rfl,K2,W2.push m1 S2,m2,by omega⟩
  by_cases e1:k < mr
  ·rw [Yak e1]
   refine Yai (wpS_lift (Yb8 ⟨rfl,?_⟩))
   refine Yai (Wl O hc (K1.in bu) k1 (m:=min (N - lo) mr) (by omega) (by rw [K1.size];omega) S1 λp2 Kb S2=>?_)
   rw [Yah (show ¬(!true)=true by decide)]
   have K2:Kept p p2 0 N:=(K.trans (K1.mono (Ya6 _) (Yaf _))).trans (Kb.mono (Ya6 _) (by omega))
   have W2:Wait lt p2 bf.toList lo:=(W.keep K1).keep Kb
   refine Yai (Yfl ?_)
   show wpS _ _ _ _ (match bf.back? with
    | some (s1,n1,_)=>_
    | _=>_) _ _
   cases eb:bf.back? with
   | none =>
    dsimp only
    exact Yai (Yc7 (Yao (yes p2 bf g' _ K2 W2 S2 (by omega) (by omega))))
   | some e =>
    obtain⟨s1,n1,q1⟩:=e
    dsimp only
    refine Yai (Ycq (Yby (I:=λ_ c ai=>∃p3 cw g3,ai=SS κ it p3 cw g3/\c=(none,())/\Kept p2 p3 0 lo/\Wait lt p3 cw.toList lo) (Q:=λc ai=>∃p3 cw g3,ai=SS κ it p3 cw g3/\c=(none,())/\Kept p2 p3 0 lo/\Wait lt p3 cw.toList lo) ?_ (λ_ _ z=>z) ⟨p2,bf,g',rfl,rfl,.refl,W2⟩) ?_)
    ·rintro y c ai _ _ ⟨p3,cw,g3,rfl,rfl,K3,W3⟩
     refine Yai (Yfl ?_)
     have qw:=K3.in (K2.in hp)
     have z3:p3.size=N:=by rw [K3.size,K2.size,hN]
     have rg:pendingOf (SS κ it p3 cw g3)=cw:=rfl
     rw [rg]
     by_cases c1:cw.size > 1
     ·rw [Yak c1,Array.getElem?_eq_getElem (by omega)]
      generalize cw[cw.size - 2]'(by omega)=e3
      obtain⟨u1,u2,u3⟩:=e3
      dsimp only
      by_cases c2:u3<=power' N (2 * s1+n1) (2 * s1+n1+n1+min (N - lo) mr) N
      ·rw [Yak c2]
       exact Yao ⟨p3,cw,g3,rfl,rfl,K3,W3⟩
      ·rw [Yah c2]
       refine Yai (Iu O hc qw (i:=cw.size - 2) W3 (by omega) (by omega) λp4 yf g4 K4 W4 _=>?_)
       rw [Yah (show ¬(!true)=true by decide)]
       exact Yao ⟨p4,yf,g4,rfl,rfl,K3.trans K4,W4⟩
     ·rw [Yah c1]
      exact Yao ⟨p3,cw,g3,rfl,rfl,K3,W3⟩
    ·rintro c ai ⟨p3,cw,g3,rfl,rfl,K3,W3⟩
     dsimp only
     refine Yai (Yc7 (Yai (Yc7 (Yao ?_))))
     exact yes p3 _ g3 _ (K2.trans (K3.mono (Yaf _) (by omega))) (Wait.modify (i:=cw.size - 1) (f:=λx=>(x.1,x.2.1,power' N (2 * s1+n1) (2 * s1+n1+n1+min (N - lo) mr) N)) (λe=>⟨rfl,rfl⟩) W3) (S2.kept K3 (.inr (Yaf _))) (by omega) (by omega)
  ·rw [Yah e1]
   obtain⟨p2,e2⟩:∃p2,p2=p1:=⟨_,rfl⟩
   subst e2
   have S2:=S1
   have K2:Kept p p2 0 N:=K.trans (K1.mono (Ya6 _) (Yaf _))
   have W2:Wait lt p2 bf.toList lo:=W.keep K1
   refine Yai (Yfl ?_)
   show wpS _ _ _ _ (match bf.back? with
    | some (s1,n1,_)=>_
    | _=>_) _ _
   cases eb:bf.back? with
   | none =>
    dsimp only
    exact Yai (Yc7 (Yao (yes p2 bf g' _ K2 W2 S2 k1 (by omega))))
   | some e =>
    obtain⟨s1,n1,q1⟩:=e
    dsimp only
    refine Yai (Ycq (Yby (I:=λ_ c ai=>∃p3 cw g3,ai=SS κ it p3 cw g3/\c=(none,())/\Kept p2 p3 0 lo/\Wait lt p3 cw.toList lo) (Q:=λc ai=>∃p3 cw g3,ai=SS κ it p3 cw g3/\c=(none,())/\Kept p2 p3 0 lo/\Wait lt p3 cw.toList lo) ?_ (λ_ _ z=>z) ⟨p2,bf,g',rfl,rfl,.refl,W2⟩) ?_)
    ·rintro y c ai _ _ ⟨p3,cw,g3,rfl,rfl,K3,W3⟩
     refine Yai (Yfl ?_)
     have qw:=K3.in (K2.in hp)
     have z3:p3.size=N:=by rw [K3.size,K2.size,hN]
     have rg:pendingOf (SS κ it p3 cw g3)=cw:=rfl
     rw [rg]
     by_cases c1:cw.size > 1
     ·rw [Yak c1,Array.getElem?_eq_getElem (by omega)]
      generalize cw[cw.size - 2]'(by omega)=e3
      obtain⟨u1,u2,u3⟩:=e3
      dsimp only
      by_cases c2:u3<=power' N (2 * s1+n1) (2 * s1+n1+n1+k) N
      ·rw [Yak c2]
       exact Yao ⟨p3,cw,g3,rfl,rfl,K3,W3⟩
      ·rw [Yah c2]
       refine Yai (Iu O hc qw (i:=cw.size - 2) W3 (by omega) (by omega) λp4 yf g4 K4 W4 _=>?_)
       rw [Yah (show ¬(!true)=true by decide)]
       exact Yao ⟨p4,yf,g4,rfl,rfl,K3.trans K4,W4⟩
     ·rw [Yah c1]
      exact Yao ⟨p3,cw,g3,rfl,rfl,K3,W3⟩
    ·rintro c ai ⟨p3,cw,g3,rfl,rfl,K3,W3⟩
     dsimp only
     refine Yai (Yc7 (Yai (Yc7 (Yao ?_))))
     exact yes p3 _ g3 _ (K2.trans (K3.mono (Yaf _) (by omega))) (Wait.modify (i:=cw.size - 1) (f:=λx=>(x.1,x.2.1,power' N (2 * s1+n1) (2 * s1+n1+n1+k) N)) (λe=>⟨rfl,rfl⟩) W3) (S2.kept K3 (.inr (Yaf _))) k1 (by omega)
 ·rintro c ai ⟨p',bf,g',lo,rfl,rfl,K,W,yh,hxl⟩
  have:lo=N:=by omega
  subst this
  exact⟨p',bf,g',rfl,rfl,K,W⟩
 ·rintro c ai ⟨p',bf,g',rfl,rfl,K,W⟩
  dsimp only
  have h0:bf.size<=N:=by have:=W.ch.le;rw [Yal]at this;omega
  refine Yai (Ycq (Yby (I:=λx c ai=>∃p' bf g',ai=SS κ it p' bf g'/\c=(none,())/\Kept p p' 0 N/\Wait lt p' bf.toList N/\(bf.size<=1\/bf.size+x<=N)) (Q:=λc ai=>∃p' bf g',ai=SS κ it p' bf g'/\c=(none,())/\Kept p p' 0 N/\Wait lt p' bf.toList N/\bf.size<=1) ?_ ?_ ⟨p',bf,g',rfl,rfl,K,W,.inr (by omega)⟩) ?_)
  ·clear K W h0
   rintro x c ai _ hx ⟨p',bf,g',rfl,rfl,K,W,bz⟩
   refine Yai (Yfl ?_)
   have rg:pendingOf (SS κ it p' bf g')=bf:=rfl
   rw [rg]
   by_cases e1:bf.size<=1
   ·rw [Yak e1]
    exact Yao ⟨p',bf,g',rfl,rfl,K,W,e1⟩
   rw [Yah e1]
   have go:∀i,i+1 < bf.size->wpS (model prog w) A E s (mergeAt' i) (λb ai=>b=true/\∃p2 j5 g2,ai=SS κ it p2 j5 g2/\Kept p p2 0 N/\Wait lt p2 j5.toList N/\(j5.size<=1\/j5.size+(x+1)<=N)) (SS κ it p' bf g'):=λi hi =>
    Iu O hc (K.in hp) W (by rw [K.size];omega) hi λp2 j5 g2 K2 W2 hz2=>⟨rfl,p2,j5,g2,rfl,K.trans K2,W2,by omega⟩
   refine Yai (Ycq (go _ ?_) ?_)
   ·have lem:∀(c:Prop) [Decidable c],(if c then bf.size - 2 - 1 else bf.size - 2)+1 < bf.size:=λc _=>by
     by_cases h:c
     ·rw [Yak h];omega
     ·rw [Yah h];omega
    exact lem _
   ·rintro b ai ⟨rfl,p2,j5,g2,rfl,K2,W2,h2⟩
    rw [Yah (show ¬(!true)=true by decide)]
    exact Yao ⟨p2,j5,g2,rfl,rfl,K2,W2,h2⟩
  ·rintro c ai ⟨p',bf,g',rfl,rfl,K,W,bz⟩
   exact⟨p',bf,g',rfl,rfl,K,W,by omega⟩
  ·clear K W h0
   rintro c ai ⟨p',bf,g',rfl,rfl,K,W,bz⟩
   refine Yao (hQ p' bf g' K ?_)
   have fw:=W.ch
   have hsg:=W.sg
   rw [<- Yal]at bz
   generalize bf.toList=l at fw hsg bz
   match l,fw,hsg,bz with
   | [],h,_,_=>cases h;exact λi j _ _ h3=>by omega
   | [(a,m,q)],h,hs,_ =>
    obtain⟨h1,h2,h3⟩:=h
    have:=hs (a,m,q) (.head _)
    have h3:0+m=N:=h3
    rw [h1,show m=N by omega]at this
    exact this
   | _ :: _ :: _,_,_,h=>simp at h
theorem StrictOrd.weak(O:StrictOrd n lt):WeakOrd n lt:=by
 have asy:∀a b,a < n->b < n->lt a b=true->lt b a=false:=λa b ha hb h=>by
  cases c:lt b a with
  | false=>rfl
  | true =>
   have:=O.tr a b a ha hb ha h c
   rw [O.irr a ha]at this;cases this
 refine⟨λa b c ha hb hc h1 h2=>?_,asy⟩
 by_cases e1:b=a
 ·subst e1;exact h2
 by_cases e2:c=b
 ·subst e2;exact h1
 exact asy a c ha hc (O.tr a b c ha hb hc (O.tot b a hb ha e1 h1) (O.tot c b hc hb e2 h2))
theorem StrictOrd.up(O:StrictOrd n lt)(P:Pm n p)(h:UpW lt p n):Up lt p n:=λi j fh hj=>O.tot _ _ (P.lt j hj) (P.lt i (by omega)) (P.inj j i hj (by omega) (by omega)) (h i j fh hj)
theorem Zo{vs:List Value}{lt:Nat->Nat->Bool}(O:WeakOrd vs.length lt){κ:SortKind}(q2:∀i j C,i < vs.length->j < vs.length->C (lt i j) s->kas_ask prog w A κ vs i j C s){Q:SortSt->Shared->Prop}
  (hQ:∀(p:Array Nat) (st:SortSt),Pm vs.length p->UpW lt p vs.length->arrOf st=p.map (kas_item (vs.toArray.zip vs.toArray))->failedOf st=none->Q st s) :
  wpAny (model prog w) A ((sortRuns').run (SortSt.mk' κ (vs.toArray.zip vs.toArray) #[] 7 none)) (λr s'=>Q r.2 s') E s:=by
 have bz:(vs.toArray.zip vs.toArray).size=vs.length:=by simp
 have est:SortSt.mk' κ (vs.toArray.zip vs.toArray) #[] 7 none=SS κ (vs.toArray.zip vs.toArray) (List.toArray (List.range vs.length)) #[] 7:=by
  have e:=kas_range (vs.toArray.zip vs.toArray)
  rw [bz]at e
  show SortSt.mk' κ (vs.toArray.zip vs.toArray) #[] 7 none=SortSt.mk' κ ((List.toArray (List.range vs.length)).map (kas_item (vs.toArray.zip vs.toArray))) #[] 7 none
  rw [e]
 rw [est]
 have hc:Cmp prog w A κ (vs.toArray.zip vs.toArray) vs.length lt s:=λi j C hi hj h=>by
  have:=q2 i j C hi hj h
  rwa [kat_ask_eq rfl]at this
 have gt:In vs.length (List.toArray (List.range vs.length)):=λi hi=>by
  simp at hi
  simp [at0,Array.getD,hi]
 have i7:(List.toArray (List.range vs.length)).size=vs.length:=by simp
 have:=Pj (E:=E) (g:=7) O hc gt (Q:=λ_ st=>Q st s) λp' bf g' K S=>by
  have P:Pm vs.length p':=Qa8 (by have:=K.perm;simpa using this)
  refine hQ p' _ P (λi j fh hj=>?_) rfl rfl
  exact S i j (Ya6 _) fh (by rw [i7];omega)
 refine Ybk this (λr s' h=>?_) λ_ _ e=>e
 obtain⟨rfl,h⟩:=h
 exact h
end
end L2
namespace L2
open PySem
def Qdt(A:Around)(s:Shared)(u v:Value)(b:Bool):Prop:=∀(prog:Program) (w:World) (E:Value->Shared->Prop) (Q:Value->Shared->Prop),Q (.bool b) s->wpAny (model prog w) A (richCompare .Lt u v) Q E s
inductive LexAt (A:Around) (s:Shared):List Value->List Value->Bool->Prop
 | nil {ys:List Value}:LexAt A s [] ys (decide (0 < ys.length))
 | stop {x:Value} {xs:List Value}:LexAt A s (x :: xs) [] false
 | eq {x y:Value} {xs ys:List Value} {r:Bool}:SeqAt.EqAt A s x y true->LexAt A s xs ys r->LexAt A s (x :: xs) (y :: ys) r
 | ne {x y:Value} {xs ys:List Value} {r:Bool}:SeqAt.EqAt A s x y false->Qdt A s x y r->LexAt A s (x :: xs) (y :: ys) r
section
variable {prog:Program}{w:World}{A:Around}{E:Value->Shared->Prop}{s:Shared}
theorem LexAt.ends{xs ys:List Value}{r:Bool}(h:LexAt A s xs ys r)(e:xs.zip ys=[]):r=decide (xs.length < ys.length):=by
 cases h with
 | nil=>simp
 | stop=>simp
 | eq=>simp at e
 | ne=>simp at e
theorem Jz{a b:Addr}{oa ob:Obj}{xs ys:Array Value}{n k:Nat}{P:PySem.Fin->Shared->Prop}{r:Bool}(ha:s.heap.get? a=some oa)(hb:s.heap.get? b=some ob)(cb:ob.cls=.type "tuple") (da:oa.data=.seq xs n) (db:ob.data=.seq ys k)
  (h:LexAt A s xs.toList ys.toList r) (q:P (.done (.ret (.bool r))) s):wpAny (model prog w) A (Builtin.«tuple.__lt__» ⟨[.ref a,.ref b],[]⟩) P E s:=by
 have tb:s.TypeIs (.ref b) "tuple" := ⟨ob,hb,cb⟩
 refine(show wpAny _ _ (isInstance (.ref b) (.type "tuple") >>= _) _ _ s from Yaa (Ycj tb Ye8 ?_))
 rw [show(!true)=false from rfl,Yah Yad]
 refine Yaa (Ydu ha da (Yaa (Ydu hb db (Yaa ?_))))
 refine Yc8 _ (λleft aj s1=>aj.1=none/\s1=s/\∃us vs,left=List.zip us vs/\LexAt A s us vs r/\decide (us.length < vs.length)=decide (xs.size < ys.size)) _ ?_ ?_ _ _ ⟨rfl,rfl,xs.toList,ys.toList,rfl,h,by simp⟩
 ·rintro⟨u,v⟩ left aj s1 ⟨ea,rfl,us,vs,ez,hl,hn⟩
  cases hl with
  | nil=>simp at ez
  | stop=>simp at ez
  | eq h1 h2 =>
   simp only [List.zip_cons_cons,List.cons.injEq,Prod.mk.injEq]at ez
   obtain⟨⟨rfl,rfl⟩,rfl⟩:=ez
   refine Yaa (h1 prog w _ _ ?_)
   dsimp only
   rw [show(!true)=false from rfl,Yah Yad]
   exact Yab ⟨rfl,rfl,_,_,rfl,h2,by simpa using hn⟩
  | ne h1 h2 =>
   simp only [List.zip_cons_cons,List.cons.injEq,Prod.mk.injEq]at ez
   obtain⟨⟨rfl,rfl⟩,rfl⟩:=ez
   refine Yaa (h1 prog w _ _ ?_)
   simp only [Bool.not_false,if_true]
   exact Yaa (Yb8 (Yaa (h2 prog w _ _ (Yaa (Yab (Yab (Yab q)))))))
 ·rintro⟨a1,a2⟩ s1 ⟨ea,rfl,us,vs,ez,hl,hn⟩
  simp only at ea
  subst ea
  have e:=hl.ends ez.symm
  rw [e,hn]at q
  exact Yab q
theorem Pk{a b:Addr}{oa ob:Obj}{xs ys:Array Value}{n k:Nat}{r:Bool}(ha:s.heap.get? a=some oa)(hb:s.heap.get? b=some ob)(ca:oa.cls=.type "tuple") (cb:ob.cls=.type "tuple") (da:oa.data=.seq xs n) (db:ob.data=.seq ys k)
  (hu:A.units < cLine) (h:LexAt A.in1 s xs.toList ys.toList r):Qdt A s (.ref a) (.ref b) r:=λprog w E Q q =>
 wpAny_richCompare_same_room (T := "tuple") ⟨oa,ha,ca⟩ ⟨ob,hb,cb⟩ F.slot_tuple_lt (Ybb F.slot_tuple_lt ⟨oa,ha,ca⟩ F.entry_tuple_lt (Jz ha hb cb da db h ⟨_,rfl,(λz=>nomatch z),q⟩) (F.args_tuple_lt_2 _ _)) hu
end
mutual
def cmpb:PyData->PyData->Bool
 | .int _,.int _=>true
 | .tuple xs,.tuple ys=>cmpbs xs ys
 | _,_=>false
def cmpbs:List PyData->List PyData->Bool
 | [],_=>true
 | _ :: _,[]=>true
 | x :: xs,y :: ys=>if PyData.eqv x y then cmpbs xs ys else cmpb x y
end
theorem Mh{u a b c d:Nat}(h:u+min (max a b) (max c d) < cLine):u+min a c < cLine:=by omega
theorem Wm{u a b c d:Nat}(h:u+min (max a b) (max c d) < cLine):u+min b d < cLine:=by omega
mutual
theorem Iv:∀(x y:PyData) (A:Around) (s:Shared) (u v:Value) (as bs:List Addr),Reads s.heap u x as->Reads s.heap v y bs->x.canLay0=true->y.canLay0=true->cmpb x y=true->A.units+min x.depth y.depth < cLine->Qdt A s u v (E7 x y)
 | .int a,.int b,A,s,u,v,as,bs,r1,r2,_,_,_,_=>by
  cases r1;cases r2
  intro prog w E Q q
  have e:E7 (.int a) (.int b)=decide (a < b):=by simp [E7]
  rw [e]at q
  exact wpAny_lt_int q
 | .tuple xs,.tuple ys,A,s,u,v,as,bs,r1,r2,c1,c2,hc,hu=>by
  cases r1 with
  | tuple a1 a2 a3 a4 =>
   cases r2 with
   | tuple b1 b2 b3 b4 =>
    have e:E7 (.tuple xs) (.tuple ys)=Ck xs ys:=by simp [E7]
    rw [e]
    simp only [PyData.canLay0]at c1 c2
    simp only [cmpb]at hc
    simp only [PyData.depth]at hu
    refine Pk a1 b1 a2 b2 a3 b3 (by omega) (Et xs ys A.in1 s _ _ _ _ a4 b4 c1 c2 hc ?_)
    show A.units+1+_ < _
    omega
 | .int _,.none,_,_,_,_,_,_,_,_,_,_,h,_=>by simp [cmpb]at h
 | .int _,.bool _,_,_,_,_,_,_,_,_,_,_,h,_=>by simp [cmpb]at h
 | .int _,.str _,_,_,_,_,_,_,_,_,_,_,h,_=>by simp [cmpb]at h
 | .int _,.list _,_,_,_,_,_,_,_,_,_,_,h,_=>by simp [cmpb]at h
 | .int _,.tuple _,_,_,_,_,_,_,_,_,_,_,h,_=>by simp [cmpb]at h
 | .int _,.dict _,_,_,_,_,_,_,_,_,_,_,h,_=>by simp [cmpb]at h
 | .tuple _,.none,_,_,_,_,_,_,_,_,_,_,h,_=>by simp [cmpb]at h
 | .tuple _,.bool _,_,_,_,_,_,_,_,_,_,_,h,_=>by simp [cmpb]at h
 | .tuple _,.str _,_,_,_,_,_,_,_,_,_,_,h,_=>by simp [cmpb]at h
 | .tuple _,.list _,_,_,_,_,_,_,_,_,_,_,h,_=>by simp [cmpb]at h
 | .tuple _,.int _,_,_,_,_,_,_,_,_,_,_,h,_=>by simp [cmpb]at h
 | .tuple _,.dict _,_,_,_,_,_,_,_,_,_,_,h,_=>by simp [cmpb]at h
 | .none,_,_,_,_,_,_,_,_,_,_,_,h,_=>by simp [cmpb]at h
 | .bool _,_,_,_,_,_,_,_,_,_,_,_,h,_=>by simp [cmpb]at h
 | .str _,_,_,_,_,_,_,_,_,_,_,_,h,_=>by simp [cmpb]at h
 | .list _,_,_,_,_,_,_,_,_,_,_,_,h,_=>by simp [cmpb]at h
 | .dict _,_,_,_,_,_,_,_,_,_,_,_,h,_=>by simp [cmpb]at h
theorem Et:∀(xs ys:List PyData) (A:Around) (s:Shared) (us vs:List Value) (as bs:List Addr),ReadsAll s.heap us xs as->ReadsAll s.heap vs ys bs->PyData.canLayAll0 xs=true->PyData.canLayAll0 ys=true->cmpbs xs ys=true->A.units+min (PyData.depthAll xs) (PyData.depthAll ys) < cLine->LexAt A s us vs (Ck xs ys)
 | [],ys,A,s,us,vs,as,bs,r1,r2,_,_,_,_=>by
  cases r1
  have e:Ck [] ys=decide (0 < vs.length):=by
   cases r2 <;> simp [Ck]
  rw [e]
  exact .nil
 | x :: xs,[],A,s,us,vs,as,bs,r1,r2,_,_,_,_=>by
  cases r2
  cases r1 with
  | cons a1 a2 =>
   have e:Ck (x :: xs) []=false:=by simp [Ck]
   rw [e]
   exact .stop
 | x :: xs,y :: ys,A,s,us,vs,as,bs,r1,r2,c1,c2,hc,hu=>by
  simp only [PyData.canLayAll0,Bool.and_eq_true]at c1 c2
  simp only [PyData.depthAll]at hu
  cases r1 with
  | cons a1 a2 =>
   cases r2 with
   | cons b1 b2 =>
    have q:=Yd4 x y A s _ _ _ _ a1 b1 c1.1 c2.1 (Mh hu)
    simp only [cmpbs]at hc
    simp only [Ck]
    cases e:PyData.eqv x y with
    | true =>
     rw [e]at q hc
     exact .eq q (Et xs ys A s _ _ _ _ a2 b2 c1.2 c2.2 hc (Wm hu))
    | false =>
     rw [e]at q hc
     exact .ne q (Iv x y A s _ _ _ _ a1 b1 c1.1 c2.1 hc (Mh hu))
end
end L2
namespace L2
open PySem PySem.W PyProof.Rows
section
variable {prog:Program}{w:World}{A:Around}{E:Value->Shared->Prop}{s:Shared}
theorem Zp{fin b:Bool}{Q:Bool->Shared->Prop}:∀{us vs:List Value} {r:Bool},LexAt A s us vs r->fin=decide (us.length < vs.length)->∀i,Q r s->KatLex prog w A b fin Q (us.zip vs) (i+1) s:=by
 intro us vs r h
 induction h with
 | nil =>
  intro e i q
  have e':fin=decide (0 < _):=e
  rw [<- e']at q
  exact kat_nil q
 | stop =>
  intro e i q
  have e':fin=false:=by rw [e];simp
  rw [<- e']at q
  exact kat_nil q
 | eq h1 h2 ih =>
  intro e i q
  exact kat_cons (h1 prog w _ _ (kat_yes (ih (by rw [e];simp) (i+1) q)))
 | ne h1 h2 =>
  intro e i q
  refine kat_cons (h1 prog w _ _ (kat_no ?_))
  have eb:(b && i+1==0)=false:=by simp
  rw [eb]
  exact kat_one _ _ (h2 prog w _ _ (show PySem.W.BoolBack Q (.bool _) s from q))
theorem Qdu{x y:Addr}{a b:Int}{ra rb:List PyData}{as bs:List Addr}{Q:Bool->Shared->Prop}(r1:Reads s.heap (.ref x) (.tuple (.int a :: ra)) as)(r2:Reads s.heap (.ref y) (.tuple (.int b :: rb)) bs)(c1:(PyData.tuple (.int a :: ra)).canLay0=true)(c2:(PyData.tuple (.int b :: rb)).canLay0=true)
  (hc:cmpb (.tuple (.int a :: ra)) (.tuple (.int b :: rb))=true) (hu:A.units+64 < cLine) (hd:(PyData.tuple (.int a :: ra)).depth<=64) (q:Q (E7 (.tuple (.int a :: ra)) (.tuple (.int b :: rb))) s):wpAny (model prog w) A (keyLt' (tuples' true) (.ref x) (.ref y)) Q E s:=by
 cases r1 with
 | @tuple _ ox xs n _ _ a1 a2 a3 a4 =>
  cases r2 with
  | @tuple _ oy ys m _ _ b1 b2 b3 b4 =>
   refine kat_lt a1 a3 b1 b3 ?_
   simp only [PyData.canLay0,PyData.canLayAll0,Bool.and_eq_true]at c1 c2
   simp only [PyData.depth,PyData.depthAll]at hd
   simp only [cmpb,cmpbs]at hc
   simp only [E7,Ck]at q
   have ex:xs.size=xs.toList.length:=by simp
   have ey:ys.size=ys.toList.length:=by simp
   rw [ex,ey]
   generalize xs.toList=us at a4 ⊢
   generalize ys.toList=vs at b4 ⊢
   cases a4 with
   | cons u1 u2 =>
    cases b4 with
    | cons v1 v2 =>
     cases u1 with
     | int _ t =>
      cases v1 with
      | int _ t' =>
       rw [List.zip_cons_cons]
       have e0:=Yd4 (.int a) (.int b) A s _ _ _ _ (.int a t) (.int b t') rfl rfl (by simp [PyData.depth];omega)
       cases e:PyData.eqv (.int a) (.int b) with
       | true =>
        rw [e]at e0 hc q
        refine kat_cons (e0 prog w _ _ (kat_yes ?_))
        refine Zp (Et ra rb A s _ _ _ _ u2 v2 c1.2 c2.2 hc (by omega)) (by simp) 0 q
       | false =>
        rw [e]at e0 hc q
        refine kat_cons (e0 prog w _ _ (kat_no ?_))
        exact kat_lt_int q
theorem Iw{a:Addr}{vs:List Value}{lt:Nat->Nat->Bool}{n:Nat}{P:PySem.Fin->Shared->Prop}(ho:s.heap.get? a=some (seqObj "list" vs.toArray n)) (we:vs.length < 1000) (O:StrictOrd vs.length lt)
  (hk:2<=vs.length->∀h':Heap,(∀b o,b≠a->s.heap.get? b=some o->h'.get? b=some o)->∃ κ,(∀Q:SortKind->Shared->Prop,Q κ { s with heap:=h' }->wpAny (model prog w) A (keyKind' vs.toArray) Q E { s with heap:=h' }) /\
   ∀i j C,i < vs.length->j < vs.length->C (lt i j) { s with heap:=h' }->kas_ask prog w A κ vs i j C { s with heap:=h' })
  (h:∀(p:Array Nat) (h':Heap) (c:Nat),Pm vs.length p->Up lt p vs.length->(∀b o,b≠a->s.heap.get? b=some o->h'.get? b=some o)->h'.get? a=some (seqObj "list" (p.toList.map λi=>vs.getD i Value.none).toArray c)->P (.done (.ret .none)) { s with heap:=h' }) :
  wpAny (model prog w) A (Builtin.«list.sort» ⟨[.ref a],[]⟩) P E s:=by
 obtain⟨e1,ho1⟩:∃e1,(s.heap.update a (Obj.mapSeq λ_=>(#[]:Array Value))).get? a=some (seqObj "list" #[] e1):=⟨_,get?_update_seq ho λ_=>#[]⟩
 have sz:vs.toArray.size<=sizeLine:=by rw [Yan];exact Yas (Yco we) (by decide)
 have k2:∀b o,b≠a->s.heap.get? b=some o->(((s.heap.update a (Obj.mapSeq λ_=>(#[]:Array Value))).push (seqObj "tuple" vs.toArray 0)).push (seqObj "list" #[] 0)).get? b=some o:=λb o hb e =>
  Heap.get?_push_of_some _ (Heap.get?_push_of_some _ (((Ybn s.heap a _).2 b hb).trans e))
 have i6:(((s.heap.update a (Obj.mapSeq λ_=>(#[]:Array Value))).push (seqObj "tuple" vs.toArray 0)).push (seqObj "list" #[] 0)).get? a=some (seqObj "list" #[] e1):=Heap.get?_push_of_some _ (Heap.get?_push_of_some _ ho1)
 rw [list_sort_plain]
 refine Yaa (listItems_at ho rfl (Yaa (listUpdate_at ho rfl (Yaa (seqEpoch_at ho1 rfl (Yaa (wpAny_newTuple (Yaa (wpAny_newList (Ya4 ?_) (Ya6 _))) (by simpa using sz))))) sz (Ya6 _))))
 show wpAny (model prog w) A _ P E { s with heap:=(((s.heap.update a (Obj.mapSeq λ_=>(#[]:Array Value))).push (seqObj "tuple" vs.toArray 0)).push (seqObj "list" #[] 0)) }
 generalize ((s.heap.update a (Obj.mapSeq λ_=>(#[]:Array Value))).push (seqObj "tuple" vs.toArray 0)).push (seqObj "list" #[] 0)=h2 at k2 i6 ⊢
 dsimp only
 have fin:∀(st:SortSt) (p:Array Nat),(arrOf st).map (·.2)=List.toArray (p.toList.map λi=>vs.getD i Value.none)->failedOf st=none->Pm vs.length p->Up lt p vs.length->∀Q:Heap->Prop,(∀(h':Heap) (c:Nat),(∀b o,b≠a->s.heap.get? b=some o->h'.get? b=some o)->h'.get? a=some (seqObj "list" (p.toList.map λi=>vs.getD i Value.none).toArray c)->Q h') ->
   Q (h2.update a (Obj.mapSeq λ_=>(arrOf st).map (·.2))):=λst p e _ _ _ Q q=>by
  rw [e]
  exact q _ _ (λb o hb eb=>((Ybn h2 a _).2 b hb).trans (k2 b o hb eb)) (get?_update_seq i6 _)
 by_cases h1:vs.toArray.size < 2
 ·rw [Yak h1,Yak h1]
  refine Yaa (Yab ?_)
  rw [StateT.run_pure]
  have pm:Pm vs.length (List.range vs.length).toArray:=Qa8 (by simp)
  have up:Up lt (List.range vs.length).toArray vs.length:=λi j fh hj=>by
   rw [Yan]at h1
   omega
  have ev:(arrOf (SortSt.mk' general' (vs.toArray.zip vs.toArray) #[] 7 none)).map (·.2)=List.toArray ((List.range vs.length).toArray.toList.map λi=>vs.getD i Value.none):=by
   have ek:=kat_snds (ks:=vs) (vs:=vs) (st:=SortSt.mk' general' (vs.toArray.zip vs.toArray) #[] 7 none) (p:=(List.range vs.length).toArray) rfl (by
    have e:=kas_range (vs.toArray.zip vs.toArray)
    rw [show(vs.toArray.zip vs.toArray).size=vs.length by simp]at e
    exact e.symm)
   exact ek
  have fn:=fin _ _ ev rfl pm up (λh'=>P (.done (.ret .none)) { s with heap:=h' }) (λh' c k e=>h _ h' c pm up k e)
  refine Yaa (Yab (Yaa (seqEpoch_at i6 rfl (Yaa (listUpdate_at i6 rfl ?_ (Ya6 _) ?_)))))
  ·rw [show failedOf (SortSt.mk' general' (vs.toArray.zip vs.toArray) #[] 7 none)=none from rfl,bne_self_eq_false,Yah Yad]
   exact Yab fn
  ·refine Yas ?_ (Ye3 sz)
   show(Array.map _ _).size<=_
   rw [ev];simp
 ·rw [Yah h1,Yah h1]
  have j6:2<=vs.length:=by rw [Yan]at h1;omega
  obtain⟨κ,q1,q2⟩:=hk j6 h2 k2
  refine Yaa (q1 _ ?_)
  refine Yaa (Ybk (Zo O.weak q2 (Q:=λst s1=>s1={ s with heap:=h2 }/\∃p:Array Nat,(arrOf st).map (·.2)=List.toArray (p.toList.map λi=>vs.getD i Value.none)/\failedOf st=none/\Pm vs.length p/\Up lt p vs.length)
   λp st pm up ea ef=>⟨rfl,p,kat_snds rfl ea,ef,pm,O.up pm up⟩) ?_ λ_ _ e=>e)
  rintro⟨⟨⟩,st⟩ s1 ⟨rfl,p,ev,ef,pm,up⟩
  dsimp only
  have fn:=fin _ _ ev ef pm up (λh'=>P (.done (.ret .none)) { s with heap:=h' }) (λh' c k e=>h _ h' c pm up k e)
  refine Yaa (seqEpoch_at i6 rfl (Yaa (listUpdate_at i6 rfl ?_ (Ya6 _) ?_)))
  ·rw [ef,bne_self_eq_false,Yah Yad]
   exact Yab fn
  ·refine Yas ?_ (Ye3 sz)
   show(Array.map _ _).size<=_
   rw [ev]
   simp [pm.size]
end
end L2
namespace L2
open PySem PySem.Spec PyProof.Rows
structure SortOk(ds:List PyData):Prop where
 len:ds.length < 1000
 can:PyData.canLayAll0 ds=true
 dp:PyData.depthAll ds<=64
 cano:Aj ds=true
 nd:ds.Nodup
 fst:2<=ds.length->∀d∈ds,∃i r,d=.tuple (.int i :: r)
 cmp:∀d∈ds,∀e∈ds,cmpb d e=true
def ltI(ds:List PyData)(i j:Nat):Bool:=E7 (ds.getD i .none) (ds.getD j .none)
theorem Cb:∀{ds:List PyData},Aj ds=true->∀d∈ds,Cano d=true
 | d :: ds,h,e,he=>by
  simp only [Aj,Bool.and_eq_true]at h
  rcases Yat.mp he with rfl | he
  ·exact h.1
  ·exact Cb h.2 e he
theorem Fl:∀{ds:List PyData},PyData.canLayAll0 ds=true->∀d∈ds,d.canLay0=true
 | d :: ds,h,e,he=>by
  simp only [PyData.canLayAll0,Bool.and_eq_true]at h
  rcases Yat.mp he with rfl | he
  ·exact h.1
  ·exact Fl h.2 e he
theorem Kz:∀{ds:List PyData},∀d∈ds,d.depth<=PyData.depthAll ds
 | d :: ds,e,he=>by
  simp only [PyData.depthAll]
  rcases Yat.mp he with rfl | he
  ·omega
  ·have:=Kz (ds:=ds) e he
   omega
theorem Cl{α:Type}{xs:List α}{i:Nat}{d:α}(h:i < xs.length):xs.getD i d∈xs:=by
 rw [List.getD_eq_getElem?_getD,List.getElem?_eq_getElem h];exact Ybu h
theorem D3{α:Type}{xs:List α}{i:Nat}{d:α}(h:i < xs.length):xs[i]?=some (xs.getD i d):=by
 rw [List.getD_eq_getElem?_getD,List.getElem?_eq_getElem h];rfl
theorem SortOk.ord{ds:List PyData}(h:SortOk ds):StrictOrd ds.length (ltI ds):=by
 refine⟨λa b c ha hb hc h1 h2=>?_,λa b ha hb jn h1=>?_,λa ha=>Q8 _ (Cb h.cano _ (Cl ha))⟩
 ·exact Wd _ _ _ (Cb h.cano _ (Cl ha)) (Cb h.cano _ (Cl hb)) (Cb h.cano _ (Cl hc)) h1 h2
 ·refine Q9 _ _ (Cb h.cano _ (Cl ha)) (Cb h.cano _ (Cl hb)) (λe=>jn ?_) h1
  refine(List.getElem?_inj ha h.nd).mp ?_
  rw [D3 (d:=PyData.none) ha,D3 (d:=PyData.none) hb,e]
theorem Qdv{h:Heap}:∀{us:List Value} {ds:List PyData} {as:List Addr} {i:Nat},ReadsAll h us ds as->i < ds.length->∃bs,Reads h (us.getD i .none) (ds.getD i .none) bs
 | _,_,_,0,.cons r _,_=>⟨_,r⟩
 | _,_,_,i+1,.cons _ t,hi=>Qdv (i:=i) t (by simpa using hi)
theorem No{h:Heap}:∀{us:List Value} {ds:List PyData} {as:List Addr},ReadsAll h us ds as->(∀d∈ds,∃i r,d=.tuple (.int i :: r))->∃fs:List Value,PySem.W.KatTups h us fs/\fs.length=us.length/\∀v∈fs,∃i t,v=.int i t
 | _,_,_,.nil,_=>⟨[],PySem.W.KatTups.nil,rfl,λ_ z=>nomatch z⟩
 | _,_,_,.cons r t,hd=>by
  obtain⟨fs,k,l,z⟩:=No t λd jv=>hd d (Yax _ jv)
  obtain⟨i,r',rfl⟩:=hd _ Yaz
  cases r with
  | @tuple a o vs n xs as a1 a2 a3 a4 =>
   cases hv:vs.toList with
   | nil=>rw [hv]at a4;cases a4
   | cons v0 vr =>
    rw [hv]at a4
    cases a4 with
    | cons u1 u2 =>
     cases u1 with
     | int _ t0 =>
      refine⟨.int i t0 :: fs,PySem.W.KatTups.cons a1 a2 a3 ?_ k,by simp [l],λv hv'=>?_⟩
      ·rw [<- Array.getElem?_toList,hv];rfl
      ·rcases Yat.mp hv' with rfl | hv'
       ·exact⟨_,_,rfl⟩
       ·exact z v hv'
theorem Eu{α:Type}(xs:List α)(d:α):(List.range xs.length).map (λi=>xs.getD i d)=xs:=by
 apply Yd0
 intro i
 rw [List.getElem?_map]
 by_cases h:i < xs.length
 ·rw [List.getElem?_range h,D3 (d:=d) h];rfl
 ·rw [List.getElem?_eq_none (by simpa using h),List.getElem?_eq_none (by simpa using h)];rfl
section
variable {X:Cx}{k:Nat}
end
def Wn(t:Addr)(i:Int):Obj:={ cls:=.type "reversed",data:=.fields #[.ref t,rawInt i] }
def Dp(h:Heap)(it t:Addr)(i:Int):Prop:=∃o,h.get? it=some o/\o.cls=.type "reversed" /\ o.data=.fields #[.ref t,rawInt i]
theorem Np:Manifest.owners.lookup (String.ofList ['d','e','s','r','e','v','e','r'].reverse)=some Manifest.sig_reversed:=by kernel_rfl
theorem Fx:Slot "reversed" "__next__" "reversed.__next__" := .of (owner := "reversed") (n := "__next__") (by rw [Ycy,Ybz];kernel_rfl) (by decide +kernel) (by decide +kernel) (by decide +kernel) (.inl (by decide +kernel)) (by rw [Ycg];kernel_rfl)
theorem Nq:entryFor table "reversed.__next__" = some Builtin.«reversed.__next__»:=Yfd (by kernel_rfl)
theorem Rh(a:Value):argsOk "reversed.__next__" ⟨[a],[]⟩:=by
 rw [argsOk,signature?_of (id := "reversed.__next__") (n:=['_','_','t','x','e','n','_','_']) (o:=['d','e','s','r','e','v','e','r']) (by kernel_rfl) Np];kernel_rfl
theorem Ri:Slot "reversed" "__iter__" "reversed.__iter__" := .of (owner := "reversed") (n := "__iter__") (by rw [Ycy,Ybz];kernel_rfl) (by decide +kernel) (by decide +kernel) (by decide +kernel) (.inl (by decide +kernel)) (by rw [Ycg];kernel_rfl)
theorem Wo(a:Value):argsOk "reversed.__iter__" ⟨[a],[]⟩:=by
 rw [argsOk,signature?_of (id := "reversed.__iter__") (n:=['_','_','r','e','t','i','_','_']) (o:=['d','e','s','r','e','v','e','r']) (by kernel_rfl) Np];kernel_rfl
theorem Tl:entryFor table "reversed.__iter__" = some Builtin.«dict_keyiterator.__iter__»:=entryFor_alias (id' := "dict_keyiterator.__iter__") (by kernel_rfl) (by first | rfl | decide +kernel) (by decide +kernel) (by kernel_rfl)
theorem Zq:typeLookup (.type "tuple") "__reversed__" = pure none:=by rw [Ycy,Ybz];kernel_rfl
theorem Tm:isSubtype (.type "tuple") (.type "dict")=pure false:=by rw [Ycg];kernel_rfl
theorem Mi:Slot "reversed" "__init__" "object.__init__" := .of (owner := "object") (n := "__init__") (by rw [Ycy,Ybz];kernel_rfl) (by decide +kernel) (by decide +kernel) (by decide +kernel) (.inl (by decide +kernel)) (by rw [Ycg];kernel_rfl)
theorem Tn:TypeCalled "reversed" "reversed.__new__" "object.__init__" := ⟨by decide +kernel,F.create_reversed,⟨_,_,F.mro_reversed⟩,F.made_reversed,by decide +kernel,F.sub_reversed_self,Mi⟩
section
variable {prog:Program}{w:World}{A:Around}{E:Value->Shared->Prop}{s:Shared}
theorem Dp.typeIs{it t:Addr}{i:Int}(x:Dp s.heap it t i):s.TypeIs (.ref it) "reversed" := let⟨o,ho,hc,_⟩:=x;⟨o,ho,hc⟩
theorem Dp.at{h h':Heap}{it t:Addr}{i:Int}(x:Dp h it t i)(e:∀o,h.get? it=some o->h'.get? it=some o):Dp h' it t i:=let⟨o,ho,r⟩:=x;⟨o,e _ ho,r⟩
theorem E8{t:Addr}{items:Array Value}{Q:Value->Shared->Prop}(ht:IsTup s.heap t items)(gp:¬(items.size:Int)>=2 ^ 63)
  (h:∀tk,Q (.ref s.heap.objs.size) { s with heap:=s.heap.push (Wn t ((items.size:Int) - 1)),toks:=tk }):wpAny (model prog w) A (call (.type "reversed") [.ref t]) Q E s:=by
 have tT:s.TypeIs (.ref t) "tuple" := ht.typeIs
 refine callType_newIn Tn (by decide) (F.typeCall_reversed_1 _) (F.newCall_reversed_1 _) (λobj=>by kernel_rfl) F.entry_reversed_new (S:=λA1 R s1=>s1=s/\∀tk,R (.ok (.ret (.ref s.heap.objs.size))) { s with heap:=s.heap.push (Wn t ((items.size:Int) - 1)),toks:=tk })
  (.of_wp λA1 R s1 h1=>?_) ⟨rfl,λtk=>⟨⟨_,Heap.get?_push_size _ rfl,rfl⟩,h tk⟩⟩
 obtain⟨rfl,h1⟩:=h1
 rw [Builtin.«reversed.__new__»]
 refine Yaa (Ycr (newClass_reversed _) ?_)
 refine Yaa (Ycr (a:=()) (by first | rfl | kernel_rfl) (Yaa (Ycr (a:=()) (by first | rfl | kernel_rfl) ?_)))
 refine Yaa (Ych tT Zq (Yaa ?_))
 refine(show wpAny _ _ (isInstance (.ref t) (.type "dict") >>= _) _ _ s1 from Yaa (Ycj tT Tm ?_))
 rw [Yah Yad]
 refine Yaa (Ych tT F.slot_tuple_getitem.lookup ?_)
 dsimp only
 rw [Yak (by decide)]
 refine Yab ?_
 rw [show(!true)=false from rfl,Yah Yad]
 refine Yaa (PyProof.Rows.len_tuple ht (by omega) (Yaa (Ycr (a:=some (items.size:Int)) rfl ?_)))
 refine(show wpAny _ _ (newObj (.type "reversed") (.fields #[.ref t,rawInt ((items.size:Int) - 1)]) >>= _) _ _ _ from Yaa (Ya1 (Yab ⟨_,rfl,h1 _⟩)))
theorem Nr{it t:Addr}{i:Nat}{items:Array Value}{x:Value}{Q:Option Value->Shared->Prop}(bj:Dp s.heap it t (i:Int))(ht:IsTup s.heap t items)(hx:items[i]?=some x)(ar:t≠it)(hi:(i:Int) < 2 ^ 63)
  (hQ:∀h' tk,Dp h' it t ((i:Int) - 1)->Heap.SameBut it s.heap h'->Q (some x) { s with heap:=h',toks:=tk }):wpAny (model prog w) A (pyNext (.ref it)) Q E s:=by
 obtain⟨o,ho,hc,hd⟩:=id bj
 have tT:s.TypeIs (.ref t) "tuple" := ht.typeIs
 unfold pyNext
 refine Yaa (Ycv (wpAny_callSpecial?_slot (name:=Str.ofString "__next__") bj.typeIs Fx (Ybb Fx bj.typeIs Nq ?_ (Rh _))))
 rw [Builtin.«reversed.__next__»]
 refine Yaa (Ycr (a:=(Value.ref it,[])) rfl (Yaa (Ya7 ho hd (x:=.ref t) rfl (Yaa (Ya7 ho hd (x:=rawInt (i:Int)) rfl ?_)))))
 refine(show wpAny _ _ (if(i:Int) < 0 then _ else _) _ _ s from ?_)
 rw [Yah (by omega)]
 refine Yaa (Ych tT F.slot_tuple_getitem.lookup ?_)
 have hk:seqIndex? (i:Int) items.size=some i:=by
  have hlt:i < items.size:=by
   rcases Yb9 i items.size with z | z
   ·exact z
   ·rw [Array.getElem?_eq_none z]at hx;cases hx
  have h0:¬((i:Int) < 0):=by omega
  unfold seqIndex?
  simp [hlt,h0]
 refine(show wpAny _ _ (mkInt (i:Int) >>= _) _ _ s from Yaa (wpAny_mkInt (Yaa (Ycv (PyProof.Rows.getItem_tuple ht (by omega) hi hk hx ?_)))))
 refine Yaa (Ya7 ho hd (x:=rawInt (i:Int)) rfl ?_)
 refine(show wpAny _ _ (setField (.ref it) 1 (rawInt ((i:Int) - 1)) >>= _) _ _ _ from Yaa (Ycl ho hd (by simp) (Yab ⟨x,rfl,Yab (hQ _ _ ?_ (Ybn ..))⟩)))
 exact⟨_,Heap.get?_update_self _ ho (Ycx (Yb7 hd _)),(Obj.cls_mapFields ..).trans hc,by rw [Yb7 hd];simp⟩
theorem Pl{it t:Addr}{Q:Option Value->Shared->Prop}(hh:A.handled=none)(bj:Dp s.heap it t (-1))
  (hQ:∀h',Heap.ExtBut it s.heap h'->Q none { s with heap:=h' }):wpAny (model prog w) A (pyNext (.ref it)) Q E s:=by
 obtain⟨o,ho,hc,hd⟩:=id bj
 unfold pyNext
 refine Yaa (Ycv (wpAny_callSpecial?_slot (name:=Str.ofString "__next__") bj.typeIs Fx (Ybb Fx bj.typeIs Nq ?_ (Rh _))))
 rw [Builtin.«reversed.__next__»]
 refine Yaa (Ycr (a:=(Value.ref it,[])) rfl (Yaa (Ya7 ho hd (x:=.ref t) rfl (Yaa (Ya7 ho hd (x:=rawInt (-1)) rfl ?_)))))
 refine(show wpAny _ _ (if(-1:Int) < 0 then _ else _) _ _ s from ?_)
 rw [Yak (by decide)]
 refine Yaa (Yb8 (Yaa ?_))
 have h1:(s.heap.update it (Obj.mapFields λvs=>vs.set! 1 (rawInt (-1)))).get? it=some (o.mapFields λvs=>vs.set! 1 (rawInt (-1))):=Heap.get?_update_self _ ho (Ycx (Yb7 hd _))
 refine(show wpAny _ _ (setField (.ref it) 1 (rawInt (-1)) >>= λ_=>setField (.ref it) 0 .none) _ _ s from Yaa (Ycl ho hd (by simp) (Ycl h1 (Yb7 hd _) (by simp) ?_)))
 refine Yaa (show wpAny _ _ (newExc (.type "StopIteration") [] >>= _) _ _ _ from Yaa ?_)
 simp only [newExc,newTuple]
 refine Yaa (Ya1 (Yaa (m:=firstArgMember _ _) (Ycr (a:=Value.none) (by first | rfl | (simp only [firstArgMember];rfl)) (Ya1 ?_ (by size_fits)))) (by size_fits))
 simp only [raiseNew]
 refine Yaa (wpAny_handled (show wpAny _ _ _ _ _ _ from ?_))
 rw [show A.in1.handled=none from hh]
 refine Yaa (Yab (wpAny_throw (show wpAny _ _ _ _ _ _ from ?_)))
 refine Yaa (Ycj (T := "StopIteration") (b:=true) ⟨_,Heap.get?_push_size _ rfl,rfl⟩ isSubtype_stop (Yab (hQ _ ?_)))
 exact λb o' hb e=>Heap.get?_push_of_some _ (Heap.get?_push_of_some _ (((Ybn _ it _).2 b hb).trans (((Ybn s.heap it _).2 b hb).trans e)))
theorem Wp{it t:Addr}{i:Int}{Q:Value->Shared->Prop}(bj:Dp s.heap it t i)(h:Q (.ref it) s):wpAny (model prog w) A (pyIter (.ref it)) Q E s :=
 wpAny_pyIter_slot bj.typeIs Ri (Ybb Ri bj.typeIs Tl (Yab ⟨_,rfl,"reversed",_,bj.typeIs,Fx.lookup,h⟩) (Wo _))
end
section
variable {X:Cx}{tg a:Expr}{ta:AE}{pos p:Pos}
end
section
variable {X:Cx}{o e f:Expr}{cr ax:Pos}{td ty tx:AE}
end
section
variable {X:Cx}{e:Expr}{te:AE}{p p2 pos bx:Pos}
end
end L2
namespace L2
open PySem
def Dg(xs:Array Nat):Prop:=xs.toList.Pairwise (· < ·)
theorem Dg.lt{xs:Array Nat}(h:Dg xs){i j:Nat}{d:Nat}(fh:i < j)(hj:j < xs.size):xs.getD i d < xs.getD j d:=by
 have:=Ycf.mp h i j (by simp;omega) (by simpa using hj) fh
 simp only [Array.getElem_toList]at this
 simp only [Array.getD,show i < xs.size by omega,hj,dif_pos]
 exact this
theorem Ix{xs:Array Nat}(h:Dg xs){j:Nat}:∀(f lo hi:Nat),hi - lo<=f->lo<=hi->hi<=xs.size->(∀i,i < lo->xs.getD i j < j)->(∀i,hi<=i->i < xs.size->j<=xs.getD i j) ->
  SetTable.below.go xs j f lo hi<=xs.size/\(∀i,i < SetTable.below.go xs j f lo hi->xs.getD i j < j)/\∀i,SetTable.below.go xs j f lo hi<=i->i < xs.size->j<=xs.getD i j
 | 0,lo,hi,h1,h2,h3,h4,h5=>by
  have e:lo=hi:=by omega
  subst e
  exact⟨h3,h4,h5⟩
 | f+1,lo,hi,h1,h2,h3,h4,h5=>by
  rw [SetTable.below.go]
  by_cases c:lo < hi
  ·rw [Yak c]
   dsimp only
   by_cases c2:xs.getD ((lo+hi) / 2) j < j
   ·rw [Yak c2]
    refine Ix h f _ _ (by omega) (by omega) h3 (λi en=>?_) h5
    by_cases e:i=(lo+hi) / 2
    ·rw [e];exact c2
    ·have:=h.lt (d:=j) (show i < (lo+hi) / 2 by omega) (show(lo+hi) / 2 < xs.size by omega)
     omega
   ·rw [Yah c2]
    refine Ix h f _ _ (by omega) (by omega) (by omega) h4 (λi en hs=>?_)
    by_cases e:i=(lo+hi) / 2
    ·rw [e];omega
    ·have:=h.lt (d:=j) (show(lo+hi) / 2 < i by omega) hs
     omega
  ·rw [Yah c]
   have e:lo=hi:=by omega
   subst e
   exact⟨h3,h4,h5⟩
theorem D4{xs:Array Nat}(h:Dg xs)(j:Nat):SetTable.below xs j<=xs.size/\(∀i,i < SetTable.below xs j->xs.getD i j < j)/\∀i,SetTable.below xs j<=i->i < xs.size->j<=xs.getD i j :=
 Ix h xs.size 0 xs.size (by omega) (Ya6 _) (Yaf _) (λi hi=>absurd hi (Ydi _)) λi hi hs=>by omega
theorem Pn{xs:Array Nat}(h:Dg xs){k:Nat}(hk:k < xs.size):SetTable.below xs (xs[k]+1)=k+1:=by
 obtain⟨b1,b2,b3⟩:=D4 h (xs[k]+1)
 have g:∀i,(hi:i < xs.size)->xs.getD i (xs[k]+1)=xs[i]:=λi hi=>by simp [Array.getD,hi]
 rcases Nat.lt_trichotomy (SetTable.below xs (xs[k]+1)) (k+1) with c | c | c
 ·have:=b3 k (by omega) hk
  rw [g k hk]at this
  omega
 ·exact c
 ·have h1:k+1 < xs.size:=by omega
  have:=b2 (k+1) c
  rw [g _ h1]at this
  have h2:=h.lt (d:=0) (Nat.lt_succ_self k) h1
  simp only [Array.getD,hk,h1,dif_pos]at h2
  have h3:xs[k] < xs[k+1]:=h2
  omega
theorem Po{xs:Array Nat}(h:Dg xs):SetTable.below xs 0=0:=by
 obtain⟨b1,b2,b3⟩:=D4 h 0
 rcases Yer (SetTable.below xs 0) with e | e
 ·exact e
 ·have:=b2 0 e;omega
theorem Ev{α:Type}(xs:Array α)(p:Nat)(x:α)(hp:p<=xs.size):(SetTable.insertAt xs p x).toList=xs.toList.take p++x :: xs.toList.drop p:=by
 rw [SetTable.toList_insertAt]
theorem Nt{xs:Array Nat}(h:Dg xs){j:Nat}(hj:xs[SetTable.below xs j]?≠some j):Dg (SetTable.insertAt xs (SetTable.below xs j) j):=by
 obtain⟨b1,b2,b3⟩:=D4 h j
 unfold Dg
 rw [Ev _ _ _ b1]
 have ht:∀a∈xs.toList.take (SetTable.below xs j),a < j:=λa ha=>by
  obtain⟨i,hi,e⟩:=Yea ha
  have h1:i < SetTable.below xs j:=by
   rw [Ybs]at hi;omega
  have:=b2 i h1
  simp only [Array.getD,show i < xs.size by omega,dif_pos]at this
  rw [<- e]
  simpa using this
 have hd:∀a∈xs.toList.drop (SetTable.below xs j),j < a:=λa ha=>by
  obtain⟨i,hi,e⟩:=Yea ha
  have h1:SetTable.below xs j+i < xs.size:=by
   rw [Ycp]at hi;simp at hi;omega
  have h2:=b3 _ (Yd8 _ i) h1
  simp only [Array.getD,h1,dif_pos]at h2
  have e2:a=xs[SetTable.below xs j+i]:=by rw [<- e];simp
  have h3:a≠j:=by
   intro z
   by_cases c:i=0
   ·subst c
    apply hj
    rw [Array.getElem?_eq_getElem (by omega)]
    exact Ydl some (e2.symm.trans z)
   ·have h0:SetTable.below xs j < xs.size:=by omega
    have h4:=b3 _ (Yaf _) h0
    simp only [Array.getD,h0,dif_pos]at h4
    have h5:=h.lt (d:=0) (show SetTable.below xs j < SetTable.below xs j+i by omega) h1
    simp only [Array.getD,h0,h1,dif_pos]at h5
    have h5':xs[SetTable.below xs j] < xs[SetTable.below xs j+i]:=h5
    have xf:j<=xs[SetTable.below xs j]:=h4
    omega
  have h2':j<=xs[SetTable.below xs j+i]:=h2
  omega
 refine Yd2.mpr ⟨h.sublist (List.take_sublist _ _),Yc0.mpr ⟨hd,h.sublist (List.drop_sublist _ _)⟩,λa ha b hb=>?_⟩
 rcases Yat.mp hb with rfl | hb
 ·exact ht a ha
 ·have:=ht a ha
  have:=hd b hb
  omega
structure TblOk(t:SetTable)(led:Bool):Prop where
 rise:Dg t.place
 dum:t.dummies=#[]
 led:t.led=led
theorem Pp(n:Nat):Dg (Array.range n):=by
 unfold Dg
 rw [Array.toList_range]
 exact Yc6
theorem TblOk.standIn{t:SetTable}{led:Bool}(h:TblOk t led)(n:Nat):TblOk (t.standIn n) led:=⟨Pp n,rfl,h.led⟩
theorem TblOk.orStandIn{t:SetTable}{led:Bool}(h:TblOk t led)(n:Nat):TblOk (t.orStandIn n) led:=by
 unfold SetTable.orStandIn
 split
 ·exact h
 ·exact h.standIn n
theorem TblOk.plain{t:SetTable}{led:Bool}(h:TblOk t led)(b:Bool):TblOk { t with plain:=b } led:=⟨h.rise,h.dum,h.led⟩
theorem Iy(j:Nat):SetTable.has #[] j=false:=by
 unfold SetTable.has
 simp
theorem Iz{t:SetTable}{led:Bool}(h:TblOk t led){j:Nat}(e:t.slot j=.empty):t.place[SetTable.below t.place j]?≠some j:=by
 unfold SetTable.slot at e
 dsimp only at e
 split at e
 ·cases e
 ·rename_i c
  simpa using c
theorem Pq{t:SetTable}{led:Bool}(h:TblOk t led){j:Nat}:t.slot j≠.dummy:=by
 unfold SetTable.slot
 dsimp only
 rw [h.dum,Iy]
 split
 ·intro z;cases z
 ·intro z;cases z
theorem J1(t:SetTable)(p:SetTable.Probe):(t.advance p).dummy=p.dummy:=by
 unfold SetTable.advance
 split <;> rfl
theorem G8{t:SetTable}{led:Bool}(h:TblOk t led){hashAt:Nat->Int}{hh:Int}{j:Nat}{d:Option Nat}:∀(f:Nat) (p:SetTable.Probe),p.dummy=none->SetTable.probe.go t hashAt hh f p=some (.empty j d)->d=none/\t.slot j=.empty
 | 0,_,_,e=>by simp [SetTable.probe.go]at e
 | f+1,p,hp,e=>by
  rw [SetTable.probe.go]at e
  cases c:t.slot p.j with
  | empty =>
   rw [c]at e
   have e':=Ya3 e
   injection e' with e1 e2
   exact⟨e2.symm.trans hp,by rw [<- e1];exact c⟩
  | dummy=>exact absurd c (Pq h)
  | live i =>
   rw [c]at e
   dsimp only at e
   split at e
   ·cases e
   ·exact G8 h f _ ((J1 t p).trans hp) e
theorem Zr{t:SetTable}{led:Bool}(h:TblOk t led){hh:Int}{s:Nat}{b:Bool}(e:t.freeSlot hh=some (s,b)):t.place[SetTable.below t.place s]?≠some s:=by
 unfold SetTable.freeSlot SetTable.probe at e
 split at e
 ·rename_i j d c
  obtain⟨rfl,hs⟩:=G8 h _ _ rfl c
  have e':=Ya3 e
  have e1:j=s:=Ydl Prod.fst e'
  rw [<- e1]
  exact Iz h hs
 ·cases e
theorem TblOk.put{t:SetTable}{led:Bool}(h:TblOk t led){s:Nat}(hs:t.place[SetTable.below t.place s]?≠some s):TblOk (t.put s).1 led:=by
 refine⟨Nt h.rise hs,?_,h.led⟩
 show(if SetTable.has t.dummies s then _ else t.dummies)=#[]
 rw [h.dum,Iy];rfl
theorem TblOk.layNew{t:SetTable}{led:Bool}(h:TblOk t led)(es:Array (Int×Value))(hh:Int)(x:Value):TblOk (layNew t es hh x).2.1 led:=by
 unfold PySem.layNew
 split
 ·rename_i s b c
  exact(h.put (Zr h c)).orStandIn _
 ·exact h.standIn _
theorem TblOk.laid{mask finger moves:Nat}{led plain:Bool}{hs:Array Int}{t:SetTable}{be:Array Nat}(e:SetTable.laid mask finger moves led plain hs=some (t,be)):TblOk t led:=by
 unfold SetTable.laid at e
 cases c:SetTable.layClean mask hs with
 | none=>rw [c]at e;cases e
 | some owner =>
  rw [c]at e
  have e':=Ya3 e
  injection e' with e1 _
  subst e1
  refine⟨?_,rfl,rfl⟩
  unfold Dg
  show(List.map _ _).Pairwise _
  rw [Yct]
  refine List.Pairwise.filterMap _ (R:=(· < ·)) (λa a' haa b hb b' i4=>?_) Yc6
  obtain⟨z,_,rfl⟩:=Ybl.mp hb
  obtain⟨z',_,rfl⟩:=Ybl.mp i4
  exact haa
theorem TblOk.relayAll{t:SetTable}{led:Bool}(h:TblOk t led)(es:Array (Int×Value))(w:Nat):TblOk (relayAll t es w).2.1 led:=by
 unfold PySem.relayAll
 split
 ·rename_i t' be c
  dsimp only
  split
  ·have:=TblOk.laid c
   rw [h.led]at this
   exact this
  ·exact h.standIn _
 ·exact h.standIn _
theorem TblOk.fresh(led:Bool):TblOk (.fresh 0 0 led) led:=⟨List.Pairwise.nil,rfl,rfl⟩
section
variable {prog:Program}{w:World}{Kt:Type} [DecidableEq Kt]{knd:KeyKind prog w Kt}{A:Around}{E:Value->Shared->Prop}{s:Shared}{a:Addr}{led:Bool}
def Dh(knd:KeyKind prog w Kt)(h:Heap)(a:Addr)(l:List (Int×Value))(led:Bool):Prop :=
 ∃o es ep t,h.get? a=some o/\o.ExactSet/\o.data=.set es ep t/\es.toList=l/\ElemsOf knd l/\t.fits es.size=true/\TblOk t led
theorem K0{h:Heap}{o:Obj}{es:Array (Int×Value)}{ep:Nat}{t:SetTable}(ho:h.get? a=some o)(fu:o.ExactSet)(hd:o.data=.set es ep t){dy:Array (Int×Value)}{t':SetTable}(iz:ElemsOf knd dy.toList)(hf:t'.fits dy.size=true)(hT:TblOk t' led) :
  (h.update a (Obj.putSet dy t')).get? a=some { o with data:=.set dy (ep+1) t' }/\Dh knd (h.update a (Obj.putSet dy t')) a dy.toList led:=by
 have e:=Heap.get?_update_self (Obj.putSet dy t') ho (by rw [putSet_of dy t' hd];rfl)
 rw [putSet_of dy t' hd]at e
 exact⟨e,_,dy,ep+1,t',e,fu,rfl,rfl,iz,hf,hT⟩
theorem Nu{g:Bool->Sem Unit}(hg:∀(b:Bool) (s1:Shared) (Q':Unit->Shared->Prop),Q' () s1->wpAny (model prog w) A (g b) Q' E s1){o:Obj}{es:Array (Int×Value)}{ep:Nat}{t:SetTable}(ho:s.heap.get? a=some o)(fu:o.ExactSet)(hd:o.data=.set es ep t)
  {dc:Array (Int×Value)} {t2:SetTable} (iz:ElemsOf knd dc.toList) (hb:dc.size < scanBound) (hf:t2.fits dc.size=true) (hT:TblOk t2 led) {kq:Bool} {R:Option Bool->Shared->Prop}
  (h:∀h' l',Heap.SameBut a s.heap h'->Dh knd h' a l' led->l'.Perm dc.toList->R (some true) { s with heap:=h' }) :
  wpAny (model prog w) A (do
   storeSet a dc t2
   if(!kq && t2.tooFull)=true then do
    g (relayAll t2 dc (SetTable.grown dc.size)).2.2
    storeSet a (relayAll t2 dc (SetTable.grown dc.size)).1 (relayAll t2 dc (SetTable.grown dc.size)).2.1
    pure (some true)
   else pure (some true)) R E s:=by
 obtain⟨g1,g2⟩:=K0 (knd:=knd) (led:=led) ho fu hd iz hf hT
 refine Yaa (Ye4 ho hd ?_ (fits_of_scanBound hb))
 have b1:=Ybn s.heap a (Obj.putSet dc t2)
 split
 ·have p1:=relayAll_perm t2 dc (SetTable.grown dc.size)
  have f1:=relayAll_fits t2 dc (SetTable.grown dc.size)
  have k1:=hT.relayAll dc (SetTable.grown dc.size)
  generalize relayAll t2 dc (SetTable.grown dc.size)=R1 at p1 f1 k1 ⊢
  obtain⟨es2,t3,gave⟩:=R1
  dsimp only at p1 f1 k1 ⊢
  have z:es2.size < scanBound:=by
   have e:es2.size=dc.size:=by rw [<- Yal,p1.length_eq,Yal]
   rw [e];exact hb
  obtain⟨_,g4⟩:=K0 (knd:=knd) (led:=led) g1 fu rfl (iz.perm p1) f1 k1
  exact Yaa (hg _ _ _ (Yaa (Ye4 g1 rfl (Yab (h _ _ (b1.trans (Ybn _ a _)) g4 p1)) (fits_of_scanBound z))))
 ·exact Yab (h _ _ b1 g2 (List.Perm.refl _))
theorem Zs{l:List (Int×Value)}{k:Kt}{x:Value}{Q:Bool->Shared->Prop}(hx:knd.is k x=true)(hs:x.scannable=true)(hS:Dh knd s.heap a l led)(hb:l.length+1 < scanBound)
  (h1:(∃e∈l,knd.is k e.2=true)->Q false s) (h2:(∀e∈l,knd.is k e.2=false)->∀h' l',Heap.SameBut a s.heap h'->Dh knd h' a l' led->l'.Perm (l++[(knd.hash k,x)])->Q true { s with heap:=h' }) :
  wpAny (model prog w) A (setAddHashed a x (knd.hash k)) Q E s:=by
 obtain⟨o,es,ep,t,ho,fu,hd,rfl,iz,hf,hT⟩:=hS
 rw [Yal]at hb
 have hb0:es.size < scanBound:=by omega
 unfold setAddHashed setAddHashedIn
 refine Ya4 (Yaa (Ya9 ho hd hf (show wpAny _ _ _ _ _ _ from ?_)))
 dsimp only
 rw [byScan_of hs hb0 iz,Yak rfl]
 unfold setAddByScan
 refine Yaa (Yaa (Yb8 (Yaa (wpAny_setScan_of hx ho hd hf iz ?_))))
 cases c:List.findIdx? (λe=>knd.is k e.2) es.toList with
 | some j =>
  obtain⟨hj,hp,_⟩:=List.findIdx?_eq_some_iff_getElem.mp c
  exact Yab (Yab (h1 ⟨_,Ybu hj,hp⟩))
 | none =>
  have jk:=List.findIdx?_eq_none_iff.mp c
  have q1:=layNew_perm t es (knd.hash k) x
  have q2:=layNew_fits t es (knd.hash k) x
  have q3:=hT.layNew es (knd.hash k) x
  dsimp only
  generalize layNew t es (knd.hash k) x=L1 at q1 q2 q3 ⊢
  obtain⟨dc,t1,dm,gv⟩:=L1
  dsimp only at q1 q2 q3 ⊢
  rw [Ye2]at q1
  have e1:ElemsOf knd dc.toList:=(iz.push hx hs).perm q1
  have z1:dc.size < scanBound:=by
   rw [<- Yal,q1.length_eq,Yag,Yal];exact hb
  have gw:∀(b:Bool) (s1:Shared) (Q':Unit->Shared->Prop),Q' () s1->wpAny (model prog w) A (match b with | true=>rule "set.scan.the-table-gave-way" | false=>pure ()) Q' E s1:=λb s1 Q' q=>by
   cases b
   ·exact Yab q
   ·exact Yb8 q
  have fin:∀h' l',Heap.SameBut a s.heap h'->Dh knd h' a l' led->l'.Perm dc.toList->Q true { s with heap:=h' }:=λh' l' b1 b2 b3=>h2 (λe he=>by simpa using jk e he) h' l' b1 b2 (b3.trans q1)
  refine Yaa (gw _ _ _ ?_)
  split
  ·refine Yaa (show wpAny _ _ (hashByValue 8 x) _ _ _ from ?_)
   rw [hashByValue_scannable 8 hs]
   refine Yab (Nu (led:=led) (λb s1 Q' q=>?_) ho fu hd e1 z1 ?_ ?_ λh' l' b1 b2 b3=>?_)
   ·cases b
    ·exact Yab q
    ·exact Yb8 q
   ·split
    ·exact q2
    ·exact SetTable.fits_plain_off q2
   ·split
    ·exact q3
    ·exact q3.plain false
   ·dsimp only
    exact Yab (fin h' l' b1 b2 b3)
  ·refine Yaa (Yab (show wpAny _ _ _ _ _ _ from ?_))
   rw [Yak rfl]
   refine Nu (λb s1 Q' q=>?_) ho fu hd e1 z1 q2 q3 λh' l' b1 b2 b3=>?_
   ·cases b
    ·exact Yab q
    ·exact Yb8 q
   ·dsimp only
    exact Yab (fin h' l' b1 b2 b3)
end
theorem C7:plainId "set.update.loop" = true:=by decide +kernel
theorem Fy:entryFor table "set.update.loop" = some Builtin.«set.update.loop»:=Yfd (by kernel_rfl)
section
variable {prog:Program}{w:World}{Kt:Type} [DecidableEq Kt]{knd:KeyKind prog w Kt}{A:Around}{R:Result->Shared->Prop}{sa it t:Addr}{led:Bool}
def Unlike(knd:KeyKind prog w Kt)(l:List (Int×Value)):Prop:=l.Pairwise λe e'=>∀k,knd.is k e.2=true->knd.is k e'.2=false
def Keys(knd:KeyKind prog w Kt)(l:List (Int×Value))(ks:List Kt):Prop:=∀k,(∃e∈l,knd.is k e.2=true)↔k∈ks
theorem Unlike.add{l:List (Int×Value)}{x:Value}{k:Kt}{h:Int}(hl:Unlike knd l)(hx:knd.is k x=true)(hn:∀e∈l,knd.is k e.2=false):Unlike knd (l++[(h,x)]):=by
 refine Yd2.mpr ⟨hl,List.pairwise_singleton _ _,λe he e' og k' cy=>?_⟩
 have e1:e'=(h,x):=by simpa using og
 subst e1
 cases c:knd.is k' x with
 | false=>rfl
 | true =>
  have:=knd.inj x k' k c hx
  subst this
  rw [hn e he]at cy;cases cy
theorem Unlike.perm{l l':List (Int×Value)}(h:Unlike knd l)(p:l'.Perm l):Unlike knd l':=by
 refine(List.Perm.pairwise_iff (R:=λ(e e':Int×Value)=>∀k,knd.is k e.2=true->knd.is k e'.2=false) (λ{e e'} hh k hk=>?_) p.symm).mp h
 cases c:knd.is k e.2 with
 | false=>rfl
 | true=>rw [hh k c]at hk;cases hk
theorem Nv:∀{ks:List Kt} {vs:List Value} {i:Nat} {x:Value},ItemsAre knd ks vs->vs[i]?=some x->∃k,ks[i]?=some k/\knd.is k x=true
 | _,_,_,_,.nil,h=>by simp at h
 | _,_,0,_,.cons h1 _,h=>by simp at h;subst h;exact⟨_,rfl,h1⟩
 | _,_,i+1,_,.cons _ t,h=>by simpa using Nv (i:=i) t (by simpa using h)
end
section
variable {prog:Program}{w:World}{A:Around}{E:Value->Shared->Prop}{s:Shared}
theorem Wq{M:Model}{self v:Value}{Q:Unit->Shared->Prop}(hT:s.TypeIs self "set") (q:Q () s):wpAny M A (checkBuiltinCall "set.__init__" ⟨[self,v],[]⟩) Q E s:=by
 simp only [checkBuiltinCall,kind_set_init,split_set_init,sig_set_init]
 refine Yaa (Ycj hT sub_set_self (show wpAny _ _ _ _ _ _ from ?_))
 rw [show(!true)=false from rfl,Yah Yad]
 unfold Bind.checkArgs
 dsimp only
 refine Yaa (m:=Bind.printed "set" true _ _) (PyProof.Rows.printed_name (by decide) (Yaa (m:=Bind.printed "*" false _ _) (PyProof.Rows.printed_star (self:=self) rfl hT λue=>?_)))
 have e:(if(Manifest.Receiver.self==Manifest.Receiver.none)=true then [self,v].length else [self,v].length - 1)=1:=rfl
 rw [e]
 have hc:Bind.check ⟨.positional,"set","*",.self,[⟨"iterable",.posOnly,false⟩]⟩ "set" ue 1 []=pure ():=by simp +decide [Bind.check,Bind.checkCount,Bind.isPositional]
 simp only [List.map_nil]
 rw [hc];exact Yab q
theorem Zt(v:Value):checkTypeCall "set" ⟨[v],[]⟩=pure ():=by kernel_rfl
theorem Qdw(v:Value):checkBuiltinCall "set.__new__" ⟨[.type "set",v],[]⟩=pure ():=by kernel_rfl
def D5(w:World):Bool:=!(w.params.followText "set-order")
def Bs(w:World):Obj:={ cls:=.type "set",dict:=none,data:=.set #[] 0 (.fresh 0 0 (D5 w)) }
theorem Zu{v:Value}{Q1:Value->Shared->Prop}(h:Q1 (.ref s.heap.objs.size) { s with heap:=s.heap.push (Bs w) }) :
  codeAny (model prog w) A (.call (.builtin "set.__new__") ⟨[.type "set",v],[]⟩) (wants Q1 E) s:=by
 refine codeAny_of_tree (show wpAny _ A.in1 (do checkBuiltinCall "set.__new__" ⟨[.type "set",v],[]⟩;again (.builtin "set.__new__" ⟨[.type "set",v],[]⟩)) _ _ s from ?_)
 refine Yaa (Ycr (Qdw v) (Yab ⟨Yc3 F.plain_set_new _,Ycm F.entry_set_new (show wpAny _ _ _ _ _ _ from ?_)⟩))
 rw [Yb5 F.plain_set_new _]
 unfold Builtin.«set.__new__» Builtin.Frozenset.newClass
 have k1:=sub_set_self
 obtain⟨hp,g,d,tk,os⟩:=s
 dsimp only
 wp_walk
 refine wpAny_askSetting (Yab (show wpAny _ _ _ _ _ _ from ?_))
 dsimp only
 simp only [newObj]
 exact Yaa (wpAny_alloc (Yab (Yab h)))
theorem Ja{v:Value}{Q:Value->Shared->Prop}(h:wpAny (model prog w) A.in1.in1 (Builtin.Frozenset.updateFrom "set.__init__" s.heap.objs.size v) (λ_ s2=>Q (.ref s.heap.objs.size) s2) E { s with heap:=s.heap.push (Bs w) }) :
  wpAny (model prog w) A (call (.type "set") [v]) Q E s:=by
 obtain⟨c,tl,hmro⟩:=F.called_set.mro
 have k1:=F.called_set.made
 have k2:=F.called_set.sub
 refine Yfn (codeAny_of_tree (show wpAny _ _ (callAny (.type "set") _) _ _ _ from ?_))
 refine Yab ⟨Code.quiet_builtin _ (by decide +kernel),Ycm F.entry_type_call ?_⟩
 rw [Around.under_plain (weight_type_call_type "set" [v] []) rfl]
 have k3:=F.called_set.notType
 have k4:=F.called_set.canCreate
 have k5:=Zt v
 repeat any_goals first | assumption | wp_step
 refine Yec (Zu (E:=E) (Q1:=λob s1=>ob=.ref s.heap.objs.size/\s1={ s with heap:=s.heap.push (Bs w) }) ⟨rfl,rfl⟩) λr s1 hr=>?_
 cases r with
 | error e=>exact hr
 | ok fl =>
  cases fl with
  | ret ob =>
   obtain⟨rfl,rfl⟩:=hr
   have g:(s.heap.push (Bs w)).get? s.heap.objs.size=some (Bs w):=Heap.get?_push_size _ rfl
   have T:Shared.TypeIs { s with heap:=s.heap.push (Bs w) } (.ref s.heap.objs.size) "set" := ⟨_,g,rfl⟩
   have k6:=F.called_set.init.lookup
   have k7:=F.called_set.init.bind (.ref s.heap.objs.size)
   repeat any_goals first | assumption | wp_step
   refine Yec (Yff (R:=wants (λr s2=>r=.none/\Q (.ref s.heap.objs.size) s2) E) F.called_set.init.plain F.entry_set_init (Wq T ?_)) λr2 s2 y3=>?_
   ·unfold Builtin.«set.__init__» noKeywords
    generalize hU:Builtin.Frozenset.updateFrom=U at h ⊢
    unfold Bs at g
    wp_walk
    exact Ybk h (λ_ _ q=>Yab ⟨rfl,q⟩) λ_ _ e=>e
   ·cases r2 with
    | error e=>exact y3
    | ok fl2 =>
     cases fl2 with
     | ret z =>
      obtain⟨rfl,q⟩:=y3
      repeat any_goals first | assumption | wp_step
     | _=>exact y3.elim
  | _=>exact hr.elim
end
section
theorem G9:isSubtype (.type "tuple") (.type "set")=pure false:=by rw [Ycg];kernel_rfl
theorem Ha:isSubtype (.type "tuple") (.type "frozenset")=pure false:=by rw [Ycg];kernel_rfl
end
section
variable {prog:Program}{w:World}{Kt:Type} [DecidableEq Kt]{knd:KeyKind prog w Kt}{A:Around}{E:Value->Shared->Prop}{s:Shared}{sa t:Addr}{led:Bool}
theorem Pr:ElemsOf knd []:=λe he=>by cases he
theorem K5:Keys knd [] []:=λk=>⟨λ⟨e,he,_⟩=>(by cases he),λh=>(by cases h)⟩
theorem Jb{h:Heap}:Dh knd (h.push (Bs w)) h.objs.size [] (D5 w) :=
 ⟨_,#[],0,_,Heap.get?_push_size _ rfl,⟨rfl,rfl,rfl⟩,rfl,rfl,Pr,rfl,TblOk.fresh _⟩
end
theorem Nw:Manifest.owners.lookup (String.ofList ['r','o','t','a','r','e','t','i','_','t','e','s'].reverse)=some Manifest.sig_set_iterator:=by kernel_rfl
theorem Dq:Slot "set_iterator" "__next__" "set_iterator.__next__" := .of (owner := "set_iterator") (n := "__next__") (by rw [Ycy,Ybz];kernel_rfl) (by decide +kernel) (by decide +kernel) (by decide +kernel) (.inl (by decide +kernel)) (by rw [Ycg];kernel_rfl)
theorem Nx:entryFor table "set_iterator.__next__" = some Builtin.«set_iterator.__next__»:=Yfd (by kernel_rfl)
theorem Rj(a:Value):argsOk "set_iterator.__next__" ⟨[a],[]⟩:=by
 rw [argsOk,signature?_of (id := "set_iterator.__next__") (n:=['_','_','t','x','e','n','_','_']) (o:=['r','o','t','a','r','e','t','i','_','t','e','s']) (by kernel_rfl) Nw];kernel_rfl
theorem Rk:Slot "set_iterator" "__iter__" "set_iterator.__iter__" := .of (owner := "set_iterator") (n := "__iter__") (by rw [Ycy,Ybz];kernel_rfl) (by decide +kernel) (by decide +kernel) (by decide +kernel) (.inl (by decide +kernel)) (by rw [Ycg];kernel_rfl)
theorem Wr(a:Value):argsOk "set_iterator.__iter__" ⟨[a],[]⟩:=by
 rw [argsOk,signature?_of (id := "set_iterator.__iter__") (n:=['_','_','r','e','t','i','_','_']) (o:=['r','o','t','a','r','e','t','i','_','t','e','s']) (by kernel_rfl) Nw];kernel_rfl
theorem To:entryFor table "set_iterator.__iter__" = some Builtin.«dict_keyiterator.__iter__»:=entryFor_alias (id' := "dict_keyiterator.__iter__") (by kernel_rfl) (by first | rfl | decide +kernel) (by decide +kernel) (by kernel_rfl)
theorem Ps:entryFor table "set.__iter__" = some Builtin.«frozenset.__iter__»:=entryFor_alias (id' := "frozenset.__iter__") (by kernel_rfl) (by first | rfl | decide +kernel) (by decide +kernel) (by kernel_rfl)
section
variable {prog:Program}{w:World}{A:Around}{E:Value->Shared->Prop}{s:Shared}
theorem Pt{M:Model}{src:Source}{n:Nat}{Q:Nat->Shared->Prop}(hn:n≠0)(h:∀i d',i < n->Q i { s with drawn:=d' }):wpAny M A (choose src n) Q E s:=fun Γ p _=>by
 unfold choose
 rw [Sem.wp_choose]
 refine⟨hn,?_⟩
 rw [Sem.wp_pure]
 exact h _ _ (Nat.mod_lt _ (Nat.pos_of_ne_zero hn))
theorem Gr{α:Type}:∀{xs:List α} {i:Nat} {x:α},xs[i]?=some x->(x :: xs.eraseIdx i).Perm xs
 | _ :: _,0,_,h=>by simp at h;subst h;exact List.Perm.refl _
 | y :: ys,i+1,x,h=>by
  have:=Gr (xs:=ys) (i:=i) (x:=x) (by simpa using h)
  exact(List.Perm.swap y x _).trans (this.cons y)
theorem Jc{M:Model}{α:Type}:∀(n:Nat) (xs:List α) (s:Shared) (Q:List α->Shared->Prop),xs.length=n->(∀ys d',ys.Perm xs->Q ys { s with drawn:=d' })->wpAny M A (drawOrder n xs) Q E s
 | 0,xs,s,Q,hn,h=>by
  have:xs=[]:=Yci hn
  subst this
  exact Yab (h [] s.drawn (List.Perm.refl _))
 | n+1,[],s,Q,hn,h=>by cases hn
 | n+1,x :: xs,s,Q,hn,h=>by
  unfold drawOrder
  refine Yaa (Pt (by simp) λi d1 hi=>?_)
  have e:(x :: xs)[i]?=some (x :: xs)[i]:=List.getElem?_eq_getElem hi
  rw [e]
  refine Yaa (Jc n _ _ _ ?_ λys d2 hp=>Yab (h _ d2 ((hp.cons _).trans (Gr e))))
  rw [List.length_eraseIdx_of_lt hi];simp at hn ⊢;omega
theorem Rl{α:Type}(next:Nat->Nat):∀(n k:Nat) (left:List α) (ae:Array α),left.length=n->(pickOrder.go next n k left ae).toList.Perm (ae.toList++left)
 | 0,k,left,ae,hn=>by
  have:left=[]:=Yci hn
  subst this
  unfold pickOrder.go
  simp
 | n+1,k,left,ae,hn=>by
  unfold pickOrder.go
  have hl:next k % left.length < left.length:=Nat.mod_lt _ (by omega)
  have e:left[next k % left.length]?=some left[next k % left.length]:=List.getElem?_eq_getElem hl
  rw [e]
  dsimp only
  refine(Rl next n (k+1) _ _ (by rw [List.length_eraseIdx_of_lt hl];omega)).trans ?_
  rw [Ye2,Ycs]
  exact(Gr e).append_left _
theorem Tp{α:Type}(next:Nat->Nat)(xs:Array α):(pickOrder next xs).toList.Perm xs.toList:=by
 unfold pickOrder
 simpa using Rl next xs.size 0 xs.toList #[] (by simp)
def Di(h:Heap)(a:Addr)(es:Array (Int×Value))(ep:Nat)(t:SetTable):Prop:=∃o,h.get? a=some o/\o.cls=.type "set" /\ o.data=.set es ep t/\t.fits es.size=true
theorem Di.typeIs{a:Addr}{es:Array (Int×Value)}{ep:Nat}{t:SetTable}(x:Di s.heap a es ep t):s.TypeIs (.ref a) "set" := let⟨o,ho,hc,_⟩:=x;⟨o,ho,hc⟩
theorem Di.at{h h':Heap}{a:Addr}{es:Array (Int×Value)}{ep:Nat}{t:SetTable}(x:Di h a es ep t)(e:∀o,h.get? a=some o->h'.get? a=some o):Di h' a es ep t:=let⟨o,ho,r⟩:=x;⟨o,e _ ho,r⟩
def Ew(h:Heap)(it a:Addr)(first:Value)(i n ep:Nat):Prop:=∃o,h.get? it=some o/\o.cls=.type "set_iterator" /\ o.data=.fields #[first,rawInt i,.ref a,rawInt n,rawInt ep]
theorem Ew.typeIs{it a:Addr}{first:Value}{i n ep:Nat}(x:Ew s.heap it a first i n ep):s.TypeIs (.ref it) "set_iterator" := let⟨o,ho,hc,_⟩:=x;⟨o,ho,hc⟩
theorem Ew.at{h h':Heap}{it a:Addr}{first:Value}{i n ep:Nat}(x:Ew h it a first i n ep)(e:∀o,h.get? it=some o->h'.get? it=some o):Ew h' it a first i n ep:=let⟨o,ho,r⟩:=x;⟨o,e _ ho,r⟩
def Jd(pl:Array Nat):Nat->Nat
 | 0=>0
 | i+1=>pl.getD i 0+1
inductive Mode (w:World) (a:Addr) (es:Array (Int×Value)) (ep:Nat) (t:SetTable) (h:Heap):Nat->Value->List Value->Prop
 | text {i:Nat} (hb:w.params.followText "set-order" = true):Mode w a es ep t h i (rawInt 0) ((pickOrder (w.params.setOrder a ep) es).toList.map (·.2))
 | table {i:Nat} (hb:w.params.followText "set-order" = false) (hd:(!t.plain && decide (es.size > 1))=false):Mode w a es ep t h i (rawInt (Jd t.place i)) (es.toList.map (·.2))
 | drawn {i:Nat} {pt:Addr} {ps:List Nat} (hb:w.params.followText "set-order" = false) (hp:ps.Perm (List.range es.size)) (ht:h.IsTuple pt (ps.map λ(j:Nat)=>rawInt j).toArray):Mode w a es ep t h i (.ref pt) (ps.map λj=>(es.getD j (0,.none)).2)
theorem Tq{α:Type}(xs:Array α)(d:α):(List.range xs.size).map (λj=>xs.getD j d)=xs.toList:=by
 refine List.ext_getElem (by simp) λi h1 h2=>?_
 simp at h1 h2 ⊢
 simp [h1]
theorem Mode.perm{a:Addr}{es:Array (Int×Value)}{ep:Nat}{t:SetTable}{h:Heap}{i:Nat}{first:Value}{ord:List Value}(m:Mode w a es ep t h i first ord):ord.Perm (es.toList.map (·.2)):=by
 cases m with
 | text hb=>exact(Tp _ _).map _
 | table hb hd=>exact List.Perm.refl _
 | @drawn pt ps hb hp ht =>
  have:=hp.map λj=>(es.getD j (0,Value.none)).2
  refine this.trans (List.Perm.of_eq ?_)
  rw [<- Tq es (0,Value.none),Ybo];rfl
theorem E3{Q:Bool->Shared->Prop}(h:Q (w.params.followText "set-order") s):wpAny (model prog w) A setsByText Q E s:=by
 unfold setsByText
 exact Yaa (wpAny_askSetting (Yab h))
theorem Pu{a:Addr}{es:Array (Int×Value)}{ep:Nat}{t:SetTable}{Q:Value->Shared->Prop}(hA:Di s.heap a es ep t)(hz:es.size<=1000)
  (h:∀it h' d' first ord,s.heap.objs.size<=it->(∀b o,s.heap.get? b=some o->h'.get? b=some o)->Ew h' it a first 0 es.size ep->Mode w a es ep t h' 0 first ord->(∀pt,first=.ref pt->s.heap.objs.size<=pt/\pt≠it)->Q (.ref it) { s with heap:=h',drawn:=d' }) :
  wpAny (model prog w) A (pyIter (.ref a)) Q E s:=by
 obtain⟨o,ho,hc,hd,hf⟩:=id hA
 refine wpAny_pyIter_slot hA.typeIs F.slot_set_iter (Ybb F.slot_set_iter hA.typeIs Ps ?_ (F.args_set_iter_1 _))
 unfold Builtin.«frozenset.__iter__» Builtin.Frozenset.sizeOf setEntries setDrawn setEpoch
 refine(show wpAny _ _ (_ >>= _) _ _ _ from Yaa (show wpAny _ _ (pure a) _ _ _ from Yab (Yaa (Yaa (Yaa (Ya9 ho hd hf (Yab (Yab ?_))))))))
 refine Yaa (Yaa (Ya9 ho hd hf (Yaa (E3 (Yab ?_)))))
 cases hb:w.params.followText "set-order" with
 | true =>
  refine(show wpAny _ _ (if(!true && _)=true then _ else _) _ _ _ from ?_)
  rw [Bool.not_true,Yce,Yah Yad]
  refine Yaa (Yab (Yaa (Yaa (Ya9 ho hd hf (Yab (Yaa (Ya1 (Yab ⟨_,rfl,"set_iterator",_,⟨_,Heap.get?_push_size _ rfl,rfl⟩,Dq.lookup,?_⟩))))))))
  exact h _ _ s.drawn _ _ (Yaf _) (λb o e=>Heap.get?_push_of_some _ e) ⟨_,Heap.get?_push_size _ rfl,rfl,rfl⟩ (.text hb) λpt e=>by cases e
 | false =>
  cases lh:(!t.plain && decide (es.size > 1)) with
  | false =>
   refine(show wpAny _ _ (if(!false && (!t.plain && decide (es.size > 1)))=true then _ else _) _ _ _ from ?_)
   rw [lh,Bool.not_false,Ycd,Yah Yad]
   refine Yaa (Yab (Yaa (Yaa (Ya9 ho hd hf (Yab (Yaa (Ya1 (Yab ⟨_,rfl,"set_iterator",_,⟨_,Heap.get?_push_size _ rfl,rfl⟩,Dq.lookup,?_⟩))))))))
   exact h _ _ s.drawn _ _ (Yaf _) (λb o e=>Heap.get?_push_of_some _ e) ⟨_,Heap.get?_push_size _ rfl,rfl,rfl⟩ (.table hb lh) λpt e=>by cases e
  | true =>
   refine(show wpAny _ _ (if(!false && (!t.plain && decide (es.size > 1)))=true then _ else _) _ _ _ from ?_)
   rw [lh,Bool.not_false,Ycd,Yak rfl]
   refine Yaa (Jc _ _ _ _ (by simp) λps d1 hp=>?_)
   refine Yaa (m:=newTuple _) (show wpAny _ _ _ _ _ _ from ?_)
   simp only [newTuple]
   have i7:ps.length<=1000:=by rw [hp.length_eq];simpa using hz
   refine Ya1 ?_ (by size_fits)
   have i6:=Heap.get?_push_of_some { cls:=Value.type "tuple",data:=Data.seq (List.map (λ(i:Nat)=>rawInt ↑i) ps).toArray } ho
   refine Yaa (Yaa (Ya9 i6 hd hf (Yab (Yaa (Ya1 (Yab ⟨_,rfl,"set_iterator",_,⟨_,Heap.get?_push_size _ rfl,rfl⟩,Dq.lookup,?_⟩))))))
   refine h _ _ d1 _ _ (by rw [Yb4];exact Ydn _) (λb o e=>Heap.get?_push_of_some _ (Heap.get?_push_of_some _ e)) ⟨_,Heap.get?_push_size _ rfl,rfl,rfl⟩ (.drawn hb hp ⟨_,Heap.get?_push_of_some _ (Heap.get?_push_size _ rfl),rfl,0,rfl⟩) λpt e=>?_
   cases e
   exact⟨Yaf _,Yaj (by rw [Yb4];exact Nat.lt_succ_self _)⟩
theorem Pw{t:SetTable}(hr:Dg t.place){i:Nat}(hi:i<=t.place.size):SetTable.below t.place (Jd t.place i)=i:=by
 cases i with
 | zero=>exact Po hr
 | succ i =>
  have:=Pn hr (k:=i) (by omega)
  show SetTable.below t.place (t.place.getD i 0+1)=i+1
  rw [show t.place.getD i 0=t.place[i] by simp [show i < t.place.size by omega]]
  exact this
theorem K6{a:Addr}{es:Array (Int×Value)}{ep slot i:Nat}{t:SetTable}{Q:Option (Value×Nat)->Shared->Prop}(hA:Di s.heap a es ep t)(hb:w.params.followText "set-order" = true) (h:Q (((pickOrder (w.params.setOrder a ep) es)[i]?).map λe=>(e.2,slot)) s) :
  wpAny (model prog w) A (setNext a slot i ep) Q E s:=by
 obtain⟨oa,hoa,_,hda,hf⟩:=hA
 unfold setNext
 refine Yaa (Ya9 hoa hda hf (Yaa (E3 (show wpAny _ _ (if _=true then _ else _) _ _ _ from ?_))))
 rw [Yak hb]
 refine(show wpAny _ _ (if(ep != ep)=true then _ else _) _ _ _ from ?_)
 rw [Yah (by simp)]
 unfold setWalk
 refine Yaa (Yaa (Ya9 hoa hda hf (Yaa (E3 (show wpAny _ _ (if _=true then _ else _) _ _ _ from ?_)))))
 rw [Yak hb]
 exact Yaa (wpAny_askSetting (Yab (Yab h)))
theorem Je{a:Addr}{es:Array (Int×Value)}{ep i g:Nat}{t:SetTable}{Q:Option (Value×Nat)->Shared->Prop}(hA:Di s.heap a es ep t)(hT:TblOk t (D5 w))(hb:w.params.followText "set-order" = false) (lh:(!t.plain && decide (es.size > 1))=false) (hi:i<=es.size)
  (h:Q (match es[i]?,t.place[i]? with | some (_,x),some j=>some (x,j+1) | _,_=>none) s):wpAny (model prog w) A (setNext a (Jd t.place i) g ep) Q E s:=by
 obtain⟨oa,hoa,_,hda,hf⟩:=hA
 have hpl:t.place.size=es.size:=by simp [SetTable.fits]at hf;exact hf.1
 unfold setNext
 refine Yaa (Ya9 hoa hda hf (Yaa (E3 (show wpAny _ _ (if _=true then _ else _) _ _ _ from ?_))))
 rw [Yah (by rw [hb];exact Yad)]
 refine(show wpAny _ _ (if(!t.plain && decide (es.size > 1))=true then _ else _) _ _ _ from ?_)
 rw [lh,Yah Yad]
 refine Yaa (show wpAny _ _ (if(!t.led && !es.isEmpty)=true then _ else _) _ _ _ from ?_)
 rw [Yah (by rw [hT.led,D5,hb];simp)]
 refine Yab (show wpAny _ _ (pure _) _ _ _ from Yab ?_)
 rw [Pw hT.rise (by omega)]
 exact h
theorem C1{a:Addr}{o:Obj}{vs:Array Value}{i:Nat}{x:Value}{Q:Unit->Shared->Prop}(ho:s.heap.get? a=some o)(hd:o.data=.fields vs)(hi:i < vs.size)
  (h:∀h' o',h'.get? a=some o'->o'.cls=o.cls->o'.data=.fields (vs.setIfInBounds i x)->Heap.SameBut a s.heap h'->Q () { s with heap:=h' }):wpAny (model prog w) A (setField (.ref a) i x) Q E s :=
 Ycl ho hd hi (h _ _ (Heap.get?_update_self _ ho (Ycx (Yb7 hd _))) (Obj.cls_mapFields ..) (Yb7 hd _) (Ybn ..))
theorem Ws{it a:Addr}{es:Array (Int×Value)}{ep:Nat}{t:SetTable}{first x:Value}{i:Nat}{ord:List Value}{Q:Option Value->Shared->Prop}(hA:Di s.heap a es ep t)(hT:TblOk t (D5 w))(hI:Ew s.heap it a first i es.size ep)(hM:Mode w a es ep t s.heap i first ord)(ar:a≠it)(pg:∀pt,first=.ref pt->pt≠it)(hx:ord[i]?=some x)
  (hQ:∀h' ff,Ew h' it a ff (i+1) es.size ep->Mode w a es ep t h' (i+1) ff ord->(∀pt,ff=.ref pt->first=.ref pt)->Heap.SameBut it s.heap h'->Q (some x) { s with heap:=h' }) :
  wpAny (model prog w) A (pyNext (.ref it)) Q E s:=by
 obtain⟨o,ho,hc,hd⟩:=id hI
 obtain⟨oa,hoa,_,hda,hf⟩:=id hA
 have hpl:t.place.size=es.size:=by simp [SetTable.fits]at hf;exact hf.1
 unfold pyNext
 refine Yaa (Ycv (wpAny_callSpecial?_slot (name:=Str.ofString "__next__") hI.typeIs Dq (Ybb Dq hI.typeIs Nx ?_ (Rj _))))
 unfold Builtin.«set_iterator.__next__»
 refine(show wpAny _ _ (_ >>= _) _ _ _ from Yaa (show wpAny _ _ (pure (Value.ref it,[])) _ _ _ from Yab (show wpAny _ _ (fieldsOf (.ref it) >>= _) _ _ _ from Yaa (wpAny_fieldsOf ho hd (show wpAny _ _ (setEntries a >>= _) _ _ _ from Yaa ?_)))))
 refine(show wpAny _ _ (setState a >>= _) _ _ _ from Yaa (Ya9 hoa hda hf (Yab (show wpAny _ _ (if((es.size:Int) != (es.size:Int))=true then _ else _) _ _ _ from ?_))))
 rw [Yah (by simp)]
 have fin:∀(Q2:PySem.Fin->Shared->Prop) (E2:Value->Shared->Prop) (nx:Nat),(∀h',Ew h' it a (rawInt nx) (i+1) es.size ep->Heap.SameBut it s.heap h'->Q2 (.done (.ret x)) { s with heap:=h' }) ->
   wpAny (model prog w) A.in1 (setField (.ref it) 0 (rawInt (nx:Nat)) >>= λ_=>setField (.ref it) 1 (rawInt ((i:Int)+1)) >>= λ_=>ret x) Q2 E2 s:=λQ2 E2 nx q=>by
  refine Yaa (C1 ho hd (by simp) λh1 o1 e1 c1 d1 b1=>Yaa (C1 (s:={ s with heap:=h1 }) e1 d1 (by simp) λh2 o2 e2 c2 d2 b2=>Yab (q h2 ⟨o2,e2,c2.trans (c1.trans hc),?_⟩ (b1.trans b2))))
  rw [d2];simp [rawInt]
 cases hM with
 | text hb =>
  refine(show wpAny _ _ (setNext a 0 i ep >>= _) _ _ _ from Yaa (K6 hA hb ?_))
  obtain⟨e,he,rfl⟩:∃e,(pickOrder (w.params.setOrder a ep) es)[i]?=some e/\e.2=x:=by
   rw [List.getElem?_map,Ybl]at hx
   obtain⟨e,he,r⟩:=hx
   exact⟨e,by rw [<- Array.getElem?_toList];exact he,r⟩
  rw [he]
  exact fin _ _ 0 λh' I' b'=>⟨_,rfl,Yab (hQ h' _ I' (.text hb) (λ_ z=>z) b')⟩
 | table hb lh =>
  have hlt:i < es.size:=by
   rw [List.getElem?_map]at hx
   rcases Yb9 i es.size with c | c
   ·exact c
   ·simp [List.getElem?_eq_none,c]at hx
  refine(show wpAny _ _ (setNext a (Jd t.place i) i ep >>= _) _ _ _ from Yaa (Je hA hT hb lh (Yco hlt) ?_))
  have he:es[i]?=some es[i]:=Array.getElem?_eq_getElem hlt
  have hp:t.place[i]?=some (t.place.getD i 0):=by simp [hpl,hlt]
  have jz:es[i].2=x:=by
   rw [List.getElem?_map,Array.getElem?_toList,he]at hx
   exact Ya3 hx
  rw [he,hp]
  dsimp only
  rw [jz]
  exact fin _ _ (t.place.getD i 0+1) λh' I' b'=>⟨_,rfl,Yab (hQ h' _ I' (.table (i:=i+1) hb lh) (λ_ z=>by cases z) b')⟩
 | @drawn pt ps hb hp ht =>
  have hlt:i < ps.length:=by
   rcases Yb9 i ps.length with c | c
   ·exact c
   ·rw [List.getElem?_eq_none (by simpa using c)]at hx;cases hx
  have e1:ps[i]?=some ps[i]:=List.getElem?_eq_getElem hlt
  have gt:ps[i] < es.size:=by simpa using hp.mem_iff.mp (Ybu hlt)
  obtain⟨y,hy,jz⟩:∃y,es[ps[i]]?=some y/\y.2=x:=by
   rw [List.getElem?_map,e1]at hx
   have:=Ya3 hx
   exact⟨es[ps[i]],Array.getElem?_eq_getElem gt,by simpa [gt] using this⟩
  obtain⟨ot,hot,_,nt,hdt⟩:=id ht
  refine(show wpAny _ _ (seqItems? (.ref pt) >>= _) _ _ _ from Yaa (Ycb hot hdt (show wpAny _ _ _ _ _ _ from ?_)))
  dsimp only
  have e2:((ps.map λ(j:Nat)=>rawInt (j:Int)).toArray)[i]?=some (rawInt (ps[i]:Int)):=by
   simp [e1]
  rw [Yey,e2]
  refine(show wpAny _ _ (setNextDrawn a ps[i] ep >>= _) _ _ _ from Yaa ?_)
  unfold setNextDrawn
  refine Yaa (Ya9 hoa hda hf (show wpAny _ _ (if(ep != ep)=true then _ else _) _ _ _ from ?_))
  rw [Yah (by simp),hy]
  refine Yab ?_
  rw [jz]
  refine Yaa (C1 ho hd (by simp) λh1 o1 e1 c1 d1 b1=>Yab ⟨_,rfl,Yab (hQ h1 (.ref pt) ⟨o1,e1,c1.trans hc,?_⟩ (.drawn hb hp (ht.at λo e=>(b1.2 pt (pg pt rfl)).trans e)) (λ_ z=>z) b1)⟩)
  rw [d1];simp [rawInt]
theorem Zv{it a:Addr}{es:Array (Int×Value)}{ep:Nat}{t:SetTable}{first:Value}{ord:List Value}{Q:Option Value->Shared->Prop}(hh:A.handled=none)(hA:Di s.heap a es ep t)(hT:TblOk t (D5 w))(hI:Ew s.heap it a first es.size es.size ep)(hM:Mode w a es ep t s.heap es.size first ord)
  (hQ:∀h',Heap.ExtBut it s.heap h'->Q none { s with heap:=h' }):wpAny (model prog w) A (pyNext (.ref it)) Q E s:=by
 obtain⟨o,ho,hc,hd⟩:=id hI
 obtain⟨oa,hoa,_,hda,hf⟩:=id hA
 have hpl:t.place.size=es.size:=by simp [SetTable.fits]at hf;exact hf.1
 have ak:ord.length=es.size:=by rw [hM.perm.length_eq];simp
 unfold pyNext
 refine Yaa (Ycv (wpAny_callSpecial?_slot (name:=Str.ofString "__next__") hI.typeIs Dq (Ybb Dq hI.typeIs Nx ?_ (Rj _))))
 unfold Builtin.«set_iterator.__next__»
 refine(show wpAny _ _ (_ >>= _) _ _ _ from Yaa (show wpAny _ _ (pure (Value.ref it,[])) _ _ _ from Yab (show wpAny _ _ (fieldsOf (.ref it) >>= _) _ _ _ from Yaa (wpAny_fieldsOf ho hd (show wpAny _ _ (setEntries a >>= _) _ _ _ from Yaa ?_)))))
 refine(show wpAny _ _ (setState a >>= _) _ _ _ from Yaa (Ya9 hoa hda hf (Yab (show wpAny _ _ (if((es.size:Int) != (es.size:Int))=true then _ else _) _ _ _ from ?_))))
 rw [Yah (by simp)]
 have fin:∀(h1:Heap) (Q2:PySem.Fin->Shared->Prop) (E2:Value->Shared->Prop) ,(∀e h',Heap.ExtBut it h1 h'->Shared.TypeIs { s with heap:=h' } e "StopIteration" -> E2 e { s with heap:=h' }) ->
   wpAny (model prog w) A.in1 (newExc (.type "StopIteration") [] >>= λe=>raiseNew e) Q2 E2 { s with heap:=h1 }:=λh1 Q2 E2 q=>by
  refine Yaa ?_
  simp only [newExc,newTuple]
  refine Yaa (Ya1 (Yaa (m:=firstArgMember _ _) (Ycr (a:=Value.none) (by first | rfl | (simp only [firstArgMember];rfl)) (Ya1 ?_ (by size_fits)))) (by size_fits))
  simp only [raiseNew]
  refine Yaa (wpAny_handled ?_)
  rw [show A.in1.handled=none from hh]
  have x0:Heap.ExtBut it h1 h1:=λb o hb e=>e
  refine Yaa (Yab (wpAny_throw ?_))
  exact q _ _ ((x0.push _).push _) ⟨_,Heap.get?_push_size _ rfl,rfl⟩
 have ni:∀(h1:Heap) (e:Value) (h':Heap),Heap.ExtBut it s.heap h1->Heap.ExtBut it h1 h'->Shared.TypeIs { s with heap:=h' } e "StopIteration" -> wpAny (model prog w) A (isInstance e (.type "StopIteration") >>= λb=>if b=true then pure none else throw e) Q E { s with heap:=h' }:=λh1 e h' x1 x2 T=>by
  refine Yaa (Ycj (b:=true) T isSubtype_stop ?_)
  exact Yab (hQ h' λb o hb e=>x2 b o hb (x1 b o hb e))
 cases hM with
 | text hb =>
  refine(show wpAny _ _ (setNext a 0 es.size ep >>= _) _ _ _ from Yaa (K6 hA hb ?_))
  rw [Yac,Yal]at ak
  rw [Array.getElem?_eq_none (by omega)]
  exact Yaa (C1 ho hd (by simp) λh1 o1 e1 c1 d1 b1=>fin h1 _ _ λe h' x T=>ni h1 e h' b1.extBut x T)
 | table hb lh =>
  refine(show wpAny _ _ (setNext a (Jd t.place es.size) es.size ep >>= _) _ _ _ from Yaa (Je hA hT hb lh (Yaf _) ?_))
  rw [Array.getElem?_eq_none (Yaf _)]
  exact Yaa (C1 ho hd (by simp) λh1 o1 e1 c1 d1 b1=>fin h1 _ _ λe h' x T=>ni h1 e h' b1.extBut x T)
 | @drawn pt ps hb hp ht =>
  obtain⟨ot,hot,_,nt,hdt⟩:=id ht
  refine(show wpAny _ _ (seqItems? (.ref pt) >>= _) _ _ _ from Yaa (Ycb hot hdt (show wpAny _ _ _ _ _ _ from ?_)))
  dsimp only
  rw [Yey,Array.getElem?_eq_none (by simpa using Nat.le_of_eq (by simpa using ak))]
  exact Yaa (C1 ho hd (by simp) λh1 o1 e1 c1 d1 b1=>Yaa (C1 (s:={ s with heap:=h1 }) e1 d1 (by simp) λh2 o2 e2 c2 d2 b2=>fin h2 _ _ λe h' x T=>ni h2 e h' (b1.trans b2).extBut x T))
end
end L2
namespace L2
open PySem PySem.Spec PyProof.Rows PySem.W
section
variable {prog:Program}{w:World}{A:Around}{E:Value->Shared->Prop}{s:Shared}
theorem Mode.at{a:Addr}{es:Array (Int×Value)}{ep:Nat}{t:SetTable}{h h':Heap}{i:Nat}{first:Value}{ord:List Value}(m:Mode w a es ep t h i first ord)(hk:∀pt,first=.ref pt->∀o,h.get? pt=some o->h'.get? pt=some o):Mode w a es ep t h' i first ord:=by
 cases m with
 | text hb=>exact .text hb
 | table hb hd=>exact .table hb hd
 | @drawn pt ps hb hp ht=>exact .drawn hb hp (ht.at λo e=>hk pt rfl o e)
theorem Tr(hh:A.handled=none){it a:Addr}{es:Array (Int×Value)}{ep:Nat}{t:SetTable}{ord:List Value}(lq:List Addr)(hT:TblOk t (D5 w))(ar:a≠it)(pg:it∉lq)(ak:ord.length=es.size) :
  Walks prog w A it (it :: a :: lq) [it] es.size (λi v=>ord[i]?=some v) (λi h=>Di h a es ep t/\∃first,Ew h it a first i es.size ep/\Mode w a es ep t h i first ord/\∀pt,first=.ref pt->pt∈lq) where
 sub:=λb hb=>by simp at hb;simp [hb]
 frame:=λi h h' st hk=>by
  obtain⟨hA,first,hI,hM,hp⟩:=st
  exact⟨hA.at λo e=>hk a (by simp) o e,first,hI.at λo e=>hk it (by simp) o e,hM.at λpt z o e=>hk pt (by simp [hp pt z]) o e,hp⟩
 item:=λi s Q E hi st hQ=>by
  obtain⟨hA,first,hI,hM,hp⟩:=st
  refine Ws hA hT hI hM ar (λpt z q=>pg (q ▸ hp pt z)) (x:=ord[i]'(by omega)) (List.getElem?_eq_getElem _) λh' ff hI' hM' hr hb=>?_
  exact hQ _ h' s.toks (List.getElem?_eq_getElem _) ⟨hA.at λo e=>(hb.2 a ar).trans e,ff,hI',hM',λpt z=>hp pt (hr pt z)⟩ λb o i4 e=>hb.extBut b o (λz=>i4 (by simp [z])) e
 done:=λs Q E st hQ=>by
  obtain⟨hA,first,hI,hM,hp⟩:=st
  exact Zv hh hA hT hI hM λh' he=>hQ h' s.toks λb o hb e=>he b o (λz=>hb (by simp [z])) e
 self:=λi s Q E st hQ=>by
  obtain⟨hA,first,hI,hM,hp⟩:=st
  refine wpAny_pyIter_slot hI.typeIs Rk (Ybb Rk hI.typeIs To (show wpAny _ _ (ret (.ref it)) _ _ s from ?_) (Wr _))
  exact Yab ⟨_,rfl,"set_iterator",_,hI.typeIs,Dq.lookup,hQ⟩
theorem Wt{a:Addr}{Q:Bool->Shared->Prop}(hT:s.TypeIs (.ref a) "set") (h:Q false s):wpAny (model prog w) A (Builtin.List.listLengthHint (.ref a)) Q E s:=by
 unfold Builtin.List.listLengthHint
 refine Yaa (Ych hT PySem.F.slot_set_len.lookup ?_)
 generalize v9:("set.__len__" : String)=id0
 wp_delta
 rw [show splitId id0=some ("set","__len__") from by subst v9;decide +kernel]
 subst v9
 refine Yaa (Ycj (T := "set") (b:=true) hT sub_set_self (Ydj (λjn=>absurd jn (by decide)) λ_=>Ydj (λ_=>?_) (λjn=>absurd (by decide +kernel) jn)))
 exact Yaa (Ydw hT (Yab h))
theorem Ts{ord:List Value}{aj:Array Value}{n:Nat}(h:ItemsOf (λi v=>ord[i]?=some v) aj n)(hl:ord.length=n):aj.toList=ord:=by
 refine Yd0 λi=>?_
 rw [Array.getElem?_toList]
 rcases Yb9 i aj.size with c | c
 ·have:=h.2 i aj[i] (Array.getElem?_eq_getElem c)
  rw [this,Array.getElem?_eq_getElem c]
 ·rw [Array.getElem?_eq_none c,List.getElem?_eq_none (by rw [hl,<- h.1];exact c)]
theorem Hb{a:Addr}{es:Array (Int×Value)}{ep:Nat}{t:SetTable}{Q:List Value->Shared->Prop}(hh:A.handled=none)(hA:Di s.heap a es ep t)(hT:TblOk t (D5 w))(hz:es.size<=1000)
  (h:∀h' d' tk ord,(∀b o,s.heap.get? b=some o->h'.get? b=some o)->s.heap.objs.size<=h'.objs.size->ord.Perm (es.toList.map (·.2))->Q ord { s with heap:=h',drawn:=d',toks:=tk }) :
  wpAny (model prog w) A (collect (.ref a)) Q E s:=by
 have la:a < s.heap.objs.size:=by obtain⟨o,e,_⟩:=hA;exact Yae e
 unfold collect
 refine Yaa (Yd3 (Ycm F.entry_proto_collect ?_))
 rw [Yb5 F.plain_proto_collect _]
 refine(show wpAny _ A.in1 (newList [] >>= λl=>again (.builtin "list.__iadd__" ⟨[l,.ref a],[]⟩)) _ _ s from Yaa (Ya1 (Yab ⟨Yc3 F.plain_list_iadd _,Ycm F.entry_list_iadd ?_⟩)))
 rw [Yb5 F.plain_list_iadd _]
 generalize hL:s.heap.objs.size=S
 generalize po:s.heap.push { cls:=.type "list",data:=.seq ([]:List Value).toArray }=h1
 have k1:∀b o,s.heap.get? b=some o->h1.get? b=some o:=λb o e=>by subst po;exact Heap.get?_push_of_some _ e
 have eS:h1.get? S=some { cls:=.type "list",data:=.seq ([]:List Value).toArray }:=by subst po;subst hL;exact Heap.get?_push_size _ rfl
 have hSa:S≠a:=Yc4 (Yaj (hL ▸ la))
 have kr:Builtin.List.listSameRef (.ref S) (.ref a)=false:=by simp [Builtin.List.listSameRef,hSa]
 have wf:Di h1 a es ep t:=hA.at λo e=>k1 a o e
 refine(show wpAny _ A.in1 (Builtin.List.listExtendWith (.ref S) (.ref a) (.ref S)) _ _ { s with heap:=h1 } from ?_)
 unfold Builtin.List.listExtendWith
 refine Yaa (Ydw (Di.typeIs (s:={ s with heap:=h1 }) wf) (Ydj (λjn=>absurd jn (by rw [kr];decide)) λ_=>?_))
 refine Yaa (Pu (s:={ s with heap:=h1 }) wf hz λit h2 d2 first ord bj k2 hI hM hpt=>?_)
 refine Yaa (Ya4 (Wt (s:={ s with heap:=h2,drawn:=d2 }) (Di.typeIs (s:={ s with heap:=h2,drawn:=d2 }) (wf.at λo e=>k2 a o e)) ?_))
 refine Ydj (λ_=>?_) λjn=>absurd (by decide) jn
 have e2:h2.get? S=some { cls:=.type "list",data:=.seq ([]:List Value).toArray }:=k2 S _ eS
 refine Yaa (Yb8 (Yaa (show wpAny _ _ (updateSeq S (·.push .none) >>= λ_=>updateSeq S (·.pop)) _ _ _ from Yaa (Yfm e2 rfl (Yfm (Heap.get?_update_self (Obj.mapSeq (·.push Value.none)) e2 rfl) rfl ?_)))))
 have e4:=Heap.get?_update_self (Obj.mapSeq (·.pop)) (Heap.get?_update_self (Obj.mapSeq (·.push Value.none)) e2 rfl) rfl
 have k4:∀b o,b≠S->h2.get? b=some o->((h2.update S (Obj.mapSeq (·.push Value.none))).update S (Obj.mapSeq (·.pop))).get? b=some o:=λb o hb e=>(Heap.get?_update_other _ _ (Yc4 hb)).trans ((Heap.get?_update_other _ _ (Yc4 hb)).trans e)
 generalize ((h2.update S (Obj.mapSeq (·.push Value.none))).update S (Obj.mapSeq (·.pop)))=h4 at e4 k4 ⊢
 have lS:S < h1.objs.size:=Yae eS
 have lw:h1.objs.size<=it:=bj
 have nS:S≠it:=by intro z;subst z;omega
 have na:a≠it:=Yaj (Nat.lt_trans (hL ▸ la) (Yam lS lw))
 obtain⟨lq,jf,fv⟩:∃lq:List Addr,(∀pt,first=.ref pt->pt∈lq)/\∀pt∈lq,h1.objs.size<=pt/\pt≠it:=by
  by_cases hf:∃pt,first=.ref pt
  ·obtain⟨pt,hf⟩:=hf
   exact⟨[pt],λq hq=>by rw [hf]at hq;cases hq;simp,λq hq=>by rw [Ya8]at hq;subst hq;exact hpt q hf⟩
  ·exact⟨[],λq hq=>absurd ⟨q,hq⟩ hf,λ_ hq=>nomatch hq⟩
 have ak:ord.length=es.size:=by rw [hM.perm.length_eq];simp
 have W:=Tr (prog:=prog) (A:=A.in1) hh (es:=es) (ep:=ep) (ord:=ord) lq hT na (λz=>(fv it z).2 rfl) ak
 have hSf:S∉it :: a :: lq:=by
  simp only [List.mem_cons,not_or]
  exact⟨nS,hSa,λz=>by have:=(fv S z).1;omega⟩
 refine Yab ⟨Yc3 F.plain_extend_loop _,codeAny_extend_loopS W.toS (Yas hz (by decide)) S hSf (.ref S) es.size 0 { s with heap:=h4,drawn:=d2 } #[] _ rfl (Ya6 _) ?_ e4 (ItemsOf.nil _) λs' fg c' hm qp gq=>?_⟩
 ·refine⟨wf.at λo e=>k4 a o (Yc4 hSa) (k2 a o e),first,hI.at λo e=>k4 it o (Yc4 nS) e,hM.at λpt z o e=>k4 pt o (λq=>?_) e,jf⟩
  have:=(fv pt (jf pt z)).1
  subst q;omega
 ·rw [Moved.eq_with hm]
  refine Yaa (wpAny_load qp (Yab ?_))
  rw [Ts gq ak]
  refine h s'.heap d2 s'.toks ord (λb o e=>hm.heap b o ?_ (k4 b o ?_ (k2 b o (k1 b o e)))) (Yco ?_) hM.perm
  ·have lb:=Yae e
   simp only [List.mem_cons,List.not_mem_nil,or_false,not_or]
   rw [hL]at lb
   exact⟨Yaj lb,Yaj (Nat.lt_trans lb (Yam lS lw))⟩
  ·have lb:=Yae e
   rw [hL]at lb
   exact Yaj lb
  ·rw [hL];exact Yae qp
theorem Hc{v:Value}{Q:Value->Shared->Prop}(zag:wpAny (model prog w) A.in1 (collect v) (λvs s1=>∃lt:Nat->Nat->Bool,vs.length < 1000/\StrictOrd vs.length lt /\
   (2<=vs.length->∀h':Heap,(∀b o,s1.heap.get? b=some o->h'.get? b=some o)->∃ κ,(∀Q:SortKind->Shared->Prop,Q κ { s1 with heap:=h' }->wpAny (model prog w) A.in1.in1 (keyKind' vs.toArray) Q E { s1 with heap:=h' }) /\
    ∀i j C,i < vs.length->j < vs.length->C (lt i j) { s1 with heap:=h' }->kas_ask prog w A.in1.in1 κ vs i j C { s1 with heap:=h' }) /\
   ∀(p:Array Nat) (h':Heap) (l c:Nat),Pm vs.length p->Up lt p vs.length->s1.heap.objs.size<=l->(∀b o,s1.heap.get? b=some o->h'.get? b=some o)->h'.get? l=some (seqObj "list" (p.toList.map λi=>vs.getD i Value.none).toArray c)->Q (.ref l) { s1 with heap:=h' }) E s) :
  wpAny (model prog w) A (call (.builtin "sorted") [v]) Q E s:=by
 refine Calls.call_function_entry kind_sorted plain_sorted entry_sorted (args_sorted1 _) ?_
 unfold Builtin.«sorted»
 refine Yaa (m:=checkCount "sorted" 1 1 _) (Yab (Yaa (Ybk zag (λvs s1 hx=>?_) λ_ _ e=>e)))
 obtain⟨lt,we,O,hk,h⟩:=hx
 have sz:vs.length<=sizeLine:=Yas (Yco we) (by decide)
 have hL:(s1.heap.push (seqObj "list" vs.toArray 0)).get? s1.heap.objs.size=some (seqObj "list" vs.toArray 0):=Heap.get?_push_size _ rfl
 refine Yaa (wpAny_newList (Yaa (Ya4 (Ybb slot_list_sort ⟨_,hL,rfl⟩ entry_list_sort ?_ (args_list_sort _)))) sz)
 have kk:∀(h':Heap),(∀b o,b≠s1.heap.objs.size->(s1.heap.push (seqObj "list" vs.toArray 0)).get? b=some o->h'.get? b=some o)->∀b o,s1.heap.get? b=some o->h'.get? b=some o:=λh' k b o q=>k b o (Yaj (Yae q)) (Heap.get?_push_of_some _ q)
 exact Iw (s:={ s1 with heap:=s1.heap.push (seqObj "list" vs.toArray 0) }) hL we O (λh2 h' k=>hk h2 h' (kk h' k)) λp h' c pm up k e=>⟨_,rfl,Yab ⟨_,rfl,h p h' _ c pm up (Yaf _) (kk h' k) e⟩⟩
def B3:Value->Int
 | .int n _=>n
 | _=>0
def IsI(v:Value):Prop:=∃n t,v=.int n t
theorem Ny:∀{vs:List Value},(∀v∈vs,IsI v)->IntsAre vs (vs.map B3)
 | [],_=>.nil
 | v :: vs,h=>by
  obtain⟨n,t,rfl⟩:=h _ Yaz
  exact .cons n t (Ny λu hu=>h u (Yax _ hu))
theorem Zw{k:Key}{n:Int}{t:Tok}(h:(Bm prog w).is k (.int n t)=true):k=.inl n:=by
 rcases keyIs_shape (show G3 _ _=true from h) with⟨i,t',rfl,e⟩ | ⟨x,t',rfl,e⟩
 ·cases e;rfl
 ·cases e
theorem Ex{l:List (Int×Value)}{ns:List Int}(iz:ElemsOf (Bm prog w) l)(hK:Keys (Bm prog w) l (ns.map Sum.inl)){e:Int×Value}(he:e∈l):∃n t,e.2=.int n t/\n∈ns:=by
 obtain⟨⟨k,hk,_⟩,_⟩:=iz e he
 have:=(hK k).mp ⟨e,he,hk⟩
 obtain⟨n,hn,rfl⟩:=Ya2.mp this
 rcases keyIs_shape (show G3 (Sum.inl n) e.2=true from hk) with⟨i,t,e1,e2⟩ | ⟨x,t,e1,e2⟩
 ·cases e1;exact⟨n,t,e2,hn⟩
 ·cases e1
theorem Px{a:Addr}{l:List (Int×Value)}{ns:List Int}{Q:Value->Shared->Prop}(hh:A.handled=none)(hS:Dh (Bm prog w) s.heap a l (D5 w))(hU:Unlike (Bm prog w) l)(hK:Keys (Bm prog w) l (ns.map Sum.inl))(hl:l.length < 64)
  (h:∀(h':Heap) (d':Drawn) (tk p c:Nat) (vs:List Value),(∀b o,s.heap.get? b=some o->h'.get? b=some o)->s.heap.objs.size<=p->h'.get? p=some (seqObj "list" vs.toArray c)->(∀v∈vs,IsI v)->(vs.map B3).Pairwise (· < ·)->(∀n,n∈vs.map B3↔n∈ns)->vs.length < 64->Q (.ref p) { s with heap:=h',drawn:=d',toks:=tk }) :
  wpAny (model prog w) A (call (.builtin "sorted") [.ref a]) Q E s:=by
 obtain⟨o,es,ep,t,ho,fu,hd,rfl,iz,hf,hT⟩:=hS
 have hz:es.size < 64:=by simpa using hl
 refine Hc (Hb (show A.in1.handled=none from hh) ⟨o,ho,fu.1,hd,hf⟩ hT (by omega) λh1 d1 t1 ord k1 z1 hp=>?_)
 have hi:∀v∈ord,IsI v:=λv hv=>by
  obtain⟨e,he,rfl⟩:=Ya2.mp (hp.mem_iff.mp hv)
  obtain⟨n,t,e1,_⟩:=Ex iz hK he
  exact⟨n,t,e1⟩
 have jd:∀n,n∈ord.map B3↔n∈ns:=λn=>by
  rw [Ya2]
  constructor
  ·rintro⟨v,hv,rfl⟩
   obtain⟨e,he,rfl⟩:=Ya2.mp (hp.mem_iff.mp hv)
   obtain⟨n,t,e1,e2⟩:=Ex iz hK he
   rw [e1];exact e2
  ·intro hn
   obtain⟨e,he,hk⟩:=(hK (.inl n)).mpr (Ya2.mpr ⟨n,hn,rfl⟩)
   obtain⟨n',t,e1,_⟩:=Ex iz hK he
   rw [e1]at hk
   have:=Zw hk
   cases this
   exact⟨e.2,hp.mem_iff.mpr (Ya2.mpr ⟨e,he,rfl⟩),by rw [e1];rfl⟩
 have lj:(ord.map B3).Nodup:=by
  have e1:(ord.map B3).Perm ((es.toList.map (·.2)).map B3):=hp.map _
  refine e1.nodup_iff.mpr ?_
  unfold List.Nodup
  rw [Yct,Yct]
  refine List.Pairwise.imp_of_mem (λ{e e'} he og hu q=>?_) hU
  obtain⟨n,t,e1,_⟩:=Ex iz hK he
  obtain⟨n',t',e2,_⟩:=Ex iz hK og
  rw [e1,e2]at q
  have q':n=n':=q
  subst q'
  have:=hu (.inl n) (by rw [e1];exact C5 _ _ _ _)
  rw [e2,C5]at this
  cases this
 have ak:ord.length < 64:=by rw [hp.length_eq];simpa using hz
 refine⟨λi j=>decide ((ord.map B3).getD i 0 < (ord.map B3).getD j 0),by omega,⟨λi j k _ _ _ h1 h2=>?_,λi j en hj' fh h1=>?_,λi _=>Yau (Int.lt_irrefl _)⟩,λh2 h' kp=>⟨oneType',λQ q=>?_,λi j C en hj' q=>?_⟩,λp h' lb c pm up hlb kp e=>?_⟩
 ·simp only [decide_eq_true_eq]at h1 h2 ⊢;omega
 ·simp only [decide_eq_false_iff_not,decide_eq_true_eq]at h1 ⊢
  suffices ne:(ord.map B3).getD j 0≠(ord.map B3).getD i 0 by omega
  refine λq=>fh ?_
  refine((List.getElem?_inj (by simpa using hj') lj).mp ?_).symm
  rw [D3 (d:=(0:Int)) (by simpa using hj'),D3 (d:=(0:Int)) (by simpa using en),q]
 ·match ord,hi,h2 with
  | v1 :: v2 :: vs,hi,_ =>
   rw [keyKind_ints (Ny hi)]
   exact Yab q
 ·unfold kas_ask
  obtain⟨n1,t1,e1⟩:=hi _ (Cl (d:=Value.none) en)
  obtain⟨n2,t2,e2⟩:=hi _ (Cl (d:=Value.none) hj')
  have g:∀i,i < ord.length->(ord.map B3).getD i 0=B3 (ord.getD i .none):=λi hi=>by
   simp [List.getD_eq_getElem?_getD,hi]
  dsimp only at q
  rw [g i en,g j hj',e1,e2]at q
  rw [e1,e2,keyLt'_oneType]
  exact oneLt_int q
 ·have jf:∀i∈p.toList,i < ord.length:=λi hi=>Ybi.mp (pm.perm.mem_iff.mp hi)
  have g:∀i,i < ord.length->(ord.map B3).getD i 0=B3 (ord.getD i .none):=λi hi=>by
   simp [List.getD_eq_getElem?_getD,hi]
  have pv:(p.toList.map λi=>ord.getD i Value.none).Perm ord:=by
   have e2:=pm.perm.map λi=>ord.getD i Value.none
   rw [Eu]at e2
   exact e2
  refine h h' d1 t1 lb c _ (λb o q=>kp b o (k1 b o q)) (Yas z1 hlb) e (λv hv=>hi v (pv.mem_iff.mp hv)) ?_ (λn=>?_) (by rw [pv.length_eq];exact ak)
  ·rw [Ybo,Yct]
   refine Ycf.mpr λi j lm hj2 fh=>?_
   have hj':j < ord.length:=by rw [<- pm.size];simpa using hj2
   have:=up i j fh hj'
   have gi:p.getD i 0=p.toList[i]:=by simp [Array.getD,show i < p.size by simpa using lm]
   have gj:p.getD j 0=p.toList[j]:=by simp [Array.getD,show j < p.size by simpa using hj2]
   rw [gi,gj]at this
   dsimp only at this
   rw [g _ (jf _ (Ybu lm)),g _ (jf _ (Ybu hj2))]at this
   simpa using this
  ·rw [<- jd n]
   exact(pv.map B3).mem_iff
end
end L2
namespace L2
open PySem PySem.Spec PyProof.Rows
section
variable {X:Cx}{aa:List (Addr×Obj)}{σ:St}{H:Hp}{s:Shared}
theorem Inv.drw(I:Inv X aa σ H s)(d:Drawn):Inv X aa σ H { s with drawn:=d }:=⟨I.ok,I.os,I.bare,I.base,I.loc,I.cell,I.free,I.freeC,I.pin,I.hok,I.len⟩
theorem Gs{P:Program}{w:World}:∀{ns:List Int} {us:List Value},Vals (ns.map V.int) us->ItemsAre (Bm P w) (ns.map Sum.inl) us/\∀v∈us,v.scannable=true
 | [],_,h=>by cases h;exact⟨.nil,λ_ h=>nomatch h⟩
 | n :: ns,_,h=>by
  cases h with
  | cons h1 h2 =>
   obtain⟨t,rfl⟩:=h1
   obtain⟨a,b⟩:=Gs (P:=P) (w:=w) h2
   refine⟨.cons (C5 _ _ _ _) a,λv hv=>?_⟩
   rcases Yat.mp hv with rfl | hv
   ·rfl
   ·exact b v hv
theorem Nz:∀{vs:List Value},(∀v∈vs,IsI v)->Vals ((vs.map B3).map V.int) vs
 | [],_=>.nil
 | v :: vs,h=>by
  obtain⟨n,t,rfl⟩:=h _ Yaz
  exact .cons ⟨t,rfl⟩ (Nz λu hu=>h u (Yax _ hu))
theorem Rm{K:PySem.W.Frag}{H:Hp}:∀(ns:List Int),Au K H (ns.map λn=>AV.D (.int n)) (ns.map V.int)
 | []=>.nil
 | _ :: ns=>.cons C0 (Rm ns)
end
noncomputable instance decPD:DecidableEq PyData:=λa b=>Classical.propDecidable (a=b)
mutual
def Gu:PyData->Nat
 | .tuple ds=>Cp ds+1
 | _=>1
def Cp:List PyData->Nat
 | []=>0
 | d :: ds=>Gu d+Cp ds
end
theorem Jf(w:World):∀(a b:List PyData),Cz w (a++b)=Cz w a++Cz w b
 | [],b=>rfl
 | x :: a,b=>by simp only [List.cons_append,Cz,Jf w a b]
theorem Hd:∀(a b:List PyData),Cp (a++b)=Cp a+Cp b
 | [],b=>by simp [Cp]
 | x :: a,b=>by simp only [List.cons_append,Cp,Hd a b];omega
section
variable {prog:Program}{w:World}
theorem Zx:∀(n:Nat) (d:PyData) (u:Value) (as:List Addr) (A:Around) (E:Value->Shared->Prop) (s:Shared) (Q:Int->Shared->Prop),d.depth<=n->Cano d=true->Reads s.heap u d as->A.units+n < cLine->Q (A5 w d) { s with toks:=s.toks+Gu d } ->
  wpAny (model prog w) A (pyHash u) Q E s:=by
 intro n
 induction n with
 | zero =>
  intro d u as A E s Q hd hc hr hu h
  cases hr with
  | int i t=>exact(Bm prog w).pyHash (C5 _ _ _ _) h
  | str x t=>exact(Bm prog w).pyHash (G4 _ _ _ _) h
  | tuple a1 a2 a3 a4=>simp [PyData.depth]at hd
  | none=>simp [Cano]at hc
  | bool b=>simp [Cano]at hc
  | list a1 a2 a3 a4=>simp [Cano]at hc
  | dict a1 a2 a3 a4 a5=>simp [Cano]at hc
 | succ n ih =>
  intro d u as A E s Q hd hc hr hu h
  cases hr with
  | int i t=>exact(Bm prog w).pyHash (C5 _ _ _ _) h
  | str x t=>exact(Bm prog w).pyHash (G4 _ _ _ _) h
  | none=>simp [Cano]at hc
  | bool b=>simp [Cano]at hc
  | list a1 a2 a3 a4=>simp [Cano]at hc
  | dict a1 a2 a3 a4 a5=>simp [Cano]at hc
  | @tuple a o items m ds as ho bo hdt hi =>
   have hT:s.TypeIs (.ref a) "tuple" := ⟨o,ho,bo⟩
   have jv:PyData.depthAll ds<=n:=by simp only [PyData.depth]at hd;omega
   have cu:Aj ds=true:=hc
   unfold pyHash
   first | unfold pyHashByItsType | skip
   first | refine Yaa (wpAny_cRoomFor_or (.inr (by omega)) ?_) | skip
   refine Yaa (Ych hT F.slot_tuple_hash.lookup (show wpAny _ _ (if(some (Value.builtin "tuple.__hash__")==some Value.none)=true then _ else _) Q E s from ?_))
   rw [Yah (by rw [beq_builtin_none];exact Yad)]
   refine Yaa (Ych hT F.slot_tuple_hash.lookup (show wpAny _ _ (callSpecialIfBoundUnlessNone? (.ref a) "__hash__" _ >>= _) Q E s from ?_))
   refine Yaa (wpAny_callSpecialIfBoundUnlessNone?_slot hT F.slot_tuple_hash (Ybb F.slot_tuple_hash hT F.entry_tuple_hash (show wpAny _ _ (Builtin.Tuple.tupleItemsOf (.ref a) >>= _) _ _ s from ?_) (F.args_tuple_hash_1 _)))
   refine Yaa (Ydu ho hdt (Yaa ?_))
   rw [<- Yes]
   refine Yc8 _ (λrest (b:Array Int) s'=>∃dn lf bs,ds=dn++lf/\ReadsAll s.heap rest lf bs/\Aj lf=true/\PyData.depthAll lf<=n/\b.toList=Cz w dn/\s'={ s with toks:=s.toks+Cp dn }) _ ?_ ?_ _ _ ⟨[],ds,as,rfl,hi,cu,jv,rfl,rfl⟩
   ·rintro x rest b s' ⟨dn,lf,bs,rfl,hl,bo,hdl,hb,rfl⟩
    cases hl with
    | @cons _ _ d ds' as1 bs1 h1 hl' =>
     simp only [Aj,Bool.and_eq_true]at bo
     simp only [PyData.depthAll]at hdl
     refine Yaa (ih d x as1 A.in1 _ { s with toks:=s.toks+Cp dn } _ (by omega) bo.1 h1 (by show A.units+1+n < _;omega) ?_)
     have fin:∃zk wx bs',dn++d :: ds'=zk++wx/\ReadsAll s.heap rest wx bs'/\Aj wx=true/\PyData.depthAll wx<=n/\(b.push (A5 w d)).toList=Cz w zk/\({ s with toks:=s.toks+Cp dn+Gu d }:Shared)={ s with toks:=s.toks+Cp zk } :=
      ⟨dn++[d],ds',bs1,by simp,hl',bo.2,by omega,by simp [hb,Jf,Cz],by simp [Hd,Cp,Nat.add_assoc]⟩
     first
      | exact Yab fin
      | exact Yaa (Yab (Yab fin))
   ·rintro b s' ⟨dn,lf,bs,rfl,hl,bo,hdl,hb,rfl⟩
    cases hl
    rw [Yc5]at h
    simp only [A5,Gu]at h
    refine(show wpAny _ _ (retInt (Builtin.Tuple.tupleHashOf b.toList)) _ _ _ from ?_)
    rw [hb]
    refine wpAny_ret_mkInt (show wpAny _ _ (if(decide (-(2:Int) ^ 63<=Builtin.Tuple.tupleHashOf (Cz w dn)) && decide (Builtin.Tuple.tupleHashOf (Cz w dn) < 2 ^ 63))=true then _ else _) Q E _ from ?_)
    unfold reduceHash at h
    by_cases hr:(decide (-(2:Int) ^ 63<=Builtin.Tuple.tupleHashOf (Cz w dn)) && decide (Builtin.Tuple.tupleHashOf (Cz w dn) < 2 ^ 63))=true
    ·rw [Yak hr]at h ⊢
     exact Yab (by simpa [Nat.add_assoc] using h)
    ·rw [Yah hr]at h ⊢
     exact Yaa (Yb8 (Yab (by simpa [Nat.add_assoc] using h)))
theorem Jg:∀(n q:Nat) (d:PyData) (u:Value) (as:List Addr) (A:Around) (E:Value->Shared->Prop) (s:Shared) (Q:Bool->Shared->Prop),d.depth<=n->n < q->Cano d=true->Reads s.heap u d as->Q true s->wpAny (model prog w) A (eqIsQuiet q u) Q E s:=by
 intro n
 induction n with
 | zero =>
  intro q d u as A E s Q hd hq hc hr h
  cases hr with
  | int i t=>rw [Ye5 _ rfl];exact Yab h
  | str x t=>rw [Ye5 _ rfl];exact Yab h
  | tuple a1 a2 a3 a4=>simp [PyData.depth]at hd
  | none=>simp [Cano]at hc
  | bool b=>simp [Cano]at hc
  | list a1 a2 a3 a4=>simp [Cano]at hc
  | dict a1 a2 a3 a4 a5=>simp [Cano]at hc
 | succ n ih =>
  intro q d u as A E s Q hd hq hc hr h
  cases hr with
  | int i t=>rw [Ye5 _ rfl];exact Yab h
  | str x t=>rw [Ye5 _ rfl];exact Yab h
  | none=>simp [Cano]at hc
  | bool b=>simp [Cano]at hc
  | list a1 a2 a3 a4=>simp [Cano]at hc
  | dict a1 a2 a3 a4 a5=>simp [Cano]at hc
  | @tuple a o items m ds as ho bo hdt hi =>
   have hT:s.TypeIs (.ref a) "tuple" := ⟨o,ho,bo⟩
   have jv:PyData.depthAll ds<=n:=by simp only [PyData.depth]at hd;omega
   have cu:Aj ds=true:=hc
   obtain⟨q',rfl⟩:∃q',q=q'+1:=⟨q - 1,by omega⟩
   unfold eqIsQuiet
   refine Yaa (Ych hT F.slot_tuple_eq.lookup (show wpAny _ _ (isInstance (.ref a) (.type "tuple") >>= _) _ _ s from Yaa (Ycj hT Ye8 ?_)))
   simp only [Bool.not_true,Bool.false_eq_true,if_false]
   refine Yaa (Ycb ho hdt (Yaa (show wpAny _ _ (forIn items _ _) _ _ s from ?_)))
   rw [<- Yes]
   refine Yc8 _ (λrest r s'=>r.1=none/\s'=s/\∃lf bs,ReadsAll s.heap rest lf bs/\Aj lf=true/\PyData.depthAll lf<=n) _ ?_ ?_ _ _ ⟨rfl,rfl,ds,as,hi,cu,jv⟩
   ·rintro v rest r s' ⟨hr,rfl,lf,bs,hl,bo,hdl⟩
    cases hl with
    | @cons _ _ d ds' as1 bs1 h1 hl' =>
     simp only [Aj,Bool.and_eq_true]at bo
     simp only [PyData.depthAll]at hdl
     refine Yaa (ih q' d v as1 A _ s' _ (by omega) (by omega) bo.1 h1 ?_)
     simp only [Bool.not_true,Bool.false_eq_true,if_false]
     exact Yab ⟨rfl,rfl,ds',bs1,hl',bo.2,by omega⟩
   ·rintro⟨r1,r2⟩ s' ⟨hr,rfl,_⟩
    simp only at hr
    subst hr
    exact Yab h
mutual
theorem K7{h:Heap}:∀{v:Value} {d e:PyData} {as bs:List Addr},Reads h v d as->Reads h v e bs->Cano d=true->Cano e=true->d=e
 | _,_,_,_,_,.int i t,r,_,_=>by cases r;rfl
 | _,_,_,_,_,.str x t,r,_,_=>by cases r;rfl
 | _,_,_,_,_,.tuple a1 a2 a3 a4,r,hc,jh=>by
  cases r with
  | tuple b1 b2 b3 b4 =>
   rw [a1]at b1;cases b1
   rw [a3]at b3;cases b3
   rw [Fz a4 b4 hc jh]
  | list b1 b2 b3 b4=>simp [Cano]at jh
  | dict b1 b2 b3 b4 b5=>simp [Cano]at jh
 | _,_,_,_,_,.none,_,hc,_=>by simp [Cano]at hc
 | _,_,_,_,_,.bool b,_,hc,_=>by simp [Cano]at hc
 | _,_,_,_,_,.list a1 a2 a3 a4,_,hc,_=>by simp [Cano]at hc
 | _,_,_,_,_,.dict a1 a2 a3 a4 a5,_,hc,_=>by simp [Cano]at hc
theorem Fz{h:Heap}:∀{vs:List Value} {ds es:List PyData} {as bs:List Addr},ReadsAll h vs ds as->ReadsAll h vs es bs->Aj ds=true->Aj es=true->ds=es
 | _,_,_,_,_,.nil,r,_,_=>by cases r;rfl
 | _,_,_,_,_,.cons r1 r2,r,hc,jh=>by
  cases r with
  | cons q1 q2 =>
   simp only [Aj,Bool.and_eq_true]at hc jh
   rw [K7 r1 q1 hc.1 jh.1,Fz r2 q2 hc.2 jh.2]
end
mutual
theorem Gv{h h':Heap}{p:Addr}(hk:∀b o,b≠p->h.get? b=some o->h'.get? b=some o)(hp:∀o vs n,h.get? p=some o->o.data≠.seq vs n):∀{v:Value} {d:PyData} {as:List Addr},Reads h v d as->Cano d=true->Reads h' v d as
 | _,_,_,.int i t,_=>.int i t
 | _,_,_,.str x t,_=>.str x t
 | _,_,_,.tuple a1 a2 a3 a4,hc=>.tuple (hk _ _ (λz=>by subst z;exact hp _ _ _ a1 a3) a1) a2 a3 (F0 hk hp a4 hc)
 | _,_,_,.none,hc=>by simp [Cano]at hc
 | _,_,_,.bool b,hc=>by simp [Cano]at hc
 | _,_,_,.list a1 a2 a3 a4,hc=>by simp [Cano]at hc
 | _,_,_,.dict a1 a2 a3 a4 a5,hc=>by simp [Cano]at hc
theorem F0{h h':Heap}{p:Addr}(hk:∀b o,b≠p->h.get? b=some o->h'.get? b=some o)(hp:∀o vs n,h.get? p=some o->o.data≠.seq vs n):∀{vs:List Value} {ds:List PyData} {as:List Addr},ReadsAll h vs ds as->Aj ds=true->ReadsAll h' vs ds as
 | _,_,_,.nil,_=>.nil
 | _,_,_,.cons r1 r2,hc=>by
  simp only [Aj,Bool.and_eq_true]at hc
  exact .cons (Gv hk hp r1 hc.1) (F0 hk hp r2 hc.2)
end
theorem Ga{x y:PyData}(hx:Cano x=true)(hy:Cano y=true):PyData.eqv x y=decide (x=y):=by
 by_cases h:x=y
 ·subst h;rw [Dz x hx,Ybd rfl]
 ·rw [Yau h];exact(Pg hx hy).mpr h
variable(prog w) in
noncomputable def Jh:HeapKind prog w PyData where
 is:=λh d a=>KeyTree d/\∃as,Reads h (.ref a) d as
 hash:=A5 w
 draws:=Gu
 room:=λA=>A.units+6 < cLine
 inj:=λ⟨kx,_,rx⟩ ⟨ky,_,ry⟩=>K7 rx ry kx.can ky.can
 keeps:=λ⟨k,as,r⟩ ho hd hs=>⟨k,as,Gv (λb o hb e=>(hs.2 b hb).trans e) (λo' vs n e q=>by rw [ho]at e;cases e;rw [hd]at q;cases q) r k.can⟩
 pyHash:=λhu ⟨k,as,r⟩ h=>Zx 6 _ _ as _ _ _ _ k.dep k.can r hu h
 eqBool:=λhu ⟨kx,as,rx⟩ ⟨ky,bs,ry⟩ h=>Yd4 _ _ _ _ _ _ _ _ rx ry kx.lay ky.lay (by have:=kx.dep;omega) _ _ _ _ (by rw [Ga kx.can ky.can];exact h)
 quiet:=λ⟨k,as,r⟩ h=>Jg 6 8 _ _ as _ _ _ _ k.dep (by decide) k.can r h
end
section
variable {X:Cx}{aa:List (Addr×Obj)}{σ:St}{H:Hp}{s:Shared}{a:Addr}{e:Expr}{te:AE}{τ:ASt}{μ:M}
theorem VE.run{R1:AV->M->Prop}(he:VE X e te)(I:Inv X aa σ H s)(hs:C4 X.K H τ σ)(hc:Cn X.K μ H)(h:te τ μ R1) :
  wpAny (model X.prog X.w) X.A (eval e X.env) (λu s1=>∃x v μ1 H1,Inv X aa σ H1 s1/\Bj v u/\Kp H H1/\Cn X.K μ1 H1/\RelA X.K H1 x v/\R1 x μ1) X.xe s :=
 Ybk (he aa s σ H (λv H1=>∃x μ1,Kp H H1/\Cn X.K μ1 H1/\RelA X.K H1 x v/\R1 x μ1) I ⟨τ,μ,R1,hs,hc,h,λx μ1 v H1 S c r q=>⟨x,μ1,S,c,r,q⟩⟩)
  (λ_ _ z=>by obtain⟨v,H1,I1,rv,x,μ1,S,c,r,q⟩:=z;exact⟨x,v,μ1,H1,I1,rv,S,c,r,q⟩) λ_ _ e=>e
variable {o i value:Expr}{pos c9:Pos}{td ty tv:AE}
end
section
variable {prog:Program}{w:World}{A:Around}{E:Value->Shared->Prop}{s:Shared}
end
section
variable {X:Cx}{aa:List (Addr×Obj)}{σ:St}{s:Shared}
def Qla(ta tb:AE):AE:=fun τ μ R=>ta τ μ λx μ1=>tb τ μ1 λy μ2=>match x,y with
 | .R a,.R b=>opt (μ2 a) λm=>opt (μ2 b) λn=>match m,n with
  | .lst us,.lst vs=>opt (dats us) λds=>opt (dats vs) λes=>(ds.length=es.length/\ds.length<=1000)/\R (.D (.tuple (List.zipWith (λd e=>PyData.tuple [d,e]) ds es))) μ2
  | _,_=>False
 | _,_=>False
def Qlx:AC:=λxs μ R=>match xs with
 | [.D (.bool b)]=>R (.D (.int (if b then 1 else 0))) μ
 | [.D (.int i)]=>R (.D (.int i)) μ
 | _=>False
def txts:List AV->Option (List Str)
 | []=>some []
 | .D (.str z) :: xs=>(txts xs).map (z :: ·)
 | _ :: _=>none
theorem N0{K:PySem.W.Frag}{H:Hp}:∀{xs:List AV} {vs:List V} {zs:List Str},Au K H xs vs->txts xs=some zs->vs=zs.map V.str
 | [],_,zs,r,e=>by cases r;cases e;rfl
 | x :: xs,_,zs,r,e=>by
  cases r with
  | cons r1 r2 =>
   unfold txts at e
   split at e
   ·rename_i h;cases h
   ·rename_i z bw h
    cases h
    obtain⟨ys,ey,rfl⟩:=Ybl.mp e
    cases RelA.str r1
    rw [N0 r2 ey];rfl
   ·cases e
def Qbh:AV->AC:=λx xs μ R=>match x,xs with
 | .D (.str z),[.R p]=>opt (μ p) λm=>match m with
  | .lst ys=>opt (txts ys) λzs=>(zs.map (·.length)).sum+zs.length * z.length<=16777216/\R (.D (.str (Txt.join z zs))) μ
  | _=>False
 | _,_=>False
theorem Qdx:VMt X "str.join" Qbh:=by
 intro aa s σ H x xs v us Q I rx r zz203
 refine Dt zz203 λa as μ R ra rs hc h hq=>?_
 unfold Qbh at h
 split at h
 ·obtain⟨m,em,h⟩:=Ba h
  split at h
  ·obtain⟨zs,ez,h⟩:=Ba h
   obtain⟨o,ho,ws,rfl,rr⟩:=hc _ _ em
   cases RelA.str ra
   cases rs with
   | cons r1 r2 =>
    cases r2
    cases r1
    rw [N0 rr ez]at ho
    exact Sq aa s σ H _ _ v us Q I rx r ⟨_,_,zs,rfl,rfl,ho,h.1,hq _ _ _ _ Kp.refl hc Ih h.2⟩
  ·exact h.elim
 ·exact h.elim
def Qdy(ta:AE):AE:=fun τ μ R=>ta τ μ λx μ1=>match x with
 | .D (.int n)=>(0<=n/\n<=1000)/\∀p,μ1 p=none->R (.R p) (Bh μ1 p (.lst (Dl 0 n.toNat)))
 | _=>False
def Qdz(ta tb:AE):AE:=fun τ μ R=>ta τ μ λx μ1=>tb τ μ1 λy μ2=>match x,y with
 | .D (.int m),.D (.int n)=>(-1000<=m/\m<=n/\n<=1000)/\∀p,μ2 p=none->R (.R p) (Bh μ2 p (.lst (Dl m (n - m).toNat)))
 | _,_=>False
theorem Mj{K:PySem.W.Frag}{H:Hp}:∀(n:Nat) (lo:Int),Au K H (Dl lo n) ((List.range n).map λ(i:Nat)=>V.int (lo+i))
 | 0,lo=>.nil
 | n+1,lo=>by
  rw [List.range_succ_eq_map,Ycc,Ybo]
  refine .cons (by simpa using C0) ?_
  have:=Mj (K:=K) (H:=H) n (lo+1)
  have e:(λ(i:Nat)=>V.int (lo+1+i))=(λ(i:Nat)=>V.int (lo+i)) ∘ Nat.succ:=by
   funext i
   simp only [Function.comp]
   congr 1
   omega
  rw [e]at this
  exact this
theorem Wu{aj:Array Value}{n:Nat}{lo:Int}(h:ItemsOf (λi v=>∃t,v=.int (lo+i * 1) t) aj n):Vals ((List.range n).map λ(i:Nat)=>V.int (lo+i)) aj.toList:=by
 obtain⟨h1,h2⟩:=h
 have go:∀(m:Nat) (us:List Value),us.length=m->(∀j v,us[j]?=some v->∃t,v=Value.int (lo+(j:Nat) * 1) t)->Vals ((List.range m).map λ(i:Nat)=>V.int (lo+i)) us:=by
  intro m
  induction m with
  | zero=>intro us hl _;rw [Yci hl];exact .nil
  | succ m ih =>
   intro us hl hu
   have ar:us≠[]:=by intro z;rw [z]at hl;cases hl
   rw [<- List.dropLast_concat_getLast ar,List.range_succ,Ybe]
   have hd:us.dropLast.length=m:=by rw [List.length_dropLast];omega
   refine Paired.snoc (ih us.dropLast hd λj v e=>?_) ?_
   ·have hj:j < us.dropLast.length:=(List.getElem?_eq_some_iff.mp e).1
    rw [List.getElem?_dropLast,Yak (by omega)]at e
    exact hu j v e
   ·obtain⟨t,e⟩:=hu m (us.getLast ar) (by rw [List.getLast_eq_getElem];simp [hl])
    rw [e]
    exact⟨t,by rw [Int.mul_one]⟩
 exact go n aj.toList (by simpa using h1) λj v e=>h2 j v (by rw [<- Array.getElem?_toList];exact e)
theorem N1{H1:Hp}{lo hi:Int}{tk:Nat}{t u v:Tok}{Q:VK}{s1:Shared}(jy:X.calm=true)(I1:Inv X aa σ H1 s1)(yh:-1000<=lo)(de:lo<=hi)(hhi:hi<=1000)
  (q:∀l,H1 l=none->Q (.ref l) (upd H1 l (.lst ((List.range (hi - lo).toNat).map λ(i:Nat)=>V.int (lo+i))))) :
  wpAny (model X.prog X.w) X.A (call (.type "list") [.ref s1.heap.objs.size]) (EP X aa σ Q) X.xe { s1 with heap:=s1.heap.push { cls:=.type "range",data:=.fields #[.int lo t,.int hi u,.int 1 v] },toks:=tk }:=by
 have s0:Builtin.Range.rangeSize lo hi 1=((hi - lo).toNat:Nat):=by rw [rangeSize_one];split <;> omega
 have hn:(hi - lo).toNat<=2000:=by omega
 refine call_list_range (s:={ s1 with heap:=s1.heap.push { cls:=.type "range",data:=.fields #[.int lo t,.int hi u,.int 1 v] },toks:=tk }) (I1.ok.hd jy) (IsRange.new ..) (small_one (by omega) (by omega) (by omega) (by omega)) s0 (Yas hn (by decide)) λh2 t2 aj c k2 e2 ia=>?_
 have hp:s1.heap.objs.size<=(s1.heap.push { cls:=.type "range",data:=.fields #[.int lo t,.int hi u,.int 1 v] }).objs.size:=by rw [Yb4];exact Ydn _
 have hz:((List.range (hi - lo).toNat).map λ(i:Nat)=>V.int (lo+i)).length<=sizeLine:=by rw [Yac,Ycu];exact Yas hn (show 2000<=sizeLine by decide)
 refine⟨.ref _,_,I1.laid (t':=t2) (o:=.lst _) (λb o e=>k2 b o (Heap.get?_push_of_some _ e)) hp ⟨hz,aj.toList,c,Wu ia,by simpa using e2⟩,rfl,q _ (I1.hok.fresh hp)⟩
theorem Wv{e1:Expr}{ta:AE}{p p2 pos bx:Pos}(hc:X.calm=true)(hg:Gl X "list") (hm:X.mg "list" = none) (gu:Gl X "range") (fy:X.mg "range" = none) (h1:VE X e1 ta)
  (hs:starEach [.Call (.Name "range" p2) [e1] [] bx] X.env=[(false,eval (.Call (.Name "range" p2) [e1] [] bx) X.env)]:=by rfl) (cv:starEach [e1] X.env=[(false,eval e1 X.env)]:=by rfl) :
  VE X (.Call (.Name "list" p) [.Call (.Name "range" p2) [e1] [] bx] [] pos) (Qdy ta):=by
 intro aa s σ H Q I zz205
 refine B0 zz205 fun τ μ R ay hcn h hq=>?_
 refine Yav (Bw I hg hm boot_list (Yay ?_ hs rfl))
 rw [hs]
 refine Yar (Yav (Bw I gu fy boot_range (Yay ?_ cv rfl)))
 rw [cv]
 refine Yar (Ybk (h1.run I ay hcn h) (λu1 s1 ⟨x,v,μ1,H1,I1,rv,S1,c1,rx,q1⟩=>Ya5 ?_) λ_ _ e=>e)
 split at q1
 ·rename_i n _
  obtain⟨⟨n0,n1⟩,q1⟩:=q1
  cases RelA.int rx
  obtain⟨t,rfl⟩:=rv
  refine call_range_1 (Ya5 (N1 hc I1 (by omega) n0 n1 λl hl=>?_))
  refine hq _ _ _ _ (S1.trans (Kp.new hl _)) (c1.new hl (C8 (Mj _ 0))) Eb ?_
  rw [Int.sub_zero]
  exact q1 l (c1.none hl)
 ·exact q1.elim
theorem Ww{e1 e2:Expr}{ta tb:AE}{p p2 pos bx:Pos}(hc:X.calm=true)(hg:Gl X "list") (hm:X.mg "list" = none) (gu:Gl X "range") (fy:X.mg "range" = none) (h1:VE X e1 ta) (h2:VE X e2 tb)
  (hs:starEach [.Call (.Name "range" p2) [e1,e2] [] bx] X.env=[(false,eval (.Call (.Name "range" p2) [e1,e2] [] bx) X.env)]:=by rfl) (cv:starEach [e1,e2] X.env=(false,eval e1 X.env) :: starEach [e2] X.env:=by rfl) (lp:starEach [e2] X.env=[(false,eval e2 X.env)]:=by rfl) (hpl:(backTo bx (starEach [e2] X.env)).any (·.1)=false:=by rfl) :
  VE X (.Call (.Name "list" p) [.Call (.Name "range" p2) [e1,e2] [] bx] [] pos) (Qdz ta tb):=by
 intro aa s σ H Q I j7
 refine B0 j7 fun τ μ R ay hcn h hq=>?_
 refine Yav (Bw I hg hm boot_list (Yay ?_ hs rfl))
 rw [hs]
 refine Yar (Yav (Bw I gu fy boot_range (Yay ?_ cv hpl)))
 rw [cv]
 refine Yar (Ybk (h1.run I ay hcn h) (λu1 s1 zu=>?_) λ_ _ e=>e)
 obtain⟨x,v,μ1,H1,I1,rv,S1,c1,rx,q1⟩:=zu
 rw [lp]
 refine Yar (Ybk (h2.run I1 (ay.kp S1) c1 q1) (λu2 s2 zu=>Ya5 ?_) λ_ _ e=>e)
 obtain⟨y,v2,μ2,H2,I2,rv2,S2,c2,ry,q2⟩:=zu
 split at q2
 ·rename_i m n
  obtain⟨⟨n0,n1,n2⟩,q2⟩:=q2
  cases RelA.int rx
  cases RelA.int ry
  obtain⟨t,rfl⟩:=rv
  obtain⟨t2,rfl⟩:=rv2
  refine call_range_2 (Ya5 (N1 hc I2 n0 n1 n2 λl hl=>?_))
  exact hq _ _ _ _ ((S1.trans S2).trans (Kp.new hl _)) (c2.new hl (C8 (Mj _ m))) Eb (q2 l (c2.none hl))
 ·exact q2.elim
end
section
variable {prog:Program}{w:World}{A:Around}{E:Value->Shared->Prop}{s:Shared}
end
section
variable {X:Cx}{e st:Expr}{te ts:AE}{p2 pos:Pos}
theorem Py{α β:Type}{F:α->β->Prop}{xs:List α}{ys:List β}(h:Paired F xs ys):Paired F xs.reverse ys.reverse:=by
 induction h with
 | nil=>exact .nil
 | cons r t ih=>rw [Ye1,Ye1];exact Paired.snoc ih r
theorem Qd0{K:PySem.W.Frag}{H:Hp}{ds:List PyData}{xs:List V}(h:Ak K H ds xs):Ak K H ds.reverse xs.reverse:=by
 have:=(Ak.rel h).rev
 rw [<- List.map_reverse]at this
 exact this.dk
end
section
variable {X:Cx}{tg:Expr}
end
def lets(z:Str):Prop:=∀c∈z.cps.toList,97<=c/\c<=122
theorem Rn(a b:Str):(a++b).cps.toList=a.cps.toList++b.cps.toList:=by
 show(a.cps++b.cps).toList=_
 simp
theorem Mk(z:Str):z.length=z.cps.toList.length:=by simp [Str.length]
theorem Ji{a b:Str}(ha:lets a)(hb:lets b):lets (a++b):=λc hc=>by
 rw [Rn]at hc
 rcases Yap.mp hc with h | h
 ·exact ha c h
 ·exact hb c h
theorem Qd1:("" : Str).cps.toList=[]:=by decide +kernel
theorem Tt:∀{zs:List Str},(∀z∈zs,lets z)->lets (Txt.join "" zs):=λ{zs} h=>by
 show lets (PySem.Builtin.Str.glued "" zs)
 rw [StrLaws.glued_eq_join]
 induction zs with
 | nil=>exact λc hc=>by simp [Str.join,Str.empty]at hc
 | cons x zs ih =>
  cases zs with
  | nil=>exact h x Yaz
  | cons y zs =>
   show lets (x ++ "" ++ Str.join "" (y :: zs))
   exact Ji (Ji (h x Yaz) (λc hc=>by rw [Qd1]at hc;simp at hc)) (ih λz hz=>h z (Yax _ hz))
section
variable {pb lg:Str}{at' turn:Int}
end
end L2
namespace L2
open PySem PySem.SetTable
theorem D6{α:Type} [DecidableEq α]:∀{xs ys:List α},xs.Nodup->(∀x∈xs,x∈ys)->xs.length<=ys.length
 | [],_,_,_=>Ya6 _
 | x :: xs,ys,hn,h=>by
  have kh:=Ydf.mp hn
  have hx:=h x (.head _)
  have:=D6 (ys:=ys.erase x) kh.2 λz hz=>(List.mem_erase_of_ne (by rintro rfl;exact kh.1 hz)).mpr (h z (.tail _ hz))
  rw [List.length_erase_of_mem hx]at this
  have:0 < ys.length:=List.length_pos_of_mem hx
  rw [Ybp];omega
def advM(mask:Nat)(p:Probe):Probe :=
 if p.more > 0 then { p with j:=p.j+1,more:=p.more - 1 } else
 { p with j:=(leap mask p.i p.perturb).1,more:=runEnd mask (leap mask p.i p.perturb).1 - (leap mask p.i p.perturb).1,i:=(leap mask p.i p.perturb).1,perturb:=(leap mask p.i p.perturb).2 }
theorem Zy(t:SetTable)(p:Probe):t.advance p=advM t.mask p:=rfl
def Tu(mask i perturb l:Nat):Probe:={ j:=i+l,more:=runEnd mask i - i - l,i:=i,perturb:=perturb,dummy:=none }
def K8(mask:Nat)(h:Int):Nat->Probe
 | 0=>Tu mask (bits h % (mask+1)) (bits h) 0
 | n+1=>advM mask (K8 mask h n)
def sq(mask:Nat)(h:Int)(n:Nat):Nat:=(K8 mask h n).j
def rn(mask:Nat)(h:Int):Nat->Nat×Nat
 | 0=>(bits h % (mask+1),bits h)
 | r+1=>leap mask (rn mask h r).1 (rn mask h r).2
def nr(mask:Nat)(h:Int):Nat->Nat
 | 0=>0
 | r+1=>nr mask h r+(runEnd mask (rn mask h r).1 - (rn mask h r).1)+1
theorem Qd2(mask i:Nat):runEnd mask i - i<=9:=by unfold runEnd;split <;> omega
theorem Wx(mask i:Nat):i<=runEnd mask i:=by unfold runEnd;split <;> omega
theorem N3{mask i:Nat}(h:i<=mask):runEnd mask i<=mask:=by unfold runEnd;split <;> omega
theorem Qbi(mask:Nat)(h:Int):∀r,nr mask h r<=10 * r
 | 0=>Yaf _
 | r+1=>by
  have:=Qbi mask h r
  have:=Qd2 mask (rn mask h r).1
  rw [nr];omega
theorem Wy(mask:Nat)(h:Int):∀r,(rn mask h r).1<=mask
 | 0=>by have:=Nat.mod_lt (bits h) (show 0 < mask+1 by omega);rw [rn];dsimp only;omega
 | r+1=>by
  rw [rn,leap]
  have:=Nat.mod_lt ((rn mask h r).1 * 5+1+(rn mask h r).2 / 32) (show 0 < mask+1 by omega)
  dsimp only;omega
theorem Pz{mask:Nat}{h:Int}{n i pt:Nat}(e:K8 mask h n=Tu mask i pt 0):∀l,l<=runEnd mask i - i->K8 mask h (n+l)=Tu mask i pt l
 | 0,_=>e
 | l+1,hl=>by
  rw [<- Nat.add_assoc,K8,Pz e l (by omega)]
  unfold advM
  rw [Yak (show(Tu mask i pt l).more > 0 by show _ - l > 0;omega)]
  show Probe.mk _ _ _ _ _=Probe.mk _ _ _ _ _
  congr 1
theorem Ro(mask:Nat)(h:Int):∀r,K8 mask h (nr mask h r)=Tu mask (rn mask h r).1 (rn mask h r).2 0
 | 0=>rfl
 | r+1=>by
  rw [nr,K8,Pz (Ro mask h r) _ (Yaf _)]
  unfold advM
  rw [Yah (show ¬(Tu mask (rn mask h r).1 (rn mask h r).2 (runEnd mask (rn mask h r).1 - (rn mask h r).1)).more > 0 by show ¬(_ - _ - _ > 0);omega)]
  rfl
theorem Gw{mask:Nat}{h:Int}{r l:Nat}(hl:l<=runEnd mask (rn mask h r).1 - (rn mask h r).1):sq mask h (nr mask h r+l)=(rn mask h r).1+l:=by
 unfold sq
 rw [Pz (Ro mask h r) l hl];rfl
theorem Gx(mask:Nat)(h:Int):∀n,(K8 mask h n).dummy=none
 | 0=>rfl
 | n+1=>by
  rw [K8,advM]
  split
  ·exact Gx mask h n
  ·exact Gx mask h n
theorem Qbj(mask:Nat)(h:Int):∀r,(rn mask h r).2=bits h / 32 ^ r
 | 0=>by rw [rn,Nat.pow_zero,Nat.div_one]
 | r+1=>by
  rw [rn,leap]
  dsimp only
  rw [Qbj mask h r,Nat.div_div_eq_div_mul,Nat.pow_succ]
theorem Zz(h:Int):bits h < 2 ^ 64:=by
 unfold bits
 have h1:=Int.emod_lt_of_pos h (show(0:Int) < 2 ^ 64 by decide)
 have h2:=Int.emod_nonneg h (show(2 ^ 64:Int)≠0 by decide)
 omega
theorem Z0(mask:Nat)(h:Int)(r:Nat):(rn mask h (13+r+1)).1=((rn mask h (13+r)).1 * 5+1) % (mask+1):=by
 rw [rn,leap]
 dsimp only
 have e:(rn mask h (13+r)).2=0:=by
  rw [Qbj]
  refine Nat.div_eq_of_lt (Yam (Zz h) ?_)
  exact Yas (show 2 ^ 64<=32 ^ 13 by decide) (Nat.pow_le_pow_right (by decide) (by omega))
 rw [e]
def cyc(mask:Nat)(i:Nat):Nat->Nat
 | 0=>i
 | b+1=>(cyc mask i b * 5+1) % (mask+1)
theorem Wz(mask:Nat)(h:Int):∀b,(rn mask h (13+b)).1=cyc mask (rn mask h 13).1 b
 | 0=>rfl
 | b+1=>by rw [<- Nat.add_assoc,Z0,Wz mask h b];rfl
theorem Gb(mask i:Nat)(a:Nat):∀b,cyc mask (cyc mask i a) b=cyc mask i (a+b)
 | 0=>rfl
 | b+1=>by rw [cyc,Gb mask i a b];rfl
def Msk(mask:Nat):Prop:=mask=7\/mask=31\/mask=127\/mask=511
def orbit(mask:Nat):Nat->Nat->List Nat
 | 0,_=>[]
 | n+1,i=>i :: orbit mask n ((i * 5+1) % (mask+1))
theorem K9(mask:Nat):∀(n i x:Nat),x∈orbit mask n i->∃b,b < n/\cyc mask i b=x
 | 0,_,_,h=>by cases h
 | n+1,i,x,h=>by
  rcases Yat.mp h with rfl | h
  ·exact⟨0,by omega,rfl⟩
  ·obtain⟨b,hb,e⟩:=K9 mask n _ x h
   refine⟨b+1,by omega,?_⟩
   rw [show b+1=1+b by omega,<- Gb]
   exact e
theorem Qki:((List.range 8).all λx=>(orbit 7 8 0).contains x)=true/\cyc 7 0 8=0:=by decide +kernel
theorem Qg5:((List.range 32).all λx=>(orbit 31 32 0).contains x)=true/\cyc 31 0 32=0:=by decide +kernel
theorem Qd3:((List.range 128).all λx=>(orbit 127 128 0).contains x)=true/\cyc 127 0 128=0:=by decide +kernel
theorem Qd4:((List.range 512).all λx=>(orbit 511 512 0).contains x)=true/\cyc 511 0 512=0:=by decide +kernel
theorem orb{mask:Nat}(hm:Msk mask):((List.range (mask+1)).all λx=>(orbit mask (mask+1) 0).contains x)=true/\cyc mask 0 (mask+1)=0:=by
 rcases hm with rfl | rfl | rfl | rfl
 ·exact Qki
 ·exact Qg5
 ·exact Qd3
 ·exact Qd4
theorem Z1{mask:Nat}(hm:Msk mask){i x:Nat}(hi:i<=mask)(hx:x<=mask):∃b,b<=mask+1/\cyc mask i b=x:=by
 obtain⟨h1,h2⟩:=orb hm
 have key:∀y,y<=mask->∃b,b < mask+1/\cyc mask 0 b=y:=λy hy=>K9 mask _ 0 y (by
  have:=Yb2.mp h1 y (Ybi.mpr (by omega))
  exact List.contains_iff_mem.mp this)
 obtain⟨a,ha,ea⟩:=key i hi
 obtain⟨c,hc,ec⟩:=key x hx
 rcases Yb9 c a with h | h
 ·refine⟨mask+1 - a+c,by omega,?_⟩
  rw [<- ea,Gb,show a+(mask+1 - a+c)=(mask+1)+c by omega,<- Gb,h2,ec]
 ·refine⟨c - a,by omega,?_⟩
  rw [<- ea,Gb,show a+(c - a)=c by omega,ec]
theorem reach{mask:Nat}(hm:Msk mask)(h:Int){x:Nat}(hx:x<=mask):∃r,r<=mask+14/\(rn mask h r).1=x:=by
 obtain⟨b,hb,e⟩:=Z1 hm (Wy mask h 13) hx
 exact⟨13+b,by omega,by rw [Wz,e]⟩
theorem Qbk(mask:Nat)(h:Int):∀n,∃r l,l<=runEnd mask (rn mask h r).1 - (rn mask h r).1/\n=nr mask h r+l
 | 0=>⟨0,0,Ya6 _,rfl⟩
 | n+1=>by
  obtain⟨r,l,hl,rfl⟩:=Qbk mask h n
  rcases Yb9 l (runEnd mask (rn mask h r).1 - (rn mask h r).1) with c | c
  ·exact⟨r,l+1,c,rfl⟩
  ·exact⟨r+1,0,Ya6 _,by rw [nr];omega⟩
theorem Rp(mask:Nat)(h:Int)(n:Nat):sq mask h n<=mask:=by
 obtain⟨r,l,hl,rfl⟩:=Qbk mask h n
 rw [Gw hl]
 have:=N3 (Wy mask h r)
 have:=Wx mask (rn mask h r).1
 omega
theorem P0{mask:Nat}(hm:Msk mask)(h:Int)(ng:Nat->Prop) [DecidablePred ng]{x:Nat}(hx:x<=mask)(hn:¬ng x):∃n,n < 10 * turns mask/\¬ng (sq mask h n)/\∀m,m < n->ng (sq mask h m):=by
 obtain⟨r,hr,e⟩:=reach hm h hx
 have h0:¬ng (sq mask h (nr mask h r)):=by
  rw [show nr mask h r=nr mask h r+0 from rfl,Gw (Ya6 _),e];exact hn
 have h1:nr mask h r < 10 * turns mask:=by have:=Qbi mask h r;unfold turns;omega
 generalize nr mask h r=k at h0 h1
 induction k using Nat.strongRecOn with
 | _ k ih =>
  by_cases c:∀m,m < k->ng (sq mask h m)
  ·exact⟨k,h1,h0,c⟩
  ·have⟨m,hm1,fy⟩:∃m,m < k/\¬ng (sq mask h m):=by
    refine Ycw λz=>c λm jx=>Ycw λy=>z ⟨m,jx,y⟩
   exact ih m hm1 fy (by omega)
theorem Rq{mask:Nat}(h:Int)(owner:Array (Option Nat))(hs:owner.size=mask+1):∀(fuel r:Nat),(∃k,r<=k/\k < r+fuel/\owner.getD (rn mask h k).1 none=none)->(∀m,m < nr mask h r->(owner.getD (sq mask h m) none).isSome=true) ->
  ∃n,layClean.free mask owner fuel (rn mask h r).1 (rn mask h r).2=some (sq mask h n)/\owner.getD (sq mask h n) none=none/\∀m,m < n->(owner.getD (sq mask h m) none).isSome=true
 | 0,r,⟨k,h1,h2,_⟩,_=>by omega
 | fuel+1,r,hk,ho=>by
  have hd:∀j,j<=mask->owner.getD j (some 0)=owner.getD j none:=λj hj=>by
   simp only [Array.getD,show j < owner.size by omega,dite_true]
  have hrl:=Wy mask h r
  have hre:=N3 hrl
  have hrg:=Wx mask (rn mask h r).1
  rw [layClean.free]
  cases c:(List.range (runEnd mask (rn mask h r).1+1 - (rn mask h r).1)).find? λk=>(owner.getD ((rn mask h r).1+k) (some 0)).isNone with
  | some k =>
   obtain⟨c1,c2,c3⟩:=List.find?_range_eq_some.mp c
   have hk2:=Ybi.mp c2
   refine⟨nr mask h r+k,?_,?_,λm hm=>?_⟩
   ·rw [Gw (by omega)]
   ·rw [Gw (by omega),<- hd _ (by omega)]
    exact Option.isNone_iff_eq_none.mp c1
   ·rcases Yb9 m (nr mask h r) with z | z
    ·exact ho m z
    ·have e:m=nr mask h r+(m - nr mask h r):=by omega
     rw [e,Gw (by omega),<- hd _ (by omega)]
     have:=c3 (m - nr mask h r) (by omega)
     cases q:owner.getD ((rn mask h r).1+(m - nr mask h r)) (some 0) with
     | none=>rw [q]at this;cases this
     | some _=>rfl
  | none =>
   have c':=List.find?_range_eq_none.mp c
   have tq:∀l,l<=runEnd mask (rn mask h r).1 - (rn mask h r).1->(owner.getD ((rn mask h r).1+l) none).isSome=true:=λl hl=>by
    have:=c' l (by omega)
    rw [hd _ (by omega)]at this
    cases q:owner.getD ((rn mask h r).1+l) none with
    | none=>rw [q]at this;cases this
    | some _=>rfl
   refine Rq h owner hs fuel (r+1) ?_ λm hm=>?_
   ·obtain⟨k,h1,h2,h3⟩:=hk
    rcases Ya0 h1 with rfl | h1
    ·have:=tq 0 (Ya6 _)
     rw [Nat.add_zero,h3]at this;cases this
    ·exact⟨k,h1,by omega,h3⟩
   ·rcases Yb9 m (nr mask h r) with z | z
    ·exact ho m z
    ·have e:m=nr mask h r+(m - nr mask h r):=by omega
     rw [nr]at hm
     rw [e,Gw (by omega)]
     exact tq _ (by omega)
structure Own(mask:Nat)(hs:List Int)(owner:Array (Option Nat))(k:Nat):Prop where
 size:owner.size=mask+1
 lt:∀j x,owner.getD j none=some x->x < k
 has:∀x,x < k->∃j,owner.getD j none=some x
 inj:∀j j' x,owner.getD j none=some x->owner.getD j' none=some x->j=j'
 path:∀j x h,owner.getD j none=some x->hs[x]?=some h->∃n,sq mask h n=j/\∀m,m < n->(owner.getD (sq mask h m) none).isSome=true
theorem W0(o:Array (Option Nat))(j:Nat)(v:Option Nat)(hj:j < o.size)(i:Nat):(o.setIfInBounds j v).getD i none=if i=j then v else o.getD i none:=by
 rw [Yba,Yba,Array.getElem?_setIfInBounds]
 by_cases e:i=j
 ·subst e
  rw [Yak rfl,Yak hj,Yak rfl];rfl
 ·rw [Yah (λz=>e z.symm),Yah e]
theorem Rr{o:Array (Option Nat)}{j x:Nat}(h:o.getD j none=some x):j < o.size:=by
 rw [Yba]at h
 cases c:o[j]? with
 | none=>rw [c]at h;cases h
 | some y=>exact(Array.getElem?_eq_some_iff.mp c).1
theorem W1{mask k:Nat}{hs:List Int}{owner:Array (Option Nat)}(o:Own mask hs owner k)(hk:k<=mask):∃x,x<=mask/\owner.getD x none=none:=by
 refine Ycw λz=>?_
 have fe:∀j,j<=mask->∃x,owner.getD j none=some x:=λj hj=>by
  cases c:owner.getD j none with
  | none=>exact absurd ⟨j,hj,c⟩ z
  | some x=>exact⟨x,rfl⟩
 have h1:((List.range (mask+1)).map λj=>(owner.getD j none).getD 0).Nodup:=by
  rw [List.Nodup,Yct]
  refine List.Pairwise.imp_of_mem (R:=(· < ·)) (λ{a b} ha hb jn e=>?_) Yc6
  obtain⟨x,ex⟩:=fe a (by have:=Ybi.mp ha;omega)
  obtain⟨y,ey⟩:=fe b (by have:=Ybi.mp hb;omega)
  rw [ex,ey]at e
  have e':x=y:=e
  subst e'
  have:=o.inj a b x ex ey
  omega
 have h2:=D6 (ys:=List.range k) h1 λy hy=>by
  obtain⟨j,hj,rfl⟩:=Ya2.mp hy
  obtain⟨x,ex⟩:=fe j (by have:=Ybi.mp hj;omega)
  rw [ex]
  exact Ybi.mpr (o.lt j x ex)
 rw [Yac,Ycu,Ycu]at h2
 omega
theorem W5{mask k:Nat}{hs:List Int}{owner:Array (Option Nat)}{h:Int}(hm:Msk mask)(o:Own mask hs owner k)(hk:k<=mask)(hh:hs[k]?=some h):∃j,layClean.free mask owner (turns mask) (bits h % (mask+1)) (bits h)=some j/\Own mask hs (owner.setIfInBounds j (some k)) (k+1):=by
 obtain⟨x,hx,ex⟩:=W1 o hk
 obtain⟨r,hr,er⟩:=reach hm h hx
 obtain⟨n,e1,e2,e3⟩:=Rq h owner o.size (turns mask) 0 ⟨r,Ya6 _,by unfold turns;omega,by rw [er];exact ex⟩ (λm jx=>absurd jx (Ydi _))
 have hj:sq mask h n < owner.size:=by have:=Rp mask h n;rw [o.size];omega
 have hg:=W0 owner (sq mask h n) (some k) hj
 refine⟨_,e1,by rw [Yef];exact o.size,λj y e=>?_,λy hy=>?_,λj j' y a b=>?_,λj y g a b=>?_⟩
 ·rw [hg]at e
  split at e
  ·cases e;omega
  ·have:=o.lt j y e;omega
 ·rcases(show y < k\/y=k by omega) with h' | rfl
  ·obtain⟨j,ej⟩:=o.has y h'
   refine⟨j,?_⟩
   rw [hg,Yah (by rintro rfl;rw [e2]at ej;cases ej)];exact ej
  ·exact⟨_,by rw [hg,Yak rfl]⟩
 ·rw [hg]at a b
  split at a
  ·rename_i q1
   split at b
   ·rename_i q2;exact q1.trans q2.symm
   ·cases a;have:=o.lt _ _ b;omega
  ·split at b
   ·cases b;have:=o.lt _ _ a;omega
   ·exact o.inj j j' y a b
 ·have up:∀i,(owner.getD i none).isSome=true->((owner.setIfInBounds (sq mask h n) (some k)).getD i none).isSome=true:=λi hi=>by
   rw [hg]
   split
   ·rfl
   ·exact hi
  rw [hg]at a
  split at a
  ·rename_i q1
   cases a
   rw [hh]at b
   cases b
   exact⟨n,q1.symm,λm jx=>up _ (e3 m jx)⟩
  ·obtain⟨n',f1,f2⟩:=o.path j y g a b
   exact⟨n',f1,λm jx=>up _ (f2 m jx)⟩
def Z5(mask:Nat)(aj:Option (Array (Option Nat)×Nat))(h:Int):Option (Array (Option Nat)×Nat):=do
 let(owner,k) <- aj
 let j <- layClean.free mask owner (turns mask) (bits h % (mask+1)) (bits h)
 pure (owner.setIfInBounds j (some k),k+1)
theorem N4{mask:Nat}(hm:Msk mask){hs:List Int}(hl:hs.length<=mask+1):∀(rest dn:List Int) (owner:Array (Option Nat)),hs=dn++rest->Own mask hs owner dn.length->∃kn,rest.foldl (Z5 mask) (some (owner,dn.length))=some (kn,hs.length)/\Own mask hs kn hs.length
 | [],dn,owner,e,o=>by
  rw [Yc5]at e
  subst e
  exact⟨owner,rfl,o⟩
 | h :: rest,dn,owner,e,o=>by
  have hk:dn.length<=mask:=by rw [e,Yag,Ybp]at hl;omega
  obtain⟨j,e1,o1⟩:=W5 hm o hk (h:=h) (by rw [e];simp)
  have e2:Z5 mask (some (owner,dn.length)) h=some (owner.setIfInBounds j (some dn.length),(dn++[h]).length):=by
   unfold Z5
   simp only [Option.bind_eq_bind,Option.bind_some,e1,List.length_append]
   rfl
  rw [List.foldl_cons,e2]
  exact N4 hm hl rest (dn++[h]) _ (by rw [e];simp) (by rw [Yag];exact o1)
theorem Qd5{mask:Nat}(hm:Msk mask)(hs:Array Int)(hl:hs.size<=mask+1):∃owner,layClean mask hs=some owner/\Own mask hs.toList owner hs.size:=by
 have o0:Own mask hs.toList (Array.replicate (mask+1) none) 0:=by
  have hg:∀j,(Array.replicate (mask+1) (none:Option Nat)).getD j none=none:=λj=>by
   rw [Yba,Array.getElem?_replicate]
   split <;> rfl
  exact⟨by simp,λj x e=>(by rw [hg]at e;cases e),λx hx=>absurd hx (Ydi _),λj j' x e=>(by rw [hg]at e;cases e),λj x h e=>(by rw [hg]at e;cases e)⟩
 obtain⟨owner,e,o⟩:=N4 hm (hs:=hs.toList) (by simpa using hl) hs.toList [] _ rfl o0
 refine⟨owner,?_,by simpa using o⟩
 unfold layClean
 rw [<- Array.foldl_toList]
 have e':List.foldl (Z5 mask) (some (Array.replicate (mask+1) none,0)) hs.toList=some (owner,hs.toList.length):=e
 exact(Ydl (Option.map (·.1)) e').trans rfl
structure TabQ(t:SetTable)(hs:List Int):Prop where
 msk:Msk t.mask
 len:t.place.size=hs.length
 le:∀j∈t.place.toList,j<=t.mask
 path:∀z∈t.place.toList.zip hs,∃n,sq t.mask z.2 n=z.1/\∀m,m < n->sq t.mask z.2 m∈t.place.toList
theorem Z6{mask f mv:Nat}{led pl:Bool}(hm:Msk mask)(hs:Array Int)(hl:hs.size<=mask+1):∃t be,laid mask f mv led pl hs=some (t,be)/\t.mask=mask/\be.toList.Perm (List.range hs.size)/\TabQ t (be.toList.map λi=>hs.getD i 0):=by
 obtain⟨owner,e,o⟩:=Qd5 hm hs hl
 have io:∀j x,(j,x)∈((List.range (mask+1)).filterMap λj=>(owner.getD j none).map (j,·))↔owner.getD j none=some x:=λj x=>by
  rw [List.mem_filterMap]
  constructor
  ·rintro⟨a,ha,q⟩
   obtain⟨y,ey,q2⟩:=Ybl.mp q
   cases q2;exact ey
  ·intro q
   refine⟨j,Ybi.mpr ?_,by rw [q];rfl⟩
   have:=Rr q;rw [o.size]at this;exact this
 have lj:((List.range (mask+1)).filterMap λj=>(owner.getD j none).map (j,·)).Pairwise λp q=>p.2≠q.2:=by
  refine List.Pairwise.filterMap _ (R:=(· < ·)) (λa a' haa b hb b' i4=>?_) Yc6
  obtain⟨z,hz,rfl⟩:=Ybl.mp hb
  obtain⟨z',gc,rfl⟩:=Ybl.mp i4
  intro q
  have q':z=z':=q
  subst q'
  have:=o.inj a a' z hz gc
  omega
 refine⟨_,_,by unfold laid;rw [e];rfl,rfl,?_,?_⟩
 ·show(List.map (λp:Nat×Nat=>p.2) _).Perm _
  refine(List.perm_ext_iff_of_nodup ?_ List.nodup_range).mpr λx=>?_
  ·rw [List.Nodup,Yct];exact lj
  ·rw [Ya2,Ybi]
   constructor
   ·rintro⟨⟨j,y⟩,hy,rfl⟩
    exact o.lt j y ((io j y).mp hy)
   ·intro hx
    obtain⟨j,ej⟩:=o.has x hx
    exact⟨(j,x),(io j x).mpr ej,rfl⟩
 ·refine⟨hm,?_,λj hj=>?_,λz hz=>?_⟩
  ·show(List.map _ _).toArray.size=(List.map _ (List.map _ _)).length
   simp
  ·have hj':j∈List.map (·.1) ((List.range (mask+1)).filterMap λj=>(owner.getD j none).map (j,·)):=hj
   obtain⟨⟨a,b⟩,q,rfl⟩:=Ya2.mp hj'
   have:=Rr ((io a b).mp q)
   rw [o.size]at this
   show a<=mask
   omega
  ·have gc:z∈List.zip (List.map (·.1) ((List.range (mask+1)).filterMap λj=>(owner.getD j none).map (j,·))) (List.map (λi=>hs.getD i 0) (List.map (·.2) ((List.range (mask+1)).filterMap λj=>(owner.getD j none).map (j,·)))):=hz
   rw [Ybo,List.zip_map',Ya2]at gc
   obtain⟨⟨a,b⟩,q,rfl⟩:=gc
   have qa:=(io a b).mp q
   have hb:=o.lt a b qa
   obtain⟨n,e1,e2⟩:=o.path a b (hs.getD b 0) qa (by rw [Array.getElem?_toList,Yba,Array.getElem?_eq_getElem hb];rfl)
   refine⟨n,e1,λm jx=>?_⟩
   obtain⟨y,ey⟩:=Yed.mp (e2 m jx)
   exact Ya2.mpr ⟨(_,y),(io _ y).mpr ey,rfl⟩
theorem Cc{xs:Array Nat}(h:Dg xs){j k:Nat}(e:xs[k]?=some j):SetTable.below xs j=k:=by
 obtain⟨hk,ej⟩:=Array.getElem?_eq_some_iff.mp e
 obtain⟨h1,h2,h3⟩:=D4 h j
 have gk:xs.getD k j=j:=by rw [Yba,e];rfl
 rcases Nat.lt_trichotomy (SetTable.below xs j) k with c | c | c
 ·have:=h.lt (d:=j) c hk
  have:=h3 _ (Yaf _) (by omega)
  omega
 ·exact c
 ·have:=h2 k c
  omega
theorem Ml{t:SetTable}{led:Bool}(h:TblOk t led){j:Nat}(hj:j∈t.place.toList):∃i,t.slot j=.live i/\t.place[i]?=some j:=by
 obtain⟨i,hi⟩:=List.getElem?_of_mem hj
 rw [Array.getElem?_toList]at hi
 refine⟨i,?_,hi⟩
 unfold SetTable.slot
 dsimp only
 rw [Cc h.rise hi,hi]
 simp
theorem N5{t:SetTable}{led:Bool}(h:TblOk t led){j:Nat}(hj:j∉t.place.toList):t.slot j=.empty:=by
 unfold SetTable.slot
 dsimp only
 rw [h.dum,Iy,Yah]
 ·rfl
 ·intro c
  have c':t.place[SetTable.below t.place j]?=some j:=by simpa using c
  rw [<- Array.getElem?_toList]at c'
  exact hj (Ybr c')
theorem Jj{α β:Type}(a:α)(b:β):∀(p:Nat) (xs:List α) (ys:List β),xs.length=ys.length->(xs.take p++a :: xs.drop p).zip (ys.take p++b :: ys.drop p)=(xs.zip ys).take p++(a,b) :: (xs.zip ys).drop p
 | 0,xs,ys,_=>by simp
 | p+1,[],[],_=>by simp
 | p+1,x :: xs,y :: ys,h=>by
  have:=Jj a b p xs ys (by simpa using h)
  simpa using this
 | _+1,[],_ :: _,h=>by simp at h
 | _+1,_ :: _,[],h=>by simp at h
theorem TabQ.put{t:SetTable}{led:Bool}{hs:List Int}{h:Int}{n:Nat}(q:TabQ t hs)(T:TblOk t led)(ho:∀m,m < n->sq t.mask h m∈t.place.toList):TabQ (t.put (sq t.mask h n)).1 (hs.take (SetTable.below t.place (sq t.mask h n))++h :: hs.drop (SetTable.below t.place (sq t.mask h n))):=by
 have hp:SetTable.below t.place (sq t.mask h n)<=t.place.size:=(D4 T.rise _).1
 have e:(t.put (sq t.mask h n)).1.place.toList=t.place.toList.take (SetTable.below t.place (sq t.mask h n))++sq t.mask h n :: t.place.toList.drop (SetTable.below t.place (sq t.mask h n)):=Ev _ _ _ hp
 have hm:(t.put (sq t.mask h n)).1.mask=t.mask:=rfl
 have ak:=q.len
 have up:∀j,j∈t.place.toList->j∈(t.put (sq t.mask h n)).1.place.toList:=λj hj=>by
  rw [e]
  rw [<- Ydb (SetTable.below t.place (sq t.mask h n)) t.place.toList]at hj
  rcases Yap.mp hj with hj | hj
  ·exact Ydd _ hj
  ·exact Ybj _ (Yax _ hj)
 have dn:∀j,j∈(t.put (sq t.mask h n)).1.place.toList->j=sq t.mask h n\/j∈t.place.toList:=λj hj=>by
  rw [e]at hj
  rcases Yap.mp hj with hj | hj
  ·exact .inr (Yc2 hj)
  ·rcases Yat.mp hj with hj | hj
   ·exact .inl hj
   ·exact .inr (Yde hj)
 refine⟨q.msk,?_,λj hj=>?_,λz hz=>?_⟩
 ·rw [<- Yal,e]
  simp only [List.length_append,List.length_cons,List.length_take,List.length_drop,Array.length_toList]
  omega
 ·rcases dn j hj with rfl | hj
  ·exact Rp _ _ _
  ·exact q.le j hj
 ·rw [e,Jj _ _ _ _ _ (by rw [Yal];exact ak)]at hz
  rw [hm]
  have fz:z∈t.place.toList.zip hs->∃n',sq t.mask z.2 n'=z.1/\∀m,m < n'->sq t.mask z.2 m∈(t.put (sq t.mask h n)).1.place.toList:=λhz=>by
   obtain⟨n',a,b⟩:=q.path z hz
   exact⟨n',a,λm jx=>up _ (b m jx)⟩
  rcases Yap.mp hz with hz | hz
  ·exact fz (Yc2 hz)
  ·rcases Yat.mp hz with rfl | hz
   ·exact⟨n,rfl,λm jx=>up _ (ho m jx)⟩
   ·exact fz (Yde hz)
theorem W6{t:SetTable}{led:Bool}{hs:List Int}(q:TabQ t hs)(T:TblOk t led)(hl:hs.length<=t.mask):∃x,x<=t.mask/\x∉t.place.toList:=by
 refine Ycw λz=>?_
 have:=D6 (ys:=t.place.toList) (List.nodup_range (n:=t.mask+1)) λx hx=>Ycw λy=>z ⟨x,by have:=Ybi.mp hx;omega,y⟩
 rw [Ycu,Yal,q.len]at this
 omega
theorem probe_ok{t:SetTable}{led:Bool}(T:TblOk t led){hashAt:Nat->Int}{h:Int}{e:Nat}(he:sq t.mask h e∉t.place.toList)(hb:∀m,m < e->sq t.mask h m∈t.place.toList):∀(f n:Nat),n<=e->e < n+f ->
  (SetTable.probe.go t hashAt h f (K8 t.mask h n)=some (.empty (sq t.mask h e) none)/\∀m i,n<=m->m < e->t.place[i]?=some (sq t.mask h m)->hashAt i≠h) \/
  ∃k i,n<=k/\k < e/\t.place[i]?=some (sq t.mask h k)/\hashAt i=h/\SetTable.probe.go t hashAt h f (K8 t.mask h n)=some (.candidate (sq t.mask h k) i (K8 t.mask h (k+1)))/\∀m i,n<=m->m < k->t.place[i]?=some (sq t.mask h m)->hashAt i≠h
 | 0,n,h1,h2=>by omega
 | f+1,n,h1,h2=>by
  rw [SetTable.probe.go]
  have za9:∀{i i' j:Nat},t.place[i]?=some j->t.place[i']?=some j->i=i':=λa b=>(Cc T.rise a).symm.trans (Cc T.rise b)
  rcases Ya0 h1 with rfl | h1
  ·rw [show t.slot (K8 t.mask h n).j=.empty from N5 T he]
   dsimp only
   rw [Gx]
   exact .inl ⟨rfl,λm i a b=>by omega⟩
  ·obtain⟨i,hi,hp⟩:=Ml T (hb n h1)
   rw [show t.slot (K8 t.mask h n).j=.live i from hi]
   dsimp only
   by_cases c:hashAt i=h
   ·rw [Yak (by simpa using c)]
    exact .inr ⟨n,i,Yaf _,h1,hp,c,rfl,λm i a b=>by omega⟩
   ·rw [Yah (by simpa using c),Zy]
    have hnx:∀i',t.place[i']?=some (sq t.mask h n)->hashAt i'≠h:=λi' en=>by rw [za9 en hp];exact c
    rcases probe_ok T he hb f (n+1) h1 (by omega) with⟨a,b⟩ | ⟨k,i',a1,a2,a3,a4,a5,a6⟩
    ·refine .inl ⟨a,λm i' m1 m2 m3=>?_⟩
     rcases Ya0 m1 with rfl | m1
     ·exact hnx i' m3
     ·exact b m i' m1 m2 m3
    ·refine .inr ⟨k,i',by omega,a2,a3,a4,a5,λm i'' m1 m2 m3=>?_⟩
     rcases Ya0 m1 with rfl | m1
     ·exact hnx i'' m3
     ·exact a6 m i'' m1 m2 m3
end L2
namespace L2
open PySem
section
variable {prog:Program}{w:World}
theorem W7:∀(n q:Nat) (d:PyData) (u:Value) (as:List Addr) (A:Around) (E:Value->Shared->Prop) (s:Shared) (Q:Bool->Shared->Prop),d.depth<=n->n < q->Cano d=true->Reads s.heap u d as->Q false s->wpAny (model prog w) A (ofAClassStatement q u) Q E s:=by
 intro n
 induction n with
 | zero =>
  intro q d u as A E s Q hd hq hc hr h
  cases hr with
  | int i t=>unfold ofAClassStatement;exact Yab h
  | str x t=>unfold ofAClassStatement;exact Yab h
  | tuple a1 a2 a3 a4=>simp [PyData.depth]at hd
  | none=>simp [Cano]at hc
  | bool b=>simp [Cano]at hc
  | list a1 a2 a3 a4=>simp [Cano]at hc
  | dict a1 a2 a3 a4 a5=>simp [Cano]at hc
 | succ n ih =>
  intro q d u as A E s Q hd hq hc hr h
  cases hr with
  | int i t=>unfold ofAClassStatement;exact Yab h
  | str x t=>unfold ofAClassStatement;exact Yab h
  | none=>simp [Cano]at hc
  | bool b=>simp [Cano]at hc
  | list a1 a2 a3 a4=>simp [Cano]at hc
  | dict a1 a2 a3 a4 a5=>simp [Cano]at hc
  | @tuple a o items m ds as ho bo hdt hi =>
   have hT:s.TypeIs (.ref a) "tuple" := ⟨o,ho,bo⟩
   have jv:PyData.depthAll ds<=n:=by simp only [PyData.depth]at hd;omega
   have cu:Aj ds=true:=hc
   obtain⟨q',rfl⟩:∃q',q=q'+1:=⟨q - 1,by omega⟩
   unfold ofAClassStatement
   refine Yaa (Ydw hT ?_)
   dsimp only
   rw [Yak (by decide:("tuple" == "tuple")=true)]
   refine Yaa (Yab ?_)
   simp only [Bool.not_true,Bool.false_eq_true,if_false]
   refine Yaa (Ycb ho hdt ?_)
   dsimp only
   refine Yaa (show wpAny _ _ (forIn items _ _) _ _ s from ?_)
   rw [<- Yes]
   refine Yc8 _ (λrest r s'=>r.1=none/\s'=s/\∃lf bs,ReadsAll s.heap rest lf bs/\Aj lf=true/\PyData.depthAll lf<=n) _ ?_ ?_ _ _ ⟨rfl,rfl,ds,as,hi,cu,jv⟩
   ·rintro v rest r s' ⟨hr,rfl,lf,bs,hl,bo,hdl⟩
    cases hl with
    | @cons _ _ d ds' as1 bs1 h1 hl' =>
     simp only [Aj,Bool.and_eq_true]at bo
     simp only [PyData.depthAll]at hdl
     refine Yaa (ih q' d v as1 A _ s' _ (by omega) (by omega) bo.1 h1 ?_)
     simp only [Bool.false_eq_true,if_false]
     exact Yab ⟨rfl,rfl,ds',bs1,hl',bo.2,by omega⟩
   ·rintro⟨r1,r2⟩ s' ⟨hr,rfl,_⟩
    simp only at hr
    subst hr
    exact Yab h
theorem Qd6:∀(n q:Nat) (d:PyData) (u:Value) (as:List Addr) (A:Around) (E:Value->Shared->Prop) (s:Shared) (Q:Bool->Shared->Prop),d.depth<=n->Cano d=true->Reads s.heap u d as->(∀b,Q b s)->wpAny (model prog w) A (hashByValue q u) Q E s:=by
 intro n
 induction n with
 | zero =>
  intro q d u as A E s Q hd hc hr h
  cases hr with
  | int i t=>unfold hashByValue;exact Yab (h _)
  | str x t=>unfold hashByValue;exact Yab (h _)
  | tuple a1 a2 a3 a4=>simp [PyData.depth]at hd
  | none=>simp [Cano]at hc
  | bool b=>simp [Cano]at hc
  | list a1 a2 a3 a4=>simp [Cano]at hc
  | dict a1 a2 a3 a4 a5=>simp [Cano]at hc
 | succ n ih =>
  intro q d u as A E s Q hd hc hr h
  cases hr with
  | int i t=>unfold hashByValue;exact Yab (h _)
  | str x t=>unfold hashByValue;exact Yab (h _)
  | none=>simp [Cano]at hc
  | bool b=>simp [Cano]at hc
  | list a1 a2 a3 a4=>simp [Cano]at hc
  | dict a1 a2 a3 a4 a5=>simp [Cano]at hc
  | @tuple a o items m ds as ho bo hdt hi =>
   have hT:s.TypeIs (.ref a) "tuple" := ⟨o,ho,bo⟩
   have jv:PyData.depthAll ds<=n:=by simp only [PyData.depth]at hd;omega
   have cu:Aj ds=true:=hc
   cases q with
   | zero=>unfold hashByValue;exact Yab (h _)
   | succ q' =>
    unfold hashByValue
    refine Yaa (Ych hT F.slot_tuple_hash.lookup (show wpAny _ _ (seqItems? (.ref a) >>= _) _ _ s from ?_))
    refine Yaa (Ycb ho hdt (Yaa (show wpAny _ _ (forIn items _ _) _ _ s from ?_)))
    rw [<- Yes]
    refine Yc8 _ (λrest r s'=>r.1=none/\s'=s/\∃lf bs,ReadsAll s.heap rest lf bs/\Aj lf=true/\PyData.depthAll lf<=n) _ ?_ ?_ _ _ ⟨rfl,rfl,ds,as,hi,cu,jv⟩
    ·rintro v rest r s' ⟨hr,rfl,lf,bs,hl,bo,hdl⟩
     cases hl with
     | @cons _ _ d ds' as1 bs1 h1 hl' =>
      simp only [Aj,Bool.and_eq_true]at bo
      simp only [PyData.depthAll]at hdl
      refine Yaa (ih q' d v as1 A _ s' _ (by omega) bo.1 h1 λb=>?_)
      cases b
      ·exact Yab (Yab (h _))
      ·exact Yab ⟨rfl,rfl,ds',bs1,hl',bo.2,by omega⟩
    ·rintro⟨r1,r2⟩ s' ⟨hr,rfl,_⟩
     simp only at hr
     subst hr
     exact Yab (h _)
def B9(h:Heap)(d:PyData)(b:Addr):Prop:=KeyTree d/\∃as,Reads h (.ref b) d as
variable {A:Around}{E:Value->Shared->Prop}{s:Shared}
theorem Z7{d:PyData}{b:Addr}(hx:B9 s.heap d b):∀{vs:List Value} {Q:Bool->Shared->Prop},(∀v∈vs,∃e c,v=.ref c/\B9 s.heap e c)->Q false s->wpAny (model prog w) A (searchCouldBeSeen (.ref b) vs) Q E s:=by
 intro vs Q hv h
 obtain⟨kx,as,rx⟩:=hx
 unfold searchCouldBeSeen
 refine Yaa (Yc8 _ (λrest r s'=>r.1=none/\s'=s/\∀v∈rest,∃e c,v=.ref c/\B9 s.heap e c) _ ?_ ?_ _ _ ⟨rfl,rfl,hv⟩)
 ·rintro v rest ⟨r1,r2⟩ s' ⟨hr,rfl,hv'⟩
  obtain⟨e,c,rfl,ke,bs,re⟩:=hv' v (.head _)
  have gf:∀v∈rest,∃e c,v=.ref c/\B9 s'.heap e c:=λv h=>hv' v (.tail _ h)
  dsimp only
  split
  ·exact Yab ⟨rfl,rfl,gf⟩
  ·refine Yaa (Jg 6 8 _ _ as _ _ _ _ kx.dep (by decide) kx.can rx ?_)
   simp only [Bool.not_true,Bool.false_eq_true,if_false]
   refine Yaa (Jg 6 8 _ _ bs _ _ _ _ ke.dep (by decide) ke.can re ?_)
   simp only [Bool.not_true,Bool.false_eq_true,if_false]
   refine Yaa (W7 6 8 _ _ as _ _ _ _ kx.dep (by decide) kx.can rx ?_)
   simp only [Bool.false_eq_true,if_false]
   refine Yaa (W7 6 8 _ _ bs _ _ _ _ ke.dep (by decide) ke.can re ?_)
   simp only [Bool.false_eq_true,if_false]
   exact Yab ⟨rfl,rfl,gf⟩
 ·rintro⟨r1,r2⟩ s' ⟨hr,rfl,_⟩
  simp only at hr
  subst hr
  exact Yab h
def J5(w:World)(x:PyData×Addr):Int×Value:=(A5 w x.1,.ref x.2)
def Eg(w:World)(h:Heap)(a:Addr)(xs:List (PyData×Addr))(led:Bool):Prop :=
 ∃o es ep t,h.get? a=some o/\o.ExactSet/\o.data=.set es ep t/\es.toList=xs.map (J5 w)/\(∀x∈xs,B9 h x.1 x.2)/\t.fits es.size=true/\TblOk t led/\TabQ t (xs.map λx=>A5 w x.1)/\xs.length * 5 < t.mask * 3
theorem Qa{t:SetTable}{f g:Nat->Int}{h:Int}{p:SetTable.Probe}(e:∀i,f i=g i):t.probe f h p=t.probe g h p:=by rw [funext e]
theorem Z8{t:SetTable}{hs:List Int}(q:TabQ t hs):t.gaveWay=false:=by
 unfold SetTable.gaveWay
 rcases q.msk with h | h | h | h <;> rw [h] <;> decide
theorem Tv{a:Addr}{o:Obj}{es:Array (Int×Value)}{ep:Nat}{t:SetTable}{xs:List (PyData×Addr)}{led:Bool}{d:PyData}{b:Addr}{Q:SetFound->Shared->Prop}{fr:Nat}(hu:A.units+6 < cLine)(ho:s.heap.get? a=some o)(hd:o.data=.set es ep t)(hl:es.toList=xs.map (J5 w))(hX:∀x∈xs,B9 s.heap x.1 x.2)(hf:t.fits es.size=true)(hT:TblOk t led)(hQ:TabQ t (xs.map λx=>A5 w x.1))(hx:B9 s.heap d b)
  (he:sq t.mask (A5 w d) fr∉t.place.toList) (hb:∀m,m < fr->sq t.mask (A5 w d) m∈t.place.toList) (ll:fr < 10 * SetTable.turns t.mask)
  (h1:d∈xs.map (·.1)->Q (.there none) s) (h2:d∉xs.map (·.1)->Q (.free (sq t.mask (A5 w d) fr) false) s) :
  ∀(k n fuel:Nat) (ij:Option SetTable.Probe),n+k=fr->k < fuel->(ij=some (K8 t.mask (A5 w d) n)\/ij=none/\n=0)->(∀(m i:Nat) (x:PyData×Addr),m < n->t.place[i]?=some (sq t.mask (A5 w d) m)->xs[i]?=some x->x.1≠d) ->
   wpAny (model prog w) A (setSearchFrom a (.ref b) (A5 w d) true fuel ij) Q E s:=by
 intro k
 induction k using Nat.strongRecOn with
 | _ k ih =>
 intro n fuel ij hn hfu ay ko
 obtain⟨fuel,rfl⟩:∃f,fuel=f+1:=⟨fuel - 1,by omega⟩
 have ju:∀{i:Nat} {x:PyData×Addr},xs[i]?=some x->es[i]?=some (J5 w x):=λ{i x} h=>by
  rw [<- Array.getElem?_toList,hl,List.getElem?_map,h];rfl
 have hxi:∀{i j:Nat},t.place[i]?=some j->∃x,xs[i]?=some x:=λ{i j} h=>by
  have hi:=(Array.getElem?_eq_some_iff.mp h).1
  have:=hQ.len
  rw [Yac]at this
  exact⟨_,List.getElem?_eq_getElem (by omega)⟩
 unfold setSearchFrom
 refine Yaa (Ya9 ho hd hf ?_)
 dsimp only
 rw [Z8 hQ,Yah Yad]
 have zaw:ij.getD (t.probeStart (A5 w d))=K8 t.mask (A5 w d) n:=by
  rcases ay with rfl | ⟨rfl,rfl⟩
  ·rfl
  ·rfl
 rw [zaw,Qa (g:=λi=>((xs.map λx=>A5 w x.1)[i]?).getD 0) ?_]
 ·have key:=probe_ok (hashAt:=λi=>((xs.map λx=>A5 w x.1)[i]?).getD 0) hT he hb (10 * SetTable.turns t.mask) n (by omega) (by omega)
  rcases key with⟨a1,a2⟩ | ⟨k',i,b1,b2,b3,b4,b5,b6⟩
  ·rw [show t.probe (λi=>((xs.map λx=>A5 w x.1)[i]?).getD 0) (A5 w d) (K8 t.mask (A5 w d) n)=_ from a1]
   dsimp only
   refine Yab (h2 λgt=>?_)
   obtain⟨x,pp,rfl⟩:=Ya2.mp gt
   obtain⟨i,hi⟩:=List.getElem?_of_mem pp
   have hil:i < t.place.size:=by
    have:=hQ.len
    have:=(List.getElem?_eq_some_iff.mp hi).1
    rw [Yac]at *
    omega
   have pi:t.place[i]?=some t.place[i]:=Array.getElem?_eq_getElem hil
   obtain⟨n',e1,e2⟩:=hQ.path (t.place[i],A5 w x.1) (Ybr (i:=i) (by
    rw [List.getElem?_zip_eq_some]
    exact⟨by rw [Array.getElem?_toList];exact pi,by rw [List.getElem?_map,hi];rfl⟩))
   dsimp only at e1 e2
   have hlt:n' < fr:=by
    rcases Nat.lt_trichotomy n' fr with c | c | c
    ·exact c
    ·subst c
     rw [e1]at he
     exact absurd (by rw [<- Array.getElem?_toList]at pi;exact Ybr pi) he
    ·exact absurd (e2 fr c) he
   rw [<- e1]at pi
   rcases Yb9 n' n with c | c
   ·exact ko n' i x c pi hi rfl
   ·exact a2 n' i c hlt pi (by rw [List.getElem?_map,hi];rfl)
  ·rw [show t.probe (λi=>((xs.map λx=>A5 w x.1)[i]?).getD 0) (A5 w d) (K8 t.mask (A5 w d) n)=_ from b5]
   obtain⟨x,hi⟩:=hxi b3
   have pp:=Ybr hi
   dsimp only
   rw [ju hi]
   dsimp only [J5]
   split
   ·refine Yaa (Z7 hx (λv hv=>?_) ?_)
    ·obtain⟨e,og,rfl⟩:=Ya2.mp hv
     have hm:=(Array.mem_filter.mp (Yfe.mp og)).1
     rw [<- Yfe,hl]at hm
     obtain⟨y,hy,rfl⟩:=Ya2.mp hm
     exact⟨y.1,y.2,rfl,hX y hy⟩
    rw [Yah Yad]
    refine Yaa (Ya4 ((Jh prog w).eqBool hu (hX x pp) hx ?_))
    refine Yaa (Ya9 ho hd hf ?_)
    dsimp only
    by_cases ceq:x.1=d
    ·rw [Ybd ceq,Yak (by rfl)]
     exact Yab (h1 (Ya2.mpr ⟨x,pp,ceq⟩))
    ·rw [Yau ceq,Yah (by decide),show t.sameMemory t.moves t.mask=some true by unfold SetTable.sameMemory;rw [Yak (by simp)]]
     dsimp only
     obtain⟨i2,cv,fv⟩:=Ml hT (hb k' b2)
     have lm:i2=i:=(Cc hT.rise fv).symm.trans (Cc hT.rise b3)
     subst lm
     rw [Yak rfl,cv]
     dsimp only
     rw [ju hi]
     dsimp only [J5]
     refine Yaa (wpAny_isSame_ref_self (Yaa (Yab ?_)))
     show wpAny _ _ (if false=true then _ else setSearchFrom a (.ref b) (A5 w d) true fuel (some (K8 t.mask (A5 w d) (k'+1)))) _ _ _
     rw [Yah Yad]
     refine ih (fr - (k'+1)) (by omega) (k'+1) fuel _ (by omega) (by omega) (.inl rfl) λm i3 y hm h3 h4=>?_
     rcases Yb9 m n with c | c
     ·exact ko m i3 y c h3 h4
     ·rcases Yb9 m k' with c2 | c2
      ·intro e5
       refine b6 m i3 c c2 h3 ?_
       rw [List.getElem?_map,h4,<- e5];rfl
      ·have e6:m=k':=by omega
       subst e6
       have e7:i3=i2:=(Cc hT.rise h3).symm.trans (Cc hT.rise b3)
       subst e7
       rw [hi]at h4
       cases h4
       exact ceq
   ·refine Yaa (Ya4 ((Jh prog w).eqBool hu (hX x pp) hx ?_))
    refine Yaa (Ya9 ho hd hf ?_)
    dsimp only
    by_cases ceq:x.1=d
    ·rw [Ybd ceq,Yak (by rfl)]
     exact Yab (h1 (Ya2.mpr ⟨x,pp,ceq⟩))
    ·rw [Yau ceq,Yah (by decide),show t.sameMemory t.moves t.mask=some true by unfold SetTable.sameMemory;rw [Yak (by simp)]]
     dsimp only
     obtain⟨i2,cv,fv⟩:=Ml hT (hb k' b2)
     have lm:i2=i:=(Cc hT.rise fv).symm.trans (Cc hT.rise b3)
     subst lm
     rw [Yak rfl,cv]
     dsimp only
     rw [ju hi]
     dsimp only [J5]
     refine Yaa (wpAny_isSame_ref_self (Yaa (Yab ?_)))
     show wpAny _ _ (if false=true then _ else setSearchFrom a (.ref b) (A5 w d) true fuel (some (K8 t.mask (A5 w d) (k'+1)))) _ _ _
     rw [Yah Yad]
     refine ih (fr - (k'+1)) (by omega) (k'+1) fuel _ (by omega) (by omega) (.inl rfl) λm i3 y hm h3 h4=>?_
     rcases Yb9 m n with c | c
     ·exact ko m i3 y c h3 h4
     ·rcases Yb9 m k' with c2 | c2
      ·intro e5
       refine b6 m i3 c c2 h3 ?_
       rw [List.getElem?_map,h4,<- e5];rfl
      ·have e6:m=k':=by omega
       subst e6
       have e7:i3=i2:=(Cc hT.rise h3).symm.trans (Cc hT.rise b3)
       subst e7
       rw [hi]at h4
       cases h4
       exact ceq
 ·intro i
  show(es[i]?.map (·.1)).getD 0=_
  rw [<- Array.getElem?_toList,hl,List.getElem?_map,List.getElem?_map]
  cases xs[i]? <;> rfl
theorem B9.but{h h':Heap}{p:Addr}{d:PyData}{b:Addr}(x:B9 h d b)(hk:∀c o,c≠p->h.get? c=some o->h'.get? c=some o)(hp:∀o vs n,h.get? p=some o->o.data≠.seq vs n):B9 h' d b:=let⟨k,as,r⟩:=x;⟨k,as,Gv hk hp r k.can⟩
theorem Jk{a:Addr}{led:Bool}{h:Heap}{o:Obj}{es:Array (Int×Value)}{ep:Nat}{t:SetTable}(ho:h.get? a=some o)(fu:o.ExactSet)(hd:o.data=.set es ep t){dy:Array (Int×Value)}{t':SetTable}{bw:List (PyData×Addr)}(hl:dy.toList=bw.map (J5 w))(hX:∀x∈bw,B9 h x.1 x.2)(hf:t'.fits dy.size=true)(hT:TblOk t' led)(hQ:TabQ t' (bw.map λx=>A5 w x.1)) :
  (h.update a (Obj.putSet dy t')).get? a=some { o with data:=.set dy (ep+1) t' }/\(∀x∈bw,B9 (h.update a (Obj.putSet dy t')) x.1 x.2)/\(bw.length * 5 < t'.mask * 3->Eg w (h.update a (Obj.putSet dy t')) a bw led):=by
 have e:=Heap.get?_update_self (Obj.putSet dy t') ho (by rw [putSet_of dy t' hd];rfl)
 rw [putSet_of dy t' hd]at e
 have hX':∀x∈bw,B9 (h.update a (Obj.putSet dy t')) x.1 x.2:=λx hx=>(hX x hx).but (p:=a) (λc o hc e=>((Ybn h a (Obj.putSet dy t')).2 c hc).trans e) (λo' vs n e' q=>by rw [ho]at e';cases e';rw [hd]at q;cases q)
 exact⟨e,hX',λhB=>⟨_,dy,ep+1,t',e,fu,rfl,hl,hX',hf,hT,hQ,hB⟩⟩
theorem Jl{α:Type}:∀(ys pre:List α),(List.range' pre.length ys.length).filterMap (λi=>(pre++ys)[i]?)=ys
 | [],pre=>rfl
 | y :: ys,pre=>by
  have:=Jl ys (pre++[y])
  rw [Yag,Ycs]at this
  rw [Ybp,List.range'_succ,Ydk,List.getElem?_append_right (Yaf _),Ye7]
  show y :: _=_
  exact Ydl (y :: ·) this
theorem Qb{α:Type}{xs:List α}{l:List Nat}(hp:l.Perm (List.range xs.length)):(l.filterMap λi=>xs[i]?).Perm xs:=by
 have h1:=hp.filterMap λi=>xs[i]?
 have h2:=Jl xs []
 rw [List.nil_append,List.length_nil,<- List.range_eq_range']at h2
 rwa [h2]at h1
theorem La{xs:List (PyData×Addr)}{hs:Array Int}(hh:hs.toList=xs.map λx=>A5 w x.1):∀(l:List Nat),(∀i∈l,i < xs.length)->(l.map λi=>hs.getD i 0)=(l.filterMap λi=>xs[i]?).map λx=>A5 w x.1
 | [],_=>rfl
 | i :: l,hl=>by
  have hi:=hl i (.head _)
  have e:xs[i]?=some xs[i]:=List.getElem?_eq_getElem hi
  rw [Ycc,Ydk,e,Ycc,La hh l λj hj=>hl j (.tail _ hj)]
  rw [Yba,<- Array.getElem?_toList,hh,List.getElem?_map,e];rfl
theorem W8{a:Addr}{led:Bool}{o:Obj}{es:Array (Int×Value)}{ep:Nat}{t:SetTable}{xs:List (PyData×Addr)}{dv:Nat}{Q:Unit->Shared->Prop}(ho:s.heap.get? a=some o)(fu:o.ExactSet)(hd:o.data=.set es ep t)(hl:es.toList=xs.map (J5 w))(hX:∀x∈xs,B9 s.heap x.1 x.2)(hf:t.fits es.size=true)(hT:TblOk t led)
  (hm:Msk (SetTable.sizeAbove dv - 1)) (hz:SetTable.sizeAbove dv<=sizeLine) (hn:xs.length * 5 < (SetTable.sizeAbove dv - 1) * 3)
  (h:∀h' bw,Heap.SameBut a s.heap h'->Eg w h' a bw led->bw.Perm xs->Q () { s with heap:=h' }):wpAny (model prog w) A (setRelay a dv) Q E s:=by
 have j9:es.size=xs.length:=by rw [<- Yal,hl,Yac]
 have hhs:(es.map (·.1)).toList=xs.map λx=>A5 w x.1:=by rw [Array.toList_map,hl,Ybo];rfl
 obtain⟨t',be,e1,e2,e3,e4⟩:=Z6 (f:=t.finger) (mv:=t.movedTo (SetTable.sizeAbove dv - 1)) (led:=t.led) (pl:=t.plain) hm (es.map (·.1)) (by rw [Ydt,j9];omega)
 rw [Ydt,j9]at e3
 have hT':TblOk t' led:=by have:=TblOk.laid e1;rw [hT.led]at this;exact this
 have hlt:∀i∈be.toList,i < xs.length:=λi hi=>Ybi.mp (e3.mem_iff.mp hi)
 rw [La hhs be.toList hlt]at e4
 have v4:=Qb e3
 have lv:(be.filterMap λi=>es[i]?).toList=(be.toList.filterMap λi=>xs[i]?).map (J5 w):=by
  rw [Array.toList_filterMap,List.map_filterMap]
  congr 1
  funext i
  rw [<- Array.getElem?_toList,hl,List.getElem?_map]
 have ls:(be.filterMap λi=>es[i]?).size=es.size:=by rw [<- Yal,lv,Yac,v4.length_eq,j9]
 unfold setRelay
 refine Yaa (Ya9 ho hd hf (show wpAny _ _ _ _ _ _ from ?_))
 dsimp only
 rw [Yah (Nat.not_lt.mpr hz),show t.relaid (es.map (·.1)) dv=some (t',be) from e1]
 refine Yaa (show wpAny _ _ (if((be.filterMap λi=>es[i]?).size != es.size)=true then _ else pure (be.filterMap λi=>es[i]?,t')) _ _ _ from ?_)
 rw [Yah (by rw [ls];simp)]
 refine Yab (show wpAny _ _ (storeSet a (be.filterMap λi=>es[i]?) t') _ _ _ from ?_)
 generalize (be.filterMap λi=>es[i]?)=es2 at lv ls
 generalize (be.toList.filterMap λi=>xs[i]?)=xs2 at lv v4 e4
 have wz:=v4.length_eq
 have xh:t'.fits es2.size=true:=by
  have:=e4.len
  rw [Yac]at this
  simp only [SetTable.fits,SetTable.fill,hT'.dum,Bool.and_eq_true,beq_iff_eq,decide_eq_true_eq]
  rw [e2,ls]
  refine⟨by omega,?_⟩
  show t'.place.size+0<=_
  omega
 obtain⟨g1,g2,g3⟩:=Jk (led:=led) ho fu hd lv (λx hx=>hX x (v4.mem_iff.mp hx)) xh hT' e4
 exact Ye4 ho hd (h _ _ (Ybn _ _ _) (g3 (by rw [e2];omega)) v4) (by rw [ls,j9];have:sizeLine=16777216:=rfl;omega)
theorem TabQ.pln{t:SetTable}{hs:List Int}(q:TabQ t hs)(b:Bool):TabQ { t with plain:=b } hs:=⟨q.msk,q.len,q.le,q.path⟩
theorem W9{a:Addr}{led:Bool}{xs:List (PyData×Addr)}{d:PyData}{b:Addr}{Q:Bool->Shared->Prop}(hu:A.units+6 < cLine)(hx:B9 s.heap d b)(hS:Eg w s.heap a xs led)(hn:xs.length < 305)
  (h1:d∈xs.map (·.1)->Q false s) (h2:d∉xs.map (·.1)->∀h' bw,Heap.SameBut a s.heap h'->Eg w h' a bw led->bw.Perm ((d,b) :: xs)->Q true { s with heap:=h' }) :
  wpAny (model prog w) A (setAddHashed a (.ref b) (A5 w d)) Q E s:=by
 obtain⟨o,es,ep,t,ho,fu,hd,hl,hX,hf,hT,hQ,hB⟩:=hS
 have j9:es.size=xs.length:=by rw [<- Yal,hl,Yac]
 have hpl:t.place.size=xs.length:=by have:=hQ.len;rwa [Yac]at this
 obtain⟨x0,n9,jz⟩:=W6 hQ hT (by rw [Yac];omega)
 obtain⟨fr,f1,f2,f3⟩:=P0 hQ.msk (A5 w d) (λj=>j∈t.place.toList) n9 jz
 unfold setAddHashed setAddHashedIn
 refine Ya4 (Yaa (Ya9 ho hd hf (show wpAny _ _ _ _ _ _ from ?_)))
 dsimp only
 rw [show byScan (.ref b) es=false from rfl,Yah Yad]
 unfold setSearch
 refine Yaa (Tv hu ho hd hl hX hf hT hQ hx f2 f3 f1 (λgt=>?_) (λhni=>?_) fr 0 100000 none (by omega) ?_ (.inr ⟨rfl,rfl⟩) (λm i x hm=>absurd hm (Ydi _)))
 ·exact Yab (h1 gt)
 ·dsimp only
  refine Yaa (Ya9 ho hd hf ?_)
  dsimp only
  have hp:SetTable.below t.place (sq t.mask (A5 w d) fr)<=t.place.size:=(D4 hT.rise _).1
  have vx:=hQ.put (h:=A5 w d) (n:=fr) hT f3
  have w4:=hT.put (Iz hT (N5 hT f2))
  have e2:(t.put (sq t.mask (A5 w d) fr)).2=SetTable.below t.place (sq t.mask (A5 w d) fr):=rfl
  have e3:(t.put (sq t.mask (A5 w d) fr)).1.mask=t.mask:=rfl
  rw [e2]
  have bz:(t.put (sq t.mask (A5 w d) fr)).1.place.size=xs.length+1:=by
   have:=vx.len
   rw [this]
   simp only [List.length_append,List.length_cons,List.length_take,List.length_drop,List.length_map]
   omega
  generalize hpp:SetTable.below t.place (sq t.mask (A5 w d) fr)=p at hp vx ⊢
  generalize (t.put (sq t.mask (A5 w d) fr)).1=t1 at vx w4 e3 bz ⊢
  have ml:(SetTable.insertAt es p (A5 w d,.ref b)).toList=(xs.take p++(d,b) :: xs.drop p).map (J5 w):=by
   rw [Ev _ _ _ (by omega),hl,Ybe,Ycc,List.map_take,List.map_drop];rfl
  have nv:TabQ t1 ((xs.take p++(d,b) :: xs.drop p).map λx=>A5 w x.1):=by
   rw [Ybe,Ycc,List.map_take,List.map_drop];exact vx
  have iu:(xs.take p++(d,b) :: xs.drop p).Perm ((d,b) :: xs):=by
   refine List.perm_middle.trans ?_
   rw [Ydb]
  have ak:=iu.length_eq
  rw [Ybp]at ak
  have hX1:∀x∈xs.take p++(d,b) :: xs.drop p,B9 s.heap x.1 x.2:=λx hx'=>by
   rcases Yat.mp (iu.mem_iff.mp hx') with rfl | hx'
   ·exact hx
   ·exact hX x hx'
  have y7:(SetTable.insertAt es p (A5 w d,.ref b)).size=xs.length+1:=by rw [<- Yal,ml,Yac,ak]
  generalize SetTable.insertAt es p (A5 w d,.ref b)=dc at ml y7 ⊢
  generalize xs.take p++(d,b) :: xs.drop p=xs1 at ml nv iu ak hX1
  clear hpp hp vx e2
  have hsl:sizeLine=16777216:=rfl
  have fin:∀t2:SetTable,t2.mask=t.mask->t2.place.size=xs.length+1->TblOk t2 led->TabQ t2 (xs1.map λx=>A5 w x.1)->wpAny (model prog w) A (do
    storeSet a dc t2
    if(!false && t2.tooFull)=true then do
     setRelay a (SetTable.grown (es.size+1))
     pure true
    else pure true) Q E s:=λt2 g1 g2 g3 g4=>by
   have xh:t2.fits dc.size=true:=by
    simp only [SetTable.fits,SetTable.fill,g3.dum,Bool.and_eq_true,beq_iff_eq,decide_eq_true_eq]
    refine⟨by omega,?_⟩
    show t2.place.size+0<=_
    rcases hQ.msk with c | c | c | c <;> omega
   obtain⟨k1,k2,k3⟩:=Jk (led:=led) ho fu hd ml hX1 xh g3 g4
   have b1:=Ybn s.heap a (Obj.putSet dc t2)
   refine Yaa (Ye4 ho hd ?_ (by omega))
   have mm:t2.tooFull=decide ((xs.length+1) * 5>=t.mask * 3):=by
    unfold SetTable.tooFull SetTable.fill
    rw [g1,g2,g3.dum];rfl
   by_cases c:(xs.length+1) * 5>=t.mask * 3
   ·rw [Yak (by rw [mm,Ybd c];rfl)]
    have ut:(t.mask=7/\es.size+1=5)\/(t.mask=31/\es.size+1=19)\/(t.mask=127/\es.size+1=77):=by
     rcases hQ.msk with q | q | q | q
     ·exact .inl ⟨q,by omega⟩
     ·exact .inr (.inl ⟨q,by omega⟩)
     ·exact .inr (.inr ⟨q,by omega⟩)
     ·omega
    have hw:Msk (SetTable.sizeAbove (SetTable.grown (es.size+1)) - 1)/\SetTable.sizeAbove (SetTable.grown (es.size+1))<=sizeLine/\xs1.length * 5 < (SetTable.sizeAbove (SetTable.grown (es.size+1)) - 1) * 3:=by
     rcases ut with⟨_,q⟩ | ⟨_,q⟩ | ⟨_,q⟩
     ·rw [q,show SetTable.sizeAbove (SetTable.grown 5)=32 by decide +kernel]
      exact⟨.inr (.inl rfl),by omega,by omega⟩
     ·rw [q,show SetTable.sizeAbove (SetTable.grown 19)=128 by decide +kernel]
      exact⟨.inr (.inr (.inl rfl)),by omega,by omega⟩
     ·rw [q,show SetTable.sizeAbove (SetTable.grown 77)=512 by decide +kernel]
      exact⟨.inr (.inr (.inr rfl)),by omega,by omega⟩
    refine Yaa (W8 (s:={ s with heap:=s.heap.update a (Obj.putSet dc t2) }) (o:={ o with data:=.set dc (ep+1) t2 }) k1 fu rfl ml k2 xh g3 hw.1 hw.2.1 hw.2.2 λh' bw c1 c2 c3=>Yab ?_)
    exact h2 hni h' bw (b1.trans c1) c2 (c3.trans iu)
   ·rw [Yah (by rw [mm,Yau c];decide)]
    exact Yab (h2 hni _ _ b1 (k3 (by rw [g1];omega)) iu)
  split
  ·obtain⟨kx,as,rx⟩:=hx
   refine Yaa (Qd6 6 8 _ _ as _ _ _ _ kx.dep kx.can rx λbv=>?_)
   cases bv
   ·exact fin _ e3 bz (w4.plain false) (nv.pln false)
   ·exact fin _ e3 bz w4 nv
  ·exact Yaa (Yab (fin _ e3 bz w4 nv))
 ·have:SetTable.turns t.mask<=600:=by unfold SetTable.turns;rcases hQ.msk with c | c | c | c <;> omega
  omega
end
end L2
namespace L2
open PySem PySem.Spec PyProof.Rows
section
variable {prog:Program}{w:World}{A:Around}{R:Result->Shared->Prop}{sa it t:Addr}{led:Bool}
structure StepIt(prog:Program)(w:World)(it t:Addr)(items:Array Value)(St:Nat->Heap->Prop):Prop where
 item:∀{A:Around} {E:Value->Shared->Prop} {s:Shared} {i:Nat} {x:Value} {Q:Option Value->Shared->Prop},St i s.heap->items[i]?=some x->(∀h',St (i+1) h'->Heap.SameBut it s.heap h'->Q (some x) { s with heap:=h' })->wpAny (model prog w) A (pyNext (.ref it)) Q E s
 fin:∀{A:Around} {E:Value->Shared->Prop} {s:Shared} {i:Nat} {Q:Option Value->Shared->Prop},A.handled=none->St i s.heap->items[i]?=none->(∀h',Heap.ExtBut it s.heap h'->Q none { s with heap:=h' })->wpAny (model prog w) A (pyNext (.ref it)) Q E s
 keep:∀{i:Nat} {h h':Heap} {p:Addr},it≠p->t≠p->St i h->Heap.SameBut p h h'->St i h'
 noseq:∀{i:Nat} {h:Heap} {o:Obj} {vs:Array Value} {n:Nat},St i h->h.get? it=some o->o.data≠.seq vs n
theorem Lb{items:Array Value}(bj:t≠it):StepIt prog w it t items λi h=>h.IsListIter it t i/\h.IsList t items where
 item:=λst hx q=>Yev st.1 st.2 hx λh' s1 sb=>q h' ⟨s1,let⟨o,e,r⟩:=st.2;⟨o,(sb.2 t bj).trans e,r⟩⟩ sb
 fin:=λhh st hx q=>Ye6 hh st.1 st.2 hx q
 keep:=λh1 h2 st sb=>⟨st.1.at λo e=>(sb.2 it h1).trans e,let⟨o,e,r⟩:=st.2;⟨o,(sb.2 t h2).trans e,r⟩⟩
 noseq:=λst e q=>by
  obtain⟨⟨o,e',c,d⟩,_⟩:=st
  rw [e]at e';cases e'
  rw [d]at q;cases q
theorem Jm{items:Array Value}(bj:t≠it):StepIt prog w it t items λi h=>h.IsTupleIter it t i/\h.IsTuple t items where
 item:=λst hx q=>wpAny_pyNext_tuple_item st.1 st.2 hx λh' s1 sb=>q h' ⟨s1,st.2.at λo e=>(sb.2 t bj).trans e⟩ sb
 fin:=λhh st hx q=>wpAny_pyNext_tuple_end hh st.1 st.2 hx q
 keep:=λh1 h2 st sb=>⟨st.1.at λo e=>(sb.2 it h1).trans e,st.2.at λo e=>(sb.2 t h2).trans e⟩
 noseq:=λst e q=>by
  obtain⟨⟨o,e',c,d⟩,_⟩:=st
  rw [e]at e';cases e'
  rw [d]at q;cases q
theorem Eg.at{h h':Heap}{xs:List (PyData×Addr)}(x:Eg w h sa xs led)(hs:∀o,h.get? sa=some o->h'.get? sa=some o)(hX:∀x∈xs,B9 h x.1 x.2->B9 h' x.1 x.2):Eg w h' sa xs led:=by
 obtain⟨o,es,ep,tt,e,a1,a2,a3,a4,r⟩:=x
 exact⟨o,es,ep,tt,hs o e,a1,a2,a3,λx hx=>hX x hx (a4 x hx),r⟩
theorem Eg.noseq{h:Heap}{xs:List (PyData×Addr)}(x:Eg w h sa xs led){o:Obj}{vs:Array Value}{n:Nat}(e:h.get? sa=some o):o.data≠.seq vs n:=λq=>by
 obtain⟨o',es,ep,tt,e',_,a2,_⟩:=x
 rw [e]at e';cases e'
 rw [a2]at q;cases q
theorem Ld{St:Nat->Heap->Prop}{items:Array Value}(S:StepIt prog w it t items St)(hh:A.handled=none)(hu:A.units+20 < cLine)(ar:sa≠it)(ay:sa≠t){ks:List (PyData×Addr)}(jc:items.toList=ks.map λx=>.ref x.2)(bz:items.size < 304) :
  ∀(m i:Nat) (s:Shared) (xs:List (PyData×Addr)),m+i=items.size->St i s.heap->Eg w s.heap sa xs led->(∀x∈ks,B9 s.heap x.1 x.2)->(xs.map (·.1)).Nodup->(∀d,d∈xs.map (·.1)↔d∈(ks.take i).map (·.1))->(∀x∈xs,x∈ks)->xs.length<=i ->
   (∀h' tk bw,(∀b o,b≠sa->b≠it->s.heap.get? b=some o->h'.get? b=some o)->Eg w h' sa bw led->(bw.map (·.1)).Nodup->(∀d,d∈bw.map (·.1)↔d∈ks.map (·.1))->(∀x∈bw,x∈ks)->bw.length<=items.size->R (.ok (.ret .none)) { s with heap:=h',toks:=tk }) ->
   codeAny (model prog w) A (.builtin "set.update.loop" ⟨[.ref sa,.ref it],[]⟩) R s:=by
 have hkl:ks.length=items.size:=by rw [<- Yal,jc,Yac]
 intro m
 induction m with
 | zero =>
  intro i s xs hm hI hS hX hN hd gt hl q
  refine Ycm Fy ?_
  rw [Yb5 C7 _]
  refine(show wpAny _ A.in1 (pyNext (.ref it) >>= _) _ _ s from Yaa (S.fin (show A.in1.handled=none from hh) hI (by rw [Array.getElem?_eq_none (by omega)]) λh' hx=>?_))
  refine Yab (q h' s.toks xs (λb o h1 h2 e=>hx b o h2 e) ?_ hN (λd=>?_) gt (by omega))
  ·exact hS.at (λo e=>hx sa o ar e) λx _ tr=>tr.but (p:=it) (λc o hc e=>hx c o hc e) λo vs n e=>S.noseq hI e
  ·rw [hd d,Yb6 (by omega)]
 | succ m ih =>
  intro i s xs hm hI hS hX hN hd gt hl q
  have hi:i < items.size:=by omega
  have hki:i < ks.length:=by omega
  have hx:items[i]?=some (.ref ks[i].2):=by
   rw [<- Array.getElem?_toList,jc,List.getElem?_map,List.getElem?_eq_getElem hki];rfl
  have ma:∀d,d∈(ks.take (i+1)).map (·.1)↔d=ks[i].1\/d∈(ks.take i).map (·.1):=λd=>by
   rw [Yds,List.getElem?_eq_getElem hki,Ybe,Yap]
   simp only [Option.toList_some,List.map_cons,List.map_nil,List.mem_singleton]
   exact Or.comm
  have hkm:=Ybu hki
  generalize ks[i]=kx at hx ma hkm
  obtain⟨d0,b0⟩:=kx
  refine Ycm Fy ?_
  rw [Yb5 C7 _]
  refine(show wpAny _ A.in1 (pyNext (.ref it) >>= _) _ _ s from Yaa (S.item hI hx λh1 ui mq=>?_))
  have xb:∀{d:PyData} {b:Addr},B9 s.heap d b->B9 h1 d b:=λtr=>tr.but (p:=it) (λc o hc e=>(mq.2 c hc).trans e) λo vs n e=>S.noseq hI e
  have qg:Eg w h1 sa xs led:=hS.at (λo e=>(mq.2 sa ar).trans e) λx _ tr=>xb tr
  have hT0:B9 h1 d0 b0:=xb (hX _ hkm)
  refine(show wpAny _ A.in1 (holding [.ref b0] (setAdd sa (.ref b0)) >>= _) _ _ _ from Yaa (Ya4 ?_))
  unfold setAdd
  have hu1:A.in1.units+6 < cLine:=by show A.units+1+6 < cLine;omega
  refine Ya4 (Yaa ((Jh prog w).pyHash (s:={ s with heap:=h1 }) hu1 hT0 ?_))
  refine W9 (s:={ s with heap:=h1,toks:=s.toks+Gu d0 }) hu1 hT0 qg (by omega) (λfu=>?_) (λjk h2 bw qh yv hp=>?_)
  ·refine Yab ⟨Yc3 C7 _,ih (i+1) _ xs (by omega) ui qg (λx hx'=>xb (hX x hx')) hN (λd=>?_) gt (by omega) λh' tk oq cz a1 a2 a3 a4 a5=>?_⟩
   ·rw [ma d,<- hd d]
    exact⟨.inr,λh=>h.elim (λe=>by rw [e];exact fu) id⟩
   ·exact q h' tk oq (λb o b1 b2 e=>cz b o b1 b2 ((mq.2 b b2).trans e)) a1 a2 a3 a4 a5
  ·have ak:bw.length=xs.length+1:=hp.length_eq
   have tr2:∀{d:PyData} {b:Addr},B9 h1 d b->B9 h2 d b:=λtr=>tr.but (p:=sa) (λc o hc e=>(qh.2 c hc).trans e) λo vs n e=>qg.noseq e
   have hpm:=hp.map (·.1)
   refine Yab ⟨Yc3 C7 _,ih (i+1) _ bw (by omega) (S.keep ar.symm ay.symm ui qh) yv (λx hx'=>tr2 (xb (hX x hx'))) (hpm.nodup_iff.mpr (Ydf.mpr ⟨jk,hN⟩)) (λd=>?_) (λx hx'=>?_) (by omega) λh' tk oq cz a1 a2 a3 a4 a5=>?_⟩
   ·rw [hpm.mem_iff,ma d,<- hd d]
    exact Yat
   ·rcases Yat.mp (hp.mem_iff.mp hx') with rfl | hx'
    ·exact hkm
    ·exact gt x hx'
   ·exact q h' tk oq (λb o b1 b2 e=>cz b o b1 b2 ((qh.2 b b1).trans ((mq.2 b b2).trans e))) a1 a2 a3 a4 a5
theorem He:isSubtype (.type "list") (.type "set")=pure false:=by rw [Ycg];kernel_rfl
theorem Hf:isSubtype (.type "list") (.type "frozenset")=pure false:=by rw [Ycg];kernel_rfl
theorem N6{h:Heap}:Eg w (h.push (Bs w)) h.objs.size [] (D5 w) :=
 ⟨_,#[],0,_,Heap.get?_push_size _ rfl,⟨rfl,rfl,rfl⟩,rfl,rfl,(λ_ z=>nomatch z),rfl,TblOk.fresh _,⟨.inl rfl,rfl,(λ_ z=>nomatch z),(λ_ z=>nomatch z)⟩,(show 0 * 5 < 7 * 3 by decide)⟩
theorem Xa{E:Value->Shared->Prop}{s:Shared}{id:String}{items:Array Value}{ks:List (PyData×Addr)}{Q:Unit->Shared->Prop}(hh:A.handled=none)(hu:A.units+20 < cLine)(ht:s.heap.IsList t items)(jc:items.toList=ks.map λx=>.ref x.2)(hX:∀x∈ks,B9 s.heap x.1 x.2)(bz:items.size < 304)
  (hS:Eg w s.heap sa [] led) (ay:sa≠t)
  (h:∀h' tk bw,(∀b o,b≠sa->s.heap.get? b=some o->h'.get? b=some o)->Eg w h' sa bw led->(bw.map (·.1)).Nodup->(∀d,d∈bw.map (·.1)↔d∈ks.map (·.1))->(∀x∈bw,x∈ks)->bw.length<=items.size->Q () { s with heap:=h',toks:=tk }) :
  wpAny (model prog w) A (Builtin.Frozenset.updateFrom id sa (.ref t)) Q E s:=by
 have T:s.TypeIs (.ref t) "list" := ht.typeIs
 have k1:=He
 have k2:=Hf
 have k3:(Value.type "list" == Value.type "dict")=false:=by decide
 unfold Builtin.Frozenset.updateFrom
 generalize oi:pyIter=PI
 wp_walk
 subst oi
 refine Ydg ht (show wpAny _ _ _ _ _ _ from Yaa (Yd3 ?_))
 have n4:t < s.heap.objs.size:=by obtain⟨o,e,_⟩:=ht;exact Yae e
 have m8:sa < s.heap.objs.size:=by obtain⟨o,_,_,_,e,_⟩:=hS;exact Yae e
 have up:∀{d:PyData} {b:Addr},B9 s.heap d b->B9 (s.heap.push { cls:=.type "list_iterator",data:=.fields #[.ref t,.int 0 0] }) d b:=λ⟨k,as,r⟩=>⟨k,as,Yeg (λb o e=>Heap.get?_push_of_some _ e) r⟩
 refine Ld (led:=led) (Lb (items:=items) (Yaj n4)) hh hu (Yaj m8) ay jc bz items.size 0 _ [] (by omega) ⟨⟨_,Heap.get?_push_size _ rfl,rfl,rfl⟩,let⟨o,e,r⟩:=ht;⟨o,Heap.get?_push_of_some _ e,r⟩⟩ (hS.at (λo e=>Heap.get?_push_of_some _ e) λ_ _ tr=>up tr) (λx hx=>up (hX x hx)) List.nodup_nil (λd=>by simp) (λ_ z=>nomatch z) (Ya6 _) λh' tk bw a1 a2 a3 a4 a5 a6=>?_
 exact Yab (h h' tk bw (λb o n e=>a1 b o n (Yaj (Yae e)) (Heap.get?_push_of_some _ e)) a2 a3 a4 a5 a6)
theorem Tw{E:Value->Shared->Prop}{s:Shared}{id:String}{items:Array Value}{ks:List (PyData×Addr)}{Q:Unit->Shared->Prop}(hh:A.handled=none)(hu:A.units+20 < cLine)(ht:s.heap.IsTuple t items)(jc:items.toList=ks.map λx=>.ref x.2)(hX:∀x∈ks,B9 s.heap x.1 x.2)(bz:items.size < 304)
  (hS:Eg w s.heap sa [] led) (ay:sa≠t)
  (h:∀h' tk bw,(∀b o,b≠sa->s.heap.get? b=some o->h'.get? b=some o)->Eg w h' sa bw led->(bw.map (·.1)).Nodup->(∀d,d∈bw.map (·.1)↔d∈ks.map (·.1))->(∀x∈bw,x∈ks)->bw.length<=items.size->Q () { s with heap:=h',toks:=tk }) :
  wpAny (model prog w) A (Builtin.Frozenset.updateFrom id sa (.ref t)) Q E s:=by
 have T:s.TypeIs (.ref t) "tuple" := ht.typeIs
 have k1:=G9
 have k2:=Ha
 have k3:(Value.type "tuple" == Value.type "dict")=false:=by decide
 unfold Builtin.Frozenset.updateFrom
 generalize oi:pyIter=PI
 wp_walk
 subst oi
 refine Ycz ht (show wpAny _ _ _ _ _ _ from Yaa (Yd3 ?_))
 have n4:t < s.heap.objs.size:=by obtain⟨o,e,_⟩:=ht;exact Yae e
 have m8:sa < s.heap.objs.size:=by obtain⟨o,_,_,_,e,_⟩:=hS;exact Yae e
 have up:∀{u:Obj} {d:PyData} {b:Addr},B9 s.heap d b->B9 (s.heap.push u) d b:=λ⟨k,as,r⟩=>⟨k,as,Yeg (λb o e=>Heap.get?_push_of_some _ e) r⟩
 refine Ld (led:=led) (Jm (items:=items) (Yaj n4)) hh hu (Yaj m8) ay jc bz items.size 0 _ [] (by omega) ⟨⟨_,Heap.get?_push_size _ rfl,rfl,rfl⟩,ht.push _⟩ (hS.at (λo e=>Heap.get?_push_of_some _ e) λ_ _ tr=>up tr) (λx hx=>up (hX x hx)) List.nodup_nil (λd=>by simp) (λ_ z=>nomatch z) (Ya6 _) λh' tk bw a1 a2 a3 a4 a5 a6=>?_
 exact Yab (h h' tk bw (λb o n e=>a1 b o n (Yaj (Yae e)) (Heap.get?_push_of_some _ e)) a2 a3 a4 a5 a6)
theorem B9.keeps{h h':Heap}{d:PyData}{b:Addr}(x:B9 h d b)(hk:∀b o,h.get? b=some o->h'.get? b=some o):B9 h' d b:=let⟨k,as,r⟩:=x;⟨k,as,Yeg hk r⟩
theorem Mm{α β:Type}{f:α->β}{l m:List β}(h:l.Perm m):∀xs:List α,m=xs.map f->∃ys:List α,l=ys.map f/\ys.Perm xs:=by
 induction h with
 | nil =>
  intro xs e
  have:xs=[]:=by simpa using e.symm
  subst this
  exact⟨[],rfl,.nil⟩
 | cons a h ih =>
  intro xs e
  cases xs with
  | nil=>cases e
  | cons x xs =>
   injection e with e1 e2
   obtain⟨ys,rfl,p⟩:=ih xs e2
   exact⟨x :: ys,by rw [e1];rfl,p.cons x⟩
 | swap a b l =>
  intro xs e
  match xs,e with
  | x :: y :: xs,e =>
   injection e with e1 e2
   injection e2 with e2 e3
   exact⟨y :: x :: xs,by rw [e1,e2,e3];rfl,.swap x y xs⟩
 | trans h1 h2 ih1 ih2 =>
  intro xs e
  obtain⟨ys,e1,p1⟩:=ih2 xs e
  obtain⟨zs,e2,p2⟩:=ih1 ys e1
  exact⟨zs,e2,p2.trans p1⟩
theorem Hg{h:Heap}:∀{zs:List (PyData×Addr)},(∀x∈zs,B9 h x.1 x.2)->∃as,ReadsAll h (zs.map λx=>.ref x.2) (zs.map (·.1)) as
 | [],_=>⟨_,.nil⟩
 | z :: zs,hx=>by
  obtain⟨as,r⟩:=Hg λx hx'=>hx x (.tail _ hx')
  obtain⟨_,bs,r1⟩:=hx z (.head _)
  exact⟨_,.cons r1 r⟩
theorem N7{E:Value->Shared->Prop}{s:Shared}{a:Addr}{xs:List (PyData×Addr)}{Q:Value->Shared->Prop}(hh:A.handled=none)(hu:A.units+100 < cLine)(hS:Eg w s.heap a xs (D5 w))(hok:∀ys:List (PyData×Addr),ys.Perm xs->SortOk (ys.map (·.1)))
  (h:∀(h':Heap) (d':Drawn) (tk p c:Nat) (zs:List (PyData×Addr)),(∀b o,s.heap.get? b=some o->h'.get? b=some o)->s.heap.objs.size<=p->h'.get? p=some (seqObj "list" (zs.map λx=>Value.ref x.2).toArray c)->zs.Perm xs->(zs.map (·.1)).Pairwise (λa b=>E7 a b=true)->Q (.ref p) { s with heap:=h',drawn:=d',toks:=tk }) :
  wpAny (model prog w) A (call (.builtin "sorted") [.ref a]) Q E s:=by
 obtain⟨o,es,ep,t,ho,fu,hd,hl,hX,hf,hT,hQ,hB⟩:=hS
 have j9:es.size=xs.length:=by rw [<- Yal,hl,Yac]
 have ze:xs.length < 1000:=by have:=(hok xs (.refl _)).len;rwa [Yac]at this
 refine Hc (Hb (show A.in1.handled=none from hh) ⟨o,ho,fu.1,hd,hf⟩ hT (by omega) λh1 d1 t1 ord k1 z1 hp=>?_)
 rw [hl,Ybo]at hp
 obtain⟨ys,rfl,py⟩:=Mm hp xs (f:=λx=>Value.ref x.2) rfl
 have ok:=hok ys py
 have hly:ys.length < 1000:=by rw [py.length_eq];exact ze
 have l1:(ys.map λx=>Value.ref x.2).length=(ys.map (·.1)).length:=by rw [Yac,Yac]
 have hXy:∀x∈ys,B9 h1 x.1 x.2:=λx hx=>(hX x (py.mem_iff.mp hx)).keeps k1
 refine⟨ltI (ys.map (·.1)),by rw [Yac];exact hly,by rw [l1];exact ok.ord,λh2 h' kp=>?_,λp h' l c pm up hlb kp e=>?_⟩
 ·obtain⟨bs,rd'⟩:=Hg (h:=h') λx hx=>(hXy x hx).keeps kp
  obtain⟨fs,kt,kl,kz⟩:=No rd' (ok.fst (by rw [<- l1];exact h2))
  refine⟨tuples' true,λQ q=>?_,λi j C hi hj q=>?_⟩
  ·refine PySem.W.kat_kind (T:=.type "int") kt (by omega) (λv hv=>?_) rfl q
   obtain⟨i,t,rfl⟩:=kz v hv
   exact PySem.W.Looks.of_pure rfl
  ·rw [l1]at hi hj
   obtain⟨b1,q1⟩:=Qdv rd' hi
   obtain⟨b2,q2⟩:=Qdv rd' hj
   have m1:=Cl (d:=PyData.none) hi
   have m2:=Cl (d:=PyData.none) hj
   obtain⟨x1,r1,e1⟩:=ok.fst (by rw [<- l1];exact h2) _ m1
   obtain⟨x2,r2,e2⟩:=ok.fst (by rw [<- l1];exact h2) _ m2
   have c1:=Fl ok.can _ m1
   have c2:=Fl ok.can _ m2
   have d1:=Yas (Kz _ m1) ok.dp
   have cm:=ok.cmp _ m1 _ m2
   have q':C (E7 ((ys.map (·.1)).getD i .none) ((ys.map (·.1)).getD j .none)) _:=q
   rw [e1]at q1 c1 d1 cm q'
   rw [e2]at q2 c2 cm q'
   unfold PySem.W.kas_ask
   generalize (ys.map λx=>Value.ref x.2).getD i Value.none=u1 at q1 ⊢
   generalize (ys.map λx=>Value.ref x.2).getD j Value.none=u2 at q2 ⊢
   cases q1 with
   | tuple a1 a2 a3 a4 =>
    cases q2 with
    | tuple b1 b2 b3 b4 =>
     exact Qdu (.tuple a1 a2 a3 a4) (.tuple b1 b2 b3 b4) c1 c2 cm (by show A.units+1+1+64 < _;omega) d1 q'
 ·have jf:∀i∈p.toList,i < ys.length:=λi hi=>by
   have:=pm.perm.mem_iff.mp hi
   rw [Yac]at this
   exact Ybi.mp this
  have ev:(p.toList.map λi=>(ys.map λx=>Value.ref x.2).getD i Value.none)=(p.toList.map λi=>ys.getD i (.none,0)).map λx=>Value.ref x.2:=by
   rw [Ybo]
   refine List.map_congr_left λi hi=>?_
   have:=jf i hi
   simp [List.getD_eq_getElem?_getD,this]
  rw [ev]at e
  have e2:(p.toList.map λi=>ys.getD i (.none,0)).Perm ys:=by
   have e1:p.toList.Perm (List.range ys.length):=by have:=pm.perm;rwa [Yac]at this
   have e2:=e1.map λi=>ys.getD i (PyData.none,0)
   rwa [Eu]at e2
  refine h h' d1 t1 l c _ (λb o q=>kp b o (k1 b o q)) (Yas z1 hlb) e (e2.trans py) ?_
  rw [Ybo,Yct]
  refine Ycf.mpr λi j hi hj fh=>?_
  have hj':j < (ys.map λx=>Value.ref x.2).length:=by rw [<- pm.size];simpa using hj
  have:=up i j fh hj'
  have gi:p.getD i 0=p.toList[i]:=by simp [Array.getD,show i < p.size by simpa using hi]
  have gj:p.getD j 0=p.toList[j]:=by simp [Array.getD,show j < p.size by simpa using hj]
  rw [gi,gj]at this
  have a1:=jf _ (Ybu hi)
  have a2:=jf _ (Ybu hj)
  unfold ltI at this
  simp only [List.getD_eq_getElem?_getD,List.getElem?_map,List.getElem?_eq_getElem a1,List.getElem?_eq_getElem a2]at this
  simp only [Function.comp,List.getD_eq_getElem?_getD,List.getElem?_eq_getElem a1,List.getElem?_eq_getElem a2]
  exact this
end
section
variable {X:Cx}{aa:List (Addr×Obj)}{σ:St}{H:Hp}{s:Shared}{k:Nat}
structure TOk(ds:List PyData):Prop where
 len:ds.length < 300
 key:∀d∈ds,KeyTree d
 fst:∀d∈ds,∃i r,d=.tuple (.int i :: r)
 cmp:∀d∈ds,∀e∈ds,cmpb d e=true
theorem Rs:∀{ds:List PyData},(∀d∈ds,KeyTree d)->PyData.canLayAll0 ds=true/\PyData.depthAll ds<=6/\Aj ds=true
 | [],_=>⟨rfl,Ya6 _,rfl⟩
 | d :: ds,h=>by
  obtain⟨a,b,c⟩:=Rs λe he=>h e (.tail _ he)
  have k:=h d (.head _)
  refine⟨?_,?_,?_⟩
  ·simp only [PyData.canLayAll0,k.lay,a];rfl
  ·simp only [PyData.depthAll];have:=k.dep;omega
  ·simp only [Aj,k.can,c];rfl
theorem TOk.sort{ds es:List PyData}(h:TOk ds)(hs:∀d∈es,d∈ds)(hn:es.Nodup):SortOk es:=by
 obtain⟨a,b,c⟩:=Rs λd hd=>h.key d (hs d hd)
 have:=D6 hn hs
 have:=h.len
 exact⟨by omega,a,by omega,c,hn,λ_ d hd=>h.fst d (hs d hd),λd hd e he=>h.cmp d (hs d hd) e (hs e he)⟩
theorem Xb(I:Inv X aa σ H s):∀(ds:List PyData) (ws:List V) (af:List Value),Ak X.K H ds ws->Vals ws af->(∀d∈ds,KeyTree d)->(∀d∈ds,∃i r,d=.tuple (.int i :: r))->∃ks:List (PyData×Addr),ks.map (·.1)=ds/\af=ks.map (λx=>.ref x.2)/\∀x∈ks,B9 s.heap x.1 x.2/\Dk X.K H x.1 (.ref x.2)
 | [],ws,af,h,r,_,_=>by
  have e:=h.nil
  subst e
  cases r
  exact⟨[],rfl,rfl,λ_ z=>nomatch z⟩
 | d :: ds,ws,af,h,r,hk,hf=>by
  obtain⟨x,rw',rfl,h1,h2⟩:=Ak.cons (K:=X.K) (H:=H) h
  cases r with
  | @cons _ _ u us r1 r2 =>
   obtain⟨ks,e1,e2,e3⟩:=Xb I ds rw' us h2 r2 (λd hd=>hk d (.tail _ hd)) (λd hd=>hf d (.tail _ hd))
   obtain⟨i,tl,rfl⟩:=hf d (.head _)
   obtain⟨a,xs,rfl,ha,hd⟩:=Dk.tup (K:=X.K) (H:=H) h1
   cases r1
   refine⟨(.tuple (.int i :: tl),a) :: ks,by rw [Ycc,e1],by rw [Ycc,<- e2],λy hy=>?_⟩
   rcases Yat.mp hy with rfl | hy
   ·exact⟨⟨hk _ (.head _),Dk.reads I _ _ _ h1 rfl⟩,h1⟩
   ·exact e3 y hy
theorem Xc{K:PySem.W.Frag}:∀{zs:List (PyData×Addr)},(∀x∈zs,Dk K H x.1 (.ref x.2))->Ak K H (zs.map (·.1)) (zs.map λx=>.ref x.2)
 | [],_=>C9
 | z :: zs,h=>Ca (h z (.head _)) (Xc λx hx=>h x (.tail _ hx))
theorem Rt:∀(zs:List (PyData×Addr)),Vals (zs.map λx=>V.ref x.2) (zs.map λx=>Value.ref x.2)
 | []=>.nil
 | z :: zs=>.cons rfl (Rt zs)
def Qg6(te:AE):AE:=fun τ μ R=>te τ μ λx μ1=>opt (items μ1 x) λys=>opt (dats ys) λds=>TOk ds/\∀(es:List PyData) (p:Addr),es.Nodup->(∀d,d∈es↔d∈ds)->es.Pairwise (λa b=>E7 a b=true)->μ1 p=none->R (.R p) (Bh μ1 p (.lst (es.map .D)))
theorem Ru{e:Expr}{te:AE}{p p2 pos bx:Pos}(hr:Room k X.A)(hg:Gl X "sorted") (hm:X.mg "sorted" = none) (gu:Gl X "set") (fy:X.mg "set" = none) (he:VE X e te)
  (hs:starEach [.Call (.Name "set" p2) [e] [] bx] X.env=[(false,eval (.Call (.Name "set" p2) [e] [] bx) X.env)]:=by rfl) (cv:starEach [e] X.env=[(false,eval e X.env)]:=by rfl) :
  VE X (.Call (.Name "sorted" p) [.Call (.Name "set" p2) [e] [] bx] [] pos) (Qg6 te):=by
 intro aa s σ H Q I zz129
 refine B0 zz129 fun τ μ R ay hcn h hq=>?_
 refine Yav (Bw I hg hm boot_sorted (Ybq ?_ hs rfl))
 rw [hs]
 refine Yar (Yav (Bw I gu fy boot_set (Yay ?_ cv rfl)))
 rw [cv]
 refine Yar (Ybk (he.run I ay hcn h) (λu s1 iq=>Ui iq λx v μ1 H1 I1 rv S1 c1 rx h1=>Ya5 ?_) λ_ _ e=>e)
 obtain⟨ys,ey,h1⟩:=Ba h1
 obtain⟨ds,ed,ok,h1⟩:=Ba h1
 obtain⟨p0,ws,rfl,hk,rs⟩:=Bf c1 rx ey
 cases rv
 have dk:=rs.dats ed
 have hd:X.A.handled=none:=hr.hd
 have hun:=hr.un
 have l2:=dk.length
 have ak:=ok.len
 have fin:∀(ks:List (PyData×Addr)),ks.map (·.1)=ds->(∀x∈ks,B9 s1.heap x.1 x.2/\Dk X.K H1 x.1 (.ref x.2))->∀(h1:Heap) (tk:Nat) (xs:List (PyData×Addr)),(∀b o,s1.heap.get? b=some o->h1.get? b=some o)->Eg X.w h1 s1.heap.objs.size xs (D5 X.w)->(xs.map (·.1)).Nodup->(∀d,d∈xs.map (·.1)↔d∈ks.map (·.1))->(∀x∈xs,x∈ks) ->
   wpAny (model X.prog X.w) X.A (call (.builtin "sorted") [.ref s1.heap.objs.size]) (EP X aa σ Q) X.xe { s1 with heap:=h1,toks:=tk }:=λks e1 jc h2 tk xs k1 S2 N2 M2 gt=>by
  rw [e1]at M2
  refine N7 (s:={ s1 with heap:=h2,toks:=tk }) hd (by omega) S2 (λys py=>ok.sort (λd hd=>(M2 d).mp ((py.map (·.1)).mem_iff.mp hd)) ((py.map (·.1)).nodup_iff.mpr N2)) λh3 d3 t3 q c zs k2 hp e3 pz nh=>?_
  have lS:s1.heap.objs.size < h2.objs.size:=by obtain⟨o,_,_,_,e,_⟩:=S2;exact Yae e
  have bu:s1.heap.objs.size<=q:=Yas (Yco lS) hp
  have wo:zs.length < 1000:=by
   have:=(ok.sort (es:=zs.map (·.1)) (λd hd=>(M2 d).mp ((pz.map (·.1)).mem_iff.mp hd)) ((pz.map (·.1)).nodup_iff.mpr N2)).len
   rwa [Yac]at this
  have hz:(zs.map λx=>V.ref x.2).length<=sizeLine:=by rw [Yac];exact Yas (Yco wo) (by decide)
  have hn:=I1.hok.fresh bu
  refine⟨.ref q,_,(Inv.drw I1 d3).laid (t':=t3) (λb o e=>k2 b o (k1 b o e)) bu (show Bo X.prog X.w _ h3 _ (.lst (zs.map λx=>V.ref x.2)) from⟨hz,_,c,Rt zs,e3⟩),rfl,?_⟩
  refine hq _ _ _ _ (S1.trans (Kp.new hn _)) (c1.new hn (C8 ?_)) Eb (h1 (zs.map (·.1)) q ((pz.map (·.1)).nodup_iff.mpr N2) (λd=>((pz.map (·.1)).mem_iff).trans (M2 d)) nh (c1.none hn))
  exact(Xc λx hx=>(jc x (gt x (pz.mem_iff.mp hx))).2).rel
 refine Ja (s:=s1) ?_
 rcases hk with⟨_,hk⟩ | ⟨_,hk⟩
 ·obtain⟨af,r',pl,hz⟩:=I1.list hk
  obtain⟨ks,e1,e2,e3⟩:=Xb I1 ds ws af dk r' ok.key ok.fst
  have la:p0 < s1.heap.objs.size:=by obtain⟨o,e,_⟩:=pl.isList;exact Yae e
  have bz:af.toArray.size < 304:=by have:=r'.length;simp only [List.size_toArray];omega
  refine Xa (s:={ s1 with heap:=s1.heap.push (Bs X.w) }) (show X.A.in1.in1.handled=none from hd) (show X.A.units+1+1+20 < cLine by omega) (let⟨o,e,r⟩:=pl.isList;⟨o,Heap.get?_push_of_some _ e,r⟩) (ks:=ks) (by simpa using e2) (λx hx=>(e3 x hx).1.keeps λb o e=>Heap.get?_push_of_some _ e) bz N6 (Yc4 (Yaj la)) λh2 tk xs k1 S2 N2 M2 gt L2=>Ya5 ?_
  exact fin ks e1 e3 h2 tk xs (λb o e=>k1 b o (Yaj (Yae e)) (Heap.get?_push_of_some _ e)) S2 N2 M2 gt
 ·obtain⟨af,r',pl,hz⟩:=I1.tuple hk
  obtain⟨ks,e1,e2,e3⟩:=Xb I1 ds ws af dk r' ok.key ok.fst
  have la:p0 < s1.heap.objs.size:=by obtain⟨o,e,_⟩:=pl;exact Yae e
  have bz:af.toArray.size < 304:=by have:=r'.length;simp only [List.size_toArray];omega
  refine Tw (s:={ s1 with heap:=s1.heap.push (Bs X.w) }) (show X.A.in1.in1.handled=none from hd) (show X.A.units+1+1+20 < cLine by omega) (Heap.IsTuple.push pl _) (ks:=ks) (by simpa using e2) (λx hx=>(e3 x hx).1.keeps λb o e=>Heap.get?_push_of_some _ e) bz N6 (Yc4 (Yaj la)) λh2 tk xs k1 S2 N2 M2 gt L2=>Ya5 ?_
  exact fin ks e1 e3 h2 tk xs (λb o e=>k1 b o (Yaj (Yae e)) (Heap.get?_push_of_some _ e)) S2 N2 M2 gt
end
section
variable {X:Cx}{tg:Expr}
def chA(c:Nat):AV:=.D (.str ⟨#[c]⟩)
theorem Xd{K:PySem.W.Frag}{H0:Hp}{z:Str}:ItOk K H0 (Its z) (z.cps.toList.map chA) (λ_=>True):=by
 refine⟨λi H μ S c k hi=>?_,λi H μ v H' x S c k e y=>?_,λH μ S c k=>?_⟩
 ·rw [Yac,Yal]at hi
  exact hi
 ·obtain⟨rfl,d,e1,rfl⟩:=y
  rw [List.getElem?_map,Array.getElem?_toList,e1]at e
  cases e
  exact⟨Kp.refl,c,M9 O7⟩
 ·show(List.map chA z.cps.toList).length=z.cps.size
  rw [Yac,Yal]
def Qg7(tl:AE):AI:=fun τ μ R=>tl τ μ λx μ1=>match x with
 | .D (.str z)=>R (z.cps.toList.map chA) (λ_=>True) μ1
 | _=>False
theorem Qd7{l:Expr}{tl:AE}(hl:VE X l tl):VI X tg l (Qg7 tl) :=
 (Qcx hl).imp fun σ H Q zz111=>B0 zz111 fun τ μ R hs hc h hq=>⟨τ,μ,_,hs,hc,h,λx μ1 v H1 S1 c1 rx hx=>by
  split at hx
  ·cases RelA.str rx
   exact⟨_,rfl,hq _ _ _ _ _ S1 c1 Xd hx⟩
  ·exact hx.elim⟩
end
section
variable {prog:Program}{w:World}{A:Around}{E:Value->Shared->Prop}
theorem Le{it t:Addr}{items:Array Value}(ar:t≠it):∀(n i:Nat) (s:Shared) (Q:List Value->Shared->Prop),s.heap.IsListIter it t i->s.heap.IsList t items->i+n<=items.size ->
  (∀h',h'.IsListIter it t (i+n)->Heap.SameBut it s.heap h'->Q ((items.toList.drop i).take n) { s with heap:=h' })->wpAny (model prog w) A (draw (.ref it) n) Q E s
 | 0,i,s,Q,bj,_,_,hQ=>by
  unfold draw
  exact Yab (by have:=hQ s.heap bj (Heap.SameBut.refl _ _);simpa using this)
 | n+1,i,s,Q,bj,ht,de,hQ=>by
  have hlt:i < items.size:=by omega
  have hx:items[i]?=some items[i]:=Array.getElem?_eq_getElem hlt
  unfold draw
  refine Yaa (Yev bj ht hx λh₁ bj₁ hs₁=>?_)
  refine Yaa (Ya4 (Le ar n (i+1) _ _ bj₁ (let⟨o,e,r⟩:=ht;⟨o,(hs₁.2 t ar).trans e,r⟩) (by omega) λh₂ bj₂ hs₂=>Yab ?_))
  have hd:items.toList.drop i=items[i] :: items.toList.drop (i+1):=by simp [List.drop_eq_getElem_cons,hlt]
  have:=hQ h₂ (by rw [show i+(n+1)=i+1+n by omega];exact bj₂) (hs₁.trans hs₂)
  rw [hd,List.take_succ_cons]at this
  exact this
theorem Gy{s:Shared}{t:Addr}{items:Array Value}{Q:List Value->Shared->Prop}(hh:A.handled=none)(ht:s.heap.IsList t items)
  (hQ:∀h',Heap.ExtBut s.heap.objs.size s.heap h'->Q items.toList { s with heap:=h' }):wpAny (model prog w) A (unpackItems (.ref t) items.size none) Q E s:=by
 have hlt:t≠s.heap.objs.size:=by obtain⟨o,ho,_⟩:=ht;exact Yaj (Yae ho)
 have mz:∀u:Obj,(s.heap.push u).IsList t items:=λu=>let⟨o,e,r⟩:=ht;⟨o,Heap.get?_push_of_some _ e,r⟩
 unfold unpackItems
 refine Yaa ?_
 ·unfold notIterableAtAll
  refine Yaa (Ych ht.typeIs slot_list_iter.lookup ?_)
  refine Yab ?_
  simp only [Bool.false_eq_true,if_false]
  refine Yaa (Ya4 (Ydg ht ?_))
  refine Yaa (Ya4 (Le hlt items.size 0 _ _ ⟨_,Heap.get?_push_size _ rfl,rfl,rfl⟩ (mz _) (by omega) λh₁ bj₁ hs₁=>?_))
  have fe:List.take items.size (List.drop 0 items.toList)=items.toList:=by
   rw [List.drop_zero];exact Yb6 (by simp)
  rw [fe]
  rw [Yah (by simp)]
  have ht₁:h₁.IsList t items:=let⟨o,e,r⟩:=mz _;⟨o,(hs₁.2 t hlt).trans e,r⟩
  refine Yaa (Ya4 (Ye6 hh bj₁ ht₁ (by simp) λh₂ he₂=>?_))
  simp only [Option.isSome_none,Bool.false_eq_true,if_false]
  refine Yab (hQ h₂ λb o hb e=>he₂ b o hb (hs₁.extBut b o hb (Heap.get?_push_of_some _ e)))
theorem Gc{s:Shared}{env:Env}{ck:List Expr}{x1}{pos:Pos}{t:Addr}{items:Array Value}{Q:Unit->Shared->Prop}(hh:A.handled=none)(ht:s.heap.IsList t items)
  (hn:(assignEach ck env).length=items.size) (si:(assignEach ck env).findIdx? (·.1)=none)
  (h:∀h',Heap.ExtBut s.heap.objs.size s.heap h'->wpAny (model prog w) A (assignInOrder ((assignEach ck env).map (·.2)) items.toList) Q E { s with heap:=h' }) :
  wpAny (model prog w) A (assign (.Tuple ck x1 pos) env (.ref t)) Q E s:=by
 rw [arm_assign_Tuple]
 refine Yaa (Yek ?_)
 unfold unpack
 rw [hn,si]
 exact Yaa (Ya4 (Gy hh ht h))
end
section
variable {X:Cx}{pos:Pos}
def Qg8(K:PySem.W.Frag)(n:Nat)(t:TGs):TG:=λv σ H Q=>∃a xs,v=.ref a/\Du K H a xs/\xs.length=n/\t xs σ H Q
theorem Z9{es:List Expr}{k:Nat}{t:TGs}{n:Nat}(hc:X.calm=true)(h:PGs X es t)
  (hn:(assignEach es X.env).length=n:=by rfl) (ay:(assignEach es X.env).findIdx? (·.1)=none:=by rfl):PG X (.Tuple es k pos) (Qg8 X.K n t):=by
 intro aa s σ H v u Q I r hw
 obtain⟨a,xs,e1,hq,hl,hw⟩:=hw
 subst e1
 cases r
 obtain⟨af,rv,ht,hz⟩:=I.list hq
 refine Gc (I.ok.hd hc) ht.isList (by simp [hn,<- hl,rv.length]) ay λh' hx=>?_
 have I1:Inv X aa σ H { s with heap:=h' }:=I.kept (t':=s.toks) λb o e=>hx b o (Yaj (Yae e)) e
 exact h aa _ σ H xs _ Q I1 (by simpa using rv) hw
def Qbl(n:Nat)(t:AGs):AG:=λv τ μ R=>match v with
 | .R a=>opt (μ a) λm=>match m with
  | .lst xs=>xs.length=n/\t xs τ μ R
  | _=>False
 | _=>False
theorem Qaa{es:List Expr}{k:Nat}{t:AGs}{n:Nat}(jy:X.calm=true)(h:VGs X es t)
  (hn:(assignEach es X.env).length=n:=by rfl) (ay:(assignEach es X.env).findIdx? (·.1)=none:=by rfl):VG X (.Tuple es k pos) (Qbl n t):=(Z9 jy h hn ay).imp λv σ H Q zz112=>Dt zz112 λx τ μ R rx hs hc h hq=>by
 unfold Qbl at h
 split at h
 ·obtain⟨m,em,h⟩:=Ba h
  split at h
  ·cases rx
   obtain⟨o,ho,ws,rfl,rs⟩:=hc _ _ em
   exact⟨_,ws,rfl,Du.of ho,by rw [<- rs.length];exact h.1,_,τ,μ,R,rs,hs,hc,h.2,hq⟩
  ·exact h.elim
 ·exact h.elim
end
section
variable {prog:Program}{w:World}{Kt:Type} [DecidableEq Kt]{knd:KeyKind prog w Kt}{A:Around}{R:Result->Shared->Prop}{sa it t:Addr}{led:Bool}
theorem Lf{St:Nat->Heap->Prop}{items:Array Value}(S:StepIt prog w it t items St)(hh:A.handled=none)(ar:sa≠it)(ay:sa≠t){ks:List Kt}(jc:ItemsAre knd ks items.toList)(qx:∀v∈items.toList,v.scannable=true)(bz:items.size < 1000) :
  ∀(m i:Nat) (s:Shared) (l:List (Int×Value)) (dn:List Kt),m+i=items.size->St i s.heap->Dh knd s.heap sa l led->Unlike knd l->Keys knd l dn->l.length<=i->(∀k,k∈dn↔k∈ks.take i) ->
   (∀h' tk l',(∀b o,b≠sa->b≠it->s.heap.get? b=some o->h'.get? b=some o)->Dh knd h' sa l' led->Unlike knd l'->Keys knd l' ks->l'.length<=items.size->R (.ok (.ret .none)) { s with heap:=h',toks:=tk }) ->
   codeAny (model prog w) A (.builtin "set.update.loop" ⟨[.ref sa,.ref it],[]⟩) R s:=by
 intro m
 induction m with
 | zero =>
  intro i s l dn hm hI hS hU hK hl wv q
  refine Ycm Fy ?_
  rw [Yb5 C7 _]
  refine(show wpAny _ A.in1 (pyNext (.ref it) >>= _) _ _ s from Yaa (S.fin (show A.in1.handled=none from hh) hI (by rw [Array.getElem?_eq_none (by omega)]) λh' hx=>?_))
  refine Yab (q h' s.toks l (λb o h1 h2 e=>hx b o h2 e) ?_ hU ?_ (by omega))
  ·obtain⟨o,es,ep,tt,e,r⟩:=hS
   exact⟨o,es,ep,tt,hx sa o ar e,r⟩
  ·intro k
   rw [hK k,wv k,Yb6]
   have:=jc.length
   simp at this;omega
 | succ m ih =>
  intro i s l dn hm hI hS hU hK hl wv q
  have hi:i < items.size:=by omega
  have hx:items[i]?=some items[i]:=Array.getElem?_eq_getElem hi
  obtain⟨k,ek,hk⟩:=Nv (i:=i) (x:=items[i]) jc (by rw [Array.getElem?_toList];exact hx)
  have hsx:=qx items[i] (by simp)
  have ma:∀k',k'∈ks.take (i+1)↔k'∈ks.take i\/k'=k:=λk'=>by
   rw [Yds,ek,Yap];simp
  refine Ycm Fy ?_
  rw [Yb5 C7 _]
  refine(show wpAny _ A.in1 (pyNext (.ref it) >>= _) _ _ s from Yaa (S.item hI hx λh1 ui mq=>?_))
  have qg:Dh knd h1 sa l led:=by
   obtain⟨o,es,ep,tt,e,r⟩:=hS
   exact⟨o,es,ep,tt,(mq.2 sa ar).trans e,r⟩
  refine(show wpAny _ A.in1 (holding [items[i]] (setAdd sa items[i]) >>= _) _ _ _ from Yaa (Ya4 ?_))
  unfold setAdd
  refine Ya4 (Yaa (knd.pyHash hk ?_))
  refine Zs hk hsx (s:={ s with heap:=h1,toks:=s.toks+1 }) qg (by have:scanBound=4096:=rfl;omega) (λfu=>?_) (λjk h2 l' qh yv hp=>?_)
  ·refine Yab ⟨Yc3 C7 _,ih (i+1) _ l dn (by omega) ui qg hU hK (by omega) (λk'=>?_) λh' tk l' cz a1 a2 a3 a4=>?_⟩
   ·rw [ma k',<- wv k']
    refine⟨.inl,λh=>h.elim id λe=>?_⟩
    rw [e];exact(hK k).mp fu
   ·exact q h' tk l' (λb o b1 b2 e=>cz b o b1 b2 ((mq.2 b b2).trans e)) a1 a2 a3 a4
  ·have ak:l'.length=l.length+1:=by rw [hp.length_eq,Yag];rfl
   refine Yab ⟨Yc3 C7 _,ih (i+1) _ l' (dn++[k]) (by omega) (S.keep ar.symm ay.symm ui qh) yv ((hU.add hk jk).perm hp) (λk'=>?_) (by omega) (λk'=>?_) λh' tk l'' cz a1 a2 a3 a4=>?_⟩
   ·rw [Yap,<- hK k']
    constructor
    ·rintro⟨e,he,hek⟩
     rcases Yap.mp (hp.mem_iff.mp he) with he | he
     ·exact .inl ⟨e,he,hek⟩
     ·have e1:e=(knd.hash k,items[i]):=by simpa using he
      subst e1
      exact .inr (Ya8.mpr (knd.inj _ k' k hek hk))
    ·rintro(⟨e,he,hek⟩ | he)
     ·exact⟨e,hp.mem_iff.mpr (Ydd _ he),hek⟩
     ·have e1:k'=k:=by simpa using he
      subst e1
      exact⟨(knd.hash k',items[i]),hp.mem_iff.mpr (Ybj _ (Ya8.mpr rfl)),hk⟩
   ·rw [ma k',<- wv k',Yap,Ya8]
   ·exact q h' tk l'' (λb o b1 b2 e=>cz b o b1 b2 ((qh.2 b b1).trans ((mq.2 b b2).trans e))) a1 a2 a3 a4
variable {E:Value->Shared->Prop}{s:Shared}
theorem Qc{id:String}{items:Array Value}{ks:List Kt}{Q:Unit->Shared->Prop}(hh:A.handled=none)(ht:s.heap.IsTuple t items)(jc:ItemsAre knd ks items.toList)(qx:∀v∈items.toList,v.scannable=true)(bz:items.size < 1000)
  (hS:Dh knd s.heap sa [] led) (ay:sa≠t)
  (h:∀h' tk l',(∀b o,b≠sa->s.heap.get? b=some o->h'.get? b=some o)->Dh knd h' sa l' led->Unlike knd l'->Keys knd l' ks->l'.length<=items.size->Q () { s with heap:=h',toks:=tk }) :
  wpAny (model prog w) A (Builtin.Frozenset.updateFrom id sa (.ref t)) Q E s:=by
 have T:s.TypeIs (.ref t) "tuple" := ht.typeIs
 have k1:=G9
 have k2:=Ha
 have k3:(Value.type "tuple" == Value.type "dict")=false:=by decide
 unfold Builtin.Frozenset.updateFrom
 generalize oi:pyIter=PI
 wp_walk
 subst oi
 refine Ycz ht (show wpAny _ _ _ _ _ _ from Yaa (Yd3 ?_))
 have n4:t < s.heap.objs.size:=by obtain⟨o,e,_⟩:=ht;exact Yae e
 have m8:sa < s.heap.objs.size:=by obtain⟨o,_,_,_,e,_⟩:=hS;exact Yae e
 refine Lf (led:=led) (Jm (items:=items) (Yaj n4)) hh (Yaj m8) ay jc qx bz items.size 0 _ [] [] (by omega) ⟨⟨_,Heap.get?_push_size _ rfl,rfl,rfl⟩,ht.push _⟩ ?_ List.Pairwise.nil K5 (Ya6 _) (λk=>by simp) λh' tk l' a1 a2 a3 a4 a5=>?_
 ·obtain⟨o,es,ep,tt,e,r⟩:=hS
  exact⟨o,es,ep,tt,Heap.get?_push_of_some _ e,r⟩
 ·exact Yab (h h' tk l' (λb o n e=>a1 b o n (Yaj (Yae e)) (Heap.get?_push_of_some _ e)) a2 a3 a4 a5)
theorem Tx{id:String}{items:Array Value}{ks:List Kt}{Q:Unit->Shared->Prop}(hh:A.handled=none)(ht:s.heap.IsList t items)(jc:ItemsAre knd ks items.toList)(qx:∀v∈items.toList,v.scannable=true)(bz:items.size < 1000)
  (hS:Dh knd s.heap sa [] led) (ay:sa≠t)
  (h:∀h' tk l',(∀b o,b≠sa->s.heap.get? b=some o->h'.get? b=some o)->Dh knd h' sa l' led->Unlike knd l'->Keys knd l' ks->l'.length<=items.size->Q () { s with heap:=h',toks:=tk }) :
  wpAny (model prog w) A (Builtin.Frozenset.updateFrom id sa (.ref t)) Q E s:=by
 have T:s.TypeIs (.ref t) "list" := ht.typeIs
 have k1:=He
 have k2:=Hf
 have k3:(Value.type "list" == Value.type "dict")=false:=by decide
 unfold Builtin.Frozenset.updateFrom
 generalize oi:pyIter=PI
 wp_walk
 subst oi
 refine Ydg ht (show wpAny _ _ _ _ _ _ from Yaa (Yd3 ?_))
 have n4:t < s.heap.objs.size:=by obtain⟨o,e,_⟩:=ht;exact Yae e
 have m8:sa < s.heap.objs.size:=by obtain⟨o,_,_,_,e,_⟩:=hS;exact Yae e
 refine Lf (led:=led) (Lb (items:=items) (Yaj n4)) hh (Yaj m8) ay jc qx bz items.size 0 _ [] [] (by omega) ⟨⟨_,Heap.get?_push_size _ rfl,rfl,rfl⟩,let⟨o,e,r⟩:=ht;⟨o,Heap.get?_push_of_some _ e,r⟩⟩ ?_ List.Pairwise.nil K5 (Ya6 _) (λk=>by simp) λh' tk l' a1 a2 a3 a4 a5=>?_
 ·obtain⟨o,es,ep,tt,e,r⟩:=hS
  exact⟨o,es,ep,tt,Heap.get?_push_of_some _ e,r⟩
 ·exact Yab (h h' tk l' (λb o n e=>a1 b o n (Yaj (Yae e)) (Heap.get?_push_of_some _ e)) a2 a3 a4 a5)
end
section
variable {X:Cx}{aa:List (Addr×Obj)}{σ:St}{H:Hp}{s:Shared}{k:Nat}
end
theorem Hh{K:PySem.W.Frag}{H:Hp}:∀{ns:List Int} {ws:List V},Au K H (ns.map λn=>AV.D (.int n)) ws->ws=ns.map V.int
 | [],_,h=>by cases h;rfl
 | n :: ns,_,h=>by
  cases h with
  | cons r1 r2 =>
   cases RelA.int r1
   rw [Hh r2];rfl
def Qg9(te:AE):AE:=fun τ μ R=>te τ μ λx μ1=>opt (items μ1 x) λus=>∃ns:List Int,us=(ns.map λn=>AV.D (.int n))/\ns.length < 60/\∀(l:Addr) (ms:List Int),μ1 l=none->ms.Pairwise (· < ·)->(∀n,n∈ms↔n∈ns)->R (.R l) (Bh μ1 l (.lst (ms.map λn=>.D (.int n))))
section
variable {X:Cx}{k:Nat}
theorem Qab{e:Expr}{te:AE}{p p2 pos bx:Pos}(hr:Room k X.A)(hg:Gl X "sorted") (hm:X.mg "sorted" = none) (gu:Gl X "set") (fy:X.mg "set" = none) (he:VE X e te)
  (hs:starEach [.Call (.Name "set" p2) [e] [] bx] X.env=[(false,eval (.Call (.Name "set" p2) [e] [] bx) X.env)]:=by rfl) (cv:starEach [e] X.env=[(false,eval e X.env)]:=by rfl) :
  VE X (.Call (.Name "sorted" p) [.Call (.Name "set" p2) [e] [] bx] [] pos) (Qg9 te):=by
 intro aa s σ H Q I zz129
 refine B0 zz129 fun τ μ R ay hcn h hq=>?_
 refine Yav (Bw I hg hm boot_sorted (Ybq ?_ hs rfl))
 rw [hs]
 refine Yar (Yav (Bw I gu fy boot_set (Yay ?_ cv rfl)))
 rw [cv]
 refine Yar (Ybk (he.run I ay hcn h) (λu s1 iq=>Ui iq λx v μ1 H1 I1 rv S1 c1 rx h1=>Ya5 ?_) λ_ _ e=>e)
 obtain⟨us,ey,h1⟩:=Ba h1
 obtain⟨ns,rfl,hl,h1⟩:=h1
 obtain⟨p0,ws,rfl,hk,rs⟩:=Bf c1 rx ey
 cases rv
 have ew:=Hh rs
 subst ew
 have hd:X.A.handled=none:=hr.hd
 have fin:∀(h2:Heap) (tk:Nat) (l:List (Int×Value)),(∀b o,s1.heap.get? b=some o->h2.get? b=some o)->Dh (Bm X.prog X.w) h2 s1.heap.objs.size l (D5 X.w)->Unlike (Bm X.prog X.w) l->Keys (Bm X.prog X.w) l (ns.map Sum.inl)->l.length < 64 ->
   wpAny (model X.prog X.w) X.A (call (.builtin "sorted") [.ref s1.heap.objs.size]) (EP X aa σ Q) X.xe { s1 with heap:=h2,toks:=tk }:=λh2 tk l k1 S2 U2 K2 L2=>by
  refine Px (s:={ s1 with heap:=h2,toks:=tk }) hd S2 U2 K2 L2 λh3 d3 t3 q c vs k2 hp e3 hi hr' jd ak=>?_
  have lS:s1.heap.objs.size < h2.objs.size:=by obtain⟨o,_,_,_,e,_⟩:=S2;exact Yae e
  have bu:s1.heap.objs.size<=q:=Yas (Yco lS) hp
  have hz:((vs.map B3).map V.int).length<=sizeLine:=by simp;exact Yas (Yco ak) (by decide)
  have hn:=I1.hok.fresh bu
  refine⟨.ref q,_,(Inv.drw I1 d3).laid (t':=t3) (λb o e=>k2 b o (k1 b o e)) bu (show Bo X.prog X.w _ h3 _ (.lst ((vs.map B3).map V.int)) from⟨hz,vs,c,Nz hi,e3⟩),rfl,?_⟩
  exact hq _ _ _ _ (S1.trans (Kp.new hn _)) (c1.new hn (C8 (Rm _))) Eb (h1 q (vs.map B3) (c1.none hn) hr' jd)
 refine Ja (s:=s1) ?_
 rcases hk with⟨_,hk⟩ | ⟨_,hk⟩
 ·obtain⟨af,r',pl,hz⟩:=I1.list hk
  obtain⟨i1,i2⟩:=Gs (P:=X.prog) (w:=X.w) r'
  have ak:=r'.length
  have bz:af.toArray.size < 60:=by simp at ak ⊢;omega
  have la:p0 < s1.heap.objs.size:=by obtain⟨o,e,_⟩:=pl.isList;exact Yae e
  refine Tx (s:={ s1 with heap:=s1.heap.push (Bs X.w) }) (show X.A.in1.in1.handled=none from hd) (let⟨o,e,r⟩:=pl.isList;⟨o,Heap.get?_push_of_some _ e,r⟩) (by simpa using i1) (by simpa using i2) (by omega) Jb (Yc4 (Yaj la)) λh2 tk l k1 S2 U2 K2 L2=>Ya5 ?_
  exact fin h2 tk l (λb o e=>k1 b o (Yaj (Yae e)) (Heap.get?_push_of_some _ e)) S2 U2 K2 (by omega)
 ·obtain⟨af,r',pl,hz⟩:=I1.tuple hk
  obtain⟨i1,i2⟩:=Gs (P:=X.prog) (w:=X.w) r'
  have ak:=r'.length
  have bz:af.toArray.size < 60:=by simp at ak ⊢;omega
  have la:p0 < s1.heap.objs.size:=by obtain⟨o,e,_⟩:=pl;exact Yae e
  refine Qc (s:={ s1 with heap:=s1.heap.push (Bs X.w) }) (show X.A.in1.in1.handled=none from hd) (Heap.IsTuple.push pl _) (by simpa using i1) (by simpa using i2) (by omega) Jb (Yc4 (Yaj la)) λh2 tk l k1 S2 U2 K2 L2=>Ya5 ?_
  exact fin h2 tk l (λb o e=>k1 b o (Yaj (Yae e)) (Heap.get?_push_of_some _ e)) S2 U2 K2 (by omega)
end
end L2
namespace L2
open PySem PySem.Spec PySem.Calls PyProof.Rows
section
variable {prog:Program}{w:World}{A:Around}{E:Value->Shared->Prop}{s:Shared}{K:PySem.W.Frag}{env:Env}
end
section
variable {M:Model}{A A1:Around}{E E1:Value->Shared->Prop}{s:Shared}{base:Heap}{env:Env}{outer:List Env}{L e:Addr}{cls:Value}{d:Option Addr}{vs:Array Value}
end
section
variable {X:Cx}{y:Str}{p pos c9:Pos}{C:Addr}{EX:AX}
end
section
variable {P:Program}{w:World}{K:PySem.W.Frag}{mg:Str->Option Value}{base:Heap}
end
section
variable {X:Cx}{k:Nat}
end
section
variable {X:Cx}{x:Str}{p pos:Pos}{e:Expr}{es:List Expr}{t:AA}{k:Nat}{ps:List Str}{sp:ASp}
end
section
variable {X:Cx}{k:Nat}
end
end L2
namespace L2
open PySem PySem.Spec PySem.Calls PyProof.Rows PySem.W
section
variable {prog:Program}{w:World}{A:Around}{E:Value->Shared->Prop}{s:Shared}
end
end L2
namespace L2
open PySem PySem.Spec PySem.Calls PyProof.Rows
section
variable {X:Cx}{k:Nat}
def Qkj:AV->AC:=λx xs μ R=>match x,xs with
 | .D (.str z),[.D (.str y)]=>(y.length==0)=false/\z.length<=1000000/\∀p,μ p=none->R (.R p) (Bh μ p (.lst ((Txt.split z y).map λw=>.D (.str w))))
 | _,_=>False
def Qha:A2:=λx y μ R=>match x,y with
 | .D (.tuple d),.D (.tuple e)=>B7 (.tuple d)/\B7 (.tuple e)/\cmpb (.tuple d) (.tuple e)=true/\R (.D (.bool (E7 (.tuple d) (.tuple e)))) μ
 | _,_=>False
theorem Qhb(hr:Room k X.A):VOp X (compareOp .Lt) Qha:=by
 intro aa s σ H x y v u Q I rx ry zz
 refine Dt zz λa b μ R ra rb hc h hq=>?_
 unfold Qha at h
 split at h
 ·obtain⟨h1,h2,h3,h⟩:=h
  obtain⟨as,r1⟩:=Ct I hc ra rx rfl
  obtain⟨bs,r2⟩:=Ct I hc rb ry rfl
  have hu:=hr.un
  have:=h1.2
  exact Iv _ _ X.A s _ _ as bs r1 r2 h1.1 h2.1 h3 (by omega) X.prog X.w X.xe _ ⟨.bl _,H,I,rfl,hq _ _ _ _ Kp.refl hc Cv h⟩
 ·exact h.elim
end
end L2
namespace L2
open PySem PySem.Spec PySem.Calls PyProof.Rows PySem.W
section
variable {prog:Program}{w:World}{A:Around}{E:Value->Shared->Prop}{s:Shared}{R:Result->Shared->Prop}
theorem Xe:typeLookup (.type "reversed") "__len__" = pure none:=by rw [Ycy,Ybz];kernel_rfl
theorem Qac:typeLookup (.type "reversed") "__length_hint__" = pure (some (.builtin "reversed.__length_hint__")):=by rw [Ycy,Ybz];kernel_rfl
theorem Jn{h h':Heap}{a:Addr}{items:Array Value}(x:IsTup h a items)(e:∀o,h.get? a=some o->h'.get? a=some o):IsTup h' a items:=let⟨o,ho,r⟩:=x;⟨o,e o ho,r⟩
def Qkk(it t:Addr)(items:Array Value)(i:Nat)(h:Heap):Prop:=i<=items.size/\Dp h it t ((items.size:Int) - 1 - i)/\IsTup h t items
theorem Ty(hh:A.handled=none)(it t:Addr)(ar:t≠it)(items:Array Value)(hz:items.size<=1000):Walks prog w A it [it,t] [it] items.size (λi v=>items[items.size - 1 - i]?=some v) (Qkk it t items) where
 sub:=λb hb=>by simp at hb;simp [hb]
 frame:=λi h h' st hk=>⟨st.1,st.2.1.at λo e=>hk it (by simp) o e,Jn st.2.2 λo e=>hk t (by simp) o e⟩
 item:=λi s Q E hi st hQ=>by
  obtain⟨h1,h2,h3⟩:=st
  rw [show(items.size:Int) - 1 - i=((items.size - 1 - i:Nat):Int) by omega]at h2
  have hx:=Array.getElem?_eq_getElem (show items.size - 1 - i < items.size by omega)
  refine Nr h2 h3 hx ar (by omega) λh' tk r' sb=>hQ _ h' tk hx ⟨hi,?_,Jn h3 λo e=>(sb.2 t ar).trans e⟩ λb o hb e=>(sb.2 b (by simpa using hb)).trans e
  rw [show(items.size:Int) - 1 - ((i+1:Nat):Int)=((items.size - 1 - i:Nat):Int) - 1 by omega]
  exact r'
 done:=λs Q E st hQ=>by
  obtain⟨h1,h2,h3⟩:=st
  rw [show(items.size:Int) - 1 - (items.size:Int)=-1 by omega]at h2
  exact Pl hh h2 λh' ex=>hQ h' s.toks λb o hb e=>ex b o (by simpa using hb) e
 self:=λi s Q E st hQ=>Wp st.2.1 hQ
theorem Qad(self:Value):bindSpecial (.builtin "reversed.__length_hint__") self=pure (.builtin "reversed.__length_hint__",[self]):=by kernel_rfl
theorem Xf:Slot "reversed" "__length_hint__" "reversed.__length_hint__" := .of (owner := "reversed") (n := "__length_hint__") (by rw [Ycy,Ybz];kernel_rfl) (by decide +kernel) (by decide +kernel) (by decide +kernel) (.inr (by decide +kernel)) (by rw [Ycg];kernel_rfl)
theorem Tz:entryFor table "reversed.__length_hint__" = some Builtin.«reversed.__length_hint__»:=Yfd (by kernel_rfl)
theorem Xg(a:Value):argsOk "reversed.__length_hint__" ⟨[a],[]⟩:=by kernel_rfl
theorem Xh{I t:Addr}{items:Array Value}{Q:Bool->Shared->Prop}(hI:Dp s.heap I t ((items.size:Int) - 1))(ht:IsTup s.heap t items)(hz:items.size<=1000)(h:∀tk,Q ((items.size:Int) != 0) { s with toks:=tk }):wpAny (model prog w) A (Builtin.List.listLengthHint (.ref I)) Q E s:=by
 obtain⟨o,ho,hc,hd⟩:=id hI
 unfold Builtin.List.listLengthHint
 refine Yaa (Ych hI.typeIs Xe (show wpAny _ A (specialOf (Value.ref I) (Str.ofString "__length_hint__") >>= _) _ _ _ from Yaa (Ych hI.typeIs Qac ?_)))
 generalize v9:("reversed.__length_hint__" : String)=id0
 wp_delta
 rw [show splitId id0=some ("reversed","__length_hint__") from by subst v9;decide +kernel]
 subst v9
 refine Yaa (Ycj (b:=true) hI.typeIs (by rw [Ycg];kernel_rfl) ?_)
 rw [show(!true)=false from rfl,Yah Yad]
 refine Ydj (λjn=>absurd jn (by decide)) λ_=>?_
 refine Yaa (Yb8 (Yaa (Ycr (Qad _) ?_)))
 dsimp only
 refine Yaa (Ycv (Ybb Xf hI.typeIs Tz ?_ (Xg _)))
 rw [Builtin.«reversed.__length_hint__»]
 refine Yaa (Ycr (a:=Value.ref I) rfl (Yaa (Ya7 ho hd (x:=.ref t) rfl ?_)))
 rw [Yah (show ¬((Value.ref t==Value.none)=true) from Yad)]
 refine Yaa (PyProof.Rows.len_tuple ht (by omega) (Yaa (Ycr (a:=some (items.size:Int)) rfl ?_)))
 dsimp only
 refine Yaa (Ya7 (s:={ s with toks:=_ }) ho hd (x:=rawInt ((items.size:Int) - 1)) rfl ?_)
 refine(show wpAny _ _ (if(items.size:Int) < (items.size:Int) - 1+1 then _ else retInt ((items.size:Int) - 1+1)) _ _ _ from ?_)
 rw [Yah (by omega),show(items.size:Int) - 1+1=items.size by omega]
 unfold retInt
 have gp:Builtin.List.listFitsIndex (items.size:Int)=true:=by
  simp only [Builtin.List.listFitsIndex,Bool.and_eq_true,decide_eq_true_iff]
  omega
 have jt:Builtin.List.listTooLong (items.size:Int).toNat=false:=by
  have h0:(1000:Nat)<=sizeLine:=by decide
  unfold Builtin.List.listTooLong
  exact Yau (by rw [Yey];omega)
 have h00:¬(items.size:Int) < 0:=by omega
 generalize (items.size:Int)=k at h gp jt h00 ⊢
 refine Yaa (wpAny_mkInt (Yab ⟨_,rfl,?_⟩))
 dsimp only
 refine Yaa (Ycr (a:=some k) rfl ?_)
 dsimp only
 rw [gp,show(!true)=false from rfl,Yah Yad,Yah h00,jt,Yah Yad]
 exact Yab (h _)
variable {I:Addr}{fp wr:List Addr}{G:Array GenState->Array GenState->Prop}{n:Nat}{P:Nat->Value->Prop}{St:Nat->Shared->Prop}
set_option maxRecDepth 100000 in
theorem N8{t:Addr}{items:Array Value}{Q:List Value->Shared->Prop}(hh:A.handled=none)(hI:Dp s.heap I t ((items.size:Int) - 1))(ht:IsTup s.heap t items)(ar:t≠I)(hz:items.size<=1000)
  (hQ:∀h' tk,(∀b o,b≠I->s.heap.get? b=some o->h'.get? b=some o)->s.heap.objs.size<=h'.objs.size->Q items.toList.reverse { s with heap:=h',toks:=tk }) :
  wpAny (model prog w) A (collect (.ref I)) Q E s:=by
 have lI:I < s.heap.objs.size:=by obtain⟨o,e,_⟩:=hI;exact Yae e
 have lt:t < s.heap.objs.size:=by obtain⟨o,e,_⟩:=ht;exact Yae e
 unfold collect;refine Yaa (Yd3 (Ycm F.entry_proto_collect ?_))
 rw [Yb5 F.plain_proto_collect _];refine(show wpAny _ A.in1 (newList [] >>= λl=>again (.builtin "list.__iadd__" ⟨[l,.ref I],[]⟩)) _ _ s from Yaa (Ya1 (Yab ⟨Yc3 F.plain_list_iadd _,Ycm F.entry_list_iadd ?_⟩)))
 rw [Yb5 F.plain_list_iadd _]
 generalize po:s.heap.push { cls:=.type "list",data:=.seq ([]:List Value).toArray }=h1
 have k1:∀b o,s.heap.get? b=some o->h1.get? b=some o:=λb o e=>by subst po;exact Heap.get?_push_of_some _ e
 have z1:h1.objs.size=s.heap.objs.size+1:=by subst po;exact Yb4 ..
 generalize hS:s.heap.objs.size=S at lI lt z1 hQ ⊢
 have eS:h1.get? S=some { cls:=.type "list",data:=.seq #[] }:=by subst po;subst hS;exact Heap.get?_push_size _ rfl
 have I1:Dp h1 I t ((items.size:Int) - 1):=hI.at λo e=>k1 _ _ e
 have t1:IsTup h1 t items:=Jn ht λo e=>k1 _ _ e
 have zo:S≠I:=Ydv lI
 have kr:Builtin.List.listSameRef (.ref S) (.ref I)=false:=by simp [Builtin.List.listSameRef,zo]
 refine(show wpAny _ A.in1 (Builtin.List.listExtendWith (.ref S) (.ref I) (.ref S)) _ _ { s with heap:=h1 } from ?_)
 unfold Builtin.List.listExtendWith
 refine Yaa (Ydw (s:={ s with heap:=h1 }) I1.typeIs (Ydj (λjn=>absurd jn (by rw [kr];decide)) λ_=>Yaa (Wp (s:={ s with heap:=h1 }) I1 (Yaa (Ya4 (Xh (s:={ s with heap:=h1 }) I1 t1 hz λtk=>?_))))))
 have fin:∀(h4:Heap) (c:Nat),(∀b o,b≠S->h1.get? b=some o->h4.get? b=some o)->h4.get? S=some { cls:=.type "list",dict:=none,data:=.seq #[] c,slots:=#[] }->S+1<=h4.objs.size ->
   codeAny (model prog w) A (.builtin "list.extend.loop" ⟨[.ref S,.ref I,.ref S],[]⟩) (λr s'=>match r with
    | .ok (.ret v)=>wpAny (model prog w) A (match v with
     | .ref a=>do
      let o <- load a
      match o.data with
       | .seq xs _=>pure xs.toList
       | _=>unsupported "internal:collect"
     | _=>unsupported "internal:collect") Q E s'
    | .ok _=>False
    | .error e=>E e s') { s with heap:=h4,toks:=tk }:=λh4 c k4 e4 z4=>by
  have W:=(Ty (prog:=prog) (w:=w) (A:=A.in1) hh I t ar items hz).toS
  refine codeAny_extend_loopS W (Yas hz (by decide)) S (by simp [zo,Nat.ne_of_gt lt]) (.ref S) items.size 0 { s with heap:=h4,toks:=tk } #[] c (by omega) (Ya6 _) ⟨Ya6 _,?_,?_⟩ e4 (ItemsOf.nil _) λs' fg c' hm qp gq=>?_
  ·rw [Int.natCast_zero,Int.sub_zero]
   exact I1.at λo e=>k4 _ _ (Yc4 zo) e
  ·exact Jn t1 λo e=>k4 _ _ (Yaj lt) e
  ·obtain⟨h',g',d',t',o'⟩:=s'
   have eg:g'=s.gens:=hm.gens
   have ed:d'=s.drawn:=hm.drawn
   have eo:o'=s.os:=hm.os
   subst eg ed eo
   refine Yaa (wpAny_load qp (Yab ?_))
   have hl:fg.toList=items.toList.reverse:=by
    refine Yd0 λj=>?_
    by_cases hj:j < items.size
    ·have h1:j < fg.size:=by rw [gq.1];exact hj
     have h2:=gq.2 j fg[j] (Array.getElem?_eq_getElem h1)
     rw [List.getElem?_reverse (by simpa using hj),Array.getElem?_toList,Array.getElem?_toList,Array.getElem?_eq_getElem h1,Yal]
     exact h2.symm
    ·rw [List.getElem?_eq_none (by rw [Yal,gq.1];omega),List.getElem?_eq_none (by rw [Yeb,Yal];omega)]
   rw [hl]
   have lS:S < h'.objs.size:=Yae qp
   refine hQ h' t' (λb o hb e=>hm.heap b o ?_ (k4 b o ?_ (k1 b o e))) (Yco lS)
   ·have lb:=Yae e
    simp only [List.mem_cons,List.not_mem_nil,or_false,not_or]
    exact⟨by rw [<- hS];exact Yaj lb,hb⟩
   ·have lb:=Yae e
    rw [<- hS];exact Yaj lb
 refine Ydj (λ_=>?_) λ_=>?_
 ·refine Yaa (Yb8 (Yaa (show wpAny _ _ (updateSeq S (·.push .none) >>= λ_=>updateSeq S (·.pop)) _ _ _ from Yaa (Yfm eS rfl (Yfm (Heap.get?_update_self (Obj.mapSeq (·.push Value.none)) eS rfl) rfl ?_)))))
  have e4:=Heap.get?_update_self (Obj.mapSeq (·.pop)) (Heap.get?_update_self (Obj.mapSeq (·.push Value.none)) eS rfl) rfl
  refine Yab ⟨Yc3 F.plain_extend_loop _,fin _ _ (λb o hb e=>(Heap.get?_update_other _ _ (Yc4 hb)).trans ((Heap.get?_update_other _ _ (Yc4 hb)).trans e)) e4 ?_⟩
  rw [Ydq,Ydq]
  show S+1<=h1.objs.size
  omega
 ·exact Yab ⟨Yc3 F.plain_extend_loop _,fin h1 0 (λ_ _ _ e=>e) eS (by omega)⟩
theorem T0(I t:Addr)(items:Array Value)(ar:t≠I)(hz:items.size<=1000) :
  MeetsIn prog w (Builtin.«tuple.__new__» ⟨[.type "tuple",.ref I],[]⟩) (λA R s=>A.handled=none/\Dp s.heap I t ((items.size:Int) - 1)/\IsTup s.heap t items /\
   ∀(h':Heap) (tk:Nat),(∀b o,b≠I->s.heap.get? b=some o->h'.get? b=some o)->s.heap.objs.size<=h'.objs.size ->
    R (.ok (.ret (.ref h'.objs.size))) { s with heap:=h'.push { cls:=.type "tuple",data:=.seq items.toList.reverse.toArray },toks:=tk }) :=
 .of_wp λA R s h=>by
  obtain⟨hp,g,dr,tk,os⟩:=s
  obtain⟨hh,hI,ht,h⟩:=h
  have q1:=sub_tuple_self
  have q2:=init_tuple_lookup
  have q3:=madeHere_tuple
  obtain⟨o,ho,hc,hd⟩:=id hI
  have hT:Shared.TypeIs ⟨hp,g,dr,tk,os⟩ (.ref I) "reversed" := ⟨o,ho,hc⟩
  wp_walk using Yeo ho,Ydw hT,N8 (A:=A.in1) (s:=⟨hp,g,dr,tk,os⟩) hh hI ht ar hz
  intro h' tk1 hk bz
  have ak:items.toList.reverse.toArray.size<=sizeLine:=by
   simp
   exact Yas hz (show 1000<=sizeLine by decide)
  refine(show wpAny _ _ (Builtin.Tuple.tupleExact items.toList.reverse.toArray >>= λv=>ret v) _ _ _ from ?_)
  unfold Builtin.Tuple.tupleExact
  exact Yaa (Ya1 (Yab ⟨_,rfl,h h' tk1 hk bz⟩) ak)
end
section
variable {X:Cx}
def Qhc(te:AE):AE:=fun τ μ R=>te τ μ λx μ1=>match x with
 | .D (.tuple ds)=>ds.length<=900/\R (.D (.tuple ds.reverse)) μ1
 | _=>False
theorem Rv{e:Expr}{te:AE}{p p2 pos bx:Pos}(hc:X.calm=true)(hg:Gl X "tuple") (hm:X.mg "tuple" = none) (gu:Gl X "reversed") (fy:X.mg "reversed" = none) (he:VE X e te)
  (hs:starEach [.Call (.Name "reversed" p2) [e] [] bx] X.env=[(false,eval (.Call (.Name "reversed" p2) [e] [] bx) X.env)]:=by rfl) (cv:starEach [e] X.env=[(false,eval e X.env)]:=by rfl) :
  VE X (.Call (.Name "tuple" p) [.Call (.Name "reversed" p2) [e] [] bx] [] pos) (Qhc te):=by
 intro aa s σ H Q I zz
 refine B0 zz fun τ μ R ay hcn h hq=>?_
 refine Yav (Bw I hg hm boot_tuple (Yay ?_ hs rfl))
 rw [hs]
 refine Yar (Yav (Bw I gu fy boot_reversed (Yay ?_ cv rfl)))
 rw [cv]
 refine Yar (Ybk (he.run I ay hcn h) (λu s1 iq=>Ui iq λx v μ1 H1 I1 rv S1 c1 rx h1=>Ya5 ?_) λ_ _ e=>e)
 split at h1
 ·rename_i ds
  obtain⟨hl9,h1⟩:=h1
  obtain⟨a,xs,rfl,ha,hd⟩:=Dk.tup (K:=X.K) (H:=H1) rx
  cases rv
  obtain⟨af,r1,pt,hz⟩:=I1.tuple ha.sq
  have l1:=r1.length
  have l2:=hd.length
  have bz:af.toArray.size<=1000:=by rw [Yan];omega
  refine E8 (show IsTup s1.heap a af.toArray from pt) (by omega) λtk=>Ya5 ?_
  have la:a < s1.heap.objs.size:=by obtain⟨o,e,_⟩:=pt;exact Yae e
  have kz:∀b o,s1.heap.get? b=some o->(s1.heap.push (Wn a ((af.toArray.size:Int) - 1))).get? b=some o:=λb o e=>Heap.get?_push_of_some _ e
  refine callType_newIn F.called_tuple (by decide) (F.typeCall_tuple_1 _) (F.newCall_tuple_1 _) (λobj=>F.args_object_init_2 obj _) F.entry_tuple_new
   (T0 s1.heap.objs.size a af.toArray (Yaj la) bz) ⟨I.ok.hd hc,⟨_,Heap.get?_push_size _ rfl,rfl,rfl⟩,Jn pt λo e=>kz a o e,λh3 tk3 hk zbz=>⟨⟨_,Heap.get?_push_size _ rfl,rfl⟩,?_⟩⟩
  have kk:∀b o,s1.heap.get? b=some o->h3.get? b=some o:=λb o e=>hk b o (Yaj (Yae e)) (kz b o e)
  have I3:Inv X aa σ H1 { s1 with heap:=h3,toks:=tk3 }:=I1.kept kk
  have hn:=I3.hok.fresh (Yaf h3.objs.size)
  refine⟨.ref h3.objs.size,_,I3.laid (o:=.tup xs.reverse) (t':=tk3) (λb o e=>Heap.get?_push_of_some _ e) (Yaf _) ⟨by rw [Yeb];exact hz,af.reverse,Py r1,IsTup.new _ _⟩,rfl,?_⟩
  exact hq (.D (.tuple ds.reverse)) _ _ _ (S1.trans (Kp.new hn _)) (c1.over hn) (Ly (K:=X.K) A9 (Ak.kp (Kp.new hn _) _ _ (Qd0 hd))) h1
 ·exact h1.elim
end
end L2
namespace L2
open PySem
def Qd8(A:Around)(s:Shared)(u v:Value)(b:Bool):Prop:=∀(prog:Program) (w:World) (E:Value->Shared->Prop) (Q:Value->Shared->Prop),Q (.bool b) s->wpAny (model prog w) A (richCompare .LtE u v) Q E s
inductive LexL (A:Around) (s:Shared):List Value->List Value->Bool->Prop
 | nil {ys:List Value}:LexL A s [] ys (decide (0<=ys.length))
 | stop {x:Value} {xs:List Value}:LexL A s (x :: xs) [] false
 | eq {x y:Value} {xs ys:List Value} {r:Bool}:SeqAt.EqAt A s x y true->LexL A s xs ys r->LexL A s (x :: xs) (y :: ys) r
 | ne {x y:Value} {xs ys:List Value} {r:Bool}:SeqAt.EqAt A s x y false->Qd8 A s x y r->LexL A s (x :: xs) (y :: ys) r
section
variable {prog:Program}{w:World}{A:Around}{E:Value->Shared->Prop}{s:Shared}
theorem LexL.ends{xs ys:List Value}{r:Bool}(h:LexL A s xs ys r)(e:xs.zip ys=[]):r=decide (xs.length<=ys.length):=by
 cases h with
 | nil=>simp
 | stop=>simp
 | eq=>simp at e
 | ne=>simp at e
theorem J6{a b:Addr}{oa ob:Obj}{xs ys:Array Value}{n k:Nat}{P:PySem.Fin->Shared->Prop}{r:Bool}(ha:s.heap.get? a=some oa)(hb:s.heap.get? b=some ob)(cb:ob.cls=.type "tuple") (da:oa.data=.seq xs n) (db:ob.data=.seq ys k)
  (h:LexL A s xs.toList ys.toList r) (q:P (.done (.ret (.bool r))) s):wpAny (model prog w) A (Builtin.«tuple.__le__» ⟨[.ref a,.ref b],[]⟩) P E s:=by
 have tb:s.TypeIs (.ref b) "tuple" := ⟨ob,hb,cb⟩
 refine(show wpAny _ _ (isInstance (.ref b) (.type "tuple") >>= _) _ _ s from Yaa (Ycj tb Ye8 ?_))
 rw [show(!true)=false from rfl,Yah Yad]
 refine Yaa (Ydu ha da (Yaa (Ydu hb db (Yaa ?_))))
 refine Yc8 _ (λleft aj s1=>aj.1=none/\s1=s/\∃us vs,left=List.zip us vs/\LexL A s us vs r/\decide (us.length<=vs.length)=decide (xs.size<=ys.size)) _ ?_ ?_ _ _ ⟨rfl,rfl,xs.toList,ys.toList,rfl,h,by simp⟩
 ·rintro⟨u,v⟩ left aj s1 ⟨ea,rfl,us,vs,ez,hl,hn⟩
  cases hl with
  | nil=>simp at ez
  | stop=>simp at ez
  | eq h1 h2 =>
   simp only [List.zip_cons_cons,List.cons.injEq,Prod.mk.injEq]at ez
   obtain⟨⟨rfl,rfl⟩,rfl⟩:=ez
   refine Yaa (h1 prog w _ _ ?_)
   dsimp only
   rw [show(!true)=false from rfl,Yah Yad]
   exact Yab ⟨rfl,rfl,_,_,rfl,h2,by simpa using hn⟩
  | ne h1 h2 =>
   simp only [List.zip_cons_cons,List.cons.injEq,Prod.mk.injEq]at ez
   obtain⟨⟨rfl,rfl⟩,rfl⟩:=ez
   refine Yaa (h1 prog w _ _ ?_)
   simp only [Bool.not_false,if_true]
   exact Yaa (Yb8 (Yaa (h2 prog w _ _ (Yaa (Yab (Yab (Yab q)))))))
 ·rintro⟨a1,a2⟩ s1 ⟨ea,rfl,us,vs,ez,hl,hn⟩
  simp only at ea
  subst ea
  have e:=hl.ends ez.symm
  rw [e,hn]at q
  exact Yab q
theorem Qe{a b:Addr}{oa ob:Obj}{xs ys:Array Value}{n k:Nat}{r:Bool}(ha:s.heap.get? a=some oa)(hb:s.heap.get? b=some ob)(ca:oa.cls=.type "tuple") (cb:ob.cls=.type "tuple") (da:oa.data=.seq xs n) (db:ob.data=.seq ys k)
  (hu:A.units < cLine) (h:LexL A.in1 s xs.toList ys.toList r):Qd8 A s (.ref a) (.ref b) r:=λprog w E Q q =>
 wpAny_richCompare_same_room (T := "tuple") ⟨oa,ha,ca⟩ ⟨ob,hb,cb⟩ F.slot_tuple_le (Ybb F.slot_tuple_le ⟨oa,ha,ca⟩ F.entry_tuple_le (J6 ha hb cb da db h ⟨_,rfl,(λz=>nomatch z),q⟩) (F.args_tuple_le_2 _ _)) hu
end
mutual
def T1:PyData->PyData->Bool
 | .int a,.int b=>decide (a<=b)
 | .tuple xs,.tuple ys=>Gd xs ys
 | _,_=>false
def Gd:List PyData->List PyData->Bool
 | [],_=>true
 | _ :: _,[]=>false
 | x :: xs,y :: ys=>if PyData.eqv x y then Gd xs ys else T1 x y
end
mutual
theorem Jo:∀(x y:PyData) (A:Around) (s:Shared) (u v:Value) (as bs:List Addr),Reads s.heap u x as->Reads s.heap v y bs->x.canLay0=true->y.canLay0=true->cmpb x y=true->A.units+min x.depth y.depth < cLine->Qd8 A s u v (T1 x y)
 | .int a,.int b,A,s,u,v,as,bs,r1,r2,_,_,_,_=>by
  cases r1;cases r2
  intro prog w E Q q
  have e:T1 (.int a) (.int b)=decide (a<=b):=by simp [T1]
  rw [e]at q
  exact PyProof.Rows.le_int q
 | .tuple xs,.tuple ys,A,s,u,v,as,bs,r1,r2,c1,c2,hc,hu=>by
  cases r1 with
  | tuple a1 a2 a3 a4 =>
   cases r2 with
   | tuple b1 b2 b3 b4 =>
    have e:T1 (.tuple xs) (.tuple ys)=Gd xs ys:=by simp [T1]
    rw [e]
    simp only [PyData.canLay0]at c1 c2
    simp only [cmpb]at hc
    simp only [PyData.depth]at hu
    refine Qe a1 b1 a2 b2 a3 b3 (by omega) (Jp xs ys A.in1 s _ _ _ _ a4 b4 c1 c2 hc ?_)
    show A.units+1+_ < _
    omega
 | .int _,.none,_,_,_,_,_,_,_,_,_,_,h,_=>by simp [cmpb]at h
 | .int _,.bool _,_,_,_,_,_,_,_,_,_,_,h,_=>by simp [cmpb]at h
 | .int _,.str _,_,_,_,_,_,_,_,_,_,_,h,_=>by simp [cmpb]at h
 | .int _,.list _,_,_,_,_,_,_,_,_,_,_,h,_=>by simp [cmpb]at h
 | .int _,.tuple _,_,_,_,_,_,_,_,_,_,_,h,_=>by simp [cmpb]at h
 | .int _,.dict _,_,_,_,_,_,_,_,_,_,_,h,_=>by simp [cmpb]at h
 | .tuple _,.none,_,_,_,_,_,_,_,_,_,_,h,_=>by simp [cmpb]at h
 | .tuple _,.bool _,_,_,_,_,_,_,_,_,_,_,h,_=>by simp [cmpb]at h
 | .tuple _,.str _,_,_,_,_,_,_,_,_,_,_,h,_=>by simp [cmpb]at h
 | .tuple _,.list _,_,_,_,_,_,_,_,_,_,_,h,_=>by simp [cmpb]at h
 | .tuple _,.int _,_,_,_,_,_,_,_,_,_,_,h,_=>by simp [cmpb]at h
 | .tuple _,.dict _,_,_,_,_,_,_,_,_,_,_,h,_=>by simp [cmpb]at h
 | .none,_,_,_,_,_,_,_,_,_,_,_,h,_=>by simp [cmpb]at h
 | .bool _,_,_,_,_,_,_,_,_,_,_,_,h,_=>by simp [cmpb]at h
 | .str _,_,_,_,_,_,_,_,_,_,_,_,h,_=>by simp [cmpb]at h
 | .list _,_,_,_,_,_,_,_,_,_,_,_,h,_=>by simp [cmpb]at h
 | .dict _,_,_,_,_,_,_,_,_,_,_,_,h,_=>by simp [cmpb]at h
theorem Jp:∀(xs ys:List PyData) (A:Around) (s:Shared) (us vs:List Value) (as bs:List Addr),ReadsAll s.heap us xs as->ReadsAll s.heap vs ys bs->PyData.canLayAll0 xs=true->PyData.canLayAll0 ys=true->cmpbs xs ys=true->A.units+min (PyData.depthAll xs) (PyData.depthAll ys) < cLine->LexL A s us vs (Gd xs ys)
 | [],ys,A,s,us,vs,as,bs,r1,r2,_,_,_,_=>by
  cases r1
  have e:Gd [] ys=decide (0<=vs.length):=by
   cases r2 <;> simp [Gd]
  rw [e]
  exact .nil
 | x :: xs,[],A,s,us,vs,as,bs,r1,r2,_,_,_,_=>by
  cases r2
  cases r1 with
  | cons a1 a2 =>
   have e:Gd (x :: xs) []=false:=by simp [Gd]
   rw [e]
   exact .stop
 | x :: xs,y :: ys,A,s,us,vs,as,bs,r1,r2,c1,c2,hc,hu=>by
  simp only [PyData.canLayAll0,Bool.and_eq_true]at c1 c2
  simp only [PyData.depthAll]at hu
  cases r1 with
  | cons a1 a2 =>
   cases r2 with
   | cons b1 b2 =>
    have q:=Yd4 x y A s _ _ _ _ a1 b1 c1.1 c2.1 (Mh hu)
    simp only [cmpbs]at hc
    simp only [Gd]
    cases e:PyData.eqv x y with
    | true =>
     rw [e]at q hc
     exact .eq q (Jp xs ys A s _ _ _ _ a2 b2 c1.2 c2.2 hc (Wm hu))
    | false =>
     rw [e]at q hc
     exact .ne q (Jo x y A s _ _ _ _ a1 b1 c1.1 c2.1 hc (Mh hu))
end
end L2
namespace L2
open PySem PySem.Spec PySem.Calls PyProof.Rows
mutual
theorem Mn:∀(x y:PyData),Cano x=true->Cano y=true->cmpb x y=true->T1 x y=!E7 y x
 | .int a,.int b,_,_,_=>by
  simp only [T1,E7]
  rw [Yen]
  simp
 | .tuple xs,.tuple ys,hx,hy,hc=>by
  simp only [T1,E7]
  simp only [Cano]at hx hy
  simp only [cmpb]at hc
  exact N9 xs ys hx hy hc
 | .int _,.none,_,_,h=>by simp [cmpb]at h
 | .int _,.bool _,_,_,h=>by simp [cmpb]at h
 | .int _,.str _,_,_,h=>by simp [cmpb]at h
 | .int _,.list _,_,_,h=>by simp [cmpb]at h
 | .int _,.tuple _,_,_,h=>by simp [cmpb]at h
 | .int _,.dict _,_,_,h=>by simp [cmpb]at h
 | .tuple _,.none,_,_,h=>by simp [cmpb]at h
 | .tuple _,.bool _,_,_,h=>by simp [cmpb]at h
 | .tuple _,.str _,_,_,h=>by simp [cmpb]at h
 | .tuple _,.list _,_,_,h=>by simp [cmpb]at h
 | .tuple _,.int _,_,_,h=>by simp [cmpb]at h
 | .tuple _,.dict _,_,_,h=>by simp [cmpb]at h
 | .none,_,_,_,h=>by simp [cmpb]at h
 | .bool _,_,_,_,h=>by simp [cmpb]at h
 | .str _,_,_,_,h=>by simp [cmpb]at h
 | .list _,_,_,_,h=>by simp [cmpb]at h
 | .dict _,_,_,_,h=>by simp [cmpb]at h
theorem N9:∀(xs ys:List PyData),Aj xs=true->Aj ys=true->cmpbs xs ys=true->Gd xs ys=!Ck ys xs
 | [],[],_,_,_=>by simp [Gd,Ck]
 | [],_ :: _,_,_,_=>by simp [Gd,Ck]
 | _ :: _,[],_,_,_=>by simp [Gd,Ck]
 | x :: xs,y :: ys,hx,hy,hc=>by
  simp only [Aj,Bool.and_eq_true]at hx hy
  simp only [cmpbs]at hc
  simp only [Gd,Ck]
  by_cases e:x=y
  ·subst e
   rw [Dz x hx.1,Yak rfl,Yak rfl]
   rw [Dz x hx.1,Yak rfl]at hc
   exact N9 xs ys hx.2 hy.2 hc
  ·have e1:PyData.eqv x y=false:=by rw [Ga hx.1 hy.1];exact Yau e
   have e2:PyData.eqv y x=false:=by rw [Ga hy.1 hx.1];exact Yau (Yc4 e)
   rw [e1,Yah Yad]at hc
   rw [e1,e2,Yah Yad,Yah Yad]
   exact Mn x y hx.1 hy.1 hc
end
section
variable {X:Cx}{k:Nat}
def Qhd:A2:=λx y μ R=>match x,y with
 | .D (.tuple d),.D (.tuple e)=>B7 (.tuple d)/\B7 (.tuple e)/\cmpb (.tuple d) (.tuple e)=true/\R (.D (.bool (T1 (.tuple d) (.tuple e)))) μ
 | _,_=>False
theorem Qhe(hr:Room k X.A):VOp X (compareOp .LtE) Qhd:=by
 intro aa s σ H x y v u Q I rx ry zz
 refine Dt zz λa b μ R ra rb hc h hq=>?_
 unfold Qhd at h
 split at h
 ·obtain⟨h1,h2,h3,h⟩:=h
  obtain⟨as,r1⟩:=Ct I hc ra rx rfl
  obtain⟨bs,r2⟩:=Ct I hc rb ry rfl
  have hu:=hr.un
  have:=h1.2
  exact Jo _ _ X.A s _ _ as bs r1 r2 h1.1 h2.1 h3 (by omega) X.prog X.w X.xe _ ⟨.bl _,H,I,rfl,hq _ _ _ _ Kp.refl hc Cv h⟩
 ·exact h.elim
end
end L2
namespace L2
open PySem PySem.Spec PyProof.Rows
abbrev Src(prog:Program)(w:World)(i l:Addr)(xs:Array Value)(St:Nat->Heap->Prop):Prop:=∀A:Around,A.handled=none->Draws prog w A i [i,l] xs.size (λk v=>xs[k]?=some v) St
theorem Src.keep{prog:Program}{w:World}{i l:Addr}{xs:Array Value}{St:Nat->Heap->Prop}(S:Src prog w i l xs St){k:Nat}{h h':Heap}(st:St k h)(h1:∀o,h.get? i=some o->h'.get? i=some o)(h2:∀o,h.get? l=some o->h'.get? l=some o):St k h' :=
 (S {} rfl).frame k h h' st λb hb o e=>by
  rcases Yat.mp hb with rfl | hb
  ·exact h1 o e
  ·rw [Ya8.mp hb]at e ⊢;exact h2 o e
theorem Src.live{prog:Program}{w:World}{i l:Addr}{xs:Array Value}{St:Nat->Heap->Prop}(S:Src prog w i l xs St){k:Nat}{h:Heap}(st:St k h):∃o,h.get? i=some o:=(S {} rfl).live k h st
section
variable {prog:Program}{w:World}{A:Around}{E:Value->Shared->Prop}{s:Shared}{z TI TO i1 i2 l1 l2:Addr}{xs ys:Array Value}{St1 St2:Nat->Heap->Prop}{k:Nat}
theorem Xi{a b:Value}{Q:Value->Shared->Prop}(hh:A.handled=none)(D:ZipApart z TI TO i1 i2 l1 l2)(S1:Src prog w i1 l1 xs St1)(S2:Src prog w i2 l2 ys St2)(hz:IsZip s.heap z TI TO .none)(yi:IsPair s.heap TI (.ref i1) (.ref i2))(hTO:IsPair s.heap TO a b)
  (h1:St1 k s.heap) (h2:St2 k s.heap) (hx:k < xs.size) (hy:k < ys.size)
  (hQ:∀h' tk x y,xs[k]?=some x->ys[k]?=some y->IsZip h' z TI TO (rawInt s.heap.objs.size)->IsPair h' TO x y->St1 (k+1) h'->St2 (k+1) h'->IsPair h' s.heap.objs.size x y->(∀c o,c≠z->c≠TO->c≠i1->c≠i2->s.heap.get? c=some o->h'.get? c=some o)->Q (.ref s.heap.objs.size) { s with heap:=h',toks:=tk }) :
  wpAny (model prog w) A (Builtin.«zip.__next__» ⟨[.ref z],[]⟩) (λfin s'=>∃v,fin=.done (.ret v)/\Q v s') E s:=by
 refine(show wpAny _ _ (field (.ref z) 2 >>= _) _ _ _ from Yaa (Ya7 hz rfl (x:=.bool false) rfl (show wpAny _ _ (field (.ref z) 3 >>= _) _ _ _ from Yaa (Ya7 hz rfl (x:=.ref TI) rfl (Yaa (Ycb yi rfl (show wpAny _ _ (Builtin.SmallTypes.ownedTupleIsFree (.ref z) >>= _) _ _ _ from Yaa ?_)))))))
 unfold Builtin.SmallTypes.ownedTupleIsFree
 refine Yaa (Ya7 hz rfl (x:=.none) rfl (Yab ?_))
 rw [Yak rfl]
 refine Yaa (Yb8 (Yaa (Ya7 hz rfl (x:=.ref TO) rfl (Yaa (Ydc hz (by simp) λg1 e1 k1=>Yaa ?_)))))
 have z1:IsZip g1 z TI TO .ellipsis:=e1
 have a1:St1 k g1:=S1.keep h1 (λo e=>k1.extBut _ _ D.i1z e) (λo e=>k1.extBut _ _ D.l1z e)
 simp only [List.zipIdx_cons,List.zipIdx_nil,List.forIn_cons,List.forIn_nil]
 refine Yaa (Yaa (Yfh (show wpAny _ _ (Builtin.SmallTypes.nextOf (.ref i1) >>= _) _ _ _ from Yaa ((S1 A hh).item k _ _ _ hx a1 λx g2 tk2 ex b2 k2=>Yab ?_))))
 have o2:IsPair g2 TO a b:=k2.extBut _ _ D.TOi1 (k1.extBut _ _ D.TOz hTO)
 refine Yaa (Ycb o2 rfl (Yaa (Yfg o2 λg3 e3 k3=>Yaa (wpAny_letGo (Yab ?_)))))
 have o3:IsPair g3 TO x b:=e3
 have a3:St2 k g3:=S2.keep h2 (λo e=>k3.extBut _ _ D.TOi2.symm (k2.extBut _ _ D.i12.symm (k1.extBut _ _ D.i2z e))) (λo e=>k3.extBut _ _ D.l2TO (k2.extBut _ _ D.l2i1 (k1.extBut _ _ D.l2z e)))
 refine Yaa (Yaa (Yfh (show wpAny _ _ (Builtin.SmallTypes.nextOf (.ref i2) >>= _) _ _ _ from Yaa ((S2 A hh).item k _ _ _ hy a3 λy g4 tk4 ey b4 k4=>Yab ?_))))
 have o4:IsPair g4 TO x b:=k4.extBut _ _ D.TOi2 o3
 refine Yaa (Ycb o4 rfl (Yaa (Yfg o4 λg5 e5 k5=>Yaa (wpAny_letGo (Yab (Yab ?_))))))
 have o5:IsPair g5 TO x y:=e5
 refine Yaa (Ycb o5 rfl (Yaa (wpAny_newTuple ?_)))
 have sz:g5.objs.size=s.heap.objs.size:=by rw [k5.1,k4.1,k3.1,k2.1,k1.1]
 have z5:IsZip g5 z TI TO .ellipsis:=k5.extBut _ _ D.TOz.symm (k4.extBut _ _ D.i2z.symm (k3.extBut _ _ D.TOz.symm (k2.extBut _ _ D.i1z.symm z1)))
 have up5:∀c o,c≠z->c≠TO->c≠i1->c≠i2->s.heap.get? c=some o->g5.get? c=some o:=λc o c1 c2 c3 c4 e=>k5.extBut _ _ c2 (k4.extBut _ _ c4 (k3.extBut _ _ c2 (k2.extBut _ _ c3 (k1.extBut _ _ c1 e))))
 have lz:z < g5.objs.size:=Yae z5
 refine(show wpAny _ _ (Builtin.SmallTypes.ownedTupleHandOut (.ref z) (.ref g5.objs.size) >>= _) _ _ _ from Yaa ?_)
 unfold Builtin.SmallTypes.ownedTupleHandOut
 have z6:IsZip (g5.push { cls:=.type "tuple",data:=.seq #[x,y] }) z TI TO .ellipsis:=Heap.get?_push_of_some _ z5
 refine Yaa (Ydc z6 (by simp) λg7 e7 k7=>Ydc (show IsZip g7 z TI TO (rawInt g5.objs.size) from e7) (by simp) λg8 e8 k8=>Yab ⟨_,rfl,?_⟩)
 have pj:∀c o,c≠z->g5.get? c=some o->g8.get? c=some o:=λc o c1 e=>k8.extBut _ _ c1 (k7.extBut _ _ c1 (Heap.get?_push_of_some _ e))
 have t8:IsPair g8 g5.objs.size x y:=k8.extBut _ _ (Ydv lz) (k7.extBut _ _ (Ydv lz) (Heap.get?_push_size _ rfl))
 have z8:IsZip g8 z TI TO (rawInt g5.objs.size):=e8
 have b5:St1 (k+1) g5:=S1.keep b2 (λo e=>k5.extBut _ _ D.TOi1.symm (k4.extBut _ _ D.i12 (k3.extBut _ _ D.TOi1.symm e))) (λo e=>k5.extBut _ _ D.l1TO (k4.extBut _ _ D.l1i2 (k3.extBut _ _ D.l1TO e)))
 have c5:St2 (k+1) g5:=S2.keep b4 (λo e=>k5.extBut _ _ D.TOi2.symm e) (λo e=>k5.extBut _ _ D.l2TO e)
 show Q (.ref g5.objs.size) _
 rw [sz]at z8 t8 ⊢
 exact hQ g8 _ x y ex ey z8 (pj _ _ D.TOz o5) (S1.keep b5 (λo e=>pj _ o D.i1z e) (λo e=>pj _ o D.l1z e)) (S2.keep c5 (λo e=>pj _ o D.i2z e) (λo e=>pj _ o D.l2z e)) t8 λc o c1 c2 c3 c4 e=>pj c o c1 (up5 c o c1 c2 c3 c4 e)
theorem Qd9{a b:Value}{Q:PySem.Fin->Shared->Prop}(hh:A.handled=none)(D:ZipApart z TI TO i1 i2 l1 l2)(S1:Src prog w i1 l1 xs St1)(S2:Src prog w i2 l2 ys St2)(hz:IsZip s.heap z TI TO .none)(yi:IsPair s.heap TI (.ref i1) (.ref i2))(hTO:IsPair s.heap TO a b)
  (h1:St1 k s.heap) (h2:St2 k s.heap) (n8:k=xs.size\/k < xs.size/\k=ys.size)
  (hE:∀h' tk e,(∀c o,c≠z->c≠TO->c≠i1->c≠i2->s.heap.get? c=some o->h'.get? c=some o)->(∃o,h'.get? e=some o/\o.cls=.type "StopIteration")->E (.ref e) { s with heap:=h',toks:=tk }) :
  wpAny (model prog w) A (Builtin.«zip.__next__» ⟨[.ref z],[]⟩) Q E s:=by
 refine(show wpAny _ _ (field (.ref z) 2 >>= _) _ _ _ from Yaa (Ya7 hz rfl (x:=.bool false) rfl (show wpAny _ _ (field (.ref z) 3 >>= _) _ _ _ from Yaa (Ya7 hz rfl (x:=.ref TI) rfl (Yaa (Ycb yi rfl (show wpAny _ _ (Builtin.SmallTypes.ownedTupleIsFree (.ref z) >>= _) _ _ _ from Yaa ?_)))))))
 unfold Builtin.SmallTypes.ownedTupleIsFree
 refine Yaa (Ya7 hz rfl (x:=.none) rfl (Yab ?_))
 rw [Yak rfl]
 refine Yaa (Yb8 (Yaa (Ya7 hz rfl (x:=.ref TO) rfl (Yaa (Ydc hz (by simp) λg1 e1 k1=>Yaa ?_)))))
 have z1:IsZip g1 z TI TO .ellipsis:=e1
 have a1:St1 k g1:=S1.keep h1 (λo e=>k1.extBut _ _ D.i1z e) (λo e=>k1.extBut _ _ D.l1z e)
 simp only [List.zipIdx_cons,List.zipIdx_nil,List.forIn_cons,List.forIn_nil]
 rcases n8 with he | ⟨hx,he⟩
 ·rw [he]at a1
  refine Yaa (Yaa (Yfh (show wpAny _ _ (Builtin.SmallTypes.nextOf (.ref i1) >>= _) _ _ _ from Yaa ((S1 A hh).done _ _ _ a1 λg2 e k2 hS=>?_))))
  obtain⟨oe,hoe,hce⟩:=hS
  have z2:IsZip g2 z TI TO .ellipsis:=k2 _ _ D.i1z.symm z1
  have ne:e≠z:=λq=>by subst q;rw [z2]at hoe;cases hoe;simp at hce
  exact Ydc z2 (by simp) λg3 _ k3=>hE g3 _ e (λc o c1 _ c3 _ q=>k3.extBut _ _ c1 (k2 _ _ c3 (k1.extBut _ _ c1 q))) ⟨oe,k3.extBut _ _ ne hoe,hce⟩
 ·refine Yaa (Yaa (Yfh (show wpAny _ _ (Builtin.SmallTypes.nextOf (.ref i1) >>= _) _ _ _ from Yaa ((S1 A hh).item k _ _ _ hx a1 λx g2 tk2 ex b2 k2=>Yab ?_))))
  have o2:IsPair g2 TO a b:=k2.extBut _ _ D.TOi1 (k1.extBut _ _ D.TOz hTO)
  refine Yaa (Ycb o2 rfl (Yaa (Yfg o2 λg3 e3 k3=>Yaa (wpAny_letGo (Yab ?_)))))
  have a3:St2 k g3:=S2.keep h2 (λo e=>k3.extBut _ _ D.TOi2.symm (k2.extBut _ _ D.i12.symm (k1.extBut _ _ D.i2z e))) (λo e=>k3.extBut _ _ D.l2TO (k2.extBut _ _ D.l2i1 (k1.extBut _ _ D.l2z e)))
  rw [he]at a3
  refine Yaa (Yaa (Yfh (show wpAny _ _ (Builtin.SmallTypes.nextOf (.ref i2) >>= _) _ _ _ from Yaa ((S2 A hh).done _ _ _ a3 λg4 e k4 hS=>?_))))
  obtain⟨oe,hoe,hce⟩:=hS
  have z4:IsZip g4 z TI TO .ellipsis:=k4 _ _ D.i2z.symm (k3.extBut _ _ D.TOz.symm (k2.extBut _ _ D.i1z.symm z1))
  have ne:e≠z:=λq=>by subst q;rw [z4]at hoe;cases hoe;simp at hce
  exact Ydc z4 (by simp) λg5 _ k5=>hE g5 _ e (λc o c1 c2 c3 c4 q=>k5.extBut _ _ c1 (k4 _ _ c4 (k3.extBut _ _ c2 (k2.extBut _ _ c3 (k1.extBut _ _ c1 q))))) ⟨oe,k5.extBut _ _ ne hoe,hce⟩
end
def Uh:Bool->Heap->Addr->Array Value->Prop
 | false,h,l,xs=>h.IsList l xs
 | true,h,l,xs=>h.IsTuple l xs
def ItB:Bool->Heap->Addr->Addr->Nat->Prop
 | false,h,i,l,k=>h.IsListIter i l k
 | true,h,i,l,k=>h.IsTupleIter i l k
abbrev Qkl:Bool->String
 | false => "list_iterator"
 | true => "tuple_iterator"
theorem Uh.at{b:Bool}{h h':Heap}{l:Addr}{xs:Array Value}(x:Uh b h l xs)(k:∀o,h.get? l=some o->h'.get? l=some o):Uh b h' l xs:=by
 cases b with
 | false=>exact Heap.IsList.at x λo e=>k o e
 | true=>exact Heap.IsTuple.at x λo e=>k o e
theorem T2{prog:Program}{w:World}(b:Bool)(i l:Addr)(ar:l≠i)(xs:Array Value):Src prog w i l xs (λk h=>ItB b h i l k/\Uh b h l xs):=λA hh=>by
 cases b with
 | false=>exact Draws.list hh i l ar xs
 | true=>exact Db hh i l ar xs
abbrev T3(b:Bool)(h:Heap)(l:Addr):Heap:=h.push { cls:=.type (Qkl b),data:=.fields #[.ref l,.int 0 0] }
abbrev zh3(b c:Bool)(h:Heap)(l m:Addr):Heap:=(T3 c (T3 b h l) m).push { cls:=.type "tuple",data:=.seq #[.ref h.objs.size,.ref (T3 b h l).objs.size] }
abbrev zh5(b c:Bool)(h:Heap)(l m:Addr):Heap:=((zh3 b c h l m).push { cls:=.type "tuple",data:=.seq #[.none,.none] }).push { cls:=.type "zip",data:=.fields #[.none,.bool false,.bool false,.ref (T3 c (T3 b h l) m).objs.size,.ref (zh3 b c h l m).objs.size] }
section
variable {prog:Program}{w:World}{A:Around}{E:Value->Shared->Prop}{s:Shared}
theorem Qbo{b:Bool}{l:Addr}{xs:Array Value}{Q:Value->Shared->Prop}(h:Uh b s.heap l xs)(hQ:Q (.ref s.heap.objs.size) { s with heap:=T3 b s.heap l }):wpAny (model prog w) A (pyIter (.ref l)) Q E s:=by
 cases b with
 | false=>exact Ydg h hQ
 | true=>exact Ycz h hQ
theorem Qae(b c:Bool)(l m:Addr)(xs ys:Array Value):Meets (Builtin.«zip.__new__» ⟨[.type "zip",.ref l,.ref m],[]⟩) (λ_ R s=>Uh b s.heap l xs/\Uh c s.heap m ys/\R (.ok (.ret (.ref (((zh3 b c s.heap l m).push { cls:=.type "tuple",data:=.seq #[.none,.none] }).objs.size)))) { s with heap:=zh5 b c s.heap l m }) :=
 .of_wp λprog w A R s h=>by
  obtain⟨hp,g,d,tk,os⟩:=s
  obtain⟨a1,a2,q⟩:=h
  have dj:=sub_zip
  have b1:Uh b (Shared.heap ⟨hp,g,d,tk,os⟩) l xs:=a1
  have b2:Uh c (Shared.heap ⟨T3 b hp l,g,d,tk,os⟩) m ys:=a2.at λo e=>Heap.get?_push_of_some _ e
  wp_walk using Qbo b1,Qbo b2
  exact⟨_,rfl,q⟩
theorem Xj{b c:Bool}{l m:Addr}{xs ys:Array Value}{Q:Value->Shared->Prop}(h1:Uh b s.heap l xs)(h2:Uh c s.heap m ys)
  (h:∀h',IsZip h' (s.heap.objs.size+4) (s.heap.objs.size+2) (s.heap.objs.size+3) .none->IsPair h' (s.heap.objs.size+2) (.ref s.heap.objs.size) (.ref (s.heap.objs.size+1))->IsPair h' (s.heap.objs.size+3) .none .none->ItB b h' s.heap.objs.size l 0->ItB c h' (s.heap.objs.size+1) m 0->h'.objs.size=s.heap.objs.size+5 ->
   (∀d o,s.heap.get? d=some o->h'.get? d=some o)->Q (.ref (s.heap.objs.size+4)) { s with heap:=h' }):wpAny (model prog w) A (call (.type "zip") [.ref l,.ref m]) Q E s:=by
 refine callType_new F.called_zip (by decide) (F.typeCall_zip_2 _ _) (F.newCall_zip_2 _ _) (λobj=>F.args_object_init_3 obj _ _) F.entry_zip_new (Qae b c l m xs ys) ⟨h1,h2,?_⟩
 have e1:(T3 b s.heap l).objs.size=s.heap.objs.size+1:=Yb4 ..
 have e2:(T3 c (T3 b s.heap l) m).objs.size=s.heap.objs.size+2:=by rw [Yb4,e1]
 have e3:(zh3 b c s.heap l m).objs.size=s.heap.objs.size+3:=by rw [Yb4,e2]
 have e4:((zh3 b c s.heap l m).push { cls:=.type "tuple",data:=.seq #[.none,.none] }).objs.size=s.heap.objs.size+4:=by rw [Yb4,e3]
 have e5:(zh5 b c s.heap l m).objs.size=s.heap.objs.size+5:=by rw [Yb4,e4]
 have p5:(zh5 b c s.heap l m).get? ((zh3 b c s.heap l m).push { cls:=.type "tuple",data:=.seq #[.none,.none] }).objs.size=some _:=Heap.get?_push_size _ rfl
 have p4:(zh5 b c s.heap l m).get? (zh3 b c s.heap l m).objs.size=some _:=Heap.get?_push_of_some _ (Heap.get?_push_size _ rfl)
 have p3:(zh5 b c s.heap l m).get? (T3 c (T3 b s.heap l) m).objs.size=some _:=Heap.get?_push_of_some _ (Heap.get?_push_of_some _ (Heap.get?_push_size _ rfl))
 have p2:(zh5 b c s.heap l m).get? (T3 b s.heap l).objs.size=some _:=Heap.get?_push_of_some _ (Heap.get?_push_of_some _ (Heap.get?_push_of_some _ (Heap.get?_push_size _ rfl)))
 have p1:(zh5 b c s.heap l m).get? s.heap.objs.size=some _:=Heap.get?_push_of_some _ (Heap.get?_push_of_some _ (Heap.get?_push_of_some _ (Heap.get?_push_of_some _ (Heap.get?_push_size _ rfl))))
 have pk:∀d o,s.heap.get? d=some o->(zh5 b c s.heap l m).get? d=some o:=λd o x=>Heap.get?_push_of_some _ (Heap.get?_push_of_some _ (Heap.get?_push_of_some _ (Heap.get?_push_of_some _ (Heap.get?_push_of_some _ x))))
 show _/\_
 rw [e2,e3,e4]at p5
 rw [e1,e2]at p3
 rw [e3]at p4
 rw [e1]at p2
 rw [e4]
 refine⟨⟨_,p5,rfl⟩,h _ p5 p3 p4 ?_ ?_ e5 pk⟩
 ·cases b with
  | false=>exact⟨_,p1,rfl,rfl⟩
  | true=>exact⟨_,p1,rfl,rfl⟩
 ·cases c with
  | false=>exact⟨_,p2,rfl,rfl⟩
  | true=>exact⟨_,p2,rfl,rfl⟩
theorem Qbp{z TI TO i1 i2 l1 l2:Addr}{xs ys:Array Value}{St1 St2:Nat->Heap->Prop}(hh:A.handled=none)(D:ZipApart z TI TO i1 i2 l1 l2)(S1:Src prog w i1 l1 xs St1)(S2:Src prog w i2 l2 ys St2) :
  WalksT prog w A z [z,TI,TO,i1,i2,l1,l2] [z,TO,i1,i2] (min xs.size ys.size) (λi im=>∃x y,xs[i]?=some x/\ys[i]?=some y/\im=#[x,y])
   (λi h=>IsZip h z TI TO .none/\IsPair h TI (.ref i1) (.ref i2)/\(∃a b,IsPair h TO a b)/\St1 i h/\St2 i h)
   (λi T h=>IsZip h z TI TO (rawInt T)/\IsPair h TI (.ref i1) (.ref i2)/\(∃a b,IsPair h TO a b)/\St1 (i+1) h/\St2 (i+1) h/\T≠z/\T≠TO/\T≠i1/\T≠i2) where
 sub:=λc hc=>by simp at hc ⊢;rcases hc with rfl | rfl | rfl | rfl <;> simp
 frame:=λi h h' st hk=>by
  obtain⟨a1,a2,⟨a,b,a3⟩,a4,a5⟩:=st
  exact⟨hk z (by simp) _ a1,hk TI (by simp) _ a2,⟨a,b,hk TO (by simp) _ a3⟩,S1.keep a4 (λo e=>hk i1 (by simp) o e) (λo e=>hk l1 (by simp) o e),S2.keep a5 (λo e=>hk i2 (by simp) o e) (λo e=>hk l2 (by simp) o e)⟩
 item:=λi s Q E hi st hQ=>by
  obtain⟨a1,a2,⟨a,b,a3⟩,a4,a5⟩:=st
  have ix:i < xs.size:=Yam hi (Nat.min_le_left ..)
  have iy:i < ys.size:=Yam hi (Nat.min_le_right ..)
  have hT:s.TypeIs (.ref z) "zip" := ⟨_,a1,rfl⟩
  have lt:∀{c o},s.heap.get? c=some o->s.heap.objs.size≠c:=λe=>Ydv (Yae e)
  unfold pyNext
  refine Yaa (Ycv (wpAny_callSpecial?_slot (name:=Str.ofString "__next__") hT F.slot_zip_next (Ybb F.slot_zip_next hT F.entry_zip_next (Xi (show A.in1.handled=none from hh) D S1 S2 a1 a2 a3 a4 a5 ix iy λh' tk x y ex ey b1 b2 b3 b4 b5 hk=>Yab ?_) (F.args_zip_next_1 _))))
  refine hQ s.heap.objs.size #[x,y] h' tk ⟨x,y,ex,ey,rfl⟩ (Yaf _) ⟨_,b5,rfl,_,rfl⟩ ⟨b1,hk _ _ D.TIz D.TITO D.TIi1 D.TIi2 a2,⟨_,_,b2⟩,b3,b4,lt a1,lt a3,?_,?_⟩ λc o hc e=>hk c o (λq=>hc (by simp [q])) (λq=>hc (by simp [q])) (λq=>hc (by simp [q])) (λq=>hc (by simp [q])) e
  ·obtain⟨o,e⟩:=S1.live a4;exact lt e
  ·obtain⟨o,e⟩:=S2.live a5;exact lt e
 go:=λck k pos i T s Q E hm hQ=>by
  obtain⟨a1,a2,⟨a,b,a3⟩,a4,a5,_⟩:=hm
  exact wpAny_letOwnedTupleGo_zip a1 λh' b1 k1=>hQ h' ⟨b1,k1.extBut _ _ D.TIz a2,⟨a,b,k1.extBut _ _ D.TOz a3⟩,S1.keep a4 (λo e=>k1.extBut _ _ D.i1z e) (λo e=>k1.extBut _ _ D.l1z e),S2.keep a5 (λo e=>k1.extBut _ _ D.i2z e) (λo e=>k1.extBut _ _ D.l2z e)⟩ λc o hc e=>k1.extBut _ _ (λq=>hc (by simp [q])) e
 apart:=λi T h hm hT=>by
  obtain⟨_,_,_,_,_,t1,t2,t3,t4⟩:=hm
  simp at hT
  rcases hT with rfl | rfl | rfl | rfl
  ·exact t1 rfl
  ·exact t2 rfl
  ·exact t3 rfl
  ·exact t4 rfl
 done:=λs Q E st hQ=>by
  obtain⟨a1,a2,⟨a,b,a3⟩,a4,a5⟩:=st
  have hT:s.TypeIs (.ref z) "zip" := ⟨_,a1,rfl⟩
  have n8:min xs.size ys.size=xs.size\/min xs.size ys.size < xs.size/\min xs.size ys.size=ys.size:=by omega
  unfold pyNext
  refine Yaa (Ycv (wpAny_callSpecial?_slot (name:=Str.ofString "__next__") hT F.slot_zip_next (Ybb F.slot_zip_next hT F.entry_zip_next (Qd9 (show A.in1.handled=none from hh) D S1 S2 a1 a2 a3 a4 a5 n8 λh' tk e hk he=>?_) (F.args_zip_next_1 _))))
  obtain⟨o,ho,hc⟩:=he
  refine Yaa (Ycj (T := "StopIteration") (b:=true) ⟨o,ho,hc⟩ isSubtype_stop (Yab (hQ h' tk λc o hc e=>?_)))
  exact hk c o (λq=>hc (by simp [q])) (λq=>hc (by simp [q])) (λq=>hc (by simp [q])) (λq=>hc (by simp [q])) e
 self:=λi s Q E st h=>wpAny_pyIter_zip st.1 h
end
def T4(K:PySem.W.Frag):Bool->Hp->Addr->List V->Prop
 | false,H,a,xs=>Du K H a xs
 | true,H,a,xs=>Gi K H a xs
section
variable {X:Cx}{aa:List (Addr×Obj)}{σ:St}{H:Hp}{s:Shared}{b:Bool}{a c:Addr}{xs ys:List V}
theorem Inv.seqB(I:Inv X aa σ H s)(h:T4 X.K b H a xs):∃af:List Value,Vals xs af/\Uh b s.heap a af.toArray:=by
 cases b with
 | false=>obtain⟨af,r,p,_⟩:=I.list h;exact⟨af,r,p.isList⟩
 | true=>obtain⟨af,r,p,_⟩:=I.tuple h;exact⟨af,r,p⟩
theorem Inv.seqB_inj(I:Inv X aa σ H s)(h:T4 X.K b H a xs)(h':T4 X.K b H a ys):xs=ys:=by
 cases b with
 | false=>exact I.list_inj h h'
 | true=>exact I.tuple_inj h h'
theorem Inv.seqB_ne(I:Inv X aa σ H s)(h:T4 X.K b H a xs)(f:Ei X aa H c):a≠c:=by
 rintro rfl
 obtain⟨f0,_,_,f3,_⟩:=f
 have rd:∀{o:HO},Rd H a o->False:=λr=>by
  rcases r with r | ⟨_,r⟩
  ·rw [f0]at r;cases r
  ·rw [f0]at r;cases r
 have kk:∀{o:Obj},X.K.lookup a=some o->False:=λ{o} e=>by
  have eb:=I.ok.mod.kin a o e
  rcases f3 with f3 | f3
  ·exact I.ok.noex a o eb f3
  ·exact Yc9 _ (Yam (Yae (I.ok.bs a o eb).1) f3)
 cases b with
 | false=>rcases h with h | ⟨o,_,_,e,_⟩;exact rd h;exact kk e
 | true=>rcases h with h | ⟨o,_,_,e,_⟩;exact rd h;exact kk e
end
def Izp(K:PySem.W.Frag)(p q:Bool)(a b:Addr):It :=
 ⟨λi H => ∃ xs ys x y, T4 K p H a xs /\ T4 K q H b ys /\ xs[i]? = some x /\ ys[i]? = some y,
  λi H v H' => ∃ T x y, H T = none /\ v = .ref T /\ H' = upd H T (.tup [x, y]) /\ (∀ xs, T4 K p H a xs -> xs[i]? = some x) /\ ∀ ys, T4 K q H b ys -> ys[i]? = some y,
  λi H => ∃ xs ys, T4 K p H a xs /\ T4 K q H b ys /\ i = min xs.length ys.length⟩
theorem Xk{P:Program}{w:World}{K:PySem.W.Frag}{ck:List Expr}{k:Nat}{pos:Pos}(p q:Bool)(a b z TI TO i1 i2:Addr)(d1:TI≠z)(d2:TO≠z)(d3:i1≠z)(d4:i2≠z)(d5:TI≠TO)(d6:TI≠i1)(d7:TI≠i2)(d8:TO≠i1)(d9:TO≠i2)(d10:i1≠i2) :
  Turn P w K (.Tuple ck k pos) (Izp K p q a b) [z,TI,TO,i1,i2] z (λi h=>IsZip h z TI TO .none/\IsPair h TI (.ref i1) (.ref i2)/\(∃u v,IsPair h TO u v)/\ItB p h i1 a i/\ItB q h i2 b i) where
 mem:=by simp
 obj:=λi h st c hc=>by
  obtain⟨a1,a2,⟨u,v,a3⟩,a4,a5⟩:=st
  have it:∀{r:Bool} {j l:Addr} {n:Nat},ItB r h j l n->∃o,h.get? j=some o/\∀v,o.data≠.cell v:=λ{r j l n} x=>by
   cases r with
   | false=>obtain⟨o,e,_,d⟩:=(show h.IsListIter j l n from x);exact⟨o,e,λv y=>by rw [d]at y;cases y⟩
   | true=>obtain⟨o,e,_,d⟩:=(show h.IsTupleIter j l n from x);exact⟨o,e,λv y=>by rw [d]at y;cases y⟩
  simp only [List.mem_cons,List.not_mem_nil,or_false]at hc
  rcases hc with rfl | rfl | rfl | rfl | rfl
  ·exact⟨_,a1,λv y=>nomatch y⟩
  ·exact⟨_,a2,λv y=>nomatch y⟩
  ·exact⟨_,a3,λv y=>nomatch y⟩
  ·exact it a4
  ·exact it a5
 keep:=λi h h' st k=>by
  obtain⟨a1,a2,⟨u,v,a3⟩,a4,a5⟩:=st
  have it:∀{r:Bool} {j l:Addr} {n:Nat},ItB r h j l n->(∀o,h.get? j=some o->h'.get? j=some o)->ItB r h' j l n:=λ{r j l n} x kk=>by
   cases r with
   | false=>exact Heap.IsListIter.at x λo e=>kk o e
   | true=>exact Heap.IsTupleIter.at x λo e=>kk o e
  exact⟨k z (by simp) _ a1,k TI (by simp) _ a2,⟨u,v,k TO (by simp) _ a3⟩,it a4 λo e=>k i1 (by simp) o e,it a5 λo e=>k i2 (by simp) o e⟩
 item:=by
  intro X hP hw hK hc i aa s σ H E I hf st hg
  subst hP hw hK
  obtain⟨xs,ys,x,y,sx,sy,ex,ey⟩:=hg
  obtain⟨af,rv,px⟩:=I.seqB sx
  obtain⟨jts,rw',py⟩:=I.seqB sy
  obtain⟨u,hu,ru⟩:=rv.get ex
  obtain⟨v,hv,rv2⟩:=rw'.get ey
  have na:∀c∈[z,TI,TO,i1,i2],a≠c:=λc hc=>I.seqB_ne sx (hf c hc)
  have nb:∀c∈[z,TI,TO,i1,i2],b≠c:=λc hc=>I.seqB_ne sy (hf c hc)
  have D:ZipApart z TI TO i1 i2 a b:=⟨d1,d2,d3,d4,d5,d6,d7,d8,d9,d10,na z (by simp),na TO (by simp),na i1 (by simp),na i2 (by simp),nb z (by simp),nb TO (by simp),nb i1 (by simp),nb i2 (by simp)⟩
  obtain⟨a1,a2,a3,a4,a5⟩:=id st
  have W:=Qbp (prog:=X.prog) (w:=X.w) (A:=X.A) (I.ok.hd hc) D (T2 p i1 a D.l1i1 af.toArray) (T2 q i2 b D.l2i2 jts.toArray)
  refine W.item i s _ _ ?_ ⟨a1,a2,a3,⟨a4,px⟩,⟨a5,py⟩⟩ λT im h' tk pe hT ht hm kk=>?_
  ·have n1:=(List.getElem?_eq_some_iff.mp hu).1
   have n2:=(List.getElem?_eq_some_iff.mp hv).1
   simp only [List.size_toArray];omega
  have apart:=W.apart i T h' hm
  have wq:∀c∈[z,TO,i1,i2],Ei X aa H c:=λc hc=>hf c (by simp only [List.mem_cons,List.not_mem_nil,or_false]at hc ⊢;rcases hc with rfl | rfl | rfl | rfl <;> simp)
  refine⟨_,rfl,W.go ck k pos i T _ _ _ hm λm7 bq ig=>?_⟩
  obtain⟨x',y',hx',hy',rfl⟩:=pe
  have qi:x'=u:=by
   have:af[i]?=some x':=by simpa using hx'
   rw [hu]at this;exact(Ya3 this).symm
  have hyv:y'=v:=by
   have:jts[i]?=some y':=by simpa using hy'
   rw [hv]at this;exact(Ya3 this).symm
  subst qi hyv
  have I1:Inv X aa σ H { s with heap:=h',toks:=tk }:=I.turnedL kk wq
  have I2:Inv X aa σ H { s with heap:=m7,toks:=tk }:=I1.turnedL (s:={ s with heap:=h',toks:=tk }) (t':=tk) ig wq
  have fT:Ei X aa H T:=I.fpOk hT (I.hok.fresh hT)
  have kf:IsTup m7 T #[x',y']:=let⟨o,ho,r⟩:=ht;⟨o,ig T o apart ho,r⟩
  refine⟨.ref T,upd H T (.tup [x,y]),I2.track fT ⟨by show 2<=sizeLine;decide,[x',y'],.cons ru (.cons rv2 .nil),kf⟩,rfl,⟨T,x,y,fT.1,rfl,rfl,λzs hz=>by rw [I.seqB_inj hz sx];exact ex,λzs hz=>by rw [I.seqB_inj hz sy];exact ey⟩,⟨bq.1,bq.2.1,bq.2.2.1,bq.2.2.2.1.1,bq.2.2.2.2.1⟩,λc hc=>?_⟩
  have hlt:∀{e:Addr} {o:Obj},s.heap.get? e=some o->e≠T:=λq=>Yaj (Yam (Yae q) hT)
  have hcT:c≠T:=by
   obtain⟨u3,v3,a3⟩:=a3
   have S1:=T2 (prog:=X.prog) (w:=X.w) p i1 a D.l1i1 af.toArray
   have S2:=T2 (prog:=X.prog) (w:=X.w) q i2 b D.l2i2 jts.toArray
   simp only [List.mem_cons,List.not_mem_nil,or_false]at hc
   rcases hc with rfl | rfl | rfl | rfl | rfl
   ·exact hlt a1
   ·exact hlt a2
   ·exact hlt a3
   ·obtain⟨o,e⟩:=S1.live (k:=i) ⟨a4,px⟩;exact hlt e
   ·obtain⟨o,e⟩:=S2.live (k:=i) ⟨a5,py⟩;exact hlt e
  rw [Aw hcT]
  exact(hf c hc).1
 done:=by
  intro X hP hw hK hc i aa s σ H E I hf st hg
  subst hP hw hK
  obtain⟨xs,ys,sx,sy,hn⟩:=hg
  obtain⟨af,rv,px⟩:=I.seqB sx
  obtain⟨jts,rw',py⟩:=I.seqB sy
  have na:∀c∈[z,TI,TO,i1,i2],a≠c:=λc hc=>I.seqB_ne sx (hf c hc)
  have nb:∀c∈[z,TI,TO,i1,i2],b≠c:=λc hc=>I.seqB_ne sy (hf c hc)
  have D:ZipApart z TI TO i1 i2 a b:=⟨d1,d2,d3,d4,d5,d6,d7,d8,d9,d10,na z (by simp),na TO (by simp),na i1 (by simp),na i2 (by simp),nb z (by simp),nb TO (by simp),nb i1 (by simp),nb i2 (by simp)⟩
  obtain⟨a1,a2,a3,a4,a5⟩:=id st
  have W:=Qbp (prog:=X.prog) (w:=X.w) (A:=X.A) (I.ok.hd hc) D (T2 p i1 a D.l1i1 af.toArray) (T2 q i2 b D.l2i2 jts.toArray)
  have wq:∀c∈[z,TO,i1,i2],Ei X aa H c:=λc hc=>hf c (by simp only [List.mem_cons,List.not_mem_nil,or_false]at hc ⊢;rcases hc with rfl | rfl | rfl | rfl <;> simp)
  have hi:min af.toArray.size jts.toArray.size=i:=by rw [Yan,Yan,<- rv.length,<- rw'.length];exact hn.symm
  subst hi
  exact W.done s _ _ ⟨a1,a2,a3,⟨a4,px⟩,⟨a5,py⟩⟩ λh' tk kk=>⟨rfl,I.turnedL kk wq⟩
 self:=λA i s Q E st h=>wpAny_pyIter_zip st.1 h
def T5(ds es:List PyData):List AV:=List.zipWith (λd e=>AV.D (.tuple [d,e])) ds es
theorem Hi(ds es:List PyData):(T5 ds es).length=min ds.length es.length:=List.length_zipWith
theorem Xl{ds es:List PyData}{i:Nat}{x:AV}(h:(T5 ds es)[i]?=some x):∃d e,ds[i]?=some d/\es[i]?=some e/\x=.D (.tuple [d,e]):=by
 unfold T5 at h
 rw [List.getElem?_zipWith]at h
 split at h
 ·rename_i d e hd he
  cases h
  exact⟨d,e,hd,he,rfl⟩
 ·cases h
theorem Xm{K:PySem.W.Frag}{H0:Hp}{p q:Bool}{a b:Addr}{us vs:List AV}{ds es:List PyData}{kp:M->Prop}(hd:dats us=some ds)(he:dats vs=some es)
  (h:∀H μ,Kp H0 H->Cn K μ H->kp μ->∃xs ys,T4 K p H a xs/\Au K H us xs/\T4 K q H b ys/\Au K H vs ys):ItOk K H0 (Izp K p q a b) (T5 ds es) kp:=by
 have hn:ds.length=us.length:=by rw [Ey hd,Yac]
 have hm:es.length=vs.length:=by rw [Ey he,Yac]
 refine⟨λi H μ S c k hi=>?_,λi H μ v H' x S c k e y=>?_,λH μ S c k=>?_⟩
 ·obtain⟨xs,ys,s1,r1,s2,r2⟩:=h H μ S c k
  rw [Hi,hn,hm,r1.length,r2.length]at hi
  exact⟨xs,ys,xs[i]'(by omega),ys[i]'(by omega),s1,s2,List.getElem?_eq_getElem _,List.getElem?_eq_getElem _⟩
 ·obtain⟨xs,ys,s1,r1,s2,r2⟩:=h H μ S c k
  obtain⟨T,x',y',hT,rfl,rfl,q1,q2⟩:=y
  obtain⟨d,e',e1,e2,rfl⟩:=Xl e
  obtain⟨u,eu,ru⟩:=(r1.dats hd).get e1
  obtain⟨v,ev,rv⟩:=(r2.dats he).get e2
  rw [q1 xs s1]at eu
  rw [q2 ys s2]at ev
  cases eu
  cases ev
  exact⟨Kp.new hT _,c.over hT,Ii A9 (Ca (Dk.kp (Kp.new hT _) _ _ ru) (Ca (Dk.kp (Kp.new hT _) _ _ rv) C9))⟩
 ·obtain⟨xs,ys,s1,r1,s2,r2⟩:=h H μ S c k
  exact⟨xs,ys,s1,s2,by rw [Hi,hn,hm,r1.length,r2.length]⟩
def Qkm(ta tb:AE):AI:=fun τ μ R=>ta τ μ λx μ1=>tb τ μ1 λy μ2=>opt (items μ2 x) λus=>opt (items μ2 y) λvs=>opt (dats us) λds=>opt (dats vs) λes=>R (T5 ds es) (fun μ=>items μ x=some us/\items μ y=some vs) μ2
section
variable {X:Cx}{e1 e2:Expr}{ta tb:AE}{pos p:Pos}
theorem Qeb{ck:List Expr}{k:Nat}{ku:Pos}(hg:Gl X "zip") (hm:X.mg "zip" = none) (h1:VE X e1 ta) (h2:VE X e2 tb) (hs:starEach [e1,e2] X.env=(false,eval e1 X.env) :: starEach [e2] X.env:=by rfl) (cv:starEach [e2] X.env=[(false,eval e2 X.env)]:=by rfl) (hpl:(backTo pos (starEach [e2] X.env)).any (·.1)=false:=by rfl) :
  VI X (.Tuple ck k ku) (.Call (.Name "zip" p) [e1,e2] [] pos) (Qkm ta tb):=by
 intro aa s σ H R I zz119
 refine B0 zz119 fun τ μ R' ay hc h hq=>?_
 refine Yav (Bw I hg hm boot_zip (Yay ?_ hs hpl))
 rw [hs]
 refine Yar (Ybk (h1.run I ay hc h) (λu1 s1 v6=>Ui v6 λx v μ1 H1 I1 rv S1 c1 rx q1=>?_) λ_ _ e=>e)
 rw [cv]
 refine Yar (Ybk (h2.run I1 (ay.kp S1) c1 q1) (λu2 s2 u0=>Ui u0 λy v2 μ2 H2 I2 rv2 S2 c2 ry q2=>Ya5 ?_) λ_ _ e=>e)
 obtain⟨us,eu,q2⟩:=Ba q2
 obtain⟨vs,ev,q2⟩:=Ba q2
 obtain⟨ds,ed,q2⟩:=Ba q2
 obtain⟨es,ee,q2⟩:=Ba q2
 have rx2:=rx.kp S2
 obtain⟨a,xs,rfl,ka,ra⟩:=Bf c2 rx2 eu
 obtain⟨b,ys,rfl,kb,rb⟩:=Bf c2 ry ev
 have ly:∀{H:Hp} {z:AV} {c:Addr} {ws:List V},(Sz z=false/\Du X.K H c ws)\/(Sz z=true/\Gi X.K H c ws)->T4 X.K (Sz z) H c ws:=λ{H z c ws} h=>by
  rcases h with⟨t,h⟩ | ⟨t,h⟩
  ·rw [t];exact h
  ·rw [t];exact h
 cases rv
 cases rv2
 obtain⟨af,r1,p1⟩:=I2.seqB (ly ka)
 obtain⟨jts,r2,p2⟩:=I2.seqB (ly kb)
 refine Xj p1 p2 λh' z1 z2 z3 z4 z5 z6 kz=>wpAny_pyIter_zip z1 ?_
 generalize hB:s2.heap.objs.size=B at z1 z2 z3 z4 z5 z6
 have f:∀(i j:Nat),i≠j->(B+i:Nat)≠B+j:=λi j h=>by omega
 refine⟨B+4,[B+4,B+2,B+3,B,B+1],_,_,H2,rfl,I2.kept (t':=s2.toks) kz,Xk (Sz x) (Sz y) a b (B+4) (B+2) (B+3) B (B+1) (f 2 4 (by decide)) (f 3 4 (by decide)) (f 0 4 (by decide)) (f 1 4 (by decide)) (f 2 3 (by decide)) (f 2 0 (by decide)) (f 2 1 (by decide)) (f 3 0 (by decide)) (f 3 1 (by decide)) (f 0 1 (by decide)),⟨z1,z2,⟨_,_,z3⟩,z4,z5⟩,λc cu=>?_,hq _ _ _ _ _ (S1.trans S2) c2 (Xm (p:=Sz x) (q:=Sz y) (a:=a) (b:=b) ed ee λH3 μ3 S3 c3 k3=>?_) q2⟩
 ·have pr:s2.heap.objs.size<=c:=by
   rw [hB]
   simp only [List.mem_cons,List.not_mem_nil,or_false]at cu
   rcases cu with rfl | rfl | rfl | rfl | rfl
   ·exact Yd8 _ _
   ·exact Yd8 _ _
   ·exact Yd8 _ _
   ·exact Yaf _
   ·exact Yd8 _ _
  exact I2.fpOk pr (I2.hok.fresh pr)
 ·obtain⟨a',bw,ea,ka',ra'⟩:=Bf c3 (rx2.kp S3) k3.1
  obtain⟨b',ys',eb,kb',rb'⟩:=Bf c3 (ry.kp S3) k3.2
  cases ea
  cases eb
  exact⟨bw,ys',ly ka',ra',ly kb',rb'⟩
end
end L2
namespace K17
open PySem L2
def top(i:Nat):Stmt:=PySem.Challenge.pw_pileduel_k17_sayings_looked_at.main.body.getD i (.Pass ⟨0,0,0,0⟩)
abbrev sIt:Stmt:=top 11
abbrev sLk:Stmt:=top 15
abbrev sMb:Stmt:=top 16
abbrev sAe:Stmt:=top 17
abbrev sIr:Stmt:=top 18
abbrev sDr:Stmt:=top 20
abbrev sNa:Stmt:=top 21
abbrev Xn:Stmt:=top 22
abbrev sSo:Stmt:=top 23
abbrev sSa:Stmt:=top 24
abbrev sRs:Stmt:=top 25
abbrev sAf:Stmt:=top 26
abbrev sDu:Stmt:=top 27
abbrev sBe:Stmt:=top 28
abbrev sAb:Stmt:=top 29
abbrev sOt:Stmt:=top 30
abbrev sTo:Stmt:=top 31
abbrev sRi:Stmt:=top 32
abbrev J7:Stmt:=top 33
section
variable {P:Program}{w:World}{K:PySem.W.Frag}{mg:Str->Option Value}{base:Heap}{f:Addr}{fd:FuncData}
abbrev T6:Stmt:=cdef (top 4)
abbrev Qkn:List Str:=["self","at"]
theorem Qhf:FnScope Qkn ["self","at"] (Af T6):=⟨rfl,rfl,rfl,by decide +kernel,rfl,by decide +kernel,by decide +kernel⟩
theorem Qeg{n:Nat}{C:Addr}(F:Fun K "__init__" "NoSaying.__init__" T6 f fd) (c:XCls K C) (na0:Gk K C "at"):FnOk P w K mg base Fb (n+1) f fd ["self","at"] (spI C ["at"]):=by
 refine F.ok Qhf (λvs H Q E h=>?_) (λaz A outer s H vs Q E hr h=>?_)
 ·obtain⟨e,t,ys,rfl,hl,_⟩:=h
  rw [Ybp,hl];rfl
 obtain⟨e,t,ys,rfl,hl,he,q⟩:=h
 obtain⟨y0,rfl⟩:=Q3 hl
 refine⟨_,Ln (Qgb (pv 0) (pv 1) rfl),?_⟩
 refine⟨_,rfl,_,rfl,e,C,t,rfl,he,c,na0,λdx yl ar=>?_⟩
 refine q _ t dx (λb o hb e'=>?_) (by rw [Aw (Yc4 ar),A9]) A9 ar
 rw [Aw (B5 e' yl),Aw hb]
 exact e'
end
section
variable {P:Program}{w:World}{K:PySem.W.Frag}{mg:Str->Option Value}{base:Heap}{f:Addr}{fd:FuncData}
def T7(i:Int):AV:=.D (.int i)
def stM(l:Addr)(s1:Int)(s2 s3:Nat):MO:=.lst [.R l,.D (.int s1),.D (.int (s2:Nat)),.D (.int (s3:Nat))]
structure PotAt(μ:M)(a l:Addr)(s1:Int)(s2 s3:Nat)(ns:List Int):Prop where
 ha:μ a=some (stM l s1 s2 s3)
 hl:μ l=some (.lst (ns.map T7))
 n0:0<=s1
 ne:a≠l
def Pot(μ:M)(a l:Addr):Prop:=∃s1 s2 s3 ns,PotAt μ a l s1 s2 s3 ns
def A7(a l:Addr)(μ μ':M):Prop:=∀b m,b≠a->b≠l->μ b=some m->μ' b=some m
theorem A7.refl{a l:Addr}{μ:M}:A7 a l μ μ:=λ_ _ _ _ h=>h
theorem A7.trans{a l:Addr}{μ ν ρ:M}(h:A7 a l μ ν)(k:A7 a l ν ρ):A7 a l μ ρ:=λb m h1 h2 e=>k b m h1 h2 (h b m h1 h2 e)
theorem A7.new{a l p:Addr}{μ ν:M}{o:MO}(h:A7 a l μ ν)(e:ν p=none):A7 a l μ (Bh ν p o):=λb m h1 h2 q=>by
 have:=h b m h1 h2 q
 rw [An (by intro z;subst z;rw [e]at this;cases this)];exact this
theorem A7.put{a l p:Addr}{μ ν:M}{o:MO}(h:A7 a l μ ν)(e:μ p=none):A7 a l μ (Bh ν p o):=λb m h1 h2 q=>by
 rw [An (by intro z;subst z;rw [e]at q;cases q)];exact h b m h1 h2 q
theorem A7.a{a l:Addr}{μ ν:M}{o:MO}(h:A7 a l μ ν):A7 a l μ (Bh ν a o):=λb m h1 h2 q=>by rw [An h1];exact h b m h1 h2 q
theorem A7.none{a l p:Addr}{μ ν:M}(h:A7 a l μ ν)(h1:a≠p)(h2:l≠p)(e:ν p=none):μ p=none:=by
 cases q:μ p with
 | none=>rfl
 | some m=>rw [h p m h1.symm h2.symm q]at e;cases e
theorem PotAt.other{μ:M}{a l p:Addr}{s1:Int}{s2 s3:Nat}{ns:List Int}{o:MO}(h:PotAt μ a l s1 s2 s3 ns)(h1:a≠p)(h2:l≠p):PotAt (Bh μ p o) a l s1 s2 s3 ns :=
 ⟨by rw [An h1];exact h.ha,by rw [An h2];exact h.hl,h.n0,h.ne⟩
theorem PotAt.to{μ:M}{a l:Addr}{s1 t1:Int}{s2 s3 t2 t3:Nat}{ns:List Int}(h:PotAt μ a l s1 s2 s3 ns)(h0:0<=t1):PotAt (Bh μ a (stM l t1 t2 t3)) a l t1 t2 t3 ns:=⟨Ag,by rw [An h.ne.symm];exact h.hl,h0,h.ne⟩
theorem Pot.other{μ:M}{a l p:Addr}{o:MO}(h:Pot μ a l)(h1:a≠p)(h2:l≠p):Pot (Bh μ p o) a l:=let⟨s1,s2,s3,ns,h⟩:=h;⟨s1,s2,s3,ns,h.other h1 h2⟩
theorem Pot.ne{μ:M}{a l p:Addr}(h:Pot μ a l)(e:μ p=none):a≠p/\l≠p:=by
 obtain⟨_,_,_,_,h⟩:=h
 exact⟨λz=>by(subst z;rw [h.ha]at e;cases e),λz=>by(subst z;rw [h.hl]at e;cases e)⟩
theorem Pot.new{μ:M}{a l p:Addr}{o:MO}(h:Pot μ a l)(e:μ p=none):Pot (Bh μ p o) a l:=h.other (h.ne e).1 (h.ne e).2
def Mo(ns:List Int):PyData:=.list (ns.map .int)
theorem T8(μ:M)(ns:List Int):items μ (.D (Mo ns))=some (ns.map T7):=by
 show some ((ns.map PyData.int).map AV.D)=_
 rw [Ybo];rfl
abbrev nDr:List Str:=["_law_state","_law_many","_law_found","_law_cell","_law_number"]
theorem Oa:FnScope nDr ["_law_state","_law_many"] (Af sDr):=⟨rfl,rfl,rfl,by decide +kernel,rfl,by decide +kernel,by decide +kernel⟩
def J8:ASp:=λxs μ R=>∃(a l:Addr) (au:Nat),xs=[.R a,.D (.int au)]/\Pot μ a l/\0 < au/\au < 1000000/\∀(v:Nat) (μ':M),v < au->Pot μ' a l->A7 a l μ μ'->R (.D (.int v)) μ'
theorem Qeh{v:Int}{au:Nat}(h0:0<=v)(h1:v < au):∃n:Nat,v=n/\n < au:=⟨v.toNat,by omega,by omega⟩
theorem Xo(x:Int){m:Int}(h:0 < m):0<=x % m:=Int.emod_nonneg x (by omega)
theorem Xp(x:Int){m:Int}(h:0 < m)(h2:m<=2147483648):x % m < 2147483648:=Int.lt_of_lt_of_le (Int.emod_lt_of_pos x h) h2
theorem Rw{x:Int}{au:Nat}{Q:Int->Prop}(h0:0 < au)(h:∀v:Nat,v < au->Q v):Q (x % au):=by
 obtain⟨v,ev,hv⟩:=Qeh (Int.emod_nonneg x (show(au:Int)≠0 by omega)) (Int.emod_lt_of_pos x (show 0 < (au:Int) by omega))
 rw [ev];exact h v hv
theorem Qhg{n:Nat}(F:Fun K "_law_draw" "_law_draw" sDr f fd) (ag:mg "len" = none):FnOk P w K mg base Fb (n+1) f fd ["_law_state","_law_many"] (Jy K 2 J8):=by
 refine F.vok Oa λaz A outer s H E hr=>⟨_,(Ad (Fi (Am A4 (Ax Bg (vv 0) Ab) Ab) (Mc (vv 0) Ab))
   (Ad (Be (Az Ta (Ax Bg (vv 0) Ab) Ab (nomark _)) (Ad (Ao (i:=2) Oa.nd rfl (Or.inl rfl) (Am Eo (Ax Bg (vv 0) Ab) (vv 1)))
   (Ad (Fi (Am Pb (Ax Bg (vv 0) Ab) (vv 1)) (Mc (vv 0) Ab))
   (Ah (Ar (vv 2))))) Aq)
   (Ad (Ao (i:=3) Oa.nd rfl (Or.inl rfl) Ab)
   (Ad (Be (Az Im (Ax Bg (vv 0) Ab) (Al Bl rfl ag Yaq (Aa (Ax Bg (vv 0) Ab) Ac)) (nomark _)) (Ad (Ao (i:=3) Oa.nd rfl (Or.inl rfl) (Ax Bg (Ax Bg (vv 0) Ab) (Ax Bg (vv 0) Ab)))
   (Ad (Fi (Am A4 (Ax Bg (vv 0) Ab) Ab) (Mc (vv 0) Ab))
   (Ah (Be (Az Qgl (vv 3) (Am Qgk Ab Ab) (nomark _)) (Ad (Fi (Am Pb (vv 3) (vv 1)) (Mc (vv 0) Ab))
   (Ah (Ar (Am Eo (vv 3) (vv 1))))) Aq)))) (Ah (Be (Az Ta (Al Bl rfl ag Yaq (Aa (Ax Bg (vv 0) Ab) Ac)) Ab (nomark _)) (Ah (Ao (i:=3) Oa.nd rfl (Or.inl rfl) (Ax Bg (Ax Bg (vv 0) Ab) (Am Eo (Ax Bg (vv 0) Ab) (Al Bl rfl ag Yaq (Aa (Ax Bg (vv 0) Ab) Ac)))))) Aq)))
   (Ad (Ao (i:=4) Oa.nd rfl (Or.inl rfl) (Am Eo (Am A4 (Am A4 (Am Kn (Am Eo (vv 3) Ab) Ab) (Am Kn Ab (Ax Bg (vv 0) Ab))) Ab) Ab))
   (Ad (Ao (i:=4) Oa.nd rfl (Or.inl rfl) (Am Eo (Am A4 (Am Kn (vv 4) (vv 4)) (Am Kn Ab (Ax Bg (vv 0) Ab))) Ab))
   (Ad (Ao (i:=4) Oa.nd rfl (Or.inl rfl) (Am Eo (Am A4 (Am Kn (vv 4) Ab) Ab) Ab))
   (Ah (Ar (Am Eo (Am Eo (Am Kn (vv 4) (vv 4)) Ab) (vv 1))))))))))),?_⟩
 rintro xs μ R _ ⟨a,l,au,rfl,⟨s1,s2,s3,ns,D0⟩,h0,h1,q⟩
 refine Ay (fun τ μ'=>τ=[some (.R a),some (.D (.int au)),none,none,none]/\PotAt μ' a l s1 (s2+1) s3 ns/\A7 a l μ μ') (λZ hZ=>?_) ?_
 ·exact Ae D0.ha (Ae rfl (Ae D0.ha (Ae rfl (hZ _ _ ⟨rfl,D0.to D0.n0,A7.refl.a⟩))))
 rintro τ μ1 ⟨rfl,D1,S1⟩
 have n0:=D1.n0
 refine Ay (fun τ μ'=>τ=[some (.R a),some (.D (.int au)),none,none,none]/\μ1=μ') (λZ hZ=>?_) ?_
 ·refine Ae D1.ha (Ae rfl (dif (λc=>?_) (λc=>hZ _ _ ⟨rfl,rfl⟩)))
  refine Ae D1.ha (Ae rfl ⟨(by show(0:Int) < _;omega),Ae D1.ha (Ae rfl ⟨⟨by omega,by omega⟩,Ae D1.ha (Ae rfl ⟨_,Sub.refl,?_⟩)⟩)⟩)
  refine Rw (Q:=λi=>R (.D (.int i)) _) h0 λv hv=>?_
  exact q v _ hv ⟨s1 / au,s2+1,s3,ns,D1.to (Int.ediv_nonneg n0 (by omega))⟩ S1.a
 rintro τ _ ⟨rfl,rfl⟩
 refine Bq ?_
 refine Ay (fun τ μ'=>∃(cell:Int) (s3:Nat),τ=[some (.R a),some (.D (.int au)),none,some (.D (.int cell)),none]/\PotAt μ' a l s1 (s2+1) s3 ns/\A7 a l μ μ') (λZ hZ=>?_) ?_
 ·refine Ae D1.ha (Ae rfl (Ae D1.ha (Ae rfl (Ae D1.hl (dif (λc=>?_) (λc=>?_))))))
  ·have lp:s3 < ns.length:=by rw [Yac]at c;omega
   have hx:(ns.map T7)[s3]?=some (T7 ns[s3]):=by rw [List.getElem?_map,List.getElem?_eq_getElem lp];rfl
   refine Ae D1.ha (Ae rfl (Ae D1.ha (Ae rfl (Ae D1.hl (Ae (Ap hx) (Ae D1.ha (Ae rfl (Ae D1.ha (Ae rfl ?_)))))))))
   have D2:PotAt (Bh μ1 a (stM l s1 (s2+1) (s3+1))) a l s1 (s2+1) (s3+1) ns:=D1.to n0
   refine⟨⟨by decide,by decide,by decide⟩,dif (λc2=>?_) (λc2=>hZ _ _ ⟨_,s3+1,rfl,D2,S1.a⟩)⟩
   refine⟨⟨by omega,by omega⟩,Ae D2.ha (Ae rfl ⟨(by show(0:Int) < _;omega),_,Sub.refl,?_⟩)⟩
   have jh:0<=ns[s3]:=by
    have h18:(0:Int)<=10 ^ (18:Int).toNat:=by decide
    exact Int.le_trans h18 c2
   refine Rw (Q:=λi=>R (.D (.int i)) _) h0 λv hv=>?_
   exact q v _ hv ⟨ns[s3] / au,s2+1,s3+1,ns,D2.to (Int.ediv_nonneg jh (by omega))⟩ S1.a.a
  ·refine Ae D1.ha (Ae rfl (Ae D1.hl (dif (λc2=>?_) (λc2=>hZ _ _ ⟨7,s3,rfl,D1,S1⟩))))
   refine Ae D1.ha (Ae rfl (Ae D1.ha (Ae rfl (Ae D1.ha (Ae rfl (Ae D1.hl ⟨c2,?_⟩))))))
   have ak:0 < (ns.map T7).length:=by omega
   refine Rw (x:=((s2+1:Nat):Int)) (Q:=λi=>opt (μ1 l) λm=>match m with
    | .lst xs=>opt (atI xs i) λv=>Z [some (.R a),some (.D (.int au)),none,some v,none] μ1
    | _=>False) ak λv hv=>?_
   rw [Yac]at hv
   refine Ae D1.hl (Ae (Ap (v:=T7 ns[v]) (by rw [List.getElem?_map,List.getElem?_eq_getElem hv];rfl)) (hZ _ _ ⟨ns[v],s3,rfl,D1,S1⟩))
 rintro τ μ2 ⟨cell,s3',rfl,D2,S2⟩
 refine Ay (fun τ μ'=>∃one:Int,τ=[some (.R a),some (.D (.int au)),none,some (.D (.int cell)),some (.D (.int one))]/\μ2=μ'/\0<=one/\one < 2147483648) (λZ hZ=>?_) ?_
 ·exact⟨(by show(0:Int) < _;decide),.inr ⟨by decide,by decide⟩,Ae D2.ha (Ae rfl ⟨.inl ⟨by decide,by decide⟩,(by show(0:Int) < _;decide),hZ _ _ ⟨_,rfl,rfl,Xo _ (by decide),Xp _ (by decide) (by decide)⟩⟩)⟩
 rintro τ _ ⟨one,rfl,rfl,o0,o1⟩
 refine Ay (fun τ μ'=>∃one:Int,τ=[some (.R a),some (.D (.int au)),none,some (.D (.int cell)),some (.D (.int one))]/\μ2=μ'/\0<=one/\one < 2147483648) (λZ hZ=>?_) ?_
 ·exact⟨.inl ⟨by omega,by omega⟩,Ae D2.ha (Ae rfl ⟨.inl ⟨by decide,by decide⟩,(by show(0:Int) < _;decide),hZ _ _ ⟨_,rfl,rfl,Xo _ (by decide),Xp _ (by decide) (by decide)⟩⟩)⟩
 rintro τ _ ⟨two,rfl,rfl,t0,t1⟩
 refine Ay (fun τ μ'=>∃one:Int,τ=[some (.R a),some (.D (.int au)),none,some (.D (.int cell)),some (.D (.int one))]/\μ2=μ'/\0<=one/\one < 2147483648) (λZ hZ=>?_) ?_
 ·exact⟨.inr ⟨by decide,by decide⟩,(by show(0:Int) < _;decide),hZ _ _ ⟨_,rfl,rfl,Xo _ (by decide),Xp _ (by decide) (by decide)⟩⟩
 rintro τ _ ⟨three,rfl,rfl,r0,r1⟩
 refine⟨.inl ⟨by omega,by omega⟩,(by show(0:Int) < _;decide),(by show(0:Int) < _;omega),_,Sub.refl,?_⟩
 exact Rw (Q:=λi=>R (.D (.int i)) _) h0 λv hv=>q v _ hv ⟨s1,s2+1,s3',ns,D2⟩ S2
end
section
variable {P:Program}{w:World}{K:PySem.W.Frag}{mg:Str->Option Value}{base:Heap}{f:Addr}{fd:FuncData}
def Cy(ns:List Nat):PyData:=.tuple (ns.map λ(n:Nat)=>.int n)
theorem Hv{ns:List Nat}:PyData.canLayAll0 (ns.map λ(n:Nat)=>.int n)=true/\PyData.depthAll (ns.map λ(n:Nat)=>.int n)<=1:=by
 induction ns with
 | nil=>exact⟨rfl,by simp [PyData.depthAll]⟩
 | cons n ns ih =>
  simp only [List.map_cons,PyData.canLayAll0,PyData.depthAll,ih.1,Bool.and_true]
  refine⟨rfl,?_⟩
  have:=ih.2
  simp only [PyData.depth];omega
theorem Lg{ns:List Nat}:B7 (Cy ns):=⟨by simp only [Cy,PyData.canLay0];exact Hv.1,by have:=(Hv (ns:=ns)).2;simp only [Cy,PyData.depth];omega⟩
def Ho(n:Nat):AV:=.D (.int n)
theorem Ob(ns:List Nat):dats (ns.map Ho)=some (ns.map λ(n:Nat)=>.int n):=by
 rw [show ns.map Ho=(ns.map λ(n:Nat)=>PyData.int n).map .D by rw [Ybo];rfl];exact B6 _
theorem Gz:∀(ns:List Nat),Aj (ns.map λ(n:Nat)=>.int n)=true
 | []=>rfl
 | n :: ns=>by simp only [List.map_cons,Aj,Cano,Gz ns,Bool.and_self]
theorem Oc:∀(ms ns:List Nat),cmpbs (ms.map λ(n:Nat)=>.int n) (ns.map λ(n:Nat)=>.int n)=true
 | [],_=>by simp only [List.map_nil,cmpbs]
 | _ :: _,[]=>by simp only [List.map_nil,List.map_cons,cmpbs]
 | m :: ms,n :: ns=>by
  simp only [List.map_cons,cmpbs,cmpb,Oc ms ns,ite_self]
end
section
variable {P:Program}{w:World}{K:PySem.W.Frag}{mg:Str->Option Value}{base:Heap}{f:Addr}{fd:FuncData}
def Bk(z:Str):AV:=.D (.str z)
theorem Rx{z:Str}(h:lets z):PyData.canLay0 (.str z)=true:=by
 show PyData.strOk z=true
 unfold PyData.strOk
 rw [Array.all_eq_true]
 intro i hi
 have:=h z.cps[i] (by simp)
 simp
 omega
theorem G0{z:Str}(h:lets z):B7 (.str z):=V1 (Rx h)
theorem Ge(zs:List Str):dats (zs.map Bk)=some (zs.map PyData.str):=by
 rw [show zs.map Bk=(zs.map PyData.str).map .D by rw [Ybo];rfl];exact B6 _
theorem Od:∀(zs:List Str),txts (zs.map Bk)=some zs
 | []=>rfl
 | z :: zs=>by simp only [List.map_cons,Bk,txts,Option.map_eq_some_iff];exact⟨zs,Od zs,rfl⟩
theorem Qaf:∀i:Fin 26,∃c,("abcdefghijklmnopqrstuvwxyz" : Str).cps.toList[i.val]?=some c/\97<=c/\c<=122:=by decide +kernel
theorem Xq{v:Nat}(h:v < 26):∃c,atI ("abcdefghijklmnopqrstuvwxyz" : Str).cps.toList (v:Int)=some c/\97<=c/\c<=122:=by
 obtain⟨c,e,h1⟩:=Qaf ⟨v,h⟩
 exact⟨c,Ap e,h1⟩
theorem Oe{c:Nat}(h:97<=c/\c<=122):lets ⟨#[c]⟩:=λd hd=>by
 have:d=c:=by simpa using hd
 rw [this];exact h
theorem Xr:("abcdefghijklmnopqrstuvwxyz" : Str).length<=sizeLine:=by decide +kernel
theorem Xs:("" : Str).length=0:=by decide +kernel
theorem Mp(x y:Str):(x++y).length=x.length+y.length:=by rw [Mk,Mk,Mk,Rn,Yag]
theorem Of:∀{zs:List Str},(∀z∈zs,z.length=1)->(zs.map (·.length)).sum=zs.length
 | [],_=>rfl
 | z :: zs,h=>by
  simp only [List.map_cons,List.sum_cons,List.length_cons]
  rw [h z Yaz,Of λy hy=>h y (Yax _ hy)];omega
theorem T9(zs:List Str):(Txt.join "" zs).length=(zs.map (·.length)).sum:=by
 show(PySem.Builtin.Str.glued "" zs).length=_
 rw [StrLaws.glued_eq_join]
 induction zs with
 | nil=>rfl
 | cons x zs ih =>
  cases zs with
  | nil=>simp [Str.join]
  | cons y zs =>
   have e:Str.join "" (x :: y :: zs)=x ++ "" ++ Str.join "" (y :: zs):=rfl
   rw [e,Mp,Mp,Xs,ih]
   simp
abbrev Cm:List Str:=["place","letter","rule","own","arrow","ends","one","other"]
theorem Ua:B7 (.tuple (Cm.map PyData.str)):=⟨by decide +kernel,by decide +kernel⟩
theorem Qkp{x:AV}{i:Nat}{u:AS}{k:ASt->M->Prop}{r:AV->M->Prop}{b c:ASt->M->Prop}{τ:ASt}{μ:M}(h:u k r b c (τ.set i (some x)) μ):Vx (Ng (vC x) (Dx i)) u k r b c τ μ:=h
theorem Lh{zs:List Str}(h:∀z∈zs,lets z):B7 (.tuple (zs.map PyData.str)):=by
 have h2:PyData.canLayAll0 (zs.map PyData.str)=true/\PyData.depthAll (zs.map PyData.str)=0:=by
  induction zs with
  | nil=>exact⟨rfl,rfl⟩
  | cons z zs ih =>
   obtain⟨a,b⟩:=ih λy hy=>h y (.tail _ hy)
   have:=Rx (h z (.head _))
   simp only [List.map_cons,PyData.canLayAll0,PyData.depthAll,PyData.depth,a,b,this]
   exact⟨rfl,rfl⟩
 exact⟨by simp only [PyData.canLay0];exact h2.1,by simp only [PyData.depth,h2.2];decide⟩
theorem Mq(zs:List Str)(z:Str):((zs.map PyData.str).any λe=>PyData.eqv e (.str z))=decide (z∈zs):=by
 rw [Yen,List.any_eq_true,Yet]
 constructor
 ·rintro⟨e,he,h⟩
  obtain⟨y,hy,rfl⟩:=Ya2.mp he
  rw [Ga rfl rfl,Yet]at h
  cases h;exact hy
 ·intro h
  exact⟨.str z,Ya2.mpr ⟨z,h,rfl⟩,by rw [Ga rfl rfl];exact Ybd rfl⟩
def Og(z:Str):Bool:=z.cps.toList.all λc=>decide (97<=c) && decide (c<=122)
theorem Hw{z:Str}(h:Og z=true):lets z:=λc hc=>by
 have:=Yb2.mp h c hc
 simpa using this
structure KW(z:Str):Prop where
 l:lets z
 n:z.length<=6
 l1:lets (Txt.slice z (some 1) none)
 n1:(Txt.slice z (some 1) none).length<=5
 l2:lets (Txt.slice z none (some (-1)))
 n2:(Txt.slice z none (some (-1))).length<=5
theorem Qei:(Cm.all λz=>Og z && decide (z.length<=6) && Og (Txt.slice z (some 1) none) && decide ((Txt.slice z (some 1) none).length<=5) && Og (Txt.slice z none (some (-1))) && decide ((Txt.slice z none (some (-1))).length<=5))=true:=by decide +kernel
theorem Qhh{v:Nat}(h:v < 8):∃z,(Cm.map Bk)[v]?=some (Bk z)/\KW z:=by
 have hv:v < Cm.length:=h
 refine⟨Cm[v],by rw [List.getElem?_map,List.getElem?_eq_getElem hv];rfl,?_⟩
 have:=Yb2.mp Qei Cm[v] (Ybu hv)
 simp only [Bool.and_eq_true,decide_eq_true_iff]at this
 obtain⟨⟨⟨⟨⟨a,b⟩,c⟩,d⟩,e⟩,f⟩:=this
 exact⟨Hw a,b,Hw c,d,Hw e,f⟩
def spq(c:Nat):Str:=(⟨#[c]⟩:Str) ++ "q"
theorem Qej:(("abcdefghijklmnopqrstuvwxyz" : Str).cps.toList.map spq).Nodup:=by decide +kernel
theorem Qek:(("abcdefghijklmnopqrstuvwxyz" : Str).cps.toList.all λc=>Og (spq c) && decide ((spq c).length<=6) && decide (spq c∉Cm))=true:=by decide +kernel
theorem Xt:("abcdefghijklmnopqrstuvwxyz" : Str).cps.toList.length=26:=by decide +kernel
structure Nms(zs:List Str):Prop where
 l:∀z∈zs,lets z
 n:∀z∈zs,z.length<=6
 k:∀z∈zs,z∉Cm
 nd:zs.Nodup
theorem Nms.add{zs:List Str}{z:Str}(h:Nms zs)(h1:lets z)(h2:z.length<=6)(h3:z∉Cm)(h4:z∉zs):Nms (zs++[z]):=by
 refine⟨λy hy=>?_,λy hy=>?_,λy hy=>?_,?_⟩
 ·rcases Yap.mp hy with hy | hy
  ·exact h.l y hy
  ·rw [Ya8.mp hy];exact h1
 ·rcases Yap.mp hy with hy | hy
  ·exact h.n y hy
  ·rw [Ya8.mp hy];exact h2
 ·rcases Yap.mp hy with hy | hy
  ·exact h.k y hy
  ·rw [Ya8.mp hy];exact h3
 ·refine List.nodup_append.mpr ⟨h.nd,Ydf.mpr ⟨by simp,List.nodup_nil⟩,λa ha b hb=>?_⟩
  rw [Ya8.mp hb]
  rintro rfl;exact h4 ha
abbrev nNa:List Str:=["_law_state","_law_many","_law_letters","_law_kept","_law_found","_law_k","_law_word","_law_form","_law_name"]
theorem Jq:FnScope nNa ["_law_state","_law_many"] (Af sNa):=⟨rfl,rfl,rfl,by decide +kernel,rfl,by decide +kernel,by decide +kernel⟩
theorem Qhi:(["_law_j","_law_letters","_law_state"]:List Str).Nodup:=by decide +kernel
theorem Qhj:(["_law_letter","_law_found"]:List Str).Nodup:=by decide +kernel
def Qhk:ASp:=λxs μ R=>∃(a l:Addr) (au:Nat),xs=[.R a,.D (.int au)]/\au<=5/\Pot μ a l/\∀(zs:List Str) (p:Addr) μ',zs.length=au->Nms zs->μ p=none->μ' p=some (.lst (zs.map Bk))->Pot μ' a l->A7 a l μ μ'->R (.R p) μ'
theorem Qhl{n:Nat}(F:Fun K "_law_names" "_law_names" sNa f fd) (cf:VCal P w K mg base n "_law_draw" ["_law_state","_law_many"] J8) (al:mg "range" = none) (ag:mg "len" = none):FnOk P w K mg base Fb (n+1) f fd ["_law_state","_law_many"] (Jy K 2 Qhk):=by
 refine F.vok Jq λaz A outer s H E hr=>⟨_,(Ad (Ao (i:=2) Jq.nd rfl (Or.inr rfl) Ch)
   (Ad (Ao (i:=3) Jq.nd rfl (Or.inl rfl) (Fh (Aa Ch (Aa Ch (Aa Ch (Aa Ch (Aa Ch (Aa Ch (Aa Ch (Aa Ch Ac))))))))))
   (Ad (Ao (i:=4) Jq.nd rfl (Or.inr rfl) (Fh Ac))
   (Ad (Fj Ydy rfl (Ce rfl al (Aa (vv 1) Ac)) (A3 (i:=5) Jq.nd rfl (Or.inl rfl)) (Ad (Ao (i:=6) Jq.nd rfl (Or.inl rfl) (Ax Bg (vv 3) (Ai cf hr rfl (Aa (vv 0) (Aa Ab Ac)))))
   (Ad (Ao (i:=7) Jq.nd rfl (Or.inl rfl) (Ai cf hr rfl (Aa (vv 0) (Aa Ab Ac))))
   (Ad (Ao (i:=8) Jq.nd rfl (Or.inl rfl) (Qgp PySem.F.slot_str_join PySem.F.type_str_join Qdx Ch (Aa (Co (N':=["_law_j","_law_letters","_law_state"]) (mp:=[none,some 2,some 0]) rfl (Ce rfl al (Aa (Am A4 Ab (Ai cf hr rfl (Aa (vv 0) (Aa Ab Ac)))) Ac)) (λ_ _ _ _=>(A3 (i:=0) Qhi rfl (Or.inl rfl) (Or.inr rfl))) (λ_ _ _ _=>C6) (λ_ _ _ _=>(Ax Bg (vv 1) (Ai cf hr rfl (Aa (vv 2) (Aa Ab Ac))))) (Br (N:=nNa) (pn:=(Af sNa).names) (by decide +kernel))) Ac)))
   (Ad (Be (VW.pt (O9 (Az (Dr hr) (vv 7) Ab (nomark _)) (L5 (Az Im (Al Bl rfl ag Yaq (Aa (vv 6) Ac)) Ab (nomark _))))) (Ah (Ao (i:=8) Jq.nd rfl (Or.inl rfl) (Am A4 (vv 6) (Ax Bg (vv 2) (Ai cf hr rfl (Aa (vv 0) (Aa Ab Ac))))))) Aq)
   (Ad (Be (Az (Dr hr) (vv 7) Ab (nomark _)) (Ah (Ao (i:=8) Jq.nd rfl (Or.inl rfl) (Ax Bg (Fh (Aa (A0 (vv 6) (A8 Ab) Bd) (Aa (A0 (vv 6) Bd (A8 (Md Ab))) Ac))) (Ai cf hr rfl (Aa (vv 0) (Aa Ab Ac)))))) Aq)
   (Ad (Be (VW.pt (Fs (Az (Qgh hr) (vv 8) (vv 3) (by with_unfolding_all rfl)) (En (Az (Qgh hr) (vv 8) (vv 4) (by with_unfolding_all rfl))))) (Ah (Ao (i:=8) Jq.nd rfl (Or.inl rfl) (Ax Bg (Co (N':=["_law_letter","_law_found"]) (mp:=[none,some 4]) rfl (Qd7 (vv 2)) (λ_ _ _ _=>(A3 (i:=0) Qhj rfl (Or.inl rfl) (Or.inr rfl))) (λ_ _ _ _=>(Ep (Az (L7 hr) (Am A4 (vv 0) Ch) (vv 1) (by with_unfolding_all rfl)))) (λ_ _ _ _=>(Am A4 (vv 0) Ch)) (Br (N:=nNa) (pn:=(Af sNa).names) (by decide +kernel))) Ab))) Aq)
   (Ah (Ma (Vv Yeh Yei Io (vv 4) (Aa (vv 8) Ac)))))))))))
   (Ah (Ar (vv 4))))))),?_⟩
 rintro xs μ R _ ⟨a,l,au,rfl,hm,hP,q⟩
 refine Qkp (Ay (fun τ μ'=>∃pk,τ=[some (.R a),some (.D (.int au)),some (Bk "abcdefghijklmnopqrstuvwxyz"),some (.R pk),none,none,none,none,none]/\μ pk=none/\μ' pk=some (.lst (Cm.map Bk))/\Pot μ' a l/\A7 a l μ μ') (λZ hZ=>λpk u7=>hZ _ _ ⟨pk,rfl,u7,Ag,hP.new u7,A7.refl.new u7⟩) ?_)
 rintro τ μ1 ⟨pk,rfl,u7,e1,P1,S1⟩
 intro pf i0
 have j0:=hP.ne u7
 have ar:=P1.ne i0
 have jw:μ pf=none:=S1.none ar.1 ar.2 i0
 have hkf:pk≠pf:=by rintro rfl;rw [e1]at i0;cases i0
 refine Ay (fun τ μ'=>∃o5 o6 o7 o8 zs,τ=[some (.R a),some (.D (.int au)),some (Bk "abcdefghijklmnopqrstuvwxyz"),some (.R pk),some (.R pf),o5,o6,o7,o8]/\zs.length=au/\Nms zs/\μ' pf=some (.lst (zs.map Bk))/\Pot μ' a l/\A7 a l μ μ') (λZ hZ=>?_) ?_
 ·refine⟨by omega,by omega,?_⟩
  have ak:(Dl 0 (au:Int).toNat).length=au:=by rw [Bp];omega
  refine Ip (λi τ μ'=>∃o5 o6 o7 o8 zs,τ=[some (.R a),some (.D (.int au)),some (Bk "abcdefghijklmnopqrstuvwxyz"),some (.R pk),some (.R pf),o5,o6,o7,o8]/\zs.length=i/\Nms zs/\μ' pf=some (.lst (zs.map Bk))/\μ' pk=some (.lst (Cm.map Bk))/\Pot μ' a l/\A7 a l μ μ') ⟨none,none,none,none,[],rfl,rfl,⟨(λ_ z=>nomatch z),(λ_ z=>nomatch z),(λ_ z=>nomatch z),List.nodup_nil⟩,Ag,by rw [An hkf];exact e1,P1.new i0,S1.new i0⟩ (λ_ _ _ _=>trivial) ?_ ?_
  ·rintro i y τ μ2 Z2 hy ⟨o5,o6,o7,o8,zs,rfl,hn,hz,e2,k2,P2,S2⟩ hZ2
   have hi:i < au:=by rw [<- ak];exact(List.getElem?_eq_some_iff.mp hy).1
   have ey:=Fu _ _ _ hy
   subst ey
   refine Ay (fun τ μ'=>∃wd,τ=[some (.R a),some (.D (.int au)),some (Bk "abcdefghijklmnopqrstuvwxyz"),some (.R pk),some (.R pf),some (.D (.int (0+(i:Int)))),some (Bk wd),o7,o8]/\KW wd/\μ' pf=some (.lst (zs.map Bk))/\μ' pk=some (.lst (Cm.map Bk))/\Pot μ' a l/\A7 a l μ μ') (λZ3 cj=>?_) ?_
   ·refine⟨a,l,8,rfl,P2,by decide,by decide,λv μ3 hv P3 S3=>?_⟩
    obtain⟨z,ez,kz⟩:=Qhh hv
    have k3:=S3 pk _ j0.1.symm j0.2.symm k2
    exact Ae k3 (Ae (Ap ez) (cj _ _ ⟨z,rfl,kz,S3 pf _ ar.1.symm ar.2.symm e2,k3,P3,S2.trans S3⟩))
   rintro τ μ3 ⟨wd,rfl,kw,e3,k3,P3,S3⟩
   have oz:wd.length<=sizeLine:=Yas kw.n (by decide)
   refine Ay (fun τ μ'=>∃fm:Nat,τ=[some (.R a),some (.D (.int au)),some (Bk "abcdefghijklmnopqrstuvwxyz"),some (.R pk),some (.R pf),some (.D (.int (0+(i:Int)))),some (Bk wd),some (.D (.int fm)),o8]/\μ' pf=some (.lst (zs.map Bk))/\μ' pk=some (.lst (Cm.map Bk))/\Pot μ' a l/\A7 a l μ μ') (λZ3 cj=>?_) ?_
   ·exact⟨a,l,6,rfl,P3,by decide,by decide,λv μ4 hv P4 S4=>cj _ _ ⟨v,rfl,S4 pf _ ar.1.symm ar.2.symm e3,S4 pk _ j0.1.symm j0.2.symm k3,P4,S3.trans S4⟩⟩
   rintro τ μ4 ⟨fm,rfl,e4,k4,P4,S4⟩
   refine Ay (fun τ μ'=>∃nm:Str,τ=[some (.R a),some (.D (.int au)),some (Bk "abcdefghijklmnopqrstuvwxyz"),some (.R pk),some (.R pf),some (.D (.int (0+(i:Int)))),some (Bk wd),some (.D (.int fm)),some (Bk nm)]/\lets nm/\nm.length<=6/\μ' pf=some (.lst (zs.map Bk))/\μ' pk=some (.lst (Cm.map Bk))/\Pot μ' a l/\A7 a l μ μ') (λZ3 cj=>?_) ?_
   ·refine⟨trivial,a,l,6,rfl,P4,by decide,by decide,λc μ5 hc P5 S5=>⟨by omega,by omega,λpl hpl=>?_⟩⟩
    have qb:=P5.ne hpl
    have e5:=S5 pf _ ar.1.symm ar.2.symm e4
    have k5:=S5 pk _ j0.1.symm j0.2.symm k4
    have hlf:pf≠pl:=by rintro rfl;rw [e5]at hpl;cases hpl
    have hlk:pk≠pl:=by rintro rfl;rw [k5]at hpl;cases hpl
    have mw:(Dl 0 (1+(c:Int)).toNat).length=1+c:=by rw [Bp];omega
    refine Go (λj aj τ μ'=>∃(o:Option AV) (ys:List Str),τ=[o,some (Bk "abcdefghijklmnopqrstuvwxyz"),some (.R a)]/\aj=ys.map Bk/\ys.length=j/\(∀z∈ys,lets z/\z.length=1)/\μ' pl=some (.lst aj)/\μ' pf=some (.lst (zs.map Bk))/\μ' pk=some (.lst (Cm.map Bk))/\Pot μ' a l/\A7 a l μ5 μ') ⟨none,[],rfl,rfl,rfl,(λ_ z=>nomatch z),Ag,by rw [An hlf];exact e5,by rw [An hlk];exact k5,P5.new hpl,A7.refl.new hpl⟩ (λ_ _ _ _ _=>trivial) ?_ ?_
    ·rintro j x aj τ μ6 Z4 hx ⟨o,ys,rfl,rfl,hyl,hb,l6,e6,k6,P6,S6⟩ hZ4
     refine Mw rfl ⟨a,l,26,rfl,P6,by decide,by decide,λv μ7 hv P7 S7=>?_⟩
     have l7:=S7 pl _ qb.1.symm qb.2.symm l6
     obtain⟨ch,ec,fw⟩:=Xq hv
     have hj:j < 1+c:=by rw [<- mw];exact(List.getElem?_eq_some_iff.mp hx).1
     refine⟨Xr,Ae ec ⟨l7,Cd (by rw [Yac];omega),hZ4 _ _ _ ⟨_,ys++[⟨#[ch]⟩],rfl,by rw [Ybe];rfl,by rw [Yag,hyl];rfl,λz gc=>?_,Ag,by rw [An hlf];exact S7 pf _ ar.1.symm ar.2.symm e6,by rw [An hlk];exact S7 pk _ j0.1.symm j0.2.symm k6,P7.other qb.1 qb.2,(S6.trans S7).put hpl⟩⟩⟩
     rcases Yap.mp gc with h | h
     ·exact hb z h
     ·rw [Ya8.mp h];exact⟨Oe fw,rfl⟩
    ·rintro aj τ μ6 ⟨o,ys,rfl,rfl,hyl,hb,l6,e6,k6,P6,S6⟩
     rw [mw]at hyl
     have v5:=Of λz gc=>(hb z gc).2
     refine Ae l6 (Ae (Od ys) ⟨?_,cj _ _ ⟨Txt.join "" ys,rfl,Tt λz gc=>(hb z gc).1,?_,e6,k6,P6,S4.trans (S5.trans S6)⟩⟩)
     ·rw [v5,Xs];omega
     ·rw [T9,v5];omega
   rintro τ μ5 ⟨nm0,rfl,ln0,i5,e5,k5,P5,S5⟩
   refine Ay (fun τ μ'=>∃nm:Str,τ=[some (.R a),some (.D (.int au)),some (Bk "abcdefghijklmnopqrstuvwxyz"),some (.R pk),some (.R pf),some (.D (.int (0+(i:Int)))),some (Bk wd),some (.D (.int fm)),some (Bk nm)]/\lets nm/\nm.length<=6/\μ' pf=some (.lst (zs.map Bk))/\μ' pk=some (.lst (Cm.map Bk))/\Pot μ' a l/\A7 a l μ μ') (λZ3 cj=>?_) ?_
   ·refine ieq (λc=>⟨oz,dif (λc2=>?_) (λc2=>cj _ _ ⟨nm0,rfl,ln0,i5,e5,k5,P5,S5⟩)⟩) (λc=>Uf rfl (cj _ _ ⟨nm0,rfl,ln0,i5,e5,k5,P5,S5⟩))
    refine⟨a,l,26,rfl,P5,by decide,by decide,λv μ6 hv P6 S6=>?_⟩
    obtain⟨ch,ec,fw⟩:=Xq hv
    have l1:(wd++(⟨#[ch]⟩:Str)).length=wd.length+1:=by rw [Mp];rfl
    refine⟨Xr,Ae ec ⟨?_,cj _ _ ⟨_,rfl,Ji kw.l (Oe fw),by rw [l1];omega,S6 pf _ ar.1.symm ar.2.symm e5,S6 pk _ j0.1.symm j0.2.symm k5,P6,S5.trans S6⟩⟩⟩
    show wd.length+1<=sizeLine
    exact Yas (show _<=10 by have:=kw.n;omega) (by decide)
   rintro τ μ6 ⟨nm1,rfl,ln1,hn1,e6,k6,P6,S6⟩
   refine Ay (fun τ μ'=>∃nm:Str,τ=[some (.R a),some (.D (.int au)),some (Bk "abcdefghijklmnopqrstuvwxyz"),some (.R pk),some (.R pf),some (.D (.int (0+(i:Int)))),some (Bk wd),some (.D (.int fm)),some (Bk nm)]/\lets nm/\nm.length<=6/\μ' pf=some (.lst (zs.map Bk))/\μ' pk=some (.lst (Cm.map Bk))/\Pot μ' a l/\A7 a l μ μ') (λZ3 cj=>?_) ?_
   ·refine ieq (λc=>?_) (λc=>cj _ _ ⟨nm1,rfl,ln1,hn1,e6,k6,P6,S6⟩)
    refine⟨oz,oz,λp2 fv=>⟨a,l,2,rfl,P6.new fv,by decide,by decide,λv μ7 hv P7 S7=>?_⟩⟩
    have h2f:pf≠p2:=by rintro rfl;rw [e6]at fv;cases fv
    have h2k:pk≠p2:=by rintro rfl;rw [k6]at fv;cases fv
    have j6:=P6.ne fv
    refine Ae (S7 p2 _ j6.1.symm j6.2.symm Ag) ?_
    have e7:=S7 pf _ ar.1.symm ar.2.symm (show Bh μ6 p2 _ pf=_ by rw [An h2f];exact e6)
    have k7:=S7 pk _ j0.1.symm j0.2.symm (show Bh μ6 p2 _ pk=_ by rw [An h2k];exact k6)
    have S8:=(S6.new fv).trans S7
    rcases(show v=0\/v=1 by omega) with rfl | rfl
    ·exact Ae (Ap (j:=0) rfl) (cj _ _ ⟨_,rfl,kw.l1,Ye3 kw.n1,e7,k7,P7,S8⟩)
    ·exact Ae (Ap (j:=1) rfl) (cj _ _ ⟨_,rfl,kw.l2,Ye3 kw.n2,e7,k7,P7,S8⟩)
   rintro τ μ7 ⟨nm,rfl,ln,qb,e7,k7,P7,S7⟩
   refine Ay (fun τ μ'=>∃nm:Str,τ=[some (.R a),some (.D (.int au)),some (Bk "abcdefghijklmnopqrstuvwxyz"),some (.R pk),some (.R pf),some (.D (.int (0+(i:Int)))),some (Bk wd),some (.D (.int fm)),some (Bk nm)]/\lets nm/\nm.length<=6/\nm∉Cm/\nm∉zs/\μ' pf=some (.lst (zs.map Bk))/\μ' pk=some (.lst (Cm.map Bk))/\Pot μ' a l/\A7 a l μ μ') (λZ3 cj=>?_) ?_
   ·have sw:∀c∈("abcdefghijklmnopqrstuvwxyz" : Str).cps.toList,lets (spq c)/\(spq c).length<=6/\spq c∉Cm:=λc hc=>by
     have:=Yb2.mp Qek c hc
     simp only [Bool.and_eq_true,decide_eq_true_iff]at this
     exact⟨Hw this.1.1,this.1.2,this.2⟩
    have m4:Ng (Y0 aIx (Q0 [none,some 4] (Qg7 (L4 2)) (Dx 0) (Na (Y0 (aIn λb=>!b) (Y0 Qc8 (L4 0) (vC (.D (.str "q")))) (L4 1))) (Y0 Qc8 (L4 0) (vC (.D (.str "q"))))) (vC (.D (.int 0)))) (Dx 8) Z3 (X6 R) Z Z2 [some (.R a),some (.D (.int au)),some (Bk "abcdefghijklmnopqrstuvwxyz"),some (.R pk),some (.R pf),some (.D (.int (0+(i:Int)))),some (Bk wd),some (.D (.int fm)),some (Bk nm)] μ7:=by
     intro pq kc
     have xj:pf≠pq:=by rintro rfl;rw [e7]at kc;cases kc
     have hqk:pk≠pq:=by rintro rfl;rw [k7]at kc;cases kc
     have hb2:∀c:Nat,(⟨#[c]⟩:Str).length+("q" : Str).length<=sizeLine:=λc=>Yas (show 1+1<=2 from Yaf _) (by decide)
     refine cmapf ("abcdefghijklmnopqrstuvwxyz" : Str).cps.toList chA (λc=>!decide (spq c∈zs)) (λc=>Bk (spq c)) (fun τ=>∃o,τ=[o,some (.R pf)]) ⟨none,rfl⟩ Ag (by rw [Xt];decide) (λ_=>trivial) ?_ ?_
     ·rintro k c τ' aj W W2 hk ⟨o,rfl⟩ w1 w2
      have hs:=sw c (Ybr hk)
      refine⟨hb2 c,Ae rfl (Ae (Bi (by rw [An xj,An xj];exact e7)) (Ae (Ge zs) ⟨G0 hs.1,Lh hz.l,?_⟩))⟩
      rw [Mq]
      exact br (λc1=>⟨hb2 c,w1 c1 _ ⟨_,rfl⟩⟩) (λc1=>w2 c1 _ ⟨_,rfl⟩)
     ·cases hf:("abcdefghijklmnopqrstuvwxyz" : Str).cps.toList.filter (λc=>!decide (spq c∈zs)) with
      | nil =>
       have fe:=List.filter_eq_nil_iff.mp hf
       have:=D6 Qej λz gc=>by
        obtain⟨c,hc,rfl⟩:=Ya2.mp gc
        have:=fe c hc
        simpa using this
       rw [Yac,Xt]at this
       omega
      | cons c0 rest =>
       have hc0:c0∈("abcdefghijklmnopqrstuvwxyz" : Str).cps.toList.filter (λc=>!decide (spq c∈zs)):=by rw [hf];exact .head _
       obtain⟨hm0,hn0'⟩:=List.mem_filter.mp hc0
       obtain⟨q1,q2,q3⟩:=sw c0 hm0
       refine Ae Ag (Ae (Ap (j:=0) rfl) (cj _ _ ⟨spq c0,rfl,q1,q2,q3,by simpa using hn0',by rw [An xj,An xj];exact e7,by rw [An hqk,An hqk];exact k7,(P7.new kc).other (P7.ne kc).1 (P7.ne kc).2,(S7.new kc).put (S7.none (P7.ne kc).1 (P7.ne kc).2 kc)⟩))
    refine Ae rfl (Ae (Bi k7) (Ae (Ge Cm) ⟨G0 ln,Ua,?_⟩))
    rw [Mq]
    refine br (λc=>Mw rfl m4) (λc=>?_)
    refine Ae rfl (Ae (Bi e7) (Ae (Ge zs) ⟨G0 ln,Lh hz.l,?_⟩))
    rw [Mq]
    exact br (λc2=>m4) (λc2=>cj _ _ ⟨nm,rfl,ln,qb,Yda c,Yda c2,e7,k7,P7,S7⟩)
   rintro τ μ8 ⟨nm',rfl,ln',hnl',cy,gc,e8,k8,P8,S8⟩
   exact⟨Ae e8 trivial,Ae e8 ⟨Cd (by rw [Yac];omega),hZ2 _ _ ⟨_,_,_,_,zs++[nm'],rfl,by rw [Yag,hn];rfl,hz.add ln' hnl' cy gc,by rw [Ag,Ybe];rfl,by rw [An hkf];exact k8,P8.other ar.1 ar.2,S8.put jw⟩⟩⟩
  ·rintro τ μ2 ⟨o5,o6,o7,o8,zs,rfl,hn,hz,e2,k2,P2,S2⟩
   rw [ak]at hn
   exact hZ _ _ ⟨_,_,_,_,zs,rfl,hn,hz,e2,P2,S2⟩
 ·rintro τ μ2 ⟨o5,o6,o7,o8,zs,rfl,hn,hz,e2,P2,S2⟩
  exact⟨_,Sub.refl,q zs pf _ hn hz jw e2 P2 S2⟩
end
section
variable {P:Program}{w:World}{K:PySem.W.Frag}{mg:Str->Option Value}{base:Heap}{f:Addr}{fd:FuncData}
structure Rul where
 p:Nat
 x:Nat
 q:Nat
 w:List Nat
def Fm(r:Rul):PyData:=.tuple [.int r.p,.int r.x,.int r.q,Cy r.w]
def C2(r:Rul):AV:=.D (Fm r)
structure RulOk(pl le:Nat)(r:Rul):Prop where
 p:r.p < pl
 x:r.x < le
 q:r.q < pl
 w:∀z∈r.w,z < le
 n:r.w.length<=2
theorem Oh:∀(ns:List Nat),PyData.depthAll (ns.map λ(n:Nat)=>.int n)<=0
 | []=>Yaf _
 | n :: ns=>by
  have:=Oh ns
  simp only [List.map_cons,PyData.depthAll,PyData.depth];omega
theorem Qf(r:Rul):(Fm r).canLay0=true/\(Fm r).depth<=2/\Cano (Fm r)=true:=by
 have h1:=Hv (ns:=r.w)
 have h2:=Gz r.w
 refine⟨?_,?_,?_⟩
 ·simp only [Fm,Cy,PyData.canLay0,PyData.canLayAll0,h1.1,Bool.and_true]
 ·have:=h1.2
  simp only [Fm,Cy,PyData.depth,PyData.depthAll]
  have e:PyData.depthAll (r.w.map λ(n:Nat)=>.int n)<=0:=Oh r.w
  omega
 ·simp only [Fm,Cy,Cano,Aj,h2,Bool.and_true,Bool.true_and]
theorem Mr:∀(B:List Rul),PyData.canLayAll0 (B.map Fm)=true/\PyData.depthAll (B.map Fm)<=2/\Aj (B.map Fm)=true
 | []=>⟨rfl,by simp [PyData.depthAll],rfl⟩
 | a :: B=>by
  obtain⟨h1,h2,h3⟩:=Qf a
  obtain⟨k1,k2,k3⟩:=Mr B
  simp only [List.map_cons,PyData.canLayAll0,PyData.depthAll,Aj,h1,h3,k1,k3,Bool.and_self,true_and,and_true]
  omega
theorem Xu(a:Rul):B7 (Fm a):=⟨(Qf a).1,Yas (Qf a).2.1 (by decide)⟩
theorem Ub(B:List Rul):B7 (.tuple (B.map Fm)):=⟨by simp only [PyData.canLay0];exact(Mr B).1,by have:=(Mr B).2.1;simp only [PyData.depth];omega⟩
theorem Oi(B:List Rul):dats (B.map C2)=some (B.map Fm):=by
 rw [show(B.map C2)=(B.map Fm).map .D by rw [Ybo];rfl];exact B6 _
structure Gam where
 pl:List (Str×Nat)
 le:List Str
 rs:List Rul
def J9(p:Str×Nat):PyData:=.tuple [.str p.1,.int p.2]
def Bz(g:Gam):PyData:=.tuple [.tuple (g.pl.map J9),.tuple (g.le.map PyData.str),.tuple (g.rs.map Fm)]
structure GamOk(g:Gam)(nr:Nat):Prop where
 p0:0 < g.pl.length
 p1:g.pl.length<=3
 l0:0 < g.le.length
 l1:g.le.length<=3
 r1:g.rs.length<=nr
 hd:∀p∈g.pl,p.2 < 2
 pn:Nms (g.pl.map (·.1))
 ln:Nms g.le
 ru:∀r∈g.rs,RulOk g.pl.length g.le.length r
theorem fives:∀v:Fin 5,∃w,([0,0,1,1,2]:List Nat)[v.val]?=some w/\w<=2:=by decide +kernel
abbrev nGa:List Str:=["_law_state","_law_most","_law_places","_law_letters","_law_rules","_law_k","_law_p","_law_x","_law_q","_law_size","_law_rule","_law_alike"]
theorem Hq:FnScope nGa ["_law_state","_law_most"] (Af Xn):=⟨rfl,rfl,rfl,by decide +kernel,rfl,by decide +kernel,by decide +kernel⟩
theorem Qhm:(["_law_name","_law_state"]:List Str).Nodup:=by decide +kernel
theorem Qhn:(["_law_some_here","_law_state"]:List Str).Nodup:=by decide +kernel
theorem Qho:(["_law_rule"]:List Str).Nodup:=by decide +kernel
theorem Qhp:(["_law_j","_law_state","_law_letters"]:List Str).Nodup:=by decide +kernel
theorem Qhq:(["_law_one","_law_p","_law_x"]:List Str).Nodup:=by decide +kernel
def plA(z:Str×Nat):AV:=.D (J9 z)
theorem Qag(L:List (Str×Nat)):dats (L.map plA)=some (L.map J9):=by
 rw [show(L.map plA)=(L.map J9).map .D by rw [Ybo];rfl];exact B6 _
def Qel:ASp:=λxs μ R=>∃(a l:Addr) (nr:Nat),xs=[.R a,.D (.int nr)]/\nr<=10/\Pot μ a l/\∀(g:Gam) μ',GamOk g nr->Pot μ' a l->A7 a l μ μ'->R (.D (Bz g)) μ'
theorem Qhr{n:Nat}(F:Fun K "_law_game" "_law_game" Xn f fd) (cf:VCal P w K mg base n "_law_draw" ["_law_state","_law_many"] J8) (cNa:VCal P w K mg base n "_law_names" ["_law_state","_law_many"] Qhk) (am:mg "tuple" = none) (al:mg "range" = none) (ag:mg "len" = none) (kd:mg "min" = none):FnOk P w K mg base Fb (n+1) f fd ["_law_state","_law_most"] (Jy K 2 Qel):=by
 refine F.vok Hq λaz A outer s H E hr=>⟨_,(Ad (Ao (i:=2) Hq.nd rfl (Or.inl rfl) (B8 Dn rfl am Yb1 (Aa (Co (N':=["_law_name","_law_state"]) (mp:=[none,some 0]) rfl (Er (Ai cNa hr rfl (Aa (vv 0) (Aa (Am A4 Ab (Ai cf hr rfl (Aa (vv 0) (Aa Ab Ac)))) Ac)))) (λ_ _ _ _=>(A3 (i:=0) Qhm rfl (Or.inl rfl) (Or.inr rfl))) (λ_ _ _ _=>C6) (λ_ _ _ _=>(Bc (Aa (vv 0) (Aa (Ai cf hr rfl (Aa (vv 1) (Aa Ab Ac))) Ac)))) (Br (N:=nGa) (pn:=(Af Xn).names) (by decide +kernel))) Ac)))
   (Ad (Ao (i:=3) Hq.nd rfl (Or.inr rfl) (B8 Dn rfl am Yb1 (Aa (Ai cNa hr rfl (Aa (vv 0) (Aa (Am A4 Ab (Ai cf hr rfl (Aa (vv 0) (Aa Ab Ac)))) Ac))) Ac)))
   (Ad (Ao (i:=4) Hq.nd rfl (Or.inl rfl) (Fh Ac))
   (Ad (Fj Ydy rfl (Ce rfl al (Aa (Ai cf hr rfl (Aa (vv 0) (Aa (Am A4 (vv 1) Ab) Ac))) Ac)) (A3 (i:=5) Hq.nd rfl (Or.inl rfl)) (Ad (Fi (Co (N':=["_law_some_here","_law_state"]) (mp:=[none,some 0]) rfl (Er (Bc (Aa (vv 2) (Aa (vv 3) (Aa (vv 2) Ac))))) (λ_ _ _ _=>(A3 (i:=0) Qhn rfl (Or.inl rfl) (Or.inr rfl))) (λ_ _ _ _=>C6) (λ_ _ _ _=>(Ai cf hr rfl (Aa (vv 1) (Aa (Al Bl rfl ag Yaq (Aa (vv 0) Ac)) Ac)))) (Br (N:=nGa) (pn:=(Af Xn).names) (by decide +kernel))) (Qaa (n:=3) rfl (B2 (A3 (i:=6) Hq.nd rfl (Or.inr rfl)) (B2 (A3 (i:=7) Hq.nd rfl (Or.inr rfl)) (B2 (A3 (i:=8) Hq.nd rfl (Or.inl rfl)) Ft)))))
   (Ad (Ao (i:=9) Hq.nd rfl (Or.inl rfl) (Ax Bg (Fh (Aa Ab (Aa Ab (Aa Ab (Aa Ab (Aa Ab Ac)))))) (Ai cf hr rfl (Aa (vv 0) (Aa Ab Ac)))))
   (Ad (Be (Az (Dr hr) (Al Bl rfl ag Yaq (Aa (Co (N':=["_law_rule"]) (mp:=[none]) rfl (Er (vv 4)) (λ_ _ _ _=>(A3 (i:=0) Qho rfl (Or.inl rfl) (Or.inr rfl))) (λ_ _ _ _=>(Ep (Az (Dr hr) (Al Bl rfl ag Yaq (Aa (Ax Bg (vv 0) Ab) Ac)) Ab (nomark _)))) (λ_ _ _ _=>(vv 0)) (Br (N:=nGa) (pn:=(Af Xn).names) (by decide +kernel))) Ac)) Ab (nomark _)) (Ah (Ao (i:=9) Hq.nd rfl (Or.inl rfl) (Al (Qdb rfl) rfl kd PyProof.Rows.boot_min (Aa (vv 9) (Aa Ab Ac))))) Aq)
   (Ad (Ao (i:=10) Hq.nd rfl (Or.inl rfl) (Bc (Aa (vv 6) (Aa (vv 7) (Aa (vv 8) (Aa (B8 Dn rfl am Yb1 (Aa (Co (N':=["_law_j","_law_state","_law_letters"]) (mp:=[none,some 0,some 3]) rfl (Ce rfl al (Aa (vv 9) Ac)) (λ_ _ _ _=>(A3 (i:=0) Qhp rfl (Or.inl rfl) (Or.inr rfl))) (λ_ _ _ _=>C6) (λ_ _ _ _=>(Ai cf hr rfl (Aa (vv 1) (Aa (Al Bl rfl ag Yaq (Aa (vv 2) Ac)) Ac)))) (Br (N:=nGa) (pn:=(Af Xn).names) (by decide +kernel))) Ac)) Ac))))))
   (Ad (Y5 (i:=11) (N':=["_law_one","_law_p","_law_x"]) (mp:=[none,some 6,some 7]) rfl Hq.nd rfl rfl (Er (vv 4)) (λ_ _ _ _=>(A3 (i:=0) Qhq rfl (Or.inl rfl) (Or.inr rfl))) (λ_ _ _ _=>(Ep (Az (Dr hr) (A0 (vv 0) Bd (A8 Ab)) (Bc (Aa (vv 1) (Aa (vv 2) Ac))) (nomark _)))) (λ_ _ _ _=>(vv 0)) (Br (N:=nGa) (pn:=(Af Xn).names) (by decide +kernel)))
   (Ah (Be (VW.pt (O9 (Az (L7 hr) (vv 10) (vv 4) (by with_unfolding_all rfl)) (L5 (VW.pt (Fs (Az (Dr hr) (Ax Bg (Ax Bg (vv 2) (vv 6)) Ab) Ab (nomark _)) (En (Az Im (Al Bl rfl ag Yaq (Aa (vv 11) Ac)) Ab (nomark _)))))))) (Ah (Ma (Vv Yeh Yei Io (vv 4) (Aa (vv 10) Ac)))) Aq))))))))
   (Ah (Ar (Bc (Aa (vv 2) (Aa (vv 3) (Aa (B8 Dn rfl am Yb1 (Aa (vv 4) Ac)) Ac)))))))))),?_⟩
 rintro xs μ R _ ⟨a,l,nr,rfl,hnr,hP,q⟩
 refine Ay (fun τ μ'=>∃(L:List (Str×Nat)),τ=[some (.R a),some (.D (.int nr)),some (.D (.tuple (L.map J9))),none,none,none,none,none,none,none,none,none]/\0 < L.length/\L.length<=3/\(∀z∈L,z.2 < 2)/\Nms (L.map (·.1))/\Pot μ' a l/\A7 a l μ μ') (λZ hZ=>?_) ?_
 ·refine⟨a,l,3,rfl,hP,by decide,by decide,λv μ1 hv P1 S1=>⟨a,l,1+v,rfl,by omega,P1,λzs pz μ2 wo hN hpz e2 P2 S2=>Ae (Bi e2) λpc bt=>?_⟩⟩
  have hnz:=P1.ne hpz
  have ar:=P2.ne bt
  have hzc:pz≠pc:=by rintro rfl;rw [e2]at bt;cases bt
  refine Go (λj aj τ μ'=>∃(o:Option AV) (L:List (Str×Nat)),τ=[o,some (.R a)]/\aj=L.map plA/\L.map (·.1)=zs.take j/\(∀z∈L,z.2 < 2)/\μ' pc=some (.lst aj)/\μ' pz=some (.lst (zs.map Bk))/\Pot μ' a l/\A7 a l μ2 μ') ⟨none,[],rfl,rfl,rfl,(λ_ z=>nomatch z),Ag,by rw [An hzc];exact e2,P2.new bt,A7.refl.new bt⟩ (λ_ _ _ _ ⟨_,_,_,_,_,_,_,e,_⟩=>Bi e) ?_ ?_
  ·rintro j y aj τ μ3 Z2 hy ⟨o,L,rfl,rfl,hL,hb,e3,z3,P3,S3⟩ hZ2
   rw [List.getElem?_map]at hy
   obtain⟨z,hz,rfl⟩:=Ybl.mp hy
   have hj:j < zs.length:=(List.getElem?_eq_some_iff.mp hz).1
   have hLl:L.length<=3:=by have:=Ydl List.length hL;rw [Yac,Ybs]at this;omega
   refine Mw rfl ⟨a,l,2,rfl,P3,by decide,by decide,λh μ4 hh P4 S4=>?_⟩
   refine⟨S4 pc _ ar.1.symm ar.2.symm e3,Cd (by rw [Yac];omega),hZ2 _ _ _ ⟨_,L++[(z,h)],rfl,by rw [Ybe];rfl,by rw [Ybe,hL,Yds,hz];rfl,λy hy=>?_,Ag,by rw [An hzc];exact S4 pz _ hnz.1.symm hnz.2.symm z3,P4.other ar.1 ar.2,(S3.trans S4).put bt⟩⟩
   rcases Yap.mp hy with hy | hy
   ·exact hb y hy
   ·rw [Ya8.mp hy];exact hh
  ·rintro aj τ μ3 ⟨o,L,rfl,rfl,hL,hb,e3,z3,P3,S3⟩
   rw [Yac,Yfb]at hL
   have hLl:L.length=1+v:=by have:=Ydl List.length hL;rw [Yac]at this;omega
   exact Ae (Bi e3) (Ae (Qag L) (hZ _ _ ⟨L,rfl,by omega,by omega,hb,by rw [hL];exact hN,P3,(S1.trans S2).trans S3⟩))
 rintro τ μ1 ⟨L,rfl,hL0,hL3,hLh,hLn,P1,S1⟩
 refine Ay (fun τ μ'=>∃(zs:List Str),τ=[some (.R a),some (.D (.int nr)),some (.D (.tuple (L.map J9))),some (.D (.tuple (zs.map PyData.str))),none,none,none,none,none,none,none,none]/\0 < zs.length/\zs.length<=3/\Nms zs/\Pot μ' a l/\A7 a l μ μ') (λZ hZ=>?_) ?_
 ·exact⟨a,l,3,rfl,P1,by decide,by decide,λv μ2 hv P2 S2=>⟨a,l,1+v,rfl,by omega,P2,λzs pz μ3 wo hN hpz e3 P3 S3=>Ae (Bi e3) (Ae (Ge zs) (hZ _ _ ⟨zs,rfl,by omega,by omega,hN,P3,(S1.trans S2).trans S3⟩))⟩⟩
 rintro τ μ2 ⟨zs,rfl,hz0,hz3,hzn,P2,S2⟩
 intro pf i0
 have ar:=P2.ne i0
 have jw:=S2.none ar.1 ar.2 i0
 refine Ay (fun τ μ'=>∃o5 o6 o7 o8 o9 md li,∃B:List Rul,τ=[some (.R a),some (.D (.int nr)),some (.D (.tuple (L.map J9))),some (.D (.tuple (zs.map PyData.str))),some (.R pf),o5,o6,o7,o8,o9,md,li]/\μ' pf=some (.lst (B.map C2))/\B.length<=nr/\(∀r∈B,RulOk L.length zs.length r)/\Pot μ' a l/\A7 a l μ μ') (λZ hZ=>?_) ?_
 ·refine⟨a,l,nr+1,rfl,P2.new i0,by omega,by omega,λau μ3 hmany P3 S3=>⟨by omega,by omega,?_⟩⟩
  have e3:=S3 pf _ ar.1.symm ar.2.symm Ag
  have ak:(Dl 0 (au:Int).toNat).length=au:=by rw [Bp];omega
  refine Ip (λi τ μ'=>∃o5 o6 o7 o8 o9 md li,∃B:List Rul,τ=[some (.R a),some (.D (.int nr)),some (.D (.tuple (L.map J9))),some (.D (.tuple (zs.map PyData.str))),some (.R pf),o5,o6,o7,o8,o9,md,li]/\μ' pf=some (.lst (B.map C2))/\B.length<=i/\(∀r∈B,RulOk L.length zs.length r)/\Pot μ' a l/\A7 a l μ μ') ⟨none,none,none,none,none,none,none,[],rfl,e3,Yaf _,(λ_ z=>nomatch z),P3,(S2.new i0).trans S3⟩ (λ_ _ _ _=>trivial) ?_ ?_
  ·rintro i y τ μ4 Z2 hy ⟨o5,o6,o7,o8,o9,md,li,B,rfl,e4,hB,kB,P4,S4⟩ hZ2
   have hi:i < au:=by rw [<- ak];exact(List.getElem?_eq_some_iff.mp hy).1
   refine Ay (fun τ μ'=>∃p x t:Nat,τ=[some (.R a),some (.D (.int nr)),some (.D (.tuple (L.map J9))),some (.D (.tuple (zs.map PyData.str))),some (.R pf),some y,some (.D (.int p)),some (.D (.int x)),some (.D (.int t)),o9,md,li]/\p < L.length/\x < zs.length/\t < L.length/\μ' pf=some (.lst (B.map C2))/\Pot μ' a l/\A7 a l μ μ') (λZ3 cj=>?_) ?_
   ·refine Ae (x:=[.D (.tuple (L.map J9)),.D (.tuple (zs.map PyData.str)),.D (.tuple (L.map J9))]) rfl λpc bt=>?_
    have fx:=P4.ne bt
    have je:pf≠pc:=by rintro rfl;rw [e4]at bt;cases bt
    refine Go (λj aj τ μ'=>∃(o:Option AV) (vs:List Nat),τ=[o,some (.R a)]/\aj=vs.map Ho/\vs.length=j/\(∀k v,vs[k]?=some v->v < [L.length,zs.length,L.length].getD k 0)/\μ' pc=some (.lst aj)/\μ' pf=some (.lst (B.map C2))/\Pot μ' a l/\A7 a l μ μ') ⟨none,[],rfl,rfl,rfl,(λk v z=>by simp at z),Ag,by rw [An je];exact e4,P4.new bt,S4.new bt⟩ (λ_ _ _ _ _=>rfl) ?_ ?_
    ·rintro j z aj τ μ5 Z4 hz ⟨o,vs,rfl,rfl,pe,hvs,c5,e5,P5,S5⟩ hZ4
     obtain⟨ds,rfl,hds,hd0,wn⟩:∃ds:List PyData,z=.D (.tuple ds)/\ds.length=[L.length,zs.length,L.length].getD j 0/\0 < ds.length/\ds.length<=3:=by
      match j,hz with
      | 0,hz=>cases hz;exact⟨_,rfl,by rw [Yac];rfl,by rw [Yac];omega,by rw [Yac];omega⟩
      | 1,hz=>cases hz;exact⟨_,rfl,by rw [Yac];rfl,by rw [Yac];omega,by rw [Yac];omega⟩
      | 2,hz=>cases hz;exact⟨_,rfl,by rw [Yac];rfl,by rw [Yac];omega,by rw [Yac];omega⟩
      | k+3,hz=>simp at hz
     have hj:j < 3:=(List.getElem?_eq_some_iff.mp hz).1
     refine Mw rfl ⟨a,l,ds.length,rfl,P5,hd0,by omega,λv μ6 hv P6 S6=>?_⟩
     refine⟨S6 pc _ fx.1.symm fx.2.symm c5,Cd (by rw [Yac];omega),hZ4 _ _ _ ⟨_,vs++[v],rfl,by rw [Ybe];rfl,by rw [Yag,pe];rfl,λk u hu=>?_,Ag,by rw [An je];exact S6 pf _ ar.1.symm ar.2.symm e5,P6.other fx.1 fx.2,(S5.trans S6).put (S4.none fx.1 fx.2 bt)⟩⟩
     rcases Yb9 k vs.length with c | c
     ·rw [List.getElem?_append_left c]at hu;exact hvs k u hu
     ·rw [List.getElem?_append_right c]at hu
      have hk:k=j:=by
       rcases Yer (k - vs.length) with z0 | z0
       ·omega
       ·rw [List.getElem?_eq_none (show [v].length<=k - vs.length from z0)]at hu;cases hu
      subst hk
      rw [pe,Ye7]at hu
      cases hu
      rw [<- hds];exact hv
    ·rintro aj τ μ5 ⟨o,vs,rfl,rfl,pe,hvs,c5,e5,P5,S5⟩
     match vs,pe with
     | [p,x,t],_ =>
      exact Ae c5 ⟨rfl,cj _ _ ⟨p,x,t,rfl,hvs 0 p rfl,hvs 1 x rfl,hvs 2 t rfl,e5,P5,S5⟩⟩
   rintro τ μ5 ⟨p,x,t,rfl,hp,hx,ht,e5,P5,S5⟩
   refine Ay (fun τ μ'=>∃sz:Nat,τ=[some (.R a),some (.D (.int nr)),some (.D (.tuple (L.map J9))),some (.D (.tuple (zs.map PyData.str))),some (.R pf),some y,some (.D (.int p)),some (.D (.int x)),some (.D (.int t)),some (.D (.int sz)),md,li]/\sz<=2/\μ' pf=some (.lst (B.map C2))/\Pot μ' a l/\A7 a l μ μ') (λZ3 cj=>?_) ?_
   ·intro p8 qz
    have hn8:=P5.ne qz
    refine⟨a,l,5,rfl,P5.new qz,by decide,by decide,λv μ6 hv P6 S6=>?_⟩
    obtain⟨wd,ew,hw⟩:=fives ⟨v,hv⟩
    have e8:=S6 p8 _ hn8.1.symm hn8.2.symm Ag
    have eB1:=S6 pf _ ar.1.symm ar.2.symm (by rw [An (by rintro rfl;rw [e5]at qz;cases qz)];exact e5)
    exact Ae e8 (Ae (Ap (j:=v) (xs:=[0,0,1,1,2].map Ho) (by rw [List.getElem?_map,ew];rfl)) (cj _ _ ⟨wd,rfl,hw,eB1,P6,(S5.new qz).trans S6⟩))
   rintro τ μ6 ⟨sz0,rfl,hsz0,e6,P6,S6⟩
   refine Ay (fun τ μ'=>∃sz:Nat,τ=[some (.R a),some (.D (.int nr)),some (.D (.tuple (L.map J9))),some (.D (.tuple (zs.map PyData.str))),some (.R pf),some y,some (.D (.int p)),some (.D (.int x)),some (.D (.int t)),some (.D (.int sz)),md,li]/\sz<=2/\μ' pf=some (.lst (B.map C2))/\Pot μ' a l/\A7 a l μ μ') (λZ3 cj=>?_) ?_
   ·refine Ae (Bi e6) λpc bt=>?_
    have fx:=P6.ne bt
    have je:pf≠pc:=by rintro rfl;rw [e6]at bt;cases bt
    refine cmapf B C2 (λr=>decide (r.w.length=2)) C2 (fun τ=>∃o,τ=[o]) ⟨none,rfl⟩ Ag (seven (by omega)) (λaj=>Bi (by rw [An je,An je];exact e6)) ?_ ?_
    ·rintro k r τ' aj W W2 hk ⟨o,rfl⟩ h1 h2
     exact Ae (Ap (j:=3) rfl) (ieq (λc1=>h1 (Ybd (by rw [Yac]at c1;omega)) _ ⟨_,rfl⟩) (λc1=>h2 (Yau λz=>c1 (by rw [Yac,z];rfl)) _ ⟨_,rfl⟩))
    ·have e7:Bh (Bh μ6 pc (.lst [])) pc (.lst ((B.filter λr=>decide (r.w.length=2)).map C2)) pf=some (.lst (B.map C2)):=by rw [An je,An je];exact e6
     have P7:=(P6.new bt (o:=.lst [])).other (o:=.lst ((B.filter λr=>decide (r.w.length=2)).map C2)) fx.1 fx.2
     have S7:=(S6.new bt (o:=.lst [])).put (o:=.lst ((B.filter λr=>decide (r.w.length=2)).map C2)) (S6.none fx.1 fx.2 bt)
     refine Ae Ag (ieq (λ_=>?_) (λ_=>cj _ _ ⟨sz0,rfl,hsz0,e7,P7,S7⟩))
     refine cj _ _ ⟨if(1:Int) < sz0 then 1 else sz0,?_,by split <;> omega,e7,P7,S7⟩
     split <;> rfl
   rintro τ μ7 ⟨sz,rfl,bz,e7,P7,S7⟩
   refine Ay (fun τ μ'=>∃r:Rul,τ=[some (.R a),some (.D (.int nr)),some (.D (.tuple (L.map J9))),some (.D (.tuple (zs.map PyData.str))),some (.R pf),some y,some (.D (.int p)),some (.D (.int x)),some (.D (.int t)),some (.D (.int sz)),some (C2 r),li]/\r.p=p/\RulOk L.length zs.length r/\μ' pf=some (.lst (B.map C2))/\Pot μ' a l/\A7 a l μ μ') (λZ3 cj=>?_) ?_
   ·refine⟨by omega,by omega,λpc bt=>?_⟩
    have fx:=P7.ne bt
    have je:pf≠pc:=by rintro rfl;rw [e7]at bt;cases bt
    have mn:(Dl 0 (sz:Int).toNat).length=sz:=by rw [Bp];omega
    refine Go (λj aj τ μ'=>∃(o:Option AV) (ns:List Nat),τ=[o,some (.R a),some (.D (.tuple (zs.map PyData.str)))]/\aj=ns.map Ho/\ns.length=j/\(∀n∈ns,n < zs.length)/\μ' pc=some (.lst aj)/\μ' pf=some (.lst (B.map C2))/\Pot μ' a l/\A7 a l μ7 μ') ⟨none,[],rfl,rfl,rfl,(λ_ z=>nomatch z),Ag,by rw [An je];exact e7,P7.new bt,A7.refl.new bt⟩ (λ_ _ _ _ _=>trivial) ?_ ?_
    ·rintro j z aj τ μ8 Z4 hz ⟨o,ns,rfl,rfl,hn,hb,c8,e8,P8,S8⟩ hZ4
     have hj:j < sz:=by rw [<- mn];exact(List.getElem?_eq_some_iff.mp hz).1
     refine Mw rfl ⟨a,l,(zs.map PyData.str).length,rfl,P8,by rw [Yac];omega,by rw [Yac];omega,λv μ9 hv P9 S9=>?_⟩
     rw [Yac]at hv
     refine⟨S9 pc _ fx.1.symm fx.2.symm c8,Cd (by rw [Yac];omega),hZ4 _ _ _ ⟨_,ns++[v],rfl,by rw [Ybe];rfl,by rw [Yag,hn];rfl,λn kh=>?_,Ag,by rw [An je];exact S9 pf _ ar.1.symm ar.2.symm e8,P9.other fx.1 fx.2,(S8.trans S9).put bt⟩⟩
     rcases Yap.mp kh with h | h
     ·exact hb n h
     ·rw [Ya8.mp h];exact hv
    ·rintro aj τ μ8 ⟨o,ns,rfl,rfl,hn,hb,c8,e8,P8,S8⟩
     rw [mn]at hn
     exact Ae (Bi c8) (Ae (Ob ns) (cj _ _ ⟨⟨p,x,t,ns⟩,rfl,rfl,⟨hp,hx,ht,hb,(show ns.length<=2 by omega)⟩,e8,P8,S7.trans S8⟩))
   rintro τ μ8 ⟨r,rfl,hrp,hr,e8,P8,S8⟩
   refine Ay (fun τ μ'=>∃pa ys,τ=[some (.R a),some (.D (.int nr)),some (.D (.tuple (L.map J9))),some (.D (.tuple (zs.map PyData.str))),some (.R pf),some y,some (.D (.int p)),some (.D (.int x)),some (.D (.int t)),some (.D (.int sz)),some (C2 r),some (.R pa)]/\μ' pa=some (.lst ys)/\μ' pf=some (.lst (B.map C2))/\Pot μ' a l/\A7 a l μ μ') (λZ3 cj=>?_) ?_
   ·refine Ae (Bi e8) λpc bt=>?_
    have fx:=P8.ne bt
    have je:pf≠pc:=by rintro rfl;rw [e8]at bt;cases bt
    refine cmapf B C2 (λr=>PyData.eqv (Cy [r.p,r.x]) (Cy [p,x])) C2 (fun τ=>∃o,τ=[o,some (.D (.int p)),some (.D (.int x))]) ⟨none,rfl⟩ Ag (seven (by omega)) (λaj=>Bi (by rw [An je,An je];exact e8)) ?_ ?_
    ·rintro j r' τ' aj W W2 hj ⟨o,rfl⟩ h1 h2
     exact⟨Lg (ns:=[r'.p,r'.x]),Lg (ns:=[p,x]),br (λc=>h1 c _ ⟨_,rfl⟩) (λc=>h2 c _ ⟨_,rfl⟩)⟩
    ·exact cj _ _ ⟨pc,_,rfl,Ag,by rw [An je,An je];exact e8,(P8.new bt).other fx.1 fx.2,(S8.new bt).put (S8.none fx.1 fx.2 bt)⟩
   rintro τ μ9 ⟨pa,ys,rfl,a9,e9,P9,S9⟩
   have yes:Z2 [some (.R a),some (.D (.int nr)),some (.D (.tuple (L.map J9))),some (.D (.tuple (zs.map PyData.str))),some (.R pf),some y,some (.D (.int p)),some (.D (.int x)),some (.D (.int t)),some (.D (.int sz)),some (C2 r),some (.R pa)] (Bh μ9 pf (.lst (B.map C2++[C2 r]))):=by
    refine hZ2 _ _ ⟨_,_,_,_,_,_,_,B++[r],rfl,by rw [Ag,Ybe];rfl,by rw [Yag];show B.length+1<=_;omega,λr2 hr'=>?_,P9.other ar.1 ar.2,S9.put jw⟩
    rcases Yap.mp hr' with h | h
    ·exact kB r2 h
    ·rw [Ya8.mp h];exact hr
   have no:Z2 [some (.R a),some (.D (.int nr)),some (.D (.tuple (L.map J9))),some (.D (.tuple (zs.map PyData.str))),some (.R pf),some y,some (.D (.int p)),some (.D (.int x)),some (.D (.int t)),some (.D (.int sz)),some (C2 r),some (.R pa)] μ9:=hZ2 _ _ ⟨_,_,_,_,_,_,_,B,rfl,e9,by omega,kB,P9,S9⟩
   have put:Nf μ9 (.R pf)/\L9 (.R pf) [C2 r] μ9 λ_ μ1=>Z2 [some (.R a),some (.D (.int nr)),some (.D (.tuple (L.map J9))),some (.D (.tuple (zs.map PyData.str))),some (.R pf),some y,some (.D (.int p)),some (.D (.int x)),some (.D (.int t)),some (.D (.int sz)),some (C2 r),some (.R pa)] μ1:=⟨Ae e9 trivial,Ae e9 ⟨Cd (by rw [Yac];omega),yes⟩⟩
   refine Ae rfl (Ae (Bi e9) (Ae (Oi B) ⟨Xu r,Ub B,br (λ_=>?_) (λ_=>Uf rfl no)⟩))
   have hpl:(L.map J9)[p]?=some (J9 L[p]):=by rw [List.getElem?_map,List.getElem?_eq_getElem hp];rfl
   refine Ae (Ap hpl) (Ae (Ap (j:=1) rfl) (ieq (λ_=>Mw rfl put) (λ_=>Ae a9 (dif (λ_=>put) (λ_=>no)))))
  ·rintro τ μ4 ⟨o5,o6,o7,o8,o9,md,li,B,rfl,e4,hB,kB,P4,S4⟩
   rw [ak]at hB
   exact hZ _ _ ⟨_,_,_,_,_,_,_,B,rfl,e4,by omega,kB,P4,S4⟩
 rintro τ μ3 ⟨o5,o6,o7,o8,o9,md,li,B,rfl,e3,hB,kB,P3,S3⟩
 exact Ae (Bi e3) (Ae (Oi B) ⟨_,Sub.refl,q ⟨L,zs,B⟩ _ ⟨hL0,hL3,hz0,hz3,hB,hLh,hLn,hzn,kB⟩ P3 S3⟩)
end
section
variable {P:Program}{w:World}{K:PySem.W.Frag}{mg:Str->Option Value}{base:Heap}{f:Addr}{fd:FuncData}
structure Arw where
 p:Nat
 x:Nat
 ts:List Nat
 c:Option Nat
def Qah(a:Arw):List PyData:=.int a.p :: .int a.x :: Cy a.ts :: (match a.c with | none=>[] | some c=>[.int c])
def C3(a:Arw):PyData:=.tuple (Qah a)
theorem Qem(a:Arw):(C3 a).canLay0=true/\(C3 a).depth<=3/\Cano (C3 a)=true:=by
 obtain⟨p,x,ts,c⟩:=a
 have h1:=Hv (ns:=ts)
 have h2:=Gz ts
 cases c with
 | none =>
  simp only [C3,Qah,Cy,PyData.canLay0,PyData.canLayAll0,PyData.depth,PyData.depthAll,Cano,Aj,h1.1,h2,Bool.and_true,Bool.true_and,true_and,and_true]
  have:=h1.2
  omega
 | some c =>
  simp only [C3,Qah,Cy,PyData.canLay0,PyData.canLayAll0,PyData.depth,PyData.depthAll,Cano,Aj,h1.1,h2,Bool.and_true,Bool.true_and,true_and,and_true]
  have:=h1.2
  omega
theorem Qai{a b:Arw}(h:a.c.isSome=b.c.isSome):cmpb (C3 a) (C3 b)=true:=by
 obtain⟨p,x,ts,c⟩:=a
 obtain⟨p',x',ts',c'⟩:=b
 cases c <;> cases c' <;> simp at h <;> simp only [C3,Qah,Cy,cmpb,cmpbs,Oc,ite_self]
theorem Xv(B:List Arw):dats (B.map λa=>.D (C3 a))=some (B.map C3):=by
 rw [show(B.map λa=>AV.D (C3 a))=(B.map C3).map .D by rw [Ybo];rfl];exact B6 _
end
section
variable {P:Program}{w:World}{K:PySem.W.Frag}{mg:Str->Option Value}{base:Heap}{f:Addr}{fd:FuncData}
theorem E4{α:Type}(g:α->PyData)(xs:List α)(n:Nat):Dj (xs.map g) none (some (n:Int))=(xs.take n).map g:=by
 unfold Dj
 rw [HT.sIx_none,HT.sIx_nat,List.drop_zero,Nat.sub_zero,<- List.map_take,Yac]
 by_cases h:n<=xs.length
 ·rw [Nat.min_eq_left h]
 ·rw [Nat.min_eq_right (by omega),Yfb,Yb6 (by omega)]
theorem D7{α:Type}(g:α->PyData)(xs:List α)(n:Nat):Dj (xs.map g) (some (n:Int)) none=(xs.drop n).map g:=by
 unfold Dj
 rw [HT.sIx_none,HT.sIx_nat,<- List.map_drop,Yac]
 by_cases h:n<=xs.length
 ·rw [Nat.min_eq_left h,Yb6 (by rw [Yac,Ycp];exact Yaf _)]
 ·rw [Nat.min_eq_right (by omega),Yd7,List.drop_of_length_le (by omega)];simp
theorem Ms:∀(n k:Nat),Dl (k:Int) n=(List.range' k n).map Ho
 | 0,k=>rfl
 | n+1,k=>by
  rw [List.range'_succ,Ycc,<- Ms n (k+1)]
  rfl
theorem Oj(n:Nat):Dl 0 n=(List.range n).map Ho:=by
 rw [List.range_eq_range'];exact Ms n 0
abbrev nSo:List Str:=["_law_state","_law_things"]
theorem Qks:FnScope nSo ["_law_state","_law_things"] (Af sSo):=⟨rfl,rfl,rfl,by decide +kernel,rfl,by decide +kernel,by decide +kernel⟩
theorem Qhs:(["_law_thing","_law_state"]:List Str).Nodup:=by decide +kernel
def Qht:ASp:=λxs μ R=>∃(a l ps:Addr) (ss:List Nat),xs=[.R a,.R ps]/\ss.length<=20/\ps≠a/\ps≠l/\μ ps=some (.lst (ss.map Ho))/\Pot μ a l/\∀(ns:List Nat) μ',ns.Sublist ss->Pot μ' a l->A7 a l μ μ'->R (.D (Cy ns)) μ'
theorem Qhu{n:Nat}(F:Fun K "_law_some" "_law_some" sSo f fd) (cf:VCal P w K mg base n "_law_draw" ["_law_state","_law_many"] J8) (am:mg "tuple" = none):FnOk P w K mg base Fb (n+1) f fd ["_law_state","_law_things"] (Jy K 2 Qht):=by
 refine F.vok Qks λaz A outer s H E hr=>⟨_,(Ah (Ar (B8 Dn rfl am Yb1 (Aa (Co (N':=["_law_thing","_law_state"]) (mp:=[none,some 0]) rfl (Er (vv 1)) (λ_ _ _ _=>(A3 (i:=0) Qhs rfl (Or.inl rfl) (Or.inr rfl))) (λ_ _ _ _=>(Ep (Az (Dr hr) (Ai cf hr rfl (Aa (vv 1) (Aa Ab Ac))) Ab (nomark _)))) (λ_ _ _ _=>(vv 0)) (Br (N:=nSo) (pn:=(Af sSo).names) (by decide +kernel))) Ac)))),?_⟩
 rintro xs μ R _ ⟨a,l,ps,ss,rfl,hs,na,nl,eS,hP,q⟩
 refine Ae (Bi eS) λpc bt=>?_
 have ar:=hP.ne bt
 have i7:ps≠pc:=by rintro rfl;rw [eS]at bt;cases bt
 refine Go (λj aj τ μ'=>∃(o:Option AV) (ns:List Nat),τ=[o,some (.R a)]/\aj=ns.map Ho/\ns.Sublist (ss.take j)/\μ' pc=some (.lst aj)/\μ' ps=some (.lst (ss.map Ho))/\Pot μ' a l/\A7 a l μ μ') ⟨none,[],rfl,rfl,by simp,Ag,by rw [An i7];exact eS,hP.new bt,A7.refl.new bt⟩ (λ_ _ _ _ ⟨_,_,_,_,_,_,e,_⟩=>Bi e) ?_ ?_
 ·rintro j y aj τ μ2 Z2 hy ⟨o,ns,rfl,rfl,dj,e2,s2,P2,S2⟩ hZ2
  rw [List.getElem?_map]at hy
  obtain⟨x,hx,rfl⟩:=Ybl.mp hy
  have hj:j < ss.length:=(List.getElem?_eq_some_iff.mp hx).1
  have ma:ss.take (j+1)=ss.take j++[x]:=by rw [Yds,hx];rfl
  refine⟨a,l,2,rfl,P2,by decide,by decide,λv μ3 hv P3 S3=>?_⟩
  have e3:=S3 pc _ ar.1.symm ar.2.symm e2
  have s3:=S3 ps _ na nl s2
  have hl:=dj.length_le
  rw [Ybs]at hl
  refine ieq (λc=>⟨e3,Cd (by rw [Yac];omega),hZ2 _ _ _ ⟨_,ns++[x],rfl,by rw [Ybe];rfl,by rw [ma];exact dj.append (List.Sublist.refl _),Ag,by rw [An i7];exact s3,P3.other ar.1 ar.2,(S2.trans S3).put bt⟩⟩) (λc=>hZ2 _ _ _ ⟨_,ns,rfl,rfl,by rw [ma];exact dj.trans (List.sublist_append_left _ _),e3,s3,P3,S2.trans S3⟩)
 ·rintro aj τ μ2 ⟨o,ns,rfl,rfl,dj,e2,s2,P2,S2⟩
  rw [Yac,Yfb]at dj
  exact Ae (Bi e2) (Ae (Ob ns) ⟨_,Sub.refl,q ns _ dj P2 S2⟩)
structure Say where
 own:Nat
 as:List Arw
 es:List Nat
def Qen(s:Say):PyData:=.tuple [.int s.own,.tuple (s.as.map C3),Cy s.es]
structure AwOk(st le lo:Nat)(c:Bool)(a:Arw):Prop where
 c:a.c.isSome=c
 p:a.p < st
 x:a.x < le
 t:∀t∈a.ts,lo<=t/\t < st
 tn:a.ts.length<=st
theorem Qaj{B:List Arw}{k:Bool}(hl:B.length<=20)(hc:∀a∈B,a.c.isSome=k):TOk (B.map C3):=by
 refine⟨by rw [Yac];omega,λd hd=>?_,λd hd=>?_,λd hd e he=>?_⟩
 ·obtain⟨a,ha,rfl⟩:=Ya2.mp hd
  obtain⟨h1,h2,h3⟩:=Qem a
  exact⟨h3,h1,by omega⟩
 ·obtain⟨a,ha,rfl⟩:=Ya2.mp hd
  exact⟨a.p,_,rfl⟩
 ·obtain⟨a,ha,rfl⟩:=Ya2.mp hd
  obtain⟨b,hb,rfl⟩:=Ya2.mp he
  exact Qai ((hc a ha).trans (hc b hb).symm)
theorem Jr{α β:Type}{f:α->β}{B:List α}:∀{es:List β},(∀e∈es,e∈B.map f)->∃C:List α,es=C.map f/\∀c∈C,c∈B
 | [],_=>⟨[],rfl,λ_ z=>nomatch z⟩
 | e :: es,h=>by
  obtain⟨b,hb,rfl⟩:=Ya2.mp (h e (.head _))
  obtain⟨C,rfl,hC⟩:=Jr λe' og=>h e' (.tail _ og)
  exact⟨b :: C,rfl,λc hc=>by
   rcases Yat.mp hc with rfl | hc
   ·exact hb
   ·exact hC c hc⟩
theorem Qak{B:List Arw}{k:Bool}{es:List PyData}(hl:B.length<=20)(hn:es.Nodup)(hm:∀d,d∈es↔d∈B.map C3):∃C:List Arw,es=C.map C3/\(∀c∈C,c∈B)/\(∀d,d∈C.map C3↔d∈B.map C3)/\C.length<=B.length:=by
 obtain⟨C,rfl,hC⟩:=Jr (f:=C3) (B:=B) λe he=>(hm e).mp he
 have:=D6 hn λd hd=>(hm d).mp hd
 rw [Yac,Yac]at this
 exact⟨C,rfl,hC,hm,this⟩
structure SayOk(g:Gam)(s:Say)(most:Nat):Prop where
 o:s.own<=2
 n:s.as.length<=most
 a:∀a∈s.as,AwOk (g.pl.length+s.own) g.le.length g.pl.length false a
 e:s.es.Sublist (List.range (g.pl.length+s.own))
 d:(s.as.map C3).Nodup
 su:∀a∈s.as,a.ts.Sublist (List.range' g.pl.length s.own)
 so:(s.as.map C3).Pairwise λa b=>E7 a b=true
abbrev nSa:List Str:=["_law_state","_law_game_here","_law_most","_law_many","_law_places","_law_arrows","_law_k","_law_stand","_law_letter"]
theorem Qg:FnScope nSa ["_law_state","_law_game_here","_law_most"] (Af sSa):=⟨rfl,rfl,rfl,by decide +kernel,rfl,by decide +kernel,by decide +kernel⟩
def Qeo:ASp:=λxs μ R=>∃(a l:Addr) (g:Gam) (most:Nat),xs=[.R a,.D (Bz g),.D (.int most)]/\0 < g.pl.length/\g.pl.length<=3/\0 < g.le.length/\g.le.length<=3/\most<=20/\Pot μ a l/\∀(s:Say) μ',SayOk g s most->Pot μ' a l->A7 a l μ μ'->R (.D (Qen s)) μ'
theorem Qhv{n:Nat}(F:Fun K "_law_saying" "_law_saying" sSa f fd) (cf:VCal P w K mg base n "_law_draw" ["_law_state","_law_many"] J8) (cSo:VCal P w K mg base n "_law_some" ["_law_state","_law_things"] Qht) (ag:mg "len" = none) (al:mg "range" = none) (bp:mg "list" = none) (am:mg "tuple" = none) (bd:mg "sorted" = none) (du:mg "set" = none):FnOk P w K mg base Fb (n+1) f fd ["_law_state","_law_game_here","_law_most"] (Jy K 3 Qeo):=by
 refine F.vok Qg λaz A outer s H E hr=>⟨_,(Ad (Ao (i:=3) Qg.nd rfl (Or.inl rfl) (Ai cf hr rfl (Aa (vv 0) (Aa Ab Ac))))
   (Ad (Ao (i:=4) Qg.nd rfl (Or.inl rfl) (Al Bl rfl ag Yaq (Aa (Ax Bg (vv 1) Ab) Ac)))
   (Ad (Ao (i:=5) Qg.nd rfl (Or.inl rfl) (Fh Ac))
   (Ad (Fj Ydy rfl (Ce rfl al (Aa (Ai cf hr rfl (Aa (vv 0) (Aa (Am A4 (vv 2) Ab) Ac))) Ac)) (A3 (i:=6) Qg.nd rfl (Or.inl rfl)) (Ad (Ao (i:=7) Qg.nd rfl (Or.inl rfl) (Ai cf hr rfl (Aa (vv 0) (Aa (Am A4 (vv 4) (vv 3)) Ac))))
   (Ad (Ao (i:=8) Qg.nd rfl (Or.inl rfl) (Ai cf hr rfl (Aa (vv 0) (Aa (Al Bl rfl ag Yaq (Aa (Ax Bg (vv 1) Ab) Ac)) Ac))))
   (Ah (Ma (Vv Yeh Yei Io (vv 5) (Aa (Bc (Aa (vv 7) (Aa (vv 8) (Aa (Ai cSo hr rfl (Aa (vv 0) (Aa (Ww rfl rfl bp rfl al (vv 4) (Am A4 (vv 4) (vv 3))) Ac))) Ac)))) Ac)))))))
   (Ah (Ar (Bc (Aa (vv 3) (Aa (B8 Dn rfl am Yb1 (Aa (Ru hr rfl bd rfl du (vv 5)) Ac)) (Aa (Ai cSo hr rfl (Aa (vv 0) (Aa (Wv rfl rfl bp rfl al (Am A4 (vv 4) (vv 3))) Ac))) Ac)))))))))),?_⟩
 rintro xs μ R _ ⟨a,l,g,most,rfl,w9,qw,mx,hl3,hm,hP,q⟩
 refine Ay (fun τ μ'=>∃ow:Nat,τ=[some (.R a),some (.D (Bz g)),some (.D (.int most)),some (.D (.int ow)),none,none,none,none,none]/\ow<=2/\Pot μ' a l/\A7 a l μ μ') (λZ hZ=>⟨a,l,3,rfl,hP,by decide,by decide,λv μ1 hv P1 S1=>hZ _ _ ⟨v,rfl,by omega,P1,S1⟩⟩) ?_
 rintro τ μ1 ⟨ow,rfl,how,P1,S1⟩
 refine Ay (fun τ μ'=>τ=[some (.R a),some (.D (Bz g)),some (.D (.int most)),some (.D (.int ow)),some (.D (.int g.pl.length)),none,none,none,none]/\μ1=μ') (λZ hZ=>Ae (Ap (j:=0) rfl) (by rw [<- Yac (f:=J9)]at hZ;exact hZ _ _ ⟨rfl,rfl⟩)) ?_
 rintro τ _ ⟨rfl,rfl⟩
 intro pf i0
 have ar:=P1.ne i0
 have jw:μ pf=none:=S1.none ar.1 ar.2 i0
 refine Ay (fun τ μ'=>∃o6 o7 o8,∃B:List Arw,τ=[some (.R a),some (.D (Bz g)),some (.D (.int most)),some (.D (.int ow)),some (.D (.int g.pl.length)),some (.R pf),o6,o7,o8]/\μ' pf=some (.lst (B.map λb=>.D (C3 b)))/\B.length<=most/\(∀b∈B,AwOk (g.pl.length+ow) g.le.length g.pl.length false b/\b.ts.Sublist (List.range' g.pl.length ow))/\Pot μ' a l/\A7 a l μ μ') (λZ hZ=>?_) ?_
 ·refine⟨a,l,most+1,rfl,P1.new i0,by omega,by omega,λc μ2 hc P2 S2=>⟨by omega,by omega,?_⟩⟩
  have ak:(Dl 0 (c:Int).toNat).length=c:=by rw [Bp];omega
  refine Ip (λi τ μ'=>∃o6 o7 o8,∃B:List Arw,τ=[some (.R a),some (.D (Bz g)),some (.D (.int most)),some (.D (.int ow)),some (.D (.int g.pl.length)),some (.R pf),o6,o7,o8]/\μ' pf=some (.lst (B.map λb=>.D (C3 b)))/\B.length<=i/\(∀b∈B,AwOk (g.pl.length+ow) g.le.length g.pl.length false b/\b.ts.Sublist (List.range' g.pl.length ow))/\Pot μ' a l/\A7 a l μ μ') ⟨none,none,none,[],rfl,S2 pf _ ar.1.symm ar.2.symm Ag,Yaf _,(λ_ z=>nomatch z),P2,(S1.new i0).trans S2⟩ (λ_ _ _ _=>trivial) ?_ ?_
  ·rintro i y τ μ3 Z2 hy ⟨o6,o7,o8,B,rfl,e3,hB,kB,P3,S3⟩ hZ2
   have hi:i < c:=by rw [<- ak];exact(List.getElem?_eq_some_iff.mp hy).1
   refine Ay (fun τ μ'=>∃p:Nat,τ=[some (.R a),some (.D (Bz g)),some (.D (.int most)),some (.D (.int ow)),some (.D (.int g.pl.length)),some (.R pf),some y,some (.D (.int p)),o8]/\p < g.pl.length+ow/\μ' pf=some (.lst (B.map λb=>.D (C3 b)))/\Pot μ' a l/\A7 a l μ μ') (λZ3 cj=>⟨a,l,g.pl.length+ow,rfl,P3,by omega,by omega,λp μ4 hp P4 S4=>cj _ _ ⟨p,rfl,hp,S4 pf _ ar.1.symm ar.2.symm e3,P4,S3.trans S4⟩⟩) ?_
   rintro τ μ4 ⟨p,rfl,hp,e4,P4,S4⟩
   refine Ay (fun τ μ'=>∃x:Nat,τ=[some (.R a),some (.D (Bz g)),some (.D (.int most)),some (.D (.int ow)),some (.D (.int g.pl.length)),some (.R pf),some y,some (.D (.int p)),some (.D (.int x))]/\x < g.le.length/\μ' pf=some (.lst (B.map λb=>.D (C3 b)))/\Pot μ' a l/\A7 a l μ μ') (λZ3 cj=>Ae (Ap (j:=1) rfl) ⟨a,l,g.le.length,by rw [Yac],P4,mx,by omega,λx μ5 hx P5 S5=>cj _ _ ⟨x,rfl,hx,S5 pf _ ar.1.symm ar.2.symm e4,P5,S4.trans S5⟩⟩) ?_
   rintro τ μ5 ⟨x,rfl,hx,e5,P5,S5⟩
   refine⟨Ae e5 trivial,⟨by omega,by omega,by omega⟩,λps i7=>?_⟩
   have gs:=P5.ne i7
   have hsf:pf≠ps:=by rintro rfl;rw [e5]at i7;cases i7
   refine⟨a,l,ps,List.range' g.pl.length ow,rfl,by rw [List.length_range'];omega,gs.1.symm,gs.2.symm,by rw [Ag,show((g.pl.length:Int)+(ow:Int) - (g.pl.length:Int)).toNat=ow by omega,Ms],P5.new i7,λts μ6 dj P6 S6=>?_⟩
   have e6:=S6 pf _ ar.1.symm ar.2.symm (show Bh μ5 ps _ pf=_ by rw [An hsf];exact e5)
   refine Ae e6 ⟨Cd (by rw [Yac];omega),hZ2 _ _ ⟨_,_,_,B++[⟨p,x,ts,none⟩],rfl,by rw [Ag,Ybe];rfl,by rw [Yag];show B.length+1<=_;omega,λb hb=>?_,P6.other ar.1 ar.2,((S5.new i7).trans S6).put jw⟩⟩
   rcases Yap.mp hb with hb | hb
   ·exact kB b hb
   ·rw [Ya8.mp hb]
    have hl:=dj.length_le
    rw [List.length_range']at hl
    refine⟨⟨rfl,hp,hx,λt ht=>?_,(show ts.length<=_ by omega)⟩,dj⟩
    have:=List.mem_range'_1.mp (dj.subset ht)
    omega
  ·rintro τ μ3 ⟨o6,o7,o8,B,rfl,e3,hB,kB,P3,S3⟩
   rw [ak]at hB
   exact hZ _ _ ⟨_,_,_,B,rfl,e3,by omega,kB,P3,S3⟩
 rintro τ μ2 ⟨o6,o7,o8,B,rfl,e2,hB,kB,P2,S2⟩
 refine Ae (Bi e2) (Ae (Xv B) ⟨Qaj (by omega) λb hb=>(kB b hb).1.c,λes p lj jd nh hp=>?_⟩)
 obtain⟨C,rfl,hC,hCm,hCl⟩:=Qak (k:=false) (by omega) lj jd
 refine Ae (Bi Ag) (Ae (B6 _) ⟨⟨by omega,by omega⟩,λps i7=>?_⟩)
 have pg:=P2.ne hp
 have P3:=P2.new hp (o:=.lst ((C.map C3).map .D))
 have gs:=P3.ne i7
 refine⟨a,l,ps,List.range (g.pl.length+ow),rfl,by rw [Ycu];omega,gs.1.symm,gs.2.symm,by rw [Ag,show((g.pl.length:Int)+(ow:Int)).toNat=g.pl.length+ow by omega,Oj],P3.new i7,λns μ3 dj P4 S4=>⟨_,Sub.refl,q ⟨ow,C,ns⟩ _ ⟨how,(show C.length<=most by omega),λb hb=>(kB b (hC b hb)).1,dj,lj,λb hb=>(kB b (hC b hb)).2,nh⟩ P4 (((S2.new hp).new i7).trans S4)⟩⟩
end
section
variable {P:Program}{w:World}{K:PySem.W.Frag}{mg:Str->Option Value}{base:Heap}{f:Addr}{fd:FuncData}
def thr(z n:Int):Bool:=decide (0<=z/\z < n)
theorem Qkt:(!kit "int" "bool")=true:=by decide
abbrev nIt:List Str:=["number","many"]
theorem Qku:FnScope nIt ["number","many"] (Af sIt):=⟨rfl,rfl,rfl,by decide +kernel,rfl,by decide +kernel,by decide +kernel⟩
def Qal:ASp:=λxs μ R=>∃(n m:Int),xs=[.D (.int n),.D (.int m)]/\R (.D (.bool (thr n m))) μ
theorem Qhw{n:Nat}(F:Fun K "is_there" "is_there" sIt f fd) (aq:mg "isinstance" = none) (eh:mg "bool" = none):FnOk P w K mg base Fb (n+1) f fd ["number","many"] (Jy K 2 Qal):=by
 refine F.vok Qku λaz A outer s H E hr=>⟨_,(Ah (Ar (Pa (Qc6 (Vw rfl aq rfl eh PyProof.Rows.boot_bool Kv (vv 0))) (L6 (Nb Vr Im Ab (vv 0) (vv 1)))))),?_⟩
 rintro xs μ R _ ⟨i,m,rfl,q⟩
 unfold thr at q
 refine Ae rfl (Mw Qkt (dif (λc=>⟨μ,Sub.refl,?_⟩) (λc=>⟨μ,Sub.refl,?_⟩)))
 ·have e:decide (0<=i/\i < m)=decide (i < m):=by simp [c]
  rw [e]at q;exact q
 ·have e:decide (0<=i/\i < m)=false:=by simp [c]
  rw [e]at q;exact q
theorem Ol:∀{xs ys:List Int},xs.Pairwise (· < ·)->ys.Pairwise (· < ·)->(∀n,n∈xs↔n∈ys)->xs=ys
 | [],[],_,_,_=>rfl
 | [],y :: ys,_,_,h=>absurd ((h y).mpr Yaz) (by simp)
 | x :: xs,[],_,_,h=>absurd ((h x).mp Yaz) (by simp)
 | x :: xs,y :: ys,hx,hy,h=>by
  obtain⟨n9,jz⟩:=Yc0.mp hx
  obtain⟨hy1,hy2⟩:=Yc0.mp hy
  have e:x=y:=by
   rcases Yat.mp ((h x).mp Yaz) with e | e
   ·exact e
   ·rcases Yat.mp ((h y).mpr Yaz) with e2 | e2
    ·exact e2.symm
    ·have:=hy1 x e
     have:=n9 y e2
     omega
  subst e
  rw [Ol jz hy2 λn=>?_]
  constructor
  ·intro hn
   rcases Yat.mp ((h n).mp (Yax _ hn)) with e | e
   ·have:=n9 n hn;omega
   ·exact e
  ·intro hn
   rcases Yat.mp ((h n).mpr (Yax _ hn)) with e | e
   ·have:=hy1 n hn;omega
   ·exact e
structure Zar where
 p:Int
 x:Int
 ts:List Int
def Bu(is:List Int):PyData:=.tuple (is.map .int)
def zA(i:Int):AV:=.D (.int i)
def Av(a:Zar):PyData:=.tuple [.int a.p,.int a.x,Bu a.ts]
structure Zsa where
 own:Int
 as:List Zar
 es:List Int
def Cw(s:Zsa):PyData:=.tuple [.int s.own,.tuple (s.as.map Av),Bu s.es]
theorem Bx{μ:M}(is:List Int):items μ (.D (Bu is))=some (is.map zA):=by
 show some ((is.map PyData.int).map AV.D)=_
 rw [Ybo];rfl
theorem G1(is:List Int):dats (is.map zA)=some (is.map .int):=by
 rw [show is.map zA=(is.map PyData.int).map .D by rw [Ybo];rfl];exact B6 _
theorem Hx:∀(is:List Int),PyData.canLayAll0 (is.map .int)=true/\PyData.depthAll (is.map .int)=0/\Aj (is.map .int)=true
 | []=>⟨rfl,rfl,rfl⟩
 | i :: is=>by
  obtain⟨a,b,c⟩:=Hx is
  simp only [List.map_cons,PyData.canLayAll0,PyData.depthAll,PyData.depth,Aj,Cano,a,b,c]
  exact⟨rfl,rfl,rfl⟩
theorem Om:∀(a b:List Int),cmpbs (a.map .int) (b.map .int)=true
 | [],_=>by simp only [List.map_nil,cmpbs]
 | _ :: _,[]=>by simp only [List.map_nil,List.map_cons,cmpbs]
 | m :: ms,n :: ns=>by simp only [List.map_cons,cmpbs,cmpb,Om ms ns,ite_self]
theorem Js(is:List Int):B7 (.list (is.map .int)):=⟨by simp only [PyData.canLay0];exact(Hx is).1,by simp only [PyData.depth,(Hx is).2.1];decide⟩
theorem Fo(a:Zar):(Av a).canLay0=true/\(Av a).depth=2/\Cano (Av a)=true:=by
 obtain⟨h1,h2,h3⟩:=Hx a.ts
 refine⟨?_,?_,?_⟩
 ·simp only [Av,Bu,PyData.canLay0,PyData.canLayAll0,h1];rfl
 ·simp only [Av,Bu,PyData.depth,PyData.depthAll,h2];rfl
 ·simp only [Av,Bu,Cano,Aj,h3];rfl
theorem Gf(a:Zar):B7 (Av a):=⟨(Fo a).1,by rw [(Fo a).2.1];decide⟩
theorem Gg(a b:Zar):cmpb (Av a) (Av b)=true:=by
 simp only [Av,Bu,cmpb,cmpbs,Om,ite_self]
theorem G2{μ:M}(A:List Zar):items μ (.D (.tuple (A.map Av)))=some (A.map λa=>.D (Av a)):=by
 show some ((A.map Av).map AV.D)=_
 rw [Ybo];rfl
theorem Gh(A:List Zar):dats (A.map λa=>.D (Av a))=some (A.map Av):=by
 rw [show(A.map λa=>AV.D (Av a))=(A.map Av).map .D by rw [Ybo];rfl];exact B6 _
def inc(is:List Int):Bool:=decide (is.Pairwise (· < ·))
def Xw(is:List Int):List Bool:=List.zipWith (λa b=>decide (a < b)) is (is.drop 1)
theorem Ry:∀(is:List Int),(Xw is).all id=inc is
 | []=>by simp [Xw,inc]
 | [a]=>by simp [Xw,inc]
 | a :: b :: r=>by
  have ih:=Ry (b :: r)
  have e:(Xw (a :: b :: r)).all id=(decide (a < b) && (Xw (b :: r)).all id):=rfl
  rw [e,ih]
  unfold inc
  rw [<- Ydz]
  refine Yd9.mpr ⟨λh=>Yc0.mpr ⟨λx hx=>?_,h.2⟩,λh=>⟨(Yc0.mp h).1 b (.head _),(Yc0.mp h).2⟩⟩
  rcases Yat.mp hx with rfl | hx
  ·exact h.1
  ·have:=(Yc0.mp h.2).1 x hx
   omega
theorem Rz:∀(a b:List Int),List.zipWith (λd e=>AV.D (.tuple [d,e])) (a.map .int) (b.map .int)=(a.zip b).map λz=>.D (.tuple [.int z.1,.int z.2])
 | [],_=>rfl
 | _ :: _,[]=>rfl
 | x :: a,y :: b=>by
  simp only [List.map_cons,List.zipWith_cons_cons,List.zip_cons_cons,Rz a b]
theorem R0:∀(a b:List Int),((a.zip b).all λz=>decide (z.1 < z.2))=(List.zipWith (λa b=>decide (a < b)) a b).all id
 | [],_=>rfl
 | _ :: _,[]=>rfl
 | x :: a,y :: b=>by
  simp only [List.zipWith_cons_cons,List.zip_cons_cons,List.all_cons,R0 a b,id]
def E9(is:List Int)(lo hi:Int):Bool:=(is.all λi=>thr i hi && decide (lo<=i)) && inc is
abbrev nIr:List Str:=["stands","lowest","bound"]
theorem Qkw:FnScope nIr ["stands","lowest","bound"] (Af sIr):=⟨rfl,rfl,rfl,by decide +kernel,rfl,by decide +kernel,by decide +kernel⟩
theorem Qhx:(["stand","bound","lowest"]:List Str).Nodup:=by decide +kernel
theorem Qbs:(["low","high"]:List Str).Nodup:=by decide +kernel
def Qep:ASp:=λxs μ R=>∃(is:List Int) (lo hi:Int),xs=[.D (Bu is),.D (.int lo),.D (.int hi)]/\is.length<=100/\∀ μ',Sub μ μ'->R (.D (.bool (E9 is lo hi))) μ'
theorem Qhy{n:Nat}(F:Fun K "is_rising" "is_rising" sIr f fd) (ph:VCal P w K mg base n "is_there" ["number","many"] Qal) (fc:mg "all" = none) (ki:mg "zip" = none):FnOk P w K mg base Fb (n+1) f fd ["stands","lowest","bound"] (Jy K 3 Qep):=by
 refine F.vok Qkw λaz A outer s H E hr=>⟨_,(Ad (Be (Cr (Cq (Al (Vu rfl) rfl fc Ye9 (Aa (Co (N':=["stand","bound","lowest"]) (mp:=[none,some 2,some 1]) rfl (Er (vv 0)) (λ_ _ _ _=>(A3 (i:=0) Qhx rfl (Or.inl rfl) (Or.inr rfl))) (λ_ _ _ _=>C6) (λ_ _ _ _=>(Pa (Ai ph hr rfl (Aa (vv 0) (Aa (vv 1) Ac))) (L6 (Ee Vr (vv 2) (vv 0) (nomark _))))) (Br (N:=nIr) (pn:=(Af sIr).names) (by decide +kernel))) Ac)))) (Ah (Ar Fd)) Aq)
   (Ah (Ar (Al (Vu rfl) rfl fc Ye9 (Aa (Co (N':=["low","high"]) (mp:=[none,none]) rfl (Qeb rfl ki (vv 0) (A0 (vv 0) (A8 Ab) Bd)) (λ_ _ _ _=>(Mb (n:=2) rfl (B2 (A3 (i:=0) Qbs rfl (Or.inl rfl) (Or.inr rfl)) (B2 (A3 (i:=1) Qbs rfl (Or.inl rfl) (Or.inr rfl)) Ft)))) (λ_ _ _ _=>C6) (λ_ _ _ _=>(Ee Im (vv 0) (vv 1) (nomark _))) (Br (N:=nIr) (pn:=(Af sIr).names) (by decide +kernel))) Ac))))),?_⟩
 rintro xs μ R _ ⟨is,lo,hi,rfl,hl,q⟩
 unfold E9 at q
 refine Ay (fun τ μ'=>τ=[some (.D (Bu is)),some (.D (.int lo)),some (.D (.int hi))]/\(is.all λi=>thr i hi && decide (lo<=i))=true/\Sub μ μ') (λZ hZ=>?_) ?_
 ·refine Ae (Bx is) λpl hpl=>?_
  refine cmap is zA (λi=>.D (.bool (thr i hi && decide (lo<=i)))) (fun τ=>∃o,τ=[o,some (.D (.int hi)),some (.D (.int lo))]) ⟨none,rfl⟩ Ag (seven (by omega)) (λ_=>Bx is) ?_ ?_
  ·rintro i x τ' aj W en ⟨o,rfl⟩ hW
   have hw:=hW [some (zA x),some (.D (.int hi)),some (.D (.int lo))] ⟨_,rfl⟩
   refine⟨x,hi,rfl,br (λc=>?_) (λc=>?_)⟩
   ·rw [c,Ycd]at hw;exact hw
   ·rw [c,Yce]at hw;exact hw
  ·dsimp only [Y1]
   refine V8 (g:=λi=>thr i hi && decide (lo<=i)) Ag (br (λc=>?_) (λc=>?_))
   ·rw [Ybw]at c
    rw [c,Yce]at q
    exact⟨_,Sub.refl,q _ ((Sub.refl.new hpl).new hpl)⟩
   ·rw [Ybx]at c
    exact hZ _ _ ⟨rfl,c,(Sub.refl.new hpl).new hpl⟩
 rintro τ μ1 ⟨rfl,fe,S1⟩
 rw [fe,Ycd]at q
 have zb:Dj (is.map PyData.int) (some 1) none=(is.drop 1).map PyData.int:=D7 _ _ 1
 refine Ae (Bx is) (Ae (x:=(Dj (is.map PyData.int) (some 1) none).map AV.D) rfl (Ae (G1 is) (Ae (B6 _) λpl hpl=>?_)))
 have xq:T5 (is.map PyData.int) (Dj (is.map PyData.int) (some 1) none)=(is.zip (is.drop 1)).map λz=>.D (.tuple [.int z.1,.int z.2]):=by
  rw [zb]
  exact Rz _ _
 dsimp only
 rw [xq]
 have wo:(is.zip (is.drop 1)).length<=100:=by rw [List.length_zip];omega
 refine cmap (is.zip (is.drop 1)) _ (λz=>.D (.bool (decide (z.1 < z.2)))) (fun τ=>∃o1 o2,τ=[o1,o2]) ⟨none,none,rfl⟩ Ag (seven (by omega)) (λ_=>⟨Bx is,rfl⟩) ?_ ?_
 ·rintro i z τ' aj W en ⟨o1,o2,rfl⟩ hW
  exact⟨rfl,hW _ ⟨_,_,rfl⟩⟩
 ·dsimp only [Y1]
  refine V8 (g:=λz:Int×Int=>decide (z.1 < z.2)) Ag ⟨_,Sub.refl,?_⟩
  have e:((is.zip (is.drop 1)).all λz=>decide (z.1 < z.2))=inc is:=by
   rw [<- Ry]
   exact R0 _ _
  rw [e]
  exact q _ ((S1.new (S1.none hpl)).new (S1.none hpl))
abbrev nAe:List Str:=["game","many","ends"]
theorem Qkx:FnScope nAe ["game","many","ends"] (Af sAe):=⟨rfl,rfl,rfl,by decide +kernel,rfl,by decide +kernel,by decide +kernel⟩
def Qhz:ASp:=λxs μ R=>∃(g:Gam) (m:Int) (is:List Int),xs=[.D (Bz g),.D (.int m),.D (Bu is)]/\is.length<=100/\∀ μ',Sub μ μ'->R (.D (.bool (E9 is 0 (g.pl.length+m)))) μ'
theorem Qh0{n:Nat}(F:Fun K "are_ends" "are_ends" sAe f fd) (zf:VCal P w K mg base n "is_rising" ["stands","lowest","bound"] Qep) (ag:mg "len" = none):FnOk P w K mg base Fb (n+1) f fd ["game","many","ends"] (Jy K 3 Qhz):=by
 refine F.vok Qkx λaz A outer s H E hr=>⟨_,(Ah (Ar (Ai zf hr rfl (Aa (vv 2) (Aa Ab (Aa (Am A4 (Al Bl rfl ag Yaq (Aa (Ax Bg (vv 0) Ab) Ac)) (vv 1)) Ac)))))),?_⟩
 rintro xs μ R _ ⟨g,m,is,rfl,hl,q⟩
 refine Ae (Ap (j:=0) rfl) ⟨is,0,(g.pl.length:Int)+m,?_,hl,fun μ1 S1=>⟨_,Sub.refl,q _ S1⟩⟩
 rw [Yac]
def Mu(B:List Zar)(a:Zar):Bool:=match B.getLast? with
 | none=>true
 | some b=>E7 (Av b) (Av a)
def msb(np nl m:Int)(B:List Zar)(a:Zar):Bool:=thr a.p (np+m) && (thr a.x nl && (E9 a.ts np (np+m) && Mu B a))
abbrev nMb:List Str:=["game","many","ahead","arrow","places","stands"]
theorem Qeq:FnScope nMb ["game","many","ahead","arrow"] (Af sMb):=⟨rfl,rfl,rfl,by decide +kernel,rfl,by decide +kernel,by decide +kernel⟩
def Qh1:ASp:=λxs μ R=>∃(g:Gam) (m:Int) (B:List Zar) (a:Zar),xs=[.D (Bz g),.D (.int m),.D (.tuple (B.map Av)),.D (Av a)]/\a.ts.length<=100/\∀ μ',Sub μ μ'->R (.D (.bool (msb g.pl.length g.le.length m B a))) μ'
theorem Qh2{n:Nat}(F:Fun K "may_stand_behind" "may_stand_behind" sMb f fd) (zf:VCal P w K mg base n "is_rising" ["stands","lowest","bound"] Qep) (ph:VCal P w K mg base n "is_there" ["number","many"] Qal) (ag:mg "len" = none):FnOk P w K mg base Fb (n+1) f fd ["game","many","ahead","arrow"] (Jy K 4 Qh1):=by
 refine F.vok Qeq λaz A outer s H E hr=>⟨_,(Ad (Ao (i:=4) Qeq.nd rfl (Or.inl rfl) (Al Bl rfl ag Yaq (Aa (Ax Bg (vv 0) Ab) Ac)))
   (Ad (Ao (i:=5) Qeq.nd rfl (Or.inl rfl) (Am A4 (vv 4) (vv 1)))
   (Ad (Be (VW.pt (Fs (Cr (Cq (Ai ph hr rfl (Aa (Ax Bg (vv 3) Ab) (Aa (vv 5) Ac))))) (En (Cr (Cq (Ai ph hr rfl (Aa (Ax Bg (vv 3) Ab) (Aa (Al Bl rfl ag Yaq (Aa (Ax Bg (vv 0) Ab) Ac)) Ac)))))))) (Ah (Ar Fd)) Aq)
   (Ad (Be (Cr (Cq (Ai zf hr rfl (Aa (Ax Bg (vv 3) Ab) (Aa (vv 4) (Aa (vv 5) Ac)))))) (Ah (Ar Fd)) Aq)
   (Ah (Ar (Qgf (Ee (Dr hr) (Al Bl rfl ag Yaq (Aa (vv 2) Ac)) Ab (nomark _)) (L6 (Ee (Qhb hr) (Ax Bg (vv 2) (Md Ab)) (vv 3) (nomark _)))))))))),?_⟩
 rintro xs μ R _ ⟨g,m,B,a,rfl,hl,q⟩
 unfold msb at q
 refine Ay (fun τ μ'=>τ=[some (.D (Bz g)),some (.D (.int m)),some (.D (.tuple (B.map Av))),some (.D (Av a)),some (.D (.int g.pl.length)),none]/\μ=μ') (λZ hZ=>?_) ?_
 ·refine Ae (Ap (j:=0) rfl) (hZ _ _ ⟨?_,rfl⟩)
  rw [Yac];rfl
 rintro τ _ ⟨rfl,rfl⟩
 refine Ay (fun τ μ'=>τ=[some (.D (Bz g)),some (.D (.int m)),some (.D (.tuple (B.map Av))),some (.D (Av a)),some (.D (.int g.pl.length)),some (.D (.int ((g.pl.length:Int)+m)))]/\μ=μ') (λZ hZ=>hZ _ _ ⟨rfl,rfl⟩) ?_
 rintro τ _ ⟨rfl,rfl⟩
 refine Ay (fun τ μ'=>τ=[some (.D (Bz g)),some (.D (.int m)),some (.D (.tuple (B.map Av))),some (.D (Av a)),some (.D (.int g.pl.length)),some (.D (.int ((g.pl.length:Int)+m)))]/\(thr a.p (g.pl.length+m)=true/\thr a.x g.le.length=true)/\μ=μ') (λZ hZ=>?_) ?_
 ·refine Ae (Ap (j:=0) rfl) ⟨a.p,(g.pl.length:Int)+m,rfl,br (λc=>?_) (λc=>?_)⟩
  ·rw [Ybw]at c
   rw [c,Yce]at q
   exact Mw rfl ⟨_,Sub.refl,q _ Sub.refl⟩
  ·rw [Ybx]at c
   refine Ae (Ap (j:=1) rfl) (Ae (Ap (j:=1) rfl) ⟨a.x,((g.le.map PyData.str).length:Nat),rfl,?_⟩)
   rw [Yac]
   refine br (λc2=>?_) (λc2=>?_)
   ·rw [Ybw]at c2
    rw [c,c2,Yce,Ycd]at q
    exact⟨_,Sub.refl,q _ Sub.refl⟩
   ·rw [Ybx]at c2
    exact hZ _ _ ⟨rfl,⟨c,c2⟩,rfl⟩
 rintro τ _ ⟨rfl,⟨c1,c2⟩,rfl⟩
 rw [c1,c2,Ycd,Ycd]at q
 refine Ay (fun τ μ'=>τ=[some (.D (Bz g)),some (.D (.int m)),some (.D (.tuple (B.map Av))),some (.D (Av a)),some (.D (.int g.pl.length)),some (.D (.int ((g.pl.length:Int)+m)))]/\E9 a.ts g.pl.length (g.pl.length+m)=true/\Sub μ μ') (λZ hZ=>?_) ?_
 ·refine Ae (Ap (j:=2) rfl) ⟨a.ts,(g.pl.length:Int),(g.pl.length:Int)+m,rfl,hl,fun μ1 S1=>br (λc=>?_) (λc=>?_)⟩
  ·rw [Ybw]at c
   rw [c,Yce]at q
   exact⟨_,Sub.refl,q _ S1⟩
  ·rw [Ybx]at c
   exact hZ _ _ ⟨rfl,c,S1⟩
 rintro τ μ1 ⟨rfl,c3,S1⟩
 rw [c3,Ycd]at q
 unfold Mu at q
 refine⟨Es _,Es _,?_⟩
 rw [Ht]
 rcases List.eq_nil_or_concat B with rfl | ⟨B',b,rfl⟩
 ·exact Mw (by simp) ⟨_,Sub.refl,q _ S1⟩
 ·have e9:atI ((B'.concat b).map Av) (-1)=some (Av b):=by rw [List.concat_eq_append,Ybe];exact Uz _ _
  rw [List.concat_eq_append,List.getLast?_concat]at q
  exact Uf (Yau (by rw [Yac,List.length_concat];omega)) (Ae e9 ⟨Gf b,Gf a,Gg b a,_,Sub.refl,q _ S1⟩)
abbrev nRs:List Str:=["_law_numbers"]
theorem Qky:FnScope nRs ["_law_numbers"] (Af sRs):=⟨rfl,rfl,rfl,by decide +kernel,rfl,by decide +kernel,by decide +kernel⟩
theorem Lj:∀(a b:List Int),PyData.eqvAll (a.map .int) (b.map .int)=decide (a=b)
 | [],[]=>by simp [PyData.eqvAll]
 | [],_ :: _=>by simp [PyData.eqvAll]
 | _ :: _,[]=>by simp [PyData.eqvAll]
 | x :: a,y :: b=>by
  simp only [List.map_cons,PyData.eqvAll,Ht,Lj a b]
  rw [<- Ydz]
  exact Yd9.mpr ⟨λh=>by rw [h.1,h.2],λh=>by simpa using h⟩
theorem Qbt{μ:M}{p:Addr}{xs:List AV}{ds:List PyData}(h:μ p=some (.lst xs))(hd:dats xs=some ds):see μ (.R p)=some (.list ds):=by
 show(match μ p with
  | some (.lst xs)=>match dats xs with
   | some ds=>some (PyData.list ds)
   | none=>none
  | _=>none)=_
 rw [h]
 show(match dats xs with
   | some ds=>some (PyData.list ds)
   | none=>none)=_
 rw [hd]
def Qer:ASp:=λxs μ R=>∃(is:List Int),xs=[.D (Bu is)]/\is.length < 60/\∀ μ',Sub μ μ'->R (.D (.bool (inc is))) μ'
theorem Qh3{n:Nat}(F:Fun K "_law_rises" "_law_rises" sRs f fd) (bp:mg "list" = none) (bd:mg "sorted" = none) (du:mg "set" = none):FnOk P w K mg base Fb (n+1) f fd ["_law_numbers"] (Jy K 1 Qer):=by
 refine F.vok Qky λaz A outer s H E hr=>⟨_,(Ah (Ar (Ee (Dr hr) (B8 Vt rfl bp PyProof.Rows.boot_list (Aa (vv 0) Ac)) (Qab hr rfl bd rfl du (vv 0)) (nomark _)))),?_⟩
 rintro xs μ R _ ⟨is,rfl,hl,q⟩
 refine Ae (Bx is) λp1 jf=>?_
 refine Ae (Bx is) ⟨is,rfl,hl,λl ms fv nh hms=>?_⟩
 have n1:p1≠l:=by rintro rfl;rw [Ag]at fv;cases fv
 have S1:Sub μ (Bh μ p1 (.lst (is.map zA))):=Sub.refl.new jf
 refine Ae (Qbt (xs:=is.map zA) (by rw [An n1];exact Ag) (G1 is)) (Ae (Qbt (xs:=ms.map zA) Ag (G1 ms)) ⟨Js is,Js ms,_,Sub.refl,?_⟩)
 have e:PyData.eqv (.list (is.map .int)) (.list (ms.map .int))=inc is:=by
  show PyData.eqvAll (is.map .int) (ms.map .int)=_
  rw [Lj]
  unfold inc
  refine Yd9.mpr ⟨λh=>by rw [h];exact nh,λh=>Ol h nh λn=>(hms n).symm⟩
 rw [e]
 exact q _ (S1.new (S1.none fv))
def fit(np nl m:Int)(a:Zar):Bool:=thr a.p (np+m) && (thr a.x nl && (inc a.ts && a.ts.all λt=>decide (np<=t) && decide (t < np+m)))
abbrev nAf:List Str:=["_law_game_here","_law_many","_law_arrow","_law_places"]
theorem Qh4:FnScope nAf ["_law_game_here","_law_many","_law_arrow"] (Af sAf):=⟨rfl,rfl,rfl,by decide +kernel,rfl,by decide +kernel,by decide +kernel⟩
theorem Qh5:(["_law_target","_law_places","_law_many"]:List Str).Nodup:=by decide +kernel
def Qh6:ASp:=λxs μ R=>∃(g:Gam) (m:Int) (a:Zar),xs=[.D (Bz g),.D (.int m),.D (Av a)]/\a.ts.length < 60/\∀ μ',Sub μ μ'->R (.D (.bool (fit g.pl.length g.le.length m a))) μ'
theorem Qes(n m:Int):thr n m=(decide (0<=n) && decide (n < m)):=by
 unfold thr;rw [Ydz]
theorem Qh7{n:Nat}(F:Fun K "_law_arrow_fits" "_law_arrow_fits" sAf f fd) (cRs:VCal P w K mg base n "_law_rises" ["_law_numbers"] Qer) (ag:mg "len" = none) (fc:mg "all" = none):FnOk P w K mg base Fb (n+1) f fd ["_law_game_here","_law_many","_law_arrow"] (Jy K 3 Qh6):=by
 refine F.vok Qh4 λaz A outer s H E hr=>⟨_,(Ad (Ao (i:=3) Qh4.nd rfl (Or.inr rfl) (Al Bl rfl ag Yaq (Aa (Ax Bg (vv 0) Ab) Ac)))
   (Ad (Be (VW.pt (Fs (Cr (Nc Vr Im Ab (Ax Bg (vv 2) Ab) (Am A4 (vv 3) (vv 1)))) (En (Cr (Nc Vr Im Ab (Ax Bg (vv 2) Ab) (Al Bl rfl ag Yaq (Aa (Ax Bg (vv 0) Ab) Ac))))))) (Ah (Ar Fd)) Aq)
   (Ah (Ar (Pa (Ai cRs hr rfl (Aa (Ax Bg (vv 2) Ab) Ac)) (L6 (Al (Vu rfl) rfl fc Ye9 (Aa (Co (N':=["_law_target","_law_places","_law_many"]) (mp:=[none,some 3,some 1]) rfl (Er (Ax Bg (vv 2) Ab)) (λ_ _ _ _=>(A3 (i:=0) Qh5 rfl (Or.inl rfl) (Or.inr rfl))) (λ_ _ _ _=>C6) (λ_ _ _ _=>(Nb Vr Im (vv 1) (vv 0) (Am A4 (vv 1) (vv 2)))) (Br (N:=nAf) (pn:=(Af sAf).names) (by decide +kernel))) Ac)))))))),?_⟩
 rintro xs μ R _ ⟨g,m,a,rfl,hl,q⟩
 unfold fit at q
 refine Ay (fun τ μ'=>τ=[some (.D (Bz g)),some (.D (.int m)),some (.D (Av a)),some (.D (.int g.pl.length))]/\μ=μ') (λZ hZ=>?_) ?_
 ·refine Ae (Ap (j:=0) rfl) (hZ _ _ ⟨?_,rfl⟩)
  rw [Yac];rfl
 rintro τ _ ⟨rfl,rfl⟩
 refine Ay (fun τ μ'=>τ=[some (.D (Bz g)),some (.D (.int m)),some (.D (Av a)),some (.D (.int g.pl.length))]/\(thr a.p (g.pl.length+m)=true/\thr a.x g.le.length=true)/\μ=μ') (λZ hZ=>?_) ?_
 ·have no1:¬(0<=a.p/\a.p < (g.pl.length:Int)+m)->X6 R (.D (.bool false)) μ:=λh=>by
   rw [show thr a.p (g.pl.length+m)=false from Yau h,Yce]at q
   exact⟨_,Sub.refl,q _ Sub.refl⟩
  have no2:¬(0<=a.x/\a.x < (g.le.length:Int))->X6 R (.D (.bool false)) μ:=λh=>by
   rw [show thr a.x g.le.length=false from Yau h,Yce,Bool.and_false]at q
   exact⟨_,Sub.refl,q _ Sub.refl⟩
  refine Ae (Ap (j:=0) rfl) (dif (λd1=>br (λc=>?_) (λc=>?_)) (λd1=>Mw rfl (Mw rfl (no1 λh=>d1 h.1))))
  ·rw [Ybw,Yeu]at c
   exact Mw rfl (no1 λh=>c h.2)
  rw [Ybx,Yet]at c
  refine Ae (Ap (j:=1) rfl) (dif (λd2=>Ae (Ap (j:=1) rfl) ?_) (λd2=>Mw rfl (no2 λh=>d2 h.1)))
  refine br (λc2=>?_) (λc2=>hZ _ _ ⟨rfl,⟨Ybd ⟨d1,c⟩,Ybd ⟨d2,?_⟩⟩,rfl⟩)
  ·rw [Ybw,Yeu,Yac]at c2
   exact no2 λh=>c2 h.2
  ·rw [Ybx,Yet,Yac]at c2
   exact c2
 rintro τ _ ⟨rfl,⟨c1,c2⟩,rfl⟩
 rw [c1,c2,Ycd,Ycd]at q
 refine Ae (Ap (j:=2) rfl) ⟨a.ts,rfl,hl,fun μ1 S1=>br (λc=>?_) (λc=>?_)⟩
 ·rw [c,Ycd]at q
  refine Ae (Ap (j:=2) rfl) (Ae (Bx a.ts) λpl hpl=>?_)
  refine cmap a.ts zA (λt=>.D (.bool (decide ((g.pl.length:Int)<=t) && decide (t < g.pl.length+m)))) (fun τ=>∃o,τ=[o,some (.D (.int g.pl.length)),some (.D (.int m))]) ⟨none,rfl⟩ Ag (seven (by omega)) (λ_=>Bx a.ts) ?_ ?_
  ·rintro i x τ' aj W en ⟨o,rfl⟩ hW
   have hw:=hW [some (zA x),some (.D (.int g.pl.length)),some (.D (.int m))] ⟨_,rfl⟩
   refine dif (λd=>?_) (λd=>?_)
   ·rw [Ybd d,Ycd]at hw;exact hw
   ·rw [Yau d,Yce]at hw;exact hw
  ·dsimp only [Y1]
   refine V8 (g:=λt=>decide ((g.pl.length:Int)<=t) && decide (t < g.pl.length+m)) Ag ⟨_,Sub.refl,?_⟩
   exact q _ ((S1.new (S1.none hpl)).new (S1.none hpl))
 ·rw [c,Yce]at q
  exact⟨_,Sub.refl,q _ S1⟩
end
section
variable {P:Program}{w:World}{K:PySem.W.Frag}{mg:Str->Option Value}{base:Heap}{f:Addr}{fd:FuncData}
structure ZB(s:Zsa):Prop where
 n:s.as.length<=20
 t:∀a∈s.as,a.ts.length < 60
 e:s.es.length < 60
def Oo(np nl:Int)(s:Zsa)(i:Nat):Bool:=match s.as[i]? with
 | some a=>msb np nl s.own (s.as.take i) a
 | none=>true
def Qh(np:Int)(s:Zsa):Option Int:=if decide (8 < s.as.length) || !E9 s.es 0 (np+s.own) then some (s.as.length:Int) else none
def Op(np nl:Int)(s:Zsa):Option Int:=if thr s.own 3 then(match(List.range s.as.length).find? (λi=>!Oo np nl s i) with
 | some i=>some (i:Int)
 | none=>Qh np s) else some (-1)
theorem Qam{n i:Nat}{p:Nat->Bool}(hi:i < n)(h:∀j < i,p j=false)(hp:p i=true):(List.range n).find? p=some i:=by
 rw [List.find?_range_eq_some]
 exact⟨hp,Ybi.mpr hi,λj hj=>by rw [h j hj];rfl⟩
theorem Qan{n:Nat}{p:Nat->Bool}(h:∀j < n,p j=false):(List.range n).find? p=none:=by
 rw [List.find?_eq_none]
 intro j hj
 rw [h j (Ybi.mp hj)]
 exact Yad
theorem Xx{np nl:Int}{s:Zsa}(h:thr s.own 3=false):Op np nl s=some (-1):=by unfold Op;rw [h];rfl
theorem Xy{np nl:Int}{s:Zsa}{i:Nat}(h:thr s.own 3=true)(hi:i < s.as.length)(h1:∀j < i,Oo np nl s j=true)(h2:Oo np nl s i=false):Op np nl s=some (i:Int):=by
 unfold Op
 rw [h,Yak rfl,Qam hi (λj hj=>by rw [h1 j hj];rfl) (by rw [h2];rfl)]
theorem Jt{np nl:Int}{s:Zsa}(h:thr s.own 3=true)(h1:∀j < s.as.length,Oo np nl s j=true):Op np nl s=Qh np s:=by
 unfold Op
 rw [h,Yak rfl,Qan λj hj=>by rw [h1 j hj];rfl]
theorem Qet{A:List Zar}{i:Nat}{x:AV}(h:(Eh 0 (A.map Av))[i]?=some x):∃a,A[i]?=some a/\x=.D (.tuple [.int i,Av a]):=by
 obtain⟨d,hd,rfl⟩:=Ez h
 rw [List.getElem?_map]at hd
 obtain⟨z,hz,rfl⟩:=Ybl.mp hd
 exact⟨z,hz,by simp⟩
theorem Qkz{a b:PyData}{i j:Nat}{τ:ASt}{μ:M}{R:ASt->M->Prop}(h:R ((τ.set i (some (.D a))).set j (some (.D b))) μ):Kq (Dx i) (Kq (Dx j) Qdd) (List.map AV.D [a,b]) τ μ R:=h
theorem Qh8{a b c:PyData}{i j k:Nat}{τ:ASt}{μ:M}{R:ASt->M->Prop}(h:R (((τ.set i (some (.D a))).set j (some (.D b))).set k (some (.D c))) μ):Kq (Dx i) (Kq (Dx j) (Kq (Dx k) Qdd)) (List.map AV.D [a,b,c]) τ μ R:=h
abbrev nLk:List Str:=["game","saying","many","arrows","number","arrow"]
theorem Xz:FnScope nLk ["game","saying"] (Af sLk):=⟨rfl,rfl,rfl,by decide +kernel,rfl,by decide +kernel,by decide +kernel⟩
def Qh9(C:Addr):Pd:=λxs μ R EX=>∃(g:Gam) (s:Zsa),xs=[.D (Bz g),.D (Cw s)]/\ZB s/\(Op g.pl.length g.le.length s=none->R (.D (.bool true)) μ)/\∀a,Op g.pl.length g.le.length s=some a->EX C [("at",.int a)] μ
theorem Qia{n:Nat}{C:Addr}{t1 t2:Tok}(F:Fun K "look_saying" "look_saying" sLk f fd) (cAe:VCal P w K mg base (n+1) "are_ends" ["game","many","ends"] Qhz) (ph:VCal P w K mg base (n+1) "is_there" ["number","many"] Qal) (cMb:VCal P w K mg base (n+1) "may_stand_behind" ["game","many","ahead","arrow"] Qh1) (cq:mg "enumerate" = none) (ag:mg "len" = none) (mMO:mg "MOST_OWN" = some (.int 2 t1)) (yt:mg "MOST_ARROWS" = some (.int 8 t2)) (dw:XCal P w K mg base n "NoSaying" C ["at"]) :
  FnOk P w K mg base (CX1 P w) (n+1+1) f fd ["game","saying"] (Qdh K 2 (Qh9 C)):=by
 refine F.vokX Xz λaz A outer s H E EX hr hX=>⟨_,(Ad (Ao (i:=2) Xz.nd rfl (Or.inl rfl) (Ax Bg (vv 1) Ab))
   (Ad (Ao (i:=3) Xz.nd rfl (Or.inl rfl) (Ax Bg (vv 1) Ab))
   (Ad (Be (Cr (Cq (Ai ph hr rfl (Aa (vv 2) (Aa (Am A4 (Qv rfl mMO (v:=.int 2) ⟨_,rfl⟩ (λ_=>De)) Ab) Ac))))) (Ah (Iq dw hr rfl hX rfl (Aa (Md Ab) Ac))) Aq)
   (Ad (Fj PassesOwn.leaving rfl (Za rfl cq (vv 3)) (Mb (n:=2) rfl (B2 (A3 (i:=4) Xz.nd rfl (Or.inl rfl)) (B2 (A3 (i:=5) Xz.nd rfl (Or.inl rfl)) Ft))) (Ah (Be (Cr (Cq (Ai cMb hr rfl (Aa (vv 0) (Aa (vv 2) (Aa (A0 (vv 3) Bd (A8 (vv 4))) (Aa (vv 5) Ac))))))) (Ah (Iq dw hr rfl hX rfl (Aa (vv 4) Ac))) Aq)))
   (Ad (Be (VW.pt (Fs (Az Ta (Al Bl rfl ag Yaq (Aa (vv 3) Ac)) (Qv rfl yt (v:=.int 8) ⟨_,rfl⟩ (λ_=>De)) (nomark _)) (En (Cr (Cq (Ai cAe hr rfl (Aa (vv 0) (Aa (vv 2) (Aa (Ax Bg (vv 1) Ab) Ac))))))))) (Ah (Iq dw hr rfl hX rfl (Aa (Al Bl rfl ag Yaq (Aa (vv 3) Ac)) Ac))) Aq)
   (Ah (Ar Fd))))))),?_⟩
 rintro xs μ R _ ⟨g,S,rfl,hB,q1,q2⟩
 refine Bq (Ae (Ap (j:=0) rfl) ?_)
 refine Bq (Ae (Ap (j:=1) rfl) ?_)
 have hn:=hB.n
 refine Ay (fun τ μ'=>τ=[some (.D (Bz g)),some (.D (Cw S)),some (.D (.int S.own)),some (.D (.tuple (S.as.map Av))),none,none]/\thr S.own 3=true/\μ=μ') (λZ hZ=>?_) ?_
 ·refine⟨S.own,3,rfl,br (λc=>?_) (λc=>?_)⟩
  ·rw [Ybw]at c
   exact Ae rfl ⟨rfl,μ,Sub.refl,q2 _ (Xx c)⟩
  ·rw [Ybx]at c
   exact hZ _ _ ⟨rfl,c,rfl⟩
 rintro τ _ ⟨rfl,hown,rfl⟩
 refine Ay (fun τ μ'=>∃o4 o5,τ=[some (.D (Bz g)),some (.D (Cw S)),some (.D (.int S.own)),some (.D (.tuple (S.as.map Av))),o4,o5]/\(∀j < S.as.length,Oo g.pl.length g.le.length S j=true)/\Sub μ μ') (λZ hZ=>?_) ?_
 ·refine Ae (G2 S.as) (Ae (Gh S.as) ?_)
  refine Ip (λi τ μ'=>∃o4 o5,τ=[some (.D (Bz g)),some (.D (Cw S)),some (.D (.int S.own)),some (.D (.tuple (S.as.map Av))),o4,o5]/\(∀j < i,Oo g.pl.length g.le.length S j=true)/\Sub μ μ') ⟨none,none,rfl,(λj hj=>absurd hj (Ydi _)),Sub.refl⟩ (λ_ _ _ _=>G2 S.as) ?_ ?_
  ·rintro i y τ μ1 Z2 hy ⟨o4,o5,rfl,hok,S1⟩ hZ2
   obtain⟨a,ha,rfl⟩:=Qet hy
   have hi:i < S.as.length:=(List.getElem?_eq_some_iff.mp ha).1
   have eo:Oo g.pl.length g.le.length S i=msb g.pl.length g.le.length S.own (S.as.take i) a:=by unfold Oo;rw [ha]
   refine⟨rfl,Qkz ?_⟩
   refine⟨g,S.own,S.as.take i,a,?_,by have:=hB.t a (Ybr ha);omega,fun μ2 S2=>br (λc=>?_) (λc=>?_)⟩
   ·show [_,_,AV.D (.tuple (Dj (S.as.map Av) none (some (i:Int)))),_]=_
    rw [E4]
   ·rw [Ybw,<- eo]at c
    exact Ae rfl ⟨rfl,μ,(λb m hb=>S2 b m (S1 b m hb)),q2 _ (Xy hown hi hok c)⟩
   ·rw [Ybx,<- eo]at c
    refine hZ2 _ _ ⟨_,_,rfl,λj hj=>?_,λb m hb=>S2 b m (S1 b m hb)⟩
    by_cases e:j=i
    ·rw [e];exact c
    ·exact hok j (by omega)
  ·rintro τ μ1 ⟨o4,o5,rfl,hok,S1⟩
   rw [Cf,Yac]at hok
   exact hZ _ _ ⟨_,_,rfl,hok,S1⟩
 rintro τ μ1 ⟨o4,o5,rfl,hok,S1⟩
 rw [Jt hown hok]at q1 q2
 unfold Qh at q1 q2
 refine Ay (fun τ μ'=>Op g.pl.length g.le.length S=none/\Sub μ μ') (λZ hZ=>?_) ?_
 ·have i5:((S.as.map Av).length:Int)=S.as.length:=by rw [Yac]
  refine dif (λc=>Mw rfl ?_) (λc=>?_)
  ·refine Ae rfl ⟨rfl,μ,S1,q2 _ ?_⟩
   rw [i5]at c ⊢
   rw [Ybd (show 8 < S.as.length by omega),Bool.true_or,Yak rfl]
  ·rw [i5]at c
   rw [Yau (show ¬ 8 < S.as.length by omega),Bool.false_or]at q1 q2
   refine Ae (Ap (j:=2) rfl) ⟨g,S.own,S.es,rfl,by have:=hB.e;omega,fun μ2 S2=>br (λc2=>?_) (λc2=>hZ _ _ ⟨?_,λb m hb=>S2 b m (S1 b m hb)⟩)⟩
   ·refine Ae rfl ⟨rfl,μ,(λb m hb=>S2 b m (S1 b m hb)),q2 _ ?_⟩
    rw [c2,Yak rfl,i5]
   ·rw [Jt hown hok]
    unfold Qh
    rw [Yau (show ¬ 8 < S.as.length by omega),Bool.false_or,c2,Yah Yad]
 rintro τ μ2 ⟨jk,S2⟩
 rw [Jt hown hok]at jk
 unfold Qh at jk
 exact⟨μ,S2,q1 jk⟩
theorem Uc(m:Int):([PyData.int 0,.int 1,.int 2].any λe=>PyData.eqv e (.int m))=thr m 3:=by
 simp only [List.any_cons,List.any_nil,Ht,Bool.or_false]
 unfold thr
 rw [<- Bool.decide_or,<- Bool.decide_or]
 exact Yd9.mpr ⟨λh=>by omega,λh=>by omega⟩
theorem X0:B7 (.tuple [.int 0,.int 1,.int 2]):=⟨rfl,by simp [PyData.depth,PyData.depthAll]⟩
theorem Qi{np nl m:Int}(h:0<=np)(a:Zar):fit np nl m a=(thr a.p (np+m) && (thr a.x nl && E9 a.ts np (np+m))):=by
 unfold fit E9
 congr 2
 rw [Bool.and_comm]
 congr 2
 funext t
 rw [Qes,<- Ydz,<- Ydz,<- Ydz]
 exact Yd9.mpr ⟨λh=>by omega,λh=>by omega⟩
theorem X1{np nl:Int}{s:Zsa}(h:0<=np){a:Zar}(ha:s.as[0]?=some a):Oo np nl s 0=fit np nl s.own a:=by
 unfold Oo
 rw [ha,Qi h]
 unfold msb Mu
 rw [List.take_zero,List.getLast?_nil]
 simp only [Bool.and_true]
theorem X2{np nl:Int}{s:Zsa}(h:0<=np){k:Nat}{a b:Zar}(ha:s.as[k+1]?=some a)(hb:s.as[k]?=some b):Oo np nl s (k+1)=(fit np nl s.own a && !T1 (Av a) (Av b)):=by
 unfold Oo
 rw [ha,Qi h]
 unfold msb Mu
 rw [Yds,hb,show(some b).toList=[b] from rfl,List.getLast?_concat]
 dsimp only
 rw [Mn _ _ (Fo a).2.2 (Fo b).2.2 (Gg a b),Bool.not_not]
 simp only [Bool.and_assoc]
def duD:Option Int->PyData
 | none=>.none
 | some i=>.int i
abbrev nDu:List Str:=["_law_game_here","_law_saying_here","_law_many","_law_arrows","_law_ends","_law_at"]
theorem X3:FnScope nDu ["_law_game_here","_law_saying_here"] (Af sDu):=⟨rfl,rfl,rfl,by decide +kernel,rfl,by decide +kernel,by decide +kernel⟩
theorem Qib:(["_law_stand","_law_many","_law_game_here"]:List Str).Nodup:=by decide +kernel
def Qic:ASp:=λxs μ R=>∃(g:Gam) (s:Zsa),xs=[.D (Bz g),.D (Cw s)]/\ZB s/\R (.D (duD (Op g.pl.length g.le.length s))) μ
theorem Qid{n:Nat}(F:Fun K "_law_due" "_law_due" sDu f fd) (cAf:VCal P w K mg base n "_law_arrow_fits" ["_law_game_here","_law_many","_law_arrow"] Qh6) (cRs:VCal P w K mg base n "_law_rises" ["_law_numbers"] Qer) (al:mg "range" = none) (ag:mg "len" = none):FnOk P w K mg base Fb (n+1) f fd ["_law_game_here","_law_saying_here"] (Jy K 2 Qic):=by
 refine F.vok X3 λaz A outer s H E hr=>⟨_,(Ad (Fi (vv 1) (Mb (n:=3) rfl (B2 (A3 (i:=2) X3.nd rfl (Or.inr rfl)) (B2 (A3 (i:=3) X3.nd rfl (Or.inl rfl)) (B2 (A3 (i:=4) X3.nd rfl (Or.inl rfl)) Ft)))))
   (Ad (Be (Az (L7 hr) (vv 2) (Bc (Aa Ab (Aa Ab (Aa Ab Ac)))) (by with_unfolding_all rfl)) (Ah (Ar (Md Ab))) Aq)
   (Ad (Fj Ydy rfl (Ce rfl al (Aa (Al Bl rfl ag Yaq (Aa (vv 3) Ac)) Ac)) (A3 (i:=5) X3.nd rfl (Or.inl rfl)) (Ad (Be (Cr (Cq (Ai cAf hr rfl (Aa (vv 0) (Aa (vv 2) (Aa (Ax Bg (vv 3) (vv 5)) Ac)))))) (Ah (Ar (vv 5))) Aq)
   (Ah (Be (VW.pt (O9 (Az Ta (vv 5) Ab (nomark _)) (L5 (Az (Qhe hr) (Ax Bg (vv 3) (vv 5)) (Ax Bg (vv 3) (Am Qx (vv 5) Ab)) (nomark _))))) (Ah (Ar (vv 5))) Aq))))
   (Ad (Be (VW.pt (Fs (Az Ta (Al Bl rfl ag Yaq (Aa (vv 3) Ac)) Ab (nomark _)) (En (Cr (Cq (Ai cRs hr rfl (Aa (vv 4) Ac))))))) (Ah (Ar (Al Bl rfl ag Yaq (Aa (vv 3) Ac)))) Aq)
   (Ad (Be (Az Ta (Al Bl rfl ag Yaq (Aa (Co (N':=["_law_stand","_law_many","_law_game_here"]) (mp:=[none,some 2,some 0]) rfl (Er (vv 4)) (λ_ _ _ _=>(A3 (i:=0) Qib rfl (Or.inl rfl) (Or.inr rfl))) (λ_ _ _ _=>(Ep (VW.pt (Fs (Az Im (vv 0) Ab (nomark _)) (En (Az Qgl (vv 0) (Am A4 (Al Bl rfl ag Yaq (Aa (Ax Bg (vv 2) Ab) Ac)) (vv 1)) (nomark _))))))) (λ_ _ _ _=>(vv 0)) (Br (N:=nDu) (pn:=(Af sDu).names) (by decide +kernel))) Ac)) Ab (nomark _)) (Ah (Ar (Al Bl rfl ag Yaq (Aa (vv 3) Ac)))) Aq)
   (Ah (Ar Ik))))))),?_⟩
 rintro xs μ R _ ⟨g,S,rfl,hB,q⟩
 have hn:=hB.n
 have wt:(0:Int)<=g.pl.length:=by omega
 have qs:∀{i:Int} {μ':M},Op g.pl.length g.le.length S=some i->Sub μ μ'->X6 R (.D (.int i)) μ':=λ{i μ'} e S'=>⟨μ,S',by rw [e]at q;exact q⟩
 refine Bq ⟨rfl,Qh8 ?_⟩
 dsimp only [List.set,Ed]
 refine Ay (fun τ μ'=>τ=[some (.D (Bz g)),some (.D (Cw S)),some (.D (.int S.own)),some (.D (.tuple (S.as.map Av))),some (.D (Bu S.es)),none]/\thr S.own 3=true/\μ=μ') (λZ hZ=>?_) ?_
 ·refine Ae rfl ⟨Es _,X0,?_⟩
  rw [Uc]
  refine br (λc=>?_) (λc=>?_)
  ·rw [Ybw]at c
   exact qs (Xx c) Sub.refl
  ·rw [Ybx]at c
   exact hZ _ _ ⟨rfl,c,rfl⟩
 rintro τ _ ⟨rfl,hown,rfl⟩
 have i5:((S.as.map Av).length:Int)=S.as.length:=by rw [Yac]
 have ak:(Dl 0 ((S.as.map Av).length:Int).toNat).length=S.as.length:=by rw [Bp,i5];omega
 refine Ay (fun τ μ'=>∃o5,τ=[some (.D (Bz g)),some (.D (Cw S)),some (.D (.int S.own)),some (.D (.tuple (S.as.map Av))),some (.D (Bu S.es)),o5]/\(∀j < S.as.length,Oo g.pl.length g.le.length S j=true)/\Sub μ μ') (λZ hZ=>?_) ?_
 ·refine⟨by rw [i5];omega,by rw [i5];omega,?_⟩
  refine Ip (λi τ μ'=>∃o5,τ=[some (.D (Bz g)),some (.D (Cw S)),some (.D (.int S.own)),some (.D (.tuple (S.as.map Av))),some (.D (Bu S.es)),o5]/\(∀j < i,Oo g.pl.length g.le.length S j=true)/\Sub μ μ') ⟨none,rfl,(λj hj=>absurd hj (Ydi _)),Sub.refl⟩ (λ_ _ _ _=>trivial) ?_ ?_
  ·rintro i y τ μ1 Z2 hy ⟨o5,rfl,hok,S1⟩ hZ2
   have hi:i < S.as.length:=by rw [<- ak];exact(List.getElem?_eq_some_iff.mp hy).1
   have ey:=Fu _ _ _ hy
   rw [Int.zero_add]at ey
   subst ey
   have ha:=List.getElem?_eq_getElem hi
   generalize S.as[i]=a at ha
   have p7:=hB.t a (Ybr ha)
   have hz:atI (S.as.map Av) (i:Int)=some (Av a):=Ap (by rw [List.getElem?_map,ha];rfl)
   have nxt:∀{μ2:M},Sub μ μ2->Oo g.pl.length g.le.length S i=true->∀j < i+1,Oo g.pl.length g.le.length S j=true:=λ{μ2} _ c j hj=>by
    by_cases e:j=i
    ·rw [e];exact c
    ·exact hok j (by omega)
   refine Ay (fun τ μ'=>τ=[some (.D (Bz g)),some (.D (Cw S)),some (.D (.int S.own)),some (.D (.tuple (S.as.map Av))),some (.D (Bu S.es)),some (.D (.int i))]/\fit g.pl.length g.le.length S.own a=true/\Sub μ μ') (λZ3 cj=>?_) ?_
   ·refine Ae hz ⟨g,S.own,a,rfl,p7,fun μ2 S2=>br (λc=>?_) (λc=>?_)⟩
    ·rw [Ybw]at c
     refine qs (Xy hown hi hok ?_) λb m hb=>S2 b m (S1 b m hb)
     cases i with
     | zero=>rw [X1 wt ha,c]
     | succ k =>
      have hb:=List.getElem?_eq_getElem (show k < S.as.length by omega)
      rw [X2 wt ha hb,c,Yce]
    ·rw [Ybx]at c
     exact cj _ _ ⟨rfl,c,λb m hb=>S2 b m (S1 b m hb)⟩
   rintro τ μ2 ⟨rfl,gp,S2⟩
   cases i with
   | zero =>
    refine dif (λc=>absurd c (by decide)) (λc=>Uf rfl (hZ2 _ _ ⟨_,rfl,nxt S2 ?_,S2⟩))
    rw [X1 wt ha];exact gp
   | succ k =>
    have hb:=List.getElem?_eq_getElem (show k < S.as.length by omega)
    generalize S.as[k]=b at hb
    have hzb:atI (S.as.map Av) (((k+1:Nat):Int) - 1)=some (Av b):=by
     rw [show((k+1:Nat):Int) - 1=(k:Int) by omega]
     exact Ap (by rw [List.getElem?_map,hb];rfl)
    have eo:=X2 (nl:=g.le.length) wt ha hb
    rw [gp,Ycd]at eo
    refine dif (λc=>Ae hz (Ae hzb ⟨Gf a,Gf b,Gg a b,br (λc2=>?_) (λc2=>?_)⟩)) (λc=>absurd (show((k+1:Nat):Int) > 0 by omega) c)
    ·have c2:T1 (Av a) (Av b)=true:=c2
     rw [c2]at eo
     exact qs (Xy hown hi hok eo) S2
    ·have c2:T1 (Av a) (Av b)=false:=c2
     rw [c2]at eo
     exact hZ2 _ _ ⟨_,rfl,nxt S2 eo,S2⟩
  ·rintro τ μ1 ⟨o5,rfl,hok,S1⟩
   rw [ak]at hok
   exact hZ _ _ ⟨_,rfl,hok,S1⟩
 rintro τ μ1 ⟨o5,rfl,hok,S1⟩
 have de:=hB.e
 rw [Jt hown hok]at q qs
 unfold Qh at q qs
 have w6:∀{μ':M},(if decide (8 < S.as.length) || !E9 S.es 0 (g.pl.length+S.own) then some (S.as.length:Int) else none)=some (S.as.length:Int)->Sub μ μ'->X6 R (.D (.int ((S.as.map Av).length:Nat))) μ':=λe S'=>by rw [i5];exact qs e S'
 refine Ay (fun τ μ'=>τ=[some (.D (Bz g)),some (.D (Cw S)),some (.D (.int S.own)),some (.D (.tuple (S.as.map Av))),some (.D (Bu S.es)),o5]/\(¬ 8 < S.as.length/\inc S.es=true)/\Sub μ μ') (λZ hZ=>?_) ?_
 ·refine dif (λc=>Mw rfl ?_) (λc=>?_)
  ·rw [i5]at c
   refine w6 ?_ S1
   rw [Ybd (show 8 < S.as.length by omega),Bool.true_or,Yak rfl]
  ·rw [i5]at c
   refine⟨S.es,rfl,de,fun μ2 S2=>br (λc2=>?_) (λc2=>?_)⟩
   ·rw [Ybw]at c2
    refine w6 ?_ λb m hb=>S2 b m (S1 b m hb)
    unfold E9
    rw [c2,Bool.and_false,Bool.not_false,Bool.or_true,Yak rfl]
   ·rw [Ybx]at c2
    exact hZ _ _ ⟨rfl,⟨by omega,c2⟩,λb m hb=>S2 b m (S1 b m hb)⟩
 rintro τ μ2 ⟨rfl,⟨h8,hinc⟩,S2⟩
 rw [Yau h8,Bool.false_or]at q w6
 have er:E9 S.es 0 (g.pl.length+S.own)=!decide (0 < (S.es.filter λe=>decide (e < 0) || decide ((g.pl.length:Int)+S.own<=e)).length):=by
  unfold E9
  rw [hinc,Bool.and_true,Yen,Yb2,Ybw,Yeu,Nat.not_lt,Nat.le_zero,Yep,List.filter_eq_nil_iff]
  refine⟨λh e he=>?_,λh e he=>?_⟩
  ·have:=h e he
   simp only [thr,Bool.and_eq_true,Bool.or_eq_true,decide_eq_true_iff]at this ⊢
   omega
  ·have:=h e he
   simp only [thr,Bool.and_eq_true,Bool.or_eq_true,decide_eq_true_iff]at this ⊢
   omega
 refine Ay (fun τ μ'=>E9 S.es 0 (g.pl.length+S.own)=true/\Sub μ μ') (λZ hZ=>?_) ?_
 ·refine Ae (Bx S.es) λpl hpl=>?_
  refine cmapf S.es zA (λe=>decide (e < 0) || decide ((g.pl.length:Int)+S.own<=e)) zA (fun τ=>∃o,τ=[o,some (.D (.int S.own)),some (.D (Bz g))]) ⟨none,rfl⟩ Ag (seven (by omega)) (λ_=>Bx S.es) ?_ ?_
  ·rintro i x τ' aj W2 W3 hi ⟨o,rfl⟩ h2 h3
   refine dif (λc=>Mw rfl (h2 (by simp [c]) _ ⟨_,rfl⟩)) (λc=>Ae (Ap (j:=0) rfl) ?_)
   refine br (λc2=>?_) (λc2=>?_)
   ·have c2:=Ybh c2
    rw [Yac]at c2
    exact h2 (by simp [c2]) _ ⟨_,rfl⟩
   ·have c2:=Yda c2
    rw [Yac]at c2
    exact h3 (by simp;omega) _ ⟨_,rfl⟩
  ·have S3:=(S2.new (m:=.lst []) (S2.none hpl)).new (m:=.lst ((S.es.filter (λe=>decide (e < 0) || decide ((g.pl.length:Int)+S.own<=e))).map zA)) (S2.none hpl)
   refine Ae Ag (br (λc=>?_) (λc=>hZ _ _ ⟨?_,S3⟩))
   ·have c:=Ybh c
    rw [Yac]at c
    refine w6 ?_ S3
    rw [er,Ybd (by omega)]
    rfl
   ·have c:=Yda c
    rw [Yac]at c
    rw [er,Yau (by omega)]
    rfl
 rintro τ μ3 ⟨h,S3⟩
 rw [h]at q
 exact⟨μ,S3,q⟩
theorem Qie{i:Nat}{τ:ASt}{μ:M}{x:AV}{R:AV->M->Prop}(h:τ[i]?=some (some x))(q:R x μ):L4 i τ μ R:=by
 unfold L4;rw [h];exact q
theorem Qk0:kit "int" "bool" = false:=by decide
def toD:Option Int->PyData
 | none=>.bool true
 | some a=>.tuple [.str "refused",.int a]
abbrev nTo:List Str:=["_law_game_here","_law_saying_here","_law_caught","_law_found","e"]
theorem Ud:FnScope nTo ["_law_game_here","_law_saying_here"] (Af sTo):=⟨rfl,rfl,rfl,by decide +kernel,rfl,by decide +kernel,by decide +kernel⟩
def Qao:ASp:=λxs μ R=>∃(g:Gam) (s:Zsa),xs=[.D (Bz g),.D (Cw s)]/\ZB s/\R (.D (toD (Op g.pl.length g.le.length s))) μ
theorem Qif{n:Nat}{c0 c1 c2 c3 c4 c5 c6 c7 D:Addr}(F:Fun K "_law_told" "_law_told" sTo f fd) (cLk:Ks P w K mg base n "look_saying" ["game","saying"] (Qh9 c2)) (aq:mg "isinstance" = none) (ci:mg "ValueError" = none) (eh:mg "bool" = none)
  (mc0:mg "NoText" = some (.ref c0)) (yj:mg "NoGame" = some (.ref c1)) (xa:mg "NoSaying" = some (.ref c2)) (mc3:mg "TooMany" = some (.ref c3)) (mc4:mg "NoPaper" = some (.ref c4)) (xn:mg "NoFit" = some (.ref c5)) (mc6:mg "NoProgram" = some (.ref c6)) (zv:mg "NoRow" = some (.ref c7)) (mD:mg "DuelError" = some (.ref D))
  (er:Err K c2 D [c0,c1,c3,c4,c5,c6,c7]) (na:Gk K c2 "at"):FnOk P w K mg base Fb (n+1) f fd ["_law_game_here","_law_saying_here"] (Jy K 2 Qao):=by
 refine F.vok0 Ud λaz A outer s H E hr=>⟨_,(Da (VS.z (Ao (i:=2) Ud.nd rfl (Or.inl rfl) Ik))
   (Da (VS.z (Ao (i:=3) Ud.nd rfl (Or.inl rfl) Ik))
   (Da (Y7 (i:=4) (λxe pn EX hX=>(Ah (Ao (i:=3) Ud.nd rfl (Or.inl rfl) (V2 cLk hr hX rfl (Aa (vv 0) (Aa (vv 1) Ac)))))) (λe=>(Ah (Ao (i:=2) Ud.nd rfl (Or.inl rfl) (vv 4)))) rfl mD er.xD er.mD rfl rfl Ud.nd rfl rfl)
   (Da (VS.z (Be (Az Qa0 (vv 2) Ik (nomark _)) (Ah (Ar (Ee V6 (vv 3) Fd (nomark _)))) Aq))
   (Da (VS.z (Be (VW.pt (Fs (Cr (Cq (Zb (K:=K) rfl rfl aq rfl xa (vv 2)))) (Fs (Cr (Cq (Wb (K:=K) (T := "ValueError") rfl rfl aq rfl ci (by decide +kernel) (vv 2)))) (En (Cq (Vw rfl aq rfl eh PyProof.Rows.boot_bool Kv (Q5 (K:=K) rfl (vv 2) rfl))))))) (Ah (Ar (Bc (Aa Ch Ac)))) Aq))
   (Da (VS.z (Be (Cq (Tg (K:=K) rfl rfl aq (Ir rfl mc0 (Ir rfl yj (Ir rfl mc3 (Ir rfl mc4 (Ir rfl xn (Ir rfl mc6 (Ir rfl zv Qdj))))))) (vv 2) (hl:=seven (n:=7) (by decide)))) (Ah (Ar (Bc (Aa Ch Ac)))) Aq))
   (V3 (VS.z (Ar (Bc (Aa Ch (Aa (Q5 (K:=K) rfl (vv 2) rfl) Ac)))))))))))),?_⟩
 rintro xs μ R _ ⟨g,S,rfl,hB,q⟩
 refine Bq (Qa5 (Bq (Qa5 (Bq ?_))))
 refine⟨g,S,rfl,hB,λhn=>?_,λa hw=>⟨er.un,?_⟩⟩
 ·rw [hn]at q
  refine Bq (Mw rfl ?_)
  exact⟨μ,Sub.refl,q⟩
 ·rw [hw]at q
  refine Qgy (Qie (x:=.X c2 [("at",.int a)]) rfl ?_)
  refine Bq (Uf rfl (Bq ⟨er.xi,Ae er.self (Uf rfl ⟨er.xi,Ae er.iV (Uf rfl ⟨er.xi.toXCls,na,Ae rfl (Ae rfl (Uf Qk0 ?_))⟩)⟩)⟩))
  refine Bq ⟨er.xi,Ae er.no (Uf rfl ⟨er.xi.toXCls,na,Ae rfl ⟨μ,Sub.refl,q⟩⟩)⟩
abbrev nRi:List Str:=["_law_game_here","_law_saying_here","_law_due_here"]
theorem Qig:FnScope nRi ["_law_game_here","_law_saying_here"] (Af sRi):=⟨rfl,rfl,rfl,by decide +kernel,rfl,by decide +kernel,by decide +kernel⟩
theorem X4(o:Option Int):B7 (toD o):=by
 rcases o with _ | a
 ·exact Td _
 ·exact⟨by simp only [toD,PyData.canLay0,PyData.canLayAll0];decide +kernel,by simp [toD,PyData.depth,PyData.depthAll]⟩
theorem Qap(o:Option Int):PyData.eqv (toD o) (toD o)=true:=PySem.SeqAt.eqv_refl _ (X4 o).1
def Qev:ASp:=λxs μ R=>∃(g:Gam) (s:Zsa),xs=[.D (Bz g),.D (Cw s)]/\ZB s/\R (.D (.bool true)) μ
theorem Qih{n:Nat}(F:Fun K "_law_right" "_law_right" sRi f fd) (cDu:VCal P w K mg base n "_law_due" ["_law_game_here","_law_saying_here"] Qic) (p9:VCal P w K mg base n "_law_told" ["_law_game_here","_law_saying_here"] Qao):FnOk P w K mg base Fb (n+1) f fd ["_law_game_here","_law_saying_here"] (Jy K 2 Qev):=by
 refine F.vok Qig λaz A outer s H E hr=>⟨_,(Ad (Ao (i:=2) Qig.nd rfl (Or.inl rfl) (Ai cDu hr rfl (Aa (vv 0) (Aa (vv 1) Ac))))
   (Ad (Be (Az Qa0 (vv 2) Ik (nomark _)) (Ah (Ar (Ee V6 (Ai p9 hr rfl (Aa (vv 0) (Aa (vv 1) Ac))) Fd (nomark _)))) Aq)
   (Ah (Ar (Ee (Dr hr) (Ai p9 hr rfl (Aa (vv 0) (Aa (vv 1) Ac))) (Bc (Aa Ch (Aa (vv 2) Ac))) (nomark _)))))),?_⟩
 rintro xs μ R _ ⟨g,S,rfl,hB,q⟩
 refine Bq ⟨g,S,rfl,hB,?_⟩
 have ht:=X4 (Op g.pl.length g.le.length S)
 have hv:=Qap (Op g.pl.length g.le.length S)
 rcases ho:Op g.pl.length g.le.length S with _ | a
 ·refine Bq (Mw rfl ⟨g,S,rfl,hB,?_⟩)
  rw [ho]
  exact⟨μ,Sub.refl,q⟩
 ·rw [ho]at ht hv
  refine Bq (Uf rfl ⟨g,S,rfl,hB,?_⟩)
  rw [ho]
  refine⟨ht,ht,μ,Sub.refl,?_⟩
  have e:PyData.eqv (toD (some a)) (.tuple [.str "refused",duD (some a)])=true:=hv
  rw [e]
  exact q
end
section
variable {P:Program}{w:World}{K:PySem.W.Frag}{mg:Str->Option Value}{base:Heap}{f:Addr}{fd:FuncData}
theorem R3{α:Type}(g:α->PyData)(xs:List α)(n:Nat):∃ys:List α,Dj (xs.map g) (some (n:Int)) (some ((n:Int)+1))=ys.map g/\ys.length<=1/\∀y∈ys,y∈xs:=by
 have e:((n:Int)+1)=((n+1:Nat):Int):=rfl
 rw [e]
 unfold Dj
 rw [HT.sIx_nat,HT.sIx_nat,<- List.map_drop,<- List.map_take]
 refine⟨_,rfl,?_,λy hy=>Yde (Yc2 hy)⟩
 rw [Ybs]
 omega
theorem Cs{α:Type}{g:α->PyData}{A B:List PyData}{x y:List α}(hA:A=x.map g)(hB:B=y.map g)(h:x.length+y.length<=120):A.length+B.length<=sizeLine:=by
 rw [hA,hB,Yac,Yac]
 exact seven (by omega)
abbrev nBe:List Str:=["_law_state","_law_numbers","_law_form","_law_at","_law_other"]
theorem Qaq:FnScope nBe ["_law_state","_law_numbers"] (Af sBe):=⟨rfl,rfl,rfl,by decide +kernel,rfl,by decide +kernel,by decide +kernel⟩
def Qew:ASp:=λxs μ R=>∃(a l:Addr) (is:List Int),xs=[.R a,.D (Bu is)]/\is.length<=50/\Pot μ a l/\∀(js:List Int) μ',js.length<=is.length+1->Pot μ' a l->A7 a l μ μ'->R (.D (Bu js)) μ'
theorem Qii{n:Nat}(F:Fun K "_law_bent" "_law_bent" sBe f fd) (cf:VCal P w K mg base n "_law_draw" ["_law_state","_law_many"] J8) (ag:mg "len" = none) (am:mg "tuple" = none) (bi:mg "reversed" = none):FnOk P w K mg base Fb (n+1) f fd ["_law_state","_law_numbers"] (Jy K 2 Qew):=by
 refine F.vok Qaq λaz A outer s H E hr=>⟨_,(Ad (Ao (i:=2) Qaq.nd rfl (Or.inl rfl) (Ai cf hr rfl (Aa (vv 0) (Aa Ab Ac))))
   (Ad (Ao (i:=3) Qaq.nd rfl (Or.inl rfl) (Ai cf hr rfl (Aa (vv 0) (Aa (Am A4 (Al Bl rfl ag Yaq (Aa (vv 1) Ac)) Ab) Ac))))
   (Ad (Ao (i:=4) Qaq.nd rfl (Or.inl rfl) (Am Qx (Ai cf hr rfl (Aa (vv 0) (Aa Ab Ac))) Ab))
   (Ad (Be (Az Im (vv 2) Ab (nomark _)) (Ah (Ar (Am A4 (Am A4 (A0 (vv 1) Bd (A8 (vv 3))) (Bc (Aa (vv 4) Ac))) (A0 (vv 1) (A8 (vv 3)) Bd)))) Aq)
   (Ad (Be (Az (Dr hr) (vv 2) Ab (nomark _)) (Ah (Ar (Am A4 (A0 (vv 1) Bd (A8 (vv 3))) (A0 (vv 1) (A8 (Am A4 (vv 3) Ab)) Bd)))) Aq)
   (Ad (Be (Az (Dr hr) (vv 2) Ab (nomark _)) (Ah (Ar (Am A4 (Am A4 (A0 (vv 1) Bd (A8 (vv 3))) (Bc (Aa (vv 4) Ac))) (A0 (vv 1) (A8 (Am A4 (vv 3) Ab)) Bd)))) Aq)
   (Ad (Be (Az (Dr hr) (vv 2) Ab (nomark _)) (Ah (Ar (Am A4 (Am A4 (A0 (vv 1) Bd (A8 (vv 3))) (A0 (vv 1) (A8 (vv 3)) (A8 (Am A4 (vv 3) Ab)))) (A0 (vv 1) (A8 (vv 3)) Bd)))) Aq)
   (Ah (Ar (Rv rfl rfl am rfl bi (vv 1))))))))))),?_⟩
 rintro xs μ R _ ⟨a,l,is,rfl,hl,hP,q⟩
 refine Ay (fun τ μ'=>∃fo:Nat,τ=[some (.R a),some (.D (Bu is)),some (.D (.int fo)),none,none]/\Pot μ' a l/\A7 a l μ μ') (λZ hZ=>⟨a,l,6,rfl,hP,by decide,by decide,λv μ1 hv P1 S1=>hZ _ _ ⟨v,rfl,P1,S1⟩⟩) ?_
 rintro τ μ1 ⟨fo,rfl,P1,S1⟩
 refine Ay (fun τ μ'=>∃at_:Nat,τ=[some (.R a),some (.D (Bu is)),some (.D (.int fo)),some (.D (.int at_)),none]/\at_<=is.length/\Pot μ' a l/\A7 a l μ μ') (λZ hZ=>⟨a,l,is.length+1,by rw [<- Yac (f:=PyData.int)];rfl,P1,by omega,by omega,λv μ2 hv P2 S2=>hZ _ _ ⟨v,rfl,by omega,P2,S1.trans S2⟩⟩) ?_
 rintro τ μ2 ⟨k,rfl,hk,P2,S2⟩
 refine Ay (fun τ μ'=>∃o:Int,τ=[some (.R a),some (.D (Bu is)),some (.D (.int fo)),some (.D (.int k)),some (.D (.int o))]/\Pot μ' a l/\A7 a l μ μ') (λZ hZ=>⟨a,l,9,rfl,P2,by decide,by decide,λv μ3 hv P3 S3=>hZ _ _ ⟨_,rfl,P3,S2.trans S3⟩⟩) ?_
 rintro τ μ3 ⟨o,rfl,P3,S3⟩
 have hT:Dj (is.map PyData.int) none (some (k:Int))=(is.take k).map .int:=E4 _ _ _
 have hD:Dj (is.map PyData.int) (some (k:Int)) none=(is.drop k).map .int:=D7 _ _ _
 have mi:Dj (is.map PyData.int) (some ((k:Int)+1)) none=(is.drop (k+1)).map .int:=D7 _ _ (k+1)
 obtain⟨ms,hM,hm1,-⟩:=R3 PyData.int is k
 have lT:(is.take k).length=k:=by rw [Ybs];omega
 have lD:(is.drop k).length=is.length - k:=Ycp
 have lu:(is.drop (k+1)).length=is.length - (k+1):=Ycp
 have fin:∀{ds:List PyData} (js:List Int),ds=js.map .int->js.length<=is.length+1->X6 R (.D (.tuple ds)) μ3:=by
  rintro ds js rfl h
  exact⟨_,Sub.refl,q js _ h P3 S3⟩
 have ap:∀{A B:List PyData} {x y:List Int},A=x.map .int->B=y.map .int->A++B=(x++y).map .int:=by
  rintro A B x y rfl rfl
  exact Ybe.symm
 refine Bq (dif (λc=>⟨Cs hT (y:=[o]) rfl ?_,Cs (ap hT (y:=[o]) rfl) hD ?_,fin _ (ap (ap hT (y:=[o]) rfl) hD) ?_⟩) (λc=>?_))
 ·rw [lT,Ybc];omega
 ·rw [Yag,lT,lD,Ybc];omega
 ·rw [Yag,Yag,lT,lD,Ybc];omega
 refine Bq (ieq (λc=>⟨Cs hT mi ?_,fin _ (ap hT mi) ?_⟩) (λc=>?_))
 ·rw [lT,lu];omega
 ·rw [Yag,lT,lu];omega
 refine Bq (ieq (λc=>⟨Cs hT (y:=[o]) rfl ?_,Cs (ap hT (y:=[o]) rfl) mi ?_,fin _ (ap (ap hT (y:=[o]) rfl) mi) ?_⟩) (λc=>?_))
 ·rw [lT,Ybc];omega
 ·rw [Yag,lT,lu,Ybc];omega
 ·rw [Yag,Yag,lT,lu,Ybc];omega
 refine Bq (ieq (λc=>⟨Cs hT hM ?_,Cs (ap hT hM) hD ?_,fin _ (ap (ap hT hM) hD) ?_⟩) (λc=>?_))
 ·rw [lT];omega
 ·rw [Yag,lT,lD];omega
 ·rw [Yag,Yag,lT,lD];omega
 refine⟨by rw [Yac];omega,fin is.reverse ?_ ?_⟩
 ·rw [List.map_reverse]
 ·rw [Yeb];omega
abbrev nAb:List Str:=["_law_state","_law_arrow","_law_form","_law_other"]
theorem Qex:FnScope nAb ["_law_state","_law_arrow"] (Af sAb):=⟨rfl,rfl,rfl,by decide +kernel,rfl,by decide +kernel,by decide +kernel⟩
def Qij:ASp:=λxs μ R=>∃(a l:Addr) (z:Zar),xs=[.R a,.D (Av z)]/\z.ts.length<=50/\Pot μ a l/\∀(y:Zar) μ',y.ts.length<=z.ts.length+1->Pot μ' a l->A7 a l μ μ'->R (.D (Av y)) μ'
theorem Qik{n:Nat}(F:Fun K "_law_arrow_bent" "_law_arrow_bent" sAb f fd) (cBe:VCal P w K mg base n "_law_bent" ["_law_state","_law_numbers"] Qew) (cf:VCal P w K mg base n "_law_draw" ["_law_state","_law_many"] J8):FnOk P w K mg base Fb (n+1) f fd ["_law_state","_law_arrow"] (Jy K 2 Qij):=by
 refine F.vok Qex λaz A outer s H E hr=>⟨_,(Ad (Ao (i:=2) Qex.nd rfl (Or.inl rfl) (Ai cf hr rfl (Aa (vv 0) (Aa Ab Ac))))
   (Ad (Ao (i:=3) Qex.nd rfl (Or.inl rfl) (Am Qx (Ai cf hr rfl (Aa (vv 0) (Aa Ab Ac))) Ab))
   (Ad (Be (Az (Dr hr) (vv 2) Ab (nomark _)) (Ah (Ar (Am A4 (Bc (Aa (vv 3) Ac)) (A0 (vv 1) (A8 Ab) Bd)))) Aq)
   (Ad (Be (Az (Dr hr) (vv 2) Ab (nomark _)) (Ah (Ar (Bc (Aa (Ax Bg (vv 1) Ab) (Aa (vv 3) (Aa (Ax Bg (vv 1) Ab) Ac)))))) Aq)
   (Ah (Ar (Am A4 (A0 (vv 1) Bd (A8 Ab)) (Bc (Aa (Ai cBe hr rfl (Aa (vv 0) (Aa (Ax Bg (vv 1) Ab) Ac))) Ac))))))))),?_⟩
 rintro xs μ R _ ⟨a,l,z,rfl,hl,hP,q⟩
 refine Ay (fun τ μ'=>∃fo:Nat,τ=[some (.R a),some (.D (Av z)),some (.D (.int fo)),none]/\Pot μ' a l/\A7 a l μ μ') (λZ hZ=>⟨a,l,5,rfl,hP,by decide,by decide,λv μ1 hv P1 S1=>hZ _ _ ⟨v,rfl,P1,S1⟩⟩) ?_
 rintro τ μ1 ⟨fo,rfl,P1,S1⟩
 refine Ay (fun τ μ'=>∃o:Int,τ=[some (.R a),some (.D (Av z)),some (.D (.int fo)),some (.D (.int o))]/\Pot μ' a l/\A7 a l μ μ') (λZ hZ=>⟨a,l,8,rfl,P1,by decide,by decide,λv μ2 hv P2 S2=>hZ _ _ ⟨_,rfl,P2,S1.trans S2⟩⟩) ?_
 rintro τ μ2 ⟨o,rfl,P2,S2⟩
 refine Bq (ieq (λc=>⟨seven (n:=3) (by decide),_,Sub.refl,q ⟨o,z.x,z.ts⟩ _ (Ydn _) P2 S2⟩) (λc=>?_))
 refine Bq (ieq (λc=>Ae (Ap (j:=0) rfl) (Ae (Ap (j:=2) rfl) ⟨_,Sub.refl,q ⟨z.p,o,z.ts⟩ _ (Ydn _) P2 S2⟩)) (λc=>?_))
 refine Ae (Ap (j:=2) rfl) ⟨a,l,z.ts,rfl,hl,P2,λjs μ3 hj P3 S3=>⟨seven (n:=3) (by decide),_,Sub.refl,q ⟨z.p,z.x,js⟩ _ hj P3 (S2.trans S3)⟩⟩
structure ZK(k:Nat)(s:Zsa):Prop where
 o:s.own<=3
 n:s.as.length<=12+k
 t:∀a∈s.as,a.ts.length<=3+k
 e:s.es.length<=5+k
theorem ZK.b{k:Nat}{s:Zsa}(h:ZK k s)(hk:k<=5):ZB s:=⟨by have:=h.n;omega,λa ha=>by have:=h.t a ha;omega,by have:=h.e;omega⟩
theorem Qar{B:List Zar}(hl:B.length<=100):TOk (B.map Av):=by
 refine⟨by rw [Yac];omega,λd hd=>?_,λd hd=>?_,λd hd e he=>?_⟩
 ·obtain⟨a,ha,rfl⟩:=Ya2.mp hd
  obtain⟨h1,h2,h3⟩:=Fo a
  exact⟨h3,h1,by omega⟩
 ·obtain⟨a,ha,rfl⟩:=Ya2.mp hd
  exact⟨a.p,_,rfl⟩
 ·obtain⟨a,ha,rfl⟩:=Ya2.mp hd
  obtain⟨b,hb,rfl⟩:=Ya2.mp he
  exact Gg a b
def nine(np nl:Nat)(x:Nat):Zar:=⟨(x:Int) % np,(x:Int) / 3 % nl,[]⟩
abbrev nOt:List Str:=["_law_state","_law_game_here","_law_saying_here","_law_many","_law_arrows","_law_ends","_law_form","_law_at","_law_far","_law_stand","_law_arrow","_law_some_here"]
theorem Ka:FnScope nOt ["_law_state","_law_game_here","_law_saying_here"] (Af sOt):=⟨rfl,rfl,rfl,by decide +kernel,rfl,by decide +kernel,by decide +kernel⟩
theorem Qil:(["_law_k","_law_game_here"]:List Str).Nodup:=by decide +kernel
def Qey:ASp:=λxs μ R=>∃(a l:Addr) (g:Gam) (s:Zsa) (k:Nat),xs=[.R a,.D (Bz g),.D (Cw s)]/\0 < g.pl.length/\g.pl.length<=3/\0 < g.le.length/\g.le.length<=3/\ZK k s/\k<=5/\Pot μ a l/\∀(s':Zsa) μ',ZK (k+1) s'->Pot μ' a l->A7 a l μ μ'->R (.D (Cw s')) μ'
theorem Qim{n:Nat}(F:Fun K "_law_otherwise" "_law_otherwise" sOt f fd) (cBe:VCal P w K mg base n "_law_bent" ["_law_state","_law_numbers"] Qew) (cAb:VCal P w K mg base n "_law_arrow_bent" ["_law_state","_law_arrow"] Qij) (cf:VCal P w K mg base n "_law_draw" ["_law_state","_law_many"] J8) (ag:mg "len" = none) (al:mg "range" = none) (kg:mg "max" = none) (bd:mg "sorted" = none) (du:mg "set" = none) (am:mg "tuple" = none) (bi:mg "reversed" = none):FnOk P w K mg base Fb (n+1) f fd ["_law_state","_law_game_here","_law_saying_here"] (Jy K 3 Qey):=by
 refine F.vok Ka λaz A outer s H E hr=>⟨_,(Ad (Fi (vv 2) (Mb (n:=3) rfl (B2 (A3 (i:=3) Ka.nd rfl (Or.inl rfl)) (B2 (A3 (i:=4) Ka.nd rfl (Or.inl rfl)) (B2 (A3 (i:=5) Ka.nd rfl (Or.inl rfl)) Ft)))))
   (Ad (Ao (i:=6) Ka.nd rfl (Or.inl rfl) (Ai cf hr rfl (Aa (vv 0) (Aa Ab Ac))))
   (Ad (Ao (i:=7) Ka.nd rfl (Or.inl rfl) (Ai cf hr rfl (Aa (vv 0) (Aa (Am A4 (Al Bl rfl ag Yaq (Aa (vv 4) Ac)) Ab) Ac))))
   (Ad (Ao (i:=8) Ka.nd rfl (Or.inl rfl) (Ai cf hr rfl (Aa (vv 0) (Aa (Am A4 (Al Bl rfl ag Yaq (Aa (vv 4) Ac)) Ab) Ac))))
   (Ad (Be (Az (Dr hr) (vv 6) Ab (nomark _)) (Ah (Ar (Bc (Aa (Am Qx (Ai cf hr rfl (Aa (vv 0) (Aa Ab Ac))) Ab) (Aa (vv 4) (Aa (vv 5) Ac)))))) Aq)
   (Ad (Be (Az Im (vv 6) Ab (nomark _)) (Ah (Ar (Bc (Aa (vv 3) (Aa (vv 4) (Aa (Ai cBe hr rfl (Aa (vv 0) (Aa (vv 5) Ac))) Ac)))))) Aq)
   (Ad (Be (Az (Dr hr) (vv 6) Ab (nomark _)) (Ad (Ao (i:=9) Ka.nd rfl (Or.inl rfl) (Ai cf hr rfl (Aa (vv 0) (Aa (Am A4 (Al Bl rfl ag Yaq (Aa (Ax Bg (vv 1) Ab) Ac)) (Al (Qda rfl) rfl kg PyProof.Rows.boot_max (Aa (vv 3) (Aa Ab Ac)))) Ac))))
   (Ad (Ao (i:=10) Ka.nd rfl (Or.inl rfl) (Bc (Aa (vv 9) (Aa (Ai cf hr rfl (Aa (vv 0) (Aa (Al Bl rfl ag Yaq (Aa (Ax Bg (vv 1) Ab) Ac)) Ac))) (Aa (Bc Ac) Ac)))))
   (Ah (Ar (Bc (Aa (vv 3) (Aa (Am A4 (Am A4 (A0 (vv 4) Bd (A8 (vv 7))) (Bc (Aa (vv 10) Ac))) (A0 (vv 4) (A8 (vv 7)) Bd)) (Aa (vv 5) Ac)))))))) Aq)
   (Ad (Be (Az (Dr hr) (vv 6) Ab (nomark _)) (Ah (Ar (Bc (Aa (vv 3) (Aa (Am A4 (A0 (vv 4) Bd (A8 (vv 7))) (A0 (vv 4) (A8 (Am A4 (vv 7) Ab)) Bd)) (Aa (vv 5) Ac)))))) Aq)
   (Ad (Be (Az (Dr hr) (vv 6) Ab (nomark _)) (Ah (Ar (Bc (Aa (vv 3) (Aa (Am A4 (Am A4 (A0 (vv 4) Bd (A8 (vv 7))) (A0 (vv 4) (A8 (vv 8)) (A8 (Am A4 (vv 8) Ab)))) (A0 (vv 4) (A8 (vv 7)) Bd)) (Aa (vv 5) Ac)))))) Aq)
   (Ad (Be (Az (Dr hr) (vv 6) Ab (nomark _)) (Ad (Ao (i:=11) Ka.nd rfl (Or.inl rfl) (Ru hr rfl bd rfl du (Am A4 (vv 4) (B8 Dn rfl am Yb1 (Aa (Co (N':=["_law_k","_law_game_here"]) (mp:=[none,some 1]) rfl (Ce rfl al (Aa Ab Ac)) (λ_ _ _ _=>(A3 (i:=0) Qil rfl (Or.inl rfl) (Or.inr rfl))) (λ_ _ _ _=>C6) (λ_ _ _ _=>(Bc (Aa (Am Eo (vv 0) (Al Bl rfl ag Yaq (Aa (Ax Bg (vv 1) Ab) Ac))) (Aa (Am Eo (Am Pb (vv 0) Ab) (Al Bl rfl ag Yaq (Aa (Ax Bg (vv 1) Ab) Ac))) (Aa (Bc Ac) Ac))))) (Br (N:=nOt) (pn:=(Af sOt).names) (by decide +kernel))) Ac)))))
   (Ah (Ar (Bc (Aa (vv 3) (Aa (A0 (B8 Dn rfl am Yb1 (Aa (vv 11) Ac)) Bd (A8 Ab)) (Aa (vv 5) Ac))))))) Aq)
   (Ad (Be (Az (Dr hr) (vv 7) (Al Bl rfl ag Yaq (Aa (vv 4) Ac)) (nomark _)) (Ah (Ar (Bc (Aa (vv 3) (Aa (Rv rfl rfl am rfl bi (vv 4)) (Aa (vv 5) Ac)))))) Aq)
   (Ah (Ar (Bc (Aa (vv 3) (Aa (Am A4 (Am A4 (A0 (vv 4) Bd (A8 (vv 7))) (Bc (Aa (Ai cAb hr rfl (Aa (vv 0) (Aa (Ax Bg (vv 4) (vv 7)) Ac))) Ac))) (A0 (vv 4) (A8 (Am A4 (vv 7) Ab)) Bd)) (Aa (vv 5) Ac))))))))))))))))),?_⟩
 rintro xs μ R _ ⟨a,l,g,S,k,rfl,w9,qw,mx,hl3,hK,hk,hP,q⟩
 have hn:=hK.n
 refine Bq ⟨rfl,Qh8 ?_⟩
 refine Ay (fun τ μ'=>∃fo:Nat,τ=[some (.R a),some (.D (Bz g)),some (.D (Cw S)),some (.D (.int S.own)),some (.D (.tuple (S.as.map Av))),some (.D (Bu S.es)),some (.D (.int fo)),none,none,none,none,none]/\Pot μ' a l/\A7 a l μ μ') (λZ hZ=>⟨a,l,10,rfl,hP,by decide,by decide,λv μ1 hv P1 S1=>hZ _ _ ⟨v,rfl,P1,S1⟩⟩) ?_
 rintro τ μ1 ⟨fo,rfl,P1,S1⟩
 refine Ay (fun τ μ'=>∃i:Nat,τ=[some (.R a),some (.D (Bz g)),some (.D (Cw S)),some (.D (.int S.own)),some (.D (.tuple (S.as.map Av))),some (.D (Bu S.es)),some (.D (.int fo)),some (.D (.int i)),none,none,none,none]/\i<=S.as.length/\Pot μ' a l/\A7 a l μ μ') (λZ hZ=>⟨a,l,S.as.length+1,by rw [<- Yac (f:=Av)];rfl,P1,by omega,by omega,λv μ2 hv P2 S2=>hZ _ _ ⟨v,rfl,by omega,P2,S1.trans S2⟩⟩) ?_
 rintro τ μ2 ⟨i,rfl,hi,P2,S2⟩
 refine Ay (fun τ μ'=>∃j:Nat,τ=[some (.R a),some (.D (Bz g)),some (.D (Cw S)),some (.D (.int S.own)),some (.D (.tuple (S.as.map Av))),some (.D (Bu S.es)),some (.D (.int fo)),some (.D (.int i)),some (.D (.int j)),none,none,none]/\j<=S.as.length/\Pot μ' a l/\A7 a l μ μ') (λZ hZ=>⟨a,l,S.as.length+1,by rw [<- Yac (f:=Av)];rfl,P2,by omega,by omega,λv μ3 hv P3 S3=>hZ _ _ ⟨v,rfl,by omega,P3,S2.trans S3⟩⟩) ?_
 rintro τ μ3 ⟨j,rfl,hj,P3,S3⟩
 have hT:Dj (S.as.map Av) none (some (i:Int))=(S.as.take i).map Av:=E4 _ _ _
 have hD:Dj (S.as.map Av) (some (i:Int)) none=(S.as.drop i).map Av:=D7 _ _ _
 have mi:Dj (S.as.map Av) (some ((i:Int)+1)) none=(S.as.drop (i+1)).map Av:=D7 _ _ (i+1)
 obtain⟨ms,hM,hm1,hmm⟩:=R3 Av S.as j
 have lT:(S.as.take i).length=i:=by rw [Ybs];omega
 have lD:(S.as.drop i).length=S.as.length - i:=Ycp
 have lu:(S.as.drop (i+1)).length=S.as.length - (i+1):=Ycp
 have fin:∀{ds:List PyData} {μ':M} (B:List Zar),ds=B.map Av->B.length<=13+k->(∀b∈B,b∈S.as\/b.ts.length<=4+k)->Pot μ' a l->A7 a l μ μ'->X6 R (.D (.tuple [.int S.own,.tuple ds,Bu S.es])) μ':=by
  rintro ds μ' B rfl h1 h2 P' S'
  exact⟨_,Sub.refl,q ⟨S.own,B,S.es⟩ _ ⟨hK.o,(show B.length<=_ by omega),λb hb=>by
   rcases h2 b hb with h | h
   ·have:=hK.t b h;omega
   ·omega,(show S.es.length<=_ by have:=hK.e;omega)⟩ P' S'⟩
 have ap:∀{A B:List PyData} {x y:List Zar},A=x.map Av->B=y.map Av->A++B=(x++y).map Av:=by
  rintro A B x y rfl rfl
  exact Ybe.symm
 have mT:∀{b:Zar},b∈S.as.take i->b∈S.as:=λh=>Yc2 h
 have mD:∀{b:Zar} {i:Nat},b∈S.as.drop i->b∈S.as:=λh=>Yde h
 refine Bq (ieq (λc=>⟨a,l,6,rfl,P3,by decide,by decide,λv μ4 hv P4 S4=>⟨_,Sub.refl,q ⟨(v:Int) - 2,S.as,S.es⟩ _ ⟨(show(v:Int) - 2<=3 by omega),(show S.as.length<=_ by omega),λb hb=>(by have:=hK.t b hb;omega),(show S.es.length<=_ by have:=hK.e;omega)⟩ P4 (S3.trans S4)⟩⟩) (λc=>?_))
 refine Bq (dif (λc=>⟨a,l,S.es,rfl,by have:=hK.e;omega,P3,λjs μ4 hjs P4 S4=>⟨_,Sub.refl,q ⟨S.own,S.as,js⟩ _ ⟨hK.o,(show S.as.length<=_ by omega),λb hb=>(by have:=hK.t b hb;omega),(show js.length<=_ by have:=hK.e;omega)⟩ P4 (S3.trans S4)⟩⟩) (λc=>?_))
 refine Bq (ieq (λc=>?_) (λc=>?_))
 ·refine Ay (fun τ μ'=>∃v:Nat,τ=[some (.R a),some (.D (Bz g)),some (.D (Cw S)),some (.D (.int S.own)),some (.D (.tuple (S.as.map Av))),some (.D (Bu S.es)),some (.D (.int fo)),some (.D (.int i)),some (.D (.int j)),some (.D (.int v)),none,none]/\Pot μ' a l/\A7 a l μ μ') (λZ hZ=>?_) ?_
  ·have ho:=hK.o
   refine Ae (Ap (j:=0) rfl) ?_
   refine⟨a,l,g.pl.length+S.own.toNat,?_,P3,by omega,by omega,λv μ4 hv P4 S4=>hZ _ _ ⟨v,rfl,P4,S3.trans S4⟩⟩
   rw [Yac]
   congr 3
   congr 1
   split <;> omega
  rintro τ μ4 ⟨v,rfl,P4,S4⟩
  refine Bq (Ae (Ap (j:=1) rfl) ⟨a,l,g.le.length,by rw [Yac],P4,mx,by omega,λx μ5 hx P5 S5=>?_⟩)
  refine⟨Cs hT (y:=[⟨v,x,[]⟩]) rfl ?_,Cs (ap hT (y:=[⟨v,x,[]⟩]) rfl) hD ?_,fin _ (ap (ap hT (y:=[⟨v,x,[]⟩]) rfl) hD) ?_ ?_ P5 (S4.trans S5)⟩
  ·rw [lT,Ybc];omega
  ·rw [Yag,lT,lD,Ybc];omega
  ·rw [Yag,Yag,lT,lD,Ybc];omega
  ·intro b hb
   rcases Yap.mp hb with hb | hb
   ·rcases Yap.mp hb with hb | hb
    ·exact .inl (mT hb)
    ·rw [Ya8.mp hb];exact .inr (Ya6 _)
   ·exact .inl (mD hb)
 refine Bq (ieq (λc=>⟨Cs hT mi ?_,fin _ (ap hT mi) ?_ ?_ P3 S3⟩) (λc=>?_))
 ·rw [lT,lu];omega
 ·rw [Yag,lT,lu];omega
 ·intro b hb
  rcases Yap.mp hb with hb | hb
  ·exact .inl (mT hb)
  ·exact .inl (mD hb)
 refine Bq (ieq (λc=>⟨Cs hT hM ?_,Cs (ap hT hM) hD ?_,fin _ (ap (ap hT hM) hD) ?_ ?_ P3 S3⟩) (λc=>?_))
 ·rw [lT];omega
 ·rw [Yag,lT,lD];omega
 ·rw [Yag,Yag,lT,lD];omega
 ·intro b hb
  rcases Yap.mp hb with hb | hb
  ·rcases Yap.mp hb with hb | hb
   ·exact .inl (mT hb)
   ·exact .inl (hmm b hb)
  ·exact .inl (mD hb)
 refine Bq (ieq (λc=>?_) (λc=>?_))
 ·refine Ay (fun τ μ'=>∃(C:List Zar) (p:Addr),τ=[some (.R a),some (.D (Bz g)),some (.D (Cw S)),some (.D (.int S.own)),some (.D (.tuple (S.as.map Av))),some (.D (Bu S.es)),some (.D (.int fo)),some (.D (.int i)),some (.D (.int j)),none,none,some (.R p)]/\μ' p=some (.lst (C.map λc=>.D (Av c)))/\(∀c∈C,c∈S.as\/c.ts.length<=4+k)/\Pot μ' a l/\A7 a l μ μ') (λZ hZ=>?_) ?_
  ·refine⟨by decide,by decide,λpc bt=>?_⟩
   rw [show Dl 0 (9:Int).toNat=(List.range 9).map Ho from Oj 9]
   refine cmap (List.range 9) Ho (λx=>.D (Av (nine g.pl.length g.le.length x))) (fun τ=>∃o,τ=[o,some (.D (Bz g))]) ⟨none,rfl⟩ Ag (seven (by rw [Ycu];decide)) (λ_=>trivial) ?_ ?_
   ·rintro i x τ' aj W en ⟨o,rfl⟩ hW
    refine Ae (Ap (j:=0) rfl) ⟨by rw [Yac];omega,⟨⟨by decide,by decide⟩,Ae (Ap (j:=1) rfl) ⟨by rw [Yac];omega,?_⟩⟩⟩
    rw [Yac,Yac]
    exact hW _ ⟨_,rfl⟩
   have eq9:((List.range 9).map λx=>AV.D (Av (nine g.pl.length g.le.length x)))=((List.range 9).map (nine g.pl.length g.le.length)).map λa=>.D (Av a):=by rw [Ybo];rfl
   rw [eq9]
   generalize hN:(List.range 9).map (nine g.pl.length g.le.length)=N
   have hNl:N.length=9:=by rw [<- hN,Yac,Ycu]
   have hNt:∀b∈N,b.ts.length=0:=λb hb=>by
    rw [<- hN]at hb
    obtain⟨x,_,rfl⟩:=Ya2.mp hb
    rfl
   refine Ae (Bi Ag) (Ae (Gh N) ⟨Cs (g:=Av) rfl rfl (by omega),?_⟩)
   rw [<- Ybe]
   refine Ae (G2 _) (Ae (Gh _) ⟨Qar (by rw [Yag];omega),λes p lj jd nh hp=>?_⟩)
   obtain⟨C,rfl,hC⟩:=Jr (f:=Av) (B:=S.as++N) λe he=>(jd e).mp he
   have P4:=(P3.new (o:=.lst []) bt).other (p:=pc) (o:=.lst (N.map λa=>.D (Av a))) (P3.ne bt).1 (P3.ne bt).2
   refine hZ _ _ ⟨C,p,rfl,?_,λc hc=>?_,P4.new hp,?_⟩
   ·rw [Ag,Ybo];rfl
   ·rcases Yap.mp (hC c hc) with h | h
    ·exact .inl h
    ·exact .inr (by rw [hNt c h];omega)
   ·exact((S3.new bt).put (S3.none (P3.ne bt).1 (P3.ne bt).2 bt)).new hp
  rintro τ μ4 ⟨C,p,rfl,e4,hC,P4,S4⟩
  have h12:Dj (C.map Av) none (some (12:Int))=(C.take 12).map Av:=E4 _ _ 12
  exact Ae (Bi e4) (Ae (Gh C) (fin (C.take 12) h12 (by rw [Ybs];omega) (λb hb=>hC b (Yc2 hb)) P4 S4))
 refine Bq (ieq (λc=>?_) (λc=>?_))
 ·refine⟨by rw [Yac];omega,fin S.as.reverse ?_ ?_ ?_ P3 S3⟩
  ·rw [List.map_reverse]
  ·rw [Yeb];omega
  ·intro b hb;exact .inl (List.mem_reverse.mp hb)
 rw [Yac]at c
 have lm:i < S.as.length:=by omega
 have ha:=List.getElem?_eq_getElem lm
 generalize S.as[i]=z at ha
 have hz:atI (S.as.map Av) (i:Int)=some (Av z):=Ap (by rw [List.getElem?_map,ha];rfl)
 have hzt:=hK.t z (Ybr ha)
 refine Ae hz ⟨a,l,z,rfl,by omega,P3,λy μ4 hy P4 S4=>?_⟩
 refine⟨Cs hT (y:=[y]) rfl ?_,Cs (ap hT (y:=[y]) rfl) mi ?_,fin _ (ap (ap hT (y:=[y]) rfl) mi) ?_ ?_ P4 (S3.trans S4)⟩
 ·rw [lT,Ybc];omega
 ·rw [Yag,lT,lu,Ybc];omega
 ·rw [Yag,Yag,lT,lu,Ybc];omega
 ·intro b hb
  rcases Yap.mp hb with hb | hb
  ·rcases Yap.mp hb with hb | hb
   ·exact .inl (mT hb)
   ·rw [Ya8.mp hb];exact .inr (by omega)
  ·exact .inl (mD hb)
end
section
variable {P:Program}{w:World}{K:PySem.W.Frag}{mg:Str->Option Value}{base:Heap}{f:Addr}{fd:FuncData}
def zn(n:Nat):Int:=n
def Mv(a:Arw):Zar:=⟨a.p,a.x,a.ts.map zn⟩
def Kc(s:Say):Zsa:=⟨s.own,s.as.map Mv,s.es.map zn⟩
theorem Lk(ns:List Nat):Cy ns=Bu (ns.map zn):=by
 unfold Cy Bu
 rw [Ybo];rfl
theorem X5{a:Arw}(h:a.c.isSome=false):C3 a=Av (Mv a):=by
 obtain⟨p,x,ts,c⟩:=a
 cases c with
 | some c=>cases h
 | none =>
  show PyData.tuple [.int p,.int x,Cy ts]=.tuple [.int p,.int x,Bu (ts.map zn)]
  rw [Lk]
theorem Qin{s:Say}(h:∀a∈s.as,a.c.isSome=false):Qen s=Cw (Kc s):=by
 unfold Qen Cw Kc
 rw [Lk,Ybo,List.map_congr_left (g:=Av ∘ Mv) λa ha=>X5 (h a ha)]
theorem R4{ns:List Nat}{lo hi:Nat}(hs:ns.Pairwise (· < ·))(hb:∀n∈ns,lo<=n/\n < hi):E9 (ns.map zn) lo hi=true:=by
 unfold E9
 rw [Ybm]
 refine⟨Yb2.mpr λz hz=>?_,Ybd (Yct.mpr (hs.imp λh=>Int.ofNat_lt.mpr h))⟩
 obtain⟨n,hn,rfl⟩:=Ya2.mp hz
 have:=hb n hn
 unfold thr zn
 rw [Ybm]
 exact⟨Ybd (by omega),Ybd (by omega)⟩
theorem Qio{g:Gam}{s:Say}(h:SayOk g s 8)(hp:g.pl.length<=3):ZK 0 (Kc s):=by
 have ho:=h.o
 have hn:=h.n
 have he:=h.e.length_le
 rw [Ycu]at he
 refine⟨(show(s.own:Int)<=3 by omega),?_,λb hb=>?_,?_⟩
 ·show(s.as.map Mv).length<=_
  rw [Yac];omega
 ·obtain⟨a,ha,rfl⟩:=Ya2.mp hb
  have ht:=(h.su a ha).length_le
  rw [List.length_range']at ht
  show(a.ts.map zn).length<=_
  rw [Yac];omega
 ·show(s.es.map zn).length<=_
  rw [Yac];omega
theorem Qip{g:Gam}{s:Say}(h:SayOk g s 8):Op g.pl.length g.le.length (Kc s)=none:=by
 have ho:=h.o
 have hn:=h.n
 rw [Jt (Ybd ⟨(show(0:Int)<=(s.own:Int) by omega),(show(s.own:Int) < 3 by omega)⟩) λi hi=>?_]
 ·unfold Qh
  have e2:E9 (Kc s).es 0 ((g.pl.length:Int)+(Kc s).own)=true:=R4 (lo:=0) (hi:=g.pl.length+s.own) (Yc6.sublist h.e) λn hn=>⟨Ya6 _,Ybi.mp (h.e.subset hn)⟩
  have e1:decide (8 < (Kc s).as.length)=false:=Yau (by show ¬ 8 < (s.as.map Mv).length;rw [Yac];omega)
  rw [e1,e2];rfl
 ·have hi:i < s.as.length:=by rw [<- Yac (f:=Mv)];exact hi
  have ha:=List.getElem?_eq_getElem hi
  have hm:=Ybu hi
  have hpw:=h.so
  have ez:∀{j:Nat} (hj:j < s.as.length),(Kc s).as[j]?=some (Mv s.as[j]):=λ{j} hj=>by
   show(s.as.map Mv)[j]?=_
   rw [List.getElem?_map,List.getElem?_eq_getElem hj];rfl
  have hA:=h.a _ hm
  have e1:fit g.pl.length g.le.length (Kc s).own (Mv s.as[i])=true:=by
   rw [Qi (by omega),Ybm,Ybm]
   have e3:=R4 (lo:=g.pl.length) (hi:=g.pl.length+s.own) (List.Pairwise.sublist (h.su _ hm) (List.pairwise_lt_range' 1)) hA.t
   have h1:=hA.p
   have h2:=hA.x
   exact⟨Ybd ⟨(show(0:Int)<=((s.as[i].p:Nat):Int) by omega),(show((s.as[i].p:Nat):Int) < (g.pl.length:Int)+(s.own:Int) by omega)⟩,Ybd ⟨(show(0:Int)<=((s.as[i].x:Nat):Int) by omega),(show((s.as[i].x:Nat):Int) < (g.le.length:Int) by omega)⟩,e3⟩
  cases i with
  | zero=>rw [X1 (by omega) (ez hi)];exact e1
  | succ k =>
   have hk:k < s.as.length:=by omega
   rw [X2 (by omega) (ez hi) (ez hk),e1,Ycd,Mn _ _ (Fo _).2.2 (Fo _).2.2 (Gg _ _),Bool.not_not,<- X5 hA.c,<- X5 (h.a _ (Ybu hk)).c]
   have:=Ycf.mp hpw k (k+1) (by rw [Yac];omega) (by rw [Yac];omega) (by omega)
   rw [List.getElem_map,List.getElem_map]at this
   exact this
abbrev Qk1:List Str:=["_law_script","_law_state","_law_game_here","_law_saying_here","_law_k","_law_other","_law_turn"]
theorem Hj:FnScope Qk1 ["_law_script"] (Af J7):=⟨rfl,rfl,rfl,by decide +kernel,rfl,by decide +kernel,by decide +kernel⟩
def spL:ASp:=λxs μ R=>∃(ns:List Int),xs=[.D (Mo ns)]/\ns.length<=63/\∀ μ',R (.D (.bool true)) μ'
theorem Qas{n:Nat}(F:Fun K "law" "law" J7 f fd) (zd:VCal P w K mg base n "_law_game" ["_law_state","_law_most"] Qel) (cSa:VCal P w K mg base n "_law_saying" ["_law_state","_law_game_here","_law_most"] Qeo) (cf:VCal P w K mg base n "_law_draw" ["_law_state","_law_many"] J8) (ya:VCal P w K mg base n "_law_otherwise" ["_law_state","_law_game_here","_law_saying_here"] Qey) (wc:VCal P w K mg base n "_law_right" ["_law_game_here","_law_saying_here"] Qev) (p9:VCal P w K mg base n "_law_told" ["_law_game_here","_law_saying_here"] Qao) (bp:mg "list" = none) (al:mg "range" = none):FnOk P w K mg base Fb (n+1) f fd ["_law_script"] (Jy K 1 spL):=by
 refine F.vok Hj λaz A outer s H E hr=>⟨_,(Ad (Ao (i:=1) Hj.nd rfl (Or.inl rfl) (Fh (Aa (B8 Vt rfl bp PyProof.Rows.boot_list (Aa (vv 0) Ac)) (Aa Ab (Aa Ab (Aa Ab Ac))))))
   (Ad (Ao (i:=2) Hj.nd rfl (Or.inl rfl) (Ai zd hr rfl (Aa (vv 1) (Aa Ab Ac))))
   (Ad (Ao (i:=3) Hj.nd rfl (Or.inl rfl) (Ai cSa hr rfl (Aa (vv 1) (Aa (vv 2) (Aa Ab Ac)))))
   (Ad (Be (Cr (Cq (Ai wc hr rfl (Aa (vv 2) (Aa (vv 3) Ac))))) (Ah (Ar Fd)) Aq)
   (Ad (Fj Ydy rfl (Ce rfl al (Aa Ab Ac)) (A3 (i:=4) Hj.nd rfl (Or.inl rfl)) (Ad (Ao (i:=5) Hj.nd rfl (Or.inl rfl) (vv 3))
   (Ad (Fj Ydy rfl (Ce rfl al (Aa (Am A4 Ab (Ai cf hr rfl (Aa (vv 1) (Aa Ab Ac)))) Ac)) (A3 (i:=6) Hj.nd rfl (Or.inl rfl)) (Ah (Ao (i:=5) Hj.nd rfl (Or.inl rfl) (Ai ya hr rfl (Aa (vv 1) (Aa (vv 2) (Aa (vv 5) Ac)))))))
   (Ah (Be (Cr (Cq (Ai wc hr rfl (Aa (vv 2) (Aa (vv 5) Ac))))) (Ah (Ar Fd)) Aq)))))
   (Ah (Ar (Ee V6 (Ai p9 hr rfl (Aa (vv 2) (Aa (vv 3) Ac))) Fd (nomark _))))))))),?_⟩
 rintro xs μ R _ ⟨ns,rfl,gs,q⟩
 refine Ay (fun τ μ'=>∃a l,τ=[some (.D (Mo ns)),some (.R a),none,none,none,none,none]/\Pot μ' a l) (λZ hZ=>?_) ?_
 ·refine Ae (T8 _ ns) λl hl=>λa ha=>?_
  have hla:l≠a:=by rintro rfl;rw [Ag]at ha;cases ha
  exact hZ _ _ ⟨a,l,rfl,0,0,0,ns,Ag,by rw [An hla,Ag],Int.le_refl _,hla.symm⟩
 rintro τ μ1 ⟨a,l,rfl,P1⟩
 refine Bq ⟨a,l,3,rfl,by decide,P1,λg μ2 hg P2 _=>?_⟩
 have w9:=hg.p0
 have jf:=hg.p1
 have mx:=hg.l0
 have ml:=hg.l1
 refine Bq ⟨a,l,g,8,rfl,w9,jf,mx,ml,by decide,P2,λs μ3 hs P3 _=>?_⟩
 have jk:=Qip hs
 have hK:=Qio hs jf
 rw [Qin λb hb=>(hs.a b hb).c]
 generalize Kc s=S at jk hK
 refine Bq ⟨g,S,rfl,hK.b (by decide),Uf rfl ?_⟩
 refine Ay (fun τ μ'=>∃o4 o5 o6,τ=[some (.D (Mo ns)),some (.R a),some (.D (Bz g)),some (.D (Cw S)),o4,o5,o6]/\Pot μ' a l) (λZ hZ=>?_) ?_
 ·refine⟨by decide,by decide,?_⟩
  refine Ip (λ_ τ μ'=>∃o4 o5 o6,τ=[some (.D (Mo ns)),some (.R a),some (.D (Bz g)),some (.D (Cw S)),o4,o5,o6]/\Pot μ' a l) ⟨none,none,none,rfl,P3⟩ (λ_ _ _ _=>trivial) ?_ ?_
  ·rintro i y τ μ4 Z2 hy ⟨o4,o5,o6,rfl,P4⟩ hZ2
   refine Ay (fun τ μ'=>τ=[some (.D (Mo ns)),some (.R a),some (.D (Bz g)),some (.D (Cw S)),some y,some (.D (Cw S)),o6]/\μ4=μ') (λZ3 cj=>cj _ _ ⟨rfl,rfl⟩) ?_
   rintro τ _ ⟨rfl,rfl⟩
   refine Ay (fun τ μ'=>∃o6 T,τ=[some (.D (Mo ns)),some (.R a),some (.D (Bz g)),some (.D (Cw S)),some y,some (.D (Cw T)),o6]/\ZK 3 T/\Pot μ' a l) (λZ3 cj=>?_) ?_
   ·refine⟨a,l,3,rfl,P4,by decide,by decide,λv μ5 hv P5 _=>⟨by omega,by omega,?_⟩⟩
    have ak:(Dl 0 (1+(v:Int)).toNat).length=1+v:=by rw [Bp];omega
    refine Ip (λi τ μ'=>∃o6 T,τ=[some (.D (Mo ns)),some (.R a),some (.D (Bz g)),some (.D (Cw S)),some y,some (.D (Cw T)),o6]/\ZK i T/\Pot μ' a l) ⟨o6,S,rfl,hK,P5⟩ (λ_ _ _ _=>trivial) ?_ ?_
    ·rintro j u τ μ6 Z4 hu ⟨o6,T,rfl,hT,P6⟩ hZ4
     have hj:j < 1+v:=by rw [<- ak];exact(List.getElem?_eq_some_iff.mp hu).1
     exact⟨a,l,g,T,j,rfl,w9,jf,mx,ml,hT,by omega,P6,λU μ7 hU P7 _=>hZ4 _ _ ⟨_,U,rfl,hU,P7⟩⟩
    ·rintro τ μ6 ⟨o6,T,rfl,hT,P6⟩
     rw [ak]at hT
     exact cj _ _ ⟨_,T,rfl,⟨hT.o,by have:=hT.n;omega,λb hb=>by have:=hT.t b hb;omega,by have:=hT.e;omega⟩,P6⟩
   rintro τ μ5 ⟨o6,T,rfl,hT,P5⟩
   exact⟨g,T,rfl,hT.b (by decide),Uf rfl (hZ2 _ _ ⟨_,_,_,rfl,P5⟩)⟩
  ·rintro τ μ4 ⟨o4,o5,o6,rfl,P4⟩
   exact hZ _ _ ⟨_,_,_,rfl,P4⟩
 rintro τ μ4 ⟨o4,o5,o6,rfl,P4⟩
 refine⟨g,S,rfl,hK.b (by decide),?_⟩
 rw [jk]
 exact⟨_,Sub.refl,q _⟩
def R5(K:PySem.W.Frag):Sp:=λvs H Q _=>∃(a:Addr) (ns:List Int),vs=[.ref a]/\Du K H a (ns.map V.int)/\Only H/\ns.length<=63/\∀H',Q (.bl true) H'
theorem R6{H:Hp}:∀(ns:List Int),Ak K H (ns.map .int) (ns.map V.int)
 | []=>C9
 | n :: ns=>Ca De (R6 ns)
theorem Qez{n:Nat}(F:Fun K "law" "law" J7 f fd) (zd:VCal P w K mg base n "_law_game" ["_law_state","_law_most"] Qel) (cSa:VCal P w K mg base n "_law_saying" ["_law_state","_law_game_here","_law_most"] Qeo) (cf:VCal P w K mg base n "_law_draw" ["_law_state","_law_many"] J8) (ya:VCal P w K mg base n "_law_otherwise" ["_law_state","_law_game_here","_law_saying_here"] Qey) (wc:VCal P w K mg base n "_law_right" ["_law_game_here","_law_saying_here"] Qev) (p9:VCal P w K mg base n "_law_told" ["_law_game_here","_law_saying_here"] Qao) (bp:mg "list" = none) (al:mg "range" = none):FnOk P w K mg base Fb (n+1) f fd ["_law_script"] (R5 K):=by
 refine(Qas F zd cSa cf ya wc p9 bp al).imp ?_
 rintro vs H Q E ⟨a,ns,rfl,hS,hO,hl,q⟩
 refine⟨[.D (Mo ns)],λ_=>none,λv _=>v=.D (.bool true),rfl,.cons ?_ .nil,(λ_ _ z=>nomatch z),⟨ns,rfl,hl,λ_=>rfl⟩,?_⟩
 ·refine Qc4 (xs:=ns.map V.int) ?_ (R6 ns)
  rcases hS with(h | h) | h
  ·rcases hO a with z | ⟨o,xs,z⟩
   ·rw [z]at h;cases h
   ·rw [z]at h;cases h
  ·exact .inl h
  ·exact .inr h
 ·rintro x μ v H' _ _ rx rfl
  cases RelA.bl rx
  exact q _
end
theorem Qbu{us:List Value}(h:us.length=1):∃a0,us=[a0]:=by
 obtain⟨a0,t,rfl,h2⟩:=Dy h
 rw [Yci h2];exact⟨a0,rfl⟩
theorem D8{us:List Value}(h:us.length=2):∃a0 a1,us=[a0,a1]:=by
 obtain⟨a0,t,rfl,h2⟩:=Dy h
 obtain⟨a1,rfl⟩:=Qbu h2
 exact⟨a0,a1,rfl⟩
theorem Ll{us:List Value}(h:us.length=3):∃a0 a1 a2,us=[a0,a1,a2]:=by
 obtain⟨a0,t,rfl,h2⟩:=Dy h
 obtain⟨a1,a2,rfl⟩:=D8 h2
 exact⟨a0,a1,a2,rfl⟩
theorem Qiq{us:List Value}(h:us.length=4):∃a0 a1 a2 a3,us=[a0,a1,a2,a3]:=by
 obtain⟨a0,t,rfl,h2⟩:=Dy h
 obtain⟨a1,a2,a3,rfl⟩:=Ll h2
 exact⟨a0,a1,a2,a3,rfl⟩
theorem all_mk{l:PySem.W.OpenLaw}{w:World}{K:PySem.W.Frag}{h:Heap}{mg:Str->Option Value}{fa f1 f2 f3 f4 f5 f6 f7 f8 f9 f10 f11 ye yk zc zj f16 f17 f18 y4 c0 c1 c2 c3 c4 c5 c6 c7 D wm:Addr}(X:K.In h)(G:h.Ns mainGlobals mg)(hfa:mg "law" = some (.ref fa))
  {od1 an1 od2 an2 od3 an3 od4 an4 od5 an5 od6 an6 od7 an7 od8 an8 od9 an9 z7 za4 zbf za3 y6 zbc zbg zay zbt zaa za7 zbp zbo xm zbw za8 y8 zbh zbl sf zam zbi:Option Addr} {sl1 qf sl3 sl4 sl5 sl6 sl7 sl8 sl9 zbr xl zai zby zx zaz zba zbu za1 zbx zbn:Array (Option Value)} {oc1 kV1 dc1 pm1 cd1 ct1 oc2 kV2 dc2 pm2 cd2 ct2 oc3 kV3 dc3 pm3 cd3 ct3 oc4 kV4 dc4 pm4 cd4 ct4 oc5 kV5 dc5 pm5 cd5 ct5 oc6 kV6 dc6 pm6 cd6 ct6 oc7 kV7 dc7 pm7 cd7 ct7 oc8 kV8 dc8 pm8 cd8 ct8 oc9 kV9 dc9 pm9 cd9 ct9 zac zm zaq zbm vm zak za0 z9 zt za ql zan zah zbe zax yp ux yb zy yz zbq xu tz zar zad yo za5 yu vb zal ym zg zaj za2 vi zae zbd zw zbs zas t7 zau zap xy zh x9 u9 zab zbb zl zr yg v7 yd zbk vc rq r6 nu uc zi xw zao xo uj xp:Value}
  {t1 t2:Tok}
  (a1:PySem.W.nsIn K mainGlobals "is_there" = some (some (.ref f1)))
  (l1:K.lookup f1=some ⟨oc1,od1,.func (PySem.W.fnOf "is_there" "is_there" (Bb sIt) (A6 sIt) (Af sIt) .none kV1 dc1 pm1 an1 cd1 ct1),sl1⟩)
  (c_1:PySem.W.codeIn K cd1 "is_there" = true)
  (k1:PySem.W.keepIn K (.ref f1)=true)
  (a2:PySem.W.nsIn K mainGlobals "look_saying" = some (some (.ref f2)))
  (l2:K.lookup f2=some ⟨oc2,od2,.func (PySem.W.fnOf "look_saying" "look_saying" (Bb sLk) (A6 sLk) (Af sLk) .none kV2 dc2 pm2 an2 cd2 ct2),qf⟩)
  (c_2:PySem.W.codeIn K cd2 "look_saying" = true)
  (k2:PySem.W.keepIn K (.ref f2)=true)
  (a3:PySem.W.nsIn K mainGlobals "may_stand_behind" = some (some (.ref f3)))
  (l3:K.lookup f3=some ⟨oc3,od3,.func (PySem.W.fnOf "may_stand_behind" "may_stand_behind" (Bb sMb) (A6 sMb) (Af sMb) .none kV3 dc3 pm3 an3 cd3 ct3),sl3⟩)
  (c_3:PySem.W.codeIn K cd3 "may_stand_behind" = true)
  (k3:PySem.W.keepIn K (.ref f3)=true)
  (a4:PySem.W.nsIn K mainGlobals "are_ends" = some (some (.ref f4)))
  (l4:K.lookup f4=some ⟨oc4,od4,.func (PySem.W.fnOf "are_ends" "are_ends" (Bb sAe) (A6 sAe) (Af sAe) .none kV4 dc4 pm4 an4 cd4 ct4),sl4⟩)
  (c_4:PySem.W.codeIn K cd4 "are_ends" = true)
  (k4:PySem.W.keepIn K (.ref f4)=true)
  (a5:PySem.W.nsIn K mainGlobals "is_rising" = some (some (.ref f5)))
  (l5:K.lookup f5=some ⟨oc5,od5,.func (PySem.W.fnOf "is_rising" "is_rising" (Bb sIr) (A6 sIr) (Af sIr) .none kV5 dc5 pm5 an5 cd5 ct5),sl5⟩)
  (c_5:PySem.W.codeIn K cd5 "is_rising" = true)
  (k5:PySem.W.keepIn K (.ref f5)=true)
  (a6:PySem.W.nsIn K mainGlobals "_law_draw" = some (some (.ref f6)))
  (l6:K.lookup f6=some ⟨oc6,od6,.func (PySem.W.fnOf "_law_draw" "_law_draw" (Bb sDr) (A6 sDr) (Af sDr) .none kV6 dc6 pm6 an6 cd6 ct6),sl6⟩)
  (c_6:PySem.W.codeIn K cd6 "_law_draw" = true)
  (k6:PySem.W.keepIn K (.ref f6)=true)
  (a7:PySem.W.nsIn K mainGlobals "_law_names" = some (some (.ref f7)))
  (l7:K.lookup f7=some ⟨oc7,od7,.func (PySem.W.fnOf "_law_names" "_law_names" (Bb sNa) (A6 sNa) (Af sNa) .none kV7 dc7 pm7 an7 cd7 ct7),sl7⟩)
  (c_7:PySem.W.codeIn K cd7 "_law_names" = true)
  (k7:PySem.W.keepIn K (.ref f7)=true)
  (a8:PySem.W.nsIn K mainGlobals "_law_game" = some (some (.ref f8)))
  (l8:K.lookup f8=some ⟨oc8,od8,.func (PySem.W.fnOf "_law_game" "_law_game" (Bb Xn) (A6 Xn) (Af Xn) .none kV8 dc8 pm8 an8 cd8 ct8),sl8⟩)
  (c_8:PySem.W.codeIn K cd8 "_law_game" = true)
  (k8:PySem.W.keepIn K (.ref f8)=true)
  (a9:PySem.W.nsIn K mainGlobals "_law_some" = some (some (.ref f9)))
  (l9:K.lookup f9=some ⟨oc9,od9,.func (PySem.W.fnOf "_law_some" "_law_some" (Bb sSo) (A6 sSo) (Af sSo) .none kV9 dc9 pm9 an9 cd9 ct9),sl9⟩)
  (c_9:PySem.W.codeIn K cd9 "_law_some" = true)
  (k9:PySem.W.keepIn K (.ref f9)=true)
  (a10:PySem.W.nsIn K mainGlobals "_law_saying" = some (some (.ref f10)))
  (l10:K.lookup f10=some ⟨zac,z7,.func (PySem.W.fnOf "_law_saying" "_law_saying" (Bb sSa) (A6 sSa) (Af sSa) .none zm zaq zbm za4 vm zak),zbr⟩)
  (c_10:PySem.W.codeIn K vm "_law_saying" = true)
  (k10:PySem.W.keepIn K (.ref f10)=true)
  (a11:PySem.W.nsIn K mainGlobals "_law_rises" = some (some (.ref f11)))
  (l11:K.lookup f11=some ⟨za0,zbf,.func (PySem.W.fnOf "_law_rises" "_law_rises" (Bb sRs) (A6 sRs) (Af sRs) .none z9 zt za za3 ql zan),xl⟩)
  (c_11:PySem.W.codeIn K ql "_law_rises" = true)
  (k11:PySem.W.keepIn K (.ref f11)=true)
  (a12:PySem.W.nsIn K mainGlobals "_law_arrow_fits" = some (some (.ref ye)))
  (l12:K.lookup ye=some ⟨zah,y6,.func (PySem.W.fnOf "_law_arrow_fits" "_law_arrow_fits" (Bb sAf) (A6 sAf) (Af sAf) .none zbe zax yp zbc ux yb),zai⟩)
  (c_12:PySem.W.codeIn K ux "_law_arrow_fits" = true)
  (k12:PySem.W.keepIn K (.ref ye)=true)
  (a13:PySem.W.nsIn K mainGlobals "_law_due" = some (some (.ref yk)))
  (l13:K.lookup yk=some ⟨zy,zbg,.func (PySem.W.fnOf "_law_due" "_law_due" (Bb sDu) (A6 sDu) (Af sDu) .none yz zbq xu zay tz zar),zby⟩)
  (c_13:PySem.W.codeIn K tz "_law_due" = true)
  (k13:PySem.W.keepIn K (.ref yk)=true)
  (a14:PySem.W.nsIn K mainGlobals "_law_bent" = some (some (.ref zc)))
  (l14:K.lookup zc=some ⟨zad,zbt,.func (PySem.W.fnOf "_law_bent" "_law_bent" (Bb sBe) (A6 sBe) (Af sBe) .none yo za5 yu zaa vb zal),zx⟩)
  (c_14:PySem.W.codeIn K vb "_law_bent" = true)
  (k14:PySem.W.keepIn K (.ref zc)=true)
  (a15:PySem.W.nsIn K mainGlobals "_law_arrow_bent" = some (some (.ref zj)))
  (l15:K.lookup zj=some ⟨ym,za7,.func (PySem.W.fnOf "_law_arrow_bent" "_law_arrow_bent" (Bb sAb) (A6 sAb) (Af sAb) .none zg zaj za2 zbp vi zae),zaz⟩)
  (c_15:PySem.W.codeIn K vi "_law_arrow_bent" = true)
  (k15:PySem.W.keepIn K (.ref zj)=true)
  (a16:PySem.W.nsIn K mainGlobals "_law_otherwise" = some (some (.ref f16)))
  (l16:K.lookup f16=some ⟨zbd,zbo,.func (PySem.W.fnOf "_law_otherwise" "_law_otherwise" (Bb sOt) (A6 sOt) (Af sOt) .none zw zbs zas xm t7 zau),zba⟩)
  (c_16:PySem.W.codeIn K t7 "_law_otherwise" = true)
  (k16:PySem.W.keepIn K (.ref f16)=true)
  (a17:PySem.W.nsIn K mainGlobals "_law_told" = some (some (.ref f17)))
  (l17:K.lookup f17=some ⟨zap,zbw,.func (PySem.W.fnOf "_law_told" "_law_told" (Bb sTo) (A6 sTo) (Af sTo) .none xy zh x9 za8 u9 zab),zbu⟩)
  (c_17:PySem.W.codeIn K u9 "_law_told" = true)
  (k17:PySem.W.keepIn K (.ref f17)=true)
  (a18:PySem.W.nsIn K mainGlobals "_law_right" = some (some (.ref f18)))
  (l18:K.lookup f18=some ⟨zbb,y8,.func (PySem.W.fnOf "_law_right" "_law_right" (Bb sRi) (A6 sRi) (Af sRi) .none zl zr yg zbh v7 yd),za1⟩)
  (c_18:PySem.W.codeIn K v7 "_law_right" = true)
  (k18:PySem.W.keepIn K (.ref f18)=true)
  (a19:PySem.W.nsIn K mainGlobals "law" = some (some (.ref y4)))
  (l19:K.lookup y4=some ⟨zbk,zbl,.func (PySem.W.fnOf "law" "law" (Bb J7) (A6 J7) (Af J7) .none vc rq r6 sf nu uc),zbx⟩)
  (c_19:PySem.W.codeIn K nu "law" = true)
  (k19:PySem.W.keepIn K (.ref y4)=true)
  (u_c0:PySem.W.nsIn K mainGlobals "NoText" = some (some (.ref c0)))
  (u_c1:PySem.W.nsIn K mainGlobals "NoGame" = some (some (.ref c1)))
  (u_c2:PySem.W.nsIn K mainGlobals "NoSaying" = some (some (.ref c2)))
  (u_c3:PySem.W.nsIn K mainGlobals "TooMany" = some (some (.ref c3)))
  (u_c4:PySem.W.nsIn K mainGlobals "NoPaper" = some (some (.ref c4)))
  (u_c5:PySem.W.nsIn K mainGlobals "NoFit" = some (some (.ref c5)))
  (u_c6:PySem.W.nsIn K mainGlobals "NoProgram" = some (some (.ref c6)))
  (u_c7:PySem.W.nsIn K mainGlobals "NoRow" = some (some (.ref c7)))
  (u_D:PySem.W.nsIn K mainGlobals "DuelError" = some (some (.ref D)))
  (e_c2:Wa K c2 D [c0,c1,c3,c4,c5,c6,c7]=true)
  (i_c2:PySem.W.findIn K (.ref c2) "__init__" = some (some (.ref wm)))
  (n_c2:PySem.W.isFn K (.ref wm)=true)
  (l_c2:K.lookup wm=some ⟨zi,zam,.func (PySem.W.fnOf "__init__" "NoSaying.__init__" (Bb T6) (A6 T6) (Af T6) .none xw zao xo zbi uj xp),zbn⟩)
  (c_c2:PySem.W.codeIn K uj "NoSaying.__init__" = true)
  (k_c2:PySem.W.keepIn K (.ref wm)=true)
  (na_c2_at:PySem.W.findIn K (.ref c2) "at" = some none)
  (z_isinstance:PySem.W.nsIn K mainGlobals "isinstance" = some none)
  (z_bool:PySem.W.nsIn K mainGlobals "bool" = some none)
  (z_enumerate:PySem.W.nsIn K mainGlobals "enumerate" = some none)
  (z_len:PySem.W.nsIn K mainGlobals "len" = some none)
  (z_all:PySem.W.nsIn K mainGlobals "all" = some none)
  (z_zip:PySem.W.nsIn K mainGlobals "zip" = some none)
  (z_range:PySem.W.nsIn K mainGlobals "range" = some none)
  (z_tuple:PySem.W.nsIn K mainGlobals "tuple" = some none)
  (z_min:PySem.W.nsIn K mainGlobals "min" = some none)
  (z_list:PySem.W.nsIn K mainGlobals "list" = some none)
  (z_sorted:PySem.W.nsIn K mainGlobals "sorted" = some none)
  (z_set:PySem.W.nsIn K mainGlobals "set" = some none)
  (z_reversed:PySem.W.nsIn K mainGlobals "reversed" = some none)
  (z_max:PySem.W.nsIn K mainGlobals "max" = some none)
  (z_ValueError:PySem.W.nsIn K mainGlobals "ValueError" = some none)
  (y1:PySem.W.nsIn K mainGlobals "MOST_OWN" = some (some (.int 2 t1)))
  (y2:PySem.W.nsIn K mainGlobals "MOST_ARROWS" = some (some (.int 8 t2))) :
  ∃fd:FuncData,(∀(s:Shared) (v:Value),BindsTo s fd ⟨[v],[]⟩ [("_law_script",v)])/\∀base:Heap,K.In base->base.Ns mainGlobals mg->FnOk l.prog w K mg base Fb 65 fa fd ["_law_script"] (R5 K):=by
 have e:=hfa.symm.trans (Yaw X G a19)
 cases e
 have F1:=B1 (st:=sIt) l1 c_1 k1
 have F2:=B1 (st:=sLk) l2 c_2 k2
 have F3:=B1 (st:=sMb) l3 c_3 k3
 have F4:=B1 (st:=sAe) l4 c_4 k4
 have F5:=B1 (st:=sIr) l5 c_5 k5
 have F6:=B1 (st:=sDr) l6 c_6 k6
 have F7:=B1 (st:=sNa) l7 c_7 k7
 have F8:=B1 (st:=Xn) l8 c_8 k8
 have F9:=B1 (st:=sSo) l9 c_9 k9
 have F10:=B1 (st:=sSa) l10 c_10 k10
 have F11:=B1 (st:=sRs) l11 c_11 k11
 have F12:=B1 (st:=sAf) l12 c_12 k12
 have F13:=B1 (st:=sDu) l13 c_13 k13
 have F14:=B1 (st:=sBe) l14 c_14 k14
 have F15:=B1 (st:=sAb) l15 c_15 k15
 have F16:=B1 (st:=sOt) l16 c_16 k16
 have F17:=B1 (st:=sTo) l17 c_17 k17
 have F18:=B1 (st:=sRi) l18 c_18 k18
 have F19:=B1 (st:=J7) l19 c_19 k19
 have Fc2:=B1 (st:=T6) l_c2 c_c2 k_c2
 have b1:=F1.binds (ps:=["number","many"]) λ_ _ _ _ _ _ us hl=>by obtain⟨a0,a1,rfl⟩:=D8 hl;rfl
 have b2:=F2.binds (ps:=["game","saying"]) λ_ _ _ _ _ _ us hl=>by obtain⟨a0,a1,rfl⟩:=D8 hl;rfl
 have b3:=F3.binds (ps:=["game","many","ahead","arrow"]) λ_ _ _ _ _ _ us hl=>by obtain⟨a0,a1,a2,a3,rfl⟩:=Qiq hl;rfl
 have b4:=F4.binds (ps:=["game","many","ends"]) λ_ _ _ _ _ _ us hl=>by obtain⟨a0,a1,a2,rfl⟩:=Ll hl;rfl
 have b5:=F5.binds (ps:=["stands","lowest","bound"]) λ_ _ _ _ _ _ us hl=>by obtain⟨a0,a1,a2,rfl⟩:=Ll hl;rfl
 have b6:=F6.binds (ps:=["_law_state","_law_many"]) λ_ _ _ _ _ _ us hl=>by obtain⟨a0,a1,rfl⟩:=D8 hl;rfl
 have b7:=F7.binds (ps:=["_law_state","_law_many"]) λ_ _ _ _ _ _ us hl=>by obtain⟨a0,a1,rfl⟩:=D8 hl;rfl
 have b8:=F8.binds (ps:=["_law_state","_law_most"]) λ_ _ _ _ _ _ us hl=>by obtain⟨a0,a1,rfl⟩:=D8 hl;rfl
 have b9:=F9.binds (ps:=["_law_state","_law_things"]) λ_ _ _ _ _ _ us hl=>by obtain⟨a0,a1,rfl⟩:=D8 hl;rfl
 have b10:=F10.binds (ps:=["_law_state","_law_game_here","_law_most"]) λ_ _ _ _ _ _ us hl=>by obtain⟨a0,a1,a2,rfl⟩:=Ll hl;rfl
 have b11:=F11.binds (ps:=["_law_numbers"]) λ_ _ _ _ _ _ us hl=>by obtain⟨a0,rfl⟩:=Qbu hl;rfl
 have b12:=F12.binds (ps:=["_law_game_here","_law_many","_law_arrow"]) λ_ _ _ _ _ _ us hl=>by obtain⟨a0,a1,a2,rfl⟩:=Ll hl;rfl
 have b13:=F13.binds (ps:=["_law_game_here","_law_saying_here"]) λ_ _ _ _ _ _ us hl=>by obtain⟨a0,a1,rfl⟩:=D8 hl;rfl
 have b14:=F14.binds (ps:=["_law_state","_law_numbers"]) λ_ _ _ _ _ _ us hl=>by obtain⟨a0,a1,rfl⟩:=D8 hl;rfl
 have b15:=F15.binds (ps:=["_law_state","_law_arrow"]) λ_ _ _ _ _ _ us hl=>by obtain⟨a0,a1,rfl⟩:=D8 hl;rfl
 have b16:=F16.binds (ps:=["_law_state","_law_game_here","_law_saying_here"]) λ_ _ _ _ _ _ us hl=>by obtain⟨a0,a1,a2,rfl⟩:=Ll hl;rfl
 have b17:=F17.binds (ps:=["_law_game_here","_law_saying_here"]) λ_ _ _ _ _ _ us hl=>by obtain⟨a0,a1,rfl⟩:=D8 hl;rfl
 have b18:=F18.binds (ps:=["_law_game_here","_law_saying_here"]) λ_ _ _ _ _ _ us hl=>by obtain⟨a0,a1,rfl⟩:=D8 hl;rfl
 have bc2:=Fc2.binds (ps:=["self","at"]) λ_ _ _ _ _ _ us hl=>by obtain⟨a0,a1,rfl⟩:=D8 hl;rfl
 have aq:=Ybg X G z_isinstance
 have eh:=Ybg X G z_bool
 have cq:=Ybg X G z_enumerate
 have ag:=Ybg X G z_len
 have fc:=Ybg X G z_all
 have ki:=Ybg X G z_zip
 have al:=Ybg X G z_range
 have am:=Ybg X G z_tuple
 have kd:=Ybg X G z_min
 have bp:=Ybg X G z_list
 have bd:=Ybg X G z_sorted
 have du:=Ybg X G z_set
 have bi:=Ybg X G z_reversed
 have kg:=Ybg X G z_max
 have ci:=Ybg X G z_ValueError
 have mc0:=Yaw X G u_c0
 have yj:=Yaw X G u_c1
 have xa:=Yaw X G u_c2
 have mc3:=Yaw X G u_c3
 have mc4:=Yaw X G u_c4
 have xn:=Yaw X G u_c5
 have mc6:=Yaw X G u_c6
 have zv:=Yaw X G u_c7
 have mD:=Yaw X G u_D
 have iw:=Qdm e_c2
 have mMO:=Yaw X G y1
 have yt:=Yaw X G y2
 refine⟨PySem.W.fnOf "law" "law" (Bb J7) (A6 J7) (Af J7) .none vc rq r6 sf nu uc,λs v=>.of_eq rfl,λbase _ _=>?_⟩
 have zbj:XCal l.prog w K mg base 9 "NoSaying" c2 ["at"]:=⟨_,_,_,(Qeg (P:=l.prog) (w:=w) (mg:=mg) (base:=base) (n:=0) Fc2 iw.xi.toXCls na_c2_at).mono (by decide),bc2,⟨iw.xc,i_c2,n_c2,iw.kp⟩,xa,iw.xi.toXCls.mb⟩
 have g1:=Qhw (P:=l.prog) (w:=w) (mg:=mg) (base:=base) (n:=0) F1 aq eh
 have q1:VCal l.prog w K mg base 1 "is_there" ["number","many"] _:=⟨_,_,g1,b1,k1,Yaw X G a1⟩
 have g5:=Qhy (P:=l.prog) (w:=w) (mg:=mg) (base:=base) (n:=1) F5 (q1.mono (by decide)) fc ki
 have q5:VCal l.prog w K mg base 2 "is_rising" ["stands","lowest","bound"] _:=⟨_,_,g5,b5,k5,Yaw X G a5⟩
 have g4:=Qh0 (P:=l.prog) (w:=w) (mg:=mg) (base:=base) (n:=2) F4 (q5.mono (by decide)) ag
 have q4:VCal l.prog w K mg base 3 "are_ends" ["game","many","ends"] _:=⟨_,_,g4,b4,k4,Yaw X G a4⟩
 have g3:=Qh2 (P:=l.prog) (w:=w) (mg:=mg) (base:=base) (n:=2) F3 (q5.mono (by decide)) (q1.mono (by decide)) ag
 have q3:VCal l.prog w K mg base 3 "may_stand_behind" ["game","many","ahead","arrow"] _:=⟨_,_,g3,b3,k3,Yaw X G a3⟩
 have g2:=Qia (P:=l.prog) (w:=w) (mg:=mg) (base:=base) (n:=9) F2 (q4.mono (by decide)) (q1.mono (by decide)) (q3.mono (by decide)) cq ag mMO yt zbj
 have q2:Ks l.prog w K mg base 11 "look_saying" ["game","saying"] _:=⟨_,_,g2,b2,k2,Yaw X G a2⟩
 have g6:=Qhg (P:=l.prog) (w:=w) (mg:=mg) (base:=base) (n:=0) F6 ag
 have q6:VCal l.prog w K mg base 1 "_law_draw" ["_law_state","_law_many"] _:=⟨_,_,g6,b6,k6,Yaw X G a6⟩
 have g7:=Qhl (P:=l.prog) (w:=w) (mg:=mg) (base:=base) (n:=1) F7 (q6.mono (by decide)) al ag
 have q7:VCal l.prog w K mg base 2 "_law_names" ["_law_state","_law_many"] _:=⟨_,_,g7,b7,k7,Yaw X G a7⟩
 have g8:=Qhr (P:=l.prog) (w:=w) (mg:=mg) (base:=base) (n:=2) F8 (q6.mono (by decide)) (q7.mono (by decide)) am al ag kd
 have q8:VCal l.prog w K mg base 3 "_law_game" ["_law_state","_law_most"] _:=⟨_,_,g8,b8,k8,Yaw X G a8⟩
 have g9:=Qhu (P:=l.prog) (w:=w) (mg:=mg) (base:=base) (n:=1) F9 (q6.mono (by decide)) am
 have q9:VCal l.prog w K mg base 2 "_law_some" ["_law_state","_law_things"] _:=⟨_,_,g9,b9,k9,Yaw X G a9⟩
 have g10:=Qhv (P:=l.prog) (w:=w) (mg:=mg) (base:=base) (n:=2) F10 (q6.mono (by decide)) (q9.mono (by decide)) ag al bp am bd du
 have q10:VCal l.prog w K mg base 3 "_law_saying" ["_law_state","_law_game_here","_law_most"] _:=⟨_,_,g10,b10,k10,Yaw X G a10⟩
 have g11:=Qh3 (P:=l.prog) (w:=w) (mg:=mg) (base:=base) (n:=0) F11 bp bd du
 have q11:VCal l.prog w K mg base 1 "_law_rises" ["_law_numbers"] _:=⟨_,_,g11,b11,k11,Yaw X G a11⟩
 have g12:=Qh7 (P:=l.prog) (w:=w) (mg:=mg) (base:=base) (n:=1) F12 (q11.mono (by decide)) ag fc
 have q12:VCal l.prog w K mg base 2 "_law_arrow_fits" ["_law_game_here","_law_many","_law_arrow"] _:=⟨_,_,g12,b12,k12,Yaw X G a12⟩
 have g13:=Qid (P:=l.prog) (w:=w) (mg:=mg) (base:=base) (n:=2) F13 (q12.mono (by decide)) (q11.mono (by decide)) al ag
 have q13:VCal l.prog w K mg base 3 "_law_due" ["_law_game_here","_law_saying_here"] _:=⟨_,_,g13,b13,k13,Yaw X G a13⟩
 have g14:=Qii (P:=l.prog) (w:=w) (mg:=mg) (base:=base) (n:=1) F14 (q6.mono (by decide)) ag am bi
 have q14:VCal l.prog w K mg base 2 "_law_bent" ["_law_state","_law_numbers"] _:=⟨_,_,g14,b14,k14,Yaw X G a14⟩
 have g15:=Qik (P:=l.prog) (w:=w) (mg:=mg) (base:=base) (n:=2) F15 (q14.mono (by decide)) (q6.mono (by decide))
 have q15:VCal l.prog w K mg base 3 "_law_arrow_bent" ["_law_state","_law_arrow"] _:=⟨_,_,g15,b15,k15,Yaw X G a15⟩
 have g16:=Qim (P:=l.prog) (w:=w) (mg:=mg) (base:=base) (n:=3) F16 (q14.mono (by decide)) (q15.mono (by decide)) (q6.mono (by decide)) ag al kg bd du am bi
 have q16:VCal l.prog w K mg base 4 "_law_otherwise" ["_law_state","_law_game_here","_law_saying_here"] _:=⟨_,_,g16,b16,k16,Yaw X G a16⟩
 have g17:=Qif (P:=l.prog) (w:=w) (mg:=mg) (base:=base) (n:=11) F17 (q2.mono (by decide)) aq ci eh mc0 yj xa mc3 mc4 xn mc6 zv mD iw na_c2_at
 have q17:VCal l.prog w K mg base 12 "_law_told" ["_law_game_here","_law_saying_here"] _:=⟨_,_,g17,b17,k17,Yaw X G a17⟩
 have g18:=Qih (P:=l.prog) (w:=w) (mg:=mg) (base:=base) (n:=12) F18 (q13.mono (by decide)) (q17.mono (by decide))
 have q18:VCal l.prog w K mg base 13 "_law_right" ["_law_game_here","_law_saying_here"] _:=⟨_,_,g18,b18,k18,Yaw X G a18⟩
 have g19:=Qez (P:=l.prog) (w:=w) (mg:=mg) (base:=base) (n:=13) F19 (q8.mono (by decide)) (q10.mono (by decide)) (q6.mono (by decide)) (q16.mono (by decide)) (q18.mono (by decide)) (q17.mono (by decide)) bp al
 exact g19.mono (by decide)
theorem walk{l:PySem.W.OpenLaw}{q:Program}{ge:List Str}{XP:(Str->Option Value)->Heap->Prop}{YP:World->Heap->Prop}{d:DefRec}{K:Params->PySem.W.Frag}(hn:l.most=some 63)(vg:d.params.defaults=[])
  (hY:∀(w:World) (h:Heap),YP w h->(K w.params).In h)
  (F:∀(w:World) (mg:Str->Option Value) (fa:Addr) (h:Heap),(K w.params).In h->h.Ns mainGlobals mg->mg d.name=some (.ref fa) ->
   ∃fd:FuncData,(∀(s:Shared) (u:Value),BindsTo s fd ⟨[u],[]⟩ [("_law_script",u)])/\∀base:Heap,(K w.params).In base->base.Ns mainGlobals mg->FnOk l.prog w (K w.params) mg base Fb 65 fa fd ["_law_script"] (R5 (K w.params))) :
  PySem.W.WalkO q ge XP YP l.row.toRowW d [] (λf vs=>PySem.call f vs) :=
 L2.walk_of (n:=63) (k:=65) (x := "_law_script") (CX:=λ_=>Fb) (sp:=λw=>R5 (K w.params)) hn (by decide) vg ⟨rfl,by decide,by decide,rfl⟩ hY F (λ_ _ a ns hl hO hS=>⟨a,ns,rfl,hS,hO,hl,λ_=>rfl⟩) λ_ _ _ _ _ z=>z
end K17
namespace PySem.W.Fast
theorem tw2765240026086169950:True:=trivial
theorem tw1847200299137613937:True:=trivial
theorem tw13507587986606573708:True:=trivial
theorem tw14545686594020990049:True:=trivial
theorem tw8924429134799518411:True:=trivial
theorem tw4460568835428280037:True:=trivial
theorem tw17634610237402014879:True:=trivial
theorem tw18341598669189912771:True:=trivial
theorem tw3557676482377795629:True:=trivial
theorem tw5499584744044291563:True:=trivial
theorem tw17133808264505365832:True:=trivial
theorem tw13229194769953933326:True:=trivial
theorem tw6393860521439667430:True:=trivial
theorem tw16693645072908016461:True:=trivial
theorem tw4299684967705951036:True:=trivial
theorem tw5487535612746729045:True:=trivial
theorem tw1682785648649923419:True:=trivial
theorem tw11057949512049116275:True:=trivial
theorem tw10978967559284943058:True:=trivial
theorem tw3069595306228765693:True:=trivial
theorem tw3895865654335027133:True:=trivial
theorem tw17226204931222076201:True:=trivial
theorem tw6471980617312970513:True:=trivial
theorem tw3987988331506960990:True:=trivial
theorem tw7447726984386204040:True:=trivial
theorem tw13573759143887956353:True:=trivial
theorem tw4501670622288677209:True:=trivial
theorem tw14652122346792636814:True:=trivial
theorem tw15851026135810762649:True:=trivial
theorem tw18171190081117691007:True:=trivial
theorem tw17746443062247420782:True:=trivial
theorem tw4735582704265799420:True:=trivial
theorem tw3570094930053706285:True:=trivial
theorem tw13655840043452297176:True:=trivial
theorem tw5383064860102830545:True:=trivial
theorem tw10947501398533602522:True:=trivial
theorem tw13089125636927340238:True:=trivial
theorem tw9966196564361564438:True:=trivial
theorem tw10165435772836024182:True:=trivial
theorem tw11629936686803552604:True:=trivial
theorem tw7109446973076177415:True:=trivial
theorem tw4816735939544929613:True:=trivial
theorem tw8735363871727274261:True:=trivial
theorem tw11129338272847698140:True:=trivial
theorem tw12149321622083709437:True:=trivial
theorem tw9410209260599017032:True:=trivial
theorem tw10229428222764625810:True:=trivial
theorem tw14894422815524438422:True:=trivial
theorem tw16822415806715346173:True:=trivial
theorem tw11286997567337602393:True:=trivial
theorem tw10928673303652560252:True:=trivial
theorem tw2584902903742089639:True:=trivial
theorem tw15580129088456548133:True:=trivial
theorem tw11736282689504999612:True:=trivial
theorem tw9013166917674997960:True:=trivial
theorem tw12004710238140919133:True:=trivial
theorem tw4588852416614692593:True:=trivial
theorem tw10601213515355620085:True:=trivial
theorem tw13132524124117524290:True:=trivial
theorem tw6628819015179382509:True:=trivial
theorem tw17967415065222625415:True:=trivial
theorem tw9477136126327305453:True:=trivial
theorem tw7168887250557934906:True:=trivial
theorem tw2692800123471147685:True:=trivial
theorem tw10268810260476301415:True:=trivial
theorem tw14015927770635740501:True:=trivial
theorem tw2566842279489189749:True:=trivial
theorem tw1570219197051269901:True:=trivial
theorem tw3722993207229798817:True:=trivial
theorem tw17088272374770978630:True:=trivial
theorem tw16150876417859280674:True:=trivial
theorem tw7317762213145914620:True:=trivial
theorem tw6669954633121405734:True:=trivial
theorem tw15930400970548942468:True:=trivial
theorem tw7762602659716575669:True:=trivial
end PySem.W.Fast
open PySem PySem.W PyProof.Rows
set_option maxRecDepth 100000 in
set_option maxHeartbeats 0 in
theorem PySem.Challenge.cw_pileduel_k17_sayings_looked_at_holds : PySem.Challenge.rw_pileduel_k17_sayings_looked_at.Holds := by
 w_on;o_law;k_head;(case hw=>w_witness2)
 k_fill
 refine K17.walk (l:=PySem.Challenge.rw_pileduel_k17_sayings_looked_at) rfl rfl (fun w h Y=>PySem.W.kIn_of Y) ?F
 case F =>
  intro w mg fa h KX G hmg
  refine' K17.all_mk KX G hmg ?a1 ?l1 ?c_1 ?k1 ?a2 ?l2 ?c_2 ?k2 ?a3 ?l3 ?c_3 ?k3 ?a4 ?l4 ?c_4 ?k4 ?a5 ?l5 ?c_5 ?k5 ?a6 ?l6 ?c_6 ?k6 ?a7 ?l7 ?c_7 ?k7 ?a8 ?l8 ?c_8 ?k8 ?a9 ?l9 ?c_9 ?k9 ?a10 ?l10 ?c_10 ?k10 ?a11 ?l11 ?c_11 ?k11 ?a12 ?l12 ?c_12 ?k12 ?a13 ?l13 ?c_13 ?k13 ?a14 ?l14 ?c_14 ?k14 ?a15 ?l15 ?c_15 ?k15 ?a16 ?l16 ?c_16 ?k16 ?a17 ?l17 ?c_17 ?k17 ?a18 ?l18 ?c_18 ?k18 ?a19 ?l19 ?c_19 ?k19 ?u_c0 ?u_c1 ?u_c2 ?u_c3 ?u_c4 ?u_c5 ?u_c6 ?u_c7 ?u_D ?e_c2 ?i_c2 ?n_c2 ?l_c2 ?c_c2 ?k_c2 ?na_c2_at ?z_isinstance ?z_bool ?z_enumerate ?z_len ?z_all ?z_zip ?z_range ?z_tuple ?z_min ?z_list ?z_sorted ?z_set ?z_reversed ?z_max ?z_ValueError ?y1 ?y2
  (case a1=>k_is)
  (case l1=>k_is)
  (case c_1=>k_is)
  (case k1=>k_is)
  (case a2=>k_is)
  (case l2=>k_is)
  (case c_2=>k_is)
  (case k2=>k_is)
  (case a3=>k_is)
  (case l3=>k_is)
  (case c_3=>k_is)
  (case k3=>k_is)
  (case a4=>k_is)
  (case l4=>k_is)
  (case c_4=>k_is)
  (case k4=>k_is)
  (case a5=>k_is)
  (case l5=>k_is)
  (case c_5=>k_is)
  (case k5=>k_is)
  (case a6=>k_is)
  (case l6=>k_is)
  (case c_6=>k_is)
  (case k6=>k_is)
  (case a7=>k_is)
  (case l7=>k_is)
  (case c_7=>k_is)
  (case k7=>k_is)
  (case a8=>k_is)
  (case l8=>k_is)
  (case c_8=>k_is)
  (case k8=>k_is)
  (case a9=>k_is)
  (case l9=>k_is)
  (case c_9=>k_is)
  (case k9=>k_is)
  (case a10=>k_is)
  (case l10=>k_is)
  (case c_10=>k_is)
  (case k10=>k_is)
  (case a11=>k_is)
  (case l11=>k_is)
  (case c_11=>k_is)
  (case k11=>k_is)
  (case a12=>k_is)
  (case l12=>k_is)
  (case c_12=>k_is)
  (case k12=>k_is)
  (case a13=>k_is)
  (case l13=>k_is)
  (case c_13=>k_is)
  (case k13=>k_is)
  (case a14=>k_is)
  (case l14=>k_is)
  (case c_14=>k_is)
  (case k14=>k_is)
  (case a15=>k_is)
  (case l15=>k_is)
  (case c_15=>k_is)
  (case k15=>k_is)
  (case a16=>k_is)
  (case l16=>k_is)
  (case c_16=>k_is)
  (case k16=>k_is)
  (case a17=>k_is)
  (case l17=>k_is)
  (case c_17=>k_is)
  (case k17=>k_is)
  (case a18=>k_is)
  (case l18=>k_is)
  (case c_18=>k_is)
  (case k18=>k_is)
  (case a19=>k_is)
  (case l19=>k_is)
  (case c_19=>k_is)
  (case k19=>k_is)
  (case u_c0=>k_is)
  (case u_c1=>k_is)
  (case u_c2=>k_is)
  (case u_c3=>k_is)
  (case u_c4=>k_is)
  (case u_c5=>k_is)
  (case u_c6=>k_is)
  (case u_c7=>k_is)
  (case u_D=>k_is)
  (case e_c2=>kernel_rfl)
  (case i_c2=>k_is)
  (case n_c2=>k_is)
  (case l_c2=>k_is)
  (case c_c2=>k_is)
  (case k_c2=>k_is)
  (case na_c2_at=>k_is)
  (case z_isinstance=>k_is)
  (case z_bool=>k_is)
  (case z_enumerate=>k_is)
  (case z_len=>k_is)
  (case z_all=>k_is)
  (case z_zip=>k_is)
  (case z_range=>k_is)
  (case z_tuple=>k_is)
  (case z_min=>k_is)
  (case z_list=>k_is)
  (case z_sorted=>k_is)
  (case z_set=>k_is)
  (case z_reversed=>k_is)
  (case z_max=>k_is)
  (case z_ValueError=>k_is)
  (case y1=>k_is)
  (case y2=>k_is)
