import PyProof.Rows.All
import Wide.All
import OpenK.AllK
import Wide.FinOn
import Lean
import PyProof.EqAt
import PyProof.EqKinds
import PyProof.TupleCall
import PyProof.CompFree
import PyProof.CompUse
import PyProof.CollectIter
import PyProof.ListNew
import KE.KRevIter
import PyProof.EnumMake
import PyProof.Draws
import PyProof.TupleIter
import PyProof.WalksMore
import PyProof.ReprRoads
import PyProof.P3Eq
import PyProof.NeData
import PyProof.EqLayable
import PyProof.Rows.RegFStrParts
import PyProof.AutoListH
import KE.KItemsList
import KE.KDictList
import PyProof.StrBlockG
import PyProof.StrLawsOcc
import PyProof.StrLawsTight
import PyProof.StrLawsChain
import PyProof.Rows.Range3
import PyProof.MinMaxWalk
import PyProof.WalkInts
import PyProof.ExcClass3
import PyProof.ExcInit
import PyProof.InstStoreFacts
import PyProof.ExcArgsOwn
import KE.KIsAll
import PyProof.RaisesMany
import PyProof.RulesTry
import PyProof.Raises
import PyProof.RulesAs
import PyProof.NsDelKeeps
import PyProof.PassesOwn
import PyProof.Rows.CatchHere
import KE.KSortTup
import PyProof.FactsAll.tuple_2
import PyProof.TupleKey
import PyProof.Rows.RowHeap
import PyProof.SetKind
import PyProof.SetNew
import PyProof.DictIter
import PyProof.CollectWalk
import PyProof.Walks
import PyProof.ZipIter
import KE.KRevSl
import KE.KStateDown
import PyProof.SetRoads
import PyProof.SumWalk
import PyProof.CallStr
import PyProof.FactsAll.tuple_3
import PyProof.StrLawsIn
import PyProof.Rows.RuleM_int
import PyProof.FactsAll.dict_3
import PySem.Challenge.RW_pileduel_k23_readings
set_option Elab.async false
set_option linter.all false
set_option maxRecDepth 100000
abbrev Yaa:=@PySem.wpAny_bind
abbrev Yab:=@List.length_map
abbrev Yac:=@PySem.wpAny_pure
abbrev Yad:=@Nat.le_refl
abbrev Yae:=@PySem.Heap.lt_size
abbrev Yaf:=@List.mem_map
abbrev Yag:=@Bool.false_ne_true
abbrev Yah:=@Option.map_eq_some_iff
abbrev Yai:=@Nat.ne_of_lt
abbrev Yaj:=@if_neg
abbrev Yak:=@Nat.le_trans
abbrev Yal:=@List.length_append
abbrev Yam:=@PyProof.Rows.wpS_bind
abbrev Yan:=@List.mem_singleton
abbrev Yao:=@if_pos
abbrev Yap:=@List.mem_cons
abbrev Yaq:=@List.mem_append
abbrev Yar:=@Nat.lt_of_lt_of_le
abbrev Yas:=@Array.length_toList
abbrev Yat:=@PyProof.Rows.wpS_pure
abbrev Yau:=@List.size_toArray
abbrev Yav:=@List.mem_cons_of_mem
abbrev Yaw:=@List.map_append
abbrev Yax:=@List.mem_cons_self
abbrev Yay:=@of_decide_eq_true
abbrev Yaz:=@Nat.zero_le
abbrev Ya0:=@List.map_map
abbrev Ya1:=@List.mem_of_getElem?
abbrev Ya2:=@List.map_cons
abbrev Ya3:=@List.mem_range
abbrev Ya4:=@List.mem_append_right
abbrev Ya5:=@Nat.eq_or_lt_of_le
abbrev Ya6:=@Option.some.inj
abbrev Ya7:=@Bool.and_eq_true
abbrev Ya8:=@PySem.wpAny_setState_of
abbrev Ya9:=@List.length_cons
abbrev Yba:=@decide_eq_false
abbrev Ybb:=@Array.getD_eq_getD_getElem?
abbrev Ybc:=@Array.size_reverse
abbrev Ybd:=@PySem.wpAny_newObj_type
abbrev Ybe:=@PySem.Heap.SameBut.update
abbrev Ybf:=@PySem.PassesOwn.never
abbrev Ybg:=@decide_eq_true
abbrev Ybh:=@List.take_length
abbrev Ybi:=@List.take_succ
abbrev Ybj:=@PySem.Calls.spliced_nil
abbrev Ybk:=@PySem.Calls.spliced_cons
abbrev Ybl:=@List.length_take
abbrev Ybm:=@List.pairwise_map
abbrev Ybn:=@List.drop_eq_getElem_cons
abbrev Ybo:=@List.pairwise_iff_getElem
abbrev Ybp:=@Classical.byContradiction
abbrev Ybq:=@Nat.le_of_lt
abbrev Ybr:=@Nat.lt_or_ge
abbrev Ybs:=@PySem.wpAny_holding
abbrev Ybt:=@PySem.W.mg_of
abbrev Ybu:=@PySem.wpAny_call_entry
abbrev Ybv:=@PyProof.Rows.callWith_type1
abbrev Ybw:=@PyProof.Rows.slot_tuple_getitem
abbrev Ybx:=@PySem.F.slot_list_append
abbrev Yby:=@PySem.F.type_list_append
abbrev Ybz:=@PySem.wpAny_Call_Name_kw
abbrev Yb0:=@PyProof.Rows.wpS_forRange
abbrev Yb1:=@PySem.wpAny_mono
abbrev Yb2:=@Exists.elim
abbrev Yb3:=@List.getElem_mem
abbrev Yb4:=@Nat.lt_succ_of_lt
abbrev Yb5:=@List.nodup_cons
abbrev Yb6:=@Array.toList_append
abbrev Yb7:=@List.lookup_cons
abbrev Yb8:=@List.all_eq_true
abbrev Yb9:=@Nat.lt_irrefl
abbrev Yca:=@List.append_assoc
abbrev Ycb:=@List.length_range
abbrev Ycc:=@PySem.W.mg_none_of
abbrev Ycd:=@List.mem_filter
abbrev Yce:=@PySem.Heap.size_push
abbrev Ycf:=@List.foldl_cons
abbrev Ycg:=@congrArg
abbrev Ych:=@List.map_congr_left
abbrev Yci:=@List.mem_append_left
abbrev Ycj:=@Array.toList_reverse
abbrev Yck:=@PySem.Around.under_plainId
abbrev Ycl:=@Nat.lt_succ_self
abbrev Ycm:=@PyProof.Rows.wpS_mono
abbrev Ycn:=@List.pairwise_lt_range
abbrev Yco:=@PySem.wpAny_rule
abbrev Ycp:=@List.append_nil
abbrev Ycq:=@PyProof.Rows.callWith_builtin1
abbrev Ycr:=@List.take_append_drop
abbrev Ycs:=@Nat.le_succ
abbrev Yct:=@List.eq_nil_of_length_eq_zero
abbrev Ycu:=@PySem.wpAny_typeNameOfWhole_keyiter
abbrev Ycv:=@Array.reverse_append
abbrev Ycw:=@PySem.Paired.length
abbrev Ycx:=@PyProof.Rows.boot_tuple
abbrev Ycy:=@List.ext_getElem?
abbrev Ycz:=@PySem.wpAny_specialOf
abbrev Yc0:=@PySem.codeAny_builtin
abbrev Yc1:=@List.flatMap_append
abbrev Yc2:=@List.take_of_length_le
abbrev Yc3:=@Ne.symm
abbrev Yc4:=@PySem.wpAny_isInstance
abbrev Yc5:=@PyProof.Rows.wpS_modify
abbrev Yc6:=@List.any_cons
abbrev Yc7:=@List.length_filter_le
abbrev Yc8:=@List.pairwise_append
abbrev Yc9:=@PySem.wpAny_passesOwn
abbrev Yda:=@Array.map_extract
abbrev Ydb:=@Nat.le_succ_of_le
abbrev Ydc:=@PyProof.Rows.Reads.keeps
abbrev Ydd:=@Int.toNat_natCast
abbrev Yde:=@PySem.wpAny_typeNameOf_keyiter
abbrev Ydf:=@List.flatMap_cons
abbrev Ydg:=@List.filterMap_cons
abbrev Ydh:=@PySem.mem_of_lookup
abbrev Ydi:=@PySem.plainId_quiet
abbrev Ydj:=@PySem.wpAny_getItem_str_slice
abbrev Ydk:=@List.getElem_of_mem
abbrev Ydl:=@List.pairwise_singleton
abbrev Ydm:=@Int.ofNat.inj
abbrev Ydn:=@List.length_drop
abbrev Ydo:=@List.any_eq_true
abbrev Ydp:=@PySem.wpAny_forIn_list
abbrev Ydq:=@List.mem_flatMap
abbrev Ydr:=@List.nodup_nil
abbrev Yds:=@PySem.isSubtype_type
abbrev Ydt:=@Array.size_map
abbrev Ydu:=@PySem.Calls.callWith_builtin
abbrev Ydv:=@PySem.tupleKind_room_in1
abbrev Ydw:=@List.pairwise_cons
abbrev Ydx:=@Bool.or_eq_true
abbrev Ydy:=@PySem.builtinLookup_eq_fast
abbrev Ydz:=@Array.reverse_reverse
abbrev Yd0:=@List.contains_iff_mem
abbrev Yd1:=@PySem.wpAny_pyIter_list
abbrev Yd2:=@List.nodup_append
abbrev Yd3:=@List.foldl_append
abbrev Yd4:=@List.mem_of_mem_take
abbrev Yd5:=@List.mem_of_mem_drop
abbrev Yd6:=@PySem.wpAny_seqItems
abbrev Yd7:=@PySem.wpAny_fieldsOf
abbrev Yd8:=@PySem.boot_len
abbrev Yd9:=@beq_eq_false_iff_ne
abbrev Yea:=@PySem.F.args_tuple_add_2
abbrev Yeb:=@PySem.wpAny_typeOf
abbrev Yec:=@PySem.wpAny_comprehension_free
abbrev Yed:=@Array.size_setIfInBounds
abbrev Yee:=@PySem.F.slot_list_extend
abbrev Yef:=@PySem.F.type_list_extend
abbrev Yeg:=@Array.append_assoc
abbrev Yeh:=@PySem.F.entry_tuple_add
abbrev Yei:=@Nat.lt_of_le_of_lt
abbrev Yej:=@Nat.eq_zero_or_pos
abbrev Yek:=@List.length_eq_zero_iff
abbrev Yel:=@Array.size_extract
abbrev Yem:=@Nat.not_lt_zero
abbrev Yen:=@PySem.Obj.data_mapFields
abbrev Yeo:=@Array.forIn_toList
abbrev Yep:=@List.map_take
abbrev Yeq:=@decide_eq_true_iff
abbrev Yer:=@PySem.F.slot_tuple_add
abbrev Yes:=@List.Perm.append_right
abbrev Yet:=@List.flatMap_singleton
abbrev Yeu:=@PySem.wpAny_truthy_bool
abbrev Yev:=@List.reverse_cons
abbrev Yew:=@Array.toList_push
abbrev Yex:=@PySem.wpAny_storeSet_of
abbrev Yey:=@PySem.eqIsQuiet_byValue
abbrev Yez:=@PySem.wpAny_dictEntries
abbrev Ye0:=@PySem.wpAny_runValue
abbrev Ye1:=@List.length_singleton
abbrev Ye2:=@PySem.F.slot_dict_get
abbrev Ye3:=@PySem.wpAny_isOneOf_keyiter
abbrev Ye4:=@PyProof.Rows.boot_max
abbrev Ye5:=@beq_self_eq_true
abbrev Ye6:=@List.drop_length
abbrev Ye7:=@List.filter_cons
abbrev Ye8:=@List.nodup_range
abbrev Ye9:=@Array.map_append
abbrev Yfa:=@PySem.W.kat_kind
abbrev Yfb:=@PySem.Calls.evalArgs_plain
abbrev Yfc:=@Nat.mul_le_mul_right
abbrev Yfd:=@PySem.wpAny_attempt
abbrev Yfe:=@Sum.inl.inj
abbrev Yff:=@PySem.wpAny_execs_nil
abbrev Yfg:=@PySem.typeLookup_type
abbrev Yfh:=@PySem.wpAny_updateSeq
abbrev Yfi:=@PySem.post_val_or_str
abbrev Yfj:=@Bool.eq_iff_iff
abbrev Yfk:=@PyProof.Rows.wpS_get
abbrev Yfl:=@PySem.wpAny_ite_split
abbrev Yfm:=@PySem.codeAny_mono
abbrev Yfn:=@Nat.sub_self
namespace L2
theorem Qdj{α:Sort _}{a b:α->Prop}{P:Prop}(h:∃x,a x/\b x)(k:∀x,a x->b x->P):P:=Yb2 h λx y=>k x y.1 y.2
theorem Cg{α β:Sort _}{a b c:α->β->Prop}{P:Prop}(h:∃x y,a x y/\b x y/\c x y)(k:∀x y,a x y->b x y->c x y->P):P:=Yb2 h λx h=>Yb2 h λy h=>k x y h.1 h.2.1 h.2.2
theorem Bu{α β γ:Sort _}{a b c d:α->β->γ->Prop}{P:Prop}(h:∃x y z,a x y z/\b x y z/\c x y z/\d x y z)(k:∀x y z,a x y z->b x y z->c x y z->d x y z->P):P:=Yb2 h λx h=>Yb2 h λy h=>Yb2 h λz h=>k x y z h.1 h.2.1 h.2.2.1 h.2.2.2
theorem Ei{α β γ δ:Sort _}{a b c d e:α->β->γ->δ->Prop}{P:Prop}(h:∃x y z u,a x y z u/\b x y z u/\c x y z u/\d x y z u/\e x y z u)(k:∀x y z u,a x y z u->b x y z u->c x y z u->d x y z u->e x y z u->P):P:=Yb2 h λx h=>Yb2 h λy h=>Yb2 h λz h=>Yb2 h λu h=>k x y z u h.1 h.2.1 h.2.2.1 h.2.2.2.1 h.2.2.2.2
theorem Z1{α β γ δ:Sort _}{a b c d e f:α->β->γ->δ->Prop}{P:Prop}(h:∃x y z u,a x y z u/\b x y z u/\c x y z u/\d x y z u/\e x y z u/\f x y z u)(k:∀x y z u,a x y z u->b x y z u->c x y z u->d x y z u->e x y z u->f x y z u->P):P:=Yb2 h λx h=>Yb2 h λy h=>Yb2 h λz h=>Yb2 h λu h=>k x y z u h.1 h.2.1 h.2.2.1 h.2.2.2.1 h.2.2.2.2.1 h.2.2.2.2.2
theorem Ht{α β γ δ ε ζ:Sort _}{a b c d:α->β->γ->δ->ε->ζ->Prop}{P:Prop}(h:∃x y z u v w,a x y z u v w/\b x y z u v w/\c x y z u v w/\d x y z u v w)(k:∀x y z u v w,a x y z u v w->b x y z u v w->c x y z u v w->d x y z u v w->P):P:=Yb2 h λx h=>Yb2 h λy h=>Yb2 h λz h=>Yb2 h λu h=>Yb2 h λv h=>Yb2 h λw h=>k x y z u v w h.1 h.2.1 h.2.2.1 h.2.2.2
open PySem PySem.Spec PyProof.Rows
abbrev Key:=Sum Int Str
def G7:Key->Value->Bool
 | .inl k,v=>Value.isInt k v
 | .inr x,v=>Value.isStrOf x v
def Z5(w:World):Key->Int
 | .inl k=>hashInt k
 | .inr x=>hashStr w x
theorem keyIs_shape:∀{k:Key} {v:Value},G7 k v=true->(∃i t,k=Sum.inl i/\v=Value.int i t)\/(∃x t,k=Sum.inr x/\v=Value.str x t)
 | .inl i,v,h=>by
  obtain⟨t,e⟩:=Value.isInt_shape (k:=i) (v:=v) h
  exact .inl ⟨i,t,rfl,e⟩
 | .inr x,v,h=>by
  obtain⟨t,e⟩:=Value.isStrOf_shape (x:=x) (v:=v) h
  exact .inr ⟨x,t,rfl,e⟩
theorem Q7(i:Int)(t:Tok):G7 (.inl i) (.int i t)=true:=by simp [G7,Value.isInt]
theorem Q8(x:Str)(t:Tok):G7 (.inr x) (.str x t)=true:=by simp [G7,Value.isStrOf]
theorem Z6(a b:Int):decide ((Sum.inl a:Key)=Sum.inl b)=(a==b):=by
 by_cases e:a=b
 ·subst e;simp
 ·have h:¬(Sum.inl a:Key)=Sum.inl b:=λq=>e (Yfe q)
  rw [Yba h]
  exact(Yd9.mpr e).symm
theorem Z7(a b:Str):decide ((Sum.inr a:Key)=Sum.inr b)=decide (a=b):=by
 by_cases e:a=b
 ·subst e;simp
 ·have h:¬(Sum.inr a:Key)=Sum.inr b:=λq=>e (Sum.inr.inj q)
  rw [Yba h,Yba e]
theorem Z8(a:Int)(b:Str):decide ((Sum.inl a:Key)=Sum.inr b)=false:=Yba (λq=>nomatch q)
theorem Z9(a:Str)(b:Int):decide ((Sum.inr a:Key)=Sum.inl b)=false:=Yba (λq=>nomatch q)
def Ap(prog:Program)(w:World):PySem.KeyKind prog w Key where
 is:=G7
 hash:=Z5 w
 inj:=λv a b ha hb=>by
  rcases keyIs_shape ha with⟨i,t,rfl,rfl⟩ | ⟨x,t,rfl,rfl⟩
  ·rcases keyIs_shape hb with⟨j,u,rfl,e⟩ | ⟨y,u,rfl,e⟩
   ·injection e with e1 _;rw [e1]
   ·exact nomatch e
  ·rcases keyIs_shape hb with⟨j,u,rfl,e⟩ | ⟨y,u,rfl,e⟩
   ·exact nomatch e
   ·injection e with e1 _;rw [e1]
 byValue:=λk v h=>by
  rcases keyIs_shape h with⟨i,t,rfl,rfl⟩ | ⟨x,t,rfl,rfl⟩ <;> rfl
 pyHash:=λhv h=>by
  rcases keyIs_shape hv with⟨i,t,rfl,rfl⟩ | ⟨x,t,rfl,rfl⟩
  ·exact wpAny_pyHash_int h
  ·exact wpAny_pyHash_str h
 eqBool:=λhu hv h=>by
  rcases keyIs_shape hu with⟨i,t,rfl,rfl⟩ | ⟨x,t,rfl,rfl⟩
  ·rcases keyIs_shape hv with⟨j,u,rfl,rfl⟩ | ⟨y,u,rfl,rfl⟩
   ·rw [Z6]at h;exact wpAny_eqBool_int h
   ·rw [Z8]at h;exact SeqAt.EqAt.int_str i t y u _ _ _ _ h
  ·rcases keyIs_shape hv with⟨j,u,rfl,rfl⟩ | ⟨y,u,rfl,rfl⟩
   ·rw [Z9]at h;exact SeqAt.EqAt.str_int x t j u _ _ _ _ h
   ·rw [Z7]at h;exact wpAny_eqBool_str h
 «strs»:=λk x t v h=>by
  rcases keyIs_shape h with⟨i,u,rfl,e⟩ | ⟨y,u,rfl,e⟩
  ·exact nomatch e
  ·injection e with e1 _
   subst e1
   cases v <;> rfl
theorem Cf(prog:Program)(w:World)(i:Int)(t:Tok):(Ap prog w).is (.inl i) (.int i t)=true:=Q7 i t
theorem Ej(prog:Program)(w:World)(x:Str)(t:Tok):(Ap prog w).is (.inr x) (.str x t)=true:=Q8 x t
end L2
namespace L2
open PySem PySem.Spec PyProof.Rows
inductive V where
 | non | bl (b:Bool) | int (i:Int) | str (x:Str) | byt (b:Array UInt8) | flt (b:UInt64) | ref (a:Addr) | ty (n:String)
 deriving DecidableEq
def A6:V->Value->Prop
 | .non,u=>u=Value.none
 | .bl b,u=>u=Value.bool b
 | .int i,u=>∃t,u=Value.int i t
 | .str x,u=>∃t,u=Value.str x t
 | .byt b,u=>∃t,u=Value.bytes b t
 | .flt b,u=>∃t,u=Value.float b t
 | .ref a,u=>u=Value.ref a
 | .ty n,u=>u=Value.type n
abbrev Vals:List V->List Value->Prop:=Paired A6
theorem Vals.length{xs:List V}{us:List Value}(r:Vals xs us):xs.length=us.length:=Ycw r
theorem Vals.get:∀{xs:List V} {us:List Value} {i:Nat} {x:V},Vals xs us->xs[i]?=some x->∃u,us[i]?=some u/\A6 x u
 | _,_,_,_,.nil,e=>by simp at e
 | _,_,0,_,.cons r _,e=>by simp at e;subst e;exact⟨_,rfl,r⟩
 | _,_,i+1,x,.cons _ t,e=>by
  obtain⟨u,h1,h2⟩:=Vals.get (i:=i) (x:=x) t (by simpa using e)
  exact⟨u,by simpa using h1,h2⟩
theorem Vals.append:∀{xs ys:List V} {us ws:List Value},Vals xs us->Vals ys ws->Vals (xs++ys) (us++ws)
 | _,_,_,_,.nil,s=>s
 | _,_,_,_,.cons r t,s=>.cons r (Vals.append t s)
theorem Vals.take:∀{xs:List V} {us:List Value} (n:Nat),Vals xs us->Vals (xs.take n) (us.take n)
 | _,_,0,_=>.nil
 | _,_,_+1,.nil=>.nil
 | _,_,n+1,.cons r t=>.cons r (Vals.take n t)
theorem Vals.drop:∀{xs:List V} {us:List Value} (n:Nat),Vals xs us->Vals (xs.drop n) (us.drop n)
 | _,_,0,r=>r
 | _,_,_+1,.nil=>.nil
 | _,_,n+1,.cons _ t=>Vals.drop n t
def Gh:Option V->Option Value->Prop
 | some v,some u=>A6 v u
 | none,none=>True
 | _,_=>False
def KV{κ:Type}:List (κ×V)->List (κ×Value)->Prop:=Paired λ(p:κ×V) (q:κ×Value)=>p.1=q.1/\A6 p.2 q.2
def kV:Key->V
 | .inl i=>.int i
 | .inr x=>.str x
mutual
def Av(w:World):PyData->Int
 | .int i=>Z5 w (.inl i)
 | .str x=>Z5 w (.inr x)
 | .tuple ds=>reduceHash (Builtin.Tuple.tupleHashOf (Cl w ds))
 | _=>0
def Cl(w:World):List PyData->List Int
 | []=>[]
 | d :: ds=>Av w d :: Cl w ds
end
def Qgy(w:World)(x:PyData×Addr×Value):DictEntry:=⟨Av w x.1,.ref x.2.1,x.2.2⟩
def Qgz(w:World)(h:Heap)(a:Addr)(xs:List (PyData×Addr×Value)):Prop :=
 ∃o es ep,h.get? a=some o/\o.ExactDict/\o.data=.dict es ep/\es.toList=xs.map (Qgy w)/\(xs.map (·.1)).Nodup/\(a==sysModules)=false/\xs.length<=sizeLine
inductive HO where
 | lst (xs:List V)
 | tup (xs:List V)
 | dK (ab:List (Key×V)) | dT (ab:List (List Key×V))
 | set (S:Int->Bool) (n:Nat)
 | ins (C dx:Addr) (fs:List (Str×V))
 | own (x:Addr)
 | xd (fs:List (Str×V))
 | met (f x:Addr)
 | rng (lo hi:Int)
 | frz (o:Obj) (u:HO)
 | tbl (ps:Array Value)
 | ext (φ:Heap->Prop)
 | dd (xs:List (PyData×Addr×Value))
abbrev Hp:=Addr->Option HO
def upd(H:Hp)(a:Addr)(o:HO):Hp:=λb=>if b=a then some o else H b
theorem Cw{H:Hp}{a:Addr}{o:HO}:upd H a o a=some o:=by unfold upd;rw [Yao rfl]
theorem A7{H:Hp}{a b:Addr}{o:HO}(h:b≠a):upd H a o b=H b:=by unfold upd;rw [Yaj h]
theorem O6{H:Hp}{a b:Addr}{o u:HO}(h:H a=some o)(h':H b=some u)(d:o≠u):a≠b:=by
 intro e;subst e;rw [h]at h';exact d (Ya6 h')
theorem Bv{H:Hp}{a b:Addr}{o:HO}(h:H a=some o)(h':H b=none):a≠b:=by
 intro e;subst e;rw [h]at h';cases h'
section
variable(P:Program)(w:World)
def Bl(H:Hp)(h:Heap)(a:Addr):HO->Prop
 | .lst xs=>xs.length<=sizeLine/\∃(ae:List Value) (n:Nat),Vals xs ae/\h.get? a=some { cls:=.type "list",data:=.seq ae.toArray n }
 | .tup xs=>xs.length<=sizeLine/\∃ae:List Value,Vals xs ae/\IsTup h a ae.toArray
 | .dK ab=>ab.length<=sizeLine/\(a==sysModules)=false/\∃vs,KV ab vs/\h.DictOf (Ap P w) a vs
 | .dT ab=>ab.length<=sizeLine/\(a==sysModules)=false/\∃xs:List (List Key×Addr×Value),
   Paired (λ(p:List Key×V) (q:List Key×Addr×Value)=>p.1=q.1/\H q.2.1=some (.tup (p.1.map kV))/\A6 p.2 q.2.2) ab xs /\
   ∃o es ep,h.get? a=some o/\o.ExactDict/\o.data=.dict es ep/\es.toList=xs.map (entryOfKey (tupleKind (Ap P w)))/\(xs.map (·.1)).Nodup
 | .set S n=>h.SetOf (intKind P w) a S n
 | .ins C dx fs=>H dx=some (.own a)/\fs.length<=1000/\dx≠a/\h.get? a=some (PySem.W.instObj C dx) /\
   ∃mA,h.Ns1 dx mA/\(∀f,Gh (fs.lookup f) (mA f))/\PySem.Within mA (fs.map (·.1))
 | .own _=>∃o,h.get? a=some o
 | .xd fs=>∃mA,h.Ns1 a mA/\∀f,Gh (fs.lookup f) (mA f)
 | .rng lo hi=>∃t u v,h.get? a=some { cls:=.type "range",data:=.fields #[.int lo t,.int hi u,.int 1 v] }
 | .frz o u=>h.get? a=some o/\Bl H h a u
 | .tbl ps=>h.get? a=some { cls:=.none,data:=.fields ps }
 | .met f x=>h.get? a=some (PySem.W.methodObj (.ref f) (.ref x))
 | .ext φ=>φ h/\(∃o,h.get? a=some o)/\∀h1 h2:Heap,φ h1->(∀o,h1.get? a=some o->h2.get? a=some o)->φ h2
 | .dd xs=>Qgz w h a xs
def HOk(H:Hp)(h:Heap):Prop:=∀a o,H a=some o->Bl P w H h a o
end
section
variable {P:Program}{w:World}{H H':Hp}{h h':Heap}{a:Addr}{o:HO}
theorem Bl.lt(x:Bl P w H h a o):a < h.objs.size:=by
 cases o with
 | lst xs=>obtain⟨_,_,_,_,e⟩:=x;exact Yae e
 | tup xs=>obtain⟨_,_,_,p⟩:=x;exact p.lt
 | dK ab=>obtain⟨_,_,_,_,o,_,_,e,_⟩:=x;exact Yae e
 | dT ab=>obtain⟨_,_,_,_,o,_,_,e,_⟩:=x;exact Yae e
 | set S n=>obtain⟨o,_,_,_,e,_⟩:=x;exact Yae e
 | ins C dx fs=>obtain⟨_,_,_,e,_⟩:=x;exact Yae e
 | own y=>obtain⟨_,e⟩:=x;exact Yae e
 | xd fs=>obtain⟨_,⟨_,_,_,e,_⟩,_⟩:=x;exact Yae e
 | rng lo hi=>obtain⟨_,_,_,e⟩:=x;exact Yae e
 | frz ob u=>obtain⟨e,_⟩:=x;exact Yae e
 | tbl ps=>exact Yae (show h.get? a=some _ from x)
 | met f y=>exact Yae (show h.get? a=some _ from x)
 | ext φ=>obtain⟨_,⟨_,e⟩,_⟩:=x;exact Yae e
 | dd xs=>obtain⟨_,_,_,e,_⟩:=x;exact Yae e
theorem Paired.mapP{α β:Type}{F G:α->β->Prop}:∀{l₁:List α} {l₂:List β},Paired F l₁ l₂->(∀a b,F a b->G a b)->Paired G l₁ l₂
 | _,_,.nil,_=>.nil
 | _,_,.cons r t,f=>.cons (f _ _ r) (Paired.mapP t f)
theorem Bl.stay(x:Bl P w H h a o)(k:∀b u,(b=a\/H b=some (.own a))->h.get? b=some u->h'.get? b=some u)
  (ho:∀b,H b=some (.own a)->H' b=some (.own a)) (ht:∀b xs,H b=some (.tup xs)->H' b=some (.tup xs)):Bl P w H' h' a o:=by
 induction o with
 | lst xs=>obtain⟨z,ae,n,r,e⟩:=x;exact⟨z,ae,n,r,k _ _ (.inl rfl) e⟩
 | tup xs=>obtain⟨z,ae,r,ob,e,c⟩:=x;exact⟨z,ae,r,ob,k _ _ (.inl rfl) e,c⟩
 | dK ab=>obtain⟨z,y,vs,r,ob,es,ep,e,c⟩:=x;exact⟨z,y,vs,r,ob,es,ep,k _ _ (.inl rfl) e,c⟩
 | dT ab =>
  obtain⟨z,y,xs,r,ob,es,ep,e,c⟩:=x
  exact⟨z,y,xs,Paired.mapP r λp q z=>⟨z.1,ht _ _ z.2.1,z.2.2⟩,ob,es,ep,k _ _ (.inl rfl) e,c⟩
 | set S n=>obtain⟨ob,es,ep,t,e,c⟩:=x;exact⟨ob,es,ep,t,k _ _ (.inl rfl) e,c⟩
 | ins C dx fs =>
  obtain⟨d,z,ne,e,mA,⟨od,es,ep,e2,c⟩,r⟩:=x
  exact⟨ho _ d,z,ne,k _ _ (.inl rfl) e,mA,⟨od,es,ep,k _ _ (.inr d) e2,c⟩,r⟩
 | own y=>obtain⟨ob,e⟩:=x;exact⟨ob,k _ _ (.inl rfl) e⟩
 | xd fs=>obtain⟨mA,⟨od,es,ep,e,c⟩,r⟩:=x;exact⟨mA,⟨od,es,ep,k _ _ (.inl rfl) e,c⟩,r⟩
 | rng lo hi=>obtain⟨t,u,v,e⟩:=x;exact⟨t,u,v,k _ _ (.inl rfl) e⟩
 | frz ob u ih=>obtain⟨e,q⟩:=x;exact⟨k _ _ (.inl rfl) e,ih q⟩
 | tbl ps =>
  have e:h.get? a=some { cls:=.none,data:=.fields ps }:=x
  show h'.get? a=some { cls:=.none,data:=.fields ps }
  exact k a _ (.inl rfl) e
 | met f y =>
  have e:h.get? a=some (PySem.W.methodObj (.ref f) (.ref y)):=x
  show h'.get? a=some (PySem.W.methodObj (.ref f) (.ref y))
  exact k a _ (.inl rfl) e
 | ext φ=>obtain⟨p,⟨o,e⟩,st⟩:=x;exact⟨st _ _ p λo q=>k _ _ (.inl rfl) q,⟨o,k _ _ (.inl rfl) e⟩,st⟩
 | dd xs=>obtain⟨o,es,ep,e,c⟩:=x;exact⟨o,es,ep,k _ _ (.inl rfl) e,c⟩
theorem HOk.lt(x:HOk P w H h)(e:H a=some o):a < h.objs.size:=(x a o e).lt
theorem HOk.fresh(x:HOk P w H h)(e:h.objs.size<=a):H a=none:=by
 cases q:H a with
 | none=>rfl
 | some u=>exact absurd (Yar (x.lt q) e) (Yb9 _)
theorem HOk.kept(x:HOk P w H h)(k:∀b u,h.get? b=some u->h'.get? b=some u):HOk P w H h':=λa o e =>
 (x a o e).stay (λb u _ q=>k b u q) (λ_ q=>q) λ_ _ q=>q
theorem HOk.laid(x:HOk P w H h)(k:∀b u,h.get? b=some u->h'.get? b=some u)(hp:h.objs.size<=a)(new:Bl P w (upd H a o) h' a o):HOk P w (upd H a o) h':=λb u e=>by
 have hn:=x.fresh hp
 by_cases hb:b=a
 ·subst hb;rw [Cw]at e;cases e;exact new
 ·rw [A7 hb]at e
  exact(x b u e).stay (λc v _ q=>k c v q) (λc q=>by rw [A7 (Bv q hn)];exact q) λc xs q=>by rw [A7 (Bv q hn)];exact q
end
def Rd(H:Hp)(a:Addr)(u:HO):Prop:=H a=some u\/∃o,H a=some (.frz o u)
theorem Rd.ok{P:Program}{w:World}{H:Hp}{h:Heap}{a:Addr}{u:HO}(r:Rd H a u)(x:HOk P w H h):Bl P w H h a u:=by
 rcases r with r | ⟨o,r⟩
 ·exact x a u r
 ·obtain⟨_,q⟩:=x a _ r
  exact q
def Mut:Option HO->Prop
 | some (.lst _)=>True
 | some (.dK _)=>True
 | some (.dT _)=>True
 | some (.set _ _)=>True
 | some (.ins _ _ _)=>True
 | some (.ext _)=>True
 | some (.dd _)=>True
 | _=>False
section
variable {P:Program}{w:World}{H:Hp}{h h':Heap}{x e:Addr}{o':HO}
theorem HOk.write(ok:HOk P w H h)(mu:Mut (H x))(he:e=x\/H e=some (.own x))(k:∀b u,b≠e->h.get? b=some u->h'.get? b=some u)(mh:∃u,h'.get? e=some u)
  (new:Bl P w (upd H x o') h' x o'):HOk P w (upd H x o') h':=λb u q=>by
 have ow:∀c y,H c=some (.own y)->c≠x:=λc y r z=>by subst z;rw [r]at mu;exact mu
 have ui:∀c xs,H c=some (.tup xs)->c≠x:=λc xs r z=>by subst z;rw [r]at mu;exact mu
 by_cases hb:b=x
 ·subst hb;rw [Cw]at q;cases q;exact new
 ·rw [A7 hb]at q
  by_cases hbe:b=e
  ·have q':H b=some (.own x):=by
    rcases he with z | z
    ·exact absurd (hbe.trans z) hb
    ·rw [hbe];exact z
   rw [q]at q';cases q'
   obtain⟨v,hv⟩:=mh
   exact⟨v,by rw [hbe];exact hv⟩
  ·refine(ok b u q).stay (λc v hc r=>k c v ?_ r) (λc r=>by rw [A7 (ow c b r)];exact r) λc xs r=>by rw [A7 (ui c xs r)];exact r
   rcases hc with rfl | hc
   ·exact hbe
   ·rintro rfl
    rcases he with z | z
    ·exact ow c b hc z
    ·rw [hc]at z;cases z;exact hb rfl
end
structure Un(fs ex:List Addr)(H H':Hp)(h h':Heap):Prop where
 keep:∀b o,h.get? b=some o->H b=none->b∉fs->b∉ex->h'.get? b=some o
 slot:∀b o,h.get? b=some o->H b=none->b∈fs->b∉ex->∃sl,h'.get? b=some { o with slots:=sl }
 free:∀b o,h.get? b=some o->H b=none->b∉ex->H' b=none
 there:∀b o,h.get? b=some o->b∉ex->∃o',h'.get? b=some o'
 tups:∀b xs,H b=some (.tup xs)->H' b=some (.tup xs)
 frzs:∀b o u,H b=some (.frz o u)->H' b=some (.frz o u)
 tbls:∀b ps,H b=some (.tbl ps)->∃more,H' b=some (.tbl (ps++more))
section
variable {fs fs' ex ex':List Addr}{H H1 H2:Hp}{h h1 h2 h':Heap}{a x e:Addr}{o:HO}
theorem Un.any(u:Un fs ex H H1 h h1){b:Addr}{ob:Obj}(q:h.get? b=some ob)(n:H b=none)(hx:b∉ex):∃sl,h1.get? b=some { ob with slots:=sl }:=by
 by_cases hb:b∈fs
 ·exact u.slot b ob q n hb hx
 ·exact⟨ob.slots,u.keep b ob q n hb hx⟩
theorem Un.kept(k:∀b u,h.get? b=some u->h'.get? b=some u):Un fs ex H H h h' :=
 ⟨λb ob q _ _ _=>k b ob q,λb ob q _ _ _=>⟨ob.slots,k b ob q⟩,λ_ _ _ n _=>n,λb ob q _=>⟨ob,k b ob q⟩,λ_ _ q=>q,λ_ _ _ q=>q,λ_ ps q=>⟨#[],by rw [q];simp⟩⟩
theorem Un.refl:Un fs ex H H h h:=Un.kept λ_ _ q=>q
theorem Un.laid(k:∀b u,h.get? b=some u->h'.get? b=some u)(hp:h.objs.size<=a)(hn:H a=none):Un fs ex H (upd H a o) h h' where
 keep:=λb u q _ _ _=>k b u q
 slot:=λb u q _ _ _=>⟨u.slots,k b u q⟩
 free:=λb u q n _=>by rw [A7 (Yai (Yar (Yae q) hp))];exact n
 there:=λb u q _=>⟨u,k b u q⟩
 tups:=λb xs q=>by rw [A7 (Bv q hn)];exact q
 frzs:=λb u xs q=>by rw [A7 (Bv q hn)];exact q
 tbls:=λb ps q=>⟨#[],by rw [A7 (Bv q hn),q];simp⟩
theorem Un.write(mu:Mut (H x))(he:e=x\/H e=some (.own x))(k:∀b u,b≠e->h.get? b=some u->h'.get? b=some u)(mh:∃u,h'.get? e=some u):Un fs ex H (upd H x o) h h':=by
 have hx:∀b,H b=none->b≠x:=λb n z=>by subst z;rw [n]at mu;exact mu
 have hb:∀b,H b=none->b≠e:=λb n z=>by
  subst z
  rcases he with r | r
  ·exact hx b n r
  ·rw [n]at r;cases r
 have hm:∀b u,H b=some u->¬Mut (some u)->b≠x:=λb u q nm z=>by subst z;rw [q]at mu;exact nm mu
 refine⟨λb u q n _ _=>k b u (hb b n) q,λb u q n _ _=>⟨u.slots,k b u (hb b n) q⟩,λb u q n _=>by rw [A7 (hx b n)];exact n,λb u q _=>?_,
  λb xs q=>by rw [A7 (hm b _ q λz=>z)];exact q,λb u xs q=>by rw [A7 (hm b _ q λz=>z)];exact q,λb ps q=>⟨#[],by rw [A7 (hm b _ q λz=>z),q];simp⟩⟩
 by_cases hbe:b=e
 ·subst hbe;exact mh
 ·exact⟨u,k b u hbe q⟩
end
def trk(h:Heap)(H:Hp):List Addr:=(List.range h.objs.size).filter λa=>(H a).isSome
def Kk(h:Heap)(H:Hp):Heap:=PySem.W.hideAll h (trk h H)
theorem Q9(h:Heap)(H:Hp):(Kk h H).objs.size=h.objs.size:=PySem.W.hideAll_size _ _
theorem Sn{h:Heap}{H:Hp}{b:Addr}{o:Obj}(e:h.get? b=some o)(n:H b=none):(Kk h H).get? b=some o :=
 PySem.W.hideAll_get _ e λhm=>by
  have q:(H b).isSome=true:=(Ycd.mp hm).2
  rw [n]at q;simp at q
theorem V3{h:Heap}{H:Hp}{b:Addr}{o:Obj}(e:(Kk h H).get? b=some o):h.get? b=some o/\H b=none:=by
 have e':h.get? b=some o:=PySem.W.of_hideAll (trk h H) e
 refine⟨e',?_⟩
 cases q:H b with
 | none=>rfl
 | some x =>
  have hm:b∈trk h H:=Ycd.mpr ⟨Ya3.mpr (Yae e'),by simp [q]⟩
  have z:(Kk h H).get? b=none:=PySem.W.hideAll_none (trk h H) hm
  rw [z]at e;cases e
def V4(g h:Heap)(L:Addr):List (Addr×Obj):=(List.range h.objs.size).filterMap λa=>if a=L\/(g.get? a).isSome=true then none else(h.get? a).map λo=>(a,o)
def rest(g h:Heap)(L d:Addr):List (Addr×Obj):=(V4 g h L).filter λp=>decide (p.1≠d)
structure Mod(K:PySem.W.Frag)(mg:Str->Option Value)(base:Heap):Prop where
 kin:K.In base
 glob:base.Ns mainGlobals mg
 blt:∃mb,base.Ns builtinsNs mb/\∀x:Str,x ≠ "__name__" -> mb x=bootBuiltins x
 nolimit:base.NoLimit
structure Cx where
 prog:Program
 w:World
 K:PySem.W.Frag
 mg:Str->Option Value
 base:Heap
 A:Around
 N:List Str
 s₀:Shared
 H₀:Hp
 env:Env
 outer:List Env
 stack:List Env
 ex:List Addr
 fn:Str->Bool
 calm:Bool
 pn:List (Addr×Obj)
 xe:Value->Shared->Prop
def frs(l:List Env):List Addr:=l.filterMap (·.frame)
abbrev Cx.fs(X:Cx):List Addr:=frs X.outer
def Vis(sc:Scope)(x:Str):Prop:=sc.names.lookup x=some .local\/sc.names.lookup x=some .cell\/sc.names.lookup x=some .free
def Loc(sc:Scope)(x:Str):Prop:=sc.names.lookup x=some .local\/sc.names.lookup x=some .cell
def Look(env:Env)(h:Heap)(m:Str->Option Value)(x:Str)(u:Value):Prop :=
 (env.kindOf x=some .local/\m x=some u)\/((env.kindOf x=some .cell\/env.kindOf x=some .free)/\∃c,env.cells.lookup x=some c/\h.IsCell c (some u))
structure Cx.Ok(X:Cx):Prop where
 mod:Mod X.K X.mg X.base
 kind:X.env.scope.kind=.function
 glob:X.env.globals=mainGlobals
 blt:X.env.builtins=builtinsNs
 above:X.s₀.heap.objs.size<=X.env.locals
 inj:∀x y c,X.env.cells.lookup x=some c->X.env.cells.lookup y=some c->x=y
 has:∀x,(X.env.kindOf x=some .cell\/X.env.kindOf x=some .free)->∃c,X.env.cells.lookup x=some c
 cab:∀x c,X.fn x=true->X.env.cells.lookup x=some c->X.s₀.heap.objs.size<=c
 hd:X.calm=true->X.A.handled=none
 frames:X.A.frames=some X.stack
 stk:X.stack=X.outer\/(X.stack=X.env :: X.outer/\X.env.frame=some X.env.locals)
 exf:∀b∈X.ex,b≠X.env.locals/\∀x c,X.env.cells.lookup x=some c->c≠b
 bs:∀b o,X.base.get? b=some o->X.s₀.heap.get? b=some o/\X.H₀ b=none
 bsz:X.base.objs.size<=X.s₀.heap.objs.size
 noex:∀b o,X.base.get? b=some o->b∉X.ex
 exfs:∀b∈X.ex,b∉X.fs
 funs:X.s₀.heap.FunFrames X.base X.outer
 frf:∀b∈X.fs,X.H₀ b=none
structure Inv(X:Cx)(aa:List (Addr×Obj))(σ:List (Option V))(H:Hp)(s:Shared):Prop where
 ok:X.Ok
 os:s.os=X.s₀.os
 bare:AllBare s.gens
 base:Un X.fs X.ex X.H₀ H X.s₀.heap s.heap
 loc:∃m,s.heap.Ns X.env.locals m/\∀(i:Nat) (x:Str) (v:V),X.N[i]?=some x->σ[i]?=some (some v)->Vis X.env.scope x->∃u,A6 v u/\Look X.env s.heap m x u
 cell:∀x c,X.env.cells.lookup x=some c->∃v,s.heap.IsCell c v
 free:H X.env.locals=none
 freeC:∀x c,X.env.cells.lookup x=some c->H c=none
 pin:∀p∈X.pn++aa,s.heap.get? p.1=some p.2/\H p.1=none/\p.1≠X.env.locals/\p.1∉X.fs/\∀v,p.2.data≠.cell v
 hok:HOk X.prog X.w H s.heap
 len:σ.length=X.N.length
section
variable {X:Cx}{aa:List (Addr×Obj)}{σ:List (Option V)}{H H':Hp}{s:Shared}{h':Heap}
theorem Cx.Ok.nofr(ok:X.Ok){b:Addr}{o:Obj}(e:X.base.get? b=some o):b∉X.fs:=λhb=>by
 have:=(ok.funs.mem hb).1
 rw [e]at this;cases this
theorem Inv.bs(I:Inv X aa σ H s):∀b o,X.base.get? b=some o->s.heap.get? b=some o/\H b=none:=λb o e =>
 ⟨I.base.keep b o (I.ok.bs b o e).1 (I.ok.bs b o e).2 (I.ok.nofr e) (I.ok.noex b o e),I.base.free b o (I.ok.bs b o e).1 (I.ok.bs b o e).2 (I.ok.noex b o e)⟩
theorem Inv.bk(I:Inv X aa σ H s):∀b o,X.base.get? b=some o->s.heap.get? b=some o:=λb o e=>(I.bs b o e).1
theorem Inv.mod(I:Inv X aa σ H s):Mod X.K X.mg X.base:=I.ok.mod
theorem Inv.kIn(I:Inv X aa σ H s):X.K.In s.heap:=I.ok.mod.kin.keeps I.bk
theorem Inv.lt(I:Inv X aa σ H s):X.env.locals < s.heap.objs.size:=let⟨_,hn,_⟩:=I.loc;hn.lt
theorem Inv.sz(I:Inv X aa σ H s):X.s₀.heap.objs.size<=s.heap.objs.size:=Yak I.ok.above (Ybq I.lt)
theorem Inv.nofs(I:Inv X aa σ H s){a:Addr}(h:s.heap.objs.size<=a):a∉X.fs:=λhb=>by
 obtain⟨_,o,ho,_⟩:=I.ok.funs.mem hb
 exact absurd (Yar (Yae ho) (Yak I.sz h)) (Yb9 _)
theorem Inv.cne(I:Inv X aa σ H s):∀x c,X.env.cells.lookup x=some c->c≠X.env.locals:=λx c e z=>by
 obtain⟨v,o,ho,hd⟩:=I.cell x c e
 obtain⟨m,⟨o',es,ep,ho',gz,_⟩,_⟩:=I.loc
 rw [z,ho']at ho;cases ho;rw [gz]at hd;cases hd
theorem Inv.funs(I:Inv X aa σ H s):s.heap.FunFrames X.base X.outer:=by
 have all:∀(l:List Env),(∀b∈frs l,b∈X.fs)->X.s₀.heap.FunFrames X.base l->s.heap.FunFrames X.base l:=by
  intro l
  induction l with
  | nil=>intro _ _;trivial
  | cons env r ih =>
   intro hs hl
   obtain⟨hk,⟨L,o,hf,hn,ho,hd⟩,hr⟩:=hl
   have hL:L∈X.fs:=hs L (by unfold frs;rw [Ydg,hf];exact Yax)
   obtain⟨sl,e⟩:=I.base.slot L o ho (I.ok.frf L hL) hL λz=>I.ok.exfs L z hL
   exact⟨hk,⟨L,_,hf,hn,e,hd⟩,ih (λb hb=>hs b (by unfold frs;rw [Ydg,hf];exact Yav _ hb)) hr⟩
 exact all X.outer (λ_ hb=>hb) I.ok.funs
theorem Inv.stack(I:Inv X aa σ H s):s.heap.FunFrames X.base X.stack:=by
 rcases I.ok.stk with e | ⟨e,hf⟩
 ·rw [e];exact I.funs
 ·rw [e]
  obtain⟨m,hn,_⟩:=I.loc
  refine .cons (by rw [I.ok.kind];decide) hf hn ?_ I.funs
  exact Heap.get?_none_of_le (Yak I.ok.bsz I.ok.above)
theorem Inv.stkSub(I:Inv X aa σ H s):∀b∈frs X.stack,b∈X.env.locals :: X.fs:=λb hb=>by
 rcases I.ok.stk with e | ⟨e,hf⟩
 ·rw [e]at hb;exact Yav _ hb
 ·rw [e]at hb
  unfold frs at hb
  rw [Ydg,hf]at hb
  exact hb
theorem Inv.stkFree(I:Inv X aa σ H s):∀b∈frs X.stack,H b=none:=λb hb=>by
 rcases Yap.mp (I.stkSub b hb) with e | hb
 ·rw [e];exact I.free
 ·obtain⟨_,o,ho,_⟩:=I.ok.funs.mem hb
  exact I.base.free b o ho (I.ok.frf b hb) λz=>I.ok.exfs b z hb
theorem Inv.step{g':Array GenState}{t':Nat}{d':Drawn}{ch:List Addr}(I:Inv X aa σ H s)
  (d9:∀b∈ch,(b∈X.ex\/X.s₀.heap.objs.size<=b)/\b≠X.env.locals/\(∀x c,X.env.cells.lookup x=some c->c≠b)/\∀p∈X.pn++aa,p.1≠b)
  (keep:∀b o,b≠X.env.locals->b∉X.fs->b∉ch->s.heap.get? b=some o->H b=none->h'.get? b=some o)
  (slot:∀b o,b≠X.env.locals->b∈X.fs->b∉ch->s.heap.get? b=some o->H b=none->∃sl,h'.get? b=some { o with slots:=sl }) (free:∀b o,b∉ch->s.heap.get? b=some o->H b=none->H' b=none)
  (there:∀b o,b∉ch->s.heap.get? b=some o->∃o',h'.get? b=some o')
  (tups:∀b xs,H b=some (.tup xs)->H' b=some (.tup xs)) (frzs:∀b o u,H b=some (.frz o u)->H' b=some (.frz o u)) (tbls:∀b ps,H b=some (.tbl ps)->∃more,H' b=some (.tbl (ps++more)))
  (ns:∀m,s.heap.Ns X.env.locals m->h'.Ns X.env.locals m) (hok:HOk X.prog X.w H' h') (hg:AllBare g') :
  Inv X aa σ H' { s with heap:=h',gens:=g',drawn:=d',toks:=t' }:=by
 have za:∀b o,X.s₀.heap.get? b=some o->b≠X.env.locals:=λb o e=>Yai (Yar (Yae e) I.ok.above)
 have t4:∀b o,X.s₀.heap.get? b=some o->b∉X.ex->b∉ch:=λb o e hx hb=>by
  rcases(d9 b hb).1 with z | z
  ·exact hx z
  ·exact absurd (Yar (Yae e) z) (Yb9 _)
 have kh:∀x c,X.env.cells.lookup x=some c->∀v,s.heap.IsCell c v->h'.IsCell c v:=λx c e v ⟨o,ho,hd⟩=>by
  have r9:c∉ch:=λz=>(d9 c z).2.2.1 x c e rfl
  by_cases hc:c∈X.fs
  ·obtain⟨sl,q⟩:=slot c o (I.cne x c e) hc r9 ho (I.freeC x c e)
   exact⟨_,q,hd⟩
  ·exact⟨o,keep c o (I.cne x c e) hc r9 ho (I.freeC x c e),hd⟩
 refine⟨I.ok,I.os,hg,⟨λb o e n hb hx=>?_,λb o e n hb hx=>?_,λb o e n hx=>?_,λb o e hx=>?_,λb xs e=>tups b xs (I.base.tups b xs e),λb o xs e=>frzs b o xs (I.base.frzs b o xs e),λb ps e=>?_⟩,?_,λx c e=>?_,?_,λx c e=>?_,λp hp=>?_,hok,I.len⟩
 ·exact keep b o (za b o e) hb (t4 b o e hx) (I.base.keep b o e n hb hx) (I.base.free b o e n hx)
 ·obtain⟨sl,e1⟩:=I.base.slot b o e n hb hx
  obtain⟨sl',e2⟩:=slot b _ (za b o e) hb (t4 b o e hx) e1 (I.base.free b o e n hx)
  exact⟨sl',e2⟩
 ·obtain⟨o',e1⟩:=I.base.there b o e hx
  exact free b o' (t4 b o e hx) e1 (I.base.free b o e n hx)
 ·obtain⟨o',e1⟩:=I.base.there b o e hx
  exact there b o' (t4 b o e hx) e1
 ·obtain⟨m1,e1⟩:=I.base.tbls b ps e
  obtain⟨m2,e2⟩:=tbls b _ e1
  exact⟨m1++m2,by rw [e2,Yeg]⟩
 ·obtain⟨m,hn,hl⟩:=I.loc
  refine⟨m,ns m hn,λi x v e1 e2 e3=>?_⟩
  obtain⟨u,r,l⟩:=hl i x v e1 e2 e3
  refine⟨u,r,?_⟩
  rcases l with l | ⟨k,c,e,z⟩
  ·exact .inl l
  ·exact .inr ⟨k,c,e,kh x c e _ z⟩
 ·obtain⟨v,z⟩:=I.cell x c e
  exact⟨v,kh x c e v z⟩
 ·obtain⟨m,⟨o,_,_,ho,_⟩,_⟩:=I.loc
  exact free _ o (λz=>(d9 _ z).2.1 rfl) ho I.free
 ·obtain⟨v,o,ho,hd⟩:=I.cell x c e
  exact free c o (λz=>(d9 c z).2.2.1 x c e rfl) ho (I.freeC x c e)
 ·obtain⟨e,n,ne,nf,d⟩:=I.pin p hp
  have r9:p.1∉ch:=λz=>(d9 p.1 z).2.2.2 p hp rfl
  exact⟨keep p.1 p.2 ne nf r9 e n,free p.1 p.2 r9 e n,ne,nf,d⟩
theorem Inv.un{t':Nat}(I:Inv X aa σ H s)(u:Un X.fs [] H H' s.heap h')(hok:HOk X.prog X.w H' h'):Inv X aa σ H' { s with heap:=h',toks:=t' }:=by
 obtain⟨m,⟨o,es,ep,ho,r⟩,_⟩:=id I.loc
 obtain⟨sl,hL⟩:=u.any ho I.free (by simp)
 exact I.step (g':=s.gens) (d':=s.drawn) (ch:=[]) (λ_ z=>nomatch z) (λb o _ hb _ e n=>u.keep b o e n hb (by simp)) (λb o _ hb _ e n=>u.slot b o e n hb (by simp)) (λb o _ e n=>u.free b o e n (by simp)) (λb o _ e=>u.there b o e (by simp)) u.tups u.frzs u.tbls (λm' hm=>by
  obtain⟨o',cw,ep',ho',r'⟩:=hm
  rw [ho]at ho';cases ho'
  exact⟨_,cw,ep',hL,r'⟩) hok I.bare
theorem Inv.call{g':Array GenState}{t':Nat}{d':Drawn}{ch:List Addr}(I:Inv X aa σ H s)(u:Un (frs X.stack) ch H H' s.heap h')(hok:HOk X.prog X.w H' h')(hg:AllBare g')
  (d9:∀b∈ch,(b∈X.ex\/X.s₀.heap.objs.size<=b)/\b≠X.env.locals/\(∀x c,X.env.cells.lookup x=some c->c≠b)/\∀p∈X.pn++aa,p.1≠b) :
  Inv X aa σ H' { s with heap:=h',gens:=g',drawn:=d',toks:=t' }:=by
 obtain⟨m,⟨o,es,ep,ho,r⟩,_⟩:=id I.loc
 obtain⟨sl,hL⟩:=u.any ho I.free λz=>(d9 _ z).2.1 rfl
 exact I.step (ch:=ch) d9 (λb o hL hb hc e n=>u.keep b o e n (λz=>(Yap.mp (I.stkSub b z)).elim hL hb) hc) (λb o _ _ hc e n=>u.any e n hc) (λb o hc e n=>u.free b o e n hc) (λb o hc e=>u.there b o e hc) u.tups u.frzs u.tbls (λm' hm=>by
  obtain⟨o',cw,ep',ho',r'⟩:=hm
  rw [ho]at ho';cases ho'
  exact⟨_,cw,ep',hL,r'⟩) hok hg
theorem Inv.turned{t':Nat}{it:Addr}(I:Inv X aa σ H s)(k:∀b o,b≠it->s.heap.get? b=some o->h'.get? b=some o)(hn:H it=none)(hL:it≠X.env.locals)
  (h1:it∈X.ex\/X.s₀.heap.objs.size<=it) (h2:∀x c,X.env.cells.lookup x=some c->c≠it) (h3:∀p∈X.pn++aa,p.1≠it):Inv X aa σ H { s with heap:=h',toks:=t' }:=by
 have yn:∀b u,H b=some u->b≠it:=λb u e z=>by rw [z,hn]at e;cases e
 refine I.step (g':=s.gens) (d':=s.drawn) (ch:=[it]) (λb hb=>?_) (λb o _ _ hc e _=>k b o (λz=>hc (by simp [z])) e) (λb o _ _ hc e _=>⟨o.slots,k b o (λz=>hc (by simp [z])) e⟩) (λ_ _ _ _ n=>n)
  (λb o hc e=>⟨o,k b o (λz=>hc (by simp [z])) e⟩) (λ_ _ e=>e) (λ_ _ _ e=>e) (λb ps e=>⟨#[],by rw [e];simp⟩) (λm hm=>?_) (λb u e=>?_) I.bare
 ·have e:b=it:=by simpa using hb
  subst e
  exact⟨h1,hL,h2,h3⟩
 ·obtain⟨o,es,ep,ho,r⟩:=hm
  exact⟨o,es,ep,k _ o (Yc3 hL) ho,r⟩
 ·refine(I.hok b u e).stay (λc v hc q=>k c v ?_ q) (λ_ q=>q) λ_ _ q=>q
  rcases hc with z | z
  ·rw [z];exact yn b u e
  ·exact yn c _ z
theorem Inv.tok(I:Inv X aa σ H s)(t:Nat):Inv X aa σ H { s with toks:=t }:=I.un (h':=s.heap) (t':=t) Un.refl I.hok
theorem Inv.kept{t':Nat}(I:Inv X aa σ H s)(k:∀b u,s.heap.get? b=some u->h'.get? b=some u):Inv X aa σ H { s with heap:=h',toks:=t' }:=I.un (Un.kept k) (I.hok.kept k)
theorem Inv.laid{a:Addr}{o:HO}{t':Nat}(I:Inv X aa σ H s)(k:∀b u,s.heap.get? b=some u->h'.get? b=some u)(hp:s.heap.objs.size<=a)(new:Bl X.prog X.w (upd H a o) h' a o) :
  Inv X aa σ (upd H a o) { s with heap:=h',toks:=t' }:=I.un (Un.laid k hp (I.hok.fresh hp)) (I.hok.laid k hp new)
theorem Inv.write{x e:Addr}{o:HO}{t':Nat}(I:Inv X aa σ H s)(mu:Mut (H x))(he:e=x\/H e=some (.own x))(k:∀b u,b≠e->s.heap.get? b=some u->h'.get? b=some u)(mh:∃u,h'.get? e=some u)
  (new:Bl X.prog X.w (upd H x o) h' x o):Inv X aa σ (upd H x o) { s with heap:=h',toks:=t' }:=I.un (Un.write mu he k mh) (I.hok.write mu he k mh new)
theorem Inv.pins_of{kc:List (Addr×Obj)}(I:Inv X aa σ H s)(h:∀p∈kc,s.heap.get? p.1=some p.2/\H p.1=none/\p.1≠X.env.locals/\p.1∉X.fs/\∀v,p.2.data≠.cell v):Inv X kc σ H s :=
 ⟨I.ok,I.os,I.bare,I.base,I.loc,I.cell,I.free,I.freeC,λp hp=>(Yaq.mp hp).elim (λz=>I.pin p (Yci _ z)) (h p),I.hok,I.len⟩
theorem Lz{N:List Str}(hN:N.Nodup){i j:Nat}{x:Str}(a:N[i]?=some x)(b:N[j]?=some x):i=j:=by
 obtain⟨h1,e1⟩:=List.getElem?_eq_some_iff.mp a
 obtain⟨h2,e2⟩:=List.getElem?_eq_some_iff.mp b
 exact(List.getElem_inj hN).mp (e1.trans e2.symm)
theorem Gi{M:Model}{A:Around}{E:Value->Shared->Prop}{i:Nat}{x:Str}{v:V}{u:Value}{Q:Unit->Shared->Prop}(I:Inv X aa σ H s)(hN:X.N.Nodup)(hi:X.N[i]?=some x)(hx:Loc X.env.scope x)(r:A6 v u)
  (h:∀s',Inv X aa (σ.set i (some v)) H s'->(∃a,Heap.SameBut a s.heap s'.heap/\(a=X.env.locals\/X.env.cells.lookup x=some a))->Q () s') (hf:X.fn x=true\/X.env.scope.names.lookup x=some .local:=by first | exact .inl rfl | exact .inr rfl | assumption):wpAny M A (storeName X.env x u) Q E s:=by
 obtain⟨m,hn,hl⟩:=id I.loc
 have w5:(X.env.scope.kind==.class || (X.env.scope.kind==.module && X.env.locals != X.env.globals))=false:=by rw [I.ok.kind];rfl
 have hiσ:i < σ.length:=by rw [I.len];exact(List.getElem?_eq_some_iff.mp hi).1
 have cne:=I.cne
 have gr:∀{a:Addr} {h':Heap},(∃o,s.heap.get? a=some o/\H a=none)->Heap.SameBut a s.heap h'->HOk X.prog X.w H h':=λ{a h'} ha hs b ob e=>by
  obtain⟨_,_,hfree⟩:=ha
  refine(I.hok b ob e).stay (λc w' hc q=>(hs.2 c ?_).trans q) (λ_ q=>q) λ_ _ q=>q
  rintro rfl
  rcases hc with rfl | hc
  ·rw [hfree]at e;cases e
  ·rw [hfree]at hc;cases hc
 rcases hx with hk | hk
 ·refine wpAny_storeName_local hk hn (λh' ml hs=>?_) w5
  obtain⟨oL,_,_,hoL,_⟩:=id hn
  refine h _ ⟨I.ok,I.os,I.bare,⟨λb o e n hb hx=>?_,λb o e n hb hx=>?_,I.base.free,λb o e hx=>?_,I.base.tups,I.base.frzs,I.base.tbls⟩,⟨_,ml,λj y v' e1 e2 e3=>?_⟩,λy c e=>?_,I.free,I.freeC,λp hp=>?_,gr ⟨oL,hoL,I.free⟩ hs,by simpa using I.len⟩ ⟨_,hs,.inl rfl⟩
  ·exact(hs.2 b (Yai (Yar (Yae e) I.ok.above))).trans (I.base.keep b o e n hb hx)
  ·obtain⟨sl,e1⟩:=I.base.slot b o e n hb hx
   exact⟨sl,(hs.2 b (Yai (Yar (Yae e) I.ok.above))).trans e1⟩
  ·obtain⟨o',e1⟩:=I.base.there b o e hx
   exact⟨o',(hs.2 b (Yai (Yar (Yae e) I.ok.above))).trans e1⟩
  ·by_cases hj:j=i
   ·subst hj
    rw [hi]at e1;cases e1
    rw [List.getElem?_set_self hiσ]at e2
    cases e2
    exact⟨u,r,.inl ⟨hk,by simp⟩⟩
   ·rw [List.getElem?_set_ne (Yc3 hj)]at e2
    obtain⟨u',r',q⟩:=hl j y v' e1 e2 e3
    refine⟨u',r',?_⟩
    rcases q with⟨k,e⟩ | ⟨k,c,e,z⟩
    ·refine .inl ⟨k,?_⟩
     have:y≠x:=λe=>hj (Lz hN e1 (e ▸ hi))
     simp [this,e]
    ·exact .inr ⟨k,c,e,z.sameBut hs (cne y c e)⟩
  ·obtain⟨w',z⟩:=I.cell y c e
   exact⟨w',z.sameBut hs (cne y c e)⟩
  ·obtain⟨e,n,ne,nf,d⟩:=I.pin p hp
   exact⟨(hs.2 p.1 ne).trans e,n,ne,nf,d⟩
 ·have rc:X.fn x=true:=by
   rcases hf with z | z
   ·exact z
   ·rw [z]at hk;cases hk
  obtain⟨c,hc⟩:=I.ok.has x (.inl hk)
  obtain⟨w',z⟩:=I.cell x c hc
  refine wpAny_storeName_cell I.ok.kind hk hc z (λh' bo hs=>?_)
  obtain⟨oc,hoc,hocd⟩:=id z
  refine h { s with heap:=h' } ⟨I.ok,I.os,I.bare,⟨λb o e n hb hx=>?_,λb o e n hb hx=>?_,I.base.free,λb o e hx=>?_,I.base.tups,I.base.frzs,I.base.tbls⟩,⟨m,hn.sameBut hs (Yc3 (cne x c hc)),λj y v' e1 e2 e3=>?_⟩,λy c' e=>?_,I.free,I.freeC,λp hp=>?_,gr ⟨oc,hoc,I.freeC x c hc⟩ hs,by simpa using I.len⟩ ⟨c,hs,.inr hc⟩
  ·exact(hs.2 b (Yai (Yar (Yae e) (I.ok.cab x c rc hc)))).trans (I.base.keep b o e n hb hx)
  ·obtain⟨sl,e1⟩:=I.base.slot b o e n hb hx
   exact⟨sl,(hs.2 b (Yai (Yar (Yae e) (I.ok.cab x c rc hc)))).trans e1⟩
  ·obtain⟨o',e1⟩:=I.base.there b o e hx
   exact⟨o',(hs.2 b (Yai (Yar (Yae e) (I.ok.cab x c rc hc)))).trans e1⟩
  ·by_cases hj:j=i
   ·subst hj
    rw [hi]at e1;cases e1
    rw [List.getElem?_set_self hiσ]at e2
    cases e2
    exact⟨u,r,.inr ⟨.inl hk,c,hc,bo⟩⟩
   ·rw [List.getElem?_set_ne (Yc3 hj)]at e2
    obtain⟨u',r',q⟩:=hl j y v' e1 e2 e3
    refine⟨u',r',?_⟩
    rcases q with q | ⟨k,c',e,z'⟩
    ·exact .inl q
    ·refine .inr ⟨k,c',e,z'.sameBut hs ?_⟩
     rintro rfl
     exact hj (Lz hN e1 (I.ok.inj _ _ _ e hc ▸ hi))
  ·by_cases hcc:c'=c
   ·subst hcc;exact⟨_,bo⟩
   ·obtain⟨w2,z2⟩:=I.cell y c' e
    exact⟨w2,z2.sameBut hs hcc⟩
  ·obtain⟨e,n,ne,nf,d⟩:=I.pin p hp
   refine⟨(hs.2 p.1 ?_).trans e,n,ne,nf,d⟩
   intro q
   rw [q,hoc]at e
   have q':oc=p.2:=Ya6 e
   exact d w' (by rw [<- q'];exact hocd)
theorem L0{M:Model}{A:Around}{E:Value->Shared->Prop}{i:Nat}{x:Str}{v:V}{u:Value}{Q:Unit->Shared->Prop}(I:Inv X aa σ H s)(hN:X.N.Nodup)(hi:X.N[i]?=some x)(hx:Loc X.env.scope x)(r:A6 v u)
  (h:∀s',Inv X aa (σ.set i (some v)) H s'->Q () s') (hf:X.fn x=true\/X.env.scope.names.lookup x=some .local:=by first | exact .inl rfl | exact .inr rfl | assumption):wpAny M A (storeName X.env x u) Q E s :=
 Gi I hN hi hx r (λs' I' _=>h s' I') hf
theorem Inv.call'{s':Shared}{ch:List Addr}(I:Inv X aa σ H s)(ho:s'.os=s.os)(u:Un (frs X.stack) ch H H' s.heap s'.heap)(hok:HOk X.prog X.w H' s'.heap)(hg:AllBare s'.gens)
  (d9:∀b∈ch,(b∈X.ex\/X.s₀.heap.objs.size<=b)/\b≠X.env.locals/\(∀x c,X.env.cells.lookup x=some c->c≠b)/\∀p∈X.pn++aa,p.1≠b):Inv X aa σ H' s':=by
 obtain⟨h',g',d',t',o'⟩:=s'
 have e:o'=s.os:=ho
 subst e
 exact I.call (g':=g') (t':=t') (d':=d') u hok hg d9
end
abbrev XK:=Value->Option Addr->Hp->Prop
abbrev St:=List (Option V)
abbrev VK:=V->Hp->Prop
abbrev TE:=St->Hp->VK->Prop
abbrev TT:=St->Hp->(Bool->Hp->Prop)->Prop
abbrev TA:=St->Hp->(List V->Hp->Prop)->Prop
structure Ends where
 nx:St->Hp->Prop
 rt:VK
 bk:St->Hp->Prop:=λ_ _=>False
 ct:St->Hp->Prop:=λ_ _=>False
abbrev TS:=Ends->St->Hp->Prop
def EP(X:Cx)(aa:List (Addr×Obj))(σ:St)(Q:VK)(u:Value)(s':Shared):Prop:=∃v H',Inv X aa σ H' s'/\A6 v u/\Q v H'
def TP(X:Cx)(aa:List (Addr×Obj))(σ:St)(Q:Bool->Hp->Prop)(b:Bool)(s':Shared):Prop:=∃H',Inv X aa σ H' s'/\Q b H'
def AP(X:Cx)(aa:List (Addr×Obj))(σ:St)(Q:List V->Hp->Prop)(us:List Value)(s':Shared):Prop:=∃vs H',Inv X aa σ H' s'/\Vals vs us/\Q vs H'
def SP(X:Cx)(aa:List (Addr×Obj))(D:Ends)(f:Flow)(s':Shared):Prop :=
 match f with
 | .next=>∃ σ' H',Inv X aa σ' H' s'/\D.nx σ' H'
 | .brk=>∃ σ' H',Inv X aa σ' H' s'/\D.bk σ' H'
 | .cont=>∃ σ' H',Inv X aa σ' H' s'/\D.ct σ' H'
 | .ret u=>∃v σ' H',Inv X aa σ' H' s'/\A6 v u/\D.rt v H'
def PE(X:Cx)(e:Expr)(t:TE):Prop :=
 ∀(aa:List (Addr×Obj)) (s:Shared) (σ:St) (H:Hp) (Q:VK),Inv X aa σ H s->t σ H Q->wpAny (model X.prog X.w) X.A (eval e X.env) (EP X aa σ Q) X.xe s
def PT(X:Cx)(e:Expr)(t:TT):Prop :=
 ∀(aa:List (Addr×Obj)) (s:Shared) (σ:St) (H:Hp) (Q:Bool->Hp->Prop),Inv X aa σ H s->t σ H Q->wpAny (model X.prog X.w) X.A (isTrue e X.env (eval e X.env)) (TP X aa σ Q) X.xe s
def PW(X:Cx)(e:Expr)(t:TT):Prop :=
 ∀(dr:Sem Value) (aa:List (Addr×Obj)) (s:Shared) (σ:St) (H:Hp) (Q:Bool->Hp->Prop),Inv X aa σ H s->t σ H Q->wpAny (model X.prog X.w) X.A (isTrue e X.env dr) (TP X aa σ Q) X.xe s
theorem PW.pt{X:Cx}{e:Expr}{t:TT}(h:PW X e t):PT X e t:=h _
def PA(X:Cx)(es:List Expr)(t:TA):Prop :=
 ∀(pos:Pos) (aa:List (Addr×Obj)) (s:Shared) (σ:St) (H:Hp) (Q:List V->Hp->Prop),Inv X aa σ H s->t σ H Q->wpAny (model X.prog X.w) X.A (spliced (backTo pos (starEach es X.env))) (AP X aa σ Q) X.xe s
def PS(X:Cx)(st:Stmt)(t:TS):Prop :=
 ∀(aa:List (Addr×Obj)) (s:Shared) (σ:St) (H:Hp) (D:Ends),Inv X aa σ H s->t D σ H->wpAny (model X.prog X.w) X.A (exec st X.env) (SP X aa D) X.xe s
def PSs(X:Cx)(st:List Stmt)(t:TS):Prop :=
 ∀(aa:List (Addr×Obj)) (s:Shared) (σ:St) (H:Hp) (D:Ends),Inv X aa σ H s->t D σ H->wpAny (model X.prog X.w) X.A (execs st X.env) (SP X aa D) X.xe s
theorem thn{α:Type}{t:Sem α}{Q Q':α->Shared->Prop}{M:Model}{A:Around}{E:Value->Shared->Prop}{s:Shared}(h:wpAny M A t Q E s)(hQ:∀a s,Q a s->Q' a s):wpAny M A t Q' E s:=Yb1 h hQ λ_ _ x=>x
section
variable {X:Cx}
def Qdk(i:Nat):TE:=fun σ H Q=>∃v,σ[i]?=some (some v)/\Q v H
def tC(v:V):TE:=λ_ H Q=>Q v H
theorem Qaa{i:Nat}{x:Str}{pos:Pos}(hN:X.N[i]?=some x)(hv:Vis X.env.scope x)(hd:(x==("__debug__" : Str))=false:=by decide) (ip:(x==("__classdict__" : Str))=false:=by decide):PE X (.Name x pos) (Qdk i):=by
 intro aa s σ H Q I h
 obtain⟨v,e,h⟩:=h
 obtain⟨m,hn,hl⟩:=I.loc
 obtain⟨u,r,l⟩:=hl i x v hN e hv
 have fin:EP X aa σ Q u s:=⟨v,H,I,r,h⟩
 rcases l with⟨hk,hm⟩ | ⟨hk,c,hc,hcell⟩
 ·exact wpAny_Name (wpAny_loadName_local I.ok.kind hk hn hm fin) hd
 ·rcases hk with hk | hk
  ·exact wpAny_Name (wpAny_loadName_cell I.ok.kind hk hc hcell fin) hd
  ·exact wpAny_Name (wpAny_loadName_free I.ok.kind hk hc hcell fin ip) hd
theorem Qab{i j pos}:PE X (.Constant (.int i) j pos) (tC (.int i)):=λ_ _ _ H _ I h=>wpAny_Constant_int ⟨.int i,H,I.tok _,⟨_,rfl⟩,h⟩
theorem Qdl{b j pos}:PE X (.Constant (.bool b) j pos) (tC (.bl b)):=λ_ _ _ H _ I h=>Constant_bool ⟨.bl b,H,I,rfl,h⟩
theorem So{x j pos}:PE X (.Constant (.str x) j pos) (tC (.str x)):=λ_ _ _ H _ I h=>Calls.Constant_str ⟨.str x,H,I.tok _,⟨_,rfl⟩,h⟩
def Gl(X:Cx)(x:Str):Prop:=X.env.kindOf x=some .globalImplicit
theorem V5{E:Value->Shared->Prop}{aa:List (Addr×Obj)}{s:Shared}{σ:St}{H:Hp}{x:Str}{u:Value}{pos:Pos}{Q:Value->Shared->Prop}(I:Inv X aa σ H s)(hg:Gl X x)(hm:X.mg x=some u)(h:Q u s)
  (hd:(x==("__debug__" : Str))=false:=by decide):wpAny (model X.prog X.w) X.A (eval (.Name x pos) X.env) Q E s :=
 Calls.Name_function_global I.ok.kind hg (Calls.loadGlobal_global (by rw [I.ok.glob];exact I.mod.glob.keeps I.bk) hm h) hd
theorem Da{E:Value->Shared->Prop}{aa:List (Addr×Obj)}{s:Shared}{σ:St}{H:Hp}{x:Str}{u:Value}{pos:Pos}{Q:Value->Shared->Prop}(I:Inv X aa σ H s)(hg:Gl X x)(hm:X.mg x=none)(hv:bootBuiltins x=some u)(h:Q u s)
  (hn:x ≠ "__name__" := by decide) (hd:(x==("__debug__" : Str))=false:=by decide):wpAny (model X.prog X.w) X.A (eval (.Name x pos) X.env) Q E s:=by
 obtain⟨mb,h1,h2⟩:=I.mod.blt
 exact Calls.Name_function_global I.ok.kind hg (Calls.loadGlobal_builtin (by rw [I.ok.glob];exact I.mod.glob.keeps I.bk) hm (by rw [I.ok.blt];exact h1.keeps I.bk) ((h2 x hn).trans hv) h) hd
variable {a b:Expr}{ta tb:TE}{pos:Pos}
def PC(X:Cx)(op:CmpOp)(a b:Expr)(t:TE):Prop :=
 ∀(aa:List (Addr×Obj)) (s:Shared) (σ:St) (H:Hp) (Q:VK),Inv X aa σ H s->t σ H Q ->
  wpAny (model X.prog X.w) X.A (eval a X.env) (λv s₁=>wpAny (model X.prog X.w) X.A (eval b X.env) (λu s₂=>wpAny (model X.prog X.w) X.A (compareOp op v u) (EP X aa σ Q) X.xe s₂) X.xe s₁) X.xe s
def tB(t:TE):TT:=fun σ H Q=>t σ H λx H1=>∃c,x=.bl c/\Q c H1
theorem Qac{op:CmpOp}{t:TE}(h:PC X op a b t)(h1:behindInMarks op b=false:=by first | exact nobehind _ (by decide) (by decide) | rfl):PT X (.Compare a [op] [b] pos) (tB t):=by
 intro aa s σ H Q I hw
 refine wpAny_isTrue_Compare1 (thn (h aa s σ H _ I hw) λv s1 h1=>thn h1 λu s2 h2=>thn h2 λc s3 qu=>Cg qu λx H1 I1 r1 q1=>?_) h1
 obtain⟨d,rfl,q⟩:=q1
 cases r1
 exact Yeu ⟨H1,I1,q⟩
theorem Qad{e:Expr}{t:TE}(h:PE X e t)(he:∀dr,isTrue e X.env dr=(do let v <- dr;standAt e.pos;holding [v] (truthy v)):=by intro _;rfl):PT X e (tB t):=by
 intro aa s σ H Q I hw
 refine isTrue_plain (thn (h aa s σ H _ I hw) λv s1 nw=>Cg nw λx H1 I1 r1 q1=>?_) (he _)
 obtain⟨d,rfl,q⟩:=q1
 cases r1
 exact Yeu ⟨H1,I1,q⟩
variable {tA mx:TT}{rest:List Expr}
def Qg0(t u:TT):TT:=fun σ H Q=>t σ H λc H1=>if c=true then u σ H1 Q else Q false H1
def Qg1(t:TT):TT:=fun σ H Q=>t σ H λc H1=>Q (!c) H1
theorem V6(ha:PT X a tA):PW X (.BoolOp .And [a] pos) tA:=by
 intro wh aa s σ H Q I h
 refine isTrue_and (thn (ha aa s σ H Q I h) λc s1 e=>?_)
 cases c with
 | true=>exact isTrue_and_nil e
 | false=>exact e
theorem Qae(ha:PT X a tA)(hb:PW X (.BoolOp .And (b :: rest) pos) mx):PW X (.BoolOp .And (a :: b :: rest) pos) (Qg0 tA mx):=by
 intro wh aa s σ H Q I h
 refine isTrue_and (thn (ha aa s σ H _ I h) λc s1 ⟨H1,I1,q1⟩=>?_)
 cases c with
 | true=>exact hb wh aa s1 σ H1 Q I1 q1
 | false=>exact⟨H1,I1,q1⟩
theorem Qaf(ha:PT X a tA):PT X (.UnaryOp .Not a pos) (Qg1 tA):=by
 intro aa s σ H Q I h
 exact isTrue_not (ha aa s σ H (λc H1=>Q (!c) H1) I h)
def tIf(t:TT)(ta tb:TE):TE:=fun σ H Q=>t σ H λc H1=>if c=true then ta σ H1 Q else tb σ H1 Q
theorem Sq{c:Expr}(hc:PT X c tA)(ha:PE X a ta)(hb:PE X b tb):PE X (.IfExp c a b pos) (tIf tA ta tb):=by
 intro aa s σ H Q I h
 refine wpAny_IfExp (thn (hc aa s σ H _ I h) λd s1 ⟨H1,I1,q1⟩=>?_)
 cases d with
 | true=>exact ha aa s1 σ H1 Q I1 q1
 | false=>exact hb aa s1 σ H1 Q I1 q1
end
def E5(K:PySem.W.Frag)(H:Hp)(a:Addr)(xs:List V):Prop :=
 Rd H a (.lst xs) \/
  ∃(o:Obj) (ae:Array Value) (n:Nat),K.lookup a=some o/\o.cls=.type "list" /\ o.dict=none/\o.data=.seq ae n/\ae.size<=sizeLine/\Vals xs ae.toList
def Kl(K:PySem.W.Frag)(H:Hp)(a:Addr)(xs:List V):Prop :=
 Rd H a (.tup xs) \/
  ∃(o:Obj) (ae:Array Value) (n:Nat),K.lookup a=some o/\o.cls=.type "tuple" /\ o.data=.seq ae n/\ae.size<=sizeLine/\Vals xs ae.toList
def Qg2:Value->Option V
 | .none=>some .non
 | .bool b=>some (.bl b)
 | .int i _=>some (.int i)
 | .str x _=>some (.str x)
 | .bytes b _=>some (.byt b)
 | .float b _=>some (.flt b)
 | .ref a=>some (.ref a)
 | .type n=>some (.ty n)
 | _=>none
theorem A6.abs{x:V}{u:Value}(r:A6 x u):Qg2 u=some x:=by
 cases x with
 | non=>cases r;rfl
 | bl _=>cases r;rfl
 | int _=>obtain⟨t,rfl⟩:=r;rfl
 | str _=>obtain⟨t,rfl⟩:=r;rfl
 | byt _=>obtain⟨t,rfl⟩:=r;rfl
 | flt _=>obtain⟨t,rfl⟩:=r;rfl
 | ref _=>cases r;rfl
 | ty _=>cases r;rfl
theorem A6.inj{x y:V}{u:Value}(r:A6 x u)(q:A6 y u):x=y:=Ya6 (r.abs.symm.trans q.abs)
theorem Vals.inj:∀{xs ys:List V} {us:List Value},Vals xs us->Vals ys us->xs=ys
 | _,_,_,.nil,.nil=>rfl
 | _,_,_,.cons r t,.cons r' t'=>by rw [r.inj r',Vals.inj t t']
section
variable {X:Cx}{aa:List (Addr×Obj)}{σ:St}{H:Hp}{s:Shared}{a:Addr}{xs ys:List V}
theorem E5.of{K:PySem.W.Frag}(h:H a=some (.lst xs)):E5 K H a xs:=.inl (.inl h)
theorem Kl.of{K:PySem.W.Frag}(h:H a=some (.tup xs)):Kl K H a xs:=.inl (.inl h)
theorem Inv.list(I:Inv X aa σ H s)(h:E5 X.K H a xs):∃ae:List Value,Vals xs ae/\PlainL s.heap a ae.toArray/\xs.length<=sizeLine:=by
 rcases h with h | ⟨o,ae,n,hk,hc,hd,hs,hz,r⟩
 ·obtain⟨z,ae,n,r,e⟩:=h.ok I.hok
  exact⟨ae,r,⟨_,n,e,rfl,rfl,rfl⟩,z⟩
 ·refine⟨ae.toList,r,⟨o,n,I.kIn a o hk,hc,hd,by simpa using hs⟩,?_⟩
  have e:=r.length
  simp only [Array.length_toList]at e
  omega
theorem Inv.tuple(I:Inv X aa σ H s)(h:Kl X.K H a xs):∃ae:List Value,Vals xs ae/\IsTup s.heap a ae.toArray/\xs.length<=sizeLine:=by
 rcases h with h | ⟨o,ae,n,hk,hc,hs,hz,r⟩
 ·obtain⟨z,ae,r,p⟩:=h.ok I.hok
  exact⟨ae,r,p,z⟩
 ·refine⟨ae.toList,r,⟨o,I.kIn a o hk,hc,n,by simpa using hs⟩,?_⟩
  have e:=r.length
  simp only [Array.length_toList]at e
  omega
theorem Inv.list_inj(I:Inv X aa σ H s)(h:E5 X.K H a xs)(h':E5 X.K H a ys):xs=ys:=by
 obtain⟨ae,r,⟨o,n,e,_,_,d⟩,_⟩:=I.list h
 obtain⟨its',r',⟨o',n',e',_,_,d'⟩,_⟩:=I.list h'
 rw [e]at e';cases e'
 rw [d]at d'
 injection d' with d1 _
 have:ae=its':=by simpa using Ycg Array.toList d1
 subst this
 exact r.inj r'
theorem Inv.tuple_inj(I:Inv X aa σ H s)(h:Kl X.K H a xs)(h':Kl X.K H a ys):xs=ys:=by
 obtain⟨ae,r,⟨o,e,_,n,d⟩,_⟩:=I.tuple h
 obtain⟨its',r',⟨o',e',_,n',d'⟩,_⟩:=I.tuple h'
 rw [e]at e';cases e'
 rw [d]at d'
 injection d' with d1 _
 have:ae=its':=by simpa using Ycg Array.toList d1
 subst this
 exact r.inj r'
end
abbrev Cx.wish(X:Cx)(E:Value->Shared->Prop):Cx:={ X with xe:=E }
abbrev Cx.nox(X:Cx):Cx:=X.wish λ_ _=>False
theorem Cx.Ok.wish{X:Cx}(ok:X.Ok)(E:Value->Shared->Prop):(X.wish E).Ok :=
 ⟨ok.mod,ok.kind,ok.glob,ok.blt,ok.above,ok.inj,ok.has,ok.cab,ok.hd,ok.frames,ok.stk,ok.exf,ok.bs,ok.bsz,ok.noex,ok.exfs,ok.funs,ok.frf⟩
theorem Cx.Ok.unwish{X:Cx}{E:Value->Shared->Prop}(ok:(X.wish E).Ok):X.Ok :=
 ⟨ok.mod,ok.kind,ok.glob,ok.blt,ok.above,ok.inj,ok.has,ok.cab,ok.hd,ok.frames,ok.stk,ok.exf,ok.bs,ok.bsz,ok.noex,ok.exfs,ok.funs,ok.frf⟩
section
variable {X:Cx}{aa:List (Addr×Obj)}{σ:St}{H:Hp}{s:Shared}{E:Value->Shared->Prop}
theorem Inv.wish(I:Inv X aa σ H s)(E:Value->Shared->Prop):Inv (X.wish E) aa σ H s:=⟨I.ok.wish E,I.os,I.bare,I.base,I.loc,I.cell,I.free,I.freeC,I.pin,I.hok,I.len⟩
theorem Inv.unwish(I:Inv (X.wish E) aa σ H s):Inv X aa σ H s:=⟨I.ok.unwish,I.os,I.bare,I.base,I.loc,I.cell,I.free,I.freeC,I.pin,I.hok,I.len⟩
theorem SP.unwish{D:Ends}{f:Flow}{s':Shared}(h:SP (X.wish E) aa D f s'):SP X aa D f s':=by
 cases f with
 | next=>obtain⟨σ',H',I,q⟩:=h;exact⟨σ',H',I.unwish,q⟩
 | brk=>obtain⟨σ',H',I,q⟩:=h;exact⟨σ',H',I.unwish,q⟩
 | cont=>obtain⟨σ',H',I,q⟩:=h;exact⟨σ',H',I.unwish,q⟩
 | ret u=>obtain⟨v,σ',H',I,r,q⟩:=h;exact⟨v,σ',H',I.unwish,r,q⟩
theorem PSs.nox{st:List Stmt}{t:TS}(h:PSs X.nox st t):PSs X st t:=λaa s σ H D I hw =>
 Yb1 (h aa s σ H D (I.wish _) hw) (λ_ _ q=>q.unwish) λ_ _ z=>False.elim z
end
section
variable {X:Cx}{st:Stmt}{rest:List Stmt}{t u:TS}{e:Expr}{te:TE}{pos:Pos}
def Qdm:TS:=λD σ H=>D.nx σ H
def Qg3(t u:TS):TS:=λD σ H=>t { D with nx:=u D } σ H
theorem V7:PSs X [] Qdm:=λ_ _ σ H _ I h=>Yff ⟨σ,H,I,h⟩
theorem Sr(h1:PS X st t)(h2:PSs X rest u):PSs X (st :: rest) (Qg3 t u):=by
 intro aa s σ H D I h
 refine wpAny_execs_cons (thn (h1 aa s σ H { D with nx:=u D } I h) λf s1 q=>?_)
 cases f with
 | next =>
  obtain⟨σ',H',I',q⟩:=q
  exact h2 aa s1 σ' H' D I' q
 | ret v=>exact q
 | brk=>exact q
 | cont=>exact q
theorem V8(h1:PS X st t):PSs X [st] t:=by
 intro aa s σ H D I h
 refine wpAny_execs_cons (thn (h1 aa s σ H D I h) λf s1 q=>?_)
 cases f with
 | next=>exact Yff q
 | ret v=>exact q
 | brk=>exact q
 | cont=>exact q
theorem Inv.quiet{aa:List (Addr×Obj)}{σ:St}{H:Hp}{s:Shared}(I:Inv X aa σ H s):interactive X.env=false:=by simp [interactive,I.ok.kind]
def Qdn(te:TE):TS:=λD σ H=>te σ H λ_ H1=>D.nx σ H1
theorem V9(he:PE X e te)(hs:swapsWith e none pos.line X.env=pure false:=by rfl):PS X (.Expr e pos) (Qdn te):=by
 intro aa s σ H D I h
 exact wpAny_Expr_any (thn (he aa s σ H _ I h) λv s1 m5=>Cg m5 λx H1 I1 r1 q1=>⟨σ,H1,I1,q1⟩) I.quiet hs
def Qg4(te:TE):TS:=λD σ H=>te σ H D.rt
theorem Qag(he:PE X e te):PS X (.Return (some e) pos) (Qg4 te):=by
 intro aa s σ H D I h
 exact wpAny_Return_some (thn (he aa s σ H _ I h) λv s1 r6=>Cg r6 λx H1 I1 r1 q1=>⟨x,σ,H1,I1,r1,q1⟩)
def Qg5(c:TT)(t u:TS):TS:=λD σ H=>c σ H λb H1=>if b=true then t D σ H1 else u D σ H1
theorem Qdo{c:Expr}{a b:List Stmt}{tc:TT}(hc:PT X c tc)(ha:PSs X a t)(hb:PSs X b u):PS X (.If c a b pos) (Qg5 tc t u):=by
 intro aa s σ H D I h
 refine wpAny_If (thn (hc aa s σ H _ I h) λd s1 ⟨H1,I1,q1⟩=>?_)
 cases d with
 | true=>exact ha aa s1 σ H1 D I1 q1
 | false=>exact hb aa s1 σ H1 D I1 q1
end
abbrev TG:=V->St->Hp->(St->Hp->Prop)->Prop
abbrev TGs:=List V->St->Hp->(St->Hp->Prop)->Prop
def PG(X:Cx)(c8:Expr)(t:TG):Prop :=
 ∀(aa:List (Addr×Obj)) (s:Shared) (σ:St) (H:Hp) (v:V) (u:Value) (Q:St->Hp->Prop),Inv X aa σ H s->A6 v u->t v σ H Q ->
  wpAny (model X.prog X.w) X.A (assign c8 X.env u) (λ_ s'=>∃ σ' H',Inv X aa σ' H' s'/\Q σ' H') X.xe s
def PGs(X:Cx)(ts:List Expr)(t:TGs):Prop :=
 ∀(aa:List (Addr×Obj)) (s:Shared) (σ:St) (H:Hp) (vs:List V) (us:List Value) (Q:St->Hp->Prop),Inv X aa σ H s->Vals vs us->t vs σ H Q ->
  wpAny (model X.prog X.w) X.A (assignInOrder ((assignEach ts X.env).map (·.2)) us) (λ_ s'=>∃ σ' H',Inv X aa σ' H' s'/\Q σ' H') X.xe s
section
variable {X:Cx}{pos:Pos}
def O7(i:Nat):TG:=λv σ H Q=>Q (σ.set i (some v)) H
theorem Wa{i:Nat}{x:Str}(hN:X.N.Nodup)(hi:X.N[i]?=some x)(hx:Loc X.env.scope x)(hf:X.fn x=true\/X.env.scope.names.lookup x=some .local:=by first | exact .inl rfl | exact .inr rfl | assumption):PG X (.Name x pos) (O7 i):=by
 intro aa s σ H v u Q I r h
 exact wpAny_assign_Name (L0 I hN hi hx r (λs' I'=>⟨_,H,I',h⟩) hf)
def Qg6:TGs:=λvs σ H Q=>vs=[]/\Q σ H
def Qdp(t:TG)(u:TGs):TGs:=λvs σ H Q=>∃v r,vs=v :: r/\t v σ H fun σ' H'=>u r σ' H' Q
theorem Wb:PGs X [] Qg6:=by
 intro aa s σ H vs us Q I r h
 obtain⟨e,h⟩:=h
 subst e
 cases r
 exact assignInOrder_nil ⟨σ,H,I,h⟩
theorem Ss{e:Expr}{es:List Expr}{t:TG}{u:TGs}(h1:PG X e t)(h2:PGs X es u)
  (hs:(assignEach (e :: es) X.env).map (·.2)=assign e X.env :: (assignEach es X.env).map (·.2):=by rfl):PGs X (e :: es) (Qdp t u):=by
 intro aa s σ H vs us Q I r h
 obtain⟨v,vr,e1,h⟩:=h
 subst e1
 cases r with
 | cons r rr =>
  rw [hs]
  refine assignInOrder_cons (thn (h1 aa s σ H _ _ _ I r h) λ_ s1 rp=>?_)
  obtain⟨σ1,H1,I1,q1⟩:=rp
  exact h2 aa s1 σ1 H1 _ _ Q I1 rr q1
def Qg7(K:PySem.W.Frag)(n:Nat)(t:TGs):TG:=λv σ H Q=>∃a xs,v=.ref a/\Kl K H a xs/\xs.length=n/\t xs σ H Q
theorem Qah{es:List Expr}{k:Nat}{t:TGs}{n:Nat}(hc:X.calm=true)(h:PGs X es t)
  (hn:(assignEach es X.env).length=n:=by rfl) (be:(assignEach es X.env).findIdx? (·.1)=none:=by rfl):PG X (.Tuple es k pos) (Qg7 X.K n t):=by
 intro aa s σ H v u Q I r hw
 obtain⟨a,xs,e1,hq,hl,hw⟩:=hw
 subst e1
 cases r
 obtain⟨ae,rv,ht,hz⟩:=I.tuple hq
 refine assign_Tuple_tuple (I.ok.hd hc) ht (by simp [hn,<- hl,rv.length]) be λh' hx=>?_
 have I1:Inv X aa σ H { s with heap:=h' }:=I.kept (t':=s.toks) λb o e=>hx b o (Yai (Yae e)) e
 exact h aa _ σ H xs _ Q I1 (by simpa using rv) hw
def Su(te:TE)(g:TG):TS:=λD σ H=>te σ H λx H1=>g x σ H1 D.nx
theorem Qai{tg e:Expr}{te:TE}{g:TG}(he:PE X e te)(hg:PG X tg g)(hs:swapsWithSole [tg] e pos.line X.env=pure false:=by rfl)(hw:swappedStores [tg] e X.env=pure none:=by rfl)
  (h1:(assignEach [tg] X.env).map (·.2)=[assign tg X.env]:=by rfl):PS X (.Assign [tg] e pos) (Su te g):=by
 intro aa s σ H D I h
 refine wpAny_Assign_stores (thn (he aa s σ H _ I h) λv s1 m8=>Cg m8 λx H1 I1 r1 q1=>?_) hs hw
 rw [h1]
 exact thn (hg aa s1 σ H1 x v _ I1 r1 q1) λ_ s2 q=>q
theorem Qaj{i:Nat}{x:Str}{e:Expr}{te:TE}{bt:Pos}(hN:X.N.Nodup)(hi:X.N[i]?=some x)(hx:Loc X.env.scope x)(he:PE X e te)(hs:swapsWith e (some (.Name x bt)) pos.line X.env=pure false:=by rfl)(hf:X.fn x=true\/X.env.scope.names.lookup x=some .local:=by first | exact .inl rfl | exact .inr rfl | assumption) :
  PS X (.Assign [.Name x bt] e pos) (Su te (O7 i)):=by
 intro aa s σ H D I h
 refine wpAny_Assign_Name (thn (he aa s σ H _ I h) λv s1 po=>Cg po λy H1 I1 r1 q1=>?_) hs
 exact L0 I1 hN hi hx r1 (λs2 I2=>⟨_,H1,I2,q1⟩) hf
end
section
variable {X:Cx}{pos:Pos}
def Qak(c:TT)(tb:TS):TS:=λD σ H=>∃W:Nat->St->Hp->Prop,(∃m,W m σ H)/\∀m σ H,W m σ H ->
 c σ H λb H1=>if b=true then ∃N:St->Hp->Prop,(∀ σ' H',N σ' H'->∃m',m' < m/\W m' σ' H')/\tb { D with nx:=N,ct:=N,bk:=D.nx } σ H1 else D.nx σ H1
theorem Sv{c:Expr}{body:List Stmt}{tc:TT}{tb:TS}(hp:PassesOwn (model X.prog X.w) X.A X.env X.xe)(hc:PT X c tc)(hb:PSs X body tb):PS X (.While c body [] pos) (Qak tc tb):=by
 intro aa s σ H D I h
 obtain⟨W,⟨m0,w0⟩,turn⟩:=h
 refine wpAny_While (codeAny_whileLoop (λn s'=>∃ σ' H',Inv X aa σ' H' s'/\W n σ' H') ?_ m0 ⟨σ,H,I,w0⟩)
 rintro n s1 ⟨σ1,H1,I1,w1⟩
 refine Yc9 hp (thn (hc aa s1 σ1 H1 _ I1 (turn n σ1 H1 w1)) λb s2 ⟨H2,I2,q2⟩=>?_)
 cases b with
 | true =>
  obtain⟨N,hN,q2⟩:=q2
  rw [Yao rfl]
  refine Yc9 hp (thn (hb aa s2 σ1 H2 _ I2 q2) λf s3 q3=>?_)
  cases f with
  | next =>
   obtain⟨σ3,H3,I3,n3⟩:=q3
   obtain⟨m',hm,w3⟩:=hN σ3 H3 n3
   exact⟨m',hm,σ3,H3,I3,w3⟩
  | cont =>
   obtain⟨σ3,H3,I3,n3⟩:=q3
   obtain⟨m',hm,w3⟩:=hN σ3 H3 n3
   exact⟨m',hm,σ3,H3,I3,w3⟩
  | brk=>exact q3
  | ret v=>exact q3
 | false =>
  rw [Yaj Yag]
  exact Yff ⟨σ1,H2,I2,q2⟩
end
structure It where
 go:Nat->Hp->Prop
 yld:Nat->Hp->V->Hp->Prop
 stop:Nat->Hp->Prop
def Hl(X:Cx)(aa:List (Addr×Obj))(H:Hp)(b:Addr):Prop :=
 H b=none/\b≠X.env.locals/\b∉X.fs/\(b∈X.ex\/X.s₀.heap.objs.size<=b)/\(∀x c,X.env.cells.lookup x=some c->c≠b)/\∀p∈X.pn++aa,p.1≠b
theorem Inv.fpOk{X:Cx}{aa:List (Addr×Obj)}{σ:St}{H H':Hp}{s:Shared}{b:Addr}(I:Inv X aa σ H s)(hb:s.heap.objs.size<=b)(hn:H' b=none):Hl X aa H' b:=by
 refine⟨hn,Nat.ne_of_gt (Yar I.lt hb),I.nofs hb,.inr (Yak I.sz hb),λx c e z=>?_,λp hp z=>?_⟩
 ·obtain⟨v,q⟩:=I.cell x c e
  exact absurd (Yar q.lt (by rw [z];exact hb)) (Yb9 _)
 ·exact absurd (Yar (Yae (I.pin p hp).1) (by rw [z];exact hb)) (Yb9 _)
structure Turn(P:Program)(w:World)(K:PySem.W.Frag)(tg:Expr)(J:It)(fp:List Addr)(it:Addr)(tn:Nat->Heap->Prop):Prop where
 mem:it∈fp
 obj:∀i h,tn i h->∀b∈fp,∃o,h.get? b=some o/\∀v,o.data≠.cell v
 keep:∀i h h',tn i h->(∀b∈fp,∀o,h.get? b=some o->h'.get? b=some o)->tn i h'
 item:∀(X:Cx),X.prog=P->X.w=w->X.K=K->X.calm=true->∀(i:Nat) (aa:List (Addr×Obj)) (s:Shared) (σ:St) (H:Hp) (E:Value->Shared->Prop),Inv X aa σ H s->(∀b∈fp,Hl X aa H b)->tn i s.heap->J.go i H ->
  wpAny (model P w) X.A (pyNext (.ref it)) (λr s1=>∃u,r=some u /\
   wpAny (model P w) X.A (letOwnedTupleGo tg (.ref it) u) (λ_ s2=>∃x H',Inv X aa σ H' s2/\A6 x u/\J.yld i H x H'/\tn (i+1) s2.heap/\∀b∈fp,H' b=none) E s1) E s
 done:∀(X:Cx),X.prog=P->X.w=w->X.K=K->X.calm=true->∀(i:Nat) (aa:List (Addr×Obj)) (s:Shared) (σ:St) (H:Hp) (E:Value->Shared->Prop),Inv X aa σ H s->(∀b∈fp,Hl X aa H b)->tn i s.heap->J.stop i H ->
  wpAny (model P w) X.A (pyNext (.ref it)) (λr s1=>r=none/\Inv X aa σ H s1) E s
 self:∀(A:Around) (i:Nat) (s:Shared) (Q:Value->Shared->Prop) (E:Value->Shared->Prop),tn i s.heap->Q (.ref it) s->wpAny (model P w) A (pyIter (.ref it)) Q E s
abbrev TI:=St->Hp->(It->Hp->Prop)->Prop
def PIE(X:Cx)(aa:List (Addr×Obj))(σ:St)(tg:Expr)(R:It->Hp->Prop)(oe:Value)(s2:Shared):Prop :=
 ∃(it:Addr) (fp:List Addr) (tn:Nat->Heap->Prop) (J:It) (H':Hp),oe=.ref it/\Inv X aa σ H' s2/\Turn X.prog X.w X.K tg J fp it tn/\tn 0 s2.heap/\(∀b∈fp,Hl X aa H' b)/\R J H'
def PI(X:Cx)(tg iter:Expr)(wi:TI):Prop :=
 ∀(aa:List (Addr×Obj)) (s:Shared) (σ:St) (H:Hp) (R:It->Hp->Prop),Inv X aa σ H s->wi σ H R ->
  wpAny (model X.prog X.w) X.A (eval iter X.env) (λv s1=>wpAny (model X.prog X.w) X.A (pyIter v) (PIE X aa σ tg R) X.xe s1) X.xe s
theorem Sw{M:Model}{A:Around}{E:Value->Shared->Prop}{s:Shared}{tg:Expr}{it:Addr}{u:Value}{o:Obj}{n:String}{vs:Array Value}{Q:Unit->Shared->Prop}(ho:s.heap.get? it=some o)(hc:o.cls=.type n)(hd:o.data=.fields vs)
  (hn:["enumerate","zip","dict_itemiterator","dict_reverseitemiterator","odict_iterator","itertools.zip_longest","itertools.pairwise"].contains n=false) (hQ:Q () s):wpAny M A (letOwnedTupleGo tg (.ref it) u) Q E s:=by
 unfold letOwnedTupleGo
 cases tg <;> first
  | exact Yac hQ
  | (cases u <;> first
    | exact Yac hQ
    | (refine Yaa (wpAny_load ho ?_)
       rw [hc, hd]
       show wpAny M A (if (["enumerate", "zip", "dict_itemiterator", "dict_reverseitemiterator", "odict_iterator", "itertools.zip_longest", "itertools.pairwise"].contains n && vs[0]? == some (rawInt _)) = true then _ else _) Q E s
       rw [Yaj (by intro h; rw [hn, Bool.false_and] at h; cases h)]
       exact Yac hQ))
def Itl(K:PySem.W.Frag)(a:Addr):It :=
 ⟨λi H=>∃xs x,E5 K H a xs/\xs[i]?=some x,λi H x H'=>H'=H/\∀xs,E5 K H a xs->xs[i]?=some x,λi H=>∃xs,E5 K H a xs/\xs.length<=i⟩
def Itt(K:PySem.W.Frag)(a:Addr):It :=
 ⟨λi H=>∃xs x,Kl K H a xs/\xs[i]?=some x,λi H x H'=>H'=H/\∀xs,Kl K H a xs->xs[i]?=some x,λi H=>∃xs,Kl K H a xs/\xs.length<=i⟩
def Itr(lo:Int)(n:Nat):It:=⟨λi _=>i < n,λi H x H'=>H'=H/\x=.int (lo+i),λi _=>n<=i⟩
theorem Ra{P:Program}{w:World}{K:PySem.W.Frag}{tg:Expr}(a it:Addr):Turn P w K tg (Itl K a) [it] it (λi h=>h.IsListIter it a i) where
 mem:=by simp
 obj:=λi h st b hb=>by
  have e:b=it:=by simpa using hb
  subst e
  obtain⟨o,e,c,d⟩:=st
  exact⟨o,e,λv z=>by rw [d]at z;cases z⟩
 keep:=λi h h' st k=>st.at λo e=>k it (by simp) o e
 item:=by
  intro X hP hw hK hc i aa s σ H E I hf st hg
  subst hP hw hK
  obtain⟨xs,x,hq,hx⟩:=hg
  obtain⟨ae,rv,p,hz⟩:=I.list hq
  obtain⟨u,hu,ru⟩:=rv.get hx
  obtain⟨f0,f1,f2,f3,f4,f5⟩:=hf it (by simp)
  refine wpAny_pyNext_list_item st p.isList (x:=u) (by simpa using hu) λh' ag sb=>?_
  have I1:Inv X aa σ H { s with heap:=h' }:=I.turned (t':=s.toks) (λb o hb e=>(sb.2 b hb).trans e) f0 f1 f3 f4 f5
  obtain⟨o,e,c,d⟩:=id ag
  exact⟨u,rfl,Sw (s:={ s with heap:=h' }) e c d (by decide) ⟨x,H,I1,ru,⟨rfl,λys hy=>by rw [I.list_inj hy hq];exact hx⟩,ag,λb hb=>(hf b hb).1⟩⟩
 done:=by
  intro X hP hw hK hc i aa s σ H E I hf st hg
  subst hP hw hK
  obtain⟨xs,hq,hx⟩:=hg
  obtain⟨ae,rv,p,hz⟩:=I.list hq
  obtain⟨f0,f1,f2,f3,f4,f5⟩:=hf it (by simp)
  have hl:=rv.length
  exact wpAny_pyNext_list_end (I.ok.hd hc) st p.isList (by simp;omega) λh' eb=>⟨rfl,I.turned (t':=s.toks) (λb o hb e=>eb b o hb e) f0 f1 f3 f4 f5⟩
 self:=λ_ _ _ _ _ st h=>wpAny_pyIter_listiter st h
theorem Nl{P:Program}{w:World}{K:PySem.W.Frag}{tg:Expr}(a it:Addr):Turn P w K tg (Itt K a) [it] it (λi h=>h.IsTupleIter it a i) where
 mem:=by simp
 obj:=λi h st b hb=>by
  have e:b=it:=by simpa using hb
  subst e
  obtain⟨o,e,c,d⟩:=st
  exact⟨o,e,λv z=>by rw [d]at z;cases z⟩
 keep:=λi h h' st k=>st.at λo e=>k it (by simp) o e
 item:=by
  intro X hP hw hK hc i aa s σ H E I hf st hg
  subst hP hw hK
  obtain⟨xs,x,hq,hx⟩:=hg
  obtain⟨ae,rv,p,hz⟩:=I.tuple hq
  obtain⟨u,hu,ru⟩:=rv.get hx
  obtain⟨f0,f1,f2,f3,f4,f5⟩:=hf it (by simp)
  refine wpAny_pyNext_tuple_item st (show s.heap.IsTuple a ae.toArray from p) (x:=u) (by simpa using hu) λh' ag sb=>?_
  have I1:Inv X aa σ H { s with heap:=h' }:=I.turned (t':=s.toks) (λb o hb e=>(sb.2 b hb).trans e) f0 f1 f3 f4 f5
  obtain⟨o,e,c,d⟩:=id ag
  exact⟨u,rfl,Sw (s:={ s with heap:=h' }) e c d (by decide) ⟨x,H,I1,ru,⟨rfl,λys hy=>by rw [I.tuple_inj hy hq];exact hx⟩,ag,λb hb=>(hf b hb).1⟩⟩
 done:=by
  intro X hP hw hK hc i aa s σ H E I hf st hg
  subst hP hw hK
  obtain⟨xs,hq,hx⟩:=hg
  obtain⟨ae,rv,p,hz⟩:=I.tuple hq
  obtain⟨f0,f1,f2,f3,f4,f5⟩:=hf it (by simp)
  have hl:=rv.length
  exact wpAny_pyNext_tuple_end (I.ok.hd hc) st (show s.heap.IsTuple a ae.toArray from p) (by simp;omega) λh' eb=>⟨rfl,I.turned (t':=s.toks) (λb o hb e=>eb b o hb e) f0 f1 f3 f4 f5⟩
 self:=λ_ _ _ _ _ st h=>wpAny_pyIter_tupleiter st h
theorem Nm{P:Program}{w:World}{K:PySem.W.Frag}{tg:Expr}(it:Addr)(lo:Int)(n:Nat):Turn P w K tg (Itr lo n) [it] it (λi h=>IsRangeIter h it (lo+(i:Nat) * 1) ((n:Int) - (i:Nat)) 1) where
 mem:=by simp
 obj:=λi h st b hb=>by
  have e:b=it:=by simpa using hb
  subst e
  exact⟨_,st,λv z=>by
   have z':Data.fields _=Data.cell v:=z
   cases z'⟩
 keep:=λi h h' st k=>k it (by simp) _ st
 item:=by
  intro X hP hw hK hc i aa s σ H E I hf st hg
  subst hP hw hK
  obtain⟨f0,f1,f2,f3,f4,f5⟩:=hf it (by simp)
  have W:=Walks.range (prog:=X.prog) (w:=X.w) (I.ok.hd hc) it lo 1 n
  refine W.item i s _ _ hg st λv h' tk hv ag kk=>?_
  obtain⟨t,rfl⟩:=hv
  have I1:Inv X aa σ H { s with heap:=h',toks:=tk }:=I.turned (λb o hb e=>kk b o (by simpa using hb) e) f0 f1 f3 f4 f5
  refine⟨_,rfl,Sw (s:={ s with heap:=h',toks:=tk }) (n := "range_iterator") ag rfl rfl (by decide) ⟨.int (lo+i),H,I1,⟨t,?_⟩,⟨rfl,rfl⟩,ag,λb hb=>(hf b hb).1⟩⟩
  rw [Int.mul_one]
 done:=by
  intro X hP hw hK hc i aa s σ H E I hf st hg
  subst hP hw hK
  obtain⟨f0,f1,f2,f3,f4,f5⟩:=hf it (by simp)
  exact wpAny_pyNext_range_end (I.ok.hd hc) st (by have:n<=i:=hg;omega) λh' eb=>⟨rfl,I.turned (t':=s.toks) (λb o hb e=>eb b o hb e) f0 f1 f3 f4 f5⟩
 self:=λ_ _ _ _ _ st h=>wpAny_pyIter_rangeiter st h
section
variable {X:Cx}{tg:Expr}
theorem Sx{aa:List (Addr×Obj)}{σ:St}{H:Hp}{s:Shared}{R:It->Hp->Prop}{E:Value->Shared->Prop}{lo hi:Int}{t u v:Tok}{tk:Nat}(I:Inv X aa σ H s)(h1:-(2 ^ 62)<=lo)(h2:lo < 2 ^ 62)(h3:-(2 ^ 62)<=hi)(h4:hi < 2 ^ 62)
  (q:R (Itr lo (hi - lo).toNat) H):wpAny (model X.prog X.w) X.A (pyIter (.ref s.heap.objs.size)) (PIE X aa σ tg R) E { s with heap:=s.heap.push { cls:=.type "range",data:=.fields #[.int lo t,.int hi u,.int 1 v] },toks:=tk }:=by
 refine wpAny_pyIter_range (IsRange.new ..) (small_one h1 h2 h3 h4) ?_
 have I1:Inv X aa σ H { s with heap:=s.heap.push { cls:=.type "range",data:=.fields #[.int lo t,.int hi u,.int 1 v] },toks:=tk }:=I.kept λb o e=>Heap.get?_push_of_some _ e
 refine⟨(s.heap.push { cls:=.type "range",data:=.fields #[.int lo t,.int hi u,.int 1 v] }).objs.size,[(s.heap.push { cls:=.type "range",data:=.fields #[.int lo t,.int hi u,.int 1 v] }).objs.size],_,_,H,rfl,
  I1.kept (t':=tk) λb o e=>Heap.get?_push_of_some _ e,Nm _ lo (hi - lo).toNat,?_,λb hb=>?_,q⟩
 ·have e1:lo+((0:Nat):Int) * 1=lo:=by simp
  have e2:(((hi - lo).toNat:Nat):Int) - ((0:Nat):Int)=Builtin.Range.rangeSize lo hi 1:=by rw [rangeSize_one];split <;> omega
  show IsRangeIter _ _ (lo+((0:Nat):Int) * 1) ((((hi - lo).toNat:Nat):Int) - ((0:Nat):Int)) 1
  rw [e1,e2]
  exact Heap.get?_push_size _ rfl
 ·have e:b=(s.heap.push { cls:=.type "range",data:=.fields #[.int lo t,.int hi u,.int 1 v] }).objs.size:=by simpa using hb
  subst e
  exact I1.fpOk (Yad _) (I1.hok.fresh (Yad _))
def Qdq(ta:TA):TI:=fun σ H R=>ta σ H λvs H1=>∃j:Int,vs=[.int j]/\-(2 ^ 62)<=j/\j < 2 ^ 62/\R (Itr 0 j.toNat) H1
theorem Rb{a:Expr}{ta:TA}{p pos:Pos}(hg:Gl X "range") (hm:X.mg "range" = none) (ha:PA X [a] ta) (hs:starEach [a] X.env=[(false,eval a X.env)]:=by rfl):PI X tg (.Call (.Name "range" p) [a] [] pos) (Qdq ta):=by
 intro aa s σ H R I h
 refine Call_ (Da I hg hm boot_range (Ybv (thn (ha pos aa s σ H _ I h) λus s1 oq=>Cg oq λvs H1 I1 r1 q1=>?_) hs rfl))
 obtain⟨j,e,q1,q2,q⟩:=q1
 subst e
 cases r1 with
 | cons r rr =>
  cases rr
  obtain⟨t,rfl⟩:=r
  exact call_range_1 (Sx I1 (by omega) (by omega) q1 q2 (by simpa using q))
def Qg8(wi:TI)(g:TG)(tb:TS):TS:=λD σ H=>wi σ H λJ H1=>∃W:Nat->Nat->St->Hp->Prop,(∃m,W 0 m σ H1)/\∀i m σ H,W i m σ H ->
 (J.stop i H/\D.nx σ H)\/(J.go i H/\∃N:St->Hp->Prop,(∀ σ' H',N σ' H'->∃m',m' < m/\W (i+1) m' σ' H')/\∀x H',J.yld i H x H'->g x σ H' fun σ2 H2=>tb { D with nx:=N,ct:=N,bk:=D.nx } σ2 H2)
def Gj(fp:List Addr)(h:Heap):List (Addr×Obj):=fp.filterMap λb=>(h.get? b).map λo=>(b,o)
theorem Cm{fp:List Addr}{h:Heap}{b:Addr}{o:Obj}(hb:b∈fp)(e:h.get? b=some o):(b,o)∈Gj fp h:=List.mem_filterMap.mpr ⟨b,hb,by rw [e];rfl⟩
theorem Rc{fp:List Addr}{h:Heap}{p:Addr×Obj}(hp:p∈Gj fp h):p.1∈fp/\h.get? p.1=some p.2:=by
 obtain⟨b,hb,e⟩:=List.mem_filterMap.mp hp
 cases q:h.get? b with
 | none=>rw [q]at e;cases e
 | some o =>
  rw [q]at e
  have e':(b,o)=p:=Ya6 e
  subst e'
  exact⟨hb,q⟩
theorem Inv.pinned{aa:List (Addr×Obj)}{σ:St}{H:Hp}{s:Shared}{fp:List Addr}(I:Inv X aa σ H s)(hf:∀b∈fp,Hl X aa H b)(ho:∀b∈fp,∃o,s.heap.get? b=some o/\∀v,o.data≠.cell v):Inv X (aa++Gj fp s.heap) σ H s :=
 I.pins_of λp hp=>(Yaq.mp hp).elim (λz=>I.pin p (Ya4 _ z)) λz=>by
  obtain⟨hb,e⟩:=Rc z
  obtain⟨f0,f1,f2,_⟩:=hf p.1 hb
  obtain⟨o,e',d⟩:=ho p.1 hb
  rw [e]at e';cases e'
  exact⟨e,f0,f1,f2,d⟩
theorem Inv.unpinned{aa pl:List (Addr×Obj)}{σ:St}{H:Hp}{s:Shared}(I:Inv X (aa++pl) σ H s):Inv X aa σ H s:=I.pins_of λp hp=>I.pin p (Ya4 _ (Yci _ hp))
theorem Qal{iter:Expr}{body:List Stmt}{wi:TI}{g:TG}{tb:TS}{pos:Pos}(hp:PassesOwn (model X.prog X.w) X.A X.env X.xe)(hc:X.calm=true)(hi:PI X tg iter wi)(hg:PG X tg g)(hb:PSs X body tb)
  (hs:∀x,foldedSetIterable iter X.env x=pure x:=by intro _;rfl):PS X (.For tg iter body [] pos) (Qg8 wi g tb):=by
 intro aa s σ H D I h
 refine wpAny_For (thn (hi aa s σ H _ I h) λv s1 h1=>thn h1 λoe s2 h2=>?_) hs
 obtain⟨it,fp,tn,J,H2,e,I2,T,st2,f2,W,⟨m0,w0⟩,turn⟩:=h2
 subst e
 have dq:∀{H':Hp},(∀b∈fp,H' b=none)->∀b∈fp,Hl X aa H' b:=λhn b hb=>⟨hn b hb,(f2 b hb).2⟩
 refine codeAny_forLoop_any (λn s'=>∃i σ' H',Inv X aa σ' H' s'/\tn i s'.heap/\(∀b∈fp,H' b=none)/\W i n σ' H') ?_ m0 ⟨0,σ,H2,I2,st2,λb hb=>(f2 b hb).1,w0⟩
 rintro n s3 ⟨i,σ3,H3,I3,st3,fr3,w3⟩
 rcases turn i n σ3 H3 w3 with⟨stop,qn⟩ | ⟨go,N,hN,step⟩
 ·refine Yc9 hp (thn (T.done X rfl rfl rfl hc i aa s3 σ3 H3 X.xe I3 (dq fr3) st3 stop) λr s4 ⟨hr,I4⟩=>?_)
  subst hr
  exact Yff ⟨σ3,H3,I4,qn⟩
 ·refine Yc9 hp (thn (T.item X rfl rfl rfl hc i aa s3 σ3 H3 X.xe I3 (dq fr3) st3 go) λr s4 ⟨u,hr,h4⟩=>?_)
  subst hr
  refine Yc9 hp (thn h4 λ_ s5 oh=>?_)
  obtain⟨x,H5,I5,r5,y5,st5,fr5⟩:=oh
  have I5':=I5.pinned (dq fr5) (T.obj _ _ st5)
  refine Yc9 hp (thn (hg _ s5 σ3 H5 x u _ I5' r5 (step x H5 y5)) λ_ s6 np=>?_)
  obtain⟨σ6,H6,I6,q6⟩:=np
  refine Yc9 hp (thn (hb _ s6 σ6 H6 _ I6 q6) λf s7 q7=>?_)
  have again:∀{σ7:St} {H7:Hp},Inv X (aa++Gj fp s5.heap) σ7 H7 s7->N σ7 H7->∃m,m < n/\∃i σ' H',Inv X aa σ' H' s7/\tn i s7.heap/\(∀b∈fp,H' b=none)/\W i m σ' H':=λ{σ7 H7} I7 n7=>by
   obtain⟨m',hm,w7⟩:=hN σ7 H7 n7
   refine⟨m',hm,i+1,σ7,H7,I7.unpinned,T.keep _ _ _ st5 λb hb o e=>(I7.pin (b,o) (Ya4 _ (Ya4 _ (Cm hb e)))).1,λb hb=>?_,w7⟩
   obtain⟨o,e,d⟩:=T.obj _ _ st5 b hb
   exact(I7.pin (b,o) (Ya4 _ (Ya4 _ (Cm hb e)))).2.1
  cases f with
  | next=>obtain⟨σ7,H7,I7,n7⟩:=q7;exact again I7 n7
  | cont=>obtain⟨σ7,H7,I7,n7⟩:=q7;exact again I7 n7
  | brk=>obtain⟨σ7,H7,I7,q7⟩:=q7;exact⟨σ7,H7,I7.unpinned,q7⟩
  | ret v=>obtain⟨x7,σ7,H7,I7,r7,q7⟩:=q7;exact⟨x7,σ7,H7,I7.unpinned,r7,q7⟩
end
abbrev R2:=V->V->Hp->VK->Prop
def Hu(X:Cx)(f:Value->Value->Sem Value)(r:R2):Prop :=
 ∀(aa:List (Addr×Obj)) (s:Shared) (σ:St) (H:Hp) (x y:V) (v u:Value) (Q:VK),Inv X aa σ H s->A6 x v->A6 y u->r x y H Q ->
  wpAny (model X.prog X.w) X.A (f v u) (EP X aa σ Q) X.xe s
def Ek(X:Cx)(f:Value)(r:List V->Hp->VK->Prop):Prop :=
 ∀(aa:List (Addr×Obj)) (s:Shared) (σ:St) (H:Hp) (xs:List V) (us:List Value) (Q:VK),Inv X aa σ H s->Vals xs us->r xs H Q ->
  wpAny (model X.prog X.w) X.A (call f us) (EP X aa σ Q) X.xe s
def tOp(r:R2)(ta tb:TE):TE:=fun σ H Q=>ta σ H λx H1=>tb σ H1 λy H2=>r x y H2 Q
def rI(C:Int->Int->Prop)(g:Int->Int->V):R2:=λx y H Q=>∃i j,x=.int i/\y=.int j/\C i j/\Q (g i j) H
def Wc(g:Int->Int->V):R2:=λx y H Q=>∃i j,x=.int i/\y=.int j/\Q (g i j) H
section
variable {X:Cx}{a b c:Expr}{ta tb tc:TE}{pos:Pos}
theorem Qdr(ha:PE X a ta)(hb:PE X b tb){aa:List (Addr×Obj)}{s:Shared}{σ:St}{H:Hp}{R:V->V->Hp->Prop}(I:Inv X aa σ H s)
  (h:ta σ H λx H1=>tb σ H1 λy H2=>R x y H2) {Q:Value->Shared->Prop} {f:Value->Value->Sem Value}
  (hf:∀v u s2 x y H2,Inv X aa σ H2 s2->A6 x v->A6 y u->R x y H2->wpAny (model X.prog X.w) X.A (f v u) Q X.xe s2) :
  wpAny (model X.prog X.w) X.A (eval a X.env) (λv s₁=>wpAny (model X.prog X.w) X.A (eval b X.env) (λu s₂=>wpAny (model X.prog X.w) X.A (f v u) Q X.xe s₂) X.xe s₁) X.xe s:=by
 refine thn (ha aa s σ H _ I h) λv s1 qm=>Cg qm λx H1 I1 r1 q1=>?_
 refine thn (hb aa s1 σ H1 _ I1 q1) λu s2 nq=>Cg nq λy H2 I2 r2 q2=>?_
 exact hf v u s2 x y H2 I2 r1 r2 q2
theorem Qds{op:Operator}{r:R2}(ho:Hu X (binaryOp op) r)(ha:PE X a ta)(hb:PE X b tb):PE X (.BinOp a op b pos) (tOp r ta tb):=by
 intro aa s σ H Q I h
 exact wpAny_BinOp (Qdr ha hb I h λv u s2 x y H2 I2 rx ry q=>ho aa s2 σ H2 x y v u Q I2 rx ry q)
theorem opI{f:Value->Value->Sem Value}{C:Int->Int->Prop}{g:Int->Int->Int}
  (rule:∀(i j:Int) (t u:Tok) (s:Shared) (Q:Value->Shared->Prop) (E:Value->Shared->Prop),C i j->Q (.int (g i j) s.toks) { s with toks:=s.toks+1 }->wpAny (model X.prog X.w) X.A (f (.int i t) (.int j u)) Q E s) :
  Hu X f (rI C λi j=>.int (g i j)):=by
 intro aa s σ H x y v u Q I rx ry h
 obtain⟨i,j,rfl,rfl,hc,q⟩:=h
 obtain⟨t,rfl⟩:=rx
 obtain⟨t',rfl⟩:=ry
 exact rule i j t t' s _ _ hc ⟨.int (g i j),H,I.tok _,⟨_,rfl⟩,q⟩
theorem Wd{f:Value->Value->Sem Value}{g:Int->Int->Int}
  (rule:∀(i j:Int) (t u:Tok) (s:Shared) (Q:Value->Shared->Prop) (E:Value->Shared->Prop),Q (.int (g i j) s.toks) { s with toks:=s.toks+1 }->wpAny (model X.prog X.w) X.A (f (.int i t) (.int j u)) Q E s) :
  Hu X f (Wc λi j=>.int (g i j)):=by
 intro aa s σ H x y v u Q I rx ry h
 obtain⟨i,j,rfl,rfl,q⟩:=h
 obtain⟨t,rfl⟩:=rx
 obtain⟨t',rfl⟩:=ry
 exact rule i j t t' s _ _ ⟨.int (g i j),H,I.tok _,⟨_,rfl⟩,q⟩
theorem Qdt{f:Value->Value->Sem Value}{g:Int->Int->Bool}
  (rule:∀(i j:Int) (t u:Tok) (s:Shared) (Q:Value->Shared->Prop) (E:Value->Shared->Prop),Q (.bool (g i j)) s->wpAny (model X.prog X.w) X.A (f (.int i t) (.int j u)) Q E s) :
  Hu X f (Wc λi j=>.bl (g i j)):=by
 intro aa s σ H x y v u Q I rx ry h
 obtain⟨i,j,rfl,rfl,q⟩:=h
 obtain⟨t,rfl⟩:=rx
 obtain⟨t',rfl⟩:=ry
 exact rule i j t t' s _ _ ⟨.bl (g i j),H,I,rfl,q⟩
def CDiv(i j:Int):Prop:=0 < j/\j < 1073741824
def CPow(i j:Int):Prop:=0<=j/\j<=1000000/\i.natAbs < 2 ^ 64
def CMul(i j:Int):Prop:=(-(2 ^ 64) < i/\i < 2 ^ 64)\/(-(2 ^ 64) < j/\j < 2 ^ 64)
theorem CMul.ok{i j:Int}(h:CMul i j):IntMulOk i j:=by
 rcases h with⟨h1,h2⟩ | ⟨h1,h2⟩
 ·exact .of_left (intBits_le_64 h1 h2)
 ·exact .of_right (intBits_le_64 h1 h2)
theorem Nn(k:Nat):(0:Int)<=2 ^ k:=by
 rw [two_pow_cast]
 exact Int.natCast_nonneg _
theorem Qam:Hu X (binaryOp .Add) (Wc λi j=>.int (i+j)):=Wd λ_ _ _ _ _ _ _ q=>add_int q
theorem Qan:Hu X (binaryOp .Sub) (Wc λi j=>.int (i - j)):=Wd λ_ _ _ _ _ _ _ q=>sub_int q
theorem Qao:Hu X (binaryOp .Mult) (rI CMul λi j=>.int (i * j)):=opI λ_ _ _ _ _ _ _ hc q=>mul_int q hc.ok
theorem We:Hu X (binaryOp .FloorDiv) (rI CDiv λi j=>.int (i / j)):=opI λi j _ _ _ _ _ hc q=>by
 have h1:(0:Int) < j:=hc.1
 have h2:j < 1073741824:=hc.2
 exact floordiv_int (by omega) (by rw [Int.fdiv_eq_ediv_of_nonneg i (by omega)];exact q) (.inl (PyProof.noPylong_small (by omega)))
theorem Qap:Hu X (binaryOp .Mod) (rI (λ_ j=>0 < j) λi j=>.int (i % j)):=opI λi j _ _ _ _ _ hc q=>by
 have h1:(0:Int) < j:=hc
 exact mod_int' (by omega) (by rw [Int.fmod_eq_emod_of_nonneg i (by omega)];exact q)
theorem Qaq:Hu X (binaryOp .Pow) (rI CPow λi j=>.int (i ^ j.toNat)):=opI λ_ _ _ _ _ _ _ hc q=>pow_int_small hc.1 hc.2.1 hc.2.2 q
theorem Qar:Hu X (binaryOp .LShift) (rI CPow λi j=>.int (i * 2 ^ j.toNat)):=opI λ_ _ _ _ _ _ _ hc q=>lshift_int_small hc.1 hc.2.1 hc.2.2 q
theorem Qas:Hu X (binaryOp .RShift) (rI (λ_ j=>0<=j) λi j=>.int (i / 2 ^ j.toNat)):=opI λi j _ _ _ _ _ hc q =>
 rshift_int hc (by rw [Int.fdiv_eq_ediv_of_nonneg i (Nn _)];exact q)
theorem Qat:Hu X (binaryOp .BitAnd) (Wc λi j=>.int (Builtin.bitAnd i j)):=Wd λ_ _ _ _ _ _ _ q=>and_int q
theorem Qdu:Hu X (binaryOp .BitOr) (Wc λi j=>.int (Builtin.bitOr i j)):=Wd λ_ _ _ _ _ _ _ q=>or_int q
end
section
variable {X:Cx}{a b c:Expr}{ta tb tc:TE}{pos:Pos}
theorem Qau{aa:List (Addr×Obj)}{σ:St}{H:Hp}{s:Shared}{Q:VK}{k k':Bool}(I:Inv X aa σ H s)(q:Q (.bl k) H)(e:k=k'):EP X aa σ Q (.bool k') s:=by
 subst e
 exact⟨.bl k,H,I,rfl,q⟩
theorem Qdv:Hu X (compareOp .Gt) (Wc λi j=>.bl (decide (j < i))):=Qdt λ_ _ _ _ _ _ _ q=>gt_int q
theorem Qdw:Hu X (compareOp .GtE) (Wc λi j=>.bl (decide (j<=i))):=Qdt λ_ _ _ _ _ _ _ q=>ge_int q
theorem nomark(b:Expr){op:CmpOp}(h:op≠.In:=by decide)(h2:op≠.NotIn:=by decide):behindInMarks op b=false:=by
 have e1:(op==CmpOp.In)=false:=by cases op <;> first | rfl | exact absurd rfl h
 have e2:(op==CmpOp.NotIn)=false:=by cases op <;> first | rfl | exact absurd rfl h2
 cases b <;> simp [behindInMarks,e1,e2]
def Y4(t:TE):TT:=fun σ H Q=>t σ H λx H'=>∃k,x=.bl k/\Q k H'
theorem Wf{op:CmpOp}{r:R2}(ho:Hu X (compareOp op) r)(ha:PE X a ta)(hb:PE X b tb)(hm:behindInMarks op b=false):PT X (.Compare a [op] [b] pos) (Y4 (tOp r ta tb)):=by
 intro aa s σ H Q I h
 refine wpAny_isTrue_Compare1 (thn (ha aa s σ H _ I h) λv s1 pq=>Cg pq λx H1 I1 r1 q1=>thn (hb aa s1 σ H1 _ I1 q1) λu s2 qg=>Cg qg λy H2 I2 r2 q2 =>
  thn (ho aa s2 σ H2 x y v u _ I2 r1 r2 q2) λc s3 ⟨z,H3,I3,r3,k,e,q3⟩=>?_) hm
 subst e
 cases r3
 exact Yeu ⟨H3,I3,q3⟩
theorem Hv:(sizeLine:Nat) < 2 ^ 63:=by rw [sizeLine_eq];decide
theorem No:Hu X (binaryOp .Add) (λx y H Q=>∃i j,x=.str i/\y=.str j/\i.length+j.length<=sizeLine/\Q (.str (i++j)) H):=by
 intro aa s σ H x y v u Q I rx ry h
 obtain⟨i,j,rfl,rfl,hz,q⟩:=h
 obtain⟨t,rfl⟩:=rx
 obtain⟨t',rfl⟩:=ry
 exact add_str (λt' tk=>⟨.str (i++j),H,I.tok _,⟨_,rfl⟩,q⟩) hz
theorem E6{x:V}{us:List Value}(r:Vals [x] us):∃u,us=[u]/\A6 x u:=by
 cases r with
 | cons r1 r2=>cases r2;exact⟨_,rfl,r1⟩
theorem Qdx{x y:V}{us:List Value}(r:Vals [x,y] us):∃u w',us=[u,w']/\A6 x u/\A6 y w':=by
 cases r with
 | cons r1 r2 =>
  cases r2 with
  | cons r3 r4=>cases r4;exact⟨_,_,rfl,r1,r3⟩
theorem Re(hc:X.calm=true):Ek X (.builtin "max") (λxs H Q=>∃i j,xs=[.int i,.int j]/\Q (.int (if j > i then j else i)) H):=by
 intro aa s σ H xs us Q I r h
 obtain⟨i,j,rfl,q⟩:=h
 obtain⟨u,w',rfl,⟨t,rfl⟩,⟨t',rfl⟩⟩:=Qdx r
 refine max_two_ints (I.ok.hd hc) λh' tk k=>⟨_,H,I.kept k,?_,q⟩
 by_cases hj:j > i
 ·rw [Yao hj,Yao hj];exact⟨_,rfl⟩
 ·rw [Yaj hj,Yaj hj];exact⟨_,rfl⟩
end
section
variable {prog:Program}{w:World}{A:Around}{E:Value->Shared->Prop}{s:Shared}{K:PySem.W.Frag}{x dx C f:Addr}{mA:Str->Option Value}{name:Str}{v:Value}
end
theorem Gh.some_of{v:V}{o:Option Value}(r:Gh (some v) o):∃u,o=some u/\A6 v u:=by
 cases o with
 | none=>exact(show False from r).elim
 | some u=>exact⟨u,rfl,r⟩
section
variable {P:Program}{w:World}{H H':Hp}{h h':Heap}{a C dx:Addr}{fs fs':List (Str×V)}
end
section
variable {X:Cx}{aa:List (Addr×Obj)}{σ:St}{H:Hp}{s:Shared}{a C dx:Addr}{fs:List (Str×V)}{f:Str}{v:V}{A:Around}{E:Value->Shared->Prop}
end
section
variable {X:Cx}{o e value:Expr}{f:Str}{pos bt wz:Pos}{ta tv:TE}
end
section
variable {X:Cx}{aa:List (Addr×Obj)}{σ:St}{H:Hp}{s:Shared}{A:Around}{E:Value->Shared->Prop}{Q:Value->Shared->Prop}{c:Value}{b:Bool}
end
structure Room(k:Nat)(A:Around):Prop where
 hd:A.handled=none
 dp:A.depth+3 * k+5 < recursionLimit
 un:A.units+16 * k+200 < cLine
 gd:A.guards=some []
theorem Room.mono{j k:Nat}{A:Around}(r:Room k A)(h:j<=k):Room j A:=⟨r.hd,by have:=r.dp;omega,by have:=r.un;omega,r.gd⟩
theorem Room.deeper{k:Nat}{A:Around}(r:Room (k+1) A)(env:Env):Room k (A.deeper env) :=
 ⟨r.hd,by have:=r.dp;show A.depth+1+3 * k+5 < _;omega,by have:=r.un;show A.units+3+16 * k+200 < _;omega,r.gd⟩
theorem Room.depth{k:Nat}{A:Around}(r:Room k A):A.depth < recursionLimit:=by have:=r.dp;omega
theorem Room.units{k:Nat}{A:Around}(r:Room k A):A.units+64 < cLine:=by have:=r.un;omega
def Qg9:TA:=λ_ H Q=>Q [] H
def Qdy(ta:TE)(tr:TA):TA:=fun σ H Q=>ta σ H λx H1=>tr σ H1 λxs H2=>Q (x :: xs) H2
section
variable {X:Cx}{e:Expr}{es:List Expr}{te:TE}{t:TA}{pos:Pos}
theorem Qav:PA X [] Qg9:=λ_ _ _ _ H Q I h=>Ybj ⟨[],H,I,.nil,h⟩
theorem Wg(ha:PE X e te)(hr:PA X es t)(hs:starEach (e :: es) X.env=(false,eval e X.env) :: starEach es X.env:=by rfl):PA X (e :: es) (Qdy te t):=by
 intro pos aa s σ H Q I h
 rw [hs]
 show wpAny _ _ (spliced ((false,eval e X.env) :: backTo pos (starEach es X.env))) _ _ s
 refine Ybk (thn (ha aa s σ H _ I h) λu s1 si=>Cg si λx H1 I1 r1 q1=>?_)
 exact thn (hr pos aa s1 σ H1 _ I1 q1) λus s2 qk=>Cg qk λxs H2 I2 r2 q2=>⟨x :: xs,H2,I2,.cons r1 r2,q2⟩
def Qha(t:TA):TE:=fun σ H Q=>t σ H λxs H1=>xs.length<=sizeLine/\∀p,H1 p=none->Q (.ref p) (upd H1 p (.tup xs))
def Qhb(t:TA):TE:=fun σ H Q=>t σ H λxs H1=>xs.length<=sizeLine/\∀p,H1 p=none->Q (.ref p) (upd H1 p (.lst xs))
theorem Qaw{x1}(h:PA X es t):PE X (.Tuple es x1 pos) (Qha t):=by
 intro aa s σ H Q I hq
 refine wpAny_Tuple_spliced (thn (h pos aa s σ H _ I hq) λus s1 ⟨xs,H1,I1,r,z,q⟩=>⟨by rw [<- r.length];exact z,?_⟩)
 have hf:H1 s1.heap.objs.size=none:=I1.hok.fresh (Yad _)
 refine⟨.ref s1.heap.objs.size,upd H1 s1.heap.objs.size (.tup xs),I1.laid (t':=s1.toks) (λb u e=>Heap.get?_push_of_some _ e) (Yad _) ?_,rfl,q _ hf⟩
 exact⟨z,us,r,⟨_,Heap.get?_push_size _ rfl,rfl,_,rfl⟩⟩
theorem Qax(h:PA X es t):PE X (.List es pos) (Qhb t):=by
 intro aa s σ H Q I hq
 refine wpAny_List_spliced (thn (h pos aa s σ H _ I hq) λus s1 ⟨xs,H1,I1,r,z,q⟩=>⟨by rw [<- r.length];exact z,?_⟩)
 have hf:H1 s1.heap.objs.size=none:=I1.hok.fresh (Yad _)
 refine⟨.ref s1.heap.objs.size,upd H1 s1.heap.objs.size (.lst xs),I1.laid (t':=s1.toks) (λb u e=>Heap.get?_push_of_some _ e) (Yad _) ?_,rfl,q _ hf⟩
 exact⟨z,us,0,r,Heap.get?_push_size _ rfl⟩
end
abbrev Sp:=List V->Hp->VK->XK->Prop
abbrev CXT:=List Env->Hp->Shared->XK->Value->Shared->Prop
structure Env0(P:Program)(w:World)(K:PySem.W.Frag)(mg:Str->Option Value)(base:Heap)(A:Around)(outer:List Env)(s:Shared)(H:Hp):Prop where
 frames:A.frames=some outer
 mod:Mod K mg base
 bs:∀b o,base.get? b=some o->s.heap.get? b=some o/\H b=none
 bsz:base.objs.size<=s.heap.objs.size
 funs:s.heap.FunFrames base outer
 frf:∀b∈frs outer,H b=none
 hok:HOk P w H s.heap
 bare:AllBare s.gens
def CE(outer:List Env)(P:Program)(w:World)(H:Hp)(s:Shared)(Q:VK)(u:Value)(s':Shared):Prop :=
 ∃v H',s'.os=s.os/\AllBare s'.gens/\Un (frs outer) [] H H' s.heap s'.heap/\HOk P w H' s'.heap/\A6 v u/\Q v H'
def CR(CX:CXT)(outer:List Env)(P:Program)(w:World)(H:Hp)(s:Shared)(Q:VK)(E:XK)(r:Result)(s':Shared):Prop :=
 match r with
 | .ok (.ret u)=>CE outer P w H s Q u s'
 | .ok _=>False
 | .error e=>CX outer H s E e s'
structure FnOk(P:Program)(w:World)(K:PySem.W.Frag)(mg:Str->Option Value)(base:Heap)(CX:CXT)(k:Nat)(f:Addr)(fd:FuncData)(ps:List Str)(sp:Sp):Prop where
 len:∀vs H Q E,sp vs H Q E->vs.length=ps.length
 run:∀(A:Around) (outer:List Env) (s:Shared) (H:Hp) (args:Args) (us:List Value) (vs:List V) (Q:VK) (E:XK),Room k A->Env0 P w K mg base A outer s H->BindsTo s fd args (ps.zip us)->Vals vs us->sp vs H Q E ->
  codeAny (model P w) A (.call (.ref f) args) (CR CX outer P w H s Q E) s
theorem FnOk.mono{P:Program}{w:World}{K:PySem.W.Frag}{mg:Str->Option Value}{base:Heap}{CX:CXT}{j k:Nat}{f:Addr}{fd:FuncData}{ps:List Str}{sp:Sp}(F:FnOk P w K mg base CX j f fd ps sp)(h:j<=k) :
  FnOk P w K mg base CX k f fd ps sp:=⟨F.len,λA outer s H args us vs Q E hr=>F.run A outer s H args us vs Q E (hr.mono h)⟩
theorem FnOk.imp{P:Program}{w:World}{K:PySem.W.Frag}{mg:Str->Option Value}{base:Heap}{CX:CXT}{k:Nat}{f:Addr}{fd:FuncData}{ps:List Str}{sp zm:Sp}(F:FnOk P w K mg base CX k f fd ps sp)
  (h:∀vs H Q E,zm vs H Q E->sp vs H Q E):FnOk P w K mg base CX k f fd ps zm :=
 ⟨λvs H Q E q=>F.len vs H Q E (h _ _ _ _ q),λA outer s H args us vs Q E hr he hb hv hs=>F.run A outer s H args us vs Q E hr he hb hv (h _ _ _ _ hs)⟩
section
variable {X:Cx}{aa:List (Addr×Obj)}{σ:St}{H:Hp}{s s':Shared}
theorem Inv.env0(I:Inv X aa σ H s):Env0 X.prog X.w X.K X.mg X.base X.A X.stack s H :=
 ⟨I.ok.frames,I.ok.mod,I.bs,Yak I.ok.bsz I.sz,I.stack,I.stkFree,I.hok,I.bare⟩
theorem Inv.after{Q:VK}{u:Value}(I:Inv X aa σ H s)(h:CE X.stack X.prog X.w H s Q u s'):EP X aa σ Q u s':=by
 obtain⟨v,H',os,bare,un,hok,r,q⟩:=h
 obtain⟨hh,g,d,t,os'⟩:=s'
 obtain rfl:os'=s.os:=os
 exact⟨v,H',I.call (h':=hh) (g':=g) (d':=d) (t':=t) (ch:=[]) un hok bare (λb z=>absurd z (by simp)),r,q⟩
end
def Qdz(sp:Sp)(kb:List V)(E:XK)(t:TA):TE:=fun σ H Q=>t σ H λvs H1=>sp (vs++kb) H1 Q E
def Binds(K:PySem.W.Frag)(fd:FuncData)(ps:List Str)(ds:List Value):Prop :=
 ∀(s:Shared) (us:List Value),K.In s.heap->(us++ds).length=ps.length->BindsTo s fd ⟨us,[]⟩ (ps.zip (us++ds))
theorem Binds.all{K:PySem.W.Frag}{fd:FuncData}{ps:List Str}(h:∀us:List Value,us.length=ps.length->bindArgs fd ⟨us,[]⟩=pure (ps.zip us)):Binds K fd ps []:=λs us _ hl=>by
 rw [Ycp]at hl ⊢
 exact .of_eq (h us hl)
def Passes(CX:CXT)(X:Cx)(E:XK):Prop:=∀(aa:List (Addr×Obj)) (σ:St) (H:Hp) (s:Shared) (e:Value) (s':Shared),Inv X aa σ H s->CX X.stack H s E e s'->X.xe e s'
section
variable {X:Cx}{CX:CXT}{k:Nat}{f C:Addr}{fd:FuncData}{ps:List Str}{sp:Sp}{kb:List V}{ds:List Value}{E:XK}{x m:Str}{p pos ap:Pos}{e o:Expr}{es:List Expr}{ta:TE}{t:TA}
theorem Qay{aa:List (Addr×Obj)}{σ:St}{H:Hp}{s:Shared}{Q:VK}{us:List Value}{vs:List V}(F:FnOk X.prog X.w X.K X.mg X.base CX k f fd ps sp)(hr:Room k X.A)(hb:Binds X.K fd ps ds)(hd:Vals kb ds)(hx:Passes CX X E)
  (I:Inv X aa σ H s) (r:Vals vs us) (h:sp (vs++kb) H Q E):wpAny (model X.prog X.w) X.A (call (.ref f) us) (EP X aa σ Q) X.xe s:=by
 have r2:Vals (vs++kb) (us++ds):=r.append hd
 have hl:(us++ds).length=ps.length:=by rw [<- r2.length];exact F.len _ _ _ _ h
 refine wpAny_call (Yfm (F.run X.A X.stack s H ⟨us,[]⟩ (us++ds) (vs++kb) Q E hr I.env0 (hb s us I.kIn hl) r2 h) λr s' hq=>?_)
 cases r with
 | error e=>exact hx aa σ H s e s' I hq
 | ok fl =>
  cases fl with
  | ret u=>exact I.after hq
  | next=>exact False.elim hq
  | brk=>exact False.elim hq
  | cont=>exact False.elim hq
theorem Wh(F:FnOk X.prog X.w X.K X.mg X.base CX k f fd ps sp)(hr:Room k X.A)(hg:Gl X x)(hm:X.mg x=some (.ref f))(hk:PySem.W.keepIn X.K (.ref f)=true)(hb:Binds X.K fd ps ds)(hd:Vals kb ds)(hx:Passes CX X E)
  (ha:PA X (e :: es) t) (hdb:(x==("__debug__" : Str))=false:=by decide) (he:starEach (e :: es) X.env=(false,eval e X.env) :: starEach es X.env:=by rfl) (hpl:(backTo pos (starEach es X.env)).any (·.1)=false:=by rfl) :
  PE X (.Call (.Name x p) (e :: es) [] pos) (Qdz sp kb E t):=by
 intro aa s σ H Q I h
 refine Ybz (V5 I hg hm ?_ hdb)
 refine PySem.W.callWith_K (h₀:=X.base) I.ok.mod.kin hk (thn (ha pos aa s σ H _ I h) λus s1 m9=>Cg m9 λvs H1 I1 r q=>⟨I1.kIn,?_⟩) he hpl
 exact Qay F hr hb hd hx I1 r q
end
section
variable {X:Cx}{CX:CXT}{k:Nat}{f C:Addr}{fd:FuncData}{ps ks:List Str}{sp:Sp}{E:XK}{x m:Str}{p pos ap zae:Pos}{e o:Expr}{es:List Expr}{kws:List Keyword}{te ta:TE}{t tk:TA}{nm:Option Str}
variable {g:List Value->List Value->List Value}{gV:List V->List V->List V}
end
structure FnScope(N P:List Str)(sc:Scope):Prop where
 kind:sc.kind=.function
 co:sc.isCoroutine=false
 gen:sc.isGenerator=false
 nd:N.Nodup
 pre:N.take P.length=P
 par:∀x∈P,sc.names.lookup x=some .local\/sc.names.lookup x=some .cell
 nofree:∀y∈sc.names,y.2≠.free
theorem Jq{kindOf:Str->Option NameKind}{x:Str}:∀{binds:List (Str×Value)} {m:Str->Option Value},(∀v,(x,v)∉binds)->bindL kindOf binds m x=m x
 | [],_,_=>rfl
 | (n,v) :: r,m,h=>by
  unfold bindL
  rw [Jq λw hw=>h w (Yav _ hw)]
  split
  ·have:x≠n:=by rintro rfl;exact h v Yax
   simp [this]
  ·rfl
theorem Jr{kindOf:Str->Option NameKind}{x:Str}:∀{binds:List (Str×Value)} {m:Str->Option Value},(∀v,(x,v)∉binds)->bindC kindOf binds m x=m x
 | [],_,_=>rfl
 | (n,v) :: r,m,h=>by
  unfold bindC
  rw [Jr λw hw=>h w (Yav _ hw)]
  split
  ·rfl
  ·have:x≠n:=by rintro rfl;exact h v Yax
   simp [this]
theorem Js{kindOf:Str->Option NameKind}{x:Str}{v:Value}:∀{P:List Str} {vs:List Value} {i:Nat} {m:Str->Option Value},P.Nodup->P[i]?=some x->vs[i]?=some v->kindOf x=some .local ->
  bindL kindOf (P.zip vs) m x=some v
 | [],_,_,_,_,h,_,_=>by simp at h
 | _ :: _,[],_,_,_,_,h,_=>by simp at h
 | p :: P,w :: vs,0,m,nd,h1,h2,hk=>by
  simp at h1 h2;subst h1;subst h2
  show bindL kindOf ((p,w) :: P.zip vs) m p=_
  unfold bindL
  rw [Jq λv hv=>(Yb5.mp nd).1 (List.of_mem_zip hv).1,Yao hk]
  simp
 | p :: P,w :: vs,i+1,m,nd,h1,h2,hk=>by
  show bindL kindOf ((p,w) :: P.zip vs) m x=_
  unfold bindL
  exact Js (i:=i) (Yb5.mp nd).2 (by simpa using h1) (by simpa using h2) hk
theorem Jt{kindOf:Str->Option NameKind}{x:Str}{v:Value}:∀{P:List Str} {vs:List Value} {i:Nat} {m:Str->Option Value},P.Nodup->P[i]?=some x->vs[i]?=some v->kindOf x≠some .local ->
  bindC kindOf (P.zip vs) m x=some v
 | [],_,_,_,_,h,_,_=>by simp at h
 | _ :: _,[],_,_,_,_,h,_=>by simp at h
 | p :: P,w :: vs,0,m,nd,h1,h2,hk=>by
  simp at h1 h2;subst h1;subst h2
  show bindC kindOf ((p,w) :: P.zip vs) m p=_
  unfold bindC
  rw [Jr λv hv=>(Yb5.mp nd).1 (List.of_mem_zip hv).1,Yaj hk]
  simp
 | p :: P,w :: vs,i+1,m,nd,h1,h2,hk=>by
  show bindC kindOf ((p,w) :: P.zip vs) m x=_
  unfold bindC
  exact Jt (i:=i) (Yb5.mp nd).2 (by simpa using h1) (by simpa using h2) hk
def start(N:List Str)(vs:List V):St:=vs.map some++List.replicate (N.length - vs.length) none
def Np(CX:CXT)(P:Program)(w:World)(K:PySem.W.Frag)(mg:Str->Option Value)(base:Heap)(N:List Str)(qual:Str)(scope:Scope)(f:Addr)(cd:Value)(A:Around)(outer:List Env)(s:Shared)(H:Hp)(E:XK):Cx where
 prog:=P
 w:=w
 K:=K
 mg:=mg
 base:=base
 A:=A.deeper (envOfC qual scope s.heap.objs.size f cd)
 N:=N
 s₀:=s
 H₀:=H
 env:=envOfC qual scope s.heap.objs.size f cd
 outer:=outer
 stack:=envOfC qual scope s.heap.objs.size f cd :: outer
 ex:=[]
 calm:=true
 fn:=λ_=>true
 pn:=[]
 xe:=λe s'=>wpAny (model P w) (A.deeper (envOfC qual scope s.heap.objs.size f cd)) («leaving» (envOfC qual scope s.heap.objs.size f cd) e) (λ_ on=>CX outer H s E e on) (λe' on=>CX outer H s E e' on) s'
theorem L3{sc:Scope}{n:Nat}{x:Str}(h:sc.names.lookup x=some .cell):∃c,(cellsFrom n sc.names []).lookup x=some c:=by
 have q:=PySem.W.cellsFrom_some sc.names n [] (.inl h)
 exact Option.isSome_iff_exists.mp q
theorem Rf{CX:CXT}{P:Program}{w:World}{K:PySem.W.Frag}{mg:Str->Option Value}{base:Heap}{N ps:List Str}{qual:Str}{scope:Scope}{f:Addr}{cd:Value}{A:Around}{outer:List Env}{s s1:Shared}{H:Hp}{E:XK}{us:List Value}{vs:List V}
  (S:FnScope N ps scope) (hd:A.handled=none) (e0:Env0 P w K mg base A outer s H) (hl:vs.length=ps.length) (r:Vals vs us)
  (x:InCallC s s.heap.objs.size (bindL (envOfC qual scope s.heap.objs.size f cd).kindOf (ps.zip us) λ_=>none) (cellsFrom (s.heap.objs.size+1) scope.names []) (bindC (envOfC qual scope s.heap.objs.size f cd).kindOf (ps.zip us) λ_=>none) s1) :
  Inv (Np CX P w K mg base N qual scope f cd A outer s H E) [] (start N vs) H s1:=by
 have hpl:ps.length<=N.length:=by have:=Ycg List.length S.pre;rw [Ybl]at this;omega
 obtain⟨h1,tk,rfl,hk⟩:=x.done
 have se:∀b:Addr,b∉(Np CX P w K mg base N qual scope f cd A outer s H E).ex:=λb z=>absurd (show b∈([]:List Addr) from z) (by simp)
 refine⟨⟨e0.mod,S.kind,rfl,rfl,Yad _,λy z c h1 h2=>?_,λy hy=>?_,λy c _ h=>?_,λ_=>hd,Around.frames_deeper e0.frames,.inr ⟨rfl,rfl⟩,λb z=>absurd z (se b),e0.bs,e0.bsz,λb _ _=>se b,λb z=>absurd z (se b),e0.funs,e0.frf⟩,
  rfl,e0.bare,Un.kept hk,⟨_,x.toInCall.ns,λi y v h1 h2 h3=>?_⟩,λy c h=>⟨_,x.cell y c h⟩,e0.hok.fresh (Yad _),λy c h=>?_,λp hp=>absurd (show p∈([]:List (Addr×Obj)) from hp) (by simp),e0.hok.kept hk,?_⟩
 ·exact name_of_addr x.apart (Ydh h1) (Ydh h2)
 ·have hy:scope.names.lookup y=some .cell\/scope.names.lookup y=some .free:=hy
  rcases hy with hy | hy
  ·exact L3 hy
  ·exact absurd rfl (S.nofree _ (Ydh hy))
 ·exact Ybq (x.above y c (Ydh h))
 ·have hi:i < vs.length:=by
   unfold start at h2
   by_cases hi:i < vs.length
   ·exact hi
   ·rw [List.getElem?_append_right (by simpa using hi)]at h2
    rw [List.getElem?_replicate]at h2
    split at h2 <;> cases h2
  have ha:vs[i]?=some v:=by
   unfold start at h2
   rw [List.getElem?_append_left (by simpa using hi),List.getElem?_map]at h2
   cases e:vs[i]? with
   | none=>rw [e]at h2;cases h2
   | some a=>rw [e]at h2;cases h2;rfl
  obtain⟨u,hu,rv⟩:=r.get ha
  have hp:ps[i]?=some y:=by
   rw [<- S.pre,List.getElem?_take_of_lt (by omega)];exact h1
  have y9:ps.Nodup:=by rw [<- S.pre];exact S.nd.sublist (List.take_sublist _ _)
  refine⟨u,rv,?_⟩
  rcases S.par y (Ya1 hp) with k | k
  ·exact .inl ⟨k,Js y9 hp hu k⟩
  ·obtain⟨c,e⟩:=L3 (n:=s.heap.objs.size+1) k
   refine .inr ⟨.inl k,c,e,?_⟩
   have q:=x.cell y c e
   rw [Jt y9 hp hu (by show scope.names.lookup y≠_;rw [k];decide)]at q
   exact q
 ·exact e0.hok.fresh (Ybq (x.above y c (Ydh h)))
 ·unfold start
  show _=N.length
  rw [Yal,Yab,List.length_replicate]
  omega
theorem Qd0{CX:CXT}{P:Program}{w:World}{K:PySem.W.Frag}{mg:Str->Option Value}{base:Heap}{k:Nat}{f:Addr}{name qual:Str}{params:Arguments}{body:List Stmt}{scope:Scope}{dV kV fj pm bd ct oc:Value}{an od:Option Addr}
  {j8:Array (Option Value)} {N ps:List Str} {sp:Sp} (lk:K.lookup f=some ⟨oc,od,.func (PySem.W.fnOf name qual params body scope dV kV fj pm an bd ct),j8⟩) (ip:PySem.W.codeIn K bd qual=true) (S:FnScope N ps scope)
  (len:∀vs H Q E,sp vs H Q E->vs.length=ps.length)
  (fk:∀(A:Around) (outer:List Env) (s:Shared) (H:Hp) (vs:List V) (Q:VK) (E:XK),Room k (A.deeper (envOfC qual scope s.heap.objs.size f bd))->sp vs H Q E ->
   ∃t,PSs (Np CX P w K mg base N qual scope f bd A outer s H E) body t/\t { nx:=λ_ H'=>Q .non H',rt:=Q } (start N vs) H) :
  FnOk P w K mg base CX (k+1) f (PySem.W.fnOf name qual params body scope dV kV fj pm an bd ct) ps sp:=by
 refine⟨len,λA outer s H args us vs Q E hr e0 hb r jf=>?_⟩
 have hl:=len _ _ _ _ jf
 have KX:K.In s.heap:=e0.mod.kin.keeps λb o e=>(e0.bs b o e).1
 have lim:s.heap.NoLimit:=e0.mod.nolimit.keeps λb o e=>(e0.bs b o e).1
 have ri:∀y∈ps.zip us,scope.names.lookup y.1=some .local\/(scope.names.lookup y.1=some .cell/\((cellsFrom (s.heap.objs.size+1) scope.names []).lookup y.1).isSome=true):=λ⟨n,v⟩ hy=>by
  rcases S.par n (List.of_mem_zip hy).1 with q | q
  ·exact .inl q
  ·exact .inr ⟨q,PySem.W.cellsFrom_some _ _ _ (.inl q)⟩
 refine codeAny_call_function hr.depth (KX _ _ lk) rfl S.co S.gen rfl (PySem.W.codeRec_of KX ip) (hb _ _ _ _ ?_)
 refine wpAny_newFunctionEnv_cells S.kind ri λenv he s1 x=>?_
 subst he
 refine⟨lim.keeps x.toInCall.keep,codeAny_func ?_⟩
 obtain⟨t,ht,hq⟩:=fk A outer s H vs Q E (hr.deeper _) jf
 have I:Inv (Np CX P w K mg base N qual scope f bd A outer s H E) [] (start N vs) H s1:=Rf S hr.hd e0 hl r x
 refine Yb1 (ht [] s1 (start N vs) H _ I hq) (λfl s' hs=>?_) λe s' hs=>hs
 have fin:∀{σ':St} {H':Hp} {v:V} {u:Value},Inv (Np CX P w K mg base N qual scope f bd A outer s H E) [] σ' H' s'->A6 v u->Q v H'->CE outer P w H s Q u s' :=
  λ{σ' H' v u} J rv q=>⟨v,H',J.os,J.bare,J.base,J.hok,rv,q⟩
 cases fl with
 | ret u =>
  obtain⟨v,σ',H',J,rv,q⟩:=hs
  exact fin J rv q
 | next =>
  obtain⟨σ',H',J,q⟩:=hs
  exact fin (v:=V.non) (u:=Value.none) J rfl q
 | brk =>
  obtain⟨_,_,_,q⟩:=hs
  exact False.elim q
 | cont =>
  obtain⟨_,_,_,q⟩:=hs
  exact False.elim q
section
variable {X:Cx}{x:Str}{p pos:Pos}{e:Expr}{es:List Expr}{t:TA}{id T:String}{r:List V->Hp->VK->Prop}
def tCB(r:List V->Hp->VK->Prop)(t:TA):TE:=fun σ H Q=>t σ H λvs H1=>r vs H1 Q
theorem Sy(hc:Ek X (.builtin id) r)(hg:Gl X x)(hm:X.mg x=none)(hv:bootBuiltins x=some (.builtin id))(ha:PA X (e :: es) t)(hn:x ≠ "__name__" := by decide) (hdb:(x==("__debug__" : Str))=false:=by decide)
  (he:starEach (e :: es) X.env=(false,eval e X.env) :: starEach es X.env:=by rfl) (hpl:(backTo pos (starEach es X.env)).any (·.1)=false:=by rfl):PE X (.Call (.Name x p) (e :: es) [] pos) (tCB r t):=by
 intro aa s σ H Q I h
 refine Ybz (Da I hg hm hv ?_ hn hdb)
 exact Ycq (thn (ha pos aa s σ H _ I h) λus s1 n6=>Cg n6 λvs H1 I1 r1 q1=>hc aa s1 σ H1 vs us Q I1 r1 q1) he hpl
theorem Rg(hc:Ek X (.type T) r)(hg:Gl X x)(hm:X.mg x=none)(hv:bootBuiltins x=some (.type T))(ha:PA X (e :: es) t)(hn:x ≠ "__name__" := by decide) (hdb:(x==("__debug__" : Str))=false:=by decide)
  (he:starEach (e :: es) X.env=(false,eval e X.env) :: starEach es X.env:=by rfl) (hpl:(backTo pos (starEach es X.env)).any (·.1)=false:=by rfl):PE X (.Call (.Name x p) (e :: es) [] pos) (tCB r t):=by
 intro aa s σ H Q I h
 refine Ybz (Da I hg hm hv ?_ hn hdb)
 exact Ybv (thn (ha pos aa s σ H _ I h) λus s1 og=>Cg og λvs H1 I1 r1 q1=>hc aa s1 σ H1 vs us Q I1 r1 q1) he hpl
end
end L2
namespace HT
open PySem PyProof.Rows
section
open PySem.SeqAt
open PySem.AutoSeq1 (wpAny_loadPart')
open PySem.MeetsSeq PySem.MeetsSeq2 PySem.MeetsSeq3
end
section
variable {prog:Program}{w:World}{A:Around}{E:Value->Shared->Prop}{s:Shared}
theorem cat_tup{t b:Addr}{vs ws:List Value}{Q:Value->Shared->Prop}(ht:IsTup s.heap t vs.toArray)(hb:IsTup s.heap b ws.toArray)(hv:vs≠[])
  (h1:ws=[]->Q (.ref t) s) (h2:ws≠[]->Q (.ref s.heap.objs.size) { s with heap:=s.heap.push { cls:=.type "tuple",data:=.seq (vs++ws).toArray } })
  (hsz:vs.length+ws.length<=sizeLine):wpAny (model prog w) A (binaryOp .Add (.ref t) (.ref b)) Q E s:=by
 obtain⟨⟨cls,dd,data,sl⟩,ho,hc,n,hd⟩:=id ht
 obtain⟨⟨cls2,dd2,data2,mi⟩,d5,hc2,n2,hd2⟩:=id hb
 simp only at hc hd hc2 hd2
 subst hc hd hc2 hd2
 have e:vs.toArray++ws.toArray=(vs++ws).toArray:=by simp
 by_cases hw:ws=[]
 ·exact concat_meets ⟨_,ho,rfl⟩ ⟨_,d5,rfl⟩ noFill_tuple_add seq_tuple_add Yer Yeh (Yea _ _)
   (tuple_addW1 t b vs.toArray ws.toArray n n2 dd dd2 sl mi (by simpa using hv) (by simp [hw])) ⟨ho,d5,h1 hw⟩
 ·refine concat_meets ⟨_,ho,rfl⟩ ⟨_,d5,rfl⟩ noFill_tuple_add seq_tuple_add Yer Yeh (Yea _ _)
   (tuple_addW2 t b vs.toArray ws.toArray n n2 dd dd2 sl mi (by simpa using hv) (by simpa using hw) (by rw [Yau,Yau];exact hsz)) ⟨ho,d5,?_⟩
  rw [e]
  exact h2 hw
def sIx(n d:Nat):Option Int->Nat
 | none=>d
 | some v=>if v < 0 then(v+(n:Int)).toNat else min v.toNat n
theorem Qaz(n d:Nat)(hd:d<=n)(o:Option Int):sIx n d o<=n:=by
 cases o with
 | none=>exact hd
 | some v =>
  show(if v < 0 then(v+(n:Int)).toNat else min v.toNat n)<=n
  by_cases hv:v < 0
  ·rw [Yao hv];omega
  ·rw [Yaj hv];exact Nat.min_le_right _ _
theorem O8(v:Int)(n d:Nat):(if v < 0 then max (v+(n:Int)) 0 else min v (n:Int))=((sIx n d (some v):Nat):Int):=by
 show(if v < 0 then max (v+(n:Int)) 0 else min v (n:Int))=(((if v < 0 then(v+(n:Int)).toNat else min v.toNat n):Nat):Int)
 by_cases hv:v < 0
 ·simp only [if_pos hv];omega
 ·simp only [if_neg hv];omega
theorem Nq(lo hi:Option Int)(n:Nat):Builtin.Slice.sliceAdjust lo hi 1 (n:Int)=(((sIx n 0 lo:Nat):Int),((sIx n n hi:Nat):Int)):=by
 have h1:¬((1:Int) < 0):=by omega
 unfold Builtin.Slice.sliceAdjust
 simp only [h1,if_false]
 refine Prod.ext ?_ ?_
 ·cases lo with
  | none=>rfl
  | some v=>exact O8 v n 0
 ·cases hi with
  | none=>rfl
  | some v=>exact O8 v n n
theorem Nr(i j:Nat):Builtin.Slice.slicePlaces (i:Int) (j:Int) 1=j - i:=by
 unfold Builtin.Slice.slicePlaces
 have h1:(1:Int) > 0:=by omega
 simp only [h1,if_true,Int.ediv_one]
 split <;> omega
theorem Hw{v:Value}{o:Option Int}{Q:Option Int->Shared->Prop}(p:IsPart v o)(h:Q o s):wpAny (model prog w) A (Builtin.Slice.slicePartIndex v) Q E s:=by
 cases p with
 | none=>exact slicePart_none h
 | int i t=>exact slicePart_int h
theorem Dz{sl:Addr}{vl vu:Value}{lo hi:Option Int}{n:Nat}{Q:Int×Int×Nat->Shared->Prop}(hs:s.heap.IsSliceOf sl vl vu .none)(pl:IsPart vl lo)(pu:IsPart vu hi)
  (h:Q (((sIx n 0 lo:Nat):Int),1,sIx n n hi - sIx n 0 lo) s):wpAny (model prog w) A (Builtin.Slice.sliceApplied (.ref sl) (pure (n:Int))) Q E s:=by
 obtain⟨os,hos,jy,hds⟩:=id hs
 unfold Builtin.Slice.sliceApplied Builtin.Slice.sliceFields
 refine Yaa (Yaa (wpAny_field hos hds (x:=vl) rfl (Yaa (wpAny_field hos hds (x:=vu) rfl (Yaa (wpAny_field hos hds (x:=.none) rfl (Yac ?_)))))))
 refine Yaa (slicePart_none ?_)
 show wpAny _ _ (if((1:Int)==0)=true then _ else _) _ _ s
 rw [Yaj (by decide)]
 refine Yaa (Hw pl (Yaa (Hw pu (Yaa (Yac ?_)))))
 show wpAny _ _ (match Builtin.Slice.sliceAdjust lo hi 1 (n:Int) with | (lo,hi)=>pure (lo,(1:Int),Builtin.Slice.slicePlaces lo hi 1)) _ _ s
 rw [Nq lo hi n]
 show wpAny _ _ (pure (((sIx n 0 lo:Nat):Int),(1:Int),Builtin.Slice.slicePlaces ((sIx n 0 lo:Nat):Int) ((sIx n n hi:Nat):Int) 1)) _ _ s
 rw [Nr]
 exact Yac h
theorem Sz(xs:Array Value)(i k:Nat):((List.range k).filterMap λ(m:Nat)=>xs[((i:Int)+(m:Int) * 1).toNat]?).toArray=((xs.toList.drop i).take k).toArray:=by
 have e:(λ(m:Nat)=>xs[((i:Int)+(m:Int) * 1).toNat]?)=λm=>xs[i+m]?:=by
  funext m
  have:((i:Int)+(m:Int) * 1).toNat=i+m:=by omega
  rw [this]
 rw [e]
 have:=pick_run xs i k
 rw [List.filterMap_map]at this
 have e2:((λx=>xs[x]?) ∘ λx=>i+x)=λm=>xs[i+m]?:=rfl
 rw [e2]at this
 rw [this]
theorem getItem_tuple_cut{t sl:Addr}{items:Array Value}{vl vu:Value}{lo hi:Option Int}{Q:Value->Shared->Prop}(ht:IsTup s.heap t items)(hs:s.heap.IsSliceOf sl vl vu .none)(pl:IsPart vl lo)(pu:IsPart vu hi)
  (hw:¬(sIx items.size 0 lo=0/\sIx items.size items.size hi=items.size))
  (h:Q (.ref s.heap.objs.size) { s with heap:=s.heap.push { cls:=.type "tuple",data:=.seq ((items.toList.drop (sIx items.size 0 lo)).take (sIx items.size items.size hi - sIx items.size 0 lo)).toArray } })
  (hsz:items.size<=sizeLine):wpAny (model prog w) A (getItem (.ref t) (.ref sl)) Q E s:=by
 have gt:sizeOk (.seq ((items.toList.drop (sIx items.size 0 lo)).take (sIx items.size items.size hi - sIx items.size 0 lo)).toArray):=by
  show((items.toList.drop (sIx items.size 0 lo)).take (sIx items.size items.size hi - sIx items.size 0 lo)).toArray.size<=sizeLine
  rw [Yau,Ybl,Ydn,Yas]
  omega
 have hj:sIx items.size items.size hi<=items.size:=Qaz _ _ (Yad _) hi
 obtain⟨os,hos,jy,hds⟩:=id hs
 have wa:s.TypeIs (.ref sl) "slice" := ⟨os,hos,jy⟩
 unfold getItem
 try with_reducible refine Ybs ?_
 first | refine Yaa (Yac ?_) | skip
 refine Yaa (wpAny_sequenceKey ht.typeIs (by decide) ?_)
 refine Yaa (wpAny_callSpecial?_slot (name:=Str.ofString "__getitem__") ht.typeIs Ybw
  (Ybu Ybw ht.typeIs entry_tuple_getitem ?_ (args_tuple_getitem _ _)))
 show wpAny _ _ (Builtin.Tuple.tupleItemsOf (.ref t) >>= _) _ _ s
 refine Yaa (tupleItemsOf_ ht ?_)
 refine Yaa (Yeb wa ?_)
 rw [Yao (by decide)]
 refine Yaa (Dz hs pl pu ?_)
 have gg:¬((((sIx items.size 0 lo:Nat):Int)==0 && (1:Int)==1 && (sIx items.size items.size hi - sIx items.size 0 lo)==items.size)=true):=by
  intro q
  rw [Ya7,Ya7]at q
  have q1:((sIx items.size 0 lo:Nat):Int)=0:=eq_of_beq q.1.1
  have q2:sIx items.size items.size hi - sIx items.size 0 lo=items.size:=eq_of_beq q.2
  exact hw ⟨by omega,by omega⟩
 show wpAny _ _ (if(((sIx items.size 0 lo:Nat):Int)==0 && (1:Int)==1 && (sIx items.size items.size hi - sIx items.size 0 lo)==items.size)=true then _ else _) _ _ s
 rw [Yaj gg,Sz]
 first
  | exact Yaa (m:=Builtin.Tuple.tupleExact _) (Ybd (Yac ⟨_,rfl,Yac h⟩) gt)
  | exact Yaa (m:=Builtin.Tuple.tupleExact _) (Ybd (Yaa (Yac (Yac ⟨_,rfl,Yac h⟩))) gt)
  | exact Yaa (Yaa (m:=Builtin.Tuple.tupleExact _) (Ybd (Yac (Yac ⟨_,rfl,Yac h⟩)) gt))
  | exact Yaa (Yaa (m:=Builtin.Tuple.tupleExact _) (Ybd (Yac ⟨_,rfl,Yac h⟩) gt))
end
end HT
namespace L2
open PySem PySem.Spec PyProof.Rows
abbrev TO:=St->Hp->(Option Int->Hp->Prop)->Prop
def PO(X:Cx)(e:Option Expr)(t:TO):Prop :=
 ∀(aa:List (Addr×Obj)) (s:Shared) (σ:St) (H:Hp) (Q:Option Int->Hp->Prop),Inv X aa σ H s->t σ H Q ->
  wpAny (model X.prog X.w) X.A (evalPart e X.env) (λu s'=>∃o H',Inv X aa σ H' s'/\IsPart u o/\Q o H') X.xe s
def Wi:TO:=λ_ H Q=>Q none H
def Qd1(t:TE):TO:=fun σ H Q=>t σ H λx H1=>∃i,x=.int i/\Q (some i) H1
section
variable {X:Cx}{e:Expr}{te:TE}{lo hi:Option Expr}{tl th:TO}{pos p2:Pos}
theorem Wj:PO X none Wi:=by
 intro aa s σ H Q I h
 rw [evalPart_none]
 exact Yac ⟨none,H,I,.none,h⟩
theorem Wk(h:PE X e te):PO X (some e) (Qd1 te):=by
 intro aa s σ H Q I hw
 rw [evalPart_some]
 refine thn (h aa s σ H _ I hw) λu s1 ng=>Cg ng λx H1 I1 r1 q1=>?_
 obtain⟨i,rfl,q⟩:=q1
 obtain⟨t,rfl⟩:=r1
 exact⟨some i,H1,I1,.int i t,q⟩
def SlR(X:Cx)(r:V->Option Int->Option Int->Hp->VK->Prop):Prop :=
 ∀(aa:List (Addr×Obj)) (s:Shared) (σ:St) (H:Hp) (x:V) (v vl vu:Value) (lo hi:Option Int) (sl:Addr) (Q:VK),Inv X aa σ H s->A6 x v->s.heap.IsSliceOf sl vl vu .none->IsPart vl lo->IsPart vu hi->r x lo hi H Q ->
  ∃T id,typeLookup (.type T) "__getitem__" = pure (some (.builtin id))/\s.TypeIs v T/\wpAny (model X.prog X.w) X.A (getItem v (.ref sl)) (EP X aa σ Q) X.xe s
def tSl(r:V->Option Int->Option Int->Hp->VK->Prop)(te:TE)(tl th:TO):TE:=fun σ H Q=>te σ H λx H1=>tl σ H1 λl H2=>th σ H2 λu H3=>r x l u H3 Q
theorem Ta{r:V->Option Int->Option Int->Hp->VK->Prop}(hr:SlR X r)(he:PE X e te)(hl:PO X lo tl)(hu:PO X hi th):PE X (.Subscript e (.Slice lo hi none p2) pos) (tSl r te tl th):=by
 intro aa s σ H Q I h
 refine Subscript_ (thn (he aa s σ H _ I h) λv s1 rh=>Cg rh λx H1 I1 r1 q1=>?_)
 refine wpAny_Slice (thn (hl aa s1 σ H1 _ I1 q1) λvl s2 ny=>Cg ny λl H2 I2 pl q2=>thn (hu aa s2 σ H2 _ I2 q2) λvu s3 q0=>Cg q0 λu H3 I3 pu q3=>?_)
 rw [evalPart_none]
 refine Yac ?_
 have I4:Inv X aa σ H3 { s3 with heap:=s3.heap.push { cls:=.type "slice",data:=.fields #[vl,vu,.none] } }:=I3.kept (t':=s3.toks) λb ob q=>Heap.get?_push_of_some _ q
 obtain⟨T,id,hT,ht,hg⟩:=hr aa { s3 with heap:=s3.heap.push { cls:=.type "slice",data:=.fields #[vl,vu,.none] } } σ H3 x v vl vu l u s3.heap.objs.size Q I4 r1 (Heap.IsSliceOf.new ..) pl pu q3
 show wpAny (model X.prog X.w) X.A (subscriptTail e (.Slice lo hi none p2) v (.ref s3.heap.objs.size)) (EP X aa σ Q) X.xe { s3 with heap:=s3.heap.push { cls:=.type "slice",data:=.fields #[vl,vu,.none] } }
 exact tail_any (ops:=[.ref s3.heap.objs.size,v]) ht hT hg (by with_unfolding_all rfl)
def Jj(xs:List V)(lo hi:Option Int):List V:=(xs.drop (HT.sIx xs.length 0 lo)).take (HT.sIx xs.length xs.length hi - HT.sIx xs.length 0 lo)
theorem G8(xs:List V)(lo hi:Option Int):(Jj xs lo hi).length<=xs.length:=by
 unfold Jj
 rw [Ybl,Ydn]
 omega
def Qhd(K:PySem.W.Frag):V->Option Int->Option Int->Hp->VK->Prop:=λx lo hi H Q=>∃a xs,x=.ref a/\Kl K H a xs /\
 ¬(HT.sIx xs.length 0 lo=0/\HT.sIx xs.length xs.length hi=xs.length)/\∀p,H p=none->Q (.ref p) (upd H p (.tup (Jj xs lo hi)))
theorem Qa0:SlR X (Qhd X.K):=by
 intro aa s σ H x v vl vu lo hi sl Q I rx hs pl pu h
 obtain⟨a,xs,rfl,hx,hw,q⟩:=h
 cases rx
 obtain⟨ae,r,ht,hz⟩:=I.tuple hx
 have ah:ae.toArray.size=xs.length:=by rw [Yau];exact r.length.symm
 refine⟨"tuple",_,Ybw.lookup,ht.typeIs,?_⟩
 refine HT.getItem_tuple_cut ht hs pl pu (by rw [ah];exact hw) ?_ (by rw [ah];exact hz)
 rw [ah]
 refine⟨.ref s.heap.objs.size,_,I.laid (t':=s.toks) (o:=.tup (Jj xs lo hi)) (λb ob q=>Heap.get?_push_of_some _ q) (Yad _) ?_,rfl,q _ (I.hok.fresh (Yad _))⟩
 exact⟨Yak (G8 xs lo hi) hz,_,(r.drop (HT.sIx xs.length 0 lo)).take (HT.sIx xs.length xs.length hi - HT.sIx xs.length 0 lo),IsTup.new _ _⟩
theorem Vals.nil_iff{xs:List V}{us:List Value}(r:Vals xs us):us=[]↔xs=[]:=by
 cases r with
 | nil=>simp
 | cons _ _=>simp
end
def Wl(n:Nat)(i:Int):Option Nat:=if 0<=i then(if i < n then some i.toNat else none) else if -(n:Int)<=i then some (i+n).toNat else none
def atI{α:Type}(xs:List α)(i:Int):Option α:=(Wl xs.length i).bind λj=>xs[j]?
theorem Wm{n:Nat}{i:Int}{j:Nat}(h:Wl n i=some j):seqIndex? i n=some j/\j < n/\-(n:Int)<=i/\i < n:=by
 unfold Wl at h
 by_cases h0:0<=i
 ·rw [Yao h0]at h
  by_cases h1:i < n
  ·rw [Yao h1]at h
   have e:i.toNat=j:=Ya6 h
   exact⟨by rw [seqIndex_of h0 h1,e],by omega,by omega,h1⟩
  ·rw [Yaj h1]at h;cases h
 ·rw [Yaj h0]at h
  by_cases h1:-(n:Int)<=i
  ·rw [Yao h1]at h
   have e:(i+n).toNat=j:=Ya6 h
   exact⟨by rw [seqIndex_neg (by omega) h1,e],by omega,h1,by omega⟩
  ·rw [Yaj h1]at h;cases h
theorem Km{α:Type}{xs:List α}{i:Int}{v:α}(h:atI xs i=some v):∃j,seqIndex? i xs.length=some j/\xs[j]?=some v/\j < xs.length/\-(xs.length:Int)<=i/\i < xs.length:=by
 unfold atI at h
 cases e:Wl xs.length i with
 | none=>rw [e]at h;cases h
 | some j =>
  rw [e]at h
  obtain⟨h1,h2,h3,h4⟩:=Wm e
  exact⟨j,h1,h,h2,h3,h4⟩
theorem Fm{α:Type}{xs:List α}{j:Nat}{v:α}(h:xs[j]?=some v):atI xs (j:Int)=some v:=by
 have hj:j < xs.length:=(List.getElem?_eq_some_iff.mp h).1
 have e:Wl xs.length (j:Int)=some j:=by
  unfold Wl
  rw [Yao (by omega),Yao (by omega)];simp
 unfold atI;rw [e];exact h
def O9(b:Expr):Prop:=∀o i,subscripted b false o i=operate [o,i] (getItem o i)
def IxR(X:Cx)(r:R2):Prop :=
 ∀(value slice:Expr) (aa:List (Addr×Obj)) (s:Shared) (σ:St) (H:Hp) (x y:V) (v u:Value) (Q:VK),Inv X aa σ H s->A6 x v->A6 y u->r x y H Q ->
  subscripted slice false v u=operate [v,u] (getItem v u)->wpAny (model X.prog X.w) X.A (subscriptTail value slice v u) (EP X aa σ Q) X.xe s
def MtR(X:Cx)(id:String)(r:V->List V->Hp->VK->Prop):Prop :=
 ∀(aa:List (Addr×Obj)) (s:Shared) (σ:St) (H:Hp) (x:V) (xs:List V) (v:Value) (us:List Value) (Q:VK),Inv X aa σ H s->A6 x v->Vals xs us->r x xs H Q ->
  wpAny (model X.prog X.w) X.A (call (.builtin id) (v :: us)) (EP X aa σ Q) X.xe s
section
variable {X:Cx}{a b:Expr}{ta tb:TE}{pos:Pos}
theorem Qd4{r:R2}(hr:IxR X r)(ha:PE X a ta)(hb:PE X b tb)(hs:O9 b):PE X (.Subscript a b pos) (tOp r ta tb):=by
 intro aa s σ H Q I h
 exact Subscript_ (Qdr ha hb I h λv u s2 x y H2 I2 rx ry q=>hr a b aa s2 σ H2 x y v u Q I2 rx ry q (hs _ _))
def Qhe(K:PySem.W.Frag):R2:=λx y H Q=>∃p xs i v,x=.ref p/\y=.int i/\E5 K H p xs/\atI xs i=some v/\Q v H
def Qhf(K:PySem.W.Frag):R2:=λx y H Q=>∃p xs i v,x=.ref p/\y=.int i/\Kl K H p xs/\atI xs i=some v/\Q v H
def Qhg:R2:=λx y H Q=>∃z i c,x=.str z/\y=.int i/\z.length<=sizeLine/\atI z.cps.toList i=some c/\Q (.str ⟨#[c]⟩) H
theorem Pa:IxR X (Qhe X.K):=by
 intro value slice aa s σ H x y v u Q I rx ry h hs
 obtain⟨p,xs,i,z,rfl,rfl,hq,he,q⟩:=h
 cases rx
 obtain⟨t,rfl⟩:=ry
 obtain⟨ae,r,pl,hz⟩:=I.list hq
 obtain⟨j,h1,h2,h3,h4,h5⟩:=Km he
 obtain⟨w,ew,fw⟩:=r.get h2
 have hl:=r.length
 have hn:=Hv
 have fin:EP X aa σ Q w s:=⟨z,H,I,fw,q⟩
 by_cases h0:0<=i
 ·have hj:i.toNat=j:=by
   rw [seqIndex_of h0 h5]at h1
   exact Ya6 h1
  exact item_listR pl.isList h0 (by omega) (by rw [hj];simpa using ew) fin hs
 ·have hj:(i+(ae.toArray.size:Int)).toNat=j:=by
   rw [seqIndex_neg (by omega) h4]at h1
   rw [Yau,<- hl]
   exact Ya6 h1
  exact subscriptTail_builtinR (x:=w) pl.isList.typeIs slot_list_getitem.lookup
   (wpAny_getItem_list_neg (Q:=λr s'=>r=w/\EP X aa σ Q r s') pl.isList (by omega) (by rw [Yau] <;> omega) (by omega) (by rw [hj];simpa using ew) ⟨rfl,fin⟩) hs
theorem Qa1:IxR X (Qhf X.K):=by
 intro value slice aa s σ H x y v u Q I rx ry h hs
 obtain⟨p,xs,i,z,rfl,rfl,hq,he,q⟩:=h
 cases rx
 obtain⟨t,rfl⟩:=ry
 obtain⟨ae,r,pl,hz⟩:=I.tuple hq
 obtain⟨j,h1,h2,h3,h4,h5⟩:=Km he
 obtain⟨w,ew,fw⟩:=r.get h2
 have hl:=r.length
 have hn:=Hv
 have fin:EP X aa σ Q w s:=⟨z,H,I,fw,q⟩
 exact subscriptTail_builtinR (x:=w) pl.typeIs slot_tuple_getitem.lookup
  (getItem_tuple (j:=j) (Q:=λr s'=>r=w/\EP X aa σ Q r s') pl (by omega) (by omega) (by rw [Yau,<- hl];exact h1) (by simpa using ew) ⟨rfl,fin⟩) hs
theorem Qa2:IxR X Qhg:=by
 intro value slice aa s σ H x y v u Q I rx ry h hs
 obtain⟨z,i,c,rfl,rfl,hz,he,q⟩:=h
 obtain⟨t,rfl⟩:=rx
 obtain⟨t',rfl⟩:=ry
 obtain⟨j,h1,h2,h3,h4,h5⟩:=Km he
 have hl:z.cps.toList.length=z.length:=by simp [Str.length]
 rw [hl]at h1 h4 h5
 have hn:=Hv
 exact tail_any (typeIs_str s z t) slot_str_getitem.lookup (getItem_str (c:=c) (by
  have e1:decide (i < -(2 ^ 63:Int))=false:=Yba (by omega)
  have e2:decide (i>=2 ^ 63)=false:=Yba (by omega)
  rw [e1,e2,Bool.or_false]) (by rw [h1];simpa using h2) ⟨.str ⟨#[c]⟩,H,I.tok _,⟨_,rfl⟩,q⟩) hs
theorem Kn(lo hi:Option Int)(n:Nat):(sliceBounds lo hi none n).1=((HT.sIx n 0 lo:Nat):Int)/\(sliceBounds lo hi none n).2.1=((HT.sIx n n hi:Nat):Int)/\(sliceBounds lo hi none n).2.2=1:=by
 refine⟨?_,?_,rfl⟩
 ·cases lo with
  | none=>simp [sliceBounds,HT.sIx]
  | some i =>
   simp only [sliceBounds,HT.sIx,Option.getD_none,show(1:Int) > 0 by decide,if_true]
   by_cases h:i < 0
   ·simp only [h,if_true] <;> omega
   ·simp only [h,if_false] <;> omega
 ·cases hi with
  | none=>simp [sliceBounds,HT.sIx]
  | some i =>
   simp only [sliceBounds,HT.sIx,Option.getD_none,show(1:Int) > 0 by decide,if_true]
   by_cases h:i < 0
   ·simp only [h,if_true] <;> omega
   ·simp only [h,if_false] <;> omega
theorem Jk(ae:List Value)(lo hi:Option Int):slicePick ae.toArray lo hi none=((ae.drop (HT.sIx ae.length 0 lo)).take (HT.sIx ae.length ae.length hi - HT.sIx ae.length 0 lo)).toArray:=by
 obtain⟨h1,h2,h3⟩:=Kn lo hi ae.toArray.size
 unfold slicePick
 rw [h1,h2,h3]
 simp only [sliceRange_one,pick_run,List.size_toArray] <;> rfl
def Qhh(K:PySem.W.Frag):V->Option Int->Option Int->Hp->VK->Prop:=λx lo hi H Q=>∃a xs,x=.ref a/\E5 K H a xs/\∀p,H p=none->Q (.ref p) (upd H p (.lst (Jj xs lo hi)))
theorem Wn:SlR X (Qhh X.K):=by
 intro aa s σ H x v vl vu lo hi sl Q I rx hs pl pu h
 obtain⟨a,xs,rfl,hx,q⟩:=h
 cases rx
 obtain⟨ae,r,ht,hz⟩:=I.list hx
 have ah:=r.length
 refine⟨"list",_,slot_list_getitem.lookup,ht.isList.typeIs,?_⟩
 refine wpAny_getItem_list_slice ht.isList hs pl pu .none (by simp) ?_ (by rw [Yau] <;> omega)
 rw [Jk,<- ah]
 refine⟨.ref s.heap.objs.size,_,I.laid (t':=s.toks) (o:=.lst (Jj xs lo hi)) (λb ob q=>Heap.get?_push_of_some _ q) (Yad _) ?_,rfl,q _ (I.hok.fresh (Yad _))⟩
 exact⟨Yak (G8 xs lo hi) hz,_,0,(r.drop (HT.sIx xs.length 0 lo)).take (HT.sIx xs.length xs.length hi - HT.sIx xs.length 0 lo),Heap.get?_push_size _ rfl⟩
theorem Eb:Ek X (.builtin "len") (λxs H Q=>∃p ys,xs=[.ref p]/\(E5 X.K H p ys\/Kl X.K H p ys)/\Q (.int ys.length) H):=by
 intro aa s σ H xs us Q I r h
 obtain⟨p,ys,rfl,hq,q⟩:=h
 obtain⟨u,rfl,rx⟩:=E6 r
 cases rx
 have hn:=Hv
 rcases hq with hq | hq
 ·obtain⟨ae,r',pl,hz⟩:=I.list hq
  have ah:=r'.length
  exact Calls.call_len_list pl.isList (by simp only [List.size_toArray] <;> omega) ⟨.int ys.length,H,I.tok _,⟨s.toks+1,by rw [Yau,ah]⟩,q⟩
 ·obtain⟨ae,r',pl,hz⟩:=I.tuple hq
  have ah:=r'.length
  exact len_tuple pl (by simp only [List.size_toArray] <;> omega) ⟨.int ys.length,H,I.tok _,⟨s.toks+1,by rw [Yau,ah]⟩,q⟩
theorem Ko:Ek X (.builtin "len") (λxs H Q=>∃z,xs=[.str z]/\z.length<=sizeLine/\Q (.int z.length) H):=by
 intro aa s σ H xs us Q I r h
 obtain⟨z,rfl,hz,q⟩:=h
 obtain⟨u,rfl,t,rfl⟩:=E6 r
 have hn:=Hv
 exact len_str (by omega) ⟨.int z.length,H,I.tok _,⟨_,rfl⟩,q⟩
theorem E7:Ek X (.type "tuple") (λxs H Q=>∃p ys,xs=[.ref p]/\((E5 X.K H p ys/\∀l,H l=none->Q (.ref l) (upd H l (.tup ys)))\/(Kl X.K H p ys/\Q (.ref p) H))):=by
 intro aa s σ H xs us Q I r h
 obtain⟨p,ys,rfl,h⟩:=h
 obtain⟨u,rfl,rx⟩:=E6 r
 cases rx
 rcases h with⟨hq,q⟩ | ⟨hq,q⟩
 ·obtain⟨ae,r',pl,hz⟩:=I.list hq
  have ah:=r'.length
  refine call_tuple_list pl.isList (λh' kp=>?_) (by simp only [List.size_toArray] <;> omega)
  have I1:Inv X aa σ H { s with heap:=h' }:=I.kept (t':=s.toks) kp
  have I2:Inv X aa σ (upd H h'.objs.size (.tup ys)) { s with heap:=h'.push { cls:=.type "tuple",data:=.seq ae.toArray } } :=
   I1.laid (t':=s.toks) (λb o e=>Heap.get?_push_of_some _ e) (Yad _) (show Bl X.prog X.w _ _ _ (.tup ys) from⟨hz,ae,r',IsTup.new _ _⟩)
  exact⟨.ref h'.objs.size,_,I2,rfl,q _ (I1.hok.fresh (Yad _))⟩
 ·obtain⟨ae,r',pl,hz⟩:=I.tuple hq
  exact call_tuple_same pl ⟨.ref p,H,I,rfl,q⟩
def tyV(K:PySem.W.Frag)(T:String)(x:V)(H:Hp):Prop:=match x with
 | .str _=>T = "str"
 | .int _=>T = "int"
 | .ref p=>(T = "list" /\ ∃xs,E5 K H p xs)\/(T = "tuple" /\ ∃o,K.lookup p=some o/\o.cls=.type "tuple" /\ o.dict=none) \/
   (T = "dict" /\ ((∃ab,H p=some (.dK ab))\/∃ab,H p=some (.dT ab)))\/(T = "set" /\ ∃S n,H p=some (.set S n))
 | _=>False
theorem Tb{aa:List (Addr×Obj)}{σ:St}{H:Hp}{s:Shared}{T:String}{x:V}{v:Value}(I:Inv X aa σ H s)(r:A6 x v)(ty:tyV X.K T x H) :
  s.TypeIs v T/\∀a,v=.ref a->∃ob,s.heap.get? a=some ob/\ob.dict=none:=by
 cases x with
 | str z =>
  obtain⟨t,rfl⟩:=r
  cases (show T = "str" from ty)
  exact⟨typeIs_str s z t,λ_ e=>nomatch e⟩
 | int i =>
  obtain⟨t,rfl⟩:=r
  cases (show T = "int" from ty)
  exact⟨typeIs_int s i t,λ_ e=>nomatch e⟩
 | ref p =>
  cases r
  rcases ty with⟨rfl,xs,hq⟩ | ⟨rfl,o,hk,hc,hd⟩ | ⟨rfl,hk⟩ | ⟨rfl,S,n,hk⟩
  ·obtain⟨ae,_,pl,_⟩:=I.list hq
   refine⟨pl.isList.typeIs,λa e=>?_⟩
   cases e
   obtain⟨o,n,e,c,hd,_⟩:=pl
   exact⟨o,e,hd⟩
  ·refine⟨⟨o,I.kIn p o hk,hc⟩,λa e=>?_⟩
   cases e
   exact⟨o,I.kIn _ o hk,hd⟩
  ·have z:∃o,s.heap.get? p=some o/\o.ExactDict:=by
    rcases hk with⟨ab,hk⟩ | ⟨ab,hk⟩
    ·obtain⟨_,_,_,_,o,_,_,e,ex,_⟩:=I.hok p _ hk
     exact⟨o,e,ex⟩
    ·obtain⟨_,_,_,_,o,_,_,e,ex,_⟩:=I.hok p _ hk
     exact⟨o,e,ex⟩
   obtain⟨o,e,ex⟩:=z
   refine⟨⟨o,e,ex.1⟩,λa e2=>?_⟩
   cases e2
   exact⟨o,e,ex.2.1⟩
  ·obtain⟨o,_,_,_,e,ex,_⟩:=I.hok p _ hk
   refine⟨⟨o,e,ex.1⟩,λa e2=>?_⟩
   cases e2
   exact⟨o,e,ex.2.1⟩
 | _=>exact False.elim ty
def Qhi(K:PySem.W.Frag)(T:String)(r:V->List V->Hp->VK->Prop)(to:TE):TE:=fun σ H Q=>to σ H λx H1=>tyV K T x H1/\r x [] H1 Q
def tBM(K:PySem.W.Frag)(T:String)(r:V->List V->Hp->VK->Prop)(to:TE)(t:TA):TE:=fun σ H Q=>to σ H λx H1=>tyV K T x H1/\t σ H1 λxs H2=>r x xs H2 Q
variable {o e:Expr}{es:List Expr}{to:TE}{t:TA}{name:Str}{ap ak:Pos}{T id:String}{r:V->List V->Hp->VK->Prop}
theorem Tc(pa:PlainAttrs T)(slot:Slot T name id)(jw:typeOf (.builtin id)=pure (.type "method_descriptor")) (hm:MtR X id r) (ho:PE X o to)
  (ck:attributeBase o name X.env (eval o X.env)=eval o X.env:=by rfl) (cg:(ap.endLine==ak.line)=true:=by rfl):PE X (.Call (.Attribute o name ap) [] [] ak) (Qhi X.K T r to):=by
 intro aa s σ H Q I h
 refine wpAny_Call_method0_late ck cg (thn (ho aa s σ H _ I h) λv s1 oz=>?_)
 obtain⟨x,H1,I1,r1,ty,q1⟩:=oz
 obtain⟨h1,h2⟩:=Tb I1 r1 ty
 exact⟨T,id,pa,slot,jw,h1,h2,Ydu rfl (PySem.evalArgs_none (hm aa s1 σ H1 x [] v [] Q I1 r1 .nil q1))⟩
theorem Qd5(pa:PlainAttrs T)(slot:Slot T name id)(jw:typeOf (.builtin id)=pure (.type "method_descriptor")) (hm:MtR X id r) (ho:PE X o to) (ha:PA X (e :: es) t)
  (ck:attributeBase o name X.env (eval o X.env)=eval o X.env:=by rfl)
  (lj:((backTo ak (starEach (e :: es) X.env)).all (λx=>!x.1) && (backToKw ak (keywordEach [] X.env)).all (λx=>x.1.isSome)
   && decide ((e :: es).length+([]:List Keyword).length+(if([]:List Keyword).isEmpty then 0 else 1) < 30))=true:=by rfl)
  (cg:(ap.endLine==ak.line)=true:=by rfl) (hs:starEach (e :: es) X.env=(false,eval e X.env) :: starEach es X.env:=by rfl) (gp:(backTo ak (starEach es X.env)).any (·.1)=false:=by rfl) :
  PE X (.Call (.Attribute o name ap) (e :: es) [] ak) (tBM X.K T r to t):=by
 intro aa s σ H Q I h
 refine wpAny_Call_method_late ck lj cg rfl (thn (ho aa s σ H _ I h) λv s1 p5=>?_)
 obtain⟨x,H1,I1,r1,ty,q1⟩:=p5
 obtain⟨h1,h2⟩:=Tb I1 r1 ty
 refine⟨T,id,pa,slot,jw,h1,h2,?_⟩
 have hA:=ha ak aa s1 σ H1 _ I1 q1
 rw [hs]at hA ⊢
 refine Ydu (by show(false || (backTo ak (starEach es X.env)).any (·.1))=false;rw [gp] <;> rfl) (Yfb ?_)
 exact thn hA λus s2 qb=>Cg qb λvs H2 I2 r2 q2=>hm aa s2 σ H2 x vs v us Q I2 r1 r2 q2
end
def MtM(X:Cx)(id:String)(r:V->List V->Hp->VK->Prop):Prop :=
 ∀(aa:List (Addr×Obj)) (s:Shared) (σ:St) (H:Hp) (x:V) (xs:List V) (v:Value) (us:List Value) (Q:VK),Inv X aa σ H s->A6 x v->Vals xs us->r x xs H Q ->
  wpAny (model X.prog X.w) X.A (call (.builtin id) (v :: us)) (EP X aa σ Q) X.xe s
theorem Vals.one:∀{x:V} {us:List Value},Vals [x] us->∃u,us=[u]/\A6 x u
 | _,_,.cons r .nil=>⟨_,rfl,r⟩
theorem Vals.zero:∀{us:List Value},Vals [] us->us=[]
 | _,.nil=>rfl
theorem Vals.dropLast{xs:List V}{us:List Value}(h:Vals xs us):Vals xs.dropLast us.dropLast:=by
 induction h with
 | nil=>exact .nil
 | cons r t ih =>
  cases t with
  | nil=>exact .nil
  | cons q t'=>exact .cons r ih
theorem Vals.reverse{xs:List V}{us:List Value}(h:Vals xs us):Vals xs.reverse us.reverse:=by
 induction h with
 | nil=>exact .nil
 | cons r t ih=>rw [Yev,Yev];exact Vals.append ih (.cons r .nil)
theorem Nt{α:Type}(l:List α):l.eraseIdx (l.length - 1)=l.dropLast:=by
 induction l with
 | nil=>rfl
 | cons a r ih =>
  cases r with
  | nil=>rfl
  | cons b r =>
   have e:(a :: b :: r).length - 1=((b :: r).length - 1)+1:=by
    have h1:(a :: b :: r).length=r.length+2:=rfl
    have h2:(b :: r).length=r.length+1:=rfl
    omega
   rw [e,List.eraseIdx_cons_succ,ih]
   all_goals rfl
section
variable {X:Cx}{aa:List (Addr×Obj)}{σ:St}{H:Hp}{s:Shared}{l b:Addr}{xs ys zs:List V}
theorem Inv.lset{ae its':List Value}{n:Nat}{f:Array Value->Array Value}{t':Nat}(I:Inv X aa σ H s)(hH:H l=some (.lst xs))
  (e:s.heap.get? l=some { cls:=.type "list",data:=.seq ae.toArray n }) (hf:f ae.toArray=its'.toArray) (hv:Vals ys its') (hz:ys.length<=sizeLine) :
  Inv X aa σ (upd H l (.lst ys)) { s with heap:=s.heap.update l (Obj.mapSeq f),toks:=t' }:=by
 have q:=PySem.IsL.update e f
 rw [hf]at q
 refine I.write (x:=l) (e:=l) (by rw [hH];exact trivial) (.inl rfl) (λb' u hb hu=>(Heap.get?_update_other s.heap (Obj.mapSeq f) (Yc3 hb)).trans hu) ⟨_,q⟩ ?_
 exact⟨hz,its',_,hv,q⟩
theorem Inv.lnew{ae:List Value}{t':Nat}(I:Inv X aa σ H s)(hv:Vals ys ae)(hz:ys.length<=sizeLine) :
  Inv X aa σ (upd H s.heap.objs.size (.lst ys)) { s with heap:=s.heap.push { cls:=.type "list",data:=.seq ae.toArray },toks:=t' } :=
 I.laid (λ_ _ q=>Heap.get?_push_of_some _ q) (Yad _) ⟨hz,ae,0,hv,Heap.get?_push_size _ rfl⟩
theorem Inv.fresh(I:Inv X aa σ H s):H s.heap.objs.size=none:=I.hok.fresh (Yad _)
theorem Inv.lstM(I:Inv X aa σ H s)(hH:H l=some (.lst xs)):xs.length<=sizeLine/\∃(ae:List Value) (n:Nat),Vals xs ae/\xs.length=ae.length/\s.heap.get? l=some { cls:=.type "list",data:=.seq ae.toArray n }:=by
 obtain⟨z,ae,n,r,e⟩:=I.hok l _ hH
 exact⟨z,ae,n,r,r.length,e⟩
theorem L4{n:Nat}(h:n<=sizeLine):Builtin.List.listTooLong n=false:=by
 unfold Builtin.List.listTooLong
 exact Yba (by omega)
end
section
variable {X:Cx}
def Wo:V->List V->Hp->VK->Prop:=λx vs H Q=>∃l xs y,x=.ref l/\vs=[y]/\H l=some (.lst xs)/\xs.length < sizeLine/\Q .non (upd H l (.lst (xs++[y])))
theorem Gk:MtM X "list.append" Wo:=by
 intro aa s σ H x vs v us Q I rx rv h
 obtain⟨l,xs,y,rfl,rfl,hH,hz,q⟩:=h
 cases rx
 obtain⟨u,rfl,ru⟩:=rv.one
 obtain⟨z,ae,n,r,hl,e⟩:=I.lstM hH
 refine call_meets F.slot_list_append ⟨_,e,rfl⟩ F.entry_list_append (F.args_list_append_2 _ _) (PySem.list_append l ae.toArray n u (by rw [Yau];omega)) ⟨e,?_⟩
 refine⟨.non,_,I.lset (its':=ae++[u]) hH e (by simp) (r.append (.cons ru .nil)) ?_,rfl,q⟩
 rw [Yal,Ye1]
 omega
def Wp:V->List V->Hp->VK->Prop:=λx vs H Q=>∃l b xs zs,x=.ref l/\vs=[.ref b]/\H l=some (.lst xs)/\H b=some (.lst zs)/\xs.length+zs.length<=sizeLine/\Q .non (upd H l (.lst (xs++zs)))
theorem Rh:MtM X "list.extend" Wp:=by
 intro aa s σ H x vs v us Q I rx rv h
 obtain⟨l,b,xs,zs,rfl,rfl,hH,hB,hz,q⟩:=h
 cases rx
 obtain⟨u,rfl,ru⟩:=rv.one
 cases ru
 obtain⟨z,ae,n,r,hl,e⟩:=I.lstM hH
 obtain⟨z2,its2,n2,r2,fy,e2⟩:=I.lstM hB
 have hsz:ae.toArray.size+its2.toArray.size<=sizeLine:=by rw [Yau,Yau];omega
 have jc:¬(!ae.toArray.isEmpty && Builtin.List.listTooLong (ae.toArray.size+its2.toArray.size))=true:=by
  rw [L4 hsz,Bool.and_false]
  exact Yag
 refine call_meets F.slot_list_extend ⟨_,e,rfl⟩ F.entry_list_extend (F.args_list_extend_2 _ _)
  (AutoSeq1.list_extend_list_list_0 l ae.toArray n b its2.toArray n2 jc (by rw [Yau];omega) (by omega)) ⟨e,e2,?_⟩
 refine⟨.non,_,I.lset (its':=ae++its2) hH e (by simp) (r.append r2) ?_,rfl,q⟩
 rw [Yal]
 omega
def Qhj:V->List V->Hp->VK->Prop:=λx vs H Q=>∃l xs y,x=.ref l/\vs=[]/\H l=some (.lst xs)/\xs[xs.length - 1]?=some y/\Q y (upd H l (.lst xs.dropLast))
theorem Qa3:MtM X "list.pop" Qhj:=by
 intro aa s σ H x vs v us Q I rx rv h
 obtain⟨l,xs,y,rfl,rfl,hH,hy,q⟩:=h
 cases rx
 have ir:=rv.zero
 subst ir
 obtain⟨z,ae,n,r,hl,e⟩:=I.lstM hH
 obtain⟨u,hu,ru⟩:=r.get hy
 have hy':ae.toArray[ae.toArray.size - 1]?=some u:=by
  show ae.toArray[ae.length - 1]?=some u
  rw [<- Array.getElem?_toList,<- hl]
  exact hu
 refine call_meets F.slot_list_pop ⟨_,e,rfl⟩ F.entry_list_pop (F.args_list_pop_1 _) (MeetsSeq.list_pop_last l ae.toArray n u hy' (by rw [Yau];omega)) ⟨e,?_⟩
 refine⟨y,_,I.lset (its':=ae.dropLast) hH e ?_ r.dropLast ?_,ru,q⟩
 ·show ae.toArray.eraseIdxIfInBounds (ae.toArray.size - 1)=ae.dropLast.toArray
  rw [Yau,List.eraseIdxIfInBounds_toArray,Nt]
 ·rw [List.length_dropLast]
  omega
def Qa4:V->List V->Hp->VK->Prop:=λx vs H Q=>∃l xs,x=.ref l/\vs=[]/\H l=some (.lst xs)/\Q .non (upd H l (.lst []))
theorem Td:MtM X "list.clear" Qa4:=by
 intro aa s σ H x vs v us Q I rx rv h
 obtain⟨l,xs,rfl,rfl,hH,q⟩:=h
 cases rx
 have ir:=rv.zero
 subst ir
 obtain⟨z,ae,n,r,hl,e⟩:=I.lstM hH
 refine call_meets F.slot_list_clear ⟨_,e,rfl⟩ F.entry_list_clear (F.args_list_clear_1 _) (AutoSeq1.list_clear_list_0 l ae.toArray n (by rw [Yau];omega)) ⟨e,?_⟩
 exact⟨.non,_,I.lset (its':=[]) (ys:=[]) hH e rfl .nil (Yaz _),rfl,q⟩
def Qhk:R2:=λx y H Q=>∃l b xs zs,x=.ref l/\y=.ref b/\H l=some (.lst xs)/\H b=some (.lst zs)/\xs.length+zs.length<=sizeLine/\∀p,H p=none->Q (.ref p) (upd H p (.lst (xs++zs)))
theorem Qa5:Hu X (binaryOp .Add) Qhk:=by
 intro aa s σ H x y v u Q I rx ry h
 obtain⟨l,b,xs,zs,rfl,rfl,hH,hB,hz,q⟩:=h
 cases rx
 cases ry
 obtain⟨z,ae,n,r,hl,e⟩:=I.lstM hH
 obtain⟨z2,its2,n2,r2,fy,e2⟩:=I.lstM hB
 refine PySem.P.add_list e e2 ?_ (by rw [Yau,Yau];omega)
 have ea:ae.toArray++its2.toArray=(ae++its2).toArray:=by simp
 rw [ea]
 exact⟨.ref _,_,I.lnew (t':=s.toks) (r.append r2) (by rw [Yal];omega),rfl,q _ I.fresh⟩
end
section
variable {prog:Program}{w:World}{A:Around}{E:Value->Shared->Prop}{s:Shared}
end
section
variable {X:Cx}
end
section
variable {κ:Type} [DecidableEq κ]
def Ds(ab:List (κ×V))(k:κ):Option V:=(ab.find? λkv=>decide (kv.1=k)).map (·.2)
def C7(ab:List (κ×V))(k:κ)(v:V):List (κ×V) :=
 if(ab.any λkv=>decide (kv.1=k))=true then ab.map (λkv=>if kv.1=k then(kv.1,v) else kv) else ab++[(k,v)]
theorem Hx{p:κ×V}{r:List (κ×V)}{k:κ}(e:p.1=k):Ds (p :: r) k=some p.2:=by simp [Ds,List.find?_cons,e]
theorem Hy{p:κ×V}{r:List (κ×V)}{k:κ}(e:¬p.1=k):Ds (p :: r) k=Ds r k:=by simp [Ds,List.find?_cons,e]
theorem L5(k:κ):∀ab:List (κ×V),(ab.any λkv=>decide (kv.1=k))=(Ds ab k).isSome
 | []=>rfl
 | p :: r=>by
  rw [Yc6]
  by_cases e:p.1=k
  ·simp only [Hx e,decide_eq_true e,Bool.true_or,Option.isSome_some]
  ·rw [Hy e,Yba e,Bool.false_or];exact L5 k r
theorem Dn(ab:List (κ×V))(k:κ)(v:V):(C7 ab k v).length<=ab.length+1:=by
 unfold C7
 split
 ·rw [Yab];omega
 ·rw [Yal,Ya9,List.length_nil];omega
theorem Gh.isSome_eq{o:Option V}{u:Option Value}(r:Gh o u):o.isSome=u.isSome:=by
 cases o with
 | none=>cases u with
  | none=>rfl
  | some _=>exact(show False from r).elim
 | some _=>cases u with
  | none=>exact(show False from r).elim
  | some _=>rfl
theorem Gh.getD{o:Option V}{u:Option Value}{d:V}{d':Value}(r:Gh o u)(rd:A6 d d'):A6 (o.getD d) (u.getD d'):=by
 cases o with
 | none=>cases u with
  | none=>exact rd
  | some _=>exact(show False from r).elim
 | some _=>cases u with
  | none=>exact(show False from r).elim
  | some _=>exact r
theorem KV.val{ab:List (κ×V)}{vs:List (κ×Value)}(r:KV ab vs)(k:κ):Gh (Ds ab k) (valueAt vs k):=by
 unfold KV at r
 induction r with
 | nil=>exact True.intro
 | @cons p q ps qs h t ih =>
  obtain⟨h1,h2⟩:=h
  by_cases e:p.1=k
  ·have e':q.1=k:=h1.symm.trans e
   have b:valueAt (q :: qs) k=some q.2:=by simp [valueAt,List.find?_cons,e']
   rw [Hx e,b];exact h2
  ·have e':¬q.1=k:=λz=>e (h1.trans z)
   have b:valueAt (q :: qs) k=valueAt qs k:=by simp [valueAt,List.find?_cons,e']
   rw [Hy e,b];exact ih
theorem KV.any{ab:List (κ×V)}{vs:List (κ×Value)}(r:KV ab vs)(k:κ):(ab.any λkv=>decide (kv.1=k))=vs.any λkv=>decide (kv.1=k):=by
 unfold KV at r
 induction r with
 | nil=>rfl
 | cons h t ih=>rw [Yc6,Yc6,ih,h.1]
theorem KV.repl{ab:List (κ×V)}{vs:List (κ×Value)}(r:KV ab vs)(k:κ){y:V}{u:Value}(ry:A6 y u) :
  KV (ab.map λkv=>if kv.1=k then(kv.1,y) else kv) (vs.map λkv=>if kv.1=k then(kv.1,u) else kv):=by
 unfold KV at r ⊢
 induction r with
 | nil=>exact .nil
 | @cons p q ps qs h t ih =>
  rw [Ya2,Ya2]
  refine .cons ?_ ih
  obtain⟨h1,h2⟩:=h
  by_cases e:p.1=k
  ·rw [Yao e,Yao (h1.symm.trans e)];exact⟨h1,ry⟩
  ·rw [Yaj e,Yaj (λz=>e (h1.trans z))];exact⟨h1,h2⟩
theorem KV.put{ab:List (κ×V)}{vs:List (κ×Value)}(r:KV ab vs)(k:κ){y:V}{u:Value}(ry:A6 y u):KV (C7 ab k y) (stored vs k u):=by
 unfold C7 stored
 rw [r.any k]
 by_cases e:(vs.any λkv=>decide (kv.1=k))=true
 ·rw [Yao e,Yao e];exact r.repl k ry
 ·rw [Yaj e,Yaj e];exact Paired.snoc r ⟨rfl,ry⟩
theorem KV.length{ab:List (κ×V)}{vs:List (κ×Value)}(r:KV ab vs):ab.length=vs.length:=Ycw r
end
theorem Ju{P:Program}{w:World}{k:Key}{u:Value}(r:A6 (kV k) u):(Ap P w).is k u=true:=by
 cases k with
 | inl i=>obtain⟨t,e⟩:=(show ∃t,u=Value.int i t from r);subst e;exact Cf P w i t
 | inr x=>obtain⟨t,e⟩:=(show ∃t,u=Value.str x t from r);subst e;exact Ej P w x t
theorem Jv{P:Program}{w:World}:∀{ks:List Key} {us:List Value},Vals (ks.map kV) us->ItemsAre (Ap P w) ks us
 | [],_,r=>by rw [List.map_nil]at r;cases r;exact .nil
 | k :: ks,_,r=>by
  rw [Ya2]at r
  cases r with
  | cons h t=>exact .cons (Ju h) (Jv t)
abbrev KT(H:Hp):List (List Key×V)->List (List Key×Addr×Value)->Prop:=Paired λp q=>p.1=q.1/\H q.2.1=some (.tup (p.1.map kV))/\A6 p.2 q.2.2
theorem KT.val{H:Hp}{ab:List (List Key×V)}{xs:List (List Key×Addr×Value)}(r:KT H ab xs)(k:List Key):Gh (Ds ab k) ((atKey xs k).map (·.2)):=by
 induction r with
 | nil=>exact True.intro
 | @cons p q ps qs h t ih =>
  obtain⟨h1,_,h2⟩:=h
  by_cases e:p.1=k
  ·have e':q.1=k:=h1.symm.trans e
   have b:atKey (q :: qs) k=some q.2:=by simp [atKey,List.find?_cons,e']
   rw [Hx e,b];exact h2
  ·have e':¬q.1=k:=λz=>e (h1.trans z)
   have b:atKey (q :: qs) k=atKey qs k:=by simp [atKey,List.find?_cons,e']
   rw [Hy e,b];exact ih
theorem KT.repl{H:Hp}{ab:List (List Key×V)}{xs:List (List Key×Addr×Value)}(r:KT H ab xs)(k:List Key){y:V}{u:Value}(ry:A6 y u) :
  KT H (ab.map λkv=>if kv.1=k then(kv.1,y) else kv) (xs.map (putAt k u)):=by
 induction r with
 | nil=>exact .nil
 | @cons p q ps qs h t ih =>
  rw [Ya2,Ya2]
  refine .cons ?_ ih
  obtain⟨h1,h2,h3⟩:=h
  unfold putAt
  by_cases e:p.1=k
  ·rw [Yao e,Yao (h1.symm.trans e)];exact⟨h1,h2,ry⟩
  ·rw [Yaj e,Yaj (λz=>e (h1.trans z))];exact⟨h1,h2,h3⟩
theorem KT.put{H:Hp}{ab:List (List Key×V)}{xs:List (List Key×Addr×Value)}(r:KT H ab xs)(k:List Key){b:Addr}{y:V}{u:Value}(hb:H b=some (.tup (k.map kV)))(ry:A6 y u) :
  KT H (C7 ab k y) (storedH xs k b u):=by
 have e:(ab.any λkv=>decide (kv.1=k))=(atKey xs k).isSome:=by
  rw [L5,(r.val k).isSome_eq,Option.isSome_map]
 unfold C7 storedH
 rw [e]
 by_cases q:(atKey xs k).isSome=true
 ·rw [Yao q,Yao q];exact r.repl k ry
 ·rw [Yaj q,Yaj q];exact Paired.snoc r ⟨rfl,hb,ry⟩
theorem KT.keeps{H H':Hp}{ab:List (List Key×V)}{xs:List (List Key×Addr×Value)}(r:KT H ab xs)(ht:∀b ys,H b=some (.tup ys)->H' b=some (.tup ys)):KT H' ab xs :=
 Paired.mapP r λ_ _ z=>⟨z.1,ht _ _ z.2.1,z.2.2⟩
section
variable {P:Program}{w:World}{H:Hp}{h:Heap}{a:Addr}
theorem Y5{u:HO}(ok:HOk P w H h)(e:Rd H a u):Bl P w H h a u:=e.ok ok
theorem Hz{ab:List (Key×V)}(ok:HOk P w H h)(e:Rd H a (.dK ab)):ab.length<=sizeLine/\(a==sysModules)=false/\∃vs,KV ab vs/\h.DictOf (Ap P w) a vs :=
 show Bl P w H h a (.dK ab) from Y5 ok e
theorem Y6{ab:List (Key×V)}(ok:HOk P w H h)(e:H a=some (.dK ab)):ab.length<=sizeLine/\(a==sysModules)=false/\∃vs,KV ab vs/\h.DictOf (Ap P w) a vs:=Hz ok (.inl e)
theorem Gm{ks:List Key}(ok:HOk P w H h)(e:H a=some (.tup (ks.map kV))):(tupleKind (Ap P w)).is h ks a:=by
 obtain⟨_,ae,r,o,h1,h2,n,h3⟩:=(show Bl P w H h a (.tup (ks.map kV)) from ok a _ e)
 exact⟨o,ae.toArray,n,h1,h2,h3,by simpa using Jv r⟩
theorem Jw{ab:List (List Key×V)}(ok:HOk P w H h)(e:Rd H a (.dT ab)):ab.length<=sizeLine/\(a==sysModules)=false /\
  ∃xs,KT H ab xs/\h.DictOfH (tupleKind (Ap P w)) a xs:=by
 obtain⟨z,y,xs,r,o,es,ep,h1,h2,h3,h4,h5⟩:=(show Bl P w H h a (.dT ab) from Y5 ok e)
 refine⟨z,y,xs,r,o,es,ep,h1,h2,h3,h4,λx hx=>?_,h5⟩
 have all:∀{l:List (List Key×V)} {m:List (List Key×Addr×Value)},KT H l m->∀x∈m,(tupleKind (Ap P w)).is h x.1 x.2.1:=by
  intro l m q
  induction q with
  | nil=>intro x hx;exact nomatch hx
  | @cons p q ps qs hq t ih =>
   intro x hx
   rcases Yap.mp hx with e | hx
   ·subst e
    exact Gm ok (by rw [<- hq.1];exact hq.2.1)
   ·exact ih x hx
 exact all r x hx
theorem Te{ab:List (List Key×V)}(ok:HOk P w H h)(e:H a=some (.dT ab)):ab.length<=sizeLine/\(a==sysModules)=false /\
  ∃xs,KT H ab xs/\h.DictOfH (tupleKind (Ap P w)) a xs:=Jw ok (.inl e)
end
def DGet(H:Hp)(a:Addr)(y:V)(r:Option V):Prop :=
 (∃ab k,Rd H a (.dK ab)/\y=kV k/\r=Ds ab k)\/∃ab k b,Rd H a (.dT ab)/\y=.ref b/\H b=some (.tup (k.map kV))/\r=Ds ab k
def DPut(H:Hp)(a:Addr)(y v:V)(H':Hp):Prop :=
 (∃ab k,H a=some (.dK ab)/\y=kV k/\ab.length < sizeLine/\H'=upd H a (.dK (C7 ab k v))) \/
 ∃ab k b,H a=some (.dT ab)/\y=.ref b/\H b=some (.tup (k.map kV))/\ab.length < sizeLine/\H'=upd H a (.dT (C7 ab k v))
theorem DGet.k{H:Hp}{a:Addr}{ab:List (Key×V)}{k:Key}(e:H a=some (.dK ab)):DGet H a (kV k) (Ds ab k):=.inl ⟨ab,k,.inl e,rfl,rfl⟩
theorem DGet.t{H:Hp}{a b:Addr}{ab:List (List Key×V)}{k:List Key}(e:H a=some (.dT ab))(eb:H b=some (.tup (k.map kV))):DGet H a (.ref b) (Ds ab k):=.inr ⟨ab,k,b,.inl e,rfl,eb,rfl⟩
theorem DPut.k{H:Hp}{a:Addr}{ab:List (Key×V)}{k:Key}{v:V}(e:H a=some (.dK ab))(hl:ab.length < sizeLine):DPut H a (kV k) v (upd H a (.dK (C7 ab k v))):=.inl ⟨ab,k,e,rfl,hl,rfl⟩
theorem DPut.t{H:Hp}{a b:Addr}{ab:List (List Key×V)}{k:List Key}{v:V}(e:H a=some (.dT ab))(eb:H b=some (.tup (k.map kV)))(hl:ab.length < sizeLine) :
  DPut H a (.ref b) v (upd H a (.dT (C7 ab k v))):=.inr ⟨ab,k,b,e,rfl,eb,hl,rfl⟩
section
variable {X:Cx}{aa:List (Addr×Obj)}{σ:St}{H:Hp}{s:Shared}{a:Addr}{y v:V}{u r:Value}{o:Option V}{A:Around}{E:Value->Shared->Prop}
theorem Inv.big(I:Inv X aa σ H s):sysModules < s.heap.objs.size:=by
 have h:mainGlobals < s.heap.objs.size:=(I.mod.glob.keeps I.bk).lt
 exact Nat.lt_trans (by decide) h
theorem Ri{Q:Value->Shared->Prop}(hu:A.units+1 < cLine)(I:Inv X aa σ H s)(g:DGet H a y (some v))(ry:A6 y u)(h:∀w' s',Inv X aa σ H s'->A6 v w'->Q w' s') :
  wpAny (model X.prog X.w) A (getItem (.ref a) u) Q E s:=by
 rcases g with⟨ab,k,e,ey,l⟩ | ⟨ab,k,b,e,ey,eb,l⟩
 ·subst ey
  obtain⟨z,hd,vs,rel,dd⟩:=Hz I.hok e
  obtain⟨w',hw,fw⟩:=Gh.some_of (v:=v) (o:=valueAt vs k) (by rw [l];exact rel.val k)
  exact wpAny_getItem_of (Ju ry) dd.mapOf hw (h w' _ (I.tok _) fw)
 ·subst ey
  cases (show u=Value.ref b from ry)
  obtain⟨z,hd,xs,rel,dd⟩:=Jw I.hok e
  obtain⟨w',hw,fw⟩:=Gh.some_of (v:=v) (o:=(atKey xs k).map (·.2)) (by rw [l];exact rel.val k)
  obtain⟨p,hp,fb⟩:=Yah.mp hw
  refine wpAny_getItem_heap (Ydv hu) (Gm I.hok eb) dd hp ?_
  rw [fb]
  exact h w' _ (I.tok _) fw
theorem Wq{Q:Value->Shared->Prop}(hu:A.units+1 < cLine)(I:Inv X aa σ H s)(g:DGet H a y o)(ry:A6 y u)(h:∀s',Inv X aa σ H s'->Q (.bool (!o.isSome)) s') :
  wpAny (model X.prog X.w) A (compareOp .NotIn u (.ref a)) Q E s:=by
 rcases g with⟨ab,k,e,ey,l⟩ | ⟨ab,k,b,e,ey,eb,l⟩
 ·subst ey
  obtain⟨z,hd,vs,rel,dd⟩:=Hz I.hok e
  refine wpAny_notIn_of (Ju ry) hd dd.mapOf ?_
  rw [<- (rel.val k).isSome_eq,<- l]
  exact h _ (I.tok _)
 ·subst ey
  cases (show u=Value.ref b from ry)
  obtain⟨z,hd,xs,rel,dd⟩:=Jw I.hok e
  refine wpAny_notIn_heap (Ydv hu) (Gm I.hok eb) hd dd ?_
  have q:=(rel.val k).isSome_eq
  rw [Option.isSome_map]at q
  rw [<- q,<- l]
  exact h _ (I.tok _)
theorem Hq{h':Heap}{t':Nat}{ob:HO}(I:Inv X aa σ H s)(mu:Mut (H a))(hs:Heap.SameBut a s.heap h')(he:∃q,h'.get? a=some q)(new:Bl X.prog X.w (upd H a ob) h' a ob) :
  Inv X aa σ (upd H a ob) { s with heap:=h',toks:=t' } :=
 I.write (x:=a) (e:=a) mu (.inl rfl) (λb q hb z=>(hs.2 b hb).trans z) he new
theorem Tf{P:Program}{w:World}{H':Hp}{h':Heap}{ab:List (Key×V)}{vs:List (Key×Value)}(z:ab.length<=sizeLine)(hd:(a==sysModules)=false)(rel:KV ab vs)(dd:h'.DictOf (Ap P w) a vs) :
  Bl P w H' h' a (.dK ab):=⟨z,hd,vs,rel,dd⟩
theorem Rj{H':Hp}{Q:Unit->Shared->Prop}(hu:A.units+1 < cLine)(I:Inv X aa σ H s)(g:DPut H a y v H')(ry:A6 y u)(rv:A6 v r)(h:∀s',Inv X aa σ H' s'->Q () s') :
  wpAny (model X.prog X.w) A (setItem (.ref a) u r) Q E s:=by
 rcases g with⟨ab,k,e,ey,l,eH⟩ | ⟨ab,k,b,e,ey,eb,l,eH⟩
 ·subst ey eH
  obtain⟨z,hd,vs,rel,dd⟩:=Y6 I.hok e
  have hz:vs.length<=sizeLine:=by rw [<- rel.length];exact z
  have hl:(C7 ab k v).length<=sizeLine:=by have:=Dn ab k v;omega
  refine wpAny_setItem_pairs (hsz:=hz) (Ju ry) dd λh' ju hs=>h _ ?_
  have he:∃q,h'.get? a=some q:=let⟨q,_,_,hq,_⟩:=ju;⟨q,hq⟩
  exact Hq I (by rw [e];exact True.intro) hs he (Tf hl hd (rel.put k rv) ju)
 ·subst ey eH
  cases (show u=Value.ref b from ry)
  obtain⟨z,hd,xs,rel,dd⟩:=Te I.hok e
  have hz:xs.length<=sizeLine:=by rw [<- Ycw rel];exact z
  have hl:(C7 ab k v).length<=sizeLine:=by have:=Dn ab k v;omega
  refine wpAny_setItem_heap (hsz:=hz) (Ydv hu) (Gm I.hok eb) dd λh' ju hs=>h _ ?_
  obtain⟨q,es,ep,hq,h2,h3,h4,_,h5⟩:=ju
  refine Hq I (by rw [e];exact True.intro) hs ⟨q,hq⟩ ⟨hl,hd,_,(rel.put k eb rv).keeps λc ys ec=>?_,q,es,ep,hq,h2,h3,h4,h5⟩
  rw [A7 (O6 ec e (λz=>nomatch z))]
  exact ec
end
section
variable {X:Cx}{aa:List (Addr×Obj)}{σ:St}{H:Hp}{s:Shared}{a:Addr}{ab:List (Key×V)}{k:Key}{u:Value}{A:Around}{E:Value->Shared->Prop}
theorem Qd7{Q:Value->Shared->Prop}(I:Inv X aa σ H s)(e:Rd H a (.dK ab))(h:∀t s',Inv X aa σ H s'->Q (.int ab.length t) s'):wpAny (model X.prog X.w) A (call (.builtin "len") [.ref a]) Q E s:=by
 obtain⟨z,hd,vs,rel,dd⟩:=Hz I.hok e
 refine call_len_dict hd dd (by rw [<- rel.length];rw [sizeLine_eq]at z;omega) ?_
 rw [<- rel.length]
 exact h _ _ (I.tok _)
end
def Qa6(i:Expr):Prop:=∀ov iv,subscripted i false ov iv=operate [ov,iv] (getItem ov iv)
theorem Wr{prog:Program}{w:World}{A:Around}{E:Value->Shared->Prop}{s:Shared}{env:Env}{value slice:Expr}{pos:Pos}{T id:String}{Q:Value->Shared->Prop}
  (hl:typeLookup (.type T) "__getitem__" = pure (some (.builtin id))) (hs:Qa6 slice)
  (h:wpAny (model prog w) A (eval value env) (λo s₁=>wpAny (model prog w) A (eval slice env) (λi s₂=>s₂.TypeIs o T/\wpAny (model prog w) A (getItem o i) Q E s₂) E s₁) E s) :
  wpAny (model prog w) A (eval (.Subscript value slice pos) env) Q E s:=by
 refine Subscript_ (Yb1 h (λo s₁ h₁=>Yb1 h₁ (λi s₂ h₂=>?_) λ_ _ x=>x) λ_ _ x=>x)
 obtain⟨hT,h₂⟩:=h₂
 unfold subscriptTail
 refine Yaa ?_
 rw [getitemInPython_of_ne hT.not_modules]
 refine Yaa (Ycz hT hl ?_)
 have fin:wpAny (model prog w) A (subscripted slice false o i) (λr s₃=>wpAny (model prog w) A (letTemporaryGo value o r >>= λ_=>pure r) Q E s₃) E s₂:=by
  rw [hs o i]
  exact wpAny_operating (Yb1 h₂ (λr s₃ h₃=>Yaa (wpAny_letTemporaryGo (Yac h₃))) λ_ _ x=>x)
 first
  | exact Yac (Yaa fin)
  | exact Yaa (Yac (Yaa fin))
  | exact Yaa fin
theorem L6{X:Cx}{aa:List (Addr×Obj)}{σ:St}{H:Hp}{s:Shared}{a:Addr}{y:V}{o:Option V}(I:Inv X aa σ H s)(g:DGet H a y o):s.TypeIs (.ref a) "dict" := by
 rcases g with⟨ab,k,e,_,_⟩ | ⟨ab,k,b,e,_,_,_⟩
 ·obtain⟨_,_,vs,_,dd⟩:=Hz I.hok e
  exact dd.typeIs
 ·obtain⟨_,_,xs,_,dd⟩:=Jw I.hok e
  exact dd.typeIs
def Qd8(td ty:TE):TE:=fun σ H Q=>td σ H λx H1=>ty σ H1 λy H2=>∃a v,x=.ref a/\DGet H2 a y (some v)/\Q v H2
def Pb(ty td:TE):TE:=fun σ H Q=>ty σ H λy H1=>td σ H1 λx H2=>∃a o,x=.ref a/\DGet H2 a y o/\Q (.bl (!o.isSome)) H2
def Qd9(td ty tv:TE):TS:=λD σ H=>tv σ H λv H1=>td σ H1 λx H2=>ty σ H2 λy H3=>∃a H4,x=.ref a/\DPut H3 a y v H4/\D.nx σ H4
section
variable {X:Cx}{o i e value:Expr}{pos bt wz:Pos}{td ty tv:TE}
theorem Ws(hu:X.A.units+1 < cLine)(ho:PE X o td)(hi:PE X i ty)(hs:Qa6 i):PE X (.Subscript o i pos) (Qd8 td ty):=by
 intro aa s σ H Q I h
 refine Wr PySem.F.slot_dict_getitem.lookup hs (thn (ho aa s σ H _ I h) λu s1 p9=>Cg p9 λx H1 I1 rx q1=>thn (hi aa s1 σ H1 _ I1 q1) λiv s2 nh=>?_)
 obtain⟨y,H2,I2,ry,a,v,ex,g,q2⟩:=nh
 subst ex
 obtain rfl:u=Value.ref a:=rx
 exact⟨L6 I2 g,Ri hu I2 g ry λw' s3 I3 fw=>⟨v,H2,I3,fw,q2⟩⟩
theorem Rk(hu:X.A.units+1 < cLine)(hi:PE X i ty)(ho:PE X o td):PC X .NotIn i o (Pb ty td):=by
 intro aa s σ H Q I h
 refine thn (hi aa s σ H _ I h) λiv s1 oj=>Cg oj λy H1 I1 ry q1=>thn (ho aa s1 σ H1 _ I1 q1) λu s2 qo=>?_
 obtain⟨x,H2,I2,rx,a,ov,ex,g,q2⟩:=qo
 subst ex
 obtain rfl:u=Value.ref a:=rx
 exact Wq hu I2 g ry λs3 I3=>⟨.bl (!ov.isSome),H2,I3,rfl,q2⟩
theorem Wt(hu:X.A.units+1 < cLine)(ho:PE X o td)(hi:PE X i ty)(hv:PE X value tv)(hs:swapsWith value (some (.Subscript o i bt)) pos.line X.env=pure false) :
  PS X (.Assign [.Subscript o i bt] value pos) (Qd9 td ty tv):=by
 intro aa s σ H D I h
 refine wpAny_Assign_Subscript (thn (hv aa s σ H _ I h) λr s1 qd=>Cg qd λv H1 I1 rv q1=>thn (ho aa s1 σ H1 _ I1 q1) λu s2 qi=>Cg qi λx H2 I2 rx q2=>thn (hi aa s2 σ H2 _ I2 q2) λiv s3 nn=>?_) hs
 obtain⟨y,H3,I3,ry,a,H4,ex,g,q3⟩:=nn
 subst ex
 obtain rfl:u=Value.ref a:=rx
 exact Rj hu I3 g ry rv λs4 I4=>⟨σ,H4,I4,q3⟩
end
theorem L7{P:Program}{w:World}{H:Hp}(h:Heap)(hb:sysModules < h.objs.size):Bl P w H (h.push { cls:=.type "dict",data:=.dict #[] }) h.objs.size (.dK []) :=
 ⟨Yaz _,Yd9.mpr (Yc3 (Yai hb)),[],.nil,Heap.DictOf.new h⟩
theorem Tg{P:Program}{w:World}{H:Hp}(h:Heap)(hb:sysModules < h.objs.size):Bl P w H (h.push { cls:=.type "dict",data:=.dict #[] }) h.objs.size (.dT []) :=
 ⟨Yaz _,Yd9.mpr (Yc3 (Yai hb)),[],.nil,_,#[],0,Heap.get?_push_size _ rfl,⟨rfl,rfl,rfl⟩,rfl,rfl,Ydr⟩
def Qa7:TE:=λ_ H Q=>∀p,H p=none->Q (.ref p) (upd H p (.dK []))
def Qa8:TE:=λ_ H Q=>∀p,H p=none->Q (.ref p) (upd H p (.dT []))
section
variable {X:Cx}{pos:Pos}
theorem Th:PE X (.Dict [] [] pos) Qa7:=λaa s σ H Q I h =>
 wpAny_Dict_empty ⟨.ref s.heap.objs.size,_,I.laid (a:=s.heap.objs.size) (o:=.dK []) (t':=s.toks) (λ_ _ q=>Heap.get?_push_of_some _ q) (Yad _) (L7 s.heap I.big),rfl,h _ (I.hok.fresh (Yad _))⟩
theorem Ti:PE X (.Dict [] [] pos) Qa8:=λaa s σ H Q I h =>
 wpAny_Dict_empty ⟨.ref s.heap.objs.size,_,I.laid (a:=s.heap.objs.size) (o:=.dT []) (t':=s.toks) (λ_ _ q=>Heap.get?_push_of_some _ q) (Yad _) (Tg s.heap I.big),rfl,h _ (I.hok.fresh (Yad _))⟩
end
def Kq:List (TE×TE)->St->Hp->(List (V×V)->Hp->Prop)->Prop
 | [],_,H,Q=>Q [] H
 | (tk,tv) :: r,σ,H,Q=>tk σ H λx H1=>tv σ H1 λy H2=>Kq r σ H2 λps H3=>Q ((x,y) :: ps) H3
abbrev VV:List (V×V)->List (Value×Value)->Prop:=Paired λp q=>A6 p.1 q.1/\A6 p.2 q.2
def PPs(X:Cx)(pos:Pos)(bi:List (Option Expr))(ax:List Expr)(jr:List (TE×TE)):Prop :=
 ∀(aa:List (Addr×Obj)) (s:Shared) (σ:St) (H:Hp) (Q:List (V×V)->Hp->Prop),Inv X aa σ H s->Kq jr σ H Q ->
  wpAny (model X.prog X.w) X.A (evalPairs (pairTrees bi ax X.env pos)) (λvs s'=>∃ps H',Inv X aa σ H' s'/\VV ps vs/\Q ps H') X.xe s
theorem Wu{X:Cx}{pos:Pos}:PPs X pos [] [] []:=λaa s σ H Q I h=>pairTrees_nil_walk ⟨[],H,I,.nil,h⟩
theorem Tj{X:Cx}{pos:Pos}{k v:Expr}{ks:List (Option Expr)}{vs:List Expr}{tk tv:TE}{jr:List (TE×TE)}(hk:PE X k tk)(hv:PE X v tv)(hr:PPs X pos ks vs jr) :
  PPs X pos (some k :: ks) (v :: vs) ((tk,tv) :: jr):=λaa s σ H Q I h =>
 pairTrees_cons_walk (thn (hk aa s σ H _ I h) λu s1 pi=>Cg pi λx H1 I1 rx q1=>thn (hv aa s1 σ H1 _ I1 q1) λw2 s2 ph=>Cg ph λy H2 I2 ry q2 =>
  thn (hr aa s2 σ H2 _ I2 q2) λws s3 px=>Cg px λps H3 I3 rel q3=>⟨(x,y) :: ps,H3,I3,.cons ⟨rx,ry⟩ rel,q3⟩)
def Fa(ab more:List (Key×V)):List (Key×V):=more.foldl (λacc kv=>C7 acc kv.1 kv.2) ab
theorem KV.merge:∀{more:List (Key×V)} {rs:List (Key×Value)} {ab:List (Key×V)} {vs:List (Key×Value)},KV more rs->KV ab vs->KV (Fa ab more) (merged vs rs):=by
 intro more rs ab vs r
 unfold KV at r
 induction r generalizing ab vs with
 | nil=>intro q;exact q
 | @cons p q ps qs h t ih =>
  intro r0
  have e:KV (C7 ab p.1 p.2) (stored vs q.1 q.2):=by
   have:=r0.put p.1 h.2
   rw [<- h.1];exact this
  exact ih e
theorem E8:∀(more ab:List (Key×V)),(Fa ab more).length<=ab.length+more.length
 | [],ab=>by show ab.length<=ab.length+0;omega
 | p :: r,ab=>by
  have h1:=E8 r (C7 ab p.1 p.2)
  have h2:=Dn ab p.1 p.2
  show(Fa (C7 ab p.1 p.2) r).length<=_
  rw [Ya9];omega
theorem Ia{P:Program}{w:World}:∀{ab:List (Key×V)} {ws:List (Value×Value)},VV (ab.map λkv=>(kV kv.1,kv.2)) ws->∃rs,Carries (Ap P w) ws rs/\KV ab rs
 | [],_,r=>by rw [List.map_nil]at r;cases r;exact⟨[],True.intro,.nil⟩
 | p :: ab,_,r=>by
  rw [Ya2]at r
  cases r with
  | @cons a b as bs h t =>
   obtain⟨rs,c,q⟩:=Ia (P:=P) (w:=w) t
   obtain⟨b1,b2⟩:=b
   exact⟨(p.1,b2) :: rs,⟨Ju h.1,rfl,c⟩,.cons ⟨rfl,h.2⟩ q⟩
def Qea(jr:List (TE×TE)):TE:=fun σ H Q=>∀p,H p=none->Kq jr σ (upd H p (.dK [])) λps H2=>H2 p=some (.dK [])/\∃ab:List (Key×V),ps=ab.map (λkv=>(kV kv.1,kv.2))/\ab.length<=15/\Q (.ref p) (upd H2 p (.dK (Fa [] ab)))
theorem Wv{X:Cx}{pos:Pos}{bi:List (Option Expr)}{ax:List Expr}{jr:List (TE×TE)}(h:PPs X pos bi ax jr)(fc:bi.all (·.isSome)=true)(hl:bi.length=ax.length)(h0:bi≠[])
  (uj:bi.length<=15):PE X (.Dict bi ax pos) (Qea jr):=by
 intro aa s σ H Q I q
 have hn:=I.hok.fresh (Yad s.heap.objs.size)
 have I1:=I.laid (a:=s.heap.objs.size) (o:=.dK []) (h':=s.heap.push { cls:=.type "dict",data:=.dict #[] }) (t':=s.toks) (λ_ _ q=>Heap.get?_push_of_some _ q) (Yad _) (L7 s.heap I.big)
 refine wpAny_Dict_walk (knd:=Ap X.prog X.w) fc hl h0 uj (thn (h aa _ σ _ _ I1 (q _ hn)) λws s2 rj=>?_)
 obtain⟨ps,H2,I2,rel,e,ab,ep,lk,q2⟩:=rj
 subst ep
 obtain⟨rs,c,rk⟩:=Ia (P:=X.prog) (w:=X.w) rel
 obtain⟨z,hd,vs0,r0,dd⟩:=Y6 I2.hok e
 cases r0
 refine⟨rs,c,dd,λh' ju hs=>⟨.ref s.heap.objs.size,_,?_,rfl,q2⟩⟩
 have hz:(Fa [] ab).length<=sizeLine:=by
  have h1:=E8 ab []
  rw [List.length_nil]at h1
  rw [sizeLine_eq];omega
 have he:∃q,h'.get? s.heap.objs.size=some q:=let⟨q,_,_,hq,_⟩:=ju;⟨q,hq⟩
 exact Hq I2 (by rw [e];exact True.intro) hs he (Tf hz hd (rk.merge .nil) ju)
structure M1(X:Cx)(o:Expr)(m:Str)(ap:Pos)(e:Expr)(ak:Pos):Prop where
 base:attributeBase o m X.env (eval o X.env)=eval o X.env
 few:((backTo ak (starEach [e] X.env)).all (λx=>!x.1) && (backToKw ak (keywordEach [] X.env)).all (λx=>x.1.isSome)
  && decide (([e]:List Expr).length+([]:List Keyword).length+(if([]:List Keyword).isEmpty then 0 else 1) < 30))=true
 line:(ap.endLine==ak.line)=true
 trees:backTo ak (starEach [e] X.env)=[(false,eval e X.env)]
structure M2(X:Cx)(o:Expr)(m:Str)(ap:Pos)(e f:Expr)(ak:Pos):Prop where
 base:attributeBase o m X.env (eval o X.env)=eval o X.env
 few:((backTo ak (starEach [e,f] X.env)).all (λx=>!x.1) && (backToKw ak (keywordEach [] X.env)).all (λx=>x.1.isSome)
  && decide (([e,f]:List Expr).length+([]:List Keyword).length+(if([]:List Keyword).isEmpty then 0 else 1) < 30))=true
 line:(ap.endLine==ak.line)=true
 trees:backTo ak (starEach [e,f] X.env)=[(false,eval e X.env),(false,eval f X.env)]
def IsD(H:Hp)(a:Addr):Prop:=(∃ab,Rd H a (.dK ab))\/∃ab,Rd H a (.dT ab)
theorem Tk{X:Cx}{aa:List (Addr×Obj)}{σ:St}{H:Hp}{s:Shared}{a:Addr}(I:Inv X aa σ H s)(d:IsD H a) :
  s.TypeIs (.ref a) "dict" /\ (∀b,Value.ref a=.ref b->∃ob,s.heap.get? b=some ob/\ob.dict=none)/\(a==sysModules)=false:=by
 rcases d with⟨ab,e⟩ | ⟨ab,e⟩
 ·obtain⟨_,hd,vs,_,dd⟩:=Hz I.hok e
  refine⟨dd.typeIs,λb q=>?_,hd⟩
  cases q
  obtain⟨ob,_,_,h1,h2,_⟩:=dd
  exact⟨ob,h1,h2.2.1⟩
 ·obtain⟨_,hd,xs,_,dd⟩:=Jw I.hok e
  refine⟨dd.typeIs,λb q=>?_,hd⟩
  cases q
  obtain⟨ob,_,_,h1,h2,_⟩:=dd
  exact⟨ob,h1,h2.2.1⟩
section
variable {X:Cx}{aa:List (Addr×Obj)}{σ:St}{H:Hp}{s:Shared}{a:Addr}{y d:V}{u r:Value}{o:Option V}{A:Around}{E:Value->Shared->Prop}
theorem Qa9{Q:Value->Shared->Prop}(hu:A.units+1 < cLine)(I:Inv X aa σ H s)(g:DGet H a y o)(ry:A6 y u)(rd:A6 d r)(h:∀w' s',Inv X aa σ H s'->A6 (o.getD d) w'->Q w' s') :
  wpAny (model X.prog X.w) A (call (.builtin "dict.get") [.ref a,u,r]) Q E s:=by
 rcases g with⟨ab,k,e,ey,l⟩ | ⟨ab,k,b,e,ey,eb,l⟩
 ·subst ey
  obtain⟨z,hd,vs,rel,dd⟩:=Hz I.hok e
  refine call_meetsIn Ye2 dd.typeIs PySem.F.entry_dict_get (PySem.F.args_dict_get_3 _ _ _) (meets_dict_get_default (Ap X.prog X.w) a (Ju ry) hd r) ⟨_,dd.mapOf,h _ _ (I.tok _) ?_⟩
  rw [l]
  exact(rel.val k).getD rd
 ·subst ey
  cases (show u=Value.ref b from ry)
  obtain⟨z,hd,xs,rel,dd⟩:=Jw I.hok e
  refine call_meetsIn Ye2 dd.typeIs PySem.F.entry_dict_get (PySem.F.args_dict_get_3 _ _ _) (meetsH_dict_get_default (tupleKind (Ap X.prog X.w)) a b hd r) ⟨Ydv hu,k,xs,Gm I.hok eb,dd,h _ _ (I.tok _) ?_⟩
  rw [l]
  exact(rel.val k).getD rd
end
def Qba(td ty tx:TE):TE:=fun σ H Q=>td σ H λx H1=>∃a,x=.ref a/\IsD H1 a/\ty σ H1 λy H2=>tx σ H2 λz H3=>∃o,DGet H3 a y o/\Q (o.getD z) H3
section
variable {X:Cx}{o e f:Expr}{ap ak:Pos}{td ty tx:TE}
theorem Tl(hu:X.A.units+1 < cLine)(ho:PE X o td)(he:PE X e ty)(hf:PE X f tx)(m:M2 X o "get" ap e f ak):PE X (.Call (.Attribute o "get" ap) [e,f] [] ak) (Qba td ty tx):=by
 intro aa s σ H Q I h
 refine wpAny_Call_method m.base m.few m.line PySem.F.plainAttrs_dict Ye2 PySem.F.type_dict_get (thn (ho aa s σ H _ I h) λu s1 n5=>?_)
 obtain⟨x,H1,I1,rx,a,ex,d,q1⟩:=n5
 subst ex
 obtain rfl:u=Value.ref a:=rx
 obtain⟨t1,t2,_⟩:=Tk I1 d
 refine⟨t1,t2,?_⟩
 rw [m.trees]
 refine Ydu rfl (Yfb (Ybk (thn (he aa s1 σ H1 _ I1 q1) λiv s2 pb=>Cg pb λy H2 I2 ry q2 =>
  Ybk (thn (hf aa s2 σ H2 _ I2 q2) λfv s3 ⟨z,H3,I3,rz,ov,g,q3⟩=>Ybj ?_))))
 exact Qa9 hu I3 g ry rz λw' s4 I4 fw=>⟨_,H3,I4,fw,q3⟩
end
section
variable {X:Cx}{aa:List (Addr×Obj)}{σ:St}{H:Hp}{s:Shared}{a:Addr}{ab:List (Key×V)}{A:Around}{E:Value->Shared->Prop}
end
section
variable {X:Cx}{aa:List (Addr×Obj)}{σ:St}{H:Hp}{s:Shared}{a:Addr}{y:V}{u:Value}{A:Around}{E:Value->Shared->Prop}
end
end L2
namespace Att
open PySem PySem.W PySem.Calls PyProof.Rows
theorem Hm{P:Params}{h:Heap}:∀(ns:List Int) (vs:List Value),WellAll P h vs (ns.map WData.int)->IntsAre vs ns:=by
 intro ns
 induction ns with
 | nil =>
  intro vs w
  rw [List.map_nil]at w
  cases w
  exact .nil
 | cons n ns ih =>
  intro vs w
  rw [Ya2]at w
  cases w with
  | cons a b =>
   cases a
   exact .cons _ _ (ih _ b)
theorem Rl{l:OpenLaw}{n:Nat}(hn:l.most=some n){P:Params}{h:Heap}{args:List WData}{lu:List Value}
  (jl:l.row.toRowW.claim.pre args=true) (wy:WellAll P h lu args) :
  ∃a vs ns,lu=[Value.ref a]/\args=[WData.list (ns.map WData.int)]/\h.get? a=some { cls:=.type "list",data:=.seq vs.toArray }/\IntsAre vs ns/\ns.length<=n:=by
 have hsh:WShape.hasAll [] args [.list .int]=true:=(pre_splitW jl).1
 have hc:l.pre.holds [] { args:=args }=true:=(pre_splitW jl).2
 obtain⟨d,r,rfl,h1,h2⟩:=hasAllW_cons hsh
 obtain rfl:=hasAllW_nil h2
 obtain⟨xs,rfl,h3⟩:=hasW_list h1
 obtain⟨ns,rfl⟩:=items_int h3
 have ah:ns.length<=n:=by
  unfold OpenLaw.pre at hc
  have h4:(WTm.not (.lt (.lit (.int (n:Int))) (.len (.arg 0)))).holds [] { args:=[.list (ns.map .int)] }=true:=by
   have h4:=(holds_andW hc).1
   rw [hn]at h4
   exact h4
  have h5:=condW_of h4 (w_not (w_lt w_lit (w_len_list (w_arg rfl))))
  rw [Yab]at h5
  refine Nat.le_of_not_lt λq=>?_
  have q':(n:Int) < ((ns.length:Nat):Int):=by omega
  first
   | (rw [Ybg q']at h5;exact absurd h5 (by decide))
   | (simp at h5;omega)
 cases wy with
 | cons w1 w2 =>
  cases w2
  cases w1 with
  | list ho fc=>exact⟨_,_,ns,rfl,rfl,ho,Hm ns _ fc,ah⟩
theorem Rm(l:OpenLaw)(args:List WData):l.row.toRowW.claim.post args (.bool true) args=true :=
 postW_of (r:=l.row.toRowW) (X:=(true==true))
  (show WShape.has [] (.bool true) .bool=true by first | rfl | decide | simp [WShape.has,WShape.arms,WShape.armsAll])
  (show(WTm.eq .res (.lit (.bool true))).value [] { args:=args,res:=some (.bool true),after:=args }=some (.bool (true==true)) from w_eq_bool (w_res rfl) w_lit) rfl
theorem attach_call{l:OpenLaw}{n:Nat}{q:Program}{d8:List Str}{XP:(Str->Option Value)->Heap->Prop}{YP:World->Heap->Prop}{d:DefRec}
  (hn:l.most=some n) (ni:d.params.defaults=[])
  (call:∀(w:World) (s₀ s₁:Shared) (mg mb:Str->Option Value) (fa:Addr) (o:Obj) (pm cd fj:Value) (a:Addr) (vs:List Value) (ns:List Int),
   Ground q d8 [] XP w s₀ mg mb s₁.heap->YP w s₁.heap ->
   s₁.heap.get? fa=some o->o.data=.func (docDef d.name d.params d.body d.scope pm cd fj)->s₁.heap.CodeRec cd d.name->mg d.name=some (.ref fa) ->
   s₁.heap.get? a=some { cls:=.type "list",data:=.seq vs.toArray }->IntsAre vs ns->ns.length<=n->s₁.gens=#[] ->
   codeAny (model l.prog w) callerA (.call (.ref fa) ⟨[.ref a],[]⟩) (λr s'=>r=.ok (.ret (.bool true))/\OldK s₁.heap s'.heap/\s'.os=s₁.os/\AllBare s'.gens) s₁) :
  WalkO q d8 XP YP l.row.toRowW d [] (λf vs=>PySem.call f vs):=by
 intro w s₀ s₁ mg mb G Y fa o pm cd fj dV kV ho hd ip hD hmg hg args lu as jl hlay hrd wy hlo
 obtain rfl:dV=.none:=Dflts.none hD ni
 obtain rfl:kV=.none:=Dflts.noKw hD
 obtain⟨a,vs,ns,rfl,rfl,hobj,hints,ah⟩:=Rl hn jl wy
 refine enter_call (Yfm (call w s₀ s₁ mg mb fa o pm cd fj a vs ns G Y ho (fd_plain hd) ip hmg hobj hints ah hg) λr s' hq=>?_)
 obtain⟨rfl,h2,h3,h4⟩:=hq
 exact⟨.inl ⟨.bool true,.bool true,[],rfl,λ_=>rfl,.bool true,Rm l _,λ_=>⟨List.Pairwise.nil,λ_ hm=>(nomatch hm)⟩⟩,h2,h3,h4⟩
section
variable {prog:Program}{w:World}{A:Around}{E:Value->Shared->Prop}{s:Shared}{K:Frag}
end
end Att
namespace L2
open PySem PySem.Spec PyProof.Rows
theorem Jx:∀{vs:List Value} {ns:List Int},IntsAre vs ns->Vals (ns.map V.int) vs
 | _,_,.nil=>.nil
 | _,_,.cons n t h=>.cons ⟨t,rfl⟩ (Jx h)
def Only(H:Hp):Prop:=∀b,H b=none\/∃o xs,H b=some (.frz o (.lst xs))
theorem Tm{P:Program}{w:World}{K:PySem.W.Frag}{mg mb:Str->Option Value}{CX:CXT}{k:Nat}{fa a:Addr}{fd:FuncData}{x:Str}{sp:Sp}{s₁:Shared}{vs:List Value}{ns:List Int}
  (KX:K.In s₁.heap) (d4:s₁.heap.Ns mainGlobals mg) (hb:s₁.heap.Ns builtinsNs mb) (hbb:∀x:Str,x ≠ "__name__" -> mb x=bootBuiltins x) (u5:s₁.heap.NoLimit) (hg:s₁.gens=#[])
  (ha:s₁.heap.get? a=some { cls:=.type "list",data:=.seq vs.toArray }) (hi:IntsAre vs ns) (hl:ns.length<=sizeLine) (hr:Room k callerA)
  (F:∀base:Heap,K.In base->base.Ns mainGlobals mg->FnOk P w K mg base CX k fa fd [x] sp) (qf:∀(s:Shared) (u:Value),BindsTo s fd ⟨[u],[]⟩ [(x,u)])
  (jf:∀H:Hp,Only H->E5 K H a (ns.map V.int)->sp [.ref a] H (λv _=>v=.bl true) λ_ _ _=>False)
  (ug:∀H e s',CX [] H s₁ (λ_ _ _=>False) e s'->False) :
  codeAny (model P w) callerA (.call (.ref fa) ⟨[.ref a],[]⟩) (λr s'=>r=.ok (.ret (.bool true))/\OldK s₁.heap s'.heap/\s'.os=s₁.os/\AllBare s'.gens) s₁:=by
 have rv:=Jx hi
 have vx:=hi.length
 have ku:∀H:Hp,Only H->E5 K H a (ns.map V.int)->HOk P w H s₁.heap->(∀b,H b≠none->b=a)->(H a≠none->K.lookup a=none) ->
   codeAny (model P w) callerA (.call (.ref fa) ⟨[.ref a],[]⟩) (λr s'=>r=.ok (.ret (.bool true))/\OldK s₁.heap s'.heap/\s'.os=s₁.os/\AllBare s'.gens) s₁:=by
  intro H hO hS hok hA hK
  have gu:∀{b:Addr} {o:Obj},s₁.heap.get? b=some o->H b=none->(Kk s₁.heap H).get? b=some o:=λe n=>Sn e n
  have se:∀{b:Addr} {o:Obj} {es:Array DictEntry} {ep:Nat},s₁.heap.get? b=some o->o.data=.dict es ep->H b=none:=λ{b o es ep} e d=>by
   cases q:H b with
   | none=>rfl
   | some u =>
    have e':b=a:=hA b (by rw [q];simp)
    subst e'
    rw [ha]at e;cases e
    have d':Data.seq vs.toArray _=Data.dict es ep:=d
    cases d'
  have sm:∀{b:Addr} {m:Str->Option Value},s₁.heap.Ns b m->(Kk s₁.heap H).Ns b m:=λ{b m} ⟨o,es,ep,e,d,r⟩=>⟨o,es,ep,gu e (se e d),d,r⟩
  have y1:K.In (Kk s₁.heap H):=λb o e=>gu (KX b o e) (by
   cases q:H b with
   | none=>rfl
   | some u =>
    have e':b=a:=hA b (by rw [q];simp)
    subst e'
    rw [hK (by rw [q];simp)]at e;cases e)
  have hM:Mod K mg (Kk s₁.heap H):=⟨y1,sm d4,⟨mb,sm hb,hbb⟩,let⟨mc,h1,h2⟩:=u5;⟨mc,sm h1,h2⟩⟩
  have e0:Env0 P w K mg (Kk s₁.heap H) callerA [] s₁ H:=⟨rfl,hM,λb o e=>V3 e,Nat.le_of_eq (Q9 _ _),trivial,λb hb=>absurd (show b∈([]:List Addr) from hb) (by simp),hok,.of_eq hg⟩
  refine Yfm ((F _ y1 (sm d4)).run callerA [] s₁ H ⟨[.ref a],[]⟩ [.ref a] [.ref a] _ _ hr e0 (qf s₁ (.ref a)) (.cons rfl .nil) (jf H hO hS)) λr s' h=>?_
  cases r with
  | error e=>exact(ug H e s' h).elim
  | ok fl =>
   cases fl with
   | next=>exact False.elim h
   | brk=>exact False.elim h
   | cont=>exact False.elim h
   | ret u =>
    obtain⟨v,H',os,bare,un,hok',r',q⟩:=h
    have q':v=.bl true:=q
    subst q'
    obtain rfl:u=Value.bool true:=r'
    refine⟨rfl,OldK.of_keep λb o e=>?_,os,bare⟩
    cases q:H b with
    | none=>exact un.keep b o e q (by intro z;exact absurd (show b∈([]:List Addr) from z) (by simp)) (by simp)
    | some u =>
     rcases hO b with z | ⟨ob,xs,z⟩
     ·rw [q]at z;cases z
     ·have z2:=un.frzs b ob _ z
      obtain⟨e1,_⟩:=hok b _ z
      obtain⟨e2,_⟩:=hok' b _ z2
      rw [e]at e1;cases e1
      exact e2
 cases hk:K.lookup a with
 | some o =>
  have e:=KX a o hk
  rw [ha]at e
  cases e
  refine ku (λ_=>none) (λ_=>.inl rfl) (.inr ⟨_,vs.toArray,_,hk,rfl,rfl,rfl,by rw [Yau,vx];exact hl,by simpa using rv⟩) (λb u z=>by have z':(none:Option HO)=some u:=z;cases z') (λb z=>absurd rfl z) λz=>absurd rfl z
 | none =>
  refine ku (λb=>if b=a then some (.frz { cls:=.type "list",data:=.seq vs.toArray } (.lst (ns.map V.int))) else none) (λb=>?_) (.inl (.inr ⟨{ cls:=.type "list",data:=.seq vs.toArray },Yao rfl⟩)) (λb u z=>?_) (λb z=>?_) λ_=>hk
  ·by_cases hb:b=a
   ·exact .inr ⟨_,_,Yao hb⟩
   ·exact .inl (Yaj hb)
  ·by_cases hb:b=a
   ·have z':=(Yao hb).symm.trans z
    cases z'
    subst hb
    exact⟨ha,by rw [Yab];exact hl,vs,_,rv,ha⟩
   ·have z':=(Yaj hb).symm.trans z
    cases z'
  ·by_cases hb:b=a
   ·exact hb
   ·exact absurd (Yaj hb) z
theorem walk_of{l:PySem.W.OpenLaw}{n k:Nat}{q:Program}{d8:List Str}{XP:(Str->Option Value)->Heap->Prop}{YP:World->Heap->Prop}{d:DefRec}{K:Params->PySem.W.Frag}{CX:World->CXT}{sp:World->Sp}{x:Str}
  (hn:l.most=some n) (lc:n<=sizeLine) (ni:d.params.defaults=[]) (hr:Room k callerA)
  (hY:∀(w:World) (h:Heap),YP w h->(K w.params).In h)
  (F:∀(w:World) (mg:Str->Option Value) (fa:Addr) (h:Heap),(K w.params).In h->h.Ns mainGlobals mg->mg d.name=some (.ref fa) ->
   ∃fd:FuncData,(∀(s:Shared) (u:Value),BindsTo s fd ⟨[u],[]⟩ [(x,u)]) /\
    ∀base:Heap,(K w.params).In base->base.Ns mainGlobals mg->FnOk l.prog w (K w.params) mg base (CX w) k fa fd [x] (sp w))
  (jf:∀(w:World) (H:Hp) (a:Addr) (ns:List Int),ns.length<=n->Only H->E5 (K w.params) H a (ns.map V.int)->sp w [.ref a] H (λv _=>v=.bl true) λ_ _ _=>False)
  (ug:∀(w:World) (H:Hp) (s:Shared) (e:Value) (s':Shared),CX w [] H s (λ_ _ _=>False) e s'->False) :
  PySem.W.WalkO q d8 XP YP l.row.toRowW d [] (λf vs=>PySem.call f vs):=by
 refine Att.attach_call hn ni λw s₀ s₁ mg mb fa o pm cd fj a vs ns G Y ho hd ip hmg hobj hints ah hg=>?_
 have KX:=hY w _ Y
 obtain⟨fd,hb,hF⟩:=F w mg fa _ KX G.T.g hmg
 exact Tm KX G.T.g G.T.b G.T.builtins G.T.nolimit hg hobj hints (Yak ah lc) hr hF hb (λH hO hS=>jf w H a ns ah hO hS) λH e s'=>ug w H s₁ e s'
def A8(s:Stmt):Arguments:=match s with
 | .FunctionDef _ a _ _ _ _ _ _ _ _=>a
 | _=>{ posonlyargs:=[],args:=[],vararg:=none,kwonlyargs:=[],kw_defaults:=[],kwarg:=none,defaults:=[] }
def A5(s:Stmt):List Stmt:=match s with
 | .FunctionDef _ _ b _ _ _ _ _ _ _=>b
 | _=>[]
def Af(s:Stmt):Scope:=match s with
 | .FunctionDef _ _ _ _ _ _ sc _ _ _=>sc
 | _=>{ kind:=.function,names:=[],isGenerator:=false,isCoroutine:=false }
abbrev Gn:CXT:=λ_ _ _ _ _ _=>False
abbrev E0:XK:=λ_ _ _=>False
theorem Qeb{X:Cx}:Passes Gn X E0:=λ_ _ _ _ _ _ _ h=>h.elim
structure Fun(K:PySem.W.Frag)(x qual:Str)(st:Stmt)(f:Addr)(fd:FuncData):Prop where
 ex:∃(oc:Value) (od:Option Addr) (kV fj pm:Value) (an:Option Addr) (bd ct:Value) (j8:Array (Option Value)),
  fd=PySem.W.fnOf x qual (A8 st) (A5 st) (Af st) .none kV fj pm an bd ct/\K.lookup f=some ⟨oc,od,.func fd,j8⟩/\PySem.W.codeIn K bd qual=true
 kp:PySem.W.keepIn K (.ref f)=true
section
variable {P:Program}{w:World}{K:PySem.W.Frag}{mg:Str->Option Value}{base:Heap}
theorem Fun.ok{x qual:Str}{st:Stmt}{f:Addr}{fd:FuncData}{N ps:List Str}{k:Nat}{sp:Sp}(F:Fun K x qual st f fd)(S:FnScope N ps (Af st))(len:∀vs H Q E,sp vs H Q E->vs.length=ps.length)
  (fk:∀(bd:Value) (A:Around) (outer:List Env) (s:Shared) (H:Hp) (vs:List V) (Q:VK) (E:XK),Room k (A.deeper (envOfC qual (Af st) s.heap.objs.size f bd))->sp vs H Q E ->
   ∃t,PSs (Np Gn P w K mg base N qual (Af st) f bd A outer s H E).nox (A5 st) t/\t { nx:=λ_ H'=>Q .non H',rt:=Q } (start N vs) H):FnOk P w K mg base Gn (k+1) f fd ps sp:=by
 obtain⟨oc,od,kV,fj,pm,an,bd,ct,j8,rfl,lk,ip⟩:=F.ex
 refine Qd0 lk ip S len λA outer s H vs Q E hr jf=>?_
 obtain⟨t,h,q⟩:=fk bd A outer s H vs Q E hr jf
 exact⟨t,h.nox,q⟩
theorem Fun.binds{x qual:Str}{st:Stmt}{f:Addr}{fd:FuncData}{ps:List Str}(F:Fun K x qual st f fd)
  (h:∀(kV fj pm:Value) (an:Option Addr) (bd ct:Value) (us:List Value),us.length=ps.length->bindArgs (PySem.W.fnOf x qual (A8 st) (A5 st) (Af st) .none kV fj pm an bd ct) ⟨us,[]⟩=pure (ps.zip us)):Binds K fd ps []:=by
 obtain⟨oc,od,kV,fj,pm,an,bd,ct,j8,rfl,lk,ip⟩:=F.ex
 exact .all (h kV fj pm an bd ct)
theorem Bw{x qual:Str}{st:Stmt}{f:Addr}{oc:Value}{od an:Option Addr}{j8:Array (Option Value)}{kV fj pm bd ct:Value}(l:K.lookup f=some ⟨oc,od,.func (PySem.W.fnOf x qual (A8 st) (A5 st) (Af st) .none kV fj pm an bd ct),j8⟩)
  (c:PySem.W.codeIn K bd qual=true) (k:PySem.W.keepIn K (.ref f)=true):Fun K x qual st f (PySem.W.fnOf x qual (A8 st) (A5 st) (Af st) .none kV fj pm an bd ct):=⟨⟨oc,od,kV,fj,pm,an,bd,ct,j8,rfl,l,c⟩,k⟩
end
theorem Ck{A:Around}{k:Nat}(hr:Room k A):A.units+1 < cLine:=Yei (Nat.add_le_add_left (by decide:1<=64) _) hr.units
theorem A0{n:Nat}(h:n<=1000):n < sizeLine:=Yei h (by decide)
section
variable {X:Cx}
theorem Rn:Ek X (.builtin "len") (λxs H Q=>∃a ab,xs=[V.ref a]/\H a=some (.dK ab)/\Q (.int ab.length) H):=by
 intro aa s σ H xs us Q I r h
 obtain⟨a,ab,rfl,ha,q⟩:=h
 obtain⟨u,rfl,ru⟩:=E6 r
 cases ru
 exact Qd7 I (.inl ha) λt s' I'=>⟨.int ab.length,H,I',⟨t,rfl⟩,q⟩
end
section
variable {κ:Type} [DecidableEq κ]
end
end L2
set_option maxHeartbeats 4000000
namespace L2
open PySem
def C2(cells:List (Str×Addr)):List (Str×NameKind)->List (Str×Addr)->List (Str×Addr)
 | [],acc=>acc
 | (n,k) :: r,acc=>if k=NameKind.free then C2 cells r ((n,(cells.lookup n).getD 0) :: acc) else C2 cells r acc
theorem Dt{scope:Scope}{env:Env}(h:∀x∈scope.names,x.2=.free->∃c,env.cells.lookup x.1=some c) :
  closureFor scope env=pure (C2 env.cells scope.names []):=by
 have key:∀(names:List (Str×NameKind)) (acc:List (Str×Addr)),(∀x∈names,x.2=.free->∃c,env.cells.lookup x.1=some c) ->
   (do
     let mut cs:=acc
     for (name,kind) in names do
      if kind==.free then cs:=(name,<- cellOf env name) :: cs
     return cs:Sem (List (Str×Addr)))=pure (C2 env.cells names acc):=by
  intro names
  induction names with
  | nil=>intro acc _;rfl
  | cons x r ih =>
   intro acc h
   obtain⟨n,k⟩:=x
   have hr:∀y∈r,y.2=.free->∃c,env.cells.lookup y.1=some c:=λy hy=>h y (Yav _ hy)
   by_cases hk:k=.free
   ·subst hk
    obtain⟨c,hc⟩:=h (n,.free) Yax rfl
    have e:cellOf env n=pure c:=by unfold cellOf;rw [hc]
    have q:=ih ((n,c) :: acc) hr
    simp only [List.forIn_cons,beq_self_eq_true,if_true,e]
    unfold C2
    rw [Yao rfl,hc]
    exact q
   ·have hb:(k==NameKind.free)=false:=by simpa using hk
    have q:=ih acc hr
    simp only [List.forIn_cons,hb,Bool.false_eq_true,if_false]
    unfold C2
    rw [Yaj hk]
    exact q
 exact key scope.names [] h
theorem El{cells:List (Str×Addr)}:∀{names:List (Str×NameKind)} {acc:List (Str×Addr)},
  (∀x∈names,x.2=.free->∃c,cells.lookup x.1=some c)->(∀x c,acc.lookup x=some c->cells.lookup x=some c) ->
  ∀x c,(C2 cells names acc).lookup x=some c->cells.lookup x=some c
 | [],_,_,h,x,c,e=>h x c e
 | (n,k) :: r,acc,hf,h,x,c,e=>by
  unfold C2 at e
  have hr:∀y∈r,y.2=.free->∃c,cells.lookup y.1=some c:=λy hy=>hf y (Yav _ hy)
  by_cases hk:k=.free
  ·rw [Yao hk]at e
   refine El hr (λy d q=>?_) x c e
   obtain⟨c',bo⟩:=hf (n,k) Yax hk
   have bo:cells.lookup n=some c':=bo
   rw [Yb7]at q
   cases hy:y==n with
   | true =>
    rw [hy,bo]at q
    have e1:y=n:=by simpa using hy
    rw [e1,bo]
    exact q
   | false=>rw [hy]at q;exact h y d q
  ·rw [Yaj hk]at e
   exact El hr h x c e
theorem Fb{cells:List (Str×Addr)}{x:Str}:∀{names:List (Str×NameKind)} {acc:List (Str×Addr)},
  (∃c,acc.lookup x=some c)->∃c,(C2 cells names acc).lookup x=some c
 | [],_,h=>h
 | (n,k) :: r,acc,⟨c,h⟩=>by
  unfold C2
  split
  ·refine Fb ?_
   rw [Yb7]
   cases x==n with
   | true=>exact⟨_,rfl⟩
   | false=>exact⟨c,h⟩
  ·exact Fb ⟨c,h⟩
theorem D1{cells:List (Str×Addr)}{x:Str}:∀{names:List (Str×NameKind)} {acc:List (Str×Addr)},
  (x,NameKind.free)∈names->∃c,(C2 cells names acc).lookup x=some c
 | (n,k) :: r,acc,h=>by
  unfold C2
  rcases Yap.mp h with e | e
  ·cases e
   rw [Yao rfl]
   refine Fb ?_
   rw [Yb7,Ye5]
   exact⟨_,rfl⟩
  ·split
   ·exact D1 e
   ·exact D1 e
end L2
namespace PySem
open Sem (wp)
section
variable {prog:Program}{w:World}{A:Around}{E:Value->Shared->Prop}{R:Result->Shared->Prop}{s:Shared}
theorem G9{bz c8 iter:Expr}{bp:List Expr}{scope:Scope}{pos:Pos}{it acc:Value}{env:Env}(I:Nat->Shared->Prop)
  (turn:∀n s,I n s->wpAny (model prog w) A (pyNext it) (λr s₁=>match r with
   | none=>R (.ok .next) s₁
   | some v=>wpAny (model prog w) A (letOwnedTupleGo c8 it v) (λ_ s₁'=>wpAny (model prog w) A (assign c8 env v) (λ_ s₂ =>
     wpAny (model prog w) A (forIn bp true λc r=>if r=true then do let ok <- isTrue c env (eval c env);pure (ForInStep.yield ok) else pure (ForInStep.yield r)) (λok s₃ =>
      if ok=true then wpAny (model prog w) A (eval bz env) (λx s₄ =>
       wpAny (model prog w) A (call (.builtin "list.append") [acc,x]) (λ_ s₅=>∃m,m < n/\I m s₅) (λ_ _=>False) s₄) (λ_ _=>False) s₃
      else ∃m,m < n/\I m s₃) (λ_ _=>False) s₂) (λ_ _=>False) s₁') (λ_ _=>False) s₁) (λ_ _=>False) s)
  (n:Nat) (h:I n s) :
  codeAny (model prog w) A (.compLoop (.ListComp bz [⟨c8,iter,bp,0⟩] scope pos) 0 it acc env) R s:=by
 refine codeAny_loop rfl I (λn s hI=>?_) n h
 show wpAny _ A ((compTurn (.ListComp bz [⟨c8,iter,bp,0⟩] scope pos) 0 it acc env).onRaise (λx=>do noteFrame x env;theTreesLotGoes x)) _ _ s
 refine wpAny_noted ?_
 rw [compTurn_list]
 refine Yaa (wpAny_standAt (Yaa (Yb1 (turn n s hI) (λr s₁ h₁=>?_) λ_ _ h'=>h'.elim)))
 cases r with
 | none=>exact Yac h₁
 | some v =>
  refine Yaa (Yb1 h₁ (λ_ s₁' h₁'=>?_) λ_ _ h'=>h'.elim)
  refine Yaa (Yb1 h₁' (λ_ s₂ h₂=>Yaa (Yb1 h₂ (λok s₃ h₃=>?_) λ_ _ h'=>h'.elim)) λ_ _ h'=>h'.elim)
  cases ok with
  | false=>exact Yac ⟨rfl,h₃⟩
  | true =>
   exact Yaa (Yaa (Yb1 h₃ (λx s₄ h₄=>Yaa (Yb1 h₄ (λ_ s₅ h₅=>Yac (Yac ⟨rfl,h₅⟩)) λ_ _ h'=>h'.elim)) λ_ _ h'=>h'.elim))
end
end PySem
namespace L2
open PySem PySem.Spec PyProof.Rows
def Fn(mp:List (Option Nat))(σ:St):St:=mp.map λo=>match o with | some i=>(σ[i]?).join | none=>none
def Ro(pn:List (Str×NameKind))(x:Str):Bool:=decide (pn.lookup x=some .cell) || decide (pn.lookup x=some .free)
def Tn(N:List Str)(pn cn:List (Str×NameKind))(N':List Str)(mp:List (Option Nat)):Bool :=
 decide (N'.length=mp.length) && decide N'.Nodup &&
 (List.range N'.length).all (λk=>match mp[k]?,N'[k]? with
  | some (some i),some x=>decide (N[i]?=some x) && Ro pn x && decide ((x,NameKind.free)∈cn) && decide (cn.lookup x=some .free)
  | _,_=>true) &&
 cn.all (λp=>decide (p.2≠.cell)) && cn.all (λp=>decide (p.2≠.free) || Ro pn p.1) && cn.all (λp=>decide (p.2≠.local) || decide (cn.lookup p.1=some .local))
structure CompOk(N:List Str)(pn cn:List (Str×NameKind))(N':List Str)(mp:List (Option Nat)):Prop where
 len:N'.length=mp.length
 nd:N'.Nodup
 map:∀(k i:Nat) (x:Str),mp[k]?=some (some i)->N'[k]?=some x->N[i]?=some x/\(pn.lookup x=some .cell\/pn.lookup x=some .free)/\(x,NameKind.free)∈cn/\cn.lookup x=some .free
 nocell:∀p∈cn,p.2≠.cell
 free:∀p∈cn,p.2=.free->(pn.lookup p.1=some .cell\/pn.lookup p.1=some .free)
 loc:∀p∈cn,p.2=.local->cn.lookup p.1=some .local
theorem Fo{pn:List (Str×NameKind)}{x:Str}(h:Ro pn x=true):pn.lookup x=some .cell\/pn.lookup x=some .free:=by
 unfold Ro at h
 rcases(Ydx _ _).mp h with h | h
 ·exact .inl (Yay h)
 ·exact .inr (Yay h)
theorem Bm{N:List Str}{pn cn:List (Str×NameKind)}{N':List Str}{mp:List (Option Nat)}(h:Tn N pn cn N' mp=true):CompOk N pn cn N' mp:=by
 unfold Tn at h
 obtain⟨h,h6⟩:=(Ya7 _ _).mp h
 obtain⟨h,h5⟩:=(Ya7 _ _).mp h
 obtain⟨h,h4⟩:=(Ya7 _ _).mp h
 obtain⟨h,h3⟩:=(Ya7 _ _).mp h
 obtain⟨h1,h2⟩:=(Ya7 _ _).mp h
 refine⟨Yay h1,Yay h2,λk i x e1 e2=>?_,λp hp=>Yay (Yb8.mp h4 p hp),λp hp e=>?_,λp hp e=>?_⟩
 ·have hk:k < N'.length:=(List.getElem?_eq_some_iff.mp e2).1
  have q:=Yb8.mp h3 k (Ya3.mpr hk)
  simp only [e1,e2]at q
  obtain⟨q,q4⟩:=(Ya7 _ _).mp q
  obtain⟨q,q3⟩:=(Ya7 _ _).mp q
  obtain⟨q1,q2⟩:=(Ya7 _ _).mp q
  exact⟨Yay q1,Fo q2,Yay q3,Yay q4⟩
 ·rcases(Ydx _ _).mp (Yb8.mp h5 p hp) with z | z
  ·exact absurd e (Yay z)
  ·exact Fo z
 ·rcases(Ydx _ _).mp (Yb8.mp h6 p hp) with z | z
  ·exact absurd e (Yay z)
  ·exact Yay z
theorem Fp{env:Env}:∀{names:List (Str×NameKind)} {x:Str},names.lookup x=some .free ->
  (names.map λ(n,k)=>if(k==NameKind.free && env.scope.kind==.function && env.kindOf n==some .cell) then(n,NameKind.cell) else(n,k)).lookup x=some .cell \/
  (names.map λ(n,k)=>if(k==NameKind.free && env.scope.kind==.function && env.kindOf n==some .cell) then(n,NameKind.cell) else(n,k)).lookup x=some .free
 | [],_,h=>by simp at h
 | (n,k) :: r,x,h=>by
  have ih:=@Fp env r x
  rw [Ya2]
  cases hx:x==n with
  | true =>
   simp only [List.lookup_cons,hx]at h
   cases h
   by_cases hc:(NameKind.free==NameKind.free && env.scope.kind==.function && env.kindOf n==some .cell)=true
   ·refine .inl ?_
    simp only [hc,if_true,List.lookup_cons,hx]
   ·refine .inr ?_
    simp only [if_neg hc,List.lookup_cons,hx]
  | false =>
   simp only [List.lookup_cons,hx]at h
   by_cases hc:(k==NameKind.free && env.scope.kind==.function && env.kindOf n==some .cell)=true
   ·simp only [hc,if_true,List.lookup_cons,hx];exact ih h
   ·simp only [if_neg hc,List.lookup_cons,hx];exact ih h
theorem Kr{env:Env}:∀{names:List (Str×NameKind)} {x:Str},(∀p∈names,p.2≠.cell) ->
  ((names.map λ(n,k)=>if(k==NameKind.free && env.scope.kind==.function && env.kindOf n==some .cell) then(n,NameKind.cell) else(n,k)).lookup x=some .cell \/
  (names.map λ(n,k)=>if(k==NameKind.free && env.scope.kind==.function && env.kindOf n==some .cell) then(n,NameKind.cell) else(n,k)).lookup x=some .free)->(x,NameKind.free)∈names
 | [],_,_,h=>by simp at h
 | (n,k) :: r,x,hn,h=>by
  have ih:=@Kr env r x λp hp=>hn p (Yav _ hp)
  rw [Ya2]at h
  cases hx:x==n with
  | true =>
   have e:x=n:=by simpa using hx
   subst e
   have hk:=hn (x,k) Yax
   by_cases hc:(k==NameKind.free && env.scope.kind==.function && env.kindOf x==some .cell)=true
   ·have:k=.free:=by
     simp only [Bool.and_eq_true]at hc
     simpa using hc.1.1
    rw [this];exact Yax
   ·simp only [if_neg hc,List.lookup_cons,hx]at h
    rcases h with h | h
    ·exact absurd (Ya6 h) hk
    ·rw [Ya6 h];exact Yax
  | false =>
   by_cases hc:(k==NameKind.free && env.scope.kind==.function && env.kindOf n==some .cell)=true
   ·simp only [hc,if_true,List.lookup_cons,hx]at h;exact Yav _ (ih h)
   ·simp only [if_neg hc,List.lookup_cons,hx]at h;exact Yav _ (ih h)
end L2
namespace PySem
open Sem (wp)
section
variable {prog:Program}{w:World}{A:Around}{E:Value->Shared->Prop}{R:Result->Shared->Prop}{s:Shared}
variable {I:Addr}{fp wr:List Addr}{G:Array GenState->Array GenState->Prop}{n:Nat}{P:Nat->Value->Prop}{St:Nat->Shared->Prop}
theorem Ks:typeLookup (.type "list_reverseiterator") "__len__" = pure none:=by rw [Yfg,Ydy];kernel_rfl
theorem L8:typeLookup (.type "list_reverseiterator") "__length_hint__" = pure (some (.builtin "list_reverseiterator.__length_hint__")):=by rw [Yfg,Ydy];kernel_rfl
set_option maxRecDepth 100000 in
theorem Jl(W:WalksS prog w A.in1 I fp wr G n P St)(hT:∀i s,St i s->s.TypeIs (.ref I) "list_reverseiterator") (S:Addr) (res:Value) (be:St 0 s) (jn:S∉fp) (hI:I∈fp)
  {c:Nat} (hS:s.heap.get? S=some { cls:=.type "list",dict:=none,data:=.seq #[] c,slots:=#[] })
  (hR:∀s' aq c',Moved (S :: wr) G s s'->s'.heap.get? S=some { cls:=.type "list",dict:=none,data:=.seq aq c',slots:=#[] }->ItemsOf P aq n->R (.ok (.ret res)) s') (hn:n<=sizeLine:=by size_fits) :
  wpAny (model prog w) A.in1 (Builtin.List.listExtendWith (.ref S) (.ref I) res)
   (λfin s'=>match fin with | .done f=>R (.ok f) s' | .again c'=>c'.quiet=true/\codeAny (model prog w) A c' R s') (λe s'=>R (.error e) s') s:=by
 have hSI:S≠I:=λe=>jn (e ▸ hI)
 have h1:Builtin.List.listSameRef (.ref S) (.ref I)=false:=by simp [Builtin.List.listSameRef,hSI]
 unfold Builtin.List.listExtendWith
 refine Yaa (Yeb (hT 0 _ be) ?_)
 rw [Yaj (by rw [h1];decide)]
 refine Yaa (W.self 0 _ _ _ be ?_)
 refine Yaa (Ybs ?_)
 unfold Builtin.List.listLengthHint
 refine Yaa (Ycz (hT 0 _ be) Ks ?_)
 show wpAny _ A.in1 (specialOf (Value.ref I) (Str.ofString "__length_hint__") >>= _) _ _ _
 refine Yaa (Ycz (hT 0 _ be) L8 ?_)
 generalize qj:("list_reverseiterator.__length_hint__" : String)=id0
 wp_delta
 rw [show splitId id0=some ("list_reverseiterator","__length_hint__") from by subst qj;decide +kernel]
 subst qj
 refine Yaa (Yc4 (b:=true) (hT 0 _ be) (by rw [Yds];kernel_rfl) ?_)
 refine Yac ?_
 rw [Yaj (by decide)]
 exact Yac ⟨Ydi F.plain_extend_loop _,codeAny_extend_loopS W hn _ jn _ n 0 _ _ _ rfl (Yaz _) be hS (ItemsOf.nil P) λs' aq c' hm ka ba=>hR s' aq c' hm ka ba⟩
set_option maxRecDepth 100000 in
theorem Go(W:WalksS prog w A.in1 I fp wr G n P St)(hT:∀i s,St i s->s.TypeIs (.ref I) "list_reverseiterator") (S:Addr) (be:St 0 s) (jn:S∉fp) (hI:I∈fp)
  (hS:s.heap.get? S=some { cls:=.type "list",data:=.seq #[] })
  (hR:∀s' aq c',Moved (S :: wr) G s s'->s'.heap.get? S=some { cls:=.type "list",dict:=none,data:=.seq aq c',slots:=#[] }->ItemsOf P aq n->R (.ok (.ret .none)) s') (hn:n<=sizeLine:=by size_fits) :
  wpAny (model prog w) A.in1 (Builtin.«list.__init__» ⟨[.ref S,.ref I],[]⟩)
   (λfin s'=>match fin with | .done f=>R (.ok f) s' | .again c'=>c'.quiet=true/\codeAny (model prog w) A c' R s') (λe s'=>R (.error e) s') s:=by
 show wpAny _ A.in1 (do let tp <- Builtin.List.listItems (.ref S);Builtin.List.listUpdate (.ref S) (λ_=>#[]);letGo tp.toList.reverse;Builtin.List.listExtendWith (.ref S) (.ref I) .none) _ _ s
 refine Yaa ?_
 unfold Builtin.List.listItems
 refine Yaa (Yd6 hS rfl (Yac ?_))
 show wpAny _ A.in1 (updateSeq S (λ_=>#[]) >>= λ_=>letGo (#[]:Array Value).toList.reverse >>= λ_=>Builtin.List.listExtendWith (.ref S) (.ref I) .none) _ _ s
 refine Yaa (Yfh hS rfl ?_)
 have hS₂:=Heap.get?_update_self (Obj.mapSeq (λ_=>(#[]:Array Value))) hS rfl
 have yx:∀b o,b≠S->s.heap.get? b=some o->(s.heap.update S (Obj.mapSeq (λ_=>(#[]:Array Value)))).get? b=some o :=
  λb o hb e=>(Heap.get?_update_other _ _ (Yc3 hb)).trans e
 refine Yaa (wpAny_letGo ?_)
 refine Jl (hn:=hn) W hT S .none (W.frame 0 s _ s.toks be (Yad _) λb hb o e=>yx b o (λh=>jn (h ▸ hb)) e) jn hI hS₂ λs' aq c' hm ka ba=>?_
 exact hR s' aq c' (Moved.trans W.gtrans ((Moved.refl W.grefl).then_heap (Yad _) λb o hb e=>yx b o (λh=>hb (h ▸ Yax)) e) hm) ka ba
theorem Gp{Q:Value->Shared->Prop}(W:WalksS prog w A.in1.in1 I fp wr G n P St)(hT:∀i s,St i s->s.TypeIs (.ref I) "list_reverseiterator") (be:St 0 s) (xi:∀b∈fp,b < s.heap.objs.size) (hI:I∈fp)
  (hQ:∀s' aq c',Moved (s.heap.objs.size :: wr) G { s with heap:=s.heap.push { cls:=.type "list",data:=.seq #[] } } s' ->
   s'.heap.get? s.heap.objs.size=some { cls:=.type "list",dict:=none,data:=.seq aq c',slots:=#[] }->ItemsOf P aq n->Q (.ref s.heap.objs.size) s') (hn:n<=sizeLine:=by size_fits) :
  wpAny (model prog w) A (call (.type "list") [.ref I]) Q E s:=by
 have jn:s.heap.objs.size∉fp:=λhm=>Yb9 _ (xi _ hm)
 refine callType_codes (Q₁:=λobj s₁=>obj=.ref s.heap.objs.size/\s₁={ s with heap:=s.heap.push { cls:=.type "list",data:=.seq #[] } }) F.called_list (F.typeCall_list_1 _) F.entry_list_init
  (code_list_new _ ⟨rfl,rfl⟩) λobj s₁ h₁=>?_
 obtain⟨rfl,rfl⟩:=h₁
 have hS:(s.heap.push { cls:=.type "list",data:=.seq #[] }).get? s.heap.objs.size=some { cls:=.type "list",data:=.seq #[] }:=Heap.get?_push_size _ rfl
 refine⟨⟨_,hS,rfl⟩,F.args_list_init_2 _ _,Go (hn:=hn) W hT _ (W.frame 0 s _ s.toks be (Yad _) λb _ o e=>Heap.get?_push_of_some _ e) jn hI hS λs' aq c' hm ka ba=>?_⟩
 exact⟨rfl,hQ s' aq c' hm ka ba⟩
end
end PySem
namespace L2
open PySem PySem.Spec PyProof.Rows
def Be(X:Cx)(N':List Str)(scope:Scope)(C:Addr)(s:Shared)(H:Hp)(fp:List Addr):Cx :=
 { X with N:=N',s₀:=s,H₀:=H,env:=compEnvC scope (C2 X.env.cells scope.names []) C X.env,outer:=X.stack,stack:=X.stack,ex:=fp,fn:=λ_=>false,pn:=[],xe:=λ_ _=>False }
def PIfs(X:Cx)(bp:List Expr)(t:TT):Prop :=
 ∀(aa:List (Addr×Obj)) (s:Shared) (σ:St) (H:Hp) (Q:Bool->Hp->Prop),Inv X aa σ H s->t σ H Q ->
  wpAny (model X.prog X.w) X.A (forIn bp true λc r=>if r=true then do let ok <- isTrue c X.env (eval c X.env);pure (ForInStep.yield ok) else pure (ForInStep.yield r)) (TP X aa σ Q) X.xe s
def Qhl:TT:=λ_ H Q=>Q true H
theorem To{X:Cx}:PIfs X [] Qhl:=λ_ _ _ H _ I h=>wpAny_tests_nil ⟨H,I,h⟩
theorem Tp{X:Cx}{c:Expr}{t:TT}(h:PT X c t):PIfs X [c] t:=λaa s σ H Q I hw=>wpAny_tests_one (h aa s σ H Q I hw)
def Pc(p:Addr)(J:It)(g:TG)(tst:TT)(te:TE)(Q:Hp->Prop)(σ:St)(H:Hp):Prop :=
 ∃W:Nat->Nat->List V->St->Hp->Prop,(∃m,W 0 m [] σ H)/\∀i m acc σ' H',W i m acc σ' H' ->
  (J.stop i H'/\Q H')\/(J.go i H'/\∃N:List V->St->Hp->Prop,(∀acc σ H,N acc σ H->∃m',m' < m/\W (i+1) m' acc σ H)/\∀x H2,J.yld i H' x H2->g x σ' H2 fun σ3 H3=>tst σ3 H3 λb H4 =>
   if b=true then te σ3 H4 λv H5=>∃ac,H5 p=some (.lst ac)/\ac.length < sizeLine/\N (ac++[v]) σ3 (upd H5 p (.lst (ac++[v])))
   else N acc σ3 H4)
def Pd(mp:List (Option Nat))(wi:TI)(g:TG)(tst:TT)(te:TE):TE:=fun σ H Q=>wi σ H λJ H1=>∀p,H1 p=none ->
 Pc p J g tst te (λH'=>Q (.ref p) H') (Fn mp σ) (upd H1 p (.lst []))
section
variable {X:Cx}{N':List Str}{mp:List (Option Nat)}{bz tg iter:Expr}{bp:List Expr}{scope:Scope}{pos:Pos}{wi:TI}{g:TG}{tst:TT}{te:TE}
theorem Inv.comp0{aa:List (Addr×Obj)}{σ:St}{H:Hp}{s:Shared}{fp:List Addr}{tn:Heap->Prop}{h₁:Heap}{tk:Nat}{C:Addr}(ok:CompOk X.N X.env.scope.names scope.names N' mp)(hk:scope.kind=.function)
  (I:Inv X aa σ H s) (hf:∀b∈fp,Hl X aa H b) (j7:∀b∈fp,∃o,s.heap.get? b=some o) (hC:C=s.heap.objs.size+1)
  (d4:∃m,h₁.Ns C m) (keep:∀b o,s.heap.get? b=some o->h₁.get? b=some o) (ba:∃n,h₁.get? s.heap.objs.size=some { cls:=.type "list",data:=.seq #[] n }) :
  Inv (Be X N' scope C s H fp) [] (Fn mp σ) (upd H s.heap.objs.size (.lst [])) { s with heap:=h₁,toks:=tk }:=by
 subst hC
 have bm:∀x∈scope.names,x.2=.free->∃c,X.env.cells.lookup x.1=some c:=λx hx e=>I.ok.has x.1 (ok.free x hx e)
 have sub:∀x c,(C2 X.env.cells scope.names []).lookup x=some c->X.env.cells.lookup x=some c:=El bm (λx c e=>by simp at e)
 have hlt:∀b∈fp,b < s.heap.objs.size:=λb hb=>let⟨_,e⟩:=j7 b hb;Yae e
 have vn:H (s.heap.objs.size+1)=none:=I.hok.fresh (Ycs _)
 have jh:H s.heap.objs.size=none:=I.hok.fresh (Yad _)
 have gn:∀b∈fp,b∉frs X.stack:=λb hb z=>by
  obtain⟨_,f1,f2,_⟩:=hf b hb
  rcases Yap.mp (I.stkSub b z) with e | e
  ·exact f1 e
  ·exact f2 e
 refine⟨⟨I.ok.mod,hk,I.ok.glob,I.ok.blt,Ycs _,λx y c e1 e2=>I.ok.inj x y c (sub x c e1) (sub y c e2),λx e=>?_,λx c e=>(nomatch e),I.ok.hd,I.ok.frames,.inl rfl,λb hb=>⟨?_,λx c e=>?_⟩,I.bs,Yak I.ok.bsz I.sz,λb o e hb=>?_,gn,I.stack,I.stkFree⟩,
  rfl,I.bare,Un.laid keep (Yad _) jh,?_,λx c e=>?_,?_,λx c e=>?_,λp hp=>(nomatch hp),I.hok.laid keep (Yad _) ?_,?_⟩
 ·exact D1 (Kr ok.nocell e)
 ·exact Yai (Yb4 (hlt b hb))
 ·exact(hf b hb).2.2.2.2.1 x c (sub x c e)
 ·rcases(hf b hb).2.2.2.1 with z | z
  ·exact I.ok.noex b o e z
  ·exact absurd (Yar (Yae e) (Yak I.ok.bsz z)) (Yb9 _)
 ·obtain⟨m,hm⟩:=d4
  refine⟨m,hm,λi x v e1 e2 e3=>?_⟩
  have gf:(Fn mp σ)[i]?=some (some v):=e2
  unfold Fn at gf
  rw [List.getElem?_map]at gf
  cases hmp:mp[i]? with
  | none=>rw [hmp]at gf;cases gf
  | some o =>
   rw [hmp]at gf
   cases o with
   | none=>cases gf
   | some j =>
    have e4:σ[j]?=some (some v):=by
     have q:(σ[j]?).join=some v:=Ya6 gf
     cases hj:σ[j]? with
     | none=>rw [hj]at q;cases q
     | some y=>rw [hj]at q;exact Ycg some q
    obtain⟨a1,a2,a3,a4⟩:=ok.map i j x hmp e1
    obtain⟨m0,hn0,iy⟩:=I.loc
    obtain⟨u,r,l⟩:=iy j x v a1 e4 (a2.elim (λz=>.inr (.inl z)) λz=>.inr (.inr z))
    refine⟨u,r,.inr ⟨?_,?_⟩⟩
    ·exact Fp a4
    ·rcases l with⟨l1,_⟩ | ⟨_,c,l2,l3⟩
     ·have l1:X.env.scope.names.lookup x=some .local:=l1
      rcases a2 with a2 | a2 <;> rw [a2]at l1 <;> cases l1
     ·obtain⟨c',bo⟩:∃c',(C2 X.env.cells scope.names []).lookup x=some c':=D1 a3
      have:c'=c:=Ya6 ((sub x c' bo).symm.trans l2)
      subst this
      exact⟨c',bo,l3.keeps keep⟩
 ·obtain⟨v,z⟩:=I.cell x c (sub x c e)
  exact⟨v,z.keeps keep⟩
 ·show upd H s.heap.objs.size (.lst []) (s.heap.objs.size+1)=none
  rw [A7 (Nat.succ_ne_self _)];exact vn
 ·obtain⟨v,z⟩:=I.cell x c (sub x c e)
  show upd H s.heap.objs.size (.lst []) c=none
  rw [A7 (Yai z.lt)];exact I.freeC x c (sub x c e)
 ·obtain⟨n,e⟩:=ba
  exact⟨Yaz _,[],n,.nil,e⟩
 ·show(Fn mp σ).length=N'.length
  unfold Fn
  rw [Yab,ok.len]
theorem L9{aa:List (Addr×Obj)}{σ:St}{H:Hp}{s:Shared}{it:Addr}{fp:List Addr}{tn:Nat->Heap->Prop}{J:It}{Q:Addr->Hp->Prop}{E:Value->Shared->Prop}{RR:Value->Addr->Result->Shared->Prop}
  (ok:CompOk X.N X.env.scope.names scope.names N' mp) (hk:scope.kind=.function) (hc:X.calm=true) (I:Inv X aa σ H s) (T:Turn X.prog X.w X.K tg J fp it tn) (st:tn 0 s.heap) (hf:∀b∈fp,Hl X aa H b)
  (hg:∀C s H fp,PG (Be X N' scope C s H fp) tg g) (ht:∀C s H fp,PIfs (Be X N' scope C s H fp) bp tst) (he:∀C s H fp,PE (Be X N' scope C s H fp) bz te)
  (h:∀p,H p=none->Pc p J g tst te (Q p) (Fn mp σ) (upd H p (.lst [])))
  (x3:∀C s' H',Inv X aa σ H' s'->(∃m,s'.heap.Ns C m)->H' C=none->X.s₀.heap.objs.size<=C->C≠X.env.locals->(∀x c,X.env.cells.lookup x=some c->c≠C)->(∀q∈X.pn++aa,q.1≠C)->Q s.heap.objs.size H'->RR (.ref s.heap.objs.size) C (.ok .next) s') :
  wpAny (model X.prog X.w) X.A (newList []) (λacc s₃=>wpAny (model X.prog X.w) X.A (newFunctionEnv scope X.env.globals (C2 X.env.cells scope.names []) [] X.env.qual none .none (some X.env)) (λix s₄ =>
   codeAny (model X.prog X.w) X.A (.compStart (.ListComp bz [⟨tg,iter,bp,0⟩] scope pos) 0 (.ref it) acc { ix with scope:=relabel scope X.env }) (RR acc ix.locals) s₄) E s₃) E s:=by
 refine Ybd (wpAny_newFunctionEnv ok.nocell (by intro y hy;simp at hy) (λh₁ d4₁ hsb₁=>?_) hk)
 dsimp only at d4₁ hsb₁ ⊢
 generalize j9:s.heap.push { cls:=.type "list",dict:=none,data:=.seq ([]:List Value).toArray }=H2 at d4₁ hsb₁ ⊢
 have hC:H2.objs.size=s.heap.objs.size+1:=by rw [<- j9,Yce]
 have keep:∀b o,s.heap.get? b=some o->h₁.get? b=some o:=λb o e =>
  hsb₁.extBut b o (by rw [hC];exact Yai (Yb4 (Yae e))) (Heap.get?_push_of_some _ (j9 ▸ Heap.get?_push_of_some _ e))
 have ba:∃n,h₁.get? s.heap.objs.size=some { cls:=.type "list",data:=.seq #[] n } :=
  ⟨_,hsb₁.extBut _ _ (by rw [hC];exact Yai (Ycl _)) (Heap.get?_push_of_some _ (j9 ▸ Heap.get?_push_size _ rfl))⟩
 have j7:∀b∈fp,∃o,s.heap.get? b=some o:=λb hb=>let⟨o,e,_⟩:=T.obj _ _ st b hb;⟨o,e⟩
 have ff:s.heap.objs.size<=H2.objs.size:=by rw [hC];exact Ycs _
 have I0:=I.comp0 (tn:=tn 0) (C:=H2.objs.size) (tk:=s.toks+([]:List (Str×Value)).length) ok hk hf j7 hC ⟨_,d4₁⟩ keep ba
 have ol:tn 0 h₁:=T.keep _ _ _ st λb hb o e=>keep b o e
 obtain⟨W,⟨m0,w0⟩,turn⟩:=h _ (I.hok.fresh (Yad _))
 have gn:∀b∈fp,b∉frs X.stack:=I0.ok.exfs
 have dq:∀{H':Hp},(∀b∈fp,H' b=none)->∀b∈fp,Hl (Be X N' scope H2.objs.size s H fp) [] H' b:=λhn b hb =>
  ⟨hn b hb,(I0.ok.exf b hb).1,gn b hb,.inl hb,(I0.ok.exf b hb).2,λq hq=>(nomatch hq)⟩
 have loop:∀s₃:Shared,s₃={ s with heap:=h₁,toks:=s.toks+([]:List (Str×Value)).length } ->
   codeAny (model X.prog X.w) X.A (.compLoop (.ListComp bz [⟨tg,iter,bp,0⟩] scope pos) 0 (.ref it) (.ref s.heap.objs.size) (compEnvC scope (C2 X.env.cells scope.names []) H2.objs.size X.env)) (RR (.ref s.heap.objs.size) H2.objs.size) s₃:=by
  rintro s₃ rfl
  refine G9 (λn s'=>∃i acc σ' H',Inv (Be X N' scope H2.objs.size s H fp) [] σ' H' s'/\tn i s'.heap/\(∀b∈fp,H' b=none)/\W i n acc σ' H') ?_ m0
   ⟨0,[],_,_,I0,ol,λb hb=>by rw [A7 (Yai (let⟨_,e⟩:=j7 b hb;Yae e))];exact(hf b hb).1,w0⟩
  rintro n s3 ⟨i,acc,σ3,H3,I3,st3,fr3,w3⟩
  rcases turn i n acc σ3 H3 w3 with⟨stop,qn⟩ | ⟨go,N,hN,step⟩
  ·refine thn (T.done (Be X N' scope H2.objs.size s H fp) rfl rfl rfl hc i [] s3 σ3 H3 _ I3 (dq fr3) st3 stop) λr s4 ⟨hr,I4⟩=>?_
   subst hr
   refine x3 _ s4 H3 ?_ (let⟨m,hm,_⟩:=I4.loc;⟨m,hm⟩) I4.free (Yak I.sz ff) (Nat.ne_of_gt (Yar I.lt ff)) (λx c e=>?_) (λq hq=>?_) qn
   ·exact I.call' I4.os I4.base I4.hok I4.bare λb hb=>let⟨_,f1,_,f3,f4,f5⟩:=hf b hb;⟨f3,f1,f4,f5⟩
   ·obtain⟨v,z⟩:=I.cell x c e
    exact Yai (Yar z.lt ff)
   ·exact Yai (Yar (Yae (I.pin q hq).1) ff)
  ·refine thn (T.item (Be X N' scope H2.objs.size s H fp) rfl rfl rfl hc i [] s3 σ3 H3 _ I3 (dq fr3) st3 go) λr s4 ⟨u,hr,h4⟩=>?_
   subst hr
   refine thn h4 λ_ s5 i5=>?_
   obtain⟨x,H5,I5,r5,y5,st5,fr5⟩:=i5
   have I5':=I5.pinned (dq fr5) (T.obj _ _ st5)
   refine thn (hg _ _ _ _ _ s5 σ3 H5 x u _ I5' r5 (step x H5 y5)) λ_ s6 iz=>?_
   obtain⟨σ6,H6,I6,q6⟩:=iz
   refine thn (ht _ _ _ _ _ s6 σ6 H6 _ I6 q6) λb s7 ⟨H7,I7,q7⟩=>?_
   have again:∀{σ8:St} {H8:Hp} {gl:List V} {s8:Shared},Inv (Be X N' scope H2.objs.size s H fp) ([]++Gj fp s5.heap) σ8 H8 s8->(∃m',m' < n/\W (i+1) m' gl σ8 H8) ->
     ∃m,m < n/\∃i acc σ' H',Inv (Be X N' scope H2.objs.size s H fp) [] σ' H' s8/\tn i s8.heap/\(∀b∈fp,H' b=none)/\W i m acc σ' H':=λ{σ8 H8 gl s8} I8 hw=>by
    obtain⟨m',hm,w8⟩:=hw
    refine⟨m',hm,i+1,gl,σ8,H8,I8.unpinned,T.keep _ _ _ st5 λb hb o e=>(I8.pin (b,o) (Ya4 _ (Ya4 _ (Cm hb e)))).1,λb hb=>?_,w8⟩
    obtain⟨o,e,d⟩:=T.obj _ _ st5 b hb
    exact(I8.pin (b,o) (Ya4 _ (Ya4 _ (Cm hb e)))).2.1
   cases b with
   | false =>
    rw [Yaj Yag]
    rw [Yaj Yag]at q7
    exact again I7 (hN _ _ _ q7)
   | true =>
    rw [Yao rfl]
    rw [Yao rfl]at q7
    refine thn (he _ _ _ _ _ s7 σ6 H7 _ I7 q7) λy s8 iq=>?_
    obtain⟨v,H8,I8,r8,ac,e8,z8,w8⟩:=iq
    refine thn (Gk (X:=Be X N' scope H2.objs.size s H fp) _ s8 σ6 H8 (.ref s.heap.objs.size) [v] (.ref s.heap.objs.size) [y] (λ_ H9=>H9=upd H8 s.heap.objs.size (.lst (ac++[v]))) I8 rfl (.cons r8 .nil) ⟨_,ac,v,rfl,rfl,e8,z8,rfl⟩) λ_ s9 im=>?_
    obtain⟨_,H9,I9,_,e9⟩:=im
    subst e9
    exact again I9 (hN _ _ _ w8)
 exact codeAny_compStart_list (loop _ rfl) (T.self _ 0 _ _ _ ol (loop _ rfl))
theorem Inv.letgo{aa:List (Addr×Obj)}{σ:St}{H:Hp}{s:Shared}{C:Addr}{h':Heap}(I:Inv X aa σ H s)(hn:H C=none)(h1:X.s₀.heap.objs.size<=C)(hL:C≠X.env.locals)(h2:∀x c,X.env.cells.lookup x=some c->c≠C)
  (h3:∀q∈X.pn++aa,q.1≠C) (hs:Heap.SameBut C s.heap h'):Inv X aa σ H { s with heap:=h' } :=
 I.turned (t':=s.toks) (λb o hb e=>(hs.2 b hb).trans e) hn hL (.inr h1) h2 h3
theorem Ww(hc:X.calm=true)(hi:PI X tg iter wi)(hg:∀C s H fp,PG (Be X N' scope C s H fp) tg g)(ht:∀C s H fp,PIfs (Be X N' scope C s H fp) bp tst)(he:∀C s H fp,PE (Be X N' scope C s H fp) bz te)
  (ok:CompOk X.N X.env.scope.names scope.names N' mp) (hk:scope.kind=.function:=by rfl) (hs:∀x,foldedSetIterable iter X.env x=pure x:=by intro _;rfl) :
  PE X (.ListComp bz [⟨tg,iter,bp,0⟩] scope pos) (Pd mp wi g tst te):=by
 intro aa s σ H Q I h
 rw [eval_ListComp]
 refine Yec (use:=none) rfl hs (Dt λx hx e=>I.ok.has x.1 (ok.free x hx e)) hk ok.loc (thn (hi aa s σ H _ I h) λv s1 h1=>thn h1 λoe s2 h2=>?_)
 obtain⟨it,fp,tn,J,H2,e,I2,T,st2,f2,hw⟩:=h2
 subst e
 refine L9 (Q:=λp H'=>Q (.ref p) H') (RR:=λacc C=>compPost (model X.prog X.w) X.A X.xe none (EP X aa σ Q) acc C) ok hk hc I2 T st2 f2 hg ht he hw ?_
 intro C s' H' I' d4 hn h1 hL bm je q
 obtain⟨m,hm⟩:=d4
 exact⟨m,hm,λh' fg=>⟨.ref s2.heap.objs.size,H',I'.letgo hn h1 hL bm je fg,rfl,q⟩⟩
theorem Wx{i:Nat}{y:Str}{py dy:Pos}(hc:X.calm=true)(hN:X.N.Nodup)(df:X.N[i]?=some y)(hy:X.env.scope.names.lookup y=some .local)
  (hi:PI X tg iter wi) (hg:∀C s H fp,PG (Be X N' scope C s H fp) tg g) (ht:∀C s H fp,PIfs (Be X N' scope C s H fp) bp tst) (he:∀C s H fp,PE (Be X N' scope C s H fp) bz te)
  (ok:CompOk X.N X.env.scope.names scope.names N' mp) (ko:swapsWith (.ListComp bz [⟨tg,iter,bp,0⟩] scope pos) (some (.Name y py)) dy.line X.env=pure true:=by rfl)
  (hk:scope.kind=.function:=by rfl) (hs:∀x,foldedSetIterable iter X.env x=pure x:=by intro _;rfl) :
  PS X (.Assign [.Name y py] (.ListComp bz [⟨tg,iter,bp,0⟩] scope pos) dy) (Su (Pd mp wi g tst te) (O7 i)):=by
 intro aa s σ H D I h
 rw [exec_Assign_Name_used _ _ _ _ ko]
 refine Yaa (wpAny_standAt (Yaa ?_))
 show wpAny _ _ (do let _ <- comprehension (.ListComp bz [⟨tg,iter,bp,0⟩] scope pos) scope X.env _ (newList []) false (eval iter X.env) (some (assign (.Name y py) X.env))) _ _ s
 refine Yaa (Yb1 (Yec (use:=some (assign (.Name y py) X.env)) (Q:=λ_ s'=>SP X aa D .next s') rfl hs (Dt λx hx e=>I.ok.has x.1 (ok.free x hx e)) hk ok.loc
  (thn (hi aa s σ H _ I h) λv s1 h1=>thn h1 λoe s2 h2=>?_)) (λ_ s' hq=>Yac (Yac hq)) λ_ _ e=>e)
 obtain⟨it,fp,tn,J,H2,e,I2,T,st2,f2,hw⟩:=h2
 subst e
 refine L9 (Q:=λp H'=>D.nx (σ.set i (some (.ref p))) H') (RR:=λacc C=>compPost (model X.prog X.w) X.A X.xe (some (assign (.Name y py) X.env)) (λ_ s'=>SP X aa D .next s') acc C) ok hk hc I2 T st2 f2 hg ht he hw ?_
 intro C s' H' I' d4 hn h1 hL bm je q
 obtain⟨m,hm⟩:=d4
 show wpAny _ _ (assign (.Name y py) X.env (.ref s2.heap.objs.size)) _ _ s'
 refine wpAny_assign_Name (Gi I' hN df (.inl hy) (v:=.ref s2.heap.objs.size) rfl (λon I'' d9=>?_) (.inr hy))
 obtain⟨a,hsb,ha⟩:=d9
 have yd:C≠a:=by
  rcases ha with rfl | ha
  ·exact hL
  ·exact(bm _ _ ha).symm
 refine⟨m,hm.sameBut hsb yd,λh' fg=>?_⟩
 exact⟨_,H',I''.letgo hn h1 hL bm je fg,q⟩
end
section
variable {K:PySem.W.Frag}{a p:Addr}{xs:List V}{g:TG}{tst:TT}{te:TE}{Q:Hp->Prop}{σ:St}{H:Hp}
theorem Wy{J:It}(n:Nat)(Pv:Nat->List V->St->Hp->Prop)(h0:Pv 0 [] σ H)
  (wm:∀i acc σ H,i < n->Pv i acc σ H->J.go i H) (il:∀acc σ H,Pv n acc σ H->J.stop n H/\Q H)
  (hs:∀i x acc σ H H2,i < n->Pv i acc σ H->J.yld i H x H2->g x σ H2 fun σ3 H3=>tst σ3 H3 λb H4 =>
   if b=true then te σ3 H4 λv H5=>∃ac,H5 p=some (.lst ac)/\ac.length < sizeLine/\Pv (i+1) (ac++[v]) σ3 (upd H5 p (.lst (ac++[v]))) else Pv (i+1) acc σ3 H4) :
  Pc p J g tst te Q σ H:=by
 refine⟨λi m acc σ H=>m=n - i/\i<=n/\Pv i acc σ H,⟨n,by simp,Yaz _,h0⟩,?_⟩
 rintro i m acc σ H ⟨rfl,hi,pv⟩
 by_cases hlt:i < n
 ·exact .inr ⟨wm i acc σ H hlt pv,Pv (i+1),λacc σ H q=>⟨n - (i+1),by omega,rfl,hlt,q⟩,λx H2 y=>hs i x acc σ H H2 hlt pv y⟩
 ·have e:i=n:=by omega
  subst e
  exact .inl (il acc σ H pv)
end
section
variable {X:Cx}
def Qhm:V->Option Int->Option Int->Hp->VK->Prop:=λx lo hi H Q=>∃z,x=.str z/\z.length<=sizeLine/\Q (.str (Txt.slice z lo hi)) H
theorem Qbb:SlR X Qhm:=by
 intro aa s σ H x v vl vu lo hi sl Q I rx hs pl pu h
 obtain⟨z,rfl,hz,q⟩:=h
 obtain⟨t,rfl⟩:=rx
 refine⟨"str",_,F.slot_str_getitem.lookup,typeIs_str _ _ _,?_⟩
 have fin:∀t' k,EP X aa σ Q (.str (Txt.slice z lo hi) t') { s with toks:=k }:=λt' k=>⟨.str _,H,I.tok _,⟨_,rfl⟩,q⟩
 cases pl with
 | none =>
  cases pu with
  | none=>exact Ydj (l:=none) (u:=none) (st:=none) hs rfl (Yfi ⟨Yak (Txt.slice_le z _ _) hz,fin⟩)
  | int j tj=>exact Ydj (l:=none) (u:=some (j,tj)) (st:=none) hs rfl (Yfi ⟨Yak (Txt.slice_le z _ _) hz,fin⟩)
 | int i ti =>
  cases pu with
  | none=>exact Ydj (l:=some (i,ti)) (u:=none) (st:=none) hs rfl (Yfi ⟨Yak (Txt.slice_le z _ _) hz,fin⟩)
  | int j tj=>exact Ydj (l:=some (i,ti)) (u:=some (j,tj)) (st:=none) hs rfl (Yfi ⟨Yak (Txt.slice_le z _ _) hz,fin⟩)
theorem Qec(hc:X.calm=true):Ek X (.builtin "all") (λxs H Q=>∃(p:Addr) (bs:List Bool),xs=[.ref p]/\E5 X.K H p (bs.map V.bl)/\Q (.bl (bs.all id)) H):=by
 intro aa s σ H xs us Q I r h
 obtain⟨p,bs,rfl,hq,q⟩:=h
 obtain⟨u,rfl,rx⟩:=E6 r
 cases rx
 obtain⟨ae,r',pl,hz⟩:=I.list hq
 have ah:=r'.length
 rw [Yab]at ah
 refine call_all_walk (Yd1 pl.isList ?_)
 have am:p≠s.heap.objs.size:=Yai (let⟨_,ho,_⟩:=pl.isList;Yae ho)
 refine⟨s.heap.objs.size,_,_,_,_,_,λi=>bs.getD i true,rfl,Walks.list (show X.A.in1.handled=none from I.ok.hd hc) s.heap.objs.size p am ae.toArray,?_,?_,λh' tk k=>?_⟩
 ·exact⟨⟨_,Heap.get?_push_size _ rfl,rfl,rfl⟩,pl.isList.at λo e=>Heap.get?_push_of_some _ e⟩
 ·intro i v s' Q' E' hP hQ'
  have hv:ae[i]?=some v:=by simpa using hP
  have hi:i < bs.length:=by rw [ah];exact(List.getElem?_eq_some_iff.mp hv).1
  obtain⟨u,hu,ru⟩:=r'.get (i:=i) (x:=V.bl bs[i]) (by simp [hi])
  rw [hv]at hu
  cases hu
  cases (show v=Value.bool bs[i] from ru)
  refine Yeu ?_
  have e:bs.getD i true=bs[i]:=by simp [hi]
  have lp:Q' (bs.getD i true) s':=hQ'
  rw [e]at lp
  exact lp
 ·have e:(List.range ae.toArray.size).all (λi=>bs.getD i true)=bs.all id:=by
   rw [Yau,<- ah]
   rw [Yfj,Yb8,Yb8]
   constructor
   ·intro a x hx
    obtain⟨i,hi,rfl⟩:=List.mem_iff_getElem.mp hx
    have:=a i (Ya3.mpr hi)
    simpa [hi] using this
   ·intro a i hi
    have hi:=Ya3.mp hi
    have:=a bs[i] (Yb3 hi)
    simpa [hi] using this
  rw [e]
  exact⟨.bl _,H,I.kept λb o e=>k b o (by
   intro hb
   have:b=s.heap.objs.size:=by simpa using hb
   exact absurd (Yae e) (by rw [this];exact Yb9 _)) (Heap.get?_push_of_some _ e),rfl,q⟩
def Qed(K:PySem.W.Frag)(te:TE):TE:=fun σ H Q=>te σ H λx H1=>∃a xs,x=.ref a/\E5 K H1 a xs/\∀l,H1 l=none->Q (.ref l) (upd H1 l (.lst xs.reverse))
theorem Wz{e:Expr}{te:TE}{p p2 pos bh:Pos}(hc:X.calm=true)(hg:Gl X "list") (hm:X.mg "list" = none) (jx:Gl X "reversed") (dz:X.mg "reversed" = none) (he:PE X e te)
  (hs:starEach [.Call (.Name "reversed" p2) [e] [] bh] X.env=[(false,eval (.Call (.Name "reversed" p2) [e] [] bh) X.env)]:=by rfl) (eh:starEach [e] X.env=[(false,eval e X.env)]:=by rfl) :
  PE X (.Call (.Name "list" p) [.Call (.Name "reversed" p2) [e] [] bh] [] pos) (Qed X.K te):=by
 intro aa s σ H Q I h
 refine Ybz (Da I hg hm boot_list ?_)
 refine Ybv ?_ hs rfl
 rw [hs]
 refine Ybk ?_
 refine Ybz (Da I jx dz boot_reversed ?_)
 refine Ybv ?_ eh rfl
 rw [eh]
 refine Ybk (thn (he aa s σ H _ I h) λu s1 rg=>Ybj ?_)
 obtain⟨v,H1,I1,r1,q1⟩:=rg
 obtain⟨a,xs,rfl,hq,q⟩:=q1
 cases r1
 obtain⟨ae,r',pl,hz⟩:=I1.list hq
 have ah:=r'.length
 refine call_reversed_list pl.isList (Ybj ?_)
 have am:a≠s1.heap.objs.size:=Yai (let⟨_,ho,_⟩:=pl.isList;Yae ho)
 have hpl:(s1.heap.push (revObj a ((ae.toArray.size:Int) - 1))).IsList a ae.toArray:=pl.isList.at λo e=>Heap.get?_push_of_some _ e
 refine Gp (s:={ s1 with heap:=s1.heap.push (revObj a ((ae.toArray.size:Int) - 1)) }) (Walks.listRev (show X.A.in1.in1.handled=none from I.ok.hd hc) s1.heap.objs.size a am ae.toArray).toS (λi s st=>st.2.1.typeIs) ?_ ?_ (by simp) (λs' aq c' mv hS ba=>?_) (by rw [Yau,<- ah];exact hz)
 ·refine⟨Yaz _,⟨_,Heap.get?_push_size _ rfl,rfl,?_⟩,hpl⟩
  simp [revObj]
 ·intro b hb
  rw [Yce]
  rcases Yap.mp hb with rfl | hb
  ·exact Ycl _
  ·have:b=a:=by simpa using hb
   subst this
   exact Yb4 (let⟨_,ho,_⟩:=pl.isList;Yae ho)
 ·have hsz:(s1.heap.push (revObj a ((ae.toArray.size:Int) - 1))).objs.size=s1.heap.objs.size+1:=Yce ..
  obtain⟨h',g',d',t',o'⟩:=s'
  have eg:g'=s1.gens:=mv.gens
  have ed:d'=s1.drawn:=mv.drawn
  have eo:o'=s1.os:=mv.os
  subst eg ed eo
  have keep:∀b o,s1.heap.get? b=some o->h'.get? b=some o:=λb o e=>by
   have hb:=Yae e
   refine mv.heap b o (λhm=>?_) (Heap.get?_push_of_some _ (Heap.get?_push_of_some _ e))
   rcases Yap.mp hm with z | z
   ·have z:b=(s1.heap.push (revObj a ((ae.toArray.size:Int) - 1))).objs.size:=z
    rw [z,hsz]at hb
    exact absurd hb (Nat.not_lt.mpr (Ycs _))
   ·have z:b=s1.heap.objs.size:=by simpa using z
    rw [z]at hb
    exact absurd hb (Yb9 _)
  have ea:aq.toList=ae.reverse:=by
   refine Ycy λj=>?_
   have zac:aq.toList.length=ae.length:=by have:=ba.1;simp at this ⊢;omega
   by_cases hj:j < ae.length
   ·have h1:aq[j]?=some (aq[j]'(by have:=ba.1;simp at this;omega)):=Array.getElem?_eq_getElem _
    have h2:=ba.2 j _ h1
    rw [List.getElem?_reverse hj]
    have h3:ae[ae.length - 1 - j]?=some (aq[j]'(by have:=ba.1;simp at this;omega)):=by simpa using h2
    rw [h3]
    simpa using h1
   ·rw [List.getElem?_eq_none (by omega),List.getElem?_eq_none (by rw [List.length_reverse];omega)]
  refine⟨.ref (s1.heap.push (revObj a ((ae.toArray.size:Int) - 1))).objs.size,upd H1 (s1.heap.push (revObj a ((ae.toArray.size:Int) - 1))).objs.size (.lst xs.reverse),
   I1.laid (h':=h') (t':=t') keep (by omega) (show Bl X.prog X.w _ h' _ (.lst xs.reverse) from⟨by rw [List.length_reverse];exact hz,aq.toList,c',by rw [ea];exact r'.reverse,by simpa using hS⟩),rfl,q _ (I1.hok.fresh (by omega))⟩
end
section
variable {H H':Hp}{d l p:Addr}{s n:Int}{ns:List Int}{o:HO}
end
theorem seven{n:Nat}(h:n<=1000):n<=sizeLine:=Ybq (A0 h)
end L2
namespace PySem
open Sem (wp)
open AutoSeq1 (wpAny_loadPart')
set_option maxRecDepth 100000
section
variable {prog:Program}{w:World}{A:Around}{E:Value->Shared->Prop}{s:Shared}
end
section
variable {prog:Program}{w:World}{A:Around}{E:Value->Shared->Prop}{s:Shared}
end
end PySem
namespace L2
open PySem PySem.Spec PyProof.Rows
def Tq(ds:List PyData)(lo hi:Option Int):List PyData:=(ds.drop (HT.sIx ds.length 0 lo)).take (HT.sIx ds.length ds.length hi - HT.sIx ds.length 0 lo)
structure OkB(dep wt:Nat)(d:PyData):Prop where
 lay:d.canLay0=true
 dp:d.depth<=dep
 wt:d.weight<=wt
 sh:d.intsShort 13=true
 sw:d.showable=true
structure OkBs(dep wt:Nat)(ds:List PyData):Prop where
 lay:PyData.canLayAll0 ds=true
 dp:PyData.depthAll ds<=dep
 wt:PyData.weightAll ds<=wt
 sh:PyData.intsShortAll 13 ds=true
 sw:PyData.showableAll ds=true
theorem OkBs.nil{dep wt:Nat}:OkBs dep wt []:=⟨rfl,by simp [PyData.depthAll],by simp [PyData.weightAll],rfl,rfl⟩
theorem OkBs.cons{dep w1 w2:Nat}{d:PyData}{ds:List PyData}(h:OkB dep w1 d)(r:OkBs dep w2 ds):OkBs dep (w1+1+w2) (d :: ds):=by
 refine⟨?_,?_,?_,?_,?_⟩
 ·simp only [PyData.canLayAll0,h.lay,r.lay,Bool.and_self]
 ·simp only [PyData.depthAll];exact Nat.max_le.mpr ⟨h.dp,r.dp⟩
 ·simp only [PyData.weightAll];have:=h.wt;have:=r.wt;omega
 ·simp only [PyData.intsShortAll,h.sh,r.sh,Bool.and_self]
 ·simp only [PyData.showableAll,h.sw,r.sw,Bool.and_self]
theorem OkBs.mono{dep wt d' w':Nat}{ds:List PyData}(h:OkBs dep wt ds)(h1:dep<=d')(h2:wt<=w'):OkBs d' w' ds:=⟨h.lay,Yak h.dp h1,Yak h.wt h2,h.sh,h.sw⟩
theorem OkB.mono{dep wt d' w':Nat}{d:PyData}(h:OkB dep wt d)(h1:dep<=d')(h2:wt<=w'):OkB d' w' d:=⟨h.lay,Yak h.dp h1,Yak h.wt h2,h.sh,h.sw⟩
theorem OkBs.cons'{dep w1 w2 w3:Nat}{d:PyData}{ds:List PyData}(h:OkB dep w1 d)(r:OkBs dep w2 ds)(e:w1+1+w2<=w3):OkBs dep w3 (d :: ds):=(OkBs.cons h r).mono (Yad _) e
theorem OkBs.all{dep w n:Nat}{ds:List PyData}(h:∀d∈ds,OkB dep w d)(hn:ds.length<=n):OkBs dep (n * (w+1)) ds:=by
 induction ds generalizing n with
 | nil=>exact OkBs.nil
 | cons d ds ih =>
  cases n with
  | zero=>simp at hn
  | succ m =>
   refine OkBs.cons' (h d Yax) (ih (n:=m) (λe he=>h e (Yav _ he)) (by simp at hn;omega)) ?_
   rw [Nat.succ_mul];omega
theorem OkBs.tup{dep w:Nat}{ds:List PyData}(h:OkBs dep w ds):OkB (dep+1) w (.tuple ds) :=
 ⟨by simp only [PyData.canLay0,h.lay],by simp only [PyData.depth];exact Nat.succ_le_succ h.dp,by simp only [PyData.weight];exact h.wt,by simp only [PyData.intsShort,h.sh],by simp only [PyData.showable,h.sw]⟩
theorem OkBs.lst{dep w:Nat}{ds:List PyData}(h:OkBs dep w ds):OkB (dep+1) w (.list ds) :=
 ⟨by simp only [PyData.canLay0,h.lay],by simp only [PyData.depth];exact Nat.succ_le_succ h.dp,by simp only [PyData.weight];exact h.wt,by simp only [PyData.intsShort,h.sh],by simp only [PyData.showable,h.sw]⟩
theorem Pe{i:Int}(h0:-1000000000<=i)(h1:i<=1000000000):OkB 0 40 (.int i):=by
 have hn:i.natAbs<=1000000000:=by omega
 have hl:i.natAbs.log2<=30:=by
  rcases Yej i.natAbs with z | z
  ·rw [z];decide
  ·exact Ybq ((Nat.log2_lt (by omega)).mpr (Yei hn (by decide)))
 refine⟨rfl,Yad _,?_,?_,?_⟩
 ·simp only [PyData.weight];split <;> omega
 ·have:=int_text_length_le10 (a:=i) (k:=10) (by decide) (Yei hn (by decide))
  simp only [PyData.intsShort,PyData.shown]
  refine Ybg ?_
  show(Str.ofString (toString i)).length<=13
  rw [PySem.ofString_length];omega
 ·simp only [PyData.showable];exact Ybg (by omega)
structure OkD(d:PyData):Prop where
 lay:d.layable0=true
 sh:d.intsShort 13=true
 sw:d.showable=true
theorem OkB.ok{dep w:Nat}{d:PyData}(h:OkB dep w d)(h1:dep<=64)(h2:w<=1048576):OkD d:=by
 refine⟨?_,h.sh,h.sw⟩
 show(d.canLay0 && decide (d.depth<=64) && decide (d.weight<=2 ^ 20))=true
 rw [h.lay,Ybg (Yak h.dp h1),Ybg (Yak h.wt (show w<=2 ^ 20 by simpa using h2))]
 rfl
theorem OkD.depth{d:PyData}(h:OkD d):d.depth<=64:=SeqAt.depth_of_layable h.lay
section
variable {X:Cx}{k:Nat}
end
section
variable {X:Cx}{aa:List (Addr×Obj)}{σ:St}{H:Hp}{s:Shared}{h':Heap}
end
section
variable {X:Cx}
theorem Qbc{J:It}{g:TG}{tb:TS}{D:Ends}{σ:St}{H:Hp}(n:Nat)(Pv:Nat->St->Hp->Prop)(h0:Pv 0 σ H)(wm:∀i σ H,i < n->Pv i σ H->J.go i H)(il:∀ σ H,Pv n σ H->J.stop n H/\D.nx σ H)
  (hs:∀i x σ H H2,i < n->Pv i σ H->J.yld i H x H2->g x σ H2 fun σ2 H3=>tb { D with nx:=Pv (i+1),ct:=Pv (i+1),bk:=D.nx } σ2 H3) :
  ∃W:Nat->Nat->St->Hp->Prop,(∃m,W 0 m σ H)/\∀i m σ H,W i m σ H ->
   (J.stop i H/\D.nx σ H)\/(J.go i H/\∃N:St->Hp->Prop,(∀ σ' H',N σ' H'->∃m',m' < m/\W (i+1) m' σ' H')/\∀x H',J.yld i H x H'->g x σ H' fun σ2 H2=>tb { D with nx:=N,ct:=N,bk:=D.nx } σ2 H2):=by
 refine⟨λi m σ H=>m=n - i/\i<=n/\Pv i σ H,⟨n,by simp,Yaz _,h0⟩,?_⟩
 rintro i m σ H ⟨rfl,hi,p⟩
 by_cases hlt:i < n
 ·exact .inr ⟨wm i σ H hlt p,Pv (i+1),fun σ' H' p'=>⟨n - (i+1),by omega,rfl,hlt,p'⟩,λx H' y=>hs i x σ H H' hlt p y⟩
 ·have e:i=n:=by omega
  subst e
  exact .inl (il σ H p)
theorem Ku:Hu X (binaryOp .Mult) (λx y H Q=>∃z n,x=.str z/\y=.int n/\(n=0\/n=1)/\Q (.str (if n=0 then Str.empty else z)) H):=by
 intro aa s σ H x y v u Q I rx ry h
 obtain⟨z,n,rfl,rfl,hn,q⟩:=h
 obtain⟨t,rfl⟩:=rx
 obtain⟨t',rfl⟩:=ry
 rcases hn with rfl | rfl
 ·exact P.mul_str_none (by decide) (by decide) ⟨.str Str.empty,H,I.tok _,⟨_,rfl⟩,by simpa using q⟩
 ·refine P.mul_str (by decide) (λ_ z=>by simp at z) (λ_ z=>by simp at z) ?_
  rw [Yaj (by decide),Yao (by simp)]
  exact⟨.str z,H,I,⟨_,rfl⟩,by simpa using q⟩
end
section
variable {X:Cx}
end
end L2
namespace HT
open PySem PySem.Spec PyProof.Rows
section
variable {prog:Program}{w:World}{A:Around}{E:Value->Shared->Prop}{s:Shared}
theorem getItem_tuple_all{t sl:Addr}{items:Array Value}{vl vu:Value}{lo hi:Option Int}{Q:Value->Shared->Prop}(ht:IsTup s.heap t items)(hs:s.heap.IsSliceOf sl vl vu .none)(pl:IsPart vl lo)(pu:IsPart vu hi)
  (hw:sIx items.size 0 lo=0/\sIx items.size items.size hi=items.size)
  (h:Q (.ref t) s):wpAny (model prog w) A (getItem (.ref t) (.ref sl)) Q E s:=by
 obtain⟨os,hos,jy,hds⟩:=id hs
 have wa:s.TypeIs (.ref sl) "slice" := ⟨os,hos,jy⟩
 unfold getItem
 try with_reducible refine Ybs ?_
 first | refine Yaa (Yac ?_) | skip
 refine Yaa (wpAny_sequenceKey ht.typeIs (by decide) ?_)
 refine Yaa (wpAny_callSpecial?_slot (name:=Str.ofString "__getitem__") ht.typeIs Ybw
  (Ybu Ybw ht.typeIs entry_tuple_getitem ?_ (args_tuple_getitem _ _)))
 show wpAny _ _ (Builtin.Tuple.tupleItemsOf (.ref t) >>= _) _ _ s
 refine Yaa (tupleItemsOf_ ht ?_)
 refine Yaa (Yeb wa ?_)
 rw [Yao (by decide)]
 refine Yaa (Dz hs pl pu ?_)
 have yl:(((sIx items.size 0 lo:Nat):Int)==0 && (1:Int)==1 && (sIx items.size items.size hi - sIx items.size 0 lo)==items.size)=true:=by
  rw [hw.1,hw.2];simp
 show wpAny _ _ (if(((sIx items.size 0 lo:Nat):Int)==0 && (1:Int)==1 && (sIx items.size items.size hi - sIx items.size 0 lo)==items.size)=true then _ else _) _ _ s
 rw [Yao yl]
 unfold Builtin.Tuple.tupleIsExact
 refine Yaa (Yaa (Yeb ht.typeIs (Yac ?_)))
 rw [Yao (by decide)]
 refine Yaa (Yco ?_)
 first
  | exact Yac ⟨_,rfl,Yac h⟩
  | exact Yaa (Yac (Yac ⟨_,rfl,Yac h⟩))
  | exact Yaa (Yac ⟨_,rfl,Yac h⟩)
end
end HT
namespace L2
open PySem PySem.Spec PyProof.Rows
section
variable {X:Cx}
theorem Tr{ds:List PyData}{lo hi:Option Int}(h:HT.sIx ds.length 0 lo=0/\HT.sIx ds.length ds.length hi=ds.length):Tq ds lo hi=ds:=by
 unfold Tq
 rw [h.1,h.2,List.drop_zero,Nat.sub_zero,Yc2 (Yad _)]
end
section
variable {X:Cx}
end
end L2
namespace PySem
open Sem (wp)
open AutoSeq1 (wpAny_loadPart')
set_option maxRecDepth 100000
section
variable {prog:Program}{w:World}{K:Type} [DecidableEq K]
end
end PySem
namespace L2
open PySem PySem.Spec PyProof.Rows
section
variable {X:Cx}
end
section
variable {X:Cx}{K:PySem.W.Frag}
variable {o e:Expr}{es:List Expr}{to:TE}{t:TA}{name:Str}{ap ak:Pos}{T id:String}{r:V->List V->Hp->VK->Prop}
end
def Cal(P:Program)(w:World)(K:PySem.W.Frag)(mg:Str->Option Value)(base:Heap)(n:Nat)(x:Str)(ps:List Str)(sp:Sp):Prop :=
 ∃g gd,FnOk P w K mg base Gn n g gd ps sp/\Binds K gd ps []/\PySem.W.keepIn K (.ref g)=true/\mg x=some (.ref g)
theorem Cal.mono{P:Program}{w:World}{K:PySem.W.Frag}{mg:Str->Option Value}{base:Heap}{n m:Nat}{x:Str}{ps:List Str}{sp:Sp}(c:Cal P w K mg base n x ps sp)(h:n<=m):Cal P w K mg base m x ps sp :=
 let⟨g,gd,G,r⟩:=c;⟨g,gd,G.mono h,r⟩
end L2
namespace L2
open PySem PySem.Spec PySem.Calls PyProof.Rows
section
variable {prog:Program}{w:World}{A:Around}{E:Value->Shared->Prop}{s:Shared}{K:PySem.W.Frag}{x C:Addr}{ox:Obj}{od:Option Obj}{name:Str}
end
abbrev bmV:List Value:=[.type "ValueError",.type "Exception",.type "BaseException",.type "object"]
def Qi7(K:PySem.W.Frag)(C:Addr)(cd:ClassData)(sl:Array (Option Value)):Bool:=cd.mro.head?==some (.ref C) && !cd.hasDel && PySem.W.tailIn K bmV cd.mro.tail && sl.size==6 && sl[4]?==some (some (.builtin "ValueError.__new__"))
theorem Qhn{sl:Array (Option Value)}{v:Option Value}(h:sl.size=6)(e:sl[4]?=some v):∃k0 k1 k2 k3 k5,sl=#[k0,k1,k2,k3,v,k5]:=by
 obtain⟨l⟩:=sl
 match l,h with
 | [k0,k1,k2,k3,k4,k5],_ =>
  have:k4=v:=by simpa using e
  subst this
  exact⟨k0,k1,k2,k3,k5,rfl⟩
section
variable {prog:Program}{w:World}{A:Around}{E:Value->Shared->Prop}{h:Heap}{g:Array GenState}{d:Drawn}{t:Nat}{os:OsState}{K:PySem.W.Frag}{C:Addr}
end
section
open Builtin Builtin.ObjectAttr
variable {prog:Program}{w:World}{A:Around}{E:Value->Shared->Prop}{s:Shared}{K:PySem.W.Frag}{x C:Addr}{ox:Obj}{od:Option Obj}{name:Str}{v:Value}{R:Result->Shared->Prop}
end
end L2
namespace L2
open PySem PySem.Spec PySem.Calls PyProof.Rows
def XD(dx:Addr)(fs:List (Str×V)):HO:=.ext λh=>∃mA,h.Ns1 dx mA/\(∀f,Gh (fs.lookup f) (mA f))/\PySem.Within mA (fs.map (·.1))
section
variable {P:Program}{w:World}{H:Hp}{h:Heap}{e C t dx:Addr}{d:Option Addr}{fs:List (Str×V)}
end
section
variable {X:Cx}{aa:List (Addr×Obj)}{σ:St}{H:Hp}{s:Shared}{e C t dx:Addr}{fs:List (Str×V)}{f:Str}{v:V}{A:Around}{E:Value->Shared->Prop}
end
section
variable {X:Cx}{CX:CXT}{k:Nat}{f C:Addr}{fd:FuncData}{ps:List Str}{sp:Sp}{E:XK}{x:Str}{p pos bt ap:Pos}{e o value:Expr}{es:List Expr}{t:TA}{ta tv:TE}{fl:Str}
end
section
variable {X:Cx}
end
section
variable {M:Model}{A:Around}{E:Value->Shared->Prop}{s:Shared}{base:Heap}{env:Env}{outer:List Env}{L e:Addr}{cls:Value}{d:Option Addr}{vs:Array Value}
end
section
variable {prog:Program}{w:World}{A:Around}{E:Value->Shared->Prop}{s:Shared}{K:PySem.W.Frag}{env:Env}{e C:Addr}{d:Option Addr}{vs:Array Value}
end
def XR(e C:Addr)(d:Option Addr):HO:=.ext λh=>∃vs:Array Value,h.get? e=some ⟨.ref C,d,.fields vs,#[]⟩/\vs.size=6
section
variable {X:Cx}{aa:List (Addr×Obj)}{σ:St}{H:Hp}{s:Shared}{a C:Addr}{d:Option Addr}{h':Heap}
end
section
variable {M:Model}{A:Around}{E:Value->Shared->Prop}{s:Shared}{base:Heap}{env:Env}{outer:List Env}{L e:Addr}{cls:Value}{d:Option Addr}{vs:Array Value}
end
section
variable {prog:Program}{w:World}{A:Around}{E:Value->Shared->Prop}{s:Shared}{K:PySem.W.Frag}{e C D:Addr}{d:Option Addr}{vs:Array Value}
end
section
variable {X:Cx}{aa:List (Addr×Obj)}{σ:St}{H:Hp}{s:Shared}
end
end L2
namespace L2
open PySem PySem.Spec PyProof.Rows
inductive AV where
 | D (d:PyData) | R (a:Addr) | C (ds:List PyData) | X (C:Addr) (fs:List (Str×PyData))
 deriving Inhabited
mutual
def Cano:PyData->Bool
 | .int _=>true
 | .str _=>true
 | .tuple xs=>Ak xs
 | _=>false
def Ak:List PyData->Bool
 | []=>true
 | x :: xs=>Cano x && Ak xs
end
structure KeyTree(d:PyData):Prop where
 can:Cano d=true
 lay:d.canLay0=true
 dep:d.depth<=6
def W0(K:PySem.W.Frag)(H:Hp)(a:Addr)(xs:List V):Prop :=
 (∃o,H a=some (.frz o (.lst xs))) \/
  ∃(o:Obj) (ae:Array Value) (n:Nat),K.lookup a=some o/\o.cls=.type "list" /\ o.dict=none/\o.data=.seq ae n/\ae.size<=sizeLine/\Vals xs ae.toList
theorem W0.sq{K:PySem.W.Frag}{H:Hp}{a:Addr}{xs:List V}(h:W0 K H a xs):E5 K H a xs:=by
 rcases h with⟨o,h⟩ | h
 ·exact .inl (.inr ⟨o,h⟩)
 ·exact .inr h
def Lit:List PyData->Bool
 | .str _ :: _=>true
 | .tuple _ :: _=>true
 | _=>false
def V2(K:PySem.W.Frag)(H:Hp)(a:Addr)(ds:List PyData)(xs:List V):Prop :=
 H a=some (.tup xs)\/(Lit ds=true/\∃(o:Obj) (ae:Array Value) (n:Nat),K.lookup a=some o/\o.cls=.type "tuple" /\ o.data=.seq ae n/\ae.size<=sizeLine/\Vals xs ae.toList)
theorem V2.sq{K:PySem.W.Frag}{H:Hp}{a:Addr}{ds:List PyData}{xs:List V}(h:V2 K H a ds xs):Kl K H a xs:=by
 rcases h with h | h
 ·exact Kl.of h
 ·exact .inr h.2
mutual
def Dk(K:PySem.W.Frag)(H:Hp):PyData->V->Prop
 | .none,x=>x=.non
 | .bool b,x=>x=.bl b
 | .int i,x=>x=.int i
 | .str z,x=>x=.str z
 | .list ds,x=>∃a xs,x=.ref a/\W0 K H a xs/\Ai K H ds xs
 | .tuple ds,x=>∃a xs,x=.ref a/\V2 K H a ds xs/\Ai K H ds xs
 | .dict _,_=>False
def Ai(K:PySem.W.Frag)(H:Hp):List PyData->List V->Prop
 | [],xs=>xs=[]
 | d :: ds,xs=>∃x r,xs=x :: r/\Dk K H d x/\Ai K H ds r
end
structure Kp(H H':Hp):Prop where
 t:∀b xs,H b=some (.tup xs)->H' b=some (.tup xs)
 f:∀b o u,H b=some (.frz o u)->H' b=some (.frz o u)
theorem Kp.refl{H:Hp}:Kp H H:=⟨λ_ _ h=>h,λ_ _ _ h=>h⟩
theorem Kp.trans{H H1 H2:Hp}(a:Kp H H1)(b:Kp H1 H2):Kp H H2:=⟨λc xs h=>b.t c xs (a.t c xs h),λc o u h=>b.f c o u (a.f c o u h)⟩
theorem Kp.new{H:Hp}{p:Addr}(h:H p=none)(o:HO):Kp H (upd H p o) :=
 ⟨λb xs e=>by rw [A7 (Bv e h)];exact e,λb o' u e=>by rw [A7 (Bv e h)];exact e⟩
def Mt:HO->Prop
 | .lst _=>True
 | .dK _=>True
 | .dT _=>True
 | .dd _=>True
 | _=>False
theorem Kp.put{H:Hp}{p:Addr}{o0:HO}(h:H p=some o0)(m:Mt o0)(o:HO):Kp H (upd H p o) :=
 ⟨λb xs e=>by rw [A7 (O6 e h (by intro z;subst z;exact m))];exact e,λb o' u e=>by rw [A7 (O6 e h (by intro z;subst z;exact m))];exact e⟩
theorem W0.kp{K:PySem.W.Frag}{H H':Hp}{a:Addr}{xs:List V}(S:Kp H H')(h:W0 K H a xs):W0 K H' a xs:=by
 rcases h with⟨o,h⟩ | h
 ·exact .inl ⟨o,S.f _ _ _ h⟩
 ·exact .inr h
theorem V2.kp{K:PySem.W.Frag}{H H':Hp}{a:Addr}{ds:List PyData}{xs:List V}(S:Kp H H')(h:V2 K H a ds xs):V2 K H' a ds xs:=by
 rcases h with h | h
 ·exact .inl (S.t _ _ h)
 ·exact .inr h
section
variable {K:PySem.W.Frag}{H H':Hp}
mutual
theorem Dk.kp(S:Kp H H'):∀(d:PyData) (x:V),Dk K H d x->Dk K H' d x
 | .none,x,h=>by simp only [Dk]at h ⊢;exact h
 | .bool b,x,h=>by simp only [Dk]at h ⊢;exact h
 | .int i,x,h=>by simp only [Dk]at h ⊢;exact h
 | .str z,x,h=>by simp only [Dk]at h ⊢;exact h
 | .list ds,x,h=>by
  simp only [Dk]at h ⊢
  obtain⟨a,xs,e,q,r⟩:=h
  exact⟨a,xs,e,q.kp S,Ai.kp S ds xs r⟩
 | .tuple ds,x,h=>by
  simp only [Dk]at h ⊢
  obtain⟨a,xs,e,q,r⟩:=h
  exact⟨a,xs,e,q.kp S,Ai.kp S ds xs r⟩
 | .dict _,x,h=>by simp only [Dk]at h
theorem Ai.kp(S:Kp H H'):∀(ds:List PyData) (xs:List V),Ai K H ds xs->Ai K H' ds xs
 | [],xs,h=>by simp only [Ai]at h ⊢;exact h
 | d :: ds,xs,h=>by
  simp only [Ai]at h ⊢
  obtain⟨x,r,e,h1,h2⟩:=h
  exact⟨x,r,e,Dk.kp S d x h1,Ai.kp S ds r h2⟩
end
theorem C3{i:Int}:Dk K H (.int i) (.int i):=by simp only [Dk]
theorem Pf{b:Bool}:Dk K H (.bool b) (.bl b):=by simp only [Dk]
theorem Nu{z:Str}:Dk K H (.str z) (.str z):=by simp only [Dk]
theorem Qbd:Dk K H .none .non:=by simp only [Dk]
theorem Dk.int{x:V}{i:Int}(h:Dk K H (.int i) x):x=.int i:=by simp only [Dk]at h;exact h
theorem Dk.bl{x:V}{i:Bool}(h:Dk K H (.bool i) x):x=.bl i:=by simp only [Dk]at h;exact h
theorem Dk.str{x:V}{i:Str}(h:Dk K H (.str i) x):x=.str i:=by simp only [Dk]at h;exact h
theorem Dk.non{x:V}(h:Dk K H .none x):x=.non:=by simp only [Dk]at h;exact h
theorem Dk.tup{x:V}{ds:List PyData}(h:Dk K H (.tuple ds) x):∃a xs,x=.ref a/\V2 K H a ds xs/\Ai K H ds xs:=by simp only [Dk]at h;exact h
theorem Dk.lst{x:V}{ds:List PyData}(h:Dk K H (.list ds) x):∃a xs,x=.ref a/\W0 K H a xs/\Ai K H ds xs:=by simp only [Dk]at h;exact h
theorem Kv{a:Addr}{xs:List V}{ds:List PyData}(h:H a=some (.tup xs))(r:Ai K H ds xs):Dk K H (.tuple ds) (.ref a):=by simp only [Dk];exact⟨a,xs,rfl,.inl h,r⟩
theorem Qbe{a:Addr}{xs:List V}{ds:List PyData}(h:W0 K H a xs)(r:Ai K H ds xs):Dk K H (.list ds) (.ref a):=by simp only [Dk];exact⟨a,xs,rfl,h,r⟩
theorem Dp:Ai K H [] []:=by simp only [Ai]
theorem Db{d:PyData}{ds:List PyData}{x:V}{xs:List V}(h:Dk K H d x)(r:Ai K H ds xs):Ai K H (d :: ds) (x :: xs):=by simp only [Ai];exact⟨x,xs,rfl,h,r⟩
theorem Ai.cons{d:PyData}{ds:List PyData}{xs:List V}(h:Ai K H (d :: ds) xs):∃x r,xs=x :: r/\Dk K H d x/\Ai K H ds r:=by simp only [Ai]at h;exact h
theorem Ai.nil{xs:List V}(h:Ai K H [] xs):xs=[]:=by simp only [Ai]at h;exact h
theorem Ai.length:∀{ds:List PyData} {xs:List V},Ai K H ds xs->xs.length=ds.length
 | [],_,h=>by rw [h.nil];rfl
 | _ :: ds,_,h=>by
  obtain⟨x,r,rfl,_,h2⟩:=h.cons
  rw [Ya9,Ya9,Ai.length h2]
theorem Ai.get:∀{ds:List PyData} {xs:List V} {i:Nat} {d:PyData},Ai K H ds xs->ds[i]?=some d->∃x,xs[i]?=some x/\Dk K H d x
 | [],_,_,_,_,e=>by simp at e
 | _ :: ds,_,0,d,h,e=>by
  obtain⟨x,r,rfl,h1,_⟩:=h.cons
  simp at e;subst e
  exact⟨x,rfl,h1⟩
 | _ :: ds,_,i+1,d,h,e=>by
  obtain⟨x,r,rfl,_,h2⟩:=h.cons
  obtain⟨y,e1,e2⟩:=Ai.get (i:=i) (d:=d) h2 (by simpa using e)
  exact⟨y,by simpa using e1,e2⟩
theorem Ai.append:∀{ds es:List PyData} {xs ys:List V},Ai K H ds xs->Ai K H es ys->Ai K H (ds++es) (xs++ys)
 | [],_,_,_,h,k=>by rw [h.nil];exact k
 | _ :: ds,_,_,_,h,k=>by
  obtain⟨x,r,rfl,h1,h2⟩:=h.cons
  exact Db h1 (Ai.append h2 k)
theorem Ai.drop:∀(n:Nat) {ds:List PyData} {xs:List V},Ai K H ds xs->Ai K H (ds.drop n) (xs.drop n)
 | 0,_,_,h=>h
 | _+1,[],_,h=>by rw [h.nil];exact Dp
 | n+1,_ :: ds,_,h=>by
  obtain⟨x,r,rfl,_,h2⟩:=h.cons
  exact Ai.drop n h2
theorem Ai.take:∀(n:Nat) {ds:List PyData} {xs:List V},Ai K H ds xs->Ai K H (ds.take n) (xs.take n)
 | 0,_,_,_=>Dp
 | _+1,[],_,h=>by rw [h.nil];exact Dp
 | n+1,_ :: ds,_,h=>by
  obtain⟨x,r,rfl,h1,h2⟩:=h.cons
  exact Db h1 (Ai.take n h2)
theorem Ai.cut{ds:List PyData}{xs:List V}(h:Ai K H ds xs)(lo hi:Option Int):Ai K H (Tq ds lo hi) (Jj xs lo hi):=by
 unfold Tq Jj
 rw [h.length]
 exact(h.drop _).take _
theorem Ai.atI{ds:List PyData}{xs:List V}{i:Int}{d:PyData}(h:Ai K H ds xs)(e:atI ds i=some d):∃x,L2.atI xs i=some x/\Dk K H d x:=by
 unfold L2.atI at e ⊢
 rw [h.length]
 cases q:Wl ds.length i with
 | none=>rw [q]at e;cases e
 | some j =>
  rw [q]at e
  obtain⟨x,hx,hd⟩:=h.get (show ds[j]?=some d from e)
  exact⟨x,hx,hd⟩
def W5(K:PySem.W.Frag)(H:Hp):List (Str×PyData)->List (Str×V)->Prop:=Paired λp q=>p.1=q.1/\Dk K H p.2 q.2
theorem W5.kp{fs:List (Str×PyData)}{vs:List (Str×V)}(S:Kp H H')(h:W5 K H fs vs):W5 K H' fs vs:=Paired.mapP h λp q r=>⟨r.1,Dk.kp S _ _ r.2⟩
def XFs(K:PySem.W.Frag)(H:Hp)(d:Option Addr)(fs:List (Str×PyData)):Prop:=match d with
 | none=>fs=[]
 | some d=>∃od ab,H d=some (.frz od (XD d ab))/\W5 K H fs ab
theorem XFs.kp{d:Option Addr}{fs:List (Str×PyData)}(S:Kp H H')(h:XFs K H d fs):XFs K H' d fs:=by
 cases d with
 | none=>exact h
 | some d=>obtain⟨od,ab,q,r⟩:=h;exact⟨od,ab,S.f _ _ _ q,r.kp S⟩
def RelA(K:PySem.W.Frag)(H:Hp):AV->V->Prop
 | .D d,v=>Dk K H d v
 | .R a,v=>v=.ref a
 | .C ds,v=>∃a xs,v=.ref a/\(∀H,Kl K H a xs)/\Ai K H ds xs
 | .X C fs,v=>∃a o d,v=.ref a/\H a=some (.frz o (XR a C d))/\XFs K H d fs
theorem C4{i:Int}:RelA K H (.D (.int i)) (.int i):=C3 (K:=K) (H:=H)
theorem Ts{i:Bool}:RelA K H (.D (.bool i)) (.bl i):=Pf (K:=K) (H:=H)
theorem Ib{i:Str}:RelA K H (.D (.str i)) (.str i):=Nu (K:=K) (H:=H)
theorem Ic:RelA K H (.D .none) .non:=Qbd (K:=K) (H:=H)
theorem RelA.int{x:V}{i:Int}(h:RelA K H (.D (.int i)) x):x=.int i:=Dk.int (K:=K) (H:=H) h
theorem RelA.bl{x:V}{i:Bool}(h:RelA K H (.D (.bool i)) x):x=.bl i:=Dk.bl (K:=K) (H:=H) h
theorem RelA.str{x:V}{i:Str}(h:RelA K H (.D (.str i)) x):x=.str i:=Dk.str (K:=K) (H:=H) h
theorem RelA.tup{x:V}{ds:List PyData}(h:RelA K H (.D (.tuple ds)) x):∃a xs,x=.ref a/\V2 K H a ds xs/\Ai K H ds xs:=Dk.tup (K:=K) (H:=H) h
theorem RelA.lst{x:V}{ds:List PyData}(h:RelA K H (.D (.list ds)) x):∃a xs,x=.ref a/\W0 K H a xs/\Ai K H ds xs:=Dk.lst (K:=K) (H:=H) h
theorem RelA.ref{x:V}{a:Addr}(h:RelA K H (.R a) x):x=.ref a:=h
theorem Co{a:Addr}:RelA K H (.R a) (.ref a):=rfl
theorem Rp{d:PyData}{v:V}(h:Dk K H d v):RelA K H (.D d) v:=h
theorem Tt{a:Addr}{xs:List V}{ds:List PyData}(h:H a=some (.tup xs))(r:Ai K H ds xs):RelA K H (.D (.tuple ds)) (.ref a):=Kv (K:=K) (H:=H) h r
abbrev Ao(K:PySem.W.Frag)(H:Hp):List AV->List V->Prop:=Paired (RelA K H)
theorem RelA.kp(S:Kp H H'):∀{x:AV} {v:V},RelA K H x v->RelA K H' x v
 | .D d,v,h=>Dk.kp S d v h
 | .R a,_,h=>h
 | .C ds,v,⟨a,xs,e,q,r⟩=>⟨a,xs,e,q,Ai.kp S ds xs r⟩
 | .X C fs,v,⟨a,o,d,e,q,r⟩=>⟨a,o,d,e,S.f _ _ _ q,r.kp S⟩
theorem Ao.kp(S:Kp H H'){xs:List AV}{vs:List V}(h:Ao K H xs vs):Ao K H' xs vs:=Paired.mapP h λ_ _ q=>q.kp S
theorem Ao.length{xs:List AV}{vs:List V}(h:Ao K H xs vs):xs.length=vs.length:=Ycw h
theorem Ao.append{xs ys:List AV}{us ws:List V}(h:Ao K H xs us)(s:Ao K H ys ws):Ao K H (xs++ys) (us++ws):=by
 induction h with
 | nil=>exact s
 | cons r t ih=>exact .cons r ih
theorem Ao.get:∀{xs:List AV} {us:List V} {i:Nat} {x:AV},Ao K H xs us->xs[i]?=some x->∃u,us[i]?=some u/\RelA K H x u
 | _,_,_,_,.nil,e=>by simp at e
 | _,_,0,_,.cons r _,e=>by simp at e;subst e;exact⟨_,rfl,r⟩
 | _,_,i+1,x,.cons _ t,e=>by
  obtain⟨u,h1,h2⟩:=Ao.get (i:=i) (x:=x) t (by simpa using e)
  exact⟨u,by simpa using h1,h2⟩
theorem Ao.drop:∀{xs:List AV} {us:List V} (n:Nat),Ao K H xs us->Ao K H (xs.drop n) (us.drop n)
 | _,_,0,r=>r
 | _,_,_+1,.nil=>.nil
 | _,_,n+1,.cons _ t=>Ao.drop n t
theorem Ao.take:∀{xs:List AV} {us:List V} (n:Nat),Ao K H xs us->Ao K H (xs.take n) (us.take n)
 | _,_,0,_=>.nil
 | _,_,_+1,.nil=>.nil
 | _,_,n+1,.cons r t=>.cons r (Ao.take n t)
theorem Ao.dropLast{xs:List AV}{us:List V}(h:Ao K H xs us):Ao K H xs.dropLast us.dropLast:=by
 induction h with
 | nil=>exact .nil
 | cons r t ih =>
  cases t with
  | nil=>exact .nil
  | cons r2 t=>exact .cons r ih
theorem Ao.rev{xs:List AV}{us:List V}(h:Ao K H xs us):Ao K H xs.reverse us.reverse:=by
 induction h with
 | nil=>exact .nil
 | cons r t ih=>rw [Yev,Yev];exact ih.append (.cons r .nil)
def Nv(xs:List AV)(lo hi:Option Int):List AV:=(xs.drop (HT.sIx xs.length 0 lo)).take (HT.sIx xs.length xs.length hi - HT.sIx xs.length 0 lo)
theorem Ao.cut{xs:List AV}{us:List V}(h:Ao K H xs us)(lo hi:Option Int):Ao K H (Nv xs lo hi) (Jj us lo hi):=by
 unfold Nv Jj
 rw [h.length]
 exact(h.drop _).take _
theorem Ao.atI{xs:List AV}{us:List V}{i:Int}{x:AV}(h:Ao K H xs us)(e:atI xs i=some x):∃u,L2.atI us i=some u/\RelA K H x u:=by
 unfold L2.atI at e ⊢
 rw [<- h.length]
 cases q:Wl xs.length i with
 | none=>rw [q]at e;cases e
 | some j =>
  rw [q]at e
  obtain⟨x,hx,hd⟩:=h.get (show xs[j]?=some x from e)
  exact⟨x,hx,hd⟩
def dats:List AV->Option (List PyData)
 | []=>some []
 | .D d :: r=>match dats r with
  | some ds=>some (d :: ds)
  | none=>none
 | .R _ :: _=>none
 | .C _ :: _=>none
 | .X _ _ :: _=>none
@[simp] theorem dats_nil:dats []=some []:=rfl
theorem Ci:∀(ds:List PyData),dats (ds.map .D)=some ds
 | []=>rfl
 | d :: ds=>by simp only [List.map_cons,dats,Ci ds]
theorem Pg:∀{xs:List AV} {ds:List PyData},dats xs=some ds->xs=ds.map .D
 | [],ds,h=>by cases h;rfl
 | .D d :: r,ds,h=>by
  simp only [dats]at h
  cases q:dats r with
  | none=>rw [q]at h;cases h
  | some es=>rw [q]at h;cases h;rw [Pg q];rfl
 | .R _ :: _,_,h=>by simp [dats]at h
 | .C _ :: _,_,h=>by simp [dats]at h
 | .X _ _ :: _,_,h=>by simp [dats]at h
theorem Ao.dk:∀{ds:List PyData} {vs:List V},Ao K H (ds.map .D) vs->Ai K H ds vs
 | [],_,h=>by cases h;exact Dp
 | _ :: _,_,h=>by
  rw [Ya2]at h
  cases h with
  | cons r t=>exact Db r (Ao.dk t)
theorem Ai.rel:∀{ds:List PyData} {vs:List V},Ai K H ds vs->Ao K H (ds.map .D) vs
 | [],_,h=>by rw [h.nil];exact .nil
 | _ :: _,_,h=>by
  obtain⟨x,r,rfl,h1,h2⟩:=h.cons
  exact .cons h1 (Ai.rel h2)
theorem Ao.dats{xs:List AV}{vs:List V}{ds:List PyData}(h:Ao K H xs vs)(e:dats xs=some ds):Ai K H ds vs:=by rw [Pg e]at h;exact h.dk
inductive MO where
 | lst (xs:List AV) | dk (ab:List (Key×AV)) | dt (ab:List (List Key×AV)) | dd (ab:List (PyData×AV))
abbrev M:=Addr->Option MO
def Aj(μ:M)(a:Addr)(m:MO):M:=λb=>if b=a then some m else μ b
theorem Ab{μ:M}{a:Addr}{m:MO}:Aj μ a m a=some m:=by unfold Aj;rw [Yao rfl]
theorem Ag{μ:M}{a b:Addr}{m:MO}(h:b≠a):Aj μ a m b=μ b:=by unfold Aj;rw [Yaj h]
theorem Cp{μ:M}{a:Addr}{m n:MO}:Aj (Aj μ a m) a n=Aj μ a n:=by funext b;unfold Aj;split <;> rfl
def D3{κ:Type}(K:PySem.W.Frag)(H:Hp):List (κ×AV)->List (κ×V)->Prop:=Paired λp q=>p.1=q.1/\RelA K H p.2 q.2
theorem D3.kp{κ:Type}(S:Kp H H'){xs:List (κ×AV)}{vs:List (κ×V)}(h:D3 K H xs vs):D3 K H' xs vs:=Paired.mapP h λ_ _ q=>⟨q.1,q.2.kp S⟩
def W6(K:PySem.W.Frag)(H:Hp):List (PyData×AV)->List (PyData×Addr×Value)->Prop:=Paired λp q=>p.1=q.1/\KeyTree p.1/\Dk K H p.1 (.ref q.2.1)/\∃v,RelA K H p.2 v/\A6 v q.2.2
theorem W6.kp(S:Kp H H'){xs:List (PyData×AV)}{vs:List (PyData×Addr×Value)}(h:W6 K H xs vs):W6 K H' xs vs:=Paired.mapP h λ_ _ ⟨a,b,c,v,r,q⟩=>⟨a,b,Dk.kp S _ _ c,v,r.kp S,q⟩
def Kw(K:PySem.W.Frag)(H:Hp):MO->HO->Prop
 | .lst xs,o=>∃vs,o=.lst vs/\Ao K H xs vs
 | .dk ab,o=>∃vs,o=.dK vs/\D3 K H ab vs
 | .dt ab,o=>∃vs,o=.dT vs/\D3 K H ab vs
 | .dd ab,o=>∃xs,o=.dd xs/\W6 K H ab xs
theorem Kw.kp(S:Kp H H'){m:MO}{o:HO}(h:Kw K H m o):Kw K H' m o:=by
 cases m with
 | lst xs=>obtain⟨vs,e,r⟩:=h;exact⟨vs,e,r.kp S⟩
 | dk xs=>obtain⟨vs,e,r⟩:=h;exact⟨vs,e,r.kp S⟩
 | dt xs=>obtain⟨vs,e,r⟩:=h;exact⟨vs,e,r.kp S⟩
 | dd xs=>obtain⟨vs,e,r⟩:=h;exact⟨vs,e,r.kp S⟩
theorem Bx{xs:List AV}{vs:List V}(h:Ao K H xs vs):Kw K H (.lst xs) (.lst vs):=⟨vs,rfl,h⟩
def Cn(K:PySem.W.Frag)(μ:M)(H:Hp):Prop:=∀a m,μ a=some m->∃o,H a=some o/\Kw K H m o
theorem Cn.none{μ:M}{p:Addr}(c:Cn K μ H)(h:H p=none):μ p=none:=by
 cases q:μ p with
 | none=>rfl
 | some m=>obtain⟨o,e,_⟩:=c p m q;rw [h]at e;cases e
theorem Cn.over{μ:M}{p:Addr}{o:HO}(c:Cn K μ H)(h:H p=Option.none):Cn K μ (upd H p o):=λa m e=>by
 obtain⟨o',e',r⟩:=c a m e
 exact⟨o',by rw [A7 (Bv e' h)];exact e',r.kp (Kp.new h o)⟩
theorem Cn.new{μ:M}{p:Addr}{m:MO}{o:HO}(c:Cn K μ H)(h:H p=Option.none)(r:Kw K H m o):Cn K (Aj μ p m) (upd H p o):=λa m' e=>by
 by_cases ha:a=p
 ·subst ha;rw [Ab]at e;cases e;exact⟨o,Cw,r.kp (Kp.new h o)⟩
 ·rw [Ag ha]at e;exact c.over h a m' e
theorem Cn.put{μ:M}{p:Addr}{m:MO}{o o0:HO}(c:Cn K μ H)(h:H p=some o0)(hm:Mt o0)(r:Kw K H m o):Cn K (Aj μ p m) (upd H p o):=λa m' e=>by
 by_cases ha:a=p
 ·subst ha;rw [Ab]at e;cases e;exact⟨o,Cw,r.kp (Kp.put h hm o)⟩
 ·rw [Ag ha]at e
  obtain⟨o',e',r'⟩:=c a m' e
  exact⟨o',by rw [A7 ha];exact e',r'.kp (Kp.put h hm o)⟩
def Sub(μ ν:M):Prop:=∀a m,μ a=some m->ν a=some m
theorem Sub.refl{μ:M}:Sub μ μ:=λ_ _ h=>h
theorem Sub.new{μ ν:M}{p:Addr}{m:MO}(h:Sub μ ν)(e:μ p=none):Sub μ (Aj ν p m):=λa m' e'=>by
 rw [Ag (by intro z;subst z;rw [e]at e';cases e')];exact h a m' e'
theorem Sub.none{μ ν:M}{p:Addr}(h:Sub μ ν)(e:ν p=none):μ p=none:=by
 cases q:μ p with
 | none=>rfl
 | some m=>rw [h p m q]at e;cases e
theorem Cn.sub{μ ν:M}(c:Cn K ν H)(h:Sub μ ν):Cn K μ H:=λa m e=>c a m (h a m e)
abbrev ASt:=List (Option AV)
def Jy(K:PySem.W.Frag)(H:Hp)(a:Option AV)(b:Option V):Prop:=∀x,a=some x->∃v,b=some v/\RelA K H x v
abbrev Dm(K:PySem.W.Frag)(H:Hp):ASt->St->Prop:=Paired (Jy K H)
theorem Jy.kp{a:Option AV}{b:Option V}(S:Kp H H')(h:Jy K H a b):Jy K H' a b:=λx e=>let⟨v,e2,r⟩:=h x e;⟨v,e2,r.kp S⟩
theorem Dm.kp{τ:ASt}{σ:St}(S:Kp H H')(h:Dm K H τ σ):Dm K H' τ σ:=Paired.mapP h λ_ _ q=>q.kp S
theorem Dm.get:∀{τ:ASt} {σ:St} {i:Nat} {x:AV},Dm K H τ σ->τ[i]?=some (some x)->∃v,σ[i]?=some (some v)/\RelA K H x v
 | _,_,_,_,.nil,e=>by simp at e
 | _,_,0,_,.cons r _,e=>by simp at e;subst e;obtain⟨v,rfl,q⟩:=r _ rfl;exact⟨v,rfl,q⟩
 | _,_,i+1,x,.cons _ t,e=>by
  obtain⟨u,h1,h2⟩:=Dm.get (i:=i) (x:=x) t (by simpa using e)
  exact⟨u,by simpa using h1,h2⟩
theorem Ie{x:AV}{v:V}(r:RelA K H x v):Jy K H (some x) (some v):=λy e=>by cases e;exact⟨v,rfl,r⟩
theorem Ig{b:Option V}:Jy K H none b:=λy e=>nomatch e
theorem Dm.set{x:AV}{v:V}(r:RelA K H x v):∀{τ:ASt} {σ:St} (i:Nat),Dm K H τ σ->Dm K H (τ.set i (some x)) (σ.set i (some v))
 | _,_,_,.nil=>.nil
 | _,_,0,.cons _ t=>.cons (Ie r) t
 | _,_,i+1,.cons q t=>.cons q (Dm.set r i t)
def Kx(N:List Str)(xs:List AV):ASt:=xs.map some++List.replicate (N.length - xs.length) none
theorem Dm.rep:∀(n:Nat),Dm K H (List.replicate n none) (List.replicate n none)
 | 0=>.nil
 | n+1=>.cons Ig (Dm.rep n)
theorem Dm.somes:∀{xs:List AV} {vs:List V},Ao K H xs vs->Dm K H (xs.map some) (vs.map some)
 | _,_,.nil=>.nil
 | _,_,.cons r t=>.cons (Ie r) (Dm.somes t)
theorem Dm.append{τ τ':ASt}{σ σ':St}(h:Dm K H τ σ)(s:Dm K H τ' σ'):Dm K H (τ++τ') (σ++σ'):=by
 induction h with
 | nil=>exact s
 | cons r t ih=>exact .cons r ih
theorem Dm.begin{N:List Str}{xs:List AV}{vs:List V}(h:Ao K H xs vs):Dm K H (Kx N xs) (start N vs):=by
 unfold Kx start
 rw [h.length]
 exact(Dm.somes h).append (Dm.rep _)
def Qee(mp:List (Option Nat))(τ:ASt):ASt:=mp.map λo=>match o with
 | none=>none
 | some j=>match τ[j]? with
  | some x=>x
  | none=>none
theorem Dm.sub{τ:ASt}{σ:St}(h:Dm K H τ σ):∀(mp:List (Option Nat)),Dm K H (Qee mp τ) (Fn mp σ)
 | []=>.nil
 | none :: mp=>.cons Ig (Dm.sub h mp)
 | some j :: mp=>by
  refine .cons (λx e=>?_) (Dm.sub h mp)
  have e':τ[j]?=some (some x):=by
   dsimp only at e
   cases q:τ[j]? with
   | none=>rw [q]at e;cases e
   | some y=>rw [q]at e;exact Ycg some e
  obtain⟨v,hv,r⟩:=h.get e'
  refine⟨v,?_,r⟩
  show(σ[j]?).join=some v
  rw [hv];rfl
end
abbrev AE:=ASt->M->(AV->M->Prop)->Prop
abbrev AT:=ASt->M->(Bool->M->Prop)->Prop
abbrev AA:=ASt->M->(List AV->M->Prop)->Prop
abbrev AO:=ASt->M->(Option Int->M->Prop)->Prop
abbrev AS:=(ASt->M->Prop)->(AV->M->Prop)->(ASt->M->Prop)->(ASt->M->Prop)->ASt->M->Prop
abbrev AG:=AV->ASt->M->(ASt->M->Prop)->Prop
abbrev AGs:=List AV->ASt->M->(ASt->M->Prop)->Prop
abbrev A2:=AV->AV->M->(AV->M->Prop)->Prop
abbrev AC:=List AV->M->(AV->M->Prop)->Prop
@[irreducible] def brP (b:Bool) (T F:Prop):Prop:=match b with
 | true=>T
 | false=>F
@[irreducible] def opt {α:Type} (o:Option α) (k:α->Prop):Prop:=match o with
 | some x=>k x
 | none=>False
theorem br{b:Bool}{T F:Prop}(h1:b=true->T)(h2:b=false->F):brP b T F:=by
 unfold brP;cases b with
 | true=>exact h1 rfl
 | false=>exact h2 rfl
theorem Tu{b:Bool}{T F:Prop}(hb:b=true)(h:T):brP b T F:=by subst hb;unfold brP;exact h
theorem Sl{b:Bool}{T F:Prop}(hb:b=false)(h:F):brP b T F:=by subst hb;unfold brP;exact h
theorem Tv{T F:Prop}:brP true T F=T:=by unfold brP;rfl
theorem br_e{b:Bool}{T F:Prop}(h:brP b T F):(b=true/\T)\/(b=false/\F):=by
 unfold brP at h;cases b with
 | true=>exact .inl ⟨rfl,h⟩
 | false=>exact .inr ⟨rfl,h⟩
theorem Ad{α:Type}{o:Option α}{x:α}{k:α->Prop}(h:o=some x)(q:k x):opt o k:=by subst h;unfold opt;exact q
theorem Aw{α:Type}{o:Option α}{k:α->Prop}(h:opt o k):∃x,o=some x/\k x:=by
 unfold opt at h;cases o with
 | none=>exact h.elim
 | some x=>exact⟨x,rfl,h⟩
theorem dif{p:Prop} [Decidable p]{T F:Prop}(h1:p->T)(h2:¬p->F):brP (decide p) T F:=br (λh=>h1 (Yay h)) (λh=>h2 (of_decide_eq_false h))
def LV(K:PySem.W.Frag)(H:Hp)(R:AV->M->Prop)(Q:VK):Prop:=∀x μ v H',Kp H H'->Cn K μ H'->RelA K H' x v->R x μ->Q v H'
def LB(K:PySem.W.Frag)(H:Hp)(R:Bool->M->Prop)(Q:Bool->Hp->Prop):Prop:=∀b μ H',Kp H H'->Cn K μ H'->R b μ->Q b H'
def LA(K:PySem.W.Frag)(n:Nat)(H:Hp)(R:List AV->M->Prop)(Q:List V->Hp->Prop):Prop:=∀xs μ vs H',Kp H H'->Cn K μ H'->Ao K H' xs vs->xs.length=n->R xs μ->Q vs H'
def LO(K:PySem.W.Frag)(H:Hp)(R:Option Int->M->Prop)(Q:Option Int->Hp->Prop):Prop:=∀b μ H',Kp H H'->Cn K μ H'->R b μ->Q b H'
def LS(K:PySem.W.Frag)(H:Hp)(R:ASt->M->Prop)(Q:St->Hp->Prop):Prop:=∀ τ μ σ H',Kp H H'->Dm K H' τ σ->Cn K μ H'->R τ μ->Q σ H'
theorem LV.kp{K:PySem.W.Frag}{H H':Hp}{R:AV->M->Prop}{Q:VK}(h:LV K H R Q)(S:Kp H H'):LV K H' R Q:=λx μ v H2 S2=>h x μ v H2 (S.trans S2)
theorem LB.kp{K:PySem.W.Frag}{H H':Hp}{R:Bool->M->Prop}{Q:Bool->Hp->Prop}(h:LB K H R Q)(S:Kp H H'):LB K H' R Q:=λx μ H2 S2=>h x μ H2 (S.trans S2)
theorem LS.kp{K:PySem.W.Frag}{H H':Hp}{R:ASt->M->Prop}{Q:St->Hp->Prop}(h:LS K H R Q)(S:Kp H H'):LS K H' R Q:=λx μ v H2 S2=>h x μ v H2 (S.trans S2)
structure LE'(K:PySem.W.Frag)(H:Hp)(k:ASt->M->Prop)(r:AV->M->Prop)(b c:ASt->M->Prop)(D:Ends):Prop where
 nx:LS K H k D.nx
 rt:LV K H r D.rt
 bk:LS K H b D.bk
 ct:LS K H c D.ct
theorem LE'.kp{K:PySem.W.Frag}{H H':Hp}{k:ASt->M->Prop}{r:AV->M->Prop}{b c:ASt->M->Prop}{D:Ends}(h:LE' K H k r b c D)(S:Kp H H'):LE' K H' k r b c D:=⟨h.nx.kp S,h.rt.kp S,h.bk.kp S,h.ct.kp S⟩
def cE(K:PySem.W.Frag)(t:AE):TE:=fun σ H Q=>∃ τ μ R,Dm K H τ σ/\Cn K μ H/\t τ μ R/\LV K H R Q
def cT(K:PySem.W.Frag)(t:AT):TT:=fun σ H Q=>∃ τ μ R,Dm K H τ σ/\Cn K μ H/\t τ μ R/\LB K H R Q
def cA(K:PySem.W.Frag)(n:Nat)(t:AA):TA:=fun σ H Q=>∃ τ μ R,Dm K H τ σ/\Cn K μ H/\t τ μ R/\LA K n H R Q
def cO(K:PySem.W.Frag)(t:AO):TO:=fun σ H Q=>∃ τ μ R,Dm K H τ σ/\Cn K μ H/\t τ μ R/\LO K H R Q
def cS(K:PySem.W.Frag)(t:AS):TS:=λD σ H=>∃ τ μ k r b c,Dm K H τ σ/\Cn K μ H/\t k r b c τ μ/\LE' K H k r b c D
def cG(K:PySem.W.Frag)(t:AG):TG:=λv σ H Q=>∃x τ μ R,RelA K H x v/\Dm K H τ σ/\Cn K μ H/\t x τ μ R/\LS K H R Q
def cGs(K:PySem.W.Frag)(t:AGs):TGs:=λvs σ H Q=>∃xs τ μ R,Ao K H xs vs/\Dm K H τ σ/\Cn K μ H/\t xs τ μ R/\LS K H R Q
def cR(K:PySem.W.Frag)(r:A2):R2:=λx y H Q=>∃a b μ R,RelA K H a x/\RelA K H b y/\Cn K μ H/\r a b μ R/\LV K H R Q
def cC(K:PySem.W.Frag)(r:AC):List V->Hp->VK->Prop:=λxs H Q=>∃as μ R,Ao K H as xs/\Cn K μ H/\r as μ R/\LV K H R Q
def cM(K:PySem.W.Frag)(r:AV->AC):V->List V->Hp->VK->Prop:=λx xs H Q=>∃a as μ R,RelA K H a x/\Ao K H as xs/\Cn K μ H/\r a as μ R/\LV K H R Q
def VE(X:Cx)(e:Expr)(t:AE):Prop:=PE X e (cE X.K t)
def VT(X:Cx)(e:Expr)(t:AT):Prop:=PT X e (cT X.K t)
def VW(X:Cx)(e:Expr)(t:AT):Prop:=PW X e (cT X.K t)
def VA(X:Cx)(es:List Expr)(t:AA):Prop:=PA X es (cA X.K es.length t)
def VO(X:Cx)(e:Option Expr)(t:AO):Prop:=PO X e (cO X.K t)
def VS(X:Cx)(st:Stmt)(t:AS):Prop:=PS X st (cS X.K t)
def VSs(X:Cx)(st:List Stmt)(t:AS):Prop:=PSs X st (cS X.K t)
def VG(X:Cx)(e:Expr)(t:AG):Prop:=PG X e (cG X.K t)
def VGs(X:Cx)(es:List Expr)(t:AGs):Prop:=PGs X es (cGs X.K t)
def VOp(X:Cx)(f:Value->Value->Sem Value)(r:A2):Prop:=Hu X f (cR X.K r)
def VIx(X:Cx)(r:A2):Prop:=IxR X (cR X.K r)
def VCall(X:Cx)(f:Value)(r:AC):Prop:=Ek X f (cC X.K r)
def VMt(X:Cx)(id:String)(r:AV->AC):Prop:=MtR X id (cM X.K r)
section
variable {X:Cx}
theorem PE.imp{e:Expr}{t u:TE}(h:PE X e t)(i:∀ σ H Q,u σ H Q->t σ H Q):PE X e u:=λaa s σ H Q I q=>h aa s σ H Q I (i σ H Q q)
theorem PT.imp{e:Expr}{t u:TT}(h:PT X e t)(i:∀ σ H Q,u σ H Q->t σ H Q):PT X e u:=λaa s σ H Q I q=>h aa s σ H Q I (i σ H Q q)
theorem PW.imp{e:Expr}{t u:TT}(h:PW X e t)(i:∀ σ H Q,u σ H Q->t σ H Q):PW X e u:=λwh aa s σ H Q I q=>h wh aa s σ H Q I (i σ H Q q)
theorem PA.imp{e:List Expr}{t u:TA}(h:PA X e t)(i:∀ σ H Q,u σ H Q->t σ H Q):PA X e u:=λpos aa s σ H Q I q=>h pos aa s σ H Q I (i σ H Q q)
theorem PO.imp{e:Option Expr}{t u:TO}(h:PO X e t)(i:∀ σ H Q,u σ H Q->t σ H Q):PO X e u:=λaa s σ H Q I q=>h aa s σ H Q I (i σ H Q q)
theorem PS.imp{e:Stmt}{t u:TS}(h:PS X e t)(i:∀D σ H,u D σ H->t D σ H):PS X e u:=λaa s σ H D I q=>h aa s σ H D I (i D σ H q)
theorem PSs.imp{e:List Stmt}{t u:TS}(h:PSs X e t)(i:∀D σ H,u D σ H->t D σ H):PSs X e u:=λaa s σ H D I q=>h aa s σ H D I (i D σ H q)
theorem PG.imp{e:Expr}{t u:TG}(h:PG X e t)(i:∀v σ H Q,u v σ H Q->t v σ H Q):PG X e u:=λaa s σ H v w Q I r q=>h aa s σ H v w Q I r (i v σ H Q q)
theorem PGs.imp{e:List Expr}{t u:TGs}(h:PGs X e t)(i:∀v σ H Q,u v σ H Q->t v σ H Q):PGs X e u:=λaa s σ H v w Q I r q=>h aa s σ H v w Q I r (i v σ H Q q)
def Qbf(i:Nat):AE:=fun τ μ R=>match τ[i]? with
 | some (some x)=>R x μ
 | _=>False
theorem Tw{K:PySem.W.Frag}{i:Nat}{σ:St}{H:Hp}{Q:VK}(h:cE K (Qbf i) σ H Q):Qdk i σ H Q:=by
 obtain⟨τ,μ,R,hs,hc,h,hq⟩:=h
 unfold Qbf at h
 split at h
 ·rename_i x e
  obtain⟨v,ev,r⟩:=hs.get e
  exact⟨v,ev,hq _ _ _ _ Kp.refl hc r h⟩
 ·exact h.elim
theorem vv(i:Nat){x:Str}{pos:Pos}(hN:X.N[i]?=some x:=by rfl)(hv:Vis X.env.scope x:=by first | exact Or.inl rfl | exact Or.inr (Or.inl rfl) | exact Or.inr (Or.inr rfl))(hd:(x==("__debug__" : Str))=false:=by decide)
  (ip:(x==("__classdict__" : Str))=false:=by decide):VE X (.Name x pos) (Qbf i):=(Qaa hN hv hd ip).imp λ_ _ _ h=>Tw h
def vC(x:AV):AE:=λ_ μ R=>R x μ
theorem Ih{e:Expr}{v:V}{d:PyData}(h:PE X e (tC v))(r:∀H,Dk X.K H d v):VE X e (vC (.D d)):=h.imp fun σ H Q zz1=>Bu zz1 fun τ μ R hs hc h hq=>hq _ _ _ _ Kp.refl hc (Rp (r H)) h
theorem Ah{i j pos}:VE X (.Constant (.int i) j pos) (vC (.D (.int i))):=Ih Qab λ_=>C3
theorem Jz{b j pos}:VE X (.Constant (.bool b) j pos) (vC (.D (.bool b))):=Ih Qdl λ_=>Pf
theorem Du{x j pos}:VE X (.Constant (.str x) j pos) (vC (.D (.str x))):=Ih So λ_=>Nu
def vOp(r:A2)(ta tb:AE):AE:=fun τ μ R=>ta τ μ λx μ1=>tb τ μ1 λy μ2=>r x y μ2 R
theorem Ky{K:PySem.W.Frag}{r:A2}{ta tb:AE}{σ:St}{H:Hp}{Q:VK}(h:cE K (vOp r ta tb) σ H Q):tOp (cR K r) (cE K ta) (cE K tb) σ H Q:=by
 obtain⟨τ,μ,R,hs,hc,h,hq⟩:=h
 exact⟨τ,μ,_,hs,hc,h,λx μ1 v H1 S1 c1 rx hx=>⟨τ,μ1,_,hs.kp S1,c1,hx,λy μ2 u H2 S2 c2 ry hy=>⟨x,y,μ2,R,rx.kp S2,ry,c2,hy,hq.kp (S1.trans S2)⟩⟩⟩
variable {a b c:Expr}{ta tb tc:AE}{pos:Pos}
theorem Ba{op:Operator}{r:A2}(ho:VOp X (binaryOp op) r)(ha:VE X a ta)(hb:VE X b tb):VE X (.BinOp a op b pos) (vOp r ta tb):=(Qds ho ha hb).imp λ_ _ _ h=>Ky h
def Ph(t:AE):AT:=fun τ μ R=>t τ μ λx μ1=>match x with
 | .D (.bool k)=>R k μ1
 | _=>False
theorem Gq{K:PySem.W.Frag}{t:AE}{u:TE}(hu:∀ σ H Q,cE K t σ H Q->u σ H Q){σ:St}{H:Hp}{Q:Bool->Hp->Prop}(h:cT K (Ph t) σ H Q):Y4 u σ H Q:=by
 obtain⟨τ,μ,R,hs,hc,h,hq⟩:=h
 refine hu _ _ _ ⟨τ,μ,_,hs,hc,h,λx μ1 v H1 S1 c1 rx hx=>?_⟩
 split at hx
 ·cases RelA.bl rx
  exact⟨_,rfl,hq _ _ _ S1 c1 hx⟩
 ·exact hx.elim
theorem Bz{op:CmpOp}{r:A2}(ho:VOp X (compareOp op) r)(ha:VE X a ta)(hb:VE X b tb)(hm:behindInMarks op b=false):VT X (.Compare a [op] [b] pos) (Ph (vOp r ta tb)) :=
 (Wf ho ha hb hm).imp λ_ _ _ h=>Gq (λ_ _ _ q=>Ky q) h
theorem Tx{e:Expr}{t:AE}(h:VE X e t)(he:∀dr,isTrue e X.env dr=(do let v <- dr;standAt e.pos;holding [v] (truthy v)):=by intro _;rfl):VT X e (Ph t) :=
 (Qad h he).imp λ_ _ _ h=>by
  have h:=Gq (λ_ _ _ q=>q) h
  exact h
def Qho(t u:AT):AT:=fun τ μ R=>t τ μ λk μ1=>brP k (u τ μ1 R) (R false μ1)
def Qhp(t:AT):AT:=fun τ μ R=>t τ μ λk μ1=>R (!k) μ1
theorem VW.pt{e:Expr}{t:AT}(h:VW X e t):VT X e t:=PW.pt h
variable {rest:List Expr}{tA mx:AT}
theorem Kz(ha:VT X a tA):VW X (.BoolOp .And [a] pos) tA:=V6 ha
theorem Nw(ha:VT X a tA)(hb:VW X (.BoolOp .And (b :: rest) pos) mx):VW X (.BoolOp .And (a :: b :: rest) pos) (Qho tA mx) :=
 (Qae ha hb).imp fun σ H Q zz3=>Bu zz3 fun τ μ R hs hc h hq=>⟨τ,μ,_,hs,hc,h,λk μ1 H1 S1 c1 hk=>by
  rcases br_e hk with⟨rfl,de⟩ | ⟨rfl,de⟩
  ·exact⟨τ,μ1,R,hs.kp S1,c1,de,hq.kp S1⟩
  ·exact hq _ _ _ S1 c1 de⟩
theorem Qbg(ha:VT X a tA):VT X (.UnaryOp .Not a pos) (Qhp tA):=(Qaf ha).imp fun σ H Q zz5=>Bu zz5 fun τ μ R hs hc h hq=>⟨τ,μ,_,hs,hc,h,λk μ1 H1 S1 c1 hk=>hq _ _ _ S1 c1 hk⟩
def vIf(t:AT)(ta tb:AE):AE:=fun τ μ R=>t τ μ λk μ1=>brP k (ta τ μ1 R) (tb τ μ1 R)
theorem Ty(hc:VT X c tA)(ha:VE X a ta)(hb:VE X b tb):VE X (.IfExp c a b pos) (vIf tA ta tb) :=
 (Sq hc ha hb).imp fun σ H Q zz9=>Bu zz9 fun τ μ R hs hc h hq=>⟨τ,μ,_,hs,hc,h,λk μ1 H1 S1 c1 hk=>by
  rcases br_e hk with⟨rfl,de⟩ | ⟨rfl,de⟩
  ·exact⟨τ,μ1,R,hs.kp S1,c1,de,hq.kp S1⟩
  ·exact⟨τ,μ1,R,hs.kp S1,c1,de,hq.kp S1⟩⟩
def Qef:AA:=λ_ μ R=>R [] μ
def Qeg(ta:AE)(tr:AA):AA:=fun τ μ R=>ta τ μ λx μ1=>tr τ μ1 λxs μ2=>R (x :: xs) μ2
theorem Ac:VA X [] Qef:=Qav.imp fun σ H Q zz10=>Bu zz10 fun τ μ R hs hc h hq=>hq [] μ [] H Kp.refl hc .nil rfl h
theorem Aa{e:Expr}{es:List Expr}{te:AE}{t:AA}(ha:VE X e te)(hr:VA X es t)(hs:starEach (e :: es) X.env=(false,eval e X.env) :: starEach es X.env:=by rfl):VA X (e :: es) (Qeg te t) :=
 (Wg ha hr hs).imp fun σ H Q zz11=>Bu zz11 fun τ μ R hs hc h hq=>⟨τ,μ,_,hs,hc,h,λx μ1 v H1 S1 c1 rx hx=>⟨τ,μ1,_,hs.kp S1,c1,hx,λxs μ2 vs H2 S2 c2 rs hl ii =>
  hq (x :: xs) μ2 (v :: vs) H2 (S1.trans S2) c2 (.cons (rx.kp S2) rs) (by rw [Ya9,hl];rfl) ii⟩⟩
def Qhq(t:AA):AE:=fun τ μ R=>t τ μ λxs μ1=>match dats xs with
 | some ds=>R (.D (.tuple ds)) μ1
 | none=>False
def Qeh(t:AA):AE:=fun τ μ R=>t τ μ λxs μ1=>∀p,μ1 p=none->R (.R p) (Aj μ1 p (.lst xs))
variable {es:List Expr}{t:AA}
theorem Bb{k:Nat}(h:VA X es t)(hn:es.length<=sizeLine:=by decide):VE X (.Tuple es k pos) (Qhq t) :=
 (Qaw h).imp fun σ H Q zz12=>Bu zz12 fun τ μ R hs hc h hq=>⟨τ,μ,_,hs,hc,h,λxs μ1 vs H1 S1 c1 rs hl hx=>⟨by rw [<- rs.length,hl];exact hn,λp hp=>by
  split at hx
  ·rename_i ds e
   refine hq _ _ _ _ (S1.trans (Kp.new hp _)) (c1.over hp) ?_ hx
   exact Kv Cw (Ai.kp (Kp.new hp _) _ _ (rs.dats e))
  ·exact hx.elim⟩⟩
theorem Bk(h:VA X es t)(hn:es.length<=sizeLine:=by decide):VE X (.List es pos) (Qeh t) :=
 (Qax h).imp fun σ H Q zz13=>Bu zz13 fun τ μ R hs hc h hq=>⟨τ,μ,_,hs,hc,h,λxs μ1 vs H1 S1 c1 rs hl hx=>⟨by rw [<- rs.length,hl];exact hn,λp hp =>
  hq _ _ _ _ (S1.trans (Kp.new hp _)) (c1.new hp (Bx (rs))) Co (hx p (c1.none hp))⟩⟩
mutual
theorem Dk.reads{aa:List (Addr×Obj)}{σ:St}{H:Hp}{s:Shared}(I:Inv X aa σ H s):∀(d:PyData) (x:V) (u:Value),Dk X.K H d x->A6 x u->∃as,Reads s.heap u d as
 | .none,x,u,h,r=>by cases h.non;cases r;exact⟨_,.none⟩
 | .bool b,x,u,h,r=>by cases h.bl;cases r;exact⟨_,.bool b⟩
 | .int i,x,u,h,r=>by cases h.int;obtain⟨t,rfl⟩:=r;exact⟨_,.int i t⟩
 | .str z,x,u,h,r=>by cases h.str;obtain⟨t,rfl⟩:=r;exact⟨_,.str z t⟩
 | .list ds,x,u,h,r=>by
  obtain⟨a,xs,rfl,q,k⟩:=h.lst
  cases r
  obtain⟨ae,rv,⟨o,n,e,c,_,d⟩,_⟩:=I.list q.sq
  obtain⟨as,ra⟩:=Ai.reads I ds xs ae k rv
  exact⟨_,.list e c d (by simpa using ra)⟩
 | .tuple ds,x,u,h,r=>by
  obtain⟨a,xs,rfl,q,k⟩:=h.tup
  cases r
  obtain⟨ae,rv,⟨o,e,c,n,d⟩,_⟩:=I.tuple q.sq
  obtain⟨as,ra⟩:=Ai.reads I ds xs ae k rv
  exact⟨_,.tuple e c d (by simpa using ra)⟩
 | .dict _,x,u,h,_=>by simp only [Dk]at h
theorem Ai.reads{aa:List (Addr×Obj)}{σ:St}{H:Hp}{s:Shared}(I:Inv X aa σ H s):∀(ds:List PyData) (xs:List V) (us:List Value),Ai X.K H ds xs->Vals xs us->∃as,ReadsAll s.heap us ds as
 | [],xs,us,h,r=>by
  have e:=h.nil
  subst e
  cases r
  exact⟨_,.nil⟩
 | d :: ds,xs,us,h,r=>by
  obtain⟨x,xr,rfl,h1,h2⟩:=h.cons
  cases r with
  | cons r1 r2 =>
   obtain⟨as,ra⟩:=Dk.reads I d x _ h1 r1
   obtain⟨bs,rb⟩:=Ai.reads I ds xr _ h2 r2
   exact⟨_,.cons ra rb⟩
end
def see(μ:M):AV->Option PyData
 | .X _ _=>none
 | .D d=>some d
 | .C ds=>some (.tuple ds)
 | .R a=>match μ a with
  | some (.lst xs)=>match dats xs with
   | some ds=>some (.list ds)
   | none=>none
  | _=>none
@[simp] theorem see_D {μ:M} {d:PyData}:see μ (.D d)=some d:=rfl
theorem Gr{aa:List (Addr×Obj)}{σ:St}{H:Hp}{s:Shared}{μ:M}{x:AV}{v:V}{u:Value}{d:PyData}(I:Inv X aa σ H s)(hc:Cn X.K μ H)(rx:RelA X.K H x v)(r:A6 v u)(e:see μ x=some d):∃as,Reads s.heap u d as:=by
 cases x with
 | X C fs=>cases e
 | D d'=>cases e;exact Dk.reads I _ _ _ rx r
 | C ds =>
  cases e
  obtain⟨a,xs,rfl,q,k⟩:=rx
  cases r
  obtain⟨ae,rv,⟨o,e,c,n,d⟩,_⟩:=I.tuple (q H)
  obtain⟨as,ra⟩:=Ai.reads I ds xs ae k rv
  exact⟨_,.tuple e c d (by simpa using ra)⟩
 | R a =>
  dsimp only [see]at e
  split at e
  ·rename_i xs ex
   split at e
   ·rename_i ds ed
    cases e
    cases (show v=.ref a from rx)
    cases r
    obtain⟨o,ho,vs,rfl,rs⟩:=hc a _ ex
    obtain⟨ae,rv,⟨o,n,e,c,_,dd⟩,_⟩:=I.list (E5.of ho)
    obtain⟨as,ra⟩:=Ai.reads I ds vs ae (rs.dats ed) rv
    exact⟨_,.list e c dd (by simpa using ra)⟩
   ·cases e
  ·cases e
def D4(d:PyData):Prop:=d.canLay0=true/\d.depth<=64
def aEq:A2:=λx y μ R=>match x,y with
 | .D d,.D e=>D4 d/\D4 e/\R (.D (.bool (PyData.eqv d e))) μ
 | x,y=>opt (see μ x) λd=>opt (see μ y) λe=>D4 d/\D4 e/\R (.D (.bool (PyData.eqv d e))) μ
theorem W7{x y:AV}{μ:M}{R:AV->M->Prop}(h:aEq x y μ R):∃d e,see μ x=some d/\see μ y=some e/\D4 d/\D4 e/\R (.D (.bool (PyData.eqv d e))) μ:=by
 have g:∀(h:opt (see μ x) λd=>opt (see μ y) λe=>D4 d/\D4 e/\R (.D (.bool (PyData.eqv d e))) μ),∃d e,see μ x=some d/\see μ y=some e/\D4 d/\D4 e/\R (.D (.bool (PyData.eqv d e))) μ:=by
  intro h
  obtain⟨d,ed,h⟩:=Aw h
  obtain⟨e,ee,h⟩:=Aw h
  exact⟨d,e,ed,ee,h⟩
 cases x with
 | D d =>
  cases y with
  | D e=>exact⟨_,_,rfl,rfl,h⟩
  | _=>exact g h
 | _=>exact g h
variable {k:Nat}
theorem Gu(hr:Room k X.A):VOp X (compareOp .Eq) aEq:=by
 intro aa s σ H x y v u Q I rx ry zz14
 refine Ei zz14 λa b μ R ra rb hc h hq=>?_
 obtain⟨d,e,ed,ee,h⟩:=W7 h
 ·obtain⟨as,r1⟩:=Gr I hc ra rx ed
  obtain⟨bs,r2⟩:=Gr I hc rb ry ee
  have hu:=hr.un
  have:=h.1.2
  exact SeqAt.compareEq_reads r1 r2 h.1.1 h.2.1.1 (by omega) ⟨.bl _,H,I,rfl,hq _ _ _ _ Kp.refl hc Ts h.2.2⟩
def Ma:PyData->Option Key
 | .int i=>some (.inl i)
 | .str z=>some (.inr z)
 | _=>none
def items(μ:M):AV->Option (List AV)
 | .D (.tuple ds)=>some (ds.map .D)
 | .C ds=>some (ds.map .D)
 | .D (.list ds)=>some (ds.map .D)
 | .R a=>match μ a with
  | some (.lst xs)=>some xs
  | _=>none
 | _=>none
def isT:AV->Bool
 | .D (.tuple _)=>true
 | .C _=>true
 | _=>false
theorem B0{H:Hp}{μ:M}{x:AV}{v:V}{xs:List AV}(hc:Cn X.K μ H)(rx:RelA X.K H x v)(e:items μ x=some xs):∃p vs,v=.ref p/\((isT x=false/\E5 X.K H p vs)\/(isT x=true/\Kl X.K H p vs))/\Ao X.K H xs vs:=by
 unfold items at e
 split at e
 ·cases e;obtain⟨a,vs,rfl,q,r⟩:=RelA.tup rx;exact⟨a,vs,rfl,.inr ⟨rfl,q.sq⟩,r.rel⟩
 ·cases e;obtain⟨a,vs,rfl,q,r⟩:=rx;exact⟨a,vs,rfl,.inr ⟨rfl,q H⟩,r.rel⟩
 ·cases e;obtain⟨a,vs,rfl,q,r⟩:=RelA.lst rx;exact⟨a,vs,rfl,.inl ⟨rfl,q.sq⟩,r.rel⟩
 ·split at e
  ·rename_i ys ey
   cases e
   obtain⟨o,ho,vs,rfl,rs⟩:=hc _ _ ey
   exact⟨_,vs,rx,.inl ⟨rfl,E5.of ho⟩,rs⟩
  ·cases e
 ·cases e
def aIn(nb:Bool->Bool):A2:=λx y μ R=>match y with
 | .D (.str j)=>match x with
  | .D (.str i)=>R (.D (.bool (nb (!(Builtin.Str.occurrences j i 0 j.length 1).isEmpty)))) μ
  | _=>False
 | .C ds=>opt (see μ x) λd=>D4 d/\D4 (.tuple ds)/\R (.D (.bool (nb (ds.any λe=>PyData.eqv e d)))) μ
 | .D (.tuple ds)=>opt (see μ x) λd=>D4 d/\D4 (.tuple ds)/\R (.D (.bool (nb (ds.any λe=>PyData.eqv e d)))) μ
 | y=>opt (see μ x) λd=>opt (items μ y) λys=>opt (dats ys) λds=>D4 d/\D4 (.tuple ds)/\R (.D (.bool (nb (ds.any λe=>PyData.eqv e d)))) μ
def aI(C:Int->Int->Prop)(g:Int->Int->PyData):A2:=λx y μ R=>match x,y with
 | .D (.int i),.D (.int j)=>C i j/\R (.D (g i j)) μ
 | _,_=>False
def aI0(g:Int->Int->PyData):A2:=λx y μ R=>match x,y with
 | .D (.int i),.D (.int j)=>R (.D (g i j)) μ
 | _,_=>False
theorem o_I{f:Value->Value->Sem Value}{C:Int->Int->Prop}{g:Int->Int->V}{g':Int->Int->PyData}(h:Hu X f (rI C g))(hg:∀i j H,Dk X.K H (g' i j) (g i j)):VOp X f (aI C g'):=by
 intro aa s σ H x y v u Q I rx ry zz20
 refine Ei zz20 λa b μ R ra rb hc h' hq=>?_
 cases a with
 | D d =>
  cases d with
  | int i =>
   cases b with
   | D e =>
    cases e with
    | int j =>
     cases RelA.int ra;cases RelA.int rb
     exact h aa s σ H _ _ v u Q I rx ry ⟨_,_,rfl,rfl,h'.1,hq _ _ _ _ Kp.refl hc (Rp (hg _ _ _)) h'.2⟩
    | _=>exact False.elim h'
   | _=>exact False.elim h'
  | _=>exact False.elim h'
 | _=>exact False.elim h'
theorem Tz{f:Value->Value->Sem Value}{g:Int->Int->V}{g':Int->Int->PyData}(h:Hu X f (Wc g))(hg:∀i j H,Dk X.K H (g' i j) (g i j)):VOp X f (aI0 g'):=by
 intro aa s σ H x y v u Q I rx ry zz21
 refine Ei zz21 λa b μ R ra rb hc h' hq=>?_
 cases a with
 | D d =>
  cases d with
  | int i =>
   cases b with
   | D e =>
    cases e with
    | int j =>
     cases RelA.int ra;cases RelA.int rb
     exact h aa s σ H _ _ v u Q I rx ry ⟨_,_,rfl,rfl,hq _ _ _ _ Kp.refl hc (Rp (hg _ _ _)) h'⟩
    | _=>exact False.elim h'
   | _=>exact False.elim h'
  | _=>exact False.elim h'
 | _=>exact False.elim h'
abbrev Qhr:A2:=aI0 λi j=>.int (i - j)
abbrev Qej:A2:=aI CDiv λi j=>.int (i / j)
abbrev Qhs:A2:=aI (λ_ j=>0 < j) λi j=>.int (i % j)
abbrev Qht:A2:=aI CPow λi j=>.int (i ^ j.toNat)
abbrev aGt:A2:=aI0 λi j=>.bool (decide (j < i))
abbrev aGe:A2:=aI0 λi j=>.bool (decide (j<=i))
theorem Qek:VOp X (binaryOp .Sub) Qhr:=Tz Qan λ_ _ _=>C3
theorem Qbh:VOp X (binaryOp .FloorDiv) Qej:=o_I We λ_ _ _=>C3
theorem Ha:VOp X (binaryOp .Mod) Qhs:=o_I Qap λ_ _ _=>C3
theorem Qel:VOp X (binaryOp .Pow) Qht:=o_I Qaq λ_ _ _=>C3
theorem Qem:VOp X (compareOp .Gt) aGt:=Tz Qdv λ_ _ _=>Pf
theorem Qhu:VOp X (compareOp .GtE) aGe:=Tz Qdw λ_ _ _=>Pf
def Qhv:A2:=λx y μ R=>match x,y with
 | .D (.int i),.D (.int j)=>CMul i j/\R (.D (.int (i * j))) μ
 | .D (.str z),.D (.int n)=>(n=0\/n=1)/\R (.D (.str (if n=0 then Str.empty else z))) μ
 | _,_=>False
theorem J0:VOp X (binaryOp .Mult) Qhv:=by
 intro aa s σ H x y v u Q I rx ry zz22
 refine Ei zz22 λa b μ R ra rb hc h hq=>?_
 cases a with
 | D d =>
  cases d with
  | int i =>
   cases b with
   | D e =>
    cases e with
    | int j =>
     cases RelA.int ra;cases RelA.int rb
     exact Qao aa s σ H _ _ v u Q I rx ry ⟨_,_,rfl,rfl,h.1,hq _ _ _ _ Kp.refl hc C4 h.2⟩
    | _=>exact False.elim h
   | _=>exact False.elim h
  | str z =>
   cases b with
   | D e =>
    cases e with
    | int j =>
     cases RelA.str ra;cases RelA.int rb
     exact Ku aa s σ H _ _ v u Q I rx ry ⟨_,_,rfl,rfl,h.1,hq _ _ _ _ Kp.refl hc Ib h.2⟩
    | _=>exact False.elim h
   | _=>exact False.elim h
  | _=>exact False.elim h
 | _=>exact False.elim h
def Qhw:A2:=λx y μ R=>match x,y with
 | .D (.int i),.D (.int j)=>R (.D (.int (i+j))) μ
 | .D (.str i),.D (.str j)=>i.length+j.length<=sizeLine/\R (.D (.str (i++j))) μ
 | .D (.tuple i),.D (.tuple j)=>i.length+j.length<=sizeLine/\R (.D (.tuple (i++j))) μ
 | .R i,.R j=>opt (μ i) λm=>opt (μ j) λn=>match m,n with
  | .lst xs,.lst ys=>xs.length+ys.length<=sizeLine/\∀p,μ p=none->R (.R p) (Aj μ p (.lst (xs++ys)))
  | _,_=>False
 | _,_=>False
theorem Qhx{K:PySem.W.Frag}{aa:List (Addr×Obj)}{σ:St}{H:Hp}{s:Shared}{v u:Value}{x y:V}{ds es:List PyData}{Q:VK}(hK:X.K=K)(I:Inv X aa σ H s)(rx:A6 x v)(ry:A6 y u)(hx:Dk K H (.tuple ds) x)(hy:Dk K H (.tuple es) y)
  (hz:ds.length+es.length<=sizeLine) (q:∀z H',Kp H H'->(∀ μ,Cn K μ H->Cn K μ H')->Dk K H' (.tuple (ds++es)) z->Q z H'):wpAny (model X.prog X.w) X.A (binaryOp .Add v u) (EP X aa σ Q) X.xe s:=by
 subst hK
 obtain⟨a,xs,rfl,ha,ii⟩:=hx.tup
 obtain⟨b,ys,rfl,hb,hys⟩:=hy.tup
 cases rx
 cases ry
 obtain⟨ae,r1,p1,_⟩:=I.tuple ha.sq
 obtain⟨its2,r2,p2,_⟩:=I.tuple hb.sq
 have l1:=ii.length
 have l2:=hys.length
 by_cases hv:xs=[]
 ·subst hv
  have e:ae=[]:=r1.nil_iff.mpr rfl
  subst e
  have ed:ds=[]:=Yek.mp l1.symm
  subst ed
  obtain⟨⟨cls,dd,data,sl⟩,ho,hc,n,hd⟩:=id p1
  obtain⟨⟨cls2,dd2,data2,mi⟩,d5,hc2,n2,hd2⟩:=id p2
  simp only at hc hd hc2 hd2
  subst hc hd hc2 hd2
  exact concat_meets ⟨_,ho,rfl⟩ ⟨_,d5,rfl⟩ noFill_tuple_add seq_tuple_add Yer Yeh (Yea _ _)
   (tuple_addW0 a b [].toArray its2.toArray n n2 dd dd2 sl mi rfl) ⟨ho,d5,.ref b,H,I,rfl,q _ _ Kp.refl (λ_ c=>c) (by simpa using hy)⟩
 ·refine HT.cat_tup p1 p2 (λz=>hv (r1.nil_iff.mp z)) (λz=>⟨.ref a,H,I,rfl,q _ _ Kp.refl (λ_ c=>c) ?_⟩) (λz=>?_) (by rw [<- r1.length,<- r2.length,l1,l2];exact hz)
  ·have e:ys=[]:=r2.nil_iff.mp z
   subst e
   have ed:es=[]:=Yek.mp l2.symm
   subst ed
   simpa using hx
  ·have hf:=I.hok.fresh (Yad s.heap.objs.size)
   refine⟨.ref s.heap.objs.size,_,I.laid (t':=s.toks) (o:=.tup (xs++ys)) (λb ob q=>Heap.get?_push_of_some _ q) (Yad _) ?_,rfl,q _ _ (Kp.new hf _) (λ_ c=>c.over hf) ?_⟩
   ·exact⟨by rw [Yal,l1,l2];exact hz,_,r1.append r2,IsTup.new _ _⟩
   ·exact Kv Cw (Ai.kp (Kp.new hf _) _ _ (ii.append hys))
theorem Ef:VOp X (binaryOp .Add) Qhw:=by
 intro aa s σ H x y v u Q I rx ry zz23
 refine Ei zz23 λa b μ R ra rb hc h hq=>?_
 cases a with
 | D d =>
  cases d with
  | int i =>
   cases b with
   | D e =>
    cases e with
    | int j =>
     cases RelA.int ra;cases RelA.int rb
     exact Qam aa s σ H _ _ v u Q I rx ry ⟨_,_,rfl,rfl,hq _ _ _ _ Kp.refl hc C4 h⟩
    | _=>exact False.elim h
   | _=>exact False.elim h
  | str z =>
   cases b with
   | D e =>
    cases e with
    | str j =>
     cases RelA.str ra;cases RelA.str rb
     exact No aa s σ H _ _ v u Q I rx ry ⟨_,_,rfl,rfl,h.1,hq _ _ _ _ Kp.refl hc Ib h.2⟩
    | _=>exact False.elim h
   | _=>exact False.elim h
  | tuple ds =>
   cases b with
   | D e =>
    cases e with
    | tuple es=>exact Qhx rfl I rx ry ra rb h.1 λz H' S c hd=>hq _ _ _ _ S (c _ hc) (Rp hd) h.2
    | _=>exact False.elim h
   | _=>exact False.elim h
  | _=>exact False.elim h
 | R i =>
  cases b with
  | R j =>
   obtain⟨m,ei,h⟩:=Aw h
   obtain⟨n,ej,h⟩:=Aw h
   cases m with
   | lst xs =>
    cases n with
    | lst ys =>
     cases (show x=.ref i from ra);cases (show y=.ref j from rb)
     obtain⟨o,ho,vs,rfl,rs⟩:=hc i _ ei
     obtain⟨o',ho',ws,rfl,rs'⟩:=hc j _ ej
     exact Qa5 aa s σ H _ _ v u Q I rx ry ⟨i,j,vs,ws,rfl,rfl,ho,ho',by rw [<- rs.length,<- rs'.length];exact h.1,λp hp=>hq _ _ _ _ (Kp.new hp _) (hc.new hp (Bx (rs.append rs'))) Co (h.2 p (hc.none hp))⟩
    | _=>exact False.elim h
   | _=>exact False.elim h
  | _=>exact False.elim h
 | _=>exact False.elim h
end
section
variable {X:Cx}{a b c:Expr}{ta tb tc:AE}{pos:Pos}
def aIx:A2:=λx y μ R=>match x,y with
 | .D (.str z),.D (.int i)=>z.length<=sizeLine/\opt (atI z.cps.toList i) λc=>R (.D (.str ⟨#[c]⟩)) μ
 | .D (.tuple ds),.D (.int i)=>opt (atI ds i) λd=>R (.D d) μ
 | .D (.list ds),.D (.int i)=>opt (atI ds i) λd=>R (.D d) μ
 | .R a,.D (.int i)=>opt (μ a) λm=>match m with
  | .lst xs=>opt (atI xs i) λw=>R w μ
  | _=>False
 | _,_=>False
theorem W8{x y:AV}{μ:M}{R:AV->M->Prop}(h:aIx x y μ R):∃i,y=.D (.int i):=by
 have no:(∀d,aIx (.D d) y μ R->False)->(∀a,aIx (.R a) y μ R->False)->False:=λh1 h2=>by
  cases x with
  | D d=>exact h1 d h
  | R a=>exact h2 a h
  | _=>exact h
 cases y with
 | D e =>
  cases e with
  | int i=>exact⟨i,rfl⟩
  | _=>exact(no (λd q=>by cases d <;> exact q) λa q=>q).elim
 | _=>exact(no (λd q=>by cases d <;> exact q) λa q=>q).elim
theorem Fc:VIx X aIx:=by
 intro value slice aa s σ H x y v u Q I rx ry zq hs
 refine Ei zq λa b μ R ra rb hc h hq=>?_
 obtain⟨i,rfl⟩:=W8 h
 cases RelA.int rb
 cases a with
 | D d =>
  cases d with
  | str z =>
   cases RelA.str ra
   obtain⟨h1,h⟩:=h
   obtain⟨c,e,h⟩:=Aw h
   exact Qa2 value slice aa s σ H _ _ v u Q I rx ry ⟨_,_,_,rfl,rfl,h1,e,hq _ _ _ _ Kp.refl hc Ib h⟩ hs
  | tuple ds =>
   obtain⟨d,ed,h⟩:=Aw h
   obtain⟨p,vs,rfl,hp,rs⟩:=RelA.tup ra
   obtain⟨z,ez,rz⟩:=rs.atI ed
   exact Qa1 value slice aa s σ H _ _ v u Q I rx ry ⟨_,_,_,_,rfl,rfl,hp.sq,ez,hq _ _ _ _ Kp.refl hc (Rp rz) h⟩ hs
  | list ds =>
   obtain⟨d,ed,h⟩:=Aw h
   obtain⟨p,vs,rfl,hp,rs⟩:=RelA.lst ra
   obtain⟨z,ez,rz⟩:=rs.atI ed
   exact Pa value slice aa s σ H _ _ v u Q I rx ry ⟨_,_,_,_,rfl,rfl,hp.sq,ez,hq _ _ _ _ Kp.refl hc (Rp rz) h⟩ hs
  | _=>exact False.elim h
 | R a =>
  obtain⟨m,em,h⟩:=Aw h
  cases m with
  | lst xs =>
   obtain⟨w,ew,h⟩:=Aw h
   obtain⟨o,ho,vs,rfl,rs⟩:=hc _ _ em
   cases (show x=.ref _ from ra)
   obtain⟨z,ez,rz⟩:=rs.atI ew
   exact Pa value slice aa s σ H _ _ v u Q I rx ry ⟨_,_,_,_,rfl,rfl,E5.of ho,ez,hq _ _ _ _ Kp.refl hc rz h⟩ hs
  | _=>exact False.elim h
 | _=>exact False.elim h
theorem Dc{r:A2}(hr:VIx X r)(ha:VE X a ta)(hb:VE X b tb)(hs:O9 b:=by intro _ _;rfl):VE X (.Subscript a b pos) (vOp r ta tb):=(Qd4 hr ha hb hs).imp λ_ _ _ h=>Ky h
def W9:AO:=λ_ μ R=>R none μ
def Qen(t:AE):AO:=fun τ μ R=>t τ μ λx μ1=>match x with
 | .D (.int i)=>R (some i) μ1
 | _=>False
theorem Pi:VO X none W9:=Wj.imp fun σ H Q zz24=>Bu zz24 fun τ μ R hs hc h hq=>hq _ _ _ Kp.refl hc h
theorem E3(h:VE X a ta):VO X (some a) (Qen ta):=(Wk h).imp fun σ H Q zz25=>Bu zz25 fun τ μ R hs hc h hq=>⟨τ,μ,_,hs,hc,h,λx μ1 v H1 S1 c1 rx hx=>by
 split at hx
 ·cases RelA.int rx
  exact⟨_,rfl,hq _ _ _ S1 c1 hx⟩
 ·exact hx.elim⟩
def aSl(x:AV)(lo hi:Option Int):M->(AV->M->Prop)->Prop:=fun μ R=>match x with
 | .D (.str z)=>z.length<=sizeLine/\R (.D (.str (Txt.slice z lo hi))) μ
 | .D (.tuple ds)=>R (.D (.tuple (Tq ds lo hi))) μ
 | .C _=>False
 | x=>opt (items μ x) λxs=>∀p,μ p=none->R (.R p) (Aj μ p (.lst (Nv xs lo hi)))
def cSl(K:PySem.W.Frag):V->Option Int->Option Int->Hp->VK->Prop:=λx lo hi H Q=>∃a μ R,RelA K H a x/\Cn K μ H/\aSl a lo hi μ R/\LV K H R Q
theorem Qhz:SlR X (cSl X.K):=by
 intro aa s σ H x v vl vu lo hi sl Q I rx hs pl pu ⟨a,μ,R,ra,hc,h,hq⟩
 unfold aSl at h
 split at h
 ·cases RelA.str ra
  exact Qbb aa s σ H _ v vl vu lo hi sl Q I rx hs pl pu ⟨_,rfl,h.1,hq _ _ _ _ Kp.refl hc Ib h.2⟩
 ·rename_i ds
  by_cases hw:HT.sIx ds.length 0 lo=0/\HT.sIx ds.length ds.length hi=ds.length
  ·obtain⟨a,xs,rfl,ha,hx⟩:=RelA.tup ra
   cases rx
   obtain⟨ae,r,ht,hz⟩:=I.tuple ha.sq
   have ah:ae.toArray.size=ds.length:=by rw [Yau,<- r.length,hx.length]
   refine⟨"tuple",_,Ybw.lookup,ht.typeIs,?_⟩
   refine HT.getItem_tuple_all ht hs pl pu (by rw [ah];exact hw) ⟨.ref a,H,I,rfl,hq _ _ _ _ Kp.refl hc ?_ h⟩
   rw [Tr hw]
   exact ra
  ·obtain⟨a,xs,rfl,ha,hx⟩:=RelA.tup ra
   refine Qa0 aa s σ H (.ref a) v vl vu lo hi sl Q I rx hs pl pu ⟨a,xs,rfl,ha.sq,by rw [hx.length];exact hw,λp hp=>?_⟩
   exact hq _ _ _ _ (Kp.new hp _) (hc.over hp) (Tt Cw (Ai.kp (Kp.new hp _) _ _ (hx.cut lo hi))) h
 ·exact h.elim
 ·rename_i n1 n2 n3
  obtain⟨xs,ex,h⟩:=Aw h
  ·obtain⟨p,vs,rfl,hp,rs⟩:=B0 hc ra ex
   rcases hp with⟨_,hp⟩ | ⟨ht,hp⟩
   ·exact Wn aa s σ H _ v vl vu lo hi sl Q I rx hs pl pu ⟨_,_,rfl,hp,λp hp=>hq _ _ _ _ (Kp.new hp _) (hc.new hp (Bx (rs.cut lo hi))) Co (h p (hc.none hp))⟩
   ·exfalso
    unfold isT at ht
    split at ht
    ·exact n2 _ rfl
    ·exact n3 _ rfl
    ·cases ht
def vSl(te:AE)(tl th:AO):AE:=fun τ μ R=>te τ μ λx μ1=>tl τ μ1 λl μ2=>th τ μ2 λu μ3=>aSl x l u μ3 R
theorem Fq{lo hi:Option Expr}{tl th:AO}{p2:Pos}(he:VE X a ta)(hl:VO X lo tl)(hu:VO X hi th):VE X (.Subscript a (.Slice lo hi none p2) pos) (vSl ta tl th) :=
 (Ta Qhz he hl hu).imp fun σ H Q zz26=>Bu zz26 fun τ μ R hs hc h hq=>⟨τ,μ,_,hs,hc,h,λx μ1 v H1 S1 c1 rx hx=>⟨τ,μ1,_,hs.kp S1,c1,hx,λl μ2 H2 S2 c2 hl=>⟨τ,μ2,_,hs.kp (S1.trans S2),c2,hl,λu μ3 H3 S3 c3 hu =>
  ⟨x,μ3,R,rx.kp (S2.trans S3),c3,hu,hq.kp (S1.trans (S2.trans S3))⟩⟩⟩⟩
variable {x:Str}{p:Pos}{e:Expr}{es:List Expr}{t:AA}{ij T:String}{r:AC}
def vCB(r:AC)(t:AA):AE:=fun τ μ R=>t τ μ λxs μ1=>r xs μ1 R
theorem Pj{K:PySem.W.Frag}{n:Nat}{r:AC}{t:AA}{σ:St}{H:Hp}{Q:VK}(h:cE K (vCB r t) σ H Q):tCB (cC K r) (cA K n t) σ H Q:=by
 obtain⟨τ,μ,R,hs,hc,h,hq⟩:=h
 exact⟨τ,μ,_,hs,hc,h,λxs μ1 vs H1 S1 c1 rs hl hx=>⟨xs,μ1,R,rs,c1,hx,hq.kp S1⟩⟩
theorem Bn(hc:VCall X (.builtin ij) r)(hg:Gl X x)(hm:X.mg x=none)(hv:bootBuiltins x=some (.builtin ij))(ha:VA X (e :: es) t)(hn:x ≠ "__name__" := by decide) (hd:(x==("__debug__" : Str))=false:=by decide)
  (be:starEach (e :: es) X.env=(false,eval e X.env) :: starEach es X.env:=by rfl) (hpl:(backTo pos (starEach es X.env)).any (·.1)=false:=by rfl):VE X (.Call (.Name x p) (e :: es) [] pos) (vCB r t) :=
 (Sy hc hg hm hv ha hn hd be hpl).imp λ_ _ _ h=>Pj h
theorem C9(hc:VCall X (.type T) r)(hg:Gl X x)(hm:X.mg x=none)(hv:bootBuiltins x=some (.type T))(ha:VA X (e :: es) t)(hn:x ≠ "__name__" := by decide) (hd:(x==("__debug__" : Str))=false:=by decide)
  (be:starEach (e :: es) X.env=(false,eval e X.env) :: starEach es X.env:=by rfl) (hpl:(backTo pos (starEach es X.env)).any (·.1)=false:=by rfl):VE X (.Call (.Name x p) (e :: es) [] pos) (vCB r t) :=
 (Rg hc hg hm hv ha hn hd be hpl).imp λ_ _ _ h=>Pj h
def Qeo:AC:=λxs μ R=>match xs with
 | [.D (.str z)]=>z.length<=sizeLine/\R (.D (.int z.length)) μ
 | [.D (.tuple ds)]=>R (.D (.int ds.length)) μ
 | [.D (.list ds)]=>R (.D (.int ds.length)) μ
 | [.R a]=>opt (μ a) λm=>match m with
  | .lst ys=>R (.D (.int ys.length)) μ
  | .dk ab=>R (.D (.int ab.length)) μ
  | _=>False
 | _=>False
theorem J1:VCall X (.builtin "len") Qeo:=by
 intro aa s σ H xs us Q I r zz27
 refine Bu zz27 λas μ R ra hc h hq=>?_
 have no:∀{y:AV} {t:List AV} {x:AV},Qeo (x :: y :: t) μ R->False:=λ{y t x} q=>by
  cases x with
  | D d=>cases d <;> exact q
  | _=>exact q
 cases ra with
 | nil=>exact False.elim h
 | @cons x v bf vs' r1 r2 =>
  cases r2 with
  | cons _ _=>exact(no h).elim
  | nil =>
   cases x with
   | D d =>
    cases d with
    | str z =>
     cases RelA.str r1
     exact Ko aa s σ H _ us Q I r ⟨_,rfl,h.1,hq _ _ _ _ Kp.refl hc C4 h.2⟩
    | tuple ds =>
     obtain⟨p,vs,rfl,hp,rs⟩:=RelA.tup r1
     refine Eb aa s σ H _ us Q I r ⟨p,vs,rfl,.inr hp.sq,hq _ _ _ _ Kp.refl hc ?_ h⟩
     rw [rs.length];exact C4
    | list ds =>
     obtain⟨p,vs,rfl,hp,rs⟩:=RelA.lst r1
     refine Eb aa s σ H _ us Q I r ⟨p,vs,rfl,.inl hp.sq,hq _ _ _ _ Kp.refl hc ?_ h⟩
     rw [rs.length];exact C4
    | _=>exact False.elim h
   | R a =>
    obtain⟨m,em,h⟩:=Aw h
    cases (show _=V.ref _ from r1)
    obtain⟨o,ho,rm⟩:=hc _ _ em
    cases m with
    | lst ys =>
     obtain⟨vs,rfl,rs⟩:=rm
     refine Eb aa s σ H _ us Q I r ⟨_,vs,rfl,.inl (E5.of ho),hq _ _ _ _ Kp.refl hc ?_ h⟩
     rw [rs.length];exact C4
    | dk ab =>
     obtain⟨vs,rfl,rs⟩:=rm
     refine Rn aa s σ H _ us Q I r ⟨_,vs,rfl,ho,hq _ _ _ _ Kp.refl hc ?_ h⟩
     rw [Ycw rs];exact C4
    | _=>exact False.elim h
   | _=>exact False.elim h
def K0:AC:=λxs μ R=>match xs with
 | [.D (.tuple ds)]=>R (.D (.tuple ds)) μ
 | [.C _]=>False
 | [y]=>opt (items μ y) λys=>opt (dats ys) λds=>R (.D (.tuple ds)) μ
 | _=>False
theorem Nx{x:AV}{t:List AV}{μ:M}{R:AV->M->Prop}(h:K0 (x :: t) μ R):t=[]:=by
 cases t with
 | nil=>rfl
 | cons y t =>
  refine False.elim ?_
  cases x with
  | D d=>cases d <;> exact h
  | _=>exact h
theorem Rq{x:AV}{μ:M}{R:AV->M->Prop}(ht:isT x=false)(h:K0 [x] μ R):opt (items μ x) λys=>opt (dats ys) λds=>R (.D (.tuple ds)) μ:=by
 cases x with
 | D d=>cases d <;> first | exact h | cases ht
 | C ds=>cases ht
 | _=>exact h
theorem T0{x:AV}{μ:M}{R:AV->M->Prop}(ht:isT x=true)(h:K0 [x] μ R):∃ds,x=.D (.tuple ds)/\R (.D (.tuple ds)) μ:=by
 cases x with
 | D d =>
  cases d with
  | tuple ds=>exact⟨ds,rfl,h⟩
  | _=>cases ht
 | C ds=>exact False.elim h
 | _=>cases ht
theorem Fr:VCall X (.type "tuple") K0:=by
 intro aa s σ H xs us Q I r zz28
 refine Bu zz28 λas μ R ra hc h hq=>?_
 cases ra with
 | nil=>exact False.elim h
 | @cons y v ys' vs' r1 r2 =>
  have hn:=Nx h
  subst hn
  cases r2
  cases ht:isT y with
  | true =>
   obtain⟨ds,rfl,h⟩:=T0 ht h
   obtain⟨p,vs,rfl,hp,rs⟩:=RelA.tup r1
   exact E7 aa s σ H _ us Q I r ⟨p,vs,rfl,.inr ⟨hp.sq,hq _ _ _ _ Kp.refl hc r1 h⟩⟩
  | false =>
   obtain⟨ys,ey,h⟩:=Aw (Rq ht h)
   obtain⟨ds,ed,h⟩:=Aw h
   obtain⟨p,vs,rfl,hp,rs⟩:=B0 hc r1 ey
   rcases hp with⟨_,hp⟩ | ⟨ht2,_⟩
   ·exact E7 aa s σ H _ us Q I r ⟨p,vs,rfl,.inl ⟨hp,λl hl=>hq _ _ _ _ (Kp.new hl _) (hc.over hl) (Tt Cw (Ai.kp (Kp.new hl _) _ _ (rs.dats ed))) h⟩⟩
   ·rw [ht]at ht2;cases ht2
def bools:List AV->Option (List Bool)
 | []=>some []
 | .D (.bool b) :: r=>match bools r with
  | some bs=>some (b :: bs)
  | none=>none
 | _ :: _=>none
def Qje:AC:=λxs μ R=>match xs with
 | [.R a]=>opt (μ a) λm=>match m with
  | .lst ys=>opt (bools ys) λbs=>R (.D (.bool (bs.all id))) μ
  | _=>False
 | _=>False
def Y7:AC:=λxs μ R=>match xs with
 | [.D (.int i),.D (.int j)]=>R (.D (.int (if j > i then j else i))) μ
 | _=>False
theorem T1(jp:X.calm=true):VCall X (.builtin "max") Y7:=by
 intro aa s σ H xs us Q I r zz31
 refine Bu zz31 λas μ R ra hc h hq=>?_
 unfold Y7 at h
 split at h
 ·cases ra with
  | cons r1 r2 =>
   cases r2 with
   | cons r2 r3 =>
    cases r3
    cases RelA.int r1;cases RelA.int r2
    exact Re jp aa s σ H _ us Q I r ⟨_,_,rfl,hq _ _ _ _ Kp.refl hc C4 h⟩
 ·exact h.elim
variable {o:Expr}{to:AE}{name:Str}{ap ak:Pos}{m:AV->AC}
def Mb(μ:M):AV->Prop
 | .R a=>opt (μ a) λm=>match m with
  | .lst _=>True
  | _=>False
 | .D (.list _)=>True
 | _=>False
theorem Mb.ty{H:Hp}{μ:M}{x:AV}{v:V}(hc:Cn X.K μ H)(rx:RelA X.K H x v)(h:Mb μ x):tyV X.K "list" v H:=by
 unfold Mb at h
 split at h
 ·obtain⟨m,e,h⟩:=Aw h
  split at h
  ·obtain⟨o,ho,vs,rfl,_⟩:=hc _ _ e
   cases (show v=.ref _ from rx)
   exact .inl ⟨rfl,vs,E5.of ho⟩
  ·exact h.elim
 ·obtain⟨a,xs,rfl,q,_⟩:=RelA.lst rx
  exact .inl ⟨rfl,xs,q.sq⟩
 ·exact h.elim
def Qh1(m:AV->AC)(to:AE):AE:=fun τ μ R=>to τ μ λx μ1=>Mb μ1 x/\m x [] μ1 R
def vBL(m:AV->AC)(to:AE)(t:AA):AE:=fun τ μ R=>to τ μ λx μ1=>Mb μ1 x/\t τ μ1 λxs μ2=>m x xs μ2 R
theorem T2(slot:Slot "list" name ij) (jw:typeOf (.builtin ij)=pure (.type "method_descriptor")) (hm:VMt X ij m) (ho:VE X o to)
  (ck:attributeBase o name X.env (eval o X.env)=eval o X.env:=by rfl) (cg:(ap.endLine==ak.line)=true:=by rfl):VE X (.Call (.Attribute o name ap) [] [] ak) (Qh1 m to) :=
 (Tc PySem.F.plainAttrs_list slot jw hm ho ck cg).imp fun σ H Q zz33=>Bu zz33 fun τ μ R hs hc h hq=>⟨τ,μ,_,hs,hc,h,λx μ1 v H1 S1 c1 rx hx=>⟨hx.1.ty c1 rx,x,[],μ1,R,rx,.nil,c1,hx.2,hq.kp S1⟩⟩
theorem Em(slot:Slot "list" name ij) (jw:typeOf (.builtin ij)=pure (.type "method_descriptor")) (hm:VMt X ij m) (ho:VE X o to) (ha:VA X (e :: es) t)
  (ck:attributeBase o name X.env (eval o X.env)=eval o X.env:=by rfl)
  (lj:((backTo ak (starEach (e :: es) X.env)).all (λx=>!x.1) && (backToKw ak (keywordEach [] X.env)).all (λx=>x.1.isSome)
   && decide ((e :: es).length+([]:List Keyword).length+(if([]:List Keyword).isEmpty then 0 else 1) < 30))=true:=by rfl)
  (cg:(ap.endLine==ak.line)=true:=by rfl) (hs:starEach (e :: es) X.env=(false,eval e X.env) :: starEach es X.env:=by rfl) (gp:(backTo ak (starEach es X.env)).any (·.1)=false:=by rfl) :
  VE X (.Call (.Attribute o name ap) (e :: es) [] ak) (vBL m to t) :=
 (Qd5 PySem.F.plainAttrs_list slot jw hm ho ha ck lj cg hs gp).imp fun σ H Q zz34=>Bu zz34 fun τ μ R hs hc h hq=>⟨τ,μ,_,hs,hc,h,λx μ1 v H1 S1 c1 rx hx=>⟨hx.1.ty c1 rx,τ,μ1,_,hs.kp S1,c1,hx.2,λxs μ2 vs H2 S2 c2 rs hl ii =>
  ⟨x,xs,μ2,R,rx.kp S2,rs,c2,ii,hq.kp (S1.trans S2)⟩⟩⟩
def Pk:AV->AC:=λx xs μ R=>match x,xs with
 | .R a,[y]=>opt (μ a) λm=>match m with
  | .lst ys=>ys.length < sizeLine/\R (.D .none) (Aj μ a (.lst (ys++[y])))
  | _=>False
 | _,_=>False
theorem Cy:VMt X "list.append" Pk:=by
 intro aa s σ H x xs v us Q I rx r zz36
 refine Ei zz36 λa as μ R ra rs hc h hq=>?_
 unfold Pk at h
 split at h
 ·rename_i a y
  obtain⟨m,ey,h⟩:=Aw h
  split at h
  ·cases rs with
   | cons r1 r2 =>
    cases r2
    obtain⟨o,ho,vs,rfl,rl⟩:=hc _ _ ey
    cases (show x=.ref a from ra)
    exact Gk aa s σ H _ _ v us Q I rx r ⟨a,vs,_,rfl,rfl,ho,by rw [<- rl.length];exact h.1,hq _ _ _ _ (Kp.put ho trivial _) (hc.put ho trivial (Bx (rl.append (.cons r1 .nil)))) Ic h.2⟩
  ·exact h.elim
 ·exact h.elim
def Pl:AV->AC:=λx xs μ R=>match x,xs with
 | .R a,[.R b]=>opt (μ a) λm=>opt (μ b) λn=>match m,n with
  | .lst ys,.lst zs=>ys.length+zs.length<=sizeLine/\R (.D .none) (Aj μ a (.lst (ys++zs)))
  | _,_=>False
 | _,_=>False
theorem Mc:VMt X "list.extend" Pl:=by
 intro aa s σ H x xs v us Q I rx r zz37
 refine Ei zz37 λa as μ R ra rs hc h hq=>?_
 unfold Pl at h
 split at h
 ·rename_i a b
  obtain⟨m,ey,h⟩:=Aw h
  obtain⟨n,ez,h⟩:=Aw h
  split at h
  ·cases rs with
   | cons r1 r2 =>
    cases r2
    obtain⟨o,ho,vs,rfl,rl⟩:=hc _ _ ey
    obtain⟨o',ho',ws,rfl,rl'⟩:=hc _ _ ez
    cases (show x=.ref a from ra)
    cases (show _=V.ref b from r1)
    exact Rh aa s σ H _ _ v us Q I rx r ⟨a,b,vs,ws,rfl,rfl,ho,ho',by rw [<- rl.length,<- rl'.length];exact h.1,hq _ _ _ _ (Kp.put ho trivial _) (hc.put ho trivial (Bx (rl.append rl'))) Ic h.2⟩
  ·exact h.elim
 ·exact h.elim
def Qep:AV->AC:=λx xs μ R=>match x,xs with
 | .R a,[]=>opt (μ a) λm=>match m with
  | .lst ys=>opt ys[ys.length - 1]? λy=>R y (Aj μ a (.lst ys.dropLast))
  | _=>False
 | _,_=>False
theorem Qeq:VMt X "list.pop" Qep:=by
 intro aa s σ H x xs v us Q I rx r zz38
 refine Ei zz38 λa as μ R ra rs hc h hq=>?_
 unfold Qep at h
 split at h
 ·rename_i a
  obtain⟨m,ey,h⟩:=Aw h
  split at h
  ·obtain⟨y,e1,h⟩:=Aw h
   ·cases rs
    obtain⟨o,ho,vs,rfl,rl⟩:=hc _ _ ey
    cases (show x=.ref a from ra)
    obtain⟨z,ez,rz⟩:=rl.get e1
    exact Qa3 aa s σ H _ _ v us Q I rx r ⟨a,vs,z,rfl,rfl,ho,by rw [<- rl.length];exact ez,hq _ _ _ _ (Kp.put ho trivial _) (hc.put ho trivial (Bx (rl.dropLast))) (rz.kp (Kp.put ho trivial _)) h⟩
  ·exact h.elim
 ·exact h.elim
end
section
variable {X:Cx}{a b c:Expr}{ta tb tc:AE}{pos:Pos}
abbrev ASp:=List AV->M->(AV->M->Prop)->Prop
def K5(K:PySem.W.Frag)(n:Nat)(sp:ASp):Sp:=λvs H Q _=>∃xs μ R,xs.length=n/\Ao K H xs vs/\Cn K μ H/\sp xs μ R/\LV K H R Q
def VCal(P:Program)(w:World)(K:PySem.W.Frag)(mg:Str->Option Value)(base:Heap)(k:Nat)(x:Str)(ps:List Str)(sp:ASp):Prop:=Cal P w K mg base k x ps (K5 K ps.length sp)
def Qer(n:Nat)(sp:ASp)(t:AA):AE:=fun τ μ R=>t τ μ λxs μ1=>sp xs μ1 R
variable {x:Str}{p:Pos}{e:Expr}{es:List Expr}{t:AA}{k:Nat}{ps:List Str}{sp:ASp}
theorem Aq(F:VCal X.prog X.w X.K X.mg X.base k x ps sp)(hr:Room k X.A)(hg:Gl X x)(ha:VA X (e :: es) t)(hl:(e :: es).length=ps.length:=by rfl)(hdb:(x==("__debug__" : Str))=false:=by decide)
  (be:starEach (e :: es) X.env=(false,eval e X.env) :: starEach es X.env:=by rfl) (hpl:(backTo pos (starEach es X.env)).any (·.1)=false:=by rfl):VE X (.Call (.Name x p) (e :: es) [] pos) (Qer ps.length sp t):=by
 obtain⟨g,gd,G,gb,gk,gm⟩:=F
 refine PE.imp (Wh (E:=E0) G hr hg gm gk gb .nil Qeb ha (hdb:=hdb) (he:=be) (hpl:=hpl)) fun σ H Q zz41=>Bu zz41 fun τ μ R hs hc h hq=>?_
 exact⟨τ,μ,_,hs,hc,h,λxs μ1 vs H1 S1 c1 rs hn hx=>⟨xs,μ1,R,hn.trans hl,by rw [Ycp];exact rs,c1,hx,hq.kp S1⟩⟩
def Qes:AS:=λk _ _ _ τ μ=>k τ μ
def Ny(t u:AS):AS:=λk r b c τ μ=>t (u k r b c) r b c τ μ
variable {st:Stmt}{rest:List Stmt}{s1 s2:AS}
theorem Cs:VSs X [] Qes:=V7.imp λD σ H zz43=>Ht zz43 fun τ μ nk nr nb nc hs hc h hq=>hq.nx _ _ _ _ Kp.refl hs hc h
theorem Ae(h1:VS X st s1)(h2:VSs X rest s2):VSs X (st :: rest) (Ny s1 s2):=(Sr h1 h2).imp λD σ H zz44=>Ht zz44 fun τ μ nk nr nb nc hs hc h hq =>
 ⟨τ,μ,_,_,_,_,hs,hc,h,⟨fun τ' μ' σ' H' S' fg bo h'=>⟨τ',μ',nk,nr,nb,nc,fg,bo,h',hq.kp S'⟩,hq.rt,hq.bk,hq.ct⟩⟩
theorem Al(h1:VS X st s1):VSs X [st] s1:=V8 h1
def Qet(te:AE):AS:=λk _ _ _ τ μ=>te τ μ λ_ μ1=>k τ μ1
theorem B6(he:VE X a ta)(hs:swapsWith a none pos.line X.env=pure false:=by rfl):VS X (.Expr a pos) (Qet ta):=(V9 he hs).imp λD σ H zz48=>Ht zz48 fun τ μ nk nr nb nc hs hc h hq =>
 ⟨τ,μ,_,hs,hc,h,λx μ1 v H1 S1 c1 rx hx=>hq.nx _ _ _ _ S1 (hs.kp S1) c1 hx⟩
def Qh2(te:AE):AS:=λ_ r _ _ τ μ=>te τ μ r
theorem Bf(he:VE X a ta):VS X (.Return (some a) pos) (Qh2 ta):=(Qag he).imp λD σ H zz49=>Ht zz49 fun τ μ nk nr nb nc hs hc h hq=>⟨τ,μ,_,hs,hc,h,hq.rt⟩
def Qh3(ct:AT)(t u:AS):AS:=λk r b c τ μ=>ct τ μ λx μ1=>brP x (t k r b c τ μ1) (u k r b c τ μ1)
theorem En{c:Expr}{a b:List Stmt}{tc:AT}(hc:VT X c tc)(ha:VSs X a s1)(hb:VSs X b s2):VS X (.If c a b pos) (Qh3 tc s1 s2):=(Qdo hc ha hb).imp λD σ H zz51=>Ht zz51 fun τ μ nk nr nb nc hs hc h hq =>
 ⟨τ,μ,_,hs,hc,h,λk μ1 H1 S1 c1 hk=>by
  rcases br_e hk with⟨rfl,de⟩ | ⟨rfl,de⟩
  ·exact⟨τ,μ1,nk,nr,nb,nc,hs.kp S1,c1,de,hq.kp S1⟩
  ·exact⟨τ,μ1,nk,nr,nb,nc,hs.kp S1,c1,de,hq.kp S1⟩⟩
def C6(i:Nat):AG:=λv τ μ R=>R (τ.set i (some v)) μ
theorem Am{i:Nat}{x:Str}(hN:X.N.Nodup)(hi:X.N[i]?=some x)(hx:Loc X.env.scope x)(hf:X.fn x=true\/X.env.scope.names.lookup x=some .local:=by first | exact .inl rfl | exact .inr rfl | assumption):VG X (.Name x pos) (C6 i) :=
 (Wa hN hi hx hf).imp λv σ H Q zz54=>Ei zz54 λx τ μ R rx hs hc h hq=>hq _ _ _ _ Kp.refl (hs.set rx i) hc h
def T3:AGs:=λvs τ μ R=>match vs with
 | []=>R τ μ
 | _ :: _=>False
def Eg(t:AG)(u:AGs):AGs:=λvs τ μ R=>match vs with
 | []=>False
 | v :: r=>t v τ μ fun τ' μ'=>u r τ' μ' R
theorem Ct:VGs X [] T3:=Wb.imp λvs σ H Q zz55=>Ei zz55 λxs τ μ R rx hs hc h hq=>by
 cases rx with
 | nil=>exact⟨rfl,hq _ _ _ _ Kp.refl hs hc h⟩
 | cons=>exact h.elim
theorem Au{e:Expr}{es:List Expr}{t:AG}{u:AGs}(h1:VG X e t)(h2:VGs X es u)
  (hs:(assignEach (e :: es) X.env).map (·.2)=assign e X.env :: (assignEach es X.env).map (·.2):=by rfl):VGs X (e :: es) (Eg t u):=(Ss h1 h2 hs).imp λvs σ H Q zz56=>Ei zz56 λxs τ μ R rx hs hc h hq=>by
 cases rx with
 | nil=>exact h.elim
 | cons r1 r2=>exact⟨_,_,rfl,_,τ,μ,_,r1,hs,hc,h,fun τ' μ' σ' H' S' fg bo h'=>⟨_,τ',μ',R,Ao.kp S' r2,fg,bo,h',hq.kp S'⟩⟩
def Qeu(n:Nat)(t:AGs):AG:=λv τ μ R=>match v with
 | .D (.tuple ds)=>ds.length=n/\t (ds.map .D) τ μ R
 | _=>False
theorem Dv{es:List Expr}{k:Nat}{t:AGs}{n:Nat}(jp:X.calm=true)(h:VGs X es t)
  (hn:(assignEach es X.env).length=n:=by rfl) (be:(assignEach es X.env).findIdx? (·.1)=none:=by rfl):VG X (.Tuple es k pos) (Qeu n t):=(Qah jp h hn be).imp λv σ H Q zz57=>Ei zz57 λx τ μ R rx hs hc h hq=>by
 unfold Qeu at h
 split at h
 ·obtain⟨a,vs,rfl,q,r⟩:=RelA.tup rx
  exact⟨a,vs,rfl,q.sq,by rw [r.length];exact h.1,_,τ,μ,R,r.rel,hs,hc,h.2,hq⟩
 ·exact h.elim
def Qjg(o i v:AV)(μ:M)(R:M->Prop):Prop:=match o,i with
 | .R a,.D (.int k)=>opt (μ a) λm=>match m with
  | .lst xs=>opt (Wl xs.length k) λj=>R (Aj μ a (.lst (xs.set j v)))
  | _=>False
 | _,_=>False
def Rr(te:AE)(g:AG):AS:=λk _ _ _ τ μ=>te τ μ λx μ1=>g x τ μ1 k
theorem T4{K:PySem.W.Frag}{te:AE}{g:AG}{D:Ends}{σ:St}{H:Hp}(h:cS K (Rr te g) D σ H):Su (cE K te) (cG K g) D σ H:=by
 obtain⟨τ,μ,nk,nr,nb,nc,hs,hc,h,hq⟩:=h
 exact⟨τ,μ,_,hs,hc,h,λx μ1 v H1 S1 c1 rx hx=>⟨x,τ,μ1,_,rx,hs.kp S1,c1,hx,hq.nx.kp S1⟩⟩
theorem Qbi{tg:Expr}{g:AG}(he:VE X a ta)(hg:VG X tg g)(hs:swapsWithSole [tg] a pos.line X.env=pure false:=by rfl)(hw:swappedStores [tg] a X.env=pure none:=by rfl)
  (h1:(assignEach [tg] X.env).map (·.2)=[assign tg X.env]:=by rfl):VS X (.Assign [tg] a pos) (Rr ta g):=(Qai he hg hs hw h1).imp λ_ _ _ h=>T4 h
theorem A3{i:Nat}{x:Str}{bt:Pos}(hN:X.N.Nodup)(hi:X.N[i]?=some x)(hx:Loc X.env.scope x)(he:VE X a ta)(hs:swapsWith a (some (.Name x bt)) pos.line X.env=pure false:=by rfl)(hf:X.fn x=true\/X.env.scope.names.lookup x=some .local:=by first | exact .inl rfl | exact .inr rfl | assumption) :
  VS X (.Assign [.Name x bt] a pos) (Rr ta (C6 i)):=(Qaj hN hi hx he hs hf).imp λD σ H zz59=>Ht zz59 fun τ μ nk nr nb nc hs hc h hq =>
 ⟨τ,μ,_,hs,hc,h,λx μ1 v H1 S1 c1 rx hx=>hq.nx _ _ _ _ S1 ((hs.kp S1).set rx i) c1 hx⟩
def Qjh(i j:Nat)(t:AA):AS:=λk _ _ _ τ μ=>t τ μ λxs μ1=>match xs with
 | [v,w]=>k ((τ.set i (some v)).set j (some w)) μ1
 | _=>False
def wl(c:AT)(tb:AS)(k:ASt->M->Prop)(r:AV->M->Prop):Nat->ASt->M->Prop
 | 0=>λ_ _=>False
 | n+1=>fun τ μ=>c τ μ λx μ1=>brP x (tb (wl c tb k r n) r k (wl c tb k r n) τ μ1) (k τ μ1)
def Qbj(c:AT)(tb:AS):AS:=λk r _ _ τ μ=>∃n,wl c tb k r n τ μ
theorem T5{c:Expr}{body:List Stmt}{tc:AT}{tb:AS}(hp:PassesOwn (model X.prog X.w) X.A X.env X.xe)(hc:VT X c tc)(hb:VSs X body tb):VS X (.While c body [] pos) (Qbj tc tb):=(Sv hp hc hb).imp λD σ H zw=>Ht zw fun τ μ nk nr nb nc hs hc zh hq=>by
 obtain⟨n,h⟩:=zh
 refine⟨λm σ1 H1=>∃ τ1 μ1,Kp H H1/\Dm X.K H1 τ1 σ1/\Cn X.K μ1 H1/\wl tc tb nk nr m τ1 μ1,⟨n,τ,μ,Kp.refl,hs,hc,h⟩,?_⟩
 rintro m σ1 H1 ⟨τ1,μ1,S1,gx,hc1,h1⟩
 cases m with
 | zero=>exact h1.elim
 | succ m =>
  refine⟨τ1,μ1,_,gx,hc1,h1,λk μ2 H2 S2 c2 hk=>?_⟩
  rcases br_e hk with⟨rfl,de⟩ | ⟨rfl,de⟩
  ·rw [Yao rfl]
   refine⟨fun σ' H'=>∃ τ' μ',Kp H H'/\Dm X.K H' τ' σ'/\Cn X.K μ' H'/\wl tc tb nk nr m τ' μ',fun σ' H' ⟨τ',μ',q⟩=>⟨m,Ycl _,τ',μ',q⟩,τ1,μ2,_,_,_,_,gx.kp S2,c2,de,?_⟩
   have S:=S1.trans S2
   exact⟨fun τ' μ' σ' H' S' fg bo h'=>⟨τ',μ',S.trans S',fg,bo,h'⟩,hq.rt.kp S,hq.nx.kp S,fun τ' μ' σ' H' S' fg bo h'=>⟨τ',μ',S.trans S',fg,bo,h'⟩⟩
  ·rw [Yaj Yag]
   exact hq.nx _ _ _ _ (S1.trans S2) (gx.kp S2) c2 de
structure ItOk(K:PySem.W.Frag)(H0:Hp)(J:It)(xs:List AV)(kp:M->Prop):Prop where
 go:∀i H μ,Kp H0 H->Cn K μ H->kp μ->i < xs.length->J.go i H
 yld:∀i H μ v H' x,Kp H0 H->Cn K μ H->kp μ->xs[i]?=some x->J.yld i H v H'->Kp H H'/\Cn K μ H'/\RelA K H' x v
 stop:∀H μ,Kp H0 H->Cn K μ H->kp μ->J.stop xs.length H
abbrev AI:=ASt->M->(List AV->(M->Prop)->M->Prop)->Prop
def cI(K:PySem.W.Frag)(wi:AI):TI:=fun σ H R=>∃ τ μ R',Dm K H τ σ/\Cn K μ H/\wi τ μ R'/\∀xs kp μ' J H',Kp H H'->Cn K μ' H'->ItOk K H' J xs kp->R' xs kp μ'->R J H'
def VI(X:Cx)(tg iter:Expr)(wi:AI):Prop:=PI X tg iter (cI X.K wi)
theorem PI.imp{tg e:Expr}{t u:TI}(h:PI X tg e t)(i:∀ σ H Q,u σ H Q->t σ H Q):PI X tg e u:=λaa s σ H Q I q=>h aa s σ H Q I (i σ H Q q)
theorem Rs{K:PySem.W.Frag}{H0:Hp}{a:Addr}{xs:List AV}{kp:M->Prop}(h:∀H μ,Kp H0 H->Cn K μ H->kp μ->∃vs,E5 K H a vs/\Ao K H xs vs):ItOk K H0 (Itl K a) xs kp:=by
 refine⟨λi H μ S c k hi=>?_,λi H μ v H' x S c k e y=>?_,λH μ S c k=>?_⟩
 ·obtain⟨vs,q,r⟩:=h H μ S c k
  exact⟨vs,vs[i]'(by rw [<- r.length];exact hi),q,List.getElem?_eq_getElem _⟩
 ·obtain⟨vs,q,r⟩:=h H μ S c k
  obtain⟨rfl,y⟩:=y
  obtain⟨u,eu,ru⟩:=r.get e
  rw [y vs q]at eu
  cases eu
  exact⟨Kp.refl,c,ru⟩
 ·obtain⟨vs,q,r⟩:=h H μ S c k
  exact⟨vs,q,by rw [r.length];exact Yad _⟩
theorem T6{K:PySem.W.Frag}{H0:Hp}{a:Addr}{xs:List AV}{kp:M->Prop}(h:∀H μ,Kp H0 H->Cn K μ H->kp μ->∃vs,Kl K H a vs/\Ao K H xs vs):ItOk K H0 (Itt K a) xs kp:=by
 refine⟨λi H μ S c k hi=>?_,λi H μ v H' x S c k e y=>?_,λH μ S c k=>?_⟩
 ·obtain⟨vs,q,r⟩:=h H μ S c k
  exact⟨vs,vs[i]'(by rw [<- r.length];exact hi),q,List.getElem?_eq_getElem _⟩
 ·obtain⟨vs,q,r⟩:=h H μ S c k
  obtain⟨rfl,y⟩:=y
  obtain⟨u,eu,ru⟩:=r.get e
  rw [y vs q]at eu
  cases eu
  exact⟨Kp.refl,c,ru⟩
 ·obtain⟨vs,q,r⟩:=h H μ S c k
  exact⟨vs,q,by rw [r.length];exact Yad _⟩
variable {tg:Expr}
def Fd(lo:Int):Nat->List AV
 | 0=>[]
 | n+1=>.D (.int lo) :: Fd (lo+1) n
theorem Bh:∀(n:Nat) (lo:Int),(Fd lo n).length=n
 | 0,_=>rfl
 | n+1,lo=>by rw [Fd,Ya9,Bh n]
theorem D5:∀(n:Nat) (lo:Int) (i:Nat) {x:AV},(Fd lo n)[i]?=some x->x=.D (.int (lo+i))
 | 0,_,_,_,h=>by simp [Fd]at h
 | n+1,lo,0,_,h=>by simp [Fd]at h;rw [<- h];simp
 | n+1,lo,i+1,_,h=>by
  rw [Fd,List.getElem?_cons_succ]at h
  rw [D5 n (lo+1) i h]
  congr 2
  omega
theorem T7{K:PySem.W.Frag}{H0:Hp}{lo:Int}{n:Nat}:ItOk K H0 (Itr lo n) (Fd lo n) (λ_=>True):=by
 refine⟨λi H μ S c k hi=>?_,λi H μ v H' x S c k e y=>?_,λH μ S c k=>?_⟩
 ·show i < n
  rw [Bh]at hi;exact hi
 ·obtain⟨rfl,rfl⟩:=y
  rw [D5 n lo i e]
  exact⟨Kp.refl,c,C4⟩
 ·show n<=_
  rw [Bh];exact Yad _
def Qev(t:AA):AI:=fun τ μ R=>t τ μ λxs μ1=>match xs with
 | [.D (.int j)]=>-(2 ^ 62)<=j/\j < 2 ^ 62/\R (Fd 0 j.toNat) (λ_=>True) μ1
 | _=>False
theorem D6{t:AA}{p:Pos}(hg:Gl X "range") (hm:X.mg "range" = none) (ha:VA X [a] t) (hs:starEach [a] X.env=[(false,eval a X.env)]:=by rfl):VI X tg (.Call (.Name "range" p) [a] [] pos) (Qev t) :=
 (Rb hg hm ha hs).imp fun σ H Q zz62=>Bu zz62 fun τ μ R hs hc h hq=>⟨τ,μ,_,hs,hc,h,λxs μ1 vs H1 S1 c1 rs hl hx=>by
  split at hx
  ·cases rs with
   | cons r1 r2 =>
    cases r2
    cases RelA.int r1
    exact⟨_,rfl,hx.1,hx.2.1,hq _ _ _ _ _ S1 c1 T7 hx.2.2⟩
  ·exact hx.elim⟩
def fl(g:AG)(tb:AS)(k:ASt->M->Prop)(r:AV->M->Prop)(kp:M->Prop):List AV->ASt->M->Prop
 | []=>fun τ μ=>kp μ/\k τ μ
 | x :: xs=>fun τ μ=>kp μ/\g x τ μ fun τ2 μ2=>tb (fl g tb k r kp xs) r k (fl g tb k r kp xs) τ2 μ2
def Qh4(wi:AI)(g:AG)(tb:AS):AS:=λk r _ _ τ μ=>wi τ μ λxs kp μ1=>fl g tb k r kp xs τ μ1
theorem Qew{g:AG}{tb:AS}{k:ASt->M->Prop}{r:AV->M->Prop}{kp:M->Prop}{xs:List AV}{τ:ASt}{μ:M}(h:fl g tb k r kp xs τ μ):kp μ:=by
 cases xs with
 | nil=>exact h.1
 | cons x xs=>exact h.1
theorem B2{iter:Expr}{body:List Stmt}{wi:AI}{g:AG}{tb:AS}(hp:PassesOwn (model X.prog X.w) X.A X.env X.xe)(jp:X.calm=true)(hi:VI X tg iter wi)(hg:VG X tg g)(hb:VSs X body tb)(hfs:∀x,foldedSetIterable iter X.env x=pure x:=by intro _;rfl) :
  VS X (.For tg iter body [] pos) (Qh4 wi g tb):=(Qal hp jp hi hg hb hfs).imp λD σ H zz64=>Ht zz64 fun τ μ nk nr nb nc hs hc h hq=>by
 refine⟨τ,μ,_,hs,hc,h,λxs kp μ0 J H0 S0 c0 it h0=>?_⟩
 refine Qbc xs.length (λi σ1 H1=>∃ τ1 μ1,Kp H0 H1/\Dm X.K H1 τ1 σ1/\Cn X.K μ1 H1/\fl g tb nk nr kp (xs.drop i) τ1 μ1) ⟨τ,μ0,Kp.refl,hs.kp S0,c0,h0⟩ ?_ ?_ ?_
 ·rintro i σ1 H1 hi ⟨τ1,μ1,S1,gx,hc1,h1⟩
  exact it.go i H1 μ1 S1 hc1 (Qew h1) hi
 ·rintro σ1 H1 ⟨τ1,μ1,S1,gx,hc1,h1⟩
  rw [Ye6]at h1
  exact⟨it.stop H1 μ1 S1 hc1 h1.1,hq.nx _ _ _ _ (S0.trans S1) gx hc1 h1.2⟩
 ·rintro i v σ1 H1 H2 hi ⟨τ1,μ1,S1,gx,hc1,h1⟩ y
  rw [Ybn hi]at h1
  obtain⟨hk,h1⟩:=h1
  obtain⟨S2,c2,rx⟩:=it.yld i H1 μ1 v H2 _ S1 hc1 hk (List.getElem?_eq_getElem hi) y
  refine⟨_,τ1,μ1,_,rx,gx.kp S2,c2,h1,fun τ3 μ3 σ3 H3 S3 hs3 hc3 h3=>⟨τ3,μ3,_,_,_,_,hs3,hc3,h3,?_⟩⟩
  have S:Kp H0 H3:=S1.trans (S2.trans S3)
  exact⟨fun τ' μ' σ' H' S' fg bo h'=>⟨τ',μ',S.trans S',fg,bo,h'⟩,hq.rt.kp (S0.trans S),hq.nx.kp (S0.trans S),fun τ' μ' σ' H' S' fg bo h'=>⟨τ',μ',S.trans S',fg,bo,h'⟩⟩
def VIfs(X:Cx)(bp:List Expr)(t:AT):Prop:=PIfs X bp (cT X.K t)
def Qbk:AT:=λ_ μ R=>R true μ
theorem Cz:VIfs X [] Qbk:=λaa s σ H Q I zz65=>Bu zz65 fun τ μ R hs hc h hq=>To aa s σ H Q I (hq _ _ _ Kp.refl hc h)
theorem Ft{t:AT}(h:VT X a t):VIfs X [a] t:=Tp h
def cl(p:Addr)(g:AG)(tst:AT)(te:AE)(kp:M->Prop)(R:M->Prop):List AV->List AV->ASt->M->Prop
 | []=>λ_ _ μ=>kp μ/\R μ
 | x :: xs=>λacc τ μ=>kp μ/\g x τ μ fun τ1 μ1=>tst τ1 μ1 λk μ2 =>
  brP k (te τ1 μ2 λv μ3=>μ3 p=some (.lst acc)/\acc.length < sizeLine/\cl p g tst te kp R xs (acc++[v]) τ1 (Aj μ3 p (.lst (acc++[v])))) (cl p g tst te kp R xs acc τ1 μ2)
def Pn(mp:List (Option Nat))(wi:AI)(g:AG)(tst:AT)(te:AE):AE:=fun τ μ R=>wi τ μ λxs kp μ1=>∀p,μ1 p=none->cl p g tst te kp (fun μ2=>R (.R p) μ2) xs [] (Qee mp τ) (Aj μ1 p (.lst []))
theorem Qex{p:Addr}{g:AG}{tst:AT}{te:AE}{kp:M->Prop}{R:M->Prop}{xs acc:List AV}{τ:ASt}{μ:M}(h:cl p g tst te kp R xs acc τ μ):kp μ:=by
 cases xs with
 | nil=>exact h.1
 | cons x xs=>exact h.1
theorem Gv{K:PySem.W.Frag}{mp:List (Option Nat)}{wi:AI}{g:AG}{tst:AT}{te:AE}{σ:St}{H:Hp}{Q:VK}(h:cE K (Pn mp wi g tst te) σ H Q):Pd mp (cI K wi) (cG K g) (cT K tst) (cE K te) σ H Q:=by
 obtain⟨τ,μ,R,hs,hc,h,hq⟩:=h
 refine⟨τ,μ,_,hs,hc,h,λxs kp μ0 J H0 S0 c0 it h0=>?_⟩
 intro p hp
 have h0:=h0 p (c0.none hp)
 have c0':Cn K (Aj μ0 p (.lst [])) (upd H0 p (.lst [])):=c0.new hp (Bx (.nil))
 have S0':Kp H0 (upd H0 p (.lst [])):=Kp.new hp _
 refine Wy xs.length (λi acc σ1 H1=>∃ τ1 μ1 as,Kp H0 H1/\Dm K H1 τ1 σ1/\Cn K μ1 H1/\Ao K H1 as acc/\cl p g tst te kp (fun μ2=>R (.R p) μ2) (xs.drop i) as τ1 μ1) ⟨_,_,[],S0',((hs.kp S0).kp S0').sub mp,c0',.nil,h0⟩ ?_ ?_ ?_
 ·rintro i acc σ1 H1 hi ⟨τ1,μ1,as,S1,gx,hc1,ra,h1⟩
  exact it.go i H1 μ1 S1 hc1 (Qex h1) hi
 ·rintro acc σ1 H1 ⟨τ1,μ1,as,S1,gx,hc1,ra,h1⟩
  rw [Ye6]at h1
  exact⟨it.stop H1 μ1 S1 hc1 h1.1,hq _ _ _ _ (S0.trans S1) hc1 Co h1.2⟩
 ·rintro i v acc σ1 H1 H2 hi ⟨τ1,μ1,as,S1,gx,hc1,ra,h1⟩ y
  rw [Ybn hi]at h1
  obtain⟨hk,h1⟩:=h1
  obtain⟨S2,c2,rx⟩:=it.yld i H1 μ1 v H2 _ S1 hc1 hk (List.getElem?_eq_getElem hi) y
  refine⟨_,τ1,μ1,_,rx,gx.kp S2,c2,h1,fun τ3 μ3 σ3 H3 S3 hs3 hc3 h3=>⟨τ3,μ3,_,hs3,hc3,h3,λk μ4 H4 S4 c4 h4=>?_⟩⟩
  rcases br_e h4 with⟨rfl,so⟩ | ⟨rfl,so⟩
  ·rw [Yao rfl]
   refine⟨τ3,μ4,_,hs3.kp S4,c4,so,λw μ5 u H5 S5 c5 rw h5=>?_⟩
   obtain⟨e5,hl,h5⟩:=h5
   obtain⟨o,ho,vs,rfl,rs⟩:=c5 _ _ e5
   have S:Kp H1 H5:=S2.trans (S3.trans (S4.trans S5))
   exact⟨vs,ho,by rw [<- rs.length];exact hl,τ3,_,_,(S1.trans S).trans (Kp.put ho trivial _),(hs3.kp (S4.trans S5)).kp (Kp.put ho trivial _),c5.put ho trivial (Bx (rs.append (.cons rw .nil))),(rs.append (.cons rw .nil)).kp (Kp.put ho trivial _),h5⟩
  ·rw [Yaj Yag]
   have S:Kp H1 H4:=S2.trans (S3.trans S4)
   exact⟨τ3,μ4,as,S1.trans S,hs3.kp S4,c4,ra.kp S,so⟩
variable {N':List Str}{mp:List (Option Nat)}{bz iter:Expr}{bp:List Expr}{scope:Scope}{wi:AI}{g:AG}{tst:AT}{te:AE}
theorem Cu(hc:X.calm=true)(hi:VI X tg iter wi)(hg:∀C s H fp,VG (Be X N' scope C s H fp) tg g)(ht:∀C s H fp,VIfs (Be X N' scope C s H fp) bp tst)(he:∀C s H fp,VE (Be X N' scope C s H fp) bz te)
  (ok:CompOk X.N X.env.scope.names scope.names N' mp) (hk:scope.kind=.function:=by rfl) (hs:∀x,foldedSetIterable iter X.env x=pure x:=by intro _;rfl) :
  VE X (.ListComp bz [⟨tg,iter,bp,0⟩] scope pos) (Pn mp wi g tst te):=(Ww (g:=cG X.K g) (tst:=cT X.K tst) (te:=cE X.K te) hc hi (λC s H fp=>hg C s H fp) (λC s H fp=>ht C s H fp) (λC s H fp=>he C s H fp) ok hk hs).imp λ_ _ _ h=>Gv h
theorem Xa{i:Nat}{y:Str}{py dy:Pos}(hc:X.calm=true)(hN:X.N.Nodup)(df:X.N[i]?=some y)(hy:X.env.scope.names.lookup y=some .local)
  (hi:VI X tg iter wi) (hg:∀C s H fp,VG (Be X N' scope C s H fp) tg g) (ht:∀C s H fp,VIfs (Be X N' scope C s H fp) bp tst) (he:∀C s H fp,VE (Be X N' scope C s H fp) bz te)
  (ok:CompOk X.N X.env.scope.names scope.names N' mp) (ko:swapsWith (.ListComp bz [⟨tg,iter,bp,0⟩] scope pos) (some (.Name y py)) dy.line X.env=pure true:=by rfl)
  (hk:scope.kind=.function:=by rfl) (hs:∀x,foldedSetIterable iter X.env x=pure x:=by intro _;rfl) :
  VS X (.Assign [.Name y py] (.ListComp bz [⟨tg,iter,bp,0⟩] scope pos) dy) (Rr (Pn mp wi g tst te) (C6 i)):=(Wx (g:=cG X.K g) (tst:=cT X.K tst) (te:=cE X.K te) hc hN df hy hi (λC s H fp=>hg C s H fp) (λC s H fp=>ht C s H fp) (λC s H fp=>he C s H fp) ok ko hk hs).imp λD σ H zz66=>Ht zz66 fun τ μ nk nr nb nc hs hc h hq =>
 Gv (K:=X.K) ⟨τ,μ,_,hs,hc,h,λx μ1 v H1 S1 c1 rx hx=>hq.nx _ _ _ _ S1 ((hs.kp S1).set rx i) c1 hx⟩
end
section
variable {P:Program}{w:World}{K:PySem.W.Frag}{mg:Str->Option Value}{base:Heap}
def aNx(R:AV->M->Prop):ASt->M->Prop:=λ_ μ'=>∃ ν,Sub ν μ'/\R (.D .none) ν
def aRt(R:AV->M->Prop):AV->M->Prop:=λv μ'=>∃ ν,Sub ν μ'/\R v ν
def aNo:ASt->M->Prop:=λ_ _=>False
theorem Fun.vok{x qual:Str}{st:Stmt}{f:Addr}{fd:FuncData}{N ps:List Str}{k:Nat}{sp:ASp}(F:Fun K x qual st f fd)(S:FnScope N ps (Af st))
  (fk:∀(bd:Value) (A:Around) (outer:List Env) (s:Shared) (H:Hp) (E:XK),Room k (A.deeper (envOfC qual (Af st) s.heap.objs.size f bd)) ->
   ∃t,VSs (Np Gn P w K mg base N qual (Af st) f bd A outer s H E).nox (A5 st) t/\∀xs μ R,xs.length=ps.length->sp xs μ R->t (aNx R) (aRt R) aNo aNo (Kx N xs) μ):FnOk P w K mg base Gn (k+1) f fd ps (K5 K ps.length sp):=by
 refine F.ok S (λvs H Q E h=>?_) (λbd A outer s H vs Q E hr h=>?_)
 ·obtain⟨xs,μ,R,hl,rs,_⟩:=h
  rw [<- rs.length];exact hl
 ·obtain⟨xs,μ,R,hl,rs,hc,jf,hq⟩:=h
  obtain⟨t,ht,h⟩:=fk bd A outer s H E hr
  refine⟨_,ht,Kx N xs,μ,_,_,_,_,Dm.begin rs,hc,h xs μ R hl jf,⟨fun τ μ' σ H' S' _ c zz67=>Qdj zz67 fun ν hν r=>?_,λv μ' u H' S' c rv zz68=>Qdj zz68 fun ν hν r=>?_,λ_ _ _ _ _ _ _ h=>h.elim,λ_ _ _ _ _ _ _ h=>h.elim⟩⟩
  ·exact hq _ _ _ _ S' (c.sub hν) Ic r
  ·exact hq _ _ _ _ S' (c.sub hν) rv r
end
section
variable {X:Cx}{a b c:Expr}{ta tb tc:AE}{pos:Pos}{tg:Expr}
def Qh5(t:AE):AI:=fun τ μ R=>t τ μ λx μ1=>opt (items μ1 x) λxs=>R xs (fun μ=>items μ x=some xs) μ1
theorem Bc(hl:VE X a ta):VI X tg a (Qh5 ta):=by
 intro aa s σ H R I zz69
 refine Bu zz69 fun τ μ R' hs hc h hq=>?_
 refine thn (hl aa s σ H (λv H1=>∃x μ1 xs,Kp H H1/\Cn X.K μ1 H1/\RelA X.K H1 x v/\items μ1 x=some xs/\R' xs (fun μ=>items μ x=some xs) μ1) I ⟨τ,μ,_,hs,hc,h,λx μ1 v H1 S1 c1 rx hx=>?_⟩) λv s1 qx=>?_
 ·obtain⟨xs,e,hx⟩:=Aw hx
  exact⟨x,μ1,xs,S1,c1,rx,e,hx⟩
 obtain⟨xv,H1,I1,r1,x,μ1,xs,S1,c1,rx,e,hx⟩:=qx
 obtain⟨p,vs,rfl,hp,rs⟩:=B0 c1 rx e
 cases r1
 rcases hp with⟨k,hp⟩ | ⟨k,hp⟩
 ·obtain⟨ae,rv,pl,hz⟩:=I1.list hp
  refine Yd1 pl.isList ?_
  refine⟨s1.heap.objs.size,[s1.heap.objs.size],_,_,H1,rfl,I1.kept (t':=s1.toks) λb o e=>Heap.get?_push_of_some _ e,Ra p _,⟨_,Heap.get?_push_size _ rfl,rfl,rfl⟩,λb hb=>?_,hq _ _ _ _ _ S1 c1 (Rs λH μ S c k2=>?_) hx⟩
  ·have e:b=s1.heap.objs.size:=by simpa using hb
   subst e
   exact I1.fpOk (Yad _) (I1.hok.fresh (Yad _))
  ·obtain⟨q,ws,e,hw,rw⟩:=B0 c (rx.kp S) k2
   cases e
   rcases hw with⟨_,hw⟩ | ⟨k3,_⟩
   ·exact⟨ws,hw,rw⟩
   ·rw [k]at k3;cases k3
 ·obtain⟨ae,rv,pl,hz⟩:=I1.tuple hp
  refine wpAny_pyIter_tuple (show s1.heap.IsTuple p ae.toArray from pl) ?_
  refine⟨s1.heap.objs.size,[s1.heap.objs.size],_,_,H1,rfl,I1.kept (t':=s1.toks) λb o e=>Heap.get?_push_of_some _ e,Nl p _,⟨_,Heap.get?_push_size _ rfl,rfl,rfl⟩,λb hb=>?_,hq _ _ _ _ _ S1 c1 (T6 λH μ S c k2=>?_) hx⟩
  ·have e:b=s1.heap.objs.size:=by simpa using hb
   subst e
   exact I1.fpOk (Yad _) (I1.hok.fresh (Yad _))
  ·obtain⟨q,ws,e,hw,rw⟩:=B0 c (rx.kp S) k2
   cases e
   rcases hw with⟨k3,_⟩ | ⟨_,hw⟩
   ·rw [k]at k3;cases k3
   ·exact⟨ws,hw,rw⟩
end
section
variable {c:AT}{g:AG}{tb:AS}{k:ASt->M->Prop}{r:AV->M->Prop}{bb cc:ASt->M->Prop}{tst:AT}{te:AE}
theorem Xb{τ:ASt}{μ:M}(I:Nat->ASt->M->Prop)(m:Nat)(h0:I m τ μ)
  (step:∀m τ μ (W:ASt->M->Prop),I m τ μ->(∀m' τ' μ',m' < m->I m' τ' μ'->W τ' μ')->c τ μ λx μ1=>brP x (tb W r k W τ μ1) (k τ μ1)):∃n,wl c tb k r n τ μ:=by
 have key:∀n m τ μ,m < n->I m τ μ->wl c tb k r n τ μ:=by
  intro n
  induction n with
  | zero=>intro m τ μ h _;omega
  | succ n ih=>intro m τ μ h hI;exact step m τ μ (wl c tb k r n) hI λm' τ' μ' hm uo=>ih m' τ' μ' (by omega) uo
 exact⟨m+1,key (m+1) m τ μ (Ycl _) h0⟩
theorem Br{t u:AS}{τ:ASt}{μ:M}(J:ASt->M->Prop)(h1:∀W:ASt->M->Prop,(∀ τ' μ',J τ' μ'->W τ' μ')->t W r bb cc τ μ)(h2:∀ τ' μ',J τ' μ'->u k r bb cc τ' μ'):Ny t u k r bb cc τ μ:=h1 (u k r bb cc) h2
theorem Cj{t u:AS}{τ:ASt}{μ:M}(h:t (u k r bb cc) r bb cc τ μ):Ny t u k r bb cc τ μ:=h
theorem Dd{kp:M->Prop}{xs:List AV}{τ:ASt}{μ:M}(I:Nat->ASt->M->Prop)(h0:I 0 τ μ)(hk:∀i τ μ,I i τ μ->kp μ)
  (step:∀i x τ μ (W:ASt->M->Prop),xs[i]?=some x->I i τ μ->(∀ τ' μ',I (i+1) τ' μ'->W τ' μ')->g x τ μ fun τ2 μ2=>tb W r k W τ2 μ2)
  (done:∀ τ μ,I xs.length τ μ->k τ μ):fl g tb k r kp xs τ μ:=by
 have key:∀n i τ μ,n+i=xs.length->I i τ μ->fl g tb k r kp (xs.drop i) τ μ:=by
  intro n
  induction n with
  | zero =>
   intro i τ μ h hI
   have e:i=xs.length:=by omega
   subst e
   rw [Ye6]
   exact⟨hk _ _ _ hI,done τ μ hI⟩
  | succ n ih =>
   intro i τ μ h hI
   have hi:i < xs.length:=by omega
   rw [Ybn hi]
   exact⟨hk _ _ _ hI,step i _ τ μ _ (List.getElem?_eq_getElem hi) hI fun τ' μ' q=>ih (i+1) τ' μ' (by omega) q⟩
 exact key xs.length 0 τ μ rfl h0
theorem Fe{p:Addr}{kp:M->Prop}{R:M->Prop}{xs:List AV}{τ:ASt}{μ:M}(I:Nat->List AV->ASt->M->Prop)(h0:I 0 [] τ μ)(hk:∀i acc τ μ,I i acc τ μ->kp μ)
  (step:∀i x acc τ μ (W:List AV->ASt->M->Prop),xs[i]?=some x->I i acc τ μ->(∀aq τ' μ',I (i+1) aq τ' μ'->W aq τ' μ')->g x τ μ fun τ1 μ1=>tst τ1 μ1 λk μ2 =>
   brP k (te τ1 μ2 λv μ3=>μ3 p=some (.lst acc)/\acc.length < sizeLine/\W (acc++[v]) τ1 (Aj μ3 p (.lst (acc++[v])))) (W acc τ1 μ2))
  (done:∀acc τ μ,I xs.length acc τ μ->R μ):cl p g tst te kp R xs [] τ μ:=by
 have key:∀n i acc τ μ,n+i=xs.length->I i acc τ μ->cl p g tst te kp R (xs.drop i) acc τ μ:=by
  intro n
  induction n with
  | zero =>
   intro i acc τ μ h hI
   have e:i=xs.length:=by omega
   subst e
   rw [Ye6]
   exact⟨hk _ _ _ _ hI,done acc τ μ hI⟩
  | succ n ih =>
   intro i acc τ μ h hI
   have hi:i < xs.length:=by omega
   rw [Ybn hi]
   exact⟨hk _ _ _ _ hI,step i _ acc τ μ (λaq τ' μ'=>cl p g tst te kp R (xs.drop (i+1)) aq τ' μ') (List.getElem?_eq_getElem hi) hI λaq τ' μ' q=>ih (i+1) aq τ' μ' (by omega) q⟩
 exact key xs.length 0 [] τ μ rfl h0
end
theorem Ay(i:Int):D4 (.int i):=⟨rfl,by simp [PyData.depth]⟩
theorem K6(i j:Int):PyData.eqv (.int i) (.int j)=decide (i=j):=by
 rw [PyData.eqv];exact Yfj.mpr (by simp)
theorem ieq{i j:Int}{T F:Prop}(h1:i=j->T)(h2:i≠j->F):D4 (.int i)/\D4 (.int j)/\brP (PyData.eqv (.int i) (.int j)) T F:=by
 refine⟨Ay _,Ay _,?_⟩
 rw [K6]
 exact dif h1 h2
theorem An{μ:M}{p:Addr}{xs:List AV}(h:μ p=some (.lst xs)):items μ (.R p)=some xs:=by
 show(match μ p with | some (.lst xs)=>some xs | _=>none)=_
 rw [h]
def Cb{κ:Type} [DecidableEq κ](ab:List (κ×AV))(k:κ):Option AV:=(ab.find? λkv=>decide (kv.1=k)).map (·.2)
def Eo{κ:Type} [DecidableEq κ](ab:List (κ×AV))(k:κ)(v:AV):List (κ×AV) :=
 if(ab.any λkv=>decide (kv.1=k))=true then ab.map λkv=>if kv.1=k then(kv.1,v) else kv else ab++[(k,v)]
def Ii:List PyData->Option (List Key)
 | []=>some []
 | d :: ds=>match Ma d,Ii ds with
  | some k,some ks=>some (k :: ks)
  | _,_=>none
def Md(ds:List PyData):Option (List Key):=match Lit ds with
 | true=>none
 | false=>Ii ds
theorem K7{ds:List PyData}{ks:List Key}(h:Md ds=some ks):Lit ds=false/\Ii ds=some ks:=by
 unfold Md at h
 cases c:Lit ds with
 | true=>rw [c]at h;cases h
 | false=>rw [c]at h;exact⟨rfl,h⟩
theorem V2.heap{K:PySem.W.Frag}{H:Hp}{a:Addr}{ds:List PyData}{xs:List V}(h:V2 K H a ds xs)(hl:Lit ds=false):H a=some (.tup xs):=by
 rcases h with h | h
 ·exact h
 ·rw [hl]at h;cases h.1
def dget(m:MO)(d:PyData):Option (Option AV):=match m with
 | .dk ab=>(Ma d).map (Cb ab)
 | .dt ab=>match d with
  | .tuple ds=>(Md ds).map (Cb ab)
  | _=>none
 | .lst _=>none
 | .dd _=>none
def dput(m:MO)(d:PyData)(v:AV):Option MO:=match m with
 | .dk ab=>(Ma d).map λk=>.dk (Eo ab k v)
 | .dt ab=>match d with
  | .tuple ds=>(Md ds).map λk=>.dt (Eo ab k v)
  | _=>none
 | .lst _=>none
 | .dd _=>none
def dsize:MO->Nat
 | .dk ab=>ab.length
 | .dt ab=>ab.length
 | .lst xs=>xs.length
 | .dd ab=>ab.length
section
variable {X:Cx}{K:PySem.W.Frag}{H:Hp}
def Po(K:PySem.W.Frag)(H:Hp):Option AV->Option V->Prop
 | some x,some v=>RelA K H x v
 | none,none=>True
 | _,_=>False
theorem D3.val{κ:Type} [DecidableEq κ]{ab:List (κ×AV)}{vs:List (κ×V)}(h:D3 K H ab vs)(k:κ):Po K H (Cb ab k) (Ds vs k):=by
 unfold D3 at h
 induction h with
 | nil=>exact trivial
 | @cons p q l₁ l₂ r t ih =>
  obtain⟨p1,p2⟩:=p
  obtain⟨q1,q2⟩:=q
  obtain⟨e,r⟩:=r
  dsimp only at e
  subst e
  unfold Cb Ds at ih ⊢
  by_cases hk:p1=k
  ·simp only [List.find?_cons,decide_eq_true hk];exact r
  ·simp only [List.find?_cons,decide_eq_false hk];exact ih
theorem D3.put{κ:Type} [DecidableEq κ]{ab:List (κ×AV)}{vs:List (κ×V)}(h:D3 K H ab vs)(k:κ){x:AV}{v:V}(r:RelA K H x v):D3 K H (Eo ab k x) (C7 vs k v):=by
 have hn:(ab.any λkv=>decide (kv.1=k))=(vs.any λkv=>decide (kv.1=k)):=by
  unfold D3 at h
  induction h with
  | nil=>rfl
  | @cons p q l₁ l₂ rr t ih=>rw [Yc6,Yc6,ih,rr.1]
 have hm:D3 K H (ab.map λkv=>if kv.1=k then(kv.1,x) else kv) (vs.map λkv=>if kv.1=k then(kv.1,v) else kv):=by
  clear hn
  unfold D3 at h ⊢
  induction h with
  | nil=>exact .nil
  | @cons p q l₁ l₂ rr t ih =>
   refine .cons ?_ ih
   obtain⟨e,rr⟩:=rr
   dsimp only
   by_cases hk:p.1=k
   ·rw [Yao hk,Yao (e ▸ hk)];exact⟨e,r⟩
   ·rw [Yaj hk,Yaj (e ▸ hk)];exact⟨e,rr⟩
 have ha:D3 K H (ab++[(k,x)]) (vs++[(k,v)]):=by
  clear hn hm
  unfold D3 at h ⊢
  exact Paired.snoc h ⟨rfl,r⟩
 unfold Eo C7
 rw [hn]
 split
 ·exact hm
 ·exact ha
theorem K8{d:PyData}{k:Key}{v:V}(h:Dk K H d v)(e:Ma d=some k):v=kV k:=by
 unfold Ma at e
 split at e
 ·cases e;exact h.int
 ·cases e;exact h.str
 ·cases e
theorem Fu:∀{ds:List PyData} {ks:List Key} {vs:List V},Ai K H ds vs->Ii ds=some ks->vs=ks.map kV
 | [],ks,vs,h,e=>by cases e;exact h.nil
 | d :: ds,ks,vs,h,e=>by
  obtain⟨x,r,rfl,h1,h2⟩:=h.cons
  simp only [Ii]at e
  split at e
  ·rename_i k ks' e1 e2
   cases e
   rw [K8 h1 e1,Fu h2 e2];rfl
  ·cases e
theorem K9{μ:M}{a:Addr}{m:MO}{d:PyData}{v:V}{o:Option AV}(hc:Cn K μ H)(hm:μ a=some m)(hd:Dk K H d v)(e:dget m d=some o):∃r,DGet H a v r/\Po K H o r:=by
 obtain⟨ob,ho,rm⟩:=hc a m hm
 unfold dget at e
 split at e
 ·obtain⟨k,ek,rfl⟩:=Yah.mp e
  obtain⟨vs,rfl,rs⟩:=rm
  rw [K8 hd ek]
  exact⟨_,DGet.k ho,rs.val k⟩
 ·split at e
  ·obtain⟨ks,ek,rfl⟩:=Yah.mp e
   obtain⟨vs,rfl,rs⟩:=rm
   obtain⟨b,xs,rfl,hb,hx⟩:=hd.tup
   obtain⟨e0,ek⟩:=K7 ek
   have hb:=hb.heap e0
   rw [Fu hx ek]at hb
   exact⟨_,DGet.t ho hb,rs.val ks⟩
  ·cases e
 ·cases e
 ·cases e
theorem Xc{μ:M}{a:Addr}{m m':MO}{d:PyData}{v w:V}{x:AV}(hc:Cn K μ H)(hm:μ a=some m)(hd:Dk K H d v)(hx:RelA K H x w)(e:dput m d x=some m')(hs:dsize m < sizeLine):∃H',DPut H a v w H'/\Kp H H'/\Cn K (Aj μ a m') H':=by
 obtain⟨ob,ho,rm⟩:=hc a m hm
 unfold dput at e
 split at e
 ·obtain⟨k,ek,rfl⟩:=Yah.mp e
  obtain⟨vs,rfl,rs⟩:=rm
  rw [K8 hd ek]
  exact⟨_,DPut.k ho (by rw [<- Ycw rs];exact hs),Kp.put ho trivial _,hc.put ho trivial ⟨_,rfl,rs.put k hx⟩⟩
 ·split at e
  ·obtain⟨ks,ek,rfl⟩:=Yah.mp e
   obtain⟨vs,rfl,rs⟩:=rm
   obtain⟨b,xs,rfl,hb,ii⟩:=hd.tup
   obtain⟨e0,ek⟩:=K7 ek
   have hb:=hb.heap e0
   rw [Fu ii ek]at hb
   exact⟨_,DPut.t ho hb (by rw [<- Ycw rs];exact hs),Kp.put ho trivial _,hc.put ho trivial ⟨_,rfl,rs.put ks hx⟩⟩
  ·cases e
 ·cases e
 ·cases e
variable {o i e value:Expr}{pos bt:Pos}{td ty tv tx:AE}
def Qey(td ty:AE):AE:=fun τ μ R=>td τ μ λx μ1=>ty τ μ1 λy μ2=>match x,y with
 | .R a,.D d=>opt (μ2 a) λm=>opt (dget m d) λr=>opt r λv=>R v μ2
 | _,_=>False
theorem C8(hu:X.A.units+1 < cLine)(ho:VE X o td)(hi:VE X i ty)(hs:Qa6 i:=by intro _ _;rfl):VE X (.Subscript o i pos) (Qey td ty):=(Ws hu ho hi hs).imp fun σ H Q zz71=>Bu zz71 fun τ μ R hs hc h hq =>
 ⟨τ,μ,_,hs,hc,h,λx μ1 v H1 S1 c1 rx hx=>⟨τ,μ1,_,hs.kp S1,c1,hx,λy μ2 u H2 S2 c2 ry hy=>by
  split at hy
  ·obtain⟨m,em,hy⟩:=Aw hy
   obtain⟨r,er,hy⟩:=Aw hy
   obtain⟨w,rfl,hy2⟩:=Aw hy
   obtain⟨r',g,ro⟩:=K9 c2 em ry er
   cases r' with
   | none=>exact ro.elim
   | some z=>exact⟨_,z,(rx.kp S2).ref,g,hq _ _ _ _ (S1.trans S2) c2 ro hy2⟩
  ·exact hy.elim⟩⟩
def Qez(nb:Bool->Bool)(ty td:AE):AE:=fun τ μ R=>ty τ μ λy μ1=>td τ μ1 λx μ2=>match x,y with
 | .R a,.D d=>opt (μ2 a) λm=>opt (dget m d) λr=>R (.D (.bool (nb r.isSome))) μ2
 | _,_=>False
theorem Po.some{o:Option AV}{r:Option V}(h:Po K H o r):o.isSome=r.isSome:=by
 cases o <;> cases r <;> first | rfl | exact h.elim
theorem Me{K:PySem.W.Frag}{σ:St}{H:Hp}{Q:VK}(h:cE K (Qez (λb=>!b) ty td) σ H Q):Pb (cE K ty) (cE K td) σ H Q:=by
 obtain⟨τ,μ,R,hs,hc,h,hq⟩:=h
 refine⟨τ,μ,_,hs,hc,h,λy μ1 v H1 S1 c1 ry hx=>⟨τ,μ1,_,hs.kp S1,c1,hx,λx μ2 u H2 S2 c2 rx hy=>?_⟩⟩
 split at hy
 ·obtain⟨m,em,hy⟩:=Aw hy
  obtain⟨r,er,hy⟩:=Aw hy
  obtain⟨r',g,ro⟩:=K9 c2 em (ry.kp S2) er
  refine⟨_,r',rx.ref,g,hq _ _ _ _ (S1.trans S2) c2 ?_ hy⟩
  rw [ro.some];exact Ts
 ·exact hy.elim
theorem Rt(hu:X.A.units+1 < cLine)(hi:VE X i ty)(ho:VE X o td)(h1:behindInMarks .NotIn o=false:=by rfl):VT X (.Compare i [.NotIn] [o] pos) (Ph (Qez (λb=>!b) ty td)):=(Qac (Rk hu hi ho) h1).imp λ_ _ _ h=>Gq (λ_ _ _ q=>Me q) h
def Qe0(td ty tv:AE):AS:=λk _ _ _ τ μ=>tv τ μ λv μ1=>td τ μ1 λx μ2=>ty τ μ2 λy μ3=>match x,y with
 | .R a,.D d=>opt (μ3 a) λm=>opt (dput m d v) λm'=>dsize m < sizeLine/\k τ (Aj μ3 a m')
 | _,_=>False
theorem Fv(hu:X.A.units+1 < cLine)(ho:VE X o td)(hi:VE X i ty)(hv:VE X value tv)(hs:swapsWith value (some (.Subscript o i bt)) pos.line X.env=pure false:=by rfl):VS X (.Assign [.Subscript o i bt] value pos) (Qe0 td ty tv):=(Wt hu ho hi hv hs).imp λD σ H zz72=>Ht zz72 fun τ μ nk nr nb nc hs hc h hq =>
 ⟨τ,μ,_,hs,hc,h,λv μ1 vv H1 S1 c1 rv h1=>⟨τ,μ1,_,hs.kp S1,c1,h1,λx μ2 xv H2 S2 c2 rx h2=>⟨τ,μ2,_,hs.kp (S1.trans S2),c2,h2,λy μ3 yv H3 S3 c3 ry h3=>by
  split at h3
  ·obtain⟨m,em,h3⟩:=Aw h3
   obtain⟨m',em',h3⟩:=Aw h3
   obtain⟨H4,g,S4,c4⟩:=Xc c3 em ry (rv.kp (S2.trans S3)) em' h3.1
   have S:=S1.trans (S2.trans (S3.trans S4))
   exact⟨_,H4,(rx.kp S3).ref,g,hq.nx _ _ _ _ S (hs.kp S) c4 h3.2⟩
  ·exact h3.elim⟩⟩⟩
def Qbl:AE:=λ_ μ R=>∀p,μ p=none->R (.R p) (Aj μ p (.dk []))
def Qbm:AE:=λ_ μ R=>∀p,μ p=none->R (.R p) (Aj μ p (.dt []))
theorem T8{ab:List (Key×AV)}{vs:List (Key×V)}(h:D3 K H ab vs):Kw K H (.dk ab) (.dK vs):=⟨vs,rfl,h⟩
theorem Y8{ab:List (List Key×AV)}{vs:List (List Key×V)}(h:D3 K H ab vs):Kw K H (.dt ab) (.dT vs):=⟨vs,rfl,h⟩
theorem T9:VE X (.Dict [] [] pos) Qbl:=Th.imp fun σ H Q zz73=>Bu zz73 fun τ μ R hs hc h hq=>λp hp=>hq _ _ _ _ (Kp.new hp _) (hc.new hp (T8 .nil)) Co (h p (hc.none hp))
theorem Mf:VE X (.Dict [] [] pos) Qbm:=Ti.imp fun σ H Q zz74=>Bu zz74 fun τ μ R hs hc h hq=>λp hp=>hq _ _ _ _ (Kp.new hp _) (hc.new hp (Y8 .nil)) Co (h p (hc.none hp))
end
end L2
namespace L2
theorem D7{α:Type}{us:List α}{n:Nat}(h:us.length=n+1):∃a t,us=a :: t/\t.length=n:=match us,h with | a :: t,h=>⟨a,t,rfl,Nat.succ.inj h⟩
theorem Xd{α:Type}{us:List α}(h:us.length=1):∃a,us=[a]:=by
 obtain⟨a,t,rfl,h2⟩:=D7 h
 rw [Yct h2];exact⟨a,rfl⟩
theorem Qgt{α:Type}{us:List α}(h:us.length=2):∃a b,us=[a,b]:=by
 obtain⟨a,t,rfl,h2⟩:=D7 h
 obtain⟨b,rfl⟩:=Xd h2
 exact⟨a,b,rfl⟩
open PySem PySem.Spec PySem.Calls PyProof.Rows
abbrev AX:=Addr->List (Str×PyData)->M->Prop
section
variable {K:PySem.W.Frag}{H H':Hp}
end
section
variable {X:Cx}{aa:List (Addr×Obj)}{σ:St}{H:Hp}{s:Shared}
end
section
variable {X:Cx}{x:Str}{p pos bt:Pos}{e:Expr}{es:List Expr}{t:AA}{k:Nat}{C:Addr}{fns:List Str}{EX:AX}
end
abbrev Qh6:=List AV->M->(AV->M->Prop)->AX->Prop
section
variable {X:Cx}{x:Str}{p pos:Pos}{e:Expr}{es:List Expr}{t:AA}{k:Nat}{ps:List Str}{sp:Qh6}{EX:AX}
end
section
variable {P:Program}{w:World}{K:PySem.W.Frag}{mg:Str->Option Value}{base:Heap}
end
section
variable {X:Cx}{aa:List (Addr×Obj)}{σ:St}{H:Hp}{s:Shared}{st:Stmt}{rest:List Stmt}{t s1 s2:AS}
end
section
variable {X:Cx}{a:Expr}{ta:AE}{pos p p2:Pos}{x:Str}
end
end L2
namespace L2
open PySem PySem.Spec PyProof.Rows
section
variable {X:Cx}{a:Expr}{ta:AE}{pos p:Pos}
end
theorem Nz{ab:List (Key×V)}{k:Key}{v:V}(h:k∉ab.map (·.1)):C7 ab k v=ab++[(k,v)]:=by
 unfold C7
 rw [Yaj]
 intro q
 rw [Ydo]at q
 obtain⟨x,hx,e⟩:=q
 exact h (Yaf.mpr ⟨x,hx,Yay e⟩)
theorem Fw:∀(more ab:List (Key×V)),((ab++more).map (·.1)).Nodup->Fa ab more=ab++more
 | [],ab,_=>by rw [Ycp];rfl
 | (k,v) :: more,ab,h=>by
  show Fa (C7 ab k v) more=_
  have hk:k∉ab.map (·.1):=λz=>by
   rw [Yaw,Yd2]at h
   exact h.2.2 k z k (by simp) rfl
  rw [Nz hk,Fw more,Yca]
  ·rfl
  ·rw [Yca];exact h
def vPs:List AE->ASt->M->(List AV->M->Prop)->Prop
 | [],_,μ,R=>R [] μ
 | t :: ts,τ,μ,R=>t τ μ λx μ1=>vPs ts τ μ1 λxs μ2=>R (x :: xs) μ2
def Y9(K:PySem.W.Frag)(ks:List Key)(ts:List AE):List (TE×TE):=(ks.zip ts).map λp=>(tC (kV p.1),cE K p.2)
theorem Mg{K:PySem.W.Frag}:∀{ks:List Key} {ts:List AE} {τ:ASt} {μ:M} {R:List AV->M->Prop} {σ:St} {H:Hp} {Q:List (V×V)->Hp->Prop},ks.length=ts.length->Dm K H τ σ->Cn K μ H->vPs ts τ μ R ->
  (∀xs μ' vs H',Kp H H'->Cn K μ' H'->Ao K H' xs vs->xs.length=ts.length->R xs μ'->Q ((ks.zip vs).map λkv=>(kV kv.1,kv.2)) H')->Kq (Y9 K ks ts) σ H Q
 | [],[],τ,μ,R,σ,H,Q,_,hs,hc,h,q=>q [] μ [] H Kp.refl hc .nil rfl h
 | k :: ks,t :: ts,τ,μ,R,σ,H,Q,hl,hs,hc,h,q =>
  ⟨τ,μ,_,hs,hc,h,λx μ1 v H1 S1 c1 rx hx=>Mg (ks:=ks) (ts:=ts) (by simpa using hl) (hs.kp S1) c1 hx λxs μ2 vs H2 S2 c2 rs hn hr=>q (x :: xs) μ2 (v :: vs) H2 (S1.trans S2) c2 (.cons (rx.kp S2) rs) (by simp [hn]) hr⟩
def VPs(X:Cx)(pos:Pos)(bi:List (Option Expr))(ax:List Expr)(ks:List Key)(ts:List AE):Prop:=PPs X pos bi ax (Y9 X.K ks ts)
def Qe1(ks:List Key)(ts:List AE):AE:=fun τ μ R=>∀p,μ p=none->vPs ts τ (Aj μ p (.dk [])) λxs μ1=>μ1 p=some (.dk [])/\R (.R p) (Aj μ1 p (.dk (ks.zip xs)))
section
variable {X:Cx}{pos:Pos}{bi:List (Option Expr)}{ax:List Expr}{ks:List Key}{ts:List AE}
theorem Xe:VPs X pos [] [] [] []:=Wu
theorem La{z:Str}{j}{p:Pos}{v:Expr}{t:AE}(hv:VE X v t)(hr:VPs X pos bi ax ks ts):VPs X pos (some (.Constant (.str z) j p) :: bi) (v :: ax) (.inr z :: ks) (t :: ts):=Tj (tk:=tC (kV (.inr z))) So hv hr
theorem Ao.zipK{K:PySem.W.Frag}{H:Hp}:∀(ks:List Key) {xs:List AV} {vs:List V},Ao K H xs vs->D3 K H (ks.zip xs) (ks.zip vs)
 | [],_,_,_=>.nil
 | _ :: _,_,_,.nil=>.nil
 | _ :: ks,_,_,.cons r t=>.cons ⟨rfl,r⟩ (Ao.zipK ks t)
theorem Xf(h:VPs X pos bi ax ks ts)(hk:ks.Nodup)(ga:ks.length=ts.length:=by rfl)(zad:ks.length<=15:=by decide)(fc:bi.all (·.isSome)=true:=by rfl)(hl:bi.length=ax.length:=by rfl)(h0:bi≠[]:=by intro z;cases z)(uj:bi.length<=15:=by decide):VE X (.Dict bi ax pos) (Qe1 ks ts) :=
 (Wv h fc hl h0 uj).imp fun σ H Q zz92=>Bu zz92 fun τ μ R hs hc h hq=>by
  intro p hp
  refine Mg ga (hs.kp (Kp.new hp _)) (hc.new hp (T8 .nil)) (h p (hc.none hp)) λxs μ1 vs H1 S1 c1 rs hn hx=>?_
  obtain⟨o,ho,ws,rfl,rk⟩:=c1 _ _ hx.1
  cases rk
  have lc:ks.length=vs.length:=by rw [<- rs.length,hn];exact ga
  refine⟨ho,ks.zip vs,rfl,by rw [List.length_zip];omega,?_⟩
  rw [Fw _ _ (by rw [List.nil_append,List.map_fst_zip (by omega)];exact hk),List.nil_append]
  exact hq _ _ _ _ ((Kp.new hp _).trans (S1.trans (Kp.put ho trivial _))) (c1.put ho trivial (T8 (rs.zipK ks))) Co hx.2
end
theorem Cv{κ:Type} [DecidableEq κ]{k:κ}{v:AV}{r:List (κ×AV)}:Cb ((k,v) :: r) k=some v:=by
 unfold Cb
 simp only [List.find?_cons,decide_eq_true (rfl:k=k)];rfl
theorem Cc{κ:Type} [DecidableEq κ]{k k':κ}{v:AV}{r:List (κ×AV)}(h:k'≠k):Cb ((k',v) :: r) k=Cb r k:=by
 unfold Cb
 simp only [List.find?_cons,decide_eq_false h]
theorem Ru{μ:M}{p:Addr}{m:MO}(h:μ p=some m):Aj μ p m=μ:=by
 funext b
 unfold Aj
 split
 ·rename_i e;rw [e,h]
 ·rfl
theorem cmapf{α:Type}{p:Addr}{g:AG}{tst:AT}{te:AE}{kp:M->Prop}{R:M->Prop}{τ:ASt}{μ:M}(as:List α)(g0:α->AV)(b:α->Bool)(f:α->AV)(Sh:ASt->Prop)(h0:Sh τ)(hp:μ p=some (.lst []))(hn:as.length<=sizeLine)(hk:∀acc,kp (Aj μ p (.lst acc)))
  (step:∀(i:Nat) (x:α) (τ':ASt) (acc:List AV) (W:ASt->AV->M->Prop) (W2:ASt->M->Prop),as[i]?=some x->Sh τ'->(b x=true->∀ τ1,Sh τ1->W τ1 (f x) (Aj μ p (.lst acc)))->(b x=false->∀ τ1,Sh τ1->W2 τ1 (Aj μ p (.lst acc))) ->
   g (g0 x) τ' (Aj μ p (.lst acc)) fun τ1 μ1=>tst τ1 μ1 λk μ2=>brP k (te τ1 μ2 (W τ1)) (W2 τ1 μ2))
  (done:R (Aj μ p (.lst ((as.filter b).map f)))):cl p g tst te kp R (as.map g0) [] τ μ:=by
 refine Fe (λi acc τ' μ'=>Sh τ'/\acc=((as.take i).filter b).map f/\μ'=Aj μ p (.lst acc)) ⟨h0,by simp,(Ru hp).symm⟩ (λi acc τ μ' ⟨_,_,e⟩=>by rw [e];exact hk _) ?_ ?_
 ·rintro i y acc τ' μ' W hy ⟨sh,rfl,rfl⟩ hW
  rw [List.getElem?_map]at hy
  obtain⟨x,hx,rfl⟩:=Yah.mp hy
  have hi:i < as.length:=(List.getElem?_eq_some_iff.mp hx).1
  have ht:as.take (i+1)=as.take i++[x]:=by rw [Ybi,hx];rfl
  refine step i x τ' _ (fun τ1 v μ3=>μ3 p=some (.lst (((as.take i).filter b).map f))/\(((as.take i).filter b).map f).length < sizeLine/\W ((((as.take i).filter b).map f)++[v]) τ1 (Aj μ3 p (.lst ((((as.take i).filter b).map f)++[v])))) (fun τ1 μ2=>W (((as.take i).filter b).map f) τ1 μ2) hx sh (λhb τ1 s1=>⟨Ab,?_,hW _ _ _ ⟨s1,?_,Cp⟩⟩) (λhb τ1 s1=>hW _ _ _ ⟨s1,?_,rfl⟩)
  ·rw [Yab]
   have h1:=Yc7 b (as.take i)
   rw [Ybl]at h1
   omega
  ·rw [ht,List.filter_append,Yaw,Ye7,Yao hb];rfl
  ·rw [ht,List.filter_append,Yaw,Ye7,Yaj (by rw [hb];exact Yag)];simp
 ·rintro acc τ' μ' ⟨_,rfl,rfl⟩
  rw [Yab,Ybh]
  exact done
theorem cmap{α:Type}{p:Addr}{g:AG}{te:AE}{kp:M->Prop}{R:M->Prop}{τ:ASt}{μ:M}(as:List α)(g0 f:α->AV)(Sh:ASt->Prop)(h0:Sh τ)(hp:μ p=some (.lst []))(hn:as.length<=sizeLine)(hk:∀acc,kp (Aj μ p (.lst acc)))
  (step:∀(i:Nat) (x:α) (τ':ASt) (acc:List AV) (W:ASt->AV->M->Prop),as[i]?=some x->Sh τ'->(∀ τ1,Sh τ1->W τ1 (f x) (Aj μ p (.lst acc)))->g (g0 x) τ' (Aj μ p (.lst acc)) fun τ1 μ1=>te τ1 μ1 (W τ1))
  (done:R (Aj μ p (.lst (as.map f)))):cl p g Qbk te kp R (as.map g0) [] τ μ:=by
 refine cmapf as g0 (λ_=>true) f Sh h0 hp hn hk (λi x τ' acc W W2 hx sh h1 _=>?_) (by rw [List.filter_eq_self.mpr (λ_ _=>rfl)];exact done)
 have:=step i x τ' acc W hx sh (h1 rfl)
 simp only [Qbk,Tv]
 exact this
section
variable {X:Cx}{K:PySem.W.Frag}{a:Expr}{ta:AE}{pos p p2:Pos}{x:Str}
end
def rk:PyData->Nat
 | .none=>0 | .bool _=>1 | .int _=>2 | .str _=>3 | .list _=>4 | .tuple _=>5 | .dict _=>6
def Fx(a b:Str):Bool:=decide (a.cps.toList < b.cps.toList)
mutual
def D8:PyData->PyData->Bool
 | .int a,.int b=>decide (a < b)
 | .str a,.str b=>Fx a b
 | .tuple xs,.tuple ys=>Cq xs ys
 | x,y=>decide (rk x < rk y)
def Cq:List PyData->List PyData->Bool
 | [],[]=>false
 | [],_ :: _=>true
 | _ :: _,[]=>false
 | x :: xs,y :: ys=>if PyData.eqv x y then Cq xs ys else D8 x y
end
mutual
theorem Gw:∀(x y:PyData),Cano x=true->Cano y=true->PyData.eqv x y=true->x=y
 | .int a,.int b,_,_,h=>by simp [PyData.eqv]at h;rw [h]
 | .str a,.str b,_,_,h=>by simp [PyData.eqv]at h;rw [h]
 | .tuple xs,.tuple ys,h1,h2,h=>by
  simp only [Cano]at h1 h2
  rw [PyData.eqv]at h
  rw [Pp xs ys h1 h2 h]
 | .int _,.str _,_,_,h=>by simp [PyData.eqv]at h
 | .int _,.tuple _,_,_,h=>by simp [PyData.eqv]at h
 | .str _,.int _,_,_,h=>by simp [PyData.eqv]at h
 | .str _,.tuple _,_,_,h=>by simp [PyData.eqv]at h
 | .tuple _,.int _,_,_,h=>by simp [PyData.eqv]at h
 | .tuple _,.str _,_,_,h=>by simp [PyData.eqv]at h
 | .none,_,h,_,_=>by simp [Cano]at h
 | .bool _,_,h,_,_=>by simp [Cano]at h
 | .list _,_,h,_,_=>by simp [Cano]at h
 | .dict _,_,h,_,_=>by simp [Cano]at h
 | .int _,.none,_,h,_=>by simp [Cano]at h
 | .int _,.bool _,_,h,_=>by simp [Cano]at h
 | .int _,.list _,_,h,_=>by simp [Cano]at h
 | .int _,.dict _,_,h,_=>by simp [Cano]at h
 | .str _,.none,_,h,_=>by simp [Cano]at h
 | .str _,.bool _,_,h,_=>by simp [Cano]at h
 | .str _,.list _,_,h,_=>by simp [Cano]at h
 | .str _,.dict _,_,h,_=>by simp [Cano]at h
 | .tuple _,.none,_,h,_=>by simp [Cano]at h
 | .tuple _,.bool _,_,h,_=>by simp [Cano]at h
 | .tuple _,.list _,_,h,_=>by simp [Cano]at h
 | .tuple _,.dict _,_,h,_=>by simp [Cano]at h
theorem Pp:∀(xs ys:List PyData),Ak xs=true->Ak ys=true->PyData.eqvAll xs ys=true->xs=ys
 | [],[],_,_,_=>rfl
 | [],_ :: _,_,_,h=>by simp [PyData.eqvAll]at h
 | _ :: _,[],_,_,h=>by simp [PyData.eqvAll]at h
 | x :: xs,y :: ys,h1,h2,h=>by
  simp only [Ak,Bool.and_eq_true]at h1 h2
  rw [PyData.eqvAll,Ya7]at h
  rw [Gw x y h1.1 h2.1 h.1,Pp xs ys h1.2 h2.2 h.2]
end
mutual
theorem Fy:∀(x:PyData),Cano x=true->PyData.eqv x x=true
 | .int a,_=>by simp [PyData.eqv]
 | .str a,_=>by simp [PyData.eqv]
 | .tuple xs,h=>by rw [PyData.eqv];exact J2 xs (by simpa only [Cano] using h)
 | .none,h=>by simp [Cano]at h
 | .bool _,h=>by simp [Cano]at h
 | .list _,h=>by simp [Cano]at h
 | .dict _,h=>by simp [Cano]at h
theorem J2:∀(xs:List PyData),Ak xs=true->PyData.eqvAll xs xs=true
 | [],_=>rfl
 | x :: xs,h=>by
  simp only [Ak,Bool.and_eq_true]at h
  rw [PyData.eqvAll,Fy x h.1,J2 xs h.2];rfl
end
theorem N0{x y:PyData}(hx:Cano x=true)(hy:Cano y=true):PyData.eqv x y=false↔x≠y:=by
 constructor
 ·rintro h rfl
  rw [Fy x hx]at h;cases h
 ·intro h
  cases e:PyData.eqv x y with
  | false=>rfl
  | true=>exact absurd (Gw x y hx hy e) h
theorem cano_cases{x:PyData}(h:Cano x=true):(∃i,x=.int i)\/(∃z,x=.str z)\/∃xs,x=.tuple xs/\Ak xs=true:=by
 cases x with
 | int i=>exact .inl ⟨i,rfl⟩
 | str z=>exact .inr (.inl ⟨z,rfl⟩)
 | tuple xs=>exact .inr (.inr ⟨xs,rfl,by simpa only [Cano] using h⟩)
 | none=>simp [Cano]at h
 | bool _=>simp [Cano]at h
 | list _=>simp [Cano]at h
 | dict _=>simp [Cano]at h
theorem Ua{a b c:Str}(h1:Fx a b=true)(h2:Fx b c=true):Fx a c=true:=by
 unfold Fx at *
 exact Ybg (List.lt_trans (Yay h1) (Yay h2))
theorem Xg{a b:Str}(h:a.cps.toList=b.cps.toList):a=b:=by
 cases a;cases b
 simp only [Array.toList_inj]at h
 rw [h]
theorem Rv{a b:Str}(h:a≠b)(h1:Fx a b=false):Fx b a=true:=by
 unfold Fx at *
 have h1:=of_decide_eq_false h1
 refine Ybg ?_
 rcases Decidable.em (b.cps.toList < a.cps.toList) with z | z
 ·exact z
 ·exact absurd (Xg (List.le_antisymm (List.not_lt.mp z) (List.not_lt.mp h1))) h
mutual
theorem Lb:∀(x y z:PyData),Cano x=true->Cano y=true->Cano z=true->D8 x y=true->D8 y z=true->D8 x z=true
 | .int a,y,z,_,hy,hz,h1,h2=>by
  rcases cano_cases hy with⟨b,rfl⟩ | ⟨b,rfl⟩ | ⟨ys,rfl,_⟩ <;> rcases cano_cases hz with⟨c,rfl⟩ | ⟨c,rfl⟩ | ⟨zs,rfl,_⟩ <;> simp [D8,rk]at h1 h2 ⊢
  omega
 | .str a,y,z,_,hy,hz,h1,h2=>by
  rcases cano_cases hy with⟨b,rfl⟩ | ⟨b,rfl⟩ | ⟨ys,rfl,_⟩ <;> rcases cano_cases hz with⟨c,rfl⟩ | ⟨c,rfl⟩ | ⟨zs,rfl,_⟩ <;> simp [D8,rk]at h1 h2 ⊢
  exact Ua h1 h2
 | .tuple xs,y,z,hx,hy,hz,h1,h2=>by
  rcases cano_cases hy with⟨b,rfl⟩ | ⟨b,rfl⟩ | ⟨ys,rfl,ky⟩ <;> rcases cano_cases hz with⟨c,rfl⟩ | ⟨c,rfl⟩ | ⟨zs,rfl,kz⟩ <;> simp [D8,rk]at h1 h2 ⊢
  exact Ps xs ys zs (by simpa only [Cano] using hx) ky kz h1 h2
 | .none,_,_,h,_,_,_,_=>by simp [Cano]at h
 | .bool _,_,_,h,_,_,_,_=>by simp [Cano]at h
 | .list _,_,_,h,_,_,_,_=>by simp [Cano]at h
 | .dict _,_,_,h,_,_,_,_=>by simp [Cano]at h
theorem Ps:∀(xs ys zs:List PyData),Ak xs=true->Ak ys=true->Ak zs=true->Cq xs ys=true->Cq ys zs=true->Cq xs zs=true
 | [],[],_,_,_,_,h1,_=>by simp [Cq]at h1
 | [],_ :: _,[],_,_,_,_,h2=>by simp [Cq]at h2
 | [],_ :: _,_ :: _,_,_,_,_,_=>by simp [Cq]
 | _ :: _,[],_,_,_,_,h1,_=>by simp [Cq]at h1
 | _ :: _,_ :: _,[],_,_,_,_,h2=>by simp [Cq]at h2
 | x :: xs,y :: ys,z :: zs,hx,hy,hz,h1,h2=>by
  simp only [Ak,Bool.and_eq_true]at hx hy hz
  simp only [Cq]at h1 h2 ⊢
  cases e1:PyData.eqv x y with
  | true =>
   have e:=Gw x y hx.1 hy.1 e1
   subst e
   rw [e1]at h1
   cases e2:PyData.eqv x z with
   | true =>
    rw [e2]at h2
    exact Ps xs ys zs hx.2 hy.2 hz.2 h1 h2
   | false=>rw [e2]at h2;exact h2
  | false =>
   rw [e1]at h1
   cases e2:PyData.eqv y z with
   | true =>
    have e:=Gw y z hy.1 hz.1 e2
    subst e
    rw [e1];exact h1
   | false =>
    rw [e2]at h2
    have h3:=Lb x y z hx.1 hy.1 hz.1 h1 h2
    cases e3:PyData.eqv x z with
    | false=>exact h3
    | true =>
     have e:=Gw x z hx.1 hz.1 e3
     subst e
     exact absurd h3 (by rw [Ec x hx.1];exact Yag)
theorem Ec:∀(x:PyData),Cano x=true->D8 x x=false
 | .int a,_=>by simp [D8]
 | .str a,_=>by simp [D8,Fx,List.lt_irrefl]
 | .tuple xs,h=>by simp only [D8];exact Mh xs (by simpa only [Cano] using h)
 | .none,h=>by simp [Cano]at h
 | .bool _,h=>by simp [Cano]at h
 | .list _,h=>by simp [Cano]at h
 | .dict _,h=>by simp [Cano]at h
theorem Mh:∀(xs:List PyData),Ak xs=true->Cq xs xs=false
 | [],_=>by simp [Cq]
 | x :: xs,h=>by
  simp only [Ak,Bool.and_eq_true]at h
  simp only [Cq,Fy x h.1,if_true]
  exact Mh xs h.2
end
mutual
theorem Lc:∀(x y:PyData),Cano x=true->Cano y=true->x≠y->D8 x y=false->D8 y x=true
 | .int a,y,_,hy,hn,h=>by
  rcases cano_cases hy with⟨b,rfl⟩ | ⟨b,rfl⟩ | ⟨ys,rfl,_⟩ <;> simp [D8,rk]at h ⊢
  have:a≠b:=λz=>hn (by rw [z])
  omega
 | .str a,y,_,hy,hn,h=>by
  rcases cano_cases hy with⟨b,rfl⟩ | ⟨b,rfl⟩ | ⟨ys,rfl,_⟩ <;> simp [D8,rk]at h ⊢
  exact Rv (λz=>hn (by rw [z])) h
 | .tuple xs,y,hx,hy,hn,h=>by
  rcases cano_cases hy with⟨b,rfl⟩ | ⟨b,rfl⟩ | ⟨ys,rfl,ky⟩ <;> simp [D8,rk]at h ⊢
  exact Mi xs ys (by simpa only [Cano] using hx) ky (λz=>hn (by rw [z])) h
 | .none,_,h,_,_,_=>by simp [Cano]at h
 | .bool _,_,h,_,_,_=>by simp [Cano]at h
 | .list _,_,h,_,_,_=>by simp [Cano]at h
 | .dict _,_,h,_,_,_=>by simp [Cano]at h
theorem Mi:∀(xs ys:List PyData),Ak xs=true->Ak ys=true->xs≠ys->Cq xs ys=false->Cq ys xs=true
 | [],[],_,_,hn,_=>absurd rfl hn
 | [],_ :: _,_,_,_,h=>by simp [Cq]at h
 | _ :: _,[],_,_,_,_=>by simp [Cq]
 | x :: xs,y :: ys,hx,hy,hn,h=>by
  simp only [Ak,Bool.and_eq_true]at hx hy
  simp only [Cq]at h ⊢
  cases e:PyData.eqv x y with
  | true =>
   have e':=Gw x y hx.1 hy.1 e
   subst e'
   rw [e]at h ⊢
   exact Mi xs ys hx.2 hy.2 (λz=>hn (by rw [z])) h
  | false =>
   rw [e]at h
   have am:=(N0 hx.1 hy.1).mp e
   rw [(N0 hy.1 hx.1).mpr (Yc3 am)]
   exact Lc x y hx.1 hy.1 am h
end
end L2
namespace L2
open PySem PySem.W PyProof.Rows
section
variable {n:Nat}{lt:Nat->Nat->Bool}
structure StrictOrd(n:Nat)(lt:Nat->Nat->Bool):Prop where
 tr:∀a b c,a < n->b < n->c < n->lt a b=true->lt b c=true->lt a c=true
 tot:∀a b,a < n->b < n->a≠b->lt a b=false->lt b a=true
 irr:∀a,a < n->lt a a=false
structure Pm(n:Nat)(p:Array Nat):Prop where
 size:p.size=n
 lt:∀i,i < n->p.getD i 0 < n
 inj:∀i j,i < n->j < n->i≠j->p.getD i 0≠p.getD j 0
 perm:p.toList.Perm (List.range n)
theorem Za{p:Array Nat}(h:p.toList.Perm (List.range n)):Pm n p:=by
 have hs:p.size=n:=by
  have:=h.length_eq
  simpa using this
 have hg:∀i,(hi:i < n)->p.getD i 0=p[i]'(by omega):=λi hi=>by simp [Array.getD,show i < p.size by omega]
 refine⟨hs,λi hi=>?_,λi j hi hj cj e=>?_,h⟩
 ·rw [hg i hi]
  have:p[i]'(by omega)∈p.toList:=by simp
  exact Ya3.mp (h.mem_iff.mp this)
 ·rw [hg i hi,hg j hj]at e
  have nd:p.toList.Nodup:=h.nodup_iff.mpr Ye8
  have e1:p.toList[i]?=p.toList[j]?:=by
   rw [Array.getElem?_toList,Array.getElem?_toList,Array.getElem?_eq_getElem (by omega),Array.getElem?_eq_getElem (by omega),e]
  exact cj ((List.getElem?_inj (by simpa using (by omega:i < p.size)) nd).mp e1)
def Up(lt:Nat->Nat->Bool)(p:Array Nat)(k:Nat):Prop:=∀i j,i < j->j < k->lt (p.getD i 0) (p.getD j 0)=true
variable {p:Array Nat}{s:Shared}
end
section
variable {n:Nat}{lt:Nat->Nat->Bool}
structure WeakOrd(n:Nat)(lt:Nat->Nat->Bool):Prop where
 tr:∀a b c,a < n->b < n->c < n->lt b a=false->lt c b=false->lt c a=false
 asy:∀a b,a < n->b < n->lt a b=true->lt b a=false
theorem WeakOrd.irr{a:Nat}(O:WeakOrd n lt)(ha:a < n):lt a a=false:=by
 cases c:lt a a with
 | false=>rfl
 | true=>have:=O.asy a a ha ha c;rw [c]at this;cases this
theorem WeakOrd.low{a b c:Nat}(O:WeakOrd n lt)(ha:a < n)(hb:b < n)(hc:c < n)(h1:lt a b=true)(h2:lt c b=false):lt a c=true:=by
 cases e:lt a c with
 | true=>rfl
 | false=>rw [O.tr b c a hb hc ha h2 e]at h1;cases h1
theorem WeakOrd.high{a b c:Nat}(O:WeakOrd n lt)(ha:a < n)(hb:b < n)(hc:c < n)(h1:lt b a=false)(h2:lt b c=true):lt a c=true:=by
 cases e:lt a c with
 | true=>rfl
 | false=>rw [O.tr c a b hc ha hb e h1]at h2;cases h2
def UpW(lt:Nat->Nat->Bool)(p:Array Nat)(k:Nat):Prop:=∀i j,i < j->j < k->lt (p.getD j 0) (p.getD i 0)=false
variable {p:Array Nat}{s:Shared}
end
def gallop':Bool->Keyed->Array Keyed->Nat->Nat->Nat->StateT SortSt Sem (Option Nat):=sortPriv% PySem.Builtin.gallop
def setMinGallop':Nat->StateT SortSt Sem Unit:=sortPriv% PySem.Builtin.setMinGallop
theorem N1(left:Bool)(key:Keyed)(kj:Array Keyed)(base n hint:Nat):gallop' left key kj base n hint=(do
 let fh (i:Nat):StateT SortSt Sem (Option Bool):=do
  let x <- elem' kj (base+i)
  if left then lt' x key else return (<- lt' key x).map (!·)
 let mut lastofs:=0
 let mut ofs:=1
 let mut lo:=0
 let mut hi:=0
 let some right <- fh hint | return none
 if right then
  let dj:=n - hint
  for _ in [0:n] do
   if ofs>=dj then break
   let some more <- fh (hint+ofs) | return none
   if !more then break
   lastofs:=ofs
   ofs:=2 * ofs+1
  lo:=hint+lastofs+1
  hi:=hint+min ofs dj
 else
  let dj:=hint+1
  for _ in [0:n] do
   if ofs>=dj then break
   let some found <- fh (hint - ofs) | return none
   if found then break
   lastofs:=ofs
   ofs:=2 * ofs+1
  lo:=hint+1 - min ofs dj
  hi:=hint - lastofs
 for _ in [0:n] do
  if lo>=hi then break
  let m:=lo+(hi - lo) / 2
  let some more <- fh m | return none
  if more then lo:=m+1 else hi:=m
 return some hi):=rfl
section
variable {prog:Program}{w:World}{A:Around}{E:Value->Shared->Prop}{s:Shared}{κ:SortKind}{it:Array Keyed}{n:Nat}{lt:Nat->Nat->Bool}
def Cmp(prog:Program)(w:World)(A:Around)(κ:SortKind)(it:Array Keyed)(n:Nat)(lt:Nat->Nat->Bool)(s:Shared):Prop :=
 ∀(i j:Nat) (C:Bool->Shared->Prop),i < n->j < n->C (lt i j) s->kas_cmp prog w A κ it i j C s
theorem Ub(hc:Cmp prog w A κ it n lt s){st:SortSt}(hk:kindOf st=κ){i j:Nat}(hi:i < n)(hj:j < n){Q:Option Bool->SortSt->Prop}(h:Q (some (lt i j)) st):wpS (model prog w) A E s (lt' (kas_item it i) (kas_item it j)) Q st:=by
 rw [lt'_eq]
 refine Yam (Yfk ?_)
 rw [hk]
 refine Yam (wpS_lift (Yfd (Yb1 (hc i j (λc s'=>s'=s/\c=lt i j) hi hj ⟨rfl,rfl⟩) (λc s' bo=>?_) λ_ _ hF=>hF.elim)))
 obtain⟨rfl,rfl⟩:=bo
 exact⟨rfl,Yat h⟩
theorem Bd{st:SortSt}{p:Array Nat}{i:Nat}(hi:i < p.size){Q:Keyed->SortSt->Prop}(h:Q (kas_item it (p.getD i 0)) st):wpS (model prog w) A E s (elem' (p.map (kas_item it)) i) Q st:=by
 rw [elem'_eq]
 have e:(p.map (kas_item it))[i]?=some (kas_item it (p.getD i 0)):=by
  rw [Array.getElem?_map,Array.getElem?_eq_getElem hi]
  simp [Array.getD,hi]
 rw [e]
 exact Yat h
structure Step(f:Nat->Bool)(n k:Nat):Prop where
 le:k<=n
 yes:∀i,i < k->f i=true
 no:∀i,k<=i->i < n->f i=false
def byd(left:Bool)(key:Keyed)(kj:Array Keyed)(base i:Nat):StateT SortSt Sem (Option Bool):=do
 let x <- elem' kj (base+i)
 if left then lt' x key else return (<- lt' key x).map (!·)
theorem Mj{left:Bool}{key:Keyed}{kj:Array Keyed}{base m hint:Nat}{f:Nat->Bool}{st:SortSt}(hm:hint < m)
  (hf:∀i Q,i < m->Q (some (f i)) st->wpS (model prog w) A E s (byd left key kj base i) Q st)
  (mono:∀i j,i<=j->j < m->f j=true->f i=true) {Q:Option Nat->SortSt->Prop} (h:∀k,Step f m k->Q (some k) st):wpS (model prog w) A E s (gallop' left key kj base m hint) Q st:=by
 rw [N1]
 dsimp only
 have gs:∀i j,i<=j->j < m->f i=false->f j=false:=λi j cj hj e=>by
  cases c:f j with
  | false=>rfl
  | true=>rw [mono i j cj hj c]at e;cases e
 refine Yam (hf hint _ hm ?_)
 dsimp only
 cases e0:f hint with
 | true =>
  rw [Yao rfl]
  refine Yam (Ycm (Yb0 (I:=λx c ag=>ag=st/\∃la ofs,c=(none,la,ofs)/\la < ofs/\la < m - hint/\x+1<=ofs/\f (hint+la)=true) (Q:=λc ag=>ag=st/\∃la ofs,c=(none,la,ofs)/\la < ofs/\la < m - hint/\f (hint+la)=true/\(ofs < m - hint->f (hint+ofs)=false)) ?_ ?_ ⟨rfl,0,1,rfl,by omega,by omega,by omega,e0⟩) ?_)
  ·rintro x c ag _ hx ⟨rfl,la,ofs,rfl,h1,h2,h3,h4⟩
   dsimp only
   by_cases c:ofs>=m - hint
   ·rw [Yao c]
    exact Yat ⟨rfl,la,ofs,rfl,h1,h2,h4,λz=>by omega⟩
   ·rw [Yaj c]
    refine Yam (hf _ _ (by omega) ?_)
    dsimp only
    cases e:f (hint+ofs) with
    | false =>
     rw [Yao (show(!false)=true from rfl)]
     exact Yat ⟨rfl,la,ofs,rfl,h1,h2,h4,λ_=>e⟩
    | true =>
     rw [Yaj (show ¬(!true)=true by decide)]
     exact Yat ⟨rfl,ofs,_,rfl,by omega,by omega,by omega,e⟩
  ·rintro c ag ⟨rfl,la,ofs,rfl,h1,h2,h3,h4⟩
   exact⟨rfl,la,ofs,rfl,h1,h2,h4,λz=>by omega⟩
  ·rintro c ag ⟨rfl,la,ofs,rfl,h1,h2,h4,h5⟩
   have no:∀i,hint+min ofs (m - hint)<=i->i < m->f i=false:=λi hi kq=>by
    rcases Ybr ofs (m - hint) with c | c
    ·exact gs _ i (by omega) kq (h5 c)
    ·omega
   dsimp only
   refine Yam (Ycm (Yb0 (I:=λx c cp=>cp=ag/\∃lo hi,c=(none,lo,hi)/\lo<=hi/\hi<=m/\hi - lo<=m - x/\(∀i,i < lo->f i=true)/\(∀i,hi<=i->i < m->f i=false)) (Q:=λc cp=>cp=ag/\∃k,c=(none,k,k)/\Step f m k) ?_ ?_ ⟨rfl,_,_,rfl,by omega,by omega,by omega,λi hi=>mono i _ (by omega) (by omega) h4,no⟩) ?_)
   ·rintro x c cp _ hx ⟨rfl,lo,hi,rfl,h1,h2,h3,yes,no⟩
    dsimp only
    by_cases c:lo>=hi
    ·rw [Yao c]
     have:lo=hi:=by omega
     subst this
     exact Yat ⟨rfl,lo,rfl,h2,yes,no⟩
    ·rw [Yaj c]
     refine Yam (hf _ _ (by omega) ?_)
     dsimp only
     cases e:f (lo+(hi - lo) / 2) with
     | true =>
      rw [Yao rfl]
      refine Yat ⟨rfl,_,_,rfl,by omega,h2,by omega,λi df=>mono i _ (by omega) (by omega) e,no⟩
     | false =>
      rw [Yaj Yag]
      exact Yat ⟨rfl,_,_,rfl,by omega,by omega,by omega,yes,λi df kq=>gs _ i df kq e⟩
   ·rintro c cp ⟨rfl,lo,hi,rfl,h1,h2,h3,yes,no⟩
    have:lo=hi:=by omega
    subst this
    exact⟨rfl,lo,rfl,h2,yes,no⟩
   ·rintro c cp ⟨rfl,k,rfl,hk⟩
    exact Yat (h k hk)
 | false =>
  rw [Yaj Yag]
  refine Yam (Ycm (Yb0 (I:=λx c ag=>ag=st/\∃la ofs,c=(none,la,ofs)/\la < ofs/\la<=hint/\x+1<=ofs/\f (hint - la)=false) (Q:=λc ag=>ag=st/\∃la ofs,c=(none,la,ofs)/\la < ofs/\la<=hint/\f (hint - la)=false/\(ofs < hint+1->f (hint - ofs)=true)) ?_ ?_ ⟨rfl,0,1,rfl,by omega,by omega,by omega,e0⟩) ?_)
  ·rintro x c ag _ hx ⟨rfl,la,ofs,rfl,h1,h2,h3,h4⟩
   dsimp only
   by_cases c:ofs>=hint+1
   ·rw [Yao c]
    exact Yat ⟨rfl,la,ofs,rfl,h1,h2,h4,λz=>by omega⟩
   ·rw [Yaj c]
    refine Yam (hf _ _ (by omega) ?_)
    dsimp only
    cases e:f (hint - ofs) with
    | true =>
     rw [Yao rfl]
     exact Yat ⟨rfl,la,ofs,rfl,h1,h2,h4,λ_=>e⟩
    | false =>
     rw [Yaj Yag]
     exact Yat ⟨rfl,ofs,_,rfl,by omega,by omega,by omega,e⟩
  ·rintro c ag ⟨rfl,la,ofs,rfl,h1,h2,h3,h4⟩
   exact⟨rfl,la,ofs,rfl,h1,h2,h4,λz=>by omega⟩
  ·rintro c ag ⟨rfl,la,ofs,rfl,h1,h2,h4,h5⟩
   have yes:∀i,i < hint+1 - min ofs (hint+1)->f i=true:=λi hi=>by
    rcases Ybr ofs (hint+1) with c | c
    ·exact mono i (hint - ofs) (by omega) (by omega) (h5 c)
    ·omega
   dsimp only
   refine Yam (Ycm (Yb0 (I:=λx c cp=>cp=ag/\∃lo hi,c=(none,lo,hi)/\lo<=hi/\hi<=m/\hi - lo<=m - x/\(∀i,i < lo->f i=true)/\(∀i,hi<=i->i < m->f i=false)) (Q:=λc cp=>cp=ag/\∃k,c=(none,k,k)/\Step f m k) ?_ ?_ ⟨rfl,_,_,rfl,by omega,by omega,by omega,yes,λi hi kq=>gs _ i hi kq h4⟩) ?_)
   ·rintro x c cp _ hx ⟨rfl,lo,hi,rfl,h1,h2,h3,yes,no⟩
    dsimp only
    by_cases c:lo>=hi
    ·rw [Yao c]
     have:lo=hi:=by omega
     subst this
     exact Yat ⟨rfl,lo,rfl,h2,yes,no⟩
    ·rw [Yaj c]
     refine Yam (hf _ _ (by omega) ?_)
     dsimp only
     cases e:f (lo+(hi - lo) / 2) with
     | true =>
      rw [Yao rfl]
      refine Yat ⟨rfl,_,_,rfl,by omega,h2,by omega,λi df=>mono i _ (by omega) (by omega) e,no⟩
     | false =>
      rw [Yaj Yag]
      exact Yat ⟨rfl,_,_,rfl,by omega,by omega,by omega,yes,λi df kq=>gs _ i df kq e⟩
   ·rintro c cp ⟨rfl,lo,hi,rfl,h1,h2,h3,yes,no⟩
    have:lo=hi:=by omega
    subst this
    exact⟨rfl,lo,rfl,h2,yes,no⟩
   ·rintro c cp ⟨rfl,k,rfl,hk⟩
    exact Yat (h k hk)
end
def mergeLo':Array Keyed->Array Keyed->StateT SortSt Sem (Array Keyed):=sortPriv% PySem.Builtin.mergeLo
def mergeHi':Array Keyed->Array Keyed->StateT SortSt Sem (Array Keyed):=sortPriv% PySem.Builtin.mergeHi
theorem B7(g:Nat):setMinGallop' g=modify λst=>SortSt.mk' (kindOf st) (arrOf st) (pendingOf st) g (failedOf st):=rfl
theorem Mk(a b:Array Keyed):mergeLo' a b=(do
 rule "list.sort.merge-lo"
 let di:=a.size+b.size
 let done (out:Array Keyed) (ia ib:Nat):=out++a.extract ia a.size++b.extract ib b.size
 let dg (out:Array Keyed) (ia ib:Nat):=out++b.extract ib b.size++a.extract ia a.size
 let mut out:Array Keyed:=#[<- elem' b 0]
 let mut ia:=0
 let mut ib:=1
 if ib==b.size then return done out ia ib
 if ia+1==a.size then return dg out ia ib
 let mut minGallop:=gallopOf (<- get)
 for _ in [0:di] do
  let mut acount:=0
  let mut bcount:=0
  for _ in [0:di] do
   let some bWins <- lt' (<- elem' b ib) (<- elem' a ia) | return done out ia ib
   if bWins then
    out:=out.push (<- elem' b ib);ib:=ib+1;bcount:=bcount+1;acount:=0
    if ib==b.size then return done out ia ib
    if bcount>=minGallop then break
   else
    out:=out.push (<- elem' a ia);ia:=ia+1;acount:=acount+1;bcount:=0
    if ia+1==a.size then return dg out ia ib
    if acount>=minGallop then break
  rule "list.sort.gallop"
  minGallop:=minGallop+1
  for _ in [0:di] do
   if minGallop > 1 then minGallop:=minGallop - 1
   setMinGallop' minGallop
   let some k <- gallop' false (<- elem' b ib) a ia (a.size - ia) 0 | return done out ia ib
   acount:=k
   if k > 0 then
    out:=out++a.extract ia (ia+k);ia:=ia+k
    if ia+1==a.size then return dg out ia ib
    if ia==a.size then return done out ia ib
   out:=out.push (<- elem' b ib);ib:=ib+1
   if ib==b.size then return done out ia ib
   let some k <- gallop' true (<- elem' a ia) b ib (b.size - ib) 0 | return done out ia ib
   bcount:=k
   if k > 0 then
    out:=out++b.extract ib (ib+k);ib:=ib+k
    if ib==b.size then return done out ia ib
   out:=out.push (<- elem' a ia);ia:=ia+1
   if ia+1==a.size then return dg out ia ib
   if acount < 7 && bcount < 7 then break
  minGallop:=minGallop+1
  setMinGallop' minGallop
 unsupported "internal:list.sort.merge-bound"):=rfl
section
variable {prog:Program}{w:World}{A:Around}{E:Value->Shared->Prop}{s:Shared}{κ:SortKind}{it:Array Keyed}{n:Nat}{lt:Nat->Nat->Bool}
abbrev at0(p:Array Nat)(i:Nat):Nat:=p.getD i 0
theorem Qbn(O:WeakOrd n lt)(hc:Cmp prog w A κ it n lt s){st:SortSt}(hk:kindOf st=κ){p:Array Nat}{key base m hint:Nat}(hm:hint < m)(hb:base+m<=p.size)(hp:∀i,i < p.size->at0 p i < n)(i8:key < n)
  (srt:∀i j,base<=i->i < j->j < base+m->lt (at0 p j) (at0 p i)=false) {Q:Option Nat->SortSt->Prop}
  (h:∀k,k<=m->(∀i,i < k->lt key (at0 p (base+i))=false)->(∀i,k<=i->i < m->lt key (at0 p (base+i))=true)->Q (some k) st):wpS (model prog w) A E s (gallop' false (kas_item it key) (p.map (kas_item it)) base m hint) Q st:=by
 refine Mj (f:=λi=>!lt key (at0 p (base+i))) hm (λi Q' hi q=>?_) (λi j cj hj e=>?_) λk de=>h k de.le (λi hi=>by simpa using de.yes i hi) (λi h1 h2=>by simpa using de.no i h1 h2)
 ·unfold byd
  refine Yam (Bd (by omega) ?_)
  rw [Yaj Yag]
  exact Yam (Ub hc hk i8 (hp _ (by omega)) (Yat q))
 ·rcases Ya5 cj with rfl | hlt
  ·exact e
  ·have e':lt key (at0 p (base+j))=false:=by simpa using e
   have:=O.tr _ _ _ (hp (base+i) (by omega)) (hp (base+j) (by omega)) i8 (srt (base+i) (base+j) (by omega) (by omega) (by omega)) e'
   simpa using this
theorem Qbo(O:WeakOrd n lt)(hc:Cmp prog w A κ it n lt s){st:SortSt}(hk:kindOf st=κ){p:Array Nat}{key base m hint:Nat}(hm:hint < m)(hb:base+m<=p.size)(hp:∀i,i < p.size->at0 p i < n)(i8:key < n)
  (srt:∀i j,base<=i->i < j->j < base+m->lt (at0 p j) (at0 p i)=false) {Q:Option Nat->SortSt->Prop}
  (h:∀k,k<=m->(∀i,i < k->lt (at0 p (base+i)) key=true)->(∀i,k<=i->i < m->lt (at0 p (base+i)) key=false)->Q (some k) st):wpS (model prog w) A E s (gallop' true (kas_item it key) (p.map (kas_item it)) base m hint) Q st:=by
 refine Mj (f:=λi=>lt (at0 p (base+i)) key) hm (λi Q' hi q=>?_) (λi j cj hj e=>?_) λk de=>h k de.le de.yes de.no
 ·unfold byd
  refine Yam (Bd (by omega) ?_)
  rw [Yao rfl]
  exact Ub hc hk (hp _ (by omega)) i8 q
 ·rcases Ya5 cj with rfl | hlt
  ·exact e
  ·exact O.high (hp (base+i) (by omega)) (hp (base+j) (by omega)) i8 (srt (base+i) (base+j) (by omega) (by omega) (by omega)) e
def J3(lt:Nat->Nat->Bool)(p:Array Nat):Prop:=∀i j,i < j->j < p.size->lt (at0 p j) (at0 p i)=false
def In(n:Nat)(p:Array Nat):Prop:=∀i,i < p.size->at0 p i < n
structure MI(lt:Nat->Nat->Bool)(a b out:Array Nat)(ia ib:Nat):Prop where
 ha:ia<=a.size
 hb:ib<=b.size
 sz:out.size=ia+ib
 perm:out.toList.Perm (a.toList.take ia++b.toList.take ib)
 srt:out.toList.Pairwise λx y=>lt y x=false
 lea:∀x∈out.toList,∀j,ia<=j->j < a.size->lt (at0 a j) x=false
 leb:∀x∈out.toList,∀j,ib<=j->j < b.size->lt (at0 b j) x=false
theorem Bi(a:Array Nat)(i k:Nat):(a.extract i (i+k)).toList=(a.toList.drop i).take k:=by
 rw [Array.toList_extract,List.extract_eq_take_drop,Nat.add_sub_cancel_left]
theorem J4(l:List Nat)(i k:Nat):l.take (i+k)=l.take i++(l.drop i).take k:=List.take_add ..
theorem Ed{a:Array Nat}{i k x:Nat}(h:x∈(a.toList.drop i).take k):∃j,i<=j/\j < i+k/\j < a.size/\x=at0 a j:=by
 obtain⟨m,hm,e⟩:=Ydk h
 rw [Ybl,Ydn,Yas]at hm
 rw [List.getElem_take,List.getElem_drop]at e
 refine⟨i+m,by omega,by omega,by omega,?_⟩
 rw [<- e]
 simp [at0,Array.getD,show i+m < a.size by omega]
theorem Pt{a:Array Nat}(h:J3 lt a)(i k:Nat):((a.toList.drop i).take k).Pairwise λx y=>lt y x=false:=by
 have:a.toList.Pairwise λx y=>lt y x=false:=by
  rw [Ybo]
  intro x y hx hy hxy
  have:=h x y hxy (by simpa using hy)
  simp only [Array.length_toList]at hx hy
  simpa [at0,Array.getD,hx,hy] using this
 exact(this.sublist (List.drop_sublist ..)).sublist (List.take_sublist ..)
theorem MI.chunkA{a b out:Array Nat}{ia ib k:Nat}(h:MI lt a b out ia ib)(ua:J3 lt a)(hk:ia+k<=a.size)(ce:∀i,i < k->∀j,ib<=j->j < b.size->lt (at0 b j) (at0 a (ia+i))=false):MI lt a b (out++a.extract ia (ia+k)) (ia+k) ib:=by
 refine⟨hk,h.hb,?_,?_,?_,?_,?_⟩
 ·rw [Array.size_append,h.sz,Yel];omega
 ·rw [Yb6,Bi,J4]
  refine(Yes _ h.perm).trans ?_
  rw [Yca,Yca]
  exact List.Perm.append_left _ List.perm_append_comm
 ·rw [Yb6,Bi,Yc8]
  refine⟨h.srt,Pt ua _ _,λx hx y hy=>?_⟩
  obtain⟨j,j1,j2,j3,rfl⟩:=Ed hy
  exact h.lea x hx j j1 j3
 ·intro x hx j j1 j2
  rw [Yb6,Bi]at hx
  rcases Yaq.mp hx with hx | hx
  ·exact h.lea x hx j (by omega) j2
  ·obtain⟨m,m1,m2,m3,rfl⟩:=Ed hx
   exact ua m j (by omega) j2
 ·intro x hx j j1 j2
  rw [Yb6,Bi]at hx
  rcases Yaq.mp hx with hx | hx
  ·exact h.leb x hx j j1 j2
  ·obtain⟨m,m1,m2,m3,rfl⟩:=Ed hx
   have:=ce (m - ia) (by omega) j j1 j2
   rwa [show ia+(m - ia)=m by omega]at this
theorem MI.chunkB{a b out:Array Nat}{ia ib k:Nat}(h:MI lt a b out ia ib)(ub:J3 lt b)(hk:ib+k<=b.size)(ce:∀i,i < k->∀j,ia<=j->j < a.size->lt (at0 a j) (at0 b (ib+i))=false):MI lt a b (out++b.extract ib (ib+k)) ia (ib+k):=by
 refine⟨h.ha,hk,?_,?_,?_,?_,?_⟩
 ·rw [Array.size_append,h.sz,Yel];omega
 ·rw [Yb6,Bi,J4,<- Yca]
  exact Yes _ h.perm
 ·rw [Yb6,Bi,Yc8]
  refine⟨h.srt,Pt ub _ _,λx hx y hy=>?_⟩
  obtain⟨j,j1,j2,j3,rfl⟩:=Ed hy
  exact h.leb x hx j j1 j3
 ·intro x hx j j1 j2
  rw [Yb6,Bi]at hx
  rcases Yaq.mp hx with hx | hx
  ·exact h.lea x hx j j1 j2
  ·obtain⟨m,m1,m2,m3,rfl⟩:=Ed hx
   have:=ce (m - ib) (by omega) j j1 j2
   rwa [show ib+(m - ib)=m by omega]at this
 ·intro x hx j j1 j2
  rw [Yb6,Bi]at hx
  rcases Yaq.mp hx with hx | hx
  ·exact h.leb x hx j (by omega) j2
  ·obtain⟨m,m1,m2,m3,rfl⟩:=Ed hx
   exact ub m j (by omega) j2
theorem Ld{a:Array Nat}{i:Nat}(h:i < a.size)(out:Array Nat):out.push (at0 a i)=out++a.extract i (i+1):=by
 apply Array.toList_inj.mp
 rw [Yew,Yb6,Bi,Ybn (by simpa using h)]
 simp [at0,Array.getD,h]
theorem MI.pushA{a b out:Array Nat}{ia ib:Nat}(h:MI lt a b out ia ib)(ua:J3 lt a)(hk:ia < a.size)(ce:∀j,ib<=j->j < b.size->lt (at0 b j) (at0 a ia)=false):MI lt a b (out.push (at0 a ia)) (ia+1) ib:=by
 rw [Ld hk]
 exact h.chunkA ua hk λi hi j j1 j2=>by rw [show ia+i=ia by omega];exact ce j j1 j2
theorem MI.pushB{a b out:Array Nat}{ia ib:Nat}(h:MI lt a b out ia ib)(ub:J3 lt b)(hk:ib < b.size)(ce:∀j,ia<=j->j < a.size->lt (at0 a j) (at0 b ib)=false):MI lt a b (out.push (at0 b ib)) ia (ib+1):=by
 rw [Ld hk]
 exact h.chunkB ub hk λi hi j j1 j2=>by rw [show ib+i=ib by omega];exact ce j j1 j2
structure Mgd(lt:Nat->Nat->Bool)(a b R:Array Nat):Prop where
 perm:R.toList.Perm (a.toList++b.toList)
 srt:R.toList.Pairwise λx y=>lt y x=false
theorem MI.end_{a b out:Array Nat}(h:MI lt a b out a.size b.size):Mgd lt a b out:=by
 refine⟨?_,h.srt⟩
 have:=h.perm
 rwa [Yc2 (by simp),Yc2 (by simp)]at this
theorem MI.doneB{a b out:Array Nat}{ia:Nat}(h:MI lt a b out ia b.size)(ua:J3 lt a):Mgd lt a b (out++a.extract ia a.size++b.extract b.size b.size):=by
 have h1:=h.chunkA (k:=a.size - ia) ua (by have:=h.ha;omega) λi _ j j1 j2=>by omega
 rw [show ia+(a.size - ia)=a.size by have:=h.ha;omega]at h1
 have:=h1.end_
 rwa [show b.extract b.size b.size=#[] by simp,Array.append_empty]
theorem MI.doneA{a b out:Array Nat}{ib:Nat}(h:MI lt a b out a.size ib)(ub:J3 lt b):Mgd lt a b (out++a.extract a.size a.size++b.extract ib b.size):=by
 have h1:=h.chunkB (k:=b.size - ib) ub (by have:=h.hb;omega) λi _ j j1 j2=>by omega
 rw [show ib+(b.size - ib)=b.size by have:=h.hb;omega]at h1
 have:=h1.end_
 rwa [show a.extract a.size a.size=#[] by simp,Array.append_empty]
theorem MI.lastA{a b out:Array Nat}{ia ib:Nat}(h:MI lt a b out ia ib)(ua:J3 lt a)(ub:J3 lt b)(hl:ia+1=a.size)(ce:∀j,j < b.size->lt (at0 a (a.size - 1)) (at0 b j)=false):Mgd lt a b (out++b.extract ib b.size++a.extract ia a.size):=by
 have h1:=h.chunkB (k:=b.size - ib) ub (by have:=h.hb;omega) λi _ j j1 j2=>by
  rw [show j=a.size - 1 by omega];exact ce _ (by omega)
 rw [show ib+(b.size - ib)=b.size by have:=h.hb;omega]at h1
 have h2:=h1.chunkA (k:=1) ua (by omega) λi _ j j1 j2=>by omega
 rw [hl]at h2
 exact h2.end_
theorem Zb(out a:Array Nat)(i k:Nat):out.map (kas_item it)++(a.map (kas_item it)).extract i k=(out++a.extract i k).map (kas_item it):=by
 rw [Ye9,Yda]
theorem Zc(out:Array Nat)(x:Nat):(out.map (kas_item it)).push (kas_item it x)=(out.push x).map (kas_item it):=Array.map_push.symm
abbrev LoS:=Option (Array Keyed)×Array Keyed×Nat×Nat×Nat×Nat×Nat
abbrev Bp(st:SortSt)(g:Nat):SortSt:=SortSt.mk' (kindOf st) (arrOf st) (pendingOf st) g (failedOf st)
def Xh(a b out:Array Keyed)(ia ib mg ac bc:Nat):StateT SortSt Sem (ForInStep LoS) :=
 elem' a ia >>= λy =>
  if(ia+1+1==a.size)=true then pure (ForInStep.done (some (out.push y++b.extract ib b.size++a.extract (ia+1) a.size),out.push y,ia+1,ib,mg,ac,bc))
  else if(decide (ac < 7) && decide (bc < 7))=true then pure (ForInStep.done (none,out.push y,ia+1,ib,mg,ac,bc))
  else pure (ForInStep.yield (none,out.push y,ia+1,ib,mg,ac,bc))
def Xi(a b out:Array Keyed)(ia ib mg ac bc:Nat):StateT SortSt Sem (ForInStep LoS) :=
 elem' b ib >>= λy =>
  if(ib+1==b.size)=true then pure (ForInStep.done (some (out.push y++a.extract ia a.size++b.extract (ib+1) b.size),out.push y,ia,ib+1,mg,ac,bc))
  else elem' a ia >>= λz=>gallop' true z b (ib+1) (b.size - (ib+1)) 0 >>= λx =>
   match x with
   | some k=>if k > 0 then
     (if(ib+1+k==b.size)=true then pure (ForInStep.done (some (out.push y++b.extract (ib+1) (ib+1+k)++a.extract ia a.size++b.extract (ib+1+k) b.size),out.push y++b.extract (ib+1) (ib+1+k),ia,ib+1+k,mg,ac,k))
     else Xh a b (out.push y++b.extract (ib+1) (ib+1+k)) ia (ib+1+k) mg ac k)
    else Xh a b (out.push y) ia (ib+1) mg ac k
   | _=>pure (ForInStep.done (some (out.push y++a.extract ia a.size++b.extract (ib+1) b.size),out.push y,ia,ib+1,mg,ac,bc))
def Qbp(a b out:Array Keyed)(ia ib mg ac bc:Nat):StateT SortSt Sem (ForInStep LoS) :=
 setMinGallop' mg >>= λ_=>elem' b ib >>= λy=>gallop' false y a ia (a.size - ia) 0 >>= λx =>
  match x with
  | some k=>if k > 0 then
    (if(ia+k+1==a.size)=true then pure (ForInStep.done (some (out++a.extract ia (ia+k)++b.extract ib b.size++a.extract (ia+k) a.size),out++a.extract ia (ia+k),ia+k,ib,mg,k,bc))
    else if(ia+k==a.size)=true then pure (ForInStep.done (some (out++a.extract ia (ia+k)++a.extract (ia+k) a.size++b.extract ib b.size),out++a.extract ia (ia+k),ia+k,ib,mg,k,bc))
    else Xi a b (out++a.extract ia (ia+k)) (ia+k) ib mg k bc)
   else Xi a b out ia ib mg k bc
  | _=>pure (ForInStep.done (some (out++a.extract ia a.size++b.extract ib b.size),out,ia,ib,mg,ac,bc))
structure Mid(lt:Nat->Nat->Bool)(it:Array Keyed)(a b:Array Nat)(q:Nat)(o:Array Keyed)(ia ib:Nat):Prop where
 m:∃out:Array Nat,o=out.map (kas_item it)/\MI lt a b out ia ib
 ha:ia+1 < a.size
 hb:ib < b.size
 q:q<=ia+ib
structure MPre(n:Nat)(lt:Nat->Nat->Bool)(a b:Array Nat):Prop where
 na:0 < a.size
 nb:0 < b.size
 ia:In n a
 ib:In n b
 ua:J3 lt a
 ub:J3 lt b
 h0:lt (at0 b 0) (at0 a 0)=true
 hl:∀j,j < b.size->lt (at0 b j) (at0 a (a.size - 1))=true
theorem MPre.le{a b:Array Nat}(O:WeakOrd n lt)(p:MPre n lt a b):∀j,j < b.size->lt (at0 a (a.size - 1)) (at0 b j)=false:=λj hj=>O.asy _ _ (p.ib j hj) (p.ia _ (by have:=p.na;omega)) (p.hl j hj)
section
variable {a b:Array Nat}{st:SortSt}{Qd Qy:LoS->SortSt->Prop}{out:Array Nat}{ia ib mg ac bc:Nat}
theorem Zd(O:WeakOrd n lt)(p:MPre n lt a b)(M:MI lt a b out ia ib)(ha:ia+1 < a.size)(hb:ib < b.size)(ce:∀j,ib<=j->j < b.size->lt (at0 b j) (at0 a ia)=false)
  (fin:∀R c,Mgd lt a b R->c.1=some (R.map (kas_item it))->Qd c st) (go:∀o i j m x y,Mid lt it a b (ia+ib+1) o i j->Qd (none,o,i,j,m,x,y) st/\Qy (none,o,i,j,m,x,y) st) :
  wpS (model prog w) A E s (Xh (a.map (kas_item it)) (b.map (kas_item it)) (out.map (kas_item it)) ia ib mg ac bc) (λr ag=>match r with | .done c'=>Qd c' ag | .yield c'=>Qy c' ag) st:=by
 unfold Xh
 refine Yam (Bd (by omega) ?_)
 have M1:=M.pushA p.ua (by omega) ce
 simp only [Array.size_map,Zc,Zb]
 by_cases e:ia+1+1=a.size
 ·rw [Yao (by simpa using e)]
  exact Yat (fin _ _ (M1.lastA p.ua p.ub e (p.le O)) rfl)
 ·rw [Yaj (by simpa using e)]
  have g:=go _ _ _ mg ac bc (⟨⟨_,rfl,M1⟩,by omega,hb,by omega⟩:Mid lt it a b (ia+ib+1) _ (ia+1) ib)
  split
  ·exact Yat g.1
  ·exact Yat g.2
theorem Ze(O:WeakOrd n lt)(hc:Cmp prog w A κ it n lt s)(hk:kindOf st=κ)(p:MPre n lt a b)(M:MI lt a b out ia ib)(ha:ia+1 < a.size)(hb:ib < b.size)(ce:∀j,ia<=j->j < a.size->lt (at0 a j) (at0 b ib)=false)
  (fin:∀R c,Mgd lt a b R->c.1=some (R.map (kas_item it))->Qd c st) (go:∀o i j m x y,Mid lt it a b (ia+ib+1) o i j->Qd (none,o,i,j,m,x,y) st/\Qy (none,o,i,j,m,x,y) st) :
  wpS (model prog w) A E s (Xi (a.map (kas_item it)) (b.map (kas_item it)) (out.map (kas_item it)) ia ib mg ac bc) (λr ag=>match r with | .done c'=>Qd c' ag | .yield c'=>Qy c' ag) st:=by
 unfold Xi
 refine Yam (Bd hb ?_)
 have M1:=M.pushB p.ub hb ce
 have qy:∀k,∀o i j m x y,Mid lt it a b (ia+(ib+1+k)+1) o i j->Qd (none,o,i,j,m,x,y) st/\Qy (none,o,i,j,m,x,y) st:=λk o i j m x y h=>go o i j m x y ⟨h.m,h.ha,h.hb,by have:=h.q;omega⟩
 simp only [Array.size_map,Zc]
 by_cases e:ib+1=b.size
 ·rw [Yao (by simpa using e)]
  refine Yat (fin _ _ (show Mgd lt a b (out.push (at0 b ib)++a.extract ia a.size++b.extract (ib+1) b.size) from ?_) (by simp only [Zb]))
  have:=(show MI lt a b (out.push (at0 b ib)) ia b.size by rw [<- e];exact M1).doneB p.ua
  rw [e];exact this
 ·rw [Yaj (by simpa using e)]
  refine Yam (Bd (by omega) ?_)
  refine Yam (Qbo O hc hk (by omega) (by omega) p.ib (p.ia ia (by omega)) (λi j h1 h2 h3=>p.ub i j h2 (by omega)) λk k1 k2 k3=>?_)
  dsimp only
  have M2:=M1.chunkB (k:=k) p.ub (by omega) λi hi j j1 j2=>by
   have h1:=k2 i hi
   rcases Ya5 j1 with rfl | j1
   ·exact O.asy _ _ (p.ib _ (by omega)) (p.ia _ j2) h1
   ·exact O.tr _ _ _ (p.ib _ (by omega)) (p.ia ia (by omega)) (p.ia _ j2) (O.asy _ _ (p.ib _ (by omega)) (p.ia _ (by omega)) h1) (p.ua ia j j1 j2)
  by_cases kp:k > 0
  ·rw [Yao kp]
   simp only [Zb]
   by_cases e2:ib+1+k=b.size
   ·rw [Yao (by simpa using e2)]
    refine Yat (fin _ _ (show Mgd lt a b (out.push (at0 b ib)++b.extract (ib+1) (ib+1+k)++a.extract ia a.size++b.extract (ib+1+k) b.size) from ?_) rfl)
    rw [e2]at M2 ⊢
    exact M2.doneB p.ua
   ·rw [Yaj (by simpa using e2)]
    refine Zd O p M2 ha (by omega) (λj j1 j2=>?_) fin (qy k)
    have:=k3 (j - (ib+1)) (by omega) (by omega)
    rwa [show ib+1+(j - (ib+1))=j by omega]at this
  ·rw [Yaj kp]
   refine Zd O p M1 ha (by omega) (λj j1 j2=>?_) fin (qy 0)
   have:=k3 (j - (ib+1)) (by omega) (by omega)
   rwa [show ib+1+(j - (ib+1))=j by omega]at this
theorem Qe2(O:WeakOrd n lt)(hc:Cmp prog w A κ it n lt s)(hk:kindOf st=κ)(p:MPre n lt a b)(M:MI lt a b out ia ib)(ha:ia+1 < a.size)(hb:ib < b.size)
  (fin:∀R c,Mgd lt a b R->c.1=some (R.map (kas_item it))->Qd c (Bp st mg)) (go:∀o i j m x y,Mid lt it a b (ia+ib+1) o i j->Qd (none,o,i,j,m,x,y) (Bp st mg)/\Qy (none,o,i,j,m,x,y) (Bp st mg)) :
  wpS (model prog w) A E s (Qbp (a.map (kas_item it)) (b.map (kas_item it)) (out.map (kas_item it)) ia ib mg ac bc) (λr ag=>match r with | .done c'=>Qd c' ag | .yield c'=>Qy c' ag) st:=by
 unfold Qbp
 rw [B7]
 refine Yam (Yc5 (Yam (Bd hb ?_)))
 simp only [Array.size_map]
 refine Yam (Qbn O hc (st:=Bp st mg) hk (by omega) (by omega) p.ia (p.ib ib hb) (λi j h1 h2 h3=>p.ua i j h2 (by omega)) λk k1 k2 k3=>?_)
 dsimp only
 have M1:=M.chunkA (k:=k) p.ua (by omega) λi hi j j1 j2=>by
  have h1:=k2 i hi
  rcases Ya5 j1 with rfl | j1
  ·exact h1
  ·exact O.tr _ _ _ (p.ia _ (by omega)) (p.ib ib hb) (p.ib _ j2) h1 (p.ub ib j j1 j2)
 have low:∀j,ia+k<=j->j < a.size->lt (at0 a j) (at0 b ib)=false:=λj j1 j2=>by
  have:=k3 (j - ia) (by omega) (by omega)
  rw [show ia+(j - ia)=j by omega]at this
  exact O.asy _ _ (p.ib ib hb) (p.ia j j2) this
 have qy:∀o i j m x y,Mid lt it a b (ia+k+ib+1) o i j->Qd (none,o,i,j,m,x,y) (Bp st mg)/\Qy (none,o,i,j,m,x,y) (Bp st mg):=λo i j m x y h=>go o i j m x y ⟨h.m,h.ha,h.hb,by have:=h.q;omega⟩
 by_cases kp:k > 0
 ·rw [Yao kp]
  simp only [Zb]
  by_cases e1:ia+k+1=a.size
  ·rw [Yao (by simpa using e1)]
   exact Yat (fin _ _ (M1.lastA p.ua p.ub e1 (p.le O)) rfl)
  ·rw [Yaj (by simpa using e1)]
   by_cases e2:ia+k=a.size
   ·rw [Yao (by simpa using e2)]
    refine Yat (fin _ _ (show Mgd lt a b (out++a.extract ia (ia+k)++a.extract (ia+k) a.size++b.extract ib b.size) from ?_) rfl)
    rw [e2]at M1 ⊢
    exact M1.doneA p.ub
   ·rw [Yaj (by simpa using e2)]
    exact Ze O hc (st:=Bp st mg) hk p M1 (by omega) hb low fin qy
 ·rw [Yaj kp]
  have k0:k=0:=by omega
  subst k0
  exact Ze O hc (st:=Bp st mg) hk p M ha hb low fin qy
end
theorem MI.zero(a b:Array Nat):MI lt a b #[] 0 0:=⟨Yaz _,Yaz _,rfl,by simp,.nil,λ_ h=>by simp at h,λ_ h=>by simp at h⟩
theorem MPre.first{a b:Array Nat}(O:WeakOrd n lt)(p:MPre n lt a b):MI lt a b #[at0 b 0] 0 1:=by
 refine(MI.zero a b).pushB p.ub p.nb λj _ j2=>?_
 rcases Yej j with rfl | j1
 ·exact O.asy _ _ (p.ib 0 p.nb) (p.ia 0 j2) p.h0
 ·exact O.tr _ _ _ (p.ib 0 p.nb) (p.ia 0 p.na) (p.ia j j2) (O.asy _ _ (p.ib 0 p.nb) (p.ia 0 p.na) p.h0) (p.ua 0 j j1 j2)
theorem Rw(O:WeakOrd n lt)(hc:Cmp prog w A κ it n lt s){a b:Array Nat}{st:SortSt}(hk:kindOf st=κ)(p:MPre n lt a b){Q:Array Keyed->SortSt->Prop}(h:∀R g,Mgd lt a b R->Q (R.map (kas_item it)) (Bp st g)) :
  wpS (model prog w) A E s (mergeLo' (a.map (kas_item it)) (b.map (kas_item it))) Q st:=by
 rw [Mk]
 dsimp only
 have M0:=p.first O
 have na:=p.na
 have nb:=p.nb
 have e0:#[kas_item it (b.getD 0 0)]=(#[at0 b 0]:Array Nat).map (kas_item it):=by simp
 refine Yam (wpS_lift (Yco ⟨rfl,?_⟩))
 refine Yam (Bd nb ?_)
 rw [e0]
 by_cases e1:1=b.size
 ·rw [Yao (by simpa using e1)]
  simp only [Array.size_map,Zb]
  refine Yat (h _ (gallopOf st) ?_)
  have:=(show MI lt a b #[at0 b 0] 0 b.size by rw [<- e1];exact M0).doneB p.ua
  rw [<- e1]at this ⊢
  exact this
 rw [Yaj (by simpa using e1)]
 by_cases e2:0+1=a.size
 ·rw [Yao (by simpa using e2)]
  simp only [Array.size_map,Zb]
  exact Yat (h _ (gallopOf st) (M0.lastA p.ua p.ub e2 (p.le O)))
 rw [Yaj (by simpa using e2)]
 refine Yam (Yfk ?_)
 have sa:(a.map (kas_item it)).size=a.size:=Ydt ..
 have sb:(b.map (kas_item it)).size=b.size:=Ydt ..
 refine Yam (Ycm (Yb0 (I:=λx c ag=>(∃g,ag=Bp st g)/\c.1=none/\Mid lt it a b (1+x) c.2.1 c.2.2.1 c.2.2.2.1) (Q:=λc ag=>(∃g,ag=Bp st g)/\∃R,c.1=some (R.map (kas_item it))/\Mgd lt a b R) ?_ ?_ ⟨⟨gallopOf st,rfl⟩,rfl,⟨_,rfl,M0⟩,by show 0+1 < _;omega,by show 1 < _;omega,by show 1+0<=0+1;omega⟩) ?_)
 ·rintro x ⟨c1,o,ia,ib,mg⟩ ag _ hx ⟨⟨g,rfl⟩,rfl,⟨out,eo,M⟩,ha,hb,hq⟩
  dsimp only at eo M ha hb hq ⊢
  subst eo
  refine Yam (Ycm (Yb0 (I:=λx c ag=>ag=Bp st g/\c.1=none/\Mid lt it a b (ia+ib+x) c.2.1 c.2.2.1 c.2.2.2.1) (Q:=λc ag=>ag=Bp st g/\((∃R,c.1=some (R.map (kas_item it))/\Mgd lt a b R)\/(c.1=none/\Mid lt it a b (ia+ib+1) c.2.1 c.2.2.1 c.2.2.2.1))) ?_ ?_ ⟨rfl,rfl,⟨out,rfl,M⟩,ha,hb,Yad _⟩) ?_)
  ·clear M ha hb
   rintro y ⟨c1,o,ja,jb,ac,bc⟩ ag _ hy ⟨rfl,rfl,⟨out,eo,M⟩,ha,hb,hq'⟩
   dsimp only at eo M ha hb hq' ⊢
   subst eo
   refine Yam (Bd hb (Yam (Bd (by omega) (Yam (Ub hc (st:=Bp st g) hk (p.ib _ hb) (p.ia _ (by omega)) ?_)))))
   dsimp only
   cases e:lt (b.getD jb 0) (a.getD ja 0) with
   | true =>
    rw [Yao rfl]
    refine Yam (Bd hb ?_)
    have M1:=M.pushB p.ub hb λj j1 j2=>by
     have e':=O.asy _ _ (p.ib _ hb) (p.ia ja (by omega)) e
     rcases Ya5 j1 with rfl | j1
     ·exact e'
     ·exact O.tr _ _ _ (p.ib _ hb) (p.ia ja (by omega)) (p.ia _ j2) e' (p.ua ja j j1 j2)
    simp only [Zc]
    by_cases e3:jb+1=b.size
    ·rw [Yao (by simpa using e3)]
     simp only [Zb,Array.size_map]
     refine Yat ⟨rfl,.inl ⟨_,rfl,?_⟩⟩
     rw [e3]at M1 ⊢
     exact M1.doneB p.ua
    ·rw [Yaj (by simpa using e3)]
     by_cases e4:bc+1>=mg <;> simp only [e4,if_true,if_false]
     ·exact Yat ⟨rfl,.inr ⟨rfl,⟨_,rfl,M1⟩,ha,by show jb+1 < _;omega,by show _<=ja+(jb+1);omega⟩⟩
     ·exact Yat ⟨rfl,rfl,⟨_,rfl,M1⟩,ha,by show jb+1 < _;omega,by show _<=ja+(jb+1);omega⟩
   | false =>
    rw [Yaj Yag]
    refine Yam (Bd (by omega) ?_)
    have M1:=M.pushA p.ua (by omega) λj j1 j2=>by
     rcases Ya5 j1 with rfl | j1
     ·exact e
     ·exact O.tr _ _ _ (p.ia ja (by omega)) (p.ib _ hb) (p.ib _ j2) e (p.ub jb j j1 j2)
    simp only [Zc]
    by_cases e3:ja+1+1=a.size
    ·rw [Yao (by simpa using e3)]
     simp only [Zb,Array.size_map]
     exact Yat ⟨rfl,.inl ⟨_,rfl,M1.lastA p.ua p.ub e3 (p.le O)⟩⟩
    ·rw [Yaj (by simpa using e3)]
     by_cases e4:ac+1>=mg <;> simp only [e4,if_true,if_false]
     ·exact Yat ⟨rfl,.inr ⟨rfl,⟨_,rfl,M1⟩,by show ja+1+1 < _;omega,hb,by show _<=ja+1+jb;omega⟩⟩
     ·exact Yat ⟨rfl,rfl,⟨_,rfl,M1⟩,by show ja+1+1 < _;omega,hb,by show _<=ja+1+jb;omega⟩
  ·rintro c ag ⟨_,_,⟨out,_,M⟩,ha',jz,hq'⟩
   omega
  ·rintro⟨c1,o,ja,jb,ac,bc⟩ ag ⟨rfl,⟨R,rfl,hR⟩ | ⟨rfl,hM⟩⟩
   ·exact Yat ⟨⟨g,rfl⟩,R,rfl,hR⟩
   ·dsimp only at hM ⊢
    refine Yam (wpS_lift (Yco ⟨rfl,?_⟩))
    refine Yam (Ycm (Yb0 (I:=λx c ag=>(∃g,ag=Bp st g)/\c.1=none/\Mid lt it a b (ia+ib+1+x) c.2.1 c.2.2.1 c.2.2.2.1) (Q:=λc ag=>(∃g,ag=Bp st g)/\((∃R,c.1=some (R.map (kas_item it))/\Mgd lt a b R)\/(c.1=none/\Mid lt it a b (ia+ib+1) c.2.1 c.2.2.1 c.2.2.2.1))) ?_ ?_ ⟨⟨g,rfl⟩,rfl,hM⟩) ?_)
    ·clear hM
     rintro y ⟨c1,o,ja,jb,mg,ac,bc⟩ ag _ hy ⟨⟨g,rfl⟩,rfl,⟨out,eo,M⟩,ha,hb,hq'⟩
     dsimp only at eo M ha hb hq' ⊢
     subst eo
     have key:∀mg,wpS (model prog w) A E s (Qbp (a.map (kas_item it)) (b.map (kas_item it)) (out.map (kas_item it)) ja jb mg ac bc) (λr ag=>match r with
       | .done c=>(∃g,ag=Bp st g)/\((∃R,c.1=some (R.map (kas_item it))/\Mgd lt a b R)\/(c.1=none/\Mid lt it a b (ia+ib+1) c.2.1 c.2.2.1 c.2.2.2.1))
       | .yield c=>(∃g,ag=Bp st g)/\c.1=none/\Mid lt it a b (ia+ib+1+(y+1)) c.2.1 c.2.2.1 c.2.2.2.1) (Bp st g):=λmg =>
      Qe2 (Qd:=λc ag=>(∃g,ag=Bp st g)/\((∃R,c.1=some (R.map (kas_item it))/\Mgd lt a b R)\/(c.1=none/\Mid lt it a b (ia+ib+1) c.2.1 c.2.2.1 c.2.2.2.1)))
       (Qy:=λc ag=>(∃g,ag=Bp st g)/\c.1=none/\Mid lt it a b (ia+ib+1+(y+1)) c.2.1 c.2.2.1 c.2.2.2.1) O hc (st:=Bp st g) hk p M ha hb (λR c hR e=>⟨⟨mg,rfl⟩,.inl ⟨R,e,hR⟩⟩)
       λo i j m x y hm=>⟨⟨⟨mg,rfl⟩,.inr ⟨rfl,hm.m,hm.ha,hm.hb,by have:=hm.q;show _<=i+j;omega⟩⟩,⟨mg,rfl⟩,rfl,hm.m,hm.ha,hm.hb,by have:=hm.q;show _<=i+j;omega⟩
     by_cases e4:mg > 1
     ·rw [Yao e4]
      refine Ycm (key (mg - 1)) ?_
      rintro(c | c) ag hh <;> exact hh
     ·rw [Yaj e4]
      refine Ycm (key mg) ?_
      rintro(c | c) ag hh <;> exact hh
    ·rintro c ag ⟨⟨g,rfl⟩,h1,h2⟩
     exact⟨⟨g,rfl⟩,.inr ⟨h1,h2.m,h2.ha,h2.hb,by have:=h2.q;omega⟩⟩
    ·rintro⟨c1,o,ja,jb,mg,ac,bc⟩ ag ⟨⟨g,rfl⟩,⟨R,rfl,hR⟩ | ⟨rfl,hM⟩⟩
     ·exact Yat ⟨⟨g,rfl⟩,R,rfl,hR⟩
     ·dsimp only at hM ⊢
      rw [B7]
      refine Yam (Yc5 (Yat ⟨⟨_,rfl⟩,rfl,hM.m,hM.ha,hM.hb,?_⟩))
      have:=hM.q
      show _<=ja+jb
      omega
 ·rintro c ag ⟨_,_,⟨out,_,M⟩,ha',jz,hq'⟩
  omega
 ·rintro⟨c1,o⟩ ag ⟨⟨g,rfl⟩,R,rfl,hR⟩
  exact Yat (h R g hR)
end
theorem Ml(a b:Array Keyed):mergeHi' a b=(do
 rule "list.sort.merge-hi"
 let di:=a.size+b.size
 let done (out:Array Keyed) (na nb:Nat):=a.extract 0 na++b.extract 0 nb++out.reverse
 let cf (out:Array Keyed) (na nb:Nat):=b.extract 0 nb++a.extract 0 na++out.reverse
 let mut na:=a.size - 1
 let mut nb:=b.size
 let mut out:Array Keyed:=#[<- elem' a na]
 if na==0 then return done out na nb
 if nb==1 then return cf out na nb
 let mut minGallop:=gallopOf (<- get)
 for _ in [0:di] do
  let mut acount:=0
  let mut bcount:=0
  for _ in [0:di] do
   let some aWins <- lt' (<- elem' b (nb - 1)) (<- elem' a (na - 1)) | return done out na nb
   if aWins then
    na:=na - 1;out:=out.push (<- elem' a na);acount:=acount+1;bcount:=0
    if na==0 then return done out na nb
    if acount>=minGallop then break
   else
    nb:=nb - 1;out:=out.push (<- elem' b nb);bcount:=bcount+1;acount:=0
    if nb==1 then return cf out na nb
    if bcount>=minGallop then break
  rule "list.sort.gallop"
  minGallop:=minGallop+1
  for _ in [0:di] do
   if minGallop > 1 then minGallop:=minGallop - 1
   setMinGallop' minGallop
   let some at_ <- gallop' false (<- elem' b (nb - 1)) a 0 na (na - 1) | return done out na nb
   let k:=na - at_
   acount:=k
   if k > 0 then
    out:=out++(a.extract at_ na).reverse;na:=at_
    if na==0 then return done out na nb
   nb:=nb - 1;out:=out.push (<- elem' b nb)
   if nb==1 then return cf out na nb
   let some at_ <- gallop' true (<- elem' a (na - 1)) b 0 nb (nb - 1) | return done out na nb
   let k:=nb - at_
   bcount:=k
   if k > 0 then
    out:=out++(b.extract at_ nb).reverse;nb:=at_
    if nb==1 then return cf out na nb
    if nb==0 then return done out na nb
   na:=na - 1;out:=out.push (<- elem' a na)
   if na==0 then return done out na nb
   if acount < 7 && bcount < 7 then break
  minGallop:=minGallop+1
  setMinGallop' minGallop
 unsupported "internal:list.sort.merge-bound"):=rfl
section
variable {prog:Program}{w:World}{A:Around}{E:Value->Shared->Prop}{s:Shared}{κ:SortKind}{it:Array Keyed}{n:Nat}{lt:Nat->Nat->Bool}
abbrev flp(lt:Nat->Nat->Bool):Nat->Nat->Bool:=λx y=>lt y x
theorem WeakOrd.fl(O:WeakOrd n lt):WeakOrd n (flp lt):=⟨λa b c ha hb hc h1 h2=>O.tr c b a hc hb ha h2 h1,λa b ha hb h=>O.asy b a hb ha h⟩
theorem Ca{p:Array Nat}{i:Nat}(h:i < p.size):at0 p.reverse i=at0 p (p.size - 1 - i):=by
 simp [at0,Array.getD,h,show p.size - 1 - i < p.size by omega]
theorem Le(p:Array Nat){i j:Nat}(h:i<=j)(hj:j<=p.size):p.reverse.extract (p.size - j) (p.size - j+(j - i))=(p.extract i j).reverse:=by
 apply Array.toList_inj.mp
 rw [Bi,Ycj,Ycj,show j=i+(j - i) by omega,Bi,show i+(j - i)=j by omega]
 apply Ycy
 intro k
 by_cases hk:k < j - i
 ·rw [List.getElem?_take_of_lt hk,List.getElem?_drop,List.getElem?_reverse (by simp;omega),List.getElem?_reverse (by simp;omega),List.getElem?_take_of_lt (by simp;omega),List.getElem?_drop]
  congr 1
  simp;omega
 ·rw [List.getElem?_eq_none (by simp;omega),List.getElem?_eq_none (by simp;omega)]
theorem Hr(p:Array Nat){j:Nat}(hj:j<=p.size):p.reverse.extract (p.size - j) p.reverse.size=(p.extract 0 j).reverse:=by
 rw [<- Le p (Yaz j) hj,Ybc]
 congr 1;omega
theorem MPre.fl{a b:Array Nat}(O:WeakOrd n lt)(p:MPre n lt a b):MPre n (flp lt) b.reverse a.reverse:=by
 have na:=p.na
 have nb:=p.nb
 refine⟨by simpa using nb,by simpa using na,λi hi=>?_,λi hi=>?_,λi j cj hj=>?_,λi j cj hj=>?_,?_,λj hj=>?_⟩
 ·rw [Ybc]at hi;rw [Ca hi];exact p.ib _ (by omega)
 ·rw [Ybc]at hi;rw [Ca hi];exact p.ia _ (by omega)
 ·rw [Ybc]at hj
  show lt (at0 b.reverse i) (at0 b.reverse j)=false
  rw [Ca hj,Ca (by omega)]
  exact p.ub _ _ (by omega) (by omega)
 ·rw [Ybc]at hj
  show lt (at0 a.reverse i) (at0 a.reverse j)=false
  rw [Ca hj,Ca (by omega)]
  exact p.ua _ _ (by omega) (by omega)
 ·show lt (at0 b.reverse 0) (at0 a.reverse 0)=true
  rw [Ca na,Ca nb]
  exact p.hl _ (by omega)
 ·rw [Ybc]at hj
  show lt (at0 b.reverse (b.reverse.size - 1)) (at0 a.reverse j)=true
  rw [Ybc,Ca hj,Ca (by omega),show b.size - 1 - (b.size - 1)=0 by omega]
  rcases Yej (a.size - 1 - j) with e | e
  ·rw [e];exact p.h0
  ·exact O.low (p.ib 0 nb) (p.ia 0 na) (p.ia _ (by omega)) p.h0 (p.ua 0 _ e (by omega))
theorem Mgd.fl{a b R:Array Nat}(h:Mgd (flp lt) b.reverse a.reverse R):Mgd lt a b R.reverse:=by
 refine⟨?_,?_⟩
 ·rw [Ycj]
  refine(List.reverse_perm _).trans (h.perm.trans ?_)
  rw [Ycj,Ycj]
  exact((List.reverse_perm _).append (List.reverse_perm _)).trans List.perm_append_comm
 ·rw [Ycj,List.pairwise_reverse]
  exact h.srt
structure HM(lt:Nat->Nat->Bool)(a b out:Array Nat)(na nb:Nat):Prop where
 ha:na<=a.size
 hb:nb<=b.size
 m:MI (flp lt) b.reverse a.reverse out (b.size - nb) (a.size - na)
section
variable {a b out:Array Nat}{na nb:Nat}
theorem J3.fl(h:J3 lt a):J3 (flp lt) a.reverse:=λi j cj hj=>by
 rw [Ybc]at hj
 show lt (at0 a.reverse i) (at0 a.reverse j)=false
 rw [Ca hj,Ca (by omega)]
 exact h _ _ (by omega) (by omega)
theorem HM.chunkA(h:HM lt a b out na nb)(ua:J3 lt a){k:Nat}(hk:k<=na)(ce:∀i,k<=i->i < na->∀j,j < nb->lt (at0 a i) (at0 b j)=false):HM lt a b (out++(a.extract k na).reverse) k nb:=by
 have h1:=h.ha
 have h2:=h.hb
 refine⟨by omega,h2,?_⟩
 have:=h.m.chunkB (k:=na - k) ua.fl (by rw [Ybc];omega) λi hi j j1 j2=>by
  rw [Ybc]at j2
  show lt (at0 a.reverse _) (at0 b.reverse j)=false
  rw [Ca j2,Ca (by omega)]
  exact ce _ (by omega) (by omega) _ (by omega)
 rw [Le a hk h1,show a.size - na+(na - k)=a.size - k by omega]at this
 exact this
theorem HM.chunkB(h:HM lt a b out na nb)(ub:J3 lt b){k:Nat}(hk:k<=nb)(ce:∀i,k<=i->i < nb->∀j,j < na->lt (at0 b i) (at0 a j)=false):HM lt a b (out++(b.extract k nb).reverse) na k:=by
 have h1:=h.ha
 have h2:=h.hb
 refine⟨h1,by omega,?_⟩
 have:=h.m.chunkA (k:=nb - k) ub.fl (by rw [Ybc];omega) λi hi j j1 j2=>by
  rw [Ybc]at j2
  show lt (at0 b.reverse _) (at0 a.reverse j)=false
  rw [Ca j2,Ca (by omega)]
  exact ce _ (by omega) (by omega) _ (by omega)
 rw [Le b hk h2,show b.size - nb+(nb - k)=b.size - k by omega]at this
 exact this
theorem Pu{p:Array Nat}{i:Nat}(h:i < p.size)(out:Array Nat):out.push (at0 p i)=out++(p.extract i (i+1)).reverse:=by
 rw [Ld h]
 congr 1
 apply Array.toList_inj.mp
 rw [Ycj,Bi,Ybn (by simpa using h)]
 simp
theorem HM.pushA(h:HM lt a b out na nb)(ua:J3 lt a)(h0:0 < na)(ce:∀j,j < nb->lt (at0 a (na - 1)) (at0 b j)=false):HM lt a b (out.push (at0 a (na - 1))) (na - 1) nb:=by
 have h1:=h.ha
 rw [Pu (show na - 1 < a.size by omega),show na - 1+1=na by omega]
 exact h.chunkA ua (by omega) λi i1 i2 j hj=>by rw [show i=na - 1 by omega];exact ce j hj
theorem HM.pushB(h:HM lt a b out na nb)(ub:J3 lt b)(h0:0 < nb)(ce:∀j,j < na->lt (at0 b (nb - 1)) (at0 a j)=false):HM lt a b (out.push (at0 b (nb - 1))) na (nb - 1):=by
 have h1:=h.hb
 rw [Pu (show nb - 1 < b.size by omega),show nb - 1+1=nb by omega]
 exact h.chunkB ub (by omega) λi i1 i2 j hj=>by rw [show i=nb - 1 by omega];exact ce j hj
theorem HM.doneA(h:HM lt a b out 0 nb)(ub:J3 lt b):Mgd lt a b (a.extract 0 0++b.extract 0 nb++out.reverse):=by
 have h2:=h.hb
 have:=(MI.doneB (a:=b.reverse) (b:=a.reverse) (by rw [Ybc];exact h.m) ub.fl).fl
 rw [Hr b h2,Ycv,Ycv,Ydz]at this
 rw [show(a.reverse.extract a.reverse.size a.reverse.size).reverse=a.extract 0 0 by simp,<- Yeg]at this
 exact this
theorem HM.doneB(h:HM lt a b out na 0)(ua:J3 lt a):Mgd lt a b (a.extract 0 na++b.extract 0 0++out.reverse):=by
 have h1:=h.ha
 have:=(MI.doneA (a:=b.reverse) (b:=a.reverse) (by rw [Ybc];exact h.m) ua.fl).fl
 rw [Hr a h1,Ycv,Ycv,Ydz]at this
 rw [show(b.reverse.extract b.reverse.size b.reverse.size).reverse=b.extract 0 0 by simp,<- Yeg]at this
 exact this
theorem HM.firstB(O:WeakOrd n lt)(p:MPre n lt a b)(h:HM lt a b out na 1):Mgd lt a b (b.extract 0 1++a.extract 0 na++out.reverse):=by
 have h1:=h.ha
 have h2:=h.hb
 have:=(h.m.lastA p.ub.fl p.ua.fl (by rw [Ybc];omega) ((p.fl O).le O.fl)).fl
 rw [Hr a h1,Hr b h2,Ycv,Ycv,Ydz,Ydz,<- Yeg]at this
 exact this
end
theorem mpR(out a:Array Nat)(i k:Nat):out.map (kas_item it)++((a.map (kas_item it)).extract i k).reverse=(out++(a.extract i k).reverse).map (kas_item it):=by
 rw [Ye9,Array.map_reverse,Yda]
theorem Zf(x y z:Array Nat)(i j k l:Nat):(x.map (kas_item it)).extract i j++(y.map (kas_item it)).extract k l++(z.map (kas_item it)).reverse=(x.extract i j++y.extract k l++z.reverse).map (kas_item it):=by
 rw [Ye9,Ye9,Array.map_reverse,Yda,Yda]
abbrev HiS:=Option (Array Keyed)×Nat×Nat×Array Keyed×Nat×Nat×Nat
def Xj(a b out:Array Keyed)(na nb mg ac bc:Nat):StateT SortSt Sem (ForInStep HiS) :=
 elem' a (na - 1) >>= λy =>
  if(na - 1==0)=true then pure (ForInStep.done (some (a.extract 0 (na - 1)++b.extract 0 nb++(out.push y).reverse),na - 1,nb,out.push y,mg,ac,bc))
  else if(decide (ac < 7) && decide (bc < 7))=true then pure (ForInStep.done (none,na - 1,nb,out.push y,mg,ac,bc))
  else pure (ForInStep.yield (none,na - 1,nb,out.push y,mg,ac,bc))
def Xk(a b out:Array Keyed)(na nb mg ac bc:Nat):StateT SortSt Sem (ForInStep HiS) :=
 elem' b (nb - 1) >>= λy =>
  if(nb - 1==1)=true then pure (ForInStep.done (some (b.extract 0 (nb - 1)++a.extract 0 na++(out.push y).reverse),na,nb - 1,out.push y,mg,ac,bc))
  else elem' a (na - 1) >>= λz=>gallop' true z b 0 (nb - 1) (nb - 1 - 1) >>= λx =>
   match x with
   | some k=>if nb - 1 - k > 0 then
     (if(k==1)=true then pure (ForInStep.done (some (b.extract 0 k++a.extract 0 na++(out.push y++(b.extract k (nb - 1)).reverse).reverse),na,k,out.push y++(b.extract k (nb - 1)).reverse,mg,ac,nb - 1 - k))
     else if(k==0)=true then pure (ForInStep.done (some (a.extract 0 na++b.extract 0 k++(out.push y++(b.extract k (nb - 1)).reverse).reverse),na,k,out.push y++(b.extract k (nb - 1)).reverse,mg,ac,nb - 1 - k))
     else Xj a b (out.push y++(b.extract k (nb - 1)).reverse) na k mg ac (nb - 1 - k))
    else Xj a b (out.push y) na (nb - 1) mg ac (nb - 1 - k)
   | _=>pure (ForInStep.done (some (a.extract 0 na++b.extract 0 (nb - 1)++(out.push y).reverse),na,nb - 1,out.push y,mg,ac,bc))
def Qbq(a b out:Array Keyed)(na nb mg ac bc:Nat):StateT SortSt Sem (ForInStep HiS) :=
 setMinGallop' mg >>= λ_=>elem' b (nb - 1) >>= λy=>gallop' false y a 0 na (na - 1) >>= λx =>
  match x with
  | some k=>if na - k > 0 then
    (if(k==0)=true then pure (ForInStep.done (some (a.extract 0 k++b.extract 0 nb++(out++(a.extract k na).reverse).reverse),k,nb,out++(a.extract k na).reverse,mg,na - k,bc))
    else Xk a b (out++(a.extract k na).reverse) k nb mg (na - k) bc)
   else Xk a b out na nb mg (na - k) bc
  | _=>pure (ForInStep.done (some (a.extract 0 na++b.extract 0 nb++out.reverse),na,nb,out,mg,ac,bc))
structure HMid(lt:Nat->Nat->Bool)(it:Array Keyed)(a b:Array Nat)(q:Nat)(o:Array Keyed)(na nb:Nat):Prop where
 m:∃out:Array Nat,o=out.map (kas_item it)/\HM lt a b out na nb
 ha:0 < na
 hb:1 < nb
 q:na+nb+q<=a.size+b.size
section
variable {a b:Array Nat}{st:SortSt}{Qd Qy:HiS->SortSt->Prop}{out:Array Nat}{na nb mg ac bc:Nat}
theorem Zg(O:WeakOrd n lt)(p:MPre n lt a b)(M:HM lt a b out na nb)(ha:0 < na)(hb:1 < nb)(ce:∀j,j < nb->lt (at0 a (na - 1)) (at0 b j)=false){q:Nat}(hq:na+nb+q<=a.size+b.size)
  (fin:∀R c,Mgd lt a b R->c.1=some (R.map (kas_item it))->Qd c st) (go:∀o i j m x y,HMid lt it a b (q+1) o i j->Qd (none,i,j,o,m,x,y) st/\Qy (none,i,j,o,m,x,y) st) :
  wpS (model prog w) A E s (Xj (a.map (kas_item it)) (b.map (kas_item it)) (out.map (kas_item it)) na nb mg ac bc) (λr ag=>match r with | .done c'=>Qd c' ag | .yield c'=>Qy c' ag) st:=by
 have h1:=M.ha
 unfold Xj
 refine Yam (Bd (by omega) ?_)
 have M1:=M.pushA p.ua ha ce
 simp only [Zc,Zf]
 by_cases e:na - 1=0
 ·rw [Yao (by simpa using e)]
  refine Yat (fin _ _ (show Mgd lt a b (a.extract 0 (na - 1)++b.extract 0 nb++(out.push (at0 a (na - 1))).reverse) from ?_) rfl)
  have:=(show HM lt a b (out.push (at0 a (na - 1))) 0 nb by rw [<- e];rw [e]at M1 ⊢;exact M1).doneA p.ub
  rw [e]at this ⊢
  exact this
 ·rw [Yaj (by simpa using e)]
  have g:=go _ _ _ mg ac bc (⟨⟨_,rfl,M1⟩,by omega,hb,by omega⟩:HMid lt it a b (q+1) _ (na - 1) nb)
  by_cases e4:(decide (ac < 7) && decide (bc < 7))=true
  ·rw [Yao e4];exact Yat g.1
  ·rw [Yaj e4];exact Yat g.2
theorem Zh(O:WeakOrd n lt)(hc:Cmp prog w A κ it n lt s)(hk:kindOf st=κ)(p:MPre n lt a b)(M:HM lt a b out na nb)(ha:0 < na)(hb:1 < nb)(ce:∀j,j < na->lt (at0 b (nb - 1)) (at0 a j)=false){q:Nat}(hq:na+nb+q<=a.size+b.size)
  (fin:∀R c,Mgd lt a b R->c.1=some (R.map (kas_item it))->Qd c st) (go:∀o i j m x y,HMid lt it a b (q+1) o i j->Qd (none,i,j,o,m,x,y) st/\Qy (none,i,j,o,m,x,y) st) :
  wpS (model prog w) A E s (Xk (a.map (kas_item it)) (b.map (kas_item it)) (out.map (kas_item it)) na nb mg ac bc) (λr ag=>match r with | .done c'=>Qd c' ag | .yield c'=>Qy c' ag) st:=by
 have h1:=M.ha
 have h2:=M.hb
 unfold Xk
 refine Yam (Bd (by omega) ?_)
 have M1:=M.pushB p.ub (by omega) ce
 simp only [Zc]
 by_cases e:nb - 1=1
 ·rw [Yao (by simpa using e)]
  simp only [Zf]
  refine Yat (fin _ _ (show Mgd lt a b (b.extract 0 (nb - 1)++a.extract 0 na++(out.push (at0 b (nb - 1))).reverse) from ?_) rfl)
  rw [e]at M1 ⊢
  exact M1.firstB O p
 ·rw [Yaj (by simpa using e)]
  refine Yam (Bd (by omega) ?_)
  refine Yam (Qbo O hc hk (by omega) (by omega) p.ib (p.ia (na - 1) (by omega)) (λi j _ h2 h3=>p.ub i j h2 (by omega)) λk k1 k2 k3=>?_)
  dsimp only
  simp only [Nat.zero_add]at k2 k3
  have wu:∀i,k<=i->i < nb - 1->∀j,j < na->lt (at0 b i) (at0 a j)=false:=λi i1 i2 j hj=>by
   have e1:=k3 i i1 i2
   rcases Ya5 (show j<=na - 1 by omega) with rfl | hj'
   ·exact e1
   ·exact O.tr _ _ _ (p.ia j (by omega)) (p.ia (na - 1) (by omega)) (p.ib i (by omega)) (p.ua j (na - 1) hj' (by omega)) e1
  have M2:=M1.chunkB p.ub (k:=k) k1 wu
  by_cases kp:nb - 1 - k > 0
  ·rw [Yao kp]
   simp only [mpR,Zf]
   by_cases e1:k=1
   ·rw [Yao (by simpa using e1)]
    refine Yat (fin _ _ (show Mgd lt a b (b.extract 0 k++a.extract 0 na++(out.push (at0 b (nb - 1))++(b.extract k (nb - 1)).reverse).reverse) from ?_) rfl)
    subst e1
    exact M2.firstB O p
   ·rw [Yaj (by simpa using e1)]
    by_cases e2:k=0
    ·rw [Yao (by simpa using e2)]
     refine Yat (fin _ _ (show Mgd lt a b (a.extract 0 na++b.extract 0 k++(out.push (at0 b (nb - 1))++(b.extract k (nb - 1)).reverse).reverse) from ?_) rfl)
     subst e2
     exact M2.doneB p.ua
    ·rw [Yaj (by simpa using e2)]
     exact Zg O p M2 ha (by omega) (λj hj=>O.asy _ _ (p.ib j (by omega)) (p.ia _ (by omega)) (k2 j hj)) (q:=q) (by omega) fin go
  ·rw [Yaj kp]
   exact Zg O p M1 ha (by omega) (λj hj=>O.asy _ _ (p.ib j (by omega)) (p.ia _ (by omega)) (k2 j (by omega))) (q:=q) (by omega) fin go
theorem Qe3(O:WeakOrd n lt)(hc:Cmp prog w A κ it n lt s)(hk:kindOf st=κ)(p:MPre n lt a b)(M:HM lt a b out na nb)(ha:0 < na)(hb:1 < nb){q:Nat}(hq:na+nb+q<=a.size+b.size)
  (fin:∀R c,Mgd lt a b R->c.1=some (R.map (kas_item it))->Qd c (Bp st mg)) (go:∀o i j m x y,HMid lt it a b (q+1) o i j->Qd (none,i,j,o,m,x,y) (Bp st mg)/\Qy (none,i,j,o,m,x,y) (Bp st mg)) :
  wpS (model prog w) A E s (Qbq (a.map (kas_item it)) (b.map (kas_item it)) (out.map (kas_item it)) na nb mg ac bc) (λr ag=>match r with | .done c'=>Qd c' ag | .yield c'=>Qy c' ag) st:=by
 have h1:=M.ha
 have h2:=M.hb
 unfold Qbq
 rw [B7]
 refine Yam (Yc5 (Yam (Bd (by omega) ?_)))
 refine Yam (Qbn O hc (st:=Bp st mg) hk (by omega) (by omega) p.ia (p.ib (nb - 1) (by omega)) (λi j _ h2 h3=>p.ua i j h2 (by omega)) λk k1 k2 k3=>?_)
 dsimp only
 simp only [Nat.zero_add]at k2 k3
 have wu:∀i,k<=i->i < na->∀j,j < nb->lt (at0 a i) (at0 b j)=false:=λi i1 i2 j hj=>by
  have e1:=O.asy _ _ (p.ib (nb - 1) (by omega)) (p.ia i (by omega)) (k3 i i1 i2)
  rcases Ya5 (show j<=nb - 1 by omega) with rfl | hj'
  ·exact e1
  ·exact O.tr _ _ _ (p.ib j (by omega)) (p.ib (nb - 1) (by omega)) (p.ia i (by omega)) (p.ub j (nb - 1) hj' (by omega)) e1
 have M1:=M.chunkA p.ua (k:=k) k1 wu
 by_cases kp:na - k > 0
 ·rw [Yao kp]
  simp only [mpR,Zf]
  by_cases e1:k=0
  ·rw [Yao (by simpa using e1)]
   refine Yat (fin _ _ (show Mgd lt a b (a.extract 0 k++b.extract 0 nb++(out++(a.extract k na).reverse).reverse) from ?_) rfl)
   subst e1
   exact M1.doneA p.ub
  ·rw [Yaj (by simpa using e1)]
   exact Zh O hc (st:=Bp st mg) hk p M1 (by omega) hb k2 (q:=q) (by omega) fin go
 ·rw [Yaj kp]
  exact Zh O hc (st:=Bp st mg) hk p M ha hb (λj hj=>k2 j (by omega)) (q:=q) hq fin go
end
theorem MPre.last{a b:Array Nat}(O:WeakOrd n lt)(p:MPre n lt a b):HM lt a b #[at0 a (a.size - 1)] (a.size - 1) b.size:=by
 have na:=p.na
 have nb:=p.nb
 have h0:HM lt a b #[] a.size b.size:=⟨Yad _,Yad _,by rw [Yfn,Yfn];exact MI.zero _ _⟩
 exact h0.pushA p.ua na λj hj=>p.le O j hj
theorem Rx(O:WeakOrd n lt)(hc:Cmp prog w A κ it n lt s){a b:Array Nat}{st:SortSt}(hk:kindOf st=κ)(p:MPre n lt a b){Q:Array Keyed->SortSt->Prop}(h:∀R g,Mgd lt a b R->Q (R.map (kas_item it)) (Bp st g)) :
  wpS (model prog w) A E s (mergeHi' (a.map (kas_item it)) (b.map (kas_item it))) Q st:=by
 rw [Ml]
 dsimp only
 have M0:=p.last O
 have na:=p.na
 have nb:=p.nb
 have sa:(a.map (kas_item it)).size=a.size:=Ydt ..
 have sb:(b.map (kas_item it)).size=b.size:=Ydt ..
 have e0:#[kas_item it (a.getD (a.size - 1) 0)]=(#[at0 a (a.size - 1)]:Array Nat).map (kas_item it):=by simp
 refine Yam (wpS_lift (Yco ⟨rfl,?_⟩))
 refine Yam (Bd (by omega) ?_)
 rw [sa,e0]
 by_cases e1:a.size - 1=0
 ·rw [Yao (by simpa using e1)]
  simp only [sb,Zf]
  refine Yat (h _ (gallopOf st) ?_)
  have:=(show HM lt a b #[at0 a (a.size - 1)] 0 b.size by rw [e1]at M0 ⊢;exact M0).doneA p.ub
  rw [e1]at this ⊢
  exact this
 rw [Yaj (by simpa using e1)]
 by_cases e2:b.size=1
 ·rw [Yao (by simpa using e2)]
  simp only [sb,Zf]
  refine Yat (h _ (gallopOf st) ?_)
  rw [e2]at M0 ⊢
  exact M0.firstB O p
 rw [Yaj (by simpa using e2)]
 refine Yam (Yfk ?_)
 refine Yam (Ycm (Yb0 (I:=λx c ag=>(∃g,ag=Bp st g)/\c.1=none/\HMid lt it a b (1+x) c.2.2.2.1 c.2.1 c.2.2.1) (Q:=λc ag=>(∃g,ag=Bp st g)/\∃R,c.1=some (R.map (kas_item it))/\Mgd lt a b R) ?_ ?_ ⟨⟨gallopOf st,rfl⟩,rfl,⟨_,rfl,by rw [sb];exact M0⟩,by show 0 < a.size - 1;omega,by show 1 < (b.map (kas_item it)).size;omega,by show a.size - 1+(b.map (kas_item it)).size+(1+0)<=_;omega⟩) ?_)
 ·rintro x ⟨c1,ia,ib,o,mg⟩ ag _ hx ⟨⟨g,rfl⟩,rfl,⟨out,eo,M⟩,ha,hb,hq⟩
  dsimp only at eo M ha hb hq ⊢
  subst eo
  refine Yam (Ycm (Yb0 (I:=λy c ag=>ag=Bp st g/\c.1=none/\HMid lt it a b (1+x+y) c.2.2.2.1 c.2.1 c.2.2.1) (Q:=λc ag=>ag=Bp st g/\((∃R,c.1=some (R.map (kas_item it))/\Mgd lt a b R)\/(c.1=none/\HMid lt it a b (1+x+1) c.2.2.2.1 c.2.1 c.2.2.1))) ?_ ?_ ⟨rfl,rfl,⟨out,rfl,M⟩,ha,hb,hq⟩) ?_)
  ·clear M ha hb hq
   rintro y ⟨c1,ja,jb,o,ac,bc⟩ ag _ hy ⟨rfl,rfl,⟨out,eo,M⟩,ha,hb,hq'⟩
   dsimp only at eo M ha hb hq' ⊢
   subst eo
   have h1:=M.ha
   have h2:=M.hb
   refine Yam (Bd (by omega) (Yam (Bd (by omega) (Yam (Ub hc (st:=Bp st g) hk (p.ib _ (by omega)) (p.ia _ (by omega)) ?_)))))
   dsimp only
   cases e:lt (b.getD (jb - 1) 0) (a.getD (ja - 1) 0) with
   | true =>
    rw [Yao rfl]
    refine Yam (Bd (by omega) ?_)
    have M1:=M.pushA p.ua ha λj hj=>by
     have e':=O.asy _ _ (p.ib _ (by omega)) (p.ia (ja - 1) (by omega)) e
     rcases Ya5 (show j<=jb - 1 by omega) with rfl | hj'
     ·exact e'
     ·exact O.tr _ _ _ (p.ib j (by omega)) (p.ib (jb - 1) (by omega)) (p.ia (ja - 1) (by omega)) (p.ub j (jb - 1) hj' (by omega)) e'
    simp only [Zc]
    by_cases e3:ja - 1=0
    ·rw [Yao (by simpa using e3)]
     simp only [Zf]
     refine Yat ⟨rfl,.inl ⟨_,rfl,?_⟩⟩
     have:=(show HM lt a b (out.push (at0 a (ja - 1))) 0 jb by rw [e3]at M1 ⊢;exact M1).doneA p.ub
     rw [e3]at this ⊢
     exact this
    ·rw [Yaj (by simpa using e3)]
     by_cases e4:ac+1>=mg <;> simp only [e4,if_true,if_false]
     ·exact Yat ⟨rfl,.inr ⟨rfl,⟨_,rfl,M1⟩,by show 0 < ja - 1;omega,hb,by show ja - 1+jb+_<=_;omega⟩⟩
     ·exact Yat ⟨rfl,rfl,⟨_,rfl,M1⟩,by show 0 < ja - 1;omega,hb,by show ja - 1+jb+_<=_;omega⟩
   | false =>
    rw [Yaj Yag]
    refine Yam (Bd (by omega) ?_)
    have M1:=M.pushB p.ub (by omega) λj hj=>by
     rcases Ya5 (show j<=ja - 1 by omega) with rfl | hj'
     ·exact e
     ·exact O.tr _ _ _ (p.ia j (by omega)) (p.ia (ja - 1) (by omega)) (p.ib (jb - 1) (by omega)) (p.ua j (ja - 1) hj' (by omega)) e
    simp only [Zc]
    by_cases e3:jb - 1=1
    ·rw [Yao (by simpa using e3)]
     simp only [Zf]
     refine Yat ⟨rfl,.inl ⟨_,rfl,?_⟩⟩
     rw [e3]at M1 ⊢
     exact M1.firstB O p
    ·rw [Yaj (by simpa using e3)]
     by_cases e4:bc+1>=mg <;> simp only [e4,if_true,if_false]
     ·exact Yat ⟨rfl,.inr ⟨rfl,⟨_,rfl,M1⟩,ha,by show 1 < jb - 1;omega,by show ja+(jb - 1)+_<=_;omega⟩⟩
     ·exact Yat ⟨rfl,rfl,⟨_,rfl,M1⟩,ha,by show 1 < jb - 1;omega,by show ja+(jb - 1)+_<=_;omega⟩
  ·rintro c ag ⟨_,_,⟨out,_,M⟩,ha',jz,hq'⟩
   omega
  ·rintro⟨c1,ja,jb,o,ac,bc⟩ ag ⟨rfl,⟨R,rfl,hR⟩ | ⟨rfl,hM⟩⟩
   ·exact Yat ⟨⟨g,rfl⟩,R,rfl,hR⟩
   ·dsimp only at hM ⊢
    refine Yam (wpS_lift (Yco ⟨rfl,?_⟩))
    refine Yam (Ycm (Yb0 (I:=λy c ag=>(∃g,ag=Bp st g)/\c.1=none/\HMid lt it a b (1+x+1+y) c.2.2.2.1 c.2.1 c.2.2.1) (Q:=λc ag=>(∃g,ag=Bp st g)/\((∃R,c.1=some (R.map (kas_item it))/\Mgd lt a b R)\/(c.1=none/\HMid lt it a b (1+x+1) c.2.2.2.1 c.2.1 c.2.2.1))) ?_ ?_ ⟨⟨g,rfl⟩,rfl,hM⟩) ?_)
    ·clear hM
     rintro y ⟨c1,ja,jb,o,mg,ac,bc⟩ ag _ hy ⟨⟨g,rfl⟩,rfl,⟨out,eo,M⟩,ha,hb,hq'⟩
     dsimp only at eo M ha hb hq' ⊢
     subst eo
     have key:∀mg,wpS (model prog w) A E s (Qbq (a.map (kas_item it)) (b.map (kas_item it)) (out.map (kas_item it)) ja jb mg ac bc) _ (Bp st g):=λmg =>
      Qe3 (Qd:=λc ag=>(∃g,ag=Bp st g)/\((∃R,c.1=some (R.map (kas_item it))/\Mgd lt a b R)\/(c.1=none/\HMid lt it a b (1+x+1) c.2.2.2.1 c.2.1 c.2.2.1)))
       (Qy:=λc ag=>(∃g,ag=Bp st g)/\c.1=none/\HMid lt it a b (1+x+1+(y+1)) c.2.2.2.1 c.2.1 c.2.2.1) O hc (st:=Bp st g) hk p M ha hb (q:=1+x+1+y) hq' (λR c hR e=>⟨⟨mg,rfl⟩,.inl ⟨R,e,hR⟩⟩)
       λo i j m x y hm=>⟨⟨⟨mg,rfl⟩,.inr ⟨rfl,hm.m,hm.ha,hm.hb,by have:=hm.q;show i+j+_<=_;omega⟩⟩,⟨mg,rfl⟩,rfl,hm.m,hm.ha,hm.hb,by have:=hm.q;show i+j+_<=_;omega⟩
     by_cases e4:mg > 1
     ·rw [Yao e4]
      refine Ycm (key (mg - 1)) ?_
      rintro(c | c) ag hh <;> exact hh
     ·rw [Yaj e4]
      refine Ycm (key mg) ?_
      rintro(c | c) ag hh <;> exact hh
    ·rintro c ag ⟨⟨g,rfl⟩,h1,h2⟩
     exact⟨⟨g,rfl⟩,.inr ⟨h1,h2.m,h2.ha,h2.hb,by have:=h2.q;omega⟩⟩
    ·rintro⟨c1,ja,jb,o,mg,ac,bc⟩ ag ⟨⟨g,rfl⟩,⟨R,rfl,hR⟩ | ⟨rfl,hM⟩⟩
     ·exact Yat ⟨⟨g,rfl⟩,R,rfl,hR⟩
     ·dsimp only at hM ⊢
      rw [B7]
      refine Yam (Yc5 (Yat ⟨⟨_,rfl⟩,rfl,hM.m,hM.ha,hM.hb,?_⟩))
      have:=hM.q
      show ja+jb+_<=_
      omega
 ·rintro c ag ⟨_,_,⟨out,_,M⟩,ha',jz,hq'⟩
  omega
 ·rintro⟨c1,o⟩ ag ⟨⟨g,rfl⟩,R,rfl,hR⟩
  exact Yat (h R g hR)
end
theorem Mm(i:Nat):mergeAt' i=(do
 let s <- get
 let(some (sa,na,power),some (sb,nb,_)):=((pendingOf s)[i]?,(pendingOf s)[i+1]?) | unsupported "internal:list.sort.pending"
 set (setPending s (((pendingOf s).setIfInBounds i (sa,na+nb,power)).eraseIdxIfInBounds (i+1)))
 let some k <- gallop' false (<- elem' (arrOf s) sb) (arrOf s) sa na 0 | return false
 let(sa,na):=(sa+k,na - k)
 if na==0 then return true
 let some nb <- gallop' true (<- elem' (arrOf s) (sa+na - 1)) (arrOf s) sb nb (nb - 1) | return false
 if nb==0 then return true
 let x:=(arrOf s).extract sa sb
 let y:=(arrOf s).extract sb (sb+nb)
 let merged <- if na<=nb then mergeLo' x y else mergeHi' x y
 modify λs=>setArr s (merged.toList.zipIdx.foldl (λa (p,j)=>a.setIfInBounds (sa+j) p) (arrOf s))
 return (failedOf (<- get)).isNone):=rfl
section
variable {prog:Program}{w:World}{A:Around}{E:Value->Shared->Prop}{s:Shared}{κ:SortKind}{it:Array Keyed}{n:Nat}{lt:Nat->Nat->Bool}
def SS(κ:SortKind)(it:Array Keyed)(p:Array Nat)(pd:Array (Nat×Nat×Nat))(g:Nat):SortSt:=SortSt.mk' κ (p.map (kas_item it)) pd g none
def Seg(lt:Nat->Nat->Bool)(p:Array Nat)(lo len:Nat):Prop:=∀i j,lo<=i->i < j->j < lo+len->lt (at0 p j) (at0 p i)=false
theorem Xl{σ:Type}{M:Model}{x:σ}{Q:PUnit->σ->Prop}{st:σ}(h:Q ⟨⟩ x):wpS M A E s (set x:StateT σ Sem PUnit) Q st:=by
 unfold wpS;rw [StateT.run_set];exact Yac ⟨rfl,h⟩
def wr{α:Type}(bn:Nat):List α->Nat->Array α->Array α
 | [],_,p=>p
 | x :: xs,k,p=>wr bn xs (k+1) (p.setIfInBounds (bn+k) x)
theorem Pw{α:Type}(bn:Nat):∀(xs:List α) (k:Nat) (p:Array α),(xs.zipIdx k).foldl (λa (z:α×Nat)=>a.setIfInBounds (bn+z.2) z.1) p=wr bn xs k p
 | [],_,_=>rfl
 | x :: xs,k,p=>by
  rw [List.zipIdx_cons,Ycf,wr]
  exact Pw bn xs (k+1) _
theorem Uc{α β:Type}(f:α->β)(bn:Nat):∀(xs:List α) (k:Nat) (p:Array α),wr bn (xs.map f) k (p.map f)=(wr bn xs k p).map f
 | [],_,_=>rfl
 | x :: xs,k,p=>by
  rw [Ya2,wr,wr,<- Uc f bn xs (k+1)]
  congr 1
  rw [Array.map_setIfInBounds]
theorem Px{α:Type}(bn:Nat):∀(xs:List α) (k:Nat) (p:Array α),(wr bn xs k p).size=p.size
 | [],_,_=>rfl
 | x :: xs,k,p=>by rw [wr,Px bn xs,Yed]
theorem N3{α:Type}(bn:Nat):∀(xs:List α) (k:Nat) (p:Array α),bn+k+xs.length<=p.size->∀i:Nat,(wr bn xs k p)[i]?=if bn+k<=i/\i < bn+k+xs.length then xs[i - (bn+k)]? else p[i]?
 | [],k,p,_,i=>by rw [wr,Yaj (by simp only [List.length_nil];omega)]
 | x :: xs,k,p,h,i=>by
  rw [Ya9]at h
  rw [wr,N3 bn xs (k+1) _ (by rw [Yed];omega),Array.getElem?_setIfInBounds,Ya9]
  by_cases h1:bn+k=i
  ·subst h1
   rw [Yaj (by omega),Yao rfl,Yao (by omega),Yao (by omega),Yfn];rfl
  ·by_cases h2:bn+(k+1)<=i/\i < bn+(k+1)+xs.length
   ·rw [Yao h2,Yao (by omega)]
    rw [show i - (bn+k)=i - (bn+(k+1))+1 by omega,List.getElem?_cons_succ]
   ·rw [Yaj h2,Yaj h1,Yaj (by omega)]
theorem Ff{p q:Array Nat}{i j:Nat}(h:p[i]?=q[j]?):at0 p i=at0 q j:=by
 unfold at0
 rw [Ybb,Ybb,h]
theorem Ud{p:Array Nat}{xs:List Nat}{i j:Nat}{d:Nat}(h:p[i]?=xs[j]?)(hj:j < xs.length):at0 p i=xs[j]:=by
 unfold at0
 rw [Ybb,h,List.getElem?_eq_getElem hj];rfl
theorem Xm(bn:Nat)(R:List Nat)(p:Array Nat)(h:bn+R.length<=p.size):(wr bn R 0 p).toList=p.toList.take bn++R++p.toList.drop (bn+R.length):=by
 apply Ycy
 intro i
 rw [Array.getElem?_toList,N3 bn R 0 p h]
 simp only [Nat.add_zero]
 have hl:(p.toList.take bn).length=bn:=by rw [Ybl,Yas];omega
 by_cases h1:i < bn
 ·rw [Yaj (by omega),Yca,List.getElem?_append_left (by omega),List.getElem?_take_of_lt h1,Array.getElem?_toList]
 ·by_cases h2:i < bn+R.length
  ·rw [Yao (by omega),List.getElem?_append_left (by rw [Yal];omega),List.getElem?_append_right (by omega),hl]
  ·rw [Yaj (by omega),List.getElem?_append_right (by rw [Yal];omega),Yal,hl,List.getElem?_drop,Array.getElem?_toList]
   congr 1;omega
theorem Dw{p:Array Nat}{i j k:Nat}(h:i+k < j)(hj:j<=p.size):at0 (p.extract i j) k=at0 p (i+k):=Ff (by
 rw [Array.getElem?_extract]
 rw [Yao (by omega)])
theorem Xn{p:Array Nat}{i j k:Nat}(h1:i<=j)(h2:j<=k):(p.extract i j).toList++(p.extract j k).toList=(p.toList.drop i).take (k - i):=by
 rw [show j=i+(j - i) by omega,Bi,show i+(j - i)=j by omega,show k=j+(k - j) by omega,Bi,show j+(k - j) - i=(j - i)+(k - j) by omega,List.take_add,List.drop_drop,show i+(j - i)=j by omega]
structure Kept(p p':Array Nat)(lo hi:Nat):Prop where
 size:p'.size=p.size
 perm:p'.toList.Perm p.toList
 same:∀i,i < lo\/hi<=i->at0 p' i=at0 p i
theorem Kept.refl{p:Array Nat}{lo hi:Nat}:Kept p p lo hi:=⟨rfl,.refl _,λ_ _=>rfl⟩
theorem Kept.trans{p q r:Array Nat}{lo hi:Nat}(h:Kept p q lo hi)(k:Kept q r lo hi):Kept p r lo hi:=⟨k.size.trans h.size,k.perm.trans h.perm,λi hi=>(k.same i hi).trans (h.same i hi)⟩
theorem Kept.mono{p q:Array Nat}{lo hi kw df:Nat}(h:Kept p q lo hi)(h1:kw<=lo)(h2:hi<=df):Kept p q kw df:=⟨h.size,h.perm,λi hi=>h.same i (by omega)⟩
theorem Xo{p:Array Nat}{x:Nat}(h:x∈p.toList):∃i,i < p.size/\x=at0 p i:=by
 obtain⟨i,hi,e⟩:=Ydk h
 rw [Yas]at hi
 refine⟨i,hi,?_⟩
 rw [<- e];simp [at0,Array.getD,hi]
theorem Xp{p:Array Nat}{i:Nat}(h:i < p.size):at0 p i∈p.toList:=by
 simp [at0,Array.getD,h]
theorem Kept.in{p p':Array Nat}{lo hi:Nat}(h:Kept p p' lo hi)(hp:In n p):In n p':=λi hi=>by
 obtain⟨j,hj,e⟩:=Xo (h.perm.mem_iff.mp (Xp hi))
 rw [e];exact hp j hj
theorem Seg.kept{p p':Array Nat}{lo hi a len:Nat}(h:Seg lt p a len)(k:Kept p p' lo hi)(ho:a+len<=lo\/hi<=a):Seg lt p' a len:=λi j h1 h2 h3=>by
 rw [k.same i (by omega),k.same j (by omega)]
 exact h i j h1 h2 h3
theorem Ry(O:WeakOrd n lt)(hc:Cmp prog w A κ it n lt s){p:Array Nat}{pd:Array (Nat×Nat×Nat)}{g i sa na pw nb tz:Nat}(hp:In n p)(h1:pd[i]?=some (sa,na,pw))(h2:pd[i+1]?=some (sa+na,nb,tz))(ha:0 < na)(hb:0 < nb)(hs:sa+na+nb<=p.size)
  (sA:Seg lt p sa na) (sB:Seg lt p (sa+na) nb) {Q:Bool->SortSt->Prop}
  (h:∀p' g',Kept p p' sa (sa+na+nb)->Seg lt p' sa (na+nb)->Q true (SS κ it p' ((pd.setIfInBounds i (sa,na+nb,pw)).eraseIdxIfInBounds (i+1)) g')):wpS (model prog w) A E s (mergeAt' i) Q (SS κ it p pd g):=by
 rw [Mm]
 refine Yam (Yfk ?_)
 have e1:(pendingOf (SS κ it p pd g))[i]?=some (sa,na,pw):=h1
 have e2:(pendingOf (SS κ it p pd g))[i+1]?=some (sa+na,nb,tz):=h2
 rw [e1,e2]
 dsimp only
 have vg:arrOf (SS κ it p pd g)=p.map (kas_item it):=rfl
 rw [vg]
 refine Yam (Xl (Yam (Bd (by omega) ?_)))
 have hl:=λi (hi:i < p.size)=>hp i hi
 refine Yam (Qbn O hc (st:=SS κ it p ((pd.setIfInBounds i (sa,na+nb,pw)).eraseIdxIfInBounds (i+1)) g) rfl ha (by omega) hp (hl _ (by omega)) (λx y a1 a2 a3=>sA x y a1 a2 a3) λk k1 k2 k3=>?_)
 dsimp only
 have low:∀x,sa<=x->x < sa+k->lt (at0 p (sa+na)) (at0 p x)=false:=λx a1 a2=>by
  have:=k2 (x - sa) (by omega)
  rwa [show sa+(x - sa)=x by omega]at this
 have oi:∀y,sa+na<=y->y < sa+na+nb->lt (at0 p y) (at0 p (sa+na))=false:=λy a1 a2=>by
  rcases Ya5 a1 with rfl | a1
  ·exact O.irr (hl _ (by omega))
  ·exact sB _ y (Yad _) a1 (by omega)
 have kn:∀x y,sa<=x->x < sa+k->sa+na<=y->y < sa+na+nb->lt (at0 p y) (at0 p x)=false:=λx y a1 a2 a3 a4 =>
  O.tr _ _ _ (hl x (by omega)) (hl (sa+na) (by omega)) (hl y (by omega)) (low x a1 a2) (oi y a3 a4)
 by_cases c1:na - k=0
 ·rw [Yao (by simpa using c1)]
  refine Yat (h p g .refl λx y a1 a2 a3=>?_)
  by_cases c2:y < sa+na
  ·exact sA x y a1 a2 c2
  ·by_cases c3:x < sa+na
   ·exact kn x y a1 (by omega) (by omega) (by omega)
   ·exact sB x y (by omega) a2 (by omega)
 rw [Yaj (by simpa using c1)]
 refine Yam (Bd (by omega) ?_)
 refine Yam (Qbo O hc (st:=SS κ it p ((pd.setIfInBounds i (sa,na+nb,pw)).eraseIdxIfInBounds (i+1)) g) rfl (by omega) (by omega) hp (hl _ (by omega)) (λx y a1 a2 a3=>sB x y a1 a2 a3) λm m1 m2 m3=>?_)
 dsimp only
 have el:sa+k+(na - k) - 1=sa+na - 1:=by omega
 rw [el]at m2 m3
 have ato:∀x,sa<=x->x < sa+na->lt (at0 p (sa+na - 1)) (at0 p x)=false:=λx a1 a2=>by
  rcases Ya5 (show x<=sa+na - 1 by omega) with rfl | a2'
  ·exact O.irr (hl _ (by omega))
  ·exact sA x _ a1 a2' (by omega)
 have high:∀x y,sa<=x->x < sa+na->sa+na+m<=y->y < sa+na+nb->lt (at0 p y) (at0 p x)=false:=λx y a1 a2 a3 a4=>by
  have:=m3 (y - (sa+na)) (by omega) (by omega)
  rw [show sa+na+(y - (sa+na))=y by omega]at this
  exact O.tr _ _ _ (hl x (by omega)) (hl (sa+na - 1) (by omega)) (hl y (by omega)) (ato x a1 a2) this
 by_cases c2:m=0
 ·rw [Yao (by simpa using c2)]
  refine Yat (h p g .refl λx y a1 a2 a3=>?_)
  by_cases c3:y < sa+na
  ·exact sA x y a1 a2 c3
  ·by_cases c4:x < sa+na
   ·exact high x y a1 c4 (by omega) (by omega)
   ·exact sB x y (by omega) a2 (by omega)
 rw [Yaj (by simpa using c2)]
 have x1:(p.map (kas_item it)).extract (sa+k) (sa+na)=(p.extract (sa+k) (sa+na)).map (kas_item it):=Yda.symm
 have x2:(p.map (kas_item it)).extract (sa+na) (sa+na+m)=(p.extract (sa+na) (sa+na+m)).map (kas_item it):=Yda.symm
 rw [x1,x2]
 have z1:(p.extract (sa+k) (sa+na)).size=na - k:=by rw [Yel];omega
 have z2:(p.extract (sa+na) (sa+na+m)).size=m:=by rw [Yel];omega
 have pre:MPre n lt (p.extract (sa+k) (sa+na)) (p.extract (sa+na) (sa+na+m)):=by
  refine⟨by omega,by omega,λx hx=>?_,λx hx=>?_,λx y a1 a2=>?_,λx y a1 a2=>?_,?_,λy hy=>?_⟩
  ·rw [z1]at hx;rw [Dw (by omega) (by omega)];exact hl _ (by omega)
  ·rw [z2]at hx;rw [Dw (by omega) (by omega)];exact hl _ (by omega)
  ·rw [z1]at a2;rw [Dw (by omega) (by omega),Dw (by omega) (by omega)];exact sA _ _ (by omega) (by omega) (by omega)
  ·rw [z2]at a2;rw [Dw (by omega) (by omega),Dw (by omega) (by omega)];exact sB _ _ (by omega) (by omega) (by omega)
  ·rw [Dw (by omega) (by omega),Dw (by omega) (by omega)]
   have:=k3 k (Yad _) (by omega)
   exact this
  ·rw [z2]at hy
   rw [z1,Dw (by omega) (by omega),Dw (by omega) (by omega),show sa+k+(na - k - 1)=sa+na - 1 by omega]
   exact m2 y hy
 have fin:∀(R:Array Nat) (g':Nat),Mgd lt (p.extract (sa+k) (sa+na)) (p.extract (sa+na) (sa+na+m)) R ->
   Q true (SS κ it (wr (sa+k) R.toList 0 p) ((pd.setIfInBounds i (sa,na+nb,pw)).eraseIdxIfInBounds (i+1)) g'):=λR g' hR=>by
  have hRl:R.toList.length=na - k+m:=by
   have:=hR.perm.length_eq
   rw [Yal,Yas,Yas,Yas,z1,z2]at this
   rw [Yas];exact this
  have n4:sa+k+R.toList.length<=p.size:=by omega
  have el:(p.extract (sa+k) (sa+na)).toList++(p.extract (sa+na) (sa+na+m)).toList=(p.toList.drop (sa+k)).take R.toList.length:=by
   rw [Xn (by omega) (by omega),hRl]
   congr 1;omega
  have iu:=N3 (sa+k) R.toList 0 p n4
  simp only [Nat.add_zero]at iu
  have out:∀x,x < sa+k\/sa+na+m<=x->at0 (wr (sa+k) R.toList 0 p) x=at0 p x:=λx hx=>Ff (by rw [iu,Yaj (by omega)])
  have vq:∀x,sa+k<=x->x < sa+na+m->∃hx,at0 (wr (sa+k) R.toList 0 p) x=R.toList[x - (sa+k)]'hx:=λx a1 a2=>⟨by omega,Ud (d:=0) (by rw [iu,Yao (by omega)]) (by omega)⟩
  have mem:∀x,sa+k<=x->x < sa+na+m->∃y,sa+k<=y/\y < sa+na+m/\at0 (wr (sa+k) R.toList 0 p) x=at0 p y:=λx a1 a2=>by
   obtain⟨hx,e⟩:=vq x a1 a2
   have hm:R.toList[x - (sa+k)]∈(p.toList.drop (sa+k)).take R.toList.length:=by rw [<- el];exact hR.perm.mem_iff.mp (Yb3 _)
   obtain⟨j,j1,j2,j3,j4⟩:=Ed hm
   exact⟨j,j1,by omega,e.trans j4⟩
  refine h _ g' ⟨Px _ _ _ _,?_,λx hx=>out x (by omega)⟩ λx y a1 a2 a3=>?_
  ·rw [Xm _ _ _ n4]
   have e3:p.toList=p.toList.take (sa+k)++(p.toList.drop (sa+k)).take R.toList.length++p.toList.drop (sa+k+R.toList.length):=by
    have a:=(Ycr (sa+k) p.toList).symm
    have b:=(Ycr R.toList.length (p.toList.drop (sa+k))).symm
    rw [List.drop_drop]at b
    refine a.trans ?_
    rw [Yca]
    exact Ycg _ b
   refine List.Perm.trans ?_ (List.Perm.of_eq e3.symm)
   refine Yes _ (List.Perm.append_left _ ?_)
   rw [<- el];exact hR.perm
  ·by_cases c3:y < sa+k
   ·rw [out x (by omega),out y (by omega)];exact sA x y a1 a2 (by omega)
   ·by_cases c4:sa+na+m<=y
    ·rw [out y (by omega)]
     by_cases c5:x < sa+k
     ·rw [out x (by omega)];exact kn x y a1 c5 (by omega) (by omega)
     ·by_cases c6:sa+na+m<=x
      ·rw [out x (by omega)];exact sB x y (by omega) a2 (by omega)
      ·obtain⟨z,b1,b2,e⟩:=mem x (by omega) (by omega)
       rw [e]
       by_cases c7:z < sa+na
       ·exact high z y (by omega) c7 c4 (by omega)
       ·exact sB z y (by omega) (by omega) (by omega)
    ·by_cases c5:x < sa+k
     ·obtain⟨z,b1,b2,e⟩:=mem y (by omega) (by omega)
      rw [e,out x (by omega)]
      by_cases c7:z < sa+na
      ·exact sA x z a1 (by omega) c7
      ·exact kn x z a1 c5 (by omega) (by omega)
     ·obtain⟨hx,ex⟩:=vq x (by omega) (by omega)
      obtain⟨hy,ey⟩:=vq y (by omega) (by omega)
      rw [ex,ey]
      exact Ybo.mp hR.srt _ _ hx hy (by omega)
 have last:∀(R:Array Nat) (g':Nat),Mgd lt (p.extract (sa+k) (sa+na)) (p.extract (sa+na) (sa+na+m)) R->∀ag,ag=SS κ it p ((pd.setIfInBounds i (sa,na+nb,pw)).eraseIdxIfInBounds (i+1)) g' ->
   wpS (model prog w) A E s (do
    modify λs=>setArr s ((R.map (kas_item it)).toList.zipIdx.foldl (λa (p,j)=>a.setIfInBounds (sa+k+j) p) (arrOf s))
    return (failedOf (<- get)).isNone) Q ag:=λR g' hR ag e=>by
  subst e
  refine Yam (Yc5 (Yam (Yfk (Yat ?_))))
  have:=fin R g' hR
  have e2:(R.map (kas_item it)).toList.zipIdx.foldl (λa (z:Keyed×Nat)=>a.setIfInBounds (sa+k+z.2) z.1) (p.map (kas_item it))=(wr (sa+k) R.toList 0 p).map (kas_item it):=by
   rw [Pw,Array.toList_map,Uc]
  show Q true (SortSt.mk' κ ((R.map (kas_item it)).toList.zipIdx.foldl (λa (z:Keyed×Nat)=>a.setIfInBounds (sa+k+z.2) z.1) (p.map (kas_item it))) _ g' none)
  rw [e2]
  exact this
 by_cases c3:na - k<=m
 ·rw [Yao c3]
  refine Yam (Rw O hc rfl pre λR g' hR=>?_)
  exact last R g' hR _ rfl
 ·rw [Yaj c3]
  refine Yam (Rx O hc rfl pre λR g' hR=>?_)
  exact last R g' hR _ rfl
end
def Ue(lo aj n:Nat):StateT SortSt Sem (Option Nat):=do
 reverseSlice' lo (lo+n)
 let mut n:=n
 for _ in [n:aj] do
  let some smaller <- ltAt' (lo+n) (lo+n - 1) | return none
  if smaller then break
  n:=n+1
 return some n
def Uf(lo aj n:Nat):StateT SortSt Sem (Option Nat):=do
 rule "list.sort.descending-run"
 let mut n:=n+1
 let mut neq:=0
 for _ in [n:aj] do
  let some smaller <- ltAt' (lo+n) (lo+n - 1) | return none
  if smaller then
   if neq > 0 then reverseSlice' (lo+n - (neq+1)) (lo+n)
   neq:=0
  else
   let some larger <- ltAt' (lo+n - 1) (lo+n) | return none
   if larger then break
   neq:=neq+1
  n:=n+1
 if neq > 0 then reverseSlice' (lo+n - (neq+1)) (lo+n)
 Ue lo aj n
theorem Lf(lo aj:Nat):countRun' lo aj=(do
 let mut n:=1
 for _ in [1:aj] do
  let some smaller <- ltAt' (lo+n) (lo+n - 1) | return none
  if smaller then break
  n:=n+1
 if n==aj then return some n
 if n > 1 then
  let some rose <- ltAt' lo (lo+n - 1) | return none
  if rose then return some n
  reverseSlice' lo (lo+n)
 Uf lo aj n):=rfl
section
variable {prog:Program}{w:World}{A:Around}{E:Value->Shared->Prop}{s:Shared}{κ:SortKind}{it:Array Keyed}{n:Nat}{lt:Nat->Nat->Bool}{p:Array Nat}{pd:Array (Nat×Nat×Nat)}{g:Nat}
theorem Gx(hc:Cmp prog w A κ it n lt s)(hp:In n p){i j:Nat}(hi:i < p.size)(hj:j < p.size){Q:Option Bool->SortSt->Prop}(h:Q (some (lt (at0 p i) (at0 p j))) (SS κ it p pd g)):wpS (model prog w) A E s (ltAt' i j) Q (SS κ it p pd g):=by
 rw [ltAt'_eq]
 refine Yam (Yfk ?_)
 show wpS _ _ _ _ (do let x <- elem' (p.map (kas_item it)) i;let y <- elem' (p.map (kas_item it)) j;lt' x y) Q _
 exact Yam (Bd hi (Yam (Bd hj (Ub hc rfl (hp i hi) (hp j hj) h))))
abbrev rvs(p:Array Nat)(i j:Nat):Array Nat:=mirror p i j ((j - i) / 2)
theorem De{i j:Nat}(hj:j<=p.size)(k:Nat):at0 (rvs p i j) k=if i<=k/\k < j then at0 p (i+j - 1 - k) else at0 p k:=by
 have e:=getElem?_mirror_all (xs:=p) (i:=i) hj k
 by_cases h:i<=k/\k < j
 ·rw [Yao h]at e ⊢;exact Ff e
 ·rw [Yaj h]at e ⊢;exact Ff e
theorem Fz{i j:Nat}(hj:j<=p.size):Kept p (rvs p i j) i j:=⟨mirror_size _ _ _ _,(mirror_perm p i j _).toList,λk hk=>by rw [De hj,Yaj (by omega)]⟩
theorem Py{i j:Nat}{Q:Unit->SortSt->Prop}(h:Q () (SS κ it (rvs p i j) pd g)):wpS (model prog w) A E s (reverseSlice' i j) Q (SS κ it p pd g):=by
 rw [reverseSlice'_eq]
 refine Yc5 ?_
 have e:mirror (p.map (kas_item it)) i j ((j - i) / 2)=(rvs p i j).map (kas_item it):=kas_swaps_map _ _ _ _ _
 show Q () (SortSt.mk' κ (mirror (p.map (kas_item it)) i j ((j - i) / 2)) pd g none)
 rw [e];exact h
def Sm(lt:Nat->Nat->Bool)(p:Array Nat)(lo len:Nat):Prop:=∀i j,lo<=i->i < j->j < lo+len->lt (at0 p i) (at0 p j)=false
def EqS(lt:Nat->Nat->Bool)(p:Array Nat)(a b:Nat):Prop:=∀i j,a<=i->i < b->a<=j->j < b->lt (at0 p i) (at0 p j)=false
theorem Seg.next(O:WeakOrd n lt)(hp:In n p){lo m:Nat}(h:Seg lt p lo m)(h1:1<=m)(hm:lo+m < p.size)(e:lt (at0 p (lo+m)) (at0 p (lo+m - 1))=false):Seg lt p lo (m+1):=λi j a1 a2 a3=>by
 by_cases c:j < lo+m
 ·exact h i j a1 a2 c
 ·have:j=lo+m:=by omega
  subst this
  by_cases c2:i=lo+m - 1
  ·subst c2;exact e
  ·exact O.tr _ _ _ (hp i (by omega)) (hp (lo+m - 1) (by omega)) (hp (lo+m) hm) (h i (lo+m - 1) a1 (by omega) (by omega)) e
theorem Sm.next(O:WeakOrd n lt)(hp:In n p){lo m:Nat}(h:Sm lt p lo m)(h1:1<=m)(hm:lo+m < p.size)(e:lt (at0 p (lo+m - 1)) (at0 p (lo+m))=false):Sm lt p lo (m+1):=λi j a1 a2 a3=>by
 by_cases c:j < lo+m
 ·exact h i j a1 a2 c
 ·have:j=lo+m:=by omega
  subst this
  by_cases c2:i=lo+m - 1
  ·subst c2;exact e
  ·exact O.tr _ _ _ (hp (lo+m) hm) (hp (lo+m - 1) (by omega)) (hp i (by omega)) e (h i (lo+m - 1) a1 (by omega) (by omega))
theorem Sm.turn{lo k a:Nat}(hs:lo+k<=p.size)(ha:lo<=a)(h:Sm lt p lo k)(e:EqS lt p a (lo+k)):Sm lt (rvs p a (lo+k)) lo k:=λi j a1 a2 a3=>by
 rw [De hs,De hs]
 by_cases h1:a<=i
 ·rw [Yao ⟨h1,by omega⟩,Yao ⟨by omega,a3⟩]
  exact e _ _ (by omega) (by omega) (by omega) (by omega)
 ·rw [Yaj (by omega)]
  by_cases h2:a<=j
  ·rw [Yao ⟨h2,a3⟩]
   exact h _ _ (by omega) (by omega) (by omega)
  ·rw [Yaj (by omega)]
   exact h _ _ a1 a2 a3
theorem Zi(O:WeakOrd n lt)(hc:Cmp prog w A κ it n lt s)(hp:In n p){lo aj m:Nat}(h1:1<=m)(hm:m<=aj)(hs:lo+aj<=p.size)(h:Seg lt p lo m){F:Nat->Option (Option Nat)×Nat->StateT SortSt Sem (ForInStep (Option (Option Nat)×Nat))}
  (hF:∀x k Q,1<=k->k < aj->(∀b,b=lt (at0 p (lo+k)) (at0 p (lo+k - 1))->Q (if b=true then ForInStep.done (none,k) else ForInStep.yield (none,k+1)) (SS κ it p pd g))->wpS (model prog w) A E s (F x (none,k)) Q (SS κ it p pd g))
  {Q:Option (Option Nat)×Nat->SortSt->Prop} (hQ:∀k,m<=k->k<=aj->Seg lt p lo k->(k < aj->lt (at0 p (lo+k)) (at0 p (lo+k - 1))=true)->Q (none,k) (SS κ it p pd g)):wpS (model prog w) A E s (forIn [m:aj] ((none,m):Option (Option Nat)×Nat) F) Q (SS κ it p pd g):=by
 refine Ycm (Yb0 (I:=λx c ag=>ag=SS κ it p pd g/\c=(none,x)/\m<=x/\x<=aj/\Seg lt p lo x) (Q:=λc ag=>ag=SS κ it p pd g/\∃k,c=(none,k)/\m<=k/\k<=aj/\Seg lt p lo k/\(k < aj->lt (at0 p (lo+k)) (at0 p (lo+k - 1))=true)) ?_ ?_ ⟨rfl,rfl,Yad _,hm,h⟩) ?_
 ·rintro x c ag _ hx ⟨rfl,rfl,a1,a2,a3⟩
  refine hF x x _ (by omega) hx λb eb=>?_
  cases b with
  | true=>exact⟨rfl,x,rfl,a1,a2,a3,λ_=>eb.symm⟩
  | false=>exact⟨rfl,rfl,by omega,by omega,a3.next O hp (by omega) (by omega) eb.symm⟩
 ·rintro c ag ⟨rfl,rfl,a1,a2,a3⟩
  rw [Nat.max_eq_right hm]at a3 ⊢
  exact⟨rfl,aj,rfl,hm,Yad _,a3,λz=>absurd z (Yb9 _)⟩
 ·rintro c ag ⟨rfl,k,rfl,a1,a2,a3,a4⟩
  exact hQ k a1 a2 a3 a4
theorem Ug(O:WeakOrd n lt)(hc:Cmp prog w A κ it n lt s)(hp:In n p){lo aj m:Nat}(h1:1<=m)(hm:m<=aj)(hs:lo+aj<=p.size)(h:Sm lt p lo m){Q:Option Nat->SortSt->Prop}
  (hQ:∀k p',1<=k->k<=aj->Kept p p' lo (lo+aj)->Seg lt p' lo k->Q (some k) (SS κ it p' pd g)):wpS (model prog w) A E s (Ue lo aj m) Q (SS κ it p pd g):=by
 unfold Ue
 refine Yam (Py ?_)
 have hk:Kept p (rvs p lo (lo+m)) lo (lo+aj):=(Fz (by omega)).mono (Yad _) (by omega)
 have hU:Seg lt (rvs p lo (lo+m)) lo m:=λi j a1 a2 a3=>by
  rw [De (by omega),De (by omega),Yao ⟨by omega,a3⟩,Yao ⟨a1,by omega⟩]
  exact h _ _ (by omega) (by omega) (by omega)
 have az:=hk.in hp
 have fg:lo+aj<=(rvs p lo (lo+m)).size:=by rw [hk.size];exact hs
 refine Yam (Zi O hc az h1 hm fg hU (λx k Q' k1 k2 q=>?_) λk k1 k2 k3 _=>Yat (hQ k _ (by omega) k2 hk k3))
 refine Yam (Gx hc az (by omega) (by omega) ?_)
 dsimp only
 have:=q _ rfl
 by_cases e:lt (at0 (rvs p lo (lo+m)) (lo+k)) (at0 (rvs p lo (lo+m)) (lo+k - 1))=true
 ·rw [Yao e]at this ⊢;exact Yat this
 ·rw [Yaj e]at this ⊢;exact Yat this
theorem Uh(O:WeakOrd n lt)(hc:Cmp prog w A κ it n lt s)(hp:In n p){lo aj m:Nat}(h1:1<=m)(hm:m+1<=aj)(hs:lo+aj<=p.size)(h:Sm lt p lo (m+1)){Q:Option Nat->SortSt->Prop}
  (hQ:∀k p',1<=k->k<=aj->Kept p p' lo (lo+aj)->Seg lt p' lo k->Q (some k) (SS κ it p' pd g)):wpS (model prog w) A E s (Uf lo aj m) Q (SS κ it p pd g):=by
 unfold Uf
 refine Yam (wpS_lift (Yco ⟨rfl,?_⟩))
 have one:∀p':Array Nat,In n p'->p'.size=p.size->∀k,k < aj->EqS lt p' (lo+(k+1) - (0+1)) (lo+(k+1)):=λp' az hz k hk i j a1 a2 a3 a4=>by
  have hi:i=lo+k:=by omega
  have hj:j=lo+k:=by omega
  rw [hi,hj]
  exact O.irr (az _ (by omega))
 refine Yam (Ycm (Yb0 (I:=λx c ag=>∃p' q,ag=SS κ it p' pd g/\c=(none,x,q)/\Kept p p' lo (lo+aj)/\q+1<=x/\x<=aj/\Sm lt p' lo x/\EqS lt p' (lo+x - (q+1)) (lo+x))
  (Q:=λc ag=>∃p' k q,ag=SS κ it p' pd g/\c=(none,k,q)/\Kept p p' lo (lo+aj)/\q+1<=k/\k<=aj/\Sm lt p' lo k/\EqS lt p' (lo+k - (q+1)) (lo+k)) ?_ ?_ ⟨p,0,rfl,rfl,.refl,by omega,hm,h,one p hp rfl m (by omega)⟩) ?_)
 ·rintro x c ag _ hx ⟨p',q,rfl,rfl,K,q1,q2,D,e⟩
  have az:=K.in hp
  have hz:=K.size
  dsimp only
  refine Yam (Gx hc az (by omega) (by omega) ?_)
  dsimp only
  cases c1:lt (at0 p' (lo+x)) (at0 p' (lo+x - 1)) with
  | true =>
   rw [Yao rfl]
   have c2:=O.asy _ _ (az _ (by omega)) (az _ (by omega)) c1
   by_cases hq:q > 0
   ·rw [Yao hq]
    refine Yam (Py (Yat ?_))
    have K2:Kept p' (rvs p' (lo+x - (q+1)) (lo+x)) lo (lo+aj):=(Fz (by omega)).mono (by omega) (by omega)
    have fb:=K2.in az
    refine⟨_,0,rfl,rfl,K.trans K2,by omega,by omega,(D.turn (by omega) (by omega) e).next O fb (by omega) (by rw [K2.size];omega) ?_,one _ fb (K2.size.trans hz) x (by omega)⟩
    rw [De (by omega),Yao ⟨by omega,by omega⟩,De (by omega),Yaj (by omega),show lo+x - (q+1)+(lo+x) - 1 - (lo+x - 1)=lo+x - (q+1) by omega]
    exact O.tr _ _ _ (az _ (by omega)) (az (lo+x - 1) (by omega)) (az _ (by omega)) c2 (e _ _ (by omega) (by omega) (by omega) (by omega))
   ·rw [Yaj hq]
    exact Yat ⟨_,0,rfl,rfl,K,by omega,by omega,D.next O az (by omega) (by omega) c2,one _ az hz x (by omega)⟩
  | false =>
   rw [Yaj Yag]
   refine Yam (Gx hc az (by omega) (by omega) ?_)
   dsimp only
   cases c2:lt (at0 p' (lo+x - 1)) (at0 p' (lo+x)) with
   | true =>
    rw [Yao rfl]
    exact Yat ⟨_,x,q,rfl,rfl,K,q1,q2,D,e⟩
   | false =>
    rw [Yaj Yag]
    refine Yat ⟨_,q+1,rfl,rfl,K,by omega,by omega,D.next O az (by omega) (by omega) c2,λi j a1 a2 a3 a4=>?_⟩
    by_cases hi:i=lo+x
    ·subst hi
     by_cases hj:j=lo+x
     ·subst hj;exact O.irr (az _ (by omega))
     ·exact O.tr _ _ _ (az j (by omega)) (az (lo+x - 1) (by omega)) (az (lo+x) (by omega)) (e (lo+x - 1) j (by omega) (by omega) (by omega) (by omega)) c1
    ·by_cases hj:j=lo+x
     ·subst hj
      exact O.tr _ _ _ (az (lo+x) (by omega)) (az (lo+x - 1) (by omega)) (az i (by omega)) c2 (e i (lo+x - 1) (by omega) (by omega) (by omega) (by omega))
     ·exact e i j (by omega) (by omega) (by omega) (by omega)
 ·rintro c ag ⟨p',q,rfl,rfl,K,q1,q2,D,e⟩
  exact⟨p',_,q,rfl,rfl,K,q1,q2,D,e⟩
 ·rintro c ag ⟨p',k,q,rfl,rfl,K,q1,q2,D,e⟩
  have az:=K.in hp
  have hz:=K.size
  dsimp only
  by_cases hq:q > 0
  ·rw [Yao hq]
   have K2:Kept p' (rvs p' (lo+k - (q+1)) (lo+k)) lo (lo+aj):=(Fz (by omega)).mono (by omega) (by omega)
   refine Yam (Py (Ug O hc (K2.in az) (by omega) q2 (by rw [K2.size];omega) (D.turn (by omega) (by omega) e) λk' m6 a1 a2 a3 a4=>hQ k' m6 a1 a2 ((K.trans K2).trans a3) a4))
  ·rw [Yaj hq]
   exact Ug O hc az (by omega) q2 (by omega) D λk' m6 a1 a2 a3 a4=>hQ k' m6 a1 a2 (K.trans a3) a4
theorem Xq(O:WeakOrd n lt)(hc:Cmp prog w A κ it n lt s)(hp:In n p){lo aj:Nat}(h1:1<=aj)(hs:lo+aj<=p.size){Q:Option Nat->SortSt->Prop}
  (hQ:∀k p',1<=k->k<=aj->Kept p p' lo (lo+aj)->Seg lt p' lo k->Q (some k) (SS κ it p' pd g)):wpS (model prog w) A E s (countRun' lo aj) Q (SS κ it p pd g):=by
 rw [Lf]
 refine Yam (Zi O hc hp (Yad 1) h1 hs (λi j a1 a2 a3=>by omega) (λx k Q' k1 k2 q=>?_) λk k1 k2 k3 k4=>?_)
 ·refine Yam (Gx hc hp (by omega) (by omega) ?_)
  dsimp only
  have:=q _ rfl
  by_cases e:lt (at0 p (lo+k)) (at0 p (lo+k - 1))=true
  ·rw [Yao e]at this ⊢;exact Yat this
  ·rw [Yaj e]at this ⊢;exact Yat this
 dsimp only
 by_cases e:k=aj
 ·rw [Yao (by simpa using e)]
  exact Yat (hQ k p k1 k2 .refl k3)
 rw [Yaj (by simpa using e)]
 have c1:=k4 (by omega)
 have c2:=O.asy _ _ (hp (lo+k) (by omega)) (hp (lo+k - 1) (by omega)) c1
 by_cases e1:k > 1
 ·rw [Yao e1]
  refine Yam (Gx hc hp (by omega) (by omega) ?_)
  dsimp only
  cases e2:lt (at0 p lo) (at0 p (lo+k - 1)) with
  | true =>
   rw [Yao rfl]
   exact Yat (hQ k p k1 k2 .refl k3)
  | false =>
   rw [Yaj Yag]
   have K:Kept p (rvs p lo (lo+k)) lo (lo+aj):=(Fz (by omega)).mono (Yad _) (by omega)
   have up:∀i j,lo<=i->i<=j->j < lo+k->lt (at0 p j) (at0 p i)=false:=λi j a1 a2 a3=>by
    rcases Ya5 a2 with rfl | a2
    ·exact O.irr (hp _ (by omega))
    ·exact k3 i j a1 a2 a3
   have all:EqS lt p lo (lo+k):=λi j a1 a2 a3 a4 =>
    O.tr _ _ _ (hp j (by omega)) (hp lo (by omega)) (hp i (by omega)) (O.tr _ _ _ (hp j (by omega)) (hp (lo+k - 1) (by omega)) (hp lo (by omega)) (up j (lo+k - 1) a3 (by omega) (by omega)) e2) (up lo i (Yad _) a1 a2)
   have D:Sm lt (rvs p lo (lo+k)) lo k:=λi j a1 a2 a3=>by
    rw [De (by omega),De (by omega),Yao ⟨a1,by omega⟩,Yao ⟨by omega,a3⟩]
    exact all _ _ (by omega) (by omega) (by omega) (by omega)
   refine Yam (Py (Uh O hc (K.in hp) k1 (by omega) (by rw [K.size];omega) (D.next O (K.in hp) k1 (by rw [K.size];omega) ?_) λk' m6 a1 a2 a3 a4=>hQ k' m6 a1 a2 (K.trans a3) a4))
   rw [De (by omega),Yao ⟨by omega,by omega⟩,De (by omega),Yaj (by omega),show lo+(lo+k) - 1 - (lo+k - 1)=lo by omega]
   exact O.tr _ _ _ (hp _ (by omega)) (hp (lo+k - 1) (by omega)) (hp lo (by omega)) c2 (all lo (lo+k - 1) (Yad _) (by omega) (by omega) (by omega))
 ·rw [Yaj e1]
  have k0:k=1:=by omega
  subst k0
  refine Uh O hc hp (Yad 1) (by omega) hs (Sm.next O hp (m:=1) (λi j a1 a2 a3=>by omega) (Yad 1) (by omega) c2) hQ
end
section
variable {prog:Program}{w:World}{A:Around}{E:Value->Shared->Prop}{s:Shared}{κ:SortKind}{it:Array Keyed}{n:Nat}{lt:Nat->Nat->Bool}{p:Array Nat}{pd:Array (Nat×Nat×Nat)}{g:Nat}
theorem Qbr{src d:Nat}(hs:src < p.size)(hd:d<=src)(k:Nat):at0 (bubble p src d) k=if k=src - d then at0 p src else if src - d < k/\k<=src then at0 p (k - 1) else at0 p k:=by
 have e:=getElem?_bubble hs d hd k
 by_cases h1:k=src - d
 ·rw [Yao h1]at e ⊢;exact Ff e
 ·rw [Yaj h1]at e ⊢
  by_cases h2:src - d < k/\k<=src
  ·rw [Yao h2]at e ⊢;exact Ff e
  ·rw [Yaj h2]at e ⊢;exact Ff e
theorem Qbs{src qp:Nat}{Q:Unit->SortSt->Prop}(h:Q () (SS κ it (bubble p src (src - qp)) pd g)):wpS (model prog w) A E s (moveDown' src qp) Q (SS κ it p pd g):=by
 rw [moveDown'_eq]
 refine Yc5 ?_
 have e:bubble (p.map (kas_item it)) src (src - qp)=(bubble p src (src - qp)).map (kas_item it):=kas_swaps_map _ _ _ _ _
 show Q () (SortSt.mk' κ (bubble (p.map (kas_item it)) src (src - qp)) pd g none)
 rw [e];exact h
theorem Ui(O:WeakOrd n lt)(hc:Cmp prog w A κ it n lt s)(hp:In n p){lo m ok:Nat}(h1:1<=ok)(hm:ok<=m)(hs:lo+m<=p.size)(h:Seg lt p lo ok){Q:Bool->SortSt->Prop}
  (hQ:∀p',Kept p p' lo (lo+m)->Seg lt p' lo m->Q true (SS κ it p' pd g)):wpS (model prog w) A E s (binarySort' lo m ok) Q (SS κ it p pd g):=by
 rw [binarySort'_eq,Nat.max_eq_left h1]
 refine Yam (Ycm (Yb0 (I:=λx c ag=>∃p',ag=SS κ it p' pd g/\c=(none,())/\Kept p p' lo (lo+m)/\Seg lt p' lo x/\x<=m) (Q:=λc ag=>∃p',ag=SS κ it p' pd g/\c=(none,())/\Kept p p' lo (lo+m)/\Seg lt p' lo m) ?_ ?_ ⟨p,rfl,rfl,.refl,h,hm⟩) ?_)
 ·rintro x c ag zu hx ⟨p',rfl,rfl,K,S,_⟩
  have az:=K.in hp
  have hz:=K.size
  refine Yam (Ycm (Yb0 (I:=λy c ag=>ag=SS κ it p' pd g/\∃l r,c=(none,l,r)/\l<=r/\r<=x/\r - l<=x - y/\(∀i,i < l->lt (at0 p' (lo+x)) (at0 p' (lo+i))=false)/\(∀i,r<=i->i < x->lt (at0 p' (lo+x)) (at0 p' (lo+i))=true))
   (Q:=λc ag=>ag=SS κ it p' pd g/\∃l,c=(none,l,l)/\l<=x/\(∀i,i < l->lt (at0 p' (lo+x)) (at0 p' (lo+i))=false)/\(∀i,l<=i->i < x->lt (at0 p' (lo+x)) (at0 p' (lo+i))=true)) ?_ ?_ ⟨rfl,0,x,rfl,by omega,Yad _,by omega,λi hi=>absurd hi (Yem _),λi a1 a2=>by omega⟩) ?_)
  ·rintro y c ag _ hy ⟨rfl,l,r,rfl,a1,a2,a3,a4,a5⟩
   dsimp only
   by_cases e:l>=r
   ·rw [Yao e]
    have:l=r:=by omega
    subst this
    exact Yat ⟨rfl,l,rfl,a2,a4,a5⟩
   ·rw [Yaj e]
    refine Yam (Gx hc az (by omega) (by omega) ?_)
    dsimp only
    cases c1:lt (at0 p' (lo+x)) (at0 p' (lo+(l+r) / 2)) with
    | true =>
     rw [Yao rfl]
     refine Yat ⟨rfl,l,(l+r) / 2,rfl,by omega,by omega,by omega,a4,λi b1 b2=>?_⟩
     rcases Ya5 b1 with rfl | b1
     ·exact c1
     ·exact O.low (az _ (by omega)) (az _ (by omega)) (az _ (by omega)) c1 (S _ _ (by omega) (by omega) (by omega))
    | false =>
     rw [Yaj Yag]
     refine Yat ⟨rfl,(l+r) / 2+1,r,rfl,by omega,by omega,by omega,λi b1=>?_,a5⟩
     rcases Ya5 (show i<=(l+r) / 2 by omega) with rfl | b2
     ·exact c1
     ·exact O.tr _ _ _ (az _ (by omega)) (az _ (by omega)) (az _ (by omega)) (S (lo+i) (lo+(l+r) / 2) (by omega) (by omega) (by omega)) c1
  ·rintro c ag ⟨rfl,l,r,rfl,a1,a2,a3,a4,a5⟩
   have:l=r:=by omega
   subst this
   exact⟨rfl,l,rfl,a2,a4,a5⟩
  ·rintro c ag ⟨rfl,l,rfl,a2,a4,a5⟩
   dsimp only
   refine Yam (Qbs (Yat ?_))
   have ed:lo+x - (lo+l)=x - l:=by omega
   rw [ed]
   have sv:=λk=>Qbr (p:=p') (src:=lo+x) (d:=x - l) (by omega) (by omega) k
   rw [show lo+x - (x - l)=lo+l by omega]at sv
   refine⟨_,rfl,rfl,K.trans ⟨bubble_size _ _ _,(bubble_perm p' _ _).toList,λi hi=>by rw [sv,Yaj (by omega),Yaj (by omega)]⟩,λi j b1 b2 b3=>?_,by omega⟩
   rw [sv i,sv j]
   by_cases i1:i=lo+l
   ·rw [Yao i1,Yaj (by omega),Yao (by omega)]
    have:=a5 (j - 1 - lo) (by omega) (by omega)
    rw [show lo+(j - 1 - lo)=j - 1 by omega]at this
    exact O.asy _ _ (az _ (by omega)) (az _ (by omega)) this
   ·rw [Yaj i1]
    by_cases j1:j=lo+l
    ·rw [Yao j1,Yaj (by omega)]
     have:=a4 (i - lo) (by omega)
     rwa [show lo+(i - lo)=i by omega]at this
    ·rw [Yaj j1]
     by_cases i2:lo+l < i/\i<=lo+x
     ·rw [Yao i2,Yao (by omega)]
      exact S _ _ (by omega) (by omega) (by omega)
     ·rw [Yaj i2]
      by_cases j2:lo+l < j/\j<=lo+x
      ·rw [Yao j2];exact S _ _ b1 (by omega) (by omega)
      ·rw [Yaj j2];exact S _ _ b1 b2 (by omega)
 ·rintro c ag ⟨p',rfl,rfl,K,S,a⟩
  rw [Nat.max_eq_right hm]at S
  exact⟨p',rfl,rfl,K,S⟩
 ·rintro c ag ⟨p',rfl,rfl,K,S⟩
  exact Yat (hQ p' K S)
def Chain:List (Nat×Nat×Nat)->Nat->Nat->Prop
 | [],lo,hi=>lo=hi
 | (a,l,_) :: r,lo,hi=>a=lo/\0 < l/\Chain r (lo+l) hi
theorem Chain.le:∀{l:List (Nat×Nat×Nat)} {lo hi:Nat},Chain l lo hi->lo+l.length<=hi
 | [],_,_,h=>by cases h;simp
 | (a,l,_) :: r,lo,hi,h=>by have:=h.2.2.le;have:=h.2.1;rw [Ya9];omega
theorem Chain.app:∀{l m:List (Nat×Nat×Nat)} {lo hi:Nat},Chain (l++m) lo hi↔∃k,Chain l lo k/\Chain m k hi
 | [],m,lo,hi=>⟨λh=>⟨lo,rfl,h⟩,λ⟨k,e,h⟩=>by cases e;exact h⟩
 | (a,l,q) :: r,m,lo,hi=>by
  constructor
  ·rintro⟨h1,h2,h3⟩
   obtain⟨k,k1,k2⟩:=Chain.app.mp h3
   exact⟨k,⟨h1,h2,k1⟩,k2⟩
  ·rintro⟨k,⟨h1,h2,h3⟩,h4⟩
   exact⟨h1,h2,Chain.app.mpr ⟨k,h3,h4⟩⟩
theorem Chain.low:∀{l:List (Nat×Nat×Nat)} {lo hi:Nat},Chain l lo hi->∀e∈l,lo<=e.1/\e.1+e.2.1<=hi
 | (a,l,q) :: r,lo,hi,h,e,he=>by
  have h3:=h.2.2.le
  rcases Yap.mp he with rfl | he
  ·exact⟨by rw [h.1];exact Yad _,by show a+l<=hi;rw [h.1];omega⟩
  ·have:=h.2.2.low e he
   exact⟨by have:=h.2.1;omega,this.2⟩
structure Wait(lt:Nat->Nat->Bool)(p:Array Nat)(l:List (Nat×Nat×Nat))(hi:Nat):Prop where
 ch:Chain l 0 hi
 sg:∀e∈l,Seg lt p e.1 e.2.1
theorem Wait.keep{p':Array Nat}{l:List (Nat×Nat×Nat)}{hi top:Nat}(h:Wait lt p l hi)(k:Kept p p' hi top):Wait lt p' l hi:=⟨h.ch,λe he=>(h.sg e he).kept k (.inl (h.ch.low e he).2)⟩
theorem Mn{l:List (Nat×Nat×Nat)}{i:Nat}{a b:Nat×Nat×Nat}(h1:l[i]?=some a)(h2:l[i+1]?=some b):l=l.take i++a :: b :: l.drop (i+2):=by
 obtain⟨k1,e1⟩:=List.getElem?_eq_some_iff.mp h1
 obtain⟨k2,e2⟩:=List.getElem?_eq_some_iff.mp h2
 have a1:=(Ycr i l).symm
 rw [Ybn k1,Ybn k2,e1,e2]at a1
 exact a1
theorem Xr{pd:Array (Nat×Nat×Nat)}{i:Nat}{a b c:Nat×Nat×Nat}(h1:pd[i]?=some a)(h2:pd[i+1]?=some b):((pd.setIfInBounds i c).eraseIdxIfInBounds (i+1)).toList=pd.toList.take i++c :: pd.toList.drop (i+2):=by
 have ur:pd.toList[i]?=some a:=by rw [Array.getElem?_toList];exact h1
 have wk:pd.toList[i+1]?=some b:=by rw [Array.getElem?_toList];exact h2
 have hi:=(List.getElem?_eq_some_iff.mp ur).1
 have hj:=(List.getElem?_eq_some_iff.mp wk).1
 rw [Array.toList_eraseIdxIfInBounds,Array.toList_setIfInBounds,List.eraseIdx_eq_take_drop_succ,List.take_set,List.drop_set_of_lt (by omega)]
 have e:=Mn ur wk
 have hl:(pd.toList.take i).length=i:=by rw [Ybl];omega
 rw [show i+1+1=i+2 by omega]
 have:(pd.toList.take (i+1)).set i c=pd.toList.take i++[c]:=by
  rw [Ybi,ur,List.set_append_right _ _ (by omega),hl,Yfn];rfl
 rw [this,Yca];rfl
theorem Ij(O:WeakOrd n lt)(hc:Cmp prog w A κ it n lt s)(hp:In n p){i hi:Nat}(hw:Wait lt p pd.toList hi)(hs:hi<=p.size)(kd:i+1 < pd.size){Q:Bool->SortSt->Prop}
  (h:∀p' av g',Kept p p' 0 hi->Wait lt p' av.toList hi->av.size+1=pd.size->Q true (SS κ it p' av g')):wpS (model prog w) A E s (mergeAt' i) Q (SS κ it p pd g):=by
 have e1:pd[i]?=some pd[i]:=Array.getElem?_eq_getElem (by omega)
 have e2:pd[i+1]?=some pd[i+1]:=Array.getElem?_eq_getElem kd
 generalize pd[i]'(by omega)=ea at e1
 generalize pd[i+1]=eb at e2
 obtain⟨sa,na,pw⟩:=ea
 obtain⟨sb,nb,tz⟩:=eb
 have l1:pd.toList[i]?=some (sa,na,pw):=by rw [Array.getElem?_toList];exact e1
 have l2:pd.toList[i+1]?=some (sb,nb,tz):=by rw [Array.getElem?_toList];exact e2
 have el:=Mn l1 l2
 have d9:=hw.ch
 rw [el]at d9
 obtain⟨k,c1,c2,c3,c4,c5,c6⟩:=Chain.app.mp d9
 subst c2
 subst c4
 have ce:=c6.le
 refine Ry O hc hp e1 e2 c3 c5 (by omega) (hw.sg _ (Ya1 l1)) (hw.sg _ (Ya1 l2)) λp' g' K S=>?_
 have eu:=Xr (c:=(sa,na+nb,pw)) e1 e2
 refine h p' _ g' (K.mono (Yaz _) (by omega)) ⟨?_,λe he=>?_⟩ ?_
 ·rw [eu]
  exact Chain.app.mpr ⟨sa,c1,rfl,by omega,by rw [<- Nat.add_assoc];exact c6⟩
 ·rw [eu]at he
  rcases Yaq.mp he with he | he
  ·refine(hw.sg e (Yd4 he)).kept K (.inl ?_)
   exact(c1.low e he).2
  ·rcases Yap.mp he with rfl | he
   ·exact S
   ·refine(hw.sg e (Yd5 he)).kept K (.inr ?_)
    exact(c6.low e he).1
 ·have:=Ycg List.length eu
  have hz:=Ycg List.length el
  simp only [List.length_append,List.length_cons,Array.length_toList]at this hz
  omega
end
section
variable {prog:Program}{w:World}{A:Around}{E:Value->Shared->Prop}{s:Shared}{κ:SortKind}{it:Array Keyed}{n:Nat}{lt:Nat->Nat->Bool}{p:Array Nat}{pd:Array (Nat×Nat×Nat)}{g:Nat}
theorem Chain.mod{f:Nat×Nat×Nat->Nat×Nat×Nat}(hf:∀e,(f e).1=e.1/\(f e).2.1=e.2.1):∀{l:List (Nat×Nat×Nat)} {i lo hi:Nat},Chain l lo hi->Chain (l.modify i f) lo hi
 | [],i,lo,hi,h=>by rw [List.modify_nil];exact h
 | (a,l,q) :: r,0,lo,hi,h=>by
  rw [List.modify_zero_cons]
  have:=hf (a,l,q)
  generalize f (a,l,q)=e at this
  obtain⟨a',l',q'⟩:=e
  obtain⟨h1,h2⟩:=this
  dsimp only at h1 h2
  subst h1
  subst h2
  exact h
 | (a,l,q) :: r,i+1,lo,hi,h=>by
  rw [List.modify_succ_cons]
  exact⟨h.1,h.2.1,h.2.2.mod hf⟩
theorem Pz{f:Nat×Nat×Nat->Nat×Nat×Nat}:∀{l:List (Nat×Nat×Nat)} {i:Nat} {e:Nat×Nat×Nat},e∈l.modify i f->∃e'∈l,e=e'\/e=f e'
 | [],i,e,h=>by rw [List.modify_nil]at h;cases h
 | a :: r,0,e,h=>by
  rw [List.modify_zero_cons]at h
  rcases Yap.mp h with rfl | h
  ·exact⟨a,.head _,.inr rfl⟩
  ·exact⟨e,.tail _ h,.inl rfl⟩
 | a :: r,i+1,e,h=>by
  rw [List.modify_succ_cons]at h
  rcases Yap.mp h with rfl | h
  ·exact⟨e,.head _,.inl rfl⟩
  ·obtain⟨e',h1,h2⟩:=Pz h
   exact⟨e',.tail _ h1,h2⟩
theorem Wait.modify{f:Nat×Nat×Nat->Nat×Nat×Nat}(hf:∀e,(f e).1=e.1/\(f e).2.1=e.2.1){i hi:Nat}(h:Wait lt p pd.toList hi):Wait lt p (pd.modify i f).toList hi:=by
 rw [Array.toList_modify]
 refine⟨h.ch.mod hf,λe he=>?_⟩
 obtain⟨e',h1,h2⟩:=Pz he
 have:=h.sg e' h1
 rcases h2 with rfl | rfl
 ·exact this
 ·rw [(hf e').1,(hf e').2];exact this
theorem Wait.push{lo m:Nat}(h:Wait lt p pd.toList lo)(hm:0 < m)(S:Seg lt p lo m):Wait lt p (pd.push (lo,m,0)).toList (lo+m):=by
 rw [Yew]
 refine⟨Chain.app.mpr ⟨lo,h.ch,rfl,hm,rfl⟩,λe he=>?_⟩
 rcases Yaq.mp he with he | he
 ·exact h.sg e he
 ·rw [Yan.mp he];exact S
theorem N4(O:WeakOrd n lt)(hc:Cmp prog w A κ it n lt s)(hp:In n p){Q:Unit->SortSt->Prop}(hQ:∀p' av g',Kept p p' 0 p.size->Seg lt p' 0 p.size->Q () (SS κ it p' av g')):wpS (model prog w) A E s sortRuns' Q (SS κ it p #[] g):=by
 rw [sortRuns'_eq]
 refine Yam (Yfk ?_)
 have ez:(arrOf (SS κ it p #[] g)).size=p.size:=by show(p.map _).size=_;rw [Ydt]
 rw [ez]
 generalize hN:p.size=N at hQ
 dsimp only
 generalize minRun' N N 0=mr
 refine Yam (Ycm (Yb0 (I:=λx c ag=>∃p' av g' lo,ag=SS κ it p' av g'/\c=(none,lo)/\Kept p p' 0 N/\Wait lt p' av.toList lo/\lo<=N/\x<=lo) (Q:=λc ag=>∃p' av g',ag=SS κ it p' av g'/\c=(none,N)/\Kept p p' 0 N/\Wait lt p' av.toList N) ?_ ?_ ⟨p,#[],g,0,rfl,rfl,.refl,⟨rfl,λe he=>by simp at he⟩,Yaz _,Yad _⟩) ?_)
 ·rintro x c ag _ hx ⟨p',av,g',lo,rfl,rfl,K,W,hlo,hxl⟩
  have az:=K.in hp
  have hz:=K.size
  dsimp only
  by_cases e:lo>=N
  ·rw [Yao e]
   have:lo=N:=by omega
   subst this
   exact Yat ⟨p',av,g',rfl,rfl,K,W⟩
  rw [Yaj e]
  refine Yam (Xq O hc az (show 1<=N - lo by omega) (by omega) λk p1 k1 k2 K1 S1=>?_)
  rw [show lo+(N - lo)=N by omega]at K1
  dsimp only
  have yes:∀(p2:Array Nat) (ie:Array (Nat×Nat×Nat)) (g2 m:Nat),Kept p p2 0 N->Wait lt p2 ie.toList lo->Seg lt p2 lo m->1<=m->lo+m<=N ->
    ∃p' av g' kw,SS κ it p2 (ie.push (lo,m,0)) g2=SS κ it p' av g'/\((none:Option Unit),lo+m)=(none,kw)/\Kept p p' 0 N/\Wait lt p' av.toList kw/\kw<=N/\x+1<=kw:=λp2 ie g2 m K2 W2 S2 m1 m2=>⟨p2,_,g2,lo+m,rfl,rfl,K2,W2.push m1 S2,m2,by omega⟩
  by_cases e1:k < mr
  ·rw [Yao e1]
   refine Yam (wpS_lift (Yco ⟨rfl,?_⟩))
   refine Yam (Ui O hc (K1.in az) k1 (m:=min (N - lo) mr) (by omega) (by rw [K1.size];omega) S1 λp2 Kb S2=>?_)
   rw [Yaj (show ¬(!true)=true by decide)]
   have K2:Kept p p2 0 N:=(K.trans (K1.mono (Yaz _) (Yad _))).trans (Kb.mono (Yaz _) (by omega))
   have W2:Wait lt p2 av.toList lo:=(W.keep K1).keep Kb
   refine Yam (Yfk ?_)
   show wpS _ _ _ _ (match av.back? with
    | some (s1,n1,_)=>_
    | _=>_) _ _
   cases eb:av.back? with
   | none =>
    dsimp only
    exact Yam (Yc5 (Yat (yes p2 av g' _ K2 W2 S2 (by omega) (by omega))))
   | some e =>
    obtain⟨s1,n1,q1⟩:=e
    dsimp only
    refine Yam (Ycm (Yb0 (I:=λ_ c ag=>∃p3 bq g3,ag=SS κ it p3 bq g3/\c=(none,())/\Kept p2 p3 0 lo/\Wait lt p3 bq.toList lo) (Q:=λc ag=>∃p3 bq g3,ag=SS κ it p3 bq g3/\c=(none,())/\Kept p2 p3 0 lo/\Wait lt p3 bq.toList lo) ?_ (λ_ _ z=>z) ⟨p2,av,g',rfl,rfl,.refl,W2⟩) ?_)
    ·rintro y c ag _ _ ⟨p3,bq,g3,rfl,rfl,K3,W3⟩
     refine Yam (Yfk ?_)
     have jk:=K3.in (K2.in hp)
     have z3:p3.size=N:=by rw [K3.size,K2.size,hN]
     have rf:pendingOf (SS κ it p3 bq g3)=bq:=rfl
     rw [rf]
     by_cases c1:bq.size > 1
     ·rw [Yao c1,Array.getElem?_eq_getElem (by omega)]
      generalize bq[bq.size - 2]'(by omega)=e3
      obtain⟨u1,u2,u3⟩:=e3
      dsimp only
      by_cases c2:u3<=power' N (2 * s1+n1) (2 * s1+n1+n1+min (N - lo) mr) N
      ·rw [Yao c2]
       exact Yat ⟨p3,bq,g3,rfl,rfl,K3,W3⟩
      ·rw [Yaj c2]
       refine Yam (Ij O hc jk (i:=bq.size - 2) W3 (by omega) (by omega) λp4 va g4 K4 W4 _=>?_)
       rw [Yaj (show ¬(!true)=true by decide)]
       exact Yat ⟨p4,va,g4,rfl,rfl,K3.trans K4,W4⟩
     ·rw [Yaj c1]
      exact Yat ⟨p3,bq,g3,rfl,rfl,K3,W3⟩
    ·rintro c ag ⟨p3,bq,g3,rfl,rfl,K3,W3⟩
     dsimp only
     refine Yam (Yc5 (Yam (Yc5 (Yat ?_))))
     exact yes p3 _ g3 _ (K2.trans (K3.mono (Yad _) (by omega))) (Wait.modify (i:=bq.size - 1) (f:=λx=>(x.1,x.2.1,power' N (2 * s1+n1) (2 * s1+n1+n1+min (N - lo) mr) N)) (λe=>⟨rfl,rfl⟩) W3) (S2.kept K3 (.inr (Yad _))) (by omega) (by omega)
  ·rw [Yaj e1]
   obtain⟨p2,e2⟩:∃p2,p2=p1:=⟨_,rfl⟩
   subst e2
   have S2:=S1
   have K2:Kept p p2 0 N:=K.trans (K1.mono (Yaz _) (Yad _))
   have W2:Wait lt p2 av.toList lo:=W.keep K1
   refine Yam (Yfk ?_)
   show wpS _ _ _ _ (match av.back? with
    | some (s1,n1,_)=>_
    | _=>_) _ _
   cases eb:av.back? with
   | none =>
    dsimp only
    exact Yam (Yc5 (Yat (yes p2 av g' _ K2 W2 S2 k1 (by omega))))
   | some e =>
    obtain⟨s1,n1,q1⟩:=e
    dsimp only
    refine Yam (Ycm (Yb0 (I:=λ_ c ag=>∃p3 bq g3,ag=SS κ it p3 bq g3/\c=(none,())/\Kept p2 p3 0 lo/\Wait lt p3 bq.toList lo) (Q:=λc ag=>∃p3 bq g3,ag=SS κ it p3 bq g3/\c=(none,())/\Kept p2 p3 0 lo/\Wait lt p3 bq.toList lo) ?_ (λ_ _ z=>z) ⟨p2,av,g',rfl,rfl,.refl,W2⟩) ?_)
    ·rintro y c ag _ _ ⟨p3,bq,g3,rfl,rfl,K3,W3⟩
     refine Yam (Yfk ?_)
     have jk:=K3.in (K2.in hp)
     have z3:p3.size=N:=by rw [K3.size,K2.size,hN]
     have rf:pendingOf (SS κ it p3 bq g3)=bq:=rfl
     rw [rf]
     by_cases c1:bq.size > 1
     ·rw [Yao c1,Array.getElem?_eq_getElem (by omega)]
      generalize bq[bq.size - 2]'(by omega)=e3
      obtain⟨u1,u2,u3⟩:=e3
      dsimp only
      by_cases c2:u3<=power' N (2 * s1+n1) (2 * s1+n1+n1+k) N
      ·rw [Yao c2]
       exact Yat ⟨p3,bq,g3,rfl,rfl,K3,W3⟩
      ·rw [Yaj c2]
       refine Yam (Ij O hc jk (i:=bq.size - 2) W3 (by omega) (by omega) λp4 va g4 K4 W4 _=>?_)
       rw [Yaj (show ¬(!true)=true by decide)]
       exact Yat ⟨p4,va,g4,rfl,rfl,K3.trans K4,W4⟩
     ·rw [Yaj c1]
      exact Yat ⟨p3,bq,g3,rfl,rfl,K3,W3⟩
    ·rintro c ag ⟨p3,bq,g3,rfl,rfl,K3,W3⟩
     dsimp only
     refine Yam (Yc5 (Yam (Yc5 (Yat ?_))))
     exact yes p3 _ g3 _ (K2.trans (K3.mono (Yad _) (by omega))) (Wait.modify (i:=bq.size - 1) (f:=λx=>(x.1,x.2.1,power' N (2 * s1+n1) (2 * s1+n1+n1+k) N)) (λe=>⟨rfl,rfl⟩) W3) (S2.kept K3 (.inr (Yad _))) k1 (by omega)
 ·rintro c ag ⟨p',av,g',lo,rfl,rfl,K,W,hlo,hxl⟩
  have:lo=N:=by omega
  subst this
  exact⟨p',av,g',rfl,rfl,K,W⟩
 ·rintro c ag ⟨p',av,g',rfl,rfl,K,W⟩
  dsimp only
  have h0:av.size<=N:=by have:=W.ch.le;rw [Yas]at this;omega
  refine Yam (Ycm (Yb0 (I:=λx c ag=>∃p' av g',ag=SS κ it p' av g'/\c=(none,())/\Kept p p' 0 N/\Wait lt p' av.toList N/\(av.size<=1\/av.size+x<=N)) (Q:=λc ag=>∃p' av g',ag=SS κ it p' av g'/\c=(none,())/\Kept p p' 0 N/\Wait lt p' av.toList N/\av.size<=1) ?_ ?_ ⟨p',av,g',rfl,rfl,K,W,.inr (by omega)⟩) ?_)
  ·clear K W h0
   rintro x c ag _ hx ⟨p',av,g',rfl,rfl,K,W,hsz⟩
   refine Yam (Yfk ?_)
   have rf:pendingOf (SS κ it p' av g')=av:=rfl
   rw [rf]
   by_cases e1:av.size<=1
   ·rw [Yao e1]
    exact Yat ⟨p',av,g',rfl,rfl,K,W,e1⟩
   rw [Yaj e1]
   have go:∀i,i+1 < av.size->wpS (model prog w) A E s (mergeAt' i) (λb ag=>b=true/\∃p2 ie g2,ag=SS κ it p2 ie g2/\Kept p p2 0 N/\Wait lt p2 ie.toList N/\(ie.size<=1\/ie.size+(x+1)<=N)) (SS κ it p' av g'):=λi hi =>
    Ij O hc (K.in hp) W (by rw [K.size];omega) hi λp2 ie g2 K2 W2 hz2=>⟨rfl,p2,ie,g2,rfl,K.trans K2,W2,by omega⟩
   refine Yam (Ycm (go _ ?_) ?_)
   ·have lem:∀(c:Prop) [Decidable c],(if c then av.size - 2 - 1 else av.size - 2)+1 < av.size:=λc _=>by
     by_cases h:c
     ·rw [Yao h];omega
     ·rw [Yaj h];omega
    exact lem _
   ·rintro b ag ⟨rfl,p2,ie,g2,rfl,K2,W2,h2⟩
    rw [Yaj (show ¬(!true)=true by decide)]
    exact Yat ⟨p2,ie,g2,rfl,rfl,K2,W2,h2⟩
  ·rintro c ag ⟨p',av,g',rfl,rfl,K,W,hsz⟩
   exact⟨p',av,g',rfl,rfl,K,W,by omega⟩
  ·clear K W h0
   rintro c ag ⟨p',av,g',rfl,rfl,K,W,hsz⟩
   refine Yat (hQ p' av g' K ?_)
   have d9:=W.ch
   have y3:=W.sg
   rw [<- Yas]at hsz
   generalize av.toList=l at d9 y3 hsz
   match l,d9,y3,hsz with
   | [],h,_,_=>cases h;exact λi j _ _ h3=>by omega
   | [(a,m,q)],h,hs,_ =>
    obtain⟨h1,h2,h3⟩:=h
    have:=hs (a,m,q) (.head _)
    have h3:0+m=N:=h3
    rw [h1,show m=N by omega]at this
    exact this
   | _ :: _ :: _,_,_,h=>simp at h
theorem StrictOrd.weak(O:StrictOrd n lt):WeakOrd n lt:=by
 have asy:∀a b,a < n->b < n->lt a b=true->lt b a=false:=λa b ha hb h=>by
  cases c:lt b a with
  | false=>rfl
  | true =>
   have:=O.tr a b a ha hb ha h c
   rw [O.irr a ha]at this;cases this
 refine⟨λa b c ha hb hc h1 h2=>?_,asy⟩
 by_cases e1:b=a
 ·subst e1;exact h2
 by_cases e2:c=b
 ·subst e2;exact h1
 exact asy a c ha hc (O.tr a b c ha hb hc (O.tot b a hb ha e1 h1) (O.tot c b hc hb e2 h2))
theorem StrictOrd.up(O:StrictOrd n lt)(P:Pm n p)(h:UpW lt p n):Up lt p n:=λi j cj hj=>O.tot _ _ (P.lt j hj) (P.lt i (by omega)) (P.inj j i hj (by omega) (by omega)) (h i j cj hj)
theorem Xs{vs:List Value}{lt:Nat->Nat->Bool}(O:WeakOrd vs.length lt){κ:SortKind}(q2:∀i j C,i < vs.length->j < vs.length->C (lt i j) s->kas_ask prog w A κ vs i j C s){Q:SortSt->Shared->Prop}
  (hQ:∀(p:Array Nat) (st:SortSt),Pm vs.length p->UpW lt p vs.length->arrOf st=p.map (kas_item (vs.toArray.zip vs.toArray))->failedOf st=none->Q st s) :
  wpAny (model prog w) A ((sortRuns').run (SortSt.mk' κ (vs.toArray.zip vs.toArray) #[] 7 none)) (λr s'=>Q r.2 s') E s:=by
 have hsz:(vs.toArray.zip vs.toArray).size=vs.length:=by simp
 have est:SortSt.mk' κ (vs.toArray.zip vs.toArray) #[] 7 none=SS κ (vs.toArray.zip vs.toArray) (List.toArray (List.range vs.length)) #[] 7:=by
  have e:=kas_range (vs.toArray.zip vs.toArray)
  rw [hsz]at e
  show SortSt.mk' κ (vs.toArray.zip vs.toArray) #[] 7 none=SortSt.mk' κ ((List.toArray (List.range vs.length)).map (kas_item (vs.toArray.zip vs.toArray))) #[] 7 none
  rw [e]
 rw [est]
 have hc:Cmp prog w A κ (vs.toArray.zip vs.toArray) vs.length lt s:=λi j C hi hj h=>by
  have:=q2 i j C hi hj h
  rwa [kat_ask_eq rfl]at this
 have cq:In vs.length (List.toArray (List.range vs.length)):=λi hi=>by
  simp at hi
  simp [at0,Array.getD,hi]
 have mn:(List.toArray (List.range vs.length)).size=vs.length:=by simp
 have:=N4 (E:=E) (g:=7) O hc cq (Q:=λ_ st=>Q st s) λp' av g' K S=>by
  have P:Pm vs.length p':=Za (by have:=K.perm;simpa using this)
  refine hQ p' _ P (λi j cj hj=>?_) rfl rfl
  exact S i j (Yaz _) cj (by rw [mn];omega)
 refine Yb1 this (λr s' h=>?_) λ_ _ e=>e
 obtain⟨rfl,h⟩:=h
 exact h
end
end L2
namespace L2
open PySem
def Qbt(A:Around)(s:Shared)(u v:Value)(b:Bool):Prop:=∀(prog:Program) (w:World) (E:Value->Shared->Prop) (Q:Value->Shared->Prop),Q (.bool b) s->wpAny (model prog w) A (richCompare .Lt u v) Q E s
inductive LexAt (A:Around) (s:Shared):List Value->List Value->Bool->Prop
 | nil {ys:List Value}:LexAt A s [] ys (decide (0 < ys.length))
 | stop {x:Value} {xs:List Value}:LexAt A s (x :: xs) [] false
 | eq {x y:Value} {xs ys:List Value} {r:Bool}:SeqAt.EqAt A s x y true->LexAt A s xs ys r->LexAt A s (x :: xs) (y :: ys) r
 | ne {x y:Value} {xs ys:List Value} {r:Bool}:SeqAt.EqAt A s x y false->Qbt A s x y r->LexAt A s (x :: xs) (y :: ys) r
section
variable {prog:Program}{w:World}{A:Around}{E:Value->Shared->Prop}{s:Shared}
theorem LexAt.ends{xs ys:List Value}{r:Bool}(h:LexAt A s xs ys r)(e:xs.zip ys=[]):r=decide (xs.length < ys.length):=by
 cases h with
 | nil=>simp
 | stop=>simp
 | eq=>simp at e
 | ne=>simp at e
theorem Jm{a b:Addr}{oa ob:Obj}{xs ys:Array Value}{n k:Nat}{P:PySem.Fin->Shared->Prop}{r:Bool}(ha:s.heap.get? a=some oa)(hb:s.heap.get? b=some ob)(cb:ob.cls=.type "tuple") (da:oa.data=.seq xs n) (db:ob.data=.seq ys k)
  (h:LexAt A s xs.toList ys.toList r) (q:P (.done (.ret (.bool r))) s):wpAny (model prog w) A (Builtin.«tuple.__lt__» ⟨[.ref a,.ref b],[]⟩) P E s:=by
 have tb:s.TypeIs (.ref b) "tuple" := ⟨ob,hb,cb⟩
 refine(show wpAny _ _ (isInstance (.ref b) (.type "tuple") >>= _) _ _ s from Yaa (Yc4 tb isSubtype_tuple_tuple ?_))
 rw [show(!true)=false from rfl,Yaj Yag]
 refine Yaa (wpAny_tupleItemsOf ha da (Yaa (wpAny_tupleItemsOf hb db (Yaa ?_))))
 refine Ydp _ (λleft acc s1=>acc.1=none/\s1=s/\∃us vs,left=List.zip us vs/\LexAt A s us vs r/\decide (us.length < vs.length)=decide (xs.size < ys.size)) _ ?_ ?_ _ _ ⟨rfl,rfl,xs.toList,ys.toList,rfl,h,by simp⟩
 ·rintro⟨u,v⟩ left acc s1 ⟨ea,rfl,us,vs,ez,hl,hn⟩
  cases hl with
  | nil=>simp at ez
  | stop=>simp at ez
  | eq h1 h2 =>
   simp only [List.zip_cons_cons,List.cons.injEq,Prod.mk.injEq]at ez
   obtain⟨⟨rfl,rfl⟩,rfl⟩:=ez
   refine Yaa (h1 prog w _ _ ?_)
   dsimp only
   rw [show(!true)=false from rfl,Yaj Yag]
   exact Yac ⟨rfl,rfl,_,_,rfl,h2,by simpa using hn⟩
  | ne h1 h2 =>
   simp only [List.zip_cons_cons,List.cons.injEq,Prod.mk.injEq]at ez
   obtain⟨⟨rfl,rfl⟩,rfl⟩:=ez
   refine Yaa (h1 prog w _ _ ?_)
   simp only [Bool.not_false,if_true]
   exact Yaa (Yco (Yaa (h2 prog w _ _ (Yaa (Yac (Yac (Yac q)))))))
 ·rintro⟨a1,a2⟩ s1 ⟨ea,rfl,us,vs,ez,hl,hn⟩
  simp only at ea
  subst ea
  have e:=hl.ends ez.symm
  rw [e,hn]at q
  exact Yac q
theorem N5{a b:Addr}{oa ob:Obj}{xs ys:Array Value}{n k:Nat}{r:Bool}(ha:s.heap.get? a=some oa)(hb:s.heap.get? b=some ob)(ca:oa.cls=.type "tuple") (cb:ob.cls=.type "tuple") (da:oa.data=.seq xs n) (db:ob.data=.seq ys k)
  (hu:A.units < cLine) (h:LexAt A.in1 s xs.toList ys.toList r):Qbt A s (.ref a) (.ref b) r:=λprog w E Q q =>
 wpAny_richCompare_same_room (T := "tuple") ⟨oa,ha,ca⟩ ⟨ob,hb,cb⟩ F.slot_tuple_lt (Ybu F.slot_tuple_lt ⟨oa,ha,ca⟩ F.entry_tuple_lt (Jm ha hb cb da db h ⟨_,rfl,(λz=>nomatch z),q⟩) (F.args_tuple_lt_2 _ _)) hu
end
mutual
def cmpb:PyData->PyData->Bool
 | .int _,.int _=>true
 | .tuple xs,.tuple ys=>cmpbs xs ys
 | _,_=>false
def cmpbs:List PyData->List PyData->Bool
 | [],_=>true
 | _ :: _,[]=>true
 | x :: xs,y :: ys=>if PyData.eqv x y then cmpbs xs ys else cmpb x y
end
theorem Uj{u a b c d:Nat}(h:u+min (max a b) (max c d) < cLine):u+min a c < cLine:=by omega
theorem Qbu{u a b c d:Nat}(h:u+min (max a b) (max c d) < cLine):u+min b d < cLine:=by omega
mutual
theorem N6:∀(x y:PyData) (A:Around) (s:Shared) (u v:Value) (as bs:List Addr),Reads s.heap u x as->Reads s.heap v y bs->x.canLay0=true->y.canLay0=true->cmpb x y=true->A.units+min x.depth y.depth < cLine->Qbt A s u v (D8 x y)
 | .int a,.int b,A,s,u,v,as,bs,r1,r2,_,_,_,_=>by
  cases r1;cases r2
  intro prog w E Q q
  have e:D8 (.int a) (.int b)=decide (a < b):=by simp [D8]
  rw [e]at q
  exact wpAny_lt_int q
 | .tuple xs,.tuple ys,A,s,u,v,as,bs,r1,r2,c1,c2,hc,hu=>by
  cases r1 with
  | tuple a1 a2 a3 a4 =>
   cases r2 with
   | tuple b1 b2 b3 b4 =>
    have e:D8 (.tuple xs) (.tuple ys)=Cq xs ys:=by simp [D8]
    rw [e]
    simp only [PyData.canLay0]at c1 c2
    simp only [cmpb]at hc
    simp only [PyData.depth]at hu
    refine N5 a1 b1 a2 b2 a3 b3 (by omega) (Dq xs ys A.in1 s _ _ _ _ a4 b4 c1 c2 hc ?_)
    show A.units+1+_ < _
    omega
 | .int _,.none,_,_,_,_,_,_,_,_,_,_,h,_=>by simp [cmpb]at h
 | .int _,.bool _,_,_,_,_,_,_,_,_,_,_,h,_=>by simp [cmpb]at h
 | .int _,.str _,_,_,_,_,_,_,_,_,_,_,h,_=>by simp [cmpb]at h
 | .int _,.list _,_,_,_,_,_,_,_,_,_,_,h,_=>by simp [cmpb]at h
 | .int _,.tuple _,_,_,_,_,_,_,_,_,_,_,h,_=>by simp [cmpb]at h
 | .int _,.dict _,_,_,_,_,_,_,_,_,_,_,h,_=>by simp [cmpb]at h
 | .tuple _,.none,_,_,_,_,_,_,_,_,_,_,h,_=>by simp [cmpb]at h
 | .tuple _,.bool _,_,_,_,_,_,_,_,_,_,_,h,_=>by simp [cmpb]at h
 | .tuple _,.str _,_,_,_,_,_,_,_,_,_,_,h,_=>by simp [cmpb]at h
 | .tuple _,.list _,_,_,_,_,_,_,_,_,_,_,h,_=>by simp [cmpb]at h
 | .tuple _,.int _,_,_,_,_,_,_,_,_,_,_,h,_=>by simp [cmpb]at h
 | .tuple _,.dict _,_,_,_,_,_,_,_,_,_,_,h,_=>by simp [cmpb]at h
 | .none,_,_,_,_,_,_,_,_,_,_,_,h,_=>by simp [cmpb]at h
 | .bool _,_,_,_,_,_,_,_,_,_,_,_,h,_=>by simp [cmpb]at h
 | .str _,_,_,_,_,_,_,_,_,_,_,_,h,_=>by simp [cmpb]at h
 | .list _,_,_,_,_,_,_,_,_,_,_,_,h,_=>by simp [cmpb]at h
 | .dict _,_,_,_,_,_,_,_,_,_,_,_,h,_=>by simp [cmpb]at h
theorem Dq:∀(xs ys:List PyData) (A:Around) (s:Shared) (us vs:List Value) (as bs:List Addr),ReadsAll s.heap us xs as->ReadsAll s.heap vs ys bs->PyData.canLayAll0 xs=true->PyData.canLayAll0 ys=true->cmpbs xs ys=true->A.units+min (PyData.depthAll xs) (PyData.depthAll ys) < cLine->LexAt A s us vs (Cq xs ys)
 | [],ys,A,s,us,vs,as,bs,r1,r2,_,_,_,_=>by
  cases r1
  have e:Cq [] ys=decide (0 < vs.length):=by
   cases r2 <;> simp [Cq]
  rw [e]
  exact .nil
 | x :: xs,[],A,s,us,vs,as,bs,r1,r2,_,_,_,_=>by
  cases r2
  cases r1 with
  | cons a1 a2 =>
   have e:Cq (x :: xs) []=false:=by simp [Cq]
   rw [e]
   exact .stop
 | x :: xs,y :: ys,A,s,us,vs,as,bs,r1,r2,c1,c2,hc,hu=>by
  simp only [PyData.canLayAll0,Bool.and_eq_true]at c1 c2
  simp only [PyData.depthAll]at hu
  cases r1 with
  | cons a1 a2 =>
   cases r2 with
   | cons b1 b2 =>
    have q:=SeqAt.eqAt_reads x y A s _ _ _ _ a1 b1 c1.1 c2.1 (Uj hu)
    simp only [cmpbs]at hc
    simp only [Cq]
    cases e:PyData.eqv x y with
    | true =>
     rw [e]at q hc
     exact .eq q (Dq xs ys A s _ _ _ _ a2 b2 c1.2 c2.2 hc (Qbu hu))
    | false =>
     rw [e]at q hc
     exact .ne q (N6 x y A s _ _ _ _ a1 b1 c1.1 c2.1 hc (Uj hu))
end
end L2
namespace L2
open PySem PySem.W PyProof.Rows
section
variable {prog:Program}{w:World}{A:Around}{E:Value->Shared->Prop}{s:Shared}
theorem Xt{fin b:Bool}{Q:Bool->Shared->Prop}:∀{us vs:List Value} {r:Bool},LexAt A s us vs r->fin=decide (us.length < vs.length)->∀i,Q r s->KatLex prog w A b fin Q (us.zip vs) (i+1) s:=by
 intro us vs r h
 induction h with
 | nil =>
  intro e i q
  have e':fin=decide (0 < _):=e
  rw [<- e']at q
  exact kat_nil q
 | stop =>
  intro e i q
  have e':fin=false:=by rw [e];simp
  rw [<- e']at q
  exact kat_nil q
 | eq h1 h2 ih =>
  intro e i q
  exact kat_cons (h1 prog w _ _ (kat_yes (ih (by rw [e];simp) (i+1) q)))
 | ne h1 h2 =>
  intro e i q
  refine kat_cons (h1 prog w _ _ (kat_no ?_))
  have eb:(b && i+1==0)=false:=by simp
  rw [eb]
  exact kat_one _ _ (h2 prog w _ _ (show PySem.W.BoolBack Q (.bool _) s from q))
theorem Uk{x y:Addr}{a b:Int}{ra rb:List PyData}{as bs:List Addr}{Q:Bool->Shared->Prop}(r1:Reads s.heap (.ref x) (.tuple (.int a :: ra)) as)(r2:Reads s.heap (.ref y) (.tuple (.int b :: rb)) bs)(c1:(PyData.tuple (.int a :: ra)).canLay0=true)(c2:(PyData.tuple (.int b :: rb)).canLay0=true)
  (hc:cmpb (.tuple (.int a :: ra)) (.tuple (.int b :: rb))=true) (hu:A.units+64 < cLine) (hd:(PyData.tuple (.int a :: ra)).depth<=64) (q:Q (D8 (.tuple (.int a :: ra)) (.tuple (.int b :: rb))) s):wpAny (model prog w) A (keyLt' (tuples' true) (.ref x) (.ref y)) Q E s:=by
 cases r1 with
 | @tuple _ ox xs n _ _ a1 a2 a3 a4 =>
  cases r2 with
  | @tuple _ oy ys m _ _ b1 b2 b3 b4 =>
   refine kat_lt a1 a3 b1 b3 ?_
   simp only [PyData.canLay0,PyData.canLayAll0,Bool.and_eq_true]at c1 c2
   simp only [PyData.depth,PyData.depthAll]at hd
   simp only [cmpb,cmpbs]at hc
   simp only [D8,Cq]at q
   have ex:xs.size=xs.toList.length:=by simp
   have ey:ys.size=ys.toList.length:=by simp
   rw [ex,ey]
   generalize xs.toList=us at a4 ⊢
   generalize ys.toList=vs at b4 ⊢
   cases a4 with
   | cons u1 u2 =>
    cases b4 with
    | cons v1 v2 =>
     cases u1 with
     | int _ t =>
      cases v1 with
      | int _ t' =>
       rw [List.zip_cons_cons]
       have e0:=SeqAt.eqAt_reads (.int a) (.int b) A s _ _ _ _ (.int a t) (.int b t') rfl rfl (by simp [PyData.depth];omega)
       cases e:PyData.eqv (.int a) (.int b) with
       | true =>
        rw [e]at e0 hc q
        refine kat_cons (e0 prog w _ _ (kat_yes ?_))
        refine Xt (Dq ra rb A s _ _ _ _ u2 v2 c1.2 c2.2 hc (by omega)) (by simp) 0 q
       | false =>
        rw [e]at e0 hc q
        refine kat_cons (e0 prog w _ _ (kat_no ?_))
        exact kat_lt_int q
theorem Ep{a:Addr}{vs:List Value}{lt:Nat->Nat->Bool}{n:Nat}{P:PySem.Fin->Shared->Prop}(ho:s.heap.get? a=some (seqObj "list" vs.toArray n)) (gy:vs.length < 1000) (O:StrictOrd vs.length lt)
  (hk:2<=vs.length->∀h':Heap,(∀b o,b≠a->s.heap.get? b=some o->h'.get? b=some o)->∃ κ,(∀Q:SortKind->Shared->Prop,Q κ { s with heap:=h' }->wpAny (model prog w) A (keyKind' vs.toArray) Q E { s with heap:=h' }) /\
   ∀i j C,i < vs.length->j < vs.length->C (lt i j) { s with heap:=h' }->kas_ask prog w A κ vs i j C { s with heap:=h' })
  (h:∀(p:Array Nat) (h':Heap) (c:Nat),Pm vs.length p->Up lt p vs.length->(∀b o,b≠a->s.heap.get? b=some o->h'.get? b=some o)->h'.get? a=some (seqObj "list" (p.toList.map λi=>vs.getD i Value.none).toArray c)->P (.done (.ret .none)) { s with heap:=h' }) :
  wpAny (model prog w) A (Builtin.«list.sort» ⟨[.ref a],[]⟩) P E s:=by
 obtain⟨e1,ho1⟩:∃e1,(s.heap.update a (Obj.mapSeq λ_=>(#[]:Array Value))).get? a=some (seqObj "list" #[] e1):=⟨_,get?_update_seq ho λ_=>#[]⟩
 have sz:vs.toArray.size<=sizeLine:=by rw [Yau];exact Yak (Ybq gy) (by decide)
 have k2:∀b o,b≠a->s.heap.get? b=some o->(((s.heap.update a (Obj.mapSeq λ_=>(#[]:Array Value))).push (seqObj "tuple" vs.toArray 0)).push (seqObj "list" #[] 0)).get? b=some o:=λb o hb e =>
  Heap.get?_push_of_some _ (Heap.get?_push_of_some _ (((Ybe s.heap a _).2 b hb).trans e))
 have d5:(((s.heap.update a (Obj.mapSeq λ_=>(#[]:Array Value))).push (seqObj "tuple" vs.toArray 0)).push (seqObj "list" #[] 0)).get? a=some (seqObj "list" #[] e1):=Heap.get?_push_of_some _ (Heap.get?_push_of_some _ ho1)
 rw [list_sort_plain]
 refine Yaa (listItems_at ho rfl (Yaa (listUpdate_at ho rfl (Yaa (seqEpoch_at ho1 rfl (Yaa (wpAny_newTuple (Yaa (wpAny_newList (Ybs ?_) (Yaz _))) (by simpa using sz))))) sz (Yaz _))))
 show wpAny (model prog w) A _ P E { s with heap:=(((s.heap.update a (Obj.mapSeq λ_=>(#[]:Array Value))).push (seqObj "tuple" vs.toArray 0)).push (seqObj "list" #[] 0)) }
 generalize ((s.heap.update a (Obj.mapSeq λ_=>(#[]:Array Value))).push (seqObj "tuple" vs.toArray 0)).push (seqObj "list" #[] 0)=h2 at k2 d5 ⊢
 dsimp only
 have fin:∀(st:SortSt) (p:Array Nat),(arrOf st).map (·.2)=List.toArray (p.toList.map λi=>vs.getD i Value.none)->failedOf st=none->Pm vs.length p->Up lt p vs.length->∀Q:Heap->Prop,(∀(h':Heap) (c:Nat),(∀b o,b≠a->s.heap.get? b=some o->h'.get? b=some o)->h'.get? a=some (seqObj "list" (p.toList.map λi=>vs.getD i Value.none).toArray c)->Q h') ->
   Q (h2.update a (Obj.mapSeq λ_=>(arrOf st).map (·.2))):=λst p e _ _ _ Q q=>by
  rw [e]
  exact q _ _ (λb o hb eb=>((Ybe h2 a _).2 b hb).trans (k2 b o hb eb)) (get?_update_seq d5 _)
 by_cases h1:vs.toArray.size < 2
 ·rw [Yao h1,Yao h1]
  refine Yaa (Yac ?_)
  rw [StateT.run_pure]
  have pm:Pm vs.length (List.range vs.length).toArray:=Za (by simp)
  have up:Up lt (List.range vs.length).toArray vs.length:=λi j cj hj=>by
   rw [Yau]at h1
   omega
  have ev:(arrOf (SortSt.mk' general' (vs.toArray.zip vs.toArray) #[] 7 none)).map (·.2)=List.toArray ((List.range vs.length).toArray.toList.map λi=>vs.getD i Value.none):=by
   have ek:=kat_snds (ks:=vs) (vs:=vs) (st:=SortSt.mk' general' (vs.toArray.zip vs.toArray) #[] 7 none) (p:=(List.range vs.length).toArray) rfl (by
    have e:=kas_range (vs.toArray.zip vs.toArray)
    rw [show(vs.toArray.zip vs.toArray).size=vs.length by simp]at e
    exact e.symm)
   exact ek
  have fn:=fin _ _ ev rfl pm up (λh'=>P (.done (.ret .none)) { s with heap:=h' }) (λh' c k e=>h _ h' c pm up k e)
  refine Yaa (Yac (Yaa (seqEpoch_at d5 rfl (Yaa (listUpdate_at d5 rfl ?_ (Yaz _) ?_)))))
  ·rw [show failedOf (SortSt.mk' general' (vs.toArray.zip vs.toArray) #[] 7 none)=none from rfl,bne_self_eq_false,Yaj Yag]
   exact Yac fn
  ·refine Yak ?_ (Ydb sz)
   show(Array.map _ _).size<=_
   rw [ev];simp
 ·rw [Yaj h1,Yaj h1]
  have lc:2<=vs.length:=by rw [Yau]at h1;omega
  obtain⟨κ,q1,q2⟩:=hk lc h2 k2
  refine Yaa (q1 _ ?_)
  refine Yaa (Yb1 (Xs O.weak q2 (Q:=λst s1=>s1={ s with heap:=h2 }/\∃p:Array Nat,(arrOf st).map (·.2)=List.toArray (p.toList.map λi=>vs.getD i Value.none)/\failedOf st=none/\Pm vs.length p/\Up lt p vs.length)
   λp st pm up ea ef=>⟨rfl,p,kat_snds rfl ea,ef,pm,O.up pm up⟩) ?_ λ_ _ e=>e)
  rintro⟨⟨⟩,st⟩ s1 ⟨rfl,p,ev,ef,pm,up⟩
  dsimp only
  have fn:=fin _ _ ev ef pm up (λh'=>P (.done (.ret .none)) { s with heap:=h' }) (λh' c k e=>h _ h' c pm up k e)
  refine Yaa (seqEpoch_at d5 rfl (Yaa (listUpdate_at d5 rfl ?_ (Yaz _) ?_)))
  ·rw [ef,bne_self_eq_false,Yaj Yag]
   exact Yac fn
  ·refine Yak ?_ (Ydb sz)
   show(Array.map _ _).size<=_
   rw [ev]
   simp [pm.size]
theorem J5{v:Value}{vs:List Value}{lt:Nat->Nat->Bool}{h1:Heap}{t1:Nat}{Q:Value->Shared->Prop}(ma:∀Q':List Value->Shared->Prop,Q' vs { s with heap:=h1,toks:=t1 }->wpAny (model prog w) A.in1 (collect v) Q' E s)(k1:∀b o,s.heap.get? b=some o->h1.get? b=some o)(z1:s.heap.objs.size<=h1.objs.size)(gy:vs.length < 1000)(O:StrictOrd vs.length lt)
  (hk:2<=vs.length->∀h':Heap,(∀b o,s.heap.get? b=some o->h'.get? b=some o)->∃ κ,(∀Q:SortKind->Shared->Prop,Q κ { s with heap:=h',toks:=t1 }->wpAny (model prog w) A.in1.in1 (keyKind' vs.toArray) Q E { s with heap:=h',toks:=t1 }) /\
   ∀i j C,i < vs.length->j < vs.length->C (lt i j) { s with heap:=h',toks:=t1 }->kas_ask prog w A.in1.in1 κ vs i j C { s with heap:=h',toks:=t1 })
  (h:∀(p:Array Nat) (h':Heap) (l c:Nat),Pm vs.length p->Up lt p vs.length->s.heap.objs.size<=l->(∀b o,s.heap.get? b=some o->h'.get? b=some o)->h'.get? l=some (seqObj "list" (p.toList.map λi=>vs.getD i Value.none).toArray c)->Q (.ref l) { s with heap:=h',toks:=t1 }) :
  wpAny (model prog w) A (call (.builtin "sorted") [v]) Q E s:=by
 have sz:vs.length<=sizeLine:=Yak (Ybq gy) (by decide)
 have hL:(h1.push (seqObj "list" vs.toArray 0)).get? h1.objs.size=some (seqObj "list" vs.toArray 0):=Heap.get?_push_size _ rfl
 refine Calls.call_function_entry kind_sorted plain_sorted entry_sorted (args_sorted1 _) ?_
 unfold Builtin.«sorted»
 refine Yaa (m:=checkCount "sorted" 1 1 _) (Yac (Yaa (ma _ (Yaa (wpAny_newList ?_ sz)))))
 refine Yaa (Ybs (Ybu slot_list_sort ⟨_,hL,rfl⟩ entry_list_sort ?_ (args_list_sort _)))
 refine Ep (s:={ s with heap:=h1.push (seqObj "list" vs.toArray 0),toks:=t1 }) hL gy O (λh2 h' k=>?_) λp h' c pm up k e=>⟨_,rfl,Yac ⟨_,rfl,?_⟩⟩
 ·exact hk h2 h' λb o q=>k b o (Yai (Yar (Yae q) z1)) (Heap.get?_push_of_some _ (k1 b o q))
 ·exact h p h' _ c pm up z1 (λb o q=>k b o (Yai (Yar (Yae q) z1)) (Heap.get?_push_of_some _ (k1 b o q))) e
end
end L2
namespace L2
open PySem PySem.Spec PyProof.Rows
structure SortOk(ds:List PyData):Prop where
 len:ds.length < 1000
 can:PyData.canLayAll0 ds=true
 dp:PyData.depthAll ds<=64
 cano:Ak ds=true
 nd:ds.Nodup
 fst:2<=ds.length->∀d∈ds,∃i r,d=.tuple (.int i :: r)
 cmp:∀d∈ds,∀e∈ds,cmpb d e=true
def Zj(ds:List PyData)(i j:Nat):Bool:=D8 (ds.getD i .none) (ds.getD j .none)
theorem A4:∀{ds:List PyData},Ak ds=true->∀d∈ds,Cano d=true
 | d :: ds,h,e,he=>by
  simp only [Ak,Bool.and_eq_true]at h
  rcases Yap.mp he with rfl | he
  ·exact h.1
  ·exact A4 h.2 e he
theorem Bs:∀{ds:List PyData},PyData.canLayAll0 ds=true->∀d∈ds,d.canLay0=true
 | d :: ds,h,e,he=>by
  simp only [PyData.canLayAll0,Bool.and_eq_true]at h
  rcases Yap.mp he with rfl | he
  ·exact h.1
  ·exact Bs h.2 e he
theorem D9:∀{ds:List PyData},∀d∈ds,d.depth<=PyData.depthAll ds
 | d :: ds,e,he=>by
  simp only [PyData.depthAll]
  rcases Yap.mp he with rfl | he
  ·omega
  ·have:=D9 (ds:=ds) e he
   omega
theorem Az{α:Type}{xs:List α}{i:Nat}{d:α}(h:i < xs.length):xs.getD i d∈xs:=by
 rw [List.getD_eq_getElem?_getD,List.getElem?_eq_getElem h];exact Yb3 h
theorem B9{α:Type}{xs:List α}{i:Nat}{d:α}(h:i < xs.length):xs[i]?=some (xs.getD i d):=by
 rw [List.getD_eq_getElem?_getD,List.getElem?_eq_getElem h];rfl
theorem SortOk.ord{ds:List PyData}(h:SortOk ds):StrictOrd ds.length (Zj ds):=by
 refine⟨λa b c ha hb hc h1 h2=>?_,λa b ha hb ic h1=>?_,λa ha=>Ec _ (A4 h.cano _ (Az ha))⟩
 ·exact Lb _ _ _ (A4 h.cano _ (Az ha)) (A4 h.cano _ (Az hb)) (A4 h.cano _ (Az hc)) h1 h2
 ·refine Lc _ _ (A4 h.cano _ (Az ha)) (A4 h.cano _ (Az hb)) (λe=>ic ?_) h1
  refine(List.getElem?_inj ha h.nd).mp ?_
  rw [B9 (d:=PyData.none) ha,B9 (d:=PyData.none) hb,e]
theorem Gy{h h':Heap}(hk:∀b o,h.get? b=some o->h'.get? b=some o):∀{us:List Value} {ds:List PyData} {as:List Addr},ReadsAll h us ds as->ReadsAll h' us ds as
 | _,_,_,.nil=>.nil
 | _,_,_,.cons r t=>.cons (Ydc hk r) (Gy hk t)
theorem Lg{h:Heap}:∀{us:List Value} {ds:List PyData} {as:List Addr} {i:Nat},ReadsAll h us ds as->i < ds.length->∃bs,Reads h (us.getD i .none) (ds.getD i .none) bs
 | _,_,_,0,.cons r _,_=>⟨_,r⟩
 | _,_,_,i+1,.cons _ t,hi=>Lg (i:=i) t (by simpa using hi)
theorem Ul{h:Heap}:∀{us:List Value} {ds:List PyData} {as:List Addr},ReadsAll h us ds as->us.length=ds.length
 | _,_,_,.nil=>rfl
 | _,_,_,.cons _ t=>by simp [Ul t]
theorem Ik{h:Heap}:∀{us:List Value} {ds:List PyData} {as:List Addr},ReadsAll h us ds as->(∀d∈ds,∃i r,d=.tuple (.int i :: r))->∃fs:List Value,PySem.W.KatTups h us fs/\fs.length=us.length/\∀v∈fs,∃i t,v=.int i t
 | _,_,_,.nil,_=>⟨[],PySem.W.KatTups.nil,rfl,λ_ z=>nomatch z⟩
 | _,_,_,.cons r t,hd=>by
  obtain⟨fs,k,l,z⟩:=Ik t λd gz=>hd d (Yav _ gz)
  obtain⟨i,r',rfl⟩:=hd _ Yax
  cases r with
  | @tuple a o vs n xs as a1 a2 a3 a4 =>
   cases hv:vs.toList with
   | nil=>rw [hv]at a4;cases a4
   | cons v0 vr =>
    rw [hv]at a4
    cases a4 with
    | cons u1 u2 =>
     cases u1 with
     | int _ t0 =>
      refine⟨.int i t0 :: fs,PySem.W.KatTups.cons a1 a2 a3 ?_ k,by simp [l],λv hv'=>?_⟩
      ·rw [<- Array.getElem?_toList,hv];rfl
      ·rcases Yap.mp hv' with rfl | hv'
       ·exact⟨_,_,rfl⟩
       ·exact z v hv'
def P0:AC:=λxs μ R=>match xs with
 | [.R a]=>opt (μ a) λm=>match m with
  | .lst ys=>opt (dats ys) λds=>SortOk ds/\∀(es:List PyData) (p:Addr),es.Perm ds->es.Pairwise (λa b=>D8 a b=true)->μ p=none->R (.R p) (Aj μ p (.lst (es.map .D)))
  | _=>False
 | _=>False
theorem B3{α:Type}(xs:List α)(d:α):(List.range xs.length).map (λi=>xs.getD i d)=xs:=by
 apply Ycy
 intro i
 rw [List.getElem?_map]
 by_cases h:i < xs.length
 ·rw [List.getElem?_range h,B9 (d:=d) h];rfl
 ·rw [List.getElem?_eq_none (by simpa using h),List.getElem?_eq_none (by simpa using h)];rfl
theorem Ai.pick{K:PySem.W.Frag}{H:Hp}{ds:List PyData}{vs:List V}(h:Ai K H ds vs):∀(p:List Nat),(∀i∈p,i < ds.length)->Ai K H (p.map λi=>ds.getD i .none) (p.map λi=>vs.getD i .non)
 | [],_=>Dp
 | i :: p,hp=>by
  obtain⟨x,ex,dx⟩:=h.get (B9 (d:=PyData.none) (hp i Yax))
  refine Db ?_ (h.pick p λj hj=>hp j (Yav _ hj))
  have e:vs.getD i .non=x:=by rw [List.getD_eq_getElem?_getD,ex];rfl
  show Dk K H (ds.getD i .none) (vs.getD i .non)
  rw [e];exact dx
theorem Vals.pick{xs:List V}{us:List Value}(h:Vals xs us):∀(p:List Nat),(∀i∈p,i < xs.length)->Vals (p.map λi=>xs.getD i .non) (p.map λi=>us.getD i .none)
 | [],_=>.nil
 | i :: p,hp=>by
  obtain⟨u,eu,ru⟩:=h.get (B9 (d:=V.non) (hp i Yax))
  refine .cons ?_ (Vals.pick h p λj hj=>hp j (Yav _ hj))
  have e:us.getD i .none=u:=by rw [List.getD_eq_getElem?_getD,eu];rfl
  show A6 (xs.getD i .non) (us.getD i .none)
  rw [e];exact ru
section
variable {X:Cx}{k:Nat}
theorem Um(hr:Room k X.A):VCall X (.builtin "sorted") P0:=by
 intro aa s σ H xs us Q I r zz93
 refine Bu zz93 λas μ R ra hc h hq=>?_
 unfold P0 at h
 split at h
 ·rename_i a
  cases ra with
  | cons r1 r2 =>
  cases r2
  obtain⟨m,em,h⟩:=Aw h
  split at h
  ·rename_i ys
   obtain⟨ds,ed,ok,h⟩:=Aw h
   obtain⟨o,ho,ws,rfl,rs⟩:=hc _ _ em
   cases r1
   obtain⟨u,rfl,rx⟩:=E6 r
   cases rx
   obtain⟨ae,rv,pl,hz⟩:=I.list (E5.of (K:=X.K) ho)
   have dk:=rs.dats ed
   obtain⟨bs,rd⟩:=Ai.reads I ds ws ae dk rv
   have l1:=Ul rd
   have l2:=dk.length
   have gy:ae.length < 1000:=by rw [l1];exact ok.len
   have sz:ae.length<=sizeLine:=Yak (Ybq gy) (by decide)
   have keep:∀b o,s.heap.get? b=some o->((s.heap.push (seqObj "list" #[] 0)).update s.heap.objs.size (Obj.mapSeq (·++ae.toArray))).get? b=some o:=λb o q =>
    ((Ybe (s.heap.push (seqObj "list" #[] 0)) s.heap.objs.size _).2 b (Yai (Yae q))).trans (Heap.get?_push_of_some _ q)
   have hO:StrictOrd ae.length (Zj ds):=by rw [l1];exact ok.ord
   refine J5 (t1:=s.toks) (λQ' q=>collect_list pl.isList q sz) keep (by rw [Heap.size_update];exact Yak (Ycs _) (Nat.le_of_eq (Yce _ _).symm)) gy hO (λh2 h' kp=>?_) λp h' l c pm up hl kp e=>?_
   ·have gq:ReadsAll h' ae ds bs:=Gy kp rd
    obtain⟨fs,kt,kl,kz⟩:=Ik gq (ok.fst (by omega))
    refine⟨tuples' true,λQ q=>?_,λi j C hi hj q=>?_⟩
    ·refine Yfa (T:=.type "int") kt (by omega) (λv hv=>?_) rfl q
     obtain⟨i,t,rfl⟩:=kz v hv
     exact PySem.W.Looks.of_pure rfl
    ·rw [l1]at hi hj
     obtain⟨b1,q1⟩:=Lg gq hi
     obtain⟨b2,q2⟩:=Lg gq hj
     have m1:=Az (d:=PyData.none) hi
     have m2:=Az (d:=PyData.none) hj
     obtain⟨x1,r1,e1⟩:=ok.fst (by omega) _ m1
     obtain⟨x2,r2,e2⟩:=ok.fst (by omega) _ m2
     have c1:=Bs ok.can _ m1
     have c2:=Bs ok.can _ m2
     have d1:=Yak (D9 _ m1) ok.dp
     have cm:=ok.cmp _ m1 _ m2
     have q':C (D8 (ds.getD i .none) (ds.getD j .none)) _:=q
     rw [e1]at q1 c1 d1 cm q'
     rw [e2]at q2 c2 cm q'
     have hu:=hr.un
     unfold PySem.W.kas_ask
     generalize ae.getD i Value.none=u1 at q1 ⊢
     generalize ae.getD j Value.none=u2 at q2 ⊢
     cases q1 with
     | tuple a1 a2 a3 a4 =>
      cases q2 with
      | tuple b1 b2 b3 b4 =>
       exact Uk (.tuple a1 a2 a3 a4) (.tuple b1 b2 b3 b4) c1 c2 cm (by show X.A.units+1+1+64 < _;omega) d1 q'
   ·have hp:∀i∈p.toList,i < ds.length:=λi hi=>by
     have:=pm.perm.mem_iff.mp hi
     rw [l1]at this
     exact Ya3.mp this
    have hv:=Vals.pick rv p.toList λi hi=>by rw [l2];exact hp i hi
    have hd:=dk.pick p.toList hp
    have ah:(p.toList.map λi=>ws.getD i .non).length<=sizeLine:=by
     rw [Yab,Yas,pm.size];exact sz
    refine⟨.ref l,_,I.laid (t':=s.toks) kp hl (show Bl X.prog X.w _ h' _ (.lst (p.toList.map λi=>ws.getD i .non)) from⟨ah,_,c,hv,e⟩),rfl,?_⟩
    have hn:=I.hok.fresh hl
    refine hq _ _ _ _ (Kp.new hn _) (hc.new hn (Bx ?_)) Co (h (p.toList.map λi=>ds.getD i .none) l ?_ ?_ (hc.none hn))
    ·exact hd.rel
    ·have e1:p.toList.Perm (List.range ds.length):=by rw [<- l1];exact pm.perm
     have e2:=e1.map λi=>ds.getD i PyData.none
     rw [B3]at e2
     exact e2
    ·rw [Ybm]
     refine Ybo.mpr λi j hi hj cj=>?_
     have hj':j < ae.length:=by rw [<- pm.size];simpa using hj
     have:=up i j cj hj'
     have gi:p.getD i 0=p.toList[i]:=by simp [Array.getD,show i < p.size by simpa using hi]
     have gj:p.getD j 0=p.toList[j]:=by simp [Array.getD,show j < p.size by simpa using hj]
     rw [gi,gj]at this
     exact this
  ·exact h.elim
 ·exact h.elim
end
section
variable {prog:Program}{w:World}{A:Around}{E:Value->Shared->Prop}{s:Shared}
end
section
variable {X:Cx}{tg a:Expr}{ta:AE}{pos p:Pos}
end
def Qbv:MO->Prop
 | .dk _=>True
 | .dt _=>True
 | _=>False
section
variable {X:Cx}{o e f:Expr}{ap ak:Pos}{td ty tx:AE}
def Uo(td ty tx:AE):AE:=fun τ μ R=>td τ μ λx μ1=>match x with
 | .R a=>(∃m,μ1 a=some m/\Qbv m)/\ty τ μ1 λy μ2=>tx τ μ2 λz μ3=>match y with
  | .D d=>opt (μ3 a) λm=>opt (dget m d) λr=>R (r.getD z) μ3
  | _=>False
 | _=>False
theorem Uq{K:PySem.W.Frag}{μ:M}{H:Hp}{a:Addr}{m:MO}(hc:Cn K μ H)(e:μ a=some m)(h:Qbv m):IsD H a:=by
 obtain⟨ob,ho,rm⟩:=hc a m e
 cases m with
 | dk ab=>obtain⟨vs,rfl,_⟩:=rm;exact .inl ⟨vs,.inl ho⟩
 | dt ab=>obtain⟨vs,rfl,_⟩:=rm;exact .inr ⟨vs,.inl ho⟩
 | lst xs=>exact h.elim
 | dd ab=>exact h.elim
theorem Mo(hu:X.A.units+1 < cLine)(ho:VE X o td)(he:VE X e ty)(hf:VE X f tx)(m:M2 X o "get" ap e f ak:=by exact⟨rfl,rfl,rfl,rfl⟩):VE X (.Call (.Attribute o "get" ap) [e,f] [] ak) (Uo td ty tx):=(Tl hu ho he hf m).imp fun σ H Q zz94=>Bu zz94 fun τ μ R hs hc h hq =>
 ⟨τ,μ,_,hs,hc,h,λx μ1 v H1 S1 c1 rx hx=>by
  split at hx
  ·rename_i a
   obtain⟨⟨m0,em0,hd⟩,hx⟩:=hx
   cases rx
   refine⟨a,rfl,Uq c1 em0 hd,τ,μ1,_,hs.kp S1,c1,hx,λy μ2 u H2 S2 c2 ry hy=>⟨τ,μ2,_,(hs.kp S1).kp S2,c2,hy,λz μ3 zv H3 S3 c3 rz hz=>?_⟩⟩
   split at hz
   ·obtain⟨m,em,hz⟩:=Aw hz
    obtain⟨r,er,hz⟩:=Aw hz
    obtain⟨r',g,ro⟩:=K9 c3 em (Dk.kp S3 _ _ ry) er
    refine⟨r',g,hq _ _ _ _ ((S1.trans S2).trans S3) c3 ?_ hz⟩
    cases r with
    | none =>
     cases r' with
     | none=>exact rz
     | some _=>exact ro.elim
    | some _ =>
     cases r' with
     | none=>exact ro.elim
     | some _=>exact ro
   ·exact hz.elim
  ·exact hx.elim⟩
end
section
variable {X:Cx}{e:Expr}{te:AE}{p p2 pos bh:Pos}
def Qe5(te:AE):AE:=fun τ μ R=>te τ μ λx μ1=>match x with
 | .R a=>opt (μ1 a) λm=>match m with
  | .lst xs=>∀l,μ1 l=none->R (.R l) (Aj μ1 l (.lst xs.reverse))
  | _=>False
 | _=>False
theorem Xu(hc:X.calm=true)(hg:Gl X "list") (hm:X.mg "list" = none) (jx:Gl X "reversed") (dz:X.mg "reversed" = none) (he:VE X e te)
  (hs:starEach [.Call (.Name "reversed" p2) [e] [] bh] X.env=[(false,eval (.Call (.Name "reversed" p2) [e] [] bh) X.env)]:=by rfl) (eh:starEach [e] X.env=[(false,eval e X.env)]:=by rfl) :
  VE X (.Call (.Name "list" p) [.Call (.Name "reversed" p2) [e] [] bh] [] pos) (Qe5 te):=(Wz hc hg hm jx dz he hs eh).imp fun σ H Q zz95=>Bu zz95 fun τ μ R hs hc h hq =>
 ⟨τ,μ,_,hs,hc,h,λx μ1 v H1 S1 c1 rx hx=>by
  split at hx
  ·rename_i a
   obtain⟨m,em,hx⟩:=Aw hx
   split at hx
   ·obtain⟨ob,ho,ws,rfl,rs⟩:=c1 _ _ em
    cases rx
    exact⟨a,ws,rfl,E5.of ho,λl hl=>hq _ _ _ _ (S1.trans (Kp.new hl _)) (c1.new hl (Bx rs.rev)) Co (hx l (c1.none hl))⟩
   ·exact hx.elim
  ·exact hx.elim⟩
end
end L2
namespace L2
open PySem
def Df(xs:Array Nat):Prop:=xs.toList.Pairwise (· < ·)
theorem Df.lt{xs:Array Nat}(h:Df xs){i j:Nat}{d:Nat}(cj:i < j)(hj:j < xs.size):xs.getD i d < xs.getD j d:=by
 have:=Ybo.mp h i j (by simp;omega) (by simpa using hj) cj
 simp only [Array.getElem_toList]at this
 simp only [Array.getD,show i < xs.size by omega,hj,dif_pos]
 exact this
theorem Il{xs:Array Nat}(h:Df xs){j:Nat}:∀(f lo hi:Nat),hi - lo<=f->lo<=hi->hi<=xs.size->(∀i,i < lo->xs.getD i j < j)->(∀i,hi<=i->i < xs.size->j<=xs.getD i j) ->
  SetTable.below.go xs j f lo hi<=xs.size/\(∀i,i < SetTable.below.go xs j f lo hi->xs.getD i j < j)/\∀i,SetTable.below.go xs j f lo hi<=i->i < xs.size->j<=xs.getD i j
 | 0,lo,hi,h1,h2,h3,h4,h5=>by
  have e:lo=hi:=by omega
  subst e
  exact⟨h3,h4,h5⟩
 | f+1,lo,hi,h1,h2,h3,h4,h5=>by
  rw [SetTable.below.go]
  by_cases c:lo < hi
  ·rw [Yao c]
   dsimp only
   by_cases c2:xs.getD ((lo+hi) / 2) j < j
   ·rw [Yao c2]
    refine Il h f _ _ (by omega) (by omega) h3 (λi df=>?_) h5
    by_cases e:i=(lo+hi) / 2
    ·rw [e];exact c2
    ·have:=h.lt (d:=j) (show i < (lo+hi) / 2 by omega) (show(lo+hi) / 2 < xs.size by omega)
     omega
   ·rw [Yaj c2]
    refine Il h f _ _ (by omega) (by omega) (by omega) h4 (λi df hs=>?_)
    by_cases e:i=(lo+hi) / 2
    ·rw [e];omega
    ·have:=h.lt (d:=j) (show(lo+hi) / 2 < i by omega) hs
     omega
  ·rw [Yaj c]
   have e:lo=hi:=by omega
   subst e
   exact⟨h3,h4,h5⟩
theorem Ea{xs:Array Nat}(h:Df xs)(j:Nat):SetTable.below xs j<=xs.size/\(∀i,i < SetTable.below xs j->xs.getD i j < j)/\∀i,SetTable.below xs j<=i->i < xs.size->j<=xs.getD i j :=
 Il h xs.size 0 xs.size (by omega) (Yaz _) (Yad _) (λi hi=>absurd hi (Yem _)) λi hi hs=>by omega
theorem N7{xs:Array Nat}(h:Df xs){k:Nat}(hk:k < xs.size):SetTable.below xs (xs[k]+1)=k+1:=by
 obtain⟨b1,b2,b3⟩:=Ea h (xs[k]+1)
 have g:∀i,(hi:i < xs.size)->xs.getD i (xs[k]+1)=xs[i]:=λi hi=>by simp [Array.getD,hi]
 rcases Nat.lt_trichotomy (SetTable.below xs (xs[k]+1)) (k+1) with c | c | c
 ·have:=b3 k (by omega) hk
  rw [g k hk]at this
  omega
 ·exact c
 ·have h1:k+1 < xs.size:=by omega
  have:=b2 (k+1) c
  rw [g _ h1]at this
  have h2:=h.lt (d:=0) (Ycl k) h1
  simp only [Array.getD,hk,h1,dif_pos]at h2
  have h3:xs[k] < xs[k+1]:=h2
  omega
theorem N8{xs:Array Nat}(h:Df xs):SetTable.below xs 0=0:=by
 obtain⟨b1,b2,b3⟩:=Ea h 0
 rcases Yej (SetTable.below xs 0) with e | e
 ·exact e
 ·have:=b2 0 e;omega
theorem Er{α:Type}(xs:Array α)(p:Nat)(x:α)(hp:p<=xs.size):(SetTable.insertAt xs p x).toList=xs.toList.take p++x :: xs.toList.drop p:=by
 rw [SetTable.toList_insertAt]
theorem Mp{xs:Array Nat}(h:Df xs){j:Nat}(hj:xs[SetTable.below xs j]?≠some j):Df (SetTable.insertAt xs (SetTable.below xs j) j):=by
 obtain⟨b1,b2,b3⟩:=Ea h j
 unfold Df
 rw [Er _ _ _ b1]
 have ht:∀a∈xs.toList.take (SetTable.below xs j),a < j:=λa ha=>by
  obtain⟨i,hi,e⟩:=Ydk ha
  have h1:i < SetTable.below xs j:=by
   rw [Ybl]at hi;omega
  have:=b2 i h1
  simp only [Array.getD,show i < xs.size by omega,dif_pos]at this
  rw [<- e]
  simpa using this
 have hd:∀a∈xs.toList.drop (SetTable.below xs j),j < a:=λa ha=>by
  obtain⟨i,hi,e⟩:=Ydk ha
  have h1:SetTable.below xs j+i < xs.size:=by
   rw [Ydn]at hi;simp at hi;omega
  have h2:=b3 _ (Nat.le_add_right _ i) h1
  simp only [Array.getD,h1,dif_pos]at h2
  have e2:a=xs[SetTable.below xs j+i]:=by rw [<- e];simp
  have h3:a≠j:=by
   intro z
   by_cases c:i=0
   ·subst c
    apply hj
    rw [Array.getElem?_eq_getElem (by omega)]
    exact Ycg some (e2.symm.trans z)
   ·have h0:SetTable.below xs j < xs.size:=by omega
    have h4:=b3 _ (Yad _) h0
    simp only [Array.getD,h0,dif_pos]at h4
    have h5:=h.lt (d:=0) (show SetTable.below xs j < SetTable.below xs j+i by omega) h1
    simp only [Array.getD,h0,h1,dif_pos]at h5
    have h5':xs[SetTable.below xs j] < xs[SetTable.below xs j+i]:=h5
    have so:j<=xs[SetTable.below xs j]:=h4
    omega
  have wk:j<=xs[SetTable.below xs j+i]:=h2
  omega
 refine Yc8.mpr ⟨h.sublist (List.take_sublist _ _),Ydw.mpr ⟨hd,h.sublist (List.drop_sublist _ _)⟩,λa ha b hb=>?_⟩
 rcases Yap.mp hb with rfl | hb
 ·exact ht a ha
 ·have:=ht a ha
  have:=hd b hb
  omega
structure TblOk(t:SetTable)(led:Bool):Prop where
 rise:Df t.place
 dum:t.dummies=#[]
 led:t.led=led
theorem N9(n:Nat):Df (Array.range n):=by
 unfold Df
 rw [Array.toList_range]
 exact Ycn
theorem TblOk.standIn{t:SetTable}{led:Bool}(h:TblOk t led)(n:Nat):TblOk (t.standIn n) led:=⟨N9 n,rfl,h.led⟩
theorem TblOk.orStandIn{t:SetTable}{led:Bool}(h:TblOk t led)(n:Nat):TblOk (t.orStandIn n) led:=by
 unfold SetTable.orStandIn
 split
 ·exact h
 ·exact h.standIn n
theorem TblOk.plain{t:SetTable}{led:Bool}(h:TblOk t led)(b:Bool):TblOk { t with plain:=b } led:=⟨h.rise,h.dum,h.led⟩
theorem Im(j:Nat):SetTable.has #[] j=false:=by
 unfold SetTable.has
 simp
theorem Io{t:SetTable}{led:Bool}(h:TblOk t led){j:Nat}(e:t.slot j=.empty):t.place[SetTable.below t.place j]?≠some j:=by
 unfold SetTable.slot at e
 dsimp only at e
 split at e
 ·cases e
 ·rename_i c
  simpa using c
theorem Oa{t:SetTable}{led:Bool}(h:TblOk t led){j:Nat}:t.slot j≠.dummy:=by
 unfold SetTable.slot
 dsimp only
 rw [h.dum,Im]
 split
 ·intro z;cases z
 ·intro z;cases z
theorem Jn(t:SetTable)(p:SetTable.Probe):(t.advance p).dummy=p.dummy:=by
 unfold SetTable.advance
 split <;> rfl
theorem Hb{t:SetTable}{led:Bool}(h:TblOk t led){hashAt:Nat->Int}{hh:Int}{j:Nat}{d:Option Nat}:∀(f:Nat) (p:SetTable.Probe),p.dummy=none->SetTable.probe.go t hashAt hh f p=some (.empty j d)->d=none/\t.slot j=.empty
 | 0,_,_,e=>by simp [SetTable.probe.go]at e
 | f+1,p,hp,e=>by
  rw [SetTable.probe.go]at e
  cases c:t.slot p.j with
  | empty =>
   rw [c]at e
   have e':=Ya6 e
   injection e' with e1 e2
   exact⟨e2.symm.trans hp,by rw [<- e1];exact c⟩
  | dummy=>exact absurd c (Oa h)
  | live i =>
   rw [c]at e
   dsimp only at e
   split at e
   ·cases e
   ·exact Hb h f _ ((Jn t p).trans hp) e
theorem Xv{t:SetTable}{led:Bool}(h:TblOk t led){hh:Int}{s:Nat}{b:Bool}(e:t.freeSlot hh=some (s,b)):t.place[SetTable.below t.place s]?≠some s:=by
 unfold SetTable.freeSlot SetTable.probe at e
 split at e
 ·rename_i j d c
  obtain⟨rfl,hs⟩:=Hb h _ _ rfl c
  have e':=Ya6 e
  have e1:j=s:=Ycg Prod.fst e'
  rw [<- e1]
  exact Io h hs
 ·cases e
theorem TblOk.put{t:SetTable}{led:Bool}(h:TblOk t led){s:Nat}(hs:t.place[SetTable.below t.place s]?≠some s):TblOk (t.put s).1 led:=by
 refine⟨Mp h.rise hs,?_,h.led⟩
 show(if SetTable.has t.dummies s then _ else t.dummies)=#[]
 rw [h.dum,Im];rfl
theorem TblOk.layNew{t:SetTable}{led:Bool}(h:TblOk t led)(es:Array (Int×Value))(hh:Int)(x:Value):TblOk (layNew t es hh x).2.1 led:=by
 unfold PySem.layNew
 split
 ·rename_i s b c
  exact(h.put (Xv h c)).orStandIn _
 ·exact h.standIn _
theorem TblOk.laid{mask finger moves:Nat}{led plain:Bool}{hs:Array Int}{t:SetTable}{au:Array Nat}(e:SetTable.laid mask finger moves led plain hs=some (t,au)):TblOk t led:=by
 unfold SetTable.laid at e
 cases c:SetTable.layClean mask hs with
 | none=>rw [c]at e;cases e
 | some owner =>
  rw [c]at e
  have e':=Ya6 e
  injection e' with e1 _
  subst e1
  refine⟨?_,rfl,rfl⟩
  unfold Df
  show(List.map _ _).Pairwise _
  rw [Ybm]
  refine List.Pairwise.filterMap _ (R:=(· < ·)) (λa a' zf b hb b' jz=>?_) Ycn
  obtain⟨z,_,rfl⟩:=Yah.mp hb
  obtain⟨z',_,rfl⟩:=Yah.mp jz
  exact zf
theorem TblOk.relayAll{t:SetTable}{led:Bool}(h:TblOk t led)(es:Array (Int×Value))(w:Nat):TblOk (relayAll t es w).2.1 led:=by
 unfold PySem.relayAll
 split
 ·rename_i t' au c
  dsimp only
  split
  ·have:=TblOk.laid c
   rw [h.led]at this
   exact this
  ·exact h.standIn _
 ·exact h.standIn _
theorem TblOk.fresh(led:Bool):TblOk (.fresh 0 0 led) led:=⟨List.Pairwise.nil,rfl,rfl⟩
section
variable {prog:Program}{w:World}{Kt:Type} [DecidableEq Kt]{knd:KeyKind prog w Kt}{A:Around}{E:Value->Shared->Prop}{s:Shared}{a:Addr}{led:Bool}
def Dg(knd:KeyKind prog w Kt)(h:Heap)(a:Addr)(l:List (Int×Value))(led:Bool):Prop :=
 ∃o es ep t,h.get? a=some o/\o.ExactSet/\o.data=.set es ep t/\es.toList=l/\ElemsOf knd l/\t.fits es.size=true/\TblOk t led
theorem J6{h:Heap}{o:Obj}{es:Array (Int×Value)}{ep:Nat}{t:SetTable}(ho:h.get? a=some o)(cv:o.ExactSet)(hd:o.data=.set es ep t){cw:Array (Int×Value)}{t':SetTable}(fi:ElemsOf knd cw.toList)(hf:t'.fits cw.size=true)(hT:TblOk t' led) :
  (h.update a (Obj.putSet cw t')).get? a=some { o with data:=.set cw (ep+1) t' }/\Dg knd (h.update a (Obj.putSet cw t')) a cw.toList led:=by
 have e:=Heap.get?_update_self (Obj.putSet cw t') ho (by rw [putSet_of cw t' hd];rfl)
 rw [putSet_of cw t' hd]at e
 exact⟨e,_,cw,ep+1,t',e,cv,rfl,rfl,fi,hf,hT⟩
theorem Mq{g:Bool->Sem Unit}(hg:∀(b:Bool) (s1:Shared) (Q':Unit->Shared->Prop),Q' () s1->wpAny (model prog w) A (g b) Q' E s1){o:Obj}{es:Array (Int×Value)}{ep:Nat}{t:SetTable}(ho:s.heap.get? a=some o)(cv:o.ExactSet)(hd:o.data=.set es ep t)
  {bw:Array (Int×Value)} {t2:SetTable} (fi:ElemsOf knd bw.toList) (hb:bw.size < scanBound) (hf:t2.fits bw.size=true) (hT:TblOk t2 led) {io:Bool} {R:Option Bool->Shared->Prop}
  (h:∀h' l',Heap.SameBut a s.heap h'->Dg knd h' a l' led->l'.Perm bw.toList->R (some true) { s with heap:=h' }) :
  wpAny (model prog w) A (do
   storeSet a bw t2
   if(!io && t2.tooFull)=true then do
    g (relayAll t2 bw (SetTable.grown bw.size)).2.2
    storeSet a (relayAll t2 bw (SetTable.grown bw.size)).1 (relayAll t2 bw (SetTable.grown bw.size)).2.1
    pure (some true)
   else pure (some true)) R E s:=by
 obtain⟨g1,g2⟩:=J6 (knd:=knd) (led:=led) ho cv hd fi hf hT
 refine Yaa (Yex ho hd ?_ (fits_of_scanBound hb))
 have b1:=Ybe s.heap a (Obj.putSet bw t2)
 split
 ·have p1:=relayAll_perm t2 bw (SetTable.grown bw.size)
  have f1:=relayAll_fits t2 bw (SetTable.grown bw.size)
  have k1:=hT.relayAll bw (SetTable.grown bw.size)
  generalize relayAll t2 bw (SetTable.grown bw.size)=R1 at p1 f1 k1 ⊢
  obtain⟨mj,t3,gave⟩:=R1
  dsimp only at p1 f1 k1 ⊢
  have z:mj.size < scanBound:=by
   have e:mj.size=bw.size:=by rw [<- Yas,p1.length_eq,Yas]
   rw [e];exact hb
  obtain⟨_,g4⟩:=J6 (knd:=knd) (led:=led) g1 cv rfl (fi.perm p1) f1 k1
  exact Yaa (hg _ _ _ (Yaa (Yex g1 rfl (Yac (h _ _ (b1.trans (Ybe _ a _)) g4 p1)) (fits_of_scanBound z))))
 ·exact Yac (h _ _ b1 g2 (List.Perm.refl _))
theorem Xw{l:List (Int×Value)}{k:Kt}{x:Value}{Q:Bool->Shared->Prop}(hx:knd.is k x=true)(hs:x.scannable=true)(hS:Dg knd s.heap a l led)(hb:l.length+1 < scanBound)
  (h1:(∃e∈l,knd.is k e.2=true)->Q false s) (h2:(∀e∈l,knd.is k e.2=false)->∀h' l',Heap.SameBut a s.heap h'->Dg knd h' a l' led->l'.Perm (l++[(knd.hash k,x)])->Q true { s with heap:=h' }) :
  wpAny (model prog w) A (setAddHashed a x (knd.hash k)) Q E s:=by
 obtain⟨o,es,ep,t,ho,cv,hd,rfl,fi,hf,hT⟩:=hS
 rw [Yas]at hb
 have tm:es.size < scanBound:=by omega
 unfold setAddHashed setAddHashedIn
 refine Ybs (Yaa (Ya8 ho hd hf (show wpAny _ _ _ _ _ _ from ?_)))
 dsimp only
 rw [byScan_of hs tm fi,Yao rfl]
 unfold setAddByScan
 refine Yaa (Yaa (Yco (Yaa (wpAny_setScan_of hx ho hd hf fi ?_))))
 cases c:List.findIdx? (λe=>knd.is k e.2) es.toList with
 | some j =>
  obtain⟨hj,hp,_⟩:=List.findIdx?_eq_some_iff_getElem.mp c
  exact Yac (Yac (h1 ⟨_,Yb3 hj,hp⟩))
 | none =>
  have gg:=List.findIdx?_eq_none_iff.mp c
  have q1:=layNew_perm t es (knd.hash k) x
  have q2:=layNew_fits t es (knd.hash k) x
  have q3:=hT.layNew es (knd.hash k) x
  dsimp only
  generalize layNew t es (knd.hash k) x=L1 at q1 q2 q3 ⊢
  obtain⟨bw,t1,dm,gv⟩:=L1
  dsimp only at q1 q2 q3 ⊢
  rw [Yew]at q1
  have e1:ElemsOf knd bw.toList:=(fi.push hx hs).perm q1
  have z1:bw.size < scanBound:=by
   rw [<- Yas,q1.length_eq,Yal,Yas];exact hb
  have gw:∀(b:Bool) (s1:Shared) (Q':Unit->Shared->Prop),Q' () s1->wpAny (model prog w) A (match b with | true=>rule "set.scan.the-table-gave-way" | false=>pure ()) Q' E s1:=λb s1 Q' q=>by
   cases b
   ·exact Yac q
   ·exact Yco q
  have fin:∀h' l',Heap.SameBut a s.heap h'->Dg knd h' a l' led->l'.Perm bw.toList->Q true { s with heap:=h' }:=λh' l' b1 b2 b3=>h2 (λe he=>by simpa using gg e he) h' l' b1 b2 (b3.trans q1)
  refine Yaa (gw _ _ _ ?_)
  split
  ·refine Yaa (show wpAny _ _ (hashByValue 8 x) _ _ _ from ?_)
   rw [hashByValue_scannable 8 hs]
   refine Yac (Mq (led:=led) (λb s1 Q' q=>?_) ho cv hd e1 z1 ?_ ?_ λh' l' b1 b2 b3=>?_)
   ·cases b
    ·exact Yac q
    ·exact Yco q
   ·split
    ·exact q2
    ·exact SetTable.fits_plain_off q2
   ·split
    ·exact q3
    ·exact q3.plain false
   ·dsimp only
    exact Yac (fin h' l' b1 b2 b3)
  ·refine Yaa (Yac (show wpAny _ _ _ _ _ _ from ?_))
   rw [Yao rfl]
   refine Mq (λb s1 Q' q=>?_) ho cv hd e1 z1 q2 q3 λh' l' b1 b2 b3=>?_
   ·cases b
    ·exact Yac q
    ·exact Yco q
   ·dsimp only
    exact Yac (fin h' l' b1 b2 b3)
end
theorem C0:plainId "set.update.loop" = true:=by decide +kernel
theorem F0:entryFor table "set.update.loop" = some Builtin.«set.update.loop»:=entryFor_of_tree (by kernel_rfl)
section
variable {prog:Program}{w:World}{Kt:Type} [DecidableEq Kt]{knd:KeyKind prog w Kt}{A:Around}{R:Result->Shared->Prop}{sa it t:Addr}{led:Bool}
def Unlike(knd:KeyKind prog w Kt)(l:List (Int×Value)):Prop:=l.Pairwise λe e'=>∀k,knd.is k e.2=true->knd.is k e'.2=false
def Keys(knd:KeyKind prog w Kt)(l:List (Int×Value))(ks:List Kt):Prop:=∀k,(∃e∈l,knd.is k e.2=true)↔k∈ks
theorem Unlike.add{l:List (Int×Value)}{x:Value}{k:Kt}{h:Int}(hl:Unlike knd l)(hx:knd.is k x=true)(hn:∀e∈l,knd.is k e.2=false):Unlike knd (l++[(h,x)]):=by
 refine Yc8.mpr ⟨hl,Ydl _ _,λe he e' jm k' de=>?_⟩
 have e1:e'=(h,x):=by simpa using jm
 subst e1
 cases c:knd.is k' x with
 | false=>rfl
 | true =>
  have:=knd.inj x k' k c hx
  subst this
  rw [hn e he]at de;cases de
theorem Unlike.perm{l l':List (Int×Value)}(h:Unlike knd l)(p:l'.Perm l):Unlike knd l':=by
 refine(List.Perm.pairwise_iff (R:=λ(e e':Int×Value)=>∀k,knd.is k e.2=true->knd.is k e'.2=false) (λ{e e'} hh k hk=>?_) p.symm).mp h
 cases c:knd.is k e.2 with
 | false=>rfl
 | true=>rw [hh k c]at hk;cases hk
theorem Mr:∀{ks:List Kt} {vs:List Value} {i:Nat} {x:Value},ItemsAre knd ks vs->vs[i]?=some x->∃k,ks[i]?=some k/\knd.is k x=true
 | _,_,_,_,.nil,h=>by simp at h
 | _,_,0,_,.cons h1 _,h=>by simp at h;subst h;exact⟨_,rfl,h1⟩
 | _,_,i+1,_,.cons _ t,h=>by simpa using Mr (i:=i) t (by simpa using h)
end
section
variable {prog:Program}{w:World}{A:Around}{E:Value->Shared->Prop}{s:Shared}
theorem Ur{M:Model}{self v:Value}{Q:Unit->Shared->Prop}(hT:s.TypeIs self "set") (q:Q () s):wpAny M A (checkBuiltinCall "set.__init__" ⟨[self,v],[]⟩) Q E s:=by
 simp only [checkBuiltinCall,kind_set_init,split_set_init,sig_set_init]
 refine Yaa (Yc4 hT sub_set_self (show wpAny _ _ _ _ _ _ from ?_))
 rw [show(!true)=false from rfl,Yaj Yag]
 unfold Bind.checkArgs
 dsimp only
 refine Yaa (m:=Bind.printed "set" true _ _) (PyProof.Rows.printed_name (by decide) (Yaa (m:=Bind.printed "*" false _ _) (PyProof.Rows.printed_star (self:=self) rfl hT λoo=>?_)))
 have e:(if(Manifest.Receiver.self==Manifest.Receiver.none)=true then [self,v].length else [self,v].length - 1)=1:=rfl
 rw [e]
 have hc:Bind.check ⟨.positional,"set","*",.self,[⟨"iterable",.posOnly,false⟩]⟩ "set" oo 1 []=pure ():=by simp +decide [Bind.check,Bind.checkCount,Bind.isPositional]
 simp only [List.map_nil]
 rw [hc];exact Yac q
theorem Xx(v:Value):checkTypeCall "set" ⟨[v],[]⟩=pure ():=by kernel_rfl
theorem Qbw(v:Value):checkBuiltinCall "set.__new__" ⟨[.type "set",v],[]⟩=pure ():=by kernel_rfl
def Dh(w:World):Bool:=!(w.params.followText "set-order")
def A9(w:World):Obj:={ cls:=.type "set",dict:=none,data:=.set #[] 0 (.fresh 0 0 (Dh w)) }
theorem Xy{v:Value}{Q1:Value->Shared->Prop}(h:Q1 (.ref s.heap.objs.size) { s with heap:=s.heap.push (A9 w) }) :
  codeAny (model prog w) A (.call (.builtin "set.__new__") ⟨[.type "set",v],[]⟩) (wants Q1 E) s:=by
 refine codeAny_of_tree (show wpAny _ A.in1 (do checkBuiltinCall "set.__new__" ⟨[.type "set",v],[]⟩;again (.builtin "set.__new__" ⟨[.type "set",v],[]⟩)) _ _ s from ?_)
 refine Yaa (wpAny_of_eq (Qbw v) (Yac ⟨Ydi F.plain_set_new _,Yc0 F.entry_set_new (show wpAny _ _ _ _ _ _ from ?_)⟩))
 rw [Yck F.plain_set_new _]
 unfold Builtin.«set.__new__» Builtin.Frozenset.newClass
 have k1:=sub_set_self
 obtain⟨hp,g,d,tk,os⟩:=s
 dsimp only
 wp_walk
 refine wpAny_askSetting (Yac (show wpAny _ _ _ _ _ _ from ?_))
 dsimp only
 simp only [newObj]
 exact Yaa (wpAny_alloc (Yac (Yac h)))
theorem Fg{v:Value}{Q:Value->Shared->Prop}(h:wpAny (model prog w) A.in1.in1 (Builtin.Frozenset.updateFrom "set.__init__" s.heap.objs.size v) (λ_ s2=>Q (.ref s.heap.objs.size) s2) E { s with heap:=s.heap.push (A9 w) }) :
  wpAny (model prog w) A (call (.type "set") [v]) Q E s:=by
 obtain⟨c,tl,hmro⟩:=F.called_set.mro
 have k1:=F.called_set.made
 have k2:=F.called_set.sub
 refine wpAny_call (codeAny_of_tree (show wpAny _ _ (callAny (.type "set") _) _ _ _ from ?_))
 refine Yac ⟨Code.quiet_builtin _ (by decide +kernel),Yc0 F.entry_type_call ?_⟩
 rw [Around.under_plain (weight_type_call_type "set" [v] []) rfl]
 have k3:=F.called_set.notType
 have k4:=F.called_set.canCreate
 have k5:=Xx v
 repeat any_goals first | assumption | wp_step
 refine Yfm (Xy (E:=E) (Q1:=λob s1=>ob=.ref s.heap.objs.size/\s1={ s with heap:=s.heap.push (A9 w) }) ⟨rfl,rfl⟩) λr s1 hr=>?_
 cases r with
 | error e=>exact hr
 | ok fl =>
  cases fl with
  | ret ob =>
   obtain⟨rfl,rfl⟩:=hr
   have g:(s.heap.push (A9 w)).get? s.heap.objs.size=some (A9 w):=Heap.get?_push_size _ rfl
   have T:Shared.TypeIs { s with heap:=s.heap.push (A9 w) } (.ref s.heap.objs.size) "set" := ⟨_,g,rfl⟩
   have k6:=F.called_set.init.lookup
   have k7:=F.called_set.init.bind (.ref s.heap.objs.size)
   repeat any_goals first | assumption | wp_step
   refine Yfm (codeAny_call_builtin (R:=wants (λr s2=>r=.none/\Q (.ref s.heap.objs.size) s2) E) F.called_set.init.plain F.entry_set_init (Ur T ?_)) λr2 s2 vh=>?_
   ·unfold Builtin.«set.__init__» noKeywords
    generalize hU:Builtin.Frozenset.updateFrom=U at h ⊢
    unfold A9 at g
    wp_walk
    exact Yb1 h (λ_ _ q=>Yac ⟨rfl,q⟩) λ_ _ e=>e
   ·cases r2 with
    | error e=>exact vh
    | ok fl2 =>
     cases fl2 with
     | ret z =>
      obtain⟨rfl,q⟩:=vh
      repeat any_goals first | assumption | wp_step
     | _=>exact vh.elim
  | _=>exact hr.elim
end
section
theorem Hc:isSubtype (.type "tuple") (.type "set")=pure false:=by rw [Yds];kernel_rfl
theorem Hd:isSubtype (.type "tuple") (.type "frozenset")=pure false:=by rw [Yds];kernel_rfl
end
section
variable {prog:Program}{w:World}{Kt:Type} [DecidableEq Kt]{knd:KeyKind prog w Kt}{A:Around}{E:Value->Shared->Prop}{s:Shared}{sa t:Addr}{led:Bool}
theorem Ob:ElemsOf knd []:=λe he=>by cases he
theorem J7:Keys knd [] []:=λk=>⟨λ⟨e,he,_⟩=>(by cases he),λh=>(by cases h)⟩
theorem Ip{h:Heap}:Dg knd (h.push (A9 w)) h.objs.size [] (Dh w) :=
 ⟨_,#[],0,_,Heap.get?_push_size _ rfl,⟨rfl,rfl,rfl⟩,rfl,rfl,Ob,rfl,TblOk.fresh _⟩
end
theorem Ms:Manifest.owners.lookup (String.ofList ['r','o','t','a','r','e','t','i','_','t','e','s'].reverse)=some Manifest.sig_set_iterator:=by kernel_rfl
theorem Dr:Slot "set_iterator" "__next__" "set_iterator.__next__" := .of (owner := "set_iterator") (n := "__next__") (by rw [Yfg,Ydy];kernel_rfl) (by decide +kernel) (by decide +kernel) (by decide +kernel) (.inl (by decide +kernel)) (by rw [Yds];kernel_rfl)
theorem Mu:entryFor table "set_iterator.__next__" = some Builtin.«set_iterator.__next__»:=entryFor_of_tree (by kernel_rfl)
theorem Qa(a:Value):argsOk "set_iterator.__next__" ⟨[a],[]⟩:=by
 rw [argsOk,signature?_of (id := "set_iterator.__next__") (n:=['_','_','t','x','e','n','_','_']) (o:=['r','o','t','a','r','e','t','i','_','t','e','s']) (by kernel_rfl) Ms];kernel_rfl
theorem Qb:Slot "set_iterator" "__iter__" "set_iterator.__iter__" := .of (owner := "set_iterator") (n := "__iter__") (by rw [Yfg,Ydy];kernel_rfl) (by decide +kernel) (by decide +kernel) (by decide +kernel) (.inl (by decide +kernel)) (by rw [Yds];kernel_rfl)
theorem Us(a:Value):argsOk "set_iterator.__iter__" ⟨[a],[]⟩:=by
 rw [argsOk,signature?_of (id := "set_iterator.__iter__") (n:=['_','_','r','e','t','i','_','_']) (o:=['r','o','t','a','r','e','t','i','_','t','e','s']) (by kernel_rfl) Ms];kernel_rfl
theorem Rz:entryFor table "set_iterator.__iter__" = some Builtin.«dict_keyiterator.__iter__»:=entryFor_alias (id' := "dict_keyiterator.__iter__") (by kernel_rfl) (by first | rfl | decide +kernel) (by decide +kernel) (by kernel_rfl)
theorem Oc:entryFor table "set.__iter__" = some Builtin.«frozenset.__iter__»:=entryFor_alias (id' := "frozenset.__iter__") (by kernel_rfl) (by first | rfl | decide +kernel) (by decide +kernel) (by kernel_rfl)
section
variable {prog:Program}{w:World}{A:Around}{E:Value->Shared->Prop}{s:Shared}
theorem Od{M:Model}{src:Source}{n:Nat}{Q:Nat->Shared->Prop}(hn:n≠0)(h:∀i d',i < n->Q i { s with drawn:=d' }):wpAny M A (choose src n) Q E s:=fun Γ p _=>by
 unfold choose
 rw [Sem.wp_choose]
 refine⟨hn,?_⟩
 rw [Sem.wp_pure]
 exact h _ _ (Nat.mod_lt _ (Nat.pos_of_ne_zero hn))
theorem Gz{α:Type}:∀{xs:List α} {i:Nat} {x:α},xs[i]?=some x->(x :: xs.eraseIdx i).Perm xs
 | _ :: _,0,_,h=>by simp at h;subst h;exact List.Perm.refl _
 | y :: ys,i+1,x,h=>by
  have:=Gz (xs:=ys) (i:=i) (x:=x) (by simpa using h)
  exact(List.Perm.swap y x _).trans (this.cons y)
theorem Iq{M:Model}{α:Type}:∀(n:Nat) (xs:List α) (s:Shared) (Q:List α->Shared->Prop),xs.length=n->(∀ys d',ys.Perm xs->Q ys { s with drawn:=d' })->wpAny M A (drawOrder n xs) Q E s
 | 0,xs,s,Q,hn,h=>by
  have:xs=[]:=Yct hn
  subst this
  exact Yac (h [] s.drawn (List.Perm.refl _))
 | n+1,[],s,Q,hn,h=>by cases hn
 | n+1,x :: xs,s,Q,hn,h=>by
  unfold drawOrder
  refine Yaa (Od (by simp) λi d1 hi=>?_)
  have e:(x :: xs)[i]?=some (x :: xs)[i]:=List.getElem?_eq_getElem hi
  rw [e]
  refine Yaa (Iq n _ _ _ ?_ λys d2 hp=>Yac (h _ d2 ((hp.cons _).trans (Gz e))))
  rw [List.length_eraseIdx_of_lt hi];simp at hn ⊢;omega
theorem Qc{α:Type}(next:Nat->Nat):∀(n k:Nat) (left:List α) (out:Array α),left.length=n->(pickOrder.go next n k left out).toList.Perm (out.toList++left)
 | 0,k,left,out,hn=>by
  have:left=[]:=Yct hn
  subst this
  unfold pickOrder.go
  simp
 | n+1,k,left,out,hn=>by
  unfold pickOrder.go
  have hl:next k % left.length < left.length:=Nat.mod_lt _ (by omega)
  have e:left[next k % left.length]?=some left[next k % left.length]:=List.getElem?_eq_getElem hl
  rw [e]
  dsimp only
  refine(Qc next n (k+1) _ _ (by rw [List.length_eraseIdx_of_lt hl];omega)).trans ?_
  rw [Yew,Yca]
  exact(Gz e).append_left _
theorem R0{α:Type}(next:Nat->Nat)(xs:Array α):(pickOrder next xs).toList.Perm xs.toList:=by
 unfold pickOrder
 simpa using Qc next xs.size 0 xs.toList #[] (by simp)
def Di(h:Heap)(a:Addr)(es:Array (Int×Value))(ep:Nat)(t:SetTable):Prop:=∃o,h.get? a=some o/\o.cls=.type "set" /\ o.data=.set es ep t/\t.fits es.size=true
theorem Di.typeIs{a:Addr}{es:Array (Int×Value)}{ep:Nat}{t:SetTable}(x:Di s.heap a es ep t):s.TypeIs (.ref a) "set" := let⟨o,ho,hc,_⟩:=x;⟨o,ho,hc⟩
theorem Di.at{h h':Heap}{a:Addr}{es:Array (Int×Value)}{ep:Nat}{t:SetTable}(x:Di h a es ep t)(e:∀o,h.get? a=some o->h'.get? a=some o):Di h' a es ep t:=let⟨o,ho,r⟩:=x;⟨o,e _ ho,r⟩
def Et(h:Heap)(it a:Addr)(first:Value)(i n ep:Nat):Prop:=∃o,h.get? it=some o/\o.cls=.type "set_iterator" /\ o.data=.fields #[first,rawInt i,.ref a,rawInt n,rawInt ep]
theorem Et.typeIs{it a:Addr}{first:Value}{i n ep:Nat}(x:Et s.heap it a first i n ep):s.TypeIs (.ref it) "set_iterator" := let⟨o,ho,hc,_⟩:=x;⟨o,ho,hc⟩
theorem Et.at{h h':Heap}{it a:Addr}{first:Value}{i n ep:Nat}(x:Et h it a first i n ep)(e:∀o,h.get? it=some o->h'.get? it=some o):Et h' it a first i n ep:=let⟨o,ho,r⟩:=x;⟨o,e _ ho,r⟩
def Ir(pl:Array Nat):Nat->Nat
 | 0=>0
 | i+1=>pl.getD i 0+1
inductive Mode (w:World) (a:Addr) (es:Array (Int×Value)) (ep:Nat) (t:SetTable) (h:Heap):Nat->Value->List Value->Prop
 | text {i:Nat} (hb:w.params.followText "set-order" = true):Mode w a es ep t h i (rawInt 0) ((pickOrder (w.params.setOrder a ep) es).toList.map (·.2))
 | table {i:Nat} (hb:w.params.followText "set-order" = false) (hd:(!t.plain && decide (es.size > 1))=false):Mode w a es ep t h i (rawInt (Ir t.place i)) (es.toList.map (·.2))
 | drawn {i:Nat} {pt:Addr} {ps:List Nat} (hb:w.params.followText "set-order" = false) (hp:ps.Perm (List.range es.size)) (ht:h.IsTuple pt (ps.map λ(j:Nat)=>rawInt j).toArray):Mode w a es ep t h i (.ref pt) (ps.map λj=>(es.getD j (0,.none)).2)
theorem R3{α:Type}(xs:Array α)(d:α):(List.range xs.size).map (λj=>xs.getD j d)=xs.toList:=by
 refine List.ext_getElem (by simp) λi h1 h2=>?_
 simp at h1 h2 ⊢
 simp [h1]
theorem Mode.perm{a:Addr}{es:Array (Int×Value)}{ep:Nat}{t:SetTable}{h:Heap}{i:Nat}{first:Value}{ord:List Value}(m:Mode w a es ep t h i first ord):ord.Perm (es.toList.map (·.2)):=by
 cases m with
 | text hb=>exact(R0 _ _).map _
 | table hb hd=>exact List.Perm.refl _
 | @drawn pt ps hb hp ht =>
  have:=hp.map λj=>(es.getD j (0,Value.none)).2
  refine this.trans (List.Perm.of_eq ?_)
  rw [<- R3 es (0,Value.none),Ya0];rfl
theorem E4{Q:Bool->Shared->Prop}(h:Q (w.params.followText "set-order") s):wpAny (model prog w) A setsByText Q E s:=by
 unfold setsByText
 exact Yaa (wpAny_askSetting (Yac h))
theorem Oe{a:Addr}{es:Array (Int×Value)}{ep:Nat}{t:SetTable}{Q:Value->Shared->Prop}(hA:Di s.heap a es ep t)(hz:es.size<=1000)
  (h:∀it h' d' first ord,s.heap.objs.size<=it->(∀b o,s.heap.get? b=some o->h'.get? b=some o)->Et h' it a first 0 es.size ep->Mode w a es ep t h' 0 first ord->(∀pt,first=.ref pt->s.heap.objs.size<=pt/\pt≠it)->Q (.ref it) { s with heap:=h',drawn:=d' }) :
  wpAny (model prog w) A (pyIter (.ref a)) Q E s:=by
 obtain⟨o,ho,hc,hd,hf⟩:=id hA
 refine wpAny_pyIter_slot hA.typeIs F.slot_set_iter (Ybu F.slot_set_iter hA.typeIs Oc ?_ (F.args_set_iter_1 _))
 unfold Builtin.«frozenset.__iter__» Builtin.Frozenset.sizeOf setEntries setDrawn setEpoch
 refine(show wpAny _ _ (_ >>= _) _ _ _ from Yaa (show wpAny _ _ (pure a) _ _ _ from Yac (Yaa (Yaa (Yaa (Ya8 ho hd hf (Yac (Yac ?_))))))))
 refine Yaa (Yaa (Ya8 ho hd hf (Yaa (E4 (Yac ?_)))))
 cases hb:w.params.followText "set-order" with
 | true =>
  refine(show wpAny _ _ (if(!true && _)=true then _ else _) _ _ _ from ?_)
  rw [Bool.not_true,Bool.false_and,Yaj Yag]
  refine Yaa (Yac (Yaa (Yaa (Ya8 ho hd hf (Yac (Yaa (Ybd (Yac ⟨_,rfl,"set_iterator",_,⟨_,Heap.get?_push_size _ rfl,rfl⟩,Dr.lookup,?_⟩))))))))
  exact h _ _ s.drawn _ _ (Yad _) (λb o e=>Heap.get?_push_of_some _ e) ⟨_,Heap.get?_push_size _ rfl,rfl,rfl⟩ (.text hb) λpt e=>by cases e
 | false =>
  cases ji:(!t.plain && decide (es.size > 1)) with
  | false =>
   refine(show wpAny _ _ (if(!false && (!t.plain && decide (es.size > 1)))=true then _ else _) _ _ _ from ?_)
   rw [ji,Bool.not_false,Bool.true_and,Yaj Yag]
   refine Yaa (Yac (Yaa (Yaa (Ya8 ho hd hf (Yac (Yaa (Ybd (Yac ⟨_,rfl,"set_iterator",_,⟨_,Heap.get?_push_size _ rfl,rfl⟩,Dr.lookup,?_⟩))))))))
   exact h _ _ s.drawn _ _ (Yad _) (λb o e=>Heap.get?_push_of_some _ e) ⟨_,Heap.get?_push_size _ rfl,rfl,rfl⟩ (.table hb ji) λpt e=>by cases e
  | true =>
   refine(show wpAny _ _ (if(!false && (!t.plain && decide (es.size > 1)))=true then _ else _) _ _ _ from ?_)
   rw [ji,Bool.not_false,Bool.true_and,Yao rfl]
   refine Yaa (Iq _ _ _ _ (by simp) λps d1 hp=>?_)
   refine Yaa (m:=newTuple _) (show wpAny _ _ _ _ _ _ from ?_)
   simp only [newTuple]
   have mn:ps.length<=1000:=by rw [hp.length_eq];simpa using hz
   refine Ybd ?_ (by size_fits)
   have d5:=Heap.get?_push_of_some { cls:=Value.type "tuple",data:=Data.seq (List.map (λ(i:Nat)=>rawInt ↑i) ps).toArray } ho
   refine Yaa (Yaa (Ya8 d5 hd hf (Yac (Yaa (Ybd (Yac ⟨_,rfl,"set_iterator",_,⟨_,Heap.get?_push_size _ rfl,rfl⟩,Dr.lookup,?_⟩))))))
   refine h _ _ d1 _ _ (by rw [Yce];exact Ycs _) (λb o e=>Heap.get?_push_of_some _ (Heap.get?_push_of_some _ e)) ⟨_,Heap.get?_push_size _ rfl,rfl,rfl⟩ (.drawn hb hp ⟨_,Heap.get?_push_of_some _ (Heap.get?_push_size _ rfl),rfl,0,rfl⟩) λpt e=>?_
   cases e
   exact⟨Yad _,Yai (by rw [Yce];exact Ycl _)⟩
theorem Of{t:SetTable}(hr:Df t.place){i:Nat}(hi:i<=t.place.size):SetTable.below t.place (Ir t.place i)=i:=by
 cases i with
 | zero=>exact N8 hr
 | succ i =>
  have:=N7 hr (k:=i) (by omega)
  show SetTable.below t.place (t.place.getD i 0+1)=i+1
  rw [show t.place.getD i 0=t.place[i] by simp [show i < t.place.size by omega]]
  exact this
theorem J8{a:Addr}{es:Array (Int×Value)}{ep slot i:Nat}{t:SetTable}{Q:Option (Value×Nat)->Shared->Prop}(hA:Di s.heap a es ep t)(hb:w.params.followText "set-order" = true) (h:Q (((pickOrder (w.params.setOrder a ep) es)[i]?).map λe=>(e.2,slot)) s) :
  wpAny (model prog w) A (setNext a slot i ep) Q E s:=by
 obtain⟨oa,hoa,_,hda,hf⟩:=hA
 unfold setNext
 refine Yaa (Ya8 hoa hda hf (Yaa (E4 (show wpAny _ _ (if _=true then _ else _) _ _ _ from ?_))))
 rw [Yao hb]
 refine(show wpAny _ _ (if(ep != ep)=true then _ else _) _ _ _ from ?_)
 rw [Yaj (by simp)]
 unfold setWalk
 refine Yaa (Yaa (Ya8 hoa hda hf (Yaa (E4 (show wpAny _ _ (if _=true then _ else _) _ _ _ from ?_)))))
 rw [Yao hb]
 exact Yaa (wpAny_askSetting (Yac (Yac h)))
theorem Is{a:Addr}{es:Array (Int×Value)}{ep i g:Nat}{t:SetTable}{Q:Option (Value×Nat)->Shared->Prop}(hA:Di s.heap a es ep t)(hT:TblOk t (Dh w))(hb:w.params.followText "set-order" = false) (ji:(!t.plain && decide (es.size > 1))=false) (hi:i<=es.size)
  (h:Q (match es[i]?,t.place[i]? with | some (_,x),some j=>some (x,j+1) | _,_=>none) s):wpAny (model prog w) A (setNext a (Ir t.place i) g ep) Q E s:=by
 obtain⟨oa,hoa,_,hda,hf⟩:=hA
 have hpl:t.place.size=es.size:=by simp [SetTable.fits]at hf;exact hf.1
 unfold setNext
 refine Yaa (Ya8 hoa hda hf (Yaa (E4 (show wpAny _ _ (if _=true then _ else _) _ _ _ from ?_))))
 rw [Yaj (by rw [hb];exact Yag)]
 refine(show wpAny _ _ (if(!t.plain && decide (es.size > 1))=true then _ else _) _ _ _ from ?_)
 rw [ji,Yaj Yag]
 refine Yaa (show wpAny _ _ (if(!t.led && !es.isEmpty)=true then _ else _) _ _ _ from ?_)
 rw [Yaj (by rw [hT.led,Dh,hb];simp)]
 refine Yac (show wpAny _ _ (pure _) _ _ _ from Yac ?_)
 rw [Of hT.rise (by omega)]
 exact h
theorem Cr{a:Addr}{o:Obj}{vs:Array Value}{i:Nat}{x:Value}{Q:Unit->Shared->Prop}(ho:s.heap.get? a=some o)(hd:o.data=.fields vs)(hi:i < vs.size)
  (h:∀h' o',h'.get? a=some o'->o'.cls=o.cls->o'.data=.fields (vs.setIfInBounds i x)->Heap.SameBut a s.heap h'->Q () { s with heap:=h' }):wpAny (model prog w) A (setField (.ref a) i x) Q E s :=
 wpAny_setField ho hd hi (h _ _ (Heap.get?_update_self _ ho (Obj.isFreed_of_fields (Yen hd _))) (Obj.cls_mapFields ..) (Yen hd _) (Ybe ..))
theorem Ut{it a:Addr}{es:Array (Int×Value)}{ep:Nat}{t:SetTable}{first x:Value}{i:Nat}{ord:List Value}{Q:Option Value->Shared->Prop}(hA:Di s.heap a es ep t)(hT:TblOk t (Dh w))(hI:Et s.heap it a first i es.size ep)(hM:Mode w a es ep t s.heap i first ord)(am:a≠it)(jh:∀pt,first=.ref pt->pt≠it)(hx:ord[i]?=some x)
  (hQ:∀h' du,Et h' it a du (i+1) es.size ep->Mode w a es ep t h' (i+1) du ord->(∀pt,du=.ref pt->first=.ref pt)->Heap.SameBut it s.heap h'->Q (some x) { s with heap:=h' }) :
  wpAny (model prog w) A (pyNext (.ref it)) Q E s:=by
 obtain⟨o,ho,hc,hd⟩:=id hI
 obtain⟨oa,hoa,_,hda,hf⟩:=id hA
 have hpl:t.place.size=es.size:=by simp [SetTable.fits]at hf;exact hf.1
 unfold pyNext
 refine Yaa (Yfd (wpAny_callSpecial?_slot (name:=Str.ofString "__next__") hI.typeIs Dr (Ybu Dr hI.typeIs Mu ?_ (Qa _))))
 unfold Builtin.«set_iterator.__next__»
 refine(show wpAny _ _ (_ >>= _) _ _ _ from Yaa (show wpAny _ _ (pure (Value.ref it,[])) _ _ _ from Yac (show wpAny _ _ (fieldsOf (.ref it) >>= _) _ _ _ from Yaa (Yd7 ho hd (show wpAny _ _ (setEntries a >>= _) _ _ _ from Yaa ?_)))))
 refine(show wpAny _ _ (setState a >>= _) _ _ _ from Yaa (Ya8 hoa hda hf (Yac (show wpAny _ _ (if((es.size:Int) != (es.size:Int))=true then _ else _) _ _ _ from ?_))))
 rw [Yaj (by simp)]
 have fin:∀(Q2:PySem.Fin->Shared->Prop) (E2:Value->Shared->Prop) (nx:Nat),(∀h',Et h' it a (rawInt nx) (i+1) es.size ep->Heap.SameBut it s.heap h'->Q2 (.done (.ret x)) { s with heap:=h' }) ->
   wpAny (model prog w) A.in1 (setField (.ref it) 0 (rawInt (nx:Nat)) >>= λ_=>setField (.ref it) 1 (rawInt ((i:Int)+1)) >>= λ_=>ret x) Q2 E2 s:=λQ2 E2 nx q=>by
  refine Yaa (Cr ho hd (by simp) λh1 o1 e1 c1 d1 b1=>Yaa (Cr (s:={ s with heap:=h1 }) e1 d1 (by simp) λh2 o2 e2 c2 d2 b2=>Yac (q h2 ⟨o2,e2,c2.trans (c1.trans hc),?_⟩ (b1.trans b2))))
  rw [d2];simp [rawInt]
 cases hM with
 | text hb =>
  refine(show wpAny _ _ (setNext a 0 i ep >>= _) _ _ _ from Yaa (J8 hA hb ?_))
  obtain⟨e,he,rfl⟩:∃e,(pickOrder (w.params.setOrder a ep) es)[i]?=some e/\e.2=x:=by
   rw [List.getElem?_map,Yah]at hx
   obtain⟨e,he,r⟩:=hx
   exact⟨e,by rw [<- Array.getElem?_toList];exact he,r⟩
  rw [he]
  exact fin _ _ 0 λh' I' b'=>⟨_,rfl,Yac (hQ h' _ I' (.text hb) (λ_ z=>z) b')⟩
 | table hb ji =>
  have hlt:i < es.size:=by
   rw [List.getElem?_map]at hx
   rcases Ybr i es.size with c | c
   ·exact c
   ·simp [List.getElem?_eq_none,c]at hx
  refine(show wpAny _ _ (setNext a (Ir t.place i) i ep >>= _) _ _ _ from Yaa (Is hA hT hb ji (Ybq hlt) ?_))
  have he:es[i]?=some es[i]:=Array.getElem?_eq_getElem hlt
  have hp:t.place[i]?=some (t.place.getD i 0):=by simp [hpl,hlt]
  have jt:es[i].2=x:=by
   rw [List.getElem?_map,Array.getElem?_toList,he]at hx
   exact Ya6 hx
  rw [he,hp]
  dsimp only
  rw [jt]
  exact fin _ _ (t.place.getD i 0+1) λh' I' b'=>⟨_,rfl,Yac (hQ h' _ I' (.table (i:=i+1) hb ji) (λ_ z=>by cases z) b')⟩
 | @drawn pt ps hb hp ht =>
  have hlt:i < ps.length:=by
   rcases Ybr i ps.length with c | c
   ·exact c
   ·rw [List.getElem?_eq_none (by simpa using c)]at hx;cases hx
  have e1:ps[i]?=some ps[i]:=List.getElem?_eq_getElem hlt
  have cq:ps[i] < es.size:=by simpa using hp.mem_iff.mp (Yb3 hlt)
  obtain⟨y,hy,jt⟩:∃y,es[ps[i]]?=some y/\y.2=x:=by
   rw [List.getElem?_map,e1]at hx
   have:=Ya6 hx
   exact⟨es[ps[i]],Array.getElem?_eq_getElem cq,by simpa [cq] using this⟩
  obtain⟨ot,hot,_,nt,hdt⟩:=id ht
  refine(show wpAny _ _ (seqItems? (.ref pt) >>= _) _ _ _ from Yaa (Yd6 hot hdt (show wpAny _ _ _ _ _ _ from ?_)))
  dsimp only
  have e2:((ps.map λ(j:Nat)=>rawInt (j:Int)).toArray)[i]?=some (rawInt (ps[i]:Int)):=by
   simp [e1]
  rw [Ydd,e2]
  refine(show wpAny _ _ (setNextDrawn a ps[i] ep >>= _) _ _ _ from Yaa ?_)
  unfold setNextDrawn
  refine Yaa (Ya8 hoa hda hf (show wpAny _ _ (if(ep != ep)=true then _ else _) _ _ _ from ?_))
  rw [Yaj (by simp),hy]
  refine Yac ?_
  rw [jt]
  refine Yaa (Cr ho hd (by simp) λh1 o1 e1 c1 d1 b1=>Yac ⟨_,rfl,Yac (hQ h1 (.ref pt) ⟨o1,e1,c1.trans hc,?_⟩ (.drawn hb hp (ht.at λo e=>(b1.2 pt (jh pt rfl)).trans e)) (λ_ z=>z) b1)⟩)
  rw [d1];simp [rawInt]
theorem Xz{it a:Addr}{es:Array (Int×Value)}{ep:Nat}{t:SetTable}{first:Value}{ord:List Value}{Q:Option Value->Shared->Prop}(hh:A.handled=none)(hA:Di s.heap a es ep t)(hT:TblOk t (Dh w))(hI:Et s.heap it a first es.size es.size ep)(hM:Mode w a es ep t s.heap es.size first ord)
  (hQ:∀h',Heap.ExtBut it s.heap h'->Q none { s with heap:=h' }):wpAny (model prog w) A (pyNext (.ref it)) Q E s:=by
 obtain⟨o,ho,hc,hd⟩:=id hI
 obtain⟨oa,hoa,_,hda,hf⟩:=id hA
 have hpl:t.place.size=es.size:=by simp [SetTable.fits]at hf;exact hf.1
 have ah:ord.length=es.size:=by rw [hM.perm.length_eq];simp
 unfold pyNext
 refine Yaa (Yfd (wpAny_callSpecial?_slot (name:=Str.ofString "__next__") hI.typeIs Dr (Ybu Dr hI.typeIs Mu ?_ (Qa _))))
 unfold Builtin.«set_iterator.__next__»
 refine(show wpAny _ _ (_ >>= _) _ _ _ from Yaa (show wpAny _ _ (pure (Value.ref it,[])) _ _ _ from Yac (show wpAny _ _ (fieldsOf (.ref it) >>= _) _ _ _ from Yaa (Yd7 ho hd (show wpAny _ _ (setEntries a >>= _) _ _ _ from Yaa ?_)))))
 refine(show wpAny _ _ (setState a >>= _) _ _ _ from Yaa (Ya8 hoa hda hf (Yac (show wpAny _ _ (if((es.size:Int) != (es.size:Int))=true then _ else _) _ _ _ from ?_))))
 rw [Yaj (by simp)]
 have fin:∀(h1:Heap) (Q2:PySem.Fin->Shared->Prop) (E2:Value->Shared->Prop) ,(∀e h',Heap.ExtBut it h1 h'->Shared.TypeIs { s with heap:=h' } e "StopIteration" -> E2 e { s with heap:=h' }) ->
   wpAny (model prog w) A.in1 (newExc (.type "StopIteration") [] >>= λe=>raiseNew e) Q2 E2 { s with heap:=h1 }:=λh1 Q2 E2 q=>by
  refine Yaa ?_
  simp only [newExc,newTuple]
  refine Yaa (Ybd (Yaa (m:=firstArgMember _ _) (wpAny_of_eq (a:=Value.none) (by first | rfl | (simp only [firstArgMember];rfl)) (Ybd ?_ (by size_fits)))) (by size_fits))
  simp only [raiseNew]
  refine Yaa (wpAny_handled ?_)
  rw [show A.in1.handled=none from hh]
  have x0:Heap.ExtBut it h1 h1:=λb o hb e=>e
  refine Yaa (Yac (wpAny_throw ?_))
  exact q _ _ ((x0.push _).push _) ⟨_,Heap.get?_push_size _ rfl,rfl⟩
 have lv:∀(h1:Heap) (e:Value) (h':Heap),Heap.ExtBut it s.heap h1->Heap.ExtBut it h1 h'->Shared.TypeIs { s with heap:=h' } e "StopIteration" -> wpAny (model prog w) A (isInstance e (.type "StopIteration") >>= λb=>if b=true then pure none else throw e) Q E { s with heap:=h' }:=λh1 e h' x1 x2 T=>by
  refine Yaa (Yc4 (b:=true) T isSubtype_stop ?_)
  exact Yac (hQ h' λb o hb e=>x2 b o hb (x1 b o hb e))
 cases hM with
 | text hb =>
  refine(show wpAny _ _ (setNext a 0 es.size ep >>= _) _ _ _ from Yaa (J8 hA hb ?_))
  rw [Yab,Yas]at ah
  rw [Array.getElem?_eq_none (by omega)]
  exact Yaa (Cr ho hd (by simp) λh1 o1 e1 c1 d1 b1=>fin h1 _ _ λe h' x T=>lv h1 e h' b1.extBut x T)
 | table hb ji =>
  refine(show wpAny _ _ (setNext a (Ir t.place es.size) es.size ep >>= _) _ _ _ from Yaa (Is hA hT hb ji (Yad _) ?_))
  rw [Array.getElem?_eq_none (Yad _)]
  exact Yaa (Cr ho hd (by simp) λh1 o1 e1 c1 d1 b1=>fin h1 _ _ λe h' x T=>lv h1 e h' b1.extBut x T)
 | @drawn pt ps hb hp ht =>
  obtain⟨ot,hot,_,nt,hdt⟩:=id ht
  refine(show wpAny _ _ (seqItems? (.ref pt) >>= _) _ _ _ from Yaa (Yd6 hot hdt (show wpAny _ _ _ _ _ _ from ?_)))
  dsimp only
  rw [Ydd,Array.getElem?_eq_none (by simpa using Nat.le_of_eq (by simpa using ah))]
  exact Yaa (Cr ho hd (by simp) λh1 o1 e1 c1 d1 b1=>Yaa (Cr (s:={ s with heap:=h1 }) e1 d1 (by simp) λh2 o2 e2 c2 d2 b2=>fin h2 _ _ λe h' x T=>lv h2 e h' (b1.trans b2).extBut x T))
end
end L2
namespace L2
open PySem PySem.Spec PyProof.Rows PySem.W
section
variable {prog:Program}{w:World}{A:Around}{E:Value->Shared->Prop}{s:Shared}
theorem Mode.at{a:Addr}{es:Array (Int×Value)}{ep:Nat}{t:SetTable}{h h':Heap}{i:Nat}{first:Value}{ord:List Value}(m:Mode w a es ep t h i first ord)(hk:∀pt,first=.ref pt->∀o,h.get? pt=some o->h'.get? pt=some o):Mode w a es ep t h' i first ord:=by
 cases m with
 | text hb=>exact .text hb
 | table hb hd=>exact .table hb hd
 | @drawn pt ps hb hp ht=>exact .drawn hb hp (ht.at λo e=>hk pt rfl o e)
theorem R4(hh:A.handled=none){it a:Addr}{es:Array (Int×Value)}{ep:Nat}{t:SetTable}{ord:List Value}(j5:List Addr)(hT:TblOk t (Dh w))(am:a≠it)(jh:it∉j5)(ah:ord.length=es.size) :
  Walks prog w A it (it :: a :: j5) [it] es.size (λi v=>ord[i]?=some v) (λi h=>Di h a es ep t/\∃first,Et h it a first i es.size ep/\Mode w a es ep t h i first ord/\∀pt,first=.ref pt->pt∈j5) where
 sub:=λb hb=>by simp at hb;simp [hb]
 frame:=λi h h' st hk=>by
  obtain⟨hA,first,hI,hM,hp⟩:=st
  exact⟨hA.at λo e=>hk a (by simp) o e,first,hI.at λo e=>hk it (by simp) o e,hM.at λpt z o e=>hk pt (by simp [hp pt z]) o e,hp⟩
 item:=λi s Q E hi st hQ=>by
  obtain⟨hA,first,hI,hM,hp⟩:=st
  refine Ut hA hT hI hM am (λpt z q=>jh (q ▸ hp pt z)) (x:=ord[i]'(by omega)) (List.getElem?_eq_getElem _) λh' du uo hM' hr hb=>?_
  exact hQ _ h' s.toks (List.getElem?_eq_getElem _) ⟨hA.at λo e=>(hb.2 a am).trans e,du,uo,hM',λpt z=>hp pt (hr pt z)⟩ λb o jz e=>hb.extBut b o (λz=>jz (by simp [z])) e
 done:=λs Q E st hQ=>by
  obtain⟨hA,first,hI,hM,hp⟩:=st
  exact Xz hh hA hT hI hM λh' he=>hQ h' s.toks λb o hb e=>he b o (λz=>hb (by simp [z])) e
 self:=λi s Q E st hQ=>by
  obtain⟨hA,first,hI,hM,hp⟩:=st
  refine wpAny_pyIter_slot hI.typeIs Qb (Ybu Qb hI.typeIs Rz (show wpAny _ _ (ret (.ref it)) _ _ s from ?_) (Us _))
  exact Yac ⟨_,rfl,"set_iterator",_,hI.typeIs,Dr.lookup,hQ⟩
theorem Uu{a:Addr}{Q:Bool->Shared->Prop}(hT:s.TypeIs (.ref a) "set") (h:Q false s):wpAny (model prog w) A (Builtin.List.listLengthHint (.ref a)) Q E s:=by
 unfold Builtin.List.listLengthHint
 refine Yaa (Ycz hT PySem.F.slot_set_len.lookup ?_)
 generalize qj:("set.__len__" : String)=id0
 wp_delta
 rw [show splitId id0=some ("set","__len__") from by subst qj;decide +kernel]
 subst qj
 refine Yaa (Yc4 (T := "set") (b:=true) hT sub_set_self (Yfl (λic=>absurd ic (by decide)) λ_=>Yfl (λ_=>?_) (λic=>absurd (by decide +kernel) ic)))
 exact Yaa (Yeb hT (Yac h))
theorem R5{ord:List Value}{acc:Array Value}{n:Nat}(h:ItemsOf (λi v=>ord[i]?=some v) acc n)(hl:ord.length=n):acc.toList=ord:=by
 refine Ycy λi=>?_
 rw [Array.getElem?_toList]
 rcases Ybr i acc.size with c | c
 ·have:=h.2 i acc[i] (Array.getElem?_eq_getElem c)
  rw [this,Array.getElem?_eq_getElem c]
 ·rw [Array.getElem?_eq_none c,List.getElem?_eq_none (by rw [hl,<- h.1];exact c)]
theorem Eu{a:Addr}{es:Array (Int×Value)}{ep:Nat}{t:SetTable}{Q:List Value->Shared->Prop}(hh:A.handled=none)(hA:Di s.heap a es ep t)(hT:TblOk t (Dh w))(hz:es.size<=1000)
  (h:∀h' d' tk ord,(∀b o,s.heap.get? b=some o->h'.get? b=some o)->s.heap.objs.size<=h'.objs.size->ord.Perm (es.toList.map (·.2))->Q ord { s with heap:=h',drawn:=d',toks:=tk }) :
  wpAny (model prog w) A (collect (.ref a)) Q E s:=by
 have la:a < s.heap.objs.size:=by obtain⟨o,e,_⟩:=hA;exact Yae e
 unfold collect
 refine Yaa (Ye0 (Yc0 F.entry_proto_collect ?_))
 rw [Yck F.plain_proto_collect _]
 refine(show wpAny _ A.in1 (newList [] >>= λl=>again (.builtin "list.__iadd__" ⟨[l,.ref a],[]⟩)) _ _ s from Yaa (Ybd (Yac ⟨Ydi F.plain_list_iadd _,Yc0 F.entry_list_iadd ?_⟩)))
 rw [Yck F.plain_list_iadd _]
 generalize hL:s.heap.objs.size=S
 generalize yu:s.heap.push { cls:=.type "list",data:=.seq ([]:List Value).toArray }=h1
 have k1:∀b o,s.heap.get? b=some o->h1.get? b=some o:=λb o e=>by subst yu;exact Heap.get?_push_of_some _ e
 have eS:h1.get? S=some { cls:=.type "list",data:=.seq ([]:List Value).toArray }:=by subst yu;subst hL;exact Heap.get?_push_size _ rfl
 have ul:S≠a:=Yc3 (Yai (hL ▸ la))
 have qz:Builtin.List.listSameRef (.ref S) (.ref a)=false:=by simp [Builtin.List.listSameRef,ul]
 have sr:Di h1 a es ep t:=hA.at λo e=>k1 a o e
 refine(show wpAny _ A.in1 (Builtin.List.listExtendWith (.ref S) (.ref a) (.ref S)) _ _ { s with heap:=h1 } from ?_)
 unfold Builtin.List.listExtendWith
 refine Yaa (Yeb (Di.typeIs (s:={ s with heap:=h1 }) sr) (Yfl (λic=>absurd ic (by rw [qz];decide)) λ_=>?_))
 refine Yaa (Oe (s:={ s with heap:=h1 }) sr hz λit h2 d2 first ord iw k2 hI hM fz=>?_)
 refine Yaa (Ybs (Uu (s:={ s with heap:=h2,drawn:=d2 }) (Di.typeIs (s:={ s with heap:=h2,drawn:=d2 }) (sr.at λo e=>k2 a o e)) ?_))
 refine Yfl (λ_=>?_) λic=>absurd (by decide) ic
 have e2:h2.get? S=some { cls:=.type "list",data:=.seq ([]:List Value).toArray }:=k2 S _ eS
 refine Yaa (Yco (Yaa (show wpAny _ _ (updateSeq S (·.push .none) >>= λ_=>updateSeq S (·.pop)) _ _ _ from Yaa (Yfh e2 rfl (Yfh (Heap.get?_update_self (Obj.mapSeq (·.push Value.none)) e2 rfl) rfl ?_)))))
 have e4:=Heap.get?_update_self (Obj.mapSeq (·.pop)) (Heap.get?_update_self (Obj.mapSeq (·.push Value.none)) e2 rfl) rfl
 have k4:∀b o,b≠S->h2.get? b=some o->((h2.update S (Obj.mapSeq (·.push Value.none))).update S (Obj.mapSeq (·.pop))).get? b=some o:=λb o hb e=>(Heap.get?_update_other _ _ (Yc3 hb)).trans ((Heap.get?_update_other _ _ (Yc3 hb)).trans e)
 generalize ((h2.update S (Obj.mapSeq (·.push Value.none))).update S (Obj.mapSeq (·.pop)))=h4 at e4 k4 ⊢
 have lS:S < h1.objs.size:=Yae eS
 have p8:h1.objs.size<=it:=iw
 have nS:S≠it:=by intro z;subst z;omega
 have na:a≠it:=Yai (Nat.lt_trans (hL ▸ la) (Yar lS p8))
 obtain⟨j5,dh,fb⟩:∃j5:List Addr,(∀pt,first=.ref pt->pt∈j5)/\∀pt∈j5,h1.objs.size<=pt/\pt≠it:=by
  by_cases hf:∃pt,first=.ref pt
  ·obtain⟨pt,hf⟩:=hf
   exact⟨[pt],λq hq=>by rw [hf]at hq;cases hq;simp,λq hq=>by rw [Yan]at hq;subst hq;exact fz q hf⟩
  ·exact⟨[],λq hq=>absurd ⟨q,hq⟩ hf,λ_ hq=>nomatch hq⟩
 have ah:ord.length=es.size:=by rw [hM.perm.length_eq];simp
 have W:=R4 (prog:=prog) (A:=A.in1) hh (es:=es) (ep:=ep) (ord:=ord) j5 hT na (λz=>(fb it z).2 rfl) ah
 have jn:S∉it :: a :: j5:=by
  simp only [List.mem_cons,not_or]
  exact⟨nS,ul,λz=>by have:=(fb S z).1;omega⟩
 refine Yac ⟨Ydi F.plain_extend_loop _,codeAny_extend_loopS W.toS (Yak hz (by decide)) S jn (.ref S) es.size 0 { s with heap:=h4,drawn:=d2 } #[] _ rfl (Yaz _) ?_ e4 (ItemsOf.nil _) λs' aq c' hm ka ba=>?_⟩
 ·refine⟨sr.at λo e=>k4 a o (Yc3 ul) (k2 a o e),first,hI.at λo e=>k4 it o (Yc3 nS) e,hM.at λpt z o e=>k4 pt o (λq=>?_) e,dh⟩
  have:=(fb pt (dh pt z)).1
  subst q;omega
 ·rw [Moved.eq_with hm]
  refine Yaa (wpAny_load ka (Yac ?_))
  rw [R5 ba ah]
  refine h s'.heap d2 s'.toks ord (λb o e=>hm.heap b o ?_ (k4 b o ?_ (k2 b o (k1 b o e)))) (Ybq ?_) hM.perm
  ·have lb:=Yae e
   simp only [List.mem_cons,List.not_mem_nil,or_false,not_or]
   rw [hL]at lb
   exact⟨Yai lb,Yai (Nat.lt_trans lb (Yar lS p8))⟩
  ·have lb:=Yae e
   rw [hL]at lb
   exact Yai lb
  ·rw [hL];exact Yae ka
theorem Ev{v:Value}{Q:Value->Shared->Prop}(ma:wpAny (model prog w) A.in1 (collect v) (λvs s1=>∃lt:Nat->Nat->Bool,vs.length < 1000/\StrictOrd vs.length lt /\
   (2<=vs.length->∀h':Heap,(∀b o,s1.heap.get? b=some o->h'.get? b=some o)->∃ κ,(∀Q:SortKind->Shared->Prop,Q κ { s1 with heap:=h' }->wpAny (model prog w) A.in1.in1 (keyKind' vs.toArray) Q E { s1 with heap:=h' }) /\
    ∀i j C,i < vs.length->j < vs.length->C (lt i j) { s1 with heap:=h' }->kas_ask prog w A.in1.in1 κ vs i j C { s1 with heap:=h' }) /\
   ∀(p:Array Nat) (h':Heap) (l c:Nat),Pm vs.length p->Up lt p vs.length->s1.heap.objs.size<=l->(∀b o,s1.heap.get? b=some o->h'.get? b=some o)->h'.get? l=some (seqObj "list" (p.toList.map λi=>vs.getD i Value.none).toArray c)->Q (.ref l) { s1 with heap:=h' }) E s) :
  wpAny (model prog w) A (call (.builtin "sorted") [v]) Q E s:=by
 refine Calls.call_function_entry kind_sorted plain_sorted entry_sorted (args_sorted1 _) ?_
 unfold Builtin.«sorted»
 refine Yaa (m:=checkCount "sorted" 1 1 _) (Yac (Yaa (Yb1 ma (λvs s1 hx=>?_) λ_ _ e=>e)))
 obtain⟨lt,gy,O,hk,h⟩:=hx
 have sz:vs.length<=sizeLine:=Yak (Ybq gy) (by decide)
 have hL:(s1.heap.push (seqObj "list" vs.toArray 0)).get? s1.heap.objs.size=some (seqObj "list" vs.toArray 0):=Heap.get?_push_size _ rfl
 refine Yaa (wpAny_newList (Yaa (Ybs (Ybu slot_list_sort ⟨_,hL,rfl⟩ entry_list_sort ?_ (args_list_sort _)))) sz)
 have kk:∀(h':Heap),(∀b o,b≠s1.heap.objs.size->(s1.heap.push (seqObj "list" vs.toArray 0)).get? b=some o->h'.get? b=some o)->∀b o,s1.heap.get? b=some o->h'.get? b=some o:=λh' k b o q=>k b o (Yai (Yae q)) (Heap.get?_push_of_some _ q)
 exact Ep (s:={ s1 with heap:=s1.heap.push (seqObj "list" vs.toArray 0) }) hL gy O (λh2 h' k=>hk h2 h' (kk h' k)) λp h' c pm up k e=>⟨_,rfl,Yac ⟨_,rfl,h p h' _ c pm up (Yad _) (kk h' k) e⟩⟩
def Bo:Value->Int
 | .int n _=>n
 | _=>0
def IsI(v:Value):Prop:=∃n t,v=.int n t
theorem Mv:∀{vs:List Value},(∀v∈vs,IsI v)->IntsAre vs (vs.map Bo)
 | [],_=>.nil
 | v :: vs,h=>by
  obtain⟨n,t,rfl⟩:=h _ Yax
  exact .cons n t (Mv λu hu=>h u (Yav _ hu))
theorem X0{k:Key}{n:Int}{t:Tok}(h:(Ap prog w).is k (.int n t)=true):k=.inl n:=by
 rcases keyIs_shape (show G7 _ _=true from h) with⟨i,t',rfl,e⟩ | ⟨x,t',rfl,e⟩
 ·cases e;rfl
 ·cases e
theorem Ew{l:List (Int×Value)}{ns:List Int}(fi:ElemsOf (Ap prog w) l)(hK:Keys (Ap prog w) l (ns.map Sum.inl)){e:Int×Value}(he:e∈l):∃n t,e.2=.int n t/\n∈ns:=by
 obtain⟨⟨k,hk,_⟩,_⟩:=fi e he
 have:=(hK k).mp ⟨e,he,hk⟩
 obtain⟨n,hn,rfl⟩:=Yaf.mp this
 rcases keyIs_shape (show G7 (Sum.inl n) e.2=true from hk) with⟨i,t,e1,e2⟩ | ⟨x,t,e1,e2⟩
 ·cases e1;exact⟨n,t,e2,hn⟩
 ·cases e1
theorem Og{a:Addr}{l:List (Int×Value)}{ns:List Int}{Q:Value->Shared->Prop}(hh:A.handled=none)(hS:Dg (Ap prog w) s.heap a l (Dh w))(hU:Unlike (Ap prog w) l)(hK:Keys (Ap prog w) l (ns.map Sum.inl))(hl:l.length < 64)
  (h:∀(h':Heap) (d':Drawn) (tk p c:Nat) (vs:List Value),(∀b o,s.heap.get? b=some o->h'.get? b=some o)->s.heap.objs.size<=p->h'.get? p=some (seqObj "list" vs.toArray c)->(∀v∈vs,IsI v)->(vs.map Bo).Pairwise (· < ·)->(∀n,n∈vs.map Bo↔n∈ns)->vs.length < 64->Q (.ref p) { s with heap:=h',drawn:=d',toks:=tk }) :
  wpAny (model prog w) A (call (.builtin "sorted") [.ref a]) Q E s:=by
 obtain⟨o,es,ep,t,ho,cv,hd,rfl,fi,hf,hT⟩:=hS
 have hz:es.size < 64:=by simpa using hl
 refine Ev (Eu (show A.in1.handled=none from hh) ⟨o,ho,cv.1,hd,hf⟩ hT (by omega) λh1 d1 t1 ord k1 z1 hp=>?_)
 have hi:∀v∈ord,IsI v:=λv hv=>by
  obtain⟨e,he,rfl⟩:=Yaf.mp (hp.mem_iff.mp hv)
  obtain⟨n,t,e1,_⟩:=Ew fi hK he
  exact⟨n,t,e1⟩
 have h8:∀n,n∈ord.map Bo↔n∈ns:=λn=>by
  rw [Yaf]
  constructor
  ·rintro⟨v,hv,rfl⟩
   obtain⟨e,he,rfl⟩:=Yaf.mp (hp.mem_iff.mp hv)
   obtain⟨n,t,e1,e2⟩:=Ew fi hK he
   rw [e1];exact e2
  ·intro hn
   obtain⟨e,he,hk⟩:=(hK (.inl n)).mpr (Yaf.mpr ⟨n,hn,rfl⟩)
   obtain⟨n',t,e1,_⟩:=Ew fi hK he
   rw [e1]at hk
   have:=X0 hk
   cases this
   exact⟨e.2,hp.mem_iff.mpr (Yaf.mpr ⟨e,he,rfl⟩),by rw [e1];rfl⟩
 have bu:(ord.map Bo).Nodup:=by
  have e1:(ord.map Bo).Perm ((es.toList.map (·.2)).map Bo):=hp.map _
  refine e1.nodup_iff.mpr ?_
  unfold List.Nodup
  rw [Ybm,Ybm]
  refine List.Pairwise.imp_of_mem (λ{e e'} he jm hu q=>?_) hU
  obtain⟨n,t,e1,_⟩:=Ew fi hK he
  obtain⟨n',t',e2,_⟩:=Ew fi hK jm
  rw [e1,e2]at q
  have q':n=n':=q
  subst q'
  have:=hu (.inl n) (by rw [e1];exact Cf _ _ _ _)
  rw [e2,Cf]at this
  cases this
 have ah:ord.length < 64:=by rw [hp.length_eq];simpa using hz
 refine⟨λi j=>decide ((ord.map Bo).getD i 0 < (ord.map Bo).getD j 0),by omega,⟨λi j k _ _ _ h1 h2=>?_,λi j df hj' cj h1=>?_,λi _=>Yba (Int.lt_irrefl _)⟩,λh2 h' kp=>⟨oneType',λQ q=>?_,λi j C df hj' q=>?_⟩,λp h' lb c pm up p6 kp e=>?_⟩
 ·simp only [decide_eq_true_eq]at h1 h2 ⊢;omega
 ·simp only [decide_eq_false_iff_not,decide_eq_true_eq]at h1 ⊢
  suffices ne:(ord.map Bo).getD j 0≠(ord.map Bo).getD i 0 by omega
  refine λq=>cj ?_
  refine((List.getElem?_inj (by simpa using hj') bu).mp ?_).symm
  rw [B9 (d:=(0:Int)) (by simpa using hj'),B9 (d:=(0:Int)) (by simpa using df),q]
 ·match ord,hi,h2 with
  | v1 :: v2 :: vs,hi,_ =>
   rw [keyKind_ints (Mv hi)]
   exact Yac q
 ·unfold kas_ask
  obtain⟨n1,t1,e1⟩:=hi _ (Az (d:=Value.none) df)
  obtain⟨n2,t2,e2⟩:=hi _ (Az (d:=Value.none) hj')
  have g:∀i,i < ord.length->(ord.map Bo).getD i 0=Bo (ord.getD i .none):=λi hi=>by
   simp [List.getD_eq_getElem?_getD,hi]
  dsimp only at q
  rw [g i df,g j hj',e1,e2]at q
  rw [e1,e2,keyLt'_oneType]
  exact oneLt_int q
 ·have dh:∀i∈p.toList,i < ord.length:=λi hi=>Ya3.mp (pm.perm.mem_iff.mp hi)
  have g:∀i,i < ord.length->(ord.map Bo).getD i 0=Bo (ord.getD i .none):=λi hi=>by
   simp [List.getD_eq_getElem?_getD,hi]
  have pv:(p.toList.map λi=>ord.getD i Value.none).Perm ord:=by
   have e2:=pm.perm.map λi=>ord.getD i Value.none
   rw [B3]at e2
   exact e2
  refine h h' d1 t1 lb c _ (λb o q=>kp b o (k1 b o q)) (Yak z1 p6) e (λv hv=>hi v (pv.mem_iff.mp hv)) ?_ (λn=>?_) (by rw [pv.length_eq];exact ah)
  ·rw [Ya0,Ybm]
   refine Ybo.mpr λi j kd yi cj=>?_
   have hj':j < ord.length:=by rw [<- pm.size];simpa using yi
   have:=up i j cj hj'
   have gi:p.getD i 0=p.toList[i]:=by simp [Array.getD,show i < p.size by simpa using kd]
   have gj:p.getD j 0=p.toList[j]:=by simp [Array.getD,show j < p.size by simpa using yi]
   rw [gi,gj]at this
   dsimp only at this
   rw [g _ (dh _ (Yb3 kd)),g _ (dh _ (Yb3 yi))]at this
   simpa using this
  ·rw [<- h8 n]
   exact(pv.map Bo).mem_iff
end
end L2
namespace L2
open PySem PySem.Spec PyProof.Rows
section
variable {X:Cx}{aa:List (Addr×Obj)}{σ:St}{H:Hp}{s:Shared}
theorem Inv.drw(I:Inv X aa σ H s)(d:Drawn):Inv X aa σ H { s with drawn:=d }:=⟨I.ok,I.os,I.bare,I.base,I.loc,I.cell,I.free,I.freeC,I.pin,I.hok,I.len⟩
theorem G0{P:Program}{w:World}:∀{ns:List Int} {us:List Value},Vals (ns.map V.int) us->ItemsAre (Ap P w) (ns.map Sum.inl) us/\∀v∈us,v.scannable=true
 | [],_,h=>by cases h;exact⟨.nil,λ_ h=>nomatch h⟩
 | n :: ns,_,h=>by
  cases h with
  | cons h1 h2 =>
   obtain⟨t,rfl⟩:=h1
   obtain⟨a,b⟩:=G0 (P:=P) (w:=w) h2
   refine⟨.cons (Cf _ _ _ _) a,λv hv=>?_⟩
   rcases Yap.mp hv with rfl | hv
   ·rfl
   ·exact b v hv
theorem Mw:∀{vs:List Value},(∀v∈vs,IsI v)->Vals ((vs.map Bo).map V.int) vs
 | [],_=>.nil
 | v :: vs,h=>by
  obtain⟨n,t,rfl⟩:=h _ Yax
  exact .cons ⟨t,rfl⟩ (Mw λu hu=>h u (Yav _ hu))
theorem Qe{K:PySem.W.Frag}{H:Hp}:∀(ns:List Int),Ao K H (ns.map λn=>AV.D (.int n)) (ns.map V.int)
 | []=>.nil
 | _ :: ns=>.cons C4 (Qe ns)
end
noncomputable instance decPD:DecidableEq PyData:=λa b=>Classical.propDecidable (a=b)
mutual
def G1:PyData->Nat
 | .tuple ds=>Cd ds+1
 | _=>1
def Cd:List PyData->Nat
 | []=>0
 | d :: ds=>G1 d+Cd ds
end
theorem Iu(w:World):∀(a b:List PyData),Cl w (a++b)=Cl w a++Cl w b
 | [],b=>rfl
 | x :: a,b=>by simp only [List.cons_append,Cl,Iu w a b]
theorem He:∀(a b:List PyData),Cd (a++b)=Cd a+Cd b
 | [],b=>by simp [Cd]
 | x :: a,b=>by simp only [List.cons_append,Cd,He a b];omega
section
variable {prog:Program}{w:World}
theorem X1:∀(n:Nat) (d:PyData) (u:Value) (as:List Addr) (A:Around) (E:Value->Shared->Prop) (s:Shared) (Q:Int->Shared->Prop),d.depth<=n->Cano d=true->Reads s.heap u d as->A.units+n < cLine->Q (Av w d) { s with toks:=s.toks+G1 d } ->
  wpAny (model prog w) A (pyHash u) Q E s:=by
 intro n
 induction n with
 | zero =>
  intro d u as A E s Q hd hc hr hu h
  cases hr with
  | int i t=>exact(Ap prog w).pyHash (Cf _ _ _ _) h
  | str x t=>exact(Ap prog w).pyHash (Ej _ _ _ _) h
  | tuple a1 a2 a3 a4=>simp [PyData.depth]at hd
  | none=>simp [Cano]at hc
  | bool b=>simp [Cano]at hc
  | list a1 a2 a3 a4=>simp [Cano]at hc
  | dict a1 a2 a3 a4 a5=>simp [Cano]at hc
 | succ n ih =>
  intro d u as A E s Q hd hc hr hu h
  cases hr with
  | int i t=>exact(Ap prog w).pyHash (Cf _ _ _ _) h
  | str x t=>exact(Ap prog w).pyHash (Ej _ _ _ _) h
  | none=>simp [Cano]at hc
  | bool b=>simp [Cano]at hc
  | list a1 a2 a3 a4=>simp [Cano]at hc
  | dict a1 a2 a3 a4 a5=>simp [Cano]at hc
  | @tuple a o items m ds as ho bm hdt hi =>
   have hT:s.TypeIs (.ref a) "tuple" := ⟨o,ho,bm⟩
   have gz:PyData.depthAll ds<=n:=by simp only [PyData.depth]at hd;omega
   have bo:Ak ds=true:=hc
   unfold pyHash
   first | unfold pyHashByItsType | skip
   first | refine Yaa (wpAny_cRoomFor_or (.inr (by omega)) ?_) | skip
   refine Yaa (Ycz hT F.slot_tuple_hash.lookup (show wpAny _ _ (if(some (Value.builtin "tuple.__hash__")==some Value.none)=true then _ else _) Q E s from ?_))
   rw [Yaj (by rw [beq_builtin_none];exact Yag)]
   refine Yaa (Ycz hT F.slot_tuple_hash.lookup (show wpAny _ _ (callSpecialIfBoundUnlessNone? (.ref a) "__hash__" _ >>= _) Q E s from ?_))
   refine Yaa (wpAny_callSpecialIfBoundUnlessNone?_slot hT F.slot_tuple_hash (Ybu F.slot_tuple_hash hT F.entry_tuple_hash (show wpAny _ _ (Builtin.Tuple.tupleItemsOf (.ref a) >>= _) _ _ s from ?_) (F.args_tuple_hash_1 _)))
   refine Yaa (wpAny_tupleItemsOf ho hdt (Yaa ?_))
   rw [<- Yeo]
   refine Ydp _ (λrest (b:Array Int) s'=>∃dn lf bs,ds=dn++lf/\ReadsAll s.heap rest lf bs/\Ak lf=true/\PyData.depthAll lf<=n/\b.toList=Cl w dn/\s'={ s with toks:=s.toks+Cd dn }) _ ?_ ?_ _ _ ⟨[],ds,as,rfl,hi,bo,gz,rfl,rfl⟩
   ·rintro x rest b s' ⟨dn,lf,bs,rfl,hl,bm,jg,hb,rfl⟩
    cases hl with
    | @cons _ _ d ds' as1 bs1 h1 hl' =>
     simp only [Ak,Bool.and_eq_true]at bm
     simp only [PyData.depthAll]at jg
     refine Yaa (ih d x as1 A.in1 _ { s with toks:=s.toks+Cd dn } _ (by omega) bm.1 h1 (by show A.units+1+n < _;omega) ?_)
     have fin:∃xm sy bs',dn++d :: ds'=xm++sy/\ReadsAll s.heap rest sy bs'/\Ak sy=true/\PyData.depthAll sy<=n/\(b.push (Av w d)).toList=Cl w xm/\({ s with toks:=s.toks+Cd dn+G1 d }:Shared)={ s with toks:=s.toks+Cd xm } :=
      ⟨dn++[d],ds',bs1,by simp,hl',bm.2,by omega,by simp [hb,Iu,Cl],by simp [He,Cd,Nat.add_assoc]⟩
     first
      | exact Yac fin
      | exact Yaa (Yac (Yac fin))
   ·rintro b s' ⟨dn,lf,bs,rfl,hl,bm,jg,hb,rfl⟩
    cases hl
    rw [Ycp]at h
    simp only [Av,G1]at h
    refine(show wpAny _ _ (retInt (Builtin.Tuple.tupleHashOf b.toList)) _ _ _ from ?_)
    rw [hb]
    refine wpAny_ret_mkInt (show wpAny _ _ (if(decide (-(2:Int) ^ 63<=Builtin.Tuple.tupleHashOf (Cl w dn)) && decide (Builtin.Tuple.tupleHashOf (Cl w dn) < 2 ^ 63))=true then _ else _) Q E _ from ?_)
    unfold reduceHash at h
    by_cases hr:(decide (-(2:Int) ^ 63<=Builtin.Tuple.tupleHashOf (Cl w dn)) && decide (Builtin.Tuple.tupleHashOf (Cl w dn) < 2 ^ 63))=true
    ·rw [Yao hr]at h ⊢
     exact Yac (by simpa [Nat.add_assoc] using h)
    ·rw [Yaj hr]at h ⊢
     exact Yaa (Yco (Yac (by simpa [Nat.add_assoc] using h)))
theorem Iv:∀(n q:Nat) (d:PyData) (u:Value) (as:List Addr) (A:Around) (E:Value->Shared->Prop) (s:Shared) (Q:Bool->Shared->Prop),d.depth<=n->n < q->Cano d=true->Reads s.heap u d as->Q true s->wpAny (model prog w) A (eqIsQuiet q u) Q E s:=by
 intro n
 induction n with
 | zero =>
  intro q d u as A E s Q hd hq hc hr h
  cases hr with
  | int i t=>rw [Yey _ rfl];exact Yac h
  | str x t=>rw [Yey _ rfl];exact Yac h
  | tuple a1 a2 a3 a4=>simp [PyData.depth]at hd
  | none=>simp [Cano]at hc
  | bool b=>simp [Cano]at hc
  | list a1 a2 a3 a4=>simp [Cano]at hc
  | dict a1 a2 a3 a4 a5=>simp [Cano]at hc
 | succ n ih =>
  intro q d u as A E s Q hd hq hc hr h
  cases hr with
  | int i t=>rw [Yey _ rfl];exact Yac h
  | str x t=>rw [Yey _ rfl];exact Yac h
  | none=>simp [Cano]at hc
  | bool b=>simp [Cano]at hc
  | list a1 a2 a3 a4=>simp [Cano]at hc
  | dict a1 a2 a3 a4 a5=>simp [Cano]at hc
  | @tuple a o items m ds as ho bm hdt hi =>
   have hT:s.TypeIs (.ref a) "tuple" := ⟨o,ho,bm⟩
   have gz:PyData.depthAll ds<=n:=by simp only [PyData.depth]at hd;omega
   have bo:Ak ds=true:=hc
   obtain⟨q',rfl⟩:∃q',q=q'+1:=⟨q - 1,by omega⟩
   unfold eqIsQuiet
   refine Yaa (Ycz hT F.slot_tuple_eq.lookup (show wpAny _ _ (isInstance (.ref a) (.type "tuple") >>= _) _ _ s from Yaa (Yc4 hT isSubtype_tuple_tuple ?_)))
   simp only [Bool.not_true,Bool.false_eq_true,if_false]
   refine Yaa (Yd6 ho hdt (Yaa (show wpAny _ _ (forIn items _ _) _ _ s from ?_)))
   rw [<- Yeo]
   refine Ydp _ (λrest r s'=>r.1=none/\s'=s/\∃lf bs,ReadsAll s.heap rest lf bs/\Ak lf=true/\PyData.depthAll lf<=n) _ ?_ ?_ _ _ ⟨rfl,rfl,ds,as,hi,bo,gz⟩
   ·rintro v rest r s' ⟨hr,rfl,lf,bs,hl,bm,jg⟩
    cases hl with
    | @cons _ _ d ds' as1 bs1 h1 hl' =>
     simp only [Ak,Bool.and_eq_true]at bm
     simp only [PyData.depthAll]at jg
     refine Yaa (ih q' d v as1 A _ s' _ (by omega) (by omega) bm.1 h1 ?_)
     simp only [Bool.not_true,Bool.false_eq_true,if_false]
     exact Yac ⟨rfl,rfl,ds',bs1,hl',bm.2,by omega⟩
   ·rintro⟨r1,r2⟩ s' ⟨hr,rfl,_⟩
    simp only at hr
    subst hr
    exact Yac h
mutual
theorem J9{h:Heap}:∀{v:Value} {d e:PyData} {as bs:List Addr},Reads h v d as->Reads h v e bs->Cano d=true->Cano e=true->d=e
 | _,_,_,_,_,.int i t,r,_,_=>by cases r;rfl
 | _,_,_,_,_,.str x t,r,_,_=>by cases r;rfl
 | _,_,_,_,_,.tuple a1 a2 a3 a4,r,hc,hc2=>by
  cases r with
  | tuple b1 b2 b3 b4 =>
   rw [a1]at b1;cases b1
   rw [a3]at b3;cases b3
   rw [Ga a4 b4 hc hc2]
  | list b1 b2 b3 b4=>simp [Cano]at hc2
  | dict b1 b2 b3 b4 b5=>simp [Cano]at hc2
 | _,_,_,_,_,.none,_,hc,_=>by simp [Cano]at hc
 | _,_,_,_,_,.bool b,_,hc,_=>by simp [Cano]at hc
 | _,_,_,_,_,.list a1 a2 a3 a4,_,hc,_=>by simp [Cano]at hc
 | _,_,_,_,_,.dict a1 a2 a3 a4 a5,_,hc,_=>by simp [Cano]at hc
theorem Ga{h:Heap}:∀{vs:List Value} {ds es:List PyData} {as bs:List Addr},ReadsAll h vs ds as->ReadsAll h vs es bs->Ak ds=true->Ak es=true->ds=es
 | _,_,_,_,_,.nil,r,_,_=>by cases r;rfl
 | _,_,_,_,_,.cons r1 r2,r,hc,hc2=>by
  cases r with
  | cons q1 q2 =>
   simp only [Ak,Bool.and_eq_true]at hc hc2
   rw [J9 r1 q1 hc.1 hc2.1,Ga r2 q2 hc.2 hc2.2]
end
mutual
theorem G2{h h':Heap}{p:Addr}(hk:∀b o,b≠p->h.get? b=some o->h'.get? b=some o)(hp:∀o vs n,h.get? p=some o->o.data≠.seq vs n):∀{v:Value} {d:PyData} {as:List Addr},Reads h v d as->Cano d=true->Reads h' v d as
 | _,_,_,.int i t,_=>.int i t
 | _,_,_,.str x t,_=>.str x t
 | _,_,_,.tuple a1 a2 a3 a4,hc=>.tuple (hk _ _ (λz=>by subst z;exact hp _ _ _ a1 a3) a1) a2 a3 (Gb hk hp a4 hc)
 | _,_,_,.none,hc=>by simp [Cano]at hc
 | _,_,_,.bool b,hc=>by simp [Cano]at hc
 | _,_,_,.list a1 a2 a3 a4,hc=>by simp [Cano]at hc
 | _,_,_,.dict a1 a2 a3 a4 a5,hc=>by simp [Cano]at hc
theorem Gb{h h':Heap}{p:Addr}(hk:∀b o,b≠p->h.get? b=some o->h'.get? b=some o)(hp:∀o vs n,h.get? p=some o->o.data≠.seq vs n):∀{vs:List Value} {ds:List PyData} {as:List Addr},ReadsAll h vs ds as->Ak ds=true->ReadsAll h' vs ds as
 | _,_,_,.nil,_=>.nil
 | _,_,_,.cons r1 r2,hc=>by
  simp only [Ak,Bool.and_eq_true]at hc
  exact .cons (G2 hk hp r1 hc.1) (Gb hk hp r2 hc.2)
end
theorem Qf{x y:PyData}(hx:Cano x=true)(hy:Cano y=true):PyData.eqv x y=decide (x=y):=by
 by_cases h:x=y
 ·subst h;rw [Fy x hx,Ybg rfl]
 ·rw [Yba h];exact(N0 hx hy).mpr h
variable(prog w) in
noncomputable def Iw:HeapKind prog w PyData where
 is:=λh d a=>KeyTree d/\∃as,Reads h (.ref a) d as
 hash:=Av w
 draws:=G1
 room:=λA=>A.units+6 < cLine
 inj:=λ⟨kx,_,rx⟩ ⟨ky,_,ry⟩=>J9 rx ry kx.can ky.can
 keeps:=λ⟨k,as,r⟩ ho hd hs=>⟨k,as,G2 (λb o hb e=>(hs.2 b hb).trans e) (λo' vs n e q=>by rw [ho]at e;cases e;rw [hd]at q;cases q) r k.can⟩
 pyHash:=λhu ⟨k,as,r⟩ h=>X1 6 _ _ as _ _ _ _ k.dep k.can r hu h
 eqBool:=λhu ⟨kx,as,rx⟩ ⟨ky,bs,ry⟩ h=>SeqAt.eqAt_reads _ _ _ _ _ _ _ _ rx ry kx.lay ky.lay (by have:=kx.dep;omega) _ _ _ _ (by rw [Qf kx.can ky.can];exact h)
 quiet:=λ⟨k,as,r⟩ h=>Iv 6 8 _ _ as _ _ _ _ k.dep (by decide) k.can r h
end
section
variable {X:Cx}{aa:List (Addr×Obj)}{σ:St}{H:Hp}{s:Shared}{a:Addr}{e:Expr}{te:AE}{τ:ASt}{μ:M}
theorem VE.run{R1:AV->M->Prop}(he:VE X e te)(I:Inv X aa σ H s)(hs:Dm X.K H τ σ)(hc:Cn X.K μ H)(h:te τ μ R1) :
  wpAny (model X.prog X.w) X.A (eval e X.env) (λu s1=>∃x v μ1 H1,Inv X aa σ H1 s1/\A6 v u/\Kp H H1/\Cn X.K μ1 H1/\RelA X.K H1 x v/\R1 x μ1) X.xe s :=
 Yb1 (he aa s σ H (λv H1=>∃x μ1,Kp H H1/\Cn X.K μ1 H1/\RelA X.K H1 x v/\R1 x μ1) I ⟨τ,μ,R1,hs,hc,h,λx μ1 v H1 S c r q=>⟨x,μ1,S,c,r,q⟩⟩)
  (λ_ _ z=>by obtain⟨v,H1,I1,rv,x,μ1,S,c,r,q⟩:=z;exact⟨x,v,μ1,H1,I1,rv,S,c,r,q⟩) λ_ _ e=>e
variable {o i value:Expr}{pos bt:Pos}{td ty tv:AE}
end
section
variable {prog:Program}{w:World}{A:Around}{E:Value->Shared->Prop}{s:Shared}
end
section
variable {X:Cx}{aa:List (Addr×Obj)}{σ:St}{s:Shared}
end
section
variable {prog:Program}{w:World}{A:Around}{E:Value->Shared->Prop}{s:Shared}
end
section
variable {X:Cx}{e st:Expr}{te ts:AE}{p2 pos:Pos}
end
section
variable {X:Cx}{tg:Expr}
end
section
variable {ku lg:Str}{at' turn:Int}
end
end L2
namespace L2
open PySem PySem.SetTable
theorem Dj{α:Type} [DecidableEq α]:∀{xs ys:List α},xs.Nodup->(∀x∈xs,x∈ys)->xs.length<=ys.length
 | [],_,_,_=>Yaz _
 | x :: xs,ys,hn,h=>by
  have ml:=Yb5.mp hn
  have hx:=h x (.head _)
  have:=Dj (ys:=ys.erase x) ml.2 λz hz=>(List.mem_erase_of_ne (by rintro rfl;exact ml.1 hz)).mpr (h z (.tail _ hz))
  rw [List.length_erase_of_mem hx]at this
  have:0 < ys.length:=List.length_pos_of_mem hx
  rw [Ya9];omega
def advM(mask:Nat)(p:Probe):Probe :=
 if p.more > 0 then { p with j:=p.j+1,more:=p.more - 1 } else
 { p with j:=(leap mask p.i p.perturb).1,more:=runEnd mask (leap mask p.i p.perturb).1 - (leap mask p.i p.perturb).1,i:=(leap mask p.i p.perturb).1,perturb:=(leap mask p.i p.perturb).2 }
theorem X2(t:SetTable)(p:Probe):t.advance p=advM t.mask p:=rfl
def R6(mask i perturb l:Nat):Probe:={ j:=i+l,more:=runEnd mask i - i - l,i:=i,perturb:=perturb,dummy:=none }
def Ka(mask:Nat)(h:Int):Nat->Probe
 | 0=>R6 mask (bits h % (mask+1)) (bits h) 0
 | n+1=>advM mask (Ka mask h n)
def sq(mask:Nat)(h:Int)(n:Nat):Nat:=(Ka mask h n).j
def rn(mask:Nat)(h:Int):Nat->Nat×Nat
 | 0=>(bits h % (mask+1),bits h)
 | r+1=>leap mask (rn mask h r).1 (rn mask h r).2
def nr(mask:Nat)(h:Int):Nat->Nat
 | 0=>0
 | r+1=>nr mask h r+(runEnd mask (rn mask h r).1 - (rn mask h r).1)+1
theorem Qbx(mask i:Nat):runEnd mask i - i<=9:=by unfold runEnd;split <;> omega
theorem Uv(mask i:Nat):i<=runEnd mask i:=by unfold runEnd;split <;> omega
theorem Mx{mask i:Nat}(h:i<=mask):runEnd mask i<=mask:=by unfold runEnd;split <;> omega
theorem Zk(mask:Nat)(h:Int):∀r,nr mask h r<=10 * r
 | 0=>Yad _
 | r+1=>by
  have:=Zk mask h r
  have:=Qbx mask (rn mask h r).1
  rw [nr];omega
theorem Uw(mask:Nat)(h:Int):∀r,(rn mask h r).1<=mask
 | 0=>by have:=Nat.mod_lt (bits h) (show 0 < mask+1 by omega);rw [rn];dsimp only;omega
 | r+1=>by
  rw [rn,leap]
  have:=Nat.mod_lt ((rn mask h r).1 * 5+1+(rn mask h r).2 / 32) (show 0 < mask+1 by omega)
  dsimp only;omega
theorem Oh{mask:Nat}{h:Int}{n i pt:Nat}(e:Ka mask h n=R6 mask i pt 0):∀l,l<=runEnd mask i - i->Ka mask h (n+l)=R6 mask i pt l
 | 0,_=>e
 | l+1,hl=>by
  rw [<- Nat.add_assoc,Ka,Oh e l (by omega)]
  unfold advM
  rw [Yao (show(R6 mask i pt l).more > 0 by show _ - l > 0;omega)]
  show Probe.mk _ _ _ _ _=Probe.mk _ _ _ _ _
  congr 1
theorem Qg(mask:Nat)(h:Int):∀r,Ka mask h (nr mask h r)=R6 mask (rn mask h r).1 (rn mask h r).2 0
 | 0=>rfl
 | r+1=>by
  rw [nr,Ka,Oh (Qg mask h r) _ (Yad _)]
  unfold advM
  rw [Yaj (show ¬(R6 mask (rn mask h r).1 (rn mask h r).2 (runEnd mask (rn mask h r).1 - (rn mask h r).1)).more > 0 by show ¬(_ - _ - _ > 0);omega)]
  rfl
theorem G3{mask:Nat}{h:Int}{r l:Nat}(hl:l<=runEnd mask (rn mask h r).1 - (rn mask h r).1):sq mask h (nr mask h r+l)=(rn mask h r).1+l:=by
 unfold sq
 rw [Oh (Qg mask h r) l hl];rfl
theorem G4(mask:Nat)(h:Int):∀n,(Ka mask h n).dummy=none
 | 0=>rfl
 | n+1=>by
  rw [Ka,advM]
  split
  ·exact G4 mask h n
  ·exact G4 mask h n
theorem Zl(mask:Nat)(h:Int):∀r,(rn mask h r).2=bits h / 32 ^ r
 | 0=>by rw [rn,Nat.pow_zero,Nat.div_one]
 | r+1=>by
  rw [rn,leap]
  dsimp only
  rw [Zl mask h r,Nat.div_div_eq_div_mul,Nat.pow_succ]
theorem X3(h:Int):bits h < 2 ^ 64:=by
 unfold bits
 have h1:=Int.emod_lt_of_pos h (show(0:Int) < 2 ^ 64 by decide)
 have h2:=Int.emod_nonneg h (show(2 ^ 64:Int)≠0 by decide)
 omega
theorem X4(mask:Nat)(h:Int)(r:Nat):(rn mask h (13+r+1)).1=((rn mask h (13+r)).1 * 5+1) % (mask+1):=by
 rw [rn,leap]
 dsimp only
 have e:(rn mask h (13+r)).2=0:=by
  rw [Zl]
  refine Nat.div_eq_of_lt (Yar (X3 h) ?_)
  exact Yak (show 2 ^ 64<=32 ^ 13 by decide) (Nat.pow_le_pow_right (by decide) (by omega))
 rw [e]
def cyc(mask:Nat)(i:Nat):Nat->Nat
 | 0=>i
 | b+1=>(cyc mask i b * 5+1) % (mask+1)
theorem Ux(mask:Nat)(h:Int):∀b,(rn mask h (13+b)).1=cyc mask (rn mask h 13).1 b
 | 0=>rfl
 | b+1=>by rw [<- Nat.add_assoc,X4,Ux mask h b];rfl
theorem Gc(mask i:Nat)(a:Nat):∀b,cyc mask (cyc mask i a) b=cyc mask i (a+b)
 | 0=>rfl
 | b+1=>by rw [cyc,Gc mask i a b];rfl
def Msk(mask:Nat):Prop:=mask=7\/mask=31\/mask=127\/mask=511
def orbit(mask:Nat):Nat->Nat->List Nat
 | 0,_=>[]
 | n+1,i=>i :: orbit mask n ((i * 5+1) % (mask+1))
theorem Kc(mask:Nat):∀(n i x:Nat),x∈orbit mask n i->∃b,b < n/\cyc mask i b=x
 | 0,_,_,h=>by cases h
 | n+1,i,x,h=>by
  rcases Yap.mp h with rfl | h
  ·exact⟨0,by omega,rfl⟩
  ·obtain⟨b,hb,e⟩:=Kc mask n _ x h
   refine⟨b+1,by omega,?_⟩
   rw [show b+1=1+b by omega,<- Gc]
   exact e
theorem Qh8:((List.range 8).all λx=>(orbit 7 8 0).contains x)=true/\cyc 7 0 8=0:=by decide +kernel
theorem Qe6:((List.range 32).all λx=>(orbit 31 32 0).contains x)=true/\cyc 31 0 32=0:=by decide +kernel
theorem Qby:((List.range 128).all λx=>(orbit 127 128 0).contains x)=true/\cyc 127 0 128=0:=by decide +kernel
theorem Qbz:((List.range 512).all λx=>(orbit 511 512 0).contains x)=true/\cyc 511 0 512=0:=by decide +kernel
theorem orb{mask:Nat}(hm:Msk mask):((List.range (mask+1)).all λx=>(orbit mask (mask+1) 0).contains x)=true/\cyc mask 0 (mask+1)=0:=by
 rcases hm with rfl | rfl | rfl | rfl
 ·exact Qh8
 ·exact Qe6
 ·exact Qby
 ·exact Qbz
theorem X5{mask:Nat}(hm:Msk mask){i x:Nat}(hi:i<=mask)(hx:x<=mask):∃b,b<=mask+1/\cyc mask i b=x:=by
 obtain⟨h1,h2⟩:=orb hm
 have key:∀y,y<=mask->∃b,b < mask+1/\cyc mask 0 b=y:=λy hy=>Kc mask _ 0 y (by
  have:=Yb8.mp h1 y (Ya3.mpr (by omega))
  exact Yd0.mp this)
 obtain⟨a,ha,ea⟩:=key i hi
 obtain⟨c,hc,ec⟩:=key x hx
 rcases Ybr c a with h | h
 ·refine⟨mask+1 - a+c,by omega,?_⟩
  rw [<- ea,Gc,show a+(mask+1 - a+c)=(mask+1)+c by omega,<- Gc,h2,ec]
 ·refine⟨c - a,by omega,?_⟩
  rw [<- ea,Gc,show a+(c - a)=c by omega,ec]
theorem reach{mask:Nat}(hm:Msk mask)(h:Int){x:Nat}(hx:x<=mask):∃r,r<=mask+14/\(rn mask h r).1=x:=by
 obtain⟨b,hb,e⟩:=X5 hm (Uw mask h 13) hx
 exact⟨13+b,by omega,by rw [Ux,e]⟩
theorem Zm(mask:Nat)(h:Int):∀n,∃r l,l<=runEnd mask (rn mask h r).1 - (rn mask h r).1/\n=nr mask h r+l
 | 0=>⟨0,0,Yaz _,rfl⟩
 | n+1=>by
  obtain⟨r,l,hl,rfl⟩:=Zm mask h n
  rcases Ybr l (runEnd mask (rn mask h r).1 - (rn mask h r).1) with c | c
  ·exact⟨r,l+1,c,rfl⟩
  ·exact⟨r+1,0,Yaz _,by rw [nr];omega⟩
theorem Qh(mask:Nat)(h:Int)(n:Nat):sq mask h n<=mask:=by
 obtain⟨r,l,hl,rfl⟩:=Zm mask h n
 rw [G3 hl]
 have:=Mx (Uw mask h r)
 have:=Uv mask (rn mask h r).1
 omega
theorem Oi{mask:Nat}(hm:Msk mask)(h:Int)(lz:Nat->Prop) [DecidablePred lz]{x:Nat}(hx:x<=mask)(hn:¬lz x):∃n,n < 10 * turns mask/\¬lz (sq mask h n)/\∀m,m < n->lz (sq mask h m):=by
 obtain⟨r,hr,e⟩:=reach hm h hx
 have h0:¬lz (sq mask h (nr mask h r)):=by
  rw [show nr mask h r=nr mask h r+0 from rfl,G3 (Yaz _),e];exact hn
 have h1:nr mask h r < 10 * turns mask:=by have:=Zk mask h r;unfold turns;omega
 generalize nr mask h r=k at h0 h1
 induction k using Nat.strongRecOn with
 | _ k ih =>
  by_cases c:∀m,m < k->lz (sq mask h m)
  ·exact⟨k,h1,h0,c⟩
  ·have⟨m,nv,dz⟩:∃m,m < k/\¬lz (sq mask h m):=by
    refine Ybp λz=>c λm h9=>Ybp λy=>z ⟨m,h9,y⟩
   exact ih m nv dz (by omega)
theorem Qi{mask:Nat}(h:Int)(owner:Array (Option Nat))(hs:owner.size=mask+1):∀(fuel r:Nat),(∃k,r<=k/\k < r+fuel/\owner.getD (rn mask h k).1 none=none)->(∀m,m < nr mask h r->(owner.getD (sq mask h m) none).isSome=true) ->
  ∃n,layClean.free mask owner fuel (rn mask h r).1 (rn mask h r).2=some (sq mask h n)/\owner.getD (sq mask h n) none=none/\∀m,m < n->(owner.getD (sq mask h m) none).isSome=true
 | 0,r,⟨k,h1,h2,_⟩,_=>by omega
 | fuel+1,r,hk,ho=>by
  have hd:∀j,j<=mask->owner.getD j (some 0)=owner.getD j none:=λj hj=>by
   simp only [Array.getD,show j < owner.size by omega,dite_true]
  have mm:=Uw mask h r
  have hre:=Mx mm
  have hrg:=Uv mask (rn mask h r).1
  rw [layClean.free]
  cases c:(List.range (runEnd mask (rn mask h r).1+1 - (rn mask h r).1)).find? λk=>(owner.getD ((rn mask h r).1+k) (some 0)).isNone with
  | some k =>
   obtain⟨c1,c2,c3⟩:=List.find?_range_eq_some.mp c
   have hk2:=Ya3.mp c2
   refine⟨nr mask h r+k,?_,?_,λm hm=>?_⟩
   ·rw [G3 (by omega)]
   ·rw [G3 (by omega),<- hd _ (by omega)]
    exact Option.isNone_iff_eq_none.mp c1
   ·rcases Ybr m (nr mask h r) with z | z
    ·exact ho m z
    ·have e:m=nr mask h r+(m - nr mask h r):=by omega
     rw [e,G3 (by omega),<- hd _ (by omega)]
     have:=c3 (m - nr mask h r) (by omega)
     cases q:owner.getD ((rn mask h r).1+(m - nr mask h r)) (some 0) with
     | none=>rw [q]at this;cases this
     | some _=>rfl
  | none =>
   have c':=List.find?_range_eq_none.mp c
   have m4:∀l,l<=runEnd mask (rn mask h r).1 - (rn mask h r).1->(owner.getD ((rn mask h r).1+l) none).isSome=true:=λl hl=>by
    have:=c' l (by omega)
    rw [hd _ (by omega)]at this
    cases q:owner.getD ((rn mask h r).1+l) none with
    | none=>rw [q]at this;cases this
    | some _=>rfl
   refine Qi h owner hs fuel (r+1) ?_ λm hm=>?_
   ·obtain⟨k,h1,h2,h3⟩:=hk
    rcases Ya5 h1 with rfl | h1
    ·have:=m4 0 (Yaz _)
     rw [Nat.add_zero,h3]at this;cases this
    ·exact⟨k,h1,by omega,h3⟩
   ·rcases Ybr m (nr mask h r) with z | z
    ·exact ho m z
    ·have e:m=nr mask h r+(m - nr mask h r):=by omega
     rw [nr]at hm
     rw [e,G3 (by omega)]
     exact m4 _ (by omega)
structure Own(mask:Nat)(hs:List Int)(owner:Array (Option Nat))(k:Nat):Prop where
 size:owner.size=mask+1
 lt:∀j x,owner.getD j none=some x->x < k
 has:∀x,x < k->∃j,owner.getD j none=some x
 inj:∀j j' x,owner.getD j none=some x->owner.getD j' none=some x->j=j'
 path:∀j x h,owner.getD j none=some x->hs[x]?=some h->∃n,sq mask h n=j/\∀m,m < n->(owner.getD (sq mask h m) none).isSome=true
theorem Uy(o:Array (Option Nat))(j:Nat)(v:Option Nat)(hj:j < o.size)(i:Nat):(o.setIfInBounds j v).getD i none=if i=j then v else o.getD i none:=by
 rw [Ybb,Ybb,Array.getElem?_setIfInBounds]
 by_cases e:i=j
 ·subst e
  rw [Yao rfl,Yao hj,Yao rfl];rfl
 ·rw [Yaj (λz=>e z.symm),Yaj e]
theorem Qj{o:Array (Option Nat)}{j x:Nat}(h:o.getD j none=some x):j < o.size:=by
 rw [Ybb]at h
 cases c:o[j]? with
 | none=>rw [c]at h;cases h
 | some y=>exact(Array.getElem?_eq_some_iff.mp c).1
theorem Uz{mask k:Nat}{hs:List Int}{owner:Array (Option Nat)}(o:Own mask hs owner k)(hk:k<=mask):∃x,x<=mask/\owner.getD x none=none:=by
 refine Ybp λz=>?_
 have fc:∀j,j<=mask->∃x,owner.getD j none=some x:=λj hj=>by
  cases c:owner.getD j none with
  | none=>exact absurd ⟨j,hj,c⟩ z
  | some x=>exact⟨x,rfl⟩
 have h1:((List.range (mask+1)).map λj=>(owner.getD j none).getD 0).Nodup:=by
  rw [List.Nodup,Ybm]
  refine List.Pairwise.imp_of_mem (R:=(· < ·)) (λ{a b} ha hb ic e=>?_) Ycn
  obtain⟨x,ex⟩:=fc a (by have:=Ya3.mp ha;omega)
  obtain⟨y,ey⟩:=fc b (by have:=Ya3.mp hb;omega)
  rw [ex,ey]at e
  have e':x=y:=e
  subst e'
  have:=o.inj a b x ex ey
  omega
 have h2:=Dj (ys:=List.range k) h1 λy hy=>by
  obtain⟨j,hj,rfl⟩:=Yaf.mp hy
  obtain⟨x,ex⟩:=fc j (by have:=Ya3.mp hj;omega)
  rw [ex]
  exact Ya3.mpr (o.lt j x ex)
 rw [Yab,Ycb,Ycb]at h2
 omega
theorem U0{mask k:Nat}{hs:List Int}{owner:Array (Option Nat)}{h:Int}(hm:Msk mask)(o:Own mask hs owner k)(hk:k<=mask)(hh:hs[k]?=some h):∃j,layClean.free mask owner (turns mask) (bits h % (mask+1)) (bits h)=some j/\Own mask hs (owner.setIfInBounds j (some k)) (k+1):=by
 obtain⟨x,hx,ex⟩:=Uz o hk
 obtain⟨r,hr,er⟩:=reach hm h hx
 obtain⟨n,e1,e2,e3⟩:=Qi h owner o.size (turns mask) 0 ⟨r,Yaz _,by unfold turns;omega,by rw [er];exact ex⟩ (λm h9=>absurd h9 (Yem _))
 have hj:sq mask h n < owner.size:=by have:=Qh mask h n;rw [o.size];omega
 have hg:=Uy owner (sq mask h n) (some k) hj
 refine⟨_,e1,by rw [Yed];exact o.size,λj y e=>?_,λy hy=>?_,λj j' y a b=>?_,λj y g a b=>?_⟩
 ·rw [hg]at e
  split at e
  ·cases e;omega
  ·have:=o.lt j y e;omega
 ·rcases(show y < k\/y=k by omega) with h' | rfl
  ·obtain⟨j,ej⟩:=o.has y h'
   refine⟨j,?_⟩
   rw [hg,Yaj (by rintro rfl;rw [e2]at ej;cases ej)];exact ej
  ·exact⟨_,by rw [hg,Yao rfl]⟩
 ·rw [hg]at a b
  split at a
  ·rename_i q1
   split at b
   ·rename_i q2;exact q1.trans q2.symm
   ·cases a;have:=o.lt _ _ b;omega
  ·split at b
   ·cases b;have:=o.lt _ _ a;omega
   ·exact o.inj j j' y a b
 ·have up:∀i,(owner.getD i none).isSome=true->((owner.setIfInBounds (sq mask h n) (some k)).getD i none).isSome=true:=λi hi=>by
   rw [hg]
   split
   ·rfl
   ·exact hi
  rw [hg]at a
  split at a
  ·rename_i q1
   cases a
   rw [hh]at b
   cases b
   exact⟨n,q1.symm,λm h9=>up _ (e3 m h9)⟩
  ·obtain⟨n',f1,f2⟩:=o.path j y g a b
   exact⟨n',f1,λm h9=>up _ (f2 m h9)⟩
def X6(mask:Nat)(acc:Option (Array (Option Nat)×Nat))(h:Int):Option (Array (Option Nat)×Nat):=do
 let(owner,k) <- acc
 let j <- layClean.free mask owner (turns mask) (bits h % (mask+1)) (bits h)
 pure (owner.setIfInBounds j (some k),k+1)
theorem My{mask:Nat}(hm:Msk mask){hs:List Int}(hl:hs.length<=mask+1):∀(rest dn:List Int) (owner:Array (Option Nat)),hs=dn++rest->Own mask hs owner dn.length->∃i6,rest.foldl (X6 mask) (some (owner,dn.length))=some (i6,hs.length)/\Own mask hs i6 hs.length
 | [],dn,owner,e,o=>by
  rw [Ycp]at e
  subst e
  exact⟨owner,rfl,o⟩
 | h :: rest,dn,owner,e,o=>by
  have hk:dn.length<=mask:=by rw [e,Yal,Ya9]at hl;omega
  obtain⟨j,e1,o1⟩:=U0 hm o hk (h:=h) (by rw [e];simp)
  have e2:X6 mask (some (owner,dn.length)) h=some (owner.setIfInBounds j (some dn.length),(dn++[h]).length):=by
   unfold X6
   simp only [Option.bind_eq_bind,Option.bind_some,e1,List.length_append]
   rfl
  rw [Ycf,e2]
  exact My hm hl rest (dn++[h]) _ (by rw [e];simp) (by rw [Yal];exact o1)
theorem Qb0{mask:Nat}(hm:Msk mask)(hs:Array Int)(hl:hs.size<=mask+1):∃owner,layClean mask hs=some owner/\Own mask hs.toList owner hs.size:=by
 have o0:Own mask hs.toList (Array.replicate (mask+1) none) 0:=by
  have hg:∀j,(Array.replicate (mask+1) (none:Option Nat)).getD j none=none:=λj=>by
   rw [Ybb,Array.getElem?_replicate]
   split <;> rfl
  exact⟨by simp,λj x e=>(by rw [hg]at e;cases e),λx hx=>absurd hx (Yem _),λj j' x e=>(by rw [hg]at e;cases e),λj x h e=>(by rw [hg]at e;cases e)⟩
 obtain⟨owner,e,o⟩:=My hm (hs:=hs.toList) (by simpa using hl) hs.toList [] _ rfl o0
 refine⟨owner,?_,by simpa using o⟩
 unfold layClean
 rw [<- Array.foldl_toList]
 have e':List.foldl (X6 mask) (some (Array.replicate (mask+1) none,0)) hs.toList=some (owner,hs.toList.length):=e
 exact(Ycg (Option.map (·.1)) e').trans rfl
structure TabQ(t:SetTable)(hs:List Int):Prop where
 msk:Msk t.mask
 len:t.place.size=hs.length
 le:∀j∈t.place.toList,j<=t.mask
 path:∀z∈t.place.toList.zip hs,∃n,sq t.mask z.2 n=z.1/\∀m,m < n->sq t.mask z.2 m∈t.place.toList
theorem X7{mask f mv:Nat}{led pl:Bool}(hm:Msk mask)(hs:Array Int)(hl:hs.size<=mask+1):∃t au,laid mask f mv led pl hs=some (t,au)/\t.mask=mask/\au.toList.Perm (List.range hs.size)/\TabQ t (au.toList.map λi=>hs.getD i 0):=by
 obtain⟨owner,e,o⟩:=Qb0 hm hs hl
 have fx:∀j x,(j,x)∈((List.range (mask+1)).filterMap λj=>(owner.getD j none).map (j,·))↔owner.getD j none=some x:=λj x=>by
  rw [List.mem_filterMap]
  constructor
  ·rintro⟨a,ha,q⟩
   obtain⟨y,ey,q2⟩:=Yah.mp q
   cases q2;exact ey
  ·intro q
   refine⟨j,Ya3.mpr ?_,by rw [q];rfl⟩
   have:=Qj q;rw [o.size]at this;exact this
 have bu:((List.range (mask+1)).filterMap λj=>(owner.getD j none).map (j,·)).Pairwise λp q=>p.2≠q.2:=by
  refine List.Pairwise.filterMap _ (R:=(· < ·)) (λa a' zf b hb b' jz=>?_) Ycn
  obtain⟨z,hz,rfl⟩:=Yah.mp hb
  obtain⟨z',sx,rfl⟩:=Yah.mp jz
  intro q
  have q':z=z':=q
  subst q'
  have:=o.inj a a' z hz sx
  omega
 refine⟨_,_,by unfold laid;rw [e];rfl,rfl,?_,?_⟩
 ·show(List.map (λp:Nat×Nat=>p.2) _).Perm _
  refine(List.perm_ext_iff_of_nodup ?_ Ye8).mpr λx=>?_
  ·rw [List.Nodup,Ybm];exact bu
  ·rw [Yaf,Ya3]
   constructor
   ·rintro⟨⟨j,y⟩,hy,rfl⟩
    exact o.lt j y ((fx j y).mp hy)
   ·intro hx
    obtain⟨j,ej⟩:=o.has x hx
    exact⟨(j,x),(fx j x).mpr ej,rfl⟩
 ·refine⟨hm,?_,λj hj=>?_,λz hz=>?_⟩
  ·show(List.map _ _).toArray.size=(List.map _ (List.map _ _)).length
   simp
  ·have hj':j∈List.map (·.1) ((List.range (mask+1)).filterMap λj=>(owner.getD j none).map (j,·)):=hj
   obtain⟨⟨a,b⟩,q,rfl⟩:=Yaf.mp hj'
   have:=Qj ((fx a b).mp q)
   rw [o.size]at this
   show a<=mask
   omega
  ·have sx:z∈List.zip (List.map (·.1) ((List.range (mask+1)).filterMap λj=>(owner.getD j none).map (j,·))) (List.map (λi=>hs.getD i 0) (List.map (·.2) ((List.range (mask+1)).filterMap λj=>(owner.getD j none).map (j,·)))):=hz
   rw [Ya0,List.zip_map',Yaf]at sx
   obtain⟨⟨a,b⟩,q,rfl⟩:=sx
   have qa:=(fx a b).mp q
   have hb:=o.lt a b qa
   obtain⟨n,e1,e2⟩:=o.path a b (hs.getD b 0) qa (by rw [Array.getElem?_toList,Ybb,Array.getElem?_eq_getElem hb];rfl)
   refine⟨n,e1,λm h9=>?_⟩
   obtain⟨y,ey⟩:=Option.isSome_iff_exists.mp (e2 m h9)
   exact Yaf.mpr ⟨(_,y),(fx _ y).mpr ey,rfl⟩
theorem B4{xs:Array Nat}(h:Df xs){j k:Nat}(e:xs[k]?=some j):SetTable.below xs j=k:=by
 obtain⟨hk,ej⟩:=Array.getElem?_eq_some_iff.mp e
 obtain⟨h1,h2,h3⟩:=Ea h j
 have gk:xs.getD k j=j:=by rw [Ybb,e];rfl
 rcases Nat.lt_trichotomy (SetTable.below xs j) k with c | c | c
 ·have:=h.lt (d:=j) c hk
  have:=h3 _ (Yad _) (by omega)
  omega
 ·exact c
 ·have:=h2 k c
  omega
theorem Lh{t:SetTable}{led:Bool}(h:TblOk t led){j:Nat}(hj:j∈t.place.toList):∃i,t.slot j=.live i/\t.place[i]?=some j:=by
 obtain⟨i,hi⟩:=List.getElem?_of_mem hj
 rw [Array.getElem?_toList]at hi
 refine⟨i,?_,hi⟩
 unfold SetTable.slot
 dsimp only
 rw [B4 h.rise hi,hi]
 simp
theorem Mz{t:SetTable}{led:Bool}(h:TblOk t led){j:Nat}(hj:j∉t.place.toList):t.slot j=.empty:=by
 unfold SetTable.slot
 dsimp only
 rw [h.dum,Im,Yaj]
 ·rfl
 ·intro c
  have c':t.place[SetTable.below t.place j]?=some j:=by simpa using c
  rw [<- Array.getElem?_toList]at c'
  exact hj (Ya1 c')
theorem Ix{α β:Type}(a:α)(b:β):∀(p:Nat) (xs:List α) (ys:List β),xs.length=ys.length->(xs.take p++a :: xs.drop p).zip (ys.take p++b :: ys.drop p)=(xs.zip ys).take p++(a,b) :: (xs.zip ys).drop p
 | 0,xs,ys,_=>by simp
 | p+1,[],[],_=>by simp
 | p+1,x :: xs,y :: ys,h=>by
  have:=Ix a b p xs ys (by simpa using h)
  simpa using this
 | _+1,[],_ :: _,h=>by simp at h
 | _+1,_ :: _,[],h=>by simp at h
theorem TabQ.put{t:SetTable}{led:Bool}{hs:List Int}{h:Int}{n:Nat}(q:TabQ t hs)(T:TblOk t led)(ho:∀m,m < n->sq t.mask h m∈t.place.toList):TabQ (t.put (sq t.mask h n)).1 (hs.take (SetTable.below t.place (sq t.mask h n))++h :: hs.drop (SetTable.below t.place (sq t.mask h n))):=by
 have hp:SetTable.below t.place (sq t.mask h n)<=t.place.size:=(Ea T.rise _).1
 have e:(t.put (sq t.mask h n)).1.place.toList=t.place.toList.take (SetTable.below t.place (sq t.mask h n))++sq t.mask h n :: t.place.toList.drop (SetTable.below t.place (sq t.mask h n)):=Er _ _ _ hp
 have hm:(t.put (sq t.mask h n)).1.mask=t.mask:=rfl
 have ah:=q.len
 have up:∀j,j∈t.place.toList->j∈(t.put (sq t.mask h n)).1.place.toList:=λj hj=>by
  rw [e]
  rw [<- Ycr (SetTable.below t.place (sq t.mask h n)) t.place.toList]at hj
  rcases Yaq.mp hj with hj | hj
  ·exact Yci _ hj
  ·exact Ya4 _ (Yav _ hj)
 have dn:∀j,j∈(t.put (sq t.mask h n)).1.place.toList->j=sq t.mask h n\/j∈t.place.toList:=λj hj=>by
  rw [e]at hj
  rcases Yaq.mp hj with hj | hj
  ·exact .inr (Yd4 hj)
  ·rcases Yap.mp hj with hj | hj
   ·exact .inl hj
   ·exact .inr (Yd5 hj)
 refine⟨q.msk,?_,λj hj=>?_,λz hz=>?_⟩
 ·rw [<- Yas,e]
  simp only [List.length_append,List.length_cons,List.length_take,List.length_drop,Array.length_toList]
  omega
 ·rcases dn j hj with rfl | hj
  ·exact Qh _ _ _
  ·exact q.le j hj
 ·rw [e,Ix _ _ _ _ _ (by rw [Yas];exact ah)]at hz
  rw [hm]
  have tp:z∈t.place.toList.zip hs->∃n',sq t.mask z.2 n'=z.1/\∀m,m < n'->sq t.mask z.2 m∈(t.put (sq t.mask h n)).1.place.toList:=λhz=>by
   obtain⟨n',a,b⟩:=q.path z hz
   exact⟨n',a,λm h9=>up _ (b m h9)⟩
  rcases Yaq.mp hz with hz | hz
  ·exact tp (Yd4 hz)
  ·rcases Yap.mp hz with rfl | hz
   ·exact⟨n,rfl,λm h9=>up _ (ho m h9)⟩
   ·exact tp (Yd5 hz)
theorem U1{t:SetTable}{led:Bool}{hs:List Int}(q:TabQ t hs)(T:TblOk t led)(hl:hs.length<=t.mask):∃x,x<=t.mask/\x∉t.place.toList:=by
 refine Ybp λz=>?_
 have:=Dj (ys:=t.place.toList) (Ye8 (n:=t.mask+1)) λx hx=>Ybp λy=>z ⟨x,by have:=Ya3.mp hx;omega,y⟩
 rw [Ycb,Yas,q.len]at this
 omega
theorem probe_ok{t:SetTable}{led:Bool}(T:TblOk t led){hashAt:Nat->Int}{h:Int}{e:Nat}(he:sq t.mask h e∉t.place.toList)(hb:∀m,m < e->sq t.mask h m∈t.place.toList):∀(f n:Nat),n<=e->e < n+f ->
  (SetTable.probe.go t hashAt h f (Ka t.mask h n)=some (.empty (sq t.mask h e) none)/\∀m i,n<=m->m < e->t.place[i]?=some (sq t.mask h m)->hashAt i≠h) \/
  ∃k i,n<=k/\k < e/\t.place[i]?=some (sq t.mask h k)/\hashAt i=h/\SetTable.probe.go t hashAt h f (Ka t.mask h n)=some (.candidate (sq t.mask h k) i (Ka t.mask h (k+1)))/\∀m i,n<=m->m < k->t.place[i]?=some (sq t.mask h m)->hashAt i≠h
 | 0,n,h1,h2=>by omega
 | f+1,n,h1,h2=>by
  rw [SetTable.probe.go]
  have uy:∀{i i' j:Nat},t.place[i]?=some j->t.place[i']?=some j->i=i':=λa b=>(B4 T.rise a).symm.trans (B4 T.rise b)
  rcases Ya5 h1 with rfl | h1
  ·rw [show t.slot (Ka t.mask h n).j=.empty from Mz T he]
   dsimp only
   rw [G4]
   exact .inl ⟨rfl,λm i a b=>by omega⟩
  ·obtain⟨i,hi,hp⟩:=Lh T (hb n h1)
   rw [show t.slot (Ka t.mask h n).j=.live i from hi]
   dsimp only
   by_cases c:hashAt i=h
   ·rw [Yao (by simpa using c)]
    exact .inr ⟨n,i,Yad _,h1,hp,c,rfl,λm i a b=>by omega⟩
   ·rw [Yaj (by simpa using c),X2]
    have zc:∀i',t.place[i']?=some (sq t.mask h n)->hashAt i'≠h:=λi' df=>by rw [uy df hp];exact c
    rcases probe_ok T he hb f (n+1) h1 (by omega) with⟨a,b⟩ | ⟨k,i',a1,a2,a3,a4,a5,a6⟩
    ·refine .inl ⟨a,λm i' m1 m2 m3=>?_⟩
     rcases Ya5 m1 with rfl | m1
     ·exact zc i' m3
     ·exact b m i' m1 m2 m3
    ·refine .inr ⟨k,i',by omega,a2,a3,a4,a5,λm ze m1 m2 m3=>?_⟩
     rcases Ya5 m1 with rfl | m1
     ·exact zc ze m3
     ·exact a6 m ze m1 m2 m3
end L2
namespace L2
open PySem
section
variable {prog:Program}{w:World}
theorem U3:∀(n q:Nat) (d:PyData) (u:Value) (as:List Addr) (A:Around) (E:Value->Shared->Prop) (s:Shared) (Q:Bool->Shared->Prop),d.depth<=n->n < q->Cano d=true->Reads s.heap u d as->Q false s->wpAny (model prog w) A (ofAClassStatement q u) Q E s:=by
 intro n
 induction n with
 | zero =>
  intro q d u as A E s Q hd hq hc hr h
  cases hr with
  | int i t=>unfold ofAClassStatement;exact Yac h
  | str x t=>unfold ofAClassStatement;exact Yac h
  | tuple a1 a2 a3 a4=>simp [PyData.depth]at hd
  | none=>simp [Cano]at hc
  | bool b=>simp [Cano]at hc
  | list a1 a2 a3 a4=>simp [Cano]at hc
  | dict a1 a2 a3 a4 a5=>simp [Cano]at hc
 | succ n ih =>
  intro q d u as A E s Q hd hq hc hr h
  cases hr with
  | int i t=>unfold ofAClassStatement;exact Yac h
  | str x t=>unfold ofAClassStatement;exact Yac h
  | none=>simp [Cano]at hc
  | bool b=>simp [Cano]at hc
  | list a1 a2 a3 a4=>simp [Cano]at hc
  | dict a1 a2 a3 a4 a5=>simp [Cano]at hc
  | @tuple a o items m ds as ho bm hdt hi =>
   have hT:s.TypeIs (.ref a) "tuple" := ⟨o,ho,bm⟩
   have gz:PyData.depthAll ds<=n:=by simp only [PyData.depth]at hd;omega
   have bo:Ak ds=true:=hc
   obtain⟨q',rfl⟩:∃q',q=q'+1:=⟨q - 1,by omega⟩
   unfold ofAClassStatement
   refine Yaa (Yeb hT ?_)
   dsimp only
   rw [Yao (by decide:("tuple" == "tuple")=true)]
   refine Yaa (Yac ?_)
   simp only [Bool.not_true,Bool.false_eq_true,if_false]
   refine Yaa (Yd6 ho hdt ?_)
   dsimp only
   refine Yaa (show wpAny _ _ (forIn items _ _) _ _ s from ?_)
   rw [<- Yeo]
   refine Ydp _ (λrest r s'=>r.1=none/\s'=s/\∃lf bs,ReadsAll s.heap rest lf bs/\Ak lf=true/\PyData.depthAll lf<=n) _ ?_ ?_ _ _ ⟨rfl,rfl,ds,as,hi,bo,gz⟩
   ·rintro v rest r s' ⟨hr,rfl,lf,bs,hl,bm,jg⟩
    cases hl with
    | @cons _ _ d ds' as1 bs1 h1 hl' =>
     simp only [Ak,Bool.and_eq_true]at bm
     simp only [PyData.depthAll]at jg
     refine Yaa (ih q' d v as1 A _ s' _ (by omega) (by omega) bm.1 h1 ?_)
     simp only [Bool.false_eq_true,if_false]
     exact Yac ⟨rfl,rfl,ds',bs1,hl',bm.2,by omega⟩
   ·rintro⟨r1,r2⟩ s' ⟨hr,rfl,_⟩
    simp only at hr
    subst hr
    exact Yac h
theorem Qb1:∀(n q:Nat) (d:PyData) (u:Value) (as:List Addr) (A:Around) (E:Value->Shared->Prop) (s:Shared) (Q:Bool->Shared->Prop),d.depth<=n->Cano d=true->Reads s.heap u d as->(∀b,Q b s)->wpAny (model prog w) A (hashByValue q u) Q E s:=by
 intro n
 induction n with
 | zero =>
  intro q d u as A E s Q hd hc hr h
  cases hr with
  | int i t=>unfold hashByValue;exact Yac (h _)
  | str x t=>unfold hashByValue;exact Yac (h _)
  | tuple a1 a2 a3 a4=>simp [PyData.depth]at hd
  | none=>simp [Cano]at hc
  | bool b=>simp [Cano]at hc
  | list a1 a2 a3 a4=>simp [Cano]at hc
  | dict a1 a2 a3 a4 a5=>simp [Cano]at hc
 | succ n ih =>
  intro q d u as A E s Q hd hc hr h
  cases hr with
  | int i t=>unfold hashByValue;exact Yac (h _)
  | str x t=>unfold hashByValue;exact Yac (h _)
  | none=>simp [Cano]at hc
  | bool b=>simp [Cano]at hc
  | list a1 a2 a3 a4=>simp [Cano]at hc
  | dict a1 a2 a3 a4 a5=>simp [Cano]at hc
  | @tuple a o items m ds as ho bm hdt hi =>
   have hT:s.TypeIs (.ref a) "tuple" := ⟨o,ho,bm⟩
   have gz:PyData.depthAll ds<=n:=by simp only [PyData.depth]at hd;omega
   have bo:Ak ds=true:=hc
   cases q with
   | zero=>unfold hashByValue;exact Yac (h _)
   | succ q' =>
    unfold hashByValue
    refine Yaa (Ycz hT F.slot_tuple_hash.lookup (show wpAny _ _ (seqItems? (.ref a) >>= _) _ _ s from ?_))
    refine Yaa (Yd6 ho hdt (Yaa (show wpAny _ _ (forIn items _ _) _ _ s from ?_)))
    rw [<- Yeo]
    refine Ydp _ (λrest r s'=>r.1=none/\s'=s/\∃lf bs,ReadsAll s.heap rest lf bs/\Ak lf=true/\PyData.depthAll lf<=n) _ ?_ ?_ _ _ ⟨rfl,rfl,ds,as,hi,bo,gz⟩
    ·rintro v rest r s' ⟨hr,rfl,lf,bs,hl,bm,jg⟩
     cases hl with
     | @cons _ _ d ds' as1 bs1 h1 hl' =>
      simp only [Ak,Bool.and_eq_true]at bm
      simp only [PyData.depthAll]at jg
      refine Yaa (ih q' d v as1 A _ s' _ (by omega) bm.1 h1 λb=>?_)
      cases b
      ·exact Yac (Yac (h _))
      ·exact Yac ⟨rfl,rfl,ds',bs1,hl',bm.2,by omega⟩
    ·rintro⟨r1,r2⟩ s' ⟨hr,rfl,_⟩
     simp only at hr
     subst hr
     exact Yac (h _)
def Bq(h:Heap)(d:PyData)(b:Addr):Prop:=KeyTree d/\∃as,Reads h (.ref b) d as
variable {A:Around}{E:Value->Shared->Prop}{s:Shared}
theorem X8{d:PyData}{b:Addr}(hx:Bq s.heap d b):∀{vs:List Value} {Q:Bool->Shared->Prop},(∀v∈vs,∃e c,v=.ref c/\Bq s.heap e c)->Q false s->wpAny (model prog w) A (searchCouldBeSeen (.ref b) vs) Q E s:=by
 intro vs Q hv h
 obtain⟨kx,as,rx⟩:=hx
 unfold searchCouldBeSeen
 refine Yaa (Ydp _ (λrest r s'=>r.1=none/\s'=s/\∀v∈rest,∃e c,v=.ref c/\Bq s.heap e c) _ ?_ ?_ _ _ ⟨rfl,rfl,hv⟩)
 ·rintro v rest ⟨r1,r2⟩ s' ⟨hr,rfl,hv'⟩
  obtain⟨e,c,rfl,ke,bs,re⟩:=hv' v (.head _)
  have kg:∀v∈rest,∃e c,v=.ref c/\Bq s'.heap e c:=λv h=>hv' v (.tail _ h)
  dsimp only
  split
  ·exact Yac ⟨rfl,rfl,kg⟩
  ·refine Yaa (Iv 6 8 _ _ as _ _ _ _ kx.dep (by decide) kx.can rx ?_)
   simp only [Bool.not_true,Bool.false_eq_true,if_false]
   refine Yaa (Iv 6 8 _ _ bs _ _ _ _ ke.dep (by decide) ke.can re ?_)
   simp only [Bool.not_true,Bool.false_eq_true,if_false]
   refine Yaa (U3 6 8 _ _ as _ _ _ _ kx.dep (by decide) kx.can rx ?_)
   simp only [Bool.false_eq_true,if_false]
   refine Yaa (U3 6 8 _ _ bs _ _ _ _ ke.dep (by decide) ke.can re ?_)
   simp only [Bool.false_eq_true,if_false]
   exact Yac ⟨rfl,rfl,kg⟩
 ·rintro⟨r1,r2⟩ s' ⟨hr,rfl,_⟩
  simp only at hr
  subst hr
  exact Yac h
def Jo(w:World)(x:PyData×Addr):Int×Value:=(Av w x.1,.ref x.2)
def Dx(w:World)(h:Heap)(a:Addr)(xs:List (PyData×Addr))(led:Bool):Prop :=
 ∃o es ep t,h.get? a=some o/\o.ExactSet/\o.data=.set es ep t/\es.toList=xs.map (Jo w)/\(∀x∈xs,Bq h x.1 x.2)/\t.fits es.size=true/\TblOk t led/\TabQ t (xs.map λx=>Av w x.1)/\xs.length * 5 < t.mask * 3
theorem Oj{t:SetTable}{f g:Nat->Int}{h:Int}{p:SetTable.Probe}(e:∀i,f i=g i):t.probe f h p=t.probe g h p:=by rw [funext e]
theorem X9{t:SetTable}{hs:List Int}(q:TabQ t hs):t.gaveWay=false:=by
 unfold SetTable.gaveWay
 rcases q.msk with h | h | h | h <;> rw [h] <;> decide
theorem R7{a:Addr}{o:Obj}{es:Array (Int×Value)}{ep:Nat}{t:SetTable}{xs:List (PyData×Addr)}{led:Bool}{d:PyData}{b:Addr}{Q:SetFound->Shared->Prop}{fr:Nat}(hu:A.units+6 < cLine)(ho:s.heap.get? a=some o)(hd:o.data=.set es ep t)(hl:es.toList=xs.map (Jo w))(hX:∀x∈xs,Bq s.heap x.1 x.2)(hf:t.fits es.size=true)(hT:TblOk t led)(hQ:TabQ t (xs.map λx=>Av w x.1))(hx:Bq s.heap d b)
  (he:sq t.mask (Av w d) fr∉t.place.toList) (hb:∀m,m < fr->sq t.mask (Av w d) m∈t.place.toList) (hfr:fr < 10 * SetTable.turns t.mask)
  (h1:d∈xs.map (·.1)->Q (.there none) s) (h2:d∉xs.map (·.1)->Q (.free (sq t.mask (Av w d) fr) false) s) :
  ∀(k n fuel:Nat) (ft:Option SetTable.Probe),n+k=fr->k < fuel->(ft=some (Ka t.mask (Av w d) n)\/ft=none/\n=0)->(∀(m i:Nat) (x:PyData×Addr),m < n->t.place[i]?=some (sq t.mask (Av w d) m)->xs[i]?=some x->x.1≠d) ->
   wpAny (model prog w) A (setSearchFrom a (.ref b) (Av w d) true fuel ft) Q E s:=by
 intro k
 induction k using Nat.strongRecOn with
 | _ k ih =>
 intro n fuel ft hn hfu be i4
 obtain⟨fuel,rfl⟩:∃f,fuel=f+1:=⟨fuel - 1,by omega⟩
 have w4:∀{i:Nat} {x:PyData×Addr},xs[i]?=some x->es[i]?=some (Jo w x):=λ{i x} h=>by
  rw [<- Array.getElem?_toList,hl,List.getElem?_map,h];rfl
 have hxi:∀{i j:Nat},t.place[i]?=some j->∃x,xs[i]?=some x:=λ{i j} h=>by
  have hi:=(Array.getElem?_eq_some_iff.mp h).1
  have:=hQ.len
  rw [Yab]at this
  exact⟨_,List.getElem?_eq_getElem (by omega)⟩
 unfold setSearchFrom
 refine Yaa (Ya8 ho hd hf ?_)
 dsimp only
 rw [X9 hQ,Yaj Yag]
 have xg:ft.getD (t.probeStart (Av w d))=Ka t.mask (Av w d) n:=by
  rcases be with rfl | ⟨rfl,rfl⟩
  ·rfl
  ·rfl
 rw [xg,Oj (g:=λi=>((xs.map λx=>Av w x.1)[i]?).getD 0) ?_]
 ·have key:=probe_ok (hashAt:=λi=>((xs.map λx=>Av w x.1)[i]?).getD 0) hT he hb (10 * SetTable.turns t.mask) n (by omega) (by omega)
  rcases key with⟨a1,a2⟩ | ⟨k',i,b1,b2,b3,b4,b5,b6⟩
  ·rw [show t.probe (λi=>((xs.map λx=>Av w x.1)[i]?).getD 0) (Av w d) (Ka t.mask (Av w d) n)=_ from a1]
   dsimp only
   refine Yac (h2 λcq=>?_)
   obtain⟨x,md,rfl⟩:=Yaf.mp cq
   obtain⟨i,hi⟩:=List.getElem?_of_mem md
   have hil:i < t.place.size:=by
    have:=hQ.len
    have:=(List.getElem?_eq_some_iff.mp hi).1
    rw [Yab]at *
    omega
   have mf:t.place[i]?=some t.place[i]:=Array.getElem?_eq_getElem hil
   obtain⟨n',e1,e2⟩:=hQ.path (t.place[i],Av w x.1) (Ya1 (i:=i) (by
    rw [List.getElem?_zip_eq_some]
    exact⟨by rw [Array.getElem?_toList];exact mf,by rw [List.getElem?_map,hi];rfl⟩))
   dsimp only at e1 e2
   have hlt:n' < fr:=by
    rcases Nat.lt_trichotomy n' fr with c | c | c
    ·exact c
    ·subst c
     rw [e1]at he
     exact absurd (by rw [<- Array.getElem?_toList]at mf;exact Ya1 mf) he
    ·exact absurd (e2 fr c) he
   rw [<- e1]at mf
   rcases Ybr n' n with c | c
   ·exact i4 n' i x c mf hi rfl
   ·exact a2 n' i c hlt mf (by rw [List.getElem?_map,hi];rfl)
  ·rw [show t.probe (λi=>((xs.map λx=>Av w x.1)[i]?).getD 0) (Av w d) (Ka t.mask (Av w d) n)=_ from b5]
   obtain⟨x,hi⟩:=hxi b3
   have md:=Ya1 hi
   dsimp only
   rw [w4 hi]
   dsimp only [Jo]
   split
   ·refine Yaa (X8 hx (λv hv=>?_) ?_)
    ·obtain⟨e,jm,rfl⟩:=Yaf.mp hv
     have hm:=(Array.mem_filter.mp (Array.mem_toList_iff.mp jm)).1
     rw [<- Array.mem_toList_iff,hl]at hm
     obtain⟨y,hy,rfl⟩:=Yaf.mp hm
     exact⟨y.1,y.2,rfl,hX y hy⟩
    rw [Yaj Yag]
    refine Yaa (Ybs ((Iw prog w).eqBool hu (hX x md) hx ?_))
    refine Yaa (Ya8 ho hd hf ?_)
    dsimp only
    by_cases ceq:x.1=d
    ·rw [Ybg ceq,Yao (by rfl)]
     exact Yac (h1 (Yaf.mpr ⟨x,md,ceq⟩))
    ·rw [Yba ceq,Yaj (by decide),show t.sameMemory t.moves t.mask=some true by unfold SetTable.sameMemory;rw [Yao (by simp)]]
     dsimp only
     obtain⟨i2,eh,fb⟩:=Lh hT (hb k' b2)
     have kd:i2=i:=(B4 hT.rise fb).symm.trans (B4 hT.rise b3)
     subst kd
     rw [Yao rfl,eh]
     dsimp only
     rw [w4 hi]
     dsimp only [Jo]
     refine Yaa (wpAny_isSame_ref_self (Yaa (Yac ?_)))
     show wpAny _ _ (if false=true then _ else setSearchFrom a (.ref b) (Av w d) true fuel (some (Ka t.mask (Av w d) (k'+1)))) _ _ _
     rw [Yaj Yag]
     refine ih (fr - (k'+1)) (by omega) (k'+1) fuel _ (by omega) (by omega) (.inl rfl) λm i3 y hm h3 h4=>?_
     rcases Ybr m n with c | c
     ·exact i4 m i3 y c h3 h4
     ·rcases Ybr m k' with c2 | c2
      ·intro e5
       refine b6 m i3 c c2 h3 ?_
       rw [List.getElem?_map,h4,<- e5];rfl
      ·have e6:m=k':=by omega
       subst e6
       have e7:i3=i2:=(B4 hT.rise h3).symm.trans (B4 hT.rise b3)
       subst e7
       rw [hi]at h4
       cases h4
       exact ceq
   ·refine Yaa (Ybs ((Iw prog w).eqBool hu (hX x md) hx ?_))
    refine Yaa (Ya8 ho hd hf ?_)
    dsimp only
    by_cases ceq:x.1=d
    ·rw [Ybg ceq,Yao (by rfl)]
     exact Yac (h1 (Yaf.mpr ⟨x,md,ceq⟩))
    ·rw [Yba ceq,Yaj (by decide),show t.sameMemory t.moves t.mask=some true by unfold SetTable.sameMemory;rw [Yao (by simp)]]
     dsimp only
     obtain⟨i2,eh,fb⟩:=Lh hT (hb k' b2)
     have kd:i2=i:=(B4 hT.rise fb).symm.trans (B4 hT.rise b3)
     subst kd
     rw [Yao rfl,eh]
     dsimp only
     rw [w4 hi]
     dsimp only [Jo]
     refine Yaa (wpAny_isSame_ref_self (Yaa (Yac ?_)))
     show wpAny _ _ (if false=true then _ else setSearchFrom a (.ref b) (Av w d) true fuel (some (Ka t.mask (Av w d) (k'+1)))) _ _ _
     rw [Yaj Yag]
     refine ih (fr - (k'+1)) (by omega) (k'+1) fuel _ (by omega) (by omega) (.inl rfl) λm i3 y hm h3 h4=>?_
     rcases Ybr m n with c | c
     ·exact i4 m i3 y c h3 h4
     ·rcases Ybr m k' with c2 | c2
      ·intro e5
       refine b6 m i3 c c2 h3 ?_
       rw [List.getElem?_map,h4,<- e5];rfl
      ·have e6:m=k':=by omega
       subst e6
       have e7:i3=i2:=(B4 hT.rise h3).symm.trans (B4 hT.rise b3)
       subst e7
       rw [hi]at h4
       cases h4
       exact ceq
 ·intro i
  show(es[i]?.map (·.1)).getD 0=_
  rw [<- Array.getElem?_toList,hl,List.getElem?_map,List.getElem?_map]
  cases xs[i]? <;> rfl
theorem Bq.but{h h':Heap}{p:Addr}{d:PyData}{b:Addr}(x:Bq h d b)(hk:∀c o,c≠p->h.get? c=some o->h'.get? c=some o)(hp:∀o vs n,h.get? p=some o->o.data≠.seq vs n):Bq h' d b:=let⟨k,as,r⟩:=x;⟨k,as,G2 hk hp r k.can⟩
theorem Iy{a:Addr}{led:Bool}{h:Heap}{o:Obj}{es:Array (Int×Value)}{ep:Nat}{t:SetTable}(ho:h.get? a=some o)(cv:o.ExactSet)(hd:o.data=.set es ep t){cw:Array (Int×Value)}{t':SetTable}{bf:List (PyData×Addr)}(hl:cw.toList=bf.map (Jo w))(hX:∀x∈bf,Bq h x.1 x.2)(hf:t'.fits cw.size=true)(hT:TblOk t' led)(hQ:TabQ t' (bf.map λx=>Av w x.1)) :
  (h.update a (Obj.putSet cw t')).get? a=some { o with data:=.set cw (ep+1) t' }/\(∀x∈bf,Bq (h.update a (Obj.putSet cw t')) x.1 x.2)/\(bf.length * 5 < t'.mask * 3->Dx w (h.update a (Obj.putSet cw t')) a bf led):=by
 have e:=Heap.get?_update_self (Obj.putSet cw t') ho (by rw [putSet_of cw t' hd];rfl)
 rw [putSet_of cw t' hd]at e
 have zj:∀x∈bf,Bq (h.update a (Obj.putSet cw t')) x.1 x.2:=λx hx=>(hX x hx).but (p:=a) (λc o hc e=>((Ybe h a (Obj.putSet cw t')).2 c hc).trans e) (λo' vs n e' q=>by rw [ho]at e';cases e';rw [hd]at q;cases q)
 exact⟨e,zj,λhB=>⟨_,cw,ep+1,t',e,cv,rfl,hl,zj,hf,hT,hQ,hB⟩⟩
theorem Iz{α:Type}:∀(ys pre:List α),(List.range' pre.length ys.length).filterMap (λi=>(pre++ys)[i]?)=ys
 | [],pre=>rfl
 | y :: ys,pre=>by
  have:=Iz ys (pre++[y])
  rw [Yal,Yca]at this
  rw [Ya9,List.range'_succ,Ydg,List.getElem?_append_right (Yad _),Yfn]
  show y :: _=_
  exact Ycg (y :: ·) this
theorem Ol{α:Type}{xs:List α}{l:List Nat}(hp:l.Perm (List.range xs.length)):(l.filterMap λi=>xs[i]?).Perm xs:=by
 have h1:=hp.filterMap λi=>xs[i]?
 have h2:=Iz xs []
 rw [List.nil_append,List.length_nil,<- List.range_eq_range']at h2
 rwa [h2]at h1
theorem Kd{xs:List (PyData×Addr)}{hs:Array Int}(hh:hs.toList=xs.map λx=>Av w x.1):∀(l:List Nat),(∀i∈l,i < xs.length)->(l.map λi=>hs.getD i 0)=(l.filterMap λi=>xs[i]?).map λx=>Av w x.1
 | [],_=>rfl
 | i :: l,hl=>by
  have hi:=hl i (.head _)
  have e:xs[i]?=some xs[i]:=List.getElem?_eq_getElem hi
  rw [Ya2,Ydg,e,Ya2,Kd hh l λj hj=>hl j (.tail _ hj)]
  rw [Ybb,<- Array.getElem?_toList,hh,List.getElem?_map,e];rfl
theorem U4{a:Addr}{led:Bool}{o:Obj}{es:Array (Int×Value)}{ep:Nat}{t:SetTable}{xs:List (PyData×Addr)}{cr:Nat}{Q:Unit->Shared->Prop}(ho:s.heap.get? a=some o)(cv:o.ExactSet)(hd:o.data=.set es ep t)(hl:es.toList=xs.map (Jo w))(hX:∀x∈xs,Bq s.heap x.1 x.2)(hf:t.fits es.size=true)(hT:TblOk t led)
  (hm:Msk (SetTable.sizeAbove cr - 1)) (hz:SetTable.sizeAbove cr<=sizeLine) (hn:xs.length * 5 < (SetTable.sizeAbove cr - 1) * 3)
  (h:∀h' bf,Heap.SameBut a s.heap h'->Dx w h' a bf led->bf.Perm xs->Q () { s with heap:=h' }):wpAny (model prog w) A (setRelay a cr) Q E s:=by
 have d7:es.size=xs.length:=by rw [<- Yas,hl,Yab]
 have hhs:(es.map (·.1)).toList=xs.map λx=>Av w x.1:=by rw [Array.toList_map,hl,Ya0];rfl
 obtain⟨t',au,e1,e2,e3,e4⟩:=X7 (f:=t.finger) (mv:=t.movedTo (SetTable.sizeAbove cr - 1)) (led:=t.led) (pl:=t.plain) hm (es.map (·.1)) (by rw [Ydt,d7];omega)
 rw [Ydt,d7]at e3
 have zn:TblOk t' led:=by have:=TblOk.laid e1;rw [hT.led]at this;exact this
 have hlt:∀i∈au.toList,i < xs.length:=λi hi=>Ya3.mp (e3.mem_iff.mp hi)
 rw [Kd hhs au.toList hlt]at e4
 have om:=Ol e3
 have j6:(au.filterMap λi=>es[i]?).toList=(au.toList.filterMap λi=>xs[i]?).map (Jo w):=by
  rw [Array.toList_filterMap,List.map_filterMap]
  congr 1
  funext i
  rw [<- Array.getElem?_toList,hl,List.getElem?_map]
 have jv:(au.filterMap λi=>es[i]?).size=es.size:=by rw [<- Yas,j6,Yab,om.length_eq,d7]
 unfold setRelay
 refine Yaa (Ya8 ho hd hf (show wpAny _ _ _ _ _ _ from ?_))
 dsimp only
 rw [Yaj (Nat.not_lt.mpr hz),show t.relaid (es.map (·.1)) cr=some (t',au) from e1]
 refine Yaa (show wpAny _ _ (if((au.filterMap λi=>es[i]?).size != es.size)=true then _ else pure (au.filterMap λi=>es[i]?,t')) _ _ _ from ?_)
 rw [Yaj (by rw [jv];simp)]
 refine Yac (show wpAny _ _ (storeSet a (au.filterMap λi=>es[i]?) t') _ _ _ from ?_)
 generalize (au.filterMap λi=>es[i]?)=mj at j6 jv
 generalize (au.toList.filterMap λi=>xs[i]?)=xs2 at j6 om e4
 have fy:=om.length_eq
 have tu:t'.fits mj.size=true:=by
  have:=e4.len
  rw [Yab]at this
  simp only [SetTable.fits,SetTable.fill,zn.dum,Bool.and_eq_true,beq_iff_eq,decide_eq_true_eq]
  rw [e2,jv]
  refine⟨by omega,?_⟩
  show t'.place.size+0<=_
  omega
 obtain⟨g1,g2,g3⟩:=Iy (led:=led) ho cv hd j6 (λx hx=>hX x (om.mem_iff.mp hx)) tu zn e4
 exact Yex ho hd (h _ _ (Ybe _ _ _) (g3 (by rw [e2];omega)) om) (by rw [jv,d7];have:sizeLine=16777216:=rfl;omega)
theorem TabQ.pln{t:SetTable}{hs:List Int}(q:TabQ t hs)(b:Bool):TabQ { t with plain:=b } hs:=⟨q.msk,q.len,q.le,q.path⟩
theorem U5{a:Addr}{led:Bool}{xs:List (PyData×Addr)}{d:PyData}{b:Addr}{Q:Bool->Shared->Prop}(hu:A.units+6 < cLine)(hx:Bq s.heap d b)(hS:Dx w s.heap a xs led)(hn:xs.length < 305)
  (h1:d∈xs.map (·.1)->Q false s) (h2:d∉xs.map (·.1)->∀h' bf,Heap.SameBut a s.heap h'->Dx w h' a bf led->bf.Perm ((d,b) :: xs)->Q true { s with heap:=h' }) :
  wpAny (model prog w) A (setAddHashed a (.ref b) (Av w d)) Q E s:=by
 obtain⟨o,es,ep,t,ho,cv,hd,hl,hX,hf,hT,hQ,hB⟩:=hS
 have d7:es.size=xs.length:=by rw [<- Yas,hl,Yab]
 have hpl:t.place.size=xs.length:=by have:=hQ.len;rwa [Yab]at this
 obtain⟨x0,hx1,jt⟩:=U1 hQ hT (by rw [Yab];omega)
 obtain⟨fr,f1,f2,f3⟩:=Oi hQ.msk (Av w d) (λj=>j∈t.place.toList) hx1 jt
 unfold setAddHashed setAddHashedIn
 refine Ybs (Yaa (Ya8 ho hd hf (show wpAny _ _ _ _ _ _ from ?_)))
 dsimp only
 rw [show byScan (.ref b) es=false from rfl,Yaj Yag]
 unfold setSearch
 refine Yaa (R7 hu ho hd hl hX hf hT hQ hx f2 f3 f1 (λcq=>?_) (λzr=>?_) fr 0 100000 none (by omega) ?_ (.inr ⟨rfl,rfl⟩) (λm i x hm=>absurd hm (Yem _)))
 ·exact Yac (h1 cq)
 ·dsimp only
  refine Yaa (Ya8 ho hd hf ?_)
  dsimp only
  have hp:SetTable.below t.place (sq t.mask (Av w d) fr)<=t.place.size:=(Ea hT.rise _).1
  have nl:=hQ.put (h:=Av w d) (n:=fr) hT f3
  have tf:=hT.put (Io hT (Mz hT f2))
  have e2:(t.put (sq t.mask (Av w d) fr)).2=SetTable.below t.place (sq t.mask (Av w d) fr):=rfl
  have e3:(t.put (sq t.mask (Av w d) fr)).1.mask=t.mask:=rfl
  rw [e2]
  have hsz:(t.put (sq t.mask (Av w d) fr)).1.place.size=xs.length+1:=by
   have:=nl.len
   rw [this]
   simp only [List.length_append,List.length_cons,List.length_take,List.length_drop,List.length_map]
   omega
  generalize hpp:SetTable.below t.place (sq t.mask (Av w d) fr)=p at hp nl ⊢
  generalize (t.put (sq t.mask (Av w d) fr)).1=t1 at nl tf e3 hsz ⊢
  have gc:(SetTable.insertAt es p (Av w d,.ref b)).toList=(xs.take p++(d,b) :: xs.drop p).map (Jo w):=by
   rw [Er _ _ _ (by omega),hl,Yaw,Ya2,Yep,List.map_drop];rfl
  have lp:TabQ t1 ((xs.take p++(d,b) :: xs.drop p).map λx=>Av w x.1):=by
   rw [Yaw,Ya2,Yep,List.map_drop];exact nl
  have fu:(xs.take p++(d,b) :: xs.drop p).Perm ((d,b) :: xs):=by
   refine List.perm_middle.trans ?_
   rw [Ycr]
  have ah:=fu.length_eq
  rw [Ya9]at ah
  have yo:∀x∈xs.take p++(d,b) :: xs.drop p,Bq s.heap x.1 x.2:=λx hx'=>by
   rcases Yap.mp (fu.mem_iff.mp hx') with rfl | hx'
   ·exact hx
   ·exact hX x hx'
  have vy:(SetTable.insertAt es p (Av w d,.ref b)).size=xs.length+1:=by rw [<- Yas,gc,Yab,ah]
  generalize SetTable.insertAt es p (Av w d,.ref b)=bw at gc vy ⊢
  generalize xs.take p++(d,b) :: xs.drop p=xs1 at gc lp fu ah yo
  clear hpp hp nl e2
  have hsl:sizeLine=16777216:=rfl
  have fin:∀t2:SetTable,t2.mask=t.mask->t2.place.size=xs.length+1->TblOk t2 led->TabQ t2 (xs1.map λx=>Av w x.1)->wpAny (model prog w) A (do
    storeSet a bw t2
    if(!false && t2.tooFull)=true then do
     setRelay a (SetTable.grown (es.size+1))
     pure true
    else pure true) Q E s:=λt2 g1 g2 g3 g4=>by
   have tu:t2.fits bw.size=true:=by
    simp only [SetTable.fits,SetTable.fill,g3.dum,Bool.and_eq_true,beq_iff_eq,decide_eq_true_eq]
    refine⟨by omega,?_⟩
    show t2.place.size+0<=_
    rcases hQ.msk with c | c | c | c <;> omega
   obtain⟨k1,k2,k3⟩:=Iy (led:=led) ho cv hd gc yo tu g3 g4
   have b1:=Ybe s.heap a (Obj.putSet bw t2)
   refine Yaa (Yex ho hd ?_ (by omega))
   have ki:t2.tooFull=decide ((xs.length+1) * 5>=t.mask * 3):=by
    unfold SetTable.tooFull SetTable.fill
    rw [g1,g2,g3.dum];rfl
   by_cases c:(xs.length+1) * 5>=t.mask * 3
   ·rw [Yao (by rw [ki,Ybg c];rfl)]
    have qw:(t.mask=7/\es.size+1=5)\/(t.mask=31/\es.size+1=19)\/(t.mask=127/\es.size+1=77):=by
     rcases hQ.msk with q | q | q | q
     ·exact .inl ⟨q,by omega⟩
     ·exact .inr (.inl ⟨q,by omega⟩)
     ·exact .inr (.inr ⟨q,by omega⟩)
     ·omega
    have hw:Msk (SetTable.sizeAbove (SetTable.grown (es.size+1)) - 1)/\SetTable.sizeAbove (SetTable.grown (es.size+1))<=sizeLine/\xs1.length * 5 < (SetTable.sizeAbove (SetTable.grown (es.size+1)) - 1) * 3:=by
     rcases qw with⟨_,q⟩ | ⟨_,q⟩ | ⟨_,q⟩
     ·rw [q,show SetTable.sizeAbove (SetTable.grown 5)=32 by decide +kernel]
      exact⟨.inr (.inl rfl),by omega,by omega⟩
     ·rw [q,show SetTable.sizeAbove (SetTable.grown 19)=128 by decide +kernel]
      exact⟨.inr (.inr (.inl rfl)),by omega,by omega⟩
     ·rw [q,show SetTable.sizeAbove (SetTable.grown 77)=512 by decide +kernel]
      exact⟨.inr (.inr (.inr rfl)),by omega,by omega⟩
    refine Yaa (U4 (s:={ s with heap:=s.heap.update a (Obj.putSet bw t2) }) (o:={ o with data:=.set bw (ep+1) t2 }) k1 cv rfl gc k2 tu g3 hw.1 hw.2.1 hw.2.2 λh' bf c1 c2 c3=>Yac ?_)
    exact h2 zr h' bf (b1.trans c1) c2 (c3.trans fu)
   ·rw [Yaj (by rw [ki,Yba c];decide)]
    exact Yac (h2 zr _ _ b1 (k3 (by rw [g1];omega)) fu)
  split
  ·obtain⟨kx,as,rx⟩:=hx
   refine Yaa (Qb1 6 8 _ _ as _ _ _ _ kx.dep kx.can rx λbv=>?_)
   cases bv
   ·exact fin _ e3 hsz (tf.plain false) (lp.pln false)
   ·exact fin _ e3 hsz tf lp
  ·exact Yaa (Yac (fin _ e3 hsz tf lp))
 ·have:SetTable.turns t.mask<=600:=by unfold SetTable.turns;rcases hQ.msk with c | c | c | c <;> omega
  omega
end
end L2
namespace L2
open PySem PySem.Spec PyProof.Rows
section
variable {prog:Program}{w:World}{A:Around}{R:Result->Shared->Prop}{sa it t:Addr}{led:Bool}
structure StepIt(prog:Program)(w:World)(it t:Addr)(items:Array Value)(St:Nat->Heap->Prop):Prop where
 item:∀{A:Around} {E:Value->Shared->Prop} {s:Shared} {i:Nat} {x:Value} {Q:Option Value->Shared->Prop},St i s.heap->items[i]?=some x->(∀h',St (i+1) h'->Heap.SameBut it s.heap h'->Q (some x) { s with heap:=h' })->wpAny (model prog w) A (pyNext (.ref it)) Q E s
 fin:∀{A:Around} {E:Value->Shared->Prop} {s:Shared} {i:Nat} {Q:Option Value->Shared->Prop},A.handled=none->St i s.heap->items[i]?=none->(∀h',Heap.ExtBut it s.heap h'->Q none { s with heap:=h' })->wpAny (model prog w) A (pyNext (.ref it)) Q E s
 keep:∀{i:Nat} {h h':Heap} {p:Addr},it≠p->t≠p->St i h->Heap.SameBut p h h'->St i h'
 noseq:∀{i:Nat} {h:Heap} {o:Obj} {vs:Array Value} {n:Nat},St i h->h.get? it=some o->o.data≠.seq vs n
theorem Ke{items:Array Value}(iw:t≠it):StepIt prog w it t items λi h=>h.IsListIter it t i/\h.IsList t items where
 item:=λst hx q=>wpAny_pyNext_list_item st.1 st.2 hx λh' s1 sb=>q h' ⟨s1,let⟨o,e,r⟩:=st.2;⟨o,(sb.2 t iw).trans e,r⟩⟩ sb
 fin:=λhh st hx q=>wpAny_pyNext_list_end hh st.1 st.2 hx q
 keep:=λh1 h2 st sb=>⟨st.1.at λo e=>(sb.2 it h1).trans e,let⟨o,e,r⟩:=st.2;⟨o,(sb.2 t h2).trans e,r⟩⟩
 noseq:=λst e q=>by
  obtain⟨⟨o,e',c,d⟩,_⟩:=st
  rw [e]at e';cases e'
  rw [d]at q;cases q
theorem Ja{items:Array Value}(iw:t≠it):StepIt prog w it t items λi h=>h.IsTupleIter it t i/\h.IsTuple t items where
 item:=λst hx q=>wpAny_pyNext_tuple_item st.1 st.2 hx λh' s1 sb=>q h' ⟨s1,st.2.at λo e=>(sb.2 t iw).trans e⟩ sb
 fin:=λhh st hx q=>wpAny_pyNext_tuple_end hh st.1 st.2 hx q
 keep:=λh1 h2 st sb=>⟨st.1.at λo e=>(sb.2 it h1).trans e,st.2.at λo e=>(sb.2 t h2).trans e⟩
 noseq:=λst e q=>by
  obtain⟨⟨o,e',c,d⟩,_⟩:=st
  rw [e]at e';cases e'
  rw [d]at q;cases q
theorem Dx.at{h h':Heap}{xs:List (PyData×Addr)}(x:Dx w h sa xs led)(hs:∀o,h.get? sa=some o->h'.get? sa=some o)(hX:∀x∈xs,Bq h x.1 x.2->Bq h' x.1 x.2):Dx w h' sa xs led:=by
 obtain⟨o,es,ep,tt,e,a1,a2,a3,a4,r⟩:=x
 exact⟨o,es,ep,tt,hs o e,a1,a2,a3,λx hx=>hX x hx (a4 x hx),r⟩
theorem Dx.noseq{h:Heap}{xs:List (PyData×Addr)}(x:Dx w h sa xs led){o:Obj}{vs:Array Value}{n:Nat}(e:h.get? sa=some o):o.data≠.seq vs n:=λq=>by
 obtain⟨o',es,ep,tt,e',_,a2,_⟩:=x
 rw [e]at e';cases e'
 rw [a2]at q;cases q
theorem Kf{St:Nat->Heap->Prop}{items:Array Value}(S:StepIt prog w it t items St)(hh:A.handled=none)(hu:A.units+20 < cLine)(am:sa≠it)(be:sa≠t){ks:List (PyData×Addr)}(fq:items.toList=ks.map λx=>.ref x.2)(hsz:items.size < 304) :
  ∀(m i:Nat) (s:Shared) (xs:List (PyData×Addr)),m+i=items.size->St i s.heap->Dx w s.heap sa xs led->(∀x∈ks,Bq s.heap x.1 x.2)->(xs.map (·.1)).Nodup->(∀d,d∈xs.map (·.1)↔d∈(ks.take i).map (·.1))->(∀x∈xs,x∈ks)->xs.length<=i ->
   (∀h' tk bf,(∀b o,b≠sa->b≠it->s.heap.get? b=some o->h'.get? b=some o)->Dx w h' sa bf led->(bf.map (·.1)).Nodup->(∀d,d∈bf.map (·.1)↔d∈ks.map (·.1))->(∀x∈bf,x∈ks)->bf.length<=items.size->R (.ok (.ret .none)) { s with heap:=h',toks:=tk }) ->
   codeAny (model prog w) A (.builtin "set.update.loop" ⟨[.ref sa,.ref it],[]⟩) R s:=by
 have ga:ks.length=items.size:=by rw [<- Yas,fq,Yab]
 intro m
 induction m with
 | zero =>
  intro i s xs hm hI hS hX hN hd cq hl q
  refine Yc0 F0 ?_
  rw [Yck C0 _]
  refine(show wpAny _ A.in1 (pyNext (.ref it) >>= _) _ _ s from Yaa (S.fin (show A.in1.handled=none from hh) hI (by rw [Array.getElem?_eq_none (by omega)]) λh' hx=>?_))
  refine Yac (q h' s.toks xs (λb o h1 h2 e=>hx b o h2 e) ?_ hN (λd=>?_) cq (by omega))
  ·exact hS.at (λo e=>hx sa o am e) λx _ tr=>tr.but (p:=it) (λc o hc e=>hx c o hc e) λo vs n e=>S.noseq hI e
  ·rw [hd d,Yc2 (by omega)]
 | succ m ih =>
  intro i s xs hm hI hS hX hN hd cq hl q
  have hi:i < items.size:=by omega
  have wo:i < ks.length:=by omega
  have hx:items[i]?=some (.ref ks[i].2):=by
   rw [<- Array.getElem?_toList,fq,List.getElem?_map,List.getElem?_eq_getElem wo];rfl
  have c9:∀d,d∈(ks.take (i+1)).map (·.1)↔d=ks[i].1\/d∈(ks.take i).map (·.1):=λd=>by
   rw [Ybi,List.getElem?_eq_getElem wo,Yaw,Yaq]
   simp only [Option.toList_some,List.map_cons,List.map_nil,List.mem_singleton]
   exact Or.comm
  have u7:=Yb3 wo
  generalize ks[i]=kx at hx c9 u7
  obtain⟨d0,b0⟩:=kx
  refine Yc0 F0 ?_
  rw [Yck C0 _]
  refine(show wpAny _ A.in1 (pyNext (.ref it) >>= _) _ _ s from Yaa (S.item hI hx λh1 nz kf=>?_))
  have sj:∀{d:PyData} {b:Addr},Bq s.heap d b->Bq h1 d b:=λtr=>tr.but (p:=it) (λc o hc e=>(kf.2 c hc).trans e) λo vs n e=>S.noseq hI e
  have me:Dx w h1 sa xs led:=hS.at (λo e=>(kf.2 sa am).trans e) λx _ tr=>sj tr
  have yy:Bq h1 d0 b0:=sj (hX _ u7)
  refine(show wpAny _ A.in1 (holding [.ref b0] (setAdd sa (.ref b0)) >>= _) _ _ _ from Yaa (Ybs ?_))
  unfold setAdd
  have yt:A.in1.units+6 < cLine:=by show A.units+1+6 < cLine;omega
  refine Ybs (Yaa ((Iw prog w).pyHash (s:={ s with heap:=h1 }) yt yy ?_))
  refine U5 (s:={ s with heap:=h1,toks:=s.toks+G1 d0 }) yt yy me (by omega) (λcv=>?_) (λgg h2 bf mq xu hp=>?_)
  ·refine Yac ⟨Ydi C0 _,ih (i+1) _ xs (by omega) nz me (λx hx'=>sj (hX x hx')) hN (λd=>?_) cq (by omega) λh' tk lm dw a1 a2 a3 a4 a5=>?_⟩
   ·rw [c9 d,<- hd d]
    exact⟨.inr,λh=>h.elim (λe=>by rw [e];exact cv) id⟩
   ·exact q h' tk lm (λb o b1 b2 e=>dw b o b1 b2 ((kf.2 b b2).trans e)) a1 a2 a3 a4 a5
  ·have ah:bf.length=xs.length+1:=hp.length_eq
   have tr2:∀{d:PyData} {b:Addr},Bq h1 d b->Bq h2 d b:=λtr=>tr.but (p:=sa) (λc o hc e=>(mq.2 c hc).trans e) λo vs n e=>me.noseq e
   have ig:=hp.map (·.1)
   refine Yac ⟨Ydi C0 _,ih (i+1) _ bf (by omega) (S.keep am.symm be.symm nz mq) xu (λx hx'=>tr2 (sj (hX x hx'))) (ig.nodup_iff.mpr (Yb5.mpr ⟨gg,hN⟩)) (λd=>?_) (λx hx'=>?_) (by omega) λh' tk lm dw a1 a2 a3 a4 a5=>?_⟩
   ·rw [ig.mem_iff,c9 d,<- hd d]
    exact Yap
   ·rcases Yap.mp (hp.mem_iff.mp hx') with rfl | hx'
    ·exact u7
    ·exact cq x hx'
   ·exact q h' tk lm (λb o b1 b2 e=>dw b o b1 b2 ((mq.2 b b1).trans ((kf.2 b b2).trans e))) a1 a2 a3 a4 a5
theorem Hf:isSubtype (.type "list") (.type "set")=pure false:=by rw [Yds];kernel_rfl
theorem Hg:isSubtype (.type "list") (.type "frozenset")=pure false:=by rw [Yds];kernel_rfl
theorem Gd{h:Heap}:Dx w (h.push (A9 w)) h.objs.size [] (Dh w) :=
 ⟨_,#[],0,_,Heap.get?_push_size _ rfl,⟨rfl,rfl,rfl⟩,rfl,rfl,(λ_ z=>nomatch z),rfl,TblOk.fresh _,⟨.inl rfl,rfl,(λ_ z=>nomatch z),(λ_ z=>nomatch z)⟩,(show 0 * 5 < 7 * 3 by decide)⟩
theorem M3{E:Value->Shared->Prop}{s:Shared}{id:String}{items:Array Value}{ks:List (PyData×Addr)}{Q:Unit->Shared->Prop}(hh:A.handled=none)(hu:A.units+20 < cLine)(ht:s.heap.IsList t items)(fq:items.toList=ks.map λx=>.ref x.2)(hX:∀x∈ks,Bq s.heap x.1 x.2)(hsz:items.size < 304)
  (hS:Dx w s.heap sa [] led) (be:sa≠t)
  (h:∀h' tk bf,(∀b o,b≠sa->s.heap.get? b=some o->h'.get? b=some o)->Dx w h' sa bf led->(bf.map (·.1)).Nodup->(∀d,d∈bf.map (·.1)↔d∈ks.map (·.1))->(∀x∈bf,x∈ks)->bf.length<=items.size->Q () { s with heap:=h',toks:=tk }) :
  wpAny (model prog w) A (Builtin.Frozenset.updateFrom id sa (.ref t)) Q E s:=by
 have T:s.TypeIs (.ref t) "list" := ht.typeIs
 have k1:=Hf
 have k2:=Hg
 have k3:(Value.type "list" == Value.type "dict")=false:=by decide
 unfold Builtin.Frozenset.updateFrom
 generalize lh:pyIter=PI
 wp_walk
 subst lh
 refine Yd1 ht (show wpAny _ _ _ _ _ _ from Yaa (Ye0 ?_))
 have ls:t < s.heap.objs.size:=by obtain⟨o,e,_⟩:=ht;exact Yae e
 have kr:sa < s.heap.objs.size:=by obtain⟨o,_,_,_,e,_⟩:=hS;exact Yae e
 have up:∀{d:PyData} {b:Addr},Bq s.heap d b->Bq (s.heap.push { cls:=.type "list_iterator",data:=.fields #[.ref t,.int 0 0] }) d b:=λ⟨k,as,r⟩=>⟨k,as,Ydc (λb o e=>Heap.get?_push_of_some _ e) r⟩
 refine Kf (led:=led) (Ke (items:=items) (Yai ls)) hh hu (Yai kr) be fq hsz items.size 0 _ [] (by omega) ⟨⟨_,Heap.get?_push_size _ rfl,rfl,rfl⟩,let⟨o,e,r⟩:=ht;⟨o,Heap.get?_push_of_some _ e,r⟩⟩ (hS.at (λo e=>Heap.get?_push_of_some _ e) λ_ _ tr=>up tr) (λx hx=>up (hX x hx)) Ydr (λd=>by simp) (λ_ z=>nomatch z) (Yaz _) λh' tk bf a1 a2 a3 a4 a5 a6=>?_
 exact Yac (h h' tk bf (λb o n e=>a1 b o n (Yai (Yae e)) (Heap.get?_push_of_some _ e)) a2 a3 a4 a5 a6)
theorem Kg{E:Value->Shared->Prop}{s:Shared}{id:String}{items:Array Value}{ks:List (PyData×Addr)}{Q:Unit->Shared->Prop}(hh:A.handled=none)(hu:A.units+20 < cLine)(ht:s.heap.IsTuple t items)(fq:items.toList=ks.map λx=>.ref x.2)(hX:∀x∈ks,Bq s.heap x.1 x.2)(hsz:items.size < 304)
  (hS:Dx w s.heap sa [] led) (be:sa≠t)
  (h:∀h' tk bf,(∀b o,b≠sa->s.heap.get? b=some o->h'.get? b=some o)->Dx w h' sa bf led->(bf.map (·.1)).Nodup->(∀d,d∈bf.map (·.1)↔d∈ks.map (·.1))->(∀x∈bf,x∈ks)->bf.length<=items.size->Q () { s with heap:=h',toks:=tk }) :
  wpAny (model prog w) A (Builtin.Frozenset.updateFrom id sa (.ref t)) Q E s:=by
 have T:s.TypeIs (.ref t) "tuple" := ht.typeIs
 have k1:=Hc
 have k2:=Hd
 have k3:(Value.type "tuple" == Value.type "dict")=false:=by decide
 unfold Builtin.Frozenset.updateFrom
 generalize lh:pyIter=PI
 wp_walk
 subst lh
 refine wpAny_pyIter_tuple ht (show wpAny _ _ _ _ _ _ from Yaa (Ye0 ?_))
 have ls:t < s.heap.objs.size:=by obtain⟨o,e,_⟩:=ht;exact Yae e
 have kr:sa < s.heap.objs.size:=by obtain⟨o,_,_,_,e,_⟩:=hS;exact Yae e
 have up:∀{u:Obj} {d:PyData} {b:Addr},Bq s.heap d b->Bq (s.heap.push u) d b:=λ⟨k,as,r⟩=>⟨k,as,Ydc (λb o e=>Heap.get?_push_of_some _ e) r⟩
 refine Kf (led:=led) (Ja (items:=items) (Yai ls)) hh hu (Yai kr) be fq hsz items.size 0 _ [] (by omega) ⟨⟨_,Heap.get?_push_size _ rfl,rfl,rfl⟩,ht.push _⟩ (hS.at (λo e=>Heap.get?_push_of_some _ e) λ_ _ tr=>up tr) (λx hx=>up (hX x hx)) Ydr (λd=>by simp) (λ_ z=>nomatch z) (Yaz _) λh' tk bf a1 a2 a3 a4 a5 a6=>?_
 exact Yac (h h' tk bf (λb o n e=>a1 b o n (Yai (Yae e)) (Heap.get?_push_of_some _ e)) a2 a3 a4 a5 a6)
theorem Bq.keeps{h h':Heap}{d:PyData}{b:Addr}(x:Bq h d b)(hk:∀b o,h.get? b=some o->h'.get? b=some o):Bq h' d b:=let⟨k,as,r⟩:=x;⟨k,as,Ydc hk r⟩
theorem Ge{α β:Type}{f:α->β}{l m:List β}(h:l.Perm m):∀xs:List α,m=xs.map f->∃ys:List α,l=ys.map f/\ys.Perm xs:=by
 induction h with
 | nil =>
  intro xs e
  have:xs=[]:=by simpa using e.symm
  subst this
  exact⟨[],rfl,.nil⟩
 | cons a h ih =>
  intro xs e
  cases xs with
  | nil=>cases e
  | cons x xs =>
   injection e with e1 e2
   obtain⟨ys,rfl,p⟩:=ih xs e2
   exact⟨x :: ys,by rw [e1];rfl,p.cons x⟩
 | swap a b l =>
  intro xs e
  match xs,e with
  | x :: y :: xs,e =>
   injection e with e1 e2
   injection e2 with e2 e3
   exact⟨y :: x :: xs,by rw [e1,e2,e3];rfl,.swap x y xs⟩
 | trans h1 h2 ih1 ih2 =>
  intro xs e
  obtain⟨ys,e1,p1⟩:=ih2 xs e
  obtain⟨zs,e2,p2⟩:=ih1 ys e1
  exact⟨zs,e2,p2.trans p1⟩
theorem Ex{h:Heap}:∀{zs:List (PyData×Addr)},(∀x∈zs,Bq h x.1 x.2)->∃as,ReadsAll h (zs.map λx=>.ref x.2) (zs.map (·.1)) as
 | [],_=>⟨_,.nil⟩
 | z :: zs,hx=>by
  obtain⟨as,r⟩:=Ex λx hx'=>hx x (.tail _ hx')
  obtain⟨_,bs,r1⟩:=hx z (.head _)
  exact⟨_,.cons r1 r⟩
theorem M4{E:Value->Shared->Prop}{s:Shared}{a:Addr}{xs:List (PyData×Addr)}{Q:Value->Shared->Prop}(hh:A.handled=none)(hu:A.units+100 < cLine)(hS:Dx w s.heap a xs (Dh w))(hok:∀ys:List (PyData×Addr),ys.Perm xs->SortOk (ys.map (·.1)))
  (h:∀(h':Heap) (d':Drawn) (tk p c:Nat) (zs:List (PyData×Addr)),(∀b o,s.heap.get? b=some o->h'.get? b=some o)->s.heap.objs.size<=p->h'.get? p=some (seqObj "list" (zs.map λx=>Value.ref x.2).toArray c)->zs.Perm xs->(zs.map (·.1)).Pairwise (λa b=>D8 a b=true)->Q (.ref p) { s with heap:=h',drawn:=d',toks:=tk }) :
  wpAny (model prog w) A (call (.builtin "sorted") [.ref a]) Q E s:=by
 obtain⟨o,es,ep,t,ho,cv,hd,hl,hX,hf,hT,hQ,hB⟩:=hS
 have d7:es.size=xs.length:=by rw [<- Yas,hl,Yab]
 have ln:xs.length < 1000:=by have:=(hok xs (.refl _)).len;rwa [Yab]at this
 refine Ev (Eu (show A.in1.handled=none from hh) ⟨o,ho,cv.1,hd,hf⟩ hT (by omega) λh1 d1 t1 ord k1 z1 hp=>?_)
 rw [hl,Ya0]at hp
 obtain⟨ys,rfl,py⟩:=Ge hp xs (f:=λx=>Value.ref x.2) rfl
 have ok:=hok ys py
 have v8:ys.length < 1000:=by rw [py.length_eq];exact ln
 have l1:(ys.map λx=>Value.ref x.2).length=(ys.map (·.1)).length:=by rw [Yab,Yab]
 have v7:∀x∈ys,Bq h1 x.1 x.2:=λx hx=>(hX x (py.mem_iff.mp hx)).keeps k1
 refine⟨Zj (ys.map (·.1)),by rw [Yab];exact v8,by rw [l1];exact ok.ord,λh2 h' kp=>?_,λp h' l c pm up p6 kp e=>?_⟩
 ·obtain⟨bs,gq⟩:=Ex (h:=h') λx hx=>(v7 x hx).keeps kp
  obtain⟨fs,kt,kl,kz⟩:=Ik gq (ok.fst (by rw [<- l1];exact h2))
  refine⟨tuples' true,λQ q=>?_,λi j C hi hj q=>?_⟩
  ·refine Yfa (T:=.type "int") kt (by omega) (λv hv=>?_) rfl q
   obtain⟨i,t,rfl⟩:=kz v hv
   exact PySem.W.Looks.of_pure rfl
  ·rw [l1]at hi hj
   obtain⟨b1,q1⟩:=Lg gq hi
   obtain⟨b2,q2⟩:=Lg gq hj
   have m1:=Az (d:=PyData.none) hi
   have m2:=Az (d:=PyData.none) hj
   obtain⟨x1,r1,e1⟩:=ok.fst (by rw [<- l1];exact h2) _ m1
   obtain⟨x2,r2,e2⟩:=ok.fst (by rw [<- l1];exact h2) _ m2
   have c1:=Bs ok.can _ m1
   have c2:=Bs ok.can _ m2
   have d1:=Yak (D9 _ m1) ok.dp
   have cm:=ok.cmp _ m1 _ m2
   have q':C (D8 ((ys.map (·.1)).getD i .none) ((ys.map (·.1)).getD j .none)) _:=q
   rw [e1]at q1 c1 d1 cm q'
   rw [e2]at q2 c2 cm q'
   unfold PySem.W.kas_ask
   generalize (ys.map λx=>Value.ref x.2).getD i Value.none=u1 at q1 ⊢
   generalize (ys.map λx=>Value.ref x.2).getD j Value.none=u2 at q2 ⊢
   cases q1 with
   | tuple a1 a2 a3 a4 =>
    cases q2 with
    | tuple b1 b2 b3 b4 =>
     exact Uk (.tuple a1 a2 a3 a4) (.tuple b1 b2 b3 b4) c1 c2 cm (by show A.units+1+1+64 < _;omega) d1 q'
 ·have dh:∀i∈p.toList,i < ys.length:=λi hi=>by
   have:=pm.perm.mem_iff.mp hi
   rw [Yab]at this
   exact Ya3.mp this
  have ev:(p.toList.map λi=>(ys.map λx=>Value.ref x.2).getD i Value.none)=(p.toList.map λi=>ys.getD i (.none,0)).map λx=>Value.ref x.2:=by
   rw [Ya0]
   refine Ych λi hi=>?_
   have:=dh i hi
   simp [List.getD_eq_getElem?_getD,this]
  rw [ev]at e
  have e2:(p.toList.map λi=>ys.getD i (.none,0)).Perm ys:=by
   have e1:p.toList.Perm (List.range ys.length):=by have:=pm.perm;rwa [Yab]at this
   have e2:=e1.map λi=>ys.getD i (PyData.none,0)
   rwa [B3]at e2
  refine h h' d1 t1 l c _ (λb o q=>kp b o (k1 b o q)) (Yak z1 p6) e (e2.trans py) ?_
  rw [Ya0,Ybm]
  refine Ybo.mpr λi j hi hj cj=>?_
  have hj':j < (ys.map λx=>Value.ref x.2).length:=by rw [<- pm.size];simpa using hj
  have:=up i j cj hj'
  have gi:p.getD i 0=p.toList[i]:=by simp [Array.getD,show i < p.size by simpa using hi]
  have gj:p.getD j 0=p.toList[j]:=by simp [Array.getD,show j < p.size by simpa using hj]
  rw [gi,gj]at this
  have a1:=dh _ (Yb3 hi)
  have a2:=dh _ (Yb3 hj)
  unfold Zj at this
  simp only [List.getD_eq_getElem?_getD,List.getElem?_map,List.getElem?_eq_getElem a1,List.getElem?_eq_getElem a2]at this
  simp only [Function.comp,List.getD_eq_getElem?_getD,List.getElem?_eq_getElem a1,List.getElem?_eq_getElem a2]
  exact this
end
section
variable {X:Cx}{aa:List (Addr×Obj)}{σ:St}{H:Hp}{s:Shared}{k:Nat}
structure TOk(ds:List PyData):Prop where
 len:ds.length < 300
 key:∀d∈ds,KeyTree d
 fst:∀d∈ds,∃i r,d=.tuple (.int i :: r)
 cmp:∀d∈ds,∀e∈ds,cmpb d e=true
theorem Li:∀{ds:List PyData},(∀d∈ds,KeyTree d)->PyData.canLayAll0 ds=true/\PyData.depthAll ds<=6/\Ak ds=true
 | [],_=>⟨rfl,Yaz _,rfl⟩
 | d :: ds,h=>by
  obtain⟨a,b,c⟩:=Li λe he=>h e (.tail _ he)
  have k:=h d (.head _)
  refine⟨?_,?_,?_⟩
  ·simp only [PyData.canLayAll0,k.lay,a];rfl
  ·simp only [PyData.depthAll];have:=k.dep;omega
  ·simp only [Ak,k.can,c];rfl
theorem TOk.sort{ds es:List PyData}(h:TOk ds)(hs:∀d∈es,d∈ds)(hn:es.Nodup):SortOk es:=by
 obtain⟨a,b,c⟩:=Li λd hd=>h.key d (hs d hd)
 have:=Dj hn hs
 have:=h.len
 exact⟨by omega,a,by omega,c,hn,λ_ d hd=>h.fst d (hs d hd),λd hd e he=>h.cmp d (hs d hd) e (hs e he)⟩
theorem U6(I:Inv X aa σ H s):∀(ds:List PyData) (ws:List V) (ae:List Value),Ai X.K H ds ws->Vals ws ae->(∀d∈ds,KeyTree d)->(∀d∈ds,∃i r,d=.tuple (.int i :: r))->∃ks:List (PyData×Addr),ks.map (·.1)=ds/\ae=ks.map (λx=>.ref x.2)/\∀x∈ks,Bq s.heap x.1 x.2/\Dk X.K H x.1 (.ref x.2)
 | [],ws,ae,h,r,_,_=>by
  have e:=h.nil
  subst e
  cases r
  exact⟨[],rfl,rfl,λ_ z=>nomatch z⟩
 | d :: ds,ws,ae,h,r,hk,hf=>by
  obtain⟨x,fw,rfl,h1,h2⟩:=Ai.cons (K:=X.K) (H:=H) h
  cases r with
  | @cons _ _ u us r1 r2 =>
   obtain⟨ks,e1,e2,e3⟩:=U6 I ds fw us h2 r2 (λd hd=>hk d (.tail _ hd)) (λd hd=>hf d (.tail _ hd))
   obtain⟨i,tl,rfl⟩:=hf d (.head _)
   obtain⟨a,xs,rfl,ha,hd⟩:=Dk.tup (K:=X.K) (H:=H) h1
   cases r1
   refine⟨(.tuple (.int i :: tl),a) :: ks,by rw [Ya2,e1],by rw [Ya2,<- e2],λy hy=>?_⟩
   rcases Yap.mp hy with rfl | hy
   ·exact⟨⟨hk _ (.head _),Dk.reads I _ _ _ h1 rfl⟩,h1⟩
   ·exact e3 y hy
theorem Om{K:PySem.W.Frag}:∀{zs:List (PyData×Addr)},(∀x∈zs,Dk K H x.1 (.ref x.2))->Ai K H (zs.map (·.1)) (zs.map λx=>.ref x.2)
 | [],_=>Dp
 | z :: zs,h=>Db (h z (.head _)) (Om λx hx=>h x (.tail _ hx))
theorem Lj:∀(zs:List (PyData×Addr)),Vals (zs.map λx=>V.ref x.2) (zs.map λx=>Value.ref x.2)
 | []=>.nil
 | z :: zs=>.cons rfl (Lj zs)
def Qe7(te:AE):AE:=fun τ μ R=>te τ μ λx μ1=>opt (items μ1 x) λys=>opt (dats ys) λds=>TOk ds/\∀(es:List PyData) (p:Addr),es.Nodup->(∀d,d∈es↔d∈ds)->es.Pairwise (λa b=>D8 a b=true)->μ1 p=none->R (.R p) (Aj μ1 p (.lst (es.map .D)))
theorem Qk{e:Expr}{te:AE}{p p2 pos bh:Pos}(hr:Room k X.A)(hg:Gl X "sorted") (hm:X.mg "sorted" = none) (jx:Gl X "set") (dz:X.mg "set" = none) (he:VE X e te)
  (hs:starEach [.Call (.Name "set" p2) [e] [] bh] X.env=[(false,eval (.Call (.Name "set" p2) [e] [] bh) X.env)]:=by rfl) (eh:starEach [e] X.env=[(false,eval e X.env)]:=by rfl) :
  VE X (.Call (.Name "sorted" p) [.Call (.Name "set" p2) [e] [] bh] [] pos) (Qe7 te):=by
 intro aa s σ H Q I zz129
 refine Bu zz129 fun τ μ R be hcn h hq=>?_
 refine Ybz (Da I hg hm boot_sorted (Ycq ?_ hs rfl))
 rw [hs]
 refine Ybk (Ybz (Da I jx dz boot_set (Ybv ?_ eh rfl)))
 rw [eh]
 refine Ybk (Yb1 (he.run I be hcn h) (λu s1 fm=>Z1 fm λx v μ1 H1 I1 rv S1 c1 rx h1=>Ybj ?_) λ_ _ e=>e)
 obtain⟨ys,ey,h1⟩:=Aw h1
 obtain⟨ds,ed,ok,h1⟩:=Aw h1
 obtain⟨p0,ws,rfl,hk,rs⟩:=B0 c1 rx ey
 cases rv
 have dk:=rs.dats ed
 have hd:X.A.handled=none:=hr.hd
 have hun:=hr.un
 have l2:=dk.length
 have ah:=ok.len
 have fin:∀(ks:List (PyData×Addr)),ks.map (·.1)=ds->(∀x∈ks,Bq s1.heap x.1 x.2/\Dk X.K H1 x.1 (.ref x.2))->∀(h1:Heap) (tk:Nat) (xs:List (PyData×Addr)),(∀b o,s1.heap.get? b=some o->h1.get? b=some o)->Dx X.w h1 s1.heap.objs.size xs (Dh X.w)->(xs.map (·.1)).Nodup->(∀d,d∈xs.map (·.1)↔d∈ks.map (·.1))->(∀x∈xs,x∈ks) ->
   wpAny (model X.prog X.w) X.A (call (.builtin "sorted") [.ref s1.heap.objs.size]) (EP X aa σ Q) X.xe { s1 with heap:=h1,toks:=tk }:=λks e1 fq h2 tk xs k1 S2 N2 M2 cq=>by
  rw [e1]at M2
  refine M4 (s:={ s1 with heap:=h2,toks:=tk }) hd (by omega) S2 (λys py=>ok.sort (λd hd=>(M2 d).mp ((py.map (·.1)).mem_iff.mp hd)) ((py.map (·.1)).nodup_iff.mpr N2)) λh3 d3 t3 q c zs k2 hp e3 pz ge=>?_
  have lS:s1.heap.objs.size < h2.objs.size:=by obtain⟨o,_,_,_,e,_⟩:=S2;exact Yae e
  have az:s1.heap.objs.size<=q:=Yak (Ybq lS) hp
  have jj:zs.length < 1000:=by
   have:=(ok.sort (es:=zs.map (·.1)) (λd hd=>(M2 d).mp ((pz.map (·.1)).mem_iff.mp hd)) ((pz.map (·.1)).nodup_iff.mpr N2)).len
   rwa [Yab]at this
  have hz:(zs.map λx=>V.ref x.2).length<=sizeLine:=by rw [Yab];exact Yak (Ybq jj) (by decide)
  have hn:=I1.hok.fresh az
  refine⟨.ref q,_,(Inv.drw I1 d3).laid (t':=t3) (λb o e=>k2 b o (k1 b o e)) az (show Bl X.prog X.w _ h3 _ (.lst (zs.map λx=>V.ref x.2)) from⟨hz,_,c,Lj zs,e3⟩),rfl,?_⟩
  refine hq _ _ _ _ (S1.trans (Kp.new hn _)) (c1.new hn (Bx ?_)) Co (h1 (zs.map (·.1)) q ((pz.map (·.1)).nodup_iff.mpr N2) (λd=>((pz.map (·.1)).mem_iff).trans (M2 d)) ge (c1.none hn))
  exact(Om λx hx=>(fq x (cq x (pz.mem_iff.mp hx))).2).rel
 refine Fg (s:=s1) ?_
 rcases hk with⟨_,hk⟩ | ⟨_,hk⟩
 ·obtain⟨ae,r',pl,hz⟩:=I1.list hk
  obtain⟨ks,e1,e2,e3⟩:=U6 I1 ds ws ae dk r' ok.key ok.fst
  have la:p0 < s1.heap.objs.size:=by obtain⟨o,e,_⟩:=pl.isList;exact Yae e
  have hsz:ae.toArray.size < 304:=by have:=r'.length;simp only [List.size_toArray];omega
  refine M3 (s:={ s1 with heap:=s1.heap.push (A9 X.w) }) (show X.A.in1.in1.handled=none from hd) (show X.A.units+1+1+20 < cLine by omega) (let⟨o,e,r⟩:=pl.isList;⟨o,Heap.get?_push_of_some _ e,r⟩) (ks:=ks) (by simpa using e2) (λx hx=>(e3 x hx).1.keeps λb o e=>Heap.get?_push_of_some _ e) hsz Gd (Yc3 (Yai la)) λh2 tk xs k1 S2 N2 M2 cq L2=>Ybj ?_
  exact fin ks e1 e3 h2 tk xs (λb o e=>k1 b o (Yai (Yae e)) (Heap.get?_push_of_some _ e)) S2 N2 M2 cq
 ·obtain⟨ae,r',pl,hz⟩:=I1.tuple hk
  obtain⟨ks,e1,e2,e3⟩:=U6 I1 ds ws ae dk r' ok.key ok.fst
  have la:p0 < s1.heap.objs.size:=by obtain⟨o,e,_⟩:=pl;exact Yae e
  have hsz:ae.toArray.size < 304:=by have:=r'.length;simp only [List.size_toArray];omega
  refine Kg (s:={ s1 with heap:=s1.heap.push (A9 X.w) }) (show X.A.in1.in1.handled=none from hd) (show X.A.units+1+1+20 < cLine by omega) (Heap.IsTuple.push pl _) (ks:=ks) (by simpa using e2) (λx hx=>(e3 x hx).1.keeps λb o e=>Heap.get?_push_of_some _ e) hsz Gd (Yc3 (Yai la)) λh2 tk xs k1 S2 N2 M2 cq L2=>Ybj ?_
  exact fin ks e1 e3 h2 tk xs (λb o e=>k1 b o (Yai (Yae e)) (Heap.get?_push_of_some _ e)) S2 N2 M2 cq
end
section
variable {X:Cx}{tg:Expr}
end
section
variable {prog:Program}{w:World}{A:Around}{E:Value->Shared->Prop}
end
section
variable {X:Cx}{pos:Pos}
end
section
variable {prog:Program}{w:World}{Kt:Type} [DecidableEq Kt]{knd:KeyKind prog w Kt}{A:Around}{R:Result->Shared->Prop}{sa it t:Addr}{led:Bool}
theorem Kh{St:Nat->Heap->Prop}{items:Array Value}(S:StepIt prog w it t items St)(hh:A.handled=none)(am:sa≠it)(be:sa≠t){ks:List Kt}(fq:ItemsAre knd ks items.toList)(qq:∀v∈items.toList,v.scannable=true)(hsz:items.size < 1000) :
  ∀(m i:Nat) (s:Shared) (l:List (Int×Value)) (dn:List Kt),m+i=items.size->St i s.heap->Dg knd s.heap sa l led->Unlike knd l->Keys knd l dn->l.length<=i->(∀k,k∈dn↔k∈ks.take i) ->
   (∀h' tk l',(∀b o,b≠sa->b≠it->s.heap.get? b=some o->h'.get? b=some o)->Dg knd h' sa l' led->Unlike knd l'->Keys knd l' ks->l'.length<=items.size->R (.ok (.ret .none)) { s with heap:=h',toks:=tk }) ->
   codeAny (model prog w) A (.builtin "set.update.loop" ⟨[.ref sa,.ref it],[]⟩) R s:=by
 intro m
 induction m with
 | zero =>
  intro i s l dn hm hI hS hU hK hl sn q
  refine Yc0 F0 ?_
  rw [Yck C0 _]
  refine(show wpAny _ A.in1 (pyNext (.ref it) >>= _) _ _ s from Yaa (S.fin (show A.in1.handled=none from hh) hI (by rw [Array.getElem?_eq_none (by omega)]) λh' hx=>?_))
  refine Yac (q h' s.toks l (λb o h1 h2 e=>hx b o h2 e) ?_ hU ?_ (by omega))
  ·obtain⟨o,es,ep,tt,e,r⟩:=hS
   exact⟨o,es,ep,tt,hx sa o am e,r⟩
  ·intro k
   rw [hK k,sn k,Yc2]
   have:=fq.length
   simp at this;omega
 | succ m ih =>
  intro i s l dn hm hI hS hU hK hl sn q
  have hi:i < items.size:=by omega
  have hx:items[i]?=some items[i]:=Array.getElem?_eq_getElem hi
  obtain⟨k,ek,hk⟩:=Mr (i:=i) (x:=items[i]) fq (by rw [Array.getElem?_toList];exact hx)
  have hsx:=qq items[i] (by simp)
  have c9:∀k',k'∈ks.take (i+1)↔k'∈ks.take i\/k'=k:=λk'=>by
   rw [Ybi,ek,Yaq];simp
  refine Yc0 F0 ?_
  rw [Yck C0 _]
  refine(show wpAny _ A.in1 (pyNext (.ref it) >>= _) _ _ s from Yaa (S.item hI hx λh1 nz kf=>?_))
  have me:Dg knd h1 sa l led:=by
   obtain⟨o,es,ep,tt,e,r⟩:=hS
   exact⟨o,es,ep,tt,(kf.2 sa am).trans e,r⟩
  refine(show wpAny _ A.in1 (holding [items[i]] (setAdd sa items[i]) >>= _) _ _ _ from Yaa (Ybs ?_))
  unfold setAdd
  refine Ybs (Yaa (knd.pyHash hk ?_))
  refine Xw hk hsx (s:={ s with heap:=h1,toks:=s.toks+1 }) me (by have:scanBound=4096:=rfl;omega) (λcv=>?_) (λgg h2 l' mq xu hp=>?_)
  ·refine Yac ⟨Ydi C0 _,ih (i+1) _ l dn (by omega) nz me hU hK (by omega) (λk'=>?_) λh' tk l' dw a1 a2 a3 a4=>?_⟩
   ·rw [c9 k',<- sn k']
    refine⟨.inl,λh=>h.elim id λe=>?_⟩
    rw [e];exact(hK k).mp cv
   ·exact q h' tk l' (λb o b1 b2 e=>dw b o b1 b2 ((kf.2 b b2).trans e)) a1 a2 a3 a4
  ·have ah:l'.length=l.length+1:=by rw [hp.length_eq,Yal];rfl
   refine Yac ⟨Ydi C0 _,ih (i+1) _ l' (dn++[k]) (by omega) (S.keep am.symm be.symm nz mq) xu ((hU.add hk gg).perm hp) (λk'=>?_) (by omega) (λk'=>?_) λh' tk l'' dw a1 a2 a3 a4=>?_⟩
   ·rw [Yaq,<- hK k']
    constructor
    ·rintro⟨e,he,hek⟩
     rcases Yaq.mp (hp.mem_iff.mp he) with he | he
     ·exact .inl ⟨e,he,hek⟩
     ·have e1:e=(knd.hash k,items[i]):=by simpa using he
      subst e1
      exact .inr (Yan.mpr (knd.inj _ k' k hek hk))
    ·rintro(⟨e,he,hek⟩ | he)
     ·exact⟨e,hp.mem_iff.mpr (Yci _ he),hek⟩
     ·have e1:k'=k:=by simpa using he
      subst e1
      exact⟨(knd.hash k',items[i]),hp.mem_iff.mpr (Ya4 _ (Yan.mpr rfl)),hk⟩
   ·rw [c9 k',<- sn k',Yaq,Yan]
   ·exact q h' tk l'' (λb o b1 b2 e=>dw b o b1 b2 ((mq.2 b b1).trans ((kf.2 b b2).trans e))) a1 a2 a3 a4
variable {E:Value->Shared->Prop}{s:Shared}
theorem On{id:String}{items:Array Value}{ks:List Kt}{Q:Unit->Shared->Prop}(hh:A.handled=none)(ht:s.heap.IsTuple t items)(fq:ItemsAre knd ks items.toList)(qq:∀v∈items.toList,v.scannable=true)(hsz:items.size < 1000)
  (hS:Dg knd s.heap sa [] led) (be:sa≠t)
  (h:∀h' tk l',(∀b o,b≠sa->s.heap.get? b=some o->h'.get? b=some o)->Dg knd h' sa l' led->Unlike knd l'->Keys knd l' ks->l'.length<=items.size->Q () { s with heap:=h',toks:=tk }) :
  wpAny (model prog w) A (Builtin.Frozenset.updateFrom id sa (.ref t)) Q E s:=by
 have T:s.TypeIs (.ref t) "tuple" := ht.typeIs
 have k1:=Hc
 have k2:=Hd
 have k3:(Value.type "tuple" == Value.type "dict")=false:=by decide
 unfold Builtin.Frozenset.updateFrom
 generalize lh:pyIter=PI
 wp_walk
 subst lh
 refine wpAny_pyIter_tuple ht (show wpAny _ _ _ _ _ _ from Yaa (Ye0 ?_))
 have ls:t < s.heap.objs.size:=by obtain⟨o,e,_⟩:=ht;exact Yae e
 have kr:sa < s.heap.objs.size:=by obtain⟨o,_,_,_,e,_⟩:=hS;exact Yae e
 refine Kh (led:=led) (Ja (items:=items) (Yai ls)) hh (Yai kr) be fq qq hsz items.size 0 _ [] [] (by omega) ⟨⟨_,Heap.get?_push_size _ rfl,rfl,rfl⟩,ht.push _⟩ ?_ List.Pairwise.nil J7 (Yaz _) (λk=>by simp) λh' tk l' a1 a2 a3 a4 a5=>?_
 ·obtain⟨o,es,ep,tt,e,r⟩:=hS
  exact⟨o,es,ep,tt,Heap.get?_push_of_some _ e,r⟩
 ·exact Yac (h h' tk l' (λb o n e=>a1 b o n (Yai (Yae e)) (Heap.get?_push_of_some _ e)) a2 a3 a4 a5)
theorem R8{id:String}{items:Array Value}{ks:List Kt}{Q:Unit->Shared->Prop}(hh:A.handled=none)(ht:s.heap.IsList t items)(fq:ItemsAre knd ks items.toList)(qq:∀v∈items.toList,v.scannable=true)(hsz:items.size < 1000)
  (hS:Dg knd s.heap sa [] led) (be:sa≠t)
  (h:∀h' tk l',(∀b o,b≠sa->s.heap.get? b=some o->h'.get? b=some o)->Dg knd h' sa l' led->Unlike knd l'->Keys knd l' ks->l'.length<=items.size->Q () { s with heap:=h',toks:=tk }) :
  wpAny (model prog w) A (Builtin.Frozenset.updateFrom id sa (.ref t)) Q E s:=by
 have T:s.TypeIs (.ref t) "list" := ht.typeIs
 have k1:=Hf
 have k2:=Hg
 have k3:(Value.type "list" == Value.type "dict")=false:=by decide
 unfold Builtin.Frozenset.updateFrom
 generalize lh:pyIter=PI
 wp_walk
 subst lh
 refine Yd1 ht (show wpAny _ _ _ _ _ _ from Yaa (Ye0 ?_))
 have ls:t < s.heap.objs.size:=by obtain⟨o,e,_⟩:=ht;exact Yae e
 have kr:sa < s.heap.objs.size:=by obtain⟨o,_,_,_,e,_⟩:=hS;exact Yae e
 refine Kh (led:=led) (Ke (items:=items) (Yai ls)) hh (Yai kr) be fq qq hsz items.size 0 _ [] [] (by omega) ⟨⟨_,Heap.get?_push_size _ rfl,rfl,rfl⟩,let⟨o,e,r⟩:=ht;⟨o,Heap.get?_push_of_some _ e,r⟩⟩ ?_ List.Pairwise.nil J7 (Yaz _) (λk=>by simp) λh' tk l' a1 a2 a3 a4 a5=>?_
 ·obtain⟨o,es,ep,tt,e,r⟩:=hS
  exact⟨o,es,ep,tt,Heap.get?_push_of_some _ e,r⟩
 ·exact Yac (h h' tk l' (λb o n e=>a1 b o n (Yai (Yae e)) (Heap.get?_push_of_some _ e)) a2 a3 a4 a5)
end
section
variable {X:Cx}{aa:List (Addr×Obj)}{σ:St}{H:Hp}{s:Shared}{k:Nat}
end
theorem Hh{K:PySem.W.Frag}{H:Hp}:∀{ns:List Int} {ws:List V},Ao K H (ns.map λn=>AV.D (.int n)) ws->ws=ns.map V.int
 | [],_,h=>by cases h;rfl
 | n :: ns,_,h=>by
  cases h with
  | cons r1 r2 =>
   cases RelA.int r1
   rw [Hh r2];rfl
def Qe8(te:AE):AE:=fun τ μ R=>te τ μ λx μ1=>opt (items μ1 x) λus=>∃ns:List Int,us=(ns.map λn=>AV.D (.int n))/\ns.length < 60/\∀(l:Addr) (ms:List Int),μ1 l=none->ms.Pairwise (· < ·)->(∀n,n∈ms↔n∈ns)->R (.R l) (Aj μ1 l (.lst (ms.map λn=>.D (.int n))))
section
variable {X:Cx}{k:Nat}
theorem Ya{e:Expr}{te:AE}{p p2 pos bh:Pos}(hr:Room k X.A)(hg:Gl X "sorted") (hm:X.mg "sorted" = none) (jx:Gl X "set") (dz:X.mg "set" = none) (he:VE X e te)
  (hs:starEach [.Call (.Name "set" p2) [e] [] bh] X.env=[(false,eval (.Call (.Name "set" p2) [e] [] bh) X.env)]:=by rfl) (eh:starEach [e] X.env=[(false,eval e X.env)]:=by rfl) :
  VE X (.Call (.Name "sorted" p) [.Call (.Name "set" p2) [e] [] bh] [] pos) (Qe8 te):=by
 intro aa s σ H Q I zz129
 refine Bu zz129 fun τ μ R be hcn h hq=>?_
 refine Ybz (Da I hg hm boot_sorted (Ycq ?_ hs rfl))
 rw [hs]
 refine Ybk (Ybz (Da I jx dz boot_set (Ybv ?_ eh rfl)))
 rw [eh]
 refine Ybk (Yb1 (he.run I be hcn h) (λu s1 fm=>Z1 fm λx v μ1 H1 I1 rv S1 c1 rx h1=>Ybj ?_) λ_ _ e=>e)
 obtain⟨us,ey,h1⟩:=Aw h1
 obtain⟨ns,rfl,hl,h1⟩:=h1
 obtain⟨p0,ws,rfl,hk,rs⟩:=B0 c1 rx ey
 cases rv
 have ew:=Hh rs
 subst ew
 have hd:X.A.handled=none:=hr.hd
 have fin:∀(h2:Heap) (tk:Nat) (l:List (Int×Value)),(∀b o,s1.heap.get? b=some o->h2.get? b=some o)->Dg (Ap X.prog X.w) h2 s1.heap.objs.size l (Dh X.w)->Unlike (Ap X.prog X.w) l->Keys (Ap X.prog X.w) l (ns.map Sum.inl)->l.length < 64 ->
   wpAny (model X.prog X.w) X.A (call (.builtin "sorted") [.ref s1.heap.objs.size]) (EP X aa σ Q) X.xe { s1 with heap:=h2,toks:=tk }:=λh2 tk l k1 S2 U2 K2 L2=>by
  refine Og (s:={ s1 with heap:=h2,toks:=tk }) hd S2 U2 K2 L2 λh3 d3 t3 q c vs k2 hp e3 hi hr' h8 ah=>?_
  have lS:s1.heap.objs.size < h2.objs.size:=by obtain⟨o,_,_,_,e,_⟩:=S2;exact Yae e
  have az:s1.heap.objs.size<=q:=Yak (Ybq lS) hp
  have hz:((vs.map Bo).map V.int).length<=sizeLine:=by simp;exact Yak (Ybq ah) (by decide)
  have hn:=I1.hok.fresh az
  refine⟨.ref q,_,(Inv.drw I1 d3).laid (t':=t3) (λb o e=>k2 b o (k1 b o e)) az (show Bl X.prog X.w _ h3 _ (.lst ((vs.map Bo).map V.int)) from⟨hz,vs,c,Mw hi,e3⟩),rfl,?_⟩
  exact hq _ _ _ _ (S1.trans (Kp.new hn _)) (c1.new hn (Bx (Qe _))) Co (h1 q (vs.map Bo) (c1.none hn) hr' h8)
 refine Fg (s:=s1) ?_
 rcases hk with⟨_,hk⟩ | ⟨_,hk⟩
 ·obtain⟨ae,r',pl,hz⟩:=I1.list hk
  obtain⟨i1,i2⟩:=G0 (P:=X.prog) (w:=X.w) r'
  have ah:=r'.length
  have hsz:ae.toArray.size < 60:=by simp at ah ⊢;omega
  have la:p0 < s1.heap.objs.size:=by obtain⟨o,e,_⟩:=pl.isList;exact Yae e
  refine R8 (s:={ s1 with heap:=s1.heap.push (A9 X.w) }) (show X.A.in1.in1.handled=none from hd) (let⟨o,e,r⟩:=pl.isList;⟨o,Heap.get?_push_of_some _ e,r⟩) (by simpa using i1) (by simpa using i2) (by omega) Ip (Yc3 (Yai la)) λh2 tk l k1 S2 U2 K2 L2=>Ybj ?_
  exact fin h2 tk l (λb o e=>k1 b o (Yai (Yae e)) (Heap.get?_push_of_some _ e)) S2 U2 K2 (by omega)
 ·obtain⟨ae,r',pl,hz⟩:=I1.tuple hk
  obtain⟨i1,i2⟩:=G0 (P:=X.prog) (w:=X.w) r'
  have ah:=r'.length
  have hsz:ae.toArray.size < 60:=by simp at ah ⊢;omega
  have la:p0 < s1.heap.objs.size:=by obtain⟨o,e,_⟩:=pl;exact Yae e
  refine On (s:={ s1 with heap:=s1.heap.push (A9 X.w) }) (show X.A.in1.in1.handled=none from hd) (Heap.IsTuple.push pl _) (by simpa using i1) (by simpa using i2) (by omega) Ip (Yc3 (Yai la)) λh2 tk l k1 S2 U2 K2 L2=>Ybj ?_
  exact fin h2 tk l (λb o e=>k1 b o (Yai (Yae e)) (Heap.get?_push_of_some _ e)) S2 U2 K2 (by omega)
end
end L2
namespace L2
open PySem PySem.Spec PySem.Calls PyProof.Rows
section
variable {prog:Program}{w:World}{A:Around}{E:Value->Shared->Prop}{s:Shared}{K:PySem.W.Frag}{env:Env}
end
section
variable {M:Model}{A A1:Around}{E E1:Value->Shared->Prop}{s:Shared}{base:Heap}{env:Env}{outer:List Env}{L e:Addr}{cls:Value}{d:Option Addr}{vs:Array Value}
end
section
variable {X:Cx}{y:Str}{p pos bt:Pos}{C:Addr}{EX:AX}
end
section
variable {P:Program}{w:World}{K:PySem.W.Frag}{mg:Str->Option Value}{base:Heap}
end
def Zn:AC:=λxs μ R=>match xs with
 | [x]=>opt (see μ x) λd=>OkD d/\R (.D (.str d.shown)) μ
 | _=>False
section
variable {X:Cx}{k:Nat}
theorem U7(hr:Room k X.A):VCall X (.builtin "repr") Zn:=by
 intro aa s σ H xs us Q I r zz114
 refine Bu zz114 λas μ R ra hc h hq=>?_
 unfold Zn at h
 split at h
 ·cases ra with
  | cons r1 r2 =>
   cases r2
   obtain⟨u,rfl,ru⟩:=E6 r
   obtain⟨d,ed,ok,h⟩:=Aw h
   obtain⟨bs,rd⟩:=Gr I hc r1 ru ed
   have hsz:d.shown.length<=sizeLine:=Yak (PyProof.Rows.shown_le13 ok.lay ok.sh) (by decide)
   have hn:d.hasDict=false:=PyData.hasDict_of_layable ok.lay
   have hu:=hr.un
   have hdp:=ok.depth
   have fin:∀(h':Heap) (t:Tok) (tk:Nat),(∀b o,s.heap.get? b=some o->h'.get? b=some o)->EP X aa σ Q (.str d.shown t) { s with heap:=h',toks:=tk }:=λh' t tk hk =>
    ⟨.str d.shown,H,I.kept hk,⟨_,rfl⟩,hq _ _ _ _ Kp.refl hc Ib h⟩
   cases rd with
   | none=>exact P.repr_of_none (by simpa only [PyData.shown] using fin s.heap s.toks (s.toks+1) λ_ _ e=>e)
   | bool b=>exact P.repr_of_bool (by simpa only [PyData.shown] using fin s.heap s.toks (s.toks+1) λ_ _ e=>e)
   | int i t =>
    have hs:decide (i.natAbs.log2 < 1920)=true:=by simpa only [PyData.showable] using ok.sw
    exact P.repr_of_int (Yay hs) (by simpa only [PyData.shown] using fin s.heap s.toks (s.toks+1) λ_ _ e=>e)
   | str z t=>exact P.repr_of_str (by simpa only [PyData.shown] using fin s.heap s.toks (s.toks+1) λ_ _ e=>e) (by simpa only [PyData.shown] using hsz)
   | list h1 h2 h3 h4=>exact repr_of_reads' (.list h1 h2 h3 h4) ok.sw (PyData.noDict_hsm hn) hr.gd (by omega) (λ_ _ e=>e) (λh' u tk hk=>fin h' u tk hk) hsz
   | tuple h1 h2 h3 h4=>exact repr_of_reads' (.tuple h1 h2 h3 h4) ok.sw (PyData.noDict_hsm hn) hr.gd (by omega) (λ_ _ e=>e) (λh' u tk hk=>fin h' u tk hk) hsz
   | dict h1 h2 h3 h4 h5=>simp [PyData.hasDict]at hn
 ·exact h.elim
end
section
variable {X:Cx}{x:Str}{p pos:Pos}{e:Expr}{es:List Expr}{t:AA}{k:Nat}{ps:List Str}{sp:ASp}
end
section
variable {X:Cx}{k:Nat}
def Qh9:A2:=λx y μ R=>match x,y with
 | .D (.str i),.D (.str j)=>R (.D (.bool (!decide (i=j)))) μ
 | _,_=>False
theorem Qe9:VOp X (compareOp .NotEq) Qh9:=by
 intro aa s σ H x y v u Q I rx ry zq
 refine Ei zq λa b μ R ra rb hc h hq=>?_
 cases a with
 | D d =>
  cases d with
  | str i =>
   cases b with
   | D e =>
    cases e with
    | str j =>
     cases RelA.str ra
     cases RelA.str rb
     obtain⟨t,rfl⟩:=rx
     obtain⟨t',rfl⟩:=ry
     exact ne_str (Qau I (hq _ _ _ _ Kp.refl hc Ts h) (by rw [Yfj];simp))
    | _=>exact False.elim h
   | _=>exact False.elim h
  | _=>exact False.elim h
 | _=>exact False.elim h
def Qia(xs:List AV)(n:Nat):List AV:=(List.replicate n xs).flatten
def Qiw:A2:=λx y μ R=>match x,y with
 | .R a,.D (.int n)=>opt (μ a) λm=>match m with
  | .lst xs=>(0<=n/\n<=1000/\xs.length<=1000)/\∀p,μ p=none->R (.R p) (Aj μ p (.lst (Qia xs n.toNat)))
  | _=>False
 | _,_=>False
def Fh:List AV->Option (List Int)
 | []=>some []
 | .D (.int i) :: xs=>(Fh xs).map (i :: ·)
 | _=>none
theorem Jb{K:PySem.W.Frag}{H:Hp}:∀{xs:List AV} {ns:List Int} {vs:List V},Fh xs=some ns->Ao K H xs vs->vs=ns.map V.int
 | [],_,_,e,.nil=>by cases e;rfl
 | x :: xs,ns,_,e,.cons r1 r2=>by
  cases x with
  | D d =>
   cases d with
   | int i =>
    obtain⟨ms,em,rfl⟩:=Yah.mp (show(Fh xs).map (i :: ·)=some ns from e)
    rw [Jb em r2,RelA.int r1];rfl
   | _=>cases e
  | _=>cases e
end
end L2
namespace L2
open PySem PySem.Spec PySem.Calls PyProof.Rows PySem.W
section
variable {prog:Program}{w:World}{A:Around}{E:Value->Shared->Prop}{s:Shared}
end
end L2
namespace L2
open PySem PySem.Spec PySem.Calls PyProof.Rows
section
variable {X:Cx}{k:Nat}
end
end L2
namespace L2
open PySem PySem.Spec PySem.Calls PyProof.Rows PySem.W
section
variable {prog:Program}{w:World}{A:Around}{E:Value->Shared->Prop}{s:Shared}{R:Result->Shared->Prop}
variable {I:Addr}{fp wr:List Addr}{G:Array GenState->Array GenState->Prop}{n:Nat}{P:Nat->Value->Prop}{St:Nat->Shared->Prop}
end
section
variable {X:Cx}
end
end L2
namespace L2
open PySem
section
variable {prog:Program}{w:World}{A:Around}{E:Value->Shared->Prop}{s:Shared}
end
end L2
namespace L2
open PySem PySem.Spec PySem.Calls PyProof.Rows
section
variable {X:Cx}{k:Nat}
end
section
variable {X:Cx}{k:Nat}
end
section
variable {X:Cx}{k:Nat}
end
def kyD:Key->PyData
 | .inl i=>.int i
 | .inr z=>.str z
theorem Qfa{K:PySem.W.Frag}{H:Hp}(k:Key):Dk K H (kyD k) (kV k):=by
 cases k with
 | inl i=>exact C3
 | inr z=>exact Nu
section
variable {X:Cx}{k:Nat}
end
section
variable {X:Cx}
end
section
variable {X:Cx}{k:Nat}
abbrev Qib:A2:=aI0 λi j=>.int (Builtin.bitOr i j)
abbrev Qfb:A2:=aI0 λi j=>.int (Builtin.bitAnd i j)
abbrev Qic:A2:=aI CPow λi j=>.int (i * 2 ^ j.toNat)
abbrev Qid:A2:=aI (λ_ j=>0<=j) λi j=>.int (i / 2 ^ j.toNat)
theorem Zo:VOp X (binaryOp .BitOr) Qib:=Tz Qdu λ_ _ _=>C3
theorem U8:VOp X (binaryOp .BitAnd) Qfb:=Tz Qat λ_ _ _=>C3
theorem Qfc:VOp X (binaryOp .LShift) Qic:=o_I Qar λ_ _ _=>C3
theorem Qfd:VOp X (binaryOp .RShift) Qid:=o_I Qas λ_ _ _=>C3
theorem Yb:MtR X "int.bit_length" (λx vs H Q=>∃i:Int,x=.int i/\vs=[]/\Q (.int (Builtin.Int.intBits i:Nat)) H):=by
 intro aa s σ H x xs v us Q I rx r h
 obtain⟨i,rfl,rfl,q⟩:=h
 obtain⟨t,rfl⟩:=rx
 cases r
 exact call_int_bit_length ⟨.int _,H,I.kept (t':=s.toks+1) (λb o e=>e),⟨_,rfl⟩,q⟩
def Zp:AV->AC:=λx xs μ R=>match x,xs with
 | .D (.int i),[]=>R (.D (.int (Builtin.Int.intBits i:Nat))) μ
 | _,_=>False
theorem Qb2:VMt X "int.bit_length" Zp:=by
 intro aa s σ H x xs v us Q I rx r zz
 refine Ei zz λa as μ R ra rs hc h hq=>?_
 unfold Zp at h
 split at h
 ·cases RelA.int ra
  cases rs
  exact Yb aa s σ H _ _ v us Q I rx r ⟨_,rfl,rfl,hq _ _ _ _ Kp.refl hc C4 h⟩
 ·exact h.elim
def isInt:AV->Prop
 | .D (.int _)=>True
 | _=>False
def Qie(m:AV->AC)(to:AE):AE:=fun τ μ R=>to τ μ λx μ1=>isInt x/\m x [] μ1 R
theorem Qb3{name:Str}{ij:String}{o:Expr}{to:AE}{m:AV->AC}{ap ak:Pos}(slot:Slot "int" name ij) (jw:typeOf (.builtin ij)=pure (.type "method_descriptor")) (hm:VMt X ij m) (ho:VE X o to)
  (ck:attributeBase o name X.env (eval o X.env)=eval o X.env:=by rfl) (cg:(ap.endLine==ak.line)=true:=by rfl):VE X (.Call (.Attribute o name ap) [] [] ak) (Qie m to) :=
 (Tc PySem.F.plainAttrs_int slot jw hm ho ck cg).imp fun σ H Q zz=>Bu zz fun τ μ R hs hc h hq=>⟨τ,μ,_,hs,hc,h,λx μ1 v H1 S1 c1 rx hx=>⟨by
   obtain⟨hx,_⟩:=hx
   unfold isInt at hx
   split at hx
   ·cases RelA.int rx
    exact rfl
   ·exact hx.elim,x,[],μ1,R,rx,.nil,c1,hx.2,hq.kp S1⟩⟩
end
section
variable {X:Cx}{k:Nat}
def U9:AV->AC:=λx xs μ R=>match x,xs with
 | .R a,[]=>opt (μ a) λm=>match m with
  | .lst _=>R (.D .none) (Aj μ a (.lst []))
  | _=>False
 | _,_=>False
theorem Yc:VMt X "list.clear" U9:=by
 intro aa s σ H x xs v us Q I rx r zz
 refine Ei zz λa as μ R ra rs hc h hq=>?_
 unfold U9 at h
 split at h
 ·rename_i a
  obtain⟨m,ey,h⟩:=Aw h
  split at h
  ·cases rs
   obtain⟨o,ho,vs,rfl,rl⟩:=hc _ _ ey
   cases (show x=.ref a from ra)
   exact Td aa s σ H _ _ v us Q I rx r ⟨a,vs,rfl,rfl,ho,hq _ _ _ _ (Kp.put ho trivial _) (hc.put ho trivial (Bx .nil)) Ic h⟩
  ·exact h.elim
 ·exact h.elim
theorem Hi(f:Nat->Int):∀n,argBest (λi j=>decide (f i > f j)) n<=n/\∀i,i<=n->f i<=f (argBest (λi j=>decide (f i > f j)) n)
 | 0=>⟨Yad _,λi hi=>by rw [Nat.le_zero.mp hi];exact Int.le_refl _⟩
 | n+1=>by
  obtain⟨h1,h2⟩:=Hi f n
  rw [argBest]
  by_cases c:f (n+1) > f (argBest (λi j=>decide (f i > f j)) n)
  ·rw [Yao (Ybg c)]
   refine⟨Yad _,λi hi=>?_⟩
   rcases Ybr n i with h | h
   ·rw [show i=n+1 by omega];exact Int.le_refl _
   ·have:=h2 i h;omega
  ·rw [Yaj (by rw [Yeq];exact c)]
   refine⟨by omega,λi hi=>?_⟩
   rcases Ybr n i with h | h
   ·rw [show i=n+1 by omega];omega
   ·exact h2 i h
theorem R9(hc:X.calm=true):Ek X (.builtin "max") (λxs H Q=>∃(p:Addr) (ns:List Int),xs=[.ref p]/\E5 X.K H p (ns.map V.int)/\0 < ns.length/\∀m,m∈ns->(∀n∈ns,n<=m)->Q (.int m) H):=by
 intro aa s σ H xs us Q I r h
 obtain⟨p,ns,rfl,hq,hn,q⟩:=h
 obtain⟨u,rfl,rx⟩:=E6 r
 cases rx
 obtain⟨ae,r',pl,hz⟩:=I.list hq
 have ah:=r'.length
 rw [Yab]at ah
 refine call_max_walk (Yd1 pl.isList ?_)
 have am:p≠s.heap.objs.size:=Yai (let⟨_,ho,_⟩:=pl.isList;Yae ho)
 have ik:∀(i:Nat) (v:Value),ae.toArray[i]?=some v->∃n t,ns[i]?=some n/\v=.int n t:=λi v e=>by
  have e:ae[i]?=some v:=by simpa using e
  have hi:i < ns.length:=by rw [ah];exact(List.getElem?_eq_some_iff.mp e).1
  obtain⟨u,hu,t,ru⟩:=r'.get (i:=i) (x:=.int ns[i]) (by rw [List.getElem?_map,List.getElem?_eq_getElem hi];rfl)
  rw [e]at hu
  cases hu
  exact⟨ns[i],t,List.getElem?_eq_getElem hi,ru⟩
 refine⟨_,_,_,_,_,_,_,rfl,Walks.list (show X.A.in1.handled=none from I.ok.hd hc) s.heap.objs.size p am ae.toArray,⟨⟨_,Heap.get?_push_size _ rfl,rfl,rfl⟩,pl.isList.at λo e=>Heap.get?_push_of_some _ e⟩,λb hb=>?_,by rw [Yau,<- ah];exact hn,
  CmpOf.ints_gt (λi=>ns.getD i 0) (λi v e=>by obtain⟨n,t,e1,e2⟩:=ik i v e;exact⟨t,by rw [e2,List.getD_eq_getElem?_getD,e1];rfl⟩),λv h' tk hP kk=>?_⟩
 ·rw [Yce]
  rcases Yap.mp hb with rfl | hb
  ·exact Ycl _
  ·have:b=p:=by simpa using hb
   subst this
   exact Yb4 (let⟨_,ho,_⟩:=pl.isList;Yae ho)
 ·obtain⟨n,t,e1,rfl⟩:=ik _ v hP
  refine⟨.int n,H,I.kept (t':=tk) (λb o e=>kk b o (λhb=>?_) (Heap.get?_push_of_some _ e)),⟨t,rfl⟩,q n (Ya1 e1) λm hm=>?_⟩
  ·have:b=s.heap.objs.size:=by simpa using hb
   rw [this]at e
   exact absurd (Yae e) (Yb9 _)
  ·obtain⟨j,hj,rfl⟩:=Ydk hm
   have h2:=(Hi (λi=>ns.getD i 0) (ae.toArray.size - 1)).2 j (by rw [Yau,<- ah];omega)
   have h2:ns.getD j 0<=ns.getD (argBest (λi j=>decide (ns.getD i 0 > ns.getD j 0)) (ae.toArray.size - 1)) 0:=h2
   rw [List.getD_eq_getElem?_getD,List.getElem?_eq_getElem hj]at h2
   refine Int.le_trans h2 ?_
   rw [List.getD_eq_getElem?_getD,e1]
   exact Int.le_refl _
def Zq:AC:=λxs μ R=>match xs with
 | [.R a]=>opt (μ a) λm=>match m with
  | .lst ys=>opt (Fh ys) λns=>0 < ns.length/\∀m,m∈ns->(∀n∈ns,n<=m)->R (.D (.int m)) μ
  | _=>False
 | _=>False
theorem Qb4(jp:X.calm=true):VCall X (.builtin "max") Zq:=by
 intro aa s σ H xs us Q I r zq
 refine Bu zq λas μ R ra hc h hq=>?_
 unfold Zq at h
 split at h
 ·cases ra with
  | cons r1 r2 =>
   cases r2
   obtain⟨m,em,h⟩:=Aw h
   split at h
   ·obtain⟨ns,eb,h⟩:=Aw h
    obtain⟨o,ho,vs,rfl,rs⟩:=hc _ _ em
    cases (show _=V.ref _ from r1)
    exact R9 jp aa s σ H _ us Q I r ⟨_,ns,rfl,E5.of (by rw [ho,Jb eb rs]),h.1,λm h1 h2=>hq _ _ _ _ Kp.refl hc C4 (h.2 m h1 h2)⟩
   ·exact h.elim
 ·exact h.elim
end
section
variable {s:Shared}{E:Value->Shared->Prop}{A:Around}{prog:Program}{w:World}{K:Type} [DecidableEq K]{knd:HeapKind prog w K}
theorem sdH{d a:Addr}{xs:List (K×Addr×Value)}{k:K}{v:Value}{Q:Value->Shared->Prop}(hu:knd.room A)(hk:knd.is s.heap k a)(hm:s.heap.DictOfH knd d xs)(hz:xs.length<=sizeLine)
  (h1:∀p,atKey xs k=some p->Q p.2 { s with toks:=s.toks+knd.draws k })
  (h2:atKey xs k=none->∀h',h'.DictOfH knd d (storedH xs k a v)->Heap.SameBut d s.heap h'->Q v { s with heap:=h',toks:=s.toks+knd.draws k }):wpAny (model prog w) A (dictSetDefault d (.ref a) v) Q E s:=by
 obtain⟨o,es,ep,g1,g2,g3,g4,g5,g6⟩:=hm
 unfold dictSetDefault
 (try with_reducible refine Ybs ?_)
 refine Yaa (knd.pyHash hu hk (Yaa (wpAny_dictFind_heap (s:={ s with toks:=s.toks+knd.draws k }) hu hk g1 g3 g4 g5 g6 (λno=>?_) (λj p hj=>?_))))
 ·have e0:=atKey_none_of_get no
  have nk:k∉xs.map (·.1):=not_mem_keys_of_get no
  have sz:=size_of_entries g4
  refine Yaa (Yco (Yaa (wpAny_updateDictKeys (hz:=by omega) (s:={ s with toks:=s.toks+knd.draws k }) g1 g3 (Yac (h2 e0 _ ?_ (Ybe ..))))))
  have st:=storedH_new (a:=a) (v:=v) e0
  rw [st]
  refine⟨_,_,ep+1,Heap.get?_update_self _ g1 (Obj.isFreed_of_dict (Obj.data_mapDictKeys g3 _)),g2.mapDictKeys _,Obj.data_mapDictKeys g3 _,by simp [g4,entryOfKey],λx hx=>?_,?_⟩
  ·have keep:∀{y:K} {b:Addr},knd.is s.heap y b->knd.is (s.heap.update d (Obj.mapDictKeys λx=>x.push ⟨knd.hash k,.ref a,v⟩)) y b:=λhy=>knd.keeps hy g1 g3 (Ybe ..)
   rcases Yaq.mp hx with m | m
   ·exact keep (g5 x m)
   ·rw [Yan.mp m];exact keep hk
  ·rw [Yaw]
   exact Yd2.mpr ⟨g6,by simp,λx hx y hy e=>nk (by
    have hy:y=k:=by simpa using hy
    rw [hy]at e
    rw [<- e];exact hx)⟩
 ·have e1:=atKey_of_get g6 hj
  refine Yaa (Yez (s:={ s with toks:=s.toks+knd.draws k }) g1 g3 ?_)
  rw [entry_at g4 j,hj]
  exact Yaa (Yco (Yac (h1 _ e1)))
end
section
variable {w:World}{prog:Program}{K:Type} [DecidableEq K](knd:HeapKind prog w K)(d a:Addr)
theorem Sa(hd:(d==sysModules)=false)(dflt:Value):MeetsIn prog w (Builtin.«dict.setdefault» ⟨[.ref d,.ref a,dflt],[]⟩) (λA R s=>knd.room A.in1/\∃k xs,knd.is s.heap k a/\s.heap.DictOfH knd d xs/\xs.length<=sizeLine /\
   (∀p,atKey xs k=some p->R (.ok (.ret p.2)) { s with toks:=s.toks+knd.draws k }) /\
   (atKey xs k=none->∀h',h'.DictOfH knd d (storedH xs k a dflt)->Heap.SameBut d s.heap h'->R (.ok (.ret dflt)) { s with heap:=h',toks:=s.toks+knd.draws k })) :=
 .of_wp λA R s ⟨hu,k,xs,hk,hm,hz,h1,h2⟩=>by
  unfold Builtin.«dict.setdefault» Builtin.Dict.keyAndDefault
  refine Yaa (Yaa (wpAny_notOrdered_dict hm.typeIs (show wpAny _ _ (pure (d,Value.ref a,some dflt)) _ _ s from Yac ?_)))
  show wpAny _ _ (if(d==sysModules)=true then _ else(dictSetDefault d (.ref a) dflt >>= _)) _ _ s
  rw [hd,Yaj Yag]
  exact Yaa (sdH hu hk hm hz (λp e=>Yac ⟨_,rfl,h1 p e⟩) λe h' m b=>Yac ⟨_,rfl,h2 e h' m b⟩)
end
section
variable {X:Cx}{aa:List (Addr×Obj)}{σ:St}{H:Hp}{s:Shared}{A:Around}{E:Value->Shared->Prop}{a b:Addr}{r:Value}
theorem Qb5{Q:Value->Shared->Prop}{ab:List (List Key×V)}{k:List Key}{dv:V}(hu:A.units+1 < cLine)(I:Inv X aa σ H s)(e:H a=some (.dT ab))(eb:H b=some (.tup (k.map kV)))(l:ab.length < sizeLine)(rd:A6 dv r)
  (h1:∀v,Ds ab k=some v->∀w' s',Inv X aa σ H s'->A6 v w'->Q w' s') (h2:Ds ab k=none->∀s',Inv X aa σ (upd H a (.dT (C7 ab k dv))) s'->Q r s') :
  wpAny (model X.prog X.w) A (call (.builtin "dict.setdefault") [.ref a,.ref b,r]) Q E s:=by
 obtain⟨z,hd,xs,rel,dd⟩:=Te I.hok e
 have hz:xs.length<=sizeLine:=by rw [<- Ycw rel];exact z
 have hl:(C7 ab k dv).length<=sizeLine:=by have:=Dn ab k dv;omega
 have rv:=rel.val k
 refine call_meetsIn PySem.F.slot_dict_setdefault dd.typeIs PySem.F.entry_dict_setdefault (PySem.F.args_dict_setdefault_3 _ _ _) (Sa (tupleKind (Ap X.prog X.w)) a b hd r) ⟨Ydv hu,k,xs,Gm I.hok eb,dd,hz,λp hp=>?_,λhn h' ju hs=>?_⟩
 ·rw [hp]at rv
  cases ev:Ds ab k with
  | none=>rw [ev]at rv;exact rv.elim
  | some v=>rw [ev]at rv;exact h1 v ev _ _ (I.tok _) rv
 ·rw [hn]at rv
  have ev:Ds ab k=none:=by
   cases ev:Ds ab k with
   | none=>rfl
   | some v=>rw [ev]at rv;exact rv.elim
  refine h2 ev _ ?_
  obtain⟨q,es,ep,hq,g2,g3,g4,_,g5⟩:=ju
  refine Hq I (by rw [e];exact True.intro) hs ⟨q,hq⟩ ⟨hl,hd,_,(rel.put k eb rd).keeps λc ys ec=>?_,q,es,ep,hq,g2,g3,g4,g5⟩
  rw [A7 (O6 ec e (λz=>nomatch z))]
  exact ec
end
section
variable {X:Cx}{o e f:Expr}{ap ak:Pos}
def Qif(td ty tx:TE):TE:=fun σ H Q=>td σ H λx H1=>∃a,x=.ref a/\IsD H1 a/\ty σ H1 λy H2=>tx σ H2 λz H3=>∃ab k b,H3 a=some (.dT ab)/\y=.ref b/\H3 b=some (.tup (k.map kV))/\ab.length < sizeLine /\
 (∀v,Ds ab k=some v->Q v H3)/\(Ds ab k=none->Q z (upd H3 a (.dT (C7 ab k z))))
theorem Qb6{td ty tx:TE}(hu:X.A.units+1 < cLine)(ho:PE X o td)(he:PE X e ty)(hf:PE X f tx)(m:M2 X o "setdefault" ap e f ak):PE X (.Call (.Attribute o "setdefault" ap) [e,f] [] ak) (Qif td ty tx):=by
 intro aa s σ H Q I h
 refine wpAny_Call_method m.base m.few m.line PySem.F.plainAttrs_dict PySem.F.slot_dict_setdefault PySem.F.type_dict_setdefault (thn (ho aa s σ H _ I h) λu s1 z1=>?_)
 obtain⟨x,H1,I1,rx,a,ex,d,q1⟩:=z1
 subst ex
 cases (show u=Value.ref a from rx)
 obtain⟨t1,t2,_⟩:=Tk I1 d
 refine⟨t1,t2,?_⟩
 rw [m.trees]
 refine Ydu rfl (Yfb (Ybk (thn (he aa s1 σ H1 _ I1 q1) λiv s2 z2=>Cg z2 λy H2 I2 ry q2=>Ybk (thn (hf aa s2 σ H2 _ I2 q2) λfv s3 ⟨z,H3,I3,rz,ab,k,b,ea,ey,eb,l,q3,q4⟩=>Ybj ?_))))
 subst ey
 cases (show iv=Value.ref b from ry)
 exact Qb5 hu I3 ea eb l rz (λv ev w' s4 I4 fw=>⟨v,H3,I4,fw,q3 v ev⟩) λev s4 I4=>⟨z,_,I4,rz,q4 ev⟩
def Qig(td ty tx:AE):AE:=fun τ μ R=>td τ μ λx μ1=>match x with
 | .R a=>(∃m,μ1 a=some m/\Qbv m)/\ty τ μ1 λy μ2=>tx τ μ2 λz μ3=>match y with
  | .D (.tuple ds)=>opt (Md ds) λks=>opt (μ3 a) λm=>match m with
   | .dt ab=>ab.length < sizeLine/\(∀v,Cb ab ks=some v->R v μ3)/\(Cb ab ks=none->R z (Aj μ3 a (.dt (Eo ab ks z))))
   | _=>False
  | _=>False
 | _=>False
theorem Qb7{td ty tx:AE}(hu:X.A.units+1 < cLine)(ho:VE X o td)(he:VE X e ty)(hf:VE X f tx)(m:M2 X o "setdefault" ap e f ak:=by exact⟨rfl,rfl,rfl,rfl⟩):VE X (.Call (.Attribute o "setdefault" ap) [e,f] [] ak) (Qig td ty tx) :=
 (Qb6 hu ho he hf m).imp fun σ H Q zz=>Bu zz fun τ μ R hs hc h hq=>⟨τ,μ,_,hs,hc,h,λx μ1 v H1 S1 c1 rx hx=>by
  split at hx
  ·rename_i a
   obtain⟨⟨m0,em0,hd⟩,hx⟩:=hx
   cases rx
   refine⟨a,rfl,Uq c1 em0 hd,τ,μ1,_,hs.kp S1,c1,hx,λy μ2 u H2 S2 c2 ry hy=>⟨τ,μ2,_,(hs.kp S1).kp S2,c2,hy,λz μ3 zv H3 S3 c3 rz hz=>?_⟩⟩
   split at hz
   ·obtain⟨ks,ek,hz⟩:=Aw hz
    obtain⟨m,em,hz⟩:=Aw hz
    split at hz
    ·rename_i ab
     obtain⟨ob,d5,vs,rfl,rs⟩:=c3 _ _ em
     obtain⟨b,xs,rfl,hb,ii⟩:=(Dk.kp S3 _ _ ry).tup
     obtain⟨e0,ek⟩:=K7 ek
     have hb:=hb.heap e0
     rw [Fu ii ek]at hb
     have rv:=rs.val ks
     refine⟨vs,ks,b,d5,rfl,hb,by rw [<- Ycw rs];exact hz.1,λv ev=>?_,λev=>?_⟩
     ·rw [ev]at rv
      cases ew:Cb ab ks with
      | none=>rw [ew]at rv;exact rv.elim
      | some w=>rw [ew]at rv;exact hq _ _ _ _ ((S1.trans S2).trans S3) c3 rv (hz.2.1 w ew)
     ·rw [ev]at rv
      have ew:Cb ab ks=none:=by
       cases ew:Cb ab ks with
       | none=>rfl
       | some w=>rw [ew]at rv;exact rv.elim
      exact hq _ _ _ _ (((S1.trans S2).trans S3).trans (Kp.put d5 trivial _)) (c3.put d5 trivial (Y8 (rs.put ks rz))) (rz.kp (Kp.put d5 trivial _)) (hz.2.2 ew)
    ·exact hz.elim
   ·exact hz.elim
  ·exact hx.elim⟩
end
def Hn(h:Heap)(d:Addr)(es:Array DictEntry)(ep:Nat):Prop:=∃o,h.get? d=some o/\o.ExactDict/\o.data=.dict es ep
theorem Hn.ty{s:Shared}{d:Addr}{es:Array DictEntry}{ep:Nat}(x:Hn s.heap d es ep):s.TypeIs (.ref d) "dict" := let⟨o,h1,h2,_⟩:=x;⟨o,h1,h2.1⟩
theorem Hn.mv{h h':Heap}{d:Addr}{es:Array DictEntry}{ep:Nat}(x:Hn h d es ep)(k:∀o,h.get? d=some o->h'.get? d=some o):Hn h' d es ep:=let⟨o,h1,r⟩:=x;⟨o,k o h1,r⟩
theorem Hn.lt{h:Heap}{d:Addr}{es:Array DictEntry}{ep:Nat}(x:Hn h d es ep):d < h.objs.size:=let⟨_,h1,_⟩:=x;Yae h1
section
variable {prog:Program}{w:World}{A:Around}{E:Value->Shared->Prop}{s:Shared}{d it:Addr}{es:Array DictEntry}{ep i:Nat}
theorem Va{Q:Value->Shared->Prop}(hd:(d==sysModules)=false)(hm:Hn s.heap d es ep)
  (q:Q (.ref s.heap.objs.size) { s with heap:=s.heap.push { cls:=.type "dict_keyiterator",data:=.fields #[.ref d,.int 0 0,.int es.size 0,.int ep 0] } }):wpAny (model prog w) A (pyIter (.ref d)) Q E s:=by
 have T:=hm.ty
 obtain⟨o,h1,h2,h3⟩:=hm
 refine wpAny_pyIter_slot T F.slot_dict_iter (Ybu F.slot_dict_iter T F.entry_dict_iter ?_ (F.args_dict_iter_1 _))
 unfold Builtin.«dict.__iter__» Builtin.Dict.dictSlotNone
 refine Yaa (Yaa (wpAny_notOrdered_dict T (show wpAny _ _ (pure (Value.ref d)) _ _ s from Yac ?_)))
 show wpAny (model prog w) _ (Builtin.Dict.showsAll d >>= _) _ _ s
 unfold Builtin.Dict.showsAll
 rw [hd,Yaj Yag]
 refine Yaa (Yac (Yaa (Yez h1 h3 (Yaa (wpAny_dictEpoch h1 h3 (Yaa (Ybd (Yac ⟨_,rfl,"dict_keyiterator",_,⟨_,Heap.get?_push_size _ rfl,rfl⟩,F.slot_dict_keyiterator_next.lookup,?_⟩))))))))
 simpa [rawInt] using q
theorem Vb{Q:Option Value->Shared->Prop}(iw:s.heap.IsKeyIter it d i es.size ep)(hm:Hn s.heap d es ep)(hi:i < es.size)
  (q:∀h',h'.IsKeyIter it d (i+1) es.size ep->Heap.SameBut it s.heap h'->Q (some es[i].key) { s with heap:=h' }):wpAny (model prog w) A (pyNext (.ref it)) Q E s:=by
 have T:=iw.typeIs
 obtain⟨o,g1,g2,g3⟩:=id iw
 obtain⟨od,h1,h2,h3⟩:=hm
 unfold pyNext
 refine Yaa (Yfd (wpAny_callSpecial?_slot (name:=Str.ofString "__next__") T F.slot_dict_keyiterator_next (Ybu F.slot_dict_keyiterator_next T F.entry_dict_keyiterator_next ?_ (F.args_dict_keyiterator_next_1 _))))
 refine Yaa (Yac (Yaa (Yaa ?_)))
 first | refine Yaa (Ycu T (Yac (Yaa (Yd7 g1 g3 ?_)))) | refine Yaa (Yde T (Yac (Yaa (Yd7 g1 g3 ?_))))
 simp only [show Builtin.Dict_items.ownsTuple "dict_keyiterator" = false by decide,Bool.false_eq_true,if_false]
 show wpAny (model prog w) _ (if(Value.ref d==Value.none)=true then _ else _) _ _ s
 rw [Yaj (by exact Yag)]
 refine Yaa (Yac (Yaa (Yez h1 h3 ?_)))
 rw [Yaj (by simp)]
 refine Yaa (Yac (Yaa (wpAny_dictEpoch h1 h3 ?_)))
 rw [Yaj (by simp)]
 refine Yac ?_
 simp only [show ¬((i:Int) < 0) by omega,if_false,Int.toNat_natCast,Array.getElem?_eq_getElem hi]
 refine Yaa ?_
 first | refine Yaa (Ycu T (Yac (Yaa (Ye3 T ?_)))) | refine Yaa (Yde T (Yac (Yaa (Ye3 T ?_))))
 show wpAny (model prog w) _ (setField (.ref it) 1 (rawInt ((i:Int)+1)) >>= _) _ _ s
 refine Yaa (wpAny_setField g1 g3 (by simp) (Yaa (Ybs ?_)))
 have nx:(s.heap.update it (Obj.mapFields (·.setIfInBounds 1 (rawInt ((i:Int)+1))))).IsKeyIter it d (i+1) es.size ep:=⟨_,Heap.get?_update_self _ g1 (Obj.isFreed_of_fields (Yen g3 _)),(Obj.cls_mapFields ..).trans g2,by rw [Yen g3];simp [rawInt]⟩
 refine Yaa (Ye3 (s:={ s with heap:=s.heap.update it (Obj.mapFields (·.setIfInBounds 1 (rawInt ((i:Int)+1)))) }) nx.typeIs (show wpAny _ _ (pure es[i].key) _ _ _ from ?_))
 exact Yac (Yac ⟨_,rfl,Yac (q _ nx (Ybe ..))⟩)
theorem Yd{Q:Option Value->Shared->Prop}(hh:A.handled=none)(iw:s.heap.IsKeyIter it d es.size es.size ep)(hm:Hn s.heap d es ep)(q:∀h',Heap.ExtBut it s.heap h'->Q none { s with heap:=h' }):wpAny (model prog w) A (pyNext (.ref it)) Q E s:=by
 have T:=iw.typeIs
 obtain⟨o,g1,g2,g3⟩:=id iw
 obtain⟨od,h1,h2,h3⟩:=hm
 unfold pyNext
 refine Yaa (Yfd (wpAny_callSpecial?_slot (name:=Str.ofString "__next__") T F.slot_dict_keyiterator_next (Ybu F.slot_dict_keyiterator_next T F.entry_dict_keyiterator_next ?_ (F.args_dict_keyiterator_next_1 _))))
 refine Yaa (Yac (Yaa (Yaa ?_)))
 first | refine Yaa (Ycu T (Yac (Yaa (Yd7 g1 g3 ?_)))) | refine Yaa (Yde T (Yac (Yaa (Yd7 g1 g3 ?_))))
 simp only [show Builtin.Dict_items.ownsTuple "dict_keyiterator" = false by decide,Bool.false_eq_true,if_false]
 show wpAny (model prog w) _ (if(Value.ref d==Value.none)=true then _ else _) _ _ s
 rw [Yaj (by exact Yag)]
 refine Yaa (Yac (Yaa (Yez h1 h3 ?_)))
 rw [Yaj (by simp)]
 refine Yaa (Yac (Yaa (wpAny_dictEpoch h1 h3 ?_)))
 rw [Yaj (by simp)]
 refine Yac ?_
 simp only [show ¬((es.size:Int) < 0) by omega,if_false,Int.toNat_natCast,Array.getElem?_eq_none (Nat.le_refl es.size)]
 refine Yaa ?_
 first | refine Yaa (Ycu T (Yac ?_)) | refine Yaa (Yde T (Yac ?_))
 show wpAny (model prog w) _ (setField (.ref it) 0 .none >>= _) _ _ s
 refine Yaa (wpAny_setField g1 g3 (by simp) (show wpAny _ _ (newExc (.type "StopIteration") [] >>= _) _ _ _ from Yaa ?_))
 simp only [newExc,newTuple]
 refine Yaa (Ybd (Yaa (m:=firstArgMember _ _) (wpAny_of_eq (a:=Value.none) (by first | rfl | (simp only [firstArgMember];rfl)) (Ybd ?_ (by size_fits)))) (by size_fits))
 simp only [raiseNew]
 refine Yaa (wpAny_handled (?_:_));rw [show A.in1.handled=none from hh];refine Yaa (Yac (wpAny_throw ?_))
 refine Yaa (Yc4 (T := "StopIteration") (b:=true) (by exact⟨_,Heap.get?_push_size _ rfl,rfl⟩) isSubtype_stop ?_)
 exact Yac (q _ (((Ybe ..).extBut.push _).push _))
theorem Sb(hh:A.handled=none)(I d:Addr)(am:d≠I)(es:Array DictEntry)(ep:Nat) :
  Walks prog w A I [I,d] [I] es.size (λi v=>∃e,es[i]?=some e/\v=e.key) (λi h=>h.IsKeyIter I d i es.size ep/\Hn h d es ep) where
 sub:=λb hb=>by
  have:b=I:=by simpa using hb
  simp [this]
 frame:=λ_ _ _ st k=>⟨st.1.at λo e=>k I (by simp) o e,st.2.mv λo e=>k d (by simp) o e⟩
 item:=λi s Q E hi st hQ=>Vb st.1 st.2 hi λh' x sb=>hQ _ h' s.toks ⟨es[i],by simp [hi],rfl⟩ ⟨x,st.2.mv λo e=>sb.extBut d o am e⟩ λb o hb e=>sb.extBut b o (λz=>hb (by simp [z])) e
 done:=λs Q E st hQ=>Yd hh st.1 st.2 λh' x=>hQ h' s.toks λb o hb e=>x b o (λz=>hb (by simp [z])) e
 self:=λ_ _ _ _ st q=>wpAny_pyIter_keyiter st.1 q
theorem Ye(lo:(d==sysModules)=false):PySem.W.KdlSrc prog w "dict" d d es.size (λi v=>∃e,es[i]?=some e/\v=e.key) (λh=>Hn h d es ep) where
 type:=λ_ x=>x.ty
 there:=λ_ x=>⟨x.lt,x.lt⟩
 keep:=λ_ _ x k=>x.mv λo e=>k d (.inl rfl) o e
 notList:=by decide
 notTuple:=by decide
 hint:=λ_ _ _ _ x q=>PySem.W.kdl_hint_dict x.ty q
 iter:=λ_ _ hh x=>⟨_,_,(λ_ _ q=>Va lo x q),Sb hh _ d (Yai x.lt) es ep,⟨⟨_,Heap.get?_push_size _ rfl,rfl,rfl⟩,x.mv λo e=>Heap.get?_push_of_some _ e⟩⟩
end
section
variable {X:Cx}{k:Nat}
theorem Zr:∀(bs:List Addr),Vals (bs.map V.ref) (bs.map Value.ref)
 | []=>.nil
 | _ :: bs=>.cons rfl (Zr bs)
theorem Ql{α β γ:Type}{F:α->β->Prop}{G:α->γ->Prop}{f:β->γ}:∀{l:List α} {m:List β},Paired F l m->(∀x y,F x y->G x (f y))->Paired G l (m.map f)
 | _,_,.nil,_=>.nil
 | _,_,.cons r t,g=>.cons (g _ _ r) (Ql t g)
theorem Lk(hc:X.calm=true):Ek X (.type "list") (λxs H Q=>∃a ab,xs=[.ref a]/\H a=some (.dT ab)/\∀l (bs:List Addr),H l=none->Paired (λ(p:List Key×V) b=>H b=some (.tup (p.1.map kV))) ab bs->Q (.ref l) (upd H l (.lst (bs.map V.ref)))):=by
 intro aa s σ H xs us Q I r h
 obtain⟨a,ab,rfl,ha,q⟩:=h
 obtain⟨u,rfl,rx⟩:=E6 r
 cases rx
 obtain⟨hz,hsys,ys,rel,o,es,ep,h1,h2,h3,h4,_⟩:=Te I.hok ha
 have hl:=Ycw rel
 have d7:es.size=ys.length:=by
  have:=Ycg List.length h4
  simpa using this
 refine PySem.W.kdl_call (Ye (es:=es) (ep:=ep) hsys) (I.ok.hd hc) ⟨o,h1,h2,h3⟩ (by rw [d7,<- hl];exact hz) λh' tk acc c kk iu i7=>?_
 have ba:acc.toList=(ys.map λy=>y.2.1).map Value.ref:=by
  refine Ycy λj=>?_
  rw [Array.getElem?_toList]
  rcases(Ybr j acc.size) with hj | hj
  ·obtain⟨e,e1,e2⟩:=i7.2 j acc[j] (by simp [hj])
   have e3:(ys.map (entryOfKey (tupleKind (Ap X.prog X.w))))[j]?=some e:=by rw [<- h4,Array.getElem?_toList];exact e1
   rw [List.getElem?_map]at e3
   obtain⟨y,hy,rfl⟩:=Yah.mp e3
   rw [List.getElem?_map,List.getElem?_map,hy,Array.getElem?_eq_getElem hj,e2];rfl
  ·rw [Array.getElem?_eq_none hj,List.getElem?_eq_none (by rw [Yab,Yab,<- d7,<- i7.1];exact hj)]
 have bs:Paired (λ(p:List Key×V) b=>H b=some (.tup (p.1.map kV))) ab (ys.map λy=>y.2.1):=Ql rel λp y z=>z.2.1
 refine⟨.ref s.heap.objs.size,_,I.laid (t':=tk) (o:=.lst ((ys.map λy=>y.2.1).map V.ref)) kk (Yad _) ?_,rfl,q _ _ (I.hok.fresh (Yad _)) bs⟩
 exact⟨by rw [Yab,Yab,<- hl];exact hz,acc.toList,c,by rw [ba];exact Zr _,by simpa using iu⟩
def Vc:AC:=λxs μ R=>match xs with
 | [.R a]=>opt (μ a) λm=>match m with
  | .dt ab=>∀p,μ p=none->R (.R p) (Aj μ p (.lst (ab.map λq=>.D (.tuple (q.1.map kyD)))))
  | _=>False
 | _=>False
theorem Vd{K:PySem.W.Frag}{H:Hp}:∀(ks:List Key),Ai K H (ks.map kyD) (ks.map kV)
 | []=>Dp
 | k :: ks=>Db (Qfa k) (Vd ks)
theorem Qm{K:PySem.W.Frag}{H:Hp}:∀{ab:List (List Key×AV)} {ws:List (List Key×V)} {bs:List Addr},D3 K H ab ws->Paired (λ(p:List Key×V) b=>H b=some (.tup (p.1.map kV))) ws bs->Ao K H (ab.map λq=>.D (.tuple (q.1.map kyD))) (bs.map V.ref)
 | [],_,_,r,p=>by
  cases r
  cases p
  exact .nil
 | _ :: _,_,_,r,p=>by
  cases r with
  | cons r1 r2 =>
   cases p with
   | cons p1 p2 =>
    refine .cons ?_ (Qm r2 p2)
    dsimp only
    rw [r1.1]
    exact Kv p1 (Vd _)
theorem Yf(jp:X.calm=true):VCall X (.type "list") Vc:=by
 intro aa s σ H xs us Q I r zz
 refine Bu zz λas μ R ra hcn h hq=>?_
 unfold Vc at h
 split at h
 ·rename_i a
  obtain⟨m,em,h⟩:=Aw h
  split at h
  ·rename_i ab
   obtain⟨o,ho,ws,rfl,rk⟩:=hcn _ _ em
   cases ra with
   | cons r1 r2 =>
    cases r2
    cases r1
    exact Lk jp aa s σ H _ us Q I r ⟨a,ws,rfl,ho,λl bs hl hp=>hq (.R l) _ _ _ (Kp.new hl _) (hcn.new hl (Bx (Qm rk hp))) rfl (h l (hcn.none hl))⟩
  ·exact h.elim
 ·exact h.elim
end
end L2
namespace L2
open PySem PySem.Spec PyProof.Rows
section
variable {prog:Program}{w:World}{A:Around}{E:Value->Shared->Prop}{s:Shared}
theorem Ve{fin:Bool}{Q:Bool->Shared->Prop}:∀{us vs:List Value} {r:Bool},LexAt A s us vs r->fin=decide (us.length < vs.length)->∀i,Q r s->PySem.W.KatLex prog w A false fin Q (us.zip vs) i s:=by
 intro us vs r h
 induction h with
 | nil =>
  intro e i q
  have e':fin=decide (0 < _):=e
  rw [<- e']at q
  exact PySem.W.kat_nil q
 | stop =>
  intro e i q
  have e':fin=false:=by rw [e];simp
  rw [<- e']at q
  exact PySem.W.kat_nil q
 | eq h1 h2 ih =>
  intro e i q
  exact PySem.W.kat_cons (h1 prog w _ _ (PySem.W.kat_yes (ih (by rw [e];simp) (i+1) q)))
 | ne h1 h2 =>
  intro e i q
  refine PySem.W.kat_cons (h1 prog w _ _ (PySem.W.kat_no ?_))
  rw [Bool.false_and]
  exact PySem.W.kat_one _ _ (h2 prog w _ _ (show PySem.W.BoolBack Q (.bool _) s from q))
theorem Qn{x y:Addr}{ra rb:List PyData}{as bs:List Addr}{Q:Bool->Shared->Prop}(r1:Reads s.heap (.ref x) (.tuple ra) as)(r2:Reads s.heap (.ref y) (.tuple rb) bs)(c1:(PyData.tuple ra).canLay0=true)(c2:(PyData.tuple rb).canLay0=true)
  (hc:cmpb (.tuple ra) (.tuple rb)=true) (hu:A.units+64 < cLine) (hd:(PyData.tuple ra).depth<=64) (q:Q (D8 (.tuple ra) (.tuple rb)) s):wpAny (model prog w) A (keyLt' (tuples' false) (.ref x) (.ref y)) Q E s:=by
 cases r1 with
 | @tuple _ ox xs n _ _ a1 a2 a3 a4 =>
  cases r2 with
  | @tuple _ oy ys m _ _ b1 b2 b3 b4 =>
   refine PySem.W.kat_lt a1 a3 b1 b3 ?_
   simp only [PyData.canLay0]at c1 c2
   simp only [PyData.depth]at hd
   simp only [cmpb]at hc
   simp only [D8]at q
   refine Ve (Dq ra rb A s _ _ _ _ a4 b4 c1 c2 hc (by omega)) (by simp) 0 q
end
structure SortOkT(ds:List PyData):Prop where
 len:ds.length < 1000
 can:PyData.canLayAll0 ds=true
 dp:PyData.depthAll ds<=64
 cano:Ak ds=true
 nd:ds.Nodup
 fst:2<=ds.length->∀d∈ds,∃i r,d=.tuple (.tuple i :: r)
 cmp:∀d∈ds,∀e∈ds,cmpb d e=true
theorem SortOkT.ord{ds:List PyData}(h:SortOkT ds):StrictOrd ds.length (Zj ds):=by
 refine⟨λa b c ha hb hc h1 h2=>?_,λa b ha hb ic h1=>?_,λa ha=>Ec _ (A4 h.cano _ (Az ha))⟩
 ·exact Lb _ _ _ (A4 h.cano _ (Az ha)) (A4 h.cano _ (Az hb)) (A4 h.cano _ (Az hc)) h1 h2
 ·refine Lc _ _ (A4 h.cano _ (Az ha)) (A4 h.cano _ (Az hb)) (λe=>ic ?_) h1
  refine(List.getElem?_inj ha h.nd).mp ?_
  rw [B9 (d:=PyData.none) ha,B9 (d:=PyData.none) hb,e]
theorem Jc{h:Heap}:∀{us:List Value} {ds:List PyData} {as:List Addr},ReadsAll h us ds as->(∀d∈ds,∃i r,d=.tuple (.tuple i :: r))->∃fs:List Value,PySem.W.KatTups h us fs/\fs.length=us.length/\∀v∈fs,∃a o,v=.ref a/\h.get? a=some o/\o.cls=.type "tuple"
 | _,_,_,.nil,_=>⟨[],PySem.W.KatTups.nil,rfl,λ_ z=>nomatch z⟩
 | _,_,_,.cons r t,hd=>by
  obtain⟨fs,k,l,z⟩:=Jc t λd gz=>hd d (Yav _ gz)
  obtain⟨i,r',rfl⟩:=hd _ Yax
  cases r with
  | @tuple a o vs n xs as a1 a2 a3 a4 =>
   cases hv:vs.toList with
   | nil=>rw [hv]at a4;cases a4
   | cons v0 vr =>
    rw [hv]at a4
    cases a4 with
    | cons u1 u2 =>
     cases u1 with
     | @tuple a' o' vs' n' bf as' b1 b2 b3 b4 =>
      refine⟨.ref a' :: fs,PySem.W.KatTups.cons a1 a2 a3 ?_ k,by simp [l],λv hv'=>?_⟩
      ·rw [<- Array.getElem?_toList,hv];rfl
      ·rcases Yap.mp hv' with rfl | hv'
       ·exact⟨_,_,rfl,b1,b2⟩
       ·exact z v hv'
def M5:AC:=λxs μ R=>match xs with
 | [.R a]=>opt (μ a) λm=>match m with
  | .lst ys=>opt (dats ys) λds=>SortOkT ds/\∀(es:List PyData) (p:Addr),es.Perm ds->es.Pairwise (λa b=>D8 a b=true)->μ p=none->R (.R p) (Aj μ p (.lst (es.map .D)))
  | _=>False
 | _=>False
section
variable {X:Cx}{k:Nat}
theorem Sc(hr:Room k X.A):VCall X (.builtin "sorted") M5:=by
 intro aa s σ H xs us Q I r zz93
 refine Bu zz93 λas μ R ra hc h hq=>?_
 unfold M5 at h
 split at h
 ·rename_i a
  cases ra with
  | cons r1 r2 =>
  cases r2
  obtain⟨m,em,h⟩:=Aw h
  split at h
  ·rename_i ys
   obtain⟨ds,ed,ok,h⟩:=Aw h
   obtain⟨o,ho,ws,rfl,rs⟩:=hc _ _ em
   cases r1
   obtain⟨u,rfl,rx⟩:=E6 r
   cases rx
   obtain⟨ae,rv,pl,hz⟩:=I.list (E5.of (K:=X.K) ho)
   have dk:=rs.dats ed
   obtain⟨bs,rd⟩:=Ai.reads I ds ws ae dk rv
   have l1:=Ul rd
   have l2:=dk.length
   have gy:ae.length < 1000:=by rw [l1];exact ok.len
   have sz:ae.length<=sizeLine:=Yak (Ybq gy) (by decide)
   have keep:∀b o,s.heap.get? b=some o->((s.heap.push (seqObj "list" #[] 0)).update s.heap.objs.size (Obj.mapSeq (·++ae.toArray))).get? b=some o:=λb o q =>
    ((Ybe (s.heap.push (seqObj "list" #[] 0)) s.heap.objs.size _).2 b (Yai (Yae q))).trans (Heap.get?_push_of_some _ q)
   have hO:StrictOrd ae.length (Zj ds):=by rw [l1];exact ok.ord
   refine J5 (t1:=s.toks) (λQ' q=>collect_list pl.isList q sz) keep (by rw [Heap.size_update];exact Yak (Ycs _) (Nat.le_of_eq (Yce _ _).symm)) gy hO (λh2 h' kp=>?_) λp h' l c pm up hl kp e=>?_
   ·have gq:ReadsAll h' ae ds bs:=Gy kp rd
    obtain⟨fs,kt,kl,kz⟩:=Jc gq (ok.fst (by omega))
    refine⟨tuples' false,λQ q=>?_,λi j C hi hj q=>?_⟩
    ·refine Yfa (T:=.type "tuple") kt (by omega) (λv hv=>?_) rfl q
     obtain⟨a,o,rfl,h1,h2⟩:=kz v hv
     rw [<- h2]
     exact(PySem.W.Looks.ld h1).andThen .now
    ·rw [l1]at hi hj
     obtain⟨b1,q1⟩:=Lg gq hi
     obtain⟨b2,q2⟩:=Lg gq hj
     have m1:=Az (d:=PyData.none) hi
     have m2:=Az (d:=PyData.none) hj
     obtain⟨x1,r1,e1⟩:=ok.fst (by omega) _ m1
     obtain⟨x2,r2,e2⟩:=ok.fst (by omega) _ m2
     have c1:=Bs ok.can _ m1
     have c2:=Bs ok.can _ m2
     have d1:=Yak (D9 _ m1) ok.dp
     have cm:=ok.cmp _ m1 _ m2
     have q':C (D8 (ds.getD i .none) (ds.getD j .none)) _:=q
     rw [e1]at q1 c1 d1 cm q'
     rw [e2]at q2 c2 cm q'
     have hu:=hr.un
     unfold PySem.W.kas_ask
     generalize ae.getD i Value.none=u1 at q1 ⊢
     generalize ae.getD j Value.none=u2 at q2 ⊢
     cases q1 with
     | tuple a1 a2 a3 a4 =>
      cases q2 with
      | tuple b1 b2 b3 b4 =>
       exact Qn (.tuple a1 a2 a3 a4) (.tuple b1 b2 b3 b4) c1 c2 cm (by show X.A.units+1+1+64 < _;omega) d1 q'
   ·have hp:∀i∈p.toList,i < ds.length:=λi hi=>by
     have:=pm.perm.mem_iff.mp hi
     rw [l1]at this
     exact Ya3.mp this
    have hv:=Vals.pick rv p.toList λi hi=>by rw [l2];exact hp i hi
    have hd:=dk.pick p.toList hp
    have ah:(p.toList.map λi=>ws.getD i .non).length<=sizeLine:=by
     rw [Yab,Yas,pm.size];exact sz
    refine⟨.ref l,_,I.laid (t':=s.toks) kp hl (show Bl X.prog X.w _ h' _ (.lst (p.toList.map λi=>ws.getD i .non)) from⟨ah,_,c,hv,e⟩),rfl,?_⟩
    have hn:=I.hok.fresh hl
    refine hq _ _ _ _ (Kp.new hn _) (hc.new hn (Bx ?_)) Co (h (p.toList.map λi=>ds.getD i .none) l ?_ ?_ (hc.none hn))
    ·exact hd.rel
    ·have e1:p.toList.Perm (List.range ds.length):=by rw [<- l1];exact pm.perm
     have e2:=e1.map λi=>ds.getD i PyData.none
     rw [B3]at e2
     exact e2
    ·rw [Ybm]
     refine Ybo.mpr λi j hi hj cj=>?_
     have hj':j < ae.length:=by rw [<- pm.size];simpa using hj
     have:=up i j cj hj'
     have gi:p.getD i 0=p.toList[i]:=by simp [Array.getD,show i < p.size by simpa using hi]
     have gj:p.getD j 0=p.toList[j]:=by simp [Array.getD,show j < p.size by simpa using hj]
     rw [gi,gj]at this
     exact this
  ·exact h.elim
 ·exact h.elim
end
section
variable {prog:Program}{w:World}{A:Around}{R:Result->Shared->Prop}{sa it t:Addr}{led:Bool}
theorem Ll{E:Value->Shared->Prop}{s:Shared}{a:Addr}{xs:List (PyData×Addr)}{Q:Value->Shared->Prop}(hh:A.handled=none)(hu:A.units+100 < cLine)(hS:Dx w s.heap a xs (Dh w))(hok:∀ys:List (PyData×Addr),ys.Perm xs->SortOkT (ys.map (·.1)))
  (h:∀(h':Heap) (d':Drawn) (tk p c:Nat) (zs:List (PyData×Addr)),(∀b o,s.heap.get? b=some o->h'.get? b=some o)->s.heap.objs.size<=p->h'.get? p=some (seqObj "list" (zs.map λx=>Value.ref x.2).toArray c)->zs.Perm xs->(zs.map (·.1)).Pairwise (λa b=>D8 a b=true)->Q (.ref p) { s with heap:=h',drawn:=d',toks:=tk }) :
  wpAny (model prog w) A (call (.builtin "sorted") [.ref a]) Q E s:=by
 obtain⟨o,es,ep,t,ho,cv,hd,hl,hX,hf,hT,hQ,hB⟩:=hS
 have d7:es.size=xs.length:=by rw [<- Yas,hl,Yab]
 have ln:xs.length < 1000:=by have:=(hok xs (.refl _)).len;rwa [Yab]at this
 refine Ev (Eu (show A.in1.handled=none from hh) ⟨o,ho,cv.1,hd,hf⟩ hT (by omega) λh1 d1 t1 ord k1 z1 hp=>?_)
 rw [hl,Ya0]at hp
 obtain⟨ys,rfl,py⟩:=Ge hp xs (f:=λx=>Value.ref x.2) rfl
 have ok:=hok ys py
 have v8:ys.length < 1000:=by rw [py.length_eq];exact ln
 have l1:(ys.map λx=>Value.ref x.2).length=(ys.map (·.1)).length:=by rw [Yab,Yab]
 have v7:∀x∈ys,Bq h1 x.1 x.2:=λx hx=>(hX x (py.mem_iff.mp hx)).keeps k1
 refine⟨Zj (ys.map (·.1)),by rw [Yab];exact v8,by rw [l1];exact ok.ord,λh2 h' kp=>?_,λp h' l c pm up p6 kp e=>?_⟩
 ·obtain⟨bs,gq⟩:=Ex (h:=h') λx hx=>(v7 x hx).keeps kp
  obtain⟨fs,kt,kl,kz⟩:=Jc gq (ok.fst (by rw [<- l1];exact h2))
  refine⟨tuples' false,λQ q=>?_,λi j C hi hj q=>?_⟩
  ·refine Yfa (T:=.type "tuple") kt (by omega) (λv hv=>?_) rfl q
   obtain⟨a,o,rfl,h1,h2⟩:=kz v hv
   rw [<- h2]
   exact(PySem.W.Looks.ld h1).andThen .now
  ·rw [l1]at hi hj
   obtain⟨b1,q1⟩:=Lg gq hi
   obtain⟨b2,q2⟩:=Lg gq hj
   have m1:=Az (d:=PyData.none) hi
   have m2:=Az (d:=PyData.none) hj
   obtain⟨x1,r1,e1⟩:=ok.fst (by rw [<- l1];exact h2) _ m1
   obtain⟨x2,r2,e2⟩:=ok.fst (by rw [<- l1];exact h2) _ m2
   have c1:=Bs ok.can _ m1
   have c2:=Bs ok.can _ m2
   have d1:=Yak (D9 _ m1) ok.dp
   have cm:=ok.cmp _ m1 _ m2
   have q':C (D8 ((ys.map (·.1)).getD i .none) ((ys.map (·.1)).getD j .none)) _:=q
   rw [e1]at q1 c1 d1 cm q'
   rw [e2]at q2 c2 cm q'
   unfold PySem.W.kas_ask
   generalize (ys.map λx=>Value.ref x.2).getD i Value.none=u1 at q1 ⊢
   generalize (ys.map λx=>Value.ref x.2).getD j Value.none=u2 at q2 ⊢
   cases q1 with
   | tuple a1 a2 a3 a4 =>
    cases q2 with
    | tuple b1 b2 b3 b4 =>
     exact Qn (.tuple a1 a2 a3 a4) (.tuple b1 b2 b3 b4) c1 c2 cm (by show A.units+1+1+64 < _;omega) d1 q'
 ·have dh:∀i∈p.toList,i < ys.length:=λi hi=>by
   have:=pm.perm.mem_iff.mp hi
   rw [Yab]at this
   exact Ya3.mp this
  have ev:(p.toList.map λi=>(ys.map λx=>Value.ref x.2).getD i Value.none)=(p.toList.map λi=>ys.getD i (.none,0)).map λx=>Value.ref x.2:=by
   rw [Ya0]
   refine Ych λi hi=>?_
   have:=dh i hi
   simp [List.getD_eq_getElem?_getD,this]
  rw [ev]at e
  have e2:(p.toList.map λi=>ys.getD i (.none,0)).Perm ys:=by
   have e1:p.toList.Perm (List.range ys.length):=by have:=pm.perm;rwa [Yab]at this
   have e2:=e1.map λi=>ys.getD i (PyData.none,0)
   rwa [B3]at e2
  refine h h' d1 t1 l c _ (λb o q=>kp b o (k1 b o q)) (Yak z1 p6) e (e2.trans py) ?_
  rw [Ya0,Ybm]
  refine Ybo.mpr λi j hi hj cj=>?_
  have hj':j < (ys.map λx=>Value.ref x.2).length:=by rw [<- pm.size];simpa using hj
  have:=up i j cj hj'
  have gi:p.getD i 0=p.toList[i]:=by simp [Array.getD,show i < p.size by simpa using hi]
  have gj:p.getD j 0=p.toList[j]:=by simp [Array.getD,show j < p.size by simpa using hj]
  rw [gi,gj]at this
  have a1:=dh _ (Yb3 hi)
  have a2:=dh _ (Yb3 hj)
  unfold Zj at this
  simp only [List.getD_eq_getElem?_getD,List.getElem?_map,List.getElem?_eq_getElem a1,List.getElem?_eq_getElem a2]at this
  simp only [Function.comp,List.getD_eq_getElem?_getD,List.getElem?_eq_getElem a1,List.getElem?_eq_getElem a2]
  exact this
end
section
variable {X:Cx}{aa:List (Addr×Obj)}{σ:St}{H:Hp}{s:Shared}{k:Nat}
structure TOkT(ds:List PyData):Prop where
 len:ds.length < 300
 key:∀d∈ds,KeyTree d
 fst:∀d∈ds,∃i r,d=.tuple (.tuple i :: r)
 cmp:∀d∈ds,∀e∈ds,cmpb d e=true
theorem TOkT.sort{ds es:List PyData}(h:TOkT ds)(hs:∀d∈es,d∈ds)(hn:es.Nodup):SortOkT es:=by
 obtain⟨a,b,c⟩:=Li λd hd=>h.key d (hs d hd)
 have:=Dj hn hs
 have:=h.len
 exact⟨by omega,a,by omega,c,hn,λ_ d hd=>h.fst d (hs d hd),λd hd e he=>h.cmp d (hs d hd) e (hs e he)⟩
theorem Oo(I:Inv X aa σ H s):∀(ds:List PyData) (ws:List V) (ae:List Value),Ai X.K H ds ws->Vals ws ae->(∀d∈ds,KeyTree d)->(∀d∈ds,∃i r,d=.tuple (.tuple i :: r))->∃ks:List (PyData×Addr),ks.map (·.1)=ds/\ae=ks.map (λx=>.ref x.2)/\∀x∈ks,Bq s.heap x.1 x.2/\Dk X.K H x.1 (.ref x.2)
 | [],ws,ae,h,r,_,_=>by
  have e:=h.nil
  subst e
  cases r
  exact⟨[],rfl,rfl,λ_ z=>nomatch z⟩
 | d :: ds,ws,ae,h,r,hk,hf=>by
  obtain⟨x,fw,rfl,h1,h2⟩:=Ai.cons (K:=X.K) (H:=H) h
  cases r with
  | @cons _ _ u us r1 r2 =>
   obtain⟨ks,e1,e2,e3⟩:=Oo I ds fw us h2 r2 (λd hd=>hk d (.tail _ hd)) (λd hd=>hf d (.tail _ hd))
   obtain⟨i,tl,rfl⟩:=hf d (.head _)
   obtain⟨a,xs,rfl,ha,hd⟩:=Dk.tup (K:=X.K) (H:=H) h1
   cases r1
   refine⟨(.tuple (.tuple i :: tl),a) :: ks,by rw [Ya2,e1],by rw [Ya2,<- e2],λy hy=>?_⟩
   rcases Yap.mp hy with rfl | hy
   ·exact⟨⟨hk _ (.head _),Dk.reads I _ _ _ h1 rfl⟩,h1⟩
   ·exact e3 y hy
def Qb8(te:AE):AE:=fun τ μ R=>te τ μ λx μ1=>opt (items μ1 x) λys=>opt (dats ys) λds=>TOkT ds/\∀(es:List PyData) (p:Addr),es.Nodup->(∀d,d∈es↔d∈ds)->es.Pairwise (λa b=>D8 a b=true)->μ1 p=none->R (.R p) (Aj μ1 p (.lst (es.map .D)))
theorem Vf{e:Expr}{te:AE}{p p2 pos bh:Pos}(hr:Room k X.A)(hg:Gl X "sorted") (hm:X.mg "sorted" = none) (jx:Gl X "set") (dz:X.mg "set" = none) (he:VE X e te)
  (hs:starEach [.Call (.Name "set" p2) [e] [] bh] X.env=[(false,eval (.Call (.Name "set" p2) [e] [] bh) X.env)]:=by rfl) (eh:starEach [e] X.env=[(false,eval e X.env)]:=by rfl) :
  VE X (.Call (.Name "sorted" p) [.Call (.Name "set" p2) [e] [] bh] [] pos) (Qb8 te):=by
 intro aa s σ H Q I zz129
 refine Bu zz129 fun τ μ R be hcn h hq=>?_
 refine Ybz (Da I hg hm boot_sorted (Ycq ?_ hs rfl))
 rw [hs]
 refine Ybk (Ybz (Da I jx dz boot_set (Ybv ?_ eh rfl)))
 rw [eh]
 refine Ybk (Yb1 (he.run I be hcn h) (λu s1 fm=>Z1 fm λx v μ1 H1 I1 rv S1 c1 rx h1=>Ybj ?_) λ_ _ e=>e)
 obtain⟨ys,ey,h1⟩:=Aw h1
 obtain⟨ds,ed,ok,h1⟩:=Aw h1
 obtain⟨p0,ws,rfl,hk,rs⟩:=B0 c1 rx ey
 cases rv
 have dk:=rs.dats ed
 have hd:X.A.handled=none:=hr.hd
 have hun:=hr.un
 have l2:=dk.length
 have ah:=ok.len
 have fin:∀(ks:List (PyData×Addr)),ks.map (·.1)=ds->(∀x∈ks,Bq s1.heap x.1 x.2/\Dk X.K H1 x.1 (.ref x.2))->∀(h1:Heap) (tk:Nat) (xs:List (PyData×Addr)),(∀b o,s1.heap.get? b=some o->h1.get? b=some o)->Dx X.w h1 s1.heap.objs.size xs (Dh X.w)->(xs.map (·.1)).Nodup->(∀d,d∈xs.map (·.1)↔d∈ks.map (·.1))->(∀x∈xs,x∈ks) ->
   wpAny (model X.prog X.w) X.A (call (.builtin "sorted") [.ref s1.heap.objs.size]) (EP X aa σ Q) X.xe { s1 with heap:=h1,toks:=tk }:=λks e1 fq h2 tk xs k1 S2 N2 M2 cq=>by
  rw [e1]at M2
  refine Ll (s:={ s1 with heap:=h2,toks:=tk }) hd (by omega) S2 (λys py=>ok.sort (λd hd=>(M2 d).mp ((py.map (·.1)).mem_iff.mp hd)) ((py.map (·.1)).nodup_iff.mpr N2)) λh3 d3 t3 q c zs k2 hp e3 pz ge=>?_
  have lS:s1.heap.objs.size < h2.objs.size:=by obtain⟨o,_,_,_,e,_⟩:=S2;exact Yae e
  have az:s1.heap.objs.size<=q:=Yak (Ybq lS) hp
  have jj:zs.length < 1000:=by
   have:=(ok.sort (es:=zs.map (·.1)) (λd hd=>(M2 d).mp ((pz.map (·.1)).mem_iff.mp hd)) ((pz.map (·.1)).nodup_iff.mpr N2)).len
   rwa [Yab]at this
  have hz:(zs.map λx=>V.ref x.2).length<=sizeLine:=by rw [Yab];exact Yak (Ybq jj) (by decide)
  have hn:=I1.hok.fresh az
  refine⟨.ref q,_,(Inv.drw I1 d3).laid (t':=t3) (λb o e=>k2 b o (k1 b o e)) az (show Bl X.prog X.w _ h3 _ (.lst (zs.map λx=>V.ref x.2)) from⟨hz,_,c,Lj zs,e3⟩),rfl,?_⟩
  refine hq _ _ _ _ (S1.trans (Kp.new hn _)) (c1.new hn (Bx ?_)) Co (h1 (zs.map (·.1)) q ((pz.map (·.1)).nodup_iff.mpr N2) (λd=>((pz.map (·.1)).mem_iff).trans (M2 d)) ge (c1.none hn))
  exact(Om λx hx=>(fq x (cq x (pz.mem_iff.mp hx))).2).rel
 refine Fg (s:=s1) ?_
 rcases hk with⟨_,hk⟩ | ⟨_,hk⟩
 ·obtain⟨ae,r',pl,hz⟩:=I1.list hk
  obtain⟨ks,e1,e2,e3⟩:=Oo I1 ds ws ae dk r' ok.key ok.fst
  have la:p0 < s1.heap.objs.size:=by obtain⟨o,e,_⟩:=pl.isList;exact Yae e
  have hsz:ae.toArray.size < 304:=by have:=r'.length;simp only [List.size_toArray];omega
  refine M3 (s:={ s1 with heap:=s1.heap.push (A9 X.w) }) (show X.A.in1.in1.handled=none from hd) (show X.A.units+1+1+20 < cLine by omega) (let⟨o,e,r⟩:=pl.isList;⟨o,Heap.get?_push_of_some _ e,r⟩) (ks:=ks) (by simpa using e2) (λx hx=>(e3 x hx).1.keeps λb o e=>Heap.get?_push_of_some _ e) hsz Gd (Yc3 (Yai la)) λh2 tk xs k1 S2 N2 M2 cq L2=>Ybj ?_
  exact fin ks e1 e3 h2 tk xs (λb o e=>k1 b o (Yai (Yae e)) (Heap.get?_push_of_some _ e)) S2 N2 M2 cq
 ·obtain⟨ae,r',pl,hz⟩:=I1.tuple hk
  obtain⟨ks,e1,e2,e3⟩:=Oo I1 ds ws ae dk r' ok.key ok.fst
  have la:p0 < s1.heap.objs.size:=by obtain⟨o,e,_⟩:=pl;exact Yae e
  have hsz:ae.toArray.size < 304:=by have:=r'.length;simp only [List.size_toArray];omega
  refine Kg (s:={ s1 with heap:=s1.heap.push (A9 X.w) }) (show X.A.in1.in1.handled=none from hd) (show X.A.units+1+1+20 < cLine by omega) (Heap.IsTuple.push pl _) (ks:=ks) (by simpa using e2) (λx hx=>(e3 x hx).1.keeps λb o e=>Heap.get?_push_of_some _ e) hsz Gd (Yc3 (Yai la)) λh2 tk xs k1 S2 N2 M2 cq L2=>Ybj ?_
  exact fin ks e1 e3 h2 tk xs (λb o e=>k1 b o (Yai (Yae e)) (Heap.get?_push_of_some _ e)) S2 N2 M2 cq
end
def Qo(N:List Str)(pn cn:List (Str×NameKind))(N':List Str)(mp:List (Option Nat)):Bool :=
 decide (N'.length=mp.length) && decide N'.Nodup &&
 (List.range N'.length).all (λk=>match mp[k]?,N'[k]? with
  | some (some i),some x=>decide (N[i]?=some x) && Ro pn x && decide ((x,NameKind.free)∈cn) && decide (cn.lookup x=some .free)
  | _,_=>true) &&
 cn.all (λp=>decide (p.2≠.cell) || decide (cn.lookup p.1=some .cell)) && cn.all (λp=>decide (p.2≠.free) || Ro pn p.1) && cn.all (λp=>decide (p.2≠.local) || decide (cn.lookup p.1=some .local))
structure CompOkC(N:List Str)(pn cn:List (Str×NameKind))(N':List Str)(mp:List (Option Nat)):Prop where
 len:N'.length=mp.length
 map:∀(k i:Nat) (x:Str),mp[k]?=some (some i)->N'[k]?=some x->N[i]?=some x/\(pn.lookup x=some .cell\/pn.lookup x=some .free)/\(x,NameKind.free)∈cn/\cn.lookup x=some .free
 ownc:∀p∈cn,p.2=.cell->cn.lookup p.1=some .cell
 free:∀p∈cn,p.2=.free->(pn.lookup p.1=some .cell\/pn.lookup p.1=some .free)
 loc:∀p∈cn,p.2=.local->cn.lookup p.1=some .local
theorem Op{N:List Str}{pn cn:List (Str×NameKind)}{N':List Str}{mp:List (Option Nat)}(h:Qo N pn cn N' mp=true):CompOkC N pn cn N' mp:=by
 unfold Qo at h
 obtain⟨h,h6⟩:=(Ya7 _ _).mp h
 obtain⟨h,h5⟩:=(Ya7 _ _).mp h
 obtain⟨h,h4⟩:=(Ya7 _ _).mp h
 obtain⟨h,h3⟩:=(Ya7 _ _).mp h
 obtain⟨h1,h2⟩:=(Ya7 _ _).mp h
 refine⟨Yay h1,λk i x e1 e2=>?_,λp hp e=>?_,λp hp e=>?_,λp hp e=>?_⟩
 ·have hk:k < N'.length:=(List.getElem?_eq_some_iff.mp e2).1
  have q:=Yb8.mp h3 k (Ya3.mpr hk)
  simp only [e1,e2]at q
  obtain⟨q,q4⟩:=(Ya7 _ _).mp q
  obtain⟨q,q3⟩:=(Ya7 _ _).mp q
  obtain⟨q1,q2⟩:=(Ya7 _ _).mp q
  exact⟨Yay q1,Fo q2,Yay q3,Yay q4⟩
 ·rcases(Ydx _ _).mp (Yb8.mp h4 p hp) with z | z
  ·exact absurd e (Yay z)
  ·exact Yay z
 ·rcases(Ydx _ _).mp (Yb8.mp h5 p hp) with z | z
  ·exact absurd e (Yay z)
  ·exact Fo z
 ·rcases(Ydx _ _).mp (Yb8.mp h6 p hp) with z | z
  ·exact absurd e (Yay z)
  ·exact Yay z
theorem relabel_back2{env:Env}{names:List (Str×NameKind)}{x:Str}(h:((names.map λ(n,k)=>if(k==NameKind.free && env.scope.kind==.function && env.kindOf n==some .cell) then(n,NameKind.cell) else(n,k)).lookup x=some .cell \/
  (names.map λ(n,k)=>if(k==NameKind.free && env.scope.kind==.function && env.kindOf n==some .cell) then(n,NameKind.cell) else(n,k)).lookup x=some .free)):(x,NameKind.free)∈names\/(x,NameKind.cell)∈names:=by
 have key:∀k,(names.map λ(n,k)=>if(k==NameKind.free && env.scope.kind==.function && env.kindOf n==some .cell) then(n,NameKind.cell) else(n,k)).lookup x=some k->(k=.cell\/k=.free)->(x,NameKind.free)∈names\/(x,NameKind.cell)∈names:=λk hk hc=>by
  obtain⟨⟨n,k'⟩,hm,e⟩:=Yaf.mp (mem_of_lookup hk)
  dsimp only at e
  split at e
  ·rename_i hb
   cases e
   simp only [Bool.and_eq_true]at hb
   have:k'=.free:=by simpa using hb.1.1
   subst this
   exact .inl hm
  ·cases e
   rcases hc with rfl | rfl
   ·exact .inr hm
   ·exact .inl hm
 exact h.elim (λz=>key _ z (.inl rfl)) λz=>key _ z (.inr rfl)
theorem cf_dich:∀{names:List (Str×NameKind)} {n:Nat} {acc:List (Str×Addr)} {x:Str} {c:Addr},(cellsFrom n names acc).lookup x=some c->(n<=c/\(x,NameKind.cell)∈names)\/acc.lookup x=some c
 | [],_,_,_,_,h=>.inr h
 | (nm,k) :: r,n,acc,x,c,h=>by
  unfold cellsFrom at h
  split at h
  ·rename_i hk
   have hk:k=.cell:=by simpa using hk
   rcases cf_dich h with⟨a,b⟩ | z
   ·exact .inl ⟨Nat.le_of_succ_le a,.tail _ b⟩
   ·rw [Yb7]at z
    cases e:x==nm with
    | true =>
     rw [e]at z
     cases z
     rw [beq_iff_eq.mp e,hk]
     exact .inl ⟨Yad _,.head _⟩
    | false=>rw [e]at z;exact .inr z
  ·rcases cf_dich h with⟨a,b⟩ | z
   ·exact .inl ⟨a,.tail _ b⟩
   ·exact .inr z
theorem Ey:∀{names:List (Str×NameKind)} {n:Nat} {acc:List (Str×Addr)} {x:Str},(∃c,acc.lookup x=some c)->∃c,(cellsFrom n names acc).lookup x=some c
 | [],_,_,_,h=>h
 | (nm,k) :: r,n,acc,x,⟨c,h⟩=>by
  unfold cellsFrom
  split
  ·refine Ey ?_
   rw [Yb7]
   cases x==nm with
   | true=>exact⟨_,rfl⟩
   | false=>exact⟨c,h⟩
  ·exact Ey ⟨c,h⟩
theorem Oq:∀{names:List (Str×NameKind)} {n:Nat} {acc:List (Str×Addr)} {x:Str},(x,NameKind.cell)∈names->∃c,(cellsFrom n names acc).lookup x=some c
 | (nm,k) :: r,n,acc,x,h=>by
  unfold cellsFrom
  rcases Yap.mp h with e | e
  ·cases e
   rw [Yao (show(NameKind.cell==NameKind.cell)=true from rfl)]
   refine Ey ?_
   rw [Yb7,Ye5]
   exact⟨_,rfl⟩
  ·split
   ·exact Oq e
   ·exact Oq e
theorem Os:∀{names:List (Str×NameKind)} {n:Nat} {acc:List (Str×Addr)},(∀x y c,acc.lookup x=some c->acc.lookup y=some c->x=y)->(∀x c,acc.lookup x=some c->c < n)->∀x y c,(cellsFrom n names acc).lookup x=some c->(cellsFrom n names acc).lookup y=some c->x=y
 | [],_,_,h,_,x,y,c,e1,e2=>h x y c e1 e2
 | (nm,k) :: r,n,acc,h,hn,x,y,c,e1,e2=>by
  unfold cellsFrom at e1 e2
  split at e1
  ·rename_i hk
   rw [Yao hk]at e2
   refine Os (acc:=(nm,n) :: acc) (λx y c e1 e2=>?_) (λx c e=>?_) x y c e1 e2
   ·rw [Yb7]at e1 e2
    cases a:x==nm <;> cases b:y==nm <;> rw [a]at e1 <;> rw [b]at e2
    ·exact h x y c e1 e2
    ·cases e2;exact absurd (hn _ _ e1) (Yb9 _)
    ·cases e1;exact absurd (hn _ _ e2) (Yb9 _)
    ·rw [beq_iff_eq.mp a,beq_iff_eq.mp b]
   ·rw [Yb7]at e
    cases a:x==nm <;> rw [a]at e
    ·exact Yb4 (hn x c e)
    ·cases e;exact Ycl _
  ·rename_i hk
   rw [Yaj hk]at e2
   exact Os h hn x y c e1 e2
theorem Lm:∀{names:List (Str×NameKind)} {h:Heap} {acc:List (Str×Addr)},(∀x c,acc.lookup x=some c->∃v,h.IsCell c v)->∀x c,(cellsFrom h.objs.size names acc).lookup x=some c->∃v,(pushCells h names).IsCell c v
 | [],_,_,hc,x,c,e=>hc x c e
 | (nm,k) :: r,h,acc,hc,x,c,e=>by
  unfold cellsFrom at e
  unfold pushCells
  split at e
  ·rename_i hk
   rw [Yao hk]
   have e':(cellsFrom (h.push { cls:=.type "cell",data:=.cell none }).objs.size r ((nm,h.objs.size) :: acc)).lookup x=some c:=by rw [Yce];exact e
   refine Lm (λy d z=>?_) x c e'
   rw [Yb7]at z
   cases a:y==nm <;> rw [a]at z
   ·obtain⟨v,q⟩:=hc y d z
    exact⟨v,q.keeps λb o e=>Heap.get?_push_of_some _ e⟩
   ·cases z;exact⟨none,_,Heap.get?_push_size _ rfl,rfl⟩
  ·rename_i hk
   rw [Yaj hk]
   exact Lm hc x c e
def Ln(names:List (Str×NameKind))(x:Str):Bool:=match names.lookup x with
 | some .cell=>true
 | _=>false
theorem Ot:∀{names:List (Str×NameKind)} {n m:Nat} {acc:List (Str×Addr)} {x:Str} {c:Addr},m<=n->(cellsFrom n names acc).lookup x=some c->((x,NameKind.cell)∈names\/∀c',acc.lookup x=some c'->m<=c')->m<=c
 | [],_,_,_,_,_,_,h,z=>z.elim (λz=>nomatch z) λz=>z _ h
 | (nm,k) :: r,n,m,acc,x,c,hm,h,z=>by
  unfold cellsFrom at h
  split at h
  ·refine Ot (Ydb hm) h ?_
   cases a:x==nm with
   | true =>
    refine .inr λc' e=>?_
    rw [Yb7,a]at e
    cases e;exact hm
   | false =>
    rcases z with z | z
    ·rcases Yap.mp z with e | e
     ·cases e;rw [Ye5]at a;cases a
     ·exact .inl e
    ·refine .inr λc' e=>?_
     rw [Yb7,a]at e
     exact z c' e
  ·rename_i hk
   refine Ot hm h (z.imp_left λz=>?_)
   rcases Yap.mp z with e | e
   ·cases e;exact absurd rfl hk
   ·exact e
theorem Ou{names:List (Str×NameKind)}{x:Str}(h:Ln names x=true):(x,NameKind.cell)∈names:=by
 unfold Ln at h
 split at h
 ·rename_i e;exact mem_of_lookup e
 ·cases h
theorem Lo{M:Model}{A:Around}{E:Value->Shared->Prop}{s:Shared}{scope:Scope}{globals:Addr}{cl:List (Str×Addr)}{qual:Str}{outer:Env}{Q:Env->Shared->Prop}
  (hQ:Q (newEnv scope s.heap.objs.size globals (cellsFrom (s.heap.objs.size+1) scope.names cl) qual none .none (some outer) builtinsNs) { s with heap:=pushCells (s.heap.push { cls:=.type "dict",data:=.dict #[] }) scope.names }) :
  wpAny M A (newFunctionEnv scope globals cl [] qual none .none (some outer)) Q E s:=by
 simp only [newFunctionEnv,Option.isSome_some,if_true]
 refine Yaa (wpAny_alloc ?_)
 refine Yaa (wpAny_layCells _ (λname kind cells=>by cases hkc:kind==NameKind.cell <;> simp [hkc]) _ _ _ _ ?_)
 rw [show({ s with heap:=s.heap.push { cls:=.type "dict",data:=.dict #[] } }:Shared).heap.objs.size=s.heap.objs.size+1 from Yce ..]
 exact Yaa (by rw [List.forIn_nil];exact Yac (Yac hQ))
def Bj(X:Cx)(N':List Str)(scope:Scope)(C:Addr)(s:Shared)(H:Hp)(fp:List Addr):Cx :=
 { X with N:=N',s₀:=s,H₀:=H,env:=compEnvC scope (cellsFrom (C+1) scope.names (C2 X.env.cells scope.names [])) C X.env,outer:=X.stack,stack:=X.stack,ex:=fp,fn:=Ln scope.names,pn:=[],xe:=λ_ _=>False }
section
variable {X:Cx}{N':List Str}{mp:List (Option Nat)}{bz tg iter:Expr}{bp:List Expr}{scope:Scope}{pos:Pos}{wi:TI}{g:TG}{tst:TT}{te:TE}
theorem Inv.comp0C{aa:List (Addr×Obj)}{σ:St}{H:Hp}{s:Shared}{fp:List Addr}{tn:Heap->Prop}{h₁:Heap}{tk:Nat}{C:Addr}(ok:CompOkC X.N X.env.scope.names scope.names N' mp)(hk:scope.kind=.function)
  (I:Inv X aa σ H s) (hf:∀b∈fp,Hl X aa H b) (j7:∀b∈fp,∃o,s.heap.get? b=some o) (hC:C=s.heap.objs.size+1)
  (d4:∃m,h₁.Ns C m) (keep:∀b o,s.heap.get? b=some o->h₁.get? b=some o) (ba:∃n,h₁.get? s.heap.objs.size=some { cls:=.type "list",data:=.seq #[] n }) (jy:∀x c,(cellsFrom (C+1) scope.names (C2 X.env.cells scope.names [])).lookup x=some c->∃v,h₁.IsCell c v) :
  Inv (Bj X N' scope C s H fp) [] (Fn mp σ) (upd H s.heap.objs.size (.lst [])) { s with heap:=h₁,toks:=tk }:=by
 subst hC
 have bm:∀x∈scope.names,x.2=.free->∃c,X.env.cells.lookup x.1=some c:=λx hx e=>I.ok.has x.1 (ok.free x hx e)
 have sub:∀x c,(C2 X.env.cells scope.names []).lookup x=some c->X.env.cells.lookup x=some c:=El bm (λx c e=>by simp at e)
 have lw:∀x c,(cellsFrom (s.heap.objs.size+1+1) scope.names (C2 X.env.cells scope.names [])).lookup x=some c->(s.heap.objs.size+1+1<=c/\(x,NameKind.cell)∈scope.names)\/X.env.cells.lookup x=some c:=λx c e=>(cf_dich e).imp_right λz=>sub x c z
 have hlt:∀b∈fp,b < s.heap.objs.size:=λb hb=>let⟨_,e⟩:=j7 b hb;Yae e
 have vn:H (s.heap.objs.size+1)=none:=I.hok.fresh (Ycs _)
 have jh:H s.heap.objs.size=none:=I.hok.fresh (Yad _)
 have gn:∀b∈fp,b∉frs X.stack:=λb hb z=>by
  obtain⟨_,f1,f2,_⟩:=hf b hb
  rcases Yap.mp (I.stkSub b z) with e | e
  ·exact f1 e
  ·exact f2 e
 refine⟨⟨I.ok.mod,hk,I.ok.glob,I.ok.blt,Ycs _,Os (λx y c e1 e2=>I.ok.inj x y c (sub x c e1) (sub y c e2)) (λx c e=>let⟨_,z⟩:=I.cell x c (sub x c e);Yb4 (Yb4 z.lt)),λx e=>?_,λx c rc e=>Yak (Ydb (Ycs _)) (Ot (Yad _) e (.inl (Ou rc))),I.ok.hd,I.ok.frames,.inl rfl,λb hb=>⟨?_,λx c e=>?_⟩,I.bs,Yak I.ok.bsz I.sz,λb o e hb=>?_,gn,I.stack,I.stkFree⟩,
  rfl,I.bare,Un.laid keep (Yad _) jh,?_,λx c e=>?_,?_,λx c e=>?_,λp hp=>(nomatch hp),I.hok.laid keep (Yad _) ?_,?_⟩
 ·rcases relabel_back2 e with z | z
  ·exact Ey (D1 z)
  ·exact Oq z
 ·exact Yai (Yb4 (hlt b hb))
 ·rcases lw x c e with⟨z,_⟩ | z
  ·exact λq=>absurd (q ▸ hlt b hb) (Nat.not_lt_of_le (Yak (Ydb (Ycs _)) z))
  ·exact(hf b hb).2.2.2.2.1 x c z
 ·rcases(hf b hb).2.2.2.1 with z | z
  ·exact I.ok.noex b o e z
  ·exact absurd (Yar (Yae e) (Yak I.ok.bsz z)) (Yb9 _)
 ·obtain⟨m,hm⟩:=d4
  refine⟨m,hm,λi x v e1 e2 e3=>?_⟩
  have gf:(Fn mp σ)[i]?=some (some v):=e2
  unfold Fn at gf
  rw [List.getElem?_map]at gf
  cases hmp:mp[i]? with
  | none=>rw [hmp]at gf;cases gf
  | some o =>
   rw [hmp]at gf
   cases o with
   | none=>cases gf
   | some j =>
    have e4:σ[j]?=some (some v):=by
     have q:(σ[j]?).join=some v:=Ya6 gf
     cases hj:σ[j]? with
     | none=>rw [hj]at q;cases q
     | some y=>rw [hj]at q;exact Ycg some q
    obtain⟨a1,a2,a3,a4⟩:=ok.map i j x hmp e1
    obtain⟨m0,hn0,iy⟩:=I.loc
    obtain⟨u,r,l⟩:=iy j x v a1 e4 (a2.elim (λz=>.inr (.inl z)) λz=>.inr (.inr z))
    refine⟨u,r,.inr ⟨?_,?_⟩⟩
    ·exact Fp a4
    ·rcases l with⟨l1,_⟩ | ⟨_,c,l2,l3⟩
     ·have l1:X.env.scope.names.lookup x=some .local:=l1
      rcases a2 with a2 | a2 <;> rw [a2]at l1 <;> cases l1
     ·obtain⟨c',bo⟩:∃c',(cellsFrom (s.heap.objs.size+1+1) scope.names (C2 X.env.cells scope.names [])).lookup x=some c':=Ey (D1 a3)
      have:c'=c:=by
       rcases lw x c' bo with⟨_,z⟩ | z
       ·have:=ok.ownc _ z rfl
        rw [a4]at this;cases this
       ·exact Ya6 (z.symm.trans l2)
      subst this
      exact⟨c',bo,l3.keeps keep⟩
 ·exact jy x c e
 ·show upd H s.heap.objs.size (.lst []) (s.heap.objs.size+1)=none
  rw [A7 (Nat.succ_ne_self _)];exact vn
 ·show upd H s.heap.objs.size (.lst []) c=none
  rcases lw x c e with⟨z,_⟩ | z
  ·rw [A7 (Nat.ne_of_gt (Yar (Yb4 (Ycl _)) z))]
   exact I.hok.fresh (Yak (Ydb (Ycs _)) z)
  ·obtain⟨v,y⟩:=I.cell x c z
   rw [A7 (Yai y.lt)];exact I.freeC x c z
 ·obtain⟨n,e⟩:=ba
  exact⟨Yaz _,[],n,.nil,e⟩
 ·show(Fn mp σ).length=N'.length
  unfold Fn
  rw [Yab,ok.len]
theorem Sd{aa:List (Addr×Obj)}{σ:St}{H:Hp}{s:Shared}{it:Addr}{fp:List Addr}{tn:Nat->Heap->Prop}{J:It}{Q:Addr->Hp->Prop}{E:Value->Shared->Prop}{RR:Value->Addr->Result->Shared->Prop}
  (ok:CompOkC X.N X.env.scope.names scope.names N' mp) (hk:scope.kind=.function) (hc:X.calm=true) (I:Inv X aa σ H s) (T:Turn X.prog X.w X.K tg J fp it tn) (st:tn 0 s.heap) (hf:∀b∈fp,Hl X aa H b)
  (hg:∀C s H fp,PG (Bj X N' scope C s H fp) tg g) (ht:∀C s H fp,PIfs (Bj X N' scope C s H fp) bp tst) (he:∀C s H fp,PE (Bj X N' scope C s H fp) bz te)
  (h:∀p,H p=none->Pc p J g tst te (Q p) (Fn mp σ) (upd H p (.lst [])))
  (x3:∀C s' H',Inv X aa σ H' s'->(∃m,s'.heap.Ns C m)->H' C=none->X.s₀.heap.objs.size<=C->C≠X.env.locals->(∀x c,X.env.cells.lookup x=some c->c≠C)->(∀q∈X.pn++aa,q.1≠C)->Q s.heap.objs.size H'->RR (.ref s.heap.objs.size) C (.ok .next) s') :
  wpAny (model X.prog X.w) X.A (newList []) (λacc s₃=>wpAny (model X.prog X.w) X.A (newFunctionEnv scope X.env.globals (C2 X.env.cells scope.names []) [] X.env.qual none .none (some X.env)) (λix s₄ =>
   codeAny (model X.prog X.w) X.A (.compStart (.ListComp bz [⟨tg,iter,bp,0⟩] scope pos) 0 (.ref it) acc { ix with scope:=relabel scope X.env }) (RR acc ix.locals) s₄) E s₃) E s:=by
 refine Ybd (Lo ?_)
 dsimp only
 generalize j9:s.heap.push { cls:=.type "list",dict:=none,data:=.seq ([]:List Value).toArray }=H2
 have hC:H2.objs.size=s.heap.objs.size+1:=by rw [<- j9,Yce]
 have dh:∀b o,H2.get? b=some o->(pushCells (H2.push { cls:=.type "dict",data:=.dict #[] }) scope.names).get? b=some o:=λb o e=>pushCells_keeps _ _ b o (Heap.get?_push_of_some _ e)
 have keep:∀b o,s.heap.get? b=some o->(pushCells (H2.push { cls:=.type "dict",data:=.dict #[] }) scope.names).get? b=some o:=λb o e=>dh b o (j9 ▸ Heap.get?_push_of_some _ e)
 have ba:∃n,(pushCells (H2.push { cls:=.type "dict",data:=.dict #[] }) scope.names).get? s.heap.objs.size=some { cls:=.type "list",data:=.seq #[] n } :=
  ⟨_,dh _ _ (j9 ▸ Heap.get?_push_size _ rfl)⟩
 have d4₁:(pushCells (H2.push { cls:=.type "dict",data:=.dict #[] }) scope.names).Ns H2.objs.size λ_=>none:=(Heap.Ns.new H2 (.type "dict")).keeps (pushCells_keeps _ _)
 have ve:∀x∈scope.names,x.2=.free->∃c,X.env.cells.lookup x.1=some c:=λx hx e=>I.ok.has x.1 (ok.free x hx e)
 have jy:∀x c,(cellsFrom (H2.objs.size+1) scope.names (C2 X.env.cells scope.names [])).lookup x=some c->∃v,(pushCells (H2.push { cls:=.type "dict",data:=.dict #[] }) scope.names).IsCell c v:=λx c e=>by
  refine Lm (h:=H2.push { cls:=.type "dict",data:=.dict #[] }) (λy d z=>?_) x c (by rw [Yce];exact e)
  obtain⟨v,q⟩:=I.cell y d (El ve (λx c e=>by simp at e) y d z)
  exact⟨v,q.keeps λb o e=>Heap.get?_push_of_some _ (j9 ▸ Heap.get?_push_of_some _ e)⟩
 generalize pushCells (H2.push { cls:=.type "dict",data:=.dict #[] }) scope.names=h₁ at keep ba d4₁ jy
 have j7:∀b∈fp,∃o,s.heap.get? b=some o:=λb hb=>let⟨o,e,_⟩:=T.obj _ _ st b hb;⟨o,e⟩
 have ff:s.heap.objs.size<=H2.objs.size:=by rw [hC];exact Ycs _
 have I0:=I.comp0C (tn:=tn 0) (C:=H2.objs.size) (tk:=s.toks) ok hk hf j7 hC ⟨_,d4₁⟩ keep ba jy
 have ol:tn 0 h₁:=T.keep _ _ _ st λb hb o e=>keep b o e
 obtain⟨W,⟨m0,w0⟩,turn⟩:=h _ (I.hok.fresh (Yad _))
 have gn:∀b∈fp,b∉frs X.stack:=I0.ok.exfs
 have dq:∀{H':Hp},(∀b∈fp,H' b=none)->∀b∈fp,Hl (Bj X N' scope H2.objs.size s H fp) [] H' b:=λhn b hb =>
  ⟨hn b hb,(I0.ok.exf b hb).1,gn b hb,.inl hb,(I0.ok.exf b hb).2,λq hq=>(nomatch hq)⟩
 have loop:∀s₃:Shared,s₃={ s with heap:=h₁ } ->
   codeAny (model X.prog X.w) X.A (.compLoop (.ListComp bz [⟨tg,iter,bp,0⟩] scope pos) 0 (.ref it) (.ref s.heap.objs.size) (compEnvC scope (cellsFrom (H2.objs.size+1) scope.names (C2 X.env.cells scope.names [])) H2.objs.size X.env)) (RR (.ref s.heap.objs.size) H2.objs.size) s₃:=by
  rintro s₃ rfl
  refine G9 (λn s'=>∃i acc σ' H',Inv (Bj X N' scope H2.objs.size s H fp) [] σ' H' s'/\tn i s'.heap/\(∀b∈fp,H' b=none)/\W i n acc σ' H') ?_ m0
   ⟨0,[],_,_,I0,ol,λb hb=>by rw [A7 (Yai (let⟨_,e⟩:=j7 b hb;Yae e))];exact(hf b hb).1,w0⟩
  rintro n s3 ⟨i,acc,σ3,H3,I3,st3,fr3,w3⟩
  rcases turn i n acc σ3 H3 w3 with⟨stop,qn⟩ | ⟨go,N,hN,step⟩
  ·refine thn (T.done (Bj X N' scope H2.objs.size s H fp) rfl rfl rfl hc i [] s3 σ3 H3 _ I3 (dq fr3) st3 stop) λr s4 ⟨hr,I4⟩=>?_
   subst hr
   refine x3 _ s4 H3 ?_ (let⟨m,hm,_⟩:=I4.loc;⟨m,hm⟩) I4.free (Yak I.sz ff) (Nat.ne_of_gt (Yar I.lt ff)) (λx c e=>?_) (λq hq=>?_) qn
   ·exact I.call' I4.os I4.base I4.hok I4.bare λb hb=>let⟨_,f1,_,f3,f4,f5⟩:=hf b hb;⟨f3,f1,f4,f5⟩
   ·obtain⟨v,z⟩:=I.cell x c e
    exact Yai (Yar z.lt ff)
   ·exact Yai (Yar (Yae (I.pin q hq).1) ff)
  ·refine thn (T.item (Bj X N' scope H2.objs.size s H fp) rfl rfl rfl hc i [] s3 σ3 H3 _ I3 (dq fr3) st3 go) λr s4 ⟨u,hr,h4⟩=>?_
   subst hr
   refine thn h4 λ_ s5 i5=>?_
   obtain⟨x,H5,I5,r5,y5,st5,fr5⟩:=i5
   have I5':=I5.pinned (dq fr5) (T.obj _ _ st5)
   refine thn (hg _ _ _ _ _ s5 σ3 H5 x u _ I5' r5 (step x H5 y5)) λ_ s6 iz=>?_
   obtain⟨σ6,H6,I6,q6⟩:=iz
   refine thn (ht _ _ _ _ _ s6 σ6 H6 _ I6 q6) λb s7 ⟨H7,I7,q7⟩=>?_
   have again:∀{σ8:St} {H8:Hp} {gl:List V} {s8:Shared},Inv (Bj X N' scope H2.objs.size s H fp) ([]++Gj fp s5.heap) σ8 H8 s8->(∃m',m' < n/\W (i+1) m' gl σ8 H8) ->
     ∃m,m < n/\∃i acc σ' H',Inv (Bj X N' scope H2.objs.size s H fp) [] σ' H' s8/\tn i s8.heap/\(∀b∈fp,H' b=none)/\W i m acc σ' H':=λ{σ8 H8 gl s8} I8 hw=>by
    obtain⟨m',hm,w8⟩:=hw
    refine⟨m',hm,i+1,gl,σ8,H8,I8.unpinned,T.keep _ _ _ st5 λb hb o e=>(I8.pin (b,o) (Ya4 _ (Ya4 _ (Cm hb e)))).1,λb hb=>?_,w8⟩
    obtain⟨o,e,d⟩:=T.obj _ _ st5 b hb
    exact(I8.pin (b,o) (Ya4 _ (Ya4 _ (Cm hb e)))).2.1
   cases b with
   | false =>
    rw [Yaj Yag]
    rw [Yaj Yag]at q7
    exact again I7 (hN _ _ _ q7)
   | true =>
    rw [Yao rfl]
    rw [Yao rfl]at q7
    refine thn (he _ _ _ _ _ s7 σ6 H7 _ I7 q7) λy s8 iq=>?_
    obtain⟨v,H8,I8,r8,ac,e8,z8,w8⟩:=iq
    refine thn (Gk (X:=Bj X N' scope H2.objs.size s H fp) _ s8 σ6 H8 (.ref s.heap.objs.size) [v] (.ref s.heap.objs.size) [y] (λ_ H9=>H9=upd H8 s.heap.objs.size (.lst (ac++[v]))) I8 rfl (.cons r8 .nil) ⟨_,ac,v,rfl,rfl,e8,z8,rfl⟩) λ_ s9 im=>?_
    obtain⟨_,H9,I9,_,e9⟩:=im
    subst e9
    exact again I9 (hN _ _ _ w8)
 exact codeAny_compStart_list (loop _ rfl) (T.self _ 0 _ _ _ ol (loop _ rfl))
theorem Vg{i:Nat}{y:Str}{py dy:Pos}(hc:X.calm=true)(hN:X.N.Nodup)(df:X.N[i]?=some y)(hy:X.env.scope.names.lookup y=some .local)
  (hi:PI X tg iter wi) (hg:∀C s H fp,PG (Bj X N' scope C s H fp) tg g) (ht:∀C s H fp,PIfs (Bj X N' scope C s H fp) bp tst) (he:∀C s H fp,PE (Bj X N' scope C s H fp) bz te)
  (ok:CompOkC X.N X.env.scope.names scope.names N' mp) (ko:swapsWith (.ListComp bz [⟨tg,iter,bp,0⟩] scope pos) (some (.Name y py)) dy.line X.env=pure true:=by rfl)
  (hk:scope.kind=.function:=by rfl) (hs:∀x,foldedSetIterable iter X.env x=pure x:=by intro _;rfl) :
  PS X (.Assign [.Name y py] (.ListComp bz [⟨tg,iter,bp,0⟩] scope pos) dy) (Su (Pd mp wi g tst te) (O7 i)):=by
 intro aa s σ H D I h
 rw [exec_Assign_Name_used _ _ _ _ ko]
 refine Yaa (wpAny_standAt (Yaa ?_))
 show wpAny _ _ (do let _ <- comprehension (.ListComp bz [⟨tg,iter,bp,0⟩] scope pos) scope X.env _ (newList []) false (eval iter X.env) (some (assign (.Name y py) X.env))) _ _ s
 refine Yaa (Yb1 (Yec (use:=some (assign (.Name y py) X.env)) (Q:=λ_ s'=>SP X aa D .next s') rfl hs (Dt λx hx e=>I.ok.has x.1 (ok.free x hx e)) hk ok.loc
  (thn (hi aa s σ H _ I h) λv s1 h1=>thn h1 λoe s2 h2=>?_)) (λ_ s' hq=>Yac (Yac hq)) λ_ _ e=>e)
 obtain⟨it,fp,tn,J,H2,e,I2,T,st2,f2,hw⟩:=h2
 subst e
 refine Sd (Q:=λp H'=>D.nx (σ.set i (some (.ref p))) H') (RR:=λacc C=>compPost (model X.prog X.w) X.A X.xe (some (assign (.Name y py) X.env)) (λ_ s'=>SP X aa D .next s') acc C) ok hk hc I2 T st2 f2 hg ht he hw ?_
 intro C s' H' I' d4 hn h1 hL bm je q
 obtain⟨m,hm⟩:=d4
 show wpAny _ _ (assign (.Name y py) X.env (.ref s2.heap.objs.size)) _ _ s'
 refine wpAny_assign_Name (Gi I' hN df (.inl hy) (v:=.ref s2.heap.objs.size) rfl (λon I'' d9=>?_) (.inr hy))
 obtain⟨a,hsb,ha⟩:=d9
 have yd:C≠a:=by
  rcases ha with rfl | ha
  ·exact hL
  ·exact(bm _ _ ha).symm
 refine⟨m,hm.sameBut hsb yd,λh' fg=>?_⟩
 exact⟨_,H',I''.letgo hn h1 hL bm je fg,q⟩
theorem Vh{wi:AI}{g:AG}{tst:AT}{te:AE}{i:Nat}{y:Str}{py dy:Pos}(hc:X.calm=true)(hN:X.N.Nodup)(df:X.N[i]?=some y)(hy:X.env.scope.names.lookup y=some .local)
  (hi:VI X tg iter wi) (hg:∀C s H fp,VG (Bj X N' scope C s H fp) tg g) (ht:∀C s H fp,VIfs (Bj X N' scope C s H fp) bp tst) (he:∀C s H fp,VE (Bj X N' scope C s H fp) bz te)
  (ok:CompOkC X.N X.env.scope.names scope.names N' mp) (ko:swapsWith (.ListComp bz [⟨tg,iter,bp,0⟩] scope pos) (some (.Name y py)) dy.line X.env=pure true:=by rfl)
  (hk:scope.kind=.function:=by rfl) (hs:∀x,foldedSetIterable iter X.env x=pure x:=by intro _;rfl) :
  VS X (.Assign [.Name y py] (.ListComp bz [⟨tg,iter,bp,0⟩] scope pos) dy) (Rr (Pn mp wi g tst te) (C6 i)):=(Vg (g:=cG X.K g) (tst:=cT X.K tst) (te:=cE X.K te) hc hN df hy hi (λC s H fp=>hg C s H fp) (λC s H fp=>ht C s H fp) (λC s H fp=>he C s H fp) ok ko hk hs).imp λD σ H zz66=>Ht zz66 fun τ μ nk nr nb nc hs hc h hq =>
 Gv (K:=X.K) ⟨τ,μ,_,hs,hc,h,λx μ1 v H1 S1 c1 rx hx=>hq.nx _ _ _ _ S1 ((hs.kp S1).set rx i) c1 hx⟩
end
theorem Ov(l:Addr)(us:Array Value)(n:Nat)(b:Addr)(dc:Option Addr)(sl:Array (Option Value))(ws:Array Value)(n2:Nat)(qv:¬(!us.isEmpty && Builtin.List.listTooLong (us.size+ws.size))=true)(gx:us.size<=sizeLine)(eh:us.size+ws.size<=sizeLine+1) :
  Meets (Builtin.«list.extend» ⟨[.ref l,.ref b],[]⟩) (λ_ R s=>s.heap.get? l=some { cls:=.type "list",dict:=none,data:=.seq us n,slots:=#[] }/\s.heap.get? b=some { cls:=.type "tuple",dict:=dc,data:=.seq ws n2,slots:=sl }/\R (.ok (.ret Value.none)) { s with heap:=s.heap.update l (Obj.mapSeq λx=>x++ws),toks:=s.toks }) :=
 .of_wp λprog w A R s h=>by
  obtain⟨hp,g,d,tk,os⟩:=s
  obtain⟨hl,hb,h⟩:=h
  have f1:=AutoSeq1.idx_int
  have f2:=AutoSeq1.sub_tuple_tuple
  have f3:=AutoSeq1.sub_list_list
  have f4:=AutoSeq1.sub_tuple_list
  have f5:=AutoSeq1.sub_list_tuple
  have z1:(us++ws).size<=sizeLine+1:=by rw [Array.size_append];exact eh
  wp_walk using (Yfh hl rfl (hz:=gx) (_hz':=z1)),AutoSeq1.wpAny_loadPart' hl,AutoSeq1.wpAny_loadPart' hb
  exact⟨_,rfl,h⟩
section
variable {X:Cx}
def Qfe(K:PySem.W.Frag):V->List V->Hp->VK->Prop:=λx vs H Q=>∃l b xs zs,x=.ref l/\vs=[.ref b]/\H l=some (.lst xs)/\Kl K H b zs/\xs.length+zs.length<=sizeLine/\Q .non (upd H l (.lst (xs++zs)))
theorem Yg:MtM X "list.extend" (Qfe X.K):=by
 intro aa s σ H x vs v us Q I rx rv h
 obtain⟨l,b,xs,zs,rfl,rfl,hH,hB,hz,q⟩:=h
 cases rx
 obtain⟨u,rfl,ru⟩:=rv.one
 cases ru
 obtain⟨z,ae,n,r,hl,e⟩:=I.lstM hH
 obtain⟨its2,r2,⟨o,e2,hc,n2,hd⟩,_⟩:=I.tuple hB
 obtain⟨oc,odi,od,os⟩:=o
 cases hc
 cases hd
 have fy:=r2.length
 have hsz:ae.toArray.size+its2.toArray.size<=sizeLine:=by rw [Yau,Yau];omega
 have jc:¬(!ae.toArray.isEmpty && Builtin.List.listTooLong (ae.toArray.size+its2.toArray.size))=true:=by
  rw [L4 hsz,Bool.and_false]
  exact Yag
 refine call_meets F.slot_list_extend ⟨_,e,rfl⟩ F.entry_list_extend (F.args_list_extend_2 _ _)
  (Ov l ae.toArray n b odi os its2.toArray n2 jc (by rw [Yau];omega) (by omega)) ⟨e,e2,?_⟩
 refine⟨.non,_,I.lset (its':=ae++its2) hH e (by simp) (r.append r2) ?_,rfl,q⟩
 rw [Yal]
 omega
def Zs:AV->AC:=λx xs μ R=>match x,xs with
 | .R a,[.D (.tuple ds)]=>opt (μ a) λm=>match m with
  | .lst ys=>ys.length+ds.length<=sizeLine/\R (.D .none) (Aj μ a (.lst (ys++ds.map .D)))
  | _=>False
 | _,_=>False
theorem Qb9:VMt X "list.extend" Zs:=by
 intro aa s σ H x xs v us Q I rx r zz37
 refine Ei zz37 λa as μ R ra rs hc h hq=>?_
 unfold Zs at h
 split at h
 ·rename_i a ds
  obtain⟨m,ey,h⟩:=Aw h
  split at h
  ·cases rs with
   | cons r1 r2 =>
    cases r2
    obtain⟨o,ho,vs,rfl,rl⟩:=hc _ _ ey
    obtain⟨b,zs,rfl,hb,hd⟩:=RelA.tup r1
    cases (show x=.ref a from ra)
    have hl:=hd.length
    exact Yg aa s σ H _ _ v us Q I rx r ⟨a,b,vs,zs,rfl,rfl,ho,hb.sq,by rw [<- rl.length,hl];exact h.1,hq _ _ _ _ (Kp.put ho trivial _) (hc.put ho trivial (Bx (rl.append hd.rel))) Ic h.2⟩
  ·exact h.elim
 ·exact h.elim
end
section
variable {prog:Program}{w:World}{A:Around}{E:Value->Shared->Prop}{s:Shared}{z TI TO i1 i2 l1 l2:Addr}{xs ys:Array Value}{St1 St2:Nat->Heap->Prop}{k:Nat}
end
section
variable {prog:Program}{w:World}{A:Around}{E:Value->Shared->Prop}{s:Shared}
end
section
variable {X:Cx}{aa:List (Addr×Obj)}{σ:St}{H:Hp}{s:Shared}{b:Bool}{a c:Addr}{xs ys:List V}
end
section
variable {X:Cx}{e1 e2:Expr}{ta tb:AE}{pos p:Pos}
end
end L2
namespace K23
open PySem L2
def top(i:Nat):Stmt:=PySem.Challenge.pw_pileduel_k23_readings.main.body.getD i (.Pass ⟨0,0,0,0⟩)
abbrev sAb:Stmt:=top 1
abbrev sAs:Stmt:=top 2
abbrev sHw:Stmt:=top 3
abbrev sLa:Stmt:=top 4
abbrev sTh:Stmt:=top 5
abbrev sOe:Stmt:=top 6
abbrev sEe:Stmt:=top 7
abbrev sRd:Stmt:=top 9
abbrev sAt:Stmt:=top 10
abbrev Zt:Stmt:=top 11
abbrev Zu:Stmt:=top 13
abbrev sDr:Stmt:=top 14
abbrev sAr:Stmt:=top 15
abbrev sCh:Stmt:=top 16
abbrev sPt:Stmt:=top 17
abbrev sAl:Stmt:=top 18
abbrev Jd:Stmt:=top 19
section
variable {P:Program}{w:World}{K:PySem.W.Frag}{mg:Str->Option Value}{base:Heap}{f:Addr}{fd:FuncData}
def Fi(i:Int):AV:=.D (.int i)
def E9(sd nm:Int)(l:Addr):MO:=.dk [(.inr "seed",.D (.int sd)),(.inr "number",.D (.int nm)),(.inr "left",.R l)]
structure PotAt(μ:M)(a l:Addr)(sd nm:Int)(ns:List Int):Prop where
 ha:μ a=some (E9 sd nm l)
 hl:μ l=some (.lst (ns.map Fi))
 s0:0<=sd
 s1:sd < 2147483648
 n0:0<=nm
 p0:∀n∈ns,0<=n
 ne:a≠l
def Pot(μ:M)(a l:Addr):Prop:=∃sd nm ns,PotAt μ a l sd nm ns
theorem Qih:(.inr "seed" : Key)≠.inr "number" := by decide +kernel
theorem Qii:(.inr "seed" : Key)≠.inr "left" := by decide +kernel
theorem Qij:(.inr "number" : Key)≠.inr "left" := by decide +kernel
theorem Qff:("seed" : Str) ≠ "number" := by decide +kernel
theorem Qik:("seed" : Str) ≠ "left" := by decide +kernel
theorem Qil:("number" : Str) ≠ "left" := by decide +kernel
theorem Ow{sd nm:Int}{l:Addr}:dget (E9 sd nm l) (.str "seed")=some (some (.D (.int sd))):=Ycg some Cv
theorem Zv{sd nm:Int}{l:Addr}:dget (E9 sd nm l) (.str "number")=some (some (.D (.int nm))):=Ycg some ((Cc Qih).trans Cv)
theorem Vi{sd nm:Int}{l:Addr}:dget (E9 sd nm l) (.str "left")=some (some (.R l)):=Ycg some ((Cc Qii).trans ((Cc Qij).trans Cv))
theorem Qcg{sd nm v:Int}{l:Addr}:dput (E9 sd nm l) (.str "seed") (.D (.int v))=some (E9 v nm l):=by
 refine Ycg some (Ycg MO.dk ?_)
 simp [Eo,Qff.symm,Qik.symm]
theorem Zw{sd nm v:Int}{l:Addr}:dput (E9 sd nm l) (.str "number") (.D (.int v))=some (E9 sd v l):=by
 refine Ycg some (Ycg MO.dk ?_)
 simp [Eo,Qff,Qil.symm]
theorem Lp{sd nm:Int}{l:Addr}:dsize (E9 sd nm l) < sizeLine:=A0 (n:=3) (by decide)
def Ch(a l:Addr)(μ μ':M):Prop:=∀b m,b≠a->b≠l->μ b=some m->μ' b=some m
theorem Ch.refl{a l:Addr}{μ:M}:Ch a l μ μ:=λ_ _ _ _ h=>h
theorem Ch.trans{a l:Addr}{μ ν ρ:M}(h:Ch a l μ ν)(k:Ch a l ν ρ):Ch a l μ ρ:=λb m h1 h2 e=>k b m h1 h2 (h b m h1 h2 e)
theorem Ch.new{a l p:Addr}{μ ν:M}{o:MO}(h:Ch a l μ ν)(e:ν p=none):Ch a l μ (Aj ν p o):=λb m h1 h2 q=>by
 have:=h b m h1 h2 q
 rw [Ag (by intro z;subst z;rw [e]at this;cases this)];exact this
theorem Ch.put{a l p:Addr}{μ ν:M}{o:MO}(h:Ch a l μ ν)(e:μ p=none):Ch a l μ (Aj ν p o):=λb m h1 h2 q=>by
 rw [Ag (by intro z;subst z;rw [e]at q;cases q)];exact h b m h1 h2 q
theorem Ch.a{a l:Addr}{μ ν:M}{o:MO}(h:Ch a l μ ν):Ch a l μ (Aj ν a o):=λb m h1 h2 q=>by rw [Ag h1];exact h b m h1 h2 q
theorem Ch.l{a l:Addr}{μ ν:M}{o:MO}(h:Ch a l μ ν):Ch a l μ (Aj ν l o):=λb m h1 h2 q=>by rw [Ag h2];exact h b m h1 h2 q
theorem PotAt.other{μ:M}{a l p:Addr}{sd nm:Int}{ns:List Int}{o:MO}(h:PotAt μ a l sd nm ns)(h1:a≠p)(h2:l≠p):PotAt (Aj μ p o) a l sd nm ns :=
 ⟨by rw [Ag h1];exact h.ha,by rw [Ag h2];exact h.hl,h.s0,h.s1,h.n0,h.p0,h.ne⟩
theorem Pot.other{μ:M}{a l p:Addr}{o:MO}(h:Pot μ a l)(h1:a≠p)(h2:l≠p):Pot (Aj μ p o) a l:=let⟨sd,nm,ns,h⟩:=h;⟨sd,nm,ns,h.other h1 h2⟩
theorem Pot.ne{μ:M}{a l p:Addr}(h:Pot μ a l)(e:μ p=none):a≠p/\l≠p:=by
 obtain⟨sd,nm,ns,h⟩:=h
 exact⟨λz=>by(subst z;rw [h.ha]at e;cases e),λz=>by(subst z;rw [h.hl]at e;cases e)⟩
theorem Pot.new{μ:M}{a l p:Addr}{o:MO}(h:Pot μ a l)(e:μ p=none):Pot (Aj μ p o) a l:=h.other (h.ne e).1 (h.ne e).2
abbrev nDr:List Str:=["_law_deal_here","_law_many","_law_number","_law_one","_law_other"]
theorem Yh:FnScope nDr ["_law_deal_here","_law_many"] (Af sDr):=⟨rfl,rfl,rfl,by decide +kernel,rfl,by decide +kernel,by decide +kernel⟩
def Yi:ASp:=λxs μ R=>∃(a l:Addr) (bg:Nat),xs=[.R a,.D (.int bg)]/\Pot μ a l/\0 < bg/\bg<=1000000/\∀(v:Nat) (μ':M),v < bg->Pot μ' a l->Ch a l μ μ'->R (.D (.int v)) μ'
theorem Qch{v:Int}{bg:Nat}(h0:0<=v)(h1:v < bg):∃n:Nat,v=n/\n < bg:=⟨v.toNat,by omega,by omega⟩
theorem Vj(x:Int){m:Int}(h:0 < m):0<=x % m:=Int.emod_nonneg x (by omega)
theorem Vk(x:Int){m:Int}(h:0 < m)(h2:m<=2147483648):x % m < 2147483648:=Int.lt_of_lt_of_le (Int.emod_lt_of_pos x h) h2
theorem Zx{x:Int}{bg:Nat}{Q:Int->Prop}(h0:0 < bg)(h:∀v:Nat,v < bg->Q v):Q (x % bg):=by
 obtain⟨v,ev,hv⟩:=Qch (Int.emod_nonneg x (show(bg:Int)≠0 by omega)) (Int.emod_lt_of_pos x (show 0 < (bg:Int) by omega))
 rw [ev];exact h v hv
theorem Qfg{n:Nat}(F:Fun K "_law_draw" "_law_draw" sDr f fd) (ay:mg "len" = none):FnOk P w K mg base Gn (n+1) f fd ["_law_deal_here","_law_many"] (K5 K 2 Yi):=by
 refine F.vok Yh λbd A outer s H E hr=>⟨_,(Ae (T5 Ybf (VW.pt (Nw (Bz (Gu hr) (C8 (Ck hr) (vv 0) Du) Ah (nomark _)) (Kz (Bz Qem (Bn J1 rfl ay Yd8 (Aa (C8 (Ck hr) (vv 0) Du) Ac)) Ah (nomark _))))) (Al (Fv (Ck hr) (vv 0) Du (T2 PySem.F.slot_list_pop PySem.F.type_list_pop Qeq (C8 (Ck hr) (vv 0) Du)))))
   (Ae (A3 (i:=2) Yh.nd rfl (Or.inl rfl) (C8 (Ck hr) (vv 0) Du))
   (Ae (En (Bz Qem (vv 2) Ah (nomark _)) (Ae (Fv (Ck hr) (vv 0) Du (Ba Qbh (vv 2) (vv 1)))
   (Al (Bf (Ba Ha (vv 2) (vv 1))))) Cs)
   (Ae (A3 (i:=3) Yh.nd rfl (Or.inl rfl) (Ba Ha (Ba Ef (Ba J0 (C8 (Ck hr) (vv 0) Du) Ah) Ah) Ah))
   (Ae (Fv (Ck hr) (vv 0) Du (Ba Ha (Ba Ef (Ba J0 (vv 3) Ah) Ah) Ah))
   (Ae (A3 (i:=4) Yh.nd rfl (Or.inl rfl) (Ba Ha (Ba J0 (C8 (Ck hr) (vv 0) Du) (C8 (Ck hr) (vv 0) Du)) Ah))
   (Al (Bf (Ba Ha (Ba Ef (Ba J0 (Ba Ha (Ba J0 (vv 3) (vv 3)) Ah) Ah) (vv 4)) (vv 1)))))))))),?_⟩
 rintro xs μ R _ ⟨a,l,bg,rfl,⟨sd,nm,ns,D0⟩,h0,h1,q⟩
 refine Br (fun τ μ'=>∃sd nm ns,τ=[some (.R a),some (.D (.int bg)),none,none,none]/\PotAt μ' a l sd nm ns/\Ch a l μ μ') (λW' zy=>?_) ?_
 ·refine Xb (λm τ μ'=>∃sd nm ns,τ=[some (.R a),some (.D (.int bg)),none,none,none]/\m=ns.length/\PotAt μ' a l sd nm ns/\Ch a l μ μ') ns.length ⟨sd,nm,ns,rfl,rfl,D0,Ch.refl⟩ ?_
  rintro m τ μ' W ⟨sd,nm,ns,rfl,rfl,D,S⟩ hW
  refine Ad D.ha (Ad Zv (Ad rfl (ieq (λc=>?_) (λc=>Sl rfl (zy _ _ ⟨sd,nm,ns,rfl,D,S⟩)))))
  refine Ad D.ha (Ad Vi (Ad rfl (Ad D.hl (dif (λc2=>?_) (λc2=>zy _ _ ⟨sd,nm,ns,rfl,D,S⟩)))))
  have am:ns≠[]:=by rintro rfl;exact absurd c2 (by decide)
  have hgl:(ns.map Fi)[(ns.map Fi).length - 1]?=some (Fi (ns.getLast am)):=by rw [<- List.getLast?_eq_getElem?,List.getLast?_map,List.getLast?_eq_some_getLast am];rfl
  have jg:(ns.map Fi).dropLast=ns.dropLast.map Fi:=by rw [List.map_dropLast]
  have ha2:Aj μ' l (.lst (ns.map Fi).dropLast) a=some (E9 sd nm l):=by rw [Ag D.ne];exact D.ha
  have zab:0 < ns.length:=List.length_pos_iff.mpr am
  refine Ad D.ha (Ad Vi (Ad rfl ⟨Ad D.hl trivial,Ad D.hl (Ad hgl (Ad ha2 (Ad Zw ⟨Lp,hW ns.dropLast.length _ _ (by rw [List.length_dropLast];omega) ⟨sd,ns.getLast am,ns.dropLast,rfl,rfl,?_,S.l.a⟩⟩)))⟩))
  exact⟨Ab,by rw [Ag D.ne.symm,Ab,jg],D.s0,D.s1,D.p0 _ (List.getLast_mem am),λz hz=>D.p0 z ((List.dropLast_sublist ns).subset hz),D.ne⟩
 ·rintro τ μ' ⟨sd,nm,ns,rfl,D,S⟩
  refine Cj (Ad D.ha (Ad Zv (Ad rfl (Cj (dif (λc=>?_) (λc=>?_))))))
  ·refine Cj ⟨⟨by omega,by omega⟩,Ad D.ha (Ad Zw ⟨Lp,(by show(0:Int) < _;omega),_,Sub.refl,?_⟩)⟩
   refine Zx (Q:=λi=>R (.D (.int i)) _) h0 λv hv=>?_
   exact q v _ hv ⟨sd,nm / bg,ns,Ab,by rw [Ag D.ne.symm];exact D.hl,D.s0,D.s1,Int.ediv_nonneg D.n0 (by omega),D.p0,D.ne⟩ S.a
  ·refine Br (fun τ μ1=>∃one:Int,τ=[some (.R a),some (.D (.int bg)),some (.D (.int nm)),some (.D (.int one)),none]/\μ'=μ1/\0<=one/\one < 2147483648) (λW hW=>?_) ?_
   ·exact Ad D.ha (Ad Ow (Ad rfl ⟨.inr ⟨by decide,by decide⟩,(by show(0:Int) < _;decide),hW _ _ ⟨_,rfl,rfl,Vj _ (by decide),Vk _ (by decide) (by decide)⟩⟩))
   rintro τ μ1 ⟨one,rfl,rfl,o0,o1⟩
   refine Br (fun τ μ1=>∃wf:Int,τ=[some (.R a),some (.D (.int bg)),some (.D (.int nm)),some (.D (.int one)),none]/\PotAt μ1 a l wf nm ns/\Ch a l μ μ1) (λW hW=>?_) ?_
   ·exact⟨.inr ⟨by decide,by decide⟩,(by show(0:Int) < _;decide),Ad D.ha (Ad Qcg ⟨Lp,hW _ _ ⟨_,rfl,⟨Ab,by rw [Ag D.ne.symm];exact D.hl,Vj _ (by decide),Vk _ (by decide) (by decide),D.n0,D.p0,D.ne⟩,S.a⟩⟩)⟩
   rintro τ μ2 ⟨wf,rfl,D2,S2⟩
   have w0:=D2.s0
   have w1:=D2.s1
   refine Cj (Ad D2.ha (Ad Ow (Ad rfl (Ad D2.ha (Ad Ow (Ad rfl ⟨.inl ⟨by omega,by omega⟩,(by show(0:Int) < _;decide),?_⟩))))))
   refine⟨.inl ⟨by omega,by omega⟩,(by show(0:Int) < _;decide),.inr ⟨by decide,by decide⟩,(by show(0:Int) < _;omega),_,Sub.refl,?_⟩
   exact Zx (Q:=λi=>R (.D (.int i)) _) h0 λv hv=>q v _ hv ⟨wf,nm,ns,D2⟩ S2
abbrev nDe:List Str:=["_law_script","_law_base","_law_cell","_law_cells","_law_number"]
theorem Vl:FnScope nDe ["_law_script","_law_base"] (Af Zu):=⟨rfl,rfl,rfl,by decide +kernel,rfl,by decide +kernel,by decide +kernel⟩
theorem Qfh:(["_law_cell"]:List Str).Nodup:=by decide +kernel
theorem Qfi:(["_law_cell"]:List Str).Nodup:=by decide +kernel
def Fj(ns:List Int):PyData:=.list (ns.map .int)
theorem Se(μ:M)(ns:List Int):items μ (.D (Fj ns))=some (ns.map Fi):=by
 show some ((ns.map PyData.int).map AV.D)=_
 rw [Ya0];rfl
theorem Vm{α:Type}(g:α->AV)(xs:List α)(lo hi:Option Int):∃ys:List α,Nv (xs.map g) lo hi=ys.map g/\ys.length<=xs.length:=by
 refine⟨(xs.drop (HT.sIx (xs.map g).length 0 lo)).take (HT.sIx (xs.map g).length (xs.map g).length hi - HT.sIx (xs.map g).length 0 lo),?_,?_⟩
 ·unfold Nv
  rw [<- List.map_drop,<- Yep]
 ·rw [Ybl,Ydn];omega
def Qci:ASp:=λxs μ R=>∃(ns:List Int) (b:Nat),xs=[.D (Fj ns),.D (.int b)]/\b < 1000/\ns.length<=63/\∀(a l:Addr) (μ':M),μ a=none->μ l=none->Pot μ' a l->Sub μ μ'->R (.R a) μ'
def Ox(i:Int):Int:=if 0 - i > i then 0 - i else i
theorem Qcj(i:Int):0<=Ox i:=by unfold Ox;split <;> omega
theorem Qfj{n:Nat}(F:Fun K "_law_deal" "_law_deal" Zu f fd) (ci:mg "max" = none) (cz:mg "list" = none) (bx:mg "reversed" = none):FnOk P w K mg base Gn (n+1) f fd ["_law_script","_law_base"] (K5 K 2 Qci):=by
 refine F.vok Vl λbd A outer s H E hr=>⟨_,(Ae (Xa (i:=3) (N':=["_law_cell"]) (mp:=[none]) rfl Vl.nd rfl rfl (Bc (Fq (vv 0) (E3 (vv 1)) (E3 Ah))) (λ_ _ _ _=>(Am (i:=0) Qfh rfl (Or.inl rfl) (Or.inr rfl))) (λ_ _ _ _=>Cz) (λ_ _ _ _=>(Bn (T1 rfl) rfl ci Ye4 (Aa (vv 0) (Aa (Ba Qek Ah (vv 0)) Ac)))) (Bm (N:=nDe) (pn:=(Af Zu).names) (by decide +kernel)))
   (Ae (A3 (i:=4) Vl.nd rfl (Or.inl rfl) (Ba Ef Ah (vv 1)))
   (Ae (B2 Ybf rfl (Bc (vv 3)) (Am (i:=2) Vl.nd rfl (Or.inl rfl)) (Al (A3 (i:=4) Vl.nd rfl (Or.inl rfl) (Ba Ha (Ba Ef (Ba J0 (vv 4) Ah) (Ba Ha (vv 2) Ah)) Ah))))
   (Al (Bf (Xf (La (vv 4) (La Ah (La (Xu rfl rfl cz rfl bx (Cu (N':=["_law_cell"]) (mp:=[none]) rfl (Bc (vv 3)) (λ_ _ _ _=>(Am (i:=0) Qfi rfl (Or.inl rfl) (Or.inr rfl))) (λ_ _ _ _=>(Ft (Bz Qhu (vv 0) (Ba Qel Ah Ah) (nomark _)))) (λ_ _ _ _=>(vv 0)) (Bm (N:=nDe) (pn:=(Af Zu).names) (by decide +kernel)))) Xe))) (by decide +kernel))))))),?_⟩
 rintro xs μ R _ ⟨ns,b,rfl,hb,hn,q⟩
 obtain⟨cs,ecs,bm⟩:=Vm Fi ns (some (b:Int)) (some 63)
 refine Br (fun τ μ'=>∃pc,τ=[some (.D (Fj ns)),some (.D (.int b)),none,some (.R pc),none]/\μ pc=none/\μ' pc=some (.lst ((cs.map Ox).map Fi))/\Sub μ μ') (λW hW=>?_) ?_
 ·refine Ad (Se _ ns) λp hp=>?_
  rw [ecs]
  refine Ad (An Ab) λpc jo=>?_
  have am:p≠pc:=by intro z;subst z;rw [Ab]at jo;cases jo
  have ig:μ pc=none:=by rw [Ag am.symm]at jo;exact jo
  refine cmap cs Fi (λi=>Fi (Ox i)) (fun τ=>∃o,τ=[o]) ⟨_,rfl⟩ Ab (seven (by omega)) (λacc=>An (by rw [Ag am,Ag am,Ab])) ?_ ?_
  ·rintro i x τ' acc W2 hi ⟨o,rfl⟩ hW2
   exact hW2 _ ⟨_,rfl⟩
  ·refine hW _ _ ⟨pc,rfl,ig,?_,((Sub.refl.new hp).new ig).new ig⟩
   rw [Ab,Ya0];rfl
 rintro τ μ1 ⟨pc,rfl,hpn,jo,S1⟩
 refine Br (fun τ μ2=>∃sd:Int,τ=[some (.D (Fj ns)),some (.D (.int b)),none,some (.R pc),some (.D (.int sd))]/\μ1=μ2/\0<=sd/\sd < 2147483648) (λW hW=>id (hW _ _ ⟨_,rfl,rfl,by omega,by omega⟩)) ?_
 rintro τ μ2 ⟨sd0,rfl,rfl,z0,z1⟩
 refine Br (fun τ μ2=>∃(o2:Option AV) (sd:Int),τ=[some (.D (Fj ns)),some (.D (.int b)),o2,some (.R pc),some (.D (.int sd))]/\μ1=μ2/\0<=sd/\sd < 2147483648) (λW hW=>?_) ?_
 ·refine Ad (An jo) ?_
  refine Dd (λi τ μ2=>∃(o2:Option AV) (sd:Int),τ=[some (.D (Fj ns)),some (.D (.int b)),o2,some (.R pc),some (.D (.int sd))]/\μ1=μ2/\0<=sd/\sd < 2147483648) ⟨none,sd0,rfl,rfl,z0,z1⟩ ?_ ?_ ?_
  ·rintro i τ μ2 ⟨o2,sd,rfl,rfl,_⟩
   exact An jo
  ·rintro i y τ μ2 W2 hy ⟨o2,sd,rfl,rfl,h0,h1⟩ hW2
   rw [List.getElem?_map]at hy
   obtain⟨c,hc,rfl⟩:=Yah.mp hy
   exact⟨.inr ⟨by decide,by decide⟩,(by show(0:Int) < _;decide),(by show(0:Int) < _;decide),hW2 _ _ ⟨_,_,rfl,rfl,Vj _ (by decide),Vk _ (by decide) (by decide)⟩⟩
  ·rintro τ μ2 ⟨o2,sd,rfl,rfl,h0,h1⟩
   exact hW _ _ ⟨_,_,rfl,rfl,h0,h1⟩
 rintro τ μ2 ⟨o2,sd,rfl,rfl,h0,h1⟩
 intro a ha
 have hac:a≠pc:=by intro z;subst z;rw [jo]at ha;cases ha
 have lx:Aj μ1 a (.dk []) pc=some (.lst ((cs.map Ox).map Fi)):=by rw [Ag hac.symm];exact jo
 refine Ad (An lx) λpl hpl=>?_
 have sf:a≠pl:=by intro z;subst z;rw [Ab]at hpl;cases hpl
 have pj:pc≠pl:=by intro z;subst z;rw [lx]at hpl;cases hpl
 have qt:μ1 pl=none:=by rw [Ag sf.symm]at hpl;exact hpl
 refine cmapf (cs.map Ox) Fi (λx=>decide ((10:Int) ^ (18:Int).toNat<=x)) Fi (fun τ=>∃o,τ=[o]) ⟨none,rfl⟩ Ab (seven (by rw [Yab];omega)) (λacc=>An (by rw [Ag pj,Ag pj];exact lx)) ?_ ?_
 ·rintro i x τ' acc W2 W3 hi ⟨o,rfl⟩ h2 h3
  exact⟨⟨by decide,by decide,by decide⟩,br (λc=>h2 c _ ⟨_,rfl⟩) (λc=>h3 c _ ⟨_,rfl⟩)⟩
 generalize ii:(cs.map Ox).filter (λx=>decide ((10:Int) ^ (18:Int).toNat<=x))=xs
 have zu:∀x∈xs,0<=x:=λx hx=>by
  rw [<- ii]at hx
  obtain⟨z,_,rfl⟩:=Yaf.mp (Ycd.mp hx).1
  exact Qcj z
 refine Ad Ab λl hl=>?_
 have fy:pl≠l:=by intro z;subst z;rw [Ab]at hl;cases hl
 have qe:a≠l:=by
  intro z;subst z
  rw [Ag sf,Ag sf,Ab]at hl;cases hl
 have z4:μ1 l=none:=by rw [Ag fy.symm,Ag fy.symm,Ag qe.symm]at hl;exact hl
 refine⟨by rw [Ag qe,Ag sf,Ag sf,Ab],_,Sub.refl,q a l _ (S1.none ha) (S1.none z4) ⟨sd,0,xs.reverse,Ab,?_,h0,h1,Int.le_refl 0,λz hz=>zu z (List.mem_reverse.mp hz),qe⟩ ?_⟩
 ·rw [Ag qe.symm,Ab,List.map_reverse]
 ·exact((((S1.new (S1.none ha)).new (S1.none qt)).new (S1.none qt)).new (S1.none z4)).new (S1.none ha)
end
section
variable {P:Program}{w:World}{K:PySem.W.Frag}{mg:Str->Option Value}{base:Heap}{f:Addr}{fd:FuncData}
def Ax(ns:List Nat):PyData:=.tuple (ns.map λ(n:Nat)=>.int n)
theorem Gf{α:Type} [DecidableEq α]:∀{xs ys:List α},xs.Nodup->(∀x∈xs,x∈ys)->xs.length<=ys.length
 | [],_,_,_=>Yaz _
 | x :: xs,ys,hn,h=>by
  have hx:=h x Yax
  obtain⟨hx1,lc⟩:=Yb5.mp hn
  have:=Gf (xs:=xs) (ys:=ys.erase x) lc λz hz=>(List.mem_erase_of_ne (by rintro rfl;exact hx1 hz)).mpr (h z (Yav _ hz))
  rw [List.length_erase_of_mem hx]at this
  have hp:0 < ys.length:=List.length_pos_of_mem hx
  simp only [List.length_cons];omega
theorem M6{κ:Type} [DecidableEq κ](k k':κ)(v:AV):∀(ab:List (κ×AV)),Cb (Eo ab k v) k'=if k'=k then some v else Cb ab k':=by
 intro ab
 unfold Eo
 split
 ·rename_i h
  induction ab with
  | nil=>simp at h
  | cons kv ab ih =>
   rw [Ya2]
   by_cases e:kv.1=k
   ·rw [Yao e]
    by_cases e2:k'=k
    ·rw [Yao e2,e2,e];exact Cv
    ·rw [Yaj e2]
     obtain⟨a,b⟩:=kv
     have e':a=k:=e
     subst e'
     rw [Cc (Yc3 e2),Cc (Yc3 e2)]
     by_cases h2:(ab.any λkv=>decide (kv.1=a))=true
     ·rw [ih h2,Yaj e2]
     ·congr 1
      refine(Ych λz hz=>?_).trans (List.map_id ab)
      rw [Yaj]
      ·rfl
      ·intro z2
       exact h2 (Ydo.mpr ⟨z,hz,Ybg z2⟩)
   ·rw [Yaj e]
    obtain⟨a,b⟩:=kv
    have h2:(ab.any λkv=>decide (kv.1=k))=true:=by
     rw [Yc6,Yba e,Bool.false_or]at h;exact h
    by_cases e3:a=k'
    ·subst e3
     rw [Cv,Yaj e];exact Cv.symm
    ·rw [Cc e3,Cc e3,ih h2]
 ·rename_i h
  induction ab with
  | nil =>
   by_cases e2:k'=k
   ·rw [Yao e2,e2];exact Cv
   ·rw [Yaj e2]
    show Cb ((k,v) :: []) k'=_
    rw [Cc (Yc3 e2)]
  | cons kv ab ih =>
   obtain⟨a,b⟩:=kv
   have h1:a≠k:=by
    intro z;apply h;rw [Yc6,Ybg z];rfl
   have h2:¬(ab.any λkv=>decide (kv.1=k))=true:=by
    intro z;apply h;rw [Yc6,z,Bool.or_true]
   show Cb ((a,b) :: (ab++[(k,v)])) k'=_
   by_cases e3:a=k'
   ·subst e3
    rw [Cv,Yaj h1];exact Cv.symm
   ·rw [Cc e3,ih h2,Cc e3]
theorem Dl{μ:M}(ns:List Nat):items μ (.D (Ax ns))=some (ns.map λ(n:Nat)=>.D (.int n)):=by
 show some ((ns.map λ(n:Nat)=>PyData.int n).map AV.D)=_
 rw [Ya0];rfl
theorem Qp{ns:List Nat}:PyData.canLayAll0 (ns.map λ(n:Nat)=>.int n)=true/\PyData.depthAll (ns.map λ(n:Nat)=>.int n)<=1:=by
 induction ns with
 | nil=>exact⟨rfl,by simp [PyData.depthAll]⟩
 | cons n ns ih =>
  simp only [List.map_cons,PyData.canLayAll0,PyData.depthAll,ih.1,Bool.and_true]
  refine⟨rfl,?_⟩
  have:=ih.2
  simp only [PyData.depth];omega
theorem Vn{κ:Type} [DecidableEq κ](ab:List (κ×AV))(k:κ)(v:AV):(Eo ab k v).length<=ab.length+1:=by
 unfold Eo
 split
 ·rw [Yab];omega
 ·rw [Yal];exact Yad _
def Dy(n:Nat):AV:=.D (.int n)
theorem Gg(ns:List Nat):dats (ns.map Dy)=some (ns.map λ(n:Nat)=>.int n):=by
 rw [show ns.map Dy=(ns.map λ(n:Nat)=>PyData.int n).map .D by rw [Ya0];rfl];exact Ci _
theorem G5:∀(ns:List Nat),Ak (ns.map λ(n:Nat)=>.int n)=true
 | []=>rfl
 | n :: ns=>by simp only [List.map_cons,Ak,Cano,G5 ns,Bool.and_self]
theorem Je:∀(ms ns:List Nat),cmpbs (ms.map λ(n:Nat)=>.int n) (ns.map λ(n:Nat)=>.int n)=true
 | [],_=>by simp only [List.map_nil,cmpbs]
 | _ :: _,[]=>by simp only [List.map_nil,List.map_cons,cmpbs]
 | m :: ms,n :: ns=>by
  simp only [List.map_cons,cmpbs,cmpb,Je ms ns,ite_self]
theorem unmap{α β:Type}{g:α->β}{B:List α}:∀{es:List β},(∀e∈es,e∈B.map g)->∃A:List α,es=A.map g/\A.length=es.length/\∀a∈A,a∈B
 | [],_=>⟨[],rfl,rfl,λ_ z=>nomatch z⟩
 | e :: es,h=>by
  obtain⟨A,rfl,hl,hA⟩:=unmap (es:=es) λx hx=>h x (Yav _ hx)
  obtain⟨a,ha,rfl⟩:=Yaf.mp (h e Yax)
  refine⟨a :: A,rfl,by simp,λb hb=>?_⟩
  rcases Yap.mp hb with rfl | hb
  ·exact ha
  ·exact hA b hb
end
section
variable {P:Program}{w:World}{K:PySem.W.Frag}{mg:Str->Option Value}{base:Heap}{f:Addr}{fd:FuncData}
theorem Qin{x:AV}{i:Nat}{u:AS}{k:ASt->M->Prop}{r:AV->M->Prop}{b c:ASt->M->Prop}{τ:ASt}{μ:M}(h:u k r b c (τ.set i (some x)) μ):Ny (Rr (vC x) (C6 i)) u k r b c τ μ:=h
theorem Qq(m n:Nat):Builtin.bitOr (m:Int) (n:Int)=((m ||| n:Nat):Int):=by
 have e1:∀k:Nat,Builtin.bitNot (k:Int)=-(k:Int) - 1:=λ_=>rfl
 unfold Builtin.bitOr
 rw [e1,e1]
 unfold Builtin.bitAnd
 rw [Yba (by omega),Yba (by omega)]
 show Builtin.bitNot (Builtin.bitNot (((Builtin.bitNot (-(m:Int) - 1)).toNat ||| (Builtin.bitNot (-(n:Int) - 1)).toNat:Nat):Int))=_
 have e2:∀k:Nat,(Builtin.bitNot (-(k:Int) - 1)).toNat=k:=λk=>by
  show(-(-(k:Int) - 1) - 1).toNat=k
  omega
 rw [e2,e2]
 show -(-((m ||| n:Nat):Int) - 1) - 1=_
 omega
theorem Vo(m n:Nat):Builtin.bitAnd (m:Int) (n:Int)=((m &&& n:Nat):Int):=by
 unfold Builtin.bitAnd
 rw [Ybg (by omega),Ybg (by omega)]
 rfl
def bts:List Nat->Nat:=List.foldl (λb k=>b ||| 2 ^ k) 0
abbrev nAb:List Str:=["stands","bits","stand"]
theorem Yj:FnScope nAb ["stands"] (Af sAb):=⟨rfl,rfl,rfl,by decide +kernel,rfl,by decide +kernel,by decide +kernel⟩
def Qck:ASp:=λxs μ R=>∃(x:AV) (ts:List Nat),xs=[x]/\items μ x=some (ts.map Dy)/\(∀t∈ts,t < 60)/\R (.D (.int (bts ts:Nat))) μ
theorem Qfk{n:Nat}(F:Fun K "as_bits" "as_bits" sAb f fd):FnOk P w K mg base Gn (n+1) f fd ["stands"] (K5 K 1 Qck):=by
 refine F.vok Yj λbd A outer s H E hr=>⟨_,(Ae (A3 (i:=1) Yj.nd rfl (Or.inl rfl) Ah)
   (Ae (B2 Ybf rfl (Bc (vv 0)) (Am (i:=2) Yj.nd rfl (Or.inl rfl)) (Al (A3 (i:=1) Yj.nd rfl (Or.inl rfl) (Ba Zo (vv 1) (Ba Qfc Ah (vv 2))))))
   (Al (Bf (vv 1))))),?_⟩
 rintro xs μ R _ ⟨x,ts,rfl,hx,ht,q⟩
 refine Qin (Br (fun τ μ'=>∃o2,τ=[some x,some (.D (.int (bts ts:Nat))),o2]/\μ=μ') (λZ hZ=>?_) ?_)
 ·refine Ad hx ?_
  refine Dd (λi τ μ'=>∃o2,τ=[some x,some (.D (.int (bts (ts.take i):Nat))),o2]/\μ=μ') ⟨none,rfl,rfl⟩ (λ_ _ _ ⟨_,_,e⟩=>by subst e;exact hx) ?_ ?_
  ·rintro i y τ _ Z2 hy ⟨o2,rfl,rfl⟩ hZ2
   rw [List.getElem?_map]at hy
   obtain⟨t,h1,rfl⟩:=Yah.mp hy
   have h60:=ht t (Ya1 h1)
   refine⟨⟨by omega,by omega,by decide⟩,hZ2 _ _ ⟨some (Dy t),?_,rfl⟩⟩
   have e:Builtin.bitOr (bts (ts.take i):Nat) (1 * 2 ^ (t:Int).toNat)=((bts (ts.take (i+1)):Nat):Int):=by
    rw [Int.one_mul,Ydd,show((2:Int) ^ t)=((2 ^ t:Nat):Int) by rw [Int.natCast_pow];rfl,Qq,Ybi,h1]
    unfold bts
    rw [Yd3];rfl
   rw [<- e];rfl
  ·rintro τ _ ⟨o2,rfl,rfl⟩
   rw [Yab,Ybh]
   exact hZ _ _ ⟨_,rfl,rfl⟩
 rintro τ _ ⟨o2,rfl,rfl⟩
 exact⟨_,Sub.refl,q⟩
theorem Yk(k:Nat):Fd 0 k=(List.range k).map Dy:=by
 refine Ycy λj=>?_
 rcases Ybr j k with h | h
 ·have h1:j < (Fd 0 k).length:=by rw [Bh];exact h
  rw [List.getElem?_eq_getElem h1,D5 _ _ _ (List.getElem?_eq_getElem h1),List.getElem?_map,List.getElem?_range h]
  show some _=some (Dy j)
  unfold Dy
  rw [Int.zero_add]
 ·rw [List.getElem?_eq_none (by rw [Bh];exact h),List.getElem?_eq_none (by rw [Yab,Ycb];exact h)]
def B5(n:Nat):List Nat:=(List.range 5).filter λk=>n.testBit k
abbrev nAs:List Str:=["bits"]
theorem Qio:FnScope nAs ["bits"] (Af sAs):=⟨rfl,rfl,rfl,by decide +kernel,rfl,by decide +kernel,by decide +kernel⟩
theorem Qfl:(["stand","bits"]:List Str).Nodup:=by decide +kernel
def Qcl:ASp:=λxs μ R=>∃(n:Nat),xs=[.D (.int n)]/\n < 32/\∀ μ',Sub μ μ'->R (.D (Ax (B5 n))) μ'
theorem Qfm{n:Nat}(F:Fun K "as_stands" "as_stands" sAs f fd) (al:mg "tuple" = none) (ao:mg "range" = none):FnOk P w K mg base Gn (n+1) f fd ["bits"] (K5 K 1 Qcl):=by
 refine F.vok Qio λbd A outer s H E hr=>⟨_,(Al (Bf (C9 Fr rfl al Ycx (Aa (Cu (N':=["stand","bits"]) (mp:=[none,some 0]) rfl (D6 rfl ao (Aa (Qb3 PyProof.Rows.slot_int_bit_length PyProof.Rows.type_int_bit_length Qb2 (vv 0)) Ac)) (λ_ _ _ _=>(Am (i:=0) Qfl rfl (Or.inl rfl) (Or.inr rfl))) (λ_ _ _ _=>(Ft (Bz (Gu hr) (Ba U8 (Ba Qfd (vv 1) (vv 0)) Ah) Ah (nomark _)))) (λ_ _ _ _=>(vv 0)) (Bm (N:=nAs) (pn:=(Af sAs).names) (by decide +kernel))) Ac)))),?_⟩
 rintro xs μ R _ ⟨n,rfl,hn,q⟩
 have hb:∀n:Fin 32,Builtin.Int.intBits ((n.val:Nat):Int)<=5/\(List.range (Builtin.Int.intBits ((n.val:Nat):Int))).filter (λk=>n.val.testBit k)=B5 n.val:=by decide +kernel
 obtain⟨z5,yj⟩:=hb ⟨n,hn⟩
 have z5:Builtin.Int.intBits (n:Int)<=5:=z5
 have yj:(List.range (Builtin.Int.intBits (n:Int))).filter (λk=>n.testBit k)=B5 n:=yj
 refine⟨trivial,by omega,by omega,λpl hpl=>?_⟩
 rw [Ydd,Yk]
 refine cmapf (List.range (Builtin.Int.intBits (n:Int))) Dy (λk=>n.testBit k) Dy (fun τ=>∃o,τ=[o,some (.D (.int n))]) ⟨none,rfl⟩ Ab (seven (by rw [Ycb];omega)) (λ_=>trivial) ?_ ?_
 ·rintro i k τ' acc W W2 hk ⟨o,rfl⟩ w1 w2
  have e:Builtin.bitAnd ((n:Int) / 2 ^ (k:Int).toNat) 1=((n / 2 ^ k % 2:Nat):Int):=by
   rw [Ydd,show((n:Int) / 2 ^ k)=((n / 2 ^ k:Nat):Int) by rw [Int.natCast_ediv,Int.natCast_pow];rfl,show(1:Int)=((1:Nat):Int) from rfl,Vo,Nat.and_one_is_mod]
  have e2:n.testBit k=decide (n / 2 ^ k % 2=1):=Nat.testBit_eq_decide_div_mod_eq
  have e3:PyData.eqv (.int (Builtin.bitAnd ((n:Int) / 2 ^ (k:Int).toNat) 1)) (.int 1)=n.testBit k:=by
   rw [e,K6,e2]
   exact decide_eq_decide.mpr ⟨λh=>by omega,λh=>by omega⟩
  exact⟨by omega,Ay _,Ay _,br (λc=>w1 (e3.symm.trans c) _ ⟨_,rfl⟩) (λc=>w2 (e3.symm.trans c) _ ⟨_,rfl⟩)⟩
 ·rw [yj]
  refine Ad (An Ab) (Ad (Gg _) ⟨_,Sub.refl,q _ ((Sub.refl.new hpl).new hpl)⟩)
end
section
variable {P:Program}{w:World}{K:PySem.W.Frag}{mg:Str->Option Value}{base:Heap}{f:Addr}{fd:FuncData}
abbrev Pr:=Nat×Nat
def Ho(p:Pr):PyData:=.tuple [.int (p.1:Nat),.int (p.2:Nat)]
def Ce(p:Pr):AV:=.D (Ho p)
def ewe(p o:Pr):Pr:=(max p.1 o.1,p.2 ||| o.2)
def M7(p:Pr):List Key×AV:=([.inl (p.1:Nat),.inl (p.2:Nat)],.D (.bool true))
def adz(zs:List Pr)(z:Pr):List Pr:=if z∈zs then zs else zs++[z]
theorem Qcm{p q:Pr}(h:(M7 p).1=(M7 q).1):p=q:=by
 obtain⟨a,b⟩:=p
 obtain⟨c,d⟩:=q
 have h:([.inl ((a:Nat):Int),.inl ((b:Nat):Int)]:List Key)=[.inl ((c:Nat):Int),.inl ((d:Nat):Int)]:=h
 injection h with h1 h2
 injection h2 with h2 _
 have h1:=Ydm (Yfe h1)
 have h2:=Ydm (Yfe h2)
 rw [h1,h2]
theorem Qcn(zs:List Pr)(z:Pr):Eo (zs.map M7) (M7 z).1 (.D (.bool true))=(adz zs z).map M7:=by
 unfold Eo adz
 by_cases h:z∈zs
 ·rw [Yao (Ydo.mpr ⟨M7 z,Yaf.mpr ⟨z,h,rfl⟩,Ybg rfl⟩),Yao h,Ya0]
  refine Ych λp _=>?_
  show(if(M7 p).1=(M7 z).1 then((M7 p).1,AV.D (.bool true)) else M7 p)=M7 p
  split <;> rfl
 ·rw [Yaj,Yaj h,Yaw]
  ·rfl
  ·intro a
   obtain⟨kv,h1,h2⟩:=Ydo.mp a
   obtain⟨p,hp,rfl⟩:=Yaf.mp h1
   rw [<- Qcm (Yay h2)]at h
   exact h hp
theorem Yl{zs:List Pr}{z y:Pr}:y∈adz zs z↔y∈zs\/y=z:=by
 unfold adz
 split
 ·rename_i h
  exact⟨.inl,λc=>c.elim id λe=>by rw [e];exact h⟩
 ·rw [Yaq,Yan]
theorem Qco{zs:List Pr}{z:Pr}(h:zs.Nodup):(adz zs z).Nodup:=by
 unfold adz
 split
 ·exact h
 ·rename_i hn
  exact Yd2.mpr ⟨h,Yb5.mpr ⟨by simp,Ydr⟩,λa ha b hb e=>hn (by rw [Yan.mp hb]at e;rw [<- e];exact ha)⟩
theorem Ym(zs:List Pr)(z:Pr):(adz zs z).length<=zs.length+1:=by
 unfold adz
 split
 ·omega
 ·rw [Yal];exact Yad _
theorem Qfn{a b:PyData}{i j:Nat}{τ:ASt}{μ:M}{R:ASt->M->Prop}(h:R ((τ.set i (some (.D a))).set j (some (.D b))) μ):Eg (C6 i) (Eg (C6 j) T3) (List.map AV.D [a,b]) τ μ R:=h
theorem Bt{μ μ':M}{x:AV}{us:List AV}(h:items μ x=some us)(S:Sub μ μ'):items μ' x=some us:=by
 cases x with
 | R a =>
  have h:(match μ a with | some (.lst xs)=>some xs | _=>none)=some us:=h
  cases e:μ a with
  | none=>rw [e]at h;cases h
  | some m =>
   rw [e]at h
   cases m with
   | lst xs=>cases h;exact An (S a _ e)
   | _=>cases h
 | D d=>cases d <;> exact h
 | _=>exact h
abbrev nEe:List Str:=["pairs","others","found","cost","bits","other_cost","other_bits"]
theorem Sf:FnScope nEe ["pairs","others"] (Af sEe):=⟨rfl,rfl,rfl,by decide +kernel,rfl,by decide +kernel,by decide +kernel⟩
def Qfo:ASp:=λxs μ R=>∃(x y:AV) (P O:List Pr),xs=[x,y]/\items μ x=some (P.map Ce)/\items μ y=some (O.map Ce)/\P.length * O.length<=900/\∀(zs:List Pr) (l:Addr) μ',(∀z,z∈zs↔∃p∈P,∃o∈O,z=ewe p o)->zs.Nodup->zs.length<=P.length * O.length->μ l=none->μ' l=some (.lst (zs.map Ce))->Sub μ μ'->R (.R l) μ'
theorem Qfp{n:Nat}(F:Fun K "each_with_each" "each_with_each" sEe f fd) (ci:mg "max" = none) (cz:mg "list" = none):FnOk P w K mg base Gn (n+1) f fd ["pairs","others"] (K5 K 2 Qfo):=by
 refine F.vok Sf λbd A outer s H E hr=>⟨_,(Ae (A3 (i:=2) Sf.nd rfl (Or.inl rfl) Mf)
   (Ae (B2 Ybf rfl (Bc (vv 0)) (Dv (n:=2) rfl (Au (Am (i:=3) Sf.nd rfl (Or.inl rfl)) (Au (Am (i:=4) Sf.nd rfl (Or.inl rfl)) Ct))) (Al (B2 Ybf rfl (Bc (vv 1)) (Dv (n:=2) rfl (Au (Am (i:=5) Sf.nd rfl (Or.inl rfl)) (Au (Am (i:=6) Sf.nd rfl (Or.inl rfl)) Ct))) (Al (Fv (Ck hr) (vv 2) (Bb (Aa (Bn (T1 rfl) rfl ci Ye4 (Aa (vv 3) (Aa (vv 5) Ac))) (Aa (Ba Zo (vv 4) (vv 6)) Ac))) Jz)))))
   (Al (Bf (C9 (Yf rfl) rfl cz PyProof.Rows.boot_list (Aa (vv 2) Ac)))))),?_⟩
 rintro xs μ R _ ⟨x,y,P,O,rfl,hx,hy,hn,q⟩
 intro d hd
 have S0:Sub μ (Aj μ d (.dt [])):=Sub.refl.new hd
 refine Br (fun τ μ'=>∃o3 o4 o5 o6,∃zs:List Pr,τ=[some x,some y,some (.R d),o3,o4,o5,o6]/\(∀z,z∈zs↔∃p∈P,∃o∈O,z=ewe p o)/\zs.Nodup/\zs.length<=P.length * O.length/\μ'=Aj μ d (.dt (zs.map M7))) (λZ hZ=>?_) ?_
 ·refine Ad (Bt hx S0) ?_
  refine Dd (λi τ μ'=>∃o3 o4 o5 o6,∃zs:List Pr,τ=[some x,some y,some (.R d),o3,o4,o5,o6]/\(∀z,z∈zs↔∃p∈P.take i,∃o∈O,z=ewe p o)/\zs.Nodup/\zs.length<=i * O.length/\μ'=Aj μ d (.dt (zs.map M7))) ⟨none,none,none,none,[],rfl,by simp,Ydr,Yaz _,rfl⟩ (λ_ _ _ ⟨_,_,_,_,_,_,_,_,_,e⟩=>by subst e;exact Bt hx (Sub.refl.new hd)) ?_ ?_
  ·rintro i v τ _ Z2 hv ⟨o3,o4,o5,o6,zs,rfl,hm,bu,hl,rfl⟩ hZ2
   rw [List.getElem?_map]at hv
   obtain⟨p,hp,rfl⟩:=Yah.mp hv
   have hi:=(List.getElem?_eq_some_iff.mp hp).1
   have c9:P.take (i+1)=P.take i++[p]:=by rw [Ybi,hp];rfl
   refine⟨rfl,Qfn ?_⟩
   dsimp only [List.set]
   refine Ad (Bt hy (Sub.refl.new hd)) ?_
   have xh:(i+1) * O.length<=P.length * O.length:=Yfc _ hi
   have hsm:(i+1) * O.length=i * O.length+O.length:=Nat.succ_mul _ _
   refine Dd (λj τ μ'=>∃o5 o6,∃ys:List Pr,τ=[some x,some y,some (.R d),some (.D (.int (p.1:Nat))),some (.D (.int (p.2:Nat))),o5,o6]/\(∀z,z∈ys↔z∈zs\/∃o∈O.take j,z=ewe p o)/\ys.Nodup/\ys.length<=i * O.length+j/\μ'=Aj μ d (.dt (ys.map M7))) ⟨o5,o6,zs,rfl,by simp,bu,hl,rfl⟩ (λ_ _ _ ⟨_,_,_,_,_,_,_,e⟩=>by subst e;exact Bt hy (Sub.refl.new hd)) ?_ ?_
   ·rintro j u τ _ Z3 hu ⟨o5,o6,ys,rfl,dz,hnd2,fy,rfl⟩ d6
    rw [List.getElem?_map]at hu
    obtain⟨o,ho,rfl⟩:=Yah.mp hu
    have hj:=(List.getElem?_eq_some_iff.mp ho).1
    have hto:O.take (j+1)=O.take j++[o]:=by rw [Ybi,ho];rfl
    refine⟨rfl,Qfn ?_⟩
    dsimp only [List.set]
    have ec:(if((o.1:Nat):Int) > ((p.1:Nat):Int) then((o.1:Nat):Int) else((p.1:Nat):Int))=(((ewe p o).1:Nat):Int):=by
     show _=((max p.1 o.1:Nat):Int)
     split <;> omega
    have eb:Builtin.bitOr ((p.2:Nat):Int) ((o.2:Nat):Int)=(((ewe p o).2:Nat):Int):=Qq _ _
    have ep:dput (.dt (ys.map M7)) (.tuple [.int (if((o.1:Nat):Int) > ((p.1:Nat):Int) then((o.1:Nat):Int) else((p.1:Nat):Int)),.int (Builtin.bitOr ((p.2:Nat):Int) ((o.2:Nat):Int))]) (.D (.bool true))=some (.dt ((adz ys (ewe p o)).map M7)):=by
     rw [ec,eb,<- Qcn];rfl
    refine Ad Ab (Ad ep ⟨A0 (show(ys.map M7).length<=1000 by rw [Yab];omega),d6 _ _ ⟨_,_,adz ys (ewe p o),rfl,λz=>?_,Qco hnd2,?_,?_⟩⟩)
    ·rw [Yl,dz,hto]
     constructor
     ·rintro((h | ⟨q',h1,h2⟩) | h)
      ·exact .inl h
      ·exact .inr ⟨q',Yci _ h1,h2⟩
      ·exact .inr ⟨o,by simp,h⟩
     ·rintro(h | ⟨q',h1,h2⟩)
      ·exact .inl (.inl h)
      ·rcases Yaq.mp h1 with h1 | h1
       ·exact .inl (.inr ⟨q',h1,h2⟩)
       ·rw [Yan.mp h1]at h2;exact .inr h2
    ·have:=Ym ys (ewe p o);omega
    ·rw [Cp]
   ·rintro τ _ ⟨o5,o6,ys,rfl,dz,hnd2,fy,rfl⟩
    rw [Yab]at dz fy
    rw [Ybh]at dz
    refine hZ2 _ _ ⟨_,_,_,_,ys,rfl,λz=>?_,hnd2,by omega,rfl⟩
    rw [dz,hm,c9]
    constructor
    ·rintro(⟨p',h1,h2⟩ | h)
     ·exact⟨p',Yci _ h1,h2⟩
     ·exact⟨p,by simp,h⟩
    ·rintro⟨p',h1,h2⟩
     rcases Yaq.mp h1 with h1 | h1
     ·exact .inl ⟨p',h1,h2⟩
     ·rw [Yan.mp h1]at h2;exact .inr h2
  ·rintro τ _ ⟨o3,o4,o5,o6,zs,rfl,hm,bu,hl,rfl⟩
   rw [Yab]at hm hl
   rw [Ybh]at hm
   exact hZ _ _ ⟨_,_,_,_,zs,rfl,hm,bu,hl,rfl⟩
 rintro τ _ ⟨o3,o4,o5,o6,zs,rfl,hm,bu,hl,rfl⟩
 refine Ad Ab λl iy=>⟨_,Sub.refl,q zs l _ hm bu hl ((Sub.refl.new hd:Sub μ _).none iy) ?_ ((Sub.refl.new hd:Sub μ _).new ((Sub.refl.new hd:Sub μ _).none iy))⟩
 rw [Ab,Ya0];rfl
end
section
variable {P:Program}{w:World}{K:PySem.W.Frag}{mg:Str->Option Value}{base:Heap}{f:Addr}{fd:FuncData}
theorem Vp(P:List Pr):dats (P.map Ce)=some (P.map Ho):=by
 rw [show P.map Ce=(P.map Ho).map .D by rw [Ya0];rfl];exact Ci _
theorem Qr{p q:Pr}(h:Ho p=Ho q):p=q:=by
 obtain⟨a,b⟩:=p
 obtain⟨c,d⟩:=q
 have h:PyData.tuple [.int ((a:Nat):Int),.int ((b:Nat):Int)]=.tuple [.int ((c:Nat):Int),.int ((d:Nat):Int)]:=h
 injection h with h
 injection h with h1 h2
 injection h2 with h2 _
 injection h1 with h1
 injection h2 with h2
 rw [Ydm h1,Ydm h2]
theorem Yn{P:List Pr}(h:P.length<=290):TOk (P.map Ho):=by
 refine⟨by rw [Yab];omega,λd hd=>?_,λd hd=>?_,λd hd e he=>?_⟩
 ·obtain⟨a,ha,rfl⟩:=Yaf.mp hd
  exact⟨rfl,rfl,by simp [Ho,PyData.depth,PyData.depthAll]⟩
 ·obtain⟨a,ha,rfl⟩:=Yaf.mp hd
  exact⟨_,_,rfl⟩
 ·obtain⟨a,ha,rfl⟩:=Yaf.mp hd
  obtain⟨b,hb,rfl⟩:=Yaf.mp he
  simp [Ho,cmpb,cmpbs]
theorem M8:∀{es:List PyData} {P:List Pr},(∀d∈es,d∈P.map Ho)->∃zs:List Pr,es=zs.map Ho
 | [],_,_=>⟨[],rfl⟩
 | d :: es,P,h=>by
  obtain⟨p,_,hp⟩:=Yaf.mp (h d Yax)
  obtain⟨zs,hz⟩:=M8 (es:=es) (P:=P) λe he=>h e (Yav _ he)
  exact⟨p :: zs,by rw [hz,<- hp];rfl⟩
theorem Oy{zs:List Pr}(h:(zs.map Ho).Nodup):zs.Nodup:=by
 unfold List.Nodup at h ⊢
 rw [Ybm]at h
 exact h.imp λam e=>am (by rw [e])
abbrev nTh:List Str:=["pairs","least"]
theorem Qip:FnScope nTh ["pairs","least"] (Af sTh):=⟨rfl,rfl,rfl,by decide +kernel,rfl,by decide +kernel,by decide +kernel⟩
def Yo:ASp:=λ_ _ _=>False
def Qcp:ASp:=λxs μ R=>∃(x:AV) (P:List Pr),xs=[x,.D (.bool false)]/\items μ x=some (P.map Ce)/\P.length<=290/\∀(zs:List Pr) (l:Addr) μ',(∀z,z∈zs↔z∈P)->zs.Nodup->zs.length<=P.length->μ l=none->μ' l=some (.lst (zs.map Ce))->Sub μ μ'->R (.R l) μ'
theorem Qfq{n:Nat}(F:Fun K "thinned" "thinned" sTh f fd) (cLa:VCal P w K mg base n "least_alone" ["pairs"] Yo) (ai:mg "sorted" = none) (bj:mg "set" = none):FnOk P w K mg base Gn (n+1) f fd ["pairs","least"] (K5 K 2 Qcp):=by
 refine F.vok Qip λbd A outer s H E hr=>⟨_,(Al (Bf (Ty (Tx (vv 1)) (Aq cLa hr rfl (Aa (vv 0) Ac)) (Qk hr rfl ai rfl bj (vv 0))))),?_⟩
 rintro xs μ R _ ⟨x,P,rfl,hx,hn,q⟩
 refine Sl rfl (Ad hx (Ad (Vp P) ⟨Yn hn,λes p bu hm _ hp=>?_⟩))
 obtain⟨zs,rfl⟩:=M8 λd hd=>(hm d).mp hd
 have h8:∀z,z∈zs↔z∈P:=λz=>by
  have:=hm (Ho z)
  rw [Yaf,Yaf]at this
  constructor
  ·intro h
   obtain⟨y,hy,e⟩:=this.mp ⟨z,h,rfl⟩
   rw [<- Qr e];exact hy
  ·intro h
   obtain⟨y,hy,e⟩:=this.mpr ⟨z,h,rfl⟩
   rw [<- Qr e];exact hy
 have hz:=Oy bu
 refine⟨_,Sub.refl,q zs p _ h8 hz (Gf hz λz h=>(h8 z).mp h) hp ?_ (Sub.refl.new hp)⟩
 rw [Ab,Ya0];rfl
def cho:List (List Pr)->List Pr:=List.foldl (λF G=>F.flatMap λp=>G.map (ewe p)) [(0,0)]
def pln:List (List Pr)->Nat:=List.foldl (λn G=>n * G.length) 1
structure GrAt(μ:M)(ps:List Addr)(Gs:List (List Pr)):Prop where
 l:ps.length=Gs.length
 a:∀(i:Nat) p G,ps[i]?=some p->Gs[i]?=some G->μ p=some (.lst (G.map Ce))
abbrev nOe:List Str:=["groups","least","found","group"]
theorem Yp:FnScope nOe ["groups","least"] (Af sOe):=⟨rfl,rfl,rfl,by decide +kernel,rfl,by decide +kernel,by decide +kernel⟩
def Qfr:ASp:=λxs μ R=>∃(x:AV) (ps:List Addr) (Gs:List (List Pr)),xs=[x,.D (.bool false)]/\items μ x=some (ps.map .R)/\GrAt μ ps Gs/\(∀j,pln (Gs.take j)<=290)/\∀(zs:List Pr) (l:Addr) μ',(∀z,z∈zs↔z∈cho Gs)->zs.Nodup->zs.length<=pln Gs->μ l=none->μ' l=some (.lst (zs.map Ce))->Sub μ μ'->R (.R l) μ'
theorem Qfs{n:Nat}(F:Fun K "one_of_each" "one_of_each" sOe f fd) (tw:VCal P w K mg base n "thinned" ["pairs","least"] Qcp) (cEe:VCal P w K mg base n "each_with_each" ["pairs","others"] Qfo):FnOk P w K mg base Gn (n+1) f fd ["groups","least"] (K5 K 2 Qfr):=by
 refine F.vok Yp λbd A outer s H E hr=>⟨_,(Ae (A3 (i:=2) Yp.nd rfl (Or.inl rfl) (Bk (Aa (Bb (Aa Ah (Aa Ah Ac))) Ac)))
   (Ae (B2 Ybf rfl (Bc (vv 0)) (Am (i:=3) Yp.nd rfl (Or.inl rfl)) (Al (A3 (i:=2) Yp.nd rfl (Or.inl rfl) (Aq tw hr rfl (Aa (Aq cEe hr rfl (Aa (vv 2) (Aa (vv 3) Ac))) (Aa (vv 1) Ac))))))
   (Al (Bf (vv 2))))),?_⟩
 rintro xs μ R _ ⟨x,ps,Gs,rfl,hx,hG,hb,q⟩
 intro l0 iy
 refine Br (fun τ μ'=>∃l o3,∃zs:List Pr,τ=[some x,some (.D (.bool false)),some (.R l),o3]/\(∀z,z∈zs↔z∈cho Gs)/\zs.Nodup/\zs.length<=pln Gs/\μ l=none/\μ' l=some (.lst (zs.map Ce))/\Sub μ μ') (λZ hZ=>?_) ?_
 ·have S0:Sub μ (Aj μ l0 (.lst [Ce (0,0)])):=Sub.refl.new iy
  refine Ad (Bt hx S0) ?_
  refine Dd (λi τ μ'=>∃l o3,∃zs:List Pr,τ=[some x,some (.D (.bool false)),some (.R l),o3]/\(∀z,z∈zs↔z∈cho (Gs.take i))/\zs.Nodup/\zs.length<=pln (Gs.take i)/\μ l=none/\μ' l=some (.lst (zs.map Ce))/\Sub μ μ') ⟨l0,none,[(0,0)],rfl,λz=>Iff.rfl,by simp,Yad _,iy,Ab,S0⟩ (λ_ _ _ ⟨_,_,_,_,_,_,_,_,_,S⟩=>Bt hx S) ?_ ?_
  ·rintro i v τ μ1 Z2 hv ⟨l,o3,zs,rfl,hm,bu,hl,hlm,e1,S1⟩ hZ2
   rw [List.getElem?_map]at hv
   obtain⟨p,hp,rfl⟩:=Yah.mp hv
   have hi:i < Gs.length:=by rw [<- hG.l];exact(List.getElem?_eq_some_iff.mp hp).1
   have hg:=List.getElem?_eq_getElem hi
   generalize Gs[i]=G at hg
   have c9:Gs.take (i+1)=Gs.take i++[G]:=by rw [Ybi,hg];rfl
   have eg:=S1 _ _ (hG.a i p G hp hg)
   have hc:∀z,z∈cho (Gs.take (i+1))↔∃y∈cho (Gs.take i),∃o∈G,z=ewe y o:=λz=>by
    rw [c9]
    unfold cho
    rw [Yd3,Ycf,List.foldl_nil,Ydq]
    constructor
    ·rintro⟨y,h1,h2⟩
     obtain⟨o,h3,rfl⟩:=Yaf.mp h2
     exact⟨y,h1,o,h3,rfl⟩
    ·rintro⟨y,h1,o,h2,rfl⟩
     exact⟨y,h1,Yaf.mpr ⟨o,h2,rfl⟩⟩
   have hpl:pln (Gs.take (i+1))=pln (Gs.take i) * G.length:=by
    rw [c9]
    unfold pln
    rw [Yd3];rfl
   have xh:zs.length * G.length<=pln (Gs.take (i+1)):=by rw [hpl];exact Yfc _ hl
   have zaa:=hb (i+1)
   refine⟨.R l,.R p,zs,G,rfl,An e1,An eg,by omega,λys l2 μ2 dz hnd2 fy lc e2 S2=>?_⟩
   refine⟨.R l2,ys,rfl,An e2,by omega,λus l3 μ3 hm3 hnd3 qe hn3 e3 S3=>?_⟩
   have S02:Sub μ μ2:=λb m hb=>S2 b m (S1 b m hb)
   refine hZ2 _ _ ⟨l3,_,us,rfl,λz=>?_,hnd3,by omega,S02.none hn3,e3,λb m hb=>S3 b m (S02 b m hb)⟩
   rw [hm3,dz,hc]
   constructor
   ·rintro⟨y,h1,o,h2,h3⟩
    exact⟨y,(hm y).mp h1,o,h2,h3⟩
   ·rintro⟨y,h1,o,h2,h3⟩
    exact⟨y,(hm y).mpr h1,o,h2,h3⟩
  ·rintro τ μ1 ⟨l,o3,zs,rfl,hm,bu,hl,hlm,e1,S1⟩
   rw [Yab,hG.l]at hm hl
   rw [Ybh]at hm hl
   exact hZ _ _ ⟨l,_,zs,rfl,hm,bu,hl,hlm,e1,S1⟩
 rintro τ μ1 ⟨l,o3,zs,rfl,hm,bu,hl,hlm,e1,S1⟩
 exact⟨_,Sub.refl,q zs l μ1 hm bu hl hlm e1 S1⟩
end
section
variable {P:Program}{w:World}{K:PySem.W.Frag}{mg:Str->Option Value}{base:Heap}{f:Addr}{fd:FuncData}
structure Ar where
 p:Nat
 x:Nat
 ts:List Nat
 c:Nat
def Hj(a:Ar):PyData:=.tuple [.int (a.p:Nat),.int (a.x:Nat),Ax a.ts,.int (a.c:Nat)]
def Vq(a:Ar):AV:=.D (Hj a)
def Bg(k:Nat×Nat)(a:Ar):Bool:=decide (a.p=k.1) && decide (a.x=k.2)
def grp(A:List Ar)(k:Nat×Nat):List Pr:=(A.filter (Bg k)).map λa=>(a.c,bts a.ts)
def kvT(e:(Nat×Nat)×Addr):List Key×AV:=([.inl (e.1.1:Nat),.inl (e.1.2:Nat)],.R e.2)
structure TopW(μ0 μ:M)(d:Addr)(A:List Ar)(K:Nat×Nat->Prop)(ab:List ((Nat×Nat)×Addr)):Prop where
 dd:μ d=some (.dt (ab.map kvT))
 ll:∀e∈ab,μ e.2=some (.lst ((grp A e.1).map Ce))
 kk:∀k,(∃e∈ab,e.1=k)↔K k
 uu:(ab.map (·.1)).Nodup
 vv:(ab.map (·.2)).Nodup
 fd:μ0 d=none
 fe:∀e∈ab,μ0 e.2=none/\e.2≠d
 ss:Sub μ0 μ
def Qt(μ0 μ:M)(d:Addr)(A:List Ar)(ab:List ((Nat×Nat)×Addr)):Prop:=TopW μ0 μ d A (λk=>grp A k≠[]) ab
theorem Oz{k l:Nat×Nat}(h:([.inl (k.1:Nat),.inl (k.2:Nat)]:List Key)=[.inl (l.1:Nat),.inl (l.2:Nat)]):k=l:=by
 injection h with h1 h2
 injection h2 with h2 _
 exact Prod.ext (Ydm (Yfe h1)) (Ydm (Yfe h2))
theorem Hs:∀{ab:List ((Nat×Nat)×Addr)} {e:(Nat×Nat)×Addr},(ab.map (·.1)).Nodup->e∈ab->Cb (ab.map kvT) [.inl (e.1.1:Nat),.inl (e.1.2:Nat)]=some (.R e.2)
 | x :: ab,e,hn,he=>by
  rw [Ya2]
  rw [Ya2,Yb5]at hn
  by_cases h:x.1=e.1
  ·have hx:e=x:=by
    rcases Yap.mp he with rfl | he
    ·rfl
    ·exact absurd (Yaf.mpr ⟨e,he,h.symm⟩) hn.1
   subst hx
   exact Cv
  ·have ht:e∈ab:=by
    rcases Yap.mp he with rfl | he
    ·exact absurd rfl h
    ·exact he
   rw [show Cb (kvT x :: ab.map kvT) [.inl (e.1.1:Nat),.inl (e.1.2:Nat)]=Cb (ab.map kvT) [.inl (e.1.1:Nat),.inl (e.1.2:Nat)] from Cc (λz=>h (Oz z))]
   exact Hs hn.2 ht
theorem Jf:∀{ab:List ((Nat×Nat)×Addr)} {k:Nat×Nat},(∀e∈ab,e.1≠k)->Cb (ab.map kvT) [.inl (k.1:Nat),.inl (k.2:Nat)]=none
 | [],_,_=>rfl
 | x :: ab,k,h=>by
  rw [Ya2,show Cb (kvT x :: ab.map kvT) [.inl (k.1:Nat),.inl (k.2:Nat)]=Cb (ab.map kvT) [.inl (k.1:Nat),.inl (k.2:Nat)] from Cc (λz=>h x Yax (Oz z))]
  exact Jf λe he=>h e (Yav _ he)
theorem Vr{ab:List ((Nat×Nat)×Addr)}{k:Nat×Nat}{z:Addr}(h:∀e∈ab,e.1≠k):Eo (ab.map kvT) [.inl (k.1:Nat),.inl (k.2:Nat)] (.R z)=(ab++[(k,z)]).map kvT:=by
 unfold Eo
 rw [Yaj,Yaw]
 ·rfl
 ·intro a
  obtain⟨kv,h1,h2⟩:=Ydo.mp a
  obtain⟨e,he,rfl⟩:=Yaf.mp h1
  exact h e he (Oz (Yay h2))
theorem Vs{ab:List ((Nat×Nat)×Addr)}{e f:(Nat×Nat)×Addr}(h:(ab.map (·.1)).Nodup)(he:e∈ab)(hf:f∈ab)(c:e.1=f.1):e=f:=by
 induction ab with
 | nil=>cases he
 | cons x r ih =>
  rw [Ya2,Yb5]at h
  rcases Yap.mp he with h1 | h1 <;> rcases Yap.mp hf with h2 | h2
  ·rw [h1,h2]
  ·exact absurd (Yaf.mpr ⟨f,h2,by rw [<- h1];exact c.symm⟩) h.1
  ·exact absurd (Yaf.mpr ⟨e,h1,by rw [<- h2];exact c⟩) h.1
  ·exact ih h.2 h1 h2
theorem Sg{ab:List ((Nat×Nat)×Addr)}{e f:(Nat×Nat)×Addr}(h:(ab.map (·.2)).Nodup)(he:e∈ab)(hf:f∈ab)(c:e.2=f.2):e=f:=by
 induction ab with
 | nil=>cases he
 | cons x r ih =>
  rw [Ya2,Yb5]at h
  rcases Yap.mp he with h1 | h1 <;> rcases Yap.mp hf with h2 | h2
  ·rw [h1,h2]
  ·exact absurd (Yaf.mpr ⟨f,h2,by rw [<- h1];exact c.symm⟩) h.1
  ·exact absurd (Yaf.mpr ⟨e,h1,by rw [<- h2];exact c⟩) h.1
  ·exact ih h.2 h1 h2
theorem M9(A:List Ar)(a:Ar)(k:Nat×Nat):grp (A++[a]) k=grp A k++(if Bg k a then [(a.c,bts a.ts)] else []):=by
 unfold grp
 rw [List.filter_append,Yaw,Ye7,List.filter_nil]
 split <;> rfl
theorem Na(a:Ar):Bg (a.p,a.x) a=true:=by unfold Bg;simp
theorem Lq{a:Ar}{k:Nat×Nat}(h:k≠(a.p,a.x)):Bg k a=false:=by
 unfold Bg
 rw [<- Bool.decide_and]
 exact Yba λc=>h (Prod.ext c.1.symm c.2.symm)
theorem Qft{a b c d:PyData}{i j k l:Nat}{τ:ASt}{μ:M}{R:ASt->M->Prop}(h:R ((((τ.set i (some (.D a))).set j (some (.D b))).set k (some (.D c))).set l (some (.D d))) μ):Eg (C6 i) (Eg (C6 j) (Eg (C6 k) (Eg (C6 l) T3))) (List.map AV.D [a,b,c,d]) τ μ R:=h
abbrev nAt:List Str:=["arrows","tops","stand","letter","targets","cost"]
theorem Si:FnScope nAt ["arrows"] (Af sAt):=⟨rfl,rfl,rfl,by decide +kernel,rfl,by decide +kernel,by decide +kernel⟩
def Qfu:ASp:=λxs μ R=>∃(x:AV) (A:List Ar),xs=[x]/\items μ x=some (A.map Vq)/\A.length<=300/\(∀a∈A,∀t∈a.ts,t < 5)/\∀d ab μ',Qt μ μ' d A ab->R (.R d) μ'
theorem Qfv{n:Nat}(F:Fun K "arrows_by_top" "arrows_by_top" sAt f fd) (wc:VCal P w K mg base n "as_bits" ["stands"] Qck):FnOk P w K mg base Gn (n+1) f fd ["arrows"] (K5 K 1 Qfu):=by
 refine F.vok Si λbd A outer s H E hr=>⟨_,(Ae (A3 (i:=1) Si.nd rfl (Or.inl rfl) Mf)
   (Ae (B2 Ybf rfl (Bc (vv 0)) (Dv (n:=4) rfl (Au (Am (i:=2) Si.nd rfl (Or.inl rfl)) (Au (Am (i:=3) Si.nd rfl (Or.inl rfl)) (Au (Am (i:=4) Si.nd rfl (Or.inl rfl)) (Au (Am (i:=5) Si.nd rfl (Or.inl rfl)) Ct))))) (Ae (B6 (Qb7 (Ck hr) (vv 1) (Bb (Aa (vv 2) (Aa (vv 3) Ac))) (Bk Ac)))
   (Al (B6 (Em Ybx Yby Cy (C8 (Ck hr) (vv 1) (Bb (Aa (vv 2) (Aa (vv 3) Ac)))) (Aa (Bb (Aa (vv 5) (Aa (Aq wc hr rfl (Aa (vv 4) Ac)) Ac))) Ac))))))
   (Al (Bf (vv 1))))),?_⟩
 rintro xs μ R _ ⟨x,A,rfl,hx,hn,ht,q⟩
 intro d hd
 refine Br (fun τ μ'=>∃o2 o3 o4 o5,∃ab:List ((Nat×Nat)×Addr),τ=[some x,some (.R d),o2,o3,o4,o5]/\Qt μ μ' d A ab) (λZ hZ=>?_) ?_
 ·refine Ad (Bt hx (Sub.refl.new hd)) ?_
  refine Dd (λi τ μ'=>∃o2 o3 o4 o5,∃ab:List ((Nat×Nat)×Addr),τ=[some x,some (.R d),o2,o3,o4,o5]/\ab.length<=i/\Qt μ μ' d (A.take i) ab) ⟨none,none,none,none,[],rfl,Yaz _,⟨Ab,(λ_ h=>nomatch h),λk=>⟨(λ⟨_,h,_⟩=>nomatch h),λh=>absurd rfl h⟩,Ydr,Ydr,hd,(λ_ h=>nomatch h),Sub.refl.new hd⟩⟩ (λ_ _ _ ⟨_,_,_,_,_,_,_,T⟩=>Bt hx T.ss) ?_ ?_
  ·rintro i v τ μ1 Z2 hv ⟨o2,o3,o4,o5,ab,rfl,ga,T⟩ hZ2
   rw [List.getElem?_map]at hv
   obtain⟨a,ha,rfl⟩:=Yah.mp hv
   have hi:=(List.getElem?_eq_some_iff.mp ha).1
   have c9:A.take (i+1)=A.take i++[a]:=by rw [Ybi,ha];rfl
   refine⟨rfl,Qft ?_⟩
   dsimp only [List.set]
   generalize hB:A.take i=B at T c9
   refine Br (fun τ μ'=>∃ab:List ((Nat×Nat)×Addr),τ=[some x,some (.R d),some (.D (.int (a.p:Nat))),some (.D (.int (a.x:Nat))),some (.D (Ax a.ts)),some (.D (.int (a.c:Nat)))]/\ab.length<=i+1/\TopW μ μ' d B (λk=>grp B k≠[]\/k=(a.p,a.x)) ab) (λZ3 d6=>?_) ?_
   ·refine⟨⟨_,T.dd,trivial⟩,λz hz=>Ad (x:=[.inl (a.p:Nat),.inl (a.x:Nat)]) rfl ?_⟩
    have S2:Sub μ1 (Aj μ1 z (.lst [])):=Sub.refl.new hz
    have ez:Aj μ1 z (.lst []) z=some (.lst []):=Ab
    have zd:z≠d:=by rintro rfl;rw [T.dd]at hz;cases hz
    have z0:μ z=none:=T.ss.none hz
    have zk:∀e∈ab,e.2≠z:=λe he c=>by
     have:=T.ll e he
     rw [c,hz]at this;cases this
    generalize Aj μ1 z (.lst [])=μ2 at S2 ez
    refine Ad (S2 _ _ T.dd) ⟨A0 (by rw [Yab];omega),λv hv=>?_,λhv=>?_⟩
    ·have cq:∃e∈ab,e.1=(a.p,a.x):=Ybp λgg=>by
      rw [Jf (k:=(a.p,a.x)) λe he c=>gg ⟨e,he,c⟩]at hv;cases hv
     refine d6 _ _ ⟨ab,rfl,by omega,⟨S2 _ _ T.dd,λe he=>S2 _ _ (T.ll e he),λk=>?_,T.uu,T.vv,T.fd,T.fe,λb m hb=>S2 b m (T.ss b m hb)⟩⟩
     rw [T.kk]
     refine⟨.inl,λc=>c.elim id λc=>?_⟩
     rw [c]
     exact(T.kk _).mp cq
    ·have gg:∀e∈ab,e.1≠(a.p,a.x):=λe he c=>by
      have:=Hs T.uu he
      rw [c]at this
      rw [this]at hv;cases hv
     rw [Vr (k:=(a.p,a.x)) gg]
     have g0:grp B (a.p,a.x)=[]:=Ybp λc=>by
      obtain⟨e,he,h⟩:=(T.kk _).mpr c
      exact gg e he h
     have ne:∀{b:Addr},b≠d->Aj μ2 d (.dt ((ab++[((a.p,a.x),z)]).map kvT)) b=μ2 b:=λh=>Ag h
     refine d6 _ _ ⟨ab++[((a.p,a.x),z)],rfl,by rw [Yal];show ab.length+1<=_;omega,⟨Ab,λe he=>?_,λk=>?_,?_,?_,T.fd,λe he=>?_,λb m hb=>?_⟩⟩
     ·rcases Yaq.mp he with he | he
      ·rw [ne (T.fe e he).2];exact S2 _ _ (T.ll e he)
      ·rw [Yan.mp he,ne zd,g0];exact ez
     ·constructor
      ·rintro⟨e,he,rfl⟩
       rcases Yaq.mp he with he | he
       ·exact .inl ((T.kk _).mp ⟨e,he,rfl⟩)
       ·rw [Yan.mp he];exact .inr rfl
      ·rintro(h | rfl)
       ·obtain⟨e,he,h⟩:=(T.kk k).mpr h
        exact⟨e,Yci _ he,h⟩
       ·exact⟨((a.p,a.x),z),by simp,rfl⟩
     ·rw [Yaw,Yd2]
      refine⟨T.uu,by simp,λx hx y hy e=>?_⟩
      obtain⟨e',jm,rfl⟩:=Yaf.mp hx
      have hy:y=(a.p,a.x):=by simpa using hy
      exact gg e' jm (e.trans hy)
     ·rw [Yaw,Yd2]
      refine⟨T.vv,by simp,λx hx y hy e=>?_⟩
      obtain⟨e',jm,rfl⟩:=Yaf.mp hx
      have hy:y=z:=by simpa using hy
      exact zk e' jm (e.trans hy)
     ·rcases Yaq.mp he with he | he
      ·exact T.fe e he
      ·rw [Yan.mp he];exact⟨z0,zd⟩
     ·rw [Ag (by rintro rfl;rw [T.fd]at hb;cases hb)]
      exact S2 b m (T.ss b m hb)
   clear ga T
   rintro τ μ2 ⟨ab,rfl,ga,T⟩
   obtain⟨e0,he0,hk0⟩:=(T.kk (a.p,a.x)).mpr (.inr rfl)
   have pp:=Hs T.uu he0
   rw [hk0]at pp
   have zi:=T.ll e0 he0
   have ed:dget (.dt (ab.map kvT)) (.tuple [.int (a.p:Nat),.int (a.x:Nat)])=some (some (AV.R e0.2)):=by
    show some (Cb (ab.map kvT) [.inl (a.p:Nat),.inl (a.x:Nat)])=_
    rw [pp]
   refine Ad T.dd (Ad ed (Ad (x:=AV.R e0.2) rfl ⟨Ad zi trivial,_,a.ts,rfl,Dl a.ts,λt h=>Nat.lt_trans (ht a (Ya1 ha) t h) (by decide),Ad zi ⟨?_,hZ2 _ _ ⟨_,_,_,_,ab,rfl,ga,?_⟩⟩⟩))
   ·rw [Yab]
    refine A0 ?_
    unfold grp
    rw [Yab]
    have:=Yc7 (Bg e0.1) B
    rw [<- hB,Ybl]at this
    rw [<- hB]
    omega
   ·rw [c9]
    have ne:∀{b:Addr} {o:MO},b≠e0.2->Aj μ2 e0.2 o b=μ2 b:=λh=>Ag h
    refine⟨by rw [ne (T.fe e0 he0).2.symm];exact T.dd,λe he=>?_,λk=>?_,T.uu,T.vv,T.fd,T.fe,λb m hb=>?_⟩
    ·rw [M9]
     by_cases hee:e.1=(a.p,a.x)
     ·have:e=e0:=Vs T.uu he he0 (hee.trans hk0.symm)
      subst this
      rw [Ab,hk0,Na,Yao rfl,Yaw];rfl
     ·have:e.2≠e0.2:=λc=>hee (by rw [Sg T.vv he he0 c];exact hk0)
      rw [ne this,Lq hee,Yaj Yag,Ycp]
      exact T.ll e he
    ·rw [T.kk,M9]
     by_cases hk:k=(a.p,a.x)
     ·rw [hk,Na,Yao rfl]
      exact⟨λ_=>by simp,λ_=>.inr rfl⟩
     ·rw [Lq hk,Yaj Yag,Ycp]
      exact⟨λc=>c.elim id λc=>absurd c hk,.inl⟩
    ·rw [ne (by rintro rfl;rw [(T.fe e0 he0).1]at hb;cases hb)]
     exact T.ss b m hb
  ·rintro τ μ1 ⟨o2,o3,o4,o5,ab,rfl,ga,T⟩
   rw [Yab,Ybh]at T
   exact hZ _ _ ⟨_,_,_,_,ab,rfl,T⟩
 rintro τ μ1 ⟨o2,o3,o4,o5,ab,rfl,T⟩
 exact⟨_,Sub.refl,q d ab μ1 T⟩
end
section
variable {P:Program}{w:World}{K:PySem.W.Frag}{mg:Str->Option Value}{base:Heap}{f:Addr}{fd:FuncData}
abbrev nHw:List Str:=["lows","bits","low"]
theorem Qfw:FnScope nHw ["lows","bits"] (Af sHw):=⟨rfl,rfl,rfl,by decide +kernel,rfl,by decide +kernel,by decide +kernel⟩
theorem Qfx{n:Nat}(F:Fun K "has_within" "has_within" sHw f fd):FnOk P w K mg base Gn (n+1) f fd ["lows","bits"] (K5 K 2 Yo):=by
 refine F.vok Qfw λbd A outer s H E hr=>⟨_,(Ae (B2 Ybf rfl (Bc (vv 0)) (Am (i:=2) Qfw.nd rfl (Or.inl rfl)) (Al (En (Bz (Gu hr) (Ba U8 (vv 2) (vv 1)) (vv 2) (nomark _)) (Al (Bf Jz)) Cs)))
   (Al (Bf Jz))),?_⟩
 rintro xs μ R _ h
 exact h.elim
abbrev nLa:List Str:=["pairs","kept","lows","cost","bits"]
theorem Vt:FnScope nLa ["pairs"] (Af sLa):=⟨rfl,rfl,rfl,by decide +kernel,rfl,by decide +kernel,by decide +kernel⟩
theorem Qfy{n:Nat}(F:Fun K "least_alone" "least_alone" sLa f fd) (cHw:VCal P w K mg base n "has_within" ["lows","bits"] Yo) (ai:mg "sorted" = none):FnOk P w K mg base Gn (n+1) f fd ["pairs"] (K5 K 1 Yo):=by
 refine F.vok Vt λbd A outer s H E hr=>⟨_,(Ae (A3 (i:=1) Vt.nd rfl (Or.inl rfl) (Bk Ac))
   (Ae (A3 (i:=2) Vt.nd rfl (Or.inl rfl) (Bk Ac))
   (Ae (B2 Ybf rfl (Bc (Bn (Um hr) rfl ai PyProof.Rows.boot_sorted (Aa (vv 0) Ac))) (Dv (n:=2) rfl (Au (Am (i:=3) Vt.nd rfl (Or.inl rfl)) (Au (Am (i:=4) Vt.nd rfl (Or.inl rfl)) Ct))) (Al (En (Qbg (Tx (Aq cHw hr rfl (Aa (vv 2) (Aa (vv 4) Ac))))) (Ae (B6 (Em Ybx Yby Cy (vv 1) (Aa (Bb (Aa (vv 3) (Aa (vv 4) Ac))) Ac)))
   (Al (B6 (Em Ybx Yby Cy (vv 2) (Aa (vv 4) Ac))))) Cs)))
   (Al (Bf (vv 1)))))),?_⟩
 rintro xs μ R _ h
 exact h.elim
structure TopR(μ:M)(d:Addr)(A:List Ar):Prop where
 at':∃ab:List ((Nat×Nat)×Addr),μ d=some (.dt (ab.map kvT))/\(∀e∈ab,μ e.2=some (.lst ((grp A e.1).map Ce)))/\(∀k,(∃e∈ab,e.1=k)↔grp A k≠[])/\(ab.map (·.1)).Nodup
theorem TopW.r{μ0 μ:M}{d:Addr}{A:List Ar}{ab:List ((Nat×Nat)×Addr)}(h:Qt μ0 μ d A ab):TopR μ d A:=⟨ab,h.dd,h.ll,h.kk,h.uu⟩
theorem TopR.sub{μ ν:M}{d:Addr}{A:List Ar}(h:TopR μ d A)(S:Sub μ ν):TopR ν d A:=by
 obtain⟨ab,h1,h2,h3,h4⟩:=h.at'
 exact⟨ab,S _ _ h1,λe he=>S _ _ (h2 e he),h3,h4⟩
end
section
variable {P:Program}{w:World}{K:PySem.W.Frag}{mg:Str->Option Value}{base:Heap}{f:Addr}{fd:FuncData}
def tab:Nat->Nat
 | 0=>1 | 1=>1 | 2=>2 | 3=>3 | 4=>4 | 5=>6 | 6=>9 | 7=>12 | 8=>18 | _=>0
theorem Yq:∀a,a < 9->∀b,b < 9->a+b<=8->tab a * b<=tab (a+b):=by decide
theorem Qcq:∀a,a < 9->tab a<=18:=by decide
theorem Qu:∀(Gs:List (List Pr)) (n a:Nat),n<=tab a->a+(Gs.map List.length).sum<=8->Gs.foldl (λn G=>n * G.length) n<=tab (a+(Gs.map List.length).sum)
 | [],n,a,h,_=>h
 | G :: Gs,n,a,h,hs=>by
  rw [Ya2,List.sum_cons]at hs ⊢
  have h1:=Yq a (by omega) G.length (by omega) (by omega)
  have h2:n * G.length<=tab (a+G.length):=Yak (Yfc _ h) h1
  have:=Qu Gs (n * G.length) (a+G.length) h2 (by omega)
  rw [Nat.add_assoc]at this
  exact this
theorem O0{Gs:List (List Pr)}(h:(Gs.map List.length).sum<=8):pln Gs<=18:=by
 have:=Qu Gs 1 0 (Yad _) (by omega)
 exact Yak this (Qcq _ (by omega))
theorem Nb:∀(l:List Nat) (j:Nat),(l.take j).sum<=l.sum
 | [],j=>by rw [List.take_nil];exact Yad _
 | x :: l,0=>Yaz _
 | x :: l,j+1=>by
  rw [List.take_succ_cons,List.sum_cons,List.sum_cons]
  exact Nat.add_le_add_left (Nb l j) x
theorem Nc{Gs:List (List Pr)}(h:(Gs.map List.length).sum<=8)(j:Nat):pln (Gs.take j)<=18:=by
 refine O0 (Yak ?_ h)
 rw [Yep]
 exact Nb _ _
theorem Ki(p:Ar->Bool):∀A:List Ar,(A.filter p).length+(A.filter λa=>!p a).length=A.length
 | []=>rfl
 | a :: A=>by
  have:=Ki p A
  cases h:p a <;> simp [List.filter_cons,h] <;> omega
theorem Vu{A:List Ar}{k l:Nat×Nat}(h:l≠k):grp (A.filter λa=>!Bg k a) l=grp A l:=by
 unfold grp
 rw [List.filter_filter]
 congr 1
 refine List.filter_congr λa _=>?_
 cases c:Bg l a
 ·rfl
 ·have e:l=(a.p,a.x):=Ybp λz=>by rw [Lq z]at c;cases c
  rw [Lq (a:=a) (k:=k) λz=>h (e.trans z.symm)];rfl
def grs(A:List Ar)(x:Nat)(ts:List Nat):List (List Pr):=ts.map λt=>grp A (t,x)
theorem Lr:∀{ts:List Nat} {A:List Ar} {x:Nat},ts.Nodup->((grs A x ts).map List.length).sum<=A.length
 | [],A,x,_=>Yaz _
 | t :: ts,A,x,h=>by
  rw [Yb5]at h
  have e:grs A x ts=grs (A.filter λa=>!Bg (t,x) a) x ts:=by
   unfold grs
   refine Ych λu hu=>?_
   rw [Vu λc=>h.1 (by have e:u=t:=(Prod.ext_iff.mp c).1;rw [<- e];exact hu)]
  have:=Lr (ts:=ts) (A:=A.filter λa=>!Bg (t,x) a) (x:=x) h.2
  have hp:=Ki (Bg (t,x)) A
  have hg:(grp A (t,x)).length=(A.filter (Bg (t,x))).length:=by unfold grp;rw [Yab]
  show((grp A (t,x) :: grs A x ts).map List.length).sum<=_
  rw [Ya2,List.sum_cons,e]
  omega
theorem Vv(n:Nat):(B5 n).Nodup:=List.Nodup.sublist List.filter_sublist Ye8
end
section
variable {P:Program}{w:World}{K:PySem.W.Frag}{mg:Str->Option Value}{base:Heap}{f:Addr}{fd:FuncData}
def rdg(A:List Ar)(s:Nat):List Nat->List Pr
 | []=>[(0,bts [s])]
 | [x]=>grp A (s,x)
 | x :: y :: _=>(grp A (s,x)).flatMap λp=>(cho (grs A y (B5 p.2))).map λq=>(p.1+q.1,q.2)
theorem Qv(A:List Ar)(k:Nat×Nat):(grp A k).length<=A.length:=by
 unfold grp
 rw [Yab]
 exact Yc7 _ _
theorem Lu{μ0 μ:M}{d:Addr}{A:List Ar}{td ty:AE}{τ:ASt}{R:AV->M->Prop}(h:TopR μ0 d A)(S0:Sub μ0 μ)(p x:Nat)(e1:∀Q:AV->M->Prop,Q (.R d) μ->td τ μ Q)(e2:∀Q:AV->M->Prop,Q (.D (.tuple [.int (p:Nat),.int (x:Nat)])) μ->ty τ μ Q)(q:∀l μ',μ' l=some (.lst ((grp A (p,x)).map Ce))->Sub μ μ'->(μ0 l≠none\/μ l=none)->R (.R l) μ'):Uo td ty (Qeh Qef) τ μ R:=by
 obtain⟨ab,h1,h2,h3,h4⟩:=h.at'
 refine e1 _ ⟨⟨_,S0 _ _ h1,trivial⟩,e2 _ λz hz=>?_⟩
 have S:Sub μ (Aj μ z (.lst [])):=Sub.refl.new hz
 refine Ad (S _ _ (S0 _ _ h1)) ?_
 by_cases hk:grp A (p,x)=[]
 ·have gg:∀e∈ab,e.1≠(p,x):=λe he c=>by
   have:=(h3 (p,x)).mp ⟨e,he,c⟩
   exact this hk
  have ev:=Jf (k:=(p,x)) gg
  refine Ad (x:=none) (by show some (Cb (ab.map kvT) [.inl (p:Nat),.inl (x:Nat)])=_;rw [ev]) (q z _ ?_ S (.inr hz))
  rw [Ab,hk];rfl
 ·obtain⟨e,he,cv⟩:=(h3 (p,x)).mpr hk
  have ev:=Hs h4 he
  rw [cv]at ev
  refine Ad (x:=some (AV.R e.2)) (by show some (Cb (ab.map kvT) [.inl (p:Nat),.inl (x:Nat)])=_;rw [ev]) (show R (AV.R e.2) _ from q e.2 _ ?_ S (.inl λc=>by rw [h2 e he]at c;cases c))
  have:=S _ _ (S0 _ _ (h2 e he))
  rw [cv]at this
  exact this
theorem O1:∀{ts:List Nat},(∀t∈ts,t < 5)->∀{b:Nat},b < 32->ts.foldl (λb k=>b ||| 2 ^ k) b < 32
 | [],_,_,hb=>hb
 | t :: ts,h,b,hb=>by
  refine O1 (ts:=ts) (λu hu=>h u (Yav _ hu)) ?_
  have h5:=h t Yax
  exact Nat.or_lt_two_pow (n:=5) hb (Nat.pow_lt_pow_right (by decide) h5)
theorem O2{A:List Ar}(h:∀a∈A,∀t∈a.ts,t < 5){k:Nat×Nat}{p:Pr}(hp:p∈grp A k):p.2 < 32:=by
 unfold grp at hp
 obtain⟨a,ha,rfl⟩:=Yaf.mp hp
 exact O1 (h a (Ycd.mp ha).1) (by decide)
def Qfz(A:List Ar)(y:Nat)(f r:Addr)(ab:List (Key×AV))(μ:M):Prop:=∀(k:Nat) v,Cb ab (.inl (k:Nat))=some v->∃(a:Addr) (ys:List Pr),v=.R a/\a≠f/\a≠r/\μ a=some (.lst (ys.map Ce))/\(∀z,z∈ys↔z∈cho (grs A y (B5 k)))/\ys.length<=18
theorem Yr{a b:PyData}{i j:Nat}{τ:ASt}{μ:M}{R:ASt->M->Prop}(h:R ((τ.set i (some (.D a))).set j (some (.D b))) μ):Eg (C6 i) (Eg (C6 j) T3) (List.map AV.D [a,b]) τ μ R:=h
abbrev nRb:List Str:=["tops","stand","w","least","firsts","found","rests","cost","bits"]
theorem Sj:FnScope nRb ["tops","stand","w","least"] (Af Zt):=⟨rfl,rfl,rfl,by decide +kernel,rfl,by decide +kernel,by decide +kernel⟩
theorem Qf0:(["target","tops","w"]:List Str).Nodup:=by decide +kernel
theorem Zy:(["rest_cost","rest_bits","cost"]:List Str).Nodup:=by decide +kernel
def Qf1:ASp:=λxs μ R=>∃(d:Addr) (A:List Ar) (s:Nat) (w:List Nat),xs=[.R d,.D (.int (s:Nat)),.D (Ax w),.D (.bool false)]/\TopR μ d A/\A.length<=8/\s < 5/\w.length<=2/\(∀a∈A,∀t∈a.ts,t < 5)/\∀(zs:List Pr) (l:Addr) μ',(∀z,z∈zs↔z∈rdg A s w)->zs.Nodup->zs.length<=144->μ l=none->μ' l=some (.lst (zs.map Ce))->Sub μ μ'->R (.R l) μ'
theorem Qf2{n:Nat}(F:Fun K "readings_by" "readings_by" Zt f fd) (wc:VCal P w K mg base n "as_bits" ["stands"] Qck) (wv:VCal P w K mg base n "as_stands" ["bits"] Qcl) (tw:VCal P w K mg base n "thinned" ["pairs","least"] Qcp) (cOe:VCal P w K mg base n "one_of_each" ["groups","least"] Qfr) (ay:mg "len" = none):FnOk P w K mg base Gn (n+1) f fd ["tops","stand","w","least"] (K5 K 4 Qf1):=by
 refine F.vok Sj λbd A outer s H E hr=>⟨_,(Ae (En (Bz (Gu hr) (Bn J1 rfl ay Yd8 (Aa (vv 2) Ac)) Ah (nomark _)) (Al (Bf (Bk (Aa (Bb (Aa Ah (Aa (Aq wc hr rfl (Aa (Bb (Aa (vv 1) Ac)) Ac)) Ac))) Ac)))) Cs)
   (Ae (A3 (i:=4) Sj.nd rfl (Or.inl rfl) (Mo (Ck hr) (vv 0) (Bb (Aa (vv 1) (Aa (Dc Fc (vv 2) Ah) Ac))) (Bk Ac)))
   (Ae (En (Bz (Gu hr) (Bn J1 rfl ay Yd8 (Aa (vv 2) Ac)) Ah (nomark _)) (Al (Bf (Aq tw hr rfl (Aa (vv 4) (Aa (vv 3) Ac))))) Cs)
   (Ae (A3 (i:=5) Sj.nd rfl (Or.inl rfl) (Bk Ac))
   (Ae (A3 (i:=6) Sj.nd rfl (Or.inl rfl) T9)
   (Ae (B2 Ybf rfl (Bc (vv 4)) (Dv (n:=2) rfl (Au (Am (i:=7) Sj.nd rfl (Or.inr rfl)) (Au (Am (i:=8) Sj.nd rfl (Or.inl rfl)) Ct))) (Ae (En (Rt (Ck hr) (vv 8) (vv 6)) (Al (Fv (Ck hr) (vv 6) (vv 8) (Aq cOe hr rfl (Aa (Cu (N':=["target","tops","w"]) (mp:=[none,some 0,some 2]) rfl (Bc (Aq wv hr rfl (Aa (vv 8) Ac))) (λ_ _ _ _=>(Am (i:=0) Qf0 rfl (Or.inl rfl) (Or.inr rfl))) (λ_ _ _ _=>Cz) (λ_ _ _ _=>(Mo (Ck hr) (vv 1) (Bb (Aa (vv 0) (Aa (Dc Fc (vv 2) Ah) Ac))) (Bk Ac))) (Bm (N:=nRb) (pn:=(Af Zt).names) (by decide +kernel))) (Aa (vv 3) Ac))))) Cs)
   (Al (B6 (Em Yee Yef Mc (vv 5) (Aa (Cu (N':=["rest_cost","rest_bits","cost"]) (mp:=[none,none,some 7]) rfl (Bc (C8 (Ck hr) (vv 6) (vv 8))) (λ_ _ _ _=>(Dv (n:=2) rfl (Au (Am (i:=0) Zy rfl (Or.inl rfl) (Or.inr rfl)) (Au (Am (i:=1) Zy rfl (Or.inl rfl) (Or.inr rfl)) Ct)))) (λ_ _ _ _=>Cz) (λ_ _ _ _=>(Bb (Aa (Ba Ef (vv 2) (vv 0)) (Aa (vv 1) Ac)))) (Bm (N:=nRb) (pn:=(Af Zt).names) (by decide +kernel))) Ac))))))
   (Al (Bf (Aq tw hr rfl (Aa (vv 5) (Aa (vv 3) Ac))))))))))),?_⟩
 rintro xs μ R _ ⟨d,A,s,w,rfl,hT,hA,hs,hw,ht,q⟩
 match w,hw,q with
 | [],_,q =>
  refine Cj ⟨Ay _,Ay _,Tu rfl ⟨_,[s],rfl,rfl,λt h=>by rw [Yan.mp h];omega,λl hl=>⟨_,Sub.refl,q [(0,bts [s])] l _ (λz=>Iff.rfl) (by simp) (by rw [Ye1];decide) hl Ab (Sub.refl.new hl)⟩⟩⟩
 | [x],_,q =>
  refine Cj ⟨Ay _,Ay _,Sl rfl ?_⟩
  refine Cj (Lu hT Sub.refl s x (λQ h=>h) (λQ h=>Ad (x:=PyData.int (x:Nat)) rfl h) λl μ1 hl S hlo=>?_)
  refine Cj ⟨Ay _,Ay _,Tu rfl ?_⟩
  have hg:=Qv A (s,x)
  refine⟨_,grp A (s,x),rfl,An hl,by omega,λzs p μ2 hm bu jj hp e2 S2=>⟨_,Sub.refl,q zs p μ2 hm bu (by omega) (S.none hp) e2 λb m hb=>S2 b m (S b m hb)⟩⟩
 | [x,y],_,q =>
  refine Cj ⟨Ay _,Ay _,Sl rfl ?_⟩
  refine Cj (Lu hT Sub.refl s x (λQ h=>h) (λQ h=>Ad (x:=PyData.int (x:Nat)) rfl h) λl μ1 hl S hlo=>?_)
  refine Cj ⟨Ay _,Ay _,Sl rfl ?_⟩
  intro f hf r hr
  have S1:Sub μ (Aj μ1 f (.lst [])):=S.new (S.none hf)
  have ef:Aj μ1 f (.lst []) f=some (.lst []):=Ab
  have gc:Aj μ1 f (.lst []) l=some (.lst ((grp A (s,x)).map Ce)):=Sub.refl.new hf _ _ hl
  have fr:f≠r:=by rintro rfl;rw [ef]at hr;cases hr
  have f0:μ f=none:=S.none hf
  have r0:μ r=none:=S1.none hr
  have S2:Sub μ (Aj (Aj μ1 f (.lst [])) r (.dk [])):=S1.new r0
  have yp:Aj (Aj μ1 f (.lst [])) r (.dk []) f=some (.lst []):=by rw [Ag fr];exact ef
  have z6:Aj (Aj μ1 f (.lst [])) r (.dk []) r=some (.dk []):=Ab
  have fy:Aj (Aj μ1 f (.lst [])) r (.dk []) l=some (.lst ((grp A (s,x)).map Ce)):=Sub.refl.new hr _ _ gc
  have lf:l≠f:=by rintro rfl;rw [hf]at hl;cases hl
  have lr:l≠r:=by rintro rfl;rw [hr]at gc;cases gc
  generalize Aj (Aj μ1 f (.lst [])) r (.dk [])=μ2 at S2 yp z6 fy
  clear gc ef S1
  have hG:=Qv A (s,x)
  have z9:=λp (hp:p∈grp A (s,x))=>O2 ht hp
  show Ny _ _ _ _ _ _ [some (.R d),some (.D (.int (s:Nat))),some (.D (Ax [x,y])),some (.D (.bool false)),some (.R l),some (.R f),some (.R r),none,none] μ2
  have eq:rdg A s [x,y]=(grp A (s,x)).flatMap λp=>(cho (grs A y (B5 p.2))).map λq=>(p.1+q.1,q.2):=rfl
  rw [eq]at q
  generalize grp A (s,x)=G at hG z9 q fy
  refine Br (fun τ μ'=>∃o7 o8,∃zs:List Pr,τ=[some (.R d),some (.D (.int (s:Nat))),some (.D (Ax [x,y])),some (.D (.bool false)),some (.R l),some (.R f),some (.R r),o7,o8]/\μ' f=some (.lst (zs.map Ce))/\(∀z,z∈zs↔z∈G.flatMap λp=>(cho (grs A y (B5 p.2))).map λq=>(p.1+q.1,q.2))/\zs.length<=144/\Sub μ μ') (λZ hZ=>?_) ?_
  ·refine Ad (An fy) ?_
   refine Dd (λi τ μ'=>∃o7 o8,∃(zs:List Pr) (ab:List (Key×AV)),τ=[some (.R d),some (.D (.int (s:Nat))),some (.D (Ax [x,y])),some (.D (.bool false)),some (.R l),some (.R f),some (.R r),o7,o8]/\μ' f=some (.lst (zs.map Ce))/\μ' r=some (.dk ab)/\μ' l=some (.lst (G.map Ce))/\(∀z,z∈zs↔z∈(G.take i).flatMap λp=>(cho (grs A y (B5 p.2))).map λq=>(p.1+q.1,q.2))/\zs.length<=18 * i/\ab.length<=i/\Qfz A y f r ab μ'/\Sub μ μ') ⟨none,none,[],[],rfl,yp,z6,fy,(λz=>Iff.rfl),Yad _,Yad _,(λ_ _ h=>nomatch h),S2⟩ (λ_ _ _ ⟨_,_,_,_,_,_,_,e,_⟩=>An e) ?_ ?_
   ·rintro i v τ μ3 Z2 hv ⟨o7,o8,zs,ab,rfl,e3f,e3r,e3l,hm,jj,ga,hR,S3⟩ hZ2
    rw [List.getElem?_map]at hv
    obtain⟨⟨c,b⟩,hp,rfl⟩:=Yah.mp hv
    have hb:b < 32:=z9 _ (Ya1 hp)
    have hi:=(List.getElem?_eq_some_iff.mp hp).1
    refine⟨rfl,Yr ?_⟩
    dsimp only [List.set]
    refine Br (fun τ μ'=>∃(ab:List (Key×AV)) (v:AV),τ=[some (.R d),some (.D (.int (s:Nat))),some (.D (Ax [x,y])),some (.D (.bool false)),some (.R l),some (.R f),some (.R r),some (.D (.int (c:Nat))),some (.D (.int (b:Nat)))]/\μ' f=some (.lst (zs.map Ce))/\μ' r=some (.dk ab)/\μ' l=some (.lst (G.map Ce))/\Cb ab (.inl (b:Nat))=some v/\ab.length<=i+1/\Qfz A y f r ab μ'/\Sub μ μ') (λZ3 d6=>?_) ?_
    ·refine Ad e3r (Ad (x:=Cb ab (.inl (b:Nat))) rfl ?_)
     cases hv:Cb ab (.inl (b:Nat)) with
     | some v=>exact Sl rfl (d6 _ _ ⟨ab,v,rfl,e3f,e3r,e3l,hv,by omega,hR,S3⟩)
     | none =>
      refine Tu rfl ⟨b,rfl,hb,fun μ4 S4=>Ad (Dl _) λpl hpl=>?_⟩
      have hTB:TopR μ4 d A:=hT.sub λb m hb=>S4 b m (S3 b m hb)
      have li:((grs A y (B5 b)).map List.length).sum<=8:=Yak (Lr (Vv b)) hA
      have h5:(B5 b).length<=5:=Yak (Yc7 _ _) (by rw [Ycb];exact Yad _)
      refine Fe (λi acc τ' μ'=>∃o,∃ps:List Addr,τ'=[o,some (.R d),some (.D (Ax [x,y]))]/\acc=ps.map .R/\ps.length=i/\(∀(j:Nat) p t,ps[j]?=some p->(B5 b)[j]?=some t->p≠pl/\μ' p=some (.lst ((grp A (t,y)).map Ce)))/\μ' pl=some (.lst acc)/\Sub μ4 μ') ⟨none,[],rfl,rfl,rfl,(λ_ _ _ h=>nomatch h),Ab,Sub.refl.new hpl⟩ (λ_ _ _ _ _=>Dl _) ?_ ?_
      ·rintro j0 v acc τ' μ5 W hv' ⟨o,ps,rfl,rfl,ah,mn,e5,S5⟩ hW
       rw [List.getElem?_map]at hv'
       obtain⟨t,be,rfl⟩:=Yah.mp hv'
       have hj5:=(List.getElem?_eq_some_iff.mp be).1
       refine Tu rfl (Lu hTB S5 t y (λQ h=>h) (λQ h=>Ad (x:=PyData.int (y:Nat)) rfl h) λl5 μ6 hl5 S6 ho=>⟨S6 _ _ e5,A0 (by rw [Yab];omega),hW _ _ _ ⟨_,ps++[l5],rfl,by rw [Yaw];rfl,by rw [Yal,ah];rfl,?_,Ab,λb m hb=>?_⟩⟩)
       ·have am:l5≠pl:=by
         rintro rfl
         rcases ho with h | h
         ·exact h hpl
         ·rw [e5]at h;cases h
        intro j p t' h1 h2
        rcases Ybr j ps.length with h | h
        ·rw [List.getElem?_append_left h]at h1
         obtain⟨n,e⟩:=mn j p t' h1 h2
         exact⟨n,by rw [Ag n];exact S6 _ _ e⟩
        ·rw [List.getElem?_append_right h]at h1
         have h3:=(List.getElem?_eq_some_iff.mp h1).1
         rw [Ye1]at h3
         have h4:j=j0:=by omega
         rw [show j - ps.length=0 by omega]at h1
         have h6:l5=p:=Ya6 h1
         rw [h4,be]at h2
         have h7:t=t':=Ya6 h2
         rw [<- h6,<- h7]
         exact⟨am,by rw [Ag am];exact hl5⟩
       ·rw [Ag (by rintro rfl;rw [hpl]at hb;cases hb)]
        exact S6 _ _ (S5 _ _ hb)
      ·rintro acc τ' μ5 ⟨o,ps,rfl,rfl,ah,mn,e5,S5⟩
       rw [Yab]at ah
       refine⟨.R pl,ps,grs A y (B5 b),rfl,An e5,⟨by unfold grs;rw [Yab];exact ah,λj p g h1 h2=>?_⟩,λj=>Yak (Nc li j) (by decide),λus l6 μ6 hm6 hnd6 hul hl6 e6 S6=>?_⟩
       ·unfold grs at h2
        rw [List.getElem?_map]at h2
        obtain⟨t,h3,rfl⟩:=Yah.mp h2
        exact(mn j p t h1 h3).2
       ·have S36:Sub μ3 μ6:=λb m hb=>S6 _ _ (S5 _ _ (S4 _ _ hb))
        have lf6:l6≠f:=by rintro rfl;rw [S5 _ _ (S4 _ _ e3f)]at hl6;cases hl6
        have yr:l6≠r:=by rintro rfl;rw [S5 _ _ (S4 _ _ e3r)]at hl6;cases hl6
        have um:=O0 li
        have hpn:=Vn ab (.inl (b:Nat)) (.R l6)
        refine Ad (S36 _ _ e3r) (Ad (x:=MO.dk (Eo ab (.inl (b:Nat)) (.R l6))) rfl ⟨A0 (show ab.length<=_ by omega),d6 _ _ ⟨Eo ab (.inl (b:Nat)) (.R l6),.R l6,rfl,by rw [Ag fr];exact S36 _ _ e3f,Ab,by rw [Ag lr];exact S36 _ _ e3l,by rw [M6,Yao rfl],by omega,λk v hk=>?_,λb m hb=>?_⟩⟩)
        ·rw [M6]at hk
         by_cases e:(Sum.inl (k:Int):Key)=.inl (b:Int)
         ·rw [Yao e]at hk
          have e:k=b:=Ydm (Yfe e)
          subst e
          exact⟨l6,us,(Ya6 hk).symm,lf6,yr,by rw [Ag yr];exact e6,hm6,by omega⟩
         ·rw [Yaj e]at hk
          obtain⟨a,ys,rfl,af,ar,ea,hys,hyl⟩:=hR _ _ hk
          exact⟨a,ys,rfl,af,ar,by rw [Ag ar];exact S36 _ _ ea,hys,hyl⟩
        ·rw [Ag (by rintro rfl;rw [r0]at hb;cases hb)]
         exact S36 _ _ (S3 _ _ hb)
    clear ga hR
    rintro τ μ4 ⟨ab,v,rfl,e4f,e4r,e4l,hv,ga,hR,S4⟩
    obtain⟨a,ys,rfl,af,ar,ea,hys,hyl⟩:=hR _ _ hv
    refine⟨Ad e4f trivial,Ad e4r (Ad (x:=some (AV.R a)) (by show some (Cb ab (.inl (b:Nat)))=_;rw [hv]) (Ad (x:=AV.R a) rfl (Ad (An ea) λpl hpl=>?_)))⟩
    have pa:a≠pl:=by rintro rfl;rw [hpl]at ea;cases ea
    have pf:f≠pl:=by rintro rfl;rw [hpl]at e4f;cases e4f
    have p0:μ pl=none:=S4.none hpl
    refine cmap ys Ce (λq=>Ce (c+q.1,q.2)) (fun τ=>∃o1 o2,τ=[o1,o2,some (.D (.int (c:Nat)))]) ⟨none,none,rfl⟩ Ab (seven (by omega)) (λacc=>An (by rw [Cp,Ag pa];exact ea)) ?_ ?_
    ·rintro j ⟨c2,b2⟩ τ' acc W hq ⟨o1,o2,rfl⟩ hW
     refine⟨rfl,Yr ?_⟩
     exact hW _ ⟨_,_,rfl⟩
    ·rw [Cp]
     have S5:Sub μ4 (Aj μ4 pl (.lst (ys.map λq=>Ce (c+q.1,q.2)))):=Sub.refl.new hpl
     have e5:Aj μ4 pl (.lst (ys.map λq=>Ce (c+q.1,q.2))) pl=some (.lst (ys.map λq=>Ce (c+q.1,q.2))):=Ab
     generalize Aj μ4 pl (.lst (ys.map λq=>Ce (c+q.1,q.2)))=μ5 at S5 e5
     have c9:G.take (i+1)=G.take i++[(c,b)]:=by rw [Ybi,hp];rfl
     refine Ad (S5 _ _ e4f) (Ad e5 ⟨Ybq (A0 (by rw [Yab,Yab];omega)),hZ2 _ _ ⟨_,_,zs++ys.map (λq=>(c+q.1,q.2)),ab,rfl,?_,by rw [Ag fr.symm];exact S5 _ _ e4r,by rw [Ag lf];exact S5 _ _ e4l,λz=>?_,by rw [Yal,Yab];omega,ga,λk v hk=>?_,λb m hb=>?_⟩⟩)
     ·rw [Ab,Yaw,Ya0];rfl
     ·rw [c9,Yc1,Yaq,Yaq,hm,Yet]
      refine or_congr Iff.rfl ?_
      rw [Yaf,Yaf]
      exact⟨λ⟨u,h1,h2⟩=>⟨u,(hys u).mp h1,h2⟩,λ⟨u,h1,h2⟩=>⟨u,(hys u).mpr h1,h2⟩⟩
     ·obtain⟨a,ys,rfl,af,ar,ea,hys,hyl⟩:=hR _ _ hk
      exact⟨a,ys,rfl,af,ar,by rw [Ag af];exact S5 _ _ ea,hys,hyl⟩
     ·rw [Ag (by rintro rfl;rw [f0]at hb;cases hb)]
      exact S5 _ _ (S4 _ _ hb)
   ·rintro τ μ3 ⟨o7,o8,zs,ab,rfl,e3f,e3r,e3l,hm,jj,ga,hR,S3⟩
    rw [Yab]at hm jj
    rw [Ybh]at hm
    exact hZ _ _ ⟨_,_,zs,rfl,e3f,hm,by omega,S3⟩
  rintro τ μ3 ⟨o7,o8,zs,rfl,e3,hm,jj,S3⟩
  refine⟨_,zs,rfl,An e3,by omega,λus p μ4 hm4 bu hul hp e4 S4=>⟨_,Sub.refl,q us p μ4 (λz=>(hm4 z).trans (hm z)) bu (by omega) (S3.none hp) e4 λb m hb=>S4 b m (S3 b m hb)⟩⟩
end
section
variable {P:Program}{w:World}{K:PySem.W.Frag}{mg:Str->Option Value}{base:Heap}{f:Addr}{fd:FuncData}
abbrev nRd:List Str:=["arrows","stand","w","found"]
theorem Qf3:FnScope nRd ["arrows","stand","w"] (Af sRd):=⟨rfl,rfl,rfl,by decide +kernel,rfl,by decide +kernel,by decide +kernel⟩
theorem Zz:(["cost","bits"]:List Str).Nodup:=by decide +kernel
def Nk(p:Pr):PyData:=.tuple [Ax (B5 p.2),.int (p.1:Nat)]
theorem Ys:∀b:_root_.Fin 32,(Ax (B5 b.val)).canLay0=true/\(Ax (B5 b.val)).depth<=3/\Cano (Ax (B5 b.val))=true:=by decide +kernel
theorem Qcr:∀a b:_root_.Fin 32,cmpb (Ax (B5 a.val)) (Ax (B5 b.val))=true:=by decide +kernel
theorem Qcs:∀a b:_root_.Fin 32,B5 a.val=B5 b.val->a=b:=by decide +kernel
theorem Vw:∀{zs:List Pr},(∀p∈zs,p.2 < 32)->PyData.canLayAll0 (zs.map Nk)=true/\PyData.depthAll (zs.map Nk)<=64/\Ak (zs.map Nk)=true
 | [],_=>⟨rfl,by decide,rfl⟩
 | p :: zs,h=>by
  obtain⟨a,b,c⟩:=Vw (zs:=zs) λq hq=>h q (Yav _ hq)
  obtain⟨d,e,g⟩:=Ys ⟨p.2,h p Yax⟩
  dsimp only at d e g
  refine⟨?_,?_,?_⟩
  ·simp [PyData.canLayAll0,Nk,PyData.canLay0,a,d]
  ·simp only [List.map_cons,PyData.depthAll,Nk,PyData.depth];omega
  ·simp [Ak,Nk,Cano,c,g]
theorem Nd{a b:List Nat}(h:Ax a=Ax b):a=b:=by
 unfold Ax at h
 rw [PyData.tuple.injEq]at h
 induction a generalizing b with
 | nil=>cases b with
  | nil=>rfl
  | cons y b=>cases h
 | cons x a ih=>cases b with
  | nil=>cases h
  | cons y b =>
   simp only [List.map_cons,List.cons.injEq,PyData.int.injEq]at h
   rw [ih h.2,show x=y by omega]
theorem Qct{p q:Pr}(h1:p.2 < 32)(h2:q.2 < 32)(h:Nk p=Nk q):p=q:=by
 have h:PyData.tuple [Ax (B5 p.2),.int (p.1:Nat)]=.tuple [Ax (B5 q.2),.int (q.1:Nat)]:=h
 injection h with h
 injection h with h3 h4
 injection h4 with h4 _
 injection h4 with h4
 have e:B5 p.2=B5 q.2:=Nd h3
 have:=Qcs ⟨p.2,h1⟩ ⟨q.2,h2⟩ e
 exact Prod.ext (Ydm h4) (Ycg (·.val) this)
theorem Qf4{zs:List Pr}(h:∀p∈zs,p.2 < 32)(hn:zs.Nodup)(hl:zs.length<=144):SortOkT (zs.map Nk):=by
 obtain⟨a,b,c⟩:=Vw h
 refine⟨by rw [Yab];omega,a,b,c,?_,λ_ d hd=>?_,λd hd e he=>?_⟩
 ·unfold List.Nodup at hn ⊢
  rw [Ybm]
  exact hn.imp_of_mem λhp hq am e=>am (Qct (h _ hp) (h _ hq) e)
 ·obtain⟨p,_,rfl⟩:=Yaf.mp hd
  exact⟨_,_,rfl⟩
 ·obtain⟨p,hp,rfl⟩:=Yaf.mp hd
  obtain⟨q,hq,rfl⟩:=Yaf.mp he
  have:=Qcr ⟨p.2,h p hp⟩ ⟨q.2,h q hq⟩
  dsimp only at this
  simp [Nk,cmpb,cmpbs,this]
def Qcu:ASp:=λxs μ R=>∃(x:AV) (A:List Ar) (s:Nat) (w:List Nat),xs=[x,.D (.int (s:Nat)),.D (Ax w)]/\items μ x=some (A.map Vq)/\A.length<=8/\s < 5/\w.length<=2/\(∀a∈A,∀t∈a.ts,t < 5)/\(∀p∈rdg A s w,p.2 < 32)/\∀(zs:List Pr) (es:List PyData) (l:Addr) μ',(∀z,z∈zs↔z∈rdg A s w)->zs.Nodup->es.Perm (zs.map Nk)->es.Pairwise (λa b=>D8 a b=true)->μ l=none->μ' l=some (.lst (es.map .D))->Sub μ μ'->R (.R l) μ'
theorem Qf5{n:Nat}(F:Fun K "readings" "readings" sRd f fd) (wv:VCal P w K mg base n "as_stands" ["bits"] Qcl) (cAt:VCal P w K mg base n "arrows_by_top" ["arrows"] Qfu) (cRb:VCal P w K mg base n "readings_by" ["tops","stand","w","least"] Qf1) (ai:mg "sorted" = none):FnOk P w K mg base Gn (n+1) f fd ["arrows","stand","w"] (K5 K 3 Qcu):=by
 refine F.vok Qf3 λbd A outer s H E hr=>⟨_,(Ae (A3 (i:=3) Qf3.nd rfl (Or.inl rfl) (Aq cRb hr rfl (Aa (Aq cAt hr rfl (Aa (vv 0) Ac)) (Aa (vv 1) (Aa (vv 2) (Aa Jz Ac))))))
   (Al (Bf (Bn (Sc hr) rfl ai PyProof.Rows.boot_sorted (Aa (Cu (N':=["cost","bits"]) (mp:=[none,none]) rfl (Bc (vv 3)) (λ_ _ _ _=>(Dv (n:=2) rfl (Au (Am (i:=0) Zz rfl (Or.inl rfl) (Or.inr rfl)) (Au (Am (i:=1) Zz rfl (Or.inl rfl) (Or.inr rfl)) Ct)))) (λ_ _ _ _=>Cz) (λ_ _ _ _=>(Bb (Aa (Aq wv hr rfl (Aa (vv 1) Ac)) (Aa (vv 0) Ac)))) (Bm (N:=nRd) (pn:=(Af sRd).names) (by decide +kernel))) Ac))))),?_⟩
 rintro xs μ R _ ⟨x,A,s,w,rfl,hx,hA,hs,hw,ht,x9,q⟩
 refine Cj ⟨x,A,rfl,hx,by omega,ht,λd ab μ1 T=>?_⟩
 refine⟨d,A,s,w,rfl,TopW.r T,hA,hs,hw,ht,λzs l μ2 hm bu jj hl e2 S2=>?_⟩
 have S02:Sub μ μ2:=λb m hb=>S2 b m (T.ss b m hb)
 have hz:∀p∈zs,p.2 < 32:=λp hp=>x9 p ((hm p).mp hp)
 refine Ad (An e2) λpl hpl=>?_
 refine Fe (λi acc τ' μ'=>∃o1 o2,τ'=[o1,o2]/\acc=(zs.take i).map (λp=>.D (Nk p))/\μ' pl=some (.lst acc)/\Sub μ2 μ') ⟨none,none,rfl,rfl,Ab,Sub.refl.new hpl⟩ (λ_ _ _ _ ⟨_,_,_,_,_,S⟩=>An (S _ _ e2)) ?_ ?_
 ·rintro i v acc τ' μ3 W hv ⟨o1,o2,rfl,rfl,e3,S3⟩ hW
  rw [List.getElem?_map]at hv
  obtain⟨⟨c,b⟩,hp,rfl⟩:=Yah.mp hv
  have hi:=(List.getElem?_eq_some_iff.mp hp).1
  refine⟨rfl,Yr (Tu rfl ⟨b,rfl,hz _ (Ya1 hp),fun μ4 S4=>⟨S4 _ _ e3,A0 (by rw [Yab,Ybl];omega),hW _ _ _ ⟨_,_,rfl,?_,Ab,λb m hb=>?_⟩⟩⟩)⟩
  ·rw [Ybi,hp,Yaw];rfl
  ·rw [Ag (by rintro rfl;rw [hpl]at hb;cases hb)]
   exact S4 _ _ (S3 _ _ hb)
 ·rintro acc τ' μ3 ⟨o1,o2,rfl,rfl,e3,S3⟩
  rw [Yab,Ybh]at e3
  have ed:dats (zs.map λp=>AV.D (Nk p))=some (zs.map Nk):=by
   rw [show(zs.map λp=>AV.D (Nk p))=(zs.map Nk).map .D by rw [Ya0];rfl];exact Ci _
  have S03:Sub μ μ3:=λb m hb=>S3 b m (S02 b m hb)
  refine Ad e3 (Ad ed ⟨Qf4 hz bu jj,λes p ig lq hp=>⟨_,Sub.refl,q zs es p _ hm bu ig lq (S03.none hp) Ab (S03.new (S03.none hp))⟩⟩)
end
section
variable {P:Program}{w:World}{K:PySem.W.Frag}{mg:Str->Option Value}{base:Heap}{f:Addr}{fd:FuncData}
theorem Vx:∀(Gs:List (List Pr)) (F:List Pr),(∀z∈F,z.2 < 32)->(∀G∈Gs,∀p∈G,p.2 < 32)->∀z∈Gs.foldl (λF G=>F.flatMap λp=>G.map (ewe p)) F,z.2 < 32
 | [],_,h,_=>h
 | G :: Gs,F,h,hG=>by
  refine Vx Gs _ (λz hz=>?_) λG' h'=>hG G' (.tail _ h')
  obtain⟨p,hp,hz⟩:=Ydq.mp hz
  obtain⟨o,ho,rfl⟩:=Yaf.mp hz
  exact Nat.or_lt_two_pow (n:=5) (h p hp) (hG G (.head _) o ho)
theorem Qcv{A:List Ar}{s:Nat}(hs:s < 5)(ht:∀a∈A,∀t∈a.ts,t < 5):∀(w:List Nat),∀p∈rdg A s w,p.2 < 32
 | [],p,hp=>by
  rw [Yan.mp hp]
  exact O1 (ts:=[s]) (λt h=>by rw [Yan.mp h];exact hs) (by decide)
 | [x],p,hp=>O2 ht hp
 | x :: y :: _,p,hp=>by
  obtain⟨q,hq,hp⟩:=Ydq.mp hp
  obtain⟨z,hz,rfl⟩:=Yaf.mp hp
  refine Vx _ [(0,0)] (λz h=>by rw [Yan.mp h];decide) (λG hG p hp=>?_) z hz
  obtain⟨t,_,rfl⟩:=Yaf.mp hG
  exact O2 ht hp
structure AOk(st:Nat)(a:Ar):Prop where
 p:a.p < st
 x:a.x < 3
 t:∀t∈a.ts,t < st
 u:a.ts.Pairwise (· < ·)
 c:a.c < 10
theorem Qcw{B:List Ar}(hl:B.length<=290):TOk (B.map Hj):=by
 refine⟨by rw [Yab];omega,λd hd=>?_,λd hd=>?_,λd hd e he=>?_⟩
 ·obtain⟨a,ha,rfl⟩:=Yaf.mp hd
  have h1:=Qp (ns:=a.ts)
  have h2:=G5 a.ts
  refine⟨?_,?_,?_⟩
  ·simp only [Hj,Ax,Cano,Ak,h2,Bool.and_true]
  ·simp only [Hj,Ax,PyData.canLay0,PyData.canLayAll0,h1.1,Bool.and_true,Bool.true_and]
  ·have:=h1.2
   simp only [Hj,Ax,PyData.depth,PyData.depthAll];omega
 ·obtain⟨a,ha,rfl⟩:=Yaf.mp hd
  exact⟨_,_,rfl⟩
 ·obtain⟨a,ha,rfl⟩:=Yaf.mp hd
  obtain⟨b,hb,rfl⟩:=Yaf.mp he
  simp only [Hj,Ax,cmpb,cmpbs,Je,ite_self]
theorem Yt(B:List Ar):dats (B.map Vq)=some (B.map Hj):=by
 rw [show B.map Vq=(B.map Hj).map .D by rw [Ya0];rfl];exact Ci _
abbrev nAr:List Str:=["_law_deal_here","_law_stands","_law_letters","_law_found","_law_k","_law_targets"]
theorem Yu:FnScope nAr ["_law_deal_here","_law_stands","_law_letters"] (Af sAr):=⟨rfl,rfl,rfl,by decide +kernel,rfl,by decide +kernel,by decide +kernel⟩
theorem Qf6:(["_law_s","_law_deal_here"]:List Str).Nodup:=by decide +kernel
def Qcx:ASp:=λxs μ R=>∃(a l:Addr) (st:Nat),xs=[.R a,.D (.int st),.D (.int 3)]/\0 < st/\st<=5/\Pot μ a l/\∀(B:List Ar) μ',B.length<=8->B≠[]->(∀b∈B,AOk st b)->Pot μ' a l->Ch a l μ μ'->R (.D (.tuple (B.map Hj))) μ'
theorem Qf7{n:Nat}(F:Fun K "_law_arrows" "_law_arrows" sAr f fd) (gh:VCal P w K mg base n "_law_draw" ["_law_deal_here","_law_many"] Yi) (ao:mg "range" = none) (al:mg "tuple" = none) (ai:mg "sorted" = none) (bj:mg "set" = none):FnOk P w K mg base Gn (n+1) f fd ["_law_deal_here","_law_stands","_law_letters"] (K5 K 3 Qcx):=by
 refine F.vok Yu λbd A outer s H E hr=>⟨_,(Ae (A3 (i:=3) Yu.nd rfl (Or.inl rfl) (Bk Ac))
   (Ae (B2 Ybf rfl (D6 rfl ao (Aa (Dc Fc (Bk (Aa Ah (Aa Ah (Aa Ah Ac)))) (Aq gh hr rfl (Aa (vv 0) (Aa Ah Ac)))) Ac)) (Am (i:=4) Yu.nd rfl (Or.inl rfl)) (Ae (A3 (i:=5) Yu.nd rfl (Or.inl rfl) (C9 Fr rfl al Ycx (Aa (Cu (N':=["_law_s","_law_deal_here"]) (mp:=[none,some 0]) rfl (D6 rfl ao (Aa (vv 1) Ac)) (λ_ _ _ _=>(Am (i:=0) Qf6 rfl (Or.inl rfl) (Or.inr rfl))) (λ_ _ _ _=>(Ft (Bz (Gu hr) (Aq gh hr rfl (Aa (vv 1) (Aa Ah Ac))) Ah (nomark _)))) (λ_ _ _ _=>(vv 0)) (Bm (N:=nAr) (pn:=(Af sAr).names) (by decide +kernel))) Ac)))
   (Al (B6 (Em Ybx Yby Cy (vv 3) (Aa (Bb (Aa (Aq gh hr rfl (Aa (vv 0) (Aa (vv 1) Ac))) (Aa (Aq gh hr rfl (Aa (vv 0) (Aa (vv 2) Ac))) (Aa (vv 5) (Aa (Aq gh hr rfl (Aa (vv 0) (Aa Ah Ac))) Ac))))) Ac))))))
   (Al (Bf (C9 Fr rfl al Ycx (Aa (Qk hr rfl ai rfl bj (vv 3)) Ac)))))),?_⟩
 rintro xs μ R _ ⟨a,l,st,rfl,qv,hs5,hP,q⟩
 intro pf js
 have am:=hP.ne js
 refine Br (fun τ μ'=>∃o4 o5,∃B:List Ar,τ=[some (.R a),some (.D (.int st)),some (.D (.int 3)),some (.R pf),o4,o5]/\μ' pf=some (.lst (B.map Vq))/\B.length<=8/\B≠[]/\(∀b∈B,AOk st b)/\Pot μ' a l/\Ch a l μ μ') (λZ hZ=>?_) ?_
 ·intro pt fz
  have hP1:Pot (Aj (Aj μ pf (.lst [])) pt (.lst [.D (.int 3),.D (.int 5),.D (.int 8)])) a l:=(hP.new js).new fz
  have n9:=(hP.new (o:=.lst []) js).ne fz
  have xi:pf≠pt:=by rintro rfl;rw [Ab]at fz;cases fz
  have E1:Ch a l μ (Aj (Aj μ pf (.lst [])) pt (.lst [.D (.int 3),.D (.int 5),.D (.int 8)])):=(Ch.refl.new js).new fz
  have e1:Aj (Aj μ pf (.lst [])) pt (.lst [.D (.int 3),.D (.int 5),.D (.int 8)]) pf=some (.lst []):=by rw [Ag xi,Ab]
  refine⟨a,l,3,rfl,hP1,by decide,by decide,λc μ2 hc P2 S2=>?_⟩
  have e2:=S2 pf _ am.1.symm am.2.symm e1
  have e3:=S2 pt _ n9.1.symm n9.2.symm Ab
  have E2:=E1.trans S2
  obtain⟨m,hm0,hm8,hix⟩:∃m:Nat,0 < m/\m<=8/\atI [AV.D (.int 3),.D (.int 5),.D (.int 8)] (c:Int)=some (.D (.int (m:Nat))):=by
   match c,hc with
   | 0,_=>exact⟨3,by decide,by decide,rfl⟩
   | 1,_=>exact⟨5,by decide,by decide,rfl⟩
   | 2,_=>exact⟨8,by decide,by decide,rfl⟩
  refine Ad e3 (Ad hix ⟨by omega,by omega,?_⟩)
  have ah:(Fd 0 (m:Int).toNat).length=m:=by rw [Bh];omega
  refine Dd (λi τ μ'=>∃o4 o5,∃B:List Ar,τ=[some (.R a),some (.D (.int st)),some (.D (.int 3)),some (.R pf),o4,o5]/\μ' pf=some (.lst (B.map Vq))/\B.length=i/\(∀b∈B,AOk st b)/\Pot μ' a l/\Ch a l μ μ') ⟨none,none,[],rfl,e2,rfl,(λ_ z=>nomatch z),P2,E2⟩ (λ_ _ _ _=>trivial) ?_ ?_
  ·rintro i y τ μ3 Z2 hy ⟨o4,o5,B,rfl,e3,hB,kB,P3,S3⟩ hZ2
   have hi:i < m:=by rw [<- ah];exact(List.getElem?_eq_some_iff.mp hy).1
   have ey:=D5 _ _ _ hy
   rw [Int.zero_add]at ey
   subst ey
   refine Br (fun τ μ'=>∃ts:List Nat,τ=[some (.R a),some (.D (.int st)),some (.D (.int 3)),some (.R pf),some (.D (.int i)),some (.D (Ax ts))]/\(∀t∈ts,t < st)/\ts.Pairwise (· < ·)/\μ' pf=some (.lst (B.map Vq))/\Pot μ' a l/\Ch a l μ μ') (λZ3 d6=>?_) ?_
   ·refine⟨by omega,by omega,λpl hpl=>?_⟩
    have jq:=P3.ne hpl
    have y2:pf≠pl:=by rintro rfl;rw [e3]at hpl;cases hpl
    have fo:(Fd 0 (st:Int).toNat).length=st:=by rw [Bh];omega
    refine Fe (λj acc τ' μ'=>∃o,∃ns:List Nat,τ'=[o,some (.R a)]/\acc=ns.map Dy/\ns.length<=j/\(∀n∈ns,n < j)/\ns.Pairwise (· < ·)/\μ' pl=some (.lst acc)/\μ' pf=some (.lst (B.map Vq))/\Pot μ' a l/\Ch a l μ μ') ⟨none,[],rfl,rfl,Yad _,(λ_ z=>nomatch z),List.Pairwise.nil,Ab,by rw [Ag y2];exact e3,P3.new hpl,S3.new hpl⟩ (λ_ _ _ _ _=>trivial) ?_ ?_
    ·rintro j x acc τ' μ4 W hx ⟨o,ns,rfl,rfl,hn,hb,hu,e4,f4,P4,S4⟩ hW
     have hj:j < st:=by rw [<- fo];exact(List.getElem?_eq_some_iff.mp hx).1
     have ex:=D5 _ _ _ hx
     rw [Int.zero_add]at ex
     subst ex
     refine⟨a,l,3,rfl,P4,by decide,by decide,λv μ5 hv P5 S5=>?_⟩
     have e5:=S5 pl _ jq.1.symm jq.2.symm e4
     have f5:=S5 pf _ am.1.symm am.2.symm f4
     refine ieq (λc=>?_) (λc=>hW _ _ _ ⟨_,ns,rfl,rfl,by omega,λn h=>Yb4 (hb n h),hu,e5,f5,P5,S4.trans S5⟩)
     refine⟨e5,A0 (by rw [Yab];omega),hW _ _ _ ⟨_,ns++[j],rfl,by rw [Yaw];rfl,by rw [Yal];show ns.length+1<=_;omega,λn ml=>?_,?_,Ab,by rw [Ag y2];exact f5,P5.other jq.1 jq.2,λb m h1 h2 hb=>?_⟩⟩
     ·rcases Yaq.mp ml with h | h
      ·exact Yb4 (hb n h)
      ·rw [Yan.mp h];omega
     ·rw [Yc8]
      exact⟨hu,Ydl _ _,λx hx y hy=>by rw [Yan.mp hy];exact hb x hx⟩
     ·have:=S3 b m h1 h2 hb
      rw [Ag (by rintro rfl;rw [hpl]at this;cases this)]
      exact S5 b m h1 h2 (S4 b m h1 h2 hb)
    ·rintro acc τ' μ4 ⟨o,ns,rfl,rfl,hn,hb,hu,e4,f4,P4,S4⟩
     rw [fo]at hb
     exact Ad (An e4) (Ad (Gg _) (d6 _ _ ⟨ns,rfl,hb,hu,f4,P4,S4⟩))
   rintro τ μ4 ⟨ts,rfl,ht,hu,e4,P4,S4⟩
   refine⟨Ad e4 trivial,a,l,st,rfl,P4,qv,by omega,λp μ5 hp P5 S5=>⟨a,l,3,rfl,P5,by decide,by decide,λx μ6 hx P6 S6=>⟨a,l,10,rfl,P6,by decide,by decide,λct μ7 hct P7 S7=>?_⟩⟩⟩
   have e7:=S7 pf _ am.1.symm am.2.symm (S6 pf _ am.1.symm am.2.symm (S5 pf _ am.1.symm am.2.symm e4))
   refine Ad e7 ⟨A0 (by rw [Yab];omega),hZ2 _ _ ⟨_,_,B++[⟨p,x,ts,ct⟩],rfl,by rw [Ab,Yaw];rfl,by rw [Yal,hB];rfl,λb hb=>?_,P7.other am.1 am.2,(S4.trans (S5.trans (S6.trans S7))).put js⟩⟩
   rcases Yaq.mp hb with hb | hb
   ·exact kB b hb
   ·rw [Yan.mp hb];exact⟨hp,hx,ht,hu,hct⟩
  ·rintro τ μ3 ⟨o4,o5,B,rfl,e3,hB,kB,P3,S3⟩
   rw [ah]at hB
   exact hZ _ _ ⟨_,_,B,rfl,e3,by omega,by rintro rfl;simp at hB;omega,kB,P3,S3⟩
 rintro τ μ3 ⟨o4,o5,B,rfl,e3,hB,hB0,kB,P3,S3⟩
 refine Ad (An e3) (Ad (Yt B) ⟨Qcw (by omega),λes p bu hm _ hp=>?_⟩)
 obtain⟨C,rfl,_,hC⟩:=unmap λd hd=>(hm d).mp hd
 have jh:=P3.ne hp
 have ah:C.length<=B.length:=by
  have:=Dj bu λd hd=>(hm d).mp hd
  rwa [Yab,Yab]at this
 refine Ad (An Ab) (Ad (Ci _) ⟨_,Sub.refl,q C _ (by omega) (λe=>?_) (λb hb=>kB b (hC b hb)) (P3.other jh.1 jh.2) (S3.new hp)⟩)
 obtain⟨b,hb⟩:=List.exists_mem_of_ne_nil B hB0
 have:=(hm (Hj b)).mpr (Yaf.mpr ⟨b,hb,rfl⟩)
 rw [e]at this
 cases this
end
section
variable {P:Program}{w:World}{K:PySem.W.Frag}{mg:Str->Option Value}{base:Heap}{f:Addr}{fd:FuncData}
abbrev Pq:=List Nat×Nat
def Nf(p:Pq):PyData:=.tuple [Ax p.1,.int (p.2:Nat)]
def Hk(p:Pq):AV:=.D (Nf p)
def chs:List (List Pq)->List (List Pq):=List.foldl (λF G=>F.flatMap λr=>G.map λt=>r++[t]) [[]]
theorem Ng(Gs:List (List Pq))(G:List Pq):chs (Gs++[G])=(chs Gs).flatMap λr=>G.map λt=>r++[t]:=by
 unfold chs
 rw [Yd3];rfl
abbrev Ls:=List (Addr×List Pq)
def C1(μ:M)(es:Ls):Prop:=∀e∈es,μ e.1=some (.lst (e.2.map Hk))
def Jg(es:Ls):List AV:=es.map λe=>.R e.1
theorem C1.sub{μ ν:M}{es:Ls}(h:C1 μ es)(S:Sub μ ν):C1 ν es:=λe he=>S _ _ (h e he)
theorem C1.snoc{μ:M}{es:Ls}{p:Addr}{r:List Pq}(h:C1 μ es)(e:μ p=some (.lst (r.map Hk))):C1 μ (es++[(p,r)]):=λx hx=>by
 rcases Yaq.mp hx with hx | hx
 ·exact h x hx
 ·rw [Yan.mp hx];exact e
theorem C1.app{μ:M}{es fs:Ls}(h:C1 μ es)(k:C1 μ fs):C1 μ (es++fs):=λx hx=>(Yaq.mp hx).elim (h x) (k x)
theorem C1.put{μ:M}{es:Ls}{p:Addr}{o:MO}(h:C1 μ es)(hp:∀e∈es,e.1≠p):C1 (Aj μ p o) es:=λe he=>by rw [Ag (hp e he)];exact h e he
theorem Ee{μ ν:M}{p:Addr}{o:MO}(S:Sub μ ν)(h:μ p=none):Sub μ (Aj ν p o):=λb m hb=>by
 rw [Ag (by rintro rfl;rw [h]at hb;cases hb)];exact S b m hb
theorem C5{μ ν ρ:M}(h:Sub μ ν)(k:Sub ν ρ):Sub μ ρ:=λb m hb=>k b m (h b m hb)
abbrev nCh:List Str:=["_law_some","_law_found","_law_things","_law_longer","_law_row"]
theorem Sk:FnScope nCh ["_law_some"] (Af sCh):=⟨rfl,rfl,rfl,by decide +kernel,rfl,by decide +kernel,by decide +kernel⟩
theorem Qf8:(["_law_thing","_law_row"]:List Str).Nodup:=by decide +kernel
def Qf9:ASp:=λxs μ R=>∃(x:AV) (es:Ls),xs=[x]/\items μ x=some (Jg es)/\C1 μ es/\es.length<=5/\(∀j,(chs ((es.map (·.2)).take j)).length<=18)/\∀(rs:Ls) (l:Addr) μ',rs.map (·.2)=chs (es.map (·.2))->C1 μ' rs->(∀r∈rs,μ r.1=none)->μ l=none->μ' l=some (.lst (Jg rs))->Sub μ μ'->R (.R l) μ'
theorem Qga{n:Nat}(F:Fun K "_law_choices" "_law_choices" sCh f fd):FnOk P w K mg base Gn (n+1) f fd ["_law_some"] (K5 K 1 Qf9):=by
 refine F.vok Sk λbd A outer s H E hr=>⟨_,(Ae (A3 (i:=1) Sk.nd rfl (Or.inl rfl) (Bk (Aa (Bk Ac) Ac)))
   (Ae (B2 Ybf rfl (Bc (vv 0)) (Am (i:=2) Sk.nd rfl (Or.inl rfl)) (Ae (A3 (i:=3) Sk.nd rfl (Or.inl rfl) (Bk Ac))
   (Ae (B2 Ybf rfl (Bc (vv 1)) (Am (i:=4) Sk.nd rfl (Or.inr rfl)) (Al (B6 (Em Yee Yef Mc (vv 3) (Aa (Cu (N':=["_law_thing","_law_row"]) (mp:=[none,some 4]) rfl (Bc (vv 2)) (λ_ _ _ _=>(Am (i:=0) Qf8 rfl (Or.inl rfl) (Or.inr rfl))) (λ_ _ _ _=>Cz) (λ_ _ _ _=>(Ba Ef (vv 1) (Bk (Aa (vv 0) Ac)))) (Bm (N:=nCh) (pn:=(Af sCh).names) (by decide +kernel))) Ac)))))
   (Al (A3 (i:=1) Sk.nd rfl (Or.inl rfl) (vv 3))))))
   (Al (Bf (vv 1))))),?_⟩
 rintro xs μ R _ ⟨x,es,rfl,hx,hE,h5,um,q⟩
 intro p0 tq p1 dh
 have S1:Sub μ (Aj (Aj μ p0 (.lst [])) p1 (.lst [.R p0])):=(Sub.refl.new tq).new ((Sub.refl.new tq:Sub μ _).none dh)
 have h01:p0≠p1:=by rintro rfl;rw [Ab]at dh;cases dh
 have hn1:μ p1=none:=(Sub.refl.new tq:Sub μ (Aj μ p0 (.lst []))).none dh
 have e1:Aj (Aj μ p0 (.lst [])) p1 (.lst [.R p0]) p1=some (.lst [.R p0]):=Ab
 have e0:Aj (Aj μ p0 (.lst [])) p1 (.lst [.R p0]) p0=some (.lst []):=by rw [Ag h01,Ab]
 generalize Aj (Aj μ p0 (.lst [])) p1 (.lst [.R p0])=μ1 at S1 e1 e0
 show Ny _ _ _ _ _ _ [some x,some (.R p1),none,none,none] μ1
 refine Br (fun τ μ'=>∃o2 o3 o4,∃(l:Addr) (rs:Ls),τ=[some x,some (.R l),o2,o3,o4]/\rs.map (·.2)=chs (es.map (·.2))/\C1 μ' rs/\(∀r∈rs,μ r.1=none)/\μ l=none/\μ' l=some (.lst (Jg rs))/\Sub μ μ') (λZ hZ=>?_) ?_
 ·refine Ad (Bt hx S1) ?_
  refine Dd (λi τ μ'=>∃o2 o3 o4,∃(l:Addr) (rs:Ls),τ=[some x,some (.R l),o2,o3,o4]/\rs.map (·.2)=chs ((es.map (·.2)).take i)/\(∀r∈rs,r.2.length=i/\μ r.1=none)/\C1 μ' rs/\μ l=none/\μ' l=some (.lst (Jg rs))/\Sub μ μ') ⟨none,none,none,p1,[(p0,[])],rfl,rfl,(λr h=>by rw [Yan.mp h];exact⟨rfl,tq⟩),(λe h=>by rw [Yan.mp h];exact e0),hn1,e1,S1⟩ (λ_ _ _ ⟨_,_,_,_,_,_,_,_,_,_,_,S⟩=>Bt hx S) ?_ ?_
  ·rintro i v τ μ2 Z2 hv ⟨o2,o3,o4,l,rs,rfl,hrs,mm,hR,hl,e2,S2⟩ hZ2
   unfold Jg at hv
   rw [List.getElem?_map]at hv
   obtain⟨⟨pe,G⟩,hp,rfl⟩:=Yah.mp hv
   have hi:=(List.getElem?_eq_some_iff.mp hp).1
   have hG:μ2 pe=some (.lst (G.map Hk)):=S2 _ _ (hE _ (Ya1 hp))
   have c9:(es.map (·.2)).take (i+1)=(es.map (·.2)).take i++[G]:=by rw [Ybi,List.getElem?_map,hp];rfl
   have hb:=um (i+1)
   rw [c9,Ng,<- hrs]at hb
   have hbi:=um i
   rw [<- hrs,Yab]at hbi
   intro lg km
   have lgl:l≠lg:=by rintro rfl;rw [e2]at km;cases km
   have lg0:μ lg=none:=S2.none km
   have S3:Sub μ2 (Aj μ2 lg (.lst [])):=Sub.refl.new km
   have e3:Aj μ2 lg (.lst []) lg=some (.lst (Jg [])):=Ab
   have pel:pe≠lg:=by rintro rfl;rw [hG]at km;cases km
   generalize Aj μ2 lg (.lst [])=μ3 at S3 e3
   show Ny _ _ _ _ _ _ [some x,some (.R l),some (.R pe),some (.R lg),o4] μ3
   have li:∀j,((rs.map (·.2)).take j).flatMap (λr=>G.map λt=>r++[t])=((rs.map (·.2)).take j).flatMap (λr=>G.map λt=>r++[t]):=λ_=>rfl
   refine Br (fun τ μ'=>∃o4,∃us:Ls,τ=[some x,some (.R l),some (.R pe),some (.R lg),o4]/\us.map (·.2)=(rs.map (·.2)).flatMap (λr=>G.map λt=>r++[t])/\(∀u∈us,u.2.length=i+1/\μ u.1=none)/\C1 μ' us/\μ' lg=some (.lst (Jg us))/\Sub μ2 μ') (λZ3 d6=>?_) ?_
   ·refine Ad (An (S3 _ _ e2)) ?_
    refine Dd (λj τ μ'=>∃o4,∃us:Ls,τ=[some x,some (.R l),some (.R pe),some (.R lg),o4]/\us.map (·.2)=((rs.map (·.2)).take j).flatMap (λr=>G.map λt=>r++[t])/\(∀u∈us,(u.2.length=i+1/\μ u.1=none)/\u.1≠lg)/\C1 μ' us/\μ' lg=some (.lst (Jg us))/\Sub μ2 μ') ⟨o4,[],rfl,rfl,(λ_ h=>nomatch h),(λ_ h=>nomatch h),e3,S3⟩ (λ_ _ _ ⟨_,_,_,_,_,_,_,S⟩=>An (S _ _ e2)) ?_ ?_
    ·rintro j v τ μ4 Z4 hv ⟨o4,us,rfl,ir,hul,hU,e4,S4⟩ hZ4
     unfold Jg at hv
     rw [List.getElem?_map]at hv
     obtain⟨⟨pr,r⟩,hr,rfl⟩:=Yah.mp hv
     have mz:=Ya1 hr
     have hr4:μ4 pr=some (.lst (r.map Hk)):=S4 _ _ (hR _ mz)
     have jd:r.length=i:=(mm _ mz).1
     have yw:(rs.map (·.2)).take (j+1)=(rs.map (·.2)).take j++[r]:=by rw [Ybi,List.getElem?_map,hr];rfl
     have ce:us.length+G.length<=18:=by
      have e1:us.length=(((rs.map (·.2)).take j).flatMap (λr=>G.map λt=>r++[t])).length:=by rw [<- ir,Yab]
      have e2:(((rs.map (·.2)).take (j+1)).flatMap (λr=>G.map λt=>r++[t])).length=us.length+G.length:=by rw [yw,Yc1,Yal,<- e1,Yet,Yab]
      have e3:(((rs.map (·.2)).take (j+1)).flatMap (λr=>G.map λt=>r++[t])).length<=((rs.map (·.2)).flatMap (λr=>G.map λt=>r++[t])).length:=by
       conv=>rhs;rw [<- Ycr (j+1) (rs.map (·.2)),Yc1,Yal]
       exact Nat.le_add_right _ _
      omega
     have zo:=S4 _ _ hG
     refine⟨Ad e4 trivial,Ad (An zo) λpl hpl=>?_⟩
     have plg:lg≠pl:=by rintro rfl;rw [e4]at hpl;cases hpl
     refine Fe (λk acc τ' μ'=>∃o,∃vs:Ls,τ'=[o,some (.R pr)]/\acc=Jg vs/\vs.map (·.2)=(G.take k).map (λt=>r++[t])/\(∀u∈vs,u.1≠pl/\μ4 u.1=none)/\C1 μ' vs/\μ' pl=some (.lst acc)/\Sub μ4 μ') ⟨none,[],rfl,rfl,rfl,(λ_ h=>nomatch h),(λ_ h=>nomatch h),Ab,Sub.refl.new hpl⟩ (λ_ _ _ _ ⟨_,_,_,_,_,_,_,_,S⟩=>An (S _ _ zo)) ?_ ?_
     ·rintro k v acc τ' μ5 W hv ⟨o,vs,rfl,rfl,hvs,hvn,hV,e5,S5⟩ hW
      rw [List.getElem?_map]at hv
      obtain⟨t,ht,rfl⟩:=Yah.mp hv
      have hk:=(List.getElem?_eq_some_iff.mp ht).1
      have hvl:vs.length<=18:=by
       have:=Ycg List.length hvs
       rw [Yab,Yab,Ybl]at this
       omega
      refine Tu rfl λq1 hq1=>?_
      have S6:Sub μ5 (Aj μ5 q1 (.lst [Hk t])):=Sub.refl.new hq1
      refine Ad (S6 _ _ (S5 _ _ hr4)) (Ad Ab ⟨seven (by rw [Yab];show r.length+1<=_;omega),λq2 ya=>?_⟩)
      generalize Aj μ5 q1 (.lst [Hk t])=μ6 at S6 ya
      have S7:Sub μ5 (Aj μ6 q2 (.lst (r.map Hk++[Hk t]))):=S6.new (S6.none ya)
      have e7:Aj μ6 q2 (.lst (r.map Hk++[Hk t])) q2=some (.lst ((r++[t]).map Hk)):=by rw [Ab,Yaw];rfl
      have q5:μ5 q2=none:=S6.none ya
      have q4:μ4 q2=none:=S5.none q5
      have ql:q2≠pl:=by rintro rfl;rw [e5]at q5;cases q5
      generalize Aj μ6 q2 (.lst (r.map Hk++[Hk t]))=μ7 at S7 e7
      refine⟨S7 _ _ e5,A0 (by show(vs.map _).length<=_;rw [Yab];omega),hW _ _ _ ⟨_,vs++[(q2,r++[t])],rfl,by unfold Jg;rw [Yaw];rfl,?_,λu hu=>?_,?_,Ab,Ee (C5 S5 S7) hpl⟩⟩
      ·rw [Yaw,hvs,Ybi,ht,Yaw];rfl
      ·rcases Yaq.mp hu with hu | hu
       ·exact hvn u hu
       ·rw [Yan.mp hu];exact⟨ql,q4⟩
      ·refine C1.put ((hV.sub S7).snoc e7) λu hu=>?_
       rcases Yaq.mp hu with hu | hu
       ·exact(hvn u hu).1
       ·rw [Yan.mp hu];exact ql
     ·rintro acc τ' μ5 ⟨o,vs,rfl,rfl,hvs,hvn,hV,e5,S5⟩
      rw [Yab,Ybh]at hvs
      have hvl:vs.length=G.length:=by
       have:=Ycg List.length hvs
       rwa [Yab,Yab]at this
      refine Ad (S5 _ _ e4) (Ad e5 ⟨seven (by show(us.map _).length+(vs.map _).length<=_;rw [Yab,Yab];omega),hZ4 _ _ ⟨_,us++vs,rfl,?_,λu hu=>?_,?_,?_,Ee (C5 S4 S5) km⟩⟩)
      ·rw [Yaw,ir,hvs,yw,Yc1,Yet]
      ·rcases Yaq.mp hu with hu | hu
       ·exact hul u hu
       ·refine⟨⟨?_,(C5 S2 S4).none (hvn u hu).2⟩,λc=>?_⟩
        ·have:u.2∈vs.map (·.2):=Yaf.mpr ⟨u,hu,rfl⟩
         rw [hvs]at this
         obtain⟨t,_,e⟩:=Yaf.mp this
         rw [<- e,Yal,jd];rfl
        ·have:=(hvn u hu).2
         rw [c,e4]at this;cases this
      ·refine C1.put ((hU.sub S5).app hV) λu hu=>?_
       rcases Yaq.mp hu with hu | hu
       ·exact(hul u hu).2
       ·intro c
        have:=(hvn u hu).2
        rw [c,e4]at this;cases this
      ·rw [Ab];unfold Jg;rw [Yaw]
    ·rintro τ μ4 ⟨o4,us,rfl,ir,hul,hU,e4,S4⟩
     have ht:(rs.map (·.2)).take (Jg rs).length=rs.map (·.2):=by unfold Jg;rw [Yab,<- Yab (f:=(·.2)),Ybh]
     rw [ht]at ir
     exact d6 _ _ ⟨_,us,rfl,ir,λu hu=>(hul u hu).1,hU,e4,S4⟩
   rintro τ μ4 ⟨o4,us,rfl,ir,hul,hU,e4,S4⟩
   exact hZ2 _ _ ⟨_,_,_,lg,us,rfl,by rw [ir,c9,Ng,hrs],hul,hU,lg0,e4,C5 S2 S4⟩
  ·rintro τ μ2 ⟨o2,o3,o4,l,rs,rfl,hrs,mm,hR,hl,e2,S2⟩
   have ht:(es.map (·.2)).take (Jg es).length=es.map (·.2):=by unfold Jg;rw [Yab,<- Yab (f:=(·.2)),Ybh]
   rw [ht]at hrs
   exact hZ _ _ ⟨_,_,_,l,rs,rfl,hrs,hR,λr hr=>(mm r hr).2,hl,e2,S2⟩
 rintro τ μ2 ⟨o2,o3,o4,l,rs,rfl,hrs,hR,hrn,hl,e2,S2⟩
 exact⟨_,Sub.refl,q rs l μ2 hrs hR hrn hl e2 S2⟩
end
section
variable {P:Program}{w:World}{K:PySem.W.Frag}{mg:Str->Option Value}{base:Heap}{f:Addr}{fd:FuncData}
theorem Nh:∀{xs ys:List PyData},xs.Pairwise (λa b=>D8 a b=true)->ys.Pairwise (λa b=>D8 a b=true)->(∀d∈xs,Cano d=true)->(∀d,d∈xs↔d∈ys)->xs=ys
 | [],[],_,_,_,_=>rfl
 | [],y :: ys,_,_,_,h=>absurd ((h y).mpr (.head _)) (by simp)
 | x :: xs,[],_,_,_,h=>absurd ((h x).mp (.head _)) (by simp)
 | x :: xs,y :: ys,hx,hy,hc,h=>by
  obtain⟨hx1,jt⟩:=Ydw.mp hx
  obtain⟨hy1,hy2⟩:=Ydw.mp hy
  have cx:=hc x (.head _)
  have cy:Cano y=true:=hc y ((h y).mpr (.head _))
  have e:x=y:=by
   rcases Yap.mp ((h x).mp (.head _)) with e | m1
   ·exact e
   ·rcases Yap.mp ((h y).mpr (.head _)) with e | m2
    ·exact e.symm
    ·have:=Lb x y x cx cy cx (hx1 y m2) (hy1 x m1)
     rw [Ec x cx]at this;cases this
  subst e
  rw [Nh jt hy2 (λd hd=>hc d (.tail _ hd)) λd=>?_]
  constructor
  ·intro hd
   rcases Yap.mp ((h d).mp (.tail _ hd)) with rfl | m
   ·have:=hx1 d hd;rw [Ec d cx]at this;cases this
   ·exact m
  ·intro hd
   rcases Yap.mp ((h d).mpr (.tail _ hd)) with rfl | m
   ·have:=hy1 d hd;rw [Ec d cx]at this;cases this
   ·exact m
theorem Lv:∀{xs ys:List Nat},xs.Pairwise (· < ·)->ys.Pairwise (· < ·)->(∀n,n∈xs↔n∈ys)->xs=ys
 | [],[],_,_,_=>rfl
 | [],y :: ys,_,_,h=>absurd ((h y).mpr Yax) (by simp)
 | x :: xs,[],_,_,h=>absurd ((h x).mp Yax) (by simp)
 | x :: xs,y :: ys,hx,hy,h=>by
  obtain⟨hx1,jt⟩:=Ydw.mp hx
  obtain⟨hy1,hy2⟩:=Ydw.mp hy
  have e:x=y:=by
   rcases Yap.mp ((h x).mp Yax) with e | e
   ·exact e
   ·rcases Yap.mp ((h y).mpr Yax) with e2 | e2
    ·exact e2.symm
    ·have:=hy1 x e
     have:=hx1 y e2
     omega
  subst e
  rw [Lv jt hy2 λn=>?_]
  constructor
  ·intro hn
   rcases Yap.mp ((h n).mp (Yav _ hn)) with e | e
   ·have:=hx1 n hn;omega
   ·exact e
  ·intro hn
   rcases Yap.mp ((h n).mpr (Yav _ hn)) with e | e
   ·have:=hy1 n hn;omega
   ·exact e
theorem Kj:∀{ms:List Int},(∀n∈ms,∃e:Nat,n=e)->ms=(ms.map Int.toNat).map λ(n:Nat)=>(n:Int)
 | [],_=>rfl
 | m :: ms,h=>by
  obtain⟨e,rfl⟩:=h m (.head _)
  rw [Ya2,Ya2,<- Kj λn hn=>h n (.tail _ hn),Ydd]
theorem Lw{ms:List Int}{Es:List Nat}(ge:ms.Pairwise (· < ·))(su:∀n,n∈ms↔n∈Es.map λ(n:Nat)=>(n:Int)):∃Fs:List Nat,ms=(Fs.map λ(n:Nat)=>(n:Int))/\Fs.Pairwise (· < ·)/\∀e,e∈Fs↔e∈Es:=by
 have u4:∀n∈ms,∃e:Nat,n=e:=λn hn=>by
  obtain⟨e,_,rfl⟩:=Yaf.mp ((su n).mp hn)
  exact⟨e,rfl⟩
 have em:=Kj u4
 generalize ms.map Int.toNat=Fs at em
 subst em
 refine⟨Fs,rfl,?_,λe=>?_⟩
 ·rw [Ybm]at ge
  exact ge.imp λ{a b} h=>by omega
 ·have:=su (e:Int)
  constructor
  ·intro h
   obtain⟨e',h1,h2⟩:=Yaf.mp (this.mp (Yaf.mpr ⟨e,h,rfl⟩))
   rw [show e=e' by omega];exact h1
  ·intro h
   obtain⟨e',h1,h2⟩:=Yaf.mp (this.mpr (Yaf.mpr ⟨e,h,rfl⟩))
   rw [show e=e' by omega];exact h1
theorem Ni(Fs:List Nat):(Fs.map λ(n:Nat)=>(n:Int)).map (λn=>AV.D (.int n))=Fs.map Dy:=by rw [Ya0];rfl
theorem Vy{μ ν:M}{p:Addr}{m:MO}(h:Sub μ ν)(e:ν p=none):Sub μ (Aj ν p m):=h.new (h.none e)
theorem Yv(l:List Nat):Fh (l.map Dy)=some (l.map λ(n:Nat)=>(n:Int)):=by
 induction l with
 | nil=>rfl
 | cons n l ih=>show(Fh (l.map Dy)).map _=_;rw [ih];rfl
def uni(r:List Pq):List Nat:=(List.range 5).filter λt=>r.any λp=>p.1.contains t
def mxc(r:List Pq):Nat:=r.foldl (λc p=>max c p.2) 0
theorem Lx:∀(r:List Pq) (c:Nat),c<=r.foldl (λc p=>max c p.2) c/\(∀p∈r,p.2<=r.foldl (λc p=>max c p.2) c)/\(r.foldl (λc p=>max c p.2) c=c\/∃p∈r,r.foldl (λc p=>max c p.2) c=p.2)
 | [],c=>⟨Yad _,(λ_ h=>nomatch h),.inl rfl⟩
 | p :: r,c=>by
  obtain⟨h1,h2,h3⟩:=Lx r (max c p.2)
  rw [Ycf]
  refine⟨by omega,λq hq=>?_,?_⟩
  ·rcases Yap.mp hq with rfl | hq
   ·omega
   ·exact h2 q hq
  ·rcases h3 with h3 | ⟨q,hq,h3⟩
   ·rcases Nat.le_total c p.2 with h | h
    ·exact .inr ⟨p,.head _,by rw [h3];omega⟩
    ·exact .inl (by rw [h3];omega)
   ·exact .inr ⟨q,.tail _ hq,h3⟩
theorem Qcy{r:List Pq}{m:Int}(h:m∈(0 :: r.map (·.2)).map λ(n:Nat)=>(n:Int))(hm:∀n∈(0 :: r.map (·.2)).map λ(n:Nat)=>(n:Int),n<=m):m=(mxc r:Nat):=by
 obtain⟨h1,h2,h3⟩:=Lx r 0
 refine Int.le_antisymm ?_ (hm _ (Yaf.mpr ⟨mxc r,?_,rfl⟩))
 ·obtain⟨n,hn,rfl⟩:=Yaf.mp h
  rcases Yap.mp hn with rfl | hn
  ·exact Int.natCast_nonneg _
  ·obtain⟨p,hp,rfl⟩:=Yaf.mp hn
   have:=h2 p hp
   unfold mxc
   omega
 ·rcases h3 with h3 | ⟨q,hq,h3⟩
  ·unfold mxc;rw [h3];exact .head _
  ·unfold mxc;rw [h3];exact .tail _ (Yaf.mpr ⟨q,hq,rfl⟩)
theorem Qcz(r:List Pq):(uni r).Pairwise (· < ·):=List.Pairwise.sublist List.filter_sublist Ycn
theorem Yw{r:List Pq}(h:∀p∈r,∀t∈p.1,t < 5)(t:Nat):t∈uni r↔t∈r.flatMap (·.1):=by
 unfold uni
 rw [Ycd,Ya3,Ydo,Ydq]
 constructor
 ·rintro⟨_,p,hp,h1⟩
  exact⟨p,hp,Yd0.mp h1⟩
 ·rintro⟨p,hp,h1⟩
  exact⟨h p hp t h1,p,hp,Yd0.mpr h1⟩
abbrev nPt:List Str:=["_law_pairs","_law_whole","_law_pair"]
theorem Qc0:FnScope nPt ["_law_pairs"] (Af sPt):=⟨rfl,rfl,rfl,by decide +kernel,rfl,by decide +kernel,by decide +kernel⟩
theorem Qgb:(["_law_pair"]:List Str).Nodup:=by decide +kernel
def Qgc:ASp:=λxs μ R=>∃(a:Addr) (r:List Pq),xs=[.R a]/\μ a=some (.lst (r.map Hk))/\r.length<=5/\(∀p∈r,p.1.length<=5/\∀t∈p.1,t < 5)/\∀ μ',Sub μ μ'->R (.D (Nf (uni r,mxc r))) μ'
theorem Qgd{n:Nat}(F:Fun K "_law_put" "_law_put" sPt f fd) (ci:mg "max" = none) (al:mg "tuple" = none) (ai:mg "sorted" = none) (bj:mg "set" = none):FnOk P w K mg base Gn (n+1) f fd ["_law_pairs"] (K5 K 1 Qgc):=by
 refine F.vok Qc0 λbd A outer s H E hr=>⟨_,(Ae (A3 (i:=1) Qc0.nd rfl (Or.inl rfl) (Bk Ac))
   (Ae (B2 Ybf rfl (Bc (vv 0)) (Am (i:=2) Qc0.nd rfl (Or.inl rfl)) (Al (B6 (Em Yee Yef Qb9 (vv 1) (Aa (Dc Fc (vv 2) Ah) Ac)))))
   (Al (Bf (Bb (Aa (C9 Fr rfl al Ycx (Aa (Ya hr rfl ai rfl bj (vv 1)) Ac)) (Aa (Bn (Qb4 rfl) rfl ci Ye4 (Aa (Ba Ef (Bk (Aa Ah Ac)) (Cu (N':=["_law_pair"]) (mp:=[none]) rfl (Bc (vv 0)) (λ_ _ _ _=>(Am (i:=0) Qgb rfl (Or.inl rfl) (Or.inr rfl))) (λ_ _ _ _=>Cz) (λ_ _ _ _=>(Dc Fc (vv 0) Ah)) (Bm (N:=nPt) (pn:=(Af sPt).names) (by decide +kernel)))) Ac)) Ac))))))),?_⟩
 rintro xs μ R _ ⟨a,r,rfl,ha,h5,ht,q⟩
 intro pw lq
 have aw:a≠pw:=by rintro rfl;rw [ha]at lq;cases lq
 refine Br (fun τ μ'=>∃o2,τ=[some (.R a),some (.R pw),o2]/\μ' pw=some (.lst ((r.flatMap (·.1)).map Dy))/\(r.flatMap (·.1)).length<=25/\Sub μ μ') (λZ hZ=>?_) ?_
 ·refine Ad (An (Sub.refl.new lq _ _ ha)) ?_
  refine Dd (λi τ μ'=>∃o2,τ=[some (.R a),some (.R pw),o2]/\μ' pw=some (.lst (((r.take i).flatMap (·.1)).map Dy))/\((r.take i).flatMap (·.1)).length<=5 * i/\Sub μ μ') ⟨none,rfl,Ab,Yad _,Sub.refl.new lq⟩ (λ_ _ _ ⟨_,_,_,_,S⟩=>An (S _ _ ha)) ?_ ?_
  ·rintro i v τ μ1 Z2 hv ⟨o2,rfl,e1,hl,S1⟩ hZ2
   rw [List.getElem?_map]at hv
   obtain⟨p,hp,rfl⟩:=Yah.mp hv
   have hi:=(List.getElem?_eq_some_iff.mp hp).1
   have hp5:=(ht p (Ya1 hp)).1
   have c9:(r.take (i+1)).flatMap (·.1)=(r.take i).flatMap (·.1)++p.1:=by rw [Ybi,hp,Yc1];simp
   refine⟨Ad e1 trivial,Ad (x:=Ax p.1) rfl (Ad e1 ⟨seven (by rw [Yab,Yab];omega),hZ2 _ _ ⟨_,rfl,?_,by rw [c9,Yal];omega,Ee S1 lq⟩⟩)⟩
   rw [Ab,c9,Yaw,Ya0];rfl
  ·rintro τ μ1 ⟨o2,rfl,e1,hl,S1⟩
   rw [Yab,Ybh]at e1
   rw [Yab,Ybh]at hl
   exact hZ _ _ ⟨_,rfl,e1,by omega,S1⟩
 rintro τ μ1 ⟨o2,rfl,e1,hl,S1⟩
 refine Ad (An e1) ⟨(r.flatMap (·.1)).map λ(n:Nat)=>(n:Int),(Ni _).symm,by rw [Yab];omega,λl ms iy ge su=>?_⟩
 obtain⟨Fs,rfl,hFu,hFm⟩:=Lw ge su
 have eF:Fs=uni r:=Lv hFu (Qcz r) λt=>(hFm t).trans (Yw (λp hp=>(ht p hp).2) t).symm
 subst eF
 have S2:Sub μ1 (Aj μ1 l (.lst (((uni r).map λ(n:Nat)=>(n:Int)).map λn=>.D (.int n)))):=Sub.refl.new iy
 have e2:Aj μ1 l (.lst (((uni r).map λ(n:Nat)=>(n:Int)).map λn=>.D (.int n))) l=some (.lst ((uni r).map Dy)):=by rw [Ab,Ni]
 generalize Aj μ1 l (.lst (((uni r).map λ(n:Nat)=>(n:Int)).map λn=>.D (.int n)))=μ2 at S2 e2
 refine Ad (An e2) (Ad (Gg _) λp2 fb=>?_)
 have S3:Sub μ (Aj μ2 p2 (.lst [.D (.int 0)])):=(C5 S1 S2).new ((C5 S1 S2).none fb)
 have e3:Aj μ2 p2 (.lst [.D (.int 0)]) p2=some (.lst [.D (.int 0)]):=Ab
 generalize Aj μ2 p2 (.lst [.D (.int 0)])=μ3 at S3 e3
 refine Ad (An (S3 _ _ ha)) λp3 jk=>?_
 have h3a:a≠p3:=by rintro rfl;rw [S3 _ _ ha]at jk;cases jk
 have x9:p2≠p3:=by rintro rfl;rw [e3]at jk;cases jk
 refine cmap r Hk (λp=>Dy p.2) (fun τ=>∃o,τ=[o]) ⟨none,rfl⟩ Ab (seven (by omega)) (λacc=>An (by rw [Cp,Ag h3a];exact S3 _ _ ha)) ?_ ?_
 ·rintro i p τ' acc W hp ⟨o,rfl⟩ hW
  exact Ad (x:=PyData.int (p.2:Nat)) rfl (hW _ ⟨_,rfl⟩)
 ·rw [Cp]
  refine Ad (x:=MO.lst [.D (.int 0)]) (by rw [Ag x9];exact e3) (Ad Ab ⟨seven (by rw [Yab];show 1+r.length<=_;omega),λp4 hp4=>?_⟩)
  have en:Fh ([AV.D (.int 0)]++r.map λp=>Dy p.2)=some ((0 :: r.map (·.2)).map λ(n:Nat)=>(n:Int)):=by
   rw [show [AV.D (.int 0)]++(r.map λp=>Dy p.2)=(0 :: r.map (·.2)).map Dy by rw [Ya2,Ya0];rfl]
   exact Yv _
  refine Ad Ab (Ad en ⟨by rw [Yab];exact Nat.succ_pos _,λm h1 h2=>?_⟩)
  rw [Qcy h1 h2]
  exact⟨_,Sub.refl,q _ (Vy (S3.new (S3.none jk)) hp4)⟩
end
section
variable {P:Program}{w:World}{K:PySem.W.Frag}{mg:Str->Option Value}{base:Heap}{f:Addr}{fd:FuncData}
def lgr(A:List Ar)(t y:Nat):List Pq:=(A.filter (Bg (t,y))).map λb=>(b.ts,b.c)
def Fk(A:List Ar)(s:Nat)(w:List Nat)(a:Ar):List Pq:=match w with
 | []=>[]
 | [x]=>if Bg (s,x) a then [(a.ts,a.c)] else []
 | x :: y :: _=>if Bg (s,x) a then(chs (a.ts.map λt=>lgr A t y)).map (λr=>(uni r,a.c+mxc r)) else []
def lrd(A:List Ar)(s:Nat)(w:List Nat):List Pq:=match w with
 | []=>[([s],0)]
 | x :: v=>A.flatMap (Fk A s (x :: v))
def psi(p:Pq):Pr:=(p.2,bts p.1)
def phi(p:Pr):Pq:=(B5 p.2,p.1)
def Psi(r:List Pq):Pr:=r.foldl (λz p=>ewe z (psi p)) (0,0)
theorem Yx(A:List Ar)(t y:Nat):grp A (t,y)=(lgr A t y).map psi:=by unfold grp lgr;rw [Ya0];rfl
theorem Vz(r:List Pq)(t:Pq):Psi (r++[t])=ewe (Psi r) (psi t):=by unfold Psi;rw [Yd3];rfl
theorem Yy(Gs:List (List Pq)):cho (Gs.map λG=>G.map psi)=(chs Gs).map Psi:=by
 have key:∀(Gs:List (List Pq)) (F:List (List Pq)),(Gs.map λG=>G.map psi).foldl (λF G=>F.flatMap λp=>G.map (ewe p)) (F.map Psi)=(Gs.foldl (λF G=>F.flatMap λr=>G.map λt=>r++[t]) F).map Psi:=by
  intro Gs
  induction Gs with
  | nil=>intro F;rfl
  | cons G Gs ih =>
   intro F
   rw [Ya2,Ycf,Ycf,<- ih]
   congr 1
   rw [List.flatMap_map,List.map_flatMap]
   congr 1
   funext r
   rw [Ya0,Ya0]
   refine Ych λt _=>?_
   exact(Vz r t).symm
 exact key Gs [[]]
theorem V0(G:List Pq):∀F:List (List Pq),(F.flatMap λr=>G.map λt=>r++[t]).length=F.length * G.length
 | []=>by simp
 | r :: F=>by rw [Ydf,Yal,Yab,V0 G F,Ya9,Nat.succ_mul];omega
theorem Qw(Gs:List (List Pq)):(chs Gs).length=pln (Gs.map λG=>G.map psi):=by
 have key:∀(Gs:List (List Pq)) (F:List (List Pq)),(Gs.foldl (λF G=>F.flatMap λr=>G.map λt=>r++[t]) F).length=(Gs.map λG=>G.map psi).foldl (λn G=>n * G.length) F.length:=by
  intro Gs
  induction Gs with
  | nil=>intro F;rfl
  | cons G Gs ih =>
   intro F
   rw [Ya2,Ycf,Ycf,ih,V0,Yab]
 exact key Gs [[]]
theorem Qx{Q:Pq->Prop}{Gs:List (List Pq)}(h:∀G∈Gs,∀p∈G,Q p){r:List Pq}(hr:r∈chs Gs):r.length=Gs.length/\∀p∈r,Q p:=by
 have key:∀(Gs:List (List Pq)) (F:List (List Pq)) (n:Nat),(∀G∈Gs,∀p∈G,Q p)->(∀r∈F,r.length=n/\∀p∈r,Q p)->∀r∈Gs.foldl (λF G=>F.flatMap λr=>G.map λt=>r++[t]) F,r.length=n+Gs.length/\∀p∈r,Q p:=by
  intro Gs
  induction Gs with
  | nil=>intro F n _ hF r hr;exact hF r hr
  | cons G Gs ih =>
   intro F n hG hF r hr
   have:=ih _ (n+1) (λG' h'=>hG G' (.tail _ h')) (λu hu=>?_) r hr
   ·rw [Ya9];exact⟨by have:=this.1;omega,this.2⟩
   ·obtain⟨z,hz,hu⟩:=Ydq.mp hu
    obtain⟨t,ht,rfl⟩:=Yaf.mp hu
    obtain⟨h1,h2⟩:=hF z hz
    refine⟨by rw [Yal,h1];rfl,λp hp=>?_⟩
    rcases Yaq.mp hp with hp | hp
    ·exact h2 p hp
    ·rw [Yan.mp hp];exact hG G (.head _) t ht
 have:=key Gs [[]] 0 h (λr h=>by rw [Yan.mp h];exact⟨rfl,λ_ z=>nomatch z⟩) r hr
 rw [Nat.zero_add]at this
 exact this
theorem Qz(t:Nat):∀(ts:List Nat) (b:Nat),(ts.foldl (λb k=>b ||| 2 ^ k) b).testBit t=(b.testBit t || ts.contains t)
 | [],b=>by simp
 | k :: ts,b=>by
  rw [Ycf,Qz t ts,Nat.testBit_or,Nat.testBit_two_pow,List.contains_cons,Bool.or_assoc]
  congr 2
  by_cases h:k=t
  ·rw [Ybg h,h,Ye5]
  ·rw [Yba h]
   exact(Yd9.mpr λc=>h c.symm).symm
theorem Nj(t:Nat)(ts:List Nat):(bts ts).testBit t=ts.contains t:=by
 unfold bts
 rw [Qz,Nat.zero_testBit,Bool.false_or]
theorem Qge(n:Nat):(B5 n).Pairwise (· < ·):=List.Pairwise.sublist List.filter_sublist Ycn
theorem O3{ts:List Nat}(hu:ts.Pairwise (· < ·))(h:∀t∈ts,t < 5):B5 (bts ts)=ts:=by
 refine Lv (Qge _) hu λt=>?_
 unfold B5
 rw [Ycd,Ya3,Nj,Yd0]
 exact⟨λz=>z.2,λz=>⟨h t z,z⟩⟩
theorem Qgf(r:List Pq):B5 (Psi r).2=uni r:=by
 have key:∀(t:Nat) (r:List Pq) (z:Pr),(r.foldl (λz p=>ewe z (psi p)) z).2.testBit t=(z.2.testBit t || r.any λp=>p.1.contains t):=by
  intro t r
  induction r with
  | nil=>intro z;simp
  | cons p r ih =>
   intro z
   rw [Ycf,ih,Yc6,<- Bool.or_assoc]
   congr 1
   show(z.2 ||| bts p.1).testBit t=_
   rw [Nat.testBit_or,Nj]
 unfold B5 uni Psi
 refine List.filter_congr λt _=>?_
 rw [key,Nat.zero_testBit,Bool.false_or]
theorem Qgg(r:List Pq):(Psi r).1=mxc r:=by
 have key:∀(r:List Pq) (z:Pr),(r.foldl (λz p=>ewe z (psi p)) z).1=r.foldl (λc p=>max c p.2) z.1:=by
  intro r
  induction r with
  | nil=>intro z;rfl
  | cons p r ih=>intro z;rw [Ycf,ih];rfl
 exact key r (0,0)
theorem G6{β:Type}(p:Ar->Bool)(g:Ar->List β):∀A:List Ar,(A.filter p).flatMap g=A.flatMap λa=>if p a then g a else []
 | []=>rfl
 | a :: A=>by
  rw [Ye7,Ydf,<- G6 p g A]
  split
  ·rw [Ydf]
  ·rfl
theorem Fl{α β:Type}{f g:α->List β}:∀{l:List α},(∀a∈l,f a=g a)->l.flatMap f=l.flatMap g
 | [],_=>rfl
 | a :: l,h=>by rw [Ydf,Ydf,h a (.head _),Fl λb hb=>h b (.tail _ hb)]
theorem Ly(A:List Ar)(y:Nat)(ts:List Nat):grs A y ts=(ts.map λt=>lgr A t y).map λG=>G.map psi:=by
 unfold grs
 rw [Ya0]
 exact Ych λt _=>Yx A t y
theorem Yz{A:List Ar}{s:Nat}(hs:s < 5)(hO:∀a∈A,AOk 5 a):∀w:List Nat,(rdg A s w).map phi=lrd A s w
 | []=>by
  show [(B5 (bts [s]),0)]=[([s],0)]
  rw [O3 (Ydl _ _) λt h=>by rw [Yan.mp h];exact hs]
 | [x]=>by
  show(grp A (s,x)).map phi=A.flatMap λa=>if Bg (s,x) a then [(a.ts,a.c)] else []
  rw [<- G6]
  unfold grp
  rw [Ya0,List.map_eq_flatMap]
  refine Fl λa ha=>?_
  show [(B5 (bts a.ts),a.c)]=_
  have h:=hO a (Ycd.mp ha).1
  rw [O3 h.u h.t]
 | x :: y :: v=>by
  show((grp A (s,x)).flatMap λp=>(cho (grs A y (B5 p.2))).map λq=>(p.1+q.1,q.2)).map phi=A.flatMap λa=>if Bg (s,x) a then(chs (a.ts.map λt=>lgr A t y)).map (λr=>(uni r,a.c+mxc r)) else []
  rw [<- G6,List.map_flatMap]
  unfold grp
  rw [List.flatMap_map]
  refine Fl λa ha=>?_
  have h:=hO a (Ycd.mp ha).1
  rw [O3 h.u h.t,Ly,Yy,Ya0,Ya0]
  refine Ych λr _=>?_
  show(B5 (Psi r).2,a.c+(Psi r).1)=_
  rw [Qgg,Qgf]
theorem O4(p:Pq):Cano (Nf p)=true/\(Nf p).canLay0=true/\(Nf p).depth<=3:=by
 have h1:=Qp (ns:=p.1)
 have h2:=G5 p.1
 refine⟨?_,?_,?_⟩
 ·simp only [Nf,Ax,Cano,Ak,h2,Bool.and_true]
 ·simp only [Nf,Ax,PyData.canLay0,PyData.canLayAll0,h1.1,Bool.and_true]
 ·have:=h1.2
  simp only [Nf,Ax,PyData.depth,PyData.depthAll];omega
theorem Qc1{B:List Pq}(hl:B.length<=290):TOkT (B.map Nf):=by
 refine⟨by rw [Yab];omega,λd hd=>?_,λd hd=>?_,λd hd e he=>?_⟩
 ·obtain⟨a,ha,rfl⟩:=Yaf.mp hd
  obtain⟨h1,h2,h3⟩:=O4 a
  exact⟨h1,h2,by omega⟩
 ·obtain⟨a,ha,rfl⟩:=Yaf.mp hd
  exact⟨_,_,rfl⟩
 ·obtain⟨a,ha,rfl⟩:=Yaf.mp hd
  obtain⟨b,hb,rfl⟩:=Yaf.mp he
  simp only [Nf,Ax,cmpb,cmpbs,Je,ite_self]
theorem Y0(B:List Pq):dats (B.map Hk)=some (B.map Nf):=by
 rw [show B.map Hk=(B.map Nf).map .D by rw [Ya0];rfl];exact Ci _
theorem Q0(a b c d:Nat):PyData.eqv (.tuple [.int (a:Nat),.int (b:Nat)]) (.tuple [.int (c:Nat),.int (d:Nat)])=(decide (a=c) && decide (b=d)):=by
 rw [Qf rfl rfl,Yfj,Yeq,Ya7,Yeq,Yeq]
 constructor
 ·intro h
  have:=Nd (a:=[a,b]) (b:=[c,d]) h
  simp at this
  exact this
 ·rintro⟨rfl,rfl⟩;rfl
theorem Ez(a b:Nat):D4 (.tuple [.int (a:Nat),.int (b:Nat)]):=⟨rfl,by simp [PyData.depth,PyData.depthAll]⟩
theorem Q3{A:List Ar}(hA:A.length<=8){s:Nat}{w:List Nat}{a:Ar}(hu:a.ts.Nodup):(Fk A s w a).length<=18:=by
 match w with
 | []=>exact Yaz _
 | [x] =>
  show(if Bg (s,x) a then [(a.ts,a.c)] else []).length<=18
  split <;> simp
 | x :: y :: v =>
  show(if Bg (s,x) a then(chs (a.ts.map λt=>lgr A t y)).map (λr=>(uni r,a.c+mxc r)) else []).length<=18
  split
  ·rw [Yab,Qw,<- Ly]
   exact O0 (Yak (Lr hu) hA)
  ·exact Yaz _
abbrev nAl:List Str:=["_law_arrows_here","_law_stand","_law_w","_law_found","_law_s","_law_top","_law_targets","_law_cost","_law_some","_law_row","_law_more","_law_dear"]
theorem Jp:FnScope nAl ["_law_arrows_here","_law_stand","_law_w"] (Af sAl):=⟨rfl,rfl,rfl,by decide +kernel,rfl,by decide +kernel,by decide +kernel⟩
theorem Qgh:(["_law_target","_law_arrows_here","_law_w"]:List Str).Nodup:=by decide +kernel
theorem Qgi:(["_law_one","_law_target","_law_w"]:List Str).Nodup:=by decide +kernel
def Qc2:ASp:=λxs μ R=>∃(A:List Ar) (s:Nat) (w:List Nat),xs=[.D (.tuple (A.map Hj)),.D (.int (s:Nat)),.D (Ax w)]/\A.length<=8/\s < 5/\w.length<=2/\(∀a∈A,AOk 5 a)/\∀(es:List PyData) (l:Addr) μ',(∀d,d∈es↔d∈(lrd A s w).map Nf)->es.Pairwise (λa b=>D8 a b=true)->μ' l=some (.lst (es.map .D))->Sub μ μ'->R (.R l) μ'
theorem Qgj{n:Nat}(F:Fun K "_law_all_read" "_law_all_read" sAl f fd) (cCh:VCal P w K mg base n "_law_choices" ["_law_some"] Qf9) (cPt:VCal P w K mg base n "_law_put" ["_law_pairs"] Qgc) (ay:mg "len" = none) (ai:mg "sorted" = none) (bj:mg "set" = none):FnOk P w K mg base Gn (n+1) f fd ["_law_arrows_here","_law_stand","_law_w"] (K5 K 3 Qc2):=by
 refine F.vok Jp λbd A outer s H E hr=>⟨_,(Ae (En (Bz (Gu hr) (Bn J1 rfl ay Yd8 (Aa (vv 2) Ac)) Ah (nomark _)) (Al (Bf (Bk (Aa (Bb (Aa (Bb (Aa (vv 1) Ac)) (Aa Ah Ac))) Ac)))) Cs)
   (Ae (A3 (i:=3) Jp.nd rfl (Or.inl rfl) (Bk Ac))
   (Ae (B2 Ybf rfl (Bc (vv 0)) (Dv (n:=4) rfl (Au (Am (i:=4) Jp.nd rfl (Or.inl rfl)) (Au (Am (i:=5) Jp.nd rfl (Or.inl rfl)) (Au (Am (i:=6) Jp.nd rfl (Or.inl rfl)) (Au (Am (i:=7) Jp.nd rfl (Or.inl rfl)) Ct))))) (Al (En (VW.pt (Nw (Bz (Gu hr) (Bb (Aa (vv 4) (Aa (vv 5) Ac))) (Bb (Aa (vv 1) (Aa (Dc Fc (vv 2) Ah) Ac))) (nomark _)) (Kz (Bz (Gu hr) (Bn J1 rfl ay Yd8 (Aa (vv 2) Ac)) Ah (nomark _))))) (Al (B6 (Em Ybx Yby Cy (vv 3) (Aa (Bb (Aa (vv 6) (Aa (vv 7) Ac))) Ac)))) (Al (En (Bz (Gu hr) (Bb (Aa (vv 4) (Aa (vv 5) Ac))) (Bb (Aa (vv 1) (Aa (Dc Fc (vv 2) Ah) Ac))) (nomark _)) (Ae (Vh (i:=8) (N':=["_law_target","_law_arrows_here","_law_w"]) (mp:=[none,some 0,some 2]) rfl Jp.nd rfl rfl (Bc (vv 6)) (λ_ _ _ _=>(Am (i:=0) Qgh rfl (Or.inr rfl) (Or.inl rfl))) (λ_ _ _ _=>Cz) (λ_ _ _ _=>(Cu (N':=["_law_one","_law_target","_law_w"]) (mp:=[none,some 0,some 2]) rfl (Bc (vv 1)) (λ_ _ _ _=>(Am (i:=0) Qgi rfl (Or.inl rfl) (Or.inr rfl))) (λ_ _ _ _=>(Ft (Bz (Gu hr) (Fq (vv 0) Pi (E3 Ah)) (Bb (Aa (vv 1) (Aa (Dc Fc (vv 2) Ah) Ac))) (nomark _)))) (λ_ _ _ _=>(Fq (vv 0) (E3 Ah) (E3 Ah))) (Bm (by kernel_rfl)))) (Op (N:=nAl) (pn:=(Af sAl).names) (by decide +kernel)))
   (Al (B2 Ybf rfl (Bc (Aq cCh hr rfl (Aa (vv 8) Ac))) (Am (i:=9) Jp.nd rfl (Or.inl rfl)) (Ae (Qbi (Aq cPt hr rfl (Aa (vv 9) Ac)) (Dv (n:=2) rfl (Au (Am (i:=10) Jp.nd rfl (Or.inl rfl)) (Au (Am (i:=11) Jp.nd rfl (Or.inl rfl)) Ct))))
   (Al (B6 (Em Ybx Yby Cy (vv 3) (Aa (Bb (Aa (vv 10) (Aa (Ba Ef (vv 7) (vv 11)) Ac))) Ac)))))))) Cs)))))
   (Al (Bf (Vf hr rfl ai rfl bj (vv 3))))))),?_⟩
 rintro xs μ R _ ⟨A,s,w,rfl,hA,hs,hw,hO,q⟩
 cases w with
 | nil =>
  refine Cj ⟨Ay _,Ay _,Tu rfl λl hl=>⟨_,Sub.refl,q [Nf ([s],0)] l _ (λd=>Iff.rfl) (Ydl _ _) Ab (Sub.refl.new hl)⟩⟩
 | cons x v =>
  have hv1:v.length<=1:=by rw [Ya9]at hw;omega
  refine Cj ⟨Ay _,Ay _,Sl (by rw [K6];refine Yba ?_;show ¬((((x :: v).map λ(n:Nat)=>PyData.int n).length:Nat):Int)=0;rw [Yab,Ya9];omega) ?_⟩
  intro pf js
  have mo:∀ μ',items μ' (.D (.tuple (A.map Hj)))=some (A.map Vq):=fun μ'=>by
   show some ((A.map Hj).map AV.D)=_
   rw [Ya0];rfl
  refine Br (fun τ μ'=>∃o4 o5 o6 o7 o8 o9 i9 i0,τ=[some (.D (.tuple (A.map Hj))),some (.D (.int (s:Nat))),some (.D (Ax (x :: v))),some (.R pf),o4,o5,o6,o7,o8,o9,i9,i0]/\μ' pf=some (.lst ((A.flatMap (Fk A s (x :: v))).map Hk))/\(A.flatMap (Fk A s (x :: v))).length<=144/\Sub μ μ') (λZ hZ=>?_) ?_
  ·refine Ad (mo _) ?_
   refine Dd (λi τ μ'=>∃o4 o5 o6 o7 o8 o9 i9 i0,τ=[some (.D (.tuple (A.map Hj))),some (.D (.int (s:Nat))),some (.D (Ax (x :: v))),some (.R pf),o4,o5,o6,o7,o8,o9,i9,i0]/\μ' pf=some (.lst (((A.take i).flatMap (Fk A s (x :: v))).map Hk))/\((A.take i).flatMap (Fk A s (x :: v))).length<=18 * i/\Sub μ μ') ⟨none,none,none,none,none,none,none,none,rfl,Ab,Yad _,Sub.refl.new js⟩ (λ_ _ _ _=>mo _) ?_ ?_
   ·rintro i y τ μ1 Z2 hy ⟨o4,o5,o6,o7,o8,o9,i9,i0,rfl,e1,gc,S1⟩ hZ2
    rw [List.getElem?_map]at hy
    obtain⟨a,ha,rfl⟩:=Yah.mp hy
    have hi:=(List.getElem?_eq_some_iff.mp ha).1
    have z7:=hO a (Ya1 ha)
    have bu:a.ts.Nodup:=z7.u.imp λh=>Yai h
    have vc:=Q3 (s:=s) (w:=x :: v) hA bu
    have c9:(A.take (i+1)).flatMap (Fk A s (x :: v))=(A.take i).flatMap (Fk A s (x :: v))++Fk A s (x :: v) a:=by rw [Ybi,ha,Yc1];simp
    generalize (A.take (i+1)).flatMap (Fk A s (x :: v))=B1 at c9 hZ2
    generalize (A.take i).flatMap (Fk A s (x :: v))=B at c9 e1 gc
    subst c9
    refine⟨rfl,Qft ?_⟩
    dsimp only [List.set]
    have et:PyData.eqv (.tuple [.int (a.p:Nat),.int (a.x:Nat)]) (.tuple [.int (s:Nat),.int (x:Nat)])=Bg (s,x) a:=Q0 _ _ _ _
    refine Ad (x:=PyData.int (x:Nat)) (Fm (j:=0) rfl) ⟨Ez _ _,Ez _ _,br (λc=>?_) (λc=>Sl rfl (Ad (x:=PyData.int (x:Nat)) (Fm (j:=0) rfl) ⟨Ez _ _,Ez _ _,Sl c (hZ2 _ _ ⟨_,_,_,_,_,_,_,_,rfl,?_,?_,S1⟩)⟩))⟩
    ·have hT:Bg (s,x) a=true:=et.symm.trans c
     cases v with
     | nil =>
      refine⟨Ay _,Ay _,Tu rfl ⟨Ad e1 trivial,Ad e1 ⟨A0 (by rw [Yab];omega),hZ2 _ _ ⟨_,_,_,_,_,_,_,_,rfl,?_,?_,Ee S1 js⟩⟩⟩⟩
      ·show _=some (MO.lst ((B++if Bg (s,x) a then [(a.ts,a.c)] else []).map Hk))
       rw [Yao hT,Ab,Yaw];rfl
      ·rw [Yal];omega
     | cons y v =>
      have ev:v=[]:=Yek.mp (by rw [Ya9]at hv1;omega)
      subst ev
      refine⟨Ay _,Ay _,Sl rfl (Ad (x:=PyData.int (x:Nat)) rfl ⟨Ez _ _,Ez _ _,Tu c ?_⟩)⟩
      have h5:a.ts.length<=5:=by
       have:=Gf (ys:=List.range 5) bu λt h=>Ya3.mpr (z7.t t h)
       rwa [Ycb]at this
      have fy:Fk A s [x,y] a=(chs (a.ts.map λt=>lgr A t y)).map (λr=>(uni r,a.c+mxc r)):=Yao hT
      rw [fy]at vc hZ2
      rw [Yab]at vc
      refine Br (fun τ μ'=>∃(pl:Addr) (es:Ls),τ=[some (.D (.tuple (A.map Hj))),some (.D (.int (s:Nat))),some (.D (Ax [x,y])),some (.R pf),some (.D (.int (a.p:Nat))),some (.D (.int (a.x:Nat))),some (.D (Ax a.ts)),some (.D (.int (a.c:Nat))),some (.R pl),o9,i9,i0]/\es.map (·.2)=(a.ts.map λt=>lgr A t y)/\C1 μ' es/\μ' pl=some (.lst (Jg es))/\Sub μ1 μ') (λZ3 d6=>?_) ?_
      ·refine Ad (Dl a.ts) λpl hpl=>?_
       refine Fe (λj acc τ' μ'=>∃o,∃es:Ls,τ'=[o,some (.D (.tuple (A.map Hj))),some (.D (Ax [x,y]))]/\acc=Jg es/\es.map (·.2)=((a.ts.take j).map λt=>lgr A t y)/\(∀e∈es,e.1≠pl)/\C1 μ' es/\μ' pl=some (.lst acc)/\Sub μ1 μ') ⟨none,[],rfl,rfl,rfl,(λ_ h=>nomatch h),(λ_ h=>nomatch h),Ab,Sub.refl.new hpl⟩ (λ_ _ _ _ _=>Dl _) ?_ ?_
       ·rintro j u acc τ' μ2 W hu ⟨o,es,rfl,rfl,d7,am,hE,e2,S2⟩ hW
        rw [List.getElem?_map]at hu
        obtain⟨t,ht,rfl⟩:=Yah.mp hu
        have hj:=(List.getElem?_eq_some_iff.mp ht).1
        have fi:es.length<=5:=by
         have:=Ycg List.length d7
         rw [Yab,Yab,Ybl]at this
         omega
        refine Tu rfl (Ad (mo _) λp2 fb=>?_)
        have zg:p2≠pl:=by rintro rfl;rw [e2]at fb;cases fb
        refine cmapf A Vq (Bg (t,y)) (λb=>Hk (b.ts,b.c)) (fun τ=>∃o,τ=[o,some (.D (.int (t:Nat))),some (.D (Ax [x,y]))]) ⟨none,rfl⟩ Ab (seven (by omega)) (λ_=>mo _) ?_ ?_
        ·rintro k b τ3 acc W1 W2 hb ⟨o,rfl⟩ w1 w2
         have eb:PyData.eqv (.tuple [.int (b.p:Nat),.int (b.x:Nat)]) (.tuple [.int (t:Nat),.int (y:Nat)])=Bg (t,y) b:=Q0 _ _ _ _
         exact Ad (x:=PyData.int (y:Nat)) rfl ⟨Ez b.p b.x,Ez t y,br (λc=>w1 (eb.symm.trans c) _ ⟨_,rfl⟩) (λc=>w2 (eb.symm.trans c) _ ⟨_,rfl⟩)⟩
        ·rw [Cp]
         have S3:Sub μ2 (Aj μ2 p2 (.lst ((A.filter (Bg (t,y))).map λb=>Hk (b.ts,b.c)))):=Sub.refl.new fb
         have e3:Aj μ2 p2 (.lst ((A.filter (Bg (t,y))).map λb=>Hk (b.ts,b.c))) p2=some (.lst ((lgr A t y).map Hk)):=by rw [Ab,lgr,Ya0];rfl
         generalize Aj μ2 p2 (.lst ((A.filter (Bg (t,y))).map λb=>Hk (b.ts,b.c)))=μ3 at S3 e3
         refine⟨S3 _ _ e2,A0 (by show(es.map _).length<=_;rw [Yab];omega),hW _ _ _ ⟨_,es++[(p2,lgr A t y)],rfl,by unfold Jg;rw [Yaw];rfl,?_,λe he=>?_,?_,Ab,Ee (C5 S2 S3) hpl⟩⟩
         ·rw [Yaw,d7,Ybi,ht,Yaw];rfl
         ·rcases Yaq.mp he with he | he
          ·exact am e he
          ·rw [Yan.mp he];exact zg
         ·refine C1.put ((hE.sub S3).snoc e3) λe he=>?_
          rcases Yaq.mp he with he | he
          ·exact am e he
          ·rw [Yan.mp he];exact zg
       ·rintro acc τ' μ2 ⟨o,es,rfl,rfl,d7,am,hE,e2,S2⟩
        rw [Yab,Ybh]at d7
        exact d6 _ _ ⟨pl,es,rfl,d7,hE,e2,S2⟩
      rintro τ μ2 ⟨pl,es,rfl,d7,hE,e2,S2⟩
      have fi:es.length=a.ts.length:=by
       have:=Ycg List.length d7
       rwa [Yab,Yab]at this
      have f2:=S2 _ _ e1
      refine⟨.R pl,es,rfl,An e2,hE,by omega,λj=>?_,λrs l μ3 hrs hR hrn hl e3 S3=>Ad (An e3) ?_⟩
      ·rw [Qw,d7,Yep,<- Ly]
       exact Nc (Yak (Lr bu) hA) j
      rw [d7]at hrs
      have mm:rs.length<=18:=by rw [<- Yab (f:=(·.2)),hrs];exact vc
      have hlf:l≠pf:=by rintro rfl;rw [f2]at hl;cases hl
      have hrf:∀r∈rs,r.1≠pf:=λr hr c=>by
       have:=hrn r hr
       rw [c,f2]at this;cases this
      refine Dd (λj τ μ'=>∃o9 i9 i0,τ=[some (.D (.tuple (A.map Hj))),some (.D (.int (s:Nat))),some (.D (Ax [x,y])),some (.R pf),some (.D (.int (a.p:Nat))),some (.D (.int (a.x:Nat))),some (.D (Ax a.ts)),some (.D (.int (a.c:Nat))),some (.R pl),o9,i9,i0]/\μ' pf=some (.lst ((B++(rs.take j).map λr=>(uni r.2,a.c+mxc r.2)).map Hk))/\C1 μ' rs/\μ' l=some (.lst (Jg rs))/\Sub μ μ') ⟨_,_,_,rfl,by rw [List.take_zero,List.map_nil,Ycp];exact S3 _ _ f2,hR,e3,C5 S1 (C5 S2 S3)⟩ (λ_ _ _ ⟨_,_,_,_,_,_,e,_⟩=>An e) ?_ ?_
      ·rintro j u τ μ4 Z4 hu ⟨o9,i9,i0,rfl,e4,hR4,l4,S4⟩ hZ4
       unfold Jg at hu
       rw [List.getElem?_map]at hu
       obtain⟨⟨pr,r⟩,hr,rfl⟩:=Yah.mp hu
       have mz:=Ya1 hr
       have hj:=(List.getElem?_eq_some_iff.mp hr).1
       have hrc:r∈chs (a.ts.map λt=>lgr A t y):=by rw [<- hrs];exact Yaf.mpr ⟨_,mz,rfl⟩
       obtain⟨jd,hrp⟩:=Qx (Q:=λp=>p.1.length<=5/\∀t∈p.1,t < 5) (λG hG p hp=>by
        obtain⟨t,_,rfl⟩:=Yaf.mp hG
        obtain⟨b,hb,rfl⟩:=Yaf.mp hp
        have x8:=hO b (Ycd.mp hb).1
        have:=Gf (ys:=List.range 5) (x8.u.imp λh=>Yai h:b.ts.Nodup) λt h=>Ya3.mpr (x8.t t h)
        rw [Ycb]at this
        exact⟨this,x8.t⟩) hrc
       rw [Yab]at jd
       refine Cj ⟨pr,r,rfl,hR4 _ mz,by omega,hrp,fun μ5 S5=>⟨rfl,Yr ?_⟩⟩
       have e5:=S5 _ _ e4
       refine⟨Ad e5 trivial,Ad e5 ⟨A0 (by rw [Yab,Yal,Yab,Ybl];omega),hZ4 _ _ ⟨_,_,_,rfl,?_,(hR4.sub S5).put hrf,by rw [Ag hlf];exact S5 _ _ l4,Ee (C5 S4 S5) js⟩⟩⟩
       rw [Ab,Ybi,hr]
       simp only [List.map_append,List.append_assoc]
       rfl
      ·rintro τ μ4 ⟨o9,i9,i0,rfl,e4,hR4,l4,S4⟩
       have ht:rs.take (Jg rs).length=rs:=by unfold Jg;rw [Yab,Ybh]
       rw [ht,show(rs.map λr=>(uni r.2,a.c+mxc r.2))=(chs (a.ts.map λt=>lgr A t y)).map (λr=>(uni r,a.c+mxc r)) by rw [<- hrs,Ya0];rfl]at e4
       exact hZ2 _ _ ⟨_,_,_,_,_,_,_,_,rfl,e4,by rw [Yal,Yab];omega,S4⟩
    ·have hT:Bg (s,x) a=false:=et.symm.trans c
     have:Fk A s (x :: v) a=[]:=by
      cases v with
      | nil=>exact Yaj (by rw [hT];exact Yag)
      | cons y v=>exact Yaj (by rw [hT];exact Yag)
     rw [this,Ycp];exact e1
    ·rw [Yal];omega
   ·rintro τ μ1 ⟨o4,o5,o6,o7,o8,o9,i9,i0,rfl,e1,gc,S1⟩
    rw [Yab,Ybh]at e1 gc
    exact hZ _ _ ⟨_,_,_,_,_,_,_,_,rfl,e1,by omega,S1⟩
  rintro τ μ1 ⟨o4,o5,o6,o7,o8,o9,i9,i0,rfl,e1,gc,S1⟩
  refine Ad (An e1) (Ad (Y0 _) ⟨Qc1 (by omega),λes p bu hm ge hp=>⟨_,Sub.refl,q es p _ hm ge Ab (S1.new (S1.none hp))⟩⟩)
end
section
variable {P:Program}{w:World}{K:PySem.W.Frag}{mg:Str->Option Value}{base:Heap}{f:Addr}{fd:FuncData}
structure Qs where
 A:List Ar
 s:Nat
 w:List Nat
def qsD(z:Qs):PyData:=.tuple [.tuple (z.A.map Hj),.int (z.s:Nat),Ax z.w]
def O5(z:Qs):AV:=.D (qsD z)
structure QOk(z:Qs):Prop where
 n:z.A.length<=8
 a:∀a∈z.A,AOk 5 a
 s:z.s < 5
 w:z.w.length<=2
theorem Y1{α:Type}(g:α->AV)(xs:List α)(lo hi:Option Int):∃ys:List α,Nv (xs.map g) lo hi=ys.map g/\ys.length<=xs.length/\∀y∈ys,y∈xs:=by
 refine⟨(xs.drop (HT.sIx (xs.map g).length 0 lo)).take (HT.sIx (xs.map g).length (xs.map g).length hi - HT.sIx (xs.map g).length 0 lo),?_,?_,λy hy=>Yd5 (Yd4 hy)⟩
 ·unfold Nv
  rw [<- List.map_drop,<- Yep]
 ·rw [Ybl,Ydn];omega
theorem V1(r:List Pq):(uni r).length<=5/\∀t∈uni r,t < 5:=by
 refine⟨Yak (Yc7 _ _) (by rw [Ycb];exact Yad _),λt h=>Ya3.mp (Ycd.mp h).1⟩
theorem Qc3{r:List Pq}{k:Nat}(h:∀p∈r,p.2<=k):mxc r<=k:=by
 rcases(Lx r 0).2.2 with e | ⟨p,hp,e⟩
 ·unfold mxc;rw [e];exact Yaz _
 ·unfold mxc;rw [e];exact h p hp
theorem Qgk{a:Ar}(h:AOk 5 a):a.ts.length<=5:=by
 have:=Gf (ys:=List.range 5) (h.u.imp λh=>Yai h:a.ts.Nodup) λt ht=>Ya3.mpr (h.t t ht)
 rwa [Ycb]at this
theorem Qc4{z:Qs}(h:QOk z):(lrd z.A z.s z.w).length<=144/\∀p∈lrd z.A z.s z.w,p.1.length<=5/\(∀t∈p.1,t < 5)/\p.2<=20:=by
 obtain⟨A,s,w⟩:=z
 have hn:=h.n
 have ha:=h.a
 have hs:=h.s
 dsimp only at hn ha hs ⊢
 cases w with
 | nil =>
  refine⟨by show 1<=144;decide,λp hp=>?_⟩
  rw [Yan.mp hp]
  exact⟨by show 1<=5;decide,λt ht=>by rw [Yan.mp ht];exact hs,Yaz _⟩
 | cons x v =>
  constructor
  ·have key:∀B:List Ar,(∀a∈B,AOk 5 a)->(B.flatMap (Fk A s (x :: v))).length<=18 * B.length:=by
    intro B
    induction B with
    | nil=>intro _;exact Yad _
    | cons b B ih =>
     intro hB
     have h1:=ih λa h=>hB a (.tail _ h)
     have h2:=Q3 (A:=A) hn (s:=s) (w:=x :: v) (a:=b) ((hB b (.head _)).u.imp λh=>Yai h)
     rw [Ydf,Yal,Ya9];omega
   have:=key A ha
   show(A.flatMap (Fk A s (x :: v))).length<=144
   omega
  ·intro p hp
   obtain⟨a,haA,hp⟩:=Ydq.mp hp
   have hO:=ha a haA
   have hc:=hO.c
   cases v with
   | nil =>
    have hp:p∈(if Bg (s,x) a then [(a.ts,a.c)] else []):=hp
    split at hp
    ·rw [Yan.mp hp]
     exact⟨Qgk hO,hO.t,by dsimp only;omega⟩
    ·cases hp
   | cons y v =>
    have hp:p∈(if Bg (s,x) a then(chs (a.ts.map λt=>lgr A t y)).map (λr=>(uni r,a.c+mxc r)) else []):=hp
    split at hp
    ·obtain⟨r,hr,rfl⟩:=Yaf.mp hp
     obtain⟨_,hrp⟩:=Qx (Q:=λp=>p.2<=9) (λG hG p hp=>by
      obtain⟨t,_,rfl⟩:=Yaf.mp hG
      obtain⟨b,hb,rfl⟩:=Yaf.mp hp
      have:=(ha b (Ycd.mp hb).1).c
      dsimp only
      omega) hr
     have:=Qc3 hrp
     exact⟨(V1 r).1,(V1 r).2,by dsimp only;omega⟩
    ·cases hp
theorem Qc5{p:Pq}(h:p.1.length<=5/\(∀t∈p.1,t < 5)/\p.2<=20):OkB 2 400 (Nf p):=by
 have a:OkB 1 205 (Ax p.1):=(OkBs.all (dep:=0) (w:=40) (n:=5) (λd hd=>by
  obtain⟨t,ht,rfl⟩:=Yaf.mp hd
  have:=h.2.1 t ht
  exact Pe (by omega) (by omega)) (by rw [Yab];exact h.1)).tup
 have b:OkB 1 40 (.int (p.2:Nat)):=(Pe (by omega) (by have:=h.2.2;omega)).mono (by decide) (Yad _)
 exact(OkBs.cons' (w3:=400) a (OkBs.cons' (w3:=41) b (OkBs.nil (wt:=0)) (by decide)) (by decide)).tup
theorem Y2{z:Qs}(h:QOk z){es:List PyData}(hm:∀d,d∈es↔d∈(lrd z.A z.s z.w).map Nf)(ge:es.Pairwise (λa b=>D8 a b=true)):OkD (.list es):=by
 obtain⟨hl,hp⟩:=Qc4 h
 have bu:es.Nodup:=ge.imp_of_mem λ{a b} ha _ hlt e=>by
  subst e
  obtain⟨p,_,rfl⟩:=Yaf.mp ((hm _).mp ha)
  rw [Ec _ (O4 p).1]at hlt;cases hlt
 have ce:=Dj bu λd hd=>(hm d).mp hd
 rw [Yab]at ce
 refine((OkBs.all (dep:=2) (w:=400) (n:=144) (λd hd=>?_) (Yak ce hl)).lst).ok (by decide) (by decide)
 obtain⟨p,ig,rfl⟩:=Yaf.mp ((hm d).mp hd)
 exact Qc5 (hp p ig)
theorem Z0{μ:M}{p:Addr}{xs:List AV}{ds:List PyData}(h:μ p=some (.lst xs))(hd:dats xs=some ds):see μ (.R p)=some (.list ds):=by
 simp only [see,h,hd]
theorem Qir{a b c:PyData}{i j k:Nat}{τ:ASt}{μ:M}{R:ASt->M->Prop}(h:R (((τ.set i (some (.D a))).set j (some (.D b))).set k (some (.D c))) μ):Eg (C6 i) (Eg (C6 j) (Eg (C6 k) T3)) (List.map AV.D [a,b,c]) τ μ R:=h
abbrev Qgl:List Str:=["_law_script","_law_deal_here","_law_asked","_law_k","_law_stands","_law_arrows_here","_law_w","_law_stand","_law_found"]
theorem Eh:FnScope Qgl ["_law_script"] (Af Jd):=⟨rfl,rfl,rfl,by decide +kernel,rfl,by decide +kernel,by decide +kernel⟩
theorem Qc6:(["_law_j","_law_deal_here"]:List Str).Nodup:=by decide +kernel
def spL:ASp:=λxs μ R=>∃(ns:List Int),xs=[.D (Fj ns)]/\ns.length<=63/\∀ μ',R (.D (.bool true)) μ'
theorem Y3{n:Nat}(F:Fun K "law" "law" Jd f fd) (t9:VCal P w K mg base n "_law_deal" ["_law_script","_law_base"] Qci) (gh:VCal P w K mg base n "_law_draw" ["_law_deal_here","_law_many"] Yi) (vm:VCal P w K mg base n "_law_arrows" ["_law_deal_here","_law_stands","_law_letters"] Qcx) (uz:VCal P w K mg base n "readings" ["arrows","stand","w"] Qcu) (ux:VCal P w K mg base n "_law_all_read" ["_law_arrows_here","_law_stand","_law_w"] Qc2) (ao:mg "range" = none) (al:mg "tuple" = none) (ay:mg "len" = none) (cu:mg "repr" = none):FnOk P w K mg base Gn (n+1) f fd ["_law_script"] (K5 K 1 spL):=by
 refine F.vok Eh λbd A outer s H E hr=>⟨_,(Ae (A3 (i:=1) Eh.nd rfl (Or.inr rfl) (Aq t9 hr rfl (Aa (vv 0) (Aa Ah Ac))))
   (Ae (A3 (i:=2) Eh.nd rfl (Or.inl rfl) (Bk Ac))
   (Ae (B2 Ybf rfl (D6 rfl ao (Aa (Ba Ef Ah (Aq gh hr rfl (Aa (vv 1) (Aa Ah Ac)))) Ac)) (Am (i:=3) Eh.nd rfl (Or.inl rfl)) (Ae (A3 (i:=4) Eh.nd rfl (Or.inl rfl) (Ba Ef Ah (Aq gh hr rfl (Aa (vv 1) (Aa Ah Ac)))))
   (Ae (A3 (i:=5) Eh.nd rfl (Or.inl rfl) (Aq vm hr rfl (Aa (vv 1) (Aa (vv 4) (Aa Ah Ac)))))
   (Ae (A3 (i:=6) Eh.nd rfl (Or.inl rfl) (C9 Fr rfl al Ycx (Aa (Cu (N':=["_law_j","_law_deal_here"]) (mp:=[none,some 1]) rfl (D6 rfl ao (Aa (Dc Fc (Bk (Aa Ah (Aa Ah (Aa Ah (Aa Ah (Aa Ah Ac)))))) (Aq gh hr rfl (Aa (vv 1) (Aa Ah Ac)))) Ac)) (λ_ _ _ _=>(Am (i:=0) Qc6 rfl (Or.inl rfl) (Or.inr rfl))) (λ_ _ _ _=>Cz) (λ_ _ _ _=>(Aq gh hr rfl (Aa (vv 1) (Aa Ah Ac)))) (Bm (N:=Qgl) (pn:=(Af Jd).names) (by decide +kernel))) Ac)))
   (Ae (A3 (i:=7) Eh.nd rfl (Or.inl rfl) (Dc Fc (Bk (Aa (Aq gh hr rfl (Aa (vv 1) (Aa (vv 4) Ac))) (Aa (Dc Fc (Dc Fc (vv 5) Ah) Ah) Ac))) (Aq gh hr rfl (Aa (vv 1) (Aa Ah Ac)))))
   (Ae (B6 (Em Ybx Yby Cy (vv 2) (Aa (Bb (Aa (vv 5) (Aa (vv 7) (Aa (vv 6) Ac)))) Ac)))
   (Al (En (VW.pt (Nw (Bz (Gu hr) (Bn J1 rfl ay Yd8 (Aa (vv 6) Ac)) Ah (nomark _)) (Kz (Bz (Gu hr) (Aq gh hr rfl (Aa (vv 1) (Aa Ah Ac))) Ah (nomark _))))) (Al (B6 (Em Ybx Yby Cy (vv 2) (Aa (Bb (Aa (vv 5) (Aa (vv 7) (Aa (Bb (Aa (Dc Fc (Dc Fc (vv 5) Ah) Ah) (Aa (Dc Fc (vv 6) Ah) Ac))) Ac)))) Ac)))) Cs))))))))
   (Ae (B2 Ybf rfl (Bc (Ba Ef (vv 2) (Fq (vv 2) Pi (E3 Ah)))) (Dv (n:=3) rfl (Au (Am (i:=5) Eh.nd rfl (Or.inl rfl)) (Au (Am (i:=7) Eh.nd rfl (Or.inl rfl)) (Au (Am (i:=6) Eh.nd rfl (Or.inl rfl)) Ct)))) (Ae (A3 (i:=8) Eh.nd rfl (Or.inl rfl) (Aq uz hr rfl (Aa (vv 5) (Aa (vv 7) (Aa (vv 6) Ac)))))
   (Ae (En (Bz Qe9 (Bn (U7 hr) rfl cu PyProof.Rows.boot_repr (Aa (vv 8) Ac)) (Bn (U7 hr) rfl cu PyProof.Rows.boot_repr (Aa (Aq ux hr rfl (Aa (vv 5) (Aa (vv 7) (Aa (vv 6) Ac)))) Ac)) (nomark _)) (Al (Bf Jz)) Cs)
   (Al (B6 (T2 PySem.F.slot_list_clear PySem.F.type_list_clear Yc (vv 8)))))))
   (Al (Bf Jz)))))),?_⟩
 rintro xs μ R _ ⟨ns,rfl,d4,q⟩
 refine Cj ⟨ns,0,rfl,by decide,d4,λa l μ1 _ _ P1 _=>?_⟩
 intro pk y6
 have am:=P1.ne y6
 refine Br (fun τ μ'=>∃o3 o4 o5 o6 o7,∃B:List Qs,τ=[some (.D (Fj ns)),some (.R a),some (.R pk),o3,o4,o5,o6,o7,none]/\μ' pk=some (.lst (B.map O5))/\B.length<=6/\(∀z∈B,QOk z)) (λZ hZ=>?_) ?_
 ·refine⟨a,l,2,rfl,P1.new y6,by decide,by decide,λc μ2 hc P2 S2=>⟨by omega,by omega,?_⟩⟩
  have ah:(Fd 0 (2+(c:Int)).toNat).length=2+c:=by rw [Bh];omega
  refine Dd (λi τ μ'=>∃o3 o4 o5 o6 o7,∃B:List Qs,τ=[some (.D (Fj ns)),some (.R a),some (.R pk),o3,o4,o5,o6,o7,none]/\μ' pk=some (.lst (B.map O5))/\B.length<=2 * i/\(∀z∈B,QOk z)/\Pot μ' a l) ⟨none,none,none,none,none,[],rfl,S2 pk _ am.1.symm am.2.symm Ab,Yad _,(λ_ h=>nomatch h),P2⟩ (λ_ _ _ _=>trivial) ?_ ?_
  ·rintro i y τ μ3 Z2 hy ⟨o3,o4,o5,o6,o7,B,rfl,e3,hB,kB,P3⟩ hZ2
   have hi:i < 2+c:=by rw [<- ah];exact(List.getElem?_eq_some_iff.mp hy).1
   have ey:=D5 _ _ _ hy
   rw [Int.zero_add]at ey
   subst ey
   refine Br (fun τ μ'=>∃st:Nat,τ=[some (.D (Fj ns)),some (.R a),some (.R pk),some (.D (.int i)),some (.D (.int st)),o5,o6,o7,none]/\0 < st/\st<=5/\μ' pk=some (.lst (B.map O5))/\Pot μ' a l) (λZ3 d6=>⟨a,l,5,rfl,P3,by decide,by decide,λv μ4 hv P4 S4=>d6 _ _ ⟨1+v,rfl,by omega,by omega,S4 pk _ am.1.symm am.2.symm e3,P4⟩⟩) ?_
   rintro τ μ4 ⟨st,rfl,qv,hs5,e4,P4⟩
   refine Cj ⟨a,l,st,rfl,qv,hs5,P4,λC μ5 hC hC0 kC P5 S5=>?_⟩
   have e5:=S5 pk _ am.1.symm am.2.symm e4
   have t5:∀b∈C,AOk 5 b:=λb hb=>let h:=kC b hb;⟨Yar h.p hs5,h.x,λt ht=>Yar (h.t t ht) hs5,h.u,h.c⟩
   obtain⟨b0,tm⟩:∃b0,C[0]?=some b0:=by
    cases C with
    | nil=>exact absurd rfl hC0
    | cons b C=>exact⟨b,rfl⟩
   have t7:=Ya1 tm
   have y4:atI (C.map Hj) 0=some (Hj b0):=Fm (j:=0) (by rw [List.getElem?_map,tm];rfl)
   refine Br (fun τ μ'=>∃w:List Nat,τ=[some (.D (Fj ns)),some (.R a),some (.R pk),some (.D (.int i)),some (.D (.int st)),some (.D (.tuple (C.map Hj))),some (.D (Ax w)),o7,none]/\w.length<=2/\μ' pk=some (.lst (B.map O5))/\Pot μ' a l) (λZ3 d6=>?_) ?_
   ·intro pt fz
    have p7:=P5.ne fz
    have xx:pk≠pt:=by rintro rfl;rw [e5]at fz;cases fz
    refine⟨a,l,5,rfl,P5.new fz,by decide,by decide,λc2 μ6 hc2 P6 S6=>?_⟩
    have e6:=S6 pk _ am.1.symm am.2.symm (by rw [Ag xx];exact e5)
    have t6:=S6 pt _ p7.1.symm p7.2.symm Ab
    obtain⟨m,dz,hix⟩:∃m:Nat,m<=2/\atI [AV.D (.int 0),.D (.int 1),.D (.int 2),.D (.int 2),.D (.int 2)] (c2:Int)=some (.D (.int (m:Nat))):=by
     match c2,hc2 with
     | 0,_=>exact⟨0,by decide,rfl⟩
     | 1,_=>exact⟨1,by decide,rfl⟩
     | 2,_=>exact⟨2,by decide,rfl⟩
     | 3,_=>exact⟨2,by decide,rfl⟩
     | 4,_=>exact⟨2,by decide,rfl⟩
    refine Ad t6 (Ad hix ⟨by omega,by omega,λpl hpl=>?_⟩)
    have jq:=P6.ne hpl
    have ga:pk≠pl:=by rintro rfl;rw [e6]at hpl;cases hpl
    have fo:(Fd 0 (m:Int).toNat).length=m:=by rw [Bh];omega
    refine Fe (λj acc τ' μ'=>∃o,∃ws:List Nat,τ'=[o,some (.R a)]/\acc=ws.map Dy/\ws.length=j/\μ' pl=some (.lst acc)/\μ' pk=some (.lst (B.map O5))/\Pot μ' a l) ⟨none,[],rfl,rfl,rfl,Ab,by rw [Ag ga];exact e6,P6.new hpl⟩ (λ_ _ _ _ _=>trivial) ?_ ?_
    ·rintro j x acc τ' μ7 W hx ⟨o,ws,rfl,rfl,hn,e7,f7,P7⟩ hW
     have hj:j < m:=by rw [<- fo];exact(List.getElem?_eq_some_iff.mp hx).1
     refine Tu rfl ⟨a,l,3,rfl,P7,by decide,by decide,λv μ8 hv P8 S8=>⟨S8 pl _ jq.1.symm jq.2.symm e7,A0 (by rw [Yab];omega),hW _ _ _ ⟨_,ws++[v],rfl,by rw [Yaw];rfl,by rw [Yal,hn];rfl,Ab,by rw [Ag ga];exact S8 pk _ am.1.symm am.2.symm f7,P8.other jq.1 jq.2⟩⟩⟩
    ·rintro acc τ' μ7 ⟨o,ws,rfl,rfl,hn,e7,f7,P7⟩
     rw [fo]at hn
     exact Ad (An e7) (Ad (Gg _) (d6 _ _ ⟨ws,rfl,by omega,f7,P7⟩))
   rintro τ μ6 ⟨w,rfl,hw,e6,P6⟩
   refine Br (fun τ μ'=>∃sd:Nat,τ=[some (.D (Fj ns)),some (.R a),some (.R pk),some (.D (.int i)),some (.D (.int st)),some (.D (.tuple (C.map Hj))),some (.D (Ax w)),some (.D (.int (sd:Nat))),none]/\sd < 5/\μ' pk=some (.lst (B.map O5))/\Pot μ' a l) (λZ3 d6=>?_) ?_
   ·refine⟨a,l,st,rfl,P6,qv,by omega,λv μ7 hv P7 S7=>Ad y4 (Ad (x:=PyData.int (b0.p:Nat)) rfl λpt fz=>?_)⟩
    have e7:=S7 pk _ am.1.symm am.2.symm e6
    have p7:=P7.ne fz
    have xx:pk≠pt:=by rintro rfl;rw [e7]at fz;cases fz
    refine⟨a,l,2,rfl,P7.new fz,by decide,by decide,λc2 μ8 hc2 P8 S8=>?_⟩
    have t8:=S8 pt _ p7.1.symm p7.2.symm Ab
    have e8:=S8 pk _ am.1.symm am.2.symm (by rw [Ag xx];exact e7)
    obtain⟨m,hm5,hix⟩:∃m:Nat,m < 5/\atI [AV.D (.int (v:Nat)),.D (.int (b0.p:Nat))] (c2:Int)=some (.D (.int (m:Nat))):=by
     match c2,hc2 with
     | 0,_=>exact⟨v,by omega,rfl⟩
     | 1,_=>exact⟨b0.p,(t5 b0 t7).p,rfl⟩
    exact Ad t8 (Ad hix (d6 _ _ ⟨m,rfl,hm5,e8,P8⟩))
   rintro τ μ7 ⟨sd,rfl,hsd,e7,P7⟩
   have hok:QOk ⟨C,sd,w⟩:=⟨hC,t5,hsd,hw⟩
   refine Br (fun τ μ'=>τ=[some (.D (Fj ns)),some (.R a),some (.R pk),some (.D (.int i)),some (.D (.int st)),some (.D (.tuple (C.map Hj))),some (.D (Ax w)),some (.D (.int (sd:Nat))),none]/\μ' pk=some (.lst ((B++[(⟨C,sd,w⟩:Qs)]).map O5))/\Pot μ' a l) (λZ3 d6=>⟨Ad e7 trivial,Ad e7 ⟨A0 (by rw [Yab];omega),d6 _ _ ⟨rfl,by rw [Ab,Yaw];rfl,P7.other am.1 am.2⟩⟩⟩) ?_
   rintro τ μ8 ⟨rfl,e8,P8⟩
   have sk:∀z∈B++[(⟨C,sd,w⟩:Qs)],QOk z:=λz hz=>by
    rcases Yaq.mp hz with hz | hz
    ·exact kB z hz
    ·rw [Yan.mp hz];exact hok
   have hB8:(B++[(⟨C,sd,w⟩:Qs)]).length=B.length+1:=by rw [Yal];rfl
   generalize B++[(⟨C,sd,w⟩:Qs)]=B8 at e8 sk hB8
   refine ieq (λc=>?_) (λc=>Sl rfl (hZ2 _ _ ⟨_,_,_,_,_,B8,rfl,e8,by omega,sk,P8⟩))
   have hw2:w.length=2:=by
    have c:(((w.map λ(n:Nat)=>PyData.int n).length:Nat):Int)=2:=c
    rw [Yab]at c
    omega
   obtain⟨x,y,rfl⟩:∃x y,w=[x,y]:=by
    match w,hw2 with
    | [x,y],_=>exact⟨x,y,rfl⟩
   refine⟨a,l,2,rfl,P8,by decide,by decide,λv μ9 hv P9 S9=>?_⟩
   have e9:=S9 pk _ am.1.symm am.2.symm e8
   refine ieq (λc=>?_) (λc=>hZ2 _ _ ⟨_,_,_,_,_,B8,rfl,e9,by omega,sk,P9⟩)
   refine⟨Ad e9 trivial,Ad y4 (Ad (x:=PyData.int (b0.x:Nat)) (Fm (j:=1) rfl) (Ad (x:=PyData.int (y:Nat)) (Fm (j:=1) rfl) (Ad (x:=MO.lst (B8.map O5)) e9 ⟨A0 (by rw [Yab];omega),hZ2 _ _ ⟨_,_,_,_,_,B8++[⟨C,sd,[b0.x,y]⟩],rfl,by rw [Ab,Yaw];rfl,by rw [Yal];show B8.length+1<=_;omega,λz hz=>?_,P9.other am.1 am.2⟩⟩)))⟩
   rcases Yaq.mp hz with hz | hz
   ·exact sk z hz
   ·rw [Yan.mp hz];exact⟨hC,t5,hsd,Yad _⟩
  ·rintro τ μ3 ⟨o3,o4,o5,o6,o7,B,rfl,e3,hB,kB,P3⟩
   rw [ah]at hB
   exact hZ _ _ ⟨_,_,_,_,_,B,rfl,e3,by omega,kB⟩
 rintro τ μ2 ⟨o3,o4,o5,o6,o7,B,rfl,e2,hB,kB⟩
 refine Br (fun τ μ'=>True) (λZ hZ=>?_) (fun τ μ' _=>⟨_,Sub.refl,q _⟩)
 obtain⟨Y,eY,hYl,hYm⟩:=Y1 O5 B none (some 2)
 refine Ad (An e2) λp1 dh=>?_
 rw [eY]
 have h1k:pk≠p1:=by rintro rfl;rw [e2]at dh;cases dh
 refine Ad (x:=MO.lst (B.map O5)) (by rw [Ag h1k];exact e2) (Ad Ab ⟨seven (by rw [Yab,Yab];omega),λp2 fb=>?_⟩)
 rw [<- Yaw]
 have kY:∀z∈B++Y,QOk z:=λz hz=>(Yaq.mp hz).elim (kB z) λh=>kB z (hYm z h)
 have e4:Aj (Aj μ2 p1 (.lst (Y.map O5))) p2 (.lst ((B++Y).map O5)) p2=some (.lst ((B++Y).map O5)):=Ab
 generalize Aj (Aj μ2 p1 (.lst (Y.map O5))) p2 (.lst ((B++Y).map O5))=μ4 at e4
 refine Ad (An e4) ?_
 refine Dd (λi τ μ'=>∃o3 o4 o5 o6 o7 o8,τ=[some (.D (Fj ns)),some (.R a),some (.R pk),o3,o4,o5,o6,o7,o8]/\Sub μ4 μ') ⟨_,_,_,_,_,_,rfl,Sub.refl⟩ (λ_ _ _ ⟨_,_,_,_,_,_,_,S⟩=>An (S _ _ e4)) ?_ (fun τ μ' _=>hZ _ _ trivial)
 rintro i y τ μ5 Z2 hy ⟨o3,o4,o5,o6,o7,o8,rfl,S5⟩ hZ2
 rw [List.getElem?_map]at hy
 obtain⟨z,hz,rfl⟩:=Yah.mp hy
 have hk:=kY z (Ya1 hz)
 have ht:∀a∈z.A,∀t∈a.ts,t < 5:=λa ha=>(hk.a a ha).t
 refine⟨rfl,Qir ?_⟩
 dsimp only [List.set]
 have mo:∀ μ',items μ' (.D (.tuple (z.A.map Hj)))=some (z.A.map Vq):=fun μ'=>by
  show some ((z.A.map Hj).map AV.D)=_
  rw [Ya0];rfl
 refine Cj ⟨_,z.A,z.s,z.w,rfl,mo _,hk.n,hk.s,hk.w,ht,Qcv hk.s ht z.w,λzs es pl μ6 hzm hznd ig ge hpl e6 S6=>?_⟩
 have nv:∀d,d∈es↔d∈(lrd z.A z.s z.w).map Nf:=λd=>by
  rw [ig.mem_iff,<- Yz hk.s hk.a z.w,Ya0,Yaf,Yaf]
  exact⟨λ⟨p,h1,h2⟩=>⟨p,(hzm p).mp h1,h2⟩,λ⟨p,h1,h2⟩=>⟨p,(hzm p).mpr h1,h2⟩⟩
 have hok:=Y2 hk nv ge
 refine Cj (Ad (Z0 e6 (Ci _)) ⟨hok,z.A,z.s,z.w,rfl,hk.n,hk.s,hk.w,hk.a,λmj p2 μ7 dz hup2 e7 S7=>?_⟩)
 have ee:es=mj:=Nh ge hup2 (λd hd=>by
  obtain⟨p,_,rfl⟩:=Yaf.mp ((nv d).mp hd)
  exact(O4 p).1) λd=>(nv d).trans (dz d).symm
 subst ee
 refine Ad (Z0 e7 (Ci _)) ⟨hok,Sl (by rw [Ybg rfl];rfl) ?_⟩
 have e8:=S7 _ _ e6
 have pn:μ4 pl=none:=S5.none hpl
 exact⟨Ad e8 trivial,Ad e8 (hZ2 _ _ ⟨_,_,_,_,_,_,rfl,Ee (C5 S5 (C5 S6 S7)) pn⟩)⟩
def Q4(K:PySem.W.Frag):Sp:=λvs H Q _=>∃(a:Addr) (ns:List Int),vs=[.ref a]/\E5 K H a (ns.map V.int)/\Only H/\ns.length<=63/\∀H',Q (.bl true) H'
theorem Q5{H:Hp}:∀(ns:List Int),Ai K H (ns.map .int) (ns.map V.int)
 | []=>Dp
 | n :: ns=>Db C3 (Q5 ns)
theorem Qc7{n:Nat}(F:Fun K "law" "law" Jd f fd) (t9:VCal P w K mg base n "_law_deal" ["_law_script","_law_base"] Qci) (gh:VCal P w K mg base n "_law_draw" ["_law_deal_here","_law_many"] Yi) (vm:VCal P w K mg base n "_law_arrows" ["_law_deal_here","_law_stands","_law_letters"] Qcx) (uz:VCal P w K mg base n "readings" ["arrows","stand","w"] Qcu) (ux:VCal P w K mg base n "_law_all_read" ["_law_arrows_here","_law_stand","_law_w"] Qc2) (ao:mg "range" = none) (al:mg "tuple" = none) (ay:mg "len" = none) (cu:mg "repr" = none):FnOk P w K mg base Gn (n+1) f fd ["_law_script"] (Q4 K):=by
 refine(Y3 F t9 gh vm uz ux ao al ay cu).imp ?_
 rintro vs H Q E ⟨a,ns,rfl,hS,hO,hl,q⟩
 refine⟨[.D (Fj ns)],λ_=>none,λv _=>v=.D (.bool true),rfl,.cons ?_ .nil,(λ_ _ z=>nomatch z),⟨ns,rfl,hl,λ_=>rfl⟩,?_⟩
 ·refine Qbe (xs:=ns.map V.int) ?_ (Q5 ns)
  rcases hS with(h | h) | h
  ·rcases hO a with z | ⟨o,xs,z⟩
   ·rw [z]at h;cases h
   ·rw [z]at h;cases h
  ·exact .inl h
  ·exact .inr h
 ·rintro x μ v H' _ _ rx rfl
  cases RelA.bl rx
  exact q _
end
theorem Jh{us:List Value}(h:us.length=1):∃a0,us=[a0]:=by
 obtain⟨a0,t,rfl,h2⟩:=D7 h
 rw [Yct h2];exact⟨a0,rfl⟩
theorem Ji{us:List Value}(h:us.length=2):∃a0 a1,us=[a0,a1]:=by
 obtain⟨a0,t,rfl,h2⟩:=D7 h
 obtain⟨a1,rfl⟩:=Jh h2
 exact⟨a0,a1,rfl⟩
theorem Q6{us:List Value}(h:us.length=3):∃a0 a1 a2,us=[a0,a1,a2]:=by
 obtain⟨a0,t,rfl,h2⟩:=D7 h
 obtain⟨a1,a2,rfl⟩:=Ji h2
 exact⟨a0,a1,a2,rfl⟩
theorem Qgm{us:List Value}(h:us.length=4):∃a0 a1 a2 a3,us=[a0,a1,a2,a3]:=by
 obtain⟨a0,t,rfl,h2⟩:=D7 h
 obtain⟨a1,a2,a3,rfl⟩:=Q6 h2
 exact⟨a0,a1,a2,a3,rfl⟩
theorem all_mk{l:PySem.W.OpenLaw}{w:World}{K:PySem.W.Frag}{h:Heap}{mg:Str->Option Value}{fa f1 f2 f3 f4 f5 f6 f7 f8 f9 xw ut x5 wj w6 vb xc x4:Addr}(X:K.In h)(G:h.Ns mainGlobals mg)(hfa:mg "law" = some (.ref fa))
  {od1 an1 od2 an2 od3 an3 od4 an4 od5 an5 od6 an6 od7 an7 od8 an8 od9 an9 yb wg v6 x6 xy uq v9 wn yc uc ww xn uv xk yf qr:Option Addr} {sl1 mi sl3 sl4 sl5 sl6 sl7 sl8 sl9 xa wb vo wx yk uh xl vt:Array (Option Value)} {oc1 kV1 dc1 pm1 zl ct1 oc2 kV2 dc2 pm2 yq ct2 oc3 kV3 dc3 pm3 zt ct3 oc4 kV4 dc4 pm4 y7 ct4 oc5 kV5 dc5 pm5 y0 ct5 oc6 kV6 dc6 pm6 y8 ct6 oc7 kV7 dc7 pm7 zp ct7 oc8 kV8 dc8 pm8 zx ct8 oc9 kV9 dc9 pm9 yz ct9 xt vf vp ym nj xz vw yg uk ue n8 w9 u8 xb vj u6 m7 ye xj wd xo vk pg we vz u9 yh v5 nu wq xf xq vi ud rq uw uf u0 v4 xp mw vd v3 qc my qh ly ou:Value}
  (a1:PySem.W.nsIn K mainGlobals "as_bits" = some (some (.ref f1)))
  (l1:K.lookup f1=some ⟨oc1,od1,.func (PySem.W.fnOf "as_bits" "as_bits" (A8 sAb) (A5 sAb) (Af sAb) .none kV1 dc1 pm1 an1 zl ct1),sl1⟩)
  (c_1:PySem.W.codeIn K zl "as_bits" = true)
  (k1:PySem.W.keepIn K (.ref f1)=true)
  (a2:PySem.W.nsIn K mainGlobals "as_stands" = some (some (.ref f2)))
  (l2:K.lookup f2=some ⟨oc2,od2,.func (PySem.W.fnOf "as_stands" "as_stands" (A8 sAs) (A5 sAs) (Af sAs) .none kV2 dc2 pm2 an2 yq ct2),mi⟩)
  (c_2:PySem.W.codeIn K yq "as_stands" = true)
  (k2:PySem.W.keepIn K (.ref f2)=true)
  (a3:PySem.W.nsIn K mainGlobals "has_within" = some (some (.ref f3)))
  (l3:K.lookup f3=some ⟨oc3,od3,.func (PySem.W.fnOf "has_within" "has_within" (A8 sHw) (A5 sHw) (Af sHw) .none kV3 dc3 pm3 an3 zt ct3),sl3⟩)
  (c_3:PySem.W.codeIn K zt "has_within" = true)
  (k3:PySem.W.keepIn K (.ref f3)=true)
  (a4:PySem.W.nsIn K mainGlobals "least_alone" = some (some (.ref f4)))
  (l4:K.lookup f4=some ⟨oc4,od4,.func (PySem.W.fnOf "least_alone" "least_alone" (A8 sLa) (A5 sLa) (Af sLa) .none kV4 dc4 pm4 an4 y7 ct4),sl4⟩)
  (c_4:PySem.W.codeIn K y7 "least_alone" = true)
  (k4:PySem.W.keepIn K (.ref f4)=true)
  (a5:PySem.W.nsIn K mainGlobals "thinned" = some (some (.ref f5)))
  (l5:K.lookup f5=some ⟨oc5,od5,.func (PySem.W.fnOf "thinned" "thinned" (A8 sTh) (A5 sTh) (Af sTh) .none kV5 dc5 pm5 an5 y0 ct5),sl5⟩)
  (c_5:PySem.W.codeIn K y0 "thinned" = true)
  (k5:PySem.W.keepIn K (.ref f5)=true)
  (a6:PySem.W.nsIn K mainGlobals "one_of_each" = some (some (.ref f6)))
  (l6:K.lookup f6=some ⟨oc6,od6,.func (PySem.W.fnOf "one_of_each" "one_of_each" (A8 sOe) (A5 sOe) (Af sOe) .none kV6 dc6 pm6 an6 y8 ct6),sl6⟩)
  (c_6:PySem.W.codeIn K y8 "one_of_each" = true)
  (k6:PySem.W.keepIn K (.ref f6)=true)
  (a7:PySem.W.nsIn K mainGlobals "each_with_each" = some (some (.ref f7)))
  (l7:K.lookup f7=some ⟨oc7,od7,.func (PySem.W.fnOf "each_with_each" "each_with_each" (A8 sEe) (A5 sEe) (Af sEe) .none kV7 dc7 pm7 an7 zp ct7),sl7⟩)
  (c_7:PySem.W.codeIn K zp "each_with_each" = true)
  (k7:PySem.W.keepIn K (.ref f7)=true)
  (a8:PySem.W.nsIn K mainGlobals "readings" = some (some (.ref f8)))
  (l8:K.lookup f8=some ⟨oc8,od8,.func (PySem.W.fnOf "readings" "readings" (A8 sRd) (A5 sRd) (Af sRd) .none kV8 dc8 pm8 an8 zx ct8),sl8⟩)
  (c_8:PySem.W.codeIn K zx "readings" = true)
  (k8:PySem.W.keepIn K (.ref f8)=true)
  (a9:PySem.W.nsIn K mainGlobals "arrows_by_top" = some (some (.ref f9)))
  (l9:K.lookup f9=some ⟨oc9,od9,.func (PySem.W.fnOf "arrows_by_top" "arrows_by_top" (A8 sAt) (A5 sAt) (Af sAt) .none kV9 dc9 pm9 an9 yz ct9),sl9⟩)
  (c_9:PySem.W.codeIn K yz "arrows_by_top" = true)
  (k9:PySem.W.keepIn K (.ref f9)=true)
  (a10:PySem.W.nsIn K mainGlobals "readings_by" = some (some (.ref xw)))
  (l10:K.lookup xw=some ⟨xt,yb,.func (PySem.W.fnOf "readings_by" "readings_by" (A8 Zt) (A5 Zt) (Af Zt) .none vf vp ym wg nj xz),xa⟩)
  (c_10:PySem.W.codeIn K nj "readings_by" = true)
  (k10:PySem.W.keepIn K (.ref xw)=true)
  (a11:PySem.W.nsIn K mainGlobals "_law_deal" = some (some (.ref ut)))
  (l11:K.lookup ut=some ⟨vw,v6,.func (PySem.W.fnOf "_law_deal" "_law_deal" (A8 Zu) (A5 Zu) (Af Zu) .none yg uk ue x6 n8 w9),wb⟩)
  (c_11:PySem.W.codeIn K n8 "_law_deal" = true)
  (k11:PySem.W.keepIn K (.ref ut)=true)
  (a12:PySem.W.nsIn K mainGlobals "_law_draw" = some (some (.ref x5)))
  (l12:K.lookup x5=some ⟨u8,xy,.func (PySem.W.fnOf "_law_draw" "_law_draw" (A8 sDr) (A5 sDr) (Af sDr) .none xb vj u6 uq m7 ye),vo⟩)
  (c_12:PySem.W.codeIn K m7 "_law_draw" = true)
  (k12:PySem.W.keepIn K (.ref x5)=true)
  (a13:PySem.W.nsIn K mainGlobals "_law_arrows" = some (some (.ref wj)))
  (l13:K.lookup wj=some ⟨xj,v9,.func (PySem.W.fnOf "_law_arrows" "_law_arrows" (A8 sAr) (A5 sAr) (Af sAr) .none wd xo vk wn pg we),wx⟩)
  (c_13:PySem.W.codeIn K pg "_law_arrows" = true)
  (k13:PySem.W.keepIn K (.ref wj)=true)
  (a14:PySem.W.nsIn K mainGlobals "_law_choices" = some (some (.ref w6)))
  (l14:K.lookup w6=some ⟨vz,yc,.func (PySem.W.fnOf "_law_choices" "_law_choices" (A8 sCh) (A5 sCh) (Af sCh) .none u9 yh v5 uc nu wq),yk⟩)
  (c_14:PySem.W.codeIn K nu "_law_choices" = true)
  (k14:PySem.W.keepIn K (.ref w6)=true)
  (a15:PySem.W.nsIn K mainGlobals "_law_put" = some (some (.ref vb)))
  (l15:K.lookup vb=some ⟨xf,ww,.func (PySem.W.fnOf "_law_put" "_law_put" (A8 sPt) (A5 sPt) (Af sPt) .none xq vi ud xn rq uw),uh⟩)
  (c_15:PySem.W.codeIn K rq "_law_put" = true)
  (k15:PySem.W.keepIn K (.ref vb)=true)
  (a16:PySem.W.nsIn K mainGlobals "_law_all_read" = some (some (.ref xc)))
  (l16:K.lookup xc=some ⟨uf,uv,.func (PySem.W.fnOf "_law_all_read" "_law_all_read" (A8 sAl) (A5 sAl) (Af sAl) .none u0 v4 xp xk mw vd),xl⟩)
  (c_16:PySem.W.codeIn K mw "_law_all_read" = true)
  (k16:PySem.W.keepIn K (.ref xc)=true)
  (a17:PySem.W.nsIn K mainGlobals "law" = some (some (.ref x4)))
  (l17:K.lookup x4=some ⟨v3,yf,.func (PySem.W.fnOf "law" "law" (A8 Jd) (A5 Jd) (Af Jd) .none qc my qh qr ly ou),vt⟩)
  (c_17:PySem.W.codeIn K ly "law" = true)
  (k17:PySem.W.keepIn K (.ref x4)=true)
  (z_tuple:PySem.W.nsIn K mainGlobals "tuple" = some none)
  (z_range:PySem.W.nsIn K mainGlobals "range" = some none)
  (z_sorted:PySem.W.nsIn K mainGlobals "sorted" = some none)
  (z_set:PySem.W.nsIn K mainGlobals "set" = some none)
  (z_max:PySem.W.nsIn K mainGlobals "max" = some none)
  (z_list:PySem.W.nsIn K mainGlobals "list" = some none)
  (z_len:PySem.W.nsIn K mainGlobals "len" = some none)
  (z_reversed:PySem.W.nsIn K mainGlobals "reversed" = some none)
  (z_repr:PySem.W.nsIn K mainGlobals "repr" = some none) :
  ∃fd:FuncData,(∀(s:Shared) (v:Value),BindsTo s fd ⟨[v],[]⟩ [("_law_script",v)])/\∀base:Heap,K.In base->base.Ns mainGlobals mg->FnOk l.prog w K mg base Gn 65 fa fd ["_law_script"] (Q4 K):=by
 have e:=hfa.symm.trans (Ybt X G a17)
 cases e
 have F1:=Bw (st:=sAb) l1 c_1 k1
 have F2:=Bw (st:=sAs) l2 c_2 k2
 have F3:=Bw (st:=sHw) l3 c_3 k3
 have F4:=Bw (st:=sLa) l4 c_4 k4
 have F5:=Bw (st:=sTh) l5 c_5 k5
 have F6:=Bw (st:=sOe) l6 c_6 k6
 have F7:=Bw (st:=sEe) l7 c_7 k7
 have F8:=Bw (st:=sRd) l8 c_8 k8
 have F9:=Bw (st:=sAt) l9 c_9 k9
 have F10:=Bw (st:=Zt) l10 c_10 k10
 have F11:=Bw (st:=Zu) l11 c_11 k11
 have F12:=Bw (st:=sDr) l12 c_12 k12
 have F13:=Bw (st:=sAr) l13 c_13 k13
 have F14:=Bw (st:=sCh) l14 c_14 k14
 have F15:=Bw (st:=sPt) l15 c_15 k15
 have F16:=Bw (st:=sAl) l16 c_16 k16
 have F17:=Bw (st:=Jd) l17 c_17 k17
 have b1:=F1.binds (ps:=["stands"]) λ_ _ _ _ _ _ us hl=>by obtain⟨a0,rfl⟩:=Jh hl;rfl
 have b2:=F2.binds (ps:=["bits"]) λ_ _ _ _ _ _ us hl=>by obtain⟨a0,rfl⟩:=Jh hl;rfl
 have b3:=F3.binds (ps:=["lows","bits"]) λ_ _ _ _ _ _ us hl=>by obtain⟨a0,a1,rfl⟩:=Ji hl;rfl
 have b4:=F4.binds (ps:=["pairs"]) λ_ _ _ _ _ _ us hl=>by obtain⟨a0,rfl⟩:=Jh hl;rfl
 have b5:=F5.binds (ps:=["pairs","least"]) λ_ _ _ _ _ _ us hl=>by obtain⟨a0,a1,rfl⟩:=Ji hl;rfl
 have b6:=F6.binds (ps:=["groups","least"]) λ_ _ _ _ _ _ us hl=>by obtain⟨a0,a1,rfl⟩:=Ji hl;rfl
 have b7:=F7.binds (ps:=["pairs","others"]) λ_ _ _ _ _ _ us hl=>by obtain⟨a0,a1,rfl⟩:=Ji hl;rfl
 have b8:=F8.binds (ps:=["arrows","stand","w"]) λ_ _ _ _ _ _ us hl=>by obtain⟨a0,a1,a2,rfl⟩:=Q6 hl;rfl
 have b9:=F9.binds (ps:=["arrows"]) λ_ _ _ _ _ _ us hl=>by obtain⟨a0,rfl⟩:=Jh hl;rfl
 have b10:=F10.binds (ps:=["tops","stand","w","least"]) λ_ _ _ _ _ _ us hl=>by obtain⟨a0,a1,a2,a3,rfl⟩:=Qgm hl;rfl
 have b11:=F11.binds (ps:=["_law_script","_law_base"]) λ_ _ _ _ _ _ us hl=>by obtain⟨a0,a1,rfl⟩:=Ji hl;rfl
 have b12:=F12.binds (ps:=["_law_deal_here","_law_many"]) λ_ _ _ _ _ _ us hl=>by obtain⟨a0,a1,rfl⟩:=Ji hl;rfl
 have b13:=F13.binds (ps:=["_law_deal_here","_law_stands","_law_letters"]) λ_ _ _ _ _ _ us hl=>by obtain⟨a0,a1,a2,rfl⟩:=Q6 hl;rfl
 have b14:=F14.binds (ps:=["_law_some"]) λ_ _ _ _ _ _ us hl=>by obtain⟨a0,rfl⟩:=Jh hl;rfl
 have b15:=F15.binds (ps:=["_law_pairs"]) λ_ _ _ _ _ _ us hl=>by obtain⟨a0,rfl⟩:=Jh hl;rfl
 have b16:=F16.binds (ps:=["_law_arrows_here","_law_stand","_law_w"]) λ_ _ _ _ _ _ us hl=>by obtain⟨a0,a1,a2,rfl⟩:=Q6 hl;rfl
 have al:=Ycc X G z_tuple
 have ao:=Ycc X G z_range
 have ai:=Ycc X G z_sorted
 have bj:=Ycc X G z_set
 have ci:=Ycc X G z_max
 have cz:=Ycc X G z_list
 have ay:=Ycc X G z_len
 have bx:=Ycc X G z_reversed
 have cu:=Ycc X G z_repr
 refine⟨PySem.W.fnOf "law" "law" (A8 Jd) (A5 Jd) (Af Jd) .none qc my qh qr ly ou,λs v=>.of_eq rfl,λbase _ _=>?_⟩
 have g1:=Qfk (P:=l.prog) (w:=w) (mg:=mg) (base:=base) (n:=0) F1
 have q1:VCal l.prog w K mg base 1 "as_bits" ["stands"] _:=⟨_,_,g1,b1,k1,Ybt X G a1⟩
 have g2:=Qfm (P:=l.prog) (w:=w) (mg:=mg) (base:=base) (n:=0) F2 al ao
 have q2:VCal l.prog w K mg base 1 "as_stands" ["bits"] _:=⟨_,_,g2,b2,k2,Ybt X G a2⟩
 have g3:=Qfx (P:=l.prog) (w:=w) (mg:=mg) (base:=base) (n:=0) F3
 have q3:VCal l.prog w K mg base 1 "has_within" ["lows","bits"] _:=⟨_,_,g3,b3,k3,Ybt X G a3⟩
 have g4:=Qfy (P:=l.prog) (w:=w) (mg:=mg) (base:=base) (n:=1) F4 (q3.mono (by decide)) ai
 have q4:VCal l.prog w K mg base 2 "least_alone" ["pairs"] _:=⟨_,_,g4,b4,k4,Ybt X G a4⟩
 have g5:=Qfq (P:=l.prog) (w:=w) (mg:=mg) (base:=base) (n:=2) F5 (q4.mono (by decide)) ai bj
 have q5:VCal l.prog w K mg base 3 "thinned" ["pairs","least"] _:=⟨_,_,g5,b5,k5,Ybt X G a5⟩
 have g7:=Qfp (P:=l.prog) (w:=w) (mg:=mg) (base:=base) (n:=0) F7 ci cz
 have q7:VCal l.prog w K mg base 1 "each_with_each" ["pairs","others"] _:=⟨_,_,g7,b7,k7,Ybt X G a7⟩
 have g6:=Qfs (P:=l.prog) (w:=w) (mg:=mg) (base:=base) (n:=3) F6 (q5.mono (by decide)) (q7.mono (by decide))
 have q6:VCal l.prog w K mg base 4 "one_of_each" ["groups","least"] _:=⟨_,_,g6,b6,k6,Ybt X G a6⟩
 have g9:=Qfv (P:=l.prog) (w:=w) (mg:=mg) (base:=base) (n:=1) F9 (q1.mono (by decide))
 have q9:VCal l.prog w K mg base 2 "arrows_by_top" ["arrows"] _:=⟨_,_,g9,b9,k9,Ybt X G a9⟩
 have g10:=Qf2 (P:=l.prog) (w:=w) (mg:=mg) (base:=base) (n:=4) F10 (q1.mono (by decide)) (q2.mono (by decide)) (q5.mono (by decide)) (q6.mono (by decide)) ay
 have q10:VCal l.prog w K mg base 5 "readings_by" ["tops","stand","w","least"] _:=⟨_,_,g10,b10,k10,Ybt X G a10⟩
 have g8:=Qf5 (P:=l.prog) (w:=w) (mg:=mg) (base:=base) (n:=5) F8 (q2.mono (by decide)) (q9.mono (by decide)) (q10.mono (by decide)) ai
 have q8:VCal l.prog w K mg base 6 "readings" ["arrows","stand","w"] _:=⟨_,_,g8,b8,k8,Ybt X G a8⟩
 have g11:=Qfj (P:=l.prog) (w:=w) (mg:=mg) (base:=base) (n:=0) F11 ci cz bx
 have q11:VCal l.prog w K mg base 1 "_law_deal" ["_law_script","_law_base"] _:=⟨_,_,g11,b11,k11,Ybt X G a11⟩
 have g12:=Qfg (P:=l.prog) (w:=w) (mg:=mg) (base:=base) (n:=0) F12 ay
 have zb:VCal l.prog w K mg base 1 "_law_draw" ["_law_deal_here","_law_many"] _:=⟨_,_,g12,b12,k12,Ybt X G a12⟩
 have g13:=Qf7 (P:=l.prog) (w:=w) (mg:=mg) (base:=base) (n:=1) F13 (zb.mono (by decide)) ao al ai bj
 have q13:VCal l.prog w K mg base 2 "_law_arrows" ["_law_deal_here","_law_stands","_law_letters"] _:=⟨_,_,g13,b13,k13,Ybt X G a13⟩
 have g14:=Qga (P:=l.prog) (w:=w) (mg:=mg) (base:=base) (n:=0) F14
 have q14:VCal l.prog w K mg base 1 "_law_choices" ["_law_some"] _:=⟨_,_,g14,b14,k14,Ybt X G a14⟩
 have g15:=Qgd (P:=l.prog) (w:=w) (mg:=mg) (base:=base) (n:=0) F15 ci al ai bj
 have q15:VCal l.prog w K mg base 1 "_law_put" ["_law_pairs"] _:=⟨_,_,g15,b15,k15,Ybt X G a15⟩
 have g16:=Qgj (P:=l.prog) (w:=w) (mg:=mg) (base:=base) (n:=1) F16 (q14.mono (by decide)) (q15.mono (by decide)) ay ai bj
 have q16:VCal l.prog w K mg base 2 "_law_all_read" ["_law_arrows_here","_law_stand","_law_w"] _:=⟨_,_,g16,b16,k16,Ybt X G a16⟩
 have g17:=Qc7 (P:=l.prog) (w:=w) (mg:=mg) (base:=base) (n:=6) F17 (q11.mono (by decide)) (zb.mono (by decide)) (q13.mono (by decide)) (q8.mono (by decide)) (q16.mono (by decide)) ao al ay cu
 exact g17.mono (by decide)
theorem walk{l:PySem.W.OpenLaw}{q:Program}{d8:List Str}{XP:(Str->Option Value)->Heap->Prop}{YP:World->Heap->Prop}{d:DefRec}{K:Params->PySem.W.Frag}(hn:l.most=some 63)(ni:d.params.defaults=[])
  (hY:∀(w:World) (h:Heap),YP w h->(K w.params).In h)
  (F:∀(w:World) (mg:Str->Option Value) (fa:Addr) (h:Heap),(K w.params).In h->h.Ns mainGlobals mg->mg d.name=some (.ref fa) ->
   ∃fd:FuncData,(∀(s:Shared) (u:Value),BindsTo s fd ⟨[u],[]⟩ [("_law_script",u)])/\∀base:Heap,(K w.params).In base->base.Ns mainGlobals mg->FnOk l.prog w (K w.params) mg base Gn 65 fa fd ["_law_script"] (Q4 (K w.params))) :
  PySem.W.WalkO q d8 XP YP l.row.toRowW d [] (λf vs=>PySem.call f vs) :=
 L2.walk_of (n:=63) (k:=65) (x := "_law_script") (CX:=λ_=>Gn) (sp:=λw=>Q4 (K w.params)) hn (by decide) ni ⟨rfl,by decide,by decide,rfl⟩ hY F (λ_ _ a ns hl hO hS=>⟨a,ns,rfl,hS,hO,hl,λ_=>rfl⟩) λ_ _ _ _ _ z=>z
end K23
namespace PySem.W.Fast
theorem tw15999827521334467461:True:=trivial
theorem tw14688817271357849183:True:=trivial
theorem tw4442571931809373440:True:=trivial
theorem tw1772675703887917380:True:=trivial
theorem tw9071643466300659433:True:=trivial
theorem tw9359283748513739242:True:=trivial
theorem tw582499923663520163:True:=trivial
theorem tw7336390099897339287:True:=trivial
theorem tw17978022174475316568:True:=trivial
theorem tw7250613348864584497:True:=trivial
theorem tw13592947048531230976:True:=trivial
theorem tw9382984669893138829:True:=trivial
theorem tw8690783182344953833:True:=trivial
theorem tw7136999274799090390:True:=trivial
theorem tw7998416302277173419:True:=trivial
theorem tw5989324261930282200:True:=trivial
theorem tw8278500338062194530:True:=trivial
theorem tw3374138605266093304:True:=trivial
theorem tw3013862502807653214:True:=trivial
theorem tw7415589906281778123:True:=trivial
theorem tw6152733872337519625:True:=trivial
theorem tw14086722986395460680:True:=trivial
theorem tw10687251128536114785:True:=trivial
theorem tw10783737997174743274:True:=trivial
theorem tw11741455963132869732:True:=trivial
theorem tw7842815584373648615:True:=trivial
theorem tw10951114780053934216:True:=trivial
theorem tw11171785566390997706:True:=trivial
theorem tw11370560103389720434:True:=trivial
theorem tw9799050512495032208:True:=trivial
theorem tw14888858582654223860:True:=trivial
theorem tw757031254291931678:True:=trivial
theorem tw7194837759536378641:True:=trivial
theorem tw6599207573224219880:True:=trivial
theorem tw6521815669410688503:True:=trivial
theorem tw4503214678786882305:True:=trivial
theorem tw5074099721836062638:True:=trivial
theorem tw15605837917999551024:True:=trivial
theorem tw17219700319575552979:True:=trivial
theorem tw1921839659060681692:True:=trivial
theorem tw12251824715602370203:True:=trivial
theorem tw9384674428449144072:True:=trivial
end PySem.W.Fast
open PySem PySem.W PyProof.Rows
set_option maxRecDepth 100000 in
set_option maxHeartbeats 0 in
theorem PySem.Challenge.cw_pileduel_k23_readings_holds : PySem.Challenge.rw_pileduel_k23_readings.Holds := by
 w_on;o_law;k_head;(case hw=>w_witness2)
 k_fill
 refine K23.walk (l:=PySem.Challenge.rw_pileduel_k23_readings) rfl rfl (fun w h Y=>PySem.W.kIn_of Y) ?F
 case F =>
  intro w mg fa h KX G hmg
  refine' K23.all_mk KX G hmg ?a1 ?l1 ?c_1 ?k1 ?a2 ?l2 ?c_2 ?k2 ?a3 ?l3 ?c_3 ?k3 ?a4 ?l4 ?c_4 ?k4 ?a5 ?l5 ?c_5 ?k5 ?a6 ?l6 ?c_6 ?k6 ?a7 ?l7 ?c_7 ?k7 ?a8 ?l8 ?c_8 ?k8 ?a9 ?l9 ?c_9 ?k9 ?a10 ?l10 ?c_10 ?k10 ?a11 ?l11 ?c_11 ?k11 ?a12 ?l12 ?c_12 ?k12 ?a13 ?l13 ?c_13 ?k13 ?a14 ?l14 ?c_14 ?k14 ?a15 ?l15 ?c_15 ?k15 ?a16 ?l16 ?c_16 ?k16 ?a17 ?l17 ?c_17 ?k17 ?z_tuple ?z_range ?z_sorted ?z_set ?z_max ?z_list ?z_len ?z_reversed ?z_repr
  (case a1=>k_is)
  (case l1=>k_is)
  (case c_1=>k_is)
  (case k1=>k_is)
  (case a2=>k_is)
  (case l2=>k_is)
  (case c_2=>k_is)
  (case k2=>k_is)
  (case a3=>k_is)
  (case l3=>k_is)
  (case c_3=>k_is)
  (case k3=>k_is)
  (case a4=>k_is)
  (case l4=>k_is)
  (case c_4=>k_is)
  (case k4=>k_is)
  (case a5=>k_is)
  (case l5=>k_is)
  (case c_5=>k_is)
  (case k5=>k_is)
  (case a6=>k_is)
  (case l6=>k_is)
  (case c_6=>k_is)
  (case k6=>k_is)
  (case a7=>k_is)
  (case l7=>k_is)
  (case c_7=>k_is)
  (case k7=>k_is)
  (case a8=>k_is)
  (case l8=>k_is)
  (case c_8=>k_is)
  (case k8=>k_is)
  (case a9=>k_is)
  (case l9=>k_is)
  (case c_9=>k_is)
  (case k9=>k_is)
  (case a10=>k_is)
  (case l10=>k_is)
  (case c_10=>k_is)
  (case k10=>k_is)
  (case a11=>k_is)
  (case l11=>k_is)
  (case c_11=>k_is)
  (case k11=>k_is)
  (case a12=>k_is)
  (case l12=>k_is)
  (case c_12=>k_is)
  (case k12=>k_is)
  (case a13=>k_is)
  (case l13=>k_is)
  (case c_13=>k_is)
  (case k13=>k_is)
  (case a14=>k_is)
  (case l14=>k_is)
  (case c_14=>k_is)
  (case k14=>k_is)
  (case a15=>k_is)
  (case l15=>k_is)
  (case c_15=>k_is)
  (case k15=>k_is)
  (case a16=>k_is)
  (case l16=>k_is)
  (case c_16=>k_is)
  (case k16=>k_is)
  (case a17=>k_is)
  (case l17=>k_is)
  (case c_17=>k_is)
  (case k17=>k_is)
  (case z_tuple=>k_is)
  (case z_range=>k_is)
  (case z_sorted=>k_is)
  (case z_set=>k_is)
  (case z_max=>k_is)
  (case z_list=>k_is)
  (case z_len=>k_is)
  (case z_reversed=>k_is)
  (case z_repr=>k_is)
